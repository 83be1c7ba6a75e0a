import PyProof.Rows.All
import Wide.All
import OpenK.AllK
import Wide.FinOn
import Lean
import PyProof.EqAt
import PyProof.EqKinds
import PyProof.TupleCall
import PyProof.NeKinds
import PyProof.ZipIter
import PyProof.FitsBits
import KE.KRevIter
import KE.KStateDown
import PyProof.Rows.Range3
import PyProof.EnumFor
import PyProof.EnumMake
import PyProof.EnumStmt
import PyProof.Rows.SumAny
import PyProof.ListIndex
import PyProof.ListIndexNeg
import PyProof.WalkInts
import PyProof.Conv_int_bool
import PyProof.SumAny
import KE.KLam
import PyProof.Rows.FactsN_abs
import PyProof.ExcBaseAll.ValueError
import KE.KIsAll
import PyProof.ExcAttrAll.ValueError
import PyProof.Rows.SortRuns
import KE.KSortTup
import KE.KDictList
import KE.KDictOf
import PyProof.AttrMissHeap
import PyProof.DictRoadsH
import PyProof.Seq
import PySem.Challenge.RW_polyring_k08_value_and_slope
set_option Elab.async false
set_option linter.all false
set_option maxRecDepth 100000
set_option maxHeartbeats 4000000
set_option compiler.extract_closed false
set_option genSizeOf false
-- KL: RY QC module here,as He last of QD rows
namespace L2
open PySem PySem.Spec PyProof.Rows
noncomputable abbrev Key:=Sum Int Str
noncomputable def pH:Key → Value → Bool
 | .inl k,v => Value.isInt k v
 | .inr x,v => Value.isStrOf x v
noncomputable def KN (w:World):Key → Int
 | .inl k => hashInt k
 | .inr x => hashStr w x
theorem cP:∀ {k:Key} {v:Value},pH k v = true → (∃ i t,k = Sum.inl i ∧ v = Value.int i t) ∨ (∃ x t,k = Sum.inr x ∧ v = Value.str x t)
 | .inl i,v,h => by
  obtain ⟨t,e⟩:=Value.isInt_shape (k:=i) (v:=v) h
  exact .inl ⟨i,t,rfl,e⟩
 | .inr x,v,h => by
  obtain ⟨t,e⟩:=Value.isStrOf_shape (x:=x) (v:=v) h
  exact .inr ⟨x,t,rfl,e⟩
theorem wW (i:Int) (t:Tok):pH (.inl i) (.int i t) = true:=by simp [pH,Value.isInt]
theorem wX (x:Str) (t:Tok):pH (.inr x) (.str x t) = true:=by simp [pH,Value.isStrOf]
theorem Ee (a b:Int):decide ((Sum.inl a:Key) = Sum.inl b) = (a == b):=by
 by_cases e:a = b
 ·subst e; simp
 ·have h:¬ (Sum.inl a:Key) = Sum.inl b:=fun q => e (Sum.inl.inj q)
  rw [decide_eq_false h]
  exact (beq_eq_false_iff_ne.mpr e).symm
theorem Ef (a b:Str):decide ((Sum.inr a:Key) = Sum.inr b) = decide (a = b):=by
 by_cases e:a = b
 ·subst e; simp
 ·have h:¬ (Sum.inr a:Key) = Sum.inr b:=fun q => e (Sum.inr.inj q)
  rw [decide_eq_false h,decide_eq_false e]
theorem Eg (a:Int) (b:Str):decide ((Sum.inl a:Key) = Sum.inr b) = false:=decide_eq_false (fun q => nomatch q)
theorem Eh (a:Str) (b:Int):decide ((Sum.inr a:Key) = Sum.inl b) = false:=decide_eq_false (fun q => nomatch q)
noncomputable def dm (prog:Program) (w:World):PySem.KeyKind prog w Key where
 is:=pH
 hash:=KN w
 inj:=fun v a b ha hb => by
  rcases cP ha with ⟨i,t,rfl,rfl⟩ | ⟨x,t,rfl,rfl⟩
  ·rcases cP hb with ⟨j,u,rfl,e⟩ | ⟨y,u,rfl,e⟩
   ·injection e with e1 _; rw [e1]
   ·exact nomatch e
  ·rcases cP hb with ⟨j,u,rfl,e⟩ | ⟨y,u,rfl,e⟩
   ·exact nomatch e
   ·injection e with e1 _; rw [e1]
 byValue:=fun k v h => by
  rcases cP h with ⟨i,t,rfl,rfl⟩ | ⟨x,t,rfl,rfl⟩ <;> rfl
 pyHash:=fun hv h => by
  rcases cP hv with ⟨i,t,rfl,rfl⟩ | ⟨x,t,rfl,rfl⟩
  ·exact wpAny_pyHash_int h
  ·exact wpAny_pyHash_str h
 eqBool:=fun hu hv h => by
  rcases cP hu with ⟨i,t,rfl,rfl⟩ | ⟨x,t,rfl,rfl⟩
  ·rcases cP hv with ⟨j,u,rfl,rfl⟩ | ⟨y,u,rfl,rfl⟩
   ·rw [Ee] at h; exact wpAny_eqBool_int h
   ·rw [Eg] at h; exact SeqAt.EqAt.int_str i t y u _ _ _ _ h
  ·rcases cP hv with ⟨j,u,rfl,rfl⟩ | ⟨y,u,rfl,rfl⟩
   ·rw [Eh] at h; exact SeqAt.EqAt.str_int x t j u _ _ _ _ h
   ·rw [Ef] at h; exact wpAny_eqBool_str h
 «strs»:=fun k x t v h => by
  rcases cP h with ⟨i,u,rfl,e⟩ | ⟨y,u,rfl,e⟩
  ·exact nomatch e
  ·injection e with e1 _
   subst e1
   cases v <;> rfl
theorem r9 (prog:Program) (w:World) (i:Int) (t:Tok):(dm prog w).is (.inl i) (.int i t) = true:=wW i t
theorem r_ (prog:Program) (w:World) (x:Str) (t:Tok):(dm prog w).is (.inr x) (.str x t) = true:=wX x t
end L2
namespace L2
open PySem PySem.Spec PyProof.Rows
inductive V where
 | e7 | bl (b:Bool) | int (i:Int) | str (x:Str) | KO (b:Array UInt8) | m5 (b:UInt64) | ref (a:Addr) | ty (n:String)
 deriving DecidableEq
noncomputable def RelV:V → Value → Prop
 | .e7,u => u = Value.none
 | .bl b,u => u = Value.bool b
 | .int i,u => ∃ t,u = Value.int i t
 | .str x,u => ∃ t,u = Value.str x t
 | .KO b,u => ∃ t,u = Value.bytes b t
 | .m5 b,u => ∃ t,u = Value.float b t
 | .ref a,u => u = Value.ref a
 | .ty n,u => u = Value.type n
noncomputable abbrev Vals:List V → List Value → Prop:=Paired RelV
theorem Vals.length {xs:List V} {us:List Value} (r:Vals xs us):xs.length = us.length:=Paired.length r
theorem Vals.get:∀ {xs:List V} {us:List Value} {i:Nat} {x:V},Vals xs us → xs[i]? = some x → ∃ u,us[i]? = some u ∧ RelV x u
 | _,_,_,_,.nil,e => by simp at e
 | _,_,0,_,.cons r _,e => by simp at e; subst e; exact ⟨_,rfl,r⟩
 | _,_,i + 1,x,.cons _ t,e => by
  obtain ⟨u,h1,h2⟩:=Vals.get (i:=i) (x:=x) t (by simpa using e)
  exact ⟨u,by simpa using h1,h2⟩
theorem Vals.set {x:V} {u:Value} (r:RelV x u):∀ {xs:List V} {us:List Value} (i:Nat),Vals xs us → Vals (xs.set i x) (us.set i u)
 | _,_,_,.nil => .nil
 | _,_,0,.cons _ t => .cons r t
 | _,_,i + 1,.cons q t => .cons q (Vals.set r i t)
theorem Vals.append:∀ {xs ys:List V} {us ws:List Value},Vals xs us → Vals ys ws → Vals (xs ++ ys) (us ++ ws)
 | _,_,_,_,.nil,s => s
 | _,_,_,_,.cons r t,s => .cons r (Vals.append t s)
theorem Vals.take:∀ {xs:List V} {us:List Value} (n:Nat),Vals xs us → Vals (xs.take n) (us.take n)
 | _,_,0,_ => .nil
 | _,_,_ + 1,.nil => .nil
 | _,_,n + 1,.cons r t => .cons r (Vals.take n t)
theorem Vals.drop:∀ {xs:List V} {us:List Value} (n:Nat),Vals xs us → Vals (xs.drop n) (us.drop n)
 | _,_,0,r => r
 | _,_,_ + 1,.nil => .nil
 | _,_,n + 1,.cons _ t => Vals.drop n t
noncomputable def kG:Option V → Option Value → Prop
 | some v,some u => RelV v u
 | none,none => True
 | _,_ => False
noncomputable def KV {κ:Type}:List (κ × V) → List (κ × Value) → Prop:=Paired fun (p:κ × V) (q:κ × Value) => p.1 = q.1 ∧ RelV p.2 q.2
noncomputable def kV:Key → V
 | .inl i => .int i
 | .inr x => .str x
inductive HO where
  | lst (xs:List V)
  | tup (xs:List V)
  | dK (aO:List (Key × V)) | dT (aO:List (List Key × V))
  | set (S:Int → Bool) (n:Nat)
  | ins (C dx:Addr) (fs:List (Str × V))
  | own (x:Addr)
  | xd (fs:List (Str × V))
  | met (f x:Addr)
  | JX (lo hi:Int)
  | fN (o:Obj) (u:HO)
  | oY (ps:Array Value)
  | ext (φ:Heap → Prop)
noncomputable abbrev Hp:=Addr → Option HO
noncomputable def upd (H:Hp) (a:Addr) (o:HO):Hp:=fun b => if b = a then some o else H b
theorem bh {H:Hp} {a:Addr} {o:HO}:upd H a o a = some o:=by unfold upd; rw [if_pos rfl]
theorem aH {H:Hp} {a b:Addr} {o:HO} (h:b ≠ a):upd H a o b = H b:=by unfold upd; rw [if_neg h]
theorem Hf {H:Hp} {a b:Addr} {o u:HO} (h:H a = some o) (h':H b = some u) (d:o ≠ u):a ≠ b:=by
 intro e; subst e; rw [h] at h'; exact d (Option.some.inj h')
theorem bo {H:Hp} {a b:Addr} {o:HO} (h:H a = some o) (h':H b = none):a ≠ b:=by
 intro e; subst e; rw [h] at h'; cases h'
section
variable (P:Program) (w:World)
noncomputable def b7 (H:Hp) (h:Heap) (a:Addr):HO → Prop
 | .lst xs => xs.length ≤ sizeLine ∧ ∃ (aL:List Value) (n:Nat),Vals xs aL ∧ h.get? a = some { cls:=.type "list",data:=.seq aL.toArray n }
 | .tup xs => xs.length ≤ sizeLine ∧ ∃ aL:List Value,Vals xs aL ∧ IsTup h a aL.toArray
 | .dK aO => aO.length ≤ sizeLine ∧ (a == sysModules) = false ∧ ∃ vs,KV aO vs ∧ h.DictOf (dm P w) a vs
 | .dT aO => aO.length ≤ sizeLine ∧ (a == sysModules) = false ∧ ∃ xs:List (List Key × Addr × Value),
   Paired (fun (p:List Key × V) (q:List Key × Addr × Value) => p.1 = q.1 ∧ H q.2.1 = some (.tup (p.1.map kV)) ∧ RelV p.2 q.2.2) aO xs ∧
   ∃ o es ep,h.get? a = some o ∧ o.ExactDict ∧ o.data = .dict es ep ∧ es.toList = xs.map (entryOfKey (tupleKind (dm P w))) ∧ (xs.map (·.1)).Nodup
 | .set S n => h.SetOf (intKind P w) a S n
 | .ins C dx fs => H dx = some (.own a) ∧ fs.length ≤ 1000 ∧ dx ≠ a ∧ h.get? a = some (PySem.W.instObj C dx) ∧
   ∃ mA,h.Ns1 dx mA ∧ (∀ f,kG (fs.lookup f) (mA f)) ∧ PySem.Within mA (fs.map (·.1))
 | .own _ => ∃ o,h.get? a = some o
 | .xd fs => ∃ mA,h.Ns1 a mA ∧ ∀ f,kG (fs.lookup f) (mA f)
 | .JX lo hi => ∃ t u v,h.get? a = some { cls:=.type "range",data:=.fields #[.int lo t,.int hi u,.int 1 v] }
 | .fN o u => h.get? a = some o ∧ b7 H h a u
 | .oY ps => h.get? a = some { cls:=.none,data:=.fields ps }
 | .met f x => h.get? a = some (PySem.W.methodObj (.ref f) (.ref x))
 | .ext φ => φ h ∧ (∃ o,h.get? a = some o) ∧ ∀ h1 h2:Heap,φ h1 → (∀ o,h1.get? a = some o → h2.get? a = some o) → φ h2
noncomputable def gv (H:Hp) (h:Heap):Prop:=∀ a o,H a = some o → b7 P w H h a o
end
section
variable {P:Program} {w:World} {H H':Hp} {h h':Heap} {a:Addr} {o:HO}
theorem b7.lt (x:b7 P w H h a o):a < h.objs.size:=by
 cases o with
 | lst xs => obtain ⟨_,_,_,_,e⟩:=x; exact Heap.lt_size e
 | tup xs => obtain ⟨_,_,_,p⟩:=x; exact p.lt
 | dK aO => obtain ⟨_,_,_,_,o,_,_,e,_⟩:=x; exact Heap.lt_size e
 | dT aO => obtain ⟨_,_,_,_,o,_,_,e,_⟩:=x; exact Heap.lt_size e
 | set S n => obtain ⟨o,_,_,_,e,_⟩:=x; exact Heap.lt_size e
 | ins C dx fs => obtain ⟨_,_,_,e,_⟩:=x; exact Heap.lt_size e
 | own y => obtain ⟨_,e⟩:=x; exact Heap.lt_size e
 | xd fs => obtain ⟨_,⟨_,_,_,e,_⟩,_⟩:=x; exact Heap.lt_size e
 | JX lo hi => obtain ⟨_,_,_,e⟩:=x; exact Heap.lt_size e
 | fN ob u => obtain ⟨e,_⟩:=x; exact Heap.lt_size e
 | oY ps => exact Heap.lt_size (show h.get? a = some _ from x)
 | met f y => exact Heap.lt_size (show h.get? a = some _ from x)
 | ext φ => obtain ⟨_,⟨_,e⟩,_⟩:=x; exact Heap.lt_size e
theorem Paired.Ei {α β:Type} {F G:α → β → Prop}:∀ {l₁:List α} {l₂:List β},Paired F l₁ l₂ → (∀ a b,F a b → G a b) → Paired G l₁ l₂
 | _,_,.nil,_ => .nil
 | _,_,.cons r t,f => .cons (f _ _ r) (Paired.Ei t f)
theorem b7.jM (x:b7 P w H h a o) (k:∀ b u,(b = a ∨ H b = some (.own a)) → h.get? b = some u → h'.get? b = some u)
  (ho:∀ b,H b = some (.own a) → H' b = some (.own a)) (ht:∀ b xs,H b = some (.tup xs) → H' b = some (.tup xs)):b7 P w H' h' a o:=by
 induction o with
 | lst xs => obtain ⟨z,aL,n,r,e⟩:=x; exact ⟨z,aL,n,r,k _ _ (.inl rfl) e⟩
 | tup xs => obtain ⟨z,aL,r,ob,e,c⟩:=x; exact ⟨z,aL,r,ob,k _ _ (.inl rfl) e,c⟩
 | dK aO => obtain ⟨z,y,vs,r,ob,es,ep,e,c⟩:=x; exact ⟨z,y,vs,r,ob,es,ep,k _ _ (.inl rfl) e,c⟩
 | dT aO =>
  obtain ⟨z,y,xs,r,ob,es,ep,e,c⟩:=x
  exact ⟨z,y,xs,Paired.Ei r fun p q z => ⟨z.1,ht _ _ z.2.1,z.2.2⟩,ob,es,ep,k _ _ (.inl rfl) e,c⟩
 | set S n => obtain ⟨ob,es,ep,t,e,c⟩:=x; exact ⟨ob,es,ep,t,k _ _ (.inl rfl) e,c⟩
 | ins C dx fs =>
  obtain ⟨d,z,ne,e,mA,⟨od,es,ep,e2,c⟩,r⟩:=x
  exact ⟨ho _ d,z,ne,k _ _ (.inl rfl) e,mA,⟨od,es,ep,k _ _ (.inr d) e2,c⟩,r⟩
 | own y => obtain ⟨ob,e⟩:=x; exact ⟨ob,k _ _ (.inl rfl) e⟩
 | xd fs => obtain ⟨mA,⟨od,es,ep,e,c⟩,r⟩:=x; exact ⟨mA,⟨od,es,ep,k _ _ (.inl rfl) e,c⟩,r⟩
 | JX lo hi => obtain ⟨t,u,v,e⟩:=x; exact ⟨t,u,v,k _ _ (.inl rfl) e⟩
 | fN ob u ih => obtain ⟨e,q⟩:=x; exact ⟨k _ _ (.inl rfl) e,ih q⟩
 | oY ps =>
  have e:h.get? a = some { cls:=.none,data:=.fields ps }:=x
  show h'.get? a = some { cls:=.none,data:=.fields ps }
  exact k a _ (.inl rfl) e
 | met f y =>
  have e:h.get? a = some (PySem.W.methodObj (.ref f) (.ref y)):=x
  show h'.get? a = some (PySem.W.methodObj (.ref f) (.ref y))
  exact k a _ (.inl rfl) e
 | ext φ => obtain ⟨p,⟨o,e⟩,st⟩:=x; exact ⟨st _ _ p fun o q => k _ _ (.inl rfl) q,⟨o,k _ _ (.inl rfl) e⟩,st⟩
theorem gv.lt (x:gv P w H h) (e:H a = some o):a < h.objs.size:=(x a o e).lt
theorem gv.fresh (x:gv P w H h) (e:h.objs.size ≤ a):H a = none:=by
 cases q:H a with
 | none => rfl
 | some u => exact absurd (Nat.lt_of_lt_of_le (x.lt q) e) (Nat.lt_irrefl _)
theorem gv.kept (x:gv P w H h) (k:∀ b u,h.get? b = some u → h'.get? b = some u):gv P w H h':=fun a o e =>
 (x a o e).jM (fun b u _ q => k b u q) (fun _ q => q) fun _ _ q => q
theorem gv.laid (x:gv P w H h) (k:∀ b u,h.get? b = some u → h'.get? b = some u) (hp:h.objs.size ≤ a) (new:b7 P w (upd H a o) h' a o):gv P w (upd H a o) h':=fun b u e => by
 have hn:=x.fresh hp
 by_cases hb:b = a
 ·subst hb; rw [bh] at e; cases e; exact new
 ·rw [aH hb] at e
  exact (x b u e).jM (fun c v _ q => k c v q) (fun c q => by rw [aH (bo q hn)]; exact q) fun c xs q => by rw [aH (bo q hn)]; exact q
end
noncomputable def Rd (H:Hp) (a:Addr) (u:HO):Prop:=H a = some u ∨ ∃ o,H a = some (.fN o u)
theorem Rd.ok {P:Program} {w:World} {H:Hp} {h:Heap} {a:Addr} {u:HO} (r:Rd H a u) (x:gv P w H h):b7 P w H h a u:=by
 rcases r with r | ⟨o,r⟩
 ·exact x a u r
 ·obtain ⟨_,q⟩:=x a _ r
  exact q
noncomputable def Hg:Option HO → Prop
 | some (.lst _) => True
 | some (.dK _) => True
 | some (.dT _) => True
 | some (.set _ _) => True
 | some (.ins _ _ _) => True
 | some (.ext _) => True
 | _ => False
section
variable {P:Program} {w:World} {H:Hp} {h h':Heap} {x e:Addr} {o':HO}
theorem gv.write (ok:gv P w H h) (mu:Hg (H x)) (he:e = x ∨ H e = some (.own x)) (k:∀ b u,b ≠ e → h.get? b = some u → h'.get? b = some u) (GU:∃ u,h'.get? e = some u)
  (new:b7 P w (upd H x o') h' x o'):gv P w (upd H x o') h':=fun b u q => by
 have Hh:∀ c y,H c = some (.own y) → c ≠ x:=fun c y r z => by subst z; rw [r] at mu; exact mu
 have KP:∀ c xs,H c = some (.tup xs) → c ≠ x:=fun c xs r z => by subst z; rw [r] at mu; exact mu
 by_cases hb:b = x
 ·subst hb; rw [bh] at q; cases q; exact new
 ·rw [aH hb] at q
  by_cases Ej:b = e
  ·have q':H b = some (.own x):=by
    rcases he with z | z
    ·exact absurd (Ej.trans z) hb
    ·rw [Ej]; exact z
   rw [q] at q'; cases q'
   obtain ⟨v,hv⟩:=GU
   exact ⟨v,by rw [Ej]; exact hv⟩
  ·refine (ok b u q).jM (fun c v hc r => k c v ?_ r) (fun c r => by rw [aH (Hh c b r)]; exact r) fun c xs r => by rw [aH (KP c xs r)]; exact r
   rcases hc with rfl | hc
   ·exact Ej
   ·rintro rfl
    rcases he with z | z
    ·exact Hh c b hc z
    ·rw [hc] at z; cases z; exact hb rfl
end
structure Un (fs ex:List Addr) (H H':Hp) (h h':Heap):Prop where
 keep:∀ b o,h.get? b = some o → H b = none → b ∉ fs → b ∉ ex → h'.get? b = some o
 slot:∀ b o,h.get? b = some o → H b = none → b ∈ fs → b ∉ ex → ∃ sl,h'.get? b = some { o with slots:=sl }
 free:∀ b o,h.get? b = some o → H b = none → b ∉ ex → H' b = none
 there:∀ b o,h.get? b = some o → b ∉ ex → ∃ o',h'.get? b = some o'
 jv:∀ b xs,H b = some (.tup xs) → H' b = some (.tup xs)
 iF:∀ b o u,H b = some (.fN o u) → H' b = some (.fN o u)
 jw:∀ b ps,H b = some (.oY ps) → ∃ more,H' b = some (.oY (ps ++ more))
section
variable {fs RZ ex Vu:List Addr} {H H1 H2:Hp} {h h1 h2 h':Heap} {a x e:Addr} {o:HO}
theorem Un.any (u:Un fs ex H H1 h h1) {b:Addr} {ob:Obj} (q:h.get? b = some ob) (n:H b = none) (hx:b ∉ ex):∃ sl,h1.get? b = some { ob with slots:=sl }:=by
 by_cases hb:b ∈ fs
 ·exact u.slot b ob q n hb hx
 ·exact ⟨ob.slots,u.keep b ob q n hb hx⟩
theorem Un.kept (k:∀ b u,h.get? b = some u → h'.get? b = some u):Un fs ex H H h h' :=
 ⟨fun b ob q _ _ _ => k b ob q,fun b ob q _ _ _ => ⟨ob.slots,k b ob q⟩,fun _ _ _ n _ => n,fun b ob q _ => ⟨ob,k b ob q⟩,fun _ _ q => q,fun _ _ _ q => q,fun _ ps q => ⟨#[],by rw [q]; simp⟩⟩
theorem Un.refl:Un fs ex H H h h:=Un.kept fun _ _ q => q
theorem Un.laid (k:∀ b u,h.get? b = some u → h'.get? b = some u) (hp:h.objs.size ≤ a) (hn:H a = none):Un fs ex H (upd H a o) h h' where
 keep:=fun b u q _ _ _ => k b u q
 slot:=fun b u q _ _ _ => ⟨u.slots,k b u q⟩
 free:=fun b u q n _ => by rw [aH (Nat.ne_of_lt (Nat.lt_of_lt_of_le (Heap.lt_size q) hp))]; exact n
 there:=fun b u q _ => ⟨u,k b u q⟩
 jv:=fun b xs q => by rw [aH (bo q hn)]; exact q
 iF:=fun b u xs q => by rw [aH (bo q hn)]; exact q
 jw:=fun b ps q => ⟨#[],by rw [aH (bo q hn),q]; simp⟩
theorem Un.write (mu:Hg (H x)) (he:e = x ∨ H e = some (.own x)) (k:∀ b u,b ≠ e → h.get? b = some u → h'.get? b = some u) (GU:∃ u,h'.get? e = some u):Un fs ex H (upd H x o) h h':=by
 have hx:∀ b,H b = none → b ≠ x:=fun b n z => by subst z; rw [n] at mu; exact mu
 have hb:∀ b,H b = none → b ≠ e:=fun b n z => by
  subst z
  rcases he with r | r
  ·exact hx b n r
  ·rw [n] at r; cases r
 have hm:∀ b u,H b = some u → ¬ Hg (some u) → b ≠ x:=fun b u q nm z => by subst z; rw [q] at mu; exact nm mu
 refine ⟨fun b u q n _ _ => k b u (hb b n) q,fun b u q n _ _ => ⟨u.slots,k b u (hb b n) q⟩,fun b u q n _ => by rw [aH (hx b n)]; exact n,fun b u q _ => ?_,
  fun b xs q => by rw [aH (hm b _ q fun z => z)]; exact q,fun b u xs q => by rw [aH (hm b _ q fun z => z)]; exact q,fun b ps q => ⟨#[],by rw [aH (hm b _ q fun z => z),q]; simp⟩⟩
 by_cases Ej:b = e
 ·subst Ej; exact GU
 ·exact ⟨u,k b u Ej q⟩
end
noncomputable def vG (h:Heap) (H:Hp):List Addr:=(List.range h.objs.size).filter fun a => (H a).isSome
noncomputable def oZ (h:Heap) (H:Hp):Heap:=PySem.W.hideAll h (vG h H)
theorem wY (h:Heap) (H:Hp):(oZ h H).objs.size = h.objs.size:=PySem.W.hideAll_size _ _
theorem yA {h:Heap} {H:Hp} {b:Addr} {o:Obj} (e:h.get? b = some o) (n:H b = none):(oZ h H).get? b = some o :=
 PySem.W.hideAll_get _ e fun hm => by
  have q:(H b).isSome = true:=(List.mem_filter.mp hm).2
  rw [n] at q; simp at q
theorem Bx {h:Heap} {H:Hp} {b:Addr} {o:Obj} (e:(oZ h H).get? b = some o):h.get? b = some o ∧ H b = none:=by
 have e':h.get? b = some o:=PySem.W.of_hideAll (vG h H) e
 refine ⟨e',?_⟩
 cases q:H b with
 | none => rfl
 | some x =>
  have hm:b ∈ vG h H:=List.mem_filter.mpr ⟨List.mem_range.mpr (Heap.lt_size e'),by simp [q]⟩
  have z:(oZ h H).get? b = none:=PySem.W.hideAll_none (vG h H) hm
  rw [z] at e; cases e
end L2
namespace L2
open PySem PySem.Spec PyProof.Rows
structure Mod (K:PySem.W.Frag) (mg:Str → Option Value) (base:Heap):Prop where
 GV:K.In base
 glob:base.Ns mainGlobals mg
 blt:∃ mb,base.Ns builtinsNs mb ∧ ∀ x:Str,x ≠ "__name__" → mb x = bootBuiltins x
 nolimit:base.NoLimit
structure Cx where
 prog:Program
 w:World
 K:PySem.W.Frag
 mg:Str → Option Value
 base:Heap
 A:Around
 N:List Str
 s₀:Shared
 H₀:Hp
 env:Env
 outer:List Env
 stack:List Env
 ex:List Addr
 fn:Str → Bool
 calm:Bool
 pn:List (Addr × Obj)
 xe:Value → Shared → Prop
noncomputable def gx (l:List Env):List Addr:=l.filterMap (·.frame)
noncomputable abbrev Cx.fs (X:Cx):List Addr:=gx X.outer
noncomputable def JY (sc:Scope) (x:Str):Prop:=sc.names.lookup x = some .local ∨ sc.names.lookup x = some .cell ∨ sc.names.lookup x = some .free
noncomputable def Loc (sc:Scope) (x:Str):Prop:=sc.names.lookup x = some .local ∨ sc.names.lookup x = some .cell
noncomputable def Look (env:Env) (h:Heap) (m:Str → Option Value) (x:Str) (u:Value):Prop :=
 (env.kindOf x = some .local ∧ m x = some u) ∨ ((env.kindOf x = some .cell ∨ env.kindOf x = some .free) ∧ ∃ c,env.cells.lookup x = some c ∧ h.IsCell c (some u))
structure Cx.Ok (X:Cx):Prop where
 mod:Mod X.K X.mg X.base
 kind:X.env.scope.kind = .function
 glob:X.env.globals = mainGlobals
 blt:X.env.builtins = builtinsNs
 above:X.s₀.heap.objs.size ≤ X.env.locals
 inj:∀ x y c,X.env.cells.lookup x = some c → X.env.cells.lookup y = some c → x = y
 has:∀ x,(X.env.kindOf x = some .cell ∨ X.env.kindOf x = some .free) → ∃ c,X.env.cells.lookup x = some c
 Ek:∀ x c,X.fn x = true → X.env.cells.lookup x = some c → X.s₀.heap.objs.size ≤ c
 hd:X.calm = true → X.A.handled = none
 frames:X.A.frames = some X.stack
 QE:X.stack = X.outer ∨ (X.stack = X.env :: X.outer ∧ X.env.frame = some X.env.locals)
 Vv:∀ b ∈ X.ex,b ≠ X.env.locals ∧ ∀ x c,X.env.cells.lookup x = some c → c ≠ b
 bs:∀ b o,X.base.get? b = some o → X.s₀.heap.get? b = some o ∧ X.H₀ b = none
 DC:X.base.objs.size ≤ X.s₀.heap.objs.size
 By:∀ b o,X.base.get? b = some o → b ∉ X.ex
 Hi:∀ b ∈ X.ex,b ∉ X.fs
 mB:X.s₀.heap.FunFrames X.base X.outer
 Bz:∀ b ∈ X.fs,X.H₀ b = none
structure Inv (X:Cx) (pins:List (Addr × Obj)) (σ:List (Option V)) (H:Hp) (s:Shared):Prop where
 ok:X.Ok
 os:s.os = X.s₀.os
 bare:AllBare s.gens
 base:Un X.fs X.ex X.H₀ H X.s₀.heap s.heap
 loc:∃ m,s.heap.Ns X.env.locals m ∧ ∀ (i:Nat) (x:Str) (v:V),X.N[i]? = some x → σ[i]? = some (some v) → JY X.env.scope x → ∃ u,RelV v u ∧ Look X.env s.heap m x u
 cell:∀ x c,X.env.cells.lookup x = some c → ∃ v,s.heap.IsCell c v
 free:H X.env.locals = none
 jN:∀ x c,X.env.cells.lookup x = some c → H c = none
 pin:∀ p ∈ X.pn ++ pins,s.heap.get? p.1 = some p.2 ∧ H p.1 = none ∧ p.1 ≠ X.env.locals ∧ p.1 ∉ X.fs ∧ ∀ v,p.2.data ≠ .cell v
 bP:gv X.prog X.w H s.heap
 len:σ.length = X.N.length
section
variable {X:Cx} {pins:List (Addr × Obj)} {σ:List (Option V)} {H H':Hp} {s:Shared} {h':Heap}
theorem Cx.Ok.KQ (ok:X.Ok) {b:Addr} {o:Obj} (e:X.base.get? b = some o):b ∉ X.fs:=fun hb => by
 have:=(ok.mB.mem hb).1
 rw [e] at this; cases this
theorem Inv.bs (I:Inv X pins σ H s):∀ b o,X.base.get? b = some o → s.heap.get? b = some o ∧ H b = none:=fun b o e =>
 ⟨I.base.keep b o (I.ok.bs b o e).1 (I.ok.bs b o e).2 (I.ok.KQ e) (I.ok.By b o e),I.base.free b o (I.ok.bs b o e).1 (I.ok.bs b o e).2 (I.ok.By b o e)⟩
theorem Inv.bk (I:Inv X pins σ H s):∀ b o,X.base.get? b = some o → s.heap.get? b = some o:=fun b o e => (I.bs b o e).1
theorem Inv.mod (I:Inv X pins σ H s):Mod X.K X.mg X.base:=I.ok.mod
theorem Inv.pI (I:Inv X pins σ H s):X.K.In s.heap:=I.ok.mod.GV.keeps I.bk
theorem Inv.lt (I:Inv X pins σ H s):X.env.locals < s.heap.objs.size:=let ⟨_,hn,_⟩:=I.loc; hn.lt
theorem Inv.sz (I:Inv X pins σ H s):X.s₀.heap.objs.size ≤ s.heap.objs.size:=Nat.le_trans I.ok.above (Nat.le_of_lt I.lt)
theorem Inv.KR (I:Inv X pins σ H s) {a:Addr} (h:s.heap.objs.size ≤ a):a ∉ X.fs:=fun hb => by
 obtain ⟨_,o,ho,_⟩:=I.ok.mB.mem hb
 exact absurd (Nat.lt_of_lt_of_le (Heap.lt_size ho) (Nat.le_trans I.sz h)) (Nat.lt_irrefl _)
theorem Inv.DD (I:Inv X pins σ H s):∀ x c,X.env.cells.lookup x = some c → c ≠ X.env.locals:=fun x c e z => by
 obtain ⟨v,o,ho,hd⟩:=I.cell x c e
 obtain ⟨m,⟨o',es,ep,nv,KS,_⟩,_⟩:=I.loc
 rw [z,nv] at ho; cases ho; rw [KS] at hd; cases hd
theorem Inv.mB (I:Inv X pins σ H s):s.heap.FunFrames X.base X.outer:=by
 have all:∀ (l:List Env),(∀ b ∈ gx l,b ∈ X.fs) → X.s₀.heap.FunFrames X.base l → s.heap.FunFrames X.base l:=by
  intro l
  induction l with
  | nil => intro _ _; trivial
  | cons env r ih =>
   intro hs hl
   obtain ⟨hk,⟨L,o,hf,hn,ho,hd⟩,hr⟩:=hl
   have hL:L ∈ X.fs:=hs L (by unfold gx; rw [List.filterMap_cons,hf]; exact List.mem_cons_self)
   obtain ⟨sl,e⟩:=I.base.slot L o ho (I.ok.Bz L hL) hL fun z => I.ok.Hi L z hL
   exact ⟨hk,⟨L,_,hf,hn,e,hd⟩,ih (fun b hb => hs b (by unfold gx; rw [List.filterMap_cons,hf]; exact List.mem_cons_of_mem _ hb)) hr⟩
 exact all X.outer (fun _ hb => hb) I.ok.mB
theorem Inv.stack (I:Inv X pins σ H s):s.heap.FunFrames X.base X.stack:=by
 rcases I.ok.QE with e | ⟨e,hf⟩
 ·rw [e]; exact I.mB
 ·rw [e]
  obtain ⟨m,hn,_⟩:=I.loc
  refine .cons (by rw [I.ok.kind]; decide) hf hn ?_ I.mB
  exact Heap.get?_none_of_le (Nat.le_trans I.ok.DC I.ok.above)
theorem Inv.ny (I:Inv X pins σ H s):∀ b ∈ gx X.stack,b ∈ X.env.locals :: X.fs:=fun b hb => by
 rcases I.ok.QE with e | ⟨e,hf⟩
 ·rw [e] at hb; exact List.mem_cons_of_mem _ hb
 ·rw [e] at hb
  unfold gx at hb
  rw [List.filterMap_cons,hf] at hb
  exact hb
theorem Inv.qE (I:Inv X pins σ H s):∀ b ∈ gx X.stack,H b = none:=fun b hb => by
 rcases List.mem_cons.mp (I.ny b hb) with e | hb
 ·rw [e]; exact I.free
 ·obtain ⟨_,o,ho,_⟩:=I.ok.mB.mem hb
  exact I.base.free b o ho (I.ok.Bz b hb) fun z => I.ok.Hi b z hb
theorem Inv.step {g':Array GenState} {t':Nat} {d':Drawn} {ch:List Addr} (I:Inv X pins σ H s)
  (Br:∀ b ∈ ch,(b ∈ X.ex ∨ X.s₀.heap.objs.size ≤ b) ∧ b ≠ X.env.locals ∧ (∀ x c,X.env.cells.lookup x = some c → c ≠ b) ∧ ∀ p ∈ X.pn ++ pins,p.1 ≠ b)
  (keep:∀ b o,b ≠ X.env.locals → b ∉ X.fs → b ∉ ch → s.heap.get? b = some o → H b = none → h'.get? b = some o)
  (slot:∀ b o,b ≠ X.env.locals → b ∈ X.fs → b ∉ ch → s.heap.get? b = some o → H b = none → ∃ sl,h'.get? b = some { o with slots:=sl }) (free:∀ b o,b ∉ ch → s.heap.get? b = some o → H b = none → H' b = none)
  (there:∀ b o,b ∉ ch → s.heap.get? b = some o → ∃ o',h'.get? b = some o')
  (jv:∀ b xs,H b = some (.tup xs) → H' b = some (.tup xs)) (iF:∀ b o u,H b = some (.fN o u) → H' b = some (.fN o u)) (jw:∀ b ps,H b = some (.oY ps) → ∃ more,H' b = some (.oY (ps ++ more)))
  (ns:∀ m,s.heap.Ns X.env.locals m → h'.Ns X.env.locals m) (bP:gv X.prog X.w H' h') (hg:AllBare g') :
  Inv X pins σ H' { s with heap:=h',gens:=g',drawn:=d',toks:=t' }:=by
 have QF:∀ b o,X.s₀.heap.get? b = some o → b ≠ X.env.locals:=fun b o e => Nat.ne_of_lt (Nat.lt_of_lt_of_le (Heap.lt_size e) I.ok.above)
 have JZ:∀ b o,X.s₀.heap.get? b = some o → b ∉ X.ex → b ∉ ch:=fun b o e hx hb => by
  rcases (Br b hb).1 with z | z
  ·exact hx z
  ·exact absurd (Nat.lt_of_lt_of_le (Heap.lt_size e) z) (Nat.lt_irrefl _)
 have cellK:∀ x c,X.env.cells.lookup x = some c → ∀ v,s.heap.IsCell c v → h'.IsCell c v:=fun x c e v ⟨o,ho,hd⟩ => by
  have Hj:c ∉ ch:=fun z => (Br c z).2.2.1 x c e rfl
  by_cases hc:c ∈ X.fs
  ·obtain ⟨sl,q⟩:=slot c o (I.DD x c e) hc Hj ho (I.jN x c e)
   exact ⟨_,q,hd⟩
  ·exact ⟨o,keep c o (I.DD x c e) hc Hj ho (I.jN x c e),hd⟩
 refine ⟨I.ok,I.os,hg,⟨fun b o e n hb hx => ?_,fun b o e n hb hx => ?_,fun b o e n hx => ?_,fun b o e hx => ?_,fun b xs e => jv b xs (I.base.jv b xs e),fun b o xs e => iF b o xs (I.base.iF b o xs e),fun b ps e => ?_⟩,?_,fun x c e => ?_,?_,fun x c e => ?_,fun p hp => ?_,bP,I.len⟩
 ·exact keep b o (QF b o e) hb (JZ b o e hx) (I.base.keep b o e n hb hx) (I.base.free b o e n hx)
 ·obtain ⟨sl,e1⟩:=I.base.slot b o e n hb hx
  obtain ⟨Hk,e2⟩:=slot b _ (QF b o e) hb (JZ b o e hx) e1 (I.base.free b o e n hx)
  exact ⟨Hk,e2⟩
 ·obtain ⟨o',e1⟩:=I.base.there b o e hx
  exact free b o' (JZ b o e hx) e1 (I.base.free b o e n hx)
 ·obtain ⟨o',e1⟩:=I.base.there b o e hx
  exact there b o' (JZ b o e hx) e1
 ·obtain ⟨m1,e1⟩:=I.base.jw b ps e
  obtain ⟨m2,e2⟩:=jw b _ e1
  exact ⟨m1 ++ m2,by rw [e2,Array.append_assoc]⟩
 ·obtain ⟨m,hn,hl⟩:=I.loc
  refine ⟨m,ns m hn,fun i x v e1 e2 e3 => ?_⟩
  obtain ⟨u,r,l⟩:=hl i x v e1 e2 e3
  refine ⟨u,r,?_⟩
  rcases l with l | ⟨k,c,e,z⟩
  ·exact .inl l
  ·exact .inr ⟨k,c,e,cellK x c e _ z⟩
 ·obtain ⟨v,z⟩:=I.cell x c e
  exact ⟨v,cellK x c e v z⟩
 ·obtain ⟨m,⟨o,_,_,ho,_⟩,_⟩:=I.loc
  exact free _ o (fun z => (Br _ z).2.1 rfl) ho I.free
 ·obtain ⟨v,o,ho,hd⟩:=I.cell x c e
  exact free c o (fun z => (Br c z).2.2.1 x c e rfl) ho (I.jN x c e)
 ·obtain ⟨e,n,ne,nf,d⟩:=I.pin p hp
  have Hj:p.1 ∉ ch:=fun z => (Br p.1 z).2.2.2 p hp rfl
  exact ⟨keep p.1 p.2 ne nf Hj e n,free p.1 p.2 Hj e n,ne,nf,d⟩
theorem Inv.un {t':Nat} (I:Inv X pins σ H s) (u:Un X.fs [] H H' s.heap h') (bP:gv X.prog X.w H' h'):Inv X pins σ H' { s with heap:=h',toks:=t' }:=by
 obtain ⟨m,⟨o,es,ep,ho,r⟩,_⟩:=id I.loc
 obtain ⟨sl,hL⟩:=u.any ho I.free (by simp)
 exact I.step (g':=s.gens) (d':=s.drawn) (ch:=[]) (fun _ z => nomatch z) (fun b o _ hb _ e n => u.keep b o e n hb (by simp)) (fun b o _ hb _ e n => u.slot b o e n hb (by simp)) (fun b o _ e n => u.free b o e n (by simp)) (fun b o _ e => u.there b o e (by simp)) u.jv u.iF u.jw (fun m' hm => by
  obtain ⟨o',KU,KW,nv,r'⟩:=hm
  rw [ho] at nv; cases nv
  exact ⟨_,KU,KW,hL,r'⟩) bP I.bare
theorem Inv.call {g':Array GenState} {t':Nat} {d':Drawn} {ch:List Addr} (I:Inv X pins σ H s) (u:Un (gx X.stack) ch H H' s.heap h') (bP:gv X.prog X.w H' h') (hg:AllBare g')
  (Br:∀ b ∈ ch,(b ∈ X.ex ∨ X.s₀.heap.objs.size ≤ b) ∧ b ≠ X.env.locals ∧ (∀ x c,X.env.cells.lookup x = some c → c ≠ b) ∧ ∀ p ∈ X.pn ++ pins,p.1 ≠ b) :
  Inv X pins σ H' { s with heap:=h',gens:=g',drawn:=d',toks:=t' }:=by
 obtain ⟨m,⟨o,es,ep,ho,r⟩,_⟩:=id I.loc
 obtain ⟨sl,hL⟩:=u.any ho I.free fun z => (Br _ z).2.1 rfl
 exact I.step (ch:=ch) Br (fun b o hL hb hc e n => u.keep b o e n (fun z => (List.mem_cons.mp (I.ny b z)).elim hL hb) hc) (fun b o _ _ hc e n => u.any e n hc) (fun b o hc e n => u.free b o e n hc) (fun b o hc e => u.there b o e hc) u.jv u.iF u.jw (fun m' hm => by
  obtain ⟨o',KU,KW,nv,r'⟩:=hm
  rw [ho] at nv; cases nv
  exact ⟨_,KU,KW,hL,r'⟩) bP hg
theorem Inv.turned {t':Nat} {it:Addr} (I:Inv X pins σ H s) (k:∀ b o,b ≠ it → s.heap.get? b = some o → h'.get? b = some o) (hn:H it = none) (hL:it ≠ X.env.locals)
  (h1:it ∈ X.ex ∨ X.s₀.heap.objs.size ≤ it) (h2:∀ x c,X.env.cells.lookup x = some c → c ≠ it) (h3:∀ p ∈ X.pn ++ pins,p.1 ≠ it):Inv X pins σ H { s with heap:=h',toks:=t' }:=by
 have QG:∀ b u,H b = some u → b ≠ it:=fun b u e z => by rw [z,hn] at e; cases e
 refine I.step (g':=s.gens) (d':=s.drawn) (ch:=[it]) (fun b hb => ?_) (fun b o _ _ hc e _ => k b o (fun z => hc (by simp [z])) e) (fun b o _ _ hc e _ => ⟨o.slots,k b o (fun z => hc (by simp [z])) e⟩) (fun _ _ _ _ n => n)
  (fun b o hc e => ⟨o,k b o (fun z => hc (by simp [z])) e⟩) (fun _ _ e => e) (fun _ _ _ e => e) (fun b ps e => ⟨#[],by rw [e]; simp⟩) (fun m hm => ?_) (fun b u e => ?_) I.bare
 ·have e:b = it:=by simpa using hb
  subst e
  exact ⟨h1,hL,h2,h3⟩
 ·obtain ⟨o,es,ep,ho,r⟩:=hm
  exact ⟨o,es,ep,k _ o (Ne.symm hL) ho,r⟩
 ·refine (I.bP b u e).jM (fun c v hc q => k c v ?_ q) (fun _ q => q) fun _ _ q => q
  rcases hc with z | z
  ·rw [z]; exact QG b u e
  ·exact QG c _ z
theorem Inv.tok (I:Inv X pins σ H s) (t:Nat):Inv X pins σ H { s with toks:=t }:=I.un (h':=s.heap) (t':=t) Un.refl I.bP
theorem Inv.kept {t':Nat} (I:Inv X pins σ H s) (k:∀ b u,s.heap.get? b = some u → h'.get? b = some u):Inv X pins σ H { s with heap:=h',toks:=t' }:=I.un (Un.kept k) (I.bP.kept k)
theorem Inv.laid {a:Addr} {o:HO} {t':Nat} (I:Inv X pins σ H s) (k:∀ b u,s.heap.get? b = some u → h'.get? b = some u) (hp:s.heap.objs.size ≤ a) (new:b7 X.prog X.w (upd H a o) h' a o) :
  Inv X pins σ (upd H a o) { s with heap:=h',toks:=t' }:=I.un (Un.laid k hp (I.bP.fresh hp)) (I.bP.laid k hp new)
theorem Inv.write {x e:Addr} {o:HO} {t':Nat} (I:Inv X pins σ H s) (mu:Hg (H x)) (he:e = x ∨ H e = some (.own x)) (k:∀ b u,b ≠ e → s.heap.get? b = some u → h'.get? b = some u) (GU:∃ u,h'.get? e = some u)
  (new:b7 X.prog X.w (upd H x o) h' x o):Inv X pins σ (upd H x o) { s with heap:=h',toks:=t' }:=I.un (Un.write mu he k GU) (I.bP.write mu he k GU new)
theorem Inv.m6 {DE:List (Addr × Obj)} (I:Inv X pins σ H s) (h:∀ p ∈ DE,s.heap.get? p.1 = some p.2 ∧ H p.1 = none ∧ p.1 ≠ X.env.locals ∧ p.1 ∉ X.fs ∧ ∀ v,p.2.data ≠ .cell v):Inv X DE σ H s :=
 ⟨I.ok,I.os,I.bare,I.base,I.loc,I.cell,I.free,I.jN,fun p hp => (List.mem_append.mp hp).elim (fun z => I.pin p (List.mem_append_left _ z)) (h p),I.bP,I.len⟩
theorem sd {N:List Str} (hN:N.Nodup) {i j:Nat} {x:Str} (a:N[i]? = some x) (b:N[j]? = some x):i = j:=by
 obtain ⟨h1,e1⟩:=List.getElem?_eq_some_iff.mp a
 obtain ⟨h2,e2⟩:=List.getElem?_eq_some_iff.mp b
 exact (List.getElem_inj hN).mp (e1.trans e2.symm)
theorem pJ {M:Model} {A:Around} {E:Value → Shared → Prop} {i:Nat} {x:Str} {v:V} {u:Value} {Q:Unit → Shared → Prop} (I:Inv X pins σ H s) (hN:X.N.Nodup) (hi:X.N[i]? = some x) (hx:Loc X.env.scope x) (r:RelV v u)
  (h:∀ s',Inv X pins (σ.set i (some v)) H s' → (∃ a,Heap.SameBut a s.heap s'.heap ∧ (a = X.env.locals ∨ X.env.cells.lookup x = some a)) → Q () s') (hf:X.fn x = true ∨ X.env.scope.names.lookup x = some .local:=by first | exact .inl rfl | exact .inr rfl | assumption):wpAny M A (storeName X.env x u) Q E s:=by
 obtain ⟨m,hn,hl⟩:=id I.loc
 have KY:(X.env.scope.kind == .class || (X.env.scope.kind == .module && X.env.locals != X.env.globals)) = false:=by rw [I.ok.kind]; rfl
 have Hl:i < σ.length:=by rw [I.len]; exact (List.getElem?_eq_some_iff.mp hi).1
 have DD:=I.DD
 have tracked:∀ {a:Addr} {h':Heap},(∃ o,s.heap.get? a = some o ∧ H a = none) → Heap.SameBut a s.heap h' → gv X.prog X.w H h':=fun {a h'} ha hs b ob e => by
  obtain ⟨_,_,vH⟩:=ha
  refine (I.bP b ob e).jM (fun c w' hc q => (hs.2 c ?_).trans q) (fun _ q => q) fun _ _ q => q
  rintro rfl
  rcases hc with rfl | hc
  ·rw [vH] at e; cases e
  ·rw [vH] at hc; cases hc
 rcases hx with hk | hk
 ·refine wpAny_storeName_local hk hn (fun h' El hs => ?_) KY
  obtain ⟨oL,_,_,R0,_⟩:=id hn
  refine h _ ⟨I.ok,I.os,I.bare,⟨fun b o e n hb hx => ?_,fun b o e n hb hx => ?_,I.base.free,fun b o e hx => ?_,I.base.jv,I.base.iF,I.base.jw⟩,⟨_,El,fun j y v' e1 e2 e3 => ?_⟩,fun y c e => ?_,I.free,I.jN,fun p hp => ?_,tracked ⟨oL,R0,I.free⟩ hs,by simpa using I.len⟩ ⟨_,hs,.inl rfl⟩
  ·exact (hs.2 b (Nat.ne_of_lt (Nat.lt_of_lt_of_le (Heap.lt_size e) I.ok.above))).trans (I.base.keep b o e n hb hx)
  ·obtain ⟨sl,e1⟩:=I.base.slot b o e n hb hx
   exact ⟨sl,(hs.2 b (Nat.ne_of_lt (Nat.lt_of_lt_of_le (Heap.lt_size e) I.ok.above))).trans e1⟩
  ·obtain ⟨o',e1⟩:=I.base.there b o e hx
   exact ⟨o',(hs.2 b (Nat.ne_of_lt (Nat.lt_of_lt_of_le (Heap.lt_size e) I.ok.above))).trans e1⟩
  ·by_cases hj:j = i
   ·subst hj
    rw [hi] at e1; cases e1
    rw [List.getElem?_set_self Hl] at e2
    cases e2
    exact ⟨u,r,.inl ⟨hk,by simp⟩⟩
   ·rw [List.getElem?_set_ne (Ne.symm hj)] at e2
    obtain ⟨u',r',q⟩:=hl j y v' e1 e2 e3
    refine ⟨u',r',?_⟩
    rcases q with ⟨k,e⟩ | ⟨k,c,e,z⟩
    ·refine .inl ⟨k,?_⟩
     have:y ≠ x:=fun e => hj (sd hN e1 (e ▸ hi))
     simp [this,e]
    ·exact .inr ⟨k,c,e,z.sameBut hs (DD y c e)⟩
  ·obtain ⟨w',z⟩:=I.cell y c e
   exact ⟨w',z.sameBut hs (DD y c e)⟩
  ·obtain ⟨e,n,ne,nf,d⟩:=I.pin p hp
   exact ⟨(hs.2 p.1 ne).trans e,n,ne,nf,d⟩
 ·have Em:X.fn x = true:=by
   rcases hf with z | z
   ·exact z
   ·rw [z] at hk; cases hk
  obtain ⟨c,hc⟩:=I.ok.has x (.inl hk)
  obtain ⟨w',z⟩:=I.cell x c hc
  refine wpAny_storeName_cell I.ok.kind hk hc z (fun h' d_ hs => ?_)
  obtain ⟨oc,Hm,KZ⟩:=id z
  refine h { s with heap:=h' } ⟨I.ok,I.os,I.bare,⟨fun b o e n hb hx => ?_,fun b o e n hb hx => ?_,I.base.free,fun b o e hx => ?_,I.base.jv,I.base.iF,I.base.jw⟩,⟨m,hn.sameBut hs (Ne.symm (DD x c hc)),fun j y v' e1 e2 e3 => ?_⟩,fun y c' e => ?_,I.free,I.jN,fun p hp => ?_,tracked ⟨oc,Hm,I.jN x c hc⟩ hs,by simpa using I.len⟩ ⟨c,hs,.inr hc⟩
  ·exact (hs.2 b (Nat.ne_of_lt (Nat.lt_of_lt_of_le (Heap.lt_size e) (I.ok.Ek x c Em hc)))).trans (I.base.keep b o e n hb hx)
  ·obtain ⟨sl,e1⟩:=I.base.slot b o e n hb hx
   exact ⟨sl,(hs.2 b (Nat.ne_of_lt (Nat.lt_of_lt_of_le (Heap.lt_size e) (I.ok.Ek x c Em hc)))).trans e1⟩
  ·obtain ⟨o',e1⟩:=I.base.there b o e hx
   exact ⟨o',(hs.2 b (Nat.ne_of_lt (Nat.lt_of_lt_of_le (Heap.lt_size e) (I.ok.Ek x c Em hc)))).trans e1⟩
  ·by_cases hj:j = i
   ·subst hj
    rw [hi] at e1; cases e1
    rw [List.getElem?_set_self Hl] at e2
    cases e2
    exact ⟨u,r,.inr ⟨.inl hk,c,hc,d_⟩⟩
   ·rw [List.getElem?_set_ne (Ne.symm hj)] at e2
    obtain ⟨u',r',q⟩:=hl j y v' e1 e2 e3
    refine ⟨u',r',?_⟩
    rcases q with q | ⟨k,c',e,z'⟩
    ·exact .inl q
    ·refine .inr ⟨k,c',e,z'.sameBut hs ?_⟩
     rintro rfl
     exact hj (sd hN e1 (I.ok.inj _ _ _ e hc ▸ hi))
  ·by_cases QH:c' = c
   ·subst QH; exact ⟨_,d_⟩
   ·obtain ⟨w2,z2⟩:=I.cell y c' e
    exact ⟨w2,z2.sameBut hs QH⟩
  ·obtain ⟨e,n,ne,nf,d⟩:=I.pin p hp
   refine ⟨(hs.2 p.1 ?_).trans e,n,ne,nf,d⟩
   intro q
   rw [q,Hm] at e
   have q':oc = p.2:=Option.some.inj e
   exact d w' (by rw [← q']; exact KZ)
theorem se {M:Model} {A:Around} {E:Value → Shared → Prop} {i:Nat} {x:Str} {v:V} {u:Value} {Q:Unit → Shared → Prop} (I:Inv X pins σ H s) (hN:X.N.Nodup) (hi:X.N[i]? = some x) (hx:Loc X.env.scope x) (r:RelV v u)
  (h:∀ s',Inv X pins (σ.set i (some v)) H s' → Q () s') (hf:X.fn x = true ∨ X.env.scope.names.lookup x = some .local:=by first | exact .inl rfl | exact .inr rfl | assumption):wpAny M A (storeName X.env x u) Q E s :=
 pJ I hN hi hx r (fun s' I' _ => h s' I') hf
theorem Inv.yB {s':Shared} {ch:List Addr} (I:Inv X pins σ H s) (ho:s'.os = s.os) (u:Un (gx X.stack) ch H H' s.heap s'.heap) (bP:gv X.prog X.w H' s'.heap) (hg:AllBare s'.gens)
  (Br:∀ b ∈ ch,(b ∈ X.ex ∨ X.s₀.heap.objs.size ≤ b) ∧ b ≠ X.env.locals ∧ (∀ x c,X.env.cells.lookup x = some c → c ≠ b) ∧ ∀ p ∈ X.pn ++ pins,p.1 ≠ b):Inv X pins σ H' s':=by
 obtain ⟨h',g',d',t',o'⟩:=s'
 have e:o' = s.os:=ho
 subst e
 exact I.call (g':=g') (t':=t') (d':=d') u bP hg Br
end
noncomputable abbrev XK:=Value → Option Addr → Hp → Prop
noncomputable abbrev St:=List (Option V)
noncomputable abbrev VK:=V → Hp → Prop
noncomputable abbrev TE:=St → Hp → VK → Prop
noncomputable abbrev TT:=St → Hp → (Bool → Hp → Prop) → Prop
noncomputable abbrev TA:=St → Hp → (List V → Hp → Prop) → Prop
structure Ends where
 nx:St → Hp → Prop
 rt:VK
 bk:St → Hp → Prop:=fun _ _ => False
 ct:St → Hp → Prop:=fun _ _ => False
noncomputable abbrev TS:=Ends → St → Hp → Prop
noncomputable def EP (X:Cx) (pins:List (Addr × Obj)) (σ:St) (Q:VK) (u:Value) (s':Shared):Prop:=∃ v H',Inv X pins σ H' s' ∧ RelV v u ∧ Q v H'
noncomputable def TP (X:Cx) (pins:List (Addr × Obj)) (σ:St) (Q:Bool → Hp → Prop) (b:Bool) (s':Shared):Prop:=∃ H',Inv X pins σ H' s' ∧ Q b H'
noncomputable def AP (X:Cx) (pins:List (Addr × Obj)) (σ:St) (Q:List V → Hp → Prop) (us:List Value) (s':Shared):Prop:=∃ vs H',Inv X pins σ H' s' ∧ Vals vs us ∧ Q vs H'
noncomputable def SP (X:Cx) (pins:List (Addr × Obj)) (D:Ends) (f:Flow) (s':Shared):Prop :=
 match f with
 | .next => ∃ σ' H',Inv X pins σ' H' s' ∧ D.nx σ' H'
 | .brk => ∃ σ' H',Inv X pins σ' H' s' ∧ D.bk σ' H'
 | .cont => ∃ σ' H',Inv X pins σ' H' s' ∧ D.ct σ' H'
 | .ret u => ∃ v σ' H',Inv X pins σ' H' s' ∧ RelV v u ∧ D.rt v H'
noncomputable def PE (X:Cx) (e:Expr) (t:TE):Prop :=
 ∀ (pins:List (Addr × Obj)) (s:Shared) (σ:St) (H:Hp) (Q:VK),Inv X pins σ H s → t σ H Q → wpAny (model X.prog X.w) X.A (eval e X.env) (EP X pins σ Q) X.xe s
noncomputable def PT (X:Cx) (e:Expr) (t:TT):Prop :=
 ∀ (pins:List (Addr × Obj)) (s:Shared) (σ:St) (H:Hp) (Q:Bool → Hp → Prop),Inv X pins σ H s → t σ H Q → wpAny (model X.prog X.w) X.A (isTrue e X.env (eval e X.env)) (TP X pins σ Q) X.xe s
noncomputable def PW (X:Cx) (e:Expr) (t:TT):Prop :=
 ∀ (whole:Sem Value) (pins:List (Addr × Obj)) (s:Shared) (σ:St) (H:Hp) (Q:Bool → Hp → Prop),Inv X pins σ H s → t σ H Q → wpAny (model X.prog X.w) X.A (isTrue e X.env whole) (TP X pins σ Q) X.xe s
theorem PW.pt {X:Cx} {e:Expr} {t:TT} (h:PW X e t):PT X e t:=h _
noncomputable def PA (X:Cx) (es:List Expr) (t:TA):Prop :=
 ∀ (pos:Pos) (pins:List (Addr × Obj)) (s:Shared) (σ:St) (H:Hp) (Q:List V → Hp → Prop),Inv X pins σ H s → t σ H Q → wpAny (model X.prog X.w) X.A (spliced (backTo pos (starEach es X.env))) (AP X pins σ Q) X.xe s
noncomputable def PS (X:Cx) (st:Stmt) (t:TS):Prop :=
 ∀ (pins:List (Addr × Obj)) (s:Shared) (σ:St) (H:Hp) (D:Ends),Inv X pins σ H s → t D σ H → wpAny (model X.prog X.w) X.A (exec st X.env) (SP X pins D) X.xe s
noncomputable def jO (X:Cx) (st:List Stmt) (t:TS):Prop :=
 ∀ (pins:List (Addr × Obj)) (s:Shared) (σ:St) (H:Hp) (D:Ends),Inv X pins σ H s → t D σ H → wpAny (model X.prog X.w) X.A (execs st X.env) (SP X pins D) X.xe s
theorem cV {α:Type} {t:Sem α} {Q Q':α → Shared → Prop} {M:Model} {A:Around} {E:Value → Shared → Prop} {s:Shared} (h:wpAny M A t Q E s) (hQ:∀ a s,Q a s → Q' a s):wpAny M A t Q' E s:=wpAny_mono h hQ fun _ _ x => x
end L2
namespace L2
open PySem PySem.Spec PyProof.Rows
section
variable {X:Cx}
noncomputable def K0 (i:Nat):TE:=fun σ H Q => ∃ v,σ[i]? = some (some v) ∧ Q v H
noncomputable def tC (v:V):TE:=fun _ H Q => Q v H
theorem En {i:Nat} {x:Str} {pos:Pos} (hN:X.N[i]? = some x) (hv:JY X.env.scope x) (hd:(x == ("__debug__":Str)) = false:=by decide) (oT:(x == ("__classdict__":Str)) = false:=by decide):PE X (.Name x pos) (K0 i):=by
 intro pins s σ H Q I h
 obtain ⟨v,e,h⟩:=h
 obtain ⟨m,hn,hl⟩:=I.loc
 obtain ⟨u,r,l⟩:=hl i x v hN e hv
 have fin:EP X pins σ Q u s:=⟨v,H,I,r,h⟩
 rcases l with ⟨hk,hm⟩ | ⟨hk,c,hc,vI⟩
 ·exact wpAny_Name (wpAny_loadName_local I.ok.kind hk hn hm fin) hd
 ·rcases hk with hk | hk
  ·exact wpAny_Name (wpAny_loadName_cell I.ok.kind hk hc vI fin) hd
  ·exact wpAny_Name (wpAny_loadName_free I.ok.kind hk hc vI fin oT) hd
theorem Eo {i j pos}:PE X (.Constant (.int i) j pos) (tC (.int i)):=fun _ _ _ H _ I h => wpAny_Constant_int ⟨.int i,H,I.tok _,⟨_,rfl⟩,h⟩
theorem DF {b j pos}:PE X (.Constant (.bool b) j pos) (tC (.bl b)):=fun _ _ _ H _ I h => Constant_bool ⟨.bl b,H,I,rfl,h⟩
theorem Ep {x j pos}:PE X (.Constant (.str x) j pos) (tC (.str x)):=fun _ _ _ H _ I h => Calls.Constant_str ⟨.str x,H,I.tok _,⟨_,rfl⟩,h⟩
noncomputable def Gl (X:Cx) (x:Str):Prop:=X.env.kindOf x = some .globalImplicit
theorem m7 {E:Value → Shared → Prop} {pins:List (Addr × Obj)} {s:Shared} {σ:St} {H:Hp} {x:Str} {u:Value} {pos:Pos} {Q:Value → Shared → Prop} (I:Inv X pins σ H s) (hg:Gl X x) (hm:X.mg x = some u) (h:Q u s)
  (hd:(x == ("__debug__":Str)) = false:=by decide):wpAny (model X.prog X.w) X.A (eval (.Name x pos) X.env) Q E s :=
 Calls.Name_function_global I.ok.kind hg (Calls.loadGlobal_global (by rw [I.ok.glob]; exact I.mod.glob.keeps I.bk) hm h) hd
theorem iG {E:Value → Shared → Prop} {pins:List (Addr × Obj)} {s:Shared} {σ:St} {H:Hp} {x:Str} {u:Value} {pos:Pos} {Q:Value → Shared → Prop} (I:Inv X pins σ H s) (hg:Gl X x) (hm:X.mg x = none) (hv:bootBuiltins x = some u) (h:Q u s)
  (hn:x ≠ "__name__":=by decide) (hd:(x == ("__debug__":Str)) = false:=by decide):wpAny (model X.prog X.w) X.A (eval (.Name x pos) X.env) Q E s:=by
 obtain ⟨mb,h1,h2⟩:=I.mod.blt
 exact Calls.Name_function_global I.ok.kind hg (Calls.loadGlobal_builtin (by rw [I.ok.glob]; exact I.mod.glob.keeps I.bk) hm (by rw [I.ok.blt]; exact h1.keeps I.bk) ((h2 x hn).trans hv) h) hd
theorem BA {x:Str} {v:V} {u:Value} {pos:Pos} (hg:Gl X x) (hm:X.mg x = some u) (r:RelV v u) (hd:(x == ("__debug__":Str)) = false:=by decide):PE X (.Name x pos) (tC v) :=
 fun _ _ _ H _ I h => m7 I hg hm ⟨v,H,I,r,h⟩ hd
theorem BB {x:Str} {v:V} {u:Value} {pos:Pos} (hg:Gl X x) (hm:X.mg x = none) (hv:bootBuiltins x = some u) (r:RelV v u) (hn:x ≠ "__name__":=by decide) (hd:(x == ("__debug__":Str)) = false:=by decide):PE X (.Name x pos) (tC v) :=
 fun _ _ _ H _ I h => iG I hg hm hv ⟨v,H,I,r,h⟩ hn hd
variable {a b:Expr} {ta tb:TE} {pos:Pos}
noncomputable def PC (X:Cx) (op:CmpOp) (a b:Expr) (t:TE):Prop :=
 ∀ (pins:List (Addr × Obj)) (s:Shared) (σ:St) (H:Hp) (Q:VK),Inv X pins σ H s → t σ H Q →
  wpAny (model X.prog X.w) X.A (eval a X.env) (fun v s₁ => wpAny (model X.prog X.w) X.A (eval b X.env) (fun u s₂ => wpAny (model X.prog X.w) X.A (compareOp op v u) (EP X pins σ Q) X.xe s₂) X.xe s₁) X.xe s
noncomputable def tB (t:TE):TT:=fun σ H Q => t σ H fun x H1 => ∃ c,x = .bl c ∧ Q c H1
theorem Er {e:Expr} {t:TE} (h:PE X e t) (he:∀ whole,isTrue e X.env whole = (do let v ← whole; standAt e.pos; holding [v] (truthy v)):=by intro _; rfl):PT X e (tB t):=by
 intro pins s σ H Q I hw
 refine isTrue_plain (cV (h pins s σ H _ I hw) fun v s1 ⟨x,H1,I1,r1,q1⟩ => ?_) (he _)
 obtain ⟨d,rfl,q⟩:=q1
 cases r1
 exact wpAny_truthy_bool ⟨H1,I1,q⟩
variable {tA BC:TT} {rest:List Expr}
noncomputable def K2 (t u:TT):TT:=fun σ H Q => t σ H fun c H1 => if c = true then u σ H1 Q else Q false H1
noncomputable def R3 (t u:TT):TT:=fun σ H Q => t σ H fun c H1 => if c = true then Q true H1 else u σ H1 Q
noncomputable def K3 (t:TT):TT:=fun σ H Q => t σ H fun c H1 => Q (!c) H1
theorem BD (ha:PT X a tA):PW X (.BoolOp .And [a] pos) tA:=by
 intro wh pins s σ H Q I h
 refine isTrue_and (cV (ha pins s σ H Q I h) fun c s1 e => ?_)
 cases c with
 | true => exact isTrue_and_nil e
 | false => exact e
theorem Es (ha:PT X a tA):PW X (.BoolOp .Or [a] pos) tA:=by
 intro wh pins s σ H Q I h
 refine isTrue_or (cV (ha pins s σ H Q I h) fun c s1 e => ?_)
 cases c with
 | false => exact isTrue_or_nil e
 | true => exact e
theorem Et (ha:PT X a tA) (hb:PW X (.BoolOp .And (b :: rest) pos) BC):PW X (.BoolOp .And (a :: b :: rest) pos) (K2 tA BC):=by
 intro wh pins s σ H Q I h
 refine isTrue_and (cV (ha pins s σ H _ I h) fun c s1 ⟨H1,I1,q1⟩ => ?_)
 cases c with
 | true => exact hb wh pins s1 σ H1 Q I1 q1
 | false => exact ⟨H1,I1,q1⟩
theorem Hn (ha:PT X a tA) (hb:PW X (.BoolOp .Or (b :: rest) pos) BC):PW X (.BoolOp .Or (a :: b :: rest) pos) (R3 tA BC):=by
 intro wh pins s σ H Q I h
 refine isTrue_or (cV (ha pins s σ H _ I h) fun c s1 ⟨H1,I1,q1⟩ => ?_)
 cases c with
 | true => exact ⟨H1,I1,q1⟩
 | false => exact hb wh pins s1 σ H1 Q I1 q1
theorem Eu (ha:PT X a tA):PT X (.UnaryOp .Not a pos) (K3 tA):=by
 intro pins s σ H Q I h
 exact isTrue_not (ha pins s σ H (fun c H1 => Q (!c) H1) I h)
noncomputable def Ho (ta tb:TE):TE:=fun σ H Q => ta σ H fun x H1 => ∃ c,x = .bl c ∧ if c = true then tb σ H1 Q else Q (.bl false) H1
noncomputable def K4 (ta tb:TE):TE:=fun σ H Q => ta σ H fun x H1 => ∃ c,x = .bl c ∧ if c = true then Q (.bl true) H1 else tb σ H1 Q
noncomputable def Hq (ta:TE):TE:=fun σ H Q => ta σ H fun x H1 => ∃ c,x = .bl c ∧ Q (.bl (!c)) H1
theorem Ew {op} {t:TE} (h:PE X a t):PE X (.BoolOp op [a] pos) t:=fun pins s σ H Q I hw => BoolOp_one (h pins s σ H Q I hw)
theorem Ex (ha:PE X a ta) (hb:PE X (.BoolOp .And (b :: rest) pos) tb):PE X (.BoolOp .And (a :: b :: rest) pos) (Ho ta tb):=by
 intro pins s σ H Q I h
 refine BoolOp_and (cV (ha pins s σ H _ I h) fun v s1 ⟨x,H1,I1,r1,q1⟩ => ?_)
 obtain ⟨c,rfl,q1⟩:=q1
 cases r1
 refine wpAny_truthy_bool ?_
 cases c with
 | true => exact hb pins s1 σ H1 Q I1 q1
 | false => exact ⟨.bl false,H1,I1,rfl,q1⟩
theorem Hr (ha:PE X a ta) (hb:PE X (.BoolOp .Or (b :: rest) pos) tb):PE X (.BoolOp .Or (a :: b :: rest) pos) (K4 ta tb):=by
 intro pins s σ H Q I h
 refine BoolOp_or (cV (ha pins s σ H _ I h) fun v s1 ⟨x,H1,I1,r1,q1⟩ => ?_)
 obtain ⟨c,rfl,q1⟩:=q1
 cases r1
 refine wpAny_truthy_bool ?_
 cases c with
 | false => exact hb pins s1 σ H1 Q I1 q1
 | true => exact ⟨.bl true,H1,I1,rfl,q1⟩
theorem Ey (ha:PE X a ta):PE X (.UnaryOp .Not a pos) (Hq ta):=by
 intro pins s σ H Q I h
 refine UnaryOp_ (cV (ha pins s σ H _ I h) fun v s1 ⟨x,H1,I1,r1,q1⟩ => ?_)
 obtain ⟨c,rfl,q1⟩:=q1
 cases r1
 exact not_of (wpAny_truthy_bool ⟨.bl (!c),H1,I1,rfl,q1⟩)
noncomputable def R4 (t:TT) (ta tb:TE):TE:=fun σ H Q => t σ H fun c H1 => if c = true then ta σ H1 Q else tb σ H1 Q
theorem yC {c:Expr} (hc:PT X c tA) (ha:PE X a ta) (hb:PE X b tb):PE X (.IfExp c a b pos) (R4 tA ta tb):=by
 intro pins s σ H Q I h
 refine wpAny_IfExp (cV (hc pins s σ H _ I h) fun d s1 ⟨H1,I1,q1⟩ => ?_)
 cases d with
 | true => exact ha pins s1 σ H1 Q I1 q1
 | false => exact hb pins s1 σ H1 Q I1 q1
end
end L2
namespace L2
open PySem PySem.Spec PyProof.Rows
noncomputable def lR (K:PySem.W.Frag) (H:Hp) (a:Addr) (xs:List V):Prop :=
 Rd H a (.lst xs) ∨
  ∃ (o:Obj) (aL:Array Value) (n:Nat),K.lookup a = some o ∧ o.cls = .type "list" ∧ o.dict = none ∧ o.data = .seq aL n ∧ aL.size ≤ sizeLine ∧ Vals xs aL.toList
noncomputable def jd (K:PySem.W.Frag) (H:Hp) (a:Addr) (xs:List V):Prop :=
 Rd H a (.tup xs) ∨
  ∃ (o:Obj) (aL:Array Value) (n:Nat),K.lookup a = some o ∧ o.cls = .type "tuple" ∧ o.data = .seq aL n ∧ aL.size ≤ sizeLine ∧ Vals xs aL.toList
noncomputable def K5:Value → Option V
 | .none => some .e7
 | .bool b => some (.bl b)
 | .int i _ => some (.int i)
 | .str x _ => some (.str x)
 | .bytes b _ => some (.KO b)
 | .float b _ => some (.m5 b)
 | .ref a => some (.ref a)
 | .type n => some (.ty n)
 | _ => none
theorem RelV.abs {x:V} {u:Value} (r:RelV x u):K5 u = some x:=by
 cases x with
 | e7 => cases r; rfl
 | bl _ => cases r; rfl
 | int _ => obtain ⟨t,rfl⟩:=r; rfl
 | str _ => obtain ⟨t,rfl⟩:=r; rfl
 | KO _ => obtain ⟨t,rfl⟩:=r; rfl
 | m5 _ => obtain ⟨t,rfl⟩:=r; rfl
 | ref _ => cases r; rfl
 | ty _ => cases r; rfl
theorem RelV.inj {x y:V} {u:Value} (r:RelV x u) (q:RelV y u):x = y:=Option.some.inj (r.abs.symm.trans q.abs)
theorem Vals.inj {xs ys:List V} {us:List Value} (p:Vals xs us) (q:Vals ys us):xs = ys:=by
 induction p generalizing ys with
 | nil => cases q; rfl
 | cons r t ih =>
  cases q with
  | cons r' t' => rw [r.inj r',ih t']
section
variable {X:Cx} {pins:List (Addr × Obj)} {σ:St} {H:Hp} {s:Shared} {a:Addr} {xs ys:List V}
theorem lR.of {K:PySem.W.Frag} (h:H a = some (.lst xs)):lR K H a xs:=.inl (.inl h)
theorem jd.of {K:PySem.W.Frag} (h:H a = some (.tup xs)):jd K H a xs:=.inl (.inl h)
theorem Inv.list (I:Inv X pins σ H s) (h:lR X.K H a xs):∃ aL:List Value,Vals xs aL ∧ PlainL s.heap a aL.toArray ∧ xs.length ≤ sizeLine:=by
 rcases h with h | ⟨o,aL,n,hk,hc,hd,hs,hz,r⟩
 ·obtain ⟨z,aL,n,r,e⟩:=h.ok I.bP
  exact ⟨aL,r,⟨_,n,e,rfl,rfl,rfl⟩,z⟩
 ·refine ⟨aL.toList,r,⟨o,n,I.pI a o hk,hc,hd,by simpa using hs⟩,?_⟩
  have e:=r.length
  simp only [Array.length_toList] at e
  lia
theorem Inv.tuple (I:Inv X pins σ H s) (h:jd X.K H a xs):∃ aL:List Value,Vals xs aL ∧ IsTup s.heap a aL.toArray ∧ xs.length ≤ sizeLine:=by
 rcases h with h | ⟨o,aL,n,hk,hc,hs,hz,r⟩
 ·obtain ⟨z,aL,r,p⟩:=h.ok I.bP
  exact ⟨aL,r,p,z⟩
 ·refine ⟨aL.toList,r,⟨o,I.pI a o hk,hc,n,by simpa using hs⟩,?_⟩
  have e:=r.length
  simp only [Array.length_toList] at e
  lia
theorem Inv.nA (I:Inv X pins σ H s) (h:lR X.K H a xs) (h':lR X.K H a ys):xs = ys:=by
 obtain ⟨aL,r,⟨o,n,e,_,_,d⟩,_⟩:=I.list h
 obtain ⟨its',r',⟨o',n',e',_,_,d'⟩,_⟩:=I.list h'
 rw [e] at e'; cases e'
 rw [d] at d'
 injection d' with d1 _
 have:aL = its':=by simpa using congrArg Array.toList d1
 subst this
 exact r.inj r'
theorem Inv.kH (I:Inv X pins σ H s) (h:jd X.K H a xs) (h':jd X.K H a ys):xs = ys:=by
 obtain ⟨aL,r,⟨o,e,_,n,d⟩,_⟩:=I.tuple h
 obtain ⟨its',r',⟨o',e',_,n',d'⟩,_⟩:=I.tuple h'
 rw [e] at e'; cases e'
 rw [d] at d'
 injection d' with d1 _
 have:aL = its':=by simpa using congrArg Array.toList d1
 subst this
 exact r.inj r'
end
section
variable {X:Cx} {pins:List (Addr × Obj)} {σ:St} {H:Hp} {s:Shared} {E:Value → Shared → Prop}
end
section
variable {X:Cx} {st:Stmt} {rest:List Stmt} {t u:TS} {e:Expr} {te:TE} {pos:Pos}
noncomputable def Hs:TS:=fun D σ H => D.nx σ H
noncomputable def K6 (t u:TS):TS:=fun D σ H => t { D with nx:=u D } σ H
theorem BE:jO X [] Hs:=fun _ _ σ H _ I h => wpAny_execs_nil ⟨σ,H,I,h⟩
theorem yD (h1:PS X st t) (h2:jO X rest u):jO X (st :: rest) (K6 t u):=by
 intro pins s σ H D I h
 refine wpAny_execs_cons (cV (h1 pins s σ H { D with nx:=u D } I h) fun f s1 q => ?_)
 cases f with
 | next =>
  obtain ⟨σ',H',I',q⟩:=q
  exact h2 pins s1 σ' H' D I' q
 | ret v => exact q
 | brk => exact q
 | cont => exact q
theorem BF (h1:PS X st t):jO X [st] t:=by
 intro pins s σ H D I h
 refine wpAny_execs_cons (cV (h1 pins s σ H D I h) fun f s1 q => ?_)
 cases f with
 | next => exact wpAny_execs_nil q
 | ret v => exact q
 | brk => exact q
 | cont => exact q
theorem Inv.quiet {pins:List (Addr × Obj)} {σ:St} {H:Hp} {s:Shared} (I:Inv X pins σ H s):interactive X.env = false:=by simp [interactive,I.ok.kind]
noncomputable def Ht (te:TE):TS:=fun D σ H => te σ H fun _ H1 => D.nx σ H1
theorem BG (he:PE X e te) (hs:swapsWith e none pos.line X.env = pure false:=by rfl):PS X (.Expr e pos) (Ht te):=by
 intro pins s σ H D I h
 exact wpAny_Expr_any (cV (he pins s σ H _ I h) fun v s1 ⟨x,H1,I1,r1,q1⟩ => ⟨σ,H1,I1,q1⟩) I.quiet hs
noncomputable def K7 (te:TE):TS:=fun D σ H => te σ H D.rt
theorem Ez (he:PE X e te):PS X (.Return (some e) pos) (K7 te):=by
 intro pins s σ H D I h
 exact wpAny_Return_some (cV (he pins s σ H _ I h) fun v s1 ⟨x,H1,I1,r1,q1⟩ => ⟨x,σ,H1,I1,r1,q1⟩)
noncomputable def K8 (c:TT) (t u:TS):TS:=fun D σ H => c σ H fun b H1 => if b = true then t D σ H1 else u D σ H1
theorem Hu {c:Expr} {a b:List Stmt} {tc:TT} (hc:PT X c tc) (ha:jO X a t) (hb:jO X b u):PS X (.If c a b pos) (K8 tc t u):=by
 intro pins s σ H D I h
 refine wpAny_If (cV (hc pins s σ H _ I h) fun d s1 ⟨H1,I1,q1⟩ => ?_)
 cases d with
 | true => exact ha pins s1 σ H1 D I1 q1
 | false => exact hb pins s1 σ H1 D I1 q1
end
noncomputable abbrev TG:=V → St → Hp → (St → Hp → Prop) → Prop
noncomputable abbrev BH:=List V → St → Hp → (St → Hp → Prop) → Prop
noncomputable def PG (X:Cx) (target:Expr) (t:TG):Prop :=
 ∀ (pins:List (Addr × Obj)) (s:Shared) (σ:St) (H:Hp) (v:V) (u:Value) (Q:St → Hp → Prop),Inv X pins σ H s → RelV v u → t v σ H Q →
  wpAny (model X.prog X.w) X.A (assign target X.env u) (fun _ s' => ∃ σ' H',Inv X pins σ' H' s' ∧ Q σ' H') X.xe s
noncomputable def wZ (X:Cx) (ts:List Expr) (t:BH):Prop :=
 ∀ (pins:List (Addr × Obj)) (s:Shared) (σ:St) (H:Hp) (vs:List V) (us:List Value) (Q:St → Hp → Prop),Inv X pins σ H s → Vals vs us → t vs σ H Q →
  wpAny (model X.prog X.w) X.A (assignInOrder ((assignEach ts X.env).map (·.2)) us) (fun _ s' => ∃ σ' H',Inv X pins σ' H' s' ∧ Q σ' H') X.xe s
noncomputable abbrev EA:=V → V → V → Hp → (Hp → Prop) → Prop
noncomputable def Hv (X:Cx) (t:EA):Prop :=
 ∀ (pins:List (Addr × Obj)) (s:Shared) (σ:St) (H:Hp) (o i v:V) (ov iv u:Value) (Q:Hp → Prop),Inv X pins σ H s → RelV o ov → RelV i iv → RelV v u → t o i v H Q →
  wpAny (model X.prog X.w) X.A (setItem ov iv u) (fun _ s' => ∃ H',Inv X pins σ H' s' ∧ Q H') X.xe s
section
variable {X:Cx} {pos:Pos}
noncomputable def sf (i:Nat):TG:=fun v σ H Q => Q (σ.set i (some v)) H
theorem BI {i:Nat} {x:Str} (hN:X.N.Nodup) (hi:X.N[i]? = some x) (hx:Loc X.env.scope x) (hf:X.fn x = true ∨ X.env.scope.names.lookup x = some .local:=by first | exact .inl rfl | exact .inr rfl | assumption):PG X (.Name x pos) (sf i):=by
 intro pins s σ H v u Q I r h
 exact wpAny_assign_Name (se I hN hi hx r (fun s' I' => ⟨_,H,I',h⟩) hf)
noncomputable def K9:BH:=fun vs σ H Q => vs = [] ∧ Q σ H
noncomputable def Hw (t:TG) (u:BH):BH:=fun vs σ H Q => ∃ v r,vs = v :: r ∧ t v σ H fun σ' H' => u r σ' H' Q
theorem BJ:wZ X [] K9:=by
 intro pins s σ H vs us Q I r h
 obtain ⟨e,h⟩:=h
 subst e
 cases r
 exact assignInOrder_nil ⟨σ,H,I,h⟩
theorem yE {e:Expr} {es:List Expr} {t:TG} {u:BH} (h1:PG X e t) (h2:wZ X es u)
  (hs:(assignEach (e :: es) X.env).map (·.2) = assign e X.env :: (assignEach es X.env).map (·.2):=by rfl):wZ X (e :: es) (Hw t u):=by
 intro pins s σ H vs us Q I r h
 obtain ⟨v,vr,e1,h⟩:=h
 subst e1
 cases r with
 | cons r rr =>
  rw [hs]
  refine assignInOrder_cons (cV (h1 pins s σ H _ _ _ I r h) fun _ s1 ⟨σ1,H1,I1,q1⟩ => ?_)
  exact h2 pins s1 σ1 H1 _ _ Q I1 rr q1
noncomputable def K_ (K:PySem.W.Frag) (n:Nat) (t:BH):TG:=fun v σ H Q => ∃ a xs,v = .ref a ∧ jd K H a xs ∧ xs.length = n ∧ t xs σ H Q
theorem EB {es:List Expr} {k:Nat} {t:BH} {n:Nat} (hc:X.calm = true) (h:wZ X es t)
  (hn:(assignEach es X.env).length = n:=by rfl) (yu:(assignEach es X.env).findIdx? (·.1) = none:=by rfl):PG X (.Tuple es k pos) (K_ X.K n t):=by
 intro pins s σ H v u Q I r hw
 obtain ⟨a,xs,e1,hq,hl,hw⟩:=hw
 subst e1
 cases r
 obtain ⟨aL,rv,ht,hz⟩:=I.tuple hq
 refine assign_Tuple_tuple (I.ok.hd hc) ht (by simp [hn,← hl,rv.length]) yu fun h' hx => ?_
 have I1:Inv X pins σ H { s with heap:=h' }:=I.kept (t':=s.toks) fun b o e => hx b o (Nat.ne_of_lt (Heap.lt_size e)) e
 exact h pins _ σ H xs _ Q I1 (by simpa using rv) hw
noncomputable def La (to ti:TE) (t:EA):TG:=fun v σ H Q => to σ H fun o H1 => ti σ H1 fun i H2 => t o i v H2 fun H3 => Q σ H3
theorem EC {o i:Expr} {to ti:TE} {t:EA} (ho:PE X o to) (hi:PE X i ti) (hs:Hv X t)
  (ha:∀ v,assign (.Subscript o i pos) X.env v = (do
   let ov ← holding [v] (eval o X.env)
   let iv ← holding [v,ov] (eval i X.env)
   standAt pos
   holding [v,ov,iv] (setItem ov iv v)
   release [v,ov,iv] []):=by intro _; rfl):PG X (.Subscript o i pos) (La to ti t):=by
 intro pins s σ H v u Q I r h
 rw [ha]
 refine wpAny_bind (wpAny_holding (cV (ho pins s σ H _ I h) fun ov s1 ⟨x,H1,I1,r1,q1⟩ => ?_))
 refine wpAny_bind (wpAny_holding (cV (hi pins s1 σ H1 _ I1 q1) fun iv s2 ⟨y,H2,I2,r2,q2⟩ => ?_))
 refine wpAny_bind (wpAny_standAt (wpAny_bind (wpAny_holding (cV (hs pins s2 σ H2 x y v ov iv u _ I2 r1 r2 r q2) fun _ s3 ⟨H3,I3,q3⟩ => ?_))))
 exact wpAny_release ⟨σ,H3,I3,q3⟩
noncomputable def BK (te:TE) (g:TG):TS:=fun D σ H => te σ H fun x H1 => g x σ H1 D.nx
theorem ED {tg e:Expr} {te:TE} {g:TG} (he:PE X e te) (hg:PG X tg g) (hs:swapsWithSole [tg] e pos.line X.env = pure false:=by rfl) (hw:swappedStores [tg] e X.env = pure none:=by rfl)
  (h1:(assignEach [tg] X.env).map (·.2) = [assign tg X.env]:=by rfl):PS X (.Assign [tg] e pos) (BK te g):=by
 intro pins s σ H D I h
 refine wpAny_Assign_stores (cV (he pins s σ H _ I h) fun v s1 ⟨x,H1,I1,r1,q1⟩ => ?_) hs hw
 rw [h1]
 exact cV (hg pins s1 σ H1 x v _ I1 r1 q1) fun _ s2 q => q
theorem EE {i:Nat} {x:Str} {e:Expr} {te:TE} {pos':Pos} (hN:X.N.Nodup) (hi:X.N[i]? = some x) (hx:Loc X.env.scope x) (he:PE X e te) (hs:swapsWith e (some (.Name x pos')) pos.line X.env = pure false:=by rfl) (hf:X.fn x = true ∨ X.env.scope.names.lookup x = some .local:=by first | exact .inl rfl | exact .inr rfl | assumption) :
  PS X (.Assign [.Name x pos'] e pos) (BK te (sf i)):=by
 intro pins s σ H D I h
 refine wpAny_Assign_Name (cV (he pins s σ H _ I h) fun v s1 ⟨y,H1,I1,r1,q1⟩ => ?_) hs
 exact se I1 hN hi hx r1 (fun s2 I2 => ⟨_,H1,I2,q1⟩) hf
end
section
variable {X:Cx} {pos:Pos}
noncomputable def EF (c:TT) (tb:TS):TS:=fun D σ H => ∃ W:Nat → St → Hp → Prop,(∃ m,W m σ H) ∧ ∀ m σ H,W m σ H →
 c σ H fun b H1 => if b = true then ∃ N:St → Hp → Prop,(∀ σ' H',N σ' H' → ∃ m',m' < m ∧ W m' σ' H') ∧ tb { D with nx:=N,ct:=N,bk:=D.nx } σ H1 else D.nx σ H1
theorem yF {c:Expr} {body:List Stmt} {tc:TT} {tb:TS} (hp:PassesOwn (model X.prog X.w) X.A X.env X.xe) (hc:PT X c tc) (hb:jO X body tb):PS X (.While c body [] pos) (EF tc tb):=by
 intro pins s σ H D I h
 obtain ⟨W,⟨m0,w0⟩,turn⟩:=h
 refine wpAny_While (codeAny_whileLoop (fun n s' => ∃ σ' H',Inv X pins σ' H' s' ∧ W n σ' H') ?_ m0 ⟨σ,H,I,w0⟩)
 rintro n s1 ⟨σ1,H1,I1,w1⟩
 refine wpAny_passesOwn hp (cV (hc pins s1 σ1 H1 _ I1 (turn n σ1 H1 w1)) fun b s2 ⟨H2,I2,q2⟩ => ?_)
 cases b with
 | true =>
  obtain ⟨N,hN,q2⟩:=q2
  rw [if_pos rfl]
  refine wpAny_passesOwn hp (cV (hb pins s2 σ1 H2 _ I2 q2) fun f s3 q3 => ?_)
  cases f with
  | next =>
   obtain ⟨σ3,H3,I3,n3⟩:=q3
   obtain ⟨m',hm,w3⟩:=hN σ3 H3 n3
   exact ⟨m',hm,σ3,H3,I3,w3⟩
  | cont =>
   obtain ⟨σ3,H3,I3,n3⟩:=q3
   obtain ⟨m',hm,w3⟩:=hN σ3 H3 n3
   exact ⟨m',hm,σ3,H3,I3,w3⟩
  | brk => exact q3
  | ret v => exact q3
 | false =>
  rw [if_neg Bool.false_ne_true]
  exact wpAny_execs_nil ⟨σ1,H2,I2,q2⟩
end
structure It where
 go:Nat → Hp → Prop
 Hx:Nat → Hp → V → Hp → Prop
 stop:Nat → Hp → Prop
noncomputable def o4 (X:Cx) (pins:List (Addr × Obj)) (H:Hp) (b:Addr):Prop :=
 H b = none ∧ b ≠ X.env.locals ∧ b ∉ X.fs ∧ (b ∈ X.ex ∨ X.s₀.heap.objs.size ≤ b) ∧ (∀ x c,X.env.cells.lookup x = some c → c ≠ b) ∧ ∀ p ∈ X.pn ++ pins,p.1 ≠ b
theorem Inv.yG {X:Cx} {pins:List (Addr × Obj)} {σ:St} {H H':Hp} {s:Shared} {b:Addr} (I:Inv X pins σ H s) (hb:s.heap.objs.size ≤ b) (hn:H' b = none):o4 X pins H' b:=by
 refine ⟨hn,Nat.ne_of_gt (Nat.lt_of_lt_of_le I.lt hb),I.KR hb,.inr (Nat.le_trans I.sz hb),fun x c e z => ?_,fun p hp z => ?_⟩
 ·obtain ⟨v,q⟩:=I.cell x c e
  exact absurd (Nat.lt_of_lt_of_le q.lt (by rw [z]; exact hb)) (Nat.lt_irrefl _)
 ·exact absurd (Nat.lt_of_lt_of_le (Heap.lt_size (I.pin p hp).1) (by rw [z]; exact hb)) (Nat.lt_irrefl _)
structure Turn (P:Program) (w:World) (K:PySem.W.Frag) (tg:Expr) (J:It) (fp:List Addr) (it:Addr) (tn:Nat → Heap → Prop):Prop where
 mem:it ∈ fp
 obj:∀ i h,tn i h → ∀ b ∈ fp,∃ o,h.get? b = some o ∧ ∀ v,o.data ≠ .cell v
 keep:∀ i h h',tn i h → (∀ b ∈ fp,∀ o,h.get? b = some o → h'.get? b = some o) → tn i h'
 item:∀ (X:Cx),X.prog = P → X.w = w → X.K = K → X.calm = true → ∀ (i:Nat) (pins:List (Addr × Obj)) (s:Shared) (σ:St) (H:Hp) (E:Value → Shared → Prop),Inv X pins σ H s → (∀ b ∈ fp,o4 X pins H b) → tn i s.heap → J.go i H →
  wpAny (model P w) X.A (pyNext (.ref it)) (fun r s1 => ∃ u,r = some u ∧
   wpAny (model P w) X.A (letOwnedTupleGo tg (.ref it) u) (fun _ s2 => ∃ x H',Inv X pins σ H' s2 ∧ RelV x u ∧ J.Hx i H x H' ∧ tn (i + 1) s2.heap ∧ ∀ b ∈ fp,H' b = none) E s1) E s
 done:∀ (X:Cx),X.prog = P → X.w = w → X.K = K → X.calm = true → ∀ (i:Nat) (pins:List (Addr × Obj)) (s:Shared) (σ:St) (H:Hp) (E:Value → Shared → Prop),Inv X pins σ H s → (∀ b ∈ fp,o4 X pins H b) → tn i s.heap → J.stop i H →
  wpAny (model P w) X.A (pyNext (.ref it)) (fun r s1 => r = none ∧ Inv X pins σ H s1) E s
 self:∀ (A:Around) (i:Nat) (s:Shared) (Q:Value → Shared → Prop) (E:Value → Shared → Prop),tn i s.heap → Q (.ref it) s → wpAny (model P w) A (pyIter (.ref it)) Q E s
noncomputable abbrev TI:=St → Hp → (It → Hp → Prop) → Prop
noncomputable def Lb (X:Cx) (pins:List (Addr × Obj)) (σ:St) (tg:Expr) (R:It → Hp → Prop) (J0:Value) (s2:Shared):Prop :=
 ∃ (it:Addr) (fp:List Addr) (tn:Nat → Heap → Prop) (J:It) (H':Hp),J0 = .ref it ∧ Inv X pins σ H' s2 ∧ Turn X.prog X.w X.K tg J fp it tn ∧ tn 0 s2.heap ∧ (∀ b ∈ fp,o4 X pins H' b) ∧ R J H'
noncomputable def PI (X:Cx) (tg iter:Expr) (wi:TI):Prop :=
 ∀ (pins:List (Addr × Obj)) (s:Shared) (σ:St) (H:Hp) (R:It → Hp → Prop),Inv X pins σ H s → wi σ H R →
  wpAny (model X.prog X.w) X.A (eval iter X.env) (fun v s1 => wpAny (model X.prog X.w) X.A (pyIter v) (Lb X pins σ tg R) X.xe s1) X.xe s
theorem vJ {M:Model} {A:Around} {E:Value → Shared → Prop} {s:Shared} {tg:Expr} {it:Addr} {u:Value} {o:Obj} {n:String} {vs:Array Value} {Q:Unit → Shared → Prop} (ho:s.heap.get? it = some o) (hc:o.cls = .type n) (hd:o.data = .fields vs)
    (hn:["enumerate","zip","dict_itemiterator","dict_reverseitemiterator","odict_iterator","itertools.zip_longest","itertools.pairwise"].contains n = false) (hQ:Q () s):wpAny M A (letOwnedTupleGo tg (.ref it) u) Q E s:=by
  unfold letOwnedTupleGo
  cases tg <;> first
    | exact wpAny_pure hQ
    | (cases u <;> first
        | exact wpAny_pure hQ
        | (refine wpAny_bind (wpAny_load ho ?_)
           rw [hc,hd]
           show wpAny M A (if (["enumerate","zip","dict_itemiterator","dict_reverseitemiterator","odict_iterator","itertools.zip_longest","itertools.pairwise"].contains n && vs[0]? == some (rawInt _)) = true then _ else _) Q E s
           rw [if_neg (by intro h; rw [hn,Bool.false_and] at h; cases h)]
           exact wpAny_pure hQ))
noncomputable def Lc (K:PySem.W.Frag) (a:Addr):It :=
 ⟨fun i H => ∃ xs x,lR K H a xs ∧ xs[i]? = some x,fun i H x H' => H' = H ∧ ∀ xs,lR K H a xs → xs[i]? = some x,fun i H => ∃ xs,lR K H a xs ∧ xs.length ≤ i⟩
noncomputable def Ld (K:PySem.W.Frag) (a:Addr):It :=
 ⟨fun i H => ∃ xs x,jd K H a xs ∧ xs[i]? = some x,fun i H x H' => H' = H ∧ ∀ xs,jd K H a xs → xs[i]? = some x,fun i H => ∃ xs,jd K H a xs ∧ xs.length ≤ i⟩
noncomputable def Hy (lo:Int) (n:Nat):It:=⟨fun i _ => i < n,fun i H x H' => H' = H ∧ x = .int (lo + i),fun i _ => n ≤ i⟩
theorem w4 {P:Program} {w:World} {K:PySem.W.Frag} {tg:Expr} (a it:Addr):Turn P w K tg (Lc K a) [it] it (fun i h => h.IsListIter it a i) where
 mem:=by simp
 obj:=fun i h st b hb => by
  have e:b = it:=by simpa using hb
  subst e
  obtain ⟨o,e,c,d⟩:=st
  exact ⟨o,e,fun v z => by rw [d] at z; cases z⟩
 keep:=fun i h h' st k => st.at fun o e => k it (by simp) o e
 item:=by
  intro X hP hw hK hc i pins s σ H E I hf st hg
  subst hP hw hK
  obtain ⟨xs,x,hq,hx⟩:=hg
  obtain ⟨aL,rv,p,hz⟩:=I.list hq
  obtain ⟨u,hu,ru⟩:=rv.get hx
  obtain ⟨f0,f1,f2,f3,f4,f5⟩:=hf it (by simp)
  refine wpAny_pyNext_list_item st p.isList (x:=u) (by simpa using hu) fun h' aw sb => ?_
  have I1:Inv X pins σ H { s with heap:=h' }:=I.turned (t':=s.toks) (fun b o hb e => (sb.2 b hb).trans e) f0 f1 f3 f4 f5
  obtain ⟨o,e,c,d⟩:=id aw
  exact ⟨u,rfl,vJ (s:={ s with heap:=h' }) e c d (by decide) ⟨x,H,I1,ru,⟨rfl,fun ys hy => by rw [I.nA hy hq]; exact hx⟩,aw,fun b hb => (hf b hb).1⟩⟩
 done:=by
  intro X hP hw hK hc i pins s σ H E I hf st hg
  subst hP hw hK
  obtain ⟨xs,hq,hx⟩:=hg
  obtain ⟨aL,rv,p,hz⟩:=I.list hq
  obtain ⟨f0,f1,f2,f3,f4,f5⟩:=hf it (by simp)
  have hl:=rv.length
  exact wpAny_pyNext_list_end (I.ok.hd hc) st p.isList (by simp; lia) fun h' eb => ⟨rfl,I.turned (t':=s.toks) (fun b o hb e => eb b o hb e) f0 f1 f3 f4 f5⟩
 self:=fun _ _ _ _ _ st h => wpAny_pyIter_listiter st h
theorem uq {P:Program} {w:World} {K:PySem.W.Frag} {tg:Expr} (a it:Addr):Turn P w K tg (Ld K a) [it] it (fun i h => h.IsTupleIter it a i) where
 mem:=by simp
 obj:=fun i h st b hb => by
  have e:b = it:=by simpa using hb
  subst e
  obtain ⟨o,e,c,d⟩:=st
  exact ⟨o,e,fun v z => by rw [d] at z; cases z⟩
 keep:=fun i h h' st k => st.at fun o e => k it (by simp) o e
 item:=by
  intro X hP hw hK hc i pins s σ H E I hf st hg
  subst hP hw hK
  obtain ⟨xs,x,hq,hx⟩:=hg
  obtain ⟨aL,rv,p,hz⟩:=I.tuple hq
  obtain ⟨u,hu,ru⟩:=rv.get hx
  obtain ⟨f0,f1,f2,f3,f4,f5⟩:=hf it (by simp)
  refine wpAny_pyNext_tuple_item st (show s.heap.IsTuple a aL.toArray from p) (x:=u) (by simpa using hu) fun h' aw sb => ?_
  have I1:Inv X pins σ H { s with heap:=h' }:=I.turned (t':=s.toks) (fun b o hb e => (sb.2 b hb).trans e) f0 f1 f3 f4 f5
  obtain ⟨o,e,c,d⟩:=id aw
  exact ⟨u,rfl,vJ (s:={ s with heap:=h' }) e c d (by decide) ⟨x,H,I1,ru,⟨rfl,fun ys hy => by rw [I.kH hy hq]; exact hx⟩,aw,fun b hb => (hf b hb).1⟩⟩
 done:=by
  intro X hP hw hK hc i pins s σ H E I hf st hg
  subst hP hw hK
  obtain ⟨xs,hq,hx⟩:=hg
  obtain ⟨aL,rv,p,hz⟩:=I.tuple hq
  obtain ⟨f0,f1,f2,f3,f4,f5⟩:=hf it (by simp)
  have hl:=rv.length
  exact wpAny_pyNext_tuple_end (I.ok.hd hc) st (show s.heap.IsTuple a aL.toArray from p) (by simp; lia) fun h' eb => ⟨rfl,I.turned (t':=s.toks) (fun b o hb e => eb b o hb e) f0 f1 f3 f4 f5⟩
 self:=fun _ _ _ _ _ st h => wpAny_pyIter_tupleiter st h
theorem ur {P:Program} {w:World} {K:PySem.W.Frag} {tg:Expr} (it:Addr) (lo:Int) (n:Nat):Turn P w K tg (Hy lo n) [it] it (fun i h => IsRangeIter h it (lo + (i:Nat) * 1) ((n:Int) - (i:Nat)) 1) where
 mem:=by simp
 obj:=fun i h st b hb => by
  have e:b = it:=by simpa using hb
  subst e
  exact ⟨_,st,fun v z => by
   have z':Data.fields _ = Data.cell v:=z
   cases z'⟩
 keep:=fun i h h' st k => k it (by simp) _ st
 item:=by
  intro X hP hw hK hc i pins s σ H E I hf st hg
  subst hP hw hK
  obtain ⟨f0,f1,f2,f3,f4,f5⟩:=hf it (by simp)
  have W:=Walks.range (prog:=X.prog) (w:=X.w) (I.ok.hd hc) it lo 1 n
  refine W.item i s _ _ hg st fun v h' tk hv aw kk => ?_
  obtain ⟨t,rfl⟩:=hv
  have I1:Inv X pins σ H { s with heap:=h',toks:=tk }:=I.turned (fun b o hb e => kk b o (by simpa using hb) e) f0 f1 f3 f4 f5
  refine ⟨_,rfl,vJ (s:={ s with heap:=h',toks:=tk }) (n:="range_iterator") aw rfl rfl (by decide) ⟨.int (lo + i),H,I1,⟨t,?_⟩,⟨rfl,rfl⟩,aw,fun b hb => (hf b hb).1⟩⟩
  rw [Int.mul_one]
 done:=by
  intro X hP hw hK hc i pins s σ H E I hf st hg
  subst hP hw hK
  obtain ⟨f0,f1,f2,f3,f4,f5⟩:=hf it (by simp)
  exact wpAny_pyNext_range_end (I.ok.hd hc) st (by have:n ≤ i:=hg; lia) fun h' eb => ⟨rfl,I.turned (t':=s.toks) (fun b o hb e => eb b o hb e) f0 f1 f3 f4 f5⟩
 self:=fun _ _ _ _ _ st h => wpAny_pyIter_rangeiter st h
end L2
namespace L2
open PySem PySem.Spec PyProof.Rows
section
variable {X:Cx} {tg:Expr}
theorem sg {pins:List (Addr × Obj)} {σ:St} {H:Hp} {s:Shared} {R:It → Hp → Prop} {E:Value → Shared → Prop} {lo hi:Int} {t u v:Tok} {tk:Nat} (I:Inv X pins σ H s) (h1:-(2 ^ 62) ≤ lo) (h2:lo < 2 ^ 62) (h3:-(2 ^ 62) ≤ hi) (h4:hi < 2 ^ 62)
  (q:R (Hy lo (hi - lo).toNat) H):wpAny (model X.prog X.w) X.A (pyIter (.ref s.heap.objs.size)) (Lb X pins σ tg R) E { s with heap:=s.heap.push { cls:=.type "range",data:=.fields #[.int lo t,.int hi u,.int 1 v] },toks:=tk }:=by
 refine wpAny_pyIter_range (IsRange.new ..) (small_one h1 h2 h3 h4) ?_
 have I1:Inv X pins σ H { s with heap:=s.heap.push { cls:=.type "range",data:=.fields #[.int lo t,.int hi u,.int 1 v] },toks:=tk }:=I.kept fun b o e => Heap.get?_push_of_some _ e
 refine ⟨(s.heap.push { cls:=.type "range",data:=.fields #[.int lo t,.int hi u,.int 1 v] }).objs.size,[(s.heap.push { cls:=.type "range",data:=.fields #[.int lo t,.int hi u,.int 1 v] }).objs.size],_,_,H,rfl,
  I1.kept (t':=tk) fun b o e => Heap.get?_push_of_some _ e,ur _ lo (hi - lo).toNat,?_,fun b hb => ?_,q⟩
 ·have e1:lo + ((0:Nat):Int) * 1 = lo:=by simp
  have e2:(((hi - lo).toNat:Nat):Int) - ((0:Nat):Int) = Builtin.Range.rangeSize lo hi 1:=by rw [rangeSize_one]; split <;> lia
  show IsRangeIter _ _ (lo + ((0:Nat):Int) * 1) ((((hi - lo).toNat:Nat):Int) - ((0:Nat):Int)) 1
  rw [e1,e2]
  exact Heap.get?_push_size _ rfl
 ·have e:b = (s.heap.push { cls:=.type "range",data:=.fields #[.int lo t,.int hi u,.int 1 v] }).objs.size:=by simpa using hb
  subst e
  exact I1.yG (Nat.le_refl _) (I1.bP.fresh (Nat.le_refl _))
noncomputable def Hz (ta:TA):TI:=fun σ H R => ta σ H fun vs H1 => ∃ j:Int,vs = [.int j] ∧ -(2 ^ 62) ≤ j ∧ j < 2 ^ 62 ∧ R (Hy 0 j.toNat) H1
noncomputable def HA (ta:TA):TI:=fun σ H R => ta σ H fun vs H1 => ∃ i j:Int,vs = [.int i,.int j] ∧ (-(2 ^ 62) ≤ i ∧ i < 2 ^ 62 ∧ -(2 ^ 62) ≤ j ∧ j < 2 ^ 62) ∧ R (Hy i (j - i).toNat) H1
theorem w6 {a:Expr} {ta:TA} {p pos:Pos} (hg:Gl X "range") (hm:X.mg "range" = none) (ha:PA X [a] ta) (hs:starEach [a] X.env = [(false,eval a X.env)]:=by rfl):PI X tg (.Call (.Name "range" p) [a] [] pos) (Hz ta):=by
 intro pins s σ H R I h
 refine Call_ (iG I hg hm boot_range (PyProof.Rows.callWith_type1 (cV (ha pos pins s σ H _ I h) fun us s1 ⟨vs,H1,I1,r1,q1⟩ => ?_) hs rfl))
 obtain ⟨j,e,q1,q2,q⟩:=q1
 subst e
 cases r1 with
 | cons r rr =>
  cases rr
  obtain ⟨t,rfl⟩:=r
  exact call_range_1 (sg I1 (by lia) (by lia) q1 q2 (by simpa using q))
theorem w9 {a b:Expr} {ta:TA} {p pos:Pos} (hg:Gl X "range") (hm:X.mg "range" = none) (ha:PA X [a,b] ta) (hs:starEach [a,b] X.env = [(false,eval a X.env),(false,eval b X.env)]:=by rfl) (gR:starEach [b] X.env = [(false,eval b X.env)]:=by rfl) :
  PI X tg (.Call (.Name "range" p) [a,b] [] pos) (HA ta):=by
 intro pins s σ H R I h
 refine Call_ (iG I hg hm boot_range (PyProof.Rows.callWith_type1 (cV (ha pos pins s σ H _ I h) fun us s1 ⟨vs,H1,I1,r1,q1⟩ => ?_) (by rw [hs,gR]) (by rw [gR]; rfl)))
 obtain ⟨i,j,e,⟨q1,q2,q3,q4⟩,q⟩:=q1
 subst e
 cases r1 with
 | cons r rr =>
  cases rr with
  | cons r' rr =>
   cases rr
   obtain ⟨t,rfl⟩:=r
   obtain ⟨t',rfl⟩:=r'
   exact call_range_2 (sg I1 q1 q2 q3 q4 q)
noncomputable def Le (wi:TI) (g:TG) (tb:TS):TS:=fun D σ H => wi σ H fun J H1 => ∃ W:Nat → Nat → St → Hp → Prop,(∃ m,W 0 m σ H1) ∧ ∀ i m σ H,W i m σ H →
 (J.stop i H ∧ D.nx σ H) ∨ (J.go i H ∧ ∃ N:St → Hp → Prop,(∀ σ' H',N σ' H' → ∃ m',m' < m ∧ W (i + 1) m' σ' H') ∧ ∀ x H',J.Hx i H x H' → g x σ H' fun σ2 H2 => tb { D with nx:=N,ct:=N,bk:=D.nx } σ2 H2)
noncomputable def nB (fp:List Addr) (h:Heap):List (Addr × Obj):=fp.filterMap fun b => (h.get? b).map fun o => (b,o)
theorem hU {fp:List Addr} {h:Heap} {b:Addr} {o:Obj} (hb:b ∈ fp) (e:h.get? b = some o):(b,o) ∈ nB fp h:=List.mem_filterMap.mpr ⟨b,hb,by rw [e]; rfl⟩
theorem w_ {fp:List Addr} {h:Heap} {p:Addr × Obj} (hp:p ∈ nB fp h):p.1 ∈ fp ∧ h.get? p.1 = some p.2:=by
 obtain ⟨b,hb,e⟩:=List.mem_filterMap.mp hp
 cases q:h.get? b with
 | none => rw [q] at e; cases e
 | some o =>
  rw [q] at e
  have e':(b,o) = p:=Option.some.inj e
  subst e'
  exact ⟨hb,q⟩
theorem Inv.pinned {pins:List (Addr × Obj)} {σ:St} {H:Hp} {s:Shared} {fp:List Addr} (I:Inv X pins σ H s) (hf:∀ b ∈ fp,o4 X pins H b) (ho:∀ b ∈ fp,∃ o,s.heap.get? b = some o ∧ ∀ v,o.data ≠ .cell v):Inv X (pins ++ nB fp s.heap) σ H s :=
 I.m6 fun p hp => (List.mem_append.mp hp).elim (fun z => I.pin p (List.mem_append_right _ z)) fun z => by
  obtain ⟨hb,e⟩:=w_ z
  obtain ⟨f0,f1,f2,_⟩:=hf p.1 hb
  obtain ⟨o,e',d⟩:=ho p.1 hb
  rw [e] at e'; cases e'
  exact ⟨e,f0,f1,f2,d⟩
theorem Inv.nC {pins pl:List (Addr × Obj)} {σ:St} {H:Hp} {s:Shared} (I:Inv X (pins ++ pl) σ H s):Inv X pins σ H s:=I.m6 fun p hp => I.pin p (List.mem_append_right _ (List.mem_append_left _ hp))
theorem EG {iter:Expr} {body:List Stmt} {wi:TI} {g:TG} {tb:TS} {pos:Pos} (hp:PassesOwn (model X.prog X.w) X.A X.env X.xe) (hc:X.calm = true) (hi:PI X tg iter wi) (hg:PG X tg g) (hb:jO X body tb)
  (hs:∀ x,foldedSetIterable iter X.env x = pure x:=by intro _; rfl):PS X (.For tg iter body [] pos) (Le wi g tb):=by
 intro pins s σ H D I h
 refine wpAny_For (cV (hi pins s σ H _ I h) fun v s1 h1 => cV h1 fun J0 s2 h2 => ?_) hs
 obtain ⟨it,fp,tn,J,H2,e,I2,T,bV,f2,W,⟨m0,w0⟩,turn⟩:=h2
 subst e
 -- HB stays true of He EI objects through He loop
 have uu:∀ {H':Hp},(∀ b ∈ fp,H' b = none) → ∀ b ∈ fp,o4 X pins H' b:=fun hn b hb => ⟨hn b hb,(f2 b hb).2⟩
 refine codeAny_forLoop_any (fun n s' => ∃ i σ' H',Inv X pins σ' H' s' ∧ tn i s'.heap ∧ (∀ b ∈ fp,H' b = none) ∧ W i n σ' H') ?_ m0 ⟨0,σ,H2,I2,bV,fun b hb => (f2 b hb).1,w0⟩
 rintro n s3 ⟨i,σ3,H3,I3,iE,HC,w3⟩
 rcases turn i n σ3 H3 w3 with ⟨stop,qn⟩ | ⟨go,N,hN,step⟩
 ·refine wpAny_passesOwn hp (cV (T.done X rfl rfl rfl hc i pins s3 σ3 H3 X.xe I3 (uu HC) iE stop) fun r s4 ⟨hr,I4⟩ => ?_)
  subst hr
  exact wpAny_execs_nil ⟨σ3,H3,I4,qn⟩
 ·refine wpAny_passesOwn hp (cV (T.item X rfl rfl rfl hc i pins s3 σ3 H3 X.xe I3 (uu HC) iE go) fun r s4 ⟨u,hr,h4⟩ => ?_)
  subst hr
  refine wpAny_passesOwn hp (cV h4 fun _ s5 ⟨x,H5,I5,r5,y5,EJ,Lf⟩ => ?_)
  have Lg:=I5.pinned (uu Lf) (T.obj _ _ EJ)
  refine wpAny_passesOwn hp (cV (hg _ s5 σ3 H5 x u _ Lg r5 (step x H5 y5)) fun _ s6 ⟨σ6,H6,I6,q6⟩ => ?_)
  refine wpAny_passesOwn hp (cV (hb _ s6 σ6 H6 _ I6 q6) fun f s7 q7 => ?_)
  have again:∀ {σ7:St} {H7:Hp},Inv X (pins ++ nB fp s5.heap) σ7 H7 s7 → N σ7 H7 → ∃ m,m < n ∧ ∃ i σ' H',Inv X pins σ' H' s7 ∧ tn i s7.heap ∧ (∀ b ∈ fp,H' b = none) ∧ W i m σ' H':=fun {σ7 H7} I7 n7 => by
   obtain ⟨m',hm,w7⟩:=hN σ7 H7 n7
   refine ⟨m',hm,i + 1,σ7,H7,I7.nC,T.keep _ _ _ EJ fun b hb o e => (I7.pin (b,o) (List.mem_append_right _ (List.mem_append_right _ (hU hb e)))).1,fun b hb => ?_,w7⟩
   obtain ⟨o,e,d⟩:=T.obj _ _ EJ b hb
   exact (I7.pin (b,o) (List.mem_append_right _ (List.mem_append_right _ (hU hb e)))).2.1
  cases f with
  | next => obtain ⟨σ7,H7,I7,n7⟩:=q7; exact again I7 n7
  | cont => obtain ⟨σ7,H7,I7,n7⟩:=q7; exact again I7 n7
  | brk => obtain ⟨σ7,H7,I7,q7⟩:=q7; exact ⟨σ7,H7,I7.nC,q7⟩
  | ret v => obtain ⟨x7,σ7,H7,I7,r7,q7⟩:=q7; exact ⟨x7,σ7,H7,I7.nC,r7,q7⟩
end
end L2
namespace L2
open PySem PySem.Spec PyProof.Rows
noncomputable abbrev R2:=V → V → Hp → VK → Prop
noncomputable def ef (X:Cx) (f:Value → Value → Sem Value) (r:R2):Prop :=
 ∀ (pins:List (Addr × Obj)) (s:Shared) (σ:St) (H:Hp) (x y:V) (v u:Value) (Q:VK),Inv X pins σ H s → RelV x v → RelV y u → r x y H Q →
  wpAny (model X.prog X.w) X.A (f v u) (EP X pins σ Q) X.xe s
noncomputable def Lh (X:Cx) (f:Value → Sem Value) (r:V → Hp → VK → Prop):Prop :=
 ∀ (pins:List (Addr × Obj)) (s:Shared) (σ:St) (H:Hp) (x:V) (v:Value) (Q:VK),Inv X pins σ H s → RelV x v → r x H Q →
  wpAny (model X.prog X.w) X.A (f v) (EP X pins σ Q) X.xe s
noncomputable def cQ (X:Cx) (f:Value) (r:List V → Hp → VK → Prop):Prop :=
 ∀ (pins:List (Addr × Obj)) (s:Shared) (σ:St) (H:Hp) (xs:List V) (us:List Value) (Q:VK),Inv X pins σ H s → Vals xs us → r xs H Q →
  wpAny (model X.prog X.w) X.A (call f us) (EP X pins σ Q) X.xe s
noncomputable def GW (r:R2) (ta tb:TE):TE:=fun σ H Q => ta σ H fun x H1 => tb σ H1 fun y H2 => r x y H2 Q
noncomputable def R5 (r:V → Hp → VK → Prop) (ta:TE):TE:=fun σ H Q => ta σ H fun x H1 => r x H1 Q
noncomputable def rI (C:Int → Int → Prop) (g:Int → Int → V):R2:=fun x y H Q => ∃ i j,x = .int i ∧ y = .int j ∧ C i j ∧ Q (g i j) H
noncomputable def EK (g:Int → Int → V):R2:=fun x y H Q => ∃ i j,x = .int i ∧ y = .int j ∧ Q (g i j) H
noncomputable def rU (g:Int → V):V → Hp → VK → Prop:=fun x H Q => ∃ i,x = .int i ∧ Q (g i) H
section
variable {X:Cx} {a b c:Expr} {ta tb tc:TE} {pos:Pos}
theorem EL (ha:PE X a ta) (hb:PE X b tb) {pins:List (Addr × Obj)} {s:Shared} {σ:St} {H:Hp} {R:V → V → Hp → Prop} (I:Inv X pins σ H s)
  (h:ta σ H fun x H1 => tb σ H1 fun y H2 => R x y H2) {Q:Value → Shared → Prop} {f:Value → Value → Sem Value}
  (hf:∀ v u s2 x y H2,Inv X pins σ H2 s2 → RelV x v → RelV y u → R x y H2 → wpAny (model X.prog X.w) X.A (f v u) Q X.xe s2) :
  wpAny (model X.prog X.w) X.A (eval a X.env) (fun v s₁ => wpAny (model X.prog X.w) X.A (eval b X.env) (fun u s₂ => wpAny (model X.prog X.w) X.A (f v u) Q X.xe s₂) X.xe s₁) X.xe s:=by
 refine cV (ha pins s σ H _ I h) fun v s1 ⟨x,H1,I1,r1,q1⟩ => ?_
 refine cV (hb pins s1 σ H1 _ I1 q1) fun u s2 ⟨y,H2,I2,r2,q2⟩ => ?_
 exact hf v u s2 x y H2 I2 r1 r2 q2
theorem HD {op:Operator} {r:R2} (ho:ef X (binaryOp op) r) (ha:PE X a ta) (hb:PE X b tb):PE X (.BinOp a op b pos) (GW r ta tb):=by
 intro pins s σ H Q I h
 exact wpAny_BinOp (EL ha hb I h fun v u s2 x y H2 I2 rx ry q => ho pins s2 σ H2 x y v u Q I2 rx ry q)
theorem HE {op:UnaryOp} {r:V → Hp → VK → Prop} (ho:Lh X (unaryOp op) r) (ha:PE X a ta):PE X (.UnaryOp op a pos) (R5 r ta):=by
 intro pins s σ H Q I h
 exact UnaryOp_ (cV (ha pins s σ H _ I h) fun v s1 ⟨x,H1,I1,r1,q1⟩ => ho pins s1 σ H1 x v Q I1 r1 q1)
theorem GX {f:Value → Value → Sem Value} {C:Int → Int → Prop} {g:Int → Int → Int}
  (rule:∀ (i j:Int) (t u:Tok) (s:Shared) (Q:Value → Shared → Prop) (E:Value → Shared → Prop),C i j → Q (.int (g i j) s.toks) { s with toks:=s.toks + 1 } → wpAny (model X.prog X.w) X.A (f (.int i t) (.int j u)) Q E s) :
  ef X f (rI C fun i j => .int (g i j)):=by
 intro pins s σ H x y v u Q I rx ry h
 obtain ⟨i,j,rfl,rfl,hc,q⟩:=h
 obtain ⟨t,rfl⟩:=rx
 obtain ⟨t',rfl⟩:=ry
 exact rule i j t t' s _ _ hc ⟨.int (g i j),H,I.tok _,⟨_,rfl⟩,q⟩
theorem EM {f:Value → Value → Sem Value} {g:Int → Int → Int}
  (rule:∀ (i j:Int) (t u:Tok) (s:Shared) (Q:Value → Shared → Prop) (E:Value → Shared → Prop),Q (.int (g i j) s.toks) { s with toks:=s.toks + 1 } → wpAny (model X.prog X.w) X.A (f (.int i t) (.int j u)) Q E s) :
  ef X f (EK fun i j => .int (g i j)):=by
 intro pins s σ H x y v u Q I rx ry h
 obtain ⟨i,j,rfl,rfl,q⟩:=h
 obtain ⟨t,rfl⟩:=rx
 obtain ⟨t',rfl⟩:=ry
 exact rule i j t t' s _ _ ⟨.int (g i j),H,I.tok _,⟨_,rfl⟩,q⟩
theorem HF {f:Value → Value → Sem Value} {g:Int → Int → Bool}
  (rule:∀ (i j:Int) (t u:Tok) (s:Shared) (Q:Value → Shared → Prop) (E:Value → Shared → Prop),Q (.bool (g i j)) s → wpAny (model X.prog X.w) X.A (f (.int i t) (.int j u)) Q E s) :
  ef X f (EK fun i j => .bl (g i j)):=by
 intro pins s σ H x y v u Q I rx ry h
 obtain ⟨i,j,rfl,rfl,q⟩:=h
 obtain ⟨t,rfl⟩:=rx
 obtain ⟨t',rfl⟩:=ry
 exact rule i j t t' s _ _ ⟨.bl (g i j),H,I,rfl,q⟩
noncomputable def yH (i j:Int):Prop:=0 ≤ j ∧ j ≤ 1000000 ∧ i.natAbs < 2 ^ 64
noncomputable def yI (i j:Int):Prop:=(-(2 ^ 64) < i ∧ i < 2 ^ 64) ∨ (-(2 ^ 64) < j ∧ j < 2 ^ 64)
theorem yI.ok {i j:Int} (h:yI i j):IntMulOk i j:=by
 rcases h with ⟨h1,h2⟩ | ⟨h1,h2⟩
 ·exact .of_left (intBits_le_64 h1 h2)
 ·exact .of_right (intBits_le_64 h1 h2)
theorem uw (k:Nat):(0:Int) ≤ 2 ^ k:=by
 rw [two_pow_cast]
 exact Int.natCast_nonneg _
theorem EN:ef X (binaryOp .Add) (EK fun i j => .int (i + j)):=EM fun _ _ _ _ _ _ _ q => add_int q
theorem EO:ef X (binaryOp .Sub) (EK fun i j => .int (i - j)):=EM fun _ _ _ _ _ _ _ q => sub_int q
theorem ER:ef X (binaryOp .Mult) (rI yI fun i j => .int (i * j)):=GX fun _ _ _ _ _ _ _ hc q => mul_int q hc.ok
theorem BL:ef X (binaryOp .Mod) (rI (fun _ j => j ≠ 0) fun i j => .int (i.fmod j)):=GX fun _ _ _ _ _ _ _ hc q => mod_int' hc q
theorem ES:ef X (binaryOp .Pow) (rI yH fun i j => .int (i ^ j.toNat)):=GX fun _ _ _ _ _ _ _ hc q => pow_int_small hc.1 hc.2.1 hc.2.2 q
theorem ET:ef X (binaryOp .RShift) (rI (fun _ j => 0 ≤ j) fun i j => .int (i / 2 ^ j.toNat)):=GX fun i j _ _ _ _ _ hc q =>
 rshift_int hc (by rw [Int.fdiv_eq_ediv_of_nonneg i (uw _)]; exact q)
theorem EU:ef X (binaryOp .BitAnd) (EK fun i j => .int (Builtin.bitAnd i j)):=EM fun _ _ _ _ _ _ _ q => and_int q
theorem R6 {f:Value → Sem Value} {g:Int → Int}
  (rule:∀ (i:Int) (t:Tok) (s:Shared) (Q:Value → Shared → Prop) (E:Value → Shared → Prop),Q (.int (g i) s.toks) { s with toks:=s.toks + 1 } → wpAny (model X.prog X.w) X.A (f (.int i t)) Q E s) :
  Lh X f (rU fun i => .int (g i)):=by
 intro pins s σ H x v Q I rx h
 obtain ⟨i,rfl,q⟩:=h
 obtain ⟨t,rfl⟩:=rx
 exact rule i t s _ _ ⟨.int (g i),H,I.tok _,⟨_,rfl⟩,q⟩
theorem EV:Lh X (unaryOp .USub) (rU fun i => .int (-i)):=R6 fun _ _ _ _ _ q => neg_int q
end
section
variable {X:Cx} {a b c:Expr} {ta tb tc:TE} {pos:Pos}
theorem HG:ef X (compareOp .Lt) (EK fun i j => .bl (decide (i < j))):=HF fun _ _ _ _ _ _ _ q => lt_int q
theorem HH:ef X (compareOp .Gt) (EK fun i j => .bl (decide (j < i))):=HF fun _ _ _ _ _ _ _ q => gt_int q
theorem ef.or {f:Value → Value → Sem Value} {r r':R2} (h:ef X f r) (h':ef X f r'):ef X f (fun x y H Q => r x y H Q ∨ r' x y H Q):=by
 intro pins s σ H x y v u Q I rx ry q
 rcases q with q | q
 ·exact h pins s σ H x y v u Q I rx ry q
 ·exact h' pins s σ H x y v u Q I rx ry q
theorem yJ (b:Expr) {op:CmpOp} (h:op ≠ .In:=by decide) (h2:op ≠ .NotIn:=by decide):behindInMarks op b = false:=by
 have e1:(op == CmpOp.In) = false:=by cases op <;> first | rfl | exact absurd rfl h
 have e2:(op == CmpOp.NotIn) = false:=by cases op <;> first | rfl | exact absurd rfl h2
 cases b <;> simp [behindInMarks,e1,e2]
theorem BM {op:CmpOp} {r:R2} (ho:ef X (compareOp op) r) (ha:PE X a ta) (hb:PE X b tb) (hm:behindInMarks op b = false):PE X (.Compare a [op] [b] pos) (GW r ta tb):=by
 intro pins s σ H Q I h
 exact wpAny_Compare1 (EL ha hb I h fun v u s2 x y H2 I2 rx ry q => ho pins s2 σ H2 x y v u Q I2 rx ry q) hm
noncomputable def HI (t:TE):TT:=fun σ H Q => t σ H fun x H' => ∃ k,x = .bl k ∧ Q k H'
theorem BN {op:CmpOp} {r:R2} (ho:ef X (compareOp op) r) (ha:PE X a ta) (hb:PE X b tb) (hm:behindInMarks op b = false):PT X (.Compare a [op] [b] pos) (HI (GW r ta tb)):=by
 intro pins s σ H Q I h
 refine wpAny_isTrue_Compare1 (cV (ha pins s σ H _ I h) fun v s1 ⟨x,H1,I1,r1,q1⟩ => cV (hb pins s1 σ H1 _ I1 q1) fun u s2 ⟨y,H2,I2,r2,q2⟩ =>
  cV (ho pins s2 σ H2 x y v u _ I2 r1 r2 q2) fun c s3 ⟨z,H3,I3,r3,k,e,q3⟩ => ?_) hm
 subst e
 cases r3
 exact wpAny_truthy_bool ⟨H3,I3,q3⟩
theorem kI:(sizeLine:Nat) < 2 ^ 63:=by rw [sizeLine_eq]; decide
theorem uz:ef X (binaryOp .Add) (fun x y H Q => ∃ i j,x = .str i ∧ y = .str j ∧ i.length + j.length ≤ sizeLine ∧ Q (.str (i ++ j)) H):=by
 intro pins s σ H x y v u Q I rx ry h
 obtain ⟨i,j,rfl,rfl,hz,q⟩:=h
 obtain ⟨t,rfl⟩:=rx
 obtain ⟨t',rfl⟩:=ry
 exact add_str (fun t' tk => ⟨.str (i ++ j),H,I.tok _,⟨_,rfl⟩,q⟩) hz
theorem vals1 {x:V} {us:List Value} (r:Vals [x] us):∃ u,us = [u] ∧ RelV x u:=by
 cases r with
 | cons r1 r2 => cases r2; exact ⟨_,rfl,r1⟩
theorem vals2 {x y:V} {us:List Value} (r:Vals [x,y] us):∃ u w',us = [u,w'] ∧ RelV x u ∧ RelV y w':=by
 cases r with
 | cons r1 r2 =>
  cases r2 with
  | cons r3 r4 => cases r4; exact ⟨_,_,rfl,r1,r3⟩
end
end L2
namespace L2
open PySem PySem.Spec PyProof.Rows
structure EW (h:Heap) (x dx C:Addr) (mA:Str → Option Value):Prop where
 obj:h.get? x = some (PySem.W.instObj C dx)
 ns:h.Ns1 dx mA
 ne:dx ≠ x
theorem xa {h:Heap} {dx:Addr} {mA:Str → Option Value} (n:h.Ns1 dx mA):∃ od,h.get? dx = some od ∧ ∀ name,PySem.W.lookIn name od = some (mA name):=by
 obtain ⟨o,es,ep,ho,hd,hk,_,hm⟩:=n
 refine ⟨o,ho,fun name => ?_⟩
 have e:=hm name
 unfold nsFind findBy at e
 rw [← Array.find?_toList] at e
 unfold PySem.W.lookIn
 rw [hd]
 dsimp only
 split
 ·rename_i y q
  rw [q] at e
  exact congrArg some e
 ·rename_i q
  rw [q] at e
  have a:es.toList.any (·.refKey) = false:=by
   rw [List.any_eq_false]
   intro y hy
   obtain ⟨z,t,Li⟩:=hk y (Array.mem_toList_iff.mp hy)
   simp [DictEntry.refKey,Li]
  have a':¬ es.toList.any (·.refKey) = true:=by rw [a]; exact Bool.false_ne_true
  rw [if_neg a']
  exact congrArg some e
theorem EW.look {h:Heap} {x dx C:Addr} {mA:Str → Option Value} (I:EW h x dx C mA):∃ od,PySem.W.InstAt h x (PySem.W.instObj C dx) C (some od) ∧ ∀ name,PySem.W.lookIn name od = some (mA name) :=
 let ⟨od,ho,hl⟩:=xa I.ns
 ⟨od,⟨I.obj,rfl,rfl,ho⟩,hl⟩
section
variable {prog:Program} {w:World} {A:Around} {E:Value → Shared → Prop} {s:Shared} {K:PySem.W.Frag} {x dx C f:Addr} {mA:Str → Option Value} {name:Str} {v:Value}
end
theorem kG.some_of {v:V} {o:Option Value} (r:kG (some v) o):∃ u,o = some u ∧ RelV v u:=by
 cases o with
 | none => exact (show False from r).elim
 | some u => exact ⟨u,rfl,r⟩
section
variable {P:Program} {w:World} {H H':Hp} {h h':Heap} {a C dx:Addr} {fs RZ:List (Str × V)}
theorem BO (bP:gv P w H h) (e:H a = some (.ins C dx fs)):∃ mA,EW h a dx C mA ∧ (∀ f,kG (fs.lookup f) (mA f)) ∧ PySem.Within mA (fs.map (·.1)) ∧ fs.length ≤ 1000 ∧ H dx = some (.own a):=by
 obtain ⟨d,z,ne,ob,mA,n,r,q⟩:=(show b7 P w H h a (.ins C dx fs) from bP a _ e)
 exact ⟨mA,⟨ob,n,ne⟩,r,q,z,d⟩
end
structure Lj (K:PySem.W.Frag) (C:Addr):Prop where
 pg:PySem.W.plainGet K C Str.empty = true
 hd:PySem.W.hasDictIn K C = true
 po:PySem.W.plainOver K C = true
 sa:PySem.W.findIn K (.ref C) "__setattr__" = some (some (.builtin "object.__setattr__"))
theorem Lj.get {K:PySem.W.Frag} {C:Addr} (c:Lj K C) (f:Str):PySem.W.plainGet K C f = true:=c.pg
section
variable {X:Cx} {pins:List (Addr × Obj)} {σ:St} {H:Hp} {s:Shared} {a C dx:Addr} {fs:List (Str × V)} {f:Str} {v:V} {A:Around} {E:Value → Shared → Prop}
end
section
variable {X:Cx} {o e value:Expr} {f:Str} {pos pos' o5:Pos} {ta tv:TE}
end
section
variable {X:Cx} {pins:List (Addr × Obj)} {σ:St} {H:Hp} {s:Shared} {A:Around} {E:Value → Shared → Prop} {Q:Value → Shared → Prop} {c:Value} {b:Bool}
inductive mD (K:PySem.W.Frag) (H:Hp):V → Value → Prop where
 | e7:mD K H .e7 (.type "NoneType")
 | bl (x:Bool):mD K H (.bl x) (.type "bool")
 | int (i:Int):mD K H (.int i) (.type "int")
 | str (x:Str):mD K H (.str x) (.type "str")
 | m5 (x:UInt64):mD K H (.m5 x) (.type "float")
 | lst {a:Addr} {xs:List V} (e:H a = some (.lst xs)):mD K H (.ref a) (.type "list")
 | fN {a:Addr} {o:Obj} {xs:List V} (e:H a = some (.fN o (.lst xs))):mD K H (.ref a) (.type "list")
 | tup {a:Addr} {xs:List V} (e:H a = some (.tup xs)):mD K H (.ref a) (.type "tuple")
 | dK {a:Addr} {aO:List (Key × V)} (e:H a = some (.dK aO)):mD K H (.ref a) (.type "dict")
 | dT {a:Addr} {aO:List (List Key × V)} (e:H a = some (.dT aO)):mD K H (.ref a) (.type "dict")
 | ins {a C dx:Addr} {fs:List (Str × V)} (e:H a = some (.ins C dx fs)) (cl:Lj K C) (ha:PySem.W.findIn K (.ref C) "__class__" = some (some (.builtin "object.__class__")))
   (hn:PySem.W.specialIn K (.builtin "object.__class__") "__get__" = some (some (.builtin "getset_descriptor.__get__"))) (QI:PySem.W.takesIn K (.builtin "object.__class__") = some true)
   (hm:PySem.W.mroIn K C (.type "object") = some true):mD K H (.ref a) (.ref C)
theorem eB {x:V} {u t:Value} (I:Inv X pins σ H s) (rx:RelV x u) (ty:mD X.K H x t) (e:PySem.W.kitOne X.K t c = some b) (h:∀ tk,Q (.bool b) { s with toks:=tk }) :
  wpAny (model X.prog X.w) A (call (.builtin "isinstance") [u,c]) Q E s:=by
 cases ty with
 | e7 => cases (show u = Value.none from rx); exact PySem.W.kia_one PySem.W.kitx_none I.pI True.intro e (fun z => nomatch z) h
 | bl y => cases (show u = Value.bool y from rx); exact PySem.W.kia_one PySem.W.kitx_bool I.pI True.intro e (fun z => nomatch z) h
 | int i => obtain ⟨t,q⟩:=(show ∃ t,u = Value.int i t from rx); cases q; exact PySem.W.kia_one PySem.W.kitx_int I.pI True.intro e (fun z => nomatch z) h
 | str y => obtain ⟨t,q⟩:=(show ∃ t,u = Value.str y t from rx); cases q; exact PySem.W.kia_one PySem.W.kitx_str I.pI True.intro e (fun z => nomatch z) h
 | m5 y => obtain ⟨t,q⟩:=(show ∃ t,u = Value.float y t from rx); cases q; exact PySem.W.kia_one PySem.W.kitx_float I.pI True.intro e (fun z => nomatch z) h
 | @lst a xs ea =>
  cases (show u = Value.ref a from rx)
  obtain ⟨_,_,n,_,h1⟩:=(show b7 X.prog X.w H s.heap a (.lst xs) from I.bP a _ ea)
  exact PySem.W.kia_one PySem.W.kitx_list I.pI ⟨_,h1,rfl⟩ e (fun z => nomatch z) h
 | @fN a ob xs ea =>
  cases (show u = Value.ref a from rx)
  obtain ⟨_,_,_,n,_,h1⟩:=(show b7 X.prog X.w H s.heap a (.fN ob (.lst xs)) from I.bP a _ ea)
  exact PySem.W.kia_one PySem.W.kitx_list I.pI ⟨_,h1,rfl⟩ e (fun z => nomatch z) h
 | @tup a xs ea =>
  cases (show u = Value.ref a from rx)
  obtain ⟨_,_,_,p⟩:=(show b7 X.prog X.w H s.heap a (.tup xs) from I.bP a _ ea)
  obtain ⟨o,h1,h2,_⟩:=p
  exact PySem.W.kia_one PySem.W.kitx_tuple I.pI ⟨o,h1,h2⟩ e (fun z => nomatch z) h
 | @dK a aO ea =>
  cases (show u = Value.ref a from rx)
  obtain ⟨_,_,vs,_,p⟩:=(show b7 X.prog X.w H s.heap a (.dK aO) from I.bP a _ ea)
  obtain ⟨o,es,ep,h1,h2,_⟩:=p
  exact PySem.W.kia_one PySem.W.kitx_dict I.pI ⟨o,h1,h2.1⟩ e (fun z => nomatch z) h
 | @dT a aO ea =>
  cases (show u = Value.ref a from rx)
  obtain ⟨_,_,xs,_,o,es,ep,h1,h2,_⟩:=(show b7 X.prog X.w H s.heap a (.dT aO) from I.bP a _ ea)
  exact PySem.W.kia_one PySem.W.kitx_dict I.pI ⟨o,h1,h2.1⟩ e (fun z => nomatch z) h
 | @ins a C dx fs ea cl ha hn QI hm =>
  cases (show u = Value.ref a from rx)
  obtain ⟨mA,O,_⟩:=BO I.bP ea
  obtain ⟨od,J,_⟩:=O.look
  exact PySem.W.kia_one (PySem.W.kitx_own (cl.get _) cl.hd ha hn QI hm) I.pI J e (fun z => nomatch z) h
end
end L2
namespace L2
open PySem PySem.Spec PyProof.Rows
structure eh (k:Nat) (A:Around):Prop where
 hd:A.handled = none
 dp:A.depth + 3 * k + 5 < recursionLimit
 un:A.units + 16 * k + 200 < cLine
theorem eh.mono {j k:Nat} {A:Around} (r:eh k A) (h:j ≤ k):eh j A:=⟨r.hd,by have:=r.dp; lia,by have:=r.un; lia⟩
theorem eh.deeper {k:Nat} {A:Around} (r:eh (k + 1) A) (env:Env):eh k (A.deeper env) :=
 ⟨r.hd,by have:=r.dp; show A.depth + 1 + 3 * k + 5 < _; lia,by have:=r.un; show A.units + 3 + 16 * k + 200 < _; lia⟩
theorem eh.depth {k:Nat} {A:Around} (r:eh k A):A.depth < recursionLimit:=by have:=r.dp; lia
theorem eh.units {k:Nat} {A:Around} (r:eh k A):A.units + 64 < cLine:=by have:=r.un; lia
noncomputable def HJ:TA:=fun _ H Q => Q [] H
noncomputable def DG (ta:TE) (tr:TA):TA:=fun σ H Q => ta σ H fun x H1 => tr σ H1 fun xs H2 => Q (x :: xs) H2
section
variable {X:Cx} {e:Expr} {es:List Expr} {te:TE} {t:TA} {pos:Pos}
theorem uA:PA X [] HJ:=fun _ _ _ _ H Q I h => Calls.spliced_nil ⟨[],H,I,.nil,h⟩
theorem jP (ha:PE X e te) (hr:PA X es t) (hs:starEach (e :: es) X.env = (false,eval e X.env) :: starEach es X.env:=by rfl):PA X (e :: es) (DG te t):=by
 intro pos pins s σ H Q I h
 rw [hs]
 show wpAny _ _ (spliced ((false,eval e X.env) :: backTo pos (starEach es X.env))) _ _ s
 refine Calls.spliced_cons (cV (ha pins s σ H _ I h) fun u s1 ⟨x,H1,I1,r1,q1⟩ => ?_)
 exact cV (hr pos pins s1 σ H1 _ I1 q1) fun us s2 ⟨xs,H2,I2,r2,q2⟩ => ⟨x :: xs,H2,I2,.cons r1 r2,q2⟩
noncomputable def Lk (t:TA):TE:=fun σ H Q => t σ H fun xs H1 => xs.length ≤ sizeLine ∧ ∀ p,H1 p = none → Q (.ref p) (upd H1 p (.tup xs))
noncomputable def Ll (t:TA):TE:=fun σ H Q => t σ H fun xs H1 => xs.length ≤ sizeLine ∧ ∀ p,H1 p = none → Q (.ref p) (upd H1 p (.lst xs))
theorem EY {x1} (h:PA X es t):PE X (.Tuple es x1 pos) (Lk t):=by
 intro pins s σ H Q I hq
 refine wpAny_Tuple_spliced (cV (h pos pins s σ H _ I hq) fun us s1 ⟨xs,H1,I1,r,z,q⟩ => ⟨by rw [← r.length]; exact z,?_⟩)
 have hf:H1 s1.heap.objs.size = none:=I1.bP.fresh (Nat.le_refl _)
 refine ⟨.ref s1.heap.objs.size,upd H1 s1.heap.objs.size (.tup xs),I1.laid (t':=s1.toks) (fun b u e => Heap.get?_push_of_some _ e) (Nat.le_refl _) ?_,rfl,q _ hf⟩
 exact ⟨z,us,r,⟨_,Heap.get?_push_size _ rfl,rfl,_,rfl⟩⟩
theorem EZ (h:PA X es t):PE X (.List es pos) (Ll t):=by
 intro pins s σ H Q I hq
 refine wpAny_List_spliced (cV (h pos pins s σ H _ I hq) fun us s1 ⟨xs,H1,I1,r,z,q⟩ => ⟨by rw [← r.length]; exact z,?_⟩)
 have hf:H1 s1.heap.objs.size = none:=I1.bP.fresh (Nat.le_refl _)
 refine ⟨.ref s1.heap.objs.size,upd H1 s1.heap.objs.size (.lst xs),I1.laid (t':=s1.toks) (fun b u e => Heap.get?_push_of_some _ e) (Nat.le_refl _) ?_,rfl,q _ hf⟩
 exact ⟨z,us,0,r,Heap.get?_push_size _ rfl⟩
end
noncomputable abbrev Sp:=List V → Hp → VK → XK → Prop
noncomputable abbrev yK:=List Env → Hp → Shared → XK → Value → Shared → Prop
structure uB (P:Program) (w:World) (K:PySem.W.Frag) (mg:Str → Option Value) (base:Heap) (A:Around) (outer:List Env) (s:Shared) (H:Hp):Prop where
 frames:A.frames = some outer
 mod:Mod K mg base
 bs:∀ b o,base.get? b = some o → s.heap.get? b = some o ∧ H b = none
 DC:base.objs.size ≤ s.heap.objs.size
 mB:s.heap.FunFrames base outer
 Bz:∀ b ∈ gx outer,H b = none
 bP:gv P w H s.heap
 bare:AllBare s.gens
noncomputable def CE (outer:List Env) (P:Program) (w:World) (H:Hp) (s:Shared) (Q:VK) (u:Value) (s':Shared):Prop :=
 ∃ v H',s'.os = s.os ∧ AllBare s'.gens ∧ Un (gx outer) [] H H' s.heap s'.heap ∧ gv P w H' s'.heap ∧ RelV v u ∧ Q v H'
noncomputable def CR (CX:yK) (outer:List Env) (P:Program) (w:World) (H:Hp) (s:Shared) (Q:VK) (E:XK) (r:Result) (s':Shared):Prop :=
 match r with
 | .ok (.ret u) => CE outer P w H s Q u s'
 | .ok _ => False
 | .error e => CX outer H s E e s'
structure jQ (P:Program) (w:World) (K:PySem.W.Frag) (mg:Str → Option Value) (base:Heap) (CX:yK) (k:Nat) (f:Addr) (fd:FuncData) (ps:List Str) (sp:Sp):Prop where
 len:∀ vs H Q E,sp vs H Q E → vs.length = ps.length
 run:∀ (A:Around) (outer:List Env) (s:Shared) (H:Hp) (args:Args) (us:List Value) (vs:List V) (Q:VK) (E:XK),eh k A → uB P w K mg base A outer s H → BindsTo s fd args (ps.zip us) → Vals vs us → sp vs H Q E →
  codeAny (model P w) A (.call (.ref f) args) (CR CX outer P w H s Q E) s
section
variable {X:Cx} {pins:List (Addr × Obj)} {σ:St} {H:Hp} {s s':Shared}
theorem Inv.E1 (I:Inv X pins σ H s):uB X.prog X.w X.K X.mg X.base X.A X.stack s H :=
 ⟨I.ok.frames,I.ok.mod,I.bs,Nat.le_trans I.ok.DC I.sz,I.stack,I.qE,I.bP,I.bare⟩
theorem Inv.after {Q:VK} {u:Value} (I:Inv X pins σ H s) (h:CE X.stack X.prog X.w H s Q u s'):EP X pins σ Q u s':=by
 obtain ⟨v,H',os,bare,un,bP,r,q⟩:=h
 obtain ⟨hh,g,d,t,R7⟩:=s'
 obtain rfl:R7 = s.os:=os
 exact ⟨v,H',I.call (h':=hh) (g':=g) (d':=d) (t':=t) (ch:=[]) un bP bare (fun b z => absurd z (by simp)),r,q⟩
end
noncomputable def HK (sp:Sp) (o6:List V) (E:XK) (t:TA):TE:=fun σ H Q => t σ H fun vs H1 => sp (vs ++ o6) H1 Q E
noncomputable def Binds (K:PySem.W.Frag) (fd:FuncData) (ps:List Str) (ds:List Value):Prop :=
 ∀ (s:Shared) (us:List Value),K.In s.heap → (us ++ ds).length = ps.length → BindsTo s fd ⟨us,[]⟩ (ps.zip (us ++ ds))
theorem Binds.all {K:PySem.W.Frag} {fd:FuncData} {ps:List Str} (h:∀ us:List Value,us.length = ps.length → bindArgs fd ⟨us,[]⟩ = pure (ps.zip us)):Binds K fd ps []:=fun s us _ hl => by
 rw [List.append_nil] at hl ⊢
 exact .of_eq (h us hl)
noncomputable def Passes (CX:yK) (X:Cx) (E:XK):Prop:=∀ (pins:List (Addr × Obj)) (σ:St) (H:Hp) (s:Shared) (e:Value) (s':Shared),Inv X pins σ H s → CX X.stack H s E e s' → X.xe e s'
section
variable {X:Cx} {CX:yK} {k:Nat} {f C:Addr} {fd:FuncData} {ps:List Str} {sp:Sp} {o6:List V} {ds:List Value} {E:XK} {x m:Str} {p pos apos:Pos} {e o:Expr} {es:List Expr} {ta:TE} {t:TA}
theorem E2 {pins:List (Addr × Obj)} {σ:St} {H:Hp} {s:Shared} {Q:VK} {us:List Value} {vs:List V} (F:jQ X.prog X.w X.K X.mg X.base CX k f fd ps sp) (hr:eh k X.A) (hb:Binds X.K fd ps ds) (hd:Vals o6 ds) (hx:Passes CX X E)
  (I:Inv X pins σ H s) (r:Vals vs us) (h:sp (vs ++ o6) H Q E):wpAny (model X.prog X.w) X.A (call (.ref f) us) (EP X pins σ Q) X.xe s:=by
 have r2:Vals (vs ++ o6) (us ++ ds):=r.append hd
 have hl:(us ++ ds).length = ps.length:=by rw [← r2.length]; exact F.len _ _ _ _ h
 refine wpAny_call (codeAny_mono (F.run X.A X.stack s H ⟨us,[]⟩ (us ++ ds) (vs ++ o6) Q E hr I.E1 (hb s us I.pI hl) r2 h) fun r s' hq => ?_)
 cases r with
 | error e => exact hx pins σ H s e s' I hq
 | ok fl =>
  cases fl with
  | ret u => exact I.after hq
  | next => exact False.elim hq
  | brk => exact False.elim hq
  | cont => exact False.elim hq
theorem BP (F:jQ X.prog X.w X.K X.mg X.base CX k f fd ps sp) (hr:eh k X.A) (hg:Gl X x) (hm:X.mg x = some (.ref f)) (hk:PySem.W.keepIn X.K (.ref f) = true) (hb:Binds X.K fd ps ds) (hd:Vals o6 ds) (hx:Passes CX X E)
  (ha:PA X (e :: es) t) (mE:(x == ("__debug__":Str)) = false:=by decide) (he:starEach (e :: es) X.env = (false,eval e X.env) :: starEach es X.env:=by rfl) (jo:(backTo pos (starEach es X.env)).any (·.1) = false:=by rfl) :
  PE X (.Call (.Name x p) (e :: es) [] pos) (HK sp o6 E t):=by
 intro pins s σ H Q I h
 refine wpAny_Call_Name_kw (m7 I hg hm ?_ mE)
 refine PySem.W.callWith_K (h₀:=X.base) I.ok.mod.GV hk (cV (ha pos pins s σ H _ I h) fun us s1 ⟨vs,H1,I1,r,q⟩ => ⟨I1.pI,?_⟩) he jo
 exact E2 F hr hb hd hx I1 r q
end
noncomputable def PK (X:Cx) (yL:List Keyword) (t:TA):Prop :=
 ∀ (pos:Pos) (pins:List (Addr × Obj)) (s:Shared) (σ:St) (H:Hp) (Q:List V → Hp → Prop),Inv X pins σ H s → t σ H Q → wpAny (model X.prog X.w) X.A (evalAll ((backToKw pos (keywordEach yL X.env)).map (·.2))) (AP X pins σ Q) X.xe s
section
variable {X:Cx} {CX:yK} {k:Nat} {f C:Addr} {fd:FuncData} {ps ks:List Str} {sp:Sp} {E:XK} {x m:Str} {p pos apos Lm:Pos} {e o:Expr} {es:List Expr} {yL:List Keyword} {te ta:TE} {t tk:TA} {nm:Option Str}
theorem E3:PK X [] HJ:=fun _ _ _ _ H Q I h => wpAny_evalAll_nil ⟨[],H,I,.nil,h⟩
theorem BQ (ha:PE X e te) (hr:PK X yL t):PK X (⟨nm,e,Lm⟩ :: yL) (DG te t):=by
 intro pos pins s σ H Q I h
 show wpAny _ _ (evalAll ((do let v ← eval e X.env; standAt pos; pure v) :: (backToKw pos (keywordEach yL X.env)).map (·.2))) _ _ s
 refine wpAny_evalAll_cons (wpAny_bind (cV (ha pins s σ H _ I h) fun u s1 ⟨x,H1,I1,r1,q1⟩ => wpAny_bind (wpAny_standAt (wpAny_pure ?_))))
 exact cV (hr pos pins s1 σ H1 _ I1 q1) fun us s2 ⟨xs,H2,I2,r2,q2⟩ => ⟨x :: xs,H2,I2,.cons r1 r2,q2⟩
variable {g:List Value → List Value → List Value} {gV:List V → List V → List V}
end
structure aY (N P:List Str) (sc:Scope):Prop where
 kind:sc.kind = .function
 co:sc.isCoroutine = false
 gen:sc.isGenerator = false
 nd:N.Nodup
 pre:N.take P.length = P
 par:∀ x ∈ P,sc.names.lookup x = some .local ∨ sc.names.lookup x = some .cell
 E4:∀ y ∈ sc.names,y.2 ≠ .free
theorem pK {kindOf:Str → Option NameKind} {x:Str}:∀ {binds:List (Str × Value)} {m:Str → Option Value},(∀ v,(x,v) ∉ binds) → bindL kindOf binds m x = m x
 | [],_,_ => rfl
 | (n,v) :: r,m,h => by
  unfold bindL
  rw [pK fun w hw => h w (List.mem_cons_of_mem _ hw)]
  split
  ·have:x ≠ n:=by rintro rfl; exact h v List.mem_cons_self
   simp [this]
  ·rfl
theorem pL {kindOf:Str → Option NameKind} {x:Str}:∀ {binds:List (Str × Value)} {m:Str → Option Value},(∀ v,(x,v) ∉ binds) → bindC kindOf binds m x = m x
 | [],_,_ => rfl
 | (n,v) :: r,m,h => by
  unfold bindC
  rw [pL fun w hw => h w (List.mem_cons_of_mem _ hw)]
  split
  ·rfl
  ·have:x ≠ n:=by rintro rfl; exact h v List.mem_cons_self
   simp [this]
theorem pM {kindOf:Str → Option NameKind} {x:Str} {v:Value}:∀ {P:List Str} {vs:List Value} {i:Nat} {m:Str → Option Value},P.Nodup → P[i]? = some x → vs[i]? = some v → kindOf x = some .local →
  bindL kindOf (P.zip vs) m x = some v
 | [],_,_,_,_,h,_,_ => by simp at h
 | _ :: _,[],_,_,_,_,h,_ => by simp at h
 | p :: P,w :: vs,0,m,nd,h1,h2,hk => by
  simp at h1 h2; subst h1; subst h2
  show bindL kindOf ((p,w) :: P.zip vs) m p = _
  unfold bindL
  rw [pK fun v hv => (List.nodup_cons.mp nd).1 (List.of_mem_zip hv).1,if_pos hk]
  simp
 | p :: P,w :: vs,i + 1,m,nd,h1,h2,hk => by
  show bindL kindOf ((p,w) :: P.zip vs) m x = _
  unfold bindL
  exact pM (i:=i) (List.nodup_cons.mp nd).2 (by simpa using h1) (by simpa using h2) hk
theorem pN {kindOf:Str → Option NameKind} {x:Str} {v:Value}:∀ {P:List Str} {vs:List Value} {i:Nat} {m:Str → Option Value},P.Nodup → P[i]? = some x → vs[i]? = some v → kindOf x ≠ some .local →
  bindC kindOf (P.zip vs) m x = some v
 | [],_,_,_,_,h,_,_ => by simp at h
 | _ :: _,[],_,_,_,_,h,_ => by simp at h
 | p :: P,w :: vs,0,m,nd,h1,h2,hk => by
  simp at h1 h2; subst h1; subst h2
  show bindC kindOf ((p,w) :: P.zip vs) m p = _
  unfold bindC
  rw [pL fun v hv => (List.nodup_cons.mp nd).1 (List.of_mem_zip hv).1,if_neg hk]
  simp
 | p :: P,w :: vs,i + 1,m,nd,h1,h2,hk => by
  show bindC kindOf ((p,w) :: P.zip vs) m x = _
  unfold bindC
  exact pN (i:=i) (List.nodup_cons.mp nd).2 (by simpa using h1) (by simpa using h2) hk
noncomputable def start (N:List Str) (vs:List V):St:=vs.map some ++ List.replicate (N.length - vs.length) none
noncomputable def fO (CX:yK) (P:Program) (w:World) (K:PySem.W.Frag) (mg:Str → Option Value) (base:Heap) (N:List Str) (qual:Str) (scope:Scope) (f:Addr) (cd:Value) (A:Around) (outer:List Env) (s:Shared) (H:Hp) (E:XK):Cx where
 prog:=P
 w:=w
 K:=K
 mg:=mg
 base:=base
 A:=A.deeper (envOfC qual scope s.heap.objs.size f cd)
 N:=N
 s₀:=s
 H₀:=H
 env:=envOfC qual scope s.heap.objs.size f cd
 outer:=outer
 stack:=envOfC qual scope s.heap.objs.size f cd :: outer
 ex:=[]
 calm:=true
 fn:=fun _ => true
 pn:=[]
 xe:=fun e s' => wpAny (model P w) (A.deeper (envOfC qual scope s.heap.objs.size f cd)) (leaving (envOfC qual scope s.heap.objs.size f cd) e) (fun _ J1 => CX outer H s E e J1) (fun e' J1 => CX outer H s E e' J1) s'
theorem sh {sc:Scope} {n:Nat} {x:Str} (h:sc.names.lookup x = some .cell):∃ c,(cellsFrom n sc.names []).lookup x = some c:=by
 have q:=PySem.W.cellsFrom_some sc.names n [] (.inl h)
 exact Option.isSome_iff_exists.mp q
theorem xb {CX:yK} {P:Program} {w:World} {K:PySem.W.Frag} {mg:Str → Option Value} {base:Heap} {N ps:List Str} {qual:Str} {scope:Scope} {f:Addr} {cd:Value} {A:Around} {outer:List Env} {s s1:Shared} {H:Hp} {E:XK} {us:List Value} {vs:List V}
  (S:aY N ps scope) (hd:A.handled = none) (e0:uB P w K mg base A outer s H) (hl:vs.length = ps.length) (r:Vals vs us)
  (x:InCallC s s.heap.objs.size (bindL (envOfC qual scope s.heap.objs.size f cd).kindOf (ps.zip us) fun _ => none) (cellsFrom (s.heap.objs.size + 1) scope.names []) (bindC (envOfC qual scope s.heap.objs.size f cd).kindOf (ps.zip us) fun _ => none) s1) :
  Inv (fO CX P w K mg base N qual scope f cd A outer s H E) [] (start N vs) H s1:=by
 have jo:ps.length ≤ N.length:=by have:=congrArg List.length S.pre; rw [List.length_take] at this; lia
 obtain ⟨h1,tk,rfl,hk⟩:=x.done
 have GY:∀ b:Addr,b ∉ (fO CX P w K mg base N qual scope f cd A outer s H E).ex:=fun b z => absurd (show b ∈ ([]:List Addr) from z) (by simp)
 refine ⟨⟨e0.mod,S.kind,rfl,rfl,Nat.le_refl _,fun y z c h1 h2 => ?_,fun y hy => ?_,fun y c _ h => ?_,fun _ => hd,Around.frames_deeper e0.frames,.inr ⟨rfl,rfl⟩,fun b z => absurd z (GY b),e0.bs,e0.DC,fun b _ _ => GY b,fun b z => absurd z (GY b),e0.mB,e0.Bz⟩,
  rfl,e0.bare,Un.kept hk,⟨_,x.toInCall.ns,fun i y v h1 h2 h3 => ?_⟩,fun y c h => ⟨_,x.cell y c h⟩,e0.bP.fresh (Nat.le_refl _),fun y c h => ?_,fun p hp => absurd (show p ∈ ([]:List (Addr × Obj)) from hp) (by simp),e0.bP.kept hk,?_⟩
 ·exact name_of_addr x.apart (PySem.mem_of_lookup h1) (PySem.mem_of_lookup h2)
 ·have hy:scope.names.lookup y = some .cell ∨ scope.names.lookup y = some .free:=hy
  rcases hy with hy | hy
  ·exact sh hy
  ·exact absurd rfl (S.E4 _ (PySem.mem_of_lookup hy))
 ·exact Nat.le_of_lt (x.above y c (PySem.mem_of_lookup h))
 ·have hi:i < vs.length:=by
   unfold start at h2
   by_cases hi:i < vs.length
   ·exact hi
   ·rw [List.getElem?_append_right (by simpa using hi)] at h2
    rw [List.getElem?_replicate] at h2
    split at h2 <;> cases h2
  have ha:vs[i]? = some v:=by
   unfold start at h2
   rw [List.getElem?_append_left (by simpa using hi),List.getElem?_map] at h2
   cases e:vs[i]? with
   | none => rw [e] at h2; cases h2
   | some a => rw [e] at h2; cases h2; rfl
  obtain ⟨u,hu,rv⟩:=r.get ha
  have hp:ps[i]? = some y:=by
   rw [← S.pre,List.getElem?_take_of_lt (by lia)]; exact h1
  have J2:ps.Nodup:=by rw [← S.pre]; exact S.nd.sublist (List.take_sublist _ _)
  refine ⟨u,rv,?_⟩
  rcases S.par y (List.mem_of_getElem? hp) with k | k
  ·exact .inl ⟨k,pM J2 hp hu k⟩
  ·obtain ⟨c,e⟩:=sh (n:=s.heap.objs.size + 1) k
   refine .inr ⟨.inl k,c,e,?_⟩
   have q:=x.cell y c e
   rw [pN J2 hp hu (by show scope.names.lookup y ≠ _; rw [k]; decide)] at q
   exact q
 ·exact e0.bP.fresh (Nat.le_of_lt (x.above y c (PySem.mem_of_lookup h)))
 ·unfold start
  show _ = N.length
  rw [List.length_append,List.length_map,List.length_replicate]
  lia
theorem DH {CX:yK} {P:Program} {w:World} {K:PySem.W.Frag} {mg:Str → Option Value} {base:Heap} {k:Nat} {f:Addr} {name qual:Str} {params:Arguments} {body:List Stmt} {scope:Scope} {dV kV doc pm dj ct oc:Value} {an od:Option Addr}
  {BR:Array (Option Value)} {N ps:List Str} {sp:Sp} (lk:K.lookup f = some ⟨oc,od,.func (PySem.W.fnOf name qual params body scope dV kV doc pm an dj ct),BR⟩) (oT:PySem.W.codeIn K dj qual = true) (S:aY N ps scope)
  (len:∀ vs H Q E,sp vs H Q E → vs.length = ps.length)
  (yM:∀ (A:Around) (outer:List Env) (s:Shared) (H:Hp) (vs:List V) (Q:VK) (E:XK),eh k (A.deeper (envOfC qual scope s.heap.objs.size f dj)) → sp vs H Q E →
   ∃ t,jO (fO CX P w K mg base N qual scope f dj A outer s H E) body t ∧ t { nx:=fun _ H' => Q .e7 H',rt:=Q } (start N vs) H) :
  jQ P w K mg base CX (k + 1) f (PySem.W.fnOf name qual params body scope dV kV doc pm an dj ct) ps sp:=by
 refine ⟨len,fun A outer s H args us vs Q E hr e0 hb r GZ => ?_⟩
 have hl:=len _ _ _ _ GZ
 have KX:K.In s.heap:=e0.mod.GV.keeps fun b o e => (e0.bs b o e).1
 have lim:s.heap.NoLimit:=e0.mod.nolimit.keeps fun b o e => (e0.bs b o e).1
 have HL:∀ y ∈ ps.zip us,scope.names.lookup y.1 = some .local ∨ (scope.names.lookup y.1 = some .cell ∧ ((cellsFrom (s.heap.objs.size + 1) scope.names []).lookup y.1).isSome = true):=fun ⟨n,v⟩ hy => by
  rcases S.par n (List.of_mem_zip hy).1 with q | q
  ·exact .inl q
  ·exact .inr ⟨q,PySem.W.cellsFrom_some _ _ _ (.inl q)⟩
 refine codeAny_call_function hr.depth (KX _ _ lk) rfl S.co S.gen rfl (PySem.W.codeRec_of KX oT) (hb _ _ _ _ ?_)
 refine wpAny_newFunctionEnv_cells S.kind HL fun env he s1 x => ?_
 subst he
 refine ⟨lim.keeps x.toInCall.keep,codeAny_func ?_⟩
 obtain ⟨t,ht,hq⟩:=yM A outer s H vs Q E (hr.deeper _) GZ
 have I:Inv (fO CX P w K mg base N qual scope f dj A outer s H E) [] (start N vs) H s1:=xb S hr.hd e0 hl r x
 refine wpAny_mono (ht [] s1 (start N vs) H _ I hq) (fun fl s' hs => ?_) fun e s' hs => hs
 have fin:∀ {σ':St} {H':Hp} {v:V} {u:Value},Inv (fO CX P w K mg base N qual scope f dj A outer s H E) [] σ' H' s' → RelV v u → Q v H' → CE outer P w H s Q u s' :=
  fun {σ' H' v u} J rv q => ⟨v,H',J.os,J.bare,J.base,J.bP,rv,q⟩
 cases fl with
 | ret u =>
  obtain ⟨v,σ',H',J,rv,q⟩:=hs
  exact fin J rv q
 | next =>
  obtain ⟨σ',H',J,q⟩:=hs
  exact fin (v:=V.e7) (u:=Value.none) J rfl q
 | brk =>
  obtain ⟨_,_,_,q⟩:=hs
  exact False.elim q
 | cont =>
  obtain ⟨_,_,_,q⟩:=hs
  exact False.elim q
end L2
namespace L2
open PySem PySem.Spec PyProof.Rows
section
variable {X:Cx} {x:Str} {p pos:Pos} {e:Expr} {es:List Expr} {t:TA} {id T:String} {r:List V → Hp → VK → Prop}
noncomputable def QJ (r:List V → Hp → VK → Prop) (t:TA):TE:=fun σ H Q => t σ H fun vs H1 => r vs H1 Q
theorem si (hc:cQ X (.builtin id) r) (hg:Gl X x) (hm:X.mg x = none) (hv:bootBuiltins x = some (.builtin id)) (ha:PA X (e :: es) t) (hn:x ≠ "__name__":=by decide) (mE:(x == ("__debug__":Str)) = false:=by decide)
  (he:starEach (e :: es) X.env = (false,eval e X.env) :: starEach es X.env:=by rfl) (jo:(backTo pos (starEach es X.env)).any (·.1) = false:=by rfl):PE X (.Call (.Name x p) (e :: es) [] pos) (QJ r t):=by
 intro pins s σ H Q I h
 refine wpAny_Call_Name_kw (iG I hg hm hv ?_ hn mE)
 exact PyProof.Rows.callWith_builtin1 (cV (ha pos pins s σ H _ I h) fun us s1 ⟨vs,H1,I1,r1,q1⟩ => hc pins s1 σ H1 vs us Q I1 r1 q1) he jo
theorem xc (hc:cQ X (.type T) r) (hg:Gl X x) (hm:X.mg x = none) (hv:bootBuiltins x = some (.type T)) (ha:PA X (e :: es) t) (hn:x ≠ "__name__":=by decide) (mE:(x == ("__debug__":Str)) = false:=by decide)
  (he:starEach (e :: es) X.env = (false,eval e X.env) :: starEach es X.env:=by rfl) (jo:(backTo pos (starEach es X.env)).any (·.1) = false:=by rfl):PE X (.Call (.Name x p) (e :: es) [] pos) (QJ r t):=by
 intro pins s σ H Q I h
 refine wpAny_Call_Name_kw (iG I hg hm hv ?_ hn mE)
 exact PyProof.Rows.callWith_type1 (cV (ha pos pins s σ H _ I h) fun us s1 ⟨vs,H1,I1,r1,q1⟩ => hc pins s1 σ H1 vs us Q I1 r1 q1) he jo
end
end L2
namespace HT
open PySem PyProof.Rows
section
open PySem.SeqAt
open PySem.AutoSeq1 (wpAny_loadPart')
open PySem.MeetsSeq PySem.MeetsSeq2 PySem.MeetsSeq3
end
section
variable {prog:Program} {w:World} {A:Around} {E:Value → Shared → Prop} {s:Shared}
theorem BS {t b:Addr} {vs ws:List Value} {Q:Value → Shared → Prop} (ht:IsTup s.heap t vs.toArray) (hb:IsTup s.heap b ws.toArray) (hv:vs ≠ [])
  (h1:ws = [] → Q (.ref t) s) (h2:ws ≠ [] → Q (.ref s.heap.objs.size) { s with heap:=s.heap.push { cls:=.type "tuple",data:=.seq (vs ++ ws).toArray } })
  (hsz:vs.length + ws.length ≤ sizeLine):wpAny (model prog w) A (binaryOp .Add (.ref t) (.ref b)) Q E s:=by
 obtain ⟨⟨cls,dd,data,sl⟩,ho,hc,n,hd⟩:=id ht
 obtain ⟨⟨Ln,J3,data2,E5⟩,yN,xf,n2,hd2⟩:=id hb
 simp only at hc hd xf hd2
 subst hc hd xf hd2
 have e:vs.toArray ++ ws.toArray = (vs ++ ws).toArray:=by simp
 by_cases hw:ws = []
 ·exact concat_meets ⟨_,ho,rfl⟩ ⟨_,yN,rfl⟩ noFill_tuple_add seq_tuple_add PySem.F.slot_tuple_add PySem.F.entry_tuple_add (PySem.F.args_tuple_add_2 _ _)
   (tuple_addW1 t b vs.toArray ws.toArray n n2 dd J3 sl E5 (by simpa using hv) (by simp [hw])) ⟨ho,yN,h1 hw⟩
 ·refine concat_meets ⟨_,ho,rfl⟩ ⟨_,yN,rfl⟩ noFill_tuple_add seq_tuple_add PySem.F.slot_tuple_add PySem.F.entry_tuple_add (PySem.F.args_tuple_add_2 _ _)
   (tuple_addW2 t b vs.toArray ws.toArray n n2 dd J3 sl E5 (by simpa using hv) (by simpa using hw) (by rw [List.size_toArray,List.size_toArray]; exact hsz)) ⟨ho,yN,?_⟩
  rw [e]
  exact h2 hw
noncomputable def dZ (n d:Nat):Option Int → Nat
 | none => d
 | some v => if v < 0 then (v + (n:Int)).toNat else min v.toNat n
theorem sj (n d:Nat):dZ n d none = d:=rfl
theorem m8 (n d k:Nat):dZ n d (some (k:Int)) = min k n:=by
 show (if (k:Int) < 0 then ((k:Int) + (n:Int)).toNat else min (k:Int).toNat n) = min k n
 rw [if_neg (by lia),Int.toNat_natCast]
theorem E6 (n d:Nat) (hd:d ≤ n) (o:Option Int):dZ n d o ≤ n:=by
 cases o with
 | none => exact hd
 | some v =>
  show (if v < 0 then (v + (n:Int)).toNat else min v.toNat n) ≤ n
  by_cases hv:v < 0
  ·rw [if_pos hv]; lia
  ·rw [if_neg hv]; exact Nat.min_le_right _ _
theorem vK (v:Int) (n d:Nat):(if v < 0 then max (v + (n:Int)) 0 else min v (n:Int)) = ((dZ n d (some v):Nat):Int):=by
 show (if v < 0 then max (v + (n:Int)) 0 else min v (n:Int)) = (((if v < 0 then (v + (n:Int)).toNat else min v.toNat n):Nat):Int)
 by_cases hv:v < 0
 ·simp only [if_pos hv]; lia
 ·simp only [if_neg hv]; lia
theorem uC (lo hi:Option Int) (n:Nat):Builtin.Slice.sliceAdjust lo hi 1 (n:Int) = (((dZ n 0 lo:Nat):Int),((dZ n n hi:Nat):Int)):=by
 have h1:¬ ((1:Int) < 0):=by lia
 unfold Builtin.Slice.sliceAdjust
 simp only [h1,if_false]
 refine Prod.ext ?_ ?_
 ·cases lo with
  | none => rfl
  | some v => exact vK v n 0
 ·cases hi with
  | none => rfl
  | some v => exact vK v n n
theorem uD (i j:Nat):Builtin.Slice.slicePlaces (i:Int) (j:Int) 1 = j - i:=by
 unfold Builtin.Slice.slicePlaces
 have h1:(1:Int) > 0:=by lia
 simp only [h1,if_true,Int.ediv_one]
 split <;> lia
theorem nE {v:Value} {o:Option Int} {Q:Option Int → Shared → Prop} (p:IsPart v o) (h:Q o s):wpAny (model prog w) A (Builtin.Slice.slicePartIndex v) Q E s:=by
 cases p with
 | none => exact slicePart_none h
 | int i t => exact slicePart_int h
theorem kJ {sl:Addr} {vl vu:Value} {lo hi:Option Int} {n:Nat} {Q:Int × Int × Nat → Shared → Prop} (hs:s.heap.IsSliceOf sl vl vu .none) (pl:IsPart vl lo) (pu:IsPart vu hi)
  (h:Q (((dZ n 0 lo:Nat):Int),1,dZ n n hi - dZ n 0 lo) s):wpAny (model prog w) A (Builtin.Slice.sliceApplied (.ref sl) (pure (n:Int))) Q E s:=by
 obtain ⟨os,HM,QK,J4⟩:=id hs
 unfold Builtin.Slice.sliceApplied Builtin.Slice.sliceFields
 refine wpAny_bind (wpAny_bind (wpAny_field HM J4 (x:=vl) rfl (wpAny_bind (wpAny_field HM J4 (x:=vu) rfl (wpAny_bind (wpAny_field HM J4 (x:=.none) rfl (wpAny_pure ?_)))))))
 refine wpAny_bind (slicePart_none ?_)
 show wpAny _ _ (if ((1:Int) == 0) = true then _ else _) _ _ s
 rw [if_neg (by decide)]
 refine wpAny_bind (nE pl (wpAny_bind (nE pu (wpAny_bind (wpAny_pure ?_)))))
 show wpAny _ _ (match Builtin.Slice.sliceAdjust lo hi 1 (n:Int) with | (lo,hi) => pure (lo,(1:Int),Builtin.Slice.slicePlaces lo hi 1)) _ _ s
 rw [uC lo hi n]
 show wpAny _ _ (pure (((dZ n 0 lo:Nat):Int),(1:Int),Builtin.Slice.slicePlaces ((dZ n 0 lo:Nat):Int) ((dZ n n hi:Nat):Int) 1)) _ _ s
 rw [uD]
 exact wpAny_pure h
theorem yO (xs:Array Value) (i k:Nat):((List.range k).filterMap fun (m:Nat) => xs[((i:Int) + (m:Int) * 1).toNat]?).toArray = ((xs.toList.drop i).take k).toArray:=by
 have e:(fun (m:Nat) => xs[((i:Int) + (m:Int) * 1).toNat]?) = fun m => xs[i + m]?:=by
  funext m
  have:((i:Int) + (m:Int) * 1).toNat = i + m:=by lia
  rw [this]
 rw [e]
 have:=pick_run xs i k
 rw [List.filterMap_map] at this
 have e2:((fun x => xs[x]?) ∘ fun x => i + x) = fun m => xs[i + m]?:=rfl
 rw [e2] at this
 rw [this]
theorem jR {t sl:Addr} {items:Array Value} {vl vu:Value} {lo hi:Option Int} {Q:Value → Shared → Prop} (ht:IsTup s.heap t items) (hs:s.heap.IsSliceOf sl vl vu .none) (pl:IsPart vl lo) (pu:IsPart vu hi)
  (hw:¬ (dZ items.size 0 lo = 0 ∧ dZ items.size items.size hi = items.size))
  (h:Q (.ref s.heap.objs.size) { s with heap:=s.heap.push { cls:=.type "tuple",data:=.seq ((items.toList.drop (dZ items.size 0 lo)).take (dZ items.size items.size hi - dZ items.size 0 lo)).toArray } })
  (hsz:items.size ≤ sizeLine):wpAny (model prog w) A (getItem (.ref t) (.ref sl)) Q E s:=by
 have vL:sizeOk (.seq ((items.toList.drop (dZ items.size 0 lo)).take (dZ items.size items.size hi - dZ items.size 0 lo)).toArray):=by
  show ((items.toList.drop (dZ items.size 0 lo)).take (dZ items.size items.size hi - dZ items.size 0 lo)).toArray.size ≤ sizeLine
  rw [List.size_toArray,List.length_take,List.length_drop,Array.length_toList]
  lia
 have hj:dZ items.size items.size hi ≤ items.size:=E6 _ _ (Nat.le_refl _) hi
 obtain ⟨os,HM,QK,J4⟩:=id hs
 have R8:s.TypeIs (.ref sl) "slice":=⟨os,HM,QK⟩
 unfold getItem
 try with_reducible refine wpAny_holding ?_
 first | refine wpAny_bind (wpAny_pure ?_) | skip
 refine wpAny_bind (wpAny_sequenceKey ht.typeIs (by decide) ?_)
 refine wpAny_bind (wpAny_callSpecial?_slot (name:=Str.ofString "__getitem__") ht.typeIs PyProof.Rows.slot_tuple_getitem
  (wpAny_call_entry PyProof.Rows.slot_tuple_getitem ht.typeIs entry_tuple_getitem ?_ (args_tuple_getitem _ _)))
 show wpAny _ _ (Builtin.Tuple.tupleItemsOf (.ref t) >>= _) _ _ s
 refine wpAny_bind (tupleItemsOf_ ht ?_)
 refine wpAny_bind (wpAny_typeOf R8 ?_)
 rw [if_pos (by decide)]
 refine wpAny_bind (kJ hs pl pu ?_)
 have Lo:¬ ((((dZ items.size 0 lo:Nat):Int) == 0 && (1:Int) == 1 && (dZ items.size items.size hi - dZ items.size 0 lo) == items.size) = true):=by
  intro q
  rw [Bool.and_eq_true,Bool.and_eq_true] at q
  have q1:((dZ items.size 0 lo:Nat):Int) = 0:=eq_of_beq q.1.1
  have q2:dZ items.size items.size hi - dZ items.size 0 lo = items.size:=eq_of_beq q.2
  exact hw ⟨by lia,by lia⟩
 show wpAny _ _ (if (((dZ items.size 0 lo:Nat):Int) == 0 && (1:Int) == 1 && (dZ items.size items.size hi - dZ items.size 0 lo) == items.size) = true then _ else _) _ _ s
 rw [if_neg Lo,yO]
 first
  | exact wpAny_bind (m:=Builtin.Tuple.tupleExact _) (wpAny_newObj_type (wpAny_pure ⟨_,rfl,wpAny_pure h⟩) vL)
  | exact wpAny_bind (m:=Builtin.Tuple.tupleExact _) (wpAny_newObj_type (wpAny_bind (wpAny_pure (wpAny_pure ⟨_,rfl,wpAny_pure h⟩))) vL)
  | exact wpAny_bind (wpAny_bind (m:=Builtin.Tuple.tupleExact _) (wpAny_newObj_type (wpAny_pure (wpAny_pure ⟨_,rfl,wpAny_pure h⟩)) vL))
  | exact wpAny_bind (wpAny_bind (m:=Builtin.Tuple.tupleExact _) (wpAny_newObj_type (wpAny_pure ⟨_,rfl,wpAny_pure h⟩) vL))
end
end HT
namespace L2
open PySem PySem.Spec PyProof.Rows
noncomputable abbrev TO:=St → Hp → (Option Int → Hp → Prop) → Prop
noncomputable def PO (X:Cx) (e:Option Expr) (t:TO):Prop :=
 ∀ (pins:List (Addr × Obj)) (s:Shared) (σ:St) (H:Hp) (Q:Option Int → Hp → Prop),Inv X pins σ H s → t σ H Q →
  wpAny (model X.prog X.w) X.A (evalPart e X.env) (fun u s' => ∃ o H',Inv X pins σ H' s' ∧ IsPart u o ∧ Q o H') X.xe s
noncomputable def BU:TO:=fun _ H Q => Q none H
noncomputable def HN (t:TE):TO:=fun σ H Q => t σ H fun x H1 => ∃ i,x = .int i ∧ Q (some i) H1
section
variable {X:Cx} {e:Expr} {te:TE} {lo hi:Option Expr} {tl th:TO} {pos p2:Pos}
theorem BV:PO X none BU:=by
 intro pins s σ H Q I h
 rw [evalPart_none]
 exact wpAny_pure ⟨none,H,I,.none,h⟩
theorem BW (h:PE X e te):PO X (some e) (HN te):=by
 intro pins s σ H Q I hw
 rw [evalPart_some]
 refine cV (h pins s σ H _ I hw) fun u s1 ⟨x,H1,I1,r1,q1⟩ => ?_
 obtain ⟨i,rfl,q⟩:=q1
 obtain ⟨t,rfl⟩:=r1
 exact ⟨some i,H1,I1,.int i t,q⟩
noncomputable def DI (X:Cx) (r:V → Option Int → Option Int → Hp → VK → Prop):Prop :=
 ∀ (pins:List (Addr × Obj)) (s:Shared) (σ:St) (H:Hp) (x:V) (v vl vu:Value) (lo hi:Option Int) (sl:Addr) (Q:VK),Inv X pins σ H s → RelV x v → s.heap.IsSliceOf sl vl vu .none → IsPart vl lo → IsPart vu hi → r x lo hi H Q →
  ∃ T id,typeLookup (.type T) "__getitem__" = pure (some (.builtin id)) ∧ s.TypeIs v T ∧ wpAny (model X.prog X.w) X.A (getItem v (.ref sl)) (EP X pins σ Q) X.xe s
theorem DI.or {r r':V → Option Int → Option Int → Hp → VK → Prop} (h:DI X r) (h':DI X r'):DI X (fun x lo hi H Q => r x lo hi H Q ∨ r' x lo hi H Q):=by
 intro pins s σ H x v vl vu lo hi sl Q I rx hs pl pu q
 rcases q with q | q
 ·exact h pins s σ H x v vl vu lo hi sl Q I rx hs pl pu q
 ·exact h' pins s σ H x v vl vu lo hi sl Q I rx hs pl pu q
noncomputable def R9 (r:V → Option Int → Option Int → Hp → VK → Prop) (te:TE) (tl th:TO):TE:=fun σ H Q => te σ H fun x H1 => tl σ H1 fun l H2 => th σ H2 fun u H3 => r x l u H3 Q
theorem yP {r:V → Option Int → Option Int → Hp → VK → Prop} (hr:DI X r) (he:PE X e te) (hl:PO X lo tl) (hu:PO X hi th):PE X (.Subscript e (.Slice lo hi none p2) pos) (R9 r te tl th):=by
 intro pins s σ H Q I h
 refine Subscript_ (cV (he pins s σ H _ I h) fun v s1 ⟨x,H1,I1,r1,q1⟩ => ?_)
 refine wpAny_Slice (cV (hl pins s1 σ H1 _ I1 q1) fun vl s2 ⟨l,H2,I2,pl,q2⟩ => cV (hu pins s2 σ H2 _ I2 q2) fun vu s3 ⟨u,H3,I3,pu,q3⟩ => ?_)
 rw [evalPart_none]
 refine wpAny_pure ?_
 have I4:Inv X pins σ H3 { s3 with heap:=s3.heap.push { cls:=.type "slice",data:=.fields #[vl,vu,.none] } }:=I3.kept (t':=s3.toks) fun b ob q => Heap.get?_push_of_some _ q
 obtain ⟨T,id,hT,ht,hg⟩:=hr pins { s3 with heap:=s3.heap.push { cls:=.type "slice",data:=.fields #[vl,vu,.none] } } σ H3 x v vl vu l u s3.heap.objs.size Q I4 r1 (Heap.IsSliceOf.new ..) pl pu q3
 show wpAny (model X.prog X.w) X.A (subscriptTail e (.Slice lo hi none p2) v (.ref s3.heap.objs.size)) (EP X pins σ Q) X.xe { s3 with heap:=s3.heap.push { cls:=.type "slice",data:=.fields #[vl,vu,.none] } }
 exact tail_any (ops:=[.ref s3.heap.objs.size,v]) ht hT hg (by with_unfolding_all rfl)
noncomputable def qF (xs:List V) (lo hi:Option Int):List V:=(xs.drop (HT.dZ xs.length 0 lo)).take (HT.dZ xs.length xs.length hi - HT.dZ xs.length 0 lo)
theorem lS (xs:List V) (lo hi:Option Int):(qF xs lo hi).length ≤ xs.length:=by
 unfold qF
 rw [List.length_take,List.length_drop]
 lia
noncomputable def Lp (K:PySem.W.Frag):V → Option Int → Option Int → Hp → VK → Prop:=fun x lo hi H Q => ∃ a xs,x = .ref a ∧ jd K H a xs ∧
 ¬ (HT.dZ xs.length 0 lo = 0 ∧ HT.dZ xs.length xs.length hi = xs.length) ∧ ∀ p,H p = none → Q (.ref p) (upd H p (.tup (qF xs lo hi)))
theorem E7:DI X (Lp X.K):=by
 intro pins s σ H x v vl vu lo hi sl Q I rx hs pl pu h
 obtain ⟨a,xs,rfl,hx,hw,q⟩:=h
 cases rx
 obtain ⟨aL,r,ht,hz⟩:=I.tuple hx
 have hlen:aL.toArray.size = xs.length:=by rw [List.size_toArray]; exact r.length.symm
 refine ⟨"tuple",_,PyProof.Rows.slot_tuple_getitem.lookup,ht.typeIs,?_⟩
 refine HT.jR ht hs pl pu (by rw [hlen]; exact hw) ?_ (by rw [hlen]; exact hz)
 rw [hlen]
 refine ⟨.ref s.heap.objs.size,_,I.laid (t':=s.toks) (o:=.tup (qF xs lo hi)) (fun b ob q => Heap.get?_push_of_some _ q) (Nat.le_refl _) ?_,rfl,q _ (I.bP.fresh (Nat.le_refl _))⟩
 exact ⟨Nat.le_trans (lS xs lo hi) hz,_,(r.drop (HT.dZ xs.length 0 lo)).take (HT.dZ xs.length xs.length hi - HT.dZ xs.length 0 lo),IsTup.new _ _⟩
noncomputable def HP (K:PySem.W.Frag):R2:=fun x y H Q => ∃ a b xs ys,x = .ref a ∧ y = .ref b ∧ jd K H a xs ∧ jd K H b ys ∧ xs ≠ [] ∧ xs.length + ys.length ≤ sizeLine ∧
 (ys = [] → Q (.ref a) H) ∧ (ys ≠ [] → ∀ p,H p = none → Q (.ref p) (upd H p (.tup (xs ++ ys))))
theorem Vals.qG {xs:List V} {us:List Value} (r:Vals xs us):us = [] ↔ xs = []:=by
 cases r with
 | nil => simp
 | cons _ _ => simp
theorem BX:ef X (binaryOp .Add) (HP X.K):=by
 intro pins s σ H x y v u Q I rx ry h
 obtain ⟨a,b,xs,ys,rfl,rfl,ha,hb,hx,hz,q1,q2⟩:=h
 cases rx
 cases ry
 obtain ⟨aL,r1,p1,_⟩:=I.tuple ha
 obtain ⟨dS,r2,p2,_⟩:=I.tuple hb
 refine HT.BS p1 p2 (fun z => hx (r1.qG.mp z)) (fun z => ⟨.ref a,H,I,rfl,q1 (r2.qG.mp z)⟩) (fun z => ?_) (by rw [← r1.length,← r2.length]; exact hz)
 refine ⟨.ref s.heap.objs.size,_,I.laid (t':=s.toks) (o:=.tup (xs ++ ys)) (fun b ob q => Heap.get?_push_of_some _ q) (Nat.le_refl _) ?_,rfl,q2 (fun w => z (r2.qG.mpr w)) _ (I.bP.fresh (Nat.le_refl _))⟩
 exact ⟨by rw [List.length_append]; exact hz,_,r1.append r2,IsTup.new _ _⟩
end
end L2
namespace L2
open PySem PySem.Spec PyProof.Rows
noncomputable def xg (n:Nat) (i:Int):Option Nat:=if 0 ≤ i then (if i < n then some i.toNat else none) else if -(n:Int) ≤ i then some (i + n).toNat else none
noncomputable def nF {α:Type} (xs:List α) (i:Int):Option α:=(xg xs.length i).bind fun j => xs[j]?
theorem vM {n:Nat} {i:Int} {j:Nat} (h:xg n i = some j):seqIndex? i n = some j ∧ j < n ∧ -(n:Int) ≤ i ∧ i < n:=by
 unfold xg at h
 by_cases h0:0 ≤ i
 ·rw [if_pos h0] at h
  by_cases h1:i < n
  ·rw [if_pos h1] at h
   have e:i.toNat = j:=Option.some.inj h
   exact ⟨by rw [seqIndex_of h0 h1,e],by lia,by lia,h1⟩
  ·rw [if_neg h1] at h; cases h
 ·rw [if_neg h0] at h
  by_cases h1:-(n:Int) ≤ i
  ·rw [if_pos h1] at h
   have e:(i + n).toNat = j:=Option.some.inj h
   exact ⟨by rw [seqIndex_neg (by lia) h1,e],by lia,h1,by lia⟩
  ·rw [if_neg h1] at h; cases h
theorem qH {α:Type} {xs:List α} {i:Int} {v:α} (h:nF xs i = some v):∃ j,seqIndex? i xs.length = some j ∧ xs[j]? = some v ∧ j < xs.length ∧ -(xs.length:Int) ≤ i ∧ i < xs.length:=by
 unfold nF at h
 cases e:xg xs.length i with
 | none => rw [e] at h; cases h
 | some j =>
  rw [e] at h
  obtain ⟨h1,h2,h3,h4⟩:=vM e
  exact ⟨j,h1,h,h2,h3,h4⟩
theorem qI {α:Type} {xs:List α} {j:Nat} {v:α} (h:xs[j]? = some v):nF xs (j:Int) = some v:=by
 have hj:j < xs.length:=(List.getElem?_eq_some_iff.mp h).1
 have e:xg xs.length (j:Int) = some j:=by
  unfold xg
  rw [if_pos (by lia),if_pos (by lia)]; simp
 unfold nF; rw [e]; exact h
noncomputable def qJ (b:Expr):Prop:=∀ o i,subscripted b false o i = operate [o,i] (getItem o i)
noncomputable def uk (X:Cx) (r:R2):Prop :=
 ∀ (value slice:Expr) (pins:List (Addr × Obj)) (s:Shared) (σ:St) (H:Hp) (x y:V) (v u:Value) (Q:VK),Inv X pins σ H s → RelV x v → RelV y u → r x y H Q →
  subscripted slice false v u = operate [v,u] (getItem v u) → wpAny (model X.prog X.w) X.A (subscriptTail value slice v u) (EP X pins σ Q) X.xe s
noncomputable def QL (X:Cx) (id:String) (r:V → List V → Hp → VK → Prop):Prop :=
 ∀ (pins:List (Addr × Obj)) (s:Shared) (σ:St) (H:Hp) (x:V) (xs:List V) (v:Value) (us:List Value) (Q:VK),Inv X pins σ H s → RelV x v → Vals xs us → r x xs H Q →
  wpAny (model X.prog X.w) X.A (call (.builtin id) (v :: us)) (EP X pins σ Q) X.xe s
section
variable {X:Cx} {a b:Expr} {ta tb:TE} {pos:Pos}
theorem uk.or {r r':R2} (h:uk X r) (h':uk X r'):uk X (fun x y H Q => r x y H Q ∨ r' x y H Q):=by
 intro value slice pins s σ H x y v u Q I rx ry q hs
 rcases q with q | q
 ·exact h value slice pins s σ H x y v u Q I rx ry q hs
 ·exact h' value slice pins s σ H x y v u Q I rx ry q hs
theorem HQ {r:R2} (hr:uk X r) (ha:PE X a ta) (hb:PE X b tb) (hs:qJ b):PE X (.Subscript a b pos) (GW r ta tb):=by
 intro pins s σ H Q I h
 exact Subscript_ (EL ha hb I h fun v u s2 x y H2 I2 rx ry q => hr a b pins s2 σ H2 x y v u Q I2 rx ry q (hs _ _))
noncomputable def Lq (K:PySem.W.Frag):R2:=fun x y H Q => ∃ p xs i v,x = .ref p ∧ y = .int i ∧ lR K H p xs ∧ nF xs i = some v ∧ Q v H
noncomputable def Lr (K:PySem.W.Frag):R2:=fun x y H Q => ∃ p xs i v,x = .ref p ∧ y = .int i ∧ jd K H p xs ∧ nF xs i = some v ∧ Q v H
noncomputable def Ls:R2:=fun x y H Q => ∃ z i c,x = .str z ∧ y = .int i ∧ z.length ≤ sizeLine ∧ nF z.cps.toList i = some c ∧ Q (.str ⟨#[c]⟩) H
theorem BY:uk X (Lq X.K):=by
 intro value slice pins s σ H x y v u Q I rx ry h hs
 obtain ⟨p,xs,i,z,rfl,rfl,hq,he,q⟩:=h
 cases rx
 obtain ⟨t,rfl⟩:=ry
 obtain ⟨aL,r,pl,hz⟩:=I.list hq
 obtain ⟨j,h1,h2,h3,h4,h5⟩:=qH he
 obtain ⟨w,ew,sk⟩:=r.get h2
 have hl:=r.length
 have hn:=kI
 have fin:EP X pins σ Q w s:=⟨z,H,I,sk,q⟩
 by_cases h0:0 ≤ i
 ·have hj:i.toNat = j:=by
   rw [seqIndex_of h0 h5] at h1
   exact Option.some.inj h1
  exact item_listR pl.isList h0 (by lia) (by rw [hj]; simpa using ew) fin hs
 ·have hj:(i + (aL.toArray.size:Int)).toNat = j:=by
   rw [seqIndex_neg (by lia) h4] at h1
   rw [List.size_toArray,← hl]
   exact Option.some.inj h1
  exact subscriptTail_builtinR (x:=w) pl.isList.typeIs slot_list_getitem.lookup
   (wpAny_getItem_list_neg (Q:=fun r s' => r = w ∧ EP X pins σ Q r s') pl.isList (by lia) (by rw [List.size_toArray] <;> lia) (by lia) (by rw [hj]; simpa using ew) ⟨rfl,fin⟩) hs
theorem uE:uk X (Lr X.K):=by
 intro value slice pins s σ H x y v u Q I rx ry h hs
 obtain ⟨p,xs,i,z,rfl,rfl,hq,he,q⟩:=h
 cases rx
 obtain ⟨t,rfl⟩:=ry
 obtain ⟨aL,r,pl,hz⟩:=I.tuple hq
 obtain ⟨j,h1,h2,h3,h4,h5⟩:=qH he
 obtain ⟨w,ew,sk⟩:=r.get h2
 have hl:=r.length
 have hn:=kI
 have fin:EP X pins σ Q w s:=⟨z,H,I,sk,q⟩
 exact subscriptTail_builtinR (x:=w) pl.typeIs slot_tuple_getitem.lookup
  (getItem_tuple (j:=j) (Q:=fun r s' => r = w ∧ EP X pins σ Q r s') pl (by lia) (by lia) (by rw [List.size_toArray,← hl]; exact h1) (by simpa using ew) ⟨rfl,fin⟩) hs
theorem E8:uk X Ls:=by
 intro value slice pins s σ H x y v u Q I rx ry h hs
 obtain ⟨z,i,c,rfl,rfl,hz,he,q⟩:=h
 obtain ⟨t,rfl⟩:=rx
 obtain ⟨t',rfl⟩:=ry
 obtain ⟨j,h1,h2,h3,h4,h5⟩:=qH he
 have hl:z.cps.toList.length = z.length:=by simp [Str.length]
 rw [hl] at h1 h4 h5
 have hn:=kI
 exact tail_any (typeIs_str s z t) slot_str_getitem.lookup (getItem_str (c:=c) (by
  have e1:decide (i < -(2 ^ 63:Int)) = false:=decide_eq_false (by lia)
  have e2:decide (i ≥ 2 ^ 63) = false:=decide_eq_false (by lia)
  rw [e1,e2,Bool.or_false]) (by rw [h1]; simpa using h2) ⟨.str ⟨#[c]⟩,H,I.tok _,⟨_,rfl⟩,q⟩) hs
theorem uF (aL:List Value) (n j:Nat) (u:Value):Obj.mapSeq (·.setIfInBounds j u) { cls:=.type "list",data:=.seq aL.toArray n } = { cls:=.type "list",data:=.seq (aL.set j u).toArray n }:=by
 simp [Obj.mapSeq]
theorem Inv.lst {pins:List (Addr × Obj)} {σ:St} {H:Hp} {s:Shared} {p:Addr} {xs:List V} (I:Inv X pins σ H s) (h:H p = some (.lst xs)) :
  ∃ (aL:List Value) (n:Nat),Vals xs aL ∧ s.heap.get? p = some { cls:=.type "list",data:=.seq aL.toArray n } ∧ xs.length ≤ sizeLine:=by
 obtain ⟨z,aL,n,r,e⟩:=I.bP p _ h
 exact ⟨aL,n,r,e,z⟩
theorem Inv.E9 {pins:List (Addr × Obj)} {σ:St} {H:Hp} {s:Shared} {p:Addr} {xs ys:List V} {aL its':List Value} {n n':Nat} {f:Obj → Obj} (I:Inv X pins σ H s) (h:H p = some (.lst xs))
  (ho:s.heap.get? p = some { cls:=.type "list",data:=.seq aL.toArray n }) (hf:f { cls:=.type "list",data:=.seq aL.toArray n } = { cls:=.type "list",data:=.seq its'.toArray n' }) (r:Vals ys its') (hz:ys.length ≤ sizeLine) (t:Nat) :
  Inv X pins σ (upd H p (.lst ys)) { s with heap:=s.heap.update p f,toks:=t }:=by
 have e:(s.heap.update p f).get? p = some { cls:=.type "list",data:=.seq its'.toArray n' }:=by
  rw [Heap.get?_update_self f ho (by rw [hf] <;> rfl),hf]
 refine I.write (x:=p) (e:=p) (by rw [h]; trivial) (.inl rfl) (fun b u hb q => (Heap.get?_update_other _ _ (Ne.symm hb)).trans q) ⟨_,e⟩ ?_
 exact ⟨hz,its',n',r,e⟩
noncomputable def DJ:V → V → V → Hp → (Hp → Prop) → Prop:=fun o i v H Q => ∃ p xs k j,o = .ref p ∧ i = .int k ∧ H p = some (.lst xs) ∧ xg xs.length k = some j ∧ Q (upd H p (.lst (xs.set j v)))
theorem set_list:Hv X DJ:=by
 intro pins s σ H o i v ov iv u Q I ro ri rv h
 obtain ⟨p,xs,k,j,rfl,rfl,hp,hj,q⟩:=h
 cases ro
 obtain ⟨t,rfl⟩:=ri
 obtain ⟨aL,n,r,ho,hz⟩:=I.lst hp
 obtain ⟨h1,h2,h3,h4⟩:=vM hj
 have hl:=r.length
 have hn:=kI
 have I':Inv X pins σ (upd H p (.lst (xs.set j v))) { s with heap:=s.heap.update p (Obj.mapSeq (·.setIfInBounds j u)) } :=
  I.E9 hp ho (uF aL n j u) (r.set rv j) (by rw [List.length_set]; exact hz) s.toks
 by_cases h0:0 ≤ k
 ·have hk:k.toNat = j:=by
   rw [seqIndex_of h0 h4] at h1
   exact Option.some.inj h1
  exact PySem.W.ki_setAt ho h0 (by lia) (by rw [List.size_toArray,← hl]; exact h4) (by rw [hk]; exact ⟨_,I',q⟩)
 ·have hk:(k + (aL.toArray.size:Int)).toNat = j:=by
   rw [seqIndex_neg (by lia) h3] at h1
   rw [List.size_toArray,← hl]
   exact Option.some.inj h1
  exact PySem.W.ki_setBack ho (by lia) (by rw [List.size_toArray,← hl]; exact h3) (by lia) (by rw [hk]; exact ⟨_,I',q⟩)
theorem qK (lo hi:Option Int) (n:Nat):(sliceBounds lo hi none n).1 = ((HT.dZ n 0 lo:Nat):Int) ∧ (sliceBounds lo hi none n).2.1 = ((HT.dZ n n hi:Nat):Int) ∧ (sliceBounds lo hi none n).2.2 = 1:=by
 refine ⟨?_,?_,rfl⟩
 ·cases lo with
  | none => simp [sliceBounds,HT.dZ]
  | some i =>
   simp only [sliceBounds,HT.dZ,Option.getD_none,show (1:Int) > 0 by decide,if_true]
   by_cases h:i < 0
   ·simp only [h,if_true] <;> lia
   ·simp only [h,if_false] <;> lia
 ·cases hi with
  | none => simp [sliceBounds,HT.dZ]
  | some i =>
   simp only [sliceBounds,HT.dZ,Option.getD_none,show (1:Int) > 0 by decide,if_true]
   by_cases h:i < 0
   ·simp only [h,if_true] <;> lia
   ·simp only [h,if_false] <;> lia
theorem o7 (aL:List Value) (lo hi:Option Int):slicePick aL.toArray lo hi none = ((aL.drop (HT.dZ aL.length 0 lo)).take (HT.dZ aL.length aL.length hi - HT.dZ aL.length 0 lo)).toArray:=by
 obtain ⟨h1,h2,h3⟩:=qK lo hi aL.toArray.size
 unfold slicePick
 rw [h1,h2,h3]
 simp only [sliceRange_one,pick_run,List.size_toArray] <;> rfl
noncomputable def Lu (K:PySem.W.Frag):V → Option Int → Option Int → Hp → VK → Prop:=fun x lo hi H Q => ∃ a xs,x = .ref a ∧ lR K H a xs ∧ ∀ p,H p = none → Q (.ref p) (upd H p (.lst (qF xs lo hi)))
theorem BZ:DI X (Lu X.K):=by
 intro pins s σ H x v vl vu lo hi sl Q I rx hs pl pu h
 obtain ⟨a,xs,rfl,hx,q⟩:=h
 cases rx
 obtain ⟨aL,r,ht,hz⟩:=I.list hx
 have hlen:=r.length
 refine ⟨"list",_,slot_list_getitem.lookup,ht.isList.typeIs,?_⟩
 refine wpAny_getItem_list_slice ht.isList hs pl pu .none (by simp) ?_ (by rw [List.size_toArray] <;> lia)
 rw [o7,← hlen]
 refine ⟨.ref s.heap.objs.size,_,I.laid (t':=s.toks) (o:=.lst (qF xs lo hi)) (fun b ob q => Heap.get?_push_of_some _ q) (Nat.le_refl _) ?_,rfl,q _ (I.bP.fresh (Nat.le_refl _))⟩
 exact ⟨Nat.le_trans (lS xs lo hi) hz,_,0,(r.drop (HT.dZ xs.length 0 lo)).take (HT.dZ xs.length xs.length hi - HT.dZ xs.length 0 lo),Heap.get?_push_size _ rfl⟩
noncomputable def iH:V → Bool
 | .e7 => true
 | .bl _ => true
 | .int _ => true
 | .str _ => true
 | _ => false
noncomputable def Bs:V → V → Bool
 | .e7,.e7 => true
 | .bl a,.bl b => a == b
 | .bl a,.int b => (if a then 1 else 0) == b
 | .int a,.bl b => a == (if b then 1 else 0)
 | .int a,.int b => a == b
 | .str a,.str b => a == b
 | _,_ => false
theorem E_ {A:Around} {s:Shared} {y x:V} {u v:Value} (ry:RelV y u) (rx:RelV x v) (fy:iH y = true) (fx:iH x = true):SeqAt.EqAt A s u v (Bs y x):=by
 cases y with
 | e7 =>
  cases ry
  cases x with
  | e7 => cases rx; exact SeqAt.EqAt.same _
  | bl b => cases rx; exact SeqAt.EqAt.none_bool b
  | int b => obtain ⟨t,rfl⟩:=rx; exact SeqAt.EqAt.none_int b t
  | str b => obtain ⟨t,rfl⟩:=rx; exact SeqAt.EqAt.none_str b t
  | _ => exact absurd (show false = true from fx) Bool.false_ne_true
 | bl a =>
  cases ry
  cases x with
  | e7 => cases rx; exact SeqAt.EqAt.bool_none a
  | bl b => cases rx; exact SeqAt.EqAt.bool_bool a b
  | int b => obtain ⟨t,rfl⟩:=rx; exact SeqAt.EqAt.bool_int a b t
  | str b => obtain ⟨t,rfl⟩:=rx; exact SeqAt.EqAt.bool_str a b t
  | _ => exact absurd (show false = true from fx) Bool.false_ne_true
 | int a =>
  obtain ⟨t',rfl⟩:=ry
  cases x with
  | e7 => cases rx; exact SeqAt.EqAt.int_none a t'
  | bl b => cases rx; exact SeqAt.EqAt.int_bool a t' b
  | int b => obtain ⟨t,rfl⟩:=rx; exact SeqAt.EqAt.int_int a t' b t
  | str b => obtain ⟨t,rfl⟩:=rx; exact SeqAt.EqAt.int_str a t' b t
  | _ => exact absurd (show false = true from fx) Bool.false_ne_true
 | str a =>
  obtain ⟨t',rfl⟩:=ry
  cases x with
  | e7 => cases rx; exact SeqAt.EqAt.str_none a t'
  | bl b => cases rx; exact SeqAt.EqAt.str_bool a t' b
  | int b => obtain ⟨t,rfl⟩:=rx; exact SeqAt.EqAt.str_int a t' b t
  | str b => obtain ⟨t,rfl⟩:=rx; exact SeqAt.EqAt.str_str a t' b t
  | _ => exact absurd (show false = true from fx) Bool.false_ne_true
 | _ => exact absurd (show false = true from fy) Bool.false_ne_true
noncomputable def B0 (x:V) (u:Value):Bool:=match u with
 | .none => Bs .e7 x
 | .bool b => Bs (.bl b) x
 | .int i _ => Bs (.int i) x
 | .str z _ => Bs (.str z) x
 | _ => false
theorem yQ {x y:V} {u:Value} (r:RelV y u) (f:iH y = true):B0 x u = Bs y x:=by
 cases y with
 | e7 => cases r; rfl
 | bl b => cases r; rfl
 | int i => obtain ⟨t,rfl⟩:=r; rfl
 | str z => obtain ⟨t,rfl⟩:=r; rfl
 | _ => exact absurd (show false = true from f) Bool.false_ne_true
theorem qL {x:V}:∀ {xs:List V} {us:List Value},Vals xs us → xs.all iH = true → us.any (B0 x) = xs.any fun y => Bs y x
 | _,_,.nil,_ => rfl
 | y :: xs,u :: us,.cons r t,f => by
  rw [List.all_cons,Bool.and_eq_true] at f
  rw [List.any_cons,List.any_cons,yQ r f.1,qL t f.2]
theorem nG {A:Around} {s:Shared} {x:V} {v:Value} (rx:RelV x v) (fx:iH x = true):∀ {xs:List V} {us:List Value},Vals xs us → xs.all iH = true → ∀ u ∈ us,SeqAt.EqAt A s u v (B0 x u)
 | _,_,.nil,_ => fun u hu => by cases hu
 | y :: xs,u :: us,.cons r t,f => fun u' hu => by
  rw [List.all_cons,Bool.and_eq_true] at f
  rcases List.mem_cons.mp hu with rfl | hu
  ·rw [yQ r f.1]; exact E_ r rx f.1 fx
  ·exact nG rx fx t f.2 u' hu
noncomputable def J5 (x:V) (xs:List V):Bool:=xs.any fun y => Bs y x
noncomputable def QM (K:PySem.W.Frag) (neg:Bool):R2:=fun x y H Q => ∃ p xs,y = .ref p ∧ (lR K H p xs ∨ jd K H p xs) ∧ iH x = true ∧ xs.all iH = true ∧ Q (.bl (if neg then !J5 x xs else J5 x xs)) H
theorem xh:ef X (compareOp .In) (QM X.K false):=by
 intro pins s σ H x y v u Q I rx ry h
 obtain ⟨p,xs,rfl,hq,fx,fs,q⟩:=h
 cases ry
 rcases hq with hq | hq
 ·obtain ⟨aL,r,pl,hz⟩:=I.list hq
  refine SeqAt.in_listAt (B0 x) pl.isList (fun w hw => nG rx fx r fs w (by simpa using hw)) ⟨.bl _,H,I,rfl,?_⟩
  rw [show aL.toArray.any (B0 x) = aL.any (B0 x) by simp,qL r fs]
  exact q
 ·obtain ⟨aL,r,pl,hz⟩:=I.tuple hq
  refine SeqAt.in_tupleAt (B0 x) pl (fun w hw => nG rx fx r fs w (by simpa using hw)) ⟨.bl _,H,I,rfl,?_⟩
  rw [show aL.toArray.any (B0 x) = aL.any (B0 x) by simp,qL r fs]
  exact q
theorem qM:cQ X (.builtin "len") (fun xs H Q => ∃ p ys,xs = [.ref p] ∧ (lR X.K H p ys ∨ jd X.K H p ys) ∧ Q (.int ys.length) H):=by
 intro pins s σ H xs us Q I r h
 obtain ⟨p,ys,rfl,hq,q⟩:=h
 obtain ⟨u,rfl,rx⟩:=vals1 r
 cases rx
 have hn:=kI
 rcases hq with hq | hq
 ·obtain ⟨aL,r',pl,hz⟩:=I.list hq
  have hlen:=r'.length
  exact Calls.call_len_list pl.isList (by simp only [List.size_toArray] <;> lia) ⟨.int ys.length,H,I.tok _,⟨s.toks + 1,by rw [List.size_toArray,hlen]⟩,q⟩
 ·obtain ⟨aL,r',pl,hz⟩:=I.tuple hq
  have hlen:=r'.length
  exact len_tuple pl (by simp only [List.size_toArray] <;> lia) ⟨.int ys.length,H,I.tok _,⟨s.toks + 1,by rw [List.size_toArray,hlen]⟩,q⟩
theorem qN:cQ X (.builtin "len") (fun xs H Q => ∃ z,xs = [.str z] ∧ z.length ≤ sizeLine ∧ Q (.int z.length) H):=by
 intro pins s σ H xs us Q I r h
 obtain ⟨z,rfl,hz,q⟩:=h
 obtain ⟨u,rfl,t,rfl⟩:=vals1 r
 have hn:=kI
 exact len_str (by lia) ⟨.int z.length,H,I.tok _,⟨_,rfl⟩,q⟩
theorem cQ.or {f:Value} {r r':List V → Hp → VK → Prop} (h:cQ X f r) (h':cQ X f r'):cQ X f (fun xs H Q => r xs H Q ∨ r' xs H Q):=by
 intro pins s σ H xs us Q I rs q
 rcases q with q | q
 ·exact h pins s σ H xs us Q I rs q
 ·exact h' pins s σ H xs us Q I rs q
theorem qO:cQ X (.type "list") (fun xs H Q => ∃ p ys,xs = [.ref p] ∧ (lR X.K H p ys ∨ jd X.K H p ys) ∧ ∀ l,H l = none → Q (.ref l) (upd H l (.lst ys))):=by
 intro pins s σ H xs us Q I r h
 obtain ⟨p,ys,rfl,hq,q⟩:=h
 obtain ⟨u,rfl,rx⟩:=vals1 r
 cases rx
 have fin:∀ (aL:List Value),Vals ys aL → ys.length ≤ sizeLine → ∀ (h':Heap) (c':Nat),(∀ b o',s.heap.get? b = some o' → h'.get? b = some o') →
   h'.get? s.heap.objs.size = some { cls:=.type "list",dict:=none,data:=.seq aL.toArray c',slots:=#[] } → EP X pins σ Q (.ref s.heap.objs.size) { s with heap:=h' }:=fun aL r' hz h' c' kp e =>
  ⟨.ref s.heap.objs.size,_,I.laid (t':=s.toks) kp (Nat.le_refl _) (show b7 X.prog X.w _ h' _ (.lst ys) from ⟨hz,aL,c',r',e⟩),rfl,q _ (I.bP.fresh (Nat.le_refl _))⟩
 rcases hq with hq | hq
 ·obtain ⟨aL,r',pl,hz⟩:=I.list hq
  have hlen:=r'.length
  obtain ⟨o,ho,hc,n,hd⟩:=pl.isList
  exact call_list_seq p (.inl rfl) ho hc hd (fun h' c' kp e => fin aL r' hz h' c' kp e) (by simp only [List.size_toArray] <;> lia)
 ·obtain ⟨aL,r',pl,hz⟩:=I.tuple hq
  have hlen:=r'.length
  obtain ⟨o,ho,hc,n,hd⟩:=pl
  exact call_list_seq p (.inr rfl) ho hc hd (fun h' c' kp e => fin aL r' hz h' c' kp e) (by simp only [List.size_toArray] <;> lia)
theorem o8:cQ X (.type "tuple") (fun xs H Q => ∃ p ys,xs = [.ref p] ∧ ((lR X.K H p ys ∧ ∀ l,H l = none → Q (.ref l) (upd H l (.tup ys))) ∨ (jd X.K H p ys ∧ Q (.ref p) H))):=by
 intro pins s σ H xs us Q I r h
 obtain ⟨p,ys,rfl,h⟩:=h
 obtain ⟨u,rfl,rx⟩:=vals1 r
 cases rx
 rcases h with ⟨hq,q⟩ | ⟨hq,q⟩
 ·obtain ⟨aL,r',pl,hz⟩:=I.list hq
  have hlen:=r'.length
  refine call_tuple_list pl.isList (fun h' kp => ?_) (by simp only [List.size_toArray] <;> lia)
  have I1:Inv X pins σ H { s with heap:=h' }:=I.kept (t':=s.toks) kp
  have I2:Inv X pins σ (upd H h'.objs.size (.tup ys)) { s with heap:=h'.push { cls:=.type "tuple",data:=.seq aL.toArray } } :=
   I1.laid (t':=s.toks) (fun b o e => Heap.get?_push_of_some _ e) (Nat.le_refl _) (show b7 X.prog X.w _ _ _ (.tup ys) from ⟨hz,aL,r',IsTup.new _ _⟩)
  exact ⟨.ref h'.objs.size,_,I2,rfl,q _ (I1.bP.fresh (Nat.le_refl _))⟩
 ·obtain ⟨aL,r',pl,hz⟩:=I.tuple hq
  exact call_tuple_same pl ⟨.ref p,H,I,rfl,q⟩
noncomputable def J6 (K:PySem.W.Frag) (T:String) (x:V) (H:Hp):Prop:=match x with
 | .str _ => T = "str"
 | .int _ => T = "int"
 | .ref p => (T = "list" ∧ ∃ xs,lR K H p xs) ∨ (T = "tuple" ∧ ∃ o,K.lookup p = some o ∧ o.cls = .type "tuple" ∧ o.dict = none) ∨
   (T = "dict" ∧ ((∃ aO,H p = some (.dK aO)) ∨ ∃ aO,H p = some (.dT aO))) ∨ (T = "set" ∧ ∃ S n,H p = some (.set S n))
 | _ => False
theorem yR {pins:List (Addr × Obj)} {σ:St} {H:Hp} {s:Shared} {T:String} {x:V} {v:Value} (I:Inv X pins σ H s) (r:RelV x v) (ty:J6 X.K T x H) :
  s.TypeIs v T ∧ ∀ a,v = .ref a → ∃ ob,s.heap.get? a = some ob ∧ ob.dict = none:=by
 cases x with
 | str z =>
  obtain ⟨t,rfl⟩:=r
  cases (show T = "str" from ty)
  exact ⟨typeIs_str s z t,fun _ e => nomatch e⟩
 | int i =>
  obtain ⟨t,rfl⟩:=r
  cases (show T = "int" from ty)
  exact ⟨typeIs_int s i t,fun _ e => nomatch e⟩
 | ref p =>
  cases r
  rcases ty with ⟨rfl,xs,hq⟩ | ⟨rfl,o,hk,hc,hd⟩ | ⟨rfl,hk⟩ | ⟨rfl,S,n,hk⟩
  ·obtain ⟨aL,_,pl,_⟩:=I.list hq
   refine ⟨pl.isList.typeIs,fun a e => ?_⟩
   cases e
   obtain ⟨o,n,e,c,hd,_⟩:=pl
   exact ⟨o,e,hd⟩
  ·refine ⟨⟨o,I.pI p o hk,hc⟩,fun a e => ?_⟩
   cases e
   exact ⟨o,I.pI _ o hk,hd⟩
  ·have z:∃ o,s.heap.get? p = some o ∧ o.ExactDict:=by
    rcases hk with ⟨aO,hk⟩ | ⟨aO,hk⟩
    ·obtain ⟨_,_,_,_,o,_,_,e,ex,_⟩:=I.bP p _ hk
     exact ⟨o,e,ex⟩
    ·obtain ⟨_,_,_,_,o,_,_,e,ex,_⟩:=I.bP p _ hk
     exact ⟨o,e,ex⟩
   obtain ⟨o,e,ex⟩:=z
   refine ⟨⟨o,e,ex.1⟩,fun a e2 => ?_⟩
   cases e2
   exact ⟨o,e,ex.2.1⟩
  ·obtain ⟨o,_,_,_,e,ex,_⟩:=I.bP p _ hk
   refine ⟨⟨o,e,ex.1⟩,fun a e2 => ?_⟩
   cases e2
   exact ⟨o,e,ex.2.1⟩
 | _ => exact False.elim ty
noncomputable def Lv (K:PySem.W.Frag) (T:String) (r:V → List V → Hp → VK → Prop) (to:TE):TE:=fun σ H Q => to σ H fun x H1 => J6 K T x H1 ∧ r x [] H1 Q
noncomputable def R_ (K:PySem.W.Frag) (T:String) (r:V → List V → Hp → VK → Prop) (to:TE) (t:TA):TE:=fun σ H Q => to σ H fun x H1 => J6 K T x H1 ∧ t σ H1 fun xs H2 => r x xs H2 Q
variable {o e:Expr} {es:List Expr} {to:TE} {t:TA} {name:Str} {apos cG:Pos} {T id:String} {r:V → List V → Hp → VK → Prop}
theorem Fb (pa:PlainAttrs T) (slot:Slot T name id) (HR:typeOf (.builtin id) = pure (.type "method_descriptor")) (hm:QL X id r) (ho:PE X o to)
  (jS:attributeBase o name X.env (eval o X.env) = eval o X.env:=by rfl) (jT:(apos.endLine == cG.line) = true:=by rfl):PE X (.Call (.Attribute o name apos) [] [] cG) (Lv X.K T r to):=by
 intro pins s σ H Q I h
 refine wpAny_Call_method0_late jS jT (cV (ho pins s σ H _ I h) fun v s1 ⟨x,H1,I1,r1,ty,q1⟩ => ?_)
 obtain ⟨h1,h2⟩:=yR I1 r1 ty
 exact ⟨T,id,pa,slot,HR,h1,h2,Calls.callWith_builtin rfl (PySem.evalArgs_none (hm pins s1 σ H1 x [] v [] Q I1 r1 .nil q1))⟩
theorem HS (pa:PlainAttrs T) (slot:Slot T name id) (HR:typeOf (.builtin id) = pure (.type "method_descriptor")) (hm:QL X id r) (ho:PE X o to) (ha:PA X (e :: es) t)
  (jS:attributeBase o name X.env (eval o X.env) = eval o X.env:=by rfl)
  (yS:((backTo cG (starEach (e :: es) X.env)).all (fun x => !x.1) && (backToKw cG (keywordEach [] X.env)).all (fun x => x.1.isSome)
   && decide ((e :: es).length + ([]:List Keyword).length + (if ([]:List Keyword).isEmpty then 0 else 1) < 30)) = true:=by rfl)
  (jT:(apos.endLine == cG.line) = true:=by rfl) (hs:starEach (e :: es) X.env = (false,eval e X.env) :: starEach es X.env:=by rfl) (nI:(backTo cG (starEach es X.env)).any (·.1) = false:=by rfl) :
  PE X (.Call (.Attribute o name apos) (e :: es) [] cG) (R_ X.K T r to t):=by
 intro pins s σ H Q I h
 refine wpAny_Call_method_late jS yS jT rfl (cV (ho pins s σ H _ I h) fun v s1 ⟨x,H1,I1,r1,ty,q1⟩ => ?_)
 obtain ⟨h1,h2⟩:=yR I1 r1 ty
 refine ⟨T,id,pa,slot,HR,h1,h2,?_⟩
 have hA:=ha cG pins s1 σ H1 _ I1 q1
 rw [hs] at hA ⊢
 refine Calls.callWith_builtin (by show (false || (backTo cG (starEach es X.env)).any (·.1)) = false; rw [nI] <;> rfl) (Calls.evalArgs_plain ?_)
 exact cV hA fun us s2 ⟨vs,H2,I2,r2,q2⟩ => hm pins s2 σ H2 x vs v us Q I2 r1 r2 q2
end
end L2
namespace L2
open PySem PySem.Spec PyProof.Rows
noncomputable def DK (X:Cx) (id:String) (r:V → List V → Hp → VK → Prop):Prop :=
 ∀ (pins:List (Addr × Obj)) (s:Shared) (σ:St) (H:Hp) (x:V) (xs:List V) (v:Value) (us:List Value) (Q:VK),Inv X pins σ H s → RelV x v → Vals xs us → r x xs H Q →
  wpAny (model X.prog X.w) X.A (call (.builtin id) (v :: us)) (EP X pins σ Q) X.xe s
theorem Vals.one {x:V} {us:List Value} (p:Vals [x] us):∃ u,us = [u] ∧ RelV x u:=by
 cases p with
 | cons r t => cases t; exact ⟨_,rfl,r⟩
theorem Vals.zero:∀ {us:List Value},Vals [] us → us = []
 | _,.nil => rfl
theorem Vals.rep {xs:List V} {us:List Value} (h:Vals xs us):∀ k:Nat,Vals (List.replicate k xs).flatten (List.replicate k us).flatten
 | 0 => .nil
 | k + 1 => by
  rw [List.replicate_succ,List.replicate_succ,List.flatten_cons,List.flatten_cons]
  exact Vals.append h (Vals.rep h k)
theorem foldl_rep (aL:List Value):∀ (k:Nat) (acc:List Value),
  List.foldl (fun x1 x2 => x1 ++ x2) acc.toArray (List.replicate k aL.toArray) = (acc ++ (List.replicate k aL).flatten).toArray
 | 0,acc => by simp
 | k + 1,acc => by
  have e:acc.toArray ++ aL.toArray = (acc ++ aL).toArray:=by simp
  have e2:(acc ++ aL) ++ (List.replicate k aL).flatten = acc ++ (List.replicate (k + 1) aL).flatten:=by
   rw [List.replicate_succ,List.flatten_cons,List.append_assoc]
  rw [← e2,← foldl_rep aL k (acc ++ aL),← e,List.replicate_succ,List.foldl_cons]
section
variable {X:Cx} {pins:List (Addr × Obj)} {σ:St} {H:Hp} {s:Shared} {l b:Addr} {xs ys zs:List V}
theorem Inv.Lw {aL its':List Value} {n:Nat} {f:Array Value → Array Value} {t':Nat} (I:Inv X pins σ H s) (hH:H l = some (.lst xs))
  (e:s.heap.get? l = some { cls:=.type "list",data:=.seq aL.toArray n }) (hf:f aL.toArray = its'.toArray) (hv:Vals ys its') (hz:ys.length ≤ sizeLine) :
  Inv X pins σ (upd H l (.lst ys)) { s with heap:=s.heap.update l (Obj.mapSeq f),toks:=t' }:=by
 have q:=PySem.IsL.update e f
 rw [hf] at q
 refine I.write (x:=l) (e:=l) (by rw [hH]; exact trivial) (.inl rfl) (fun b' u hb hu => (Heap.get?_update_other s.heap (Obj.mapSeq f) (Ne.symm hb)).trans hu) ⟨_,q⟩ ?_
 exact ⟨hz,its',_,hv,q⟩
theorem Inv.HU {aL:List Value} {t':Nat} (I:Inv X pins σ H s) (hv:Vals ys aL) (hz:ys.length ≤ sizeLine) :
  Inv X pins σ (upd H s.heap.objs.size (.lst ys)) { s with heap:=s.heap.push { cls:=.type "list",data:=.seq aL.toArray },toks:=t' } :=
 I.laid (fun _ _ q => Heap.get?_push_of_some _ q) (Nat.le_refl _) ⟨hz,aL,0,hv,Heap.get?_push_size _ rfl⟩
theorem Inv.fresh (I:Inv X pins σ H s):H s.heap.objs.size = none:=I.bP.fresh (Nat.le_refl _)
theorem Inv.B3 (I:Inv X pins σ H s) (hH:H l = some (.lst xs)):xs.length ≤ sizeLine ∧ ∃ (aL:List Value) (n:Nat),Vals xs aL ∧ xs.length = aL.length ∧ s.heap.get? l = some { cls:=.type "list",data:=.seq aL.toArray n }:=by
 obtain ⟨z,aL,n,r,e⟩:=I.bP l _ hH
 exact ⟨z,aL,n,r,r.length,e⟩
theorem yT {n:Nat} (h:n ≤ sizeLine):Builtin.List.listTooLong n = false:=by
 unfold Builtin.List.listTooLong
 exact decide_eq_false (by lia)
end
section
variable {X:Cx}
noncomputable def B4:V → List V → Hp → VK → Prop:=fun x vs H Q => ∃ l xs y,x = .ref l ∧ vs = [y] ∧ H l = some (.lst xs) ∧ xs.length < sizeLine ∧ Q .e7 (upd H l (.lst (xs ++ [y])))
theorem xi:DK X "list.append" B4:=by
 intro pins s σ H x vs v us Q I rx rv h
 obtain ⟨l,xs,y,rfl,rfl,hH,hz,q⟩:=h
 cases rx
 obtain ⟨u,rfl,ru⟩:=rv.one
 obtain ⟨z,aL,n,r,hl,e⟩:=I.B3 hH
 refine call_meets F.slot_list_append ⟨_,e,rfl⟩ F.entry_list_append (F.args_list_append_2 _ _) (PySem.list_append l aL.toArray n u (by rw [List.size_toArray]; lia)) ⟨e,?_⟩
 refine ⟨.e7,_,I.Lw (its':=aL ++ [u]) hH e (by simp) (r.append (.cons ru .nil)) ?_,rfl,q⟩
 rw [List.length_append,List.length_singleton]
 lia
noncomputable def J7:V → List V → Hp → VK → Prop:=fun x vs H Q => ∃ l b xs zs,x = .ref l ∧ vs = [.ref b] ∧ H l = some (.lst xs) ∧ H b = some (.lst zs) ∧ xs.length + zs.length ≤ sizeLine ∧ Q .e7 (upd H l (.lst (xs ++ zs)))
noncomputable def Lx:R2:=fun x y H Q => ∃ l b xs zs,x = .ref l ∧ y = .ref b ∧ H l = some (.lst xs) ∧ H b = some (.lst zs) ∧ xs.length + zs.length ≤ sizeLine ∧ ∀ p,H p = none → Q (.ref p) (upd H p (.lst (xs ++ zs)))
theorem Fc:ef X (binaryOp .Add) Lx:=by
 intro pins s σ H x y v u Q I rx ry h
 obtain ⟨l,b,xs,zs,rfl,rfl,hH,hB,hz,q⟩:=h
 cases rx
 cases ry
 obtain ⟨z,aL,n,r,hl,e⟩:=I.B3 hH
 obtain ⟨z2,dS,n2,r2,vN,e2⟩:=I.B3 hB
 refine PySem.P.add_list e e2 ?_ (by rw [List.size_toArray,List.size_toArray]; lia)
 have ea:aL.toArray ++ dS.toArray = (aL ++ dS).toArray:=by simp
 rw [ea]
 exact ⟨.ref _,_,I.HU (t':=s.toks) (r.append r2) (by rw [List.length_append]; lia),rfl,q _ I.fresh⟩
noncomputable def Ly:R2:=fun x y H Q => ∃ l k xs,x = .ref l ∧ y = .int k ∧ H l = some (.lst xs) ∧ -(2 ^ 63) ≤ k ∧ k < 2 ^ 63 ∧ xs.length * k.toNat ≤ sizeLine ∧
 ∀ p,H p = none → Q (.ref p) (upd H p (.lst (List.replicate k.toNat xs).flatten))
theorem len_rep {α:Type} (xs:List α) (k:Nat):(List.replicate k xs).flatten.length = k * xs.length:=by
 induction k with
 | zero => simp
 | succ k ih => rw [List.replicate_succ,List.flatten_cons,List.length_append,ih,Nat.succ_mul,Nat.add_comm]
theorem Fd:ef X (binaryOp .Mult) Ly:=by
 intro pins s σ H x y v u Q I rx ry h
 obtain ⟨l,k,xs,rfl,rfl,hH,h1,h2,hz,q⟩:=h
 cases rx
 obtain ⟨t,rfl⟩:=ry
 obtain ⟨z,aL,n,r,hl,e⟩:=I.B3 hH
 have hlen:aL.toArray.size * k.toNat ≤ sizeLine:=by rw [List.size_toArray,← hl]; exact hz
 have Fe:¬ aL.toArray.size * k.toNat > (2 ^ 63 - 1) / 8:=by
  have:(sizeLine:Nat) ≤ (2 ^ 63 - 1) / 8:=by decide
  lia
 have Lz:¬ (!Builtin.List.listFitsIndex k) = true:=by
  rw [fitsIndex_both h1 h2]
  exact Bool.false_ne_true
 have HV:¬ Builtin.List.listTooLong (aL.toArray.size * k.toNat) = true:=by
  rw [yT hlen]
  exact Bool.false_ne_true
 have LA:List.foldl (fun x1 x2 => x1 ++ x2) #[] (List.replicate (if aL.toArray.isEmpty = true then 0 else k.toNat) aL.toArray) = (List.replicate k.toNat aL).flatten.toArray:=by
  have f0:∀ m:Nat,List.foldl (fun x1 x2 => x1 ++ x2) #[] (List.replicate m aL.toArray) = (List.replicate m aL).flatten.toArray:=fun m => by
   have:=foldl_rep aL m []
   rw [List.nil_append] at this
   exact this
  rw [f0]
  cases aL with
  | nil => simp
  | cons a r' => rw [if_neg (by simp)]
 refine wpAny_binaryOp_repeat_ref (T:="list") (U:="int") (by decide) ⟨_,e,rfl⟩ (fun s' => typeIs_int s' k t) noFill_list_mul F.fills_int_mul F.slot_int_rmul repeat_list F.slot_int_index.lookup
  (call_meets F.slot_int_rmul (typeIs_int s k t) F.entry_int_rmul (F.args_int_rmul_2 _ _) (int___rmul___int_list k t l aL.toArray n)
   ⟨e,rfl,⟨_,e,rfl⟩,call_meets F.slot_list_mul ⟨_,e,rfl⟩ F.entry_list_mul (F.args_list_mul_2 _ _) (AutoListH.list___mul___list_int_3 l aL.toArray n k t Lz Fe HV) ⟨e,?_⟩⟩)
 rw [LA]
 exact ⟨.ref _,_,I.HU (t':=s.toks) (r.rep k.toNat) (by rw [len_rep,Nat.mul_comm]; exact hz),rfl,q _ I.fresh⟩
end
section
variable {prog:Program} {w:World} {A:Around} {E:Value → Shared → Prop} {s:Shared}
set_option maxRecDepth 100000 in
end
section
variable {X:Cx}
end
end L2
namespace QN
open PySem PySem.W PySem.Calls PyProof.Rows
theorem mF {P:Params} {h:Heap}:∀ (ns:List Int) (vs:List Value),WellAll P h vs (ns.map WData.int) → IntsAre vs ns:=by
 intro ns
 induction ns with
 | nil =>
  intro vs w
  rw [List.map_nil] at w
  cases w
  exact .nil
 | cons n ns ih =>
  intro vs w
  rw [List.map_cons] at w
  cases w with
  | cons a b =>
   cases a
   exact .cons _ _ (ih _ b)
theorem xj {l:OpenLaw} {n:Nat} (hn:l.most = some n) {P:Params} {h:Heap} {args:List WData} {vals:List Value}
  (B5:l.row.toRowW.claim.pre args = true) (LB:WellAll P h vals args) :
  ∃ a vs ns,vals = [Value.ref a] ∧ args = [WData.list (ns.map WData.int)] ∧ h.get? a = some { cls:=.type "list",data:=.seq vs.toArray } ∧ IntsAre vs ns ∧ ns.length ≤ n:=by
 have Sa:WShape.hasAll [] args [.list .int] = true:=(pre_splitW B5).1
 have hc:l.pre.holds [] { args:=args } = true:=(pre_splitW B5).2
 obtain ⟨d,r,rfl,h1,h2⟩:=hasAllW_cons Sa
 obtain rfl:=hasAllW_nil h2
 obtain ⟨xs,rfl,h3⟩:=hasW_list h1
 obtain ⟨ns,rfl⟩:=items_int h3
 have hlen:ns.length ≤ n:=by
  unfold OpenLaw.pre at hc
  have h4:(WTm.not (.lt (.lit (.int (n:Int))) (.len (.arg 0)))).holds [] { args:=[.list (ns.map .int)] } = true:=by
   have h4:=(holds_andW hc).1
   rw [hn] at h4
   exact h4
  have h5:=condW_of h4 (w_not (w_lt w_lit (w_len_list (w_arg rfl))))
  rw [List.length_map] at h5
  refine Nat.le_of_not_lt fun q => ?_
  have q':(n:Int) < ((ns.length:Nat):Int):=by lia
  first
   | (rw [decide_eq_true q'] at h5; exact absurd h5 (by decide))
   | (simp at h5; lia)
 cases LB with
 | cons w1 w2 =>
  cases w2
  cases w1 with
  | list ho Ff => exact ⟨_,_,ns,rfl,rfl,ho,mF ns _ Ff,hlen⟩
theorem xk (l:OpenLaw) (args:List WData):l.row.toRowW.claim.post args (.bool true) args = true :=
 postW_of (r:=l.row.toRowW) (X:=(true == true))
  (show WShape.has [] (.bool true) .bool = true by first | rfl | decide | simp [WShape.has,WShape.arms,WShape.armsAll])
  (show (WTm.eq .res (.lit (.bool true))).value [] { args:=args,res:=some (.bool true),after:=args } = some (.bool (true == true)) from w_eq_bool (w_res rfl) w_lit) rfl
theorem sm {l:OpenLaw} {n:Nat} {q:Program} {loose:List Str} {XP:(Str → Option Value) → Heap → Prop} {YP:World → Heap → Prop} {d:DefRec}
  (hn:l.most = some n) (HW:d.params.defaults = [])
  (call:∀ (w:World) (s₀ s₁:Shared) (mg mb:Str → Option Value) (fa:Addr) (o:Obj) (pm cd doc:Value) (a:Addr) (vs:List Value) (ns:List Int),
   Ground q loose [] XP w s₀ mg mb s₁.heap → YP w s₁.heap →
   s₁.heap.get? fa = some o → o.data = .func (docDef d.name d.params d.body d.scope pm cd doc) → s₁.heap.CodeRec cd d.name → mg d.name = some (.ref fa) →
   s₁.heap.get? a = some { cls:=.type "list",data:=.seq vs.toArray } → IntsAre vs ns → ns.length ≤ n → s₁.gens = #[] →
   codeAny (model l.prog w) callerA (.call (.ref fa) ⟨[.ref a],[]⟩) (fun r s' => r = .ok (.ret (.bool true)) ∧ OldK s₁.heap s'.heap ∧ s'.os = s₁.os ∧ AllBare s'.gens) s₁) :
  WalkO q loose XP YP l.row.toRowW d [] (fun f vs => PySem.call f vs):=by
 intro w s₀ s₁ mg mb G Y fa o pm cd doc dV kV ho hd oT hD HX hg args vals as B5 Sb Vx LB G0
 obtain rfl:dV = .none:=Dflts.none hD HW
 obtain rfl:kV = .none:=Dflts.noKw hD
 obtain ⟨a,vs,ns,rfl,rfl,Fg,hints,hlen⟩:=xj hn B5 LB
 refine enter_call (codeAny_mono (call w s₀ s₁ mg mb fa o pm cd doc a vs ns G Y ho (fd_plain hd) oT HX Fg hints hlen hg) fun r s' hq => ?_)
 obtain ⟨rfl,h2,h3,h4⟩:=hq
 exact ⟨.inl ⟨.bool true,.bool true,[],rfl,fun _ => rfl,.bool true,xk l _,fun _ => ⟨List.Pairwise.nil,fun _ hm => (nomatch hm)⟩⟩,h2,h3,h4⟩
section
variable {prog:Program} {w:World} {A:Around} {E:Value → Shared → Prop} {s:Shared} {K:Frag}
end
end QN
namespace L2
open PySem PySem.Spec PyProof.Rows
theorem pO:∀ {vs:List Value} {ns:List Int},IntsAre vs ns → Vals (ns.map V.int) vs
 | _,_,.nil => .nil
 | _,_,.cons n t h => .cons ⟨t,rfl⟩ (pO h)
end L2
namespace L2
open PySem PySem.Spec PyProof.Rows
end L2
namespace L2
open PySem PySem.Spec PyProof.Rows
noncomputable def aZ (s:Stmt):Arguments:=match s with
 | .FunctionDef _ a _ _ _ _ _ _ _ _ => a
 | _ => { posonlyargs:=[],args:=[],vararg:=none,kwonlyargs:=[],kw_defaults:=[],kwarg:=none,defaults:=[] }
noncomputable def aQ (s:Stmt):List Stmt:=match s with
 | .FunctionDef _ _ b _ _ _ _ _ _ _ => b
 | _ => []
noncomputable def ao (s:Stmt):Scope:=match s with
 | .FunctionDef _ _ _ _ _ _ sc _ _ _ => sc
 | _ => { kind:=.function,names:=[],isGenerator:=false,isCoroutine:=false }
noncomputable abbrev E0:XK:=fun _ _ _ => False
structure iI (K:PySem.W.Frag) (x qual:Str) (st:Stmt) (f:Addr) (fd:FuncData):Prop where
 ex:∃ (oc:Value) (od:Option Addr) (kV doc pm:Value) (an:Option Addr) (dj ct:Value) (BR:Array (Option Value)),
  fd = PySem.W.fnOf x qual (aZ st) (aQ st) (ao st) .none kV doc pm an dj ct ∧ K.lookup f = some ⟨oc,od,.func fd,BR⟩ ∧ PySem.W.codeIn K dj qual = true
 kp:PySem.W.keepIn K (.ref f) = true
section
variable {P:Program} {w:World} {K:PySem.W.Frag} {mg:Str → Option Value} {base:Heap}
theorem iI.binds {x qual:Str} {st:Stmt} {f:Addr} {fd:FuncData} {ps:List Str} (F:iI K x qual st f fd)
  (h:∀ (kV doc pm:Value) (an:Option Addr) (dj ct:Value) (us:List Value),us.length = ps.length → bindArgs (PySem.W.fnOf x qual (aZ st) (aQ st) (ao st) .none kV doc pm an dj ct) ⟨us,[]⟩ = pure (ps.zip us)):Binds K fd ps []:=by
 obtain ⟨oc,od,kV,doc,pm,an,dj,ct,BR,rfl,lk,oT⟩:=F.ex
 exact .all (h kV doc pm an dj ct)
theorem cu {x qual:Str} {st:Stmt} {f:Addr} {oc:Value} {od an:Option Addr} {BR:Array (Option Value)} {kV doc pm dj ct:Value} (l:K.lookup f = some ⟨oc,od,.func (PySem.W.fnOf x qual (aZ st) (aQ st) (ao st) .none kV doc pm an dj ct),BR⟩)
  (c:PySem.W.codeIn K dj qual = true) (k:PySem.W.keepIn K (.ref f) = true):iI K x qual st f (PySem.W.fnOf x qual (aZ st) (aQ st) (ao st) .none kV doc pm an dj ct):=⟨⟨oc,od,kV,doc,pm,an,dj,ct,BR,rfl,l,c⟩,k⟩
end
section
variable {X:Cx}
end
noncomputable def jx (H H':Hp):Prop:=∀ b o,H b = some o → H' b = some o
theorem jx.refl (H:Hp):jx H H:=fun _ _ h => h
end L2
namespace L2
open PySem PySem.Spec PyProof.Rows
section
variable {κ:Type} [DecidableEq κ]
noncomputable def hV (aO:List (κ × V)) (k:κ):Option V:=(aO.find? fun kv => decide (kv.1 = k)).map (·.2)
noncomputable def putK (aO:List (κ × V)) (k:κ) (v:V):List (κ × V) :=
 if (aO.any fun kv => decide (kv.1 = k)) = true then aO.map (fun kv => if kv.1 = k then (kv.1,v) else kv) else aO ++ [(k,v)]
theorem nJ {p:κ × V} {r:List (κ × V)} {k:κ} (e:p.1 = k):hV (p :: r) k = some p.2:=by simp [hV,List.find?_cons,e]
theorem nK {p:κ × V} {r:List (κ × V)} {k:κ} (e:¬ p.1 = k):hV (p :: r) k = hV r k:=by simp [hV,List.find?_cons,e]
theorem sq (k:κ):∀ aO:List (κ × V),(aO.any fun kv => decide (kv.1 = k)) = (hV aO k).isSome
 | [] => rfl
 | p :: r => by
  rw [List.any_cons]
  by_cases e:p.1 = k
  ·simp only [nJ e,decide_eq_true e,Bool.true_or,Option.isSome_some]
  ·rw [nK e,decide_eq_false e,Bool.false_or]; exact sq k r
theorem lU (aO:List (κ × V)) (k:κ) (v:V):(putK aO k v).length ≤ aO.length + 1:=by
 unfold putK
 split
 ·rw [List.length_map]; lia
 ·rw [List.length_append,List.length_cons,List.length_nil]; lia
theorem kG.xn {o:Option V} {u:Option Value} (r:kG o u):o.isSome = u.isSome:=by
 cases o with
 | none => cases u with
  | none => rfl
  | some _ => exact (show False from r).elim
 | some _ => cases u with
  | none => exact (show False from r).elim
  | some _ => rfl
theorem kG.getD {o:Option V} {u:Option Value} {d:V} {d':Value} (r:kG o u) (rd:RelV d d'):RelV (o.getD d) (u.getD d'):=by
 cases o with
 | none => cases u with
  | none => exact rd
  | some _ => exact (show False from r).elim
 | some _ => cases u with
  | none => exact (show False from r).elim
  | some _ => exact r
theorem KV.val {aO:List (κ × V)} {vs:List (κ × Value)} (r:KV aO vs) (k:κ):kG (hV aO k) (valueAt vs k):=by
 unfold KV at r
 induction r with
 | nil => exact True.intro
 | @cons p q ps qs h t ih =>
  obtain ⟨h1,h2⟩:=h
  by_cases e:p.1 = k
  ·have e':q.1 = k:=h1.symm.trans e
   have b:valueAt (q :: qs) k = some q.2:=by simp [valueAt,List.find?_cons,e']
   rw [nJ e,b]; exact h2
  ·have e':¬ q.1 = k:=fun z => e (h1.trans z)
   have b:valueAt (q :: qs) k = valueAt qs k:=by simp [valueAt,List.find?_cons,e']
   rw [nK e,b]; exact ih
theorem KV.any {aO:List (κ × V)} {vs:List (κ × Value)} (r:KV aO vs) (k:κ):(aO.any fun kv => decide (kv.1 = k)) = vs.any fun kv => decide (kv.1 = k):=by
 unfold KV at r
 induction r with
 | nil => rfl
 | cons h t ih => rw [List.any_cons,List.any_cons,ih,h.1]
theorem KV.qP {aO:List (κ × V)} {vs:List (κ × Value)} (r:KV aO vs) (k:κ) {y:V} {u:Value} (ry:RelV y u) :
  KV (aO.map fun kv => if kv.1 = k then (kv.1,y) else kv) (vs.map fun kv => if kv.1 = k then (kv.1,u) else kv):=by
 unfold KV at r ⊢
 induction r with
 | nil => exact .nil
 | @cons p q ps qs h t ih =>
  rw [List.map_cons,List.map_cons]
  refine .cons ?_ ih
  obtain ⟨h1,h2⟩:=h
  by_cases e:p.1 = k
  ·rw [if_pos e,if_pos (h1.symm.trans e)]; exact ⟨h1,ry⟩
  ·rw [if_neg e,if_neg (fun z => e (h1.trans z))]; exact ⟨h1,h2⟩
theorem KV.put {aO:List (κ × V)} {vs:List (κ × Value)} (r:KV aO vs) (k:κ) {y:V} {u:Value} (ry:RelV y u):KV (putK aO k y) (stored vs k u):=by
 unfold putK stored
 rw [r.any k]
 by_cases e:(vs.any fun kv => decide (kv.1 = k)) = true
 ·rw [if_pos e,if_pos e]; exact r.qP k ry
 ·rw [if_neg e,if_neg e]; exact Paired.snoc r ⟨rfl,ry⟩
theorem KV.length {aO:List (κ × V)} {vs:List (κ × Value)} (r:KV aO vs):aO.length = vs.length:=Paired.length r
end
theorem vO {P:Program} {w:World} {k:Key} {u:Value} (r:RelV (kV k) u):(dm P w).is k u = true:=by
 cases k with
 | inl i => obtain ⟨t,e⟩:=(show ∃ t,u = Value.int i t from r); subst e; exact r9 P w i t
 | inr x => obtain ⟨t,e⟩:=(show ∃ t,u = Value.str x t from r); subst e; exact r_ P w x t
theorem pP {P:Program} {w:World}:∀ {ks:List Key} {us:List Value},Vals (ks.map kV) us → ItemsAre (dm P w) ks us
 | [],_,r => by rw [List.map_nil] at r; cases r; exact .nil
 | k :: ks,_,r => by
  rw [List.map_cons] at r
  cases r with
  | cons h t => exact .cons (vO h) (pP t)
noncomputable abbrev KT (H:Hp):List (List Key × V) → List (List Key × Addr × Value) → Prop:=Paired fun p q => p.1 = q.1 ∧ H q.2.1 = some (.tup (p.1.map kV)) ∧ RelV p.2 q.2.2
theorem KT.val {H:Hp} {aO:List (List Key × V)} {xs:List (List Key × Addr × Value)} (r:KT H aO xs) (k:List Key):kG (hV aO k) ((atKey xs k).map (·.2)):=by
 induction r with
 | nil => exact True.intro
 | @cons p q ps qs h t ih =>
  obtain ⟨h1,_,h2⟩:=h
  by_cases e:p.1 = k
  ·have e':q.1 = k:=h1.symm.trans e
   have b:atKey (q :: qs) k = some q.2:=by simp [atKey,List.find?_cons,e']
   rw [nJ e,b]; exact h2
  ·have e':¬ q.1 = k:=fun z => e (h1.trans z)
   have b:atKey (q :: qs) k = atKey qs k:=by simp [atKey,List.find?_cons,e']
   rw [nK e,b]; exact ih
theorem KT.qP {H:Hp} {aO:List (List Key × V)} {xs:List (List Key × Addr × Value)} (r:KT H aO xs) (k:List Key) {y:V} {u:Value} (ry:RelV y u) :
  KT H (aO.map fun kv => if kv.1 = k then (kv.1,y) else kv) (xs.map (putAt k u)):=by
 induction r with
 | nil => exact .nil
 | @cons p q ps qs h t ih =>
  rw [List.map_cons,List.map_cons]
  refine .cons ?_ ih
  obtain ⟨h1,h2,h3⟩:=h
  unfold putAt
  by_cases e:p.1 = k
  ·rw [if_pos e,if_pos (h1.symm.trans e)]; exact ⟨h1,h2,ry⟩
  ·rw [if_neg e,if_neg (fun z => e (h1.trans z))]; exact ⟨h1,h2,h3⟩
theorem KT.put {H:Hp} {aO:List (List Key × V)} {xs:List (List Key × Addr × Value)} (r:KT H aO xs) (k:List Key) {b:Addr} {y:V} {u:Value} (hb:H b = some (.tup (k.map kV))) (ry:RelV y u) :
  KT H (putK aO k y) (storedH xs k b u):=by
 have e:(aO.any fun kv => decide (kv.1 = k)) = (atKey xs k).isSome:=by
  rw [sq,(r.val k).xn,Option.isSome_map]
 unfold putK storedH
 rw [e]
 by_cases q:(atKey xs k).isSome = true
 ·rw [if_pos q,if_pos q]; exact r.qP k ry
 ·rw [if_neg q,if_neg q]; exact Paired.snoc r ⟨rfl,hb,ry⟩
theorem KT.keeps {H H':Hp} {aO:List (List Key × V)} {xs:List (List Key × Addr × Value)} (r:KT H aO xs) (ht:∀ b ys,H b = some (.tup ys) → H' b = some (.tup ys)):KT H' aO xs :=
 Paired.Ei r fun _ _ z => ⟨z.1,ht _ _ z.2.1,z.2.2⟩
section
variable {P:Program} {w:World} {H:Hp} {h:Heap} {a:Addr}
theorem DM {u:HO} (ok:gv P w H h) (e:Rd H a u):b7 P w H h a u:=e.ok ok
theorem su {aO:List (Key × V)} (ok:gv P w H h) (e:Rd H a (.dK aO)):aO.length ≤ sizeLine ∧ (a == sysModules) = false ∧ ∃ vs,KV aO vs ∧ h.DictOf (dm P w) a vs :=
 show b7 P w H h a (.dK aO) from DM ok e
theorem HY {aO:List (Key × V)} (ok:gv P w H h) (e:H a = some (.dK aO)):aO.length ≤ sizeLine ∧ (a == sysModules) = false ∧ ∃ vs,KV aO vs ∧ h.DictOf (dm P w) a vs:=su ok (.inl e)
theorem qQ {ks:List Key} (ok:gv P w H h) (e:H a = some (.tup (ks.map kV))):(tupleKind (dm P w)).is h ks a:=by
 obtain ⟨_,aL,r,o,h1,h2,n,h3⟩:=(show b7 P w H h a (.tup (ks.map kV)) from ok a _ e)
 exact ⟨o,aL.toArray,n,h1,h2,h3,by simpa using pP r⟩
theorem sv {aO:List (List Key × V)} (ok:gv P w H h) (e:Rd H a (.dT aO)):aO.length ≤ sizeLine ∧ (a == sysModules) = false ∧
  ∃ xs,KT H aO xs ∧ h.DictOfH (tupleKind (dm P w)) a xs:=by
 obtain ⟨z,y,xs,r,o,es,ep,h1,h2,h3,h4,h5⟩:=(show b7 P w H h a (.dT aO) from DM ok e)
 refine ⟨z,y,xs,r,o,es,ep,h1,h2,h3,h4,fun x hx => ?_,h5⟩
 have all:∀ {l:List (List Key × V)} {m:List (List Key × Addr × Value)},KT H l m → ∀ x ∈ m,(tupleKind (dm P w)).is h x.1 x.2.1:=by
  intro l m q
  induction q with
  | nil => intro x hx; exact nomatch hx
  | @cons p q ps qs hq t ih =>
   intro x hx
   rcases List.mem_cons.mp hx with e | hx
   ·subst e
    exact qQ ok (by rw [← hq.1]; exact hq.2.1)
   ·exact ih x hx
 exact all r x hx
theorem HZ {aO:List (List Key × V)} (ok:gv P w H h) (e:H a = some (.dT aO)):aO.length ≤ sizeLine ∧ (a == sysModules) = false ∧
  ∃ xs,KT H aO xs ∧ h.DictOfH (tupleKind (dm P w)) a xs:=sv ok (.inl e)
end
noncomputable def mG (H:Hp) (a:Addr) (y:V) (r:Option V):Prop :=
 (∃ aO k,Rd H a (.dK aO) ∧ y = kV k ∧ r = hV aO k) ∨ ∃ aO k b,Rd H a (.dT aO) ∧ y = .ref b ∧ H b = some (.tup (k.map kV)) ∧ r = hV aO k
noncomputable def qR (H:Hp) (a:Addr) (y v:V) (H':Hp):Prop :=
 (∃ aO k,H a = some (.dK aO) ∧ y = kV k ∧ aO.length < sizeLine ∧ H' = upd H a (.dK (putK aO k v))) ∨
 ∃ aO k b,H a = some (.dT aO) ∧ y = .ref b ∧ H b = some (.tup (k.map kV)) ∧ aO.length < sizeLine ∧ H' = upd H a (.dT (putK aO k v))
theorem mG.k {H:Hp} {a:Addr} {aO:List (Key × V)} {k:Key} (e:H a = some (.dK aO)):mG H a (kV k) (hV aO k):=.inl ⟨aO,k,.inl e,rfl,rfl⟩
theorem mG.t {H:Hp} {a b:Addr} {aO:List (List Key × V)} {k:List Key} (e:H a = some (.dT aO)) (eb:H b = some (.tup (k.map kV))):mG H a (.ref b) (hV aO k):=.inr ⟨aO,k,b,.inl e,rfl,eb,rfl⟩
theorem qR.k {H:Hp} {a:Addr} {aO:List (Key × V)} {k:Key} {v:V} (e:H a = some (.dK aO)) (hl:aO.length < sizeLine):qR H a (kV k) v (upd H a (.dK (putK aO k v))):=.inl ⟨aO,k,e,rfl,hl,rfl⟩
theorem qR.t {H:Hp} {a b:Addr} {aO:List (List Key × V)} {k:List Key} {v:V} (e:H a = some (.dT aO)) (eb:H b = some (.tup (k.map kV))) (hl:aO.length < sizeLine) :
  qR H a (.ref b) v (upd H a (.dT (putK aO k v))):=.inr ⟨aO,k,b,e,rfl,eb,hl,rfl⟩
section
variable {X:Cx} {pins:List (Addr × Obj)} {σ:St} {H:Hp} {s:Shared} {a:Addr} {y v:V} {u r:Value} {o:Option V} {A:Around} {E:Value → Shared → Prop}
theorem Inv.big (I:Inv X pins σ H s):sysModules < s.heap.objs.size:=by
 have h:mainGlobals < s.heap.objs.size:=(I.mod.glob.keeps I.bk).lt
 exact Nat.lt_trans (by decide) h
theorem xo {Q:Value → Shared → Prop} (hu:A.units + 1 < cLine) (I:Inv X pins σ H s) (g:mG H a y (some v)) (ry:RelV y u) (h:∀ w' s',Inv X pins σ H s' → RelV v w' → Q w' s') :
  wpAny (model X.prog X.w) A (getItem (.ref a) u) Q E s:=by
 rcases g with ⟨aO,k,e,ey,l⟩ | ⟨aO,k,b,e,ey,eb,l⟩
 ·subst ey
  obtain ⟨z,hd,vs,rel,dd⟩:=su I.bP e
  obtain ⟨w',hw,sk⟩:=kG.some_of (v:=v) (o:=valueAt vs k) (by rw [l]; exact rel.val k)
  exact wpAny_getItem_of (vO ry) dd.mapOf hw (h w' _ (I.tok _) sk)
 ·subst ey
  cases (show u = Value.ref b from ry)
  obtain ⟨z,hd,xs,rel,dd⟩:=sv I.bP e
  obtain ⟨w',hw,sk⟩:=kG.some_of (v:=v) (o:=(atKey xs k).map (·.2)) (by rw [l]; exact rel.val k)
  obtain ⟨p,hp,H9⟩:=Option.map_eq_some_iff.mp hw
  refine wpAny_getItem_heap (tupleKind_room_in1 hu) (qQ I.bP eb) dd hp ?_
  rw [H9]
  exact h w' _ (I.tok _) sk
theorem vP {h':Heap} {t':Nat} {ob:HO} (I:Inv X pins σ H s) (mu:Hg (H a)) (hs:Heap.SameBut a s.heap h') (he:∃ q,h'.get? a = some q) (new:b7 X.prog X.w (upd H a ob) h' a ob) :
  Inv X pins σ (upd H a ob) { s with heap:=h',toks:=t' } :=
 I.write (x:=a) (e:=a) mu (.inl rfl) (fun b q hb z => (hs.2 b hb).trans z) he new
theorem Fh {P:Program} {w:World} {H':Hp} {h':Heap} {aO:List (Key × V)} {vs:List (Key × Value)} (z:aO.length ≤ sizeLine) (hd:(a == sysModules) = false) (rel:KV aO vs) (dd:h'.DictOf (dm P w) a vs) :
  b7 P w H' h' a (.dK aO):=⟨z,hd,vs,rel,dd⟩
theorem xp {H':Hp} {Q:Unit → Shared → Prop} (hu:A.units + 1 < cLine) (I:Inv X pins σ H s) (g:qR H a y v H') (ry:RelV y u) (rv:RelV v r) (h:∀ s',Inv X pins σ H' s' → Q () s') :
  wpAny (model X.prog X.w) A (setItem (.ref a) u r) Q E s:=by
 rcases g with ⟨aO,k,e,ey,l,eH⟩ | ⟨aO,k,b,e,ey,eb,l,eH⟩
 ·subst ey eH
  obtain ⟨z,hd,vs,rel,dd⟩:=HY I.bP e
  have hz:vs.length ≤ sizeLine:=by rw [← rel.length]; exact z
  have hl:(putK aO k v).length ≤ sizeLine:=by have:=lU aO k v; lia
  refine wpAny_setItem_pairs (hsz:=hz) (vO ry) dd fun h' J8 hs => h _ ?_
  have he:∃ q,h'.get? a = some q:=let ⟨q,_,_,hq,_⟩:=J8; ⟨q,hq⟩
  exact vP I (by rw [e]; exact True.intro) hs he (Fh hl hd (rel.put k rv) J8)
 ·subst ey eH
  cases (show u = Value.ref b from ry)
  obtain ⟨z,hd,xs,rel,dd⟩:=HZ I.bP e
  have hz:xs.length ≤ sizeLine:=by rw [← Paired.length rel]; exact z
  have hl:(putK aO k v).length ≤ sizeLine:=by have:=lU aO k v; lia
  refine wpAny_setItem_heap (hsz:=hz) (tupleKind_room_in1 hu) (qQ I.bP eb) dd fun h' J8 hs => h _ ?_
  obtain ⟨q,es,ep,hq,h2,h3,h4,_,h5⟩:=J8
  refine vP I (by rw [e]; exact True.intro) hs ⟨q,hq⟩ ⟨hl,hd,_,(rel.put k eb rv).keeps fun c ys ec => ?_,q,es,ep,hq,h2,h3,h4,h5⟩
  rw [aH (Hf ec e (fun z => nomatch z))]
  exact ec
end
section
variable {X:Cx} {pins:List (Addr × Obj)} {σ:St} {H:Hp} {s:Shared} {a:Addr} {aO:List (Key × V)} {k:Key} {u:Value} {A:Around} {E:Value → Shared → Prop}
end
noncomputable def Fi (i:Expr):Prop:=∀ ov iv,subscripted i false ov iv = operate [ov,iv] (getItem ov iv)
theorem B6 {prog:Program} {w:World} {A:Around} {E:Value → Shared → Prop} {s:Shared} {env:Env} {value slice:Expr} {pos:Pos} {T id:String} {Q:Value → Shared → Prop}
  (hl:typeLookup (.type T) "__getitem__" = pure (some (.builtin id))) (hs:Fi slice)
  (h:wpAny (model prog w) A (eval value env) (fun o s₁ => wpAny (model prog w) A (eval slice env) (fun i s₂ => s₂.TypeIs o T ∧ wpAny (model prog w) A (getItem o i) Q E s₂) E s₁) E s) :
  wpAny (model prog w) A (eval (.Subscript value slice pos) env) Q E s:=by
 refine Subscript_ (wpAny_mono h (fun o s₁ h₁ => wpAny_mono h₁ (fun i s₂ h₂ => ?_) fun _ _ x => x) fun _ _ x => x)
 obtain ⟨hT,h₂⟩:=h₂
 unfold subscriptTail
 refine wpAny_bind ?_
 rw [getitemInPython_of_ne hT.not_modules]
 refine wpAny_bind (wpAny_specialOf hT hl ?_)
 have fin:wpAny (model prog w) A (subscripted slice false o i) (fun r s₃ => wpAny (model prog w) A (letTemporaryGo value o r >>= fun _ => pure r) Q E s₃) E s₂:=by
  rw [hs o i]
  exact wpAny_operating (wpAny_mono h₂ (fun r s₃ h₃ => wpAny_bind (wpAny_letTemporaryGo (wpAny_pure h₃))) fun _ _ x => x)
 first
  | exact wpAny_pure (wpAny_bind fin)
  | exact wpAny_bind (wpAny_pure (wpAny_bind fin))
  | exact wpAny_bind fin
theorem sA {X:Cx} {pins:List (Addr × Obj)} {σ:St} {H:Hp} {s:Shared} {a:Addr} {y:V} {o:Option V} (I:Inv X pins σ H s) (g:mG H a y o):s.TypeIs (.ref a) "dict":=by
 rcases g with ⟨aO,k,e,_,_⟩ | ⟨aO,k,b,e,_,_,_⟩
 ·obtain ⟨_,_,vs,_,dd⟩:=su I.bP e
  exact dd.typeIs
 ·obtain ⟨_,_,xs,_,dd⟩:=sv I.bP e
  exact dd.typeIs
noncomputable def H_ (td ty:TE):TE:=fun σ H Q => td σ H fun x H1 => ty σ H1 fun y H2 => ∃ a v,x = .ref a ∧ mG H2 a y (some v) ∧ Q v H2
noncomputable def Ia (td ty tv:TE):TS:=fun D σ H => tv σ H fun v H1 => td σ H1 fun x H2 => ty σ H2 fun y H3 => ∃ a H4,x = .ref a ∧ qR H3 a y v H4 ∧ D.nx σ H4
section
variable {X:Cx} {o i e value:Expr} {pos pos' o5:Pos} {td ty tv:TE}
theorem B7 (hu:X.A.units + 1 < cLine) (ho:PE X o td) (hi:PE X i ty) (hs:Fi i):PE X (.Subscript o i pos) (H_ td ty):=by
 intro pins s σ H Q I h
 refine B6 PySem.F.slot_dict_getitem.lookup hs (cV (ho pins s σ H _ I h) fun u s1 ⟨x,H1,I1,rx,q1⟩ => cV (hi pins s1 σ H1 _ I1 q1) fun iv s2 ⟨y,H2,I2,ry,a,v,ex,g,q2⟩ => ?_)
 subst ex
 obtain rfl:u = Value.ref a:=rx
 exact ⟨sA I2 g,xo hu I2 g ry fun w' s3 I3 sk => ⟨v,H2,I3,sk,q2⟩⟩
theorem B8 (hu:X.A.units + 1 < cLine) (ho:PE X o td) (hi:PE X i ty) (hv:PE X value tv) (hs:swapsWith value (some (.Subscript o i pos')) pos.line X.env = pure false) :
  PS X (.Assign [.Subscript o i pos'] value pos) (Ia td ty tv):=by
 intro pins s σ H D I h
 refine wpAny_Assign_Subscript (cV (hv pins s σ H _ I h) fun r s1 ⟨v,H1,I1,rv,q1⟩ => cV (ho pins s1 σ H1 _ I1 q1) fun u s2 ⟨x,H2,I2,rx,q2⟩ => cV (hi pins s2 σ H2 _ I2 q2) fun iv s3 ⟨y,H3,I3,ry,a,H4,ex,g,q3⟩ => ?_) hs
 subst ex
 obtain rfl:u = Value.ref a:=rx
 exact xp hu I3 g ry rv fun s4 I4 => ⟨σ,H4,I4,q3⟩
end
theorem yU {P:Program} {w:World} {H:Hp} (h:Heap) (hb:sysModules < h.objs.size):b7 P w H (h.push { cls:=.type "dict",data:=.dict #[] }) h.objs.size (.dT []) :=
 ⟨Nat.zero_le _,beq_eq_false_iff_ne.mpr (Ne.symm (Nat.ne_of_lt hb)),[],.nil,_,#[],0,Heap.get?_push_size _ rfl,⟨rfl,rfl,rfl⟩,rfl,rfl,List.nodup_nil⟩
noncomputable def Fj:TE:=fun _ H Q => ∀ p,H p = none → Q (.ref p) (upd H p (.dT []))
section
variable {X:Cx} {pos:Pos}
theorem yV:PE X (.Dict [] [] pos) Fj:=fun pins s σ H Q I h =>
 wpAny_Dict_empty ⟨.ref s.heap.objs.size,_,I.laid (a:=s.heap.objs.size) (o:=.dT []) (t':=s.toks) (fun _ _ q => Heap.get?_push_of_some _ q) (Nat.le_refl _) (yU s.heap I.big),rfl,h _ (I.bP.fresh (Nat.le_refl _))⟩
end
structure M2 (X:Cx) (o:Expr) (m:Str) (apos:Pos) (e f:Expr) (cG:Pos):Prop where
 base:attributeBase o m X.env (eval o X.env) = eval o X.env
 Bt:((backTo cG (starEach [e,f] X.env)).all (fun x => !x.1) && (backToKw cG (keywordEach [] X.env)).all (fun x => x.1.isSome)
  && decide (([e,f]:List Expr).length + ([]:List Keyword).length + (if ([]:List Keyword).isEmpty then 0 else 1) < 30)) = true
 line:(apos.endLine == cG.line) = true
 trees:backTo cG (starEach [e,f] X.env) = [(false,eval e X.env),(false,eval f X.env)]
noncomputable def J9 (H:Hp) (a:Addr):Prop:=(∃ aO,Rd H a (.dK aO)) ∨ ∃ aO,Rd H a (.dT aO)
theorem Fl {X:Cx} {pins:List (Addr × Obj)} {σ:St} {H:Hp} {s:Shared} {a:Addr} (I:Inv X pins σ H s) (d:J9 H a) :
  s.TypeIs (.ref a) "dict" ∧ (∀ b,Value.ref a = .ref b → ∃ ob,s.heap.get? b = some ob ∧ ob.dict = none) ∧ (a == sysModules) = false:=by
 rcases d with ⟨aO,e⟩ | ⟨aO,e⟩
 ·obtain ⟨_,hd,vs,_,dd⟩:=su I.bP e
  refine ⟨dd.typeIs,fun b q => ?_,hd⟩
  cases q
  obtain ⟨ob,_,_,h1,h2,_⟩:=dd
  exact ⟨ob,h1,h2.2.1⟩
 ·obtain ⟨_,hd,xs,_,dd⟩:=sv I.bP e
  refine ⟨dd.typeIs,fun b q => ?_,hd⟩
  cases q
  obtain ⟨ob,_,_,h1,h2,_⟩:=dd
  exact ⟨ob,h1,h2.2.1⟩
section
variable {X:Cx} {pins:List (Addr × Obj)} {σ:St} {H:Hp} {s:Shared} {a:Addr} {y d:V} {u r:Value} {o:Option V} {A:Around} {E:Value → Shared → Prop}
theorem Fm {Q:Value → Shared → Prop} (hu:A.units + 1 < cLine) (I:Inv X pins σ H s) (g:mG H a y o) (ry:RelV y u) (rd:RelV d r) (h:∀ w' s',Inv X pins σ H s' → RelV (o.getD d) w' → Q w' s') :
  wpAny (model X.prog X.w) A (call (.builtin "dict.get") [.ref a,u,r]) Q E s:=by
 rcases g with ⟨aO,k,e,ey,l⟩ | ⟨aO,k,b,e,ey,eb,l⟩
 ·subst ey
  obtain ⟨z,hd,vs,rel,dd⟩:=su I.bP e
  refine call_meetsIn PySem.F.slot_dict_get dd.typeIs PySem.F.entry_dict_get (PySem.F.args_dict_get_3 _ _ _) (meets_dict_get_default (dm X.prog X.w) a (vO ry) hd r) ⟨_,dd.mapOf,h _ _ (I.tok _) ?_⟩
  rw [l]
  exact (rel.val k).getD rd
 ·subst ey
  cases (show u = Value.ref b from ry)
  obtain ⟨z,hd,xs,rel,dd⟩:=sv I.bP e
  refine call_meetsIn PySem.F.slot_dict_get dd.typeIs PySem.F.entry_dict_get (PySem.F.args_dict_get_3 _ _ _) (meetsH_dict_get_default (tupleKind (dm X.prog X.w)) a b hd r) ⟨tupleKind_room_in1 hu,k,xs,qQ I.bP eb,dd,h _ _ (I.tok _) ?_⟩
  rw [l]
  exact (rel.val k).getD rd
end
noncomputable def Fn (td ty tx:TE):TE:=fun σ H Q => td σ H fun x H1 => ∃ a,x = .ref a ∧ J9 H1 a ∧ ty σ H1 fun y H2 => tx σ H2 fun z H3 => ∃ o,mG H3 a y o ∧ Q (o.getD z) H3
section
variable {X:Cx} {o e f:Expr} {apos cG:Pos} {td ty tx:TE}
theorem yW (hu:X.A.units + 1 < cLine) (ho:PE X o td) (he:PE X e ty) (hf:PE X f tx) (m:M2 X o "get" apos e f cG):PE X (.Call (.Attribute o "get" apos) [e,f] [] cG) (Fn td ty tx):=by
 intro pins s σ H Q I h
 refine wpAny_Call_method m.base m.Bt m.line PySem.F.plainAttrs_dict PySem.F.slot_dict_get PySem.F.type_dict_get (cV (ho pins s σ H _ I h) fun u s1 ⟨x,H1,I1,rx,a,ex,d,q1⟩ => ?_)
 subst ex
 obtain rfl:u = Value.ref a:=rx
 obtain ⟨t1,t2,_⟩:=Fl I1 d
 refine ⟨t1,t2,?_⟩
 rw [m.trees]
 refine Calls.callWith_builtin rfl (Calls.evalArgs_plain (Calls.spliced_cons (cV (he pins s1 σ H1 _ I1 q1) fun iv s2 ⟨y,H2,I2,ry,q2⟩ =>
  Calls.spliced_cons (cV (hf pins s2 σ H2 _ I2 q2) fun fv s3 ⟨z,H3,I3,rz,ov,g,q3⟩ => Calls.spliced_nil ?_))))
 exact Fm hu I3 g ry rz fun w' s4 I4 sk => ⟨_,H3,I4,sk,q3⟩
end
section
variable {X:Cx} {pins:List (Addr × Obj)} {σ:St} {H:Hp} {s:Shared} {a:Addr} {aO:List (Key × V)} {A:Around} {E:Value → Shared → Prop}
end
section
variable {X:Cx} {pins:List (Addr × Obj)} {σ:St} {H:Hp} {s:Shared} {a:Addr} {y:V} {u:Value} {A:Around} {E:Value → Shared → Prop}
end
section
variable {κ:Type} [DecidableEq κ]
end
end L2
namespace L2
open PySem PySem.Spec PyProof.Rows
theorem jx.upd {H H':Hp} {p:Addr} {o:HO} (e:jx H H') (h:H' p = none):jx H (upd H' p o):=fun b u q => by
 rw [aH (bo (e b u q) h)]
 exact e b u q
noncomputable def dB (k:Nat) (i:Int):Prop:=i.natAbs < 2 ^ k
theorem dB.bits {k:Nat} {i:Int} (h:dB k i):Builtin.Int.intBits i ≤ k:=by
 unfold Builtin.Int.intBits
 by_cases hz:(i == 0) = true
 ·rw [if_pos hz]; exact Nat.zero_le _
 ·rw [if_neg hz]
  have h0:i.natAbs ≠ 0:=by
   intro e
   apply hz
   have:i = 0:=Int.natAbs_eq_zero.mp e
   simp [this]
  have:=(Nat.log2_lt h0).mpr h
  lia
theorem dB.mono {j k:Nat} {i:Int} (h:dB j i) (hk:j ≤ k):dB k i:=Nat.lt_of_lt_of_le h (Nat.pow_le_pow_right (by decide) hk)
theorem dB.mul {j k:Nat} {x y:Int} (h1:dB j x) (h2:dB k y):dB (j + k) (x * y):=by
 show (x * y).natAbs < 2 ^ (j + k)
 rw [Int.natAbs_mul,Nat.pow_add]
 exact Nat.mul_lt_mul'' h1 h2
theorem dB.of_lt {k:Nat} {i:Int} (h0:0 ≤ i) (h:i < 2 ^ k):dB k i:=by
 have e:((2 ^ k:Nat):Int) = (2:Int) ^ k:=by simp
 show i.natAbs < 2 ^ k
 lia
theorem dB.small {k:Nat} {i:Int} (hk:10 ≤ k) (h0:-1000 < i) (h1:i < 1000):dB k i:=by
 show i.natAbs < 2 ^ k
 have:2 ^ 10 ≤ 2 ^ k:=Nat.pow_le_pow_right (by decide) hk
 lia
noncomputable def vQ (i j:Int):Prop:=∃ a b,dB a i ∧ dB b j ∧ a ≤ 2 ^ 20 ∧ b ≤ 2 ^ 20
theorem vQ.ok {i j:Int} (h:vQ i j):IntMulOk i j:=by
 obtain ⟨a,b,h1,h2,h3,h4⟩:=h
 exact IntMulOk.of_bits (Nat.le_trans h1.bits h3) (Nat.le_trans h2.bits h4)
noncomputable def vR (i j:Int):Prop:=j ≠ 0 ∧ dB 9000 j
theorem vR.ok {i j:Int} (h:vR i j):Builtin.divisionGoesByPylong i j = false :=
 PyProof.noPylong_of_log2 ((Nat.log2_lt (by intro e; exact h.1 (Int.natAbs_eq_zero.mp e))).mpr h.2)
section
variable {X:Cx}
theorem B9:ef X (binaryOp .Mult) (rI vQ fun i j => .int (i * j)):=GX fun _ _ _ _ _ _ _ hc q => PyProof.Rows.mul_int q hc.ok
theorem yX:ef X (binaryOp .FloorDiv) (rI vR fun i j => .int (i.fdiv j)):=GX fun _ _ _ _ _ _ _ hc q => floordiv_int hc.1 q (.inl hc.ok)
end
end L2
namespace L2
open PySem PySem.Spec PyProof.Rows
theorem qS {prog:Program} {w:World} {A:Around} {s:Shared} {elt target iter:Expr} {ifs:List Expr} {scope:Scope} {pos:Pos} {it acc:Value} {env:Env} {R:Result → Shared → Prop} (I:Nat → Shared → Prop)
  (turn:∀ n s,I n s → wpAny (model prog w) A (pyNext it) (fun r s₁ => match r with
   | none => R (.ok .next) s₁
   | some v => wpAny (model prog w) A (letOwnedTupleGo target it v) (fun _ DN => wpAny (model prog w) A (assign target env v) (fun _ s₂ =>
     wpAny (model prog w) A (forIn ifs true fun c r => if r = true then do let ok ← isTrue c env (eval c env); pure (ForInStep.yield ok) else pure (ForInStep.yield r)) (fun ok s₃ =>
      if ok = true then wpAny (model prog w) A (eval elt env) (fun x s₄ =>
       wpAny (model prog w) A (call (.builtin "list.append") [acc,x]) (fun _ s₅ => ∃ m,m < n ∧ I m s₅) (fun _ _ => False) s₄) (fun _ _ => False) s₃
      else ∃ m,m < n ∧ I m s₃) (fun _ _ => False) s₂) (fun _ _ => False) DN) (fun _ _ => False) s₁) (fun _ _ => False) s)
  (n:Nat) (h:I n s):codeAny (model prog w) A (.compLoop (.ListComp elt [⟨target,iter,ifs,0⟩] scope pos) 0 it acc env) R s:=by
 refine codeAny_loop rfl I (fun n s hI => ?_) n h
 show wpAny _ A ((compTurn (.ListComp elt [⟨target,iter,ifs,0⟩] scope pos) 0 it acc env).onRaise (fun x => do noteFrame x env; theTreesLotGoes x)) _ _ s
 refine wpAny_noted ?_
 rw [compTurn_list]
 refine wpAny_bind (wpAny_standAt (wpAny_bind (wpAny_mono (turn n s hI) (fun r s₁ h₁ => ?_) fun _ _ h' => h'.elim)))
 cases r with
 | none => exact wpAny_pure h₁
 | some v =>
  refine wpAny_bind (wpAny_mono h₁ (fun _ DN Ib => ?_) fun _ _ h' => h'.elim)
  refine wpAny_bind (wpAny_mono Ib (fun _ s₂ h₂ => wpAny_bind (wpAny_mono h₂ (fun ok s₃ h₃ => ?_) fun _ _ h' => h'.elim)) fun _ _ h' => h'.elim)
  cases ok with
  | false => exact wpAny_pure ⟨rfl,h₃⟩
  | true => exact wpAny_bind (wpAny_bind (wpAny_mono h₃ (fun x s₄ h₄ => wpAny_bind (wpAny_mono h₄ (fun _ s₅ h₅ => wpAny_pure (wpAny_pure ⟨rfl,h₅⟩)) fun _ _ h' => h'.elim)) fun _ _ h' => h'.elim))
noncomputable def Bu (X:Cx) (ifs:List Expr) (t:TT):Prop :=
 ∀ (pins:List (Addr × Obj)) (s:Shared) (σ:St) (H:Hp) (Q:Bool → Hp → Prop),Inv X pins σ H s → t σ H Q →
  wpAny (model X.prog X.w) X.A (forIn ifs true fun c r => if r = true then do let ok ← isTrue c X.env (eval c X.env); pure (ForInStep.yield ok) else pure (ForInStep.yield r)) (TP X pins σ Q) X.xe s
noncomputable def Ic:TT:=fun _ H Q => Q true H
theorem B_ {X:Cx}:Bu X [] Ic:=fun _ _ _ H _ I h => wpAny_tests_nil ⟨H,I,h⟩
theorem Ca {X:Cx} {c:Expr} {t:TT} (h:PT X c t):Bu X [c] t:=fun pins s σ H Q I hw => wpAny_tests_one (h pins s σ H Q I hw)
theorem gv.Ie {P:Program} {w:World} {H:Hp} {h:Heap} {a:Addr} {o:HO} (x:gv P w H h) (hn:H a = none) (new:b7 P w (upd H a o) h a o):gv P w (upd H a o) h:=fun b u e => by
 by_cases hb:b = a
 ·subst hb; rw [bh] at e; cases e; exact new
 ·rw [aH hb] at e
  exact (x b u e).jM (fun c v _ q => q) (fun c q => by rw [aH (bo q hn)]; exact q) fun c xs q => by rw [aH (bo q hn)]; exact q
noncomputable def oU (X:Cx) (N:List Str) (scope:Scope) (cl:List (Str × Addr)) (C:Addr) (fp:List Addr) (s:Shared) (H:Hp):Cx :=
 { X with N:=N,s₀:=s,H₀:=H,env:=compEnvC scope cl C X.env,outer:=X.stack,stack:=X.stack,ex:=fp,fn:=fun _ => false,pn:=[],xe:=fun _ _ => False }
noncomputable def mH (k:Nat) (caps:List Nat) (σ:St):St:=List.replicate k none ++ caps.map fun j => (σ[j]?).getD none
structure sC (X:Cx) (N:List Str) (scope:Scope) (cl:List (Str × Addr)) (k:Nat) (caps:List Nat):Prop where
 sD:closureFor scope X.env = pure cl
 sub:∀ x c,cl.lookup x = some c → X.env.cells.lookup x = some c
 has:∀ x,((relabel scope X.env).names.lookup x = some .cell ∨ (relabel scope X.env).names.lookup x = some .free) → ∃ c,cl.lookup x = some c
 gj:∀ x ∈ scope.names,x.2 ≠ .cell
 kind:scope.kind = .function
 names:∀ x ∈ scope.names,x.2 = .local → scope.names.lookup x.1 = some .local
 len:N.length = k + caps.length
 at_:∀ i j x,caps[i]? = some j → N[k + i]? = some x → X.N[j]? = some x ∧ (X.env.kindOf x = some .cell ∨ X.env.kindOf x = some .free) ∧ ((relabel scope X.env).names.lookup x = some .cell ∨ (relabel scope X.env).names.lookup x = some .free)
noncomputable def sE (J:It) (k:Nat) (caps:List Nat) (g:TG) (tt:TT) (te:TE) (σ:St) (H1:Hp) (Q:VK):Prop :=
 ∃ W:Nat → Nat → List V → St → Hp → Prop,(∃ m,W 0 m [] (mH k caps σ) H1) ∧ ∀ i m ys τ H,W i m ys τ H →
  (J.stop i H ∧ ys.length ≤ sizeLine ∧ ∀ p,H p = none → Q (.ref p) (upd H p (.lst ys))) ∨
  (J.go i H ∧ ys.length < sizeLine ∧ ∀ x H',J.Hx i H x H' → g x τ H' fun τ2 H2 => tt τ2 H2 fun b H3 => if b = true then te τ2 H3 fun y H4 => ∃ m',m' < m ∧ W (i + 1) m' (ys ++ [y]) τ2 H4 else ∃ m',m' < m ∧ W (i + 1) m' ys τ2 H3)
@[irreducible] def nL (k:Nat) (caps:List Nat) (wi:TI) (g:TG) (tt:TT) (te:TE):TE:=fun σ H Q => wi σ H fun J H1 => sE J k caps g tt te σ H1 Q
theorem yY {k:Nat} {caps:List Nat} {wi:TI} {g:TG} {tt:TT} {te:TE} {σ:St} {H:Hp} {Q:VK} (h:wi σ H fun J H1 => sE J k caps g tt te σ H1 Q):nL k caps wi g tt te σ H Q:=by
 unfold nL
 exact h
theorem pQ {k:Nat} {caps:List Nat} {wi:TI} {g:TG} {tt:TT} {te:TE} {σ:St} {H:Hp} {Q:VK} (h:nL k caps wi g tt te σ H Q):wi σ H fun J H1 => sE J k caps g tt te σ H1 Q:=by
 unfold nL at h
 exact h
section
variable {X:Cx} {pins:List (Addr × Obj)} {σ:St} {H:Hp} {s:Shared}
theorem Cb {k:Nat} {caps:List Nat} {σ:St} {i:Nat} {v:V} (h:(mH k caps σ)[i]? = some (some v)):∃ j,k ≤ i ∧ caps[i - k]? = some j ∧ σ[j]? = some (some v):=by
 unfold mH at h
 by_cases hi:i < k
 ·rw [List.getElem?_append_left (by simpa using hi),List.getElem?_replicate] at h
  split at h <;> cases h
 ·rw [List.getElem?_append_right (by simpa using Nat.le_of_not_lt hi),List.length_replicate,List.getElem?_map] at h
  cases e:caps[i - k]? with
  | none => rw [e] at h; cases h
  | some j =>
   rw [e] at h
   refine ⟨j,Nat.le_of_not_lt hi,rfl,?_⟩
   have h':(σ[j]?).getD none = some v:=by simpa using h
   cases q:σ[j]? with
   | none => rw [q] at h'; cases h'
   | some o => rw [q] at h'; exact congrArg some h'
theorem Inv.block {N:List Str} {scope:Scope} {cl:List (Str × Addr)} {k:Nat} {caps:List Nat} {fp:List Addr} {C:Addr} {h':Heap} {t':Nat} {m':Str → Option Value}
  (I:Inv X pins σ H s) (B:sC X N scope cl k caps) (hf:∀ b ∈ fp,o4 X pins H b) (hC:s.heap.objs.size ≤ C) (Ig:∀ b ∈ fp,∃ o,s.heap.get? b = some o)
  (kp:∀ b o,s.heap.get? b = some o → h'.get? b = some o) (ns:h'.Ns C m'):Inv (oU X N scope cl C fp s H) [] (mH k caps σ) H { s with heap:=h',toks:=t' }:=by
 have below:∀ {b:Addr} {o:Obj},s.heap.get? b = some o → b ≠ C:=fun e => Nat.ne_of_lt (Nat.lt_of_lt_of_le (Heap.lt_size e) hC)
 have Ih:∀ x c,cl.lookup x = some c → ∃ v,s.heap.IsCell c v:=fun x c e => I.cell x c (B.sub x c e)
 refine ⟨⟨I.ok.mod,?_,I.ok.glob,I.ok.blt,hC,fun x y c h1 h2 => I.ok.inj x y c (B.sub x c h1) (B.sub y c h2),fun x hx => B.has x hx,fun x c h1 _ => ?_,I.ok.hd,I.ok.frames,.inl rfl,fun b hb => ⟨?_,fun x c e => ?_⟩,I.bs,Nat.le_trans I.ok.DC I.sz,fun b o e hb => ?_,fun b hb => ?_,I.stack,I.qE⟩,
  rfl,I.bare,Un.kept kp,⟨m',ns,fun i x v h1 h2 h3 => ?_⟩,fun x c e => ?_,?_,fun x c e => I.jN x c (B.sub x c e),fun p hp => absurd (show p ∈ ([]:List (Addr × Obj)) from hp) (by simp),I.bP.kept kp,?_⟩
 ·exact B.kind
 ·exact absurd h1 (by simp [oU])
 ·obtain ⟨o,e⟩:=Ig b hb
  exact below e
 ·exact (hf b hb).2.2.2.2.1 x c (B.sub x c e)
 ·obtain ⟨_,_,_,h4,_⟩:=hf b hb
  rcases h4 with z | z
  ·exact I.ok.By b o e z
  ·exact absurd (Nat.lt_of_lt_of_le (Heap.lt_size (I.ok.bs b o e).1) z) (Nat.lt_irrefl _)
 ·intro z
  rcases List.mem_cons.mp (I.ny b z) with e | e
  ·exact (hf b hb).2.1 e
  ·exact (hf b hb).2.2.1 e
 ·obtain ⟨j,hk,hj,hσ⟩:=Cb h2
  have hN:N[k + (i - k)]? = some x:=by rw [Nat.add_sub_cancel' hk]; exact h1
  obtain ⟨a1,a2,a3⟩:=B.at_ (i - k) j x hj hN
  obtain ⟨m,hn,hl⟩:=I.loc
  have Sd:JY X.env.scope x:=by
   rcases a2 with z | z
   ·exact .inr (.inl z)
   ·exact .inr (.inr z)
  obtain ⟨u,r,l⟩:=hl j x v a1 hσ Sd
  refine ⟨u,r,.inr ⟨a3,?_⟩⟩
  rcases l with ⟨z,_⟩ | ⟨_,c,e,cc⟩
  ·rcases a2 with y | y <;> (rw [z] at y; cases y)
  ·obtain ⟨c',e'⟩:=B.has x a3
   have:X.env.cells.lookup x = some c':=B.sub x c' e'
   rw [e] at this
   cases this
   obtain ⟨o,ho,hd⟩:=cc
   exact ⟨c,e',o,kp c o ho,hd⟩
 ·obtain ⟨v,o,ho,hd⟩:=Ih x c e
  exact ⟨v,o,kp c o ho,hd⟩
 ·exact I.bP.fresh hC
 ·show (mH k caps σ).length = N.length
  unfold mH
  rw [List.length_append,List.length_replicate,List.length_map,B.len]
noncomputable def yZ (X:Cx) (pins:List (Addr × Obj)) (σ:St) (s:Shared) (Q:VK) (acc:Value) (C:Addr) (s':Shared):Prop :=
 ∃ D H',acc = .ref D ∧ s.heap.objs.size ≤ C ∧ Inv X pins σ H' s' ∧ H' C = none ∧ (∃ m,s'.heap.Ns C m) ∧ Q (.ref D) H'
theorem pR {tg elt iter:Expr} {ifs:List Expr} {scope:Scope} {pos:Pos} {N:List Str} {cl:List (Str × Addr)} {k:Nat} {caps:List Nat} {g:TG} {tt:TT} {te:TE} {it:Addr} {fp:List Addr} {tn:Nat → Heap → Prop} {J:It} {Q:VK} {RR:Value → Addr → Result → Shared → Prop} {E:Value → Shared → Prop}
  (hc:X.calm = true) (B:sC X N scope cl k caps) (hg:∀ C fp s H,PG (oU X N scope cl C fp s H) tg g) (hi:∀ C fp s H,Bu (oU X N scope cl C fp s H) ifs tt) (he:∀ C fp s H,PE (oU X N scope cl C fp s H) elt te)
  (I:Inv X pins σ H s) (T:Turn X.prog X.w X.K tg J fp it tn) (st:tn 0 s.heap) (hf:∀ b ∈ fp,o4 X pins H b)
  (h:sE J k caps g tt te σ H Q)
  (Se:∀ acc C s',yZ X pins σ s Q acc C s' → RR acc C (.ok .next) s') :
  wpAny (model X.prog X.w) X.A (newList []) (fun acc s₃ => wpAny (model X.prog X.w) X.A (newFunctionEnv scope X.env.globals cl [] X.env.qual none .none (some X.env)) (fun Ii s₄ =>
   codeAny (model X.prog X.w) X.A (.compStart (.ListComp elt [⟨tg,iter,ifs,0⟩] scope pos) 0 (.ref it) acc { Ii with scope:=relabel scope X.env }) (RR acc Ii.locals) s₄) E s₃) E s:=by
 obtain ⟨W,⟨m0,w0⟩,turn⟩:=h
 refine wpAny_newObj_type (wpAny_newFunctionEnv B.gj (by intro y hy; simp at hy) (fun h₁ uG qT => ?_) B.kind)
 dsimp only at uG qT ⊢
 generalize LC:s.heap.push { cls:=.type "list",dict:=none,data:=.seq ([]:List Value).toArray } = H2 at uG qT ⊢
 have hC:H2.objs.size = s.heap.objs.size + 1:=by rw [← LC,Heap.size_push]
 have J_:s.heap.objs.size ≤ H2.objs.size:=by rw [hC]; exact Nat.le_succ _
 have Kc:s.heap.objs.size ≠ H2.objs.size:=by rw [hC]; exact Nat.ne_of_lt (Nat.lt_succ_self _)
 have old:∀ b o,s.heap.get? b = some o → h₁.get? b = some o:=fun b o e => qT.extBut b o (Nat.ne_of_lt (Nat.lt_of_lt_of_le (Heap.lt_size e) J_)) (Heap.get?_push_of_some _ (LC ▸ Heap.get?_push_of_some _ e))
 have Fo:h₁.get? s.heap.objs.size = some { cls:=.type "list",data:=.seq ([]:List Value).toArray 0 }:=qT.extBut _ _ Kc (Heap.get?_push_of_some _ (LC ▸ Heap.get?_push_size _ rfl))
 have LD:=T.obj 0 _ st
 have Ig:∀ b ∈ fp,∃ o,s.heap.get? b = some o:=fun b hb => let ⟨o,e,_⟩:=LD b hb; ⟨o,e⟩
 have QO:∀ b ∈ fp,b ≠ s.heap.objs.size:=fun b hb z => by
  obtain ⟨o,e⟩:=Ig b hb
  exact absurd (Heap.lt_size e) (by rw [z]; exact Nat.lt_irrefl _)
 have Sf:H s.heap.objs.size = none:=I.bP.fresh (Nat.le_refl _)
 have DO:tn 0 h₁:=T.keep 0 _ _ st fun b _ o e => old b o e
 have Ij:∀ x c,cl.lookup x = some c → c ≠ s.heap.objs.size:=fun x c e z => by
  obtain ⟨v,o,ho,_⟩:=I.cell x c (B.sub x c e)
  exact absurd (Heap.lt_size ho) (by rw [z]; exact Nat.lt_irrefl _)
 have Sg:∀ b ∈ gx X.stack,b ≠ s.heap.objs.size:=fun b hb z => by
  obtain ⟨_,o,ho,_⟩:=I.stack.mem hb
  exact absurd (Heap.lt_size ho) (by rw [z]; exact Nat.lt_irrefl _)
 have loop:∀ s₃:Shared,s₃ = { s with heap:=h₁,toks:=s.toks + ([]:List (Str × Value)).length } →
   codeAny (model X.prog X.w) X.A (.compLoop (.ListComp elt [⟨tg,iter,ifs,0⟩] scope pos) 0 (.ref it) (.ref s.heap.objs.size) (compEnvC scope cl H2.objs.size X.env)) (RR (.ref s.heap.objs.size) H2.objs.size) s₃:=by
  rintro s₃ rfl
  generalize um:oU X N scope cl H2.objs.size fp s H = XB
  have eP:XB.prog = X.prog:=by rw [← um]; rfl
  have eW:XB.w = X.w:=by rw [← um]; rfl
  have eK:XB.K = X.K:=by rw [← um]; rfl
  have eA:XB.A = X.A:=by rw [← um]; rfl
  have eE:XB.env = compEnvC scope cl H2.objs.size X.env:=by rw [← um]; rfl
  have eL:XB.env.locals = H2.objs.size:=by rw [eE]; rfl
  have eF:XB.fs = gx X.stack:=by rw [← um]; rfl
  have eX:XB.ex = fp:=by rw [← um]; rfl
  have eN:XB.pn = []:=by rw [← um]; rfl
  have e0:XB.s₀ = s:=by rw [← um]; rfl
  have eC:XB.calm = true:=by rw [← um]; exact hc
  have QP:XB.env.cells = cl:=by rw [eE]; rfl
  have LF:XB.xe = fun _ _ => False:=by rw [← um]; rfl
  have oV:PG XB tg g:=by rw [← um]; exact hg _ _ _ _
  have pS:Bu XB ifs tt:=by rw [← um]; exact hi _ _ _ _
  have Sh:PE XB elt te:=by rw [← um]; exact he _ _ _ _
  have I0:Inv XB [] (mH k caps σ) H { s with heap:=h₁,toks:=s.toks + ([]:List (Str × Value)).length }:=by rw [← um]; exact I.block B hf J_ Ig old uG
  -- He DP pinned
  have LG:∀ {τ:St} {H':Hp} {s':Shared} {aL:List Value} {nn:Nat},Inv XB [] τ H' s' → s'.heap.get? s.heap.objs.size = some { cls:=.type "list",data:=.seq aL.toArray nn } → H' s.heap.objs.size = none →
    Inv XB [(s.heap.objs.size,{ cls:=.type "list",data:=.seq aL.toArray nn })] τ H' s':=fun {τ H' s' aL nn} J hd hn => J.m6 fun p hp => by
   obtain rfl:p = _:=List.mem_singleton.mp hp
   refine ⟨hd,hn,by rw [eL]; exact Kc,by rw [eF]; exact fun z => Sg _ z rfl,fun v z => ?_⟩
   have z':Data.seq aL.toArray nn = Data.cell v:=z
   cases z'
  have uu:∀ {H':Hp} {o:Obj},(∀ b ∈ fp,H' b = none) → ∀ b ∈ fp,o4 XB [(s.heap.objs.size,o)] H' b:=fun {H' o} hn b hb => by
   obtain ⟨_,f1,f2,f3,f4,f5⟩:=hf b hb
   refine ⟨hn b hb,?_,?_,.inl (by rw [eX]; exact hb),fun x c e => f4 x c (B.sub x c (by rw [← QP]; exact e)),fun p hp => ?_⟩
   ·rw [eL]
    obtain ⟨o,e⟩:=Ig b hb
    exact Nat.ne_of_lt (Nat.lt_of_lt_of_le (Heap.lt_size e) J_)
   ·rw [eF]
    intro z
    rcases List.mem_cons.mp (I.ny b z) with e | e
    ·exact f1 e
    ·exact f2 e
   ·rw [eN] at hp
    obtain rfl:p = _:=List.mem_singleton.mp (by simpa using hp)
    exact Ne.symm (QO b hb)
  refine qS (fun n s' => ∃ i ys aL nn τ H',Inv XB [] τ H' s' ∧ s'.heap.get? s.heap.objs.size = some { cls:=.type "list",data:=.seq aL.toArray nn } ∧ H' s.heap.objs.size = none ∧ Vals ys aL ∧ tn i s'.heap ∧ (∀ b ∈ fp,H' b = none) ∧ W i n ys τ H') ?_ m0
   ⟨0,[],[],0,mH k caps σ,H,I0,Fo,Sf,.nil,DO,fun b hb => (hf b hb).1,w0⟩
  rintro n s3 ⟨i,ys,aL,nn,τ,H3,I3,Si,Sj,Kd,iE,HC,w3⟩
  have QQ:=LG I3 Si Sj
  rcases turn i n ys τ H3 w3 with ⟨stop,hz,qn⟩ | ⟨go,hz,step⟩
  ·have D1:=T.done XB eP eW eK eC i _ s3 τ H3 (fun _ _ => False) QQ (uu HC) iE stop
   rw [eA] at D1
   refine cV D1 fun r s4 ⟨hr,I4⟩ => ?_
   subst hr
   refine Se _ _ s4 ?_
   obtain ⟨pd,Ik,_⟩:=I4.pin (s.heap.objs.size,{ cls:=.type "list",data:=.seq aL.toArray nn }) (by rw [eN]; exact List.mem_append_right _ (List.mem_singleton.mpr rfl))
   have Cc:Un (gx X.stack) fp H H3 s.heap s4.heap:=by
    have:=I4.base
    rw [← um] at this
    exact this
   have new:b7 X.prog X.w (upd H3 s.heap.objs.size (.lst ys)) s4.heap s.heap.objs.size (.lst ys):=⟨hz,aL,nn,Kd,pd⟩
   have LH:gv X.prog X.w H3 s4.heap:=by
    have:=I4.bP
    rw [eP,eW] at this
    exact this
   have bP:gv X.prog X.w (upd H3 s.heap.objs.size (.lst ys)) s4.heap:=LH.Ie Ik new
   have Sk:s4.os = s.os:=by
    have:=I4.os
    rw [e0] at this
    exact this
   have un:Un (gx X.stack) fp H (upd H3 s.heap.objs.size (.lst ys)) s.heap s4.heap :=
    ⟨Cc.keep,Cc.slot,fun b o e n hx => by rw [aH (Nat.ne_of_lt (Heap.lt_size e))]; exact Cc.free b o e n hx,Cc.there,
     fun b xs e => by rw [aH (bo (Cc.jv b xs e) Ik)]; exact Cc.jv b xs e,fun b o u e => by rw [aH (bo (Cc.iF b o u e) Ik)]; exact Cc.iF b o u e,
     fun b ps e => by
      obtain ⟨more,q⟩:=Cc.jw b ps e
      exact ⟨more,by rw [aH (bo q Ik)]; exact q⟩⟩
   have I5:Inv X pins σ (upd H3 s.heap.objs.size (.lst ys)) s4:=I.yB Sk un bP I4.bare fun b hb => ⟨(hf b hb).2.2.2.1,(hf b hb).2.1,(hf b hb).2.2.2.2.1,(hf b hb).2.2.2.2.2⟩
   have Sl:H3 H2.objs.size = none:=by
    have:=I4.free
    rw [eL] at this
    exact this
   refine ⟨s.heap.objs.size,_,rfl,J_,I5,by rw [aH (Ne.symm Kc)]; exact Sl,?_,qn _ Ik⟩
   obtain ⟨m4,QR,_⟩:=I4.loc
   rw [eL] at QR
   exact ⟨m4,QR⟩
  ·have D1:=T.item XB eP eW eK eC i _ s3 τ H3 (fun _ _ => False) QQ (uu HC) iE go
   rw [eA] at D1
   refine cV D1 fun r s4 ⟨u,hr,h4⟩ => ?_
   subst hr
   refine cV h4 fun _ s5 ⟨x,H5,I5,r5,y5,EJ,Lf⟩ => ?_
   have Lg:=I5.pinned (uu Lf) (T.obj _ _ EJ)
   have G:=oV _ s5 τ H5 x u _ Lg r5 (step x H5 y5)
   rw [eP,eW,eA,eE,LF] at G
   refine cV G fun _ s6 ⟨τ6,H6,I6,q6⟩ => ?_
   have G2:=pS _ s6 τ6 H6 _ I6 q6
   rw [eP,eW,eA,eE,LF] at G2
   refine cV G2 fun ok s7 ⟨H7,I7,q7⟩ => ?_
   -- HB He pins give back
   have back:∀ {τ8:St} {H8:Hp} {s8:Shared},Inv XB ([(s.heap.objs.size,({ cls:=.type "list",data:=.seq aL.toArray nn }:Obj))] ++ nB fp s5.heap) τ8 H8 s8 →
     Inv XB [] τ8 H8 s8 ∧ s8.heap.get? s.heap.objs.size = some { cls:=.type "list",data:=.seq aL.toArray nn } ∧ H8 s.heap.objs.size = none ∧ tn (i + 1) s8.heap ∧ ∀ b ∈ fp,H8 b = none:=fun {τ8 H8 s8} J => by
    obtain ⟨p1,p2,_⟩:=J.pin (s.heap.objs.size,{ cls:=.type "list",data:=.seq aL.toArray nn }) (List.mem_append_right _ (List.mem_append_left _ (List.mem_singleton.mpr rfl)))
    refine ⟨J.m6 fun p hp => absurd (show p ∈ ([]:List (Addr × Obj)) from hp) (by simp),p1,p2,T.keep _ _ _ EJ fun b hb o e => (J.pin (b,o) (List.mem_append_right _ (List.mem_append_right _ (hU hb e)))).1,fun b hb => ?_⟩
    obtain ⟨o,e,d⟩:=T.obj _ _ EJ b hb
    exact (J.pin (b,o) (List.mem_append_right _ (List.mem_append_right _ (hU hb e)))).2.1
   cases ok with
   | false =>
    rw [if_neg Bool.false_ne_true] at q7 ⊢
    obtain ⟨m',hm,w7⟩:=q7
    obtain ⟨J,a1,a2,a3,a4⟩:=back I7
    exact ⟨m',hm,i + 1,ys,aL,nn,τ6,H7,J,a1,a2,Kd,a3,a4,w7⟩
   | true =>
    rw [if_pos rfl] at q7 ⊢
    have G3:=Sh _ s7 τ6 H7 _ I7 q7
    rw [eP,eW,eA,eE,LF] at G3
    refine cV G3 fun v s8 ⟨y,H8,I8,r8,m',hm,w8⟩ => ?_
    obtain ⟨J,a1,a2,a3,a4⟩:=back I8
    have hlen:=Kd.length
    refine call_meets F.slot_list_append ⟨_,a1,rfl⟩ F.entry_list_append (F.args_list_append_2 _ _) (PySem.list_append s.heap.objs.size aL.toArray nn v (by rw [List.size_toArray]; lia)) ⟨a1,?_⟩
    have q:=PySem.IsL.update a1 (fun z => z.push v)
    have other:∀ b o,b ≠ s.heap.objs.size → s8.heap.get? b = some o → (s8.heap.update s.heap.objs.size (Obj.mapSeq fun z => z.push v)).get? b = some o:=fun b o hb e => (Heap.get?_update_other s8.heap (Obj.mapSeq fun z => z.push v) (Ne.symm hb)).trans e
    have J':Inv XB [] τ6 H8 { s8 with heap:=s8.heap.update s.heap.objs.size (Obj.mapSeq fun z => z.push v) } :=
     J.turned (t':=s8.toks) (it:=s.heap.objs.size) other a2 (by rw [eL]; exact Kc) (.inr (by rw [e0]; exact Nat.le_refl _)) (fun x c e => Ij x c (by rw [← QP]; exact e)) fun p hp => absurd (show p ∈ ([]:List (Addr × Obj)) by rw [eN] at hp; exact hp) (by simp)
    obtain ⟨n2,q2⟩:∃ n2,(s8.heap.update s.heap.objs.size (Obj.mapSeq fun z => z.push v)).get? s.heap.objs.size = some { cls:=.type "list",data:=.seq (aL ++ [v]).toArray n2 }:=by
     have e1:aL.toArray.push v = (aL ++ [v]).toArray:=by simp
     rw [← e1]
     exact ⟨_,q⟩
    exact ⟨m',hm,i + 1,ys ++ [y],aL ++ [v],n2,τ6,H8,J',q2,a2,Kd.append (.cons r8 .nil),T.keep _ _ _ a3 fun b hb o e => other b o (QO b hb) e,a4,w8⟩
 exact codeAny_compStart_list (loop _ rfl) (T.self X.A 0 _ _ _ DO (loop _ rfl))
end
end L2
namespace L2
open PySem PySem.Spec PyProof.Rows
section
variable {X:Cx} {tg elt iter:Expr} {ifs:List Expr} {scope:Scope} {pos y8:Pos} {N:List Str} {cl:List (Str × Addr)} {k:Nat} {caps:List Nat} {wi:TI} {g:TG} {tt:TT} {te:TE}
theorem Inv.pT {pins:List (Addr × Obj)} {σ σ':St} {H H':Hp} {s s':Shared} {C:Addr} {h':Heap} (I:Inv X pins σ H s) (hC:s.heap.objs.size ≤ C) (I':Inv X pins σ' H' s') (hn:H' C = none) (sb:Heap.SameBut C s'.heap h') :
  Inv X pins σ' H' { s' with heap:=h' }:=by
 refine I'.turned (t':=s'.toks) (it:=C) (fun b o hb e => (sb.2 b hb).trans e) hn (Nat.ne_of_gt (Nat.lt_of_lt_of_le I.lt hC)) (.inr (Nat.le_trans I.sz hC)) (fun x c e => ?_) fun p hp => ?_
 ·obtain ⟨v,o,ho,_⟩:=I.cell x c e
  exact Nat.ne_of_lt (Nat.lt_of_lt_of_le (Heap.lt_size ho) hC)
 ·exact Nat.ne_of_lt (Nat.lt_of_lt_of_le (Heap.lt_size (I.pin p hp).1) hC)
theorem Cd (hc:X.calm = true) (B:sC X N scope cl k caps) (hi:PI X tg iter wi) (hg:∀ C fp s H,PG (oU X N scope cl C fp s H) tg g) (Fp:∀ C fp s H,Bu (oU X N scope cl C fp s H) ifs tt)
  (he:∀ C fp s H,PE (oU X N scope cl C fp s H) elt te) (hs:∀ x,foldedSetIterable iter X.env x = pure x:=by intro _; rfl):PE X (.ListComp elt [⟨tg,iter,ifs,0⟩] scope pos) (nL k caps wi g tt te):=by
 intro pins s σ H Q I h
 rw [eval_ListComp]
 refine wpAny_comprehension_free (use:=none) rfl hs B.sD B.kind B.names (cV (hi pins s σ H _ I (pQ h)) fun xv s₁ h₁ => cV h₁ fun J0 s₂ h₂ => ?_)
 obtain ⟨it,fp,tn,J,H2,e,I2,T,bV,f2,hW⟩:=h₂
 subst e
 refine pR (RR:=fun acc C => compPost (model X.prog X.w) X.A X.xe none (EP X pins σ Q) acc C) hc B hg Fp he I2 T bV f2 hW ?_
 rintro acc C s' ⟨D,H',rfl,hC,I',hn,⟨m,ns⟩,q⟩
 exact ⟨m,ns,fun h' sb => ⟨.ref D,H',I2.pT hC I' hn sb,rfl,q⟩⟩
theorem uH {i:Nat} {y:Str} {py:Pos} (hN:X.N.Nodup) (hy:X.N[i]? = some y) (hx:Loc X.env.scope y) (hc:X.calm = true) (B:sC X N scope cl k caps) (hi:PI X tg iter wi) (hg:∀ C fp s H,PG (oU X N scope cl C fp s H) tg g)
  (Fp:∀ C fp s H,Bu (oU X N scope cl C fp s H) ifs tt) (he:∀ C fp s H,PE (oU X N scope cl C fp s H) elt te) (LI:swapsWith (.ListComp elt [⟨tg,iter,ifs,0⟩] scope pos) (some (.Name y py)) y8.line X.env = pure true:=by rfl)
  (hs:∀ x,foldedSetIterable iter X.env x = pure x:=by intro _; rfl) (hf:X.fn y = true ∨ X.env.scope.names.lookup y = some .local:=by first | exact .inl rfl | exact .inr rfl | assumption) :
  PS X (.Assign [.Name y py] (.ListComp elt [⟨tg,iter,ifs,0⟩] scope pos) y8) (BK (nL k caps wi g tt te) (sf i)):=by
 intro pins s σ H D I h
 rw [exec_Assign_Name_used _ _ _ _ LI]
 refine wpAny_bind (wpAny_standAt (wpAny_bind ?_))
 show wpAny _ X.A (do let _ ← comprehension (.ListComp elt [⟨tg,iter,ifs,0⟩] scope pos) scope X.env _ (newList []) false (eval iter X.env) (some (assign (.Name y py) X.env))) _ _ s
 refine wpAny_bind (wpAny_mono (wpAny_comprehension_free (use:=some (assign (.Name y py) X.env)) (Q:=fun _ s' => SP X pins D .next s') rfl hs B.sD B.kind B.names (cV (hi pins s σ H _ I (pQ h)) fun xv s₁ h₁ => cV h₁ fun J0 s₂ h₂ => ?_)) (fun _ s' hq => wpAny_pure (wpAny_pure hq)) fun _ _ e => e)
 obtain ⟨it,fp,tn,J,H2,e,I2,T,bV,f2,hW⟩:=h₂
 subst e
 refine pR (Q:=fun v H' => sf i v σ H' D.nx) (RR:=fun acc C => compPost (model X.prog X.w) X.A X.xe (some (assign (.Name y py) X.env)) (fun _ s' => SP X pins D .next s') acc C) hc B hg Fp he I2 T bV f2 hW ?_
 rintro acc C s' ⟨D',H',rfl,hC,I',hn,⟨m,ns⟩,q⟩
 show wpAny _ _ (assign (.Name y py) X.env (.ref D')) _ _ s'
 refine wpAny_assign_Name (pJ I' hN hy hx (v:=.ref D') rfl (fun J1 Sm ⟨a,sb,ha⟩ => ?_) hf)
 have Sn:C ≠ a:=by
  rcases ha with e | e
  ·rw [e]; exact Nat.ne_of_gt (Nat.lt_of_lt_of_le I2.lt hC)
  ·obtain ⟨v,o,ho,_⟩:=I2.cell y a e
   exact Nat.ne_of_gt (Nat.lt_of_lt_of_le (Heap.lt_size ho) hC)
 exact ⟨m,ns.sameBut sb Sn,fun h' So => ⟨_,H',I2.pT hC Sm hn So,q⟩⟩
end
section
variable {K:PySem.W.Frag} {g:TG} {tt:TT} {te:TE} {Q:VK}
theorem Ce {J:It} {k:Nat} {caps:List Nat} {σ:St} {H:Hp} (n:Nat) (hn:n ≤ sizeLine) (Pv:Nat → List V → St → Hp → Prop) (h0:Pv 0 [] (mH k caps σ) H) (Sq:∀ i ys τ H,i < n → Pv i ys τ H → J.go i H) (yu:∀ ys τ H,Pv n ys τ H → J.stop n H)
  (hl:∀ i ys τ H,Pv i ys τ H → ys.length ≤ i)
  (hs:∀ i ys τ H x H',i < n → Pv i ys τ H → J.Hx i H x H' → ∀ K1:List V → St → Hp → Prop,(∀ ys τ H,Pv (i + 1) ys τ H → K1 ys τ H) → g x τ H' fun τ2 H2 => tt τ2 H2 fun b H3 => if b = true then te τ2 H3 fun y H4 => K1 (ys ++ [y]) τ2 H4 else K1 ys τ2 H3)
  (hd:∀ ys τ H p,Pv n ys τ H → H p = none → Q (.ref p) (upd H p (.lst ys))):sE J k caps g tt te σ H Q:=by
 refine ⟨fun i m ys τ H => m = n - i ∧ i ≤ n ∧ Pv i ys τ H,⟨n,by simp,Nat.zero_le _,h0⟩,?_⟩
 rintro i m ys τ H ⟨rfl,hi,p⟩
 have hy:=hl i ys τ H p
 by_cases vS:i < n
 ·refine .inr ⟨Sq i ys τ H vS p,by lia,fun x H' y => ?_⟩
  exact hs i ys τ H x H' vS p y (fun ys τ H => ∃ m',m' < n - i ∧ m' = n - (i + 1) ∧ i + 1 ≤ n ∧ Pv (i + 1) ys τ H) fun ys τ H q => ⟨n - (i + 1),by lia,rfl,vS,q⟩
 ·have e:i = n:=by lia
  subst e
  exact .inl ⟨yu ys τ H p,by lia,fun q hq => hd ys τ H q p hq⟩
end
noncomputable def cW (b:Bool) (h:Heap) (i l:Addr) (k:Nat):Prop:=match b with | true => h.IsListIter i l k | false => h.IsTupleIter i l k
noncomputable def gE (b:Bool) (h:Heap) (l:Addr) (xs:Array Value):Prop:=match b with | true => h.IsList l xs | false => h.IsTuple l xs
theorem cW.keep {b:Bool} {h h':Heap} {i l:Addr} {k:Nat} (x:cW b h i l k) (e:∀ o,h.get? i = some o → h'.get? i = some o):cW b h' i l k:=by
 cases b with
 | true => exact Heap.IsListIter.at x e
 | false => exact Heap.IsTupleIter.at x e
theorem gE.keep {b:Bool} {h h':Heap} {l:Addr} {xs:Array Value} (x:gE b h l xs) (e:∀ o,h.get? l = some o → h'.get? l = some o):gE b h' l xs:=by
 cases b with
 | true => exact Heap.IsList.at x e
 | false => obtain ⟨o,ho,r⟩:=(show h.IsTuple l xs from x); exact ⟨o,e _ ho,r⟩
theorem cW.there {b:Bool} {h:Heap} {i l:Addr} {k:Nat} (x:cW b h i l k):∃ o n vs,h.get? i = some o ∧ o.cls = .type n ∧ o.data = .fields vs:=by
 cases b with
 | true => obtain ⟨o,h1,h2,h3⟩:=(show h.IsListIter i l k from x); exact ⟨o,_,_,h1,h2,h3⟩
 | false => obtain ⟨o,h1,h2,h3⟩:=(show h.IsTupleIter i l k from x); exact ⟨o,_,_,h1,h2,h3⟩
section
variable {prog:Program} {w:World} {A:Around} {E:Value → Shared → Prop} {s:Shared}
theorem nM {it t:Addr} {i:Nat} {items:Array Value} {x:Value} {Q:Value → Shared → Prop} (hit:s.heap.IsTupleIter it t i) (ht:s.heap.IsTuple t items) (hx:items[i]? = some x)
  (hQ:∀ h',h'.IsTupleIter it t (i + 1) → Heap.SameBut it s.heap h' → Q x { s with heap:=h' }):wpAny (model prog w) A (Builtin.SmallTypes.nextOf (.ref it)) Q E s:=by
 obtain ⟨oi,DQ,ci,di⟩:=id hit
 obtain ⟨ot,LJ,_,nt,dt⟩:=ht
 unfold Builtin.SmallTypes.nextOf
 refine wpAny_bind (wpAny_callSpecial?_slot (name:=Str.ofString "__next__") hit.typeIs F.slot_tuple_iterator_next (wpAny_call_entry F.slot_tuple_iterator_next hit.typeIs F.entry_tuple_iterator_next ?_ (F.args_tuple_iterator_next_1 _)))
 show wpAny _ _ (field (.ref it) 0 >>= _) _ _ s
 refine wpAny_bind (wpAny_field DQ di (x:=.ref t) rfl ?_)
 show wpAny _ _ (if (Value.ref t == Value.none) = true then _ else _) _ _ s
 rw [if_neg (show ¬ ((Value.ref t == Value.none) = true) from Bool.false_ne_true)]
 show wpAny _ _ (field (.ref it) 1 >>= _) _ _ s
 refine wpAny_bind (wpAny_field DQ di (x:=.int i 0) rfl ?_)
 show wpAny _ _ (seqItems? (.ref t) >>= _) _ _ s
 refine wpAny_bind (wpAny_seqItems LJ dt ?_)
 simp only [Int.toNat_natCast,hx]
 refine wpAny_bind (wpAny_setField DQ di (by simp) (wpAny_pure ⟨x,rfl,wpAny_pure (hQ _ ?_ (Heap.SameBut.update ..))⟩))
 exact ⟨_,Heap.get?_update_self _ DQ (Obj.isFreed_of_fields (Obj.data_mapFields di _)),(Obj.cls_mapFields ..).trans ci,by rw [Obj.data_mapFields di]; simp [rawInt]⟩
theorem o9 {it t:Addr} {i:Nat} {items:Array Value} {Q:Value → Shared → Prop} (hh:A.handled = none) (hit:s.heap.IsTupleIter it t i) (ht:s.heap.IsTuple t items) (hx:items[i]? = none)
  (hE:∀ h' e,Heap.ExtBut it s.heap h' → (∃ o,h'.get? e = some o ∧ o.cls = .type "StopIteration") → E (.ref e) { s with heap:=h' }):wpAny (model prog w) A (Builtin.SmallTypes.nextOf (.ref it)) Q E s:=by
 obtain ⟨oi,DQ,ci,di⟩:=id hit
 obtain ⟨ot,LJ,_,nt,dt⟩:=ht
 unfold Builtin.SmallTypes.nextOf
 refine wpAny_bind (wpAny_callSpecial?_slot (name:=Str.ofString "__next__") hit.typeIs F.slot_tuple_iterator_next (wpAny_call_entry F.slot_tuple_iterator_next hit.typeIs F.entry_tuple_iterator_next ?_ (F.args_tuple_iterator_next_1 _)))
 show wpAny _ _ (field (.ref it) 0 >>= _) _ _ s
 refine wpAny_bind (wpAny_field DQ di (x:=.ref t) rfl ?_)
 show wpAny _ _ (if (Value.ref t == Value.none) = true then _ else _) _ _ s
 rw [if_neg (show ¬ ((Value.ref t == Value.none) = true) from Bool.false_ne_true)]
 show wpAny _ _ (field (.ref it) 1 >>= _) _ _ s
 refine wpAny_bind (wpAny_field DQ di (x:=.int i 0) rfl ?_)
 show wpAny _ _ (seqItems? (.ref t) >>= _) _ _ s
 refine wpAny_bind (wpAny_seqItems LJ dt ?_)
 simp only [Int.toNat_natCast,hx]
 refine wpAny_bind (wpAny_rule (wpAny_bind (wpAny_setField DQ di (by simp) ?_)))
 show wpAny _ _ (newExc (.type "StopIteration") [] >>= _) _ _ _
 refine wpAny_bind ?_
 simp only [newExc,newTuple]
 refine wpAny_bind (wpAny_newObj_type ?_ (by size_fits))
 refine wpAny_bind (m:=firstArgMember _ _) (wpAny_of_eq (a:=Value.none) (by first | rfl | (simp only [firstArgMember]; rfl)) ?_)
 refine wpAny_newObj_type ?_ (by size_fits)
 simp only [raiseNew]
 refine wpAny_bind (wpAny_handled ?_)
 first | rw [show A.in1.handled = none from hh] | rw [hh]
 refine wpAny_bind (wpAny_pure (wpAny_throw ?_))
 exact hE _ _ (((Heap.SameBut.update ..).extBut.push _).push _) ⟨_,Heap.get?_push_size _ rfl,rfl⟩
theorem hZ {b:Bool} {it t:Addr} {i:Nat} {items:Array Value} {x:Value} {Q:Value → Shared → Prop} (hit:cW b s.heap it t i) (ht:gE b s.heap t items) (hx:items[i]? = some x)
  (hQ:∀ h',cW b h' it t (i + 1) → Heap.SameBut it s.heap h' → Q x { s with heap:=h' }):wpAny (model prog w) A (Builtin.SmallTypes.nextOf (.ref it)) Q E s:=by
 cases b with
 | true => exact wpAny_nextOf_list_item hit ht hx hQ
 | false => exact nM hit ht hx hQ
theorem lV {b:Bool} {it t:Addr} {i:Nat} {items:Array Value} {Q:Value → Shared → Prop} (hh:A.handled = none) (hit:cW b s.heap it t i) (ht:gE b s.heap t items) (hx:items[i]? = none)
  (hE:∀ h' e,Heap.ExtBut it s.heap h' → (∃ o,h'.get? e = some o ∧ o.cls = .type "StopIteration") → E (.ref e) { s with heap:=h' }):wpAny (model prog w) A (Builtin.SmallTypes.nextOf (.ref it)) Q E s:=by
 cases b with
 | true => exact wpAny_nextOf_list_end hh hit ht hx hE
 | false => exact o9 hh hit ht hx hE
end
end L2
namespace L2
open PySem PySem.Spec PyProof.Rows
noncomputable abbrev nN (b:Bool) (l:Addr):Obj:={ cls:=.type (match b with | true => "list_iterator" | false => "tuple_iterator"),data:=.fields #[.ref l,.int 0 0] }
section
variable {prog:Program} {w:World} {A:Around} {E:Value → Shared → Prop} {s:Shared}
theorem cW.new (b:Bool) {h:Heap} {i l:Addr} (e:h.get? i = some (nN b l)):cW b h i l 0:=by
 cases b with
 | true => exact ⟨_,e,rfl,rfl⟩
 | false => exact ⟨_,e,rfl,rfl⟩
theorem nO {b:Bool} {l:Addr} {xs:Array Value} {Q:Value → Shared → Prop} (h:gE b s.heap l xs) (hQ:Q (.ref s.heap.objs.size) { s with heap:=s.heap.push (nN b l) }):wpAny (model prog w) A (pyIter (.ref l)) Q E s:=by
 cases b with
 | true => exact wpAny_pyIter_list h hQ
 | false => exact wpAny_pyIter_tuple h hQ
theorem Cf {b1 b2:Bool} {z TI TO i1 i2 l1 l2:Addr} {k1 k2:Nat} {xs ys:Array Value} {x y a b:Value} {Q:Value → Shared → Prop} (D:ZipApart z TI TO i1 i2 l1 l2)
  (hz:IsZip s.heap z TI TO .none) (qU:IsPair s.heap TI (.ref i1) (.ref i2)) (rZ:IsPair s.heap TO a b) (h1:cW b1 s.heap i1 l1 k1) (h2:cW b2 s.heap i2 l2 k2) (vT:gE b1 s.heap l1 xs) (vN:gE b2 s.heap l2 ys) (hx:xs[k1]? = some x) (hy:ys[k2]? = some y)
  (hQ:∀ h',IsZip h' z TI TO (rawInt s.heap.objs.size) → IsPair h' TO x y → cW b1 h' i1 l1 (k1 + 1) → cW b2 h' i2 l2 (k2 + 1) → IsPair h' s.heap.objs.size x y →
   (∀ c o,c ≠ z → c ≠ TO → c ≠ i1 → c ≠ i2 → s.heap.get? c = some o → h'.get? c = some o) → Q (.ref s.heap.objs.size) { s with heap:=h' }) :
  wpAny (model prog w) A (Builtin.«zip.__next__» ⟨[.ref z],[]⟩) (fun fin s' => ∃ v,fin = .done (.ret v) ∧ Q v s') E s:=by
 show wpAny _ _ (field (.ref z) 2 >>= _) _ _ _
 refine wpAny_bind (wpAny_field hz rfl (x:=.bool false) rfl ?_)
 show wpAny _ _ (field (.ref z) 3 >>= _) _ _ _
 refine wpAny_bind (wpAny_field hz rfl (x:=.ref TI) rfl (wpAny_bind (wpAny_seqItems qU rfl ?_)))
 show wpAny _ _ (Builtin.SmallTypes.ownedTupleIsFree (.ref z) >>= _) _ _ _
 refine wpAny_bind ?_
 unfold Builtin.SmallTypes.ownedTupleIsFree
 refine wpAny_bind (wpAny_field hz rfl (x:=.none) rfl (wpAny_pure ?_))
 simp only [if_true]
 refine wpAny_bind (wpAny_rule (wpAny_bind (wpAny_field hz rfl (x:=.ref TO) rfl (wpAny_bind (wpAny_setField_rec hz (by simp) fun g₁ lW s₁ => ?_)))))
 replace lW:IsZip g₁ z TI TO .ellipsis:=lW
 refine wpAny_bind ?_
 simp only [List.zipIdx_cons,List.zipIdx_nil,List.forIn_cons,List.forIn_nil]
 refine wpAny_bind (wpAny_bind (wpAny_onRaise ?_))
 show wpAny _ _ (Builtin.SmallTypes.nextOf (.ref i1) >>= _) _ _ _
 refine wpAny_bind (hZ (b:=b1) (h1.keep fun o e => s₁.extBut _ o D.i1z e) (vT.keep fun o e => s₁.extBut _ o D.l1z e) hx fun g₂ q₁ s₂ => wpAny_pure ?_)
 have t₂:IsPair g₂ TO a b:=s₂.extBut _ _ D.TOi1 (s₁.extBut _ _ D.TOz rZ)
 refine wpAny_bind (wpAny_seqItems t₂ rfl (wpAny_bind (wpAny_updateSeq_pair t₂ fun g₃ t₃ s₃ => ?_)))
 replace t₃:IsPair g₃ TO x b:=t₃
 refine wpAny_bind (wpAny_letGo (wpAny_pure (wpAny_bind (wpAny_bind (wpAny_onRaise ?_)))))
 show wpAny _ _ (Builtin.SmallTypes.nextOf (.ref i2) >>= _) _ _ _
 refine wpAny_bind (hZ (b:=b2) (h2.keep fun o e => s₃.extBut _ o D.TOi2.symm (s₂.extBut _ o D.i12.symm (s₁.extBut _ o D.i2z e))) (vN.keep fun o e => s₃.extBut _ o D.l2TO (s₂.extBut _ o D.l2i1 (s₁.extBut _ o D.l2z e))) hy fun g₄ q₂ s₄ => wpAny_pure ?_)
 have t₄:IsPair g₄ TO x b:=s₄.extBut _ _ D.TOi2 t₃
 refine wpAny_bind (wpAny_seqItems t₄ rfl (wpAny_bind (wpAny_updateSeq_pair t₄ fun g₅ t₅ s₅ => ?_)))
 replace t₅:IsPair g₅ TO x y:=t₅
 refine wpAny_bind (wpAny_letGo (wpAny_pure (wpAny_pure (wpAny_bind (wpAny_seqItems t₅ rfl (wpAny_bind (wpAny_newTuple ?_)))))))
 have sz:g₅.objs.size = s.heap.objs.size:=by rw [s₅.1,s₄.1,s₃.1,s₂.1,s₁.1]
 have z₅:IsZip g₅ z TI TO .ellipsis:=s₅.extBut _ _ D.TOz.symm (s₄.extBut _ _ D.i2z.symm (s₃.extBut _ _ D.TOz.symm (s₂.extBut _ _ D.i1z.symm lW)))
 have kp:∀ c o,c ≠ z → c ≠ TO → c ≠ i1 → c ≠ i2 → s.heap.get? c = some o → g₅.get? c = some o:=fun c o n1 n2 n3 n4 e => s₅.extBut _ _ n2 (s₄.extBut _ _ n4 (s₃.extBut _ _ n2 (s₂.extBut _ _ n3 (s₁.extBut _ _ n1 e))))
 have p₁:cW b1 g₅ i1 l1 (k1 + 1):=q₁.keep fun o e => s₅.extBut _ o D.TOi1.symm (s₄.extBut _ o D.i12 (s₃.extBut _ o D.TOi1.symm e))
 have p₂:cW b2 g₅ i2 l2 (k2 + 1):=q₂.keep fun o e => s₅.extBut _ o D.TOi2.symm e
 have QS:z < g₅.objs.size:=Heap.lt_size z₅
 show wpAny _ _ (Builtin.SmallTypes.ownedTupleHandOut (.ref z) (.ref g₅.objs.size) >>= _) _ _ _
 refine wpAny_bind ?_
 unfold Builtin.SmallTypes.ownedTupleHandOut
 have z₆:IsZip (g₅.push { cls:=.type "tuple",data:=.seq #[x,y] }) z TI TO .ellipsis:=Heap.get?_push_of_some _ z₅
 refine wpAny_bind (wpAny_setField_rec z₆ (by simp) fun g₇ z₇ s₇ => ?_)
 replace z₇:IsZip g₇ z TI TO (rawInt g₅.objs.size):=z₇
 refine wpAny_setField_rec z₇ (by simp) fun g₈ z₈ s₈ => ?_
 replace z₈:IsZip g₈ z TI TO (rawInt g₅.objs.size):=z₈
 have up:∀ c o,c ≠ z → g₅.get? c = some o → g₈.get? c = some o:=fun c o n e => s₈.extBut _ _ n (s₇.extBut _ _ n (Heap.get?_push_of_some _ e))
 have t₈:IsPair g₈ g₅.objs.size x y:=s₈.extBut _ _ (Nat.ne_of_gt QS) (s₇.extBut _ _ (Nat.ne_of_gt QS) (Heap.get?_push_size _ rfl))
 rw [sz] at z₈ t₈
 refine wpAny_pure ⟨_,rfl,?_⟩
 show Q (.ref g₅.objs.size) _
 rw [sz]
 exact hQ g₈ z₈ (up _ _ D.TOz t₅) (p₁.keep fun o e => up _ o D.i1z e) (p₂.keep fun o e => up _ o D.i2z e) t₈ fun c o n1 n2 n3 n4 e => up c o n1 (kp c o n1 n2 n3 n4 e)
theorem Fq {b1 b2:Bool} {z TI TO i1 i2 l1 l2:Addr} {k1 k2:Nat} {xs ys:Array Value} {a b:Value} {Q:Fin → Shared → Prop} (hh:A.handled = none) (D:ZipApart z TI TO i1 i2 l1 l2)
  (hz:IsZip s.heap z TI TO .none) (qU:IsPair s.heap TI (.ref i1) (.ref i2)) (rZ:IsPair s.heap TO a b) (h1:cW b1 s.heap i1 l1 k1) (h2:cW b2 s.heap i2 l2 k2) (vT:gE b1 s.heap l1 xs) (vN:gE b2 s.heap l2 ys) (he:xs[k1]? = none ∨ ys[k2]? = none)
  (hE:∀ h' e,(∀ c o,c ≠ z → c ≠ TO → c ≠ i1 → c ≠ i2 → s.heap.get? c = some o → h'.get? c = some o) → (∃ o,h'.get? e = some o ∧ o.cls = .type "StopIteration") → E (.ref e) { s with heap:=h' }) :
  wpAny (model prog w) A (Builtin.«zip.__next__» ⟨[.ref z],[]⟩) Q E s:=by
 show wpAny _ _ (field (.ref z) 2 >>= _) _ _ _
 refine wpAny_bind (wpAny_field hz rfl (x:=.bool false) rfl ?_)
 show wpAny _ _ (field (.ref z) 3 >>= _) _ _ _
 refine wpAny_bind (wpAny_field hz rfl (x:=.ref TI) rfl (wpAny_bind (wpAny_seqItems qU rfl ?_)))
 show wpAny _ _ (Builtin.SmallTypes.ownedTupleIsFree (.ref z) >>= _) _ _ _
 refine wpAny_bind ?_
 unfold Builtin.SmallTypes.ownedTupleIsFree
 refine wpAny_bind (wpAny_field hz rfl (x:=.none) rfl (wpAny_pure ?_))
 simp only [if_true]
 refine wpAny_bind (wpAny_rule (wpAny_bind (wpAny_field hz rfl (x:=.ref TO) rfl (wpAny_bind (wpAny_setField_rec hz (by simp) fun g₁ lW s₁ => ?_)))))
 replace lW:IsZip g₁ z TI TO .ellipsis:=lW
 refine wpAny_bind ?_
 simp only [List.zipIdx_cons,List.zipIdx_nil,List.forIn_cons,List.forIn_nil]
 refine wpAny_bind (wpAny_bind (wpAny_onRaise ?_))
 show wpAny _ _ (Builtin.SmallTypes.nextOf (.ref i1) >>= _) _ _ _
 cases hx:xs[k1]? with
 | none =>
  refine wpAny_bind (lV (b:=b1) hh (h1.keep fun o e => s₁.extBut _ o D.i1z e) (vT.keep fun o e => s₁.extBut _ o D.l1z e) hx fun g₂ e s₂ ⟨oe,Fs,ce⟩ => ?_)
  have z₂:IsZip g₂ z TI TO .ellipsis:=s₂ _ _ D.i1z.symm lW
  have LK:e ≠ z:=fun q => by subst q; rw [z₂] at Fs; cases Fs; simp at ce
  exact wpAny_setField_rec z₂ (by simp) fun g₃ _ s₃ => hE g₃ e (fun c o n1 _ n3 _ q => s₃.extBut _ _ n1 (s₂ _ _ n3 (s₁.extBut _ _ n1 q))) ⟨oe,s₃.extBut _ _ LK Fs,ce⟩
 | some x =>
  have hy:ys[k2]? = none:=by
   rcases he with q | q
   ·rw [hx] at q; cases q
   ·exact q
  refine wpAny_bind (hZ (b:=b1) (h1.keep fun o e => s₁.extBut _ o D.i1z e) (vT.keep fun o e => s₁.extBut _ o D.l1z e) hx fun g₂ q₁ s₂ => wpAny_pure ?_)
  have t₂:IsPair g₂ TO a b:=s₂.extBut _ _ D.TOi1 (s₁.extBut _ _ D.TOz rZ)
  refine wpAny_bind (wpAny_seqItems t₂ rfl (wpAny_bind (wpAny_updateSeq_pair t₂ fun g₃ t₃ s₃ => ?_)))
  refine wpAny_bind (wpAny_letGo (wpAny_pure (wpAny_bind (wpAny_bind (wpAny_onRaise ?_)))))
  show wpAny _ _ (Builtin.SmallTypes.nextOf (.ref i2) >>= _) _ _ _
  refine wpAny_bind (lV (b:=b2) hh (h2.keep fun o e => s₃.extBut _ o D.TOi2.symm (s₂.extBut _ o D.i12.symm (s₁.extBut _ o D.i2z e))) (vN.keep fun o e => s₃.extBut _ o D.l2TO (s₂.extBut _ o D.l2i1 (s₁.extBut _ o D.l2z e))) hy fun g₄ e s₄ ⟨oe,Fs,ce⟩ => ?_)
  have z₄:IsZip g₄ z TI TO .ellipsis:=s₄ _ _ D.i2z.symm (s₃.extBut _ _ D.TOz.symm (s₂.extBut _ _ D.i1z.symm lW))
  have LK:e ≠ z:=fun q => by subst q; rw [z₄] at Fs; cases Fs; simp at ce
  exact wpAny_setField_rec z₄ (by simp) fun g₅ _ s₅ => hE g₅ e (fun c o n1 n2 n3 n4 q => s₅.extBut _ _ n1 (s₄ _ _ n4 (s₃.extBut _ _ n2 (s₂.extBut _ _ n3 (s₁.extBut _ _ n1 q))))) ⟨oe,s₅.extBut _ _ LK Fs,ce⟩
theorem xq {b1 b2:Bool} {z TI TO i1 i2 l1 l2:Addr} {k1 k2:Nat} {xs ys:Array Value} {x y a b:Value} {Q:Option Value → Shared → Prop} (D:ZipApart z TI TO i1 i2 l1 l2)
  (hz:IsZip s.heap z TI TO .none) (qU:IsPair s.heap TI (.ref i1) (.ref i2)) (rZ:IsPair s.heap TO a b) (h1:cW b1 s.heap i1 l1 k1) (h2:cW b2 s.heap i2 l2 k2) (vT:gE b1 s.heap l1 xs) (vN:gE b2 s.heap l2 ys) (hx:xs[k1]? = some x) (hy:ys[k2]? = some y)
  (hQ:∀ h',IsZip h' z TI TO (rawInt s.heap.objs.size) → IsPair h' TO x y → cW b1 h' i1 l1 (k1 + 1) → cW b2 h' i2 l2 (k2 + 1) → IsPair h' s.heap.objs.size x y →
   (∀ c o,c ≠ z → c ≠ TO → c ≠ i1 → c ≠ i2 → s.heap.get? c = some o → h'.get? c = some o) → Q (some (.ref s.heap.objs.size)) { s with heap:=h' }):wpAny (model prog w) A (pyNext (.ref z)) Q E s:=by
 have tz:s.TypeIs (.ref z) "zip":=⟨_,hz,rfl⟩
 unfold pyNext
 exact wpAny_bind (wpAny_attempt (wpAny_callSpecial?_slot (name:=Str.ofString "__next__") tz F.slot_zip_next
  (wpAny_call_entry F.slot_zip_next tz F.entry_zip_next (Cf (b1:=b1) (b2:=b2) D hz qU rZ h1 h2 vT vN hx hy fun h' a1 a2 a3 a4 a5 a6 => wpAny_pure (hQ h' a1 a2 a3 a4 a5 a6)) (F.args_zip_next_1 _))))
theorem y9 {b1 b2:Bool} {z TI TO i1 i2 l1 l2:Addr} {k1 k2:Nat} {xs ys:Array Value} {a b:Value} {Q:Option Value → Shared → Prop} (hh:A.handled = none) (D:ZipApart z TI TO i1 i2 l1 l2)
  (hz:IsZip s.heap z TI TO .none) (qU:IsPair s.heap TI (.ref i1) (.ref i2)) (rZ:IsPair s.heap TO a b) (h1:cW b1 s.heap i1 l1 k1) (h2:cW b2 s.heap i2 l2 k2) (vT:gE b1 s.heap l1 xs) (vN:gE b2 s.heap l2 ys) (he:xs[k1]? = none ∨ ys[k2]? = none)
  (hQ:∀ h',(∀ c o,c ≠ z → c ≠ TO → c ≠ i1 → c ≠ i2 → s.heap.get? c = some o → h'.get? c = some o) → Q none { s with heap:=h' }):wpAny (model prog w) A (pyNext (.ref z)) Q E s:=by
 have tz:s.TypeIs (.ref z) "zip":=⟨_,hz,rfl⟩
 unfold pyNext
 refine wpAny_bind (wpAny_attempt (wpAny_callSpecial?_slot (name:=Str.ofString "__next__") tz F.slot_zip_next
  (wpAny_call_entry F.slot_zip_next tz F.entry_zip_next (Fq (b1:=b1) (b2:=b2) hh D hz qU rZ h1 h2 vT vN he fun h' e hk he => ?_) (F.args_zip_next_1 _))))
 obtain ⟨o,ho,hc⟩:=he
 exact wpAny_bind (wpAny_isInstance (T:="StopIteration") (b:=true) ⟨o,ho,hc⟩ isSubtype_stop (wpAny_pure (hQ _ hk)))
noncomputable abbrev Ke (b1:Bool) (h:Heap) (l1:Addr):Heap:=h.push (nN b1 l1)
noncomputable abbrev Kf (b1 b2:Bool) (h:Heap) (l1 l2:Addr):Heap:=(Ke b1 h l1).push (nN b2 l2)
noncomputable abbrev Kg (b1 b2:Bool) (h:Heap) (l1 l2:Addr):Heap:=(Kf b1 b2 h l1 l2).push { cls:=.type "tuple",data:=.seq #[.ref h.objs.size,.ref (Ke b1 h l1).objs.size] }
noncomputable abbrev Kh (b1 b2:Bool) (h:Heap) (l1 l2:Addr):Heap:=(Kg b1 b2 h l1 l2).push { cls:=.type "tuple",data:=.seq #[.none,.none] }
noncomputable abbrev G1 (b1 b2:Bool) (h:Heap) (l1 l2:Addr):Heap:=(Kh b1 b2 h l1 l2).push { cls:=.type "zip",data:=.fields #[.none,.bool false,.bool false,.ref (Kf b1 b2 h l1 l2).objs.size,.ref (Kg b1 b2 h l1 l2).objs.size] }
theorem y_ (b1 b2:Bool) (l1 l2:Addr) (xs ys:Array Value) :
  Meets (Builtin.«zip.__new__» ⟨[.type "zip",.ref l1,.ref l2],[]⟩) (fun _ R s => gE b1 s.heap l1 xs ∧ gE b2 s.heap l2 ys ∧ R (.ok (.ret (.ref (Kh b1 b2 s.heap l1 l2).objs.size))) { s with heap:=G1 b1 b2 s.heap l1 l2 }) :=
 .of_wp fun prog w A R s h => by
  obtain ⟨hp,g,d,tk,os⟩:=s
  obtain ⟨q1,q2,h⟩:=h
  have Sr:=sub_zip
  have w1:gE b1 (Shared.heap ⟨hp,g,d,tk,os⟩) l1 xs:=q1
  have w2:gE b2 (Shared.heap ⟨hp.push (nN b1 l1),g,d,tk,os⟩) l2 ys:=q2.keep fun o e => Heap.get?_push_of_some _ e
  wp_walk using nO w1,nO w2
  exact ⟨_,rfl,h⟩
theorem zd {b1 b2:Bool} {l1 l2:Addr} {xs ys:Array Value} {Q:Value → Shared → Prop} (vT:gE b1 s.heap l1 xs) (vN:gE b2 s.heap l2 ys)
  (h:∀ h',IsZip h' (s.heap.objs.size + 4) (s.heap.objs.size + 2) (s.heap.objs.size + 3) .none → IsPair h' (s.heap.objs.size + 2) (.ref s.heap.objs.size) (.ref (s.heap.objs.size + 1)) → IsPair h' (s.heap.objs.size + 3) .none .none →
   cW b1 h' s.heap.objs.size l1 0 → cW b2 h' (s.heap.objs.size + 1) l2 0 → (∀ c o,s.heap.get? c = some o → h'.get? c = some o) → Q (.ref (s.heap.objs.size + 4)) { s with heap:=h' }) :
  wpAny (model prog w) A (call (.type "zip") [.ref l1,.ref l2]) Q E s:=by
 refine callType_new F.called_zip (by decide) (F.typeCall_zip_2 _ _) (F.newCall_zip_2 _ _) (fun obj => F.args_object_init_3 obj _ _) F.entry_zip_new (y_ b1 b2 l1 l2 xs ys) ⟨vT,vN,?_⟩
 have z1:(Ke b1 s.heap l1).objs.size = s.heap.objs.size + 1:=Heap.size_push ..
 have z2:(Kf b1 b2 s.heap l1 l2).objs.size = s.heap.objs.size + 2:=by rw [Heap.size_push,z1]
 have z3:(Kg b1 b2 s.heap l1 l2).objs.size = s.heap.objs.size + 3:=by rw [Heap.size_push,z2]
 have z4:(Kh b1 b2 s.heap l1 l2).objs.size = s.heap.objs.size + 4:=by rw [Heap.size_push,z3]
 have g5:(G1 b1 b2 s.heap l1 l2).get? (Kh b1 b2 s.heap l1 l2).objs.size = some _:=Heap.get?_push_size _ rfl
 have g4:(G1 b1 b2 s.heap l1 l2).get? (Kg b1 b2 s.heap l1 l2).objs.size = some _:=Heap.get?_push_of_some _ (Heap.get?_push_size _ rfl)
 have g3:(G1 b1 b2 s.heap l1 l2).get? (Kf b1 b2 s.heap l1 l2).objs.size = some _:=Heap.get?_push_of_some _ (Heap.get?_push_of_some _ (Heap.get?_push_size _ rfl))
 have g2:(G1 b1 b2 s.heap l1 l2).get? (Ke b1 s.heap l1).objs.size = some (nN b2 l2):=Heap.get?_push_of_some _ (Heap.get?_push_of_some _ (Heap.get?_push_of_some _ (Heap.get?_push_size _ rfl)))
 have g1:(G1 b1 b2 s.heap l1 l2).get? s.heap.objs.size = some (nN b1 l1):=Heap.get?_push_of_some _ (Heap.get?_push_of_some _ (Heap.get?_push_of_some _ (Heap.get?_push_of_some _ (Heap.get?_push_size _ rfl))))
 show _ ∧ _
 rw [z2,z3,z4] at g5
 rw [z1,z2] at g3
 rw [z3] at g4
 rw [z1] at g2
 rw [z4]
 exact ⟨⟨_,g5,rfl⟩,h _ g5 g3 g4 (.new b1 g1) (.new b2 g2) fun c o x => Heap.get?_push_of_some _ (Heap.get?_push_of_some _ (Heap.get?_push_of_some _ (Heap.get?_push_of_some _ (Heap.get?_push_of_some _ x))))⟩
end
noncomputable def uI (b:Bool) (K:PySem.W.Frag) (H:Hp) (a:Addr) (xs:List V):Prop:=match b with | true => lR K H a xs | false => jd K H a xs
theorem Inv.G4 {X:Cx} {pins:List (Addr × Obj)} {σ:St} {H:Hp} {s:Shared} {b:Bool} {a:Addr} {xs:List V} (I:Inv X pins σ H s) (h:uI b X.K H a xs):∃ aL:List Value,Vals xs aL ∧ gE b s.heap a aL.toArray ∧ xs.length ≤ sizeLine:=by
 cases b with
 | true => obtain ⟨aL,r,p,z⟩:=I.list h; exact ⟨aL,r,p.isList,z⟩
 | false => obtain ⟨aL,r,p,z⟩:=I.tuple h; exact ⟨aL,r,p,z⟩
theorem Inv.vU {X:Cx} {pins:List (Addr × Obj)} {σ:St} {H:Hp} {s:Shared} {b:Bool} {a:Addr} {xs ys:List V} (I:Inv X pins σ H s) (h:uI b X.K H a xs) (h':uI b X.K H a ys):xs = ys:=by
 cases b with
 | true => exact I.nA h h'
 | false => exact I.kH h h'
theorem Inv.DR {X:Cx} {pins:List (Addr × Obj)} {σ:St} {H:Hp} {s:Shared} {b:Bool} {l c:Addr} {zs:List V} (I:Inv X pins σ H s) (hs:uI b X.K H l zs) (f:o4 X pins H c):l ≠ c:=by
 intro q
 have mo:∀ o,X.K.lookup l = some o → False:=fun o hk => by
  have e:=I.mod.GV l o hk
  rcases f.2.2.2.1 with z | z
  ·exact I.ok.By l o e (by rw [q]; exact z)
  ·exact absurd (Nat.lt_of_lt_of_le (Heap.lt_size (I.ok.bs l o e).1) (by rw [q]; exact z)) (Nat.lt_irrefl _)
 have tr:∀ o,H l = some o → False:=fun o e => by rw [q,f.1] at e; cases e
 cases b with
 | true =>
  rcases (show lR X.K H l zs from hs) with (r | ⟨o,r⟩) | ⟨o,aL,n,hk,_⟩
  ·exact tr _ r
  ·exact tr _ r
  ·exact mo o hk
 | false =>
  rcases (show jd X.K H l zs from hs) with (r | ⟨o,r⟩) | ⟨o,aL,n,hk,_⟩
  ·exact tr _ r
  ·exact tr _ r
  ·exact mo o hk
noncomputable def QT (K:PySem.W.Frag) (b1 b2:Bool) (a b:Addr):It :=
 ⟨fun i H => ∃ xs ys x y,uI b1 K H a xs ∧ uI b2 K H b ys ∧ xs[i]? = some x ∧ ys[i]? = some y,
  fun i H v H' => ∃ p x y,v = .ref p ∧ H p = none ∧ H' = upd H p (.tup [x,y]) ∧ (∀ xs,uI b1 K H a xs → xs[i]? = some x) ∧ ∀ ys,uI b2 K H b ys → ys[i]? = some y,
  fun i H => ∃ xs ys,uI b1 K H a xs ∧ uI b2 K H b ys ∧ (xs.length ≤ i ∨ ys.length ≤ i)⟩
theorem zg {P:Program} {w:World} {K:PySem.W.Frag} {elts:List Expr} {kt:Nat} {tp:Pos} {b1 b2:Bool} {z TI TO i1 i2:Addr} (a b:Addr) (ne:z ≠ TI ∧ z ≠ TO ∧ z ≠ i1 ∧ z ≠ i2 ∧ TI ≠ TO ∧ TI ≠ i1 ∧ TI ≠ i2 ∧ TO ≠ i1 ∧ TO ≠ i2 ∧ i1 ≠ i2) :
  Turn P w K (.Tuple elts kt tp) (QT K b1 b2 a b) [z,TI,TO,i1,i2] z (fun i h => IsZip h z TI TO .none ∧ IsPair h TI (.ref i1) (.ref i2) ∧ (∃ u v,IsPair h TO u v) ∧ cW b1 h i1 a i ∧ cW b2 h i2 b i) where
 mem:=by simp
 obj:=fun i h ⟨hz,qU,⟨u,v,rZ⟩,h1,h2⟩ c hc => by
  have d_:c = z ∨ c = TI ∨ c = TO ∨ c = i1 ∨ c = i2:=by simpa using hc
  rcases d_ with rfl | rfl | rfl | rfl | rfl
  ·exact ⟨_,hz,fun v q => by have q':Data.fields _ = Data.cell v:=q; cases q'⟩
  ·exact ⟨_,qU,fun v q => by have q':Data.seq _ _ = Data.cell v:=q; cases q'⟩
  ·exact ⟨_,rZ,fun v q => by have q':Data.seq _ _ = Data.cell v:=q; cases q'⟩
  ·obtain ⟨o,n,vs,e,_,d⟩:=h1.there
   exact ⟨o,e,fun v q => by rw [d] at q; cases q⟩
  ·obtain ⟨o,n,vs,e,_,d⟩:=h2.there
   exact ⟨o,e,fun v q => by rw [d] at q; cases q⟩
 keep:=fun i h h' ⟨hz,qU,⟨u,v,rZ⟩,h1,h2⟩ k => ⟨k z (by simp) _ hz,k TI (by simp) _ qU,⟨u,v,k TO (by simp) _ rZ⟩,h1.keep fun o e => k i1 (by simp) o e,h2.keep fun o e => k i2 (by simp) o e⟩
 item:=by
  intro X hP hw hK hc i pins s σ H E I hf st hg
  subst hP hw hK
  obtain ⟨hz,qU,⟨u,v,rZ⟩,h1,h2⟩:=st
  obtain ⟨xs,ys,x,y,sx,sy,ex,ey⟩:=hg
  obtain ⟨aL,rv,p,_⟩:=I.G4 sx
  obtain ⟨dS,Ki,p2,_⟩:=I.G4 sy
  obtain ⟨ux,Ss,rx⟩:=rv.get ex
  obtain ⟨uy,Su,ry⟩:=Ki.get ey
  obtain ⟨n1,n2,n3,n4,n5,n6,n7,n8,n9,LL⟩:=ne
  have fz:=hf z (by simp)
  have fC:∀ {b:Bool} {l:Addr} {zs:List V},uI b X.K H l zs → ∀ c ∈ [z,TI,TO,i1,i2],l ≠ c:=fun {b l zs} hs c d_ => I.DR hs (hf c d_)
  have D:ZipApart z TI TO i1 i2 a b:=⟨n1.symm,n2.symm,n3.symm,n4.symm,n5,n6,n7,n8,n9,LL,fC sx z (by simp),fC sx TO (by simp),fC sx i1 (by simp),fC sx i2 (by simp),fC sy z (by simp),fC sy TO (by simp),fC sy i1 (by simp),fC sy i2 (by simp)⟩
  refine xq (b1:=b1) (b2:=b2) D hz qU rZ h1 h2 p p2 (x:=ux) (y:=uy) (by simpa using Ss) (by simpa using Su) fun h' a1 a2 a3 a4 a5 a6 => ⟨_,rfl,?_⟩
  have hT:H s.heap.objs.size = none:=I.bP.fresh (Nat.le_refl _)
  have LM:∀ c ∈ [z,TO,i1,i2],H c = none:=fun c d_ => (hf c (by simp at d_ ⊢; rcases d_ with q | q | q | q <;> simp [q])).1
  have kp:∀ c o,c ∉ [z,TO,i1,i2] → s.heap.get? c = some o → h'.get? c = some o:=fun c o d_ e => a6 c o (fun q => d_ (by simp [q])) (fun q => d_ (by simp [q])) (fun q => d_ (by simp [q])) (fun q => d_ (by simp [q])) e
  have vG:∀ c o,H c = some o → c ∉ [z,TO,i1,i2]:=fun c o e d_ => by rw [LM c d_] at e; cases e
  have bP:gv X.prog X.w (upd H s.heap.objs.size (.tup [x,y])) h':=fun c o e => by
   by_cases QU:c = s.heap.objs.size
   ·subst QU
    rw [bh] at e
    cases e
    exact ⟨by show 2 ≤ sizeLine; decide,[ux,uy],.cons rx (.cons ry .nil),_,a5,rfl,_,rfl⟩
   ·rw [aH QU] at e
    refine (I.bP c o e).jM (fun d v hd q => kp d v ?_ q) (fun d q => by rw [aH (bo q hT)]; exact q) fun d zs q => by rw [aH (bo q hT)]; exact q
    rcases hd with q' | q'
    ·rw [q']; exact vG c o e
    ·exact vG d _ q'
  have un:Un (gx X.stack) [z,TO,i1,i2] H (upd H s.heap.objs.size (.tup [x,y])) s.heap h' :=
   ⟨fun c o e n _ d_ => kp c o d_ e,fun c o e n _ d_ => ⟨o.slots,kp c o d_ e⟩,fun c o e n d_ => by rw [aH (Nat.ne_of_lt (Heap.lt_size e))]; exact n,fun c o e d_ => ⟨o,kp c o d_ e⟩,
    fun c zs e => by rw [aH (bo e hT)]; exact e,fun c o u e => by rw [aH (bo e hT)]; exact e,fun c ps e => ⟨#[],by rw [aH (bo e hT),e]; simp⟩⟩
  have I1:Inv X pins σ (upd H s.heap.objs.size (.tup [x,y])) { s with heap:=h' }:=I.yB rfl un bP I.bare fun c d_ => by
   obtain ⟨f0,f1,f2,f3,f4,f5⟩:=hf c (by simp at d_ ⊢; rcases d_ with q | q | q | q <;> simp [q])
   exact ⟨f3,f1,f4,f5⟩
  have Sv:∀ c ∈ [z,TI,TO,i1,i2],c ≠ s.heap.objs.size:=fun c d_ q => by
   have vS:c < s.heap.objs.size:=by
    have LN:c = z ∨ c = TI ∨ c = TO ∨ c = i1 ∨ c = i2:=by simpa using d_
    rcases LN with r | r | r | r | r
    ·rw [r]; exact Heap.lt_size hz
    ·rw [r]; exact Heap.lt_size qU
    ·rw [r]; exact Heap.lt_size rZ
    ·obtain ⟨o,_,_,e,_⟩:=h1.there; rw [r]; exact Heap.lt_size e
    ·obtain ⟨o,_,_,e,_⟩:=h2.there; rw [r]; exact Heap.lt_size e
   exact absurd vS (by rw [q]; exact Nat.lt_irrefl _)
  have QV:∀ c ∈ [z,TI,TO,i1,i2],(upd H s.heap.objs.size (.tup [x,y])) c = none:=fun c d_ => by rw [aH (Sv c d_)]; exact (hf c d_).1
  refine wpAny_letOwnedTupleGo_zip a1 fun Ft LP sb => ?_
  obtain ⟨f0,f1,f2,f3,f4,f5⟩:=fz
  have I2:Inv X pins σ (upd H s.heap.objs.size (.tup [x,y])) { s with heap:=Ft }:=I1.turned (s:={ s with heap:=h' }) (t':=s.toks) (it:=z) (fun c o d_ e => (sb.2 c d_).trans e) (QV z (by simp)) f1 f3 f4 f5
  refine ⟨.ref s.heap.objs.size,_,I2,rfl,⟨_,x,y,rfl,hT,rfl,fun zs hs => by rw [I.vU hs sx]; exact ex,fun zs hs => by rw [I.vU hs sy]; exact ey⟩,⟨LP,?_,⟨_,_,sb.extBut _ _ n2.symm a2⟩,a3.keep fun o e => sb.extBut _ o n3.symm e,a4.keep fun o e => sb.extBut _ o n4.symm e⟩,QV⟩
  exact sb.extBut _ _ n1.symm (a6 _ _ n1.symm n5 n6 n7 qU)
 done:=by
  intro X hP hw hK hc i pins s σ H E I hf st hg
  subst hP hw hK
  obtain ⟨hz,qU,⟨u,v,rZ⟩,h1,h2⟩:=st
  obtain ⟨xs,ys,sx,sy,hl⟩:=hg
  obtain ⟨aL,rv,p,_⟩:=I.G4 sx
  obtain ⟨dS,Ki,p2,_⟩:=I.G4 sy
  have l1:=rv.length
  have l2:=Ki.length
  obtain ⟨n1,n2,n3,n4,n5,n6,n7,n8,n9,LL⟩:=ne
  have fC:∀ {b:Bool} {l:Addr} {zs:List V},uI b X.K H l zs → ∀ c ∈ [z,TI,TO,i1,i2],l ≠ c:=fun {b l zs} hs c d_ => I.DR hs (hf c d_)
  have D:ZipApart z TI TO i1 i2 a b:=⟨n1.symm,n2.symm,n3.symm,n4.symm,n5,n6,n7,n8,n9,LL,fC sx z (by simp),fC sx TO (by simp),fC sx i1 (by simp),fC sx i2 (by simp),fC sy z (by simp),fC sy TO (by simp),fC sy i1 (by simp),fC sy i2 (by simp)⟩
  refine y9 (b1:=b1) (b2:=b2) (I.ok.hd hc) D hz qU rZ h1 h2 p p2 (by rcases hl with q | q; exact .inl (by simp; lia); exact .inr (by simp; lia)) fun h' a6 => ⟨rfl,?_⟩
  have LM:∀ c ∈ [z,TO,i1,i2],H c = none:=fun c d_ => (hf c (by simp at d_ ⊢; rcases d_ with q | q | q | q <;> simp [q])).1
  have kp:∀ c o,c ∉ [z,TO,i1,i2] → s.heap.get? c = some o → h'.get? c = some o:=fun c o d_ e => a6 c o (fun q => d_ (by simp [q])) (fun q => d_ (by simp [q])) (fun q => d_ (by simp [q])) (fun q => d_ (by simp [q])) e
  have vG:∀ c o,H c = some o → c ∉ [z,TO,i1,i2]:=fun c o e d_ => by rw [LM c d_] at e; cases e
  have bP:gv X.prog X.w H h':=fun c o e => by
   refine (I.bP c o e).jM (fun d v hd q => kp d v ?_ q) (fun d q => q) fun d zs q => q
   rcases hd with q' | q'
   ·rw [q']; exact vG c o e
   ·exact vG d _ q'
  have un:Un (gx X.stack) [z,TO,i1,i2] H H s.heap h' :=
   ⟨fun c o e n _ d_ => kp c o d_ e,fun c o e n _ d_ => ⟨o.slots,kp c o d_ e⟩,fun c o e n d_ => n,fun c o e d_ => ⟨o,kp c o d_ e⟩,fun c zs e => e,fun c o u e => e,fun c ps e => ⟨#[],by rw [e]; simp⟩⟩
  exact I.yB rfl un bP I.bare fun c d_ => by
   obtain ⟨f0,f1,f2,f3,f4,f5⟩:=hf c (by simp at d_ ⊢; rcases d_ with q | q | q | q <;> simp [q])
   exact ⟨f3,f1,f4,f5⟩
 self:=fun _ _ _ _ _ st h => wpAny_pyIter_zip st.1 h
section
variable {X:Cx} {elts:List Expr} {kt:Nat} {tp p pos:Pos}
noncomputable def LQ (K:PySem.W.Frag) (b1 b2:Bool) (ta:TA):TI:=fun σ H R => ta σ H fun vs H1 => ∃ a b,vs = [.ref a,.ref b] ∧ (∃ xs,uI b1 K H1 a xs) ∧ (∃ ys,uI b2 K H1 b ys) ∧ R (QT K b1 b2 a b) H1
theorem Fu (b1 b2:Bool) {ea eb:Expr} {ta:TA} (hg:Gl X "zip") (hm:X.mg "zip" = none) (ha:PA X [ea,eb] ta) (hs:starEach [ea,eb] X.env = [(false,eval ea X.env),(false,eval eb X.env)]:=by rfl) (gR:starEach [eb] X.env = [(false,eval eb X.env)]:=by rfl) :
  PI X (.Tuple elts kt tp) (.Call (.Name "zip" p) [ea,eb] [] pos) (LQ X.K b1 b2 ta):=by
 intro pins s σ H R I h
 refine Call_ (iG I hg hm boot_zip (PyProof.Rows.callWith_type1 (cV (ha pos pins s σ H _ I h) fun us s1 ⟨vs,H1,I1,r1,q1⟩ => ?_) (by rw [hs,gR]) (by rw [gR]; rfl)))
 obtain ⟨a,b,e,⟨xs,sx⟩,⟨ys,sy⟩,q⟩:=q1
 subst e
 obtain ⟨u,u2,rfl,ru,Sw⟩:=vals2 r1
 cases ru
 cases Sw
 obtain ⟨aL,rv,p1,_⟩:=I1.G4 sx
 obtain ⟨dS,Ki,p2,_⟩:=I1.G4 sy
 refine zd (b1:=b1) (b2:=b2) p1 p2 fun h' hz qU rZ g1 g2 kp => wpAny_pyIter_zip hz ?_
 have I2:Inv X pins σ H1 { s1 with heap:=h' }:=I1.kept (t':=s1.toks) kp
 refine ⟨_,[s1.heap.objs.size + 4,s1.heap.objs.size + 2,s1.heap.objs.size + 3,s1.heap.objs.size,s1.heap.objs.size + 1],_,_,H1,rfl,I2,zg (b1:=b1) (b2:=b2) a b ?_,⟨hz,qU,⟨_,_,rZ⟩,g1,g2⟩,fun c hc => ?_,q⟩
 ·refine ⟨?_,?_,?_,?_,?_,?_,?_,?_,?_,?_⟩ <;> (intro z; have z':(_:Nat) = _:=z; lia)
 ·have hle:s1.heap.objs.size ≤ c:=by
   have d_:c = s1.heap.objs.size + 4 ∨ c = s1.heap.objs.size + 2 ∨ c = s1.heap.objs.size + 3 ∨ c = s1.heap.objs.size ∨ c = s1.heap.objs.size + 1:=by simpa using hc
   rcases d_ with r | r | r | r | r <;> (rw [r]; first | exact Nat.le_refl _ | exact Nat.le_add_right _ _)
  exact I1.yG hle (I1.bP.fresh hle)
end
end L2
namespace L2
open PySem PySem.Spec PyProof.Rows
theorem b7.there {P:Program} {w:World} {H:Hp} {h:Heap} {a:Addr} {o:HO} (x:b7 P w H h a o):∃ ob,h.get? a = some ob:=by
 cases o with
 | lst xs => obtain ⟨_,_,_,_,e⟩:=x; exact ⟨_,e⟩
 | tup xs => obtain ⟨_,_,_,ob,e,_⟩:=x; exact ⟨_,e⟩
 | dK aO => obtain ⟨_,_,_,_,o,_,_,e,_⟩:=x; exact ⟨_,e⟩
 | dT aO => obtain ⟨_,_,_,_,o,_,_,e,_⟩:=x; exact ⟨_,e⟩
 | set S n => obtain ⟨o,_,_,_,e,_⟩:=x; exact ⟨_,e⟩
 | ins C dx fs => obtain ⟨_,_,_,e,_⟩:=x; exact ⟨_,e⟩
 | own y => obtain ⟨_,e⟩:=x; exact ⟨_,e⟩
 | xd fs => obtain ⟨_,⟨_,_,_,e,_⟩,_⟩:=x; exact ⟨_,e⟩
 | JX lo hi => obtain ⟨_,_,_,e⟩:=x; exact ⟨_,e⟩
 | fN ob u => obtain ⟨e,_⟩:=x; exact ⟨_,e⟩
 | oY ps => exact ⟨_,(show h.get? a = some _ from x)⟩
 | met f y => exact ⟨_,(show h.get? a = some _ from x)⟩
 | ext φ => obtain ⟨_,e,_⟩:=x; exact e
structure Sx (P:Program) (w:World) (l:List Env) (H H':Hp) (s s':Shared) (ea:Addr) (cls:Value):Prop where
 os:s'.os = s.os
 bare:AllBare s'.gens
 un:Un (gx l) [] H H' s.heap s'.heap
 bP:gv P w H' s'.heap
 fl:∃ (B:Heap) (t:Addr),Heap.FlyingW B l ea cls (.ref t) s'.heap ∧ (∀ b,H' b ≠ none → ∃ o,B.get? b = some o) ∧ (∀ b o,s.heap.get? b = some o → b ∉ gx l → ∃ o',B.get? b = some o')
noncomputable def iJ (P:Program) (w:World):yK:=fun outer H s E e s' => ∃ ea cls H',e = .ref ea ∧ Sx P w outer H H' s s' ea cls ∧ E cls none H'
section
variable {P:Program} {w:World} {K:PySem.W.Frag} {mg:Str → Option Value} {base:Heap} {N:List Str} {qual:Str} {scope:Scope} {f:Addr} {cd:Value} {A:Around} {outer:List Env} {s₀:Shared} {H₀:Hp} {E:XK}
theorem sF {env:Env} {L:Addr} (hf:env.frame = some L) (l:List Env):gx (env :: l) = L :: gx l:=by
 unfold gx
 rw [List.filterMap_cons,hf]
theorem xr {pins:List (Addr × Obj)} {σ:St} {H:Hp} {s:Shared} {h':Heap} {e:Addr} {cls:Value} {vs:List Value} (I:Inv (fO (iJ P w) P w K mg base N qual scope f cd A outer s₀ H₀ E) pins σ H s)
  (hx:Heap.MadeExcOf s.heap h' e cls vs) (hE:E cls none H):(fO (iJ P w) P w K mg base N qual scope f cd A outer s₀ H₀ E).xe (.ref e) { s with heap:=h' }:=by
 have yu:=I.stack
 have vH:=I.qE
 have LR:(A.deeper (envOfC qual scope s₀.heap.objs.size f cd)).frames = some (envOfC qual scope s₀.heap.objs.size f cd :: outer):=I.ok.frames
 have Il:gx (envOfC qual scope s₀.heap.objs.size f cd :: outer) = s₀.heap.objs.size :: gx outer:=sF rfl outer
 have DS:∀ env ∈ (envOfC qual scope s₀.heap.objs.size f cd :: outer),∀ b,env.frame = some b → b ∈ gx (envOfC qual scope s₀.heap.objs.size f cd :: outer):=fun env he b hb => List.mem_filterMap.mpr ⟨env,he,hb⟩
 have Fv:∀ b o,s₀.heap.get? b = some o → b ∉ gx outer → b ∉ gx (envOfC qual scope s₀.heap.objs.size f cd :: outer):=fun b o q hb hm => by
  rw [Il] at hm
  rcases List.mem_cons.mp hm with z | z
  ·exact absurd (Heap.lt_size q) (by rw [z]; exact Nat.lt_irrefl _)
  ·exact hb z
 refine wpAny_leaves_madeW (base:=PySem.W.hideAll s.heap (gx (envOfC qual scope s₀.heap.objs.size f cd :: outer))) (h:=s.heap) LR rfl (fun b o q => PySem.W.of_hideAll _ q) (PySem.W.funFrames_hide yu DS) hx fun Ft t fl _ _ up => ?_
 have stays:∀ b o,s.heap.get? b = some o → b ∉ gx (envOfC qual scope s₀.heap.objs.size f cd :: outer) → Ft.get? b = some o:=fun b o q hb => fl.1 b o (PySem.W.hideAll_get _ q hb)
 have vG:∀ b u,H b = some u → b ∉ gx (envOfC qual scope s₀.heap.objs.size f cd :: outer):=fun b u q hb => by rw [vH b hb] at q; cases q
 have slot:∀ b o,s₀.heap.get? b = some o → H₀ b = none → b ∈ gx outer → ∃ sl,Ft.get? b = some { o with slots:=sl }:=fun b o q n hb => by
  obtain ⟨sl,e1⟩:=I.base.slot b o q n hb (by intro z; cases z)
  obtain ⟨_,o',nv,LS⟩:=yu.mem (show b ∈ gx (envOfC qual scope s₀.heap.objs.size f cd :: outer) by rw [Il]; exact List.mem_cons_of_mem _ hb)
  rw [e1] at nv
  cases nv
  obtain ⟨Hk,e2⟩:=up b _ (hx.keeps _ _ e1) LS
  exact ⟨Hk,e2⟩
 have nil:∀ b:Addr,b ∉ (fO (iJ P w) P w K mg base N qual scope f cd A outer s₀ H₀ E).ex:=fun b z => by cases z
 refine ⟨e,cls,H,rfl,⟨I.os,I.bare,⟨fun b o q n hb _ => stays b o (I.base.keep b o q n hb (nil b)) (Fv b o q hb),fun b o q n hb _ => slot b o q n hb,fun b o q n _ => I.base.free b o q n (nil b),fun b o q _ => ?_,I.base.jv,I.base.iF,I.base.jw⟩,fun b u q => ?_,PySem.W.hideAll s.heap (gx (envOfC qual scope s₀.heap.objs.size f cd :: outer)),t,fl,fun b hb => ?_,fun b o q hb => ?_⟩,hE⟩
 ·by_cases hb:b ∈ gx outer
  ·obtain ⟨sl,e1⟩:=slot b o q (I.ok.Bz b hb) hb
   exact ⟨_,e1⟩
  ·obtain ⟨o',e1⟩:=I.base.there b o q (nil b)
   exact ⟨o',stays b o' e1 (Fv b o q hb)⟩
 ·refine (I.bP b u q).jM (fun c v hc z => stays c v z ?_) (fun _ z => z) fun _ _ z => z
  rcases hc with z' | z'
  ·rw [z']; exact vG b u q
  ·exact vG c _ z'
 ·cases q:H b with
  | none => exact absurd q hb
  | some u =>
   obtain ⟨o,e1⟩:=(I.bP b u q).there
   exact ⟨o,PySem.W.hideAll_get _ e1 (vG b u q)⟩
 ·obtain ⟨o',e1⟩:=I.base.there b o q (nil b)
  exact ⟨o',PySem.W.hideAll_get _ e1 (Fv b o q hb)⟩
theorem aM:Passes (iJ P w) (fO (iJ P w) P w K mg base N qual scope f cd A outer s₀ H₀ E) E:=by
 rintro pins σ H s e s' I ⟨ea,cls,H',rfl,Z,hE⟩
 obtain ⟨B,t,fl,ct,cs⟩:=Z.fl
 have LR:(A.deeper (envOfC qual scope s₀.heap.objs.size f cd)).frames = some (envOfC qual scope s₀.heap.objs.size f cd :: outer):=I.ok.frames
 have Il:gx (envOfC qual scope s₀.heap.objs.size f cd :: outer) = s₀.heap.objs.size :: gx outer:=sF rfl outer
 have Fv:∀ b o,s₀.heap.get? b = some o → b ∉ gx outer → b ∉ gx (envOfC qual scope s₀.heap.objs.size f cd :: outer):=fun b o q hb hm => by
  rw [Il] at hm
  rcases List.mem_cons.mp hm with z | z
  ·exact absurd (Heap.lt_size q) (by rw [z]; exact Nat.lt_irrefl _)
  ·exact hb z
 have sub:∀ b,b ∈ gx outer → b ∈ gx (envOfC qual scope s₀.heap.objs.size f cd :: outer):=fun b hb => by rw [Il]; exact List.mem_cons_of_mem _ hb
 have nil:∀ b:Addr,b ∉ (fO (iJ P w) P w K mg base N qual scope f cd A outer s₀ H₀ E).ex:=fun b z => by cases z
 refine wpAny_leaves_onW LR rfl fl fun Ft LU up => ?_
 have QW:∀ b o,s'.heap.get? b = some o → (∃ o',B.get? b = some o') → Ft.get? b = some o:=fun b o q ⟨o',z⟩ => by
  have q':=fl.1 b o' z
  rw [q] at q'
  cases q'
  exact LU.1 b o z
 have slot:∀ b o,s₀.heap.get? b = some o → H₀ b = none → b ∈ gx outer → ∃ sl,Ft.get? b = some { o with slots:=sl }:=fun b o q n hb => by
  obtain ⟨sl,e1⟩:=I.base.slot b o q n hb (nil b)
  obtain ⟨E5,e2⟩:=Z.un.slot b _ e1 (I.base.free b o q n (nil b)) (sub b hb) (by intro z; cases z)
  obtain ⟨_,o',nv,LS⟩:=fl.2.2.1.mem (sub b hb)
  rw [e2] at nv
  cases nv
  obtain ⟨Hk,e3⟩:=up b _ e2 LS
  exact ⟨Hk,e3⟩
 refine ⟨ea,cls,H',rfl,⟨Z.os.trans I.os,Z.bare,⟨fun b o q n hb _ => ?_,fun b o q n hb _ => slot b o q n hb,fun b o q n _ => ?_,fun b o q _ => ?_,fun b xs q => Z.un.jv b xs (I.base.jv b xs q),fun b o u q => Z.un.iF b o u (I.base.iF b o u q),fun b ps q => ?_⟩,fun b u q => ?_,B,t,LU,ct,fun b o q hb => ?_⟩,hE⟩
 ·have e1:=I.base.keep b o q n hb (nil b)
  have n1:=I.base.free b o q n (nil b)
  have nf:=Fv b o q hb
  exact QW b o (Z.un.keep b o e1 n1 nf (by intro z; cases z)) (cs b o e1 nf)
 ·obtain ⟨o',e1⟩:=I.base.there b o q (nil b)
  exact Z.un.free b o' e1 (I.base.free b o q n (nil b)) (by intro z; cases z)
 ·by_cases hb:b ∈ gx outer
  ·obtain ⟨sl,e1⟩:=slot b o q (I.ok.Bz b hb) hb
   exact ⟨_,e1⟩
  ·obtain ⟨o',e1⟩:=I.base.there b o q (nil b)
   obtain ⟨o2,e2⟩:=cs b o' e1 (Fv b o q hb)
   exact ⟨o2,LU.1 b o2 e2⟩
 ·obtain ⟨m1,e1⟩:=I.base.jw b ps q
  obtain ⟨m2,e2⟩:=Z.un.jw b _ e1
  exact ⟨m1 ++ m2,by rw [e2,Array.append_assoc]⟩
 ·refine (Z.bP b u q).jM (fun c v hc z => QW c v z (ct c ?_)) (fun _ z => z) fun _ _ z => z
  rcases hc with z' | z'
  ·rw [z',q]; simp
  ·rw [z']; simp
 ·obtain ⟨o',e1⟩:=I.base.there b o q (nil b)
  exact cs b o' e1 (Fv b o q hb)
theorem iI.QX {x:Str} {st:Stmt} {fd:FuncData} {ps:List Str} {k:Nat} {sp:Sp} (F:iI K x qual st f fd) (S:aY N ps (ao st)) (len:∀ vs H Q E,sp vs H Q E → vs.length = ps.length)
  (yM:∀ (dj:Value) (A:Around) (outer:List Env) (s:Shared) (H:Hp) (vs:List V) (Q:VK) (E:XK),eh k (A.deeper (envOfC qual (ao st) s.heap.objs.size f dj)) → sp vs H Q E →
   ∃ t,jO (fO (iJ P w) P w K mg base N qual (ao st) f dj A outer s H E) (aQ st) t ∧ t { nx:=fun _ H' => Q .e7 H',rt:=Q } (start N vs) H):jQ P w K mg base (iJ P w) (k + 1) f fd ps sp:=by
 obtain ⟨oc,od,kV,doc,pm,an,dj,ct,BR,rfl,lk,oT⟩:=F.ex
 exact DH lk oT S len fun A outer s H vs Q E hr GZ => yM dj A outer s H vs Q E hr GZ
end
theorem xt {K:PySem.W.Frag} {h:Heap} {mg:Str → Option Value} {x:Str} {C:Addr} {QY:List Value} {newId:String} (X:K.In h) (hb:mg x = some (.ref C)) (q:PySem.W.excIn K C QY newId = true):OwnCls x C QY newId mg h:=by
 refine ⟨hb,?_⟩
 unfold PySem.W.excIn at q
 split at q
 ·rename_i dd cd sl ho
  split at q
  ·rename_i C' bm k0 k1 k2 k3 n k5 hm hs
   simp only [Bool.and_eq_true,beq_iff_eq,Bool.not_eq_true'] at q
   obtain ⟨⟨⟨⟨⟨rfl,rfl⟩,Im⟩,ht⟩,bP⟩,Kj⟩:=q
   obtain ⟨nm,bs,mro,ns,qn,hd,sn,sub,ab,col,del⟩:=cd
   dsimp only at hm Im bP Kj
   subst hm Im
   have Sy:sl = #[k0,k1,k2,k3,some (.builtin n),k5]:=by
    obtain ⟨l⟩:=sl
    simp only at hs
    rw [hs]
   subst Sy
   exact ⟨bm,ns,nm,qn,bs,hd,sn,sub,ab,col,dd,k0,k1,k2,k3,k5,_,X _ _ ho,.of_isNs (PySem.W.isNs_of_in X bP),PySem.W.nsMap_none_of_in X bP Kj,PySem.W.tail_of_in X ht⟩
  ·cases q
 ·cases q
noncomputable def Fw (E:XK) (C:Addr) (t:TA):TS:=fun _ σ H => t σ H fun vs H1 => vs.length ≤ sizeLine ∧ E (.ref C) none H1
noncomputable def Raises (X:Cx) (E:XK):Prop:=∀ (pins:List (Addr × Obj)) (σ:St) (H:Hp) (s:Shared) (h':Heap) (e:Addr) (cls:Value) (vs:List Value),Inv X pins σ H s → Heap.MadeExcOf s.heap h' e cls vs → E cls none H → X.xe (.ref e) { s with heap:=h' }
theorem zh {X:Cx} {E:XK} {x:Str} {C:Addr} {B newId uJ:String} {bm:List Value} {np cG pos:Pos} {e₀:Expr} {rest:List Expr} {t:TA} (hX:Raises X E) (hc:X.calm = true) (hm:X.mg x = some (.ref C)) (hq:PySem.W.excIn X.K C bm newId = true) (FB:ExcBaseFacts B newId uJ bm) (hg:Gl X x) (ha:PA X (e₀ :: rest) t)
  (he:starEach (e₀ :: rest) X.env = (false,eval e₀ X.env) :: starEach rest X.env:=by rfl) (jo:(backTo cG (starEach rest X.env)).any (·.1) = false:=by rfl) (hd:(x == ("__debug__":Str)) = false:=by decide) :
  PS X (.Raise (some (.Call (.Name x np) (e₀ :: rest) [] cG)) none pos) (Fw E C t):=by
 intro pins s σ H D I h
 obtain ⟨tl,NS,nm,q,bs,hdct,sn,sub,ab,col,dd,k0,k1,k2,k3,k5,mN,hC,hN,Kj,T⟩:=(xt I.mod.GV hm hq).obj
 refine wpAny_Raise_call_subT (C:=C) (nm:=nm) (q:=q) (N:=NS) (bs:=bs) (bm:=tl) (hdct:=hdct) (sn:=sn) (sub:=sub) (ab:=ab) (col:=col) (dd:=dd) (k0:=k0) (k1:=k1) (k2:=k2) (k3:=k3) (k5:=k5)
  FB (mN:=mN) (T.hasType FB.hasBase) (I.ok.hd hc) (by rw [he]; show (false || (backTo cG (starEach rest X.env)).any (·.1)) = false; rw [jo]; rfl) Kj (m7 I hg hm ⟨rfl,?_⟩ hd)
 have hA:=ha cG pins s σ H _ I h
 rw [he] at hA ⊢
 exact Calls.evalArgs_plain (cV hA fun us s2 ⟨vs,H2,I2,r2,z,q2⟩ => ⟨rfl,by rw [← r2.length]; exact z,I2.bk _ _ hC,hN.keeps I2.bk,T.keeps I2.bk,fun h' e SA => hX pins σ H2 s2 h' e _ _ I2 SA q2⟩)
end L2
namespace L2
open PySem PySem.Spec PyProof.Rows
section
variable {X:Cx} {pins:List (Addr × Obj)} {σ:St} {H H':Hp} {s s':Shared} {ea:Addr} {cls:Value}
end
noncomputable abbrev EH:=Value → Addr → Hp → Prop
section
variable {X:Cx}
end
section
variable {X:Cx}
end
end L2
namespace L2
open PySem PySem.Spec PyProof.Rows
noncomputable def Kk (lo:Int) (n:Nat):It:=⟨fun i _ => i < n,fun i H x H' => H' = H ∧ x = .int (lo - i),fun i _ => n ≤ i⟩
theorem xu {P:Program} {w:World} {K:PySem.W.Frag} {tg:Expr} (it:Addr) (lo:Int) (n:Nat):Turn P w K tg (Kk lo n) [it] it (fun i h => IsRangeIter h it (lo + (i:Nat) * (-1)) ((n:Int) - (i:Nat)) (-1)) where
 mem:=by simp
 obj:=fun i h st b hb => by
  have e:b = it:=by simpa using hb
  subst e
  exact ⟨_,st,fun v z => by
   have z':Data.fields _ = Data.cell v:=z
   cases z'⟩
 keep:=fun i h h' st k => k it (by simp) _ st
 item:=by
  intro X hP hw hK hc i pins s σ H E I hf st hg
  subst hP hw hK
  obtain ⟨f0,f1,f2,f3,f4,f5⟩:=hf it (by simp)
  have W:=Walks.range (prog:=X.prog) (w:=X.w) (I.ok.hd hc) it lo (-1) n
  refine W.item i s _ _ hg st fun v h' tk hv aw kk => ?_
  obtain ⟨t,rfl⟩:=hv
  have I1:Inv X pins σ H { s with heap:=h',toks:=tk }:=I.turned (fun b o hb e => kk b o (by simpa using hb) e) f0 f1 f3 f4 f5
  refine ⟨_,rfl,vJ (s:={ s with heap:=h',toks:=tk }) (n:="range_iterator") aw rfl rfl (by decide) ⟨.int (lo - i),H,I1,⟨t,?_⟩,⟨rfl,rfl⟩,aw,fun b hb => (hf b hb).1⟩⟩
  rw [show lo + (i:Int) * (-1) = lo - (i:Int) by lia]
 done:=by
  intro X hP hw hK hc i pins s σ H E I hf st hg
  subst hP hw hK
  obtain ⟨f0,f1,f2,f3,f4,f5⟩:=hf it (by simp)
  exact wpAny_pyNext_range_end (I.ok.hd hc) st (by have:n ≤ i:=hg; lia) fun h' eb => ⟨rfl,I.turned (t':=s.toks) (fun b o hb e => eb b o hb e) f0 f1 f3 f4 f5⟩
 self:=fun _ _ _ _ _ st h => wpAny_pyIter_rangeiter st h
section
variable {X:Cx} {tg:Expr}
theorem Cg {pins:List (Addr × Obj)} {σ:St} {H:Hp} {s:Shared} {R:It → Hp → Prop} {E:Value → Shared → Prop} {lo hi:Int} {t u v:Tok} {tk:Nat} (I:Inv X pins σ H s) (h1:-(2 ^ 62) ≤ lo) (h2:lo < 2 ^ 62) (h3:-(2 ^ 62) ≤ hi) (h4:hi < 2 ^ 62)
  (q:R (Kk lo (lo - hi).toNat) H):wpAny (model X.prog X.w) X.A (pyIter (.ref s.heap.objs.size)) (Lb X pins σ tg R) E { s with heap:=s.heap.push { cls:=.type "range",data:=.fields #[.int lo t,.int hi u,.int (-1) v] },toks:=tk }:=by
 refine wpAny_pyIter_range (IsRange.new ..) (PySem.W.small_down h1 h2 h3 h4) ?_
 have I1:Inv X pins σ H { s with heap:=s.heap.push { cls:=.type "range",data:=.fields #[.int lo t,.int hi u,.int (-1) v] },toks:=tk }:=I.kept fun b o e => Heap.get?_push_of_some _ e
 refine ⟨(s.heap.push { cls:=.type "range",data:=.fields #[.int lo t,.int hi u,.int (-1) v] }).objs.size,[(s.heap.push { cls:=.type "range",data:=.fields #[.int lo t,.int hi u,.int (-1) v] }).objs.size],_,_,H,rfl,
  I1.kept (t':=tk) fun b o e => Heap.get?_push_of_some _ e,xu _ lo (lo - hi).toNat,?_,fun b hb => ?_,q⟩
 ·have e1:lo + ((0:Nat):Int) * (-1) = lo:=by simp
  have e2:(((lo - hi).toNat:Nat):Int) - ((0:Nat):Int) = Builtin.Range.rangeSize lo hi (-1):=by rw [PySem.W.rangeSize_downNat]; lia
  show IsRangeIter _ _ (lo + ((0:Nat):Int) * (-1)) ((((lo - hi).toNat:Nat):Int) - ((0:Nat):Int)) (-1)
  rw [e1,e2]
  exact Heap.get?_push_size _ rfl
 ·have e:b = (s.heap.push { cls:=.type "range",data:=.fields #[.int lo t,.int hi u,.int (-1) v] }).objs.size:=by simpa using hb
  subst e
  exact I1.yG (Nat.le_refl _) (I1.bP.fresh (Nat.le_refl _))
noncomputable def Io (ta:TA):TI:=fun σ H R => ta σ H fun vs H1 => ∃ i j:Int,vs = [.int i,.int j,.int (-1)] ∧ (-(2 ^ 62) ≤ i ∧ i < 2 ^ 62 ∧ -(2 ^ 62) ≤ j ∧ j < 2 ^ 62) ∧ R (Kk i (i - j).toNat) H1
theorem Ci {a b c:Expr} {ta:TA} {p pos:Pos} (hg:Gl X "range") (hm:X.mg "range" = none) (ha:PA X [a,b,c] ta) (hs:starEach [a,b,c] X.env = [(false,eval a X.env),(false,eval b X.env),(false,eval c X.env)]:=by rfl) (gR:starEach [b,c] X.env = [(false,eval b X.env),(false,eval c X.env)]:=by rfl) :
  PI X tg (.Call (.Name "range" p) [a,b,c] [] pos) (Io ta):=by
 intro pins s σ H R I h
 refine Call_ (iG I hg hm boot_range (PyProof.Rows.callWith_type1 (cV (ha pos pins s σ H _ I h) fun us s1 ⟨vs,H1,I1,r1,q1⟩ => ?_) (by rw [hs,gR]) (by rw [gR]; rfl)))
 obtain ⟨i,j,e,⟨q1,q2,q3,q4⟩,q⟩:=q1
 subst e
 cases r1 with
 | cons r rr =>
  cases rr with
  | cons r' rr =>
   cases rr with
   | cons SD rr =>
    cases rr
    obtain ⟨t,rfl⟩:=r
    obtain ⟨t',rfl⟩:=r'
    obtain ⟨Vy,rfl⟩:=SD
    refine call_range_3 (by decide) (Cg I1 q1 q2 q3 q4 q) (.inl (PyProof.noPylong_of_log2 (by decide +kernel)))
end
section
variable {X:Cx} {tg:Expr}
end
section
variable {X:Cx} {elts:List Expr} {kt:Nat} {tp p pos:Pos}
end
section
variable {X:Cx}
theorem xw:cQ X (.type "int") (fun xs H Q => ∃ b,xs = [.bl b] ∧ Q (.int (if b then 1 else 0)) H):=by
 rintro pins s σ H xs ws Q I r ⟨b,rfl,q⟩
 obtain ⟨u,rfl,ru⟩:=Vals.one r
 cases ru
 exact call_int_bool ⟨.int (if b then 1 else 0),H,I.tok _,⟨_,rfl⟩,q⟩
end
end L2
namespace L2
open PySem PySem.Spec PyProof.Rows
structure dQ where
 qual:Str
 params:Arguments
 body:Expr
 scope:Scope
 ps:List Str
 x:Str
structure dQ.Ok (L:dQ):Prop where
 kind:L.scope.kind = .function
 co:L.scope.isCoroutine = false
 gen:L.scope.isGenerator = false
 gj:∀ y ∈ L.scope.names,y.2 ≠ .cell
 par:∀ p ∈ L.ps,L.scope.names.lookup p = some .local
 fr:L.scope.names.lookup L.x = some .free
 free:∀ y,L.scope.names.lookup y = some .free → y = L.x
 nd:(L.ps ++ [L.x]).Nodup
 bind:∀ (pm cd ct:Value) (cl:List (Str × Addr)) (us:List Value),us.length = L.ps.length → bindArgs (PySem.W.kla_fn "<lambda>" L.qual L.params L.body L.scope cl pm cd ct) ⟨us,[]⟩ = pure (L.ps.zip us)
noncomputable abbrev Fz (H:Hp) (a:Addr) (o:Obj):Prop:=H a = some (.fN o (.own 0))
structure xx (L:dQ) (H:Hp) (f c c':Addr) (v:V):Prop where
 fn:∃ pm uK,Fz H f (PySem.W.kla_obj "<lambda>" L.qual L.params L.body L.scope [(L.x,c)] pm c' uK)
 cd:∃ oc vs t,Fz H c' oc ∧ oc.data = .fields vs ∧ vs[1]? = some (.str L.qual t)
 ce:∃ oc u,Fz H c oc ∧ oc.data = .cell (some u) ∧ RelV v u
noncomputable def hide (H:Hp) (c:Addr):Hp:=fun b => if b = c then none else H b
noncomputable def back (H H':Hp) (c:Addr):Hp:=fun b => if b = c then H b else H' b
theorem hide_ne {H:Hp} {b c:Addr} (h:b ≠ c):hide H c b = H b:=if_neg h
theorem hide_self {H:Hp} {c:Addr}:hide H c c = none:=if_pos rfl
theorem fX {H H':Hp} {b c:Addr} (h:b ≠ c):back H H' c b = H' b:=if_neg h
theorem kK {H H':Hp} {c:Addr}:back H H' c c = H c:=if_pos rfl
noncomputable def pU (P:Program) (w:World) (K:PySem.W.Frag) (mg:Str → Option Value) (base:Heap) (L:dQ) (f c c':Addr) (A:Around) (outer:List Env) (s:Shared) (H:Hp):Cx where
 prog:=P
 w:=w
 K:=K
 mg:=mg
 base:=base
 A:=A.deeper (PySem.W.envX L.qual L.scope s.heap.objs.size f (.ref c') [(L.x,c)])
 N:=L.ps ++ [L.x]
 s₀:=s
 H₀:=hide H c
 env:=PySem.W.envX L.qual L.scope s.heap.objs.size f (.ref c') [(L.x,c)]
 outer:=outer
 stack:=PySem.W.envX L.qual L.scope s.heap.objs.size f (.ref c') [(L.x,c)] :: outer
 ex:=[]
 calm:=true
 fn:=fun y => !(y == L.x)
 pn:=[]
 xe:=fun _ _ => False
theorem vV:∀ {ps:List Str} {us:List Value} {i:Nat} {y:Str} {u:Value},ps.Nodup → ps[i]? = some y → us[i]? = some u → (ps.zip us).reverse.lookup y = some u
 | [],_,_,_,_,_,h,_ => by cases h
 | _ :: _,[],_,_,_,_,_,h => by cases h
 | p :: ps,w :: us,i,y,u,nd,h1,h2 => by
  have n:=List.nodup_cons.mp nd
  rw [List.zip_cons_cons,List.reverse_cons,List.lookup_append]
  cases i with
  | zero =>
   cases h1
   cases h2
   have:(ps.zip us).reverse.lookup p = none:=by
    rw [List.lookup_eq_none_iff]
    intro q hq
    have:=(List.of_mem_zip (List.mem_reverse.mp hq)).1
    have ne:p ≠ q.1:=by
     intro z
     apply n.1
     rw [z]; exact this
    first | exact beq_eq_false_iff_ne.mpr ne | exact beq_eq_false_iff_ne.mpr (Ne.symm ne) | simpa using ne | simpa using (Ne.symm ne)
   rw [this]
   simp
  | succ i =>
   rw [vV n.2 (show ps[i]? = some y from h1) (show us[i]? = some u from h2)]
   rfl
section
variable {P:Program} {w:World} {K:PySem.W.Frag} {mg:Str → Option Value} {base:Heap} {L:dQ} {f c c':Addr} {A:Around} {outer:List Env} {s s1:Shared} {H:Hp} {us:List Value} {vs:List V} {v:V}
theorem sG {h h':Heap} {o:Obj} (x:gv P w H h) (hc:Fz H c o) (k:∀ b u,h.get? b = some u → h'.get? b = some u):gv P w (hide H c) h':=fun a ob e => by
 have ne:a ≠ c:=fun z => by rw [z,hide_self] at e; cases e
 rw [hide_ne ne] at e
 refine (x a ob e).jM (fun b u _ q => k b u q) (fun b q => ?_) fun b xs q => ?_
 ·have n2:b ≠ c:=by
   intro z
   rw [z,hc] at q
   cases q
  rw [hide_ne n2]; exact q
 ·have n2:b ≠ c:=by
   intro z
   rw [z,hc] at q
   cases q
  rw [hide_ne n2]; exact q
theorem xy (LO:L.Ok) (C:xx L H f c c' v) (hd:A.handled = none) (e0:uB P w K mg base A outer s H) (hl:vs.length = L.ps.length) (r:Vals vs us) {h1:Heap} {tk:Nat}
  (DT:h1.Ns s.heap.objs.size (fun y => (L.ps.zip us).reverse.lookup y)) (hk:∀ b o,s.heap.get? b = some o → h1.get? b = some o) :
  Inv (pU P w K mg base L f c c' A outer s H) [] (vs.map some ++ [some v]) (hide H c) { s with heap:=h1,toks:=tk }:=by
 obtain ⟨oc,u,hc,oT,rv⟩:=C.ce
 have gc:s.heap.get? c = some oc:=(e0.bP c _ hc).1
 have ic:h1.IsCell c (some u):=⟨oc,hk _ _ gc,oT⟩
 have sH:∀ y z,([(L.x,c)]:List (Str × Addr)).lookup y = some z → y = L.x ∧ z = c:=fun y z h => by
  rw [List.lookup_cons] at h
  split at h
  ·rename_i e
   exact ⟨by simpa using e,(Option.some.inj h).symm⟩
  ·cases h
 have DU:([(L.x,c)]:List (Str × Addr)).lookup L.x = some c:=by
  rw [List.lookup_cons,beq_self_eq_true]
 have LV:∀ b,H b = none → hide H c b = none:=fun b h => by
  unfold hide
  split
  ·rfl
  ·exact h
 have J2:L.ps.Nodup:=(List.nodup_append.mp LO.nd).1
 refine ⟨⟨e0.mod,LO.kind,rfl,rfl,Nat.le_refl _,fun y z a h1 h2 => (sH y a h1).1.trans (sH z a h2).1.symm,fun y hy => ?_,fun y a h1 h2 => ?_,fun _ => hd,Around.frames_deeper e0.frames,.inr ⟨rfl,rfl⟩,(fun b z => by cases z),fun b o e => ⟨(e0.bs b o e).1,LV b (e0.bs b o e).2⟩,e0.DC,(fun b _ _ z => by cases z),(fun b z => by cases z),e0.mB,fun b hb => LV b (e0.Bz b hb)⟩,
  rfl,e0.bare,Un.kept hk,⟨_,DT,fun i y v' h1 h2 h3 => ?_⟩,(fun y a h => ⟨some u,by rw [(sH y a h).2]; exact ic⟩),LV _ (e0.bP.fresh (Nat.le_refl _)),(fun y a h => by rw [(sH y a h).2]; exact hide_self),(fun q hq => by cases hq),sG e0.bP hc hk,?_⟩
 ·have hy:L.scope.names.lookup y = some .cell ∨ L.scope.names.lookup y = some .free:=hy
  rcases hy with hy | hy
  ·exact absurd rfl (LO.gj _ (PySem.mem_of_lookup hy))
  ·exact ⟨c,by rw [LO.free y hy]; exact DU⟩
 ·have:=(sH y a h2).1
  subst this
  have h1:(!(L.x == L.x)) = true:=h1
  rw [beq_self_eq_true] at h1
  cases h1
 ·have h1:(L.ps ++ [L.x])[i]? = some y:=h1
  rcases Nat.lt_or_ge i L.ps.length with q | q
  ·rw [List.getElem?_append_left q] at h1
   rw [List.getElem?_append_left (by rw [List.length_map,hl]; exact q),List.getElem?_map] at h2
   have ha:vs[i]? = some v':=by
    cases e:vs[i]? with
    | none => rw [e] at h2; cases h2
    | some a => rw [e] at h2; cases h2; rfl
   obtain ⟨u',hu,LW⟩:=r.get ha
   exact ⟨u',LW,.inl ⟨LO.par y (List.mem_of_getElem? h1),vV J2 h1 hu⟩⟩
  ·rw [List.getElem?_append_right q] at h1
   rw [List.getElem?_append_right (by rw [List.length_map,hl]; exact q),List.length_map,hl] at h2
   cases z:i - L.ps.length with
   | zero =>
    rw [z] at h1 h2
    cases h1
    cases h2
    exact ⟨u,rv,.inr ⟨.inr LO.fr,c,DU,ic⟩⟩
   | succ k => rw [z] at h1; cases h1
 ·show (vs.map some ++ [some v]).length = (L.ps ++ [L.x]).length
  rw [List.length_append,List.length_append,List.length_map,hl]; rfl
theorem Cj {H':Hp} {o:Obj} {fs:List Addr} {h h':Heap} (hc:Fz H c o) (LX:c ∉ fs) (ok:gv P w H h) (u:Un fs [] (hide H c) H' h h') (Kl:gv P w H' h'):Un fs [] H (back H H' c) h h' ∧ gv P w (back H H' c) h':=by
 have gc:h.get? c = some o:=(ok c _ hc).1
 have Ip:h'.get? c = some o:=u.keep c o gc hide_self LX (by simp)
 have fc:H' c = none:=u.free c o gc hide_self (by simp)
 have nc:∀ b x,H b = some x → (∀ o u,x ≠ .fN o u) → b ≠ c:=fun b x q z e => by
  rw [e,hc] at q
  exact z _ _ (Option.some.inj q).symm
 have n0:∀ b,H b = none → b ≠ c:=fun b q e => by
  rw [e,hc] at q
  cases q
 refine ⟨⟨fun b ob q n hb _ => u.keep b ob q (by rw [hide_ne (n0 b n)]; exact n) hb (by simp),fun b ob q n hb _ => u.slot b ob q (by rw [hide_ne (n0 b n)]; exact n) hb (by simp),fun b ob q n _ => ?_,fun b ob q _ => u.there b ob q (by simp),fun b xs q => ?_,fun b ob x q => ?_,fun b ps q => ?_⟩,fun b x q => ?_⟩
 ·rw [fX (n0 b n)]
  exact u.free b ob q (by rw [hide_ne (n0 b n)]; exact n) (by simp)
 ·have ne:=nc b _ q fun _ _ z => by cases z
  rw [fX ne]
  exact u.jv b xs (by rw [hide_ne ne]; exact q)
 ·by_cases ne:b = c
  ·rw [ne,kK,← ne]; exact q
  ·rw [fX ne]
   exact u.iF b ob x (by rw [hide_ne ne]; exact q)
 ·have ne:=nc b _ q fun _ _ z => by cases z
  rw [fX ne]
  exact u.jw b ps (by rw [hide_ne ne]; exact q)
 ·by_cases ne:b = c
  ·rw [ne,kK,hc] at q
   cases q
   rw [ne]
   exact ⟨Ip,o,Ip⟩
  ·rw [fX ne] at q
   have up:∀ a y,H' a = some y → back H H' c a = some y:=fun a y z => by
    rw [fX (fun e => by rw [e,fc] at z; cases z)]; exact z
   exact (Kl b x q).jM (fun _ _ _ z => z) (fun a z => up a _ z) fun a xs z => up a _ z
theorem Ck {k:Nat} {Q:VK} {E:XK} (LO:L.Ok) (C:xx L H f c c' v) (hr:eh (k + 1) A) (e0:uB P w K mg base A outer s H) (hl:vs.length = L.ps.length) (r:Vals vs us)
  (h:∃ t,PE (pU P w K mg base L f c c' A outer s H) L.body t ∧ t (vs.map some ++ [some v]) (hide H c) fun y H' => H' c = none → Q y (back H H' c)) :
  codeAny (model P w) A (.call (.ref f) ⟨us,[]⟩) (CR (iJ P w) outer P w H s Q E) s:=by
 obtain ⟨pm,uK,hf⟩:=C.fn
 obtain ⟨oc,ws,t,oT,hd,hq⟩:=C.cd
 obtain ⟨Vz,u0,LY,_⟩:=C.ce
 have SE:us.length = L.ps.length:=by rw [← r.length]; exact hl
 have lim:s.heap.NoLimit:=e0.mod.nolimit.keeps fun b o e => (e0.bs b o e).1
 refine PySem.W.kla_callFunE hr.depth (e0.bP f _ hf).1 rfl LO.co LO.gen rfl ⟨c',oc,ws,t,rfl,(e0.bP c' _ oT).1,hd,hq⟩ ?_
 rw [LO.bind _ _ _ _ us SE]
 refine wpAny_pure (wpAny_newFunctionEnv LO.gj (fun y hy => LO.par y.1 (List.of_mem_zip (show (y.1,y.2) ∈ L.ps.zip us from hy)).1) (fun h1 DT SF => ?_) LO.kind)
 have hk:∀ b o,s.heap.get? b = some o → h1.get? b = some o:=fun b o e => SF.extBut b o (Nat.ne_of_lt (Heap.lt_size e)) (Heap.get?_push_of_some _ e)
 refine ⟨lim.keeps hk,?_⟩
 show codeAny _ _ (.expr L.body (PySem.W.envX L.qual L.scope s.heap.objs.size f (.ref c') [(L.x,c)])) _ _
 obtain ⟨tr,pe,ht⟩:=h
 have I:=xy (tk:=s.toks + (L.ps.zip us).length) LO C hr.hd e0 hl r DT hk
 refine PySem.W.kla_codeExpr (wpAny_mono (pe [] _ _ _ _ I ht) (fun y s' hy => ?_) fun _ _ z => z.elim)
 obtain ⟨y',H',J,ry,qy⟩:=hy
 have LX:c ∉ gx outer:=fun z => by
  have:=e0.Bz c z
  rw [LY] at this
  cases this
 obtain ⟨un,ok⟩:=Cj LY LX e0.bP J.base J.bP
 exact ⟨y',back H H' c,J.os,J.bare,un,ok,ry,qy (J.base.free c _ (e0.bP c _ LY).1 hide_self (by simp [pU]))⟩
end
end L2
namespace L2
open PySem PySem.Spec PyProof.Rows
noncomputable def Tab (H:Hp) (T:Addr) (line col:Nat) (qual:Str):Prop:=H T = some (.oY #[]) ∨
 ∃ c' oc vs t,H T = some (.oY #[rawInt line,rawInt col,.ref c']) ∧ Fz H c' oc ∧ oc.data = .fields vs ∧ vs[1]? = some (.str qual t)
structure DV (X:Cx) (L:dQ) (pos:Pos) (cd T c:Addr):Prop where
 code:X.env.code = .ref cd
 hd:PySem.W.CodeHd X.base cd T
 cl:closureFor L.scope X.env = pure [(L.x,c)]
 qual:L.qual = X.env.qual ++ "<lambda>"
 dflt:defaultsOf L.params X.env = ([],[])
 blt:X.base.BuiltinsAt X.mg T
 gT:mainGlobals ≠ T
structure zi (L:dQ) (H H':Hp) (T c f c':Addr) (pos:Pos):Prop where
 fn:∃ pm uK,Fz H' f (PySem.W.kla_obj "<lambda>" L.qual L.params L.body L.scope [(L.x,c)] pm c' uK)
 cd:∃ oc vs t,Fz H' c' oc ∧ oc.data = .fields vs ∧ vs[1]? = some (.str L.qual t)
 tab:Tab H' T pos.line pos.col L.qual
 old:∀ b o,b ≠ T → H b = some o → H' b = some o
noncomputable def LZ (L:dQ) (T c:Addr) (pos:Pos):TE:=fun _ H Q => Tab H T pos.line pos.col L.qual ∧ ∀ f c' H',zi L H H' T c f c' pos → Q (.ref f) H'
theorem xA {pos:Pos}:codeAmong pos (#[]:Array Value).toList = none:=rfl
section
variable {X:Cx} {L:dQ} {pos:Pos} {cd T c:Addr}
theorem Fx (A:DV X L pos cd T c):PE X (.Lambda L.params L.body L.scope pos) (LZ L T c pos):=by
 intro pins s σ H Q I h
 obtain ⟨tb,q⟩:=h
 have C:PySem.W.CodeHd s.heap cd T:=A.hd.keeps I.bk
 have G:s.heap.Ns mainGlobals X.mg:=I.ok.mod.glob.keeps I.bk
 have B:s.heap.BuiltinsAt X.mg T:=by
  obtain ⟨bm,o,h1,h2,h3,h4,h5,h6⟩:=A.blt
  exact ⟨bm,o,h1,h2,h3,h4,I.bk _ _ h5,h6⟩
 refine PySem.W.kla_eval A.dflt ?_
 rw [← A.qual]
 rcases tb with tb | ⟨c',oc,vs,t,tb,hc,hd,hv⟩
 ·have hT:s.heap.get? T = some (PySem.W.tabObj #[]):=I.bP T _ tb
  refine PySem.W.kla_makeFunction (ps:=#[]) A.cl I.ok.glob G A.code C hT trivial xA A.gT B fun c' uK h' tk hx Iq vS L0 SG => ?_
  obtain ⟨c2,oc,vs,t,e2,Hm,hd,hv⟩:=L0
  cases e2
  obtain ⟨ob,eo⟩:∃ ob,ob = PySem.W.kla_obj "<lambda>" L.qual L.params L.body L.scope [(L.x,c)] ((X.mg "__name__").getD .none) c' uK:=⟨_,rfl⟩
  obtain ⟨ps,QZ⟩:∃ ps:Array Value,ps = #[rawInt pos.line,rawInt pos.col,.ref c']:=⟨_,rfl⟩
  have Ir:h'.get? T = some (PySem.W.tabObj ps):=by rw [SG,QZ]; rfl
  rw [← eo]
  have lT:T < s.heap.objs.size:=Heap.lt_size hT
  have nc:H c' = none:=I.bP.fresh Iq
  have nf:H h'.objs.size = none:=I.bP.fresh (by lia)
  have tr:∀ b x,H b = some x → b < s.heap.objs.size:=fun b x q => by
   obtain ⟨o,e⟩:=(I.bP b x q).there
   exact Heap.lt_size e
  obtain ⟨H',eH⟩:∃ H',H' = upd (upd (upd H T (.oY ps)) c' (.fN oc (.own 0))) h'.objs.size (.fN ob (.own 0)):=⟨_,rfl⟩
  have Q0:H' h'.objs.size = some (.fN ob (.own 0)):=by rw [eH]; exact bh
  have d_:H' c' = some (.fN oc (.own 0)):=by rw [eH,aH (Nat.ne_of_lt vS)]; exact bh
  have Iu:H' T = some (.oY ps):=by rw [eH,aH (Nat.ne_of_lt (Nat.lt_trans lT (Nat.lt_of_le_of_lt Iq vS))),aH (Nat.ne_of_lt (Nat.lt_of_lt_of_le lT Iq))]; exact bh
  have nv:∀ b,b ≠ T → b < s.heap.objs.size → H' b = H b:=fun b h1 h2 => by rw [eH,aH (Nat.ne_of_lt (Nat.lt_trans h2 (Nat.lt_of_le_of_lt Iq vS))),aH (Nat.ne_of_lt (Nat.lt_of_lt_of_le h2 Iq)),aH h1]
  have nT:∀ b x,H b = some x → (∀ ps,x ≠ .oY ps) → b ≠ T:=fun b x q z e => by
   rw [e,tb] at q
   exact z _ (Option.some.inj q).symm
  have n0:∀ b,H b = none → b ≠ T:=fun b q e => by
   rw [e,tb] at q
   cases q
  have kp:∀ b o,b ≠ T → s.heap.get? b = some o → (h'.push ob).get? b = some o:=fun b o h1 h2 => Heap.get?_push_of_some _ (hx b o h1 h2)
  have un:Un X.fs [] H H' s.heap (h'.push ob):=by
   refine ⟨fun b o q n _ _ => kp b o (n0 b n) q,fun b o q n _ _ => ⟨o.slots,kp b o (n0 b n) q⟩,fun b o q n _ => ?_,fun b o q _ => ?_,fun b xs q => ?_,fun b o u q => ?_,fun b VA q => ?_⟩
   ·rw [nv b (n0 b n) (Heap.lt_size q)]; exact n
   ·by_cases e:b = T
    ·rw [e]; exact ⟨_,Heap.get?_push_of_some _ Ir⟩
    ·exact ⟨o,kp b o e q⟩
   ·rw [nv b (nT b _ q fun _ z => by cases z) (tr b _ q)]; exact q
   ·rw [nv b (nT b _ q fun _ z => by cases z) (tr b _ q)]; exact q
   ·by_cases e:b = T
    ·rw [e,tb] at q
     cases q
     exact ⟨ps,by rw [e,Iu]; simp⟩
    ·exact ⟨#[],by rw [nv b e (tr b _ q),q]; simp⟩
  have ok:gv X.prog X.w H' (h'.push ob):=fun b x q => by
   by_cases e1:b = h'.objs.size
   ·rw [e1,Q0] at q
    cases q
    rw [e1]
    have g:(h'.push ob).get? h'.objs.size = some ob:=Heap.get?_push_size _ (by rw [eo]; rfl)
    exact ⟨g,ob,g⟩
   ·by_cases e2:b = c'
    ·rw [e2,d_] at q
     cases q
     rw [e2]
     exact ⟨Heap.get?_push_of_some _ Hm,oc,Heap.get?_push_of_some _ Hm⟩
    ·by_cases e3:b = T
     ·rw [e3,Iu] at q
      cases q
      rw [e3]
      exact Heap.get?_push_of_some _ Ir
     ·rw [eH,aH e1,aH e2,aH e3] at q
      refine (I.bP b x q).jM (fun a u ha z => kp a u ?_ z) (fun a z => ?_) fun a xs z => ?_
      ·rcases ha with rfl | ha
       ·exact e3
       ·exact nT a _ ha fun _ z => by cases z
      ·rw [nv a (nT a _ z fun _ z => by cases z) (tr a _ z)]; exact z
      ·rw [nv a (nT a _ z fun _ z => by cases z) (tr a _ z)]; exact z
  refine ⟨.ref h'.objs.size,H',I.un (t':=tk) un ok,rfl,q h'.objs.size c' H' ⟨⟨(X.mg "__name__").getD .none,uK,by show H' _ = some _; rw [Q0,eo]⟩,⟨oc,vs,t,d_,hd,hv⟩,.inr ⟨c',oc,vs,t,by rw [Iu,QZ],d_,hd,hv⟩,fun b o h1 h2 => ?_⟩⟩
  rw [nv b h1 (tr b _ h2)]; exact h2
 ·have hT:s.heap.get? T = some (PySem.W.tabObj #[rawInt pos.line,rawInt pos.col,.ref c']):=I.bP T _ tb
  refine PySem.W.kla_makeFunctionHit (cv:=.ref c') A.cl I.ok.glob G A.code C hT trivial ?_ B fun uK h' tk hk hsz => ?_
  ·show codeAmong pos [rawInt pos.line,rawInt pos.col,.ref c'] = _
   unfold rawInt codeAmong
   rw [if_pos (by simp)]
  ·obtain ⟨ob,eo⟩:∃ ob,ob = PySem.W.kla_obj "<lambda>" L.qual L.params L.body L.scope [(L.x,c)] ((X.mg "__name__").getD .none) c' uK:=⟨_,rfl⟩
   have g:(h'.push ob).get? h'.objs.size = some ob:=Heap.get?_push_size _ (by rw [eo]; rfl)
   have nf:H h'.objs.size = none:=I.bP.fresh hsz
   have xf:H c' = some (.fN oc (.own 0)):=hc
   have e1:c' ≠ h'.objs.size:=fun z => by rw [z,nf] at xf; cases xf
   have Q1:∀ o,upd H h'.objs.size o c' = some (.fN oc (.own 0)):=fun o => by rw [aH e1]; exact xf
   have e2:T ≠ h'.objs.size:=fun z => by rw [z,nf] at tb; cases tb
   have J:=I.laid (a:=h'.objs.size) (o:=.fN ob (.own 0)) (t':=tk) (h':=h'.push ob) (fun b u e => Heap.get?_push_of_some _ (hk b u e)) hsz ⟨g,ob,g⟩
   rw [eo] at J
   refine ⟨.ref h'.objs.size,_,J,rfl,q _ c' _ ⟨⟨_,uK,bh⟩,⟨oc,vs,t,Q1 _,hd,hv⟩,.inr ⟨c',oc,vs,t,by rw [aH e2]; exact tb,Q1 _,hd,hv⟩,fun b o h1 h2 => ?_⟩⟩
   rw [aH (fun z => by rw [z,nf] at h2; cases h2)]; exact h2
end
end L2
namespace L2
open PySem PySem.Spec PyProof.Rows
theorem xx.mono {L:dQ} {H H':Hp} {f c c':Addr} {v:V} (C:xx L H f c c' v) (k:∀ b o u,H b = some (.fN o u) → H' b = some (.fN o u)):xx L H' f c c' v:=by
 obtain ⟨⟨pm,uK,h1⟩,⟨oc,vs,t,h2,h3⟩,⟨o2,u,h4,h5⟩⟩:=C
 exact ⟨⟨pm,uK,k _ _ _ h1⟩,⟨oc,vs,t,k _ _ _ h2,h3⟩,⟨o2,u,k _ _ _ h4,h5⟩⟩
noncomputable def XF:XK:=fun _ _ _ => False
section
variable {X:Cx} {L:dQ} {i:Nat} {x:Str} {f c c':Addr} {v:V} {k:Nat} {e:Expr} {es:List Expr} {t:TA} {p pos:Pos}
noncomputable def DW (X:Cx) (L:dQ) (f c c':Addr) (v:V) (vs:List V) (H:Hp) (Q:VK):Prop:=vs.length = L.ps.length ∧ ∀ s:Shared,∃ t',PE (pU X.prog X.w X.K X.mg X.base L f c c' X.A X.stack s H) L.body t' ∧ t' (vs.map some ++ [some v]) (hide H c) fun y H' => H' c = none → Q y (back H H' c)
theorem zj (LO:L.Ok) (hr:eh (k + 1) X.A) (hN:X.N[i]? = some x) (hk:X.env.scope.names.lookup x = some .local) (ha:PA X (e :: es) t) (mE:(x == ("__debug__":Str)) = false:=by decide)
  (he:starEach (e :: es) X.env = (false,eval e X.env) :: starEach es X.env:=by rfl) (jo:(backTo pos (starEach es X.env)).any (·.1) = false:=by rfl) :
  PE X (.Call (.Name x p) (e :: es) [] pos) (fun σ H Q => ∃ f c c' v,σ[i]? = some (some (.ref f)) ∧ xx L H f c c' v ∧ t σ H fun vs H1 => xx L H1 f c c' v ∧ DW X L f c c' v vs H1 Q):=by
 intro pins s σ H Q I h
 obtain ⟨f,c,c',v,h0,hC,h⟩:=h
 have Iv:∀ {pins:List (Addr × Obj)} {σ:St} {H:Hp} {s:Shared},Inv X pins σ H s → xx L H f c c' v → PySem.W.FnAt f s.heap:=fun J C => by
  obtain ⟨pm,uK,hf⟩:=C.fn
  exact ⟨_,_,_,_,(J.bP f _ hf).1⟩
 refine wpAny_Call_Name_kw ?_
 obtain ⟨m,hn,hl⟩:=I.loc
 obtain ⟨u,ru,l⟩:=hl i x _ hN h0 (.inl hk)
 cases ru
 rcases l with ⟨Km,hm⟩ | ⟨Km,_⟩
 ·refine wpAny_Name (wpAny_loadName_local I.ok.kind Km hn hm ?_) mE
  refine PySem.W.callWith_F (Iv I hC) (cV (ha pos pins s σ H _ I h) fun us s1 q1 => ?_) he jo
  obtain ⟨vs,H1,I1,r,Q2,vT,q⟩:=q1
  refine ⟨Iv I1 Q2,?_⟩
  refine wpAny_call (codeAny_mono (Ck (E:=XF) (Q:=Q) LO Q2 hr I1.E1 vT r (q s1)) fun r s' hq => ?_)
  cases r with
  | error e => obtain ⟨_,_,_,_,_,z⟩:=hq; exact z.elim
  | ok fl =>
   cases fl with
   | ret u => exact I1.after hq
   | next => exact False.elim hq
   | brk => exact False.elim hq
   | cont => exact False.elim hq
 ·have:X.env.kindOf x = some .local:=hk
  rw [this] at Km
  rcases Km with z | z <;> cases z
end
section
variable {P:Program} {w:World} {H H':Hp} {c:Addr} {o:Obj} {fs:List Addr} {h h':Heap}
theorem Cm (hn:H c = none) (gc:h.get? c = some o) (u:Un fs [] (upd H c (.fN o (.own 0))) H' h h') (Kl:gv P w H' h'):Un fs [] H (hide H' c) h h' ∧ gv P w (hide H' c) h':=by
 have fc:H' c = some (.fN o (.own 0)):=u.iF c o _ bh
 have Ip:h'.get? c = some o:=(Kl c _ fc).1
 have ne:∀ b x,H b = some x → b ≠ c:=fun b x q e => by rw [e,hn] at q; cases q
 refine ⟨⟨fun b ob q n hb _ => ?_,fun b ob q n hb _ => ?_,fun b ob q n _ => ?_,fun b ob q _ => u.there b ob q (by simp),fun b xs q => ?_,fun b ob x q => ?_,fun b ps q => ?_⟩,sG Kl fc fun _ _ z => z⟩
 ·by_cases e:b = c
  ·rw [e] at q ⊢
   rw [gc] at q
   cases q
   exact Ip
  ·exact u.keep b ob q (by rw [aH e]; exact n) hb (by simp)
 ·by_cases e:b = c
  ·rw [e] at q ⊢
   rw [gc] at q
   cases q
   exact ⟨o.slots,Ip⟩
  ·exact u.slot b ob q (by rw [aH e]; exact n) hb (by simp)
 ·by_cases e:b = c
  ·rw [e]; exact hide_self
  ·rw [hide_ne e]
   exact u.free b ob q (by rw [aH e]; exact n) (by simp)
 ·rw [hide_ne (ne b _ q)]
  exact u.jv b xs (by rw [aH (ne b _ q)]; exact q)
 ·rw [hide_ne (ne b _ q)]
  exact u.iF b ob x (by rw [aH (ne b _ q)]; exact q)
 ·rw [hide_ne (ne b _ q)]
  exact u.jw b ps (by rw [aH (ne b _ q)]; exact q)
end
section
variable {X:Cx} {CX:yK} {k:Nat} {f:Addr} {fd:FuncData} {ps:List Str} {sp:Sp} {x y:Str} {i:Nat} {c:Addr} {p pos:Pos} {e:Expr} {es:List Expr} {t:TA}
theorem zl (F:jQ X.prog X.w X.K X.mg X.base (iJ X.prog X.w) k f fd ps sp) (hr:eh k X.A) (hg:Gl X x) (hm:X.mg x = some (.ref f)) (hk:PySem.W.keepIn X.K (.ref f) = true) (hb:Binds X.K fd ps [])
  (hN:X.N[i]? = some y) (hy:X.env.scope.names.lookup y = some .cell) (hc:X.env.cells.lookup y = some c) (Em:X.fn y = true)
  (ha:PA X (e :: es) t) (mE:(x == ("__debug__":Str)) = false:=by decide) (he:starEach (e :: es) X.env = (false,eval e X.env) :: starEach es X.env:=by rfl) (jo:(backTo pos (starEach es X.env)).any (·.1) = false:=by rfl) :
  PE X (.Call (.Name x p) (e :: es) [] pos) (fun σ H Q => t σ H fun vs H1 => ∃ v,σ[i]? = some (some v) ∧ ∀ oc u,oc.data = .cell (some u) → RelV v u → H1 c = none → sp vs (upd H1 c (.fN oc (.own 0))) (fun z H2 => Q z (hide H2 c)) XF):=by
 intro pins s σ H Q I h
 refine wpAny_Call_Name_kw (m7 I hg hm ?_ mE)
 refine PySem.W.callWith_K (h₀:=X.base) I.ok.mod.GV hk (cV (ha pos pins s σ H _ I h) fun us s1 q1 => ?_) he jo
 obtain ⟨vs,H1,I1,r,v,hv,q⟩:=q1
 refine ⟨I1.pI,?_⟩
 obtain ⟨m,hn,hl⟩:=I1.loc
 obtain ⟨u,ru,l⟩:=hl i y v hN hv (.inr (.inl hy))
 have SH:X.env.kindOf y = some .cell:=hy
 rcases l with ⟨z,_⟩ | ⟨_,c2,xf,vI⟩
 ·rw [SH] at z; cases z
 rw [hc] at xf
 cases xf
 obtain ⟨oc,go,od⟩:=vI
 have nH:H1 c = none:=I1.jN y c hc
 have Ek:X.s₀.heap.objs.size ≤ c:=I1.ok.Ek y c Em hc
 have e0:=I1.E1
 have nb:∀ b o,X.base.get? b = some o → b ≠ c:=fun b o e z => by
  have:=Heap.lt_size e
  have h2:=I1.ok.DC
  rw [z] at this
  exact absurd (Nat.lt_of_lt_of_le this h2) (Nat.not_lt.mpr Ek)
 have nf:∀ b ∈ gx X.stack,b ≠ c:=fun b hb z => by
  rcases List.mem_cons.mp (I1.ny b hb) with q | q
  ·exact I1.DD y c hc (z.symm.trans q)
  ·have h2:=I1.ok.mB.mem q
   obtain ⟨_,o',nv,_⟩:=h2
   have h3:=Heap.lt_size nv
   rw [z] at h3
   exact absurd h3 (Nat.not_lt.mpr Ek)
 have e1:uB X.prog X.w X.K X.mg X.base X.A X.stack s1 (upd H1 c (.fN oc (.own 0))):=by
  refine ⟨e0.frames,e0.mod,fun b o e => ⟨(e0.bs b o e).1,by rw [aH (nb b o e)]; exact (e0.bs b o e).2⟩,e0.DC,e0.mB,fun b hb => by rw [aH (nf b hb)]; exact e0.Bz b hb,fun b x q => ?_,e0.bare⟩
  by_cases z:b = c
  ·rw [z,bh] at q
   cases q
   rw [z]
   exact ⟨go,oc,go⟩
  ·rw [aH z] at q
   have nn:∀ a x,H1 a = some x → a ≠ c:=fun a x w e => by rw [e,nH] at w; cases w
   exact (e0.bP b x q).jM (fun _ _ _ w => w) (fun a w => by rw [aH (nn a _ w)]; exact w) fun a xs w => by rw [aH (nn a _ w)]; exact w
 have hs:=q oc u od ru nH
 have vN:us.length = ps.length:=by rw [← r.length]; exact F.len _ _ _ _ hs
 have Q3:=hb s1 us I1.pI (by rw [List.append_nil]; exact vN)
 rw [List.append_nil] at Q3
 refine wpAny_call (codeAny_mono (F.run X.A X.stack s1 _ ⟨us,[]⟩ us vs _ XF hr e1 Q3 r hs) fun r s' hq => ?_)
 cases r with
 | error e => obtain ⟨_,_,_,_,_,z⟩:=hq; exact z.elim
 | ok fl =>
  cases fl with
  | ret u =>
   obtain ⟨v',H',os,bare,un,bP,rv,qv⟩:=hq
   obtain ⟨Iw,SI⟩:=Cm nH go un bP
   exact I1.after ⟨v',hide H' c,os,bare,Iw,SI,rv,qv⟩
  | next => exact False.elim hq
  | brk => exact False.elim hq
  | cont => exact False.elim hq
end
end L2
namespace MN
open PySem PySem.Spec L2
open PyProof.Rows hiding St
inductive Val where
 | e7 | bl (b:Bool) | int (i:Int) | str (x:Str) | tup (vs:List Val) | loc (n:Nat) | exc (c:Str) | fn (L:dQ) (u:Val) | mt (vs:List Val)
inductive Cell where
 | lst (vs:List Val) | DX (vs:List Val) | mod (vs:List Val) | dK (aO:List (Key × Val)) | dT (aO:List (List Key × Val)) | tab (x:Str) (line col:Nat) (qual:Str)
noncomputable abbrev ai:=List Cell
noncomputable abbrev Env:=List (Option Val)
inductive Res (α:Type) where
 | ok (a:α) (st:ai) | err (c:Str) (st:ai) | bad
inductive dk where
 | nx (μ:Env) (st:ai) | rt (v:Val) (st:ai) | bk (μ:Env) (st:ai) | ct (μ:Env) (st:ai) | er (c:Str) (μ:Env) (st:ai) | bad
@[reducible] def Res.bind {α β:Type} (r:Res α) (k:α → ai → Res β):Res β:=match r with
 | .ok a st => k a st
 | .err c st => .err c st
 | .bad => .bad
structure Wo where
 K:PySem.W.Frag
 mg:Str → Option Value
 pn:List (Addr × Obj)
noncomputable abbrev wo (X:Cx):Wo:=⟨X.K,X.mg,X.pn⟩
mutual
noncomputable def Rl (K:PySem.W.Frag) (ρ:List Addr) (H:Hp):Val → V → Prop
 | .e7,v => v = .e7
 | .bl b,v => v = .bl b
 | .int i,v => v = .int i
 | .str x,v => v = .str x
 | .tup us,v => ∃ a vs,v = .ref a ∧ H a = some (.tup vs) ∧ aW K ρ H us vs
 | .mt us,v => ∃ a vs,v = .ref a ∧ jd K H a vs ∧ aW K ρ H us vs
 | .loc n,v => ∃ a,v = .ref a ∧ ρ[n]? = some a
 | .exc _,_ => False
 | .fn _ _,_ => False
noncomputable def aW (K:PySem.W.Frag) (ρ:List Addr) (H:Hp):List Val → List V → Prop
 | [],vs => vs = []
 | u :: us,vs => ∃ v r,vs = v :: r ∧ Rl K ρ H u v ∧ aW K ρ H us r
end
structure Step (ρ:List Addr) (H:Hp) (ρ':List Addr) (H':Hp):Prop where
 pre:ρ <+: ρ'
 tup:∀ b xs,H b = some (.tup xs) → H' b = some (.tup xs)
 fN:∀ b o u,H b = some (.fN o u) → H' b = some (.fN o u)
theorem Step.refl (ρ:List Addr) (H:Hp):Step ρ H ρ H:=⟨List.prefix_refl ρ,fun _ _ h => h,fun _ _ _ h => h⟩
theorem Step.trans {ρ ρ1 ρ2:List Addr} {H H1 H2:Hp} (a:Step ρ H ρ1 H1) (b:Step ρ1 H1 ρ2 H2):Step ρ H ρ2 H2 :=
 ⟨a.pre.trans b.pre,fun _ _ h => b.tup _ _ (a.tup _ _ h),fun _ _ _ h => b.fN _ _ _ (a.fN _ _ _ h)⟩
theorem Step.same {ρ:List Addr} {H H':Hp} (e:jx H H'):Step ρ H ρ H':=⟨List.prefix_refl ρ,fun _ _ h => e _ _ h,fun _ _ _ h => e _ _ h⟩
theorem Step.snoc {ρ:List Addr} {H H':Hp} (p:Addr) (e:jx H H'):Step ρ H (ρ ++ [p]) H':=⟨List.prefix_append ρ [p],fun _ _ h => e _ _ h,fun _ _ _ h => e _ _ h⟩
theorem Step.at_ {ρ ρ':List Addr} {H H':Hp} (e:Step ρ H ρ' H') {n:Nat} {a:Addr} (h:ρ[n]? = some a):ρ'[n]? = some a:=by
 obtain ⟨t,rfl⟩:=e.pre
 have hl:n < ρ.length:=by
  rcases Nat.lt_or_ge n ρ.length with q | q
  ·exact q
  ·rw [List.getElem?_eq_none q] at h; cases h
 rw [List.getElem?_append_left hl,h]
theorem Step.L3 {K:PySem.W.Frag} {ρ ρ':List Addr} {H H':Hp} (e:Step ρ H ρ' H') {a:Addr} {xs:List V} (h:jd K H a xs):jd K H' a xs:=by
 rcases h with (h | ⟨o,h⟩) | h
 ·exact .inl (.inl (e.tup _ _ h))
 ·exact .inl (.inr ⟨o,e.fN _ _ _ h⟩)
 ·exact .inr h
mutual
theorem Rl.mono {K:PySem.W.Frag} {ρ ρ':List Addr} {H H':Hp} (e:Step ρ H ρ' H'):∀ (u:Val) (v:V),Rl K ρ H u v → Rl K ρ' H' u v
 | .e7,_,h => h
 | .bl _,_,h => h
 | .int _,_,h => h
 | .str _,_,h => h
 | .tup us,v,h => by
  unfold Rl at h ⊢
  obtain ⟨a,vs,h1,h2,h3⟩:=h
  exact ⟨a,vs,h1,e.tup _ _ h2,aW.mono e us vs h3⟩
 | .mt us,v,h => by
  unfold Rl at h ⊢
  obtain ⟨a,vs,h1,h2,h3⟩:=h
  exact ⟨a,vs,h1,e.L3 h2,aW.mono e us vs h3⟩
 | .loc n,v,h => by
  unfold Rl at h ⊢
  obtain ⟨a,h1,h2⟩:=h
  exact ⟨a,h1,e.at_ h2⟩
 | .exc c,v,h => h
 | .fn _ _,_,h => h
theorem aW.mono {K:PySem.W.Frag} {ρ ρ':List Addr} {H H':Hp} (e:Step ρ H ρ' H'):∀ (us:List Val) (vs:List V),aW K ρ H us vs → aW K ρ' H' us vs
 | [],_,h => h
 | u :: us,vs,h => by
  unfold aW at h ⊢
  obtain ⟨v,r,h1,h2,h3⟩:=h
  exact ⟨v,r,h1,Rl.mono e u v h2,aW.mono e us r h3⟩
end
section
variable {K:PySem.W.Frag} {ρ ρ':List Addr} {H H':Hp}
theorem aW.nil:aW K ρ H [] []:=by unfold aW; rfl
theorem aW.cons {u:Val} {us:List Val} {v:V} {vs:List V} (h:Rl K ρ H u v) (hs:aW K ρ H us vs):aW K ρ H (u :: us) (v :: vs):=by
 unfold aW; exact ⟨v,vs,rfl,h,hs⟩
theorem aW.cH {u:Val} {us:List Val} {vs:List V} (h:aW K ρ H (u :: us) vs):∃ v r,vs = v :: r ∧ Rl K ρ H u v ∧ aW K ρ H us r:=by
 unfold aW at h; exact h
theorem aW.fD {vs:List V} (h:aW K ρ H [] vs):vs = []:=by unfold aW at h; exact h
theorem aW.length:∀ {us:List Val} {vs:List V},aW K ρ H us vs → us.length = vs.length
 | [],vs,h => by rw [h.fD]; rfl
 | u :: us,vs,h => by
  obtain ⟨v,r,rfl,_,h3⟩:=h.cH
  rw [List.length_cons,List.length_cons,h3.length]
theorem aW.get:∀ {us:List Val} {vs:List V} {i:Nat} {u:Val},aW K ρ H us vs → us[i]? = some u → ∃ v,vs[i]? = some v ∧ Rl K ρ H u v
 | [],_,_,_,_,e => by cases e
 | w :: us,vs,0,u,h,e => by
  obtain ⟨v,r,rfl,h2,_⟩:=h.cH
  cases e
  exact ⟨v,rfl,h2⟩
 | w :: us,vs,i + 1,u,h,e => by
  obtain ⟨v,r,rfl,_,h3⟩:=h.cH
  exact aW.get (i:=i) h3 e
theorem aW.append:∀ {us ws:List Val} {vs xs:List V},aW K ρ H us vs → aW K ρ H ws xs → aW K ρ H (us ++ ws) (vs ++ xs)
 | [],_,vs,_,h,k => by rw [h.fD]; exact k
 | u :: us,ws,vs,xs,h,k => by
  obtain ⟨v,r,rfl,h2,h3⟩:=h.cH
  exact aW.cons h2 (h3.append k)
theorem aW.drop:∀ (n:Nat) {us:List Val} {vs:List V},aW K ρ H us vs → aW K ρ H (us.drop n) (vs.drop n)
 | 0,_,_,h => h
 | _ + 1,[],vs,h => by rw [h.fD]; exact aW.nil
 | n + 1,u :: us,vs,h => by
  obtain ⟨v,r,rfl,h2,h3⟩:=h.cH
  exact aW.drop n h3
theorem aW.take:∀ (n:Nat) {us:List Val} {vs:List V},aW K ρ H us vs → aW K ρ H (us.take n) (vs.take n)
 | 0,_,_,_ => aW.nil
 | _ + 1,[],vs,h => by rw [h.fD]; exact aW.nil
 | n + 1,u :: us,vs,h => by
  obtain ⟨v,r,rfl,h2,h3⟩:=h.cH
  exact aW.cons h2 (aW.take n h3)
theorem aW.set {u:Val} {v:V} (hu:Rl K ρ H u v):∀ (n:Nat) {us:List Val} {vs:List V},aW K ρ H us vs → aW K ρ H (us.set n u) (vs.set n v)
 | _,[],vs,h => by rw [h.fD]; exact aW.nil
 | 0,w :: us,vs,h => by
  obtain ⟨x,r,rfl,h2,h3⟩:=h.cH
  exact aW.cons hu h3
 | n + 1,w :: us,vs,h => by
  obtain ⟨x,r,rfl,h2,h3⟩:=h.cH
  exact aW.cons h2 (aW.set hu n h3)
theorem aW.one {u:Val} {v:V} (h:Rl K ρ H u v):aW K ρ H [u] [v]:=aW.cons h aW.nil
theorem aW.yw {u:Val} {vs:List V} (h:aW K ρ H [u] vs):∃ v,vs = [v] ∧ Rl K ρ H u v:=by
 obtain ⟨v,r,rfl,h2,h3⟩:=h.cH
 rw [h3.fD]
 exact ⟨v,rfl,h2⟩
theorem aW.Iw {u w:Val} {vs:List V} (h:aW K ρ H [u,w] vs):∃ v x,vs = [v,x] ∧ Rl K ρ H u v ∧ Rl K ρ H w x:=by
 obtain ⟨v,r,rfl,h2,h3⟩:=h.cH
 obtain ⟨x,rfl,h4⟩:=h3.yw
 exact ⟨v,x,rfl,h2,h4⟩
theorem aW.ints:∀ (ns:List Int),aW K ρ H (ns.map Val.int) (ns.map V.int)
 | [] => aW.nil
 | n :: ns => aW.cons (by unfold Rl; rfl) (aW.ints ns)
theorem Rl.cz {i:Int} {v:V} (h:Rl K ρ H (.int i) v):v = .int i:=by unfold Rl at h; exact h
theorem Rl.qV {b:Bool} {v:V} (h:Rl K ρ H (.bl b) v):v = .bl b:=by unfold Rl at h; exact h
theorem Rl.iL {x:Str} {v:V} (h:Rl K ρ H (.str x) v):v = .str x:=by unfold Rl at h; exact h
theorem Rl.nP {v:V} (h:Rl K ρ H .e7 v):v = .e7:=by unfold Rl at h; exact h
theorem Rl.Iy {us:List Val} {v:V} (h:Rl K ρ H (.tup us) v):∃ a vs,v = .ref a ∧ H a = some (.tup vs) ∧ aW K ρ H us vs:=by unfold Rl at h; exact h
theorem Rl.gw {us:List Val} {v:V} (h:Rl K ρ H (.tup us) v):∃ a vs,v = .ref a ∧ jd K H a vs ∧ aW K ρ H us vs:=let ⟨a,vs,h1,h2,h3⟩:=h.Iy; ⟨a,vs,h1,jd.of h2,h3⟩
theorem Rl.Q4 {us:List Val} {v:V} (h:Rl K ρ H (.mt us) v):∃ a vs,v = .ref a ∧ jd K H a vs ∧ aW K ρ H us vs:=by unfold Rl at h; exact h
theorem Rl.L4 {us:List Val} {a:Addr} {vs:List V} (h:jd K H a vs) (r:aW K ρ H us vs):Rl K ρ H (.mt us) (.ref a):=by unfold Rl; exact ⟨a,vs,rfl,h,r⟩
theorem Rl.eR {n:Nat} {v:V} (h:Rl K ρ H (.loc n) v):∃ a,v = .ref a ∧ ρ[n]? = some a:=by unfold Rl at h; exact h
theorem Rl.mkInt (i:Int):Rl K ρ H (.int i) (.int i):=by unfold Rl; rfl
theorem Rl.zo (b:Bool):Rl K ρ H (.bl b) (.bl b):=by unfold Rl; rfl
theorem Rl.mkStr (x:Str):Rl K ρ H (.str x) (.str x):=by unfold Rl; rfl
theorem Rl.vW:Rl K ρ H .e7 .e7:=by unfold Rl; rfl
theorem Rl.pV {us:List Val} {a:Addr} {vs:List V} (h:H a = some (.tup vs)) (r:aW K ρ H us vs):Rl K ρ H (.tup us) (.ref a):=by unfold Rl; exact ⟨a,vs,rfl,h,r⟩
theorem Rl.zq {n:Nat} {a:Addr} (h:ρ[n]? = some a):Rl K ρ H (.loc n) (.ref a):=by unfold Rl; exact ⟨a,rfl,h⟩
end
noncomputable def gS {κ:Type} (K:PySem.W.Frag) (ρ:List Addr) (H:Hp) (aO:List (κ × Val)) (je:List (κ × V)):Prop:=aO.map (·.1) = je.map (·.1) ∧ aW K ρ H (aO.map (·.2)) (je.map (·.2))
noncomputable def iw:Option Cell → Bool
 | some (.mod _) => true
 | _ => false
noncomputable def L5 (K:PySem.W.Frag) (a:Addr) (vs:List V):Prop:=∃ (o:Obj) (aL:Array Value) (n:Nat),K.lookup a = some o ∧ o.cls = .type "list" ∧ o.dict = none ∧ o.data = .seq aL n ∧ aL.size ≤ sizeLine ∧ Vals vs aL.toList
noncomputable def eG (K:PySem.W.Frag) (ρ:List Addr) (H:Hp):Cell → Addr → Prop
 | .lst us,a => ∃ vs,H a = some (.lst vs) ∧ aW K ρ H us vs
 | .DX us,a => ∃ o vs,H a = some (.fN o (.lst vs)) ∧ aW K ρ H us vs
 | .mod us,a => ∃ vs,L5 K a vs ∧ aW K ρ H us vs
 | .dK aO,a => ∃ je,H a = some (.dK je) ∧ gS K ρ H aO je
 | .dT aO,a => ∃ je,H a = some (.dT je) ∧ gS K ρ H aO je
 | .tab x l c q,a => (∃ cd,PySem.W.tabIn K x = some (cd,a)) ∧ Tab H a l c q
structure SR (K:PySem.W.Frag) (ρ:List Addr) (st:ai) (H:Hp):Prop where
 len:ρ.length = st.length
 nd:∀ (n m:Nat) a,ρ[n]? = some a → ρ[m]? = some a → iw st[n]? = false → iw st[m]? = false → n = m
 cell:∀ (n:Nat) c a,st[n]? = some c → ρ[n]? = some a → eG K ρ H c a
theorem eS {α:Type} {l:List α} {n:Nat} {x:α} (h:l[n]? = some x):n < l.length:=by
 rcases Nat.lt_or_ge n l.length with q | q
 ·exact q
 ·rw [List.getElem?_eq_none q] at h; cases h
section
variable {K:PySem.W.Frag} {ρ ρ':List Addr} {H H':Hp} {st:ai}
theorem eG.there {c:Cell} {a:Addr} (h:eG K ρ H c a) (hn:iw (some c) = false):∃ o,H a = some o ∧ ∀ xs,o ≠ .tup xs:=by
 cases c with
 | lst us => obtain ⟨vs,h,_⟩:=h; exact ⟨_,h,fun xs e => by cases e⟩
 | DX us => obtain ⟨o,vs,h,_⟩:=h; exact ⟨_,h,fun xs e => by cases e⟩
 | mod us => cases hn
 | dK aO => obtain ⟨vs,h,_⟩:=h; exact ⟨_,h,fun xs e => by cases e⟩
 | dT aO => obtain ⟨vs,h,_⟩:=h; exact ⟨_,h,fun xs e => by cases e⟩
 | tab x l c q => rcases h.2 with h | ⟨_,_,_,_,h,_⟩ <;> exact ⟨_,h,fun xs e => by cases e⟩
theorem eG.mono {c:Cell} {a:Addr} (h:eG K ρ H c a) (e:Step ρ H ρ' H') (ha:iw (some c) = true ∨ H' a = H a):eG K ρ' H' c a:=by
 cases c with
 | mod us => obtain ⟨vs,h,r⟩:=h; exact ⟨vs,h,aW.mono e _ _ r⟩
 | lst us => rcases ha with ha | ha <;> first | cases ha; done | (obtain ⟨vs,h,r⟩:=h; exact ⟨vs,ha.trans h,aW.mono e _ _ r⟩)
 | DX us => rcases ha with ha | ha <;> first | cases ha; done | (obtain ⟨o,vs,h,r⟩:=h; exact ⟨o,vs,ha.trans h,aW.mono e _ _ r⟩)
 | dK aO => rcases ha with ha | ha <;> first | cases ha; done | (obtain ⟨vs,h,r⟩:=h; exact ⟨vs,ha.trans h,r.1,aW.mono e _ _ r.2⟩)
 | dT aO => rcases ha with ha | ha <;> first | cases ha; done | (obtain ⟨vs,h,r⟩:=h; exact ⟨vs,ha.trans h,r.1,aW.mono e _ _ r.2⟩)
 | tab x l c q =>
  refine ⟨h.1,?_⟩
  rcases ha with ha | ha
  ·cases ha
  ·rcases h.2 with h | ⟨c',oc,vs,t,h,h2,h3⟩
   ·exact .inl (ha.trans h)
   ·exact .inr ⟨c',oc,vs,t,ha.trans h,e.fN _ _ _ h2,h3⟩
theorem eG.grow {c:Cell} {a:Addr} (h:eG K ρ H c a) (e:Step ρ H ρ' H') (s:jx H H'):eG K ρ' H' c a:=by
 cases z:iw (some c) with
 | true => exact h.mono e (.inl z)
 | false =>
  obtain ⟨o,ho,_⟩:=h.there z
  exact h.mono e (.inr (by rw [ho]; exact s _ _ ho))
theorem SR.there (s:SR K ρ st H) {n:Nat} {a:Addr} (h:ρ[n]? = some a):∃ c,st[n]? = some c ∧ eG K ρ H c a:=by
 have hn:=eS h
 have El:n < st.length:=by rw [← s.len]; exact hn
 exact ⟨st[n],List.getElem?_eq_getElem El,s.cell n _ a (List.getElem?_eq_getElem El) h⟩
theorem SR.addr (s:SR K ρ st H) {n:Nat} {c:Cell} (h:st[n]? = some c):∃ a,ρ[n]? = some a ∧ eG K ρ H c a:=by
 have hn:=eS h
 have El:n < ρ.length:=by rw [s.len]; exact hn
 exact ⟨ρ[n],List.getElem?_eq_getElem El,s.cell n c _ h (List.getElem?_eq_getElem El)⟩
theorem SR.grow (s:SR K ρ st H) (e:jx H H'):SR K ρ st H' :=
 ⟨s.len,s.nd,fun n c a h1 h2 => (s.cell n c a h1 h2).grow (Step.same e) e⟩
theorem SR.DY (s:SR K ρ st H) {p:Addr} (hp:H p = none) {n:Nat} (h:ρ[n]? = some p) (hm:iw st[n]? = false):False:=by
 obtain ⟨c,hc,k⟩:=s.there h
 rw [hc] at hm
 obtain ⟨o,ho,_⟩:=k.there hm
 rw [hp] at ho
 cases ho
theorem dG {p:Addr} {o:HO} (hp:H p = none):jx H (upd H p o):=jx.upd (jx.refl H) hp
theorem SR.alloc (s:SR K ρ st H) {p:Addr} {o:HO} {c:Cell} (hp:H p = none) (k:eG K (ρ ++ [p]) (upd H p o) c p):SR K (ρ ++ [p]) (st ++ [c]) (upd H p o):=by
 have e:jx H (upd H p o):=dG hp
 have at_:∀ (n:Nat) (a:Addr),(ρ ++ [p])[n]? = some a → (n < st.length ∧ ρ[n]? = some a ∧ (st ++ [c])[n]? = st[n]?) ∨ (n = st.length ∧ a = p ∧ (st ++ [c])[n]? = some c):=by
  intro n a h
  rcases Nat.lt_trichotomy n st.length with q | q | q
  ·rw [List.getElem?_append_left (by rw [s.len]; exact q)] at h
   exact .inl ⟨q,h,List.getElem?_append_left q⟩
  ·subst q
   rw [List.getElem?_append_right (by rw [s.len]; exact Nat.le_refl _),s.len,Nat.sub_self] at h
   cases h
   refine .inr ⟨rfl,rfl,?_⟩
   rw [List.getElem?_append_right (Nat.le_refl _),Nat.sub_self]; rfl
  ·rw [List.getElem?_eq_none (by rw [List.length_append,List.length_singleton,s.len]; lia)] at h
   cases h
 refine ⟨by rw [List.length_append,List.length_append,s.len]; rfl,fun n m a h1 h2 m1 m2 => ?_,fun n c' a h1 h2 => ?_⟩
 ·rcases at_ n a h1 with ⟨q1,q2,q3⟩ | ⟨q1,q2,q3⟩ <;> rcases at_ m a h2 with ⟨r1,r2,r3⟩ | ⟨r1,r2,r3⟩
  ·rw [q3] at m1; rw [r3] at m2; exact s.nd n m a q2 r2 m1 m2
  ·subst r2; rw [q3] at m1; exact (s.DY hp q2 m1).elim
  ·subst q2; rw [r3] at m2; exact (s.DY hp r2 m2).elim
  ·rw [q1,r1]
 ·rcases at_ n a h2 with ⟨q1,q2,q3⟩ | ⟨q1,q2,q3⟩
  ·rw [q3] at h1
   exact (s.cell n c' a h1 q2).grow (Step.snoc p e) e
  ·rw [q3] at h1
   cases h1
   subst q2
   exact k
theorem Step.put {a:Addr} {o o':HO} (h:H a = some o) (h1:∀ xs,o ≠ .tup xs) (h2:∀ x u,o ≠ .fN x u):Step ρ H ρ (upd H a o'):=by
 refine ⟨List.prefix_refl ρ,fun b xs e => ?_,fun b x u e => ?_⟩
 ·rw [aH (fun z => ?_)]
  ·exact e
  ·subst z; rw [h] at e; exact h1 _ (Option.some.inj e)
 ·rw [aH (fun z => ?_)]
  ·exact e
  ·subst z; rw [h] at e; exact h2 _ _ (Option.some.inj e)
theorem SR.set (s:SR K ρ st H) {n:Nat} {a:Addr} {o o':HO} {c c':Cell} (h:st[n]? = some c) (hc:iw (some c) = false) (d_:iw (some c') = false) (ha:ρ[n]? = some a) (ho:H a = some o) (h1:∀ xs,o ≠ .tup xs) (h2:∀ x u,o ≠ .fN x u)
  (k:eG K ρ (upd H a o') c' a):SR K ρ (st.set n c') (upd H a o'):=by
 have hn:n < st.length:=eS h
 have at_:∀ (m:Nat),iw (st.set n c')[m]? = iw st[m]?:=fun m => by
  by_cases z:m = n
  ·subst z; rw [List.getElem?_set_self hn,h,hc,d_]
  ·rw [List.getElem?_set_ne (fun y => z y.symm)]
 refine ⟨by rw [List.length_set]; exact s.len,fun i m b q1 q2 m1 m2 => s.nd i m b q1 q2 (by rw [← at_]; exact m1) (by rw [← at_]; exact m2),fun m d b q1 q2 => ?_⟩
 by_cases z:m = n
 ·subst z
  rw [ha] at q2
  cases q2
  rw [List.getElem?_set_self hn] at q1
  cases q1
  exact k
 ·rw [List.getElem?_set_ne (fun y => z y.symm)] at q1
  have kb:=s.cell m d b q1 q2
  cases zm:iw (some d) with
  | true => exact kb.mono (Step.put ho h1 h2) (.inl zm)
  | false =>
   have hb:b ≠ a:=fun y => z (s.nd m n a (by rw [← y]; exact q2) ha (by rw [q1]; exact zm) (by rw [h]; exact hc))
   exact kb.mono (Step.put ho h1 h2) (.inr (aH hb))
end
noncomputable def vX (W:Wo) (ρ:List Addr) (H:Hp) (u:Val) (v:V):Prop:=match u with
 | .exc c => ∃ a oe C,v = .ref a ∧ (a,oe) ∈ W.pn ∧ W.mg c = some (.ref C) ∧ oe.cls = .ref C
 | .fn L u => ∃ f c c' cv,v = .ref f ∧ xx L H f c c' cv ∧ Rl W.K ρ H u cv
 | u => Rl W.K ρ H u v
theorem vX.mono {W:Wo} {ρ ρ':List Addr} {H H':Hp} {u:Val} {v:V} (h:vX W ρ H u v) (e:Step ρ H ρ' H'):vX W ρ' H' u v:=by
 cases u with
 | exc c => exact h
 | fn L u => obtain ⟨f,c,c',cv,h1,C,r⟩:=h; exact ⟨f,c,c',cv,h1,C.mono (fun b o u q => e.fN b o u q),Rl.mono e _ _ r⟩
 | _ => exact Rl.mono e _ _ h
theorem vX.of {W:Wo} {ρ:List Addr} {H:Hp} {u:Val} {v:V} (h:Rl W.K ρ H u v):vX W ρ H u v:=by
 cases u with
 | exc c => unfold Rl at h; exact h.elim
 | fn L u => unfold Rl at h; exact h.elim
 | _ => exact h
structure RS (W:Wo) (ρ:List Addr) (H:Hp) (μ:Env) (σ:St):Prop where
 len:μ.length = σ.length
 at_:∀ (i:Nat) u,μ[i]? = some (some u) → ∃ v,σ[i]? = some (some v) ∧ vX W ρ H u v
section
variable {W:Wo} {ρ ρ':List Addr} {H H':Hp} {μ:Env} {σ:St}
theorem RS.mono (r:RS W ρ H μ σ) (e:Step ρ H ρ' H'):RS W ρ' H' μ σ:=⟨r.len,fun i u h => let ⟨v,h1,h2⟩:=r.at_ i u h; ⟨v,h1,h2.mono e⟩⟩
theorem RS.L6 (r:RS W ρ H μ σ) (i:Nat) {u:Val} {v:V} (h:vX W ρ H u v):RS W ρ H (μ.set i (some u)) (σ.set i (some v)):=by
 refine ⟨by rw [List.length_set,List.length_set]; exact r.len,fun j w e => ?_⟩
 by_cases z:j = i
 ·subst z
  have hj:=eS e
  rw [List.length_set] at hj
  rw [List.getElem?_set_self hj] at e
  cases e
  exact ⟨v,List.getElem?_set_self (by rw [← r.len]; exact hj),h⟩
 ·rw [List.getElem?_set_ne (fun y => z y.symm)] at e ⊢
  exact r.at_ j w e
theorem RS.set (r:RS W ρ H μ σ) (i:Nat) {u:Val} {v:V} (h:Rl W.K ρ H u v):RS W ρ H (μ.set i (some u)) (σ.set i (some v)):=r.L6 i (vX.of h)
end
end MN
namespace MN
open PySem PySem.Spec L2
open PyProof.Rows hiding St
noncomputable abbrev ME:=Env → ai → Res Val
noncomputable abbrev MT:=Env → ai → Res Bool
noncomputable abbrev MA:=Env → ai → Res (List Val)
noncomputable abbrev MB:=Env → ai → dk
noncomputable def wR {α β:Type} (W:Wo) (E:XK) (R:List Addr → Hp → α → β → Prop) (ρ:List Addr) (H:Hp) (Q:β → Hp → Prop):Res α → Prop
 | .ok u aw => ∀ ρ' H' v,Step ρ H ρ' H' → SR W.K ρ' aw H' → R ρ' H' u v → Q v H'
 | .err c aw => ∃ C,W.mg c = some (.ref C) ∧ ∀ ρ' H',Step ρ H ρ' H' → SR W.K ρ' aw H' → E (.ref C) none H'
 | .bad => False
theorem wR.mono {α β:Type} {W:Wo} {E:XK} {R:List Addr → Hp → α → β → Prop} {ρ ρ':List Addr} {H H':Hp} {Q:β → Hp → Prop} {r:Res α} (h:wR W E R ρ H Q r) (e:Step ρ H ρ' H'):wR W E R ρ' H' Q r:=by
 cases r with
 | ok u st => exact fun ρ2 H2 v e2 s r => h ρ2 H2 v (e.trans e2) s r
 | err c st => obtain ⟨C,h1,h2⟩:=h; exact ⟨C,h1,fun ρ2 H2 e2 s => h2 ρ2 H2 (e.trans e2) s⟩
 | bad => exact h
theorem wR.pn {α β:Type} {K:PySem.W.Frag} {mg:Str → Option Value} {pn SJ:List (Addr × Obj)} {E:XK} {R:List Addr → Hp → α → β → Prop} {ρ:List Addr} {H:Hp} {Q:β → Hp → Prop} {r:Res α} (h:wR ⟨K,mg,pn⟩ E R ρ H Q r):wR ⟨K,mg,SJ⟩ E R ρ H Q r:=by
 cases r <;> exact h
noncomputable def tG {α β:Type} (W:Wo) (E:XK) (R:List Addr → Hp → α → β → Prop) (m:Env → ai → Res α):St → Hp → (β → Hp → Prop) → Prop :=
 fun σ H Q => ∃ μ ρ st,RS W ρ H μ σ ∧ SR W.K ρ st H ∧ wR W E R ρ H Q (m μ st)
noncomputable abbrev RB:List Addr → Hp → Bool → Bool → Prop:=fun _ _ b c => c = b
noncomputable abbrev tE (X:Cx) (E:XK) (m:ME):TE:=tG (wo X) E (Rl X.K) m
noncomputable abbrev tT (X:Cx) (E:XK) (m:MT):TT:=tG (wo X) E RB m
noncomputable abbrev tL (X:Cx) (E:XK) (m:MA):TA:=tG (wo X) E (aW X.K) m
theorem go {α β γ δ:Type} {W:Wo} {E:XK} {R1:List Addr → Hp → α → β → Prop} {R2:List Addr → Hp → γ → δ → Prop} {m:Env → ai → Res α} {k:α → ai → Res γ} {σ:St} {H:Hp} {Q:δ → Hp → Prop} {Q':β → Hp → Prop}
  (μ:Env) (ρ:List Addr) (st:ai) (rs:RS W ρ H μ σ) (sr:SR W.K ρ st H) (h:wR W E R2 ρ H Q ((m μ st).bind k))
  (c:∀ u aX ρ1 H1 x,Step ρ H ρ1 H1 → SR W.K ρ1 aX H1 → R1 ρ1 H1 u x → wR W E R2 ρ1 H1 Q (k u aX) → Q' x H1):tG W E R1 m σ H Q':=by
 refine ⟨μ,ρ,st,rs,sr,?_⟩
 cases e:m μ st with
 | ok u aX =>
  rw [e] at h
  intro ρ1 H1 x e1 cn r1
  exact c u aX ρ1 H1 x e1 cn r1 (wR.mono h e1)
 | err c aX => rw [e] at h; exact h
 | bad => rw [e] at h; exact h
section
variable {X:Cx}
theorem PE.imp {e:Expr} {t t':TE} (h:PE X e t) (k:∀ σ H Q,t' σ H Q → t σ H Q):PE X e t':=fun pins s σ H Q I q => h pins s σ H Q I (k σ H Q q)
theorem PT.imp {e:Expr} {t t':TT} (h:PT X e t) (k:∀ σ H Q,t' σ H Q → t σ H Q):PT X e t':=fun pins s σ H Q I q => h pins s σ H Q I (k σ H Q q)
theorem PW.imp {e:Expr} {t t':TT} (h:PW X e t) (k:∀ σ H Q,t' σ H Q → t σ H Q):PW X e t':=fun w pins s σ H Q I q => h w pins s σ H Q I (k σ H Q q)
theorem PA.imp {e:List Expr} {t t':TA} (h:PA X e t) (k:∀ σ H Q,t' σ H Q → t σ H Q):PA X e t':=fun p pins s σ H Q I q => h p pins s σ H Q I (k σ H Q q)
theorem PS.imp {e:Stmt} {t t':TS} (h:PS X e t) (k:∀ D σ H,t' D σ H → t D σ H):PS X e t':=fun pins s σ H D I q => h pins s σ H D I (k D σ H q)
theorem jO.imp {e:List Stmt} {t t':TS} (h:jO X e t) (k:∀ D σ H,t' D σ H → t D σ H):jO X e t':=fun pins s σ H D I q => h pins s σ H D I (k D σ H q)
theorem PG.imp {e:Expr} {t t':TG} (h:PG X e t) (k:∀ v σ H Q,t' v σ H Q → t v σ H Q):PG X e t':=fun pins s σ H v u Q I r q => h pins s σ H v u Q I r (k v σ H Q q)
theorem ef.imp {f:Value → Value → Sem Value} {t t':R2} (h:ef X f t) (k:∀ x y H Q,t' x y H Q → t x y H Q):ef X f t':=fun pins s σ H x y v u Q I rx ry q => h pins s σ H x y v u Q I rx ry (k x y H Q q)
theorem cQ.imp {f:Value} {t t':List V → Hp → VK → Prop} (h:cQ X f t) (k:∀ xs H Q,t' xs H Q → t xs H Q):cQ X f t':=fun pins s σ H xs us Q I r q => h pins s σ H xs us Q I r (k xs H Q q)
theorem uk.imp {t t':R2} (h:uk X t) (k:∀ x y H Q,t' x y H Q → t x y H Q):uk X t':=fun va sl pins s σ H x y v u Q I rx ry q e => h va sl pins s σ H x y v u Q I rx ry (k x y H Q q) e
end
noncomputable def Iz:Val → Bool
 | .exc _ => true
 | .fn _ _ => true
 | _ => false
noncomputable def aa (i:Nat):ME:=fun μ st => match μ[i]? with
 | some (some v) => if Iz v = true then .bad else .ok v st
 | _ => .bad
theorem vX.un {W:Wo} {ρ:List Addr} {H:Hp} {u:Val} {v:V} (h:vX W ρ H u v) (n:¬ Iz u = true):Rl W.K ρ H u v:=by
 cases u with
 | exc c => exact absurd rfl n
 | fn L u => exact absurd rfl n
 | _ => exact h
noncomputable def mC (v:Val):ME:=fun _ st => .ok v st
section
variable {X:Cx} {E:XK} {pos:Pos}
theorem af (i:Nat) {x:Str} (hN:X.N[i]? = some x:=by rfl) (hv:JY X.env.scope x:=by first | exact Or.inl rfl | exact Or.inr (Or.inl rfl) | exact Or.inr (Or.inr rfl)) (hd:(x == ("__debug__":Str)) = false:=by decide)
  (oT:(x == ("__classdict__":Str)) = false:=by decide):PE X (.Name x pos) (tE X E (aa i)):=by
 refine PE.imp (En hN hv hd oT) ?_
 rintro σ H Q ⟨μ,ρ,st,rs,sr,h⟩
 unfold aa at h
 split at h
 ·rename_i v e
  obtain ⟨w,e',r⟩:=rs.at_ i v e
  split at h
  ·exact h.elim
  ·rename_i n
   exact ⟨w,e',h ρ H w (Step.refl _ _) sr (r.un n)⟩
 ·exact h.elim
theorem vY {e:Expr} {v:V} {c:Val} (h:PE X e (tC v)) (r:∀ ρ H,Rl X.K ρ H c v):PE X e (tE X E (mC c)):=by
 refine PE.imp h ?_
 rintro σ H Q ⟨μ,ρ,st,rs,sr,h⟩
 exact h ρ H v (Step.refl _ _) sr (r ρ H)
theorem au {i j}:PE X (.Constant (.int i) j pos) (tE X E (mC (.int i))):=vY Eo fun _ _ => Rl.mkInt i
theorem nQ {b j}:PE X (.Constant (.bool b) j pos) (tE X E (mC (.bl b))):=vY DF fun _ _ => Rl.zo b
theorem Fy {x j}:PE X (.Constant (.str x) j pos) (tE X E (mC (.str x))):=vY Ep fun _ _ => Rl.mkStr x
structure Glob (K:PySem.W.Frag) (mg:Str → Option Value) (x:Str) (c:Val):Prop where
 at_:∃ (u:Value) (v:V),mg x = some u ∧ RelV v u ∧ ∀ ρ H,Rl K ρ H c v
theorem qX {x:Str} {c:Val} (hg:Gl X x) (h:Glob X.K X.mg x c) (hd:(x == ("__debug__":Str)) = false:=by decide):PE X (.Name x pos) (tE X E (mC c)):=by
 obtain ⟨u,v,h1,h2,h3⟩:=h.at_
 exact vY (BA hg h1 h2 hd) h3
end
noncomputable abbrev F2:=Val → Val → ai → Res Val
noncomputable def rM (W:Wo) (E:XK) (f:F2):R2:=fun x y H Q => ∃ ρ st u w,SR W.K ρ st H ∧ Rl W.K ρ H u x ∧ Rl W.K ρ H w y ∧ wR W E (Rl W.K) ρ H Q (f u w st)
noncomputable def ah (f:F2) (a b:ME):ME:=fun μ st => (a μ st).bind fun x aX => (b μ aX).bind fun y bV => f x y bV
section
variable {X:Cx} {E:XK} {pos:Pos} {a b c:Expr} {ma mb mc:ME} {f g:F2}
theorem jU {σ:St} {H:Hp} {Q:VK} (h:tE X E (ah f ma mb) σ H Q):GW (rM (wo X) E f) (tE X E ma) (tE X E mb) σ H Q:=by
 obtain ⟨μ,ρ,st,rs,sr,h⟩:=h
 refine go μ ρ st rs sr h fun u aX ρ1 H1 x e1 cn r1 h1 => ?_
 refine go μ ρ1 aX (rs.mono e1) cn h1 fun w bV ρ2 H2 y e2 m9 r2 h2 => ?_
 exact ⟨ρ2,bV,u,w,m9,Rl.mono e2 _ _ r1,r2,h2⟩
theorem ay {op:Operator} (ho:ef X (binaryOp op) (rM (wo X) E f)) (ha:PE X a (tE X E ma)) (hb:PE X b (tE X E mb)):PE X (.BinOp a op b pos) (tE X E (ah f ma mb)) :=
 PE.imp (HD ho ha hb) fun _ _ _ h => jU h
theorem nR {op:CmpOp} (ho:ef X (compareOp op) (rM (wo X) E f)) (ha:PE X a (tE X E ma)) (hb:PE X b (tE X E mb)) (hm:behindInMarks op b = false:=by first | exact yJ _ | (with_unfolding_all rfl)):PE X (.Compare a [op] [b] pos) (tE X E (ah f ma mb)) :=
 PE.imp (BM ho ha hb hm) fun _ _ _ h => jU h
noncomputable def cJ (m:ME):MT:=fun μ st => (m μ st).bind fun v aw => match v with
 | .bl b => .ok b aw
 | _ => .bad
theorem sI {m:ME} {σ:St} {H:Hp} {Q:Bool → Hp → Prop} (h:tT X E (cJ m) σ H Q):tE X E m σ H fun x H' => ∃ k,x = .bl k ∧ Q k H':=by
 obtain ⟨μ,ρ,st,rs,sr,h⟩:=h
 refine go μ ρ st rs sr h fun u aX ρ1 H1 x e1 cn r1 h1 => ?_
 cases u with
 | bl b => exact ⟨b,r1.qV,h1 ρ1 H1 b (Step.refl _ _) cn rfl⟩
 | _ => exact h1.elim
theorem b8 {op:CmpOp} (ho:ef X (compareOp op) (rM (wo X) E f)) (ha:PE X a (tE X E ma)) (hb:PE X b (tE X E mb)) (hm:behindInMarks op b = false:=by first | exact yJ _ | (with_unfolding_all rfl)):PT X (.Compare a [op] [b] pos) (tT X E (cJ (ah f ma mb))) :=
 PT.imp (BN ho ha hb hm) fun σ H Q h => by
  show GW (rM (wo X) E f) (tE X E ma) (tE X E mb) σ H _
  exact jU (sI h)
theorem iM {m:ME} (h:PE X a (tE X E m)) (he:∀ whole,isTrue a X.env whole = (do let v ← whole; standAt a.pos; holding [v] (truthy v)):=by intro _; rfl):PT X a (tT X E (cJ m)) :=
 PT.imp (Er h he) fun σ H Q h => sI h
noncomputable def L7 (f g:F2) (a b c:ME):ME:=fun μ st => (a μ st).bind fun x aX => (b μ aX).bind fun y bV => (f x y bV).bind fun z iE => match z with
 | .bl true => (c μ iE).bind fun w lX => g y w lX
 | .bl false => .ok (.bl false) iE
 | _ => .bad
noncomputable def uL (a b:ME):ME:=fun μ st => (a μ st).bind fun x aX => match x with
 | .bl true => b μ aX
 | .bl false => .ok (.bl false) aX
 | _ => .bad
noncomputable def L8 (a b:ME):ME:=fun μ st => (a μ st).bind fun x aX => match x with
 | .bl true => .ok (.bl true) aX
 | .bl false => b μ aX
 | _ => .bad
noncomputable def FA (a:ME):ME:=fun μ st => (a μ st).bind fun x aX => match x with
 | .bl b => .ok (.bl (!b)) aX
 | _ => .bad
noncomputable def jq (a b:MT):MT:=fun μ st => (a μ st).bind fun x aX => match x with
 | true => b μ aX
 | false => .ok false aX
noncomputable def jy (a b:MT):MT:=fun μ st => (a μ st).bind fun x aX => match x with
 | true => .ok true aX
 | false => b μ aX
noncomputable def d0 (a:MT):MT:=fun μ st => (a μ st).bind fun x aX => .ok (!x) aX
noncomputable def L9 (t:MT) (a b:ME):ME:=fun μ st => (t μ st).bind fun x aX => match x with
 | true => a μ aX
 | false => b μ aX
variable {rest:List Expr} {tA BC:MT}
theorem nS {op} {m:ME} (h:PE X a (tE X E m)):PE X (.BoolOp op [a] pos) (tE X E m):=Ew h
theorem qY (ha:PE X a (tE X E ma)) (hb:PE X (.BoolOp .And (b :: rest) pos) (tE X E mb)):PE X (.BoolOp .And (a :: b :: rest) pos) (tE X E (uL ma mb)):=by
 refine PE.imp (Ex ha hb) ?_
 rintro σ H Q ⟨μ,ρ,st,rs,sr,h⟩
 refine go μ ρ st rs sr h fun u aX ρ1 H1 x e1 cn r1 h1 => ?_
 cases u with
 | bl k =>
  refine ⟨k,r1.qV,?_⟩
  cases k with
  | true => rw [if_pos rfl]; exact ⟨μ,ρ1,aX,rs.mono e1,cn,h1⟩
  | false => rw [if_neg Bool.false_ne_true]; exact h1 ρ1 H1 _ (Step.refl _ _) cn (Rl.zo false)
 | _ => exact h1.elim
theorem IA (ha:PE X a (tE X E ma)) (hb:PE X (.BoolOp .Or (b :: rest) pos) (tE X E mb)):PE X (.BoolOp .Or (a :: b :: rest) pos) (tE X E (L8 ma mb)):=by
 refine PE.imp (Hr ha hb) ?_
 rintro σ H Q ⟨μ,ρ,st,rs,sr,h⟩
 refine go μ ρ st rs sr h fun u aX ρ1 H1 x e1 cn r1 h1 => ?_
 cases u with
 | bl k =>
  refine ⟨k,r1.qV,?_⟩
  cases k with
  | true => rw [if_pos rfl]; exact h1 ρ1 H1 _ (Step.refl _ _) cn (Rl.zo true)
  | false => rw [if_neg Bool.false_ne_true]; exact ⟨μ,ρ1,aX,rs.mono e1,cn,h1⟩
 | _ => exact h1.elim
theorem zu (ha:PE X a (tE X E ma)):PE X (.UnaryOp .Not a pos) (tE X E (FA ma)):=by
 refine PE.imp (Ey ha) ?_
 rintro σ H Q ⟨μ,ρ,st,rs,sr,h⟩
 refine go μ ρ st rs sr h fun u aX ρ1 H1 x e1 cn r1 h1 => ?_
 cases u with
 | bl k => exact ⟨k,r1.qV,h1 ρ1 H1 _ (Step.refl _ _) cn (Rl.zo _)⟩
 | _ => exact h1.elim
theorem vZ (ha:PT X a (tT X E tA)):PW X (.BoolOp .And [a] pos) (tT X E tA):=BD ha
theorem nU (ha:PT X a (tT X E tA)):PW X (.BoolOp .Or [a] pos) (tT X E tA):=Es ha
theorem zw (ha:PT X a (tT X E tA)) (hb:PW X (.BoolOp .And (b :: rest) pos) (tT X E BC)):PW X (.BoolOp .And (a :: b :: rest) pos) (tT X E (jq tA BC)):=by
 refine PW.imp (Et ha hb) ?_
 rintro σ H Q ⟨μ,ρ,st,rs,sr,h⟩
 refine go (R1:=RB) μ ρ st rs sr h fun u aX ρ1 H1 x e1 cn r1 h1 => ?_
 cases r1
 cases u with
 | true => rw [if_pos rfl]; exact ⟨μ,ρ1,aX,rs.mono e1,cn,h1⟩
 | false => rw [if_neg Bool.false_ne_true]; exact h1 ρ1 H1 _ (Step.refl _ _) cn rfl
theorem pW (ha:PT X a (tT X E tA)) (hb:PW X (.BoolOp .Or (b :: rest) pos) (tT X E BC)):PW X (.BoolOp .Or (a :: b :: rest) pos) (tT X E (jy tA BC)):=by
 refine PW.imp (Hn ha hb) ?_
 rintro σ H Q ⟨μ,ρ,st,rs,sr,h⟩
 refine go (R1:=RB) μ ρ st rs sr h fun u aX ρ1 H1 x e1 cn r1 h1 => ?_
 cases r1
 cases u with
 | true => rw [if_pos rfl]; exact h1 ρ1 H1 _ (Step.refl _ _) cn rfl
 | false => rw [if_neg Bool.false_ne_true]; exact ⟨μ,ρ1,aX,rs.mono e1,cn,h1⟩
theorem uM {e:Expr} {t:MT} (h:PW X e (tT X E t)):PT X e (tT X E t):=h.pt
theorem iN (ha:PT X a (tT X E tA)):PT X (.UnaryOp .Not a pos) (tT X E (d0 tA)):=by
 refine PT.imp (Eu ha) ?_
 rintro σ H Q ⟨μ,ρ,st,rs,sr,h⟩
 refine go (R1:=RB) μ ρ st rs sr h fun u aX ρ1 H1 x e1 cn r1 h1 => ?_
 cases r1
 exact h1 ρ1 H1 _ (Step.refl _ _) cn rfl
theorem IB (hc:PT X c (tT X E tA)) (ha:PE X a (tE X E ma)) (hb:PE X b (tE X E mb)):PE X (.IfExp c a b pos) (tE X E (L9 tA ma mb)):=by
 refine PE.imp (yC hc ha hb) ?_
 rintro σ H Q ⟨μ,ρ,st,rs,sr,h⟩
 refine go (R1:=RB) μ ρ st rs sr h fun u aX ρ1 H1 x e1 cn r1 h1 => ?_
 cases r1
 cases u with
 | true => rw [if_pos rfl]; exact ⟨μ,ρ1,aX,rs.mono e1,cn,h1⟩
 | false => rw [if_neg Bool.false_ne_true]; exact ⟨μ,ρ1,aX,rs.mono e1,cn,h1⟩
end
noncomputable def ak:MA:=fun _ st => .ok [] st
noncomputable def ae (a:ME) (r:MA):MA:=fun μ st => (a μ st).bind fun x aX => (r μ aX).bind fun xs bV => .ok (x :: xs) bV
noncomputable def fE (a:MA):ME:=fun μ st => (a μ st).bind fun xs aX => if xs.length ≤ sizeLine then .ok (.tup xs) aX else .bad
noncomputable def e9 (a:MA):ME:=fun μ st => (a μ st).bind fun xs aX => if xs.length ≤ sizeLine then .ok (.loc aX.length) (aX ++ [.lst xs]) else .bad
noncomputable abbrev FN:=List Val → ai → Res Val
noncomputable def aq (f:FN) (a:MA):ME:=fun μ st => (a μ st).bind fun xs aX => f xs aX
noncomputable def FC (W:Wo) (f:FN):Sp:=fun vs H Q E => ∃ us ρ st,aW W.K ρ H us vs ∧ SR W.K ρ st H ∧ wR W E (Rl W.K) ρ H Q (f us st)
noncomputable def cM (W:Wo) (E:XK) (f:FN):List V → Hp → VK → Prop:=fun xs H Q => ∃ ρ st us,SR W.K ρ st H ∧ aW W.K ρ H us xs ∧ wR W E (Rl W.K) ρ H Q (f us st)
section
variable {X:Cx} {E:XK} {pos p:Pos} {e:Expr} {es:List Expr} {m:ME} {ms:MA} {f:FN} {x:Str}
theorem ax:PA X [] (tL X E ak):=PA.imp uA fun σ H Q ⟨μ,ρ,st,rs,sr,h⟩ => h ρ H [] (Step.refl _ _) sr aW.nil
theorem aj (ha:PE X e (tE X E m)) (hr:PA X es (tL X E ms)) (hs:starEach (e :: es) X.env = (false,eval e X.env) :: starEach es X.env:=by rfl):PA X (e :: es) (tL X E (ae m ms)):=by
 refine PA.imp (jP ha hr hs) ?_
 rintro σ H Q ⟨μ,ρ,st,rs,sr,h⟩
 refine go μ ρ st rs sr h fun u aX ρ1 H1 x e1 cn r1 h1 => ?_
 refine go (R1:=aW X.K) μ ρ1 aX (rs.mono e1) cn h1 fun w bV ρ2 H2 y e2 m9 r2 h2 => ?_
 exact h2 ρ2 H2 _ (Step.refl _ _) m9 (aW.cons (Rl.mono e2 _ _ r1) r2)
theorem jz {k} (h:PA X es (tL X E ms)):PE X (.Tuple es k pos) (tE X E (fE ms)):=by
 refine PE.imp (EY h) ?_
 rintro σ H Q ⟨μ,ρ,st,rs,sr,h⟩
 refine go (R1:=aW X.K) μ ρ st rs sr h fun us aX ρ1 H1 xs e1 cn r1 h1 => ?_
 by_cases hz:us.length ≤ sizeLine
 ·rw [if_pos hz] at h1
  refine ⟨by rw [← r1.length]; exact hz,fun p hp => ?_⟩
  have s:=dG (o:=.tup xs) hp
  exact h1 ρ1 _ _ (Step.same s) (cn.grow s) (Rl.pV bh (aW.mono (Step.same s) _ _ r1))
 ·rw [if_neg hz] at h1; exact h1.elim
theorem gy {K:PySem.W.Frag} {ρ:List Addr} {st:ai} {H:Hp} {us:List Val} {xs:List V} (sr:SR K ρ st H) (r:aW K ρ H us xs) {p:Addr} (hp:H p = none) :
  Step ρ H (ρ ++ [p]) (upd H p (.lst xs)) ∧ SR K (ρ ++ [p]) (st ++ [.lst us]) (upd H p (.lst xs)) ∧ Rl K (ρ ++ [p]) (upd H p (.lst xs)) (.loc st.length) (.ref p):=by
 have s:=dG (o:=.lst xs) hp
 refine ⟨Step.snoc p s,sr.alloc hp ⟨xs,bh,aW.mono (Step.snoc p s) _ _ r⟩,Rl.zq ?_⟩
 rw [← sr.len,List.getElem?_append_right (Nat.le_refl _),Nat.sub_self]
 rfl
theorem h_ (h:PA X es (tL X E ms)):PE X (.List es pos) (tE X E (e9 ms)):=by
 refine PE.imp (EZ h) ?_
 rintro σ H Q ⟨μ,ρ,st,rs,sr,h⟩
 refine go (R1:=aW X.K) μ ρ st rs sr h fun us aX ρ1 H1 xs e1 cn r1 h1 => ?_
 by_cases hz:us.length ≤ sizeLine
 ·rw [if_pos hz] at h1
  refine ⟨by rw [← r1.length]; exact hz,fun p hp => ?_⟩
  obtain ⟨a,b,c⟩:=gy cn r1 hp
  exact h1 _ _ _ a b c
 ·rw [if_neg hz] at h1; exact h1.elim
theorem Cn {k:Nat} {fa:Addr} {fd:FuncData} {ps:List Str} {CX:yK} (F:jQ X.prog X.w X.K X.mg X.base CX k fa fd ps (FC ⟨X.K,X.mg,[]⟩ f)) (hr:eh k X.A) (hg:Gl X x) (hm:X.mg x = some (.ref fa)) (hk:PySem.W.keepIn X.K (.ref fa) = true)
  (hb:Binds X.K fd ps []) (hx:Passes CX X E) (ha:PA X (e :: es) (tL X E ms)) (mE:(x == ("__debug__":Str)) = false:=by decide)
  (he:starEach (e :: es) X.env = (false,eval e X.env) :: starEach es X.env:=by rfl) (jo:(backTo pos (starEach es X.env)).any (·.1) = false:=by rfl) :
  PE X (.Call (.Name x p) (e :: es) [] pos) (tE X E (aq f ms)):=by
 refine PE.imp (BP F hr hg hm hk hb .nil hx ha mE he jo) ?_
 rintro σ H Q ⟨μ,ρ,st,rs,sr,h⟩
 refine go (R1:=aW X.K) μ ρ st rs sr h fun us aX ρ1 H1 xs e1 cn r1 h1 => ?_
 rw [List.append_nil]
 exact ⟨us,ρ1,aX,r1,cn,wR.pn h1⟩
theorem fF {id:String} (hc:cQ X (.builtin id) (cM (wo X) E f)) (hg:Gl X x) (hm:X.mg x = none) (hv:bootBuiltins x = some (.builtin id)) (ha:PA X (e :: es) (tL X E ms)) (hn:x ≠ "__name__":=by decide) (mE:(x == ("__debug__":Str)) = false:=by decide)
  (he:starEach (e :: es) X.env = (false,eval e X.env) :: starEach es X.env:=by rfl) (jo:(backTo pos (starEach es X.env)).any (·.1) = false:=by rfl):PE X (.Call (.Name x p) (e :: es) [] pos) (tE X E (aq f ms)):=by
 refine PE.imp (si hc hg hm hv ha hn mE he jo) ?_
 rintro σ H Q ⟨μ,ρ,st,rs,sr,h⟩
 exact go (R1:=aW X.K) μ ρ st rs sr h fun us aX ρ1 H1 xs e1 cn r1 h1 => ⟨ρ1,aX,us,cn,r1,h1⟩
theorem gU {T:String} (hc:cQ X (.type T) (cM (wo X) E f)) (hg:Gl X x) (hm:X.mg x = none) (hv:bootBuiltins x = some (.type T)) (ha:PA X (e :: es) (tL X E ms)) (hn:x ≠ "__name__":=by decide) (mE:(x == ("__debug__":Str)) = false:=by decide)
  (he:starEach (e :: es) X.env = (false,eval e X.env) :: starEach es X.env:=by rfl) (jo:(backTo pos (starEach es X.env)).any (·.1) = false:=by rfl):PE X (.Call (.Name x p) (e :: es) [] pos) (tE X E (aq f ms)):=by
 refine PE.imp (xc hc hg hm hv ha hn mE he jo) ?_
 rintro σ H Q ⟨μ,ρ,st,rs,sr,h⟩
 exact go (R1:=aW X.K) μ ρ st rs sr h fun us aX ρ1 H1 xs e1 cn r1 h1 => ⟨ρ1,aX,us,cn,r1,h1⟩
end
section
variable {X:Cx} {E:XK} {pos:Pos} {a b:Expr} {ma mb:ME} {f:F2}
theorem IC (hr:uk X (rM (wo X) E f)) (ha:PE X a (tE X E ma)) (hb:PE X b (tE X E mb)) (hs:qJ b:=by exact fun _ _ => rfl):PE X (.Subscript a b pos) (tE X E (ah f ma mb)) :=
 PE.imp (HQ hr ha hb hs) fun _ _ _ h => jU h
end
noncomputable def wS (W:Wo) (E:XK) (ρ:List Addr) (H:Hp) (D:Ends):dk → Prop
 | .nx μ st => ∀ ρ' H' σ',Step ρ H ρ' H' → SR W.K ρ' st H' → RS W ρ' H' μ σ' → D.nx σ' H'
 | .rt v st => ∀ ρ' H' x,Step ρ H ρ' H' → SR W.K ρ' st H' → Rl W.K ρ' H' v x → D.rt x H'
 | .bk μ st => ∀ ρ' H' σ',Step ρ H ρ' H' → SR W.K ρ' st H' → RS W ρ' H' μ σ' → D.bk σ' H'
 | .ct μ st => ∀ ρ' H' σ',Step ρ H ρ' H' → SR W.K ρ' st H' → RS W ρ' H' μ σ' → D.ct σ' H'
 | .er c _ st => ∃ C,W.mg c = some (.ref C) ∧ ∀ ρ' H',Step ρ H ρ' H' → SR W.K ρ' st H' → E (.ref C) none H'
 | .bad => False
theorem wS.mono {W:Wo} {E:XK} {ρ ρ':List Addr} {H H':Hp} {D:Ends} {r:dk} (h:wS W E ρ H D r) (e:Step ρ H ρ' H'):wS W E ρ' H' D r:=by
 cases r with
 | nx μ st => exact fun ρ2 H2 σ2 e2 s r => h ρ2 H2 σ2 (e.trans e2) s r
 | rt v st => exact fun ρ2 H2 x e2 s r => h ρ2 H2 x (e.trans e2) s r
 | bk μ st => exact fun ρ2 H2 σ2 e2 s r => h ρ2 H2 σ2 (e.trans e2) s r
 | ct μ st => exact fun ρ2 H2 σ2 e2 s r => h ρ2 H2 σ2 (e.trans e2) s r
 | er c μ st => obtain ⟨C,h1,h2⟩:=h; exact ⟨C,h1,fun ρ2 H2 e2 s => h2 ρ2 H2 (e.trans e2) s⟩
 | bad => exact h
noncomputable def tS (X:Cx) (E:XK) (m:MB):TS:=fun D σ H => ∃ μ ρ st,RS (wo X) ρ H μ σ ∧ SR X.K ρ st H ∧ wS (wo X) E ρ H D (m μ st)
@[reducible] def Res.sb {α:Type} (r:Res α) (μ:Env) (k:α → ai → dk):dk:=match r with
 | .ok a st => k a st
 | .err c st => .er c μ st
 | .bad => .bad
theorem yy {α β:Type} {W:Wo} {E:XK} {R1:List Addr → Hp → α → β → Prop} {m:Env → ai → Res α} {k:α → ai → dk} {σ:St} {H:Hp} {D:Ends} {Q':β → Hp → Prop}
  (μ:Env) (ρ:List Addr) (st:ai) (rs:RS W ρ H μ σ) (sr:SR W.K ρ st H) (h:wS W E ρ H D ((m μ st).sb μ k))
  (c:∀ u aX ρ1 H1 x,Step ρ H ρ1 H1 → SR W.K ρ1 aX H1 → R1 ρ1 H1 u x → wS W E ρ1 H1 D (k u aX) → Q' x H1):tG W E R1 m σ H Q':=by
 refine ⟨μ,ρ,st,rs,sr,?_⟩
 cases e:m μ st with
 | ok u aX =>
  rw [e] at h
  intro ρ1 H1 x e1 cn r1
  exact c u aX ρ1 H1 x e1 cn r1 (wS.mono h e1)
 | err c aX => rw [e] at h; exact h
 | bad => rw [e] at h; exact h
noncomputable def bQ:MB:=fun μ st => .nx μ st
noncomputable def aE (a b:MB):MB:=fun μ st => match a μ st with
 | .nx μ' aw => b μ' aw
 | r => r
noncomputable def dz (m:ME):MB:=fun μ st => (m μ st).sb μ fun _ aw => .nx μ aw
noncomputable def bF (m:ME):MB:=fun μ st => (m μ st).sb μ fun v aw => .rt v aw
noncomputable def gW (t:MT) (a b:MB):MB:=fun μ st => (t μ st).sb μ fun k aw => match k with
 | true => a μ aw
 | false => b μ aw
noncomputable def aG (i:Nat) (m:ME):MB:=fun μ st => (m μ st).sb μ fun v aw => .nx (μ.set i (some v)) aw
noncomputable def uN (c:Str) (m:MA):MB:=fun μ st => (m μ st).sb μ fun vs aw => if vs.length ≤ sizeLine then .er c μ aw else .bad
section
variable {X:Cx} {E:XK} {pos:Pos} {s1:Stmt} {rest:List Stmt} {e:Expr} {m:ME} {a b:MB}
theorem cS:jO X [] (tS X E bQ):=jO.imp BE fun D σ H ⟨μ,ρ,st,rs,sr,h⟩ => h ρ H σ (Step.refl _ _) sr rs
theorem az (h1:PS X s1 (tS X E a)) (h2:jO X rest (tS X E b)):jO X (s1 :: rest) (tS X E (aE a b)):=by
 refine jO.imp (yD h1 h2) ?_
 rintro D σ H ⟨μ,ρ,st,rs,sr,h⟩
 refine ⟨μ,ρ,st,rs,sr,?_⟩
 unfold aE at h
 cases e:a μ st with
 | nx μ' aw =>
  rw [e] at h
  intro ρ1 H1 σ1 e1 cn G5
  exact ⟨μ',ρ1,aw,G5,cn,wS.mono h e1⟩
 | rt v aw => rw [e] at h; exact h
 | bk μ' aw => rw [e] at h; exact h
 | ct μ' aw => rw [e] at h; exact h
 | er c μ' aw => rw [e] at h; exact h
 | bad => rw [e] at h; exact h
theorem aF (h1:PS X s1 (tS X E a)):jO X [s1] (tS X E a):=BF h1
theorem gz (he:PE X e (tE X E m)) (hs:swapsWith e none pos.line X.env = pure false:=by rfl):PS X (.Expr e pos) (tS X E (dz m)):=by
 refine PS.imp (BG he hs) ?_
 rintro D σ H ⟨μ,ρ,st,rs,sr,h⟩
 exact yy μ ρ st rs sr h fun u aX ρ1 H1 x e1 cn r1 h1 => h1 ρ1 H1 σ (Step.refl _ _) cn (rs.mono e1)
theorem bb (he:PE X e (tE X E m)):PS X (.Return (some e) pos) (tS X E (bF m)):=by
 refine PS.imp (Ez he) ?_
 rintro D σ H ⟨μ,ρ,st,rs,sr,h⟩
 exact yy μ ρ st rs sr h fun u aX ρ1 H1 x e1 cn r1 h1 => h1 ρ1 H1 x (Step.refl _ _) cn r1
theorem d4 {c:Expr} {sa sb:List Stmt} {t:MT} (hc:PT X c (tT X E t)) (ha:jO X sa (tS X E a)) (hb:jO X sb (tS X E b)):PS X (.If c sa sb pos) (tS X E (gW t a b)):=by
 refine PS.imp (Hu hc ha hb) ?_
 rintro D σ H ⟨μ,ρ,st,rs,sr,h⟩
 refine yy (R1:=RB) μ ρ st rs sr h fun u aX ρ1 H1 x e1 cn r1 h1 => ?_
 cases r1
 cases u with
 | true => rw [if_pos rfl]; exact ⟨μ,ρ1,aX,rs.mono e1,cn,h1⟩
 | false => rw [if_neg Bool.false_ne_true]; exact ⟨μ,ρ1,aX,rs.mono e1,cn,h1⟩
theorem sJ {i:Nat} {D:Ends} {σ:St} {H:Hp} (h:tS X E (aG i m) D σ H):BK (tE X E m) (sf i) D σ H:=by
 obtain ⟨μ,ρ,st,rs,sr,h⟩:=h
 exact yy μ ρ st rs sr h fun u aX ρ1 H1 x e1 cn r1 h1 => h1 ρ1 H1 _ (Step.refl _ _) cn ((rs.mono e1).set i r1)
theorem FD (i:Nat) {x:Str} {pos':Pos} (hN:X.N.Nodup) (he:PE X e (tE X E m)) (hi:X.N[i]? = some x:=by rfl) (hx:Loc X.env.scope x:=by first | exact Or.inl rfl | exact Or.inr rfl) (hs:swapsWith e (some (.Name x pos')) pos.line X.env = pure false:=by rfl)
  (hf:X.fn x = true ∨ X.env.scope.names.lookup x = some .local:=by first | exact .inl rfl | exact .inr rfl | assumption):PS X (.Assign [.Name x pos'] e pos) (tS X E (aG i m)) :=
 PS.imp (EE hN hi hx he hs hf) fun _ _ _ h => sJ h
theorem zx {x:Str} {C:Addr} {B newId uJ:String} {bm:List Value} {np cG:Pos} {e₀:Expr} {es:List Expr} {ms:MA} (hX:Raises X E) (hc:X.calm = true) (hm:X.mg x = some (.ref C)) (hq:PySem.W.excIn X.K C bm newId = true) (FB:ExcBaseFacts B newId uJ bm) (hg:Gl X x) (ha:PA X (e₀ :: es) (tL X E ms))
  (he:starEach (e₀ :: es) X.env = (false,eval e₀ X.env) :: starEach es X.env:=by rfl) (jo:(backTo cG (starEach es X.env)).any (·.1) = false:=by rfl) (hd:(x == ("__debug__":Str)) = false:=by decide) :
  PS X (.Raise (some (.Call (.Name x np) (e₀ :: es) [] cG)) none pos) (tS X E (uN x ms)):=by
 refine PS.imp (zh (E:=E) hX hc hm hq FB hg ha he jo hd) ?_
 rintro D σ H ⟨μ,ρ,st,rs,sr,h⟩
 refine yy (R1:=aW X.K) μ ρ st rs sr h fun us aX ρ1 H1 xs e1 cn r1 h1 => ?_
 by_cases hz:us.length ≤ sizeLine
 ·rw [if_pos hz] at h1
  obtain ⟨C',q1,q2⟩:=h1
  have e:C' = C:=by
   have:=q1.symm.trans hm
   injection this with this
   injection this
  subst e
  exact ⟨by rw [← r1.length]; exact hz,q2 ρ1 H1 (Step.refl _ _) cn⟩
 ·rw [if_neg hz] at h1; exact h1.elim
end
noncomputable def jf (np n:Nat) (body:MB):FN:=fun us st => if us.length = np then (match body (us.map some ++ List.replicate (n - np) none) st with
 | .nx _ aw => .ok .e7 aw
 | .rt v aw => .ok v aw
 | .er c _ aw => .err c aw
 | _ => .bad) else .bad
theorem RS.start {W:Wo} {ρ:List Addr} {H:Hp} {N:List Str} {us:List Val} {vs:List V} (r:aW W.K ρ H us vs):RS W ρ H (us.map some ++ List.replicate (N.length - us.length) none) (L2.start N vs):=by
 have hl:=r.length
 refine ⟨by simp [L2.start,hl],fun i u e => ?_⟩
 rcases Nat.lt_or_ge i us.length with q | q
 ·rw [List.getElem?_append_left (by rw [List.length_map]; exact q),List.getElem?_map] at e
  have e':us[i]? = some u:=by
   cases z:us[i]? with
   | none => rw [z] at e; cases e
   | some w => rw [z] at e; exact congrArg _ (Option.some.inj (Option.some.inj e))
  obtain ⟨v,h1,h2⟩:=r.get e'
  refine ⟨v,?_,vX.of h2⟩
  unfold L2.start
  rw [List.getElem?_append_left (by rw [List.length_map,← hl]; exact q),List.getElem?_map,h1]
  rfl
 ·rw [List.getElem?_append_right (by rw [List.length_map]; exact q)] at e
  rw [List.getElem?_replicate] at e
  split at e
  ·cases e
  ·cases e
section
variable {P:Program} {w:World} {K:PySem.W.Frag} {mg:Str → Option Value} {base:Heap}
theorem zy {x qual:Str} {st:Stmt} {f:Addr} {fd:FuncData} {N ps:List Str} {k:Nat} {body:MB} (F:iI K x qual st f fd) (S:aY N ps (ao st))
  (h:∀ (dj:Value) (A:Around) (outer:List PySem.Env) (s:Shared) (H:Hp) (E:XK),eh k (A.deeper (envOfC qual (ao st) s.heap.objs.size f dj)) →
   jO (fO (iJ P w) P w K mg base N qual (ao st) f dj A outer s H E) (aQ st) (tS (fO (iJ P w) P w K mg base N qual (ao st) f dj A outer s H E) E body)) :
  jQ P w K mg base (iJ P w) (k + 1) f fd ps (FC ⟨K,mg,[]⟩ (jf ps.length N.length body)):=by
 refine F.QX S (fun vs H Q E q => ?_) (fun dj A outer s H vs Q E hr q => ⟨_,h dj A outer s H E hr,?_⟩)
 ·obtain ⟨us,ρ,st,r,sr,q⟩:=q
  by_cases hl:us.length = ps.length
  ·rw [← r.length]; exact hl
  ·unfold jf at q; rw [if_neg hl] at q; exact q.elim
 ·obtain ⟨us,ρ,aw,r,sr,q⟩:=q
  unfold jf at q
  by_cases hl:us.length = ps.length
  ·rw [if_pos hl,← hl] at q
   refine ⟨_,ρ,aw,RS.start r,sr,?_⟩
   revert q
   cases body (us.map some ++ List.replicate (N.length - us.length) none) aw with
   | nx μ bV => exact fun q ρ' H' σ' e s _ => q ρ' H' .e7 e s Rl.vW
   | rt v bV => exact fun q => q
   | er c μ bV => exact fun q => q
   | bk μ bV => exact fun q => q.elim
   | ct μ bV => exact fun q => q.elim
   | bad => exact fun q => q.elim
  ·rw [if_neg hl] at q; exact q.elim
end
end MN
namespace MN
open PySem PySem.Spec L2
open PyProof.Rows hiding St
noncomputable def Sz (i:Int):Prop:=i.natAbs.log2 < 1000000
noncomputable instance (i:Int):Decidable (Sz i):=inferInstanceAs (Decidable (_ < _))
theorem Sz.big {i:Int} (h:Sz i):dB 1000001 i:=by
 show _ < _
 have h1:i.natAbs < 2 ^ (i.natAbs.log2 + 1):=Nat.lt_log2_self
 exact Nat.lt_of_lt_of_le h1 (Nat.pow_le_pow_right (by decide) (by have:i.natAbs.log2 < 1000000:=h; lia))
theorem Sz.of {k:Nat} {i:Int} (h:dB k i) (hk:k ≤ 1000000):Sz i:=by
 show i.natAbs.log2 < 1000000
 have h':i.natAbs < 2 ^ k:=h
 by_cases z:i.natAbs = 0
 ·rw [z]; decide
 ·exact Nat.lt_of_lt_of_le ((Nat.log2_lt z).mpr h') hk
theorem Sz.mul {i j:Int} (h:Sz i) (k:Sz j):vQ i j:=⟨_,_,h.big,k.big,by decide,by decide⟩
noncomputable def Dz (i:Int):Prop:=i ≠ 0 ∧ i.natAbs.log2 < 8000
noncomputable instance (i:Int):Decidable (Dz i):=inferInstanceAs (Decidable (_ ∧ _))
theorem Dz.ok {i j:Int} (h:Dz j):vR i j:=by
 refine ⟨h.1,?_⟩
 show _ < _
 have h1:j.natAbs < 2 ^ (j.natAbs.log2 + 1):=Nat.lt_log2_self
 exact Nat.lt_of_lt_of_le h1 (Nat.pow_le_pow_right (by decide) (by have:=h.2; lia))
theorem Dz.of {k:Nat} {i:Int} (h0:i ≠ 0) (h:dB k i) (hk:k ≤ 8000):Dz i:=by
 refine ⟨h0,?_⟩
 have h':i.natAbs < 2 ^ k:=h
 exact Nat.lt_of_lt_of_le ((Nat.log2_lt (by lia)).mpr h') hk
noncomputable def MulOk (i j:Int):Prop:=(Sz i ∧ Sz j) ∨ yI i j
noncomputable instance (i j:Int):Decidable (yI i j):=inferInstanceAs (Decidable (_ ∨ _))
noncomputable instance (i j:Int):Decidable (MulOk i j):=inferInstanceAs (Decidable (_ ∨ _))
noncomputable instance (i j:Int):Decidable (yH i j):=inferInstanceAs (Decidable (_ ∧ _ ∧ _))
noncomputable def zA (k:Nat) (us:List Val):List Val:=(List.replicate k us).flatten
noncomputable def bR:F2
 | .int i,.int j,st => .ok (.int (i + j)) st
 | .str a,.str b,st => if a.length + b.length ≤ sizeLine then .ok (.str (a ++ b)) st else .bad
 | .tup us,.tup ws,st => if us.length + ws.length ≤ sizeLine then .ok (.tup (us ++ ws)) st else .bad
 | .loc n,.loc m,st => match st[n]?,st[m]? with
  | some (.lst us),some (.lst ws) => if us.length + ws.length ≤ sizeLine then .ok (.loc st.length) (st ++ [.lst (us ++ ws)]) else .bad
  | _,_ => .bad
 | _,_,_ => .bad
noncomputable def o_ (g:Int → Int → ai → Res Val):F2
 | .int i,.int j,st => g i j st
 | _,_,_ => .bad
theorem Co (g:Int → Int → ai → Res Val) (u w:Val) (st:ai):(∃ i j,u = .int i ∧ w = .int j) ∨ o_ g u w st = .bad:=by
 cases u with
 | int i =>
  cases w with
  | int j => exact .inl ⟨i,j,rfl,rfl⟩
  | _ => exact .inr rfl
 | _ => exact .inr rfl
theorem gA {g:Int → Int → ai → Res Val} {W:Wo} {E:XK} {ρ:List Addr} {st:ai} {H:Hp} {Q:VK} {u w:Val} (h:wR W E (Rl W.K) ρ H Q (o_ g u w st)):∃ i j,u = .int i ∧ w = .int j ∧ wR W E (Rl W.K) ρ H Q (g i j st):=by
 rcases Co g u w st with ⟨i,j,rfl,rfl⟩ | z
 ·exact ⟨i,j,rfl,rfl,h⟩
 ·rw [z] at h; exact h.elim
noncomputable def gG:F2:=o_ fun i j st => .ok (.int (i - j)) st
noncomputable def bz:F2
 | .int i,.int j,st => if MulOk i j then .ok (.int (i * j)) st else .bad
 | .loc n,.int k,st => match st[n]? with
  | some (.lst us) => if -(2 ^ 63) ≤ k ∧ k < 2 ^ 63 ∧ us.length * k.toNat ≤ sizeLine then .ok (.loc st.length) (st ++ [.lst (zA k.toNat us)]) else .bad
  | _ => .bad
 | _,_,_ => .bad
noncomputable def bA:F2:=o_ fun i j st => if Dz j then .ok (.int (i.fdiv j)) st else .bad
noncomputable def bD:F2:=o_ fun i j st => if j = 0 then .bad else .ok (.int (i.fmod j)) st
noncomputable def uO:F2:=o_ fun i j st => if yH i j then .ok (.int (i ^ j.toNat)) st else .bad
noncomputable def ltV:F2:=o_ fun i j st => .ok (.bl (decide (i < j))) st
noncomputable def G6:F2:=o_ fun i j st => .ok (.bl (decide (j < i))) st
section
variable {X:Cx} {E:XK}
theorem dq {W:Wo} {ρ:List Addr} {st:ai} {H:Hp} {Q:VK} {i:Int} (sr:SR W.K ρ st H) (h:wR W E (Rl W.K) ρ H Q (.ok (.int i) st)):Q (.int i) H:=h ρ H _ (Step.refl _ _) sr (Rl.mkInt i)
theorem jV {W:Wo} {ρ:List Addr} {st:ai} {H:Hp} {Q:VK} {i:Bool} (sr:SR W.K ρ st H) (h:wR W E (Rl W.K) ρ H Q (.ok (.bl i) st)):Q (.bl i) H:=h ρ H _ (Step.refl _ _) sr (Rl.zo i)
theorem aW.ID {K:PySem.W.Frag} {ρ:List Addr} {H:Hp} {us:List Val} {xs:List V} (r:aW K ρ H us xs):∀ k:Nat,aW K ρ H (zA k us) (List.replicate k xs).flatten
 | 0 => aW.nil
 | k + 1 => by
  unfold zA
  rw [List.replicate_succ,List.replicate_succ,List.flatten_cons,List.flatten_cons]
  exact r.append (aW.ID r k)
theorem zB:ef X (binaryOp .Add) (fun x y H Q => ∃ a b ys,x = .ref a ∧ y = .ref b ∧ jd X.K H a [] ∧ jd X.K H b ys ∧ Q (.ref b) H):=by
 intro pins s σ H x y v u Q I rx ry h
 obtain ⟨a,b,ys,rfl,rfl,ha,hb,q⟩:=h
 cases rx
 cases ry
 obtain ⟨aL,r1,p1,_⟩:=I.tuple ha
 obtain ⟨dS,r2,p2,_⟩:=I.tuple hb
 cases r1
 obtain ⟨⟨cls,dd,data,sl⟩,ho,hc,n,hd⟩:=id p1
 obtain ⟨⟨Ln,J3,data2,E5⟩,yN,xf,n2,hd2⟩:=id p2
 simp only at hc hd xf hd2
 subst hc hd xf hd2
 exact concat_meets ⟨_,ho,rfl⟩ ⟨_,yN,rfl⟩ noFill_tuple_add seq_tuple_add PySem.F.slot_tuple_add PySem.F.entry_tuple_add (PySem.F.args_tuple_add_2 _ _)
  (tuple_addW0 a b #[] dS.toArray n n2 dd J3 sl E5 (by simp)) ⟨ho,yN,⟨.ref b,H,I,rfl,q⟩⟩
theorem cq:ef X (binaryOp .Add) (rM (wo X) E bR):=by
 refine ef.imp (ef.or EN (ef.or uz (ef.or Fc (ef.or BX zB)))) ?_
 rintro x y H Q ⟨ρ,st,u,w,sr,r1,r2,h⟩
 cases u <;> cases w <;> try exact h.elim
 case int.int i j => exact .inl ⟨i,j,r1.cz,r2.cz,dq sr h⟩
 case str.str a b =>
  unfold bR at h
  dsimp only at h
  split at h
  ·rename_i hz
   exact .inr (.inl ⟨a,b,r1.iL,r2.iL,hz,h ρ H _ (Step.refl _ _) sr (Rl.mkStr _)⟩)
  ·exact h.elim
 case tup.tup us ws =>
  unfold bR at h
  dsimp only at h
  split at h
  ·rename_i hz
   obtain ⟨a,xs,rfl,ha,ra⟩:=r1.gw
   obtain ⟨b,ys,rfl,hb,rb⟩:=r2.gw
   by_cases hx:xs = []
   ·subst hx
    have hu:us = []:=List.eq_nil_of_length_eq_zero ra.length
    subst hu
    exact .inr (.inr (.inr (.inr ⟨a,b,ys,rfl,rfl,ha,hb,h ρ H _ (Step.refl _ _) sr r2⟩)))
   ·refine .inr (.inr (.inr (.inl ⟨a,b,xs,ys,rfl,rfl,ha,hb,hx,by rw [← ra.length,← rb.length]; exact hz,fun hy => ?_,fun hy p hp => ?_⟩)))
    ·subst hy
     have hw:ws = []:=List.eq_nil_of_length_eq_zero rb.length
     subst hw
     rw [List.append_nil] at h
     exact h ρ H _ (Step.refl _ _) sr r1
    ·have s:=dG (o:=.tup (xs ++ ys)) hp
     exact h ρ _ _ (Step.same s) (sr.grow s) (Rl.pV bh (aW.mono (Step.same s) _ _ (ra.append rb)))
  ·exact h.elim
 case loc.loc n m =>
  unfold bR at h
  dsimp only at h
  split at h
  ·rename_i us ws e1 e2
   split at h
   ·rename_i hz
    obtain ⟨a,rfl,ha⟩:=r1.eR
    obtain ⟨b,rfl,hb⟩:=r2.eR
    obtain ⟨xs,h1,q1⟩:=sr.cell n _ a e1 ha
    obtain ⟨ys,h2,q2⟩:=sr.cell m _ b e2 hb
    refine .inr (.inr (.inl ⟨a,b,xs,ys,rfl,rfl,h1,h2,by rw [← q1.length,← q2.length]; exact hz,fun p hp => ?_⟩))
    obtain ⟨k1,k2,k3⟩:=gy sr (q1.append q2) hp
    exact h _ _ _ k1 k2 k3
   ·exact h.elim
  ·exact h.elim
theorem ie:ef X (binaryOp .Sub) (rM (wo X) E gG):=by
 refine ef.imp EO ?_
 rintro x y H Q ⟨ρ,st,u,w,sr,r1,r2,h⟩
 obtain ⟨i,j,rfl,rfl,q⟩:=gA h
 exact ⟨i,j,r1.cz,r2.cz,dq sr q⟩
theorem bW:ef X (binaryOp .Mult) (rM (wo X) E bz):=by
 refine ef.imp (ef.or B9 (ef.or ER Fd)) ?_
 rintro x y H Q ⟨ρ,st,u,w,sr,r1,r2,h⟩
 cases u <;> cases w <;> try exact h.elim
 case int.int i j =>
  unfold bz at h
  dsimp only at h
  split at h
  ·rename_i hz
   rcases hz with hz | hz
   ·exact .inl ⟨i,j,r1.cz,r2.cz,hz.1.mul hz.2,dq sr h⟩
   ·exact .inr (.inl ⟨i,j,r1.cz,r2.cz,hz,dq sr h⟩)
  ·exact h.elim
 case loc.int n k =>
  unfold bz at h
  dsimp only at h
  split at h
  ·rename_i us e1
   split at h
   ·rename_i hz
    obtain ⟨a,rfl,ha⟩:=r1.eR
    obtain ⟨xs,h1,q1⟩:=sr.cell n _ a e1 ha
    refine .inr (.inr ⟨a,k,xs,rfl,r2.cz,h1,hz.1,hz.2.1,by rw [← q1.length]; exact hz.2.2,fun p hp => ?_⟩)
    obtain ⟨k1,k2,k3⟩:=gy sr (q1.ID k.toNat) hp
    exact h _ _ _ k1 k2 k3
   ·exact h.elim
  ·exact h.elim
theorem cy:ef X (binaryOp .FloorDiv) (rM (wo X) E bA):=by
 refine ef.imp yX ?_
 rintro x y H Q ⟨ρ,st,u,w,sr,r1,r2,h⟩
 obtain ⟨i,j,rfl,rfl,h0⟩:=gA h
 clear h
 have h:=h0
 clear h0
 ·split at h
  ·rename_i hz
   exact ⟨i,j,r1.cz,r2.cz,hz.ok,dq sr h⟩
  ·exact h.elim
theorem bg:ef X (binaryOp .Mod) (rM (wo X) E bD):=by
 refine ef.imp BL ?_
 rintro x y H Q ⟨ρ,st,u,w,sr,r1,r2,h⟩
 obtain ⟨i,j,rfl,rfl,h0⟩:=gA h
 clear h
 have h:=h0
 clear h0
 ·split at h
  ·exact h.elim
  ·rename_i hz
   exact ⟨i,j,r1.cz,r2.cz,hz,dq sr h⟩
theorem v7:ef X (binaryOp .Pow) (rM (wo X) E uO):=by
 refine ef.imp ES ?_
 rintro x y H Q ⟨ρ,st,u,w,sr,r1,r2,h⟩
 obtain ⟨i,j,rfl,rfl,h0⟩:=gA h
 clear h
 have h:=h0
 clear h0
 ·split at h
  ·rename_i hz
   exact ⟨i,j,r1.cz,r2.cz,hz,dq sr h⟩
  ·exact h.elim
theorem uP:ef X (compareOp .Lt) (rM (wo X) E ltV):=by
 refine ef.imp HG ?_
 rintro x y H Q ⟨ρ,st,u,w,sr,r1,r2,h⟩
 obtain ⟨i,j,rfl,rfl,q⟩:=gA h
 exact ⟨i,j,r1.cz,r2.cz,jV sr q⟩
theorem zC:ef X (compareOp .Gt) (rM (wo X) E G6):=by
 refine ef.imp HH ?_
 rintro x y H Q ⟨ρ,st,u,w,sr,r1,r2,h⟩
 obtain ⟨i,j,rfl,rfl,q⟩:=gA h
 exact ⟨i,j,r1.cz,r2.cz,jV sr q⟩
noncomputable def sL (m:ME):ME:=fun μ st => (m μ st).bind fun v aw => match v with
 | .int i => .ok (.int (-i)) aw
 | _ => .bad
theorem zD {a:Expr} {m:ME} {pos:Pos} (h:PE X a (tE X E m)):PE X (.UnaryOp .USub a pos) (tE X E (sL m)):=by
 refine PE.imp (HE EV h) ?_
 rintro σ H Q ⟨μ,ρ,st,rs,sr,h⟩
 refine go μ ρ st rs sr h fun u aX ρ1 H1 x e1 cn r1 h1 => ?_
 cases u with
 | int i => exact ⟨i,r1.cz,dq cn h1⟩
 | _ => exact h1.elim
end
noncomputable def flat:Val → Bool
 | .e7 => true
 | .bl _ => true
 | .int _ => true
 | .str _ => true
 | _ => false
noncomputable def FE:Val → Val → Bool
 | .e7,.e7 => true
 | .bl a,.bl b => a == b
 | .bl a,.int b => (if a then 1 else 0) == b
 | .int a,.bl b => a == (if b then 1 else 0)
 | .int a,.int b => a == b
 | .str a,.str b => a == b
 | _,_ => false
noncomputable def itemsOf (st:ai) (n:Nat):Option (List Val):=match st[n]? with
 | some (.lst us) => some us
 | some (.DX us) => some us
 | some (.mod us) => some us
 | _ => none
inductive Vw where
 | lst (us:List Val) | tup (us:List Val) | m5
noncomputable def vw (st:ai):Val → Option Vw
 | .tup us => some (.tup us)
 | .loc n => (itemsOf st n).map .lst
 | .e7 => some .m5
 | .bl _ => some .m5
 | .int _ => some .m5
 | .str _ => some .m5
 | _ => none
noncomputable def jg (f:Val → Val → Option Bool):List Val → List Val → Option Bool
 | [],[] => some true
 | x :: xs,y :: ys => match f x y,jg f xs ys with
  | some a,some b => some (a && b)
  | _,_ => none
 | [],_ :: _ => some false
 | _ :: _,[] => some false
noncomputable def m_:Nat → ai → Val → Val → Option Bool
 | 0,_,_,_ => none
 | n + 1,st,u,w => match vw st u,vw st w with
  | some (.tup us),some (.tup ws) => jg (m_ n st) us ws
  | some (.lst us),some (.lst ws) => jg (m_ n st) us ws
  | some .m5,some .m5 => some (FE u w)
  | some _,some _ => some false
  | _,_ => none
theorem nV {f:Val → Val → Option Bool}:∀ {us ws:List Val} {b:Bool},jg f us ws = some b → us.length ≠ ws.length → b = false
 | [],[],_,_,h => absurd rfl h
 | [],_ :: _,b,e,_ => by injection e with e; exact e.symm
 | _ :: _,[],b,e,_ => by injection e with e; exact e.symm
 | x :: xs,y :: ys,b,e,h => by
  unfold jg at e
  split at e
  ·rename_i a c h1 h2
   injection e with e
   rw [← e,nV h2 (fun z => h (by simp [z])),Bool.and_false]
  ·cases e
theorem v_ {f:Val → Val → Option Bool}:∀ {us ws:List Val} {b:Bool},jg f us ws = some b → ∀ (j:Nat) (u w:Val),us[j]? = some u → ws[j]? = some w → ∃ c,f u w = some c
 | [],_,_,_,j,u,w,h1,_ => by cases h1
 | _ :: _,[],_,_,j,u,w,_,h2 => by cases h2
 | x :: xs,y :: ys,b,e,j,u,w,h1,h2 => by
  unfold jg at e
  split at e
  ·rename_i a c q1 q2
   cases j with
   | zero => cases h1; cases h2; exact ⟨a,q1⟩
   | succ j => exact v_ q2 j u w h1 h2
  ·cases e
noncomputable def Kn (f:Val → Val → Option Bool) (us ws:List Val) (j:Nat):Bool:=match us[j]?,ws[j]? with
 | some u,some w => (f u w).getD true
 | _,_ => true
theorem nW {f:Val → Val → Option Bool}:∀ {us ws:List Val} {b:Bool},jg f us ws = some b → us.length = ws.length → (List.range us.length).all (Kn f us ws) = b
 | [],[],b,e,_ => by injection e
 | [],_ :: _,_,_,h => by simp at h
 | _ :: _,[],_,_,h => by simp at h
 | x :: xs,y :: ys,b,e,h => by
  have h':xs.length = ys.length:=by simpa using h
  unfold jg at e
  split at e
  ·rename_i a c q1 q2
   injection e with e
   rw [List.length_cons,List.range_succ_eq_map,List.all_cons,List.all_map,← e,← nW q2 h']
   congr 1
   show (f x y).getD true = a
   rw [q1]; rfl
  ·cases e
section
variable {X:Cx} {pins:List (Addr × Obj)} {σ:St} {H:Hp} {s:Shared} {ρ:List Addr} {st:ai}
theorem bp (sr:SR X.K ρ st H) {n:Nat} {us:List Val} {a:Addr} (h:itemsOf st n = some us) (ha:ρ[n]? = some a):∃ vs,lR X.K H a vs ∧ aW X.K ρ H us vs:=by
 unfold itemsOf at h
 split at h
 ·rename_i ws e
  cases h
  obtain ⟨vs,h1,h2⟩:=sr.cell n _ a e ha
  exact ⟨vs,lR.of h1,h2⟩
 ·rename_i ws e
  cases h
  obtain ⟨o,vs,h1,h2⟩:=sr.cell n _ a e ha
  exact ⟨vs,.inl (.inr ⟨o,h1⟩),h2⟩
 ·rename_i ws e
  cases h
  obtain ⟨vs,h1,h2⟩:=sr.cell n _ a e ha
  exact ⟨vs,.inr h1,h2⟩
 ·cases h
theorem wa (I:Inv X pins σ H s) (sr:SR X.K ρ st H):∀ (n:Nat) (u w:Val) (x:V) (b:Bool),Rl X.K ρ H u x → Rl X.K ρ H w x → m_ n st u w = some b → b = true
 | 0,_,_,_,_,_,_,e => by cases e
 | n + 1,u,w,x,b,r1,r2,e => by
  have lst:∀ (us ws:List Val) (vs:List V) (b:Bool),aW X.K ρ H us vs → aW X.K ρ H ws vs → jg (m_ n st) us ws = some b → b = true:=by
   intro us
   induction us with
   | nil =>
    intro ws vs b h1 h2 e
    have:=h1.fD
    subst this
    have hw:ws = []:=List.eq_nil_of_length_eq_zero h2.length
    subst hw
    injection e with e; exact e.symm
   | cons u us ih =>
    intro ws vs b h1 h2 e
    obtain ⟨v,r,rfl,q1,q2⟩:=h1.cH
    cases ws with
    | nil => have:=h2.fD; cases this
    | cons w ws =>
     obtain ⟨v',r',e',q3,q4⟩:=h2.cH
     cases e'
     unfold jg at e
     split at e
     ·rename_i a c z1 z2
      injection e with e
      rw [← e,wa I sr n u w v a q1 q3 z1,ih ws r c q2 q4 z2]; rfl
     ·cases e
  unfold m_ at e
  cases u <;> cases w <;> dsimp only [vw] at e <;> try (cases e; done)
  all_goals first
   | (have z1:=Rl.cz r1; subst z1; have z2:=Rl.cz r2; cases z2; injection e with e; rw [← e]; exact beq_self_eq_true _)
   | (have z1:=Rl.qV r1; subst z1; have z2:=Rl.qV r2; cases z2; injection e with e; rw [← e]; exact beq_self_eq_true _)
   | (have z1:=Rl.iL r1; subst z1; have z2:=Rl.iL r2; cases z2; injection e with e; rw [← e]; exact beq_self_eq_true _)
   | (have z1:=Rl.nP r1; subst z1; injection e with e; exact e.symm)
   | skip
  case tup.tup us ws =>
   obtain ⟨a,vs,rfl,ha,ra⟩:=r1.gw
   obtain ⟨a',DZ,ea,hb,rb⟩:=r2.gw
   cases ea
   have:=I.kH ha hb
   subst this
   exact lst us ws vs b ra rb e
  case loc.loc i j =>
   obtain ⟨a,rfl,ha⟩:=r1.eR
   obtain ⟨a',ea,hb⟩:=r2.eR
   cases ea
   cases z:itemsOf st i with
   | none => rw [z] at e; cases e
   | some us =>
    cases z2:itemsOf st j with
    | none => rw [z,z2] at e; cases e
    | some ws =>
     rw [z,z2] at e
     obtain ⟨vs,s1,rv⟩:=bp sr z ha
     obtain ⟨DZ,s2,LW⟩:=bp sr z2 hb
     have:=I.nA s1 s2
     subst this
     exact lst us ws vs b rv LW e
  all_goals (exfalso; first
   | (have z1:=Rl.cz r1; subst z1; first | (have z2:=Rl.qV r2; cases z2; done) | (have z2:=Rl.iL r2; cases z2; done) | (have z2:=Rl.nP r2; cases z2; done) | (obtain ⟨_,_,z2,_⟩:=r2.gw; cases z2; done) | (obtain ⟨_,z2,_⟩:=r2.eR; cases z2; done))
   | (have z1:=Rl.qV r1; subst z1; first | (have z2:=Rl.cz r2; cases z2; done) | (have z2:=Rl.iL r2; cases z2; done) | (have z2:=Rl.nP r2; cases z2; done) | (obtain ⟨_,_,z2,_⟩:=r2.gw; cases z2; done) | (obtain ⟨_,z2,_⟩:=r2.eR; cases z2; done))
   | (have z1:=Rl.iL r1; subst z1; first | (have z2:=Rl.cz r2; cases z2; done) | (have z2:=Rl.qV r2; cases z2; done) | (have z2:=Rl.nP r2; cases z2; done) | (obtain ⟨_,_,z2,_⟩:=r2.gw; cases z2; done) | (obtain ⟨_,z2,_⟩:=r2.eR; cases z2; done))
   | (have z1:=Rl.nP r1; subst z1; first | (have z2:=Rl.cz r2; cases z2; done) | (have z2:=Rl.qV r2; cases z2; done) | (have z2:=Rl.iL r2; cases z2; done) | (obtain ⟨_,_,z2,_⟩:=r2.gw; cases z2; done) | (obtain ⟨_,z2,_⟩:=r2.eR; cases z2; done))
   | (obtain ⟨_,_,z1,_⟩:=r1.gw; subst z1; first | (have z2:=Rl.cz r2; cases z2; done) | (have z2:=Rl.qV r2; cases z2; done) | (have z2:=Rl.iL r2; cases z2; done) | (have z2:=Rl.nP r2; cases z2; done))
   | (obtain ⟨_,z1,_⟩:=r1.eR; subst z1; first | (have z2:=Rl.cz r2; cases z2; done) | (have z2:=Rl.qV r2; cases z2; done) | (have z2:=Rl.iL r2; cases z2; done) | (have z2:=Rl.nP r2; cases z2; done))
   | skip)
  case tup.loc us j =>
   obtain ⟨a,vs,rfl,ha,ra⟩:=r1.gw
   obtain ⟨a',ea,hb⟩:=r2.eR
   cases ea
   cases z:itemsOf st j with
   | none => rw [z] at e; cases e
   | some IE =>
    obtain ⟨ws,hw,_⟩:=bp sr z hb
    obtain ⟨_,_,p1,_⟩:=I.tuple ha
    obtain ⟨_,_,p2,_⟩:=I.list hw
    exact SeqAt.ne_of_list_tuple p2.isList p1 rfl
  case loc.tup i us =>
   obtain ⟨a,rfl,ha⟩:=r1.eR
   obtain ⟨a',vs,ea,hb,rb⟩:=r2.gw
   cases ea
   cases z:itemsOf st i with
   | none => rw [z] at e; cases e
   | some IE =>
    obtain ⟨ws,hw,_⟩:=bp sr z ha
    obtain ⟨_,_,p1,_⟩:=I.tuple hb
    obtain ⟨_,_,p2,_⟩:=I.list hw
    exact SeqAt.ne_of_list_tuple p2.isList p1 rfl
  all_goals (cases z:itemsOf st _ <;> rw [z] at e <;> cases e)
noncomputable def zE (X:Cx) (ρ:List Addr) (H:Hp) (s:Shared):Vw → Val → Value → Prop
 | .tup us,_,v => ∃ a aL vs,v = .ref a ∧ s.heap.IsTuple a (List.toArray aL) ∧ Vals vs aL ∧ aW X.K ρ H us vs
 | .lst us,_,v => ∃ a aL vs,v = .ref a ∧ s.heap.IsList a (List.toArray aL) ∧ Vals vs aL ∧ aW X.K ρ H us vs
 | .m5,u,v => (u = .e7 ∧ v = .none) ∨ (∃ b,u = .bl b ∧ v = .bool b) ∨ (∃ i t,u = .int i ∧ v = .int i t) ∨ (∃ z t,u = .str z ∧ v = .str z t)
theorem seen (I:Inv X pins σ H s) (sr:SR X.K ρ st H) {u:Val} {x:V} {v:Value} {k:Vw} (r:Rl X.K ρ H u x) (q:RelV x v) (h:vw st u = some k):zE X ρ H s k u v:=by
 cases u with
 | e7 => cases h; have:=r.nP; subst this; exact .inl ⟨rfl,q⟩
 | bl b => cases h; have:=r.qV; subst this; exact .inr (.inl ⟨b,rfl,q⟩)
 | int i => cases h; have:=r.cz; subst this; obtain ⟨t,q⟩:=q; exact .inr (.inr (.inl ⟨i,t,rfl,q⟩))
 | str z => cases h; have:=r.iL; subst this; obtain ⟨t,q⟩:=q; exact .inr (.inr (.inr ⟨z,t,rfl,q⟩))
 | tup us =>
  cases h
  obtain ⟨a,vs,rfl,ha,ra⟩:=r.gw
  obtain ⟨aL,r1,p1,_⟩:=I.tuple ha
  exact ⟨a,aL,vs,q,p1,r1,ra⟩
 | loc n =>
  obtain ⟨a,rfl,ha⟩:=r.eR
  cases z:itemsOf st n with
  | none => simp only [vw,z] at h; cases h
  | some us =>
   simp only [vw,z] at h
   cases h
   obtain ⟨vs,hs,rv⟩:=bp sr z ha
   obtain ⟨aL,r1,p1,_⟩:=I.list hs
   exact ⟨a,aL,vs,q,p1.isList,r1,rv⟩
 | exc c => cases h
 | fn k c => cases h
 | mt us => cases h
theorem zF {A:Around} {f:Val → Val → Option Bool} {us ws:List Val} {xs ys:List V} {aL dS:List Value} {b:Bool} (e:jg f us ws = some b) (ra:aW X.K ρ H us xs) (rb:aW X.K ρ H ws ys) (va:Vals xs aL) (vb:Vals ys dS)
  (ih:∀ u w x y vu vw c,Rl X.K ρ H u x → RelV x vu → Rl X.K ρ H w y → RelV y vw → f u w = some c → SeqAt.EqAt A s vu vw c) :
  ∀ j (h1:j < aL.toArray.size) (h2:j < dS.toArray.size),SeqAt.EqAt A s aL.toArray[j] dS.toArray[j] (Kn f us ws j):=by
 intro j h1 h2
 have l1:=va.length
 have l2:=vb.length
 have l3:=ra.length
 have l4:=rb.length
 simp only [List.size_toArray] at h1 h2
 have e1:us[j]? = some us[j]:=List.getElem?_eq_getElem (by lia)
 have e2:ws[j]? = some ws[j]:=List.getElem?_eq_getElem (by lia)
 obtain ⟨x,hx,rx⟩:=ra.get e1
 obtain ⟨y,hy,ry⟩:=rb.get e2
 obtain ⟨u,hu,ru⟩:=va.get hx
 obtain ⟨v,hv,rv⟩:=vb.get hy
 have q1:aL.toArray[j] = u:=by
  obtain ⟨_,e⟩:=List.getElem?_eq_some_iff.mp hu
  simpa using e
 have q2:dS.toArray[j] = v:=by
  obtain ⟨_,e⟩:=List.getElem?_eq_some_iff.mp hv
  simpa using e
 obtain ⟨c,hc⟩:=v_ e j _ _ e1 e2
 rw [q1,q2]
 unfold Kn
 rw [e1,e2]
 dsimp only
 rw [hc]
 exact ih _ _ _ _ _ _ c rx ru ry rv hc
theorem in1_units (A:Around):A.in1.units = A.units + 1:=by rfl
theorem FF {A:Around} (I:Inv X pins σ H s) (sr:SR X.K ρ st H) (n:Nat) (ih:∀ u w x y vu vw c,Rl X.K ρ H u x → RelV x vu → Rl X.K ρ H w y → RelV y vw → m_ n st u w = some c → SeqAt.EqAt A.in1 s vu vw c) (hu:A.units < cLine)
  {u w:Val} {x y:V} {v1 v2:Value} {b:Bool} (r1:Rl X.K ρ H u x) (q1:RelV x v1) (r2:Rl X.K ρ H w y) (q2:RelV y v2) (e:m_ (n + 1) st u w = some b):SeqAt.RcAt A s v1 v2 b ∧ SeqAt.RcNeAt A s v1 v2 (!b):=by
 unfold m_ at e
 cases z1:vw st u with
 | none => rw [z1] at e; cases e
 | some k1 =>
  cases z2:vw st w with
  | none => rw [z1,z2] at e; cases k1 <;> cases e
  | some k2 =>
   rw [z1,z2] at e
   have s1:=seen I sr r1 q1 z1
   have s2:=seen I sr r2 q2 z2
   cases k1 with
   | tup us =>
    obtain ⟨a,aL,xs,rfl,p1,va,ra⟩:=s1
    cases k2 with
    | tup ws =>
     obtain ⟨a2,dS,ys,rfl,p2,vb,rb⟩:=s2
     have el:=zF e ra rb va vb ih
     have l1:=va.length
     have l2:=vb.length
     have l3:=ra.length
     have l4:=rb.length
     have hb:((List.range (min aL.toArray.size dS.toArray.size)).all (Kn (m_ n st) us ws) && aL.toArray.size == dS.toArray.size) = b:=by
      by_cases hl:us.length = ws.length
      ·rw [show min aL.toArray.size dS.toArray.size = us.length by simp only [List.size_toArray]; lia,nW e hl,show (aL.toArray.size == dS.toArray.size) = true by simp only [List.size_toArray,beq_iff_eq]; lia,Bool.and_true]
      ·rw [show (aL.toArray.size == dS.toArray.size) = false by simp only [List.size_toArray,beq_eq_false_iff_ne]; lia,Bool.and_false]
       exact (nV e hl).symm
     have g1:=SeqAt.RcAt.tuples p1 p2 hu el
     have g2:=SeqAt.RcNeAt.tuples p1 p2 hu el
     rw [hb] at g1 g2
     exact ⟨g1,g2⟩
    | lst ws =>
     obtain ⟨a2,dS,ys,rfl,p2,vb,rb⟩:=s2
     cases e
     exact ⟨SeqAt.RcAt.tuple_list p1 p2 hu,SeqAt.RcNeAt.tuple_list p1 p2 hu⟩
    | m5 =>
     cases e
     rcases s2 with ⟨_,rfl⟩ | ⟨k,_,rfl⟩ | ⟨k,t,_,rfl⟩ | ⟨k,t,_,rfl⟩
     ·exact ⟨SeqAt.RcAt.tuple_none p1 hu,SeqAt.RcNeAt.tuple_none p1 hu⟩
     ·exact ⟨SeqAt.RcAt.tuple_bool _ p1 hu,SeqAt.RcNeAt.tuple_bool _ p1 hu⟩
     ·exact ⟨SeqAt.RcAt.tuple_int _ _ p1 hu,SeqAt.RcNeAt.tuple_int _ _ p1 hu⟩
     ·exact ⟨SeqAt.RcAt.tuple_str _ _ p1 hu,SeqAt.RcNeAt.tuple_str _ _ p1 hu⟩
   | lst us =>
    obtain ⟨a,aL,xs,rfl,p1,va,ra⟩:=s1
    cases k2 with
    | tup ws =>
     obtain ⟨a2,dS,ys,rfl,p2,vb,rb⟩:=s2
     cases e
     exact ⟨SeqAt.RcAt.list_tuple p1 p2 hu,SeqAt.RcNeAt.list_tuple p1 p2 hu⟩
    | lst ws =>
     obtain ⟨a2,dS,ys,rfl,p2,vb,rb⟩:=s2
     have l1:=va.length
     have l2:=vb.length
     have l3:=ra.length
     have l4:=rb.length
     by_cases hl:us.length = ws.length
     ·have hs:aL.toArray.size = dS.toArray.size:=by simp only [List.size_toArray]; lia
      have el:=zF e ra rb va vb ih
      have g1:=SeqAt.RcAt.lists p1 p2 hs hu el
      have g2:=SeqAt.RcNeAt.lists p1 p2 hs hu el
      rw [show aL.toArray.size = us.length by simp only [List.size_toArray]; lia,nW e hl] at g1 g2
      exact ⟨g1,g2⟩
     ·have hs:(aL.toArray.size != dS.toArray.size) = true:=by simp only [List.size_toArray,bne_iff_ne]; lia
      rw [nV e hl]
      exact ⟨SeqAt.RcAt.lists_lengths p1 p2 hs hu,SeqAt.RcNeAt.lists_lengths p1 p2 hs hu⟩
    | m5 =>
     cases e
     rcases s2 with ⟨_,rfl⟩ | ⟨k,_,rfl⟩ | ⟨k,t,_,rfl⟩ | ⟨k,t,_,rfl⟩
     ·exact ⟨SeqAt.RcAt.list_none p1 hu,SeqAt.RcNeAt.list_none p1 hu⟩
     ·exact ⟨SeqAt.RcAt.list_bool _ p1 hu,SeqAt.RcNeAt.list_bool _ p1 hu⟩
     ·exact ⟨SeqAt.RcAt.list_int _ _ p1 hu,SeqAt.RcNeAt.list_int _ _ p1 hu⟩
     ·exact ⟨SeqAt.RcAt.list_str _ _ p1 hu,SeqAt.RcNeAt.list_str _ _ p1 hu⟩
   | m5 =>
    cases k2 with
    | tup ws =>
     obtain ⟨a2,dS,ys,rfl,p2,vb,rb⟩:=s2
     cases e
     rcases s1 with ⟨_,rfl⟩ | ⟨k,_,rfl⟩ | ⟨k,t,_,rfl⟩ | ⟨k,t,_,rfl⟩
     ·exact ⟨SeqAt.RcAt.none_tuple p2 hu,SeqAt.RcNeAt.none_tuple p2 hu⟩
     ·exact ⟨SeqAt.RcAt.bool_tuple _ p2 hu,SeqAt.RcNeAt.bool_tuple _ p2 hu⟩
     ·exact ⟨SeqAt.RcAt.int_tuple _ _ p2 hu,SeqAt.RcNeAt.int_tuple _ _ p2 hu⟩
     ·exact ⟨SeqAt.RcAt.str_tuple _ _ p2 hu,SeqAt.RcNeAt.str_tuple _ _ p2 hu⟩
    | lst ws =>
     obtain ⟨a2,dS,ys,rfl,p2,vb,rb⟩:=s2
     cases e
     rcases s1 with ⟨_,rfl⟩ | ⟨k,_,rfl⟩ | ⟨k,t,_,rfl⟩ | ⟨k,t,_,rfl⟩
     ·exact ⟨SeqAt.RcAt.none_list p2 hu,SeqAt.RcNeAt.none_list p2 hu⟩
     ·exact ⟨SeqAt.RcAt.bool_list _ p2 hu,SeqAt.RcNeAt.bool_list _ p2 hu⟩
     ·exact ⟨SeqAt.RcAt.int_list _ _ p2 hu,SeqAt.RcNeAt.int_list _ _ p2 hu⟩
     ·exact ⟨SeqAt.RcAt.str_list _ _ p2 hu,SeqAt.RcNeAt.str_list _ _ p2 hu⟩
    | m5 =>
     injection e with e
     subst e
     rcases s1 with ⟨rfl,rfl⟩ | ⟨i,rfl,rfl⟩ | ⟨i,t,rfl,rfl⟩ | ⟨i,t,rfl,rfl⟩ <;> rcases s2 with ⟨rfl,rfl⟩ | ⟨j,rfl,rfl⟩ | ⟨j,t',rfl,rfl⟩ | ⟨j,t',rfl,rfl⟩
     ·exact ⟨SeqAt.RcAt.none_none,SeqAt.RcNeAt.none_none⟩
     ·exact ⟨SeqAt.RcAt.none_bool _,SeqAt.RcNeAt.none_bool _⟩
     ·exact ⟨SeqAt.RcAt.none_int _ _,SeqAt.RcNeAt.none_int _ _⟩
     ·exact ⟨SeqAt.RcAt.none_str _ _,SeqAt.RcNeAt.none_str _ _⟩
     ·exact ⟨SeqAt.RcAt.bool_none _,SeqAt.RcNeAt.bool_none _⟩
     ·exact ⟨SeqAt.RcAt.bool_bool _ _,SeqAt.RcNeAt.bool_bool _ _⟩
     ·exact ⟨SeqAt.RcAt.bool_int _ _ _,SeqAt.RcNeAt.bool_int _ _ _⟩
     ·exact ⟨SeqAt.RcAt.bool_str _ _ _,SeqAt.RcNeAt.bool_str _ _ _⟩
     ·exact ⟨SeqAt.RcAt.int_none _ _,SeqAt.RcNeAt.int_none _ _⟩
     ·exact ⟨SeqAt.RcAt.int_bool _ _ _,SeqAt.RcNeAt.int_bool _ _ _⟩
     ·exact ⟨SeqAt.RcAt.int_int _ _ _ _,SeqAt.RcNeAt.int_int _ _ _ _⟩
     ·exact ⟨SeqAt.RcAt.int_str _ _ _ _,SeqAt.RcNeAt.int_str _ _ _ _⟩
     ·exact ⟨SeqAt.RcAt.str_none _ _,SeqAt.RcNeAt.str_none _ _⟩
     ·exact ⟨SeqAt.RcAt.str_bool _ _ _,SeqAt.RcNeAt.str_bool _ _ _⟩
     ·exact ⟨SeqAt.RcAt.str_int _ _ _ _,SeqAt.RcNeAt.str_int _ _ _ _⟩
     ·exact ⟨SeqAt.RcAt.str_str _ _ _ _,SeqAt.RcNeAt.str_str _ _ _ _⟩
theorem Cp {A:Around} {u w:Val} {v1 v2:Value} (s1:zE X ρ H s .m5 u v1) (s2:zE X ρ H s .m5 w v2):SeqAt.EqAt A s v1 v2 (FE u w):=by
 rcases s1 with ⟨rfl,rfl⟩ | ⟨i,rfl,rfl⟩ | ⟨i,t,rfl,rfl⟩ | ⟨i,t,rfl,rfl⟩ <;> rcases s2 with ⟨rfl,rfl⟩ | ⟨j,rfl,rfl⟩ | ⟨j,t',rfl,rfl⟩ | ⟨j,t',rfl,rfl⟩
 ·exact SeqAt.EqAt.same _
 ·exact SeqAt.EqAt.none_bool _
 ·exact SeqAt.EqAt.none_int _ _
 ·exact SeqAt.EqAt.none_str _ _
 ·exact SeqAt.EqAt.bool_none _
 ·exact SeqAt.EqAt.bool_bool _ _
 ·exact SeqAt.EqAt.bool_int _ _ _
 ·exact SeqAt.EqAt.bool_str _ _ _
 ·exact SeqAt.EqAt.int_none _ _
 ·exact SeqAt.EqAt.int_bool _ _ _
 ·exact SeqAt.EqAt.int_int _ _ _ _
 ·exact SeqAt.EqAt.int_str _ _ _ _
 ·exact SeqAt.EqAt.str_none _ _
 ·exact SeqAt.EqAt.str_bool _ _ _
 ·exact SeqAt.EqAt.str_int _ _ _ _
 ·exact SeqAt.EqAt.str_str _ _ _ _
theorem uQ (I:Inv X pins σ H s) (sr:SR X.K ρ st H):∀ (n:Nat) (A:Around),A.units + n < cLine → ∀ (u w:Val) (x y:V) (v1 v2:Value) (b:Bool),Rl X.K ρ H u x → RelV x v1 → Rl X.K ρ H w y → RelV y v2 → m_ n st u w = some b → SeqAt.EqAt A s v1 v2 b
 | 0,_,_,_,_,_,_,_,_,_,_,_,_,_,e => by cases e
 | n + 1,A,hu,u,w,x,y,v1,v2,b,r1,q1,r2,q2,e => by
  have rc:=(FF I sr n (fun u w x y vu vw c a1 a2 a3 a4 a5 => uQ I sr n A.in1 (by rw [in1_units]; lia) u w x y vu vw c a1 a2 a3 a4 a5) (by lia) r1 q1 r2 q2 e).1
  have refs:∀ a a2,v1 = .ref a → v2 = .ref a2 → SeqAt.EqAt A s v1 v2 b:=by
   intro a a2 e1 e2
   subst e1 e2
   by_cases hn:a = a2
   ·subst hn
    have hx:x = y:=q1.inj q2
    subst hx
    rw [wa I sr (n + 1) u w x b r1 r2 e]
    exact SeqAt.EqAt.same _
   ·exact SeqAt.EqAt.of_refs hn rc
  cases z1:vw st u with
  | none => unfold m_ at e; rw [z1] at e; cases e
  | some k1 =>
   cases z2:vw st w with
   | none => unfold m_ at e; rw [z1,z2] at e; cases k1 <;> cases e
   | some k2 =>
    have s1:=seen I sr r1 q1 z1
    have s2:=seen I sr r2 q2 z2
    unfold m_ at e
    rw [z1,z2] at e
    cases k1 with
    | tup us =>
     obtain ⟨a,aL,xs,rfl,p1,va,ra⟩:=s1
     cases k2 with
     | tup ws => obtain ⟨a2,dS,ys,rfl,p2,vb,rb⟩:=s2; exact refs a a2 rfl rfl
     | lst ws => obtain ⟨a2,dS,ys,rfl,p2,vb,rb⟩:=s2; exact refs a a2 rfl rfl
     | m5 =>
      cases e
      rcases s2 with ⟨_,rfl⟩ | ⟨k,_,rfl⟩ | ⟨k,t,_,rfl⟩ | ⟨k,t,_,rfl⟩
      ·exact SeqAt.EqAt.tuple_none p1 (by lia)
      ·exact SeqAt.EqAt.tuple_bool _ p1 (by lia)
      ·exact SeqAt.EqAt.tuple_int _ _ p1 (by lia)
      ·exact SeqAt.EqAt.tuple_str _ _ p1 (by lia)
    | lst us =>
     obtain ⟨a,aL,xs,rfl,p1,va,ra⟩:=s1
     cases k2 with
     | tup ws => obtain ⟨a2,dS,ys,rfl,p2,vb,rb⟩:=s2; exact refs a a2 rfl rfl
     | lst ws => obtain ⟨a2,dS,ys,rfl,p2,vb,rb⟩:=s2; exact refs a a2 rfl rfl
     | m5 =>
      cases e
      rcases s2 with ⟨_,rfl⟩ | ⟨k,_,rfl⟩ | ⟨k,t,_,rfl⟩ | ⟨k,t,_,rfl⟩
      ·exact SeqAt.EqAt.list_none p1 (by lia)
      ·exact SeqAt.EqAt.list_bool _ p1 (by lia)
      ·exact SeqAt.EqAt.list_int _ _ p1 (by lia)
      ·exact SeqAt.EqAt.list_str _ _ p1 (by lia)
    | m5 =>
     cases k2 with
     | tup ws =>
      obtain ⟨a2,dS,ys,rfl,p2,vb,rb⟩:=s2
      cases e
      rcases s1 with ⟨_,rfl⟩ | ⟨k,_,rfl⟩ | ⟨k,t,_,rfl⟩ | ⟨k,t,_,rfl⟩
      ·exact SeqAt.EqAt.none_tuple p2 (by lia)
      ·exact SeqAt.EqAt.bool_tuple _ p2 (by lia)
      ·exact SeqAt.EqAt.int_tuple _ _ p2 (by lia)
      ·exact SeqAt.EqAt.str_tuple _ _ p2 (by lia)
     | lst ws =>
      obtain ⟨a2,dS,ys,rfl,p2,vb,rb⟩:=s2
      cases e
      rcases s1 with ⟨_,rfl⟩ | ⟨k,_,rfl⟩ | ⟨k,t,_,rfl⟩ | ⟨k,t,_,rfl⟩
      ·exact SeqAt.EqAt.none_list p2 (by lia)
      ·exact SeqAt.EqAt.bool_list _ p2 (by lia)
      ·exact SeqAt.EqAt.int_list _ _ p2 (by lia)
      ·exact SeqAt.EqAt.str_list _ _ p2 (by lia)
     | m5 =>
      injection e with e
      subst e
      exact Cp s1 s2
noncomputable def gb:F2:=fun u w st => match m_ 16 st u w with
 | some b => .ok (.bl b) st
 | none => .bad
noncomputable def jW:F2:=fun u w st => match m_ 16 st u w with
 | some b => .ok (.bl (!b)) st
 | none => .bad
theorem dH {E:XK} (hu:X.A.units + 64 < cLine):ef X (compareOp .Eq) (rM (wo X) E gb):=by
 intro pins s σ H x y v u Q I rx ry h
 obtain ⟨ρ,st,u1,w1,sr,r1,r2,h⟩:=h
 unfold gb at h
 split at h
 ·rename_i b e
  exact (FF I sr 15 (uQ I sr 15 X.A.in1 (by rw [in1_units]; lia)) (by lia) r1 rx r2 ry e).1 X.prog X.w X.xe (EP X pins σ Q) ⟨.bl b,H,I,rfl,jV sr h⟩
 ·exact h.elim
theorem iO {E:XK} (hu:X.A.units + 64 < cLine):ef X (compareOp .NotEq) (rM (wo X) E jW):=by
 intro pins s σ H x y v u Q I rx ry h
 obtain ⟨ρ,st,u1,w1,sr,r1,r2,h⟩:=h
 unfold jW at h
 split at h
 ·rename_i b e
  exact (FF I sr 15 (uQ I sr 15 X.A.in1 (by rw [in1_units]; lia)) (by lia) r1 rx r2 ry e).2 X.prog X.w X.xe (EP X pins σ Q) ⟨.bl (!b),H,I,rfl,jV sr h⟩
 ·exact h.elim
noncomputable def D0 (st:ai):Val → Option (List Val)
 | .tup us => some us
 | .mt us => some us
 | .loc n => itemsOf st n
 | _ => none
noncomputable def FG (neg:Bool):F2:=fun u w st => match D0 st w with
 | some us => if flat u = true ∧ us.all flat = true then .ok (.bl (if neg then !us.any (fun y => FE y u) else us.any (fun y => FE y u))) st else .bad
 | none => .bad
theorem jX {K:PySem.W.Frag} {u w:Val} {x y:V} (f1:flat u = true) (f2:flat w = true) (r1:Rl K ρ H u x) (r2:Rl K ρ H w y):iH x = true ∧ iH y = true ∧ Bs x y = FE u w:=by
 cases u <;> (try cases f1) <;> cases w <;> (try cases f2) <;>
  (first | (have z1:=Rl.cz r1; subst z1) | (have z1:=Rl.qV r1; subst z1) | (have z1:=Rl.iL r1; subst z1) | (have z1:=Rl.nP r1; subst z1)) <;>
  (first | (have z2:=Rl.cz r2; subst z2) | (have z2:=Rl.qV r2; subst z2) | (have z2:=Rl.iL r2; subst z2) | (have z2:=Rl.nP r2; subst z2)) <;> exact ⟨rfl,rfl,rfl⟩
theorem jY {K:PySem.W.Frag} {u:Val} {x:V} (f:flat u = true) (r:Rl K ρ H u x):∀ {us:List Val} {vs:List V},us.all flat = true → aW K ρ H us vs → vs.all iH = true ∧ J5 x vs = us.any fun y => FE y u
 | [],vs,_,h => by rw [h.fD]; exact ⟨rfl,rfl⟩
 | w :: us,vs,hf,h => by
  obtain ⟨v,r',rfl,h2,h3⟩:=h.cH
  rw [List.all_cons,Bool.and_eq_true] at hf
  obtain ⟨a,b,c⟩:=jX hf.1 f h2 r
  obtain ⟨d,e⟩:=jY f r hf.2 h3
  refine ⟨by rw [List.all_cons,a,d]; rfl,?_⟩
  show (Bs v x || J5 x r') = _
  rw [c,e]; rfl
theorem Cq {E:XK} {neg:Bool} {x y:V} {H:Hp} {Q:VK} (h:rM (wo X) E (FG neg) x y H Q):QM X.K neg x y H Q:=by
 obtain ⟨ρ,st,u,w,sr,r1,r2,h⟩:=h
 unfold FG at h
 split at h
 ·rename_i us e
  split at h
  ·rename_i hz
   cases w with
   | tup ws =>
    cases e
    obtain ⟨a,vs,rfl,ha,ra⟩:=r2.gw
    obtain ⟨q1,q2⟩:=jY hz.1 r1 hz.2 ra
    refine ⟨a,vs,rfl,.inr ha,(jX hz.1 hz.1 r1 r1).1,q1,?_⟩
    rw [q2]
    exact jV sr h
   | mt ws =>
    cases e
    obtain ⟨a,vs,rfl,ha,ra⟩:=r2.Q4
    obtain ⟨q1,q2⟩:=jY hz.1 r1 hz.2 ra
    refine ⟨a,vs,rfl,.inr ha,(jX hz.1 hz.1 r1 r1).1,q1,?_⟩
    rw [q2]
    exact jV sr h
   | loc n =>
    obtain ⟨a,rfl,ha⟩:=r2.eR
    obtain ⟨vs,hs,ra⟩:=bp sr e ha
    obtain ⟨q1,q2⟩:=jY hz.1 r1 hz.2 ra
    refine ⟨a,vs,rfl,.inl hs,(jX hz.1 hz.1 r1 r1).1,q1,?_⟩
    rw [q2]
    exact jV sr h
   | _ => cases e
  ·exact h.elim
 ·exact h.elim
theorem FH {E:XK}:ef X (compareOp .In) (rM (wo X) E (FG false)):=ef.imp xh fun _ _ _ _ h => Cq h
end
end MN
namespace MN
open PySem PySem.Spec L2
open PyProof.Rows hiding St
section
variable {X:Cx} {E:XK} {pos:Pos}
noncomputable def bL:F2
 | .tup us,.int i,st => match nF us i with
  | some v => .ok v st
  | none => .bad
 | .loc n,.int i,st => match itemsOf st n with
  | some us => match nF us i with
   | some v => .ok v st
   | none => .bad
  | none => .bad
 | .str z,.int i,st => if z.length ≤ sizeLine then (match nF z.cps.toList i with
   | some c => .ok (.str ⟨#[c]⟩) st
   | none => .bad) else .bad
 | _,_,_ => .bad
theorem aW.nF {K:PySem.W.Frag} {ρ:List Addr} {H:Hp} {us:List Val} {vs:List V} {i:Int} {u:Val} (r:aW K ρ H us vs) (h:nF us i = some u):∃ v,L2.nF vs i = some v ∧ Rl K ρ H u v:=by
 unfold L2.nF at h ⊢
 rw [← r.length]
 cases z:xg us.length i with
 | none => rw [z] at h; cases h
 | some j =>
  rw [z] at h
  obtain ⟨v,h1,h2⟩:=r.get (show us[j]? = some u from h)
  exact ⟨v,h1,h2⟩
theorem L_:uk X (rM (wo X) E bL):=by
 refine uk.imp (uk.or BY (uk.or uE E8)) ?_
 rintro x y H Q ⟨ρ,st,u,w,sr,r1,r2,h⟩
 cases u <;> cases w <;> try exact h.elim
 case tup.int us i =>
  unfold bL at h
  dsimp only at h
  split at h
  ·rename_i v e
   obtain ⟨a,vs,rfl,ha,ra⟩:=r1.gw
   obtain ⟨z,h1,h2⟩:=ra.nF e
   exact .inr (.inl ⟨a,vs,i,z,rfl,r2.cz,ha,h1,h ρ H z (Step.refl _ _) sr h2⟩)
  ·exact h.elim
 case loc.int n i =>
  unfold bL at h
  dsimp only at h
  split at h
  ·rename_i us e
   split at h
   ·rename_i v e'
    obtain ⟨a,rfl,ha⟩:=r1.eR
    obtain ⟨vs,hs,rv⟩:=bp sr e ha
    obtain ⟨z,h1,h2⟩:=rv.nF e'
    exact .inl ⟨a,vs,i,z,rfl,r2.cz,hs,h1,h ρ H z (Step.refl _ _) sr h2⟩
   ·exact h.elim
  ·exact h.elim
 case str.int z i =>
  unfold bL at h
  dsimp only at h
  split at h
  ·rename_i hz
   split at h
   ·rename_i c e
    exact .inr (.inr ⟨z,i,c,r1.iL,r2.cz,hz,e,h ρ H _ (Step.refl _ _) sr (Rl.mkStr _)⟩)
   ·exact h.elim
  ·exact h.elim
noncomputable def fg:FN
 | [.tup us],st => .ok (.int us.length) st
 | [.loc n],st => match itemsOf st n with
  | some us => .ok (.int us.length) st
  | none => .bad
 | [.str z],st => if z.length ≤ sizeLine then .ok (.int z.length) st else .bad
 | _,_ => .bad
theorem fh:cQ X (.builtin "len") (cM (wo X) E fg):=by
 refine cQ.imp (cQ.or qM qN) ?_
 rintro xs H Q ⟨ρ,st,us,sr,r,h⟩
 match us,r,h with
 | [],_,h => exact h.elim
 | [.tup ws],r,h =>
  obtain ⟨v,rfl,r1⟩:=r.yw
  obtain ⟨a,vs,rfl,ha,ra⟩:=r1.gw
  refine .inl ⟨a,vs,rfl,.inr ha,?_⟩
  rw [← ra.length]; exact dq sr h
 | [.loc n],r,h =>
  obtain ⟨v,rfl,r1⟩:=r.yw
  obtain ⟨a,rfl,ha⟩:=r1.eR
  unfold fg at h
  dsimp only at h
  split at h
  ·rename_i ws e
   obtain ⟨vs,hs,rv⟩:=bp sr e ha
   refine .inl ⟨a,vs,rfl,.inl hs,?_⟩
   rw [← rv.length]; exact dq sr h
  ·exact h.elim
 | [.str z],r,h =>
  obtain ⟨v,rfl,r1⟩:=r.yw
  unfold fg at h
  dsimp only at h
  split at h
  ·rename_i hz
   exact .inr ⟨z,by rw [r1.iL],hz,dq sr h⟩
  ·exact h.elim
 | [.e7],_,h => exact h.elim
 | [.bl _],_,h => exact h.elim
 | [.int _],_,h => exact h.elim
 | [.exc _],_,h => exact h.elim
 | [.fn _ _],_,h => exact h.elim
 | [.mt _],_,h => exact h.elim
 | x :: y :: r,_,h => cases x <;> exact h.elim
noncomputable def pf:FN
 | [.tup us],st => .ok (.tup us) st
 | [.loc n],st => match itemsOf st n with
  | some us => .ok (.tup us) st
  | none => .bad
 | _,_ => .bad
theorem pX:cQ X (.type "tuple") (cM (wo X) E pf):=by
 refine cQ.imp o8 ?_
 rintro xs H Q ⟨ρ,st,us,sr,r,h⟩
 unfold pf at h
 split at h
 ·rename_i ws
  obtain ⟨v,rfl,r1⟩:=r.yw
  obtain ⟨a,vs,rfl,ha,ra⟩:=r1.gw
  exact ⟨a,vs,rfl,.inr ⟨ha,h ρ H _ (Step.refl _ _) sr r1⟩⟩
 ·rename_i n
  obtain ⟨v,rfl,r1⟩:=r.yw
  obtain ⟨a,rfl,ha⟩:=r1.eR
  split at h
  ·rename_i ws e
   obtain ⟨vs,hs,rv⟩:=bp sr e ha
   refine ⟨a,vs,rfl,.inl ⟨hs,fun l hl => ?_⟩⟩
   have s:=dG (o:=.tup vs) hl
   exact h ρ _ _ (Step.same s) (sr.grow s) (Rl.pV bh (aW.mono (Step.same s) _ _ rv))
  ·exact h.elim
 ·exact h.elim
noncomputable def ph:FN
 | [.tup us],st => .ok (.loc st.length) (st ++ [.lst us])
 | [.loc n],st => match itemsOf st n with
  | some us => .ok (.loc st.length) (st ++ [.lst us])
  | none => .bad
 | _,_ => .bad
theorem pZ:cQ X (.type "list") (cM (wo X) E ph):=by
 refine cQ.imp qO ?_
 rintro xs H Q ⟨ρ,st,us,sr,r,h⟩
 unfold ph at h
 split at h
 ·rename_i ws
  obtain ⟨v,rfl,r1⟩:=r.yw
  obtain ⟨a,vs,rfl,ha,ra⟩:=r1.gw
  refine ⟨a,vs,rfl,.inr ha,fun l hl => ?_⟩
  obtain ⟨k1,k2,k3⟩:=gy sr ra hl
  exact h _ _ _ k1 k2 k3
 ·rename_i n
  obtain ⟨v,rfl,r1⟩:=r.yw
  obtain ⟨a,rfl,ha⟩:=r1.eR
  split at h
  ·rename_i ws e
   obtain ⟨vs,hs,rv⟩:=bp sr e ha
   refine ⟨a,vs,rfl,.inl hs,fun l hl => ?_⟩
   obtain ⟨k1,k2,k3⟩:=gy sr rv hl
   exact h _ _ _ k1 k2 k3
  ·exact h.elim
 ·exact h.elim
noncomputable def jZ:List Val → Option (List Bool)
 | [] => some []
 | .bl b :: r => (jZ r).map (b :: ·)
 | _ => none
theorem p4 {K:PySem.W.Frag} {ρ:List Addr} {H:Hp}:∀ {us:List Val} {bs:List Bool} {vs:List V} {aL:List Value},jZ us = some bs → aW K ρ H us vs → Vals vs aL → LSm.BoolsAre aL bs
 | [],bs,vs,aL,h,r,v => by
  cases h
  have:=r.fD
  subst this
  cases v
  exact .nil
 | u :: us,bs,vs,aL,h,r,v => by
  cases u with
  | bl b =>
   simp only [jZ] at h
   cases z:jZ us with
   | none => rw [z] at h; cases h
   | some VB =>
    rw [z] at h
    cases h
    obtain ⟨x,r',rfl,h2,h3⟩:=r.cH
    have:=h2.qV
    subst this
    cases v with
    | cons q1 q2 =>
     cases q1
     exact .cons b (p4 z h3 q2)
  | _ => cases h
theorem nX (hh:X.A.handled = none):cQ X (.builtin "all") (fun xs H Q => ∃ a ρ us vs bs,xs = [.ref a] ∧ lR X.K H a vs ∧ aW X.K ρ H us vs ∧ jZ us = some bs ∧ Q (.bl (bs.all id)) H):=by
 rintro pins s σ H xs ws Q I r ⟨a,ρ,us,vs,bs,rfl,hs,rv,hb,q⟩
 obtain ⟨u,rfl,ru⟩:=vals1 r
 cases ru
 obtain ⟨aL,r1,p1,_⟩:=I.list hs
 have B:=p4 hb rv r1
 have hl:=p1.isList
 have vS:a < s.heap.objs.size:=by obtain ⟨_,e,_⟩:=hl; exact Heap.lt_size e
 refine call_all_walk (wpAny_pyIter_list hl ?_)
 refine ⟨s.heap.objs.size,[s.heap.objs.size,a],[s.heap.objs.size],aL.toArray.size,_,_,fun i => (bs[i]?).getD true,rfl,Walks.list (A:=X.A.in1) hh _ a (Nat.ne_of_lt vS) aL.toArray,
  ⟨⟨_,Heap.get?_push_size _ rfl,rfl,rfl⟩,hl.push _⟩,fun i v s' Q' E' hP hQ => ?_,fun h' tk hk => ?_⟩
 ·obtain ⟨b,e,rfl⟩:=B.get i v (by simpa using hP)
  simp only [e,Option.getD_some] at hQ
  exact wpAny_truthy_bool hQ
 ·have e:((List.range aL.toArray.size).all fun i => (bs[i]?).getD true) = bs.all id:=by
   rw [List.size_toArray,B.length]; exact LSm.range_all bs
  rw [e]
  exact ⟨.bl _,H,I.kept (LSm.kept_iter hk),rfl,q⟩
noncomputable def zG:FN
 | [.loc n],st => match itemsOf st n with
  | some us => match jZ us with
   | some bs => .ok (.bl (bs.all id)) st
   | none => .bad
  | none => .bad
 | _,_ => .bad
theorem xB (hh:X.A.handled = none):cQ X (.builtin "all") (cM (wo X) E zG):=by
 refine cQ.imp (nX hh) ?_
 rintro xs H Q ⟨ρ,st,us,sr,r,h⟩
 unfold zG at h
 split at h
 ·rename_i n
  obtain ⟨v,rfl,r1⟩:=r.yw
  obtain ⟨a,rfl,ha⟩:=r1.eR
  split at h
  ·rename_i ws e
   split at h
   ·rename_i bs hb
    obtain ⟨vs,hs,rv⟩:=bp sr e ha
    exact ⟨a,ρ,ws,vs,bs,rfl,hs,rv,hb,jV sr h⟩
   ·exact h.elim
  ·exact h.elim
 ·exact h.elim
noncomputable def kindOf (st:ai):Val → Option String
 | .e7 => some "NoneType"
 | .bl _ => some "bool"
 | .int _ => some "int"
 | .str _ => some "str"
 | .tup _ => some "tuple"
 | .loc n => match st[n]? with
  | some (.lst _) => some "list"
  | some (.DX _) => some "list"
  | some (.mod _) => none
  | some (.dK _) => some "dict"
  | some (.dT _) => some "dict"
  | _ => none
 | _ => none
noncomputable def IF (T:String) (st:ai) (v:Val):Option Bool:=(kindOf st v).map fun k => k == T || (k == "bool" && T == "int")
noncomputable def uR (T:String) (m:ME):ME:=fun μ st => (m μ st).bind fun v aw => match IF T aw v with
 | some b => .ok (.bl b) aw
 | none => .bad
noncomputable def zH (K:PySem.W.Frag) (T:String):Prop:=∀ k ∈ ["NoneType","bool","int","str","tuple","list","dict"],PySem.W.kitOne K (.type k) (.type T) = some (k == T || (k == "bool" && T == "int"))
theorem uS {st:ai} {v:Val} {k:String} (h:kindOf st v = some k):k ∈ ["NoneType","bool","int","str","tuple","list","dict"]:=by
 unfold kindOf at h
 split at h
 all_goals first
  | (cases h; decide)
  | (split at h <;> first | (cases h; decide) | cases h)
  | cases h
theorem zI {pins:List (Addr × Obj)} {σ:St} {H:Hp} {s:Shared} {A:Around} {E:Value → Shared → Prop} {Q:Value → Shared → Prop} {c:Value} {b:Bool} {ρ:List Addr} {st:ai} {u:Val} {x:V} {v:Value} {k:String}
  (I:Inv X pins σ H s) (sr:SR X.K ρ st H) (r:Rl X.K ρ H u x) (q:RelV x v) (hk:kindOf st u = some k) (e:PySem.W.kitOne X.K (.type k) c = some b) (h:∀ tk,Q (.bool b) { s with toks:=tk }) :
  wpAny (model X.prog X.w) A (call (.builtin "isinstance") [v,c]) Q E s:=by
 cases u with
 | e7 => cases hk; have:=r.nP; subst this; exact eB I q .e7 e h
 | bl y => cases hk; have:=r.qV; subst this; exact eB I q (.bl y) e h
 | int i => cases hk; have:=r.cz; subst this; exact eB I q (.int i) e h
 | str y => cases hk; have:=r.iL; subst this; exact eB I q (.str y) e h
 | tup us =>
  cases hk
  obtain ⟨a,vs,rfl,ha,ra⟩:=r.gw
  cases q
  obtain ⟨aL,r1,⟨o,h1,h2,_⟩,_⟩:=I.tuple ha
  exact PySem.W.kia_one PySem.W.kitx_tuple I.pI ⟨o,h1,h2⟩ e (fun z => nomatch z) h
 | loc n =>
  obtain ⟨a,rfl,ha⟩:=r.eR
  obtain ⟨cl,hc,kc⟩:=sr.there ha
  simp only [kindOf,hc] at hk
  cases cl with
  | lst us => cases hk; obtain ⟨vs,h1,_⟩:=kc; exact eB I q (.lst h1) e h
  | DX us => cases hk; obtain ⟨o,vs,h1,_⟩:=kc; exact eB I q (.fN h1) e h
  | mod us => cases hk
  | dK us => cases hk; obtain ⟨vs,h1,_⟩:=kc; exact eB I q (.dK h1) e h
  | dT us => cases hk; obtain ⟨vs,h1,_⟩:=kc; exact eB I q (.dT h1) e h
  | tab _ _ _ _ => cases hk
 | exc c => cases hk
 | fn k c => cases hk
 | mt us => cases hk
theorem jA {T:String} {x:Str} {e:Expr} {m:ME} {p q:Pos} (hK:zH X.K T) (hg:Gl X "isinstance") (hm:X.mg "isinstance" = none) (SK:Gl X x) (SM:X.mg x = none) (SN:bootBuiltins x = some (.type T)) (he:PE X e (tE X E m))
  (hn:x ≠ "__name__":=by decide) (hd:(x == ("__debug__":Str)) = false:=by decide)
  (hs:starEach [e,.Name x q] X.env = (false,eval e X.env) :: starEach [.Name x q] X.env:=by rfl) (gR:starEach [.Name x q] X.env = (false,eval (.Name x q) X.env) :: starEach [] X.env:=by rfl)
  (jo:(backTo pos (starEach [.Name x q] X.env)).any (·.1) = false:=by rfl):PE X (.Call (.Name "isinstance" p) [e,.Name x q] [] pos) (tE X E (uR T m)):=by
 have hc:cQ X (.builtin "isinstance") (fun xs H Q => ∃ y ρ st u k b,xs = [y,.ty T] ∧ SR X.K ρ st H ∧ Rl X.K ρ H u y ∧ kindOf st u = some k ∧ PySem.W.kitOne X.K (.type k) (.type T) = some b ∧ Q (.bl b) H):=by
  rintro pins s σ H xs us Q I r ⟨y,ρ,st,u,k,b,rfl,sr,r1,h1,h2,h3⟩
  obtain ⟨v1,v2,rfl,q1,q2⟩:=vals2 r
  cases q2
  exact zI I sr r1 q1 h1 h2 fun tk => ⟨.bl b,H,I.tok tk,rfl,h3⟩
 refine PE.imp (si hc hg hm PyProof.Rows.boot_isinstance (jP he (jP (BB (v:=.ty T) SK SM SN rfl hn hd) uA gR) hs) (by decide) (by decide) hs jo) ?_
 rintro σ H Q ⟨μ,ρ,st,rs,sr,h⟩
 refine go μ ρ st rs sr h fun u aX ρ1 H1 x e1 cn r1 h1 => ?_
 cases z:kindOf aX u with
 | none => simp only [IF,z] at h1; exact h1.elim
 | some k =>
  simp only [IF,z] at h1
  exact ⟨x,ρ1,aX,u,k,_,rfl,cn,r1,z,hK k (uS z),jV cn h1⟩
end
theorem sM {K:PySem.W.Frag}:zH K "int":=by
 intro k hk
 simp only [List.mem_cons,List.mem_nil_iff,or_false] at hk
 rcases hk with rfl | rfl | rfl | rfl | rfl | rfl | rfl <;> first | rfl | kernel_rfl
theorem p5 {K:PySem.W.Frag}:zH K "bool":=by
 intro k hk
 simp only [List.mem_cons,List.mem_nil_iff,or_false] at hk
 rcases hk with rfl | rfl | rfl | rfl | rfl | rfl | rfl <;> first | rfl | kernel_rfl
theorem nY {K:PySem.W.Frag}:zH K "tuple":=by
 intro k hk
 simp only [List.mem_cons,List.mem_nil_iff,or_false] at hk
 rcases hk with rfl | rfl | rfl | rfl | rfl | rfl | rfl <;> first | rfl | kernel_rfl
theorem xC {K:PySem.W.Frag}:zH K "list":=by
 intro k hk
 simp only [List.mem_cons,List.mem_nil_iff,or_false] at hk
 rcases hk with rfl | rfl | rfl | rfl | rfl | rfl | rfl <;> first | rfl | kernel_rfl
end MN
namespace MN
open PySem PySem.Spec L2
open PyProof.Rows hiding St
noncomputable abbrev AS:=Val → Env → Option Env
noncomputable def aName (i:Nat):AS:=fun v μ => some (μ.set i (some v))
noncomputable def p6:List AS → List Val → Env → Option Env
 | [],[],μ => some μ
 | a :: as,v :: vs,μ => (a v μ).bind fun μ' => p6 as vs μ'
 | _,_,_ => none
noncomputable def jh (l:List AS):AS:=fun v μ => match v with
 | .tup vs => p6 l vs μ
 | _ => none
noncomputable def tA (W:Wo) (a:AS):TG:=fun v σ H Q => ∃ μ ρ u μ',RS W ρ H μ σ ∧ Rl W.K ρ H u v ∧ a u μ = some μ' ∧ ∀ σ',RS W ρ H μ' σ' → Q σ' H
noncomputable def Ko (W:Wo) (l:List AS):BH:=fun vs σ H Q => ∃ μ ρ us μ',RS W ρ H μ σ ∧ aW W.K ρ H us vs ∧ p6 l us μ = some μ' ∧ ∀ σ',RS W ρ H μ' σ' → Q σ' H
section
variable {X:Cx} {pos:Pos}
theorem wZ.imp {e:List Expr} {t t':BH} (h:wZ X e t) (k:∀ v σ H Q,t' v σ H Q → t v σ H Q):wZ X e t':=fun pins s σ H v u Q I r q => h pins s σ H v u Q I r (k v σ H Q q)
theorem bc (i:Nat) {x:Str} (hN:X.N.Nodup) (hi:X.N[i]? = some x:=by rfl) (hx:Loc X.env.scope x:=by first | exact Or.inl rfl | exact Or.inr rfl) (hf:X.fn x = true ∨ X.env.scope.names.lookup x = some .local:=by first | exact .inl rfl | exact .inr rfl | assumption):PG X (.Name x pos) (tA (wo X) (aName i)):=by
 refine PG.imp (BI hN hi hx hf) ?_
 rintro v σ H Q ⟨μ,ρ,u,μ',rs,r,e,q⟩
 cases e
 exact q _ (rs.set i r)
theorem ng:wZ X [] (Ko (wo X) []):=by
 refine wZ.imp BJ ?_
 rintro vs σ H Q ⟨μ,ρ,us,μ',rs,r,e,q⟩
 cases us with
 | nil => cases e; exact ⟨r.fD,q σ rs⟩
 | cons => cases e
theorem fG {e:Expr} {es:List Expr} {a:AS} {as:List AS} (h1:PG X e (tA (wo X) a)) (h2:wZ X es (Ko (wo X) as)) (hs:(assignEach (e :: es) X.env).map (·.2) = assign e X.env :: (assignEach es X.env).map (·.2):=by rfl):wZ X (e :: es) (Ko (wo X) (a :: as)):=by
 refine wZ.imp (yE h1 h2 hs) ?_
 rintro vs σ H Q ⟨μ,ρ,us,μ',rs,r,e,q⟩
 cases us with
 | nil => cases e
 | cons u us =>
  obtain ⟨v,r',rfl,ru,rr⟩:=r.cH
  unfold p6 at e
  cases z:a u μ with
  | none => rw [z] at e; cases e
  | some μ1 =>
   rw [z] at e
   exact ⟨v,r',rfl,μ,ρ,u,μ1,rs,ru,z,fun σ1 G5 => ⟨μ1,ρ,us,μ',G5,rr,e,q⟩⟩
theorem qZ {es:List Expr} {k:Nat} {l:List AS} (hc:X.calm = true) (h:wZ X es (Ko (wo X) l)) (hn:(assignEach es X.env).length = l.length:=by rfl) (yu:(assignEach es X.env).findIdx? (·.1) = none:=by rfl):PG X (.Tuple es k pos) (tA (wo X) (jh l)):=by
 refine PG.imp (EB hc h hn yu) ?_
 rintro v σ H Q ⟨μ,ρ,u,μ',rs,r,e,q⟩
 cases u with
 | tup us =>
  obtain ⟨a,vs,rfl,ha,ra⟩:=r.gw
  have len:∀ (l:List AS) (us:List Val) (μ:Env),p6 l us μ = some μ' → us.length = l.length:=by
   intro l
   induction l with
   | nil => intro us μ e; cases us with | nil => rfl | cons => cases e
   | cons a l ih =>
    intro us μ e
    cases us with
    | nil => cases e
    | cons u us =>
     unfold p6 at e
     cases z:a u μ with
     | none => rw [z] at e; cases e
     | some μ1 => rw [z] at e; rw [List.length_cons,List.length_cons,ih us μ1 e]
  exact ⟨a,vs,rfl,ha,by rw [← ra.length]; exact len _ _ _ e,μ,ρ,us,μ',rs,ra,e,q⟩
 | _ => cases e
noncomputable def SQ (a:AS) (m:ME):MB:=fun μ st => (m μ st).sb μ fun v aw => match a v μ with
 | some μ' => .nx μ' aw
 | none => .bad
end
noncomputable abbrev Itm:=List Val × (ai → Prop)
noncomputable abbrev MI:=Env → ai → Res Itm
noncomputable def FI (K:PySem.W.Frag) (ρ0:List Addr) (H0:Hp) (p:Itm) (J:It):Prop :=
 ∀ ρ st H,Step ρ0 H0 ρ H → SR K ρ st H → p.2 st → ∀ i:Nat,
  (∀ u,p.1[i]? = some u → J.go i H ∧ ∀ x H',J.Hx i H x H' → Step ρ H ρ H' ∧ SR K ρ st H' ∧ Rl K ρ H' u x) ∧ (p.1.length ≤ i → J.stop i H)
noncomputable abbrev tI (X:Cx) (E:XK) (m:MI):TI:=tG (wo X) E (FI X.K) m
section
variable {X:Cx} {E:XK} {tg:Expr} {pos p:Pos}
theorem PI.imp {it:Expr} {t t':TI} (h:PI X tg it t) (k:∀ σ H Q,t' σ H Q → t σ H Q):PI X tg it t':=fun pins s σ H R I q => h pins s σ H R I (k σ H R q)
theorem FJ {l:Expr} {tl:TE} (hl:PE X l tl):PI X tg l (fun σ H R => tl σ H fun x H1 => ∃ a,x = .ref a ∧ (((∃ xs,lR X.K H1 a xs) ∧ R (Lc X.K a) H1) ∨ ((∃ xs,jd X.K H1 a xs) ∧ R (Ld X.K a) H1))):=by
 intro pins s σ H R I h
 refine cV (hl pins s σ H _ I h) fun v s1 ⟨x,H1,I1,r1,q1⟩ => ?_
 obtain ⟨a,e,q⟩:=q1
 subst e
 cases r1
 rcases q with ⟨⟨xs,hq⟩,q⟩ | ⟨⟨xs,hq⟩,q⟩
 ·obtain ⟨aL,rv,p,hz⟩:=I1.list hq
  refine wpAny_pyIter_list p.isList ?_
  refine ⟨s1.heap.objs.size,[s1.heap.objs.size],_,_,H1,rfl,I1.kept (t':=s1.toks) fun b o e => Heap.get?_push_of_some _ e,w4 a _,⟨_,Heap.get?_push_size _ rfl,rfl,rfl⟩,fun b hb => ?_,q⟩
  have e:b = s1.heap.objs.size:=by simpa using hb
  subst e
  exact I1.yG (Nat.le_refl _) (I1.bP.fresh (Nat.le_refl _))
 ·obtain ⟨aL,rv,p,hz⟩:=I1.tuple hq
  refine wpAny_pyIter_tuple (show s1.heap.IsTuple a aL.toArray from p) ?_
  refine ⟨s1.heap.objs.size,[s1.heap.objs.size],_,_,H1,rfl,I1.kept (t':=s1.toks) fun b o e => Heap.get?_push_of_some _ e,uq a _,⟨_,Heap.get?_push_size _ rfl,rfl,rfl⟩,fun b hb => ?_,q⟩
  have e:b = s1.heap.objs.size:=by simpa using hb
  subst e
  exact I1.yG (Nat.le_refl _) (I1.bP.fresh (Nat.le_refl _))
noncomputable def nZ (st:ai):Val → Option Itm
 | .tup us => some (us,fun _ => True)
 | .mt us => some (us,fun _ => True)
 | .loc n => (itemsOf st n).map fun us => (us,fun aw => itemsOf aw n = some us)
 | _ => none
noncomputable def e_ (m:ME):MI:=fun μ st => (m μ st).bind fun v aw => match nZ aw v with
 | some p => .ok p aw
 | none => .bad
theorem zJ {K:PySem.W.Frag} {ρ:List Addr} {H:Hp} {n:Nat} {us:List Val} {a:Addr} (ha:ρ[n]? = some a) (Ma:∀ {ρ':List Addr} {aw:ai} {H':Hp},SR K ρ' aw H' → itemsOf aw n = some us → ρ'[n]? = some a → ∃ vs,lR K H' a vs ∧ aW K ρ' H' us vs) :
  FI K ρ H (us,fun aw => itemsOf aw n = some us) (Lc K a):=by
 intro ρ' aw H' e sr g i
 obtain ⟨vs,hs,rv⟩:=Ma sr g (e.at_ ha)
 refine ⟨fun u hu => ?_,fun hi => ⟨vs,hs,by rw [← rv.length]; exact hi⟩⟩
 obtain ⟨v,hv,ru⟩:=rv.get hu
 refine ⟨⟨vs,v,hs,hv⟩,fun x Kp y => ?_⟩
 obtain ⟨rfl,y⟩:=y
 have e:=(y vs hs).symm.trans hv
 cases e
 exact ⟨Step.refl _ _,sr,ru⟩
theorem wb {K:PySem.W.Frag} {ρ:List Addr} {H:Hp} {us:List Val} {a:Addr} {vs:List V} (ha:jd K H a vs) (ra:aW K ρ H us vs):FI K ρ H (us,fun _ => True) (Ld K a):=by
 intro ρ' aw H' e sr g i
 have Mb:jd K H' a vs:=e.L3 ha
 have rv:=aW.mono e _ _ ra
 refine ⟨fun u hu => ?_,fun hi => ⟨vs,Mb,by rw [← rv.length]; exact hi⟩⟩
 obtain ⟨v,hv,ru⟩:=rv.get hu
 refine ⟨⟨vs,v,Mb,hv⟩,fun x Kp y => ?_⟩
 obtain ⟨rfl,y⟩:=y
 have e:=(y vs Mb).symm.trans hv
 cases e
 exact ⟨Step.refl _ _,sr,ru⟩
theorem gH {l:Expr} {m:ME} (hl:PE X l (tE X E m)):PI X tg l (tI X E (e_ m)):=by
 refine PI.imp (FJ hl) ?_
 rintro σ H R ⟨μ,ρ,st,rs,sr,h⟩
 refine go μ ρ st rs sr h fun u aX ρ1 H1 x e1 cn r1 h1 => ?_
 cases u with
 | tup us =>
  obtain ⟨a,vs,rfl,ha,ra⟩:=r1.gw
  exact ⟨a,rfl,.inr ⟨⟨vs,ha⟩,h1 ρ1 H1 _ (Step.refl _ _) cn (wb ha ra)⟩⟩
 | mt us =>
  obtain ⟨a,vs,rfl,ha,ra⟩:=r1.Q4
  exact ⟨a,rfl,.inr ⟨⟨vs,ha⟩,h1 ρ1 H1 _ (Step.refl _ _) cn (wb ha ra)⟩⟩
 | loc n =>
  obtain ⟨a,rfl,ha⟩:=r1.eR
  cases z:itemsOf aX n with
  | none => simp only [nZ,z] at h1; exact h1.elim
  | some us =>
   simp only [nZ,z] at h1
   obtain ⟨vs,hs,rv⟩:=bp cn z ha
   exact ⟨a,rfl,.inl ⟨⟨vs,hs⟩,h1 ρ1 H1 _ (Step.refl _ _) cn (zJ ha fun s g h => bp s g h)⟩⟩
 | _ => exact h1.elim
noncomputable def aR (lo:Int) (n:Nat):List Val:=(List.range n).map fun (i:Nat) => Val.int (lo + (i:Int))
theorem p7 {K:PySem.W.Frag} {ρ:List Addr} {H:Hp} (lo:Int) (n:Nat):FI K ρ H (aR lo n,fun _ => True) (Hy lo n):=by
 intro ρ' aw H' e sr g i
 refine ⟨fun u hu => ?_,fun hi => ?_⟩
 ·have hi:i < n:=by
   have:=eS hu
   simpa [aR] using this
  refine ⟨hi,fun x Kp y => ?_⟩
  obtain ⟨rfl,rfl⟩:=y
  have e:u = Val.int (lo + (i:Int)):=by
   simp only [aR,List.getElem?_map] at hu
   rw [List.getElem?_range hi] at hu
   exact (Option.some.inj hu).symm
  subst e
  exact ⟨Step.refl _ _,sr,Rl.mkInt _⟩
 ·show n ≤ i
  simpa [aR] using hi
noncomputable def a_ (m:MA):MI:=fun μ st => (m μ st).bind fun vs aw => match vs with
 | [.int j] => if -(2 ^ 62) ≤ j ∧ j < 2 ^ 62 then .ok (aR 0 j.toNat,fun _ => True) aw else .bad
 | _ => .bad
noncomputable def i8 (m:MA):MI:=fun μ st => (m μ st).bind fun vs aw => match vs with
 | [.int i,.int j] => if -(2 ^ 62) ≤ i ∧ i < 2 ^ 62 ∧ -(2 ^ 62) ≤ j ∧ j < 2 ^ 62 then .ok (aR i (j - i).toNat,fun _ => True) aw else .bad
 | _ => .bad
theorem cY {a:Expr} {m:MA} (hg:Gl X "range") (hm:X.mg "range" = none) (ha:PA X [a] (tL X E m)) (hs:starEach [a] X.env = [(false,eval a X.env)]:=by rfl):PI X tg (.Call (.Name "range" p) [a] [] pos) (tI X E (a_ m)):=by
 refine PI.imp (w6 hg hm ha hs) ?_
 rintro σ H R ⟨μ,ρ,st,rs,sr,h⟩
 refine go (R1:=aW X.K) μ ρ st rs sr h fun us aX ρ1 H1 xs e1 cn r1 h1 => ?_
 split at h1
 ·rename_i j
  obtain ⟨v,rfl,rv⟩:=r1.yw
  split at h1
  ·rename_i hz
   exact ⟨j,by rw [rv.cz],hz.1,hz.2,h1 ρ1 H1 _ (Step.refl _ _) cn (p7 0 j.toNat)⟩
  ·exact h1.elim
 ·exact h1.elim
theorem xD {a b:Expr} {m:MA} (hg:Gl X "range") (hm:X.mg "range" = none) (ha:PA X [a,b] (tL X E m)) (hs:starEach [a,b] X.env = [(false,eval a X.env),(false,eval b X.env)]:=by rfl) (gR:starEach [b] X.env = [(false,eval b X.env)]:=by rfl) :
  PI X tg (.Call (.Name "range" p) [a,b] [] pos) (tI X E (i8 m)):=by
 refine PI.imp (w9 hg hm ha hs gR) ?_
 rintro σ H R ⟨μ,ρ,st,rs,sr,h⟩
 refine go (R1:=aW X.K) μ ρ st rs sr h fun us aX ρ1 H1 xs e1 cn r1 h1 => ?_
 split at h1
 ·rename_i i j
  obtain ⟨v,w,rfl,rv,sk⟩:=r1.Iw
  split at h1
  ·rename_i hz
   exact ⟨i,j,by rw [rv.cz,sk.cz],hz,h1 ρ1 H1 _ (Step.refl _ _) cn (p7 i _)⟩
  ·exact h1.elim
 ·exact h1.elim
noncomputable def gk (st:ai):Val → Option (Bool × Itm)
 | .tup us => some (false,us,fun _ => True)
 | .loc n => (itemsOf st n).map fun us => (true,us,fun aw => itemsOf aw n = some us)
 | _ => none
noncomputable def mI:List Val → List Val → List Val
 | x :: xs,y :: ys => .tup [x,y] :: mI xs ys
 | _,_ => []
theorem wc:∀ (us ws:List Val) (i:Nat),(∀ z,(mI us ws)[i]? = some z → ∃ u w,us[i]? = some u ∧ ws[i]? = some w ∧ z = .tup [u,w]) ∧ ((mI us ws).length ≤ i → us.length ≤ i ∨ ws.length ≤ i)
 | [],_,i => ⟨fun z h => (by cases h),fun _ => .inl (Nat.zero_le _)⟩
 | _ :: _,[],i => ⟨fun z h => (by cases h),fun _ => .inr (Nat.zero_le _)⟩
 | u :: us,w :: ws,0 => ⟨fun z h => (by cases h; exact ⟨u,w,rfl,rfl,rfl⟩),fun h => (by simp [mI] at h)⟩
 | u :: us,w :: ws,i + 1 => by
  obtain ⟨a,b⟩:=wc us ws i
  refine ⟨fun z h => a z h,fun h => ?_⟩
  have h':(mI us ws).length ≤ i:=by simpa [mI] using h
  rcases b h' with q | q
  ·exact .inl (by rw [List.length_cons]; lia)
  ·exact .inr (by rw [List.length_cons]; lia)
noncomputable def sN (b1 b2:Bool) (m:MA):MI:=fun μ st => (m μ st).bind fun vs aw => match vs with
 | [u,w] => match gk aw u,gk aw w with
  | some (c1,us,g1),some (c2,ws,g2) => if c1 = b1 ∧ c2 = b2 then .ok (mI us ws,fun bV => g1 bV ∧ g2 bV) aw else .bad
  | _,_ => .bad
 | _ => .bad
theorem wd {K:PySem.W.Frag} {ρ:List Addr} {st:ai} {H:Hp} {u:Val} {x:V} {c:Bool} {us:List Val} {g:ai → Prop} (sr:SR K ρ st H) (r:Rl K ρ H u x) (h:gk st u = some (c,us,g)) (Ma:∀ {ρ':List Addr} {aw:ai} {H':Hp} {n a},SR K ρ' aw H' → itemsOf aw n = some us → ρ'[n]? = some a → ∃ vs,lR K H' a vs ∧ aW K ρ' H' us vs) :
  ∃ a,x = .ref a ∧ ∀ ρ' aw H',Step ρ H ρ' H' → SR K ρ' aw H' → g aw → ∃ vs,uI c K H' a vs ∧ aW K ρ' H' us vs:=by
 cases u with
 | tup ws =>
  cases h
  obtain ⟨a,vs,rfl,ha,ra⟩:=r.gw
  exact ⟨a,rfl,fun ρ' aw H' e _ _ => ⟨vs,e.L3 ha,aW.mono e _ _ ra⟩⟩
 | loc n =>
  obtain ⟨a,rfl,ha⟩:=r.eR
  cases z:itemsOf st n with
  | none => simp only [gk,z] at h; cases h
  | some ws =>
   simp only [gk,z] at h
   cases h
   exact ⟨a,rfl,fun ρ' aw H' e s g => Ma s g (e.at_ ha)⟩
 | _ => cases h
theorem zK {st:ai} {u:Val} {c:Bool} {us:List Val} {g:ai → Prop} (h:gk st u = some (c,us,g)):g st:=by
 cases u with
 | tup ws => cases h; exact True.intro
 | loc n =>
  cases z:itemsOf st n with
  | none => simp only [gk,z] at h; cases h
  | some ws => simp only [gk,z] at h; cases h; exact z
 | _ => cases h
theorem FK (b1 b2:Bool) {elts:List Expr} {kt:Nat} {tp:Pos} {ea eb:Expr} {m:MA} (hg:Gl X "zip") (hm:X.mg "zip" = none) (ha:PA X [ea,eb] (tL X E m)) (hs:starEach [ea,eb] X.env = [(false,eval ea X.env),(false,eval eb X.env)]:=by rfl) (gR:starEach [eb] X.env = [(false,eval eb X.env)]:=by rfl) :
  PI X (.Tuple elts kt tp) (.Call (.Name "zip" p) [ea,eb] [] pos) (tI X E (sN b1 b2 m)):=by
 refine PI.imp (Fu b1 b2 hg hm ha hs gR) ?_
 rintro σ H R ⟨μ,ρ,st,rs,sr,h⟩
 refine go (R1:=aW X.K) μ ρ st rs sr h fun us aX ρ1 H1 xs e1 cn r1 h1 => ?_
 split at h1
 ·rename_i u w
  obtain ⟨x,y,rfl,rx,ry⟩:=r1.Iw
  split at h1
  ·rename_i c1 SS g1 c2 SU g2 z1 z2
   split at h1
   ·rename_i hc
    obtain ⟨rfl,rfl⟩:=hc
    obtain ⟨a,rfl,ka⟩:=wd cn rx z1 fun s g h => bp s g h
    obtain ⟨b,rfl,kb⟩:=wd cn ry z2 fun s g h => bp s g h
    obtain ⟨v1,q1,_⟩:=ka ρ1 aX H1 (Step.refl _ _) cn (zK z1)
    obtain ⟨v2,q2,_⟩:=kb ρ1 aX H1 (Step.refl _ _) cn (zK z2)
    refine ⟨a,b,rfl,⟨v1,q1⟩,⟨v2,q2⟩,h1 ρ1 H1 _ (Step.refl _ _) cn ?_⟩
    intro ρ' aw H' e s g i
    obtain ⟨w1,s1,t1⟩:=ka ρ' aw H' e s g.1
    obtain ⟨w2,s2,t2⟩:=kb ρ' aw H' e s g.2
    obtain ⟨k1,k2⟩:=wc SS SU i
    refine ⟨fun z hz => ?_,fun hi => ⟨w1,w2,s1,s2,?_⟩⟩
    ·obtain ⟨u',w',SV,SW,rfl⟩:=k1 z hz
     obtain ⟨p1,p2,p3⟩:=t1.get SV
     obtain ⟨o1,o2,o3⟩:=t2.get SW
     refine ⟨⟨w1,w2,p1,o1,s1,s2,p2,o2⟩,fun x' Kp y' => ?_⟩
     obtain ⟨pp,x1,y1,rfl,hp,rfl,f1,f2⟩:=y'
     have c1:=(f1 w1 s1).symm.trans p2
     have c2:=(f2 w2 s2).symm.trans o2
     cases c1
     cases c2
     exact ⟨Step.same (dG hp),s.grow (dG hp),Rl.pV bh (aW.mono (Step.same (dG hp)) _ _ (aW.cons p3 (aW.one o3)))⟩
    ·rw [← t1.length,← t2.length]; exact k2 hi
   ·exact h1.elim
  ·exact h1.elim
 ·exact h1.elim
end
open Classical in
noncomputable def forL (g:ai → Prop) (a:AS) (body:MB):List Val → MB
 | [],μ,st => if g st then .nx μ st else .bad
 | u :: us,μ,st => if g st then (match a u μ with
  | some μ1 => match body μ1 st with
   | .nx μ' aw => forL g a body us μ' aw
   | .ct μ' aw => forL g a body us μ' aw
   | .bk μ' aw => .nx μ' aw
   | .rt v aw => .rt v aw
   | .er c μ' aw => .er c μ' aw
   | .bad => .bad
  | none => .bad) else .bad
noncomputable def dr (it:MI) (a:AS) (body:MB):MB:=fun μ st => (it μ st).sb μ fun p aw => forL p.2 a body p.1 μ aw
section
variable {X:Cx} {E:XK} {tg:Expr} {pos p:Pos}
theorem dU {iter:Expr} {sb:List Stmt} {it:MI} {a:AS} {body:MB} (hp:PassesOwn (model X.prog X.w) X.A X.env X.xe) (hc:X.calm = true) (hi:PI X tg iter (tI X E it)) (hg:PG X tg (tA (wo X) a)) (hb:jO X sb (tS X E body))
  (hs:∀ x,foldedSetIterable iter X.env x = pure x:=by intro _; rfl):PS X (.For tg iter sb [] pos) (tS X E (dr it a body)):=by
 refine PS.imp (EG hp hc hi hg hb hs) ?_
 rintro D σ H ⟨μ,ρ,st,rs,sr,h⟩
 refine yy (R1:=FI X.K) μ ρ st rs sr h fun pr aX ρ1 H1 J e1 cn rJ h1 => ?_
 obtain ⟨us,g⟩:=pr
 refine ⟨fun i m σ' H' => m = us.length - i ∧ i ≤ us.length ∧ ∃ μ' ρ' aw,Step ρ1 H1 ρ' H' ∧ RS (wo X) ρ' H' μ' σ' ∧ SR X.K ρ' aw H' ∧ wS (wo X) E ρ' H' D (forL g a body (us.drop i) μ' aw),
  ⟨us.length,by simp,Nat.zero_le _,μ,ρ1,aX,Step.refl _ _,rs.mono e1,cn,h1⟩,?_⟩
 rintro i m σ' H' ⟨rfl,hi,μ',ρ',aw,e',yz,we,h'⟩
 by_cases vS:i < us.length
 ·rw [List.drop_eq_getElem_cons vS] at h'
  unfold forL at h'
  by_cases oV:g aw
  ·rw [if_pos oV] at h'
   obtain ⟨k1,k2⟩:=rJ ρ' aw H' e' we oV i
   obtain ⟨go',yl⟩:=k1 _ (List.getElem?_eq_getElem vS)
   refine .inr ⟨go',fun σ2 H2 => i + 1 ≤ us.length ∧ ∃ μ2 ρ2 bV,Step ρ1 H1 ρ2 H2 ∧ RS (wo X) ρ2 H2 μ2 σ2 ∧ SR X.K ρ2 bV H2 ∧ wS (wo X) E ρ2 H2 D (forL g a body (us.drop (i + 1)) μ2 bV),fun σ2 H2 n => ⟨us.length - (i + 1),by lia,rfl,n.1,n.2⟩,fun x H2 y => ?_⟩
   obtain ⟨e2,m9,r2⟩:=yl x H2 y
   cases z:a us[i] μ' with
   | none => rw [z] at h'; exact h'.elim
   | some μ1 =>
    rw [z] at h'
    dsimp only at h'
    refine ⟨μ',ρ',us[i],μ1,yz.mono e2,r2,z,fun σ3 G7 => ⟨μ1,ρ',aw,G7,m9,?_⟩⟩
    cases zb:body μ1 aw with
    | nx μ4 lX =>
     rw [zb] at h'
     intro ρ4 H4 σ4 e4 mJ uT
     exact ⟨by lia,μ4,ρ4,lX,(e'.trans e2).trans e4,uT,mJ,wS.mono h' (e2.trans e4)⟩
    | ct μ4 lX =>
     rw [zb] at h'
     intro ρ4 H4 σ4 e4 mJ uT
     exact ⟨by lia,μ4,ρ4,lX,(e'.trans e2).trans e4,uT,mJ,wS.mono h' (e2.trans e4)⟩
    | bk μ4 lX => rw [zb] at h'; exact fun ρ4 H4 σ4 e4 mJ uT => h' ρ4 H4 σ4 (e2.trans e4) mJ uT
    | rt v lX => rw [zb] at h'; exact fun ρ4 H4 σ4 e4 mJ uT => h' ρ4 H4 σ4 (e2.trans e4) mJ uT
    | er c μ4 lX => rw [zb] at h'; obtain ⟨C,q1,q2⟩:=h'; exact ⟨C,q1,fun ρ4 H4 e4 mJ => q2 ρ4 H4 (e2.trans e4) mJ⟩
    | bad => rw [zb] at h'; exact h'
  ·rw [if_neg oV] at h'; exact h'.elim
 ·have pS:i = us.length:=by lia
  subst pS
  rw [List.drop_length] at h'
  unfold forL at h'
  by_cases oV:g aw
  ·rw [if_pos oV] at h'
   exact .inl ⟨(rJ ρ' aw H' e' we oV us.length).2 (Nat.le_refl _),h' ρ' H' σ' (Step.refl _ _) we yz⟩
  ·rw [if_neg oV] at h'; exact h'.elim
end
noncomputable def fi (t:MT) (body:MB):Nat → Env → ai → Option dk
 | 0,_,_ => none
 | n + 1,μ,st => match t μ st with
  | .ok true aX => match body μ aX with
   | .nx μ' aw => fi t body n μ' aw
   | .ct μ' aw => fi t body n μ' aw
   | .bk μ' aw => some (.nx μ' aw)
   | .rt v aw => some (.rt v aw)
   | .er c μ' aw => some (.er c μ' aw)
   | .bad => some .bad
  | .ok false aX => some (.nx μ aX)
  | .err c aX => some (.er c μ aX)
  | .bad => some .bad
open Classical in
noncomputable def kL (t:MT) (body:MB):MB:=fun μ st => if h:∃ n r,fi t body n μ st = some r then h.choose_spec.choose else .bad
theorem iP {t:MT} {body:MB}:∀ {n m:Nat} {μ:Env} {st:ai} {r r':dk},fi t body n μ st = some r → fi t body m μ st = some r' → r = r'
 | 0,_,_,_,_,_,h,_ => by cases h
 | _ + 1,0,_,_,_,_,_,h => by cases h
 | n + 1,m + 1,μ,st,r,r',h,h' => by
  unfold fi at h h'
  split at h
  ·rename_i aX e
   rw [e] at h'
   dsimp only at h'
   split at h
   all_goals (rename_i eb; rw [eb] at h'; dsimp only at h')
   ·exact iP h h'
   ·exact iP h h'
   all_goals (cases h; cases h'; rfl)
  all_goals (rename_i e; rw [e] at h'; dsimp only at h'; cases h; cases h'; rfl)
theorem xE {t:MT} {body:MB} {n:Nat} {μ:Env} {st:ai} {r:dk} (h:fi t body n μ st = some r):kL t body μ st = r:=by
 have hx:∃ n r,fi t body n μ st = some r:=⟨n,r,h⟩
 unfold kL
 rw [dif_pos hx]
 exact iP hx.choose_spec.choose_spec h
section
variable {X:Cx} {E:XK} {pos:Pos}
theorem zL {c:Expr} {sb:List Stmt} {t:MT} {body:MB} (hp:PassesOwn (model X.prog X.w) X.A X.env X.xe) (hc:PT X c (tT X E t)) (hb:jO X sb (tS X E body)):PS X (.While c sb [] pos) (tS X E (kL t body)):=by
 refine PS.imp (yF hp hc hb) ?_
 rintro D σ H ⟨μ,ρ,st,rs,sr,h⟩
 unfold kL at h
 split at h
 ·rename_i hx
  have hr:=hx.choose_spec.choose_spec
  refine ⟨fun m σ' H' => ∃ μ' ρ' aw r,Step ρ H ρ' H' ∧ RS (wo X) ρ' H' μ' σ' ∧ SR X.K ρ' aw H' ∧ fi t body m μ' aw = some r ∧ wS (wo X) E ρ' H' D r,⟨_,μ,ρ,st,_,Step.refl _ _,rs,sr,hr,h⟩,?_⟩
  rintro m σ' H' ⟨μ',ρ',aw,r,e',yz,we,hw,hq⟩
  cases m with
  | zero => cases hw
  | succ m =>
   unfold fi at hw
   refine ⟨μ',ρ',aw,yz,we,?_⟩
   cases z:t μ' aw with
   | ok k aX =>
    rw [z] at hw
    intro ρ1 H1 k' e1 cn ek
    cases ek
    cases k with
    | true =>
     dsimp only at hw
     rw [if_pos rfl]
     refine ⟨fun σ2 H2 => ∃ μ2 ρ2 bV r2,Step ρ H ρ2 H2 ∧ RS (wo X) ρ2 H2 μ2 σ2 ∧ SR X.K ρ2 bV H2 ∧ fi t body m μ2 bV = some r2 ∧ wS (wo X) E ρ2 H2 D r2,fun σ2 H2 n => ⟨m,Nat.lt_succ_self m,n⟩,μ',ρ1,aX,yz.mono e1,cn,?_⟩
     cases zb:body μ' aX with
     | nx μ4 lX =>
      rw [zb] at hw
      intro ρ4 H4 σ4 e4 mJ uT
      exact ⟨μ4,ρ4,lX,r,(e'.trans e1).trans e4,uT,mJ,hw,wS.mono hq (e1.trans e4)⟩
     | ct μ4 lX =>
      rw [zb] at hw
      intro ρ4 H4 σ4 e4 mJ uT
      exact ⟨μ4,ρ4,lX,r,(e'.trans e1).trans e4,uT,mJ,hw,wS.mono hq (e1.trans e4)⟩
     | bk μ4 lX => rw [zb] at hw; cases hw; exact fun ρ4 H4 σ4 e4 mJ uT => hq ρ4 H4 σ4 (e1.trans e4) mJ uT
     | rt v lX => rw [zb] at hw; cases hw; exact fun ρ4 H4 σ4 e4 mJ uT => hq ρ4 H4 σ4 (e1.trans e4) mJ uT
     | er c μ4 lX => rw [zb] at hw; cases hw; obtain ⟨C,q1,q2⟩:=hq; exact ⟨C,q1,fun ρ4 H4 e4 mJ => q2 ρ4 H4 (e1.trans e4) mJ⟩
     | bad => rw [zb] at hw; cases hw; exact hq
    | false =>
     cases hw
     rw [if_neg Bool.false_ne_true]
     exact hq ρ1 H1 σ' e1 cn (yz.mono e1)
   | err c aX => rw [z] at hw; cases hw; exact hq
   | bad => rw [z] at hw; cases hw; exact hq
 ·exact h.elim
end
end MN
namespace MN
open PySem PySem.Spec L2
open PyProof.Rows hiding St
noncomputable def j4 (k:Nat) (caps:List Nat) (μ:Env):Env:=List.replicate k none ++ caps.map fun j => (μ[j]?).getD none
theorem RS.IG {W:Wo} {ρ:List Addr} {H:Hp} {μ:Env} {σ:L2.St} (r:RS W ρ H μ σ) (k:Nat) (caps:List Nat):RS W ρ H (j4 k caps μ) (mH k caps σ):=by
 refine ⟨by simp [j4,mH],fun i u e => ?_⟩
 unfold j4 at e
 rcases Nat.lt_or_ge i k with q | q
 ·rw [List.getElem?_append_left (by rw [List.length_replicate]; exact q),List.getElem?_replicate,if_pos q] at e
  cases e
 ·rw [List.getElem?_append_right (by rw [List.length_replicate]; exact q),List.length_replicate,List.getElem?_map] at e
  cases z:caps[i - k]? with
  | none => rw [z] at e; cases e
  | some j =>
   rw [z] at e
   have e':(μ[j]?).getD none = some u:=Option.some.inj e
   have e2:μ[j]? = some (some u):=by
    cases y:μ[j]? with
    | none => rw [y] at e'; cases e'
    | some w => rw [y] at e'; exact congrArg _ e'
   obtain ⟨v,h1,h2⟩:=r.at_ j u e2
   refine ⟨v,?_,h2⟩
   unfold mH
   rw [List.getElem?_append_right (by rw [List.length_replicate]; exact q),List.length_replicate,List.getElem?_map,z]
   show some ((σ[j]?).getD none) = _
   rw [h1]
   rfl
open Classical in
noncomputable def eI (g:ai → Prop) (a:AS) (c:MT) (e:ME):List Val → Env → ai → List Val → Res (List Val)
 | [],_,st,ys => if g st then .ok ys st else .bad
 | u :: us,τ,st,ys => if g st then (match a u τ with
  | some τ1 => match c τ1 st with
   | .ok true aX => match e τ1 aX with
    | .ok y bV => eI g a c e us τ1 bV (ys ++ [y])
    | .err _ _ => .bad
    | .bad => .bad
   | .ok false aX => eI g a c e us τ1 aX ys
   | .err _ _ => .bad
   | .bad => .bad
  | none => .bad) else .bad
noncomputable def cZ (k:Nat) (caps:List Nat) (it:MI) (a:AS) (c:MT) (e:ME):ME:=fun μ st => (it μ st).bind fun p aX =>
 if p.1.length ≤ sizeLine then (eI p.2 a c e p.1 (j4 k caps μ) aX []).bind fun ys bV => .ok (.loc bV.length) (bV ++ [.lst ys]) else .bad
noncomputable def cK:MT:=fun _ st => .ok true st
noncomputable abbrev W0 (X:Cx):Wo:=⟨X.K,X.mg,[]⟩
section
variable {X:Cx} {E:XK} {tg elt iter:Expr} {ifs:List Expr} {scope:Scope} {pos y8:Pos} {N:List Str} {cl:List (Str × Addr)} {k:Nat} {caps:List Nat} {it:MI} {a:AS} {c:MT} {e:ME}
theorem p8 (IH:X.pn = []) {σ:L2.St} {H:Hp} {Q:VK} (h:tE X E (cZ k caps it a c e) σ H Q):nL k caps (tI X E it) (tA (W0 X) a) (tG (W0 X) E0 RB c) (tG (W0 X) E0 (Rl X.K) e) σ H Q:=by
 obtain ⟨μ,ρ,st,rs,sr,h⟩:=h
 refine yY (go (R1:=FI X.K) μ ρ st rs sr h fun pr aX ρ1 H1 J e1 cn rJ h1 => ?_)
 obtain ⟨us,g⟩:=pr
 have ew:wo X = W0 X:=by show Wo.mk _ _ _ = _; rw [IH]
 have G5:=rs.mono e1
 rw [ew] at G5 h1
 dsimp only at h1
 split at h1
 ·rename_i hz
  refine Ce us.length hz (fun i ys τ H' => ∃ μτ ρ' aw yv,Step ρ1 H1 ρ' H' ∧ RS (W0 X) ρ' H' μτ τ ∧ SR X.K ρ' aw H' ∧ aW X.K ρ' H' yv ys ∧ yv.length ≤ i ∧ wR (W0 X) E (Rl X.K) ρ' H' Q ((eI g a c e (us.drop i) μτ aw yv).bind fun (zs:List Val) (bV:ai) => Res.ok (Val.loc bV.length) (bV ++ [Cell.lst zs])))
   ⟨j4 k caps μ,ρ1,aX,[],Step.refl _ _,G5.IG k caps,cn,aW.nil,Nat.le_refl _,h1⟩ ?_ ?_ ?_ ?_ ?_
  ·rintro i ys τ H' hi ⟨μτ,ρ',aw,yv,e',yz,we,ry,hl,hq⟩
   rw [List.drop_eq_getElem_cons hi] at hq
   unfold eI at hq
   by_cases oV:g aw
   ·exact ((rJ ρ' aw H' e' we oV i).1 _ (List.getElem?_eq_getElem hi)).1
   ·rw [if_neg oV] at hq; exact hq.elim
  ·rintro ys τ H' ⟨μτ,ρ',aw,yv,e',yz,we,ry,hl,hq⟩
   rw [List.drop_length] at hq
   unfold eI at hq
   by_cases oV:g aw
   ·exact (rJ ρ' aw H' e' we oV us.length).2 (Nat.le_refl _)
   ·rw [if_neg oV] at hq; exact hq.elim
  ·rintro i ys τ H' ⟨μτ,ρ',aw,yv,e',yz,we,ry,hl,hq⟩
   rw [← ry.length]; exact hl
  ·rintro i ys τ H' x H2 hi ⟨μτ,ρ',aw,yv,e',yz,we,ry,hl,hq⟩ y K1 hK
   rw [List.drop_eq_getElem_cons hi] at hq
   unfold eI at hq
   by_cases oV:g aw
   ·rw [if_pos oV] at hq
    obtain ⟨e2,m9,r2⟩:=((rJ ρ' aw H' e' we oV i).1 _ (List.getElem?_eq_getElem hi)).2 x H2 y
    cases z:a us[i] μτ with
    | none => rw [z] at hq; exact hq.elim
    | some τ1 =>
     rw [z] at hq
     dsimp only at hq
     refine ⟨μτ,ρ',us[i],τ1,yz.mono e2,r2,z,fun σ3 G7 => ⟨τ1,ρ',aw,G7,m9,?_⟩⟩
     cases zc:c τ1 aw with
     | ok b iE =>
      rw [zc] at hq
      intro ρ3 H3 b' e3 wg eb
      cases eb
      cases b with
      | true =>
       dsimp only at hq
       rw [if_pos rfl]
       refine ⟨τ1,ρ3,iE,G7.mono e3,wg,?_⟩
       cases ze:e τ1 iE with
       | ok v lX =>
        rw [ze] at hq
        intro ρ4 H4 y4 e4 mJ r4
        exact hK _ _ _ ⟨τ1,ρ4,lX,yv ++ [v],((e'.trans e2).trans e3).trans e4,(G7.mono e3).mono e4,mJ,(aW.mono ((e2.trans e3).trans e4) _ _ ry).append (aW.one r4),by rw [List.length_append,List.length_singleton]; lia,wR.mono hq ((e2.trans e3).trans e4)⟩
       | err c' lX => rw [ze] at hq; exact hq.elim
       | bad => rw [ze] at hq; exact hq.elim
      | false =>
       dsimp only at hq
       rw [if_neg Bool.false_ne_true]
       exact hK _ _ _ ⟨τ1,ρ3,iE,yv,(e'.trans e2).trans e3,G7.mono e3,wg,aW.mono (e2.trans e3) _ _ ry,by lia,wR.mono hq (e2.trans e3)⟩
     | err c' iE => rw [zc] at hq; exact hq.elim
     | bad => rw [zc] at hq; exact hq.elim
   ·rw [if_neg oV] at hq; exact hq.elim
  ·rintro ys τ H' p ⟨μτ,ρ',aw,yv,e',yz,we,ry,hl,hq⟩ hp
   rw [List.drop_length] at hq
   unfold eI at hq
   by_cases oV:g aw
   ·rw [if_pos oV] at hq
    obtain ⟨k1,k2,k3⟩:=gy we ry hp
    exact hq _ _ _ k1 k2 k3
   ·rw [if_neg oV] at hq; exact hq.elim
 ·exact h1.elim
theorem nh (hc:X.calm = true) (IH:X.pn = []) (B:sC X N scope cl k caps) (hi:PI X tg iter (tI X E it)) (hg:∀ C fp s H,PG (oU X N scope cl C fp s H) tg (tA (W0 X) a)) (Fp:∀ C fp s H,Bu (oU X N scope cl C fp s H) ifs (tG (W0 X) E0 RB c))
  (he:∀ C fp s H,PE (oU X N scope cl C fp s H) elt (tG (W0 X) E0 (Rl X.K) e)) (hs:∀ x,foldedSetIterable iter X.env x = pure x:=by intro _; rfl):PE X (.ListComp elt [⟨tg,iter,ifs,0⟩] scope pos) (tE X E (cZ k caps it a c e)) :=
 PE.imp (Cd hc B hi hg Fp he hs) fun _ _ _ h => p8 IH h
theorem ig (i:Nat) {y:Str} {py:Pos} (hN:X.N.Nodup) (hc:X.calm = true) (IH:X.pn = []) (B:sC X N scope cl k caps) (hi:PI X tg iter (tI X E it)) (hg:∀ C fp s H,PG (oU X N scope cl C fp s H) tg (tA (W0 X) a)) (Fp:∀ C fp s H,Bu (oU X N scope cl C fp s H) ifs (tG (W0 X) E0 RB c))
  (he:∀ C fp s H,PE (oU X N scope cl C fp s H) elt (tG (W0 X) E0 (Rl X.K) e)) (hy:X.N[i]? = some y:=by rfl) (hx:Loc X.env.scope y:=by first | exact Or.inl rfl | exact Or.inr rfl) (LI:swapsWith (.ListComp elt [⟨tg,iter,ifs,0⟩] scope pos) (some (.Name y py)) y8.line X.env = pure true:=by rfl)
  (hs:∀ x,foldedSetIterable iter X.env x = pure x:=by intro _; rfl) (hf:X.fn y = true ∨ X.env.scope.names.lookup y = some .local:=by first | exact .inl rfl | exact .inr rfl | assumption) :
  PS X (.Assign [.Name y py] (.ListComp elt [⟨tg,iter,ifs,0⟩] scope pos) y8) (tS X E (aG i (cZ k caps it a c e))) :=
 PS.imp (L2.uH hN hy hx hc B hi hg Fp he LI hs hf) fun _ _ _ h => p8 IH (sJ h)
theorem j5 {C fp s H}:Bu (oU X N scope cl C fp s H) [] (tG (W0 X) E0 RB cK):=by
 intro pins s' σ H' Q I q
 refine B_ pins s' σ H' Q I ?_
 obtain ⟨μ,ρ,st,rs,sr,h⟩:=q
 exact h ρ H' true (Step.refl _ _) sr rfl
theorem q8 {cc:Expr} {C fp s H} (h:PT (oU X N scope cl C fp s H) cc (tG (W0 X) E0 RB c)):Bu (oU X N scope cl C fp s H) [cc] (tG (W0 X) E0 RB c):=Ca h
theorem sO {P:Program} {w:World} {C fp s H}:Passes (iJ P w) (oU X N scope cl C fp s H) E0:=by
 rintro pins σ H' s' e s2 I ⟨ea,cls,H2,_,_,q⟩
 exact q.elim
end
noncomputable abbrev FM:=Val → List Val → ai → Res Val
noncomputable def Q5 (W:Wo) (E:XK) (f:FM):V → List V → Hp → VK → Prop:=fun x xs H Q => ∃ ρ st u us,SR W.K ρ st H ∧ Rl W.K ρ H u x ∧ aW W.K ρ H us xs ∧ wR W E (Rl W.K) ρ H Q (f u us st)
noncomputable def sP (st:ai):Val → Bool
 | .loc n => match st[n]? with
  | some (.lst _) => true
  | _ => false
 | _ => false
noncomputable def ij (f:FM) (o:ME) (a:MA):ME:=fun μ st => (o μ st).bind fun x aX => if sP aX x = true then (a μ aX).bind fun xs bV => f x xs bV else .bad
noncomputable def bM:FM
 | .loc n,[v],st => match st[n]? with
  | some (.lst us) => if us.length < sizeLine then .ok .e7 (st.set n (.lst (us ++ [v]))) else .bad
  | _ => .bad
 | _,_,_ => .bad
section
variable {X:Cx} {E:XK} {o e:Expr} {es:List Expr} {mo:ME} {ms:MA} {apos cG:Pos} {f:FM}
theorem DK.imp {id:String} {r r':V → List V → Hp → VK → Prop} (h:DK X id r) (k:∀ x xs H Q,r' x xs H Q → r x xs H Q):DK X id r':=fun pins s σ H x xs v us Q I rx rs q => h pins s σ H x xs v us Q I rx rs (k x xs H Q q)
theorem wj {K:PySem.W.Frag} {ρ:List Addr} {st:ai} {H:Hp} {n:Nat} {us IE:List Val} {a:Addr} {vs DZ:List V} (sr:SR K ρ st H) (h:st[n]? = some (.lst us)) (ha:ρ[n]? = some a) (hH:H a = some (.lst vs)) (r:aW K ρ H IE DZ) :
  Step ρ H ρ (upd H a (.lst DZ)) ∧ SR K ρ (st.set n (.lst IE)) (upd H a (.lst DZ)):=by
 have e:Step ρ H ρ (upd H a (.lst DZ)):=Step.put hH (fun _ z => by cases z) (fun _ _ z => by cases z)
 exact ⟨e,sr.set h rfl rfl ha hH (fun _ z => by cases z) (fun _ _ z => by cases z) ⟨DZ,bh,aW.mono e _ _ r⟩⟩
theorem uU:DK X "list.append" (Q5 (wo X) E bM):=by
 refine DK.imp xi ?_
 rintro x xs H Q ⟨ρ,st,u,us,sr,r1,r2,h⟩
 unfold bM at h
 split at h
 ·rename_i n v
  obtain ⟨a,rfl,ha⟩:=r1.eR
  obtain ⟨y,rfl,ry⟩:=r2.yw
  split at h
  ·rename_i ws hw
   split at h
   ·rename_i hz
    obtain ⟨vs,hH,rv⟩:=sr.cell n _ a hw ha
    refine ⟨a,vs,y,rfl,rfl,hH,by rw [← rv.length]; exact hz,?_⟩
    obtain ⟨k1,k2⟩:=wj sr hw ha hH (rv.append (aW.one ry))
    exact h ρ _ _ k1 k2 Rl.vW
   ·exact h.elim
  ·exact h.elim
 ·exact h.elim
theorem zM {K:PySem.W.Frag} {ρ:List Addr} {st:ai} {H:Hp} {u:Val} {x:V} (sr:SR K ρ st H) (r:Rl K ρ H u x) (h:sP st u = true):J6 K "list" x H:=by
 cases u with
 | loc n =>
  obtain ⟨a,rfl,ha⟩:=r.eR
  obtain ⟨c,hc,kc⟩:=sr.there ha
  simp only [sP,hc] at h
  cases c with
  | lst us => obtain ⟨vs,h1,_⟩:=kc; exact .inl ⟨rfl,vs,lR.of h1⟩
  | _ => cases h
 | _ => cases h
theorem FL {name:Str} {id:String} (slot:Slot "list" name id) (HR:typeOf (.builtin id) = pure (.type "method_descriptor")) (hm:DK X id (Q5 (wo X) E f)) (ho:PE X o (tE X E mo)) (ha:PA X (e :: es) (tL X E ms))
  (jS:attributeBase o name X.env (eval o X.env) = eval o X.env:=by rfl)
  (yS:((backTo cG (starEach (e :: es) X.env)).all (fun x => !x.1) && (backToKw cG (keywordEach [] X.env)).all (fun x => x.1.isSome)
   && decide ((e :: es).length + ([]:List Keyword).length + (if ([]:List Keyword).isEmpty then 0 else 1) < 30)) = true:=by rfl)
  (jT:(apos.endLine == cG.line) = true:=by rfl) (hs:starEach (e :: es) X.env = (false,eval e X.env) :: starEach es X.env:=by rfl) (nI:(backTo cG (starEach es X.env)).any (·.1) = false:=by rfl) :
  PE X (.Call (.Attribute o name apos) (e :: es) [] cG) (tE X E (ij f mo ms)):=by
 refine PE.imp (HS PySem.F.plainAttrs_list slot HR hm ho ha jS yS jT hs nI) ?_
 rintro σ H Q ⟨μ,ρ,st,rs,sr,h⟩
 refine go μ ρ st rs sr h fun u aX ρ1 H1 x e1 cn r1 h1 => ?_
 split at h1
 ·rename_i hz
  refine ⟨zM cn r1 hz,?_⟩
  refine go (R1:=aW X.K) μ ρ1 aX (rs.mono e1) cn h1 fun us bV ρ2 H2 xs e2 m9 r2 h2 => ?_
  exact ⟨ρ2,bV,u,us,m9,Rl.mono e2 _ _ r1,r2,h2⟩
 ·exact h1.elim
end
end MN
namespace MN
open PySem PySem.Spec L2
open PyProof.Rows hiding St
noncomputable def VC {α β:Type} (W:Wo) (R:List Addr → Hp → α → β → Prop) (ρ:List Addr) (H:Hp) (Q:β → Hp → Prop) (EX:EH):Res α → Prop
 | .ok u aw => ∀ ρ' H' v,Step ρ H ρ' H' → SR W.K ρ' aw H' → R ρ' H' u v → Q v H'
 | .err c aw => ∃ C,W.mg c = some (.ref C) ∧ ∀ ρ' H' ea,Step ρ H ρ' H' → SR W.K ρ' aw H' → EX (.ref C) ea H'
 | .bad => False
noncomputable def II {α:Type} (m:Env → ai → Res α):Env → ai → Res α:=fun μ st => match m μ st with
 | .ok v aw => .ok v aw
 | .err _ _ => .bad
 | .bad => .bad
section
variable {X:Cx} {pos p:Pos} {e:Expr} {es:List Expr} {m:ME} {ms:MA} {f:FN} {x:Str}
end
end MN
namespace MN
open PySem PySem.Spec L2
open PyProof.Rows hiding St
inductive gI (X:Cx) (scope:Scope):List (Str × Addr) → List Nat → Prop
 | nil:gI X scope [] []
 | cons {y:Str} {c:Addr} {j:Nat} {cl:List (Str × Addr)} {caps:List Nat} (sub:X.env.cells.lookup y = some c) (hX:X.N[j]? = some y) (hk:X.env.kindOf y = some .cell ∨ X.env.kindOf y = some .free)
   (hr:(relabel scope X.env).names.lookup y = some .cell ∨ (relabel scope X.env).names.lookup y = some .free) (r:gI X scope cl caps):gI X scope ((y,c) :: cl) (j :: caps)
theorem gI.sub {X:Cx} {scope:Scope} {cl:List (Str × Addr)} {caps:List Nat} (A:gI X scope cl caps):∀ x c,cl.lookup x = some c → X.env.cells.lookup x = some c:=by
 induction A with
 | nil => intro x c h; cases h
 | @cons y c0 _ _ _ sub _ _ _ _ ih =>
  intro x c h
  rw [List.lookup_cons] at h
  by_cases e:x = y
  ·rw [beq_iff_eq.mpr e] at h
   rw [e]; exact sub.trans h
  ·rw [beq_eq_false_iff_ne.mpr e] at h
   exact ih x c h
theorem gI.at_ {X:Cx} {scope:Scope} {cl:List (Str × Addr)} {caps:List Nat} (A:gI X scope cl caps):∀ (i j:Nat) (x:Str),caps[i]? = some j → (cl.map (·.1))[i]? = some x →
  X.N[j]? = some x ∧ (X.env.kindOf x = some .cell ∨ X.env.kindOf x = some .free) ∧ ((relabel scope X.env).names.lookup x = some .cell ∨ (relabel scope X.env).names.lookup x = some .free):=by
 induction A with
 | nil => intro i j x h; cases h
 | cons _ hX hk hr _ ih =>
  intro i j x h h2
  cases i with
  | zero => cases h; cases h2; exact ⟨hX,hk,hr⟩
  | succ i => exact ih i j x h h2
theorem gJ:∀ {cl:List (Str × Addr)} {x:Str},x ∈ cl.map (·.1) → ∃ c,cl.lookup x = some c
 | [],x,h => by simp at h
 | (y,c) :: cl,x,h => by
  by_cases e:x = y
  ·exact ⟨c,by simp [e]⟩
  ·have e':(x == y) = false:=by simpa using e
   rw [List.map_cons,List.mem_cons] at h
   rcases h with h | h
   ·exact absurd h e
   ·obtain ⟨d,hd⟩:=gJ h
    exact ⟨d,by simp only [List.lookup_cons,e']; exact hd⟩
theorem p9 {X:Cx} {N:List Str} {scope:Scope} {k:Nat} {cl:List (Str × Addr)} {caps:List Nat} (sD:closureFor scope X.env = pure cl) (A:gI X scope cl caps) (has:((relabel scope X.env).names.all fun p => !(p.2 == .cell || p.2 == .free) || (cl.map (·.1)).contains p.1) = true)
  (gj:(scope.names.all fun p => !(p.2 == .cell)) = true) (kind:scope.kind = .function) (names:(scope.names.all fun p => !(p.2 == .local) || scope.names.lookup p.1 == some .local) = true) (len:N.length = k + caps.length) (hN:N.drop k = cl.map (·.1)):sC X N scope cl k caps where
 sD:=sD
 sub:=A.sub
 has:=fun x h => by
  have m:x ∈ cl.map (·.1):=by
   rcases h with h | h <;> (have m:=PySem.mem_of_lookup h; have z:=List.all_eq_true.mp has _ m; simpa using z)
  exact gJ m
 gj:=fun x hx h => by
  have z:=List.all_eq_true.mp gj x hx
  simp [h] at z
 kind:=kind
 names:=fun x hx h => by
  have z:=List.all_eq_true.mp names x hx
  simpa [h] using z
 len:=len
 at_:=fun i j x h1 h2 => A.at_ i j x h1 (by rw [← hN,List.getElem?_drop]; exact h2)
noncomputable def FnAt (P:Program) (w:World) (K:PySem.W.Frag) (mg:Str → Option Value) (base:Heap) (x:Str) (k:Nat) (f:FN):Prop :=
 ∃ fa fd ps,jQ P w K mg base (iJ P w) k fa fd ps (FC ⟨K,mg,[]⟩ f) ∧ mg x = some (.ref fa) ∧ PySem.W.keepIn K (.ref fa) = true ∧ Binds K fd ps []
section
variable {X:Cx} {E:XK} {pos p:Pos} {e:Expr} {es:List Expr} {ms:MA} {f:FN} {x:Str} {k j:Nat}
theorem bu (G:FnAt X.prog X.w X.K X.mg X.base x k f) (hr:eh j X.A) (hk:k ≤ j) (hg:Gl X x) (hx:Passes (iJ X.prog X.w) X E) (ha:PA X (e :: es) (tL X E ms)) (mE:(x == ("__debug__":Str)) = false:=by decide)
  (he:starEach (e :: es) X.env = (false,eval e X.env) :: starEach es X.env:=by rfl) (jo:(backTo pos (starEach es X.env)).any (·.1) = false:=by rfl):PE X (.Call (.Name x p) (e :: es) [] pos) (tE X E (aq f ms)):=by
 obtain ⟨fa,fd,ps,F,hm,kp,b⟩:=G
 exact Cn F (hr.mono hk) hg hm kp b hx ha mE he jo
end
section
variable {P:Program} {w:World} {K:PySem.W.Frag} {mg:Str → Option Value} {base:Heap}
theorem FnAt.mk {x:Str} {st:Stmt} {f:Addr} {fd:FuncData} {N ps:List Str} {k:Nat} {body:MB} (F:iI K x x st f fd) (hm:mg x = some (.ref f)) (S:aY N ps (ao st))
  (hb:∀ (kV doc pm:Value) (an:Option Addr) (dj ct:Value) (us:List Value),us.length = ps.length → bindArgs (PySem.W.fnOf x x (aZ st) (aQ st) (ao st) .none kV doc pm an dj ct) ⟨us,[]⟩ = pure (ps.zip us))
  (h:∀ (dj:Value) (A:Around) (outer:List PySem.Env) (s:Shared) (H:Hp) (E:XK),eh k (A.deeper (envOfC x (ao st) s.heap.objs.size f dj)) →
   jO (fO (iJ P w) P w K mg base N x (ao st) f dj A outer s H E) (aQ st) (tS (fO (iJ P w) P w K mg base N x (ao st) f dj A outer s H E) E body)):FnAt P w K mg base x (k + 1) (jf ps.length N.length body) :=
 ⟨f,fd,ps,zy F S h,hm,F.kp,F.binds hb⟩
theorem b9 {N:List Str} {qual:Str} {scope:Scope} {f:Addr} {cd:Value} {A:Around} {outer:List PySem.Env} {s₀:Shared} {H₀:Hp} {E:XK}:PassesOwn (model P w) (A.deeper (envOfC qual scope s₀.heap.objs.size f cd)) (envOfC qual scope s₀.heap.objs.size f cd) (fO (iJ P w) P w K mg base N qual scope f cd A outer s₀ H₀ E).xe :=
 PassesOwn.leaving
theorem uV {N:List Str} {qual:Str} {scope:Scope} {f:Addr} {cd:Value} {A:Around} {outer:List PySem.Env} {s₀:Shared} {H₀:Hp} {E:XK}:Raises (fO (iJ P w) P w K mg base N qual scope f cd A outer s₀ H₀ E) E :=
 fun pins σ H s h' e cls vs I hx hE => xr I hx hE
theorem Glob.int {x:Str} {i:Int} {t:Tok} (h:mg x = some (.int i t)):Glob K mg x (.int i):=⟨_,.int i,h,⟨t,rfl⟩,fun _ _ => Rl.mkInt i⟩
theorem Glob.ints {x:Str} {a:Addr} {o:Obj} {aL:Array Value} {n:Nat} {ns:List Int} (h:mg x = some (.ref a)) (l:K.lookup a = some o) (hc:o.cls = .type "tuple") (hd:o.data = .seq aL n) (hz:aL.size ≤ sizeLine) (hv:Vals (ns.map V.int) aL.toList):Glob K mg x (.mt (ns.map .int)) :=
 ⟨_,.ref a,h,rfl,fun ρ H => Rl.L4 (.inr ⟨o,aL,n,l,hc,hd,hz,hv⟩) (aW.ints ns)⟩
end
end MN
namespace MN
open PySem PySem.Spec L2
open PyProof.Rows hiding St
abbrev Mc:List Value:=[.type "ValueError",.type "Exception",.type "BaseException",.type "object"]
noncomputable def FO (K:PySem.W.Frag) (mg:Str → Option Value) (x:Str):Prop:=∃ C,mg x = some (.ref C) ∧ PySem.W.excIn K C Mc "ValueError.__new__" = true ∧ PySem.W.subIn K (.ref C) (.type "BaseException") = some true
section
variable {K:PySem.W.Frag} {mg:Str → Option Value}
end
section
variable {X:Cx} {E:XK} {pos np cG p q1 q2:Pos} {x n:Str} {e₀:Expr} {es:List Expr} {ms:MA} {i:Nat} {b₀:Stmt} {Q6:List Stmt} {rest:List ExceptHandler} {tab:List (Str × Str × Bool)} {s:MB} {r:MH}
theorem xF (hX:Raises X E) (hc:X.calm = true) (h:FO X.K X.mg x) (hg:Gl X x) (ha:PA X (e₀ :: es) (tL X E ms))
  (he:starEach (e₀ :: es) X.env = (false,eval e₀ X.env) :: starEach es X.env:=by rfl) (jo:(backTo cG (starEach es X.env)).any (·.1) = false:=by rfl) (hd:(x == ("__debug__":Str)) = false:=by decide) :
  PS X (.Raise (some (.Call (.Name x np) (e₀ :: es) [] cG)) none pos) (tS X E (uN x ms)):=by
 obtain ⟨C,hm,hq,_⟩:=h
 exact zx hX hc hm hq PySem.F.excBase_ValueError hg ha he jo hd
end
end MN
namespace MN
open PySem PySem.Spec L2
open PyProof.Rows hiding St
section
variable {κ:Type} [DecidableEq κ]
noncomputable def q9 (aO:List (κ × Val)) (k:κ):Option Val:=(aO.find? fun kv => decide (kv.1 = k)).map (·.2)
noncomputable def xG (aO:List (κ × Val)) (k:κ) (v:Val):List (κ × Val) :=
 if (aO.any fun kv => decide (kv.1 = k)) = true then aO.map (fun kv => if kv.1 = k then (kv.1,v) else kv) else aO ++ [(k,v)]
variable {K:PySem.W.Frag} {ρ ρ':List Addr} {H H':Hp}
theorem gS.nil:gS K ρ H ([]:List (κ × Val)) []:=⟨rfl,aW.nil⟩
theorem gS.cons {k:κ} {u:Val} {v:V} {aO:List (κ × Val)} {je:List (κ × V)} (r:Rl K ρ H u v) (p:gS K ρ H aO je):gS K ρ H ((k,u) :: aO) ((k,v) :: je) :=
 ⟨by simp only [List.map_cons,p.1],aW.cons r p.2⟩
theorem gS.cH {k:κ} {u:Val} {aO:List (κ × Val)} {l:List (κ × V)} (p:gS K ρ H ((k,u) :: aO) l):∃ v je,l = (k,v) :: je ∧ Rl K ρ H u v ∧ gS K ρ H aO je:=by
 obtain ⟨h1,h2⟩:=p
 cases l with
 | nil => simp at h1
 | cons x l =>
  obtain ⟨k',v⟩:=x
  simp only [List.map_cons,List.cons.injEq] at h1 h2
  obtain ⟨rfl,h1⟩:=h1
  obtain ⟨v',r,e,q1,q2⟩:=h2.cH
  simp only [List.cons.injEq] at e
  obtain ⟨rfl,rfl⟩:=e
  exact ⟨v,l,rfl,q1,h1,q2⟩
theorem gS.fD {l:List (κ × V)} (p:gS K ρ H ([]:List (κ × Val)) l):l = []:=by
 have:=p.1
 cases l with
 | nil => rfl
 | cons => simp at this
theorem gS.mono {aO:List (κ × Val)} {l:List (κ × V)} (p:gS K ρ H aO l) (e:Step ρ H ρ' H'):gS K ρ' H' aO l:=⟨p.1,aW.mono e _ _ p.2⟩
theorem gS.length {aO:List (κ × Val)} {l:List (κ × V)} (p:gS K ρ H aO l):aO.length = l.length:=by
 have:=congrArg List.length p.1
 simpa using this
theorem gS.val (k:κ):∀ {aO:List (κ × Val)} {l:List (κ × V)},gS K ρ H aO l → (q9 aO k = none ∧ hV l k = none) ∨ ∃ u v,q9 aO k = some u ∧ hV l k = some v ∧ Rl K ρ H u v
 | [],l,p => by rw [p.fD]; exact .inl ⟨rfl,rfl⟩
 | (k',u) :: aO,l,p => by
  obtain ⟨v,l',rfl,r,p'⟩:=p.cH
  by_cases e:k' = k
  ·exact .inr ⟨u,v,by simp [q9,e],by simp [hV,e],r⟩
  ·rcases gS.val k p' with ⟨h1,h2⟩ | ⟨u',v',h1,h2,h3⟩
   ·exact .inl ⟨by simpa [q9,e] using h1,by simpa [hV,e] using h2⟩
   ·exact .inr ⟨u',v',by simpa [q9,e] using h1,by simpa [hV,e] using h2,h3⟩
theorem gS.any (k:κ):∀ {aO:List (κ × Val)} {l:List (κ × V)},gS K ρ H aO l → (aO.any fun kv => decide (kv.1 = k)) = l.any fun kv => decide (kv.1 = k)
 | [],l,p => by rw [p.fD]; rfl
 | (k',u) :: aO,l,p => by
  obtain ⟨v,l',rfl,r,p'⟩:=p.cH
  simp only [List.any_cons,gS.any k p']
theorem gS.qP (k:κ) {u:Val} {v:V} (r:Rl K ρ H u v):∀ {aO:List (κ × Val)} {l:List (κ × V)},gS K ρ H aO l → gS K ρ H (aO.map fun kv => if kv.1 = k then (kv.1,u) else kv) (l.map fun kv => if kv.1 = k then (kv.1,v) else kv)
 | [],l,p => by rw [p.fD]; exact gS.nil
 | (k',u') :: aO,l,p => by
  obtain ⟨v',l',rfl,r',p'⟩:=p.cH
  simp only [List.map_cons]
  by_cases e:k' = k
  ·rw [if_pos e,if_pos e]; exact gS.cons r (gS.qP k r p')
  ·rw [if_neg e,if_neg e]; exact gS.cons r' (gS.qP k r p')
theorem gS.snoc {k:κ} {u:Val} {v:V} (r:Rl K ρ H u v):∀ {aO:List (κ × Val)} {l:List (κ × V)},gS K ρ H aO l → gS K ρ H (aO ++ [(k,u)]) (l ++ [(k,v)])
 | [],l,p => by rw [p.fD]; exact gS.cons r gS.nil
 | (k',u') :: aO,l,p => by
  obtain ⟨v',l',rfl,r',p'⟩:=p.cH
  exact gS.cons r' (gS.snoc r p')
theorem gS.put (k:κ) {u:Val} {v:V} (r:Rl K ρ H u v) {aO:List (κ × Val)} {l:List (κ × V)} (p:gS K ρ H aO l):gS K ρ H (xG aO k u) (putK l k v):=by
 unfold xG putK
 rw [p.any k]
 split
 ·exact p.qP k r
 ·exact p.snoc r
end
noncomputable def keyOf:Val → Option Key
 | .int i => some (.inl i)
 | .str x => some (.inr x)
 | _ => none
noncomputable def keysOf:List Val → Option (List Key)
 | [] => some []
 | u :: us => match keyOf u,keysOf us with
  | some k,some ks => some (k :: ks)
  | _,_ => none
noncomputable def kM:Val → Option (List Key)
 | .tup us => keysOf us
 | _ => none
section
variable {K:PySem.W.Frag} {ρ:List Addr} {H:Hp}
theorem q_ {u:Val} {v:V} {k:Key} (r:Rl K ρ H u v) (h:keyOf u = some k):v = kV k:=by
 cases u with
 | int i => cases h; exact r.cz
 | str x => cases h; exact r.iL
 | _ => cases h
theorem sQ:∀ {us:List Val} {vs:List V} {ks:List Key},aW K ρ H us vs → keysOf us = some ks → vs = ks.map kV
 | [],vs,ks,r,h => by cases h; exact r.fD
 | u :: us,vs,ks,r,h => by
  obtain ⟨v,r',rfl,h2,h3⟩:=r.cH
  unfold keysOf at h
  split at h
  ·rename_i k VD e1 e2
   cases h
   rw [q_ h2 e1,sQ h3 e2]; rfl
  ·cases h
theorem sR {u:Val} {v:V} {ks:List Key} (r:Rl K ρ H u v) (h:kM u = some ks):∃ b,v = .ref b ∧ H b = some (.tup (ks.map kV)):=by
 cases u with
 | tup us =>
  obtain ⟨b,vs,rfl,hb,rb⟩:=r.Iy
  rw [sQ rb h] at hb
  exact ⟨b,rfl,hb⟩
 | _ => cases h
end
noncomputable def lY (st:ai) (d k:Val):Option (Option Val):=match d with
 | .loc n => match st[n]? with
  | some (.dK aO) => (keyOf k).map fun q => q9 aO q
  | some (.dT aO) => (kM k).map fun q => q9 aO q
  | _ => none
 | _ => none
noncomputable def kN (st:ai) (d k v:Val):Option ai:=match d with
 | .loc n => match st[n]? with
  | some (.dK aO) => if aO.length < sizeLine then (keyOf k).map fun q => st.set n (.dK (xG aO q v)) else none
  | some (.dT aO) => if aO.length < sizeLine then (kM k).map fun q => st.set n (.dT (xG aO q v)) else none
  | _ => none
 | _ => none
theorem p_ {K:PySem.W.Frag} {ρ:List Addr} {st:ai} {H:Hp} {d k:Val} {x y:V} {o:Option Val} (sr:SR K ρ st H) (rd:Rl K ρ H d x) (rk:Rl K ρ H k y) (h:lY st d k = some o) :
  ∃ a o',x = .ref a ∧ mG H a y o' ∧ J9 H a ∧ ((o = none ∧ o' = none) ∨ ∃ u v,o = some u ∧ o' = some v ∧ Rl K ρ H u v):=by
 cases d with
 | loc n =>
  obtain ⟨a,rfl,ha⟩:=rd.eR
  unfold lY at h
  dsimp only at h
  split at h
  ·rename_i aO e
   obtain ⟨l,hl,p⟩:=sr.cell n _ a e ha
   cases z:keyOf k with
   | none => rw [z] at h; cases h
   | some q =>
    rw [z] at h
    cases h
    have:=q_ rk z
    subst this
    exact ⟨a,hV l q,rfl,mG.k hl,.inl ⟨l,.inl hl⟩,p.val q⟩
  ·rename_i aO e
   obtain ⟨l,hl,p⟩:=sr.cell n _ a e ha
   cases z:kM k with
   | none => rw [z] at h; cases h
   | some q =>
    rw [z] at h
    cases h
    obtain ⟨b,rfl,hb⟩:=sR rk z
    exact ⟨a,hV l q,rfl,mG.t hl hb,.inr ⟨l,.inl hl⟩,p.val q⟩
  ·cases h
 | _ => cases h
theorem uW {K:PySem.W.Frag} {ρ:List Addr} {st aw:ai} {H:Hp} {d k v:Val} {x y z:V} (sr:SR K ρ st H) (rd:Rl K ρ H d x) (rk:Rl K ρ H k y) (rv:Rl K ρ H v z) (h:kN st d k v = some aw) :
  ∃ a H',x = .ref a ∧ qR H a y z H' ∧ Step ρ H ρ H' ∧ SR K ρ aw H':=by
 cases d with
 | loc n =>
  obtain ⟨a,rfl,ha⟩:=rd.eR
  unfold kN at h
  dsimp only at h
  split at h
  ·rename_i aO e
   obtain ⟨l,hl,p⟩:=sr.cell n _ a e ha
   split at h
   ·rename_i hz
    cases zk:keyOf k with
    | none => rw [zk] at h; cases h
    | some q =>
     rw [zk] at h
     cases h
     have:=q_ rk zk
     subst this
     have aX:Step ρ H ρ (upd H a (.dK (putK l q z))):=Step.put hl (fun _ z => by cases z) (fun _ _ z => by cases z)
     exact ⟨a,_,rfl,qR.k hl (by rw [← p.length]; exact hz),aX,sr.set e rfl rfl ha hl (fun _ z => by cases z) (fun _ _ z => by cases z) ⟨_,bh,(p.put q rv).mono aX⟩⟩
   ·cases h
  ·rename_i aO e
   obtain ⟨l,hl,p⟩:=sr.cell n _ a e ha
   split at h
   ·rename_i hz
    cases zk:kM k with
    | none => rw [zk] at h; cases h
    | some q =>
     rw [zk] at h
     cases h
     obtain ⟨b,rfl,hb⟩:=sR rk zk
     have aX:Step ρ H ρ (upd H a (.dT (putK l q z))):=Step.put hl (fun _ z => by cases z) (fun _ _ z => by cases z)
     exact ⟨a,_,rfl,qR.t hl hb (by rw [← p.length]; exact hz),aX,sr.set e rfl rfl ha hl (fun _ z => by cases z) (fun _ _ z => by cases z) ⟨_,bh,(p.put q rv).mono aX⟩⟩
   ·cases h
  ·cases h
 | _ => cases h
noncomputable def rf:ME:=fun _ st => .ok (.loc st.length) (st ++ [.dT []])
noncomputable def j6:F2:=fun d k st => match lY st d k with
 | some (some v) => .ok v st
 | _ => .bad
noncomputable def SX (neg:Bool):F2:=fun k d st => match lY st d k with
 | some o => .ok (.bl (if neg then !o.isSome else o.isSome)) st
 | none => .bad
noncomputable def xH (st:ai):Val → Bool
 | .loc n => match st[n]? with
  | some (.dK _) => true
  | some (.dT _) => true
  | _ => false
 | _ => false
noncomputable def n_ (d k x:ME):ME:=fun μ st => (d μ st).bind fun dv aX => if xH aX dv = true then (k μ aX).bind fun kv bV => (x μ bV).bind fun xv iE => match lY iE dv kv with
 | some o => .ok (o.getD xv) iE
 | none => .bad else .bad
noncomputable def rh (d k v:ME):MB:=fun μ st => (v μ st).sb μ fun vv aX => (d μ aX).sb μ fun dv bV => (k μ bV).sb μ fun kv iE => match kN iE dv kv vv with
 | some lX => .nx μ lX
 | none => .bad
section
variable {X:Cx} {E:XK} {pos pos' apos cG:Pos} {o i e f value:Expr} {md mk mv mx:ME}
theorem zN {K:PySem.W.Frag} {ρ:List Addr} {st:ai} {H:Hp} (sr:SR K ρ st H) {p:Addr} (hp:H p = none) {ob:HO} {c:Cell} (k:eG K (ρ ++ [p]) (upd H p ob) c p) :
  Step ρ H (ρ ++ [p]) (upd H p ob) ∧ SR K (ρ ++ [p]) (st ++ [c]) (upd H p ob) ∧ Rl K (ρ ++ [p]) (upd H p ob) (.loc st.length) (.ref p):=by
 refine ⟨Step.snoc p (dG hp),sr.alloc hp k,Rl.zq ?_⟩
 rw [← sr.len,List.getElem?_append_right (Nat.le_refl _),Nat.sub_self]
 rfl
theorem zO:PE X (.Dict [] [] pos) (tE X E rf):=by
 refine PE.imp yV ?_
 rintro σ H Q ⟨μ,ρ,st,rs,sr,h⟩ p hp
 obtain ⟨k1,k2,k3⟩:=zN (c:=.dT []) sr hp ⟨[],bh,gS.nil⟩
 exact h _ _ _ k1 k2 k3
theorem wk (hu:X.A.units + 64 < cLine) (ho:PE X o (tE X E md)) (hi:PE X i (tE X E mk)) (hs:Fi i:=by exact fun _ _ => rfl):PE X (.Subscript o i pos) (tE X E (ah j6 md mk)):=by
 refine PE.imp (B7 (by lia) ho hi hs) ?_
 rintro σ H Q ⟨μ,ρ,st,rs,sr,h⟩
 refine go μ ρ st rs sr h fun d aX ρ1 H1 x e1 cn r1 h1 => ?_
 refine go μ ρ1 aX (rs.mono e1) cn h1 fun k bV ρ2 H2 y e2 m9 r2 h2 => ?_
 unfold j6 at h2
 split at h2
 ·rename_i u hl
  obtain ⟨a,o',rfl,hd,_,hv⟩:=p_ m9 (Rl.mono e2 _ _ r1) r2 hl
  rcases hv with ⟨z,_⟩ | ⟨u',v,z,rfl,rv⟩
  ·cases z
  ·cases z
   exact ⟨a,v,rfl,hd,h2 ρ2 H2 v (Step.refl _ _) m9 rv⟩
 ·exact h2.elim
theorem Cr {K:PySem.W.Frag} {ρ:List Addr} {st:ai} {H:Hp} {d:Val} {x:V} (sr:SR K ρ st H) (r:Rl K ρ H d x) (h:xH st d = true):∃ a,x = .ref a ∧ J9 H a:=by
 cases d with
 | loc n =>
  obtain ⟨a,rfl,ha⟩:=r.eR
  obtain ⟨c,hc,kc⟩:=sr.there ha
  simp only [xH,hc] at h
  cases c with
  | dK aO => obtain ⟨l,hl,_⟩:=kc; exact ⟨a,rfl,.inl ⟨l,.inl hl⟩⟩
  | dT aO => obtain ⟨l,hl,_⟩:=kc; exact ⟨a,rfl,.inr ⟨l,.inl hl⟩⟩
  | _ => cases h
 | _ => cases h
theorem zP (hu:X.A.units + 64 < cLine) (ho:PE X o (tE X E md)) (he:PE X e (tE X E mk)) (hf:PE X f (tE X E mx)) (m:M2 X o "get" apos e f cG:=by exact ⟨rfl,rfl,rfl,rfl⟩):PE X (.Call (.Attribute o "get" apos) [e,f] [] cG) (tE X E (n_ md mk mx)):=by
 refine PE.imp (yW (by lia) ho he hf m) ?_
 rintro σ H Q ⟨μ,ρ,st,rs,sr,h⟩
 refine go μ ρ st rs sr h fun d aX ρ1 H1 x e1 cn r1 h1 => ?_
 split at h1
 ·rename_i hd
  obtain ⟨a,rfl,ia⟩:=Cr cn r1 hd
  refine ⟨a,rfl,ia,?_⟩
  refine go μ ρ1 aX (rs.mono e1) cn h1 fun k bV ρ2 H2 y e2 m9 r2 h2 => ?_
  refine go μ ρ2 bV ((rs.mono e1).mono e2) m9 h2 fun xv iE ρ3 H3 z e3 wg r3 h3 => ?_
  split at h3
  ·rename_i ov hl
   obtain ⟨a',o',ea,KS,_,hv⟩:=p_ wg (Rl.mono (e2.trans e3) _ _ r1) (Rl.mono e3 _ _ r2) hl
   cases ea
   refine ⟨o',KS,?_⟩
   rcases hv with ⟨rfl,rfl⟩ | ⟨u,v,rfl,rfl,rv⟩
   ·exact h3 ρ3 H3 z (Step.refl _ _) wg r3
   ·exact h3 ρ3 H3 v (Step.refl _ _) wg rv
  ·exact h3.elim
 ·exact h1.elim
theorem Cs (hu:X.A.units + 64 < cLine) (ho:PE X o (tE X E md)) (hi:PE X i (tE X E mk)) (hv:PE X value (tE X E mv)) (hs:swapsWith value (some (.Subscript o i pos')) pos.line X.env = pure false:=by rfl) :
  PS X (.Assign [.Subscript o i pos'] value pos) (tS X E (rh md mk mv)):=by
 refine PS.imp (B8 (by lia) ho hi hv hs) ?_
 rintro D σ H ⟨μ,ρ,st,rs,sr,h⟩
 refine yy μ ρ st rs sr h fun v aX ρ1 H1 z e1 cn r1 h1 => ?_
 refine yy μ ρ1 aX (rs.mono e1) cn h1 fun d bV ρ2 H2 x e2 m9 r2 h2 => ?_
 refine yy μ ρ2 bV ((rs.mono e1).mono e2) m9 h2 fun k iE ρ3 H3 y e3 wg r3 h3 => ?_
 split at h3
 ·rename_i lX yu
  obtain ⟨a,H4,rfl,hd,s4,mJ⟩:=uW wg (Rl.mono e3 _ _ r2) r3 (Rl.mono (e2.trans e3) _ _ r1) yu
  exact ⟨a,H4,rfl,hd,h3 ρ3 H4 σ s4 mJ ((((rs.mono e1).mono e2).mono e3).mono s4)⟩
 ·exact h3.elim
end
section
variable {X:Cx} {E:XK} {es:List Expr} {ms:MA} {pos:Pos}
theorem dY {i j} (hr:PA X es (tL X E ms)):PA X (.Constant (.int i) j pos :: es) (tL X E (ae (mC (.int i)) ms)):=aj au hr
theorem FQ {x j} (hr:PA X es (tL X E ms)):PA X (.Constant (.str x) j pos :: es) (tL X E (ae (mC (.str x)) ms)):=aj Fy hr
theorem bq {a b:Expr} {ma mb:ME} (ha:PE X a (tE X E ma)) (hb:PE X b (tE X E mb)) (hs:qJ b:=by exact fun _ _ => rfl):PE X (.Subscript a b pos) (tE X E (ah bL ma mb)):=IC L_ ha hb hs
end
end MN
namespace MN
open PySem PySem.Spec L2
open PyProof.Rows hiding St
noncomputable def sS (us:List Val) (lo hi:Option Int):List Val:=(us.drop (HT.dZ us.length 0 lo)).take (HT.dZ us.length us.length hi - HT.dZ us.length 0 lo)
theorem aW.cut {K:PySem.W.Frag} {ρ:List Addr} {H:Hp} {us:List Val} {vs:List V} (r:aW K ρ H us vs) (lo hi:Option Int):aW K ρ H (sS us lo hi) (qF vs lo hi):=by
 unfold sS qF
 rw [r.length]
 exact aW.take _ (aW.drop _ r)
noncomputable abbrev MO:=Env → ai → Res (Option Int)
noncomputable abbrev RO:List Addr → Hp → Option Int → Option Int → Prop:=fun _ _ a b => b = a
noncomputable abbrev Kq (X:Cx) (E:XK) (m:MO):TO:=tG (wo X) E RO m
noncomputable def qa:MO:=fun _ st => .ok none st
noncomputable def lZ (m:ME):MO:=fun μ st => (m μ st).bind fun v aw => match v with
 | .int i => .ok (some i) aw
 | _ => .bad
noncomputable def G8 (lo hi:Option Int):Val → ai → Res Val
 | .tup us,st => if HT.dZ us.length 0 lo = 0 ∧ HT.dZ us.length us.length hi = us.length then .bad else .ok (.tup (sS us lo hi)) st
 | .loc n,st => match itemsOf st n with
  | some us => .ok (.loc st.length) (st ++ [.lst (sS us lo hi)])
  | none => .bad
 | _,_ => .bad
noncomputable def D2 (a:ME) (lo hi:MO):ME:=fun μ st => (a μ st).bind fun x aX => (lo μ aX).bind fun l bV => (hi μ bV).bind fun h iE => G8 l h x iE
section
variable {X:Cx} {E:XK} {pos p2:Pos} {e:Expr} {m:ME}
theorem PO.imp {e:Option Expr} {t t':TO} (h:PO X e t) (k:∀ σ H Q,t' σ H Q → t σ H Q):PO X e t':=fun pins s σ H Q I q => h pins s σ H Q I (k σ H Q q)
theorem wm:PO X none (Kq X E qa):=PO.imp BV fun σ H Q ⟨μ,ρ,st,rs,sr,h⟩ => h ρ H none (Step.refl _ _) sr rfl
theorem wq (h:PE X e (tE X E m)):PO X (some e) (Kq X E (lZ m)):=by
 refine PO.imp (BW h) ?_
 rintro σ H Q ⟨μ,ρ,st,rs,sr,h⟩
 refine go μ ρ st rs sr h fun u aX ρ1 H1 x e1 cn r1 h1 => ?_
 cases u with
 | int i => exact ⟨i,r1.cz,h1 ρ1 H1 (some i) (Step.refl _ _) cn rfl⟩
 | _ => exact h1.elim
theorem D3 {lo hi:Option Expr} {ml mh:MO} (he:PE X e (tE X E m)) (hl:PO X lo (Kq X E ml)) (hh:PO X hi (Kq X E mh)):PE X (.Subscript e (.Slice lo hi none p2) pos) (tE X E (D2 m ml mh)):=by
 refine PE.imp (yP (DI.or BZ E7) he hl hh) ?_
 rintro σ H Q ⟨μ,ρ,st,rs,sr,h⟩
 refine go μ ρ st rs sr h fun u aX ρ1 H1 x e1 cn r1 h1 => ?_
 refine go (R1:=RO) μ ρ1 aX (rs.mono e1) cn h1 fun l bV ρ2 H2 l' e2 m9 r2 h2 => ?_
 cases r2
 refine go (R1:=RO) μ ρ2 bV ((rs.mono e1).mono e2) m9 h2 fun k iE ρ3 H3 k' e3 wg r3 h3 => ?_
 cases r3
 have ru:=Rl.mono e3 _ _ (Rl.mono e2 _ _ r1)
 cases u with
 | tup us =>
  obtain ⟨a,vs,rfl,ha,ra⟩:=ru.gw
  unfold G8 at h3
  dsimp only at h3
  split at h3
  ·exact h3.elim
  ·rename_i hz
   refine .inr ⟨a,vs,rfl,ha,by rw [← ra.length]; exact hz,fun p hp => ?_⟩
   have s:=dG (o:=.tup (qF vs l k)) hp
   exact h3 ρ3 _ _ (Step.same s) (wg.grow s) (Rl.pV bh (aW.mono (Step.same s) _ _ (ra.cut l k)))
 | loc n =>
  obtain ⟨a,rfl,ha⟩:=ru.eR
  cases z:itemsOf iE n with
  | none => simp only [G8,z] at h3; exact h3.elim
  | some us =>
   simp only [G8,z] at h3
   obtain ⟨vs,hs,rv⟩:=bp wg z ha
   refine .inl ⟨a,vs,rfl,hs,fun p hp => ?_⟩
   obtain ⟨k1,k2,k3⟩:=gy wg (rv.cut l k) hp
   exact h3 _ _ _ k1 k2 k3
 | _ => exact h3.elim
end
noncomputable def SY:FM
 | .loc n,[],st => match st[n]? with
  | some (.lst us) => match us[us.length - 1]? with
   | some u => .ok u (st.set n (.lst us.dropLast))
   | none => .bad
  | _ => .bad
 | _,_,_ => .bad
noncomputable def Kr:FM
 | .loc n,[.loc m],st => match st[n]?,st[m]? with
  | some (.lst us),some (.lst ws) => if us.length + ws.length ≤ sizeLine then .ok .e7 (st.set n (.lst (us ++ ws))) else .bad
  | _,_ => .bad
 | _,_,_ => .bad
section
variable {X:Cx} {E:XK} {o:Expr} {mo:ME} {apos cG:Pos} {f:FM}
end
noncomputable def sT (o i v:Val) (st:ai):Option ai:=match o,i with
 | .loc n,.int k => match st[n]? with
  | some (.lst us) => (L2.xg us.length k).map fun j => st.set n (.lst (us.set j v))
  | _ => none
 | _,_ => none
noncomputable def Ks (μ:Env):Option ai → dk
 | some st => .nx μ st
 | none => .bad
noncomputable def sU (o i v:ME):MB:=fun μ st => (v μ st).sb μ fun x aX => (o μ aX).sb μ fun y bV => (i μ bV).sb μ fun z iE => Ks μ (sT y z x iE)
section
variable {X:Cx} {E:XK} {o i v:Expr} {mo mi mv:ME} {pos o5:Pos} {f:F2}
theorem xI {ρ:List Addr} {st aw:ai} {H:Hp} {u z w:Val} {x y q:V} {Q:Hp → Prop} (sr:SR X.K ρ st H) (ru:Rl X.K ρ H u x) (rz:Rl X.K ρ H z y) (sk:Rl X.K ρ H w q) (h:sT u z w st = some aw)
  (k:∀ H',Step ρ H ρ H' → SR X.K ρ aw H' → Q H'):DJ x y q H Q:=by
 unfold sT at h
 split at h
 ·rename_i n j
  split at h
  ·rename_i us hu
   obtain ⟨a,rfl,ha⟩:=ru.eR
   obtain ⟨vs,hH,rv⟩:=sr.cell n _ a hu ha
   cases hj:L2.xg us.length j with
   | none => rw [hj] at h; cases h
   | some jj =>
    rw [hj] at h
    cases h
    refine ⟨a,vs,j,jj,rfl,rz.cz,hH,by rw [← rv.length]; exact hj,?_⟩
    obtain ⟨k1,k2⟩:=wj sr hu ha hH (aW.set sk jj rv)
    exact k _ k1 k2
  ·cases h
 ·cases h
theorem Ct (ho:PE X o (tE X E mo)) (hi:PE X i (tE X E mi)) (hv:PE X v (tE X E mv))
  (ha:∀ u,assign (.Subscript o i o5) X.env u = (do
   let ov ← holding [u] (eval o X.env)
   let iv ← holding [u,ov] (eval i X.env)
   standAt o5
   holding [u,ov,iv] (setItem ov iv u)
   release [u,ov,iv] []):=by intro _; rfl)
  (hs:swapsWithSole [.Subscript o i o5] v pos.line X.env = pure false:=by rfl) (hw:swappedStores [.Subscript o i o5] v X.env = pure none:=by rfl) (h1:(assignEach [.Subscript o i o5] X.env).map (·.2) = [assign (.Subscript o i o5) X.env]:=by rfl) :
  PS X (.Assign [.Subscript o i o5] v pos) (tS X E (sU mo mi mv)):=by
 refine PS.imp (ED hv (EC ho hi set_list ha) hs hw h1) ?_
 rintro D σ H ⟨μ,ρ,st,rs,sr,h⟩
 refine yy μ ρ st rs sr h fun u aX ρ1 H1 x e1 cn r1 h1 => ?_
 refine yy μ ρ1 aX (rs.mono e1) cn h1 fun w bV ρ2 H2 y e2 m9 r2 h2 => ?_
 refine yy μ ρ2 bV ((rs.mono e1).mono e2) m9 h2 fun z iE ρ3 H3 q e3 wg r3 h3 => ?_
 cases hz:sT w z u iE with
 | none => rw [hz] at h3; exact h3.elim
 | some lX =>
  rw [hz] at h3
  exact xI wg (Rl.mono e3 _ _ r2) r3 (Rl.mono e3 _ _ (Rl.mono e2 _ _ r1)) hz fun H' k1 k2 => h3 ρ3 H' σ k1 k2 ((((rs.mono e1).mono e2).mono e3).mono k1)
end
noncomputable def iy (hi:Int) (n:Nat):List Val:=(List.range n).map fun (i:Nat) => Val.int (hi - (i:Int))
theorem zQ {K:PySem.W.Frag} {ρ:List Addr} {H:Hp} (lo:Int) (n:Nat):FI K ρ H (iy lo n,fun _ => True) (Kk lo n):=by
 intro ρ' aw H' e sr g i
 refine ⟨fun u hu => ?_,fun hi => ?_⟩
 ·have hi:i < n:=by
   have:=eS hu
   simpa [iy] using this
  refine ⟨hi,fun x Kp y => ?_⟩
  obtain ⟨rfl,rfl⟩:=y
  have e:u = Val.int (lo - (i:Int)):=by
   simp only [iy,List.getElem?_map] at hu
   rw [List.getElem?_range hi] at hu
   exact (Option.some.inj hu).symm
  subst e
  exact ⟨Step.refl _ _,sr,Rl.mkInt _⟩
 ·show n ≤ i
  simpa [iy] using hi
noncomputable def zR (vs:List Val) (aw:ai):Res Itm:=match vs with
 | [.int i,.int j,.int k] => if k = -1 ∧ -(2 ^ 62) ≤ i ∧ i < 2 ^ 62 ∧ -(2 ^ 62) ≤ j ∧ j < 2 ^ 62 then .ok (iy i (i - j).toNat,fun _ => True) aw else .bad
 | _ => .bad
noncomputable def kO (m:MA):MI:=fun μ st => (m μ st).bind zR
section
variable {X:Cx} {E:XK} {tg:Expr} {pos p:Pos}
theorem Cu {a b c:Expr} {m:MA} (hg:Gl X "range") (hm:X.mg "range" = none) (ha:PA X [a,b,c] (tL X E m)) (hs:starEach [a,b,c] X.env = [(false,eval a X.env),(false,eval b X.env),(false,eval c X.env)]:=by rfl) (gR:starEach [b,c] X.env = [(false,eval b X.env),(false,eval c X.env)]:=by rfl) :
  PI X tg (.Call (.Name "range" p) [a,b,c] [] pos) (tI X E (kO m)):=by
 refine PI.imp (Ci hg hm ha hs gR) ?_
 rintro σ H R ⟨μ,ρ,st,rs,sr,h⟩
 refine go (R1:=aW X.K) μ ρ st rs sr h fun us aX ρ1 H1 xs e1 cn r1 h1 => ?_
 unfold zR at h1
 split at h1
 ·rename_i i j k
  obtain ⟨v,r',rfl,rv,rr⟩:=r1.cH
  obtain ⟨w,z,rfl,sk,rz⟩:=rr.Iw
  split at h1
  ·rename_i hz
   obtain ⟨rfl,hz⟩:=hz
   exact ⟨i,j,by rw [rv.cz,sk.cz,rz.cz],hz,h1 ρ1 H1 _ (Step.refl _ _) cn (zQ i _)⟩
  ·exact h1.elim
 ·exact h1.elim
end
noncomputable def xJ:FN
 | [.bl b],st => .ok (.int (if b then 1 else 0)) st
 | _,_ => .bad
section
variable {X:Cx} {E:XK}
theorem xK:cQ X (.type "int") (cM (wo X) E xJ):=by
 refine cQ.imp xw ?_
 rintro xs H Q ⟨ρ,st,us,sr,r,h⟩
 unfold xJ at h
 split at h
 ·rename_i b
  obtain ⟨v,rfl,r1⟩:=r.yw
  exact ⟨b,by rw [r1.qV],dq sr h⟩
 ·exact h.elim
end
section
variable {X:Cx} {E:XK} {o e:Expr} {es:List Expr} {mo:ME} {ms:MA} {apos cG:Pos}
theorem gf (ho:PE X o (tE X E mo)) (ha:PA X (e :: es) (tL X E ms))
  (jS:attributeBase o "append" X.env (eval o X.env) = eval o X.env:=by rfl)
  (yS:((backTo cG (starEach (e :: es) X.env)).all (fun x => !x.1) && (backToKw cG (keywordEach [] X.env)).all (fun x => x.1.isSome)
   && decide ((e :: es).length + ([]:List Keyword).length + (if ([]:List Keyword).isEmpty then 0 else 1) < 30)) = true:=by rfl)
  (jT:(apos.endLine == cG.line) = true:=by rfl) (hs:starEach (e :: es) X.env = (false,eval e X.env) :: starEach es X.env:=by rfl) (nI:(backTo cG (starEach es X.env)).any (·.1) = false:=by rfl) :
  PE X (.Call (.Attribute o "append" apos) (e :: es) [] cG) (tE X E (ij bM mo ms)):=FL PySem.F.slot_list_append PySem.F.type_list_append uU ho ha jS yS jT hs nI
end
end MN
namespace MN
open PySem PySem.Spec L2
open PyProof.Rows hiding St
theorem D4 {X:Cx} {N:List Str} {scope:Scope} {k:Nat} {cl cl':List (Str × Addr)} {caps caps':List Nat} (sD:closureFor scope X.env = pure cl') (A:gI X scope cl caps) (B:gI X scope cl' caps') (has:((relabel scope X.env).names.all fun p => !(p.2 == .cell || p.2 == .free) || (cl'.map (·.1)).contains p.1) = true)
  (gj:(scope.names.all fun p => !(p.2 == .cell)) = true) (kind:scope.kind = .function) (names:(scope.names.all fun p => !(p.2 == .local) || scope.names.lookup p.1 == some .local) = true) (len:N.length = k + caps.length) (hN:N.drop k = cl.map (·.1)):sC X N scope cl' k caps where
 sD:=sD
 sub:=B.sub
 has:=fun x h => by
  have m:x ∈ cl'.map (·.1):=by
   rcases h with h | h <;> (have m:=PySem.mem_of_lookup h; have z:=List.all_eq_true.mp has _ m; simpa using z)
  exact gJ m
 gj:=fun x hx h => by
  have z:=List.all_eq_true.mp gj x hx
  simp [h] at z
 kind:=kind
 names:=fun x hx h => by
  have z:=List.all_eq_true.mp names x hx
  simpa [h] using z
 len:=len
 at_:=fun i j x h1 h2 => A.at_ i j x h1 (by rw [← hN,List.getElem?_drop]; exact h2)
theorem len0 {C:List Value → Prop} (h:C []) (us:List Value) (hl:us.length = 0):C us:=by
 rw [List.eq_nil_of_length_eq_zero hl]
 exact h
theorem Cv {C:List Value → Prop} {n:Nat} (h:∀ a (r:List Value),r.length = n → C (a :: r)) (us:List Value) (hl:us.length = n + 1):C us:=by
 cases us with
 | nil => cases hl
 | cons a r => exact h a r (Nat.succ.inj hl)
theorem rj {C:List Value → Prop} (h:∀ a,C [a]):∀ us:List Value,us.length = 1 → C us:=Cv fun a => len0 (C:=fun r => C (a :: r)) (h a)
theorem pj {C:List Value → Prop} (h:∀ a b,C [a,b]):∀ us:List Value,us.length = 2 → C us:=Cv fun a => rj (C:=fun r => C (a :: r)) (h a)
theorem sV {C:List Value → Prop} (h:∀ a b c,C [a,b,c]):∀ us:List Value,us.length = 3 → C us:=Cv fun a => pj (C:=fun r => C (a :: r)) (h a)
theorem Md {C:List Value → Prop} (h:∀ a b c d,C [a,b,c,d]):∀ us:List Value,us.length = 4 → C us:=Cv fun a => sV (C:=fun r => C (a :: r)) (h a)
end MN
namespace L2
open PySem PySem.Spec PyProof.Rows PySem.W Builtin Builtin.ObjectAttr Builtin.Getset_descriptor PySem.Calls
section
variable {prog:Program} {w:World} {A:Around} {E:Value → Shared → Prop} {s:Shared} {K:PySem.W.Frag} {x C:Addr} {ox:Obj} {R:Result → Shared → Prop}
end
section
variable {X:Cx}
end
end L2
namespace MN
open PySem PySem.Spec L2
open PyProof.Rows hiding St
section
variable {X:Cx} {E:XK} {pos p q1 o5:Pos} {n:Str} {i:Nat} {tab:List (Str × Str × Bool)} {qs xs:List Str} {es:List Expr} {cx:Nat}
end
end MN
namespace MN
open PySem PySem.Spec L2
open PyProof.Rows hiding St
section
variable {K:PySem.W.Frag} {ρ ρ':List Addr} {H H':Hp} {c:Addr} {o:Obj}
theorem zS (hc:Fz H c o) {a:Addr} {vs:List V} (h:jd K H a vs):jd K (hide H c) a vs:=by
 rcases h with (h | ⟨o',h⟩) | h
 ·exact .inl (.inl (by rw [hide_ne (fun z => by rw [z,hc] at h; cases h)]; exact h))
 ·exact .inl (.inr ⟨o',by rw [hide_ne (fun z => by rw [z,hc] at h; cases h)]; exact h⟩)
 ·exact .inr h
mutual
theorem Rl.hide (hc:Fz H c o):∀ (u:Val) (v:V),Rl K ρ H u v → Rl K ρ (hide H c) u v
 | .e7,_,h => h
 | .bl _,_,h => h
 | .int _,_,h => h
 | .str _,_,h => h
 | .tup us,v,h => by
  unfold Rl at h ⊢
  obtain ⟨a,vs,h1,h2,h3⟩:=h
  exact ⟨a,vs,h1,by rw [hide_ne (fun z => by rw [z,hc] at h2; cases h2)]; exact h2,aW.hide hc us vs h3⟩
 | .mt us,v,h => by
  unfold Rl at h ⊢
  obtain ⟨a,vs,h1,h2,h3⟩:=h
  exact ⟨a,vs,h1,zS hc h2,aW.hide hc us vs h3⟩
 | .loc n,v,h => by
  unfold Rl at h ⊢
  exact h
 | .exc c,v,h => h
 | .fn _ _,_,h => h
theorem aW.hide (hc:Fz H c o):∀ (us:List Val) (vs:List V),aW K ρ H us vs → aW K ρ (hide H c) us vs
 | [],_,h => h
 | u :: us,vs,h => by
  unfold aW at h ⊢
  obtain ⟨v,r,h1,h2,h3⟩:=h
  exact ⟨v,r,h1,Rl.hide hc u v h2,aW.hide hc us r h3⟩
end
theorem eG.hide (hc:Fz H c o) (hd:∃ x,o.data = .cell x) {k:Cell} {a:Addr} (h:eG K ρ H k a):eG K ρ (hide H c) k a:=by
 have ne:∀ {b:Addr} {x:HO},H b = some x → (∀ o,x ≠ .fN o (.own 0)) → L2.hide H c b = some x:=fun {b x} q z => by
  rw [hide_ne (fun e => by rw [e,hc] at q; exact z _ (Option.some.inj q).symm)]; exact q
 cases k with
 | lst us => obtain ⟨vs,h,r⟩:=h; exact ⟨vs,ne h (fun _ z => by cases z),aW.hide hc _ _ r⟩
 | DX us => obtain ⟨x,vs,h,r⟩:=h; exact ⟨x,vs,ne h (fun _ z => by cases z),aW.hide hc _ _ r⟩
 | mod us => obtain ⟨vs,h,r⟩:=h; exact ⟨vs,h,aW.hide hc _ _ r⟩
 | dK us => obtain ⟨vs,h,r1,r2⟩:=h; exact ⟨vs,ne h (fun _ z => by cases z),r1,aW.hide hc _ _ r2⟩
 | dT us => obtain ⟨vs,h,r1,r2⟩:=h; exact ⟨vs,ne h (fun _ z => by cases z),r1,aW.hide hc _ _ r2⟩
 | tab x l cl q =>
  refine ⟨h.1,?_⟩
  rcases h.2 with h | ⟨c',oc,vs,t,h,h2,h3,h4⟩
  ·exact .inl (ne h (fun _ z => by cases z))
  ·refine .inr ⟨c',oc,vs,t,ne h (fun _ z => by cases z),?_,h3,h4⟩
   have n2:c' ≠ c:=fun z => by
    have h2:H c' = _:=h2
    rw [z,hc] at h2
    cases h2
    obtain ⟨x,hx⟩:=hd
    rw [hx] at h3
    cases h3
   show L2.hide H c c' = _
   rw [hide_ne n2]; exact h2
theorem SR.hide {st:ai} (hc:Fz H c o) (hd:∃ x,o.data = .cell x) (s:SR K ρ st H):SR K ρ st (hide H c) :=
 ⟨s.len,s.nd,fun n k a h1 h2 => (s.cell n k a h1 h2).hide hc hd⟩
theorem Step.Me (hn:H c = none) (e:Step ρ (upd H c (.fN o (.own 0))) ρ' H'):Step ρ H ρ' (hide H' c):=by
 have ne:∀ {b:Addr} {x:HO},H b = some x → b ≠ c:=fun {b x} q z => by rw [z,hn] at q; cases q
 refine ⟨e.pre,fun b xs h => ?_,fun b x u h => ?_⟩
 ·rw [hide_ne (ne h)]; exact e.tup b xs (by rw [aH (ne h)]; exact h)
 ·rw [hide_ne (ne h)]; exact e.fN b x u (by rw [aH (ne h)]; exact h)
theorem Step.back (hc:Fz H c o) (e:Step ρ (hide H c) ρ' H'):Step ρ H ρ' (back H H' c):=by
 refine ⟨e.pre,fun b xs h => ?_,fun b x u h => ?_⟩
 ·have n:b ≠ c:=fun z => by rw [z,hc] at h; cases h
  rw [fX n]; exact e.tup b xs (by rw [hide_ne n]; exact h)
 ·by_cases n:b = c
  ·rw [n,kK,← n]; exact h
  ·rw [fX n]; exact e.fN b x u (by rw [hide_ne n]; exact h)
theorem qb (h:H' c = none):jx H' (back H H' c):=fun b x q => by
 rw [fX (fun z => by rw [z,h] at q; cases q)]; exact q
theorem SR.FR {st:ai} {L:dQ} {H':Hp} {T c f c':Addr} {pos:Pos} {x:Str} {j:Nat} (s:SR K ρ st H) (hj:st[j]? = some (.tab x pos.line pos.col L.qual)) (hT:ρ[j]? = some T) (N:zi L H H' T c f c' pos):SR K ρ st H' ∧ Step ρ H ρ H':=by
 have k:=s.cell j _ T hj hT
 have tT:∃ ps,H T = some (.oY ps):=by
  rcases k.2 with h | ⟨_,_,_,_,h,_⟩ <;> exact ⟨_,h⟩
 obtain ⟨ps,tT⟩:=tT
 have aw:Step ρ H ρ H':=by
  refine ⟨List.prefix_refl ρ,fun b xs h => N.old b _ (fun z => ?_) h,fun b x u h => N.old b _ (fun z => ?_) h⟩ <;> (rw [z,tT] at h; cases h)
 refine ⟨⟨s.len,s.nd,fun n d a h1 h2 => ?_⟩,aw⟩
 by_cases z:n = j
 ·subst z
  rw [hj] at h1
  rw [hT] at h2
  cases h1
  cases h2
  exact ⟨k.1,N.tab⟩
 ·have kb:=s.cell n d a h1 h2
  cases zm:iw (some d) with
  | true => exact kb.mono aw (.inl zm)
  | false =>
   have hb:a ≠ T:=fun y => z (s.nd n j T (by rw [← y]; exact h2) hT (by rw [h1]; exact zm) (by rw [hj]; rfl))
   obtain ⟨o,ho,_⟩:=kb.there zm
   exact kb.mono aw (.inr (by rw [ho]; exact N.old a _ hb ho))
end
theorem IJ {P:Program} {w:World} {X:Cx}:Passes (iJ P w) X E0:=by
 rintro pins σ H s e s' I ⟨_,_,_,_,_,z⟩
 exact z.elim
noncomputable def uX (P:Program) (w:World) (K:PySem.W.Frag) (mg:Str → Option Value) (base:Heap) (L:dQ) (k:Nat) (mb:ME):Prop :=
 L.Ok ∧ ∀ (f c c':Addr) (A:Around) (outer:List PySem.Env) (s:Shared) (H:Hp),eh k (A.deeper (PySem.W.envX L.qual L.scope s.heap.objs.size f (.ref c') [(L.x,c)])) →
  PE (pU P w K mg base L f c c' A outer s H) L.body (tE (pU P w K mg base L f c c' A outer s H) E0 mb)
open Classical in
noncomputable def gK (i:Nat) (L:dQ) (mb:ME) (ms:MA):ME:=fun μ st => match μ[i]? with
 | some (some (.fn L' u)) => if L' = L then (ms μ st).bind fun us aX => if us.length = L.ps.length then II mb (us.map some ++ [some u]) aX else .bad else .bad
 | _ => .bad
section
variable {X:Cx} {E:XK} {pos p:Pos} {e:Expr} {es:List Expr} {ms:MA} {x:Str} {L:dQ} {k:Nat} {mb:ME}
theorem RS.lam {W:Wo} {ρ:List Addr} {H:Hp} {us:List Val} {vs:List V} {u:Val} {v:V} (r:aW W.K ρ H us vs) (h:Rl W.K ρ H u v):RS W ρ H (us.map some ++ [some u]) (vs.map some ++ [some v]):=by
 have hl:=r.length
 refine ⟨by simp [hl],fun i w e => ?_⟩
 rcases Nat.lt_or_ge i us.length with q | q
 ·rw [List.getElem?_append_left (by rw [List.length_map]; exact q),List.getElem?_map] at e
  have e':us[i]? = some w:=by
   cases z:us[i]? with
   | none => rw [z] at e; cases e
   | some w => rw [z] at e; exact congrArg _ (Option.some.inj (Option.some.inj e))
  obtain ⟨v,h1,h2⟩:=r.get e'
  refine ⟨v,?_,vX.of h2⟩
  rw [List.getElem?_append_left (by rw [List.length_map,← hl]; exact q),List.getElem?_map,h1]
  rfl
 ·rw [List.getElem?_append_right (by rw [List.length_map]; exact q),List.length_map] at e
  cases z:i - us.length with
  | zero =>
   rw [z] at e
   cases e
   refine ⟨v,?_,vX.of h⟩
   rw [List.getElem?_append_right (by rw [List.length_map,← hl]; exact q),List.length_map,← hl,z]
   rfl
  | succ n => rw [z] at e; cases e
theorem sW (S:uX X.prog X.w X.K X.mg X.base L k mb) (i:Nat) (hr:eh (k + 1) X.A) (ha:PA X (e :: es) (tL X E ms)) (hN:X.N[i]? = some x:=by rfl) (hk:X.env.scope.names.lookup x = some .local:=by rfl) (mE:(x == ("__debug__":Str)) = false:=by decide)
  (he:starEach (e :: es) X.env = (false,eval e X.env) :: starEach es X.env:=by rfl) (jo:(backTo pos (starEach es X.env)).any (·.1) = false:=by rfl) :
  PE X (.Call (.Name x p) (e :: es) [] pos) (tE X E (gK i L mb ms)):=by
 refine PE.imp (zj S.1 hr hN hk ha mE he jo) ?_
 rintro σ H Q ⟨μ,ρ,st,rs,sr,h⟩
 unfold gK at h
 have key:∀ u,μ[i]? = some (some (.fn L u)) → wR (wo X) E (Rl X.K) ρ H Q ((ms μ st).bind fun us aX => if us.length = L.ps.length then II mb (us.map some ++ [some u]) aX else .bad) →
   ∃ f c c' v,σ[i]? = some (some (.ref f)) ∧ xx L H f c c' v ∧ tL X E ms σ H fun vs H1 => xx L H1 f c c' v ∧ DW X L f c c' v vs H1 Q:=by
  intro u hμ h
  obtain ⟨vf,hσ,f,c,c',cv,e0,C,r⟩:=rs.at_ i _ hμ
  subst e0
  refine ⟨f,c,c',cv,hσ,C,go (R1:=aW X.K) μ ρ st rs sr h fun us aX ρ1 H1 xs e1 cn r1 h1 => ?_⟩
  have C1:=C.mono (fun b o u q => e1.fN b o u q)
  refine ⟨C1,?_⟩
  by_cases hl:us.length = L.ps.length
  ·rw [if_pos hl] at h1
   obtain ⟨oc,uc,hc,oT,_⟩:=C1.ce
   refine ⟨by rw [← r1.length]; exact hl,fun s => ⟨_,S.2 f c c' X.A X.stack s H1 (hr.deeper _),us.map some ++ [some u],ρ1,aX,RS.lam (aW.hide hc _ _ r1) (Rl.hide hc _ _ (Rl.mono e1 _ _ r)),cn.hide hc ⟨_,oT⟩,?_⟩⟩
   unfold II at h1
   revert h1
   cases hb:mb (us.map some ++ [some u]) aX with
   | ok y bV =>
    intro h1 ρ2 H2 vy e2 m9 ry hn
    exact h1 ρ2 (back H1 H2 c) vy (Step.back hc e2) (m9.grow (qb hn)) (Rl.mono (Step.same (qb hn)) _ _ ry)
   | err c bV => exact fun h => h.elim
   | bad => exact fun h => h.elim
  ·rw [if_neg hl] at h1; exact h1.elim
 split at h
 ·rename_i L' u hμ
  split at h
  ·rename_i e
   subst e
   exact key u hμ h
  ·exact h.elim
 ·exact h.elim
end
noncomputable def FT (np n:Nat) (L:dQ) (body:MB):Val → FN:=fun u us st => if us.length + 1 = np then (match body (some (.fn L u) :: us.map some ++ List.replicate (n - np) none) st with
 | .nx _ aw => .ok .e7 aw
 | .rt v aw => .ok v aw
 | .er c _ aw => .err c aw
 | _ => .bad) else .bad
noncomputable def Q7 (W:Wo) (L:dQ) (F:Val → FN):Sp:=fun vs H Q E => ∃ f c c' cv u us xs ρ st,vs = .ref f :: xs ∧ xx L H f c c' cv ∧ Rl W.K ρ H u cv ∧ aW W.K ρ H us xs ∧ SR W.K ρ st H ∧ wR W E (Rl W.K) ρ H Q (F u us st)
theorem RS.FU {W:Wo} {ρ:List Addr} {H:Hp} {N:List Str} {us:List Val} {vs:List V} {L:dQ} {u:Val} {f c c':Addr} {cv:V} (C:xx L H f c c' cv) (ru:Rl W.K ρ H u cv) (r:aW W.K ρ H us vs) :
  RS W ρ H (some (.fn L u) :: us.map some ++ List.replicate (N.length - (us.length + 1)) none) (L2.start N (.ref f :: vs)):=by
 have hl:=r.length
 refine ⟨by simp [L2.start,hl],fun i w e => ?_⟩
 cases i with
 | zero =>
  cases e
  exact ⟨.ref f,rfl,f,c,c',cv,rfl,C,ru⟩
 | succ i =>
  rw [List.cons_append,List.getElem?_cons_succ] at e
  rcases Nat.lt_or_ge i us.length with q | q
  ·rw [List.getElem?_append_left (by rw [List.length_map]; exact q),List.getElem?_map] at e
   have e':us[i]? = some w:=by
    cases z:us[i]? with
    | none => rw [z] at e; cases e
    | some w => rw [z] at e; exact congrArg _ (Option.some.inj (Option.some.inj e))
   obtain ⟨v,h1,h2⟩:=r.get e'
   refine ⟨v,?_,vX.of h2⟩
   unfold L2.start
   rw [List.map_cons,List.cons_append,List.getElem?_cons_succ,List.getElem?_append_left (by rw [List.length_map,← hl]; exact q),List.getElem?_map,h1]
   rfl
  ·rw [List.getElem?_append_right (by rw [List.length_map]; exact q)] at e
   rw [List.getElem?_replicate] at e
   split at e
   ·cases e
   ·cases e
section
variable {P:Program} {w:World} {K:PySem.W.Frag} {mg:Str → Option Value} {base:Heap}
noncomputable def qc (P:Program) (w:World) (K:PySem.W.Frag) (mg:Str → Option Value) (base:Heap) (x:Str) (k:Nat) (L:dQ) (f:Val → FN):Prop :=
 ∃ fa fd ps,jQ P w K mg base (iJ P w) k fa fd ps (Q7 ⟨K,mg,[]⟩ L f) ∧ mg x = some (.ref fa) ∧ PySem.W.keepIn K (.ref fa) = true ∧ Binds K fd ps []
theorem FV {x qual:Str} {st:Stmt} {f:Addr} {fd:FuncData} {N ps:List Str} {k:Nat} {L:dQ} {body:MB} (F:iI K x qual st f fd) (S:aY N ps (ao st))
  (h:∀ (dj:Value) (A:Around) (outer:List PySem.Env) (s:Shared) (H:Hp) (E:XK),eh k (A.deeper (envOfC qual (ao st) s.heap.objs.size f dj)) →
   jO (fO (iJ P w) P w K mg base N qual (ao st) f dj A outer s H E) (aQ st) (tS (fO (iJ P w) P w K mg base N qual (ao st) f dj A outer s H E) E body)) :
  jQ P w K mg base (iJ P w) (k + 1) f fd ps (Q7 ⟨K,mg,[]⟩ L (FT ps.length N.length L body)):=by
 refine F.QX S (fun vs H Q E q => ?_) (fun dj A outer s H vs Q E hr q => ⟨_,h dj A outer s H E hr,?_⟩)
 ·obtain ⟨f,c,c',cv,u,us,xs,ρ,st,rfl,C,ru,r,sr,q⟩:=q
  by_cases hl:us.length + 1 = ps.length
  ·rw [List.length_cons,← r.length]; exact hl
  ·unfold FT at q; rw [if_neg hl] at q; exact q.elim
 ·obtain ⟨f,c,c',cv,u,us,xs,ρ,aw,rfl,C,ru,r,sr,q⟩:=q
  unfold FT at q
  by_cases hl:us.length + 1 = ps.length
  ·rw [if_pos hl,← hl] at q
   refine ⟨_,ρ,aw,RS.FU C ru r,sr,?_⟩
   revert q
   cases body (some (.fn L u) :: us.map some ++ List.replicate (N.length - (us.length + 1)) none) aw with
   | nx μ bV => exact fun q ρ' H' σ' e s _ => q ρ' H' .e7 e s Rl.vW
   | rt v bV => exact fun q => q
   | er c μ bV => exact fun q => q
   | bk μ bV => exact fun q => q.elim
   | ct μ bV => exact fun q => q.elim
   | bad => exact fun q => q.elim
  ·rw [if_neg hl] at q; exact q.elim
theorem qc.mk {x:Str} {st:Stmt} {f:Addr} {fd:FuncData} {N ps:List Str} {k:Nat} {L:dQ} {body:MB} (F:iI K x x st f fd) (hm:mg x = some (.ref f)) (S:aY N ps (ao st))
  (hb:∀ (kV doc pm:Value) (an:Option Addr) (dj ct:Value) (us:List Value),us.length = ps.length → bindArgs (PySem.W.fnOf x x (aZ st) (aQ st) (ao st) .none kV doc pm an dj ct) ⟨us,[]⟩ = pure (ps.zip us))
  (h:∀ (dj:Value) (A:Around) (outer:List PySem.Env) (s:Shared) (H:Hp) (E:XK),eh k (A.deeper (envOfC x (ao st) s.heap.objs.size f dj)) →
   jO (fO (iJ P w) P w K mg base N x (ao st) f dj A outer s H E) (aQ st) (tS (fO (iJ P w) P w K mg base N x (ao st) f dj A outer s H E) E body)):qc P w K mg base x (k + 1) L (FT ps.length N.length L body) :=
 ⟨f,fd,ps,FV F S h,hm,F.kp,F.binds hb⟩
structure FW (K:PySem.W.Frag) (mg:Str → Option Value) (base:Heap) (x:Str) (cd T:Addr):Prop where
 tab:PySem.W.tabIn K x = some (cd,T)
 hd:PySem.W.CodeHd base cd T
 blt:base.BuiltinsAt mg T
 gT:mainGlobals ≠ T
theorem FnAt.S0 {x:Str} {st:Stmt} {f:Addr} {fd:FuncData} {N ps:List Str} {k:Nat} {body:MB} {cd T:Addr} (B:FW K mg base x cd T) (F:iI K x x st f fd) (hn:PySem.W.nsIn K mainGlobals x = some (some (.ref f))) (hm:mg x = some (.ref f)) (S:aY N ps (ao st))
  (hb:∀ (kV doc pm:Value) (an:Option Addr) (dj ct:Value) (us:List Value),us.length = ps.length → bindArgs (PySem.W.fnOf x x (aZ st) (aQ st) (ao st) .none kV doc pm an dj ct) ⟨us,[]⟩ = pure (ps.zip us))
  (h:∀ (A:Around) (outer:List PySem.Env) (s:Shared) (H:Hp) (E:XK),eh k (A.deeper (envOfC x (ao st) s.heap.objs.size f (.ref cd))) →
   jO (fO (iJ P w) P w K mg base N x (ao st) f (.ref cd) A outer s H E) (aQ st) (tS (fO (iJ P w) P w K mg base N x (ao st) f (.ref cd) A outer s H E) E body)):FnAt P w K mg base x (k + 1) (jf ps.length N.length body):=by
 refine ⟨f,fd,ps,?_,hm,F.kp,F.binds hb⟩
 obtain ⟨oc,od,kV,doc,pm,an,dj,ct,BR,e,lk,oT⟩:=F.ex
 have ec:dj = .ref cd:=by
  have t:=B.tab
  unfold PySem.W.tabIn at t
  rw [hn] at t
  simp only [lk] at t
  rw [e] at t
  simp only [PySem.W.fnOf] at t
  split at t
  ·rename_i c hc
   split at t
   ·split at t
    ·cases t; rfl
    ·cases t
   ·cases t
  ·cases t
 subst ec
 have h':∀ (dj:Value) (A:Around) (outer:List PySem.Env) (s:Shared) (H:Hp) (E:XK),dj = .ref cd → eh k (A.deeper (envOfC x (ao st) s.heap.objs.size f dj)) →
   jO (fO (iJ P w) P w K mg base N x (ao st) f dj A outer s H E) (aQ st) (tS (fO (iJ P w) P w K mg base N x (ao st) f dj A outer s H E) E body):=fun dj A outer s H E e => by subst e; exact h A outer s H E
 subst e
 refine DH lk oT S (fun vs H Q E q => ?_) fun A outer s H vs Q E hr q => ⟨_,h A outer s H E hr,?_⟩
 ·obtain ⟨us,ρ,st,r,sr,q⟩:=q
  by_cases hl:us.length = ps.length
  ·rw [← r.length]; exact hl
  ·unfold jf at q; rw [if_neg hl] at q; exact q.elim
 ·obtain ⟨us,ρ,aw,r,sr,q⟩:=q
  unfold jf at q
  by_cases hl:us.length = ps.length
  ·rw [if_pos hl,← hl] at q
   refine ⟨_,ρ,aw,RS.start r,sr,?_⟩
   revert q
   cases body (us.map some ++ List.replicate (N.length - us.length) none) aw with
   | nx μ bV => exact fun q ρ' H' σ' e s _ => q ρ' H' .e7 e s Rl.vW
   | rt v bV => exact fun q => q
   | er c μ bV => exact fun q => q
   | bk μ bV => exact fun q => q.elim
   | ct μ bV => exact fun q => q.elim
   | bad => exact fun q => q.elim
  ·rw [if_neg hl] at q; exact q.elim
end
noncomputable def IK:Res Val → Res Val
 | .ok v st => .ok v st
 | _ => .bad
noncomputable def en (st:ai) (x:Str) (l c:Nat) (q:Str):Prop:=∃ j:Nat,st[j]? = some (.tab x l c q)
structure fH where
 S:dQ
 own:Str
 line:Nat
 col:Nat
open Classical in
noncomputable def kP (L:fH) (i:Nat) (F:Val → FN) (ms:MA):ME:=fun μ st => match μ[i]? with
 | some (some u) => if Iz u = false ∧ en st L.own L.line L.col L.S.qual then (ms μ st).bind fun us aX => IK (F u us aX) else .bad
 | _ => .bad
section
variable {X:Cx} {E:XK} {pos p lp:Pos} {e:Expr} {es:List Expr} {ms:MA} {x y:Str} {L:fH} {k j:Nat} {f:Val → FN} {c cd T:Addr}
theorem zT (G:qc X.prog X.w X.K X.mg X.base x k L.S f) (B:FW X.K X.mg X.base L.own cd T) (hr:eh j X.A) (S1:k ≤ j) (hg:Gl X x) (i:Nat) (Em:X.fn y = true) (ha:PA X es (tL X E ms)) (IL:X.env.code = .ref cd:=by rfl) (S2:closureFor L.S.scope X.env = pure [(L.S.x,c)]:=by rfl) (hq:L.S.qual = X.env.qual ++ "<lambda>":=by rfl)
  (HW:defaultsOf L.S.params X.env = ([],[]):=by rfl) (vT:lp.line = L.line:=by rfl) (vN:lp.col = L.col:=by rfl) (hN:X.N[i]? = some y:=by rfl) (hy:X.env.scope.names.lookup y = some .cell:=by rfl) (hc:X.env.cells.lookup y = some c:=by rfl) (mE:(x == ("__debug__":Str)) = false:=by decide)
  (he:starEach (.Lambda L.S.params L.S.body L.S.scope lp :: es) X.env = (false,eval (.Lambda L.S.params L.S.body L.S.scope lp) X.env) :: starEach es X.env:=by rfl) (jo:(backTo pos (starEach es X.env)).any (·.1) = false:=by rfl) :
  PE X (.Call (.Name x p) (.Lambda L.S.params L.S.body L.S.scope lp :: es) [] pos) (tE X E (kP L i f ms)):=by
 obtain ⟨fa,fd,ps,F,hm,kp,b⟩:=G
 have A:DV X L.S lp cd T c:=⟨IL,B.hd,S2,hq,HW,B.blt,B.gT⟩
 refine PE.imp (zl F (hr.mono S1) hg hm kp b hN hy hc Em (jP (Fx A) ha he) mE he jo) ?_
 rintro σ H Q ⟨μ,ρ,st,rs,sr,h⟩
 unfold kP at h
 split at h
 ·rename_i u hu
  split at h
  ·rename_i hh
   obtain ⟨hx,jt,hj⟩:=hh
   rw [← vT,← vN] at hj
   obtain ⟨T',Iu,kT⟩:=sr.addr hj
   have eT:T' = T:=by
    obtain ⟨VE,h1⟩:=kT.1
    have:=h1.symm.trans B.tab
    cases this
    rfl
   subst eT
   refine ⟨kT.2,fun S3 c' H1 N => ?_⟩
   obtain ⟨cn,e1⟩:=sr.FR hj Iu N
   refine go (R1:=aW X.K) μ ρ st (rs.mono e1) cn (wR.mono h e1) fun us bV ρ2 H2 xs e2 m9 r2 h2 => ?_
   obtain ⟨v,hv,rv⟩:=rs.at_ i u hu
   have S4:Rl X.K ρ H u v:=rv.un (by rw [hx]; exact Bool.false_ne_true)
   refine ⟨v,hv,fun oc uv oT S5 hn => ?_⟩
   have s3:jx H2 (upd H2 c (.fN oc (.own 0))):=dG hn
   have e3:Step ρ2 H2 ρ2 (upd H2 c (.fN oc (.own 0))):=Step.same s3
   have Mf:=e2.trans e3
   refine ⟨S3,c,c',v,u,us,xs,ρ2,bV,rfl,⟨?_,?_,oc,uv,bh,oT,S5⟩,Rl.mono (e1.trans Mf) _ _ S4,aW.mono e3 _ _ r2,m9.grow s3,?_⟩
   ·obtain ⟨pm,uK,hf⟩:=N.fn
    exact ⟨pm,uK,Mf.fN _ _ _ hf⟩
   ·obtain ⟨o2,vs,t,h4,h5⟩:=N.cd
    exact ⟨o2,vs,t,Mf.fN _ _ _ h4,h5⟩
   ·revert h2
    cases f u us bV with
    | ok y lX =>
     intro h2 ρ4 H4 vy e4 mJ ry
     have Q8:Fz H4 c oc:=e4.fN _ _ _ bh
     exact h2 ρ4 (hide H4 c) vy (Step.Me hn e4) (mJ.hide Q8 ⟨_,oT⟩) (Rl.hide Q8 _ _ ry)
    | err c lX => exact fun h => h.elim
    | bad => exact fun h => h.elim
  ·exact h.elim
 ·exact h.elim
end
end MN
namespace MN
open PySem PySem.Spec L2
open PyProof.Rows hiding St
noncomputable abbrev cX (mg:Str → Option Value) (base:Heap) (ts:List (Addr × Addr)):Prop:=∀ q ∈ ts,PySem.W.CodeHd base q.1 q.2 ∧ base.BuiltinsAt mg q.2 ∧ mainGlobals ≠ q.2
noncomputable def ji (a:Addr) (o:Option HO) (ts:List (Addr × Addr)):Hp:=fun b => if b ∈ ts.map (·.2) then some (.oY #[]) else if b = a then o else none
theorem xM {P:Program} {w:World} {K:PySem.W.Frag} {mg mb:Str → Option Value} {k:Nat} {fa a:Addr} {fd:FuncData} {x:Str} {sp:Sp} {s₁:Shared} {vs:List Value} {ns:List Int} {ts:List (Addr × Addr)}
  (KX:K.In s₁.heap) (DT:s₁.heap.Ns mainGlobals mg) (hb:s₁.heap.Ns builtinsNs mb) (S6:∀ x:Str,x ≠ "__name__" → mb x = bootBuiltins x) (Mg:s₁.heap.NoLimit) (hg:s₁.gens = #[])
  (S7:∃ bm ob,mg "__builtins__" = some (.ref bm) ∧ bm ≠ builtinsNs ∧ s₁.heap.get? bm = some ob ∧ ob.cls = .type "module" ∧ ob.dict = some builtinsNs ∧ ob.data = .plain)
  (hT:PySem.W.TabsAt ts s₁.heap) (S8:PySem.W.noTabs K = true)
  (ha:s₁.heap.get? a = some { cls:=.type "list",data:=.seq vs.toArray }) (hi:IntsAre vs ns) (hl:ns.length ≤ sizeLine) (hr:eh k callerA)
  (F:∀ base:Heap,K.In base → base.Ns mainGlobals mg → cX mg base ts → jQ P w K mg base (iJ P w) k fa fd [x] sp) (IM:∀ (s:Shared) (u:Value),BindsTo s fd ⟨[u],[]⟩ [(x,u)])
  (GZ:∀ H:Hp,(∀ b xs,H b ≠ some (.lst xs)) → lR K H a (ns.map V.int) → (∀ q ∈ ts,H q.2 = some (.oY #[])) → a ∉ ts.map (·.2) → sp [.ref a] H (fun v _ => v = .bl true) fun _ _ _ => False) :
  codeAny (model P w) callerA (.call (.ref fa) ⟨[.ref a],[]⟩) (fun r s' => r = .ok (.ret (.bool true)) ∧ OldK s₁.heap s'.heap ∧ s'.os = s₁.os ∧ AllBare s'.gens) s₁:=by
 have rv:=pO hi
 have Mi:=hi.length
 have tabs:∀ b,b ∈ ts.map (·.2) → s₁.heap.get? b = some (PySem.W.tabObj #[]):=fun b hb => by
  obtain ⟨q,hq,rfl⟩:=List.mem_map.mp hb
  exact (hT q hq).2
 have aT:a ∉ ts.map (·.2):=fun z => by
  have:=tabs a z
  rw [ha] at this
  cases this
 have core:∀ o:Option HO,(∀ x,o = some x → ∃ ob xs,x = .fN ob (.lst xs)) → lR K (ji a o ts) a (ns.map V.int) → gv P w (ji a o ts) s₁.heap → (o ≠ none → K.lookup a = none) →
   codeAny (model P w) callerA (.call (.ref fa) ⟨[.ref a],[]⟩) (fun r s' => r = .ok (.ret (.bool true)) ∧ OldK s₁.heap s'.heap ∧ s'.os = s₁.os ∧ AllBare s'.gens) s₁:=by
  intro o hO hS bP hK
  have Mj:∀ b,b ∈ ts.map (·.2) → ji a o ts b = some (.oY #[]):=fun b hb => if_pos hb
  have Q9:ji a o ts a = o:=by unfold ji; rw [if_neg aT,if_pos rfl]
  have G9:∀ b,ji a o ts b = none ∨ (b = a ∧ ji a o ts b = o) ∨ (b ∈ ts.map (·.2) ∧ ji a o ts b = some (.oY #[])):=fun b => by
   by_cases h1:b ∈ ts.map (·.2)
   ·exact .inr (.inr ⟨h1,Mj b h1⟩)
   ·by_cases h2:b = a
    ·subst h2; exact .inr (.inl ⟨rfl,Q9⟩)
    ·exact .inl (by unfold ji; rw [if_neg h1,if_neg h2])
  obtain ⟨H,eH⟩:∃ H,H = ji a o ts:=⟨_,rfl⟩
  rw [← eH] at hS bP Mj Q9 G9
  have ni:∀ {b:Addr} {ob:Obj},s₁.heap.get? b = some ob → H b = none → (oZ s₁.heap H).get? b = some ob:=fun e n => yA e n
  have GY:∀ {b:Addr} {ob:Obj},s₁.heap.get? b = some ob → ob.cls ≠ .type "list" → ob.cls ≠ .none → H b = none:=fun {b ob} e d d2 => by
   rcases G9 b with h | ⟨h,_⟩ | ⟨h,_⟩
   ·exact h
   ·subst h; rw [ha] at e; cases e; exact absurd rfl d
   ·rw [tabs b h] at e; cases e; exact absurd rfl d2
  have S9:∀ {b:Addr} {ob:Obj} {es:Array DictEntry} {ep:Nat},s₁.heap.get? b = some ob → ob.data = .dict es ep → H b = none:=fun {b ob es ep} e d => by
   rcases G9 b with h | ⟨h,_⟩ | ⟨h,_⟩
   ·exact h
   ·subst h; rw [ha] at e; cases e; have d':Data.seq vs.toArray _ = Data.dict es ep:=d; cases d'
   ·rw [tabs b h] at e; cases e; cases d
  have Kt:∀ {b:Addr} {m:Str → Option Value},s₁.heap.Ns b m → (oZ s₁.heap H).Ns b m:=fun {b m} ⟨ob,es,ep,e,d,r⟩ => ⟨ob,es,ep,ni e (S9 e d),d,r⟩
  have Q_:K.In (oZ s₁.heap H):=fun b ob e => ni (KX b ob e) (by
   rcases G9 b with h | ⟨h,h2⟩ | ⟨h,_⟩
   ·exact h
   ·subst h
    cases q:o with
    | none => rw [h2,q]
    | some u => rw [hK (by rw [q]; simp)] at e; cases e
   ·have h1:=KX b ob e
    rw [tabs b h] at h1
    cases h1
    have h2:=List.all_eq_true.mp S8 _ (PySem.W.mem_of_lookupK e)
    exact absurd (show false = true from h2) Bool.false_ne_true)
  have hM:Mod K mg (oZ s₁.heap H):=⟨Q_,Kt DT,⟨mb,Kt hb,S6⟩,let ⟨mc,h1,h2⟩:=Mg; ⟨mc,Kt h1,h2⟩⟩
  have e0:uB P w K mg (oZ s₁.heap H) callerA [] s₁ H:=⟨rfl,hM,fun b o e => Bx e,Nat.le_of_eq (wY _ _),trivial,fun b hb => absurd (show b ∈ ([]:List Addr) from hb) (by simp),bP,.of_eq hg⟩
  have S_:cX mg (oZ s₁.heap H) ts:=by
   intro q hq
   obtain ⟨h1,h2⟩:=hT q hq
   refine ⟨?_,?_,?_⟩
   ·obtain ⟨oc,ws,file,tf,flags,tg,Ta,text,tt,e1,r1,r⟩:=h1
    exact ⟨oc,ws,file,tf,flags,tg,Ta,text,tt,ni e1 (GY e1 (by rw [r1]; decide) (by rw [r1]; intro z; cases z)),r1,r⟩
   ·obtain ⟨bm,ob,b1,b2,b3,b4,b5,b6⟩:=S7
    refine ⟨bm,ob,b1,b2,fun z => ?_,fun z => ?_,ni b3 (GY b3 (by rw [b4]; decide) (by rw [b4]; intro z; cases z)),b4,b5,b6⟩
    ·obtain ⟨o',es,ep,e,hd,_⟩:=DT
     rw [z,e] at b3
     cases b3
     rw [hd] at b6; cases b6
    ·rw [z,h2] at b3
     cases b3
     cases b4
   ·intro z
    obtain ⟨o',es,ep,e,hd,_⟩:=DT
    rw [z,h2] at e
    cases e
    cases hd
  refine codeAny_mono ((F _ Q_ (Kt DT) S_).run callerA [] s₁ H ⟨[.ref a],[]⟩ [.ref a] [.ref a] _ _ hr e0 (IM s₁ (.ref a)) (.cons rfl .nil) (GZ H (fun b xs z => ?_) hS (fun q hq => Mj _ (List.mem_map_of_mem hq)) aT)) fun r s' h => ?_
  ·rcases G9 b with h | ⟨_,h2⟩ | ⟨_,h2⟩
   ·rw [h] at z; cases z
   ·rw [h2] at z
    obtain ⟨_,_,e⟩:=hO _ z
    cases e
   ·rw [h2] at z; cases z
  cases r with
  | error e => obtain ⟨_,_,_,_,_,z⟩:=h; exact z.elim
  | ok fl =>
   cases fl with
   | next => exact False.elim h
   | brk => exact False.elim h
   | cont => exact False.elim h
   | ret u =>
    obtain ⟨v,H',os,bare,un,IP,r',q⟩:=h
    have q':v = .bl true:=q
    subst q'
    obtain rfl:u = Value.bool true:=r'
    have there:∀ b ob,s₁.heap.get? b = some ob → (s'.heap.get? b = some ob) ∨ (isCodeTable s₁.heap b ∧ ob = PySem.W.tabObj #[] ∧ ∃ ps,s'.heap.get? b = some (PySem.W.tabObj ps)):=fun b ob e => by
     rcases G9 b with h | ⟨h,h2⟩ | ⟨h,h2⟩
     ·exact .inl (un.keep b ob e h (by intro z; exact absurd (show b ∈ ([]:List Addr) from z) (by simp)) (by simp))
     ·cases q:o with
      | none => rw [q] at h2; exact .inl (un.keep b ob e h2 (by intro z; exact absurd (show b ∈ ([]:List Addr) from z) (by simp)) (by simp))
      | some u =>
       obtain ⟨o2,xs,eu⟩:=hO u q
       rw [q,eu] at h2
       have z2:=un.iF b o2 _ h2
       obtain ⟨e1,_⟩:=bP b _ h2
       obtain ⟨e2,_⟩:=IP b _ z2
       rw [e] at e1; cases e1
       exact .inl e2
     ·obtain ⟨m,hm⟩:=un.jw b _ h2
      obtain ⟨q,hq,rfl⟩:=List.mem_map.mp h
      have e1:=tabs _ h
      rw [e] at e1
      exact .inr ⟨((hT q hq).1.tab (hT q hq).2).isCodeTable,Option.some.inj e1,_,IP _ _ hm⟩
    refine ⟨rfl,⟨fun b ob e => ?_,fun b ob e => ?_⟩,os,bare⟩
    ·rcases there b ob e with h | ⟨ht,rfl,ps,hP⟩
     ·exact .inl h
     ·exact .inr (.inl ⟨ht,rfl,#[],ps,rfl,by rw [Array.empty_append]; exact hP⟩)
    ·rcases there b ob e with h | ⟨ht,rfl,ps,hP⟩
     ·exact ⟨_,h⟩
     ·exact ⟨_,hP⟩
 have IQ:∀ (o:Option HO) b,b ∈ ts.map (·.2) → ∀ u,ji a o ts b = some u → b7 P w (ji a o ts) s₁.heap b u:=fun o b hb u z => by
  rw [show ji a o ts b = some (.oY #[]) from if_pos hb] at z
  cases z
  exact tabs b hb
 cases hk:K.lookup a with
 | some o =>
  have e:=KX a o hk
  rw [ha] at e
  cases e
  refine core none (fun _ z => by cases z) (.inr ⟨_,vs.toArray,_,hk,rfl,rfl,rfl,by rw [List.size_toArray,Mi]; exact hl,by simpa using rv⟩) (fun b u z => ?_) fun z => absurd rfl z
  by_cases hb:b ∈ ts.map (·.2)
  ·exact IQ _ b hb u z
  ·unfold ji at z; rw [if_neg hb] at z; split at z <;> cases z
 | none =>
  refine core (some (.fN { cls:=.type "list",data:=.seq vs.toArray } (.lst (ns.map V.int)))) (fun x z => by cases z; exact ⟨_,_,rfl⟩) (.inl (.inr ⟨{ cls:=.type "list",data:=.seq vs.toArray },?_⟩)) (fun b u z => ?_) fun _ => hk
  ·unfold ji; rw [if_neg aT,if_pos rfl]
  ·by_cases hb:b ∈ ts.map (·.2)
   ·exact IQ _ b hb u z
   ·have z0:=z
    unfold ji at z
    rw [if_neg hb] at z
    split at z
    ·rename_i Tb
     cases z
     subst Tb
     exact ⟨ha,by rw [List.length_map]; exact hl,vs,_,rv,ha⟩
    ·cases z
inductive mK (q:Program) (K:PySem.W.Frag):List Cell → List (Addr × Addr) → Prop
 | nil:mK q K [] []
 | cons {x qn:Str} {l c:Nat} {cs:List Cell} {cd T:Addr} {ts:List (Addr × Addr)} {d:DefRec} (hd:(recsOf q).find? (fun e => e.name == x) = some d) (ht:PySem.W.tabIn K x = some (cd,T)) (r:mK q K cs ts):mK q K (.tab x l c qn :: cs) ((cd,T) :: ts)
theorem mK.at_ {q:Program} {K:PySem.W.Frag} {loose:List Str} {Mk:ExcName → Option Value} {mg mb:Str → Option Value} {h:Heap} (T:Top q loose Mk mg mb h) (X:K.In h):∀ {cs:List Cell} {ts:List (Addr × Addr)},mK q K cs ts → PySem.W.TabsAt ts h
 | _,_,.nil => fun _ z => nomatch z
 | _,_,.cons hd ht r => List.forall_mem_cons.mpr ⟨PySem.W.tab_of T X hd ht,r.at_ T X⟩
theorem mK.len {q:Program} {K:PySem.W.Frag}:∀ {cs:List Cell} {ts:List (Addr × Addr)},mK q K cs ts → ts.length = cs.length
 | _,_,.nil => rfl
 | _,_,.cons _ _ r => by rw [List.length_cons,List.length_cons,r.len]
theorem mK.cell {q:Program} {K:PySem.W.Frag} {ρ:List Addr} {H:Hp}:∀ {cs:List Cell} {ts:List (Addr × Addr)},mK q K cs ts → (∀ p ∈ ts,H p.2 = some (.oY #[])) → ∀ (n:Nat) (c:Cell) (a:Addr),cs[n]? = some c → (ts.map (·.2))[n]? = some a → eG K ρ H c a
 | _,_,.nil,_,n,c,a,h,_ => by simp at h
 | _,_,.cons (cd:=cd) hd ht r,k,0,c,a,h1,h2 => by
  cases h1
  cases h2
  exact ⟨⟨cd,ht⟩,.inl (k _ (.head _))⟩
 | _,_,.cons hd ht r,k,n + 1,c,a,h1,h2 => r.cell (fun p hp => k p (.tail _ hp)) n c a h1 h2
theorem Cw {q:Program} {K:PySem.W.Frag} {H:Hp} {a:Addr} {c:Cell} {cs:List Cell} {ts:List (Addr × Addr)} (L:mK q K cs ts) (nd:(ts.map (·.2)).Nodup) (na:a ∉ ts.map (·.2)) (hH:∀ p ∈ ts,H p.2 = some (.oY #[])) (k:eG K (a :: ts.map (·.2)) H c a):SR K (a :: ts.map (·.2)) (c :: cs) H:=by
 refine ⟨by rw [List.length_cons,List.length_cons,List.length_map,L.len],fun n m b h1 h2 _ _ => ?_,fun n d b h1 h2 => ?_⟩
 ·have N:(a :: ts.map (·.2)).Nodup:=List.nodup_cons.mpr ⟨na,nd⟩
  have l1:=eS h1
  have l2:=eS h2
  rw [List.getElem?_eq_getElem l1] at h1
  rw [List.getElem?_eq_getElem l2] at h2
  have e:=Option.some.inj (h1.trans h2.symm)
  rcases Nat.lt_trichotomy n m with z | z | z
  ·exact absurd e (List.pairwise_iff_getElem.mp N n m l1 l2 z)
  ·exact z
  ·exact absurd e.symm (List.pairwise_iff_getElem.mp N m n l2 l1 z)
 ·cases n with
  | zero => cases h1; cases h2; exact k
  | succ n => exact L.cell hH n d b h1 h2
theorem xN {l:PySem.W.OpenLaw} {q:Program} {loose:List Str} {XP:(Str → Option Value) → Heap → Prop} {YP:World → Heap → Prop} {d:DefRec} {K:Params → PySem.W.Frag} {x:Str} {k:Nat} {cs:List Cell} {f:FN} (hn:l.most = some 63) (HW:d.params.defaults = []) (hr:eh k callerA)
  (hf:∀ (c:Cell) (ns:List Int),ns.length ≤ 63 → itemsOf (c :: cs) 0 = some (ns.map Val.int) → ∃ aw,f [.loc 0] (c :: cs) = .ok (.bl true) aw)
  (hY:∀ (w:World) (h:Heap),YP w h → (K w.params).In h)
  (F:∀ (w:World) (mg:Str → Option Value) (fa:Addr) (h:Heap),(K w.params).In h → h.Ns mainGlobals mg → mg d.name = some (.ref fa) →
   ∃ (fd:FuncData) (ts:List (Addr × Addr)),mK q (K w.params) cs ts ∧ (ts.map (·.2)).Nodup ∧ PySem.W.noTabs (K w.params) = true ∧ (∀ (s:Shared) (u:Value),BindsTo s fd ⟨[u],[]⟩ [(x,u)]) ∧
    ∀ base:Heap,(K w.params).In base → base.Ns mainGlobals mg → cX mg base ts → jQ l.prog w (K w.params) mg base (iJ l.prog w) k fa fd [x] (FC ⟨K w.params,mg,[]⟩ f)) :
  PySem.W.WalkO q loose XP YP l.row.toRowW d [] (fun f vs => PySem.call f vs):=by
 refine QN.sm hn HW fun w s₀ s₁ mg mb fa o pm cd doc a vs ns G Y ho hd oT HX Fg hints hlen hg => ?_
 have KX:=hY w _ Y
 obtain ⟨fd,ts,L,nd,nt,hb,hF⟩:=F w mg fa _ KX G.T.g HX
 refine xM KX G.T.g G.T.b G.T.builtins G.T.nolimit hg G.T.bmain (L.at_ G.T KX) nt Fg hints (Nat.le_trans hlen (by decide)) hr hF hb fun H hO hS hH na => ?_
 have fin:∀ c:Cell,eG (K w.params) (a :: ts.map (·.2)) H c a → itemsOf (c :: cs) 0 = some (ns.map Val.int) → FC ⟨K w.params,mg,[]⟩ f [.ref a] H (fun v _ => v = .bl true) fun _ _ _ => False:=by
  intro c k hi
  obtain ⟨aw,e⟩:=hf c ns hlen hi
  refine ⟨[.loc 0],a :: ts.map (·.2),c :: cs,aW.one (Rl.zq rfl),Cw L nd na hH k,?_⟩
  rw [e]
  intro ρ' H' v _ _ r
  exact r.qV
 rcases hS with (h | ⟨o,h⟩) | h
 ·exact absurd h (hO a _)
 ·exact fin (.DX (ns.map .int)) ⟨o,_,h,aW.ints ns⟩ rfl
 ·exact fin (.mod (ns.map .int)) ⟨_,h,aW.ints ns⟩ rfl
end MN
namespace L2
open PySem PySem.Spec PyProof.Rows
section
variable {X:Cx}
noncomputable def IS:V → List V → Hp → VK → Prop:=fun x vs H Q => ∃ i,x = .int i ∧ vs = [] ∧ Q (.int ((Builtin.Int.intBits i:Nat):Int)) H
theorem Cy:DK X "int.bit_length" IS:=by
 intro pins s σ H x vs v us Q I rx rv h
 obtain ⟨i,rfl,rfl,q⟩:=h
 obtain ⟨t,rfl⟩:=rx
 have Tc:=rv.zero
 subst Tc
 exact call_gives F.slot_int_bit_length (typeIs_int s i t) F.entry_int_bit_length (F.args_int_bit_length_1 _) (AutoIntG2.int_bit_length_int_0 i t) ⟨.int ((Builtin.Int.intBits i:Nat):Int),H,I.tok _,⟨_,rfl⟩,q⟩
end
end L2
namespace MN
open PySem PySem.Spec L2
open PyProof.Rows hiding St
noncomputable def zU:F2:=o_ fun i j st => if 0 ≤ j then .ok (.int (i / 2 ^ j.toNat)) st else .bad
noncomputable def Cz:F2:=o_ fun i j st => .ok (.int (Builtin.bitAnd i j)) st
noncomputable def IT:Val → ai → Res Val
 | .int i,st => .ok (.int ((Builtin.Int.intBits i:Nat):Int)) st
 | _,_ => .bad
noncomputable def sZ (m:ME):ME:=fun μ st => (m μ st).bind IT
section
variable {X:Cx} {E:XK} {o:Expr} {mo:ME} {apos cG:Pos}
theorem CA:ef X (binaryOp .RShift) (rM (wo X) E zU):=by
 refine ef.imp ET ?_
 rintro x y H Q ⟨ρ,st,u,w,sr,r1,r2,h⟩
 obtain ⟨i,j,rfl,rfl,h0⟩:=gA h
 by_cases hj:0 ≤ j
 ·rw [if_pos hj] at h0
  exact ⟨i,j,r1.cz,r2.cz,hj,dq sr h0⟩
 ·rw [if_neg hj] at h0; exact h0.elim
theorem CB:ef X (binaryOp .BitAnd) (rM (wo X) E Cz):=by
 refine ef.imp EU ?_
 rintro x y H Q ⟨ρ,st,u,w,sr,r1,r2,h⟩
 obtain ⟨i,j,rfl,rfl,q⟩:=gA h
 exact ⟨i,j,r1.cz,r2.cz,dq sr q⟩
theorem CC (ho:PE X o (tE X E mo)) (jS:attributeBase o "bit_length" X.env (eval o X.env) = eval o X.env:=by rfl) (jT:(apos.endLine == cG.line) = true:=by rfl) :
  PE X (.Call (.Attribute o "bit_length" apos) [] [] cG) (tE X E (sZ mo)):=by
 refine PE.imp (Fb PySem.F.plainAttrs_int PySem.F.slot_int_bit_length PySem.F.type_int_bit_length Cy ho jS jT) ?_
 rintro σ H Q ⟨μ,ρ,st,rs,sr,h⟩
 refine go μ ρ st rs sr h fun u aX ρ1 H1 x e1 cn r1 h1 => ?_
 cases u with
 | int i => rw [r1.cz]; exact ⟨rfl,i,rfl,rfl,dq cn h1⟩
 | _ => exact h1.elim
end
end MN
namespace MN
open PySem PySem.Spec L2
open PyProof.Rows hiding St
noncomputable def D5:List Stmt → Option Expr
 | [] => none
 | [.Return (some (.Call _ (e :: _) _ _)) _] => some e
 | _ :: r => D5 r
noncomputable def IU (e:Option Expr) (qual:Str) (ps:List Str) (x:Str):dQ:=match e with
 | some (.Lambda params body scope _) => ⟨qual,params,body,scope,ps,x⟩
 | _ => ⟨qual,{ posonlyargs:=[],args:=[],vararg:=none,kwonlyargs:=[],kw_defaults:=[],kwarg:=none,defaults:=[] },.Constant .none 0 ⟨0,0,0,0⟩,{ kind:=.function,names:=[],isGenerator:=false,isCoroutine:=false },ps,x⟩
theorem dQ.Td {L:dQ} (h1:L.scope.kind = .function) (h2:L.scope.isCoroutine = false) (h3:L.scope.isGenerator = false) (h4:(L.scope.names.all fun p => !(p.2 == .cell)) = true) (h5:(L.ps.all fun p => L.scope.names.lookup p == some .local) = true)
  (h6:L.scope.names.lookup L.x = some .free) (h7:(L.scope.names.all fun p => !(p.2 == .free) || p.1 == L.x) = true) (h8:(L.ps ++ [L.x]).Nodup)
  (h9:∀ (pm cd ct:Value) (cl:List (Str × Addr)) (us:List Value),us.length = L.ps.length → bindArgs (PySem.W.kla_fn "<lambda>" L.qual L.params L.body L.scope cl pm cd ct) ⟨us,[]⟩ = pure (L.ps.zip us)):L.Ok where
 kind:=h1
 co:=h2
 gen:=h3
 gj:=fun y hy h => by
  have z:=List.all_eq_true.mp h4 y hy
  simp [h] at z
 par:=fun p hp => by
  have z:=List.all_eq_true.mp h5 p hp
  simpa using z
 fr:=h6
 free:=fun y h => by
  have z:=List.all_eq_true.mp h7 _ (PySem.mem_of_lookup h)
  simpa using z
 nd:=h8
 bind:=h9
theorem FX {K:PySem.W.Frag} {x:Str} {f cd T:Addr} {oc o2:Value} {od d2:Option Addr} {sl s2:Array (Option Value)} {fd:FuncData} {vs:Array Value} (a:PySem.W.nsIn K mainGlobals x = some (some (.ref f))) (l:K.lookup f = some ⟨oc,od,.func fd,sl⟩) (hc:fd.code = .ref cd)
  (lc:K.lookup cd = some ⟨o2,d2,.fields vs,s2⟩) (hv:(vs[11]?:Option Value) = some (.ref T)):PySem.W.tabIn K x = some (cd,T):=by
 unfold PySem.W.tabIn
 simp only [a,l,hc,lc,hv]
end MN
namespace PM
open PySem PySem.Spec L2 MN
open PyProof.Rows hiding St
noncomputable def eU:Val:=.mt ([2,3,5,7,11,13,17,19,23,29,31].map Val.int)
noncomputable def j7:FN:=jf 1 1 (bF (uL (uR "int" (aa 0)) (FA (uR "bool" (aa 0)))))
noncomputable def bH:FN:=jf 1 1 (aE (gW (cJ (ah (FG false) (aa 0) (mC PM.eU))) (bF (mC (.bl true))) bQ) (aE (gW (jy (cJ (ah ltV (aa 0) (mC (.int 2)))) (cJ (ah G6 (aa 0) (mC (.int 997))))) (bF (mC (.bl false))) bQ) (bF (aq zG (ae (cZ 1 [0] (e_ (mC PM.eU)) (aName 0) cK (ah jW (ah bD (aa 1) (aa 0)) (mC (.int 0)))) ak)))))
noncomputable def aC:FN:=jf 2 2 (bF (L9 (cJ (ah gb (aa 0) (mC (.int 0)))) (aa 1) (ah bD (aa 1) (aa 0))))
noncomputable def aI:FN:=jf 2 6 (aE (aG 2 (mC (.int 0))) (aE (gW (cJ (ah ltV (aa 1) (aq fg (ae (aa 0) ak)))) (aG 2 (ah bL (aa 0) (aa 1))) bQ) (aE (aG 3 (ah bD (ah bR (ah bR (ah bR (ah bz (aa 2) (mC (.int 48271))) (ah bz (ah bz (mC (.int 7919)) (aa 1)) (aa 1))) (ah bz (mC (.int 104729)) (aa 1))) (mC (.int 11))) (mC (.int 2147483647)))) (aE (aG 4 (mC (.int 0))) (aE (dr (a_ (ae (mC (.int 6)) ak)) (aName 5) (aE (aG 3 (ah bD (ah bR (ah bz (ah bD (ah bz (aa 3) (aa 3)) (mC (.int 2147483629))) (mC (.int 69621))) (aa 5)) (mC (.int 2147483647)))) (aG 4 (ah bR (ah bz (aa 4) (mC (.int 2147483647))) (aa 3))))) (bF (aa 4)))))))
noncomputable def i9:FN:=jf 1 1 (bF (uL (aq PM.j7 (ae (aa 0) ak)) (L8 (ah gb (aa 0) (mC (.int 0))) (aq PM.bH (ae (aa 0) ak)))))
noncomputable def cI:FN:=jf 1 1 (gW (d0 (cJ (aq PM.i9 (ae (aa 0) ak)))) (uN "NoRing" (ae (mC (.str "a ring is 0 or a prime from 2 to 997")) ak)) bQ)
noncomputable def cF:FN:=jf 1 1 (bF (uL (uR "int" (aa 0)) (FA (uR "bool" (aa 0)))))
noncomputable def gg:FN:=jf 1 2 (aE (gW (cJ (ah gb (ah bD (aa 0) (mC (.int 2))) (mC (.int 0)))) (bF (ah bL (e9 (ae (mC (.int 2)) (ae (mC (.int 3)) (ae (mC (.int 5)) (ae (mC (.int 7)) (ae (mC (.int 11)) (ae (mC (.int 13)) ak))))))) (ah bD (ah bA (aa 0) (mC (.int 2))) (mC (.int 6))))) bQ) (aE (aG 1 (ah bR (mC (.int 2)) (ah bD (ah bA (aa 0) (mC (.int 2))) (mC (.int 996))))) (aE (kL (cJ (ah jW (cZ 1 [1] (i8 (ae (mC (.int 2)) (ae (mC (.int 32)) ak))) (aName 0) (jq (cJ (ah ltV (aa 0) (aa 1))) (cJ (ah gb (ah bD (aa 1) (aa 0)) (mC (.int 0))))) (aa 0)) (e9 ak))) (aG 1 (ah bR (aa 1) (mC (.int 1))))) (bF (aa 1)))))
noncomputable def bS:FN:=jf 1 1 (aE (gW (cJ (ah gb (ah bD (aa 0) (mC (.int 7))) (mC (.int 0)))) (bF (ah bz (ah gG (mC (.int 1)) (ah bz (ah bD (ah bA (aa 0) (mC (.int 7))) (mC (.int 2))) (mC (.int 2)))) (ah bD (ah bA (aa 0) (mC (.int 14))) (ah uO (mC (.int 10)) (mC (.int 40)))))) bQ) (bF (ah gG (ah bD (ah bA (aa 0) (mC (.int 7))) (mC (.int 19))) (mC (.int 9)))))
noncomputable def gm:FN:=jf 1 1 (aE (gW (cJ (ah gb (ah bD (aa 0) (mC (.int 3))) (mC (.int 0)))) (bF (mC (.int 0))) bQ) (bF (aq PM.gg (ae (ah bA (aa 0) (mC (.int 3))) ak))))
end PM
namespace PM
open PySem PySem.Spec L2 MN
open PyProof.Rows hiding St
end PM
namespace PM
open PySem PySem.Spec L2 MN
open PyProof.Rows hiding St
end PM
namespace MN
open PySem PySem.Spec L2
open PyProof.Rows hiding St
theorem b_ {g:ai → Prop} {a:AS} {body:MB} (P:Nat → Env → ai → Prop):∀ (us:List Val) (k:Nat) (μ:Env) (st:ai),
  (∀ (i:Nat) (u:Val) (μ:Env) (st:ai),us[i]? = some u → P (k + i) μ st → g st ∧ ∃ μ1,a u μ = some μ1 ∧ ∃ μ' aw,(body μ1 st = .nx μ' aw ∨ body μ1 st = .ct μ' aw) ∧ P (k + i + 1) μ' aw) →
  (∀ μ st,P (k + us.length) μ st → g st) → P k μ st → ∃ μ' aw,forL g a body us μ st = .nx μ' aw ∧ P (k + us.length) μ' aw
 | [],k,μ,st,_,he,h => by
  refine ⟨μ,st,?_,h⟩
  unfold forL
  rw [if_pos (he μ st h)]
 | u :: us,k,μ,st,hs,he,h => by
  obtain ⟨hg,μ1,ha,μ',aw,hb,hP⟩:=hs 0 u μ st rfl h
  have ih:=b_ (a:=a) (body:=body) P us (k + 1) μ' aw (fun i v μ2 bV hv hp => by
   have:=hs (i + 1) v μ2 bV hv (by rw [show k + (i + 1) = k + 1 + i by lia]; exact hp)
   rw [show k + (i + 1) + 1 = k + 1 + i + 1 by lia] at this
   exact this) (fun μ2 bV hp => he μ2 bV (by rw [List.length_cons,show k + (us.length + 1) = k + 1 + us.length by lia]; exact hp)) hP
  obtain ⟨μ2,bV,e2,p2⟩:=ih
  refine ⟨μ2,bV,?_,by rw [List.length_cons,show k + (us.length + 1) = k + 1 + us.length by lia]; exact p2⟩
  unfold forL
  rw [if_pos hg,ha]
  rcases hb with hb | hb <;> (dsimp only; rw [hb]; exact e2)
theorem du {g:ai → Prop} {a:AS} {c:MT} {e:ME} {st:ai} (hg:g st) (I:Env → Prop) (p:Val → Bool) (f:Val → Val):∀ (us:List Val) (τ:Env) (ys:List Val),I τ →
  (∀ u ∈ us,∀ τ,I τ → ∃ τ1,a u τ = some τ1 ∧ I τ1 ∧ c τ1 st = .ok (p u) st ∧ (p u = true → e τ1 st = .ok (f u) st)) → eI g a c e us τ st ys = .ok (ys ++ (us.filter p).map f) st
 | [],τ,ys,_,_ => by
  unfold eI
  rw [if_pos hg]; simp
 | u :: us,τ,ys,hI,hs => by
  obtain ⟨τ1,h1,h2,h3,h4⟩:=hs u List.mem_cons_self τ hI
  have Ra:=fun v hv => hs v (List.mem_cons_of_mem u hv)
  unfold eI
  rw [if_pos hg,h1]
  dsimp only
  rw [h3]
  cases z:p u with
  | true =>
   dsimp only
   rw [h4 z]
   dsimp only
   rw [du hg I p f us τ1 _ h2 Ra,List.filter_cons_of_pos z]
   simp
  | false =>
   dsimp only
   rw [du hg I p f us τ1 _ h2 Ra,List.filter_cons_of_neg (by rw [z]; simp)]
theorem cC (st:ai) (us:List Val):itemsOf (st ++ [.lst us]) st.length = some us:=by
 unfold itemsOf
 rw [List.getElem?_append_right (Nat.le_refl _),Nat.sub_self]; rfl
theorem aJ {st:ai} {n:Nat} {us:List Val} (h:itemsOf st n = some us) (more:ai):itemsOf (st ++ more) n = some us:=by
 have hn:n < st.length:=by
  rcases Nat.lt_or_ge n st.length with q | q
  ·exact q
  ·unfold itemsOf at h; rw [List.getElem?_eq_none q] at h; cases h
 unfold itemsOf at h ⊢
 rw [List.getElem?_append_left hn]; exact h
theorem og {t:MT} {body:MB} (P:Env → ai → Prop) (M:Env → ai → Nat) (Q:Env → ai → Prop)
  (hs:∀ μ st,P μ st → (∃ aX,t μ st = .ok false aX ∧ Q μ aX) ∨ ∃ aX μ' aw,t μ st = .ok true aX ∧ (body μ aX = .nx μ' aw ∨ body μ aX = .ct μ' aw) ∧ P μ' aw ∧ M μ' aw < M μ st) :
  ∀ (n:Nat) (μ:Env) (st:ai),M μ st < n → P μ st → ∃ μ' aw,fi t body n μ st = some (.nx μ' aw) ∧ Q μ' aw
 | 0,μ,st,h,_ => absurd h (Nat.not_lt_zero _)
 | n + 1,μ,st,h,hp => by
  unfold fi
  rcases hs μ st hp with ⟨aX,e,q⟩ | ⟨aX,μ',aw,e,hb,p',lt⟩
  ·rw [e]; exact ⟨μ,aX,rfl,q⟩
  ·rw [e]
   dsimp only
   obtain ⟨μ2,bV,e2,q2⟩:=og P M Q hs n μ' aw (by lia) p'
   rcases hb with hb | hb <;> (rw [hb]; exact ⟨μ2,bV,e2,q2⟩)
theorem uZ {t:MT} {body:MB} (P:Env → ai → Prop) (M:Env → ai → Nat) (Q:Env → ai → Prop)
  (hs:∀ μ st,P μ st → (∃ aX,t μ st = .ok false aX ∧ Q μ aX) ∨ ∃ aX μ' aw,t μ st = .ok true aX ∧ (body μ aX = .nx μ' aw ∨ body μ aX = .ct μ' aw) ∧ P μ' aw ∧ M μ' aw < M μ st)
  (μ:Env) (st:ai) (hp:P μ st):∃ μ' aw,kL t body μ st = .nx μ' aw ∧ Q μ' aw:=by
 obtain ⟨μ',aw,e,q⟩:=og P M Q hs (M μ st + 1) μ st (Nat.lt_succ_self _) hp
 exact ⟨μ',aw,xE e,q⟩
end MN
namespace MN
open PySem PySem.Spec L2
open PyProof.Rows hiding St
noncomputable def Res.i_ {α β:Type} (r:Res α) (k:α → ai → Res β):Res β:=match r with
 | .ok a st => k a st
 | .err c st => .err c st
 | .bad => .bad
noncomputable def Res.xO {α:Type} (r:Res α) (μ:Env) (k:α → ai → dk):dk:=match r with
 | .ok a st => k a st
 | .err c st => .er c μ st
 | .bad => .bad
noncomputable def dk.cV (r:dk) (k:MB):dk:=match r with
 | .nx μ st => k μ st
 | .rt v st => .rt v st
 | .bk μ st => .bk μ st
 | .ct μ st => .ct μ st
 | .er c μ st => .er c μ st
 | .bad => .bad
noncomputable def dk.fin (r:dk):Res Val:=match r with
 | .nx _ aw => .ok .e7 aw
 | .rt v aw => .ok v aw
 | .er c _ aw => .err c aw
 | _ => .bad
section
variable {α β:Type} {μ:Env} {st:ai}
theorem av {a:α} {k:α → ai → Res β}:(Res.ok a st).i_ k = k a st:=rfl
theorem aK {a:α} {k:α → ai → dk}:(Res.ok a st).xO μ k = k a st:=rfl
theorem aB {k:MB}:(dk.nx μ st).cV k = k μ st:=rfl
theorem jB {v:Val} {k:MB}:(dk.rt v st).cV k = .rt v st:=rfl
theorem FY:(dk.nx μ st).fin = .ok .e7 st:=rfl
theorem dC {v:Val}:(dk.rt v st).fin = .ok v st:=rfl
theorem gX {r:Res α} {k:α → ai → Res β}:r.bind k = r.i_ k:=by cases r <;> rfl
variable {a b c:ME} {f g:F2} {t u:MT} {s1 s2:MB} {ms:MA} {i:Nat} {v:Val}
theorem dw {r:Res α} {k k':α → ai → Res β} (h:∀ a st,k a st = k' a st):r.bind k = r.i_ k':=by cases r <;> first | exact h _ _ | rfl
theorem iQ {r:Res α} {k k':α → ai → dk} (h:∀ a st,k a st = k' a st):r.sb μ k = r.xO μ k':=by cases r <;> first | exact h _ _ | rfl
noncomputable def zV (f:F2) (x:Val):Val → ai → Res Val:=fun y st => f x y st
noncomputable def IV (f:F2) (b:ME) (μ:Env):Val → ai → Res Val:=fun x st => (b μ st).i_ (zV f x)
theorem cA:ah f a b μ st = (a μ st).i_ (IV f b μ):=dw fun _ _ => dw fun _ _ => rfl
theorem dE {x:Val}:IV f b μ x st = (b μ st).i_ (zV f x):=rfl
theorem cB {x y:Val}:zV f x y st = f x y st:=rfl
theorem gn:mC v μ st = .ok v st:=rfl
noncomputable def Rb:Val → ai → Res Bool
 | .bl b,st => .ok b st
 | _,_ => .bad
theorem c_ {b:Bool}:Rb (.bl b) st = .ok b st:=rfl
theorem cT:cJ a μ st = (a μ st).i_ Rb:=dw fun x _ => by cases x <;> rfl
noncomputable def IW (b:ME) (μ:Env):Val → ai → Res Val
 | .bl true,st => b μ st
 | .bl false,st => .ok (.bl false) st
 | _,_ => .bad
theorem u3:uL a b μ st = (a μ st).i_ (IW b μ):=dw fun x _ => by
 cases x <;> try rfl
 rename_i k; cases k <;> rfl
theorem rm:IW b μ (.bl true) st = b μ st:=rfl
noncomputable def Ml (b:ME) (μ:Env):Val → ai → Res Val
 | .bl true,st => .ok (.bl true) st
 | .bl false,st => b μ st
 | _,_ => .bad
theorem D6:L8 a b μ st = (a μ st).i_ (Ml b μ):=dw fun x _ => by
 cases x <;> try rfl
 rename_i k; cases k <;> rfl
theorem FZ:Ml b μ (.bl true) st = .ok (.bl true) st:=rfl
theorem F0:Ml b μ (.bl false) st = b μ st:=rfl
noncomputable def zW (u:MT) (μ:Env):Bool → ai → Res Bool
 | true,st => u μ st
 | false,st => .ok false st
theorem rn:jq t u μ st = (t μ st).i_ (zW u μ):=dw fun x _ => by cases x <;> rfl
theorem s9:zW u μ true st = u μ st:=rfl
theorem s_:zW u μ false st = .ok false st:=rfl
noncomputable def F1 (u:MT) (μ:Env):Bool → ai → Res Bool
 | true,st => .ok true st
 | false,st => u μ st
theorem rp:jy t u μ st = (t μ st).i_ (F1 u μ):=dw fun x _ => by cases x <;> rfl
theorem CD:F1 u μ true st = .ok true st:=rfl
theorem rq:F1 u μ false st = u μ st:=rfl
noncomputable def D7:Bool → ai → Res Bool:=fun k st => .ok (!k) st
theorem wt:d0 t μ st = (t μ st).i_ D7:=dw fun _ _ => rfl
theorem F3 {k:Bool}:D7 k st = .ok (!k) st:=rfl
noncomputable def F4 (a b:ME) (μ:Env):Bool → ai → Res Val
 | true,st => a μ st
 | false,st => b μ st
theorem D8:L9 t a b μ st = (t μ st).i_ (F4 a b μ):=dw fun x _ => by cases x <;> rfl
theorem CF:F4 a b μ true st = a μ st:=rfl
theorem CG:F4 a b μ false st = b μ st:=rfl
theorem da:ak μ st = .ok [] st:=rfl
noncomputable def u4 (x:Val):List Val → ai → Res (List Val):=fun xs st => .ok (x :: xs) st
noncomputable def D9 (ms:MA) (μ:Env):Val → ai → Res (List Val):=fun x st => (ms μ st).i_ (u4 x)
theorem bN:ae a ms μ st = (a μ st).i_ (D9 ms μ):=dw fun _ _ => dw fun _ _ => rfl
theorem cL {x:Val}:D9 ms μ x st = (ms μ st).i_ (u4 x):=rfl
theorem bO {x:Val} {xs:List Val}:u4 x xs st = .ok (x :: xs) st:=rfl
noncomputable def IX:List Val → ai → Res Val:=fun xs st => if xs.length ≤ sizeLine then .ok (.tup xs) st else .bad
theorem kQ:fE ms μ st = (ms μ st).i_ IX:=dw fun _ _ => rfl
theorem qd {xs:List Val}:IX xs st = if xs.length ≤ sizeLine then .ok (.tup xs) st else .bad:=rfl
noncomputable def IY:List Val → ai → Res Val:=fun xs st => if xs.length ≤ sizeLine then .ok (.loc st.length) (st ++ [.lst xs]) else .bad
theorem kR:e9 ms μ st = (ms μ st).i_ IY:=dw fun _ _ => rfl
theorem qe {xs:List Val}:IY xs st = if xs.length ≤ sizeLine then .ok (.loc st.length) (st ++ [.lst xs]) else .bad:=rfl
theorem d8 {h:FN}:aq h ms μ st = (ms μ st).i_ h:=dw fun _ _ => rfl
noncomputable def Te:Val → ai → Res Val
 | .int i,st => .ok (.int (-i)) st
 | _,_ => .bad
noncomputable def F5 (T:String) (v:Val) (st:ai):Res Val:=match IF T st v with
 | some b => .ok (.bl b) st
 | none => .bad
theorem zZ {T:String}:uR T a μ st = (a μ st).i_ (F5 T):=dw fun _ _ => rfl
theorem aA:aE s1 s2 μ st = (s1 μ st).cV s2:=by
 unfold aE; cases s1 μ st <;> rfl
theorem fY:bQ μ st = .nx μ st:=rfl
noncomputable def IZ (μ:Env):Val → ai → dk:=fun _ st => .nx μ st
theorem gB:dz a μ st = (a μ st).xO μ (IZ μ):=iQ fun _ _ => rfl
noncomputable def I9:Val → ai → dk:=fun v st => .rt v st
theorem bK:bF a μ st = (a μ st).xO μ I9:=iQ fun _ _ => rfl
theorem ff:I9 v st = .rt v st:=rfl
noncomputable def Mn (s1 s2:MB) (μ:Env):Bool → ai → dk
 | true,st => s1 μ st
 | false,st => s2 μ st
theorem dD:gW t s1 s2 μ st = (t μ st).xO μ (Mn s1 s2 μ):=iQ fun x _ => by cases x <;> rfl
theorem gL:Mn s1 s2 μ true st = s1 μ st:=rfl
theorem gp:Mn s1 s2 μ false st = s2 μ st:=rfl
noncomputable def I_ (i:Nat) (μ:Env):Val → ai → dk:=fun v st => .nx (μ.set i (some v)) st
theorem ik:aG i a μ st = (a μ st).xO μ (I_ i μ):=iQ fun _ _ => rfl
theorem qf:I_ i μ v st = .nx (μ.set i (some v)) st:=rfl
noncomputable def kFor (as:AS) (s1:MB) (μ:Env):Itm → ai → dk:=fun p st => forL p.2 as s1 p.1 μ st
theorem dI {it:MI} {as:AS}:dr it as s1 μ st = (it μ st).xO μ (kFor as s1 μ):=iQ fun _ _ => rfl
theorem fI {as:AS} {us:List Val} {q:ai → Prop}:kFor as s1 μ (us,q) st = forL q as s1 us μ st:=rfl
noncomputable def F6:List Val → ai → Res Val:=fun ys st => .ok (.loc st.length) (st ++ [.lst ys])
theorem l_ {ys:List Val}:F6 ys st = .ok (.loc st.length) (st ++ [.lst ys]):=rfl
noncomputable def z5 (k:Nat) (caps:List Nat) (as:AS) (t:MT) (a:ME) (μ:Env):Itm → ai → Res Val:=fun p st => if p.1.length ≤ sizeLine then (eI p.2 as t a p.1 (j4 k caps μ) st []).i_ F6 else .bad
theorem gC {k:Nat} {caps:List Nat} {it:MI} {as:AS}:cZ k caps it as t a μ st = (it μ st).i_ (z5 k caps as t a μ):=dw fun p aX => by
 unfold z5
 split
 ·exact dw fun _ _ => rfl
 ·rfl
theorem iR {k:Nat} {caps:List Nat} {as:AS} {us:List Val} {q:ai → Prop}:z5 k caps as t a μ (us,q) st = if us.length ≤ sizeLine then (eI q as t a us (j4 k caps μ) st []).i_ F6 else .bad:=rfl
theorem cD {np n:Nat} {us:List Val} (h:us.length = np):jf np n s1 us st = (s1 (us.map some ++ List.replicate (n - np) none) st).fin:=by
 unfold jf; rw [if_pos h]; cases s1 (us.map some ++ List.replicate (n - np) none) st <;> rfl
theorem kS (h:μ[i]? = some (some v)) (hx:Iz v = false):aa i μ st = .ok v st:=by
 unfold aa; rw [h]; simp [hx]
theorem gY {x:Option Val} {μ:Env}:aa (i + 1) (x :: μ) st = aa i μ st:=rfl
theorem dF {μ:Env} {j:Int}:aa 0 (some (.int j) :: μ) st = .ok (.int j) st:=rfl
theorem wu {μ:Env} {j:Nat}:aa 0 (some (.loc j) :: μ) st = .ok (.loc j) st:=rfl
noncomputable def oh (v:Val) (st:ai):Res Itm:=match nZ st v with
 | some p => .ok p st
 | none => .bad
theorem fu:e_ a μ st = (a μ st).i_ oh:=by unfold e_; rw [gX]; rfl
theorem xP {us:List Val}:oh (.tup us) st = .ok (us,fun _ => True) st:=rfl
theorem eJ {n:Nat} {us:List Val} (h:itemsOf st n = some us):oh (.loc n) st = .ok (us,fun aw => itemsOf aw n = some us) st:=by
 simp only [oh,nZ,h]; rfl
noncomputable def CH (vs:List Val) (aw:ai):Res Itm:=match vs with
 | [.int j] => if -(2 ^ 62) ≤ j ∧ j < 2 ^ 62 then .ok (aR 0 j.toNat,fun _ => True) aw else .bad
 | _ => .bad
noncomputable def Ja (vs:List Val) (aw:ai):Res Itm:=match vs with
 | [.int i,.int j] => if -(2 ^ 62) ≤ i ∧ i < 2 ^ 62 ∧ -(2 ^ 62) ≤ j ∧ j < 2 ^ 62 then .ok (aR i (j - i).toNat,fun _ => True) aw else .bad
 | _ => .bad
theorem fw:a_ ms μ st = (ms μ st).i_ CH:=by unfold a_; rw [gX]; rfl
theorem CI:i8 ms μ st = (ms μ st).i_ Ja:=by unfold i8; rw [gX]; rfl
theorem gD {j:Int} (h1:-(2 ^ 62) ≤ j) (h2:j < 2 ^ 62):CH [.int j] st = .ok (aR 0 j.toNat,fun _ => True) st:=by unfold CH; dsimp only; rw [if_pos ⟨h1,h2⟩]
noncomputable def CJ (b1 b2:Bool) (vs:List Val) (aw:ai):Res Itm:=match vs with
 | [u,w] => match gk aw u,gk aw w with
  | some (c1,us,g1),some (c2,ws,g2) => if c1 = b1 ∧ c2 = b2 then .ok (mI us ws,fun bV => g1 bV ∧ g2 bV) aw else .bad
  | _,_ => .bad
 | _ => .bad
theorem F7 {b1 b2:Bool}:sN b1 b2 ms μ st = (ms μ st).i_ (CJ b1 b2):=by unfold sN; rw [gX]; rfl
theorem wx {n:Nat} {us:List Val} (h1:itemsOf st n = some us):pf [.loc n] st = .ok (.tup us) st:=by unfold pf; dsimp only; rw [h1]
theorem oj {i j:Int}:bR (.int i) (.int j) st = .ok (.int (i + j)) st:=rfl
theorem z6 {i j:Int}:gG (.int i) (.int j) st = .ok (.int (i - j)) st:=rfl
theorem gM {i j:Int} (h:MulOk i j):bz (.int i) (.int j) st = .ok (.int (i * j)) st:=by unfold bz; dsimp only; rw [if_pos h]
theorem om {i j:Int} (h1:-(2 ^ 64) < i) (h2:i < 2 ^ 64):bz (.int i) (.int j) st = .ok (.int (i * j)) st:=gM (.inr (.inl ⟨h1,h2⟩))
theorem mul_r {i j:Int} (h1:-(2 ^ 64) < j) (h2:j < 2 ^ 64):bz (.int i) (.int j) st = .ok (.int (i * j)) st:=gM (.inr (.inr ⟨h1,h2⟩))
theorem div_ii {i j:Int} (h:Dz j):bA (.int i) (.int j) st = .ok (.int (i.fdiv j)) st:=if_pos h
theorem cN {i j:Int} (h:¬ j = 0):bD (.int i) (.int j) st = .ok (.int (i.fmod j)) st:=if_neg h
theorem z8 {i j:Int} (h:yH i j):uO (.int i) (.int j) st = .ok (.int (i ^ j.toNat)) st:=if_pos h
theorem oo {i j:Int}:ltV (.int i) (.int j) st = .ok (.bl (decide (i < j))) st:=rfl
theorem z9 {i j:Int}:G6 (.int i) (.int j) st = .ok (.bl (decide (j < i))) st:=rfl
theorem fW {i j:Int}:gb (.int i) (.int j) st = .ok (.bl (i == j)) st:=rfl
theorem tj {i j:Int}:jW (.int i) (.int j) st = .ok (.bl (!(i == j))) st:=rfl
theorem uE {us:List Val} {i:Int} {v:Val} (h:L2.nF us i = some v):bL (.tup us) (.int i) st = .ok v st:=by unfold bL; dsimp only; rw [h]
theorem kU {n:Nat} {us:List Val} {i:Int} {v:Val} (h1:itemsOf st n = some us) (h:L2.nF us i = some v):bL (.loc n) (.int i) st = .ok v st:=by unfold bL; dsimp only; rw [h1]; dsimp only; rw [h]
theorem j8 {n:Nat} {us:List Val} (h1:itemsOf st n = some us):fg [.loc n] st = .ok (.int us.length) st:=by unfold fg; dsimp only; rw [h1]
theorem CK {us:List Val}:fg [.tup us] st = .ok (.int us.length) st:=rfl
theorem CL {n m:Nat} {us:List Val} (h1:itemsOf st n = some us) (h2:itemsOf st m = some []):m_ 16 st (.loc n) (.loc m) = some us.isEmpty:=by
 unfold m_
 simp only [vw,h1,h2]
 show jg _ us [] = _
 cases us <;> rfl
theorem ne_nil {n m:Nat} {us:List Val} (h1:itemsOf st n = some us) (h2:itemsOf st m = some []):jW (.loc n) (.loc m) st = .ok (.bl (!us.isEmpty)) st:=by unfold jW; rw [CL h1 h2]
end
end MN
namespace MN
open PySem PySem.Spec L2
open PyProof.Rows hiding St kindOf
end MN
namespace MN
open PySem PySem.Spec L2
open PyProof.Rows hiding St kindOf
section
variable {μ:Env} {st:ai} {a b c o:ME} {ms:MA} {f:F2} {g:FM} {v w:Val} {i n m:Nat} {us ws:List Val}
noncomputable def F8 (g:FM) (x:Val):List Val → ai → Res Val:=fun xs st => g x xs st
noncomputable def CM (g:FM) (ms:MA) (μ:Env):Val → ai → Res Val:=fun x st => if sP st x = true then (ms μ st).i_ (F8 g x) else .bad
theorem kW:ij g o ms μ st = (o μ st).i_ (CM g ms μ):=dw fun x aX => by
 unfold CM
 split
 ·exact dw fun _ _ => rfl
 ·rfl
theorem qh (h:st[n]? = some (.lst us)):CM g ms μ (.loc n) st = (ms μ st).i_ (F8 g (.loc n)):=by
 unfold CM
 rw [if_pos (by unfold sP; dsimp only; rw [h])]
theorem qi {xs:List Val}:F8 g v xs st = g v xs st:=rfl
theorem gh (h:st[n]? = some (.lst us)) (hl:us.length < sizeLine):bM (.loc n) [v] st = .ok .e7 (st.set n (.lst (us ++ [v]))):=by
 simp only [bM,h]
 rw [if_pos hl]
noncomputable def F9 (μ:Env) (x y:Val):Val → ai → dk:=fun z st => Ks μ (sT y z x st)
noncomputable def F_ (b:ME) (μ:Env) (x:Val):Val → ai → dk:=fun y st => (b μ st).xO μ (F9 μ x y)
noncomputable def Rc (a b:ME) (μ:Env):Val → ai → dk:=fun x st => (a μ st).xO μ (F_ b μ x)
theorem CN:sU a b c μ st = (c μ st).xO μ (Rc a b μ):=iQ fun _ _ => iQ fun _ _ => iQ fun _ _ => rfl
theorem Mo:Rc a b μ v st = (a μ st).xO μ (F_ b μ v):=rfl
theorem Jb:F_ b μ v w st = (b μ st).xO μ (F9 μ v w):=rfl
theorem Jc {x:Val}:F9 μ v w x st = Ks μ (sT w x v st):=rfl
theorem CO {k:Int} {j:Nat} (h:st[n]? = some (.lst us)) (hj:L2.xg us.length k = some j):sT (.loc n) (.int k) v st = some (st.set n (.lst (us.set j v))):=by
 simp only [sT,h,hj]; rfl
theorem z_:Ks μ (some st) = .nx μ st:=rfl
theorem CP:kO ms μ st = (ms μ st).i_ zR:=by unfold kO; rw [gX]
theorem Ga {j k:Int} (h1:-(2 ^ 62) ≤ j) (h2:j < 2 ^ 62) (h3:-(2 ^ 62) ≤ k) (h4:k < 2 ^ 62):zR [.int j,.int k,.int (-1)] st = .ok (iy j (j - k).toNat,fun _ => True) st:=by
 unfold zR; dsimp only; rw [if_pos ⟨rfl,h1,h2,h3,h4⟩]
theorem Jd {x:Bool}:xJ [.bl x] st = .ok (.int (if x then 1 else 0)) st:=rfl
theorem wy (e:itemsOf st n = some us):ph [.loc n] st = .ok (.loc st.length) (st ++ [.lst us]):=by
 simp only [ph,e]
theorem dJ (h:st[n]? = some (.lst us)):itemsOf st n = some us:=by unfold itemsOf; rw [h]
theorem iS (st:ai) (us:List Val):(st ++ [Cell.lst us])[st.length]? = some (.lst us):=by
 rw [List.getElem?_append_right (Nat.le_refl _),Nat.sub_self]; rfl
theorem is_list (h:st[n]? = some (.lst us)):F5 "list" (.loc n) st = .ok (.bl true) st:=by
 unfold F5 IF kindOf; dsimp only; rw [h]; rfl
theorem j9 (st:ai) (k k':Cell):(st ++ [k]).set st.length k' = st ++ [k']:=by
 rw [List.set_append_right _ _ (Nat.le_refl _),Nat.sub_self]; rfl
theorem wz (st:ai) (k k':Cell) (g:ai):(st ++ k :: g).set st.length k' = st ++ k' :: g:=by
 rw [List.set_append_right _ _ (Nat.le_refl _),Nat.sub_self]; rfl
theorem rA (st:ai) (k:Cell) (g:ai):(st ++ k :: g)[st.length]? = some k:=by
 rw [List.getElem?_append_right (Nat.le_refl _),Nat.sub_self]; rfl
end
mutual
noncomputable def tm:Nat → Val → Bool
 | _,.e7 => true
 | _,.bl _ => true
 | _,.int _ => true
 | _,.str _ => true
 | 0,.tup _ => false
 | n + 1,.tup us => fP n us
 | _,_ => false
noncomputable def fP:Nat → List Val → Bool
 | _,[] => true
 | n,u :: us => tm n u && fP n us
end
mutual
theorem Aa (st:ai):∀ (n:Nat) (v:Val),tm n v = true → m_ (n + 1) st v v = some true
 | _,.e7,_ => rfl
 | _,.bl b,_ => by show some (b == b) = _; rw [beq_self_eq_true]
 | _,.int i,_ => by show some (i == i) = _; rw [beq_self_eq_true]
 | _,.str x,_ => by show some (x == x) = _; rw [beq_self_eq_true]
 | 0,.tup _,h => by cases h
 | n + 1,.tup us,h => by
  show jg (m_ (n + 1) st) us us = some true
  exact kX st n us h
 | n,.loc _,h => by cases n <;> cases h
 | n,.exc _,h => by cases n <;> cases h
 | n,.fn _ _,h => by cases n <;> cases h
 | n,.mt _,h => by cases n <;> cases h
theorem kX (st:ai):∀ (n:Nat) (us:List Val),fP n us = true → jg (m_ (n + 1) st) us us = some true
 | _,[],_ => rfl
 | n,u :: us,h => by
  have h':tm n u = true ∧ fP n us = true:=by simpa [fP] using h
  show (match m_ (n + 1) st u u,jg (m_ (n + 1) st) us us with | some a,some b => some (a && b) | _,_ => none) = _
  rw [Aa st n u h'.1,kX st n us h'.2]; rfl
end
theorem ja {n:Nat}:∀ {us:List Val},(∀ u ∈ us,tm n u = true) → fP n us = true
 | [],_ => rfl
 | u :: us,h => by
  unfold fP
  rw [h u List.mem_cons_self,ja fun w hw => h w (List.mem_cons_of_mem u hw)]; rfl
theorem tq (n:Nat) (ns:List Int):fP n (ns.map Val.int) = true:=ja fun u hu => by
 obtain ⟨i,_,rfl⟩:=List.mem_map.mp hu
 cases n <;> rfl
section
variable {st:ai} {n m:Nat} {us:List Val}
theorem xQ (h1:itemsOf st n = some us) (h2:itemsOf st m = some us) (hp:fP 14 us = true):m_ 16 st (.loc n) (.loc m) = some true:=by
 unfold m_
 simp only [vw,h1,h2]
 exact kX st 14 us hp
theorem tu (h1:itemsOf st n = some us) (h2:itemsOf st m = some us) (hp:fP 14 us = true):gb (.loc n) (.loc m) st = .ok (.bl true) st:=by unfold gb; rw [xQ h1 h2 hp]
end
end MN
namespace MN
open PySem PySem.Spec L2
open PyProof.Rows hiding St kindOf
end MN
namespace PG
open PySem PySem.Spec L2 MN
open PyProof.Rows hiding St kindOf
theorem j_ (i:Int) (st:ai):PM.j7 [.int i] st = .ok (.bl true) st:=rfl
noncomputable def FP:List Int:=[2,3,5,7,11,13,17,19,23,29,31]
noncomputable def uo (n:Int):Bool:=FP.contains n || (decide (2 ≤ n) && decide (n ≤ 997) && FP.all fun p => !(n.fmod p == 0))
theorem any_ints (n:Int) (ns:List Int):(ns.map Val.int).any (fun y => FE y (.int n)) = ns.contains n:=by
 induction ns with
 | nil => rfl
 | cons m ns ih =>
  simp only [List.map_cons,List.any_cons,List.contains_cons]
  rw [ih]
  congr 1
  show (m == n) = (n == m)
  rw [Bool.eq_iff_iff,beq_iff_eq,beq_iff_eq]; exact ⟨Eq.symm,Eq.symm⟩
theorem CQ (n:Int) (ns:List Int) (st:ai):FG false (.int n) (.mt (ns.map Val.int)) st = .ok (.bl (ns.contains n)) st:=by
 have h1:(ns.map Val.int).all flat = true:=by rw [List.all_map]; exact List.all_eq_true.mpr fun _ _ => rfl
 unfold FG D0
 dsimp only
 rw [if_pos ⟨rfl,h1⟩,any_ints]
 rfl
theorem CS (ns:List Int) (f:Int → Bool):jZ ((ns.map Val.int).map fun v => match v with | .int i => .bl (f i) | _ => .e7) = some (ns.map f):=by
 induction ns with
 | nil => rfl
 | cons m ns ih =>
  simp only [List.map_cons,jZ] at ih ⊢
  rw [ih]; rfl
theorem jk (n:Int) (st:ai):∃ g,PM.bH [.int n] st = .ok (.bl (uo n)) (st ++ g):=by
 have DS:FG false (.int n) PM.eU st = .ok (.bl (FP.contains n)) st:=CQ n FP st
 cases h1:FP.contains n with
 | true =>
  refine ⟨[],?_⟩
  rw [h1] at DS
  simp only [PM.bH,cD,av,aK,jB,dC,cA,dE,cB,ff,gL,gn,c_,cT,aA,bK,dD,dF,List.map_cons,List.map_nil,List.replicate_zero,Nat.reduceSub,List.length_cons,List.length_nil,Nat.reduceAdd,DS,List.append_nil,uo,h1,Bool.true_or]
 | false =>
  rw [h1] at DS
  by_cases h2:n < 2
  ·refine ⟨[],?_⟩
   have e2:decide (n < 2) = true:=decide_eq_true h2
   have e3:decide (2 ≤ n) = false:=decide_eq_false (by lia)
   simp only [PM.bH,cD,av,aK,aB,jB,dC,cA,dE,cB,CD,ff,gL,gp,gn,c_,cT,rp,aA,fY,bK,dD,oo,dF,List.map_cons,List.map_nil,List.replicate_zero,Nat.reduceSub,List.length_cons,List.length_nil,Nat.reduceAdd,DS,e2,List.append_nil,uo,h1,e3,Bool.false_or,Bool.false_and]
  ·have e2:decide (n < 2) = false:=decide_eq_false h2
   have e3:decide (2 ≤ n) = true:=decide_eq_true (by lia)
   by_cases h3:997 < n
   ·refine ⟨[],?_⟩
    have e4:decide (997 < n) = true:=decide_eq_true h3
    have e5:decide (n ≤ 997) = false:=decide_eq_false (by lia)
    simp only [PM.bH,cD,av,aK,aB,jB,dC,cA,dE,cB,rq,ff,gL,gp,gn,c_,cT,rp,aA,fY,bK,dD,oo,z9,dF,List.map_cons,List.map_nil,List.replicate_zero,Nat.reduceSub,List.length_cons,List.length_nil,Nat.reduceAdd,DS,e2,e4,List.append_nil,uo,h1,e3,e5,Bool.false_or,Bool.false_and,Bool.true_and]
   ·have e4:decide (997 < n) = false:=decide_eq_false h3
    have e5:decide (n ≤ 997) = true:=decide_eq_true (by lia)
    let f:Val → Val:=fun v => match v with | .int i => .bl (!(n.fmod i == 0)) | _ => .e7
    have hc:eI (fun _ => True) (aName 0) cK (ah jW (ah bD (aa 1) (aa 0)) (mC (Val.int 0))) (FP.map Val.int) (j4 1 [0] [some (Val.int n)]) st [] = .ok ([] ++ ((FP.map Val.int).filter fun _ => true).map f) st:=by
     refine du trivial (fun τ => ∃ x,τ = [x,some (.int n)]) (fun _ => true) f (FP.map Val.int) _ [] ⟨none,rfl⟩ ?_
     rintro u hu τ ⟨x,rfl⟩
     obtain ⟨i,hi,rfl⟩:=List.mem_map.mp hu
     have Tf:¬ i = 0:=by
      intro z; subst z; revert hi; decide
     refine ⟨_,rfl,⟨_,rfl⟩,rfl,fun _ => ?_⟩
     simp only [av,cA,dE,cB,gn,tj,dF,gY,List.set_cons_zero,cN Tf,f]
    have hb:jZ (((FP.map Val.int).filter fun _ => true).map f) = some (FP.map fun i => !(n.fmod i == 0)):=by
     rw [List.filter_eq_self.mpr (fun _ _ => rfl)]
     exact CS FP fun i => !(n.fmod i == 0)
    refine ⟨[.lst (((FP.map Val.int).filter fun _ => true).map f)],?_⟩
    have ha:zG [.loc st.length] (st ++ [.lst (((FP.map Val.int).filter fun _ => true).map f)]) = .ok (.bl (uo n)) (st ++ [.lst (((FP.map Val.int).filter fun _ => true).map f)]):=by
     unfold zG
     dsimp only
     rw [cC]
     dsimp only
     rw [hb]
     simp only [uo,h1,e3,e5,Bool.false_or,Bool.true_and,List.all_map]
     rfl
    have hw:oh PM.eU st = .ok (FP.map Val.int,fun _ => True) st:=rfl
    have hz:(FP.map Val.int).length = 11:=rfl
    rw [List.nil_append] at hc
    simp only [PM.bH,cD,av,aK,aB,dC,cA,dE,cB,rq,cL,bO,ff,gp,l_,iR,gn,c_,cT,rp,da,bN,d8,aA,fY,bK,dD,gC,fu,oo,z9,dF,List.map_cons,List.map_nil,List.cons_append,List.nil_append,List.replicate_zero,Nat.reduceSub,List.length_cons,List.length_nil,Nat.reduceAdd,sizeLine_eq,Nat.reduceLeDiff,↓reduceIte,DS,e2,e4,hw,hc,ha,hz]
end PG
namespace Tg
end Tg
namespace PG
open PySem PySem.Spec L2 MN
open PyProof.Rows hiding St kindOf
noncomputable def bI (n:Int):Bool:=n == 0 || uo n
theorem tw (n:Int) (st:ai):∃ g,PM.i9 [.int n] st = .ok (.bl (bI n)) (st ++ g):=by
 cases h:n == 0 with
 | true => exact ⟨[],by simp only [PM.i9,cD,av,aK,dC,cA,dE,cB,rm,FZ,cL,bO,ff,gn,u3,D6,da,bN,d8,bK,fW,dF,List.map_cons,List.map_nil,List.replicate_zero,Nat.reduceSub,List.length_cons,List.length_nil,Nat.reduceAdd,j_,h,bI,Bool.true_or,List.append_nil]⟩
 | false =>
  obtain ⟨g,e⟩:=jk n st
  exact ⟨g,by simp only [PM.i9,cD,av,aK,dC,cA,dE,cB,rm,F0,cL,bO,ff,gn,u3,D6,da,bN,d8,bK,fW,dF,List.map_cons,List.map_nil,List.cons_append,List.nil_append,List.replicate_zero,Nat.reduceSub,List.length_cons,List.length_nil,Nat.reduceAdd,j_,h,bI,Bool.false_or,e]⟩
theorem jr {n:Int} (h:bI n = true) (st:ai):∃ g,PM.cI [.int n] st = .ok .e7 (st ++ g):=by
 obtain ⟨g,e⟩:=tw n st
 rw [h] at e
 exact ⟨g,by simp only [PM.cI,cD,av,aK,FY,F3,cL,bO,gp,c_,cT,wt,da,bN,d8,fY,dD,dF,List.map_cons,List.map_nil,List.cons_append,List.nil_append,List.replicate_zero,Nat.reduceSub,List.length_cons,List.length_nil,Nat.reduceAdd,Bool.not_true,e]⟩
end PG
namespace PG
open PySem PySem.Spec L2 MN
open PyProof.Rows hiding St kindOf
theorem xR {p:Int} (h:uo p = true):2 ≤ p ∧ p ≤ 997:=by
 unfold uo at h
 rw [Bool.or_eq_true] at h
 rcases h with h | h
 ·have:p ∈ FP:=by simpa using h
  simp only [FP,List.mem_cons,List.not_mem_nil,or_false] at this
  omega
 ·simp only [Bool.and_eq_true,decide_eq_true_eq] at h
  omega
theorem Ab {p:Int} (hp:0 < p) (i:Int):i.fmod p = i % p:=Int.fmod_eq_emod_of_nonneg i (by lia)
theorem Ac {p:Int} (h:uo p = true):bI p = true:=by unfold bI; rw [h,Bool.or_true]
end PG
namespace PG
open PySem PySem.Spec L2 MN
open PyProof.Rows hiding St kindOf
theorem u5 {i:Nat} {f o:Int} (h0:0 ≤ f) (h1:f < 2 ^ (31 * i)) (o0:0 ≤ o) (o1:o < 2147483647):0 ≤ f * 2147483647 + o ∧ f * 2147483647 + o < 2 ^ (31 * (i + 1)):=by
 have e:(2:Int) ^ (31 * (i + 1)) = 2 ^ (31 * i) * 2147483648:=by rw [Nat.mul_succ,Int.pow_add]; rfl
 rw [e]
 lia
theorem CT {ns:List Int} {k:Int} (h0:0 ≤ k) (h1:k < (ns.length:Int)):∃ c:Int,L2.nF (ns.map Val.int) k = some (.int c):=by
 have hk:k.toNat < ns.length:=by lia
 refine ⟨ns[k.toNat],?_⟩
 have e:=L2.qI (xs:=ns.map Val.int) (j:=k.toNat) (v:=.int ns[k.toNat]) (by rw [List.getElem?_map,List.getElem?_eq_getElem hk]; rfl)
 rw [show ((k.toNat:Nat):Int) = k by lia] at e
 exact e
theorem fJ {m:Int} (hm:0 < m) (i:Int):0 ≤ i.fmod m ∧ i.fmod m < m:=by
 rw [Ab hm]; exact ⟨Int.emod_nonneg _ (by lia),Int.emod_lt_of_pos _ hm⟩
theorem pk (i:Int) (st:ai):PM.cF [.int i] st = .ok (.bl true) st:=rfl
theorem nk {n:Nat} {ns:List Int} {k:Int} {st:ai} (h:itemsOf st n = some (ns.map Val.int)) (k0:0 ≤ k) (k1:k ≤ 1000000) :
  ∃ o,PM.aI [.loc n,.int k] st = .ok (.int o) st ∧ 0 ≤ o ∧ o < 2 ^ 186:=by
 have len:((List.map Val.int ns).length:Int) = (ns.length:Int):=by rw [List.length_map]
 have loop:∀ (c x:Int),0 ≤ x → x < 2147483647 → ∃ μ' aw o,forL (fun _ => True) (aName 5) (aE (aG 3 (ah bD (ah bR (ah bz (ah bD (ah bz (aa 3) (aa 3)) (mC (.int 2147483629))) (mC (.int 69621))) (aa 5)) (mC (.int 2147483647)))) (aG 4 (ah bR (ah bz (aa 4) (mC (.int 2147483647))) (aa 3)))) (aR 0 6) [some (.loc n),some (.int k),some (.int c),some (.int x),some (.int 0),none] st = .nx μ' aw ∧ aw = st ∧ (∃ y t,μ' = [some (.loc n),some (.int k),some (.int c),y,some (.int o),t]) ∧ 0 ≤ o ∧ o < 2 ^ 186:=by
  intro c x x0 x1
  obtain ⟨μ',aw,e,rfl,o,f,t,rfl,o0,o1,f0,f1⟩:=b_ (g:=fun _ => True) (a:=aName 5) (body:=aE (aG 3 (ah bD (ah bR (ah bz (ah bD (ah bz (aa 3) (aa 3)) (mC (.int 2147483629))) (mC (.int 69621))) (aa 5)) (mC (.int 2147483647)))) (aG 4 (ah bR (ah bz (aa 4) (mC (.int 2147483647))) (aa 3))))
   (fun i μ s => s = st ∧ ∃ (o f:Int) (t:Option Val),μ = [some (.loc n),some (.int k),some (.int c),some (.int o),some (.int f),t] ∧ 0 ≤ o ∧ o < 2147483647 ∧ 0 ≤ f ∧ f < 2 ^ (31 * i))
   (aR 0 6) 0 [some (.loc n),some (.int k),some (.int c),some (.int x),some (.int 0),none] st
   (by
    rintro i u μ s hu ⟨rfl,o,f,t,rfl,o0,o1,f0,f1⟩
    refine ⟨trivial,?_⟩
    have hi:i < 6:=by have:=eS hu; simpa [aR] using this
    have eu:u = .int (0 + (i:Int)):=by
     simp only [aR,List.getElem?_map] at hu
     rw [List.getElem?_range hi] at hu
     exact (Option.some.inj hu).symm
    subst eu
    have q1:=fJ (m:=2147483629) (by decide) (o * o)
    have q2:=fJ (m:=2147483647) (by decide) ((o * o).fmod 2147483629 * 69621 + (0 + (i:Int)))
    refine ⟨_,rfl,[some (.loc n),some (.int k),some (.int c),some (.int (((o * o).fmod 2147483629 * 69621 + (0 + (i:Int))).fmod 2147483647)),some (.int (f * 2147483647 + ((o * o).fmod 2147483629 * 69621 + (0 + (i:Int))).fmod 2147483647)),some (.int (0 + (i:Int)))],s,.inl ?_,rfl,_,_,_,rfl,q2.1,q2.2,?_⟩
    ·simp only [av,aK,aB,cA,dE,cB,qf,gn,aA,ik,oj,dF,gY,List.set_cons_zero,List.set_cons_succ,om (i:=o) (by lia) (by lia),cN (j:=2147483629) (by decide),mul_r (j:=69621) (by decide) (by decide),cN (j:=2147483647) (by decide),mul_r (j:=2147483647) (by decide) (by decide)]
    ·rw [Nat.zero_add] at f1 ⊢
     exact u5 f0 f1 q2.1 q2.2) (fun _ _ _ => trivial)
   ⟨rfl,x,0,none,rfl,x0,x1,by decide,by decide⟩
  refine ⟨_,_,f,e,rfl,⟨_,_,rfl⟩,f0,?_⟩
  have:(aR 0 6).length = 6:=rfl
  rw [this] at f1
  exact f1
 have fin:∀ c:Int,((decide (k < ((List.map Val.int ns).length:Int)) = false ∧ c = 0) ∨ (decide (k < ((List.map Val.int ns).length:Int)) = true ∧ L2.nF (ns.map Val.int) k = some (.int c))) → ∃ o,PM.aI [.loc n,.int k] st = .ok (.int o) st ∧ 0 ≤ o ∧ o < 2 ^ 186:=by
  intro c hc
  have q:=fJ (m:=2147483647) (by decide) (c * 48271 + 7919 * k * k + 104729 * k + 11)
  obtain ⟨μ',aw,o,e,rfl,⟨y,t,rfl⟩,o0,o1⟩:=loop c _ q.1 q.2
  refine ⟨o,?_,o0,o1⟩
  have r6:CH [.int 6] aw = .ok (aR 0 6,fun _ => True) aw:=rfl
  rcases hc with ⟨h1,rfl⟩ | ⟨h1,h2⟩
  ·simp only [PM.aI,cD,av,aK,aB,dC,cA,dE,cB,cL,bO,ff,gp,qf,fI,gn,c_,cT,da,bN,d8,aA,fY,bK,dD,ik,dI,fw,oj,oo,dF,wu,gY,List.map_cons,List.map_nil,List.cons_append,List.nil_append,List.replicate_succ,List.replicate_zero,List.set_cons_zero,List.set_cons_succ,Nat.reduceSub,List.length_cons,List.length_nil,Nat.reduceAdd,j8 h,h1,mul_r (j:=48271) (by decide) (by decide),om (i:=7919) (by decide) (by decide),mul_r (j:=k) (by lia) (by lia),cN (j:=2147483647) (by decide),r6,e]
  ·simp only [PM.aI,cD,av,aK,aB,dC,cA,dE,cB,cL,bO,ff,gL,qf,fI,gn,c_,cT,da,bN,d8,aA,bK,dD,ik,dI,fw,oj,oo,dF,wu,gY,List.map_cons,List.map_nil,List.cons_append,List.nil_append,List.replicate_succ,List.replicate_zero,List.set_cons_zero,List.set_cons_succ,Nat.reduceSub,List.length_cons,List.length_nil,Nat.reduceAdd,j8 h,h1,kU h h2,mul_r (j:=48271) (by decide) (by decide),om (i:=7919) (by decide) (by decide),mul_r (j:=k) (by lia) (by lia),cN (j:=2147483647) (by decide),r6,e]
 by_cases hk:k < (ns.length:Int)
 ·obtain ⟨c,hc⟩:=CT k0 hk
  exact fin c (.inr ⟨decide_eq_true (by rw [len]; exact hk),hc⟩)
 ·exact fin 0 (.inl ⟨decide_eq_false (by rw [len]; exact hk),rfl⟩)
end PG
namespace PG
open PySem PySem.Spec L2 MN
open PyProof.Rows hiding St kindOf
theorem kd {j:Int} (h:0 < j) (h1:j < 2 ^ 64):Dz j:=by
 refine Dz.of (k:=64) (by lia) ?_ (by decide)
 show j.natAbs < 2 ^ 64
 lia
theorem Gb {m:Int} (hm:0 < m) (i:Int):i.fdiv m = i / m:=Int.fdiv_eq_ediv_of_nonneg i (by lia)
theorem Ad {s x:Int} (hs:s = 1 ∨ s = -1) (h0:0 ≤ x) (h1:x < (10:Int) ^ 40):dB 134 (s * x):=by
 show (s * x).natAbs < 2 ^ 134
 have e:(10:Int) ^ 40 = 10000000000000000000000000000000000000000:=by decide
 rw [e] at h1
 rcases hs with rfl | rfl
 ·rw [Int.one_mul]; lia
 ·rw [Int.neg_one_mul]; lia
theorem tD {c:Int} (h:0 ≤ c) (st:ai):∃ r,PM.bS [.int c] st = .ok (.int r) st ∧ dB 134 r:=by
 have d7:Dz 7:=kd (by decide) (by decide)
 have Th:Dz 14:=kd (by decide) (by decide)
 have cp:yH 10 40:=by decide
 have tn:Int.toNat 40 = 40:=rfl
 cases hz:c.fmod 7 == 0 with
 | true =>
  have q:=fJ (m:=2) (by decide) (c.fdiv 7)
  have q2:=fJ (m:=10 ^ 40) (by decide) (c.fdiv 14)
  refine ⟨(1 - (c.fdiv 7).fmod 2 * 2) * (c.fdiv 14).fmod (10 ^ 40),?_,Ad (by lia) q2.1 q2.2⟩
  have nz:¬ (10:Int) ^ 40 = 0:=by decide
  simp only [PM.bS,cD,av,aK,jB,dC,cA,dE,cB,ff,gL,gn,c_,cT,aA,bK,dD,z6,fW,dF,List.map_cons,List.map_nil,List.cons_append,List.nil_append,List.replicate_zero,Nat.reduceSub,List.length_cons,List.length_nil,Nat.reduceAdd,cN (j:=7) (by decide),hz,div_ii d7,div_ii Th,cN (j:=2) (by decide),mul_r (j:=2) (by decide) (by decide),z8 cp,tn,cN nz,om (i:=1 - (c.fdiv 7).fmod 2 * 2) (by lia) (by lia)]
 | false =>
  have q:=fJ (m:=19) (by decide) (c.fdiv 7)
  refine ⟨(c.fdiv 7).fmod 19 - 9,?_,dB.small (by decide) (by lia) (by lia)⟩
  simp only [PM.bS,cD,av,aK,aB,dC,cA,dE,cB,ff,gp,gn,c_,cT,aA,fY,bK,dD,z6,fW,dF,List.map_cons,List.map_nil,List.cons_append,List.nil_append,List.replicate_zero,Nat.reduceSub,List.length_cons,List.length_nil,Nat.reduceAdd,cN (j:=7) (by decide),hz,div_ii d7,cN (j:=19) (by decide)]
noncomputable def Ku (n:Int) (u:Val):Bool:=match u with
 | .int b => decide (b < n) && (n.fmod b == 0)
 | _ => false
noncomputable def o6 (n:Int):List Val:=(aR 2 30).filter (Ku n)
theorem Gd:∀ k:Fin 998,2 ≤ k.val → (o6 (k.val:Int)).isEmpty = true → uo (k.val:Int) = true:=by decide +kernel
theorem CU:(o6 997).isEmpty = true:=by decide +kernel
theorem Ae (n:Int) (x:Option Val) (st:ai):eI (fun _ => True) (aName 0) (jq (cJ (ah ltV (aa 0) (aa 1))) (cJ (ah gb (ah bD (aa 1) (aa 0)) (mC (.int 0))))) (aa 0) (aR 2 30) [x,some (.int n)] st [] = .ok (o6 n) st:=by
 have:=du (a:=aName 0) (c:=jq (cJ (ah ltV (aa 0) (aa 1))) (cJ (ah gb (ah bD (aa 1) (aa 0)) (mC (.int 0))))) (e:=aa 0) (g:=fun _ => True) (st:=st) trivial (fun τ => ∃ x,τ = [x,some (.int n)]) (Ku n) id (aR 2 30) [x,some (.int n)] [] ⟨x,rfl⟩ ?_
 ·rw [this,List.nil_append,List.map_id]; rfl
 ·rintro u hu τ ⟨x,rfl⟩
  simp only [aR,List.mem_map,List.mem_range] at hu
  obtain ⟨i,hi,rfl⟩:=hu
  have nz:¬ (2 + (i:Int)) = 0:=by lia
  refine ⟨_,rfl,⟨_,rfl⟩,?_,fun _ => rfl⟩
  by_cases hb:2 + (i:Int) < n
  ·have e:decide (2 + (i:Int) < n) = true:=decide_eq_true hb
   simp only [av,cA,dE,cB,s9,gn,c_,cT,rn,oo,fW,dF,gY,List.set_cons_zero,e,cN nz,Ku,Bool.true_and]
  ·have e:decide (2 + (i:Int) < n) = false:=decide_eq_false hb
   simp only [av,cA,dE,cB,s_,c_,cT,rn,oo,dF,gY,List.set_cons_zero,e,Ku,Bool.false_and]
noncomputable def Mp (μ:MN.Env):Nat:=match (μ[1]?:Option (Option Val)) with
 | some (some (Val.int n)) => (997 - n).toNat
 | _ => 0
theorem CV {c:Int} (h:0 ≤ c) (st:ai):∃ g p,PM.gg [.int c] st = .ok (.int p) (st ++ g) ∧ uo p = true:=by
 have d2:Dz 2:=kd (by decide) (by decide)
 cases hz:c.fmod 2 == 0 with
 | true =>
  have q:=fJ (m:=6) (by decide) (c.fdiv 2)
  have Ti:∀ i:Int,0 ≤ i → i < 6 → ∃ p,L2.nF ([.int 2,.int 3,.int 5,.int 7,.int 11,.int 13]:List Val) i = some (.int p) ∧ uo p = true:=by
   intro i i0 i1
   have:i = 0 ∨ i = 1 ∨ i = 2 ∨ i = 3 ∨ i = 4 ∨ i = 5:=by lia
   rcases this with rfl | rfl | rfl | rfl | rfl | rfl
   ·exact ⟨2,rfl,by decide⟩
   ·exact ⟨3,rfl,by decide⟩
   ·exact ⟨5,rfl,by decide⟩
   ·exact ⟨7,rfl,by decide⟩
   ·exact ⟨11,rfl,by decide⟩
   ·exact ⟨13,rfl,by decide⟩
  obtain ⟨p,ep,hp⟩:=Ti _ q.1 q.2
  refine ⟨[.lst [.int 2,.int 3,.int 5,.int 7,.int 11,.int 13]],p,?_,hp⟩
  simp only [PM.gg,cD,av,aK,jB,dC,cA,dE,cB,cL,bO,qe,ff,gL,gn,c_,cT,da,bN,kR,aA,bK,dD,fW,dF,List.map_cons,List.map_nil,List.cons_append,List.nil_append,List.replicate_succ,List.replicate_zero,Nat.reduceSub,List.length_cons,List.length_nil,Nat.reduceAdd,sizeLine_eq,Nat.reduceLeDiff,↓reduceIte,cN (j:=2) (by decide),hz,div_ii d2,cN (j:=6) (by decide),kU (cC st [.int 2,.int 3,.int 5,.int 7,.int 11,.int 13]) ep]
 | false =>
  have q:=fJ (m:=996) (by decide) (c.fdiv 2)
  have r2:∀ st,Ja [.int 2,.int 32] st = .ok (aR 2 30,fun _ => True) st:=fun _ => rfl
  have rl:(aR 2 30).length = 30:=rfl
  have mf:∀ (n:Int) (s:ai),cJ (ah jW (cZ 1 [1] (i8 (ae (mC (.int 2)) (ae (mC (.int 32)) ak))) (aName 0) (jq (cJ (ah ltV (aa 0) (aa 1))) (cJ (ah gb (ah bD (aa 1) (aa 0)) (mC (.int 0))))) (aa 0)) (e9 ak)) [some (.int c),some (.int n)] s = .ok (!(o6 n).isEmpty) (s ++ [.lst (o6 n)] ++ [.lst []]):=by
   intro n s
   have Fe:j4 1 [1] [some (Val.int c),some (Val.int n)] = [none,some (.int n)]:=rfl
   simp only [av,cA,dE,cB,cL,bO,qe,l_,iR,gn,c_,cT,da,bN,kR,gC,CI,List.length_nil,sizeLine_eq,Nat.reduceLeDiff,↓reduceIte,r2,rl,Fe,Ae,ne_nil (aJ (cC s (o6 n)) [.lst []]) (cC (s ++ [.lst (o6 n)]) [])]
  obtain ⟨μ',aw,e,g,rfl,n,rfl,n0,n1,em⟩:=uZ (t:=cJ (ah jW (cZ 1 [1] (i8 (ae (mC (.int 2)) (ae (mC (.int 32)) ak))) (aName 0) (jq (cJ (ah ltV (aa 0) (aa 1))) (cJ (ah gb (ah bD (aa 1) (aa 0)) (mC (.int 0))))) (aa 0)) (e9 ak)))
   (body:=aG 1 (ah bR (aa 1) (mC (.int 1))))
   (fun μ s => ∃ g,s = st ++ g ∧ ∃ n:Int,μ = [some (.int c),some (.int n)] ∧ 2 ≤ n ∧ n ≤ 997) (fun μ _ => Mp μ)
   (fun μ s => ∃ g,s = st ++ g ∧ ∃ n:Int,μ = [some (.int c),some (.int n)] ∧ 2 ≤ n ∧ n ≤ 997 ∧ (o6 n).isEmpty = true)
   (by
    rintro μ s ⟨g,rfl,n,rfl,n0,n1⟩
    have t:=mf n (st ++ g)
    cases hd:(o6 n).isEmpty with
    | true =>
     rw [hd] at t
     exact .inl ⟨_,t,g ++ ([.lst (o6 n)] ++ [.lst []]),by simp only [List.append_assoc],n,rfl,n0,n1,hd⟩
    | false =>
     rw [hd] at t
     have n2:n ≠ 997:=fun z => by rw [z,CU] at hd; cases hd
     refine .inr ⟨_,[some (.int c),some (.int (n + 1))],_,t,.inl (by simp only [av,aK,cA,dE,cB,qf,gn,ik,oj,dF,gY,List.set_cons_zero,List.set_cons_succ]; rfl),⟨g ++ ([.lst (o6 n)] ++ [.lst []]),by simp only [List.append_assoc],n + 1,rfl,by lia,by lia⟩,?_⟩
     show (997 - (n + 1)).toNat < (997 - n).toNat
     lia)
   [some (.int c),some (.int (2 + (c.fdiv 2).fmod 996))] st ⟨[],by rw [List.append_nil],_,rfl,by lia,by lia⟩
  have hp:=Gd ⟨n.toNat,by lia⟩ (by show 2 ≤ n.toNat; lia) (by show (o6 ((n.toNat:Nat):Int)).isEmpty = true; rw [Int.toNat_of_nonneg (by lia)]; exact em)
  have Tj:uo n = true:=by
   have:uo ((n.toNat:Nat):Int) = true:=hp
   rw [Int.toNat_of_nonneg (by lia)] at this; exact this
  refine ⟨g,n,?_,Tj⟩
  simp only [PM.gg,cD,av,aK,aB,dC,cA,dE,cB,ff,gp,qf,gn,c_,cT,aA,fY,bK,dD,ik,oj,fW,dF,gY,List.map_cons,List.map_nil,List.cons_append,List.nil_append,List.replicate_succ,List.replicate_zero,List.set_cons_zero,List.set_cons_succ,Nat.reduceSub,List.length_cons,List.length_nil,Nat.reduceAdd,cN (j:=2) (by decide),hz,div_ii d2,cN (j:=996) (by decide),e]
theorem Ge {c:Int} (h:0 ≤ c) (st:ai):∃ g p,PM.gm [.int c] st = .ok (.int p) (st ++ g) ∧ (p = 0 ∨ uo p = true):=by
 have d3:Dz 3:=kd (by decide) (by decide)
 cases hz:c.fmod 3 == 0 with
 | true => exact ⟨[],0,by simp only [PM.gm,cD,av,aK,jB,dC,cA,dE,cB,ff,gL,gn,c_,cT,aA,bK,dD,fW,dF,List.map_cons,List.map_nil,List.replicate_zero,Nat.reduceSub,List.length_cons,List.length_nil,Nat.reduceAdd,cN (j:=3) (by decide),hz,List.append_nil],.inl rfl⟩
 | false =>
  obtain ⟨g,p,e,hp⟩:=CV (c:=c.fdiv 3) (by rw [Gb (by decide)]; exact Int.ediv_nonneg h (by decide)) st
  exact ⟨g,p,by simp only [PM.gm,cD,av,aK,aB,dC,cA,dE,cB,cL,bO,ff,gp,gn,c_,cT,da,bN,d8,aA,fY,bK,dD,fW,dF,List.map_cons,List.map_nil,List.cons_append,List.nil_append,List.replicate_zero,Nat.reduceSub,List.length_cons,List.length_nil,Nat.reduceAdd,cN (j:=3) (by decide),hz,div_ii d3,e],.inr hp⟩
end PG
namespace PG
open PySem PySem.Spec L2 MN
open PyProof.Rows hiding St kindOf
end PG
namespace PG
open PySem PySem.Spec L2 MN
open PyProof.Rows hiding St kindOf
noncomputable def Af (lo:Int) (n:Nat):List Int:=(List.range n).map fun (i:Nat) => lo + (i:Int)
theorem mm (lo:Int) (n:Nat):aR lo n = (Af lo n).map Val.int:=by unfold aR Af; rw [List.map_map]; rfl
theorem Ag (ns:List Int):(ns.map Val.int).length = ns.length:=List.length_map ..
theorem at_getD {ns:List Int} {i:Int} (h0:0 ≤ i) (h1:i < (ns.length:Int)):L2.nF (ns.map Val.int) i = some (.int (ns.getD i.toNat 0)):=by
 have hk:i.toNat < ns.length:=by lia
 have e:=L2.qI (xs:=ns.map Val.int) (j:=i.toNat) (v:=.int ns[i.toNat]) (by rw [List.getElem?_map,List.getElem?_eq_getElem hk]; rfl)
 rw [show ((i.toNat:Nat):Int) = i by lia] at e
 rw [e,List.getD_eq_getElem?_getD,List.getElem?_eq_getElem hk]; rfl
end PG
namespace PG
open PySem PySem.Spec L2 MN
open PyProof.Rows hiding St kindOf
noncomputable def xS (ns:List Int) (lo hi:Option Int):List Int:=(ns.drop (HT.dZ ns.length 0 lo)).take (HT.dZ ns.length ns.length hi - HT.dZ ns.length 0 lo)
theorem ql (ns:List Int) (lo hi:Option Int):sS (ns.map Val.int) lo hi = (xS ns lo hi).map Val.int:=by
 unfold sS xS
 rw [Ag,List.map_take,List.map_drop]
end PG
namespace PG
open PySem PySem.Spec L2 MN
open PyProof.Rows hiding St kindOf
end PG
namespace PG
open PySem PySem.Spec L2 MN
open PyProof.Rows hiding St kindOf
end PG
namespace PG
open PySem PySem.Spec L2 MN
open PyProof.Rows hiding St kindOf
theorem xT {ns:List Int} {k:Nat} (h:k ≤ ns.length):xS ns none (some (k:Int)) = ns.take k:=by
 unfold xS
 rw [HT.sj,HT.m8,List.drop_zero,show min k ns.length - 0 = k by lia]
theorem xU {ns:List Int} {k:Nat} (h:k ≤ ns.length):xS ns (some (k:Int)) none = ns.drop k:=by
 unfold xS
 rw [HT.sj,HT.m8,show min k ns.length = k by lia,List.take_of_length_le (by rw [List.length_drop]; lia)]
end PG
namespace TS
section
variable {α:Type} (le:α → α → Prop)
noncomputable def Bv (l:List α):Prop:=l.Pairwise le
structure xV (oq out A B:List α):Prop where
 pm:(out ++ (A ++ B)).Perm oq
 so:Bv le out
 sa:Bv le A
 sb:Bv le B
 oa:∀ x ∈ out,∀ y ∈ A,le x y
 ob:∀ x ∈ out,∀ y ∈ B,le x y
variable {le} {oq out A B:List α}
theorem xV.swap (h:xV le oq out A B):xV le oq out B A :=
 ⟨(List.Perm.append_left _ List.perm_append_comm).trans h.pm,h.so,h.sb,h.sa,h.ob,h.oa⟩
theorem xV.a {A1 A2:List α} (h:xV le oq out (A1 ++ A2) B) (l:∀ x ∈ A1,∀ y ∈ B,le x y):xV le oq (out ++ A1) A2 B:=by
 have sa:=List.pairwise_append.mp h.sa
 refine ⟨?_,List.pairwise_append.mpr ⟨h.so,sa.1,fun x hx y hy => h.oa x hx y (List.mem_append_left _ hy)⟩,sa.2.1,h.sb,fun x hx y hy => ?_,fun x hx y hy => ?_⟩
 ·have:=h.pm
  rwa [List.append_assoc,← List.append_assoc out A1] at this
 ·rcases List.mem_append.mp hx with hx | hx
  ·exact h.oa x hx y (List.mem_append_right _ hy)
  ·exact sa.2.2 x hx y hy
 ·rcases List.mem_append.mp hx with hx | hx
  ·exact h.ob x hx y hy
  ·exact l x hx y hy
theorem xV.b {B1 B2:List α} (h:xV le oq out A (B1 ++ B2)) (l:∀ x ∈ B1,∀ y ∈ A,le x y):xV le oq (out ++ B1) A B2:=(h.swap.a l).swap
theorem xV.fin (h:xV le oq out A B) (l:∀ x ∈ A,∀ y ∈ B,le x y):(out ++ A ++ B).Perm oq ∧ Bv le (out ++ A ++ B):=by
 refine ⟨by rw [List.append_assoc]; exact h.pm,?_⟩
 rw [List.append_assoc]
 refine List.pairwise_append.mpr ⟨h.so,List.pairwise_append.mpr ⟨h.sa,h.sb,l⟩,fun x hx y hy => ?_⟩
 rcases List.mem_append.mp hy with hy | hy
 ·exact h.oa x hx y hy
 ·exact h.ob x hx y hy
end
section
variable {α:Type} (r:α → Nat)
noncomputable def K (xs:Array α) (i:Nat):Nat:=(xs[i]?).elim 0 r
noncomputable def Up (xs:Array α) (lo hi:Nat):Prop:=∀ i j,lo ≤ i → i < j → j < hi → K r xs i ≤ K r xs j
noncomputable def Dn (xs:Array α) (lo hi:Nat):Prop:=∀ i j,lo ≤ i → i < j → j < hi → K r xs j ≤ K r xs i
noncomputable abbrev Kv:α → α → Prop:=fun x y => r x ≤ r y
noncomputable abbrev Rf:α → α → Prop:=fun x y => r y ≤ r x
noncomputable def part (xs:Array α) (i j:Nat):List α:=(xs.toList.drop i).take (j - i)
variable {r} {xs ys:Array α}
theorem fj {i:Nat} {x:α} (h:xs[i]? = some x):K r xs i = r x:=by unfold K; rw [h]; rfl
theorem iT {i j:Nat} (hj:j ≤ xs.size):(part xs i j).length = j - i:=by
 unfold part; rw [List.length_take,List.length_drop,Array.length_toList]; lia
theorem fK {i j k:Nat}:(part xs i j)[k]? = if k < j - i then xs[i + k]? else none:=by
 unfold part; rw [List.getElem?_take,List.getElem?_drop,Array.getElem?_toList]
theorem bj {i j:Nat} {x:α} (h:x ∈ part xs i j):∃ k,i ≤ k ∧ k < j ∧ xs[k]? = some x:=by
 obtain ⟨k,hk⟩:=List.getElem?_of_mem h
 rw [fK] at hk
 split at hk
 ·exact ⟨i + k,by lia,by lia,hk⟩
 ·cases hk
theorem cw {i j k:Nat} (h1:i ≤ j) (h2:j ≤ k) (hk:k ≤ xs.size):part xs i k = part xs i j ++ part xs j k:=by
 apply List.ext_getElem?
 intro n
 rw [List.getElem?_append,iT (by lia),fK,fK,fK]
 by_cases c:n < j - i
 ·rw [if_pos c,if_pos (by lia),if_pos c]
 ·rw [if_neg c]
  by_cases d:n < k - i
  ·rw [if_pos d,if_pos (by lia)]; congr 1; lia
  ·rw [if_neg d,if_neg (by lia)]
theorem ke {i:Nat} {x:α} (h:xs[i]? = some x):part xs i (i + 1) = [x]:=by
 apply List.ext_getElem?
 intro n
 rw [fK]
 cases n with
 | zero => rw [if_pos (by lia)]; exact h
 | succ n => rw [if_neg (by lia)]; rfl
theorem tF {i j:Nat} (h:j ≤ i):part xs i j = []:=by unfold part; rw [show j - i = 0 by lia]; rfl
theorem d5:part xs 0 xs.size = xs.toList:=by
 unfold part; rw [List.drop_zero,Nat.sub_zero,← Array.length_toList,List.take_length]
theorem aN {i j:Nat}:(xs.extract i j).toList = part xs i j:=by
 rw [Array.toList_extract]
 unfold part
 rw [List.extract_eq_take_drop]
theorem Up.kf {lo hi:Nat} (h:Up r xs lo hi):Bv (Kv r) (part xs lo hi):=by
 unfold Bv
 rw [List.pairwise_iff_getElem]
 intro i j h1 h2 Tn
 have e1:=List.getElem?_eq_getElem h1
 have e2:=List.getElem?_eq_getElem h2
 rw [fK] at e1 e2
 split at e1
 ·split at e2
  ·have:=h (lo + i) (lo + j) (by lia) (by lia) (by lia)
   rw [fj e1,fj e2] at this
   exact this
  ·cases e2
 ·cases e1
theorem Gf {lo hi:Nat} (h:Bv (Kv r) (part xs lo hi)) (hz:hi ≤ xs.size):Up r xs lo hi:=by
 intro i j h1 h2 h3
 have q1:i - lo < (part xs lo hi).length:=by rw [iT hz]; lia
 have q2:j - lo < (part xs lo hi).length:=by rw [iT hz]; lia
 have:=(List.pairwise_iff_getElem.mp h) (i - lo) (j - lo) q1 q2 (by lia)
 have e1:=List.getElem?_eq_getElem q1
 have e2:=List.getElem?_eq_getElem q2
 rw [fK,if_pos (by lia),show lo + (i - lo) = i by lia] at e1
 rw [fK,if_pos (by lia),show lo + (j - lo) = j by lia] at e2
 rw [fj e1,fj e2]
 exact this
theorem Up.le {lo hi i j:Nat} (h:Up r xs lo hi) (h1:lo ≤ i) (h2:i ≤ j) (h3:j < hi):K r xs i ≤ K r xs j:=by
 rcases Nat.lt_or_ge i j with q | q
 ·exact h i j h1 q h3
 ·rw [show i = j by lia]; exact Nat.le_refl _
theorem Up.sub {lo hi Rg pS:Nat} (h:Up r xs lo hi) (h1:lo ≤ Rg) (h2:pS ≤ hi):Up r xs Rg pS:=fun i j a b c => h i j (by lia) b (by lia)
theorem Up.rev {lo hi:Nat} (h:Up r xs lo hi):Bv (Rf r) (part xs lo hi).reverse:=List.pairwise_reverse.mpr h.kf
theorem tH:∀ (m:List α) (k sa:Nat) (xs:Array α),sa + k + m.length ≤ xs.size →
  ((m.zipIdx k).foldl (fun a (q:α × Nat) => a.setIfInBounds (sa + q.2) q.1) xs).toList = xs.toList.take (sa + k) ++ m ++ xs.toList.drop (sa + k + m.length)
 | [],k,sa,xs,_ => by
  show xs.toList = _
  rw [List.append_nil]; exact (List.take_append_drop _ _).symm
 | x :: m,k,sa,xs,h => by
  rw [List.zipIdx_cons,List.foldl_cons,tH m (k + 1) sa _ (by rw [Array.size_setIfInBounds]; simp only [List.length_cons] at h; lia)]
  simp only [List.length_cons] at h ⊢
  rw [Array.toList_setIfInBounds,← Nat.add_assoc,List.take_set,List.drop_set_of_lt (by lia)]
  have hl:sa + k < xs.toList.length:=by rw [Array.length_toList]; lia
  rw [List.take_succ_eq_append_getElem hl]
  have e:(xs.toList.take (sa + k)).length = sa + k:=by rw [List.length_take]; lia
  rw [List.set_append_right _ _ (by lia),e,Nat.sub_self]
  simp only [List.set_cons_zero,List.append_assoc,List.singleton_append,List.cons_append,List.nil_append]
  rw [show sa + k + 1 + m.length = sa + k + (m.length + 1) by lia]
theorem Ah {m:List α} {sa:Nat} {xs:Array α} (h:sa + m.length ≤ xs.size) :
  ((m.zipIdx).foldl (fun a (q:α × Nat) => a.setIfInBounds (sa + q.2) q.1) xs).toList = xs.toList.take sa ++ m ++ xs.toList.drop (sa + m.length):=tH m 0 sa xs h
theorem xW {i:Nat}:xs.toList.take i = part xs 0 i:=by unfold part; rw [List.drop_zero,Nat.sub_zero]
theorem xX {i:Nat}:xs.toList.drop i = part xs i xs.size:=by
 unfold part
 rw [List.take_of_length_le]
 rw [List.length_drop,Array.length_toList]; exact Nat.le_refl _
end
end TS
namespace TS
open PySem PyProof.Rows
noncomputable def wA:Bool → Keyed → Array Keyed → Nat → Nat → Nat → StateT SortSt Sem (Option Nat):=sortPriv% PySem.Builtin.gallop
noncomputable def tJ:Array Keyed → Array Keyed → StateT SortSt Sem (Array Keyed):=sortPriv% PySem.Builtin.mergeLo
noncomputable def tK:Array Keyed → Array Keyed → StateT SortSt Sem (Array Keyed):=sortPriv% PySem.Builtin.mergeHi
section
variable {prog:Program} {w:World} {A:Around} {E:Value → Shared → Prop} {s:Shared} {κ:SortKind} {S:Keyed → Prop} {r:Keyed → Nat} {st:SortSt}
noncomputable def xY (prog:Program) (w:World) (A:Around) (s:Shared) (κ:SortKind) (S:Keyed → Prop) (r:Keyed → Nat):Prop :=
 ∀ (x y:Keyed) (Q:Bool → Shared → Prop),S x → S y → Q (decide (r x < r y)) s → wpAny (model prog w) A (keyLt' κ x.1 y.1) Q (fun _ _ => False) s
theorem Je (C:xY prog w A s κ S r) {x y:Keyed} {Q:Option Bool → SortSt → Prop} (hk:kindOf st = κ) (hx:S x) (hy:S y) (h:Q (some (decide (r x < r y))) st) :
  wpS (model prog w) A E s (lt' x y) Q st:=by
 rw [lt'_eq]
 refine wpS_bind (wpS_get ?_)
 rw [hk]
 refine wpS_bind (wpS_lift (wpAny_attempt (wpAny_mono (C x y (fun c s' => c = decide (r x < r y) ∧ s' = s) hx hy ⟨rfl,rfl⟩) (fun c s' q => ⟨q.2,?_⟩) fun _ _ q => q.elim)))
 rw [q.1]
 exact wpS_pure h
theorem dM {xs:Array Keyed} {i:Nat} {x:Keyed} {Q:Keyed → SortSt → Prop} (e:xs[i]? = some x) (h:Q x st):wpS (model prog w) A E s (elem' xs i) Q st:=by
 rw [elem'_eq,e]
 exact wpS_pure h
theorem Jf (C:xY prog w A s κ S r) {i j:Nat} {x y:Keyed} {Q:Option Bool → SortSt → Prop} (hk:kindOf st = κ) (e1:(arrOf st)[i]? = some x) (e2:(arrOf st)[j]? = some y) (hx:S x) (hy:S y) (h:Q (some (decide (r x < r y))) st) :
  wpS (model prog w) A E s (ltAt' i j) Q st:=by
 rw [ltAt'_eq]
 exact wpS_bind (wpS_get (wpS_bind (dM e1 (wpS_bind (dM e2 (Je C hk hx hy h))))))
noncomputable def oW (left:Bool) (k n:Nat):Bool:=if left then decide (n < k) else !(decide (k < n))
theorem Ai {left:Bool} {k n m:Nat} (h:n ≤ m) (hb:oW left k m = true):oW left k n = true:=by
 unfold oW at *
 cases left
 ·simp at hb ⊢; lia
 ·simp at hb ⊢; lia
theorem Gg {left:Bool} {k n m:Nat} (h:n ≤ m) (hb:oW left k n = false):oW left k m = false:=by
 cases z:oW left k m with
 | false => rfl
 | true => rw [Ai h z] at hb; cases hb
theorem at_of {xs:Array Keyed} {i:Nat} (h:i < xs.size):∃ x,xs[i]? = some x ∧ x ∈ xs ∧ K r xs i = r x:=⟨xs[i],getElem?_pos xs i h,Array.getElem_mem h,fj (getElem?_pos xs i h)⟩
theorem Mq (C:xY prog w A s κ S r) {left:Bool} {key:Keyed} {xs:Array Keyed} {i:Nat} {Q:Option Bool → SortSt → Prop} (hk:kindOf st = κ) (hS:∀ x ∈ xs,S x) (hy:S key) (hi:i < xs.size) (h:Q (some (oW left (r key) (K r xs i))) st) :
  wpS (model prog w) A E s (elem' xs i >>= fun y => if left = true then lt' y key else lt' key y >>= fun c => pure (c.map (!·))) Q st:=by
 obtain ⟨x,e,m,ek⟩:=at_of (r:=r) hi
 rw [ek] at h
 refine wpS_bind (dM e ?_)
 cases left with
 | true => exact Je C hk (hS x m) hy h
 | false => exact wpS_bind (Je C hk hy (hS x m) (wpS_pure h))
theorem jb (C:xY prog w A s κ S r) {left:Bool} {key:Keyed} {xs:Array Keyed} {base n hint:Nat} {Q:Option Nat → SortSt → Prop} (hk:kindOf st = κ) (hS:∀ x ∈ xs,S x) (hy:S key) (hz:base + n ≤ xs.size) (hh:hint < n) (up:Up r xs base (base + n))
  (h:∀ k,k ≤ n → (∀ i,i < k → oW left (r key) (K r xs (base + i)) = true) → (∀ i,k ≤ i → i < n → oW left (r key) (K r xs (base + i)) = false) → Q (some k) st) :
  wpS (model prog w) A E s (wA left key xs base n hint) Q st:=by
 obtain ⟨b,eb⟩:∃ b:Nat → Bool,∀ i,b i = oW left (r key) (K r xs (base + i)):=⟨_,fun _ => rfl⟩
 have Kw:∀ i j,i ≤ j → j < n → b j = true → b i = true:=fun i j a c d => by
  rw [eb] at d ⊢
  exact Ai (up.le (by lia) (by lia) (by lia)) d
 have Kx:∀ i j,i ≤ j → j < n → b i = false → b j = false:=fun i j a c d => by
  rw [eb] at d ⊢
  exact Gg (up.le (by lia) (by lia) (by lia)) d
 have ask:∀ {i:Nat} {Q:Option Bool → SortSt → Prop},i < n → Q (some (b i)) st → wpS (model prog w) A E s (elem' xs (base + i) >>= fun y => if left = true then lt' y key else lt' key y >>= fun c => pure (c.map (!·))) Q st:=by
  intro i Q hi q
  rw [eb] at q
  exact Mq C hk hS hy (by lia) q
 simp only [← eb] at h
 unfold wA
 refine wpS_bind (ask hh ?_)
 dsimp only
 cases c:b hint with
 | true =>
  rw [if_pos rfl]
  refine wpS_bind (wpS_mono (wpS_forRange (I:=fun x z aw => aw = st ∧ ∃ l o,z = (none,l,o) ∧ x + 1 ≤ o ∧ l < o ∧ hint + l < n ∧ b (hint + l) = true) (Q:=fun z aw => aw = st ∧ ∃ l o,z = (none,l,o) ∧ l < o ∧ hint + l < n ∧ b (hint + l) = true ∧ (o < n - hint → b (hint + o) = false)) ?_ ?_ ⟨rfl,0,1,rfl,by lia,by lia,by lia,c⟩) ?_)
  ·rintro x z aw _ hx ⟨e,l,o,rfl,h1,h2,h3,h4⟩
   rw [e]
   dsimp only
   by_cases q:o ≥ n - hint
   ·rw [if_pos q]
    exact wpS_pure ⟨rfl,l,o,rfl,h2,h3,h4,fun z => absurd z (by lia)⟩
   ·rw [if_neg q]
    refine wpS_bind (ask (by lia) ?_)
    dsimp only
    cases d:b (hint + o) with
    | true => exact wpS_pure ⟨rfl,o,2 * o + 1,rfl,by lia,by lia,by lia,d⟩
    | false => exact wpS_pure ⟨rfl,l,o,rfl,h2,h3,h4,fun _ => d⟩
  ·rintro z aw ⟨e,l,o,rfl,h1,h2,h3,h4⟩
   exact ⟨e,l,o,rfl,h2,h3,h4,fun z => absurd z (by lia)⟩
  ·rintro z aw ⟨e,l,o,rfl,h2,h3,h4,h5⟩
   rw [e]
   dsimp only
   obtain ⟨lo,G0⟩:∃ lo,lo = hint + l + 1:=⟨_,rfl⟩
   obtain ⟨hi,Jg⟩:∃ hi,hi = hint + min o (n - hint):=⟨_,rfl⟩
   rw [← G0,← Jg]
   have g1:lo ≤ hi:=by lia
   have g2:hi ≤ n:=by lia
   have g3:∀ i,i < lo → b i = true:=fun i q => Kw i (hint + l) (by lia) h3 h4
   have g4:∀ i,hi ≤ i → i < n → b i = false:=fun i q q2 => Kx (hint + o) i (by lia) q2 (h5 (by lia))
   clear G0 Jg
   refine wpS_bind (wpS_mono (wpS_forRange (I:=fun x z aw => aw = st ∧ ∃ lo hi,z = (none,lo,hi) ∧ lo ≤ hi ∧ hi ≤ n ∧ hi - lo + x ≤ n ∧ (∀ i,i < lo → b i = true) ∧ ∀ i,hi ≤ i → i < n → b i = false) (Q:=fun z aw => aw = st ∧ ∃ k,z = (none,k,k) ∧ k ≤ n ∧ (∀ i,i < k → b i = true) ∧ ∀ i,k ≤ i → i < n → b i = false) ?_ ?_ ⟨rfl,lo,hi,rfl,g1,g2,by lia,g3,g4⟩) ?_)
   ·rintro x z aw _ hx ⟨e,lo,hi,rfl,h1,h2,h3,h4,h5⟩
    rw [e]
    dsimp only
    by_cases q:lo ≥ hi
    ·rw [if_pos q]
     have:lo = hi:=by lia
     subst this
     exact wpS_pure ⟨rfl,lo,rfl,h2,h4,h5⟩
    ·rw [if_neg q]
     refine wpS_bind (ask (by lia) ?_)
     dsimp only
     cases d:b (lo + (hi - lo) / 2) with
     | true => exact wpS_pure ⟨rfl,_,hi,rfl,by lia,h2,by lia,fun i q => Kw i _ (by lia) (by lia) d,h5⟩
     | false => exact wpS_pure ⟨rfl,lo,_,rfl,by lia,by lia,by lia,h4,fun i q q2 => Kx _ i q q2 d⟩
   ·rintro z aw ⟨e,lo,hi,rfl,h1,h2,h3,h4,h5⟩
    have:lo = hi:=by lia
    subst this
    exact ⟨e,lo,rfl,h2,h4,h5⟩
   ·rintro z aw ⟨e,k,rfl,h1,h2,h3⟩
    rw [e]
    exact wpS_pure (h k h1 h2 h3)
 | false =>
  rw [if_neg Bool.false_ne_true]
  refine wpS_bind (wpS_mono (wpS_forRange (I:=fun x z aw => aw = st ∧ ∃ l o,z = (none,l,o) ∧ x + 1 ≤ o ∧ l < o ∧ l ≤ hint ∧ b (hint - l) = false) (Q:=fun z aw => aw = st ∧ ∃ l o,z = (none,l,o) ∧ l < o ∧ l ≤ hint ∧ b (hint - l) = false ∧ (o < hint + 1 → b (hint - o) = true)) ?_ ?_ ⟨rfl,0,1,rfl,by lia,by lia,by lia,c⟩) ?_)
  ·rintro x z aw _ hx ⟨e,l,o,rfl,h1,h2,h3,h4⟩
   rw [e]
   dsimp only
   by_cases q:o ≥ hint + 1
   ·rw [if_pos q]
    exact wpS_pure ⟨rfl,l,o,rfl,h2,h3,h4,fun z => absurd z (by lia)⟩
   ·rw [if_neg q]
    refine wpS_bind (ask (by lia) ?_)
    dsimp only
    cases d:b (hint - o) with
    | true => exact wpS_pure ⟨rfl,l,o,rfl,h2,h3,h4,fun _ => d⟩
    | false => exact wpS_pure ⟨rfl,o,2 * o + 1,rfl,by lia,by lia,by lia,d⟩
  ·rintro z aw ⟨e,l,o,rfl,h1,h2,h3,h4⟩
   exact ⟨e,l,o,rfl,h2,h3,h4,fun z => absurd z (by lia)⟩
  ·rintro z aw ⟨e,l,o,rfl,h2,h3,h4,h5⟩
   rw [e]
   dsimp only
   obtain ⟨lo,G0⟩:∃ lo,lo = hint + 1 - min o (hint + 1):=⟨_,rfl⟩
   obtain ⟨hi,Jg⟩:∃ hi,hi = hint - l:=⟨_,rfl⟩
   rw [← G0,← Jg]
   have g1:lo ≤ hi:=by lia
   have g2:hi ≤ n:=by lia
   have g3:∀ i,i < lo → b i = true:=fun i q => Kw i (hint - o) (by lia) (by lia) (h5 (by lia))
   have g4:∀ i,hi ≤ i → i < n → b i = false:=fun i q q2 => Kx (hint - l) i (by lia) q2 h4
   clear G0 Jg
   refine wpS_bind (wpS_mono (wpS_forRange (I:=fun x z aw => aw = st ∧ ∃ lo hi,z = (none,lo,hi) ∧ lo ≤ hi ∧ hi ≤ n ∧ hi - lo + x ≤ n ∧ (∀ i,i < lo → b i = true) ∧ ∀ i,hi ≤ i → i < n → b i = false) (Q:=fun z aw => aw = st ∧ ∃ k,z = (none,k,k) ∧ k ≤ n ∧ (∀ i,i < k → b i = true) ∧ ∀ i,k ≤ i → i < n → b i = false) ?_ ?_ ⟨rfl,lo,hi,rfl,g1,g2,by lia,g3,g4⟩) ?_)
   ·rintro x z aw _ hx ⟨e,lo,hi,rfl,h1,h2,h3,h4,h5⟩
    rw [e]
    dsimp only
    by_cases q:lo ≥ hi
    ·rw [if_pos q]
     have:lo = hi:=by lia
     subst this
     exact wpS_pure ⟨rfl,lo,rfl,h2,h4,h5⟩
    ·rw [if_neg q]
     refine wpS_bind (ask (by lia) ?_)
     dsimp only
     cases d:b (lo + (hi - lo) / 2) with
     | true => exact wpS_pure ⟨rfl,_,hi,rfl,by lia,h2,by lia,fun i q => Kw i _ (by lia) (by lia) d,h5⟩
     | false => exact wpS_pure ⟨rfl,lo,_,rfl,by lia,by lia,by lia,h4,fun i q q2 => Kx _ i q q2 d⟩
   ·rintro z aw ⟨e,lo,hi,rfl,h1,h2,h3,h4,h5⟩
    have:lo = hi:=by lia
    subst this
    exact ⟨e,lo,rfl,h2,h4,h5⟩
   ·rintro z aw ⟨e,k,rfl,h1,h2,h3⟩
    rw [e]
    exact wpS_pure (h k h1 h2 h3)
end
end TS
namespace TS
open PySem PyProof.Rows
section
variable {prog:Program} {w:World} {A:Around} {E:Value → Shared → Prop} {s:Shared} {κ:SortKind} {S:Keyed → Prop} {r:Keyed → Nat} {st:SortSt}
noncomputable abbrev Gs (st:SortSt) (g:Nat):SortSt:=SortSt.mk' (kindOf st) (arrOf st) (pendingOf st) g (failedOf st)
theorem cf {α:Type} {c:Prop} [Decidable c] {m1 m2:StateT SortSt Sem α} {Q:α → SortSt → Prop} {M:Model} (h1:c → wpS M A E s m1 Q st) (h2:¬c → wpS M A E s m2 Q st):wpS M A E s (if c then m1 else m2) Q st:=by
 by_cases q:c
 ·rw [if_pos q]; exact h1 q
 ·rw [if_neg q]; exact h2 q
theorem bX {α:Type} {x y:Nat} {m1 m2:StateT SortSt Sem α} {Q:α → SortSt → Prop} {M:Model} (h1:x = y → wpS M A E s m1 Q st) (h2:x ≠ y → wpS M A E s m2 Q st):wpS M A E s (if (x == y) = true then m1 else m2) Q st :=
 cf (fun q => h1 (beq_iff_eq.mp q)) fun q => h2 fun z => q (beq_iff_eq.mpr z)
noncomputable def Good (r:Keyed → Nat) (a b m:Array Keyed):Prop:=m.toList.Perm (a.toList ++ b.toList) ∧ Bv (Kv r) m.toList
structure Mm (r:Keyed → Nat) (a b out:Array Keyed) (ia ib:Nat):Prop where
 la:ia ≤ a.size
 lb:ib ≤ b.size
 me:xV (Kv r) (a.toList ++ b.toList) out.toList (part a ia a.size) (part b ib b.size)
section
variable {a b out:Array Keyed} {ia ib:Nat} (ua:Up r a 0 a.size) (ub:Up r b 0 b.size)
include ua ub
theorem Mm.Jh (h:Mm r a b out ia ib) (k:Nat) (hk:ia + k ≤ a.size) (l:ib < b.size → ∀ i,i < k → K r a (ia + i) ≤ K r b ib):Mm r a b (out ++ a.extract ia (ia + k)) (ia + k) ib:=by
 refine ⟨hk,h.lb,?_⟩
 have m:=h.me
 rw [cw (i:=ia) (j:=ia + k) (by lia) hk (Nat.le_refl _)] at m
 rw [Array.toList_append,aN]
 refine m.a fun x hx y hy => ?_
 obtain ⟨i,i1,i2,i3⟩:=bj hx
 obtain ⟨j,j1,j2,j3⟩:=bj hy
 show r x ≤ r y
 rw [← fj (r:=r) i3,← fj (r:=r) j3]
 have:=l (by lia) (i - ia) (by lia)
 rw [show ia + (i - ia) = i by lia] at this
 exact Nat.le_trans this (ub.le (Nat.zero_le _) j1 j2)
theorem Mm.Ji (h:Mm r a b out ia ib) (k:Nat) (hk:ib + k ≤ b.size) (l:ia < a.size → ∀ i,i < k → K r b (ib + i) ≤ K r a ia):Mm r a b (out ++ b.extract ib (ib + k)) ia (ib + k):=by
 refine ⟨h.la,hk,?_⟩
 have m:=h.me
 rw [cw (i:=ib) (j:=ib + k) (by lia) hk (Nat.le_refl _)] at m
 rw [Array.toList_append,aN]
 refine m.b fun x hx y hy => ?_
 obtain ⟨i,i1,i2,i3⟩:=bj hx
 obtain ⟨j,j1,j2,j3⟩:=bj hy
 show r x ≤ r y
 rw [← fj (r:=r) i3,← fj (r:=r) j3]
 have:=l (by lia) (i - ib) (by lia)
 rw [show ib + (i - ib) = i by lia] at this
 exact Nat.le_trans this (ua.le (Nat.zero_le _) j1 j2)
theorem Mm.a1 (h:Mm r a b out ia ib) {x:Keyed} (e:a[ia]? = some x) (l:ib < b.size → r x ≤ K r b ib):Mm r a b (out.push x) (ia + 1) ib:=by
 have hz:ia < a.size:=(Array.getElem?_eq_some_iff.mp e).1
 have q:=h.Jh ua ub 1 hz fun z i hi => by
  rw [show ia + i = ia by lia,fj e]; exact l z
 have:(out ++ a.extract ia (ia + 1)) = out.push x:=by
  apply Array.toList_inj.mp
  rw [Array.toList_append,aN,ke e,Array.toList_push]
 rwa [this] at q
theorem Mm.b1 (h:Mm r a b out ia ib) {x:Keyed} (e:b[ib]? = some x) (l:ia < a.size → r x ≤ K r a ia):Mm r a b (out.push x) ia (ib + 1):=by
 have hz:ib < b.size:=(Array.getElem?_eq_some_iff.mp e).1
 have q:=h.Ji ua ub 1 hz fun z i hi => by
  rw [show ib + i = ib by lia,fj e]; exact l z
 have:(out ++ b.extract ib (ib + 1)) = out.push x:=by
  apply Array.toList_inj.mp
  rw [Array.toList_append,aN,ke e,Array.toList_push]
 rwa [this] at q
omit ua ub in
theorem Mm.done (h:Mm r a b out ia ib) (l:ia = a.size ∨ ib = b.size):Good r a b (out ++ a.extract ia ++ b.extract ib):=by
 unfold Good
 rw [Array.toList_append,Array.toList_append,aN,aN]
 refine h.me.fin fun x hx y hy => ?_
 obtain ⟨i,i1,i2,i3⟩:=bj hx
 obtain ⟨j,j1,j2,j3⟩:=bj hy
 lia
omit ua in
theorem Mm.last (h:Mm r a b out ia ib) (l:ia + 1 = a.size) (hl:K r b (b.size - 1) ≤ K r a (a.size - 1)):Good r a b (out ++ b.extract ib ++ a.extract ia):=by
 unfold Good
 rw [Array.toList_append,Array.toList_append,aN,aN]
 refine h.me.swap.fin fun x hx y hy => ?_
 obtain ⟨i,i1,i2,i3⟩:=bj hx
 obtain ⟨j,j1,j2,j3⟩:=bj hy
 show r x ≤ r y
 rw [← fj (r:=r) i3,← fj (r:=r) j3,show j = a.size - 1 by lia]
 exact Nat.le_trans (ub.le (Nat.zero_le _) (by lia) (by lia)) hl
end
theorem Aj (C:xY prog w A s κ S r) {a b:Array Keyed} {Q:Array Keyed → SortSt → Prop} (hk:kindOf st = κ) (Gh:∀ x ∈ a,S x) (Gi:∀ x ∈ b,S x) (ua:Up r a 0 a.size) (ub:Up r b 0 b.size) (ha:1 ≤ a.size) (hb:1 ≤ b.size)
  (h0:K r b 0 ≤ K r a 0) (hl:K r b (b.size - 1) ≤ K r a (a.size - 1)) (h:∀ m g,Good r a b m → Q m (Gs st g)) :
  wpS (model prog w) A E s (tJ a b) Q st:=by
 unfold tJ
 refine wpS_bind (wpS_lift (wpAny_rule ⟨rfl,?_⟩))
 obtain ⟨y0,e0,m0,k0⟩:=at_of (r:=r) (xs:=b) (i:=0) (by lia)
 refine wpS_bind (dM e0 ?_)
 dsimp only
 have M0:Mm r a b #[] 0 0:=⟨Nat.zero_le _,Nat.zero_le _,by
  rw [d5,d5]
  exact ⟨List.Perm.refl _,List.Pairwise.nil,by rw [← d5]; exact ua.kf,by rw [← d5]; exact ub.kf,(by intro _ m; cases m),(by intro _ m; cases m)⟩⟩
 have M1:Mm r a b #[y0] 0 1:=M0.b1 ua ub e0 fun _ => by rw [← k0]; exact h0
 refine bX (fun q => wpS_pure (h _ (gallopOf st) (M1.done (.inr q)))) fun q1 => ?_
 refine bX (fun q => wpS_pure (h _ (gallopOf st) (M1.last ub q hl))) fun q2 => ?_
 refine wpS_bind (wpS_get ?_)
 refine wpS_bind (wpS_mono (wpS_forRange (I:=fun x z aw => (∃ g,aw = Gs st g) ∧ ∃ out ia ib mg,z = (none,out,ia,ib,mg) ∧ Mm r a b out ia ib ∧ ia + 1 < a.size ∧ ib < b.size ∧ x < ia + ib)
  (Q:=fun z aw => (∃ g,aw = Gs st g) ∧ ∃ m y,z = (some m,y) ∧ Good r a b m) ?_ ?_ ⟨⟨gallopOf st,rfl⟩,_,0,1,_,rfl,M1,by lia,by lia,by lia⟩) ?_)
 ·rintro x z aw _ hx ⟨⟨g,e⟩,out,ia,ib,mg,rfl,m,l1,l2,l3⟩
  dsimp only
  refine wpS_bind (wpS_mono (wpS_forRange (I:=fun x' z aw => (∃ g,aw = Gs st g) ∧ ∃ out mL nq c1 c2,z = (none,out,mL,nq,c1,c2) ∧ Mm r a b out mL nq ∧ mL + 1 < a.size ∧ nq < b.size ∧ ia + ib + x' ≤ mL + nq)
   (Q:=fun z aw => (∃ g,aw = Gs st g) ∧ ((∃ m y,z = (some m,y) ∧ Good r a b m) ∨ ∃ out mL nq c1 c2,z = (none,out,mL,nq,c1,c2) ∧ Mm r a b out mL nq ∧ mL + 1 < a.size ∧ nq < b.size ∧ ia + ib + 1 ≤ mL + nq)) ?_ ?_ ⟨⟨g,e⟩,out,ia,ib,0,0,rfl,m,l1,l2,by lia⟩) ?_)
  ·rintro x' z bV _ Mr ⟨⟨g,e⟩,out,mL,nq,c1,c2,rfl,m,l1,l2,l3⟩
   dsimp only
   obtain ⟨y,ey,my,ky⟩:=at_of (r:=r) l2
   obtain ⟨z,ez,mz,kz⟩:=at_of (r:=r) (xs:=a) (i:=mL) (by lia)
   have Gj:kindOf bV = κ:=by rw [e]; exact hk
   refine wpS_bind (dM ey (wpS_bind (dM ez (wpS_bind (Je C Gj (Gi y my) (Gh z mz) ?_)))))
   dsimp only
   refine cf (fun q => ?_) fun q => ?_
   ·have m2:=m.b1 ua ub ey fun _ => by rw [kz]; have:=of_decide_eq_true q; lia
    refine wpS_bind (dM ey ?_)
    refine bX (fun q => wpS_pure ⟨⟨g,e⟩,.inl ⟨_,_,rfl,m2.done (.inr q)⟩⟩) fun q3 => ?_
    exact cf (fun q => wpS_pure ⟨⟨g,e⟩,.inr ⟨_,_,_,_,_,rfl,m2,l1,by lia,by lia⟩⟩) fun q => wpS_pure ⟨⟨g,e⟩,_,_,_,_,_,rfl,m2,l1,by lia,by lia⟩
   ·have m2:=m.a1 ua ub ez fun _ => by rw [ky]; have:=of_decide_eq_false (by simpa using q:decide (r y < r z) = false); lia
    refine wpS_bind (dM ez ?_)
    refine bX (fun q => wpS_pure ⟨⟨g,e⟩,.inl ⟨_,_,rfl,m2.last ub q hl⟩⟩) fun q3 => ?_
    exact cf (fun q => wpS_pure ⟨⟨g,e⟩,.inr ⟨_,_,_,_,_,rfl,m2,by lia,l2,by lia⟩⟩) fun q => wpS_pure ⟨⟨g,e⟩,_,_,_,_,_,rfl,m2,by lia,l2,by lia⟩
  ·rintro z bV ⟨e,out,mL,nq,c1,c2,rfl,m,l1,l2,l3⟩
   exact ⟨e,.inr ⟨out,mL,nq,c1,c2,rfl,m,l1,l2,by lia⟩⟩
  ·rintro z bV ⟨e,⟨m,y,rfl,gd⟩ | ⟨out,Gk,Rh,c1,c2,rfl,m,l1,l2,l4⟩⟩
   ·exact wpS_pure ⟨e,_,_,rfl,gd⟩
   ·dsimp only
    refine wpS_bind (wpS_lift (wpAny_rule ⟨rfl,?_⟩))
    refine wpS_bind (wpS_mono (wpS_forRange (I:=fun x' z aw => (∃ g,aw = Gs st g) ∧ ∃ out mL nq mg c1 c2,z = (none,out,mL,nq,mg,c1,c2) ∧ Mm r a b out mL nq ∧ mL + 1 < a.size ∧ nq < b.size ∧ ia + ib + 1 ≤ mL + nq)
     (Q:=fun z aw => (∃ g,aw = Gs st g) ∧ ((∃ m y,z = (some m,y) ∧ Good r a b m) ∨ ∃ out mL nq mg c1 c2,z = (none,out,mL,nq,mg,c1,c2) ∧ Mm r a b out mL nq ∧ mL + 1 < a.size ∧ nq < b.size ∧ ia + ib + 1 ≤ mL + nq)) ?_ ?_ ⟨e,out,Gk,Rh,_,c1,c2,rfl,m,l1,l2,by lia⟩) ?_)
    ·rintro x' z iE _ Mr ⟨⟨g,e⟩,out,ia,ib,mg,c1,c2,rfl,m,l1,l2,l3⟩
     dsimp only
     obtain ⟨y,ey,my,ky⟩:=at_of (r:=r) l2
     have Gm:∀ (mg:Nat) {Q:PUnit → SortSt → Prop},Q ⟨⟩ (Gs st mg) → wpS (model prog w) A E s (modify fun s:SortSt => Gs s mg) Q iE:=by
      intro mg Q q
      refine wpS_modify ?_
      rw [e]; exact q
     refine cf (fun qg => ?_) fun qg => ?_
     all_goals
      refine wpS_bind (Gm _ ?_)
      refine wpS_bind (dM ey (wpS_bind (jb C hk Gh (Gi y my) (by lia) (by lia) (ua.sub (by lia) (by lia)) fun k k1 k2 k3 => ?_)))
      dsimp only
      have mk:=m.Jh ua ub k (by lia) fun _ i hi => by
       have:=k2 i hi
       unfold oW at this
       simp only [Bool.false_eq_true,if_false,Bool.not_eq_true',decide_eq_false_iff_not] at this
       lia
      have nx:ia + k < a.size → r y ≤ K r a (ia + k):=fun z => by
       have:=k3 k (Nat.le_refl _) (by lia)
       unfold oW at this
       simp only [Bool.false_eq_true,if_false,Bool.not_eq_false',decide_eq_true_eq] at this
       lia
      refine cf (fun qk => bX (fun q => wpS_pure ⟨⟨_,rfl⟩,.inl ⟨_,_,rfl,mk.last ub q hl⟩⟩) fun q1 => bX (fun q => wpS_pure ⟨⟨_,rfl⟩,.inl ⟨_,_,rfl,mk.done (.inl q)⟩⟩) fun q2 => ?_) fun qk => ?_
      obtain ⟨Gn,eo⟩:∃ z,z = out ++ a.extract ia (ia + k):=⟨_,rfl⟩
      obtain ⟨Gk,ei⟩:∃ z,z = ia + k:=⟨_,rfl⟩
      rw [← eo,← ei]
      rw [← eo,← ei] at mk
      rw [← ei] at nx
      have l4:Gk + 1 < a.size:=by lia
      rotate_left
      have k0:k = 0:=by lia
      subst k0
      obtain ⟨Gn,eo⟩:∃ z,z = out:=⟨_,rfl⟩
      obtain ⟨Gk,ei⟩:∃ z,z = ia:=⟨_,rfl⟩
      replace mk:Mm r a b out ia ib:=m
      rw [Nat.add_zero,← ei] at nx
      rw [← eo,← ei] at mk ⊢
      have l4:Gk + 1 < a.size:=by lia
      all_goals
       have m2:=mk.b1 ua ub ey nx
       refine wpS_bind (dM ey ?_)
       refine bX (fun q => wpS_pure ⟨⟨_,rfl⟩,.inl ⟨_,_,rfl,m2.done (.inr q)⟩⟩) fun q3 => ?_
       obtain ⟨x1,ex,mx,kx⟩:=at_of (r:=r) (xs:=a) (i:=Gk) (by lia)
       refine wpS_bind (dM ex (wpS_bind (jb C hk Gi (Gh x1 mx) (by lia) (by lia) (ub.sub (by lia) (by lia)) fun j j1 j2 j3 => ?_)))
       dsimp only
       have mj:=m2.Ji ua ub j (by lia) fun _ i hi => by
        have:=j2 i hi
        unfold oW at this
        simp only [if_true,decide_eq_true_eq] at this
        lia
       have nj:ib + 1 + j < b.size → r x1 ≤ K r b (ib + 1 + j):=fun z => by
        have:=j3 j (Nat.le_refl _) (by lia)
        unfold oW at this
        simp only [if_true,decide_eq_false_iff_not] at this
        lia
       refine cf (fun qj => bX (fun q => wpS_pure ⟨⟨_,rfl⟩,.inl ⟨_,_,rfl,mj.done (.inr q)⟩⟩) fun q4 => ?_) fun qj => ?_
       obtain ⟨Ms,ej⟩:∃ z,z = ib + 1 + j:=⟨_,rfl⟩
       rw [← ej] at mj nj ⊢
       have l5:Ms < b.size:=by lia
       rotate_left
       have j0:j = 0:=by lia
       subst j0
       replace mj:=m2
       obtain ⟨Ms,ej⟩:∃ z,z = ib + 1:=⟨_,rfl⟩
       rw [Nat.add_zero,← ej] at nj
       rw [← ej] at mj ⊢
       have l5:Ms < b.size:=by lia
       all_goals
        have m3:=mj.a1 ua ub ex nj
        refine wpS_bind (dM ex ?_)
        refine bX (fun q => wpS_pure ⟨⟨_,rfl⟩,.inl ⟨_,_,rfl,m3.last ub q hl⟩⟩) fun q5 => ?_
        exact cf (fun q => wpS_pure ⟨⟨_,rfl⟩,.inr ⟨_,_,_,_,_,_,rfl,m3,by lia,by lia,by lia⟩⟩) fun q => wpS_pure ⟨⟨_,rfl⟩,_,_,_,_,_,_,rfl,m3,by lia,by lia,by lia⟩
    ·rintro z iE ⟨e,out,mL,nq,mg,c1,c2,rfl,m,l1,l2,l3⟩
     exact ⟨e,.inr ⟨out,mL,nq,mg,c1,c2,rfl,m,l1,l2,l3⟩⟩
    ·rintro z iE ⟨⟨g,e⟩,⟨m,y,rfl,gd⟩ | ⟨out,Gk,Rh,mg,c1,c2,rfl,m,l1,l2,l4⟩⟩
     ·exact wpS_pure ⟨⟨g,e⟩,_,_,rfl,gd⟩
     ·dsimp only
      refine wpS_bind (wpS_modify (wpS_pure ⟨⟨mg + 1,?_⟩,_,_,_,_,rfl,m,l1,l2,by lia⟩))
      rw [e]
 ·rintro z aw ⟨e,out,ia,ib,mg,rfl,m,l1,l2,l3⟩
  lia
 ·rintro z aw ⟨⟨g,e⟩,m,y,rfl,gd⟩
  rw [e]
  exact wpS_pure (h m g gd)
end
end TS
namespace TS
open PySem PyProof.Rows
section
variable {prog:Program} {w:World} {A:Around} {E:Value → Shared → Prop} {s:Shared} {κ:SortKind} {S:Keyed → Prop} {r:Keyed → Nat} {st:SortSt}
structure Mh (r:Keyed → Nat) (a b out:Array Keyed) (na nb:Nat):Prop where
 la:na ≤ a.size
 lb:nb ≤ b.size
 me:xV (Rf r) (a.toList ++ b.toList) out.toList (part a 0 na).reverse (part b 0 nb).reverse
section
variable {a b out:Array Keyed} {na nb:Nat} (ua:Up r a 0 a.size) (ub:Up r b 0 b.size)
include ua ub
theorem Mh.Jh (h:Mh r a b out na nb) {k:Nat} (hk:k ≤ na) (l:0 < nb → ∀ i,k ≤ i → i < na → K r b (nb - 1) ≤ K r a i):Mh r a b (out ++ (a.extract k na).reverse) k nb:=by
 have la:=h.la
 have lb:=h.lb
 refine ⟨by lia,h.lb,?_⟩
 have m:=h.me
 rw [cw (i:=0) (j:=k) (by lia) hk h.la,List.reverse_append] at m
 rw [Array.toList_append,Array.toList_reverse,aN]
 refine m.a fun x hx y hy => ?_
 obtain ⟨i,i1,i2,i3⟩:=bj (List.mem_reverse.mp hx)
 obtain ⟨j,j1,j2,j3⟩:=bj (List.mem_reverse.mp hy)
 show r y ≤ r x
 rw [← fj (r:=r) i3,← fj (r:=r) j3]
 exact Nat.le_trans (ub.le (Nat.zero_le _) (by lia) (by lia)) (l (by lia) i i1 i2)
theorem Mh.Ji (h:Mh r a b out na nb) {k:Nat} (hk:k ≤ nb) (l:0 < na → ∀ i,k ≤ i → i < nb → K r a (na - 1) ≤ K r b i):Mh r a b (out ++ (b.extract k nb).reverse) na k:=by
 have la:=h.la
 have lb:=h.lb
 refine ⟨h.la,by lia,?_⟩
 have m:=h.me
 rw [cw (i:=0) (j:=k) (by lia) hk h.lb,List.reverse_append] at m
 rw [Array.toList_append,Array.toList_reverse,aN]
 refine m.b fun x hx y hy => ?_
 obtain ⟨i,i1,i2,i3⟩:=bj (List.mem_reverse.mp hx)
 obtain ⟨j,j1,j2,j3⟩:=bj (List.mem_reverse.mp hy)
 show r y ≤ r x
 rw [← fj (r:=r) i3,← fj (r:=r) j3]
 exact Nat.le_trans (ua.le (Nat.zero_le _) (by lia) (by lia)) (l (by lia) i i1 i2)
theorem Mh.a1 (h:Mh r a b out na nb) (hn:0 < na) {x:Keyed} (e:a[na - 1]? = some x) (l:0 < nb → K r b (nb - 1) ≤ r x):Mh r a b (out.push x) (na - 1) nb:=by
 have q:=h.Jh ua ub (k:=na - 1) (by lia) fun z i i1 i2 => by
  rw [show i = na - 1 by lia,fj e]; exact l z
 have:(out ++ (a.extract (na - 1) na).reverse) = out.push x:=by
  apply Array.toList_inj.mp
  have e2:=ke e
  rw [show na - 1 + 1 = na by lia] at e2
  rw [Array.toList_append,Array.toList_reverse,aN,e2,Array.toList_push,List.reverse_singleton]
 rwa [this] at q
theorem Mh.b1 (h:Mh r a b out na nb) (hn:0 < nb) {x:Keyed} (e:b[nb - 1]? = some x) (l:0 < na → K r a (na - 1) ≤ r x):Mh r a b (out.push x) na (nb - 1):=by
 have q:=h.Ji ua ub (k:=nb - 1) (by lia) fun z i i1 i2 => by
  rw [show i = nb - 1 by lia,fj e]; exact l z
 have:(out ++ (b.extract (nb - 1) nb).reverse) = out.push x:=by
  apply Array.toList_inj.mp
  have e2:=ke e
  rw [show nb - 1 + 1 = nb by lia] at e2
  rw [Array.toList_append,Array.toList_reverse,aN,e2,Array.toList_push,List.reverse_singleton]
 rwa [this] at q
omit ua ub in
theorem Mh.done (h:Mh r a b out na nb) (l:na = 0 ∨ nb = 0):Good r a b (a.extract 0 na ++ b.extract 0 nb ++ out.reverse):=by
 unfold Good
 rw [Array.toList_append,Array.toList_append,Array.toList_reverse,aN,aN]
 have f:=h.me.fin fun x hx y hy => by
  obtain ⟨i,i1,i2,i3⟩:=bj (List.mem_reverse.mp hx)
  obtain ⟨j,j1,j2,j3⟩:=bj (List.mem_reverse.mp hy)
  lia
 have e:part a 0 na ++ part b 0 nb ++ out.toList.reverse = (out.toList ++ (part a 0 na).reverse ++ (part b 0 nb).reverse).reverse:=by
  rw [List.reverse_append,List.reverse_append,List.reverse_reverse,List.reverse_reverse,← List.append_assoc]
  rcases l with z | z
  ·rw [z,tF (Nat.le_refl _),List.append_nil,List.nil_append]
  ·rw [z,tF (Nat.le_refl _),List.append_nil,List.nil_append]
 rw [e]
 exact ⟨(List.reverse_perm _).trans f.1,List.pairwise_reverse.mpr f.2⟩
omit ub in
theorem Mh.first (h:Mh r a b out na nb) (l:nb = 1) (h0:K r b 0 ≤ K r a 0):Good r a b (b.extract 0 nb ++ a.extract 0 na ++ out.reverse):=by
 have la:=h.la
 unfold Good
 rw [Array.toList_append,Array.toList_append,Array.toList_reverse,aN,aN]
 have f:=h.me.fin fun x hx y hy => by
  obtain ⟨i,i1,i2,i3⟩:=bj (List.mem_reverse.mp hx)
  obtain ⟨j,j1,j2,j3⟩:=bj (List.mem_reverse.mp hy)
  show r y ≤ r x
  rw [← fj (r:=r) i3,← fj (r:=r) j3,show j = 0 by lia]
  exact Nat.le_trans h0 (ua.le (Nat.le_refl _) (Nat.zero_le _) (by lia))
 have e:part b 0 nb ++ part a 0 na ++ out.toList.reverse = (out.toList ++ (part a 0 na).reverse ++ (part b 0 nb).reverse).reverse:=by
  rw [List.reverse_append,List.reverse_append,List.reverse_reverse,List.reverse_reverse,← List.append_assoc]
 rw [e]
 exact ⟨(List.reverse_perm _).trans f.1,List.pairwise_reverse.mpr f.2⟩
end
theorem Ak (C:xY prog w A s κ S r) {a b:Array Keyed} {Q:Array Keyed → SortSt → Prop} (hk:kindOf st = κ) (Gh:∀ x ∈ a,S x) (Gi:∀ x ∈ b,S x) (ua:Up r a 0 a.size) (ub:Up r b 0 b.size) (ha:1 ≤ a.size) (hb:1 ≤ b.size)
  (h0:K r b 0 ≤ K r a 0) (hl:K r b (b.size - 1) ≤ K r a (a.size - 1)) (h:∀ m g,Good r a b m → Q m (Gs st g)) :
  wpS (model prog w) A E s (tK a b) Q st:=by
 unfold tK
 refine wpS_bind (wpS_lift (wpAny_rule ⟨rfl,?_⟩))
 obtain ⟨y0,e0,m0,k0⟩:=at_of (r:=r) (xs:=a) (i:=a.size - 1) (by lia)
 refine wpS_bind (dM e0 ?_)
 dsimp only
 have M0:Mh r a b #[] a.size b.size:=⟨Nat.le_refl _,Nat.le_refl _,by
  rw [d5,d5]
  exact ⟨(List.reverse_perm _).append (List.reverse_perm _),List.Pairwise.nil,by rw [← d5]; exact ua.rev,by rw [← d5]; exact ub.rev,(by intro _ m; cases m),(by intro _ m; cases m)⟩⟩
 have M1:Mh r a b #[y0] (a.size - 1) b.size:=M0.a1 ua ub (by lia) e0 fun _ => by rw [← k0]; exact hl
 refine bX (fun q => wpS_pure (h _ (gallopOf st) (M1.done (.inl q)))) fun q1 => ?_
 refine bX (fun q => wpS_pure (h _ (gallopOf st) (M1.first ua q h0))) fun q2 => ?_
 refine wpS_bind (wpS_get ?_)
 refine wpS_bind (wpS_mono (wpS_forRange (I:=fun x z aw => (∃ g,aw = Gs st g) ∧ ∃ na nb out mg,z = (none,na,nb,out,mg) ∧ Mh r a b out na nb ∧ 0 < na ∧ 1 < nb ∧ x + na + nb < a.size + b.size)
  (Q:=fun z aw => (∃ g,aw = Gs st g) ∧ ∃ m y,z = (some m,y) ∧ Good r a b m) ?_ ?_ ⟨⟨gallopOf st,rfl⟩,_,_,_,_,rfl,M1,by lia,by lia,by lia⟩) ?_)
 ·rintro x z aw _ hx ⟨⟨g,e⟩,na,nb,out,mg,rfl,m,l1,l2,l3⟩
  dsimp only
  refine wpS_bind (wpS_mono (wpS_forRange (I:=fun x' z aw => (∃ g,aw = Gs st g) ∧ ∃ mM mO out c1 c2,z = (none,mM,mO,out,c1,c2) ∧ Mh r a b out mM mO ∧ 0 < mM ∧ 1 < mO ∧ mM + mO + x' ≤ na + nb)
   (Q:=fun z aw => (∃ g,aw = Gs st g) ∧ ((∃ m y,z = (some m,y) ∧ Good r a b m) ∨ ∃ mM mO out c1 c2,z = (none,mM,mO,out,c1,c2) ∧ Mh r a b out mM mO ∧ 0 < mM ∧ 1 < mO ∧ mM + mO + 1 ≤ na + nb)) ?_ ?_ ⟨⟨g,e⟩,na,nb,out,0,0,rfl,m,l1,l2,by lia⟩) ?_)
  ·rintro x' z bV _ Mr ⟨⟨g,e⟩,mM,mO,out,c1,c2,rfl,m,l1,l2,l3⟩
   dsimp only
   have ma:=m.la
   have mb:=m.lb
   obtain ⟨y,ey,my,ky⟩:=at_of (r:=r) (xs:=b) (i:=mO - 1) (by lia)
   obtain ⟨z,ez,mz,kz⟩:=at_of (r:=r) (xs:=a) (i:=mM - 1) (by lia)
   have Gj:kindOf bV = κ:=by rw [e]; exact hk
   refine wpS_bind (dM ey (wpS_bind (dM ez (wpS_bind (Je C Gj (Gi y my) (Gh z mz) ?_)))))
   dsimp only
   refine cf (fun q => ?_) fun q => ?_
   ·have m2:=m.a1 ua ub l1 ez fun _ => by rw [ky]; have:=of_decide_eq_true q; lia
    refine wpS_bind (dM ez ?_)
    refine bX (fun q => wpS_pure ⟨⟨g,e⟩,.inl ⟨_,_,rfl,m2.done (.inl q)⟩⟩) fun q3 => ?_
    exact cf (fun q => wpS_pure ⟨⟨g,e⟩,.inr ⟨_,_,_,_,_,rfl,m2,by lia,l2,by lia⟩⟩) fun q => wpS_pure ⟨⟨g,e⟩,_,_,_,_,_,rfl,m2,by lia,l2,by lia⟩
   ·have m2:=m.b1 ua ub (by lia) ey fun _ => by rw [kz]; have:=of_decide_eq_false (by simpa using q:decide (r y < r z) = false); lia
    refine wpS_bind (dM ey ?_)
    refine bX (fun q => wpS_pure ⟨⟨g,e⟩,.inl ⟨_,_,rfl,m2.first ua q h0⟩⟩) fun q3 => ?_
    exact cf (fun q => wpS_pure ⟨⟨g,e⟩,.inr ⟨_,_,_,_,_,rfl,m2,l1,by lia,by lia⟩⟩) fun q => wpS_pure ⟨⟨g,e⟩,_,_,_,_,_,rfl,m2,l1,by lia,by lia⟩
  ·rintro z bV ⟨e,mM,mO,out,c1,c2,rfl,m,l1,l2,l3⟩
   exact ⟨e,.inr ⟨mM,mO,out,c1,c2,rfl,m,l1,l2,by lia⟩⟩
  ·rintro z bV ⟨e,⟨m,y,rfl,gd⟩ | ⟨Ri,Rj,out,c1,c2,rfl,m,l1,l2,l4⟩⟩
   ·exact wpS_pure ⟨e,_,_,rfl,gd⟩
   ·dsimp only
    refine wpS_bind (wpS_lift (wpAny_rule ⟨rfl,?_⟩))
    refine wpS_bind (wpS_mono (wpS_forRange (I:=fun x' z aw => (∃ g,aw = Gs st g) ∧ ∃ mM mO out mg c1 c2,z = (none,mM,mO,out,mg,c1,c2) ∧ Mh r a b out mM mO ∧ 0 < mM ∧ 1 < mO ∧ mM + mO + 1 ≤ na + nb)
     (Q:=fun z aw => (∃ g,aw = Gs st g) ∧ ((∃ m y,z = (some m,y) ∧ Good r a b m) ∨ ∃ mM mO out mg c1 c2,z = (none,mM,mO,out,mg,c1,c2) ∧ Mh r a b out mM mO ∧ 0 < mM ∧ 1 < mO ∧ mM + mO + 1 ≤ na + nb)) ?_ ?_ ⟨e,Ri,Rj,out,_,c1,c2,rfl,m,l1,l2,by lia⟩) ?_)
    ·rintro x' z iE _ Mr ⟨⟨g,e⟩,na,nb,out,mg,c1,c2,rfl,m,l1,l2,l3⟩
     dsimp only
     have ma:=m.la
     have mb:=m.lb
     obtain ⟨y,ey,my,ky⟩:=at_of (r:=r) (xs:=b) (i:=nb - 1) (by lia)
     have Gm:∀ (mg:Nat) {Q:PUnit → SortSt → Prop},Q ⟨⟩ (Gs st mg) → wpS (model prog w) A E s (modify fun s:SortSt => Gs s mg) Q iE:=by
      intro mg Q q
      refine wpS_modify ?_
      rw [e]; exact q
     refine cf (fun qg => ?_) fun qg => ?_
     all_goals
      refine wpS_bind (Gm _ ?_)
      refine wpS_bind (dM ey (wpS_bind (jb C hk Gh (Gi y my) (by lia) (by lia) (ua.sub (by lia) (by lia)) fun k k1 k2 k3 => ?_)))
      dsimp only
      simp only [Nat.zero_add] at k2 k3
      have mk:=m.Jh ua ub k1 fun _ i i1 i2 => by
       have:=k3 i i1 i2
       unfold oW at this
       simp only [Bool.false_eq_true,if_false,Bool.not_eq_false',decide_eq_true_eq] at this
       lia
      have nx:0 < k → K r a (k - 1) ≤ r y:=fun z => by
       have:=k2 (k - 1) (by lia)
       unfold oW at this
       simp only [Bool.false_eq_true,if_false,Bool.not_eq_true',decide_eq_false_iff_not] at this
       lia
      refine cf (fun qk => bX (fun q => wpS_pure ⟨⟨_,rfl⟩,.inl ⟨_,_,rfl,mk.done (.inl q)⟩⟩) fun q2 => ?_) fun qk => ?_
      obtain ⟨Gn,eo⟩:∃ z,z = out ++ (a.extract k na).reverse:=⟨_,rfl⟩
      rw [← eo] at mk ⊢
      rotate_left
      have k0:k = na:=by lia
      subst k0
      obtain ⟨Gn,eo⟩:∃ z,z = out:=⟨_,rfl⟩
      replace mk:=m
      rw [← eo] at mk ⊢
      all_goals
       have kp:0 < k:=by lia
       have m2:=mk.b1 ua ub (by lia) ey nx
       refine wpS_bind (dM ey ?_)
       refine bX (fun q => wpS_pure ⟨⟨_,rfl⟩,.inl ⟨_,_,rfl,m2.first ua q h0⟩⟩) fun q3 => ?_
       obtain ⟨x1,ex,mx,kx⟩:=at_of (r:=r) (xs:=a) (i:=k - 1) (by lia)
       refine wpS_bind (dM ex (wpS_bind (jb C hk Gi (Gh x1 mx) (by lia) (by lia) (ub.sub (by lia) (by lia)) fun j j1 j2 j3 => ?_)))
       dsimp only
       simp only [Nat.zero_add] at j2 j3
       have mj:=m2.Ji ua ub j1 fun _ i i1 i2 => by
        have:=j3 i i1 i2
        unfold oW at this
        simp only [if_true,decide_eq_false_iff_not] at this
        lia
       have nj:0 < j → K r b (j - 1) ≤ r x1:=fun z => by
        have:=j2 (j - 1) (by lia)
        unfold oW at this
        simp only [if_true,decide_eq_true_eq] at this
        lia
       refine cf (fun qj => bX (fun q => wpS_pure ⟨⟨_,rfl⟩,.inl ⟨_,_,rfl,mj.first ua q h0⟩⟩) fun q4 => bX (fun q => wpS_pure ⟨⟨_,rfl⟩,.inl ⟨_,_,rfl,mj.done (.inr q)⟩⟩) fun q5 => ?_) fun qj => ?_
       rotate_left
       have j0:j = nb - 1:=by lia
       subst j0
       replace mj:=m2
       all_goals
        have m3:=mj.a1 ua ub kp ex nj
        refine wpS_bind (dM ex ?_)
        refine bX (fun q => wpS_pure ⟨⟨_,rfl⟩,.inl ⟨_,_,rfl,m3.done (.inl q)⟩⟩) fun q5 => ?_
        exact cf (fun q => wpS_pure ⟨⟨_,rfl⟩,.inr ⟨_,_,_,_,_,_,rfl,m3,by lia,by lia,by lia⟩⟩) fun q => wpS_pure ⟨⟨_,rfl⟩,_,_,_,_,_,_,rfl,m3,by lia,by lia,by lia⟩
    ·rintro z iE ⟨e,mM,mO,out,mg,c1,c2,rfl,m,l1,l2,l3⟩
     exact ⟨e,.inr ⟨mM,mO,out,mg,c1,c2,rfl,m,l1,l2,l3⟩⟩
    ·rintro z iE ⟨⟨g,e⟩,⟨m,y,rfl,gd⟩ | ⟨Ri,Rj,out,mg,c1,c2,rfl,m,l1,l2,l4⟩⟩
     ·exact wpS_pure ⟨⟨g,e⟩,_,_,rfl,gd⟩
     ·dsimp only
      refine wpS_bind (wpS_modify (wpS_pure ⟨⟨mg + 1,?_⟩,_,_,_,_,rfl,m,l1,l2,by lia⟩))
      rw [e]
 ·rintro z aw ⟨e,na,nb,out,mg,rfl,m,l1,l2,l3⟩
  lia
 ·rintro z aw ⟨⟨g,e⟩,m,y,rfl,gd⟩
  rw [e]
  exact wpS_pure (h m g gd)
end
end TS
namespace TS
open PySem PyProof.Rows
theorem qP {α:Type} {X Y:Array α} {L M M' R:List α} (h1:X.toList = L ++ M ++ R) (h2:Y.toList = L ++ M' ++ R) (hl:M'.length = M.length) :
  Y.size = X.size ∧ (∀ j,j < L.length ∨ L.length + M.length ≤ j → Y[j]? = X[j]?) ∧ part Y L.length (L.length + M.length) = M':=by
 refine ⟨?_,fun j hj => ?_,?_⟩
 ·rw [← Array.length_toList,← Array.length_toList,h1,h2]; simp only [List.length_append,hl]
 ·rw [← Array.getElem?_toList,← Array.getElem?_toList,h1,h2]
  rcases hj with hj | hj
  ·rw [List.append_assoc,List.append_assoc,List.getElem?_append_left hj,List.getElem?_append_left hj]
  ·rw [List.getElem?_append_right (by rw [List.length_append]; lia),List.getElem?_append_right (by rw [List.length_append]; lia),List.length_append,List.length_append,hl]
 ·unfold part
  rw [h2,List.append_assoc,List.drop_left,Nat.add_sub_cancel_left,← hl,List.take_left]
section
variable {prog:Program} {w:World} {A:Around} {E:Value → Shared → Prop} {s:Shared} {κ:SortKind} {S:Keyed → Prop} {r:Keyed → Nat} {st:SortSt}
theorem CW {σ:Type} {M:Model} {st aw:σ} {Q:PUnit → σ → Prop} (h:Q ⟨⟩ aw):wpS M A E s (set aw:StateT σ Sem PUnit) Q st:=by
 unfold wpS; rw [StateT.run_set]; exact wpAny_pure ⟨rfl,h⟩
theorem Al (C:xY prog w A s κ S r) {X:Array Keyed} {pend:Array (Nat × Nat × Nat)} {mg i sa na p nb q:Nat} {L1 L2:List (Nat × Nat × Nat)} {Q:Bool → SortSt → Prop} (hS:∀ x ∈ X,S x)
  (hp:pend.toList = L1 ++ (sa,na,p) :: (sa + na,nb,q) :: L2) (hi:i = L1.length) (h1:0 < na) (h2:0 < nb) (hz:sa + na + nb ≤ X.size) (u1:Up r X sa (sa + na)) (u2:Up r X (sa + na) (sa + na + nb))
  (h:∀ Y pd g,Y.toList.Perm X.toList → (∀ j,j < sa ∨ sa + na + nb ≤ j → Y[j]? = X[j]?) → Up r Y sa (sa + na + nb) → pd.toList = L1 ++ (sa,na + nb,p) :: L2 → Q true (SortSt.mk' κ Y pd g none)) :
  wpS (model prog w) A E s (mergeAt' i) Q (SortSt.mk' κ X pend mg none):=by
 have p1:pend[i]? = some (sa,na,p):=by
  rw [← Array.getElem?_toList,hp,hi,List.getElem?_append_right (Nat.le_refl _),Nat.sub_self]; rfl
 have p2:pend[i + 1]? = some (sa + na,nb,q):=by
  rw [← Array.getElem?_toList,hp,hi,List.getElem?_append_right (by lia),show L1.length + 1 - L1.length = 1 by lia]; rfl
 obtain ⟨pd,Rk⟩:∃ pd,pd = (pend.setIfInBounds i (sa,na + nb,p)).eraseIdxIfInBounds (i + 1):=⟨_,rfl⟩
 have Mt:pd.toList = L1 ++ (sa,na + nb,p) :: L2:=by
  rw [Rk,Array.toList_eraseIdxIfInBounds,Array.toList_setIfInBounds,hp,hi,List.set_append_right _ _ (Nat.le_refl _),Nat.sub_self,List.set_cons_zero,List.eraseIdx_append_of_length_le (by lia),show L1.length + 1 - L1.length = 1 by lia]
  rfl
 unfold mergeAt'
 refine wpS_bind (wpS_get ?_)
 dsimp only
 rw [p1,p2]
 dsimp only
 refine wpS_bind (CW ?_)
 rw [← Rk]
 obtain ⟨y,ey,my,ky⟩:=at_of (r:=r) (xs:=X) (i:=sa + na) (by lia)
 refine wpS_bind (dM ey ?_)
 refine wpS_bind (jb C rfl hS (hS y my) (by lia) h1 u1 fun k k1 k2 k3 => ?_)
 dsimp only
 have lo:∀ i,sa ≤ i → i < sa + k → K r X i ≤ K r X (sa + na):=fun i i1 i2 => by
  have:=k2 (i - sa) (by lia)
  rw [show sa + (i - sa) = i by lia] at this
  unfold oW at this
  simp only [Bool.false_eq_true,if_false,Bool.not_eq_true',decide_eq_false_iff_not] at this
  lia
 refine bX (fun z => wpS_pure (h X pd mg (List.Perm.refl _) (fun _ _ => rfl) (fun i j a1 a2 a3 => ?_) Mt)) fun z => ?_
 ·rcases Nat.lt_or_ge j (sa + na) with c | c
  ·exact u1 i j a1 a2 c
  ·rcases Nat.lt_or_ge i (sa + na) with d | d
   ·exact Nat.le_trans (lo i a1 (by lia)) (u2.le (Nat.le_refl _) c a3)
   ·exact u2 i j d a2 a3
 obtain ⟨x,ex,mx,kx⟩:=at_of (r:=r) (xs:=X) (i:=sa + na - 1) (by lia)
 have em:sa + k + (na - k) - 1 = sa + na - 1:=by lia
 rw [em]
 refine wpS_bind (dM ex ?_)
 refine wpS_bind (jb C rfl hS (hS x mx) (by lia) (by lia) u2 fun m m1 m2 m3 => ?_)
 dsimp only
 have up:∀ i,sa + na + m ≤ i → i < sa + na + nb → K r X (sa + na - 1) ≤ K r X i:=fun i i1 i2 => by
  have:=m3 (i - (sa + na)) (by lia) (by lia)
  rw [show sa + na + (i - (sa + na)) = i by lia] at this
  unfold oW at this
  simp only [if_true,decide_eq_false_iff_not] at this
  lia
 refine bX (fun z => wpS_pure (h X pd mg (List.Perm.refl _) (fun _ _ => rfl) (fun i j a1 a2 a3 => ?_) Mt)) fun z2 => ?_
 ·rcases Nat.lt_or_ge j (sa + na) with c | c
  ·exact u1 i j a1 a2 c
  ·rcases Nat.lt_or_ge i (sa + na) with d | d
   ·exact Nat.le_trans (u1.le a1 (by lia) (by lia)) (up j (by lia) a3)
   ·exact u2 i j d a2 a3
 obtain ⟨a,ea⟩:∃ a,a = X.extract (sa + k) (sa + na):=⟨_,rfl⟩
 obtain ⟨b,eb⟩:∃ b,b = X.extract (sa + na) (sa + na + m):=⟨_,rfl⟩
 rw [← ea,← eb]
 have za:a.size = na - k:=by rw [ea,Array.size_extract]; lia
 have zb:b.size = m:=by rw [eb,Array.size_extract]; lia
 have Ka:∀ i,i < a.size → K r a i = K r X (sa + k + i):=fun i hi => by
  unfold K
  rw [ea,Array.getElem?_extract_of_lt (by lia),getElem?_pos X _ (by lia)]
 have Kb:∀ i,i < b.size → K r b i = K r X (sa + na + i):=fun i hi => by
  unfold K
  rw [eb,Array.getElem?_extract_of_lt (by lia),getElem?_pos X _ (by lia)]
 have ua:Up r a 0 a.size:=fun i j _ a2 a3 => by rw [Ka i (by lia),Ka j a3]; exact u1 _ _ (by lia) (by lia) (by lia)
 have ub:Up r b 0 b.size:=fun i j _ a2 a3 => by rw [Kb i (by lia),Kb j a3]; exact u2 _ _ (by lia) (by lia) (by lia)
 have Rm:∀ x ∈ a,S x:=fun x hx => by
  rw [ea,← Array.mem_toList_iff,aN] at hx
  obtain ⟨j,_,_,j3⟩:=bj hx
  exact hS x (Array.mem_of_getElem? j3)
 have Rn:∀ x ∈ b,S x:=fun x hx => by
  rw [eb,← Array.mem_toList_iff,aN] at hx
  obtain ⟨j,_,_,j3⟩:=bj hx
  exact hS x (Array.mem_of_getElem? j3)
 have h0:K r b 0 ≤ K r a 0:=by
  rw [Ka 0 (by lia),Kb 0 (by lia)]
  have:=k3 k (Nat.le_refl _) (by lia)
  unfold oW at this
  simp only [Bool.false_eq_true,if_false,Bool.not_eq_false',decide_eq_true_eq] at this
  rw [Nat.add_zero,Nat.add_zero]
  lia
 have hl:K r b (b.size - 1) ≤ K r a (a.size - 1):=by
  rw [Ka _ (by lia),Kb _ (by lia)]
  have:=m2 (b.size - 1) (by lia)
  unfold oW at this
  simp only [if_true,decide_eq_true_eq] at this
  rw [show sa + k + (a.size - 1) = sa + na - 1 by lia]
  lia
 have fin:∀ (xZ:Array Keyed) (g:Nat),Good r a b xZ → Q true (SortSt.mk' κ (xZ.toList.zipIdx.foldl (fun a (q:Keyed × Nat) => a.setIfInBounds (sa + k + q.2) q.1) X) pd g none):=by
  intro xZ g gd
  obtain ⟨g1,g2⟩:=gd
  have ll:xZ.toList.length = na - k + m:=by
   have:=g1.length_eq
   rw [List.length_append,Array.length_toList (xs:=a),Array.length_toList (xs:=b)] at this
   lia
  obtain ⟨Y,eY⟩:∃ Y,Y = xZ.toList.zipIdx.foldl (fun a (q:Keyed × Nat) => a.setIfInBounds (sa + k + q.2) q.1) X:=⟨_,rfl⟩
  rw [← eY]
  have yl:=Ah (m:=xZ.toList) (sa:=sa + k) (xs:=X) (by lia)
  rw [← eY,xW,xX,ll,show sa + k + (na - k + m) = sa + na + m by lia] at yl
  rw [cw (i:=0) (j:=sa) (k:=sa + k) (by lia) (by lia) (by lia),cw (i:=sa + na + m) (j:=sa + na + nb) (k:=X.size) (by lia) (by lia) (by lia)] at yl
  have xl:X.toList = part X 0 sa ++ part X sa (sa + na + nb) ++ part X (sa + na + nb) X.size:=by
   rw [← cw (by lia) (by lia) (by lia),← cw (by lia) (by lia) (by lia),d5]
  have xm:part X sa (sa + na + nb) = part X sa (sa + k) ++ (a.toList ++ b.toList) ++ part X (sa + na + m) (sa + na + nb):=by
   rw [ea,eb,aN,aN,← cw (by lia) (by lia) (by lia),← cw (by lia) (by lia) (by lia),← cw (by lia) (by lia) (by lia)]
  have Ro:Y.toList = part X 0 sa ++ (part X sa (sa + k) ++ xZ.toList ++ part X (sa + na + m) (sa + na + nb)) ++ part X (sa + na + nb) X.size:=by
   rw [yl]; simp only [List.append_assoc]
  have pm:(part X sa (sa + k) ++ xZ.toList ++ part X (sa + na + m) (sa + na + nb)).Perm (part X sa (sa + na + nb)):=by
   rw [xm]
   exact (List.Perm.append_left _ g1).append_right _
  obtain ⟨r1,r2,r3⟩:=qP xl Ro pm.length_eq
  rw [iT (by lia),iT (by lia),Nat.sub_zero,show sa + (sa + na + nb - sa) = sa + na + nb by lia] at r2 r3
  refine h Y pd g ?_ r2 (Gf ?_ (by lia)) Mt
  ·rw [xl,Ro]
   exact (List.Perm.append_left _ pm).append_right _
  ·rw [r3]
   unfold Bv
   have mem:∀ x ∈ xZ.toList,∃ j,sa + k ≤ j ∧ j < sa + na + m ∧ X[j]? = some x:=fun x hx => by
    have:=g1.mem_iff.mp hx
    rw [ea,eb,aN,aN,← cw (by lia) (by lia) (by lia)] at this
    exact bj this
   rw [List.append_assoc]
   refine List.pairwise_append.mpr ⟨(u1.sub (Nat.le_refl _) (by lia)).kf,List.pairwise_append.mpr ⟨g2,(u2.sub (by lia) (Nat.le_refl _)).kf,fun x hx y hy => ?_⟩,fun x hx y hy => ?_⟩
   ·obtain ⟨i,i1,i2,i3⟩:=mem x hx
    obtain ⟨j,j1,j2,j3⟩:=bj hy
    show r x ≤ r y
    rw [← fj (r:=r) i3,← fj (r:=r) j3]
    rcases Nat.lt_or_ge i (sa + na) with d | d
    ·exact Nat.le_trans (u1.le (by lia) (by lia) (by lia)) (up j j1 j2)
    ·exact u2.le d (by lia) j2
   ·obtain ⟨i,i1,i2,i3⟩:=bj hx
    have:∃ j,sa + k ≤ j ∧ j < sa + na + nb ∧ X[j]? = some y:=by
     rcases List.mem_append.mp hy with hy | hy
     ·obtain ⟨j,j1,j2,j3⟩:=mem y hy
      exact ⟨j,j1,by lia,j3⟩
     ·obtain ⟨j,j1,j2,j3⟩:=bj hy
      exact ⟨j,by lia,by lia,j3⟩
    obtain ⟨j,j1,j2,j3⟩:=this
    show r x ≤ r y
    rw [← fj (r:=r) i3,← fj (r:=r) j3]
    rcases Nat.lt_or_ge j (sa + na) with d | d
    ·exact u1.le i1 (by lia) d
    ·exact Nat.le_trans (lo i i1 i2) (u2.le (Nat.le_refl _) d j2)
 refine cf (fun _ => ?_) fun _ => ?_
 ·exact wpS_bind (Aj C rfl Rm Rn ua ub (by lia) (by lia) h0 hl fun xZ g gd => wpS_bind (wpS_modify (wpS_bind (wpS_get (wpS_pure (fin xZ g gd))))))
 ·exact wpS_bind (Ak C rfl Rm Rn ua ub (by lia) (by lia) h0 hl fun xZ g gd => wpS_bind (wpS_modify (wpS_bind (wpS_get (wpS_pure (fin xZ g gd))))))
end
end TS
namespace TS
open PySem PyProof.Rows
noncomputable def Di (r:Keyed → Nat) (xs:Array Keyed):Prop:=(xs.toList.map r).Nodup
section
variable {r:Keyed → Nat} {X Y:Array Keyed}
theorem Di.to (h:Di r X) (p:Y.toList.Perm X.toList):Di r Y:=(p.map r).nodup_iff.mpr h
theorem Di.ne (h:Di r X) {i j:Nat} (hi:i < X.size) (hj:j < X.size) (e:i ≠ j):K r X i ≠ K r X j:=by
 rw [fj (getElem?_pos X i hi),fj (getElem?_pos X j hj)]
 intro z
 have li:i < (X.toList.map r).length:=by rw [List.length_map,Array.length_toList]; exact hi
 have lj:j < (X.toList.map r).length:=by rw [List.length_map,Array.length_toList]; exact hj
 refine e ((List.getElem_inj (h₀:=li) (h₁:=lj) h).mp ?_)
 rw [List.getElem_map,List.getElem_map,Array.getElem_toList,Array.getElem_toList]
 exact z
theorem D_ {i j k:Nat} (hj:j ≤ X.size):K r (mirror X i j ((j - i) / 2)) k = if i ≤ k ∧ k < j then K r X (i + j - 1 - k) else K r X k:=by
 unfold K
 rw [getElem?_mirror_all hj]
 split <;> rfl
theorem Ea {src d k:Nat} (hs:src < X.size) (hd:d ≤ src):K r (bubble X src d) k = if k = src - d then K r X src else if src - d < k ∧ k ≤ src then K r X (k - 1) else K r X k:=by
 unfold K
 rw [getElem?_bubble hs d hd]
 split
 ·rfl
 ·split <;> rfl
theorem Up.more {lo n:Nat} (h1:1 ≤ n) (h:Up r X lo (lo + n)) (l:K r X (lo + n - 1) ≤ K r X (lo + n)):Up r X lo (lo + (n + 1)):=fun i j a b c => by
 rcases Nat.lt_or_ge j (lo + n) with q | q
 ·exact h i j a b q
 ·rw [show j = lo + n by lia]
  exact Nat.le_trans (h.le a (show i ≤ lo + n - 1 by lia) (by lia)) l
theorem Dn.more {lo n:Nat} (h1:1 ≤ n) (h:Dn r X lo (lo + n)) (l:K r X (lo + n) ≤ K r X (lo + n - 1)):Dn r X lo (lo + (n + 1)):=fun i j a b c => by
 rcases Nat.lt_or_ge j (lo + n) with q | q
 ·exact h i j a b q
 ·rw [show j = lo + n by lia]
  rcases Nat.lt_or_ge i (lo + n - 1) with z | z
  ·exact Nat.le_trans l (h i (lo + n - 1) a z (by lia))
  ·rw [show i = lo + n - 1 by lia]; exact l
theorem Up.one {lo:Nat}:Up r X lo (lo + 1):=fun i j a b c => by lia
end
section
variable {prog:Program} {w:World} {A:Around} {E:Value → Shared → Prop} {s:Shared} {κ:SortKind} {S:Keyed → Prop} {r:Keyed → Nat} {pend:Array (Nat × Nat × Nat)} {mg:Nat} {X:Array Keyed}
theorem x8 (C:xY prog w A s κ S r) {i j:Nat} {Q:Option Bool → SortSt → Prop} (hS:∀ x ∈ X,S x) (hi:i < X.size) (hj:j < X.size) (h:Q (some (decide (K r X i < K r X j))) (SortSt.mk' κ X pend mg none)) :
  wpS (model prog w) A E s (ltAt' i j) Q (SortSt.mk' κ X pend mg none):=by
 obtain ⟨x,ex,mx,kx⟩:=at_of (r:=r) hi
 obtain ⟨y,ey,my,ky⟩:=at_of (r:=r) hj
 rw [kx,ky] at h
 exact Jf C rfl ex ey (hS x mx) (hS y my) h
theorem Gp (C:xY prog w A s κ S r) {lo iU:Nat} {Q:Option Nat → SortSt → Prop} (h1:1 ≤ iU) (hz:lo + iU ≤ X.size) (hS:∀ x ∈ X,S x) (hd:Di r X)
  (h:∀ n Y,1 ≤ n → n ≤ iU → Y.toList.Perm X.toList → (∀ j,j < lo → Y[j]? = X[j]?) → Up r Y lo (lo + n) → Q (some n) (SortSt.mk' κ Y pend mg none)) :
  wpS (model prog w) A E s (countRun' lo iU) Q (SortSt.mk' κ X pend mg none):=by
 unfold countRun'
 refine wpS_bind (wpS_mono (wpS_forRange (I:=fun x z aw => aw = SortSt.mk' κ X pend mg none ∧ z = (none,x) ∧ Up r X lo (lo + x))
  (Q:=fun z aw => aw = SortSt.mk' κ X pend mg none ∧ ∃ n,z = (none,n) ∧ 1 ≤ n ∧ n ≤ iU ∧ Up r X lo (lo + n) ∧ (n < iU → K r X (lo + n) < K r X (lo + n - 1))) ?_ ?_ ⟨rfl,rfl,Up.one⟩) ?_)
 ·rintro x z aw x1 hx ⟨e,rfl,u⟩
  rw [e]
  refine wpS_bind (x8 C hS (by lia) (by lia) ?_)
  dsimp only
  refine cf (fun q => wpS_pure ⟨rfl,x,rfl,x1,by lia,u,fun _ => of_decide_eq_true q⟩) fun q => wpS_pure ⟨rfl,rfl,u.more x1 ?_⟩
  have:=of_decide_eq_false (by simpa using q:decide (K r X (lo + x) < K r X (lo + x - 1)) = false)
  lia
 ·rintro z aw ⟨e,rfl,u⟩
  rw [show max 1 iU = iU by lia] at u ⊢
  exact ⟨e,iU,rfl,h1,Nat.le_refl _,u,fun q => absurd q (Nat.lt_irrefl _)⟩
 ·rintro z aw ⟨e,n,rfl,n1,n2,u,f⟩
  rw [e]
  dsimp only
  refine bX (fun q => wpS_pure (h n X n1 n2 (List.Perm.refl _) (fun _ _ => rfl) u)) fun q => ?_
  have f':=f (by lia)
  refine cf (fun g => ?_) fun g => ?_
  ·refine wpS_bind (x8 C hS (by lia) (by lia) ?_)
   dsimp only
   have ne:=hd.ne (i:=lo) (j:=lo + n - 1) (by lia) (by lia) (by lia)
   have le:=u.le (Nat.le_refl _) (show lo ≤ lo + n - 1 by lia) (by lia)
   rw [if_pos (decide_eq_true (by lia))]
   exact wpS_pure (h n X n1 n2 (List.Perm.refl _) (fun _ _ => rfl) u)
  ·have:n = 1:=by lia
   subst this
   refine wpS_bind (wpS_lift (wpAny_rule ⟨rfl,?_⟩))
   refine wpS_bind (wpS_mono (wpS_forRange (I:=fun x z aw => aw = SortSt.mk' κ X pend mg none ∧ z = (none,x,0) ∧ Dn r X lo (lo + x))
    (Q:=fun z aw => aw = SortSt.mk' κ X pend mg none ∧ ∃ n,z = (none,n,0) ∧ 2 ≤ n ∧ n ≤ iU ∧ Dn r X lo (lo + n)) ?_ ?_ ⟨rfl,rfl,?_⟩) ?_)
   ·rintro x z aw x1 hx ⟨e,rfl,u⟩
    rw [e]
    dsimp only
    refine wpS_bind (x8 C hS (by lia) (by lia) ?_)
    dsimp only
    refine cf (fun q => ?_) fun q => ?_
    ·rw [if_neg (Nat.lt_irrefl _)]
     have:=of_decide_eq_true q
     exact wpS_pure ⟨rfl,rfl,u.more (by lia) (by lia)⟩
    ·refine wpS_bind (x8 C hS (by lia) (by lia) ?_)
     dsimp only
     have ne:=hd.ne (i:=lo + x) (j:=lo + x - 1) (by lia) (by lia) (by lia)
     have:=of_decide_eq_false (by simpa using q:decide (K r X (lo + x) < K r X (lo + x - 1)) = false)
     rw [if_pos (decide_eq_true (by lia))]
     exact wpS_pure ⟨rfl,x,rfl,by lia,by lia,u⟩
   ·rintro z aw ⟨e,rfl,u⟩
    rw [show max (1 + 1) iU = iU by lia] at u ⊢
    exact ⟨e,iU,rfl,by lia,Nat.le_refl _,u⟩
   ·intro i j a b c
    rw [show i = lo + 1 - 1 by lia,show j = lo + 1 by lia]
    lia
   ·rintro z aw ⟨e,n,rfl,n1,n2,dn⟩
    rw [e]
    dsimp only
    rw [if_neg (Nat.lt_irrefl _)]
    obtain ⟨Y,eY⟩:∃ Y,Y = mirror X lo (lo + n) ((lo + n - lo) / 2):=⟨_,rfl⟩
    have zY:Y.size = X.size:=by rw [eY]; exact mirror_size _ _ _ _
    have pY:Y.toList.Perm X.toList:=by rw [eY]; exact Array.perm_iff_toList_perm.mp (mirror_perm _ _ _ _)
    have sY:∀ x ∈ Y,S x:=fun x hx => hS x (Array.mem_toList_iff.mp (pY.mem_iff.mp (Array.mem_toList_iff.mpr hx)))
    have bY:∀ j,j < lo → Y[j]? = X[j]?:=fun j hj => by
     rw [eY,getElem?_mirror_all (by lia),if_neg (by lia)]
    have uY:Up r Y lo (lo + n):=fun i j a b c => by
     rw [eY,D_ (by lia),D_ (by lia),if_pos (by lia),if_pos (by lia)]
     exact dn _ _ (by lia) (by lia) (by lia)
    refine wpS_bind (wpS_modify ?_)
    show wpS _ _ _ _ _ _ (SortSt.mk' κ (mirror X lo (lo + n) ((lo + n - lo) / 2)) pend mg none)
    rw [← eY]
    refine wpS_bind (wpS_mono (wpS_forRange (I:=fun x z aw => aw = SortSt.mk' κ Y pend mg none ∧ z = (none,x) ∧ Up r Y lo (lo + x))
     (Q:=fun z aw => aw = SortSt.mk' κ Y pend mg none ∧ ∃ n,z = (none,n) ∧ 1 ≤ n ∧ n ≤ iU ∧ Up r Y lo (lo + n)) ?_ ?_ ⟨rfl,rfl,uY⟩) ?_)
    ·rintro x z aw x1 hx ⟨e,rfl,u⟩
     rw [e]
     refine wpS_bind (x8 C sY (by lia) (by lia) ?_)
     dsimp only
     refine cf (fun q => wpS_pure ⟨rfl,x,rfl,by lia,by lia,u⟩) fun q => wpS_pure ⟨rfl,rfl,u.more (by lia) ?_⟩
     have:=of_decide_eq_false (by simpa using q:decide (K r Y (lo + x) < K r Y (lo + x - 1)) = false)
     lia
    ·rintro z aw ⟨e,rfl,u⟩
     rw [show max n iU = iU by lia] at u ⊢
     exact ⟨e,iU,rfl,h1,Nat.le_refl _,u⟩
    ·rintro z aw ⟨e,n,rfl,n1,n2,u⟩
     rw [e]
     exact wpS_pure (h n Y n1 n2 pY bY u)
theorem Mu (C:xY prog w A s κ S r) {lo n ok:Nat} {Q:Bool → SortSt → Prop} (h1:1 ≤ ok) (hz:lo + n ≤ X.size) (hS:∀ x ∈ X,S x) (u:Up r X lo (lo + ok))
  (h:∀ Y,Y.toList.Perm X.toList → (∀ j,j < lo → Y[j]? = X[j]?) → Up r Y lo (lo + n) → Q true (SortSt.mk' κ Y pend mg none)) :
  wpS (model prog w) A E s (binarySort' lo n ok) Q (SortSt.mk' κ X pend mg none):=by
 unfold binarySort'
 refine wpS_bind (wpS_mono (wpS_forRange (I:=fun k z aw => z = (none,()) ∧ ∃ Y,aw = SortSt.mk' κ Y pend mg none ∧ Y.toList.Perm X.toList ∧ (∀ j,j < lo → Y[j]? = X[j]?) ∧ Up r Y lo (lo + k))
  (Q:=fun z aw => z = (none,()) ∧ ∃ Y,aw = SortSt.mk' κ Y pend mg none ∧ Y.toList.Perm X.toList ∧ (∀ j,j < lo → Y[j]? = X[j]?) ∧ Up r Y lo (lo + n)) ?_ ?_ ⟨rfl,X,rfl,List.Perm.refl _,fun _ _ => rfl,by rw [show max ok 1 = ok by lia]; exact u⟩) ?_)
 ·rintro k z aw k1 hk ⟨rfl,Y,e,pY,bY,uY⟩
  rw [e]
  have zY:Y.size = X.size:=by rw [← Array.length_toList,pY.length_eq,Array.length_toList]
  have sY:∀ x ∈ Y,S x:=fun x hx => hS x (Array.mem_toList_iff.mp (pY.mem_iff.mp (Array.mem_toList_iff.mpr hx)))
  refine wpS_bind (wpS_mono (wpS_forRange (I:=fun x z aw => aw = SortSt.mk' κ Y pend mg none ∧ ∃ l m,z = (none,l,m) ∧ l ≤ m ∧ m ≤ k ∧ m - l + x ≤ k ∧ (∀ i,i < l → K r Y (lo + i) ≤ K r Y (lo + k)) ∧ ∀ i,m ≤ i → i < k → K r Y (lo + k) ≤ K r Y (lo + i))
   (Q:=fun z aw => aw = SortSt.mk' κ Y pend mg none ∧ ∃ l,z = (none,l,l) ∧ l ≤ k ∧ (∀ i,i < l → K r Y (lo + i) ≤ K r Y (lo + k)) ∧ ∀ i,l ≤ i → i < k → K r Y (lo + k) ≤ K r Y (lo + i)) ?_ ?_ ⟨rfl,0,k,rfl,Nat.zero_le _,Nat.le_refl _,by lia,fun i q => absurd q (Nat.not_lt_zero _),fun i q1 q2 => absurd q1 (by lia)⟩) ?_)
  ·rintro x z aw _ hx ⟨e,l,m,rfl,g1,g2,g3,g4,g5⟩
   rw [e]
   dsimp only
   refine cf (fun q => ?_) fun q => ?_
   ·have:l = m:=by lia
    subst this
    exact wpS_pure ⟨rfl,l,rfl,g2,g4,g5⟩
   ·refine wpS_bind (x8 C sY (by lia) (by lia) ?_)
    dsimp only
    refine cf (fun q => ?_) fun q => ?_
    ·have:=of_decide_eq_true q
     exact wpS_pure ⟨rfl,l,(l + m) / 2,rfl,by lia,by lia,by lia,g4,fun i i1 i2 => Nat.le_trans (Nat.le_of_lt this) (uY.le (by lia) (by lia) (by lia))⟩
    ·have:=of_decide_eq_false (by simpa using q:decide (K r Y (lo + k) < K r Y (lo + (l + m) / 2)) = false)
     exact wpS_pure ⟨rfl,(l + m) / 2 + 1,m,rfl,by lia,by lia,by lia,fun i i1 => Nat.le_trans (uY.le (by lia) (show lo + i ≤ lo + (l + m) / 2 by lia) (by lia)) (by lia),g5⟩
  ·rintro z aw ⟨e,l,m,rfl,g1,g2,g3,g4,g5⟩
   have:l = m:=by lia
   subst this
   exact ⟨e,l,rfl,g2,g4,g5⟩
  ·rintro z aw ⟨e,l,rfl,g2,g4,g5⟩
   rw [e]
   dsimp only
   refine wpS_bind (wpS_modify (wpS_pure ⟨rfl,bubble Y (lo + k) (lo + k - (lo + l)),rfl,?_,fun j hj => ?_,?_⟩))
   ·exact (Array.perm_iff_toList_perm.mp (bubble_perm _ _ _)).trans pY
   ·rw [getElem?_bubble (by lia) _ (by lia),if_neg (by lia),if_neg (by lia)]
    exact bY j hj
   ·intro i j a b c
    rw [Ea (by lia) (by lia),Ea (by lia) (by lia),show lo + k - (lo + k - (lo + l)) = lo + l by lia]
    by_cases c1:i = lo + l
    ·rw [if_pos c1,if_neg (by lia),if_pos (by lia)]
     have:=g5 (j - 1 - lo) (by lia) (by lia)
     rwa [show lo + (j - 1 - lo) = j - 1 by lia] at this
    ·rw [if_neg c1]
     by_cases c2:j = lo + l
     ·rw [if_pos c2,if_neg (by lia)]
      have:=g4 (i - lo) (by lia)
      rwa [show lo + (i - lo) = i by lia] at this
     ·rw [if_neg c2]
      by_cases c3:lo + l < i
      ·rw [if_pos (by lia),if_pos (by lia)]
       exact uY.le (by lia) (by lia) (by lia)
      ·rw [if_neg (by lia)]
       by_cases c4:lo + l < j
       ·rw [if_pos (by lia)]
        exact uY.le a (by lia) (by lia)
       ·rw [if_neg (by lia)]
        exact uY.le a (by lia) (by lia)
 ·rintro z aw ⟨rfl,Y,e,pY,bY,uY⟩
  exact ⟨rfl,Y,e,pY,bY,uY.sub (Nat.le_refl _) (by lia)⟩
 ·rintro z aw ⟨rfl,Y,e,pY,bY,uY⟩
  rw [e]
  exact wpS_pure (h Y pY bY uY)
end
end TS
namespace TS
open PySem PyProof.Rows
section
variable {r:Keyed → Nat} {X Y:Array Keyed}
noncomputable def Runs (r:Keyed → Nat) (X:Array Keyed):List (Nat × Nat × Nat) → Nat → Nat → Prop
 | [],lo,hi => lo = hi
 | q :: t,lo,hi => q.1 = lo ∧ 0 < q.2.1 ∧ Up r X lo (lo + q.2.1) ∧ Runs r X t (lo + q.2.1) hi
theorem gZ:∀ {L1 L2:List (Nat × Nat × Nat)} {lo hi:Nat},Runs r X (L1 ++ L2) lo hi ↔ ∃ m,Runs r X L1 lo m ∧ Runs r X L2 m hi
 | [],L2,lo,hi => ⟨fun h => ⟨lo,rfl,h⟩,fun ⟨m,e,h⟩ => by cases e; exact h⟩
 | q :: L1,L2,lo,hi => by
  constructor
  ·rintro ⟨a,b,c,d⟩
   obtain ⟨m,h1,h2⟩:=gZ.mp d
   exact ⟨m,⟨a,b,c,h1⟩,h2⟩
  ·rintro ⟨m,⟨a,b,c,d⟩,h2⟩
   exact ⟨a,b,c,gZ.mpr ⟨m,d,h2⟩⟩
theorem Runs.len:∀ {L:List (Nat × Nat × Nat)} {lo hi:Nat},Runs r X L lo hi → lo + L.length ≤ hi
 | [],lo,hi,h => by cases h; exact Nat.le_refl _
 | q :: L,lo,hi,⟨a,b,c,d⟩ => by
  have:=d.len
  rw [List.length_cons]
  lia
theorem Runs.to:∀ {L:List (Nat × Nat × Nat)} {lo hi:Nat},Runs r X L lo hi → (∀ j,lo ≤ j → j < hi → Y[j]? = X[j]?) → Runs r Y L lo hi
 | [],lo,hi,h,_ => h
 | q :: L,lo,hi,⟨a,b,c,d⟩,e => by
  have l:=d.len
  refine ⟨a,b,fun i j h1 h2 h3 => ?_,d.to fun j h1 h2 => e j (by lia) h2⟩
  unfold K
  rw [e i h1 (by lia),e j (by lia) (by lia)]
  exact c i j h1 h2 h3
theorem Up.to {lo hi:Nat} (h:Up r X lo hi) (e:∀ j,lo ≤ j → Y[j]? = X[j]?):Up r Y lo hi:=fun i j a b c => by
 unfold K
 rw [e i a,e j (by lia)]
 exact h i j a b c
theorem Runs.pw:∀ {L L':List (Nat × Nat × Nat)} {lo hi:Nat},Runs r X L lo hi → L'.map (fun q => (q.1,q.2.1)) = L.map (fun q => (q.1,q.2.1)) → Runs r X L' lo hi
 | [],[],lo,hi,h,_ => h
 | [],_ :: _,_,_,_,e => by cases e
 | _ :: _,[],_,_,_,e => by cases e
 | q :: L,q' :: L',lo,hi,⟨a,b,c,d⟩,e => by
  injection e with e1 e2
  injection e1 with e3 e4
  exact ⟨e3.trans a,by rw [e4]; exact b,by rw [e4]; exact c,by rw [e4]; exact d.pw e2⟩
theorem u6 {L:Array (Nat × Nat × Nat)} {i v:Nat}:(L.modify i fun q => (q.1,q.2.1,v)).toList.map (fun q => (q.1,q.2.1)) = L.toList.map (fun q => (q.1,q.2.1)):=by
 apply List.ext_getElem?
 intro j
 rw [List.getElem?_map,List.getElem?_map,Array.getElem?_toList,Array.getElem?_toList,Array.getElem?_modify]
 split
 ·rw [Option.map_map]; rfl
 ·rfl
theorem Gq {α:Type} {l:List α} {i:Nat} (h:i + 1 < l.length):∃ L1 a b L2,l = L1 ++ a :: b :: L2 ∧ i = L1.length:=by
 refine ⟨l.take i,l[i],l[i + 1],l.drop (i + 2),?_,by rw [List.length_take]; lia⟩
 have e1:l.drop i = l[i] :: l.drop (i + 1):=List.drop_eq_getElem_cons (by lia)
 have e2:l.drop (i + 1) = l[i + 1] :: l.drop (i + 2):=List.drop_eq_getElem_cons h
 rw [← e2,← e1,List.take_append_drop]
end
section
variable {prog:Program} {w:World} {A:Around} {E:Value → Shared → Prop} {s:Shared} {κ:SortKind} {S:Keyed → Prop} {r:Keyed → Nat} {pend:Array (Nat × Nat × Nat)} {mg:Nat} {X:Array Keyed}
theorem wB (C:xY prog w A s κ S r) {i hi:Nat} {Q:Bool → SortSt → Prop} (hS:∀ x ∈ X,S x) (R:Runs r X pend.toList 0 hi) (hz:hi ≤ X.size) (Ky:i + 1 < pend.size)
  (h:∀ Y pd g,Y.toList.Perm X.toList → (∀ j,hi ≤ j → Y[j]? = X[j]?) → pd.size + 1 = pend.size → Runs r Y pd.toList 0 hi → Q true (SortSt.mk' κ Y pd g none)) :
  wpS (model prog w) A E s (mergeAt' i) Q (SortSt.mk' κ X pend mg none):=by
 obtain ⟨L1,⟨sa,na,p⟩,⟨sb,nb,q⟩,L2,e,ei⟩:=Gq (l:=pend.toList) (i:=i) (by rw [Array.length_toList]; exact Ky)
 rw [e] at R
 obtain ⟨m,R1,a1,a2,a3,b1,b2,b3,R2⟩:=gZ.mp R
 dsimp only at a1 a2 a3 b1 b2 b3 R2
 subst a1
 subst b1
 have l1:=R1.len
 have l2:=R2.len
 refine Al C hS e ei a2 b2 (by lia) a3 b3 fun Y pd g y1 y2 y3 y4 => h Y pd g y1 (fun j hj => y2 j (.inr (by lia))) ?_ ?_
 ·rw [← Array.length_toList,← Array.length_toList,e,y4]
  simp only [List.length_append,List.length_cons]
  lia
 ·rw [y4]
  exact gZ.mpr ⟨sa,R1.to fun j h1 h2 => y2 j (.inl h2),rfl,by show 0 < na + nb; lia,by show Up r Y sa (sa + (na + nb)); rw [← Nat.add_assoc]; exact y3,by
   show Runs r Y L2 (sa + (na + nb)) hi
   rw [← Nat.add_assoc]
   exact R2.to fun j h1 h2 => y2 j (.inr h1)⟩
theorem Jj (C:xY prog w A s κ S r) {Q:Unit → SortSt → Prop} (hS:∀ x ∈ X,S x) (hd:Di r X) (h2:2 ≤ X.size)
  (h:∀ Y pd g,Y.toList.Perm X.toList → Up r Y 0 X.size → Q () (SortSt.mk' κ Y pd g none)) :
  wpS (model prog w) A E s sortRuns' Q (SortSt.mk' κ X #[] mg none):=by
 unfold sortRuns'
 refine wpS_bind (wpS_get ?_)
 dsimp only
 refine wpS_bind (wpS_mono (wpS_forRange (I:=fun x z aw => ∃ lo Y pd g,z = (none,lo) ∧ aw = SortSt.mk' κ Y pd g none ∧ Y.toList.Perm X.toList ∧ Runs r Y pd.toList 0 lo ∧ x ≤ lo ∧ lo ≤ X.size)
  (Q:=fun z aw => ∃ Y pd g,z = (none,X.size) ∧ aw = SortSt.mk' κ Y pd g none ∧ Y.toList.Perm X.toList ∧ Runs r Y pd.toList 0 X.size) ?_ ?_ ⟨0,X,#[],mg,rfl,rfl,List.Perm.refl _,rfl,Nat.le_refl _,Nat.zero_le _⟩) ?_)
 ·rintro x z aw _ hx ⟨lo,Y,pd,g,rfl,e,pY,R,l1,l2⟩
  rw [e]
  dsimp only
  have zY:Y.size = X.size:=by rw [← Array.length_toList,pY.length_eq,Array.length_toList]
  have sY:∀ x ∈ Y,S x:=fun x hx => hS x (Array.mem_toList_iff.mp (pY.mem_iff.mp (Array.mem_toList_iff.mpr hx)))
  refine cf (fun q => ?_) fun q => ?_
  ·have:lo = X.size:=by lia
   subst this
   exact wpS_pure ⟨Y,pd,g,rfl,rfl,pY,R⟩
  refine wpS_bind (Gp C (by lia) (by lia) sY (hd.to pY) fun n Y1 n1 n2 p1 b1 u1 => ?_)
  dsimp only
  have Kz:∀ x ∈ Y1,S x:=fun x hx => sY x (Array.mem_toList_iff.mp (p1.mem_iff.mp (Array.mem_toList_iff.mpr hx)))
  have To:Y1.size = X.size:=by rw [← Array.length_toList,p1.length_eq,Array.length_toList,zY]
  have R1:Runs r Y1 pd.toList 0 lo:=R.to fun j _ h => b1 j h
  replace p1:=p1.trans pY
  refine cf (fun c => wpS_bind (wpS_lift (wpAny_rule ⟨rfl,wpS_bind (Mu C n1 (by lia) Kz u1 fun Y2 p2 b2 u2 => ?_)⟩))) fun c => ?_
  have Tp:∀ x ∈ Y2,S x:=fun x hx => Kz x (Array.mem_toList_iff.mp (p2.mem_iff.mp (Array.mem_toList_iff.mpr hx)))
  replace p2:=p2.trans p1
  have R2:Runs r Y2 pd.toList 0 lo:=R1.to fun j _ h => b2 j h
  simp only [Bool.not_true,Bool.false_eq_true,if_false]
  have m0:0 < min (X.size - lo) (minRun' X.size X.size 0) ∧ lo + min (X.size - lo) (minRun' X.size X.size 0) ≤ X.size:=by
   replace c:n < minRun' X.size X.size 0:=c
   lia
  rotate_left
  obtain ⟨Y2,e2⟩:∃ Y2,Y2 = Y1:=⟨_,rfl⟩
  rw [← e2] at R1 u1 p1 Kz To ⊢
  have R2:=R1
  have u2:=u1
  have p2:=p1
  have Tp:=Kz
  have m0:0 < n ∧ lo + n ≤ X.size:=by lia
  all_goals
   refine wpS_bind (wpS_get ?_)
   dsimp only
   cases hb:pd.back? with
   | none =>
    refine wpS_bind (wpS_modify (wpS_pure ⟨_,Y2,_,_,rfl,rfl,p2,?_,?_,m0.2⟩))
    ·show Runs r Y2 (Array.push _ _).toList 0 _
     rw [Array.toList_push]
     exact gZ.mpr ⟨lo,R2,rfl,m0.1,u2,rfl⟩
    ·exact Nat.le_trans (Nat.succ_le_succ l1) (Nat.add_le_add_left m0.1 lo)
   | some q =>
    obtain ⟨s1,n1,v⟩:=q
    dsimp only
    refine wpS_bind (wpS_mono (wpS_forRange (I:=fun _ z aw => z = (none,()) ∧ ∃ Y pd g,aw = SortSt.mk' κ Y pd g none ∧ Y.toList.Perm X.toList ∧ (∀ j,lo ≤ j → Y[j]? = Y2[j]?) ∧ Runs r Y pd.toList 0 lo)
     (Q:=fun z aw => z = (none,()) ∧ ∃ Y pd g,aw = SortSt.mk' κ Y pd g none ∧ Y.toList.Perm X.toList ∧ (∀ j,lo ≤ j → Y[j]? = Y2[j]?) ∧ Runs r Y pd.toList 0 lo) ?_ ?_ ⟨rfl,Y2,pd,g,rfl,p2,fun _ _ => rfl,R2⟩) ?_)
    ·rintro x z aw _ _ ⟨rfl,Y,pd,g,e,pY,bY,R⟩
     rw [e]
     have zY:Y.size = X.size:=by rw [← Array.length_toList,pY.length_eq,Array.length_toList]
     refine wpS_bind (wpS_get ?_)
     dsimp only
     by_cases c2:pd.size > 1
     ·rw [if_pos c2]
      obtain ⟨q,eq⟩:∃ q,pd[pd.size - 2]? = some q:=⟨_,getElem?_pos pd _ (by lia)⟩
      rw [eq]
      obtain ⟨a1,a2,a3⟩:=q
      dsimp only
      refine cf (fun _ => wpS_pure ⟨rfl,Y,pd,g,rfl,pY,bY,R⟩) fun _ => ?_
      refine wpS_bind (wB C (fun x hx => hS x (Array.mem_toList_iff.mp (pY.mem_iff.mp (Array.mem_toList_iff.mpr hx)))) R (by lia) (by lia) fun Y3 Mv g3 y1 y2 y3 y4 => ?_)
      exact wpS_pure ⟨rfl,Y3,Mv,g3,rfl,y1.trans pY,fun j hj => (y2 j hj).trans (bY j hj),y4⟩
     ·rw [if_neg c2]
      exact wpS_pure ⟨rfl,Y,pd,g,rfl,pY,bY,R⟩
    ·exact fun _ _ h => h
    ·rintro z aw ⟨rfl,Y,pd,g,e,pY,bY,R⟩
     rw [e]
     dsimp only
     refine wpS_bind (wpS_modify (wpS_bind (wpS_modify (wpS_pure ⟨_,Y,_,_,rfl,rfl,pY,?_,?_,m0.2⟩))))
     ·show Runs r Y (Array.push _ _).toList 0 _
      rw [Array.toList_push]
      exact gZ.mpr ⟨lo,R.pw u6,rfl,m0.1,u2.to bY,rfl⟩
     ·exact Nat.le_trans (Nat.succ_le_succ l1) (Nat.add_le_add_left m0.1 lo)
 ·rintro z aw ⟨lo,Y,pd,g,rfl,e,pY,R,l1,l2⟩
  have:lo = X.size:=by lia
  subst this
  exact ⟨Y,pd,g,rfl,e,pY,R⟩
 ·rintro z aw ⟨Y,pd,g,rfl,e,pY,R⟩
  rw [e]
  dsimp only
  refine wpS_bind (wpS_mono (wpS_forRange (I:=fun x z aw => z = (none,()) ∧ ∃ Y pd g,aw = SortSt.mk' κ Y pd g none ∧ Y.toList.Perm X.toList ∧ Runs r Y pd.toList 0 X.size ∧ (pd.size ≤ 1 ∨ pd.size + x ≤ X.size))
   (Q:=fun z aw => z = (none,()) ∧ ∃ Y pd g,aw = SortSt.mk' κ Y pd g none ∧ Y.toList.Perm X.toList ∧ Runs r Y pd.toList 0 X.size ∧ pd.size ≤ 1) ?_ ?_ ⟨rfl,Y,pd,g,rfl,pY,R,.inr (by have:=R.len; rw [Array.length_toList] at this; lia)⟩) ?_)
  ·rintro x z aw _ hx ⟨rfl,Y,pd,g,e,pY,R,l⟩
   rw [e]
   have zY:Y.size = X.size:=by rw [← Array.length_toList,pY.length_eq,Array.length_toList]
   refine wpS_bind (wpS_get ?_)
   dsimp only
   refine cf (fun c => wpS_pure ⟨rfl,Y,pd,g,rfl,pY,R,c⟩) fun c => ?_
   refine wpS_bind (wB C (fun x hx => hS x (Array.mem_toList_iff.mp (pY.mem_iff.mp (Array.mem_toList_iff.mpr hx)))) R (by lia) ?_ fun Y3 Mv g3 y1 y2 y3 y4 => ?_)
   ·have Tq:∀ {c:Prop} [Decidable c] {a b n:Nat},a + 1 < n → b + 1 < n → (if c then a else b) + 1 < n:=by
     intro c _ a b n h1 h2
     split <;> assumption
    exact Tq (by lia) (by lia)
   ·exact wpS_pure ⟨rfl,Y3,Mv,g3,rfl,y1.trans pY,y4,by lia⟩
  ·rintro z aw ⟨rfl,Y,pd,g,e,pY,R,l⟩
   exact ⟨rfl,Y,pd,g,e,pY,R,by lia⟩
  ·rintro z aw ⟨rfl,Y,pd,g,e,pY,R,l⟩
   rw [e]
   refine wpS_pure (h Y pd g pY ?_)
   obtain ⟨q,eq⟩:∃ q,pd.toList = [q]:=by
    match z:pd.toList with
    | [] =>
     rw [z] at R
     replace R:0 = X.size:=R
     lia
    | [q] => exact ⟨q,rfl⟩
    | _ :: _ :: _ => rw [← Array.length_toList,z] at l; simp at l
   rw [eq] at R
   obtain ⟨_,_,u,e2⟩:=R
   replace e2:0 + q.2.1 = X.size:=e2
   rw [e2] at u
   exact u
end
end TS
namespace SO
open PySem PySem.W PyProof.Rows
structure Ord (L:Nat → Nat → Bool) (n:Nat):Prop where
 tr:∀ i j k,i < n → j < n → k < n → L i j = true → L j k = true → L i k = true
 oq:∀ i j,i < n → j < n → i ≠ j → L i j = false → L j i = true
 Tr:∀ i j,i < n → j < n → L i j = true → L j i = false
section
variable {n:Nat} {p:Array Nat}
end
section
variable {L:Nat → Nat → Bool} {n:Nat} (O:Ord L n)
include O
end
end SO
namespace SO
open PySem PySem.W PyProof.Rows
noncomputable def jC (h:Heap) (d:Addr) (es:Array DictEntry) (ep:Nat):Prop:=∃ o,h.get? d = some o ∧ o.cls = .type "dict" ∧ o.data = .dict es ep
section
variable {prog:Program} {w:World} {A:Around} {E:Value → Shared → Prop} {s:Shared} {d it:Addr} {es:Array DictEntry} {ep i:Nat}
theorem jC.ty (x:jC s.heap d es ep):s.TypeIs (.ref d) "dict":=by
 obtain ⟨o,ho,hc,_⟩:=x
 exact ⟨o,ho,hc⟩
theorem jC.lt {h:Heap} (x:jC h d es ep):d < h.objs.size:=by
 obtain ⟨o,ho,_⟩:=x
 exact Heap.lt_size ho
theorem jC.to {h h':Heap} (x:jC h d es ep) (hk:∀ o,h.get? d = some o → h'.get? d = some o):jC h' d es ep:=by
 obtain ⟨o,ho,r⟩:=x
 exact ⟨o,hk o ho,r⟩
theorem Am {Q:Value → Shared → Prop} (hd:(d == sysModules) = false) (x:jC s.heap d es ep)
  (hQ:Q (.ref s.heap.objs.size) { s with heap:=s.heap.push { cls:=.type "dict_keyiterator",data:=.fields #[.ref d,.int 0 0,.int es.size 0,.int ep 0] } }):wpAny (model prog w) A (pyIter (.ref d)) Q E s:=by
 obtain ⟨o,go,gc,gd⟩:=id x
 have T:=x.ty
 refine wpAny_pyIter_slot T PySem.F.slot_dict_iter (wpAny_call_entry PySem.F.slot_dict_iter T PySem.F.entry_dict_iter ?_ (PySem.F.args_dict_iter_1 _))
 unfold Builtin.«dict.__iter__»; refine wpAny_bind ?_
 unfold Builtin.Dict.dictSlotNone; refine wpAny_bind (wpAny_notOrdered_dict T ?_)
 show wpAny _ _ (pure (Value.ref d)) _ _ s; refine wpAny_pure ?_
 show wpAny _ _ (Builtin.Dict.showsAll d >>= _) _ _ s; unfold Builtin.Dict.showsAll
 rw [if_neg (by rw [hd]; exact Bool.false_ne_true)]; refine wpAny_bind (wpAny_pure ?_)
 refine wpAny_bind (wpAny_dictEntries go gd ?_)
 refine wpAny_bind (wpAny_dictEpoch go gd ?_)
 refine wpAny_bind (wpAny_newObj_type (wpAny_pure ⟨_,rfl,"dict_keyiterator",_,⟨_,Heap.get?_push_size _ rfl,rfl⟩,PySem.F.slot_dict_keyiterator_next.lookup,?_⟩))
 simpa [rawInt] using hQ
theorem An {Q:Option Value → Shared → Prop} (hit:s.heap.IsKeyIter it d i es.size ep) (x:jC s.heap d es ep) (hi:i < es.size)
  (hQ:∀ h',h'.IsKeyIter it d (i + 1) es.size ep → Heap.SameBut it s.heap h' → Q (some es[i].key) { s with heap:=h' }):wpAny (model prog w) A (pyNext (.ref it)) Q E s:=by
 obtain ⟨o,ho,hc,hf⟩:=id hit
 obtain ⟨od,go,gc,gd⟩:=id x
 have T:=hit.typeIs
 unfold pyNext
 refine wpAny_bind (wpAny_attempt (wpAny_callSpecial?_slot (name:=Str.ofString "__next__") T PySem.F.slot_dict_keyiterator_next (wpAny_call_entry PySem.F.slot_dict_keyiterator_next T PySem.F.entry_dict_keyiterator_next ?_ (PySem.F.args_dict_keyiterator_next_1 _))))
 refine wpAny_bind (wpAny_pure ?_); refine wpAny_bind ?_; refine wpAny_bind ?_
 first | refine wpAny_bind (wpAny_typeNameOfWhole_keyiter T (wpAny_pure ?_)) | refine wpAny_bind (wpAny_typeNameOf_keyiter T (wpAny_pure ?_))
 refine wpAny_bind (wpAny_fieldsOf ho hf ?_)
 have no:Builtin.Dict_items.ownsTuple "dict_keyiterator" = false:=by decide
 simp only [no,Bool.false_eq_true,if_false]
 show wpAny _ _ (if (Value.ref d == Value.none) = true then _ else _) _ _ s; rw [if_neg (show ¬ ((Value.ref d == Value.none) = true) from Bool.false_ne_true)]
 refine wpAny_bind (wpAny_pure ?_); refine wpAny_bind (wpAny_dictEntries go gd ?_)
 rw [if_neg (by simp)]; refine wpAny_bind (wpAny_pure ?_)
 refine wpAny_bind (wpAny_dictEpoch go gd ?_); rw [if_neg (by simp)]; refine wpAny_pure ?_
 simp only [show ¬ ((i:Int) < 0) from by lia,if_false,Int.toNat_natCast,Array.getElem?_eq_getElem hi]; refine wpAny_bind ?_
 first | refine wpAny_bind (wpAny_typeNameOfWhole_keyiter T (wpAny_pure ?_)) | refine wpAny_bind (wpAny_typeNameOf_keyiter T (wpAny_pure ?_))
 refine wpAny_bind (wpAny_isOneOf_keyiter T ?_)
 show wpAny _ _ (setField (.ref it) 1 (rawInt ((i:Int) + 1)) >>= _) _ _ s; refine wpAny_bind (wpAny_setField ho hf (by simp) ?_)
 have go2:(s.heap.update it (Obj.mapFields (·.setIfInBounds 1 (rawInt ((i:Int) + 1))))).IsKeyIter it d (i + 1) es.size ep :=
  ⟨_,Heap.get?_update_self _ ho (Obj.isFreed_of_fields (Obj.data_mapFields hf _)),(Obj.cls_mapFields ..).trans hc,by rw [Obj.data_mapFields hf]; simp [rawInt]⟩
 refine wpAny_bind (wpAny_holding ?_)
 refine wpAny_bind (wpAny_isOneOf_keyiter (s:={ s with heap:=s.heap.update it (Obj.mapFields (·.setIfInBounds 1 (rawInt ((i:Int) + 1)))) }) go2.typeIs ?_)
 show wpAny _ _ (pure es[i].key) _ _ _; exact wpAny_pure (wpAny_pure ⟨_,rfl,wpAny_pure (hQ _ go2 (Heap.SameBut.update ..))⟩)
theorem CY {Q:Option Value → Shared → Prop} (hh:A.handled = none) (hit:s.heap.IsKeyIter it d i es.size ep) (x:jC s.heap d es ep) (hi:es.size ≤ i)
  (hQ:∀ h',Heap.ExtBut it s.heap h' → Q none { s with heap:=h' }):wpAny (model prog w) A (pyNext (.ref it)) Q E s:=by
 obtain ⟨o,ho,hc,hf⟩:=id hit
 obtain ⟨od,go,gc,gd⟩:=id x
 have T:=hit.typeIs
 unfold pyNext
 refine wpAny_bind (wpAny_attempt (wpAny_callSpecial?_slot (name:=Str.ofString "__next__") T PySem.F.slot_dict_keyiterator_next (wpAny_call_entry PySem.F.slot_dict_keyiterator_next T PySem.F.entry_dict_keyiterator_next ?_ (PySem.F.args_dict_keyiterator_next_1 _))))
 refine wpAny_bind (wpAny_pure ?_); refine wpAny_bind ?_; refine wpAny_bind ?_
 first | refine wpAny_bind (wpAny_typeNameOfWhole_keyiter T (wpAny_pure ?_)) | refine wpAny_bind (wpAny_typeNameOf_keyiter T (wpAny_pure ?_))
 refine wpAny_bind (wpAny_fieldsOf ho hf ?_)
 have no:Builtin.Dict_items.ownsTuple "dict_keyiterator" = false:=by decide
 simp only [no,Bool.false_eq_true,if_false]
 show wpAny _ _ (if (Value.ref d == Value.none) = true then _ else _) _ _ s; rw [if_neg (show ¬ ((Value.ref d == Value.none) = true) from Bool.false_ne_true)]
 refine wpAny_bind (wpAny_pure ?_); refine wpAny_bind (wpAny_dictEntries go gd ?_)
 rw [if_neg (by simp)]; refine wpAny_bind (wpAny_pure ?_)
 refine wpAny_bind (wpAny_dictEpoch go gd ?_); rw [if_neg (by simp)]; refine wpAny_pure ?_
 simp only [show ¬ ((i:Int) < 0) from by lia,if_false,Int.toNat_natCast,Array.getElem?_eq_none hi]; refine wpAny_bind ?_
 first | refine wpAny_bind (wpAny_typeNameOfWhole_keyiter T (wpAny_pure ?_)) | refine wpAny_bind (wpAny_typeNameOf_keyiter T (wpAny_pure ?_))
 show wpAny _ _ (setField (.ref it) 0 .none >>= _) _ _ s; refine wpAny_bind (wpAny_setField ho hf (by simp) ?_)
 show wpAny _ _ (newExc (.type "StopIteration") [] >>= _) _ _ _; refine wpAny_bind ?_; simp only [newExc,newTuple]
 refine wpAny_bind (wpAny_newObj_type ?_ (by size_fits)); refine wpAny_bind (m:=firstArgMember _ _) (wpAny_of_eq (a:=Value.none) (by first | rfl | (simp only [firstArgMember]; rfl)) ?_)
 refine wpAny_newObj_type ?_ (by size_fits); simp only [raiseNew]
 refine wpAny_bind (wpAny_handled ?_); rw [show A.in1.handled = none from hh]; refine wpAny_bind (wpAny_pure (wpAny_throw ?_))
 refine wpAny_bind (wpAny_isInstance (T:="StopIteration") (b:=true) ⟨_,Heap.get?_push_size _ rfl,rfl⟩ isSubtype_stop ?_)
 exact wpAny_pure (hQ _ (((Heap.SameBut.update ..).extBut.push _).push _))
noncomputable def Ao (es:Array DictEntry) (i:Nat) (v:Value):Prop:=∃ h:i < es.size,v = es[i].key
theorem x_ (hh:A.handled = none) (I:Addr) (Mw:d ≠ I):Walks prog w A I [I,d] [I] es.size (Ao es) (fun i h => h.IsKeyIter I d i es.size ep ∧ jC h d es ep) where
 sub:=fun b hb => by
  rw [List.mem_singleton] at hb; rw [hb]; exact List.mem_cons_self
 frame:=fun _ _ _ st hk => ⟨st.1.at fun o e => hk I List.mem_cons_self o e,st.2.to fun o e => hk d (List.mem_cons_of_mem _ List.mem_cons_self) o e⟩
 item:=fun i s Q E hi st hQ => An st.1 st.2 hi fun h' k1 k2 =>
  hQ _ h' s.toks ⟨hi,rfl⟩ ⟨k1,st.2.to fun o e => k2.extBut d o Mw e⟩ fun b o hb e => k2.extBut b o (fun z => hb (by rw [z]; exact List.mem_singleton_self _)) e
 done:=fun s Q E st hQ => CY hh st.1 st.2 (Nat.le_refl _) fun h' k => hQ h' s.toks fun b o hb e => k b o (fun z => hb (by rw [z]; exact List.mem_singleton_self _)) e
 self:=fun _ _ _ _ st hQ => wpAny_pyIter_keyiter st.1 hQ
theorem CZ (lo:(d == sysModules) = false):KdlSrc prog w "dict" d d es.size (Ao es) (fun h => jC h d es ep) where
 type:=fun _ x => x.ty
 there:=fun _ x => ⟨x.lt,x.lt⟩
 keep:=fun _ _ x hk => x.to fun o e => hk d (.inl rfl) o e
 notList:=by decide
 notTuple:=by decide
 hint:=fun _ _ _ _ x q => kdl_hint_dict x.ty q
 iter:=fun _ _ hh x => ⟨_,_,(fun _ _ q => Am lo x q),x_ hh _ (Nat.ne_of_lt x.lt),⟨⟨_,Heap.get?_push_size _ rfl,rfl,rfl⟩,x.to fun o e => Heap.get?_push_of_some _ e⟩⟩
end
end SO
namespace SO
open PySem PySem.W PyProof.Rows
section
variable {prog:Program} {w:World} {A:Around} {E:Value → Shared → Prop} {s:Shared} {d it:Addr} {es:Array DictEntry} {ep i:Nat}
theorem C0 {acc:Array Value} (h:ItemsOf (Ao es) acc es.size):acc.toList = es.toList.map (·.key):=by
 apply List.ext_getElem
 ·rw [Array.length_toList,List.length_map,Array.length_toList]; exact h.1
 ·intro i h1 h2
  have hi:i < acc.size:=by rw [Array.length_toList] at h1; exact h1
  obtain ⟨hz,e⟩:=h.2 i acc[i] (Array.getElem?_eq_getElem hi)
  rw [Array.getElem_toList,List.getElem_map,Array.getElem_toList,e]
theorem tM {Q:List Value → Shared → Prop} (hh:A.handled = none) (lo:(d == sysModules) = false) (x:jC s.heap d es ep) (hn:es.size ≤ sizeLine)
  (h:∀ h' tk,s.heap.objs.size < h'.objs.size → (∀ b o,s.heap.get? b = some o → h'.get? b = some o) → Q (es.toList.map (·.key)) { s with heap:=h',toks:=tk }):wpAny (model prog w) A (collect (.ref d)) Q E s:=by
 unfold collect
 refine wpAny_bind (wpAny_runValue (codeAny_mono (R:=fun r s' => r = .ok (.ret (.ref s.heap.objs.size)) ∧ wpAny (model prog w) A (do
  let u ← load s.heap.objs.size
  match u.data with
  | .seq xs _ => pure xs.toList
  | _ => unsupported "internal:collect") Q E s') ?_ fun r s' q => ?_))
 ·refine codeAny_builtin entry_proto_collect' ?_
  show wpAny _ _ (do again (.builtin "list.__iadd__" ⟨[← newList [],.ref d],[]⟩)) _ _ s
  refine wpAny_bind (wpAny_newList (wpAny_pure ⟨Code.quiet_builtin _ (by decide +kernel),codeAny_builtin entry_list_iadd' ?_⟩) (Nat.zero_le _))
  have ne:=Nat.ne_of_gt x.lt
  refine kdl_extend (R:=fun r s' => r = .ok (.ret (.ref s.heap.objs.size)) ∧ wpAny (model prog w) A (do
   let u ← load s.heap.objs.size
   match u.data with
   | .seq xs _ => pure xs.toList
   | _ => unsupported "internal:collect") Q E s') (s:={ s with heap:=s.heap.push (seqObj "list" #[] 0) }) (CZ (es:=es) (ep:=ep) lo) hh (x.to fun o e => Heap.get?_push_of_some _ e) s.heap.objs.size ne ne (.ref s.heap.objs.size) 0 (Heap.get?_push_size _ rfl) (fun h' tk acc c hk hS Fo => ⟨rfl,?_⟩) hn
  refine wpAny_bind (wpAny_load hS ?_)
  show wpAny _ _ (pure acc.toList) Q E _
  rw [C0 Fo]
  exact wpAny_pure (h h' tk (Heap.lt_size hS) fun b o e => hk b o (Nat.ne_of_lt (Heap.lt_size e)) (Heap.get?_push_of_some _ e))
 ·obtain ⟨rfl,q⟩:=q
  exact q
end
noncomputable def lexLt:List Int → List Int → Bool
 | _,[] => false
 | [],_ :: _ => true
 | x :: xs,y :: ys => if x = y then lexLt xs ys else decide (x < y)
theorem jc:∀ xs:List Int,lexLt xs xs = false
 | [] => rfl
 | x :: xs => by
  show (if x = x then lexLt xs xs else _) = false
  rw [if_pos rfl]; exact jc xs
theorem ou:∀ {xs ys zs:List Int},lexLt xs ys = true → lexLt ys zs = true → lexLt xs zs = true:=by
 intro xs
 induction xs with
 | nil =>
  intro ys zs h1 h2
  cases zs with
  | nil => cases ys <;> cases h2
  | cons z zs => rfl
 | cons x xs ih =>
  intro ys zs h1 h2
  cases ys with
  | nil => cases h1
  | cons y ys =>
   cases zs with
   | nil => cases h2
   | cons z zs =>
    replace h1:(if x = y then lexLt xs ys else decide (x < y)) = true:=h1
    replace h2:(if y = z then lexLt ys zs else decide (y < z)) = true:=h2
    show (if x = z then lexLt xs zs else decide (x < z)) = true
    by_cases e1:x = y
    ·rw [if_pos e1] at h1
     subst e1
     by_cases e2:x = z
     ·rw [if_pos e2] at h2 ⊢
      exact ih h1 h2
     ·rw [if_neg e2] at h2 ⊢
      exact h2
    ·rw [if_neg e1] at h1
     have VF:=of_decide_eq_true h1
     by_cases e2:y = z
     ·subst e2
      rw [if_neg e1]
      exact h1
     ·rw [if_neg e2] at h2
      have VG:=of_decide_eq_true h2
      rw [if_neg (by lia)]
      exact decide_eq_true (by lia)
theorem g6:∀ {xs ys:List Int},xs ≠ ys → lexLt xs ys = false → lexLt ys xs = true:=by
 intro xs
 induction xs with
 | nil =>
  intro ys h1 h2
  cases ys with
  | nil => exact absurd rfl h1
  | cons y ys => cases h2
 | cons x xs ih =>
  intro ys h1 h2
  cases ys with
  | nil => rfl
  | cons y ys =>
   replace h2:(if x = y then lexLt xs ys else decide (x < y)) = false:=h2
   show (if y = x then lexLt ys xs else decide (y < x)) = true
   by_cases e:x = y
   ·subst e
    rw [if_pos rfl] at h2 ⊢
    exact ih (fun z => h1 (by rw [z])) h2
   ·rw [if_neg e] at h2
    rw [if_neg (fun z => e z.symm)]
    have:=of_decide_eq_false h2
    exact decide_eq_true (by lia)
theorem jD {xs ys:List Int} (h:lexLt xs ys = true):lexLt ys xs = false:=by
 cases z:lexLt ys xs with
 | false => rfl
 | true =>
  have:=ou h z
  rw [jc] at this
  cases this
section
variable {prog:Program} {w:World} {A:Around} {E:Value → Shared → Prop} {s:Shared}
theorem Gr {fin:Bool} {Q:Bool → Shared → Prop}:∀ {us vs:List Value} {xs ys:List Int} (i:Nat),IntsAre us xs → IntsAre vs ys → fin = decide (xs.length < ys.length) → Q (lexLt xs ys) s →
  KatLex prog w A true fin Q (us.zip vs) i s:=by
 intro us vs xs ys i h1
 induction h1 generalizing vs ys i with
 | nil =>
  intro h2 hf h
  refine kat_nil ?_
  cases h2 with
  | nil => rw [hf]; exact h
  | cons n t r => rw [hf]; exact h
 | cons n t r ih =>
  intro h2 hf h
  cases h2 with
  | nil =>
   refine kat_nil ?_
   rw [hf]; exact h
  | @cons m u DZ Gu r2 =>
   refine kat_cons (wpAny_eqBool_int ?_)
   rename_i IE Ts
   replace h:Q (if n = m then lexLt Ts Gu else decide (n < m)) s:=h
   by_cases e:n = m
   ·subst e
    rw [beq_self_eq_true]
    refine kat_yes (ih (i + 1) r2 ?_ ?_)
    ·rw [hf]
     simp only [List.length_cons,Nat.add_lt_add_iff_right]
    ·rw [if_pos rfl] at h; exact h
   ·rw [beq_eq_false_iff_ne.mpr e]
    rw [if_neg e] at h
    refine kat_no ?_
    by_cases hi:i = 0
    ·subst hi
     exact oneLt_int h
    ·rw [show (true && i == 0) = false by rw [Bool.true_and]; exact beq_eq_false_iff_ne.mpr hi]
     exact kat_one _ _ (lt_int h)
noncomputable def js (h:Heap) (v:Value) (xs:List Int):Prop:=xs ≠ [] ∧ ∃ a o aL n,v = .ref a ∧ h.get? a = some o ∧ o.cls = .type "tuple" ∧ o.data = .seq aL n ∧ IntsAre aL.toList xs
theorem js.to {h h':Heap} {v:Value} {xs:List Int} (t:js h v xs) (hk:∀ b o,h.get? b = some o → o.cls = .type "tuple" → h'.get? b = some o):js h' v xs:=by
 obtain ⟨ne,a,o,aL,n,e,ho,hc,r⟩:=t
 exact ⟨ne,a,o,aL,n,e,hk a o ho hc,hc,r⟩
theorem Jk {Q:Bool → Shared → Prop} {x y:Value} {xs ys:List Int} (h1:js s.heap x xs) (h2:js s.heap y ys) (h:Q (lexLt xs ys) s):wpAny (model prog w) A (keyLt' (tuples' true) x y) Q E s:=by
 obtain ⟨_,a,o,aL,n,rfl,ho,hc,hd,hi⟩:=h1
 obtain ⟨_,b,o2,dS,n2,rfl,yN,xf,hd2,Ky⟩:=h2
 refine kat_lt ho hd yN hd2 (Gr 0 hi Ky ?_ h)
 rw [← hi.length,← Ky.length,Array.length_toList,Array.length_toList]
inductive cg (h:Heap):List Value → List (List Int) → Prop
 | nil:cg h [] []
 | cons {v:Value} {x:List Int} {vs:List Value} {xs:List (List Int)}:js h v x → cg h vs xs → cg h (v :: vs) (x :: xs)
theorem cg.to {h h':Heap} {vs:List Value} {xs:List (List Int)} (t:cg h vs xs) (hk:∀ b o,h.get? b = some o → o.cls = .type "tuple" → h'.get? b = some o):cg h' vs xs:=by
 induction t with
 | nil => exact .nil
 | cons a _ ih => exact .cons (a.to hk) ih
theorem cg.length {h:Heap} {vs:List Value} {xs:List (List Int)} (t:cg h vs xs):vs.length = xs.length:=by
 induction t with
 | nil => rfl
 | cons _ _ ih => rw [List.length_cons,List.length_cons,ih]
theorem cg.at_ {h:Heap} {vs:List Value} {xs:List (List Int)} (t:cg h vs xs):∀ i,i < vs.length → js h (vs.getD i .none) (xs.getD i []):=by
 induction t with
 | nil => intro i hi; cases hi
 | cons a _ ih =>
  intro i hi
  cases i with
  | zero => exact a
  | succ i => exact ih i (Nat.lt_of_succ_lt_succ hi)
theorem cg.append {h:Heap} {vs Rp:List Value} {xs Rq:List (List Int)} (t:cg h vs xs) (t2:cg h Rp Rq):cg h (vs ++ Rp) (xs ++ Rq):=by
 induction t with
 | nil => exact t2
 | cons a _ ih => exact .cons a ih
theorem cg.rev {h:Heap} {vs:List Value} {xs:List (List Int)} (t:cg h vs xs):cg h vs.reverse xs.reverse:=by
 induction t with
 | nil => exact .nil
 | cons a _ ih =>
  rw [List.reverse_cons,List.reverse_cons]
  exact ih.append (.cons a .nil)
theorem cg.Tt {h:Heap} {vs:List Value} {xs:List (List Int)} (t:cg h vs xs):∃ fs,KatTups h vs fs ∧ fs.length = vs.length ∧ ∀ v ∈ fs,∃ n u,v = .int n u:=by
 induction t with
 | nil => exact ⟨[],.nil,rfl,fun v m => by cases m⟩
 | cons a _ ih =>
  obtain ⟨fs,k,l,al⟩:=ih
  obtain ⟨ne,a,o,aL,n,rfl,ho,hc,hd,hi⟩:=a
  obtain ⟨aL⟩:=aL
  cases hi with
  | nil => exact absurd rfl ne
  | cons m u r =>
   refine ⟨_,KatTups.cons ho hc hd rfl k,by rw [List.length_cons,List.length_cons,l],fun v mv => ?_⟩
   rcases List.mem_cons.mp mv with rfl | mv
   ·exact ⟨_,_,rfl⟩
   ·exact al v mv
theorem C2 {vs:List Value} {xs:List (List Int)} {Q:SortKind → Shared → Prop} (t:cg s.heap vs xs) (h0:0 < vs.length) (h:Q (tuples' true) s):wpAny (model prog w) A (keyKind' vs.toArray) Q E s:=by
 obtain ⟨fs,k,l,al⟩:=t.Tt
 refine kat_kind (T:=.type "int") k (by rw [l]; exact h0) (fun v m => ?_) (by decide) h
 obtain ⟨n,u,rfl⟩:=al v m
 exact Looks.of_pure rfl
end
end SO
namespace SO
open PySem PySem.W PyProof.Rows
noncomputable def eM (xs:List (List Int)):Prop:=xs.Pairwise fun a b => lexLt b a = true
section
variable {vs:List Value} {xs:List (List Int)}
theorem wC {α β:Type}:∀ {vs:List α} {xs:List β},vs.length = xs.length → vs.reverse.zip xs.reverse = (vs.zip xs).reverse
 | [],[],_ => rfl
 | v :: vs,x :: xs,h => by
  have h':vs.length = xs.length:=Nat.succ.inj h
  rw [List.reverse_cons,List.reverse_cons,List.zip_cons_cons,List.reverse_cons,List.zip_append (by rw [List.length_reverse,List.length_reverse,h']),wC h']
  rfl
noncomputable def Rr:Value → Int
 | .int n _ => n
 | _ => 0
noncomputable def keyOf (h:Heap):Value → List Int
 | .ref a => match h.get? a with
  | some o => match o.data with
   | .seq aL _ => aL.toList.map Rr
   | _ => []
  | none => []
 | _ => []
theorem Gv {us:List Value} {ns:List Int} (h:IntsAre us ns):us.map Rr = ns:=by
 induction h with
 | nil => rfl
 | cons n t _ ih => rw [List.map_cons,ih]; rfl
theorem ow {h:Heap} {v:Value} {k:List Int} (t:js h v k):keyOf h v = k:=by
 obtain ⟨_,a,o,aL,n,rfl,ho,_,hd,hi⟩:=t
 unfold keyOf
 dsimp only
 rw [ho]
 dsimp only
 rw [hd]
 exact Gv hi
theorem C3 {h:Heap} {vs:List Value} {xs:List (List Int)} (t:cg h vs xs):vs.map (keyOf h) = xs:=by
 induction t with
 | nil => rfl
 | cons a _ ih => rw [List.map_cons,ih,ow a]
noncomputable def rk (xs:List (List Int)) (k:List Int):Nat:=xs.countP fun z => lexLt z k
theorem qm {α:Type} {p q:α → Bool}:∀ {l:List α} {x:α},x ∈ l → (∀ z,p z = true → q z = true) → q x = true → p x = false → l.countP p < l.countP q
 | y :: l,x,m,h,hq,hp => by
  have le:l.countP p ≤ l.countP q:=List.countP_mono_left fun z _ => h z
  rcases List.mem_cons.mp m with e | m
  ·subst e
   rw [List.countP_cons_of_neg (by rw [hp]; exact Bool.false_ne_true),List.countP_cons_of_pos hq]
   lia
  ·have ih:=qm m h hq hp
   by_cases c:p y = true
   ·rw [List.countP_cons_of_pos c,List.countP_cons_of_pos (h y c)]
    lia
   ·rw [List.countP_cons_of_neg c]
    by_cases d:q y = true
    ·rw [List.countP_cons_of_pos d]; lia
    ·rw [List.countP_cons_of_neg d]; exact ih
theorem wD {xs:List (List Int)} {a b:List Int} (ha:a ∈ xs) (h:lexLt a b = true):rk xs a < rk xs b :=
 qm ha (fun z hz => ou hz h) h (jc a)
theorem Eb {xs:List (List Int)} {a b:List Int} (ha:a ∈ xs) (hb:b ∈ xs):decide (rk xs a < rk xs b) = lexLt a b:=by
 cases z:lexLt a b with
 | true => exact decide_eq_true (wD ha z)
 | false =>
  refine decide_eq_false ?_
  by_cases e:a = b
  ·rw [e]; exact Nat.lt_irrefl _
  ·have:=wD hb (g6 e z)
   lia
theorem Ap {xs:List (List Int)} (nd:xs.Nodup):(xs.map (rk xs)).Nodup:=by
 refine List.pairwise_map.mpr (List.Pairwise.imp_of_mem (fun {a b} ha hb ne => ?_) nd)
 intro e
 cases z:lexLt a b with
 | true => have:=wD ha z; lia
 | false => have:=wD hb (g6 ne z); lia
end
section
variable {prog:Program} {w:World} {A:Around} {E:Value → Shared → Prop} {s:Shared} {vs:List Value} {xs:List (List Int)}
theorem Aq {a:Addr} {n:Nat} {P:PySem.Fin → Shared → Prop} (ho:s.heap.get? a = some (seqObj "list" vs.toArray n)) (t:cg s.heap vs xs) (nd:xs.Nodup) (hz:vs.length ≤ sizeLine)
  (h:∀ zs:List (Value × List Int),zs.Perm (vs.zip xs) → eM (zs.map (·.2)) → P (.done (.ret .none)) { s with heap:=sortedHeap s.heap a vs (zs.map (·.1)).toArray }) :
  wpAny (model prog w) A (Builtin.«list.sort» ⟨[.ref a],[(Str.ofString "reverse",.bool true)]⟩) P E s:=by
 rw [list_sort_rev]
 have ha:a < s.heap.objs.size:=Heap.lt_size ho
 have small:vs.toArray.size ≤ sizeLine:=by rw [List.size_toArray]; exact hz
 obtain ⟨h1,e1⟩:∃ h1,h1 = s.heap.update a (Obj.mapSeq fun _ => (#[]:Array Value)):=⟨_,rfl⟩
 obtain ⟨c1,Rt⟩:∃ c,h1.get? a = some (seqObj "list" #[] c):=⟨_,by rw [e1]; exact get?_update_seq ho fun _ => #[]⟩
 obtain ⟨h6,e6⟩:∃ h6,h6 = (h1.push (seqObj "tuple" vs.toArray 0)).push (seqObj "list" #[] 0):=⟨_,rfl⟩
 have KA:h6.get? a = some (seqObj "list" #[] c1):=by rw [e6]; exact Heap.get?_push_of_some _ (Heap.get?_push_of_some _ Rt)
 have t6:cg h6 vs xs:=t.to fun b o hb hc => by
  rw [e6,e1]
  refine Heap.get?_push_of_some _ (Heap.get?_push_of_some _ ?_)
  have ne:a ≠ b:=fun z => by
   rw [← z,ho] at hb
   cases hb
   exact absurd (Value.type.inj hc) (by decide)
  exact (Heap.get?_update_other _ _ ne).trans hb
 refine wpAny_bind (listItems_at ho rfl (wpAny_bind (listUpdate_at ho rfl ?_ small (Nat.zero_le _))))
 rw [← e1]
 refine wpAny_bind (seqEpoch_at Rt rfl (wpAny_bind (wpAny_newTuple ?_ (by show vs.length ≤ _; exact hz))))
 refine wpAny_bind (wpAny_newList ?_ (Nat.zero_le _)); refine wpAny_holding ?_
 show wpAny (model prog w) A _ P E { s with heap:=(h1.push (seqObj "tuple" vs.toArray 0)).push (seqObj "list" #[] 0) }
 rw [← e6]
 have ends:∀ zs:List (Value × List Int),zs.Perm (vs.zip xs) → eM (zs.map (·.2)) → P (.done (.ret .none)) { s with heap:=h6.update a (Obj.mapSeq fun _ => (zs.map (·.1)).toArray) }:=by
  intro zs z1 z2
  have:=h zs z1 z2
  unfold sortedHeap at this
  rw [← e1,← e6] at this
  exact this
 dsimp only
 rw [if_pos rfl]
 refine wpAny_bind (wpAny_rule ?_)
 by_cases h2:vs.toArray.size < 2
 ·rw [if_pos h2,if_pos h2]
  refine wpAny_bind (wpAny_pure ?_); rw [StateT.run_pure]; refine wpAny_bind (wpAny_pure ?_)
  dsimp only
  have Tu:(vs.zip xs).length < 2:=by rw [List.length_zip,← t.length,Nat.min_self]; rw [List.size_toArray] at h2; exact h2
  have out:(((vs.toArray.zip vs.toArray).reverse.map (·.2)).reverse) = ((vs.zip xs).map (·.1)).toArray:=by
   rw [Array.map_reverse,Array.reverse_reverse]
   apply Array.toList_inj.mp
   rw [Array.toList_map,Array.toList_zip]
   show List.map _ (vs.zip vs) = List.map _ (vs.zip xs)
   rw [List.map_snd_zip (Nat.le_refl _),List.map_fst_zip (Nat.le_of_eq t.length)]
  refine wpAny_bind (seqEpoch_at KA rfl (wpAny_bind (listUpdate_at KA rfl ?_ (Nat.zero_le _) ?_)))
  ·show wpAny _ _ _ _ _ { s with heap:=h6.update a (Obj.mapSeq fun _ => (((vs.toArray.zip vs.toArray).reverse.map (·.2)).reverse)) }
   rw [out]
   simp only [bne_self_eq_false,Bool.false_eq_true,if_false]
   refine wpAny_pure (ends _ (List.Perm.refl _) ?_)
   unfold eM
   match (vs.zip xs),Tu with
   | [],_ => exact .nil
   | [_],_ => exact List.pairwise_singleton _ _
  ·show (((vs.toArray.zip vs.toArray).reverse.map (·.2)).reverse).size ≤ _
   rw [out,List.size_toArray,List.length_map]; lia
 ·rw [if_neg h2,if_neg h2]
  have l2:2 ≤ vs.length:=by rw [List.size_toArray] at h2; lia
  obtain ⟨rs,er⟩:∃ rs,rs = vs.reverse:=⟨_,rfl⟩
  obtain ⟨ks,ek⟩:∃ ks,ks = xs.reverse:=⟨_,rfl⟩
  have Mx:cg h6 rs ks:=by rw [er,ek]; exact t6.rev
  have lr:rs.length = vs.length:=by rw [er,List.length_reverse]
  have lk:rs.length = ks.length:=Mx.length
  have Tv:ks.Nodup:=by rw [ek]; exact (List.reverse_perm xs).nodup_iff.mpr nd
  refine wpAny_bind (C2 t6 (by lia) ?_)
  have pr:(vs.toArray.zip vs.toArray).reverse = rs.toArray.zip rs.toArray:=by
   have:=kat_pairs true (ks:=vs) (vs:=vs) rfl
   rw [if_pos rfl] at this
   rw [this,er]; rfl
  rw [pr]
  obtain ⟨X,eX⟩:∃ X,X = rs.toArray.zip rs.toArray:=⟨_,rfl⟩
  rw [← eX]
  have xl:X.toList = rs.map fun v => (v,v):=by
   rw [eX,Array.toList_zip]
   show rs.zip rs = _
   rw [List.zip_eq_zipWith,List.zipWith_self]
  have kk:rs.map (keyOf h6) = ks:=C3 Mx
  have sX:∀ x ∈ X,∃ k,js h6 x.1 k ∧ k ∈ ks:=fun x hx => by
   rw [← Array.mem_toList_iff,xl] at hx
   obtain ⟨v,hv,rfl⟩:=List.mem_map.mp hx
   obtain ⟨i,hi⟩:=List.getElem?_of_mem hv
   have li:i < rs.length:=(List.getElem?_eq_some_iff.mp hi).1
   have:=Mx.at_ i li
   rw [List.getD_eq_getElem?_getD,hi,List.getD_eq_getElem?_getD,List.getElem?_eq_getElem (by lia)] at this
   exact ⟨_,this,List.getElem_mem _⟩
  have C:TS.xY prog w A { s with heap:=h6 } (tuples' true) (fun x => ∃ k,js h6 x.1 k ∧ k ∈ ks) fun x => rk ks (keyOf h6 x.1):=by
   rintro x y Q ⟨k,tk,mk⟩ ⟨l,tl,ml⟩ q
   replace q:Q (decide (rk ks (keyOf h6 x.1) < rk ks (keyOf h6 y.1))) { s with heap:=h6 }:=q
   rw [ow tk,ow tl,Eb mk ml] at q
   exact Jk tk tl q
  have dX:TS.Di (fun x => rk ks (keyOf h6 x.1)) X:=by
   unfold TS.Di
   rw [xl,List.map_map]
   have:rs.map ((fun x:Keyed => rk ks (keyOf h6 x.1)) ∘ fun v => (v,v)) = ks.map (rk ks):=by
    rw [← kk,List.map_map]; rfl
   rw [this]
   exact Ap Tv
  have zX:X.size = rs.length:=by rw [← Array.length_toList,xl,List.length_map]
  rw [if_pos (rfl:true = true)]
  refine wpAny_bind (wpAny_mono (TS.Jj (Q:=fun _ aw => ∃ Y pd g,aw = SortSt.mk' (tuples' true) Y pd g none ∧ Y.toList.Perm X.toList ∧ TS.Up (fun x => rk ks (keyOf h6 x.1)) Y 0 X.size) C sX dX (by lia) fun Y pd g y1 y2 => ⟨Y,pd,g,rfl,y1,y2⟩) ?_ fun _ _ e => e)
  rintro ⟨⟨⟩,aw⟩ s' ⟨rfl,Y,pd,g,rfl,y1,y2⟩
  dsimp only at y1 y2 ⊢
  have zY:Y.size = X.size:=by rw [← Array.length_toList,y1.length_eq,Array.length_toList]
  obtain ⟨zs,ez⟩:∃ zs:List (Value × List Int),zs = (Y.toList.map fun x => (x.2,keyOf h6 x.1)).reverse:=⟨_,rfl⟩
  have zp:zs.Perm (vs.zip xs):=by
   rw [ez]
   refine (List.reverse_perm _).trans ((y1.map _).trans ?_)
   rw [xl,List.map_map]
   have:rs.map ((fun x:Keyed => (x.2,keyOf h6 x.1)) ∘ fun v => (v,v)) = rs.zip ks:=by
    rw [← kk,List.zip_map_right,List.zip_eq_zipWith,List.zipWith_self,List.map_map]; rfl
   rw [this,er,ek,wC t.length]
   exact List.reverse_perm _
  have zf:eM (zs.map (·.2)):=by
   unfold eM
   rw [ez,List.map_reverse,List.pairwise_reverse,List.map_map,List.pairwise_map]
   have u:=y2.kf
   rw [← zY,TS.d5] at u
   have d:=List.pairwise_map.mp (dX.to y1)
   refine List.Pairwise.imp_of_mem (fun {a b} ha hb q => ?_) (List.Pairwise.and u d)
   obtain ⟨k,tk,mk⟩:=sX a (Array.mem_toList_iff.mp (y1.mem_iff.mp ha))
   obtain ⟨l,tl,ml⟩:=sX b (Array.mem_toList_iff.mp (y1.mem_iff.mp hb))
   have q1:rk ks (keyOf h6 a.1) ≤ rk ks (keyOf h6 b.1):=q.1
   have q2:rk ks (keyOf h6 a.1) ≠ rk ks (keyOf h6 b.1):=q.2
   show lexLt (keyOf h6 a.1) (keyOf h6 b.1) = true
   rw [ow tk,ow tl] at q1 q2 ⊢
   rw [← Eb mk ml]
   exact decide_eq_true (by lia)
  have out:(Y.map (·.2)).reverse = (zs.map (·.1)).toArray:=by
   apply Array.toList_inj.mp
   rw [Array.toList_reverse,Array.toList_map,ez,List.map_reverse,List.map_map]
   rfl
  have lz:zs.length ≤ sizeLine:=by
   have:=zp.length_eq
   rw [List.length_zip,← t.length,Nat.min_self] at this
   lia
  refine wpAny_bind (seqEpoch_at KA rfl (wpAny_bind (listUpdate_at KA rfl ?_ (Nat.zero_le _) ?_)))
  ·rw [if_pos rfl,out]
   simp only [bne_self_eq_false,Bool.false_eq_true,if_false]
   exact wpAny_pure (ends zs zp zf)
  ·rw [if_pos rfl,out,List.size_toArray,List.length_map]; exact Nat.le_succ_of_le lz
theorem u7 {d:Addr} {es:Array DictEntry} {ep:Nat} {Q:Value → Shared → Prop} (hh:A.handled = none) (lo:(d == sysModules) = false) (x:jC s.heap d es ep) (t:cg s.heap (es.toList.map (·.key)) xs) (nd:xs.Nodup) (hz:es.size ≤ sizeLine)
  (h:∀ (h':Heap) (tk:Nat) (l:Addr) (c:Nat) (zs:List (Value × List Int)),(∀ b o,s.heap.get? b = some o → h'.get? b = some o) → s.heap.objs.size ≤ l → zs.Perm ((es.toList.map (·.key)).zip xs) → eM (zs.map (·.2)) →
   h'.get? l = some (seqObj "list" (zs.map (·.1)).toArray c) → Q (.ref l) { s with heap:=h',toks:=tk }) :
  wpAny (model prog w) A (call (.builtin "sorted") [.ref d] [(Str.ofString "reverse",.bool true)]) Q E s:=by
 refine call_function_entry_kw kind_sorted plain_sorted entry_sorted (args_sorted_rev _ _) ?_
 unfold Builtin.«sorted»; refine wpAny_bind (m:=checkCount "sorted" 1 1 _) (wpAny_pure ?_)
 have hn:es.size ≤ sizeLine:=hz
 obtain ⟨vs,ev⟩:∃ vs,vs = es.toList.map (·.key):=⟨_,rfl⟩
 have lv:vs.length = es.size:=by rw [ev,List.length_map,Array.length_toList]
 refine wpAny_bind (tM hh lo x hn fun h1 tk k0 k1 => ?_)
 rw [← ev] at t h ⊢
 refine wpAny_bind (wpAny_newList ?_ (by show vs.length ≤ _; lia))
 have gl:(h1.push (seqObj "list" vs.toArray 0)).get? h1.objs.size = some (seqObj "list" vs.toArray 0):=Heap.get?_push_size _ rfl
 show wpAny _ _ _ _ _ { s with heap:=h1.push (seqObj "list" vs.toArray 0),toks:=tk }
 refine wpAny_bind (wpAny_holding (wpAny_call_entry_kw slot_list_sort ⟨_,gl,rfl⟩ entry_list_sort (Aq gl (t.to fun b o e _ => Heap.get?_push_of_some _ (k1 b o e)) nd (by lia) fun zs z1 z2 => ⟨_,rfl,?_⟩) (args_list_sort_rev _ _)))
 obtain ⟨c,gc⟩:∃ c,(sortedHeap (h1.push (seqObj "list" vs.toArray 0)) h1.objs.size vs (zs.map (·.1)).toArray).get? h1.objs.size = some (seqObj "list" (zs.map (·.1)).toArray c) :=
  ⟨_,by unfold sortedHeap; exact get?_update_seq (Heap.get?_push_of_some _ (Heap.get?_push_of_some _ (get?_update_seq gl fun _ => #[]))) fun _ => (zs.map (·.1)).toArray⟩
 refine wpAny_pure ⟨_,rfl,h _ tk h1.objs.size c zs (fun b o e => ?_) ?_ z1 z2 gc⟩
 ·have e1:=k1 b o e
  have ne:h1.objs.size ≠ b:=Nat.ne_of_gt (Heap.lt_size e1)
  unfold sortedHeap
  refine (Heap.get?_update_other _ _ ne).trans (Heap.get?_push_of_some _ (Heap.get?_push_of_some _ ((Heap.get?_update_other _ _ ne).trans (Heap.get?_push_of_some _ e1))))
 ·exact Nat.le_of_lt k0
end
end SO
namespace L2
open PySem PySem.Spec PyProof.Rows
noncomputable def Ar (X:Cx) (f:Value) (ks:List Str) (r:List V → List V → Hp → VK → Prop):Prop :=
 ∀ (pins:List (Addr × Obj)) (s:Shared) (σ:St) (H:Hp) (xs zs:List V) (us ws:List Value) (Q:VK),Inv X pins σ H s → Vals xs us → Vals zs ws → r xs zs H Q →
  wpAny (model X.prog X.w) X.A (call f us (ks.zip ws)) (EP X pins σ Q) X.xe s
noncomputable def Tw (r:List V → List V → Hp → VK → Prop) (t tk:TA):TE:=fun σ H Q => t σ H fun vs H1 => tk σ H1 fun zs H2 => r vs zs H2 Q
section
variable {X:Cx} {id:String} {ks:List Str} {r:List V → List V → Hp → VK → Prop} {x:Str} {p pos:Pos} {e:Expr} {es:List Expr} {yL:List Keyword} {t tk:TA}
theorem ya (hc:Ar X (.builtin id) ks r) (hg:Gl X x) (hm:X.mg x = none) (hv:bootBuiltins x = some (.builtin id)) (ha:PA X (e :: es) t) (Tx:PK X yL tk)
  (Jl:(backToKw pos (keywordEach yL X.env)).filterMap (·.1) = ks:=by rfl) (hn:x ≠ "__name__":=by decide) (mE:(x == ("__debug__":Str)) = false:=by decide)
  (he:backTo pos (starEach (e :: es) X.env) = (false,eval e X.env) :: backTo pos (starEach es X.env):=by rfl) (jo:(backTo pos (starEach (e :: es) X.env)).any (·.1) = false:=by rfl)
  (Ff:(backToKw pos (keywordEach yL X.env)).all (·.1.isSome) = true:=by rfl) (Lo:(backToKw pos (keywordEach yL X.env)).any (·.1.isNone) = false:=by rfl):PE X (.Call (.Name x p) (e :: es) yL pos) (Tw r t tk):=by
 intro pins s σ H Q I h
 refine wpAny_Call_Name_kw (iG I hg hm hv ?_ hn mE)
 refine callWith_kw (cV (ha pos pins s σ H _ I h) fun us s1 q1 => ?_) he jo Ff Lo
 obtain ⟨vs,H1,I1,r1,q1⟩:=q1
 refine cV (Tx pos pins s1 σ H1 _ I1 q1) fun ws s2 q2 => ?_
 obtain ⟨zs,H2,I2,r2,q2⟩:=q2
 rw [Jl]
 exact hc pins s2 σ H2 vs zs us ws Q I2 r1 r2 q2
end
noncomputable def iK (k:List Int):List Key:=k.map Sum.inl
theorem My (k:List Int):(iK k).map kV = k.map V.int:=by
 unfold iK
 rw [List.map_map]
 rfl
theorem As {a b:List Int} (h:iK a = iK b):a = b:=by
 induction a generalizing b with
 | nil => cases b with
  | nil => rfl
  | cons => cases h
 | cons x a ih => cases b with
  | nil => cases h
  | cons y b =>
   injection h with h1 h2
   injection h1 with h1
   rw [h1,ih h2]
noncomputable def Gw (H:Hp) (v:V) (k:List Int):Prop:=∃ a,v = .ref a ∧ H a = some (.tup (k.map V.int))
noncomputable def Au:List V → List V → Hp → VK → Prop:=fun xs zs H Q => ∃ (d:Addr) (aO:List (List Key × V)) (ks:List (List Int)),xs = [.ref d] ∧ zs = [.bl true] ∧ H d = some (.dT aO) ∧ aO.map (·.1) = ks.map iK ∧ ks.length ≤ sizeLine ∧ (∀ k ∈ ks,k ≠ []) ∧
 ∀ (l:Addr) (vs:List V) (outs:List (List Int)),H l = none → outs.Perm ks → SO.eM outs → Paired (Gw H) vs outs → Q (.ref l) (upd H l (.lst vs))
theorem Av {xs:List Int} {us:List Value} (h:Vals (xs.map V.int) us):IntsAre us xs:=by
 induction xs generalizing us with
 | nil => cases h; exact .nil
 | cons x xs ih =>
  cases h with
  | cons a b =>
   obtain ⟨t,rfl⟩:=a
   exact .cons x t (ih b)
section
variable {X:Cx}
theorem tN (hc:X.calm = true):Ar X (.builtin "sorted") ["reverse"] Au:=by
 intro pins s σ H xs zs us ws Q I rx rz h
 obtain ⟨d,aO,ks,rfl,rfl,hd,hk,VH,Mw,q⟩:=h
 obtain ⟨u,rfl,r1⟩:=vals1 rx
 obtain ⟨z,rfl,r2⟩:=vals1 rz
 cases r1
 cases r2
 obtain ⟨_,lo,xs,pr,o,es,ep,h1,h2,h3,h4,h5⟩:=(show b7 X.prog X.w H s.heap d (.dT aO) from I.bP d _ hd)
 -- He Ru values and HB Tz hold
 have key:∀ {aO:List (List Key × V)} {xs:List (List Key × Addr × Value)} {ks:List (List Int)},KT H aO xs → aO.map (·.1) = ks.map iK → (∀ k ∈ ks,k ≠ []) →
   SO.cg s.heap (xs.map fun x => Value.ref x.2.1) ks ∧ xs.map (·.1) = ks.map iK ∧ ∀ z ∈ (xs.map fun x => Value.ref x.2.1).zip ks,∃ a,z.1 = .ref a ∧ H a = some (.tup (z.2.map V.int)):=by
  intro aO xs ks pr
  induction pr generalizing ks with
  | nil =>
   intro e _
   cases ks with
   | nil => exact ⟨.nil,rfl,fun z m => by cases m⟩
   | cons => cases e
  | @cons p x ps ys a _ ih =>
   intro e ne
   cases ks with
   | nil => cases e
   | cons k ks =>
    injection e with e1 e2
    replace e1:p.1 = iK k:=e1
    obtain ⟨i1,i2,i3⟩:=ih e2 fun k m => ne k (List.mem_cons_of_mem _ m)
    have ht:H x.2.1 = some (.tup (k.map V.int)):=by rw [← My,← e1]; exact a.2.1
    obtain ⟨_,aL,rv,o,g1,g2,n,g3⟩:=(show b7 X.prog X.w H s.heap x.2.1 (.tup (k.map V.int)) from I.bP _ _ ht)
    refine ⟨.cons ⟨ne k List.mem_cons_self,x.2.1,o,aL.toArray,n,rfl,g1,g2,g3,Av rv⟩ i1,?_,fun z m => ?_⟩
    ·rw [List.map_cons,List.map_cons,i2,← a.1,e1]
    ·rcases List.mem_cons.mp m with m | m
     ·rw [m]; exact ⟨_,rfl,ht⟩
     ·exact i3 z m
 obtain ⟨t,ek,hz⟩:=key pr hk Mw
 have nd:ks.Nodup:=by
  rw [ek] at h5
  exact List.Pairwise.of_map iK (fun a b z e => z (by rw [e])) h5
 have ev:es.toList.map (·.key) = xs.map fun x => Value.ref x.2.1:=by rw [h4,List.map_map]; rfl
 have lv:es.size = ks.length:=by
  have:=congrArg List.length h4
  rw [Array.length_toList,List.length_map] at this
  have l2:=t.length
  rw [List.length_map] at l2
  lia
 have x:SO.jC s.heap d es ep:=⟨o,h1,h2.1,h3⟩
 refine SO.u7 (I.ok.hd hc) lo x (by rw [ev]; exact t) nd (by lia) fun h' tk l c zs kp hl z1 z2 g => ?_
 rw [ev] at z1
 have all:∀ z ∈ zs,∃ a,z.1 = .ref a ∧ H a = some (.tup (z.2.map V.int)):=fun z m => hz z (z1.mem_iff.mp m)
 have mk:∀ {zs:List (Value × List Int)},(∀ z ∈ zs,∃ a,z.1 = .ref a ∧ H a = some (.tup (z.2.map V.int))) → ∃ vs,Vals vs (zs.map (·.1)) ∧ Paired (Gw H) vs (zs.map (·.2)):=by
  intro zs
  induction zs with
  | nil => intro _; exact ⟨[],.nil,.nil⟩
  | cons z zs ih =>
   intro al
   obtain ⟨vs,v1,v2⟩:=ih fun y m => al y (List.mem_cons_of_mem _ m)
   obtain ⟨a,e1,e2⟩:=al z List.mem_cons_self
   exact ⟨.ref a :: vs,.cons e1 v1,.cons ⟨a,rfl,e2⟩ v2⟩
 obtain ⟨vs,v1,v2⟩:=mk all
 have op:(zs.map (·.2)).Perm ks:=by
  have:=z1.map (·.2)
  rwa [List.map_snd_zip (Nat.le_of_eq t.length.symm)] at this
 have lz:vs.length ≤ sizeLine:=by
  have e1:=v1.length
  have e2:=op.length_eq
  rw [List.length_map] at e1 e2
  lia
 exact ⟨.ref l,_,I.laid (t':=tk) kp hl (show b7 X.prog X.w _ h' _ (.lst vs) from ⟨lz,_,c,v1,g⟩),rfl,q l vs _ (I.bP.fresh hl) op z2 v2⟩
end
end L2
namespace SO
open PySem PySem.W PyProof.Rows
section
variable {prog:Program} {w:World} {A:Around} {E:Value → Shared → Prop} {s:Shared}
end
end SO
namespace SO
open PySem PySem.W PyProof.Rows
section
variable {prog:Program} {w:World} {A:Around} {E:Value → Shared → Prop} {I l S:Addr} {us:List Value} {ns:List Int} {d:Value} {R:Result → Shared → Prop}
end
end SO
namespace MN
open PySem PySem.Spec L2
open PyProof.Rows hiding St kindOf
noncomputable def tO:List Key → Option (List Int)
 | [] => some []
 | .inl i :: r => (tO r).map (i :: ·)
 | .inr _ :: _ => none
noncomputable def mn:List (List Key) → Option (List (List Int))
 | [] => some []
 | k :: r => match tO k,mn r with
  | some a,some b => some (a :: b)
  | _,_ => none
theorem C4:∀ {k:List Key} {a:List Int},tO k = some a → k = iK a:=by
 intro k
 induction k with
 | nil => intro a h; cases h; rfl
 | cons x r ih =>
  intro a h
  cases x with
  | inl i =>
   replace h:(tO r).map (i :: ·) = some a:=h
   cases z:tO r with
   | none => rw [z] at h; cases h
   | some b =>
    rw [z] at h; cases h
    rw [ih z]; rfl
  | inr x => cases h
theorem Aw:∀ {l:List (List Key)} {ks:List (List Int)},mn l = some ks → l = ks.map iK:=by
 intro l
 induction l with
 | nil => intro ks h; cases h; rfl
 | cons k r ih =>
  intro ks h
  unfold mn at h
  cases z1:tO k with
  | none => rw [z1] at h; cases h
  | some a =>
   cases z2:mn r with
   | none => rw [z1,z2] at h; cases h
   | some b =>
    rw [z1,z2] at h; cases h
    rw [C4 z1,ih z2]; rfl
theorem C5 (a:List Int):tO (iK a) = some a:=by
 induction a with
 | nil => rfl
 | cons x a ih => show (tO (iK a)).map (x :: ·) = _; rw [ih]; rfl
theorem Ax (ks:List (List Int)):mn (ks.map iK) = some ks:=by
 induction ks with
 | nil => rfl
 | cons k ks ih => rw [List.map_cons]; unfold mn; rw [C5,ih]
noncomputable def G_ (a b:List Int):Bool:=!(SO.lexLt a b)
noncomputable def kf (ks:List (List Int)):List (List Int):=ks.mergeSort G_
theorem gq (ks:List (List Int)):(kf ks).Perm ks:=List.mergeSort_perm ks G_
theorem kY {ks:List (List Int)} (nd:ks.Nodup):SO.eM (kf ks):=by
 have h1:(kf ks).Pairwise fun a b => G_ a b = true:=by
  refine List.pairwise_mergeSort (fun a b c h1 h2 => ?_) (fun a b => ?_) ks
  ·unfold G_ at h1 h2 ⊢
   rw [Bool.not_eq_true'] at h1 h2 ⊢
   by_cases e1:a = b
   ·rw [e1]; exact h2
   ·by_cases e2:b = c
    ·rw [← e2]; exact h1
    ·exact SO.jD (SO.ou (SO.g6 e2 h2) (SO.g6 e1 h1))
  ·unfold G_
   cases z:SO.lexLt a b with
   | false => rfl
   | true => rw [SO.jD z]; rfl
 have h2:(kf ks).Nodup:=(gq ks).nodup_iff.mpr nd
 refine List.Pairwise.imp (fun {a b} h => ?_) (h1.and h2)
 have z:SO.lexLt a b = false:=by
  have:=h.1
  unfold G_ at this
  rwa [Bool.not_eq_true'] at this
 exact SO.g6 h.2 z
theorem iV {ks:List (List Int)} (h:SO.eM ks):ks.Nodup:=List.Pairwise.imp (fun {a b} h e => by rw [e,SO.jc] at h; cases h) h
theorem tP {a b:List (List Int)} (p:a.Perm b) (fa:SO.eM a) (fb:SO.eM b):a = b :=
 List.Perm.eq_of_pairwise (fun x y _ _ h1 h2 => by rw [SO.jD h1] at h2; cases h2) fa fb p
noncomputable def tupI (k:List Int):Val:=.tup (k.map .int)
noncomputable def Ay (d:Val) (st:ai):Res Val:=match d with
 | .loc n => match st[n]? with
  | some (.dT aO) => match mn (aO.map (·.1)) with
   | some ks => if ks.length ≤ sizeLine ∧ ks.all (fun k => !k.isEmpty) = true then .ok (.loc st.length) (st ++ [.lst ((kf ks).map tupI)]) else .bad
   | none => .bad
  | _ => .bad
 | _ => .bad
noncomputable def oy (m:ME):ME:=fun μ st => (m μ st).bind Ay
theorem C6 {n:Nat} {st:ai} {aO:List (List Key × Val)} {ks:List (List Int)} (h1:st[n]? = some (.dT aO)) (h2:aO.map (·.1) = ks.map iK) (h3:ks.length ≤ sizeLine) (h4:∀ k ∈ ks,k ≠ []) :
  Ay (.loc n) st = .ok (.loc st.length) (st ++ [.lst ((kf ks).map tupI)]):=by
 unfold Ay
 dsimp only
 rw [h1]
 dsimp only
 rw [h2,Ax]
 dsimp only
 rw [if_pos ⟨h3,List.all_eq_true.mpr fun k m => by
  cases k with
  | nil => exact absurd rfl (h4 _ m)
  | cons => rfl⟩]
theorem Az {K:PySem.W.Frag} {ρ:List Addr} {H:Hp} {vs:List V} {ks:List (List Int)} (p:Paired (Gw H) vs ks):aW K ρ H (ks.map tupI) vs:=by
 induction p with
 | nil => exact aW.nil
 | cons a _ ih =>
  obtain ⟨b,rfl,hb⟩:=a
  exact aW.cons (Rl.pV hb (aW.ints _)) ih
section
variable {X:Cx} {E:XK} {x:Str} {p pos cp kp:Pos} {e:Expr} {md:ME} {j:Nat}
theorem AA (hc:X.calm = true) (hg:Gl X x) (hm:X.mg x = none) (hv:bootBuiltins x = some (.builtin "sorted")) (ha:PE X e (tE X E md)) (hn:x ≠ "__name__":=by decide) (mE:(x == ("__debug__":Str)) = false:=by decide)
  (he:starEach [e] X.env = (false,eval e X.env) :: starEach [] X.env:=by rfl):PE X (.Call (.Name x p) [e] [⟨some "reverse",.Constant (.bool true) j cp,kp⟩] pos) (tE X E (oy md)):=by
 refine PE.imp (ya (tN hc) hg hm hv (jP ha uA he) (BQ DF E3) (by rfl) hn mE (by rw [he]; rfl) (by rw [he]; rfl) (by rfl) (by rfl)) ?_
 rintro σ H Q ⟨μ,ρ,st,rs,sr,h⟩
 refine go μ ρ st rs sr h fun d aX ρ1 H1 v e1 cn r1 h1 => ?_
 show Au [v] [.bl true] H1 Q
 cases d with
 | loc n =>
  obtain ⟨a,rfl,ha⟩:=r1.eR
  unfold Ay at h1
  dsimp only at h1
  cases hn:aX[n]? with
  | none => rw [hn] at h1; exact h1.elim
  | some c =>
   rw [hn] at h1
   cases c with
   | dT aO =>
    obtain ⟨je,hd,pr⟩:=cn.cell n _ a hn ha
    dsimp only at h1
    cases hk:mn (aO.map (·.1)) with
    | none => rw [hk] at h1; exact h1.elim
    | some ks =>
     rw [hk] at h1
     dsimp only at h1
     by_cases hz:ks.length ≤ sizeLine ∧ ks.all (fun k => !k.isEmpty) = true
     ·rw [if_pos hz] at h1
      refine ⟨a,je,ks,rfl,rfl,hd,by rw [← pr.1]; exact Aw hk,hz.1,fun k m z => ?_,fun l vs outs hl op fo pv => ?_⟩
      ·have:=List.all_eq_true.mp hz.2 k m
       rw [z] at this; cases this
      ·have nd:ks.Nodup:=op.nodup_iff.mp (iV fo)
       have eo:outs = kf ks:=tP (op.trans (gq ks).symm) fo (kY nd)
       rw [eo] at pv
       obtain ⟨k1,k2,k3⟩:=gy cn (Az pv) hl
       exact h1 _ _ _ k1 k2 k3
     ·rw [if_neg hz] at h1; exact h1.elim
   | _ => exact h1.elim
 | _ => exact h1.elim
end
noncomputable def tQ:List Val → Option (List Int)
 | [] => some []
 | .int i :: r => (tQ r).map (i :: ·)
 | _ :: _ => none
theorem AB (a:List Int):tQ (a.map Val.int) = some a:=by
 induction a with
 | nil => rfl
 | cons x a ih => show (tQ (a.map Val.int)).map (x :: ·) = _; rw [ih]; rfl
section
variable {X:Cx} {E:XK}
end
section
variable {X:Cx} {E:XK}
variable {x:Str} {p pos kp:Pos} {e ed:Expr} {m md:ME}
end
end MN
namespace PM
open PySem PySem.Spec L2 MN
open PyProof.Rows hiding St
end PM
namespace PM
open PySem PySem.Spec L2 MN
open PyProof.Rows hiding St
noncomputable def bf:FN:=jf 2 2 (aE (gW (cJ (ah gb (aa 0) (mC (.int 0)))) (bF (aa 1)) bQ) (bF (ah bD (aa 1) (aa 0))))
noncomputable def bB:FN:=jf 2 7 (aE (aG 2 (e9 ak)) (aE (aG 3 (aa 0)) (aE (aG 4 (mC (.int 4))) (aE (gW (cJ (ah gb (ah bD (aa 0) (mC (.int 3))) (mC (.int 0)))) (aE (aG 3 (ah bA (aa 0) (mC (.int 3)))) (aG 4 (mC (.int 100)))) bQ) (aE (dr (a_ (ae (aa 1) ak)) (aName 5) (aE (aG 6 (ah bD (aa 3) (aa 4))) (aE (aG 3 (ah bA (aa 3) (aa 4))) (aE (gW (jq (cJ (ah gb (aa 4) (mC (.int 4)))) (cJ (ah gb (ah bD (ah bA (aa 0) (mC (.int 256))) (mC (.int 8))) (aa 5)))) (aG 6 (ah bD (ah bA (aa 0) (mC (.int 2048))) (mC (.int 100)))) bQ) (dz (ij bM (aa 2) (ae (aa 6) ak))))))) (bF (aq pf (ae (aa 2) ak))))))))
noncomputable def cU:FN:=jf 2 3 (aE (aG 2 (cZ 2 [0] (e_ (aa 1)) (jh [(aName 0),(aName 1)]) cK (fE (ae (aa 0) (ae (aq PM.aC (ae (aa 2) (ae (aa 1) ak))) ak))))) (bF (cZ 1 [] (e_ (aa 2)) (aName 0) (cJ (ah jW (ah bL (aa 0) (mC (.int 1))) (mC (.int 0)))) (aa 0))))
noncomputable def bZ:FN:=jf 2 6 (aE (aG 2 rf) (aE (dr (e_ (aa 1)) (aName 3) (rh (aa 2) (ah bL (aa 3) (mC (.int 0))) (ah bR (n_ (aa 2) (ah bL (aa 3) (mC (.int 0))) (mC (.int 0))) (ah bL (aa 3) (mC (.int 1)))))) (aE (aG 4 (e9 ak)) (aE (dr (e_ (oy (aa 2))) (aName 5) (gW (cJ (ah jW (aq PM.bf (ae (aa 0) (ae (ah j6 (aa 2) (aa 5)) ak))) (mC (.int 0)))) (dz (ij bM (aa 4) (ae (fE (ae (aa 5) (ae (aq PM.bf (ae (aa 0) (ae (ah j6 (aa 2) (aa 5)) ak))) ak))) ak))) bQ)) (bF (aa 4))))))
noncomputable def eV:FN:=jf 2 3 (aE (gW (jy (d0 (cJ (uR "list" (aa 0)))) (cJ (ah jW (aq fg (ae (aa 0) ak)) (aq fg (ae (aa 1) ak))))) (bF (mC (.bl false))) bQ) (aE (dr (a_ (ae (aq fg (ae (aa 1) ak)) ak)) (aName 2) (aE (gW (jy (d0 (cJ (uR "tuple" (ah bL (aa 0) (aa 2))))) (jy (cJ (ah jW (aq fg (ae (ah bL (aa 0) (aa 2)) ak)) (mC (.int 2)))) (d0 (cJ (aq PM.cF (ae (ah bL (ah bL (aa 0) (aa 2)) (mC (.int 1))) ak)))))) (bF (mC (.bl false))) bQ) (gW (jy (d0 (cJ (uR "tuple" (ah bL (ah bL (aa 0) (aa 2)) (mC (.int 0)))))) (cJ (ah jW (cZ 1 [] (e_ (ah bL (ah bL (aa 0) (aa 2)) (mC (.int 0)))) (aName 0) (d0 (cJ (aq PM.cF (ae (aa 0) ak)))) (aa 0)) (e9 ak)))) (bF (mC (.bl false))) bQ))) (bF (ah gb (aa 0) (aa 1)))))
noncomputable def gi:FN:=jf 4 7 (aE (aG 4 (e9 ak)) (aE (dr (a_ (ae (aa 3) ak)) (aName 5) (aE (aG 6 (aq PM.bB (ae (aq PM.aI (ae (aa 0) (ae (ah bR (aa 1) (ah bz (mC (.int 2)) (aa 5))) ak))) (ae (aa 2) ak)))) (dz (ij bM (aa 4) (ae (fE (ae (aa 6) (ae (aq PM.bS (ae (aq PM.aI (ae (aa 0) (ae (ah bR (ah bR (aa 1) (ah bz (mC (.int 2)) (aa 5))) (mC (.int 1))) ak))) ak)) ak))) ak))))) (bF (aa 4))))
end PM
namespace PG
open PySem PySem.Spec L2 MN
open PyProof.Rows hiding St kindOf
end PG
namespace PG
open PySem PySem.Spec L2 MN
open PyProof.Rows hiding St kindOf
noncomputable abbrev bE:=List Int × Int
noncomputable def tV (t:bE):Val:=.tup [tupI t.1,.int t.2]
noncomputable def eD (t:bE):List Key × Val:=(iK t.1,.int t.2)
noncomputable def cR (A:List bE) (k:List Int):Int:=((A.find? fun p => decide (p.1 = k)).map (·.2)).getD 0
noncomputable def g7 (A:List bE) (k:List Int) (v:Int):List bE:=if A.any (fun p => decide (p.1 = k)) then A.map (fun p => if p.1 = k then (p.1,v) else p) else A ++ [(k,v)]
theorem AD (a k:List Int):decide (iK a = iK k) = decide (a = k):=by
 by_cases h:a = k
 ·rw [h,decide_eq_true rfl,decide_eq_true rfl]
 ·rw [decide_eq_false h,decide_eq_false fun e => h (As e)]
theorem wF (k:List Int):∀ A:List bE,q9 (A.map eD) (iK k) = (A.find? fun p => decide (p.1 = k)).map fun p => Val.int p.2
 | [] => rfl
 | p :: A => by
  unfold q9
  rw [List.map_cons,List.find?_cons,List.find?_cons]
  show Option.map _ (match decide (iK p.1 = iK k) with | true => some (eD p) | false => _) = _
  rw [AD]
  cases decide (p.1 = k) with
  | true => rfl
  | false => exact wF k A
theorem AE (k:List Int):∀ A:List bE,((A.map eD).any fun kv => decide (kv.1 = iK k)) = A.any fun p => decide (p.1 = k)
 | [] => rfl
 | p :: A => by
  rw [List.map_cons,List.any_cons,List.any_cons,AE k A]
  show (decide (iK p.1 = iK k) || _) = _
  rw [AD]
theorem C7 (A:List bE) (k:List Int) (v:Int):xG (A.map eD) (iK k) (.int v) = (g7 A k v).map eD:=by
 unfold xG g7
 rw [AE]
 by_cases h:(A.any fun p => decide (p.1 = k)) = true
 ·rw [if_pos h,if_pos h,List.map_map,List.map_map]
  refine List.map_congr_left fun p _ => ?_
  show (if iK p.1 = iK k then (iK p.1,Val.int v) else eD p) = eD (if p.1 = k then (p.1,v) else p)
  by_cases e:p.1 = k
  ·rw [if_pos e,if_pos (by rw [e])]; rfl
  ·rw [if_neg e,if_neg fun z => e (As z)]
 ·rw [if_neg h,if_neg h,List.map_append]; rfl
theorem qo (k:List Int):kM (tupI k) = some (iK k):=by
 have h:∀ k:List Int,keysOf (k.map Val.int) = some (iK k):=by
  intro k
  induction k with
  | nil => rfl
  | cons x k ih =>
   rw [List.map_cons]
   unfold keysOf
   show (match keyOf (Val.int x),keysOf (k.map Val.int) with | some a,some b => some (a :: b) | _,_ => none) = _
   rw [ih]; rfl
 show keysOf (k.map Val.int) = _
 exact h k
theorem wG {st:ai} {d:Nat} {A:List bE} (h:st[d]? = some (.dT (A.map eD))) (k:List Int):lY st (.loc d) (tupI k) = some ((A.find? fun p => decide (p.1 = k)).map fun p => Val.int p.2):=by
 unfold lY
 dsimp only
 rw [h]
 dsimp only
 rw [qo,Option.map_some,wF]
theorem yb {st:ai} {d:Nat} {A:List bE} (h:st[d]? = some (.dT (A.map eD))) (hl:A.length < sizeLine) (k:List Int) (v:Int):kN st (.loc d) (tupI k) (.int v) = some (st.set d (.dT ((g7 A k v).map eD))):=by
 unfold kN
 dsimp only
 rw [h]
 dsimp only
 rw [if_pos (by rw [List.length_map]; exact hl),qo,Option.map_some,C7]
theorem yc (A:List bE) (k:List Int):((A.find? fun p => decide (p.1 = k)).map fun p => Val.int p.2).getD (.int 0) = .int (cR A k):=by
 unfold cR
 cases A.find? fun p => decide (p.1 = k) with
 | none => rfl
 | some p => rfl
theorem yd {A:List bE} {k:List Int} {v:Int}:(g7 A k v).map (·.1) = if A.any (fun p => decide (p.1 = k)) then A.map (·.1) else A.map (·.1) ++ [k]:=by
 unfold g7
 by_cases h:(A.any fun p => decide (p.1 = k)) = true
 ·rw [if_pos h,if_pos h,List.map_map]
  refine List.map_congr_left fun p _ => ?_
  show (if p.1 = k then (p.1,v) else p).1 = p.1
  split <;> rfl
 ·rw [if_neg h,if_neg h,List.map_append]; rfl
theorem wH {A:List bE} {k:List Int}:(A.any fun p => decide (p.1 = k)) = true ↔ k ∈ A.map (·.1):=by
 rw [List.any_eq_true,List.mem_map]
 constructor
 ·rintro ⟨p,hp,e⟩; exact ⟨p,hp,of_decide_eq_true e⟩
 ·rintro ⟨p,hp,e⟩; exact ⟨p,hp,decide_eq_true e⟩
theorem u9 {A:List bE} (h:(A.map (·.1)).Nodup) (k:List Int) (v:Int):((g7 A k v).map (·.1)).Nodup:=by
 rw [yd]
 by_cases c:(A.any fun p => decide (p.1 = k)) = true
 ·rw [if_pos c]; exact h
 ·rw [if_neg c]
  refine List.nodup_append.mpr ⟨h,List.pairwise_singleton _ _,?_⟩
  intro a ha b hb e
  rw [List.mem_singleton.mp hb] at e
  exact c (wH.mpr (e ▸ ha))
theorem AF {A:List bE} {k:List Int} {v:Int}:(g7 A k v).length ≤ A.length + 1:=by
 unfold g7
 split
 ·rw [List.length_map]; lia
 ·rw [List.length_append]; exact Nat.le_refl _
theorem oz {A:List bE} {k:List Int} {v:Int} {t:bE} (h:t ∈ g7 A k v):t ∈ A ∨ t = (k,v):=by
 unfold g7 at h
 split at h
 ·obtain ⟨p,hp,e⟩:=List.mem_map.mp h
  by_cases c:p.1 = k
  ·rw [if_pos c] at e; right; rw [← e,c]
  ·rw [if_neg c] at e; left; rw [← e]; exact hp
 ·rcases List.mem_append.mp h with h | h
  ·exact .inl h
  ·exact .inr (List.mem_singleton.mp h)
theorem tR {A:List bE} {k:List Int} (h:k ∈ A.map (·.1)):(k,cR A k) ∈ A:=by
 unfold cR
 cases z:A.find? fun p => decide (p.1 = k) with
 | none =>
  rw [List.find?_eq_none] at z
  obtain ⟨p,hp,e⟩:=List.mem_map.mp h
  exact absurd (decide_eq_true e) (z p hp)
 | some p =>
  have e:=List.find?_some z
  have m:=List.mem_of_find?_eq_some z
  have e':p.1 = k:=of_decide_eq_true e
  show (k,p.2) ∈ A
  rw [← e']; exact m
theorem u_ {A:List bE} {k:List Int} {b:Int} (b0:0 ≤ b) (h:∀ t ∈ A,-b ≤ t.2 ∧ t.2 ≤ b):-b ≤ cR A k ∧ cR A k ≤ b:=by
 unfold cR
 cases z:A.find? fun p => decide (p.1 = k) with
 | none => show -b ≤ 0 ∧ (0:Int) ≤ b; lia
 | some p => exact h p (List.mem_of_find?_eq_some z)
end PG
namespace PG
open PySem PySem.Spec L2 MN
open PyProof.Rows hiding St kindOf
theorem set_dict (st:ai) (a b:List (List Key × Val)):(st ++ [Cell.dT a]).set st.length (.dT b) = st ++ [.dT b]:=j9 st _ _
theorem C8 (st:ai) (a:List (List Key × Val)):(st ++ [Cell.dT a])[st.length]? = some (.dT a):=by
 rw [List.getElem?_append_right (Nat.le_refl _),Nat.sub_self]; rfl
end PG
namespace PG
open PySem PySem.Spec L2 MN
open PyProof.Rows hiding St kindOf
noncomputable def Mz:Val → List Int
 | .tup us => (tQ us).getD []
 | _ => []
theorem Jm (k:List Int):Mz (tupI k) = k:=by
 show (tQ (k.map Val.int)).getD [] = k
 rw [AB]; rfl
theorem C9 {s:ai} {d:Nat} {A:List bE} {k:List Int} (h:s[d]? = some (.dT (A.map eD))) (hk:k ∈ A.map (·.1)):j6 (.loc d) (tupI k) s = .ok (.int (cR A k)) s:=by
 unfold j6
 rw [wG h k]
 unfold cR
 cases z:A.find? fun p => decide (p.1 = k) with
 | none =>
  rw [List.find?_eq_none] at z
  obtain ⟨p,hp,e⟩:=List.mem_map.mp hk
  exact absurd (decide_eq_true e) (z p hp)
 | some p => rfl
theorem AG {m:ME} {μ:MN.Env} {st:ai}:oy m μ st = (m μ st).i_ Ay:=gX
end PG
namespace PG
open PySem PySem.Spec L2 MN
open PyProof.Rows hiding St kindOf
end PG
namespace PG
open PySem PySem.Spec L2 MN
open PyProof.Rows hiding St kindOf
noncomputable def kF (a:Nat) (t:bE):Int:=t.1.getD a 0
noncomputable def wI:Val → bE
 | .tup [k,.int n] => (Mz k,n)
 | _ => ([],0)
theorem qp (t:bE):wI (tV t) = t:=by
 show (Mz (tupI t.1),t.2) = t
 rw [Jm]
theorem AH {k:List Int} {a:Nat} (h:a < k.length) (s:ai):bL (tupI k) (.int (a:Int)) s = .ok (.int (k.getD a 0)) s:=by
 have:=at_getD (ns:=k) (i:=(a:Int)) (by lia) (by lia)
 rw [Int.toNat_natCast] at this
 exact uE this
end PG
namespace PG
open PySem PySem.Spec L2 MN
open PyProof.Rows hiding St kindOf
theorem Jn {k:List Int} {a:Nat} (h:a < k.length) (s:ai):G8 none (some (a:Int)) (tupI k) s = .ok (tupI (k.take a)) s:=by
 have hl:(k.map Val.int).length = k.length:=List.length_map ..
 show (if HT.dZ (k.map Val.int).length 0 none = 0 ∧ HT.dZ (k.map Val.int).length (k.map Val.int).length (some (a:Int)) = (k.map Val.int).length then Res.bad else .ok (Val.tup (sS (k.map Val.int) none (some (a:Int)))) s) = _
 rw [HT.m8,hl,if_neg (by lia),ql,xT (by lia)]
 rfl
theorem Jo {k:List Int} {a:Nat} (h:a < k.length) (s:ai):G8 (some ((a:Int) + 1)) none (tupI k) s = .ok (tupI (k.drop (a + 1))) s:=by
 have hl:(k.map Val.int).length = k.length:=List.length_map ..
 have e:(a:Int) + 1 = ((a + 1:Nat):Int):=by lia
 rw [e]
 show (if HT.dZ (k.map Val.int).length 0 (some ((a + 1:Nat):Int)) = 0 ∧ HT.dZ (k.map Val.int).length (k.map Val.int).length none = (k.map Val.int).length then Res.bad else .ok (Val.tup (sS (k.map Val.int) (some ((a + 1:Nat):Int)) none)) s) = _
 rw [HT.m8,hl,if_neg (by lia),ql,xU (by lia)]
 rfl
theorem AI {a b:List Int} {s:ai} (h:a.length + b.length ≤ 1000000):bR (tupI a) (tupI b) s = .ok (tupI (a ++ b)) s:=by
 show (if (a.map Val.int).length + (b.map Val.int).length ≤ sizeLine then Res.ok (Val.tup (a.map Val.int ++ b.map Val.int)) s else .bad) = _
 rw [if_pos (by rw [List.length_map,List.length_map,sizeLine_eq]; lia),← List.map_append]
 rfl
end PG
namespace PG
open PySem PySem.Spec L2 MN
open PyProof.Rows hiding St kindOf
end PG
namespace PG
open PySem PySem.Spec L2 MN
open PyProof.Rows hiding St kindOf
end PG
namespace PG
open PySem PySem.Spec L2 MN
open PyProof.Rows hiding St kindOf
end PG
namespace PG
open PySem PySem.Spec L2 MN
open PyProof.Rows hiding St kindOf
end PG
namespace PG
open PySem PySem.Spec L2 MN
open PyProof.Rows hiding St kindOf
section
variable {μ:MN.Env} {s s1 s2:ai} {a b:ME} {f:F2} {x y:Val} {r:Res Val} {t u:MT} {c:Bool} {B:MB}
theorem aS (h1:a μ s = .ok x s1) (h2:b μ s1 = .ok y s2):ah f a b μ s = f x y s2:=by
 show (a μ s).bind _ = _
 rw [h1]
 show (b μ s1).bind _ = _
 rw [h2]
theorem dc (h:a μ s = .ok (.bl c) s1):cJ a μ s = .ok c s1:=by rw [cT,h]; rfl
theorem tU (h1:t μ s = .ok false s1) (h2:u μ s1 = .ok false s2):jy t u μ s = .ok false s2:=by rw [rp,h1,av,rq,h2]
theorem qq (h:t μ s = .ok true s1):d0 t μ s = .ok false s1:=by rw [wt,h]; rfl
theorem iz (h:t μ s = .ok false s1):gW t B bQ μ s = .nx μ s1:=by rw [dD,h,aK,gp]; rfl
theorem Gx (h1:a μ s = .ok (.bl true) s1) (h2:b μ s1 = r):uL a b μ s = r:=by rw [u3,h1,av,rm,h2]
end
theorem Gy (t:bE):tm 14 (tV t) = true:=by
 show (fP 12 (t.1.map Val.int) && (true && true)) = true
 rw [tq]; rfl
theorem Gz (D:List bE):fP 14 (D.map tV) = true:=ja fun u hu => by
 obtain ⟨t,_,rfl⟩:=List.mem_map.mp hu
 exact Gy t
theorem cO {s:ai} {n:Nat} {c:Cell} (h:s[n]? = some c) (more:ai):(s ++ more)[n]? = some c:=by
 have:n < s.length:=by
  rcases Nat.lt_or_ge n s.length with q | q
  ·exact q
  ·rw [List.getElem?_eq_none q] at h; cases h
 rw [List.getElem?_append_left this]; exact h
end PG
namespace PG
open PySem PySem.Spec L2 MN
open PyProof.Rows hiding St kindOf
noncomputable def aD (r n:Int):Int:=if r = 0 then n else n.fmod r
theorem gr (r n:Int) (st:ai):PM.bf [.int r,.int n] st = .ok (.int (aD r n)) st:=by
 unfold aD
 by_cases h:r = 0
 ·have e:(r == 0) = true:=by rw [h]; rfl
  rw [if_pos h]
  simp only [PM.bf,cD,av,aK,jB,dC,cA,dE,cB,ff,gL,gn,c_,cT,aA,bK,dD,fW,dF,gY,List.map_cons,List.map_nil,List.cons_append,List.nil_append,List.replicate_zero,Nat.reduceSub,List.length_cons,List.length_nil,Nat.reduceAdd,e]
 ·have e:(r == 0) = false:=by simpa using h
  rw [if_neg h]
  simp only [PM.bf,cD,av,aK,aB,dC,cA,dE,cB,ff,gp,gn,c_,cT,aA,fY,bK,dD,fW,dF,gY,List.map_cons,List.map_nil,List.cons_append,List.nil_append,List.replicate_zero,Nat.reduceSub,List.length_cons,List.length_nil,Nat.reduceAdd,e,cN h]
noncomputable def AJ (A:List bE):List bE:=(kf (A.map (·.1))).map fun k => (k,cR A k)
noncomputable def dA (r:Int) (A:List bE):List bE:=((AJ A).map fun t => (t.1,aD r t.2)).filter fun t => t.2 != 0
theorem kg (r n:Int) (st:ai):PM.aC [.int r,.int n] st = .ok (.int (aD r n)) st:=by
 unfold aD
 by_cases h:r = 0
 ·have e:(r == 0) = true:=by rw [h]; rfl
  rw [if_pos h]
  simp only [PM.aC,cD,av,aK,dC,cA,dE,cB,CF,ff,gn,c_,cT,D8,bK,fW,dF,gY,List.map_cons,List.map_nil,List.cons_append,List.nil_append,List.replicate_zero,Nat.reduceSub,List.length_cons,List.length_nil,Nat.reduceAdd,e]
 ·have e:(r == 0) = false:=by simpa using h
  rw [if_neg h]
  simp only [PM.aC,cD,av,aK,dC,cA,dE,cB,CG,ff,gn,c_,cT,D8,bK,fW,dF,gY,List.map_cons,List.map_nil,List.cons_append,List.nil_append,List.replicate_zero,Nat.reduceSub,List.length_cons,List.length_nil,Nat.reduceAdd,e,cN h]
theorem vc {p:Nat} {L:List bE} {r:Int} {st:ai} (h:itemsOf st p = some (L.map tV)) (hl:L.length ≤ 1000000) :
  ∃ c,PM.cU [.int r,.loc p] st = .ok (.loc (st.length + 1)) (st ++ [c,.lst (((L.map fun t => (t.1,aD r t.2)).filter fun t => t.2 != 0).map tV)]):=by
 obtain ⟨L',MC⟩:∃ L':List bE,L' = L.map fun t => (t.1,aD r t.2):=⟨_,rfl⟩
 have cp:=du (a:=jh [aName 0,aName 1]) (c:=cK) (e:=fE (ae (aa 0) (ae (aq PM.aC (ae (aa 2) (ae (aa 1) ak))) ak))) (g:=fun aw => itemsOf aw p = some (L.map tV)) (st:=st) h (fun τ => ∃ x y,τ = [x,y,some (.int r)]) (fun _ => true) (fun v => tV ((wI v).1,aD r (wI v).2)) (L.map tV) [none,none,some (.int r)] [] ⟨_,_,rfl⟩ (by
  rintro u hu τ ⟨x,y,rfl⟩
  obtain ⟨t,ht,rfl⟩:=List.mem_map.mp hu
  refine ⟨[some (tupI t.1),some (.int t.2),some (.int r)],rfl,⟨_,_,rfl⟩,rfl,fun _ => ?_⟩
  have e0:aa 0 [some (tupI t.1),some (.int t.2),some (.int r)] st = .ok (tupI t.1) st:=rfl
  have e1:aq PM.aC (ae (aa 2) (ae (aa 1) ak)) [some (tupI t.1),some (.int t.2),some (.int r)] st = .ok (.int (aD r t.2)) st:=by
   show PM.aC [.int r,.int t.2] st = _
   exact kg _ _ _
  rw [qp,kQ,bN,e0,av,cL,bN,e1,av,cL,da,av,bO,av,bO,av,qd]
  exact if_pos (by rw [sizeLine_eq]; show 2 ≤ 16777216; decide))
 have e:(List.filter (fun _ => true) (L.map tV)).map (fun v => tV ((wI v).1,aD r (wI v).2)) = L'.map tV:=by
  rw [List.filter_eq_self.mpr fun _ _ => rfl,List.map_map,MC,List.map_map]
  refine List.map_congr_left fun t _ => ?_
  show tV ((wI (tV t)).1,aD r (wI (tV t)).2) = _
  rw [qp]; rfl
 rw [e,List.nil_append] at cp
 obtain ⟨s,hs⟩:∃ s,s = st ++ [Cell.lst (L'.map tV)]:=⟨_,rfl⟩
 have ls:s.length = st.length + 1:=by rw [hs,List.length_append]; rfl
 have h2:itemsOf s st.length = some (L'.map tV):=by rw [hs]; exact cC st _
 have lL:L'.length = L.length:=by rw [MC,List.length_map]
 have Rv:=du (a:=aName 0) (c:=cJ (ah jW (ah bL (aa 0) (mC (.int 1))) (mC (.int 0)))) (e:=aa 0) (g:=fun aw => itemsOf aw st.length = some (L'.map tV)) (st:=s) h2 (fun τ => ∃ x,τ = [x]) (fun v => (wI v).2 != 0) (fun v => v) (L'.map tV) [none] [] ⟨_,rfl⟩ (by
  rintro u hu τ ⟨x,rfl⟩
  obtain ⟨t,ht,rfl⟩:=List.mem_map.mp hu
  refine ⟨[some (tV t)],rfl,⟨_,rfl⟩,?_,fun _ => rfl⟩
  rw [qp]
  refine dc ?_
  rw [aS (x:=.int t.2) (s1:=s) rfl (y:=.int 0) (s2:=s) rfl,tj]
  rfl)
 have e2:(List.filter (fun v => (wI v).2 != 0) (L'.map tV)).map (fun v => v) = (L'.filter fun t => t.2 != 0).map tV:=by
  rw [List.map_id',List.filter_map]
  have:((fun v => (wI v).2 != 0) ∘ tV) = fun t => t.2 != 0:=by
   funext t
   show ((wI (tV t)).2 != 0) = _
   rw [qp]
  rw [this]
 rw [e2,List.nil_append] at Rv
 refine ⟨.lst (L'.map tV),?_⟩
 have v1:aa 1 [some (Val.int r),some (.loc p),none] st = .ok (.loc p) st:=rfl
 have IG:j4 2 [0] [some (Val.int r),some (.loc p),none] = [none,none,some (.int r)]:=rfl
 have comp:cZ 2 [0] (e_ (aa 1)) (jh [aName 0,aName 1]) cK (fE (ae (aa 0) (ae (aq PM.aC (ae (aa 2) (ae (aa 1) ak))) ak))) [some (.int r),some (.loc p),none] st = .ok (.loc st.length) s:=by
  rw [gC,fu,v1,av,eJ h,av,iR,if_pos (by rw [List.length_map,sizeLine_eq]; lia),IG,cp,av,l_,hs]
 have v2:aa 2 [some (Val.int r),some (.loc p),some (.loc st.length)] s = .ok (.loc st.length) s:=rfl
 have MD:j4 1 [] [some (Val.int r),some (.loc p),some (.loc st.length)] = [none]:=rfl
 have Jp:cZ 1 [] (e_ (aa 2)) (aName 0) (cJ (ah jW (ah bL (aa 0) (mC (.int 1))) (mC (.int 0)))) (aa 0) [some (.int r),some (.loc p),some (.loc st.length)] s = .ok (.loc s.length) (s ++ [.lst ((L'.filter fun t => t.2 != 0).map tV)]):=by
  rw [gC,fu,v2,av,eJ h2,av,iR,if_pos (by rw [List.length_map,sizeLine_eq]; lia),MD,Rv,av,l_]
 have first:aG 2 (cZ 2 [0] (e_ (aa 1)) (jh [aName 0,aName 1]) cK (fE (ae (aa 0) (ae (aq PM.aC (ae (aa 2) (ae (aa 1) ak))) ak)))) [some (.int r),some (.loc p),none] st = .nx [some (.int r),some (.loc p),some (.loc st.length)] s:=by
  rw [ik,comp,aK]; rfl
 have es:st ++ [Cell.lst (L'.map tV),.lst ((L'.filter fun t => t.2 != 0).map tV)] = s ++ [.lst ((L'.filter fun t => t.2 != 0).map tV)]:=by rw [hs,List.append_assoc]; rfl
 unfold PM.cU
 rw [cD (np:=2) (us:=[Val.int r,.loc p]) rfl,← MC,es,← ls]
 show (aE (aG 2 (cZ 2 [0] (e_ (aa 1)) (jh [aName 0,aName 1]) cK (fE (ae (aa 0) (ae (aq PM.aC (ae (aa 2) (ae (aa 1) ak))) ak))))) (bF (cZ 1 [] (e_ (aa 2)) (aName 0) (cJ (ah jW (ah bL (aa 0) (mC (.int 1))) (mC (.int 0)))) (aa 0))) [some (.int r),some (.loc p),none] st).fin = _
 rw [aA,first,aB,bK,Jp,aK]
 rfl
end PG
namespace PG
open PySem PySem.Spec L2 MN
open PyProof.Rows hiding St kindOf
noncomputable def fe (P:List bE):List bE:=P.foldl (fun A t => g7 A t.1 (cR A t.1 + t.2)) []
theorem ye (P:List bE) (t:bE):fe (P ++ [t]) = g7 (fe P) t.1 (cR (fe P) t.1 + t.2):=by
 unfold fe
 rw [List.foldl_append]; rfl
theorem fold_all (K:List (List Int)):∀ (P A:List bE),(A.map (·.1)).Nodup → (∀ t ∈ A,t.1 ∈ K) → (∀ t ∈ P,t.1 ∈ K) →
  ((P.foldl (fun A t => g7 A t.1 (cR A t.1 + t.2)) A).map (·.1)).Nodup ∧ (P.foldl (fun A t => g7 A t.1 (cR A t.1 + t.2)) A).length ≤ A.length + P.length ∧ ∀ t ∈ P.foldl (fun A t => g7 A t.1 (cR A t.1 + t.2)) A,t.1 ∈ K
 | [],A,h1,h2,_ => ⟨h1,by simp,h2⟩
 | t :: P,A,h1,h2,h3 => by
  have ih:=fold_all K P (g7 A t.1 (cR A t.1 + t.2)) (u9 h1 _ _) (fun q hq => by
   rcases oz hq with hq | rfl
   ·exact h2 q hq
   ·exact h3 t List.mem_cons_self) (fun q hq => h3 q (List.mem_cons_of_mem _ hq))
  refine ⟨ih.1,Nat.le_trans ih.2.1 ?_,ih.2.2⟩
  have:=AF (A:=A) (k:=t.1) (v:=cR A t.1 + t.2)
  rw [List.length_cons]
  lia
theorem kh (P:List bE):((fe P).map (·.1)).Nodup ∧ (fe P).length ≤ P.length ∧ ∀ t ∈ fe P,t.1 ∈ P.map (·.1):=by
 have:=fold_all (P.map (·.1)) P [] List.nodup_nil (fun t ht => by cases ht) (fun t ht => List.mem_map.mpr ⟨t,ht,rfl⟩)
 refine ⟨this.1,?_,this.2.2⟩
 have:=this.2.1
 simp at this
 exact this
end PG
namespace PG
open PySem PySem.Spec L2 MN
open PyProof.Rows hiding St kindOf
noncomputable abbrev Ha:MB:=rh (aa 2) (ah bL (aa 3) (mC (.int 0))) (ah bR (n_ (aa 2) (ah bL (aa 3) (mC (.int 0))) (mC (.int 0))) (ah bL (aa 3) (mC (.int 1))))
theorem AK {s:ai} {d:Nat} {A:List bE} {t:bE} {x0 x1 x4 x5:Option Val} (h:s[d]? = some (.dT (A.map eD))) (hl:A.length < sizeLine) :
  Ha [x0,x1,some (.loc d),some (tV t),x4,x5] s = .nx [x0,x1,some (.loc d),some (tV t),x4,x5] (s.set d (.dT ((g7 A t.1 (cR A t.1 + t.2)).map eD))):=by
 have hd:xH s (.loc d) = true:=by
  unfold xH
  dsimp only
  rw [h]
 have e1:n_ (aa 2) (ah bL (aa 3) (mC (.int 0))) (mC (.int 0)) [x0,x1,some (.loc d),some (tV t),x4,x5] s = .ok (.int (cR A t.1)) s:=by
  show (if xH s (.loc d) = true then (match lY s (.loc d) (tupI t.1) with | some o => Res.ok (o.getD (.int 0)) s | none => .bad) else .bad) = _
  rw [if_pos hd,wG h t.1]
  show Res.ok (Option.getD _ (Val.int 0)) s = _
  rw [yc]
 have i1:ah bL (aa 3) (mC (.int 1)) [x0,x1,some (.loc d),some (tV t),x4,x5] s = .ok (.int t.2) s:=rfl
 have e2:ah bR (n_ (aa 2) (ah bL (aa 3) (mC (.int 0))) (mC (.int 0))) (ah bL (aa 3) (mC (.int 1))) [x0,x1,some (.loc d),some (tV t),x4,x5] s = .ok (.int (cR A t.1 + t.2)) s:=by
  rw [aS e1 i1]; rfl
 unfold Ha rh
 rw [e2]
 show (match kN s (.loc d) (tupI t.1) (.int (cR A t.1 + t.2)) with | some lX => dk.nx _ lX | none => .bad) = _
 rw [yb h hl]
noncomputable def yf (r:Int) (A:List bE) (ks:List (List Int)):List bE:=(ks.map fun k => (k,aD r (cR A k))).filter fun t => t.2 != 0
theorem AL (r:Int) (A:List bE) (ks:List (List Int)) (k:List Int):yf r A (ks ++ [k]) = yf r A ks ++ (if aD r (cR A k) != 0 then [(k,aD r (cR A k))] else []):=by
 unfold yf
 rw [List.map_append,List.filter_append]
 congr 1
 show List.filter _ [(k,aD r (cR A k))] = _
 by_cases h:(aD r (cR A k) != 0) = true
 ·rw [if_pos h,List.filter_cons_of_pos (p:=fun t:bE => t.2 != 0) h]; rfl
 ·rw [if_neg h,List.filter_cons_of_neg (p:=fun t:bE => t.2 != 0) h]; rfl
theorem oA (r:Int) (A:List bE):yf r A (kf (A.map (·.1))) = dA r A:=by
 unfold yf dA AJ
 rw [List.map_map]; rfl
theorem wJ (r:Int) (A:List bE) (ks:List (List Int)):(yf r A ks).length ≤ ks.length:=by
 unfold yf
 refine Nat.le_trans (List.length_filter_le _ _) ?_
 rw [List.length_map]; exact Nat.le_refl _
noncomputable abbrev GA:ME:=aq PM.bf (ae (aa 0) (ae (ah j6 (aa 2) (aa 5)) ak))
noncomputable abbrev Jq:MB:=gW (cJ (ah jW GA (mC (.int 0)))) (dz (ij bM (aa 4) (ae (fE (ae (aa 5) (ae GA ak))) ak))) bQ
theorem AM {s:ai} {d q:Nat} {A:List bE} {r:Int} {ks:List (List Int)} {k:List Int} {x1 x3:Option Val} (h:s[d]? = some (.dT (A.map eD))) (hq:s[q]? = some (.lst ((yf r A ks).map tV))) (hl:ks.length ≤ 1000000) (hk:k ∈ A.map (·.1)) :
  Jq [some (.int r),x1,some (.loc d),x3,some (.loc q),some (tupI k)] s = .nx [some (.int r),x1,some (.loc d),x3,some (.loc q),some (tupI k)] (s.set q (.lst ((yf r A (ks ++ [k])).map tV))):=by
 obtain ⟨μ,hμ⟩:∃ μ:MN.Env,μ = [some (.int r),x1,some (.loc d),x3,some (.loc q),some (tupI k)]:=⟨_,rfl⟩
 have v4:aa 4 μ s = .ok (.loc q) s:=by rw [hμ]; rfl
 have v5:aa 5 μ s = .ok (tupI k) s:=by rw [hμ]; rfl
 have v0:aa 0 μ s = .ok (.int r) s:=by rw [hμ]; rfl
 have dg:ah j6 (aa 2) (aa 5) μ s = .ok (.int (cR A k)) s:=by
  rw [hμ]
  show j6 (.loc d) (tupI k) s = _
  exact C9 h hk
 have sl:GA μ s = .ok (.int (aD r (cR A k))) s:=by
  unfold GA
  rw [d8,bN,v0,av,cL,bN,dg,av,cL,da,av,bO,av,bO,av]
  exact gr _ _ _
 have mf:cJ (ah jW GA (mC (.int 0))) μ s = .ok (aD r (cR A k) != 0) s:=by
  refine dc ?_
  rw [aS sl (y:=.int 0) (s2:=s) rfl,tj]; rfl
 rw [← hμ,AL]
 show gW _ _ _ μ s = _
 rw [dD,mf,aK]
 cases c:aD r (cR A k) != 0 with
 | true =>
  have ap:=gh (v:=tV (k,aD r (cR A k))) hq (by rw [List.length_map,sizeLine_eq]; have:=wJ r A ks; lia)
  have arg:ae (fE (ae (aa 5) (ae GA ak))) ak μ s = .ok [tV (k,aD r (cR A k))] s:=by
   have tp:fE (ae (aa 5) (ae GA ak)) μ s = .ok (tV (k,aD r (cR A k))) s:=by
    rw [kQ,bN,v5,av,cL,bN,sl,av,cL,da,av,bO,av,bO,av,qd]
    exact if_pos (by rw [sizeLine_eq]; show 2 ≤ 16777216; decide)
   rw [bN,tp,av,cL,da,av,bO]
  rw [gL,gB,kW,v4,av,qh hq,arg,av,qi,ap,if_pos rfl,List.map_append]
  rfl
 | false =>
  rw [gp,if_neg (by decide),List.append_nil]
  have:s.set q (.lst ((yf r A ks).map tV)) = s:=by
   apply List.ext_getElem?
   intro j
   rw [List.getElem?_set]
   by_cases e:q = j
   ·rw [if_pos e]
    subst e
    split
    ·exact hq.symm
    ·rw [List.getElem?_eq_none (by lia)]
   ·rw [if_neg e]
  rw [this]
  rfl
end PG
namespace PG
open PySem PySem.Spec L2 MN
open PyProof.Rows hiding St kindOf
theorem AN {p:Nat} {P:List bE} {st:ai} {x0:Option Val} (h:itemsOf st p = some (P.map tV)) (hl:P.length < 1000000) :
  ∃ y3,forL (fun aw => itemsOf aw p = some (P.map tV)) (aName 3) Ha (P.map tV) [x0,some (.loc p),some (.loc st.length),none,none,none] (st ++ [.dT []]) = .nx [x0,some (.loc p),some (.loc st.length),y3,none,none] (st ++ [.dT ((fe P).map eD)]):=by
 have hg:∀ (A:List bE),itemsOf (st ++ [.dT (A.map eD)]) p = some (P.map tV):=fun A => aJ h _
 obtain ⟨μ',aw,e,rfl,y3,rfl⟩:=b_ (g:=fun aw => itemsOf aw p = some (P.map tV)) (a:=aName 3) (body:=Ha)
  (fun i μ s' => s' = st ++ [.dT ((fe (P.take i)).map eD)] ∧ ∃ y3,μ = [x0,some (.loc p),some (.loc st.length),y3,none,none])
  (P.map tV) 0 [x0,some (.loc p),some (.loc st.length),none,none,none] (st ++ [.dT []])
  (by
   rintro i u μ s' hu ⟨rfl,y3,rfl⟩
   rw [Nat.zero_add]
   refine ⟨hg _,?_⟩
   rw [List.getElem?_map] at hu
   have hi:i < P.length:=by
    rcases Nat.lt_or_ge i P.length with q | q
    ·exact q
    ·rw [List.getElem?_eq_none q] at hu; cases hu
   rw [List.getElem?_eq_getElem hi] at hu
   obtain ⟨t,ht⟩:∃ t,t = P[i]:=⟨_,rfl⟩
   rw [← ht] at hu
   cases hu
   have tk:P.take (i + 1) = P.take i ++ [t]:=by
    rw [List.take_succ,List.getElem?_eq_getElem hi,← ht]; rfl
   have lA:=(kh (P.take i)).2.1
   rw [List.length_take] at lA
   have ad:=AK (x0:=x0) (x1:=some (.loc p)) (x4:=none) (x5:=none) (t:=t) (C8 st ((fe (P.take i)).map eD)) (by rw [sizeLine_eq]; lia)
   rw [set_dict,← ye,← tk] at ad
   exact ⟨_,rfl,_,_,.inl ad,rfl,_,rfl⟩)
  (fun μ s hp => by obtain ⟨rfl,_⟩:=hp; exact hg _)
  ⟨rfl,none,rfl⟩
 rw [Nat.zero_add,List.length_map,List.take_of_length_le (Nat.le_refl _)] at e
 exact ⟨y3,e⟩
theorem AO {st:ai} {A:List bE} {r:Int} {x1 x3:Option Val} (hl:A.length < 1000000) :
  ∃ y5,forL (fun aw => itemsOf aw (st.length + 2) = some ((kf (A.map (·.1))).map tupI)) (aName 5) Jq ((kf (A.map (·.1))).map tupI) [some (.int r),x1,some (.loc st.length),x3,some (.loc (st.length + 1)),none] (st ++ [.dT (A.map eD),.lst [],.lst ((kf (A.map (·.1))).map tupI)]) =
   .nx [some (.int r),x1,some (.loc st.length),x3,some (.loc (st.length + 1)),y5] (st ++ [.dT (A.map eD),.lst ((dA r A).map tV),.lst ((kf (A.map (·.1))).map tupI)]):=by
 obtain ⟨ks,Jl⟩:∃ ks,ks = kf (A.map (·.1)):=⟨_,rfl⟩
 have lk:ks.length = A.length:=by rw [Jl,(gq _).length_eq,List.length_map]
 rw [← oA,← Jl]
 have TB:∀ (us:List Val),(st ++ [Cell.dT (A.map eD),.lst us,.lst (ks.map tupI)])[st.length]? = some (.dT (A.map eD)):=fun us => by
  rw [List.getElem?_append_right (Nat.le_refl _),Nat.sub_self]; rfl
 have TC:∀ (us:List Val),(st ++ [Cell.dT (A.map eD),.lst us,.lst (ks.map tupI)])[st.length + 1]? = some (.lst us):=fun us => by
  rw [List.getElem?_append_right (by lia),show st.length + 1 - st.length = 1 by lia]; rfl
 have at2:∀ (us:List Val),(st ++ [Cell.dT (A.map eD),.lst us,.lst (ks.map tupI)])[st.length + 2]? = some (.lst (ks.map tupI)):=fun us => by
  rw [List.getElem?_append_right (by lia),show st.length + 2 - st.length = 2 by lia]; rfl
 have aX:∀ (us ws:List Val),(st ++ [Cell.dT (A.map eD),.lst us,.lst (ks.map tupI)]).set (st.length + 1) (.lst ws) = st ++ [Cell.dT (A.map eD),.lst ws,.lst (ks.map tupI)]:=fun us ws => by
  rw [List.set_append_right _ _ (by lia),show st.length + 1 - st.length = 1 by lia]; rfl
 obtain ⟨μ',aw,e,rfl,y5,rfl⟩:=b_ (g:=fun aw => itemsOf aw (st.length + 2) = some (ks.map tupI)) (a:=aName 5) (body:=Jq)
  (fun i μ s' => s' = st ++ [.dT (A.map eD),.lst ((yf r A (ks.take i)).map tV),.lst (ks.map tupI)] ∧ ∃ y5,μ = [some (.int r),x1,some (.loc st.length),x3,some (.loc (st.length + 1)),y5])
  (ks.map tupI) 0 [some (.int r),x1,some (.loc st.length),x3,some (.loc (st.length + 1)),none] (st ++ [.dT (A.map eD),.lst [],.lst (ks.map tupI)])
  (by
   rintro i u μ s' hu ⟨rfl,y5,rfl⟩
   rw [Nat.zero_add]
   refine ⟨dJ (at2 _),?_⟩
   rw [List.getElem?_map] at hu
   have hi:i < ks.length:=by
    rcases Nat.lt_or_ge i ks.length with q | q
    ·exact q
    ·rw [List.getElem?_eq_none q] at hu; cases hu
   rw [List.getElem?_eq_getElem hi] at hu
   obtain ⟨k,hk⟩:∃ k,k = ks[i]:=⟨_,rfl⟩
   have mk:k ∈ A.map (·.1):=by
    refine (gq _).mem_iff.mp ?_
    rw [← Jl,hk]; exact List.getElem_mem hi
   rw [← hk] at hu
   cases hu
   have tk:ks.take (i + 1) = ks.take i ++ [k]:=by
    rw [List.take_succ,List.getElem?_eq_getElem hi,← hk]; rfl
   have es:=AM (x1:=x1) (x3:=x3) (TB _) (TC ((yf r A (ks.take i)).map tV)) (by rw [List.length_take]; lia) mk
   rw [aX,← tk] at es
   exact ⟨_,rfl,_,_,.inl es,rfl,_,rfl⟩)
  (fun μ s hp => by obtain ⟨rfl,_⟩:=hp; exact dJ (at2 _))
  ⟨rfl,none,rfl⟩
 rw [Nat.zero_add,List.length_map,List.take_of_length_le (Nat.le_refl _)] at e
 exact ⟨y5,e⟩
theorem mP {p:Nat} {P:List bE} {r:Int} {st:ai} (h:itemsOf st p = some (P.map tV)) (hl:P.length < 1000000) (ne:∀ t ∈ P,t.1 ≠ []) :
  ∃ c1 c3,PM.bZ [.int r,.loc p] st = .ok (.loc (st.length + 1)) (st ++ [c1,.lst ((dA r (fe P)).map tV),c3]):=by
 obtain ⟨A,hA⟩:∃ A,A = fe P:=⟨_,rfl⟩
 have ga:=kh P
 rw [← hA] at ga
 obtain ⟨y3,e1⟩:=AN (x0:=some (.int r)) h hl
 obtain ⟨y5,e2⟩:=AO (st:=st) (A:=A) (r:=r) (x1:=some (.loc p)) (x3:=y3) (by lia)
 rw [← hA] at e1 ⊢
 refine ⟨.dT (A.map eD),.lst ((kf (A.map (·.1))).map tupI),?_⟩
 have s1:aG 2 rf [some (.int r),some (.loc p),none,none,none,none] st = .nx [some (.int r),some (.loc p),some (.loc st.length),none,none,none] (st ++ [.dT []]):=rfl
 have v1:aa 1 [some (Val.int r),some (.loc p),some (.loc st.length),none,none,none] (st ++ [.dT []]) = .ok (.loc p) (st ++ [.dT []]):=rfl
 have s2:dr (e_ (aa 1)) (aName 3) Ha [some (.int r),some (.loc p),some (.loc st.length),none,none,none] (st ++ [.dT []]) = .nx [some (.int r),some (.loc p),some (.loc st.length),y3,none,none] (st ++ [.dT (A.map eD)]):=by
  rw [dI,fu,v1,av,eJ (aJ h _),aK,fI]
  exact e1
 have ld:(st ++ [Cell.dT (A.map eD)]).length = st.length + 1:=by rw [List.length_append]; rfl
 have s3:aG 4 (e9 ak) [some (.int r),some (.loc p),some (.loc st.length),y3,none,none] (st ++ [.dT (A.map eD)]) = .nx [some (.int r),some (.loc p),some (.loc st.length),y3,some (.loc (st.length + 1)),none] (st ++ [.dT (A.map eD),.lst []]):=by
  rw [← ld]
  have q:e9 ak [some (Val.int r),some (.loc p),some (.loc st.length),y3,none,none] (st ++ [.dT (A.map eD)]) = .ok (.loc (st ++ [Cell.dT (A.map eD)]).length) (st ++ [.dT (A.map eD)] ++ [.lst []]):=by simp only [av,qe,da,kR,List.length_nil,sizeLine_eq,Nat.reduceLeDiff,↓reduceIte]
  rw [ik,q,aK,List.append_assoc]
  rfl
 have hd:(st ++ [Cell.dT (A.map eD),.lst []])[st.length]? = some (.dT (A.map eD)):=by
  rw [List.getElem?_append_right (Nat.le_refl _),Nat.sub_self]; rfl
 have Jr:(A.map eD).map (·.1) = (A.map (·.1)).map iK:=by rw [List.map_map,List.map_map]; rfl
 have Rx:=C6 (ks:=A.map (·.1)) hd Jr (by rw [List.length_map,sizeLine_eq]; lia) (fun k hk => by
  obtain ⟨t,ht,rfl⟩:=List.mem_map.mp hk
  obtain ⟨q,hq,e⟩:=List.mem_map.mp (ga.2.2 t ht)
  rw [← e]; exact ne q hq)
 have l2:(st ++ [Cell.dT (A.map eD),.lst []]).length = st.length + 2:=by rw [List.length_append]; rfl
 rw [l2,List.append_assoc] at Rx
 have hit:itemsOf (st ++ [Cell.dT (A.map eD),.lst [],.lst ((kf (A.map (·.1))).map tupI)]) (st.length + 2) = some ((kf (A.map (·.1))).map tupI):=by
  refine dJ ?_
  rw [List.getElem?_append_right (by lia),show st.length + 2 - st.length = 2 by lia]; rfl
 have v2:aa 2 [some (Val.int r),some (.loc p),some (.loc st.length),y3,some (.loc (st.length + 1)),none] (st ++ [.dT (A.map eD),.lst []]) = .ok (.loc st.length) (st ++ [.dT (A.map eD),.lst []]):=rfl
 have s4:dr (e_ (oy (aa 2))) (aName 5) Jq [some (.int r),some (.loc p),some (.loc st.length),y3,some (.loc (st.length + 1)),none] (st ++ [.dT (A.map eD),.lst []]) = .nx [some (.int r),some (.loc p),some (.loc st.length),y3,some (.loc (st.length + 1)),y5] (st ++ [.dT (A.map eD),.lst ((dA r A).map tV),.lst ((kf (A.map (·.1))).map tupI)]):=by
  rw [dI,fu,AG,v2,av,Rx,av]
  show (oh (.loc (st.length + 2)) (st ++ [Cell.dT (A.map eD),.lst [],.lst ((kf (A.map (·.1))).map tupI)])).xO _ _ = _
  rw [eJ hit,aK,fI]
  exact e2
 unfold PM.bZ
 rw [cD (np:=2) (us:=[Val.int r,.loc p]) rfl]
 show (aE (aG 2 rf) (aE (dr (e_ (aa 1)) (aName 3) Ha) (aE (aG 4 (e9 ak)) (aE (dr (e_ (oy (aa 2))) (aName 5) Jq) (bF (aa 4))))) [some (.int r),some (.loc p),none,none,none,none] st).fin = _
 rw [aA,s1,aB,aA,s2,aB,aA,s3,aB,aA,s4,aB]
 rfl
end PG
namespace PG
open PySem PySem.Spec L2 MN
open PyProof.Rows hiding St kindOf
structure Good (many:Nat) (t:bE):Prop where
 len:t.1.length = many
 rg:∀ e ∈ t.1,0 ≤ e ∧ e ≤ 99
end PG
namespace PG
open PySem PySem.Spec L2 MN
open PyProof.Rows hiding St kindOf
end PG
namespace PG
open PySem PySem.Spec L2 MN
open PyProof.Rows hiding St kindOf
noncomputable abbrev wK:ME:=ah bL (aa 0) (aa 2)
noncomputable abbrev MF:MT:=jy (d0 (cJ (uR "tuple" wK))) (jy (cJ (ah jW (aq fg (ae wK ak)) (mC (.int 2)))) (d0 (cJ (aq PM.cF (ae (ah bL wK (mC (.int 1))) ak)))))
noncomputable abbrev KC:ME:=cZ 1 [] (e_ (ah bL wK (mC (.int 0)))) (aName 0) (d0 (cJ (aq PM.cF (ae (aa 0) ak)))) (aa 0)
noncomputable abbrev MG:MT:=jy (d0 (cJ (uR "tuple" (ah bL wK (mC (.int 0)))))) (cJ (ah jW KC (e9 ak)))
noncomputable abbrev KD:MB:=aE (gW MF (bF (mC (.bl false))) bQ) (gW MG (bF (mC (.bl false))) bQ)
theorem C_ {s:ai} {μ:MN.Env} {t:bE} (hX:wK μ s = .ok (tV t) s) (hl:t.1.length ≤ 1000000):KD μ s = .nx μ (s ++ [.lst [],.lst []]):=by
 have ca:cJ (uR "tuple" wK) μ s = .ok true s:=dc (by rw [zZ,hX,av]; rfl)
 have MJ:aq fg (ae wK ak) μ s = .ok (.int 2) s:=by
  rw [d8,bN,hX,av,cL,da,av,bO,av]; rfl
 have cb:cJ (ah jW (aq fg (ae wK ak)) (mC (.int 2))) μ s = .ok false s:=dc (by rw [aS MJ (y:=.int 2) (s2:=s) rfl]; rfl)
 have x1:ah bL wK (mC (.int 1)) μ s = .ok (.int t.2) s:=by rw [aS hX (y:=.int 1) (s2:=s) rfl]; rfl
 have x0:ah bL wK (mC (.int 0)) μ s = .ok (tupI t.1) s:=by rw [aS hX (y:=.int 0) (s2:=s) rfl]; rfl
 have cc:cJ (aq PM.cF (ae (ah bL wK (mC (.int 1))) ak)) μ s = .ok true s:=dc (by
  rw [d8,bN,x1,av,cL,da,av,bO,av]; rfl)
 have cd:cJ (uR "tuple" (ah bL wK (mC (.int 0)))) μ s = .ok true s:=dc (by rw [zZ,x0,av]; rfl)
 have cp:=du (a:=aName 0) (c:=d0 (cJ (aq PM.cF (ae (aa 0) ak)))) (e:=aa 0) (g:=fun _ => True) (st:=s) trivial (fun τ => ∃ x,τ = [x]) (fun _ => false) (fun v => v) (t.1.map Val.int) [none] [] ⟨_,rfl⟩ (by
  rintro u hu τ ⟨x,rfl⟩
  obtain ⟨e,he,rfl⟩:=List.mem_map.mp hu
  exact ⟨[some (.int e)],rfl,⟨_,rfl⟩,rfl,fun z => by cases z⟩)
 rw [List.filter_eq_nil_iff.mpr (fun _ _ z => by cases z),List.map_nil,List.append_nil] at cp
 have IG:j4 1 [] μ = [none]:=rfl
 have pc:KC μ s = .ok (.loc s.length) (s ++ [.lst []]):=by
  unfold KC
  rw [gC,fu,x0,av]
  show ((oh (.tup (t.1.map Val.int)) s).i_ _) = _
  rw [xP,av,iR,if_pos (by rw [List.length_map,sizeLine_eq]; lia),IG,cp,av,l_]
 have pl:e9 ak μ (s ++ [.lst []]) = .ok (.loc (s ++ [Cell.lst []]).length) (s ++ [.lst []] ++ [.lst []]):=by simp only [av,qe,da,kR,List.length_nil,sizeLine_eq,Nat.reduceLeDiff,↓reduceIte]
 have ce:cJ (ah jW KC (e9 ak)) μ s = .ok false (s ++ [.lst []] ++ [.lst []]):=dc (by
  rw [aS pc pl]
  exact ne_nil (aJ (cC s []) _) (cC (s ++ [.lst []]) []))
 have es:s ++ [Cell.lst [],.lst []] = s ++ [.lst []] ++ [.lst []]:=by rw [List.append_assoc]; rfl
 unfold KD
 rw [aA,iz (tU (qq ca) (tU cb (qq cc))),aB,iz (tU (qq cd) ce),es]
theorem mq {a b:Nat} {D:List bE} {st:ai} (ha:st[a]? = some (.lst (D.map tV))) (hb:st[b]? = some (.lst (D.map tV))) (hl:D.length ≤ 1000000) (hk:∀ t ∈ D,t.1.length ≤ 1000000):∃ g,PM.eV [.loc a,.loc b] st = .ok (.bl true) (st ++ g):=by
 obtain ⟨n,hn⟩:∃ n:Int,n = ((D.map tV).length:Int):=⟨_,rfl⟩
 have nD:n.toNat = D.length:=by rw [hn,List.length_map]; simp
 have TF:=gD (st:=st) (j:=n) (by lia) (by rw [List.length_map] at hn; lia)
 obtain ⟨μ',aw,e,g,rfl,y,rfl⟩:=b_ (g:=fun _ => True) (a:=aName 2) (body:=KD)
  (fun _ μ s' => ∃ g,s' = st ++ g ∧ ∃ y,μ = [some (.loc a),some (.loc b),y])
  (aR 0 n.toNat) 0 [some (.loc a),some (.loc b),none] st
  (by
   rintro i u μ s' hu ⟨g,rfl,y,rfl⟩
   refine ⟨trivial,?_⟩
   have qr:=hu
   unfold aR at qr
   rw [List.getElem?_map] at qr
   have hi:i < n.toNat:=by
    rcases Nat.lt_or_ge i n.toNat with q | q
    ·exact q
    ·rw [List.getElem?_eq_none (by rw [List.length_range]; exact q)] at qr; cases qr
   rw [List.getElem?_eq_getElem (by rw [List.length_range]; exact hi),List.getElem_range] at qr
   have ue:u = .int ((i:Nat):Int):=by
    cases qr
    show Val.int (0 + (i:Int)) = _
    rw [Int.zero_add]
   subst ue
   have Ry:i < D.length:=by lia
   have TH:L2.nF (D.map tV) (i:Int) = some (tV D[i]):=L2.qI (by rw [List.getElem?_map,List.getElem?_eq_getElem Ry]; rfl)
   have hX:wK [some (.loc a),some (.loc b),some (.int (i:Int))] (st ++ g) = .ok (tV D[i]) (st ++ g):=by
    show bL (.loc a) (.int (i:Int)) (st ++ g) = _
    exact kU (aJ (dJ ha) _) TH
   exact ⟨[some (.loc a),some (.loc b),some (.int (i:Int))],rfl,_,_,.inl (C_ hX (hk _ (List.getElem_mem Ry))),g ++ [.lst [],.lst []],by rw [List.append_assoc],_,rfl⟩)
  (fun _ _ _ => trivial) ⟨[],by rw [List.append_nil],none,rfl⟩
 refine ⟨g,?_⟩
 have la:=j8 (dJ ha)
 have lb:=j8 (dJ hb)
 rw [← hn] at la lb
 have first:gW (jy (d0 (cJ (uR "list" (aa 0)))) (cJ (ah jW (aq fg (ae (aa 0) ak)) (aq fg (ae (aa 1) ak))))) (bF (mC (.bl false))) bQ [some (.loc a),some (.loc b),none] st = .nx [some (.loc a),some (.loc b),none] st:=by
  refine iz (tU (s1:=st) (qq (dc ?_)) (dc ?_))
  ·simp only [av,zZ,wu,is_list ha]
  ·rw [aS (x:=.int n) (s1:=st) la (y:=.int n) (s2:=st) lb,tj,beq_self_eq_true]; rfl
 have a1:a_ (ae (aq fg (ae (aa 1) ak)) ak) [some (.loc a),some (.loc b),none] st = .ok (aR 0 n.toNat,fun _ => True) st:=by
  simp only [av,cL,bO,da,bN,d8,fw,wu,gY,lb,TF]
 have last:ah gb (aa 0) (aa 1) [some (.loc a),some (.loc b),y] (st ++ g) = .ok (.bl true) (st ++ g):=by
  show gb (.loc a) (.loc b) (st ++ g) = _
  exact tu (aJ (dJ ha) _) (aJ (dJ hb) _) (Gz D)
 unfold PM.eV
 rw [cD (np:=2) (us:=[Val.loc a,.loc b]) rfl]
 show (aE (gW (jy (d0 (cJ (uR "list" (aa 0)))) (cJ (ah jW (aq fg (ae (aa 0) ak)) (aq fg (ae (aa 1) ak))))) (bF (mC (.bl false))) bQ) (aE (dr (a_ (ae (aq fg (ae (aa 1) ak)) ak)) (aName 2) KD) (bF (ah gb (aa 0) (aa 1)))) [some (.loc a),some (.loc b),none] st).fin = _
 rw [aA,first,aB,aA,dI,a1,aK,fI,e,aB,bK,last,aK]
 rfl
end PG
namespace PG
open PySem PySem.Spec L2 MN
open PyProof.Rows hiding St kindOf
section
variable {μ:MN.Env} {s s1 s2:ai} {m:ME} {o j:Int} {t:MT} {B:MB}
theorem gN (h:m μ s = .ok (.int o) s1) (hj:¬ j = 0):ah bD m (mC (.int j)) μ s = .ok (.int (o.fmod j)) s1:=by
 rw [aS h (y:=.int j) (s2:=s1) rfl]; exact cN hj
theorem il (h:m μ s = .ok (.int o) s1) (hj:Dz j):ah bA m (mC (.int j)) μ s = .ok (.int (o.fdiv j)) s1:=by
 rw [aS h (y:=.int j) (s2:=s1) rfl]; exact div_ii hj
theorem qt (h:m μ s = .ok (.int o) s1):ah gb m (mC (.int j)) μ s = .ok (.bl (o == j)) s1:=by
 rw [aS h (y:=.int j) (s2:=s1) rfl]; exact fW
theorem bT {i:Nat} {v:Val} (h:m μ s = .ok v s1):aG i m μ s = .nx (μ.set i (some v)) s1:=by
 rw [ik,h,aK]; rfl
theorem jE {C:MB} (h:t μ s = .ok true s1):gW t B C μ s = B μ s1:=by rw [dD,h,aK,gL]
theorem fL {v:Val} (h:m μ s = .ok v s1):ae m ak μ s = .ok [v] s1:=by rw [bN,h,av,cL,da,av,bO]
theorem d6 {m2:ME} {v w:Val} (h:m μ s = .ok v s1) (h2:m2 μ s1 = .ok w s2):ae m (ae m2 ak) μ s = .ok [v,w] s2:=by rw [bN,h,av,cL,fL h2,av,bO]
theorem ki {m2:MA} {v:Val} {ws:List Val} (h:m μ s = .ok v s1) (h2:m2 μ s1 = .ok ws s2):ae m m2 μ s = .ok (v :: ws) s2:=by rw [bN,h,av,cL,h2,av,bO]
theorem call_of {f:FN} {a:MA} {vs:List Val} (h:a μ s = .ok vs s1):aq f a μ s = f vs s1:=by rw [d8,h,av]
theorem AQ {a:MA} {vs:List Val} (h:a μ s = .ok vs s1) (hl:vs.length ≤ 1000):fE a μ s = .ok (.tup vs) s1:=by
 rw [kQ,h,av,qd]
 exact if_pos (by rw [sizeLine_eq]; lia)
theorem vd {a:MA} {vs:List Val} (h:a μ s = .ok vs s1) (hl:vs.length ≤ 1000):e9 a μ s = .ok (.loc s1.length) (s1 ++ [.lst vs]):=by
 rw [kR,h,av,qe]
 exact if_pos (by rw [sizeLine_eq]; lia)
theorem ve {a:MA} (h:a μ s = .ok [.int j] s1) (h1:-(2 ^ 62) ≤ j) (h2:j < 2 ^ 62):a_ a μ s = .ok (aR 0 j.toNat,fun _ => True) s1:=by
 rw [fw,h,av,gD h1 h2]
end
noncomputable abbrev MK:MB:=gW (jq (cJ (ah gb (aa 4) (mC (.int 4)))) (cJ (ah gb (ah bD (ah bA (aa 0) (mC (.int 256))) (mC (.int 8))) (aa 5)))) (aG 6 (ah bD (ah bA (aa 0) (mC (.int 2048))) (mC (.int 100)))) bQ
noncomputable abbrev leB:MB:=aE (aG 6 (ah bD (aa 3) (aa 4))) (aE (aG 3 (ah bA (aa 3) (aa 4))) (aE MK (dz (ij bM (aa 2) (ae (aa 6) ak)))))
theorem le_step {c rest W k:Int} {n:Nat} {s:ai} {es:List Int} {x1 y6:Option Val} (hW:W = 4 ∨ W = 100) (h:s[n]? = some (.lst (es.map Val.int))) (hl:es.length ≤ 1000000) :
  ∃ e r',leB [some (.int c),x1,some (.loc n),some (.int rest),some (.int W),some (.int k),y6] s = .nx [some (.int c),x1,some (.loc n),some (.int r'),some (.int W),some (.int k),some (.int e)] (s.set n (.lst ((es ++ [e]).map Val.int))) ∧ 0 ≤ e ∧ e ≤ 99:=by
 have W0:¬ W = 0:=by lia
 have dW:Dz W:=kd (by lia) (by lia)
 have qW:=fJ (m:=W) (by lia) rest
 obtain ⟨e1,TJ⟩:∃ e1,e1 = rest.fmod W:=⟨_,rfl⟩
 obtain ⟨r',TK⟩:∃ r',r' = rest.fdiv W:=⟨_,rfl⟩
 have a1:aG 6 (ah bD (aa 3) (aa 4)) [some (.int c),x1,some (.loc n),some (.int rest),some (.int W),some (.int k),y6] s = .nx [some (.int c),x1,some (.loc n),some (.int rest),some (.int W),some (.int k),some (.int e1)] s:=by
  refine bT (v:=.int e1) ?_
  rw [TJ]; exact cN W0
 have a2:aG 3 (ah bA (aa 3) (aa 4)) [some (.int c),x1,some (.loc n),some (.int rest),some (.int W),some (.int k),some (.int e1)] s = .nx [some (.int c),x1,some (.loc n),some (.int r'),some (.int W),some (.int k),some (.int e1)] s:=by
  refine bT (v:=.int r') ?_
  rw [TK]; exact div_ii dW
 obtain ⟨e,a3,h0,h1⟩:∃ e,MK [some (.int c),x1,some (.loc n),some (.int r'),some (.int W),some (.int k),some (.int e1)] s = .nx [some (.int c),x1,some (.loc n),some (.int r'),some (.int W),some (.int k),some (.int e)] s ∧ 0 ≤ e ∧ e ≤ 99:=by
  have t1:cJ (ah gb (aa 4) (mC (.int 4))) [some (.int c),x1,some (.loc n),some (.int r'),some (.int W),some (.int k),some (.int e1)] s = .ok (W == 4) s:=dc (qt rfl)
  have dd:ah bA (aa 0) (mC (.int 256)) [some (.int c),x1,some (.loc n),some (.int r'),some (.int W),some (.int k),some (.int e1)] s = .ok (.int (c.fdiv 256)) s:=il rfl (kd (by decide) (by decide))
  have t2:cJ (ah gb (ah bD (ah bA (aa 0) (mC (.int 256))) (mC (.int 8))) (aa 5)) [some (.int c),x1,some (.loc n),some (.int r'),some (.int W),some (.int k),some (.int e1)] s = .ok ((c.fdiv 256).fmod 8 == k) s:=dc (by
   rw [aS (gN dd (by decide)) (y:=.int k) (s2:=s) rfl]; exact fW)
  have tt:jq (cJ (ah gb (aa 4) (mC (.int 4)))) (cJ (ah gb (ah bD (ah bA (aa 0) (mC (.int 256))) (mC (.int 8))) (aa 5))) [some (.int c),x1,some (.loc n),some (.int r'),some (.int W),some (.int k),some (.int e1)] s = .ok ((W == 4) && ((c.fdiv 256).fmod 8 == k)) s:=by
   rw [rn,t1,av]
   cases (W == 4) with
   | true => rw [s9,t2,Bool.true_and]
   | false => rw [s_,Bool.false_and]
  cases hb:((W == 4) && ((c.fdiv 256).fmod 8 == k)) with
  | false => rw [hb] at tt; exact ⟨e1,iz tt,by lia,by lia⟩
  | true =>
   rw [hb] at tt
   have q:=fJ (m:=100) (by decide) (c.fdiv 2048)
   refine ⟨(c.fdiv 2048).fmod 100,?_,by lia,by lia⟩
   unfold MK
   rw [jE tt]
   exact bT (gN (il rfl (kd (by decide) (by decide))) (by decide))
 refine ⟨e,r',?_,h0,h1⟩
 have ap:=gh (v:=Val.int e) h (by rw [List.length_map,sizeLine_eq]; lia)
 have a4:dz (ij bM (aa 2) (ae (aa 6) ak)) [some (.int c),x1,some (.loc n),some (.int r'),some (.int W),some (.int k),some (.int e)] s = .nx [some (.int c),x1,some (.loc n),some (.int r'),some (.int W),some (.int k),some (.int e)] (s.set n (.lst ((es ++ [e]).map Val.int))):=by
  have v2:aa 2 [some (.int c),x1,some (.loc n),some (.int r'),some (.int W),some (.int k),some (.int e)] s = .ok (.loc n) s:=rfl
  have ar:ae (aa 6) ak [some (.int c),x1,some (.loc n),some (.int r'),some (.int W),some (.int k),some (.int e)] s = .ok [.int e] s:=rfl
  rw [gB,kW,v2,av,qh h,ar,av,qi,ap,List.map_append]; rfl
 unfold leB
 rw [aA,a1,aB,aA,a2,aB,aA,a3,aB,a4]
theorem AR (c:Int) (many:Nat) (st:ai):∃ r0 W:Int,(W = 4 ∨ W = 100) ∧ gW (cJ (ah gb (ah bD (aa 0) (mC (.int 3))) (mC (.int 0)))) (aE (aG 3 (ah bA (aa 0) (mC (.int 3)))) (aG 4 (mC (.int 100)))) bQ [some (.int c),some (.int (many:Int)),some (.loc st.length),some (.int c),some (.int 4),none,none] (st ++ [.lst []]) = .nx [some (.int c),some (.int (many:Int)),some (.loc st.length),some (.int r0),some (.int W),none,none] (st ++ [.lst []]):=by
 have tt:cJ (ah gb (ah bD (aa 0) (mC (.int 3))) (mC (.int 0))) [some (.int c),some (.int (many:Int)),some (.loc st.length),some (.int c),some (.int 4),none,none] (st ++ [.lst []]) = .ok (c.fmod 3 == 0) (st ++ [.lst []]):=dc (qt (gN rfl (by decide)))
 cases hb:c.fmod 3 == 0 with
 | false => rw [hb] at tt; exact ⟨c,4,.inl rfl,iz tt⟩
 | true =>
  rw [hb] at tt
  refine ⟨c.fdiv 3,100,.inr rfl,?_⟩
  have a:aG 3 (ah bA (aa 0) (mC (.int 3))) [some (.int c),some (.int (many:Int)),some (.loc st.length),some (.int c),some (.int 4),none,none] (st ++ [.lst []]) = .nx [some (.int c),some (.int (many:Int)),some (.loc st.length),some (.int (c.fdiv 3)),some (.int 4),none,none] (st ++ [.lst []]):=bT (il rfl (kd (by decide) (by decide)))
  rw [jE tt,aA,a,aB]; rfl
theorem g8 (c:Int) {many:Nat} (hm:many ≤ 4) (st:ai):∃ g es,PM.bB [.int c,.int (many:Int)] st = .ok (tupI es) (st ++ g) ∧ es.length = many ∧ ∀ e ∈ es,0 ≤ e ∧ e ≤ 99:=by
 obtain ⟨r0,W,hW,s4⟩:=AR c many st
 obtain ⟨μ',aw,e,es,le,ML,rfl,r',y5,y6,rfl⟩:=b_ (g:=fun _ => True) (a:=aName 5) (body:=leB)
  (fun i μ s' => ∃ es:List Int,es.length = i ∧ (∀ e ∈ es,0 ≤ e ∧ e ≤ 99) ∧ s' = st ++ [.lst (es.map Val.int)] ∧ ∃ r' y5 y6,μ = [some (.int c),some (.int (many:Int)),some (.loc st.length),some (.int r'),some (.int W),y5,y6])
  (aR 0 (many:Int).toNat) 0 [some (.int c),some (.int (many:Int)),some (.loc st.length),some (.int r0),some (.int W),none,none] (st ++ [.lst []])
  (by
   rintro i u μ s' hu ⟨es,le,ML,rfl,r',y5,y6,rfl⟩
   refine ⟨trivial,?_⟩
   have qr:=hu
   unfold aR at qr
   rw [List.getElem?_map] at qr
   have hi:i < (many:Int).toNat:=by
    rcases Nat.lt_or_ge i (many:Int).toNat with q | q
    ·exact q
    ·rw [List.getElem?_eq_none (by rw [List.length_range]; exact q)] at qr; cases qr
   rw [List.getElem?_eq_getElem (by rw [List.length_range]; exact hi),List.getElem_range] at qr
   cases qr
   have TL:i < 4:=by lia
   obtain ⟨e,r2,eb,h0,h1⟩:=le_step (c:=c) (rest:=r') (k:=0 + (i:Int)) (x1:=some (.int (many:Int))) (y6:=y6) hW (iS st (es.map Val.int)) (by lia)
   refine ⟨_,rfl,_,_,.inl eb,es ++ [e],by rw [List.length_append,le]; rfl,?_,j9 st _ _,r2,_,_,rfl⟩
   intro x hx
   rcases List.mem_append.mp hx with hx | hx
   ·exact ML x hx
   ·rw [List.mem_singleton.mp hx]; exact ⟨h0,h1⟩)
  (fun _ _ _ => trivial) ⟨[],rfl,fun _ h => (by cases h),rfl,r0,none,none,rfl⟩
 refine ⟨[.lst (es.map Val.int)],es,?_,by rw [le]; unfold aR; rw [List.length_map,List.length_range]; lia,ML⟩
 have a1:aG 2 (e9 ak) [some (.int c),some (.int (many:Int)),none,none,none,none,none] st = .nx [some (.int c),some (.int (many:Int)),some (.loc st.length),none,none,none,none] (st ++ [.lst []]):=bT (vd (vs:=[]) rfl (Nat.zero_le _))
 have a2:aG 3 (aa 0) [some (.int c),some (.int (many:Int)),some (.loc st.length),none,none,none,none] (st ++ [.lst []]) = .nx [some (.int c),some (.int (many:Int)),some (.loc st.length),some (.int c),none,none,none] (st ++ [.lst []]):=rfl
 have a3:aG 4 (mC (.int 4)) [some (.int c),some (.int (many:Int)),some (.loc st.length),some (.int c),none,none,none] (st ++ [.lst []]) = .nx [some (.int c),some (.int (many:Int)),some (.loc st.length),some (.int c),some (.int 4),none,none] (st ++ [.lst []]):=rfl
 have a5:a_ (ae (aa 1) ak) [some (.int c),some (.int (many:Int)),some (.loc st.length),some (.int r0),some (.int W),none,none] (st ++ [.lst []]) = .ok (aR 0 (many:Int).toNat,fun _ => True) (st ++ [.lst []]):=ve rfl (by lia) (by lia)
 have v2:aa 2 [some (.int c),some (.int (many:Int)),some (.loc st.length),some (.int r'),some (.int W),y5,y6] (st ++ [.lst (es.map Val.int)]) = .ok (.loc st.length) (st ++ [.lst (es.map Val.int)]):=rfl
 unfold PM.bB
 rw [cD (np:=2) (us:=[Val.int c,.int (many:Int)]) rfl]
 show (aE (aG 2 (e9 ak)) (aE (aG 3 (aa 0)) (aE (aG 4 (mC (.int 4))) (aE _ (aE (dr (a_ (ae (aa 1) ak)) (aName 5) leB) (bF (aq pf (ae (aa 2) ak))))))) [some (.int c),some (.int (many:Int)),none,none,none,none,none] st).fin = _
 rw [aA,a1,aB,aA,a2,aB,aA,a3,aB,aA,s4,aB,aA,dI,a5,aK,fI,e,aB,bK,call_of (fL v2),wx (cC _ _),aK]
 rfl
end PG
namespace PG
open PySem PySem.Spec L2 MN
open PyProof.Rows hiding St kindOf
theorem GB {μ:MN.Env} {s:ai} {o:ME} {a:MA} {n:Nat} {us:List Val} {v:Val} (ho:o μ s = .ok (.loc n) s) {s1:ai} (h0:s[n]? = some (.lst us)) (ha:a μ s = .ok [v] s1) (h:s1[n]? = some (.lst us)) (hl:us.length ≤ 1000):dz (ij bM o a) μ s = .nx μ (s1.set n (.lst (us ++ [v]))):=by
 rw [gB,kW,ho,av,qh h0,ha,av,qi,gh h (by rw [sizeLine_eq]; lia),aK]; rfl
noncomputable abbrev Ec:ME:=ah bR (aa 1) (ah bz (mC (.int 2)) (aa 5))
noncomputable abbrev Dc:MB:=aE (aG 6 (aq PM.bB (ae (aq PM.aI (ae (aa 0) (ae Ec ak))) (ae (aa 2) ak)))) (dz (ij bM (aa 4) (ae (fE (ae (aa 6) (ae (aq PM.bS (ae (aq PM.aI (ae (aa 0) (ae (ah bR Ec (mC (.int 1))) ak))) ak)) ak))) ak)))
theorem Dd {n q many:Nat} {ns:List Int} {place size k:Int} {P:List bE} {s:ai} {y6:Option Val} (h:itemsOf s n = some (ns.map Val.int)) (hq:s[q]? = some (.lst (P.map tV))) (p0:0 ≤ place) (p1:place ≤ 1000) (k0:0 ≤ k) (k1:k ≤ 1000) (hm:many ≤ 4) (hl:P.length ≤ 64) :
  ∃ g t y,Dc [some (.loc n),some (.int place),some (.int (many:Int)),some (.int size),some (.loc q),some (.int k),y6] s = .nx [some (.loc n),some (.int place),some (.int (many:Int)),some (.int size),some (.loc q),some (.int k),y] ((s ++ g).set q (.lst ((P ++ [t]).map tV))) ∧ Good many t ∧ dB 134 t.2:=by
 have pl:∀ (s:ai) (y:Option Val),Ec [some (.loc n),some (.int place),some (.int (many:Int)),some (.int size),some (.loc q),some (.int k),y] s = .ok (.int (place + 2 * k)) s:=fun s y => by
  have a:ah bz (mC (.int 2)) (aa 5) [some (.loc n),some (.int place),some (.int (many:Int)),some (.int size),some (.loc q),some (.int k),y] s = .ok (.int (2 * k)) s:=om (i:=2) (by decide) (by decide)
  unfold Ec
  rw [aS (x:=.int place) (s1:=s) rfl a]; rfl
 obtain ⟨o,ho,o0,_⟩:=nk (k:=place + 2 * k) h (by lia) (by lia)
 obtain ⟨g,es,ee,le,re⟩:=g8 o hm s
 have a1:aG 6 (aq PM.bB (ae (aq PM.aI (ae (aa 0) (ae Ec ak))) (ae (aa 2) ak))) [some (.loc n),some (.int place),some (.int (many:Int)),some (.int size),some (.loc q),some (.int k),y6] s = .nx [some (.loc n),some (.int place),some (.int (many:Int)),some (.int size),some (.loc q),some (.int k),some (tupI es)] (s ++ g):=by
  refine bT (v:=tupI es) ?_
  rw [call_of (d6 (v:=.int o) (s1:=s) (w:=.int (many:Int)) (s2:=s) ?_ rfl)]
  ·exact ee
  ·rw [call_of (d6 (v:=.loc n) (s1:=s) rfl (pl s y6))]; exact ho
 have h2:=aJ h g
 obtain ⟨o2,yN,TM,_⟩:=nk (k:=place + 2 * k + 1) h2 (by lia) (by lia)
 obtain ⟨r,hr,br⟩:=tD TM (s ++ g)
 have num:aq PM.bS (ae (aq PM.aI (ae (aa 0) (ae (ah bR Ec (mC (.int 1))) ak))) ak) [some (.loc n),some (.int place),some (.int (many:Int)),some (.int size),some (.loc q),some (.int k),some (tupI es)] (s ++ g) = .ok (.int r) (s ++ g):=by
  have ad:ah bR Ec (mC (.int 1)) [some (.loc n),some (.int place),some (.int (many:Int)),some (.int size),some (.loc q),some (.int k),some (tupI es)] (s ++ g) = .ok (.int (place + 2 * k + 1)) (s ++ g):=by
   rw [aS (pl (s ++ g) _) (y:=.int 1) (s2:=s ++ g) rfl]; rfl
  rw [call_of (fL (v:=.int o2) (s1:=s ++ g) ?_)]
  ·exact hr
  ·rw [call_of (d6 (v:=.loc n) (s1:=s ++ g) rfl ad)]; exact yN
 refine ⟨g,(es,r),some (tupI es),?_,⟨le,re⟩,br⟩
 have ap:=GB (o:=aa 4) (a:=ae (fE (ae (aa 6) (ae (aq PM.bS (ae (aq PM.aI (ae (aa 0) (ae (ah bR Ec (mC (.int 1))) ak))) ak)) ak))) ak) (v:=tV (es,r)) (μ:=[some (.loc n),some (.int place),some (.int (many:Int)),some (.int size),some (.loc q),some (.int k),some (tupI es)]) (s:=s ++ g) (n:=q) rfl (cO hq g) (fL (AQ (d6 (v:=tupI es) (s1:=s ++ g) rfl num) (by show 2 ≤ 1000; decide))) (cO hq g) (by rw [List.length_map]; lia)
 unfold Dc
 rw [aA,a1,aB,ap,List.map_append]; rfl
theorem rB {n many size:Nat} {ns:List Int} {place:Int} {st:ai} (h:itemsOf st n = some (ns.map Val.int)) (p0:0 ≤ place) (p1:place ≤ 1000) (hm:many ≤ 4) (hs:size ≤ 60) :
  ∃ (g:ai) (P:List bE),PM.gi [.loc n,.int place,.int (many:Int),.int (size:Int)] st = .ok (.loc st.length) (st ++ .lst (P.map tV) :: g) ∧ P.length = size ∧ ∀ t ∈ P,Good many t ∧ dB 134 t.2:=by
 obtain ⟨μ',aw,e,P,g,lP,hP,rfl,y5,y6,rfl⟩:=b_ (g:=fun _ => True) (a:=aName 5) (body:=Dc)
  (fun i μ s' => ∃ (P:List bE) (g:ai),P.length = i ∧ (∀ t ∈ P,Good many t ∧ dB 134 t.2) ∧ s' = st ++ .lst (P.map tV) :: g ∧ ∃ y5 y6,μ = [some (.loc n),some (.int place),some (.int (many:Int)),some (.int (size:Int)),some (.loc st.length),y5,y6])
  (aR 0 (size:Int).toNat) 0 [some (.loc n),some (.int place),some (.int (many:Int)),some (.int (size:Int)),some (.loc st.length),none,none] (st ++ [.lst []])
  (by
   rintro i u μ s' hu ⟨P,g,lP,hP,rfl,y5,y6,rfl⟩
   refine ⟨trivial,?_⟩
   have qr:=hu
   unfold aR at qr
   rw [List.getElem?_map] at qr
   have hi:i < (size:Int).toNat:=by
    rcases Nat.lt_or_ge i (size:Int).toNat with q | q
    ·exact q
    ·rw [List.getElem?_eq_none (by rw [List.length_range]; exact q)] at qr; cases qr
   rw [List.getElem?_eq_getElem (by rw [List.length_range]; exact hi),List.getElem_range] at qr
   cases qr
   have TL:i < 60:=by lia
   obtain ⟨g2,t,y,eb,gt,bt⟩:=Dd (size:=(size:Int)) (k:=0 + (i:Int)) (y6:=y6) (aJ h (.lst (P.map tV) :: g)) (rA st _ g) p0 p1 (by lia) (by lia) hm (by lia)
   refine ⟨_,rfl,_,_,.inl eb,P ++ [t],g ++ g2,by rw [List.length_append,lP]; rfl,?_,?_,_,_,rfl⟩
   ·intro x hx
    rcases List.mem_append.mp hx with hx | hx
    ·exact hP x hx
    ·rw [List.mem_singleton.mp hx]; exact ⟨gt,bt⟩
   ·rw [List.append_assoc]; exact wz st _ _ _)
  (fun _ _ _ => trivial) ⟨[],[],rfl,fun _ h => (by cases h),rfl,none,none,rfl⟩
 refine ⟨g,P,?_,by rw [lP]; unfold aR; rw [List.length_map,List.length_range]; lia,hP⟩
 have a1:aG 4 (e9 ak) [some (.loc n),some (.int place),some (.int (many:Int)),some (.int (size:Int)),none,none,none] st = .nx [some (.loc n),some (.int place),some (.int (many:Int)),some (.int (size:Int)),some (.loc st.length),none,none] (st ++ [.lst []]):=bT (vd (vs:=[]) rfl (Nat.zero_le _))
 have a5:a_ (ae (aa 3) ak) [some (.loc n),some (.int place),some (.int (many:Int)),some (.int (size:Int)),some (.loc st.length),none,none] (st ++ [.lst []]) = .ok (aR 0 (size:Int).toNat,fun _ => True) (st ++ [.lst []]):=ve rfl (by lia) (by lia)
 unfold PM.gi
 rw [cD (np:=4) (us:=[Val.loc n,.int place,.int (many:Int),.int (size:Int)]) rfl]
 show (aE (aG 4 (e9 ak)) (aE (dr (a_ (ae (aa 3) ak)) (aName 5) Dc) (bF (aa 4))) [some (.loc n),some (.int place),some (.int (many:Int)),some (.int (size:Int)),none,none,none] st).fin = _
 rw [aA,a1,aB,aA,dI,a5,aK,fI,e,aB]
 rfl
end PG
namespace PG
open PySem PySem.Spec L2 MN
open PyProof.Rows hiding St kindOf
end PG
namespace PG
open PySem PySem.Spec L2 MN
open PyProof.Rows hiding St kindOf
section
variable {many:Nat} {s:ai}
end
end PG
namespace PG
open PySem PySem.Spec L2 MN
open PyProof.Rows hiding St kindOf
section
variable {μ:MN.Env} {s s1:ai} {a m:ME} {k:Int} {x:Val}
end
end PG
namespace PG
open PySem PySem.Spec L2 MN
open PyProof.Rows hiding St kindOf
end PG
namespace PG
open PySem PySem.Spec L2 MN
open PyProof.Rows hiding St kindOf
end PG
namespace PG
open PySem PySem.Spec L2 MN
open PyProof.Rows hiding St kindOf
end PG
namespace DL
open PySem
section
variable {prog:Program} {w:World} {A:Around} {E:Value → Shared → Prop} {s:Shared}
variable {K:Type} [DecidableEq K] {knd:KeyKind prog w K}
end
end DL
namespace L2
open PySem PySem.Spec PyProof.Rows
end L2
namespace MN
open PySem PySem.Spec L2
open PyProof.Rows hiding St
section
variable {K:PySem.W.Frag} {ρ:List Addr} {H:Hp}
end
end MN
namespace DL
open PySem PyProof.Rows
section
variable {prog:Program} {w:World} {A:Around} {E:Value → Shared → Prop} {s:Shared}
end
end DL
namespace L2
open PySem PySem.Spec PyProof.Rows
end L2
namespace MN
open PySem PySem.Spec L2
open PyProof.Rows hiding St
end MN
namespace MN
open PySem PySem.Spec L2
open PyProof.Rows hiding St
end MN
namespace PM
open PySem PySem.Spec L2 MN
open PyProof.Rows hiding St
end PM
namespace PG
open PySem PySem.Spec L2 MN
open PyProof.Rows hiding St kindOf
noncomputable def gF (A:List bE) (t:bE):List bE:=g7 A t.1 (cR A t.1 + t.2)
theorem yg {A:List bE} {k:List Int} (h:k ∉ A.map (·.1)):cR A k = 0:=by
 unfold cR
 have:(A.find? fun p => decide (p.1 = k)) = none:=by
  rw [List.find?_eq_none]
  intro p hp z
  exact h (List.mem_map.mpr ⟨p,hp,of_decide_eq_true z⟩)
 rw [this]; rfl
theorem AU {A:List bE} {k:List Int} (v:Int) (h:k ∉ A.map (·.1)):g7 A k v = A ++ [(k,v)]:=by
 unfold g7
 rw [if_neg fun z => h (wH.mp z)]
theorem GC {A P:List bE} {t:bE} (h:((A ++ t :: P).map (·.1)).Nodup):t.1 ∉ A.map (·.1) ∧ ((A ++ [t] ++ P).map (·.1)).Nodup:=by
 refine ⟨?_,by rw [List.append_assoc]; exact h⟩
 rw [List.map_append,List.map_cons,List.nodup_append] at h
 exact fun m => h.2.2 _ m _ List.mem_cons_self rfl
theorem qu:∀ (P A:List bE),((A ++ P).map (·.1)).Nodup → P.foldl gF A = A ++ P
 | [],A,_ => by rw [List.append_nil]; rfl
 | t :: P,A,h => by
  have n:=GC h
  show P.foldl gF (gF A t) = _
  unfold gF
  rw [yg n.1,AU _ n.1,Int.zero_add]
  have:=qu P (A ++ [t]) n.2
  rw [List.append_assoc] at this
  exact this
theorem yh {D:List bE} (h:(D.map (·.1)).Nodup):fe D = D:=qu D [] h
noncomputable def oX (r:Int) (L:List bE):List bE:=(L.map fun t => (t.1,aD r t.2)).filter fun t => t.2 != 0
theorem De {D:List bE} (nd:(D.map (·.1)).Nodup) {t:bE} (ht:t ∈ D):cR D t.1 = t.2:=by
 have m:=tR (A:=D) (k:=t.1) (List.mem_map.mpr ⟨t,ht,rfl⟩)
 have:(t.1,cR D t.1) = t:=by
  have inj:∀ a ∈ D,∀ b ∈ D,a.1 = b.1 → a = b:=by
   intro a ha b hb e
   have p:=List.pairwise_map.mp nd
   exact Classical.byContradiction fun ne => by
    rcases List.mem_iff_getElem.mp ha with ⟨i,hi,rfl⟩
    rcases List.mem_iff_getElem.mp hb with ⟨j,hj,rfl⟩
    have q:=List.pairwise_iff_getElem.mp p
    rcases Nat.lt_trichotomy i j with c | c | c
    ·exact q i j hi hj c e
    ·subst c; exact ne rfl
    ·exact q j i hj hi c e.symm
  exact inj _ m _ ht rfl
 exact congrArg (·.2) this
theorem yi {r:Int} {D:List bE} (f:SO.eM (D.map (·.1))):dA r D = oX r D:=by
 have nd:=iV f
 have e:kf (D.map (·.1)) = D.map (·.1):=tP (gq _) (kY nd) f
 have:AJ D = D:=by
  unfold AJ
  rw [e,List.map_map]
  have:D.map ((fun k => (k,cR D k)) ∘ fun t => t.1) = D.map id:=List.map_congr_left fun t ht => by
   show (t.1,cR D t.1) = t
   rw [De nd ht]
  rw [this,List.map_id]
 unfold dA oX
 rw [this]
theorem AV (r:Int) (D:List bE):(oX r D).map (·.1) = (D.filter fun t => aD r t.2 != 0).map (·.1):=by
 unfold oX
 rw [List.filter_map,List.map_map]
 rfl
theorem vg (r:Int) {A:List bE} (nd:(A.map (·.1)).Nodup):SO.eM ((dA r A).map (·.1)):=by
 rw [← oA]
 unfold yf
 rw [List.filter_map,List.map_map]
 have:(((kf (A.map (·.1))).filter ((fun t => t.2 != 0) ∘ fun k => (k,aD r (cR A k)))).map ((fun t => t.1) ∘ fun k => (k,aD r (cR A k)))) = (kf (A.map (·.1))).filter ((fun t:bE => t.2 != 0) ∘ fun k => (k,aD r (cR A k))):=by
  have:((fun t:bE => t.1) ∘ fun k:List Int => (k,aD r (cR A k))) = id:=rfl
  rw [this,List.map_id]
 rw [this]
 exact List.Pairwise.sublist List.filter_sublist (kY nd)
theorem oB {B:Int} (b0:0 ≤ B):∀ (P A:List bE) (m:Nat),(∀ t ∈ P,-B ≤ t.2 ∧ t.2 ≤ B) → (∀ t ∈ A,-(m * B) ≤ t.2 ∧ t.2 ≤ m * B) → ∀ t ∈ P.foldl gF A,-((m + P.length:Nat) * B) ≤ t.2 ∧ t.2 ≤ (m + P.length:Nat) * B
 | [],A,m,_,h => h
 | p :: P,A,m,hp,h => by
  have e:((m + 1:Nat):Int) * B = m * B + B:=by rw [Int.natCast_add,Int.add_mul]; simp
  have mb:0 ≤ (m:Int) * B:=Int.mul_nonneg (Int.natCast_nonneg _) b0
  have q:=hp p List.mem_cons_self
  have ih:=oB b0 P (gF A p) (m + 1) (fun t ht => hp t (List.mem_cons_of_mem _ ht)) (fun t ht => by
   rw [e]
   rcases oz ht with ht | rfl
   ·have:=h t ht; lia
   ·have:=u_ (k:=p.1) mb h
    dsimp only
    lia)
  intro t ht
  have:=ih t ht
  rw [List.length_cons,show m + (P.length + 1) = m + 1 + P.length by lia]
  exact this
theorem vh {B:Int} (b0:0 ≤ B) {P:List bE} (hp:∀ t ∈ P,-B ≤ t.2 ∧ t.2 ≤ B):∀ t ∈ fe P,-(P.length * B) ≤ t.2 ∧ t.2 ≤ P.length * B:=by
 have:=oB b0 P [] 0 hp (fun t ht => by cases ht)
 rw [Nat.zero_add] at this
 exact this
theorem vi {r n C:Int} (hr:0 ≤ r) (hC:r ≤ C) (h:-C ≤ n ∧ n ≤ C):-C ≤ aD r n ∧ aD r n ≤ C:=by
 unfold aD
 split
 ·exact h
 ·have:=fJ (m:=r) (by lia) n
  lia
theorem oC {r:Int} {A:List bE} {t:bE} (h:t ∈ dA r A):∃ q ∈ A,t.1 = q.1 ∧ t.2 = aD r q.2:=by
 unfold dA at h
 obtain ⟨u,hu,rfl⟩:=List.mem_map.mp (List.mem_filter.mp h).1
 unfold AJ at hu
 obtain ⟨k,hk,rfl⟩:=List.mem_map.mp hu
 exact ⟨_,tR ((gq _).mem_iff.mp hk),rfl,rfl⟩
theorem AW (r:Int) (A:List bE):(dA r A).length ≤ A.length:=by
 rw [← oA]
 refine Nat.le_trans (wJ _ _ _) ?_
 rw [(gq _).length_eq,List.length_map]; exact Nat.le_refl _
structure TN (many:Nat) (D:List bE) (C:Int):Prop where
 AX:SO.eM (D.map (·.1))
 len:∀ t ∈ D,t.1.length = many
 big:∀ t ∈ D,-C ≤ t.2 ∧ t.2 ≤ C
theorem Df {r B:Int} {many:Nat} {P:List bE} (b0:0 ≤ B) (hr:0 ≤ r) (hl:∀ t ∈ P,t.1.length = many) (hb:∀ t ∈ P,-B ≤ t.2 ∧ t.2 ≤ B):TN many (dA r (fe P)) (P.length * B + r):=by
 have ga:=kh P
 refine ⟨vg r ga.1,fun t ht => ?_,fun t ht => ?_⟩
 ·obtain ⟨q,hq,e1,_⟩:=oC ht
  obtain ⟨w,hw,e⟩:=List.mem_map.mp (ga.2.2 q hq)
  rw [e1,← e]; exact hl w hw
 ·obtain ⟨q,hq,_,e2⟩:=oC ht
  have:=vh b0 hb q hq
  have pb:0 ≤ (P.length:Int) * B:=Int.mul_nonneg (Int.natCast_nonneg _) b0
  rw [e2]
  exact vi hr (by lia) (by lia)
end PG
namespace PG
open PySem PySem.Spec L2 MN
open PyProof.Rows hiding St kindOf
theorem vj {many:Nat} (h1:1 ≤ many) {k:List Int} (h:k.length = many):k ≠ []:=fun z => by
 rw [z] at h
 simp at h
 lia
end PG
namespace PG
open PySem PySem.Spec L2 MN
open PyProof.Rows hiding St kindOf
section
variable {r:Int} {p q many:Nat} {D P:List bE} {C:Int} {st:ai}
end
end PG
namespace PG
open PySem PySem.Spec L2 MN
open PyProof.Rows hiding St kindOf
section
variable {r n C:Int} {p q many:Nat} {D P:List bE} {st:ai}
end
end PG
namespace PG
open PySem PySem.Spec L2 MN
open PyProof.Rows hiding St kindOf
section
variable {r n C:Int} {p q many:Nat} {D P:List bE} {st:ai}
theorem AY {μ:MN.Env} {a m:ME} {s s1:ai} {k:Nat} {L:List bE} (ha:a μ s = .ok (.int r) s) (hm:m μ s = .ok (.loc k) s1) (h:itemsOf s1 k = some (L.map tV)) (hl:L.length < 1000000) (ne:∀ t ∈ L,t.1 ≠ []) :
  ∃ c1 c3,aq PM.bZ (ae a (ae m ak)) μ s = .ok (.loc (s1.length + 1)) (s1 ++ [c1,.lst ((dA r (fe L)).map tV),c3]) ∧ (s1 ++ [c1,.lst ((dA r (fe L)).map tV),c3])[s1.length + 1]? = some (.lst ((dA r (fe L)).map tV)):=by
 obtain ⟨c1,c3,e⟩:=mP (r:=r) h hl ne
 refine ⟨c1,c3,?_,?_⟩
 ·rw [call_of (d6 ha hm),e]
 ·rw [List.getElem?_append_right (by lia),show s1.length + 1 - s1.length = 1 by lia]; rfl
end
end PG
namespace PG
open PySem PySem.Spec L2 MN
open PyProof.Rows hiding St kindOf
theorem AZ (r:Int) (L:List bE):(dA r (fe L)).length ≤ L.length:=Nat.le_trans (AW r _) (kh L).2.1
section
variable {r n C:Int} {p q many:Nat} {D P:List bE}
end
end PG
namespace PG
open PySem PySem.Spec L2 MN
open PyProof.Rows hiding St kindOf
theorem qw {a:AS} {e:ME} (I:Nat → MN.Env → ai → List Val → Prop):∀ (us:List Val) (k:Nat) (τ:MN.Env) (st:ai) (ys:List Val),
  (∀ (i:Nat) (u:Val) (τ:MN.Env) (st:ai) (ys:List Val),us[i]? = some u → I (k + i) τ st ys → ∃ τ1,a u τ = some τ1 ∧ ∃ y bV,e τ1 st = .ok y bV ∧ I (k + i + 1) τ1 bV (ys ++ [y])) → I k τ st ys →
  ∃ τ' Gu aw,eI (fun _ => True) a cK e us τ st ys = .ok Gu aw ∧ I (k + us.length) τ' aw Gu
 | [],k,τ,st,ys,_,h => ⟨τ,ys,st,by unfold eI; rw [if_pos trivial],h⟩
 | u :: us,k,τ,st,ys,hs,h => by
  obtain ⟨τ1,h1,y,bV,h2,h3⟩:=hs 0 u τ st ys rfl h
  obtain ⟨τ',Gu,aw,e',h'⟩:=qw (a:=a) (e:=e) I us (k + 1) τ1 bV (ys ++ [y]) (fun i u τ st ys hu hI => by
   have:=hs (i + 1) u τ st ys hu
   rw [show k + (i + 1) = k + 1 + i by lia] at this
   exact this hI) h3
  refine ⟨τ',Gu,aw,?_,by rw [List.length_cons,show k + (us.length + 1) = k + 1 + us.length by lia]; exact h'⟩
  unfold eI
  rw [if_pos trivial,h1]
  show (match e τ1 st with
   | .ok y bV => eI (fun _ => True) a cK e us τ1 bV (ys ++ [y])
   | .err _ _ => .bad
   | .bad => .bad) = _
  rw [h2]
  exact e'
noncomputable abbrev Js:ME:=fE (ae (aq PM.bB (ae (ah bR (ah bA (aa 2) (mC (.int 7))) (ah bz (mC (.int 37)) (aa 0))) (ae (aa 1) ak))) (ae (aq PM.bS (ae (ah bR (aa 2) (ah bz (mC (.int 5)) (aa 0))) ak)) ak))
theorem Dg {i:Int} {many:Nat} {mix:Int} (i0:0 ≤ i) (m0:0 ≤ mix) (hm:many ≤ 4) (s:ai):∃ g t,Js [some (.int i),some (.int (many:Int)),some (.int mix)] s = .ok (tV t) (s ++ g) ∧ Good many t ∧ dB 134 t.2:=by
 obtain ⟨μ,hμ⟩:∃ μ:MN.Env,μ = [some (.int i),some (.int (many:Int)),some (.int mix)]:=⟨_,rfl⟩
 obtain ⟨g,es,ee,le,re⟩:=g8 (mix.fdiv 7 + 37 * i) hm s
 have a1:ah bR (ah bA (aa 2) (mC (.int 7))) (ah bz (mC (.int 37)) (aa 0)) μ s = .ok (.int (mix.fdiv 7 + 37 * i)) s:=by
  have d:ah bA (aa 2) (mC (.int 7)) μ s = .ok (.int (mix.fdiv 7)) s:=il (by rw [hμ]; rfl) (kd (by decide) (by decide))
  have m:ah bz (mC (.int 37)) (aa 0) μ s = .ok (.int (37 * i)) s:=by
   rw [hμ]; exact om (i:=37) (by decide) (by decide)
  rw [aS d m]; rfl
 have e1:aq PM.bB (ae (ah bR (ah bA (aa 2) (mC (.int 7))) (ah bz (mC (.int 37)) (aa 0))) (ae (aa 1) ak)) μ s = .ok (tupI es) (s ++ g):=by
  rw [call_of (d6 a1 (w:=.int (many:Int)) (s2:=s) (by rw [hμ]; rfl)),ee]
 obtain ⟨r,hr,br⟩:=tD (c:=mix + 5 * i) (by lia) (s ++ g)
 have a2:ah bR (aa 2) (ah bz (mC (.int 5)) (aa 0)) μ (s ++ g) = .ok (.int (mix + 5 * i)) (s ++ g):=by
  have m:ah bz (mC (.int 5)) (aa 0) μ (s ++ g) = .ok (.int (5 * i)) (s ++ g):=by
   rw [hμ]; exact om (i:=5) (by decide) (by decide)
  rw [aS (x:=.int mix) (s1:=s ++ g) (by rw [hμ]; rfl) m]; rfl
 have e2:aq PM.bS (ae (ah bR (aa 2) (ah bz (mC (.int 5)) (aa 0))) ak) μ (s ++ g) = .ok (.int r) (s ++ g):=by
  rw [call_of (fL a2),hr]
 refine ⟨g,(es,r),?_,⟨le,re⟩,br⟩
 rw [← hμ]
 exact AQ (d6 e1 e2) (by show 2 ≤ 1000; decide)
theorem GD {k:Nat} {i:Int} (h:dB k i):-((2:Int) ^ k) ≤ i ∧ i ≤ (2:Int) ^ k:=by
 have h':i.natAbs < 2 ^ k:=h
 have:((2 ^ k:Nat):Int) = (2:Int) ^ k:=by simp
 lia
theorem GF {k:Nat} {i:Int} (h:-((2:Int) ^ k) ≤ i ∧ i ≤ (2:Int) ^ k):dB (k + 1) i:=by
 show i.natAbs < 2 ^ (k + 1)
 have:((2 ^ k:Nat):Int) = (2:Int) ^ k:=by simp
 have h2:2 ^ (k + 1) = 2 ^ k * 2:=Nat.pow_succ ..
 have h3:0 < 2 ^ k:=Nat.two_pow_pos k
 lia
end PG
namespace PM
open PySem PySem.Spec L2 MN
open PyProof.Rows hiding St
noncomputable def lowered:FN:=jf 2 2 (bF (ah bR (ah bR (D2 (aa 0) qa (lZ (aa 1))) (fE (ae (ah gG (ah bL (aa 0) (aa 1)) (mC (.int 1))) ak))) (D2 (aa 0) (lZ (ah bR (aa 1) (mC (.int 1)))) qa)))
noncomputable def eO:FN:=jf 3 8 (aE (aG 3 (mC (.int 0))) (aE (dr (e_ (aa 1)) (aName 4) (aE (aG 5 (ah bL (aa 4) (mC (.int 1)))) (aE (dr (a_ (ae (aq fg (ae (aa 2) ak)) ak)) (aName 6) (dr (a_ (ae (ah bL (ah bL (aa 4) (mC (.int 0))) (aa 6)) ak)) (aName 7) (aG 5 (aq PM.bf (ae (aa 0) (ae (ah bz (aa 5) (ah bL (aa 2) (aa 6))) ak)))))) (aG 3 (ah bR (aa 3) (aa 5)))))) (bF (aq PM.bf (ae (aa 0) (ae (aa 3) ak))))))
noncomputable def repeated (L:dQ) (mb:ME):Val → FN:=FT 3 5 L (aE (aG 3 (aa 1)) (aE (dr (kO (ae (ah gG (sZ (aa 2)) (mC (.int 2))) (ae (sL (mC (.int 1))) (ae (sL (mC (.int 1))) ak)))) (aName 4) (aE (aG 3 (gK 0 L mb (ae (aa 3) (ae (aa 3) ak)))) (gW (cJ (ah gb (ah Cz (ah zU (aa 2) (aa 4)) (mC (.int 1))) (mC (.int 1)))) (aG 3 (gK 0 L mb (ae (aa 3) (ae (aa 1) ak)))) bQ))) (bF (aa 3))))
noncomputable def eQ:FN:=jf 3 6 (aE (aG 3 (e9 ak)) (aE (dr (e_ (aa 1)) (aName 4) (gW (cJ (ah G6 (ah bL (ah bL (aa 4) (mC (.int 0))) (aa 2)) (mC (.int 0)))) (aE (aG 5 (cZ 1 [4,2] (a_ (ae (aq fg (ae (ah bL (aa 4) (mC (.int 0))) ak)) ak)) (aName 0) cK (ah gG (ah bL (ah bL (aa 1) (mC (.int 0))) (aa 0)) (aq xJ (ae (ah gb (aa 0) (aa 2)) ak))))) (dz (ij bM (aa 3) (ae (fE (ae (aq pf (ae (aa 5) ak)) (ae (ah bz (ah bL (aa 4) (mC (.int 1))) (ah bL (ah bL (aa 4) (mC (.int 0))) (aa 2))) ak))) ak)))) bQ)) (bF (aq PM.bZ (ae (aa 0) (ae (aa 3) ak))))))
noncomputable def aV:ME:=(aq PM.aC (ae (aa 2) (ae (ah bz (aa 0) (aa 1)) ak)))
noncomputable def bC (M:fH):FN:=jf 3 3 (aE (gW (cJ (ah gb (aa 2) (mC (.int 0)))) (bF (mC (.int 1))) bQ) (bF (kP M 0 (PM.repeated M.S PM.aV) (ae (aq PM.aC (ae (aa 0) (ae (aa 1) ak))) (ae (aa 2) ak)))))
noncomputable def oD:FN:=jf 3 4 (aE (dz (aq PM.cI (ae (aa 0) ak))) (aE (aG 3 (cZ 2 [2] (e_ (aa 1)) (jh [(aName 0),(aName 1)]) cK (fE (ae (aq PM.lowered (ae (aa 0) (ae (aa 2) ak))) (ae (ah bz (aa 1) (ah bL (aa 0) (aa 2))) ak))))) (bF (aq PM.cU (ae (aa 0) (ae (aa 3) ak))))))
noncomputable def aU (M:fH):FN:=jf 3 6 (aE (aG 3 (mC (.int 1))) (aE (dr (sN false true (ae (aa 1) (ae (aa 2) ak))) (jh [(aName 4),(aName 5)]) (aG 3 (aq PM.aC (ae (aa 0) (ae (ah bz (aa 3) (aq (PM.bC M) (ae (aa 0) (ae (aa 5) (ae (aa 4) ak))))) ak))))) (bF (aa 3))))
noncomputable def value (M:fH):FN:=jf 3 6 (aE (dz (aq PM.cI (ae (aa 0) ak))) (aE (aG 3 (mC (.int 0))) (aE (dr (e_ (aa 1)) (jh [(aName 4),(aName 5)]) (aG 3 (aq PM.aC (ae (aa 0) (ae (ah bR (aa 3) (ah bz (aa 5) (aq (PM.aU M) (ae (aa 0) (ae (aa 4) (ae (aa 2) ak)))))) ak))))) (bF (aa 3)))))
noncomputable def jF (M:fH):MB:=(bF (uL (aq PM.eV (ae (ah bL (aa 11) (mC (.int 0))) (ae (aa 5) ak))) (ah gb (ah bL (aa 11) (mC (.int 1))) (aa 8))))
noncomputable def kZ (M:fH):MB:=(aE (dr (a_ (ae (mC (.int 2)) ak)) (aName 12) (aE (aG 13 (aq (PM.value M) (ae (aa 1) (ae (ah bL (aa 11) (mC (.int 0))) (ae (ah bL (aa 11) (mC (.int 1))) ak))))) (aE (gW (jy (d0 (cJ (aq PM.cF (ae (aa 13) ak)))) (cJ (ah jW (aa 13) (aq PM.eO (ae (aa 1) (ae (aa 5) (ae (aa 8) ak))))))) (bF (mC (.bl false))) bQ) (dr (a_ (ae (aa 4) ak)) (aName 14) (aE (aG 15 (aq PM.oD (ae (aa 1) (ae (ah bL (aa 11) (mC (.int 0))) (ae (aa 14) ak))))) (aE (gW (d0 (cJ (aq PM.eV (ae (aa 15) (ae (aq PM.eQ (ae (aa 1) (ae (aa 5) (ae (aa 14) ak)))) ak))))) (bF (mC (.bl false))) bQ) (dz (ij bM (aa 15) (ae (mC (.int 7)) ak))))))))) (PM.jF M))
noncomputable def k_ (M:fH):MB:=(aE (aG 11 (e9 (ae (aq ph (ae (aa 5) ak)) (ae (aq ph (ae (aa 8) ak)) ak)))) (PM.kZ M))
noncomputable def qx (M:fH):MB:=(aE (dr (a_ (ae (aa 4) ak)) (aName 9) (aE (aG 10 (aq PM.aI (ae (aa 0) (ae (ah bR (mC (.int 4)) (aa 9)) ak)))) (aE (dz (ij bM (aa 8) (ae (ah gG (ah bD (ah bA (aa 10) (mC (.int 5))) (mC (.int 41))) (mC (.int 20))) ak))) (gW (cJ (ah gb (ah bD (aa 10) (mC (.int 5))) (mC (.int 1)))) (sU (aa 8) (aa 9) (ah bz (ah gG (mC (.int 1)) (ah bz (ah bD (ah bA (aa 10) (mC (.int 5))) (mC (.int 2))) (mC (.int 2)))) (ah bD (ah bA (aa 10) (mC (.int 10))) (ah uO (mC (.int 10)) (mC (.int 30)))))) bQ)))) (PM.k_ M))
noncomputable def lg (M:fH):MB:=(aE (aG 8 (e9 ak)) (PM.qx M))
noncomputable def g9 (M:fH):MB:=(aE (gW (cJ (ah gb (ah bD (aa 3) (mC (.int 8))) (mC (.int 1)))) (aE (aG 6 (aq PM.aI (ae (aa 0) (ae (mC (.int 3)) ak)))) (aE (aG 7 (cZ 1 [4,6] (a_ (ae (ah bD (ah bA (aa 3) (mC (.int 8))) (mC (.int 13))) ak)) (aName 0) cK (fE (ae (aq PM.bB (ae (ah bR (ah bA (aa 2) (mC (.int 7))) (ah bz (mC (.int 37)) (aa 0))) (ae (aa 1) ak))) (ae (aq PM.bS (ae (ah bR (aa 2) (ah bz (mC (.int 5)) (aa 0))) ak)) ak))))) (aG 5 (aq PM.bZ (ae (aa 1) (ae (aa 7) ak)))))) bQ) (PM.lg M))
noncomputable def qz (M:fH):MB:=(aE (aG 5 (aq PM.bZ (ae (aa 1) (ae (aq PM.gi (ae (aa 0) (ae (mC (.int 8)) (ae (aa 4) (ae (ah bD (ah bA (aa 2) (mC (.int 4))) (mC (.int 8))) ak))))) ak)))) (PM.g9 M))
noncomputable def qA (M:fH):MB:=(aE (aG 4 (ah bR (mC (.int 1)) (ah bD (aa 2) (mC (.int 4))))) (PM.qz M))
noncomputable def qB (M:fH):MB:=(aE (aG 3 (aq PM.aI (ae (aa 0) (ae (mC (.int 2)) ak)))) (PM.qA M))
noncomputable def lh (M:fH):MB:=(aE (aG 2 (aq PM.aI (ae (aa 0) (ae (mC (.int 1)) ak)))) (PM.qB M))
noncomputable def oE (M:fH):FN:=jf 1 16 (aE (aG 1 (aq PM.gm (ae (aq PM.aI (ae (aa 0) (ae (mC (.int 0)) ak))) ak))) (PM.lh M))
end PM
namespace PG
open PySem PySem.Spec L2 MN
open PyProof.Rows hiding St kindOf
theorem Jt {hi:Int} {n i:Nat} {u:Val} (h:(iy hi n)[i]? = some u):i < n ∧ u = .int (hi - (i:Int)):=by
 unfold iy at h
 have pS:=eS h
 rw [List.length_map,List.length_range] at pS
 rw [List.getElem?_map,List.getElem?_range pS] at h
 exact ⟨pS,(Option.some.inj h).symm⟩
theorem GG (hi:Int) (n:Nat):(iy hi n).length = n:=by unfold iy; rw [List.length_map,List.length_range]
theorem Dh (m:Nat):Builtin.bitAnd (m:Int) 1 = ((m % 2:Nat):Int):=by
 unfold Builtin.bitAnd
 have h1:decide ((0:Int) ≤ (m:Int)) = true:=by simp
 have h2:decide ((0:Int) ≤ 1) = true:=by decide
 rw [h1,h2]
 show (((m:Int).toNat &&& (1:Int).toNat:Nat):Int) = _
 rw [Int.toNat_natCast]
 show ((m &&& 1:Nat):Int) = _
 rw [Nat.and_one_is_mod]
theorem tW {L:dQ} {mb:ME} {u v w y:Val} {μ:MN.Env} {ms:MA} {s s1 s2:ai} (oF:L.ps.length = 2) (hμ:μ[0]? = some (some (.fn L u))) (ha:ms μ s = .ok [v,w] s1) (hb:mb [some v,some w,some u] s1 = .ok y s2):gK 0 L mb ms μ s = .ok y s2:=by
 unfold gK
 rw [hμ]
 dsimp only
 rw [if_pos rfl,ha]
 show (if ([v,w]:List Val).length = L.ps.length then _ else _) = _
 rw [oF,if_pos (by rfl)]
 show II mb [some v,some w,some u] s1 = _
 unfold II
 rw [hb]
theorem GH {np n:Nat} {L:dQ} {u:Val} {us:List Val} {b:MB} {st:ai} (h:us.length + 1 = np):FT np n L b u us st = (b (some (.fn L u) :: us.map some ++ List.replicate (n - np) none) st).fin:=by
 unfold FT
 rw [if_pos h]
 cases b (some (.fn L u) :: us.map some ++ List.replicate (n - np) none) st <;> rfl
section
variable {L:dQ} {mb:ME} {u x:Val} {n:Nat}
noncomputable abbrev MM:MT:=cJ (ah gb (ah Cz (ah zU (aa 2) (aa 4)) (mC (.int 1))) (mC (.int 1)))
noncomputable abbrev Rz (L:dQ) (mb:ME):MB:=aE (aG 3 (gK 0 L mb (ae (aa 3) (ae (aa 3) ak)))) (gW MM (aG 3 (gK 0 L mb (ae (aa 3) (ae (aa 1) ak)))) bQ)
theorem wL {m:Nat} {p:Nat} {x0 x1 x3:Option Val} {s:ai}:MM [x0,x1,some (Val.int (m:Int)),x3,some (Val.int (p:Int))] s = .ok (m / 2 ^ p % 2 == 1) s:=by
 have e1:ah zU (aa 2) (aa 4) [x0,x1,some (Val.int (m:Int)),x3,some (Val.int (p:Int))] s = .ok (Val.int ((m / 2 ^ p:Nat):Int)) s:=by
  rw [aS (x:=.int (m:Int)) (y:=.int (p:Int)) (s1:=s) (s2:=s) rfl rfl]
  show (if (0:Int) ≤ (p:Int) then Res.ok (Val.int ((m:Int) / 2 ^ (p:Int).toNat)) s else .bad) = _
  rw [if_pos (by lia),Int.toNat_natCast]
  have:((m / 2 ^ p:Nat):Int) = (m:Int) / 2 ^ p:=by simp
  rw [this]
 have e2:ah Cz (ah zU (aa 2) (aa 4)) (mC (.int 1)) [x0,x1,some (Val.int (m:Int)),x3,some (Val.int (p:Int))] s = .ok (Val.int ((m / 2 ^ p % 2:Nat):Int)) s:=by
  rw [aS e1 (y:=.int 1) (s2:=s) rfl]
  show Res.ok (Val.int (Builtin.bitAnd ((m / 2 ^ p:Nat):Int) 1)) s = _
  rw [Dh]
 unfold MM
 rw [dc (qt e2)]
 have:(((m / 2 ^ p % 2:Nat):Int) == 1) = (m / 2 ^ p % 2 == 1):=by
  cases h:(m / 2 ^ p % 2 == 1) with
  | true => rw [beq_iff_eq] at h; rw [h]; rfl
  | false =>
   have h':=beq_eq_false_iff_ne.mp h
   exact beq_eq_false_iff_ne.mpr (by lia)
 rw [this]
structure Ju (mb:ME) (u:Val) (n:Nat) (Rep:Nat → Val → ai → Prop):Prop where
 pure:∀ i v st,Rep i v st → Iz v = false
 mono:∀ i v st g,Rep i v st → Rep i v (st ++ g)
 mul:∀ i j v w st,1 ≤ i → 1 ≤ j → i + j ≤ n → Rep i v st → Rep j w st → ∃ y g,mb [some v,some w,some u] st = .ok y (st ++ g) ∧ Rep (i + j) y (st ++ g)
theorem yj (n p:Nat):n / 2 ^ p = 2 * (n / 2 ^ (p + 1)) + n / 2 ^ p % 2:=by
 have:n / 2 ^ (p + 1) = n / 2 ^ p / 2:=by rw [Nat.pow_succ,Nat.div_div_eq_div_mul]
 lia
theorem GI {Rep:Nat → Val → ai → Prop} (oF:L.ps.length = 2) (hn:1 ≤ n) (hb:n < 2 ^ 60) (R:Ju mb u n Rep) {st:ai} (h1:Rep 1 x st) :
  ∃ y g,PM.repeated L mb u [x,.int (n:Int)] st = .ok y (st ++ g) ∧ Rep n y (st ++ g):=by
 have TQ:n.log2 < 60:=(Nat.log2_lt (by lia)).mpr hb
 have MP:n / 2 ^ n.log2 = 1:=by
  have a:=Nat.log2_self_le (n:=n) (by lia)
  have b:n < 2 ^ (n.log2 + 1):=Nat.lt_log2_self
  rw [Nat.pow_succ] at b
  have hp:0 < 2 ^ n.log2:=Nat.pow_pos (by decide)
  have c:1 ≤ n / 2 ^ n.log2:=(Nat.le_div_iff_mul_le hp).mpr (by lia)
  have d:n / 2 ^ n.log2 < 2:=(Nat.div_lt_iff_lt_mul hp).mpr (by lia)
  lia
 obtain ⟨μ',aw,e,v,x4,g,hg,rfl,rv⟩:=b_ (g:=fun _ => True) (a:=aName 4) (body:=Rz L mb)
  (fun i μ s' => ∃ v x4 g,s' = st ++ g ∧ μ = [some (.fn L u),some x,some (Val.int (n:Int)),some v,x4] ∧ Rep (n / 2 ^ (n.log2 - i)) v s')
  (iy ((n.log2:Int) - 1) n.log2) 0 [some (.fn L u),some x,some (Val.int (n:Int)),some x,none] st
  (by
   rintro i w μ s' hu ⟨v,x4,g,hs,rfl,rv⟩
   obtain ⟨hi,rfl⟩:=Jt hu
   rw [Nat.zero_add] at rv ⊢
   refine ⟨trivial,?_⟩
   obtain ⟨p,hp⟩:∃ p,p = n.log2 - (i + 1):=⟨_,rfl⟩
   have TR:n.log2 - i = p + 1:=by lia
   rw [TR] at rv
   have ep:((n.log2:Int) - 1 - (i:Int)) = (p:Int):=by lia
   rw [ep,← hp]
   obtain ⟨k,hk⟩:∃ k,k = n / 2 ^ (p + 1):=⟨_,rfl⟩
   have yu:=yj n p
   rw [← hk] at yu rv
   have k1:1 ≤ k:=by
    rw [hk]
    have hp:0 < 2 ^ (p + 1):=Nat.pow_pos (by decide)
    refine (Nat.le_div_iff_mul_le hp).mpr ?_
    have a:=Nat.log2_self_le (n:=n) (by lia)
    have b:2 ^ (p + 1) ≤ 2 ^ n.log2:=Nat.pow_le_pow_right (by decide) (by lia)
    lia
   have kn:n / 2 ^ p ≤ n:=Nat.div_le_self _ _
   have bt:n / 2 ^ p % 2 < 2:=Nat.mod_lt _ (by decide)
   obtain ⟨y,g1,ey,ry⟩:=R.mul k k v v s' k1 k1 (by lia) rv rv
   have pv:=R.pure _ _ _ rv
   have vv:∀ s,ae (aa 3) (ae (aa 3) ak) [some (.fn L u),some x,some (Val.int (n:Int)),some v,some (Val.int (p:Int))] s = .ok [v,v] s:=fun s => d6 (kS rfl pv) (kS rfl pv)
   have s1:aG 3 (gK 0 L mb (ae (aa 3) (ae (aa 3) ak))) [some (.fn L u),some x,some (Val.int (n:Int)),some v,some (Val.int (p:Int))] s' = .nx [some (.fn L u),some x,some (Val.int (n:Int)),some y,some (Val.int (p:Int))] (s' ++ g1):=by
    rw [bT (tW oF rfl (vv s') ey)]; rfl
   have py:=R.pure _ _ _ ry
   refine ⟨[some (.fn L u),some x,some (Val.int (n:Int)),some v,some (Val.int (p:Int))],rfl,?_⟩
   cases Dj:(n / 2 ^ p % 2 == 1) with
   | false =>
    have h0:=beq_eq_false_iff_ne.mp Dj
    have t:=wL (m:=n) (p:=p) (x0:=some (.fn L u)) (x1:=some x) (x3:=some y) (s:=s' ++ g1)
    rw [Dj] at t
    refine ⟨_,_,.inl (?_:_ = dk.nx [some (.fn L u),some x,some (Val.int (n:Int)),some y,some (Val.int (p:Int))] (s' ++ g1)),y,some (Val.int (p:Int)),g ++ g1,by rw [hs,List.append_assoc],rfl,?_⟩
    ·show aE _ _ _ _ = _
     rw [aA,s1,aB,iz t]
    ·rw [show n / 2 ^ p = k + k by lia]; exact ry
   | true =>
    have h0:=beq_iff_eq.mp Dj
    have t:=wL (m:=n) (p:=p) (x0:=some (.fn L u)) (x1:=some x) (x3:=some y) (s:=s' ++ g1)
    rw [Dj] at t
    have rx:Rep 1 x (s' ++ g1):=by rw [hs]; exact R.mono _ _ _ _ (R.mono _ _ _ _ h1)
    have px:=R.pure _ _ _ rx
    obtain ⟨z,g2,ez,rz⟩:=R.mul (k + k) 1 y x (s' ++ g1) (by lia) (by lia) (by lia) ry rx
    have yx:ae (aa 3) (ae (aa 1) ak) [some (.fn L u),some x,some (Val.int (n:Int)),some y,some (Val.int (p:Int))] (s' ++ g1) = .ok [y,x] (s' ++ g1):=d6 (kS rfl py) (kS rfl px)
    have s2:aG 3 (gK 0 L mb (ae (aa 3) (ae (aa 1) ak))) [some (.fn L u),some x,some (Val.int (n:Int)),some y,some (Val.int (p:Int))] (s' ++ g1) = .nx [some (.fn L u),some x,some (Val.int (n:Int)),some z,some (Val.int (p:Int))] (s' ++ g1 ++ g2):=by
     rw [bT (tW oF rfl yx ez)]; rfl
    refine ⟨_,_,.inl (?_:_ = dk.nx [some (.fn L u),some x,some (Val.int (n:Int)),some z,some (Val.int (p:Int))] (s' ++ g1 ++ g2)),z,some (Val.int (p:Int)),g ++ g1 ++ g2,by rw [hs,List.append_assoc,List.append_assoc,List.append_assoc],rfl,?_⟩
    ·show aE _ _ _ _ = _
     rw [aA,s1,aB,jE t,s2]
    ·rw [show n / 2 ^ p = k + k + 1 by lia]; exact rz)
  (fun μ s hp => trivial)
  ⟨x,none,[],(List.append_nil st).symm,rfl,by rw [Nat.sub_zero,MP]; exact h1⟩
 rw [Nat.zero_add,GG,Nat.sub_self,Nat.pow_zero,Nat.div_one] at rv
 subst hg
 refine ⟨v,g,?_,rv⟩
 have px:=R.pure _ _ _ h1
 have pv:=R.pure _ _ _ rv
 unfold PM.repeated
 rw [GH (np:=3) (us:=[x,Val.int (n:Int)]) rfl]
 show (aE (aG 3 (aa 1)) (aE (dr (kO (ae (ah gG (sZ (aa 2)) (mC (.int 2))) (ae (sL (mC (.int 1))) (ae (sL (mC (.int 1))) ak)))) (aName 4) (Rz L mb)) (bF (aa 3))) [some (.fn L u),some x,some (Val.int (n:Int)),none,none] st).fin = _
 have f1:aG 3 (aa 1) [some (.fn L u),some x,some (Val.int (n:Int)),none,none] st = .nx [some (.fn L u),some x,some (Val.int (n:Int)),some x,none] st:=by
  rw [bT (v:=x) (kS rfl px)]; rfl
 have bits:Builtin.Int.intBits (n:Int) = n.log2 + 1:=by
  unfold Builtin.Int.intBits
  rw [if_neg (by simp; lia)]
  rfl
 have a1:ah gG (sZ (aa 2)) (mC (.int 2)) [some (.fn L u),some x,some (Val.int (n:Int)),some x,none] st = .ok (Val.int ((n.log2:Int) - 1)) st:=by
  rw [aS (x:=.int ((n.log2 + 1:Nat):Int)) (y:=.int 2) (s1:=st) (s2:=st) (by show Res.ok (Val.int ((Builtin.Int.intBits (n:Int):Nat):Int)) st = _; rw [bits]) rfl]
  show Res.ok (Val.int (((n.log2 + 1:Nat):Int) - 2)) st = _
  rw [show ((n.log2 + 1:Nat):Int) - 2 = (n.log2:Int) - 1 by lia]
 have a2:∀ μ:MN.Env,sL (mC (.int 1)) μ st = .ok (Val.int (-1)) st:=fun _ => rfl
 have dn:kO (ae (ah gG (sZ (aa 2)) (mC (.int 2))) (ae (sL (mC (.int 1))) (ae (sL (mC (.int 1))) ak))) [some (.fn L u),some x,some (Val.int (n:Int)),some x,none] st = .ok (iy ((n.log2:Int) - 1) n.log2,fun _ => True) st:=by
  rw [CP,ki a1 (d6 (a2 _) (a2 _)),av,Ga (by lia) (by lia) (by decide) (by decide),show ((n.log2:Int) - 1 - -1).toNat = n.log2 by lia]
 rw [aA,f1,aB,aA,dI,dn,aK,fI,e,aB,bK,kS rfl pv,aK]
 rfl
end
end PG
namespace PG
open PySem PySem.Spec L2 MN
open PyProof.Rows hiding St kindOf
theorem fk (n:Int):aD 0 n = n:=if_pos rfl
theorem fm {r:Int} (h:0 < r) (n:Int):aD r n = n % r:=by
 unfold aD
 rw [if_neg (by lia),Int.fmod_eq_emod_of_nonneg n (by lia)]
theorem ip {r:Int} (hr:bI r = true):r = 0 ∨ (2 ≤ r ∧ r ≤ 997):=by
 unfold bI at hr
 rcases Bool.or_eq_true _ _ |>.mp hr with h | h
 ·exact .inl (by simpa using h)
 ·have:=xR h; exact .inr (by lia)
section
variable {r:Int}
theorem iW (hr:bI r = true) (a b:Int):aD r (aD r a * aD r b) = aD r (a * b):=by
 rcases ip hr with rfl | h
 ·rw [fk,fk,fk,fk]
 ·rw [fm (by lia),fm (by lia),fm (by lia),fm (by lia),← Int.mul_emod]
theorem iq (hr:bI r = true) (a:Int):aD r (aD r a) = aD r a:=by
 rcases ip hr with rfl | h
 ·rw [fk,fk]
 ·rw [fm (by lia),fm (by lia),Int.emod_emod]
theorem A0 (hr:bI r = true) (a b:Int):aD r (a * aD r b) = aD r (a * b):=by
 rw [← iW hr,iq hr,iW hr]
theorem kj (hr:bI r = true) (a b:Int):aD r (aD r a * b) = aD r (a * b):=by
 rw [← iW hr,iq hr,iW hr]
theorem lq (hr:bI r = true) (a b:Int):aD r (aD r a + aD r b) = aD r (a + b):=by
 rcases ip hr with rfl | h
 ·rw [fk,fk,fk,fk]
 ·rw [fm (by lia),fm (by lia),fm (by lia),fm (by lia),← Int.add_emod]
theorem A3 (hr:bI r = true) (a b:Int):aD r (aD r a + b) = aD r (a + b):=by
 rw [← lq hr,iq hr,lq hr]
theorem tX (hr:bI r = true) (a b:Int):aD r (a + aD r b) = aD r (a + b):=by
 rw [← lq hr,iq hr,lq hr]
theorem A4 (hr:bI r = true):aD r 1 = 1:=by
 rcases ip hr with rfl | h
 ·rw [fk]
 ·rw [fm (by lia)]; exact Int.emod_eq_of_lt (by lia) (by lia)
theorem wM (hr:bI r = true):aD r 0 = 0:=by
 rcases ip hr with rfl | h
 ·rw [fk]
 ·rw [fm (by lia)]; exact Int.zero_emod _
theorem lu (hr:bI r = true) {k:Nat} (hk:10 ≤ k) {n:Int} (h:dB k n):dB k (aD r n):=by
 rcases ip hr with rfl | h2
 ·rw [fk]; exact h
 ·rw [fm (by lia)]
  have a:=Int.emod_nonneg n (show r ≠ 0 by lia)
  have b:=Int.emod_lt_of_pos n (show 0 < r by lia)
  exact dB.small hk (by lia) (by lia)
end
theorem wN {k:Nat} (hk:1 ≤ k):dB k 1:=by
 show (1:Int).natAbs < 2 ^ k
 have:2 ^ 1 ≤ 2 ^ k:=Nat.pow_le_pow_right (by decide) hk
 have h1:(1:Int).natAbs = 1:=rfl
 lia
theorem nr {k:Nat} {x:Int} (h:dB k x):∀ m:Nat,dB (k * m + 1) (x ^ m)
 | 0 => by rw [Int.pow_zero]; exact wN (by lia)
 | m + 1 => by
  rw [Int.pow_succ]
  exact ((nr h m).mul h).mono (by rw [Nat.mul_succ]; lia)
theorem fq {a b:Nat} {i j:Int} (h:dB a i) (k:dB b j) (ha:a ≤ 1000000) (hb:b ≤ 1000000):MulOk i j:=.inl ⟨Sz.of h ha,Sz.of k hb⟩
section
variable {r x:Int} {M:fH}
theorem A5 {r:Int} (hr:bI r = true) (x:Int):∀ m:Nat,aD r (aD r x ^ m) = aD r (x ^ m)
 | 0 => by rw [Int.pow_zero,Int.pow_zero]
 | m + 1 => by rw [Int.pow_succ,Int.pow_succ,← iW hr,A5 hr x m,iq hr,iW hr]
theorem Dk (hr:bI r = true) (hx:dB 100 x) {n:Nat} (hn:n ≤ 99):Ju PM.aV (.int r) n (fun i v _ => v = .int (aD r (x ^ i))) where
 pure:=fun i v st h => by rw [h]; rfl
 mono:=fun i v st g h => h
 mul:=fun i j v w st hi hj Tn hv hw => by
  subst hv hw
  refine ⟨_,[],?_,rfl⟩
  have b:∀ i:Nat,i ≤ n → dB 9901 (aD r (x ^ i)):=fun i h => lu hr (by decide) ((nr hx i).mono (by have:100 * i ≤ 100 * 99:=Nat.mul_le_mul_left _ (by lia); lia))
  have m1:ah bz (aa 0) (aa 1) [some (.int (aD r (x ^ i))),some (.int (aD r (x ^ j))),some (.int r)] st = .ok (.int (aD r (x ^ i) * aD r (x ^ j))) st:=by
   rw [aS (x:=.int (aD r (x ^ i))) (y:=.int (aD r (x ^ j))) (s1:=st) (s2:=st) rfl rfl,gM (fq (b i (by lia)) (b j (by lia)) (by decide) (by decide))]
  unfold PM.aV
  rw [call_of (d6 (v:=.int r) (s1:=st) rfl m1),kg,iW hr,← Int.pow_add,List.append_nil]
theorem A6 (oF:M.S.ps.length = 2) (hr:bI r = true) (hx:dB 100 x) {n:Nat} (hn:n ≤ 99) {st:ai} (ht:en st M.own M.line M.col M.S.qual) :
  ∃ g,PM.bC M [.int r,.int x,.int (n:Int)] st = .ok (.int (aD r (x ^ n))) (st ++ g):=by
 obtain ⟨μ,hμ⟩:∃ μ:MN.Env,μ = [some (.int r),some (.int x),some (.int (n:Int))]:=⟨_,rfl⟩
 have mf:cJ (ah gb (aa 2) (mC (.int 0))) μ st = .ok ((n:Int) == 0) st:=dc (qt (by rw [hμ]; rfl))
 unfold PM.bC
 rw [cD (np:=3) (us:=[Val.int r,.int x,.int (n:Int)]) rfl]
 show ∃ g,(aE (gW (cJ (ah gb (aa 2) (mC (.int 0)))) (bF (mC (.int 1))) bQ) (bF (kP M 0 (PM.repeated M.S PM.aV) (ae (aq PM.aC (ae (aa 0) (ae (aa 1) ak))) (ae (aa 2) ak)))) [some (Val.int r),some (.int x),some (.int (n:Int))] st).fin = _
 rw [← hμ]
 by_cases hz:n = 0
 ·subst hz
  refine ⟨[],?_⟩
  rw [show (((0:Nat):Int) == 0) = true from rfl] at mf
  rw [aA,jE mf,Int.pow_zero,A4 hr,List.append_nil]
  rfl
 ·have hb:((n:Int) == 0) = false:=beq_eq_false_iff_ne.mpr (by lia)
  rw [hb] at mf
  have bx:dB 100 (aD r x):=lu hr (by decide) hx
  obtain ⟨y,g,e,hy⟩:=GI (L:=M.S) (mb:=PM.aV) (u:=.int r) (x:=.int (aD r x)) (n:=n) oF (by lia) (by lia) (Dk hr bx hn) (st:=st) (by rw [Int.pow_succ,Int.pow_zero,Int.one_mul,iq hr])
  refine ⟨g,?_⟩
  subst hy
  have a:ae (aq PM.aC (ae (aa 0) (ae (aa 1) ak))) (ae (aa 2) ak) μ st = .ok [.int (aD r x),.int (n:Int)] st:=by
   refine d6 ?_ (by rw [hμ]; rfl)
   rw [call_of (d6 (v:=.int r) (w:=.int x) (s1:=st) (s2:=st) (by rw [hμ]; rfl) (by rw [hμ]; rfl)),kg]
  have cl:kP M 0 (PM.repeated M.S PM.aV) (ae (aq PM.aC (ae (aa 0) (ae (aa 1) ak))) (ae (aa 2) ak)) μ st = .ok (.int (aD r (x ^ n))) (st ++ g):=by
   unfold kP
   rw [hμ]
   dsimp only [List.getElem?_cons_zero]
   rw [if_pos ⟨rfl,ht⟩,← hμ,a]
   show IK (PM.repeated M.S PM.aV (.int r) [.int (aD r x),.int (n:Int)] st) = _
   rw [e,A5 hr]
   rfl
  rw [aA,iz mf,aB,bK,cl,aK]
  rfl
end
end PG
namespace PG
open PySem PySem.Spec L2 MN
open PyProof.Rows hiding St kindOf
theorem bU {st:ai} {x q:Str} {l c:Nat} (h:en st x l c q) (g:ai):en (st ++ g) x l c q:=let ⟨j,h⟩:=h; ⟨j,cO h g⟩
noncomputable def wO (l:List (Int × Int)):Int:=l.foldl (fun a p => a * p.2 ^ p.1.toNat) 1
theorem oG (l:List (Int × Int)) (p:Int × Int):wO (l ++ [p]) = wO l * p.2 ^ p.1.toNat:=by unfold wO; rw [List.foldl_append]; rfl
noncomputable def PW (es pt:List Int):Int:=wO (es.zip pt)
theorem rC:∀ (l:List (Int × Int)),(∀ p ∈ l,(0 ≤ p.1 ∧ p.1 ≤ 99) ∧ dB 100 p.2) → ∀ i,i ≤ l.length → dB (9901 * i + 10) (wO (l.take i))
 | l,h,0,_ => by rw [List.take_zero]; exact (wN (k:=9901 * 0 + 10) (by decide))
 | l,h,i + 1,hi => by
  have pS:i < l.length:=by lia
  rw [List.take_succ,List.getElem?_eq_getElem pS]
  show dB _ (wO (l.take i ++ [l[i]]))
  rw [oG]
  have hp:=h l[i] (List.getElem_mem pS)
  have b:dB (100 * l[i].1.toNat + 1) (l[i].2 ^ l[i].1.toNat):=nr hp.2 _
  refine ((rC l h i (by lia)).mul b).mono ?_
  have:100 * l[i].1.toNat ≤ 100 * 99:=Nat.mul_le_mul_left _ (by lia)
  lia
theorem tY:∀ es pt:List Int,mI (es.map Val.int) (pt.map Val.int) = (es.zip pt).map fun p => Val.tup [.int p.1,.int p.2]
 | [],_ => by cases ‹List Int› <;> rfl
 | _ :: _,[] => rfl
 | e :: es,x :: pt => by
  show Val.tup [.int e,.int x] :: mI (es.map Val.int) (pt.map Val.int) = _
  rw [tY es pt]; rfl
theorem GJ {st:ai} {us ws:List Val} {m:Nat} (h:itemsOf st m = some ws):CJ false true [.tup us,.loc m] st = .ok (mI us ws,fun bV => True ∧ itemsOf bV m = some ws) st:=by
 unfold CJ
 dsimp only [gk]
 rw [h]
 rfl
section
variable {r:Int} {M:fH} {q p:Nat} {es pt:List Int} {st:ai}
structure A7 (es pt:List Int):Prop where
 he:∀ e ∈ es,0 ≤ e ∧ e ≤ 99
 hx:∀ x ∈ pt,dB 100 x
 Bt:pt.length ≤ 4
theorem A7.zip (h:A7 es pt):∀ p ∈ es.zip pt,(0 ≤ p.1 ∧ p.1 ≤ 99) ∧ dB 100 p.2:=fun p hp => by
 have:=List.of_mem_zip (a:=p.1) (b:=p.2) hp
 exact ⟨h.he _ this.1,h.hx _ this.2⟩
theorem A7.len (h:A7 es pt):(es.zip pt).length ≤ 4:=by rw [List.length_zip]; have:=h.Bt; lia
noncomputable abbrev RA (M:fH):MB:=aG 3 (aq PM.aC (ae (aa 0) (ae (ah bz (aa 3) (aq (PM.bC M) (ae (aa 0) (ae (aa 5) (ae (aa 4) ak))))) ak)))
theorem GK (oF:M.S.ps.length = 2) (hr:bI r = true) (h:A7 es pt) (hq:itemsOf st q = some (pt.map Val.int)) (ht:en st M.own M.line M.col M.S.qual) :
  ∃ g,PM.aU M [.int r,tupI es,.loc q] st = .ok (.int (aD r (PW es pt))) (st ++ g):=by
 obtain ⟨l,hl⟩:∃ l,l = es.zip pt:=⟨_,rfl⟩
 have hz:=h.zip
 have hlen:=h.len
 rw [← hl] at hz hlen
 obtain ⟨μ',aw,e,g,rfl,x4,x5,rfl⟩:=b_ (g:=fun bV => True ∧ itemsOf bV q = some (pt.map Val.int)) (a:=jh [aName 4,aName 5]) (body:=RA M)
  (fun i μ s' => ∃ g,s' = st ++ g ∧ ∃ x4 x5,μ = [some (.int r),some (tupI es),some (.loc q),some (.int (aD r (wO (l.take i)))),x4,x5])
  (l.map fun p => Val.tup [.int p.1,.int p.2]) 0 [some (.int r),some (tupI es),some (.loc q),some (.int 1),none,none] st
  (by
   rintro i u μ s' hu ⟨g,rfl,x4,x5,rfl⟩
   rw [Nat.zero_add]
   refine ⟨⟨trivial,aJ hq _⟩,?_⟩
   rw [List.getElem?_map] at hu
   have hi:i < l.length:=by
    rcases Nat.lt_or_ge i l.length with z | z
    ·exact z
    ·rw [List.getElem?_eq_none z] at hu; cases hu
   rw [List.getElem?_eq_getElem hi] at hu
   obtain ⟨t,vk⟩:∃ t,t = l[i]:=⟨_,rfl⟩
   have mt:t ∈ l:=by rw [vk]; exact List.getElem_mem hi
   rw [← vk] at hu
   cases hu
   have tk:l.take (i + 1) = l.take i ++ [t]:=by rw [List.take_succ,List.getElem?_eq_getElem hi,← vk]; rfl
   obtain ⟨μ1,gs⟩:∃ μ1:MN.Env,μ1 = [some (.int r),some (tupI es),some (.loc q),some (.int (aD r (wO (l.take i)))),some (.int t.1),some (.int t.2)]:=⟨_,rfl⟩
   have h1:=hz t mt
   obtain ⟨n,hn⟩:∃ n:Nat,(n:Int) = t.1:=⟨t.1.toNat,by lia⟩
   obtain ⟨g1,e1⟩:=A6 (M:=M) (r:=r) (x:=t.2) (n:=n) oF hr h1.2 (by lia) (bU ht g)
   have c1:aq (PM.bC M) (ae (aa 0) (ae (aa 5) (ae (aa 4) ak))) μ1 (st ++ g) = .ok (.int (aD r (t.2 ^ n))) (st ++ g ++ g1):=by
    rw [call_of (ki (v:=.int r) (s1:=st ++ g) (by rw [gs]; rfl) (d6 (v:=.int t.2) (w:=.int t.1) (s1:=st ++ g) (s2:=st ++ g) (by rw [gs]; rfl) (by rw [gs]; rfl))),← hn,e1]
   have b1:dB 39700 (aD r (wO (l.take i))):=lu hr (by decide) ((rC l hz i (by lia)).mono (by lia))
   have b2:dB 10000 (aD r (t.2 ^ n)):=lu hr (by decide) ((nr h1.2 n).mono (by have:100 * n ≤ 100 * 99:=Nat.mul_le_mul_left _ (by lia); lia))
   have c2:ah bz (aa 3) (aq (PM.bC M) (ae (aa 0) (ae (aa 5) (ae (aa 4) ak)))) μ1 (st ++ g) = .ok (.int (aD r (wO (l.take i)) * aD r (t.2 ^ n))) (st ++ g ++ g1):=by
    rw [aS (x:=.int (aD r (wO (l.take i)))) (s1:=st ++ g) (by rw [gs]; rfl) c1,gM (fq b1 b2 (by decide) (by decide))]
   have c3:aq PM.aC (ae (aa 0) (ae (ah bz (aa 3) (aq (PM.bC M) (ae (aa 0) (ae (aa 5) (ae (aa 4) ak))))) ak)) μ1 (st ++ g) = .ok (.int (aD r (wO (l.take (i + 1))))) (st ++ g ++ g1):=by
    rw [call_of (d6 (v:=.int r) (s1:=st ++ g) (by rw [gs]; rfl) c2),kg,iW hr,tk,oG,← hn,Int.toNat_natCast]
   refine ⟨μ1,by rw [gs]; rfl,_,_,.inl (?_:_ = dk.nx [some (.int r),some (tupI es),some (.loc q),some (.int (aD r (wO (l.take (i + 1))))),some (.int t.1),some (.int t.2)] (st ++ g ++ g1)),g ++ g1,by rw [List.append_assoc],_,_,rfl⟩
   show aG 3 _ μ1 _ = _
   rw [bT c3,gs]; rfl)
  (fun μ s hp => by obtain ⟨g,rfl,_⟩:=hp; exact ⟨trivial,aJ hq _⟩)
  ⟨[],(List.append_nil st).symm,none,none,by rw [List.take_zero]; show _ = [_,_,_,some (Val.int (aD r 1)),_,_]; rw [A4 hr]⟩
 rw [Nat.zero_add,List.length_map,List.take_of_length_le (Nat.le_refl _),hl] at e
 refine ⟨g,?_⟩
 unfold PM.aU
 rw [cD (np:=3) (us:=[Val.int r,tupI es,.loc q]) rfl]
 show (aE (aG 3 (mC (.int 1))) (aE (dr (sN false true (ae (aa 1) (ae (aa 2) ak))) (jh [aName 4,aName 5]) (RA M)) (bF (aa 3))) [some (.int r),some (tupI es),some (.loc q),none,none,none] st).fin = _
 have f1:aG 3 (mC (.int 1)) [some (.int r),some (tupI es),some (.loc q),none,none,none] st = .nx [some (.int r),some (tupI es),some (.loc q),some (.int 1),none,none] st:=rfl
 have a:ae (aa 1) (ae (aa 2) ak) [some (.int r),some (tupI es),some (.loc q),some (.int 1),none,none] st = .ok [tupI es,.loc q] st:=rfl
 have zz:CJ false true [tupI es,.loc q] st = .ok (mI (es.map Val.int) (pt.map Val.int),fun bV => True ∧ itemsOf bV q = some (pt.map Val.int)) st:=GJ hq
 rw [tY,← hl] at zz
 rw [← hl] at e
 rw [aA,f1,aB,aA,dI,F7,a,av,zz,aK,fI,e,aB,hl]
 rfl
noncomputable def VS (D:List bE) (pt:List Int):Int:=D.foldl (fun a t => a + t.2 * PW t.1 pt) 0
theorem wQ (D:List bE) (t:bE) (pt:List Int):VS (D ++ [t]) pt = VS D pt + t.2 * PW t.1 pt:=by unfold VS; rw [List.foldl_append]; rfl
theorem GL (h:A7 es pt):dB 39700 (PW es pt):=by
 have:=rC (es.zip pt) h.zip _ (Nat.le_refl _)
 rw [List.take_of_length_le (Nat.le_refl _)] at this
 have l:=h.len
 exact this.mono (by lia)
noncomputable abbrev RC (M:fH):MB:=aG 3 (aq PM.aC (ae (aa 0) (ae (ah bR (aa 3) (ah bz (aa 5) (aq (PM.aU M) (ae (aa 0) (ae (aa 4) (ae (aa 2) ak)))))) ak)))
theorem A8 {D:List bE} (oF:M.S.ps.length = 2) (hr:bI r = true) (hp:itemsOf st p = some (D.map tV)) (hq:itemsOf st q = some (pt.map Val.int)) (hD:∀ t ∈ D,A7 t.1 pt ∧ dB 200 t.2) (ht:en st M.own M.line M.col M.S.qual) :
  ∃ g,PM.value M [.int r,.loc p,.loc q] st = .ok (.int (aD r (VS D pt))) (st ++ g):=by
 obtain ⟨g0,e0⟩:=jr hr st
 obtain ⟨s0,A9⟩:∃ s0,s0 = st ++ g0:=⟨_,rfl⟩
 rw [← A9] at e0
 have Hb:itemsOf s0 p = some (D.map tV):=by rw [A9]; exact aJ hp _
 have TU:itemsOf s0 q = some (pt.map Val.int):=by rw [A9]; exact aJ hq _
 have KG:en s0 M.own M.line M.col M.S.qual:=by rw [A9]; exact bU ht _
 obtain ⟨μ',aw,e,g,rfl,x4,x5,rfl⟩:=b_ (g:=fun bV => itemsOf bV p = some (D.map tV)) (a:=jh [aName 4,aName 5]) (body:=RC M)
  (fun i μ s' => ∃ g,s' = s0 ++ g ∧ ∃ x4 x5,μ = [some (.int r),some (.loc p),some (.loc q),some (.int (aD r (VS (D.take i) pt))),x4,x5])
  (D.map tV) 0 [some (.int r),some (.loc p),some (.loc q),some (.int 0),none,none] s0
  (by
   rintro i u μ s' hu ⟨g,rfl,x4,x5,rfl⟩
   rw [Nat.zero_add]
   refine ⟨aJ Hb _,?_⟩
   rw [List.getElem?_map] at hu
   have hi:i < D.length:=by
    rcases Nat.lt_or_ge i D.length with z | z
    ·exact z
    ·rw [List.getElem?_eq_none z] at hu; cases hu
   rw [List.getElem?_eq_getElem hi] at hu
   obtain ⟨t,vk⟩:∃ t,t = D[i]:=⟨_,rfl⟩
   have mt:t ∈ D:=by rw [vk]; exact List.getElem_mem hi
   rw [← vk] at hu
   cases hu
   have tk:D.take (i + 1) = D.take i ++ [t]:=by rw [List.take_succ,List.getElem?_eq_getElem hi,← vk]; rfl
   obtain ⟨μ1,gs⟩:∃ μ1:MN.Env,μ1 = [some (.int r),some (.loc p),some (.loc q),some (.int (aD r (VS (D.take i) pt))),some (tupI t.1),some (.int t.2)]:=⟨_,rfl⟩
   have h1:=hD t mt
   obtain ⟨g1,e1⟩:=GK (M:=M) (r:=r) (es:=t.1) (pt:=pt) (q:=q) oF hr h1.1 (aJ TU g) (bU KG g)
   have c1:aq (PM.aU M) (ae (aa 0) (ae (aa 4) (ae (aa 2) ak))) μ1 (s0 ++ g) = .ok (.int (aD r (PW t.1 pt))) (s0 ++ g ++ g1):=by
    rw [call_of (ki (v:=.int r) (s1:=s0 ++ g) (by rw [gs]; rfl) (d6 (v:=tupI t.1) (w:=.loc q) (s1:=s0 ++ g) (s2:=s0 ++ g) (by rw [gs]; rfl) (by rw [gs]; rfl))),e1]
   have c2:ah bz (aa 5) (aq (PM.aU M) (ae (aa 0) (ae (aa 4) (ae (aa 2) ak)))) μ1 (s0 ++ g) = .ok (.int (t.2 * aD r (PW t.1 pt))) (s0 ++ g ++ g1):=by
    rw [aS (x:=.int t.2) (s1:=s0 ++ g) (by rw [gs]; rfl) c1,gM (fq h1.2 (lu hr (by decide) (GL h1.1)) (by decide) (by decide))]
   have c3:ah bR (aa 3) (ah bz (aa 5) (aq (PM.aU M) (ae (aa 0) (ae (aa 4) (ae (aa 2) ak))))) μ1 (s0 ++ g) = .ok (.int (aD r (VS (D.take i) pt) + t.2 * aD r (PW t.1 pt))) (s0 ++ g ++ g1):=by
    rw [aS (x:=.int (aD r (VS (D.take i) pt))) (s1:=s0 ++ g) (by rw [gs]; rfl) c2]; rfl
   have c4:aq PM.aC (ae (aa 0) (ae (ah bR (aa 3) (ah bz (aa 5) (aq (PM.aU M) (ae (aa 0) (ae (aa 4) (ae (aa 2) ak)))))) ak)) μ1 (s0 ++ g) = .ok (.int (aD r (VS (D.take (i + 1)) pt))) (s0 ++ g ++ g1):=by
    rw [call_of (d6 (v:=.int r) (s1:=s0 ++ g) (by rw [gs]; rfl) c3),kg,A3 hr,← tX hr,A0 hr,tX hr,tk,wQ]
   refine ⟨μ1,by rw [gs]; rfl,_,_,.inl (?_:_ = dk.nx [some (.int r),some (.loc p),some (.loc q),some (.int (aD r (VS (D.take (i + 1)) pt))),some (tupI t.1),some (.int t.2)] (s0 ++ g ++ g1)),g ++ g1,by rw [List.append_assoc],_,_,rfl⟩
   show aG 3 _ μ1 _ = _
   rw [bT c4,gs]; rfl)
  (fun μ s hp => by obtain ⟨g,rfl,_⟩:=hp; exact aJ Hb _)
  ⟨[],(List.append_nil s0).symm,none,none,by rw [List.take_zero]; show _ = [_,_,_,some (Val.int (aD r 0)),_,_]; rw [wM hr]⟩
 rw [Nat.zero_add,List.length_map,List.take_of_length_le (Nat.le_refl _)] at e
 refine ⟨g0 ++ g,?_⟩
 unfold PM.value
 rw [cD (np:=3) (us:=[Val.int r,.loc p,.loc q]) rfl]
 show (aE (dz (aq PM.cI (ae (aa 0) ak))) (aE (aG 3 (mC (.int 0))) (aE (dr (e_ (aa 1)) (jh [aName 4,aName 5]) (RC M)) (bF (aa 3)))) [some (.int r),some (.loc p),some (.loc q),none,none,none] st).fin = _
 have f0:dz (aq PM.cI (ae (aa 0) ak)) [some (.int r),some (.loc p),some (.loc q),none,none,none] st = .nx [some (.int r),some (.loc p),some (.loc q),none,none,none] s0:=by
  rw [gB,call_of (fL (v:=.int r) (s1:=st) rfl),e0,aK]; rfl
 have f1:aG 3 (mC (.int 0)) [some (.int r),some (.loc p),some (.loc q),none,none,none] s0 = .nx [some (.int r),some (.loc p),some (.loc q),some (.int 0),none,none] s0:=rfl
 have v1:aa 1 [some (.int r),some (.loc p),some (.loc q),some (.int 0),none,none] s0 = .ok (.loc p) s0:=rfl
 rw [aA,f0,aB,aA,f1,aB,aA,dI,fu,v1,av,eJ Hb,aK,fI,e,aB,A9,List.append_assoc]
 rfl
end
end PG
namespace PG
open PySem PySem.Spec L2 MN
open PyProof.Rows hiding St kindOf
theorem tZ {lo:Int} {n i:Nat} {u:Val} (h:(aR lo n)[i]? = some u):i < n ∧ u = .int (lo + (i:Int)):=by
 unfold aR at h
 have pS:=eS h
 rw [List.length_map,List.length_range] at pS
 rw [List.getElem?_map,List.getElem?_range pS] at h
 exact ⟨pS,(Option.some.inj h).symm⟩
theorem oH (lo:Int) (n:Nat):(aR lo n).length = n:=by unfold aR; rw [List.length_map,List.length_range]
theorem Jv {pt:List Int} {k q:Nat} {s:ai} (hq:itemsOf s q = some (pt.map Val.int)) (h:k < pt.length):bL (.loc q) (.int (k:Int)) s = .ok (.int (pt.getD k 0)) s:=by
 have:=at_getD (ns:=pt) (i:=(k:Int)) (by lia) (by lia)
 rw [Int.toNat_natCast] at this
 exact kU hq this
section
variable {r:Int} {q p:Nat} {pt:List Int} {st:ai} {t:bE}
noncomputable abbrev RD:MB:=aG 5 (aq PM.bf (ae (aa 0) (ae (ah bz (aa 5) (ah bL (aa 2) (aa 6))) ak)))
noncomputable abbrev MQ:MB:=dr (a_ (ae (ah bL (ah bL (aa 4) (mC (.int 0))) (aa 6)) ak)) (aName 7) RD
theorem A_ {x3 x7:Option Val} {k B:Nat} {part:Int} (hr:bI r = true) (hq:itemsOf st q = some (pt.map Val.int)) (h:A7 t.1 pt) (hk:k < pt.length) (Gj:k < t.1.length) (hB:dB B part) (b0:10 ≤ B) (b1:B ≤ 100000) :
  ∃ y de,MQ [some (.int r),some (.loc p),some (.loc q),x3,some (tV t),some (.int part),some (.int (k:Int)),x7] st = .nx [some (.int r),some (.loc p),some (.loc q),x3,some (tV t),some (.int de),some (.int (k:Int)),y] st ∧
   aD r de = aD r (part * (pt.getD k 0) ^ (t.1.getD k 0).toNat) ∧ dB (B + 9900) de:=by
 obtain ⟨x,hx⟩:∃ x,x = pt.getD k 0:=⟨_,rfl⟩
 obtain ⟨ex,hex⟩:∃ ex,ex = t.1.getD k 0:=⟨_,rfl⟩
 have bx:dB 100 x:=by
  rw [hx,List.getD_eq_getElem?_getD,List.getElem?_eq_getElem hk]
  exact h.hx _ (List.getElem_mem hk)
 have be:0 ≤ ex ∧ ex ≤ 99:=by
  rw [hex,List.getD_eq_getElem?_getD,List.getElem?_eq_getElem Gj]
  exact h.he _ (List.getElem_mem Gj)
 obtain ⟨n,hn⟩:∃ n:Nat,(n:Int) = ex:=⟨ex.toNat,by lia⟩
 obtain ⟨μ',aw,e,rfl,y,de,rfl,hs,hb⟩:=b_ (g:=fun _ => True) (a:=aName 7) (body:=RD)
  (fun i μ s' => s' = st ∧ ∃ y de,μ = [some (.int r),some (.loc p),some (.loc q),x3,some (tV t),some (.int de),some (.int (k:Int)),y] ∧ aD r de = aD r (part * x ^ i) ∧ dB (B + 100 * i) de)
  (aR 0 n) 0 [some (.int r),some (.loc p),some (.loc q),x3,some (tV t),some (.int part),some (.int (k:Int)),x7] st
  (by
   rintro i u μ s' hu ⟨rfl,y,de,rfl,hs,hb⟩
   obtain ⟨hi,rfl⟩:=tZ hu
   rw [Nat.zero_add] at hs hb ⊢
   refine ⟨trivial,?_⟩
   obtain ⟨μ1,gs⟩:∃ μ1:MN.Env,μ1 = [some (.int r),some (.loc p),some (.loc q),x3,some (tV t),some (.int de),some (.int (k:Int)),some (.int (0 + (i:Int)))]:=⟨_,rfl⟩
   have c1:ah bL (aa 2) (aa 6) μ1 s' = .ok (.int x) s':=by
    rw [aS (x:=.loc q) (y:=.int (k:Int)) (s1:=s') (s2:=s') (by rw [gs]; rfl) (by rw [gs]; rfl),Jv hq hk,hx]
   have VI:100 * i ≤ 100 * 99:=Nat.mul_le_mul_left _ (by lia)
   have c2:ah bz (aa 5) (ah bL (aa 2) (aa 6)) μ1 s' = .ok (.int (de * x)) s':=by
    rw [aS (x:=.int de) (s1:=s') (by rw [gs]; rfl) c1,gM (fq hb bx (by lia) (by decide))]
   have c3:aq PM.bf (ae (aa 0) (ae (ah bz (aa 5) (ah bL (aa 2) (aa 6))) ak)) μ1 s' = .ok (.int (aD r (de * x))) s':=by
    rw [call_of (d6 (v:=.int r) (s1:=s') (by rw [gs]; rfl) c2),gr]
   refine ⟨μ1,by rw [gs]; rfl,_,_,.inl (?_:_ = dk.nx [some (.int r),some (.loc p),some (.loc q),x3,some (tV t),some (.int (aD r (de * x))),some (.int (k:Int)),some (.int (0 + (i:Int)))] s'),rfl,_,_,rfl,?_,?_⟩
   ·show aG 5 _ μ1 _ = _
    rw [bT c3,gs]; rfl
   ·rw [iq hr,← kj hr,hs,kj hr,Int.pow_succ,Int.mul_assoc]
   ·exact lu hr (by lia) ((hb.mul bx).mono (by lia)))
  (fun μ s hp => trivial)
  ⟨rfl,x7,part,rfl,by rw [Int.pow_zero,Int.mul_one],by rw [Nat.mul_zero,Nat.add_zero]; exact hB⟩
 rw [Nat.zero_add,oH] at hs hb
 refine ⟨y,de,?_,by rw [← hx,← hex,← hn,Int.toNat_natCast]; exact hs,hb.mono (by have:100 * n ≤ 100 * 99:=Nat.mul_le_mul_left _ (by lia); lia)⟩
 have c0:ah bL (aa 4) (mC (.int 0)) [some (.int r),some (.loc p),some (.loc q),x3,some (tV t),some (.int part),some (.int (k:Int)),x7] aw = .ok (tupI t.1) aw:=rfl
 have c1:ah bL (ah bL (aa 4) (mC (.int 0))) (aa 6) [some (.int r),some (.loc p),some (.loc q),x3,some (tV t),some (.int part),some (.int (k:Int)),x7] aw = .ok (.int (n:Int)) aw:=by
  rw [aS c0 (y:=.int (k:Int)) (s2:=aw) rfl,AH Gj,← hex,hn]
 show dr _ _ _ _ _ = _
 rw [dI,fw,fL c1,av,gD (by lia) (by lia),Int.toNat_natCast,aK,fI]
 exact e
noncomputable abbrev RE:MB:=dr (a_ (ae (aq fg (ae (aa 2) ak)) ak)) (aName 6) MQ
theorem Ba {l m:List Int} {i:Nat} (h1:i < l.length) (h2:i < m.length):(l.zip m).take (i + 1) = (l.zip m).take i ++ [(l.getD i 0,m.getD i 0)]:=by
 have h:i < (l.zip m).length:=by rw [List.length_zip]; lia
 rw [List.take_succ,List.getElem?_eq_getElem h,List.getElem_zip,List.getD_eq_getElem?_getD,List.getD_eq_getElem?_getD,List.getElem?_eq_getElem h1,List.getElem?_eq_getElem h2]
 rfl
theorem GN {x3 x6 x7:Option Val} (hr:bI r = true) (hq:itemsOf st q = some (pt.map Val.int)) (h:A7 t.1 pt) (hl:t.1.length = pt.length) (hB:dB 200 t.2) :
  ∃ y6 y7 de,RE [some (.int r),some (.loc p),some (.loc q),x3,some (tV t),some (.int t.2),x6,x7] st = .nx [some (.int r),some (.loc p),some (.loc q),x3,some (tV t),some (.int de),y6,y7] st ∧
   aD r de = aD r (t.2 * PW t.1 pt):=by
 have Bt:=h.Bt
 obtain ⟨μ',aw,e,rfl,y6,y7,de,rfl,hs,hb⟩:=b_ (g:=fun _ => True) (a:=aName 6) (body:=MQ)
  (fun i μ s' => s' = st ∧ ∃ y6 y7 de,μ = [some (.int r),some (.loc p),some (.loc q),x3,some (tV t),some (.int de),y6,y7] ∧ aD r de = aD r (t.2 * wO ((t.1.zip pt).take i)) ∧ dB (200 + 9900 * i) de)
  (aR 0 pt.length) 0 [some (.int r),some (.loc p),some (.loc q),x3,some (tV t),some (.int t.2),x6,x7] st
  (by
   rintro i u μ s' hu ⟨rfl,y6,y7,de,rfl,hs,hb⟩
   obtain ⟨hi,rfl⟩:=tZ hu
   rw [Nat.zero_add] at hs hb ⊢
   refine ⟨trivial,?_⟩
   obtain ⟨z7,part2,e2,gR,TV⟩:=A_ (p:=p) (x3:=x3) (x7:=y7) (k:=i) (part:=de) hr hq h hi (by lia) hb (by lia) (by lia)
   refine ⟨[some (.int r),some (.loc p),some (.loc q),x3,some (tV t),some (.int de),some (.int (i:Int)),y7],by show some _ = some _; rw [Int.zero_add]; rfl,_,_,.inl e2,rfl,_,_,_,rfl,?_,TV.mono (by lia)⟩
   rw [gR,← kj hr,hs,kj hr,Ba (by lia) hi,oG,Int.mul_assoc])
  (fun μ s hp => trivial)
  ⟨rfl,x6,x7,t.2,rfl,by rw [List.take_zero]; show _ = aD r (t.2 * 1); rw [Int.mul_one],hB⟩
 rw [Nat.zero_add,oH,List.take_of_length_le (by rw [List.length_zip]; lia)] at hs
 refine ⟨y6,y7,de,?_,hs⟩
 have c1:aq fg (ae (aa 2) ak) [some (.int r),some (.loc p),some (.loc q),x3,some (tV t),some (.int t.2),x6,x7] aw = .ok (.int (pt.length:Int)) aw:=by
  rw [call_of (fL (v:=.loc q) (s1:=aw) rfl),j8 hq,List.length_map]
 show dr _ _ _ _ _ = _
 rw [dI,fw,fL c1,av,gD (by lia) (by lia),Int.toNat_natCast,aK,fI]
 exact e
noncomputable abbrev RF:MB:=aE (aG 5 (ah bL (aa 4) (mC (.int 1)))) (aE RE (aG 3 (ah bR (aa 3) (aa 5))))
theorem rD {D:List bE} (hr:bI r = true) (hp:itemsOf st p = some (D.map tV)) (hq:itemsOf st q = some (pt.map Val.int)) (hD:∀ t ∈ D,A7 t.1 pt ∧ dB 200 t.2) (hl:∀ t ∈ D,t.1.length = pt.length) :
  PM.eO [.int r,.loc p,.loc q] st = .ok (.int (aD r (VS D pt))) st:=by
 obtain ⟨μ',aw,e,rfl,x4,x5,x6,x7,oq,rfl,hs⟩:=b_ (g:=fun bV => itemsOf bV p = some (D.map tV)) (a:=aName 4) (body:=RF)
  (fun i μ s' => s' = st ∧ ∃ x4 x5 x6 x7 oq,μ = [some (.int r),some (.loc p),some (.loc q),some (.int oq),x4,x5,x6,x7] ∧ aD r oq = aD r (VS (D.take i) pt))
  (D.map tV) 0 [some (.int r),some (.loc p),some (.loc q),some (.int 0),none,none,none,none] st
  (by
   rintro i u μ s' hu ⟨rfl,x4,x5,x6,x7,oq,rfl,hs⟩
   rw [Nat.zero_add] at hs ⊢
   refine ⟨hp,?_⟩
   rw [List.getElem?_map] at hu
   have hi:i < D.length:=by
    rcases Nat.lt_or_ge i D.length with z | z
    ·exact z
    ·rw [List.getElem?_eq_none z] at hu; cases hu
   rw [List.getElem?_eq_getElem hi] at hu
   obtain ⟨t,vk⟩:∃ t,t = D[i]:=⟨_,rfl⟩
   have mt:t ∈ D:=by rw [vk]; exact List.getElem_mem hi
   rw [← vk] at hu
   cases hu
   have tk:D.take (i + 1) = D.take i ++ [t]:=by rw [List.take_succ,List.getElem?_eq_getElem hi,← vk]; rfl
   obtain ⟨y6,y7,part,e2,gR⟩:=GN (p:=p) (x3:=some (.int oq)) (x6:=x6) (x7:=x7) hr hq (hD t mt).1 (hl t mt) (hD t mt).2
   refine ⟨[some (.int r),some (.loc p),some (.loc q),some (.int oq),some (tV t),x5,x6,x7],rfl,_,_,.inl (?_:_ = dk.nx [some (.int r),some (.loc p),some (.loc q),some (.int (oq + part)),some (tV t),some (.int part),y6,y7] s'),rfl,_,_,_,_,_,rfl,?_⟩
   ·have f1:aG 5 (ah bL (aa 4) (mC (.int 1))) [some (.int r),some (.loc p),some (.loc q),some (.int oq),some (tV t),x5,x6,x7] s' = .nx [some (.int r),some (.loc p),some (.loc q),some (.int oq),some (tV t),some (.int t.2),x6,x7] s':=rfl
    show aE _ _ _ _ = _
    rw [aA,f1,aB,aA,e2,aB]
    rfl
   ·rw [← lq hr,hs,gR,lq hr,tk,wQ])
  (fun μ s H9 => by obtain ⟨rfl,_⟩:=H9; exact hp)
  ⟨rfl,none,none,none,none,0,rfl,by rw [List.take_zero]; rfl⟩
 rw [Nat.zero_add,List.length_map,List.take_of_length_le (Nat.le_refl _)] at hs
 unfold PM.eO
 rw [cD (np:=3) (us:=[Val.int r,.loc p,.loc q]) rfl]
 show (aE (aG 3 (mC (.int 0))) (aE (dr (e_ (aa 1)) (aName 4) RF) (bF (aq PM.bf (ae (aa 0) (ae (aa 3) ak))))) [some (.int r),some (.loc p),some (.loc q),none,none,none,none,none] aw).fin = _
 have f1:aG 3 (mC (.int 0)) [some (.int r),some (.loc p),some (.loc q),none,none,none,none,none] aw = .nx [some (.int r),some (.loc p),some (.loc q),some (.int 0),none,none,none,none] aw:=rfl
 have v1:aa 1 [some (.int r),some (.loc p),some (.loc q),some (.int 0),none,none,none,none] aw = .ok (.loc p) aw:=rfl
 have z:aq PM.bf (ae (aa 0) (ae (aa 3) ak)) [some (.int r),some (.loc p),some (.loc q),some (.int oq),x4,x5,x6,x7] aw = .ok (.int (aD r (VS D pt))) aw:=by
  rw [call_of (d6 (v:=.int r) (w:=.int oq) (s1:=aw) (s2:=aw) rfl rfl),gr,hs]
 rw [aA,f1,aB,aA,dI,fu,v1,av,eJ hp,aK,fI,e,aB,bK,z,aK]
 rfl
end
end PG
namespace PG
open PySem PySem.Spec L2 MN
open PyProof.Rows hiding St kindOf
noncomputable def fZ (k:List Int) (a:Nat):List Int:=k.take a ++ [k.getD a 0 - 1] ++ k.drop (a + 1)
noncomputable def eZ (a:Nat) (t:bE):bE:=(fZ t.1 a,t.2 * kF a t)
theorem oI {k:List Int} {a:Nat} (h:a < k.length):(fZ k a).length = k.length:=by
 unfold fZ
 rw [List.length_append,List.length_append,List.length_take,List.length_drop]
 simp
 lia
theorem wU:∀ {x y:List Int} {a:Nat},a < x.length → x.length = y.length → SO.lexLt (fZ x a) (fZ y a) = SO.lexLt x y
 | [],_,_,h,_ => absurd h (Nat.not_lt_zero _)
 | _ :: _,[],_,_,h => by cases h
 | x :: xs,y :: ys,0,_,_ => by
  show (if x - 1 = y - 1 then SO.lexLt (([]:List Int) ++ xs) (([]:List Int) ++ ys) else decide (x - 1 < y - 1)) = (if x = y then SO.lexLt xs ys else decide (x < y))
  by_cases e:x = y
  ·rw [if_pos e,if_pos (by lia)]; rfl
  ·rw [if_neg e,if_neg (by lia)]
   have:(x - 1 < y - 1) = (x < y):=by apply propext; lia
   simp only [this]
 | x :: xs,y :: ys,a + 1,h,hl => by
  have ih:=wU (x:=xs) (y:=ys) (a:=a) (Nat.lt_of_succ_lt_succ h) (Nat.succ.inj hl)
  show (if x = y then SO.lexLt (fZ xs a) (fZ ys a) else decide (x < y)) = (if x = y then SO.lexLt xs ys else decide (x < y))
  rw [ih]
noncomputable def mr (D:List bE) (a:Nat):List bE:=(D.filter fun t => decide (kF a t > 0)).map (eZ a)
theorem Bb (D:List bE) (a:Nat) (t:bE):mr (D ++ [t]) a = mr D a ++ (if kF a t > 0 then [eZ a t] else []):=by
 unfold mr
 rw [List.filter_append,List.map_append]
 by_cases h:kF a t > 0
 ·rw [if_pos h,List.filter_cons,if_pos (by simpa using h)]; rfl
 ·rw [if_neg h,List.filter_cons,if_neg (by simpa using h)]; rfl
theorem t4 (r:Int) (t:bE) (L:List bE):oX r (t :: L) = (if aD r t.2 != 0 then [(t.1,aD r t.2)] else []) ++ oX r L:=by
 unfold oX
 rw [List.map_cons,List.filter_cons]
 show (if (aD r t.2 != 0) = true then _ else _) = _
 split <;> rfl
theorem wV {r:Int} (hr:bI r = true) {a:Nat}:∀ (D:List bE),(∀ t ∈ D,0 ≤ kF a t) → oX r (D.map (eZ a)) = oX r (mr D a)
 | [],_ => rfl
 | t :: D,h => by
  have ih:=wV hr D fun u hu => h u (List.mem_cons_of_mem _ hu)
  have h0:=h t (List.mem_cons_self ..)
  rw [List.map_cons,t4,ih]
  unfold mr
  by_cases e:kF a t > 0
  ·have q:(t :: D).filter (fun t => decide (kF a t > 0)) = t :: D.filter (fun t => decide (kF a t > 0)):=by rw [List.filter_cons,if_pos (by simpa using e)]
   rw [q,List.map_cons,t4]
  ·have q:(t :: D).filter (fun t => decide (kF a t > 0)) = D.filter (fun t => decide (kF a t > 0)):=by rw [List.filter_cons,if_neg (by simpa using e)]
   rw [q]
   have z:(eZ a t).2 = 0:=by show t.2 * kF a t = 0; rw [show kF a t = 0 by lia,Int.mul_zero]
   rw [z,wM hr]; rfl
theorem yk {D:List bE} {a many:Nat} (f:SO.eM (D.map (·.1))) (hl:∀ t ∈ D,t.1.length = many) (ha:a < many):SO.eM ((mr D a).map (·.1)):=by
 unfold mr
 rw [List.map_map]
 unfold SO.eM at f ⊢
 rw [List.pairwise_map] at f ⊢
 refine List.Pairwise.imp_of_mem (fun {x y} hx hy h => ?_) (List.Pairwise.filter _ f)
 have mx:=(List.mem_filter.mp hx).1
 have my:=(List.mem_filter.mp hy).1
 show SO.lexLt (fZ y.1 a) (fZ x.1 a) = true
 rw [wU (by rw [hl y my]; exact ha) (by rw [hl y my,hl x mx])]
 exact h
theorem ym {r:Int} (hr:bI r = true) {D:List bE} {a many:Nat} (f:SO.eM (D.map (·.1))) (hl:∀ t ∈ D,t.1.length = many) (ha:a < many) (h0:∀ t ∈ D,0 ≤ kF a t):dA r (fe (mr D a)) = oX r (D.map (eZ a)):=by
 have F:=yk f hl ha
 rw [yh (iV F),yi F,wV hr D h0]
section
variable {r:Int} {p a many:Nat} {D:List bE} {st:ai} {k:List Int}
theorem vm (ha:a < k.length) (hk:k.length ≤ 10) (s:ai):PM.lowered [tupI k,.int (a:Int)] s = .ok (tupI (fZ k a)) s:=by
 obtain ⟨μ,hμ⟩:∃ μ:MN.Env,μ = [some (tupI k),some (.int (a:Int))]:=⟨_,rfl⟩
 have h0:aa 0 μ s = .ok (tupI k) s:=by rw [hμ]; rfl
 have h1:aa 1 μ s = .ok (.int (a:Int)) s:=by rw [hμ]; rfl
 have e1:D2 (aa 0) qa (lZ (aa 1)) μ s = .ok (tupI (k.take a)) s:=by
  unfold D2 lZ
  rw [h0]
  show ((aa 1 μ s).bind _).bind _ = _
  rw [h1]
  exact Jn ha s
 have e2:D2 (aa 0) (lZ (ah bR (aa 1) (mC (.int 1)))) qa μ s = .ok (tupI (k.drop (a + 1))) s:=by
  have q:ah bR (aa 1) (mC (.int 1)) μ s = .ok (.int ((a:Int) + 1)) s:=by
   unfold ah
   rw [h1]; rfl
  unfold D2 lZ
  rw [h0]
  show ((ah bR (aa 1) (mC (.int 1)) μ s).bind _).bind _ = _
  rw [q]
  exact Jo ha s
 have e0:fE (ae (ah gG (ah bL (aa 0) (aa 1)) (mC (.int 1))) ak) μ s = .ok (tupI [k.getD a 0 - 1]) s:=by
  have q:ah gG (ah bL (aa 0) (aa 1)) (mC (.int 1)) μ s = .ok (.int (k.getD a 0 - 1)) s:=by
   rw [aS (x:=.int (k.getD a 0)) (y:=.int 1) (s1:=s) (s2:=s) (by rw [aS h0 h1,AH ha]) rfl]; rfl
  rw [kQ,fL q,av,qd]
  exact if_pos (by rw [sizeLine_eq]; show 1 ≤ 16777216; decide)
 have e3:ah bR (D2 (aa 0) qa (lZ (aa 1))) (fE (ae (ah gG (ah bL (aa 0) (aa 1)) (mC (.int 1))) ak)) μ s = .ok (tupI (k.take a ++ [k.getD a 0 - 1])) s:=by
  rw [aS e1 e0]
  exact AI (by rw [List.length_take]; simp; lia)
 unfold PM.lowered
 rw [cD (np:=2) (us:=[tupI k,.int (a:Int)]) rfl]
 show (bF _ [some (tupI k),some (.int (a:Int))] s).fin = _
 rw [← hμ,bK,aS e3 e2,AI (by rw [List.length_append,List.length_take,List.length_drop]; simp; lia),aK]
 rfl
noncomputable abbrev MR:ME:=fE (ae (aq PM.lowered (ae (aa 0) (ae (aa 2) ak))) (ae (ah bz (aa 1) (ah bL (aa 0) (aa 2))) ak))
theorem Bc (hr:bI r = true) (hp:itemsOf st p = some (D.map tV)) (hl:D.length ≤ 1000000) (hk:∀ t ∈ D,t.1.length = many) (ha:a < many) (hm:many ≤ 4) (Jw:∀ t ∈ D,MulOk t.2 (kF a t)) :
  ∃ n g,PM.oD [.int r,.loc p,.int (a:Int)] st = .ok (.loc n) (st ++ g) ∧ st.length ≤ n ∧ (st ++ g)[n]? = some (.lst ((oX r (D.map (eZ a))).map tV)):=by
 obtain ⟨g0,e0⟩:=jr hr st
 obtain ⟨s0,A9⟩:∃ s0,s0 = st ++ g0:=⟨_,rfl⟩
 rw [← A9] at e0
 have Hb:itemsOf s0 p = some (D.map tV):=by rw [A9]; exact aJ hp _
 obtain ⟨μ,hμ⟩:∃ μ:MN.Env,μ = [some (.int r),some (.loc p),some (.int (a:Int)),none]:=⟨_,rfl⟩
 have cp:=du (a:=jh [aName 0,aName 1]) (c:=cK) (e:=MR) (g:=fun aw => itemsOf aw p = some (D.map tV)) (st:=s0) Hb (fun τ => ∃ x y,τ = [x,y,some (.int (a:Int))]) (fun _ => true) (fun v => tV (eZ a (wI v))) (D.map tV) (j4 2 [2] μ) [] (by rw [hμ]; exact ⟨_,_,rfl⟩) (by
  rintro u hu τ ⟨x,y,rfl⟩
  obtain ⟨t,ht,rfl⟩:=List.mem_map.mp hu
  refine ⟨[some (tupI t.1),some (.int t.2),some (.int (a:Int))],rfl,⟨_,_,rfl⟩,rfl,fun _ => ?_⟩
  rw [qp]
  have VJ:=hk t ht
  have q1:aq PM.lowered (ae (aa 0) (ae (aa 2) ak)) [some (tupI t.1),some (.int t.2),some (.int (a:Int))] s0 = .ok (tupI (fZ t.1 a)) s0:=by
   rw [call_of (d6 (v:=tupI t.1) (w:=.int (a:Int)) (s1:=s0) (s2:=s0) rfl rfl),vm (by lia) (by lia)]
  have q2:ah bz (aa 1) (ah bL (aa 0) (aa 2)) [some (tupI t.1),some (.int t.2),some (.int (a:Int))] s0 = .ok (.int (t.2 * kF a t)) s0:=by
   have q3:ah bL (aa 0) (aa 2) [some (tupI t.1),some (.int t.2),some (.int (a:Int))] s0 = .ok (.int (kF a t)) s0:=by
    rw [aS (x:=tupI t.1) (y:=.int (a:Int)) (s1:=s0) (s2:=s0) rfl rfl,AH (by lia)]; rfl
   rw [aS (x:=.int t.2) (s1:=s0) rfl q3,gM (Jw t ht)]
  show fE _ _ _ = _
  rw [kQ,d6 q1 q2,av,qd]
  exact if_pos (by rw [sizeLine_eq]; show 2 ≤ 16777216; decide))
 have ee:(List.filter (fun _ => true) (D.map tV)).map (fun v => tV (eZ a (wI v))) = (D.map (eZ a)).map tV:=by
  rw [List.filter_eq_self.mpr fun _ _ => rfl,List.map_map,List.map_map]
  refine List.map_congr_left fun t _ => ?_
  show tV (eZ a (wI (tV t))) = _
  rw [qp]; rfl
 rw [ee,List.nil_append] at cp
 obtain ⟨s1,kl⟩:∃ s1,s1 = s0 ++ [Cell.lst ((D.map (eZ a)).map tV)]:=⟨_,rfl⟩
 have cm:cZ 2 [2] (e_ (aa 1)) (jh [aName 0,aName 1]) cK MR μ s0 = .ok (.loc s0.length) s1:=by
  have v1:aa 1 μ s0 = .ok (.loc p) s0:=by rw [hμ]; rfl
  rw [gC,fu,v1,av,eJ Hb,av,iR,if_pos (by rw [List.length_map,sizeLine_eq]; lia),cp,av,l_,kl]
 obtain ⟨c,e2⟩:=vc (p:=s0.length) (L:=D.map (eZ a)) (r:=r) (st:=s1) (by rw [kl]; exact cC s0 _) (by rw [List.length_map]; exact hl)
 refine ⟨s1.length + 1,g0 ++ [Cell.lst ((D.map (eZ a)).map tV)] ++ [c,.lst ((oX r (D.map (eZ a))).map tV)],?_,?_,?_⟩
 ·unfold PM.oD
  rw [cD (np:=3) (us:=[Val.int r,.loc p,.int (a:Int)]) rfl]
  show (aE (dz (aq PM.cI (ae (aa 0) ak))) (aE (aG 3 (cZ 2 [2] (e_ (aa 1)) (jh [aName 0,aName 1]) cK MR)) (bF (aq PM.cU (ae (aa 0) (ae (aa 3) ak))))) [some (.int r),some (.loc p),some (.int (a:Int)),none] st).fin = _
  rw [← hμ]
  have f0:dz (aq PM.cI (ae (aa 0) ak)) μ st = .nx μ s0:=by
   rw [gB,call_of (fL (v:=.int r) (s1:=st) (by rw [hμ]; rfl)),e0,aK]; rfl
  rw [aA,f0,aB,aA,bT cm,aB,hμ]
  show (bF (aq PM.cU (ae (aa 0) (ae (aa 3) ak))) [some (.int r),some (.loc p),some (.int (a:Int)),some (.loc s0.length)] s1).fin = _
  rw [bK,call_of (d6 (v:=.int r) (w:=.loc s0.length) (s1:=s1) (s2:=s1) rfl rfl),e2,aK,kl,A9]
  have:st ++ g0 ++ [Cell.lst ((D.map (eZ a)).map tV)] ++ [c,Cell.lst (((D.map (eZ a)).map (fun t => (t.1,aD r t.2))).filter (fun t => t.2 != 0) |>.map tV)] = st ++ (g0 ++ [Cell.lst ((D.map (eZ a)).map tV)] ++ [c,Cell.lst ((oX r (D.map (eZ a))).map tV)]):=by
   rw [List.append_assoc,List.append_assoc,List.append_assoc]; rfl
  rw [this]
  rfl
 ·rw [kl,A9,List.length_append,List.length_append]; lia
 ·have:st ++ (g0 ++ [Cell.lst ((D.map (eZ a)).map tV)] ++ [c,Cell.lst ((oX r (D.map (eZ a))).map tV)]) = s1 ++ [c,Cell.lst ((oX r (D.map (eZ a))).map tV)]:=by
   rw [kl,A9,List.append_assoc,List.append_assoc,List.append_assoc]
  rw [this,List.getElem?_append_right (by lia),show s1.length + 1 - s1.length = 1 by lia]; rfl
end
end PG
namespace PG
open PySem PySem.Spec L2 MN
open PyProof.Rows hiding St kindOf
theorem Dl {k:List Int} {a j:Nat} (ha:a < k.length) (hj:j < k.length):(fZ k a)[j]? = some (k.getD j 0 - if (j:Int) = (a:Int) then 1 else 0):=by
 have hg:k.getD j 0 = k[j]:=by rw [List.getD_eq_getElem?_getD,List.getElem?_eq_getElem hj]; rfl
 unfold fZ
 rcases Nat.lt_trichotomy j a with h | h | h
 ·rw [if_neg (by lia),List.append_assoc,List.getElem?_append_left (by rw [List.length_take]; lia),List.getElem?_take,if_pos h,List.getElem?_eq_getElem hj,hg,Int.sub_zero]
 ·subst h
  rw [if_pos rfl,List.append_assoc,List.getElem?_append_right (by rw [List.length_take]; lia),List.length_take,show j - min j k.length = 0 by lia]
  rfl
 ·rw [if_neg (by lia),List.getElem?_append_right (by rw [List.length_append,List.length_take]; simp; lia),List.length_append,List.length_take,List.getElem?_drop,Int.sub_zero]
  have:a + 1 + (j - (min a k.length + [k.getD a 0 - 1].length)) = j:=by simp; lia
  rw [this,List.getElem?_eq_getElem hj,hg]
theorem Bd {k:List Int} {a:Nat} (ha:a < k.length):(Af 0 k.length).map (fun j => k.getD j.toNat 0 - if j = (a:Int) then 1 else 0) = fZ k a:=by
 apply List.ext_getElem?
 intro j
 unfold Af
 rw [List.getElem?_map,List.getElem?_map]
 rcases Nat.lt_or_ge j k.length with h | h
 ·rw [List.getElem?_range h,Dl ha h]
  show some (k.getD (0 + (j:Int)).toNat 0 - if 0 + (j:Int) = (a:Int) then 1 else 0) = _
  rw [Int.zero_add,Int.toNat_natCast]
 ·rw [List.getElem?_eq_none (by rw [List.length_range]; exact h),List.getElem?_eq_none (by rw [oI ha]; exact h)]
  rfl
section
variable {r:Int} {p a many:Nat} {D:List bE} {st:ai} {t:bE}
noncomputable abbrev MS:ME:=ah gG (ah bL (ah bL (aa 1) (mC (.int 0))) (aa 0)) (aq xJ (ae (ah gb (aa 0) (aa 2)) ak))
noncomputable abbrev MU:ME:=cZ 1 [4,2] (a_ (ae (aq fg (ae (ah bL (aa 4) (mC (.int 0))) ak)) ak)) (aName 0) cK MS
theorem Dm {x0 x1 x3 x5:Option Val} {s:ai} (ha:a < t.1.length) (hk:t.1.length ≤ 10):MU [x0,x1,some (.int (a:Int)),x3,some (tV t),x5] s = .ok (.loc s.length) (s ++ [.lst ((fZ t.1 a).map Val.int)]):=by
 have cp:=du (a:=aName 0) (c:=cK) (e:=MS) (g:=fun _ => True) (st:=s) trivial (fun τ => ∃ x,τ = [x,some (tV t),some (.int (a:Int))]) (fun _ => true)
  (fun v => match v with | .int j => .int (t.1.getD j.toNat 0 - if j = (a:Int) then 1 else 0) | _ => v) (aR 0 t.1.length) [none,some (tV t),some (.int (a:Int))] [] ⟨_,rfl⟩ (by
   rintro u hu τ ⟨x,rfl⟩
   rw [mm] at hu
   obtain ⟨j,hj,rfl⟩:=List.mem_map.mp hu
   unfold Af at hj
   obtain ⟨i,hi,rfl⟩:=List.mem_map.mp hj
   have pS:=List.mem_range.mp hi
   refine ⟨[some (.int (0 + (i:Int))),some (tV t),some (.int (a:Int))],rfl,⟨_,rfl⟩,rfl,fun _ => ?_⟩
   have q0:ah bL (aa 1) (mC (.int 0)) [some (.int (0 + (i:Int))),some (tV t),some (.int (a:Int))] s = .ok (tupI t.1) s:=rfl
   have q1:ah bL (ah bL (aa 1) (mC (.int 0))) (aa 0) [some (.int (0 + (i:Int))),some (tV t),some (.int (a:Int))] s = .ok (.int (t.1.getD i 0)) s:=by
    rw [aS q0 (y:=.int (0 + (i:Int))) (s2:=s) rfl,Int.zero_add,AH pS]
   have q2:aq xJ (ae (ah gb (aa 0) (aa 2)) ak) [some (.int (0 + (i:Int))),some (tV t),some (.int (a:Int))] s = .ok (.int (if 0 + (i:Int) = (a:Int) then 1 else 0)) s:=by
    have q3:ah gb (aa 0) (aa 2) [some (.int (0 + (i:Int))),some (tV t),some (.int (a:Int))] s = .ok (.bl (0 + (i:Int) == (a:Int))) s:=by
     rw [aS (x:=.int (0 + (i:Int))) (y:=.int (a:Int)) (s1:=s) (s2:=s) rfl rfl,fW]
    rw [call_of (fL q3),Jd]
    by_cases z:0 + (i:Int) = (a:Int)
    ·rw [if_pos z,show (0 + (i:Int) == (a:Int)) = true from beq_iff_eq.mpr z]; rfl
    ·rw [if_neg z,show (0 + (i:Int) == (a:Int)) = false from beq_eq_false_iff_ne.mpr z]; rfl
   show ah gG _ _ _ _ = _
   rw [aS q1 q2]
   show Res.ok (Val.int (t.1.getD i 0 - if 0 + (i:Int) = (a:Int) then 1 else 0)) s = .ok (.int (t.1.getD (0 + (i:Int)).toNat 0 - if 0 + (i:Int) = (a:Int) then 1 else 0)) s
   rw [show (0 + (i:Int)).toNat = i by lia])
 have ee:(List.filter (fun _ => true) (aR 0 t.1.length)).map (fun v => match v with | Val.int j => Val.int (t.1.getD j.toNat 0 - if j = (a:Int) then 1 else 0) | _ => v) = (fZ t.1 a).map Val.int:=by
  rw [List.filter_eq_self.mpr fun _ _ => rfl,mm,List.map_map,← Bd ha,List.map_map]
  rfl
 rw [ee,List.nil_append] at cp
 have q0:ah bL (aa 4) (mC (.int 0)) [x0,x1,some (.int (a:Int)),x3,some (tV t),x5] s = .ok (tupI t.1) s:=rfl
 have ln:aq fg (ae (ah bL (aa 4) (mC (.int 0))) ak) [x0,x1,some (.int (a:Int)),x3,some (tV t),x5] s = .ok (.int (t.1.length:Int)) s:=by
  rw [call_of (fL q0)]
  show fg [.tup (t.1.map Val.int)] s = _
  rw [CK,List.length_map]
 show cZ _ _ _ _ _ _ _ _ = _
 rw [gC,fw,fL ln,av,gD (by lia) (by lia),Int.toNat_natCast,av,iR,if_pos (by rw [oH,sizeLine_eq]; lia)]
 show (eI (fun _ => True) (aName 0) cK MS (aR 0 t.1.length) [none,some (tV t),some (.int (a:Int))] s []).i_ _ = _
 rw [cp,av,l_]
noncomputable abbrev TX:MB:=dz (ij bM (aa 3) (ae (fE (ae (aq pf (ae (aa 5) ak)) (ae (ah bz (ah bL (aa 4) (mC (.int 1))) (ah bL (ah bL (aa 4) (mC (.int 0))) (aa 2))) ak))) ak))
noncomputable abbrev MV:MB:=gW (cJ (ah G6 (ah bL (ah bL (aa 4) (mC (.int 0))) (aa 2)) (mC (.int 0)))) (aE (aG 5 MU) TX) bQ
theorem Dp {g:ai} {L:List bE} {x5:Option Val} (hL:(mr L a).length ≤ 1000000) (ha:a < t.1.length) (hk:t.1.length ≤ 10) (Jw:MulOk t.2 (kF a t)) :
  ∃ y5 g',MV [some (.int r),some (.loc p),some (.int (a:Int)),some (.loc st.length),some (tV t),x5] (st ++ .lst ((mr L a).map tV) :: g) = .nx [some (.int r),some (.loc p),some (.int (a:Int)),some (.loc st.length),some (tV t),y5] (st ++ .lst ((mr (L ++ [t]) a).map tV) :: g'):=by
 obtain ⟨s,hs⟩:∃ s,s = st ++ Cell.lst ((mr L a).map tV) :: g:=⟨_,rfl⟩
 have q0:∀ (s:ai) (x5:Option Val),ah bL (aa 4) (mC (.int 0)) [some (.int r),some (.loc p),some (.int (a:Int)),some (.loc st.length),some (tV t),x5] s = .ok (tupI t.1) s:=fun _ _ => rfl
 have q1:∀ (s:ai) (x5:Option Val),ah bL (ah bL (aa 4) (mC (.int 0))) (aa 2) [some (.int r),some (.loc p),some (.int (a:Int)),some (.loc st.length),some (tV t),x5] s = .ok (.int (kF a t)) s:=fun s x5 => by
  rw [aS (q0 s x5) (y:=.int (a:Int)) (s2:=s) rfl,AH ha]; rfl
 have mf:cJ (ah G6 (ah bL (ah bL (aa 4) (mC (.int 0))) (aa 2)) (mC (.int 0))) [some (.int r),some (.loc p),some (.int (a:Int)),some (.loc st.length),some (tV t),x5] s = .ok (decide (kF a t > 0)) s:=by
  refine dc ?_
  rw [aS (q1 s x5) (y:=.int 0) (s2:=s) rfl,z9]
 rw [← hs,Bb]
 by_cases z:kF a t > 0
 ·rw [if_pos z]
  rw [show decide (kF a t > 0) = true from decide_eq_true z] at mf
  obtain ⟨s2,gR⟩:∃ s2,s2 = s ++ [Cell.lst ((fZ t.1 a).map Val.int)]:=⟨_,rfl⟩
  have f1:aG 5 MU [some (.int r),some (.loc p),some (.int (a:Int)),some (.loc st.length),some (tV t),x5] s = .nx [some (.int r),some (.loc p),some (.int (a:Int)),some (.loc st.length),some (tV t),some (.loc s.length)] s2:=by
   rw [bT (Dm ha hk),gR]; rfl
  have hq:s2[st.length]? = some (.lst ((mr L a).map tV)):=by rw [gR,hs]; exact cO (rA st _ g) _
  have ap:=gh (v:=tV (eZ a t)) hq (by rw [List.length_map,sizeLine_eq]; lia)
  have t1:aq pf (ae (aa 5) ak) [some (.int r),some (.loc p),some (.int (a:Int)),some (.loc st.length),some (tV t),some (.loc s.length)] s2 = .ok (tupI (fZ t.1 a)) s2:=by
   rw [call_of (fL (v:=.loc s.length) (s1:=s2) rfl),wx (us:=(fZ t.1 a).map Val.int) (by rw [gR]; exact cC s _)]; rfl
  have t2:ah bz (ah bL (aa 4) (mC (.int 1))) (ah bL (ah bL (aa 4) (mC (.int 0))) (aa 2)) [some (.int r),some (.loc p),some (.int (a:Int)),some (.loc st.length),some (tV t),some (.loc s.length)] s2 = .ok (.int (t.2 * kF a t)) s2:=by
   rw [aS (x:=.int t.2) (s1:=s2) rfl (q1 s2 _),gM Jw]
  have arg:ae (fE (ae (aq pf (ae (aa 5) ak)) (ae (ah bz (ah bL (aa 4) (mC (.int 1))) (ah bL (ah bL (aa 4) (mC (.int 0))) (aa 2))) ak))) ak [some (.int r),some (.loc p),some (.int (a:Int)),some (.loc st.length),some (tV t),some (.loc s.length)] s2 = .ok [tV (eZ a t)] s2:=by
   refine fL ?_
   rw [kQ,d6 t1 t2,av,qd]
   exact if_pos (by rw [sizeLine_eq]; show 2 ≤ 16777216; decide)
  have v3:aa 3 [some (.int r),some (.loc p),some (.int (a:Int)),some (.loc st.length),some (tV t),some (.loc s.length)] s2 = .ok (.loc st.length) s2:=rfl
  refine ⟨some (.loc s.length),g ++ [Cell.lst ((fZ t.1 a).map Val.int)],?_⟩
  show gW _ _ _ _ _ = _
  rw [jE mf,aA,f1,aB]
  show dz _ _ _ = _
  rw [gB,kW,v3,av,qh hq,arg,av,qi,ap,List.map_append,gR,hs]
  have:st ++ Cell.lst ((mr L a).map tV) :: g ++ [Cell.lst ((fZ t.1 a).map Val.int)] = st ++ Cell.lst ((mr L a).map tV) :: (g ++ [Cell.lst ((fZ t.1 a).map Val.int)]):=by rw [List.append_assoc]; rfl
  rw [this,wz]
  rfl
 ·rw [if_neg z,List.append_nil]
  rw [show decide (kF a t > 0) = false from decide_eq_false z] at mf
  exact ⟨x5,g,by show gW _ _ _ _ _ = _; rw [iz mf,hs]⟩
theorem rE (hp:itemsOf st p = some (D.map tV)) (hl:D.length < 1000000) (hk:∀ t ∈ D,t.1.length = many) (ha:a < many) (hm:many ≤ 4) (Jw:∀ t ∈ D,MulOk t.2 (kF a t)) :
  ∃ n g,PM.eQ [.int r,.loc p,.int (a:Int)] st = .ok (.loc n) (st ++ g) ∧ (st ++ g)[n]? = some (.lst ((dA r (fe (mr D a))).map tV)):=by
 have Be:∀ i,(mr (D.take i) a).length ≤ D.length:=fun i => by
  unfold mr
  rw [List.length_map]
  exact Nat.le_trans (List.length_filter_le _ _) (by rw [List.length_take]; lia)
 obtain ⟨μ',aw,e,g,rfl,x4,x5,rfl⟩:=b_ (g:=fun bV => itemsOf bV p = some (D.map tV)) (a:=aName 4) (body:=MV)
  (fun i μ s' => ∃ g,s' = st ++ .lst ((mr (D.take i) a).map tV) :: g ∧ ∃ x4 x5,μ = [some (.int r),some (.loc p),some (.int (a:Int)),some (.loc st.length),x4,x5])
  (D.map tV) 0 [some (.int r),some (.loc p),some (.int (a:Int)),some (.loc st.length),none,none] (st ++ [.lst []])
  (by
   rintro i u μ s' hu ⟨g,rfl,x4,x5,rfl⟩
   rw [Nat.zero_add]
   refine ⟨aJ hp _,?_⟩
   rw [List.getElem?_map] at hu
   have hi:i < D.length:=by
    rcases Nat.lt_or_ge i D.length with z | z
    ·exact z
    ·rw [List.getElem?_eq_none z] at hu; cases hu
   rw [List.getElem?_eq_getElem hi] at hu
   obtain ⟨t,vk⟩:∃ t,t = D[i]:=⟨_,rfl⟩
   have mt:t ∈ D:=by rw [vk]; exact List.getElem_mem hi
   rw [← vk] at hu
   cases hu
   have tk:D.take (i + 1) = D.take i ++ [t]:=by rw [List.take_succ,List.getElem?_eq_getElem hi,← vk]; rfl
   have ht:=hk t mt
   obtain ⟨y5,g',e2⟩:=Dp (r:=r) (p:=p) (a:=a) (st:=st) (t:=t) (g:=g) (L:=D.take i) (x5:=x5) (by have:=Be i; lia) (by lia) (by lia) (Jw t mt)
   exact ⟨[some (.int r),some (.loc p),some (.int (a:Int)),some (.loc st.length),some (tV t),x5],rfl,_,_,.inl e2,g',by rw [tk],_,_,rfl⟩)
  (fun μ s H9 => by obtain ⟨g,rfl,_⟩:=H9; exact aJ hp _)
  ⟨[],rfl,none,none,rfl⟩
 rw [Nat.zero_add,List.length_map,List.take_of_length_le (Nat.le_refl _)] at e
 obtain ⟨s2,gR⟩:∃ s2,s2 = st ++ Cell.lst ((mr D a).map tV) :: g:=⟨_,rfl⟩
 have ls:=Be D.length
 rw [List.take_of_length_le (Nat.le_refl _)] at ls
 obtain ⟨c1,c3,e3,a3⟩:=AY (r:=r) (a:=aa 0) (m:=aa 3) (μ:=[some (.int r),some (.loc p),some (.int (a:Int)),some (.loc st.length),x4,x5]) (s:=s2) (s1:=s2) (k:=st.length) (L:=mr D a) rfl rfl (dJ (by rw [gR]; exact rA st _ g)) (by lia) (fun t ht => by
  obtain ⟨u,hu,rfl⟩:=List.mem_map.mp ht
  have mu:=(List.mem_filter.mp hu).1
  refine vj (many:=many) (by lia) ?_
  show (fZ u.1 a).length = many
  rw [oI (by rw [hk u mu]; exact ha),hk u mu])
 refine ⟨s2.length + 1,Cell.lst ((mr D a).map tV) :: g ++ [c1,Cell.lst ((dA r (fe (mr D a))).map tV),c3],?_,?_⟩
 ·unfold PM.eQ
  rw [cD (np:=3) (us:=[Val.int r,.loc p,.int (a:Int)]) rfl]
  show (aE (aG 3 (e9 ak)) (aE (dr (e_ (aa 1)) (aName 4) MV) (bF (aq PM.bZ (ae (aa 0) (ae (aa 3) ak))))) [some (.int r),some (.loc p),some (.int (a:Int)),none,none,none] st).fin = _
  have f1:aG 3 (e9 ak) [some (.int r),some (.loc p),some (.int (a:Int)),none,none,none] st = .nx [some (.int r),some (.loc p),some (.int (a:Int)),some (.loc st.length),none,none] (st ++ [.lst []]):=by
   simp only [av,aK,qe,qf,da,kR,ik,List.set_cons_zero,List.set_cons_succ,List.length_nil,sizeLine_eq,Nat.reduceLeDiff,↓reduceIte]
  have v1:aa 1 [some (.int r),some (.loc p),some (.int (a:Int)),some (.loc st.length),none,none] (st ++ [.lst []]) = .ok (.loc p) (st ++ [.lst []]):=rfl
  rw [aA,f1,aB,aA,dI,fu,v1,av,eJ (aJ hp _),aK,fI,e,aB,bK,← gR,e3,aK,gR]
  show Res.ok _ _ = Res.ok _ _
  rw [List.append_assoc]
 ·have:st ++ (Cell.lst ((mr D a).map tV) :: g ++ [c1,Cell.lst ((dA r (fe (mr D a))).map tV),c3]) = s2 ++ [c1,Cell.lst ((dA r (fe (mr D a))).map tV),c3]:=by rw [gR,List.append_assoc]
  rw [this]; exact a3
end
end PG
namespace PG
open PySem PySem.Spec L2 MN
open PyProof.Rows hiding St kindOf
theorem GO {μ:MN.Env} {m:ME} {many size:Nat} {mix:Int} {s:ai} (caps:List Nat) (hm:m μ s = .ok (.int (size:Int)) s) (hz:size ≤ 60) (hc:j4 1 caps μ = [none,some (.int (many:Int)),some (.int mix)]) (m0:0 ≤ mix) (h4:many ≤ 4) :
  ∃ (g:ai) (k:Nat) (P:List bE),cZ 1 caps (a_ (ae m ak)) (aName 0) cK Js μ s = .ok (.loc k) (s ++ g) ∧ (s ++ g)[k]? = some (.lst (P.map tV)) ∧ P.length = size ∧ ∀ t ∈ P,Good many t ∧ dB 134 t.2:=by
 obtain ⟨τ',Gu,aw,e,⟨P,rfl,lP,hP⟩,⟨g,rfl⟩,x,rfl⟩:=qw (a:=aName 0) (e:=Js)
  (fun i τ st ys => (∃ P:List bE,ys = P.map tV ∧ P.length = i ∧ ∀ t ∈ P,Good many t ∧ dB 134 t.2) ∧ (∃ g,st = s ++ g) ∧ ∃ x,τ = [x,some (.int (many:Int)),some (.int mix)])
  (aR 0 (size:Int).toNat) 0 [none,some (.int (many:Int)),some (.int mix)] s []
  (by
   rintro i u τ st ys hu ⟨⟨P,rfl,lP,hP⟩,⟨g,rfl⟩,x,rfl⟩
   obtain ⟨hi,rfl⟩:=tZ hu
   obtain ⟨g2,t,et,gt,bt⟩:=Dg (i:=0 + (i:Int)) (by lia) m0 h4 (s ++ g)
   refine ⟨_,rfl,tV t,s ++ (g ++ g2),by rw [← List.append_assoc]; exact et,⟨P ++ [t],by rw [List.map_append]; rfl,by rw [List.length_append,lP]; rfl,fun y hy => ?_⟩,⟨_,rfl⟩,_,rfl⟩
   rcases List.mem_append.mp hy with hy | hy
   ·exact hP y hy
   ·rw [List.mem_singleton.mp hy]; exact ⟨gt,bt⟩)
  ⟨⟨[],rfl,rfl,fun _ h => (by cases h)⟩,⟨[],(List.append_nil s).symm⟩,none,rfl⟩
 have lr:(aR 0 (size:Int).toNat).length = size:=by rw [oH]; lia
 rw [lr,Nat.zero_add] at lP
 refine ⟨g ++ [.lst (P.map tV)],(s ++ g).length,P,?_,by rw [← List.append_assoc]; exact iS _ _,lP,hP⟩
 rw [gC,ve (fL hm) (by lia) (by lia),av,iR,if_pos (by rw [lr,sizeLine_eq]; lia),hc,e,av,l_,List.append_assoc]
theorem t7:∀ (P A:List bE) (t:bE),t ∈ P.foldl gF A → (∃ u ∈ A,t.1 = u.1) ∨ ∃ u ∈ P,t.1 = u.1
 | [],A,t,h => .inl ⟨t,h,rfl⟩
 | x :: P,A,t,h => by
  rcases t7 P (gF A x) t h with ⟨u,hu,e⟩ | ⟨u,hu,e⟩
  ·rcases oz hu with hu | hu
   ·exact .inl ⟨u,hu,e⟩
   ·exact .inr ⟨x,List.mem_cons_self ..,by rw [e,hu]⟩
  ·exact .inr ⟨u,List.mem_cons_of_mem _ hu,e⟩
theorem Bf {r:Int} {P:List bE} {t:bE} (h:t ∈ dA r (fe P)):∃ u ∈ P,t.1 = u.1:=by
 obtain ⟨q,hq,e,_⟩:=oC h
 rcases t7 P [] q hq with ⟨u,hu,_⟩ | ⟨u,hu,e2⟩
 ·cases hu
 ·exact ⟨u,hu,e.trans e2⟩
theorem GP {s x:Int} (hs:s = 1 ∨ s = -1) (h0:0 ≤ x) (h1:x < (10:Int) ^ 30):dB 100 (s * x):=by
 show (s * x).natAbs < 2 ^ 100
 have:(10:Int) ^ 30 ≤ 2 ^ 100:=by decide
 rcases hs with rfl | rfl <;> lia
section
variable {ns:List Int} {r:Int} {many:Nat} {st:ai}
noncomputable abbrev MW:ME:=ah gG (ah bD (ah bA (aa 10) (mC (.int 5))) (mC (.int 41))) (mC (.int 20))
noncomputable abbrev MX:ME:=ah bz (ah gG (mC (.int 1)) (ah bz (ah bD (ah bA (aa 10) (mC (.int 5))) (mC (.int 2))) (mC (.int 2)))) (ah bD (ah bA (aa 10) (mC (.int 10))) (ah uO (mC (.int 10)) (mC (.int 30))))
noncomputable abbrev RG:MB:=aE (aG 10 (aq PM.aI (ae (aa 0) (ae (ah bR (mC (.int 4)) (aa 9)) ak)))) (aE (dz (ij bM (aa 8) (ae MW ak))) (gW (cJ (ah gb (ah bD (aa 10) (mC (.int 5))) (mC (.int 1)))) (sU (aa 8) (aa 9) MX) bQ))
noncomputable abbrev fQ (r:Int) (x2 x3:Option Val) (many p:Nat) (x6 x7:Option Val) (q:Nat) (x9 x10:Option Val):MN.Env:=[some (.loc 0),some (.int r),x2,x3,some (.int (many:Int)),some (.loc p),x6,x7,some (.loc q),x9,x10,none,none,none,none,none]
theorem MY {μ:MN.Env} {o:Int} {s:ai} (h:aa 10 μ s = .ok (.int o) s):∃ v,MW μ s = .ok (.int v) s ∧ dB 100 v:=by
 refine ⟨(o.fdiv 5).fmod 41 - 20,?_,?_⟩
 ·show ah gG _ _ _ _ = _
  rw [aS (gN (il h (kd (by decide) (by decide))) (by decide)) (y:=.int 20) (s2:=s) rfl]; rfl
 ·have:=fJ (m:=41) (by decide) (o.fdiv 5)
  exact dB.small (by decide) (by lia) (by lia)
theorem MZ {μ:MN.Env} {o:Int} {s:ai} (h:aa 10 μ s = .ok (.int o) s):∃ v,MX μ s = .ok (.int v) s ∧ dB 100 v:=by
 have m2:=fJ (m:=2) (by decide) (o.fdiv 5)
 have m3:=fJ (m:=(10:Int) ^ 30) (by decide) (o.fdiv 10)
 have e1:ah bz (ah bD (ah bA (aa 10) (mC (.int 5))) (mC (.int 2))) (mC (.int 2)) μ s = .ok (.int ((o.fdiv 5).fmod 2 * 2)) s:=by
  rw [aS (gN (il h (kd (by decide) (by decide))) (by decide)) (y:=.int 2) (s2:=s) rfl,gM (fq (a:=10) (b:=10) (dB.small (by decide) (by lia) (by lia)) (dB.small (by decide) (by decide) (by decide)) (by decide) (by decide))]
 have e2:ah gG (mC (.int 1)) (ah bz (ah bD (ah bA (aa 10) (mC (.int 5))) (mC (.int 2))) (mC (.int 2))) μ s = .ok (.int (1 - (o.fdiv 5).fmod 2 * 2)) s:=by
  rw [aS (x:=.int 1) (s1:=s) rfl e1]; rfl
 have e3:ah uO (mC (.int 10)) (mC (.int 30)) μ s = .ok (.int ((10:Int) ^ 30)) s:=by
  rw [aS (x:=.int 10) (y:=.int 30) (s1:=s) (s2:=s) rfl rfl,z8 (by decide)]; rfl
 have e4:ah bD (ah bA (aa 10) (mC (.int 10))) (ah uO (mC (.int 10)) (mC (.int 30))) μ s = .ok (.int ((o.fdiv 10).fmod ((10:Int) ^ 30))) s:=by
  rw [aS (il h (kd (by decide) (by decide))) e3,cN (by decide)]
 have hb:=GP (s:=1 - (o.fdiv 5).fmod 2 * 2) (x:=(o.fdiv 10).fmod ((10:Int) ^ 30)) (by lia) m3.1 m3.2
 refine ⟨_,?_,hb⟩
 show ah bz _ _ _ _ = _
 have VL:(10:Int) ^ 30 ≤ 2 ^ 100:=by decide
 have b4:dB 100 ((o.fdiv 10).fmod ((10:Int) ^ 30)):=dB.of_lt m3.1 (by lia)
 rw [aS e2 e4,gM (fq (a:=10) (b:=100) (dB.small (by decide) (by lia) (by lia)) b4 (by decide) (by decide))]
theorem Bg {x2 x3 x6 x7:Option Val} {p:Nat} (hi:itemsOf st 0 = some (ns.map Val.int)) (h4:many ≤ 4) :
  ∃ (x9 x10:Option Val) (pt:List Int),dr (a_ (ae (aa 4) ak)) (aName 9) RG (fQ r x2 x3 many p x6 x7 st.length none none) (st ++ [.lst []]) = .nx (fQ r x2 x3 many p x6 x7 st.length x9 x10) (st ++ [.lst (pt.map Val.int)]) ∧ pt.length = many ∧ ∀ x ∈ pt,dB 100 x:=by
 obtain ⟨μ',aw,e,pt,hl,hb,rfl,x9,x10,rfl⟩:=b_ (g:=fun _ => True) (a:=aName 9) (body:=RG)
  (fun i μ s' => ∃ pt:List Int,pt.length = i ∧ (∀ x ∈ pt,dB 100 x) ∧ s' = st ++ [.lst (pt.map Val.int)] ∧ ∃ x9 x10,μ = fQ r x2 x3 many p x6 x7 st.length x9 x10)
  (aR 0 many) 0 (fQ r x2 x3 many p x6 x7 st.length none none) (st ++ [.lst []])
  (by
   rintro i u μ s' hu ⟨pt,hl,hb,rfl,x9,x10,rfl⟩
   obtain ⟨pS,rfl⟩:=tZ hu
   rw [Nat.zero_add] at hl ⊢
   refine ⟨trivial,?_⟩
   obtain ⟨s1,kl⟩:∃ s1,s1 = st ++ [Cell.lst (pt.map Val.int)]:=⟨_,rfl⟩
   have i1:itemsOf s1 0 = some (ns.map Val.int):=by rw [kl]; exact aJ hi _
   obtain ⟨o,eo,_⟩:=nk (k:=4 + (0 + (i:Int))) i1 (by lia) (by lia)
   have f1:aG 10 (aq PM.aI (ae (aa 0) (ae (ah bR (mC (.int 4)) (aa 9)) ak))) (fQ r x2 x3 many p x6 x7 st.length (some (.int (0 + (i:Int)))) x10) s1 = .nx (fQ r x2 x3 many p x6 x7 st.length (some (.int (0 + (i:Int)))) (some (.int o))) s1:=by
    refine bT (v:=.int o) ?_
    rw [call_of (d6 (v:=.loc 0) (w:=.int (4 + (0 + (i:Int)))) (s1:=s1) (s2:=s1) rfl rfl),eo]
   obtain ⟨v,ev,bv⟩:=MY (μ:=fQ r x2 x3 many p x6 x7 st.length (some (.int (0 + (i:Int)))) (some (.int o))) (o:=o) (s:=s1) rfl
   have hq:s1[st.length]? = some (.lst (pt.map Val.int)):=by rw [kl]; exact iS st _
   obtain ⟨s2,gR⟩:∃ s2,s2 = st ++ [Cell.lst ((pt ++ [v]).map Val.int)]:=⟨_,rfl⟩
   have ap:bM (.loc st.length) [.int v] s1 = .ok .e7 s2:=by
    rw [gh hq (by rw [List.length_map,sizeLine_eq]; lia),kl,j9,gR,List.map_append]; rfl
   have f2:dz (ij bM (aa 8) (ae MW ak)) (fQ r x2 x3 many p x6 x7 st.length (some (.int (0 + (i:Int)))) (some (.int o))) s1 = .nx (fQ r x2 x3 many p x6 x7 st.length (some (.int (0 + (i:Int)))) (some (.int o))) s2:=by
    have v8:aa 8 (fQ r x2 x3 many p x6 x7 st.length (some (.int (0 + (i:Int)))) (some (.int o))) s1 = .ok (.loc st.length) s1:=rfl
    rw [gB,kW,v8,av,qh hq,fL ev,av,qi,ap]
    rfl
   have mf:cJ (ah gb (ah bD (aa 10) (mC (.int 5))) (mC (.int 1))) (fQ r x2 x3 many p x6 x7 st.length (some (.int (0 + (i:Int)))) (some (.int o))) s2 = .ok (o.fmod 5 == 1) s2:=dc (qt (gN (o:=o) (s1:=s2) rfl (by decide)))
   refine ⟨fQ r x2 x3 many p x6 x7 st.length (some (.int (0 + (i:Int)))) x10,rfl,?_⟩
   cases hc:o.fmod 5 == 1 with
   | false =>
    rw [hc] at mf
    refine ⟨_,_,.inl (?_:_ = dk.nx (fQ r x2 x3 many p x6 x7 st.length (some (.int (0 + (i:Int)))) (some (.int o))) s2),pt ++ [v],by rw [List.length_append,hl]; rfl,fun x hx => ?_,gR,_,_,rfl⟩
    ·show aE _ _ _ _ = _
     rw [← kl,aA,f1,aB,aA,f2,aB,iz mf]
    ·rcases List.mem_append.mp hx with hx | hx
     ·exact hb x hx
     ·rw [List.mem_singleton.mp hx]; exact bv
   | true =>
    rw [hc] at mf
    obtain ⟨w,ew,bw⟩:=MZ (μ:=fQ r x2 x3 many p x6 x7 st.length (some (.int (0 + (i:Int)))) (some (.int o))) (o:=o) (s:=s2) rfl
    have TY:s2[st.length]? = some (.lst ((pt ++ [v]).map Val.int)):=by rw [gR]; exact iS st _
    have f3:sU (aa 8) (aa 9) MX (fQ r x2 x3 many p x6 x7 st.length (some (.int (0 + (i:Int)))) (some (.int o))) s2 = .nx (fQ r x2 x3 many p x6 x7 st.length (some (.int (0 + (i:Int)))) (some (.int o))) (st ++ [.lst ((pt ++ [w]).map Val.int)]):=by
     have v8:aa 8 (fQ r x2 x3 many p x6 x7 st.length (some (.int (0 + (i:Int)))) (some (.int o))) s2 = .ok (.loc st.length) s2:=rfl
     have v9:aa 9 (fQ r x2 x3 many p x6 x7 st.length (some (.int (0 + (i:Int)))) (some (.int o))) s2 = .ok (.int (i:Int)) s2:=by show Res.ok (Val.int (0 + (i:Int))) s2 = _; rw [Int.zero_add]
     have ix:L2.xg ((pt ++ [v]).map Val.int).length (i:Int) = some i:=by
      unfold L2.xg
      rw [List.length_map,List.length_append,hl,if_pos (by lia),if_pos (by simp; lia),Int.toNat_natCast]
     rw [CN,ew,aK,Mo,v8,aK,Jb,v9,aK,Jc,CO TY ix,z_,gR,j9]
     have:((pt ++ [v]).map Val.int).set i (.int w) = (pt ++ [w]).map Val.int:=by
      rw [List.map_append,List.map_append,List.set_append,if_neg (by rw [List.length_map]; lia),List.length_map,hl,Nat.sub_self]; rfl
     rw [this]
    refine ⟨_,_,.inl (?_:_ = dk.nx (fQ r x2 x3 many p x6 x7 st.length (some (.int (0 + (i:Int)))) (some (.int o))) (st ++ [.lst ((pt ++ [w]).map Val.int)])),pt ++ [w],by rw [List.length_append,hl]; rfl,fun x hx => ?_,rfl,_,_,rfl⟩
    ·show aE _ _ _ _ = _
     rw [← kl,aA,f1,aB,aA,f2,aB,jE mf,f3]
    ·rcases List.mem_append.mp hx with hx | hx
     ·exact hb x hx
     ·rw [List.mem_singleton.mp hx]; exact bw)
  (fun μ s hp => trivial)
  ⟨[],rfl,fun _ h => (by cases h),rfl,none,none,rfl⟩
 rw [Nat.zero_add,oH] at hl
 refine ⟨x9,x10,pt,?_,hl,hb⟩
 have v4:aa 4 (fQ r x2 x3 many p x6 x7 st.length none none) (st ++ [.lst []]) = .ok (.int (many:Int)) (st ++ [.lst []]):=rfl
 rw [dI,fw,fL v4,av,gD (by lia) (by lia),Int.toNat_natCast,aK,fI]
 exact e
end
end PG
namespace yn
open PySem PySem.Spec L2 MN
open PyProof.Rows hiding St
end yn
namespace yn
open PySem PySem.Spec L2 MN PG
open PyProof.Rows hiding St kindOf
theorem rF {ns:List Int} {s:ai} {μ:MN.Env} {k:Int} (h:itemsOf s 0 = some (ns.map Val.int)) (k0:0 ≤ k) (k1:k ≤ 1000):∃ o,aq PM.aI (ae (aa 0) (ae (mC (.int k)) ak)) (some (.loc 0) :: μ) s = .ok (.int o) s ∧ 0 ≤ o:=by
 obtain ⟨o,e,o0,_⟩:=nk h k0 (by lia)
 exact ⟨o,e,o0⟩
structure Hd (st:ai) (M:fH) (p q h p' q':Nat) (D:List bE) (pt:List Int):Prop where
 a:st[p]? = some (.lst (D.map tV))
 b:st[q]? = some (.lst (pt.map Val.int))
 c:st[h]? = some (.lst [.loc p',.loc q'])
 d:st[p']? = some (.lst (D.map tV))
 e:st[q']? = some (.lst (pt.map Val.int))
 t:en st M.own M.line M.col M.S.qual
theorem Hd.old {st:ai} {M:fH} {p q h p' q':Nat} {D:List bE} {pt:List Int} (H:Hd st M p q h p' q' D pt) (g:ai):Hd (st ++ g) M p q h p' q' D pt :=
 ⟨cO H.a g,cO H.b g,cO H.c g,cO H.d g,cO H.e g,bU H.t g⟩
structure Rw (many:Nat) (D:List bE) (pt:List Int):Prop where
 AX:SO.eM (D.map (·.1))
 len:∀ t ∈ D,t.1.length = many
 rg:∀ t ∈ D,∀ e ∈ t.1,0 ≤ e ∧ e ≤ 99
 big:∀ t ∈ D,dB 200 t.2
 Bt:D.length ≤ 60
 pl:pt.length = many
 pb:∀ x ∈ pt,dB 100 x
 h1:1 ≤ many
 hm:many ≤ 4
section
variable {r:Int} {many p q h p' q' a:Nat} {D:List bE} {pt:List Int} {st:ai} {M:fH} {x0 x2 x3 x6 x7 x9 x10 x12 x13 x14 x15:Option Val}
theorem Rw.ex (R:Rw many D pt) (ha:a < many) {t:bE} (ht:t ∈ D):0 ≤ kF a t ∧ kF a t ≤ 99:=by
 unfold kF
 have:=R.len t ht
 rw [List.getD_eq_getElem?_getD,List.getElem?_eq_getElem (by lia)]
 exact R.rg t ht _ (List.getElem_mem _)
theorem Rw.mul (R:Rw many D pt) (ha:a < many) {t:bE} (ht:t ∈ D):MulOk t.2 (kF a t):=by
 have:=R.ex ha ht
 exact fq (R.big t ht) (dB.small (k:=10) (by decide) (by lia) (by lia)) (by decide) (by decide)
theorem Rw.RH (R:Rw many D pt):∀ t ∈ D,A7 t.1 pt ∧ dB 200 t.2:=fun t ht => ⟨⟨R.rg t ht,R.pb,by rw [R.pl]; exact R.hm⟩,R.big t ht⟩
noncomputable abbrev jl (x0:Option Val) (r:Int) (x2 x3:Option Val) (many p:Nat) (x6 x7:Option Val) (q:Nat) (x9 x10:Option Val) (h:Nat) (x12 x13 x14 x15:Option Val):MN.Env:=[x0,some (.int r),x2,x3,some (.int (many:Int)),some (.loc p),x6,x7,some (.loc q),x9,x10,some (.loc h),x12,x13,x14,x15]
theorem M3 (H:Hd st M p q h p' q' D pt):ah bL (aa 11) (mC (.int 0)) (jl x0 r x2 x3 many p x6 x7 q x9 x10 h x12 x13 x14 x15) st = .ok (.loc p') st:=by
 rw [aS (x:=.loc h) (y:=.int 0) (s1:=st) (s2:=st) rfl rfl,kU (us:=[.loc p',.loc q']) (v:=.loc p') (dJ H.c) rfl]
theorem RI (H:Hd st M p q h p' q' D pt):ah bL (aa 11) (mC (.int 1)) (jl x0 r x2 x3 many p x6 x7 q x9 x10 h x12 x13 x14 x15) st = .ok (.loc q') st:=by
 rw [aS (x:=.loc h) (y:=.int 1) (s1:=st) (s2:=st) rfl rfl,kU (us:=[.loc p',.loc q']) (v:=.loc q') (dJ H.c) rfl]
noncomputable abbrev KH:MB:=aE (aG 15 (aq PM.oD (ae (aa 1) (ae (ah bL (aa 11) (mC (.int 0))) (ae (aa 14) ak))))) (aE (gW (d0 (cJ (aq PM.eV (ae (aa 15) (ae (aq PM.eQ (ae (aa 1) (ae (aa 5) (ae (aa 14) ak)))) ak))))) (bF (mC (.bl false))) bQ) (dz (ij bM (aa 15) (ae (mC (.int 7)) ak))))
theorem yo (r:Int) (L:List bE):(oX r L).length ≤ L.length:=by
 unfold oX
 exact Nat.le_trans (List.length_filter_le _ _) (by rw [List.length_map]; exact Nat.le_refl _)
theorem Dq (hr:bI r = true) (R:Rw many D pt) (H:Hd st M p q h p' q' D pt) (ha:a < many) :
  ∃ oJ g,KH (jl x0 r x2 x3 many p x6 x7 q x9 x10 h x12 x13 (some (.int (a:Int))) x15) st = .nx (jl x0 r x2 x3 many p x6 x7 q x9 x10 h x12 x13 (some (.int (a:Int))) oJ) (st ++ g):=by
 have hm:=R.hm
 have hf:=R.Bt
 obtain ⟨n,g1,e1,hn,a1⟩:=Bc (r:=r) (p:=p') (a:=a) (st:=st) (D:=D) (many:=many) hr (dJ H.d) (by lia) R.len ha hm (fun t ht => R.mul ha ht)
 obtain ⟨s1,kl⟩:∃ s1,s1 = st ++ g1:=⟨_,rfl⟩
 rw [← kl] at e1 a1
 have H1:Hd s1 M p q h p' q' D pt:=by rw [kl]; exact H.old g1
 have f1:aG 15 (aq PM.oD (ae (aa 1) (ae (ah bL (aa 11) (mC (.int 0))) (ae (aa 14) ak)))) (jl x0 r x2 x3 many p x6 x7 q x9 x10 h x12 x13 (some (.int (a:Int))) x15) st = .nx (jl x0 r x2 x3 many p x6 x7 q x9 x10 h x12 x13 (some (.int (a:Int))) (some (.loc n))) s1:=by
  refine bT (v:=.loc n) ?_
  rw [call_of (ki (v:=.int r) (s1:=st) rfl (d6 (M3 H) (w:=.int (a:Int)) (s2:=st) rfl)),e1]
 obtain ⟨m,g2,e2,a2⟩:=rE (r:=r) (p:=p) (a:=a) (st:=s1) (D:=D) (many:=many) (dJ H1.a) (by lia) R.len ha hm (fun t ht => R.mul ha ht)
 rw [ym hr R.AX R.len ha (fun t ht => (R.ex ha ht).1)] at a2
 have ls:=yo r (D.map (eZ a))
 rw [List.length_map] at ls
 obtain ⟨g3,e3⟩:=mq (a:=n) (b:=m) (D:=oX r (D.map (eZ a))) (st:=s1 ++ g2) (cO a1 g2) a2 (by lia) (fun t ht => by
  have hk:t.1 ∈ (oX r (D.map (eZ a))).map (·.1):=List.mem_map_of_mem ht
  rw [AV] at hk
  obtain ⟨u,hu,eu⟩:=List.mem_map.mp hk
  obtain ⟨v,hv,ev⟩:=List.mem_map.mp (List.mem_filter.mp hu).1
  have lv:=R.len v hv
  rw [← eu,← ev]
  show (fZ v.1 a).length ≤ 1000000
  rw [oI (by lia)]; lia)
 have mf:d0 (cJ (aq PM.eV (ae (aa 15) (ae (aq PM.eQ (ae (aa 1) (ae (aa 5) (ae (aa 14) ak)))) ak)))) (jl x0 r x2 x3 many p x6 x7 q x9 x10 h x12 x13 (some (.int (a:Int))) (some (.loc n))) s1 = .ok false (s1 ++ g2 ++ g3):=by
  refine qq (dc ?_)
  have c:aq PM.eQ (ae (aa 1) (ae (aa 5) (ae (aa 14) ak))) (jl x0 r x2 x3 many p x6 x7 q x9 x10 h x12 x13 (some (.int (a:Int))) (some (.loc n))) s1 = .ok (.loc m) (s1 ++ g2):=by
   rw [call_of (ki (v:=.int r) (s1:=s1) rfl (d6 (v:=.loc p) (w:=.int (a:Int)) (s1:=s1) (s2:=s1) rfl rfl)),e2]
  rw [call_of (d6 (v:=.loc n) (s1:=s1) rfl c),e3]
 obtain ⟨s3,Bh⟩:∃ s3,s3 = s1 ++ g2 ++ g3:=⟨_,rfl⟩
 rw [← Bh] at mf
 have hq:s3[n]? = some (.lst ((oX r (D.map (eZ a))).map tV)):=by rw [Bh]; exact cO (cO a1 _) _
 have f3:dz (ij bM (aa 15) (ae (mC (.int 7)) ak)) (jl x0 r x2 x3 many p x6 x7 q x9 x10 h x12 x13 (some (.int (a:Int))) (some (.loc n))) s3 = .nx (jl x0 r x2 x3 many p x6 x7 q x9 x10 h x12 x13 (some (.int (a:Int))) (some (.loc n))) (s3.set n (.lst ((oX r (D.map (eZ a))).map tV ++ [.int 7]))):=by
  have TZ:aa 15 (jl x0 r x2 x3 many p x6 x7 q x9 x10 h x12 x13 (some (.int (a:Int))) (some (.loc n))) s3 = .ok (.loc n) s3:=rfl
  rw [gB,kW,TZ,av,qh hq,fL (v:=.int 7) (s1:=s3) rfl,av,qi,gh hq (by rw [List.length_map,sizeLine_eq]; lia)]
  rfl
 obtain ⟨G,hG⟩:∃ G,s3 = st ++ G:=⟨g1 ++ g2 ++ g3,by rw [Bh,kl,List.append_assoc,List.append_assoc,List.append_assoc]⟩
 refine ⟨some (.loc n),G.set (n - st.length) (.lst ((oX r (D.map (eZ a))).map tV ++ [.int 7])),?_⟩
 show aE _ _ _ _ = _
 rw [aA,f1,aB,aA,iz mf,aB,f3,hG,List.set_append,if_neg (by lia)]
theorem Ds (hr:bI r = true) (R:Rw many D pt) (H:Hd st M p q h p' q' D pt) :
  ∃ rG oJ g,dr (a_ (ae (aa 4) ak)) (aName 14) KH (jl x0 r x2 x3 many p x6 x7 q x9 x10 h x12 x13 x14 x15) st = .nx (jl x0 r x2 x3 many p x6 x7 q x9 x10 h x12 x13 rG oJ) (st ++ g):=by
 have hm:=R.hm
 obtain ⟨μ',aw,e,g,rfl,rG,oJ,rfl⟩:=b_ (g:=fun _ => True) (a:=aName 14) (body:=KH)
  (fun i μ s' => ∃ g,s' = st ++ g ∧ ∃ rG oJ,μ = jl x0 r x2 x3 many p x6 x7 q x9 x10 h x12 x13 rG oJ)
  (aR 0 many) 0 (jl x0 r x2 x3 many p x6 x7 q x9 x10 h x12 x13 x14 x15) st
  (by
   rintro i u μ s' hu ⟨g,rfl,rG,oJ,rfl⟩
   obtain ⟨hi,rfl⟩:=tZ hu
   refine ⟨trivial,?_⟩
   obtain ⟨T1,g2,e2⟩:=Dq (x0:=x0) (x2:=x2) (x3:=x3) (x6:=x6) (x7:=x7) (x9:=x9) (x10:=x10) (x12:=x12) (x13:=x13) (x15:=oJ) hr R (H.old g) hi
   exact ⟨jl x0 r x2 x3 many p x6 x7 q x9 x10 h x12 x13 (some (.int (i:Int))) oJ,by show some _ = some _; rw [Int.zero_add]; rfl,_,_,.inl e2,g ++ g2,List.append_assoc ..,_,_,rfl⟩)
  (fun μ s hp => trivial)
  ⟨[],(List.append_nil st).symm,_,_,rfl⟩
 refine ⟨rG,oJ,g,?_⟩
 have v4:aa 4 (jl x0 r x2 x3 many p x6 x7 q x9 x10 h x12 x13 x14 x15) st = .ok (.int (many:Int)) st:=rfl
 rw [dI,fw,fL v4,av,gD (by lia) (by lia),Int.toNat_natCast,aK,fI]
 exact e
noncomputable abbrev KI (M:fH):MB:=aE (aG 13 (aq (PM.value M) (ae (aa 1) (ae (ah bL (aa 11) (mC (.int 0))) (ae (ah bL (aa 11) (mC (.int 1))) ak))))) (aE (gW (jy (d0 (cJ (aq PM.cF (ae (aa 13) ak)))) (cJ (ah jW (aa 13) (aq PM.eO (ae (aa 1) (ae (aa 5) (ae (aa 8) ak))))))) (bF (mC (.bl false))) bQ) (dr (a_ (ae (aa 4) ak)) (aName 14) KH))
theorem Dt (oF:M.S.ps.length = 2) (hr:bI r = true) (R:Rw many D pt) (H:Hd st M p q h p' q' D pt) :
  ∃ Bw rG oJ g,KI M (jl x0 r x2 x3 many p x6 x7 q x9 x10 h x12 x13 x14 x15) st = .nx (jl x0 r x2 x3 many p x6 x7 q x9 x10 h x12 Bw rG oJ) (st ++ g):=by
 obtain ⟨g1,e1⟩:=A8 (M:=M) (r:=r) (p:=p') (q:=q') (pt:=pt) (st:=st) (D:=D) oF hr (dJ H.d) (dJ H.e) R.RH H.t
 obtain ⟨s1,kl⟩:∃ s1,s1 = st ++ g1:=⟨_,rfl⟩
 rw [← kl] at e1
 have H1:Hd s1 M p q h p' q' D pt:=by rw [kl]; exact H.old g1
 have f1:aG 13 (aq (PM.value M) (ae (aa 1) (ae (ah bL (aa 11) (mC (.int 0))) (ae (ah bL (aa 11) (mC (.int 1))) ak)))) (jl x0 r x2 x3 many p x6 x7 q x9 x10 h x12 x13 x14 x15) st = .nx (jl x0 r x2 x3 many p x6 x7 q x9 x10 h x12 (some (.int (aD r (VS D pt)))) x14 x15) s1:=by
  refine bT (v:=.int (aD r (VS D pt))) ?_
  rw [call_of (ki (v:=.int r) (s1:=st) rfl (d6 (M3 H) (RI H))),e1]
 have e2:=rD (r:=r) (p:=p) (q:=q) (pt:=pt) (st:=s1) (D:=D) hr (dJ H1.a) (dJ H1.b) R.RH (fun t ht => by rw [R.len t ht,R.pl])
 have ca:cJ (aq PM.cF (ae (aa 13) ak)) (jl x0 r x2 x3 many p x6 x7 q x9 x10 h x12 (some (.int (aD r (VS D pt)))) x14 x15) s1 = .ok true s1:=by
  refine dc ?_
  rw [call_of (fL (v:=.int (aD r (VS D pt))) (s1:=s1) rfl),pk]
 have cb:cJ (ah jW (aa 13) (aq PM.eO (ae (aa 1) (ae (aa 5) (ae (aa 8) ak))))) (jl x0 r x2 x3 many p x6 x7 q x9 x10 h x12 (some (.int (aD r (VS D pt)))) x14 x15) s1 = .ok false s1:=by
  refine dc ?_
  have c:aq PM.eO (ae (aa 1) (ae (aa 5) (ae (aa 8) ak))) (jl x0 r x2 x3 many p x6 x7 q x9 x10 h x12 (some (.int (aD r (VS D pt)))) x14 x15) s1 = .ok (.int (aD r (VS D pt))) s1:=by
   rw [call_of (ki (v:=.int r) (s1:=s1) rfl (d6 (v:=.loc p) (w:=.loc q) (s1:=s1) (s2:=s1) rfl rfl)),e2]
  rw [aS (x:=.int (aD r (VS D pt))) (s1:=s1) rfl c,tj,beq_self_eq_true]; rfl
 obtain ⟨rG,oJ,g2,e3⟩:=Ds (x0:=x0) (x2:=x2) (x3:=x3) (x6:=x6) (x7:=x7) (x9:=x9) (x10:=x10) (x12:=x12) (x13:=some (.int (aD r (VS D pt)))) (x14:=x14) (x15:=x15) hr R H1
 refine ⟨some (.int (aD r (VS D pt))),rG,oJ,g1 ++ g2,?_⟩
 show aE _ _ _ _ = _
 rw [aA,f1,aB,aA,iz (tU (qq ca) cb),aB,e3,kl,List.append_assoc]
theorem Jx (oF:M.S.ps.length = 2) (hr:bI r = true) (R:Rw many D pt) (H:Hd st M p q h p' q' D pt) :
  ∃ aw,PM.kZ M (jl x0 r x2 x3 many p x6 x7 q x9 x10 h none none none none) st = .rt (.bl true) aw:=by
 obtain ⟨μ',aw,e,g,rfl,Hc,Bw,rG,oJ,rfl⟩:=b_ (g:=fun _ => True) (a:=aName 12) (body:=KI M)
  (fun i μ s' => ∃ g,s' = st ++ g ∧ ∃ Hc Bw rG oJ,μ = jl x0 r x2 x3 many p x6 x7 q x9 x10 h Hc Bw rG oJ)
  (aR 0 2) 0 (jl x0 r x2 x3 many p x6 x7 q x9 x10 h none none none none) st
  (by
   rintro i u μ s' hu ⟨g,rfl,Hc,Bw,rG,oJ,rfl⟩
   refine ⟨trivial,?_⟩
   obtain ⟨VM,VN,T1,g2,e2⟩:=Dt (x0:=x0) (x2:=x2) (x3:=x3) (x6:=x6) (x7:=x7) (x9:=x9) (x10:=x10) (x12:=some u) (x13:=Bw) (x14:=rG) (x15:=oJ) oF hr R (H.old g)
   exact ⟨jl x0 r x2 x3 many p x6 x7 q x9 x10 h (some u) Bw rG oJ,rfl,_,_,.inl e2,g ++ g2,List.append_assoc ..,_,_,_,_,rfl⟩)
  (fun μ s hp => trivial)
  ⟨[],(List.append_nil st).symm,_,_,_,_,rfl⟩
 have H2:=H.old g
 have lp:dr (a_ (ae (mC (.int 2)) ak)) (aName 12) (KI M) (jl x0 r x2 x3 many p x6 x7 q x9 x10 h none none none none) st = .nx (jl x0 r x2 x3 many p x6 x7 q x9 x10 h Hc Bw rG oJ) (st ++ g):=by
  rw [dI,fw,fL (v:=.int 2) (s1:=st) rfl,av,gD (by decide) (by decide),aK,fI]
  exact e
 obtain ⟨g3,e3⟩:=mq (a:=p') (b:=p) (D:=D) (st:=st ++ g) H2.d H2.a (by have:=R.Bt; lia) (fun t ht => by have:=R.len t ht; have:=R.hm; lia)
 have H3:=H2.old g3
 refine ⟨st ++ g ++ g3,?_⟩
 unfold PM.kZ
 show aE (dr (a_ (ae (mC (.int 2)) ak)) (aName 12) (KI M)) (PM.jF M) _ _ = _
 rw [aA,lp,aB]
 unfold PM.jF
 have l1:aq PM.eV (ae (ah bL (aa 11) (mC (.int 0))) (ae (aa 5) ak)) (jl x0 r x2 x3 many p x6 x7 q x9 x10 h Hc Bw rG oJ) (st ++ g) = .ok (.bl true) (st ++ g ++ g3):=by
  rw [call_of (d6 (M3 H2) (w:=.loc p) (s2:=st ++ g) rfl),e3]
 have l2:ah gb (ah bL (aa 11) (mC (.int 1))) (aa 8) (jl x0 r x2 x3 many p x6 x7 q x9 x10 h Hc Bw rG oJ) (st ++ g ++ g3) = .ok (.bl true) (st ++ g ++ g3):=by
  rw [aS (RI H3) (y:=.loc q) (s2:=st ++ g ++ g3) rfl]
  exact tu (dJ H3.e) (dJ H3.b) (ja fun u hu => by obtain ⟨i,_,rfl⟩:=List.mem_map.mp hu; rfl)
 rw [bK,Gx l1 l2,aK]
 rfl
theorem Jy (oF:M.S.ps.length = 2) (hr:bI r = true) (R:Rw many D pt) (ha:st[p]? = some (.lst (D.map tV))) (hb:st[q]? = some (.lst (pt.map Val.int))) (ht:en st M.own M.line M.col M.S.qual) :
  ∃ aw,PM.k_ M (fQ r x2 x3 many p x6 x7 q x9 x10) st = .rt (.bl true) aw:=by
 obtain ⟨s1,kl⟩:∃ s1,s1 = st ++ [Cell.lst (D.map tV)]:=⟨_,rfl⟩
 obtain ⟨s2,gR⟩:∃ s2,s2 = s1 ++ [Cell.lst (pt.map Val.int)]:=⟨_,rfl⟩
 obtain ⟨s3,Bh⟩:∃ s3,s3 = s2 ++ [Cell.lst [.loc st.length,.loc s1.length]]:=⟨_,rfl⟩
 have c1:aq ph (ae (aa 5) ak) (fQ r x2 x3 many p x6 x7 q x9 x10) st = .ok (.loc st.length) s1:=by
  rw [call_of (fL (v:=.loc p) (s1:=st) rfl),wy (dJ ha),kl]
 have q1:s1[q]? = some (.lst (pt.map Val.int)):=by rw [kl]; exact cO hb _
 have c2:aq ph (ae (aa 8) ak) (fQ r x2 x3 many p x6 x7 q x9 x10) s1 = .ok (.loc s1.length) s2:=by
  rw [call_of (fL (v:=.loc q) (s1:=s1) rfl),wy (dJ q1),gR]
 have T2:aG 11 (e9 (ae (aq ph (ae (aa 5) ak)) (ae (aq ph (ae (aa 8) ak)) ak))) (fQ r x2 x3 many p x6 x7 q x9 x10) st = .nx (jl (some (.loc 0)) r x2 x3 many p x6 x7 q x9 x10 s2.length none none none none) s3:=by
  rw [bT (vd (d6 c1 c2) (by show 2 ≤ 1000; decide)),Bh]; rfl
 have H:Hd s3 M p q s2.length st.length s1.length D pt:=by
  refine ⟨?_,?_,?_,?_,?_,?_⟩
  ·rw [Bh,gR,kl]; exact cO (cO (cO ha _) _) _
  ·rw [Bh,gR]; exact cO (cO q1 _) _
  ·rw [Bh]; exact iS s2 _
  ·rw [Bh,gR,kl]; exact cO (cO (iS st _) _) _
  ·rw [Bh,gR]; exact cO (iS s1 _) _
  ·rw [Bh,gR,kl]; exact bU (bU (bU ht _) _) _
 obtain ⟨aw,e⟩:=Jx (x0:=some (.loc 0)) (x2:=x2) (x3:=x3) (x6:=x6) (x7:=x7) (x9:=x9) (x10:=x10) oF hr R H
 refine ⟨aw,?_⟩
 unfold PM.k_
 rw [aA,T2,aB,e]
variable {ns:List Int}
structure Dr (many:Nat) (D:List bE):Prop where
 AX:SO.eM (D.map (·.1))
 len:∀ t ∈ D,t.1.length = many
 rg:∀ t ∈ D,∀ e ∈ t.1,0 ≤ e ∧ e ≤ 99
 big:∀ t ∈ D,dB 200 t.2
 Bt:D.length ≤ 60
theorem Dr.of {L:List bE} (hr:bI r = true) (hl:L.length ≤ 60) (hL:∀ t ∈ L,Good many t ∧ dB 134 t.2):Dr many (dA r (fe L)):=by
 have rr:=ip hr
 have S:=Df (r:=r) (B:=2 ^ 134) (many:=many) (P:=L) (by decide) (by lia) (fun t ht => (hL t ht).1.len) (fun t ht => GD (hL t ht).2)
 refine ⟨S.AX,S.len,fun t ht e he => ?_,fun t ht => ?_,by have:=AZ r L; lia⟩
 ·obtain ⟨u,hu,eu⟩:=Bf ht
  rw [eu] at he
  exact (hL u hu).1.rg e he
 ·have b:=S.big t ht
  have:(L.length:Int) * 2 ^ 134 ≤ 60 * 2 ^ 134:=Int.mul_le_mul_of_nonneg_right (by lia) (by decide)
  have c:(60:Int) * 2 ^ 134 + 997 ≤ 2 ^ 199:=by decide
  exact GF (k:=199) (by lia)
theorem Ed (oF:M.S.ps.length = 2) (hr:bI r = true) (h1:1 ≤ many) (hm:many ≤ 4) (R:Dr many D) (hi:itemsOf st 0 = some (ns.map Val.int)) (ha:st[p]? = some (.lst (D.map tV))) (ht:en st M.own M.line M.col M.S.qual) :
  ∃ aw,PM.lg M [some (.loc 0),some (.int r),x2,x3,some (.int (many:Int)),some (.loc p),x6,x7,none,none,none,none,none,none,none,none] st = .rt (.bl true) aw:=by
 obtain ⟨x9,x10,pt,e,hl,hb⟩:=Bg (r:=r) (many:=many) (st:=st) (x2:=x2) (x3:=x3) (x6:=x6) (x7:=x7) (p:=p) hi hm
 have f8:aG 8 (e9 ak) [some (.loc 0),some (.int r),x2,x3,some (.int (many:Int)),some (.loc p),x6,x7,none,none,none,none,none,none,none,none] st = .nx (fQ r x2 x3 many p x6 x7 st.length none none) (st ++ [.lst []]):=rfl
 obtain ⟨aw,e8⟩:=Jy (x2:=x2) (x3:=x3) (x6:=x6) (x7:=x7) (x9:=x9) (x10:=x10) (st:=st ++ [.lst (pt.map Val.int)]) (p:=p) (q:=st.length) (D:=D) (pt:=pt) oF hr ⟨R.AX,R.len,R.rg,R.big,R.Bt,hl,hb,h1,hm⟩ (cO ha _) (iS st _) (bU ht _)
 refine ⟨aw,?_⟩
 unfold PM.lg
 rw [aA,f8,aB]
 unfold PM.qx
 rw [aA,e,aB,e8]
theorem Jz {third:Int} (oF:M.S.ps.length = 2) (hr:bI r = true) (h1:1 ≤ many) (hm:many ≤ 4) (R:Dr many D) (hi:itemsOf st 0 = some (ns.map Val.int)) (ha:st[p]? = some (.lst (D.map tV))) (ht:en st M.own M.line M.col M.S.qual) :
  ∃ aw,PM.g9 M [some (.loc 0),some (.int r),x2,some (.int third),some (.int (many:Int)),some (.loc p),none,none,none,none,none,none,none,none,none,none] st = .rt (.bl true) aw:=by
 obtain ⟨μ,hμ⟩:∃ μ:MN.Env,μ = [some (.loc 0),some (.int r),x2,some (.int third),some (.int (many:Int)),some (.loc p),none,none,none,none,none,none,none,none,none,none]:=⟨_,rfl⟩
 have mf:cJ (ah gb (ah bD (aa 3) (mC (.int 8))) (mC (.int 1))) μ st = .ok (third.fmod 8 == 1) st:=dc (qt (gN (by rw [hμ]; rfl) (by decide)))
 cases hb:third.fmod 8 == 1 with
 | false =>
  rw [hb] at mf
  obtain ⟨aw,e⟩:=Ed (x2:=x2) (x3:=some (.int third)) (x6:=none) (x7:=none) oF hr h1 hm R hi ha ht
  refine ⟨aw,?_⟩
  unfold PM.g9
  rw [← hμ,aA,iz mf,aB,hμ,e]
 | true =>
  rw [hb] at mf
  obtain ⟨mix,em,m0⟩:=rF (μ:=[some (.int r),x2,some (.int third),some (.int (many:Int)),some (.loc p),none,none,none,none,none,none,none,none,none,none]) (k:=3) hi (by decide) (by decide)
  obtain ⟨μ2,Du⟩:∃ μ2:MN.Env,μ2 = [some (.loc 0),some (.int r),x2,some (.int third),some (.int (many:Int)),some (.loc p),some (.int mix),none,none,none,none,none,none,none,none,none]:=⟨_,rfl⟩
  have f6:aG 6 (aq PM.aI (ae (aa 0) (ae (mC (.int 3)) ak))) μ st = .nx μ2 st:=by rw [hμ,bT em,Du]; rfl
  have qs:=fJ (m:=13) (by decide) (third.fdiv 8)
  obtain ⟨size,hsz⟩:∃ size:Nat,(size:Int) = (third.fdiv 8).fmod 13:=⟨((third.fdiv 8).fmod 13).toNat,by lia⟩
  have md:ah bD (ah bA (aa 3) (mC (.int 8))) (mC (.int 13)) μ2 st = .ok (.int (size:Int)) st:=by
   rw [hsz]; exact gN (il (by rw [Du]; rfl) (kd (by decide) (by decide))) (by decide)
  obtain ⟨g,k,L,ec,hk,lL,hL⟩:=GO (many:=many) (mix:=mix) [4,6] md (by lia) (by rw [Du]; rfl) m0 hm
  obtain ⟨μ3,Dv⟩:∃ μ3:MN.Env,μ3 = [some (.loc 0),some (.int r),x2,some (.int third),some (.int (many:Int)),some (.loc p),some (.int mix),some (.loc k),none,none,none,none,none,none,none,none]:=⟨_,rfl⟩
  have f7:aG 7 (cZ 1 [4,6] (a_ (ae (ah bD (ah bA (aa 3) (mC (.int 8))) (mC (.int 13))) ak)) (aName 0) cK Js) μ2 st = .nx μ3 (st ++ g):=by rw [bT ec,Du,Dv]; rfl
  obtain ⟨c1,c2,eg,ag⟩:=AY (r:=r) (a:=aa 1) (m:=aa 7) (μ:=μ3) (s:=st ++ g) (s1:=st ++ g) (k:=k) (L:=L) (by rw [Dv]; rfl) (by rw [Dv]; rfl) (dJ hk) (by lia) (fun t ht => vj h1 (hL t ht).1.len)
  obtain ⟨s5,GQ⟩:∃ s5,s5 = st ++ g ++ [c1,Cell.lst ((dA r (fe L)).map tV),c2]:=⟨_,rfl⟩
  rw [← GQ] at eg ag
  have i5:itemsOf s5 0 = some (ns.map Val.int):=by rw [GQ]; exact aJ (aJ hi _) _
  have t5:en s5 M.own M.line M.col M.S.qual:=by rw [GQ]; exact bU (bU ht _) _
  obtain ⟨aw,e⟩:=Ed (x2:=x2) (x3:=some (.int third)) (x6:=some (.int mix)) (x7:=some (.loc k)) oF hr h1 hm (Dr.of hr (by lia) hL) i5 ag t5
  have f5:=bT (i:=5) eg
  refine ⟨aw,?_⟩
  unfold PM.g9
  rw [← hμ,aA,jE mf,aA,f6,aB,aA]
  show ((((aG 7 (cZ 1 [4,6] (a_ (ae (ah bD (ah bA (aa 3) (mC (.int 8))) (mC (.int 13))) ak)) (aName 0) cK Js) μ2 st).cV _)).cV _) = _
  rw [f7,aB,f5,aB,Dv]
  exact e
end
theorem Bi (M:fH) (oF:M.S.ps.length = 2):∀ (c:Cell) (ns:List Int),ns.length ≤ 63 → itemsOf [c,.tab M.own M.line M.col M.S.qual] 0 = some (ns.map Val.int) → ∃ aw,PM.oE M [.loc 0] [c,.tab M.own M.line M.col M.S.qual] = .ok (.bl true) aw:=by
 intro c ns hl hi
 have KG:en [c,.tab M.own M.line M.col M.S.qual] M.own M.line M.col M.S.qual:=⟨1,rfl⟩
 obtain ⟨s,hs⟩:∃ s,[c,Cell.tab M.own M.line M.col M.S.qual] = s:=⟨_,rfl⟩
 rw [hs] at hi KG ⊢
 clear hs
 obtain ⟨o,eo,o0⟩:=rF (μ:=[none,none,none,none,none,none,none,none,none,none,none,none,none,none,none]) (k:=0) hi (by decide) (by decide)
 obtain ⟨g,r,er,hr⟩:=Ge o0 s
 have RJ:bI r = true:=by
  rcases hr with rfl | h
  ·rfl
  ·exact Ac h
 obtain ⟨s1,kl⟩:∃ s1,s1 = s ++ g:=⟨_,rfl⟩
 rw [← kl] at er
 have i1:itemsOf s1 0 = some (ns.map Val.int):=by rw [kl]; exact aJ hi _
 have T3:en s1 M.own M.line M.col M.S.qual:=by rw [kl]; exact bU KG _
 have x1:aG 1 (aq PM.gm (ae (aq PM.aI (ae (aa 0) (ae (mC (.int 0)) ak))) ak)) [some (.loc 0),none,none,none,none,none,none,none,none,none,none,none,none,none,none,none] s = .nx [some (.loc 0),some (.int r),none,none,none,none,none,none,none,none,none,none,none,none,none,none] s1:=by
  refine bT (v:=.int r) ?_
  rw [call_of (fL eo),er]
 obtain ⟨sec,e2,VO⟩:=rF (μ:=[some (.int r),none,none,none,none,none,none,none,none,none,none,none,none,none,none]) (k:=1) i1 (by decide) (by decide)
 have x2:aG 2 (aq PM.aI (ae (aa 0) (ae (mC (.int 1)) ak))) [some (.loc 0),some (.int r),none,none,none,none,none,none,none,none,none,none,none,none,none,none] s1 = .nx [some (.loc 0),some (.int r),some (.int sec),none,none,none,none,none,none,none,none,none,none,none,none,none] s1:=bT e2
 obtain ⟨JA,e3,VP⟩:=rF (μ:=[some (.int r),some (.int sec),none,none,none,none,none,none,none,none,none,none,none,none,none]) (k:=2) i1 (by decide) (by decide)
 have x3:aG 3 (aq PM.aI (ae (aa 0) (ae (mC (.int 2)) ak))) [some (.loc 0),some (.int r),some (.int sec),none,none,none,none,none,none,none,none,none,none,none,none,none] s1 = .nx [some (.loc 0),some (.int r),some (.int sec),some (.int JA),none,none,none,none,none,none,none,none,none,none,none,none] s1:=bT e3
 have q4:=fJ (m:=4) (by decide) sec
 obtain ⟨many,JB⟩:∃ many:Nat,(many:Int) = 1 + sec.fmod 4:=⟨(1 + sec.fmod 4).toNat,by lia⟩
 obtain ⟨μ,hμ⟩:∃ μ:MN.Env,μ = [some (.loc 0),some (.int r),some (.int sec),some (.int JA),some (.int (many:Int)),none,none,none,none,none,none,none,none,none,none,none]:=⟨_,rfl⟩
 have x4:aG 4 (ah bR (mC (.int 1)) (ah bD (aa 2) (mC (.int 4)))) [some (.loc 0),some (.int r),some (.int sec),some (.int JA),none,none,none,none,none,none,none,none,none,none,none,none] s1 = .nx μ s1:=by
  rw [hμ]
  refine bT (v:=.int (many:Int)) ?_
  rw [aS (x:=.int 1) (s1:=s1) rfl (gN (o:=sec) (s1:=s1) rfl (by decide)),JB]; rfl
 have h1:1 ≤ many:=by lia
 have hm:many ≤ 4:=by lia
 have q5:=fJ (m:=8) (by decide) (sec.fdiv 4)
 obtain ⟨z1,T4⟩:∃ z:Nat,(z:Int) = (sec.fdiv 4).fmod 8:=⟨((sec.fdiv 4).fmod 8).toNat,by lia⟩
 obtain ⟨g5,L,e5,lL,hL⟩:=rB (many:=many) (size:=z1) (place:=8) i1 (by decide) (by decide) hm (by lia)
 have w5:aq PM.gi (ae (aa 0) (ae (mC (.int 8)) (ae (aa 4) (ae (ah bD (ah bA (aa 2) (mC (.int 4))) (mC (.int 8))) ak)))) μ s1 = .ok (.loc s1.length) (s1 ++ .lst (L.map tV) :: g5):=by
  have md:ah bD (ah bA (aa 2) (mC (.int 4))) (mC (.int 8)) μ s1 = .ok (.int (z1:Int)) s1:=by
   rw [T4]; exact gN (il (by rw [hμ]; rfl) (kd (by decide) (by decide))) (by decide)
  rw [call_of (ki (v:=.loc 0) (s1:=s1) (by rw [hμ]; rfl) (ki (v:=.int 8) (s1:=s1) rfl (d6 (v:=.int (many:Int)) (s1:=s1) (by rw [hμ]; rfl) md))),e5]
 obtain ⟨c1,c2,eg,ag⟩:=AY (r:=r) (a:=aa 1) (L:=L) (by rw [hμ]; rfl) w5 (dJ (rA s1 _ g5)) (by lia) (fun t ht => vj h1 (hL t ht).1.len)
 obtain ⟨s5,GQ⟩:∃ s5,s5 = s1 ++ .lst (L.map tV) :: g5 ++ [c1,Cell.lst ((dA r (fe L)).map tV),c2]:=⟨_,rfl⟩
 obtain ⟨p,hp⟩:∃ p,p = (s1 ++ Cell.lst (L.map tV) :: g5).length + 1:=⟨_,rfl⟩
 rw [← GQ,← hp] at eg ag
 have i5:itemsOf s5 0 = some (ns.map Val.int):=by rw [GQ]; exact aJ (aJ i1 _) _
 have T5:en s5 M.own M.line M.col M.S.qual:=by rw [GQ]; exact bU (bU T3 _) _
 have x5:=bT (i:=5) eg
 obtain ⟨aw,e⟩:=Jz (x2:=some (.int sec)) (third:=JA) (p:=p) (many:=many) (M:=M) oF RJ h1 hm (Dr.of RJ (by lia) hL) i5 ag T5
 refine ⟨aw,?_⟩
 unfold PM.oE
 rw [cD (np:=1) (us:=[Val.loc 0]) rfl]
 show (aE _ (PM.lh M) [some (.loc 0),none,none,none,none,none,none,none,none,none,none,none,none,none,none,none] s).fin = _
 rw [aA,x1,aB]
 unfold PM.lh
 rw [aA,x2,aB]
 unfold PM.qB
 rw [aA,x3,aB]
 unfold PM.qA
 rw [aA,x4,aB]
 unfold PM.qz
 rw [aA,x5,aB,hμ]
 show (PM.g9 M [some (.loc 0),some (.int r),some (.int sec),some (.int JA),some (.int (many:Int)),some (.loc p),none,none,none,none,none,none,none,none,none,none] s5).fin = _
 rw [e]
 rfl
end yn
namespace yn
open PySem PySem.Spec L2 MN
open PyProof.Rows hiding St
noncomputable def top (i:Nat):Stmt:=PySem.Challenge.pw_polyring_k08_value_and_slope.main.body.getD i (.Pass ⟨0,0,0,0⟩)
structure Txt (K:PySem.W.Frag) (mg:Str → Option Value):Prop where
 JC:mg "all" = none
 Bj:mg "bool" = none
 Bk:mg "int" = none
 dy:mg "isinstance" = none
 oK:mg "len" = none
 vn:mg "list" = none
 dR:mg "range" = none
 Bl:mg "sorted" = none
 nu:mg "tuple" = none
 JD:mg "zip" = none
 t8:Glob K mg "MOST_RING" (.int 997)
 iX:Glob K mg "FIRST_PRIMES" PM.eU
 Bm:FO K mg "AlgebraError"
 Bn:FO K mg "NoRing"
theorem aP {X:Cx} {E:XK} {e:Expr} {m:ME} {i:Nat} {x:Str} {pos pos':Pos} (hN:X.N.Nodup) (he:PE X e (tE X E m)) (hi:X.N[i]? = some x:=by rfl) (hx:Loc X.env.scope x:=by first | exact Or.inl rfl | exact Or.inr rfl) (hs:swapsWith e (some (.Name x pos')) pos.line X.env = pure false:=by rfl) (hf:X.fn x = true ∨ X.env.scope.names.lookup x = some .local:=by first | exact .inl rfl | exact .inr rfl | assumption):PS X (.Assign [.Name x pos'] e pos) (tS X E (aG i m)):=FD i hN he hi hx hs hf
section
variable {P:Program} {w:World} {K:PySem.W.Frag} {mg:Str → Option Value} {base:Heap}
theorem t9:aY ["thing"] ["thing"] (ao (top 6)):=⟨rfl,rfl,rfl,by decide +kernel,rfl,by decide +kernel,by decide +kernel⟩
theorem t_ {f:Addr} {fd:FuncData} (F:iI K "is_whole" "is_whole" (top 6) f fd) (hm:mg "is_whole" = some (.ref f)) (T:Txt K mg) :FnAt P w K mg base "is_whole" 1 PM.j7 :=
 FnAt.mk F hm t9 (fun _ _ _ _ _ _ => rj fun _ => rfl) fun dj A outer s H E hr =>
  by
   refine aF ?_
   refine bb ?_
   refine qY ?_ ?_
   ·refine jA sM (by rfl) T.dy (by rfl) T.Bk PyProof.Rows.boot_int ?_
    exact (af 0)
   refine nS ?_
   refine zu ?_
   refine jA p5 (by rfl) T.dy (by rfl) T.Bj PyProof.Rows.boot_bool ?_
   exact (af 0)
theorem iY:(["prime","number"]:List Str).Nodup:=by decide +kernel
theorem jG:aY ["number"] ["number"] (ao (top 7)):=⟨rfl,rfl,rfl,by decide +kernel,rfl,by decide +kernel,by decide +kernel⟩
theorem jH {f:Addr} {fd:FuncData} (F:iI K "is_prime_within" "is_prime_within" (top 7) f fd) (hm:mg "is_prime_within" = some (.ref f)) (T:Txt K mg) :FnAt P w K mg base "is_prime_within" 1 PM.bH :=
 FnAt.mk F hm jG (fun _ _ _ _ _ _ => rj fun _ => rfl) fun dj A outer s H E hr =>
  by
   refine az ?_ ?_
   ·refine d4 ?_ ?_ cS
    ·refine b8 ?_ ?_ ?_
     ·exact FH
     ·exact (af 0)
     exact (qX (by rfl) T.iX)
    refine aF ?_
    exact (bb nQ)
   refine az ?_ ?_
   ·refine d4 ?_ ?_ cS
    ·refine uM ?_
     refine pW ?_ ?_
     ·refine b8 ?_ ?_ au
      ·exact uP
      exact (af 0)
     refine nU ?_
     refine b8 ?_ ?_ ?_
     ·exact zC
     ·exact (af 0)
     exact (qX (by rfl) T.t8)
    refine aF ?_
    exact (bb nQ)
   refine aF ?_
   refine bb ?_
   refine fF ?_ (by rfl) T.JC PyProof.Rows.boot_all ?_
   ·exact (xB hr.hd)
   refine aj ?_ ax
   refine nh (N:=["prime","number"]) (k:=1) rfl rfl (p9 (cl:=[("number",s.heap.objs.size + 1)]) (caps:=[0]) (by rfl) (.cons (c:=s.heap.objs.size + 1) (by rfl) (by rfl) (by first | exact Or.inl rfl | exact Or.inr rfl) (by first | exact Or.inl rfl | exact Or.inr rfl) .nil) (by rfl) (by rfl) (by rfl) (by rfl) (by rfl) (by rfl)) ?_ (fun _ _ _ _ => ?_) (fun _ _ _ _ => j5) (fun _ _ _ _ => ?_)
   ·refine gH ?_
    exact (qX (by rfl) T.iX)
   ·exact (bc 0 iY)
   refine nR ?_ ?_ au
   ·exact (iO hr.units)
   refine ay ?_ ?_ ?_
   ·exact bg
   ·exact (af 1)
   exact (af 0)
theorem mQ:aY ["ring","number"] ["ring","number"] (ao (top 10)):=⟨rfl,rfl,rfl,by decide +kernel,rfl,by decide +kernel,by decide +kernel⟩
theorem mR {f:Addr} {fd:FuncData} (F:iI K "rest_in_ring" "rest_in_ring" (top 10) f fd) (hm:mg "rest_in_ring" = some (.ref f)) (T:Txt K mg) :FnAt P w K mg base "rest_in_ring" 1 PM.aC :=
 FnAt.mk F hm mQ (fun _ _ _ _ _ _ => pj fun _ _ => rfl) fun dj A outer s H E hr =>
  by
   refine aF ?_
   refine bb ?_
   refine IB ?_ ?_ ?_
   ·refine b8 ?_ ?_ au
    ·exact (dH hr.units)
    exact (af 0)
   ·exact (af 1)
   refine ay ?_ ?_ ?_
   ·exact bg
   ·exact (af 1)
   exact (af 0)
theorem vo:aY ["exponents","unknown"] ["exponents","unknown"] (ao (top 18)):=⟨rfl,rfl,rfl,by decide +kernel,rfl,by decide +kernel,by decide +kernel⟩
theorem vp {f:Addr} {fd:FuncData} (F:iI K "lowered" "lowered" (top 18) f fd) (hm:mg "lowered" = some (.ref f)) (T:Txt K mg) :FnAt P w K mg base "lowered" 1 PM.lowered :=
 FnAt.mk F hm vo (fun _ _ _ _ _ _ => pj fun _ _ => rfl) fun dj A outer s H E hr =>
  by
   refine aF ?_
   refine bb ?_
   refine ay ?_ ?_ ?_
   ·exact cq
   ·refine ay ?_ ?_ ?_
    ·exact cq
    ·refine D3 ?_ wm ?_
     ·exact (af 0)
     refine wq ?_
     exact (af 1)
    refine jz ?_
    refine aj ?_ ax
    refine ay ?_ ?_ au
    ·exact ie
    refine bq ?_ ?_
    ·exact (af 0)
    exact (af 1)
   refine D3 ?_ ?_ wm
   ·exact (af 0)
   refine wq ?_
   refine ay ?_ ?_ au
   ·exact cq
   exact (af 1)
theorem pq:aY ["_law_found"] ["_law_found"] (ao (top 20)):=⟨rfl,rfl,rfl,by decide +kernel,rfl,by decide +kernel,by decide +kernel⟩
theorem pz {f:Addr} {fd:FuncData} (F:iI K "_law_whole" "_law_whole" (top 20) f fd) (hm:mg "_law_whole" = some (.ref f)) (T:Txt K mg) :FnAt P w K mg base "_law_whole" 1 PM.cF :=
 FnAt.mk F hm pq (fun _ _ _ _ _ _ => rj fun _ => rfl) fun dj A outer s H E hr =>
  by
   refine aF ?_
   refine bb ?_
   refine qY ?_ ?_
   ·refine jA sM (by rfl) T.dy (by rfl) T.Bk PyProof.Rows.boot_int ?_
    exact (af 0)
   refine nS ?_
   refine zu ?_
   refine jA p5 (by rfl) T.dy (by rfl) T.Bj PyProof.Rows.boot_bool ?_
   exact (af 0)
theorem bJ:aY ["_law_script","_law_k","_law_cell","_law_one","_law_found","_law_turn"] ["_law_script","_law_k"] (ao (top 21)):=⟨rfl,rfl,rfl,by decide +kernel,rfl,by decide +kernel,by decide +kernel⟩
theorem mS {f:Addr} {fd:FuncData} (F:iI K "_law_cell_at" "_law_cell_at" (top 21) f fd) (hm:mg "_law_cell_at" = some (.ref f)) (T:Txt K mg) :FnAt P w K mg base "_law_cell_at" 1 PM.aI :=
 FnAt.mk F hm bJ (fun _ _ _ _ _ _ => pj fun _ _ => rfl) fun dj A outer s H E hr =>
  by
   refine az ?_ ?_
   ·refine aP ?_ ?_
    ·exact bJ.nd
    exact au
   refine az ?_ ?_
   ·refine d4 ?_ ?_ cS
    ·refine b8 ?_ ?_ ?_
     ·exact uP
     ·exact (af 1)
     refine fF ?_ (by rfl) T.oK PySem.boot_len ?_
     ·exact fh
     refine aj ?_ ax
     exact (af 0)
    refine aF ?_
    refine aP ?_ ?_
    ·exact bJ.nd
    refine bq ?_ ?_
    ·exact (af 0)
    exact (af 1)
   refine az ?_ ?_
   ·refine aP ?_ ?_
    ·exact bJ.nd
    refine ay ?_ ?_ au
    ·exact bg
    refine ay ?_ ?_ au
    ·exact cq
    refine ay ?_ ?_ ?_
    ·exact cq
    ·refine ay ?_ ?_ ?_
     ·exact cq
     ·refine ay ?_ ?_ au
      ·exact bW
      exact (af 2)
     refine ay ?_ ?_ ?_
     ·exact bW
     ·refine ay ?_ au ?_
      ·exact bW
      exact (af 1)
     exact (af 1)
    refine ay ?_ au ?_
    ·exact bW
    exact (af 1)
   refine az ?_ ?_
   ·refine aP ?_ ?_
    ·exact bJ.nd
    exact au
   refine az ?_ ?_
   ·refine dU b9 rfl ?_ ?_ ?_
    ·refine cY (by rfl) T.dR ?_
     exact (dY ax)
    ·exact (bc 5 bJ.nd)
    refine az ?_ ?_
    ·refine aP ?_ ?_
     ·exact bJ.nd
     refine ay ?_ ?_ au
     ·exact bg
     refine ay ?_ ?_ ?_
     ·exact cq
     ·refine ay ?_ ?_ au
      ·exact bW
      refine ay ?_ ?_ au
      ·exact bg
      refine ay ?_ ?_ ?_
      ·exact bW
      ·exact (af 3)
      exact (af 3)
     exact (af 5)
    refine aF ?_
    refine aP ?_ ?_
    ·exact bJ.nd
    refine ay ?_ ?_ ?_
    ·exact cq
    ·refine ay ?_ ?_ au
     ·exact bW
     exact (af 4)
    exact (af 3)
   refine aF ?_
   refine bb ?_
   exact (af 4)
theorem oM:(["_law_by","_law_number_here"]:List Str).Nodup:=by decide +kernel
theorem gO:aY ["_law_cell","_law_number_here"] ["_law_cell"] (ao (top 22)):=⟨rfl,rfl,rfl,by decide +kernel,rfl,by decide +kernel,by decide +kernel⟩
theorem pA {f:Addr} {fd:FuncData} (F:iI K "_law_prime" "_law_prime" (top 22) f fd) (hm:mg "_law_prime" = some (.ref f)) (T:Txt K mg) :FnAt P w K mg base "_law_prime" 1 PM.gg :=
 FnAt.mk F hm gO (fun _ _ _ _ _ _ => rj fun _ => rfl) fun dj A outer s H E hr =>
  by
   refine az ?_ ?_
   ·refine d4 ?_ ?_ cS
    ·refine b8 ?_ ?_ au
     ·exact (dH hr.units)
     refine ay ?_ ?_ au
     ·exact bg
     exact (af 0)
    refine aF ?_
    refine bb ?_
    refine bq ?_ ?_
    ·refine h_ ?_
     refine dY ?_
     refine dY ?_
     refine dY ?_
     refine dY ?_
     refine dY ?_
     exact (dY ax)
    refine ay ?_ ?_ au
    ·exact bg
    refine ay ?_ ?_ au
    ·exact cy
    exact (af 0)
   refine az ?_ ?_
   ·refine aP ?_ ?_
    ·exact gO.nd
    refine ay ?_ au ?_
    ·exact cq
    refine ay ?_ ?_ au
    ·exact bg
    refine ay ?_ ?_ au
    ·exact cy
    exact (af 0)
   refine az ?_ ?_
   ·refine zL b9 ?_ ?_
    ·refine b8 ?_ ?_ ?_
     ·exact (iO hr.units)
     ·refine nh (N:=["_law_by","_law_number_here"]) (k:=1) rfl rfl (p9 (cl:=[("_law_number_here",s.heap.objs.size + 1)]) (caps:=[1]) (by rfl) (.cons (c:=s.heap.objs.size + 1) (by rfl) (by rfl) (by first | exact Or.inl rfl | exact Or.inr rfl) (by first | exact Or.inl rfl | exact Or.inr rfl) .nil) (by rfl) (by rfl) (by rfl) (by rfl) (by rfl) (by rfl)) ?_ (fun _ _ _ _ => ?_) (fun _ _ _ _ => ?_) (fun _ _ _ _ => ?_)
      ·refine xD (by rfl) T.dR ?_
       refine dY ?_
       exact (dY ax)
      ·exact (bc 0 oM)
      ·refine q8 ?_
       refine uM ?_
       refine zw ?_ ?_
       ·refine b8 ?_ ?_ ?_
        ·exact uP
        ·exact (af 0)
        exact (af 1)
       refine vZ ?_
       refine b8 ?_ ?_ au
       ·exact (dH hr.units)
       refine ay ?_ ?_ ?_
       ·exact bg
       ·exact (af 1)
       exact (af 0)
      exact (af 0)
     exact (h_ ax)
    refine aF ?_
    refine aP ?_ ?_
    ·exact gO.nd
    refine ay ?_ ?_ au
    ·exact cq
    exact (af 1)
   refine aF ?_
   refine bb ?_
   exact (af 1)
theorem mT:aY ["_law_ring_here","_law_number_here"] ["_law_ring_here","_law_number_here"] (ao (top 24)):=⟨rfl,rfl,rfl,by decide +kernel,rfl,by decide +kernel,by decide +kernel⟩
theorem mU {f:Addr} {fd:FuncData} (F:iI K "_law_settled" "_law_settled" (top 24) f fd) (hm:mg "_law_settled" = some (.ref f)) (T:Txt K mg) :FnAt P w K mg base "_law_settled" 1 PM.bf :=
 FnAt.mk F hm mT (fun _ _ _ _ _ _ => pj fun _ _ => rfl) fun dj A outer s H E hr =>
  by
   refine az ?_ ?_
   ·refine d4 ?_ ?_ cS
    ·refine b8 ?_ ?_ au
     ·exact (dH hr.units)
     exact (af 0)
    refine aF ?_
    refine bb ?_
    exact (af 1)
   refine aF ?_
   refine bb ?_
   refine ay ?_ ?_ ?_
   ·exact bg
   ·exact (af 1)
   exact (af 0)
theorem oN:aY ["_law_cell"] ["_law_cell"] (ao (top 27)):=⟨rfl,rfl,rfl,by decide +kernel,rfl,by decide +kernel,by decide +kernel⟩
theorem oO {f:Addr} {fd:FuncData} (F:iI K "_law_number" "_law_number" (top 27) f fd) (hm:mg "_law_number" = some (.ref f)) (T:Txt K mg) :FnAt P w K mg base "_law_number" 1 PM.bS :=
 FnAt.mk F hm oN (fun _ _ _ _ _ _ => rj fun _ => rfl) fun dj A outer s H E hr =>
  by
   refine az ?_ ?_
   ·refine d4 ?_ ?_ cS
    ·refine b8 ?_ ?_ au
     ·exact (dH hr.units)
     refine ay ?_ ?_ au
     ·exact bg
     exact (af 0)
    refine aF ?_
    refine bb ?_
    refine ay ?_ ?_ ?_
    ·exact bW
    ·refine ay ?_ au ?_
     ·exact ie
     refine ay ?_ ?_ au
     ·exact bW
     refine ay ?_ ?_ au
     ·exact bg
     refine ay ?_ ?_ au
     ·exact cy
     exact (af 0)
    refine ay ?_ ?_ ?_
    ·exact bg
    ·refine ay ?_ ?_ au
     ·exact cy
     exact (af 0)
    exact (ay v7 au au)
   refine aF ?_
   refine bb ?_
   refine ay ?_ ?_ au
   ·exact ie
   refine ay ?_ ?_ au
   ·exact bg
   refine ay ?_ ?_ au
   ·exact cy
   exact (af 0)
theorem ba:aY ["_law_cell","_law_many","_law_found","_law_rest","_law_wide","_law_k","_law_exponent"] ["_law_cell","_law_many"] (ao (top 28)):=⟨rfl,rfl,rfl,by decide +kernel,rfl,by decide +kernel,by decide +kernel⟩
theorem km {f:Addr} {fd:FuncData} (F:iI K "_law_exponents" "_law_exponents" (top 28) f fd) (hm:mg "_law_exponents" = some (.ref f)) (T:Txt K mg) :FnAt P w K mg base "_law_exponents" 1 PM.bB :=
 FnAt.mk F hm ba (fun _ _ _ _ _ _ => pj fun _ _ => rfl) fun dj A outer s H E hr =>
  by
   refine az ?_ ?_
   ·refine aP ?_ ?_
    ·exact ba.nd
    exact (h_ ax)
   refine az ?_ ?_
   ·refine aP ?_ ?_
    ·exact ba.nd
    exact (af 0)
   refine az ?_ ?_
   ·refine aP ?_ ?_
    ·exact ba.nd
    exact au
   refine az ?_ ?_
   ·refine d4 ?_ ?_ cS
    ·refine b8 ?_ ?_ au
     ·exact (dH hr.units)
     refine ay ?_ ?_ au
     ·exact bg
     exact (af 0)
    refine az ?_ ?_
    ·refine aP ?_ ?_
     ·exact ba.nd
     refine ay ?_ ?_ au
     ·exact cy
     exact (af 0)
    refine aF ?_
    refine aP ?_ ?_
    ·exact ba.nd
    exact au
   refine az ?_ ?_
   ·refine dU b9 rfl ?_ ?_ ?_
    ·refine cY (by rfl) T.dR ?_
     refine aj ?_ ax
     exact (af 1)
    ·exact (bc 5 ba.nd)
    refine az ?_ ?_
    ·refine aP ?_ ?_
     ·exact ba.nd
     refine ay ?_ ?_ ?_
     ·exact bg
     ·exact (af 3)
     exact (af 4)
    refine az ?_ ?_
    ·refine aP ?_ ?_
     ·exact ba.nd
     refine ay ?_ ?_ ?_
     ·exact cy
     ·exact (af 3)
     exact (af 4)
    refine az ?_ ?_
    ·refine d4 ?_ ?_ cS
     ·refine uM ?_
      refine zw ?_ ?_
      ·refine b8 ?_ ?_ au
       ·exact (dH hr.units)
       exact (af 4)
      refine vZ ?_
      refine b8 ?_ ?_ ?_
      ·exact (dH hr.units)
      ·refine ay ?_ ?_ au
       ·exact bg
       refine ay ?_ ?_ au
       ·exact cy
       exact (af 0)
      exact (af 5)
     refine aF ?_
     refine aP ?_ ?_
     ·exact ba.nd
     refine ay ?_ ?_ au
     ·exact bg
     refine ay ?_ ?_ au
     ·exact cy
     exact (af 0)
    refine aF ?_
    refine gz ?_
    refine gf ?_ ?_
    ·exact (af 2)
    refine aj ?_ ax
    exact (af 6)
   refine aF ?_
   refine bb ?_
   refine gU ?_ (by rfl) T.nu PyProof.Rows.boot_tuple ?_
   ·exact pX
   refine aj ?_ ax
   exact (af 2)
theorem vq:aY ["thing"] ["thing"] (ao (top 8)):=⟨rfl,rfl,rfl,by decide +kernel,rfl,by decide +kernel,by decide +kernel⟩
theorem vt {f:Addr} {fd:FuncData} (F:iI K "is_ring" "is_ring" (top 8) f fd) (hm:mg "is_ring" = some (.ref f)) (T:Txt K mg) (vx:FnAt P w K mg base "is_whole" 1 PM.j7) (ko:FnAt P w K mg base "is_prime_within" 1 PM.bH):FnAt P w K mg base "is_ring" 2 PM.i9 :=
 FnAt.mk F hm vq (fun _ _ _ _ _ _ => rj fun _ => rfl) fun dj A outer s H E hr =>
  by
   refine aF ?_
   refine bb ?_
   refine qY ?_ ?_
   ·refine bu vx hr (by decide) (by rfl) aM ?_
    refine aj ?_ ax
    exact (af 0)
   refine nS ?_
   refine IA ?_ ?_
   ·refine nR ?_ ?_ au
    ·exact (dH hr.units)
    exact (af 0)
   refine nS ?_
   refine bu ko hr (by decide) (by rfl) aM ?_
   refine aj ?_ ax
   exact (af 0)
theorem gu:(["exponents","number","ring"]:List Str).Nodup:=by decide +kernel
theorem jI:(["term"]:List Str).Nodup:=by decide +kernel
theorem g_:aY ["ring","pairs","terms"] ["ring","pairs"] (ao (top 13)):=⟨rfl,rfl,rfl,by decide +kernel,rfl,by decide +kernel,by decide +kernel⟩
theorem lx {f:Addr} {fd:FuncData} (F:iI K "settled_terms" "settled_terms" (top 13) f fd) (hm:mg "settled_terms" = some (.ref f)) (T:Txt K mg) (bG:FnAt P w K mg base "rest_in_ring" 1 PM.aC):FnAt P w K mg base "settled_terms" 2 PM.cU :=
 FnAt.mk F hm g_ (fun _ _ _ _ _ _ => pj fun _ _ => rfl) fun dj A outer s H E hr =>
  by
   refine az (MN.ig 2 (N:=["exponents","number","ring"]) (k:=2) g_.nd rfl rfl (p9 (cl:=[("ring",s.heap.objs.size + 1)]) (caps:=[0]) (by rfl) (.cons (c:=s.heap.objs.size + 1) (by rfl) (by rfl) (by first | exact Or.inl rfl | exact Or.inr rfl) (by first | exact Or.inl rfl | exact Or.inr rfl) .nil) (by rfl) (by rfl) (by rfl) (by rfl) (by rfl) (by rfl)) (gH (af 1)) (fun _ _ _ _ => (qZ rfl (fG (bc 0 gu) (fG (bc 1 gu) ng)))) (fun _ _ _ _ => j5) (fun _ _ _ _ => (jz (aj (af 0) (aj (bu bG hr (by decide) (by rfl) sO (aj (af 2) (aj (af 1) ax))) ax))))) ?_
   refine aF ?_
   refine bb ?_
   refine nh (N:=["term"]) (k:=1) rfl rfl (p9 (cl:=[]) (caps:=[]) (by rfl) .nil (by rfl) (by rfl) (by rfl) (by rfl) (by rfl) (by rfl)) ?_ (fun _ _ _ _ => ?_) (fun _ _ _ _ => ?_) (fun _ _ _ _ => ?_)
   ·refine gH ?_
    exact (af 2)
   ·exact (bc 0 jI)
   ·refine q8 ?_
    refine b8 ?_ ?_ au
    ·exact (iO hr.units)
    refine bq ?_ au
    exact (af 0)
   exact (af 0)
theorem rH:aY ["_law_cell"] ["_law_cell"] (ao (top 23)):=⟨rfl,rfl,rfl,by decide +kernel,rfl,by decide +kernel,by decide +kernel⟩
theorem rK {f:Addr} {fd:FuncData} (F:iI K "_law_ring" "_law_ring" (top 23) f fd) (hm:mg "_law_ring" = some (.ref f)) (T:Txt K mg) (rL:FnAt P w K mg base "_law_prime" 1 PM.gg):FnAt P w K mg base "_law_ring" 2 PM.gm :=
 FnAt.mk F hm rH (fun _ _ _ _ _ _ => rj fun _ => rfl) fun dj A outer s H E hr =>
  by
   refine az ?_ ?_
   ·refine d4 ?_ ?_ cS
    ·refine b8 ?_ ?_ au
     ·exact (dH hr.units)
     refine ay ?_ ?_ au
     ·exact bg
     exact (af 0)
    refine aF ?_
    exact (bb au)
   refine aF ?_
   refine bb ?_
   refine bu rL hr (by decide) (by rfl) aM ?_
   refine aj ?_ ax
   refine ay ?_ ?_ au
   ·exact cy
   exact (af 0)
theorem df:aY ["_law_ring_here","_law_pairs_here","_law_found","_law_pair","_law_rows","_law_exponents_here"] ["_law_ring_here","_law_pairs_here"] (ao (top 25)):=⟨rfl,rfl,rfl,by decide +kernel,rfl,by decide +kernel,by decide +kernel⟩
theorem ly {f:Addr} {fd:FuncData} (F:iI K "_law_gathered" "_law_gathered" (top 25) f fd) (hm:mg "_law_gathered" = some (.ref f)) (T:Txt K mg) (dN:FnAt P w K mg base "_law_settled" 1 PM.bf):FnAt P w K mg base "_law_gathered" 2 PM.bZ :=
 FnAt.mk F hm df (fun _ _ _ _ _ _ => pj fun _ _ => rfl) fun dj A outer s H E hr =>
  by
   refine az ?_ ?_
   ·refine aP ?_ ?_
    ·exact df.nd
    exact zO
   refine az ?_ ?_
   ·refine dU b9 rfl ?_ ?_ ?_
    ·refine gH ?_
     exact (af 1)
    ·exact (bc 3 df.nd)
    refine aF ?_
    refine Cs hr.units ?_ ?_ ?_
    ·exact (af 2)
    ·refine bq ?_ au
     exact (af 3)
    refine ay ?_ ?_ ?_
    ·exact cq
    ·refine zP hr.units ?_ ?_ au
     ·exact (af 2)
     refine bq ?_ au
     exact (af 3)
    refine bq ?_ au
    exact (af 3)
   refine az ?_ ?_
   ·refine aP ?_ ?_
    ·exact df.nd
    exact (h_ ax)
   refine az ?_ ?_
   ·refine dU b9 rfl ?_ ?_ ?_
    ·refine gH ?_
     refine AA (by rfl) (by rfl) T.Bl PyProof.Rows.Boot.«sorted» ?_
     exact (af 2)
    ·exact (bc 5 df.nd)
    refine aF ?_
    refine d4 ?_ ?_ cS
    ·refine b8 ?_ ?_ au
     ·exact (iO hr.units)
     refine bu dN hr (by decide) (by rfl) aM ?_
     refine aj ?_ ?_
     ·exact (af 0)
     refine aj ?_ ax
     refine wk hr.units ?_ ?_
     ·exact (af 2)
     exact (af 5)
    refine aF ?_
    refine gz ?_
    refine gf ?_ ?_
    ·exact (af 4)
    refine aj ?_ ax
    refine jz ?_
    refine aj ?_ ?_
    ·exact (af 5)
    refine aj ?_ ax
    refine bu dN hr (by decide) (by rfl) aM ?_
    refine aj ?_ ?_
    ·exact (af 0)
    refine aj ?_ ax
    refine wk hr.units ?_ ?_
    ·exact (af 2)
    exact (af 5)
   refine aF ?_
   refine bb ?_
   exact (af 4)
theorem pB:(["_law_one"]:List Str).Nodup:=by decide +kernel
theorem kq:aY ["_law_found","_law_due","_law_k"] ["_law_found","_law_due"] (ao (top 26)):=⟨rfl,rfl,rfl,by decide +kernel,rfl,by decide +kernel,by decide +kernel⟩
theorem rN {f:Addr} {fd:FuncData} (F:iI K "_law_same" "_law_same" (top 26) f fd) (hm:mg "_law_same" = some (.ref f)) (T:Txt K mg) (f_:FnAt P w K mg base "_law_whole" 1 PM.cF):FnAt P w K mg base "_law_same" 2 PM.eV :=
 FnAt.mk F hm kq (fun _ _ _ _ _ _ => pj fun _ _ => rfl) fun dj A outer s H E hr =>
  by
   refine az ?_ ?_
   ·refine d4 ?_ ?_ cS
    ·refine uM ?_
     refine pW ?_ ?_
     ·refine iN ?_
      refine iM ?_
      refine jA xC (by rfl) T.dy (by rfl) T.vn PyProof.Rows.boot_list ?_
      exact (af 0)
     refine nU ?_
     refine b8 ?_ ?_ ?_
     ·exact (iO hr.units)
     ·refine fF ?_ (by rfl) T.oK PySem.boot_len ?_
      ·exact fh
      refine aj ?_ ax
      exact (af 0)
     refine fF ?_ (by rfl) T.oK PySem.boot_len ?_
     ·exact fh
     refine aj ?_ ax
     exact (af 1)
    refine aF ?_
    exact (bb nQ)
   refine az ?_ ?_
   ·refine dU b9 rfl ?_ ?_ ?_
    ·refine cY (by rfl) T.dR ?_
     refine aj ?_ ax
     refine fF ?_ (by rfl) T.oK PySem.boot_len ?_
     ·exact fh
     refine aj ?_ ax
     exact (af 1)
    ·exact (bc 2 kq.nd)
    refine az ?_ ?_
    ·refine d4 ?_ ?_ cS
     ·refine uM ?_
      refine pW ?_ ?_
      ·refine iN ?_
       refine iM ?_
       refine jA nY (by rfl) T.dy (by rfl) T.nu PyProof.Rows.boot_tuple ?_
       refine bq ?_ ?_
       ·exact (af 0)
       exact (af 2)
      refine pW ?_ ?_
      ·refine b8 ?_ ?_ au
       ·exact (iO hr.units)
       refine fF ?_ (by rfl) T.oK PySem.boot_len ?_
       ·exact fh
       refine aj ?_ ax
       refine bq ?_ ?_
       ·exact (af 0)
       exact (af 2)
      refine nU ?_
      refine iN ?_
      refine iM ?_
      refine bu f_ hr (by decide) (by rfl) aM ?_
      refine aj ?_ ax
      refine bq ?_ au
      refine bq ?_ ?_
      ·exact (af 0)
      exact (af 2)
     refine aF ?_
     exact (bb nQ)
    refine aF ?_
    refine d4 ?_ ?_ cS
    ·refine uM ?_
     refine pW ?_ ?_
     ·refine iN ?_
      refine iM ?_
      refine jA nY (by rfl) T.dy (by rfl) T.nu PyProof.Rows.boot_tuple ?_
      refine bq ?_ au
      refine bq ?_ ?_
      ·exact (af 0)
      exact (af 2)
     refine nU ?_
     refine b8 ?_ ?_ ?_
     ·exact (iO hr.units)
     ·refine nh (N:=["_law_one"]) (k:=1) rfl rfl (p9 (cl:=[]) (caps:=[]) (by rfl) .nil (by rfl) (by rfl) (by rfl) (by rfl) (by rfl) (by rfl)) ?_ (fun _ _ _ _ => ?_) (fun _ _ _ _ => ?_) (fun _ _ _ _ => ?_)
      ·refine gH ?_
       refine bq ?_ au
       refine bq ?_ ?_
       ·exact (af 0)
       exact (af 2)
      ·exact (bc 0 pB)
      ·refine q8 ?_
       refine iN ?_
       refine iM ?_
       refine bu f_ hr (by decide) (by rfl) sO ?_
       refine aj ?_ ax
       exact (af 0)
      exact (af 0)
     exact (h_ ax)
    refine aF ?_
    exact (bb nQ)
   refine aF ?_
   refine bb ?_
   refine nR ?_ ?_ ?_
   ·exact (dH hr.units)
   ·exact (af 0)
   exact (af 1)
theorem fA:aY ["_law_script","_law_place","_law_many","_law_size","_law_pairs_here","_law_k","_law_exponents_here"] ["_law_script","_law_place","_law_many","_law_size"] (ao (top 29)):=⟨rfl,rfl,rfl,by decide +kernel,rfl,by decide +kernel,by decide +kernel⟩
theorem pC {f:Addr} {fd:FuncData} (F:iI K "_law_pairs" "_law_pairs" (top 29) f fd) (hm:mg "_law_pairs" = some (.ref f)) (T:Txt K mg) (cj:FnAt P w K mg base "_law_cell_at" 1 PM.aI) (gP:FnAt P w K mg base "_law_number" 1 PM.bS) (ft:FnAt P w K mg base "_law_exponents" 1 PM.bB):FnAt P w K mg base "_law_pairs" 2 PM.gi :=
 FnAt.mk F hm fA (fun _ _ _ _ _ _ => Md fun _ _ _ _ => rfl) fun dj A outer s H E hr =>
  by
   refine az ?_ ?_
   ·refine aP ?_ ?_
    ·exact fA.nd
    exact (h_ ax)
   refine az ?_ ?_
   ·refine dU b9 rfl ?_ ?_ ?_
    ·refine cY (by rfl) T.dR ?_
     refine aj ?_ ax
     exact (af 3)
    ·exact (bc 5 fA.nd)
    refine az ?_ ?_
    ·refine aP ?_ ?_
     ·exact fA.nd
     refine bu ft hr (by decide) (by rfl) aM ?_
     refine aj ?_ ?_
     ·refine bu cj hr (by decide) (by rfl) aM ?_
      refine aj ?_ ?_
      ·exact (af 0)
      refine aj ?_ ax
      refine ay ?_ ?_ ?_
      ·exact cq
      ·exact (af 1)
      refine ay ?_ au ?_
      ·exact bW
      exact (af 5)
     refine aj ?_ ax
     exact (af 2)
    refine aF ?_
    refine gz ?_
    refine gf ?_ ?_
    ·exact (af 4)
    refine aj ?_ ax
    refine jz ?_
    refine aj ?_ ?_
    ·exact (af 6)
    refine aj ?_ ax
    refine bu gP hr (by decide) (by rfl) aM ?_
    refine aj ?_ ax
    refine bu cj hr (by decide) (by rfl) aM ?_
    refine aj ?_ ?_
    ·exact (af 0)
    refine aj ?_ ax
    refine ay ?_ ?_ au
    ·exact cq
    refine ay ?_ ?_ ?_
    ·exact cq
    ·exact (af 1)
    refine ay ?_ au ?_
    ·exact bW
    exact (af 5)
   refine aF ?_
   refine bb ?_
   exact (af 4)
theorem cE:aY ["_law_ring_here","_law_row","_law_point","_law_total","_law_term","_law_part","_law_k","_law_step"] ["_law_ring_here","_law_row","_law_point"] (ao (top 30)):=⟨rfl,rfl,rfl,by decide +kernel,rfl,by decide +kernel,by decide +kernel⟩
theorem pD {f:Addr} {fd:FuncData} (F:iI K "_law_value" "_law_value" (top 30) f fd) (hm:mg "_law_value" = some (.ref f)) (T:Txt K mg) (dN:FnAt P w K mg base "_law_settled" 1 PM.bf):FnAt P w K mg base "_law_value" 2 PM.eO :=
 FnAt.mk F hm cE (fun _ _ _ _ _ _ => sV fun _ _ _ => rfl) fun dj A outer s H E hr =>
  by
   refine az ?_ ?_
   ·refine aP ?_ ?_
    ·exact cE.nd
    exact au
   refine az ?_ ?_
   ·refine dU b9 rfl ?_ ?_ ?_
    ·refine gH ?_
     exact (af 1)
    ·exact (bc 4 cE.nd)
    refine az ?_ ?_
    ·refine aP ?_ ?_
     ·exact cE.nd
     refine bq ?_ au
     exact (af 4)
    refine az ?_ ?_
    ·refine dU b9 rfl ?_ ?_ ?_
     ·refine cY (by rfl) T.dR ?_
      refine aj ?_ ax
      refine fF ?_ (by rfl) T.oK PySem.boot_len ?_
      ·exact fh
      refine aj ?_ ax
      exact (af 2)
     ·exact (bc 6 cE.nd)
     refine aF ?_
     refine dU b9 rfl ?_ ?_ ?_
     ·refine cY (by rfl) T.dR ?_
      refine aj ?_ ax
      refine bq ?_ ?_
      ·refine bq ?_ au
       exact (af 4)
      exact (af 6)
     ·exact (bc 7 cE.nd)
     refine aF ?_
     refine aP ?_ ?_
     ·exact cE.nd
     refine bu dN hr (by decide) (by rfl) aM ?_
     refine aj ?_ ?_
     ·exact (af 0)
     refine aj ?_ ax
     refine ay ?_ ?_ ?_
     ·exact bW
     ·exact (af 5)
     refine bq ?_ ?_
     ·exact (af 2)
     exact (af 6)
    refine aF ?_
    refine aP ?_ ?_
    ·exact cE.nd
    refine ay ?_ ?_ ?_
    ·exact cq
    ·exact (af 3)
    exact (af 5)
   refine aF ?_
   refine bb ?_
   refine bu dN hr (by decide) (by rfl) aM ?_
   refine aj ?_ ?_
   ·exact (af 0)
   refine aj ?_ ax
   exact (af 3)
theorem pE:aY ["ring"] ["ring"] (ao (top 9)):=⟨rfl,rfl,rfl,by decide +kernel,rfl,by decide +kernel,by decide +kernel⟩
theorem pF {f:Addr} {fd:FuncData} (F:iI K "check_ring" "check_ring" (top 9) f fd) (hm:mg "check_ring" = some (.ref f)) (T:Txt K mg) (yp:FnAt P w K mg base "is_ring" 2 PM.i9):FnAt P w K mg base "check_ring" 3 PM.cI :=
 FnAt.mk F hm pE (fun _ _ _ _ _ _ => rj fun _ => rfl) fun dj A outer s H E hr =>
  by
   refine aF ?_
   refine d4 ?_ ?_ cS
   ·refine iN ?_
    refine iM ?_
    refine bu yp hr (by decide) (by rfl) aM ?_
    refine aj ?_ ax
    exact (af 0)
   refine aF ?_
   refine xF uV rfl T.Bn (by rfl) ?_
   exact (FQ ax)
theorem fM:aY ["multiply","thing","count","answer","place"] ["multiply","thing","count"] (ao (top 11)):=⟨rfl,rfl,rfl,by decide +kernel,rfl,by decide +kernel,by decide +kernel⟩
theorem ud {L:dQ} {mb:ME} {f:Addr} {fd:FuncData} (F:iI K "repeated" "repeated" (top 11) f fd) (hm:mg "repeated" = some (.ref f)) (T:Txt K mg) (S:uX P w K mg base L 1 mb):qc P w K mg base "repeated" 3 L (PM.repeated L mb) :=
 qc.mk F hm fM (fun _ _ _ _ _ _ => sV fun _ _ _ => rfl) fun dj A outer s H E hr =>
  by
   refine az ?_ ?_
   ·refine aP ?_ ?_
    ·exact fM.nd
    exact (af 1)
   refine az ?_ ?_
   ·refine dU b9 rfl ?_ ?_ ?_
    ·refine Cu (by rfl) T.dR ?_
     refine aj ?_ ?_
     ·refine ay ?_ ?_ au
      ·exact ie
      refine CC ?_
      exact (af 2)
     refine aj ?_ ?_
     ·exact (zD au)
     refine aj ?_ ax
     exact (zD au)
    ·exact (bc 4 fM.nd)
    refine az ?_ ?_
    ·refine aP ?_ ?_
     ·exact fM.nd
     refine sW S 0 hr ?_
     refine aj ?_ ?_
     ·exact (af 3)
     refine aj ?_ ax
     exact (af 3)
    refine aF ?_
    refine d4 ?_ ?_ cS
    ·refine b8 ?_ ?_ au
     ·exact (dH hr.units)
     refine ay ?_ ?_ au
     ·exact CB
     refine ay ?_ ?_ ?_
     ·exact CA
     ·exact (af 2)
     exact (af 4)
    refine aF ?_
    refine aP ?_ ?_
    ·exact fM.nd
    refine sW S 0 hr ?_
    refine aj ?_ ?_
    ·exact (af 3)
    refine aj ?_ ax
    exact (af 1)
   refine aF ?_
   refine bb ?_
   exact (af 3)
theorem oP:(["_law_k","_law_term","_law_unknown"]:List Str).Nodup:=by decide +kernel
theorem fB:aY ["_law_ring_here","_law_row","_law_unknown","_law_pairs_here","_law_term","_law_exponents_here"] ["_law_ring_here","_law_row","_law_unknown"] (ao (top 31)):=⟨rfl,rfl,rfl,by decide +kernel,rfl,by decide +kernel,by decide +kernel⟩
theorem pG {f:Addr} {fd:FuncData} (F:iI K "_law_slope" "_law_slope" (top 31) f fd) (hm:mg "_law_slope" = some (.ref f)) (T:Txt K mg) (d9:FnAt P w K mg base "_law_gathered" 2 PM.bZ):FnAt P w K mg base "_law_slope" 3 PM.eQ :=
 FnAt.mk F hm fB (fun _ _ _ _ _ _ => sV fun _ _ _ => rfl) fun dj A outer s H E hr =>
  by
   refine az ?_ ?_
   ·refine aP ?_ ?_
    ·exact fB.nd
    exact (h_ ax)
   refine az ?_ ?_
   ·refine dU b9 rfl ?_ ?_ ?_
    ·refine gH ?_
     exact (af 1)
    ·exact (bc 4 fB.nd)
    refine aF ?_
    refine d4 ?_ ?_ cS
    ·refine b8 ?_ ?_ au
     ·exact zC
     refine bq ?_ ?_
     ·refine bq ?_ au
      exact (af 4)
     exact (af 2)
    refine az (MN.ig 5 (N:=["_law_k","_law_term","_law_unknown"]) (k:=1) fB.nd rfl rfl (D4 (cl:=[("_law_term",s.heap.objs.size + 2),("_law_unknown",s.heap.objs.size + 1)]) (cl':=[("_law_unknown",s.heap.objs.size + 1),("_law_term",s.heap.objs.size + 2)]) (caps:=[4,2]) (caps':=[2,4]) (by rfl) (.cons (c:=s.heap.objs.size + 2) (by rfl) (by rfl) (by first | exact Or.inl rfl | exact Or.inr rfl) (by first | exact Or.inl rfl | exact Or.inr rfl) (.cons (c:=s.heap.objs.size + 1) (by rfl) (by rfl) (by first | exact Or.inl rfl | exact Or.inr rfl) (by first | exact Or.inl rfl | exact Or.inr rfl) .nil)) (.cons (c:=s.heap.objs.size + 1) (by rfl) (by rfl) (by first | exact Or.inl rfl | exact Or.inr rfl) (by first | exact Or.inl rfl | exact Or.inr rfl) (.cons (c:=s.heap.objs.size + 2) (by rfl) (by rfl) (by first | exact Or.inl rfl | exact Or.inr rfl) (by first | exact Or.inl rfl | exact Or.inr rfl) .nil)) (by rfl) (by rfl) (by rfl) (by rfl) (by rfl) (by rfl)) (cY (by rfl) T.dR (aj (fF fh (by rfl) T.oK PySem.boot_len (aj (bq (af 4) au) ax)) ax)) (fun _ _ _ _ => (bc 0 oP)) (fun _ _ _ _ => j5) (fun _ _ _ _ => (ay ie (bq (bq (af 1) au) (af 0)) (gU xK (by rfl) T.Bk PyProof.Rows.Boot.«int» (aj (nR (dH hr.units) (af 0) (af 2)) ax))))) ?_
    refine aF ?_
    refine gz ?_
    refine gf ?_ ?_
    ·exact (af 3)
    refine aj ?_ ax
    refine jz ?_
    refine aj ?_ ?_
    ·refine gU ?_ (by rfl) T.nu PyProof.Rows.boot_tuple ?_
     ·exact pX
     refine aj ?_ ax
     exact (af 5)
    refine aj ?_ ax
    refine ay ?_ ?_ ?_
    ·exact bW
    ·refine bq ?_ au
     exact (af 4)
    refine bq ?_ ?_
    ·refine bq ?_ au
     exact (af 4)
    exact (af 2)
   refine aF ?_
   refine bb ?_
   refine bu d9 hr (by decide) (by rfl) aM ?_
   refine aj ?_ ?_
   ·exact (af 0)
   refine aj ?_ ax
   exact (af 3)
noncomputable def M4:Option Expr:=D5 (aQ (top 16))
noncomputable def M:fH:=⟨IU M4 "power_of_number.<locals>.<lambda>" ["one","other"] "ring","power_of_number",49,20⟩
theorem M5:M.S.Ok:=dQ.Td rfl rfl rfl rfl rfl rfl rfl (by decide +kernel) (fun _ _ _ _ => pj fun _ _ => rfl)
theorem Dw (T:Txt K mg) (bG:FnAt P w K mg base "rest_in_ring" 1 PM.aC):uX P w K mg base M.S 1 PM.aV :=
 ⟨M5,fun f c c' A outer s H hr => by
   refine bu bG hr (by decide) (by rfl) IJ ?_
   refine aj ?_ ?_
   ·exact (af 2)
   refine aj ?_ ax
   refine ay ?_ ?_ ?_
   ·exact bW
   ·exact (af 0)
   exact (af 1)⟩
theorem jJ:aY ["ring","number","exponent"] ["ring","number","exponent"] (ao (top 16)):=⟨rfl,rfl,rfl,by decide +kernel,rfl,by decide +kernel,by decide +kernel⟩
theorem jK {f:Addr} {fd:FuncData} {jL tT:Addr} (B:FW K mg base "power_of_number" jL tT) (F:iI K "power_of_number" "power_of_number" (top 16) f fd) (hn:PySem.W.nsIn K mainGlobals "power_of_number" = some (some (.ref f))) (hm:mg "power_of_number" = some (.ref f)) (T:Txt K mg) (bG:FnAt P w K mg base "rest_in_ring" 1 PM.aC) (vz:qc P w K mg base "repeated" 3 M.S (PM.repeated M.S PM.aV)):FnAt P w K mg base "power_of_number" 4 (PM.bC M) :=
 FnAt.S0 B F hn hm jJ (fun _ _ _ _ _ _ => sV fun _ _ _ => rfl) fun A outer s H E hr =>
  by
   refine az ?_ ?_
   ·refine d4 ?_ ?_ cS
    ·refine b8 ?_ ?_ au
     ·exact (dH hr.units)
     exact (af 2)
    refine aF ?_
    exact (bb au)
   refine aF ?_
   refine bb ?_
   refine zT (L:=M) vz B hr (by decide) (by rfl) 0 rfl ?_
   refine aj ?_ ?_
   ·refine bu bG hr (by decide) (by rfl) aM ?_
    refine aj ?_ ?_
    ·exact (af 0)
    refine aj ?_ ax
    exact (af 1)
   refine aj ?_ ax
   exact (af 2)
theorem oQ:(["exponents","number","unknown"]:List Str).Nodup:=by decide +kernel
theorem uf:aY ["ring","row","unknown","pairs"] ["ring","row","unknown"] (ao (top 17)):=⟨rfl,rfl,rfl,by decide +kernel,rfl,by decide +kernel,by decide +kernel⟩
theorem Bo {f:Addr} {fd:FuncData} (F:iI K "slope" "slope" (top 17) f fd) (hm:mg "slope" = some (.ref f)) (T:Txt K mg) (yq:FnAt P w K mg base "lowered" 1 PM.lowered) (mV:FnAt P w K mg base "settled_terms" 2 PM.cU) (ir:FnAt P w K mg base "check_ring" 3 PM.cI):FnAt P w K mg base "slope" 4 PM.oD :=
 FnAt.mk F hm uf (fun _ _ _ _ _ _ => sV fun _ _ _ => rfl) fun dj A outer s H E hr =>
  by
   refine az ?_ ?_
   ·refine gz ?_
    refine bu ir hr (by decide) (by rfl) aM ?_
    refine aj ?_ ax
    exact (af 0)
   refine az (MN.ig 3 (N:=["exponents","number","unknown"]) (k:=2) uf.nd rfl rfl (p9 (cl:=[("unknown",s.heap.objs.size + 1)]) (caps:=[2]) (by rfl) (.cons (c:=s.heap.objs.size + 1) (by rfl) (by rfl) (by first | exact Or.inl rfl | exact Or.inr rfl) (by first | exact Or.inl rfl | exact Or.inr rfl) .nil) (by rfl) (by rfl) (by rfl) (by rfl) (by rfl) (by rfl)) (gH (af 1)) (fun _ _ _ _ => (qZ rfl (fG (bc 0 oQ) (fG (bc 1 oQ) ng)))) (fun _ _ _ _ => j5) (fun _ _ _ _ => (jz (aj (bu yq hr (by decide) (by rfl) sO (aj (af 0) (aj (af 2) ax))) (aj (ay bW (af 1) (bq (af 0) (af 2))) ax))))) ?_
   refine aF ?_
   refine bb ?_
   refine bu mV hr (by decide) (by rfl) aM ?_
   refine aj ?_ ?_
   ·exact (af 0)
   refine aj ?_ ax
   exact (af 3)
theorem ck:aY ["ring","exponents","point","answer","exponent","number"] ["ring","exponents","point"] (ao (top 15)):=⟨rfl,rfl,rfl,by decide +kernel,rfl,by decide +kernel,by decide +kernel⟩
theorem iZ {f:Addr} {fd:FuncData} (F:iI K "value_of_unknowns" "value_of_unknowns" (top 15) f fd) (hm:mg "value_of_unknowns" = some (.ref f)) (T:Txt K mg) (bG:FnAt P w K mg base "rest_in_ring" 1 PM.aC) (kr:FnAt P w K mg base "power_of_number" 4 (PM.bC M)):FnAt P w K mg base "value_of_unknowns" 5 (PM.aU M) :=
 FnAt.mk F hm ck (fun _ _ _ _ _ _ => sV fun _ _ _ => rfl) fun dj A outer s H E hr =>
  by
   refine az ?_ ?_
   ·refine aP ?_ ?_
    ·exact ck.nd
    exact au
   refine az ?_ ?_
   ·refine dU b9 rfl ?_ ?_ ?_
    ·refine FK false true (by rfl) T.JD ?_
     refine aj ?_ ?_
     ·exact (af 1)
     refine aj ?_ ax
     exact (af 2)
    ·refine qZ rfl ?_
     refine fG ?_ ?_
     ·exact (bc 4 ck.nd)
     refine fG ?_ ng
     exact (bc 5 ck.nd)
    refine aF ?_
    refine aP ?_ ?_
    ·exact ck.nd
    refine bu bG hr (by decide) (by rfl) aM ?_
    refine aj ?_ ?_
    ·exact (af 0)
    refine aj ?_ ax
    refine ay ?_ ?_ ?_
    ·exact bW
    ·exact (af 3)
    refine bu kr hr (by decide) (by rfl) aM ?_
    refine aj ?_ ?_
    ·exact (af 0)
    refine aj ?_ ?_
    ·exact (af 5)
    refine aj ?_ ax
    exact (af 4)
   refine aF ?_
   refine bb ?_
   exact (af 3)
theorem i4:aY ["ring","row","point","total","exponents","number"] ["ring","row","point"] (ao (top 14)):=⟨rfl,rfl,rfl,by decide +kernel,rfl,by decide +kernel,by decide +kernel⟩
theorem Bp {f:Addr} {fd:FuncData} (F:iI K "value" "value" (top 14) f fd) (hm:mg "value" = some (.ref f)) (T:Txt K mg) (bG:FnAt P w K mg base "rest_in_ring" 1 PM.aC) (ir:FnAt P w K mg base "check_ring" 3 PM.cI) (jm:FnAt P w K mg base "value_of_unknowns" 5 (PM.aU M)):FnAt P w K mg base "value" 6 (PM.value M) :=
 FnAt.mk F hm i4 (fun _ _ _ _ _ _ => sV fun _ _ _ => rfl) fun dj A outer s H E hr =>
  by
   refine az ?_ ?_
   ·refine gz ?_
    refine bu ir hr (by decide) (by rfl) aM ?_
    refine aj ?_ ax
    exact (af 0)
   refine az ?_ ?_
   ·refine aP ?_ ?_
    ·exact i4.nd
    exact au
   refine az ?_ ?_
   ·refine dU b9 rfl ?_ ?_ ?_
    ·refine gH ?_
     exact (af 1)
    ·refine qZ rfl ?_
     refine fG ?_ ?_
     ·exact (bc 4 i4.nd)
     refine fG ?_ ng
     exact (bc 5 i4.nd)
    refine aF ?_
    refine aP ?_ ?_
    ·exact i4.nd
    refine bu bG hr (by decide) (by rfl) aM ?_
    refine aj ?_ ?_
    ·exact (af 0)
    refine aj ?_ ax
    refine ay ?_ ?_ ?_
    ·exact cq
    ·exact (af 3)
    refine ay ?_ ?_ ?_
    ·exact bW
    ·exact (af 5)
    refine bu jm hr (by decide) (by rfl) aM ?_
    refine aj ?_ ?_
    ·exact (af 0)
    refine aj ?_ ?_
    ·exact (af 4)
    refine aj ?_ ax
    exact (af 2)
   refine aF ?_
   refine bb ?_
   exact (af 3)
theorem Bq:(["_law_k","_law_many","_law_mix"]:List Str).Nodup:=by decide +kernel
theorem dO:aY ["_law_script","_law_ring_here","_law_second","_law_third","_law_many","_law_row","_law_mix","_law_pairs_here","_law_point","_law_k","_law_cell","_law_handed","_law_turn","_law_found","_law_unknown","_law_told"] ["_law_script"] (ao (top 32)):=⟨rfl,rfl,rfl,by decide +kernel,rfl,by decide +kernel,by decide +kernel⟩
theorem GR {f:Addr} {fd:FuncData} (F:iI K "law" "law" (top 32) f fd) (T:Txt K mg) (f_:FnAt P w K mg base "_law_whole" 1 PM.cF) (cj:FnAt P w K mg base "_law_cell_at" 1 PM.aI) (gP:FnAt P w K mg base "_law_number" 1 PM.bS) (ft:FnAt P w K mg base "_law_exponents" 1 PM.bB) (ug:FnAt P w K mg base "_law_ring" 2 PM.gm) (d9:FnAt P w K mg base "_law_gathered" 2 PM.bZ) (mw:FnAt P w K mg base "_law_same" 2 PM.eV) (rO:FnAt P w K mg base "_law_pairs" 2 PM.gi) (rP:FnAt P w K mg base "_law_value" 2 PM.eO) (rQ:FnAt P w K mg base "_law_slope" 3 PM.eQ) (Dx:FnAt P w K mg base "slope" 4 PM.oD) (Dy:FnAt P w K mg base "value" 6 (PM.value M)):jQ P w K mg base (iJ P w) 7 f fd ["_law_script"] (FC ⟨K,mg,[]⟩ (PM.oE M)) :=
 zy F dO fun dj A outer s H E hr =>
  by
   refine az ?_ ?_
   ·refine aP ?_ ?_
    ·exact dO.nd
    refine bu ug hr (by decide) (by rfl) aM ?_
    refine aj ?_ ax
    refine bu cj hr (by decide) (by rfl) aM ?_
    refine aj ?_ ?_
    ·exact (af 0)
    exact (dY ax)
   refine az ?_ ?_
   ·refine aP ?_ ?_
    ·exact dO.nd
    refine bu cj hr (by decide) (by rfl) aM ?_
    refine aj ?_ ?_
    ·exact (af 0)
    exact (dY ax)
   refine az ?_ ?_
   ·refine aP ?_ ?_
    ·exact dO.nd
    refine bu cj hr (by decide) (by rfl) aM ?_
    refine aj ?_ ?_
    ·exact (af 0)
    exact (dY ax)
   refine az ?_ ?_
   ·refine aP ?_ ?_
    ·exact dO.nd
    refine ay ?_ au ?_
    ·exact cq
    refine ay ?_ ?_ au
    ·exact bg
    exact (af 2)
   refine az ?_ ?_
   ·refine aP ?_ ?_
    ·exact dO.nd
    refine bu d9 hr (by decide) (by rfl) aM ?_
    refine aj ?_ ?_
    ·exact (af 1)
    refine aj ?_ ax
    refine bu rO hr (by decide) (by rfl) aM ?_
    refine aj ?_ ?_
    ·exact (af 0)
    refine dY ?_
    refine aj ?_ ?_
    ·exact (af 4)
    refine aj ?_ ax
    refine ay ?_ ?_ au
    ·exact bg
    refine ay ?_ ?_ au
    ·exact cy
    exact (af 2)
   refine az ?_ ?_
   ·refine d4 ?_ ?_ cS
    ·refine b8 ?_ ?_ au
     ·exact (dH hr.units)
     refine ay ?_ ?_ au
     ·exact bg
     exact (af 3)
    refine az ?_ ?_
    ·refine aP ?_ ?_
     ·exact dO.nd
     refine bu cj hr (by decide) (by rfl) aM ?_
     refine aj ?_ ?_
     ·exact (af 0)
     exact (dY ax)
    refine az (MN.ig 7 (N:=["_law_k","_law_many","_law_mix"]) (k:=1) dO.nd rfl rfl (D4 (cl:=[("_law_many",s.heap.objs.size + 1),("_law_mix",s.heap.objs.size + 2)]) (cl':=[("_law_mix",s.heap.objs.size + 2),("_law_many",s.heap.objs.size + 1)]) (caps:=[4,6]) (caps':=[6,4]) (by rfl) (.cons (c:=s.heap.objs.size + 1) (by rfl) (by rfl) (by first | exact Or.inl rfl | exact Or.inr rfl) (by first | exact Or.inl rfl | exact Or.inr rfl) (.cons (c:=s.heap.objs.size + 2) (by rfl) (by rfl) (by first | exact Or.inl rfl | exact Or.inr rfl) (by first | exact Or.inl rfl | exact Or.inr rfl) .nil)) (.cons (c:=s.heap.objs.size + 2) (by rfl) (by rfl) (by first | exact Or.inl rfl | exact Or.inr rfl) (by first | exact Or.inl rfl | exact Or.inr rfl) (.cons (c:=s.heap.objs.size + 1) (by rfl) (by rfl) (by first | exact Or.inl rfl | exact Or.inr rfl) (by first | exact Or.inl rfl | exact Or.inr rfl) .nil)) (by rfl) (by rfl) (by rfl) (by rfl) (by rfl) (by rfl)) (cY (by rfl) T.dR (aj (ay bg (ay cy (af 3) au) au) ax)) (fun _ _ _ _ => (bc 0 Bq)) (fun _ _ _ _ => j5) (fun _ _ _ _ => (jz (aj (bu ft hr (by decide) (by rfl) sO (aj (ay cq (ay cy (af 2) au) (ay bW au (af 0))) (aj (af 1) ax))) (aj (bu gP hr (by decide) (by rfl) sO (aj (ay cq (af 2) (ay bW au (af 0))) ax)) ax))))) ?_
    refine aF ?_
    refine aP ?_ ?_
    ·exact dO.nd
    refine bu d9 hr (by decide) (by rfl) aM ?_
    refine aj ?_ ?_
    ·exact (af 1)
    refine aj ?_ ax
    exact (af 7)
   refine az ?_ ?_
   ·refine aP ?_ ?_
    ·exact dO.nd
    exact (h_ ax)
   refine az ?_ ?_
   ·refine dU b9 rfl ?_ ?_ ?_
    ·refine cY (by rfl) T.dR ?_
     refine aj ?_ ax
     exact (af 4)
    ·exact (bc 9 dO.nd)
    refine az ?_ ?_
    ·refine aP ?_ ?_
     ·exact dO.nd
     refine bu cj hr (by decide) (by rfl) aM ?_
     refine aj ?_ ?_
     ·exact (af 0)
     refine aj ?_ ax
     refine ay ?_ au ?_
     ·exact cq
     exact (af 9)
    refine az ?_ ?_
    ·refine gz ?_
     refine gf ?_ ?_
     ·exact (af 8)
     refine aj ?_ ax
     refine ay ?_ ?_ au
     ·exact ie
     refine ay ?_ ?_ au
     ·exact bg
     refine ay ?_ ?_ au
     ·exact cy
     exact (af 10)
    refine aF ?_
    refine d4 ?_ ?_ cS
    ·refine b8 ?_ ?_ au
     ·exact (dH hr.units)
     refine ay ?_ ?_ au
     ·exact bg
     exact (af 10)
    refine aF ?_
    refine Ct ?_ ?_ ?_
    ·exact (af 8)
    ·exact (af 9)
    refine ay ?_ ?_ ?_
    ·exact bW
    ·refine ay ?_ au ?_
     ·exact ie
     refine ay ?_ ?_ au
     ·exact bW
     refine ay ?_ ?_ au
     ·exact bg
     refine ay ?_ ?_ au
     ·exact cy
     exact (af 10)
    refine ay ?_ ?_ ?_
    ·exact bg
    ·refine ay ?_ ?_ au
     ·exact cy
     exact (af 10)
    exact (ay v7 au au)
   refine az ?_ ?_
   ·refine aP ?_ ?_
    ·exact dO.nd
    refine h_ ?_
    refine aj ?_ ?_
    ·refine gU ?_ (by rfl) T.vn PyProof.Rows.boot_list ?_
     ·exact pZ
     refine aj ?_ ax
     exact (af 5)
    refine aj ?_ ax
    refine gU ?_ (by rfl) T.vn PyProof.Rows.boot_list ?_
    ·exact pZ
    refine aj ?_ ax
    exact (af 8)
   refine az ?_ ?_
   ·refine dU b9 rfl ?_ ?_ ?_
    ·refine cY (by rfl) T.dR ?_
     exact (dY ax)
    ·exact (bc 12 dO.nd)
    refine az ?_ ?_
    ·refine aP ?_ ?_
     ·exact dO.nd
     refine bu Dy hr (by decide) (by rfl) aM ?_
     refine aj ?_ ?_
     ·exact (af 1)
     refine aj ?_ ?_
     ·refine bq ?_ au
      exact (af 11)
     refine aj ?_ ax
     refine bq ?_ au
     exact (af 11)
    refine az ?_ ?_
    ·refine d4 ?_ ?_ cS
     ·refine uM ?_
      refine pW ?_ ?_
      ·refine iN ?_
       refine iM ?_
       refine bu f_ hr (by decide) (by rfl) aM ?_
       refine aj ?_ ax
       exact (af 13)
      refine nU ?_
      refine b8 ?_ ?_ ?_
      ·exact (iO hr.units)
      ·exact (af 13)
      refine bu rP hr (by decide) (by rfl) aM ?_
      refine aj ?_ ?_
      ·exact (af 1)
      refine aj ?_ ?_
      ·exact (af 5)
      refine aj ?_ ax
      exact (af 8)
     refine aF ?_
     exact (bb nQ)
    refine aF ?_
    refine dU b9 rfl ?_ ?_ ?_
    ·refine cY (by rfl) T.dR ?_
     refine aj ?_ ax
     exact (af 4)
    ·exact (bc 14 dO.nd)
    refine az ?_ ?_
    ·refine aP ?_ ?_
     ·exact dO.nd
     refine bu Dx hr (by decide) (by rfl) aM ?_
     refine aj ?_ ?_
     ·exact (af 1)
     refine aj ?_ ?_
     ·refine bq ?_ au
      exact (af 11)
     refine aj ?_ ax
     exact (af 14)
    refine az ?_ ?_
    ·refine d4 ?_ ?_ cS
     ·refine iN ?_
      refine iM ?_
      refine bu mw hr (by decide) (by rfl) aM ?_
      refine aj ?_ ?_
      ·exact (af 15)
      refine aj ?_ ax
      refine bu rQ hr (by decide) (by rfl) aM ?_
      refine aj ?_ ?_
      ·exact (af 1)
      refine aj ?_ ?_
      ·exact (af 5)
      refine aj ?_ ax
      exact (af 14)
     refine aF ?_
     exact (bb nQ)
    refine aF ?_
    refine gz ?_
    refine gf ?_ ?_
    ·exact (af 15)
    exact (dY ax)
   refine aF ?_
   refine bb ?_
   refine qY ?_ ?_
   ·refine bu mw hr (by decide) (by rfl) aM ?_
    refine aj ?_ ?_
    ·refine bq ?_ au
     exact (af 11)
    refine aj ?_ ax
    exact (af 5)
   refine nS ?_
   refine nR ?_ ?_ ?_
   ·exact (dH hr.units)
   ·refine bq ?_ au
    exact (af 11)
   exact (af 8)
end
theorem all_mk {l:PySem.W.OpenLaw} {w:World} {K:PySem.W.Frag} {h:Heap} {mg:Str → Option Value} {fa:Addr} (X:K.In h) (G:h.Ns mainGlobals mg) (T6:mg "law" = some (.ref fa))
  {f0:Addr} {T7 T8:Option Addr} {T9:Array (Option Value)} {T_ Ua Ub Uc RK Ud:Value}
  {f1:Addr} {Ue Ug:Option Addr} {Uh:Array (Option Value)} {Ui Uj Uk Ul RL Um:Value}
  {f2:Addr} {Uo Uq:Option Addr} {E5:Array (Option Value)} {Ur Us Ut Uu RM Uv:Value}
  {f3:Addr} {Uw Ux:Option Addr} {Uy:Array (Option Value)} {Uz UA UB UC RN UD:Value}
  {f4:Addr} {UE UG:Option Addr} {UH:Array (Option Value)} {UI UJ UK UL RP UM:Value}
  {f5:Addr} {UN UO:Option Addr} {UP:Array (Option Value)} {UQ UR US UT RQ UU:Value}
  {f6:Addr} {UW UX:Option Addr} {UY:Array (Option Value)} {UZ U0 U1 U2 RT U3:Value}
  {f7:Addr} {U4 U5:Option Addr} {U6:Array (Option Value)} {U7 U8 U9 U_ RU Va:Value}
  {f8:Addr} {Vb Vc:Option Addr} {Vd:Array (Option Value)} {Ve Vf Vg Vh RV Vi:Value}
  {f9:Addr} {Vj Vk:Option Addr} {Vl:Array (Option Value)} {Vm Vn Vo Vp RW Vq:Value}
  {M6:Addr} {M7 M8:Option Addr} {M9:Array (Option Value)} {M_ Na Nb Nc JE Nd:Value}
  {Nf:Addr} {Ng Nh:Option Addr} {Ni:Array (Option Value)} {Nj Nk Nl Nm JF Nn:Value}
  {Np:Addr} {Nq Nr:Option Addr} {Nt:Array (Option Value)} {Nu Nv Nw Nx JG Ny:Value}
  {Nz:Addr} {NA NB:Option Addr} {NC:Array (Option Value)} {ND NF NG NH JH NI:Value}
  {NJ:Addr} {NK NL:Option Addr} {NM:Array (Option Value)} {NN NO NP NQ JI NR:Value}
  {NT:Addr} {NU NV:Option Addr} {NW:Array (Option Value)} {NX NY NZ N0 JJ N1:Value}
  {N2:Addr} {N3 N4:Option Addr} {N5:Array (Option Value)} {N6 N7 N8 N9 JK N_:Value}
  {Oa:Addr} {Ob Oc:Option Addr} {Od:Array (Option Value)} {Oe Of Og Oh JL Oi:Value}
  {Oj:Addr} {Ol Om:Option Addr} {Oo:Array (Option Value)} {Oq Ot Ou Ov JM Ow:Value}
  {Ox:Addr} {Oy Oz:Option Addr} {OA:Array (Option Value)} {OB OC OD OE JN OF:Value}
  {OG:Addr} {OH OI:Option Addr} {OJ:Array (Option Value)} {OK OL OM ON OO:Value} {jL:Addr}
  {OP:Addr} {OQ OR:Option Addr} {OS:Array (Option Value)} {OT OU OV OW JO OX:Value}
  {OY:Addr} {OZ O0:Option Addr} {O1:Array (Option Value)} {O2 O3 O4 O5 JP O6:Value}
  {O7:Addr} {O8 O9:Option Addr} {O_:Array (Option Value)} {Pa Pb Pc Pd JQ Pe:Value}
  {Pf:Addr} {Pg JR:Option Addr} {Ph:Array (Option Value)} {Pj JS JT JU GS JV:Value}
  {rR:Tok}
  {iA:Addr} {mW:Option Addr} {mX:Nat} {mY:Array (Option Value)} {lB lC lD lE lF lG lH lI lJ lK ku:Tok}
  {dh:Addr} {kA:ClassData}
  {hJ:Addr} {uh:ClassData}
  {q:Program} {d:DefRec} {tT:Addr} {Vr:Value} {Vs:Option Addr} {Vt:Array (Option Value)} {RX:Array Value}
  (a0:PySem.W.nsIn K mainGlobals "is_whole" = some (some (.ref f0))) (l0:K.lookup f0 = some ⟨T_,T7,.func (PySem.W.fnOf "is_whole" "is_whole" (aZ (top 6)) (aQ (top 6)) (ao (top 6)) .none Ua Ub Uc T8 RK Ud),T9⟩) (c0:PySem.W.codeIn K RK "is_whole" = true) (k0:PySem.W.keepIn K (.ref f0) = true)
  (a1:PySem.W.nsIn K mainGlobals "is_prime_within" = some (some (.ref f1))) (l1:K.lookup f1 = some ⟨Ui,Ue,.func (PySem.W.fnOf "is_prime_within" "is_prime_within" (aZ (top 7)) (aQ (top 7)) (ao (top 7)) .none Uj Uk Ul Ug RL Um),Uh⟩) (c1:PySem.W.codeIn K RL "is_prime_within" = true) (k1:PySem.W.keepIn K (.ref f1) = true)
  (a2:PySem.W.nsIn K mainGlobals "rest_in_ring" = some (some (.ref f2))) (l2:K.lookup f2 = some ⟨Ur,Uo,.func (PySem.W.fnOf "rest_in_ring" "rest_in_ring" (aZ (top 10)) (aQ (top 10)) (ao (top 10)) .none Us Ut Uu Uq RM Uv),E5⟩) (c2:PySem.W.codeIn K RM "rest_in_ring" = true) (k2:PySem.W.keepIn K (.ref f2) = true)
  (a3:PySem.W.nsIn K mainGlobals "lowered" = some (some (.ref f3))) (l3:K.lookup f3 = some ⟨Uz,Uw,.func (PySem.W.fnOf "lowered" "lowered" (aZ (top 18)) (aQ (top 18)) (ao (top 18)) .none UA UB UC Ux RN UD),Uy⟩) (c3:PySem.W.codeIn K RN "lowered" = true) (k3:PySem.W.keepIn K (.ref f3) = true)
  (a4:PySem.W.nsIn K mainGlobals "_law_whole" = some (some (.ref f4))) (l4:K.lookup f4 = some ⟨UI,UE,.func (PySem.W.fnOf "_law_whole" "_law_whole" (aZ (top 20)) (aQ (top 20)) (ao (top 20)) .none UJ UK UL UG RP UM),UH⟩) (c4:PySem.W.codeIn K RP "_law_whole" = true) (k4:PySem.W.keepIn K (.ref f4) = true)
  (a5:PySem.W.nsIn K mainGlobals "_law_cell_at" = some (some (.ref f5))) (l5:K.lookup f5 = some ⟨UQ,UN,.func (PySem.W.fnOf "_law_cell_at" "_law_cell_at" (aZ (top 21)) (aQ (top 21)) (ao (top 21)) .none UR US UT UO RQ UU),UP⟩) (c5:PySem.W.codeIn K RQ "_law_cell_at" = true) (k5:PySem.W.keepIn K (.ref f5) = true)
  (a6:PySem.W.nsIn K mainGlobals "_law_prime" = some (some (.ref f6))) (l6:K.lookup f6 = some ⟨UZ,UW,.func (PySem.W.fnOf "_law_prime" "_law_prime" (aZ (top 22)) (aQ (top 22)) (ao (top 22)) .none U0 U1 U2 UX RT U3),UY⟩) (c6:PySem.W.codeIn K RT "_law_prime" = true) (k6:PySem.W.keepIn K (.ref f6) = true)
  (a7:PySem.W.nsIn K mainGlobals "_law_settled" = some (some (.ref f7))) (l7:K.lookup f7 = some ⟨U7,U4,.func (PySem.W.fnOf "_law_settled" "_law_settled" (aZ (top 24)) (aQ (top 24)) (ao (top 24)) .none U8 U9 U_ U5 RU Va),U6⟩) (c7:PySem.W.codeIn K RU "_law_settled" = true) (k7:PySem.W.keepIn K (.ref f7) = true)
  (a8:PySem.W.nsIn K mainGlobals "_law_number" = some (some (.ref f8))) (l8:K.lookup f8 = some ⟨Ve,Vb,.func (PySem.W.fnOf "_law_number" "_law_number" (aZ (top 27)) (aQ (top 27)) (ao (top 27)) .none Vf Vg Vh Vc RV Vi),Vd⟩) (c8:PySem.W.codeIn K RV "_law_number" = true) (k8:PySem.W.keepIn K (.ref f8) = true)
  (a9:PySem.W.nsIn K mainGlobals "_law_exponents" = some (some (.ref f9))) (l9:K.lookup f9 = some ⟨Vm,Vj,.func (PySem.W.fnOf "_law_exponents" "_law_exponents" (aZ (top 28)) (aQ (top 28)) (ao (top 28)) .none Vn Vo Vp Vk RW Vq),Vl⟩) (c9:PySem.W.codeIn K RW "_law_exponents" = true) (k9:PySem.W.keepIn K (.ref f9) = true)
  (Pk:PySem.W.nsIn K mainGlobals "is_ring" = some (some (.ref M6))) (Pl:K.lookup M6 = some ⟨M_,M7,.func (PySem.W.fnOf "is_ring" "is_ring" (aZ (top 8)) (aQ (top 8)) (ao (top 8)) .none Na Nb Nc M8 JE Nd),M9⟩) (Pm:PySem.W.codeIn K JE "is_ring" = true) (Pn:PySem.W.keepIn K (.ref M6) = true)
  (Po:PySem.W.nsIn K mainGlobals "settled_terms" = some (some (.ref Nf))) (Pp:K.lookup Nf = some ⟨Nj,Ng,.func (PySem.W.fnOf "settled_terms" "settled_terms" (aZ (top 13)) (aQ (top 13)) (ao (top 13)) .none Nk Nl Nm Nh JF Nn),Ni⟩) (Pq:PySem.W.codeIn K JF "settled_terms" = true) (Pr:PySem.W.keepIn K (.ref Nf) = true)
  (Pt:PySem.W.nsIn K mainGlobals "_law_ring" = some (some (.ref Np))) (Pu:K.lookup Np = some ⟨Nu,Nq,.func (PySem.W.fnOf "_law_ring" "_law_ring" (aZ (top 23)) (aQ (top 23)) (ao (top 23)) .none Nv Nw Nx Nr JG Ny),Nt⟩) (Pw:PySem.W.codeIn K JG "_law_ring" = true) (Px:PySem.W.keepIn K (.ref Np) = true)
  (Py:PySem.W.nsIn K mainGlobals "_law_gathered" = some (some (.ref Nz))) (Pz:K.lookup Nz = some ⟨ND,NA,.func (PySem.W.fnOf "_law_gathered" "_law_gathered" (aZ (top 25)) (aQ (top 25)) (ao (top 25)) .none NF NG NH NB JH NI),NC⟩) (PB:PySem.W.codeIn K JH "_law_gathered" = true) (PD:PySem.W.keepIn K (.ref Nz) = true)
  (PF:PySem.W.nsIn K mainGlobals "_law_same" = some (some (.ref NJ))) (PH:K.lookup NJ = some ⟨NN,NK,.func (PySem.W.fnOf "_law_same" "_law_same" (aZ (top 26)) (aQ (top 26)) (ao (top 26)) .none NO NP NQ NL JI NR),NM⟩) (PJ:PySem.W.codeIn K JI "_law_same" = true) (PL:PySem.W.keepIn K (.ref NJ) = true)
  (PN:PySem.W.nsIn K mainGlobals "_law_pairs" = some (some (.ref NT))) (PQ:K.lookup NT = some ⟨NX,NU,.func (PySem.W.fnOf "_law_pairs" "_law_pairs" (aZ (top 29)) (aQ (top 29)) (ao (top 29)) .none NY NZ N0 NV JJ N1),NW⟩) (PR:PySem.W.codeIn K JJ "_law_pairs" = true) (PU:PySem.W.keepIn K (.ref NT) = true)
  (PV:PySem.W.nsIn K mainGlobals "_law_value" = some (some (.ref N2))) (PX:K.lookup N2 = some ⟨N6,N3,.func (PySem.W.fnOf "_law_value" "_law_value" (aZ (top 30)) (aQ (top 30)) (ao (top 30)) .none N7 N8 N9 N4 JK N_),N5⟩) (PY:PySem.W.codeIn K JK "_law_value" = true) (PZ:PySem.W.keepIn K (.ref N2) = true)
  (P0:PySem.W.nsIn K mainGlobals "check_ring" = some (some (.ref Oa))) (P_:K.lookup Oa = some ⟨Oe,Ob,.func (PySem.W.fnOf "check_ring" "check_ring" (aZ (top 9)) (aQ (top 9)) (ao (top 9)) .none Of Og Oh Oc JL Oi),Od⟩) (Qa:PySem.W.codeIn K JL "check_ring" = true) (Qb:PySem.W.keepIn K (.ref Oa) = true)
  (Qc:PySem.W.nsIn K mainGlobals "repeated" = some (some (.ref Oj))) (Qd:K.lookup Oj = some ⟨Oq,Ol,.func (PySem.W.fnOf "repeated" "repeated" (aZ (top 11)) (aQ (top 11)) (ao (top 11)) .none Ot Ou Ov Om JM Ow),Oo⟩) (Qe:PySem.W.codeIn K JM "repeated" = true) (Qf:PySem.W.keepIn K (.ref Oj) = true)
  (Qg:PySem.W.nsIn K mainGlobals "_law_slope" = some (some (.ref Ox))) (Qh:K.lookup Ox = some ⟨OB,Oy,.func (PySem.W.fnOf "_law_slope" "_law_slope" (aZ (top 31)) (aQ (top 31)) (ao (top 31)) .none OC OD OE Oz JN OF),OA⟩) (Qi:PySem.W.codeIn K JN "_law_slope" = true) (Qj:PySem.W.keepIn K (.ref Ox) = true)
  (JW:PySem.W.nsIn K mainGlobals "power_of_number" = some (some (.ref OG))) (KJ:K.lookup OG = some ⟨OK,OH,.func (PySem.W.fnOf "power_of_number" "power_of_number" (aZ (top 16)) (aQ (top 16)) (ao (top 16)) .none OL OM ON OI (.ref jL) OO),OJ⟩) (Qk:PySem.W.codeIn K (.ref jL) "power_of_number" = true) (Ql:PySem.W.keepIn K (.ref OG) = true)
  (Qm:PySem.W.nsIn K mainGlobals "slope" = some (some (.ref OP))) (Qn:K.lookup OP = some ⟨OT,OQ,.func (PySem.W.fnOf "slope" "slope" (aZ (top 17)) (aQ (top 17)) (ao (top 17)) .none OU OV OW OR JO OX),OS⟩) (Qo:PySem.W.codeIn K JO "slope" = true) (Qp:PySem.W.keepIn K (.ref OP) = true)
  (Qq:PySem.W.nsIn K mainGlobals "value_of_unknowns" = some (some (.ref OY))) (Qr:K.lookup OY = some ⟨O2,OZ,.func (PySem.W.fnOf "value_of_unknowns" "value_of_unknowns" (aZ (top 15)) (aQ (top 15)) (ao (top 15)) .none O3 O4 O5 O0 JP O6),O1⟩) (Qs:PySem.W.codeIn K JP "value_of_unknowns" = true) (Qt:PySem.W.keepIn K (.ref OY) = true)
  (Qu:PySem.W.nsIn K mainGlobals "value" = some (some (.ref O7))) (Qv:K.lookup O7 = some ⟨Pa,O8,.func (PySem.W.fnOf "value" "value" (aZ (top 14)) (aQ (top 14)) (ao (top 14)) .none Pb Pc Pd O9 JQ Pe),O_⟩) (Qw:PySem.W.codeIn K JQ "value" = true) (Qx:PySem.W.keepIn K (.ref O7) = true)
  (Qy:PySem.W.nsIn K mainGlobals "law" = some (some (.ref Pf))) (Qz:K.lookup Pf = some ⟨Pj,Pg,.func (PySem.W.fnOf "law" "law" (aZ (top 32)) (aQ (top 32)) (ao (top 32)) .none JS JT JU JR GS JV),Ph⟩) (QA:PySem.W.codeIn K GS "law" = true) (QB:PySem.W.keepIn K (.ref Pf) = true)
  (vA:PySem.W.nsIn K mainGlobals "all" = some none)
  (rS:PySem.W.nsIn K mainGlobals "bool" = some none)
  (vB:PySem.W.nsIn K mainGlobals "int" = some none)
  (gQ:PySem.W.nsIn K mainGlobals "isinstance" = some none)
  (vC:PySem.W.nsIn K mainGlobals "len" = some none)
  (rT:PySem.W.nsIn K mainGlobals "list" = some none)
  (oR:PySem.W.nsIn K mainGlobals "range" = some none)
  (lM:PySem.W.nsIn K mainGlobals "sorted" = some none)
  (oS:PySem.W.nsIn K mainGlobals "tuple" = some none)
  (vD:PySem.W.nsIn K mainGlobals "zip" = some none)
  (iu:PySem.W.nsIn K mainGlobals "MOST_RING" = some (some (.int 997 rR)))
  (fR:PySem.W.nsIn K mainGlobals "FIRST_PRIMES" = some (some (.ref iA))) (fS:K.lookup iA = some ⟨.type "tuple",mW,.seq #[.int 2 lB,.int 3 lC,.int 5 lD,.int 7 lE,.int 11 lF,.int 13 lG,.int 17 lH,.int 19 lI,.int 23 lJ,.int 29 lK,.int 31 ku] mX,mY⟩)
  (fT:PySem.W.nsIn K mainGlobals "AlgebraError" = some (some (.ref dh))) (iB:PySem.W.clsIn K dh = some kA) (iC:PySem.W.typeIn K (.ref dh) = some (.type "type")) (fU:PySem.W.excIn K dh Mc "ValueError.__new__" = true) (fV:PySem.W.subIn K (.ref dh) (.type "BaseException") = some true)
  (lN:PySem.W.nsIn K mainGlobals "NoRing" = some (some (.ref hJ))) (qC:PySem.W.clsIn K hJ = some uh) (qD:PySem.W.typeIn K (.ref hJ) = some (.type "type")) (lO:PySem.W.excIn K hJ Mc "ValueError.__new__" = true) (lQ:PySem.W.subIn K (.ref hJ) (.type "BaseException") = some true)
  (zr:(recsOf q).find? (fun e => e.name == ("power_of_number":Str)) = some d) (zk:K.lookup jL = some ⟨Vr,Vs,.fields RX,Vt⟩) (zv:RX[11]? = some (.ref tT)) (zn:PySem.W.noTabs K = true) :
  ∃ (fd:FuncData) (ts:List (Addr × Addr)),mK q K [.tab M.own M.line M.col M.S.qual] ts ∧ (ts.map (·.2)).Nodup ∧ PySem.W.noTabs K = true ∧ (∀ (s:Shared) (v:Value),BindsTo s fd ⟨[v],[]⟩ [("_law_script",v)]) ∧ ∀ base:Heap,K.In base → base.Ns mainGlobals mg → cX mg base ts → jQ l.prog w K mg base (iJ l.prog w) 7 fa fd ["_law_script"] (FC ⟨K,mg,[]⟩ (PM.oE M)):=by
 have e:=T6.symm.trans (PySem.W.mg_of X G Qy)
 cases e
 have T:Txt K mg:=⟨PySem.W.mg_none_of X G vA,PySem.W.mg_none_of X G rS,PySem.W.mg_none_of X G vB,PySem.W.mg_none_of X G gQ,PySem.W.mg_none_of X G vC,PySem.W.mg_none_of X G rT,PySem.W.mg_none_of X G oR,PySem.W.mg_none_of X G lM,PySem.W.mg_none_of X G oS,PySem.W.mg_none_of X G vD,Glob.int (PySem.W.mg_of X G iu),Glob.ints (ns:=[2,3,5,7,11,13,17,19,23,29,31]) (PySem.W.mg_of X G fR) fS rfl rfl (by simp [sizeLine_eq]) (.cons ⟨_,rfl⟩ (.cons ⟨_,rfl⟩ (.cons ⟨_,rfl⟩ (.cons ⟨_,rfl⟩ (.cons ⟨_,rfl⟩ (.cons ⟨_,rfl⟩ (.cons ⟨_,rfl⟩ (.cons ⟨_,rfl⟩ (.cons ⟨_,rfl⟩ (.cons ⟨_,rfl⟩ (.cons ⟨_,rfl⟩ (.nil)))))))))))),⟨dh,PySem.W.mg_of X G fT,fU,fV⟩,⟨hJ,PySem.W.mg_of X G lN,lO,lQ⟩⟩
 have zt:PySem.W.tabIn K "power_of_number" = some (jL,tT):=FX JW KJ rfl zk zv
 have vE:=fun (base:Heap) (hB:cX mg base [(jL,tT)]) => t_ (P:=l.prog) (w:=w) (base:=base) (cu (st:=top 6) l0 c0 k0) (PySem.W.mg_of X G a0) T
 have kB:=fun (base:Heap) (hB:cX mg base [(jL,tT)]) => jH (P:=l.prog) (w:=w) (base:=base) (cu (st:=top 7) l1 c1 k1) (PySem.W.mg_of X G a1) T
 have dP:=fun (base:Heap) (hB:cX mg base [(jL,tT)]) => mR (P:=l.prog) (w:=w) (base:=base) (cu (st:=top 10) l2 c2 k2) (PySem.W.mg_of X G a2) T
 have yr:=fun (base:Heap) (hB:cX mg base [(jL,tT)]) => vp (P:=l.prog) (w:=w) (base:=base) (cu (st:=top 18) l3 c3 k3) (PySem.W.mg_of X G a3) T
 have kC:=fun (base:Heap) (hB:cX mg base [(jL,tT)]) => pz (P:=l.prog) (w:=w) (base:=base) (cu (st:=top 20) l4 c4 k4) (PySem.W.mg_of X G a4) T
 have i6:=fun (base:Heap) (hB:cX mg base [(jL,tT)]) => mS (P:=l.prog) (w:=w) (base:=base) (cu (st:=top 21) l5 c5 k5) (PySem.W.mg_of X G a5) T
 have rV:=fun (base:Heap) (hB:cX mg base [(jL,tT)]) => pA (P:=l.prog) (w:=w) (base:=base) (cu (st:=top 22) l6 c6 k6) (PySem.W.mg_of X G a6) T
 have i7:=fun (base:Heap) (hB:cX mg base [(jL,tT)]) => mU (P:=l.prog) (w:=w) (base:=base) (cu (st:=top 24) l7 c7 k7) (PySem.W.mg_of X G a7) T
 have ju:=fun (base:Heap) (hB:cX mg base [(jL,tT)]) => oO (P:=l.prog) (w:=w) (base:=base) (cu (st:=top 27) l8 c8 k8) (PySem.W.mg_of X G a8) T
 have hR:=fun (base:Heap) (hB:cX mg base [(jL,tT)]) => km (P:=l.prog) (w:=w) (base:=base) (cu (st:=top 28) l9 c9 k9) (PySem.W.mg_of X G a9) T
 have yt:=fun (base:Heap) (hB:cX mg base [(jL,tT)]) => vt (P:=l.prog) (w:=w) (base:=base) (cu (st:=top 8) Pl Pm Pn) (PySem.W.mg_of X G Pk) T (vE base hB) (kB base hB)
 have mZ:=fun (base:Heap) (hB:cX mg base [(jL,tT)]) => lx (P:=l.prog) (w:=w) (base:=base) (cu (st:=top 13) Pp Pq Pr) (PySem.W.mg_of X G Po) T (dP base hB)
 have ui:=fun (base:Heap) (hB:cX mg base [(jL,tT)]) => rK (P:=l.prog) (w:=w) (base:=base) (cu (st:=top 23) Pu Pw Px) (PySem.W.mg_of X G Pt) T (rV base hB)
 have iD:=fun (base:Heap) (hB:cX mg base [(jL,tT)]) => ly (P:=l.prog) (w:=w) (base:=base) (cu (st:=top 25) Pz PB PD) (PySem.W.mg_of X G Py) T (i7 base hB)
 have uj:=fun (base:Heap) (hB:cX mg base [(jL,tT)]) => rN (P:=l.prog) (w:=w) (base:=base) (cu (st:=top 26) PH PJ PL) (PySem.W.mg_of X G PF) T (kC base hB)
 have rW:=fun (base:Heap) (hB:cX mg base [(jL,tT)]) => pC (P:=l.prog) (w:=w) (base:=base) (cu (st:=top 29) PQ PR PU) (PySem.W.mg_of X G PN) T (i6 base hB) (ju base hB) (hR base hB)
 have rX:=fun (base:Heap) (hB:cX mg base [(jL,tT)]) => pD (P:=l.prog) (w:=w) (base:=base) (cu (st:=top 30) PX PY PZ) (PySem.W.mg_of X G PV) T (i7 base hB)
 have kD:=fun (base:Heap) (hB:cX mg base [(jL,tT)]) => pF (P:=l.prog) (w:=w) (base:=base) (cu (st:=top 9) P_ Qa Qb) (PySem.W.mg_of X G P0) T (yt base hB)
 have vF:=fun (base:Heap) (hB:cX mg base [(jL,tT)]) => ud (P:=l.prog) (w:=w) (base:=base) (cu (st:=top 11) Qd Qe Qf) (PySem.W.mg_of X G Qc) T (Dw T (dP base hB))
 have rY:=fun (base:Heap) (hB:cX mg base [(jL,tT)]) => pG (P:=l.prog) (w:=w) (base:=base) (cu (st:=top 31) Qh Qi Qj) (PySem.W.mg_of X G Qg) T (iD base hB)
 have kE:=fun (base:Heap) (hB:cX mg base [(jL,tT)]) => jK (P:=l.prog) (w:=w) (base:=base) ⟨zt,(hB _ (.head _)).1,(hB _ (.head _)).2.1,(hB _ (.head _)).2.2⟩ (cu (st:=top 16) KJ Qk Ql) JW (PySem.W.mg_of X G JW) T (dP base hB) (vF base hB)
 have DA:=fun (base:Heap) (hB:cX mg base [(jL,tT)]) => Bo (P:=l.prog) (w:=w) (base:=base) (cu (st:=top 17) Qn Qo Qp) (PySem.W.mg_of X G Qm) T (yr base hB) (mZ base hB) (kD base hB)
 have jn:=fun (base:Heap) (hB:cX mg base [(jL,tT)]) => iZ (P:=l.prog) (w:=w) (base:=base) (cu (st:=top 15) Qr Qs Qt) (PySem.W.mg_of X G Qq) T (dP base hB) (kE base hB)
 have DB:=fun (base:Heap) (hB:cX mg base [(jL,tT)]) => Bp (P:=l.prog) (w:=w) (base:=base) (cu (st:=top 14) Qv Qw Qx) (PySem.W.mg_of X G Qu) T (dP base hB) (kD base hB) (jn base hB)
 refine ⟨PySem.W.fnOf "law" "law" (aZ (top 32)) (aQ (top 32)) (ao (top 32)) .none JS JT JU JR GS JV,[(jL,tT)],.cons zr zt .nil,by simp,zn,fun s v => .of_eq rfl,fun base _ _ hB => ?_⟩
 exact GR (cu (st:=top 32) Qz QA QB) T (kC base hB) (i6 base hB) (ju base hB) (hR base hB) (ui base hB) (iD base hB) (uj base hB) (rW base hB) (rX base hB) (rY base hB) (DA base hB) (DB base hB)
end yn
open PySem PySem.W PyProof.Rows
set_option maxRecDepth 100000 in
set_option maxHeartbeats 0 in
theorem PySem.Challenge.cw_polyring_k08_value_and_slope_holds : PySem.Challenge.rw_polyring_k08_value_and_slope.Holds := by
 w_on; o_law; k_head; (case hw => w_witness2)
 k_fill
 refine MN.xN (f:=(PM.oE yn.M)) (cs:=[.tab yn.M.own yn.M.line yn.M.col yn.M.S.qual]) (l:=PySem.Challenge.rw_polyring_k08_value_and_slope) (k:=7) (x:="_law_script") rfl rfl ⟨rfl,by decide,by decide⟩ (yn.Bi yn.M rfl) (fun w h Y => PySem.W.km_in_of Y) ?F
 case F =>
  intro w mg fa h KX G HX
  refine' yn.all_mk KX G HX ?a0 ?l0 ?c0 ?k0 ?a1 ?l1 ?c1 ?k1 ?a2 ?l2 ?c2 ?k2 ?a3 ?l3 ?c3 ?k3 ?a4 ?l4 ?c4 ?k4 ?a5 ?l5 ?c5 ?k5 ?a6 ?l6 ?c6 ?k6 ?a7 ?l7 ?c7 ?k7 ?a8 ?l8 ?c8 ?k8 ?a9 ?l9 ?c9 ?k9 ?Pk ?Pl ?Pm ?Pn ?Po ?Pp ?Pq ?Pr ?Pt ?Pu ?Pw ?Px ?Py ?Pz ?PB ?PD ?PF ?PH ?PJ ?PL ?PN ?PQ ?PR ?PU ?PV ?PX ?PY ?PZ ?P0 ?P_ ?Qa ?Qb ?Qc ?Qd ?Qe ?Qf ?Qg ?Qh ?Qi ?Qj ?JW ?KJ ?Qk ?Ql ?Qm ?Qn ?Qo ?Qp ?Qq ?Qr ?Qs ?Qt ?Qu ?Qv ?Qw ?Qx ?Qy ?Qz ?QA ?QB ?vA ?rS ?vB ?gQ ?vC ?rT ?oR ?lM ?oS ?vD ?iu ?fR ?fS ?fT ?iB ?iC ?fU ?fV ?lN ?qC ?qD ?lO ?lQ ?zr ?zk ?zv ?zn
  (case a0 => k_is)
  (case l0 => k_is)
  (case c0 => k_is)
  (case k0 => k_is)
  (case a1 => k_is)
  (case l1 => k_is)
  (case c1 => k_is)
  (case k1 => k_is)
  (case a2 => k_is)
  (case l2 => k_is)
  (case c2 => k_is)
  (case k2 => k_is)
  (case a3 => k_is)
  (case l3 => k_is)
  (case c3 => k_is)
  (case k3 => k_is)
  (case a4 => k_is)
  (case l4 => k_is)
  (case c4 => k_is)
  (case k4 => k_is)
  (case a5 => k_is)
  (case l5 => k_is)
  (case c5 => k_is)
  (case k5 => k_is)
  (case a6 => k_is)
  (case l6 => k_is)
  (case c6 => k_is)
  (case k6 => k_is)
  (case a7 => k_is)
  (case l7 => k_is)
  (case c7 => k_is)
  (case k7 => k_is)
  (case a8 => k_is)
  (case l8 => k_is)
  (case c8 => k_is)
  (case k8 => k_is)
  (case a9 => k_is)
  (case l9 => k_is)
  (case c9 => k_is)
  (case k9 => k_is)
  (case Pk => k_is)
  (case Pl => k_is)
  (case Pm => k_is)
  (case Pn => k_is)
  (case Po => k_is)
  (case Pp => k_is)
  (case Pq => k_is)
  (case Pr => k_is)
  (case Pt => k_is)
  (case Pu => k_is)
  (case Pw => k_is)
  (case Px => k_is)
  (case Py => k_is)
  (case Pz => k_is)
  (case PB => k_is)
  (case PD => k_is)
  (case PF => k_is)
  (case PH => k_is)
  (case PJ => k_is)
  (case PL => k_is)
  (case PN => k_is)
  (case PQ => k_is)
  (case PR => k_is)
  (case PU => k_is)
  (case PV => k_is)
  (case PX => k_is)
  (case PY => k_is)
  (case PZ => k_is)
  (case P0 => k_is)
  (case P_ => k_is)
  (case Qa => k_is)
  (case Qb => k_is)
  (case Qc => k_is)
  (case Qd => k_is)
  (case Qe => k_is)
  (case Qf => k_is)
  (case Qg => k_is)
  (case Qh => k_is)
  (case Qi => k_is)
  (case Qj => k_is)
  (case JW => k_is)
  (case KJ => k_is)
  (case Qk => k_is)
  (case Ql => k_is)
  (case Qm => k_is)
  (case Qn => k_is)
  (case Qo => k_is)
  (case Qp => k_is)
  (case Qq => k_is)
  (case Qr => k_is)
  (case Qs => k_is)
  (case Qt => k_is)
  (case Qu => k_is)
  (case Qv => k_is)
  (case Qw => k_is)
  (case Qx => k_is)
  (case Qy => k_is)
  (case Qz => k_is)
  (case QA => k_is)
  (case QB => k_is)
  (case vA => k_is)
  (case rS => k_is)
  (case vB => k_is)
  (case gQ => k_is)
  (case vC => k_is)
  (case rT => k_is)
  (case oR => k_is)
  (case lM => k_is)
  (case oS => k_is)
  (case vD => k_is)
  (case iu => k_is)
  (case fR => k_is)
  (case fS => k_is)
  (case fT => k_is)
  (case iB => k_is)
  (case iC => k_is)
  (case fU => k_exc)
  (case fV => k_is)
  (case lN => k_is)
  (case qC => k_is)
  (case qD => k_is)
  (case lO => k_exc)
  (case lQ => k_is)
  (case zr => rfl)
  (case zk => k_is)
  (case zv => rfl)
  (case zn => first | k_is | kernel_rfl)
