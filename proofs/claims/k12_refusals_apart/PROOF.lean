import PyProof.Rows.All
import Wide.All
import OpenK.AllK
import Wide.FinOn
import Lean
import PyProof.EqAt
import PyProof.EqKinds
import PyProof.TupleCall
import PyProof.NeKinds
import PyProof.ZipIter
import PyProof.FitsBits
import KE.KRevIter
import KE.KStateDown
import PyProof.Rows.Range3
import PyProof.EnumFor
import PyProof.EnumMake
import PyProof.EnumStmt
import PyProof.Rows.SumAny
import PyProof.ListIndex
import PyProof.ListIndexNeg
import PyProof.WalkInts
import PyProof.Conv_int_bool
import PyProof.SumAny
import KE.KLam
import PyProof.Rows.FactsN_abs
import PyProof.ExcBaseAll.ValueError
import KE.KIsAll
import PyProof.ExcAttrAll.ValueError
import KE.KSortTup
import KE.KDictList
import PyProof.Rows.SortRuns
import KE.KDictOf
import PyProof.AttrMissHeap
import PyProof.DictRoadsH
import PyProof.Seq
import PyProof.ConsumeS
import KE.IntBitsLaws
import PyProof.DictWalks
import PyProof.DictItems
import KE.KPairComp
import PyProof.StrBlockG
import PyProof.StrWalks
import PyProof.Conv_int
import PyProof.Rows.FStr
import PyProof.Draws
import PyProof.TupleIter
import PySem.Challenge.RW_polyring_k12_refusals_apart
set_option Elab.async false
set_option linter.all false
set_option maxRecDepth 100000
set_option maxHeartbeats 4000000
set_option compiler.extract_closed false
set_option genSizeOf false
-- K': OY NV module here,as A? last of NW rows
namespace L2
open PySem PySem.Spec PyProof.Rows
noncomputable abbrev cI:=Sum Int Str
noncomputable def oj:cI → Value → Bool
 | .inl k,v => Value.isInt k v
 | .inr x,v => Value.isStrOf x v
noncomputable def La (w:World):cI → Int
 | .inl k => hashInt k
 | .inr x => hashStr w x
theorem cn:∀ {k:cI} {v:Value},oj k v = true → (∃ i t,k = Sum.inl i ∧ v = Value.int i t) ∨ (∃ x t,k = Sum.inr x ∧ v = Value.str x t)
 | .inl i,v,h => by
  obtain ⟨t,e⟩:=Value.isInt_shape (k:=i) (v:=v) h
  exact .inl ⟨i,t,rfl,e⟩
 | .inr x,v,h => by
  obtain ⟨t,e⟩:=Value.isStrOf_shape (x:=x) (v:=v) h
  exact .inr ⟨x,t,rfl,e⟩
theorem vz (i:Int) (t:Tok):oj (.inl i) (.int i t) = true:=by simp [oj,Value.isInt]
theorem vA (x:Str) (t:Tok):oj (.inr x) (.str x t) = true:=by simp [oj,Value.isStrOf]
theorem Er (a b:Int):decide ((Sum.inl a:cI) = Sum.inl b) = (a == b):=by
 by_cases e:a = b
 ·subst e; simp
 ·have h:¬ (Sum.inl a:cI) = Sum.inl b:=fun q => e (Sum.inl.inj q)
  rw [decide_eq_false h]
  exact (beq_eq_false_iff_ne.mpr e).symm
theorem Es (a b:Str):decide ((Sum.inr a:cI) = Sum.inr b) = decide (a = b):=by
 by_cases e:a = b
 ·subst e; simp
 ·have h:¬ (Sum.inr a:cI) = Sum.inr b:=fun q => e (Sum.inr.inj q)
  rw [decide_eq_false h,decide_eq_false e]
theorem Et (a:Int) (b:Str):decide ((Sum.inl a:cI) = Sum.inr b) = false:=decide_eq_false (fun q => nomatch q)
theorem Eu (a:Str) (b:Int):decide ((Sum.inr a:cI) = Sum.inl b) = false:=decide_eq_false (fun q => nomatch q)
noncomputable def cJ (prog:Program) (w:World):PySem.KeyKind prog w cI where
 is:=oj
 hash:=La w
 inj:=fun v a b ha hb => by
  rcases cn ha with ⟨i,t,rfl,rfl⟩ | ⟨x,t,rfl,rfl⟩
  ·rcases cn hb with ⟨j,u,rfl,e⟩ | ⟨y,u,rfl,e⟩
   ·injection e with e1 _; rw [e1]
   ·exact nomatch e
  ·rcases cn hb with ⟨j,u,rfl,e⟩ | ⟨y,u,rfl,e⟩
   ·exact nomatch e
   ·injection e with e1 _; rw [e1]
 byValue:=fun k v h => by
  rcases cn h with ⟨i,t,rfl,rfl⟩ | ⟨x,t,rfl,rfl⟩ <;> rfl
 pyHash:=fun hv h => by
  rcases cn hv with ⟨i,t,rfl,rfl⟩ | ⟨x,t,rfl,rfl⟩
  ·exact wpAny_pyHash_int h
  ·exact wpAny_pyHash_str h
 eqBool:=fun hu hv h => by
  rcases cn hu with ⟨i,t,rfl,rfl⟩ | ⟨x,t,rfl,rfl⟩
  ·rcases cn hv with ⟨j,u,rfl,rfl⟩ | ⟨y,u,rfl,rfl⟩
   ·rw [Er] at h; exact wpAny_eqBool_int h
   ·rw [Et] at h; exact SeqAt.EqAt.int_str i t y u _ _ _ _ h
  ·rcases cn hv with ⟨j,u,rfl,rfl⟩ | ⟨y,u,rfl,rfl⟩
   ·rw [Eu] at h; exact SeqAt.EqAt.str_int x t j u _ _ _ _ h
   ·rw [Es] at h; exact wpAny_eqBool_str h
 «strs»:=fun k x t v h => by
  rcases cn h with ⟨i,u,rfl,e⟩ | ⟨y,u,rfl,e⟩
  ·exact nomatch e
  ·injection e with e1 _
   subst e1
   cases v <;> rfl
theorem qc (prog:Program) (w:World) (i:Int) (t:Tok):(cJ prog w).is (.inl i) (.int i t) = true:=vz i t
theorem qd (prog:Program) (w:World) (x:Str) (t:Tok):(cJ prog w).is (.inr x) (.str x t) = true:=vA x t
end L2
namespace L2
open PySem PySem.Spec PyProof.Rows
inductive V where
 | cB | bl (b:Bool) | int (i:Int) | str (x:Str) | Lb (b:Array UInt8) | lF (b:UInt64) | ref (a:Addr) | ty (n:String)
 deriving DecidableEq
noncomputable def ba:V → Value → Prop
 | .cB,u => u = Value.none
 | .bl b,u => u = Value.bool b
 | .int i,u => ∃ t,u = Value.int i t
 | .str x,u => ∃ t,u = Value.str x t
 | .Lb b,u => ∃ t,u = Value.bytes b t
 | .lF b,u => ∃ t,u = Value.float b t
 | .ref a,u => u = Value.ref a
 | .ty n,u => u = Value.type n
noncomputable abbrev a7:List V → List Value → Prop:=Paired ba
theorem a7.length {xs:List V} {us:List Value} (r:a7 xs us):xs.length = us.length:=Paired.length r
theorem a7.get:∀ {xs:List V} {us:List Value} {i:Nat} {x:V},a7 xs us → xs[i]? = some x → ∃ u,us[i]? = some u ∧ ba x u
 | _,_,_,_,.nil,e => by simp at e
 | _,_,0,_,.cons r _,e => by simp at e; subst e; exact ⟨_,rfl,r⟩
 | _,_,i + 1,x,.cons _ t,e => by
  obtain ⟨u,h1,h2⟩:=a7.get (i:=i) (x:=x) t (by simpa using e)
  exact ⟨u,by simpa using h1,h2⟩
theorem a7.set {x:V} {u:Value} (r:ba x u):∀ {xs:List V} {us:List Value} (i:Nat),a7 xs us → a7 (xs.set i x) (us.set i u)
 | _,_,_,.nil => .nil
 | _,_,0,.cons _ t => .cons r t
 | _,_,i + 1,.cons q t => .cons q (a7.set r i t)
theorem a7.append:∀ {xs ys:List V} {us ws:List Value},a7 xs us → a7 ys ws → a7 (xs ++ ys) (us ++ ws)
 | _,_,_,_,.nil,s => s
 | _,_,_,_,.cons r t,s => .cons r (a7.append t s)
theorem a7.take:∀ {xs:List V} {us:List Value} (n:Nat),a7 xs us → a7 (xs.take n) (us.take n)
 | _,_,0,_ => .nil
 | _,_,_ + 1,.nil => .nil
 | _,_,n + 1,.cons r t => .cons r (a7.take n t)
theorem a7.drop:∀ {xs:List V} {us:List Value} (n:Nat),a7 xs us → a7 (xs.drop n) (us.drop n)
 | _,_,0,r => r
 | _,_,_ + 1,.nil => .nil
 | _,_,n + 1,.cons _ t => a7.drop n t
noncomputable def jE:Option V → Option Value → Prop
 | some v,some u => ba v u
 | none,none => True
 | _,_ => False
noncomputable def KV {κ:Type}:List (κ × V) → List (κ × Value) → Prop:=Paired fun (p:κ × V) (q:κ × Value) => p.1 = q.1 ∧ ba p.2 q.2
noncomputable def kV:cI → V
 | .inl i => .int i
 | .inr x => .str x
inductive HO where
  | lst (xs:List V)
  | tup (xs:List V)
  | dK (aH:List (cI × V)) | dT (aH:List (List cI × V))
  | set (S:Int → Bool) (n:Nat)
  | ins (C dx:Addr) (fs:List (Str × V))
  | own (x:Addr)
  | xd (fs:List (Str × V))
  | met (f x:Addr)
  | Kl (lo hi:Int)
  | iJ (o:Obj) (u:HO)
  | Ba (ps:Array Value)
  | ext (φ:Heap → Prop)
noncomputable abbrev Hp:=Addr → Option HO
noncomputable def upd (H:Hp) (a:Addr) (o:HO):Hp:=fun b => if b = a then some o else H b
theorem bT {H:Hp} {a:Addr} {o:HO}:upd H a o a = some o:=by unfold upd; rw [if_pos rfl]
theorem aV {H:Hp} {a b:Addr} {o:HO} (h:b ≠ a):upd H a o b = H b:=by unfold upd; rw [if_neg h]
theorem HX {H:Hp} {a b:Addr} {o u:HO} (h:H a = some o) (h':H b = some u) (d:o ≠ u):a ≠ b:=by
 intro e; subst e; rw [h] at h'; exact d (Option.some.inj h')
theorem aW {H:Hp} {a b:Addr} {o:HO} (h:H a = some o) (h':H b = none):a ≠ b:=by
 intro e; subst e; rw [h] at h'; cases h'
section
variable (P:Program) (w:World)
noncomputable def bU (H:Hp) (h:Heap) (a:Addr):HO → Prop
 | .lst xs => xs.length ≤ sizeLine ∧ ∃ (aA:List Value) (n:Nat),a7 xs aA ∧ h.get? a = some { cls:=.type "list",data:=.seq aA.toArray n }
 | .tup xs => xs.length ≤ sizeLine ∧ ∃ aA:List Value,a7 xs aA ∧ IsTup h a aA.toArray
 | .dK aH => aH.length ≤ sizeLine ∧ (a == sysModules) = false ∧ ∃ vs,KV aH vs ∧ h.DictOf (cJ P w) a vs
 | .dT aH => aH.length ≤ sizeLine ∧ (a == sysModules) = false ∧ ∃ xs:List (List cI × Addr × Value),
   Paired (fun (p:List cI × V) (q:List cI × Addr × Value) => p.1 = q.1 ∧ H q.2.1 = some (.tup (p.1.map kV)) ∧ ba p.2 q.2.2) aH xs ∧
   ∃ o es ep,h.get? a = some o ∧ o.ExactDict ∧ o.data = .dict es ep ∧ es.toList = xs.map (entryOfKey (tupleKind (cJ P w))) ∧ (xs.map (·.1)).Nodup
 | .set S n => h.SetOf (intKind P w) a S n
 | .ins C dx fs => H dx = some (.own a) ∧ fs.length ≤ 1000 ∧ dx ≠ a ∧ h.get? a = some (PySem.W.instObj C dx) ∧
   ∃ mA,h.Ns1 dx mA ∧ (∀ f,jE (fs.lookup f) (mA f)) ∧ PySem.Within mA (fs.map (·.1))
 | .own _ => ∃ o,h.get? a = some o
 | .xd fs => ∃ mA,h.Ns1 a mA ∧ ∀ f,jE (fs.lookup f) (mA f)
 | .Kl lo hi => ∃ t u v,h.get? a = some { cls:=.type "range",data:=.fields #[.int lo t,.int hi u,.int 1 v] }
 | .iJ o u => h.get? a = some o ∧ bU H h a u
 | .Ba ps => h.get? a = some { cls:=.none,data:=.fields ps }
 | .met f x => h.get? a = some (PySem.W.methodObj (.ref f) (.ref x))
 | .ext φ => φ h ∧ (∃ o,h.get? a = some o) ∧ ∀ h1 h2:Heap,φ h1 → (∀ o,h1.get? a = some o → h2.get? a = some o) → φ h2
noncomputable def f7 (H:Hp) (h:Heap):Prop:=∀ a o,H a = some o → bU P w H h a o
end
section
variable {P:Program} {w:World} {H H':Hp} {h h':Heap} {a:Addr} {o:HO}
theorem bU.lt (x:bU P w H h a o):a < h.objs.size:=by
 cases o with
 | lst xs => obtain ⟨_,_,_,_,e⟩:=x; exact Heap.lt_size e
 | tup xs => obtain ⟨_,_,_,p⟩:=x; exact p.lt
 | dK aH => obtain ⟨_,_,_,_,o,_,_,e,_⟩:=x; exact Heap.lt_size e
 | dT aH => obtain ⟨_,_,_,_,o,_,_,e,_⟩:=x; exact Heap.lt_size e
 | set S n => obtain ⟨o,_,_,_,e,_⟩:=x; exact Heap.lt_size e
 | ins C dx fs => obtain ⟨_,_,_,e,_⟩:=x; exact Heap.lt_size e
 | own y => obtain ⟨_,e⟩:=x; exact Heap.lt_size e
 | xd fs => obtain ⟨_,⟨_,_,_,e,_⟩,_⟩:=x; exact Heap.lt_size e
 | Kl lo hi => obtain ⟨_,_,_,e⟩:=x; exact Heap.lt_size e
 | iJ ob u => obtain ⟨e,_⟩:=x; exact Heap.lt_size e
 | Ba ps => exact Heap.lt_size (show h.get? a = some _ from x)
 | met f y => exact Heap.lt_size (show h.get? a = some _ from x)
 | ext φ => obtain ⟨_,⟨_,e⟩,_⟩:=x; exact Heap.lt_size e
theorem Paired.Ew {α β:Type} {F G:α → β → Prop}:∀ {l₁:List α} {l₂:List β},Paired F l₁ l₂ → (∀ a b,F a b → G a b) → Paired G l₁ l₂
 | _,_,.nil,_ => .nil
 | _,_,.cons r t,f => .cons (f _ _ r) (Paired.Ew t f)
theorem bU.jF (x:bU P w H h a o) (k:∀ b u,(b = a ∨ H b = some (.own a)) → h.get? b = some u → h'.get? b = some u)
  (ho:∀ b,H b = some (.own a) → H' b = some (.own a)) (ht:∀ b xs,H b = some (.tup xs) → H' b = some (.tup xs)):bU P w H' h' a o:=by
 induction o with
 | lst xs => obtain ⟨z,aA,n,r,e⟩:=x; exact ⟨z,aA,n,r,k _ _ (.inl rfl) e⟩
 | tup xs => obtain ⟨z,aA,r,ob,e,c⟩:=x; exact ⟨z,aA,r,ob,k _ _ (.inl rfl) e,c⟩
 | dK aH => obtain ⟨z,y,vs,r,ob,es,ep,e,c⟩:=x; exact ⟨z,y,vs,r,ob,es,ep,k _ _ (.inl rfl) e,c⟩
 | dT aH =>
  obtain ⟨z,y,xs,r,ob,es,ep,e,c⟩:=x
  exact ⟨z,y,xs,Paired.Ew r fun p q z => ⟨z.1,ht _ _ z.2.1,z.2.2⟩,ob,es,ep,k _ _ (.inl rfl) e,c⟩
 | set S n => obtain ⟨ob,es,ep,t,e,c⟩:=x; exact ⟨ob,es,ep,t,k _ _ (.inl rfl) e,c⟩
 | ins C dx fs =>
  obtain ⟨d,z,ne,e,mA,⟨od,es,ep,e2,c⟩,r⟩:=x
  exact ⟨ho _ d,z,ne,k _ _ (.inl rfl) e,mA,⟨od,es,ep,k _ _ (.inr d) e2,c⟩,r⟩
 | own y => obtain ⟨ob,e⟩:=x; exact ⟨ob,k _ _ (.inl rfl) e⟩
 | xd fs => obtain ⟨mA,⟨od,es,ep,e,c⟩,r⟩:=x; exact ⟨mA,⟨od,es,ep,k _ _ (.inl rfl) e,c⟩,r⟩
 | Kl lo hi => obtain ⟨t,u,v,e⟩:=x; exact ⟨t,u,v,k _ _ (.inl rfl) e⟩
 | iJ ob u ih => obtain ⟨e,q⟩:=x; exact ⟨k _ _ (.inl rfl) e,ih q⟩
 | Ba ps =>
  have e:h.get? a = some { cls:=.none,data:=.fields ps }:=x
  show h'.get? a = some { cls:=.none,data:=.fields ps }
  exact k a _ (.inl rfl) e
 | met f y =>
  have e:h.get? a = some (PySem.W.methodObj (.ref f) (.ref y)):=x
  show h'.get? a = some (PySem.W.methodObj (.ref f) (.ref y))
  exact k a _ (.inl rfl) e
 | ext φ => obtain ⟨p,⟨o,e⟩,st⟩:=x; exact ⟨st _ _ p fun o q => k _ _ (.inl rfl) q,⟨o,k _ _ (.inl rfl) e⟩,st⟩
theorem f7.lt (x:f7 P w H h) (e:H a = some o):a < h.objs.size:=(x a o e).lt
theorem f7.fresh (x:f7 P w H h) (e:h.objs.size ≤ a):H a = none:=by
 cases q:H a with
 | none => rfl
 | some u => exact absurd (Nat.lt_of_lt_of_le (x.lt q) e) (Nat.lt_irrefl _)
theorem f7.kept (x:f7 P w H h) (k:∀ b u,h.get? b = some u → h'.get? b = some u):f7 P w H h':=fun a o e =>
 (x a o e).jF (fun b u _ q => k b u q) (fun _ q => q) fun _ _ q => q
theorem f7.laid (x:f7 P w H h) (k:∀ b u,h.get? b = some u → h'.get? b = some u) (hp:h.objs.size ≤ a) (new:bU P w (upd H a o) h' a o):f7 P w (upd H a o) h':=fun b u e => by
 have hn:=x.fresh hp
 by_cases hb:b = a
 ·subst hb; rw [bT] at e; cases e; exact new
 ·rw [aV hb] at e
  exact (x b u e).jF (fun c v _ q => k c v q) (fun c q => by rw [aV (aW q hn)]; exact q) fun c xs q => by rw [aV (aW q hn)]; exact q
end
noncomputable def Rd (H:Hp) (a:Addr) (u:HO):Prop:=H a = some u ∨ ∃ o,H a = some (.iJ o u)
theorem Rd.ok {P:Program} {w:World} {H:Hp} {h:Heap} {a:Addr} {u:HO} (r:Rd H a u) (x:f7 P w H h):bU P w H h a u:=by
 rcases r with r | ⟨o,r⟩
 ·exact x a u r
 ·obtain ⟨_,q⟩:=x a _ r
  exact q
noncomputable def HY:Option HO → Prop
 | some (.lst _) => True
 | some (.dK _) => True
 | some (.dT _) => True
 | some (.set _ _) => True
 | some (.ins _ _ _) => True
 | some (.ext _) => True
 | _ => False
section
variable {P:Program} {w:World} {H:Hp} {h h':Heap} {x e:Addr} {o':HO}
theorem f7.write (ok:f7 P w H h) (mu:HY (H x)) (he:e = x ∨ H e = some (.own x)) (k:∀ b u,b ≠ e → h.get? b = some u → h'.get? b = some u) (HA:∃ u,h'.get? e = some u)
  (new:bU P w (upd H x o') h' x o'):f7 P w (upd H x o') h':=fun b u q => by
 have HZ:∀ c y,H c = some (.own y) → c ≠ x:=fun c y r z => by subst z; rw [r] at mu; exact mu
 have Lc:∀ c xs,H c = some (.tup xs) → c ≠ x:=fun c xs r z => by subst z; rw [r] at mu; exact mu
 by_cases hb:b = x
 ·subst hb; rw [bT] at q; cases q; exact new
 ·rw [aV hb] at q
  by_cases Ex:b = e
  ·have q':H b = some (.own x):=by
    rcases he with z | z
    ·exact absurd (Ex.trans z) hb
    ·rw [Ex]; exact z
   rw [q] at q'; cases q'
   obtain ⟨v,hv⟩:=HA
   exact ⟨v,by rw [Ex]; exact hv⟩
  ·refine (ok b u q).jF (fun c v hc r => k c v ?_ r) (fun c r => by rw [aV (HZ c b r)]; exact r) fun c xs r => by rw [aV (Lc c xs r)]; exact r
   rcases hc with rfl | hc
   ·exact Ex
   ·rintro rfl
    rcases he with z | z
    ·exact HZ c b hc z
    ·rw [hc] at z; cases z; exact hb rfl
end
structure Un (fs ex:List Addr) (H H':Hp) (h h':Heap):Prop where
 keep:∀ b o,h.get? b = some o → H b = none → b ∉ fs → b ∉ ex → h'.get? b = some o
 slot:∀ b o,h.get? b = some o → H b = none → b ∈ fs → b ∉ ex → ∃ sl,h'.get? b = some { o with slots:=sl }
 free:∀ b o,h.get? b = some o → H b = none → b ∉ ex → H' b = none
 there:∀ b o,h.get? b = some o → b ∉ ex → ∃ o',h'.get? b = some o'
 iL:∀ b xs,H b = some (.tup xs) → H' b = some (.tup xs)
 ik:∀ b o u,H b = some (.iJ o u) → H' b = some (.iJ o u)
 i_:∀ b ps,H b = some (.Ba ps) → ∃ more,H' b = some (.Ba (ps ++ more))
section
variable {fs OZ ex QJ:List Addr} {H H1 H2:Hp} {h h1 h2 h':Heap} {a x e:Addr} {o:HO}
theorem Un.any (u:Un fs ex H H1 h h1) {b:Addr} {ob:Obj} (q:h.get? b = some ob) (n:H b = none) (hx:b ∉ ex):∃ sl,h1.get? b = some { ob with slots:=sl }:=by
 by_cases hb:b ∈ fs
 ·exact u.slot b ob q n hb hx
 ·exact ⟨ob.slots,u.keep b ob q n hb hx⟩
theorem Un.kept (k:∀ b u,h.get? b = some u → h'.get? b = some u):Un fs ex H H h h' :=
 ⟨fun b ob q _ _ _ => k b ob q,fun b ob q _ _ _ => ⟨ob.slots,k b ob q⟩,fun _ _ _ n _ => n,fun b ob q _ => ⟨ob,k b ob q⟩,fun _ _ q => q,fun _ _ _ q => q,fun _ ps q => ⟨#[],by rw [q]; simp⟩⟩
theorem Un.refl:Un fs ex H H h h:=Un.kept fun _ _ q => q
theorem Un.laid (k:∀ b u,h.get? b = some u → h'.get? b = some u) (hp:h.objs.size ≤ a) (hn:H a = none):Un fs ex H (upd H a o) h h' where
 keep:=fun b u q _ _ _ => k b u q
 slot:=fun b u q _ _ _ => ⟨u.slots,k b u q⟩
 free:=fun b u q n _ => by rw [aV (Nat.ne_of_lt (Nat.lt_of_lt_of_le (Heap.lt_size q) hp))]; exact n
 there:=fun b u q _ => ⟨u,k b u q⟩
 iL:=fun b xs q => by rw [aV (aW q hn)]; exact q
 ik:=fun b u xs q => by rw [aV (aW q hn)]; exact q
 i_:=fun b ps q => ⟨#[],by rw [aV (aW q hn),q]; simp⟩
theorem Un.write (mu:HY (H x)) (he:e = x ∨ H e = some (.own x)) (k:∀ b u,b ≠ e → h.get? b = some u → h'.get? b = some u) (HA:∃ u,h'.get? e = some u):Un fs ex H (upd H x o) h h':=by
 have hx:∀ b,H b = none → b ≠ x:=fun b n z => by subst z; rw [n] at mu; exact mu
 have hb:∀ b,H b = none → b ≠ e:=fun b n z => by
  subst z
  rcases he with r | r
  ·exact hx b n r
  ·rw [n] at r; cases r
 have hm:∀ b u,H b = some u → ¬ HY (some u) → b ≠ x:=fun b u q nm z => by subst z; rw [q] at mu; exact nm mu
 refine ⟨fun b u q n _ _ => k b u (hb b n) q,fun b u q n _ _ => ⟨u.slots,k b u (hb b n) q⟩,fun b u q n _ => by rw [aV (hx b n)]; exact n,fun b u q _ => ?_,
  fun b xs q => by rw [aV (hm b _ q fun z => z)]; exact q,fun b u xs q => by rw [aV (hm b _ q fun z => z)]; exact q,fun b ps q => ⟨#[],by rw [aV (hm b _ q fun z => z),q]; simp⟩⟩
 by_cases Ex:b = e
 ·subst Ex; exact HA
 ·exact ⟨u,k b u Ex q⟩
end
noncomputable def qe (h:Heap) (H:Hp):List Addr:=(List.range h.objs.size).filter fun a => (H a).isSome
noncomputable def oW (h:Heap) (H:Hp):Heap:=PySem.W.hideAll h (qe h H)
theorem vB (h:Heap) (H:Hp):(oW h H).objs.size = h.objs.size:=PySem.W.hideAll_size _ _
theorem xS {h:Heap} {H:Hp} {b:Addr} {o:Obj} (e:h.get? b = some o) (n:H b = none):(oW h H).get? b = some o :=
 PySem.W.hideAll_get _ e fun hm => by
  have q:(H b).isSome = true:=(List.mem_filter.mp hm).2
  rw [n] at q; simp at q
theorem Bl {h:Heap} {H:Hp} {b:Addr} {o:Obj} (e:(oW h H).get? b = some o):h.get? b = some o ∧ H b = none:=by
 have e':h.get? b = some o:=PySem.W.of_hideAll (qe h H) e
 refine ⟨e',?_⟩
 cases q:H b with
 | none => rfl
 | some x =>
  have hm:b ∈ qe h H:=List.mem_filter.mpr ⟨List.mem_range.mpr (Heap.lt_size e'),by simp [q]⟩
  have z:(oW h H).get? b = none:=PySem.W.hideAll_none (qe h H) hm
  rw [z] at e; cases e
end L2
namespace L2
open PySem PySem.Spec PyProof.Rows
structure Mod (K:PySem.W.Frag) (mg:Str → Option Value) (base:Heap):Prop where
 DQ:K.In base
 glob:base.Ns mainGlobals mg
 blt:∃ mb,base.Ns builtinsNs mb ∧ ∀ x:Str,x ≠ "__name__" → mb x = bootBuiltins x
 nolimit:base.NoLimit
structure Cx where
 prog:Program
 w:World
 K:PySem.W.Frag
 mg:Str → Option Value
 base:Heap
 A:Around
 N:List Str
 s₀:Shared
 H₀:Hp
 env:Env
 outer:List Env
 stack:List Env
 ex:List Addr
 fn:Str → Bool
 calm:Bool
 pn:List (Addr × Obj)
 xe:Value → Shared → Prop
noncomputable def eM (l:List Env):List Addr:=l.filterMap (·.frame)
noncomputable abbrev Cx.fs (X:Cx):List Addr:=eM X.outer
noncomputable def Ey (sc:Scope) (x:Str):Prop:=sc.names.lookup x = some .local ∨ sc.names.lookup x = some .cell ∨ sc.names.lookup x = some .free
noncomputable def Loc (sc:Scope) (x:Str):Prop:=sc.names.lookup x = some .local ∨ sc.names.lookup x = some .cell
noncomputable def Look (env:Env) (h:Heap) (m:Str → Option Value) (x:Str) (u:Value):Prop :=
 (env.kindOf x = some .local ∧ m x = some u) ∨ ((env.kindOf x = some .cell ∨ env.kindOf x = some .free) ∧ ∃ c,env.cells.lookup x = some c ∧ h.IsCell c (some u))
structure Cx.Ok (X:Cx):Prop where
 mod:Mod X.K X.mg X.base
 kind:X.env.scope.kind = .function
 glob:X.env.globals = mainGlobals
 blt:X.env.builtins = builtinsNs
 above:X.s₀.heap.objs.size ≤ X.env.locals
 inj:∀ x y c,X.env.cells.lookup x = some c → X.env.cells.lookup y = some c → x = y
 has:∀ x,(X.env.kindOf x = some .cell ∨ X.env.kindOf x = some .free) → ∃ c,X.env.cells.lookup x = some c
 DR:∀ x c,X.fn x = true → X.env.cells.lookup x = some c → X.s₀.heap.objs.size ≤ c
 hd:X.calm = true → X.A.handled = none
 frames:X.A.frames = some X.stack
 Bb:X.stack = X.outer ∨ (X.stack = X.env :: X.outer ∧ X.env.frame = some X.env.locals)
 Km:∀ b ∈ X.ex,b ≠ X.env.locals ∧ ∀ x c,X.env.cells.lookup x = some c → c ≠ b
 bs:∀ b o,X.base.get? b = some o → X.s₀.heap.get? b = some o ∧ X.H₀ b = none
 Bc:X.base.objs.size ≤ X.s₀.heap.objs.size
 qf:∀ b o,X.base.get? b = some o → b ∉ X.ex
 vC:∀ b ∈ X.ex,b ∉ X.fs
 gF:X.s₀.heap.FunFrames X.base X.outer
 xM:∀ b ∈ X.fs,X.H₀ b = none
structure aG (X:Cx) (ae:List (Addr × Obj)) (σ:List (Option V)) (H:Hp) (s:Shared):Prop where
 ok:X.Ok
 os:s.os = X.s₀.os
 bare:AllBare s.gens
 base:Un X.fs X.ex X.H₀ H X.s₀.heap s.heap
 loc:∃ m,s.heap.Ns X.env.locals m ∧ ∀ (i:Nat) (x:Str) (v:V),X.N[i]? = some x → σ[i]? = some (some v) → Ey X.env.scope x → ∃ u,ba v u ∧ Look X.env s.heap m x u
 cell:∀ x c,X.env.cells.lookup x = some c → ∃ v,s.heap.IsCell c v
 free:H X.env.locals = none
 eZ:∀ x c,X.env.cells.lookup x = some c → H c = none
 pin:∀ p ∈ X.pn ++ ae,s.heap.get? p.1 = some p.2 ∧ H p.1 = none ∧ p.1 ≠ X.env.locals ∧ p.1 ∉ X.fs ∧ ∀ v,p.2.data ≠ .cell v
 bI:f7 X.prog X.w H s.heap
 len:σ.length = X.N.length
section
variable {X:Cx} {ae:List (Addr × Obj)} {σ:List (Option V)} {H H':Hp} {s:Shared} {h':Heap}
theorem Cx.Ok.Ld (ok:X.Ok) {b:Addr} {o:Obj} (e:X.base.get? b = some o):b ∉ X.fs:=fun hb => by
 have:=(ok.gF.mem hb).1
 rw [e] at this; cases this
theorem aG.bs (I:aG X ae σ H s):∀ b o,X.base.get? b = some o → s.heap.get? b = some o ∧ H b = none:=fun b o e =>
 ⟨I.base.keep b o (I.ok.bs b o e).1 (I.ok.bs b o e).2 (I.ok.Ld e) (I.ok.qf b o e),I.base.free b o (I.ok.bs b o e).1 (I.ok.bs b o e).2 (I.ok.qf b o e)⟩
theorem aG.bk (I:aG X ae σ H s):∀ b o,X.base.get? b = some o → s.heap.get? b = some o:=fun b o e => (I.bs b o e).1
theorem aG.mod (I:aG X ae σ H s):Mod X.K X.mg X.base:=I.ok.mod
theorem aG.lG (I:aG X ae σ H s):X.K.In s.heap:=I.ok.mod.DQ.keeps I.bk
theorem aG.lt (I:aG X ae σ H s):X.env.locals < s.heap.objs.size:=let ⟨_,hn,_⟩:=I.loc; hn.lt
theorem aG.sz (I:aG X ae σ H s):X.s₀.heap.objs.size ≤ s.heap.objs.size:=Nat.le_trans I.ok.above (Nat.le_of_lt I.lt)
theorem aG.Le (I:aG X ae σ H s) {a:Addr} (h:s.heap.objs.size ≤ a):a ∉ X.fs:=fun hb => by
 obtain ⟨_,o,ho,_⟩:=I.ok.gF.mem hb
 exact absurd (Nat.lt_of_lt_of_le (Heap.lt_size ho) (Nat.le_trans I.sz h)) (Nat.lt_irrefl _)
theorem aG.Bd (I:aG X ae σ H s):∀ x c,X.env.cells.lookup x = some c → c ≠ X.env.locals:=fun x c e z => by
 obtain ⟨v,o,ho,hd⟩:=I.cell x c e
 obtain ⟨m,⟨o',es,ep,lH,HB,_⟩,_⟩:=I.loc
 rw [z,lH] at ho; cases ho; rw [HB] at hd; cases hd
theorem aG.gF (I:aG X ae σ H s):s.heap.FunFrames X.base X.outer:=by
 have all:∀ (l:List Env),(∀ b ∈ eM l,b ∈ X.fs) → X.s₀.heap.FunFrames X.base l → s.heap.FunFrames X.base l:=by
  intro l
  induction l with
  | nil => intro _ _; trivial
  | cons env r ih =>
   intro hs hl
   obtain ⟨hk,⟨L,o,hf,hn,ho,hd⟩,hr⟩:=hl
   have hL:L ∈ X.fs:=hs L (by unfold eM; rw [List.filterMap_cons,hf]; exact List.mem_cons_self)
   obtain ⟨sl,e⟩:=I.base.slot L o ho (I.ok.xM L hL) hL fun z => I.ok.vC L z hL
   exact ⟨hk,⟨L,_,hf,hn,e,hd⟩,ih (fun b hb => hs b (by unfold eM; rw [List.filterMap_cons,hf]; exact List.mem_cons_of_mem _ hb)) hr⟩
 exact all X.outer (fun _ hb => hb) I.ok.gF
theorem aG.stack (I:aG X ae σ H s):s.heap.FunFrames X.base X.stack:=by
 rcases I.ok.Bb with e | ⟨e,hf⟩
 ·rw [e]; exact I.gF
 ·rw [e]
  obtain ⟨m,hn,_⟩:=I.loc
  refine .cons (by rw [I.ok.kind]; decide) hf hn ?_ I.gF
  exact Heap.get?_none_of_le (Nat.le_trans I.ok.Bc I.ok.above)
theorem aG.jG (I:aG X ae σ H s):∀ b ∈ eM X.stack,b ∈ X.env.locals :: X.fs:=fun b hb => by
 rcases I.ok.Bb with e | ⟨e,hf⟩
 ·rw [e] at hb; exact List.mem_cons_of_mem _ hb
 ·rw [e] at hb
  unfold eM at hb
  rw [List.filterMap_cons,hf] at hb
  exact hb
theorem aG.oX (I:aG X ae σ H s):∀ b ∈ eM X.stack,H b = none:=fun b hb => by
 rcases List.mem_cons.mp (I.jG b hb) with e | hb
 ·rw [e]; exact I.free
 ·obtain ⟨_,o,ho,_⟩:=I.ok.gF.mem hb
  exact I.base.free b o ho (I.ok.xM b hb) fun z => I.ok.vC b z hb
theorem aG.step {g':Array GenState} {t':Nat} {d':Drawn} {ch:List Addr} (I:aG X ae σ H s)
  (Be:∀ b ∈ ch,(b ∈ X.ex ∨ X.s₀.heap.objs.size ≤ b) ∧ b ≠ X.env.locals ∧ (∀ x c,X.env.cells.lookup x = some c → c ≠ b) ∧ ∀ p ∈ X.pn ++ ae,p.1 ≠ b)
  (keep:∀ b o,b ≠ X.env.locals → b ∉ X.fs → b ∉ ch → s.heap.get? b = some o → H b = none → h'.get? b = some o)
  (slot:∀ b o,b ≠ X.env.locals → b ∈ X.fs → b ∉ ch → s.heap.get? b = some o → H b = none → ∃ sl,h'.get? b = some { o with slots:=sl }) (free:∀ b o,b ∉ ch → s.heap.get? b = some o → H b = none → H' b = none)
  (there:∀ b o,b ∉ ch → s.heap.get? b = some o → ∃ o',h'.get? b = some o')
  (iL:∀ b xs,H b = some (.tup xs) → H' b = some (.tup xs)) (ik:∀ b o u,H b = some (.iJ o u) → H' b = some (.iJ o u)) (i_:∀ b ps,H b = some (.Ba ps) → ∃ more,H' b = some (.Ba (ps ++ more)))
  (ns:∀ m,s.heap.Ns X.env.locals m → h'.Ns X.env.locals m) (bI:f7 X.prog X.w H' h') (hg:AllBare g') :
  aG X ae σ H' { s with heap:=h',gens:=g',drawn:=d',toks:=t' }:=by
 have xT:∀ b o,X.s₀.heap.get? b = some o → b ≠ X.env.locals:=fun b o e => Nat.ne_of_lt (Nat.lt_of_lt_of_le (Heap.lt_size e) I.ok.above)
 have Kn:∀ b o,X.s₀.heap.get? b = some o → b ∉ X.ex → b ∉ ch:=fun b o e hx hb => by
  rcases (Be b hb).1 with z | z
  ·exact hx z
  ·exact absurd (Nat.lt_of_lt_of_le (Heap.lt_size e) z) (Nat.lt_irrefl _)
 have cellK:∀ x c,X.env.cells.lookup x = some c → ∀ v,s.heap.IsCell c v → h'.IsCell c v:=fun x c e v ⟨o,ho,hd⟩ => by
  have H9:c ∉ ch:=fun z => (Be c z).2.2.1 x c e rfl
  by_cases hc:c ∈ X.fs
  ·obtain ⟨sl,q⟩:=slot c o (I.Bd x c e) hc H9 ho (I.eZ x c e)
   exact ⟨_,q,hd⟩
  ·exact ⟨o,keep c o (I.Bd x c e) hc H9 ho (I.eZ x c e),hd⟩
 refine ⟨I.ok,I.os,hg,⟨fun b o e n hb hx => ?_,fun b o e n hb hx => ?_,fun b o e n hx => ?_,fun b o e hx => ?_,fun b xs e => iL b xs (I.base.iL b xs e),fun b o xs e => ik b o xs (I.base.ik b o xs e),fun b ps e => ?_⟩,?_,fun x c e => ?_,?_,fun x c e => ?_,fun p hp => ?_,bI,I.len⟩
 ·exact keep b o (xT b o e) hb (Kn b o e hx) (I.base.keep b o e n hb hx) (I.base.free b o e n hx)
 ·obtain ⟨sl,e1⟩:=I.base.slot b o e n hb hx
  obtain ⟨DS,e2⟩:=slot b _ (xT b o e) hb (Kn b o e hx) e1 (I.base.free b o e n hx)
  exact ⟨DS,e2⟩
 ·obtain ⟨o',e1⟩:=I.base.there b o e hx
  exact free b o' (Kn b o e hx) e1 (I.base.free b o e n hx)
 ·obtain ⟨o',e1⟩:=I.base.there b o e hx
  exact there b o' (Kn b o e hx) e1
 ·obtain ⟨m1,e1⟩:=I.base.i_ b ps e
  obtain ⟨m2,e2⟩:=i_ b _ e1
  exact ⟨m1 ++ m2,by rw [e2,Array.append_assoc]⟩
 ·obtain ⟨m,hn,hl⟩:=I.loc
  refine ⟨m,ns m hn,fun i x v e1 e2 e3 => ?_⟩
  obtain ⟨u,r,l⟩:=hl i x v e1 e2 e3
  refine ⟨u,r,?_⟩
  rcases l with l | ⟨k,c,e,z⟩
  ·exact .inl l
  ·exact .inr ⟨k,c,e,cellK x c e _ z⟩
 ·obtain ⟨v,z⟩:=I.cell x c e
  exact ⟨v,cellK x c e v z⟩
 ·obtain ⟨m,⟨o,_,_,ho,_⟩,_⟩:=I.loc
  exact free _ o (fun z => (Be _ z).2.1 rfl) ho I.free
 ·obtain ⟨v,o,ho,hd⟩:=I.cell x c e
  exact free c o (fun z => (Be c z).2.2.1 x c e rfl) ho (I.eZ x c e)
 ·obtain ⟨e,n,ne,nf,d⟩:=I.pin p hp
  have H9:p.1 ∉ ch:=fun z => (Be p.1 z).2.2.2 p hp rfl
  exact ⟨keep p.1 p.2 ne nf H9 e n,free p.1 p.2 H9 e n,ne,nf,d⟩
theorem aG.un {t':Nat} (I:aG X ae σ H s) (u:Un X.fs [] H H' s.heap h') (bI:f7 X.prog X.w H' h'):aG X ae σ H' { s with heap:=h',toks:=t' }:=by
 obtain ⟨m,⟨o,es,ep,ho,r⟩,_⟩:=id I.loc
 obtain ⟨sl,hL⟩:=u.any ho I.free (by simp)
 exact I.step (g':=s.gens) (d':=s.drawn) (ch:=[]) (fun _ z => nomatch z) (fun b o _ hb _ e n => u.keep b o e n hb (by simp)) (fun b o _ hb _ e n => u.slot b o e n hb (by simp)) (fun b o _ e n => u.free b o e n (by simp)) (fun b o _ e => u.there b o e (by simp)) u.iL u.ik u.i_ (fun m' hm => by
  obtain ⟨o',Lf,Lg,lH,r'⟩:=hm
  rw [ho] at lH; cases lH
  exact ⟨_,Lf,Lg,hL,r'⟩) bI I.bare
theorem aG.call {g':Array GenState} {t':Nat} {d':Drawn} {ch:List Addr} (I:aG X ae σ H s) (u:Un (eM X.stack) ch H H' s.heap h') (bI:f7 X.prog X.w H' h') (hg:AllBare g')
  (Be:∀ b ∈ ch,(b ∈ X.ex ∨ X.s₀.heap.objs.size ≤ b) ∧ b ≠ X.env.locals ∧ (∀ x c,X.env.cells.lookup x = some c → c ≠ b) ∧ ∀ p ∈ X.pn ++ ae,p.1 ≠ b) :
  aG X ae σ H' { s with heap:=h',gens:=g',drawn:=d',toks:=t' }:=by
 obtain ⟨m,⟨o,es,ep,ho,r⟩,_⟩:=id I.loc
 obtain ⟨sl,hL⟩:=u.any ho I.free fun z => (Be _ z).2.1 rfl
 exact I.step (ch:=ch) Be (fun b o hL hb hc e n => u.keep b o e n (fun z => (List.mem_cons.mp (I.jG b z)).elim hL hb) hc) (fun b o _ _ hc e n => u.any e n hc) (fun b o hc e n => u.free b o e n hc) (fun b o hc e => u.there b o e hc) u.iL u.ik u.i_ (fun m' hm => by
  obtain ⟨o',Lf,Lg,lH,r'⟩:=hm
  rw [ho] at lH; cases lH
  exact ⟨_,Lf,Lg,hL,r'⟩) bI hg
theorem aG.turned {t':Nat} {it:Addr} (I:aG X ae σ H s) (k:∀ b o,b ≠ it → s.heap.get? b = some o → h'.get? b = some o) (hn:H it = none) (hL:it ≠ X.env.locals)
  (h1:it ∈ X.ex ∨ X.s₀.heap.objs.size ≤ it) (h2:∀ x c,X.env.cells.lookup x = some c → c ≠ it) (h3:∀ p ∈ X.pn ++ ae,p.1 ≠ it):aG X ae σ H { s with heap:=h',toks:=t' }:=by
 have NX:∀ b u,H b = some u → b ≠ it:=fun b u e z => by rw [z,hn] at e; cases e
 refine I.step (g':=s.gens) (d':=s.drawn) (ch:=[it]) (fun b hb => ?_) (fun b o _ _ hc e _ => k b o (fun z => hc (by simp [z])) e) (fun b o _ _ hc e _ => ⟨o.slots,k b o (fun z => hc (by simp [z])) e⟩) (fun _ _ _ _ n => n)
  (fun b o hc e => ⟨o,k b o (fun z => hc (by simp [z])) e⟩) (fun _ _ e => e) (fun _ _ _ e => e) (fun b ps e => ⟨#[],by rw [e]; simp⟩) (fun m hm => ?_) (fun b u e => ?_) I.bare
 ·have e:b = it:=by simpa using hb
  subst e
  exact ⟨h1,hL,h2,h3⟩
 ·obtain ⟨o,es,ep,ho,r⟩:=hm
  exact ⟨o,es,ep,k _ o (Ne.symm hL) ho,r⟩
 ·refine (I.bI b u e).jF (fun c v hc q => k c v ?_ q) (fun _ q => q) fun _ _ q => q
  rcases hc with z | z
  ·rw [z]; exact NX b u e
  ·exact NX c _ z
theorem aG.tok (I:aG X ae σ H s) (t:Nat):aG X ae σ H { s with toks:=t }:=I.un (h':=s.heap) (t':=t) Un.refl I.bI
theorem aG.kept {t':Nat} (I:aG X ae σ H s) (k:∀ b u,s.heap.get? b = some u → h'.get? b = some u):aG X ae σ H { s with heap:=h',toks:=t' }:=I.un (Un.kept k) (I.bI.kept k)
theorem aG.laid {a:Addr} {o:HO} {t':Nat} (I:aG X ae σ H s) (k:∀ b u,s.heap.get? b = some u → h'.get? b = some u) (hp:s.heap.objs.size ≤ a) (new:bU X.prog X.w (upd H a o) h' a o) :
  aG X ae σ (upd H a o) { s with heap:=h',toks:=t' }:=I.un (Un.laid k hp (I.bI.fresh hp)) (I.bI.laid k hp new)
theorem aG.write {x e:Addr} {o:HO} {t':Nat} (I:aG X ae σ H s) (mu:HY (H x)) (he:e = x ∨ H e = some (.own x)) (k:∀ b u,b ≠ e → s.heap.get? b = some u → h'.get? b = some u) (HA:∃ u,h'.get? e = some u)
  (new:bU X.prog X.w (upd H x o) h' x o):aG X ae σ (upd H x o) { s with heap:=h',toks:=t' }:=I.un (Un.write mu he k HA) (I.bI.write mu he k HA new)
theorem aG.lI {DT:List (Addr × Obj)} (I:aG X ae σ H s) (h:∀ p ∈ DT,s.heap.get? p.1 = some p.2 ∧ H p.1 = none ∧ p.1 ≠ X.env.locals ∧ p.1 ∉ X.fs ∧ ∀ v,p.2.data ≠ .cell v):aG X DT σ H s :=
 ⟨I.ok,I.os,I.bare,I.base,I.loc,I.cell,I.free,I.eZ,fun p hp => (List.mem_append.mp hp).elim (fun z => I.pin p (List.mem_append_left _ z)) (h p),I.bI,I.len⟩
theorem lR {N:List Str} (hN:N.Nodup) {i j:Nat} {x:Str} (a:N[i]? = some x) (b:N[j]? = some x):i = j:=by
 obtain ⟨h1,e1⟩:=List.getElem?_eq_some_iff.mp a
 obtain ⟨h2,e2⟩:=List.getElem?_eq_some_iff.mp b
 exact (List.getElem_inj hN).mp (e1.trans e2.symm)
theorem jH {M:Model} {A:Around} {E:Value → Shared → Prop} {i:Nat} {x:Str} {v:V} {u:Value} {Q:Unit → Shared → Prop} (I:aG X ae σ H s) (hN:X.N.Nodup) (hi:X.N[i]? = some x) (hx:Loc X.env.scope x) (r:ba v u)
  (h:∀ s',aG X ae (σ.set i (some v)) H s' → (∃ a,Heap.SameBut a s.heap s'.heap ∧ (a = X.env.locals ∨ X.env.cells.lookup x = some a)) → Q () s') (hf:X.fn x = true ∨ X.env.scope.names.lookup x = some .local:=by first | exact .inl rfl | exact .inr rfl | assumption):wpAny M A (storeName X.env x u) Q E s:=by
 obtain ⟨m,hn,hl⟩:=id I.loc
 have xU:(X.env.scope.kind == .class || (X.env.scope.kind == .module && X.env.locals != X.env.globals)) = false:=by rw [I.ok.kind]; rfl
 have H_:i < σ.length:=by rw [I.len]; exact (List.getElem?_eq_some_iff.mp hi).1
 have Bd:=I.Bd
 have tracked:∀ {a:Addr} {h':Heap},(∃ o,s.heap.get? a = some o ∧ H a = none) → Heap.SameBut a s.heap h' → f7 X.prog X.w H h':=fun {a h'} ha hs b ob e => by
  obtain ⟨_,_,uw⟩:=ha
  refine (I.bI b ob e).jF (fun c w' hc q => (hs.2 c ?_).trans q) (fun _ q => q) fun _ _ q => q
  rintro rfl
  rcases hc with rfl | hc
  ·rw [uw] at e; cases e
  ·rw [uw] at hc; cases hc
 rcases hx with hk | hk
 ·refine wpAny_storeName_local hk hn (fun h' HC hs => ?_) xU
  obtain ⟨oL,_,_,O0,_⟩:=id hn
  refine h _ ⟨I.ok,I.os,I.bare,⟨fun b o e n hb hx => ?_,fun b o e n hb hx => ?_,I.base.free,fun b o e hx => ?_,I.base.iL,I.base.ik,I.base.i_⟩,⟨_,HC,fun j y v' e1 e2 e3 => ?_⟩,fun y c e => ?_,I.free,I.eZ,fun p hp => ?_,tracked ⟨oL,O0,I.free⟩ hs,by simpa using I.len⟩ ⟨_,hs,.inl rfl⟩
  ·exact (hs.2 b (Nat.ne_of_lt (Nat.lt_of_lt_of_le (Heap.lt_size e) I.ok.above))).trans (I.base.keep b o e n hb hx)
  ·obtain ⟨sl,e1⟩:=I.base.slot b o e n hb hx
   exact ⟨sl,(hs.2 b (Nat.ne_of_lt (Nat.lt_of_lt_of_le (Heap.lt_size e) I.ok.above))).trans e1⟩
  ·obtain ⟨o',e1⟩:=I.base.there b o e hx
   exact ⟨o',(hs.2 b (Nat.ne_of_lt (Nat.lt_of_lt_of_le (Heap.lt_size e) I.ok.above))).trans e1⟩
  ·by_cases hj:j = i
   ·subst hj
    rw [hi] at e1; cases e1
    rw [List.getElem?_set_self H_] at e2
    cases e2
    exact ⟨u,r,.inl ⟨hk,by simp⟩⟩
   ·rw [List.getElem?_set_ne (Ne.symm hj)] at e2
    obtain ⟨u',r',q⟩:=hl j y v' e1 e2 e3
    refine ⟨u',r',?_⟩
    rcases q with ⟨k,e⟩ | ⟨k,c,e,z⟩
    ·refine .inl ⟨k,?_⟩
     have:y ≠ x:=fun e => hj (lR hN e1 (e ▸ hi))
     simp [this,e]
    ·exact .inr ⟨k,c,e,z.sameBut hs (Bd y c e)⟩
  ·obtain ⟨w',z⟩:=I.cell y c e
   exact ⟨w',z.sameBut hs (Bd y c e)⟩
  ·obtain ⟨e,n,ne,nf,d⟩:=I.pin p hp
   exact ⟨(hs.2 p.1 ne).trans e,n,ne,nf,d⟩
 ·have xV:X.fn x = true:=by
   rcases hf with z | z
   ·exact z
   ·rw [z] at hk; cases hk
  obtain ⟨c,hc⟩:=I.ok.has x (.inl hk)
  obtain ⟨w',z⟩:=I.cell x c hc
  refine wpAny_storeName_cell I.ok.kind hk hc z (fun h' cz hs => ?_)
  obtain ⟨oc,NY,Lh⟩:=id z
  refine h { s with heap:=h' } ⟨I.ok,I.os,I.bare,⟨fun b o e n hb hx => ?_,fun b o e n hb hx => ?_,I.base.free,fun b o e hx => ?_,I.base.iL,I.base.ik,I.base.i_⟩,⟨m,hn.sameBut hs (Ne.symm (Bd x c hc)),fun j y v' e1 e2 e3 => ?_⟩,fun y c' e => ?_,I.free,I.eZ,fun p hp => ?_,tracked ⟨oc,NY,I.eZ x c hc⟩ hs,by simpa using I.len⟩ ⟨c,hs,.inr hc⟩
  ·exact (hs.2 b (Nat.ne_of_lt (Nat.lt_of_lt_of_le (Heap.lt_size e) (I.ok.DR x c xV hc)))).trans (I.base.keep b o e n hb hx)
  ·obtain ⟨sl,e1⟩:=I.base.slot b o e n hb hx
   exact ⟨sl,(hs.2 b (Nat.ne_of_lt (Nat.lt_of_lt_of_le (Heap.lt_size e) (I.ok.DR x c xV hc)))).trans e1⟩
  ·obtain ⟨o',e1⟩:=I.base.there b o e hx
   exact ⟨o',(hs.2 b (Nat.ne_of_lt (Nat.lt_of_lt_of_le (Heap.lt_size e) (I.ok.DR x c xV hc)))).trans e1⟩
  ·by_cases hj:j = i
   ·subst hj
    rw [hi] at e1; cases e1
    rw [List.getElem?_set_self H_] at e2
    cases e2
    exact ⟨u,r,.inr ⟨.inl hk,c,hc,cz⟩⟩
   ·rw [List.getElem?_set_ne (Ne.symm hj)] at e2
    obtain ⟨u',r',q⟩:=hl j y v' e1 e2 e3
    refine ⟨u',r',?_⟩
    rcases q with q | ⟨k,c',e,z'⟩
    ·exact .inl q
    ·refine .inr ⟨k,c',e,z'.sameBut hs ?_⟩
     rintro rfl
     exact hj (lR hN e1 (I.ok.inj _ _ _ e hc ▸ hi))
  ·by_cases NZ:c' = c
   ·subst NZ; exact ⟨_,cz⟩
   ·obtain ⟨w2,z2⟩:=I.cell y c' e
    exact ⟨w2,z2.sameBut hs NZ⟩
  ·obtain ⟨e,n,ne,nf,d⟩:=I.pin p hp
   refine ⟨(hs.2 p.1 ?_).trans e,n,ne,nf,d⟩
   intro q
   rw [q,NY] at e
   have q':oc = p.2:=Option.some.inj e
   exact d w' (by rw [← q']; exact Lh)
theorem i! {M:Model} {A:Around} {E:Value → Shared → Prop} {i:Nat} {x:Str} {v:V} {u:Value} {Q:Unit → Shared → Prop} (I:aG X ae σ H s) (hN:X.N.Nodup) (hi:X.N[i]? = some x) (hx:Loc X.env.scope x) (r:ba v u)
  (h:∀ s',aG X ae (σ.set i (some v)) H s' → Q () s') (hf:X.fn x = true ∨ X.env.scope.names.lookup x = some .local:=by first | exact .inl rfl | exact .inr rfl | assumption):wpAny M A (storeName X.env x u) Q E s :=
 jH I hN hi hx r (fun s' I' _ => h s' I') hf
theorem aG.qh {s':Shared} {ch:List Addr} (I:aG X ae σ H s) (ho:s'.os = s.os) (u:Un (eM X.stack) ch H H' s.heap s'.heap) (bI:f7 X.prog X.w H' s'.heap) (hg:AllBare s'.gens)
  (Be:∀ b ∈ ch,(b ∈ X.ex ∨ X.s₀.heap.objs.size ≤ b) ∧ b ≠ X.env.locals ∧ (∀ x c,X.env.cells.lookup x = some c → c ≠ b) ∧ ∀ p ∈ X.pn ++ ae,p.1 ≠ b):aG X ae σ H' s':=by
 obtain ⟨h',g',d',t',o'⟩:=s'
 have e:o' = s.os:=ho
 subst e
 exact I.call (g':=g') (t':=t') (d':=d') u bI hg Be
end
noncomputable abbrev XK:=Value → Option Addr → Hp → Prop
noncomputable abbrev St:=List (Option V)
noncomputable abbrev VK:=V → Hp → Prop
noncomputable abbrev TE:=St → Hp → VK → Prop
noncomputable abbrev TT:=St → Hp → (Bool → Hp → Prop) → Prop
noncomputable abbrev TA:=St → Hp → (List V → Hp → Prop) → Prop
structure Ends where
 nx:St → Hp → Prop
 rt:VK
 bk:St → Hp → Prop:=fun _ _ => False
 ct:St → Hp → Prop:=fun _ _ => False
noncomputable abbrev TS:=Ends → St → Hp → Prop
noncomputable def EP (X:Cx) (ae:List (Addr × Obj)) (σ:St) (Q:VK) (u:Value) (s':Shared):Prop:=∃ v H',aG X ae σ H' s' ∧ ba v u ∧ Q v H'
noncomputable def TP (X:Cx) (ae:List (Addr × Obj)) (σ:St) (Q:Bool → Hp → Prop) (b:Bool) (s':Shared):Prop:=∃ H',aG X ae σ H' s' ∧ Q b H'
noncomputable def AP (X:Cx) (ae:List (Addr × Obj)) (σ:St) (Q:List V → Hp → Prop) (us:List Value) (s':Shared):Prop:=∃ vs H',aG X ae σ H' s' ∧ a7 vs us ∧ Q vs H'
noncomputable def SP (X:Cx) (ae:List (Addr × Obj)) (D:Ends) (f:Flow) (s':Shared):Prop :=
 match f with
 | .next => ∃ σ' H',aG X ae σ' H' s' ∧ D.nx σ' H'
 | .brk => ∃ σ' H',aG X ae σ' H' s' ∧ D.bk σ' H'
 | .cont => ∃ σ' H',aG X ae σ' H' s' ∧ D.ct σ' H'
 | .ret u => ∃ v σ' H',aG X ae σ' H' s' ∧ ba v u ∧ D.rt v H'
noncomputable def PE (X:Cx) (e:Expr) (t:TE):Prop :=
 ∀ (ae:List (Addr × Obj)) (s:Shared) (σ:St) (H:Hp) (Q:VK),aG X ae σ H s → t σ H Q → wpAny (model X.prog X.w) X.A (eval e X.env) (EP X ae σ Q) X.xe s
noncomputable def PT (X:Cx) (e:Expr) (t:TT):Prop :=
 ∀ (ae:List (Addr × Obj)) (s:Shared) (σ:St) (H:Hp) (Q:Bool → Hp → Prop),aG X ae σ H s → t σ H Q → wpAny (model X.prog X.w) X.A (isTrue e X.env (eval e X.env)) (TP X ae σ Q) X.xe s
noncomputable def PW (X:Cx) (e:Expr) (t:TT):Prop :=
 ∀ (whole:Sem Value) (ae:List (Addr × Obj)) (s:Shared) (σ:St) (H:Hp) (Q:Bool → Hp → Prop),aG X ae σ H s → t σ H Q → wpAny (model X.prog X.w) X.A (isTrue e X.env whole) (TP X ae σ Q) X.xe s
theorem PW.pt {X:Cx} {e:Expr} {t:TT} (h:PW X e t):PT X e t:=h _
noncomputable def PA (X:Cx) (es:List Expr) (t:TA):Prop :=
 ∀ (pos:Pos) (ae:List (Addr × Obj)) (s:Shared) (σ:St) (H:Hp) (Q:List V → Hp → Prop),aG X ae σ H s → t σ H Q → wpAny (model X.prog X.w) X.A (spliced (backTo pos (starEach es X.env))) (AP X ae σ Q) X.xe s
noncomputable def PS (X:Cx) (st:Stmt) (t:TS):Prop :=
 ∀ (ae:List (Addr × Obj)) (s:Shared) (σ:St) (H:Hp) (D:Ends),aG X ae σ H s → t D σ H → wpAny (model X.prog X.w) X.A (exec st X.env) (SP X ae D) X.xe s
noncomputable def gG (X:Cx) (st:List Stmt) (t:TS):Prop :=
 ∀ (ae:List (Addr × Obj)) (s:Shared) (σ:St) (H:Hp) (D:Ends),aG X ae σ H s → t D σ H → wpAny (model X.prog X.w) X.A (execs st X.env) (SP X ae D) X.xe s
theorem bF {α:Type} {t:Sem α} {Q Q':α → Shared → Prop} {M:Model} {A:Around} {E:Value → Shared → Prop} {s:Shared} (h:wpAny M A t Q E s) (hQ:∀ a s,Q a s → Q' a s):wpAny M A t Q' E s:=wpAny_mono h hQ fun _ _ x => x
end L2
namespace L2
open PySem PySem.Spec PyProof.Rows
section
variable {X:Cx}
noncomputable def Li (i:Nat):TE:=fun σ H Q => ∃ v,σ[i]? = some (some v) ∧ Q v H
noncomputable def tC (v:V):TE:=fun _ H Q => Q v H
theorem r! {i:Nat} {x:Str} {pos:Pos} (hN:X.N[i]? = some x) (hv:Ey X.env.scope x) (hd:(x == ("__debug__":Str)) = false:=by decide) (nN:(x == ("__classdict__":Str)) = false:=by decide):PE X (.Name x pos) (Li i):=by
 intro ae s σ H Q I h
 obtain ⟨v,e,h⟩:=h
 obtain ⟨m,hn,hl⟩:=I.loc
 obtain ⟨u,r,l⟩:=hl i x v hN e hv
 have fin:EP X ae σ Q u s:=⟨v,H,I,r,h⟩
 rcases l with ⟨hk,hm⟩ | ⟨hk,c,hc,DU⟩
 ·exact wpAny_Name (wpAny_loadName_local I.ok.kind hk hn hm fin) hd
 ·rcases hk with hk | hk
  ·exact wpAny_Name (wpAny_loadName_cell I.ok.kind hk hc DU fin) hd
  ·exact wpAny_Name (wpAny_loadName_free I.ok.kind hk hc DU fin nN) hd
theorem Ez {i j pos}:PE X (.Constant (.int i) j pos) (tC (.int i)):=fun _ _ _ H _ I h => wpAny_Constant_int ⟨.int i,H,I.tok _,⟨_,rfl⟩,h⟩
theorem DV {b j pos}:PE X (.Constant (.bool b) j pos) (tC (.bl b)):=fun _ _ _ H _ I h => Constant_bool ⟨.bl b,H,I,rfl,h⟩
theorem EA {j pos}:PE X (.Constant .none j pos) (tC .cB):=fun _ _ _ H _ I h => Constant_none ⟨.cB,H,I,rfl,h⟩
theorem EB {x j pos}:PE X (.Constant (.str x) j pos) (tC (.str x)):=fun _ _ _ H _ I h => Calls.Constant_str ⟨.str x,H,I.tok _,⟨_,rfl⟩,h⟩
noncomputable def Gl (X:Cx) (x:Str):Prop:=X.env.kindOf x = some .globalImplicit
theorem hJ {E:Value → Shared → Prop} {ae:List (Addr × Obj)} {s:Shared} {σ:St} {H:Hp} {x:Str} {u:Value} {pos:Pos} {Q:Value → Shared → Prop} (I:aG X ae σ H s) (hg:Gl X x) (hm:X.mg x = some u) (h:Q u s)
  (hd:(x == ("__debug__":Str)) = false:=by decide):wpAny (model X.prog X.w) X.A (eval (.Name x pos) X.env) Q E s :=
 Calls.Name_function_global I.ok.kind hg (Calls.loadGlobal_global (by rw [I.ok.glob]; exact I.mod.glob.keeps I.bk) hm h) hd
theorem gH {E:Value → Shared → Prop} {ae:List (Addr × Obj)} {s:Shared} {σ:St} {H:Hp} {x:Str} {u:Value} {pos:Pos} {Q:Value → Shared → Prop} (I:aG X ae σ H s) (hg:Gl X x) (hm:X.mg x = none) (hv:bootBuiltins x = some u) (h:Q u s)
  (hn:x ≠ "__name__":=by decide) (hd:(x == ("__debug__":Str)) = false:=by decide):wpAny (model X.prog X.w) X.A (eval (.Name x pos) X.env) Q E s:=by
 obtain ⟨mb,h1,h2⟩:=I.mod.blt
 exact Calls.Name_function_global I.ok.kind hg (Calls.loadGlobal_builtin (by rw [I.ok.glob]; exact I.mod.glob.keeps I.bk) hm (by rw [I.ok.blt]; exact h1.keeps I.bk) ((h2 x hn).trans hv) h) hd
theorem uz {x:Str} {v:V} {u:Value} {pos:Pos} (hg:Gl X x) (hm:X.mg x = some u) (r:ba v u) (hd:(x == ("__debug__":Str)) = false:=by decide):PE X (.Name x pos) (tC v) :=
 fun _ _ _ H _ I h => hJ I hg hm ⟨v,H,I,r,h⟩ hd
theorem Bm {x:Str} {v:V} {u:Value} {pos:Pos} (hg:Gl X x) (hm:X.mg x = none) (hv:bootBuiltins x = some u) (r:ba v u) (hn:x ≠ "__name__":=by decide) (hd:(x == ("__debug__":Str)) = false:=by decide):PE X (.Name x pos) (tC v) :=
 fun _ _ _ H _ I h => gH I hg hm hv ⟨v,H,I,r,h⟩ hn hd
variable {a b:Expr} {ta tb:TE} {pos:Pos}
noncomputable def PC (X:Cx) (op:CmpOp) (a b:Expr) (t:TE):Prop :=
 ∀ (ae:List (Addr × Obj)) (s:Shared) (σ:St) (H:Hp) (Q:VK),aG X ae σ H s → t σ H Q →
  wpAny (model X.prog X.w) X.A (eval a X.env) (fun v s₁ => wpAny (model X.prog X.w) X.A (eval b X.env) (fun u s₂ => wpAny (model X.prog X.w) X.A (compareOp op v u) (EP X ae σ Q) X.xe s₂) X.xe s₁) X.xe s
noncomputable def tB (t:TE):TT:=fun σ H Q => t σ H fun x H1 => ∃ c,x = .bl c ∧ Q c H1
theorem EC {e:Expr} {t:TE} (h:PE X e t) (he:∀ whole,isTrue e X.env whole = (do let v ← whole; standAt e.pos; holding [v] (truthy v)):=by intro _; rfl):PT X e (tB t):=by
 intro ae s σ H Q I hw
 refine isTrue_plain (bF (h ae s σ H _ I hw) fun v s1 ⟨x,H1,I1,r1,q1⟩ => ?_) (he _)
 obtain ⟨d,rfl,q⟩:=q1
 cases r1
 exact wpAny_truthy_bool ⟨H1,I1,q⟩
variable {tA Bn:TT} {rest:List Expr}
noncomputable def Lj (t u:TT):TT:=fun σ H Q => t σ H fun c H1 => if c = true then u σ H1 Q else Q false H1
noncomputable def O1 (t u:TT):TT:=fun σ H Q => t σ H fun c H1 => if c = true then Q true H1 else u σ H1 Q
noncomputable def Lk (t:TT):TT:=fun σ H Q => t σ H fun c H1 => Q (!c) H1
theorem Bo (ha:PT X a tA):PW X (.BoolOp .And [a] pos) tA:=by
 intro wh ae s σ H Q I h
 refine isTrue_and (bF (ha ae s σ H Q I h) fun c s1 e => ?_)
 cases c with
 | true => exact isTrue_and_nil e
 | false => exact e
theorem ED (ha:PT X a tA):PW X (.BoolOp .Or [a] pos) tA:=by
 intro wh ae s σ H Q I h
 refine isTrue_or (bF (ha ae s σ H Q I h) fun c s1 e => ?_)
 cases c with
 | false => exact isTrue_or_nil e
 | true => exact e
theorem EF (ha:PT X a tA) (hb:PW X (.BoolOp .And (b :: rest) pos) Bn):PW X (.BoolOp .And (a :: b :: rest) pos) (Lj tA Bn):=by
 intro wh ae s σ H Q I h
 refine isTrue_and (bF (ha ae s σ H _ I h) fun c s1 ⟨H1,I1,q1⟩ => ?_)
 cases c with
 | true => exact hb wh ae s1 σ H1 Q I1 q1
 | false => exact ⟨H1,I1,q1⟩
theorem H! (ha:PT X a tA) (hb:PW X (.BoolOp .Or (b :: rest) pos) Bn):PW X (.BoolOp .Or (a :: b :: rest) pos) (O1 tA Bn):=by
 intro wh ae s σ H Q I h
 refine isTrue_or (bF (ha ae s σ H _ I h) fun c s1 ⟨H1,I1,q1⟩ => ?_)
 cases c with
 | true => exact ⟨H1,I1,q1⟩
 | false => exact hb wh ae s1 σ H1 Q I1 q1
theorem EG (ha:PT X a tA):PT X (.UnaryOp .Not a pos) (Lk tA):=by
 intro ae s σ H Q I h
 exact isTrue_not (ha ae s σ H (fun c H1 => Q (!c) H1) I h)
noncomputable def H? (ta tb:TE):TE:=fun σ H Q => ta σ H fun x H1 => ∃ c,x = .bl c ∧ if c = true then tb σ H1 Q else Q (.bl false) H1
noncomputable def Ll (ta tb:TE):TE:=fun σ H Q => ta σ H fun x H1 => ∃ c,x = .bl c ∧ if c = true then Q (.bl true) H1 else tb σ H1 Q
noncomputable def Ia (ta:TE):TE:=fun σ H Q => ta σ H fun x H1 => ∃ c,x = .bl c ∧ Q (.bl (!c)) H1
theorem EI {op} {t:TE} (h:PE X a t):PE X (.BoolOp op [a] pos) t:=fun ae s σ H Q I hw => BoolOp_one (h ae s σ H Q I hw)
theorem EJ (ha:PE X a ta) (hb:PE X (.BoolOp .And (b :: rest) pos) tb):PE X (.BoolOp .And (a :: b :: rest) pos) (H? ta tb):=by
 intro ae s σ H Q I h
 refine BoolOp_and (bF (ha ae s σ H _ I h) fun v s1 ⟨x,H1,I1,r1,q1⟩ => ?_)
 obtain ⟨c,rfl,q1⟩:=q1
 cases r1
 refine wpAny_truthy_bool ?_
 cases c with
 | true => exact hb ae s1 σ H1 Q I1 q1
 | false => exact ⟨.bl false,H1,I1,rfl,q1⟩
theorem Ib (ha:PE X a ta) (hb:PE X (.BoolOp .Or (b :: rest) pos) tb):PE X (.BoolOp .Or (a :: b :: rest) pos) (Ll ta tb):=by
 intro ae s σ H Q I h
 refine BoolOp_or (bF (ha ae s σ H _ I h) fun v s1 ⟨x,H1,I1,r1,q1⟩ => ?_)
 obtain ⟨c,rfl,q1⟩:=q1
 cases r1
 refine wpAny_truthy_bool ?_
 cases c with
 | false => exact hb ae s1 σ H1 Q I1 q1
 | true => exact ⟨.bl true,H1,I1,rfl,q1⟩
theorem EL (ha:PE X a ta):PE X (.UnaryOp .Not a pos) (Ia ta):=by
 intro ae s σ H Q I h
 refine UnaryOp_ (bF (ha ae s σ H _ I h) fun v s1 ⟨x,H1,I1,r1,q1⟩ => ?_)
 obtain ⟨c,rfl,q1⟩:=q1
 cases r1
 exact not_of (wpAny_truthy_bool ⟨.bl (!c),H1,I1,rfl,q1⟩)
noncomputable def O2 (t:TT) (ta tb:TE):TE:=fun σ H Q => t σ H fun c H1 => if c = true then ta σ H1 Q else tb σ H1 Q
theorem xW {c:Expr} (hc:PT X c tA) (ha:PE X a ta) (hb:PE X b tb):PE X (.IfExp c a b pos) (O2 tA ta tb):=by
 intro ae s σ H Q I h
 refine wpAny_IfExp (bF (hc ae s σ H _ I h) fun d s1 ⟨H1,I1,q1⟩ => ?_)
 cases d with
 | true => exact ha ae s1 σ H1 Q I1 q1
 | false => exact hb ae s1 σ H1 Q I1 q1
end
end L2
namespace L2
open PySem PySem.Spec PyProof.Rows
noncomputable def i8 (K:PySem.W.Frag) (H:Hp) (a:Addr) (xs:List V):Prop :=
 Rd H a (.lst xs) ∨
  ∃ (o:Obj) (aA:Array Value) (n:Nat),K.lookup a = some o ∧ o.cls = .type "list" ∧ o.dict = none ∧ o.data = .seq aA n ∧ aA.size ≤ sizeLine ∧ a7 xs aA.toList
noncomputable def hR (K:PySem.W.Frag) (H:Hp) (a:Addr) (xs:List V):Prop :=
 Rd H a (.tup xs) ∨
  ∃ (o:Obj) (aA:Array Value) (n:Nat),K.lookup a = some o ∧ o.cls = .type "tuple" ∧ o.data = .seq aA n ∧ aA.size ≤ sizeLine ∧ a7 xs aA.toList
noncomputable def Lm:Value → Option V
 | .none => some .cB
 | .bool b => some (.bl b)
 | .int i _ => some (.int i)
 | .str x _ => some (.str x)
 | .bytes b _ => some (.Lb b)
 | .float b _ => some (.lF b)
 | .ref a => some (.ref a)
 | .type n => some (.ty n)
 | _ => none
theorem ba.abs {x:V} {u:Value} (r:ba x u):Lm u = some x:=by
 cases x with
 | cB => cases r; rfl
 | bl _ => cases r; rfl
 | int _ => obtain ⟨t,rfl⟩:=r; rfl
 | str _ => obtain ⟨t,rfl⟩:=r; rfl
 | Lb _ => obtain ⟨t,rfl⟩:=r; rfl
 | lF _ => obtain ⟨t,rfl⟩:=r; rfl
 | ref _ => cases r; rfl
 | ty _ => cases r; rfl
theorem ba.inj {x y:V} {u:Value} (r:ba x u) (q:ba y u):x = y:=Option.some.inj (r.abs.symm.trans q.abs)
theorem a7.inj {xs ys:List V} {us:List Value} (p:a7 xs us) (q:a7 ys us):xs = ys:=by
 induction p generalizing ys with
 | nil => cases q; rfl
 | cons r t ih =>
  cases q with
  | cons r' t' => rw [r.inj r',ih t']
section
variable {X:Cx} {ae:List (Addr × Obj)} {σ:St} {H:Hp} {s:Shared} {a:Addr} {xs ys:List V}
theorem i8.of {K:PySem.W.Frag} (h:H a = some (.lst xs)):i8 K H a xs:=.inl (.inl h)
theorem hR.of {K:PySem.W.Frag} (h:H a = some (.tup xs)):hR K H a xs:=.inl (.inl h)
theorem aG.list (I:aG X ae σ H s) (h:i8 X.K H a xs):∃ aA:List Value,a7 xs aA ∧ PlainL s.heap a aA.toArray ∧ xs.length ≤ sizeLine:=by
 rcases h with h | ⟨o,aA,n,hk,hc,hd,hs,hz,r⟩
 ·obtain ⟨z,aA,n,r,e⟩:=h.ok I.bI
  exact ⟨aA,r,⟨_,n,e,rfl,rfl,rfl⟩,z⟩
 ·refine ⟨aA.toList,r,⟨o,n,I.lG a o hk,hc,hd,by simpa using hs⟩,?_⟩
  have e:=r.length
  simp only [Array.length_toList] at e
  lia
theorem aG.tuple (I:aG X ae σ H s) (h:hR X.K H a xs):∃ aA:List Value,a7 xs aA ∧ IsTup s.heap a aA.toArray ∧ xs.length ≤ sizeLine:=by
 rcases h with h | ⟨o,aA,n,hk,hc,hs,hz,r⟩
 ·obtain ⟨z,aA,r,p⟩:=h.ok I.bI
  exact ⟨aA,r,p,z⟩
 ·refine ⟨aA.toList,r,⟨o,I.lG a o hk,hc,n,by simpa using hs⟩,?_⟩
  have e:=r.length
  simp only [Array.length_toList] at e
  lia
theorem aG.lS (I:aG X ae σ H s) (h:i8 X.K H a xs) (h':i8 X.K H a ys):xs = ys:=by
 obtain ⟨aA,r,⟨o,n,e,_,_,d⟩,_⟩:=I.list h
 obtain ⟨its',r',⟨o',n',e',_,_,d'⟩,_⟩:=I.list h'
 rw [e] at e'; cases e'
 rw [d] at d'
 injection d' with d1 _
 have:aA = its':=by simpa using congrArg Array.toList d1
 subst this
 exact r.inj r'
theorem aG.hU (I:aG X ae σ H s) (h:hR X.K H a xs) (h':hR X.K H a ys):xs = ys:=by
 obtain ⟨aA,r,⟨o,e,_,n,d⟩,_⟩:=I.tuple h
 obtain ⟨its',r',⟨o',e',_,n',d'⟩,_⟩:=I.tuple h'
 rw [e] at e'; cases e'
 rw [d] at d'
 injection d' with d1 _
 have:aA = its':=by simpa using congrArg Array.toList d1
 subst this
 exact r.inj r'
end
noncomputable abbrev Cx.gI (X:Cx) (E:Value → Shared → Prop):Cx:={ X with xe:=E }
theorem Cx.Ok.gI {X:Cx} (ok:X.Ok) (E:Value → Shared → Prop):(X.gI E).Ok :=
 ⟨ok.mod,ok.kind,ok.glob,ok.blt,ok.above,ok.inj,ok.has,ok.DR,ok.hd,ok.frames,ok.Bb,ok.Km,ok.bs,ok.Bc,ok.qf,ok.vC,ok.gF,ok.xM⟩
theorem Cx.Ok.iM {X:Cx} {E:Value → Shared → Prop} (ok:(X.gI E).Ok):X.Ok :=
 ⟨ok.mod,ok.kind,ok.glob,ok.blt,ok.above,ok.inj,ok.has,ok.DR,ok.hd,ok.frames,ok.Bb,ok.Km,ok.bs,ok.Bc,ok.qf,ok.vC,ok.gF,ok.xM⟩
section
variable {X:Cx} {ae:List (Addr × Obj)} {σ:St} {H:Hp} {s:Shared} {E:Value → Shared → Prop}
theorem aG.gI (I:aG X ae σ H s) (E:Value → Shared → Prop):aG (X.gI E) ae σ H s:=⟨I.ok.gI E,I.os,I.bare,I.base,I.loc,I.cell,I.free,I.eZ,I.pin,I.bI,I.len⟩
theorem aG.iM (I:aG (X.gI E) ae σ H s):aG X ae σ H s:=⟨I.ok.iM,I.os,I.bare,I.base,I.loc,I.cell,I.free,I.eZ,I.pin,I.bI,I.len⟩
end
section
variable {X:Cx} {st:Stmt} {rest:List Stmt} {t u:TS} {e:Expr} {te:TE} {pos:Pos}
noncomputable def Ic:TS:=fun D σ H => D.nx σ H
noncomputable def Ln (t u:TS):TS:=fun D σ H => t { D with nx:=u D } σ H
theorem Bp:gG X [] Ic:=fun _ _ σ H _ I h => wpAny_execs_nil ⟨σ,H,I,h⟩
theorem xX (h1:PS X st t) (h2:gG X rest u):gG X (st :: rest) (Ln t u):=by
 intro ae s σ H D I h
 refine wpAny_execs_cons (bF (h1 ae s σ H { D with nx:=u D } I h) fun f s1 q => ?_)
 cases f with
 | next =>
  obtain ⟨σ',H',I',q⟩:=q
  exact h2 ae s1 σ' H' D I' q
 | ret v => exact q
 | brk => exact q
 | cont => exact q
theorem Bq (h1:PS X st t):gG X [st] t:=by
 intro ae s σ H D I h
 refine wpAny_execs_cons (bF (h1 ae s σ H D I h) fun f s1 q => ?_)
 cases f with
 | next => exact wpAny_execs_nil q
 | ret v => exact q
 | brk => exact q
 | cont => exact q
theorem aG.quiet {ae:List (Addr × Obj)} {σ:St} {H:Hp} {s:Shared} (I:aG X ae σ H s):interactive X.env = false:=by simp [interactive,I.ok.kind]
noncomputable def Ie (te:TE):TS:=fun D σ H => te σ H fun _ H1 => D.nx σ H1
theorem Br (he:PE X e te) (hs:swapsWith e none pos.line X.env = pure false:=by rfl):PS X (.Expr e pos) (Ie te):=by
 intro ae s σ H D I h
 exact wpAny_Expr_any (bF (he ae s σ H _ I h) fun v s1 ⟨x,H1,I1,r1,q1⟩ => ⟨σ,H1,I1,q1⟩) I.quiet hs
noncomputable def Lo (te:TE):TS:=fun D σ H => te σ H D.rt
theorem EM (he:PE X e te):PS X (.Return (some e) pos) (Lo te):=by
 intro ae s σ H D I h
 exact wpAny_Return_some (bF (he ae s σ H _ I h) fun v s1 ⟨x,H1,I1,r1,q1⟩ => ⟨x,σ,H1,I1,r1,q1⟩)
noncomputable def Lp (c:TT) (t u:TS):TS:=fun D σ H => c σ H fun b H1 => if b = true then t D σ H1 else u D σ H1
theorem Ig {c:Expr} {a b:List Stmt} {tc:TT} (hc:PT X c tc) (ha:gG X a t) (hb:gG X b u):PS X (.If c a b pos) (Lp tc t u):=by
 intro ae s σ H D I h
 refine wpAny_If (bF (hc ae s σ H _ I h) fun d s1 ⟨H1,I1,q1⟩ => ?_)
 cases d with
 | true => exact ha ae s1 σ H1 D I1 q1
 | false => exact hb ae s1 σ H1 D I1 q1
end
noncomputable abbrev TG:=V → St → Hp → (St → Hp → Prop) → Prop
noncomputable abbrev Bs:=List V → St → Hp → (St → Hp → Prop) → Prop
noncomputable def PG (X:Cx) (target:Expr) (t:TG):Prop :=
 ∀ (ae:List (Addr × Obj)) (s:Shared) (σ:St) (H:Hp) (v:V) (u:Value) (Q:St → Hp → Prop),aG X ae σ H s → ba v u → t v σ H Q →
  wpAny (model X.prog X.w) X.A (assign target X.env u) (fun _ s' => ∃ σ' H',aG X ae σ' H' s' ∧ Q σ' H') X.xe s
noncomputable def r? (X:Cx) (ts:List Expr) (t:Bs):Prop :=
 ∀ (ae:List (Addr × Obj)) (s:Shared) (σ:St) (H:Hp) (vs:List V) (us:List Value) (Q:St → Hp → Prop),aG X ae σ H s → a7 vs us → t vs σ H Q →
  wpAny (model X.prog X.w) X.A (assignInOrder ((assignEach ts X.env).map (·.2)) us) (fun _ s' => ∃ σ' H',aG X ae σ' H' s' ∧ Q σ' H') X.xe s
noncomputable abbrev EN:=V → V → V → Hp → (Hp → Prop) → Prop
noncomputable def Ih (X:Cx) (t:EN):Prop :=
 ∀ (ae:List (Addr × Obj)) (s:Shared) (σ:St) (H:Hp) (o i v:V) (ov iv u:Value) (Q:Hp → Prop),aG X ae σ H s → ba o ov → ba i iv → ba v u → t o i v H Q →
  wpAny (model X.prog X.w) X.A (setItem ov iv u) (fun _ s' => ∃ H',aG X ae σ H' s' ∧ Q H') X.xe s
section
variable {X:Cx} {pos:Pos}
noncomputable def qi (i:Nat):TG:=fun v σ H Q => Q (σ.set i (some v)) H
theorem Bt {i:Nat} {x:Str} (hN:X.N.Nodup) (hi:X.N[i]? = some x) (hx:Loc X.env.scope x) (hf:X.fn x = true ∨ X.env.scope.names.lookup x = some .local:=by first | exact .inl rfl | exact .inr rfl | assumption):PG X (.Name x pos) (qi i):=by
 intro ae s σ H v u Q I r h
 exact wpAny_assign_Name (i! I hN hi hx r (fun s' I' => ⟨_,H,I',h⟩) hf)
noncomputable def Lq:Bs:=fun vs σ H Q => vs = [] ∧ Q σ H
noncomputable def Ii (t:TG) (u:Bs):Bs:=fun vs σ H Q => ∃ v r,vs = v :: r ∧ t v σ H fun σ' H' => u r σ' H' Q
theorem Bu:r? X [] Lq:=by
 intro ae s σ H vs us Q I r h
 obtain ⟨e,h⟩:=h
 subst e
 cases r
 exact assignInOrder_nil ⟨σ,H,I,h⟩
theorem xY {e:Expr} {es:List Expr} {t:TG} {u:Bs} (h1:PG X e t) (h2:r? X es u)
  (hs:(assignEach (e :: es) X.env).map (·.2) = assign e X.env :: (assignEach es X.env).map (·.2):=by rfl):r? X (e :: es) (Ii t u):=by
 intro ae s σ H vs us Q I r h
 obtain ⟨v,vr,e1,h⟩:=h
 subst e1
 cases r with
 | cons r rr =>
  rw [hs]
  refine assignInOrder_cons (bF (h1 ae s σ H _ _ _ I r h) fun _ s1 ⟨σ1,H1,I1,q1⟩ => ?_)
  exact h2 ae s1 σ1 H1 _ _ Q I1 rr q1
noncomputable def Lr (K:PySem.W.Frag) (n:Nat) (t:Bs):TG:=fun v σ H Q => ∃ a xs,v = .ref a ∧ hR K H a xs ∧ xs.length = n ∧ t xs σ H Q
theorem EO {es:List Expr} {k:Nat} {t:Bs} {n:Nat} (hc:X.calm = true) (h:r? X es t)
  (hn:(assignEach es X.env).length = n:=by rfl) (xN:(assignEach es X.env).findIdx? (·.1) = none:=by rfl):PG X (.Tuple es k pos) (Lr X.K n t):=by
 intro ae s σ H v u Q I r hw
 obtain ⟨a,xs,e1,hq,hl,hw⟩:=hw
 subst e1
 cases r
 obtain ⟨aA,rv,ht,hz⟩:=I.tuple hq
 refine assign_Tuple_tuple (I.ok.hd hc) ht (by simp [hn,← hl,rv.length]) xN fun h' hx => ?_
 have I1:aG X ae σ H { s with heap:=h' }:=I.kept (t':=s.toks) fun b o e => hx b o (Nat.ne_of_lt (Heap.lt_size e)) e
 exact h ae _ σ H xs _ Q I1 (by simpa using rv) hw
noncomputable def Ls (to ti:TE) (t:EN):TG:=fun v σ H Q => to σ H fun o H1 => ti σ H1 fun i H2 => t o i v H2 fun H3 => Q σ H3
theorem ER {o i:Expr} {to ti:TE} {t:EN} (ho:PE X o to) (hi:PE X i ti) (hs:Ih X t)
  (ha:∀ v,assign (.Subscript o i pos) X.env v = (do
   let ov ← holding [v] (eval o X.env)
   let iv ← holding [v,ov] (eval i X.env)
   standAt pos
   holding [v,ov,iv] (setItem ov iv v)
   release [v,ov,iv] []):=by intro _; rfl):PG X (.Subscript o i pos) (Ls to ti t):=by
 intro ae s σ H v u Q I r h
 rw [ha]
 refine wpAny_bind (wpAny_holding (bF (ho ae s σ H _ I h) fun ov s1 ⟨x,H1,I1,r1,q1⟩ => ?_))
 refine wpAny_bind (wpAny_holding (bF (hi ae s1 σ H1 _ I1 q1) fun iv s2 ⟨y,H2,I2,r2,q2⟩ => ?_))
 refine wpAny_bind (wpAny_standAt (wpAny_bind (wpAny_holding (bF (hs ae s2 σ H2 x y v ov iv u _ I2 r1 r2 r q2) fun _ s3 ⟨H3,I3,q3⟩ => ?_))))
 exact wpAny_release ⟨σ,H3,I3,q3⟩
noncomputable def Bv (te:TE) (g:TG):TS:=fun D σ H => te σ H fun x H1 => g x σ H1 D.nx
theorem ES {tg e:Expr} {te:TE} {g:TG} (he:PE X e te) (hg:PG X tg g) (hs:swapsWithSole [tg] e pos.line X.env = pure false:=by rfl) (hw:swappedStores [tg] e X.env = pure none:=by rfl)
  (h1:(assignEach [tg] X.env).map (·.2) = [assign tg X.env]:=by rfl):PS X (.Assign [tg] e pos) (Bv te g):=by
 intro ae s σ H D I h
 refine wpAny_Assign_stores (bF (he ae s σ H _ I h) fun v s1 ⟨x,H1,I1,r1,q1⟩ => ?_) hs hw
 rw [h1]
 exact bF (hg ae s1 σ H1 x v _ I1 r1 q1) fun _ s2 q => q
theorem ET {i:Nat} {x:Str} {e:Expr} {te:TE} {pos':Pos} (hN:X.N.Nodup) (hi:X.N[i]? = some x) (hx:Loc X.env.scope x) (he:PE X e te) (hs:swapsWith e (some (.Name x pos')) pos.line X.env = pure false:=by rfl) (hf:X.fn x = true ∨ X.env.scope.names.lookup x = some .local:=by first | exact .inl rfl | exact .inr rfl | assumption) :
  PS X (.Assign [.Name x pos'] e pos) (Bv te (qi i)):=by
 intro ae s σ H D I h
 refine wpAny_Assign_Name (bF (he ae s σ H _ I h) fun v s1 ⟨y,H1,I1,r1,q1⟩ => ?_) hs
 exact i! I1 hN hi hx r1 (fun s2 I2 => ⟨_,H1,I2,q1⟩) hf
end
section
variable {X:Cx} {pos:Pos}
noncomputable def EU (c:TT) (tb:TS):TS:=fun D σ H => ∃ W:Nat → St → Hp → Prop,(∃ m,W m σ H) ∧ ∀ m σ H,W m σ H →
 c σ H fun b H1 => if b = true then ∃ N:St → Hp → Prop,(∀ σ' H',N σ' H' → ∃ m',m' < m ∧ W m' σ' H') ∧ tb { D with nx:=N,ct:=N,bk:=D.nx } σ H1 else D.nx σ H1
theorem xZ {c:Expr} {body:List Stmt} {tc:TT} {tb:TS} (hp:PassesOwn (model X.prog X.w) X.A X.env X.xe) (hc:PT X c tc) (hb:gG X body tb):PS X (.While c body [] pos) (EU tc tb):=by
 intro ae s σ H D I h
 obtain ⟨W,⟨m0,w0⟩,turn⟩:=h
 refine wpAny_While (codeAny_whileLoop (fun n s' => ∃ σ' H',aG X ae σ' H' s' ∧ W n σ' H') ?_ m0 ⟨σ,H,I,w0⟩)
 rintro n s1 ⟨σ1,H1,I1,w1⟩
 refine wpAny_passesOwn hp (bF (hc ae s1 σ1 H1 _ I1 (turn n σ1 H1 w1)) fun b s2 ⟨H2,I2,q2⟩ => ?_)
 cases b with
 | true =>
  obtain ⟨N,hN,q2⟩:=q2
  rw [if_pos rfl]
  refine wpAny_passesOwn hp (bF (hb ae s2 σ1 H2 _ I2 q2) fun f s3 q3 => ?_)
  cases f with
  | next =>
   obtain ⟨σ3,H3,I3,n3⟩:=q3
   obtain ⟨m',hm,w3⟩:=hN σ3 H3 n3
   exact ⟨m',hm,σ3,H3,I3,w3⟩
  | cont =>
   obtain ⟨σ3,H3,I3,n3⟩:=q3
   obtain ⟨m',hm,w3⟩:=hN σ3 H3 n3
   exact ⟨m',hm,σ3,H3,I3,w3⟩
  | brk => exact q3
  | ret v => exact q3
 | false =>
  rw [if_neg Bool.false_ne_true]
  exact wpAny_execs_nil ⟨σ1,H2,I2,q2⟩
end
structure It where
 go:Nat → Hp → Prop
 Ij:Nat → Hp → V → Hp → Prop
 stop:Nat → Hp → Prop
noncomputable def nO (X:Cx) (ae:List (Addr × Obj)) (H:Hp) (b:Addr):Prop :=
 H b = none ∧ b ≠ X.env.locals ∧ b ∉ X.fs ∧ (b ∈ X.ex ∨ X.s₀.heap.objs.size ≤ b) ∧ (∀ x c,X.env.cells.lookup x = some c → c ≠ b) ∧ ∀ p ∈ X.pn ++ ae,p.1 ≠ b
theorem aG.vD {X:Cx} {ae:List (Addr × Obj)} {σ:St} {H H':Hp} {s:Shared} {b:Addr} (I:aG X ae σ H s) (hb:s.heap.objs.size ≤ b) (hn:H' b = none):nO X ae H' b:=by
 refine ⟨hn,Nat.ne_of_gt (Nat.lt_of_lt_of_le I.lt hb),I.Le hb,.inr (Nat.le_trans I.sz hb),fun x c e z => ?_,fun p hp z => ?_⟩
 ·obtain ⟨v,q⟩:=I.cell x c e
  exact absurd (Nat.lt_of_lt_of_le q.lt (by rw [z]; exact hb)) (Nat.lt_irrefl _)
 ·exact absurd (Nat.lt_of_lt_of_le (Heap.lt_size (I.pin p hp).1) (by rw [z]; exact hb)) (Nat.lt_irrefl _)
structure Turn (P:Program) (w:World) (K:PySem.W.Frag) (tg:Expr) (J:It) (fp:List Addr) (it:Addr) (tn:Nat → Heap → Prop):Prop where
 mem:it ∈ fp
 obj:∀ i h,tn i h → ∀ b ∈ fp,∃ o,h.get? b = some o ∧ ∀ v,o.data ≠ .cell v
 keep:∀ i h h',tn i h → (∀ b ∈ fp,∀ o,h.get? b = some o → h'.get? b = some o) → tn i h'
 item:∀ (X:Cx),X.prog = P → X.w = w → X.K = K → X.calm = true → ∀ (i:Nat) (ae:List (Addr × Obj)) (s:Shared) (σ:St) (H:Hp) (E:Value → Shared → Prop),aG X ae σ H s → (∀ b ∈ fp,nO X ae H b) → tn i s.heap → J.go i H →
  wpAny (model P w) X.A (pyNext (.ref it)) (fun r s1 => ∃ u,r = some u ∧
   wpAny (model P w) X.A (letOwnedTupleGo tg (.ref it) u) (fun _ s2 => ∃ x H',aG X ae σ H' s2 ∧ ba x u ∧ J.Ij i H x H' ∧ tn (i + 1) s2.heap ∧ ∀ b ∈ fp,H' b = none) E s1) E s
 done:∀ (X:Cx),X.prog = P → X.w = w → X.K = K → X.calm = true → ∀ (i:Nat) (ae:List (Addr × Obj)) (s:Shared) (σ:St) (H:Hp) (E:Value → Shared → Prop),aG X ae σ H s → (∀ b ∈ fp,nO X ae H b) → tn i s.heap → J.stop i H →
  wpAny (model P w) X.A (pyNext (.ref it)) (fun r s1 => r = none ∧ aG X ae σ H s1) E s
 self:∀ (A:Around) (i:Nat) (s:Shared) (Q:Value → Shared → Prop) (E:Value → Shared → Prop),tn i s.heap → Q (.ref it) s → wpAny (model P w) A (pyIter (.ref it)) Q E s
noncomputable abbrev TI:=St → Hp → (It → Hp → Prop) → Prop
noncomputable def N0 (X:Cx) (ae:List (Addr × Obj)) (σ:St) (tg:Expr) (R:It → Hp → Prop) (Ko:Value) (s2:Shared):Prop :=
 ∃ (it:Addr) (fp:List Addr) (tn:Nat → Heap → Prop) (J:It) (H':Hp),Ko = .ref it ∧ aG X ae σ H' s2 ∧ Turn X.prog X.w X.K tg J fp it tn ∧ tn 0 s2.heap ∧ (∀ b ∈ fp,nO X ae H' b) ∧ R J H'
noncomputable def PI (X:Cx) (tg iter:Expr) (wi:TI):Prop :=
 ∀ (ae:List (Addr × Obj)) (s:Shared) (σ:St) (H:Hp) (R:It → Hp → Prop),aG X ae σ H s → wi σ H R →
  wpAny (model X.prog X.w) X.A (eval iter X.env) (fun v s1 => wpAny (model X.prog X.w) X.A (pyIter v) (N0 X ae σ tg R) X.xe s1) X.xe s
theorem uA {M:Model} {A:Around} {E:Value → Shared → Prop} {s:Shared} {tg:Expr} {it:Addr} {u:Value} {o:Obj} {n:String} {vs:Array Value} {Q:Unit → Shared → Prop} (ho:s.heap.get? it = some o) (hc:o.cls = .type n) (hd:o.data = .fields vs)
    (hn:["enumerate","zip","dict_itemiterator","dict_reverseitemiterator","odict_iterator","itertools.zip_longest","itertools.pairwise"].contains n = false) (hQ:Q () s):wpAny M A (letOwnedTupleGo tg (.ref it) u) Q E s:=by
  unfold letOwnedTupleGo
  cases tg <;> first
    | exact wpAny_pure hQ
    | (cases u <;> first
        | exact wpAny_pure hQ
        | (refine wpAny_bind (wpAny_load ho ?_)
           rw [hc,hd]
           show wpAny M A (if (["enumerate","zip","dict_itemiterator","dict_reverseitemiterator","odict_iterator","itertools.zip_longest","itertools.pairwise"].contains n && vs[0]? == some (rawInt _)) = true then _ else _) Q E s
           rw [if_neg (by intro h; rw [hn,Bool.false_and] at h; cases h)]
           exact wpAny_pure hQ))
noncomputable def Lu (K:PySem.W.Frag) (a:Addr):It :=
 ⟨fun i H => ∃ xs x,i8 K H a xs ∧ xs[i]? = some x,fun i H x H' => H' = H ∧ ∀ xs,i8 K H a xs → xs[i]? = some x,fun i H => ∃ xs,i8 K H a xs ∧ xs.length ≤ i⟩
noncomputable def Lv (K:PySem.W.Frag) (a:Addr):It :=
 ⟨fun i H => ∃ xs x,hR K H a xs ∧ xs[i]? = some x,fun i H x H' => H' = H ∧ ∀ xs,hR K H a xs → xs[i]? = some x,fun i H => ∃ xs,hR K H a xs ∧ xs.length ≤ i⟩
noncomputable def Ik (lo:Int) (n:Nat):It:=⟨fun i _ => i < n,fun i H x H' => H' = H ∧ x = .int (lo + i),fun i _ => n ≤ i⟩
theorem vE {P:Program} {w:World} {K:PySem.W.Frag} {tg:Expr} (a it:Addr):Turn P w K tg (Lu K a) [it] it (fun i h => h.IsListIter it a i) where
 mem:=by simp
 obj:=fun i h st b hb => by
  have e:b = it:=by simpa using hb
  subst e
  obtain ⟨o,e,c,d⟩:=st
  exact ⟨o,e,fun v z => by rw [d] at z; cases z⟩
 keep:=fun i h h' st k => st.at fun o e => k it (by simp) o e
 item:=by
  intro X hP hw hK hc i ae s σ H E I hf st hg
  subst hP hw hK
  obtain ⟨xs,x,hq,hx⟩:=hg
  obtain ⟨aA,rv,p,hz⟩:=I.list hq
  obtain ⟨u,hu,ru⟩:=rv.get hx
  obtain ⟨f0,f1,f2,f3,f4,f5⟩:=hf it (by simp)
  refine wpAny_pyNext_list_item st p.isList (x:=u) (by simpa using hu) fun h' av sb => ?_
  have I1:aG X ae σ H { s with heap:=h' }:=I.turned (t':=s.toks) (fun b o hb e => (sb.2 b hb).trans e) f0 f1 f3 f4 f5
  obtain ⟨o,e,c,d⟩:=id av
  exact ⟨u,rfl,uA (s:={ s with heap:=h' }) e c d (by decide) ⟨x,H,I1,ru,⟨rfl,fun ys hy => by rw [I.lS hy hq]; exact hx⟩,av,fun b hb => (hf b hb).1⟩⟩
 done:=by
  intro X hP hw hK hc i ae s σ H E I hf st hg
  subst hP hw hK
  obtain ⟨xs,hq,hx⟩:=hg
  obtain ⟨aA,rv,p,hz⟩:=I.list hq
  obtain ⟨f0,f1,f2,f3,f4,f5⟩:=hf it (by simp)
  have hl:=rv.length
  exact wpAny_pyNext_list_end (I.ok.hd hc) st p.isList (by simp; lia) fun h' eb => ⟨rfl,I.turned (t':=s.toks) (fun b o hb e => eb b o hb e) f0 f1 f3 f4 f5⟩
 self:=fun _ _ _ _ _ st h => wpAny_pyIter_listiter st h
theorem si {P:Program} {w:World} {K:PySem.W.Frag} {tg:Expr} (a it:Addr):Turn P w K tg (Lv K a) [it] it (fun i h => h.IsTupleIter it a i) where
 mem:=by simp
 obj:=fun i h st b hb => by
  have e:b = it:=by simpa using hb
  subst e
  obtain ⟨o,e,c,d⟩:=st
  exact ⟨o,e,fun v z => by rw [d] at z; cases z⟩
 keep:=fun i h h' st k => st.at fun o e => k it (by simp) o e
 item:=by
  intro X hP hw hK hc i ae s σ H E I hf st hg
  subst hP hw hK
  obtain ⟨xs,x,hq,hx⟩:=hg
  obtain ⟨aA,rv,p,hz⟩:=I.tuple hq
  obtain ⟨u,hu,ru⟩:=rv.get hx
  obtain ⟨f0,f1,f2,f3,f4,f5⟩:=hf it (by simp)
  refine wpAny_pyNext_tuple_item st (show s.heap.IsTuple a aA.toArray from p) (x:=u) (by simpa using hu) fun h' av sb => ?_
  have I1:aG X ae σ H { s with heap:=h' }:=I.turned (t':=s.toks) (fun b o hb e => (sb.2 b hb).trans e) f0 f1 f3 f4 f5
  obtain ⟨o,e,c,d⟩:=id av
  exact ⟨u,rfl,uA (s:={ s with heap:=h' }) e c d (by decide) ⟨x,H,I1,ru,⟨rfl,fun ys hy => by rw [I.hU hy hq]; exact hx⟩,av,fun b hb => (hf b hb).1⟩⟩
 done:=by
  intro X hP hw hK hc i ae s σ H E I hf st hg
  subst hP hw hK
  obtain ⟨xs,hq,hx⟩:=hg
  obtain ⟨aA,rv,p,hz⟩:=I.tuple hq
  obtain ⟨f0,f1,f2,f3,f4,f5⟩:=hf it (by simp)
  have hl:=rv.length
  exact wpAny_pyNext_tuple_end (I.ok.hd hc) st (show s.heap.IsTuple a aA.toArray from p) (by simp; lia) fun h' eb => ⟨rfl,I.turned (t':=s.toks) (fun b o hb e => eb b o hb e) f0 f1 f3 f4 f5⟩
 self:=fun _ _ _ _ _ st h => wpAny_pyIter_tupleiter st h
theorem sj {P:Program} {w:World} {K:PySem.W.Frag} {tg:Expr} (it:Addr) (lo:Int) (n:Nat):Turn P w K tg (Ik lo n) [it] it (fun i h => IsRangeIter h it (lo + (i:Nat) * 1) ((n:Int) - (i:Nat)) 1) where
 mem:=by simp
 obj:=fun i h st b hb => by
  have e:b = it:=by simpa using hb
  subst e
  exact ⟨_,st,fun v z => by
   have z':Data.fields _ = Data.cell v:=z
   cases z'⟩
 keep:=fun i h h' st k => k it (by simp) _ st
 item:=by
  intro X hP hw hK hc i ae s σ H E I hf st hg
  subst hP hw hK
  obtain ⟨f0,f1,f2,f3,f4,f5⟩:=hf it (by simp)
  have W:=Walks.range (prog:=X.prog) (w:=X.w) (I.ok.hd hc) it lo 1 n
  refine W.item i s _ _ hg st fun v h' tk hv av kk => ?_
  obtain ⟨t,rfl⟩:=hv
  have I1:aG X ae σ H { s with heap:=h',toks:=tk }:=I.turned (fun b o hb e => kk b o (by simpa using hb) e) f0 f1 f3 f4 f5
  refine ⟨_,rfl,uA (s:={ s with heap:=h',toks:=tk }) (n:="range_iterator") av rfl rfl (by decide) ⟨.int (lo + i),H,I1,⟨t,?_⟩,⟨rfl,rfl⟩,av,fun b hb => (hf b hb).1⟩⟩
  rw [Int.mul_one]
 done:=by
  intro X hP hw hK hc i ae s σ H E I hf st hg
  subst hP hw hK
  obtain ⟨f0,f1,f2,f3,f4,f5⟩:=hf it (by simp)
  exact wpAny_pyNext_range_end (I.ok.hd hc) st (by have:n ≤ i:=hg; lia) fun h' eb => ⟨rfl,I.turned (t':=s.toks) (fun b o hb e => eb b o hb e) f0 f1 f3 f4 f5⟩
 self:=fun _ _ _ _ _ st h => wpAny_pyIter_rangeiter st h
end L2
namespace L2
open PySem PySem.Spec PyProof.Rows
section
variable {X:Cx} {tg:Expr}
theorem ql {ae:List (Addr × Obj)} {σ:St} {H:Hp} {s:Shared} {R:It → Hp → Prop} {E:Value → Shared → Prop} {lo hi:Int} {t u v:Tok} {tk:Nat} (I:aG X ae σ H s) (h1:-(2 ^ 62) ≤ lo) (h2:lo < 2 ^ 62) (h3:-(2 ^ 62) ≤ hi) (h4:hi < 2 ^ 62)
  (q:R (Ik lo (hi - lo).toNat) H):wpAny (model X.prog X.w) X.A (pyIter (.ref s.heap.objs.size)) (N0 X ae σ tg R) E { s with heap:=s.heap.push { cls:=.type "range",data:=.fields #[.int lo t,.int hi u,.int 1 v] },toks:=tk }:=by
 refine wpAny_pyIter_range (IsRange.new ..) (small_one h1 h2 h3 h4) ?_
 have I1:aG X ae σ H { s with heap:=s.heap.push { cls:=.type "range",data:=.fields #[.int lo t,.int hi u,.int 1 v] },toks:=tk }:=I.kept fun b o e => Heap.get?_push_of_some _ e
 refine ⟨(s.heap.push { cls:=.type "range",data:=.fields #[.int lo t,.int hi u,.int 1 v] }).objs.size,[(s.heap.push { cls:=.type "range",data:=.fields #[.int lo t,.int hi u,.int 1 v] }).objs.size],_,_,H,rfl,
  I1.kept (t':=tk) fun b o e => Heap.get?_push_of_some _ e,sj _ lo (hi - lo).toNat,?_,fun b hb => ?_,q⟩
 ·have e1:lo + ((0:Nat):Int) * 1 = lo:=by simp
  have e2:(((hi - lo).toNat:Nat):Int) - ((0:Nat):Int) = Builtin.Range.rangeSize lo hi 1:=by rw [rangeSize_one]; split <;> lia
  show IsRangeIter _ _ (lo + ((0:Nat):Int) * 1) ((((hi - lo).toNat:Nat):Int) - ((0:Nat):Int)) 1
  rw [e1,e2]
  exact Heap.get?_push_size _ rfl
 ·have e:b = (s.heap.push { cls:=.type "range",data:=.fields #[.int lo t,.int hi u,.int 1 v] }).objs.size:=by simpa using hb
  subst e
  exact I1.vD (Nat.le_refl _) (I1.bI.fresh (Nat.le_refl _))
noncomputable def Il (ta:TA):TI:=fun σ H R => ta σ H fun vs H1 => ∃ j:Int,vs = [.int j] ∧ -(2 ^ 62) ≤ j ∧ j < 2 ^ 62 ∧ R (Ik 0 j.toNat) H1
noncomputable def Im (ta:TA):TI:=fun σ H R => ta σ H fun vs H1 => ∃ i j:Int,vs = [.int i,.int j] ∧ (-(2 ^ 62) ≤ i ∧ i < 2 ^ 62 ∧ -(2 ^ 62) ≤ j ∧ j < 2 ^ 62) ∧ R (Ik i (j - i).toNat) H1
theorem vF {a:Expr} {ta:TA} {p pos:Pos} (hg:Gl X "range") (hm:X.mg "range" = none) (ha:PA X [a] ta) (hs:starEach [a] X.env = [(false,eval a X.env)]:=by rfl):PI X tg (.Call (.Name "range" p) [a] [] pos) (Il ta):=by
 intro ae s σ H R I h
 refine Call_ (gH I hg hm boot_range (PyProof.Rows.callWith_type1 (bF (ha pos ae s σ H _ I h) fun us s1 ⟨vs,H1,I1,r1,q1⟩ => ?_) hs rfl))
 obtain ⟨j,e,q1,q2,q⟩:=q1
 subst e
 cases r1 with
 | cons r rr =>
  cases rr
  obtain ⟨t,rfl⟩:=r
  exact call_range_1 (ql I1 (by lia) (by lia) q1 q2 (by simpa using q))
theorem vG {a b:Expr} {ta:TA} {p pos:Pos} (hg:Gl X "range") (hm:X.mg "range" = none) (ha:PA X [a,b] ta) (hs:starEach [a,b] X.env = [(false,eval a X.env),(false,eval b X.env)]:=by rfl) (fP:starEach [b] X.env = [(false,eval b X.env)]:=by rfl) :
  PI X tg (.Call (.Name "range" p) [a,b] [] pos) (Im ta):=by
 intro ae s σ H R I h
 refine Call_ (gH I hg hm boot_range (PyProof.Rows.callWith_type1 (bF (ha pos ae s σ H _ I h) fun us s1 ⟨vs,H1,I1,r1,q1⟩ => ?_) (by rw [hs,fP]) (by rw [fP]; rfl)))
 obtain ⟨i,j,e,⟨q1,q2,q3,q4⟩,q⟩:=q1
 subst e
 cases r1 with
 | cons r rr =>
  cases rr with
  | cons r' rr =>
   cases rr
   obtain ⟨t,rfl⟩:=r
   obtain ⟨t',rfl⟩:=r'
   exact call_range_2 (ql I1 q1 q2 q3 q4 q)
noncomputable def Lw (wi:TI) (g:TG) (tb:TS):TS:=fun D σ H => wi σ H fun J H1 => ∃ W:Nat → Nat → St → Hp → Prop,(∃ m,W 0 m σ H1) ∧ ∀ i m σ H,W i m σ H →
 (J.stop i H ∧ D.nx σ H) ∨ (J.go i H ∧ ∃ N:St → Hp → Prop,(∀ σ' H',N σ' H' → ∃ m',m' < m ∧ W (i + 1) m' σ' H') ∧ ∀ x H',J.Ij i H x H' → g x σ H' fun σ2 H2 => tb { D with nx:=N,ct:=N,bk:=D.nx } σ2 H2)
noncomputable def lT (fp:List Addr) (h:Heap):List (Addr × Obj):=fp.filterMap fun b => (h.get? b).map fun o => (b,o)
theorem f9 {fp:List Addr} {h:Heap} {b:Addr} {o:Obj} (hb:b ∈ fp) (e:h.get? b = some o):(b,o) ∈ lT fp h:=List.mem_filterMap.mpr ⟨b,hb,by rw [e]; rfl⟩
theorem vH {fp:List Addr} {h:Heap} {p:Addr × Obj} (hp:p ∈ lT fp h):p.1 ∈ fp ∧ h.get? p.1 = some p.2:=by
 obtain ⟨b,hb,e⟩:=List.mem_filterMap.mp hp
 cases q:h.get? b with
 | none => rw [q] at e; cases e
 | some o =>
  rw [q] at e
  have e':(b,o) = p:=Option.some.inj e
  subst e'
  exact ⟨hb,q⟩
theorem aG.pinned {ae:List (Addr × Obj)} {σ:St} {H:Hp} {s:Shared} {fp:List Addr} (I:aG X ae σ H s) (hf:∀ b ∈ fp,nO X ae H b) (ho:∀ b ∈ fp,∃ o,s.heap.get? b = some o ∧ ∀ v,o.data ≠ .cell v):aG X (ae ++ lT fp s.heap) σ H s :=
 I.lI fun p hp => (List.mem_append.mp hp).elim (fun z => I.pin p (List.mem_append_right _ z)) fun z => by
  obtain ⟨hb,e⟩:=vH z
  obtain ⟨f0,f1,f2,_⟩:=hf p.1 hb
  obtain ⟨o,e',d⟩:=ho p.1 hb
  rw [e] at e'; cases e'
  exact ⟨e,f0,f1,f2,d⟩
theorem aG.lU {ae pl:List (Addr × Obj)} {σ:St} {H:Hp} {s:Shared} (I:aG X (ae ++ pl) σ H s):aG X ae σ H s:=I.lI fun p hp => I.pin p (List.mem_append_right _ (List.mem_append_left _ hp))
theorem EV {iter:Expr} {body:List Stmt} {wi:TI} {g:TG} {tb:TS} {pos:Pos} (hp:PassesOwn (model X.prog X.w) X.A X.env X.xe) (hc:X.calm = true) (hi:PI X tg iter wi) (hg:PG X tg g) (hb:gG X body tb)
  (hs:∀ x,foldedSetIterable iter X.env x = pure x:=by intro _; rfl):PS X (.For tg iter body [] pos) (Lw wi g tb):=by
 intro ae s σ H D I h
 refine wpAny_For (bF (hi ae s σ H _ I h) fun v s1 h1 => bF h1 fun Ko s2 h2 => ?_) hs
 obtain ⟨it,fp,tn,J,H2,e,I2,T,st2,f2,W,⟨m0,w0⟩,turn⟩:=h2
 subst e
 -- Io stays true of A? EW objects through A? loop
 have sk:∀ {H':Hp},(∀ b ∈ fp,H' b = none) → ∀ b ∈ fp,nO X ae H' b:=fun hn b hb => ⟨hn b hb,(f2 b hb).2⟩
 refine codeAny_forLoop_any (fun n s' => ∃ i σ' H',aG X ae σ' H' s' ∧ tn i s'.heap ∧ (∀ b ∈ fp,H' b = none) ∧ W i n σ' H') ?_ m0 ⟨0,σ,H2,I2,st2,fun b hb => (f2 b hb).1,w0⟩
 rintro n s3 ⟨i,σ3,H3,I3,fD,Ip,w3⟩
 rcases turn i n σ3 H3 w3 with ⟨stop,qn⟩ | ⟨go,N,hN,step⟩
 ·refine wpAny_passesOwn hp (bF (T.done X rfl rfl rfl hc i ae s3 σ3 H3 X.xe I3 (sk Ip) fD stop) fun r s4 ⟨hr,I4⟩ => ?_)
  subst hr
  exact wpAny_execs_nil ⟨σ3,H3,I4,qn⟩
 ·refine wpAny_passesOwn hp (bF (T.item X rfl rfl rfl hc i ae s3 σ3 H3 X.xe I3 (sk Ip) fD go) fun r s4 ⟨u,hr,h4⟩ => ?_)
  subst hr
  refine wpAny_passesOwn hp (bF h4 fun _ s5 ⟨x,H5,I5,r5,y5,EY,Lx⟩ => ?_)
  have Ly:=I5.pinned (sk Lx) (T.obj _ _ EY)
  refine wpAny_passesOwn hp (bF (hg _ s5 σ3 H5 x u _ Ly r5 (step x H5 y5)) fun _ s6 ⟨σ6,H6,I6,q6⟩ => ?_)
  refine wpAny_passesOwn hp (bF (hb _ s6 σ6 H6 _ I6 q6) fun f s7 q7 => ?_)
  have again:∀ {σ7:St} {H7:Hp},aG X (ae ++ lT fp s5.heap) σ7 H7 s7 → N σ7 H7 → ∃ m,m < n ∧ ∃ i σ' H',aG X ae σ' H' s7 ∧ tn i s7.heap ∧ (∀ b ∈ fp,H' b = none) ∧ W i m σ' H':=fun {σ7 H7} I7 n7 => by
   obtain ⟨m',hm,w7⟩:=hN σ7 H7 n7
   refine ⟨m',hm,i + 1,σ7,H7,I7.lU,T.keep _ _ _ EY fun b hb o e => (I7.pin (b,o) (List.mem_append_right _ (List.mem_append_right _ (f9 hb e)))).1,fun b hb => ?_,w7⟩
   obtain ⟨o,e,d⟩:=T.obj _ _ EY b hb
   exact (I7.pin (b,o) (List.mem_append_right _ (List.mem_append_right _ (f9 hb e)))).2.1
  cases f with
  | next => obtain ⟨σ7,H7,I7,n7⟩:=q7; exact again I7 n7
  | cont => obtain ⟨σ7,H7,I7,n7⟩:=q7; exact again I7 n7
  | brk => obtain ⟨σ7,H7,I7,q7⟩:=q7; exact ⟨σ7,H7,I7.lU,q7⟩
  | ret v => obtain ⟨x7,σ7,H7,I7,r7,q7⟩:=q7; exact ⟨x7,σ7,H7,I7.lU,r7,q7⟩
end
end L2
namespace L2
open PySem PySem.Spec PyProof.Rows
noncomputable abbrev R2:=V → V → Hp → VK → Prop
noncomputable def c5 (X:Cx) (f:Value → Value → Sem Value) (r:R2):Prop :=
 ∀ (ae:List (Addr × Obj)) (s:Shared) (σ:St) (H:Hp) (x y:V) (v u:Value) (Q:VK),aG X ae σ H s → ba x v → ba y u → r x y H Q →
  wpAny (model X.prog X.w) X.A (f v u) (EP X ae σ Q) X.xe s
noncomputable def Lz (X:Cx) (f:Value → Sem Value) (r:V → Hp → VK → Prop):Prop :=
 ∀ (ae:List (Addr × Obj)) (s:Shared) (σ:St) (H:Hp) (x:V) (v:Value) (Q:VK),aG X ae σ H s → ba x v → r x H Q →
  wpAny (model X.prog X.w) X.A (f v) (EP X ae σ Q) X.xe s
noncomputable def bV (X:Cx) (f:Value) (r:List V → Hp → VK → Prop):Prop :=
 ∀ (ae:List (Addr × Obj)) (s:Shared) (σ:St) (H:Hp) (xs:List V) (us:List Value) (Q:VK),aG X ae σ H s → a7 xs us → r xs H Q →
  wpAny (model X.prog X.w) X.A (call f us) (EP X ae σ Q) X.xe s
noncomputable def HD (r:R2) (ta tb:TE):TE:=fun σ H Q => ta σ H fun x H1 => tb σ H1 fun y H2 => r x y H2 Q
noncomputable def O3 (r:V → Hp → VK → Prop) (ta:TE):TE:=fun σ H Q => ta σ H fun x H1 => r x H1 Q
noncomputable def rI (C:Int → Int → Prop) (g:Int → Int → V):R2:=fun x y H Q => ∃ i j,x = .int i ∧ y = .int j ∧ C i j ∧ Q (g i j) H
noncomputable def EZ (g:Int → Int → V):R2:=fun x y H Q => ∃ i j,x = .int i ∧ y = .int j ∧ Q (g i j) H
noncomputable def rU (g:Int → V):V → Hp → VK → Prop:=fun x H Q => ∃ i,x = .int i ∧ Q (g i) H
section
variable {X:Cx} {a b c:Expr} {ta tb tc:TE} {pos:Pos}
theorem E1 (ha:PE X a ta) (hb:PE X b tb) {ae:List (Addr × Obj)} {s:Shared} {σ:St} {H:Hp} {R:V → V → Hp → Prop} (I:aG X ae σ H s)
  (h:ta σ H fun x H1 => tb σ H1 fun y H2 => R x y H2) {Q:Value → Shared → Prop} {f:Value → Value → Sem Value}
  (hf:∀ v u s2 x y H2,aG X ae σ H2 s2 → ba x v → ba y u → R x y H2 → wpAny (model X.prog X.w) X.A (f v u) Q X.xe s2) :
  wpAny (model X.prog X.w) X.A (eval a X.env) (fun v s₁ => wpAny (model X.prog X.w) X.A (eval b X.env) (fun u s₂ => wpAny (model X.prog X.w) X.A (f v u) Q X.xe s₂) X.xe s₁) X.xe s:=by
 refine bF (ha ae s σ H _ I h) fun v s1 ⟨x,H1,I1,r1,q1⟩ => ?_
 refine bF (hb ae s1 σ H1 _ I1 q1) fun u s2 ⟨y,H2,I2,r2,q2⟩ => ?_
 exact hf v u s2 x y H2 I2 r1 r2 q2
theorem Iq {op:Operator} {r:R2} (ho:c5 X (binaryOp op) r) (ha:PE X a ta) (hb:PE X b tb):PE X (.BinOp a op b pos) (HD r ta tb):=by
 intro ae s σ H Q I h
 exact wpAny_BinOp (E1 ha hb I h fun v u s2 x y H2 I2 rx ry q => ho ae s2 σ H2 x y v u Q I2 rx ry q)
theorem Ir {op:UnaryOp} {r:V → Hp → VK → Prop} (ho:Lz X (unaryOp op) r) (ha:PE X a ta):PE X (.UnaryOp op a pos) (O3 r ta):=by
 intro ae s σ H Q I h
 exact UnaryOp_ (bF (ha ae s σ H _ I h) fun v s1 ⟨x,H1,I1,r1,q1⟩ => ho ae s1 σ H1 x v Q I1 r1 q1)
theorem Kp {f:Value → Value → Sem Value} {C:Int → Int → Prop} {g:Int → Int → Int}
  (rule:∀ (i j:Int) (t u:Tok) (s:Shared) (Q:Value → Shared → Prop) (E:Value → Shared → Prop),C i j → Q (.int (g i j) s.toks) { s with toks:=s.toks + 1 } → wpAny (model X.prog X.w) X.A (f (.int i t) (.int j u)) Q E s) :
  c5 X f (rI C fun i j => .int (g i j)):=by
 intro ae s σ H x y v u Q I rx ry h
 obtain ⟨i,j,rfl,rfl,hc,q⟩:=h
 obtain ⟨t,rfl⟩:=rx
 obtain ⟨t',rfl⟩:=ry
 exact rule i j t t' s _ _ hc ⟨.int (g i j),H,I.tok _,⟨_,rfl⟩,q⟩
theorem Iu {f:Value → Value → Sem Value} {g:Int → Int → Int}
  (rule:∀ (i j:Int) (t u:Tok) (s:Shared) (Q:Value → Shared → Prop) (E:Value → Shared → Prop),Q (.int (g i j) s.toks) { s with toks:=s.toks + 1 } → wpAny (model X.prog X.w) X.A (f (.int i t) (.int j u)) Q E s) :
  c5 X f (EZ fun i j => .int (g i j)):=by
 intro ae s σ H x y v u Q I rx ry h
 obtain ⟨i,j,rfl,rfl,q⟩:=h
 obtain ⟨t,rfl⟩:=rx
 obtain ⟨t',rfl⟩:=ry
 exact rule i j t t' s _ _ ⟨.int (g i j),H,I.tok _,⟨_,rfl⟩,q⟩
theorem E2 {f:Value → Value → Sem Value} {g:Int → Int → Bool}
  (rule:∀ (i j:Int) (t u:Tok) (s:Shared) (Q:Value → Shared → Prop) (E:Value → Shared → Prop),Q (.bool (g i j)) s → wpAny (model X.prog X.w) X.A (f (.int i t) (.int j u)) Q E s) :
  c5 X f (EZ fun i j => .bl (g i j)):=by
 intro ae s σ H x y v u Q I rx ry h
 obtain ⟨i,j,rfl,rfl,q⟩:=h
 obtain ⟨t,rfl⟩:=rx
 obtain ⟨t',rfl⟩:=ry
 exact rule i j t t' s _ _ ⟨.bl (g i j),H,I,rfl,q⟩
noncomputable def LA (i j:Int):Prop:=0 ≤ j ∧ j ≤ 1000000 ∧ i.natAbs < 2 ^ 64
noncomputable def x9 (i j:Int):Prop:=(-(2 ^ 64) < i ∧ i < 2 ^ 64) ∨ (-(2 ^ 64) < j ∧ j < 2 ^ 64)
theorem x9.ok {i j:Int} (h:x9 i j):IntMulOk i j:=by
 rcases h with ⟨h1,h2⟩ | ⟨h1,h2⟩
 ·exact .of_left (intBits_le_64 h1 h2)
 ·exact .of_right (intBits_le_64 h1 h2)
theorem E3:c5 X (binaryOp .Add) (EZ fun i j => .int (i + j)):=Iu fun _ _ _ _ _ _ _ q => add_int q
theorem E4:c5 X (binaryOp .Sub) (EZ fun i j => .int (i - j)):=Iu fun _ _ _ _ _ _ _ q => sub_int q
theorem E5:c5 X (binaryOp .Mult) (rI x9 fun i j => .int (i * j)):=Kp fun _ _ _ _ _ _ _ hc q => mul_int q hc.ok
theorem Bw:c5 X (binaryOp .Mod) (rI (fun _ j => j ≠ 0) fun i j => .int (i.fmod j)):=Kp fun _ _ _ _ _ _ _ hc q => mod_int' hc q
theorem O4 {f:Value → Sem Value} {g:Int → Int}
  (rule:∀ (i:Int) (t:Tok) (s:Shared) (Q:Value → Shared → Prop) (E:Value → Shared → Prop),Q (.int (g i) s.toks) { s with toks:=s.toks + 1 } → wpAny (model X.prog X.w) X.A (f (.int i t)) Q E s) :
  Lz X f (rU fun i => .int (g i)):=by
 intro ae s σ H x v Q I rx h
 obtain ⟨i,rfl,q⟩:=h
 obtain ⟨t,rfl⟩:=rx
 exact rule i t s _ _ ⟨.int (g i),H,I.tok _,⟨_,rfl⟩,q⟩
theorem E6:Lz X (unaryOp .USub) (rU fun i => .int (-i)):=O4 fun _ _ _ _ _ q => neg_int q
end
section
variable {X:Cx} {a b c:Expr} {ta tb tc:TE} {pos:Pos}
theorem E7 {ae:List (Addr × Obj)} {σ:St} {H:Hp} {s:Shared} {Q:VK} {k k':Bool} (I:aG X ae σ H s) (q:Q (.bl k) H) (e:k = k'):EP X ae σ Q (.bool k') s:=by
 subst e
 exact ⟨.bl k,H,I,rfl,q⟩
theorem Iv:c5 X (compareOp .Lt) (EZ fun i j => .bl (decide (i < j))):=E2 fun _ _ _ _ _ _ _ q => lt_int q
theorem Iw:c5 X (compareOp .LtE) (EZ fun i j => .bl (decide (i ≤ j))):=E2 fun _ _ _ _ _ _ _ q => le_int q
theorem Iy:c5 X (compareOp .Gt) (EZ fun i j => .bl (decide (j < i))):=E2 fun _ _ _ _ _ _ _ q => gt_int q
theorem vI:c5 X (compareOp .In) (fun x y H Q => ∃ i j,x = .str i ∧ y = .str j ∧ Q (.bl (!(Builtin.Str.occurrences j i 0 j.length 1).isEmpty)) H):=by
 intro ae s σ H x y v u Q I rx ry h
 obtain ⟨i,j,rfl,rfl,q⟩:=h
 obtain ⟨t,rfl⟩:=rx
 obtain ⟨t',rfl⟩:=ry
 exact in_str (E7 I q rfl)
theorem c5.or {f:Value → Value → Sem Value} {r r':R2} (h:c5 X f r) (h':c5 X f r'):c5 X f (fun x y H Q => r x y H Q ∨ r' x y H Q):=by
 intro ae s σ H x y v u Q I rx ry q
 rcases q with q | q
 ·exact h ae s σ H x y v u Q I rx ry q
 ·exact h' ae s σ H x y v u Q I rx ry q
theorem x_ (b:Expr) {op:CmpOp} (h:op ≠ .In:=by decide) (h2:op ≠ .NotIn:=by decide):behindInMarks op b = false:=by
 have e1:(op == CmpOp.In) = false:=by cases op <;> first | rfl | exact absurd rfl h
 have e2:(op == CmpOp.NotIn) = false:=by cases op <;> first | rfl | exact absurd rfl h2
 cases b <;> simp [behindInMarks,e1,e2]
theorem Bx {op:CmpOp} {r:R2} (ho:c5 X (compareOp op) r) (ha:PE X a ta) (hb:PE X b tb) (hm:behindInMarks op b = false):PE X (.Compare a [op] [b] pos) (HD r ta tb):=by
 intro ae s σ H Q I h
 exact wpAny_Compare1 (E1 ha hb I h fun v u s2 x y H2 I2 rx ry q => ho ae s2 σ H2 x y v u Q I2 rx ry q) hm
noncomputable def DW (t:TE):TT:=fun σ H Q => t σ H fun x H' => ∃ k,x = .bl k ∧ Q k H'
theorem By {op:CmpOp} {r:R2} (ho:c5 X (compareOp op) r) (ha:PE X a ta) (hb:PE X b tb) (hm:behindInMarks op b = false):PT X (.Compare a [op] [b] pos) (DW (HD r ta tb)):=by
 intro ae s σ H Q I h
 refine wpAny_isTrue_Compare1 (bF (ha ae s σ H _ I h) fun v s1 ⟨x,H1,I1,r1,q1⟩ => bF (hb ae s1 σ H1 _ I1 q1) fun u s2 ⟨y,H2,I2,r2,q2⟩ =>
  bF (ho ae s2 σ H2 x y v u _ I2 r1 r2 q2) fun c s3 ⟨z,H3,I3,r3,k,e,q3⟩ => ?_) hm
 subst e
 cases r3
 exact wpAny_truthy_bool ⟨H3,I3,q3⟩
noncomputable def oY (r r':R2) (ta tb tc:TE):TE:=fun σ H Q => ta σ H fun x H1 => tb σ H1 fun y H2 => r x y H2 fun z H3 => ∃ k,z = .bl k ∧
 (if k = true then tc σ H3 fun w' H4 => r' y w' H4 Q else Q (.bl false) H3)
theorem x! {op sm:CmpOp} {r r':R2} (ho:c5 X (compareOp op) r) (lH:c5 X (compareOp sm) r') (ha:PE X a ta) (hb:PE X b tb) (hc:PE X c tc)
  (hm:lastMarks [op,sm] [b,c] = false:=by with_unfolding_all rfl):PE X (.Compare a [op,sm] [b,c] pos) (oY r r' ta tb tc):=by
 intro ae s σ H Q I h
 refine Compare_chain (bF (ha ae s σ H _ I h) fun v s1 ⟨x,H1,I1,r1,q1⟩ => chain_link (bF (hb ae s1 σ H1 _ I1 q1) fun u s2 ⟨y,H2,I2,r2,q2⟩ =>
  bF (ho ae s2 σ H2 x y v u _ I2 r1 r2 q2) fun d s3 ⟨z,H3,I3,r3,k,e,q3⟩ => ?_)) hm
 subst e
 cases r3
 refine wpAny_truthy_bool ?_
 cases k with
 | false => exact ite_ff ⟨.bl false,H3,I3,rfl,q3⟩
 | true => exact ite_tt (chain_last (bF (hc ae s3 σ H3 _ I3 q3) fun w' s4 ⟨z',H4,I4,r4,q4⟩ => lH ae s4 σ H4 y z' u w' Q I4 r2 r4 q4))
theorem x? {op sm:CmpOp} {r r':R2} (ho:c5 X (compareOp op) r) (lH:c5 X (compareOp sm) r') (ha:PE X a ta) (hb:PE X b tb) (hc:PE X c tc)
  (hm:lastMarks [op,sm] [b,c] = false:=by with_unfolding_all rfl):PT X (.Compare a [op,sm] [b,c] pos) (DW (oY r r' ta tb tc)):=by
 intro ae s σ H Q I h
 refine isTrue_chain (bF (ha ae s σ H _ I h) fun v s1 ⟨x,H1,I1,r1,q1⟩ => test_link (bF (hb ae s1 σ H1 _ I1 q1) fun u s2 ⟨y,H2,I2,r2,q2⟩ =>
  bF (ho ae s2 σ H2 x y v u _ I2 r1 r2 q2) fun d s3 ⟨z,H3,I3,r3,k,e,q3⟩ => ?_)) hm
 subst e
 cases r3
 refine wpAny_truthy_bool ?_
 cases k with
 | false =>
  obtain ⟨k',e',q'⟩:=q3
  cases e'
  exact ite_ff ⟨H3,I3,q'⟩
 | true =>
  refine ite_tt (test_last (bF (hc ae s3 σ H3 _ I3 q3) fun w' s4 ⟨z',H4,I4,r4,q4⟩ => bF (lH ae s4 σ H4 y z' u w' _ I4 r2 r4 q4) fun d' s5 ⟨z2,H5,I5,r5,k2,e2,q5⟩ => ?_))
  subst e2
  cases r5
  exact wpAny_truthy_bool ⟨H5,I5,q5⟩
theorem jI:(sizeLine:Nat) < 2 ^ 63:=by rw [sizeLine_eq]; decide
theorem sq:c5 X (binaryOp .Add) (fun x y H Q => ∃ i j,x = .str i ∧ y = .str j ∧ i.length + j.length ≤ sizeLine ∧ Q (.str (i ++ j)) H):=by
 intro ae s σ H x y v u Q I rx ry h
 obtain ⟨i,j,rfl,rfl,hz,q⟩:=h
 obtain ⟨t,rfl⟩:=rx
 obtain ⟨t',rfl⟩:=ry
 exact add_str (fun t' tk => ⟨.str (i ++ j),H,I.tok _,⟨_,rfl⟩,q⟩) hz
theorem vals1 {x:V} {us:List Value} (r:a7 [x] us):∃ u,us = [u] ∧ ba x u:=by
 cases r with
 | cons r1 r2 => cases r2; exact ⟨_,rfl,r1⟩
theorem vals2 {x y:V} {us:List Value} (r:a7 [x,y] us):∃ u w',us = [u,w'] ∧ ba x u ∧ ba y w':=by
 cases r with
 | cons r1 r2 =>
  cases r2 with
  | cons r3 r4 => cases r4; exact ⟨_,_,rfl,r1,r3⟩
theorem ya:bV X (.builtin "abs") (fun xs H Q => ∃ i,xs = [.int i] ∧ Q (.int (if i < 0 then -i else i)) H):=by
 intro ae s σ H xs us Q I r h
 obtain ⟨i,rfl,q⟩:=h
 obtain ⟨u,rfl,t,rfl⟩:=vals1 r
 exact call_abs_int fun u tk => ⟨.int (if i < 0 then -i else i),H,I.tok _,⟨_,rfl⟩,q⟩
theorem oZ:bV X (.type "str") (fun xs H Q => ∃ i,xs = [.int i] ∧ i.natAbs.log2 < 1920 ∧ Q (.str (toString i)) H):=by
 intro ae s σ H xs us Q I r h
 obtain ⟨i,rfl,hz,q⟩:=h
 obtain ⟨u,rfl,t,rfl⟩:=vals1 r
 exact PySem.P.str_of_int hz ⟨.str _,H,I.tok _,⟨_,rfl⟩,q⟩
end
end L2
namespace L2
open PySem PySem.Spec PyProof.Rows
structure E8 (h:Heap) (x dx C:Addr) (mA:Str → Option Value):Prop where
 obj:h.get? x = some (PySem.W.instObj C dx)
 ns:h.Ns1 dx mA
 ne:dx ≠ x
theorem vJ {h:Heap} {dx:Addr} {mA:Str → Option Value} (n:h.Ns1 dx mA):∃ od,h.get? dx = some od ∧ ∀ name,PySem.W.lookIn name od = some (mA name):=by
 obtain ⟨o,es,ep,ho,hd,hk,_,hm⟩:=n
 refine ⟨o,ho,fun name => ?_⟩
 have e:=hm name
 unfold nsFind findBy at e
 rw [← Array.find?_toList] at e
 unfold PySem.W.lookIn
 rw [hd]
 dsimp only
 split
 ·rename_i y q
  rw [q] at e
  exact congrArg some e
 ·rename_i q
  rw [q] at e
  have a:es.toList.any (·.refKey) = false:=by
   rw [List.any_eq_false]
   intro y hy
   obtain ⟨z,t,LB⟩:=hk y (Array.mem_toList_iff.mp hy)
   simp [DictEntry.refKey,LB]
  have a':¬ es.toList.any (·.refKey) = true:=by rw [a]; exact Bool.false_ne_true
  rw [if_neg a']
  exact congrArg some e
theorem E8.look {h:Heap} {x dx C:Addr} {mA:Str → Option Value} (I:E8 h x dx C mA):∃ od,PySem.W.InstAt h x (PySem.W.instObj C dx) C (some od) ∧ ∀ name,PySem.W.lookIn name od = some (mA name) :=
 let ⟨od,ho,hl⟩:=vJ I.ns
 ⟨od,⟨I.obj,rfl,rfl,ho⟩,hl⟩
theorem jE.some_of {v:V} {o:Option Value} (r:jE (some v) o):∃ u,o = some u ∧ ba v u:=by
 cases o with
 | none => exact (show False from r).elim
 | some u => exact ⟨u,rfl,r⟩
section
variable {P:Program} {w:World} {H H':Hp} {h h':Heap} {a C dx:Addr} {fs OZ:List (Str × V)}
theorem Bz (bI:f7 P w H h) (e:H a = some (.ins C dx fs)):∃ mA,E8 h a dx C mA ∧ (∀ f,jE (fs.lookup f) (mA f)) ∧ PySem.Within mA (fs.map (·.1)) ∧ fs.length ≤ 1000 ∧ H dx = some (.own a):=by
 obtain ⟨d,z,ne,ob,mA,n,r,q⟩:=(show bU P w H h a (.ins C dx fs) from bI a _ e)
 exact ⟨mA,⟨ob,n,ne⟩,r,q,z,d⟩
end
structure LC (K:PySem.W.Frag) (C:Addr):Prop where
 pg:PySem.W.plainGet K C Str.empty = true
 hd:PySem.W.hasDictIn K C = true
 po:PySem.W.plainOver K C = true
 sa:PySem.W.findIn K (.ref C) "__setattr__" = some (some (.builtin "object.__setattr__"))
theorem LC.get {K:PySem.W.Frag} {C:Addr} (c:LC K C) (f:Str):PySem.W.plainGet K C f = true:=c.pg
section
variable {X:Cx} {ae:List (Addr × Obj)} {σ:St} {H:Hp} {s:Shared} {A:Around} {E:Value → Shared → Prop} {Q:Value → Shared → Prop} {c:Value} {b:Bool}
inductive kJ (K:PySem.W.Frag) (H:Hp):V → Value → Prop where
 | cB:kJ K H .cB (.type "NoneType")
 | bl (x:Bool):kJ K H (.bl x) (.type "bool")
 | int (i:Int):kJ K H (.int i) (.type "int")
 | str (x:Str):kJ K H (.str x) (.type "str")
 | lF (x:UInt64):kJ K H (.lF x) (.type "float")
 | lst {a:Addr} {xs:List V} (e:H a = some (.lst xs)):kJ K H (.ref a) (.type "list")
 | iJ {a:Addr} {o:Obj} {xs:List V} (e:H a = some (.iJ o (.lst xs))):kJ K H (.ref a) (.type "list")
 | tup {a:Addr} {xs:List V} (e:H a = some (.tup xs)):kJ K H (.ref a) (.type "tuple")
 | dK {a:Addr} {aH:List (cI × V)} (e:H a = some (.dK aH)):kJ K H (.ref a) (.type "dict")
 | dT {a:Addr} {aH:List (List cI × V)} (e:H a = some (.dT aH)):kJ K H (.ref a) (.type "dict")
 | ins {a C dx:Addr} {fs:List (Str × V)} (e:H a = some (.ins C dx fs)) (cl:LC K C) (ha:PySem.W.findIn K (.ref C) "__class__" = some (some (.builtin "object.__class__")))
   (hn:PySem.W.specialIn K (.builtin "object.__class__") "__get__" = some (some (.builtin "getset_descriptor.__get__"))) (N1:PySem.W.takesIn K (.builtin "object.__class__") = some true)
   (hm:PySem.W.mroIn K C (.type "object") = some true):kJ K H (.ref a) (.ref C)
theorem dy {x:V} {u t:Value} (I:aG X ae σ H s) (rx:ba x u) (ty:kJ X.K H x t) (e:PySem.W.kitOne X.K t c = some b) (h:∀ tk,Q (.bool b) { s with toks:=tk }) :
  wpAny (model X.prog X.w) A (call (.builtin "isinstance") [u,c]) Q E s:=by
 cases ty with
 | cB => cases (show u = Value.none from rx); exact PySem.W.kia_one PySem.W.kitx_none I.lG True.intro e (fun z => nomatch z) h
 | bl y => cases (show u = Value.bool y from rx); exact PySem.W.kia_one PySem.W.kitx_bool I.lG True.intro e (fun z => nomatch z) h
 | int i => obtain ⟨t,q⟩:=(show ∃ t,u = Value.int i t from rx); cases q; exact PySem.W.kia_one PySem.W.kitx_int I.lG True.intro e (fun z => nomatch z) h
 | str y => obtain ⟨t,q⟩:=(show ∃ t,u = Value.str y t from rx); cases q; exact PySem.W.kia_one PySem.W.kitx_str I.lG True.intro e (fun z => nomatch z) h
 | lF y => obtain ⟨t,q⟩:=(show ∃ t,u = Value.float y t from rx); cases q; exact PySem.W.kia_one PySem.W.kitx_float I.lG True.intro e (fun z => nomatch z) h
 | @lst a xs ea =>
  cases (show u = Value.ref a from rx)
  obtain ⟨_,_,n,_,h1⟩:=(show bU X.prog X.w H s.heap a (.lst xs) from I.bI a _ ea)
  exact PySem.W.kia_one PySem.W.kitx_list I.lG ⟨_,h1,rfl⟩ e (fun z => nomatch z) h
 | @iJ a ob xs ea =>
  cases (show u = Value.ref a from rx)
  obtain ⟨_,_,_,n,_,h1⟩:=(show bU X.prog X.w H s.heap a (.iJ ob (.lst xs)) from I.bI a _ ea)
  exact PySem.W.kia_one PySem.W.kitx_list I.lG ⟨_,h1,rfl⟩ e (fun z => nomatch z) h
 | @tup a xs ea =>
  cases (show u = Value.ref a from rx)
  obtain ⟨_,_,_,p⟩:=(show bU X.prog X.w H s.heap a (.tup xs) from I.bI a _ ea)
  obtain ⟨o,h1,h2,_⟩:=p
  exact PySem.W.kia_one PySem.W.kitx_tuple I.lG ⟨o,h1,h2⟩ e (fun z => nomatch z) h
 | @dK a aH ea =>
  cases (show u = Value.ref a from rx)
  obtain ⟨_,_,vs,_,p⟩:=(show bU X.prog X.w H s.heap a (.dK aH) from I.bI a _ ea)
  obtain ⟨o,es,ep,h1,h2,_⟩:=p
  exact PySem.W.kia_one PySem.W.kitx_dict I.lG ⟨o,h1,h2.1⟩ e (fun z => nomatch z) h
 | @dT a aH ea =>
  cases (show u = Value.ref a from rx)
  obtain ⟨_,_,xs,_,o,es,ep,h1,h2,_⟩:=(show bU X.prog X.w H s.heap a (.dT aH) from I.bI a _ ea)
  exact PySem.W.kia_one PySem.W.kitx_dict I.lG ⟨o,h1,h2.1⟩ e (fun z => nomatch z) h
 | @ins a C dx fs ea cl ha hn N1 hm =>
  cases (show u = Value.ref a from rx)
  obtain ⟨mA,O,_⟩:=Bz I.bI ea
  obtain ⟨od,J,_⟩:=O.look
  exact PySem.W.kia_one (PySem.W.kitx_own (cl.get _) cl.hd ha hn N1 hm) I.lG J e (fun z => nomatch z) h
end
end L2
namespace L2
open PySem PySem.Spec PyProof.Rows
structure dJ (k:Nat) (A:Around):Prop where
 hd:A.handled = none
 dp:A.depth + 3 * k + 5 < recursionLimit
 un:A.units + 16 * k + 200 < cLine
theorem dJ.mono {j k:Nat} {A:Around} (r:dJ k A) (h:j ≤ k):dJ j A:=⟨r.hd,by have:=r.dp; lia,by have:=r.un; lia⟩
theorem dJ.deeper {k:Nat} {A:Around} (r:dJ (k + 1) A) (env:Env):dJ k (A.deeper env) :=
 ⟨r.hd,by have:=r.dp; show A.depth + 1 + 3 * k + 5 < _; lia,by have:=r.un; show A.units + 3 + 16 * k + 200 < _; lia⟩
theorem dJ.depth {k:Nat} {A:Around} (r:dJ k A):A.depth < recursionLimit:=by have:=r.dp; lia
theorem dJ.units {k:Nat} {A:Around} (r:dJ k A):A.units + 64 < cLine:=by have:=r.un; lia
noncomputable def Iz:TA:=fun _ H Q => Q [] H
noncomputable def DX (ta:TE) (tr:TA):TA:=fun σ H Q => ta σ H fun x H1 => tr σ H1 fun xs H2 => Q (x :: xs) H2
section
variable {X:Cx} {e:Expr} {es:List Expr} {te:TE} {t:TA} {pos:Pos}
theorem lV:PA X [] Iz:=fun _ _ _ _ H Q I h => Calls.spliced_nil ⟨[],H,I,.nil,h⟩
theorem f_ (ha:PE X e te) (hr:PA X es t) (hs:starEach (e :: es) X.env = (false,eval e X.env) :: starEach es X.env:=by rfl):PA X (e :: es) (DX te t):=by
 intro pos ae s σ H Q I h
 rw [hs]
 show wpAny _ _ (spliced ((false,eval e X.env) :: backTo pos (starEach es X.env))) _ _ s
 refine Calls.spliced_cons (bF (ha ae s σ H _ I h) fun u s1 ⟨x,H1,I1,r1,q1⟩ => ?_)
 exact bF (hr pos ae s1 σ H1 _ I1 q1) fun us s2 ⟨xs,H2,I2,r2,q2⟩ => ⟨x :: xs,H2,I2,.cons r1 r2,q2⟩
noncomputable def LD (t:TA):TE:=fun σ H Q => t σ H fun xs H1 => xs.length ≤ sizeLine ∧ ∀ p,H1 p = none → Q (.ref p) (upd H1 p (.tup xs))
noncomputable def LF (t:TA):TE:=fun σ H Q => t σ H fun xs H1 => xs.length ≤ sizeLine ∧ ∀ p,H1 p = none → Q (.ref p) (upd H1 p (.lst xs))
theorem E9 {x1} (h:PA X es t):PE X (.Tuple es x1 pos) (LD t):=by
 intro ae s σ H Q I hq
 refine wpAny_Tuple_spliced (bF (h pos ae s σ H _ I hq) fun us s1 ⟨xs,H1,I1,r,z,q⟩ => ⟨by rw [← r.length]; exact z,?_⟩)
 have hf:H1 s1.heap.objs.size = none:=I1.bI.fresh (Nat.le_refl _)
 refine ⟨.ref s1.heap.objs.size,upd H1 s1.heap.objs.size (.tup xs),I1.laid (t':=s1.toks) (fun b u e => Heap.get?_push_of_some _ e) (Nat.le_refl _) ?_,rfl,q _ hf⟩
 exact ⟨z,us,r,⟨_,Heap.get?_push_size _ rfl,rfl,_,rfl⟩⟩
theorem E_ (h:PA X es t):PE X (.List es pos) (LF t):=by
 intro ae s σ H Q I hq
 refine wpAny_List_spliced (bF (h pos ae s σ H _ I hq) fun us s1 ⟨xs,H1,I1,r,z,q⟩ => ⟨by rw [← r.length]; exact z,?_⟩)
 have hf:H1 s1.heap.objs.size = none:=I1.bI.fresh (Nat.le_refl _)
 refine ⟨.ref s1.heap.objs.size,upd H1 s1.heap.objs.size (.lst xs),I1.laid (t':=s1.toks) (fun b u e => Heap.get?_push_of_some _ e) (Nat.le_refl _) ?_,rfl,q _ hf⟩
 exact ⟨z,us,0,r,Heap.get?_push_size _ rfl⟩
end
noncomputable abbrev Sp:=List V → Hp → VK → XK → Prop
noncomputable abbrev r0:=List Env → Hp → Shared → XK → Value → Shared → Prop
structure su (P:Program) (w:World) (K:PySem.W.Frag) (mg:Str → Option Value) (base:Heap) (A:Around) (outer:List Env) (s:Shared) (H:Hp):Prop where
 frames:A.frames = some outer
 mod:Mod K mg base
 bs:∀ b o,base.get? b = some o → s.heap.get? b = some o ∧ H b = none
 Bc:base.objs.size ≤ s.heap.objs.size
 gF:s.heap.FunFrames base outer
 xM:∀ b ∈ eM outer,H b = none
 bI:f7 P w H s.heap
 bare:AllBare s.gens
noncomputable def CE (outer:List Env) (P:Program) (w:World) (H:Hp) (s:Shared) (Q:VK) (u:Value) (s':Shared):Prop :=
 ∃ v H',s'.os = s.os ∧ AllBare s'.gens ∧ Un (eM outer) [] H H' s.heap s'.heap ∧ f7 P w H' s'.heap ∧ ba v u ∧ Q v H'
noncomputable def CR (CX:r0) (outer:List Env) (P:Program) (w:World) (H:Hp) (s:Shared) (Q:VK) (E:XK) (r:Result) (s':Shared):Prop :=
 match r with
 | .ok (.ret u) => CE outer P w H s Q u s'
 | .ok _ => False
 | .error e => CX outer H s E e s'
structure gJ (P:Program) (w:World) (K:PySem.W.Frag) (mg:Str → Option Value) (base:Heap) (CX:r0) (k:Nat) (f:Addr) (fd:FuncData) (ps:List Str) (sp:Sp):Prop where
 len:∀ vs H Q E,sp vs H Q E → vs.length = ps.length
 run:∀ (A:Around) (outer:List Env) (s:Shared) (H:Hp) (args:Args) (us:List Value) (vs:List V) (Q:VK) (E:XK),dJ k A → su P w K mg base A outer s H → BindsTo s fd args (ps.zip us) → a7 vs us → sp vs H Q E →
  codeAny (model P w) A (.call (.ref f) args) (CR CX outer P w H s Q E) s
theorem gJ.imp {P:Program} {w:World} {K:PySem.W.Frag} {mg:Str → Option Value} {base:Heap} {CX:r0} {k:Nat} {f:Addr} {fd:FuncData} {ps:List Str} {sp N2:Sp} (F:gJ P w K mg base CX k f fd ps sp)
  (h:∀ vs H Q E,N2 vs H Q E → sp vs H Q E):gJ P w K mg base CX k f fd ps N2 :=
 ⟨fun vs H Q E q => F.len vs H Q E (h _ _ _ _ q),fun A outer s H args us vs Q E hr he hb hv hs => F.run A outer s H args us vs Q E hr he hb hv (h _ _ _ _ hs)⟩
section
variable {X:Cx} {ae:List (Addr × Obj)} {σ:St} {H:Hp} {s s':Shared}
theorem aG.E! (I:aG X ae σ H s):su X.prog X.w X.K X.mg X.base X.A X.stack s H :=
 ⟨I.ok.frames,I.ok.mod,I.bs,Nat.le_trans I.ok.Bc I.sz,I.stack,I.oX,I.bI,I.bare⟩
theorem aG.after {Q:VK} {u:Value} (I:aG X ae σ H s) (h:CE X.stack X.prog X.w H s Q u s'):EP X ae σ Q u s':=by
 obtain ⟨v,H',os,bare,un,bI,r,q⟩:=h
 obtain ⟨hh,g,d,t,O5⟩:=s'
 obtain rfl:O5 = s.os:=os
 exact ⟨v,H',I.call (h':=hh) (g':=g) (d':=d) (t':=t) (ch:=[]) un bI bare (fun b z => absurd z (by simp)),r,q⟩
end
noncomputable def IA (sp:Sp) (p!:List V) (E:XK) (t:TA):TE:=fun σ H Q => t σ H fun vs H1 => sp (vs ++ p!) H1 Q E
noncomputable def Binds (K:PySem.W.Frag) (fd:FuncData) (ps:List Str) (ds:List Value):Prop :=
 ∀ (s:Shared) (us:List Value),K.In s.heap → (us ++ ds).length = ps.length → BindsTo s fd ⟨us,[]⟩ (ps.zip (us ++ ds))
theorem Binds.all {K:PySem.W.Frag} {fd:FuncData} {ps:List Str} (h:∀ us:List Value,us.length = ps.length → bindArgs fd ⟨us,[]⟩ = pure (ps.zip us)):Binds K fd ps []:=fun s us _ hl => by
 rw [List.append_nil] at hl ⊢
 exact .of_eq (h us hl)
noncomputable def Passes (CX:r0) (X:Cx) (E:XK):Prop:=∀ (ae:List (Addr × Obj)) (σ:St) (H:Hp) (s:Shared) (e:Value) (s':Shared),aG X ae σ H s → CX X.stack H s E e s' → X.xe e s'
section
variable {X:Cx} {CX:r0} {k:Nat} {f C:Addr} {fd:FuncData} {ps:List Str} {sp:Sp} {p!:List V} {ds:List Value} {E:XK} {x m:Str} {p pos apos:Pos} {e o:Expr} {es:List Expr} {ta:TE} {t:TA}
theorem E? {ae:List (Addr × Obj)} {σ:St} {H:Hp} {s:Shared} {Q:VK} {us:List Value} {vs:List V} (F:gJ X.prog X.w X.K X.mg X.base CX k f fd ps sp) (hr:dJ k X.A) (hb:Binds X.K fd ps ds) (hd:a7 p! ds) (hx:Passes CX X E)
  (I:aG X ae σ H s) (r:a7 vs us) (h:sp (vs ++ p!) H Q E):wpAny (model X.prog X.w) X.A (call (.ref f) us) (EP X ae σ Q) X.xe s:=by
 have r2:a7 (vs ++ p!) (us ++ ds):=r.append hd
 have hl:(us ++ ds).length = ps.length:=by rw [← r2.length]; exact F.len _ _ _ _ h
 refine wpAny_call (codeAny_mono (F.run X.A X.stack s H ⟨us,[]⟩ (us ++ ds) (vs ++ p!) Q E hr I.E! (hb s us I.lG hl) r2 h) fun r s' hq => ?_)
 cases r with
 | error e => exact hx ae σ H s e s' I hq
 | ok fl =>
  cases fl with
  | ret u => exact I.after hq
  | next => exact False.elim hq
  | brk => exact False.elim hq
  | cont => exact False.elim hq
theorem BA (F:gJ X.prog X.w X.K X.mg X.base CX k f fd ps sp) (hr:dJ k X.A) (hg:Gl X x) (hm:X.mg x = some (.ref f)) (hk:PySem.W.keepIn X.K (.ref f) = true) (hb:Binds X.K fd ps ds) (hd:a7 p! ds) (hx:Passes CX X E)
  (ha:PA X (e :: es) t) (kK:(x == ("__debug__":Str)) = false:=by decide) (he:starEach (e :: es) X.env = (false,eval e X.env) :: starEach es X.env:=by rfl) (hV:(backTo pos (starEach es X.env)).any (·.1) = false:=by rfl) :
  PE X (.Call (.Name x p) (e :: es) [] pos) (IA sp p! E t):=by
 intro ae s σ H Q I h
 refine wpAny_Call_Name_kw (hJ I hg hm ?_ kK)
 refine PySem.W.callWith_K (h₀:=X.base) I.ok.mod.DQ hk (bF (ha pos ae s σ H _ I h) fun us s1 ⟨vs,H1,I1,r,q⟩ => ⟨I1.lG,?_⟩) he hV
 exact E? F hr hb hd hx I1 r q
end
noncomputable def PK (X:Cx) (yb:List Keyword) (t:TA):Prop :=
 ∀ (pos:Pos) (ae:List (Addr × Obj)) (s:Shared) (σ:St) (H:Hp) (Q:List V → Hp → Prop),aG X ae σ H s → t σ H Q → wpAny (model X.prog X.w) X.A (evalAll ((backToKw pos (keywordEach yb X.env)).map (·.2))) (AP X ae σ Q) X.xe s
section
variable {X:Cx} {CX:r0} {k:Nat} {f C:Addr} {fd:FuncData} {ps ks:List Str} {sp:Sp} {E:XK} {x m:Str} {p pos apos LG:Pos} {e o:Expr} {es:List Expr} {yb:List Keyword} {te ta:TE} {t tk:TA} {nm:Option Str}
theorem Fb:PK X [] Iz:=fun _ _ _ _ H Q I h => wpAny_evalAll_nil ⟨[],H,I,.nil,h⟩
theorem BB (ha:PE X e te) (hr:PK X yb t):PK X (⟨nm,e,LG⟩ :: yb) (DX te t):=by
 intro pos ae s σ H Q I h
 show wpAny _ _ (evalAll ((do let v ← eval e X.env; standAt pos; pure v) :: (backToKw pos (keywordEach yb X.env)).map (·.2))) _ _ s
 refine wpAny_evalAll_cons (wpAny_bind (bF (ha ae s σ H _ I h) fun u s1 ⟨x,H1,I1,r1,q1⟩ => wpAny_bind (wpAny_standAt (wpAny_pure ?_))))
 exact bF (hr pos ae s1 σ H1 _ I1 q1) fun us s2 ⟨xs,H2,I2,r2,q2⟩ => ⟨x :: xs,H2,I2,.cons r1 r2,q2⟩
variable {g:List Value → List Value → List Value} {gV:List V → List V → List V}
end
structure dD (N P:List Str) (sc:Scope):Prop where
 kind:sc.kind = .function
 co:sc.isCoroutine = false
 gen:sc.isGenerator = false
 nd:N.Nodup
 pre:N.take P.length = P
 par:∀ x ∈ P,sc.names.lookup x = some .local ∨ sc.names.lookup x = some .cell
 Fc:∀ y ∈ sc.names,y.2 ≠ .free
theorem om {kindOf:Str → Option NameKind} {x:Str}:∀ {binds:List (Str × Value)} {m:Str → Option Value},(∀ v,(x,v) ∉ binds) → bindL kindOf binds m x = m x
 | [],_,_ => rfl
 | (n,v) :: r,m,h => by
  unfold bindL
  rw [om fun w hw => h w (List.mem_cons_of_mem _ hw)]
  split
  ·have:x ≠ n:=by rintro rfl; exact h v List.mem_cons_self
   simp [this]
  ·rfl
theorem oo {kindOf:Str → Option NameKind} {x:Str}:∀ {binds:List (Str × Value)} {m:Str → Option Value},(∀ v,(x,v) ∉ binds) → bindC kindOf binds m x = m x
 | [],_,_ => rfl
 | (n,v) :: r,m,h => by
  unfold bindC
  rw [oo fun w hw => h w (List.mem_cons_of_mem _ hw)]
  split
  ·rfl
  ·have:x ≠ n:=by rintro rfl; exact h v List.mem_cons_self
   simp [this]
theorem oq {kindOf:Str → Option NameKind} {x:Str} {v:Value}:∀ {P:List Str} {vs:List Value} {i:Nat} {m:Str → Option Value},P.Nodup → P[i]? = some x → vs[i]? = some v → kindOf x = some .local →
  bindL kindOf (P.zip vs) m x = some v
 | [],_,_,_,_,h,_,_ => by simp at h
 | _ :: _,[],_,_,_,_,h,_ => by simp at h
 | p :: P,w :: vs,0,m,nd,h1,h2,hk => by
  simp at h1 h2; subst h1; subst h2
  show bindL kindOf ((p,w) :: P.zip vs) m p = _
  unfold bindL
  rw [om fun v hv => (List.nodup_cons.mp nd).1 (List.of_mem_zip hv).1,if_pos hk]
  simp
 | p :: P,w :: vs,i + 1,m,nd,h1,h2,hk => by
  show bindL kindOf ((p,w) :: P.zip vs) m x = _
  unfold bindL
  exact oq (i:=i) (List.nodup_cons.mp nd).2 (by simpa using h1) (by simpa using h2) hk
theorem ou {kindOf:Str → Option NameKind} {x:Str} {v:Value}:∀ {P:List Str} {vs:List Value} {i:Nat} {m:Str → Option Value},P.Nodup → P[i]? = some x → vs[i]? = some v → kindOf x ≠ some .local →
  bindC kindOf (P.zip vs) m x = some v
 | [],_,_,_,_,h,_,_ => by simp at h
 | _ :: _,[],_,_,_,_,h,_ => by simp at h
 | p :: P,w :: vs,0,m,nd,h1,h2,hk => by
  simp at h1 h2; subst h1; subst h2
  show bindC kindOf ((p,w) :: P.zip vs) m p = _
  unfold bindC
  rw [oo fun v hv => (List.nodup_cons.mp nd).1 (List.of_mem_zip hv).1,if_neg hk]
  simp
 | p :: P,w :: vs,i + 1,m,nd,h1,h2,hk => by
  show bindC kindOf ((p,w) :: P.zip vs) m x = _
  unfold bindC
  exact ou (i:=i) (List.nodup_cons.mp nd).2 (by simpa using h1) (by simpa using h2) hk
noncomputable def start (N:List Str) (vs:List V):St:=vs.map some ++ List.replicate (N.length - vs.length) none
noncomputable def fE (CX:r0) (P:Program) (w:World) (K:PySem.W.Frag) (mg:Str → Option Value) (base:Heap) (N:List Str) (qual:Str) (scope:Scope) (f:Addr) (cd:Value) (A:Around) (outer:List Env) (s:Shared) (H:Hp) (E:XK):Cx where
 prog:=P
 w:=w
 K:=K
 mg:=mg
 base:=base
 A:=A.deeper (envOfC qual scope s.heap.objs.size f cd)
 N:=N
 s₀:=s
 H₀:=H
 env:=envOfC qual scope s.heap.objs.size f cd
 outer:=outer
 stack:=envOfC qual scope s.heap.objs.size f cd :: outer
 ex:=[]
 calm:=true
 fn:=fun _ => true
 pn:=[]
 xe:=fun e s' => wpAny (model P w) (A.deeper (envOfC qual scope s.heap.objs.size f cd)) (leaving (envOfC qual scope s.heap.objs.size f cd) e) (fun _ Kq => CX outer H s E e Kq) (fun e' Kq => CX outer H s E e' Kq) s'
theorem qm {sc:Scope} {n:Nat} {x:Str} (h:sc.names.lookup x = some .cell):∃ c,(cellsFrom n sc.names []).lookup x = some c:=by
 have q:=PySem.W.cellsFrom_some sc.names n [] (.inl h)
 exact Option.isSome_iff_exists.mp q
theorem ow {CX:r0} {P:Program} {w:World} {K:PySem.W.Frag} {mg:Str → Option Value} {base:Heap} {N ps:List Str} {qual:Str} {scope:Scope} {f:Addr} {cd:Value} {A:Around} {outer:List Env} {s s1:Shared} {H:Hp} {E:XK} {us:List Value} {vs:List V}
  (S:dD N ps scope) (hd:A.handled = none) (e0:su P w K mg base A outer s H) (hl:vs.length = ps.length) (r:a7 vs us)
  (x:InCallC s s.heap.objs.size (bindL (envOfC qual scope s.heap.objs.size f cd).kindOf (ps.zip us) fun _ => none) (cellsFrom (s.heap.objs.size + 1) scope.names []) (bindC (envOfC qual scope s.heap.objs.size f cd).kindOf (ps.zip us) fun _ => none) s1) :
  aG (fE CX P w K mg base N qual scope f cd A outer s H E) [] (start N vs) H s1:=by
 have hV:ps.length ≤ N.length:=by have:=congrArg List.length S.pre; rw [List.length_take] at this; lia
 obtain ⟨h1,tk,rfl,hk⟩:=x.done
 have IB:∀ b:Addr,b ∉ (fE CX P w K mg base N qual scope f cd A outer s H E).ex:=fun b z => absurd (show b ∈ ([]:List Addr) from z) (by simp)
 refine ⟨⟨e0.mod,S.kind,rfl,rfl,Nat.le_refl _,fun y z c h1 h2 => ?_,fun y hy => ?_,fun y c _ h => ?_,fun _ => hd,Around.frames_deeper e0.frames,.inr ⟨rfl,rfl⟩,fun b z => absurd z (IB b),e0.bs,e0.Bc,fun b _ _ => IB b,fun b z => absurd z (IB b),e0.gF,e0.xM⟩,
  rfl,e0.bare,Un.kept hk,⟨_,x.toInCall.ns,fun i y v h1 h2 h3 => ?_⟩,fun y c h => ⟨_,x.cell y c h⟩,e0.bI.fresh (Nat.le_refl _),fun y c h => ?_,fun p hp => absurd (show p ∈ ([]:List (Addr × Obj)) from hp) (by simp),e0.bI.kept hk,?_⟩
 ·exact name_of_addr x.apart (PySem.mem_of_lookup h1) (PySem.mem_of_lookup h2)
 ·have hy:scope.names.lookup y = some .cell ∨ scope.names.lookup y = some .free:=hy
  rcases hy with hy | hy
  ·exact qm hy
  ·exact absurd rfl (S.Fc _ (PySem.mem_of_lookup hy))
 ·exact Nat.le_of_lt (x.above y c (PySem.mem_of_lookup h))
 ·have hi:i < vs.length:=by
   unfold start at h2
   by_cases hi:i < vs.length
   ·exact hi
   ·rw [List.getElem?_append_right (by simpa using hi)] at h2
    rw [List.getElem?_replicate] at h2
    split at h2 <;> cases h2
  have ha:vs[i]? = some v:=by
   unfold start at h2
   rw [List.getElem?_append_left (by simpa using hi),List.getElem?_map] at h2
   cases e:vs[i]? with
   | none => rw [e] at h2; cases h2
   | some a => rw [e] at h2; cases h2; rfl
  obtain ⟨u,hu,rv⟩:=r.get ha
  have hp:ps[i]? = some y:=by
   rw [← S.pre,List.getElem?_take_of_lt (by lia)]; exact h1
  have N3:ps.Nodup:=by rw [← S.pre]; exact S.nd.sublist (List.take_sublist _ _)
  refine ⟨u,rv,?_⟩
  rcases S.par y (List.mem_of_getElem? hp) with k | k
  ·exact .inl ⟨k,oq N3 hp hu k⟩
  ·obtain ⟨c,e⟩:=qm (n:=s.heap.objs.size + 1) k
   refine .inr ⟨.inl k,c,e,?_⟩
   have q:=x.cell y c e
   rw [ou N3 hp hu (by show scope.names.lookup y ≠ _; rw [k]; decide)] at q
   exact q
 ·exact e0.bI.fresh (Nat.le_of_lt (x.above y c (PySem.mem_of_lookup h)))
 ·unfold start
  show _ = N.length
  rw [List.length_append,List.length_map,List.length_replicate]
  lia
theorem IC {CX:r0} {P:Program} {w:World} {K:PySem.W.Frag} {mg:Str → Option Value} {base:Heap} {k:Nat} {f:Addr} {name qual:Str} {params:Arguments} {body:List Stmt} {scope:Scope} {dV kV doc pm dc ct oc:Value} {an od:Option Addr}
  {vK:Array (Option Value)} {N ps:List Str} {sp:Sp} (lk:K.lookup f = some ⟨oc,od,.func (PySem.W.fnOf name qual params body scope dV kV doc pm an dc ct),vK⟩) (nN:PySem.W.codeIn K dc qual = true) (S:dD N ps scope)
  (len:∀ vs H Q E,sp vs H Q E → vs.length = ps.length)
  (qo:∀ (A:Around) (outer:List Env) (s:Shared) (H:Hp) (vs:List V) (Q:VK) (E:XK),dJ k (A.deeper (envOfC qual scope s.heap.objs.size f dc)) → sp vs H Q E →
   ∃ t,gG (fE CX P w K mg base N qual scope f dc A outer s H E) body t ∧ t { nx:=fun _ H' => Q .cB H',rt:=Q } (start N vs) H) :
  gJ P w K mg base CX (k + 1) f (PySem.W.fnOf name qual params body scope dV kV doc pm an dc ct) ps sp:=by
 refine ⟨len,fun A outer s H args us vs Q E hr e0 hb r DY => ?_⟩
 have hl:=len _ _ _ _ DY
 have KX:K.In s.heap:=e0.mod.DQ.keeps fun b o e => (e0.bs b o e).1
 have lim:s.heap.NoLimit:=e0.mod.nolimit.keeps fun b o e => (e0.bs b o e).1
 have yc:∀ y ∈ ps.zip us,scope.names.lookup y.1 = some .local ∨ (scope.names.lookup y.1 = some .cell ∧ ((cellsFrom (s.heap.objs.size + 1) scope.names []).lookup y.1).isSome = true):=fun ⟨n,v⟩ hy => by
  rcases S.par n (List.of_mem_zip hy).1 with q | q
  ·exact .inl q
  ·exact .inr ⟨q,PySem.W.cellsFrom_some _ _ _ (.inl q)⟩
 refine codeAny_call_function hr.depth (KX _ _ lk) rfl S.co S.gen rfl (PySem.W.codeRec_of KX nN) (hb _ _ _ _ ?_)
 refine wpAny_newFunctionEnv_cells S.kind yc fun env he s1 x => ?_
 subst he
 refine ⟨lim.keeps x.toInCall.keep,codeAny_func ?_⟩
 obtain ⟨t,ht,hq⟩:=qo A outer s H vs Q E (hr.deeper _) DY
 have I:aG (fE CX P w K mg base N qual scope f dc A outer s H E) [] (start N vs) H s1:=ow S hr.hd e0 hl r x
 refine wpAny_mono (ht [] s1 (start N vs) H _ I hq) (fun fl s' hs => ?_) fun e s' hs => hs
 have fin:∀ {σ':St} {H':Hp} {v:V} {u:Value},aG (fE CX P w K mg base N qual scope f dc A outer s H E) [] σ' H' s' → ba v u → Q v H' → CE outer P w H s Q u s' :=
  fun {σ' H' v u} J rv q => ⟨v,H',J.os,J.bare,J.base,J.bI,rv,q⟩
 cases fl with
 | ret u =>
  obtain ⟨v,σ',H',J,rv,q⟩:=hs
  exact fin J rv q
 | next =>
  obtain ⟨σ',H',J,q⟩:=hs
  exact fin (v:=V.cB) (u:=Value.none) J rfl q
 | brk =>
  obtain ⟨_,_,_,q⟩:=hs
  exact False.elim q
 | cont =>
  obtain ⟨_,_,_,q⟩:=hs
  exact False.elim q
end L2
namespace L2
open PySem PySem.Spec PyProof.Rows
section
variable {X:Cx} {x:Str} {p pos:Pos} {e:Expr} {es:List Expr} {t:TA} {id T:String} {r:List V → Hp → VK → Prop}
noncomputable def N4 (r:List V → Hp → VK → Prop) (t:TA):TE:=fun σ H Q => t σ H fun vs H1 => r vs H1 Q
theorem lW (hc:bV X (.builtin id) r) (hg:Gl X x) (hm:X.mg x = none) (hv:bootBuiltins x = some (.builtin id)) (ha:PA X (e :: es) t) (hn:x ≠ "__name__":=by decide) (kK:(x == ("__debug__":Str)) = false:=by decide)
  (he:starEach (e :: es) X.env = (false,eval e X.env) :: starEach es X.env:=by rfl) (hV:(backTo pos (starEach es X.env)).any (·.1) = false:=by rfl):PE X (.Call (.Name x p) (e :: es) [] pos) (N4 r t):=by
 intro ae s σ H Q I h
 refine wpAny_Call_Name_kw (gH I hg hm hv ?_ hn kK)
 exact PyProof.Rows.callWith_builtin1 (bF (ha pos ae s σ H _ I h) fun us s1 ⟨vs,H1,I1,r1,q1⟩ => hc ae s1 σ H1 vs us Q I1 r1 q1) he hV
theorem vL (hc:bV X (.type T) r) (hg:Gl X x) (hm:X.mg x = none) (hv:bootBuiltins x = some (.type T)) (ha:PA X (e :: es) t) (hn:x ≠ "__name__":=by decide) (kK:(x == ("__debug__":Str)) = false:=by decide)
  (he:starEach (e :: es) X.env = (false,eval e X.env) :: starEach es X.env:=by rfl) (hV:(backTo pos (starEach es X.env)).any (·.1) = false:=by rfl):PE X (.Call (.Name x p) (e :: es) [] pos) (N4 r t):=by
 intro ae s σ H Q I h
 refine wpAny_Call_Name_kw (gH I hg hm hv ?_ hn kK)
 exact PyProof.Rows.callWith_type1 (bF (ha pos ae s σ H _ I h) fun us s1 ⟨vs,H1,I1,r1,q1⟩ => hc ae s1 σ H1 vs us Q I1 r1 q1) he hV
end
end L2
namespace HT
open PySem PyProof.Rows
section
variable {prog:Program} {w:World} {A:Around} {E:Value → Shared → Prop} {s:Shared}
theorem BC {t b:Addr} {vs ws:List Value} {Q:Value → Shared → Prop} (ht:IsTup s.heap t vs.toArray) (hb:IsTup s.heap b ws.toArray) (hv:vs ≠ [])
  (h1:ws = [] → Q (.ref t) s) (h2:ws ≠ [] → Q (.ref s.heap.objs.size) { s with heap:=s.heap.push { cls:=.type "tuple",data:=.seq (vs ++ ws).toArray } })
  (hsz:vs.length + ws.length ≤ sizeLine):wpAny (model prog w) A (binaryOp .Add (.ref t) (.ref b)) Q E s:=by
 obtain ⟨⟨cls,dd,data,sl⟩,ho,hc,n,hd⟩:=id ht
 obtain ⟨⟨LH,Kr,data2,DZ⟩,BD,HE,n2,hd2⟩:=id hb
 simp only at hc hd HE hd2
 subst hc hd HE hd2
 have e:vs.toArray ++ ws.toArray = (vs ++ ws).toArray:=by simp
 by_cases hw:ws = []
 ·exact concat_meets ⟨_,ho,rfl⟩ ⟨_,BD,rfl⟩ noFill_tuple_add seq_tuple_add PySem.F.slot_tuple_add PySem.F.entry_tuple_add (PySem.F.args_tuple_add_2 _ _)
   (tuple_addW1 t b vs.toArray ws.toArray n n2 dd Kr sl DZ (by simpa using hv) (by simp [hw])) ⟨ho,BD,h1 hw⟩
 ·refine concat_meets ⟨_,ho,rfl⟩ ⟨_,BD,rfl⟩ noFill_tuple_add seq_tuple_add PySem.F.slot_tuple_add PySem.F.entry_tuple_add (PySem.F.args_tuple_add_2 _ _)
   (tuple_addW2 t b vs.toArray ws.toArray n n2 dd Kr sl DZ (by simpa using hv) (by simpa using hw) (by rw [List.size_toArray,List.size_toArray]; exact hsz)) ⟨ho,BD,?_⟩
  rw [e]
  exact h2 hw
noncomputable def dO (n d:Nat):Option Int → Nat
 | none => d
 | some v => if v < 0 then (v + (n:Int)).toNat else min v.toNat n
theorem Fd (n d:Nat) (hd:d ≤ n) (o:Option Int):dO n d o ≤ n:=by
 cases o with
 | none => exact hd
 | some v =>
  show (if v < 0 then (v + (n:Int)).toNat else min v.toNat n) ≤ n
  by_cases hv:v < 0
  ·rw [if_pos hv]; lia
  ·rw [if_neg hv]; exact Nat.min_le_right _ _
theorem uB (v:Int) (n d:Nat):(if v < 0 then max (v + (n:Int)) 0 else min v (n:Int)) = ((dO n d (some v):Nat):Int):=by
 show (if v < 0 then max (v + (n:Int)) 0 else min v (n:Int)) = (((if v < 0 then (v + (n:Int)).toNat else min v.toNat n):Nat):Int)
 by_cases hv:v < 0
 ·simp only [if_pos hv]; lia
 ·simp only [if_neg hv]; lia
theorem sv (lo hi:Option Int) (n:Nat):Builtin.Slice.sliceAdjust lo hi 1 (n:Int) = (((dO n 0 lo:Nat):Int),((dO n n hi:Nat):Int)):=by
 have h1:¬ ((1:Int) < 0):=by lia
 unfold Builtin.Slice.sliceAdjust
 simp only [h1,if_false]
 refine Prod.ext ?_ ?_
 ·cases lo with
  | none => rfl
  | some v => exact uB v n 0
 ·cases hi with
  | none => rfl
  | some v => exact uB v n n
theorem sA (i j:Nat):Builtin.Slice.slicePlaces (i:Int) (j:Int) 1 = j - i:=by
 unfold Builtin.Slice.slicePlaces
 have h1:(1:Int) > 0:=by lia
 simp only [h1,if_true,Int.ediv_one]
 split <;> lia
theorem lX {v:Value} {o:Option Int} {Q:Option Int → Shared → Prop} (p:IsPart v o) (h:Q o s):wpAny (model prog w) A (Builtin.Slice.slicePartIndex v) Q E s:=by
 cases p with
 | none => exact slicePart_none h
 | int i t => exact slicePart_int h
theorem jJ {sl:Addr} {vl vu:Value} {lo hi:Option Int} {n:Nat} {Q:Int × Int × Nat → Shared → Prop} (hs:s.heap.IsSliceOf sl vl vu .none) (pl:IsPart vl lo) (pu:IsPart vu hi)
  (h:Q (((dO n 0 lo:Nat):Int),1,dO n n hi - dO n 0 lo) s):wpAny (model prog w) A (Builtin.Slice.sliceApplied (.ref sl) (pure (n:Int))) Q E s:=by
 obtain ⟨os,ID,N5,Ks⟩:=id hs
 unfold Builtin.Slice.sliceApplied Builtin.Slice.sliceFields
 refine wpAny_bind (wpAny_bind (wpAny_field ID Ks (x:=vl) rfl (wpAny_bind (wpAny_field ID Ks (x:=vu) rfl (wpAny_bind (wpAny_field ID Ks (x:=.none) rfl (wpAny_pure ?_)))))))
 refine wpAny_bind (slicePart_none ?_)
 show wpAny _ _ (if ((1:Int) == 0) = true then _ else _) _ _ s
 rw [if_neg (by decide)]
 refine wpAny_bind (lX pl (wpAny_bind (lX pu (wpAny_bind (wpAny_pure ?_)))))
 show wpAny _ _ (match Builtin.Slice.sliceAdjust lo hi 1 (n:Int) with | (lo,hi) => pure (lo,(1:Int),Builtin.Slice.slicePlaces lo hi 1)) _ _ s
 rw [sv lo hi n]
 show wpAny _ _ (pure (((dO n 0 lo:Nat):Int),(1:Int),Builtin.Slice.slicePlaces ((dO n 0 lo:Nat):Int) ((dO n n hi:Nat):Int) 1)) _ _ s
 rw [sA]
 exact wpAny_pure h
theorem yd (xs:Array Value) (i k:Nat):((List.range k).filterMap fun (m:Nat) => xs[((i:Int) + (m:Int) * 1).toNat]?).toArray = ((xs.toList.drop i).take k).toArray:=by
 have e:(fun (m:Nat) => xs[((i:Int) + (m:Int) * 1).toNat]?) = fun m => xs[i + m]?:=by
  funext m
  have:((i:Int) + (m:Int) * 1).toNat = i + m:=by lia
  rw [this]
 rw [e]
 have:=pick_run xs i k
 rw [List.filterMap_map] at this
 have e2:((fun x => xs[x]?) ∘ fun x => i + x) = fun m => xs[i + m]?:=rfl
 rw [e2] at this
 rw [this]
theorem i? {t sl:Addr} {items:Array Value} {vl vu:Value} {lo hi:Option Int} {Q:Value → Shared → Prop} (ht:IsTup s.heap t items) (hs:s.heap.IsSliceOf sl vl vu .none) (pl:IsPart vl lo) (pu:IsPart vu hi)
  (hw:¬ (dO items.size 0 lo = 0 ∧ dO items.size items.size hi = items.size))
  (h:Q (.ref s.heap.objs.size) { s with heap:=s.heap.push { cls:=.type "tuple",data:=.seq ((items.toList.drop (dO items.size 0 lo)).take (dO items.size items.size hi - dO items.size 0 lo)).toArray } })
  (hsz:items.size ≤ sizeLine):wpAny (model prog w) A (getItem (.ref t) (.ref sl)) Q E s:=by
 have uC:sizeOk (.seq ((items.toList.drop (dO items.size 0 lo)).take (dO items.size items.size hi - dO items.size 0 lo)).toArray):=by
  show ((items.toList.drop (dO items.size 0 lo)).take (dO items.size items.size hi - dO items.size 0 lo)).toArray.size ≤ sizeLine
  rw [List.size_toArray,List.length_take,List.length_drop,Array.length_toList]
  lia
 have hj:dO items.size items.size hi ≤ items.size:=Fd _ _ (Nat.le_refl _) hi
 obtain ⟨os,ID,N5,Ks⟩:=id hs
 have O6:s.TypeIs (.ref sl) "slice":=⟨os,ID,N5⟩
 unfold getItem
 try with_reducible refine wpAny_holding ?_
 first | refine wpAny_bind (wpAny_pure ?_) | skip
 refine wpAny_bind (wpAny_sequenceKey ht.typeIs (by decide) ?_)
 refine wpAny_bind (wpAny_callSpecial?_slot (name:=Str.ofString "__getitem__") ht.typeIs PyProof.Rows.slot_tuple_getitem
  (wpAny_call_entry PyProof.Rows.slot_tuple_getitem ht.typeIs entry_tuple_getitem ?_ (args_tuple_getitem _ _)))
 show wpAny _ _ (Builtin.Tuple.tupleItemsOf (.ref t) >>= _) _ _ s
 refine wpAny_bind (tupleItemsOf_ ht ?_)
 refine wpAny_bind (wpAny_typeOf O6 ?_)
 rw [if_pos (by decide)]
 refine wpAny_bind (jJ hs pl pu ?_)
 have LI:¬ ((((dO items.size 0 lo:Nat):Int) == 0 && (1:Int) == 1 && (dO items.size items.size hi - dO items.size 0 lo) == items.size) = true):=by
  intro q
  rw [Bool.and_eq_true,Bool.and_eq_true] at q
  have q1:((dO items.size 0 lo:Nat):Int) = 0:=eq_of_beq q.1.1
  have q2:dO items.size items.size hi - dO items.size 0 lo = items.size:=eq_of_beq q.2
  exact hw ⟨by lia,by lia⟩
 show wpAny _ _ (if (((dO items.size 0 lo:Nat):Int) == 0 && (1:Int) == 1 && (dO items.size items.size hi - dO items.size 0 lo) == items.size) = true then _ else _) _ _ s
 rw [if_neg LI,yd]
 first
  | exact wpAny_bind (m:=Builtin.Tuple.tupleExact _) (wpAny_newObj_type (wpAny_pure ⟨_,rfl,wpAny_pure h⟩) uC)
  | exact wpAny_bind (m:=Builtin.Tuple.tupleExact _) (wpAny_newObj_type (wpAny_bind (wpAny_pure (wpAny_pure ⟨_,rfl,wpAny_pure h⟩))) uC)
  | exact wpAny_bind (wpAny_bind (m:=Builtin.Tuple.tupleExact _) (wpAny_newObj_type (wpAny_pure (wpAny_pure ⟨_,rfl,wpAny_pure h⟩)) uC))
  | exact wpAny_bind (wpAny_bind (m:=Builtin.Tuple.tupleExact _) (wpAny_newObj_type (wpAny_pure ⟨_,rfl,wpAny_pure h⟩) uC))
end
end HT
namespace L2
open PySem PySem.Spec PyProof.Rows
noncomputable abbrev TO:=St → Hp → (Option Int → Hp → Prop) → Prop
noncomputable def PO (X:Cx) (e:Option Expr) (t:TO):Prop :=
 ∀ (ae:List (Addr × Obj)) (s:Shared) (σ:St) (H:Hp) (Q:Option Int → Hp → Prop),aG X ae σ H s → t σ H Q →
  wpAny (model X.prog X.w) X.A (evalPart e X.env) (fun u s' => ∃ o H',aG X ae σ H' s' ∧ IsPart u o ∧ Q o H') X.xe s
noncomputable def BE:TO:=fun _ H Q => Q none H
noncomputable def IE (t:TE):TO:=fun σ H Q => t σ H fun x H1 => ∃ i,x = .int i ∧ Q (some i) H1
section
variable {X:Cx} {e:Expr} {te:TE} {lo hi:Option Expr} {tl th:TO} {pos p2:Pos}
theorem BF:PO X none BE:=by
 intro ae s σ H Q I h
 rw [evalPart_none]
 exact wpAny_pure ⟨none,H,I,.none,h⟩
theorem BG (h:PE X e te):PO X (some e) (IE te):=by
 intro ae s σ H Q I hw
 rw [evalPart_some]
 refine bF (h ae s σ H _ I hw) fun u s1 ⟨x,H1,I1,r1,q1⟩ => ?_
 obtain ⟨i,rfl,q⟩:=q1
 obtain ⟨t,rfl⟩:=r1
 exact ⟨some i,H1,I1,.int i t,q⟩
noncomputable def BH (X:Cx) (r:V → Option Int → Option Int → Hp → VK → Prop):Prop :=
 ∀ (ae:List (Addr × Obj)) (s:Shared) (σ:St) (H:Hp) (x:V) (v vl vu:Value) (lo hi:Option Int) (sl:Addr) (Q:VK),aG X ae σ H s → ba x v → s.heap.IsSliceOf sl vl vu .none → IsPart vl lo → IsPart vu hi → r x lo hi H Q →
  ∃ T id,typeLookup (.type T) "__getitem__" = pure (some (.builtin id)) ∧ s.TypeIs v T ∧ wpAny (model X.prog X.w) X.A (getItem v (.ref sl)) (EP X ae σ Q) X.xe s
theorem BH.or {r r':V → Option Int → Option Int → Hp → VK → Prop} (h:BH X r) (h':BH X r'):BH X (fun x lo hi H Q => r x lo hi H Q ∨ r' x lo hi H Q):=by
 intro ae s σ H x v vl vu lo hi sl Q I rx hs pl pu q
 rcases q with q | q
 ·exact h ae s σ H x v vl vu lo hi sl Q I rx hs pl pu q
 ·exact h' ae s σ H x v vl vu lo hi sl Q I rx hs pl pu q
noncomputable def O7 (r:V → Option Int → Option Int → Hp → VK → Prop) (te:TE) (tl th:TO):TE:=fun σ H Q => te σ H fun x H1 => tl σ H1 fun l H2 => th σ H2 fun u H3 => r x l u H3 Q
theorem qp {r:V → Option Int → Option Int → Hp → VK → Prop} (hr:BH X r) (he:PE X e te) (hl:PO X lo tl) (hu:PO X hi th):PE X (.Subscript e (.Slice lo hi none p2) pos) (O7 r te tl th):=by
 intro ae s σ H Q I h
 refine Subscript_ (bF (he ae s σ H _ I h) fun v s1 ⟨x,H1,I1,r1,q1⟩ => ?_)
 refine wpAny_Slice (bF (hl ae s1 σ H1 _ I1 q1) fun vl s2 ⟨l,H2,I2,pl,q2⟩ => bF (hu ae s2 σ H2 _ I2 q2) fun vu s3 ⟨u,H3,I3,pu,q3⟩ => ?_)
 rw [evalPart_none]
 refine wpAny_pure ?_
 have I4:aG X ae σ H3 { s3 with heap:=s3.heap.push { cls:=.type "slice",data:=.fields #[vl,vu,.none] } }:=I3.kept (t':=s3.toks) fun b ob q => Heap.get?_push_of_some _ q
 obtain ⟨T,id,hT,ht,hg⟩:=hr ae { s3 with heap:=s3.heap.push { cls:=.type "slice",data:=.fields #[vl,vu,.none] } } σ H3 x v vl vu l u s3.heap.objs.size Q I4 r1 (Heap.IsSliceOf.new ..) pl pu q3
 show wpAny (model X.prog X.w) X.A (subscriptTail e (.Slice lo hi none p2) v (.ref s3.heap.objs.size)) (EP X ae σ Q) X.xe { s3 with heap:=s3.heap.push { cls:=.type "slice",data:=.fields #[vl,vu,.none] } }
 exact tail_any (ops:=[.ref s3.heap.objs.size,v]) ht hT hg (by with_unfolding_all rfl)
noncomputable def o4 (xs:List V) (lo hi:Option Int):List V:=(xs.drop (HT.dO xs.length 0 lo)).take (HT.dO xs.length xs.length hi - HT.dO xs.length 0 lo)
theorem kl (xs:List V) (lo hi:Option Int):(o4 xs lo hi).length ≤ xs.length:=by
 unfold o4
 rw [List.length_take,List.length_drop]
 lia
noncomputable def LJ (K:PySem.W.Frag):V → Option Int → Option Int → Hp → VK → Prop:=fun x lo hi H Q => ∃ a xs,x = .ref a ∧ hR K H a xs ∧
 ¬ (HT.dO xs.length 0 lo = 0 ∧ HT.dO xs.length xs.length hi = xs.length) ∧ ∀ p,H p = none → Q (.ref p) (upd H p (.tup (o4 xs lo hi)))
theorem Fe:BH X (LJ X.K):=by
 intro ae s σ H x v vl vu lo hi sl Q I rx hs pl pu h
 obtain ⟨a,xs,rfl,hx,hw,q⟩:=h
 cases rx
 obtain ⟨aA,r,ht,hz⟩:=I.tuple hx
 have hlen:aA.toArray.size = xs.length:=by rw [List.size_toArray]; exact r.length.symm
 refine ⟨"tuple",_,PyProof.Rows.slot_tuple_getitem.lookup,ht.typeIs,?_⟩
 refine HT.i? ht hs pl pu (by rw [hlen]; exact hw) ?_ (by rw [hlen]; exact hz)
 rw [hlen]
 refine ⟨.ref s.heap.objs.size,_,I.laid (t':=s.toks) (o:=.tup (o4 xs lo hi)) (fun b ob q => Heap.get?_push_of_some _ q) (Nat.le_refl _) ?_,rfl,q _ (I.bI.fresh (Nat.le_refl _))⟩
 exact ⟨Nat.le_trans (kl xs lo hi) hz,_,(r.drop (HT.dO xs.length 0 lo)).take (HT.dO xs.length xs.length hi - HT.dO xs.length 0 lo),IsTup.new _ _⟩
noncomputable def IF (K:PySem.W.Frag):R2:=fun x y H Q => ∃ a b xs ys,x = .ref a ∧ y = .ref b ∧ hR K H a xs ∧ hR K H b ys ∧ xs ≠ [] ∧ xs.length + ys.length ≤ sizeLine ∧
 (ys = [] → Q (.ref a) H) ∧ (ys ≠ [] → ∀ p,H p = none → Q (.ref p) (upd H p (.tup (xs ++ ys))))
theorem a7.o5 {xs:List V} {us:List Value} (r:a7 xs us):us = [] ↔ xs = []:=by
 cases r with
 | nil => simp
 | cons _ _ => simp
theorem BI:c5 X (binaryOp .Add) (IF X.K):=by
 intro ae s σ H x y v u Q I rx ry h
 obtain ⟨a,b,xs,ys,rfl,rfl,ha,hb,hx,hz,q1,q2⟩:=h
 cases rx
 cases ry
 obtain ⟨aA,r1,p1,_⟩:=I.tuple ha
 obtain ⟨de,r2,p2,_⟩:=I.tuple hb
 refine HT.BC p1 p2 (fun z => hx (r1.o5.mp z)) (fun z => ⟨.ref a,H,I,rfl,q1 (r2.o5.mp z)⟩) (fun z => ?_) (by rw [← r1.length,← r2.length]; exact hz)
 refine ⟨.ref s.heap.objs.size,_,I.laid (t':=s.toks) (o:=.tup (xs ++ ys)) (fun b ob q => Heap.get?_push_of_some _ q) (Nat.le_refl _) ?_,rfl,q2 (fun w => z (r2.o5.mpr w)) _ (I.bI.fresh (Nat.le_refl _))⟩
 exact ⟨by rw [List.length_append]; exact hz,_,r1.append r2,IsTup.new _ _⟩
end
end L2
namespace L2
open PySem PySem.Spec PyProof.Rows
noncomputable def ye (n:Nat) (i:Int):Option Nat:=if 0 ≤ i then (if i < n then some i.toNat else none) else if -(n:Int) ≤ i then some (i + n).toNat else none
noncomputable def nJ {α:Type} (xs:List α) (i:Int):Option α:=(ye xs.length i).bind fun j => xs[j]?
theorem uD {n:Nat} {i:Int} {j:Nat} (h:ye n i = some j):seqIndex? i n = some j ∧ j < n ∧ -(n:Int) ≤ i ∧ i < n:=by
 unfold ye at h
 by_cases h0:0 ≤ i
 ·rw [if_pos h0] at h
  by_cases h1:i < n
  ·rw [if_pos h1] at h
   have e:i.toNat = j:=Option.some.inj h
   exact ⟨by rw [seqIndex_of h0 h1,e],by lia,by lia,h1⟩
  ·rw [if_neg h1] at h; cases h
 ·rw [if_neg h0] at h
  by_cases h1:-(n:Int) ≤ i
  ·rw [if_pos h1] at h
   have e:(i + n).toNat = j:=Option.some.inj h
   exact ⟨by rw [seqIndex_neg (by lia) h1,e],by lia,h1,by lia⟩
  ·rw [if_neg h1] at h; cases h
theorem o6 {α:Type} {xs:List α} {i:Int} {v:α} (h:nJ xs i = some v):∃ j,seqIndex? i xs.length = some j ∧ xs[j]? = some v ∧ j < xs.length ∧ -(xs.length:Int) ≤ i ∧ i < xs.length:=by
 unfold nJ at h
 cases e:ye xs.length i with
 | none => rw [e] at h; cases h
 | some j =>
  rw [e] at h
  obtain ⟨h1,h2,h3,h4⟩:=uD e
  exact ⟨j,h1,h,h2,h3,h4⟩
theorem lJ {α:Type} {xs:List α} {j:Nat} {v:α} (h:xs[j]? = some v):nJ xs (j:Int) = some v:=by
 have hj:j < xs.length:=(List.getElem?_eq_some_iff.mp h).1
 have e:ye xs.length (j:Int) = some j:=by
  unfold ye
  rw [if_pos (by lia),if_pos (by lia)]; simp
 unfold nJ; rw [e]; exact h
noncomputable def o7 (b:Expr):Prop:=∀ o i,subscripted b false o i = operate [o,i] (getItem o i)
noncomputable def p? (X:Cx) (r:R2):Prop :=
 ∀ (value slice:Expr) (ae:List (Addr × Obj)) (s:Shared) (σ:St) (H:Hp) (x y:V) (v u:Value) (Q:VK),aG X ae σ H s → ba x v → ba y u → r x y H Q →
  subscripted slice false v u = operate [v,u] (getItem v u) → wpAny (model X.prog X.w) X.A (subscriptTail value slice v u) (EP X ae σ Q) X.xe s
noncomputable def O8 (X:Cx) (id:String) (r:V → List V → Hp → VK → Prop):Prop :=
 ∀ (ae:List (Addr × Obj)) (s:Shared) (σ:St) (H:Hp) (x:V) (xs:List V) (v:Value) (us:List Value) (Q:VK),aG X ae σ H s → ba x v → a7 xs us → r x xs H Q →
  wpAny (model X.prog X.w) X.A (call (.builtin id) (v :: us)) (EP X ae σ Q) X.xe s
section
variable {X:Cx} {a b:Expr} {ta tb:TE} {pos:Pos}
theorem p?.or {r r':R2} (h:p? X r) (h':p? X r'):p? X (fun x y H Q => r x y H Q ∨ r' x y H Q):=by
 intro value slice ae s σ H x y v u Q I rx ry q hs
 rcases q with q | q
 ·exact h value slice ae s σ H x y v u Q I rx ry q hs
 ·exact h' value slice ae s σ H x y v u Q I rx ry q hs
theorem IG {r:R2} (hr:p? X r) (ha:PE X a ta) (hb:PE X b tb) (hs:o7 b):PE X (.Subscript a b pos) (HD r ta tb):=by
 intro ae s σ H Q I h
 exact Subscript_ (E1 ha hb I h fun v u s2 x y H2 I2 rx ry q => hr a b ae s2 σ H2 x y v u Q I2 rx ry q (hs _ _))
noncomputable def LK (K:PySem.W.Frag):R2:=fun x y H Q => ∃ p xs i v,x = .ref p ∧ y = .int i ∧ i8 K H p xs ∧ nJ xs i = some v ∧ Q v H
noncomputable def LL (K:PySem.W.Frag):R2:=fun x y H Q => ∃ p xs i v,x = .ref p ∧ y = .int i ∧ hR K H p xs ∧ nJ xs i = some v ∧ Q v H
noncomputable def LM:R2:=fun x y H Q => ∃ z i c,x = .str z ∧ y = .int i ∧ z.length ≤ sizeLine ∧ nJ z.cps.toList i = some c ∧ Q (.str ⟨#[c]⟩) H
theorem BJ:p? X (LK X.K):=by
 intro value slice ae s σ H x y v u Q I rx ry h hs
 obtain ⟨p,xs,i,z,rfl,rfl,hq,he,q⟩:=h
 cases rx
 obtain ⟨t,rfl⟩:=ry
 obtain ⟨aA,r,pl,hz⟩:=I.list hq
 obtain ⟨j,h1,h2,h3,h4,h5⟩:=o6 he
 obtain ⟨w,ew,sC⟩:=r.get h2
 have hl:=r.length
 have hn:=jI
 have fin:EP X ae σ Q w s:=⟨z,H,I,sC,q⟩
 by_cases h0:0 ≤ i
 ·have hj:i.toNat = j:=by
   rw [seqIndex_of h0 h5] at h1
   exact Option.some.inj h1
  exact item_listR pl.isList h0 (by lia) (by rw [hj]; simpa using ew) fin hs
 ·have hj:(i + (aA.toArray.size:Int)).toNat = j:=by
   rw [seqIndex_neg (by lia) h4] at h1
   rw [List.size_toArray,← hl]
   exact Option.some.inj h1
  exact subscriptTail_builtinR (x:=w) pl.isList.typeIs slot_list_getitem.lookup
   (wpAny_getItem_list_neg (Q:=fun r s' => r = w ∧ EP X ae σ Q r s') pl.isList (by lia) (by rw [List.size_toArray] <;> lia) (by lia) (by rw [hj]; simpa using ew) ⟨rfl,fin⟩) hs
theorem sD:p? X (LL X.K):=by
 intro value slice ae s σ H x y v u Q I rx ry h hs
 obtain ⟨p,xs,i,z,rfl,rfl,hq,he,q⟩:=h
 cases rx
 obtain ⟨t,rfl⟩:=ry
 obtain ⟨aA,r,pl,hz⟩:=I.tuple hq
 obtain ⟨j,h1,h2,h3,h4,h5⟩:=o6 he
 obtain ⟨w,ew,sC⟩:=r.get h2
 have hl:=r.length
 have hn:=jI
 have fin:EP X ae σ Q w s:=⟨z,H,I,sC,q⟩
 exact subscriptTail_builtinR (x:=w) pl.typeIs slot_tuple_getitem.lookup
  (getItem_tuple (j:=j) (Q:=fun r s' => r = w ∧ EP X ae σ Q r s') pl (by lia) (by lia) (by rw [List.size_toArray,← hl]; exact h1) (by simpa using ew) ⟨rfl,fin⟩) hs
theorem Ff:p? X LM:=by
 intro value slice ae s σ H x y v u Q I rx ry h hs
 obtain ⟨z,i,c,rfl,rfl,hz,he,q⟩:=h
 obtain ⟨t,rfl⟩:=rx
 obtain ⟨t',rfl⟩:=ry
 obtain ⟨j,h1,h2,h3,h4,h5⟩:=o6 he
 have hl:z.cps.toList.length = z.length:=by simp [Str.length]
 rw [hl] at h1 h4 h5
 have hn:=jI
 exact tail_any (typeIs_str s z t) slot_str_getitem.lookup (getItem_str (c:=c) (by
  have e1:decide (i < -(2 ^ 63:Int)) = false:=decide_eq_false (by lia)
  have e2:decide (i ≥ 2 ^ 63) = false:=decide_eq_false (by lia)
  rw [e1,e2,Bool.or_false]) (by rw [h1]; simpa using h2) ⟨.str ⟨#[c]⟩,H,I.tok _,⟨_,rfl⟩,q⟩) hs
theorem sE (aA:List Value) (n j:Nat) (u:Value):Obj.mapSeq (·.setIfInBounds j u) { cls:=.type "list",data:=.seq aA.toArray n } = { cls:=.type "list",data:=.seq (aA.set j u).toArray n }:=by
 simp [Obj.mapSeq]
theorem aG.lst {ae:List (Addr × Obj)} {σ:St} {H:Hp} {s:Shared} {p:Addr} {xs:List V} (I:aG X ae σ H s) (h:H p = some (.lst xs)) :
  ∃ (aA:List Value) (n:Nat),a7 xs aA ∧ s.heap.get? p = some { cls:=.type "list",data:=.seq aA.toArray n } ∧ xs.length ≤ sizeLine:=by
 obtain ⟨z,aA,n,r,e⟩:=I.bI p _ h
 exact ⟨aA,n,r,e,z⟩
theorem aG.Fg {ae:List (Addr × Obj)} {σ:St} {H:Hp} {s:Shared} {p:Addr} {xs ys:List V} {aA its':List Value} {n n':Nat} {f:Obj → Obj} (I:aG X ae σ H s) (h:H p = some (.lst xs))
  (ho:s.heap.get? p = some { cls:=.type "list",data:=.seq aA.toArray n }) (hf:f { cls:=.type "list",data:=.seq aA.toArray n } = { cls:=.type "list",data:=.seq its'.toArray n' }) (r:a7 ys its') (hz:ys.length ≤ sizeLine) (t:Nat) :
  aG X ae σ (upd H p (.lst ys)) { s with heap:=s.heap.update p f,toks:=t }:=by
 have e:(s.heap.update p f).get? p = some { cls:=.type "list",data:=.seq its'.toArray n' }:=by
  rw [Heap.get?_update_self f ho (by rw [hf] <;> rfl),hf]
 refine I.write (x:=p) (e:=p) (by rw [h]; trivial) (.inl rfl) (fun b u hb q => (Heap.get?_update_other _ _ (Ne.symm hb)).trans q) ⟨_,e⟩ ?_
 exact ⟨hz,its',n',r,e⟩
noncomputable def D0:V → V → V → Hp → (Hp → Prop) → Prop:=fun o i v H Q => ∃ p xs k j,o = .ref p ∧ i = .int k ∧ H p = some (.lst xs) ∧ ye xs.length k = some j ∧ Q (upd H p (.lst (xs.set j v)))
theorem set_list:Ih X D0:=by
 intro ae s σ H o i v ov iv u Q I ro ri rv h
 obtain ⟨p,xs,k,j,rfl,rfl,hp,hj,q⟩:=h
 cases ro
 obtain ⟨t,rfl⟩:=ri
 obtain ⟨aA,n,r,ho,hz⟩:=I.lst hp
 obtain ⟨h1,h2,h3,h4⟩:=uD hj
 have hl:=r.length
 have hn:=jI
 have I':aG X ae σ (upd H p (.lst (xs.set j v))) { s with heap:=s.heap.update p (Obj.mapSeq (·.setIfInBounds j u)) } :=
  I.Fg hp ho (sE aA n j u) (r.set rv j) (by rw [List.length_set]; exact hz) s.toks
 by_cases h0:0 ≤ k
 ·have hk:k.toNat = j:=by
   rw [seqIndex_of h0 h4] at h1
   exact Option.some.inj h1
  exact PySem.W.ki_setAt ho h0 (by lia) (by rw [List.size_toArray,← hl]; exact h4) (by rw [hk]; exact ⟨_,I',q⟩)
 ·have hk:(k + (aA.toArray.size:Int)).toNat = j:=by
   rw [seqIndex_neg (by lia) h3] at h1
   rw [List.size_toArray,← hl]
   exact Option.some.inj h1
  exact PySem.W.ki_setBack ho (by lia) (by rw [List.size_toArray,← hl]; exact h3) (by lia) (by rw [hk]; exact ⟨_,I',q⟩)
theorem o8 (lo hi:Option Int) (n:Nat):(sliceBounds lo hi none n).1 = ((HT.dO n 0 lo:Nat):Int) ∧ (sliceBounds lo hi none n).2.1 = ((HT.dO n n hi:Nat):Int) ∧ (sliceBounds lo hi none n).2.2 = 1:=by
 refine ⟨?_,?_,rfl⟩
 ·cases lo with
  | none => simp [sliceBounds,HT.dO]
  | some i =>
   simp only [sliceBounds,HT.dO,Option.getD_none,show (1:Int) > 0 by decide,if_true]
   by_cases h:i < 0
   ·simp only [h,if_true] <;> lia
   ·simp only [h,if_false] <;> lia
 ·cases hi with
  | none => simp [sliceBounds,HT.dO]
  | some i =>
   simp only [sliceBounds,HT.dO,Option.getD_none,show (1:Int) > 0 by decide,if_true]
   by_cases h:i < 0
   ·simp only [h,if_true] <;> lia
   ·simp only [h,if_false] <;> lia
theorem nQ (aA:List Value) (lo hi:Option Int):slicePick aA.toArray lo hi none = ((aA.drop (HT.dO aA.length 0 lo)).take (HT.dO aA.length aA.length hi - HT.dO aA.length 0 lo)).toArray:=by
 obtain ⟨h1,h2,h3⟩:=o8 lo hi aA.toArray.size
 unfold slicePick
 rw [h1,h2,h3]
 simp only [sliceRange_one,pick_run,List.size_toArray] <;> rfl
noncomputable def LN (K:PySem.W.Frag):V → Option Int → Option Int → Hp → VK → Prop:=fun x lo hi H Q => ∃ a xs,x = .ref a ∧ i8 K H a xs ∧ ∀ p,H p = none → Q (.ref p) (upd H p (.lst (o4 xs lo hi)))
theorem BK:BH X (LN X.K):=by
 intro ae s σ H x v vl vu lo hi sl Q I rx hs pl pu h
 obtain ⟨a,xs,rfl,hx,q⟩:=h
 cases rx
 obtain ⟨aA,r,ht,hz⟩:=I.list hx
 have hlen:=r.length
 refine ⟨"list",_,slot_list_getitem.lookup,ht.isList.typeIs,?_⟩
 refine wpAny_getItem_list_slice ht.isList hs pl pu .none (by simp) ?_ (by rw [List.size_toArray] <;> lia)
 rw [nQ,← hlen]
 refine ⟨.ref s.heap.objs.size,_,I.laid (t':=s.toks) (o:=.lst (o4 xs lo hi)) (fun b ob q => Heap.get?_push_of_some _ q) (Nat.le_refl _) ?_,rfl,q _ (I.bI.fresh (Nat.le_refl _))⟩
 exact ⟨Nat.le_trans (kl xs lo hi) hz,_,0,(r.drop (HT.dO xs.length 0 lo)).take (HT.dO xs.length xs.length hi - HT.dO xs.length 0 lo),Heap.get?_push_size _ rfl⟩
noncomputable def gK:V → Bool
 | .cB => true
 | .bl _ => true
 | .int _ => true
 | .str _ => true
 | _ => false
noncomputable def Bf:V → V → Bool
 | .cB,.cB => true
 | .bl a,.bl b => a == b
 | .bl a,.int b => (if a then 1 else 0) == b
 | .int a,.bl b => a == (if b then 1 else 0)
 | .int a,.int b => a == b
 | .str a,.str b => a == b
 | _,_ => false
theorem Fh {A:Around} {s:Shared} {y x:V} {u v:Value} (ry:ba y u) (rx:ba x v) (fy:gK y = true) (fx:gK x = true):SeqAt.EqAt A s u v (Bf y x):=by
 cases y with
 | cB =>
  cases ry
  cases x with
  | cB => cases rx; exact SeqAt.EqAt.same _
  | bl b => cases rx; exact SeqAt.EqAt.none_bool b
  | int b => obtain ⟨t,rfl⟩:=rx; exact SeqAt.EqAt.none_int b t
  | str b => obtain ⟨t,rfl⟩:=rx; exact SeqAt.EqAt.none_str b t
  | _ => exact absurd (show false = true from fx) Bool.false_ne_true
 | bl a =>
  cases ry
  cases x with
  | cB => cases rx; exact SeqAt.EqAt.bool_none a
  | bl b => cases rx; exact SeqAt.EqAt.bool_bool a b
  | int b => obtain ⟨t,rfl⟩:=rx; exact SeqAt.EqAt.bool_int a b t
  | str b => obtain ⟨t,rfl⟩:=rx; exact SeqAt.EqAt.bool_str a b t
  | _ => exact absurd (show false = true from fx) Bool.false_ne_true
 | int a =>
  obtain ⟨t',rfl⟩:=ry
  cases x with
  | cB => cases rx; exact SeqAt.EqAt.int_none a t'
  | bl b => cases rx; exact SeqAt.EqAt.int_bool a t' b
  | int b => obtain ⟨t,rfl⟩:=rx; exact SeqAt.EqAt.int_int a t' b t
  | str b => obtain ⟨t,rfl⟩:=rx; exact SeqAt.EqAt.int_str a t' b t
  | _ => exact absurd (show false = true from fx) Bool.false_ne_true
 | str a =>
  obtain ⟨t',rfl⟩:=ry
  cases x with
  | cB => cases rx; exact SeqAt.EqAt.str_none a t'
  | bl b => cases rx; exact SeqAt.EqAt.str_bool a t' b
  | int b => obtain ⟨t,rfl⟩:=rx; exact SeqAt.EqAt.str_int a t' b t
  | str b => obtain ⟨t,rfl⟩:=rx; exact SeqAt.EqAt.str_str a t' b t
  | _ => exact absurd (show false = true from fx) Bool.false_ne_true
 | _ => exact absurd (show false = true from fy) Bool.false_ne_true
noncomputable def sF (x:V) (u:Value):Bool:=match u with
 | .none => Bf .cB x
 | .bool b => Bf (.bl b) x
 | .int i _ => Bf (.int i) x
 | .str z _ => Bf (.str z) x
 | _ => false
theorem yf {x y:V} {u:Value} (r:ba y u) (f:gK y = true):sF x u = Bf y x:=by
 cases y with
 | cB => cases r; rfl
 | bl b => cases r; rfl
 | int i => obtain ⟨t,rfl⟩:=r; rfl
 | str z => obtain ⟨t,rfl⟩:=r; rfl
 | _ => exact absurd (show false = true from f) Bool.false_ne_true
theorem i' {x:V}:∀ {xs:List V} {us:List Value},a7 xs us → xs.all gK = true → us.any (sF x) = xs.any fun y => Bf y x
 | _,_,.nil,_ => rfl
 | y :: xs,u :: us,.cons r t,f => by
  rw [List.all_cons,Bool.and_eq_true] at f
  rw [List.any_cons,List.any_cons,yf r f.1,i' t f.2]
theorem gL {A:Around} {s:Shared} {x:V} {v:Value} (rx:ba x v) (fx:gK x = true):∀ {xs:List V} {us:List Value},a7 xs us → xs.all gK = true → ∀ u ∈ us,SeqAt.EqAt A s u v (sF x u)
 | _,_,.nil,_ => fun u hu => by cases hu
 | y :: xs,u :: us,.cons r t,f => fun u' hu => by
  rw [List.all_cons,Bool.and_eq_true] at f
  rcases List.mem_cons.mp hu with rfl | hu
  ·rw [yf r f.1]; exact Fh r rx f.1 fx
  ·exact gL rx fx t f.2 u' hu
noncomputable def Kt (x:V) (xs:List V):Bool:=xs.any fun y => Bf y x
noncomputable def LO (K:PySem.W.Frag) (neg:Bool):R2:=fun x y H Q => ∃ p xs,y = .ref p ∧ (i8 K H p xs ∨ hR K H p xs) ∧ gK x = true ∧ xs.all gK = true ∧ Q (.bl (if neg then !Kt x xs else Kt x xs)) H
theorem vM:c5 X (compareOp .In) (LO X.K false):=by
 intro ae s σ H x y v u Q I rx ry h
 obtain ⟨p,xs,rfl,hq,fx,fs,q⟩:=h
 cases ry
 rcases hq with hq | hq
 ·obtain ⟨aA,r,pl,hz⟩:=I.list hq
  refine SeqAt.in_listAt (sF x) pl.isList (fun w hw => gL rx fx r fs w (by simpa using hw)) ⟨.bl _,H,I,rfl,?_⟩
  rw [show aA.toArray.any (sF x) = aA.any (sF x) by simp,i' r fs]
  exact q
 ·obtain ⟨aA,r,pl,hz⟩:=I.tuple hq
  refine SeqAt.in_tupleAt (sF x) pl (fun w hw => gL rx fx r fs w (by simpa using hw)) ⟨.bl _,H,I,rfl,?_⟩
  rw [show aA.toArray.any (sF x) = aA.any (sF x) by simp,i' r fs]
  exact q
theorem o9:c5 X (compareOp .NotIn) (LO X.K true):=by
 intro ae s σ H x y v u Q I rx ry h
 obtain ⟨p,xs,rfl,hq,fx,fs,q⟩:=h
 cases ry
 rcases hq with hq | hq
 ·obtain ⟨aA,r,pl,hz⟩:=I.list hq
  refine SeqAt.notIn_listAt (sF x) pl.isList (fun w hw => gL rx fx r fs w (by simpa using hw)) ⟨.bl _,H,I,rfl,?_⟩
  rw [show aA.toArray.any (sF x) = aA.any (sF x) by simp,i' r fs]
  exact q
 ·obtain ⟨aA,r,pl,hz⟩:=I.tuple hq
  refine SeqAt.notIn_tupleAt (sF x) pl (fun w hw => gL rx fx r fs w (by simpa using hw)) ⟨.bl _,H,I,rfl,?_⟩
  rw [show aA.toArray.any (sF x) = aA.any (sF x) by simp,i' r fs]
  exact q
theorem o_:bV X (.builtin "len") (fun xs H Q => ∃ p ys,xs = [.ref p] ∧ (i8 X.K H p ys ∨ hR X.K H p ys) ∧ Q (.int ys.length) H):=by
 intro ae s σ H xs us Q I r h
 obtain ⟨p,ys,rfl,hq,q⟩:=h
 obtain ⟨u,rfl,rx⟩:=vals1 r
 cases rx
 have hn:=jI
 rcases hq with hq | hq
 ·obtain ⟨aA,r',pl,hz⟩:=I.list hq
  have hlen:=r'.length
  exact Calls.call_len_list pl.isList (by simp only [List.size_toArray] <;> lia) ⟨.int ys.length,H,I.tok _,⟨s.toks + 1,by rw [List.size_toArray,hlen]⟩,q⟩
 ·obtain ⟨aA,r',pl,hz⟩:=I.tuple hq
  have hlen:=r'.length
  exact len_tuple pl (by simp only [List.size_toArray] <;> lia) ⟨.int ys.length,H,I.tok _,⟨s.toks + 1,by rw [List.size_toArray,hlen]⟩,q⟩
theorem o!:bV X (.builtin "len") (fun xs H Q => ∃ z,xs = [.str z] ∧ z.length ≤ sizeLine ∧ Q (.int z.length) H):=by
 intro ae s σ H xs us Q I r h
 obtain ⟨z,rfl,hz,q⟩:=h
 obtain ⟨u,rfl,t,rfl⟩:=vals1 r
 have hn:=jI
 exact len_str (by lia) ⟨.int z.length,H,I.tok _,⟨_,rfl⟩,q⟩
theorem bV.or {f:Value} {r r':List V → Hp → VK → Prop} (h:bV X f r) (h':bV X f r'):bV X f (fun xs H Q => r xs H Q ∨ r' xs H Q):=by
 intro ae s σ H xs us Q I rs q
 rcases q with q | q
 ·exact h ae s σ H xs us Q I rs q
 ·exact h' ae s σ H xs us Q I rs q
theorem nR:bV X (.type "tuple") (fun xs H Q => ∃ p ys,xs = [.ref p] ∧ ((i8 X.K H p ys ∧ ∀ l,H l = none → Q (.ref l) (upd H l (.tup ys))) ∨ (hR X.K H p ys ∧ Q (.ref p) H))):=by
 intro ae s σ H xs us Q I r h
 obtain ⟨p,ys,rfl,h⟩:=h
 obtain ⟨u,rfl,rx⟩:=vals1 r
 cases rx
 rcases h with ⟨hq,q⟩ | ⟨hq,q⟩
 ·obtain ⟨aA,r',pl,hz⟩:=I.list hq
  have hlen:=r'.length
  refine call_tuple_list pl.isList (fun h' kp => ?_) (by simp only [List.size_toArray] <;> lia)
  have I1:aG X ae σ H { s with heap:=h' }:=I.kept (t':=s.toks) kp
  have I2:aG X ae σ (upd H h'.objs.size (.tup ys)) { s with heap:=h'.push { cls:=.type "tuple",data:=.seq aA.toArray } } :=
   I1.laid (t':=s.toks) (fun b o e => Heap.get?_push_of_some _ e) (Nat.le_refl _) (show bU X.prog X.w _ _ _ (.tup ys) from ⟨hz,aA,r',IsTup.new _ _⟩)
  exact ⟨.ref h'.objs.size,_,I2,rfl,q _ (I1.bI.fresh (Nat.le_refl _))⟩
 ·obtain ⟨aA,r',pl,hz⟩:=I.tuple hq
  exact call_tuple_same pl ⟨.ref p,H,I,rfl,q⟩
noncomputable def LP (K:PySem.W.Frag) (T:String) (x:V) (H:Hp):Prop:=match x with
 | .str _ => T = "str"
 | .int _ => T = "int"
 | .ref p => (T = "list" ∧ ∃ xs,i8 K H p xs) ∨ (T = "tuple" ∧ ∃ o,K.lookup p = some o ∧ o.cls = .type "tuple" ∧ o.dict = none) ∨
   (T = "dict" ∧ ((∃ aH,H p = some (.dK aH)) ∨ ∃ aH,H p = some (.dT aH))) ∨ (T = "set" ∧ ∃ S n,H p = some (.set S n))
 | _ => False
theorem Fi {ae:List (Addr × Obj)} {σ:St} {H:Hp} {s:Shared} {T:String} {x:V} {v:Value} (I:aG X ae σ H s) (r:ba x v) (ty:LP X.K T x H) :
  s.TypeIs v T ∧ ∀ a,v = .ref a → ∃ ob,s.heap.get? a = some ob ∧ ob.dict = none:=by
 cases x with
 | str z =>
  obtain ⟨t,rfl⟩:=r
  cases (show T = "str" from ty)
  exact ⟨typeIs_str s z t,fun _ e => nomatch e⟩
 | int i =>
  obtain ⟨t,rfl⟩:=r
  cases (show T = "int" from ty)
  exact ⟨typeIs_int s i t,fun _ e => nomatch e⟩
 | ref p =>
  cases r
  rcases ty with ⟨rfl,xs,hq⟩ | ⟨rfl,o,hk,hc,hd⟩ | ⟨rfl,hk⟩ | ⟨rfl,S,n,hk⟩
  ·obtain ⟨aA,_,pl,_⟩:=I.list hq
   refine ⟨pl.isList.typeIs,fun a e => ?_⟩
   cases e
   obtain ⟨o,n,e,c,hd,_⟩:=pl
   exact ⟨o,e,hd⟩
  ·refine ⟨⟨o,I.lG p o hk,hc⟩,fun a e => ?_⟩
   cases e
   exact ⟨o,I.lG _ o hk,hd⟩
  ·have z:∃ o,s.heap.get? p = some o ∧ o.ExactDict:=by
    rcases hk with ⟨aH,hk⟩ | ⟨aH,hk⟩
    ·obtain ⟨_,_,_,_,o,_,_,e,ex,_⟩:=I.bI p _ hk
     exact ⟨o,e,ex⟩
    ·obtain ⟨_,_,_,_,o,_,_,e,ex,_⟩:=I.bI p _ hk
     exact ⟨o,e,ex⟩
   obtain ⟨o,e,ex⟩:=z
   refine ⟨⟨o,e,ex.1⟩,fun a e2 => ?_⟩
   cases e2
   exact ⟨o,e,ex.2.1⟩
  ·obtain ⟨o,_,_,_,e,ex,_⟩:=I.bI p _ hk
   refine ⟨⟨o,e,ex.1⟩,fun a e2 => ?_⟩
   cases e2
   exact ⟨o,e,ex.2.1⟩
 | _ => exact False.elim ty
noncomputable def O9 (K:PySem.W.Frag) (T:String) (r:V → List V → Hp → VK → Prop) (to:TE) (t:TA):TE:=fun σ H Q => to σ H fun x H1 => LP K T x H1 ∧ t σ H1 fun xs H2 => r x xs H2 Q
variable {o e:Expr} {es:List Expr} {to:TE} {t:TA} {name:Str} {apos bC:Pos} {T id:String} {r:V → List V → Hp → VK → Prop}
theorem IH (pa:PlainAttrs T) (slot:Slot T name id) (LQ:typeOf (.builtin id) = pure (.type "method_descriptor")) (hm:O8 X id r) (ho:PE X o to) (ha:PA X (e :: es) t)
  (qq:attributeBase o name X.env (eval o X.env) = eval o X.env:=by rfl)
  (yg:((backTo bC (starEach (e :: es) X.env)).all (fun x => !x.1) && (backToKw bC (keywordEach [] X.env)).all (fun x => x.1.isSome)
   && decide ((e :: es).length + ([]:List Keyword).length + (if ([]:List Keyword).isEmpty then 0 else 1) < 30)) = true:=by rfl)
  (qr:(apos.endLine == bC.line) = true:=by rfl) (hs:starEach (e :: es) X.env = (false,eval e X.env) :: starEach es X.env:=by rfl) (lY:(backTo bC (starEach es X.env)).any (·.1) = false:=by rfl) :
  PE X (.Call (.Attribute o name apos) (e :: es) [] bC) (O9 X.K T r to t):=by
 intro ae s σ H Q I h
 refine wpAny_Call_method_late qq yg qr rfl (bF (ho ae s σ H _ I h) fun v s1 ⟨x,H1,I1,r1,ty,q1⟩ => ?_)
 obtain ⟨h1,h2⟩:=Fi I1 r1 ty
 refine ⟨T,id,pa,slot,LQ,h1,h2,?_⟩
 have hA:=ha bC ae s1 σ H1 _ I1 q1
 rw [hs] at hA ⊢
 refine Calls.callWith_builtin (by show (false || (backTo bC (starEach es X.env)).any (·.1)) = false; rw [lY] <;> rfl) (Calls.evalArgs_plain ?_)
 exact bF hA fun us s2 ⟨vs,H2,I2,r2,q2⟩ => hm ae s2 σ H2 x vs v us Q I2 r1 r2 q2
end
end L2
namespace L2
open PySem PySem.Spec PyProof.Rows
noncomputable def Fj (X:Cx) (id:String) (r:V → List V → Hp → VK → Prop):Prop :=
 ∀ (ae:List (Addr × Obj)) (s:Shared) (σ:St) (H:Hp) (x:V) (xs:List V) (v:Value) (us:List Value) (Q:VK),aG X ae σ H s → ba x v → a7 xs us → r x xs H Q →
  wpAny (model X.prog X.w) X.A (call (.builtin id) (v :: us)) (EP X ae σ Q) X.xe s
theorem a7.one {x:V} {us:List Value} (p:a7 [x] us):∃ u,us = [u] ∧ ba x u:=by
 cases p with
 | cons r t => cases t; exact ⟨_,rfl,r⟩
theorem a7.rep {xs:List V} {us:List Value} (h:a7 xs us):∀ k:Nat,a7 (List.replicate k xs).flatten (List.replicate k us).flatten
 | 0 => .nil
 | k + 1 => by
  rw [List.replicate_succ,List.replicate_succ,List.flatten_cons,List.flatten_cons]
  exact a7.append h (a7.rep h k)
theorem foldl_rep (aA:List Value):∀ (k:Nat) (acc:List Value),
  List.foldl (fun x1 x2 => x1 ++ x2) acc.toArray (List.replicate k aA.toArray) = (acc ++ (List.replicate k aA).flatten).toArray
 | 0,acc => by simp
 | k + 1,acc => by
  have e:acc.toArray ++ aA.toArray = (acc ++ aA).toArray:=by simp
  have e2:(acc ++ aA) ++ (List.replicate k aA).flatten = acc ++ (List.replicate (k + 1) aA).flatten:=by
   rw [List.replicate_succ,List.flatten_cons,List.append_assoc]
  rw [← e2,← foldl_rep aA k (acc ++ aA),← e,List.replicate_succ,List.foldl_cons]
section
variable {X:Cx} {ae:List (Addr × Obj)} {σ:St} {H:Hp} {s:Shared} {l b:Addr} {xs ys zs:List V}
theorem aG.LR {aA its':List Value} {n:Nat} {f:Array Value → Array Value} {t':Nat} (I:aG X ae σ H s) (hH:H l = some (.lst xs))
  (e:s.heap.get? l = some { cls:=.type "list",data:=.seq aA.toArray n }) (hf:f aA.toArray = its'.toArray) (hv:a7 ys its') (hz:ys.length ≤ sizeLine) :
  aG X ae σ (upd H l (.lst ys)) { s with heap:=s.heap.update l (Obj.mapSeq f),toks:=t' }:=by
 have q:=PySem.IsL.update e f
 rw [hf] at q
 refine I.write (x:=l) (e:=l) (by rw [hH]; exact trivial) (.inl rfl) (fun b' u hb hu => (Heap.get?_update_other s.heap (Obj.mapSeq f) (Ne.symm hb)).trans hu) ⟨_,q⟩ ?_
 exact ⟨hz,its',_,hv,q⟩
theorem aG.II {aA:List Value} {t':Nat} (I:aG X ae σ H s) (hv:a7 ys aA) (hz:ys.length ≤ sizeLine) :
  aG X ae σ (upd H s.heap.objs.size (.lst ys)) { s with heap:=s.heap.push { cls:=.type "list",data:=.seq aA.toArray },toks:=t' } :=
 I.laid (fun _ _ q => Heap.get?_push_of_some _ q) (Nat.le_refl _) ⟨hz,aA,0,hv,Heap.get?_push_size _ rfl⟩
theorem aG.fresh (I:aG X ae σ H s):H s.heap.objs.size = none:=I.bI.fresh (Nat.le_refl _)
theorem aG.BL (I:aG X ae σ H s) (hH:H l = some (.lst xs)):xs.length ≤ sizeLine ∧ ∃ (aA:List Value) (n:Nat),a7 xs aA ∧ xs.length = aA.length ∧ s.heap.get? l = some { cls:=.type "list",data:=.seq aA.toArray n }:=by
 obtain ⟨z,aA,n,r,e⟩:=I.bI l _ hH
 exact ⟨z,aA,n,r,r.length,e⟩
theorem yh {n:Nat} (h:n ≤ sizeLine):Builtin.List.listTooLong n = false:=by
 unfold Builtin.List.listTooLong
 exact decide_eq_false (by lia)
end
section
variable {X:Cx}
noncomputable def BM:V → List V → Hp → VK → Prop:=fun x vs H Q => ∃ l xs y,x = .ref l ∧ vs = [y] ∧ H l = some (.lst xs) ∧ xs.length < sizeLine ∧ Q .cB (upd H l (.lst (xs ++ [y])))
theorem vN:Fj X "list.append" BM:=by
 intro ae s σ H x vs v us Q I rx rv h
 obtain ⟨l,xs,y,rfl,rfl,hH,hz,q⟩:=h
 cases rx
 obtain ⟨u,rfl,ru⟩:=rv.one
 obtain ⟨z,aA,n,r,hl,e⟩:=I.BL hH
 refine call_meets F.slot_list_append ⟨_,e,rfl⟩ F.entry_list_append (F.args_list_append_2 _ _) (PySem.list_append l aA.toArray n u (by rw [List.size_toArray]; lia)) ⟨e,?_⟩
 refine ⟨.cB,_,I.LR (its':=aA ++ [u]) hH e (by simp) (r.append (.cons ru .nil)) ?_,rfl,q⟩
 rw [List.length_append,List.length_singleton]
 lia
noncomputable def Ku:V → List V → Hp → VK → Prop:=fun x vs H Q => ∃ l b xs zs,x = .ref l ∧ vs = [.ref b] ∧ H l = some (.lst xs) ∧ H b = some (.lst zs) ∧ xs.length + zs.length ≤ sizeLine ∧ Q .cB (upd H l (.lst (xs ++ zs)))
noncomputable def LS:R2:=fun x y H Q => ∃ l b xs zs,x = .ref l ∧ y = .ref b ∧ H l = some (.lst xs) ∧ H b = some (.lst zs) ∧ xs.length + zs.length ≤ sizeLine ∧ ∀ p,H p = none → Q (.ref p) (upd H p (.lst (xs ++ zs)))
theorem Fl:c5 X (binaryOp .Add) LS:=by
 intro ae s σ H x y v u Q I rx ry h
 obtain ⟨l,b,xs,zs,rfl,rfl,hH,hB,hz,q⟩:=h
 cases rx
 cases ry
 obtain ⟨z,aA,n,r,hl,e⟩:=I.BL hH
 obtain ⟨z2,de,n2,r2,Bg,e2⟩:=I.BL hB
 refine PySem.P.add_list e e2 ?_ (by rw [List.size_toArray,List.size_toArray]; lia)
 have ea:aA.toArray ++ de.toArray = (aA ++ de).toArray:=by simp
 rw [ea]
 exact ⟨.ref _,_,I.II (t':=s.toks) (r.append r2) (by rw [List.length_append]; lia),rfl,q _ I.fresh⟩
noncomputable def LU:R2:=fun x y H Q => ∃ l k xs,x = .ref l ∧ y = .int k ∧ H l = some (.lst xs) ∧ -(2 ^ 63) ≤ k ∧ k < 2 ^ 63 ∧ xs.length * k.toNat ≤ sizeLine ∧
 ∀ p,H p = none → Q (.ref p) (upd H p (.lst (List.replicate k.toNat xs).flatten))
theorem len_rep {α:Type} (xs:List α) (k:Nat):(List.replicate k xs).flatten.length = k * xs.length:=by
 induction k with
 | zero => simp
 | succ k ih => rw [List.replicate_succ,List.flatten_cons,List.length_append,ih,Nat.succ_mul,Nat.add_comm]
theorem Fm:c5 X (binaryOp .Mult) LU:=by
 intro ae s σ H x y v u Q I rx ry h
 obtain ⟨l,k,xs,rfl,rfl,hH,h1,h2,hz,q⟩:=h
 cases rx
 obtain ⟨t,rfl⟩:=ry
 obtain ⟨z,aA,n,r,hl,e⟩:=I.BL hH
 have hlen:aA.toArray.size * k.toNat ≤ sizeLine:=by rw [List.size_toArray,← hl]; exact hz
 have Fn:¬ aA.toArray.size * k.toNat > (2 ^ 63 - 1) / 8:=by
  have:(sizeLine:Nat) ≤ (2 ^ 63 - 1) / 8:=by decide
  lia
 have LV:¬ (!Builtin.List.listFitsIndex k) = true:=by
  rw [fitsIndex_both h1 h2]
  exact Bool.false_ne_true
 have IJ:¬ Builtin.List.listTooLong (aA.toArray.size * k.toNat) = true:=by
  rw [yh hlen]
  exact Bool.false_ne_true
 have LW:List.foldl (fun x1 x2 => x1 ++ x2) #[] (List.replicate (if aA.toArray.isEmpty = true then 0 else k.toNat) aA.toArray) = (List.replicate k.toNat aA).flatten.toArray:=by
  have f0:∀ m:Nat,List.foldl (fun x1 x2 => x1 ++ x2) #[] (List.replicate m aA.toArray) = (List.replicate m aA).flatten.toArray:=fun m => by
   have:=foldl_rep aA m []
   rw [List.nil_append] at this
   exact this
  rw [f0]
  cases aA with
  | nil => simp
  | cons a r' => rw [if_neg (by simp)]
 refine wpAny_binaryOp_repeat_ref (T:="list") (U:="int") (by decide) ⟨_,e,rfl⟩ (fun s' => typeIs_int s' k t) noFill_list_mul F.fills_int_mul F.slot_int_rmul repeat_list F.slot_int_index.lookup
  (call_meets F.slot_int_rmul (typeIs_int s k t) F.entry_int_rmul (F.args_int_rmul_2 _ _) (int___rmul___int_list k t l aA.toArray n)
   ⟨e,rfl,⟨_,e,rfl⟩,call_meets F.slot_list_mul ⟨_,e,rfl⟩ F.entry_list_mul (F.args_list_mul_2 _ _) (AutoListH.list___mul___list_int_3 l aA.toArray n k t LV Fn IJ) ⟨e,?_⟩⟩)
 rw [LW]
 exact ⟨.ref _,_,I.II (t':=s.toks) (r.rep k.toNat) (by rw [len_rep,Nat.mul_comm]; exact hz),rfl,q _ I.fresh⟩
end
section
variable {prog:Program} {w:World} {A:Around} {E:Value → Shared → Prop} {s:Shared}
set_option maxRecDepth 100000 in
end
end L2
namespace N6
open PySem PySem.W PySem.Calls PyProof.Rows
theorem kL {P:Params} {h:Heap}:∀ (ns:List Int) (vs:List Value),WellAll P h vs (ns.map WData.int) → IntsAre vs ns:=by
 intro ns
 induction ns with
 | nil =>
  intro vs w
  rw [List.map_nil] at w
  cases w
  exact .nil
 | cons n ns ih =>
  intro vs w
  rw [List.map_cons] at w
  cases w with
  | cons a b =>
   cases a
   exact .cons _ _ (ih _ b)
theorem vO {l:OpenLaw} {n:Nat} (hn:l.most = some n) {P:Params} {h:Heap} {args:List WData} {vals:List Value}
  (BN:l.row.toRowW.claim.pre args = true) (LX:WellAll P h vals args) :
  ∃ a vs ns,vals = [Value.ref a] ∧ args = [WData.list (ns.map WData.int)] ∧ h.get? a = some { cls:=.type "list",data:=.seq vs.toArray } ∧ IntsAre vs ns ∧ ns.length ≤ n:=by
 have O_:WShape.hasAll [] args [.list .int] = true:=(pre_splitW BN).1
 have hc:l.pre.holds [] { args:=args } = true:=(pre_splitW BN).2
 obtain ⟨d,r,rfl,h1,h2⟩:=hasAllW_cons O_
 obtain rfl:=hasAllW_nil h2
 obtain ⟨xs,rfl,h3⟩:=hasW_list h1
 obtain ⟨ns,rfl⟩:=items_int h3
 have hlen:ns.length ≤ n:=by
  unfold OpenLaw.pre at hc
  have h4:(WTm.not (.lt (.lit (.int (n:Int))) (.len (.arg 0)))).holds [] { args:=[.list (ns.map .int)] } = true:=by
   have h4:=(holds_andW hc).1
   rw [hn] at h4
   exact h4
  have h5:=condW_of h4 (w_not (w_lt w_lit (w_len_list (w_arg rfl))))
  rw [List.length_map] at h5
  refine Nat.le_of_not_lt fun q => ?_
  have q':(n:Int) < ((ns.length:Nat):Int):=by lia
  first
   | (rw [decide_eq_true q'] at h5; exact absurd h5 (by decide))
   | (simp at h5; lia)
 cases LX with
 | cons w1 w2 =>
  cases w2
  cases w1 with
  | list ho Fo => exact ⟨_,_,ns,rfl,rfl,ho,kL ns _ Fo,hlen⟩
theorem vP (l:OpenLaw) (args:List WData):l.row.toRowW.claim.post args (.bool true) args = true :=
 postW_of (r:=l.row.toRowW) (X:=(true == true))
  (show WShape.has [] (.bool true) .bool = true by first | rfl | decide | simp [WShape.has,WShape.arms,WShape.armsAll])
  (show (WTm.eq .res (.lit (.bool true))).value [] { args:=args,res:=some (.bool true),after:=args } = some (.bool (true == true)) from w_eq_bool (w_res rfl) w_lit) rfl
theorem qt {l:OpenLaw} {n:Nat} {q:Program} {loose:List Str} {XP:(Str → Option Value) → Heap → Prop} {YP:World → Heap → Prop} {d:DefRec}
  (hn:l.most = some n) (IK:d.params.defaults = [])
  (call:∀ (w:World) (s₀ s₁:Shared) (mg mb:Str → Option Value) (fa:Addr) (o:Obj) (pm cd doc:Value) (a:Addr) (vs:List Value) (ns:List Int),
   Ground q loose [] XP w s₀ mg mb s₁.heap → YP w s₁.heap →
   s₁.heap.get? fa = some o → o.data = .func (docDef d.name d.params d.body d.scope pm cd doc) → s₁.heap.CodeRec cd d.name → mg d.name = some (.ref fa) →
   s₁.heap.get? a = some { cls:=.type "list",data:=.seq vs.toArray } → IntsAre vs ns → ns.length ≤ n → s₁.gens = #[] →
   codeAny (model l.prog w) callerA (.call (.ref fa) ⟨[.ref a],[]⟩) (fun r s' => r = .ok (.ret (.bool true)) ∧ OldK s₁.heap s'.heap ∧ s'.os = s₁.os ∧ AllBare s'.gens) s₁) :
  WalkO q loose XP YP l.row.toRowW d [] (fun f vs => PySem.call f vs):=by
 intro w s₀ s₁ mg mb G Y fa o pm cd doc dV kV ho hd nN hD IL hg args vals as BN O! QK LX HF
 obtain rfl:dV = .none:=Dflts.none hD IK
 obtain rfl:kV = .none:=Dflts.noKw hD
 obtain ⟨a,vs,ns,rfl,rfl,Fp,hints,hlen⟩:=vO hn BN LX
 refine enter_call (codeAny_mono (call w s₀ s₁ mg mb fa o pm cd doc a vs ns G Y ho (fd_plain hd) nN IL Fp hints hlen hg) fun r s' hq => ?_)
 obtain ⟨rfl,h2,h3,h4⟩:=hq
 exact ⟨.inl ⟨.bool true,.bool true,[],rfl,fun _ => rfl,.bool true,vP l _,fun _ => ⟨List.Pairwise.nil,fun _ hm => (nomatch hm)⟩⟩,h2,h3,h4⟩
end N6
namespace L2
open PySem PySem.Spec PyProof.Rows
theorem oy:∀ {vs:List Value} {ns:List Int},IntsAre vs ns → a7 (ns.map V.int) vs
 | _,_,.nil => .nil
 | _,_,.cons n t h => .cons ⟨t,rfl⟩ (oy h)
noncomputable def BO (H:Hp):Prop:=∀ b,H b = none ∨ ∃ o xs,H b = some (.iJ o (.lst xs))
theorem yi {P:Program} {w:World} {K:PySem.W.Frag} {mg mb:Str → Option Value} {CX:r0} {k:Nat} {fa a:Addr} {fd:FuncData} {x:Str} {sp:Sp} {s₁:Shared} {vs:List Value} {ns:List Int}
  (KX:K.In s₁.heap) (N7:s₁.heap.Ns mainGlobals mg) (hb:s₁.heap.Ns builtinsNs mb) (O?:∀ x:Str,x ≠ "__name__" → mb x = bootBuiltins x) (LY:s₁.heap.NoLimit) (hg:s₁.gens = #[])
  (ha:s₁.heap.get? a = some { cls:=.type "list",data:=.seq vs.toArray }) (hi:IntsAre vs ns) (hl:ns.length ≤ sizeLine) (hr:dJ k callerA)
  (F:∀ base:Heap,K.In base → base.Ns mainGlobals mg → gJ P w K mg base CX k fa fd [x] sp) (IM:∀ (s:Shared) (u:Value),BindsTo s fd ⟨[u],[]⟩ [(x,u)])
  (DY:∀ H:Hp,BO H → i8 K H a (ns.map V.int) → sp [.ref a] H (fun v _ => v = .bl true) fun _ _ _ => False)
  (LZ:∀ H e s',CX [] H s₁ (fun _ _ _ => False) e s' → False) :
  codeAny (model P w) callerA (.call (.ref fa) ⟨[.ref a],[]⟩) (fun r s' => r = .ok (.ret (.bool true)) ∧ OldK s₁.heap s'.heap ∧ s'.os = s₁.os ∧ AllBare s'.gens) s₁:=by
 have rv:=oy hi
 have L4:=hi.length
 -- from an abstract heap in N8 nothing but A? Fq may be tracked
 have core:∀ H:Hp,BO H → i8 K H a (ns.map V.int) → f7 P w H s₁.heap → (∀ b,H b ≠ none → b = a) → (H a ≠ none → K.lookup a = none) →
   codeAny (model P w) callerA (.call (.ref fa) ⟨[.ref a],[]⟩) (fun r s' => r = .ok (.ret (.bool true)) ∧ OldK s₁.heap s'.heap ∧ s'.os = s₁.os ∧ AllBare s'.gens) s₁:=by
  intro H hO hS bI hA hK
  have uE:∀ {b:Addr} {o:Obj},s₁.heap.get? b = some o → H b = none → (oW s₁.heap H).get? b = some o:=fun e n => xS e n
  have IB:∀ {b:Addr} {o:Obj} {es:Array DictEntry} {ep:Nat},s₁.heap.get? b = some o → o.data = .dict es ep → H b = none:=fun {b o es ep} e d => by
   cases q:H b with
   | none => rfl
   | some u =>
    have e':b = a:=hA b (by rw [q]; simp)
    subst e'
    rw [ha] at e; cases e
    have d':Data.seq vs.toArray _ = Data.dict es ep:=d
    cases d'
  have Kv:∀ {b:Addr} {m:Str → Option Value},s₁.heap.Ns b m → (oW s₁.heap H).Ns b m:=fun {b m} ⟨o,es,ep,e,d,r⟩ => ⟨o,es,ep,uE e (IB e d),d,r⟩
  have N9:K.In (oW s₁.heap H):=fun b o e => uE (KX b o e) (by
   cases q:H b with
   | none => rfl
   | some u =>
    have e':b = a:=hA b (by rw [q]; simp)
    subst e'
    rw [hK (by rw [q]; simp)] at e; cases e)
  have hM:Mod K mg (oW s₁.heap H):=⟨N9,Kv N7,⟨mb,Kv hb,O?⟩,let ⟨mc,h1,h2⟩:=LY; ⟨mc,Kv h1,h2⟩⟩
  have e0:su P w K mg (oW s₁.heap H) callerA [] s₁ H:=⟨rfl,hM,fun b o e => Bl e,Nat.le_of_eq (vB _ _),trivial,fun b hb => absurd (show b ∈ ([]:List Addr) from hb) (by simp),bI,.of_eq hg⟩
  refine codeAny_mono ((F _ N9 (Kv N7)).run callerA [] s₁ H ⟨[.ref a],[]⟩ [.ref a] [.ref a] _ _ hr e0 (IM s₁ (.ref a)) (.cons rfl .nil) (DY H hO hS)) fun r s' h => ?_
  cases r with
  | error e => exact (LZ H e s' h).elim
  | ok fl =>
   cases fl with
   | next => exact False.elim h
   | brk => exact False.elim h
   | cont => exact False.elim h
   | ret u =>
    obtain ⟨v,H',os,bare,un,L5,r',q⟩:=h
    have q':v = .bl true:=q
    subst q'
    obtain rfl:u = Value.bool true:=r'
    refine ⟨rfl,OldK.of_keep fun b o e => ?_,os,bare⟩
    cases q:H b with
    | none => exact un.keep b o e q (by intro z; exact absurd (show b ∈ ([]:List Addr) from z) (by simp)) (by simp)
    | some u =>
     rcases hO b with z | ⟨ob,xs,z⟩
     ·rw [q] at z; cases z
     ·have z2:=un.ik b ob _ z
      obtain ⟨e1,_⟩:=bI b _ z
      obtain ⟨e2,_⟩:=L5 b _ z2
      rw [e] at e1; cases e1
      exact e2
 cases hk:K.lookup a with
 | some o =>
  -- A? Fq is one of A? IP own objects
  have e:=KX a o hk
  rw [ha] at e
  cases e
  refine core (fun _ => none) (fun _ => .inl rfl) (.inr ⟨_,vs.toArray,_,hk,rfl,rfl,rfl,by rw [List.size_toArray,L4]; exact hl,by simpa using rv⟩) (fun b u z => by have z':(none:Option HO) = some u:=z; cases z') (fun b z => absurd rfl z) fun z => absurd rfl z
 | none =>
  refine core (fun b => if b = a then some (.iJ { cls:=.type "list",data:=.seq vs.toArray } (.lst (ns.map V.int))) else none) (fun b => ?_) (.inl (.inr ⟨{ cls:=.type "list",data:=.seq vs.toArray },if_pos rfl⟩)) (fun b u z => ?_) (fun b z => ?_) fun _ => hk
  ·by_cases hb:b = a
   ·exact .inr ⟨_,_,if_pos hb⟩
   ·exact .inl (if_neg hb)
  ·by_cases hb:b = a
   ·have z':=(if_pos hb).symm.trans z
    cases z'
    subst hb
    exact ⟨ha,by rw [List.length_map]; exact hl,vs,_,rv,ha⟩
   ·have z':=(if_neg hb).symm.trans z
    cases z'
  ·by_cases hb:b = a
   ·exact hb
   ·exact absurd (if_neg hb) z
end L2
namespace L2
open PySem PySem.Spec PyProof.Rows
theorem BP {l:PySem.W.OpenLaw} {n k:Nat} {q:Program} {loose:List Str} {XP:(Str → Option Value) → Heap → Prop} {YP:World → Heap → Prop} {d:DefRec} {K:Params → PySem.W.Frag} {CX:World → r0} {sp:World → Sp} {x:Str}
  (hn:l.most = some n) (L6:n ≤ sizeLine) (IK:d.params.defaults = []) (hr:dJ k callerA)
  (hY:∀ (w:World) (h:Heap),YP w h → (K w.params).In h)
  (F:∀ (w:World) (mg:Str → Option Value) (fa:Addr) (h:Heap),(K w.params).In h → h.Ns mainGlobals mg → mg d.name = some (.ref fa) →
   ∃ fd:FuncData,(∀ (s:Shared) (u:Value),BindsTo s fd ⟨[u],[]⟩ [(x,u)]) ∧
    ∀ base:Heap,(K w.params).In base → base.Ns mainGlobals mg → gJ l.prog w (K w.params) mg base (CX w) k fa fd [x] (sp w))
  (DY:∀ (w:World) (H:Hp) (a:Addr) (ns:List Int),ns.length ≤ n → BO H → i8 (K w.params) H a (ns.map V.int) → sp w [.ref a] H (fun v _ => v = .bl true) fun _ _ _ => False)
  (LZ:∀ (w:World) (H:Hp) (s:Shared) (e:Value) (s':Shared),CX w [] H s (fun _ _ _ => False) e s' → False) :
  PySem.W.WalkO q loose XP YP l.row.toRowW d [] (fun f vs => PySem.call f vs):=by
 refine N6.qt hn IK fun w s₀ s₁ mg mb fa o pm cd doc a vs ns G Y ho hd nN IL Fp hints hlen hg => ?_
 have KX:=hY w _ Y
 obtain ⟨fd,hb,hF⟩:=F w mg fa _ KX G.T.g IL
 exact yi KX G.T.g G.T.b G.T.builtins G.T.nolimit hg Fp hints (Nat.le_trans hlen L6) hr hF hb (fun H hO hS => DY w H a ns hlen hO hS) fun H e s' => LZ w H s₁ e s'
end L2
namespace L2
open PySem PySem.Spec PyProof.Rows
noncomputable def d3 (s:Stmt):Arguments:=match s with
 | .FunctionDef _ a _ _ _ _ _ _ _ _ => a
 | _ => { posonlyargs:=[],args:=[],vararg:=none,kwonlyargs:=[],kw_defaults:=[],kwarg:=none,defaults:=[] }
noncomputable def cK (s:Stmt):List Stmt:=match s with
 | .FunctionDef _ _ b _ _ _ _ _ _ _ => b
 | _ => []
noncomputable def aN (s:Stmt):Scope:=match s with
 | .FunctionDef _ _ _ _ _ _ sc _ _ _ => sc
 | _ => { kind:=.function,names:=[],isGenerator:=false,isCoroutine:=false }
noncomputable abbrev E0:XK:=fun _ _ _ => False
structure Bh (K:PySem.W.Frag) (x qual:Str) (st:Stmt) (f:Addr) (fd:FuncData):Prop where
 ex:∃ (oc:Value) (od:Option Addr) (kV doc pm:Value) (an:Option Addr) (dc ct:Value) (vK:Array (Option Value)),
  fd = PySem.W.fnOf x qual (d3 st) (cK st) (aN st) .none kV doc pm an dc ct ∧ K.lookup f = some ⟨oc,od,.func fd,vK⟩ ∧ PySem.W.codeIn K dc qual = true
 kp:PySem.W.keepIn K (.ref f) = true
section
variable {P:Program} {w:World} {K:PySem.W.Frag} {mg:Str → Option Value} {base:Heap}
theorem Bh.binds {x qual:Str} {st:Stmt} {f:Addr} {fd:FuncData} {ps:List Str} (F:Bh K x qual st f fd)
  (h:∀ (kV doc pm:Value) (an:Option Addr) (dc ct:Value) (us:List Value),us.length = ps.length → bindArgs (PySem.W.fnOf x qual (d3 st) (cK st) (aN st) .none kV doc pm an dc ct) ⟨us,[]⟩ = pure (ps.zip us)):Binds K fd ps []:=by
 obtain ⟨oc,od,kV,doc,pm,an,dc,ct,vK,rfl,lk,nN⟩:=F.ex
 exact .all (h kV doc pm an dc ct)
theorem yj {x qual:Str} {st:Stmt} {f:Addr} {oc:Value} {od an:Option Addr} {vK:Array (Option Value)} {kV doc pm dc ct:Value} (l:K.lookup f = some ⟨oc,od,.func (PySem.W.fnOf x qual (d3 st) (cK st) (aN st) .none kV doc pm an dc ct),vK⟩)
  (c:PySem.W.codeIn K dc qual = true) (k:PySem.W.keepIn K (.ref f) = true):Bh K x qual st f (PySem.W.fnOf x qual (d3 st) (cK st) (aN st) .none kV doc pm an dc ct):=⟨⟨oc,od,kV,doc,pm,an,dc,ct,vK,rfl,l,c⟩,k⟩
end
noncomputable def jK (H H':Hp):Prop:=∀ b o,H b = some o → H' b = some o
theorem jK.refl (H:Hp):jK H H:=fun _ _ h => h
end L2
namespace L2
open PySem PySem.Spec PyProof.Rows
section
variable {κ:Type} [DecidableEq κ]
noncomputable def f? (aH:List (κ × V)) (k:κ):Option V:=(aH.find? fun kv => decide (kv.1 = k)).map (·.2)
noncomputable def putK (aH:List (κ × V)) (k:κ) (v:V):List (κ × V) :=
 if (aH.any fun kv => decide (kv.1 = k)) = true then aH.map (fun kv => if kv.1 = k then (kv.1,v) else kv) else aH ++ [(k,v)]
theorem lZ {p:κ × V} {r:List (κ × V)} {k:κ} (e:p.1 = k):f? (p :: r) k = some p.2:=by simp [f?,List.find?_cons,e]
theorem l6 {p:κ × V} {r:List (κ × V)} {k:κ} (e:¬ p.1 = k):f? (p :: r) k = f? r k:=by simp [f?,List.find?_cons,e]
theorem qu (k:κ):∀ aH:List (κ × V),(aH.any fun kv => decide (kv.1 = k)) = (f? aH k).isSome
 | [] => rfl
 | p :: r => by
  rw [List.any_cons]
  by_cases e:p.1 = k
  ·simp only [lZ e,decide_eq_true e,Bool.true_or,Option.isSome_some]
  ·rw [l6 e,decide_eq_false e,Bool.false_or]; exact qu k r
theorem km (aH:List (κ × V)) (k:κ) (v:V):(putK aH k v).length ≤ aH.length + 1:=by
 unfold putK
 split
 ·rw [List.length_map]; lia
 ·rw [List.length_append,List.length_cons,List.length_nil]; lia
theorem jE.vQ {o:Option V} {u:Option Value} (r:jE o u):o.isSome = u.isSome:=by
 cases o with
 | none => cases u with
  | none => rfl
  | some _ => exact (show False from r).elim
 | some _ => cases u with
  | none => exact (show False from r).elim
  | some _ => rfl
theorem jE.getD {o:Option V} {u:Option Value} {d:V} {d':Value} (r:jE o u) (rd:ba d d'):ba (o.getD d) (u.getD d'):=by
 cases o with
 | none => cases u with
  | none => exact rd
  | some _ => exact (show False from r).elim
 | some _ => cases u with
  | none => exact (show False from r).elim
  | some _ => exact r
theorem KV.val {aH:List (κ × V)} {vs:List (κ × Value)} (r:KV aH vs) (k:κ):jE (f? aH k) (valueAt vs k):=by
 unfold KV at r
 induction r with
 | nil => exact True.intro
 | @cons p q ps qs h t ih =>
  obtain ⟨h1,h2⟩:=h
  by_cases e:p.1 = k
  ·have e':q.1 = k:=h1.symm.trans e
   have b:valueAt (q :: qs) k = some q.2:=by simp [valueAt,List.find?_cons,e']
   rw [lZ e,b]; exact h2
  ·have e':¬ q.1 = k:=fun z => e (h1.trans z)
   have b:valueAt (q :: qs) k = valueAt qs k:=by simp [valueAt,List.find?_cons,e']
   rw [l6 e,b]; exact ih
theorem KV.any {aH:List (κ × V)} {vs:List (κ × Value)} (r:KV aH vs) (k:κ):(aH.any fun kv => decide (kv.1 = k)) = vs.any fun kv => decide (kv.1 = k):=by
 unfold KV at r
 induction r with
 | nil => rfl
 | cons h t ih => rw [List.any_cons,List.any_cons,ih,h.1]
theorem KV.o? {aH:List (κ × V)} {vs:List (κ × Value)} (r:KV aH vs) (k:κ) {y:V} {u:Value} (ry:ba y u) :
  KV (aH.map fun kv => if kv.1 = k then (kv.1,y) else kv) (vs.map fun kv => if kv.1 = k then (kv.1,u) else kv):=by
 unfold KV at r ⊢
 induction r with
 | nil => exact .nil
 | @cons p q ps qs h t ih =>
  rw [List.map_cons,List.map_cons]
  refine .cons ?_ ih
  obtain ⟨h1,h2⟩:=h
  by_cases e:p.1 = k
  ·rw [if_pos e,if_pos (h1.symm.trans e)]; exact ⟨h1,ry⟩
  ·rw [if_neg e,if_neg (fun z => e (h1.trans z))]; exact ⟨h1,h2⟩
theorem KV.put {aH:List (κ × V)} {vs:List (κ × Value)} (r:KV aH vs) (k:κ) {y:V} {u:Value} (ry:ba y u):KV (putK aH k y) (stored vs k u):=by
 unfold putK stored
 rw [r.any k]
 by_cases e:(vs.any fun kv => decide (kv.1 = k)) = true
 ·rw [if_pos e,if_pos e]; exact r.o? k ry
 ·rw [if_neg e,if_neg e]; exact Paired.snoc r ⟨rfl,ry⟩
theorem KV.length {aH:List (κ × V)} {vs:List (κ × Value)} (r:KV aH vs):aH.length = vs.length:=Paired.length r
end
theorem uF {P:Program} {w:World} {k:cI} {u:Value} (r:ba (kV k) u):(cJ P w).is k u = true:=by
 cases k with
 | inl i => obtain ⟨t,e⟩:=(show ∃ t,u = Value.int i t from r); subst e; exact qc P w i t
 | inr x => obtain ⟨t,e⟩:=(show ∃ t,u = Value.str x t from r); subst e; exact qd P w x t
theorem oz {P:Program} {w:World}:∀ {ks:List cI} {us:List Value},a7 (ks.map kV) us → ItemsAre (cJ P w) ks us
 | [],_,r => by rw [List.map_nil] at r; cases r; exact .nil
 | k :: ks,_,r => by
  rw [List.map_cons] at r
  cases r with
  | cons h t => exact .cons (uF h) (oz t)
noncomputable abbrev KT (H:Hp):List (List cI × V) → List (List cI × Addr × Value) → Prop:=Paired fun p q => p.1 = q.1 ∧ H q.2.1 = some (.tup (p.1.map kV)) ∧ ba p.2 q.2.2
theorem KT.val {H:Hp} {aH:List (List cI × V)} {xs:List (List cI × Addr × Value)} (r:KT H aH xs) (k:List cI):jE (f? aH k) ((atKey xs k).map (·.2)):=by
 induction r with
 | nil => exact True.intro
 | @cons p q ps qs h t ih =>
  obtain ⟨h1,_,h2⟩:=h
  by_cases e:p.1 = k
  ·have e':q.1 = k:=h1.symm.trans e
   have b:atKey (q :: qs) k = some q.2:=by simp [atKey,List.find?_cons,e']
   rw [lZ e,b]; exact h2
  ·have e':¬ q.1 = k:=fun z => e (h1.trans z)
   have b:atKey (q :: qs) k = atKey qs k:=by simp [atKey,List.find?_cons,e']
   rw [l6 e,b]; exact ih
theorem KT.o? {H:Hp} {aH:List (List cI × V)} {xs:List (List cI × Addr × Value)} (r:KT H aH xs) (k:List cI) {y:V} {u:Value} (ry:ba y u) :
  KT H (aH.map fun kv => if kv.1 = k then (kv.1,y) else kv) (xs.map (putAt k u)):=by
 induction r with
 | nil => exact .nil
 | @cons p q ps qs h t ih =>
  rw [List.map_cons,List.map_cons]
  refine .cons ?_ ih
  obtain ⟨h1,h2,h3⟩:=h
  unfold putAt
  by_cases e:p.1 = k
  ·rw [if_pos e,if_pos (h1.symm.trans e)]; exact ⟨h1,h2,ry⟩
  ·rw [if_neg e,if_neg (fun z => e (h1.trans z))]; exact ⟨h1,h2,h3⟩
theorem KT.put {H:Hp} {aH:List (List cI × V)} {xs:List (List cI × Addr × Value)} (r:KT H aH xs) (k:List cI) {b:Addr} {y:V} {u:Value} (hb:H b = some (.tup (k.map kV))) (ry:ba y u) :
  KT H (putK aH k y) (storedH xs k b u):=by
 have e:(aH.any fun kv => decide (kv.1 = k)) = (atKey xs k).isSome:=by
  rw [qu,(r.val k).vQ,Option.isSome_map]
 unfold putK storedH
 rw [e]
 by_cases q:(atKey xs k).isSome = true
 ·rw [if_pos q,if_pos q]; exact r.o? k ry
 ·rw [if_neg q,if_neg q]; exact Paired.snoc r ⟨rfl,hb,ry⟩
theorem KT.keeps {H H':Hp} {aH:List (List cI × V)} {xs:List (List cI × Addr × Value)} (r:KT H aH xs) (ht:∀ b ys,H b = some (.tup ys) → H' b = some (.tup ys)):KT H' aH xs :=
 Paired.Ew r fun _ _ z => ⟨z.1,ht _ _ z.2.1,z.2.2⟩
section
variable {P:Program} {w:World} {H:Hp} {h:Heap} {a:Addr}
theorem D2 {u:HO} (ok:f7 P w H h) (e:Rd H a u):bU P w H h a u:=e.ok ok
theorem qv {aH:List (cI × V)} (ok:f7 P w H h) (e:Rd H a (.dK aH)):aH.length ≤ sizeLine ∧ (a == sysModules) = false ∧ ∃ vs,KV aH vs ∧ h.DictOf (cJ P w) a vs :=
 show bU P w H h a (.dK aH) from D2 ok e
theorem IQ {aH:List (cI × V)} (ok:f7 P w H h) (e:H a = some (.dK aH)):aH.length ≤ sizeLine ∧ (a == sysModules) = false ∧ ∃ vs,KV aH vs ∧ h.DictOf (cJ P w) a vs:=qv ok (.inl e)
theorem pe {ks:List cI} (ok:f7 P w H h) (e:H a = some (.tup (ks.map kV))):(tupleKind (cJ P w)).is h ks a:=by
 obtain ⟨_,aA,r,o,h1,h2,n,h3⟩:=(show bU P w H h a (.tup (ks.map kV)) from ok a _ e)
 exact ⟨o,aA.toArray,n,h1,h2,h3,by simpa using oz r⟩
theorem qw {aH:List (List cI × V)} (ok:f7 P w H h) (e:Rd H a (.dT aH)):aH.length ≤ sizeLine ∧ (a == sysModules) = false ∧
  ∃ xs,KT H aH xs ∧ h.DictOfH (tupleKind (cJ P w)) a xs:=by
 obtain ⟨z,y,xs,r,o,es,ep,h1,h2,h3,h4,h5⟩:=(show bU P w H h a (.dT aH) from D2 ok e)
 refine ⟨z,y,xs,r,o,es,ep,h1,h2,h3,h4,fun x hx => ?_,h5⟩
 have all:∀ {l:List (List cI × V)} {m:List (List cI × Addr × Value)},KT H l m → ∀ x ∈ m,(tupleKind (cJ P w)).is h x.1 x.2.1:=by
  intro l m q
  induction q with
  | nil => intro x hx; exact nomatch hx
  | @cons p q ps qs hq t ih =>
   intro x hx
   rcases List.mem_cons.mp hx with e | hx
   ·subst e
    exact pe ok (by rw [← hq.1]; exact hq.2.1)
   ·exact ih x hx
 exact all r x hx
theorem IS {aH:List (List cI × V)} (ok:f7 P w H h) (e:H a = some (.dT aH)):aH.length ≤ sizeLine ∧ (a == sysModules) = false ∧
  ∃ xs,KT H aH xs ∧ h.DictOfH (tupleKind (cJ P w)) a xs:=qw ok (.inl e)
end
noncomputable def kM (H:Hp) (a:Addr) (y:V) (r:Option V):Prop :=
 (∃ aH k,Rd H a (.dK aH) ∧ y = kV k ∧ r = f? aH k) ∨ ∃ aH k b,Rd H a (.dT aH) ∧ y = .ref b ∧ H b = some (.tup (k.map kV)) ∧ r = f? aH k
noncomputable def pf (H:Hp) (a:Addr) (y v:V) (H':Hp):Prop :=
 (∃ aH k,H a = some (.dK aH) ∧ y = kV k ∧ aH.length < sizeLine ∧ H' = upd H a (.dK (putK aH k v))) ∨
 ∃ aH k b,H a = some (.dT aH) ∧ y = .ref b ∧ H b = some (.tup (k.map kV)) ∧ aH.length < sizeLine ∧ H' = upd H a (.dT (putK aH k v))
theorem kM.k {H:Hp} {a:Addr} {aH:List (cI × V)} {k:cI} (e:H a = some (.dK aH)):kM H a (kV k) (f? aH k):=.inl ⟨aH,k,.inl e,rfl,rfl⟩
theorem kM.t {H:Hp} {a b:Addr} {aH:List (List cI × V)} {k:List cI} (e:H a = some (.dT aH)) (eb:H b = some (.tup (k.map kV))):kM H a (.ref b) (f? aH k):=.inr ⟨aH,k,b,.inl e,rfl,eb,rfl⟩
theorem pf.k {H:Hp} {a:Addr} {aH:List (cI × V)} {k:cI} {v:V} (e:H a = some (.dK aH)) (hl:aH.length < sizeLine):pf H a (kV k) v (upd H a (.dK (putK aH k v))):=.inl ⟨aH,k,e,rfl,hl,rfl⟩
theorem pf.t {H:Hp} {a b:Addr} {aH:List (List cI × V)} {k:List cI} {v:V} (e:H a = some (.dT aH)) (eb:H b = some (.tup (k.map kV))) (hl:aH.length < sizeLine) :
  pf H a (.ref b) v (upd H a (.dT (putK aH k v))):=.inr ⟨aH,k,b,e,rfl,eb,hl,rfl⟩
section
variable {X:Cx} {ae:List (Addr × Obj)} {σ:St} {H:Hp} {s:Shared} {a:Addr} {y v:V} {u r:Value} {o:Option V} {A:Around} {E:Value → Shared → Prop}
theorem aG.big (I:aG X ae σ H s):sysModules < s.heap.objs.size:=by
 have h:mainGlobals < s.heap.objs.size:=(I.mod.glob.keeps I.bk).lt
 exact Nat.lt_trans (by decide) h
theorem vR {Q:Value → Shared → Prop} (hu:A.units + 1 < cLine) (I:aG X ae σ H s) (g:kM H a y (some v)) (ry:ba y u) (h:∀ w' s',aG X ae σ H s' → ba v w' → Q w' s') :
  wpAny (model X.prog X.w) A (getItem (.ref a) u) Q E s:=by
 rcases g with ⟨aH,k,e,ey,l⟩ | ⟨aH,k,b,e,ey,eb,l⟩
 ·subst ey
  obtain ⟨z,hd,vs,rel,dd⟩:=qv I.bI e
  obtain ⟨w',hw,sC⟩:=jE.some_of (v:=v) (o:=valueAt vs k) (by rw [l]; exact rel.val k)
  exact wpAny_getItem_of (uF ry) dd.mapOf hw (h w' _ (I.tok _) sC)
 ·subst ey
  cases (show u = Value.ref b from ry)
  obtain ⟨z,hd,xs,rel,dd⟩:=qw I.bI e
  obtain ⟨w',hw,sC⟩:=jE.some_of (v:=v) (o:=(atKey xs k).map (·.2)) (by rw [l]; exact rel.val k)
  obtain ⟨p,hp,O'⟩:=Option.map_eq_some_iff.mp hw
  refine wpAny_getItem_heap (tupleKind_room_in1 hu) (pe I.bI eb) dd hp ?_
  rw [O']
  exact h w' _ (I.tok _) sC
theorem uG {h':Heap} {t':Nat} {ob:HO} (I:aG X ae σ H s) (mu:HY (H a)) (hs:Heap.SameBut a s.heap h') (he:∃ q,h'.get? a = some q) (new:bU X.prog X.w (upd H a ob) h' a ob) :
  aG X ae σ (upd H a ob) { s with heap:=h',toks:=t' } :=
 I.write (x:=a) (e:=a) mu (.inl rfl) (fun b q hb z => (hs.2 b hb).trans z) he new
theorem Fs {P:Program} {w:World} {H':Hp} {h':Heap} {aH:List (cI × V)} {vs:List (cI × Value)} (z:aH.length ≤ sizeLine) (hd:(a == sysModules) = false) (rel:KV aH vs) (dd:h'.DictOf (cJ P w) a vs) :
  bU P w H' h' a (.dK aH):=⟨z,hd,vs,rel,dd⟩
theorem vS {H':Hp} {Q:Unit → Shared → Prop} (hu:A.units + 1 < cLine) (I:aG X ae σ H s) (g:pf H a y v H') (ry:ba y u) (rv:ba v r) (h:∀ s',aG X ae σ H' s' → Q () s') :
  wpAny (model X.prog X.w) A (setItem (.ref a) u r) Q E s:=by
 rcases g with ⟨aH,k,e,ey,l,eH⟩ | ⟨aH,k,b,e,ey,eb,l,eH⟩
 ·subst ey eH
  obtain ⟨z,hd,vs,rel,dd⟩:=IQ I.bI e
  have hz:vs.length ≤ sizeLine:=by rw [← rel.length]; exact z
  have hl:(putK aH k v).length ≤ sizeLine:=by have:=km aH k v; lia
  refine wpAny_setItem_pairs (hsz:=hz) (uF ry) dd fun h' Kw hs => h _ ?_
  have he:∃ q,h'.get? a = some q:=let ⟨q,_,_,hq,_⟩:=Kw; ⟨q,hq⟩
  exact uG I (by rw [e]; exact True.intro) hs he (Fs hl hd (rel.put k rv) Kw)
 ·subst ey eH
  cases (show u = Value.ref b from ry)
  obtain ⟨z,hd,xs,rel,dd⟩:=IS I.bI e
  have hz:xs.length ≤ sizeLine:=by rw [← Paired.length rel]; exact z
  have hl:(putK aH k v).length ≤ sizeLine:=by have:=km aH k v; lia
  refine wpAny_setItem_heap (hsz:=hz) (tupleKind_room_in1 hu) (pe I.bI eb) dd fun h' Kw hs => h _ ?_
  obtain ⟨q,es,ep,hq,h2,h3,h4,_,h5⟩:=Kw
  refine uG I (by rw [e]; exact True.intro) hs ⟨q,hq⟩ ⟨hl,hd,_,(rel.put k eb rv).keeps fun c ys ec => ?_,q,es,ep,hq,h2,h3,h4,h5⟩
  rw [aV (HX ec e (fun z => nomatch z))]
  exact ec
end
noncomputable def Ft (i:Expr):Prop:=∀ ov iv,subscripted i false ov iv = operate [ov,iv] (getItem ov iv)
theorem BQ {prog:Program} {w:World} {A:Around} {E:Value → Shared → Prop} {s:Shared} {env:Env} {value slice:Expr} {pos:Pos} {T id:String} {Q:Value → Shared → Prop}
  (hl:typeLookup (.type T) "__getitem__" = pure (some (.builtin id))) (hs:Ft slice)
  (h:wpAny (model prog w) A (eval value env) (fun o s₁ => wpAny (model prog w) A (eval slice env) (fun i s₂ => s₂.TypeIs o T ∧ wpAny (model prog w) A (getItem o i) Q E s₂) E s₁) E s) :
  wpAny (model prog w) A (eval (.Subscript value slice pos) env) Q E s:=by
 refine Subscript_ (wpAny_mono h (fun o s₁ h₁ => wpAny_mono h₁ (fun i s₂ h₂ => ?_) fun _ _ x => x) fun _ _ x => x)
 obtain ⟨hT,h₂⟩:=h₂
 unfold subscriptTail
 refine wpAny_bind ?_
 rw [getitemInPython_of_ne hT.not_modules]
 refine wpAny_bind (wpAny_specialOf hT hl ?_)
 have fin:wpAny (model prog w) A (subscripted slice false o i) (fun r s₃ => wpAny (model prog w) A (letTemporaryGo value o r >>= fun _ => pure r) Q E s₃) E s₂:=by
  rw [hs o i]
  exact wpAny_operating (wpAny_mono h₂ (fun r s₃ h₃ => wpAny_bind (wpAny_letTemporaryGo (wpAny_pure h₃))) fun _ _ x => x)
 first
  | exact wpAny_pure (wpAny_bind fin)
  | exact wpAny_bind (wpAny_pure (wpAny_bind fin))
  | exact wpAny_bind fin
theorem qy {X:Cx} {ae:List (Addr × Obj)} {σ:St} {H:Hp} {s:Shared} {a:Addr} {y:V} {o:Option V} (I:aG X ae σ H s) (g:kM H a y o):s.TypeIs (.ref a) "dict":=by
 rcases g with ⟨aH,k,e,_,_⟩ | ⟨aH,k,b,e,_,_,_⟩
 ·obtain ⟨_,_,vs,_,dd⟩:=qv I.bI e
  exact dd.typeIs
 ·obtain ⟨_,_,xs,_,dd⟩:=qw I.bI e
  exact dd.typeIs
noncomputable def IT (td ty:TE):TE:=fun σ H Q => td σ H fun x H1 => ty σ H1 fun y H2 => ∃ a v,x = .ref a ∧ kM H2 a y (some v) ∧ Q v H2
noncomputable def IU (td ty tv:TE):TS:=fun D σ H => tv σ H fun v H1 => td σ H1 fun x H2 => ty σ H2 fun y H3 => ∃ a H4,x = .ref a ∧ pf H3 a y v H4 ∧ D.nx σ H4
section
variable {X:Cx} {o i e value:Expr} {pos pos' nP:Pos} {td ty tv:TE}
theorem BR (hu:X.A.units + 1 < cLine) (ho:PE X o td) (hi:PE X i ty) (hs:Ft i):PE X (.Subscript o i pos) (IT td ty):=by
 intro ae s σ H Q I h
 refine BQ PySem.F.slot_dict_getitem.lookup hs (bF (ho ae s σ H _ I h) fun u s1 ⟨x,H1,I1,rx,q1⟩ => bF (hi ae s1 σ H1 _ I1 q1) fun iv s2 ⟨y,H2,I2,ry,a,v,ex,g,q2⟩ => ?_)
 subst ex
 obtain rfl:u = Value.ref a:=rx
 exact ⟨qy I2 g,vR hu I2 g ry fun w' s3 I3 sC => ⟨v,H2,I3,sC,q2⟩⟩
theorem BS (hu:X.A.units + 1 < cLine) (ho:PE X o td) (hi:PE X i ty) (hv:PE X value tv) (hs:swapsWith value (some (.Subscript o i pos')) pos.line X.env = pure false) :
  PS X (.Assign [.Subscript o i pos'] value pos) (IU td ty tv):=by
 intro ae s σ H D I h
 refine wpAny_Assign_Subscript (bF (hv ae s σ H _ I h) fun r s1 ⟨v,H1,I1,rv,q1⟩ => bF (ho ae s1 σ H1 _ I1 q1) fun u s2 ⟨x,H2,I2,rx,q2⟩ => bF (hi ae s2 σ H2 _ I2 q2) fun iv s3 ⟨y,H3,I3,ry,a,H4,ex,g,q3⟩ => ?_) hs
 subst ex
 obtain rfl:u = Value.ref a:=rx
 exact vS hu I3 g ry rv fun s4 I4 => ⟨σ,H4,I4,q3⟩
end
theorem yk {P:Program} {w:World} {H:Hp} (h:Heap) (hb:sysModules < h.objs.size):bU P w H (h.push { cls:=.type "dict",data:=.dict #[] }) h.objs.size (.dT []) :=
 ⟨Nat.zero_le _,beq_eq_false_iff_ne.mpr (Ne.symm (Nat.ne_of_lt hb)),[],.nil,_,#[],0,Heap.get?_push_size _ rfl,⟨rfl,rfl,rfl⟩,rfl,rfl,List.nodup_nil⟩
noncomputable def Fu:TE:=fun _ H Q => ∀ p,H p = none → Q (.ref p) (upd H p (.dT []))
section
variable {X:Cx} {pos:Pos}
theorem ym:PE X (.Dict [] [] pos) Fu:=fun ae s σ H Q I h =>
 wpAny_Dict_empty ⟨.ref s.heap.objs.size,_,I.laid (a:=s.heap.objs.size) (o:=.dT []) (t':=s.toks) (fun _ _ q => Heap.get?_push_of_some _ q) (Nat.le_refl _) (yk s.heap I.big),rfl,h _ (I.bI.fresh (Nat.le_refl _))⟩
end
structure M2 (X:Cx) (o:Expr) (m:Str) (apos:Pos) (e f:Expr) (bC:Pos):Prop where
 base:attributeBase o m X.env (eval o X.env) = eval o X.env
 Pa:((backTo bC (starEach [e,f] X.env)).all (fun x => !x.1) && (backToKw bC (keywordEach [] X.env)).all (fun x => x.1.isSome)
  && decide (([e,f]:List Expr).length + ([]:List Keyword).length + (if ([]:List Keyword).isEmpty then 0 else 1) < 30)) = true
 line:(apos.endLine == bC.line) = true
 trees:backTo bC (starEach [e,f] X.env) = [(false,eval e X.env),(false,eval f X.env)]
noncomputable def Kx (H:Hp) (a:Addr):Prop:=(∃ aH,Rd H a (.dK aH)) ∨ ∃ aH,Rd H a (.dT aH)
theorem Fv {X:Cx} {ae:List (Addr × Obj)} {σ:St} {H:Hp} {s:Shared} {a:Addr} (I:aG X ae σ H s) (d:Kx H a) :
  s.TypeIs (.ref a) "dict" ∧ (∀ b,Value.ref a = .ref b → ∃ ob,s.heap.get? b = some ob ∧ ob.dict = none) ∧ (a == sysModules) = false:=by
 rcases d with ⟨aH,e⟩ | ⟨aH,e⟩
 ·obtain ⟨_,hd,vs,_,dd⟩:=qv I.bI e
  refine ⟨dd.typeIs,fun b q => ?_,hd⟩
  cases q
  obtain ⟨ob,_,_,h1,h2,_⟩:=dd
  exact ⟨ob,h1,h2.2.1⟩
 ·obtain ⟨_,hd,xs,_,dd⟩:=qw I.bI e
  refine ⟨dd.typeIs,fun b q => ?_,hd⟩
  cases q
  obtain ⟨ob,_,_,h1,h2,_⟩:=dd
  exact ⟨ob,h1,h2.2.1⟩
section
variable {X:Cx} {ae:List (Addr × Obj)} {σ:St} {H:Hp} {s:Shared} {a:Addr} {y d:V} {u r:Value} {o:Option V} {A:Around} {E:Value → Shared → Prop}
theorem Fw {Q:Value → Shared → Prop} (hu:A.units + 1 < cLine) (I:aG X ae σ H s) (g:kM H a y o) (ry:ba y u) (rd:ba d r) (h:∀ w' s',aG X ae σ H s' → ba (o.getD d) w' → Q w' s') :
  wpAny (model X.prog X.w) A (call (.builtin "dict.get") [.ref a,u,r]) Q E s:=by
 rcases g with ⟨aH,k,e,ey,l⟩ | ⟨aH,k,b,e,ey,eb,l⟩
 ·subst ey
  obtain ⟨z,hd,vs,rel,dd⟩:=qv I.bI e
  refine call_meetsIn PySem.F.slot_dict_get dd.typeIs PySem.F.entry_dict_get (PySem.F.args_dict_get_3 _ _ _) (meets_dict_get_default (cJ X.prog X.w) a (uF ry) hd r) ⟨_,dd.mapOf,h _ _ (I.tok _) ?_⟩
  rw [l]
  exact (rel.val k).getD rd
 ·subst ey
  cases (show u = Value.ref b from ry)
  obtain ⟨z,hd,xs,rel,dd⟩:=qw I.bI e
  refine call_meetsIn PySem.F.slot_dict_get dd.typeIs PySem.F.entry_dict_get (PySem.F.args_dict_get_3 _ _ _) (meetsH_dict_get_default (tupleKind (cJ X.prog X.w)) a b hd r) ⟨tupleKind_room_in1 hu,k,xs,pe I.bI eb,dd,h _ _ (I.tok _) ?_⟩
  rw [l]
  exact (rel.val k).getD rd
end
noncomputable def Fx (td ty tx:TE):TE:=fun σ H Q => td σ H fun x H1 => ∃ a,x = .ref a ∧ Kx H1 a ∧ ty σ H1 fun y H2 => tx σ H2 fun z H3 => ∃ o,kM H3 a y o ∧ Q (o.getD z) H3
section
variable {X:Cx} {o e f:Expr} {apos bC:Pos} {td ty tx:TE}
theorem yn (hu:X.A.units + 1 < cLine) (ho:PE X o td) (he:PE X e ty) (hf:PE X f tx) (m:M2 X o "get" apos e f bC):PE X (.Call (.Attribute o "get" apos) [e,f] [] bC) (Fx td ty tx):=by
 intro ae s σ H Q I h
 refine wpAny_Call_method m.base m.Pa m.line PySem.F.plainAttrs_dict PySem.F.slot_dict_get PySem.F.type_dict_get (bF (ho ae s σ H _ I h) fun u s1 ⟨x,H1,I1,rx,a,ex,d,q1⟩ => ?_)
 subst ex
 obtain rfl:u = Value.ref a:=rx
 obtain ⟨t1,t2,_⟩:=Fv I1 d
 refine ⟨t1,t2,?_⟩
 rw [m.trees]
 refine Calls.callWith_builtin rfl (Calls.evalArgs_plain (Calls.spliced_cons (bF (he ae s1 σ H1 _ I1 q1) fun iv s2 ⟨y,H2,I2,ry,q2⟩ =>
  Calls.spliced_cons (bF (hf ae s2 σ H2 _ I2 q2) fun fv s3 ⟨z,H3,I3,rz,ov,g,q3⟩ => Calls.spliced_nil ?_))))
 exact Fw hu I3 g ry rz fun w' s4 I4 sC => ⟨_,H3,I4,sC,q3⟩
end
end L2
namespace L2
open PySem PySem.Spec PyProof.Rows
theorem jK.upd {H H':Hp} {p:Addr} {o:HO} (e:jK H H') (h:H' p = none):jK H (upd H' p o):=fun b u q => by
 rw [aV (aW (e b u q) h)]
 exact e b u q
noncomputable def Fy (k:Nat) (i:Int):Prop:=i.natAbs < 2 ^ k
theorem Fy.bits {k:Nat} {i:Int} (h:Fy k i):Builtin.Int.intBits i ≤ k:=by
 unfold Builtin.Int.intBits
 by_cases hz:(i == 0) = true
 ·rw [if_pos hz]; exact Nat.zero_le _
 ·rw [if_neg hz]
  have h0:i.natAbs ≠ 0:=by
   intro e
   apply hz
   have:i = 0:=Int.natAbs_eq_zero.mp e
   simp [this]
  have:=(Nat.log2_lt h0).mpr h
  lia
noncomputable def uH (i j:Int):Prop:=∃ a b,Fy a i ∧ Fy b j ∧ a ≤ 2 ^ 20 ∧ b ≤ 2 ^ 20
theorem uH.ok {i j:Int} (h:uH i j):IntMulOk i j:=by
 obtain ⟨a,b,h1,h2,h3,h4⟩:=h
 exact IntMulOk.of_bits (Nat.le_trans h1.bits h3) (Nat.le_trans h2.bits h4)
noncomputable def uI (i j:Int):Prop:=j ≠ 0 ∧ Fy 9000 j
theorem uI.ok {i j:Int} (h:uI i j):Builtin.divisionGoesByPylong i j = false :=
 PyProof.noPylong_of_log2 ((Nat.log2_lt (by intro e; exact h.1 (Int.natAbs_eq_zero.mp e))).mpr h.2)
section
variable {X:Cx}
theorem BU:c5 X (binaryOp .Mult) (rI uH fun i j => .int (i * j)):=Kp fun _ _ _ _ _ _ _ hc q => PyProof.Rows.mul_int q hc.ok
theorem yo:c5 X (binaryOp .FloorDiv) (rI uI fun i j => .int (i.fdiv j)):=Kp fun _ _ _ _ _ _ _ hc q => floordiv_int hc.1 q (.inl hc.ok)
end
end L2
namespace L2
open PySem PySem.Spec PyProof.Rows
theorem ph {prog:Program} {w:World} {A:Around} {s:Shared} {elt target iter:Expr} {ifs:List Expr} {scope:Scope} {pos:Pos} {it acc:Value} {env:Env} {R:Result → Shared → Prop} (I:Nat → Shared → Prop)
  (turn:∀ n s,I n s → wpAny (model prog w) A (pyNext it) (fun r s₁ => match r with
   | none => R (.ok .next) s₁
   | some v => wpAny (model prog w) A (letOwnedTupleGo target it v) (fun _ D3 => wpAny (model prog w) A (assign target env v) (fun _ s₂ =>
     wpAny (model prog w) A (forIn ifs true fun c r => if r = true then do let ok ← isTrue c env (eval c env); pure (ForInStep.yield ok) else pure (ForInStep.yield r)) (fun ok s₃ =>
      if ok = true then wpAny (model prog w) A (eval elt env) (fun x s₄ =>
       wpAny (model prog w) A (call (.builtin "list.append") [acc,x]) (fun _ s₅ => ∃ m,m < n ∧ I m s₅) (fun _ _ => False) s₄) (fun _ _ => False) s₃
      else ∃ m,m < n ∧ I m s₃) (fun _ _ => False) s₂) (fun _ _ => False) D3) (fun _ _ => False) s₁) (fun _ _ => False) s)
  (n:Nat) (h:I n s):codeAny (model prog w) A (.compLoop (.ListComp elt [⟨target,iter,ifs,0⟩] scope pos) 0 it acc env) R s:=by
 refine codeAny_loop rfl I (fun n s hI => ?_) n h
 show wpAny _ A ((compTurn (.ListComp elt [⟨target,iter,ifs,0⟩] scope pos) 0 it acc env).onRaise (fun x => do noteFrame x env; theTreesLotGoes x)) _ _ s
 refine wpAny_noted ?_
 rw [compTurn_list]
 refine wpAny_bind (wpAny_standAt (wpAny_bind (wpAny_mono (turn n s hI) (fun r s₁ h₁ => ?_) fun _ _ h' => h'.elim)))
 cases r with
 | none => exact wpAny_pure h₁
 | some v =>
  refine wpAny_bind (wpAny_mono h₁ (fun _ D3 IV => ?_) fun _ _ h' => h'.elim)
  refine wpAny_bind (wpAny_mono IV (fun _ s₂ h₂ => wpAny_bind (wpAny_mono h₂ (fun ok s₃ h₃ => ?_) fun _ _ h' => h'.elim)) fun _ _ h' => h'.elim)
  cases ok with
  | false => exact wpAny_pure ⟨rfl,h₃⟩
  | true => exact wpAny_bind (wpAny_bind (wpAny_mono h₃ (fun x s₄ h₄ => wpAny_bind (wpAny_mono h₄ (fun _ s₅ h₅ => wpAny_pure (wpAny_pure ⟨rfl,h₅⟩)) fun _ _ h' => h'.elim)) fun _ _ h' => h'.elim))
noncomputable def vT (X:Cx) (ifs:List Expr) (t:TT):Prop :=
 ∀ (ae:List (Addr × Obj)) (s:Shared) (σ:St) (H:Hp) (Q:Bool → Hp → Prop),aG X ae σ H s → t σ H Q →
  wpAny (model X.prog X.w) X.A (forIn ifs true fun c r => if r = true then do let ok ← isTrue c X.env (eval c X.env); pure (ForInStep.yield ok) else pure (ForInStep.yield r)) (TP X ae σ Q) X.xe s
noncomputable def IW:TT:=fun _ H Q => Q true H
theorem BV {X:Cx}:vT X [] IW:=fun _ _ _ H _ I h => wpAny_tests_nil ⟨H,I,h⟩
theorem BW {X:Cx} {c:Expr} {t:TT} (h:PT X c t):vT X [c] t:=fun ae s σ H Q I hw => wpAny_tests_one (h ae s σ H Q I hw)
theorem f7.IX {P:Program} {w:World} {H:Hp} {h:Heap} {a:Addr} {o:HO} (x:f7 P w H h) (hn:H a = none) (new:bU P w (upd H a o) h a o):f7 P w (upd H a o) h:=fun b u e => by
 by_cases hb:b = a
 ·subst hb; rw [bT] at e; cases e; exact new
 ·rw [aV hb] at e
  exact (x b u e).jF (fun c v _ q => q) (fun c q => by rw [aV (aW q hn)]; exact q) fun c xs q => by rw [aV (aW q hn)]; exact q
noncomputable def nK (X:Cx) (N:List Str) (scope:Scope) (cl:List (Str × Addr)) (C:Addr) (fp:List Addr) (s:Shared) (H:Hp):Cx :=
 { X with N:=N,s₀:=s,H₀:=H,env:=compEnvC scope cl C X.env,outer:=X.stack,stack:=X.stack,ex:=fp,fn:=fun _ => false,pn:=[],xe:=fun _ _ => False }
noncomputable def kN (k:Nat) (a_:List Nat) (σ:St):St:=List.replicate k none ++ a_.map fun j => (σ[j]?).getD none
structure qz (X:Cx) (N:List Str) (scope:Scope) (cl:List (Str × Addr)) (k:Nat) (a_:List Nat):Prop where
 sG:closureFor scope X.env = pure cl
 sub:∀ x c,cl.lookup x = some c → X.env.cells.lookup x = some c
 has:∀ x,((relabel scope X.env).names.lookup x = some .cell ∨ (relabel scope X.env).names.lookup x = some .free) → ∃ c,cl.lookup x = some c
 jL:∀ x ∈ scope.names,x.2 ≠ .cell
 kind:scope.kind = .function
 names:∀ x ∈ scope.names,x.2 = .local → scope.names.lookup x.1 = some .local
 len:N.length = k + a_.length
 at_:∀ i j x,a_[i]? = some j → N[k + i]? = some x → X.N[j]? = some x ∧ (X.env.kindOf x = some .cell ∨ X.env.kindOf x = some .free) ∧ ((relabel scope X.env).names.lookup x = some .cell ∨ (relabel scope X.env).names.lookup x = some .free)
noncomputable def qA (J:It) (k:Nat) (a_:List Nat) (g:TG) (tt:TT) (te:TE) (σ:St) (H1:Hp) (Q:VK):Prop :=
 ∃ W:Nat → Nat → List V → St → Hp → Prop,(∃ m,W 0 m [] (kN k a_ σ) H1) ∧ ∀ i m ys τ H,W i m ys τ H →
  (J.stop i H ∧ ys.length ≤ sizeLine ∧ ∀ p,H p = none → Q (.ref p) (upd H p (.lst ys))) ∨
  (J.go i H ∧ ys.length < sizeLine ∧ ∀ x H',J.Ij i H x H' → g x τ H' fun τ2 H2 => tt τ2 H2 fun b H3 => if b = true then te τ2 H3 fun y H4 => ∃ m',m' < m ∧ W (i + 1) m' (ys ++ [y]) τ2 H4 else ∃ m',m' < m ∧ W (i + 1) m' ys τ2 H3)
@[irreducible] def l7 (k:Nat) (a_:List Nat) (wi:TI) (g:TG) (tt:TT) (te:TE):TE:=fun σ H Q => wi σ H fun J H1 => qA J k a_ g tt te σ H1 Q
theorem yp {k:Nat} {a_:List Nat} {wi:TI} {g:TG} {tt:TT} {te:TE} {σ:St} {H:Hp} {Q:VK} (h:wi σ H fun J H1 => qA J k a_ g tt te σ H1 Q):l7 k a_ wi g tt te σ H Q:=by
 unfold l7
 exact h
theorem oA {k:Nat} {a_:List Nat} {wi:TI} {g:TG} {tt:TT} {te:TE} {σ:St} {H:Hp} {Q:VK} (h:l7 k a_ wi g tt te σ H Q):wi σ H fun J H1 => qA J k a_ g tt te σ H1 Q:=by
 unfold l7 at h
 exact h
section
variable {X:Cx} {ae:List (Addr × Obj)} {σ:St} {H:Hp} {s:Shared}
theorem BX {k:Nat} {a_:List Nat} {σ:St} {i:Nat} {v:V} (h:(kN k a_ σ)[i]? = some (some v)):∃ j,k ≤ i ∧ a_[i - k]? = some j ∧ σ[j]? = some (some v):=by
 unfold kN at h
 by_cases hi:i < k
 ·rw [List.getElem?_append_left (by simpa using hi),List.getElem?_replicate] at h
  split at h <;> cases h
 ·rw [List.getElem?_append_right (by simpa using Nat.le_of_not_lt hi),List.length_replicate,List.getElem?_map] at h
  cases e:a_[i - k]? with
  | none => rw [e] at h; cases h
  | some j =>
   rw [e] at h
   refine ⟨j,Nat.le_of_not_lt hi,rfl,?_⟩
   have h':(σ[j]?).getD none = some v:=by simpa using h
   cases q:σ[j]? with
   | none => rw [q] at h'; cases h'
   | some o => rw [q] at h'; exact congrArg some h'
theorem aG.block {N:List Str} {scope:Scope} {cl:List (Str × Addr)} {k:Nat} {a_:List Nat} {fp:List Addr} {C:Addr} {h':Heap} {t':Nat} {m':Str → Option Value}
  (I:aG X ae σ H s) (B:qz X N scope cl k a_) (hf:∀ b ∈ fp,nO X ae H b) (hC:s.heap.objs.size ≤ C) (IY:∀ b ∈ fp,∃ o,s.heap.get? b = some o)
  (kp:∀ b o,s.heap.get? b = some o → h'.get? b = some o) (ns:h'.Ns C m'):aG (nK X N scope cl C fp s H) [] (kN k a_ σ) H { s with heap:=h',toks:=t' }:=by
 have below:∀ {b:Addr} {o:Obj},s.heap.get? b = some o → b ≠ C:=fun e => Nat.ne_of_lt (Nat.lt_of_lt_of_le (Heap.lt_size e) hC)
 have IZ:∀ x c,cl.lookup x = some c → ∃ v,s.heap.IsCell c v:=fun x c e => I.cell x c (B.sub x c e)
 refine ⟨⟨I.ok.mod,?_,I.ok.glob,I.ok.blt,hC,fun x y c h1 h2 => I.ok.inj x y c (B.sub x c h1) (B.sub y c h2),fun x hx => B.has x hx,fun x c h1 _ => ?_,I.ok.hd,I.ok.frames,.inl rfl,fun b hb => ⟨?_,fun x c e => ?_⟩,I.bs,Nat.le_trans I.ok.Bc I.sz,fun b o e hb => ?_,fun b hb => ?_,I.stack,I.oX⟩,
  rfl,I.bare,Un.kept kp,⟨m',ns,fun i x v h1 h2 h3 => ?_⟩,fun x c e => ?_,?_,fun x c e => I.eZ x c (B.sub x c e),fun p hp => absurd (show p ∈ ([]:List (Addr × Obj)) from hp) (by simp),I.bI.kept kp,?_⟩
 ·exact B.kind
 ·exact absurd h1 (by simp [nK])
 ·obtain ⟨o,e⟩:=IY b hb
  exact below e
 ·exact (hf b hb).2.2.2.2.1 x c (B.sub x c e)
 ·obtain ⟨_,_,_,h4,_⟩:=hf b hb
  rcases h4 with z | z
  ·exact I.ok.qf b o e z
  ·exact absurd (Nat.lt_of_lt_of_le (Heap.lt_size (I.ok.bs b o e).1) z) (Nat.lt_irrefl _)
 ·intro z
  rcases List.mem_cons.mp (I.jG b z) with e | e
  ·exact (hf b hb).2.1 e
  ·exact (hf b hb).2.2.1 e
 ·obtain ⟨j,hk,hj,hσ⟩:=BX h2
  have hN:N[k + (i - k)]? = some x:=by rw [Nat.add_sub_cancel' hk]; exact h1
  obtain ⟨a1,a2,a3⟩:=B.at_ (i - k) j x hj hN
  obtain ⟨m,hn,hl⟩:=I.loc
  have Pb:Ey X.env.scope x:=by
   rcases a2 with z | z
   ·exact .inr (.inl z)
   ·exact .inr (.inr z)
  obtain ⟨u,r,l⟩:=hl j x v a1 hσ Pb
  refine ⟨u,r,.inr ⟨a3,?_⟩⟩
  rcases l with ⟨z,_⟩ | ⟨_,c,e,cc⟩
  ·rcases a2 with y | y <;> (rw [z] at y; cases y)
  ·obtain ⟨c',e'⟩:=B.has x a3
   have:X.env.cells.lookup x = some c':=B.sub x c' e'
   rw [e] at this
   cases this
   obtain ⟨o,ho,hd⟩:=cc
   exact ⟨c,e',o,kp c o ho,hd⟩
 ·obtain ⟨v,o,ho,hd⟩:=IZ x c e
  exact ⟨v,o,kp c o ho,hd⟩
 ·exact I.bI.fresh hC
 ·show (kN k a_ σ).length = N.length
  unfold kN
  rw [List.length_append,List.length_replicate,List.length_map,B.len]
noncomputable def yq (X:Cx) (ae:List (Addr × Obj)) (σ:St) (s:Shared) (Q:VK) (acc:Value) (C:Addr) (s':Shared):Prop :=
 ∃ D H',acc = .ref D ∧ s.heap.objs.size ≤ C ∧ aG X ae σ H' s' ∧ H' C = none ∧ (∃ m,s'.heap.Ns C m) ∧ Q (.ref D) H'
theorem oB {tg elt iter:Expr} {ifs:List Expr} {scope:Scope} {pos:Pos} {N:List Str} {cl:List (Str × Addr)} {k:Nat} {a_:List Nat} {g:TG} {tt:TT} {te:TE} {it:Addr} {fp:List Addr} {tn:Nat → Heap → Prop} {J:It} {Q:VK} {RR:Value → Addr → Result → Shared → Prop} {E:Value → Shared → Prop}
  (hc:X.calm = true) (B:qz X N scope cl k a_) (hg:∀ C fp s H,PG (nK X N scope cl C fp s H) tg g) (hi:∀ C fp s H,vT (nK X N scope cl C fp s H) ifs tt) (he:∀ C fp s H,PE (nK X N scope cl C fp s H) elt te)
  (I:aG X ae σ H s) (T:Turn X.prog X.w X.K tg J fp it tn) (st:tn 0 s.heap) (hf:∀ b ∈ fp,nO X ae H b)
  (h:qA J k a_ g tt te σ H Q)
  (Pc:∀ acc C s',yq X ae σ s Q acc C s' → RR acc C (.ok .next) s') :
  wpAny (model X.prog X.w) X.A (newList []) (fun acc s₃ => wpAny (model X.prog X.w) X.A (newFunctionEnv scope X.env.globals cl [] X.env.qual none .none (some X.env)) (fun I_ s₄ =>
   codeAny (model X.prog X.w) X.A (.compStart (.ListComp elt [⟨tg,iter,ifs,0⟩] scope pos) 0 (.ref it) acc { I_ with scope:=relabel scope X.env }) (RR acc I_.locals) s₄) E s₃) E s:=by
 obtain ⟨W,⟨m0,w0⟩,turn⟩:=h
 refine wpAny_newObj_type (wpAny_newFunctionEnv B.jL (by intro y hy; simp at hy) (fun h₁ sH pj => ?_) B.kind)
 dsimp only at sH pj ⊢
 generalize L7:s.heap.push { cls:=.type "list",dict:=none,data:=.seq ([]:List Value).toArray } = H2 at sH pj ⊢
 have hC:H2.objs.size = s.heap.objs.size + 1:=by rw [← L7,Heap.size_push]
 have Ky:s.heap.objs.size ≤ H2.objs.size:=by rw [hC]; exact Nat.le_succ _
 have Kz:s.heap.objs.size ≠ H2.objs.size:=by rw [hC]; exact Nat.ne_of_lt (Nat.lt_succ_self _)
 have old:∀ b o,s.heap.get? b = some o → h₁.get? b = some o:=fun b o e => pj.extBut b o (Nat.ne_of_lt (Nat.lt_of_lt_of_le (Heap.lt_size e) Ky)) (Heap.get?_push_of_some _ (L7 ▸ Heap.get?_push_of_some _ e))
 have FA:h₁.get? s.heap.objs.size = some { cls:=.type "list",data:=.seq ([]:List Value).toArray 0 }:=pj.extBut _ _ Kz (Heap.get?_push_of_some _ (L7 ▸ Heap.get?_push_size _ rfl))
 have L8:=T.obj 0 _ st
 have IY:∀ b ∈ fp,∃ o,s.heap.get? b = some o:=fun b hb => let ⟨o,e,_⟩:=L8 b hb; ⟨o,e⟩
 have N_:∀ b ∈ fp,b ≠ s.heap.objs.size:=fun b hb z => by
  obtain ⟨o,e⟩:=IY b hb
  exact absurd (Heap.lt_size e) (by rw [z]; exact Nat.lt_irrefl _)
 have Pd:H s.heap.objs.size = none:=I.bI.fresh (Nat.le_refl _)
 have D4:tn 0 h₁:=T.keep 0 _ _ st fun b _ o e => old b o e
 have I!:∀ x c,cl.lookup x = some c → c ≠ s.heap.objs.size:=fun x c e z => by
  obtain ⟨v,o,ho,_⟩:=I.cell x c (B.sub x c e)
  exact absurd (Heap.lt_size ho) (by rw [z]; exact Nat.lt_irrefl _)
 have L9:∀ b ∈ eM X.stack,b ≠ s.heap.objs.size:=fun b hb z => by
  obtain ⟨_,o,ho,_⟩:=I.stack.mem hb
  exact absurd (Heap.lt_size ho) (by rw [z]; exact Nat.lt_irrefl _)
 have loop:∀ s₃:Shared,s₃ = { s with heap:=h₁,toks:=s.toks + ([]:List (Str × Value)).length } →
   codeAny (model X.prog X.w) X.A (.compLoop (.ListComp elt [⟨tg,iter,ifs,0⟩] scope pos) 0 (.ref it) (.ref s.heap.objs.size) (compEnvC scope cl H2.objs.size X.env)) (RR (.ref s.heap.objs.size) H2.objs.size) s₃:=by
  rintro s₃ rfl
  generalize r9:nK X N scope cl H2.objs.size fp s H = XB
  have eP:XB.prog = X.prog:=by rw [← r9]; rfl
  have eW:XB.w = X.w:=by rw [← r9]; rfl
  have eK:XB.K = X.K:=by rw [← r9]; rfl
  have eA:XB.A = X.A:=by rw [← r9]; rfl
  have eE:XB.env = compEnvC scope cl H2.objs.size X.env:=by rw [← r9]; rfl
  have eL:XB.env.locals = H2.objs.size:=by rw [eE]; rfl
  have eF:XB.fs = eM X.stack:=by rw [← r9]; rfl
  have eX:XB.ex = fp:=by rw [← r9]; rfl
  have eN:XB.pn = []:=by rw [← r9]; rfl
  have e0:XB.s₀ = s:=by rw [← r9]; rfl
  have eC:XB.calm = true:=by rw [← r9]; exact hc
  have N!:XB.env.cells = cl:=by rw [eE]; rfl
  have L_:XB.xe = fun _ _ => False:=by rw [← r9]; rfl
  have jM:PG XB tg g:=by rw [← r9]; exact hg _ _ _ _
  have BY:vT XB ifs tt:=by rw [← r9]; exact hi _ _ _ _
  have Pe:PE XB elt te:=by rw [← r9]; exact he _ _ _ _
  have I0:aG XB [] (kN k a_ σ) H { s with heap:=h₁,toks:=s.toks + ([]:List (Str × Value)).length }:=by rw [← r9]; exact I.block B hf Ky IY old sH
  -- A? D5 pinned
  have L!:∀ {τ:St} {H':Hp} {s':Shared} {aA:List Value} {nn:Nat},aG XB [] τ H' s' → s'.heap.get? s.heap.objs.size = some { cls:=.type "list",data:=.seq aA.toArray nn } → H' s.heap.objs.size = none →
    aG XB [(s.heap.objs.size,{ cls:=.type "list",data:=.seq aA.toArray nn })] τ H' s':=fun {τ H' s' aA nn} J hd hn => J.lI fun p hp => by
   obtain rfl:p = _:=List.mem_singleton.mp hp
   refine ⟨hd,hn,by rw [eL]; exact Kz,by rw [eF]; exact fun z => L9 _ z rfl,fun v z => ?_⟩
   have z':Data.seq aA.toArray nn = Data.cell v:=z
   cases z'
  have sk:∀ {H':Hp} {o:Obj},(∀ b ∈ fp,H' b = none) → ∀ b ∈ fp,nO XB [(s.heap.objs.size,o)] H' b:=fun {H' o} hn b hb => by
   obtain ⟨_,f1,f2,f3,f4,f5⟩:=hf b hb
   refine ⟨hn b hb,?_,?_,.inl (by rw [eX]; exact hb),fun x c e => f4 x c (B.sub x c (by rw [← N!]; exact e)),fun p hp => ?_⟩
   ·rw [eL]
    obtain ⟨o,e⟩:=IY b hb
    exact Nat.ne_of_lt (Nat.lt_of_lt_of_le (Heap.lt_size e) Ky)
   ·rw [eF]
    intro z
    rcases List.mem_cons.mp (I.jG b z) with e | e
    ·exact f1 e
    ·exact f2 e
   ·rw [eN] at hp
    obtain rfl:p = _:=List.mem_singleton.mp (by simpa using hp)
    exact Ne.symm (N_ b hb)
  refine ph (fun n s' => ∃ i ys aA nn τ H',aG XB [] τ H' s' ∧ s'.heap.get? s.heap.objs.size = some { cls:=.type "list",data:=.seq aA.toArray nn } ∧ H' s.heap.objs.size = none ∧ a7 ys aA ∧ tn i s'.heap ∧ (∀ b ∈ fp,H' b = none) ∧ W i n ys τ H') ?_ m0
   ⟨0,[],[],0,kN k a_ σ,H,I0,FA,Pd,.nil,D4,fun b hb => (hf b hb).1,w0⟩
  rintro n s3 ⟨i,ys,aA,nn,τ,H3,I3,Pf,Pg,KA,fD,Ip,w3⟩
  have N?:=L! I3 Pf Pg
  rcases turn i n ys τ H3 w3 with ⟨stop,hz,qn⟩ | ⟨go,hz,step⟩
  ·have D1:=T.done XB eP eW eK eC i _ s3 τ H3 (fun _ _ => False) N? (sk Ip) fD stop
   rw [eA] at D1
   refine bF D1 fun r s4 ⟨hr,I4⟩ => ?_
   subst hr
   refine Pc _ _ s4 ?_
   obtain ⟨pd,I?,_⟩:=I4.pin (s.heap.objs.size,{ cls:=.type "list",data:=.seq aA.toArray nn }) (by rw [eN]; exact List.mem_append_right _ (List.mem_singleton.mpr rfl))
   have BZ:Un (eM X.stack) fp H H3 s.heap s4.heap:=by
    have:=I4.base
    rw [← r9] at this
    exact this
   have new:bU X.prog X.w (upd H3 s.heap.objs.size (.lst ys)) s4.heap s.heap.objs.size (.lst ys):=⟨hz,aA,nn,KA,pd⟩
   have L?:f7 X.prog X.w H3 s4.heap:=by
    have:=I4.bI
    rw [eP,eW] at this
    exact this
   have bI:f7 X.prog X.w (upd H3 s.heap.objs.size (.lst ys)) s4.heap:=L?.IX I? new
   have Ph:s4.os = s.os:=by
    have:=I4.os
    rw [e0] at this
    exact this
   have un:Un (eM X.stack) fp H (upd H3 s.heap.objs.size (.lst ys)) s.heap s4.heap :=
    ⟨BZ.keep,BZ.slot,fun b o e n hx => by rw [aV (Nat.ne_of_lt (Heap.lt_size e))]; exact BZ.free b o e n hx,BZ.there,
     fun b xs e => by rw [aV (aW (BZ.iL b xs e) I?)]; exact BZ.iL b xs e,fun b o u e => by rw [aV (aW (BZ.ik b o u e) I?)]; exact BZ.ik b o u e,
     fun b ps e => by
      obtain ⟨more,q⟩:=BZ.i_ b ps e
      exact ⟨more,by rw [aV (aW q I?)]; exact q⟩⟩
   have I5:aG X ae σ (upd H3 s.heap.objs.size (.lst ys)) s4:=I.qh Ph un bI I4.bare fun b hb => ⟨(hf b hb).2.2.2.1,(hf b hb).2.1,(hf b hb).2.2.2.2.1,(hf b hb).2.2.2.2.2⟩
   have Pj:H3 H2.objs.size = none:=by
    have:=I4.free
    rw [eL] at this
    exact this
   refine ⟨s.heap.objs.size,_,rfl,Ky,I5,by rw [aV (Ne.symm Kz)]; exact Pj,?_,qn _ I?⟩
   obtain ⟨m4,N',_⟩:=I4.loc
   rw [eL] at N'
   exact ⟨m4,N'⟩
  ·have D1:=T.item XB eP eW eK eC i _ s3 τ H3 (fun _ _ => False) N? (sk Ip) fD go
   rw [eA] at D1
   refine bF D1 fun r s4 ⟨u,hr,h4⟩ => ?_
   subst hr
   refine bF h4 fun _ s5 ⟨x,H5,I5,r5,y5,EY,Lx⟩ => ?_
   have Ly:=I5.pinned (sk Lx) (T.obj _ _ EY)
   have G:=jM _ s5 τ H5 x u _ Ly r5 (step x H5 y5)
   rw [eP,eW,eA,eE,L_] at G
   refine bF G fun _ s6 ⟨τ6,H6,I6,q6⟩ => ?_
   have G2:=BY _ s6 τ6 H6 _ I6 q6
   rw [eP,eW,eA,eE,L_] at G2
   refine bF G2 fun ok s7 ⟨H7,I7,q7⟩ => ?_
   -- Io A? ae give back
   have back:∀ {τ8:St} {H8:Hp} {s8:Shared},aG XB ([(s.heap.objs.size,({ cls:=.type "list",data:=.seq aA.toArray nn }:Obj))] ++ lT fp s5.heap) τ8 H8 s8 →
     aG XB [] τ8 H8 s8 ∧ s8.heap.get? s.heap.objs.size = some { cls:=.type "list",data:=.seq aA.toArray nn } ∧ H8 s.heap.objs.size = none ∧ tn (i + 1) s8.heap ∧ ∀ b ∈ fp,H8 b = none:=fun {τ8 H8 s8} J => by
    obtain ⟨p1,p2,_⟩:=J.pin (s.heap.objs.size,{ cls:=.type "list",data:=.seq aA.toArray nn }) (List.mem_append_right _ (List.mem_append_left _ (List.mem_singleton.mpr rfl)))
    refine ⟨J.lI fun p hp => absurd (show p ∈ ([]:List (Addr × Obj)) from hp) (by simp),p1,p2,T.keep _ _ _ EY fun b hb o e => (J.pin (b,o) (List.mem_append_right _ (List.mem_append_right _ (f9 hb e)))).1,fun b hb => ?_⟩
    obtain ⟨o,e,d⟩:=T.obj _ _ EY b hb
    exact (J.pin (b,o) (List.mem_append_right _ (List.mem_append_right _ (f9 hb e)))).2.1
   cases ok with
   | false =>
    rw [if_neg Bool.false_ne_true] at q7 ⊢
    obtain ⟨m',hm,w7⟩:=q7
    obtain ⟨J,a1,a2,a3,a4⟩:=back I7
    exact ⟨m',hm,i + 1,ys,aA,nn,τ6,H7,J,a1,a2,KA,a3,a4,w7⟩
   | true =>
    rw [if_pos rfl] at q7 ⊢
    have G3:=Pe _ s7 τ6 H7 _ I7 q7
    rw [eP,eW,eA,eE,L_] at G3
    refine bF G3 fun v s8 ⟨y,H8,I8,r8,m',hm,w8⟩ => ?_
    obtain ⟨J,a1,a2,a3,a4⟩:=back I8
    have hlen:=KA.length
    refine call_meets F.slot_list_append ⟨_,a1,rfl⟩ F.entry_list_append (F.args_list_append_2 _ _) (PySem.list_append s.heap.objs.size aA.toArray nn v (by rw [List.size_toArray]; lia)) ⟨a1,?_⟩
    have q:=PySem.IsL.update a1 (fun z => z.push v)
    have other:∀ b o,b ≠ s.heap.objs.size → s8.heap.get? b = some o → (s8.heap.update s.heap.objs.size (Obj.mapSeq fun z => z.push v)).get? b = some o:=fun b o hb e => (Heap.get?_update_other s8.heap (Obj.mapSeq fun z => z.push v) (Ne.symm hb)).trans e
    have J':aG XB [] τ6 H8 { s8 with heap:=s8.heap.update s.heap.objs.size (Obj.mapSeq fun z => z.push v) } :=
     J.turned (t':=s8.toks) (it:=s.heap.objs.size) other a2 (by rw [eL]; exact Kz) (.inr (by rw [e0]; exact Nat.le_refl _)) (fun x c e => I! x c (by rw [← N!]; exact e)) fun p hp => absurd (show p ∈ ([]:List (Addr × Obj)) by rw [eN] at hp; exact hp) (by simp)
    obtain ⟨n2,q2⟩:∃ n2,(s8.heap.update s.heap.objs.size (Obj.mapSeq fun z => z.push v)).get? s.heap.objs.size = some { cls:=.type "list",data:=.seq (aA ++ [v]).toArray n2 }:=by
     have e1:aA.toArray.push v = (aA ++ [v]).toArray:=by simp
     rw [← e1]
     exact ⟨_,q⟩
    exact ⟨m',hm,i + 1,ys ++ [y],aA ++ [v],n2,τ6,H8,J',q2,a2,KA.append (.cons r8 .nil),T.keep _ _ _ a3 fun b hb o e => other b o (N_ b hb) e,a4,w8⟩
 exact codeAny_compStart_list (loop _ rfl) (T.self X.A 0 _ _ _ D4 (loop _ rfl))
end
end L2
namespace L2
open PySem PySem.Spec PyProof.Rows
section
variable {X:Cx} {tg elt iter:Expr} {ifs:List Expr} {scope:Scope} {pos yr:Pos} {N:List Str} {cl:List (Str × Addr)} {k:Nat} {a_:List Nat} {wi:TI} {g:TG} {tt:TT} {te:TE}
theorem aG.oC {ae:List (Addr × Obj)} {σ σ':St} {H H':Hp} {s s':Shared} {C:Addr} {h':Heap} (I:aG X ae σ H s) (hC:s.heap.objs.size ≤ C) (I':aG X ae σ' H' s') (hn:H' C = none) (sb:Heap.SameBut C s'.heap h') :
  aG X ae σ' H' { s' with heap:=h' }:=by
 refine I'.turned (t':=s'.toks) (it:=C) (fun b o hb e => (sb.2 b hb).trans e) hn (Nat.ne_of_gt (Nat.lt_of_lt_of_le I.lt hC)) (.inr (Nat.le_trans I.sz hC)) (fun x c e => ?_) fun p hp => ?_
 ·obtain ⟨v,o,ho,_⟩:=I.cell x c e
  exact Nat.ne_of_lt (Nat.lt_of_lt_of_le (Heap.lt_size ho) hC)
 ·exact Nat.ne_of_lt (Nat.lt_of_lt_of_le (Heap.lt_size (I.pin p hp).1) hC)
theorem B0 (hc:X.calm = true) (B:qz X N scope cl k a_) (hi:PI X tg iter wi) (hg:∀ C fp s H,PG (nK X N scope cl C fp s H) tg g) (FC:∀ C fp s H,vT (nK X N scope cl C fp s H) ifs tt)
  (he:∀ C fp s H,PE (nK X N scope cl C fp s H) elt te) (hs:∀ x,foldedSetIterable iter X.env x = pure x:=by intro _; rfl):PE X (.ListComp elt [⟨tg,iter,ifs,0⟩] scope pos) (l7 k a_ wi g tt te):=by
 intro ae s σ H Q I h
 rw [eval_ListComp]
 refine wpAny_comprehension_free (use:=none) rfl hs B.sG B.kind B.names (bF (hi ae s σ H _ I (oA h)) fun xv s₁ h₁ => bF h₁ fun Ko s₂ h₂ => ?_)
 obtain ⟨it,fp,tn,J,H2,e,I2,T,st2,f2,hW⟩:=h₂
 subst e
 refine oB (RR:=fun acc C => compPost (model X.prog X.w) X.A X.xe none (EP X ae σ Q) acc C) hc B hg FC he I2 T st2 f2 hW ?_
 rintro acc C s' ⟨D,H',rfl,hC,I',hn,⟨m,ns⟩,q⟩
 exact ⟨m,ns,fun h' sb => ⟨.ref D,H',I2.oC hC I' hn sb,rfl,q⟩⟩
theorem sI {i:Nat} {y:Str} {py:Pos} (hN:X.N.Nodup) (hy:X.N[i]? = some y) (hx:Loc X.env.scope y) (hc:X.calm = true) (B:qz X N scope cl k a_) (hi:PI X tg iter wi) (hg:∀ C fp s H,PG (nK X N scope cl C fp s H) tg g)
  (FC:∀ C fp s H,vT (nK X N scope cl C fp s H) ifs tt) (he:∀ C fp s H,PE (nK X N scope cl C fp s H) elt te) (Ma:swapsWith (.ListComp elt [⟨tg,iter,ifs,0⟩] scope pos) (some (.Name y py)) yr.line X.env = pure true:=by rfl)
  (hs:∀ x,foldedSetIterable iter X.env x = pure x:=by intro _; rfl) (hf:X.fn y = true ∨ X.env.scope.names.lookup y = some .local:=by first | exact .inl rfl | exact .inr rfl | assumption) :
  PS X (.Assign [.Name y py] (.ListComp elt [⟨tg,iter,ifs,0⟩] scope pos) yr) (Bv (l7 k a_ wi g tt te) (qi i)):=by
 intro ae s σ H D I h
 rw [exec_Assign_Name_used _ _ _ _ Ma]
 refine wpAny_bind (wpAny_standAt (wpAny_bind ?_))
 show wpAny _ X.A (do let _ ← comprehension (.ListComp elt [⟨tg,iter,ifs,0⟩] scope pos) scope X.env _ (newList []) false (eval iter X.env) (some (assign (.Name y py) X.env))) _ _ s
 refine wpAny_bind (wpAny_mono (wpAny_comprehension_free (use:=some (assign (.Name y py) X.env)) (Q:=fun _ s' => SP X ae D .next s') rfl hs B.sG B.kind B.names (bF (hi ae s σ H _ I (oA h)) fun xv s₁ h₁ => bF h₁ fun Ko s₂ h₂ => ?_)) (fun _ s' hq => wpAny_pure (wpAny_pure hq)) fun _ _ e => e)
 obtain ⟨it,fp,tn,J,H2,e,I2,T,st2,f2,hW⟩:=h₂
 subst e
 refine oB (Q:=fun v H' => qi i v σ H' D.nx) (RR:=fun acc C => compPost (model X.prog X.w) X.A X.xe (some (assign (.Name y py) X.env)) (fun _ s' => SP X ae D .next s') acc C) hc B hg FC he I2 T st2 f2 hW ?_
 rintro acc C s' ⟨D',H',rfl,hC,I',hn,⟨m,ns⟩,q⟩
 show wpAny _ _ (assign (.Name y py) X.env (.ref D')) _ _ s'
 refine wpAny_assign_Name (jH I' hN hy hx (v:=.ref D') rfl (fun Kq Pk ⟨a,sb,ha⟩ => ?_) hf)
 have Pl:C ≠ a:=by
  rcases ha with e | e
  ·rw [e]; exact Nat.ne_of_gt (Nat.lt_of_lt_of_le I2.lt hC)
  ·obtain ⟨v,o,ho,_⟩:=I2.cell y a e
   exact Nat.ne_of_gt (Nat.lt_of_lt_of_le (Heap.lt_size ho) hC)
 exact ⟨m,ns.sameBut sb Pl,fun h' Mb => ⟨_,H',I2.oC hC Pk hn Mb,q⟩⟩
end
section
variable {K:PySem.W.Frag} {g:TG} {tt:TT} {te:TE} {Q:VK}
theorem B3 {J:It} {k:Nat} {a_:List Nat} {σ:St} {H:Hp} (n:Nat) (hn:n ≤ sizeLine) (Pv:Nat → List V → St → Hp → Prop) (h0:Pv 0 [] (kN k a_ σ) H) (Pm:∀ i ys τ H,i < n → Pv i ys τ H → J.go i H) (xN:∀ ys τ H,Pv n ys τ H → J.stop n H)
  (hl:∀ i ys τ H,Pv i ys τ H → ys.length ≤ i)
  (hs:∀ i ys τ H x H',i < n → Pv i ys τ H → J.Ij i H x H' → ∀ K1:List V → St → Hp → Prop,(∀ ys τ H,Pv (i + 1) ys τ H → K1 ys τ H) → g x τ H' fun τ2 H2 => tt τ2 H2 fun b H3 => if b = true then te τ2 H3 fun y H4 => K1 (ys ++ [y]) τ2 H4 else K1 ys τ2 H3)
  (hd:∀ ys τ H p,Pv n ys τ H → H p = none → Q (.ref p) (upd H p (.lst ys))):qA J k a_ g tt te σ H Q:=by
 refine ⟨fun i m ys τ H => m = n - i ∧ i ≤ n ∧ Pv i ys τ H,⟨n,by simp,Nat.zero_le _,h0⟩,?_⟩
 rintro i m ys τ H ⟨rfl,hi,p⟩
 have hy:=hl i ys τ H p
 by_cases uJ:i < n
 ·refine .inr ⟨Pm i ys τ H uJ p,by lia,fun x H' y => ?_⟩
  exact hs i ys τ H x H' uJ p y (fun ys τ H => ∃ m',m' < n - i ∧ m' = n - (i + 1) ∧ i + 1 ≤ n ∧ Pv (i + 1) ys τ H) fun ys τ H q => ⟨n - (i + 1),by lia,rfl,uJ,q⟩
 ·have e:i = n:=by lia
  subst e
  exact .inl ⟨xN ys τ H p,by lia,fun q hq => hd ys τ H q p hq⟩
end
noncomputable def cA (b:Bool) (h:Heap) (i l:Addr) (k:Nat):Prop:=match b with | true => h.IsListIter i l k | false => h.IsTupleIter i l k
noncomputable def fF (b:Bool) (h:Heap) (l:Addr) (xs:Array Value):Prop:=match b with | true => h.IsList l xs | false => h.IsTuple l xs
theorem cA.keep {b:Bool} {h h':Heap} {i l:Addr} {k:Nat} (x:cA b h i l k) (e:∀ o,h.get? i = some o → h'.get? i = some o):cA b h' i l k:=by
 cases b with
 | true => exact Heap.IsListIter.at x e
 | false => exact Heap.IsTupleIter.at x e
theorem fF.keep {b:Bool} {h h':Heap} {l:Addr} {xs:Array Value} (x:fF b h l xs) (e:∀ o,h.get? l = some o → h'.get? l = some o):fF b h' l xs:=by
 cases b with
 | true => exact Heap.IsList.at x e
 | false => obtain ⟨o,ho,r⟩:=(show h.IsTuple l xs from x); exact ⟨o,e _ ho,r⟩
theorem cA.there {b:Bool} {h:Heap} {i l:Addr} {k:Nat} (x:cA b h i l k):∃ o n vs,h.get? i = some o ∧ o.cls = .type n ∧ o.data = .fields vs:=by
 cases b with
 | true => obtain ⟨o,h1,h2,h3⟩:=(show h.IsListIter i l k from x); exact ⟨o,_,_,h1,h2,h3⟩
 | false => obtain ⟨o,h1,h2,h3⟩:=(show h.IsTupleIter i l k from x); exact ⟨o,_,_,h1,h2,h3⟩
section
variable {prog:Program} {w:World} {A:Around} {E:Value → Shared → Prop} {s:Shared}
theorem l8 {it t:Addr} {i:Nat} {items:Array Value} {x:Value} {Q:Value → Shared → Prop} (hit:s.heap.IsTupleIter it t i) (ht:s.heap.IsTuple t items) (hx:items[i]? = some x)
  (hQ:∀ h',h'.IsTupleIter it t (i + 1) → Heap.SameBut it s.heap h' → Q x { s with heap:=h' }):wpAny (model prog w) A (Builtin.SmallTypes.nextOf (.ref it)) Q E s:=by
 obtain ⟨oi,D6,ci,di⟩:=id hit
 obtain ⟨ot,Mc,_,nt,dt⟩:=ht
 unfold Builtin.SmallTypes.nextOf
 refine wpAny_bind (wpAny_callSpecial?_slot (name:=Str.ofString "__next__") hit.typeIs F.slot_tuple_iterator_next (wpAny_call_entry F.slot_tuple_iterator_next hit.typeIs F.entry_tuple_iterator_next ?_ (F.args_tuple_iterator_next_1 _)))
 show wpAny _ _ (field (.ref it) 0 >>= _) _ _ s
 refine wpAny_bind (wpAny_field D6 di (x:=.ref t) rfl ?_)
 show wpAny _ _ (if (Value.ref t == Value.none) = true then _ else _) _ _ s
 rw [if_neg (show ¬ ((Value.ref t == Value.none) = true) from Bool.false_ne_true)]
 show wpAny _ _ (field (.ref it) 1 >>= _) _ _ s
 refine wpAny_bind (wpAny_field D6 di (x:=.int i 0) rfl ?_)
 show wpAny _ _ (seqItems? (.ref t) >>= _) _ _ s
 refine wpAny_bind (wpAny_seqItems Mc dt ?_)
 simp only [Int.toNat_natCast,hx]
 refine wpAny_bind (wpAny_setField D6 di (by simp) (wpAny_pure ⟨x,rfl,wpAny_pure (hQ _ ?_ (Heap.SameBut.update ..))⟩))
 exact ⟨_,Heap.get?_update_self _ D6 (Obj.isFreed_of_fields (Obj.data_mapFields di _)),(Obj.cls_mapFields ..).trans ci,by rw [Obj.data_mapFields di]; simp [rawInt]⟩
theorem nS {it t:Addr} {i:Nat} {items:Array Value} {Q:Value → Shared → Prop} (hh:A.handled = none) (hit:s.heap.IsTupleIter it t i) (ht:s.heap.IsTuple t items) (hx:items[i]? = none)
  (hE:∀ h' e,Heap.ExtBut it s.heap h' → (∃ o,h'.get? e = some o ∧ o.cls = .type "StopIteration") → E (.ref e) { s with heap:=h' }):wpAny (model prog w) A (Builtin.SmallTypes.nextOf (.ref it)) Q E s:=by
 obtain ⟨oi,D6,ci,di⟩:=id hit
 obtain ⟨ot,Mc,_,nt,dt⟩:=ht
 unfold Builtin.SmallTypes.nextOf
 refine wpAny_bind (wpAny_callSpecial?_slot (name:=Str.ofString "__next__") hit.typeIs F.slot_tuple_iterator_next (wpAny_call_entry F.slot_tuple_iterator_next hit.typeIs F.entry_tuple_iterator_next ?_ (F.args_tuple_iterator_next_1 _)))
 show wpAny _ _ (field (.ref it) 0 >>= _) _ _ s
 refine wpAny_bind (wpAny_field D6 di (x:=.ref t) rfl ?_)
 show wpAny _ _ (if (Value.ref t == Value.none) = true then _ else _) _ _ s
 rw [if_neg (show ¬ ((Value.ref t == Value.none) = true) from Bool.false_ne_true)]
 show wpAny _ _ (field (.ref it) 1 >>= _) _ _ s
 refine wpAny_bind (wpAny_field D6 di (x:=.int i 0) rfl ?_)
 show wpAny _ _ (seqItems? (.ref t) >>= _) _ _ s
 refine wpAny_bind (wpAny_seqItems Mc dt ?_)
 simp only [Int.toNat_natCast,hx]
 refine wpAny_bind (wpAny_rule (wpAny_bind (wpAny_setField D6 di (by simp) ?_)))
 show wpAny _ _ (newExc (.type "StopIteration") [] >>= _) _ _ _
 refine wpAny_bind ?_
 simp only [newExc,newTuple]
 refine wpAny_bind (wpAny_newObj_type ?_ (by size_fits))
 refine wpAny_bind (m:=firstArgMember _ _) (wpAny_of_eq (a:=Value.none) (by first | rfl | (simp only [firstArgMember]; rfl)) ?_)
 refine wpAny_newObj_type ?_ (by size_fits)
 simp only [raiseNew]
 refine wpAny_bind (wpAny_handled ?_)
 first | rw [show A.in1.handled = none from hh] | rw [hh]
 refine wpAny_bind (wpAny_pure (wpAny_throw ?_))
 exact hE _ _ (((Heap.SameBut.update ..).extBut.push _).push _) ⟨_,Heap.get?_push_size _ rfl,rfl⟩
theorem gb {b:Bool} {it t:Addr} {i:Nat} {items:Array Value} {x:Value} {Q:Value → Shared → Prop} (hit:cA b s.heap it t i) (ht:fF b s.heap t items) (hx:items[i]? = some x)
  (hQ:∀ h',cA b h' it t (i + 1) → Heap.SameBut it s.heap h' → Q x { s with heap:=h' }):wpAny (model prog w) A (Builtin.SmallTypes.nextOf (.ref it)) Q E s:=by
 cases b with
 | true => exact wpAny_nextOf_list_item hit ht hx hQ
 | false => exact l8 hit ht hx hQ
theorem ko {b:Bool} {it t:Addr} {i:Nat} {items:Array Value} {Q:Value → Shared → Prop} (hh:A.handled = none) (hit:cA b s.heap it t i) (ht:fF b s.heap t items) (hx:items[i]? = none)
  (hE:∀ h' e,Heap.ExtBut it s.heap h' → (∃ o,h'.get? e = some o ∧ o.cls = .type "StopIteration") → E (.ref e) { s with heap:=h' }):wpAny (model prog w) A (Builtin.SmallTypes.nextOf (.ref it)) Q E s:=by
 cases b with
 | true => exact wpAny_nextOf_list_end hh hit ht hx hE
 | false => exact nS hh hit ht hx hE
end
end L2
namespace L2
open PySem PySem.Spec PyProof.Rows
noncomputable abbrev l9 (b:Bool) (l:Addr):Obj:={ cls:=.type (match b with | true => "list_iterator" | false => "tuple_iterator"),data:=.fields #[.ref l,.int 0 0] }
section
variable {prog:Program} {w:World} {A:Around} {E:Value → Shared → Prop} {s:Shared}
theorem cA.new (b:Bool) {h:Heap} {i l:Addr} (e:h.get? i = some (l9 b l)):cA b h i l 0:=by
 cases b with
 | true => exact ⟨_,e,rfl,rfl⟩
 | false => exact ⟨_,e,rfl,rfl⟩
theorem l_ {b:Bool} {l:Addr} {xs:Array Value} {Q:Value → Shared → Prop} (h:fF b s.heap l xs) (hQ:Q (.ref s.heap.objs.size) { s with heap:=s.heap.push (l9 b l) }):wpAny (model prog w) A (pyIter (.ref l)) Q E s:=by
 cases b with
 | true => exact wpAny_pyIter_list h hQ
 | false => exact wpAny_pyIter_tuple h hQ
theorem B4 {b1 b2:Bool} {z TI TO i1 i2 l1 l2:Addr} {k1 k2:Nat} {xs ys:Array Value} {x y a b:Value} {Q:Value → Shared → Prop} (D:ZipApart z TI TO i1 i2 l1 l2)
  (hz:IsZip s.heap z TI TO .none) (pq:IsPair s.heap TI (.ref i1) (.ref i2)) (qa:IsPair s.heap TO a b) (h1:cA b1 s.heap i1 l1 k1) (h2:cA b2 s.heap i2 l2 k2) (Bi:fF b1 s.heap l1 xs) (Bg:fF b2 s.heap l2 ys) (hx:xs[k1]? = some x) (hy:ys[k2]? = some y)
  (hQ:∀ h',IsZip h' z TI TO (rawInt s.heap.objs.size) → IsPair h' TO x y → cA b1 h' i1 l1 (k1 + 1) → cA b2 h' i2 l2 (k2 + 1) → IsPair h' s.heap.objs.size x y →
   (∀ c o,c ≠ z → c ≠ TO → c ≠ i1 → c ≠ i2 → s.heap.get? c = some o → h'.get? c = some o) → Q (.ref s.heap.objs.size) { s with heap:=h' }) :
  wpAny (model prog w) A (Builtin.«zip.__next__» ⟨[.ref z],[]⟩) (fun fin s' => ∃ v,fin = .done (.ret v) ∧ Q v s') E s:=by
 show wpAny _ _ (field (.ref z) 2 >>= _) _ _ _
 refine wpAny_bind (wpAny_field hz rfl (x:=.bool false) rfl ?_)
 show wpAny _ _ (field (.ref z) 3 >>= _) _ _ _
 refine wpAny_bind (wpAny_field hz rfl (x:=.ref TI) rfl (wpAny_bind (wpAny_seqItems pq rfl ?_)))
 show wpAny _ _ (Builtin.SmallTypes.ownedTupleIsFree (.ref z) >>= _) _ _ _
 refine wpAny_bind ?_
 unfold Builtin.SmallTypes.ownedTupleIsFree
 refine wpAny_bind (wpAny_field hz rfl (x:=.none) rfl (wpAny_pure ?_))
 simp only [if_true]
 refine wpAny_bind (wpAny_rule (wpAny_bind (wpAny_field hz rfl (x:=.ref TO) rfl (wpAny_bind (wpAny_setField_rec hz (by simp) fun g₁ kq s₁ => ?_)))))
 replace kq:IsZip g₁ z TI TO .ellipsis:=kq
 refine wpAny_bind ?_
 simp only [List.zipIdx_cons,List.zipIdx_nil,List.forIn_cons,List.forIn_nil]
 refine wpAny_bind (wpAny_bind (wpAny_onRaise ?_))
 show wpAny _ _ (Builtin.SmallTypes.nextOf (.ref i1) >>= _) _ _ _
 refine wpAny_bind (gb (b:=b1) (h1.keep fun o e => s₁.extBut _ o D.i1z e) (Bi.keep fun o e => s₁.extBut _ o D.l1z e) hx fun g₂ q₁ s₂ => wpAny_pure ?_)
 have t₂:IsPair g₂ TO a b:=s₂.extBut _ _ D.TOi1 (s₁.extBut _ _ D.TOz qa)
 refine wpAny_bind (wpAny_seqItems t₂ rfl (wpAny_bind (wpAny_updateSeq_pair t₂ fun g₃ t₃ s₃ => ?_)))
 replace t₃:IsPair g₃ TO x b:=t₃
 refine wpAny_bind (wpAny_letGo (wpAny_pure (wpAny_bind (wpAny_bind (wpAny_onRaise ?_)))))
 show wpAny _ _ (Builtin.SmallTypes.nextOf (.ref i2) >>= _) _ _ _
 refine wpAny_bind (gb (b:=b2) (h2.keep fun o e => s₃.extBut _ o D.TOi2.symm (s₂.extBut _ o D.i12.symm (s₁.extBut _ o D.i2z e))) (Bg.keep fun o e => s₃.extBut _ o D.l2TO (s₂.extBut _ o D.l2i1 (s₁.extBut _ o D.l2z e))) hy fun g₄ q₂ s₄ => wpAny_pure ?_)
 have t₄:IsPair g₄ TO x b:=s₄.extBut _ _ D.TOi2 t₃
 refine wpAny_bind (wpAny_seqItems t₄ rfl (wpAny_bind (wpAny_updateSeq_pair t₄ fun g₅ t₅ s₅ => ?_)))
 replace t₅:IsPair g₅ TO x y:=t₅
 refine wpAny_bind (wpAny_letGo (wpAny_pure (wpAny_pure (wpAny_bind (wpAny_seqItems t₅ rfl (wpAny_bind (wpAny_newTuple ?_)))))))
 have sz:g₅.objs.size = s.heap.objs.size:=by rw [s₅.1,s₄.1,s₃.1,s₂.1,s₁.1]
 have z₅:IsZip g₅ z TI TO .ellipsis:=s₅.extBut _ _ D.TOz.symm (s₄.extBut _ _ D.i2z.symm (s₃.extBut _ _ D.TOz.symm (s₂.extBut _ _ D.i1z.symm kq)))
 have kp:∀ c o,c ≠ z → c ≠ TO → c ≠ i1 → c ≠ i2 → s.heap.get? c = some o → g₅.get? c = some o:=fun c o n1 n2 n3 n4 e => s₅.extBut _ _ n2 (s₄.extBut _ _ n4 (s₃.extBut _ _ n2 (s₂.extBut _ _ n3 (s₁.extBut _ _ n1 e))))
 have p₁:cA b1 g₅ i1 l1 (k1 + 1):=q₁.keep fun o e => s₅.extBut _ o D.TOi1.symm (s₄.extBut _ o D.i12 (s₃.extBut _ o D.TOi1.symm e))
 have p₂:cA b2 g₅ i2 l2 (k2 + 1):=q₂.keep fun o e => s₅.extBut _ o D.TOi2.symm e
 have Oa:z < g₅.objs.size:=Heap.lt_size z₅
 show wpAny _ _ (Builtin.SmallTypes.ownedTupleHandOut (.ref z) (.ref g₅.objs.size) >>= _) _ _ _
 refine wpAny_bind ?_
 unfold Builtin.SmallTypes.ownedTupleHandOut
 have z₆:IsZip (g₅.push { cls:=.type "tuple",data:=.seq #[x,y] }) z TI TO .ellipsis:=Heap.get?_push_of_some _ z₅
 refine wpAny_bind (wpAny_setField_rec z₆ (by simp) fun g₇ z₇ s₇ => ?_)
 replace z₇:IsZip g₇ z TI TO (rawInt g₅.objs.size):=z₇
 refine wpAny_setField_rec z₇ (by simp) fun g₈ z₈ s₈ => ?_
 replace z₈:IsZip g₈ z TI TO (rawInt g₅.objs.size):=z₈
 have up:∀ c o,c ≠ z → g₅.get? c = some o → g₈.get? c = some o:=fun c o n e => s₈.extBut _ _ n (s₇.extBut _ _ n (Heap.get?_push_of_some _ e))
 have t₈:IsPair g₈ g₅.objs.size x y:=s₈.extBut _ _ (Nat.ne_of_gt Oa) (s₇.extBut _ _ (Nat.ne_of_gt Oa) (Heap.get?_push_size _ rfl))
 rw [sz] at z₈ t₈
 refine wpAny_pure ⟨_,rfl,?_⟩
 show Q (.ref g₅.objs.size) _
 rw [sz]
 exact hQ g₈ z₈ (up _ _ D.TOz t₅) (p₁.keep fun o e => up _ o D.i1z e) (p₂.keep fun o e => up _ o D.i2z e) t₈ fun c o n1 n2 n3 n4 e => up c o n1 (kp c o n1 n2 n3 n4 e)
theorem FD {b1 b2:Bool} {z TI TO i1 i2 l1 l2:Addr} {k1 k2:Nat} {xs ys:Array Value} {a b:Value} {Q:Fin → Shared → Prop} (hh:A.handled = none) (D:ZipApart z TI TO i1 i2 l1 l2)
  (hz:IsZip s.heap z TI TO .none) (pq:IsPair s.heap TI (.ref i1) (.ref i2)) (qa:IsPair s.heap TO a b) (h1:cA b1 s.heap i1 l1 k1) (h2:cA b2 s.heap i2 l2 k2) (Bi:fF b1 s.heap l1 xs) (Bg:fF b2 s.heap l2 ys) (he:xs[k1]? = none ∨ ys[k2]? = none)
  (hE:∀ h' e,(∀ c o,c ≠ z → c ≠ TO → c ≠ i1 → c ≠ i2 → s.heap.get? c = some o → h'.get? c = some o) → (∃ o,h'.get? e = some o ∧ o.cls = .type "StopIteration") → E (.ref e) { s with heap:=h' }) :
  wpAny (model prog w) A (Builtin.«zip.__next__» ⟨[.ref z],[]⟩) Q E s:=by
 show wpAny _ _ (field (.ref z) 2 >>= _) _ _ _
 refine wpAny_bind (wpAny_field hz rfl (x:=.bool false) rfl ?_)
 show wpAny _ _ (field (.ref z) 3 >>= _) _ _ _
 refine wpAny_bind (wpAny_field hz rfl (x:=.ref TI) rfl (wpAny_bind (wpAny_seqItems pq rfl ?_)))
 show wpAny _ _ (Builtin.SmallTypes.ownedTupleIsFree (.ref z) >>= _) _ _ _
 refine wpAny_bind ?_
 unfold Builtin.SmallTypes.ownedTupleIsFree
 refine wpAny_bind (wpAny_field hz rfl (x:=.none) rfl (wpAny_pure ?_))
 simp only [if_true]
 refine wpAny_bind (wpAny_rule (wpAny_bind (wpAny_field hz rfl (x:=.ref TO) rfl (wpAny_bind (wpAny_setField_rec hz (by simp) fun g₁ kq s₁ => ?_)))))
 replace kq:IsZip g₁ z TI TO .ellipsis:=kq
 refine wpAny_bind ?_
 simp only [List.zipIdx_cons,List.zipIdx_nil,List.forIn_cons,List.forIn_nil]
 refine wpAny_bind (wpAny_bind (wpAny_onRaise ?_))
 show wpAny _ _ (Builtin.SmallTypes.nextOf (.ref i1) >>= _) _ _ _
 cases hx:xs[k1]? with
 | none =>
  refine wpAny_bind (ko (b:=b1) hh (h1.keep fun o e => s₁.extBut _ o D.i1z e) (Bi.keep fun o e => s₁.extBut _ o D.l1z e) hx fun g₂ e s₂ ⟨oe,B5,ce⟩ => ?_)
  have z₂:IsZip g₂ z TI TO .ellipsis:=s₂ _ _ D.i1z.symm kq
  have Md:e ≠ z:=fun q => by subst q; rw [z₂] at B5; cases B5; simp at ce
  exact wpAny_setField_rec z₂ (by simp) fun g₃ _ s₃ => hE g₃ e (fun c o n1 _ n3 _ q => s₃.extBut _ _ n1 (s₂ _ _ n3 (s₁.extBut _ _ n1 q))) ⟨oe,s₃.extBut _ _ Md B5,ce⟩
 | some x =>
  have hy:ys[k2]? = none:=by
   rcases he with q | q
   ·rw [hx] at q; cases q
   ·exact q
  refine wpAny_bind (gb (b:=b1) (h1.keep fun o e => s₁.extBut _ o D.i1z e) (Bi.keep fun o e => s₁.extBut _ o D.l1z e) hx fun g₂ q₁ s₂ => wpAny_pure ?_)
  have t₂:IsPair g₂ TO a b:=s₂.extBut _ _ D.TOi1 (s₁.extBut _ _ D.TOz qa)
  refine wpAny_bind (wpAny_seqItems t₂ rfl (wpAny_bind (wpAny_updateSeq_pair t₂ fun g₃ t₃ s₃ => ?_)))
  refine wpAny_bind (wpAny_letGo (wpAny_pure (wpAny_bind (wpAny_bind (wpAny_onRaise ?_)))))
  show wpAny _ _ (Builtin.SmallTypes.nextOf (.ref i2) >>= _) _ _ _
  refine wpAny_bind (ko (b:=b2) hh (h2.keep fun o e => s₃.extBut _ o D.TOi2.symm (s₂.extBut _ o D.i12.symm (s₁.extBut _ o D.i2z e))) (Bg.keep fun o e => s₃.extBut _ o D.l2TO (s₂.extBut _ o D.l2i1 (s₁.extBut _ o D.l2z e))) hy fun g₄ e s₄ ⟨oe,B5,ce⟩ => ?_)
  have z₄:IsZip g₄ z TI TO .ellipsis:=s₄ _ _ D.i2z.symm (s₃.extBut _ _ D.TOz.symm (s₂.extBut _ _ D.i1z.symm kq))
  have Md:e ≠ z:=fun q => by subst q; rw [z₄] at B5; cases B5; simp at ce
  exact wpAny_setField_rec z₄ (by simp) fun g₅ _ s₅ => hE g₅ e (fun c o n1 n2 n3 n4 q => s₅.extBut _ _ n1 (s₄ _ _ n4 (s₃.extBut _ _ n2 (s₂.extBut _ _ n3 (s₁.extBut _ _ n1 q))))) ⟨oe,s₅.extBut _ _ Md B5,ce⟩
theorem vU {b1 b2:Bool} {z TI TO i1 i2 l1 l2:Addr} {k1 k2:Nat} {xs ys:Array Value} {x y a b:Value} {Q:Option Value → Shared → Prop} (D:ZipApart z TI TO i1 i2 l1 l2)
  (hz:IsZip s.heap z TI TO .none) (pq:IsPair s.heap TI (.ref i1) (.ref i2)) (qa:IsPair s.heap TO a b) (h1:cA b1 s.heap i1 l1 k1) (h2:cA b2 s.heap i2 l2 k2) (Bi:fF b1 s.heap l1 xs) (Bg:fF b2 s.heap l2 ys) (hx:xs[k1]? = some x) (hy:ys[k2]? = some y)
  (hQ:∀ h',IsZip h' z TI TO (rawInt s.heap.objs.size) → IsPair h' TO x y → cA b1 h' i1 l1 (k1 + 1) → cA b2 h' i2 l2 (k2 + 1) → IsPair h' s.heap.objs.size x y →
   (∀ c o,c ≠ z → c ≠ TO → c ≠ i1 → c ≠ i2 → s.heap.get? c = some o → h'.get? c = some o) → Q (some (.ref s.heap.objs.size)) { s with heap:=h' }):wpAny (model prog w) A (pyNext (.ref z)) Q E s:=by
 have tz:s.TypeIs (.ref z) "zip":=⟨_,hz,rfl⟩
 unfold pyNext
 exact wpAny_bind (wpAny_attempt (wpAny_callSpecial?_slot (name:=Str.ofString "__next__") tz F.slot_zip_next
  (wpAny_call_entry F.slot_zip_next tz F.entry_zip_next (B4 (b1:=b1) (b2:=b2) D hz pq qa h1 h2 Bi Bg hx hy fun h' a1 a2 a3 a4 a5 a6 => wpAny_pure (hQ h' a1 a2 a3 a4 a5 a6)) (F.args_zip_next_1 _))))
theorem yt {b1 b2:Bool} {z TI TO i1 i2 l1 l2:Addr} {k1 k2:Nat} {xs ys:Array Value} {a b:Value} {Q:Option Value → Shared → Prop} (hh:A.handled = none) (D:ZipApart z TI TO i1 i2 l1 l2)
  (hz:IsZip s.heap z TI TO .none) (pq:IsPair s.heap TI (.ref i1) (.ref i2)) (qa:IsPair s.heap TO a b) (h1:cA b1 s.heap i1 l1 k1) (h2:cA b2 s.heap i2 l2 k2) (Bi:fF b1 s.heap l1 xs) (Bg:fF b2 s.heap l2 ys) (he:xs[k1]? = none ∨ ys[k2]? = none)
  (hQ:∀ h',(∀ c o,c ≠ z → c ≠ TO → c ≠ i1 → c ≠ i2 → s.heap.get? c = some o → h'.get? c = some o) → Q none { s with heap:=h' }):wpAny (model prog w) A (pyNext (.ref z)) Q E s:=by
 have tz:s.TypeIs (.ref z) "zip":=⟨_,hz,rfl⟩
 unfold pyNext
 refine wpAny_bind (wpAny_attempt (wpAny_callSpecial?_slot (name:=Str.ofString "__next__") tz F.slot_zip_next
  (wpAny_call_entry F.slot_zip_next tz F.entry_zip_next (FD (b1:=b1) (b2:=b2) hh D hz pq qa h1 h2 Bi Bg he fun h' e hk he => ?_) (F.args_zip_next_1 _))))
 obtain ⟨o,ho,hc⟩:=he
 exact wpAny_bind (wpAny_isInstance (T:="StopIteration") (b:=true) ⟨o,ho,hc⟩ isSubtype_stop (wpAny_pure (hQ _ hk)))
noncomputable abbrev KC (b1:Bool) (h:Heap) (l1:Addr):Heap:=h.push (l9 b1 l1)
noncomputable abbrev KD (b1 b2:Bool) (h:Heap) (l1 l2:Addr):Heap:=(KC b1 h l1).push (l9 b2 l2)
noncomputable abbrev KG (b1 b2:Bool) (h:Heap) (l1 l2:Addr):Heap:=(KD b1 b2 h l1 l2).push { cls:=.type "tuple",data:=.seq #[.ref h.objs.size,.ref (KC b1 h l1).objs.size] }
noncomputable abbrev KH (b1 b2:Bool) (h:Heap) (l1 l2:Addr):Heap:=(KG b1 b2 h l1 l2).push { cls:=.type "tuple",data:=.seq #[.none,.none] }
noncomputable abbrev HG (b1 b2:Bool) (h:Heap) (l1 l2:Addr):Heap:=(KH b1 b2 h l1 l2).push { cls:=.type "zip",data:=.fields #[.none,.bool false,.bool false,.ref (KD b1 b2 h l1 l2).objs.size,.ref (KG b1 b2 h l1 l2).objs.size] }
theorem yu (b1 b2:Bool) (l1 l2:Addr) (xs ys:Array Value) :
  Meets (Builtin.«zip.__new__» ⟨[.type "zip",.ref l1,.ref l2],[]⟩) (fun _ R s => fF b1 s.heap l1 xs ∧ fF b2 s.heap l2 ys ∧ R (.ok (.ret (.ref (KH b1 b2 s.heap l1 l2).objs.size))) { s with heap:=HG b1 b2 s.heap l1 l2 }) :=
 .of_wp fun prog w A R s h => by
  obtain ⟨hp,g,d,tk,os⟩:=s
  obtain ⟨q1,q2,h⟩:=h
  have Me:=sub_zip
  have w1:fF b1 (Shared.heap ⟨hp,g,d,tk,os⟩) l1 xs:=q1
  have w2:fF b2 (Shared.heap ⟨hp.push (l9 b1 l1),g,d,tk,os⟩) l2 ys:=q2.keep fun o e => Heap.get?_push_of_some _ e
  wp_walk using l_ w1,l_ w2
  exact ⟨_,rfl,h⟩
theorem yw {b1 b2:Bool} {l1 l2:Addr} {xs ys:Array Value} {Q:Value → Shared → Prop} (Bi:fF b1 s.heap l1 xs) (Bg:fF b2 s.heap l2 ys)
  (h:∀ h',IsZip h' (s.heap.objs.size + 4) (s.heap.objs.size + 2) (s.heap.objs.size + 3) .none → IsPair h' (s.heap.objs.size + 2) (.ref s.heap.objs.size) (.ref (s.heap.objs.size + 1)) → IsPair h' (s.heap.objs.size + 3) .none .none →
   cA b1 h' s.heap.objs.size l1 0 → cA b2 h' (s.heap.objs.size + 1) l2 0 → (∀ c o,s.heap.get? c = some o → h'.get? c = some o) → Q (.ref (s.heap.objs.size + 4)) { s with heap:=h' }) :
  wpAny (model prog w) A (call (.type "zip") [.ref l1,.ref l2]) Q E s:=by
 refine callType_new F.called_zip (by decide) (F.typeCall_zip_2 _ _) (F.newCall_zip_2 _ _) (fun obj => F.args_object_init_3 obj _ _) F.entry_zip_new (yu b1 b2 l1 l2 xs ys) ⟨Bi,Bg,?_⟩
 have z1:(KC b1 s.heap l1).objs.size = s.heap.objs.size + 1:=Heap.size_push ..
 have z2:(KD b1 b2 s.heap l1 l2).objs.size = s.heap.objs.size + 2:=by rw [Heap.size_push,z1]
 have z3:(KG b1 b2 s.heap l1 l2).objs.size = s.heap.objs.size + 3:=by rw [Heap.size_push,z2]
 have z4:(KH b1 b2 s.heap l1 l2).objs.size = s.heap.objs.size + 4:=by rw [Heap.size_push,z3]
 have g5:(HG b1 b2 s.heap l1 l2).get? (KH b1 b2 s.heap l1 l2).objs.size = some _:=Heap.get?_push_size _ rfl
 have g4:(HG b1 b2 s.heap l1 l2).get? (KG b1 b2 s.heap l1 l2).objs.size = some _:=Heap.get?_push_of_some _ (Heap.get?_push_size _ rfl)
 have g3:(HG b1 b2 s.heap l1 l2).get? (KD b1 b2 s.heap l1 l2).objs.size = some _:=Heap.get?_push_of_some _ (Heap.get?_push_of_some _ (Heap.get?_push_size _ rfl))
 have g2:(HG b1 b2 s.heap l1 l2).get? (KC b1 s.heap l1).objs.size = some (l9 b2 l2):=Heap.get?_push_of_some _ (Heap.get?_push_of_some _ (Heap.get?_push_of_some _ (Heap.get?_push_size _ rfl)))
 have g1:(HG b1 b2 s.heap l1 l2).get? s.heap.objs.size = some (l9 b1 l1):=Heap.get?_push_of_some _ (Heap.get?_push_of_some _ (Heap.get?_push_of_some _ (Heap.get?_push_of_some _ (Heap.get?_push_size _ rfl))))
 show _ ∧ _
 rw [z2,z3,z4] at g5
 rw [z1,z2] at g3
 rw [z3] at g4
 rw [z1] at g2
 rw [z4]
 exact ⟨⟨_,g5,rfl⟩,h _ g5 g3 g4 (.new b1 g1) (.new b2 g2) fun c o x => Heap.get?_push_of_some _ (Heap.get?_push_of_some _ (Heap.get?_push_of_some _ (Heap.get?_push_of_some _ (Heap.get?_push_of_some _ x))))⟩
end
noncomputable def sJ (b:Bool) (K:PySem.W.Frag) (H:Hp) (a:Addr) (xs:List V):Prop:=match b with | true => i8 K H a xs | false => hR K H a xs
theorem aG.HH {X:Cx} {ae:List (Addr × Obj)} {σ:St} {H:Hp} {s:Shared} {b:Bool} {a:Addr} {xs:List V} (I:aG X ae σ H s) (h:sJ b X.K H a xs):∃ aA:List Value,a7 xs aA ∧ fF b s.heap a aA.toArray ∧ xs.length ≤ sizeLine:=by
 cases b with
 | true => obtain ⟨aA,r,p,z⟩:=I.list h; exact ⟨aA,r,p.isList,z⟩
 | false => obtain ⟨aA,r,p,z⟩:=I.tuple h; exact ⟨aA,r,p,z⟩
theorem aG.uK {X:Cx} {ae:List (Addr × Obj)} {σ:St} {H:Hp} {s:Shared} {b:Bool} {a:Addr} {xs ys:List V} (I:aG X ae σ H s) (h:sJ b X.K H a xs) (h':sJ b X.K H a ys):xs = ys:=by
 cases b with
 | true => exact I.lS h h'
 | false => exact I.hU h h'
theorem aG.D7 {X:Cx} {ae:List (Addr × Obj)} {σ:St} {H:Hp} {s:Shared} {b:Bool} {l c:Addr} {zs:List V} (I:aG X ae σ H s) (hs:sJ b X.K H l zs) (f:nO X ae H c):l ≠ c:=by
 intro q
 have mo:∀ o,X.K.lookup l = some o → False:=fun o hk => by
  have e:=I.mod.DQ l o hk
  rcases f.2.2.2.1 with z | z
  ·exact I.ok.qf l o e (by rw [q]; exact z)
  ·exact absurd (Nat.lt_of_lt_of_le (Heap.lt_size (I.ok.bs l o e).1) (by rw [q]; exact z)) (Nat.lt_irrefl _)
 have tr:∀ o,H l = some o → False:=fun o e => by rw [q,f.1] at e; cases e
 cases b with
 | true =>
  rcases (show i8 X.K H l zs from hs) with (r | ⟨o,r⟩) | ⟨o,aA,n,hk,_⟩
  ·exact tr _ r
  ·exact tr _ r
  ·exact mo o hk
 | false =>
  rcases (show hR X.K H l zs from hs) with (r | ⟨o,r⟩) | ⟨o,aA,n,hk,_⟩
  ·exact tr _ r
  ·exact tr _ r
  ·exact mo o hk
noncomputable def Ob (K:PySem.W.Frag) (b1 b2:Bool) (a b:Addr):It :=
 ⟨fun i H => ∃ xs ys x y,sJ b1 K H a xs ∧ sJ b2 K H b ys ∧ xs[i]? = some x ∧ ys[i]? = some y,
  fun i H v H' => ∃ p x y,v = .ref p ∧ H p = none ∧ H' = upd H p (.tup [x,y]) ∧ (∀ xs,sJ b1 K H a xs → xs[i]? = some x) ∧ ∀ ys,sJ b2 K H b ys → ys[i]? = some y,
  fun i H => ∃ xs ys,sJ b1 K H a xs ∧ sJ b2 K H b ys ∧ (xs.length ≤ i ∨ ys.length ≤ i)⟩
theorem yx {P:Program} {w:World} {K:PySem.W.Frag} {elts:List Expr} {kt:Nat} {tp:Pos} {b1 b2:Bool} {z TI TO i1 i2:Addr} (a b:Addr) (ne:z ≠ TI ∧ z ≠ TO ∧ z ≠ i1 ∧ z ≠ i2 ∧ TI ≠ TO ∧ TI ≠ i1 ∧ TI ≠ i2 ∧ TO ≠ i1 ∧ TO ≠ i2 ∧ i1 ≠ i2) :
  Turn P w K (.Tuple elts kt tp) (Ob K b1 b2 a b) [z,TI,TO,i1,i2] z (fun i h => IsZip h z TI TO .none ∧ IsPair h TI (.ref i1) (.ref i2) ∧ (∃ u v,IsPair h TO u v) ∧ cA b1 h i1 a i ∧ cA b2 h i2 b i) where
 mem:=by simp
 obj:=fun i h ⟨hz,pq,⟨u,v,qa⟩,h1,h2⟩ c hc => by
  have cz:c = z ∨ c = TI ∨ c = TO ∨ c = i1 ∨ c = i2:=by simpa using hc
  rcases cz with rfl | rfl | rfl | rfl | rfl
  ·exact ⟨_,hz,fun v q => by have q':Data.fields _ = Data.cell v:=q; cases q'⟩
  ·exact ⟨_,pq,fun v q => by have q':Data.seq _ _ = Data.cell v:=q; cases q'⟩
  ·exact ⟨_,qa,fun v q => by have q':Data.seq _ _ = Data.cell v:=q; cases q'⟩
  ·obtain ⟨o,n,vs,e,_,d⟩:=h1.there
   exact ⟨o,e,fun v q => by rw [d] at q; cases q⟩
  ·obtain ⟨o,n,vs,e,_,d⟩:=h2.there
   exact ⟨o,e,fun v q => by rw [d] at q; cases q⟩
 keep:=fun i h h' ⟨hz,pq,⟨u,v,qa⟩,h1,h2⟩ k => ⟨k z (by simp) _ hz,k TI (by simp) _ pq,⟨u,v,k TO (by simp) _ qa⟩,h1.keep fun o e => k i1 (by simp) o e,h2.keep fun o e => k i2 (by simp) o e⟩
 item:=by
  intro X hP hw hK hc i ae s σ H E I hf st hg
  subst hP hw hK
  obtain ⟨hz,pq,⟨u,v,qa⟩,h1,h2⟩:=st
  obtain ⟨xs,ys,x,y,sx,sy,ex,ey⟩:=hg
  obtain ⟨aA,rv,p,_⟩:=I.HH sx
  obtain ⟨de,KI,p2,_⟩:=I.HH sy
  obtain ⟨ux,KJ,rx⟩:=rv.get ex
  obtain ⟨uy,Pn,ry⟩:=KI.get ey
  obtain ⟨n1,n2,n3,n4,n5,n6,n7,n8,n9,Mf⟩:=ne
  have fz:=hf z (by simp)
  have d?:∀ {b:Bool} {l:Addr} {zs:List V},sJ b X.K H l zs → ∀ c ∈ [z,TI,TO,i1,i2],l ≠ c:=fun {b l zs} hs c cz => I.D7 hs (hf c cz)
  have D:ZipApart z TI TO i1 i2 a b:=⟨n1.symm,n2.symm,n3.symm,n4.symm,n5,n6,n7,n8,n9,Mf,d? sx z (by simp),d? sx TO (by simp),d? sx i1 (by simp),d? sx i2 (by simp),d? sy z (by simp),d? sy TO (by simp),d? sy i1 (by simp),d? sy i2 (by simp)⟩
  refine vU (b1:=b1) (b2:=b2) D hz pq qa h1 h2 p p2 (x:=ux) (y:=uy) (by simpa using KJ) (by simpa using Pn) fun h' a1 a2 a3 a4 a5 a6 => ⟨_,rfl,?_⟩
  have hT:H s.heap.objs.size = none:=I.bI.fresh (Nat.le_refl _)
  have Ja:∀ c ∈ [z,TO,i1,i2],H c = none:=fun c cz => (hf c (by simp at cz ⊢; rcases cz with q | q | q | q <;> simp [q])).1
  have kp:∀ c o,c ∉ [z,TO,i1,i2] → s.heap.get? c = some o → h'.get? c = some o:=fun c o cz e => a6 c o (fun q => cz (by simp [q])) (fun q => cz (by simp [q])) (fun q => cz (by simp [q])) (fun q => cz (by simp [q])) e
  have qe:∀ c o,H c = some o → c ∉ [z,TO,i1,i2]:=fun c o e cz => by rw [Ja c cz] at e; cases e
  have bI:f7 X.prog X.w (upd H s.heap.objs.size (.tup [x,y])) h':=fun c o e => by
   by_cases Jb:c = s.heap.objs.size
   ·subst Jb
    rw [bT] at e
    cases e
    exact ⟨by show 2 ≤ sizeLine; decide,[ux,uy],.cons rx (.cons ry .nil),_,a5,rfl,_,rfl⟩
   ·rw [aV Jb] at e
    refine (I.bI c o e).jF (fun d v hd q => kp d v ?_ q) (fun d q => by rw [aV (aW q hT)]; exact q) fun d zs q => by rw [aV (aW q hT)]; exact q
    rcases hd with q' | q'
    ·rw [q']; exact qe c o e
    ·exact qe d _ q'
  have un:Un (eM X.stack) [z,TO,i1,i2] H (upd H s.heap.objs.size (.tup [x,y])) s.heap h' :=
   ⟨fun c o e n _ cz => kp c o cz e,fun c o e n _ cz => ⟨o.slots,kp c o cz e⟩,fun c o e n cz => by rw [aV (Nat.ne_of_lt (Heap.lt_size e))]; exact n,fun c o e cz => ⟨o,kp c o cz e⟩,
    fun c zs e => by rw [aV (aW e hT)]; exact e,fun c o u e => by rw [aV (aW e hT)]; exact e,fun c ps e => ⟨#[],by rw [aV (aW e hT),e]; simp⟩⟩
  have I1:aG X ae σ (upd H s.heap.objs.size (.tup [x,y])) { s with heap:=h' }:=I.qh rfl un bI I.bare fun c cz => by
   obtain ⟨f0,f1,f2,f3,f4,f5⟩:=hf c (by simp at cz ⊢; rcases cz with q | q | q | q <;> simp [q])
   exact ⟨f3,f1,f4,f5⟩
  have Mg:∀ c ∈ [z,TI,TO,i1,i2],c ≠ s.heap.objs.size:=fun c cz q => by
   have uJ:c < s.heap.objs.size:=by
    have FE:c = z ∨ c = TI ∨ c = TO ∨ c = i1 ∨ c = i2:=by simpa using cz
    rcases FE with r | r | r | r | r
    ·rw [r]; exact Heap.lt_size hz
    ·rw [r]; exact Heap.lt_size pq
    ·rw [r]; exact Heap.lt_size qa
    ·obtain ⟨o,_,_,e,_⟩:=h1.there; rw [r]; exact Heap.lt_size e
    ·obtain ⟨o,_,_,e,_⟩:=h2.there; rw [r]; exact Heap.lt_size e
   exact absurd uJ (by rw [q]; exact Nat.lt_irrefl _)
  have Jc:∀ c ∈ [z,TI,TO,i1,i2],(upd H s.heap.objs.size (.tup [x,y])) c = none:=fun c cz => by rw [aV (Mg c cz)]; exact (hf c cz).1
  refine wpAny_letOwnedTupleGo_zip a1 fun B6 Mi sb => ?_
  obtain ⟨f0,f1,f2,f3,f4,f5⟩:=fz
  have I2:aG X ae σ (upd H s.heap.objs.size (.tup [x,y])) { s with heap:=B6 }:=I1.turned (s:={ s with heap:=h' }) (t':=s.toks) (it:=z) (fun c o cz e => (sb.2 c cz).trans e) (Jc z (by simp)) f1 f3 f4 f5
  refine ⟨.ref s.heap.objs.size,_,I2,rfl,⟨_,x,y,rfl,hT,rfl,fun zs hs => by rw [I.uK hs sx]; exact ex,fun zs hs => by rw [I.uK hs sy]; exact ey⟩,⟨Mi,?_,⟨_,_,sb.extBut _ _ n2.symm a2⟩,a3.keep fun o e => sb.extBut _ o n3.symm e,a4.keep fun o e => sb.extBut _ o n4.symm e⟩,Jc⟩
  exact sb.extBut _ _ n1.symm (a6 _ _ n1.symm n5 n6 n7 pq)
 done:=by
  intro X hP hw hK hc i ae s σ H E I hf st hg
  subst hP hw hK
  obtain ⟨hz,pq,⟨u,v,qa⟩,h1,h2⟩:=st
  obtain ⟨xs,ys,sx,sy,hl⟩:=hg
  obtain ⟨aA,rv,p,_⟩:=I.HH sx
  obtain ⟨de,KI,p2,_⟩:=I.HH sy
  have l1:=rv.length
  have l2:=KI.length
  obtain ⟨n1,n2,n3,n4,n5,n6,n7,n8,n9,Mf⟩:=ne
  have d?:∀ {b:Bool} {l:Addr} {zs:List V},sJ b X.K H l zs → ∀ c ∈ [z,TI,TO,i1,i2],l ≠ c:=fun {b l zs} hs c cz => I.D7 hs (hf c cz)
  have D:ZipApart z TI TO i1 i2 a b:=⟨n1.symm,n2.symm,n3.symm,n4.symm,n5,n6,n7,n8,n9,Mf,d? sx z (by simp),d? sx TO (by simp),d? sx i1 (by simp),d? sx i2 (by simp),d? sy z (by simp),d? sy TO (by simp),d? sy i1 (by simp),d? sy i2 (by simp)⟩
  refine yt (b1:=b1) (b2:=b2) (I.ok.hd hc) D hz pq qa h1 h2 p p2 (by rcases hl with q | q; exact .inl (by simp; lia); exact .inr (by simp; lia)) fun h' a6 => ⟨rfl,?_⟩
  have Ja:∀ c ∈ [z,TO,i1,i2],H c = none:=fun c cz => (hf c (by simp at cz ⊢; rcases cz with q | q | q | q <;> simp [q])).1
  have kp:∀ c o,c ∉ [z,TO,i1,i2] → s.heap.get? c = some o → h'.get? c = some o:=fun c o cz e => a6 c o (fun q => cz (by simp [q])) (fun q => cz (by simp [q])) (fun q => cz (by simp [q])) (fun q => cz (by simp [q])) e
  have qe:∀ c o,H c = some o → c ∉ [z,TO,i1,i2]:=fun c o e cz => by rw [Ja c cz] at e; cases e
  have bI:f7 X.prog X.w H h':=fun c o e => by
   refine (I.bI c o e).jF (fun d v hd q => kp d v ?_ q) (fun d q => q) fun d zs q => q
   rcases hd with q' | q'
   ·rw [q']; exact qe c o e
   ·exact qe d _ q'
  have un:Un (eM X.stack) [z,TO,i1,i2] H H s.heap h' :=
   ⟨fun c o e n _ cz => kp c o cz e,fun c o e n _ cz => ⟨o.slots,kp c o cz e⟩,fun c o e n cz => n,fun c o e cz => ⟨o,kp c o cz e⟩,fun c zs e => e,fun c o u e => e,fun c ps e => ⟨#[],by rw [e]; simp⟩⟩
  exact I.qh rfl un bI I.bare fun c cz => by
   obtain ⟨f0,f1,f2,f3,f4,f5⟩:=hf c (by simp at cz ⊢; rcases cz with q | q | q | q <;> simp [q])
   exact ⟨f3,f1,f4,f5⟩
 self:=fun _ _ _ _ _ st h => wpAny_pyIter_zip st.1 h
section
variable {X:Cx} {elts:List Expr} {kt:Nat} {tp p pos:Pos}
noncomputable def Mj (K:PySem.W.Frag) (b1 b2:Bool) (ta:TA):TI:=fun σ H R => ta σ H fun vs H1 => ∃ a b,vs = [.ref a,.ref b] ∧ (∃ xs,sJ b1 K H1 a xs) ∧ (∃ ys,sJ b2 K H1 b ys) ∧ R (Ob K b1 b2 a b) H1
theorem FF (b1 b2:Bool) {ea eb:Expr} {ta:TA} (hg:Gl X "zip") (hm:X.mg "zip" = none) (ha:PA X [ea,eb] ta) (hs:starEach [ea,eb] X.env = [(false,eval ea X.env),(false,eval eb X.env)]:=by rfl) (fP:starEach [eb] X.env = [(false,eval eb X.env)]:=by rfl) :
  PI X (.Tuple elts kt tp) (.Call (.Name "zip" p) [ea,eb] [] pos) (Mj X.K b1 b2 ta):=by
 intro ae s σ H R I h
 refine Call_ (gH I hg hm boot_zip (PyProof.Rows.callWith_type1 (bF (ha pos ae s σ H _ I h) fun us s1 ⟨vs,H1,I1,r1,q1⟩ => ?_) (by rw [hs,fP]) (by rw [fP]; rfl)))
 obtain ⟨a,b,e,⟨xs,sx⟩,⟨ys,sy⟩,q⟩:=q1
 subst e
 obtain ⟨u,u2,rfl,ru,Mk⟩:=vals2 r1
 cases ru
 cases Mk
 obtain ⟨aA,rv,p1,_⟩:=I1.HH sx
 obtain ⟨de,KI,p2,_⟩:=I1.HH sy
 refine yw (b1:=b1) (b2:=b2) p1 p2 fun h' hz pq qa g1 g2 kp => wpAny_pyIter_zip hz ?_
 have I2:aG X ae σ H1 { s1 with heap:=h' }:=I1.kept (t':=s1.toks) kp
 refine ⟨_,[s1.heap.objs.size + 4,s1.heap.objs.size + 2,s1.heap.objs.size + 3,s1.heap.objs.size,s1.heap.objs.size + 1],_,_,H1,rfl,I2,yx (b1:=b1) (b2:=b2) a b ?_,⟨hz,pq,⟨_,_,qa⟩,g1,g2⟩,fun c hc => ?_,q⟩
 ·refine ⟨?_,?_,?_,?_,?_,?_,?_,?_,?_,?_⟩ <;> (intro z; have z':(_:Nat) = _:=z; lia)
 ·have hle:s1.heap.objs.size ≤ c:=by
   have cz:c = s1.heap.objs.size + 4 ∨ c = s1.heap.objs.size + 2 ∨ c = s1.heap.objs.size + 3 ∨ c = s1.heap.objs.size ∨ c = s1.heap.objs.size + 1:=by simpa using hc
   rcases cz with r | r | r | r | r <;> (rw [r]; first | exact Nat.le_refl _ | exact Nat.le_add_right _ _)
  exact I1.vD hle (I1.bI.fresh hle)
end
end L2
namespace L2
open PySem PySem.Spec PyProof.Rows
theorem bU.there {P:Program} {w:World} {H:Hp} {h:Heap} {a:Addr} {o:HO} (x:bU P w H h a o):∃ ob,h.get? a = some ob:=by
 cases o with
 | lst xs => obtain ⟨_,_,_,_,e⟩:=x; exact ⟨_,e⟩
 | tup xs => obtain ⟨_,_,_,ob,e,_⟩:=x; exact ⟨_,e⟩
 | dK aH => obtain ⟨_,_,_,_,o,_,_,e,_⟩:=x; exact ⟨_,e⟩
 | dT aH => obtain ⟨_,_,_,_,o,_,_,e,_⟩:=x; exact ⟨_,e⟩
 | set S n => obtain ⟨o,_,_,_,e,_⟩:=x; exact ⟨_,e⟩
 | ins C dx fs => obtain ⟨_,_,_,e,_⟩:=x; exact ⟨_,e⟩
 | own y => obtain ⟨_,e⟩:=x; exact ⟨_,e⟩
 | xd fs => obtain ⟨_,⟨_,_,_,e,_⟩,_⟩:=x; exact ⟨_,e⟩
 | Kl lo hi => obtain ⟨_,_,_,e⟩:=x; exact ⟨_,e⟩
 | iJ ob u => obtain ⟨e,_⟩:=x; exact ⟨_,e⟩
 | Ba ps => exact ⟨_,(show h.get? a = some _ from x)⟩
 | met f y => exact ⟨_,(show h.get? a = some _ from x)⟩
 | ext φ => obtain ⟨_,e,_⟩:=x; exact e
structure Oc (P:Program) (w:World) (l:List Env) (H H':Hp) (s s':Shared) (ea:Addr) (cls:Value):Prop where
 os:s'.os = s.os
 bare:AllBare s'.gens
 un:Un (eM l) [] H H' s.heap s'.heap
 bI:f7 P w H' s'.heap
 fl:∃ (B:Heap) (t:Addr),Heap.FlyingW B l ea cls (.ref t) s'.heap ∧ (∀ b,H' b ≠ none → ∃ o,B.get? b = some o) ∧ (∀ b o,s.heap.get? b = some o → b ∉ eM l → ∃ o',B.get? b = some o')
noncomputable def i9 (P:Program) (w:World):r0:=fun outer H s E e s' => ∃ ea cls H',e = .ref ea ∧ Oc P w outer H H' s s' ea cls ∧ E cls none H'
section
variable {P:Program} {w:World} {K:PySem.W.Frag} {mg:Str → Option Value} {base:Heap} {N:List Str} {qual:Str} {scope:Scope} {f:Addr} {cd:Value} {A:Around} {outer:List Env} {s₀:Shared} {H₀:Hp} {E:XK}
theorem qB {env:Env} {L:Addr} (hf:env.frame = some L) (l:List Env):eM (env :: l) = L :: eM l:=by
 unfold eM
 rw [List.filterMap_cons,hf]
theorem vV {ae:List (Addr × Obj)} {σ:St} {H:Hp} {s:Shared} {h':Heap} {e:Addr} {cls:Value} {vs:List Value} (I:aG (fE (i9 P w) P w K mg base N qual scope f cd A outer s₀ H₀ E) ae σ H s)
  (hx:Heap.MadeExcOf s.heap h' e cls vs) (hE:E cls none H):(fE (i9 P w) P w K mg base N qual scope f cd A outer s₀ H₀ E).xe (.ref e) { s with heap:=h' }:=by
 have xN:=I.stack
 have uw:=I.oX
 have Jd:(A.deeper (envOfC qual scope s₀.heap.objs.size f cd)).frames = some (envOfC qual scope s₀.heap.objs.size f cd :: outer):=I.ok.frames
 have Je:eM (envOfC qual scope s₀.heap.objs.size f cd :: outer) = s₀.heap.objs.size :: eM outer:=qB rfl outer
 have D8:∀ env ∈ (envOfC qual scope s₀.heap.objs.size f cd :: outer),∀ b,env.frame = some b → b ∈ eM (envOfC qual scope s₀.heap.objs.size f cd :: outer):=fun env he b hb => List.mem_filterMap.mpr ⟨env,he,hb⟩
 have D9:∀ b o,s₀.heap.get? b = some o → b ∉ eM outer → b ∉ eM (envOfC qual scope s₀.heap.objs.size f cd :: outer):=fun b o q hb hm => by
  rw [Je] at hm
  rcases List.mem_cons.mp hm with z | z
  ·exact absurd (Heap.lt_size q) (by rw [z]; exact Nat.lt_irrefl _)
  ·exact hb z
 refine wpAny_leaves_madeW (base:=PySem.W.hideAll s.heap (eM (envOfC qual scope s₀.heap.objs.size f cd :: outer))) (h:=s.heap) Jd rfl (fun b o q => PySem.W.of_hideAll _ q) (PySem.W.funFrames_hide xN D8) hx fun B6 t fl _ _ up => ?_
 have stays:∀ b o,s.heap.get? b = some o → b ∉ eM (envOfC qual scope s₀.heap.objs.size f cd :: outer) → B6.get? b = some o:=fun b o q hb => fl.1 b o (PySem.W.hideAll_get _ q hb)
 have qe:∀ b u,H b = some u → b ∉ eM (envOfC qual scope s₀.heap.objs.size f cd :: outer):=fun b u q hb => by rw [uw b hb] at q; cases q
 have slot:∀ b o,s₀.heap.get? b = some o → H₀ b = none → b ∈ eM outer → ∃ sl,B6.get? b = some { o with slots:=sl }:=fun b o q n hb => by
  obtain ⟨sl,e1⟩:=I.base.slot b o q n hb (by intro z; cases z)
  obtain ⟨_,o',lH,B7⟩:=xN.mem (show b ∈ eM (envOfC qual scope s₀.heap.objs.size f cd :: outer) by rw [Je]; exact List.mem_cons_of_mem _ hb)
  rw [e1] at lH
  cases lH
  obtain ⟨DS,e2⟩:=up b _ (hx.keeps _ _ e1) B7
  exact ⟨DS,e2⟩
 have nil:∀ b:Addr,b ∉ (fE (i9 P w) P w K mg base N qual scope f cd A outer s₀ H₀ E).ex:=fun b z => by cases z
 refine ⟨e,cls,H,rfl,⟨I.os,I.bare,⟨fun b o q n hb _ => stays b o (I.base.keep b o q n hb (nil b)) (D9 b o q hb),fun b o q n hb _ => slot b o q n hb,fun b o q n _ => I.base.free b o q n (nil b),fun b o q _ => ?_,I.base.iL,I.base.ik,I.base.i_⟩,fun b u q => ?_,PySem.W.hideAll s.heap (eM (envOfC qual scope s₀.heap.objs.size f cd :: outer)),t,fl,fun b hb => ?_,fun b o q hb => ?_⟩,hE⟩
 ·by_cases hb:b ∈ eM outer
  ·obtain ⟨sl,e1⟩:=slot b o q (I.ok.xM b hb) hb
   exact ⟨_,e1⟩
  ·obtain ⟨o',e1⟩:=I.base.there b o q (nil b)
   exact ⟨o',stays b o' e1 (D9 b o q hb)⟩
 ·refine (I.bI b u q).jF (fun c v hc z => stays c v z ?_) (fun _ z => z) fun _ _ z => z
  rcases hc with z' | z'
  ·rw [z']; exact qe b u q
  ·exact qe c _ z'
 ·cases q:H b with
  | none => exact absurd q hb
  | some u =>
   obtain ⟨o,e1⟩:=(I.bI b u q).there
   exact ⟨o,PySem.W.hideAll_get _ e1 (qe b u q)⟩
 ·obtain ⟨o',e1⟩:=I.base.there b o q (nil b)
  exact ⟨o',PySem.W.hideAll_get _ e1 (D9 b o q hb)⟩
theorem yy:Passes (i9 P w) (fE (i9 P w) P w K mg base N qual scope f cd A outer s₀ H₀ E) E:=by
 rintro ae σ H s e s' I ⟨ea,cls,H',rfl,Z,hE⟩
 obtain ⟨B,t,fl,ct,cs⟩:=Z.fl
 have Jd:(A.deeper (envOfC qual scope s₀.heap.objs.size f cd)).frames = some (envOfC qual scope s₀.heap.objs.size f cd :: outer):=I.ok.frames
 have Je:eM (envOfC qual scope s₀.heap.objs.size f cd :: outer) = s₀.heap.objs.size :: eM outer:=qB rfl outer
 have D9:∀ b o,s₀.heap.get? b = some o → b ∉ eM outer → b ∉ eM (envOfC qual scope s₀.heap.objs.size f cd :: outer):=fun b o q hb hm => by
  rw [Je] at hm
  rcases List.mem_cons.mp hm with z | z
  ·exact absurd (Heap.lt_size q) (by rw [z]; exact Nat.lt_irrefl _)
  ·exact hb z
 have sub:∀ b,b ∈ eM outer → b ∈ eM (envOfC qual scope s₀.heap.objs.size f cd :: outer):=fun b hb => by rw [Je]; exact List.mem_cons_of_mem _ hb
 have nil:∀ b:Addr,b ∉ (fE (i9 P w) P w K mg base N qual scope f cd A outer s₀ H₀ E).ex:=fun b z => by cases z
 refine wpAny_leaves_onW Jd rfl fl fun B6 Ml up => ?_
 have B8:∀ b o,s'.heap.get? b = some o → (∃ o',B.get? b = some o') → B6.get? b = some o:=fun b o q ⟨o',z⟩ => by
  have q':=fl.1 b o' z
  rw [q] at q'
  cases q'
  exact Ml.1 b o z
 have slot:∀ b o,s₀.heap.get? b = some o → H₀ b = none → b ∈ eM outer → ∃ sl,B6.get? b = some { o with slots:=sl }:=fun b o q n hb => by
  obtain ⟨sl,e1⟩:=I.base.slot b o q n hb (nil b)
  obtain ⟨DZ,e2⟩:=Z.un.slot b _ e1 (I.base.free b o q n (nil b)) (sub b hb) (by intro z; cases z)
  obtain ⟨_,o',lH,B7⟩:=fl.2.2.1.mem (sub b hb)
  rw [e2] at lH
  cases lH
  obtain ⟨DS,e3⟩:=up b _ e2 B7
  exact ⟨DS,e3⟩
 refine ⟨ea,cls,H',rfl,⟨Z.os.trans I.os,Z.bare,⟨fun b o q n hb _ => ?_,fun b o q n hb _ => slot b o q n hb,fun b o q n _ => ?_,fun b o q _ => ?_,fun b xs q => Z.un.iL b xs (I.base.iL b xs q),fun b o u q => Z.un.ik b o u (I.base.ik b o u q),fun b ps q => ?_⟩,fun b u q => ?_,B,t,Ml,ct,fun b o q hb => ?_⟩,hE⟩
 ·have e1:=I.base.keep b o q n hb (nil b)
  have n1:=I.base.free b o q n (nil b)
  have nf:=D9 b o q hb
  exact B8 b o (Z.un.keep b o e1 n1 nf (by intro z; cases z)) (cs b o e1 nf)
 ·obtain ⟨o',e1⟩:=I.base.there b o q (nil b)
  exact Z.un.free b o' e1 (I.base.free b o q n (nil b)) (by intro z; cases z)
 ·by_cases hb:b ∈ eM outer
  ·obtain ⟨sl,e1⟩:=slot b o q (I.ok.xM b hb) hb
   exact ⟨_,e1⟩
  ·obtain ⟨o',e1⟩:=I.base.there b o q (nil b)
   obtain ⟨o2,e2⟩:=cs b o' e1 (D9 b o q hb)
   exact ⟨o2,Ml.1 b o2 e2⟩
 ·obtain ⟨m1,e1⟩:=I.base.i_ b ps q
  obtain ⟨m2,e2⟩:=Z.un.i_ b _ e1
  exact ⟨m1 ++ m2,by rw [e2,Array.append_assoc]⟩
 ·refine (Z.bI b u q).jF (fun c v hc z => B8 c v z (ct c ?_)) (fun _ z => z) fun _ _ z => z
  rcases hc with z' | z'
  ·rw [z',q]; simp
  ·rw [z']; simp
 ·obtain ⟨o',e1⟩:=I.base.there b o q (nil b)
  exact cs b o' e1 (D9 b o q hb)
theorem Bh.Po {x:Str} {st:Stmt} {fd:FuncData} {ps:List Str} {k:Nat} {sp:Sp} (F:Bh K x qual st f fd) (S:dD N ps (aN st)) (len:∀ vs H Q E,sp vs H Q E → vs.length = ps.length)
  (qo:∀ (dc:Value) (A:Around) (outer:List Env) (s:Shared) (H:Hp) (vs:List V) (Q:VK) (E:XK),dJ k (A.deeper (envOfC qual (aN st) s.heap.objs.size f dc)) → sp vs H Q E →
   ∃ t,gG (fE (i9 P w) P w K mg base N qual (aN st) f dc A outer s H E) (cK st) t ∧ t { nx:=fun _ H' => Q .cB H',rt:=Q } (start N vs) H):gJ P w K mg base (i9 P w) (k + 1) f fd ps sp:=by
 obtain ⟨oc,od,kV,doc,pm,an,dc,ct,vK,rfl,lk,nN⟩:=F.ex
 exact IC lk nN S len fun A outer s H vs Q E hr DY => qo dc A outer s H vs Q E hr DY
end
theorem vW {K:PySem.W.Frag} {h:Heap} {mg:Str → Option Value} {x:Str} {C:Addr} {Od:List Value} {newId:String} (X:K.In h) (hb:mg x = some (.ref C)) (q:PySem.W.excIn K C Od newId = true):OwnCls x C Od newId mg h:=by
 refine ⟨hb,?_⟩
 unfold PySem.W.excIn at q
 split at q
 ·rename_i dd cd sl ho
  split at q
  ·rename_i C' bm k0 k1 k2 k3 n k5 hm hs
   simp only [Bool.and_eq_true,beq_iff_eq,Bool.not_eq_true'] at q
   obtain ⟨⟨⟨⟨⟨rfl,rfl⟩,Jf⟩,ht⟩,bI⟩,KL⟩:=q
   obtain ⟨nm,bs,mro,ns,qn,hd,sn,sub,ab,col,del⟩:=cd
   dsimp only at hm Jf bI KL
   subst hm Jf
   have Pp:sl = #[k0,k1,k2,k3,some (.builtin n),k5]:=by
    obtain ⟨l⟩:=sl
    simp only at hs
    rw [hs]
   subst Pp
   exact ⟨bm,ns,nm,qn,bs,hd,sn,sub,ab,col,dd,k0,k1,k2,k3,k5,_,X _ _ ho,.of_isNs (PySem.W.isNs_of_in X bI),PySem.W.nsMap_none_of_in X bI KL,PySem.W.tail_of_in X ht⟩
  ·cases q
 ·cases q
noncomputable def FG (E:XK) (C:Addr) (t:TA):TS:=fun _ σ H => t σ H fun vs H1 => vs.length ≤ sizeLine ∧ E (.ref C) none H1
noncomputable def Raises (X:Cx) (E:XK):Prop:=∀ (ae:List (Addr × Obj)) (σ:St) (H:Hp) (s:Shared) (h':Heap) (e:Addr) (cls:Value) (vs:List Value),aG X ae σ H s → Heap.MadeExcOf s.heap h' e cls vs → E cls none H → X.xe (.ref e) { s with heap:=h' }
theorem yz {X:Cx} {E:XK} {x:Str} {C:Addr} {B newId sL:String} {bm:List Value} {np bC pos:Pos} {e₀:Expr} {rest:List Expr} {t:TA} (hX:Raises X E) (hc:X.calm = true) (hm:X.mg x = some (.ref C)) (hq:PySem.W.excIn X.K C bm newId = true) (FB:ExcBaseFacts B newId sL bm) (hg:Gl X x) (ha:PA X (e₀ :: rest) t)
  (he:starEach (e₀ :: rest) X.env = (false,eval e₀ X.env) :: starEach rest X.env:=by rfl) (hV:(backTo bC (starEach rest X.env)).any (·.1) = false:=by rfl) (hd:(x == ("__debug__":Str)) = false:=by decide) :
  PS X (.Raise (some (.Call (.Name x np) (e₀ :: rest) [] bC)) none pos) (FG E C t):=by
 intro ae s σ H D I h
 obtain ⟨tl,NS,nm,q,bs,hdct,sn,sub,ab,col,dd,k0,k1,k2,k3,k5,mN,hC,hN,KL,T⟩:=(vW I.mod.DQ hm hq).obj
 refine wpAny_Raise_call_subT (C:=C) (nm:=nm) (q:=q) (N:=NS) (bs:=bs) (bm:=tl) (hdct:=hdct) (sn:=sn) (sub:=sub) (ab:=ab) (col:=col) (dd:=dd) (k0:=k0) (k1:=k1) (k2:=k2) (k3:=k3) (k5:=k5)
  FB (mN:=mN) (T.hasType FB.hasBase) (I.ok.hd hc) (by rw [he]; show (false || (backTo bC (starEach rest X.env)).any (·.1)) = false; rw [hV]; rfl) KL (hJ I hg hm ⟨rfl,?_⟩ hd)
 have hA:=ha bC ae s σ H _ I h
 rw [he] at hA ⊢
 exact Calls.evalArgs_plain (bF hA fun us s2 ⟨vs,H2,I2,r2,z,q2⟩ => ⟨rfl,by rw [← r2.length]; exact z,I2.bk _ _ hC,hN.keeps I2.bk,T.keeps I2.bk,fun h' e Pq => hX ae σ H2 s2 h' e _ _ I2 Pq q2⟩)
end L2
namespace L2
open PySem PySem.Spec PyProof.Rows
structure DefX (X:Cx):Prop where
 fn:∀ y,X.fn y = true
 Bb:X.stack = X.env :: X.outer
 fr:X.env.frame = some X.env.locals
structure qC (X:Cx) (ae:List (Addr × Obj)) (σ:St) (H:Hp) (s:Shared) (ea:Addr) (cls:Value):Prop where
 inv:aG X ae σ H s
 fl:∃ (B:Heap) (t:Addr),Heap.FlyingW B X.stack ea cls (.ref t) s.heap ∧ (∀ b,H b ≠ none → ∃ o,B.get? b = some o) ∧ (∀ b o,X.s₀.heap.get? b = some o → b ∉ eM X.stack → b ∉ X.ex → ∃ o',B.get? b = some o') ∧ (∀ p ∈ X.pn ++ ae,∃ o',B.get? p.1 = some o') ∧ (∀ x c,X.env.cells.lookup x = some c → ∃ o,B.get? c = some o)
section
variable {X:Cx} {ae:List (Addr × Obj)} {σ:St} {H H':Hp} {s s':Shared} {ea:Addr} {cls:Value}
theorem aG.B9 (I:aG X ae σ H s) {b:Addr} (h1:b ≠ X.env.locals) (h2:b ∉ X.fs):b ∉ eM X.stack:=fun z => (List.mem_cons.mp (I.jG b z)).elim h1 h2
theorem aG.slots {B h':Heap} (I:aG X ae σ H s) (sB:B.StaysIn s.heap) (c1:∀ b,H b ≠ none → ∃ o,B.get? b = some o) (c2:∀ b o,X.s₀.heap.get? b = some o → b ∉ eM X.stack → b ∉ X.ex → ∃ o',B.get? b = some o') (c3:∀ p ∈ X.pn ++ ae,∃ o',B.get? p.1 = some o')
  (c4:∀ x c,X.env.cells.lookup x = some c → ∃ o,B.get? c = some o) (k1:B.StaysIn h') (k2:s.heap.UpToSlots h'):aG X ae σ H { s with heap:=h' }:=by
 have B8:∀ b o,s.heap.get? b = some o → (∃ o',B.get? b = some o') → h'.get? b = some o:=fun b o q ⟨o',z⟩ => by
  have q':=sB b o' z
  rw [q] at q'
  cases q'
  exact k1 b o z
 have xT:∀ b o,X.s₀.heap.get? b = some o → b ≠ X.env.locals:=fun b o e => Nat.ne_of_lt (Nat.lt_of_lt_of_le (Heap.lt_size e) I.ok.above)
 have slot:∀ b o,X.s₀.heap.get? b = some o → X.H₀ b = none → b ∈ X.fs → b ∉ X.ex → ∃ sl,h'.get? b = some { o with slots:=sl }:=fun b o q n hb hx => by
  obtain ⟨sl,e1⟩:=I.base.slot b o q n hb hx
  obtain ⟨_,o',lH,B7⟩:=I.gF.mem hb
  rw [e1] at lH
  cases lH
  obtain ⟨DS,e2⟩:=k2 b _ e1 B7
  exact ⟨DS,e2⟩
 refine ⟨I.ok,I.os,I.bare,⟨fun b o q n hb hx => ?_,slot,I.base.free,fun b o q hx => ?_,I.base.iL,I.base.ik,I.base.i_⟩,?_,fun x c e => ?_,I.free,I.eZ,fun p hp => ?_,fun b u q => ?_,I.len⟩
 ·exact B8 b o (I.base.keep b o q n hb hx) (c2 b o q (I.B9 (xT b o q) hb) hx)
 ·by_cases hb:b ∈ X.fs
  ·obtain ⟨sl,e1⟩:=slot b o q (I.ok.xM b hb) hb hx
   exact ⟨_,e1⟩
  ·obtain ⟨o',e1⟩:=I.base.there b o q hx
   exact ⟨o',B8 b o' e1 (c2 b o q (I.B9 (xT b o q) hb) hx)⟩
 ·obtain ⟨m,hn,hl⟩:=I.loc
  refine ⟨m,k2.ns hn,fun i x v e1 e2 e3 => ?_⟩
  obtain ⟨u,r,l⟩:=hl i x v e1 e2 e3
  refine ⟨u,r,?_⟩
  rcases l with l | ⟨k,c,e,o,ho,hd⟩
  ·exact .inl l
  ·exact .inr ⟨k,c,e,o,B8 c o ho (c4 x c e),hd⟩
 ·obtain ⟨v,o,ho,hd⟩:=I.cell x c e
  exact ⟨v,o,B8 c o ho (c4 x c e),hd⟩
 ·obtain ⟨e,n,ne,nf,d⟩:=I.pin p hp
  exact ⟨B8 p.1 p.2 e (c3 p hp),n,ne,nf,d⟩
 ·refine (I.bI b u q).jF (fun c v hc z => B8 c v z (c1 c ?_)) (fun _ z => z) fun _ _ z => z
  rcases hc with z' | z'
  ·rw [z',q]; simp
  ·rw [z']; simp
theorem qC.slots (J:qC X ae σ H s ea cls):∃ (B:Heap) (t:Addr),Heap.FlyingW B X.stack ea cls (.ref t) s.heap ∧ H ea = none ∧ ∀ h',Heap.FlyingW B X.stack ea cls (.ref t) h' → s.heap.UpToSlots h' → qC X ae σ H { s with heap:=h' } ea cls:=by
 obtain ⟨B,t,fl,c1,c2,c3,c4⟩:=J.fl
 refine ⟨B,t,fl,?_,fun h' f2 up => ⟨J.inv.slots fl.1 c1 c2 c3 c4 f2.1 up,B,t,f2,c1,c2,c3,c4⟩⟩
 cases q:H ea with
 | none => rfl
 | some u =>
  obtain ⟨o,e⟩:=c1 ea (by rw [q]; simp)
  rw [fl.2.1] at e
  cases e
theorem aG.flew (I:aG X ae σ H s) (xV:∀ y,X.fn y = true) (Z:Oc X.prog X.w X.stack H H' s s' ea cls):qC X ae σ H' s' ea cls:=by
 obtain ⟨B,t,fl,ct,cs⟩:=Z.fl
 have cl:∀ x c,X.env.cells.lookup x = some c → c ∉ eM X.stack:=fun x c e => I.B9 (I.Bd x c e) fun hb => by
  obtain ⟨_,o,ho,_⟩:=I.ok.gF.mem hb
  exact absurd (Nat.lt_of_lt_of_le (Heap.lt_size ho) (I.ok.DR x c (xV x) e)) (Nat.lt_irrefl _)
 refine ⟨I.qh Z.os Z.un Z.bI Z.bare fun b z => absurd z (by simp),B,t,fl,ct,fun b o q hb hx => ?_,fun p hp => ?_,fun x c e => ?_⟩
 ·obtain ⟨o',e1⟩:=I.base.there b o q hx
  exact cs b o' e1 hb
 ·obtain ⟨e,n,ne,nf,d⟩:=I.pin p hp
  exact cs p.1 p.2 e (I.B9 ne nf)
 ·obtain ⟨v,o,ho,_⟩:=I.cell x c e
  exact cs c o ho (cl x c e)
end
noncomputable abbrev EK:=Value → Addr → St → Hp → Prop
noncomputable abbrev EH:=Value → Addr → Hp → Prop
noncomputable abbrev HI:=St → Hp → VK → EH → Prop
noncomputable abbrev Bj:=Ends → EK → St → Hp → Prop
noncomputable def XP (X:Cx) (ae:List (Addr × Obj)) (EX:EK) (e:Value) (s':Shared):Prop:=∃ ea cls σ' H',e = .ref ea ∧ qC X ae σ' H' s' ea cls ∧ EX cls ea σ' H'
noncomputable abbrev atS (σ:St) (EX:EH):EK:=fun cls ea σ' H' => σ' = σ ∧ EX cls ea H'
noncomputable def sM (X:Cx) (e:Expr) (t:HI):Prop :=
 ∀ (ae:List (Addr × Obj)) (s:Shared) (σ:St) (H:Hp) (Q:VK) (EX:EH),aG X ae σ H s → t σ H Q EX → wpAny (model X.prog X.w) X.A (eval e X.env) (EP X ae σ Q) (XP X ae (atS σ EX)) s
noncomputable def qD (X:Cx) (st:Stmt) (t:Bj):Prop :=
 ∀ (ae:List (Addr × Obj)) (s:Shared) (σ:St) (H:Hp) (D:Ends) (EX:EK),aG X ae σ H s → t D EX σ H → wpAny (model X.prog X.w) X.A (exec st X.env) (SP X ae D) (XP X ae EX) s
noncomputable def gC (X:Cx) (st:List Stmt) (t:Bj):Prop :=
 ∀ (ae:List (Addr × Obj)) (s:Shared) (σ:St) (H:Hp) (D:Ends) (EX:EK),aG X ae σ H s → t D EX σ H → wpAny (model X.prog X.w) X.A (execs st X.env) (SP X ae D) (XP X ae EX) s
section
variable {X:Cx}
theorem FH {e:Expr} {t:TE} (h:∀ W,PE (X.gI W) e t):sM X e (fun σ H Q _ => t σ H Q):=fun ae s σ H Q EX I hw =>
 bF (h (XP X ae (atS σ EX)) ae s σ H Q (I.gI _) hw) fun _ _ ⟨v,H',I',r,q⟩ => ⟨v,H',I'.iM,r,q⟩
theorem XP.at {ae:List (Addr × Obj)} {σ:St} {EX:EK} {e:Value} {s':Shared} (h:XP X ae (atS σ fun cls ea H' => EX cls ea σ H') e s'):XP X ae EX e s':=by
 obtain ⟨ea,cls,σ',H',rfl,J,rfl,q⟩:=h
 exact ⟨ea,cls,_,H',rfl,J,q⟩
noncomputable def FI (sp:Sp) (t:TA):HI:=fun σ H Q EX => t σ H fun vs H1 => sp vs H1 Q fun cls _ H' => ∀ ea,EX cls ea H'
theorem yA {k:Nat} {f:Addr} {fd:FuncData} {ps:List Str} {sp:Sp} {x:Str} {p pos:Pos} {e:Expr} {es:List Expr} {t:TA} (F:gJ X.prog X.w X.K X.mg X.base (i9 X.prog X.w) k f fd ps sp) (hr:dJ k X.A) (hg:Gl X x) (hm:X.mg x = some (.ref f)) (hk:PySem.W.keepIn X.K (.ref f) = true) (hb:Binds X.K fd ps []) (xV:∀ y,X.fn y = true)
  (ha:∀ W,PA (X.gI W) (e :: es) t) (kK:(x == ("__debug__":Str)) = false:=by decide) (he:starEach (e :: es) X.env = (false,eval e X.env) :: starEach es X.env:=by rfl) (hV:(backTo pos (starEach es X.env)).any (·.1) = false:=by rfl) :
  sM X (.Call (.Name x p) (e :: es) [] pos) (FI sp t):=by
 intro ae s σ H Q EX I h
 refine wpAny_Call_Name_kw (hJ I hg hm ?_ kK)
 refine PySem.W.callWith_K (h₀:=X.base) I.ok.mod.DQ hk (bF (ha (XP X ae (atS σ EX)) pos ae s σ H _ (I.gI _) h) fun us s1 ⟨vs,H1,I1,r,q⟩ => ⟨I1.iM.lG,?_⟩) he hV
 have I2:=I1.iM
 have hl:(us ++ []).length = ps.length:=by rw [List.append_nil,← r.length]; exact F.len _ _ _ _ q
 have Oe:=hb s1 us I2.lG hl
 rw [List.append_nil] at Oe
 refine wpAny_call (codeAny_mono (F.run X.A X.stack s1 H1 ⟨us,[]⟩ us vs Q _ hr I2.E! Oe r q) fun r s' hq => ?_)
 cases r with
 | error e =>
  obtain ⟨ea,cls,H',rfl,Z,hE⟩:=hq
  exact ⟨ea,cls,σ,H',rfl,I2.flew xV Z,rfl,hE ea⟩
 | ok fl =>
  cases fl with
  | ret u => exact I2.after hq
  | next => exact False.elim hq
  | brk => exact False.elim hq
  | cont => exact False.elim hq
theorem yB {e:Expr} {te:HI} {pos:Pos} (he:sM X e te) (hs:swapsWith e none pos.line X.env = pure false:=by rfl):qD X (.Expr e pos) (fun D EX σ H => te σ H (fun _ H1 => D.nx σ H1) fun cls ea H' => EX cls ea σ H'):=by
 intro ae s σ H D EX I h
 exact wpAny_Expr_any (wpAny_mono (he ae s σ H _ _ I h) (fun v s1 ⟨x,H1,I1,r1,q1⟩ => ⟨σ,H1,I1,q1⟩) fun _ _ q => q.at) I.quiet hs
theorem yC {st:Stmt} {t:Bj} (h1:qD X st t):gC X [st] t:=by
 intro ae s σ H D EX I h
 refine wpAny_execs_cons (bF (h1 ae s σ H D EX I h) fun f s1 q => ?_)
 cases f with
 | next => exact wpAny_execs_nil q
 | ret v => exact q
 | brk => exact q
 | cont => exact q
theorem vX {st:Stmt} {rest:List Stmt} {t u:Bj} (h1:qD X st t) (h2:gC X rest u):gC X (st :: rest) (fun D EX σ H => t { D with nx:=u D EX } EX σ H):=by
 intro ae s σ H D EX I h
 refine wpAny_execs_cons (bF (h1 ae s σ H { D with nx:=u D EX } EX I h) fun f s1 q => ?_)
 cases f with
 | next =>
  obtain ⟨σ',H',I',q⟩:=q
  exact h2 ae s1 σ' H' D EX I' q
 | ret v => exact q
 | brk => exact q
 | cont => exact q
theorem FJ {c:Expr} {a b:List Stmt} {tc:TT} {t u:Bj} {pos:Pos} (hc:∀ W,PT (X.gI W) c tc) (ha:gC X a t) (hb:gC X b u):qD X (.If c a b pos) (fun D EX σ H => tc σ H fun k H1 => if k = true then t D EX σ H1 else u D EX σ H1):=by
 intro ae s σ H D EX I h
 refine wpAny_If (bF (hc (XP X ae EX) ae s σ H _ (I.gI _) h) fun d s1 ⟨H1,I1,q1⟩ => ?_)
 cases d with
 | true => exact ha ae s1 σ H1 D EX I1.iM q1
 | false => exact hb ae s1 σ H1 D EX I1.iM q1
noncomputable abbrev B_:=Ends → EK → Value → Addr → St → Hp → Prop
noncomputable def PH (X:Cx) (hs:List ExceptHandler) (th:B_):Prop :=
 ∀ (ae:List (Addr × Obj)) (s:Shared) (σ:St) (H:Hp) (D:Ends) (EX:EK) (ea:Addr) (cls:Value),qC X ae σ H s ea cls → th D EX cls ea σ H → wpAny (model X.prog X.w) X.A (handleBy (.ref ea) X.env hs) (SP X ae D) (XP X ae EX) s
noncomputable def FK:B_:=fun _ _ _ _ _ _ => False
theorem FL:PH X [] FK:=fun _ _ _ _ _ _ _ _ _ h => h.elim
theorem B! {body:List Stmt} {h₀:ExceptHandler} {hs:List ExceptHandler} {tb:Bj} {th:B_} {pos:Pos} (dx:DefX X) (hb:gC X body tb) (hh:PH X (h₀ :: hs) th):qD X (.Try body (h₀ :: hs) [] [] pos) (fun D EX σ H => tb D (fun cls ea σ' H' => th D EX cls ea σ' H') σ H):=by
 intro ae s σ H D EX I h
 refine wpAny_Try_except (wpAny_mono (hb ae s σ H D _ I h) (fun f s1 q => ?_) fun e s1 q => ?_)
 ·cases f with
  | next => exact wpAny_execs_nil q
  | ret v => exact q
  | brk => exact q
  | cont => exact q
 ·obtain ⟨ea,cls,σ',H',rfl,J,hE⟩:=q
  obtain ⟨B,t,fl,hn,go⟩:=J.slots
  have Jd:X.A.frames = some (X.env :: X.outer):=by rw [← dx.Bb]; exact J.inv.ok.frames
  refine wpAny_looks_onW Jd dx.fr (by rw [← dx.Bb]; exact fl) fun h4 held Pr => ?_
  refine wpAny_landsW held fun h5 Pt Pu => ?_
  exact hh ae _ σ' H' D EX ea cls (go h5 (by rw [dx.Bb]; exact Pt) (Pr.trans Pu)) hE
theorem FO {body:List Stmt} {h₀:ExceptHandler} {hs:List ExceptHandler} {tb:Bj} {th:B_} {pos:Pos} (dx:DefX X) (hb:gC X body tb) (hh:PH X (h₀ :: hs) th) :
  PS X (.Try body (h₀ :: hs) [] [] pos) (fun D σ H => tb D (fun cls ea σ' H' => th D (fun _ _ _ _ => False) cls ea σ' H') σ H):=by
 intro ae s σ H D I h
 exact wpAny_mono (B! dx hb hh ae s σ H D (fun _ _ _ _ => False) I h) (fun _ _ q => q) fun _ _ ⟨_,_,_,_,_,_,z⟩ => z.elim
noncomputable def vY (X:Cx) (ea:Addr) (oe:Obj):Cx:={ X with A:=X.A.mark (some (.ref ea)),calm:=false,pn:=(ea,oe) :: X.pn,xe:=fun _ _ => False }
theorem qC.vY {ae:List (Addr × Obj)} {σ:St} {H:Hp} {s:Shared} {ea:Addr} {cls:Value} (J:qC X ae σ H s ea cls):∃ oe,s.heap.get? ea = some oe ∧ oe.cls = cls ∧ aG (L2.vY X ea oe) ae σ H s:=by
 obtain ⟨B,t,fl,hn,_⟩:=J.slots
 obtain ⟨oe,vs,he,hc,hd,_⟩:=fl.first
 have I:=J.inv
 have D9:∀ b ∈ eM X.stack,ea ≠ b:=fun b hb z => by
  obtain ⟨_,o,ho,B7⟩:=I.stack.mem hb
  rw [← z,he] at ho
  cases ho
  exact B7 vs hd
 have xT:ea ≠ X.env.locals:=fun z => by
  obtain ⟨m,⟨o,es,ep,ho,Of,_⟩,_⟩:=I.loc
  rw [← z,he] at ho
  cases ho
  rw [hd] at Of
  cases Of
 have L9:ea ∉ X.fs:=fun hb => by
  obtain ⟨_,o,ho,B7⟩:=I.gF.mem hb
  rw [he] at ho
  cases ho
  exact B7 vs hd
 refine ⟨oe,he,hc,⟨⟨I.ok.mod,I.ok.kind,I.ok.glob,I.ok.blt,I.ok.above,I.ok.inj,I.ok.has,I.ok.DR,fun z => (by cases z),I.ok.frames,I.ok.Bb,I.ok.Km,I.ok.bs,I.ok.Bc,I.ok.qf,I.ok.vC,I.ok.gF,I.ok.xM⟩,I.os,I.bare,I.base,I.loc,I.cell,I.free,I.eZ,fun p hp => ?_,I.bI,I.len⟩⟩
 rcases List.mem_cons.mp (show p ∈ (ea,oe) :: (X.pn ++ ae) from hp) with z | z
 ·rw [z]
  exact ⟨he,hn,xT,L9,fun v q => by rw [hd] at q; cases q⟩
 ·exact I.pin p z
theorem aG.Mn {ae:List (Addr × Obj)} {σ:St} {H:Hp} {s:Shared} {ea:Addr} {oe:Obj} (ok:X.Ok) (I:aG (L2.vY X ea oe) ae σ H s):aG X ae σ H s :=
 ⟨ok,I.os,I.bare,I.base,I.loc,I.cell,I.free,I.eZ,fun p hp => I.pin p (List.mem_cons_of_mem _ hp),I.bI,I.len⟩
end
theorem vZ {M:Model} {A:Around} {E:Value → Shared → Prop} {s:Shared} {K:PySem.W.Frag} {ea C:Addr} {oe:Obj} {b:Bool} {Q:Bool → Shared → Prop} (KX:K.In s.heap) (he:s.heap.get? ea = some oe) (h1:PySem.W.kitCls K oe.cls (.ref C) = some b) (h2:PySem.W.subIn K (.ref C) (.type "BaseException") = some true) (q:Q b s) :
  wpAny M A (excMatches (.ref ea) (.ref C)) Q E s:=by
 obtain ⟨l1,l2,l3⟩:=PySem.W.kit_cls (M:=M) KX h1
 have l4:=PySem.W.looks_subIn (M:=M) KX h2
 obtain ⟨hp,g,d,tk,os⟩:=s
 have lt:PySem.W.Looks M hp (isInstance (.ref C) (.type "tuple")) false:=l1.andThen (.of_pure tc_notTuple)
 have lx:PySem.W.Looks M hp (isExcClass (.ref C)) true:=fun A' Q' E' s' k z => by
  unfold isExcClass
  refine wpAny_bind (l2 A' _ E' s' k ?_)
  rw [if_pos rfl]
  exact l4 A' Q' E' s' k z
 have ly:PySem.W.Looks M hp (typeOf (.ref ea)) oe.cls:=fun A' Q' E' s' k z => by
  unfold typeOf
  exact wpAny_bind (wpAny_loadPart (k _ _ he) (wpAny_pure z))
 unfold excMatches
 refine wpAny_bind (lt.here ?_)
 simp only [Bool.false_eq_true,if_false,pure_bind,List.forIn_cons,List.forIn_nil,bind_assoc]
 refine wpAny_bind (lx.here ?_)
 simp only [Bool.not_true,Bool.false_eq_true,if_false,pure_bind]
 refine wpAny_bind (ly.here ?_)
 refine wpAny_bind (l3.here ?_)
 cases b with
 | true => exact wpAny_pure q
 | false => exact wpAny_pure q
section
variable {X:Cx}
theorem aG.B? {ae:List (Addr × Obj)} {σ:St} {H:Hp} {s:Shared} {i:Nat} {n:Str} {u:Option Value} {h':Heap} {m:Str → Option Value} (I:aG X ae σ H s) (hN:X.N.Nodup) (hi:X.N[i]? = some n) (hx:X.env.kindOf n = some .local) (hn:s.heap.Ns X.env.locals m)
  (hl:∀ (j:Nat) (x:Str) (v:V),X.N[j]? = some x → σ[j]? = some (some v) → Ey X.env.scope x → ∃ u,ba v u ∧ Look X.env s.heap m x u)
  (HC:h'.Ns X.env.locals (fun x => if x = n then u else m x)) (sb:Heap.SameBut X.env.locals s.heap h'):aG X ae (σ.set i none) H { s with heap:=h' }:=by
 have iσ:i < σ.length:=by rw [I.len]; exact (List.getElem?_eq_some_iff.mp hi).1
 have FQ:∀ b o,b ≠ X.env.locals → s.heap.get? b = some o → h'.get? b = some o:=fun b o hb e => (sb.2 b hb).trans e
 have xT:∀ b o,X.s₀.heap.get? b = some o → b ≠ X.env.locals:=fun b o e => Nat.ne_of_lt (Nat.lt_of_lt_of_le (Heap.lt_size e) I.ok.above)
 refine ⟨I.ok,I.os,I.bare,⟨fun b o q nn hb hx => FQ b o (xT b o q) (I.base.keep b o q nn hb hx),fun b o q nn hb hx => ?_,I.base.free,fun b o q hx => ?_,I.base.iL,I.base.ik,I.base.i_⟩,⟨_,HC,fun j x v e1 e2 e3 => ?_⟩,fun x c e => ?_,I.free,I.eZ,fun p hp => ?_,fun b w q => ?_,by rw [List.length_set]; exact I.len⟩
 ·obtain ⟨sl,e1⟩:=I.base.slot b o q nn hb hx
  exact ⟨sl,FQ b _ (xT b o q) e1⟩
 ·obtain ⟨o',e1⟩:=I.base.there b o q hx
  exact ⟨o',FQ b o' (xT b o q) e1⟩
 ·by_cases hj:j = i
  ·subst hj
   rw [List.getElem?_set_self iσ] at e2
   cases e2
  ·rw [List.getElem?_set_ne (Ne.symm hj)] at e2
   obtain ⟨u',r,l⟩:=hl j x v e1 e2 e3
   have nx:x ≠ n:=fun z => hj (lR hN e1 (z ▸ hi))
   refine ⟨u',r,?_⟩
   rcases l with ⟨k,e⟩ | ⟨k,c,e,o,ho,hd⟩
   ·exact .inl ⟨k,by simp [nx,e]⟩
   ·exact .inr ⟨k,c,e,o,FQ c o (I.Bd x c e) ho,hd⟩
 ·obtain ⟨v,o,ho,hd⟩:=I.cell x c e
  exact ⟨v,o,FQ c o (I.Bd x c e) ho,hd⟩
 ·obtain ⟨e,z,ne,nf,d⟩:=I.pin p hp
  exact ⟨FQ p.1 p.2 ne e,z,ne,nf,d⟩
 ·refine (I.bI b w q).jF (fun c v hc z => FQ c v ?_ z) (fun _ z => z) fun _ _ z => z
  intro z'
  rcases hc with r | r
  ·rw [← r,z',I.free] at q
   cases q
  ·rw [z',I.free] at r
   cases r
noncomputable def Mo (K:PySem.W.Frag) (C:Addr) (i:Nat) (ts:Addr → Obj → TS) (tr:B_):B_:=fun D EX cls ea σ H => ∃ b,PySem.W.kitCls K cls (.ref C) = some b ∧ if b = true then ∀ oe,oe.cls = cls → ts ea oe { nx:=fun σ' H' => D.nx (σ'.set i none) H',rt:=D.rt,bk:=fun σ' H' => D.bk (σ'.set i none) H',ct:=fun σ' H' => D.ct (σ'.set i none) H' } (σ.set i (some (.ref ea))) H else tr D EX cls ea σ H
theorem Jg {x n:Str} {i:Nat} {C:Addr} {np pos:Pos} {b₀:Stmt} {kr:List Stmt} {rest:List ExceptHandler} {ts:Addr → Obj → TS} {tr:B_} (hN:X.N.Nodup) (hi:X.N[i]? = some n) (hl:X.env.scope.names.lookup n = some .local) (hg:Gl X x) (hm:X.mg x = some (.ref C)) (hB:PySem.W.subIn X.K (.ref C) (.type "BaseException") = some true) (hs:∀ ea oe,gG (L2.vY X ea oe) (b₀ :: kr) (ts ea oe)) (hr:PH X rest tr)
  (hd:(x == ("__debug__":Str)) = false:=by decide):PH X (.ExceptHandler (some (.Name x np)) (some n) (b₀ :: kr) pos :: rest) (Mo X.K C i ts tr):=by
 intro ae s σ H D EX ea cls J h
 obtain ⟨b,hb,h⟩:=h
 obtain ⟨oe,he,hc,I⟩:=J.vY
 refine wpAny_handleBy_cons (codeAny_handlers_test (hJ I (show Gl (L2.vY X ea oe) x from hg) (show (L2.vY X ea oe).mg x = some (.ref C) from hm) ?_ hd)) (by intro z; cases z)
 refine vZ I.lG he (by rw [hc]; exact hb) hB ?_
 cases b with
 | false => exact hr ae s σ H D EX ea cls J (by simpa using h)
 | true =>
  obtain ⟨B,t,fl,hn,go⟩:=J.slots
  have h':∀ oe,oe.cls = cls → ts ea oe { nx:=fun σ' H' => D.nx (σ'.set i none) H',rt:=D.rt,bk:=fun σ' H' => D.bk (σ'.set i none) H',ct:=fun σ' H' => D.ct (σ'.set i none) H' } (σ.set i (some (.ref ea))) H:=by simpa using h
  refine codeAny_handlers_suite_as (lands_againW fl fun h6 Pw Px => ?_)
  have J6:=go h6 Pw Px
  obtain ⟨KN,QL,Py,I6⟩:=J6.vY
  refine i! (X:=L2.vY X ea KN) (v:=.ref ea) I6 hN hi (Or.inl hl) rfl (fun s7 I7 => ?_) (Or.inr hl)
  refine wpAny_mono (hs ea KN ae s7 _ H _ I7 (h' KN Py)) (fun f s8 q => ?_) fun _ _ z => z.elim
  -- A? name is let go
  have letGo:∀ {σ8:St} {H8:Hp} {R:Shared → Prop},aG (L2.vY X ea KN) ae σ8 H8 s8 → (∀ s9,aG X ae (σ8.set i none) H8 s9 → R s9) →
    wpAny (model X.prog X.w) X.A (do bindName X.env n .none; unbindBehindTheSuite X.env n pos) (fun _ s9 => R s9) (XP X ae EX) s8:=fun {σ8 H8 R} I8 k => by
   have I9:=I8.Mn J.inv.ok
   refine wpAny_bind (wpAny_bindName (jH I9 hN hi (Or.inl hl) (v:=.cB) rfl (fun s9 Mp ⟨a,sb,ha⟩ => ?_) (Or.inr hl)))
   obtain ⟨m,ns,Og⟩:=Mp.loc
   have iσ:i < σ8.length:=by rw [I9.len]; exact (List.getElem?_eq_some_iff.mp hi).1
   obtain ⟨u,ru,lk⟩:=Og i n .cB hi (List.getElem?_set_self iσ) (Or.inl hl)
   have Pz:m n = some u:=by
    rcases lk with ⟨_,e⟩ | ⟨k',_⟩
    ·exact e
    ·exfalso
     rcases k' with z | z
     ·have z':X.env.scope.names.lookup n = some .cell:=z
      rw [hl] at z'; cases z'
     ·have z':X.env.scope.names.lookup n = some .free:=z
      rw [hl] at z'; cases z'
   unfold unbindBehindTheSuite
   refine wpAny_onRaise (wpAny_unbindName_local hl ns Pz (by rw [Mp.ok.kind]; rfl) fun KO u' PB Mb => ?_)
   have Oh:=Mp.B? hN hi hl ns Og PB Mb
   rw [List.set_set] at Oh
   exact k _ Oh
  cases f with
  | next =>
   obtain ⟨σ8,H8,I8,q8⟩:=q
   exact letGo I8 fun s9 I9 => ⟨_,H8,I9,q8⟩
  | brk =>
   obtain ⟨σ8,H8,I8,q8⟩:=q
   exact letGo I8 fun s9 I9 => ⟨_,H8,I9,q8⟩
  | cont =>
   obtain ⟨σ8,H8,I8,q8⟩:=q
   exact letGo I8 fun s9 I9 => ⟨_,H8,I9,q8⟩
  | ret v =>
   obtain ⟨x8,σ8,H8,I8,r8,q8⟩:=q
   exact letGo I8 fun s9 I9 => ⟨x8,_,H8,I9,r8,q8⟩
end
end L2
namespace L2
open PySem PySem.Spec PyProof.Rows
end L2
namespace L2
open PySem PySem.Spec PyProof.Rows
structure kO where
 qual:Str
 params:Arguments
 body:Expr
 scope:Scope
 ps:List Str
 x:Str
noncomputable abbrev Fz (H:Hp) (a:Addr) (o:Obj):Prop:=H a = some (.iJ o (.own 0))
structure KP (L:kO) (H:Hp) (f c c':Addr) (v:V):Prop where
 fn:∃ pm Mq,Fz H f (PySem.W.kla_obj "<lambda>" L.qual L.params L.body L.scope [(L.x,c)] pm c' Mq)
 cd:∃ oc vs t,Fz H c' oc ∧ oc.data = .fields vs ∧ vs[1]? = some (.str L.qual t)
 ce:∃ oc u,Fz H c oc ∧ oc.data = .cell (some u) ∧ ba v u
noncomputable def back (H H':Hp) (c:Addr):Hp:=fun b => if b = c then H b else H' b
end L2
namespace L2
open PySem PySem.Spec PyProof.Rows
noncomputable def Tab (H:Hp) (T:Addr) (line col:Nat) (qual:Str):Prop:=H T = some (.Ba #[]) ∨
 ∃ c' oc vs t,H T = some (.Ba #[rawInt line,rawInt col,.ref c']) ∧ Fz H c' oc ∧ oc.data = .fields vs ∧ vs[1]? = some (.str qual t)
end L2
namespace L2
open PySem PySem.Spec PyProof.Rows
theorem KP.mono {L:kO} {H H':Hp} {f c c':Addr} {v:V} (C:KP L H f c c' v) (k:∀ b o u,H b = some (.iJ o u) → H' b = some (.iJ o u)):KP L H' f c c' v:=by
 obtain ⟨⟨pm,Mq,h1⟩,⟨oc,vs,t,h2,h3⟩,⟨o2,u,h4,h5⟩⟩:=C
 exact ⟨⟨pm,Mq,k _ _ _ h1⟩,⟨oc,vs,t,k _ _ _ h2,h3⟩,⟨o2,u,k _ _ _ h4,h5⟩⟩
end L2
namespace MN
open PySem PySem.Spec L2
open PyProof.Rows hiding St
inductive ao where
 | cB | bl (b:Bool) | int (i:Int) | str (x:Str) | tup (vs:List ao) | loc (n:Nat) | exc (c:Str) | fn (L:kO) (u:ao) | mt (vs:List ao)
inductive bf where
 | lst (vs:List ao) | FR (vs:List ao) | mod (vs:List ao) | dK (aH:List (cI × ao)) | dT (aH:List (List cI × ao)) | tab (x:Str) (line col:Nat) (qual:Str) | ins (c:Str) (fs:List (Str × ao)) | fd (aH:List (cI × ao))
noncomputable abbrev ag:=List bf
noncomputable abbrev Env:=List (Option ao)
inductive bW (α:Type) where
 | ok (a:α) (st:ag) | err (c:Str) (st:ag) | bad
inductive bQ where
 | nx (μ:Env) (st:ag) | rt (v:ao) (st:ag) | bk (μ:Env) (st:ag) | ct (μ:Env) (st:ag) | er (c:Str) (μ:Env) (st:ag) | bad
@[reducible] def bW.bind {α β:Type} (r:bW α) (k:α → ag → bW β):bW β:=match r with
 | .ok a st => k a st
 | .err c st => .err c st
 | .bad => .bad
structure Wo where
 K:PySem.W.Frag
 mg:Str → Option Value
 pn:List (Addr × Obj)
noncomputable abbrev wo (X:Cx):Wo:=⟨X.K,X.mg,X.pn⟩
mutual
noncomputable def Rl (K:PySem.W.Frag) (ρ:List Addr) (H:Hp):ao → V → Prop
 | .cB,v => v = .cB
 | .bl b,v => v = .bl b
 | .int i,v => v = .int i
 | .str x,v => v = .str x
 | .tup us,v => ∃ a vs,v = .ref a ∧ H a = some (.tup vs) ∧ aP K ρ H us vs
 | .mt us,v => ∃ a vs,v = .ref a ∧ hR K H a vs ∧ aP K ρ H us vs
 | .loc n,v => ∃ a,v = .ref a ∧ ρ[n]? = some a
 | .exc _,_ => False
 | .fn _ _,_ => False
noncomputable def aP (K:PySem.W.Frag) (ρ:List Addr) (H:Hp):List ao → List V → Prop
 | [],vs => vs = []
 | u :: us,vs => ∃ v r,vs = v :: r ∧ Rl K ρ H u v ∧ aP K ρ H us r
end
structure ax (ρ:List Addr) (H:Hp) (ρ':List Addr) (H':Hp):Prop where
 pre:ρ <+: ρ'
 tup:∀ b xs,H b = some (.tup xs) → H' b = some (.tup xs)
 iJ:∀ b o u,H b = some (.iJ o u) → H' b = some (.iJ o u)
theorem ax.refl (ρ:List Addr) (H:Hp):ax ρ H ρ H:=⟨List.prefix_refl ρ,fun _ _ h => h,fun _ _ _ h => h⟩
theorem ax.trans {ρ ρ1 ρ2:List Addr} {H H1 H2:Hp} (a:ax ρ H ρ1 H1) (b:ax ρ1 H1 ρ2 H2):ax ρ H ρ2 H2 :=
 ⟨a.pre.trans b.pre,fun _ _ h => b.tup _ _ (a.tup _ _ h),fun _ _ _ h => b.iJ _ _ _ (a.iJ _ _ _ h)⟩
theorem ax.same {ρ:List Addr} {H H':Hp} (e:jK H H'):ax ρ H ρ H':=⟨List.prefix_refl ρ,fun _ _ h => e _ _ h,fun _ _ _ h => e _ _ h⟩
theorem ax.snoc {ρ:List Addr} {H H':Hp} (p:Addr) (e:jK H H'):ax ρ H (ρ ++ [p]) H':=⟨List.prefix_append ρ [p],fun _ _ h => e _ _ h,fun _ _ _ h => e _ _ h⟩
theorem ax.at_ {ρ ρ':List Addr} {H H':Hp} (e:ax ρ H ρ' H') {n:Nat} {a:Addr} (h:ρ[n]? = some a):ρ'[n]? = some a:=by
 obtain ⟨t,rfl⟩:=e.pre
 have hl:n < ρ.length:=by
  rcases Nat.lt_or_ge n ρ.length with q | q
  ·exact q
  ·rw [List.getElem?_eq_none q] at h; cases h
 rw [List.getElem?_append_left hl,h]
theorem ax.KQ {K:PySem.W.Frag} {ρ ρ':List Addr} {H H':Hp} (e:ax ρ H ρ' H') {a:Addr} {xs:List V} (h:hR K H a xs):hR K H' a xs:=by
 rcases h with (h | ⟨o,h⟩) | h
 ·exact .inl (.inl (e.tup _ _ h))
 ·exact .inl (.inr ⟨o,e.iJ _ _ _ h⟩)
 ·exact .inr h
mutual
theorem Rl.mono {K:PySem.W.Frag} {ρ ρ':List Addr} {H H':Hp} (e:ax ρ H ρ' H'):∀ (u:ao) (v:V),Rl K ρ H u v → Rl K ρ' H' u v
 | .cB,_,h => h
 | .bl _,_,h => h
 | .int _,_,h => h
 | .str _,_,h => h
 | .tup us,v,h => by
  unfold Rl at h ⊢
  obtain ⟨a,vs,h1,h2,h3⟩:=h
  exact ⟨a,vs,h1,e.tup _ _ h2,aP.mono e us vs h3⟩
 | .mt us,v,h => by
  unfold Rl at h ⊢
  obtain ⟨a,vs,h1,h2,h3⟩:=h
  exact ⟨a,vs,h1,e.KQ h2,aP.mono e us vs h3⟩
 | .loc n,v,h => by
  unfold Rl at h ⊢
  obtain ⟨a,h1,h2⟩:=h
  exact ⟨a,h1,e.at_ h2⟩
 | .exc c,v,h => h
 | .fn _ _,_,h => h
theorem aP.mono {K:PySem.W.Frag} {ρ ρ':List Addr} {H H':Hp} (e:ax ρ H ρ' H'):∀ (us:List ao) (vs:List V),aP K ρ H us vs → aP K ρ' H' us vs
 | [],_,h => h
 | u :: us,vs,h => by
  unfold aP at h ⊢
  obtain ⟨v,r,h1,h2,h3⟩:=h
  exact ⟨v,r,h1,Rl.mono e u v h2,aP.mono e us r h3⟩
end
section
variable {K:PySem.W.Frag} {ρ ρ':List Addr} {H H':Hp}
theorem aP.nil:aP K ρ H [] []:=by unfold aP; rfl
theorem aP.cons {u:ao} {us:List ao} {v:V} {vs:List V} (h:Rl K ρ H u v) (hs:aP K ρ H us vs):aP K ρ H (u :: us) (v :: vs):=by
 unfold aP; exact ⟨v,vs,rfl,h,hs⟩
theorem aP.b_ {u:ao} {us:List ao} {vs:List V} (h:aP K ρ H (u :: us) vs):∃ v r,vs = v :: r ∧ Rl K ρ H u v ∧ aP K ρ H us r:=by
 unfold aP at h; exact h
theorem aP.dP {vs:List V} (h:aP K ρ H [] vs):vs = []:=by unfold aP at h; exact h
theorem aP.length:∀ {us:List ao} {vs:List V},aP K ρ H us vs → us.length = vs.length
 | [],vs,h => by rw [h.dP]; rfl
 | u :: us,vs,h => by
  obtain ⟨v,r,rfl,_,h3⟩:=h.b_
  rw [List.length_cons,List.length_cons,h3.length]
theorem aP.get:∀ {us:List ao} {vs:List V} {i:Nat} {u:ao},aP K ρ H us vs → us[i]? = some u → ∃ v,vs[i]? = some v ∧ Rl K ρ H u v
 | [],_,_,_,_,e => by cases e
 | w :: us,vs,0,u,h,e => by
  obtain ⟨v,r,rfl,h2,_⟩:=h.b_
  cases e
  exact ⟨v,rfl,h2⟩
 | w :: us,vs,i + 1,u,h,e => by
  obtain ⟨v,r,rfl,_,h3⟩:=h.b_
  exact aP.get (i:=i) h3 e
theorem aP.append:∀ {us ws:List ao} {vs xs:List V},aP K ρ H us vs → aP K ρ H ws xs → aP K ρ H (us ++ ws) (vs ++ xs)
 | [],_,vs,_,h,k => by rw [h.dP]; exact k
 | u :: us,ws,vs,xs,h,k => by
  obtain ⟨v,r,rfl,h2,h3⟩:=h.b_
  exact aP.cons h2 (h3.append k)
theorem aP.drop:∀ (n:Nat) {us:List ao} {vs:List V},aP K ρ H us vs → aP K ρ H (us.drop n) (vs.drop n)
 | 0,_,_,h => h
 | _ + 1,[],vs,h => by rw [h.dP]; exact aP.nil
 | n + 1,u :: us,vs,h => by
  obtain ⟨v,r,rfl,h2,h3⟩:=h.b_
  exact aP.drop n h3
theorem aP.take:∀ (n:Nat) {us:List ao} {vs:List V},aP K ρ H us vs → aP K ρ H (us.take n) (vs.take n)
 | 0,_,_,_ => aP.nil
 | _ + 1,[],vs,h => by rw [h.dP]; exact aP.nil
 | n + 1,u :: us,vs,h => by
  obtain ⟨v,r,rfl,h2,h3⟩:=h.b_
  exact aP.cons h2 (aP.take n h3)
theorem aP.set {u:ao} {v:V} (hu:Rl K ρ H u v):∀ (n:Nat) {us:List ao} {vs:List V},aP K ρ H us vs → aP K ρ H (us.set n u) (vs.set n v)
 | _,[],vs,h => by rw [h.dP]; exact aP.nil
 | 0,w :: us,vs,h => by
  obtain ⟨x,r,rfl,h2,h3⟩:=h.b_
  exact aP.cons hu h3
 | n + 1,w :: us,vs,h => by
  obtain ⟨x,r,rfl,h2,h3⟩:=h.b_
  exact aP.cons h2 (aP.set hu n h3)
theorem aP.one {u:ao} {v:V} (h:Rl K ρ H u v):aP K ρ H [u] [v]:=aP.cons h aP.nil
theorem aP.v7 {u:ao} {vs:List V} (h:aP K ρ H [u] vs):∃ v,vs = [v] ∧ Rl K ρ H u v:=by
 obtain ⟨v,r,rfl,h2,h3⟩:=h.b_
 rw [h3.dP]
 exact ⟨v,rfl,h2⟩
theorem aP.Oi {u w:ao} {vs:List V} (h:aP K ρ H [u,w] vs):∃ v x,vs = [v,x] ∧ Rl K ρ H u v ∧ Rl K ρ H w x:=by
 obtain ⟨v,r,rfl,h2,h3⟩:=h.b_
 obtain ⟨x,rfl,h4⟩:=h3.v7
 exact ⟨v,x,rfl,h2,h4⟩
theorem aP.ints:∀ (ns:List Int),aP K ρ H (ns.map ao.int) (ns.map V.int)
 | [] => aP.nil
 | n :: ns => aP.cons (by unfold Rl; rfl) (aP.ints ns)
theorem Rl.b6 {i:Int} {v:V} (h:Rl K ρ H (.int i) v):v = .int i:=by unfold Rl at h; exact h
theorem Rl.pz {b:Bool} {v:V} (h:Rl K ρ H (.bl b) v):v = .bl b:=by unfold Rl at h; exact h
theorem Rl.dE {x:Str} {v:V} (h:Rl K ρ H (.str x) v):v = .str x:=by unfold Rl at h; exact h
theorem Rl.l! {v:V} (h:Rl K ρ H .cB v):v = .cB:=by unfold Rl at h; exact h
theorem Rl.Jh {us:List ao} {v:V} (h:Rl K ρ H (.tup us) v):∃ a vs,v = .ref a ∧ H a = some (.tup vs) ∧ aP K ρ H us vs:=by unfold Rl at h; exact h
theorem Rl.fg {us:List ao} {v:V} (h:Rl K ρ H (.tup us) v):∃ a vs,v = .ref a ∧ hR K H a vs ∧ aP K ρ H us vs:=let ⟨a,vs,h1,h2,h3⟩:=h.Jh; ⟨a,vs,h1,hR.of h2,h3⟩
theorem Rl.Mr {us:List ao} {v:V} (h:Rl K ρ H (.mt us) v):∃ a vs,v = .ref a ∧ hR K H a vs ∧ aP K ρ H us vs:=by unfold Rl at h; exact h
theorem Rl.Ji {us:List ao} {a:Addr} {vs:List V} (h:hR K H a vs) (r:aP K ρ H us vs):Rl K ρ H (.mt us) (.ref a):=by unfold Rl; exact ⟨a,vs,rfl,h,r⟩
theorem Rl.df {n:Nat} {v:V} (h:Rl K ρ H (.loc n) v):∃ a,v = .ref a ∧ ρ[n]? = some a:=by unfold Rl at h; exact h
theorem Rl.mkInt (i:Int):Rl K ρ H (.int i) (.int i):=by unfold Rl; rfl
theorem Rl.v8 (b:Bool):Rl K ρ H (.bl b) (.bl b):=by unfold Rl; rfl
theorem Rl.mkStr (x:Str):Rl K ρ H (.str x) (.str x):=by unfold Rl; rfl
theorem Rl.uL:Rl K ρ H .cB .cB:=by unfold Rl; rfl
theorem Rl.l? {us:List ao} {a:Addr} {vs:List V} (h:H a = some (.tup vs)) (r:aP K ρ H us vs):Rl K ρ H (.tup us) (.ref a):=by unfold Rl; exact ⟨a,vs,rfl,h,r⟩
theorem Rl.yD {n:Nat} {a:Addr} (h:ρ[n]? = some a):Rl K ρ H (.loc n) (.ref a):=by unfold Rl; exact ⟨a,rfl,h⟩
end
noncomputable def fj {κ:Type} (K:PySem.W.Frag) (ρ:List Addr) (H:Hp) (aH:List (κ × ao)) (gf:List (κ × V)):Prop:=aH.map (·.1) = gf.map (·.1) ∧ aP K ρ H (aH.map (·.2)) (gf.map (·.2))
noncomputable def gM:Option bf → Bool
 | some (.mod _) => true
 | _ => false
noncomputable def Ms (K:PySem.W.Frag) (a:Addr) (vs:List V):Prop:=∃ (o:Obj) (aA:Array Value) (n:Nat),K.lookup a = some o ∧ o.cls = .type "list" ∧ o.dict = none ∧ o.data = .seq aA n ∧ aA.size ≤ sizeLine ∧ a7 vs aA.toList
noncomputable def e7 (K:PySem.W.Frag) (ρ:List Addr) (H:Hp):bf → Addr → Prop
 | .lst us,a => ∃ vs,H a = some (.lst vs) ∧ aP K ρ H us vs
 | .FR us,a => ∃ o vs,H a = some (.iJ o (.lst vs)) ∧ aP K ρ H us vs
 | .mod us,a => ∃ vs,Ms K a vs ∧ aP K ρ H us vs
 | .dK aH,a => ∃ gf,H a = some (.dK gf) ∧ fj K ρ H aH gf
 | .dT aH,a => ∃ gf,H a = some (.dT gf) ∧ fj K ρ H aH gf
 | .fd aH,a => ∃ o gf,H a = some (.iJ o (.dK gf)) ∧ fj K ρ H aH gf
 | .tab x l c q,a => (∃ cd,PySem.W.tabIn K x = some (cd,a)) ∧ Tab H a l c q
 | .ins c fs,a => ∃ C dx gs,H a = some (.ins C dx gs) ∧ PySem.W.nsIn K mainGlobals c = some (some (.ref C)) ∧ fj K ρ H fs gs
structure SR (K:PySem.W.Frag) (ρ:List Addr) (st:ag) (H:Hp):Prop where
 len:ρ.length = st.length
 nd:∀ (n m:Nat) a,ρ[n]? = some a → ρ[m]? = some a → gM st[n]? = false → gM st[m]? = false → n = m
 cell:∀ (n:Nat) c a,st[n]? = some c → ρ[n]? = some a → e7 K ρ H c a
theorem d7 {α:Type} {l:List α} {n:Nat} {x:α} (h:l[n]? = some x):n < l.length:=by
 rcases Nat.lt_or_ge n l.length with q | q
 ·exact q
 ·rw [List.getElem?_eq_none q] at h; cases h
section
variable {K:PySem.W.Frag} {ρ ρ':List Addr} {H H':Hp} {st:ag}
theorem e7.there {c:bf} {a:Addr} (h:e7 K ρ H c a) (hn:gM (some c) = false):∃ o,H a = some o ∧ ∀ xs,o ≠ .tup xs:=by
 cases c with
 | lst us => obtain ⟨vs,h,_⟩:=h; exact ⟨_,h,fun xs e => by cases e⟩
 | FR us => obtain ⟨o,vs,h,_⟩:=h; exact ⟨_,h,fun xs e => by cases e⟩
 | fd us => obtain ⟨o,vs,h,_⟩:=h; exact ⟨_,h,fun xs e => by cases e⟩
 | mod us => cases hn
 | dK aH => obtain ⟨vs,h,_⟩:=h; exact ⟨_,h,fun xs e => by cases e⟩
 | dT aH => obtain ⟨vs,h,_⟩:=h; exact ⟨_,h,fun xs e => by cases e⟩
 | tab x l c q => rcases h.2 with h | ⟨_,_,_,_,h,_⟩ <;> exact ⟨_,h,fun xs e => by cases e⟩
 | ins c fs => obtain ⟨_,_,_,h,_⟩:=h; exact ⟨_,h,fun xs e => by cases e⟩
theorem e7.mono {c:bf} {a:Addr} (h:e7 K ρ H c a) (e:ax ρ H ρ' H') (ha:gM (some c) = true ∨ H' a = H a):e7 K ρ' H' c a:=by
 cases c with
 | mod us => obtain ⟨vs,h,r⟩:=h; exact ⟨vs,h,aP.mono e _ _ r⟩
 | lst us => rcases ha with ha | ha <;> first | cases ha; done | (obtain ⟨vs,h,r⟩:=h; exact ⟨vs,ha.trans h,aP.mono e _ _ r⟩)
 | FR us => rcases ha with ha | ha <;> first | cases ha; done | (obtain ⟨o,vs,h,r⟩:=h; exact ⟨o,vs,ha.trans h,aP.mono e _ _ r⟩)
 | dK aH => rcases ha with ha | ha <;> first | cases ha; done | (obtain ⟨vs,h,r⟩:=h; exact ⟨vs,ha.trans h,r.1,aP.mono e _ _ r.2⟩)
 | dT aH => rcases ha with ha | ha <;> first | cases ha; done | (obtain ⟨vs,h,r⟩:=h; exact ⟨vs,ha.trans h,r.1,aP.mono e _ _ r.2⟩)
 | fd aH => rcases ha with ha | ha <;> first | cases ha; done | (obtain ⟨o,vs,h,r⟩:=h; exact ⟨o,vs,ha.trans h,r.1,aP.mono e _ _ r.2⟩)
 | ins c fs => rcases ha with ha | ha <;> first | cases ha; done | (obtain ⟨C,dx,gs,h,hn,r⟩:=h; exact ⟨C,dx,gs,ha.trans h,hn,r.1,aP.mono e _ _ r.2⟩)
 | tab x l c q =>
  refine ⟨h.1,?_⟩
  rcases ha with ha | ha
  ·cases ha
  ·rcases h.2 with h | ⟨c',oc,vs,t,h,h2,h3⟩
   ·exact .inl (ha.trans h)
   ·exact .inr ⟨c',oc,vs,t,ha.trans h,e.iJ _ _ _ h2,h3⟩
theorem e7.grow {c:bf} {a:Addr} (h:e7 K ρ H c a) (e:ax ρ H ρ' H') (s:jK H H'):e7 K ρ' H' c a:=by
 cases z:gM (some c) with
 | true => exact h.mono e (.inl z)
 | false =>
  obtain ⟨o,ho,_⟩:=h.there z
  exact h.mono e (.inr (by rw [ho]; exact s _ _ ho))
theorem SR.there (s:SR K ρ st H) {n:Nat} {a:Addr} (h:ρ[n]? = some a):∃ c,st[n]? = some c ∧ e7 K ρ H c a:=by
 have hn:=d7 h
 have HC:n < st.length:=by rw [← s.len]; exact hn
 exact ⟨st[n],List.getElem?_eq_getElem HC,s.cell n _ a (List.getElem?_eq_getElem HC) h⟩
theorem SR.grow (s:SR K ρ st H) (e:jK H H'):SR K ρ st H' :=
 ⟨s.len,s.nd,fun n c a h1 h2 => (s.cell n c a h1 h2).grow (ax.same e) e⟩
theorem SR.D_ (s:SR K ρ st H) {p:Addr} (hp:H p = none) {n:Nat} (h:ρ[n]? = some p) (hm:gM st[n]? = false):False:=by
 obtain ⟨c,hc,k⟩:=s.there h
 rw [hc] at hm
 obtain ⟨o,ho,_⟩:=k.there hm
 rw [hp] at ho
 cases ho
theorem cC {p:Addr} {o:HO} (hp:H p = none):jK H (upd H p o):=jK.upd (jK.refl H) hp
theorem SR.alloc (s:SR K ρ st H) {p:Addr} {o:HO} {c:bf} (hp:H p = none) (k:e7 K (ρ ++ [p]) (upd H p o) c p):SR K (ρ ++ [p]) (st ++ [c]) (upd H p o):=by
 have e:jK H (upd H p o):=cC hp
 have at_:∀ (n:Nat) (a:Addr),(ρ ++ [p])[n]? = some a → (n < st.length ∧ ρ[n]? = some a ∧ (st ++ [c])[n]? = st[n]?) ∨ (n = st.length ∧ a = p ∧ (st ++ [c])[n]? = some c):=by
  intro n a h
  rcases Nat.lt_trichotomy n st.length with q | q | q
  ·rw [List.getElem?_append_left (by rw [s.len]; exact q)] at h
   exact .inl ⟨q,h,List.getElem?_append_left q⟩
  ·subst q
   rw [List.getElem?_append_right (by rw [s.len]; exact Nat.le_refl _),s.len,Nat.sub_self] at h
   cases h
   refine .inr ⟨rfl,rfl,?_⟩
   rw [List.getElem?_append_right (Nat.le_refl _),Nat.sub_self]; rfl
  ·rw [List.getElem?_eq_none (by rw [List.length_append,List.length_singleton,s.len]; lia)] at h
   cases h
 refine ⟨by rw [List.length_append,List.length_append,s.len]; rfl,fun n m a h1 h2 m1 m2 => ?_,fun n c' a h1 h2 => ?_⟩
 ·rcases at_ n a h1 with ⟨q1,q2,q3⟩ | ⟨q1,q2,q3⟩ <;> rcases at_ m a h2 with ⟨r1,r2,r3⟩ | ⟨r1,r2,r3⟩
  ·rw [q3] at m1; rw [r3] at m2; exact s.nd n m a q2 r2 m1 m2
  ·subst r2; rw [q3] at m1; exact (s.D_ hp q2 m1).elim
  ·subst q2; rw [r3] at m2; exact (s.D_ hp r2 m2).elim
  ·rw [q1,r1]
 ·rcases at_ n a h2 with ⟨q1,q2,q3⟩ | ⟨q1,q2,q3⟩
  ·rw [q3] at h1
   exact (s.cell n c' a h1 q2).grow (ax.snoc p e) e
  ·rw [q3] at h1
   cases h1
   subst q2
   exact k
theorem ax.put {a:Addr} {o o':HO} (h:H a = some o) (h1:∀ xs,o ≠ .tup xs) (h2:∀ x u,o ≠ .iJ x u):ax ρ H ρ (upd H a o'):=by
 refine ⟨List.prefix_refl ρ,fun b xs e => ?_,fun b x u e => ?_⟩
 ·rw [aV (fun z => ?_)]
  ·exact e
  ·subst z; rw [h] at e; exact h1 _ (Option.some.inj e)
 ·rw [aV (fun z => ?_)]
  ·exact e
  ·subst z; rw [h] at e; exact h2 _ _ (Option.some.inj e)
theorem SR.set (s:SR K ρ st H) {n:Nat} {a:Addr} {o o':HO} {c c':bf} (h:st[n]? = some c) (hc:gM (some c) = false) (cz:gM (some c') = false) (ha:ρ[n]? = some a) (ho:H a = some o) (h1:∀ xs,o ≠ .tup xs) (h2:∀ x u,o ≠ .iJ x u)
  (k:e7 K ρ (upd H a o') c' a):SR K ρ (st.set n c') (upd H a o'):=by
 have hn:n < st.length:=d7 h
 have at_:∀ (m:Nat),gM (st.set n c')[m]? = gM st[m]?:=fun m => by
  by_cases z:m = n
  ·subst z; rw [List.getElem?_set_self hn,h,hc,cz]
  ·rw [List.getElem?_set_ne (fun y => z y.symm)]
 refine ⟨by rw [List.length_set]; exact s.len,fun i m b q1 q2 m1 m2 => s.nd i m b q1 q2 (by rw [← at_]; exact m1) (by rw [← at_]; exact m2),fun m d b q1 q2 => ?_⟩
 by_cases z:m = n
 ·subst z
  rw [ha] at q2
  cases q2
  rw [List.getElem?_set_self hn] at q1
  cases q1
  exact k
 ·rw [List.getElem?_set_ne (fun y => z y.symm)] at q1
  have kb:=s.cell m d b q1 q2
  cases zm:gM (some d) with
  | true => exact kb.mono (ax.put ho h1 h2) (.inl zm)
  | false =>
   have hb:b ≠ a:=fun y => z (s.nd m n a (by rw [← y]; exact q2) ha (by rw [q1]; exact zm) (by rw [h]; exact hc))
   exact kb.mono (ax.put ho h1 h2) (.inr (aV hb))
end
noncomputable def sN (W:Wo) (ρ:List Addr) (H:Hp) (u:ao) (v:V):Prop:=match u with
 | .exc c => ∃ a oe C,v = .ref a ∧ (a,oe) ∈ W.pn ∧ W.mg c = some (.ref C) ∧ oe.cls = .ref C
 | .fn L u => ∃ f c c' cv,v = .ref f ∧ KP L H f c c' cv ∧ Rl W.K ρ H u cv
 | u => Rl W.K ρ H u v
theorem sN.mono {W:Wo} {ρ ρ':List Addr} {H H':Hp} {u:ao} {v:V} (h:sN W ρ H u v) (e:ax ρ H ρ' H'):sN W ρ' H' u v:=by
 cases u with
 | exc c => exact h
 | fn L u => obtain ⟨f,c,c',cv,h1,C,r⟩:=h; exact ⟨f,c,c',cv,h1,C.mono (fun b o u q => e.iJ b o u q),Rl.mono e _ _ r⟩
 | _ => exact Rl.mono e _ _ h
theorem sN.of {W:Wo} {ρ:List Addr} {H:Hp} {u:ao} {v:V} (h:Rl W.K ρ H u v):sN W ρ H u v:=by
 cases u with
 | exc c => unfold Rl at h; exact h.elim
 | fn L u => unfold Rl at h; exact h.elim
 | _ => exact h
structure RS (W:Wo) (ρ:List Addr) (H:Hp) (μ:Env) (σ:St):Prop where
 len:μ.length = σ.length
 at_:∀ (i:Nat) u,μ[i]? = some (some u) → ∃ v,σ[i]? = some (some v) ∧ sN W ρ H u v
section
variable {W:Wo} {ρ ρ':List Addr} {H H':Hp} {μ:Env} {σ:St}
theorem RS.mono (r:RS W ρ H μ σ) (e:ax ρ H ρ' H'):RS W ρ' H' μ σ:=⟨r.len,fun i u h => let ⟨v,h1,h2⟩:=r.at_ i u h; ⟨v,h1,h2.mono e⟩⟩
theorem RS.Jj (r:RS W ρ H μ σ) (i:Nat) {u:ao} {v:V} (h:sN W ρ H u v):RS W ρ H (μ.set i (some u)) (σ.set i (some v)):=by
 refine ⟨by rw [List.length_set,List.length_set]; exact r.len,fun j w e => ?_⟩
 by_cases z:j = i
 ·subst z
  have hj:=d7 e
  rw [List.length_set] at hj
  rw [List.getElem?_set_self hj] at e
  cases e
  exact ⟨v,List.getElem?_set_self (by rw [← r.len]; exact hj),h⟩
 ·rw [List.getElem?_set_ne (fun y => z y.symm)] at e ⊢
  exact r.at_ j w e
theorem RS.set (r:RS W ρ H μ σ) (i:Nat) {u:ao} {v:V} (h:Rl W.K ρ H u v):RS W ρ H (μ.set i (some u)) (σ.set i (some v)):=r.Jj i (sN.of h)
end
end MN
namespace MN
open PySem PySem.Spec L2
open PyProof.Rows hiding St
noncomputable abbrev ME:=Env → ag → bW ao
noncomputable abbrev MT:=Env → ag → bW Bool
noncomputable abbrev MA:=Env → ag → bW (List ao)
noncomputable abbrev MB:=Env → ag → bQ
noncomputable def wR {α β:Type} (W:Wo) (E:XK) (R:List Addr → Hp → α → β → Prop) (ρ:List Addr) (H:Hp) (Q:β → Hp → Prop):bW α → Prop
 | .ok u av => ∀ ρ' H' v,ax ρ H ρ' H' → SR W.K ρ' av H' → R ρ' H' u v → Q v H'
 | .err c av => ∃ C,W.mg c = some (.ref C) ∧ ∀ ρ' H',ax ρ H ρ' H' → SR W.K ρ' av H' → E (.ref C) none H'
 | .bad => False
theorem wR.mono {α β:Type} {W:Wo} {E:XK} {R:List Addr → Hp → α → β → Prop} {ρ ρ':List Addr} {H H':Hp} {Q:β → Hp → Prop} {r:bW α} (h:wR W E R ρ H Q r) (e:ax ρ H ρ' H'):wR W E R ρ' H' Q r:=by
 cases r with
 | ok u st => exact fun ρ2 H2 v e2 s r => h ρ2 H2 v (e.trans e2) s r
 | err c st => obtain ⟨C,h1,h2⟩:=h; exact ⟨C,h1,fun ρ2 H2 e2 s => h2 ρ2 H2 (e.trans e2) s⟩
 | bad => exact h
theorem wR.pn {α β:Type} {K:PySem.W.Frag} {mg:Str → Option Value} {pn B':List (Addr × Obj)} {E:XK} {R:List Addr → Hp → α → β → Prop} {ρ:List Addr} {H:Hp} {Q:β → Hp → Prop} {r:bW α} (h:wR ⟨K,mg,pn⟩ E R ρ H Q r):wR ⟨K,mg,B'⟩ E R ρ H Q r:=by
 cases r <;> exact h
noncomputable def tG {α β:Type} (W:Wo) (E:XK) (R:List Addr → Hp → α → β → Prop) (m:Env → ag → bW α):St → Hp → (β → Hp → Prop) → Prop :=
 fun σ H Q => ∃ μ ρ st,RS W ρ H μ σ ∧ SR W.K ρ st H ∧ wR W E R ρ H Q (m μ st)
noncomputable abbrev RB:List Addr → Hp → Bool → Bool → Prop:=fun _ _ b c => c = b
noncomputable abbrev tE (X:Cx) (E:XK) (m:ME):TE:=tG (wo X) E (Rl X.K) m
noncomputable abbrev tT (X:Cx) (E:XK) (m:MT):TT:=tG (wo X) E RB m
noncomputable abbrev tL (X:Cx) (E:XK) (m:MA):TA:=tG (wo X) E (aP X.K) m
theorem go {α β γ δ:Type} {W:Wo} {E:XK} {R1:List Addr → Hp → α → β → Prop} {R2:List Addr → Hp → γ → δ → Prop} {m:Env → ag → bW α} {k:α → ag → bW γ} {σ:St} {H:Hp} {Q:δ → Hp → Prop} {Q':β → Hp → Prop}
  (μ:Env) (ρ:List Addr) (st:ag) (rs:RS W ρ H μ σ) (sr:SR W.K ρ st H) (h:wR W E R2 ρ H Q ((m μ st).bind k))
  (c:∀ u st1 ρ1 H1 x,ax ρ H ρ1 H1 → SR W.K ρ1 st1 H1 → R1 ρ1 H1 u x → wR W E R2 ρ1 H1 Q (k u st1) → Q' x H1):tG W E R1 m σ H Q':=by
 refine ⟨μ,ρ,st,rs,sr,?_⟩
 cases e:m μ st with
 | ok u st1 =>
  rw [e] at h
  intro ρ1 H1 x e1 bw r1
  exact c u st1 ρ1 H1 x e1 bw r1 (wR.mono h e1)
 | err c st1 => rw [e] at h; exact h
 | bad => rw [e] at h; exact h
section
variable {X:Cx}
theorem PE.imp {e:Expr} {t t':TE} (h:PE X e t) (k:∀ σ H Q,t' σ H Q → t σ H Q):PE X e t':=fun ae s σ H Q I q => h ae s σ H Q I (k σ H Q q)
theorem PT.imp {e:Expr} {t t':TT} (h:PT X e t) (k:∀ σ H Q,t' σ H Q → t σ H Q):PT X e t':=fun ae s σ H Q I q => h ae s σ H Q I (k σ H Q q)
theorem PW.imp {e:Expr} {t t':TT} (h:PW X e t) (k:∀ σ H Q,t' σ H Q → t σ H Q):PW X e t':=fun w ae s σ H Q I q => h w ae s σ H Q I (k σ H Q q)
theorem PA.imp {e:List Expr} {t t':TA} (h:PA X e t) (k:∀ σ H Q,t' σ H Q → t σ H Q):PA X e t':=fun p ae s σ H Q I q => h p ae s σ H Q I (k σ H Q q)
theorem PS.imp {e:Stmt} {t t':TS} (h:PS X e t) (k:∀ D σ H,t' D σ H → t D σ H):PS X e t':=fun ae s σ H D I q => h ae s σ H D I (k D σ H q)
theorem gG.imp {e:List Stmt} {t t':TS} (h:gG X e t) (k:∀ D σ H,t' D σ H → t D σ H):gG X e t':=fun ae s σ H D I q => h ae s σ H D I (k D σ H q)
theorem PG.imp {e:Expr} {t t':TG} (h:PG X e t) (k:∀ v σ H Q,t' v σ H Q → t v σ H Q):PG X e t':=fun ae s σ H v u Q I r q => h ae s σ H v u Q I r (k v σ H Q q)
theorem c5.imp {f:Value → Value → Sem Value} {t t':R2} (h:c5 X f t) (k:∀ x y H Q,t' x y H Q → t x y H Q):c5 X f t':=fun ae s σ H x y v u Q I rx ry q => h ae s σ H x y v u Q I rx ry (k x y H Q q)
theorem bV.imp {f:Value} {t t':List V → Hp → VK → Prop} (h:bV X f t) (k:∀ xs H Q,t' xs H Q → t xs H Q):bV X f t':=fun ae s σ H xs us Q I r q => h ae s σ H xs us Q I r (k xs H Q q)
theorem p?.imp {t t':R2} (h:p? X t) (k:∀ x y H Q,t' x y H Q → t x y H Q):p? X t':=fun va sl ae s σ H x y v u Q I rx ry q e => h va sl ae s σ H x y v u Q I rx ry (k x y H Q q) e
end
noncomputable def xO:ao → Bool
 | .exc _ => true
 | .fn _ _ => true
 | _ => false
noncomputable def af (i:Nat):ME:=fun μ st => match μ[i]? with
 | some (some v) => if xO v = true then .bad else .ok v st
 | _ => .bad
theorem sN.un {W:Wo} {ρ:List Addr} {H:Hp} {u:ao} {v:V} (h:sN W ρ H u v) (n:¬ xO u = true):Rl W.K ρ H u v:=by
 cases u with
 | exc c => exact absurd rfl n
 | fn L u => exact absurd rfl n
 | _ => exact h
noncomputable def mC (v:ao):ME:=fun _ st => .ok v st
section
variable {X:Cx} {E:XK} {pos:Pos}
theorem FT (i:Nat) {x:Str} (hN:X.N[i]? = some x:=by rfl) (hv:Ey X.env.scope x:=by first | exact Or.inl rfl | exact Or.inr (Or.inl rfl) | exact Or.inr (Or.inr rfl)) (hd:(x == ("__debug__":Str)) = false:=by decide)
  (nN:(x == ("__classdict__":Str)) = false:=by decide):PE X (.Name x pos) (tE X E (af i)):=by
 refine PE.imp (r! hN hv hd nN) ?_
 rintro σ H Q ⟨μ,ρ,st,rs,sr,h⟩
 unfold af at h
 split at h
 ·rename_i v e
  obtain ⟨w,e',r⟩:=rs.at_ i v e
  split at h
  ·exact h.elim
  ·rename_i n
   exact ⟨w,e',h ρ H w (ax.refl _ _) sr (r.un n)⟩
 ·exact h.elim
theorem qE {e:Expr} {v:V} {c:ao} (h:PE X e (tC v)) (r:∀ ρ H,Rl X.K ρ H c v):PE X e (tE X E (mC c)):=by
 refine PE.imp h ?_
 rintro σ H Q ⟨μ,ρ,st,rs,sr,h⟩
 exact h ρ H v (ax.refl _ _) sr (r ρ H)
theorem FU {i j}:PE X (.Constant (.int i) j pos) (tE X E (mC (.int i))):=qE Ez fun _ _ => Rl.mkInt i
theorem Jk {b j}:PE X (.Constant (.bool b) j pos) (tE X E (mC (.bl b))):=qE DV fun _ _ => Rl.v8 b
theorem FV {j}:PE X (.Constant .none j pos) (tE X E (mC .cB)):=qE EA fun _ _ => Rl.uL
theorem FW {x j}:PE X (.Constant (.str x) j pos) (tE X E (mC (.str x))):=qE EB fun _ _ => Rl.mkStr x
structure Glob (K:PySem.W.Frag) (mg:Str → Option Value) (x:Str) (c:ao):Prop where
 at_:∃ (u:Value) (v:V),mg x = some u ∧ ba v u ∧ ∀ ρ H,Rl K ρ H c v
theorem eO {x:Str} {c:ao} (hg:Gl X x) (h:Glob X.K X.mg x c) (hd:(x == ("__debug__":Str)) = false:=by decide):PE X (.Name x pos) (tE X E (mC c)):=by
 obtain ⟨u,v,h1,h2,h3⟩:=h.at_
 exact qE (uz hg h1 h2 hd) h3
end
noncomputable abbrev F2:=ao → ao → ag → bW ao
noncomputable def rM (W:Wo) (E:XK) (f:F2):R2:=fun x y H Q => ∃ ρ st u w,SR W.K ρ st H ∧ Rl W.K ρ H u x ∧ Rl W.K ρ H w y ∧ wR W E (Rl W.K) ρ H Q (f u w st)
noncomputable def aj (f:F2) (a b:ME):ME:=fun μ st => (a μ st).bind fun x st1 => (b μ st1).bind fun y st2 => f x y st2
section
variable {X:Cx} {E:XK} {pos:Pos} {a b c:Expr} {ma mb mc:ME} {f g:F2}
theorem ja {σ:St} {H:Hp} {Q:VK} (h:tE X E (aj f ma mb) σ H Q):HD (rM (wo X) E f) (tE X E ma) (tE X E mb) σ H Q:=by
 obtain ⟨μ,ρ,st,rs,sr,h⟩:=h
 refine go μ ρ st rs sr h fun u st1 ρ1 H1 x e1 bw r1 h1 => ?_
 refine go μ ρ1 st1 (rs.mono e1) bw h1 fun w st2 ρ2 H2 y e2 gy r2 h2 => ?_
 exact ⟨ρ2,st2,u,w,gy,Rl.mono e2 _ _ r1,r2,h2⟩
theorem mf {op:Operator} (ho:c5 X (binaryOp op) (rM (wo X) E f)) (ha:PE X a (tE X E ma)) (hb:PE X b (tE X E mb)):PE X (.BinOp a op b pos) (tE X E (aj f ma mb)) :=
 PE.imp (Iq ho ha hb) fun _ _ _ h => ja h
theorem iN {op:CmpOp} (ho:c5 X (compareOp op) (rM (wo X) E f)) (ha:PE X a (tE X E ma)) (hb:PE X b (tE X E mb)) (hm:behindInMarks op b = false:=by first | exact x_ _ | (with_unfolding_all rfl)):PE X (.Compare a [op] [b] pos) (tE X E (aj f ma mb)) :=
 PE.imp (Bx ho ha hb hm) fun _ _ _ h => ja h
noncomputable def bg (m:ME):MT:=fun μ st => (m μ st).bind fun v av => match v with
 | .bl b => .ok b av
 | _ => .bad
theorem mm {m:ME} {σ:St} {H:Hp} {Q:Bool → Hp → Prop} (h:tT X E (bg m) σ H Q):tE X E m σ H fun x H' => ∃ k,x = .bl k ∧ Q k H':=by
 obtain ⟨μ,ρ,st,rs,sr,h⟩:=h
 refine go μ ρ st rs sr h fun u st1 ρ1 H1 x e1 bw r1 h1 => ?_
 cases u with
 | bl b => exact ⟨b,r1.pz,h1 ρ1 H1 b (ax.refl _ _) bw rfl⟩
 | _ => exact h1.elim
theorem jN {op:CmpOp} (ho:c5 X (compareOp op) (rM (wo X) E f)) (ha:PE X a (tE X E ma)) (hb:PE X b (tE X E mb)) (hm:behindInMarks op b = false:=by first | exact x_ _ | (with_unfolding_all rfl)):PT X (.Compare a [op] [b] pos) (tT X E (bg (aj f ma mb))) :=
 PT.imp (By ho ha hb hm) fun σ H Q h => by
  show HD (rM (wo X) E f) (tE X E ma) (tE X E mb) σ H _
  exact ja (mm h)
theorem FX {m:ME} (h:PE X a (tE X E m)) (he:∀ whole,isTrue a X.env whole = (do let v ← whole; standAt a.pos; holding [v] (truthy v)):=by intro _; rfl):PT X a (tT X E (bg m)) :=
 PT.imp (EC h he) fun σ H Q h => mm h
noncomputable def iO (f g:F2) (a b c:ME):ME:=fun μ st => (a μ st).bind fun x st1 => (b μ st1).bind fun y st2 => (f x y st2).bind fun z fD => match z with
 | .bl true => (c μ fD).bind fun w ku => g y w ku
 | .bl false => .ok (.bl false) fD
 | _ => .bad
noncomputable def Tells (f:F2):Prop:=∀ u w st,f u w st = .bad ∨ ∃ b,f u w st = .ok (.bl b) st
theorem mn (hf:Tells f) {σ:St} {H:Hp} {Q:VK} (h:tE X E (iO f g ma mb mc) σ H Q):oY (rM (wo X) E f) (rM (wo X) E g) (tE X E ma) (tE X E mb) (tE X E mc) σ H Q:=by
 obtain ⟨μ,ρ,st,rs,sr,h⟩:=h
 refine go μ ρ st rs sr h fun u st1 ρ1 H1 x e1 bw r1 h1 => ?_
 refine go μ ρ1 st1 (rs.mono e1) bw h1 fun w st2 ρ2 H2 y e2 gy r2 h2 => ?_
 refine ⟨ρ2,st2,u,w,gy,Rl.mono e2 _ _ r1,r2,?_⟩
 rcases hf u w st2 with e | ⟨k,e⟩
 ·rw [e] at h2; exact h2.elim
 ·rw [e] at h2 ⊢
  intro ρ3 H3 z e3 nL rz
  rw [rz.pz]
  refine ⟨k,rfl,?_⟩
  cases k with
  | true =>
   rw [if_pos rfl]
   refine go μ ρ3 st2 (((rs.mono e1).mono e2).mono e3) nL (wR.mono h2 e3) fun v ku ρ4 H4 x4 e4 kP r4 h4 => ?_
   exact ⟨ρ4,ku,w,v,kP,Rl.mono (e3.trans e4) _ _ r2,r4,h4⟩
  | false =>
   rw [if_neg Bool.false_ne_true]
   exact h2 ρ3 H3 _ e3 nL (Rl.v8 false)
theorem yE {op sm:CmpOp} (hf:Tells f) (ho:c5 X (compareOp op) (rM (wo X) E f)) (lH:c5 X (compareOp sm) (rM (wo X) E g)) (ha:PE X a (tE X E ma)) (hb:PE X b (tE X E mb)) (hc:PE X c (tE X E mc))
  (hm:lastMarks [op,sm] [b,c] = false:=by with_unfolding_all rfl):PE X (.Compare a [op,sm] [b,c] pos) (tE X E (iO f g ma mb mc)) :=
 PE.imp (x! ho lH ha hb hc hm) fun _ _ _ h => mn hf h
theorem yF {op sm:CmpOp} (hf:Tells f) (ho:c5 X (compareOp op) (rM (wo X) E f)) (lH:c5 X (compareOp sm) (rM (wo X) E g)) (ha:PE X a (tE X E ma)) (hb:PE X b (tE X E mb)) (hc:PE X c (tE X E mc))
  (hm:lastMarks [op,sm] [b,c] = false:=by with_unfolding_all rfl):PT X (.Compare a [op,sm] [b,c] pos) (tT X E (bg (iO f g ma mb mc))) :=
 PT.imp (x? ho lH ha hb hc hm) fun σ H Q h => by
  show oY (rM (wo X) E f) (rM (wo X) E g) (tE X E ma) (tE X E mb) (tE X E mc) σ H _
  exact mn hf (mm h)
noncomputable def mq (a b:ME):ME:=fun μ st => (a μ st).bind fun x st1 => match x with
 | .bl true => b μ st1
 | .bl false => .ok (.bl false) st1
 | _ => .bad
noncomputable def KR (a b:ME):ME:=fun μ st => (a μ st).bind fun x st1 => match x with
 | .bl true => .ok (.bl true) st1
 | .bl false => b μ st1
 | _ => .bad
noncomputable def FY (a:ME):ME:=fun μ st => (a μ st).bind fun x st1 => match x with
 | .bl b => .ok (.bl (!b)) st1
 | _ => .bad
noncomputable def kA (a b:MT):MT:=fun μ st => (a μ st).bind fun x st1 => match x with
 | true => b μ st1
 | false => .ok false st1
noncomputable def iP (a b:MT):MT:=fun μ st => (a μ st).bind fun x st1 => match x with
 | true => .ok true st1
 | false => b μ st1
noncomputable def c6 (a:MT):MT:=fun μ st => (a μ st).bind fun x st1 => .ok (!x) st1
noncomputable def v9 (t:MT) (a b:ME):ME:=fun μ st => (t μ st).bind fun x st1 => match x with
 | true => a μ st1
 | false => b μ st1
variable {rest:List Expr} {tA Bn:MT}
theorem FZ {op} {m:ME} (h:PE X a (tE X E m)):PE X (.BoolOp op [a] pos) (tE X E m):=EI h
theorem F0 (ha:PE X a (tE X E ma)) (hb:PE X (.BoolOp .And (b :: rest) pos) (tE X E mb)):PE X (.BoolOp .And (a :: b :: rest) pos) (tE X E (mq ma mb)):=by
 refine PE.imp (EJ ha hb) ?_
 rintro σ H Q ⟨μ,ρ,st,rs,sr,h⟩
 refine go μ ρ st rs sr h fun u st1 ρ1 H1 x e1 bw r1 h1 => ?_
 cases u with
 | bl k =>
  refine ⟨k,r1.pz,?_⟩
  cases k with
  | true => rw [if_pos rfl]; exact ⟨μ,ρ1,st1,rs.mono e1,bw,h1⟩
  | false => rw [if_neg Bool.false_ne_true]; exact h1 ρ1 H1 _ (ax.refl _ _) bw (Rl.v8 false)
 | _ => exact h1.elim
theorem Jl (ha:PE X a (tE X E ma)) (hb:PE X (.BoolOp .Or (b :: rest) pos) (tE X E mb)):PE X (.BoolOp .Or (a :: b :: rest) pos) (tE X E (KR ma mb)):=by
 refine PE.imp (Ib ha hb) ?_
 rintro σ H Q ⟨μ,ρ,st,rs,sr,h⟩
 refine go μ ρ st rs sr h fun u st1 ρ1 H1 x e1 bw r1 h1 => ?_
 cases u with
 | bl k =>
  refine ⟨k,r1.pz,?_⟩
  cases k with
  | true => rw [if_pos rfl]; exact h1 ρ1 H1 _ (ax.refl _ _) bw (Rl.v8 true)
  | false => rw [if_neg Bool.false_ne_true]; exact ⟨μ,ρ1,st1,rs.mono e1,bw,h1⟩
 | _ => exact h1.elim
theorem F1 (ha:PE X a (tE X E ma)):PE X (.UnaryOp .Not a pos) (tE X E (FY ma)):=by
 refine PE.imp (EL ha) ?_
 rintro σ H Q ⟨μ,ρ,st,rs,sr,h⟩
 refine go μ ρ st rs sr h fun u st1 ρ1 H1 x e1 bw r1 h1 => ?_
 cases u with
 | bl k => exact ⟨k,r1.pz,h1 ρ1 H1 _ (ax.refl _ _) bw (Rl.v8 _)⟩
 | _ => exact h1.elim
theorem Ca (ha:PT X a (tT X E tA)):PW X (.BoolOp .And [a] pos) (tT X E tA):=Bo ha
theorem F3 (ha:PT X a (tT X E tA)):PW X (.BoolOp .Or [a] pos) (tT X E tA):=ED ha
theorem F4 (ha:PT X a (tT X E tA)) (hb:PW X (.BoolOp .And (b :: rest) pos) (tT X E Bn)):PW X (.BoolOp .And (a :: b :: rest) pos) (tT X E (kA tA Bn)):=by
 refine PW.imp (EF ha hb) ?_
 rintro σ H Q ⟨μ,ρ,st,rs,sr,h⟩
 refine go (R1:=RB) μ ρ st rs sr h fun u st1 ρ1 H1 x e1 bw r1 h1 => ?_
 cases r1
 cases u with
 | true => rw [if_pos rfl]; exact ⟨μ,ρ1,st1,rs.mono e1,bw,h1⟩
 | false => rw [if_neg Bool.false_ne_true]; exact h1 ρ1 H1 _ (ax.refl _ _) bw rfl
theorem Jm (ha:PT X a (tT X E tA)) (hb:PW X (.BoolOp .Or (b :: rest) pos) (tT X E Bn)):PW X (.BoolOp .Or (a :: b :: rest) pos) (tT X E (iP tA Bn)):=by
 refine PW.imp (H! ha hb) ?_
 rintro σ H Q ⟨μ,ρ,st,rs,sr,h⟩
 refine go (R1:=RB) μ ρ st rs sr h fun u st1 ρ1 H1 x e1 bw r1 h1 => ?_
 cases r1
 cases u with
 | true => rw [if_pos rfl]; exact h1 ρ1 H1 _ (ax.refl _ _) bw rfl
 | false => rw [if_neg Bool.false_ne_true]; exact ⟨μ,ρ1,st1,rs.mono e1,bw,h1⟩
theorem Mt {e:Expr} {t:MT} (h:PW X e (tT X E t)):PT X e (tT X E t):=h.pt
theorem F5 (ha:PT X a (tT X E tA)):PT X (.UnaryOp .Not a pos) (tT X E (c6 tA)):=by
 refine PT.imp (EG ha) ?_
 rintro σ H Q ⟨μ,ρ,st,rs,sr,h⟩
 refine go (R1:=RB) μ ρ st rs sr h fun u st1 ρ1 H1 x e1 bw r1 h1 => ?_
 cases r1
 exact h1 ρ1 H1 _ (ax.refl _ _) bw rfl
theorem Jn (hc:PT X c (tT X E tA)) (ha:PE X a (tE X E ma)) (hb:PE X b (tE X E mb)):PE X (.IfExp c a b pos) (tE X E (v9 tA ma mb)):=by
 refine PE.imp (xW hc ha hb) ?_
 rintro σ H Q ⟨μ,ρ,st,rs,sr,h⟩
 refine go (R1:=RB) μ ρ st rs sr h fun u st1 ρ1 H1 x e1 bw r1 h1 => ?_
 cases r1
 cases u with
 | true => rw [if_pos rfl]; exact ⟨μ,ρ1,st1,rs.mono e1,bw,h1⟩
 | false => rw [if_neg Bool.false_ne_true]; exact ⟨μ,ρ1,st1,rs.mono e1,bw,h1⟩
end
noncomputable def ah:MA:=fun _ st => .ok [] st
noncomputable def aa (a:ME) (r:MA):MA:=fun μ st => (a μ st).bind fun x st1 => (r μ st1).bind fun xs st2 => .ok (x :: xs) st2
noncomputable def du (a:MA):ME:=fun μ st => (a μ st).bind fun xs st1 => if xs.length ≤ sizeLine then .ok (.tup xs) st1 else .bad
noncomputable def bx (a:MA):ME:=fun μ st => (a μ st).bind fun xs st1 => if xs.length ≤ sizeLine then .ok (.loc st1.length) (st1 ++ [.lst xs]) else .bad
noncomputable abbrev FN:=List ao → ag → bW ao
noncomputable def ai (f:FN) (a:MA):ME:=fun μ st => (a μ st).bind fun xs st1 => f xs st1
noncomputable def F6 (W:Wo) (f:FN):Sp:=fun vs H Q E => ∃ us ρ st,aP W.K ρ H us vs ∧ SR W.K ρ st H ∧ wR W E (Rl W.K) ρ H Q (f us st)
noncomputable def cM (W:Wo) (E:XK) (f:FN):List V → Hp → VK → Prop:=fun xs H Q => ∃ ρ st us,SR W.K ρ st H ∧ aP W.K ρ H us xs ∧ wR W E (Rl W.K) ρ H Q (f us st)
section
variable {X:Cx} {E:XK} {pos p:Pos} {e:Expr} {es:List Expr} {m:ME} {ms:MA} {f:FN} {x:Str}
theorem F7:PA X [] (tL X E ah):=PA.imp lV fun σ H Q ⟨μ,ρ,st,rs,sr,h⟩ => h ρ H [] (ax.refl _ _) sr aP.nil
theorem Cb (ha:PE X e (tE X E m)) (hr:PA X es (tL X E ms)) (hs:starEach (e :: es) X.env = (false,eval e X.env) :: starEach es X.env:=by rfl):PA X (e :: es) (tL X E (aa m ms)):=by
 refine PA.imp (f_ ha hr hs) ?_
 rintro σ H Q ⟨μ,ρ,st,rs,sr,h⟩
 refine go μ ρ st rs sr h fun u st1 ρ1 H1 x e1 bw r1 h1 => ?_
 refine go (R1:=aP X.K) μ ρ1 st1 (rs.mono e1) bw h1 fun w st2 ρ2 H2 y e2 gy r2 h2 => ?_
 exact h2 ρ2 H2 _ (ax.refl _ _) gy (aP.cons (Rl.mono e2 _ _ r1) r2)
theorem F8 {k} (h:PA X es (tL X E ms)):PE X (.Tuple es k pos) (tE X E (du ms)):=by
 refine PE.imp (E9 h) ?_
 rintro σ H Q ⟨μ,ρ,st,rs,sr,h⟩
 refine go (R1:=aP X.K) μ ρ st rs sr h fun us st1 ρ1 H1 xs e1 bw r1 h1 => ?_
 by_cases hz:us.length ≤ sizeLine
 ·rw [if_pos hz] at h1
  refine ⟨by rw [← r1.length]; exact hz,fun p hp => ?_⟩
  have s:=cC (o:=.tup xs) hp
  exact h1 ρ1 _ _ (ax.same s) (bw.grow s) (Rl.l? bT (aP.mono (ax.same s) _ _ r1))
 ·rw [if_neg hz] at h1; exact h1.elim
theorem eQ {K:PySem.W.Frag} {ρ:List Addr} {st:ag} {H:Hp} {us:List ao} {xs:List V} (sr:SR K ρ st H) (r:aP K ρ H us xs) {p:Addr} (hp:H p = none) :
  ax ρ H (ρ ++ [p]) (upd H p (.lst xs)) ∧ SR K (ρ ++ [p]) (st ++ [.lst us]) (upd H p (.lst xs)) ∧ Rl K (ρ ++ [p]) (upd H p (.lst xs)) (.loc st.length) (.ref p):=by
 have s:=cC (o:=.lst xs) hp
 refine ⟨ax.snoc p s,sr.alloc hp ⟨xs,bT,aP.mono (ax.snoc p s) _ _ r⟩,Rl.yD ?_⟩
 rw [← sr.len,List.getElem?_append_right (Nat.le_refl _),Nat.sub_self]
 rfl
theorem F9 (h:PA X es (tL X E ms)):PE X (.List es pos) (tE X E (bx ms)):=by
 refine PE.imp (E_ h) ?_
 rintro σ H Q ⟨μ,ρ,st,rs,sr,h⟩
 refine go (R1:=aP X.K) μ ρ st rs sr h fun us st1 ρ1 H1 xs e1 bw r1 h1 => ?_
 by_cases hz:us.length ≤ sizeLine
 ·rw [if_pos hz] at h1
  refine ⟨by rw [← r1.length]; exact hz,fun p hp => ?_⟩
  obtain ⟨a,b,c⟩:=eQ bw r1 hp
  exact h1 _ _ _ a b c
 ·rw [if_neg hz] at h1; exact h1.elim
theorem Cc {k:Nat} {fa:Addr} {fd:FuncData} {ps:List Str} {CX:r0} (F:gJ X.prog X.w X.K X.mg X.base CX k fa fd ps (F6 ⟨X.K,X.mg,[]⟩ f)) (hr:dJ k X.A) (hg:Gl X x) (hm:X.mg x = some (.ref fa)) (hk:PySem.W.keepIn X.K (.ref fa) = true)
  (hb:Binds X.K fd ps []) (hx:Passes CX X E) (ha:PA X (e :: es) (tL X E ms)) (kK:(x == ("__debug__":Str)) = false:=by decide)
  (he:starEach (e :: es) X.env = (false,eval e X.env) :: starEach es X.env:=by rfl) (hV:(backTo pos (starEach es X.env)).any (·.1) = false:=by rfl) :
  PE X (.Call (.Name x p) (e :: es) [] pos) (tE X E (ai f ms)):=by
 refine PE.imp (BA F hr hg hm hk hb .nil hx ha kK he hV) ?_
 rintro σ H Q ⟨μ,ρ,st,rs,sr,h⟩
 refine go (R1:=aP X.K) μ ρ st rs sr h fun us st1 ρ1 H1 xs e1 bw r1 h1 => ?_
 rw [List.append_nil]
 exact ⟨us,ρ1,st1,r1,bw,wR.pn h1⟩
theorem mr {id:String} (hc:bV X (.builtin id) (cM (wo X) E f)) (hg:Gl X x) (hm:X.mg x = none) (hv:bootBuiltins x = some (.builtin id)) (ha:PA X (e :: es) (tL X E ms)) (hn:x ≠ "__name__":=by decide) (kK:(x == ("__debug__":Str)) = false:=by decide)
  (he:starEach (e :: es) X.env = (false,eval e X.env) :: starEach es X.env:=by rfl) (hV:(backTo pos (starEach es X.env)).any (·.1) = false:=by rfl):PE X (.Call (.Name x p) (e :: es) [] pos) (tE X E (ai f ms)):=by
 refine PE.imp (lW hc hg hm hv ha hn kK he hV) ?_
 rintro σ H Q ⟨μ,ρ,st,rs,sr,h⟩
 exact go (R1:=aP X.K) μ ρ st rs sr h fun us st1 ρ1 H1 xs e1 bw r1 h1 => ⟨ρ1,st1,us,bw,r1,h1⟩
theorem jO {T:String} (hc:bV X (.type T) (cM (wo X) E f)) (hg:Gl X x) (hm:X.mg x = none) (hv:bootBuiltins x = some (.type T)) (ha:PA X (e :: es) (tL X E ms)) (hn:x ≠ "__name__":=by decide) (kK:(x == ("__debug__":Str)) = false:=by decide)
  (he:starEach (e :: es) X.env = (false,eval e X.env) :: starEach es X.env:=by rfl) (hV:(backTo pos (starEach es X.env)).any (·.1) = false:=by rfl):PE X (.Call (.Name x p) (e :: es) [] pos) (tE X E (ai f ms)):=by
 refine PE.imp (vL hc hg hm hv ha hn kK he hV) ?_
 rintro σ H Q ⟨μ,ρ,st,rs,sr,h⟩
 exact go (R1:=aP X.K) μ ρ st rs sr h fun us st1 ρ1 H1 xs e1 bw r1 h1 => ⟨ρ1,st1,us,bw,r1,h1⟩
end
section
variable {X:Cx} {E:XK} {pos:Pos} {a b:Expr} {ma mb:ME} {f:F2}
theorem D! (hr:p? X (rM (wo X) E f)) (ha:PE X a (tE X E ma)) (hb:PE X b (tE X E mb)) (hs:o7 b:=by exact fun _ _ => rfl):PE X (.Subscript a b pos) (tE X E (aj f ma mb)) :=
 PE.imp (IG hr ha hb hs) fun _ _ _ h => ja h
end
noncomputable def wS (W:Wo) (E:XK) (ρ:List Addr) (H:Hp) (D:Ends):bQ → Prop
 | .nx μ st => ∀ ρ' H' σ',ax ρ H ρ' H' → SR W.K ρ' st H' → RS W ρ' H' μ σ' → D.nx σ' H'
 | .rt v st => ∀ ρ' H' x,ax ρ H ρ' H' → SR W.K ρ' st H' → Rl W.K ρ' H' v x → D.rt x H'
 | .bk μ st => ∀ ρ' H' σ',ax ρ H ρ' H' → SR W.K ρ' st H' → RS W ρ' H' μ σ' → D.bk σ' H'
 | .ct μ st => ∀ ρ' H' σ',ax ρ H ρ' H' → SR W.K ρ' st H' → RS W ρ' H' μ σ' → D.ct σ' H'
 | .er c _ st => ∃ C,W.mg c = some (.ref C) ∧ ∀ ρ' H',ax ρ H ρ' H' → SR W.K ρ' st H' → E (.ref C) none H'
 | .bad => False
theorem wS.mono {W:Wo} {E:XK} {ρ ρ':List Addr} {H H':Hp} {D:Ends} {r:bQ} (h:wS W E ρ H D r) (e:ax ρ H ρ' H'):wS W E ρ' H' D r:=by
 cases r with
 | nx μ st => exact fun ρ2 H2 σ2 e2 s r => h ρ2 H2 σ2 (e.trans e2) s r
 | rt v st => exact fun ρ2 H2 x e2 s r => h ρ2 H2 x (e.trans e2) s r
 | bk μ st => exact fun ρ2 H2 σ2 e2 s r => h ρ2 H2 σ2 (e.trans e2) s r
 | ct μ st => exact fun ρ2 H2 σ2 e2 s r => h ρ2 H2 σ2 (e.trans e2) s r
 | er c μ st => obtain ⟨C,h1,h2⟩:=h; exact ⟨C,h1,fun ρ2 H2 e2 s => h2 ρ2 H2 (e.trans e2) s⟩
 | bad => exact h
noncomputable def tS (X:Cx) (E:XK) (m:MB):TS:=fun D σ H => ∃ μ ρ st,RS (wo X) ρ H μ σ ∧ SR X.K ρ st H ∧ wS (wo X) E ρ H D (m μ st)
@[reducible] def bW.sb {α:Type} (r:bW α) (μ:Env) (k:α → ag → bQ):bQ:=match r with
 | .ok a st => k a st
 | .err c st => .er c μ st
 | .bad => .bad
theorem xP {α β:Type} {W:Wo} {E:XK} {R1:List Addr → Hp → α → β → Prop} {m:Env → ag → bW α} {k:α → ag → bQ} {σ:St} {H:Hp} {D:Ends} {Q':β → Hp → Prop}
  (μ:Env) (ρ:List Addr) (st:ag) (rs:RS W ρ H μ σ) (sr:SR W.K ρ st H) (h:wS W E ρ H D ((m μ st).sb μ k))
  (c:∀ u st1 ρ1 H1 x,ax ρ H ρ1 H1 → SR W.K ρ1 st1 H1 → R1 ρ1 H1 u x → wS W E ρ1 H1 D (k u st1) → Q' x H1):tG W E R1 m σ H Q':=by
 refine ⟨μ,ρ,st,rs,sr,?_⟩
 cases e:m μ st with
 | ok u st1 =>
  rw [e] at h
  intro ρ1 H1 x e1 bw r1
  exact c u st1 ρ1 H1 x e1 bw r1 (wS.mono h e1)
 | err c st1 => rw [e] at h; exact h
 | bad => rw [e] at h; exact h
noncomputable def aD:MB:=fun μ st => .nx μ st
noncomputable def aw (a b:MB):MB:=fun μ st => match a μ st with
 | .nx μ' av => b μ' av
 | r => r
noncomputable def bh (m:ME):MB:=fun μ st => (m μ st).sb μ fun _ av => .nx μ av
noncomputable def aO (m:ME):MB:=fun μ st => (m μ st).sb μ fun v av => .rt v av
noncomputable def cg (t:MT) (a b:MB):MB:=fun μ st => (t μ st).sb μ fun k av => match k with
 | true => a μ av
 | false => b μ av
noncomputable def bu (i:Nat) (m:ME):MB:=fun μ st => (m μ st).sb μ fun v av => .nx (μ.set i (some v)) av
noncomputable def cD (c:Str) (m:MA):MB:=fun μ st => (m μ st).sb μ fun vs av => if vs.length ≤ sizeLine then .er c μ av else .bad
section
variable {X:Cx} {E:XK} {pos:Pos} {s1:Stmt} {rest:List Stmt} {e:Expr} {m:ME} {a b:MB}
theorem F_:gG X [] (tS X E aD):=gG.imp Bp fun D σ H ⟨μ,ρ,st,rs,sr,h⟩ => h ρ H σ (ax.refl _ _) sr rs
theorem uM (h1:PS X s1 (tS X E a)) (h2:gG X rest (tS X E b)):gG X (s1 :: rest) (tS X E (aw a b)):=by
 refine gG.imp (xX h1 h2) ?_
 rintro D σ H ⟨μ,ρ,st,rs,sr,h⟩
 refine ⟨μ,ρ,st,rs,sr,?_⟩
 unfold aw at h
 cases e:a μ st with
 | nx μ' av =>
  rw [e] at h
  intro ρ1 H1 σ1 e1 bw D?
  exact ⟨μ',ρ1,av,D?,bw,wS.mono h e1⟩
 | rt v av => rw [e] at h; exact h
 | bk μ' av => rw [e] at h; exact h
 | ct μ' av => rw [e] at h; exact h
 | er c μ' av => rw [e] at h; exact h
 | bad => rw [e] at h; exact h
theorem yG (h1:PS X s1 (tS X E a)):gG X [s1] (tS X E a):=Bq h1
theorem Cd (he:PE X e (tE X E m)) (hs:swapsWith e none pos.line X.env = pure false:=by rfl):PS X (.Expr e pos) (tS X E (bh m)):=by
 refine PS.imp (Br he hs) ?_
 rintro D σ H ⟨μ,ρ,st,rs,sr,h⟩
 exact xP μ ρ st rs sr h fun u st1 ρ1 H1 x e1 bw r1 h1 => h1 ρ1 H1 σ (ax.refl _ _) bw (rs.mono e1)
theorem F! (he:PE X e (tE X E m)):PS X (.Return (some e) pos) (tS X E (aO m)):=by
 refine PS.imp (EM he) ?_
 rintro D σ H ⟨μ,ρ,st,rs,sr,h⟩
 exact xP μ ρ st rs sr h fun u st1 ρ1 H1 x e1 bw r1 h1 => h1 ρ1 H1 x (ax.refl _ _) bw r1
theorem Jo {c:Expr} {sa sb:List Stmt} {t:MT} (hc:PT X c (tT X E t)) (ha:gG X sa (tS X E a)) (hb:gG X sb (tS X E b)):PS X (.If c sa sb pos) (tS X E (cg t a b)):=by
 refine PS.imp (Ig hc ha hb) ?_
 rintro D σ H ⟨μ,ρ,st,rs,sr,h⟩
 refine xP (R1:=RB) μ ρ st rs sr h fun u st1 ρ1 H1 x e1 bw r1 h1 => ?_
 cases r1
 cases u with
 | true => rw [if_pos rfl]; exact ⟨μ,ρ1,st1,rs.mono e1,bw,h1⟩
 | false => rw [if_neg Bool.false_ne_true]; exact ⟨μ,ρ1,st1,rs.mono e1,bw,h1⟩
theorem qF {i:Nat} {D:Ends} {σ:St} {H:Hp} (h:tS X E (bu i m) D σ H):Bv (tE X E m) (qi i) D σ H:=by
 obtain ⟨μ,ρ,st,rs,sr,h⟩:=h
 exact xP μ ρ st rs sr h fun u st1 ρ1 H1 x e1 bw r1 h1 => h1 ρ1 H1 _ (ax.refl _ _) bw ((rs.mono e1).set i r1)
theorem F? (i:Nat) {x:Str} {pos':Pos} (hN:X.N.Nodup) (he:PE X e (tE X E m)) (hi:X.N[i]? = some x:=by rfl) (hx:Loc X.env.scope x:=by first | exact Or.inl rfl | exact Or.inr rfl) (hs:swapsWith e (some (.Name x pos')) pos.line X.env = pure false:=by rfl)
  (hf:X.fn x = true ∨ X.env.scope.names.lookup x = some .local:=by first | exact .inl rfl | exact .inr rfl | assumption):PS X (.Assign [.Name x pos'] e pos) (tS X E (bu i m)) :=
 PS.imp (ET hN hi hx he hs hf) fun _ _ _ h => qF h
theorem yH {x:Str} {C:Addr} {B newId sL:String} {bm:List Value} {np bC:Pos} {e₀:Expr} {es:List Expr} {ms:MA} (hX:Raises X E) (hc:X.calm = true) (hm:X.mg x = some (.ref C)) (hq:PySem.W.excIn X.K C bm newId = true) (FB:ExcBaseFacts B newId sL bm) (hg:Gl X x) (ha:PA X (e₀ :: es) (tL X E ms))
  (he:starEach (e₀ :: es) X.env = (false,eval e₀ X.env) :: starEach es X.env:=by rfl) (hV:(backTo bC (starEach es X.env)).any (·.1) = false:=by rfl) (hd:(x == ("__debug__":Str)) = false:=by decide) :
  PS X (.Raise (some (.Call (.Name x np) (e₀ :: es) [] bC)) none pos) (tS X E (cD x ms)):=by
 refine PS.imp (yz (E:=E) hX hc hm hq FB hg ha he hV hd) ?_
 rintro D σ H ⟨μ,ρ,st,rs,sr,h⟩
 refine xP (R1:=aP X.K) μ ρ st rs sr h fun us st1 ρ1 H1 xs e1 bw r1 h1 => ?_
 by_cases hz:us.length ≤ sizeLine
 ·rw [if_pos hz] at h1
  obtain ⟨C',q1,q2⟩:=h1
  have e:C' = C:=by
   have:=q1.symm.trans hm
   injection this with this
   injection this
  subst e
  exact ⟨by rw [← r1.length]; exact hz,q2 ρ1 H1 (ax.refl _ _) bw⟩
 ·rw [if_neg hz] at h1; exact h1.elim
end
noncomputable def dM (np n:Nat) (body:MB):FN:=fun us st => if us.length = np then (match body (us.map some ++ List.replicate (n - np) none) st with
 | .nx _ av => .ok .cB av
 | .rt v av => .ok v av
 | .er c _ av => .err c av
 | _ => .bad) else .bad
theorem RS.start {W:Wo} {ρ:List Addr} {H:Hp} {N:List Str} {us:List ao} {vs:List V} (r:aP W.K ρ H us vs):RS W ρ H (us.map some ++ List.replicate (N.length - us.length) none) (L2.start N vs):=by
 have hl:=r.length
 refine ⟨by simp [L2.start,hl],fun i u e => ?_⟩
 rcases Nat.lt_or_ge i us.length with q | q
 ·rw [List.getElem?_append_left (by rw [List.length_map]; exact q),List.getElem?_map] at e
  have e':us[i]? = some u:=by
   cases z:us[i]? with
   | none => rw [z] at e; cases e
   | some w => rw [z] at e; exact congrArg _ (Option.some.inj (Option.some.inj e))
  obtain ⟨v,h1,h2⟩:=r.get e'
  refine ⟨v,?_,sN.of h2⟩
  unfold L2.start
  rw [List.getElem?_append_left (by rw [List.length_map,← hl]; exact q),List.getElem?_map,h1]
  rfl
 ·rw [List.getElem?_append_right (by rw [List.length_map]; exact q)] at e
  rw [List.getElem?_replicate] at e
  split at e
  ·cases e
  ·cases e
section
variable {P:Program} {w:World} {K:PySem.W.Frag} {mg:Str → Option Value} {base:Heap}
theorem yI {x qual:Str} {st:Stmt} {f:Addr} {fd:FuncData} {N ps:List Str} {k:Nat} {body:MB} (F:Bh K x qual st f fd) (S:dD N ps (aN st))
  (h:∀ (dc:Value) (A:Around) (outer:List PySem.Env) (s:Shared) (H:Hp) (E:XK),dJ k (A.deeper (envOfC qual (aN st) s.heap.objs.size f dc)) →
   gG (fE (i9 P w) P w K mg base N qual (aN st) f dc A outer s H E) (cK st) (tS (fE (i9 P w) P w K mg base N qual (aN st) f dc A outer s H E) E body)) :
  gJ P w K mg base (i9 P w) (k + 1) f fd ps (F6 ⟨K,mg,[]⟩ (dM ps.length N.length body)):=by
 refine F.Po S (fun vs H Q E q => ?_) (fun dc A outer s H vs Q E hr q => ⟨_,h dc A outer s H E hr,?_⟩)
 ·obtain ⟨us,ρ,st,r,sr,q⟩:=q
  by_cases hl:us.length = ps.length
  ·rw [← r.length]; exact hl
  ·unfold dM at q; rw [if_neg hl] at q; exact q.elim
 ·obtain ⟨us,ρ,av,r,sr,q⟩:=q
  unfold dM at q
  by_cases hl:us.length = ps.length
  ·rw [if_pos hl,← hl] at q
   refine ⟨_,ρ,av,RS.start r,sr,?_⟩
   revert q
   cases body (us.map some ++ List.replicate (N.length - us.length) none) av with
   | nx μ st2 => exact fun q ρ' H' σ' e s _ => q ρ' H' .cB e s Rl.uL
   | rt v st2 => exact fun q => q
   | er c μ st2 => exact fun q => q
   | bk μ st2 => exact fun q => q.elim
   | ct μ st2 => exact fun q => q.elim
   | bad => exact fun q => q.elim
  ·rw [if_neg hl] at q; exact q.elim
end
end MN
namespace MN
open PySem PySem.Spec L2
open PyProof.Rows hiding St
noncomputable def Sz (i:Int):Prop:=i.natAbs.log2 < 1000000
noncomputable instance (i:Int):Decidable (Sz i):=inferInstanceAs (Decidable (_ < _))
theorem Sz.big {i:Int} (h:Sz i):Fy 1000001 i:=by
 show _ < _
 have h1:i.natAbs < 2 ^ (i.natAbs.log2 + 1):=Nat.lt_log2_self
 exact Nat.lt_of_lt_of_le h1 (Nat.pow_le_pow_right (by decide) (by have:i.natAbs.log2 < 1000000:=h; lia))
theorem Sz.mul {i j:Int} (h:Sz i) (k:Sz j):uH i j:=⟨_,_,h.big,k.big,by decide,by decide⟩
noncomputable def Dz (i:Int):Prop:=i ≠ 0 ∧ i.natAbs.log2 < 8000
noncomputable instance (i:Int):Decidable (Dz i):=inferInstanceAs (Decidable (_ ∧ _))
theorem Dz.ok {i j:Int} (h:Dz j):uI i j:=by
 refine ⟨h.1,?_⟩
 show _ < _
 have h1:j.natAbs < 2 ^ (j.natAbs.log2 + 1):=Nat.lt_log2_self
 exact Nat.lt_of_lt_of_le h1 (Nat.pow_le_pow_right (by decide) (by have:=h.2; lia))
theorem Dz.of {k:Nat} {i:Int} (h0:i ≠ 0) (h:Fy k i) (hk:k ≤ 8000):Dz i:=by
 refine ⟨h0,?_⟩
 have h':i.natAbs < 2 ^ k:=h
 exact Nat.lt_of_lt_of_le ((Nat.log2_lt (by lia)).mpr h') hk
noncomputable def MulOk (i j:Int):Prop:=(Sz i ∧ Sz j) ∨ x9 i j
noncomputable instance (i j:Int):Decidable (x9 i j):=inferInstanceAs (Decidable (_ ∨ _))
noncomputable instance (i j:Int):Decidable (MulOk i j):=inferInstanceAs (Decidable (_ ∨ _))
noncomputable instance (i j:Int):Decidable (LA i j):=inferInstanceAs (Decidable (_ ∧ _ ∧ _))
noncomputable def uN (k:Nat) (us:List ao):List ao:=(List.replicate k us).flatten
noncomputable def c!:F2
 | .int i,.int j,st => .ok (.int (i + j)) st
 | .str a,.str b,st => if a.length + b.length ≤ sizeLine then .ok (.str (a ++ b)) st else .bad
 | .tup us,.tup ws,st => if us.length + ws.length ≤ sizeLine then .ok (.tup (us ++ ws)) st else .bad
 | .loc n,.loc m,st => match st[n]?,st[m]? with
  | some (.lst us),some (.lst ws) => if us.length + ws.length ≤ sizeLine then .ok (.loc st.length) (st ++ [.lst (us ++ ws)]) else .bad
  | _,_ => .bad
 | _,_,_ => .bad
noncomputable def qG (g:Int → Int → ag → bW ao):F2
 | .int i,.int j,st => g i j st
 | _,_,_ => .bad
theorem uO (g:Int → Int → ag → bW ao) (u w:ao) (st:ag):(∃ i j,u = .int i ∧ w = .int j) ∨ qG g u w st = .bad:=by
 cases u with
 | int i =>
  cases w with
  | int j => exact .inl ⟨i,j,rfl,rfl⟩
  | _ => exact .inr rfl
 | _ => exact .inr rfl
theorem hZ {g:Int → Int → ag → bW ao} {W:Wo} {E:XK} {ρ:List Addr} {st:ag} {H:Hp} {Q:VK} {u w:ao} (h:wR W E (Rl W.K) ρ H Q (qG g u w st)):∃ i j,u = .int i ∧ w = .int j ∧ wR W E (Rl W.K) ρ H Q (g i j st):=by
 rcases uO g u w st with ⟨i,j,rfl,rfl⟩ | z
 ·exact ⟨i,j,rfl,rfl,h⟩
 ·rw [z] at h; exact h.elim
noncomputable def Ce:F2:=qG fun i j st => .ok (.int (i - j)) st
noncomputable def dN:F2
 | .int i,.int j,st => if MulOk i j then .ok (.int (i * j)) st else .bad
 | .loc n,.int k,st => match st[n]? with
  | some (.lst us) => if -(2 ^ 63) ≤ k ∧ k < 2 ^ 63 ∧ us.length * k.toNat ≤ sizeLine then .ok (.loc st.length) (st ++ [.lst (uN k.toNat us)]) else .bad
  | _ => .bad
 | _,_,_ => .bad
noncomputable def cY:F2:=qG fun i j st => if Dz j then .ok (.int (i.fdiv j)) st else .bad
noncomputable def bB:F2:=qG fun i j st => if j = 0 then .bad else .ok (.int (i.fmod j)) st
noncomputable def ltV:F2:=qG fun i j st => .ok (.bl (decide (i < j))) st
noncomputable def Cf:F2:=qG fun i j st => .ok (.bl (decide (i ≤ j))) st
noncomputable def HJ:F2:=qG fun i j st => .ok (.bl (decide (j < i))) st
theorem qH:Tells Cf:=fun u w st => (uO _ u w st).elim (fun ⟨_,_,e1,e2⟩ => .inr (by rw [e1,e2]; exact ⟨_,rfl⟩)) .inl
section
variable {X:Cx} {E:XK}
theorem dq {W:Wo} {ρ:List Addr} {st:ag} {H:Hp} {Q:VK} {i:Int} (sr:SR W.K ρ st H) (h:wR W E (Rl W.K) ρ H Q (.ok (.int i) st)):Q (.int i) H:=h ρ H _ (ax.refl _ _) sr (Rl.mkInt i)
theorem fQ {W:Wo} {ρ:List Addr} {st:ag} {H:Hp} {Q:VK} {i:Bool} (sr:SR W.K ρ st H) (h:wR W E (Rl W.K) ρ H Q (.ok (.bl i) st)):Q (.bl i) H:=h ρ H _ (ax.refl _ _) sr (Rl.v8 i)
theorem aP.Jp {K:PySem.W.Frag} {ρ:List Addr} {H:Hp} {us:List ao} {xs:List V} (r:aP K ρ H us xs):∀ k:Nat,aP K ρ H (uN k us) (List.replicate k xs).flatten
 | 0 => aP.nil
 | k + 1 => by
  unfold uN
  rw [List.replicate_succ,List.replicate_succ,List.flatten_cons,List.flatten_cons]
  exact r.append (aP.Jp r k)
theorem yJ:c5 X (binaryOp .Add) (fun x y H Q => ∃ a b ys,x = .ref a ∧ y = .ref b ∧ hR X.K H a [] ∧ hR X.K H b ys ∧ Q (.ref b) H):=by
 intro ae s σ H x y v u Q I rx ry h
 obtain ⟨a,b,ys,rfl,rfl,ha,hb,q⟩:=h
 cases rx
 cases ry
 obtain ⟨aA,r1,p1,_⟩:=I.tuple ha
 obtain ⟨de,r2,p2,_⟩:=I.tuple hb
 cases r1
 obtain ⟨⟨cls,dd,data,sl⟩,ho,hc,n,hd⟩:=id p1
 obtain ⟨⟨LH,Kr,data2,DZ⟩,BD,HE,n2,hd2⟩:=id p2
 simp only at hc hd HE hd2
 subst hc hd HE hd2
 exact concat_meets ⟨_,ho,rfl⟩ ⟨_,BD,rfl⟩ noFill_tuple_add seq_tuple_add PySem.F.slot_tuple_add PySem.F.entry_tuple_add (PySem.F.args_tuple_add_2 _ _)
  (tuple_addW0 a b #[] de.toArray n n2 dd Kr sl DZ (by simp)) ⟨ho,BD,⟨.ref b,H,I,rfl,q⟩⟩
theorem Cg:c5 X (binaryOp .Add) (rM (wo X) E c!):=by
 refine c5.imp (c5.or E3 (c5.or sq (c5.or Fl (c5.or BI yJ)))) ?_
 rintro x y H Q ⟨ρ,st,u,w,sr,r1,r2,h⟩
 cases u <;> cases w <;> try exact h.elim
 case int.int i j => exact .inl ⟨i,j,r1.b6,r2.b6,dq sr h⟩
 case str.str a b =>
  unfold c! at h
  dsimp only at h
  split at h
  ·rename_i hz
   exact .inr (.inl ⟨a,b,r1.dE,r2.dE,hz,h ρ H _ (ax.refl _ _) sr (Rl.mkStr _)⟩)
  ·exact h.elim
 case tup.tup us ws =>
  unfold c! at h
  dsimp only at h
  split at h
  ·rename_i hz
   obtain ⟨a,xs,rfl,ha,ra⟩:=r1.fg
   obtain ⟨b,ys,rfl,hb,rb⟩:=r2.fg
   by_cases hx:xs = []
   ·subst hx
    have hu:us = []:=List.eq_nil_of_length_eq_zero ra.length
    subst hu
    exact .inr (.inr (.inr (.inr ⟨a,b,ys,rfl,rfl,ha,hb,h ρ H _ (ax.refl _ _) sr r2⟩)))
   ·refine .inr (.inr (.inr (.inl ⟨a,b,xs,ys,rfl,rfl,ha,hb,hx,by rw [← ra.length,← rb.length]; exact hz,fun hy => ?_,fun hy p hp => ?_⟩)))
    ·subst hy
     have hw:ws = []:=List.eq_nil_of_length_eq_zero rb.length
     subst hw
     rw [List.append_nil] at h
     exact h ρ H _ (ax.refl _ _) sr r1
    ·have s:=cC (o:=.tup (xs ++ ys)) hp
     exact h ρ _ _ (ax.same s) (sr.grow s) (Rl.l? bT (aP.mono (ax.same s) _ _ (ra.append rb)))
  ·exact h.elim
 case loc.loc n m =>
  unfold c! at h
  dsimp only at h
  split at h
  ·rename_i us ws e1 e2
   split at h
   ·rename_i hz
    obtain ⟨a,rfl,ha⟩:=r1.df
    obtain ⟨b,rfl,hb⟩:=r2.df
    obtain ⟨xs,h1,q1⟩:=sr.cell n _ a e1 ha
    obtain ⟨ys,h2,q2⟩:=sr.cell m _ b e2 hb
    refine .inr (.inr (.inl ⟨a,b,xs,ys,rfl,rfl,h1,h2,by rw [← q1.length,← q2.length]; exact hz,fun p hp => ?_⟩))
    obtain ⟨k1,k2,k3⟩:=eQ sr (q1.append q2) hp
    exact h _ _ _ k1 k2 k3
   ·exact h.elim
  ·exact h.elim
theorem Ci:c5 X (binaryOp .Sub) (rM (wo X) E Ce):=by
 refine c5.imp E4 ?_
 rintro x y H Q ⟨ρ,st,u,w,sr,r1,r2,h⟩
 obtain ⟨i,j,rfl,rfl,q⟩:=hZ h
 exact ⟨i,j,r1.b6,r2.b6,dq sr q⟩
theorem Cj:c5 X (binaryOp .Mult) (rM (wo X) E dN):=by
 refine c5.imp (c5.or BU (c5.or E5 Fm)) ?_
 rintro x y H Q ⟨ρ,st,u,w,sr,r1,r2,h⟩
 cases u <;> cases w <;> try exact h.elim
 case int.int i j =>
  unfold dN at h
  dsimp only at h
  split at h
  ·rename_i hz
   rcases hz with hz | hz
   ·exact .inl ⟨i,j,r1.b6,r2.b6,hz.1.mul hz.2,dq sr h⟩
   ·exact .inr (.inl ⟨i,j,r1.b6,r2.b6,hz,dq sr h⟩)
  ·exact h.elim
 case loc.int n k =>
  unfold dN at h
  dsimp only at h
  split at h
  ·rename_i us e1
   split at h
   ·rename_i hz
    obtain ⟨a,rfl,ha⟩:=r1.df
    obtain ⟨xs,h1,q1⟩:=sr.cell n _ a e1 ha
    refine .inr (.inr ⟨a,k,xs,rfl,r2.b6,h1,hz.1,hz.2.1,by rw [← q1.length]; exact hz.2.2,fun p hp => ?_⟩)
    obtain ⟨k1,k2,k3⟩:=eQ sr (q1.Jp k.toNat) hp
    exact h _ _ _ k1 k2 k3
   ·exact h.elim
  ·exact h.elim
theorem yK:c5 X (binaryOp .FloorDiv) (rM (wo X) E cY):=by
 refine c5.imp yo ?_
 rintro x y H Q ⟨ρ,st,u,w,sr,r1,r2,h⟩
 obtain ⟨i,j,rfl,rfl,h0⟩:=hZ h
 clear h
 have h:=h0
 clear h0
 ·split at h
  ·rename_i hz
   exact ⟨i,j,r1.b6,r2.b6,hz.ok,dq sr h⟩
  ·exact h.elim
theorem Ck:c5 X (binaryOp .Mod) (rM (wo X) E bB):=by
 refine c5.imp Bw ?_
 rintro x y H Q ⟨ρ,st,u,w,sr,r1,r2,h⟩
 obtain ⟨i,j,rfl,rfl,h0⟩:=hZ h
 clear h
 have h:=h0
 clear h0
 ·split at h
  ·exact h.elim
  ·rename_i hz
   exact ⟨i,j,r1.b6,r2.b6,hz,dq sr h⟩
theorem yL:c5 X (compareOp .Lt) (rM (wo X) E ltV):=by
 refine c5.imp Iv ?_
 rintro x y H Q ⟨ρ,st,u,w,sr,r1,r2,h⟩
 obtain ⟨i,j,rfl,rfl,q⟩:=hZ h
 exact ⟨i,j,r1.b6,r2.b6,fQ sr q⟩
theorem pA:c5 X (compareOp .LtE) (rM (wo X) E Cf):=by
 refine c5.imp Iw ?_
 rintro x y H Q ⟨ρ,st,u,w,sr,r1,r2,h⟩
 obtain ⟨i,j,rfl,rfl,q⟩:=hZ h
 exact ⟨i,j,r1.b6,r2.b6,fQ sr q⟩
theorem yM:c5 X (compareOp .Gt) (rM (wo X) E HJ):=by
 refine c5.imp Iy ?_
 rintro x y H Q ⟨ρ,st,u,w,sr,r1,r2,h⟩
 obtain ⟨i,j,rfl,rfl,q⟩:=hZ h
 exact ⟨i,j,r1.b6,r2.b6,fQ sr q⟩
noncomputable def v_ (m:ME):ME:=fun μ st => (m μ st).bind fun v av => match v with
 | .int i => .ok (.int (-i)) av
 | _ => .bad
theorem F' {a:Expr} {m:ME} {pos:Pos} (h:PE X a (tE X E m)):PE X (.UnaryOp .USub a pos) (tE X E (v_ m)):=by
 refine PE.imp (Ir E6 h) ?_
 rintro σ H Q ⟨μ,ρ,st,rs,sr,h⟩
 refine go μ ρ st rs sr h fun u st1 ρ1 H1 x e1 bw r1 h1 => ?_
 cases u with
 | int i => exact ⟨i,r1.b6,dq bw h1⟩
 | _ => exact h1.elim
end
noncomputable def flat:ao → Bool
 | .cB => true
 | .bl _ => true
 | .int _ => true
 | .str _ => true
 | _ => false
noncomputable def Cm:ao → ao → Bool
 | .cB,.cB => true
 | .bl a,.bl b => a == b
 | .bl a,.int b => (if a then 1 else 0) == b
 | .int a,.bl b => a == (if b then 1 else 0)
 | .int a,.int b => a == b
 | .str a,.str b => a == b
 | _,_ => false
noncomputable def ak (st:ag) (n:Nat):Option (List ao):=match st[n]? with
 | some (.lst us) => some us
 | some (.FR us) => some us
 | some (.mod us) => some us
 | _ => none
inductive Vw where
 | lst (us:List ao) | tup (us:List ao) | lF
noncomputable def vw (st:ag):ao → Option Vw
 | .tup us => some (.tup us)
 | .loc n => (ak st n).map .lst
 | .cB => some .lF
 | .bl _ => some .lF
 | .int _ => some .lF
 | .str _ => some .lF
 | _ => none
noncomputable def il (f:ao → ao → Option Bool):List ao → List ao → Option Bool
 | [],[] => some true
 | x :: xs,y :: ys => match f x y,il f xs ys with
  | some a,some b => some (a && b)
  | _,_ => none
 | [],_ :: _ => some false
 | _ :: _,[] => some false
noncomputable def kQ:Nat → ag → ao → ao → Option Bool
 | 0,_,_,_ => none
 | n + 1,st,u,w => match vw st u,vw st w with
  | some (.tup us),some (.tup ws) => il (kQ n st) us ws
  | some (.lst us),some (.lst ws) => il (kQ n st) us ws
  | some .lF,some .lF => some (Cm u w)
  | some _,some _ => some false
  | _,_ => none
theorem mw {f:ao → ao → Option Bool}:∀ {us ws:List ao} {b:Bool},il f us ws = some b → us.length ≠ ws.length → b = false
 | [],[],_,_,h => absurd rfl h
 | [],_ :: _,b,e,_ => by injection e with e; exact e.symm
 | _ :: _,[],b,e,_ => by injection e with e; exact e.symm
 | x :: xs,y :: ys,b,e,h => by
  unfold il at e
  split at e
  ·rename_i a c h1 h2
   injection e with e
   rw [← e,mw h2 (fun z => h (by simp [z])),Bool.and_false]
  ·cases e
theorem uP {f:ao → ao → Option Bool}:∀ {us ws:List ao} {b:Bool},il f us ws = some b → ∀ (j:Nat) (u w:ao),us[j]? = some u → ws[j]? = some w → ∃ c,f u w = some c
 | [],_,_,_,j,u,w,h1,_ => by cases h1
 | _ :: _,[],_,_,j,u,w,_,h2 => by cases h2
 | x :: xs,y :: ys,b,e,j,u,w,h1,h2 => by
  unfold il at e
  split at e
  ·rename_i a c q1 q2
   cases j with
   | zero => cases h1; cases h2; exact ⟨a,q1⟩
   | succ j => exact uP q2 j u w h1 h2
  ·cases e
noncomputable def KS (f:ao → ao → Option Bool) (us ws:List ao) (j:Nat):Bool:=match us[j]?,ws[j]? with
 | some u,some w => (f u w).getD true
 | _,_ => true
theorem mB {f:ao → ao → Option Bool}:∀ {us ws:List ao} {b:Bool},il f us ws = some b → us.length = ws.length → (List.range us.length).all (KS f us ws) = b
 | [],[],b,e,_ => by injection e
 | [],_ :: _,_,_,h => by simp at h
 | _ :: _,[],_,_,h => by simp at h
 | x :: xs,y :: ys,b,e,h => by
  have h':xs.length = ys.length:=by simpa using h
  unfold il at e
  split at e
  ·rename_i a c q1 q2
   injection e with e
   rw [List.length_cons,List.range_succ_eq_map,List.all_cons,List.all_map,← e,← mB q2 h']
   congr 1
   show (f x y).getD true = a
   rw [q1]; rfl
  ·cases e
section
variable {X:Cx} {ae:List (Addr × Obj)} {σ:St} {H:Hp} {s:Shared} {ρ:List Addr} {st:ag}
theorem bb (sr:SR X.K ρ st H) {n:Nat} {us:List ao} {a:Addr} (h:ak st n = some us) (ha:ρ[n]? = some a):∃ vs,i8 X.K H a vs ∧ aP X.K ρ H us vs:=by
 unfold ak at h
 split at h
 ·rename_i ws e
  cases h
  obtain ⟨vs,h1,h2⟩:=sr.cell n _ a e ha
  exact ⟨vs,i8.of h1,h2⟩
 ·rename_i ws e
  cases h
  obtain ⟨o,vs,h1,h2⟩:=sr.cell n _ a e ha
  exact ⟨vs,.inl (.inr ⟨o,h1⟩),h2⟩
 ·rename_i ws e
  cases h
  obtain ⟨vs,h1,h2⟩:=sr.cell n _ a e ha
  exact ⟨vs,.inr h1,h2⟩
 ·cases h
theorem uQ (I:aG X ae σ H s) (sr:SR X.K ρ st H):∀ (n:Nat) (u w:ao) (x:V) (b:Bool),Rl X.K ρ H u x → Rl X.K ρ H w x → kQ n st u w = some b → b = true
 | 0,_,_,_,_,_,_,e => by cases e
 | n + 1,u,w,x,b,r1,r2,e => by
  have lst:∀ (us ws:List ao) (vs:List V) (b:Bool),aP X.K ρ H us vs → aP X.K ρ H ws vs → il (kQ n st) us ws = some b → b = true:=by
   intro us
   induction us with
   | nil =>
    intro ws vs b h1 h2 e
    have:=h1.dP
    subst this
    have hw:ws = []:=List.eq_nil_of_length_eq_zero h2.length
    subst hw
    injection e with e; exact e.symm
   | cons u us ih =>
    intro ws vs b h1 h2 e
    obtain ⟨v,r,rfl,q1,q2⟩:=h1.b_
    cases ws with
    | nil => have:=h2.dP; cases this
    | cons w ws =>
     obtain ⟨v',r',e',q3,q4⟩:=h2.b_
     cases e'
     unfold il at e
     split at e
     ·rename_i a c z1 z2
      injection e with e
      rw [← e,uQ I sr n u w v a q1 q3 z1,ih ws r c q2 q4 z2]; rfl
     ·cases e
  unfold kQ at e
  cases u <;> cases w <;> dsimp only [vw] at e <;> try (cases e; done)
  all_goals first
   | (have z1:=Rl.b6 r1; subst z1; have z2:=Rl.b6 r2; cases z2; injection e with e; rw [← e]; exact beq_self_eq_true _)
   | (have z1:=Rl.pz r1; subst z1; have z2:=Rl.pz r2; cases z2; injection e with e; rw [← e]; exact beq_self_eq_true _)
   | (have z1:=Rl.dE r1; subst z1; have z2:=Rl.dE r2; cases z2; injection e with e; rw [← e]; exact beq_self_eq_true _)
   | (have z1:=Rl.l! r1; subst z1; injection e with e; exact e.symm)
   | skip
  case tup.tup us ws =>
   obtain ⟨a,vs,rfl,ha,ra⟩:=r1.fg
   obtain ⟨a',Ea,ea,hb,rb⟩:=r2.fg
   cases ea
   have:=I.hU ha hb
   subst this
   exact lst us ws vs b ra rb e
  case loc.loc i j =>
   obtain ⟨a,rfl,ha⟩:=r1.df
   obtain ⟨a',ea,hb⟩:=r2.df
   cases ea
   cases z:ak st i with
   | none => rw [z] at e; cases e
   | some us =>
    cases z2:ak st j with
    | none => rw [z,z2] at e; cases e
    | some ws =>
     rw [z,z2] at e
     obtain ⟨vs,s1,rv⟩:=bb sr z ha
     obtain ⟨Ea,s2,PD⟩:=bb sr z2 hb
     have:=I.lS s1 s2
     subst this
     exact lst us ws vs b rv PD e
  all_goals (exfalso; first
   | (have z1:=Rl.b6 r1; subst z1; first | (have z2:=Rl.pz r2; cases z2; done) | (have z2:=Rl.dE r2; cases z2; done) | (have z2:=Rl.l! r2; cases z2; done) | (obtain ⟨_,_,z2,_⟩:=r2.fg; cases z2; done) | (obtain ⟨_,z2,_⟩:=r2.df; cases z2; done))
   | (have z1:=Rl.pz r1; subst z1; first | (have z2:=Rl.b6 r2; cases z2; done) | (have z2:=Rl.dE r2; cases z2; done) | (have z2:=Rl.l! r2; cases z2; done) | (obtain ⟨_,_,z2,_⟩:=r2.fg; cases z2; done) | (obtain ⟨_,z2,_⟩:=r2.df; cases z2; done))
   | (have z1:=Rl.dE r1; subst z1; first | (have z2:=Rl.b6 r2; cases z2; done) | (have z2:=Rl.pz r2; cases z2; done) | (have z2:=Rl.l! r2; cases z2; done) | (obtain ⟨_,_,z2,_⟩:=r2.fg; cases z2; done) | (obtain ⟨_,z2,_⟩:=r2.df; cases z2; done))
   | (have z1:=Rl.l! r1; subst z1; first | (have z2:=Rl.b6 r2; cases z2; done) | (have z2:=Rl.pz r2; cases z2; done) | (have z2:=Rl.dE r2; cases z2; done) | (obtain ⟨_,_,z2,_⟩:=r2.fg; cases z2; done) | (obtain ⟨_,z2,_⟩:=r2.df; cases z2; done))
   | (obtain ⟨_,_,z1,_⟩:=r1.fg; subst z1; first | (have z2:=Rl.b6 r2; cases z2; done) | (have z2:=Rl.pz r2; cases z2; done) | (have z2:=Rl.dE r2; cases z2; done) | (have z2:=Rl.l! r2; cases z2; done))
   | (obtain ⟨_,z1,_⟩:=r1.df; subst z1; first | (have z2:=Rl.b6 r2; cases z2; done) | (have z2:=Rl.pz r2; cases z2; done) | (have z2:=Rl.dE r2; cases z2; done) | (have z2:=Rl.l! r2; cases z2; done))
   | skip)
  case tup.loc us j =>
   obtain ⟨a,vs,rfl,ha,ra⟩:=r1.fg
   obtain ⟨a',ea,hb⟩:=r2.df
   cases ea
   cases z:ak st j with
   | none => rw [z] at e; cases e
   | some Jq =>
    obtain ⟨ws,hw,_⟩:=bb sr z hb
    obtain ⟨_,_,p1,_⟩:=I.tuple ha
    obtain ⟨_,_,p2,_⟩:=I.list hw
    exact SeqAt.ne_of_list_tuple p2.isList p1 rfl
  case loc.tup i us =>
   obtain ⟨a,rfl,ha⟩:=r1.df
   obtain ⟨a',vs,ea,hb,rb⟩:=r2.fg
   cases ea
   cases z:ak st i with
   | none => rw [z] at e; cases e
   | some Jq =>
    obtain ⟨ws,hw,_⟩:=bb sr z ha
    obtain ⟨_,_,p1,_⟩:=I.tuple hb
    obtain ⟨_,_,p2,_⟩:=I.list hw
    exact SeqAt.ne_of_list_tuple p2.isList p1 rfl
  all_goals (cases z:ak st _ <;> rw [z] at e <;> cases e)
noncomputable def yN (X:Cx) (ρ:List Addr) (H:Hp) (s:Shared):Vw → ao → Value → Prop
 | .tup us,_,v => ∃ a aA vs,v = .ref a ∧ s.heap.IsTuple a (List.toArray aA) ∧ a7 vs aA ∧ aP X.K ρ H us vs
 | .lst us,_,v => ∃ a aA vs,v = .ref a ∧ s.heap.IsList a (List.toArray aA) ∧ a7 vs aA ∧ aP X.K ρ H us vs
 | .lF,u,v => (u = .cB ∧ v = .none) ∨ (∃ b,u = .bl b ∧ v = .bool b) ∨ (∃ i t,u = .int i ∧ v = .int i t) ∨ (∃ z t,u = .str z ∧ v = .str z t)
theorem seen (I:aG X ae σ H s) (sr:SR X.K ρ st H) {u:ao} {x:V} {v:Value} {k:Vw} (r:Rl X.K ρ H u x) (q:ba x v) (h:vw st u = some k):yN X ρ H s k u v:=by
 cases u with
 | cB => cases h; have:=r.l!; subst this; exact .inl ⟨rfl,q⟩
 | bl b => cases h; have:=r.pz; subst this; exact .inr (.inl ⟨b,rfl,q⟩)
 | int i => cases h; have:=r.b6; subst this; obtain ⟨t,q⟩:=q; exact .inr (.inr (.inl ⟨i,t,rfl,q⟩))
 | str z => cases h; have:=r.dE; subst this; obtain ⟨t,q⟩:=q; exact .inr (.inr (.inr ⟨z,t,rfl,q⟩))
 | tup us =>
  cases h
  obtain ⟨a,vs,rfl,ha,ra⟩:=r.fg
  obtain ⟨aA,r1,p1,_⟩:=I.tuple ha
  exact ⟨a,aA,vs,q,p1,r1,ra⟩
 | loc n =>
  obtain ⟨a,rfl,ha⟩:=r.df
  cases z:ak st n with
  | none => simp only [vw,z] at h; cases h
  | some us =>
   simp only [vw,z] at h
   cases h
   obtain ⟨vs,hs,rv⟩:=bb sr z ha
   obtain ⟨aA,r1,p1,_⟩:=I.list hs
   exact ⟨a,aA,vs,q,p1.isList,r1,rv⟩
 | exc c => cases h
 | fn k c => cases h
 | mt us => cases h
theorem yO {A:Around} {f:ao → ao → Option Bool} {us ws:List ao} {xs ys:List V} {aA de:List Value} {b:Bool} (e:il f us ws = some b) (ra:aP X.K ρ H us xs) (rb:aP X.K ρ H ws ys) (va:a7 xs aA) (vb:a7 ys de)
  (ih:∀ u w x y vu vw c,Rl X.K ρ H u x → ba x vu → Rl X.K ρ H w y → ba y vw → f u w = some c → SeqAt.EqAt A s vu vw c) :
  ∀ j (h1:j < aA.toArray.size) (h2:j < de.toArray.size),SeqAt.EqAt A s aA.toArray[j] de.toArray[j] (KS f us ws j):=by
 intro j h1 h2
 have l1:=va.length
 have l2:=vb.length
 have l3:=ra.length
 have l4:=rb.length
 simp only [List.size_toArray] at h1 h2
 have e1:us[j]? = some us[j]:=List.getElem?_eq_getElem (by lia)
 have e2:ws[j]? = some ws[j]:=List.getElem?_eq_getElem (by lia)
 obtain ⟨x,hx,rx⟩:=ra.get e1
 obtain ⟨y,hy,ry⟩:=rb.get e2
 obtain ⟨u,hu,ru⟩:=va.get hx
 obtain ⟨v,hv,rv⟩:=vb.get hy
 have q1:aA.toArray[j] = u:=by
  obtain ⟨_,e⟩:=List.getElem?_eq_some_iff.mp hu
  simpa using e
 have q2:de.toArray[j] = v:=by
  obtain ⟨_,e⟩:=List.getElem?_eq_some_iff.mp hv
  simpa using e
 obtain ⟨c,hc⟩:=uP e j _ _ e1 e2
 rw [q1,q2]
 unfold KS
 rw [e1,e2]
 dsimp only
 rw [hc]
 exact ih _ _ _ _ _ _ c rx ru ry rv hc
theorem in1_units (A:Around):A.in1.units = A.units + 1:=by rfl
theorem Ga {A:Around} (I:aG X ae σ H s) (sr:SR X.K ρ st H) (n:Nat) (ih:∀ u w x y vu vw c,Rl X.K ρ H u x → ba x vu → Rl X.K ρ H w y → ba y vw → kQ n st u w = some c → SeqAt.EqAt A.in1 s vu vw c) (hu:A.units < cLine)
  {u w:ao} {x y:V} {v1 v2:Value} {b:Bool} (r1:Rl X.K ρ H u x) (q1:ba x v1) (r2:Rl X.K ρ H w y) (q2:ba y v2) (e:kQ (n + 1) st u w = some b):SeqAt.RcAt A s v1 v2 b ∧ SeqAt.RcNeAt A s v1 v2 (!b):=by
 unfold kQ at e
 cases z1:vw st u with
 | none => rw [z1] at e; cases e
 | some k1 =>
  cases z2:vw st w with
  | none => rw [z1,z2] at e; cases k1 <;> cases e
  | some k2 =>
   rw [z1,z2] at e
   have s1:=seen I sr r1 q1 z1
   have s2:=seen I sr r2 q2 z2
   cases k1 with
   | tup us =>
    obtain ⟨a,aA,xs,rfl,p1,va,ra⟩:=s1
    cases k2 with
    | tup ws =>
     obtain ⟨a2,de,ys,rfl,p2,vb,rb⟩:=s2
     have el:=yO e ra rb va vb ih
     have l1:=va.length
     have l2:=vb.length
     have l3:=ra.length
     have l4:=rb.length
     have hb:((List.range (min aA.toArray.size de.toArray.size)).all (KS (kQ n st) us ws) && aA.toArray.size == de.toArray.size) = b:=by
      by_cases hl:us.length = ws.length
      ·rw [show min aA.toArray.size de.toArray.size = us.length by simp only [List.size_toArray]; lia,mB e hl,show (aA.toArray.size == de.toArray.size) = true by simp only [List.size_toArray,beq_iff_eq]; lia,Bool.and_true]
      ·rw [show (aA.toArray.size == de.toArray.size) = false by simp only [List.size_toArray,beq_eq_false_iff_ne]; lia,Bool.and_false]
       exact (mw e hl).symm
     have g1:=SeqAt.RcAt.tuples p1 p2 hu el
     have g2:=SeqAt.RcNeAt.tuples p1 p2 hu el
     rw [hb] at g1 g2
     exact ⟨g1,g2⟩
    | lst ws =>
     obtain ⟨a2,de,ys,rfl,p2,vb,rb⟩:=s2
     cases e
     exact ⟨SeqAt.RcAt.tuple_list p1 p2 hu,SeqAt.RcNeAt.tuple_list p1 p2 hu⟩
    | lF =>
     cases e
     rcases s2 with ⟨_,rfl⟩ | ⟨k,_,rfl⟩ | ⟨k,t,_,rfl⟩ | ⟨k,t,_,rfl⟩
     ·exact ⟨SeqAt.RcAt.tuple_none p1 hu,SeqAt.RcNeAt.tuple_none p1 hu⟩
     ·exact ⟨SeqAt.RcAt.tuple_bool _ p1 hu,SeqAt.RcNeAt.tuple_bool _ p1 hu⟩
     ·exact ⟨SeqAt.RcAt.tuple_int _ _ p1 hu,SeqAt.RcNeAt.tuple_int _ _ p1 hu⟩
     ·exact ⟨SeqAt.RcAt.tuple_str _ _ p1 hu,SeqAt.RcNeAt.tuple_str _ _ p1 hu⟩
   | lst us =>
    obtain ⟨a,aA,xs,rfl,p1,va,ra⟩:=s1
    cases k2 with
    | tup ws =>
     obtain ⟨a2,de,ys,rfl,p2,vb,rb⟩:=s2
     cases e
     exact ⟨SeqAt.RcAt.list_tuple p1 p2 hu,SeqAt.RcNeAt.list_tuple p1 p2 hu⟩
    | lst ws =>
     obtain ⟨a2,de,ys,rfl,p2,vb,rb⟩:=s2
     have l1:=va.length
     have l2:=vb.length
     have l3:=ra.length
     have l4:=rb.length
     by_cases hl:us.length = ws.length
     ·have hs:aA.toArray.size = de.toArray.size:=by simp only [List.size_toArray]; lia
      have el:=yO e ra rb va vb ih
      have g1:=SeqAt.RcAt.lists p1 p2 hs hu el
      have g2:=SeqAt.RcNeAt.lists p1 p2 hs hu el
      rw [show aA.toArray.size = us.length by simp only [List.size_toArray]; lia,mB e hl] at g1 g2
      exact ⟨g1,g2⟩
     ·have hs:(aA.toArray.size != de.toArray.size) = true:=by simp only [List.size_toArray,bne_iff_ne]; lia
      rw [mw e hl]
      exact ⟨SeqAt.RcAt.lists_lengths p1 p2 hs hu,SeqAt.RcNeAt.lists_lengths p1 p2 hs hu⟩
    | lF =>
     cases e
     rcases s2 with ⟨_,rfl⟩ | ⟨k,_,rfl⟩ | ⟨k,t,_,rfl⟩ | ⟨k,t,_,rfl⟩
     ·exact ⟨SeqAt.RcAt.list_none p1 hu,SeqAt.RcNeAt.list_none p1 hu⟩
     ·exact ⟨SeqAt.RcAt.list_bool _ p1 hu,SeqAt.RcNeAt.list_bool _ p1 hu⟩
     ·exact ⟨SeqAt.RcAt.list_int _ _ p1 hu,SeqAt.RcNeAt.list_int _ _ p1 hu⟩
     ·exact ⟨SeqAt.RcAt.list_str _ _ p1 hu,SeqAt.RcNeAt.list_str _ _ p1 hu⟩
   | lF =>
    cases k2 with
    | tup ws =>
     obtain ⟨a2,de,ys,rfl,p2,vb,rb⟩:=s2
     cases e
     rcases s1 with ⟨_,rfl⟩ | ⟨k,_,rfl⟩ | ⟨k,t,_,rfl⟩ | ⟨k,t,_,rfl⟩
     ·exact ⟨SeqAt.RcAt.none_tuple p2 hu,SeqAt.RcNeAt.none_tuple p2 hu⟩
     ·exact ⟨SeqAt.RcAt.bool_tuple _ p2 hu,SeqAt.RcNeAt.bool_tuple _ p2 hu⟩
     ·exact ⟨SeqAt.RcAt.int_tuple _ _ p2 hu,SeqAt.RcNeAt.int_tuple _ _ p2 hu⟩
     ·exact ⟨SeqAt.RcAt.str_tuple _ _ p2 hu,SeqAt.RcNeAt.str_tuple _ _ p2 hu⟩
    | lst ws =>
     obtain ⟨a2,de,ys,rfl,p2,vb,rb⟩:=s2
     cases e
     rcases s1 with ⟨_,rfl⟩ | ⟨k,_,rfl⟩ | ⟨k,t,_,rfl⟩ | ⟨k,t,_,rfl⟩
     ·exact ⟨SeqAt.RcAt.none_list p2 hu,SeqAt.RcNeAt.none_list p2 hu⟩
     ·exact ⟨SeqAt.RcAt.bool_list _ p2 hu,SeqAt.RcNeAt.bool_list _ p2 hu⟩
     ·exact ⟨SeqAt.RcAt.int_list _ _ p2 hu,SeqAt.RcNeAt.int_list _ _ p2 hu⟩
     ·exact ⟨SeqAt.RcAt.str_list _ _ p2 hu,SeqAt.RcNeAt.str_list _ _ p2 hu⟩
    | lF =>
     injection e with e
     subst e
     rcases s1 with ⟨rfl,rfl⟩ | ⟨i,rfl,rfl⟩ | ⟨i,t,rfl,rfl⟩ | ⟨i,t,rfl,rfl⟩ <;> rcases s2 with ⟨rfl,rfl⟩ | ⟨j,rfl,rfl⟩ | ⟨j,t',rfl,rfl⟩ | ⟨j,t',rfl,rfl⟩
     ·exact ⟨SeqAt.RcAt.none_none,SeqAt.RcNeAt.none_none⟩
     ·exact ⟨SeqAt.RcAt.none_bool _,SeqAt.RcNeAt.none_bool _⟩
     ·exact ⟨SeqAt.RcAt.none_int _ _,SeqAt.RcNeAt.none_int _ _⟩
     ·exact ⟨SeqAt.RcAt.none_str _ _,SeqAt.RcNeAt.none_str _ _⟩
     ·exact ⟨SeqAt.RcAt.bool_none _,SeqAt.RcNeAt.bool_none _⟩
     ·exact ⟨SeqAt.RcAt.bool_bool _ _,SeqAt.RcNeAt.bool_bool _ _⟩
     ·exact ⟨SeqAt.RcAt.bool_int _ _ _,SeqAt.RcNeAt.bool_int _ _ _⟩
     ·exact ⟨SeqAt.RcAt.bool_str _ _ _,SeqAt.RcNeAt.bool_str _ _ _⟩
     ·exact ⟨SeqAt.RcAt.int_none _ _,SeqAt.RcNeAt.int_none _ _⟩
     ·exact ⟨SeqAt.RcAt.int_bool _ _ _,SeqAt.RcNeAt.int_bool _ _ _⟩
     ·exact ⟨SeqAt.RcAt.int_int _ _ _ _,SeqAt.RcNeAt.int_int _ _ _ _⟩
     ·exact ⟨SeqAt.RcAt.int_str _ _ _ _,SeqAt.RcNeAt.int_str _ _ _ _⟩
     ·exact ⟨SeqAt.RcAt.str_none _ _,SeqAt.RcNeAt.str_none _ _⟩
     ·exact ⟨SeqAt.RcAt.str_bool _ _ _,SeqAt.RcNeAt.str_bool _ _ _⟩
     ·exact ⟨SeqAt.RcAt.str_int _ _ _ _,SeqAt.RcNeAt.str_int _ _ _ _⟩
     ·exact ⟨SeqAt.RcAt.str_str _ _ _ _,SeqAt.RcNeAt.str_str _ _ _ _⟩
theorem Cn {A:Around} {u w:ao} {v1 v2:Value} (s1:yN X ρ H s .lF u v1) (s2:yN X ρ H s .lF w v2):SeqAt.EqAt A s v1 v2 (Cm u w):=by
 rcases s1 with ⟨rfl,rfl⟩ | ⟨i,rfl,rfl⟩ | ⟨i,t,rfl,rfl⟩ | ⟨i,t,rfl,rfl⟩ <;> rcases s2 with ⟨rfl,rfl⟩ | ⟨j,rfl,rfl⟩ | ⟨j,t',rfl,rfl⟩ | ⟨j,t',rfl,rfl⟩
 ·exact SeqAt.EqAt.same _
 ·exact SeqAt.EqAt.none_bool _
 ·exact SeqAt.EqAt.none_int _ _
 ·exact SeqAt.EqAt.none_str _ _
 ·exact SeqAt.EqAt.bool_none _
 ·exact SeqAt.EqAt.bool_bool _ _
 ·exact SeqAt.EqAt.bool_int _ _ _
 ·exact SeqAt.EqAt.bool_str _ _ _
 ·exact SeqAt.EqAt.int_none _ _
 ·exact SeqAt.EqAt.int_bool _ _ _
 ·exact SeqAt.EqAt.int_int _ _ _ _
 ·exact SeqAt.EqAt.int_str _ _ _ _
 ·exact SeqAt.EqAt.str_none _ _
 ·exact SeqAt.EqAt.str_bool _ _ _
 ·exact SeqAt.EqAt.str_int _ _ _ _
 ·exact SeqAt.EqAt.str_str _ _ _ _
theorem sO (I:aG X ae σ H s) (sr:SR X.K ρ st H):∀ (n:Nat) (A:Around),A.units + n < cLine → ∀ (u w:ao) (x y:V) (v1 v2:Value) (b:Bool),Rl X.K ρ H u x → ba x v1 → Rl X.K ρ H w y → ba y v2 → kQ n st u w = some b → SeqAt.EqAt A s v1 v2 b
 | 0,_,_,_,_,_,_,_,_,_,_,_,_,_,e => by cases e
 | n + 1,A,hu,u,w,x,y,v1,v2,b,r1,q1,r2,q2,e => by
  have rc:=(Ga I sr n (fun u w x y vu vw c a1 a2 a3 a4 a5 => sO I sr n A.in1 (by rw [in1_units]; lia) u w x y vu vw c a1 a2 a3 a4 a5) (by lia) r1 q1 r2 q2 e).1
  have refs:∀ a a2,v1 = .ref a → v2 = .ref a2 → SeqAt.EqAt A s v1 v2 b:=by
   intro a a2 e1 e2
   subst e1 e2
   by_cases hn:a = a2
   ·subst hn
    have hx:x = y:=q1.inj q2
    subst hx
    rw [uQ I sr (n + 1) u w x b r1 r2 e]
    exact SeqAt.EqAt.same _
   ·exact SeqAt.EqAt.of_refs hn rc
  cases z1:vw st u with
  | none => unfold kQ at e; rw [z1] at e; cases e
  | some k1 =>
   cases z2:vw st w with
   | none => unfold kQ at e; rw [z1,z2] at e; cases k1 <;> cases e
   | some k2 =>
    have s1:=seen I sr r1 q1 z1
    have s2:=seen I sr r2 q2 z2
    unfold kQ at e
    rw [z1,z2] at e
    cases k1 with
    | tup us =>
     obtain ⟨a,aA,xs,rfl,p1,va,ra⟩:=s1
     cases k2 with
     | tup ws => obtain ⟨a2,de,ys,rfl,p2,vb,rb⟩:=s2; exact refs a a2 rfl rfl
     | lst ws => obtain ⟨a2,de,ys,rfl,p2,vb,rb⟩:=s2; exact refs a a2 rfl rfl
     | lF =>
      cases e
      rcases s2 with ⟨_,rfl⟩ | ⟨k,_,rfl⟩ | ⟨k,t,_,rfl⟩ | ⟨k,t,_,rfl⟩
      ·exact SeqAt.EqAt.tuple_none p1 (by lia)
      ·exact SeqAt.EqAt.tuple_bool _ p1 (by lia)
      ·exact SeqAt.EqAt.tuple_int _ _ p1 (by lia)
      ·exact SeqAt.EqAt.tuple_str _ _ p1 (by lia)
    | lst us =>
     obtain ⟨a,aA,xs,rfl,p1,va,ra⟩:=s1
     cases k2 with
     | tup ws => obtain ⟨a2,de,ys,rfl,p2,vb,rb⟩:=s2; exact refs a a2 rfl rfl
     | lst ws => obtain ⟨a2,de,ys,rfl,p2,vb,rb⟩:=s2; exact refs a a2 rfl rfl
     | lF =>
      cases e
      rcases s2 with ⟨_,rfl⟩ | ⟨k,_,rfl⟩ | ⟨k,t,_,rfl⟩ | ⟨k,t,_,rfl⟩
      ·exact SeqAt.EqAt.list_none p1 (by lia)
      ·exact SeqAt.EqAt.list_bool _ p1 (by lia)
      ·exact SeqAt.EqAt.list_int _ _ p1 (by lia)
      ·exact SeqAt.EqAt.list_str _ _ p1 (by lia)
    | lF =>
     cases k2 with
     | tup ws =>
      obtain ⟨a2,de,ys,rfl,p2,vb,rb⟩:=s2
      cases e
      rcases s1 with ⟨_,rfl⟩ | ⟨k,_,rfl⟩ | ⟨k,t,_,rfl⟩ | ⟨k,t,_,rfl⟩
      ·exact SeqAt.EqAt.none_tuple p2 (by lia)
      ·exact SeqAt.EqAt.bool_tuple _ p2 (by lia)
      ·exact SeqAt.EqAt.int_tuple _ _ p2 (by lia)
      ·exact SeqAt.EqAt.str_tuple _ _ p2 (by lia)
     | lst ws =>
      obtain ⟨a2,de,ys,rfl,p2,vb,rb⟩:=s2
      cases e
      rcases s1 with ⟨_,rfl⟩ | ⟨k,_,rfl⟩ | ⟨k,t,_,rfl⟩ | ⟨k,t,_,rfl⟩
      ·exact SeqAt.EqAt.none_list p2 (by lia)
      ·exact SeqAt.EqAt.bool_list _ p2 (by lia)
      ·exact SeqAt.EqAt.int_list _ _ p2 (by lia)
      ·exact SeqAt.EqAt.str_list _ _ p2 (by lia)
     | lF =>
      injection e with e
      subst e
      exact Cn s1 s2
noncomputable def cb:F2:=fun u w st => match kQ 16 st u w with
 | some b => .ok (.bl b) st
 | none => .bad
noncomputable def kB:F2:=fun u w st => match kQ 16 st u w with
 | some b => .ok (.bl (!b)) st
 | none => .bad
theorem yP {E:XK} (hu:X.A.units + 64 < cLine):c5 X (compareOp .Eq) (rM (wo X) E cb):=by
 intro ae s σ H x y v u Q I rx ry h
 obtain ⟨ρ,st,u1,w1,sr,r1,r2,h⟩:=h
 unfold cb at h
 split at h
 ·rename_i b e
  exact (Ga I sr 15 (sO I sr 15 X.A.in1 (by rw [in1_units]; lia)) (by lia) r1 rx r2 ry e).1 X.prog X.w X.xe (EP X ae σ Q) ⟨.bl b,H,I,rfl,fQ sr h⟩
 ·exact h.elim
theorem yQ {E:XK} (hu:X.A.units + 64 < cLine):c5 X (compareOp .NotEq) (rM (wo X) E kB):=by
 intro ae s σ H x y v u Q I rx ry h
 obtain ⟨ρ,st,u1,w1,sr,r1,r2,h⟩:=h
 unfold kB at h
 split at h
 ·rename_i b e
  exact (Ga I sr 15 (sO I sr 15 X.A.in1 (by rw [in1_units]; lia)) (by lia) r1 rx r2 ry e).2 X.prog X.w X.xe (EP X ae σ Q) ⟨.bl (!b),H,I,rfl,fQ sr h⟩
 ·exact h.elim
noncomputable def yR (st:ag):ao → Option (List ao)
 | .tup us => some us
 | .mt us => some us
 | .loc n => ak st n
 | _ => none
noncomputable def uR (neg:Bool):F2:=fun u w st => match yR st w with
 | some us => if flat u = true ∧ us.all flat = true then .ok (.bl (if neg then !us.any (fun y => Cm y u) else us.any (fun y => Cm y u))) st else .bad
 | none => .bad
theorem jb {K:PySem.W.Frag} {u w:ao} {x y:V} (f1:flat u = true) (f2:flat w = true) (r1:Rl K ρ H u x) (r2:Rl K ρ H w y):gK x = true ∧ gK y = true ∧ Bf x y = Cm u w:=by
 cases u <;> (try cases f1) <;> cases w <;> (try cases f2) <;>
  (first | (have z1:=Rl.b6 r1; subst z1) | (have z1:=Rl.pz r1; subst z1) | (have z1:=Rl.dE r1; subst z1) | (have z1:=Rl.l! r1; subst z1)) <;>
  (first | (have z2:=Rl.b6 r2; subst z2) | (have z2:=Rl.pz r2; subst z2) | (have z2:=Rl.dE r2; subst z2) | (have z2:=Rl.l! r2; subst z2)) <;> exact ⟨rfl,rfl,rfl⟩
theorem jc {K:PySem.W.Frag} {u:ao} {x:V} (f:flat u = true) (r:Rl K ρ H u x):∀ {us:List ao} {vs:List V},us.all flat = true → aP K ρ H us vs → vs.all gK = true ∧ Kt x vs = us.any fun y => Cm y u
 | [],vs,_,h => by rw [h.dP]; exact ⟨rfl,rfl⟩
 | w :: us,vs,hf,h => by
  obtain ⟨v,r',rfl,h2,h3⟩:=h.b_
  rw [List.all_cons,Bool.and_eq_true] at hf
  obtain ⟨a,b,c⟩:=jb hf.1 f h2 r
  obtain ⟨d,e⟩:=jc f r hf.2 h3
  refine ⟨by rw [List.all_cons,a,d]; rfl,?_⟩
  show (Bf v x || Kt x r') = _
  rw [c,e]; rfl
theorem uS {E:XK} {neg:Bool} {x y:V} {H:Hp} {Q:VK} (h:rM (wo X) E (uR neg) x y H Q):LO X.K neg x y H Q:=by
 obtain ⟨ρ,st,u,w,sr,r1,r2,h⟩:=h
 unfold uR at h
 split at h
 ·rename_i us e
  split at h
  ·rename_i hz
   cases w with
   | tup ws =>
    cases e
    obtain ⟨a,vs,rfl,ha,ra⟩:=r2.fg
    obtain ⟨q1,q2⟩:=jc hz.1 r1 hz.2 ra
    refine ⟨a,vs,rfl,.inr ha,(jb hz.1 hz.1 r1 r1).1,q1,?_⟩
    rw [q2]
    exact fQ sr h
   | mt ws =>
    cases e
    obtain ⟨a,vs,rfl,ha,ra⟩:=r2.Mr
    obtain ⟨q1,q2⟩:=jc hz.1 r1 hz.2 ra
    refine ⟨a,vs,rfl,.inr ha,(jb hz.1 hz.1 r1 r1).1,q1,?_⟩
    rw [q2]
    exact fQ sr h
   | loc n =>
    obtain ⟨a,rfl,ha⟩:=r2.df
    obtain ⟨vs,hs,ra⟩:=bb sr e ha
    obtain ⟨q1,q2⟩:=jc hz.1 r1 hz.2 ra
    refine ⟨a,vs,rfl,.inl hs,(jb hz.1 hz.1 r1 r1).1,q1,?_⟩
    rw [q2]
    exact fQ sr h
   | _ => cases e
  ·exact h.elim
 ·exact h.elim
theorem yS {E:XK}:c5 X (compareOp .In) (rM (wo X) E (uR false)):=c5.imp vM fun _ _ _ _ h => uS h
theorem oD {E:XK}:c5 X (compareOp .NotIn) (rM (wo X) E (uR true)):=c5.imp o9 fun _ _ _ _ h => uS h
end
end MN
namespace MN
open PySem PySem.Spec L2
open PyProof.Rows hiding St
section
variable {X:Cx} {E:XK} {pos:Pos}
noncomputable def gz:F2
 | .tup us,.int i,st => match nJ us i with
  | some v => .ok v st
  | none => .bad
 | .loc n,.int i,st => match ak st n with
  | some us => match nJ us i with
   | some v => .ok v st
   | none => .bad
  | none => .bad
 | .str z,.int i,st => if z.length ≤ sizeLine then (match nJ z.cps.toList i with
   | some c => .ok (.str ⟨#[c]⟩) st
   | none => .bad) else .bad
 | _,_,_ => .bad
theorem aP.nJ {K:PySem.W.Frag} {ρ:List Addr} {H:Hp} {us:List ao} {vs:List V} {i:Int} {u:ao} (r:aP K ρ H us vs) (h:nJ us i = some u):∃ v,L2.nJ vs i = some v ∧ Rl K ρ H u v:=by
 unfold L2.nJ at h ⊢
 rw [← r.length]
 cases z:ye us.length i with
 | none => rw [z] at h; cases h
 | some j =>
  rw [z] at h
  obtain ⟨v,h1,h2⟩:=r.get (show us[j]? = some u from h)
  exact ⟨v,h1,h2⟩
theorem Mu:p? X (rM (wo X) E gz):=by
 refine p?.imp (p?.or BJ (p?.or sD Ff)) ?_
 rintro x y H Q ⟨ρ,st,u,w,sr,r1,r2,h⟩
 cases u <;> cases w <;> try exact h.elim
 case tup.int us i =>
  unfold gz at h
  dsimp only at h
  split at h
  ·rename_i v e
   obtain ⟨a,vs,rfl,ha,ra⟩:=r1.fg
   obtain ⟨z,h1,h2⟩:=ra.nJ e
   exact .inr (.inl ⟨a,vs,i,z,rfl,r2.b6,ha,h1,h ρ H z (ax.refl _ _) sr h2⟩)
  ·exact h.elim
 case loc.int n i =>
  unfold gz at h
  dsimp only at h
  split at h
  ·rename_i us e
   split at h
   ·rename_i v e'
    obtain ⟨a,rfl,ha⟩:=r1.df
    obtain ⟨vs,hs,rv⟩:=bb sr e ha
    obtain ⟨z,h1,h2⟩:=rv.nJ e'
    exact .inl ⟨a,vs,i,z,rfl,r2.b6,hs,h1,h ρ H z (ax.refl _ _) sr h2⟩
   ·exact h.elim
  ·exact h.elim
 case str.int z i =>
  unfold gz at h
  dsimp only at h
  split at h
  ·rename_i hz
   split at h
   ·rename_i c e
    exact .inr (.inr ⟨z,i,c,r1.dE,r2.b6,hz,e,h ρ H _ (ax.refl _ _) sr (Rl.mkStr _)⟩)
   ·exact h.elim
  ·exact h.elim
noncomputable def dC:FN
 | [.tup us],st => .ok (.int us.length) st
 | [.loc n],st => match ak st n with
  | some us => .ok (.int us.length) st
  | none => .bad
 | [.str z],st => if z.length ≤ sizeLine then .ok (.int z.length) st else .bad
 | _,_ => .bad
theorem v!:bV X (.builtin "len") (cM (wo X) E dC):=by
 refine bV.imp (bV.or o_ o!) ?_
 rintro xs H Q ⟨ρ,st,us,sr,r,h⟩
 match us,r,h with
 | [],_,h => exact h.elim
 | [.tup ws],r,h =>
  obtain ⟨v,rfl,r1⟩:=r.v7
  obtain ⟨a,vs,rfl,ha,ra⟩:=r1.fg
  refine .inl ⟨a,vs,rfl,.inr ha,?_⟩
  rw [← ra.length]; exact dq sr h
 | [.loc n],r,h =>
  obtain ⟨v,rfl,r1⟩:=r.v7
  obtain ⟨a,rfl,ha⟩:=r1.df
  unfold dC at h
  dsimp only at h
  split at h
  ·rename_i ws e
   obtain ⟨vs,hs,rv⟩:=bb sr e ha
   refine .inl ⟨a,vs,rfl,.inl hs,?_⟩
   rw [← rv.length]; exact dq sr h
  ·exact h.elim
 | [.str z],r,h =>
  obtain ⟨v,rfl,r1⟩:=r.v7
  unfold dC at h
  dsimp only at h
  split at h
  ·rename_i hz
   exact .inr ⟨z,by rw [r1.dE],hz,dq sr h⟩
  ·exact h.elim
 | [.cB],_,h => exact h.elim
 | [.bl _],_,h => exact h.elim
 | [.int _],_,h => exact h.elim
 | [.exc _],_,h => exact h.elim
 | [.fn _ _],_,h => exact h.elim
 | [.mt _],_,h => exact h.elim
 | x :: y :: r,_,h => cases x <;> exact h.elim
noncomputable def sP:FN
 | [.int i],st => .ok (.int (if i < 0 then -i else i)) st
 | _,_ => .bad
theorem v?:bV X (.builtin "abs") (cM (wo X) E sP):=by
 refine bV.imp ya ?_
 rintro xs H Q ⟨ρ,st,us,sr,r,h⟩
 unfold sP at h
 split at h
 ·rename_i i
  obtain ⟨v,rfl,r1⟩:=r.v7
  exact ⟨i,by rw [r1.b6],dq sr h⟩
 ·exact h.elim
noncomputable def sQ:FN
 | [.tup us],st => .ok (.tup us) st
 | [.loc n],st => match ak st n with
  | some us => .ok (.tup us) st
  | none => .bad
 | _,_ => .bad
theorem wa:bV X (.type "tuple") (cM (wo X) E sQ):=by
 refine bV.imp nR ?_
 rintro xs H Q ⟨ρ,st,us,sr,r,h⟩
 unfold sQ at h
 split at h
 ·rename_i ws
  obtain ⟨v,rfl,r1⟩:=r.v7
  obtain ⟨a,vs,rfl,ha,ra⟩:=r1.fg
  exact ⟨a,vs,rfl,.inr ⟨ha,h ρ H _ (ax.refl _ _) sr r1⟩⟩
 ·rename_i n
  obtain ⟨v,rfl,r1⟩:=r.v7
  obtain ⟨a,rfl,ha⟩:=r1.df
  split at h
  ·rename_i ws e
   obtain ⟨vs,hs,rv⟩:=bb sr e ha
   refine ⟨a,vs,rfl,.inl ⟨hs,fun l hl => ?_⟩⟩
   have s:=cC (o:=.tup vs) hl
   exact h ρ _ _ (ax.same s) (sr.grow s) (Rl.l? bT (aP.mono (ax.same s) _ _ rv))
  ·exact h.elim
 ·exact h.elim
noncomputable def fR:List ao → Option (List Bool)
 | [] => some []
 | .bl b :: r => (fR r).map (b :: ·)
 | _ => none
theorem oE {K:PySem.W.Frag} {ρ:List Addr} {H:Hp}:∀ {us:List ao} {bs:List Bool} {vs:List V} {aA:List Value},fR us = some bs → aP K ρ H us vs → a7 vs aA → LSm.BoolsAre aA bs
 | [],bs,vs,aA,h,r,v => by
  cases h
  have:=r.dP
  subst this
  cases v
  exact .nil
 | u :: us,bs,vs,aA,h,r,v => by
  cases u with
  | bl b =>
   simp only [fR] at h
   cases z:fR us with
   | none => rw [z] at h; cases h
   | some QM =>
    rw [z] at h
    cases h
    obtain ⟨x,r',rfl,h2,h3⟩:=r.b_
    have:=h2.pz
    subst this
    cases v with
    | cons q1 q2 =>
     cases q1
     exact .cons b (oE z h3 q2)
  | _ => cases h
theorem mD (hh:X.A.handled = none):bV X (.builtin "all") (fun xs H Q => ∃ a ρ us vs bs,xs = [.ref a] ∧ i8 X.K H a vs ∧ aP X.K ρ H us vs ∧ fR us = some bs ∧ Q (.bl (bs.all id)) H):=by
 rintro ae s σ H xs ws Q I r ⟨a,ρ,us,vs,bs,rfl,hs,rv,hb,q⟩
 obtain ⟨u,rfl,ru⟩:=vals1 r
 cases ru
 obtain ⟨aA,r1,p1,_⟩:=I.list hs
 have B:=oE hb rv r1
 have hl:=p1.isList
 have uJ:a < s.heap.objs.size:=by obtain ⟨_,e,_⟩:=hl; exact Heap.lt_size e
 refine call_all_walk (wpAny_pyIter_list hl ?_)
 refine ⟨s.heap.objs.size,[s.heap.objs.size,a],[s.heap.objs.size],aA.toArray.size,_,_,fun i => (bs[i]?).getD true,rfl,Walks.list (A:=X.A.in1) hh _ a (Nat.ne_of_lt uJ) aA.toArray,
  ⟨⟨_,Heap.get?_push_size _ rfl,rfl,rfl⟩,hl.push _⟩,fun i v s' Q' E' hP hQ => ?_,fun h' tk hk => ?_⟩
 ·obtain ⟨b,e,rfl⟩:=B.get i v (by simpa using hP)
  simp only [e,Option.getD_some] at hQ
  exact wpAny_truthy_bool hQ
 ·have e:((List.range aA.toArray.size).all fun i => (bs[i]?).getD true) = bs.all id:=by
   rw [List.size_toArray,B.length]; exact LSm.range_all bs
  rw [e]
  exact ⟨.bl _,H,I.kept (LSm.kept_iter hk),rfl,q⟩
noncomputable def jP:FN
 | [.loc n],st => match ak st n with
  | some us => match fR us with
   | some bs => .ok (.bl (bs.all id)) st
   | none => .bad
  | none => .bad
 | _,_ => .bad
theorem wb (hh:X.A.handled = none):bV X (.builtin "all") (cM (wo X) E jP):=by
 refine bV.imp (mD hh) ?_
 rintro xs H Q ⟨ρ,st,us,sr,r,h⟩
 unfold jP at h
 split at h
 ·rename_i n
  obtain ⟨v,rfl,r1⟩:=r.v7
  obtain ⟨a,rfl,ha⟩:=r1.df
  split at h
  ·rename_i ws e
   split at h
   ·rename_i bs hb
    obtain ⟨vs,hs,rv⟩:=bb sr e ha
    exact ⟨a,ρ,ws,vs,bs,rfl,hs,rv,hb,fQ sr h⟩
   ·exact h.elim
  ·exact h.elim
 ·exact h.elim
noncomputable def kindOf (st:ag):ao → Option String
 | .cB => some "NoneType"
 | .bl _ => some "bool"
 | .int _ => some "int"
 | .str _ => some "str"
 | .tup _ => some "tuple"
 | .loc n => match st[n]? with
  | some (.lst _) => some "list"
  | some (.FR _) => some "list"
  | some (.mod _) => none
  | some (.dK _) => some "dict"
  | some (.dT _) => some "dict"
  | _ => none
 | _ => none
noncomputable def HK (T:String) (st:ag) (v:ao):Option Bool:=(kindOf st v).map fun k => k == T || (k == "bool" && T == "int")
noncomputable def xQ (T:String) (m:ME):ME:=fun μ st => (m μ st).bind fun v av => match HK T av v with
 | some b => .ok (.bl b) av
 | none => .bad
noncomputable def yT (K:PySem.W.Frag) (T:String):Prop:=∀ k ∈ ["NoneType","bool","int","str","tuple","list","dict"],PySem.W.kitOne K (.type k) (.type T) = some (k == T || (k == "bool" && T == "int"))
theorem sR {st:ag} {v:ao} {k:String} (h:kindOf st v = some k):k ∈ ["NoneType","bool","int","str","tuple","list","dict"]:=by
 unfold kindOf at h
 split at h
 all_goals first
  | (cases h; decide)
  | (split at h <;> first | (cases h; decide) | cases h)
  | cases h
theorem yU {ae:List (Addr × Obj)} {σ:St} {H:Hp} {s:Shared} {A:Around} {E:Value → Shared → Prop} {Q:Value → Shared → Prop} {c:Value} {b:Bool} {ρ:List Addr} {st:ag} {u:ao} {x:V} {v:Value} {k:String}
  (I:aG X ae σ H s) (sr:SR X.K ρ st H) (r:Rl X.K ρ H u x) (q:ba x v) (hk:kindOf st u = some k) (e:PySem.W.kitOne X.K (.type k) c = some b) (h:∀ tk,Q (.bool b) { s with toks:=tk }) :
  wpAny (model X.prog X.w) A (call (.builtin "isinstance") [v,c]) Q E s:=by
 cases u with
 | cB => cases hk; have:=r.l!; subst this; exact dy I q .cB e h
 | bl y => cases hk; have:=r.pz; subst this; exact dy I q (.bl y) e h
 | int i => cases hk; have:=r.b6; subst this; exact dy I q (.int i) e h
 | str y => cases hk; have:=r.dE; subst this; exact dy I q (.str y) e h
 | tup us =>
  cases hk
  obtain ⟨a,vs,rfl,ha,ra⟩:=r.fg
  cases q
  obtain ⟨aA,r1,⟨o,h1,h2,_⟩,_⟩:=I.tuple ha
  exact PySem.W.kia_one PySem.W.kitx_tuple I.lG ⟨o,h1,h2⟩ e (fun z => nomatch z) h
 | loc n =>
  obtain ⟨a,rfl,ha⟩:=r.df
  obtain ⟨cl,hc,kc⟩:=sr.there ha
  simp only [kindOf,hc] at hk
  cases cl with
  | lst us => cases hk; obtain ⟨vs,h1,_⟩:=kc; exact dy I q (.lst h1) e h
  | FR us => cases hk; obtain ⟨o,vs,h1,_⟩:=kc; exact dy I q (.iJ h1) e h
  | mod us => cases hk
  | dK us => cases hk; obtain ⟨vs,h1,_⟩:=kc; exact dy I q (.dK h1) e h
  | dT us => cases hk; obtain ⟨vs,h1,_⟩:=kc; exact dy I q (.dT h1) e h
  | tab _ _ _ _ => cases hk
  | ins _ _ => cases hk
  | fd _ => cases hk
 | exc c => cases hk
 | fn k c => cases hk
 | mt us => cases hk
theorem pB {T:String} {x:Str} {e:Expr} {m:ME} {p q:Pos} (hK:yT X.K T) (hg:Gl X "isinstance") (hm:X.mg "isinstance" = none) (PF:Gl X x) (PJ:X.mg x = none) (PL:bootBuiltins x = some (.type T)) (he:PE X e (tE X E m))
  (hn:x ≠ "__name__":=by decide) (hd:(x == ("__debug__":Str)) = false:=by decide)
  (hs:starEach [e,.Name x q] X.env = (false,eval e X.env) :: starEach [.Name x q] X.env:=by rfl) (fP:starEach [.Name x q] X.env = (false,eval (.Name x q) X.env) :: starEach [] X.env:=by rfl)
  (hV:(backTo pos (starEach [.Name x q] X.env)).any (·.1) = false:=by rfl):PE X (.Call (.Name "isinstance" p) [e,.Name x q] [] pos) (tE X E (xQ T m)):=by
 have hc:bV X (.builtin "isinstance") (fun xs H Q => ∃ y ρ st u k b,xs = [y,.ty T] ∧ SR X.K ρ st H ∧ Rl X.K ρ H u y ∧ kindOf st u = some k ∧ PySem.W.kitOne X.K (.type k) (.type T) = some b ∧ Q (.bl b) H):=by
  rintro ae s σ H xs us Q I r ⟨y,ρ,st,u,k,b,rfl,sr,r1,h1,h2,h3⟩
  obtain ⟨v1,v2,rfl,q1,q2⟩:=vals2 r
  cases q2
  exact yU I sr r1 q1 h1 h2 fun tk => ⟨.bl b,H,I.tok tk,rfl,h3⟩
 refine PE.imp (lW hc hg hm PyProof.Rows.boot_isinstance (f_ he (f_ (Bm (v:=.ty T) PF PJ PL rfl hn hd) lV fP) hs) (by decide) (by decide) hs hV) ?_
 rintro σ H Q ⟨μ,ρ,st,rs,sr,h⟩
 refine go μ ρ st rs sr h fun u st1 ρ1 H1 x e1 bw r1 h1 => ?_
 cases z:kindOf st1 u with
 | none => simp only [HK,z] at h1; exact h1.elim
 | some k =>
  simp only [HK,z] at h1
  exact ⟨x,ρ1,st1,u,k,_,rfl,bw,r1,z,hK k (sR z),fQ bw h1⟩
end
theorem yV {K:PySem.W.Frag}:yT K "int":=by
 intro k hk
 simp only [List.mem_cons,List.mem_nil_iff,or_false] at hk
 rcases hk with rfl | rfl | rfl | rfl | rfl | rfl | rfl <;> first | rfl | kernel_rfl
theorem wc {K:PySem.W.Frag}:yT K "bool":=by
 intro k hk
 simp only [List.mem_cons,List.mem_nil_iff,or_false] at hk
 rcases hk with rfl | rfl | rfl | rfl | rfl | rfl | rfl <;> first | rfl | kernel_rfl
theorem sS {K:PySem.W.Frag}:yT K "tuple":=by
 intro k hk
 simp only [List.mem_cons,List.mem_nil_iff,or_false] at hk
 rcases hk with rfl | rfl | rfl | rfl | rfl | rfl | rfl <;> first | rfl | kernel_rfl
theorem yW {K:PySem.W.Frag}:yT K "str":=by
 intro k hk
 simp only [List.mem_cons,List.mem_nil_iff,or_false] at hk
 rcases hk with rfl | rfl | rfl | rfl | rfl | rfl | rfl <;> first | rfl | kernel_rfl
end MN
namespace MN
open PySem PySem.Spec L2
open PyProof.Rows hiding St
noncomputable abbrev AS:=ao → Env → Option Env
noncomputable def aB (i:Nat):AS:=fun v μ => some (μ.set i (some v))
noncomputable def oF:List AS → List ao → Env → Option Env
 | [],[],μ => some μ
 | a :: as,v :: vs,μ => (a v μ).bind fun μ' => oF as vs μ'
 | _,_,_ => none
noncomputable def fh (l:List AS):AS:=fun v μ => match v with
 | .tup vs => oF l vs μ
 | _ => none
noncomputable def tA (W:Wo) (a:AS):TG:=fun v σ H Q => ∃ μ ρ u μ',RS W ρ H μ σ ∧ Rl W.K ρ H u v ∧ a u μ = some μ' ∧ ∀ σ',RS W ρ H μ' σ' → Q σ' H
noncomputable def KU (W:Wo) (l:List AS):Bs:=fun vs σ H Q => ∃ μ ρ us μ',RS W ρ H μ σ ∧ aP W.K ρ H us vs ∧ oF l us μ = some μ' ∧ ∀ σ',RS W ρ H μ' σ' → Q σ' H
section
variable {X:Cx} {pos:Pos}
theorem r?.imp {e:List Expr} {t t':Bs} (h:r? X e t) (k:∀ v σ H Q,t' v σ H Q → t v σ H Q):r? X e t':=fun ae s σ H v u Q I r q => h ae s σ H v u Q I r (k v σ H Q q)
theorem Co (i:Nat) {x:Str} (hN:X.N.Nodup) (hi:X.N[i]? = some x:=by rfl) (hx:Loc X.env.scope x:=by first | exact Or.inl rfl | exact Or.inr rfl) (hf:X.fn x = true ∨ X.env.scope.names.lookup x = some .local:=by first | exact .inl rfl | exact .inr rfl | assumption):PG X (.Name x pos) (tA (wo X) (aB i)):=by
 refine PG.imp (Bt hN hi hx hf) ?_
 rintro v σ H Q ⟨μ,ρ,u,μ',rs,r,e,q⟩
 cases e
 exact q _ (rs.set i r)
theorem Cp:r? X [] (KU (wo X) []):=by
 refine r?.imp Bu ?_
 rintro vs σ H Q ⟨μ,ρ,us,μ',rs,r,e,q⟩
 cases us with
 | nil => cases e; exact ⟨r.dP,q σ rs⟩
 | cons => cases e
theorem yX {e:Expr} {es:List Expr} {a:AS} {as:List AS} (h1:PG X e (tA (wo X) a)) (h2:r? X es (KU (wo X) as)) (hs:(assignEach (e :: es) X.env).map (·.2) = assign e X.env :: (assignEach es X.env).map (·.2):=by rfl):r? X (e :: es) (KU (wo X) (a :: as)):=by
 refine r?.imp (xY h1 h2 hs) ?_
 rintro vs σ H Q ⟨μ,ρ,us,μ',rs,r,e,q⟩
 cases us with
 | nil => cases e
 | cons u us =>
  obtain ⟨v,r',rfl,ru,rr⟩:=r.b_
  unfold oF at e
  cases z:a u μ with
  | none => rw [z] at e; cases e
  | some μ1 =>
   rw [z] at e
   exact ⟨v,r',rfl,μ,ρ,u,μ1,rs,ru,z,fun σ1 D? => ⟨μ1,ρ,us,μ',D?,rr,e,q⟩⟩
theorem Gb {es:List Expr} {k:Nat} {l:List AS} (hc:X.calm = true) (h:r? X es (KU (wo X) l)) (hn:(assignEach es X.env).length = l.length:=by rfl) (xN:(assignEach es X.env).findIdx? (·.1) = none:=by rfl):PG X (.Tuple es k pos) (tA (wo X) (fh l)):=by
 refine PG.imp (EO hc h hn xN) ?_
 rintro v σ H Q ⟨μ,ρ,u,μ',rs,r,e,q⟩
 cases u with
 | tup us =>
  obtain ⟨a,vs,rfl,ha,ra⟩:=r.fg
  have len:∀ (l:List AS) (us:List ao) (μ:Env),oF l us μ = some μ' → us.length = l.length:=by
   intro l
   induction l with
   | nil => intro us μ e; cases us with | nil => rfl | cons => cases e
   | cons a l ih =>
    intro us μ e
    cases us with
    | nil => cases e
    | cons u us =>
     unfold oF at e
     cases z:a u μ with
     | none => rw [z] at e; cases e
     | some μ1 => rw [z] at e; rw [List.length_cons,List.length_cons,ih us μ1 e]
  exact ⟨a,vs,rfl,ha,by rw [← ra.length]; exact len _ _ _ e,μ,ρ,us,μ',rs,ra,e,q⟩
 | _ => cases e
noncomputable def PN (a:AS) (m:ME):MB:=fun μ st => (m μ st).sb μ fun v av => match a v μ with
 | some μ' => .nx μ' av
 | none => .bad
end
noncomputable abbrev Itm:=List ao × (ag → Prop)
noncomputable abbrev MI:=Env → ag → bW Itm
noncomputable def HL (K:PySem.W.Frag) (ρ0:List Addr) (H0:Hp) (p:Itm) (J:It):Prop :=
 ∀ ρ st H,ax ρ0 H0 ρ H → SR K ρ st H → p.2 st → ∀ i:Nat,
  (∀ u,p.1[i]? = some u → J.go i H ∧ ∀ x H',J.Ij i H x H' → ax ρ H ρ H' ∧ SR K ρ st H' ∧ Rl K ρ H' u x) ∧ (p.1.length ≤ i → J.stop i H)
noncomputable abbrev tI (X:Cx) (E:XK) (m:MI):TI:=tG (wo X) E (HL X.K) m
section
variable {X:Cx} {E:XK} {tg:Expr} {pos p:Pos}
theorem PI.imp {it:Expr} {t t':TI} (h:PI X tg it t) (k:∀ σ H Q,t' σ H Q → t σ H Q):PI X tg it t':=fun ae s σ H R I q => h ae s σ H R I (k σ H R q)
theorem Gd {l:Expr} {tl:TE} (hl:PE X l tl):PI X tg l (fun σ H R => tl σ H fun x H1 => ∃ a,x = .ref a ∧ (((∃ xs,i8 X.K H1 a xs) ∧ R (Lu X.K a) H1) ∨ ((∃ xs,hR X.K H1 a xs) ∧ R (Lv X.K a) H1))):=by
 intro ae s σ H R I h
 refine bF (hl ae s σ H _ I h) fun v s1 ⟨x,H1,I1,r1,q1⟩ => ?_
 obtain ⟨a,e,q⟩:=q1
 subst e
 cases r1
 rcases q with ⟨⟨xs,hq⟩,q⟩ | ⟨⟨xs,hq⟩,q⟩
 ·obtain ⟨aA,rv,p,hz⟩:=I1.list hq
  refine wpAny_pyIter_list p.isList ?_
  refine ⟨s1.heap.objs.size,[s1.heap.objs.size],_,_,H1,rfl,I1.kept (t':=s1.toks) fun b o e => Heap.get?_push_of_some _ e,vE a _,⟨_,Heap.get?_push_size _ rfl,rfl,rfl⟩,fun b hb => ?_,q⟩
  have e:b = s1.heap.objs.size:=by simpa using hb
  subst e
  exact I1.vD (Nat.le_refl _) (I1.bI.fresh (Nat.le_refl _))
 ·obtain ⟨aA,rv,p,hz⟩:=I1.tuple hq
  refine wpAny_pyIter_tuple (show s1.heap.IsTuple a aA.toArray from p) ?_
  refine ⟨s1.heap.objs.size,[s1.heap.objs.size],_,_,H1,rfl,I1.kept (t':=s1.toks) fun b o e => Heap.get?_push_of_some _ e,si a _,⟨_,Heap.get?_push_size _ rfl,rfl,rfl⟩,fun b hb => ?_,q⟩
  have e:b = s1.heap.objs.size:=by simpa using hb
  subst e
  exact I1.vD (Nat.le_refl _) (I1.bI.fresh (Nat.le_refl _))
noncomputable def mE (st:ag):ao → Option Itm
 | .tup us => some (us,fun _ => True)
 | .mt us => some (us,fun _ => True)
 | .loc n => (ak st n).map fun us => (us,fun av => ak av n = some us)
 | _ => none
noncomputable def dg (m:ME):MI:=fun μ st => (m μ st).bind fun v av => match mE av v with
 | some p => .ok p av
 | none => .bad
theorem yY {K:PySem.W.Frag} {ρ:List Addr} {H:Hp} {n:Nat} {us:List ao} {a:Addr} (ha:ρ[n]? = some a) (Mv:∀ {ρ':List Addr} {av:ag} {H':Hp},SR K ρ' av H' → ak av n = some us → ρ'[n]? = some a → ∃ vs,i8 K H' a vs ∧ aP K ρ' H' us vs) :
  HL K ρ H (us,fun av => ak av n = some us) (Lu K a):=by
 intro ρ' av H' e sr g i
 obtain ⟨vs,hs,rv⟩:=Mv sr g (e.at_ ha)
 refine ⟨fun u hu => ?_,fun hi => ⟨vs,hs,by rw [← rv.length]; exact hi⟩⟩
 obtain ⟨v,hv,ru⟩:=rv.get hu
 refine ⟨⟨vs,v,hs,hv⟩,fun x KW y => ?_⟩
 obtain ⟨rfl,y⟩:=y
 have e:=(y vs hs).symm.trans hv
 cases e
 exact ⟨ax.refl _ _,sr,ru⟩
theorem uT {K:PySem.W.Frag} {ρ:List Addr} {H:Hp} {us:List ao} {a:Addr} {vs:List V} (ha:hR K H a vs) (ra:aP K ρ H us vs):HL K ρ H (us,fun _ => True) (Lv K a):=by
 intro ρ' av H' e sr g i
 have Mw:hR K H' a vs:=e.KQ ha
 have rv:=aP.mono e _ _ ra
 refine ⟨fun u hu => ?_,fun hi => ⟨vs,Mw,by rw [← rv.length]; exact hi⟩⟩
 obtain ⟨v,hv,ru⟩:=rv.get hu
 refine ⟨⟨vs,v,Mw,hv⟩,fun x KW y => ?_⟩
 obtain ⟨rfl,y⟩:=y
 have e:=(y vs Mw).symm.trans hv
 cases e
 exact ⟨ax.refl _ _,sr,ru⟩
theorem Ge {l:Expr} {m:ME} (hl:PE X l (tE X E m)):PI X tg l (tI X E (dg m)):=by
 refine PI.imp (Gd hl) ?_
 rintro σ H R ⟨μ,ρ,st,rs,sr,h⟩
 refine go μ ρ st rs sr h fun u st1 ρ1 H1 x e1 bw r1 h1 => ?_
 cases u with
 | tup us =>
  obtain ⟨a,vs,rfl,ha,ra⟩:=r1.fg
  exact ⟨a,rfl,.inr ⟨⟨vs,ha⟩,h1 ρ1 H1 _ (ax.refl _ _) bw (uT ha ra)⟩⟩
 | mt us =>
  obtain ⟨a,vs,rfl,ha,ra⟩:=r1.Mr
  exact ⟨a,rfl,.inr ⟨⟨vs,ha⟩,h1 ρ1 H1 _ (ax.refl _ _) bw (uT ha ra)⟩⟩
 | loc n =>
  obtain ⟨a,rfl,ha⟩:=r1.df
  cases z:ak st1 n with
  | none => simp only [mE,z] at h1; exact h1.elim
  | some us =>
   simp only [mE,z] at h1
   obtain ⟨vs,hs,rv⟩:=bb bw z ha
   exact ⟨a,rfl,.inl ⟨⟨vs,hs⟩,h1 ρ1 H1 _ (ax.refl _ _) bw (yY ha fun s g h => bb s g h)⟩⟩
 | _ => exact h1.elim
noncomputable def cj (lo:Int) (n:Nat):List ao:=(List.range n).map fun (i:Nat) => ao.int (lo + (i:Int))
theorem oG {K:PySem.W.Frag} {ρ:List Addr} {H:Hp} (lo:Int) (n:Nat):HL K ρ H (cj lo n,fun _ => True) (Ik lo n):=by
 intro ρ' av H' e sr g i
 refine ⟨fun u hu => ?_,fun hi => ?_⟩
 ·have hi:i < n:=by
   have:=d7 hu
   simpa [cj] using this
  refine ⟨hi,fun x KW y => ?_⟩
  obtain ⟨rfl,rfl⟩:=y
  have e:u = ao.int (lo + (i:Int)):=by
   simp only [cj,List.getElem?_map] at hu
   rw [List.getElem?_range hi] at hu
   exact (Option.some.inj hu).symm
  subst e
  exact ⟨ax.refl _ _,sr,Rl.mkInt _⟩
 ·show n ≤ i
  simpa [cj] using hi
noncomputable def gg (m:MA):MI:=fun μ st => (m μ st).bind fun vs av => match vs with
 | [.int j] => if -(2 ^ 62) ≤ j ∧ j < 2 ^ 62 then .ok (cj 0 j.toNat,fun _ => True) av else .bad
 | _ => .bad
noncomputable def jd (m:MA):MI:=fun μ st => (m μ st).bind fun vs av => match vs with
 | [.int i,.int j] => if -(2 ^ 62) ≤ i ∧ i < 2 ^ 62 ∧ -(2 ^ 62) ≤ j ∧ j < 2 ^ 62 then .ok (cj i (j - i).toNat,fun _ => True) av else .bad
 | _ => .bad
theorem wd {a:Expr} {m:MA} (hg:Gl X "range") (hm:X.mg "range" = none) (ha:PA X [a] (tL X E m)) (hs:starEach [a] X.env = [(false,eval a X.env)]:=by rfl):PI X tg (.Call (.Name "range" p) [a] [] pos) (tI X E (gg m)):=by
 refine PI.imp (vF hg hm ha hs) ?_
 rintro σ H R ⟨μ,ρ,st,rs,sr,h⟩
 refine go (R1:=aP X.K) μ ρ st rs sr h fun us st1 ρ1 H1 xs e1 bw r1 h1 => ?_
 split at h1
 ·rename_i j
  obtain ⟨v,rfl,rv⟩:=r1.v7
  split at h1
  ·rename_i hz
   exact ⟨j,by rw [rv.b6],hz.1,hz.2,h1 ρ1 H1 _ (ax.refl _ _) bw (oG 0 j.toNat)⟩
  ·exact h1.elim
 ·exact h1.elim
theorem we {a b:Expr} {m:MA} (hg:Gl X "range") (hm:X.mg "range" = none) (ha:PA X [a,b] (tL X E m)) (hs:starEach [a,b] X.env = [(false,eval a X.env),(false,eval b X.env)]:=by rfl) (fP:starEach [b] X.env = [(false,eval b X.env)]:=by rfl) :
  PI X tg (.Call (.Name "range" p) [a,b] [] pos) (tI X E (jd m)):=by
 refine PI.imp (vG hg hm ha hs fP) ?_
 rintro σ H R ⟨μ,ρ,st,rs,sr,h⟩
 refine go (R1:=aP X.K) μ ρ st rs sr h fun us st1 ρ1 H1 xs e1 bw r1 h1 => ?_
 split at h1
 ·rename_i i j
  obtain ⟨v,w,rfl,rv,sC⟩:=r1.Oi
  split at h1
  ·rename_i hz
   exact ⟨i,j,by rw [rv.b6,sC.b6],hz,h1 ρ1 H1 _ (ax.refl _ _) bw (oG i _)⟩
  ·exact h1.elim
 ·exact h1.elim
noncomputable def e8 (st:ag):ao → Option (Bool × Itm)
 | .tup us => some (false,us,fun _ => True)
 | .loc n => (ak st n).map fun us => (true,us,fun av => ak av n = some us)
 | _ => none
noncomputable def nT:List ao → List ao → List ao
 | x :: xs,y :: ys => .tup [x,y] :: nT xs ys
 | _,_ => []
theorem uU:∀ (us ws:List ao) (i:Nat),(∀ z,(nT us ws)[i]? = some z → ∃ u w,us[i]? = some u ∧ ws[i]? = some w ∧ z = .tup [u,w]) ∧ ((nT us ws).length ≤ i → us.length ≤ i ∨ ws.length ≤ i)
 | [],_,i => ⟨fun z h => (by cases h),fun _ => .inl (Nat.zero_le _)⟩
 | _ :: _,[],i => ⟨fun z h => (by cases h),fun _ => .inr (Nat.zero_le _)⟩
 | u :: us,w :: ws,0 => ⟨fun z h => (by cases h; exact ⟨u,w,rfl,rfl,rfl⟩),fun h => (by simp [nT] at h)⟩
 | u :: us,w :: ws,i + 1 => by
  obtain ⟨a,b⟩:=uU us ws i
  refine ⟨fun z h => a z h,fun h => ?_⟩
  have h':(nT us ws).length ≤ i:=by simpa [nT] using h
  rcases b h' with q | q
  ·exact .inl (by rw [List.length_cons]; lia)
  ·exact .inr (by rw [List.length_cons]; lia)
noncomputable def oH (b1 b2:Bool) (m:MA):MI:=fun μ st => (m μ st).bind fun vs av => match vs with
 | [u,w] => match e8 av u,e8 av w with
  | some (c1,us,g1),some (c2,ws,g2) => if c1 = b1 ∧ c2 = b2 then .ok (nT us ws,fun st2 => g1 st2 ∧ g2 st2) av else .bad
  | _,_ => .bad
 | _ => .bad
theorem uV {K:PySem.W.Frag} {ρ:List Addr} {st:ag} {H:Hp} {u:ao} {x:V} {c:Bool} {us:List ao} {g:ag → Prop} (sr:SR K ρ st H) (r:Rl K ρ H u x) (h:e8 st u = some (c,us,g)) (Mv:∀ {ρ':List Addr} {av:ag} {H':Hp} {n a},SR K ρ' av H' → ak av n = some us → ρ'[n]? = some a → ∃ vs,i8 K H' a vs ∧ aP K ρ' H' us vs) :
  ∃ a,x = .ref a ∧ ∀ ρ' av H',ax ρ H ρ' H' → SR K ρ' av H' → g av → ∃ vs,sJ c K H' a vs ∧ aP K ρ' H' us vs:=by
 cases u with
 | tup ws =>
  cases h
  obtain ⟨a,vs,rfl,ha,ra⟩:=r.fg
  exact ⟨a,rfl,fun ρ' av H' e _ _ => ⟨vs,e.KQ ha,aP.mono e _ _ ra⟩⟩
 | loc n =>
  obtain ⟨a,rfl,ha⟩:=r.df
  cases z:ak st n with
  | none => simp only [e8,z] at h; cases h
  | some ws =>
   simp only [e8,z] at h
   cases h
   exact ⟨a,rfl,fun ρ' av H' e s g => Mv s g (e.at_ ha)⟩
 | _ => cases h
theorem yZ {st:ag} {u:ao} {c:Bool} {us:List ao} {g:ag → Prop} (h:e8 st u = some (c,us,g)):g st:=by
 cases u with
 | tup ws => cases h; exact True.intro
 | loc n =>
  cases z:ak st n with
  | none => simp only [e8,z] at h; cases h
  | some ws => simp only [e8,z] at h; cases h; exact z
 | _ => cases h
theorem Gf (b1 b2:Bool) {elts:List Expr} {kt:Nat} {tp:Pos} {ea eb:Expr} {m:MA} (hg:Gl X "zip") (hm:X.mg "zip" = none) (ha:PA X [ea,eb] (tL X E m)) (hs:starEach [ea,eb] X.env = [(false,eval ea X.env),(false,eval eb X.env)]:=by rfl) (fP:starEach [eb] X.env = [(false,eval eb X.env)]:=by rfl) :
  PI X (.Tuple elts kt tp) (.Call (.Name "zip" p) [ea,eb] [] pos) (tI X E (oH b1 b2 m)):=by
 refine PI.imp (FF b1 b2 hg hm ha hs fP) ?_
 rintro σ H R ⟨μ,ρ,st,rs,sr,h⟩
 refine go (R1:=aP X.K) μ ρ st rs sr h fun us st1 ρ1 H1 xs e1 bw r1 h1 => ?_
 split at h1
 ·rename_i u w
  obtain ⟨x,y,rfl,rx,ry⟩:=r1.Oi
  split at h1
  ·rename_i c1 PQ g1 c2 PR g2 z1 z2
   split at h1
   ·rename_i hc
    obtain ⟨rfl,rfl⟩:=hc
    obtain ⟨a,rfl,ka⟩:=uV bw rx z1 fun s g h => bb s g h
    obtain ⟨b,rfl,kb⟩:=uV bw ry z2 fun s g h => bb s g h
    obtain ⟨v1,q1,_⟩:=ka ρ1 st1 H1 (ax.refl _ _) bw (yZ z1)
    obtain ⟨v2,q2,_⟩:=kb ρ1 st1 H1 (ax.refl _ _) bw (yZ z2)
    refine ⟨a,b,rfl,⟨v1,q1⟩,⟨v2,q2⟩,h1 ρ1 H1 _ (ax.refl _ _) bw ?_⟩
    intro ρ' av H' e s g i
    obtain ⟨w1,s1,t1⟩:=ka ρ' av H' e s g.1
    obtain ⟨w2,s2,t2⟩:=kb ρ' av H' e s g.2
    obtain ⟨k1,k2⟩:=uU PQ PR i
    refine ⟨fun z hz => ?_,fun hi => ⟨w1,w2,s1,s2,?_⟩⟩
    ·obtain ⟨u',w',PU,Mx,rfl⟩:=k1 z hz
     obtain ⟨p1,p2,p3⟩:=t1.get PU
     obtain ⟨o1,o2,o3⟩:=t2.get Mx
     refine ⟨⟨w1,w2,p1,o1,s1,s2,p2,o2⟩,fun x' KW y' => ?_⟩
     obtain ⟨pp,x1,y1,rfl,hp,rfl,f1,f2⟩:=y'
     have c1:=(f1 w1 s1).symm.trans p2
     have c2:=(f2 w2 s2).symm.trans o2
     cases c1
     cases c2
     exact ⟨ax.same (cC hp),s.grow (cC hp),Rl.l? bT (aP.mono (ax.same (cC hp)) _ _ (aP.cons p3 (aP.one o3)))⟩
    ·rw [← t1.length,← t2.length]; exact k2 hi
   ·exact h1.elim
  ·exact h1.elim
 ·exact h1.elim
end
open Classical in
noncomputable def forL (g:ag → Prop) (a:AS) (body:MB):List ao → MB
 | [],μ,st => if g st then .nx μ st else .bad
 | u :: us,μ,st => if g st then (match a u μ with
  | some μ1 => match body μ1 st with
   | .nx μ' av => forL g a body us μ' av
   | .ct μ' av => forL g a body us μ' av
   | .bk μ' av => .nx μ' av
   | .rt v av => .rt v av
   | .er c μ' av => .er c μ' av
   | .bad => .bad
  | none => .bad) else .bad
noncomputable def gD (it:MI) (a:AS) (body:MB):MB:=fun μ st => (it μ st).sb μ fun p av => forL p.2 a body p.1 μ av
section
variable {X:Cx} {E:XK} {tg:Expr} {pos p:Pos}
theorem Gg {iter:Expr} {sb:List Stmt} {it:MI} {a:AS} {body:MB} (hp:PassesOwn (model X.prog X.w) X.A X.env X.xe) (hc:X.calm = true) (hi:PI X tg iter (tI X E it)) (hg:PG X tg (tA (wo X) a)) (hb:gG X sb (tS X E body))
  (hs:∀ x,foldedSetIterable iter X.env x = pure x:=by intro _; rfl):PS X (.For tg iter sb [] pos) (tS X E (gD it a body)):=by
 refine PS.imp (EV hp hc hi hg hb hs) ?_
 rintro D σ H ⟨μ,ρ,st,rs,sr,h⟩
 refine xP (R1:=HL X.K) μ ρ st rs sr h fun pr st1 ρ1 H1 J e1 bw rJ h1 => ?_
 obtain ⟨us,g⟩:=pr
 refine ⟨fun i m σ' H' => m = us.length - i ∧ i ≤ us.length ∧ ∃ μ' ρ' av,ax ρ1 H1 ρ' H' ∧ RS (wo X) ρ' H' μ' σ' ∧ SR X.K ρ' av H' ∧ wS (wo X) E ρ' H' D (forL g a body (us.drop i) μ' av),
  ⟨us.length,by simp,Nat.zero_le _,μ,ρ1,st1,ax.refl _ _,rs.mono e1,bw,h1⟩,?_⟩
 rintro i m σ' H' ⟨rfl,hi,μ',ρ',av,e',uW,uX,h'⟩
 by_cases uJ:i < us.length
 ·rw [List.drop_eq_getElem_cons uJ] at h'
  unfold forL at h'
  by_cases jM:g av
  ·rw [if_pos jM] at h'
   obtain ⟨k1,k2⟩:=rJ ρ' av H' e' uX jM i
   obtain ⟨go',yl⟩:=k1 _ (List.getElem?_eq_getElem uJ)
   refine .inr ⟨go',fun σ2 H2 => i + 1 ≤ us.length ∧ ∃ μ2 ρ2 st2,ax ρ1 H1 ρ2 H2 ∧ RS (wo X) ρ2 H2 μ2 σ2 ∧ SR X.K ρ2 st2 H2 ∧ wS (wo X) E ρ2 H2 D (forL g a body (us.drop (i + 1)) μ2 st2),fun σ2 H2 n => ⟨us.length - (i + 1),by lia,rfl,n.1,n.2⟩,fun x H2 y => ?_⟩
   obtain ⟨e2,gy,r2⟩:=yl x H2 y
   cases z:a us[i] μ' with
   | none => rw [z] at h'; exact h'.elim
   | some μ1 =>
    rw [z] at h'
    dsimp only at h'
    refine ⟨μ',ρ',us[i],μ1,uW.mono e2,r2,z,fun σ3 HM => ⟨μ1,ρ',av,HM,gy,?_⟩⟩
    cases zb:body μ1 av with
    | nx μ4 ku =>
     rw [zb] at h'
     intro ρ4 H4 σ4 e4 kP sT
     exact ⟨by lia,μ4,ρ4,ku,(e'.trans e2).trans e4,sT,kP,wS.mono h' (e2.trans e4)⟩
    | ct μ4 ku =>
     rw [zb] at h'
     intro ρ4 H4 σ4 e4 kP sT
     exact ⟨by lia,μ4,ρ4,ku,(e'.trans e2).trans e4,sT,kP,wS.mono h' (e2.trans e4)⟩
    | bk μ4 ku => rw [zb] at h'; exact fun ρ4 H4 σ4 e4 kP sT => h' ρ4 H4 σ4 (e2.trans e4) kP sT
    | rt v ku => rw [zb] at h'; exact fun ρ4 H4 σ4 e4 kP sT => h' ρ4 H4 σ4 (e2.trans e4) kP sT
    | er c μ4 ku => rw [zb] at h'; obtain ⟨C,q1,q2⟩:=h'; exact ⟨C,q1,fun ρ4 H4 e4 kP => q2 ρ4 H4 (e2.trans e4) kP⟩
    | bad => rw [zb] at h'; exact h'
  ·rw [if_neg jM] at h'; exact h'.elim
 ·have BY:i = us.length:=by lia
  subst BY
  rw [List.drop_length] at h'
  unfold forL at h'
  by_cases jM:g av
  ·rw [if_pos jM] at h'
   exact .inl ⟨(rJ ρ' av H' e' uX jM us.length).2 (Nat.le_refl _),h' ρ' H' σ' (ax.refl _ _) uX uW⟩
  ·rw [if_neg jM] at h'; exact h'.elim
end
noncomputable def dQ (t:MT) (body:MB):Nat → Env → ag → Option bQ
 | 0,_,_ => none
 | n + 1,μ,st => match t μ st with
  | .ok true st1 => match body μ st1 with
   | .nx μ' av => dQ t body n μ' av
   | .ct μ' av => dQ t body n μ' av
   | .bk μ' av => some (.nx μ' av)
   | .rt v av => some (.rt v av)
   | .er c μ' av => some (.er c μ' av)
   | .bad => some .bad
  | .ok false st1 => some (.nx μ st1)
  | .err c st1 => some (.er c μ st1)
  | .bad => some .bad
open Classical in
noncomputable def fG (t:MT) (body:MB):MB:=fun μ st => if h:∃ n r,dQ t body n μ st = some r then h.choose_spec.choose else .bad
theorem gN {t:MT} {body:MB}:∀ {n m:Nat} {μ:Env} {st:ag} {r r':bQ},dQ t body n μ st = some r → dQ t body m μ st = some r' → r = r'
 | 0,_,_,_,_,_,h,_ => by cases h
 | _ + 1,0,_,_,_,_,_,h => by cases h
 | n + 1,m + 1,μ,st,r,r',h,h' => by
  unfold dQ at h h'
  split at h
  ·rename_i st1 e
   rw [e] at h'
   dsimp only at h'
   split at h
   all_goals (rename_i eb; rw [eb] at h'; dsimp only at h')
   ·exact gN h h'
   ·exact gN h h'
   all_goals (cases h; cases h'; rfl)
  all_goals (rename_i e; rw [e] at h'; dsimp only at h'; cases h; cases h'; rfl)
theorem wg {t:MT} {body:MB} {n:Nat} {μ:Env} {st:ag} {r:bQ} (h:dQ t body n μ st = some r):fG t body μ st = r:=by
 have hx:∃ n r,dQ t body n μ st = some r:=⟨n,r,h⟩
 unfold fG
 rw [dif_pos hx]
 exact gN hx.choose_spec.choose_spec h
section
variable {X:Cx} {E:XK} {pos:Pos}
theorem y6 {c:Expr} {sb:List Stmt} {t:MT} {body:MB} (hp:PassesOwn (model X.prog X.w) X.A X.env X.xe) (hc:PT X c (tT X E t)) (hb:gG X sb (tS X E body)):PS X (.While c sb [] pos) (tS X E (fG t body)):=by
 refine PS.imp (xZ hp hc hb) ?_
 rintro D σ H ⟨μ,ρ,st,rs,sr,h⟩
 unfold fG at h
 split at h
 ·rename_i hx
  have hr:=hx.choose_spec.choose_spec
  refine ⟨fun m σ' H' => ∃ μ' ρ' av r,ax ρ H ρ' H' ∧ RS (wo X) ρ' H' μ' σ' ∧ SR X.K ρ' av H' ∧ dQ t body m μ' av = some r ∧ wS (wo X) E ρ' H' D r,⟨_,μ,ρ,st,_,ax.refl _ _,rs,sr,hr,h⟩,?_⟩
  rintro m σ' H' ⟨μ',ρ',av,r,e',uW,uX,hw,hq⟩
  cases m with
  | zero => cases hw
  | succ m =>
   unfold dQ at hw
   refine ⟨μ',ρ',av,uW,uX,?_⟩
   cases z:t μ' av with
   | ok k st1 =>
    rw [z] at hw
    intro ρ1 H1 k' e1 bw ek
    cases ek
    cases k with
    | true =>
     dsimp only at hw
     rw [if_pos rfl]
     refine ⟨fun σ2 H2 => ∃ μ2 ρ2 st2 r2,ax ρ H ρ2 H2 ∧ RS (wo X) ρ2 H2 μ2 σ2 ∧ SR X.K ρ2 st2 H2 ∧ dQ t body m μ2 st2 = some r2 ∧ wS (wo X) E ρ2 H2 D r2,fun σ2 H2 n => ⟨m,Nat.lt_succ_self m,n⟩,μ',ρ1,st1,uW.mono e1,bw,?_⟩
     cases zb:body μ' st1 with
     | nx μ4 ku =>
      rw [zb] at hw
      intro ρ4 H4 σ4 e4 kP sT
      exact ⟨μ4,ρ4,ku,r,(e'.trans e1).trans e4,sT,kP,hw,wS.mono hq (e1.trans e4)⟩
     | ct μ4 ku =>
      rw [zb] at hw
      intro ρ4 H4 σ4 e4 kP sT
      exact ⟨μ4,ρ4,ku,r,(e'.trans e1).trans e4,sT,kP,hw,wS.mono hq (e1.trans e4)⟩
     | bk μ4 ku => rw [zb] at hw; cases hw; exact fun ρ4 H4 σ4 e4 kP sT => hq ρ4 H4 σ4 (e1.trans e4) kP sT
     | rt v ku => rw [zb] at hw; cases hw; exact fun ρ4 H4 σ4 e4 kP sT => hq ρ4 H4 σ4 (e1.trans e4) kP sT
     | er c μ4 ku => rw [zb] at hw; cases hw; obtain ⟨C,q1,q2⟩:=hq; exact ⟨C,q1,fun ρ4 H4 e4 kP => q2 ρ4 H4 (e1.trans e4) kP⟩
     | bad => rw [zb] at hw; cases hw; exact hq
    | false =>
     cases hw
     rw [if_neg Bool.false_ne_true]
     exact hq ρ1 H1 σ' e1 bw (uW.mono e1)
   | err c st1 => rw [z] at hw; cases hw; exact hq
   | bad => rw [z] at hw; cases hw; exact hq
 ·exact h.elim
end
end MN
namespace MN
open PySem PySem.Spec L2
open PyProof.Rows hiding St
noncomputable def gO (k:Nat) (a_:List Nat) (μ:Env):Env:=List.replicate k none ++ a_.map fun j => (μ[j]?).getD none
theorem RS.sU {W:Wo} {ρ:List Addr} {H:Hp} {μ:Env} {σ:L2.St} (r:RS W ρ H μ σ) (k:Nat) (a_:List Nat):RS W ρ H (gO k a_ μ) (kN k a_ σ):=by
 refine ⟨by simp [gO,kN],fun i u e => ?_⟩
 unfold gO at e
 rcases Nat.lt_or_ge i k with q | q
 ·rw [List.getElem?_append_left (by rw [List.length_replicate]; exact q),List.getElem?_replicate,if_pos q] at e
  cases e
 ·rw [List.getElem?_append_right (by rw [List.length_replicate]; exact q),List.length_replicate,List.getElem?_map] at e
  cases z:a_[i - k]? with
  | none => rw [z] at e; cases e
  | some j =>
   rw [z] at e
   have e':(μ[j]?).getD none = some u:=Option.some.inj e
   have e2:μ[j]? = some (some u):=by
    cases y:μ[j]? with
    | none => rw [y] at e'; cases e'
    | some w => rw [y] at e'; exact congrArg _ e'
   obtain ⟨v,h1,h2⟩:=r.at_ j u e2
   refine ⟨v,?_,h2⟩
   unfold kN
   rw [List.getElem?_append_right (by rw [List.length_replicate]; exact q),List.length_replicate,List.getElem?_map,z]
   show some ((σ[j]?).getD none) = _
   rw [h1]
   rfl
open Classical in
noncomputable def cq (g:ag → Prop) (a:AS) (c:MT) (e:ME):List ao → Env → ag → List ao → bW (List ao)
 | [],_,st,ys => if g st then .ok ys st else .bad
 | u :: us,τ,st,ys => if g st then (match a u τ with
  | some τ1 => match c τ1 st with
   | .ok true st1 => match e τ1 st1 with
    | .ok y st2 => cq g a c e us τ1 st2 (ys ++ [y])
    | .err _ _ => .bad
    | .bad => .bad
   | .ok false st1 => cq g a c e us τ1 st1 ys
   | .err _ _ => .bad
   | .bad => .bad
  | none => .bad) else .bad
noncomputable def b! (k:Nat) (a_:List Nat) (it:MI) (a:AS) (c:MT) (e:ME):ME:=fun μ st => (it μ st).bind fun p st1 =>
 if p.1.length ≤ sizeLine then (cq p.2 a c e p.1 (gO k a_ μ) st1 []).bind fun ys st2 => .ok (.loc st2.length) (st2 ++ [.lst ys]) else .bad
noncomputable def bD:MT:=fun _ st => .ok true st
noncomputable abbrev W0 (X:Cx):Wo:=⟨X.K,X.mg,[]⟩
section
variable {X:Cx} {E:XK} {tg elt iter:Expr} {ifs:List Expr} {scope:Scope} {pos yr:Pos} {N:List Str} {cl:List (Str × Addr)} {k:Nat} {a_:List Nat} {it:MI} {a:AS} {c:MT} {e:ME}
theorem oI (Eb:X.pn = []) {σ:L2.St} {H:Hp} {Q:VK} (h:tE X E (b! k a_ it a c e) σ H Q):l7 k a_ (tI X E it) (tA (W0 X) a) (tG (W0 X) E0 RB c) (tG (W0 X) E0 (Rl X.K) e) σ H Q:=by
 obtain ⟨μ,ρ,st,rs,sr,h⟩:=h
 refine yp (go (R1:=HL X.K) μ ρ st rs sr h fun pr st1 ρ1 H1 J e1 bw rJ h1 => ?_)
 obtain ⟨us,g⟩:=pr
 have ew:wo X = W0 X:=by show Wo.mk _ _ _ = _; rw [Eb]
 have D?:=rs.mono e1
 rw [ew] at D? h1
 dsimp only at h1
 split at h1
 ·rename_i hz
  refine B3 us.length hz (fun i ys τ H' => ∃ μτ ρ' av yv,ax ρ1 H1 ρ' H' ∧ RS (W0 X) ρ' H' μτ τ ∧ SR X.K ρ' av H' ∧ aP X.K ρ' H' yv ys ∧ yv.length ≤ i ∧ wR (W0 X) E (Rl X.K) ρ' H' Q ((cq g a c e (us.drop i) μτ av yv).bind fun (zs:List ao) (st2:ag) => bW.ok (ao.loc st2.length) (st2 ++ [bf.lst zs])))
   ⟨gO k a_ μ,ρ1,st1,[],ax.refl _ _,D?.sU k a_,bw,aP.nil,Nat.le_refl _,h1⟩ ?_ ?_ ?_ ?_ ?_
  ·rintro i ys τ H' hi ⟨μτ,ρ',av,yv,e',uW,uX,ry,hl,hq⟩
   rw [List.drop_eq_getElem_cons hi] at hq
   unfold cq at hq
   by_cases jM:g av
   ·exact ((rJ ρ' av H' e' uX jM i).1 _ (List.getElem?_eq_getElem hi)).1
   ·rw [if_neg jM] at hq; exact hq.elim
  ·rintro ys τ H' ⟨μτ,ρ',av,yv,e',uW,uX,ry,hl,hq⟩
   rw [List.drop_length] at hq
   unfold cq at hq
   by_cases jM:g av
   ·exact (rJ ρ' av H' e' uX jM us.length).2 (Nat.le_refl _)
   ·rw [if_neg jM] at hq; exact hq.elim
  ·rintro i ys τ H' ⟨μτ,ρ',av,yv,e',uW,uX,ry,hl,hq⟩
   rw [← ry.length]; exact hl
  ·rintro i ys τ H' x H2 hi ⟨μτ,ρ',av,yv,e',uW,uX,ry,hl,hq⟩ y K1 hK
   rw [List.drop_eq_getElem_cons hi] at hq
   unfold cq at hq
   by_cases jM:g av
   ·rw [if_pos jM] at hq
    obtain ⟨e2,gy,r2⟩:=((rJ ρ' av H' e' uX jM i).1 _ (List.getElem?_eq_getElem hi)).2 x H2 y
    cases z:a us[i] μτ with
    | none => rw [z] at hq; exact hq.elim
    | some τ1 =>
     rw [z] at hq
     dsimp only at hq
     refine ⟨μτ,ρ',us[i],τ1,uW.mono e2,r2,z,fun σ3 HM => ⟨τ1,ρ',av,HM,gy,?_⟩⟩
     cases zc:c τ1 av with
     | ok b fD =>
      rw [zc] at hq
      intro ρ3 H3 b' e3 nL eb
      cases eb
      cases b with
      | true =>
       dsimp only at hq
       rw [if_pos rfl]
       refine ⟨τ1,ρ3,fD,HM.mono e3,nL,?_⟩
       cases ze:e τ1 fD with
       | ok v ku =>
        rw [ze] at hq
        intro ρ4 H4 y4 e4 kP r4
        exact hK _ _ _ ⟨τ1,ρ4,ku,yv ++ [v],((e'.trans e2).trans e3).trans e4,(HM.mono e3).mono e4,kP,(aP.mono ((e2.trans e3).trans e4) _ _ ry).append (aP.one r4),by rw [List.length_append,List.length_singleton]; lia,wR.mono hq ((e2.trans e3).trans e4)⟩
       | err c' ku => rw [ze] at hq; exact hq.elim
       | bad => rw [ze] at hq; exact hq.elim
      | false =>
       dsimp only at hq
       rw [if_neg Bool.false_ne_true]
       exact hK _ _ _ ⟨τ1,ρ3,fD,yv,(e'.trans e2).trans e3,HM.mono e3,nL,aP.mono (e2.trans e3) _ _ ry,by lia,wR.mono hq (e2.trans e3)⟩
     | err c' fD => rw [zc] at hq; exact hq.elim
     | bad => rw [zc] at hq; exact hq.elim
   ·rw [if_neg jM] at hq; exact hq.elim
  ·rintro ys τ H' p ⟨μτ,ρ',av,yv,e',uW,uX,ry,hl,hq⟩ hp
   rw [List.drop_length] at hq
   unfold cq at hq
   by_cases jM:g av
   ·rw [if_pos jM] at hq
    obtain ⟨k1,k2,k3⟩:=eQ uX ry hp
    exact hq _ _ _ k1 k2 k3
   ·rw [if_neg jM] at hq; exact hq.elim
 ·exact h1.elim
theorem fk (hc:X.calm = true) (Eb:X.pn = []) (B:qz X N scope cl k a_) (hi:PI X tg iter (tI X E it)) (hg:∀ C fp s H,PG (nK X N scope cl C fp s H) tg (tA (W0 X) a)) (FC:∀ C fp s H,vT (nK X N scope cl C fp s H) ifs (tG (W0 X) E0 RB c))
  (he:∀ C fp s H,PE (nK X N scope cl C fp s H) elt (tG (W0 X) E0 (Rl X.K) e)) (hs:∀ x,foldedSetIterable iter X.env x = pure x:=by intro _; rfl):PE X (.ListComp elt [⟨tg,iter,ifs,0⟩] scope pos) (tE X E (b! k a_ it a c e)) :=
 PE.imp (B0 hc B hi hg FC he hs) fun _ _ _ h => oI Eb h
theorem mF (i:Nat) {y:Str} {py:Pos} (hN:X.N.Nodup) (hc:X.calm = true) (Eb:X.pn = []) (B:qz X N scope cl k a_) (hi:PI X tg iter (tI X E it)) (hg:∀ C fp s H,PG (nK X N scope cl C fp s H) tg (tA (W0 X) a)) (FC:∀ C fp s H,vT (nK X N scope cl C fp s H) ifs (tG (W0 X) E0 RB c))
  (he:∀ C fp s H,PE (nK X N scope cl C fp s H) elt (tG (W0 X) E0 (Rl X.K) e)) (hy:X.N[i]? = some y:=by rfl) (hx:Loc X.env.scope y:=by first | exact Or.inl rfl | exact Or.inr rfl) (Ma:swapsWith (.ListComp elt [⟨tg,iter,ifs,0⟩] scope pos) (some (.Name y py)) yr.line X.env = pure true:=by rfl)
  (hs:∀ x,foldedSetIterable iter X.env x = pure x:=by intro _; rfl) (hf:X.fn y = true ∨ X.env.scope.names.lookup y = some .local:=by first | exact .inl rfl | exact .inr rfl | assumption) :
  PS X (.Assign [.Name y py] (.ListComp elt [⟨tg,iter,ifs,0⟩] scope pos) yr) (tS X E (bu i (b! k a_ it a c e))) :=
 PS.imp (L2.sI hN hy hx hc B hi hg FC he Ma hs hf) fun _ _ _ h => oI Eb (qF h)
theorem Cq {C fp s H}:vT (nK X N scope cl C fp s H) [] (tG (W0 X) E0 RB bD):=by
 intro ae s' σ H' Q I q
 refine BV ae s' σ H' Q I ?_
 obtain ⟨μ,ρ,st,rs,sr,h⟩:=q
 exact h ρ H' true (ax.refl _ _) sr rfl
theorem Cr {cc:Expr} {C fp s H} (h:PT (nK X N scope cl C fp s H) cc (tG (W0 X) E0 RB c)):vT (nK X N scope cl C fp s H) [cc] (tG (W0 X) E0 RB c):=BW h
theorem Jr {P:Program} {w:World} {C fp s H}:Passes (i9 P w) (nK X N scope cl C fp s H) E0:=by
 rintro ae σ H' s' e s2 I ⟨ea,cls,H2,_,_,q⟩
 exact q.elim
end
noncomputable abbrev FM:=ao → List ao → ag → bW ao
noncomputable def Oj (W:Wo) (E:XK) (f:FM):V → List V → Hp → VK → Prop:=fun x xs H Q => ∃ ρ st u us,SR W.K ρ st H ∧ Rl W.K ρ H u x ∧ aP W.K ρ H us xs ∧ wR W E (Rl W.K) ρ H Q (f u us st)
noncomputable def qI (st:ag):ao → Bool
 | .loc n => match st[n]? with
  | some (.lst _) => true
  | _ => false
 | _ => false
noncomputable def sV (f:FM) (o:ME) (a:MA):ME:=fun μ st => (o μ st).bind fun x st1 => if qI st1 x = true then (a μ st1).bind fun xs st2 => f x xs st2 else .bad
noncomputable def dF:FM
 | .loc n,[v],st => match st[n]? with
  | some (.lst us) => if us.length < sizeLine then .ok .cB (st.set n (.lst (us ++ [v]))) else .bad
  | _ => .bad
 | _,_,_ => .bad
section
variable {X:Cx} {E:XK} {o e:Expr} {es:List Expr} {mo:ME} {ms:MA} {apos bC:Pos} {f:FM}
theorem Fj.imp {id:String} {r r':V → List V → Hp → VK → Prop} (h:Fj X id r) (k:∀ x xs H Q,r' x xs H Q → r x xs H Q):Fj X id r':=fun ae s σ H x xs v us Q I rx rs q => h ae s σ H x xs v us Q I rx rs (k x xs H Q q)
theorem uZ {K:PySem.W.Frag} {ρ:List Addr} {st:ag} {H:Hp} {n:Nat} {us Jq:List ao} {a:Addr} {vs Ea:List V} (sr:SR K ρ st H) (h:st[n]? = some (.lst us)) (ha:ρ[n]? = some a) (hH:H a = some (.lst vs)) (r:aP K ρ H Jq Ea) :
  ax ρ H ρ (upd H a (.lst Ea)) ∧ SR K ρ (st.set n (.lst Jq)) (upd H a (.lst Ea)):=by
 have e:ax ρ H ρ (upd H a (.lst Ea)):=ax.put hH (fun _ z => by cases z) (fun _ _ z => by cases z)
 exact ⟨e,sr.set h rfl rfl ha hH (fun _ z => by cases z) (fun _ _ z => by cases z) ⟨Ea,bT,aP.mono e _ _ r⟩⟩
theorem sW:Fj X "list.append" (Oj (wo X) E dF):=by
 refine Fj.imp vN ?_
 rintro x xs H Q ⟨ρ,st,u,us,sr,r1,r2,h⟩
 unfold dF at h
 split at h
 ·rename_i n v
  obtain ⟨a,rfl,ha⟩:=r1.df
  obtain ⟨y,rfl,ry⟩:=r2.v7
  split at h
  ·rename_i ws hw
   split at h
   ·rename_i hz
    obtain ⟨vs,hH,rv⟩:=sr.cell n _ a hw ha
    refine ⟨a,vs,y,rfl,rfl,hH,by rw [← rv.length]; exact hz,?_⟩
    obtain ⟨k1,k2⟩:=uZ sr hw ha hH (rv.append (aP.one ry))
    exact h ρ _ _ k1 k2 Rl.uL
   ·exact h.elim
  ·exact h.elim
 ·exact h.elim
theorem y7 {K:PySem.W.Frag} {ρ:List Addr} {st:ag} {H:Hp} {u:ao} {x:V} (sr:SR K ρ st H) (r:Rl K ρ H u x) (h:qI st u = true):LP K "list" x H:=by
 cases u with
 | loc n =>
  obtain ⟨a,rfl,ha⟩:=r.df
  obtain ⟨c,hc,kc⟩:=sr.there ha
  simp only [qI,hc] at h
  cases c with
  | lst us => obtain ⟨vs,h1,_⟩:=kc; exact .inl ⟨rfl,vs,i8.of h1⟩
  | _ => cases h
 | _ => cases h
theorem Gh {name:Str} {id:String} (slot:Slot "list" name id) (LQ:typeOf (.builtin id) = pure (.type "method_descriptor")) (hm:Fj X id (Oj (wo X) E f)) (ho:PE X o (tE X E mo)) (ha:PA X (e :: es) (tL X E ms))
  (qq:attributeBase o name X.env (eval o X.env) = eval o X.env:=by rfl)
  (yg:((backTo bC (starEach (e :: es) X.env)).all (fun x => !x.1) && (backToKw bC (keywordEach [] X.env)).all (fun x => x.1.isSome)
   && decide ((e :: es).length + ([]:List Keyword).length + (if ([]:List Keyword).isEmpty then 0 else 1) < 30)) = true:=by rfl)
  (qr:(apos.endLine == bC.line) = true:=by rfl) (hs:starEach (e :: es) X.env = (false,eval e X.env) :: starEach es X.env:=by rfl) (lY:(backTo bC (starEach es X.env)).any (·.1) = false:=by rfl) :
  PE X (.Call (.Attribute o name apos) (e :: es) [] bC) (tE X E (sV f mo ms)):=by
 refine PE.imp (IH PySem.F.plainAttrs_list slot LQ hm ho ha qq yg qr hs lY) ?_
 rintro σ H Q ⟨μ,ρ,st,rs,sr,h⟩
 refine go μ ρ st rs sr h fun u st1 ρ1 H1 x e1 bw r1 h1 => ?_
 split at h1
 ·rename_i hz
  refine ⟨y7 bw r1 hz,?_⟩
  refine go (R1:=aP X.K) μ ρ1 st1 (rs.mono e1) bw h1 fun us st2 ρ2 H2 xs e2 gy r2 h2 => ?_
  exact ⟨ρ2,st2,u,us,gy,Rl.mono e2 _ _ r1,r2,h2⟩
 ·exact h1.elim
end
end MN
namespace MN
open PySem PySem.Spec L2
open PyProof.Rows hiding St
noncomputable def HN {α β:Type} (W:Wo) (R:List Addr → Hp → α → β → Prop) (ρ:List Addr) (H:Hp) (Q:β → Hp → Prop) (EX:EH):bW α → Prop
 | .ok u av => ∀ ρ' H' v,ax ρ H ρ' H' → SR W.K ρ' av H' → R ρ' H' u v → Q v H'
 | .err c av => ∃ C,W.mg c = some (.ref C) ∧ ∀ ρ' H' ea,ax ρ H ρ' H' → SR W.K ρ' av H' → EX (.ref C) ea H'
 | .bad => False
theorem HN.mono {α β:Type} {W:Wo} {R:List Addr → Hp → α → β → Prop} {ρ ρ':List Addr} {H H':Hp} {Q:β → Hp → Prop} {EX:EH} {r:bW α} (h:HN W R ρ H Q EX r) (e:ax ρ H ρ' H'):HN W R ρ' H' Q EX r:=by
 cases r with
 | ok u st => exact fun ρ2 H2 v e2 s r => h ρ2 H2 v (e.trans e2) s r
 | err c st => obtain ⟨C,h1,h2⟩:=h; exact ⟨C,h1,fun ρ2 H2 ea e2 s => h2 ρ2 H2 ea (e.trans e2) s⟩
 | bad => exact h
noncomputable def HP (X:Cx) (m:ME):HI:=fun σ H Q EX => ∃ μ ρ st,RS (wo X) ρ H μ σ ∧ SR X.K ρ st H ∧ HN (wo X) (Rl X.K) ρ H Q EX (m μ st)
noncomputable def y8 (W:Wo) (ρ:List Addr) (H:Hp) (D:Ends) (EX:EK):bQ → Prop
 | .nx μ st => ∀ ρ' H' σ',ax ρ H ρ' H' → SR W.K ρ' st H' → RS W ρ' H' μ σ' → D.nx σ' H'
 | .rt v st => ∀ ρ' H' x,ax ρ H ρ' H' → SR W.K ρ' st H' → Rl W.K ρ' H' v x → D.rt x H'
 | .bk μ st => ∀ ρ' H' σ',ax ρ H ρ' H' → SR W.K ρ' st H' → RS W ρ' H' μ σ' → D.bk σ' H'
 | .ct μ st => ∀ ρ' H' σ',ax ρ H ρ' H' → SR W.K ρ' st H' → RS W ρ' H' μ σ' → D.ct σ' H'
 | .er c μ st => ∃ C,W.mg c = some (.ref C) ∧ ∀ ρ' H' σ' ea,ax ρ H ρ' H' → SR W.K ρ' st H' → RS W ρ' H' μ σ' → EX (.ref C) ea σ' H'
 | .bad => False
theorem y8.mono {W:Wo} {ρ ρ':List Addr} {H H':Hp} {D:Ends} {EX:EK} {r:bQ} (h:y8 W ρ H D EX r) (e:ax ρ H ρ' H'):y8 W ρ' H' D EX r:=by
 cases r with
 | nx μ st => exact fun ρ2 H2 σ2 e2 s r => h ρ2 H2 σ2 (e.trans e2) s r
 | rt v st => exact fun ρ2 H2 x e2 s r => h ρ2 H2 x (e.trans e2) s r
 | bk μ st => exact fun ρ2 H2 σ2 e2 s r => h ρ2 H2 σ2 (e.trans e2) s r
 | ct μ st => exact fun ρ2 H2 σ2 e2 s r => h ρ2 H2 σ2 (e.trans e2) s r
 | er c μ st => obtain ⟨C,h1,h2⟩:=h; exact ⟨C,h1,fun ρ2 H2 σ2 ea e2 s r => h2 ρ2 H2 σ2 ea (e.trans e2) s r⟩
 | bad => exact h
noncomputable def wj (X:Cx) (m:MB):Bj:=fun D EX σ H => ∃ μ ρ st,RS (wo X) ρ H μ σ ∧ SR X.K ρ st H ∧ y8 (wo X) ρ H D EX (m μ st)
noncomputable def pC {α:Type} (m:Env → ag → bW α):Env → ag → bW α:=fun μ st => match m μ st with
 | .ok v av => .ok v av
 | .err _ _ => .bad
 | .bad => .bad
section
variable {X:Cx} {pos p:Pos} {e:Expr} {es:List Expr} {m:ME} {ms:MA} {f:FN} {x:Str}
theorem sM.imp {t t':HI} (h:sM X e t) (k:∀ σ H Q EX,t' σ H Q EX → t σ H Q EX):sM X e t':=fun ae s σ H Q EX I q => h ae s σ H Q EX I (k σ H Q EX q)
theorem qD.imp {st:Stmt} {t t':Bj} (h:qD X st t) (k:∀ D EX σ H,t' D EX σ H → t D EX σ H):qD X st t':=fun ae s σ H D EX I q => h ae s σ H D EX I (k D EX σ H q)
theorem gC.imp {st:List Stmt} {t t':Bj} (h:gC X st t) (k:∀ D EX σ H,t' D EX σ H → t D EX σ H):gC X st t':=fun ae s σ H D EX I q => h ae s σ H D EX I (k D EX σ H q)
theorem y9 (h:∀ W,PE (X.gI W) e (tE X E0 m)):sM X e (HP X (pC m)):=by
 refine sM.imp (FH h) ?_
 rintro σ H Q EX ⟨μ,ρ,st,rs,sr,h⟩
 refine ⟨μ,ρ,st,rs,sr,?_⟩
 unfold pC at h
 cases z:m μ st with
 | ok v av => rw [z] at h; exact h
 | err c av => rw [z] at h; exact h.elim
 | bad => rw [z] at h; exact h
theorem y_ {k:Nat} {fa:Addr} {fd:FuncData} {ps:List Str} (F:gJ X.prog X.w X.K X.mg X.base (i9 X.prog X.w) k fa fd ps (F6 ⟨X.K,X.mg,[]⟩ f)) (hr:dJ k X.A) (hg:Gl X x) (hm:X.mg x = some (.ref fa)) (hk:PySem.W.keepIn X.K (.ref fa) = true) (hb:Binds X.K fd ps []) (xV:∀ y,X.fn y = true) (ha:∀ W,PA (X.gI W) (e :: es) (tL X E0 ms))
  (kK:(x == ("__debug__":Str)) = false:=by decide) (he:starEach (e :: es) X.env = (false,eval e X.env) :: starEach es X.env:=by rfl) (hV:(backTo pos (starEach es X.env)).any (·.1) = false:=by rfl) :
  sM X (.Call (.Name x p) (e :: es) [] pos) (HP X (ai f (pC ms))):=by
 refine sM.imp (yA F hr hg hm hk hb xV ha kK he hV) ?_
 rintro σ H Q EX ⟨μ,ρ,st,rs,sr,h⟩
 refine ⟨μ,ρ,st,rs,sr,?_⟩
 unfold ai pC at h
 cases z:ms μ st with
 | ok us st1 =>
  rw [z] at h
  intro ρ1 H1 vs e1 bw r1
  refine ⟨us,ρ1,st1,r1,bw,?_⟩
  have h':HN (wo X) (Rl X.K) ρ1 H1 Q EX (f us st1):=HN.mono h e1
  revert h'
  cases f us st1 with
  | ok u st2 => exact fun q => q
  | err c st2 => exact fun ⟨C,q1,q2⟩ => ⟨C,q1,fun ρ2 H2 e2 s2 ea => q2 ρ2 H2 ea e2 s2⟩
  | bad => exact fun q => q
 | err c av => rw [z] at h; exact h.elim
 | bad => rw [z] at h; exact h
theorem y! {σ:L2.St} {H:Hp} {D:Ends} {EX:EK} {k:ao → ag → bQ} {μ:Env} {ρ:List Addr} {st:ag} (rs:RS (wo X) ρ H μ σ) (sr:SR X.K ρ st H) (h:y8 (wo X) ρ H D EX ((m μ st).sb μ k)) {Q:VK}
  (c:∀ u st1 ρ1 H1 x,ax ρ H ρ1 H1 → SR X.K ρ1 st1 H1 → Rl X.K ρ1 H1 u x → y8 (wo X) ρ1 H1 D EX (k u st1) → Q x H1):HP X m σ H Q fun cls ea H' => EX cls ea σ H':=by
 refine ⟨μ,ρ,st,rs,sr,?_⟩
 cases z:m μ st with
 | ok u st1 => rw [z] at h; exact fun ρ1 H1 x e1 bw r1 => c u st1 ρ1 H1 x e1 bw r1 (y8.mono h e1)
 | err c' st1 => rw [z] at h; obtain ⟨C,q1,q2⟩:=h; exact ⟨C,q1,fun ρ2 H2 ea e2 s2 => q2 ρ2 H2 σ ea e2 s2 (rs.mono e2)⟩
 | bad => rw [z] at h; exact h
theorem qJ (he:sM X e (HP X m)) (hs:swapsWith e none pos.line X.env = pure false:=by rfl):qD X (.Expr e pos) (wj X (bh m)):=by
 refine qD.imp (yB he hs) ?_
 rintro D EX σ H ⟨μ,ρ,st,rs,sr,h⟩
 exact y! rs sr h fun u st1 ρ1 H1 x e1 bw r1 h1 => h1 ρ1 H1 σ (ax.refl _ _) bw (rs.mono e1)
theorem pD {s1:Stmt} {a:MB} (h:qD X s1 (wj X a)):gC X [s1] (wj X a):=yC h
theorem qK {s1:Stmt} {rest:List Stmt} {a b:MB} (h1:qD X s1 (wj X a)) (h2:gC X rest (wj X b)):gC X (s1 :: rest) (wj X (aw a b)):=by
 refine gC.imp (vX h1 h2) ?_
 rintro D EX σ H ⟨μ,ρ,st,rs,sr,h⟩
 refine ⟨μ,ρ,st,rs,sr,?_⟩
 unfold aw at h
 cases e:a μ st with
 | nx μ' av =>
  rw [e] at h
  intro ρ1 H1 σ1 e1 bw D?
  exact ⟨μ',ρ1,av,D?,bw,y8.mono h e1⟩
 | rt v av => rw [e] at h; exact h
 | bk μ' av => rw [e] at h; exact h
 | ct μ' av => rw [e] at h; exact h
 | er c μ' av => rw [e] at h; exact h
 | bad => rw [e] at h; exact h
theorem Gi {c:Expr} {sa sb:List Stmt} {t:MT} {a b:MB} (hc:∀ W,PT (X.gI W) c (tT X E0 t)) (ha:gC X sa (wj X a)) (hb:gC X sb (wj X b)):qD X (.If c sa sb pos) (wj X (cg (pC t) a b)):=by
 refine qD.imp (FJ hc ha hb) ?_
 rintro D EX σ H ⟨μ,ρ,st,rs,sr,h⟩
 refine ⟨μ,ρ,st,rs,sr,?_⟩
 unfold cg pC at h
 cases z:t μ st with
 | ok k st1 =>
  rw [z] at h
  intro ρ1 H1 k' e1 bw ek
  cases ek
  have h':=y8.mono h e1
  cases k with
  | true => rw [if_pos rfl]; exact ⟨μ,ρ1,st1,rs.mono e1,bw,h'⟩
  | false => rw [if_neg Bool.false_ne_true]; exact ⟨μ,ρ1,st1,rs.mono e1,bw,h'⟩
 | err c av => rw [z] at h; exact h.elim
 | bad => rw [z] at h; exact h
noncomputable abbrev MH:=Str → MB
noncomputable def y?:MH:=fun _ _ _ => .bad
noncomputable def pE (kn:Str → Bool) (body:MB) (h:MH):MB:=fun μ st => match body μ st with
 | .er c μ' av => if kn c = true then h c μ' av else .bad
 | .nx μ' av => .nx μ' av
 | .rt v av => .rt v av
 | .bk μ' av => .bk μ' av
 | .ct μ' av => .ct μ' av
 | .bad => .bad
noncomputable def Js (X:Cx) (h:MH):B_:=fun D EX cls ea σ H => ∃ c C μ ρ st,X.mg c = some (.ref C) ∧ cls = .ref C ∧ RS (wo X) ρ H μ σ ∧ SR X.K ρ st H ∧ y8 (wo X) ρ H D EX (h c μ st)
theorem PH.imp {hs:List ExceptHandler} {t t':B_} (h:PH X hs t) (k:∀ D EX cls ea σ H,t' D EX cls ea σ H → t D EX cls ea σ H):PH X hs t':=fun ae s σ H D EX ea cls J q => h ae s σ H D EX ea cls J (k D EX cls ea σ H q)
theorem Gj:PH X [] (Js X y?):=PH.imp FL fun D EX cls ea σ H q => by
 obtain ⟨c,C,μ,ρ,st,_,_,_,_,h⟩:=q
 exact h
noncomputable def My (K:PySem.W.Frag) (mg:Str → Option Value) (sub:Str → Str → Option Bool):Prop:=∀ c x b C D,sub c x = some b → mg c = some (.ref C) → mg x = some (.ref D) → PySem.W.kitCls K (.ref C) (.ref D) = some b
theorem sN.pn {K:PySem.W.Frag} {mg:Str → Option Value} {pn B':List (Addr × Obj)} (hp:∀ q ∈ pn,q ∈ B') {ρ:List Addr} {H:Hp} {u:ao} {v:V} (h:sN ⟨K,mg,pn⟩ ρ H u v):sN ⟨K,mg,B'⟩ ρ H u v:=by
 cases u with
 | exc c => obtain ⟨a,oe,C,h1,h2,h3⟩:=h; exact ⟨a,oe,C,h1,hp _ h2,h3⟩
 | _ => exact h
theorem RS.pn {K:PySem.W.Frag} {mg:Str → Option Value} {pn B':List (Addr × Obj)} (hp:∀ q ∈ pn,q ∈ B') {ρ:List Addr} {H:Hp} {μ:Env} {σ:L2.St} (h:RS ⟨K,mg,pn⟩ ρ H μ σ):RS ⟨K,mg,B'⟩ ρ H μ σ :=
 ⟨h.len,fun i u e => let ⟨v,h1,h2⟩:=h.at_ i u e; ⟨v,h1,h2.pn hp⟩⟩
noncomputable def Known (mg:Str → Option Value) (kn:Str → Bool):Prop:=∀ c,kn c = true → ∃ C,mg c = some (.ref C)
theorem zd {kn:Str → Bool} {b:MB} {h:MH} (hk:Known X.mg kn) {D:Ends} {EX:EK} {σ:L2.St} {H:Hp} (q:wj X (pE kn b h) D EX σ H):wj X b D (fun cls ea σ' H' => Js X h D EX cls ea σ' H') σ H:=by
 obtain ⟨μ,ρ,st,rs,sr,q⟩:=q
 refine ⟨μ,ρ,st,rs,sr,?_⟩
 unfold pE at q
 cases z:b μ st with
 | er c μ' av =>
  rw [z] at q
  dsimp only at q
  split at q
  ·rename_i hc
   obtain ⟨C,hC⟩:=hk c hc
   exact ⟨C,hC,fun ρ' H' σ' ea e s r => ⟨c,C,μ',ρ',av,hC,rfl,r,s,y8.mono q e⟩⟩
  ·exact q.elim
 | _ => rw [z] at q; exact q
noncomputable def mG (m:MB):MB:=fun μ st => match m μ st with
 | .er _ _ _ => .bad
 | .nx μ' av => .nx μ' av
 | .rt v av => .rt v av
 | .bk μ' av => .bk μ' av
 | .ct μ' av => .ct μ' av
 | .bad => .bad
theorem Gk {E:XK} {kn:Str → Bool} {body:List Stmt} {h₀:ExceptHandler} {hs:List ExceptHandler} {b:MB} {h:MH} (hk:Known X.mg kn) (dx:DefX X) (hb:gC X body (wj X b)) (hh:PH X (h₀ :: hs) (Js X h)):PS X (.Try body (h₀ :: hs) [] [] pos) (tS X E (mG (pE kn b h))):=by
 refine PS.imp (FO dx hb hh) ?_
 rintro D σ H ⟨μ,ρ,st,rs,sr,q⟩
 refine zd (EX:=fun _ _ _ _ => False) hk ⟨μ,ρ,st,rs,sr,?_⟩
 unfold mG at q
 revert q
 cases pE kn b h μ st with
 | er c μ' av => exact fun q => q.elim
 | _ => exact fun q => q
end
end MN
namespace MN
open PySem PySem.Spec L2
open PyProof.Rows hiding St
inductive gi (X:Cx) (scope:Scope):List (Str × Addr) → List Nat → Prop
 | nil:gi X scope [] []
 | cons {y:Str} {c:Addr} {j:Nat} {cl:List (Str × Addr)} {a_:List Nat} (sub:X.env.cells.lookup y = some c) (hX:X.N[j]? = some y) (hk:X.env.kindOf y = some .cell ∨ X.env.kindOf y = some .free)
   (hr:(relabel scope X.env).names.lookup y = some .cell ∨ (relabel scope X.env).names.lookup y = some .free) (r:gi X scope cl a_):gi X scope ((y,c) :: cl) (j :: a_)
theorem gi.sub {X:Cx} {scope:Scope} {cl:List (Str × Addr)} {a_:List Nat} (A:gi X scope cl a_):∀ x c,cl.lookup x = some c → X.env.cells.lookup x = some c:=by
 induction A with
 | nil => intro x c h; cases h
 | @cons y c0 _ _ _ sub _ _ _ _ ih =>
  intro x c h
  rw [List.lookup_cons] at h
  by_cases e:x = y
  ·rw [beq_iff_eq.mpr e] at h
   rw [e]; exact sub.trans h
  ·rw [beq_eq_false_iff_ne.mpr e] at h
   exact ih x c h
theorem gi.at_ {X:Cx} {scope:Scope} {cl:List (Str × Addr)} {a_:List Nat} (A:gi X scope cl a_):∀ (i j:Nat) (x:Str),a_[i]? = some j → (cl.map (·.1))[i]? = some x →
  X.N[j]? = some x ∧ (X.env.kindOf x = some .cell ∨ X.env.kindOf x = some .free) ∧ ((relabel scope X.env).names.lookup x = some .cell ∨ (relabel scope X.env).names.lookup x = some .free):=by
 induction A with
 | nil => intro i j x h; cases h
 | cons _ hX hk hr _ ih =>
  intro i j x h h2
  cases i with
  | zero => cases h; cases h2; exact ⟨hX,hk,hr⟩
  | succ i => exact ih i j x h h2
theorem iw:∀ {cl:List (Str × Addr)} {x:Str},x ∈ cl.map (·.1) → ∃ c,cl.lookup x = some c
 | [],x,h => by simp at h
 | (y,c) :: cl,x,h => by
  by_cases e:x = y
  ·exact ⟨c,by simp [e]⟩
  ·have e':(x == y) = false:=by simpa using e
   rw [List.map_cons,List.mem_cons] at h
   rcases h with h | h
   ·exact absurd h e
   ·obtain ⟨d,hd⟩:=iw h
    exact ⟨d,by simp only [List.lookup_cons,e']; exact hd⟩
theorem Jt {X:Cx} {N:List Str} {scope:Scope} {k:Nat} {cl:List (Str × Addr)} {a_:List Nat} (sG:closureFor scope X.env = pure cl) (A:gi X scope cl a_) (has:((relabel scope X.env).names.all fun p => !(p.2 == .cell || p.2 == .free) || (cl.map (·.1)).contains p.1) = true)
  (jL:(scope.names.all fun p => !(p.2 == .cell)) = true) (kind:scope.kind = .function) (names:(scope.names.all fun p => !(p.2 == .local) || scope.names.lookup p.1 == some .local) = true) (len:N.length = k + a_.length) (hN:N.drop k = cl.map (·.1)):qz X N scope cl k a_ where
 sG:=sG
 sub:=A.sub
 has:=fun x h => by
  have m:x ∈ cl.map (·.1):=by
   rcases h with h | h <;> (have m:=PySem.mem_of_lookup h; have z:=List.all_eq_true.mp has _ m; simpa using z)
  exact iw m
 jL:=fun x hx h => by
  have z:=List.all_eq_true.mp jL x hx
  simp [h] at z
 kind:=kind
 names:=fun x hx h => by
  have z:=List.all_eq_true.mp names x hx
  simpa [h] using z
 len:=len
 at_:=fun i j x h1 h2 => A.at_ i j x h1 (by rw [← hN,List.getElem?_drop]; exact h2)
noncomputable def FnAt (P:Program) (w:World) (K:PySem.W.Frag) (mg:Str → Option Value) (base:Heap) (x:Str) (k:Nat) (f:FN):Prop :=
 ∃ fa fd ps,gJ P w K mg base (i9 P w) k fa fd ps (F6 ⟨K,mg,[]⟩ f) ∧ mg x = some (.ref fa) ∧ PySem.W.keepIn K (.ref fa) = true ∧ Binds K fd ps []
section
variable {X:Cx} {E:XK} {pos p:Pos} {e:Expr} {es:List Expr} {ms:MA} {f:FN} {x:Str} {k j:Nat}
theorem Ju (G:FnAt X.prog X.w X.K X.mg X.base x k f) (hr:dJ j X.A) (hk:k ≤ j) (hg:Gl X x) (hx:Passes (i9 X.prog X.w) X E) (ha:PA X (e :: es) (tL X E ms)) (kK:(x == ("__debug__":Str)) = false:=by decide)
  (he:starEach (e :: es) X.env = (false,eval e X.env) :: starEach es X.env:=by rfl) (hV:(backTo pos (starEach es X.env)).any (·.1) = false:=by rfl):PE X (.Call (.Name x p) (e :: es) [] pos) (tE X E (ai f ms)):=by
 obtain ⟨fa,fd,ps,F,hm,kp,b⟩:=G
 exact Cc F (hr.mono hk) hg hm kp b hx ha kK he hV
theorem sZ (G:FnAt X.prog X.w X.K X.mg X.base x k f) (hr:dJ j X.A) (hk:k ≤ j) (hg:Gl X x) (xV:∀ y,X.fn y = true) (ha:∀ W,PA (X.gI W) (e :: es) (tL X E0 ms)) (kK:(x == ("__debug__":Str)) = false:=by decide)
  (he:starEach (e :: es) X.env = (false,eval e X.env) :: starEach es X.env:=by rfl) (hV:(backTo pos (starEach es X.env)).any (·.1) = false:=by rfl):sM X (.Call (.Name x p) (e :: es) [] pos) (HP X (ai f (pC ms))):=by
 obtain ⟨fa,fd,ps,F,hm,kp,b⟩:=G
 exact y_ F (hr.mono hk) hg hm kp b xV ha kK he hV
end
section
variable {P:Program} {w:World} {K:PySem.W.Frag} {mg:Str → Option Value} {base:Heap}
theorem FnAt.mk {x:Str} {st:Stmt} {f:Addr} {fd:FuncData} {N ps:List Str} {k:Nat} {body:MB} (F:Bh K x x st f fd) (hm:mg x = some (.ref f)) (S:dD N ps (aN st))
  (hb:∀ (kV doc pm:Value) (an:Option Addr) (dc ct:Value) (us:List Value),us.length = ps.length → bindArgs (PySem.W.fnOf x x (d3 st) (cK st) (aN st) .none kV doc pm an dc ct) ⟨us,[]⟩ = pure (ps.zip us))
  (h:∀ (dc:Value) (A:Around) (outer:List PySem.Env) (s:Shared) (H:Hp) (E:XK),dJ k (A.deeper (envOfC x (aN st) s.heap.objs.size f dc)) →
   gG (fE (i9 P w) P w K mg base N x (aN st) f dc A outer s H E) (cK st) (tS (fE (i9 P w) P w K mg base N x (aN st) f dc A outer s H E) E body)):FnAt P w K mg base x (k + 1) (dM ps.length N.length body) :=
 ⟨f,fd,ps,yI F S h,hm,F.kp,F.binds hb⟩
theorem qL {N:List Str} {qual:Str} {scope:Scope} {f:Addr} {cd:Value} {A:Around} {outer:List PySem.Env} {s₀:Shared} {H₀:Hp} {E:XK}:PassesOwn (model P w) (A.deeper (envOfC qual scope s₀.heap.objs.size f cd)) (envOfC qual scope s₀.heap.objs.size f cd) (fE (i9 P w) P w K mg base N qual scope f cd A outer s₀ H₀ E).xe :=
 PassesOwn.leaving
theorem s_ {N:List Str} {qual:Str} {scope:Scope} {f:Addr} {cd:Value} {A:Around} {outer:List PySem.Env} {s₀:Shared} {H₀:Hp} {E:XK}:Raises (fE (i9 P w) P w K mg base N qual scope f cd A outer s₀ H₀ E) E :=
 fun ae σ H s h' e cls vs I hx hE => vV I hx hE
theorem Glob.int {x:Str} {i:Int} {t:Tok} (h:mg x = some (.int i t)):Glob K mg x (.int i):=⟨_,.int i,h,⟨t,rfl⟩,fun _ _ => Rl.mkInt i⟩
theorem Glob.str {x z:Str} {t:Tok} (h:mg x = some (.str z t)):Glob K mg x (.str z):=⟨_,.str z,h,⟨t,rfl⟩,fun _ _ => Rl.mkStr z⟩
theorem Glob.ints {x:Str} {a:Addr} {o:Obj} {aA:Array Value} {n:Nat} {ns:List Int} (h:mg x = some (.ref a)) (l:K.lookup a = some o) (hc:o.cls = .type "tuple") (hd:o.data = .seq aA n) (hz:aA.size ≤ sizeLine) (hv:a7 (ns.map V.int) aA.toList):Glob K mg x (.mt (ns.map .int)) :=
 ⟨_,.ref a,h,rfl,fun ρ H => Rl.Ji (.inr ⟨o,aA,n,l,hc,hd,hz,hv⟩) (aP.ints ns)⟩
noncomputable def u0 (K:PySem.W.Frag):Sp:=fun vs H Q _ => ∃ (a:Addr) (ns:List Int),vs = [.ref a] ∧ BO H ∧ i8 K H a (ns.map V.int) ∧ ns.length ≤ 63 ∧ ∀ H',Q (.bl true) H'
theorem Gm {H:Hp} {a:Addr} {c:bf} (k:e7 K [a] H c a):SR K [a] [c] H:=by
 refine ⟨rfl,fun n m b h1 h2 _ _ => ?_,fun n c' b h1 h2 => ?_⟩
 ·have p1:=d7 h1
  have p2:=d7 h2
  simp at p1 p2
  lia
 ·have p1:=d7 h1
  simp at p1
  subst p1
  cases h1
  cases h2
  exact k
theorem Gn {f:FN} (hf:∀ (c:bf) (ns:List Int),ns.length ≤ 63 → ak [c] 0 = some (ns.map ao.int) → ∃ av,f [.loc 0] [c] = .ok (.bl true) av) {vs:List V} {H:Hp} {Q:VK} {E:XK} (h:u0 K vs H Q E):F6 ⟨K,mg,[]⟩ f vs H Q E:=by
 obtain ⟨a,ns,rfl,hO,hS,hl,q⟩:=h
 have fin:∀ c:bf,e7 K [a] H c a → ak [c] 0 = some (ns.map ao.int) → F6 ⟨K,mg,[]⟩ f [.ref a] H Q E:=by
  intro c k hi
  obtain ⟨av,e⟩:=hf c ns hl hi
  refine ⟨[.loc 0],[a],[c],aP.one (Rl.yD rfl),Gm k,?_⟩
  rw [e]
  intro ρ' H' v _ _ r
  rw [r.pz]
  exact q H'
 rcases hS with (h | ⟨o,h⟩) | h
 ·rcases hO a with z | ⟨o,xs,z⟩ <;> (rw [z] at h; cases h)
 ·exact fin (.FR (ns.map .int)) ⟨o,_,h,aP.ints ns⟩ rfl
 ·exact fin (.mod (ns.map .int)) ⟨_,h,aP.ints ns⟩ rfl
theorem zg {l:PySem.W.OpenLaw} {q:Program} {loose:List Str} {XP:(Str → Option Value) → Heap → Prop} {YP:World → Heap → Prop} {d:DefRec} {K:Params → PySem.W.Frag} {x:Str} {k:Nat} (hn:l.most = some 63) (IK:d.params.defaults = []) (hr:dJ k callerA)
  (hY:∀ (w:World) (h:Heap),YP w h → (K w.params).In h)
  (F:∀ (w:World) (mg:Str → Option Value) (fa:Addr) (h:Heap),(K w.params).In h → h.Ns mainGlobals mg → mg d.name = some (.ref fa) →
   ∃ fd:FuncData,(∀ (s:Shared) (u:Value),BindsTo s fd ⟨[u],[]⟩ [(x,u)]) ∧ ∀ base:Heap,(K w.params).In base → base.Ns mainGlobals mg → gJ l.prog w (K w.params) mg base (i9 l.prog w) k fa fd [x] (u0 (K w.params))) :
  PySem.W.WalkO q loose XP YP l.row.toRowW d [] (fun f vs => PySem.call f vs) :=
 L2.BP (n:=63) (k:=k) (x:=x) (CX:=fun w => i9 l.prog w) (sp:=fun w => u0 (K w.params)) hn (by decide) IK hr hY F (fun _ _ a ns hl hO hS => ⟨a,ns,rfl,hO,hS,hl,fun _ => rfl⟩) fun _ _ _ _ _ ⟨_,_,_,_,_,z⟩ => z
end
end MN
namespace MN
open PySem PySem.Spec L2
open PyProof.Rows hiding St
theorem nU:bootBuiltins "ValueError" = some (.type "ValueError"):=by decide +kernel
abbrev Ol:List Value:=[.type "ValueError",.type "Exception",.type "BaseException",.type "object"]
noncomputable def zh (K:PySem.W.Frag) (mg:Str → Option Value) (x:Str):Prop:=∃ C,mg x = some (.ref C) ∧ PySem.W.excIn K C Ol "ValueError.__new__" = true ∧ PySem.W.subIn K (.ref C) (.type "BaseException") = some true
theorem wm {K:PySem.W.Frag} {D:Addr} {t:Value} {cd:ClassData} {b:Bool} (h1:PySem.W.clsIn K D = some cd) (h2:PySem.W.typeIn K (.ref D) = some (.type "type")) (h3:PySem.W.subIn K t (.ref D) = some b):PySem.W.kitCls K t (.ref D) = some b:=by
 show (if ((PySem.W.clsIn K D).isSome && PySem.W.typeIn K (.ref D) == some (.type "type")) = true then PySem.W.subIn K t (.ref D) else none) = some b
 rw [h1,h2,h3]
 rfl
inductive dR (K:PySem.W.Frag) (mg:Str → Option Value):List (Str × Str × Bool) → Prop
 | nil:dR K mg []
 | own {c x:Str} {b:Bool} {C D:Addr} {r:List (Str × Str × Bool)} (h1:mg c = some (.ref C)) (h2:mg x = some (.ref D)) (h3:PySem.W.kitCls K (.ref C) (.ref D) = some b) (hr:dR K mg r):dR K mg ((c,x,b) :: r)
 | blt {c x:Str} {n:String} {C:Addr} {r:List (Str × Str × Bool)} (h1:mg c = some (.ref C)) (h2:mg x = none) (PV:bootBuiltins x = some (.type n)) (h3:PySem.W.kitOne K (.ref C) (.type n) = some true) (hr:dR K mg r):dR K mg ((c,x,true) :: r)
noncomputable def c7 (tab:List (Str × Str × Bool)) (c x:Str):Option Bool:=match tab with
 | [] => none
 | (c',x',b) :: r => if c' = c ∧ x' = x then some b else c7 r c x
section
variable {K:PySem.W.Frag} {mg:Str → Option Value}
theorem dR.Jv {tab:List (Str × Str × Bool)} (S:dR K mg tab):My K mg (c7 tab):=by
 induction S with
 | nil => intro c x b C D h; cases h
 | @own c' x' _ _ _ _ h1 h2 h3 _ ih =>
  intro c x b C D h e1 e2
  rw [c7] at h
  by_cases z:c' = c ∧ x' = x
  ·rw [if_pos z] at h
   cases h
   rw [z.1,e1] at h1; cases h1
   rw [z.2,e2] at h2; cases h2
   exact h3
  ·rw [if_neg z] at h
   exact ih c x b C D h e1 e2
 | @blt c' x' _ _ _ h1 h2 _ _ _ ih =>
  intro c x b C D h e1 e2
  rw [c7] at h
  by_cases z:c' = c ∧ x' = x
  ·rw [z.2,e2] at h2; cases h2
  ·rw [if_neg z] at h
   exact ih c x b C D h e1 e2
noncomputable def KY (l:List Str) (c:Str):Bool:=l.contains c
end
section
variable {X:Cx} {E:XK} {pos np bC p q1 q2:Pos} {x n:Str} {e₀:Expr} {es:List Expr} {ms:MA} {i:Nat} {b₀:Stmt} {kr:List Stmt} {rest:List ExceptHandler} {tab:List (Str × Str × Bool)} {s:MB} {r:MH}
theorem wq (hX:Raises X E) (hc:X.calm = true) (h:zh X.K X.mg x) (hg:Gl X x) (ha:PA X (e₀ :: es) (tL X E ms))
  (he:starEach (e₀ :: es) X.env = (false,eval e₀ X.env) :: starEach es X.env:=by rfl) (hV:(backTo bC (starEach es X.env)).any (·.1) = false:=by rfl) (hd:(x == ("__debug__":Str)) = false:=by decide) :
  PS X (.Raise (some (.Call (.Name x np) (e₀ :: es) [] bC)) none pos) (tS X E (cD x ms)):=by
 obtain ⟨C,hm,hq,_⟩:=h
 exact yH hX hc hm hq PySem.F.excBase_ValueError hg ha he hV hd
end
end MN
namespace MN
open PySem PySem.Spec L2
open PyProof.Rows hiding St
section
variable {κ:Type} [DecidableEq κ]
noncomputable def pF (aH:List (κ × ao)) (k:κ):Option ao:=(aH.find? fun kv => decide (kv.1 = k)).map (·.2)
noncomputable def wt (aH:List (κ × ao)) (k:κ) (v:ao):List (κ × ao) :=
 if (aH.any fun kv => decide (kv.1 = k)) = true then aH.map (fun kv => if kv.1 = k then (kv.1,v) else kv) else aH ++ [(k,v)]
variable {K:PySem.W.Frag} {ρ ρ':List Addr} {H H':Hp}
theorem fj.nil:fj K ρ H ([]:List (κ × ao)) []:=⟨rfl,aP.nil⟩
theorem fj.cons {k:κ} {u:ao} {v:V} {aH:List (κ × ao)} {gf:List (κ × V)} (r:Rl K ρ H u v) (p:fj K ρ H aH gf):fj K ρ H ((k,u) :: aH) ((k,v) :: gf) :=
 ⟨by simp only [List.map_cons,p.1],aP.cons r p.2⟩
theorem fj.b_ {k:κ} {u:ao} {aH:List (κ × ao)} {l:List (κ × V)} (p:fj K ρ H ((k,u) :: aH) l):∃ v gf,l = (k,v) :: gf ∧ Rl K ρ H u v ∧ fj K ρ H aH gf:=by
 obtain ⟨h1,h2⟩:=p
 cases l with
 | nil => simp at h1
 | cons x l =>
  obtain ⟨k',v⟩:=x
  simp only [List.map_cons,List.cons.injEq] at h1 h2
  obtain ⟨rfl,h1⟩:=h1
  obtain ⟨v',r,e,q1,q2⟩:=h2.b_
  simp only [List.cons.injEq] at e
  obtain ⟨rfl,rfl⟩:=e
  exact ⟨v,l,rfl,q1,h1,q2⟩
theorem fj.dP {l:List (κ × V)} (p:fj K ρ H ([]:List (κ × ao)) l):l = []:=by
 have:=p.1
 cases l with
 | nil => rfl
 | cons => simp at this
theorem fj.mono {aH:List (κ × ao)} {l:List (κ × V)} (p:fj K ρ H aH l) (e:ax ρ H ρ' H'):fj K ρ' H' aH l:=⟨p.1,aP.mono e _ _ p.2⟩
theorem fj.length {aH:List (κ × ao)} {l:List (κ × V)} (p:fj K ρ H aH l):aH.length = l.length:=by
 have:=congrArg List.length p.1
 simpa using this
theorem fj.val (k:κ):∀ {aH:List (κ × ao)} {l:List (κ × V)},fj K ρ H aH l → (pF aH k = none ∧ f? l k = none) ∨ ∃ u v,pF aH k = some u ∧ f? l k = some v ∧ Rl K ρ H u v
 | [],l,p => by rw [p.dP]; exact .inl ⟨rfl,rfl⟩
 | (k',u) :: aH,l,p => by
  obtain ⟨v,l',rfl,r,p'⟩:=p.b_
  by_cases e:k' = k
  ·exact .inr ⟨u,v,by simp [pF,e],by simp [f?,e],r⟩
  ·rcases fj.val k p' with ⟨h1,h2⟩ | ⟨u',v',h1,h2,h3⟩
   ·exact .inl ⟨by simpa [pF,e] using h1,by simpa [f?,e] using h2⟩
   ·exact .inr ⟨u',v',by simpa [pF,e] using h1,by simpa [f?,e] using h2,h3⟩
theorem fj.any (k:κ):∀ {aH:List (κ × ao)} {l:List (κ × V)},fj K ρ H aH l → (aH.any fun kv => decide (kv.1 = k)) = l.any fun kv => decide (kv.1 = k)
 | [],l,p => by rw [p.dP]; rfl
 | (k',u) :: aH,l,p => by
  obtain ⟨v,l',rfl,r,p'⟩:=p.b_
  simp only [List.any_cons,fj.any k p']
theorem fj.o? (k:κ) {u:ao} {v:V} (r:Rl K ρ H u v):∀ {aH:List (κ × ao)} {l:List (κ × V)},fj K ρ H aH l → fj K ρ H (aH.map fun kv => if kv.1 = k then (kv.1,u) else kv) (l.map fun kv => if kv.1 = k then (kv.1,v) else kv)
 | [],l,p => by rw [p.dP]; exact fj.nil
 | (k',u') :: aH,l,p => by
  obtain ⟨v',l',rfl,r',p'⟩:=p.b_
  simp only [List.map_cons]
  by_cases e:k' = k
  ·rw [if_pos e,if_pos e]; exact fj.cons r (fj.o? k r p')
  ·rw [if_neg e,if_neg e]; exact fj.cons r' (fj.o? k r p')
theorem fj.snoc {k:κ} {u:ao} {v:V} (r:Rl K ρ H u v):∀ {aH:List (κ × ao)} {l:List (κ × V)},fj K ρ H aH l → fj K ρ H (aH ++ [(k,u)]) (l ++ [(k,v)])
 | [],l,p => by rw [p.dP]; exact fj.cons r fj.nil
 | (k',u') :: aH,l,p => by
  obtain ⟨v',l',rfl,r',p'⟩:=p.b_
  exact fj.cons r' (fj.snoc r p')
theorem fj.put (k:κ) {u:ao} {v:V} (r:Rl K ρ H u v) {aH:List (κ × ao)} {l:List (κ × V)} (p:fj K ρ H aH l):fj K ρ H (wt aH k u) (putK l k v):=by
 unfold wt putK
 rw [p.any k]
 split
 ·exact p.o? k r
 ·exact p.snoc r
end
noncomputable def cF:ao → Option cI
 | .int i => some (.inl i)
 | .str x => some (.inr x)
 | _ => none
noncomputable def keysOf:List ao → Option (List cI)
 | [] => some []
 | u :: us => match cF u,keysOf us with
  | some k,some ks => some (k :: ks)
  | _,_ => none
noncomputable def jQ:ao → Option (List cI)
 | .tup us => keysOf us
 | _ => none
section
variable {K:PySem.W.Frag} {ρ:List Addr} {H:Hp}
theorem pG {u:ao} {v:V} {k:cI} (r:Rl K ρ H u v) (h:cF u = some k):v = kV k:=by
 cases u with
 | int i => cases h; exact r.b6
 | str x => cases h; exact r.dE
 | _ => cases h
theorem qM:∀ {us:List ao} {vs:List V} {ks:List cI},aP K ρ H us vs → keysOf us = some ks → vs = ks.map kV
 | [],vs,ks,r,h => by cases h; exact r.dP
 | u :: us,vs,ks,r,h => by
  obtain ⟨v,r',rfl,h2,h3⟩:=r.b_
  unfold keysOf at h
  split at h
  ·rename_i k QN e1 e2
   cases h
   rw [pG h2 e1,qM h3 e2]; rfl
  ·cases h
theorem qN {u:ao} {v:V} {ks:List cI} (r:Rl K ρ H u v) (h:jQ u = some ks):∃ b,v = .ref b ∧ H b = some (.tup (ks.map kV)):=by
 cases u with
 | tup us =>
  obtain ⟨b,vs,rfl,hb,rb⟩:=r.Jh
  rw [qM rb h] at hb
  exact ⟨b,rfl,hb⟩
 | _ => cases h
end
noncomputable def kC (st:ag) (d k:ao):Option (Option ao):=match d with
 | .loc n => match st[n]? with
  | some (.dK aH) => (cF k).map fun q => pF aH q
  | some (.dT aH) => (jQ k).map fun q => pF aH q
  | _ => none
 | _ => none
noncomputable def jR (st:ag) (d k v:ao):Option ag:=match d with
 | .loc n => match st[n]? with
  | some (.dK aH) => if aH.length < sizeLine then (cF k).map fun q => st.set n (.dK (wt aH q v)) else none
  | some (.dT aH) => if aH.length < sizeLine then (jQ k).map fun q => st.set n (.dT (wt aH q v)) else none
  | _ => none
 | _ => none
theorem oJ {K:PySem.W.Frag} {ρ:List Addr} {st:ag} {H:Hp} {d k:ao} {x y:V} {o:Option ao} (sr:SR K ρ st H) (rd:Rl K ρ H d x) (rk:Rl K ρ H k y) (h:kC st d k = some o) :
  ∃ a o',x = .ref a ∧ kM H a y o' ∧ Kx H a ∧ ((o = none ∧ o' = none) ∨ ∃ u v,o = some u ∧ o' = some v ∧ Rl K ρ H u v):=by
 cases d with
 | loc n =>
  obtain ⟨a,rfl,ha⟩:=rd.df
  unfold kC at h
  dsimp only at h
  split at h
  ·rename_i aH e
   obtain ⟨l,hl,p⟩:=sr.cell n _ a e ha
   cases z:cF k with
   | none => rw [z] at h; cases h
   | some q =>
    rw [z] at h
    cases h
    have:=pG rk z
    subst this
    exact ⟨a,f? l q,rfl,kM.k hl,.inl ⟨l,.inl hl⟩,p.val q⟩
  ·rename_i aH e
   obtain ⟨l,hl,p⟩:=sr.cell n _ a e ha
   cases z:jQ k with
   | none => rw [z] at h; cases h
   | some q =>
    rw [z] at h
    cases h
    obtain ⟨b,rfl,hb⟩:=qN rk z
    exact ⟨a,f? l q,rfl,kM.t hl hb,.inr ⟨l,.inl hl⟩,p.val q⟩
  ·cases h
 | _ => cases h
theorem s? {K:PySem.W.Frag} {ρ:List Addr} {st av:ag} {H:Hp} {d k v:ao} {x y z:V} (sr:SR K ρ st H) (rd:Rl K ρ H d x) (rk:Rl K ρ H k y) (rv:Rl K ρ H v z) (h:jR st d k v = some av) :
  ∃ a H',x = .ref a ∧ pf H a y z H' ∧ ax ρ H ρ H' ∧ SR K ρ av H':=by
 cases d with
 | loc n =>
  obtain ⟨a,rfl,ha⟩:=rd.df
  unfold jR at h
  dsimp only at h
  split at h
  ·rename_i aH e
   obtain ⟨l,hl,p⟩:=sr.cell n _ a e ha
   split at h
   ·rename_i hz
    cases zk:cF k with
    | none => rw [zk] at h; cases h
    | some q =>
     rw [zk] at h
     cases h
     have:=pG rk zk
     subst this
     have st1:ax ρ H ρ (upd H a (.dK (putK l q z))):=ax.put hl (fun _ z => by cases z) (fun _ _ z => by cases z)
     exact ⟨a,_,rfl,pf.k hl (by rw [← p.length]; exact hz),st1,sr.set e rfl rfl ha hl (fun _ z => by cases z) (fun _ _ z => by cases z) ⟨_,bT,(p.put q rv).mono st1⟩⟩
   ·cases h
  ·rename_i aH e
   obtain ⟨l,hl,p⟩:=sr.cell n _ a e ha
   split at h
   ·rename_i hz
    cases zk:jQ k with
    | none => rw [zk] at h; cases h
    | some q =>
     rw [zk] at h
     cases h
     obtain ⟨b,rfl,hb⟩:=qN rk zk
     have st1:ax ρ H ρ (upd H a (.dT (putK l q z))):=ax.put hl (fun _ z => by cases z) (fun _ _ z => by cases z)
     exact ⟨a,_,rfl,pf.t hl hb (by rw [← p.length]; exact hz),st1,sr.set e rfl rfl ha hl (fun _ z => by cases z) (fun _ _ z => by cases z) ⟨_,bT,(p.put q rv).mono st1⟩⟩
   ·cases h
  ·cases h
 | _ => cases h
noncomputable def mH:ME:=fun _ st => .ok (.loc st.length) (st ++ [.dT []])
noncomputable def je:F2:=fun d k st => match kC st d k with
 | some (some v) => .ok v st
 | _ => .bad
noncomputable def PX (neg:Bool):F2:=fun k d st => match kC st d k with
 | some o => .ok (.bl (if neg then !o.isSome else o.isSome)) st
 | none => .bad
noncomputable def wu (st:ag):ao → Bool
 | .loc n => match st[n]? with
  | some (.dK _) => true
  | some (.dT _) => true
  | _ => false
 | _ => false
noncomputable def mI (d k x:ME):ME:=fun μ st => (d μ st).bind fun dv st1 => if wu st1 dv = true then (k μ st1).bind fun kv st2 => (x μ st2).bind fun xv fD => match kC fD dv kv with
 | some o => .ok (o.getD xv) fD
 | none => .bad else .bad
noncomputable def pH (d k v:ME):MB:=fun μ st => (v μ st).sb μ fun vv st1 => (d μ st1).sb μ fun dv st2 => (k μ st2).sb μ fun kv fD => match jR fD dv kv vv with
 | some ku => .nx μ ku
 | none => .bad
section
variable {X:Cx} {E:XK} {pos pos' apos bC:Pos} {o i e f value:Expr} {md mk mv mx:ME}
theorem zi {K:PySem.W.Frag} {ρ:List Addr} {st:ag} {H:Hp} (sr:SR K ρ st H) {p:Addr} (hp:H p = none) {ob:HO} {c:bf} (k:e7 K (ρ ++ [p]) (upd H p ob) c p) :
  ax ρ H (ρ ++ [p]) (upd H p ob) ∧ SR K (ρ ++ [p]) (st ++ [c]) (upd H p ob) ∧ Rl K (ρ ++ [p]) (upd H p ob) (.loc st.length) (.ref p):=by
 refine ⟨ax.snoc p (cC hp),sr.alloc hp k,Rl.yD ?_⟩
 rw [← sr.len,List.getElem?_append_right (Nat.le_refl _),Nat.sub_self]
 rfl
theorem zj:PE X (.Dict [] [] pos) (tE X E mH):=by
 refine PE.imp ym ?_
 rintro σ H Q ⟨μ,ρ,st,rs,sr,h⟩ p hp
 obtain ⟨k1,k2,k3⟩:=zi (c:=.dT []) sr hp ⟨[],bT,fj.nil⟩
 exact h _ _ _ k1 k2 k3
theorem Cs (hu:X.A.units + 64 < cLine) (ho:PE X o (tE X E md)) (hi:PE X i (tE X E mk)) (hs:Ft i:=by exact fun _ _ => rfl):PE X (.Subscript o i pos) (tE X E (aj je md mk)):=by
 refine PE.imp (BR (by lia) ho hi hs) ?_
 rintro σ H Q ⟨μ,ρ,st,rs,sr,h⟩
 refine go μ ρ st rs sr h fun d st1 ρ1 H1 x e1 bw r1 h1 => ?_
 refine go μ ρ1 st1 (rs.mono e1) bw h1 fun k st2 ρ2 H2 y e2 gy r2 h2 => ?_
 unfold je at h2
 split at h2
 ·rename_i u hl
  obtain ⟨a,o',rfl,hd,_,hv⟩:=oJ gy (Rl.mono e2 _ _ r1) r2 hl
  rcases hv with ⟨z,_⟩ | ⟨u',v,z,rfl,rv⟩
  ·cases z
  ·cases z
   exact ⟨a,v,rfl,hd,h2 ρ2 H2 v (ax.refl _ _) gy rv⟩
 ·exact h2.elim
theorem Ct {K:PySem.W.Frag} {ρ:List Addr} {st:ag} {H:Hp} {d:ao} {x:V} (sr:SR K ρ st H) (r:Rl K ρ H d x) (h:wu st d = true):∃ a,x = .ref a ∧ Kx H a:=by
 cases d with
 | loc n =>
  obtain ⟨a,rfl,ha⟩:=r.df
  obtain ⟨c,hc,kc⟩:=sr.there ha
  simp only [wu,hc] at h
  cases c with
  | dK aH => obtain ⟨l,hl,_⟩:=kc; exact ⟨a,rfl,.inl ⟨l,.inl hl⟩⟩
  | dT aH => obtain ⟨l,hl,_⟩:=kc; exact ⟨a,rfl,.inr ⟨l,.inl hl⟩⟩
  | _ => cases h
 | _ => cases h
theorem zl (hu:X.A.units + 64 < cLine) (ho:PE X o (tE X E md)) (he:PE X e (tE X E mk)) (hf:PE X f (tE X E mx)) (m:M2 X o "get" apos e f bC:=by exact ⟨rfl,rfl,rfl,rfl⟩):PE X (.Call (.Attribute o "get" apos) [e,f] [] bC) (tE X E (mI md mk mx)):=by
 refine PE.imp (yn (by lia) ho he hf m) ?_
 rintro σ H Q ⟨μ,ρ,st,rs,sr,h⟩
 refine go μ ρ st rs sr h fun d st1 ρ1 H1 x e1 bw r1 h1 => ?_
 split at h1
 ·rename_i hd
  obtain ⟨a,rfl,ia⟩:=Ct bw r1 hd
  refine ⟨a,rfl,ia,?_⟩
  refine go μ ρ1 st1 (rs.mono e1) bw h1 fun k st2 ρ2 H2 y e2 gy r2 h2 => ?_
  refine go μ ρ2 st2 ((rs.mono e1).mono e2) gy h2 fun xv fD ρ3 H3 z e3 nL r3 h3 => ?_
  split at h3
  ·rename_i ov hl
   obtain ⟨a',o',ea,HB,_,hv⟩:=oJ nL (Rl.mono (e2.trans e3) _ _ r1) (Rl.mono e3 _ _ r2) hl
   cases ea
   refine ⟨o',HB,?_⟩
   rcases hv with ⟨rfl,rfl⟩ | ⟨u,v,rfl,rfl,rv⟩
   ·exact h3 ρ3 H3 z (ax.refl _ _) nL r3
   ·exact h3 ρ3 H3 v (ax.refl _ _) nL rv
  ·exact h3.elim
 ·exact h1.elim
theorem Cu (hu:X.A.units + 64 < cLine) (ho:PE X o (tE X E md)) (hi:PE X i (tE X E mk)) (hv:PE X value (tE X E mv)) (hs:swapsWith value (some (.Subscript o i pos')) pos.line X.env = pure false:=by rfl) :
  PS X (.Assign [.Subscript o i pos'] value pos) (tS X E (pH md mk mv)):=by
 refine PS.imp (BS (by lia) ho hi hv hs) ?_
 rintro D σ H ⟨μ,ρ,st,rs,sr,h⟩
 refine xP μ ρ st rs sr h fun v st1 ρ1 H1 z e1 bw r1 h1 => ?_
 refine xP μ ρ1 st1 (rs.mono e1) bw h1 fun d st2 ρ2 H2 x e2 gy r2 h2 => ?_
 refine xP μ ρ2 st2 ((rs.mono e1).mono e2) gy h2 fun k fD ρ3 H3 y e3 nL r3 h3 => ?_
 split at h3
 ·rename_i ku xN
  obtain ⟨a,H4,rfl,hd,s4,kP⟩:=s? nL (Rl.mono e3 _ _ r2) r3 (Rl.mono (e2.trans e3) _ _ r1) xN
  exact ⟨a,H4,rfl,hd,h3 ρ3 H4 σ s4 kP ((((rs.mono e1).mono e2).mono e3).mono s4)⟩
 ·exact h3.elim
end
section
variable {X:Cx} {E:XK} {es:List Expr} {ms:MA} {pos:Pos}
theorem Gp {a b:Expr} {ma mb:ME} (ha:PE X a (tE X E ma)) (hb:PE X b (tE X E mb)) (hs:o7 b:=by exact fun _ _ => rfl):PE X (.Subscript a b pos) (tE X E (aj gz ma mb)):=D! Mu ha hb hs
end
end MN
namespace MN
open PySem PySem.Spec L2
open PyProof.Rows hiding St
noncomputable def Cv (us:List ao) (lo hi:Option Int):List ao:=(us.drop (HT.dO us.length 0 lo)).take (HT.dO us.length us.length hi - HT.dO us.length 0 lo)
theorem aP.cut {K:PySem.W.Frag} {ρ:List Addr} {H:Hp} {us:List ao} {vs:List V} (r:aP K ρ H us vs) (lo hi:Option Int):aP K ρ H (Cv us lo hi) (o4 vs lo hi):=by
 unfold Cv o4
 rw [r.length]
 exact aP.take _ (aP.drop _ r)
noncomputable abbrev MO:=Env → ag → bW (Option Int)
noncomputable abbrev RO:List Addr → Hp → Option Int → Option Int → Prop:=fun _ _ a b => b = a
noncomputable abbrev HQ (X:Cx) (E:XK) (m:MO):TO:=tG (wo X) E RO m
noncomputable def dh:MO:=fun _ st => .ok none st
noncomputable def dj (m:ME):MO:=fun μ st => (m μ st).bind fun v av => match v with
 | .int i => .ok (some i) av
 | _ => .bad
noncomputable def Jw (lo hi:Option Int):ao → ag → bW ao
 | .tup us,st => if HT.dO us.length 0 lo = 0 ∧ HT.dO us.length us.length hi = us.length then .bad else .ok (.tup (Cv us lo hi)) st
 | .loc n,st => match ak st n with
  | some us => .ok (.loc st.length) (st ++ [.lst (Cv us lo hi)])
  | none => .bad
 | _,_ => .bad
noncomputable def HR (a:ME) (lo hi:MO):ME:=fun μ st => (a μ st).bind fun x st1 => (lo μ st1).bind fun l st2 => (hi μ st2).bind fun h fD => Jw l h x fD
section
variable {X:Cx} {E:XK} {pos p2:Pos} {e:Expr} {m:ME}
theorem PO.imp {e:Option Expr} {t t':TO} (h:PO X e t) (k:∀ σ H Q,t' σ H Q → t σ H Q):PO X e t':=fun ae s σ H Q I q => h ae s σ H Q I (k σ H Q q)
theorem Cw:PO X none (HQ X E dh):=PO.imp BF fun σ H Q ⟨μ,ρ,st,rs,sr,h⟩ => h ρ H none (ax.refl _ _) sr rfl
theorem Cy (h:PE X e (tE X E m)):PO X (some e) (HQ X E (dj m)):=by
 refine PO.imp (BG h) ?_
 rintro σ H Q ⟨μ,ρ,st,rs,sr,h⟩
 refine go μ ρ st rs sr h fun u st1 ρ1 H1 x e1 bw r1 h1 => ?_
 cases u with
 | int i => exact ⟨i,r1.b6,h1 ρ1 H1 (some i) (ax.refl _ _) bw rfl⟩
 | _ => exact h1.elim
theorem Jx {lo hi:Option Expr} {ml mh:MO} (he:PE X e (tE X E m)) (hl:PO X lo (HQ X E ml)) (hh:PO X hi (HQ X E mh)):PE X (.Subscript e (.Slice lo hi none p2) pos) (tE X E (HR m ml mh)):=by
 refine PE.imp (qp (BH.or BK Fe) he hl hh) ?_
 rintro σ H Q ⟨μ,ρ,st,rs,sr,h⟩
 refine go μ ρ st rs sr h fun u st1 ρ1 H1 x e1 bw r1 h1 => ?_
 refine go (R1:=RO) μ ρ1 st1 (rs.mono e1) bw h1 fun l st2 ρ2 H2 l' e2 gy r2 h2 => ?_
 cases r2
 refine go (R1:=RO) μ ρ2 st2 ((rs.mono e1).mono e2) gy h2 fun k fD ρ3 H3 k' e3 nL r3 h3 => ?_
 cases r3
 have ru:=Rl.mono e3 _ _ (Rl.mono e2 _ _ r1)
 cases u with
 | tup us =>
  obtain ⟨a,vs,rfl,ha,ra⟩:=ru.fg
  unfold Jw at h3
  dsimp only at h3
  split at h3
  ·exact h3.elim
  ·rename_i hz
   refine .inr ⟨a,vs,rfl,ha,by rw [← ra.length]; exact hz,fun p hp => ?_⟩
   have s:=cC (o:=.tup (o4 vs l k)) hp
   exact h3 ρ3 _ _ (ax.same s) (nL.grow s) (Rl.l? bT (aP.mono (ax.same s) _ _ (ra.cut l k)))
 | loc n =>
  obtain ⟨a,rfl,ha⟩:=ru.df
  cases z:ak fD n with
  | none => simp only [Jw,z] at h3; exact h3.elim
  | some us =>
   simp only [Jw,z] at h3
   obtain ⟨vs,hs,rv⟩:=bb nL z ha
   refine .inl ⟨a,vs,rfl,hs,fun p hp => ?_⟩
   obtain ⟨k1,k2,k3⟩:=eQ nL (rv.cut l k) hp
   exact h3 _ _ _ k1 k2 k3
 | _ => exact h3.elim
end
noncomputable def PY:FM
 | .loc n,[],st => match st[n]? with
  | some (.lst us) => match us[us.length - 1]? with
   | some u => .ok u (st.set n (.lst us.dropLast))
   | none => .bad
  | _ => .bad
 | _,_,_ => .bad
noncomputable def pI (o i v:ao) (st:ag):Option ag:=match o,i with
 | .loc n,.int k => match st[n]? with
  | some (.lst us) => (L2.ye us.length k).map fun j => st.set n (.lst (us.set j v))
  | _ => none
 | _,_ => none
noncomputable def KZ (μ:Env):Option ag → bQ
 | some st => .nx μ st
 | none => .bad
noncomputable def u3 (o i v:ME):MB:=fun μ st => (v μ st).sb μ fun x st1 => (o μ st1).sb μ fun y st2 => (i μ st2).sb μ fun z fD => KZ μ (pI y z x fD)
section
variable {X:Cx} {E:XK} {o i v:Expr} {mo mi mv:ME} {pos nP:Pos} {f:F2}
theorem wx {ρ:List Addr} {st av:ag} {H:Hp} {u z w:ao} {x y q:V} {Q:Hp → Prop} (sr:SR X.K ρ st H) (ru:Rl X.K ρ H u x) (rz:Rl X.K ρ H z y) (sC:Rl X.K ρ H w q) (h:pI u z w st = some av)
  (k:∀ H',ax ρ H ρ H' → SR X.K ρ av H' → Q H'):D0 x y q H Q:=by
 unfold pI at h
 split at h
 ·rename_i n j
  split at h
  ·rename_i us hu
   obtain ⟨a,rfl,ha⟩:=ru.df
   obtain ⟨vs,hH,rv⟩:=sr.cell n _ a hu ha
   cases hj:L2.ye us.length j with
   | none => rw [hj] at h; cases h
   | some jj =>
    rw [hj] at h
    cases h
    refine ⟨a,vs,j,jj,rfl,rz.b6,hH,by rw [← rv.length]; exact hj,?_⟩
    obtain ⟨k1,k2⟩:=uZ sr hu ha hH (aP.set sC jj rv)
    exact k _ k1 k2
  ·cases h
 ·cases h
theorem Cz (ho:PE X o (tE X E mo)) (hi:PE X i (tE X E mi)) (hv:PE X v (tE X E mv))
  (ha:∀ u,assign (.Subscript o i nP) X.env u = (do
   let ov ← holding [u] (eval o X.env)
   let iv ← holding [u,ov] (eval i X.env)
   standAt nP
   holding [u,ov,iv] (setItem ov iv u)
   release [u,ov,iv] []):=by intro _; rfl)
  (hs:swapsWithSole [.Subscript o i nP] v pos.line X.env = pure false:=by rfl) (hw:swappedStores [.Subscript o i nP] v X.env = pure none:=by rfl) (h1:(assignEach [.Subscript o i nP] X.env).map (·.2) = [assign (.Subscript o i nP) X.env]:=by rfl) :
  PS X (.Assign [.Subscript o i nP] v pos) (tS X E (u3 mo mi mv)):=by
 refine PS.imp (ES hv (ER ho hi set_list ha) hs hw h1) ?_
 rintro D σ H ⟨μ,ρ,st,rs,sr,h⟩
 refine xP μ ρ st rs sr h fun u st1 ρ1 H1 x e1 bw r1 h1 => ?_
 refine xP μ ρ1 st1 (rs.mono e1) bw h1 fun w st2 ρ2 H2 y e2 gy r2 h2 => ?_
 refine xP μ ρ2 st2 ((rs.mono e1).mono e2) gy h2 fun z fD ρ3 H3 q e3 nL r3 h3 => ?_
 cases hz:pI w z u fD with
 | none => rw [hz] at h3; exact h3.elim
 | some ku =>
  rw [hz] at h3
  exact wx nL (Rl.mono e3 _ _ r2) r3 (Rl.mono e3 _ _ (Rl.mono e2 _ _ r1)) hz fun H' k1 k2 => h3 ρ3 H' σ k1 k2 ((((rs.mono e1).mono e2).mono e3).mono k1)
end
noncomputable def oK:Nat → List ao → List ao
 | _,[] => []
 | i,u :: us => .tup [.int i,u] :: oK (i + 1) us
theorem qO:∀ (us:List ao) (k i:Nat) (z:ao),(oK k us)[i]? = some z → ∃ u,us[i]? = some u ∧ z = .tup [.int ((k + i:Nat):Int),u]
 | [],_,_,_,h => by cases h
 | u :: us,k,0,z,h => by cases h; exact ⟨u,rfl,rfl⟩
 | u :: us,k,i + 1,z,h => by
  obtain ⟨w,h1,h2⟩:=qO us (k + 1) i z h
  exact ⟨w,h1,by rw [h2,show k + 1 + i = k + (i + 1) by lia]⟩
theorem oM:∀ (us:List ao) (k:Nat),(oK k us).length = us.length
 | [],_ => rfl
 | _ :: us,k => by simp only [oK,List.length_cons,oM us]
section
variable {X:Cx} {E:XK} {o e:Expr} {es:List Expr} {mo:ME} {ms:MA} {apos bC:Pos}
theorem wy (ho:PE X o (tE X E mo)) (ha:PA X (e :: es) (tL X E ms))
  (qq:attributeBase o "append" X.env (eval o X.env) = eval o X.env:=by rfl)
  (yg:((backTo bC (starEach (e :: es) X.env)).all (fun x => !x.1) && (backToKw bC (keywordEach [] X.env)).all (fun x => x.1.isSome)
   && decide ((e :: es).length + ([]:List Keyword).length + (if ([]:List Keyword).isEmpty then 0 else 1) < 30)) = true:=by rfl)
  (qr:(apos.endLine == bC.line) = true:=by rfl) (hs:starEach (e :: es) X.env = (false,eval e X.env) :: starEach es X.env:=by rfl) (lY:(backTo bC (starEach es X.env)).any (·.1) = false:=by rfl) :
  PE X (.Call (.Attribute o "append" apos) (e :: es) [] bC) (tE X E (sV dF mo ms)):=Gh PySem.F.slot_list_append PySem.F.type_list_append sW ho ha qq yg qr hs lY
end
end MN
namespace MN
open PySem PySem.Spec L2
open PyProof.Rows hiding St
theorem len0 {C:List Value → Prop} (h:C []) (us:List Value) (hl:us.length = 0):C us:=by
 rw [List.eq_nil_of_length_eq_zero hl]
 exact h
theorem Gq {C:List Value → Prop} {n:Nat} (h:∀ a (r:List Value),r.length = n → C (a :: r)) (us:List Value) (hl:us.length = n + 1):C us:=by
 cases us with
 | nil => cases hl
 | cons a r => exact h a r (Nat.succ.inj hl)
theorem Gr {C:List Value → Prop} (h:∀ a,C [a]):∀ us:List Value,us.length = 1 → C us:=Gq fun a => len0 (C:=fun r => C (a :: r)) (h a)
theorem Jy {C:List Value → Prop} (h:∀ a b,C [a,b]):∀ us:List Value,us.length = 2 → C us:=Gq fun a => Gr (C:=fun r => C (a :: r)) (h a)
theorem Mz {C:List Value → Prop} (h:∀ a b c,C [a,b,c]):∀ us:List Value,us.length = 3 → C us:=Gq fun a => Jy (C:=fun r => C (a :: r)) (h a)
end MN
namespace L2
open PySem PySem.Spec PyProof.Rows PySem.W Builtin Builtin.ObjectAttr Builtin.Getset_descriptor PySem.Calls
noncomputable def pJ (K:PySem.W.Frag) (C:Addr):Bool:=findIn K (.ref C) "__getattribute__" == some (some (.builtin "BaseException.__getattribute__")) && (findIn K (.ref C) "__getattr__" == some none) && (findIn K (.ref C) "__class__" == some (some (.builtin "object.__class__"))) &&
 (mroIn K C (.type "object") == some true) && (mroIn K C (.type "BaseException") == some true) && (specialIn K (.builtin "object.__class__") "__get__" == some (some (.builtin "getset_descriptor.__get__"))) && (takesIn K (.builtin "object.__class__") == some true) && (kitCls K (.ref C) (.ref C) == some true)
structure gP (K:PySem.W.Frag) (C:Addr):Prop where
 ga:findIn K (.ref C) "__getattribute__" = some (some (.builtin "BaseException.__getattribute__"))
 gh:findIn K (.ref C) "__getattr__" = some none
 gc:findIn K (.ref C) "__class__" = some (some (.builtin "object.__class__"))
 mo:mroIn K C (.type "object") = some true
 mb:mroIn K C (.type "BaseException") = some true
 sg:specialIn K (.builtin "object.__class__") "__get__" = some (some (.builtin "getset_descriptor.__get__"))
 tk:takesIn K (.builtin "object.__class__") = some true
 kc:kitCls K (.ref C) (.ref C) = some true
theorem wz {K:PySem.W.Frag} {C:Addr} (h:pJ K C = true):gP K C:=by
 unfold pJ at h
 simp only [Bool.and_eq_true] at h
 obtain ⟨⟨⟨⟨⟨⟨⟨a,b⟩,c⟩,d⟩,e⟩,f⟩,g⟩,i⟩:=h
 exact ⟨beq_iff_eq.mp a,beq_iff_eq.mp b,beq_iff_eq.mp c,beq_iff_eq.mp d,beq_iff_eq.mp e,beq_iff_eq.mp f,beq_iff_eq.mp g,beq_iff_eq.mp i⟩
section
variable {prog:Program} {w:World} {A:Around} {E:Value → Shared → Prop} {s:Shared} {K:PySem.W.Frag} {x C:Addr} {ox:Obj} {R:Result → Shared → Prop}
theorem u4 {M:Model} {h:Heap} (hx:h.get? x = some ox) (hc:ox.cls = .ref C):Looks M h (typeOf (.ref x)) (.ref C):=hc ▸ (Looks.ld hx).andThen .now
theorem tf {tp:Value} (X:K.In s.heap) (hx:s.heap.get? x = some ox) (hc:ox.cls = .ref C) (hm:mroIn K C (.type "object") = some true)
  (h:R (.ok (.ret (.ref C))) s):codeAny (model prog w) A (.call (.builtin "getset_descriptor.__get__") ⟨[.builtin "object.__class__",.ref x,tp],[]⟩) R s:=by
 obtain ⟨hh,g,dr,t,os⟩:=s
 have L0:=u4 (M:=model prog w) hx hc
 have L1:=looks_mroIn (M:=model prog w) X hm
 refine codeAny_call_builtin KF.slot_gs.plain KF.entry_gs (KF.slot_gs.check _ _ _ _ _ _ _ _ KF.type_class (KF.args_gs _ _ _) ?_)
 unfold Builtin.«getset_descriptor.__get__» descrGet
 rw [dga_obj]
 refine wpAny_bind (wpAny_pure ?_)
 unfold descrGetter descrCheckInstance descrNameAndClass isInstance
 simp only [KF.owner_class]
 repeat lk
 refine ⟨Code.quiet_builtin _ (by decide +kernel),codeAny_builtin KF.entry_class ?_⟩
 unfold Builtin.«object.__class__» shownTypeOf
 repeat lk
 exact h
theorem qP {M:Model} {h:Heap} (X:K.In h) (q:gP K C):Looks M h (find (.ref x) (.ref C) "__class__") (.bind (.builtin "getset_descriptor.__get__") (.builtin "object.__class__")):=by
 have L1:=looks_findIn (M:=M) X q.gc
 have L2:Looks M h (getOf (some (.builtin "object.__class__"))) (some (.builtin "getset_descriptor.__get__")):=looks_specialIn X q.sg
 have L3:=looks_takesIn (M:=M) X q.tk
 refine L1.andThen (L2.andThen ?_)
 exact (show Looks M h (dataDescriptor? (some (.builtin "object.__class__")) (some (.builtin "getset_descriptor.__get__"))) (some (.builtin "getset_descriptor.__get__",.builtin "object.__class__")) from L3.andThen .now).andThen (Looks.tag .now)
theorem qQ {tk:Tok} (X:K.In s.heap) (hx:s.heap.get? x = some ox) (hc:ox.cls = .ref C) (q:gP K C) (h:R (.ok (.ret (.ref C))) s) :
  codeAny (model prog w) A (.call (.builtin "BaseException.__getattribute__") ⟨[.ref x,.str "__class__" tk],[]⟩) R s:=by
 obtain ⟨hh,g,dr,t,os⟩:=s
 have L0:=u4 (M:=model prog w) hx hc
 have L1:=looks_mroIn (M:=model prog w) X q.mb
 have L2:=qP (M:=model prog w) (x:=x) X q
 refine codeAny_call_builtin PySem.F.attrBase_ValueError.ga.plain PySem.F.entry_bexc_ga ?_
 have hk:builtinKind "BaseException.__getattribute__" = some .slot:=by decide +kernel
 have Gu:splitId "BaseException.__getattribute__" = some ("BaseException","__getattribute__"):=by decide +kernel
 have ha:=PySem.F.args_bexc_ga (.ref x) (.str "__class__" tk)
 simp only [checkBuiltinCall,hk,Gu]
 refine wpAny_bind ?_
 unfold isInstance
 refine wpAny_bind (L0.at (L1.at ?_))
 simp only [Bool.not_true,Bool.false_eq_true,if_false]
 unfold argsOk at ha
 generalize Manifest.signature? "BaseException.__getattribute__" = sg at ha ⊢
 cases sg
 all_goals (try (dsimp only at ha ⊢; rw [ha]))
 all_goals refine wpAny_pure ?_
 all_goals unfold Builtin.«object.__getattribute__»
 all_goals (refine wpAny_bind (wpAny_pure ?_))
 all_goals (refine wpAny_bind (wpAny_pure ?_))
 all_goals (refine wpAny_bind (L0.at (wpAny_bind (L2.at ?_))))
 all_goals (unfold bindTo)
 all_goals (dsimp only)
 all_goals (refine wpAny_bind (wpAny_holding ?_))
 all_goals (refine wpAny_call (tf X hx hc q.mo ?_))
 all_goals (exact wpAny_pure h)
theorem wA {tk:Tok} {Q:Value → Shared → Prop} (X:K.In s.heap) (hx:s.heap.get? x = some ox) (hc:ox.cls = .ref C) (q:gP K C) (h:Q (.ref C) s):wpAny (model prog w) A (getAttrBy (.ref x) (.str "__class__" tk) false) Q E s:=by
 obtain ⟨hh,g,dr,t,os⟩:=s
 have L0:=u4 (M:=model prog w) hx hc
 have L1:=looks_findIn (M:=model prog w) X q.ga
 have L2:=looks_findIn (M:=model prog w) X q.gh
 unfold getAttrBy
 refine wpAny_holding (wpAny_bind (L0.at (wpAny_bind (L1.at ?_))))
 have PZ:(Value.builtin "BaseException.__getattribute__" == Value.builtin "object.__getattribute__") = false:=by decide +kernel
 have P0:(onTheHeap (Value.ref C) && Value.builtin "BaseException.__getattribute__" == Value.builtin "object.__getattribute__") = false:=by rw [PZ]; rfl
 dsimp only
 rw [if_neg (by rw [P0]; decide)]
 unfold getAttrByItsOwn
 refine wpAny_bind ?_
 have L3:Looks (model prog w) hh (hookBefore (.ref C)) none:=looks_hook X (by rw [if_pos (by rfl)]; exact q.gh)
 refine L3.at (wpAny_bind (wpAny_attempt (wpAny_holding ?_)))
 unfold callGetattribute
 rw [if_neg (by simp)]
 unfold boundAndCalled
 rw [PySem.F.attrBase_ValueError.ga.bind (.ref x)]
 refine wpAny_bind (wpAny_pure ?_)
 refine wpAny_call (qQ X hx hc q ?_)
 exact handed_on rfl h
theorem qR {Q:Option Value → Shared → Prop} (X:K.In s.heap) (hx:s.heap.get? x = some ox) (hc:ox.cls = .ref C) (q:gP K C) (h:Q (some (.ref C)) { s with toks:=s.toks + 1 }):wpAny (model prog w) A (getAttr? (.ref x) "__class__") Q E s:=by
 unfold getAttr? getAttrBy?
 refine wpAny_bind (wpAny_mkText (wpAny_bind (wpAny_attempt (wA X hx hc q ?_))))
 exact wpAny_pure h
end
theorem zo {K:PySem.W.Frag} {x C:Addr} {ox:Obj} (hc:ox.cls = .ref C) (q:gP K C):KitX K (.ref x) (.ref C) (fun h => h.get? x = some ox) where
 ty:=fun _ _ _ hx => u4 hx hc
 it:=fun M h X _ => (kit_cls (M:=M) X q.kc).2.1
 ne:=fun h tp dd aA n sl X e => Bool.eq_false_iff.mpr fun z => by
  have z:=beq_iff_eq.mp z
  cases z
  have kc:=q.kc
  unfold kitCls at kc
  dsimp only at kc
  split at kc
  ·rename_i z
   rw [Bool.and_eq_true] at z
   have z0:=z.1
   unfold clsIn at z0
   split at z0
   ·rename_i c' d' QO DS ho
    rw [X _ _ ho] at e
    cases e
   ·cases z0
  ·cases kc
 ca:=fun X hx k => qR X hx hc q k
end L2
namespace MN
open PySem PySem.Spec L2
open PyProof.Rows hiding St
inductive nV (K:PySem.W.Frag) (mg:Str → Option Value):List Str → Prop
 | nil:nV K mg []
 | cons {x:Str} {C:Addr} {r:List Str} (hm:mg x = some (.ref C)) (hq:pJ K C = true) (hr:nV K mg r):nV K mg (x :: r)
theorem nV.at_ {K:PySem.W.Frag} {mg:Str → Option Value} {c:Str}:∀ {qs:List Str},nV K mg qs → qs.contains c = true → ∃ C,mg c = some (.ref C) ∧ gP K C
 | _,.nil,h => by simp at h
 | _,.cons (x:=x) hm hq hr,h => by
  by_cases e:c = x
  ·subst e; exact ⟨_,hm,wz hq⟩
  ·exact hr.at_ (by simpa [e] using h)
end MN
namespace MN
open PySem PySem.Spec L2
open PyProof.Rows hiding St
theorem Jz {P:Program} {w:World} {X:Cx}:Passes (i9 P w) X E0:=by
 rintro ae σ H s e s' I ⟨_,_,_,_,_,z⟩
 exact z.elim
noncomputable def JA:bW ao → bW ao
 | .ok v st => .ok v st
 | _ => .bad
structure CA where
 S:kO
 own:Str
 line:Nat
 col:Nat
end MN
namespace MN
open PySem PySem.Spec L2
open PyProof.Rows hiding St
end MN
namespace L2
open PySem PySem.Spec PyProof.Rows
end L2
namespace MN
open PySem PySem.Spec L2
open PyProof.Rows hiding St
end MN
namespace MN
open PySem PySem.Spec L2
open PyProof.Rows hiding St
end MN
namespace PM
open PySem PySem.Spec L2 MN
open PyProof.Rows hiding St
noncomputable def dG:ao:=.mt ([2,3,5,7,11,13,17,19,23,29,31].map ao.int)
noncomputable def cR:FN:=dM 1 1 (aO (mq (xQ "int" (af 0)) (FY (xQ "bool" (af 0)))))
noncomputable def bE:FN:=dM 1 1 (aw (cg (bg (aj (uR false) (af 0) (mC PM.dG))) (aO (mC (.bl true))) aD) (aw (cg (iP (bg (aj ltV (af 0) (mC (.int 2)))) (bg (aj HJ (af 0) (mC (.int 997))))) (aO (mC (.bl false))) aD) (aO (ai jP (aa (b! 1 [0] (dg (mC PM.dG)) (aB 0) bD (aj kB (aj bB (af 1) (af 0)) (mC (.int 0)))) ah)))))
noncomputable def bj:FN:=dM 2 2 (aO (v9 (bg (aj cb (af 0) (mC (.int 0)))) (af 1) (aj bB (af 1) (af 0))))
noncomputable def fH:FN:=dM 1 1 (aw (cg (bg (aj kB (ai sP (aa (af 0) ah)) (mC (.int 1)))) (cD "NoInverse" (aa (mC (.str "only 1 and -1 have an inverse among the whole numbers")) ah)) aD) (aO (af 0)))
noncomputable def a!:FN:=dM 2 6 (aw (bu 2 (mC (.int 0))) (aw (cg (bg (aj ltV (af 1) (ai dC (aa (af 0) ah)))) (bu 2 (aj gz (af 0) (af 1))) aD) (aw (bu 3 (aj bB (aj c! (aj c! (aj c! (aj dN (af 2) (mC (.int 48271))) (aj dN (aj dN (mC (.int 7919)) (af 1)) (af 1))) (aj dN (mC (.int 104729)) (af 1))) (mC (.int 11))) (mC (.int 2147483647)))) (aw (bu 4 (mC (.int 0))) (aw (gD (gg (aa (mC (.int 6)) ah)) (aB 5) (aw (bu 3 (aj bB (aj c! (aj dN (aj bB (aj dN (af 3) (af 3)) (mC (.int 2147483629))) (mC (.int 69621))) (af 5)) (mC (.int 2147483647)))) (bu 4 (aj c! (aj dN (af 4) (mC (.int 2147483647))) (af 3))))) (aO (af 4)))))))
noncomputable def eR:FN:=dM 1 1 (aO (mq (ai PM.cR (aa (af 0) ah)) (KR (aj cb (af 0) (mC (.int 0))) (ai PM.bE (aa (af 0) ah)))))
noncomputable def az:FN:=dM 1 1 (cg (c6 (bg (ai PM.eR (aa (af 0) ah)))) (cD "NoRing" (aa (mC (.str "a ring is 0 or a prime from 2 to 997")) ah)) aD)
noncomputable def settled:FN:=dM 2 2 (aw (bh (ai PM.az (aa (af 0) ah))) (aO (ai PM.bj (aa (af 0) (aa (af 1) ah)))))
end PM
namespace PM
open PySem PySem.Spec L2 MN
open PyProof.Rows hiding St
end PM
namespace PM
open PySem PySem.Spec L2 MN
open PyProof.Rows hiding St
end PM
namespace MN
open PySem PySem.Spec L2
open PyProof.Rows hiding St
theorem jf {g:ag → Prop} {a:AS} {body:MB} (P:Nat → Env → ag → Prop):∀ (us:List ao) (k:Nat) (μ:Env) (st:ag),
  (∀ (i:Nat) (u:ao) (μ:Env) (st:ag),us[i]? = some u → P (k + i) μ st → g st ∧ ∃ μ1,a u μ = some μ1 ∧ ∃ μ' av,(body μ1 st = .nx μ' av ∨ body μ1 st = .ct μ' av) ∧ P (k + i + 1) μ' av) →
  (∀ μ st,P (k + us.length) μ st → g st) → P k μ st → ∃ μ' av,forL g a body us μ st = .nx μ' av ∧ P (k + us.length) μ' av
 | [],k,μ,st,_,he,h => by
  refine ⟨μ,st,?_,h⟩
  unfold forL
  rw [if_pos (he μ st h)]
 | u :: us,k,μ,st,hs,he,h => by
  obtain ⟨hg,μ1,ha,μ',av,hb,hP⟩:=hs 0 u μ st rfl h
  have ih:=jf (a:=a) (body:=body) P us (k + 1) μ' av (fun i v μ2 st2 hv hp => by
   have:=hs (i + 1) v μ2 st2 hv (by rw [show k + (i + 1) = k + 1 + i by lia]; exact hp)
   rw [show k + (i + 1) + 1 = k + 1 + i + 1 by lia] at this
   exact this) (fun μ2 st2 hp => he μ2 st2 (by rw [List.length_cons,show k + (us.length + 1) = k + 1 + us.length by lia]; exact hp)) hP
  obtain ⟨μ2,st2,e2,p2⟩:=ih
  refine ⟨μ2,st2,?_,by rw [List.length_cons,show k + (us.length + 1) = k + 1 + us.length by lia]; exact p2⟩
  unfold forL
  rw [if_pos hg,ha]
  rcases hb with hb | hb <;> (dsimp only; rw [hb]; exact e2)
theorem cL {g:ag → Prop} {a:AS} {c:MT} {e:ME} {st:ag} (hg:g st) (I:Env → Prop) (p:ao → Bool) (f:ao → ao):∀ (us:List ao) (τ:Env) (ys:List ao),I τ →
  (∀ u ∈ us,∀ τ,I τ → ∃ τ1,a u τ = some τ1 ∧ I τ1 ∧ c τ1 st = .ok (p u) st ∧ (p u = true → e τ1 st = .ok (f u) st)) → cq g a c e us τ st ys = .ok (ys ++ (us.filter p).map f) st
 | [],τ,ys,_,_ => by
  unfold cq
  rw [if_pos hg]; simp
 | u :: us,τ,ys,hI,hs => by
  obtain ⟨τ1,h1,h2,h3,h4⟩:=hs u List.mem_cons_self τ hI
  have JB:=fun v hv => hs v (List.mem_cons_of_mem u hv)
  unfold cq
  rw [if_pos hg,h1]
  dsimp only
  rw [h3]
  cases z:p u with
  | true =>
   dsimp only
   rw [h4 z]
   dsimp only
   rw [cL hg I p f us τ1 _ h2 JB,List.filter_cons_of_pos z]
   simp
  | false =>
   dsimp only
   rw [cL hg I p f us τ1 _ h2 JB,List.filter_cons_of_neg (by rw [z]; simp)]
theorem aR (st:ag) (us:List ao):ak (st ++ [.lst us]) st.length = some us:=by
 unfold ak
 rw [List.getElem?_append_right (Nat.le_refl _),Nat.sub_self]; rfl
theorem aM {st:ag} {n:Nat} {us:List ao} (h:ak st n = some us) (more:ag):ak (st ++ more) n = some us:=by
 have hn:n < st.length:=by
  rcases Nat.lt_or_ge n st.length with q | q
  ·exact q
  ·unfold ak at h; rw [List.getElem?_eq_none q] at h; cases h
 unfold ak at h ⊢
 rw [List.getElem?_append_left hn]; exact h
theorem mJ {t:MT} {body:MB} (P:Env → ag → Prop) (M:Env → ag → Nat) (Q:Env → ag → Prop)
  (hs:∀ μ st,P μ st → (∃ st1,t μ st = .ok false st1 ∧ Q μ st1) ∨ ∃ st1 μ' av,t μ st = .ok true st1 ∧ (body μ st1 = .nx μ' av ∨ body μ st1 = .ct μ' av) ∧ P μ' av ∧ M μ' av < M μ st) :
  ∀ (n:Nat) (μ:Env) (st:ag),M μ st < n → P μ st → ∃ μ' av,dQ t body n μ st = some (.nx μ' av) ∧ Q μ' av
 | 0,μ,st,h,_ => absurd h (Nat.not_lt_zero _)
 | n + 1,μ,st,h,hp => by
  unfold dQ
  rcases hs μ st hp with ⟨st1,e,q⟩ | ⟨st1,μ',av,e,hb,p',lt⟩
  ·rw [e]; exact ⟨μ,st1,rfl,q⟩
  ·rw [e]
   dsimp only
   obtain ⟨μ2,st2,e2,q2⟩:=mJ P M Q hs n μ' av (by lia) p'
   rcases hb with hb | hb <;> (rw [hb]; exact ⟨μ2,st2,e2,q2⟩)
theorem tq {t:MT} {body:MB} (P:Env → ag → Prop) (M:Env → ag → Nat) (Q:Env → ag → Prop)
  (hs:∀ μ st,P μ st → (∃ st1,t μ st = .ok false st1 ∧ Q μ st1) ∨ ∃ st1 μ' av,t μ st = .ok true st1 ∧ (body μ st1 = .nx μ' av ∨ body μ st1 = .ct μ' av) ∧ P μ' av ∧ M μ' av < M μ st)
  (μ:Env) (st:ag) (hp:P μ st):∃ μ' av,fG t body μ st = .nx μ' av ∧ Q μ' av:=by
 obtain ⟨μ',av,e,q⟩:=mJ P M Q hs (M μ st + 1) μ st (Nat.lt_succ_self _) hp
 exact ⟨μ',av,wg e,q⟩
end MN
namespace MN
open PySem PySem.Spec L2
open PyProof.Rows hiding St
noncomputable def bW.f6 {α β:Type} (r:bW α) (k:α → ag → bW β):bW β:=match r with
 | .ok a st => k a st
 | .err c st => .err c st
 | .bad => .bad
noncomputable def bW.u5 {α:Type} (r:bW α) (μ:Env) (k:α → ag → bQ):bQ:=match r with
 | .ok a st => k a st
 | .err c st => .er c μ st
 | .bad => .bad
noncomputable def bQ.bF (r:bQ) (k:MB):bQ:=match r with
 | .nx μ st => k μ st
 | .rt v st => .rt v st
 | .bk μ st => .bk μ st
 | .ct μ st => .ct μ st
 | .er c μ st => .er c μ st
 | .bad => .bad
noncomputable def bQ.fin (r:bQ):bW ao:=match r with
 | .nx _ av => .ok .cB av
 | .rt v av => .ok v av
 | .er c _ av => .err c av
 | _ => .bad
section
variable {α β:Type} {μ:Env} {st:ag}
theorem au {a:α} {k:α → ag → bW β}:(bW.ok a st).f6 k = k a st:=rfl
theorem ay {a:α} {k:α → ag → bQ}:(bW.ok a st).u5 μ k = k a st:=rfl
theorem fm {c:Str} {k:α → ag → bQ}:(bW.err c st:bW α).u5 μ k = .er c μ st:=rfl
theorem aX {k:MB}:(bQ.nx μ st).bF k = k μ st:=rfl
theorem iQ {v:ao} {k:MB}:(bQ.rt v st).bF k = .rt v st:=rfl
theorem fI {c:Str} {k:MB}:(bQ.er c μ st).bF k = .er c μ st:=rfl
theorem Gv:(bQ.nx μ st).fin = .ok .cB st:=rfl
theorem bG {v:ao}:(bQ.rt v st).fin = .ok v st:=rfl
theorem gj {c:Str}:(bQ.er c μ st).fin = .err c st:=rfl
theorem gQ {r:bW α} {k:α → ag → bW β}:r.bind k = r.f6 k:=by cases r <;> rfl
variable {a b c:ME} {f g:F2} {t u:MT} {s1 s2:MB} {ms:MA} {i:Nat} {v:ao}
theorem bX {r:bW α} {k k':α → ag → bW β} (h:∀ a st,k a st = k' a st):r.bind k = r.f6 k':=by cases r <;> first | exact h _ _ | rfl
theorem gk {r:bW α} {k k':α → ag → bQ} (h:∀ a st,k a st = k' a st):r.sb μ k = r.u5 μ k':=by cases r <;> first | exact h _ _ | rfl
noncomputable def qS (f:F2) (x:ao):ao → ag → bW ao:=fun y st => f x y st
noncomputable def JC (f:F2) (b:ME) (μ:Env):ao → ag → bW ao:=fun x st => (b μ st).f6 (qS f x)
theorem aS:aj f a b μ st = (a μ st).f6 (JC f b μ):=bX fun _ _ => bX fun _ _ => rfl
theorem br {x:ao}:JC f b μ x st = (b μ st).f6 (qS f x):=rfl
theorem aQ {x y:ao}:qS f x y st = f x y st:=rfl
theorem cf:mC v μ st = .ok v st:=rfl
noncomputable def Om:ao → ag → bW Bool
 | .bl b,st => .ok b st
 | _,_ => .bad
theorem a8 {b:Bool}:Om (.bl b) st = .ok b st:=rfl
theorem aZ:bg a μ st = (a μ st).f6 Om:=bX fun x _ => by cases x <;> rfl
noncomputable def Gw (b:ME) (μ:Env):ao → ag → bW ao
 | .bl true,st => b μ st
 | .bl false,st => .ok (.bl false) st
 | _,_ => .bad
theorem fJ:mq a b μ st = (a μ st).f6 (Gw b μ):=bX fun x _ => by
 cases x <;> try rfl
 rename_i k; cases k <;> rfl
theorem gm:Gw b μ (.bl true) st = b μ st:=rfl
theorem pK:Gw b μ (.bl false) st = .ok (.bl false) st:=rfl
noncomputable def MC (b:ME) (μ:Env):ao → ag → bW ao
 | .bl true,st => .ok (.bl true) st
 | .bl false,st => b μ st
 | _,_ => .bad
theorem Ec:KR a b μ st = (a μ st).f6 (MC b μ):=bX fun x _ => by
 cases x <;> try rfl
 rename_i k; cases k <;> rfl
theorem Gx:MC b μ (.bl true) st = .ok (.bl true) st:=rfl
theorem Gy:MC b μ (.bl false) st = b μ st:=rfl
noncomputable def JD:ao → ag → bW ao
 | .bl k,st => .ok (.bl (!k)) st
 | _,_ => .bad
theorem Gz:FY a μ st = (a μ st).f6 JD:=bX fun x _ => by cases x <;> rfl
theorem k_not {k:Bool}:JD (.bl k) st = .ok (.bl (!k)) st:=rfl
noncomputable def zr (u:MT) (μ:Env):Bool → ag → bW Bool
 | true,st => u μ st
 | false,st => .ok false st
theorem jg:kA t u μ st = (t μ st).f6 (zr u μ):=bX fun x _ => by cases x <;> rfl
theorem qT:zr u μ true st = u μ st:=rfl
theorem mK:zr u μ false st = .ok false st:=rfl
noncomputable def GA (u:MT) (μ:Env):Bool → ag → bW Bool
 | true,st => .ok true st
 | false,st => u μ st
theorem e9:iP t u μ st = (t μ st).f6 (GA u μ):=bX fun x _ => by cases x <;> rfl
theorem pL:GA u μ true st = .ok true st:=rfl
theorem fq:GA u μ false st = u μ st:=rfl
noncomputable def Ed:Bool → ag → bW Bool:=fun k st => .ok (!k) st
theorem eS:c6 t μ st = (t μ st).f6 Ed:=bX fun _ _ => rfl
theorem mL {k:Bool}:Ed k st = .ok (!k) st:=rfl
noncomputable def GB (a b:ME) (μ:Env):Bool → ag → bW ao
 | true,st => a μ st
 | false,st => b μ st
theorem mM:v9 t a b μ st = (t μ st).f6 (GB a b μ):=bX fun x _ => by cases x <;> rfl
theorem u6:GB a b μ true st = a μ st:=rfl
theorem jh:GB a b μ false st = b μ st:=rfl
noncomputable def CB (g:F2) (c:ME) (μ:Env) (y:ao):ao → ag → bW ao
 | .bl true,st => (c μ st).f6 (qS g y)
 | .bl false,st => .ok (.bl false) st
 | _,_ => .bad
noncomputable def GC (f g:F2) (c:ME) (μ:Env) (x:ao):ao → ag → bW ao:=fun y st => (f x y st).f6 (CB g c μ y)
noncomputable def Oo (f g:F2) (b c:ME) (μ:Env):ao → ag → bW ao:=fun x st => (b μ st).f6 (GC f g c μ x)
theorem gR:iO f g a b c μ st = (a μ st).f6 (Oo f g b c μ):=bX fun _ _ => bX fun _ _ => bX fun z _ => by
 cases z <;> try rfl
 rename_i k
 cases k
 ·rfl
 ·exact bX fun _ _ => rfl
theorem zt {x:ao}:Oo f g b c μ x st = (b μ st).f6 (GC f g c μ x):=rfl
theorem qU {x y:ao}:GC f g c μ x y st = (f x y st).f6 (CB g c μ y):=rfl
theorem pM {y:ao}:CB g c μ y (.bl true) st = (c μ st).f6 (qS g y):=rfl
theorem u7 {y:ao}:CB g c μ y (.bl false) st = .ok (.bl false) st:=rfl
theorem a9:ah μ st = .ok [] st:=rfl
noncomputable def tu (x:ao):List ao → ag → bW (List ao):=fun xs st => .ok (x :: xs) st
noncomputable def Ee (ms:MA) (μ:Env):ao → ag → bW (List ao):=fun x st => (ms μ st).f6 (tu x)
theorem aJ:aa a ms μ st = (a μ st).f6 (Ee ms μ):=bX fun _ _ => bX fun _ _ => rfl
theorem aT {x:ao}:Ee ms μ x st = (ms μ st).f6 (tu x):=rfl
theorem aK {x:ao} {xs:List ao}:tu x xs st = .ok (x :: xs) st:=rfl
noncomputable def JE:List ao → ag → bW ao:=fun xs st => if xs.length ≤ sizeLine then .ok (.tup xs) st else .bad
theorem pN:du ms μ st = (ms μ st).f6 JE:=bX fun _ _ => rfl
theorem u9 {xs:List ao}:JE xs st = if xs.length ≤ sizeLine then .ok (.tup xs) st else .bad:=rfl
noncomputable def JF:List ao → ag → bW ao:=fun xs st => if xs.length ≤ sizeLine then .ok (.loc st.length) (st ++ [.lst xs]) else .bad
theorem gS:bx ms μ st = (ms μ st).f6 JF:=bX fun _ _ => rfl
theorem kD {xs:List ao}:JF xs st = if xs.length ≤ sizeLine then .ok (.loc st.length) (st ++ [.lst xs]) else .bad:=rfl
theorem aY {h:FN}:ai h ms μ st = (ms μ st).f6 h:=bX fun _ _ => rfl
noncomputable def P_:ao → ag → bW ao
 | .int i,st => .ok (.int (-i)) st
 | _,_ => .bad
noncomputable def wB (T:String) (v:ao) (st:ag):bW ao:=match HK T st v with
 | some b => .ok (.bl b) st
 | none => .bad
theorem zu {T:String}:xQ T a μ st = (a μ st).f6 (wB T):=bX fun _ _ => rfl
theorem aL:aw s1 s2 μ st = (s1 μ st).bF s2:=by
 unfold aw; cases s1 μ st <;> rfl
theorem cN:aD μ st = .nx μ st:=rfl
noncomputable def Ef (μ:Env):ao → ag → bQ:=fun _ st => .nx μ st
theorem bJ:bh a μ st = (a μ st).u5 μ (Ef μ):=gk fun _ _ => rfl
theorem iR:Ef μ v st = .nx μ st:=rfl
noncomputable def JG:ao → ag → bQ:=fun v st => .rt v st
theorem bc:aO a μ st = (a μ st).u5 μ JG:=gk fun _ _ => rfl
theorem cE:JG v st = .rt v st:=rfl
noncomputable def MD (s1 s2:MB) (μ:Env):Bool → ag → bQ
 | true,st => s1 μ st
 | false,st => s2 μ st
theorem bA:cg t s1 s2 μ st = (t μ st).u5 μ (MD s1 s2 μ):=gk fun x _ => by cases x <;> rfl
theorem cU:MD s1 s2 μ true st = s1 μ st:=rfl
theorem cV:MD s1 s2 μ false st = s2 μ st:=rfl
noncomputable def JH (i:Nat) (μ:Env):ao → ag → bQ:=fun v st => .nx (μ.set i (some v)) st
theorem cW:bu i a μ st = (a μ st).u5 μ (JH i μ):=gk fun _ _ => rfl
theorem eI:JH i μ v st = .nx (μ.set i (some v)) st:=rfl
noncomputable def zx (x:Str) (μ:Env):List ao → ag → bQ:=fun vs st => if vs.length ≤ sizeLine then .er x μ st else .bad
theorem e_ {x:Str}:cD x ms μ st = (ms μ st).u5 μ (zx x μ):=gk fun _ _ => rfl
theorem gn {x:Str} {vs:List ao}:zx x μ vs st = if vs.length ≤ sizeLine then .er x μ st else .bad:=rfl
noncomputable def kFor (as:AS) (s1:MB) (μ:Env):Itm → ag → bQ:=fun p st => forL p.2 as s1 p.1 μ st
theorem gT {it:MI} {as:AS}:gD it as s1 μ st = (it μ st).u5 μ (kFor as s1 μ):=gk fun _ _ => rfl
theorem kE {as:AS} {us:List ao} {q:ag → Prop}:kFor as s1 μ (us,q) st = forL q as s1 us μ st:=rfl
noncomputable def GD:List ao → ag → bW ao:=fun ys st => .ok (.loc st.length) (st ++ [.lst ys])
theorem iy {ys:List ao}:GD ys st = .ok (.loc st.length) (st ++ [.lst ys]):=rfl
noncomputable def zy (k:Nat) (a_:List Nat) (as:AS) (t:MT) (a:ME) (μ:Env):Itm → ag → bW ao:=fun p st => if p.1.length ≤ sizeLine then (cq p.2 as t a p.1 (gO k a_ μ) st []).f6 GD else .bad
theorem d8 {k:Nat} {a_:List Nat} {it:MI} {as:AS}:b! k a_ it as t a μ st = (it μ st).f6 (zy k a_ as t a μ):=bX fun p st1 => by
 unfold zy
 split
 ·exact bX fun _ _ => rfl
 ·rfl
theorem fK {k:Nat} {a_:List Nat} {as:AS} {us:List ao} {q:ag → Prop}:zy k a_ as t a μ (us,q) st = if us.length ≤ sizeLine then (cq q as t a us (gO k a_ μ) st []).f6 GD else .bad:=rfl
theorem aU {np n:Nat} {us:List ao} (h:us.length = np):dM np n s1 us st = (s1 (us.map some ++ List.replicate (n - np) none) st).fin:=by
 unfold dM; rw [if_pos h]; cases s1 (us.map some ++ List.replicate (n - np) none) st <;> rfl
theorem iS (h:μ[i]? = some (some v)) (hx:xO v = false):af i μ st = .ok v st:=by
 unfold af; rw [h]; simp [hx]
theorem zA {μ:Env} (hx:xO v = false):af 0 (some v :: μ) st = .ok v st:=iS rfl hx
theorem bP {x:Option ao} {μ:Env}:af (i + 1) (x :: μ) st = af i μ st:=rfl
theorem bz {μ:Env} {j:Int}:af 0 (some (.int j) :: μ) st = .ok (.int j) st:=rfl
theorem qV {μ:Env} {j:Bool}:af 0 (some (.bl j) :: μ) st = .ok (.bl j) st:=rfl
theorem dS {μ:Env} {j:Str}:af 0 (some (.str j) :: μ) st = .ok (.str j) st:=rfl
theorem JI {μ:Env} {j:List ao}:af 0 (some (.tup j) :: μ) st = .ok (.tup j) st:=rfl
theorem ft {μ:Env} {j:Nat}:af 0 (some (.loc j) :: μ) st = .ok (.loc j) st:=rfl
noncomputable def mO (v:ao) (st:ag):bW Itm:=match mE st v with
 | some p => .ok p st
 | none => .bad
theorem d9:dg a μ st = (a μ st).f6 mO:=by unfold dg; rw [gQ]; rfl
theorem wC {us:List ao}:mO (.tup us) st = .ok (us,fun _ => True) st:=rfl
theorem dz {n:Nat} {us:List ao} (h:ak st n = some us):mO (.loc n) st = .ok (us,fun av => ak av n = some us) st:=by
 simp only [mO,mE,h]; rfl
noncomputable def CC (vs:List ao) (av:ag):bW Itm:=match vs with
 | [.int j] => if -(2 ^ 62) ≤ j ∧ j < 2 ^ 62 then .ok (cj 0 j.toNat,fun _ => True) av else .bad
 | _ => .bad
noncomputable def JJ (vs:List ao) (av:ag):bW Itm:=match vs with
 | [.int i,.int j] => if -(2 ^ 62) ≤ i ∧ i < 2 ^ 62 ∧ -(2 ^ 62) ≤ j ∧ j < 2 ^ 62 then .ok (cj i (j - i).toNat,fun _ => True) av else .bad
 | _ => .bad
theorem lK:gg ms μ st = (ms μ st).f6 CC:=by unfold gg; rw [gQ]; rfl
theorem CD:jd ms μ st = (ms μ st).f6 JJ:=by unfold jd; rw [gQ]; rfl
noncomputable def GF (b1 b2:Bool) (vs:List ao) (av:ag):bW Itm:=match vs with
 | [u,w] => match e8 av u,e8 av w with
  | some (c1,us,g1),some (c2,ws,g2) => if c1 = b1 ∧ c2 = b2 then .ok (nT us ws,fun st2 => g1 st2 ∧ g2 st2) av else .bad
  | _,_ => .bad
 | _ => .bad
theorem GG {b1 b2:Bool}:oH b1 b2 ms μ st = (ms μ st).f6 (GF b1 b2):=by unfold oH; rw [gQ]; rfl
theorem CF {n:Nat} {us:List ao} (h1:ak st n = some us):sQ [.loc n] st = .ok (.tup us) st:=by unfold sQ; dsimp only; rw [h1]
theorem pO {i j:Int}:c! (.int i) (.int j) st = .ok (.int (i + j)) st:=rfl
theorem zB {i j:Int}:Ce (.int i) (.int j) st = .ok (.int (i - j)) st:=rfl
theorem zC {i j:Int} (h:MulOk i j):dN (.int i) (.int j) st = .ok (.int (i * j)) st:=by unfold dN; dsimp only; rw [if_pos h]
theorem zD {i j:Int} (h1:-(2 ^ 64) < i) (h2:i < 2 ^ 64):dN (.int i) (.int j) st = .ok (.int (i * j)) st:=zC (.inr (.inl ⟨h1,h2⟩))
theorem mul_r {i j:Int} (h1:-(2 ^ 64) < j) (h2:j < 2 ^ 64):dN (.int i) (.int j) st = .ok (.int (i * j)) st:=zC (.inr (.inr ⟨h1,h2⟩))
theorem div_ii {i j:Int} (h:Dz j):cY (.int i) (.int j) st = .ok (.int (i.fdiv j)) st:=if_pos h
theorem ck {i j:Int} (h:¬ j = 0):bB (.int i) (.int j) st = .ok (.int (i.fmod j)) st:=if_neg h
theorem ji {i j:Int}:ltV (.int i) (.int j) st = .ok (.bl (decide (i < j))) st:=rfl
theorem qW {i j:Int}:Cf (.int i) (.int j) st = .ok (.bl (decide (i ≤ j))) st:=rfl
theorem qX {i j:Int}:HJ (.int i) (.int j) st = .ok (.bl (decide (j < i))) st:=rfl
theorem c8 {i j:Int}:cb (.int i) (.int j) st = .ok (.bl (i == j)) st:=rfl
theorem u_ {i j:Int}:kB (.int i) (.int j) st = .ok (.bl (!(i == j))) st:=rfl
theorem u! {i j:Str}:cb (.str i) (.str j) st = .ok (.bl (i == j)) st:=rfl
theorem Eg {i j:Str}:kB (.str i) (.str j) st = .ok (.bl (!(i == j))) st:=rfl
theorem sD {us:List ao} {i:Int} {v:ao} (h:L2.nJ us i = some v):gz (.tup us) (.int i) st = .ok v st:=by unfold gz; dsimp only; rw [h]
theorem pP {n:Nat} {us:List ao} {i:Int} {v:ao} (h1:ak st n = some us) (h:L2.nJ us i = some v):gz (.loc n) (.int i) st = .ok v st:=by unfold gz; dsimp only; rw [h1]; dsimp only; rw [h]
theorem gp {n:Nat} {us:List ao} (h1:ak st n = some us):dC [.loc n] st = .ok (.int us.length) st:=by unfold dC; dsimp only; rw [h1]
theorem CG {n m:Nat} {us:List ao} (h1:ak st n = some us) (h2:ak st m = some []):kQ 16 st (.loc n) (.loc m) = some us.isEmpty:=by
 unfold kQ
 simp only [vw,h1,h2]
 show il _ us [] = _
 cases us <;> rfl
theorem eq_nil {n m:Nat} {us:List ao} (h1:ak st n = some us) (h2:ak st m = some []):cb (.loc n) (.loc m) st = .ok (.bl us.isEmpty) st:=by unfold cb; rw [CG h1 h2]
noncomputable def bW.MF (r:bW α):bW α:=match r with
 | .ok v av => .ok v av
 | .err _ _ => .bad
 | .bad => .bad
theorem zE {m:Env → ag → bW α}:pC m μ st = (m μ st).MF:=by unfold pC bW.MF; cases m μ st <;> rfl
theorem zF {a:α}:(bW.ok a st).MF = .ok a st:=rfl
noncomputable def bQ.JK (r:bQ):bQ:=match r with
 | .er _ _ _ => .bad
 | .nx μ' av => .nx μ' av
 | .rt v av => .rt v av
 | .bk μ' av => .bk μ' av
 | .ct μ' av => .ct μ' av
 | .bad => .bad
theorem zG:mG s1 μ st = (s1 μ st).JK:=by unfold mG bQ.JK; cases s1 μ st <;> rfl
noncomputable def bQ.GH (r:bQ) (kn:Str → Bool) (h:MH):bQ:=match r with
 | .er c μ' av => if kn c = true then h c μ' av else .bad
 | .nx μ' av => .nx μ' av
 | .rt v av => .rt v av
 | .bk μ' av => .bk μ' av
 | .ct μ' av => .ct μ' av
 | .bad => .bad
theorem GI {kn:Str → Bool} {h:MH}:pE kn s1 h μ st = (s1 μ st).GH kn h:=by unfold pE bQ.GH; cases s1 μ st <;> rfl
theorem CH {kn:Str → Bool} {h:MH} {c:Str} (hk:kn c = true):(bQ.er c μ st).GH kn h = h c μ st:=by
 show (if kn c = true then h c μ st else .bad) = _
 rw [if_pos hk]
end
end MN
namespace MN
open PySem PySem.Spec L2
open PyProof.Rows hiding St kindOf
end MN
namespace MN
open PySem PySem.Spec L2
open PyProof.Rows hiding St kindOf
section
variable {μ:Env} {st:ag} {a b c o:ME} {ms:MA} {f:F2} {g:FM} {v w:ao} {i n m:Nat} {us ws:List ao}
noncomputable def GJ (g:FM) (x:ao):List ao → ag → bW ao:=fun xs st => g x xs st
noncomputable def CI (g:FM) (ms:MA) (μ:Env):ao → ag → bW ao:=fun x st => if qI st x = true then (ms μ st).f6 (GJ g x) else .bad
theorem GK:sV g o ms μ st = (o μ st).f6 (CI g ms μ):=bX fun x st1 => by
 unfold CI
 split
 ·exact bX fun _ _ => rfl
 ·rfl
theorem Eh (h:st[n]? = some (.lst us)):CI g ms μ (.loc n) st = (ms μ st).f6 (GJ g (.loc n)):=by
 unfold CI
 rw [if_pos (by unfold qI; dsimp only; rw [h])]
theorem JL {xs:List ao}:GJ g v xs st = g v xs st:=rfl
theorem oN (h:st[n]? = some (.lst us)) (hl:us.length < sizeLine):dF (.loc n) [v] st = .ok .cB (st.set n (.lst (us ++ [v]))):=by
 simp only [dF,h]
 rw [if_pos hl]
noncomputable def GL (μ:Env) (x y:ao):ao → ag → bQ:=fun z st => KZ μ (pI y z x st)
noncomputable def GN (b:ME) (μ:Env) (x:ao):ao → ag → bQ:=fun y st => (b μ st).u5 μ (GL μ x y)
noncomputable def Oq (a b:ME) (μ:Env):ao → ag → bQ:=fun x st => (a μ st).u5 μ (GN b μ x)
theorem CJ:u3 a b c μ st = (c μ st).u5 μ (Oq a b μ):=gk fun _ _ => gk fun _ _ => gk fun _ _ => rfl
theorem MG:Oq a b μ v st = (a μ st).u5 μ (GN b μ v):=rfl
theorem JM:GN b μ v w st = (b μ st).u5 μ (GL μ v w):=rfl
theorem JN {x:ao}:GL μ v w x st = KZ μ (pI w x v st):=rfl
theorem CK {k:Int} {j:Nat} (h:st[n]? = some (.lst us)) (hj:L2.ye us.length k = some j):pI (.loc n) (.int k) v st = some (st.set n (.lst (us.set j v))):=by
 simp only [pI,h,hj]; rfl
theorem zH:KZ μ (some st) = .nx μ st:=rfl
theorem GO (e1:ak st n = some us) (e2:ak st m = some ws):GF true true [.loc n,.loc m] st = .ok (nT us ws,fun st2 => ak st2 n = some us ∧ ak st2 m = some ws) st:=by
 unfold GF
 dsimp only
 unfold e8
 dsimp only
 rw [e1,e2]
 rfl
theorem GP (h1:st[n]? = some (.lst us)) (h2:st[m]? = some (.lst ws)) (hl:us.length + ws.length ≤ sizeLine):c! (.loc n) (.loc m) st = .ok (.loc st.length) (st ++ [.lst (us ++ ws)]):=by
 simp only [c!,h1,h2]
 rw [if_pos hl]
theorem GQ {k:Int} (h1:st[n]? = some (.lst us)) (h2:-(2 ^ 63) ≤ k) (h3:k < 2 ^ 63) (h4:us.length * k.toNat ≤ sizeLine):dN (.loc n) (.int k) st = .ok (.loc st.length) (st ++ [.lst (uN k.toNat us)]):=by
 simp only [dN,h1]
 rw [if_pos ⟨h2,h3,h4⟩]
theorem qY (h:st[n]? = some (.lst us)):ak st n = some us:=by unfold ak; rw [h]
theorem fL (st:ag) (us:List ao):(st ++ [bf.lst us])[st.length]? = some (.lst us):=by
 rw [List.getElem?_append_right (Nat.le_refl _),Nat.sub_self]; rfl
theorem zI (st:ag) (k k':bf):(st ++ [k]).set st.length k' = st ++ [k']:=by
 rw [List.set_append_right _ _ (Nat.le_refl _),Nat.sub_self]; rfl
end
mutual
noncomputable def u?:Nat → ao → Bool
 | _,.cB => true
 | _,.bl _ => true
 | _,.int _ => true
 | _,.str _ => true
 | 0,.tup _ => false
 | n + 1,.tup us => e! n us
 | _,_ => false
noncomputable def e!:Nat → List ao → Bool
 | _,[] => true
 | n,u :: us => u? n u && e! n us
end
mutual
theorem zJ (st:ag):∀ (n:Nat) (v:ao),u? n v = true → kQ (n + 1) st v v = some true
 | _,.cB,_ => rfl
 | _,.bl b,_ => by show some (b == b) = _; rw [beq_self_eq_true]
 | _,.int i,_ => by show some (i == i) = _; rw [beq_self_eq_true]
 | _,.str x,_ => by show some (x == x) = _; rw [beq_self_eq_true]
 | 0,.tup _,h => by cases h
 | n + 1,.tup us,h => by
  show il (kQ (n + 1) st) us us = some true
  exact jS st n us h
 | n,.loc _,h => by cases n <;> cases h
 | n,.exc _,h => by cases n <;> cases h
 | n,.fn _ _,h => by cases n <;> cases h
 | n,.mt _,h => by cases n <;> cases h
theorem jS (st:ag):∀ (n:Nat) (us:List ao),e! n us = true → il (kQ (n + 1) st) us us = some true
 | _,[],_ => rfl
 | n,u :: us,h => by
  have h':u? n u = true ∧ e! n us = true:=by simpa [e!] using h
  show (match kQ (n + 1) st u u,il (kQ (n + 1) st) us us with | some a,some b => some (a && b) | _,_ => none) = _
  rw [zJ st n u h'.1,jS st n us h'.2]; rfl
end
theorem oO {n:Nat}:∀ {us:List ao},(∀ u ∈ us,u? n u = true) → e! n us = true
 | [],_ => rfl
 | u :: us,h => by
  unfold e!
  rw [h u List.mem_cons_self,oO fun w hw => h w (List.mem_cons_of_mem u hw)]; rfl
section
variable {st:ag} {n m:Nat} {us:List ao}
theorem wD (h1:ak st n = some us) (h2:ak st m = some us) (hp:e! 14 us = true):kQ 16 st (.loc n) (.loc m) = some true:=by
 unfold kQ
 simp only [vw,h1,h2]
 exact jS st 14 us hp
theorem zK (h1:ak st n = some us) (h2:ak st m = some us) (hp:e! 14 us = true):cb (.loc n) (.loc m) st = .ok (.bl true) st:=by unfold cb; rw [wD h1 h2 hp]
end
end MN
namespace MN
open PySem PySem.Spec L2
open PyProof.Rows hiding St kindOf
end MN
namespace SO
open PySem PySem.W PyProof.Rows
noncomputable def Ok (L:Nat → Nat → Bool) (n:Nat) {α:Type} (P:α → Prop):KasT α → Prop
 | .ret a => P a
 | .ask i j k => i < n ∧ j < n ∧ Ok L n P (k (L i j))
theorem Ok.bind {L:Nat → Nat → Bool} {n:Nat} {α β:Type} {P:α → Prop} {Q:β → Prop} {f:α → KasT β} (hf:∀ a,P a → Ok L n Q (f a)):∀ {t:KasT α},Ok L n P t → Ok L n Q (t.bind f)
 | .ret a,h => hf a h
 | .ask _ _ _,h => ⟨h.1,h.2.1,Ok.bind hf h.2.2⟩
theorem Ok.imp {L:Nat → Nat → Bool} {n:Nat} {α:Type} {P Q:α → Prop} (hf:∀ a,P a → Q a):∀ {t:KasT α},Ok L n P t → Ok L n Q t
 | .ret a,h => hf a h
 | .ask _ _ _,h => ⟨h.1,h.2.1,Ok.imp hf h.2.2⟩
structure Ord (L:Nat → Nat → Bool) (n:Nat):Prop where
 tr:∀ i j k,i < n → j < n → k < n → L i j = true → L j k = true → L i k = true
 zL:∀ i j,i < n → j < n → i ≠ j → L i j = false → L j i = true
 P!:∀ i j,i < n → j < n → L i j = true → L j i = false
end SO
namespace SO
open PySem PySem.W PyProof.Rows
noncomputable def iT (h:Heap) (d:Addr) (es:Array DictEntry) (ep:Nat):Prop:=∃ o,h.get? d = some o ∧ o.cls = .type "dict" ∧ o.data = .dict es ep
section
variable {prog:Program} {w:World} {A:Around} {E:Value → Shared → Prop} {s:Shared} {d it:Addr} {es:Array DictEntry} {ep i:Nat}
theorem iT.ty (x:iT s.heap d es ep):s.TypeIs (.ref d) "dict":=by
 obtain ⟨o,ho,hc,_⟩:=x
 exact ⟨o,ho,hc⟩
theorem iT.lt {h:Heap} (x:iT h d es ep):d < h.objs.size:=by
 obtain ⟨o,ho,_⟩:=x
 exact Heap.lt_size ho
theorem iT.to {h h':Heap} (x:iT h d es ep) (hk:∀ o,h.get? d = some o → h'.get? d = some o):iT h' d es ep:=by
 obtain ⟨o,ho,r⟩:=x
 exact ⟨o,hk o ho,r⟩
theorem zM {Q:Value → Shared → Prop} (hd:(d == sysModules) = false) (x:iT s.heap d es ep)
  (hQ:Q (.ref s.heap.objs.size) { s with heap:=s.heap.push { cls:=.type "dict_keyiterator",data:=.fields #[.ref d,.int 0 0,.int es.size 0,.int ep 0] } }):wpAny (model prog w) A (pyIter (.ref d)) Q E s:=by
 obtain ⟨o,go,gc,gd⟩:=id x
 have T:=x.ty
 refine wpAny_pyIter_slot T PySem.F.slot_dict_iter (wpAny_call_entry PySem.F.slot_dict_iter T PySem.F.entry_dict_iter ?_ (PySem.F.args_dict_iter_1 _))
 unfold Builtin.«dict.__iter__»; refine wpAny_bind ?_
 unfold Builtin.Dict.dictSlotNone; refine wpAny_bind (wpAny_notOrdered_dict T ?_)
 show wpAny _ _ (pure (Value.ref d)) _ _ s; refine wpAny_pure ?_
 show wpAny _ _ (Builtin.Dict.showsAll d >>= _) _ _ s; unfold Builtin.Dict.showsAll
 rw [if_neg (by rw [hd]; exact Bool.false_ne_true)]; refine wpAny_bind (wpAny_pure ?_)
 refine wpAny_bind (wpAny_dictEntries go gd ?_)
 refine wpAny_bind (wpAny_dictEpoch go gd ?_)
 refine wpAny_bind (wpAny_newObj_type (wpAny_pure ⟨_,rfl,"dict_keyiterator",_,⟨_,Heap.get?_push_size _ rfl,rfl⟩,PySem.F.slot_dict_keyiterator_next.lookup,?_⟩))
 simpa [rawInt] using hQ
theorem zN {Q:Option Value → Shared → Prop} (hit:s.heap.IsKeyIter it d i es.size ep) (x:iT s.heap d es ep) (hi:i < es.size)
  (hQ:∀ h',h'.IsKeyIter it d (i + 1) es.size ep → Heap.SameBut it s.heap h' → Q (some es[i].key) { s with heap:=h' }):wpAny (model prog w) A (pyNext (.ref it)) Q E s:=by
 obtain ⟨o,ho,hc,hf⟩:=id hit
 obtain ⟨od,go,gc,gd⟩:=id x
 have T:=hit.typeIs
 unfold pyNext
 refine wpAny_bind (wpAny_attempt (wpAny_callSpecial?_slot (name:=Str.ofString "__next__") T PySem.F.slot_dict_keyiterator_next (wpAny_call_entry PySem.F.slot_dict_keyiterator_next T PySem.F.entry_dict_keyiterator_next ?_ (PySem.F.args_dict_keyiterator_next_1 _))))
 refine wpAny_bind (wpAny_pure ?_); refine wpAny_bind ?_; refine wpAny_bind ?_
 first | refine wpAny_bind (wpAny_typeNameOfWhole_keyiter T (wpAny_pure ?_)) | refine wpAny_bind (wpAny_typeNameOf_keyiter T (wpAny_pure ?_))
 refine wpAny_bind (wpAny_fieldsOf ho hf ?_)
 have no:Builtin.Dict_items.ownsTuple "dict_keyiterator" = false:=by decide
 simp only [no,Bool.false_eq_true,if_false]
 show wpAny _ _ (if (Value.ref d == Value.none) = true then _ else _) _ _ s; rw [if_neg (show ¬ ((Value.ref d == Value.none) = true) from Bool.false_ne_true)]
 refine wpAny_bind (wpAny_pure ?_); refine wpAny_bind (wpAny_dictEntries go gd ?_)
 rw [if_neg (by simp)]; refine wpAny_bind (wpAny_pure ?_)
 refine wpAny_bind (wpAny_dictEpoch go gd ?_); rw [if_neg (by simp)]; refine wpAny_pure ?_
 simp only [show ¬ ((i:Int) < 0) from by lia,if_false,Int.toNat_natCast,Array.getElem?_eq_getElem hi]; refine wpAny_bind ?_
 first | refine wpAny_bind (wpAny_typeNameOfWhole_keyiter T (wpAny_pure ?_)) | refine wpAny_bind (wpAny_typeNameOf_keyiter T (wpAny_pure ?_))
 refine wpAny_bind (wpAny_isOneOf_keyiter T ?_)
 show wpAny _ _ (setField (.ref it) 1 (rawInt ((i:Int) + 1)) >>= _) _ _ s; refine wpAny_bind (wpAny_setField ho hf (by simp) ?_)
 have go2:(s.heap.update it (Obj.mapFields (·.setIfInBounds 1 (rawInt ((i:Int) + 1))))).IsKeyIter it d (i + 1) es.size ep :=
  ⟨_,Heap.get?_update_self _ ho (Obj.isFreed_of_fields (Obj.data_mapFields hf _)),(Obj.cls_mapFields ..).trans hc,by rw [Obj.data_mapFields hf]; simp [rawInt]⟩
 refine wpAny_bind (wpAny_holding ?_)
 refine wpAny_bind (wpAny_isOneOf_keyiter (s:={ s with heap:=s.heap.update it (Obj.mapFields (·.setIfInBounds 1 (rawInt ((i:Int) + 1)))) }) go2.typeIs ?_)
 show wpAny _ _ (pure es[i].key) _ _ _; exact wpAny_pure (wpAny_pure ⟨_,rfl,wpAny_pure (hQ _ go2 (Heap.SameBut.update ..))⟩)
theorem CL {Q:Option Value → Shared → Prop} (hh:A.handled = none) (hit:s.heap.IsKeyIter it d i es.size ep) (x:iT s.heap d es ep) (hi:es.size ≤ i)
  (hQ:∀ h',Heap.ExtBut it s.heap h' → Q none { s with heap:=h' }):wpAny (model prog w) A (pyNext (.ref it)) Q E s:=by
 obtain ⟨o,ho,hc,hf⟩:=id hit
 obtain ⟨od,go,gc,gd⟩:=id x
 have T:=hit.typeIs
 unfold pyNext
 refine wpAny_bind (wpAny_attempt (wpAny_callSpecial?_slot (name:=Str.ofString "__next__") T PySem.F.slot_dict_keyiterator_next (wpAny_call_entry PySem.F.slot_dict_keyiterator_next T PySem.F.entry_dict_keyiterator_next ?_ (PySem.F.args_dict_keyiterator_next_1 _))))
 refine wpAny_bind (wpAny_pure ?_); refine wpAny_bind ?_; refine wpAny_bind ?_
 first | refine wpAny_bind (wpAny_typeNameOfWhole_keyiter T (wpAny_pure ?_)) | refine wpAny_bind (wpAny_typeNameOf_keyiter T (wpAny_pure ?_))
 refine wpAny_bind (wpAny_fieldsOf ho hf ?_)
 have no:Builtin.Dict_items.ownsTuple "dict_keyiterator" = false:=by decide
 simp only [no,Bool.false_eq_true,if_false]
 show wpAny _ _ (if (Value.ref d == Value.none) = true then _ else _) _ _ s; rw [if_neg (show ¬ ((Value.ref d == Value.none) = true) from Bool.false_ne_true)]
 refine wpAny_bind (wpAny_pure ?_); refine wpAny_bind (wpAny_dictEntries go gd ?_)
 rw [if_neg (by simp)]; refine wpAny_bind (wpAny_pure ?_)
 refine wpAny_bind (wpAny_dictEpoch go gd ?_); rw [if_neg (by simp)]; refine wpAny_pure ?_
 simp only [show ¬ ((i:Int) < 0) from by lia,if_false,Int.toNat_natCast,Array.getElem?_eq_none hi]; refine wpAny_bind ?_
 first | refine wpAny_bind (wpAny_typeNameOfWhole_keyiter T (wpAny_pure ?_)) | refine wpAny_bind (wpAny_typeNameOf_keyiter T (wpAny_pure ?_))
 show wpAny _ _ (setField (.ref it) 0 .none >>= _) _ _ s; refine wpAny_bind (wpAny_setField ho hf (by simp) ?_)
 show wpAny _ _ (newExc (.type "StopIteration") [] >>= _) _ _ _; refine wpAny_bind ?_; simp only [newExc,newTuple]
 refine wpAny_bind (wpAny_newObj_type ?_ (by size_fits)); refine wpAny_bind (m:=firstArgMember _ _) (wpAny_of_eq (a:=Value.none) (by first | rfl | (simp only [firstArgMember]; rfl)) ?_)
 refine wpAny_newObj_type ?_ (by size_fits); simp only [raiseNew]
 refine wpAny_bind (wpAny_handled ?_); rw [show A.in1.handled = none from hh]; refine wpAny_bind (wpAny_pure (wpAny_throw ?_))
 refine wpAny_bind (wpAny_isInstance (T:="StopIteration") (b:=true) ⟨_,Heap.get?_push_size _ rfl,rfl⟩ isSubtype_stop ?_)
 exact wpAny_pure (hQ _ (((Heap.SameBut.update ..).extBut.push _).push _))
noncomputable def zO (es:Array DictEntry) (i:Nat) (v:Value):Prop:=∃ h:i < es.size,v = es[i].key
theorem wF (hh:A.handled = none) (I:Addr) (MJ:d ≠ I):Walks prog w A I [I,d] [I] es.size (zO es) (fun i h => h.IsKeyIter I d i es.size ep ∧ iT h d es ep) where
 sub:=fun b hb => by
  rw [List.mem_singleton] at hb; rw [hb]; exact List.mem_cons_self
 frame:=fun _ _ _ st hk => ⟨st.1.at fun o e => hk I List.mem_cons_self o e,st.2.to fun o e => hk d (List.mem_cons_of_mem _ List.mem_cons_self) o e⟩
 item:=fun i s Q E hi st hQ => zN st.1 st.2 hi fun h' k1 k2 =>
  hQ _ h' s.toks ⟨hi,rfl⟩ ⟨k1,st.2.to fun o e => k2.extBut d o MJ e⟩ fun b o hb e => k2.extBut b o (fun z => hb (by rw [z]; exact List.mem_singleton_self _)) e
 done:=fun s Q E st hQ => CL hh st.1 st.2 (Nat.le_refl _) fun h' k => hQ h' s.toks fun b o hb e => k b o (fun z => hb (by rw [z]; exact List.mem_singleton_self _)) e
 self:=fun _ _ _ _ st hQ => wpAny_pyIter_keyiter st.1 hQ
theorem CM (lo:(d == sysModules) = false):KdlSrc prog w "dict" d d es.size (zO es) (fun h => iT h d es ep) where
 type:=fun _ x => x.ty
 there:=fun _ x => ⟨x.lt,x.lt⟩
 keep:=fun _ _ x hk => x.to fun o e => hk d (.inl rfl) o e
 notList:=by decide
 notTuple:=by decide
 hint:=fun _ _ _ _ x q => kdl_hint_dict x.ty q
 iter:=fun _ _ hh x => ⟨_,_,(fun _ _ q => zM lo x q),wF hh _ (Nat.ne_of_lt x.lt),⟨⟨_,Heap.get?_push_size _ rfl,rfl,rfl⟩,x.to fun o e => Heap.get?_push_of_some _ e⟩⟩
end
end SO
namespace SO
open PySem PySem.W PyProof.Rows
section
variable {prog:Program} {w:World} {A:Around} {E:Value → Shared → Prop} {s:Shared} {d it:Addr} {es:Array DictEntry} {ep i:Nat}
theorem CN {acc:Array Value} (h:ItemsOf (zO es) acc es.size):acc.toList = es.toList.map (·.key):=by
 apply List.ext_getElem
 ·rw [Array.length_toList,List.length_map,Array.length_toList]; exact h.1
 ·intro i h1 h2
  have hi:i < acc.size:=by rw [Array.length_toList] at h1; exact h1
  obtain ⟨hz,e⟩:=h.2 i acc[i] (Array.getElem?_eq_getElem hi)
  rw [Array.getElem_toList,List.getElem_map,Array.getElem_toList,e]
theorem qZ {Q:List Value → Shared → Prop} (hh:A.handled = none) (lo:(d == sysModules) = false) (x:iT s.heap d es ep) (hn:es.size ≤ sizeLine)
  (h:∀ h' tk,s.heap.objs.size < h'.objs.size → (∀ b o,s.heap.get? b = some o → h'.get? b = some o) → Q (es.toList.map (·.key)) { s with heap:=h',toks:=tk }):wpAny (model prog w) A (collect (.ref d)) Q E s:=by
 unfold collect
 refine wpAny_bind (wpAny_runValue (codeAny_mono (R:=fun r s' => r = .ok (.ret (.ref s.heap.objs.size)) ∧ wpAny (model prog w) A (do
  let u ← load s.heap.objs.size
  match u.data with
  | .seq xs _ => pure xs.toList
  | _ => unsupported "internal:collect") Q E s') ?_ fun r s' q => ?_))
 ·refine codeAny_builtin entry_proto_collect' ?_
  show wpAny _ _ (do again (.builtin "list.__iadd__" ⟨[← newList [],.ref d],[]⟩)) _ _ s
  refine wpAny_bind (wpAny_newList (wpAny_pure ⟨Code.quiet_builtin _ (by decide +kernel),codeAny_builtin entry_list_iadd' ?_⟩) (Nat.zero_le _))
  have ne:=Nat.ne_of_gt x.lt
  refine kdl_extend (R:=fun r s' => r = .ok (.ret (.ref s.heap.objs.size)) ∧ wpAny (model prog w) A (do
   let u ← load s.heap.objs.size
   match u.data with
   | .seq xs _ => pure xs.toList
   | _ => unsupported "internal:collect") Q E s') (s:={ s with heap:=s.heap.push (seqObj "list" #[] 0) }) (CM (es:=es) (ep:=ep) lo) hh (x.to fun o e => Heap.get?_push_of_some _ e) s.heap.objs.size ne ne (.ref s.heap.objs.size) 0 (Heap.get?_push_size _ rfl) (fun h' tk acc c hk hS FA => ⟨rfl,?_⟩) hn
  refine wpAny_bind (wpAny_load hS ?_)
  show wpAny _ _ (pure acc.toList) Q E _
  rw [CN FA]
  exact wpAny_pure (h h' tk (Heap.lt_size hS) fun b o e => hk b o (Nat.ne_of_lt (Heap.lt_size e)) (Heap.get?_push_of_some _ e))
 ·obtain ⟨rfl,q⟩:=q
  exact q
end
noncomputable def lexLt:List Int → List Int → Bool
 | _,[] => false
 | [],_ :: _ => true
 | x :: xs,y :: ys => if x = y then lexLt xs ys else decide (x < y)
theorem h_:∀ xs:List Int,lexLt xs xs = false
 | [] => rfl
 | x :: xs => by
  show (if x = x then lexLt xs xs else _) = false
  rw [if_pos rfl]; exact h_ xs
theorem mP:∀ {xs ys zs:List Int},lexLt xs ys = true → lexLt ys zs = true → lexLt xs zs = true:=by
 intro xs
 induction xs with
 | nil =>
  intro ys zs h1 h2
  cases zs with
  | nil => cases ys <;> cases h2
  | cons z zs => rfl
 | cons x xs ih =>
  intro ys zs h1 h2
  cases ys with
  | nil => cases h1
  | cons y ys =>
   cases zs with
   | nil => cases h2
   | cons z zs =>
    replace h1:(if x = y then lexLt xs ys else decide (x < y)) = true:=h1
    replace h2:(if y = z then lexLt ys zs else decide (y < z)) = true:=h2
    show (if x = z then lexLt xs zs else decide (x < z)) = true
    by_cases e1:x = y
    ·rw [if_pos e1] at h1
     subst e1
     by_cases e2:x = z
     ·rw [if_pos e2] at h2 ⊢
      exact ih h1 h2
     ·rw [if_neg e2] at h2 ⊢
      exact h2
    ·rw [if_neg e1] at h1
     have QP:=of_decide_eq_true h1
     by_cases e2:y = z
     ·subst e2
      rw [if_neg e1]
      exact h1
     ·rw [if_neg e2] at h2
      have PV:=of_decide_eq_true h2
      rw [if_neg (by lia)]
      exact decide_eq_true (by lia)
theorem fS:∀ {xs ys:List Int},xs ≠ ys → lexLt xs ys = false → lexLt ys xs = true:=by
 intro xs
 induction xs with
 | nil =>
  intro ys h1 h2
  cases ys with
  | nil => exact absurd rfl h1
  | cons y ys => cases h2
 | cons x xs ih =>
  intro ys h1 h2
  cases ys with
  | nil => rfl
  | cons y ys =>
   replace h2:(if x = y then lexLt xs ys else decide (x < y)) = false:=h2
   show (if y = x then lexLt ys xs else decide (y < x)) = true
   by_cases e:x = y
   ·subst e
    rw [if_pos rfl] at h2 ⊢
    exact ih (fun z => h1 (by rw [z])) h2
   ·rw [if_neg e] at h2
    rw [if_neg (fun z => e z.symm)]
    have:=of_decide_eq_false h2
    exact decide_eq_true (by lia)
theorem iU {xs ys:List Int} (h:lexLt xs ys = true):lexLt ys xs = false:=by
 cases z:lexLt ys xs with
 | false => rfl
 | true =>
  have:=mP h z
  rw [h_] at this
  cases this
section
variable {prog:Program} {w:World} {A:Around} {E:Value → Shared → Prop} {s:Shared}
theorem GR {fin:Bool} {Q:Bool → Shared → Prop}:∀ {us vs:List Value} {xs ys:List Int} (i:Nat),IntsAre us xs → IntsAre vs ys → fin = decide (xs.length < ys.length) → Q (lexLt xs ys) s →
  KatLex prog w A true fin Q (us.zip vs) i s:=by
 intro us vs xs ys i h1
 induction h1 generalizing vs ys i with
 | nil =>
  intro h2 hf h
  refine kat_nil ?_
  cases h2 with
  | nil => rw [hf]; exact h
  | cons n t r => rw [hf]; exact h
 | cons n t r ih =>
  intro h2 hf h
  cases h2 with
  | nil =>
   refine kat_nil ?_
   rw [hf]; exact h
  | @cons m u Ea P? r2 =>
   refine kat_cons (wpAny_eqBool_int ?_)
   rename_i Jq P'
   replace h:Q (if n = m then lexLt P' P? else decide (n < m)) s:=h
   by_cases e:n = m
   ·subst e
    rw [beq_self_eq_true]
    refine kat_yes (ih (i + 1) r2 ?_ ?_)
    ·rw [hf]
     simp only [List.length_cons,Nat.add_lt_add_iff_right]
    ·rw [if_pos rfl] at h; exact h
   ·rw [beq_eq_false_iff_ne.mpr e]
    rw [if_neg e] at h
    refine kat_no ?_
    by_cases hi:i = 0
    ·subst hi
     exact oneLt_int h
    ·rw [show (true && i == 0) = false by rw [Bool.true_and]; exact beq_eq_false_iff_ne.mpr hi]
     exact kat_one _ _ (lt_int h)
noncomputable def iz (h:Heap) (v:Value) (xs:List Int):Prop:=xs ≠ [] ∧ ∃ a o aA n,v = .ref a ∧ h.get? a = some o ∧ o.cls = .type "tuple" ∧ o.data = .seq aA n ∧ IntsAre aA.toList xs
theorem iz.to {h h':Heap} {v:Value} {xs:List Int} (t:iz h v xs) (hk:∀ b o,h.get? b = some o → o.cls = .type "tuple" → h'.get? b = some o):iz h' v xs:=by
 obtain ⟨ne,a,o,aA,n,e,ho,hc,r⟩:=t
 exact ⟨ne,a,o,aA,n,e,hk a o ho hc,hc,r⟩
theorem JO {Q:Bool → Shared → Prop} {x y:Value} {xs ys:List Int} (h1:iz s.heap x xs) (h2:iz s.heap y ys) (h:Q (lexLt xs ys) s):wpAny (model prog w) A (keyLt' (tuples' true) x y) Q E s:=by
 obtain ⟨_,a,o,aA,n,rfl,ho,hc,hd,hi⟩:=h1
 obtain ⟨_,b,o2,de,n2,rfl,BD,HE,hd2,Ei⟩:=h2
 refine kat_lt ho hd BD hd2 (GR 0 hi Ei ?_ h)
 rw [← hi.length,← Ei.length,Array.length_toList,Array.length_toList]
inductive bM (h:Heap):List Value → List (List Int) → Prop
 | nil:bM h [] []
 | cons {v:Value} {x:List Int} {vs:List Value} {xs:List (List Int)}:iz h v x → bM h vs xs → bM h (v :: vs) (x :: xs)
theorem bM.to {h h':Heap} {vs:List Value} {xs:List (List Int)} (t:bM h vs xs) (hk:∀ b o,h.get? b = some o → o.cls = .type "tuple" → h'.get? b = some o):bM h' vs xs:=by
 induction t with
 | nil => exact .nil
 | cons a _ ih => exact .cons (a.to hk) ih
theorem bM.length {h:Heap} {vs:List Value} {xs:List (List Int)} (t:bM h vs xs):vs.length = xs.length:=by
 induction t with
 | nil => rfl
 | cons _ _ ih => rw [List.length_cons,List.length_cons,ih]
theorem bM.at_ {h:Heap} {vs:List Value} {xs:List (List Int)} (t:bM h vs xs):∀ i,i < vs.length → iz h (vs.getD i .none) (xs.getD i []):=by
 induction t with
 | nil => intro i hi; cases hi
 | cons a _ ih =>
  intro i hi
  cases i with
  | zero => exact a
  | succ i => exact ih i (Nat.lt_of_succ_lt_succ hi)
theorem bM.append {h:Heap} {vs Ot:List Value} {xs Ou:List (List Int)} (t:bM h vs xs) (t2:bM h Ot Ou):bM h (vs ++ Ot) (xs ++ Ou):=by
 induction t with
 | nil => exact t2
 | cons a _ ih => exact .cons a ih
theorem bM.rev {h:Heap} {vs:List Value} {xs:List (List Int)} (t:bM h vs xs):bM h vs.reverse xs.reverse:=by
 induction t with
 | nil => exact .nil
 | cons a _ ih =>
  rw [List.reverse_cons,List.reverse_cons]
  exact ih.append (.cons a .nil)
theorem bM.Qa {h:Heap} {vs:List Value} {xs:List (List Int)} (t:bM h vs xs):∃ fs,KatTups h vs fs ∧ fs.length = vs.length ∧ ∀ v ∈ fs,∃ n u,v = .int n u:=by
 induction t with
 | nil => exact ⟨[],.nil,rfl,fun v m => by cases m⟩
 | cons a _ ih =>
  obtain ⟨fs,k,l,al⟩:=ih
  obtain ⟨ne,a,o,aA,n,rfl,ho,hc,hd,hi⟩:=a
  obtain ⟨aA⟩:=aA
  cases hi with
  | nil => exact absurd rfl ne
  | cons m u r =>
   refine ⟨_,KatTups.cons ho hc hd rfl k,by rw [List.length_cons,List.length_cons,l],fun v mv => ?_⟩
   rcases List.mem_cons.mp mv with rfl | mv
   ·exact ⟨_,_,rfl⟩
   ·exact al v mv
theorem CO {vs:List Value} {xs:List (List Int)} {Q:SortKind → Shared → Prop} (t:bM s.heap vs xs) (h0:0 < vs.length) (h:Q (tuples' true) s):wpAny (model prog w) A (keyKind' vs.toArray) Q E s:=by
 obtain ⟨fs,k,l,al⟩:=t.Qa
 refine kat_kind (T:=.type "int") k (by rw [l]; exact h0) (fun v m => ?_) (by decide) h
 obtain ⟨n,u,rfl⟩:=al v m
 exact Looks.of_pure rfl
end
end SO
namespace TS
section
variable {α:Type} (le:α → α → Prop)
noncomputable def Bk (l:List α):Prop:=l.Pairwise le
structure wG (zL out A B:List α):Prop where
 pm:(out ++ (A ++ B)).Perm zL
 so:Bk le out
 sa:Bk le A
 sb:Bk le B
 oa:∀ x ∈ out,∀ y ∈ A,le x y
 ob:∀ x ∈ out,∀ y ∈ B,le x y
variable {le} {zL out A B:List α}
theorem wG.swap (h:wG le zL out A B):wG le zL out B A :=
 ⟨(List.Perm.append_left _ List.perm_append_comm).trans h.pm,h.so,h.sb,h.sa,h.ob,h.oa⟩
theorem wG.a {A1 A2:List α} (h:wG le zL out (A1 ++ A2) B) (l:∀ x ∈ A1,∀ y ∈ B,le x y):wG le zL (out ++ A1) A2 B:=by
 have sa:=List.pairwise_append.mp h.sa
 refine ⟨?_,List.pairwise_append.mpr ⟨h.so,sa.1,fun x hx y hy => h.oa x hx y (List.mem_append_left _ hy)⟩,sa.2.1,h.sb,fun x hx y hy => ?_,fun x hx y hy => ?_⟩
 ·have:=h.pm
  rwa [List.append_assoc,← List.append_assoc out A1] at this
 ·rcases List.mem_append.mp hx with hx | hx
  ·exact h.oa x hx y (List.mem_append_right _ hy)
  ·exact sa.2.2 x hx y hy
 ·rcases List.mem_append.mp hx with hx | hx
  ·exact h.ob x hx y hy
  ·exact l x hx y hy
theorem wG.b {B1 B2:List α} (h:wG le zL out A (B1 ++ B2)) (l:∀ x ∈ B1,∀ y ∈ A,le x y):wG le zL (out ++ B1) A B2:=(h.swap.a l).swap
theorem wG.fin (h:wG le zL out A B) (l:∀ x ∈ A,∀ y ∈ B,le x y):(out ++ A ++ B).Perm zL ∧ Bk le (out ++ A ++ B):=by
 refine ⟨by rw [List.append_assoc]; exact h.pm,?_⟩
 rw [List.append_assoc]
 refine List.pairwise_append.mpr ⟨h.so,List.pairwise_append.mpr ⟨h.sa,h.sb,l⟩,fun x hx y hy => ?_⟩
 rcases List.mem_append.mp hy with hy | hy
 ·exact h.oa x hx y hy
 ·exact h.ob x hx y hy
end
section
variable {α:Type} (r:α → Nat)
noncomputable def K (xs:Array α) (i:Nat):Nat:=(xs[i]?).elim 0 r
noncomputable def Up (xs:Array α) (lo hi:Nat):Prop:=∀ i j,lo ≤ i → i < j → j < hi → K r xs i ≤ K r xs j
noncomputable def Dn (xs:Array α) (lo hi:Nat):Prop:=∀ i j,lo ≤ i → i < j → j < hi → K r xs j ≤ K r xs i
noncomputable abbrev K0:α → α → Prop:=fun x y => r x ≤ r y
noncomputable abbrev Ov:α → α → Prop:=fun x y => r y ≤ r x
noncomputable def bR (xs:Array α) (i j:Nat):List α:=(xs.toList.drop i).take (j - i)
variable {r} {xs ys:Array α}
theorem dU {i:Nat} {x:α} (h:xs[i]? = some x):K r xs i = r x:=by unfold K; rw [h]; rfl
theorem gU {i j:Nat} (hj:j ≤ xs.size):(bR xs i j).length = j - i:=by
 unfold bR; rw [List.length_take,List.length_drop,Array.length_toList]; lia
theorem ee {i j k:Nat}:(bR xs i j)[k]? = if k < j - i then xs[i + k]? else none:=by
 unfold bR; rw [List.getElem?_take,List.getElem?_drop,Array.getElem?_toList]
theorem bq {i j:Nat} {x:α} (h:x ∈ bR xs i j):∃ k,i ≤ k ∧ k < j ∧ xs[k]? = some x:=by
 obtain ⟨k,hk⟩:=List.getElem?_of_mem h
 rw [ee] at hk
 split at hk
 ·exact ⟨i + k,by lia,by lia,hk⟩
 ·cases hk
theorem bS {i j k:Nat} (h1:i ≤ j) (h2:j ≤ k) (hk:k ≤ xs.size):bR xs i k = bR xs i j ++ bR xs j k:=by
 apply List.ext_getElem?
 intro n
 rw [List.getElem?_append,gU (by lia),ee,ee,ee]
 by_cases c:n < j - i
 ·rw [if_pos c,if_pos (by lia),if_pos c]
 ·rw [if_neg c]
  by_cases d:n < k - i
  ·rw [if_pos d,if_pos (by lia)]; congr 1; lia
  ·rw [if_neg d,if_neg (by lia)]
theorem jk {i:Nat} {x:α} (h:xs[i]? = some x):bR xs i (i + 1) = [x]:=by
 apply List.ext_getElem?
 intro n
 rw [ee]
 cases n with
 | zero => rw [if_pos (by lia)]; exact h
 | succ n => rw [if_neg (by lia)]; rfl
theorem q9 {i j:Nat} (h:j ≤ i):bR xs i j = []:=by unfold bR; rw [show j - i = 0 by lia]; rfl
theorem dk:bR xs 0 xs.size = xs.toList:=by
 unfold bR; rw [List.drop_zero,Nat.sub_zero,← Array.length_toList,List.take_length]
theorem aI {i j:Nat}:(xs.extract i j).toList = bR xs i j:=by
 rw [Array.toList_extract]
 unfold bR
 rw [List.extract_eq_take_drop]
theorem Up.mQ {lo hi:Nat} (h:Up r xs lo hi):Bk (K0 r) (bR xs lo hi):=by
 unfold Bk
 rw [List.pairwise_iff_getElem]
 intro i j h1 h2 QQ
 have e1:=List.getElem?_eq_getElem h1
 have e2:=List.getElem?_eq_getElem h2
 rw [ee] at e1 e2
 split at e1
 ·split at e2
  ·have:=h (lo + i) (lo + j) (by lia) (by lia) (by lia)
   rw [dU e1,dU e2] at this
   exact this
  ·cases e2
 ·cases e1
theorem GS {lo hi:Nat} (h:Bk (K0 r) (bR xs lo hi)) (hz:hi ≤ xs.size):Up r xs lo hi:=by
 intro i j h1 h2 h3
 have q1:i - lo < (bR xs lo hi).length:=by rw [gU hz]; lia
 have q2:j - lo < (bR xs lo hi).length:=by rw [gU hz]; lia
 have:=(List.pairwise_iff_getElem.mp h) (i - lo) (j - lo) q1 q2 (by lia)
 have e1:=List.getElem?_eq_getElem q1
 have e2:=List.getElem?_eq_getElem q2
 rw [ee,if_pos (by lia),show lo + (i - lo) = i by lia] at e1
 rw [ee,if_pos (by lia),show lo + (j - lo) = j by lia] at e2
 rw [dU e1,dU e2]
 exact this
theorem Up.le {lo hi i j:Nat} (h:Up r xs lo hi) (h1:lo ≤ i) (h2:i ≤ j) (h3:j < hi):K r xs i ≤ K r xs j:=by
 rcases Nat.lt_or_ge i j with q | q
 ·exact h i j h1 q h3
 ·rw [show i = j by lia]; exact Nat.le_refl _
theorem Up.sub {lo hi Ow BY:Nat} (h:Up r xs lo hi) (h1:lo ≤ Ow) (h2:BY ≤ hi):Up r xs Ow BY:=fun i j a b c => h i j (by lia) b (by lia)
theorem Up.rev {lo hi:Nat} (h:Up r xs lo hi):Bk (Ov r) (bR xs lo hi).reverse:=List.pairwise_reverse.mpr h.mQ
theorem q_:∀ (m:List α) (k sa:Nat) (xs:Array α),sa + k + m.length ≤ xs.size →
  ((m.zipIdx k).foldl (fun a (q:α × Nat) => a.setIfInBounds (sa + q.2) q.1) xs).toList = xs.toList.take (sa + k) ++ m ++ xs.toList.drop (sa + k + m.length)
 | [],k,sa,xs,_ => by
  show xs.toList = _
  rw [List.append_nil]; exact (List.take_append_drop _ _).symm
 | x :: m,k,sa,xs,h => by
  rw [List.zipIdx_cons,List.foldl_cons,q_ m (k + 1) sa _ (by rw [Array.size_setIfInBounds]; simp only [List.length_cons] at h; lia)]
  simp only [List.length_cons] at h ⊢
  rw [Array.toList_setIfInBounds,← Nat.add_assoc,List.take_set,List.drop_set_of_lt (by lia)]
  have hl:sa + k < xs.toList.length:=by rw [Array.length_toList]; lia
  rw [List.take_succ_eq_append_getElem hl]
  have e:(xs.toList.take (sa + k)).length = sa + k:=by rw [List.length_take]; lia
  rw [List.set_append_right _ _ (by lia),e,Nat.sub_self]
  simp only [List.set_cons_zero,List.append_assoc,List.singleton_append,List.cons_append,List.nil_append]
  rw [show sa + k + 1 + m.length = sa + k + (m.length + 1) by lia]
theorem zP {m:List α} {sa:Nat} {xs:Array α} (h:sa + m.length ≤ xs.size) :
  ((m.zipIdx).foldl (fun a (q:α × Nat) => a.setIfInBounds (sa + q.2) q.1) xs).toList = xs.toList.take sa ++ m ++ xs.toList.drop (sa + m.length):=q_ m 0 sa xs h
theorem wH {i:Nat}:xs.toList.take i = bR xs 0 i:=by unfold bR; rw [List.drop_zero,Nat.sub_zero]
theorem wI {i:Nat}:xs.toList.drop i = bR xs i xs.size:=by
 unfold bR
 rw [List.take_of_length_le]
 rw [List.length_drop,Array.length_toList]; exact Nat.le_refl _
end
end TS
namespace TS
open PySem PyProof.Rows
noncomputable def vc:Bool → Keyed → Array Keyed → Nat → Nat → Nat → StateT SortSt Sem (Option Nat):=sortPriv% PySem.Builtin.gallop
noncomputable def q!:Array Keyed → Array Keyed → StateT SortSt Sem (Array Keyed):=sortPriv% PySem.Builtin.mergeLo
noncomputable def q?:Array Keyed → Array Keyed → StateT SortSt Sem (Array Keyed):=sortPriv% PySem.Builtin.mergeHi
section
variable {prog:Program} {w:World} {A:Around} {E:Value → Shared → Prop} {s:Shared} {κ:SortKind} {S:Keyed → Prop} {r:Keyed → Nat} {st:SortSt}
noncomputable def wJ (prog:Program) (w:World) (A:Around) (s:Shared) (κ:SortKind) (S:Keyed → Prop) (r:Keyed → Nat):Prop :=
 ∀ (x y:Keyed) (Q:Bool → Shared → Prop),S x → S y → Q (decide (r x < r y)) s → wpAny (model prog w) A (keyLt' κ x.1 y.1) Q (fun _ _ => False) s
theorem JP (C:wJ prog w A s κ S r) {x y:Keyed} {Q:Option Bool → SortSt → Prop} (hk:kindOf st = κ) (hx:S x) (hy:S y) (h:Q (some (decide (r x < r y))) st) :
  wpS (model prog w) A E s (lt' x y) Q st:=by
 rw [lt'_eq]
 refine wpS_bind (wpS_get ?_)
 rw [hk]
 refine wpS_bind (wpS_lift (wpAny_attempt (wpAny_mono (C x y (fun c s' => c = decide (r x < r y) ∧ s' = s) hx hy ⟨rfl,rfl⟩) (fun c s' q => ⟨q.2,?_⟩) fun _ _ q => q.elim)))
 rw [q.1]
 exact wpS_pure h
theorem c9 {xs:Array Keyed} {i:Nat} {x:Keyed} {Q:Keyed → SortSt → Prop} (e:xs[i]? = some x) (h:Q x st):wpS (model prog w) A E s (elem' xs i) Q st:=by
 rw [elem'_eq,e]
 exact wpS_pure h
theorem JQ (C:wJ prog w A s κ S r) {i j:Nat} {x y:Keyed} {Q:Option Bool → SortSt → Prop} (hk:kindOf st = κ) (e1:(arrOf st)[i]? = some x) (e2:(arrOf st)[j]? = some y) (hx:S x) (hy:S y) (h:Q (some (decide (r x < r y))) st) :
  wpS (model prog w) A E s (ltAt' i j) Q st:=by
 rw [ltAt'_eq]
 exact wpS_bind (wpS_get (wpS_bind (c9 e1 (wpS_bind (c9 e2 (JP C hk hx hy h))))))
noncomputable def nM (left:Bool) (k n:Nat):Bool:=if left then decide (n < k) else !(decide (k < n))
theorem zQ {left:Bool} {k n m:Nat} (h:n ≤ m) (hb:nM left k m = true):nM left k n = true:=by
 unfold nM at *
 cases left
 ·simp at hb ⊢; lia
 ·simp at hb ⊢; lia
theorem GU {left:Bool} {k n m:Nat} (h:n ≤ m) (hb:nM left k n = false):nM left k m = false:=by
 cases z:nM left k m with
 | false => rfl
 | true => rw [zQ h z] at hb; cases hb
theorem at_of {xs:Array Keyed} {i:Nat} (h:i < xs.size):∃ x,xs[i]? = some x ∧ x ∈ xs ∧ K r xs i = r x:=⟨xs[i],getElem?_pos xs i h,Array.getElem_mem h,dU (getElem?_pos xs i h)⟩
theorem MK (C:wJ prog w A s κ S r) {left:Bool} {key:Keyed} {xs:Array Keyed} {i:Nat} {Q:Option Bool → SortSt → Prop} (hk:kindOf st = κ) (hS:∀ x ∈ xs,S x) (hy:S key) (hi:i < xs.size) (h:Q (some (nM left (r key) (K r xs i))) st) :
  wpS (model prog w) A E s (elem' xs i >>= fun y => if left = true then lt' y key else lt' key y >>= fun c => pure (c.map (!·))) Q st:=by
 obtain ⟨x,e,m,ek⟩:=at_of (r:=r) hi
 rw [ek] at h
 refine wpS_bind (c9 e ?_)
 cases left with
 | true => exact JP C hk (hS x m) hy h
 | false => exact wpS_bind (JP C hk hy (hS x m) (wpS_pure h))
theorem h! (C:wJ prog w A s κ S r) {left:Bool} {key:Keyed} {xs:Array Keyed} {base n hint:Nat} {Q:Option Nat → SortSt → Prop} (hk:kindOf st = κ) (hS:∀ x ∈ xs,S x) (hy:S key) (hz:base + n ≤ xs.size) (hh:hint < n) (up:Up r xs base (base + n))
  (h:∀ k,k ≤ n → (∀ i,i < k → nM left (r key) (K r xs (base + i)) = true) → (∀ i,k ≤ i → i < n → nM left (r key) (K r xs (base + i)) = false) → Q (some k) st) :
  wpS (model prog w) A E s (vc left key xs base n hint) Q st:=by
 obtain ⟨b,eb⟩:∃ b:Nat → Bool,∀ i,b i = nM left (r key) (K r xs (base + i)):=⟨_,fun _ => rfl⟩
 have K2:∀ i j,i ≤ j → j < n → b j = true → b i = true:=fun i j a c d => by
  rw [eb] at d ⊢
  exact zQ (up.le (by lia) (by lia) (by lia)) d
 have K3:∀ i j,i ≤ j → j < n → b i = false → b j = false:=fun i j a c d => by
  rw [eb] at d ⊢
  exact GU (up.le (by lia) (by lia) (by lia)) d
 have ask:∀ {i:Nat} {Q:Option Bool → SortSt → Prop},i < n → Q (some (b i)) st → wpS (model prog w) A E s (elem' xs (base + i) >>= fun y => if left = true then lt' y key else lt' key y >>= fun c => pure (c.map (!·))) Q st:=by
  intro i Q hi q
  rw [eb] at q
  exact MK C hk hS hy (by lia) q
 simp only [← eb] at h
 unfold vc
 refine wpS_bind (ask hh ?_)
 dsimp only
 cases c:b hint with
 | true =>
  rw [if_pos rfl]
  refine wpS_bind (wpS_mono (wpS_forRange (I:=fun x z av => av = st ∧ ∃ l o,z = (none,l,o) ∧ x + 1 ≤ o ∧ l < o ∧ hint + l < n ∧ b (hint + l) = true) (Q:=fun z av => av = st ∧ ∃ l o,z = (none,l,o) ∧ l < o ∧ hint + l < n ∧ b (hint + l) = true ∧ (o < n - hint → b (hint + o) = false)) ?_ ?_ ⟨rfl,0,1,rfl,by lia,by lia,by lia,c⟩) ?_)
  ·rintro x z av _ hx ⟨e,l,o,rfl,h1,h2,h3,h4⟩
   rw [e]
   dsimp only
   by_cases q:o ≥ n - hint
   ·rw [if_pos q]
    exact wpS_pure ⟨rfl,l,o,rfl,h2,h3,h4,fun z => absurd z (by lia)⟩
   ·rw [if_neg q]
    refine wpS_bind (ask (by lia) ?_)
    dsimp only
    cases d:b (hint + o) with
    | true => exact wpS_pure ⟨rfl,o,2 * o + 1,rfl,by lia,by lia,by lia,d⟩
    | false => exact wpS_pure ⟨rfl,l,o,rfl,h2,h3,h4,fun _ => d⟩
  ·rintro z av ⟨e,l,o,rfl,h1,h2,h3,h4⟩
   exact ⟨e,l,o,rfl,h2,h3,h4,fun z => absurd z (by lia)⟩
  ·rintro z av ⟨e,l,o,rfl,h2,h3,h4,h5⟩
   rw [e]
   dsimp only
   obtain ⟨lo,HF⟩:∃ lo,lo = hint + l + 1:=⟨_,rfl⟩
   obtain ⟨hi,JR⟩:∃ hi,hi = hint + min o (n - hint):=⟨_,rfl⟩
   rw [← HF,← JR]
   have g1:lo ≤ hi:=by lia
   have g2:hi ≤ n:=by lia
   have g3:∀ i,i < lo → b i = true:=fun i q => K2 i (hint + l) (by lia) h3 h4
   have g4:∀ i,hi ≤ i → i < n → b i = false:=fun i q q2 => K3 (hint + o) i (by lia) q2 (h5 (by lia))
   clear HF JR
   refine wpS_bind (wpS_mono (wpS_forRange (I:=fun x z av => av = st ∧ ∃ lo hi,z = (none,lo,hi) ∧ lo ≤ hi ∧ hi ≤ n ∧ hi - lo + x ≤ n ∧ (∀ i,i < lo → b i = true) ∧ ∀ i,hi ≤ i → i < n → b i = false) (Q:=fun z av => av = st ∧ ∃ k,z = (none,k,k) ∧ k ≤ n ∧ (∀ i,i < k → b i = true) ∧ ∀ i,k ≤ i → i < n → b i = false) ?_ ?_ ⟨rfl,lo,hi,rfl,g1,g2,by lia,g3,g4⟩) ?_)
   ·rintro x z av _ hx ⟨e,lo,hi,rfl,h1,h2,h3,h4,h5⟩
    rw [e]
    dsimp only
    by_cases q:lo ≥ hi
    ·rw [if_pos q]
     have:lo = hi:=by lia
     subst this
     exact wpS_pure ⟨rfl,lo,rfl,h2,h4,h5⟩
    ·rw [if_neg q]
     refine wpS_bind (ask (by lia) ?_)
     dsimp only
     cases d:b (lo + (hi - lo) / 2) with
     | true => exact wpS_pure ⟨rfl,_,hi,rfl,by lia,h2,by lia,fun i q => K2 i _ (by lia) (by lia) d,h5⟩
     | false => exact wpS_pure ⟨rfl,lo,_,rfl,by lia,by lia,by lia,h4,fun i q q2 => K3 _ i q q2 d⟩
   ·rintro z av ⟨e,lo,hi,rfl,h1,h2,h3,h4,h5⟩
    have:lo = hi:=by lia
    subst this
    exact ⟨e,lo,rfl,h2,h4,h5⟩
   ·rintro z av ⟨e,k,rfl,h1,h2,h3⟩
    rw [e]
    exact wpS_pure (h k h1 h2 h3)
 | false =>
  rw [if_neg Bool.false_ne_true]
  refine wpS_bind (wpS_mono (wpS_forRange (I:=fun x z av => av = st ∧ ∃ l o,z = (none,l,o) ∧ x + 1 ≤ o ∧ l < o ∧ l ≤ hint ∧ b (hint - l) = false) (Q:=fun z av => av = st ∧ ∃ l o,z = (none,l,o) ∧ l < o ∧ l ≤ hint ∧ b (hint - l) = false ∧ (o < hint + 1 → b (hint - o) = true)) ?_ ?_ ⟨rfl,0,1,rfl,by lia,by lia,by lia,c⟩) ?_)
  ·rintro x z av _ hx ⟨e,l,o,rfl,h1,h2,h3,h4⟩
   rw [e]
   dsimp only
   by_cases q:o ≥ hint + 1
   ·rw [if_pos q]
    exact wpS_pure ⟨rfl,l,o,rfl,h2,h3,h4,fun z => absurd z (by lia)⟩
   ·rw [if_neg q]
    refine wpS_bind (ask (by lia) ?_)
    dsimp only
    cases d:b (hint - o) with
    | true => exact wpS_pure ⟨rfl,l,o,rfl,h2,h3,h4,fun _ => d⟩
    | false => exact wpS_pure ⟨rfl,o,2 * o + 1,rfl,by lia,by lia,by lia,d⟩
  ·rintro z av ⟨e,l,o,rfl,h1,h2,h3,h4⟩
   exact ⟨e,l,o,rfl,h2,h3,h4,fun z => absurd z (by lia)⟩
  ·rintro z av ⟨e,l,o,rfl,h2,h3,h4,h5⟩
   rw [e]
   dsimp only
   obtain ⟨lo,HF⟩:∃ lo,lo = hint + 1 - min o (hint + 1):=⟨_,rfl⟩
   obtain ⟨hi,JR⟩:∃ hi,hi = hint - l:=⟨_,rfl⟩
   rw [← HF,← JR]
   have g1:lo ≤ hi:=by lia
   have g2:hi ≤ n:=by lia
   have g3:∀ i,i < lo → b i = true:=fun i q => K2 i (hint - o) (by lia) (by lia) (h5 (by lia))
   have g4:∀ i,hi ≤ i → i < n → b i = false:=fun i q q2 => K3 (hint - l) i (by lia) q2 h4
   clear HF JR
   refine wpS_bind (wpS_mono (wpS_forRange (I:=fun x z av => av = st ∧ ∃ lo hi,z = (none,lo,hi) ∧ lo ≤ hi ∧ hi ≤ n ∧ hi - lo + x ≤ n ∧ (∀ i,i < lo → b i = true) ∧ ∀ i,hi ≤ i → i < n → b i = false) (Q:=fun z av => av = st ∧ ∃ k,z = (none,k,k) ∧ k ≤ n ∧ (∀ i,i < k → b i = true) ∧ ∀ i,k ≤ i → i < n → b i = false) ?_ ?_ ⟨rfl,lo,hi,rfl,g1,g2,by lia,g3,g4⟩) ?_)
   ·rintro x z av _ hx ⟨e,lo,hi,rfl,h1,h2,h3,h4,h5⟩
    rw [e]
    dsimp only
    by_cases q:lo ≥ hi
    ·rw [if_pos q]
     have:lo = hi:=by lia
     subst this
     exact wpS_pure ⟨rfl,lo,rfl,h2,h4,h5⟩
    ·rw [if_neg q]
     refine wpS_bind (ask (by lia) ?_)
     dsimp only
     cases d:b (lo + (hi - lo) / 2) with
     | true => exact wpS_pure ⟨rfl,_,hi,rfl,by lia,h2,by lia,fun i q => K2 i _ (by lia) (by lia) d,h5⟩
     | false => exact wpS_pure ⟨rfl,lo,_,rfl,by lia,by lia,by lia,h4,fun i q q2 => K3 _ i q q2 d⟩
   ·rintro z av ⟨e,lo,hi,rfl,h1,h2,h3,h4,h5⟩
    have:lo = hi:=by lia
    subst this
    exact ⟨e,lo,rfl,h2,h4,h5⟩
   ·rintro z av ⟨e,k,rfl,h1,h2,h3⟩
    rw [e]
    exact wpS_pure (h k h1 h2 h3)
end
end TS
namespace TS
open PySem PyProof.Rows
section
variable {prog:Program} {w:World} {A:Around} {E:Value → Shared → Prop} {s:Shared} {κ:SortKind} {S:Keyed → Prop} {r:Keyed → Nat} {st:SortSt}
noncomputable abbrev Gs (st:SortSt) (g:Nat):SortSt:=SortSt.mk' (kindOf st) (arrOf st) (pendingOf st) g (failedOf st)
theorem bN {α:Type} {c:Prop} [Decidable c] {m1 m2:StateT SortSt Sem α} {Q:α → SortSt → Prop} {M:Model} (h1:c → wpS M A E s m1 Q st) (h2:¬c → wpS M A E s m2 Q st):wpS M A E s (if c then m1 else m2) Q st:=by
 by_cases q:c
 ·rw [if_pos q]; exact h1 q
 ·rw [if_neg q]; exact h2 q
theorem bK {α:Type} {x y:Nat} {m1 m2:StateT SortSt Sem α} {Q:α → SortSt → Prop} {M:Model} (h1:x = y → wpS M A E s m1 Q st) (h2:x ≠ y → wpS M A E s m2 Q st):wpS M A E s (if (x == y) = true then m1 else m2) Q st :=
 bN (fun q => h1 (beq_iff_eq.mp q)) fun q => h2 fun z => q (beq_iff_eq.mpr z)
noncomputable def Good (r:Keyed → Nat) (a b m:Array Keyed):Prop:=m.toList.Perm (a.toList ++ b.toList) ∧ Bk (K0 r) m.toList
structure Mm (r:Keyed → Nat) (a b out:Array Keyed) (ia ib:Nat):Prop where
 la:ia ≤ a.size
 lb:ib ≤ b.size
 me:wG (K0 r) (a.toList ++ b.toList) out.toList (bR a ia a.size) (bR b ib b.size)
section
variable {a b out:Array Keyed} {ia ib:Nat} (ua:Up r a 0 a.size) (ub:Up r b 0 b.size)
include ua ub
theorem Mm.JS (h:Mm r a b out ia ib) (k:Nat) (hk:ia + k ≤ a.size) (l:ib < b.size → ∀ i,i < k → K r a (ia + i) ≤ K r b ib):Mm r a b (out ++ a.extract ia (ia + k)) (ia + k) ib:=by
 refine ⟨hk,h.lb,?_⟩
 have m:=h.me
 rw [bS (i:=ia) (j:=ia + k) (by lia) hk (Nat.le_refl _)] at m
 rw [Array.toList_append,aI]
 refine m.a fun x hx y hy => ?_
 obtain ⟨i,i1,i2,i3⟩:=bq hx
 obtain ⟨j,j1,j2,j3⟩:=bq hy
 show r x ≤ r y
 rw [← dU (r:=r) i3,← dU (r:=r) j3]
 have:=l (by lia) (i - ia) (by lia)
 rw [show ia + (i - ia) = i by lia] at this
 exact Nat.le_trans this (ub.le (Nat.zero_le _) j1 j2)
theorem Mm.JT (h:Mm r a b out ia ib) (k:Nat) (hk:ib + k ≤ b.size) (l:ia < a.size → ∀ i,i < k → K r b (ib + i) ≤ K r a ia):Mm r a b (out ++ b.extract ib (ib + k)) ia (ib + k):=by
 refine ⟨h.la,hk,?_⟩
 have m:=h.me
 rw [bS (i:=ib) (j:=ib + k) (by lia) hk (Nat.le_refl _)] at m
 rw [Array.toList_append,aI]
 refine m.b fun x hx y hy => ?_
 obtain ⟨i,i1,i2,i3⟩:=bq hx
 obtain ⟨j,j1,j2,j3⟩:=bq hy
 show r x ≤ r y
 rw [← dU (r:=r) i3,← dU (r:=r) j3]
 have:=l (by lia) (i - ib) (by lia)
 rw [show ib + (i - ib) = i by lia] at this
 exact Nat.le_trans this (ua.le (Nat.zero_le _) j1 j2)
theorem Mm.a1 (h:Mm r a b out ia ib) {x:Keyed} (e:a[ia]? = some x) (l:ib < b.size → r x ≤ K r b ib):Mm r a b (out.push x) (ia + 1) ib:=by
 have hz:ia < a.size:=(Array.getElem?_eq_some_iff.mp e).1
 have q:=h.JS ua ub 1 hz fun z i hi => by
  rw [show ia + i = ia by lia,dU e]; exact l z
 have:(out ++ a.extract ia (ia + 1)) = out.push x:=by
  apply Array.toList_inj.mp
  rw [Array.toList_append,aI,jk e,Array.toList_push]
 rwa [this] at q
theorem Mm.b1 (h:Mm r a b out ia ib) {x:Keyed} (e:b[ib]? = some x) (l:ia < a.size → r x ≤ K r a ia):Mm r a b (out.push x) ia (ib + 1):=by
 have hz:ib < b.size:=(Array.getElem?_eq_some_iff.mp e).1
 have q:=h.JT ua ub 1 hz fun z i hi => by
  rw [show ib + i = ib by lia,dU e]; exact l z
 have:(out ++ b.extract ib (ib + 1)) = out.push x:=by
  apply Array.toList_inj.mp
  rw [Array.toList_append,aI,jk e,Array.toList_push]
 rwa [this] at q
omit ua ub in
theorem Mm.done (h:Mm r a b out ia ib) (l:ia = a.size ∨ ib = b.size):Good r a b (out ++ a.extract ia ++ b.extract ib):=by
 unfold Good
 rw [Array.toList_append,Array.toList_append,aI,aI]
 refine h.me.fin fun x hx y hy => ?_
 obtain ⟨i,i1,i2,i3⟩:=bq hx
 obtain ⟨j,j1,j2,j3⟩:=bq hy
 lia
omit ua in
theorem Mm.last (h:Mm r a b out ia ib) (l:ia + 1 = a.size) (hl:K r b (b.size - 1) ≤ K r a (a.size - 1)):Good r a b (out ++ b.extract ib ++ a.extract ia):=by
 unfold Good
 rw [Array.toList_append,Array.toList_append,aI,aI]
 refine h.me.swap.fin fun x hx y hy => ?_
 obtain ⟨i,i1,i2,i3⟩:=bq hx
 obtain ⟨j,j1,j2,j3⟩:=bq hy
 show r x ≤ r y
 rw [← dU (r:=r) i3,← dU (r:=r) j3,show j = a.size - 1 by lia]
 exact Nat.le_trans (ub.le (Nat.zero_le _) (by lia) (by lia)) hl
end
theorem zR (C:wJ prog w A s κ S r) {a b:Array Keyed} {Q:Array Keyed → SortSt → Prop} (hk:kindOf st = κ) (GV:∀ x ∈ a,S x) (GW:∀ x ∈ b,S x) (ua:Up r a 0 a.size) (ub:Up r b 0 b.size) (ha:1 ≤ a.size) (hb:1 ≤ b.size)
  (h0:K r b 0 ≤ K r a 0) (hl:K r b (b.size - 1) ≤ K r a (a.size - 1)) (h:∀ m g,Good r a b m → Q m (Gs st g)) :
  wpS (model prog w) A E s (q! a b) Q st:=by
 unfold q!
 refine wpS_bind (wpS_lift (wpAny_rule ⟨rfl,?_⟩))
 obtain ⟨y0,e0,m0,k0⟩:=at_of (r:=r) (xs:=b) (i:=0) (by lia)
 refine wpS_bind (c9 e0 ?_)
 dsimp only
 have M0:Mm r a b #[] 0 0:=⟨Nat.zero_le _,Nat.zero_le _,by
  rw [dk,dk]
  exact ⟨List.Perm.refl _,List.Pairwise.nil,by rw [← dk]; exact ua.mQ,by rw [← dk]; exact ub.mQ,(by intro _ m; cases m),(by intro _ m; cases m)⟩⟩
 have M1:Mm r a b #[y0] 0 1:=M0.b1 ua ub e0 fun _ => by rw [← k0]; exact h0
 refine bK (fun q => wpS_pure (h _ (gallopOf st) (M1.done (.inr q)))) fun q1 => ?_
 refine bK (fun q => wpS_pure (h _ (gallopOf st) (M1.last ub q hl))) fun q2 => ?_
 refine wpS_bind (wpS_get ?_)
 refine wpS_bind (wpS_mono (wpS_forRange (I:=fun x z av => (∃ g,av = Gs st g) ∧ ∃ out ia ib mg,z = (none,out,ia,ib,mg) ∧ Mm r a b out ia ib ∧ ia + 1 < a.size ∧ ib < b.size ∧ x < ia + ib)
  (Q:=fun z av => (∃ g,av = Gs st g) ∧ ∃ m y,z = (some m,y) ∧ Good r a b m) ?_ ?_ ⟨⟨gallopOf st,rfl⟩,_,0,1,_,rfl,M1,by lia,by lia,by lia⟩) ?_)
 ·rintro x z av _ hx ⟨⟨g,e⟩,out,ia,ib,mg,rfl,m,l1,l2,l3⟩
  dsimp only
  refine wpS_bind (wpS_mono (wpS_forRange (I:=fun x' z av => (∃ g,av = Gs st g) ∧ ∃ out kR lM c1 c2,z = (none,out,kR,lM,c1,c2) ∧ Mm r a b out kR lM ∧ kR + 1 < a.size ∧ lM < b.size ∧ ia + ib + x' ≤ kR + lM)
   (Q:=fun z av => (∃ g,av = Gs st g) ∧ ((∃ m y,z = (some m,y) ∧ Good r a b m) ∨ ∃ out kR lM c1 c2,z = (none,out,kR,lM,c1,c2) ∧ Mm r a b out kR lM ∧ kR + 1 < a.size ∧ lM < b.size ∧ ia + ib + 1 ≤ kR + lM)) ?_ ?_ ⟨⟨g,e⟩,out,ia,ib,0,0,rfl,m,l1,l2,by lia⟩) ?_)
  ·rintro x' z st2 _ ML ⟨⟨g,e⟩,out,kR,lM,c1,c2,rfl,m,l1,l2,l3⟩
   dsimp only
   obtain ⟨y,ey,my,ky⟩:=at_of (r:=r) l2
   obtain ⟨z,ez,mz,kz⟩:=at_of (r:=r) (xs:=a) (i:=kR) (by lia)
   have MM:kindOf st2 = κ:=by rw [e]; exact hk
   refine wpS_bind (c9 ey (wpS_bind (c9 ez (wpS_bind (JP C MM (GW y my) (GV z mz) ?_)))))
   dsimp only
   refine bN (fun q => ?_) fun q => ?_
   ·have m2:=m.b1 ua ub ey fun _ => by rw [kz]; have:=of_decide_eq_true q; lia
    refine wpS_bind (c9 ey ?_)
    refine bK (fun q => wpS_pure ⟨⟨g,e⟩,.inl ⟨_,_,rfl,m2.done (.inr q)⟩⟩) fun q3 => ?_
    exact bN (fun q => wpS_pure ⟨⟨g,e⟩,.inr ⟨_,_,_,_,_,rfl,m2,l1,by lia,by lia⟩⟩) fun q => wpS_pure ⟨⟨g,e⟩,_,_,_,_,_,rfl,m2,l1,by lia,by lia⟩
   ·have m2:=m.a1 ua ub ez fun _ => by rw [ky]; have:=of_decide_eq_false (by simpa using q:decide (r y < r z) = false); lia
    refine wpS_bind (c9 ez ?_)
    refine bK (fun q => wpS_pure ⟨⟨g,e⟩,.inl ⟨_,_,rfl,m2.last ub q hl⟩⟩) fun q3 => ?_
    exact bN (fun q => wpS_pure ⟨⟨g,e⟩,.inr ⟨_,_,_,_,_,rfl,m2,by lia,l2,by lia⟩⟩) fun q => wpS_pure ⟨⟨g,e⟩,_,_,_,_,_,rfl,m2,by lia,l2,by lia⟩
  ·rintro z st2 ⟨e,out,kR,lM,c1,c2,rfl,m,l1,l2,l3⟩
   exact ⟨e,.inr ⟨out,kR,lM,c1,c2,rfl,m,l1,l2,by lia⟩⟩
  ·rintro z st2 ⟨e,⟨m,y,rfl,gd⟩ | ⟨out,GX,Ox,c1,c2,rfl,m,l1,l2,l4⟩⟩
   ·exact wpS_pure ⟨e,_,_,rfl,gd⟩
   ·dsimp only
    refine wpS_bind (wpS_lift (wpAny_rule ⟨rfl,?_⟩))
    refine wpS_bind (wpS_mono (wpS_forRange (I:=fun x' z av => (∃ g,av = Gs st g) ∧ ∃ out kR lM mg c1 c2,z = (none,out,kR,lM,mg,c1,c2) ∧ Mm r a b out kR lM ∧ kR + 1 < a.size ∧ lM < b.size ∧ ia + ib + 1 ≤ kR + lM)
     (Q:=fun z av => (∃ g,av = Gs st g) ∧ ((∃ m y,z = (some m,y) ∧ Good r a b m) ∨ ∃ out kR lM mg c1 c2,z = (none,out,kR,lM,mg,c1,c2) ∧ Mm r a b out kR lM ∧ kR + 1 < a.size ∧ lM < b.size ∧ ia + ib + 1 ≤ kR + lM)) ?_ ?_ ⟨e,out,GX,Ox,_,c1,c2,rfl,m,l1,l2,by lia⟩) ?_)
    ·rintro x' z fD _ ML ⟨⟨g,e⟩,out,ia,ib,mg,c1,c2,rfl,m,l1,l2,l3⟩
     dsimp only
     obtain ⟨y,ey,my,ky⟩:=at_of (r:=r) l2
     have GY:∀ (mg:Nat) {Q:PUnit → SortSt → Prop},Q ⟨⟩ (Gs st mg) → wpS (model prog w) A E s (modify fun s:SortSt => Gs s mg) Q fD:=by
      intro mg Q q
      refine wpS_modify ?_
      rw [e]; exact q
     refine bN (fun qg => ?_) fun qg => ?_
     all_goals
      refine wpS_bind (GY _ ?_)
      refine wpS_bind (c9 ey (wpS_bind (h! C hk GV (GW y my) (by lia) (by lia) (ua.sub (by lia) (by lia)) fun k k1 k2 k3 => ?_)))
      dsimp only
      have mk:=m.JS ua ub k (by lia) fun _ i hi => by
       have:=k2 i hi
       unfold nM at this
       simp only [Bool.false_eq_true,if_false,Bool.not_eq_true',decide_eq_false_iff_not] at this
       lia
      have nx:ia + k < a.size → r y ≤ K r a (ia + k):=fun z => by
       have:=k3 k (Nat.le_refl _) (by lia)
       unfold nM at this
       simp only [Bool.false_eq_true,if_false,Bool.not_eq_false',decide_eq_true_eq] at this
       lia
      refine bN (fun qk => bK (fun q => wpS_pure ⟨⟨_,rfl⟩,.inl ⟨_,_,rfl,mk.last ub q hl⟩⟩) fun q1 => bK (fun q => wpS_pure ⟨⟨_,rfl⟩,.inl ⟨_,_,rfl,mk.done (.inl q)⟩⟩) fun q2 => ?_) fun qk => ?_
      obtain ⟨GZ,eo⟩:∃ z,z = out ++ a.extract ia (ia + k):=⟨_,rfl⟩
      obtain ⟨GX,ei⟩:∃ z,z = ia + k:=⟨_,rfl⟩
      rw [← eo,← ei]
      rw [← eo,← ei] at mk
      rw [← ei] at nx
      have l4:GX + 1 < a.size:=by lia
      rotate_left
      have k0:k = 0:=by lia
      subst k0
      obtain ⟨GZ,eo⟩:∃ z,z = out:=⟨_,rfl⟩
      obtain ⟨GX,ei⟩:∃ z,z = ia:=⟨_,rfl⟩
      replace mk:Mm r a b out ia ib:=m
      rw [Nat.add_zero,← ei] at nx
      rw [← eo,← ei] at mk ⊢
      have l4:GX + 1 < a.size:=by lia
      all_goals
       have m2:=mk.b1 ua ub ey nx
       refine wpS_bind (c9 ey ?_)
       refine bK (fun q => wpS_pure ⟨⟨_,rfl⟩,.inl ⟨_,_,rfl,m2.done (.inr q)⟩⟩) fun q3 => ?_
       obtain ⟨x1,ex,mx,kx⟩:=at_of (r:=r) (xs:=a) (i:=GX) (by lia)
       refine wpS_bind (c9 ex (wpS_bind (h! C hk GW (GV x1 mx) (by lia) (by lia) (ub.sub (by lia) (by lia)) fun j j1 j2 j3 => ?_)))
       dsimp only
       have mj:=m2.JT ua ub j (by lia) fun _ i hi => by
        have:=j2 i hi
        unfold nM at this
        simp only [if_true,decide_eq_true_eq] at this
        lia
       have nj:ib + 1 + j < b.size → r x1 ≤ K r b (ib + 1 + j):=fun z => by
        have:=j3 j (Nat.le_refl _) (by lia)
        unfold nM at this
        simp only [if_true,decide_eq_false_iff_not] at this
        lia
       refine bN (fun qj => bK (fun q => wpS_pure ⟨⟨_,rfl⟩,.inl ⟨_,_,rfl,mj.done (.inr q)⟩⟩) fun q4 => ?_) fun qj => ?_
       obtain ⟨MP,ej⟩:∃ z,z = ib + 1 + j:=⟨_,rfl⟩
       rw [← ej] at mj nj ⊢
       have l5:MP < b.size:=by lia
       rotate_left
       have j0:j = 0:=by lia
       subst j0
       replace mj:=m2
       obtain ⟨MP,ej⟩:∃ z,z = ib + 1:=⟨_,rfl⟩
       rw [Nat.add_zero,← ej] at nj
       rw [← ej] at mj ⊢
       have l5:MP < b.size:=by lia
       all_goals
        have m3:=mj.a1 ua ub ex nj
        refine wpS_bind (c9 ex ?_)
        refine bK (fun q => wpS_pure ⟨⟨_,rfl⟩,.inl ⟨_,_,rfl,m3.last ub q hl⟩⟩) fun q5 => ?_
        exact bN (fun q => wpS_pure ⟨⟨_,rfl⟩,.inr ⟨_,_,_,_,_,_,rfl,m3,by lia,by lia,by lia⟩⟩) fun q => wpS_pure ⟨⟨_,rfl⟩,_,_,_,_,_,_,rfl,m3,by lia,by lia,by lia⟩
    ·rintro z fD ⟨e,out,kR,lM,mg,c1,c2,rfl,m,l1,l2,l3⟩
     exact ⟨e,.inr ⟨out,kR,lM,mg,c1,c2,rfl,m,l1,l2,l3⟩⟩
    ·rintro z fD ⟨⟨g,e⟩,⟨m,y,rfl,gd⟩ | ⟨out,GX,Ox,mg,c1,c2,rfl,m,l1,l2,l4⟩⟩
     ·exact wpS_pure ⟨⟨g,e⟩,_,_,rfl,gd⟩
     ·dsimp only
      refine wpS_bind (wpS_modify (wpS_pure ⟨⟨mg + 1,?_⟩,_,_,_,_,rfl,m,l1,l2,by lia⟩))
      rw [e]
 ·rintro z av ⟨e,out,ia,ib,mg,rfl,m,l1,l2,l3⟩
  lia
 ·rintro z av ⟨⟨g,e⟩,m,y,rfl,gd⟩
  rw [e]
  exact wpS_pure (h m g gd)
end
end TS
namespace TS
open PySem PyProof.Rows
section
variable {prog:Program} {w:World} {A:Around} {E:Value → Shared → Prop} {s:Shared} {κ:SortKind} {S:Keyed → Prop} {r:Keyed → Nat} {st:SortSt}
structure Mh (r:Keyed → Nat) (a b out:Array Keyed) (na nb:Nat):Prop where
 la:na ≤ a.size
 lb:nb ≤ b.size
 me:wG (Ov r) (a.toList ++ b.toList) out.toList (bR a 0 na).reverse (bR b 0 nb).reverse
section
variable {a b out:Array Keyed} {na nb:Nat} (ua:Up r a 0 a.size) (ub:Up r b 0 b.size)
include ua ub
theorem Mh.JS (h:Mh r a b out na nb) {k:Nat} (hk:k ≤ na) (l:0 < nb → ∀ i,k ≤ i → i < na → K r b (nb - 1) ≤ K r a i):Mh r a b (out ++ (a.extract k na).reverse) k nb:=by
 have la:=h.la
 have lb:=h.lb
 refine ⟨by lia,h.lb,?_⟩
 have m:=h.me
 rw [bS (i:=0) (j:=k) (by lia) hk h.la,List.reverse_append] at m
 rw [Array.toList_append,Array.toList_reverse,aI]
 refine m.a fun x hx y hy => ?_
 obtain ⟨i,i1,i2,i3⟩:=bq (List.mem_reverse.mp hx)
 obtain ⟨j,j1,j2,j3⟩:=bq (List.mem_reverse.mp hy)
 show r y ≤ r x
 rw [← dU (r:=r) i3,← dU (r:=r) j3]
 exact Nat.le_trans (ub.le (Nat.zero_le _) (by lia) (by lia)) (l (by lia) i i1 i2)
theorem Mh.JT (h:Mh r a b out na nb) {k:Nat} (hk:k ≤ nb) (l:0 < na → ∀ i,k ≤ i → i < nb → K r a (na - 1) ≤ K r b i):Mh r a b (out ++ (b.extract k nb).reverse) na k:=by
 have la:=h.la
 have lb:=h.lb
 refine ⟨h.la,by lia,?_⟩
 have m:=h.me
 rw [bS (i:=0) (j:=k) (by lia) hk h.lb,List.reverse_append] at m
 rw [Array.toList_append,Array.toList_reverse,aI]
 refine m.b fun x hx y hy => ?_
 obtain ⟨i,i1,i2,i3⟩:=bq (List.mem_reverse.mp hx)
 obtain ⟨j,j1,j2,j3⟩:=bq (List.mem_reverse.mp hy)
 show r y ≤ r x
 rw [← dU (r:=r) i3,← dU (r:=r) j3]
 exact Nat.le_trans (ua.le (Nat.zero_le _) (by lia) (by lia)) (l (by lia) i i1 i2)
theorem Mh.a1 (h:Mh r a b out na nb) (hn:0 < na) {x:Keyed} (e:a[na - 1]? = some x) (l:0 < nb → K r b (nb - 1) ≤ r x):Mh r a b (out.push x) (na - 1) nb:=by
 have q:=h.JS ua ub (k:=na - 1) (by lia) fun z i i1 i2 => by
  rw [show i = na - 1 by lia,dU e]; exact l z
 have:(out ++ (a.extract (na - 1) na).reverse) = out.push x:=by
  apply Array.toList_inj.mp
  have e2:=jk e
  rw [show na - 1 + 1 = na by lia] at e2
  rw [Array.toList_append,Array.toList_reverse,aI,e2,Array.toList_push,List.reverse_singleton]
 rwa [this] at q
theorem Mh.b1 (h:Mh r a b out na nb) (hn:0 < nb) {x:Keyed} (e:b[nb - 1]? = some x) (l:0 < na → K r a (na - 1) ≤ r x):Mh r a b (out.push x) na (nb - 1):=by
 have q:=h.JT ua ub (k:=nb - 1) (by lia) fun z i i1 i2 => by
  rw [show i = nb - 1 by lia,dU e]; exact l z
 have:(out ++ (b.extract (nb - 1) nb).reverse) = out.push x:=by
  apply Array.toList_inj.mp
  have e2:=jk e
  rw [show nb - 1 + 1 = nb by lia] at e2
  rw [Array.toList_append,Array.toList_reverse,aI,e2,Array.toList_push,List.reverse_singleton]
 rwa [this] at q
omit ua ub in
theorem Mh.done (h:Mh r a b out na nb) (l:na = 0 ∨ nb = 0):Good r a b (a.extract 0 na ++ b.extract 0 nb ++ out.reverse):=by
 unfold Good
 rw [Array.toList_append,Array.toList_append,Array.toList_reverse,aI,aI]
 have f:=h.me.fin fun x hx y hy => by
  obtain ⟨i,i1,i2,i3⟩:=bq (List.mem_reverse.mp hx)
  obtain ⟨j,j1,j2,j3⟩:=bq (List.mem_reverse.mp hy)
  lia
 have e:bR a 0 na ++ bR b 0 nb ++ out.toList.reverse = (out.toList ++ (bR a 0 na).reverse ++ (bR b 0 nb).reverse).reverse:=by
  rw [List.reverse_append,List.reverse_append,List.reverse_reverse,List.reverse_reverse,← List.append_assoc]
  rcases l with z | z
  ·rw [z,q9 (Nat.le_refl _),List.append_nil,List.nil_append]
  ·rw [z,q9 (Nat.le_refl _),List.append_nil,List.nil_append]
 rw [e]
 exact ⟨(List.reverse_perm _).trans f.1,List.pairwise_reverse.mpr f.2⟩
omit ub in
theorem Mh.first (h:Mh r a b out na nb) (l:nb = 1) (h0:K r b 0 ≤ K r a 0):Good r a b (b.extract 0 nb ++ a.extract 0 na ++ out.reverse):=by
 have la:=h.la
 unfold Good
 rw [Array.toList_append,Array.toList_append,Array.toList_reverse,aI,aI]
 have f:=h.me.fin fun x hx y hy => by
  obtain ⟨i,i1,i2,i3⟩:=bq (List.mem_reverse.mp hx)
  obtain ⟨j,j1,j2,j3⟩:=bq (List.mem_reverse.mp hy)
  show r y ≤ r x
  rw [← dU (r:=r) i3,← dU (r:=r) j3,show j = 0 by lia]
  exact Nat.le_trans h0 (ua.le (Nat.le_refl _) (Nat.zero_le _) (by lia))
 have e:bR b 0 nb ++ bR a 0 na ++ out.toList.reverse = (out.toList ++ (bR a 0 na).reverse ++ (bR b 0 nb).reverse).reverse:=by
  rw [List.reverse_append,List.reverse_append,List.reverse_reverse,List.reverse_reverse,← List.append_assoc]
 rw [e]
 exact ⟨(List.reverse_perm _).trans f.1,List.pairwise_reverse.mpr f.2⟩
end
theorem zS (C:wJ prog w A s κ S r) {a b:Array Keyed} {Q:Array Keyed → SortSt → Prop} (hk:kindOf st = κ) (GV:∀ x ∈ a,S x) (GW:∀ x ∈ b,S x) (ua:Up r a 0 a.size) (ub:Up r b 0 b.size) (ha:1 ≤ a.size) (hb:1 ≤ b.size)
  (h0:K r b 0 ≤ K r a 0) (hl:K r b (b.size - 1) ≤ K r a (a.size - 1)) (h:∀ m g,Good r a b m → Q m (Gs st g)) :
  wpS (model prog w) A E s (q? a b) Q st:=by
 unfold q?
 refine wpS_bind (wpS_lift (wpAny_rule ⟨rfl,?_⟩))
 obtain ⟨y0,e0,m0,k0⟩:=at_of (r:=r) (xs:=a) (i:=a.size - 1) (by lia)
 refine wpS_bind (c9 e0 ?_)
 dsimp only
 have M0:Mh r a b #[] a.size b.size:=⟨Nat.le_refl _,Nat.le_refl _,by
  rw [dk,dk]
  exact ⟨(List.reverse_perm _).append (List.reverse_perm _),List.Pairwise.nil,by rw [← dk]; exact ua.rev,by rw [← dk]; exact ub.rev,(by intro _ m; cases m),(by intro _ m; cases m)⟩⟩
 have M1:Mh r a b #[y0] (a.size - 1) b.size:=M0.a1 ua ub (by lia) e0 fun _ => by rw [← k0]; exact hl
 refine bK (fun q => wpS_pure (h _ (gallopOf st) (M1.done (.inl q)))) fun q1 => ?_
 refine bK (fun q => wpS_pure (h _ (gallopOf st) (M1.first ua q h0))) fun q2 => ?_
 refine wpS_bind (wpS_get ?_)
 refine wpS_bind (wpS_mono (wpS_forRange (I:=fun x z av => (∃ g,av = Gs st g) ∧ ∃ na nb out mg,z = (none,na,nb,out,mg) ∧ Mh r a b out na nb ∧ 0 < na ∧ 1 < nb ∧ x + na + nb < a.size + b.size)
  (Q:=fun z av => (∃ g,av = Gs st g) ∧ ∃ m y,z = (some m,y) ∧ Good r a b m) ?_ ?_ ⟨⟨gallopOf st,rfl⟩,_,_,_,_,rfl,M1,by lia,by lia,by lia⟩) ?_)
 ·rintro x z av _ hx ⟨⟨g,e⟩,na,nb,out,mg,rfl,m,l1,l2,l3⟩
  dsimp only
  refine wpS_bind (wpS_mono (wpS_forRange (I:=fun x' z av => (∃ g,av = Gs st g) ∧ ∃ kS kT out c1 c2,z = (none,kS,kT,out,c1,c2) ∧ Mh r a b out kS kT ∧ 0 < kS ∧ 1 < kT ∧ kS + kT + x' ≤ na + nb)
   (Q:=fun z av => (∃ g,av = Gs st g) ∧ ((∃ m y,z = (some m,y) ∧ Good r a b m) ∨ ∃ kS kT out c1 c2,z = (none,kS,kT,out,c1,c2) ∧ Mh r a b out kS kT ∧ 0 < kS ∧ 1 < kT ∧ kS + kT + 1 ≤ na + nb)) ?_ ?_ ⟨⟨g,e⟩,na,nb,out,0,0,rfl,m,l1,l2,by lia⟩) ?_)
  ·rintro x' z st2 _ ML ⟨⟨g,e⟩,kS,kT,out,c1,c2,rfl,m,l1,l2,l3⟩
   dsimp only
   have ma:=m.la
   have mb:=m.lb
   obtain ⟨y,ey,my,ky⟩:=at_of (r:=r) (xs:=b) (i:=kT - 1) (by lia)
   obtain ⟨z,ez,mz,kz⟩:=at_of (r:=r) (xs:=a) (i:=kS - 1) (by lia)
   have MM:kindOf st2 = κ:=by rw [e]; exact hk
   refine wpS_bind (c9 ey (wpS_bind (c9 ez (wpS_bind (JP C MM (GW y my) (GV z mz) ?_)))))
   dsimp only
   refine bN (fun q => ?_) fun q => ?_
   ·have m2:=m.a1 ua ub l1 ez fun _ => by rw [ky]; have:=of_decide_eq_true q; lia
    refine wpS_bind (c9 ez ?_)
    refine bK (fun q => wpS_pure ⟨⟨g,e⟩,.inl ⟨_,_,rfl,m2.done (.inl q)⟩⟩) fun q3 => ?_
    exact bN (fun q => wpS_pure ⟨⟨g,e⟩,.inr ⟨_,_,_,_,_,rfl,m2,by lia,l2,by lia⟩⟩) fun q => wpS_pure ⟨⟨g,e⟩,_,_,_,_,_,rfl,m2,by lia,l2,by lia⟩
   ·have m2:=m.b1 ua ub (by lia) ey fun _ => by rw [kz]; have:=of_decide_eq_false (by simpa using q:decide (r y < r z) = false); lia
    refine wpS_bind (c9 ey ?_)
    refine bK (fun q => wpS_pure ⟨⟨g,e⟩,.inl ⟨_,_,rfl,m2.first ua q h0⟩⟩) fun q3 => ?_
    exact bN (fun q => wpS_pure ⟨⟨g,e⟩,.inr ⟨_,_,_,_,_,rfl,m2,l1,by lia,by lia⟩⟩) fun q => wpS_pure ⟨⟨g,e⟩,_,_,_,_,_,rfl,m2,l1,by lia,by lia⟩
  ·rintro z st2 ⟨e,kS,kT,out,c1,c2,rfl,m,l1,l2,l3⟩
   exact ⟨e,.inr ⟨kS,kT,out,c1,c2,rfl,m,l1,l2,by lia⟩⟩
  ·rintro z st2 ⟨e,⟨m,y,rfl,gd⟩ | ⟨Oy,Oz,out,c1,c2,rfl,m,l1,l2,l4⟩⟩
   ·exact wpS_pure ⟨e,_,_,rfl,gd⟩
   ·dsimp only
    refine wpS_bind (wpS_lift (wpAny_rule ⟨rfl,?_⟩))
    refine wpS_bind (wpS_mono (wpS_forRange (I:=fun x' z av => (∃ g,av = Gs st g) ∧ ∃ kS kT out mg c1 c2,z = (none,kS,kT,out,mg,c1,c2) ∧ Mh r a b out kS kT ∧ 0 < kS ∧ 1 < kT ∧ kS + kT + 1 ≤ na + nb)
     (Q:=fun z av => (∃ g,av = Gs st g) ∧ ((∃ m y,z = (some m,y) ∧ Good r a b m) ∨ ∃ kS kT out mg c1 c2,z = (none,kS,kT,out,mg,c1,c2) ∧ Mh r a b out kS kT ∧ 0 < kS ∧ 1 < kT ∧ kS + kT + 1 ≤ na + nb)) ?_ ?_ ⟨e,Oy,Oz,out,_,c1,c2,rfl,m,l1,l2,by lia⟩) ?_)
    ·rintro x' z fD _ ML ⟨⟨g,e⟩,na,nb,out,mg,c1,c2,rfl,m,l1,l2,l3⟩
     dsimp only
     have ma:=m.la
     have mb:=m.lb
     obtain ⟨y,ey,my,ky⟩:=at_of (r:=r) (xs:=b) (i:=nb - 1) (by lia)
     have GY:∀ (mg:Nat) {Q:PUnit → SortSt → Prop},Q ⟨⟩ (Gs st mg) → wpS (model prog w) A E s (modify fun s:SortSt => Gs s mg) Q fD:=by
      intro mg Q q
      refine wpS_modify ?_
      rw [e]; exact q
     refine bN (fun qg => ?_) fun qg => ?_
     all_goals
      refine wpS_bind (GY _ ?_)
      refine wpS_bind (c9 ey (wpS_bind (h! C hk GV (GW y my) (by lia) (by lia) (ua.sub (by lia) (by lia)) fun k k1 k2 k3 => ?_)))
      dsimp only
      simp only [Nat.zero_add] at k2 k3
      have mk:=m.JS ua ub k1 fun _ i i1 i2 => by
       have:=k3 i i1 i2
       unfold nM at this
       simp only [Bool.false_eq_true,if_false,Bool.not_eq_false',decide_eq_true_eq] at this
       lia
      have nx:0 < k → K r a (k - 1) ≤ r y:=fun z => by
       have:=k2 (k - 1) (by lia)
       unfold nM at this
       simp only [Bool.false_eq_true,if_false,Bool.not_eq_true',decide_eq_false_iff_not] at this
       lia
      refine bN (fun qk => bK (fun q => wpS_pure ⟨⟨_,rfl⟩,.inl ⟨_,_,rfl,mk.done (.inl q)⟩⟩) fun q2 => ?_) fun qk => ?_
      obtain ⟨GZ,eo⟩:∃ z,z = out ++ (a.extract k na).reverse:=⟨_,rfl⟩
      rw [← eo] at mk ⊢
      rotate_left
      have k0:k = na:=by lia
      subst k0
      obtain ⟨GZ,eo⟩:∃ z,z = out:=⟨_,rfl⟩
      replace mk:=m
      rw [← eo] at mk ⊢
      all_goals
       have kp:0 < k:=by lia
       have m2:=mk.b1 ua ub (by lia) ey nx
       refine wpS_bind (c9 ey ?_)
       refine bK (fun q => wpS_pure ⟨⟨_,rfl⟩,.inl ⟨_,_,rfl,m2.first ua q h0⟩⟩) fun q3 => ?_
       obtain ⟨x1,ex,mx,kx⟩:=at_of (r:=r) (xs:=a) (i:=k - 1) (by lia)
       refine wpS_bind (c9 ex (wpS_bind (h! C hk GW (GV x1 mx) (by lia) (by lia) (ub.sub (by lia) (by lia)) fun j j1 j2 j3 => ?_)))
       dsimp only
       simp only [Nat.zero_add] at j2 j3
       have mj:=m2.JT ua ub j1 fun _ i i1 i2 => by
        have:=j3 i i1 i2
        unfold nM at this
        simp only [if_true,decide_eq_false_iff_not] at this
        lia
       have nj:0 < j → K r b (j - 1) ≤ r x1:=fun z => by
        have:=j2 (j - 1) (by lia)
        unfold nM at this
        simp only [if_true,decide_eq_true_eq] at this
        lia
       refine bN (fun qj => bK (fun q => wpS_pure ⟨⟨_,rfl⟩,.inl ⟨_,_,rfl,mj.first ua q h0⟩⟩) fun q4 => bK (fun q => wpS_pure ⟨⟨_,rfl⟩,.inl ⟨_,_,rfl,mj.done (.inr q)⟩⟩) fun q5 => ?_) fun qj => ?_
       rotate_left
       have j0:j = nb - 1:=by lia
       subst j0
       replace mj:=m2
       all_goals
        have m3:=mj.a1 ua ub kp ex nj
        refine wpS_bind (c9 ex ?_)
        refine bK (fun q => wpS_pure ⟨⟨_,rfl⟩,.inl ⟨_,_,rfl,m3.done (.inl q)⟩⟩) fun q5 => ?_
        exact bN (fun q => wpS_pure ⟨⟨_,rfl⟩,.inr ⟨_,_,_,_,_,_,rfl,m3,by lia,by lia,by lia⟩⟩) fun q => wpS_pure ⟨⟨_,rfl⟩,_,_,_,_,_,_,rfl,m3,by lia,by lia,by lia⟩
    ·rintro z fD ⟨e,kS,kT,out,mg,c1,c2,rfl,m,l1,l2,l3⟩
     exact ⟨e,.inr ⟨kS,kT,out,mg,c1,c2,rfl,m,l1,l2,l3⟩⟩
    ·rintro z fD ⟨⟨g,e⟩,⟨m,y,rfl,gd⟩ | ⟨Oy,Oz,out,mg,c1,c2,rfl,m,l1,l2,l4⟩⟩
     ·exact wpS_pure ⟨⟨g,e⟩,_,_,rfl,gd⟩
     ·dsimp only
      refine wpS_bind (wpS_modify (wpS_pure ⟨⟨mg + 1,?_⟩,_,_,_,_,rfl,m,l1,l2,by lia⟩))
      rw [e]
 ·rintro z av ⟨e,na,nb,out,mg,rfl,m,l1,l2,l3⟩
  lia
 ·rintro z av ⟨⟨g,e⟩,m,y,rfl,gd⟩
  rw [e]
  exact wpS_pure (h m g gd)
end
end TS
namespace TS
open PySem PyProof.Rows
theorem o? {α:Type} {X Y:Array α} {L M M' R:List α} (h1:X.toList = L ++ M ++ R) (h2:Y.toList = L ++ M' ++ R) (hl:M'.length = M.length) :
  Y.size = X.size ∧ (∀ j,j < L.length ∨ L.length + M.length ≤ j → Y[j]? = X[j]?) ∧ bR Y L.length (L.length + M.length) = M':=by
 refine ⟨?_,fun j hj => ?_,?_⟩
 ·rw [← Array.length_toList,← Array.length_toList,h1,h2]; simp only [List.length_append,hl]
 ·rw [← Array.getElem?_toList,← Array.getElem?_toList,h1,h2]
  rcases hj with hj | hj
  ·rw [List.append_assoc,List.append_assoc,List.getElem?_append_left hj,List.getElem?_append_left hj]
  ·rw [List.getElem?_append_right (by rw [List.length_append]; lia),List.getElem?_append_right (by rw [List.length_append]; lia),List.length_append,List.length_append,hl]
 ·unfold bR
  rw [h2,List.append_assoc,List.drop_left,Nat.add_sub_cancel_left,← hl,List.take_left]
section
variable {prog:Program} {w:World} {A:Around} {E:Value → Shared → Prop} {s:Shared} {κ:SortKind} {S:Keyed → Prop} {r:Keyed → Nat} {st:SortSt}
theorem CP {σ:Type} {M:Model} {st av:σ} {Q:PUnit → σ → Prop} (h:Q ⟨⟩ av):wpS M A E s (set av:StateT σ Sem PUnit) Q st:=by
 unfold wpS; rw [StateT.run_set]; exact wpAny_pure ⟨rfl,h⟩
theorem zT (C:wJ prog w A s κ S r) {X:Array Keyed} {pend:Array (Nat × Nat × Nat)} {mg i sa na p nb q:Nat} {L1 L2:List (Nat × Nat × Nat)} {Q:Bool → SortSt → Prop} (hS:∀ x ∈ X,S x)
  (hp:pend.toList = L1 ++ (sa,na,p) :: (sa + na,nb,q) :: L2) (hi:i = L1.length) (h1:0 < na) (h2:0 < nb) (hz:sa + na + nb ≤ X.size) (u1:Up r X sa (sa + na)) (u2:Up r X (sa + na) (sa + na + nb))
  (h:∀ Y pd g,Y.toList.Perm X.toList → (∀ j,j < sa ∨ sa + na + nb ≤ j → Y[j]? = X[j]?) → Up r Y sa (sa + na + nb) → pd.toList = L1 ++ (sa,na + nb,p) :: L2 → Q true (SortSt.mk' κ Y pd g none)) :
  wpS (model prog w) A E s (mergeAt' i) Q (SortSt.mk' κ X pend mg none):=by
 have p1:pend[i]? = some (sa,na,p):=by
  rw [← Array.getElem?_toList,hp,hi,List.getElem?_append_right (Nat.le_refl _),Nat.sub_self]; rfl
 have p2:pend[i + 1]? = some (sa + na,nb,q):=by
  rw [← Array.getElem?_toList,hp,hi,List.getElem?_append_right (by lia),show L1.length + 1 - L1.length = 1 by lia]; rfl
 obtain ⟨pd,OA⟩:∃ pd,pd = (pend.setIfInBounds i (sa,na + nb,p)).eraseIdxIfInBounds (i + 1):=⟨_,rfl⟩
 have MQ:pd.toList = L1 ++ (sa,na + nb,p) :: L2:=by
  rw [OA,Array.toList_eraseIdxIfInBounds,Array.toList_setIfInBounds,hp,hi,List.set_append_right _ _ (Nat.le_refl _),Nat.sub_self,List.set_cons_zero,List.eraseIdx_append_of_length_le (by lia),show L1.length + 1 - L1.length = 1 by lia]
  rfl
 unfold mergeAt'
 refine wpS_bind (wpS_get ?_)
 dsimp only
 rw [p1,p2]
 dsimp only
 refine wpS_bind (CP ?_)
 rw [← OA]
 obtain ⟨y,ey,my,ky⟩:=at_of (r:=r) (xs:=X) (i:=sa + na) (by lia)
 refine wpS_bind (c9 ey ?_)
 refine wpS_bind (h! C rfl hS (hS y my) (by lia) h1 u1 fun k k1 k2 k3 => ?_)
 dsimp only
 have lo:∀ i,sa ≤ i → i < sa + k → K r X i ≤ K r X (sa + na):=fun i i1 i2 => by
  have:=k2 (i - sa) (by lia)
  rw [show sa + (i - sa) = i by lia] at this
  unfold nM at this
  simp only [Bool.false_eq_true,if_false,Bool.not_eq_true',decide_eq_false_iff_not] at this
  lia
 refine bK (fun z => wpS_pure (h X pd mg (List.Perm.refl _) (fun _ _ => rfl) (fun i j a1 a2 a3 => ?_) MQ)) fun z => ?_
 ·rcases Nat.lt_or_ge j (sa + na) with c | c
  ·exact u1 i j a1 a2 c
  ·rcases Nat.lt_or_ge i (sa + na) with d | d
   ·exact Nat.le_trans (lo i a1 (by lia)) (u2.le (Nat.le_refl _) c a3)
   ·exact u2 i j d a2 a3
 obtain ⟨x,ex,mx,kx⟩:=at_of (r:=r) (xs:=X) (i:=sa + na - 1) (by lia)
 have em:sa + k + (na - k) - 1 = sa + na - 1:=by lia
 rw [em]
 refine wpS_bind (c9 ex ?_)
 refine wpS_bind (h! C rfl hS (hS x mx) (by lia) (by lia) u2 fun m m1 m2 m3 => ?_)
 dsimp only
 have up:∀ i,sa + na + m ≤ i → i < sa + na + nb → K r X (sa + na - 1) ≤ K r X i:=fun i i1 i2 => by
  have:=m3 (i - (sa + na)) (by lia) (by lia)
  rw [show sa + na + (i - (sa + na)) = i by lia] at this
  unfold nM at this
  simp only [if_true,decide_eq_false_iff_not] at this
  lia
 refine bK (fun z => wpS_pure (h X pd mg (List.Perm.refl _) (fun _ _ => rfl) (fun i j a1 a2 a3 => ?_) MQ)) fun z2 => ?_
 ·rcases Nat.lt_or_ge j (sa + na) with c | c
  ·exact u1 i j a1 a2 c
  ·rcases Nat.lt_or_ge i (sa + na) with d | d
   ·exact Nat.le_trans (u1.le a1 (by lia) (by lia)) (up j (by lia) a3)
   ·exact u2 i j d a2 a3
 obtain ⟨a,ea⟩:∃ a,a = X.extract (sa + k) (sa + na):=⟨_,rfl⟩
 obtain ⟨b,eb⟩:∃ b,b = X.extract (sa + na) (sa + na + m):=⟨_,rfl⟩
 rw [← ea,← eb]
 have za:a.size = na - k:=by rw [ea,Array.size_extract]; lia
 have zb:b.size = m:=by rw [eb,Array.size_extract]; lia
 have Ka:∀ i,i < a.size → K r a i = K r X (sa + k + i):=fun i hi => by
  unfold K
  rw [ea,Array.getElem?_extract_of_lt (by lia),getElem?_pos X _ (by lia)]
 have Kb:∀ i,i < b.size → K r b i = K r X (sa + na + i):=fun i hi => by
  unfold K
  rw [eb,Array.getElem?_extract_of_lt (by lia),getElem?_pos X _ (by lia)]
 have ua:Up r a 0 a.size:=fun i j _ a2 a3 => by rw [Ka i (by lia),Ka j a3]; exact u1 _ _ (by lia) (by lia) (by lia)
 have ub:Up r b 0 b.size:=fun i j _ a2 a3 => by rw [Kb i (by lia),Kb j a3]; exact u2 _ _ (by lia) (by lia) (by lia)
 have OB:∀ x ∈ a,S x:=fun x hx => by
  rw [ea,← Array.mem_toList_iff,aI] at hx
  obtain ⟨j,_,_,j3⟩:=bq hx
  exact hS x (Array.mem_of_getElem? j3)
 have OC:∀ x ∈ b,S x:=fun x hx => by
  rw [eb,← Array.mem_toList_iff,aI] at hx
  obtain ⟨j,_,_,j3⟩:=bq hx
  exact hS x (Array.mem_of_getElem? j3)
 have h0:K r b 0 ≤ K r a 0:=by
  rw [Ka 0 (by lia),Kb 0 (by lia)]
  have:=k3 k (Nat.le_refl _) (by lia)
  unfold nM at this
  simp only [Bool.false_eq_true,if_false,Bool.not_eq_false',decide_eq_true_eq] at this
  rw [Nat.add_zero,Nat.add_zero]
  lia
 have hl:K r b (b.size - 1) ≤ K r a (a.size - 1):=by
  rw [Ka _ (by lia),Kb _ (by lia)]
  have:=m2 (b.size - 1) (by lia)
  unfold nM at this
  simp only [if_true,decide_eq_true_eq] at this
  rw [show sa + k + (a.size - 1) = sa + na - 1 by lia]
  lia
 have fin:∀ (wK:Array Keyed) (g:Nat),Good r a b wK → Q true (SortSt.mk' κ (wK.toList.zipIdx.foldl (fun a (q:Keyed × Nat) => a.setIfInBounds (sa + k + q.2) q.1) X) pd g none):=by
  intro wK g gd
  obtain ⟨g1,g2⟩:=gd
  have ll:wK.toList.length = na - k + m:=by
   have:=g1.length_eq
   rw [List.length_append,Array.length_toList (xs:=a),Array.length_toList (xs:=b)] at this
   lia
  obtain ⟨Y,eY⟩:∃ Y,Y = wK.toList.zipIdx.foldl (fun a (q:Keyed × Nat) => a.setIfInBounds (sa + k + q.2) q.1) X:=⟨_,rfl⟩
  rw [← eY]
  have yl:=zP (m:=wK.toList) (sa:=sa + k) (xs:=X) (by lia)
  rw [← eY,wH,wI,ll,show sa + k + (na - k + m) = sa + na + m by lia] at yl
  rw [bS (i:=0) (j:=sa) (k:=sa + k) (by lia) (by lia) (by lia),bS (i:=sa + na + m) (j:=sa + na + nb) (k:=X.size) (by lia) (by lia) (by lia)] at yl
  have xl:X.toList = bR X 0 sa ++ bR X sa (sa + na + nb) ++ bR X (sa + na + nb) X.size:=by
   rw [← bS (by lia) (by lia) (by lia),← bS (by lia) (by lia) (by lia),dk]
  have xm:bR X sa (sa + na + nb) = bR X sa (sa + k) ++ (a.toList ++ b.toList) ++ bR X (sa + na + m) (sa + na + nb):=by
   rw [ea,eb,aI,aI,← bS (by lia) (by lia) (by lia),← bS (by lia) (by lia) (by lia),← bS (by lia) (by lia) (by lia)]
  have OD:Y.toList = bR X 0 sa ++ (bR X sa (sa + k) ++ wK.toList ++ bR X (sa + na + m) (sa + na + nb)) ++ bR X (sa + na + nb) X.size:=by
   rw [yl]; simp only [List.append_assoc]
  have pm:(bR X sa (sa + k) ++ wK.toList ++ bR X (sa + na + m) (sa + na + nb)).Perm (bR X sa (sa + na + nb)):=by
   rw [xm]
   exact (List.Perm.append_left _ g1).append_right _
  obtain ⟨r1,r2,r3⟩:=o? xl OD pm.length_eq
  rw [gU (by lia),gU (by lia),Nat.sub_zero,show sa + (sa + na + nb - sa) = sa + na + nb by lia] at r2 r3
  refine h Y pd g ?_ r2 (GS ?_ (by lia)) MQ
  ·rw [xl,OD]
   exact (List.Perm.append_left _ pm).append_right _
  ·rw [r3]
   unfold Bk
   have mem:∀ x ∈ wK.toList,∃ j,sa + k ≤ j ∧ j < sa + na + m ∧ X[j]? = some x:=fun x hx => by
    have:=g1.mem_iff.mp hx
    rw [ea,eb,aI,aI,← bS (by lia) (by lia) (by lia)] at this
    exact bq this
   rw [List.append_assoc]
   refine List.pairwise_append.mpr ⟨(u1.sub (Nat.le_refl _) (by lia)).mQ,List.pairwise_append.mpr ⟨g2,(u2.sub (by lia) (Nat.le_refl _)).mQ,fun x hx y hy => ?_⟩,fun x hx y hy => ?_⟩
   ·obtain ⟨i,i1,i2,i3⟩:=mem x hx
    obtain ⟨j,j1,j2,j3⟩:=bq hy
    show r x ≤ r y
    rw [← dU (r:=r) i3,← dU (r:=r) j3]
    rcases Nat.lt_or_ge i (sa + na) with d | d
    ·exact Nat.le_trans (u1.le (by lia) (by lia) (by lia)) (up j j1 j2)
    ·exact u2.le d (by lia) j2
   ·obtain ⟨i,i1,i2,i3⟩:=bq hx
    have:∃ j,sa + k ≤ j ∧ j < sa + na + nb ∧ X[j]? = some y:=by
     rcases List.mem_append.mp hy with hy | hy
     ·obtain ⟨j,j1,j2,j3⟩:=mem y hy
      exact ⟨j,j1,by lia,j3⟩
     ·obtain ⟨j,j1,j2,j3⟩:=bq hy
      exact ⟨j,by lia,by lia,j3⟩
    obtain ⟨j,j1,j2,j3⟩:=this
    show r x ≤ r y
    rw [← dU (r:=r) i3,← dU (r:=r) j3]
    rcases Nat.lt_or_ge j (sa + na) with d | d
    ·exact u1.le i1 (by lia) d
    ·exact Nat.le_trans (lo i i1 i2) (u2.le (Nat.le_refl _) d j2)
 refine bN (fun _ => ?_) fun _ => ?_
 ·exact wpS_bind (zR C rfl OB OC ua ub (by lia) (by lia) h0 hl fun wK g gd => wpS_bind (wpS_modify (wpS_bind (wpS_get (wpS_pure (fin wK g gd))))))
 ·exact wpS_bind (zS C rfl OB OC ua ub (by lia) (by lia) h0 hl fun wK g gd => wpS_bind (wpS_modify (wpS_bind (wpS_get (wpS_pure (fin wK g gd))))))
end
end TS
namespace TS
open PySem PyProof.Rows
noncomputable def Di (r:Keyed → Nat) (xs:Array Keyed):Prop:=(xs.toList.map r).Nodup
section
variable {r:Keyed → Nat} {X Y:Array Keyed}
theorem Di.to (h:Di r X) (p:Y.toList.Perm X.toList):Di r Y:=(p.map r).nodup_iff.mpr h
theorem Di.ne (h:Di r X) {i j:Nat} (hi:i < X.size) (hj:j < X.size) (e:i ≠ j):K r X i ≠ K r X j:=by
 rw [dU (getElem?_pos X i hi),dU (getElem?_pos X j hj)]
 intro z
 have li:i < (X.toList.map r).length:=by rw [List.length_map,Array.length_toList]; exact hi
 have lj:j < (X.toList.map r).length:=by rw [List.length_map,Array.length_toList]; exact hj
 refine e ((List.getElem_inj (h₀:=li) (h₁:=lj) h).mp ?_)
 rw [List.getElem_map,List.getElem_map,Array.getElem_toList,Array.getElem_toList]
 exact z
theorem Ej {i j k:Nat} (hj:j ≤ X.size):K r (mirror X i j ((j - i) / 2)) k = if i ≤ k ∧ k < j then K r X (i + j - 1 - k) else K r X k:=by
 unfold K
 rw [getElem?_mirror_all hj]
 split <;> rfl
theorem Ek {src d k:Nat} (hs:src < X.size) (hd:d ≤ src):K r (bubble X src d) k = if k = src - d then K r X src else if src - d < k ∧ k ≤ src then K r X (k - 1) else K r X k:=by
 unfold K
 rw [getElem?_bubble hs d hd]
 split
 ·rfl
 ·split <;> rfl
theorem Up.more {lo n:Nat} (h1:1 ≤ n) (h:Up r X lo (lo + n)) (l:K r X (lo + n - 1) ≤ K r X (lo + n)):Up r X lo (lo + (n + 1)):=fun i j a b c => by
 rcases Nat.lt_or_ge j (lo + n) with q | q
 ·exact h i j a b q
 ·rw [show j = lo + n by lia]
  exact Nat.le_trans (h.le a (show i ≤ lo + n - 1 by lia) (by lia)) l
theorem Dn.more {lo n:Nat} (h1:1 ≤ n) (h:Dn r X lo (lo + n)) (l:K r X (lo + n) ≤ K r X (lo + n - 1)):Dn r X lo (lo + (n + 1)):=fun i j a b c => by
 rcases Nat.lt_or_ge j (lo + n) with q | q
 ·exact h i j a b q
 ·rw [show j = lo + n by lia]
  rcases Nat.lt_or_ge i (lo + n - 1) with z | z
  ·exact Nat.le_trans l (h i (lo + n - 1) a z (by lia))
  ·rw [show i = lo + n - 1 by lia]; exact l
theorem Up.one {lo:Nat}:Up r X lo (lo + 1):=fun i j a b c => by lia
end
section
variable {prog:Program} {w:World} {A:Around} {E:Value → Shared → Prop} {s:Shared} {κ:SortKind} {S:Keyed → Prop} {r:Keyed → Nat} {pend:Array (Nat × Nat × Nat)} {mg:Nat} {X:Array Keyed}
theorem wL (C:wJ prog w A s κ S r) {i j:Nat} {Q:Option Bool → SortSt → Prop} (hS:∀ x ∈ X,S x) (hi:i < X.size) (hj:j < X.size) (h:Q (some (decide (K r X i < K r X j))) (SortSt.mk' κ X pend mg none)) :
  wpS (model prog w) A E s (ltAt' i j) Q (SortSt.mk' κ X pend mg none):=by
 obtain ⟨x,ex,mx,kx⟩:=at_of (r:=r) hi
 obtain ⟨y,ey,my,ky⟩:=at_of (r:=r) hj
 rw [kx,ky] at h
 exact JQ C rfl ex ey (hS x mx) (hS y my) h
theorem G0 (C:wJ prog w A s κ S r) {lo gW:Nat} {Q:Option Nat → SortSt → Prop} (h1:1 ≤ gW) (hz:lo + gW ≤ X.size) (hS:∀ x ∈ X,S x) (hd:Di r X)
  (h:∀ n Y,1 ≤ n → n ≤ gW → Y.toList.Perm X.toList → (∀ j,j < lo → Y[j]? = X[j]?) → Up r Y lo (lo + n) → Q (some n) (SortSt.mk' κ Y pend mg none)) :
  wpS (model prog w) A E s (countRun' lo gW) Q (SortSt.mk' κ X pend mg none):=by
 unfold countRun'
 refine wpS_bind (wpS_mono (wpS_forRange (I:=fun x z av => av = SortSt.mk' κ X pend mg none ∧ z = (none,x) ∧ Up r X lo (lo + x))
  (Q:=fun z av => av = SortSt.mk' κ X pend mg none ∧ ∃ n,z = (none,n) ∧ 1 ≤ n ∧ n ≤ gW ∧ Up r X lo (lo + n) ∧ (n < gW → K r X (lo + n) < K r X (lo + n - 1))) ?_ ?_ ⟨rfl,rfl,Up.one⟩) ?_)
 ·rintro x z av x1 hx ⟨e,rfl,u⟩
  rw [e]
  refine wpS_bind (wL C hS (by lia) (by lia) ?_)
  dsimp only
  refine bN (fun q => wpS_pure ⟨rfl,x,rfl,x1,by lia,u,fun _ => of_decide_eq_true q⟩) fun q => wpS_pure ⟨rfl,rfl,u.more x1 ?_⟩
  have:=of_decide_eq_false (by simpa using q:decide (K r X (lo + x) < K r X (lo + x - 1)) = false)
  lia
 ·rintro z av ⟨e,rfl,u⟩
  rw [show max 1 gW = gW by lia] at u ⊢
  exact ⟨e,gW,rfl,h1,Nat.le_refl _,u,fun q => absurd q (Nat.lt_irrefl _)⟩
 ·rintro z av ⟨e,n,rfl,n1,n2,u,f⟩
  rw [e]
  dsimp only
  refine bK (fun q => wpS_pure (h n X n1 n2 (List.Perm.refl _) (fun _ _ => rfl) u)) fun q => ?_
  have f':=f (by lia)
  refine bN (fun g => ?_) fun g => ?_
  ·refine wpS_bind (wL C hS (by lia) (by lia) ?_)
   dsimp only
   have ne:=hd.ne (i:=lo) (j:=lo + n - 1) (by lia) (by lia) (by lia)
   have le:=u.le (Nat.le_refl _) (show lo ≤ lo + n - 1 by lia) (by lia)
   rw [if_pos (decide_eq_true (by lia))]
   exact wpS_pure (h n X n1 n2 (List.Perm.refl _) (fun _ _ => rfl) u)
  ·have:n = 1:=by lia
   subst this
   refine wpS_bind (wpS_lift (wpAny_rule ⟨rfl,?_⟩))
   refine wpS_bind (wpS_mono (wpS_forRange (I:=fun x z av => av = SortSt.mk' κ X pend mg none ∧ z = (none,x,0) ∧ Dn r X lo (lo + x))
    (Q:=fun z av => av = SortSt.mk' κ X pend mg none ∧ ∃ n,z = (none,n,0) ∧ 2 ≤ n ∧ n ≤ gW ∧ Dn r X lo (lo + n)) ?_ ?_ ⟨rfl,rfl,?_⟩) ?_)
   ·rintro x z av x1 hx ⟨e,rfl,u⟩
    rw [e]
    dsimp only
    refine wpS_bind (wL C hS (by lia) (by lia) ?_)
    dsimp only
    refine bN (fun q => ?_) fun q => ?_
    ·rw [if_neg (Nat.lt_irrefl _)]
     have:=of_decide_eq_true q
     exact wpS_pure ⟨rfl,rfl,u.more (by lia) (by lia)⟩
    ·refine wpS_bind (wL C hS (by lia) (by lia) ?_)
     dsimp only
     have ne:=hd.ne (i:=lo + x) (j:=lo + x - 1) (by lia) (by lia) (by lia)
     have:=of_decide_eq_false (by simpa using q:decide (K r X (lo + x) < K r X (lo + x - 1)) = false)
     rw [if_pos (decide_eq_true (by lia))]
     exact wpS_pure ⟨rfl,x,rfl,by lia,by lia,u⟩
   ·rintro z av ⟨e,rfl,u⟩
    rw [show max (1 + 1) gW = gW by lia] at u ⊢
    exact ⟨e,gW,rfl,by lia,Nat.le_refl _,u⟩
   ·intro i j a b c
    rw [show i = lo + 1 - 1 by lia,show j = lo + 1 by lia]
    lia
   ·rintro z av ⟨e,n,rfl,n1,n2,dn⟩
    rw [e]
    dsimp only
    rw [if_neg (Nat.lt_irrefl _)]
    obtain ⟨Y,eY⟩:∃ Y,Y = mirror X lo (lo + n) ((lo + n - lo) / 2):=⟨_,rfl⟩
    have zY:Y.size = X.size:=by rw [eY]; exact mirror_size _ _ _ _
    have pY:Y.toList.Perm X.toList:=by rw [eY]; exact Array.perm_iff_toList_perm.mp (mirror_perm _ _ _ _)
    have sY:∀ x ∈ Y,S x:=fun x hx => hS x (Array.mem_toList_iff.mp (pY.mem_iff.mp (Array.mem_toList_iff.mpr hx)))
    have bY:∀ j,j < lo → Y[j]? = X[j]?:=fun j hj => by
     rw [eY,getElem?_mirror_all (by lia),if_neg (by lia)]
    have uY:Up r Y lo (lo + n):=fun i j a b c => by
     rw [eY,Ej (by lia),Ej (by lia),if_pos (by lia),if_pos (by lia)]
     exact dn _ _ (by lia) (by lia) (by lia)
    refine wpS_bind (wpS_modify ?_)
    show wpS _ _ _ _ _ _ (SortSt.mk' κ (mirror X lo (lo + n) ((lo + n - lo) / 2)) pend mg none)
    rw [← eY]
    refine wpS_bind (wpS_mono (wpS_forRange (I:=fun x z av => av = SortSt.mk' κ Y pend mg none ∧ z = (none,x) ∧ Up r Y lo (lo + x))
     (Q:=fun z av => av = SortSt.mk' κ Y pend mg none ∧ ∃ n,z = (none,n) ∧ 1 ≤ n ∧ n ≤ gW ∧ Up r Y lo (lo + n)) ?_ ?_ ⟨rfl,rfl,uY⟩) ?_)
    ·rintro x z av x1 hx ⟨e,rfl,u⟩
     rw [e]
     refine wpS_bind (wL C sY (by lia) (by lia) ?_)
     dsimp only
     refine bN (fun q => wpS_pure ⟨rfl,x,rfl,by lia,by lia,u⟩) fun q => wpS_pure ⟨rfl,rfl,u.more (by lia) ?_⟩
     have:=of_decide_eq_false (by simpa using q:decide (K r Y (lo + x) < K r Y (lo + x - 1)) = false)
     lia
    ·rintro z av ⟨e,rfl,u⟩
     rw [show max n gW = gW by lia] at u ⊢
     exact ⟨e,gW,rfl,h1,Nat.le_refl _,u⟩
    ·rintro z av ⟨e,n,rfl,n1,n2,u⟩
     rw [e]
     exact wpS_pure (h n Y n1 n2 pY bY u)
theorem MR (C:wJ prog w A s κ S r) {lo n ok:Nat} {Q:Bool → SortSt → Prop} (h1:1 ≤ ok) (hz:lo + n ≤ X.size) (hS:∀ x ∈ X,S x) (u:Up r X lo (lo + ok))
  (h:∀ Y,Y.toList.Perm X.toList → (∀ j,j < lo → Y[j]? = X[j]?) → Up r Y lo (lo + n) → Q true (SortSt.mk' κ Y pend mg none)) :
  wpS (model prog w) A E s (binarySort' lo n ok) Q (SortSt.mk' κ X pend mg none):=by
 unfold binarySort'
 refine wpS_bind (wpS_mono (wpS_forRange (I:=fun k z av => z = (none,()) ∧ ∃ Y,av = SortSt.mk' κ Y pend mg none ∧ Y.toList.Perm X.toList ∧ (∀ j,j < lo → Y[j]? = X[j]?) ∧ Up r Y lo (lo + k))
  (Q:=fun z av => z = (none,()) ∧ ∃ Y,av = SortSt.mk' κ Y pend mg none ∧ Y.toList.Perm X.toList ∧ (∀ j,j < lo → Y[j]? = X[j]?) ∧ Up r Y lo (lo + n)) ?_ ?_ ⟨rfl,X,rfl,List.Perm.refl _,fun _ _ => rfl,by rw [show max ok 1 = ok by lia]; exact u⟩) ?_)
 ·rintro k z av k1 hk ⟨rfl,Y,e,pY,bY,uY⟩
  rw [e]
  have zY:Y.size = X.size:=by rw [← Array.length_toList,pY.length_eq,Array.length_toList]
  have sY:∀ x ∈ Y,S x:=fun x hx => hS x (Array.mem_toList_iff.mp (pY.mem_iff.mp (Array.mem_toList_iff.mpr hx)))
  refine wpS_bind (wpS_mono (wpS_forRange (I:=fun x z av => av = SortSt.mk' κ Y pend mg none ∧ ∃ l m,z = (none,l,m) ∧ l ≤ m ∧ m ≤ k ∧ m - l + x ≤ k ∧ (∀ i,i < l → K r Y (lo + i) ≤ K r Y (lo + k)) ∧ ∀ i,m ≤ i → i < k → K r Y (lo + k) ≤ K r Y (lo + i))
   (Q:=fun z av => av = SortSt.mk' κ Y pend mg none ∧ ∃ l,z = (none,l,l) ∧ l ≤ k ∧ (∀ i,i < l → K r Y (lo + i) ≤ K r Y (lo + k)) ∧ ∀ i,l ≤ i → i < k → K r Y (lo + k) ≤ K r Y (lo + i)) ?_ ?_ ⟨rfl,0,k,rfl,Nat.zero_le _,Nat.le_refl _,by lia,fun i q => absurd q (Nat.not_lt_zero _),fun i q1 q2 => absurd q1 (by lia)⟩) ?_)
  ·rintro x z av _ hx ⟨e,l,m,rfl,g1,g2,g3,g4,g5⟩
   rw [e]
   dsimp only
   refine bN (fun q => ?_) fun q => ?_
   ·have:l = m:=by lia
    subst this
    exact wpS_pure ⟨rfl,l,rfl,g2,g4,g5⟩
   ·refine wpS_bind (wL C sY (by lia) (by lia) ?_)
    dsimp only
    refine bN (fun q => ?_) fun q => ?_
    ·have:=of_decide_eq_true q
     exact wpS_pure ⟨rfl,l,(l + m) / 2,rfl,by lia,by lia,by lia,g4,fun i i1 i2 => Nat.le_trans (Nat.le_of_lt this) (uY.le (by lia) (by lia) (by lia))⟩
    ·have:=of_decide_eq_false (by simpa using q:decide (K r Y (lo + k) < K r Y (lo + (l + m) / 2)) = false)
     exact wpS_pure ⟨rfl,(l + m) / 2 + 1,m,rfl,by lia,by lia,by lia,fun i i1 => Nat.le_trans (uY.le (by lia) (show lo + i ≤ lo + (l + m) / 2 by lia) (by lia)) (by lia),g5⟩
  ·rintro z av ⟨e,l,m,rfl,g1,g2,g3,g4,g5⟩
   have:l = m:=by lia
   subst this
   exact ⟨e,l,rfl,g2,g4,g5⟩
  ·rintro z av ⟨e,l,rfl,g2,g4,g5⟩
   rw [e]
   dsimp only
   refine wpS_bind (wpS_modify (wpS_pure ⟨rfl,bubble Y (lo + k) (lo + k - (lo + l)),rfl,?_,fun j hj => ?_,?_⟩))
   ·exact (Array.perm_iff_toList_perm.mp (bubble_perm _ _ _)).trans pY
   ·rw [getElem?_bubble (by lia) _ (by lia),if_neg (by lia),if_neg (by lia)]
    exact bY j hj
   ·intro i j a b c
    rw [Ek (by lia) (by lia),Ek (by lia) (by lia),show lo + k - (lo + k - (lo + l)) = lo + l by lia]
    by_cases c1:i = lo + l
    ·rw [if_pos c1,if_neg (by lia),if_pos (by lia)]
     have:=g5 (j - 1 - lo) (by lia) (by lia)
     rwa [show lo + (j - 1 - lo) = j - 1 by lia] at this
    ·rw [if_neg c1]
     by_cases c2:j = lo + l
     ·rw [if_pos c2,if_neg (by lia)]
      have:=g4 (i - lo) (by lia)
      rwa [show lo + (i - lo) = i by lia] at this
     ·rw [if_neg c2]
      by_cases c3:lo + l < i
      ·rw [if_pos (by lia),if_pos (by lia)]
       exact uY.le (by lia) (by lia) (by lia)
      ·rw [if_neg (by lia)]
       by_cases c4:lo + l < j
       ·rw [if_pos (by lia)]
        exact uY.le a (by lia) (by lia)
       ·rw [if_neg (by lia)]
        exact uY.le a (by lia) (by lia)
 ·rintro z av ⟨rfl,Y,e,pY,bY,uY⟩
  exact ⟨rfl,Y,e,pY,bY,uY.sub (Nat.le_refl _) (by lia)⟩
 ·rintro z av ⟨rfl,Y,e,pY,bY,uY⟩
  rw [e]
  exact wpS_pure (h Y pY bY uY)
end
end TS
namespace TS
open PySem PyProof.Rows
section
variable {r:Keyed → Nat} {X Y:Array Keyed}
noncomputable def Runs (r:Keyed → Nat) (X:Array Keyed):List (Nat × Nat × Nat) → Nat → Nat → Prop
 | [],lo,hi => lo = hi
 | q :: t,lo,hi => q.1 = lo ∧ 0 < q.2.1 ∧ Up r X lo (lo + q.2.1) ∧ Runs r X t (lo + q.2.1) hi
theorem fT:∀ {L1 L2:List (Nat × Nat × Nat)} {lo hi:Nat},Runs r X (L1 ++ L2) lo hi ↔ ∃ m,Runs r X L1 lo m ∧ Runs r X L2 m hi
 | [],L2,lo,hi => ⟨fun h => ⟨lo,rfl,h⟩,fun ⟨m,e,h⟩ => by cases e; exact h⟩
 | q :: L1,L2,lo,hi => by
  constructor
  ·rintro ⟨a,b,c,d⟩
   obtain ⟨m,h1,h2⟩:=fT.mp d
   exact ⟨m,⟨a,b,c,h1⟩,h2⟩
  ·rintro ⟨m,⟨a,b,c,d⟩,h2⟩
   exact ⟨a,b,c,fT.mpr ⟨m,d,h2⟩⟩
theorem Runs.len:∀ {L:List (Nat × Nat × Nat)} {lo hi:Nat},Runs r X L lo hi → lo + L.length ≤ hi
 | [],lo,hi,h => by cases h; exact Nat.le_refl _
 | q :: L,lo,hi,⟨a,b,c,d⟩ => by
  have:=d.len
  rw [List.length_cons]
  lia
theorem Runs.to:∀ {L:List (Nat × Nat × Nat)} {lo hi:Nat},Runs r X L lo hi → (∀ j,lo ≤ j → j < hi → Y[j]? = X[j]?) → Runs r Y L lo hi
 | [],lo,hi,h,_ => h
 | q :: L,lo,hi,⟨a,b,c,d⟩,e => by
  have l:=d.len
  refine ⟨a,b,fun i j h1 h2 h3 => ?_,d.to fun j h1 h2 => e j (by lia) h2⟩
  unfold K
  rw [e i h1 (by lia),e j (by lia) (by lia)]
  exact c i j h1 h2 h3
theorem Up.to {lo hi:Nat} (h:Up r X lo hi) (e:∀ j,lo ≤ j → Y[j]? = X[j]?):Up r Y lo hi:=fun i j a b c => by
 unfold K
 rw [e i a,e j (by lia)]
 exact h i j a b c
theorem Runs.pw:∀ {L L':List (Nat × Nat × Nat)} {lo hi:Nat},Runs r X L lo hi → L'.map (fun q => (q.1,q.2.1)) = L.map (fun q => (q.1,q.2.1)) → Runs r X L' lo hi
 | [],[],lo,hi,h,_ => h
 | [],_ :: _,_,_,_,e => by cases e
 | _ :: _,[],_,_,_,e => by cases e
 | q :: L,q' :: L',lo,hi,⟨a,b,c,d⟩,e => by
  injection e with e1 e2
  injection e1 with e3 e4
  exact ⟨e3.trans a,by rw [e4]; exact b,by rw [e4]; exact c,by rw [e4]; exact d.pw e2⟩
theorem tw {L:Array (Nat × Nat × Nat)} {i v:Nat}:(L.modify i fun q => (q.1,q.2.1,v)).toList.map (fun q => (q.1,q.2.1)) = L.toList.map (fun q => (q.1,q.2.1)):=by
 apply List.ext_getElem?
 intro j
 rw [List.getElem?_map,List.getElem?_map,Array.getElem?_toList,Array.getElem?_toList,Array.getElem?_modify]
 split
 ·rw [Option.map_map]; rfl
 ·rfl
theorem G1 {α:Type} {l:List α} {i:Nat} (h:i + 1 < l.length):∃ L1 a b L2,l = L1 ++ a :: b :: L2 ∧ i = L1.length:=by
 refine ⟨l.take i,l[i],l[i + 1],l.drop (i + 2),?_,by rw [List.length_take]; lia⟩
 have e1:l.drop i = l[i] :: l.drop (i + 1):=List.drop_eq_getElem_cons (by lia)
 have e2:l.drop (i + 1) = l[i + 1] :: l.drop (i + 2):=List.drop_eq_getElem_cons h
 rw [← e2,← e1,List.take_append_drop]
end
section
variable {prog:Program} {w:World} {A:Around} {E:Value → Shared → Prop} {s:Shared} {κ:SortKind} {S:Keyed → Prop} {r:Keyed → Nat} {pend:Array (Nat × Nat × Nat)} {mg:Nat} {X:Array Keyed}
theorem vd (C:wJ prog w A s κ S r) {i hi:Nat} {Q:Bool → SortSt → Prop} (hS:∀ x ∈ X,S x) (R:Runs r X pend.toList 0 hi) (hz:hi ≤ X.size) (Ei:i + 1 < pend.size)
  (h:∀ Y pd g,Y.toList.Perm X.toList → (∀ j,hi ≤ j → Y[j]? = X[j]?) → pd.size + 1 = pend.size → Runs r Y pd.toList 0 hi → Q true (SortSt.mk' κ Y pd g none)) :
  wpS (model prog w) A E s (mergeAt' i) Q (SortSt.mk' κ X pend mg none):=by
 obtain ⟨L1,⟨sa,na,p⟩,⟨sb,nb,q⟩,L2,e,ei⟩:=G1 (l:=pend.toList) (i:=i) (by rw [Array.length_toList]; exact Ei)
 rw [e] at R
 obtain ⟨m,R1,a1,a2,a3,b1,b2,b3,R2⟩:=fT.mp R
 dsimp only at a1 a2 a3 b1 b2 b3 R2
 subst a1
 subst b1
 have l1:=R1.len
 have l2:=R2.len
 refine zT C hS e ei a2 b2 (by lia) a3 b3 fun Y pd g y1 y2 y3 y4 => h Y pd g y1 (fun j hj => y2 j (.inr (by lia))) ?_ ?_
 ·rw [← Array.length_toList,← Array.length_toList,e,y4]
  simp only [List.length_append,List.length_cons]
  lia
 ·rw [y4]
  exact fT.mpr ⟨sa,R1.to fun j h1 h2 => y2 j (.inl h2),rfl,by show 0 < na + nb; lia,by show Up r Y sa (sa + (na + nb)); rw [← Nat.add_assoc]; exact y3,by
   show Runs r Y L2 (sa + (na + nb)) hi
   rw [← Nat.add_assoc]
   exact R2.to fun j h1 h2 => y2 j (.inr h1)⟩
theorem JU (C:wJ prog w A s κ S r) {Q:Unit → SortSt → Prop} (hS:∀ x ∈ X,S x) (hd:Di r X) (h2:2 ≤ X.size)
  (h:∀ Y pd g,Y.toList.Perm X.toList → Up r Y 0 X.size → Q () (SortSt.mk' κ Y pd g none)) :
  wpS (model prog w) A E s sortRuns' Q (SortSt.mk' κ X #[] mg none):=by
 unfold sortRuns'
 refine wpS_bind (wpS_get ?_)
 dsimp only
 refine wpS_bind (wpS_mono (wpS_forRange (I:=fun x z av => ∃ lo Y pd g,z = (none,lo) ∧ av = SortSt.mk' κ Y pd g none ∧ Y.toList.Perm X.toList ∧ Runs r Y pd.toList 0 lo ∧ x ≤ lo ∧ lo ≤ X.size)
  (Q:=fun z av => ∃ Y pd g,z = (none,X.size) ∧ av = SortSt.mk' κ Y pd g none ∧ Y.toList.Perm X.toList ∧ Runs r Y pd.toList 0 X.size) ?_ ?_ ⟨0,X,#[],mg,rfl,rfl,List.Perm.refl _,rfl,Nat.le_refl _,Nat.zero_le _⟩) ?_)
 ·rintro x z av _ hx ⟨lo,Y,pd,g,rfl,e,pY,R,l1,l2⟩
  rw [e]
  dsimp only
  have zY:Y.size = X.size:=by rw [← Array.length_toList,pY.length_eq,Array.length_toList]
  have sY:∀ x ∈ Y,S x:=fun x hx => hS x (Array.mem_toList_iff.mp (pY.mem_iff.mp (Array.mem_toList_iff.mpr hx)))
  refine bN (fun q => ?_) fun q => ?_
  ·have:lo = X.size:=by lia
   subst this
   exact wpS_pure ⟨Y,pd,g,rfl,rfl,pY,R⟩
  refine wpS_bind (G0 C (by lia) (by lia) sY (hd.to pY) fun n Y1 n1 n2 p1 b1 u1 => ?_)
  dsimp only
  have K4:∀ x ∈ Y1,S x:=fun x hx => sY x (Array.mem_toList_iff.mp (p1.mem_iff.mp (Array.mem_toList_iff.mpr hx)))
  have Qb:Y1.size = X.size:=by rw [← Array.length_toList,p1.length_eq,Array.length_toList,zY]
  have R1:Runs r Y1 pd.toList 0 lo:=R.to fun j _ h => b1 j h
  replace p1:=p1.trans pY
  refine bN (fun c => wpS_bind (wpS_lift (wpAny_rule ⟨rfl,wpS_bind (MR C n1 (by lia) K4 u1 fun Y2 p2 b2 u2 => ?_)⟩))) fun c => ?_
  have Qc:∀ x ∈ Y2,S x:=fun x hx => K4 x (Array.mem_toList_iff.mp (p2.mem_iff.mp (Array.mem_toList_iff.mpr hx)))
  replace p2:=p2.trans p1
  have R2:Runs r Y2 pd.toList 0 lo:=R1.to fun j _ h => b2 j h
  simp only [Bool.not_true,Bool.false_eq_true,if_false]
  have m0:0 < min (X.size - lo) (minRun' X.size X.size 0) ∧ lo + min (X.size - lo) (minRun' X.size X.size 0) ≤ X.size:=by
   replace c:n < minRun' X.size X.size 0:=c
   lia
  rotate_left
  obtain ⟨Y2,e2⟩:∃ Y2,Y2 = Y1:=⟨_,rfl⟩
  rw [← e2] at R1 u1 p1 K4 Qb ⊢
  have R2:=R1
  have u2:=u1
  have p2:=p1
  have Qc:=K4
  have m0:0 < n ∧ lo + n ≤ X.size:=by lia
  all_goals
   refine wpS_bind (wpS_get ?_)
   dsimp only
   cases hb:pd.back? with
   | none =>
    refine wpS_bind (wpS_modify (wpS_pure ⟨_,Y2,_,_,rfl,rfl,p2,?_,?_,m0.2⟩))
    ·show Runs r Y2 (Array.push _ _).toList 0 _
     rw [Array.toList_push]
     exact fT.mpr ⟨lo,R2,rfl,m0.1,u2,rfl⟩
    ·exact Nat.le_trans (Nat.succ_le_succ l1) (Nat.add_le_add_left m0.1 lo)
   | some q =>
    obtain ⟨s1,n1,v⟩:=q
    dsimp only
    refine wpS_bind (wpS_mono (wpS_forRange (I:=fun _ z av => z = (none,()) ∧ ∃ Y pd g,av = SortSt.mk' κ Y pd g none ∧ Y.toList.Perm X.toList ∧ (∀ j,lo ≤ j → Y[j]? = Y2[j]?) ∧ Runs r Y pd.toList 0 lo)
     (Q:=fun z av => z = (none,()) ∧ ∃ Y pd g,av = SortSt.mk' κ Y pd g none ∧ Y.toList.Perm X.toList ∧ (∀ j,lo ≤ j → Y[j]? = Y2[j]?) ∧ Runs r Y pd.toList 0 lo) ?_ ?_ ⟨rfl,Y2,pd,g,rfl,p2,fun _ _ => rfl,R2⟩) ?_)
    ·rintro x z av _ _ ⟨rfl,Y,pd,g,e,pY,bY,R⟩
     rw [e]
     have zY:Y.size = X.size:=by rw [← Array.length_toList,pY.length_eq,Array.length_toList]
     refine wpS_bind (wpS_get ?_)
     dsimp only
     by_cases c2:pd.size > 1
     ·rw [if_pos c2]
      obtain ⟨q,eq⟩:∃ q,pd[pd.size - 2]? = some q:=⟨_,getElem?_pos pd _ (by lia)⟩
      rw [eq]
      obtain ⟨a1,a2,a3⟩:=q
      dsimp only
      refine bN (fun _ => wpS_pure ⟨rfl,Y,pd,g,rfl,pY,bY,R⟩) fun _ => ?_
      refine wpS_bind (vd C (fun x hx => hS x (Array.mem_toList_iff.mp (pY.mem_iff.mp (Array.mem_toList_iff.mpr hx)))) R (by lia) (by lia) fun Y3 MS g3 y1 y2 y3 y4 => ?_)
      exact wpS_pure ⟨rfl,Y3,MS,g3,rfl,y1.trans pY,fun j hj => (y2 j hj).trans (bY j hj),y4⟩
     ·rw [if_neg c2]
      exact wpS_pure ⟨rfl,Y,pd,g,rfl,pY,bY,R⟩
    ·exact fun _ _ h => h
    ·rintro z av ⟨rfl,Y,pd,g,e,pY,bY,R⟩
     rw [e]
     dsimp only
     refine wpS_bind (wpS_modify (wpS_bind (wpS_modify (wpS_pure ⟨_,Y,_,_,rfl,rfl,pY,?_,?_,m0.2⟩))))
     ·show Runs r Y (Array.push _ _).toList 0 _
      rw [Array.toList_push]
      exact fT.mpr ⟨lo,R.pw tw,rfl,m0.1,u2.to bY,rfl⟩
     ·exact Nat.le_trans (Nat.succ_le_succ l1) (Nat.add_le_add_left m0.1 lo)
 ·rintro z av ⟨lo,Y,pd,g,rfl,e,pY,R,l1,l2⟩
  have:lo = X.size:=by lia
  subst this
  exact ⟨Y,pd,g,rfl,e,pY,R⟩
 ·rintro z av ⟨Y,pd,g,rfl,e,pY,R⟩
  rw [e]
  dsimp only
  refine wpS_bind (wpS_mono (wpS_forRange (I:=fun x z av => z = (none,()) ∧ ∃ Y pd g,av = SortSt.mk' κ Y pd g none ∧ Y.toList.Perm X.toList ∧ Runs r Y pd.toList 0 X.size ∧ (pd.size ≤ 1 ∨ pd.size + x ≤ X.size))
   (Q:=fun z av => z = (none,()) ∧ ∃ Y pd g,av = SortSt.mk' κ Y pd g none ∧ Y.toList.Perm X.toList ∧ Runs r Y pd.toList 0 X.size ∧ pd.size ≤ 1) ?_ ?_ ⟨rfl,Y,pd,g,rfl,pY,R,.inr (by have:=R.len; rw [Array.length_toList] at this; lia)⟩) ?_)
  ·rintro x z av _ hx ⟨rfl,Y,pd,g,e,pY,R,l⟩
   rw [e]
   have zY:Y.size = X.size:=by rw [← Array.length_toList,pY.length_eq,Array.length_toList]
   refine wpS_bind (wpS_get ?_)
   dsimp only
   refine bN (fun c => wpS_pure ⟨rfl,Y,pd,g,rfl,pY,R,c⟩) fun c => ?_
   refine wpS_bind (vd C (fun x hx => hS x (Array.mem_toList_iff.mp (pY.mem_iff.mp (Array.mem_toList_iff.mpr hx)))) R (by lia) ?_ fun Y3 MS g3 y1 y2 y3 y4 => ?_)
   ·have Qd:∀ {c:Prop} [Decidable c] {a b n:Nat},a + 1 < n → b + 1 < n → (if c then a else b) + 1 < n:=by
     intro c _ a b n h1 h2
     split <;> assumption
    exact Qd (by lia) (by lia)
   ·exact wpS_pure ⟨rfl,Y3,MS,g3,rfl,y1.trans pY,y4,by lia⟩
  ·rintro z av ⟨rfl,Y,pd,g,e,pY,R,l⟩
   exact ⟨rfl,Y,pd,g,e,pY,R,by lia⟩
  ·rintro z av ⟨rfl,Y,pd,g,e,pY,R,l⟩
   rw [e]
   refine wpS_pure (h Y pd g pY ?_)
   obtain ⟨q,eq⟩:∃ q,pd.toList = [q]:=by
    match z:pd.toList with
    | [] =>
     rw [z] at R
     replace R:0 = X.size:=R
     lia
    | [q] => exact ⟨q,rfl⟩
    | _ :: _ :: _ => rw [← Array.length_toList,z] at l; simp at l
   rw [eq] at R
   obtain ⟨_,_,u,e2⟩:=R
   replace e2:0 + q.2.1 = X.size:=e2
   rw [e2] at u
   exact u
end
end TS
namespace SO
open PySem PySem.W PyProof.Rows
noncomputable def gX (xs:List (List Int)):Prop:=xs.Pairwise fun a b => lexLt b a = true
section
variable {vs:List Value} {xs:List (List Int)}
theorem ve {α β:Type}:∀ {vs:List α} {xs:List β},vs.length = xs.length → vs.reverse.zip xs.reverse = (vs.zip xs).reverse
 | [],[],_ => rfl
 | v :: vs,x :: xs,h => by
  have h':vs.length = xs.length:=Nat.succ.inj h
  rw [List.reverse_cons,List.reverse_cons,List.zip_cons_cons,List.reverse_cons,List.zip_append (by rw [List.length_reverse,List.length_reverse,h']),ve h']
  rfl
noncomputable def OE:Value → Int
 | .int n _ => n
 | _ => 0
noncomputable def cF (h:Heap):Value → List Int
 | .ref a => match h.get? a with
  | some o => match o.data with
   | .seq aA _ => aA.toList.map OE
   | _ => []
  | none => []
 | _ => []
theorem G4 {us:List Value} {ns:List Int} (h:IntsAre us ns):us.map OE = ns:=by
 induction h with
 | nil => rfl
 | cons n t _ ih => rw [List.map_cons,ih]; rfl
theorem mR {h:Heap} {v:Value} {k:List Int} (t:iz h v k):cF h v = k:=by
 obtain ⟨_,a,o,aA,n,rfl,ho,_,hd,hi⟩:=t
 unfold cF
 dsimp only
 rw [ho]
 dsimp only
 rw [hd]
 exact G4 hi
theorem CQ {h:Heap} {vs:List Value} {xs:List (List Int)} (t:bM h vs xs):vs.map (cF h) = xs:=by
 induction t with
 | nil => rfl
 | cons a _ ih => rw [List.map_cons,ih,mR a]
noncomputable def rk (xs:List (List Int)) (k:List Int):Nat:=xs.countP fun z => lexLt z k
theorem oP {α:Type} {p q:α → Bool}:∀ {l:List α} {x:α},x ∈ l → (∀ z,p z = true → q z = true) → q x = true → p x = false → l.countP p < l.countP q
 | y :: l,x,m,h,hq,hp => by
  have le:l.countP p ≤ l.countP q:=List.countP_mono_left fun z _ => h z
  rcases List.mem_cons.mp m with e | m
  ·subst e
   rw [List.countP_cons_of_neg (by rw [hp]; exact Bool.false_ne_true),List.countP_cons_of_pos hq]
   lia
  ·have ih:=oP m h hq hp
   by_cases c:p y = true
   ·rw [List.countP_cons_of_pos c,List.countP_cons_of_pos (h y c)]
    lia
   ·rw [List.countP_cons_of_neg c]
    by_cases d:q y = true
    ·rw [List.countP_cons_of_pos d]; lia
    ·rw [List.countP_cons_of_neg d]; exact ih
theorem vf {xs:List (List Int)} {a b:List Int} (ha:a ∈ xs) (h:lexLt a b = true):rk xs a < rk xs b :=
 oP ha (fun z hz => mP hz h) h (h_ a)
theorem El {xs:List (List Int)} {a b:List Int} (ha:a ∈ xs) (hb:b ∈ xs):decide (rk xs a < rk xs b) = lexLt a b:=by
 cases z:lexLt a b with
 | true => exact decide_eq_true (vf ha z)
 | false =>
  refine decide_eq_false ?_
  by_cases e:a = b
  ·rw [e]; exact Nat.lt_irrefl _
  ·have:=vf hb (fS e z)
   lia
theorem zU {xs:List (List Int)} (nd:xs.Nodup):(xs.map (rk xs)).Nodup:=by
 refine List.pairwise_map.mpr (List.Pairwise.imp_of_mem (fun {a b} ha hb ne => ?_) nd)
 intro e
 cases z:lexLt a b with
 | true => have:=vf ha z; lia
 | false => have:=vf hb (fS ne z); lia
end
section
variable {prog:Program} {w:World} {A:Around} {E:Value → Shared → Prop} {s:Shared} {vs:List Value} {xs:List (List Int)}
theorem zV {a:Addr} {n:Nat} {P:PySem.Fin → Shared → Prop} (ho:s.heap.get? a = some (seqObj "list" vs.toArray n)) (t:bM s.heap vs xs) (nd:xs.Nodup) (hz:vs.length ≤ sizeLine)
  (h:∀ zs:List (Value × List Int),zs.Perm (vs.zip xs) → gX (zs.map (·.2)) → P (.done (.ret .none)) { s with heap:=sortedHeap s.heap a vs (zs.map (·.1)).toArray }) :
  wpAny (model prog w) A (Builtin.«list.sort» ⟨[.ref a],[(Str.ofString "reverse",.bool true)]⟩) P E s:=by
 rw [list_sort_rev]
 have ha:a < s.heap.objs.size:=Heap.lt_size ho
 have small:vs.toArray.size ≤ sizeLine:=by rw [List.size_toArray]; exact hz
 obtain ⟨h1,e1⟩:∃ h1,h1 = s.heap.update a (Obj.mapSeq fun _ => (#[]:Array Value)):=⟨_,rfl⟩
 obtain ⟨c1,OF⟩:∃ c,h1.get? a = some (seqObj "list" #[] c):=⟨_,by rw [e1]; exact get?_update_seq ho fun _ => #[]⟩
 obtain ⟨h6,e6⟩:∃ h6,h6 = (h1.push (seqObj "tuple" vs.toArray 0)).push (seqObj "list" #[] 0):=⟨_,rfl⟩
 have K5:h6.get? a = some (seqObj "list" #[] c1):=by rw [e6]; exact Heap.get?_push_of_some _ (Heap.get?_push_of_some _ OF)
 have t6:bM h6 vs xs:=t.to fun b o hb hc => by
  rw [e6,e1]
  refine Heap.get?_push_of_some _ (Heap.get?_push_of_some _ ?_)
  have ne:a ≠ b:=fun z => by
   rw [← z,ho] at hb
   cases hb
   exact absurd (Value.type.inj hc) (by decide)
  exact (Heap.get?_update_other _ _ ne).trans hb
 refine wpAny_bind (listItems_at ho rfl (wpAny_bind (listUpdate_at ho rfl ?_ small (Nat.zero_le _))))
 rw [← e1]
 refine wpAny_bind (seqEpoch_at OF rfl (wpAny_bind (wpAny_newTuple ?_ (by show vs.length ≤ _; exact hz))))
 refine wpAny_bind (wpAny_newList ?_ (Nat.zero_le _)); refine wpAny_holding ?_
 show wpAny (model prog w) A _ P E { s with heap:=(h1.push (seqObj "tuple" vs.toArray 0)).push (seqObj "list" #[] 0) }
 rw [← e6]
 have ends:∀ zs:List (Value × List Int),zs.Perm (vs.zip xs) → gX (zs.map (·.2)) → P (.done (.ret .none)) { s with heap:=h6.update a (Obj.mapSeq fun _ => (zs.map (·.1)).toArray) }:=by
  intro zs z1 z2
  have:=h zs z1 z2
  unfold sortedHeap at this
  rw [← e1,← e6] at this
  exact this
 dsimp only
 rw [if_pos rfl]
 refine wpAny_bind (wpAny_rule ?_)
 by_cases h2:vs.toArray.size < 2
 ·rw [if_pos h2,if_pos h2]
  refine wpAny_bind (wpAny_pure ?_); rw [StateT.run_pure]; refine wpAny_bind (wpAny_pure ?_)
  dsimp only
  have Qe:(vs.zip xs).length < 2:=by rw [List.length_zip,← t.length,Nat.min_self]; rw [List.size_toArray] at h2; exact h2
  have out:(((vs.toArray.zip vs.toArray).reverse.map (·.2)).reverse) = ((vs.zip xs).map (·.1)).toArray:=by
   rw [Array.map_reverse,Array.reverse_reverse]
   apply Array.toList_inj.mp
   rw [Array.toList_map,Array.toList_zip]
   show List.map _ (vs.zip vs) = List.map _ (vs.zip xs)
   rw [List.map_snd_zip (Nat.le_refl _),List.map_fst_zip (Nat.le_of_eq t.length)]
  refine wpAny_bind (seqEpoch_at K5 rfl (wpAny_bind (listUpdate_at K5 rfl ?_ (Nat.zero_le _) ?_)))
  ·show wpAny _ _ _ _ _ { s with heap:=h6.update a (Obj.mapSeq fun _ => (((vs.toArray.zip vs.toArray).reverse.map (·.2)).reverse)) }
   rw [out]
   simp only [bne_self_eq_false,Bool.false_eq_true,if_false]
   refine wpAny_pure (ends _ (List.Perm.refl _) ?_)
   unfold gX
   match (vs.zip xs),Qe with
   | [],_ => exact .nil
   | [_],_ => exact List.pairwise_singleton _ _
  ·show (((vs.toArray.zip vs.toArray).reverse.map (·.2)).reverse).size ≤ _
   rw [out,List.size_toArray,List.length_map]; lia
 ·rw [if_neg h2,if_neg h2]
  have l2:2 ≤ vs.length:=by rw [List.size_toArray] at h2; lia
  obtain ⟨rs,er⟩:∃ rs,rs = vs.reverse:=⟨_,rfl⟩
  obtain ⟨ks,ek⟩:∃ ks,ks = xs.reverse:=⟨_,rfl⟩
  have MU:bM h6 rs ks:=by rw [er,ek]; exact t6.rev
  have lr:rs.length = vs.length:=by rw [er,List.length_reverse]
  have lk:rs.length = ks.length:=MU.length
  have Qf:ks.Nodup:=by rw [ek]; exact (List.reverse_perm xs).nodup_iff.mpr nd
  refine wpAny_bind (CO t6 (by lia) ?_)
  have pr:(vs.toArray.zip vs.toArray).reverse = rs.toArray.zip rs.toArray:=by
   have:=kat_pairs true (ks:=vs) (vs:=vs) rfl
   rw [if_pos rfl] at this
   rw [this,er]; rfl
  rw [pr]
  obtain ⟨X,eX⟩:∃ X,X = rs.toArray.zip rs.toArray:=⟨_,rfl⟩
  rw [← eX]
  have xl:X.toList = rs.map fun v => (v,v):=by
   rw [eX,Array.toList_zip]
   show rs.zip rs = _
   rw [List.zip_eq_zipWith,List.zipWith_self]
  have kk:rs.map (cF h6) = ks:=CQ MU
  have sX:∀ x ∈ X,∃ k,iz h6 x.1 k ∧ k ∈ ks:=fun x hx => by
   rw [← Array.mem_toList_iff,xl] at hx
   obtain ⟨v,hv,rfl⟩:=List.mem_map.mp hx
   obtain ⟨i,hi⟩:=List.getElem?_of_mem hv
   have li:i < rs.length:=(List.getElem?_eq_some_iff.mp hi).1
   have:=MU.at_ i li
   rw [List.getD_eq_getElem?_getD,hi,List.getD_eq_getElem?_getD,List.getElem?_eq_getElem (by lia)] at this
   exact ⟨_,this,List.getElem_mem _⟩
  have C:TS.wJ prog w A { s with heap:=h6 } (tuples' true) (fun x => ∃ k,iz h6 x.1 k ∧ k ∈ ks) fun x => rk ks (cF h6 x.1):=by
   rintro x y Q ⟨k,tk,mk⟩ ⟨l,tl,ml⟩ q
   replace q:Q (decide (rk ks (cF h6 x.1) < rk ks (cF h6 y.1))) { s with heap:=h6 }:=q
   rw [mR tk,mR tl,El mk ml] at q
   exact JO tk tl q
  have dX:TS.Di (fun x => rk ks (cF h6 x.1)) X:=by
   unfold TS.Di
   rw [xl,List.map_map]
   have:rs.map ((fun x:Keyed => rk ks (cF h6 x.1)) ∘ fun v => (v,v)) = ks.map (rk ks):=by
    rw [← kk,List.map_map]; rfl
   rw [this]
   exact zU Qf
  have zX:X.size = rs.length:=by rw [← Array.length_toList,xl,List.length_map]
  rw [if_pos (rfl:true = true)]
  refine wpAny_bind (wpAny_mono (TS.JU (Q:=fun _ av => ∃ Y pd g,av = SortSt.mk' (tuples' true) Y pd g none ∧ Y.toList.Perm X.toList ∧ TS.Up (fun x => rk ks (cF h6 x.1)) Y 0 X.size) C sX dX (by lia) fun Y pd g y1 y2 => ⟨Y,pd,g,rfl,y1,y2⟩) ?_ fun _ _ e => e)
  rintro ⟨⟨⟩,av⟩ s' ⟨rfl,Y,pd,g,rfl,y1,y2⟩
  dsimp only at y1 y2 ⊢
  have zY:Y.size = X.size:=by rw [← Array.length_toList,y1.length_eq,Array.length_toList]
  obtain ⟨zs,ez⟩:∃ zs:List (Value × List Int),zs = (Y.toList.map fun x => (x.2,cF h6 x.1)).reverse:=⟨_,rfl⟩
  have zp:zs.Perm (vs.zip xs):=by
   rw [ez]
   refine (List.reverse_perm _).trans ((y1.map _).trans ?_)
   rw [xl,List.map_map]
   have:rs.map ((fun x:Keyed => (x.2,cF h6 x.1)) ∘ fun v => (v,v)) = rs.zip ks:=by
    rw [← kk,List.zip_map_right,List.zip_eq_zipWith,List.zipWith_self,List.map_map]; rfl
   rw [this,er,ek,ve t.length]
   exact List.reverse_perm _
  have zf:gX (zs.map (·.2)):=by
   unfold gX
   rw [ez,List.map_reverse,List.pairwise_reverse,List.map_map,List.pairwise_map]
   have u:=y2.mQ
   rw [← zY,TS.dk] at u
   have d:=List.pairwise_map.mp (dX.to y1)
   refine List.Pairwise.imp_of_mem (fun {a b} ha hb q => ?_) (List.Pairwise.and u d)
   obtain ⟨k,tk,mk⟩:=sX a (Array.mem_toList_iff.mp (y1.mem_iff.mp ha))
   obtain ⟨l,tl,ml⟩:=sX b (Array.mem_toList_iff.mp (y1.mem_iff.mp hb))
   have q1:rk ks (cF h6 a.1) ≤ rk ks (cF h6 b.1):=q.1
   have q2:rk ks (cF h6 a.1) ≠ rk ks (cF h6 b.1):=q.2
   show lexLt (cF h6 a.1) (cF h6 b.1) = true
   rw [mR tk,mR tl] at q1 q2 ⊢
   rw [← El mk ml]
   exact decide_eq_true (by lia)
  have out:(Y.map (·.2)).reverse = (zs.map (·.1)).toArray:=by
   apply Array.toList_inj.mp
   rw [Array.toList_reverse,Array.toList_map,ez,List.map_reverse,List.map_map]
   rfl
  have lz:zs.length ≤ sizeLine:=by
   have:=zp.length_eq
   rw [List.length_zip,← t.length,Nat.min_self] at this
   lia
  refine wpAny_bind (seqEpoch_at K5 rfl (wpAny_bind (listUpdate_at K5 rfl ?_ (Nat.zero_le _) ?_)))
  ·rw [if_pos rfl,out]
   simp only [bne_self_eq_false,Bool.false_eq_true,if_false]
   exact wpAny_pure (ends zs zp zf)
  ·rw [if_pos rfl,out,List.size_toArray,List.length_map]; exact Nat.le_succ_of_le lz
theorem tD {d:Addr} {es:Array DictEntry} {ep:Nat} {Q:Value → Shared → Prop} (hh:A.handled = none) (lo:(d == sysModules) = false) (x:iT s.heap d es ep) (t:bM s.heap (es.toList.map (·.key)) xs) (nd:xs.Nodup) (hz:es.size ≤ sizeLine)
  (h:∀ (h':Heap) (tk:Nat) (l:Addr) (c:Nat) (zs:List (Value × List Int)),(∀ b o,s.heap.get? b = some o → h'.get? b = some o) → s.heap.objs.size ≤ l → zs.Perm ((es.toList.map (·.key)).zip xs) → gX (zs.map (·.2)) →
   h'.get? l = some (seqObj "list" (zs.map (·.1)).toArray c) → Q (.ref l) { s with heap:=h',toks:=tk }) :
  wpAny (model prog w) A (call (.builtin "sorted") [.ref d] [(Str.ofString "reverse",.bool true)]) Q E s:=by
 refine call_function_entry_kw kind_sorted plain_sorted entry_sorted (args_sorted_rev _ _) ?_
 unfold Builtin.«sorted»; refine wpAny_bind (m:=checkCount "sorted" 1 1 _) (wpAny_pure ?_)
 have hn:es.size ≤ sizeLine:=hz
 obtain ⟨vs,ev⟩:∃ vs,vs = es.toList.map (·.key):=⟨_,rfl⟩
 have lv:vs.length = es.size:=by rw [ev,List.length_map,Array.length_toList]
 refine wpAny_bind (qZ hh lo x hn fun h1 tk k0 k1 => ?_)
 rw [← ev] at t h ⊢
 refine wpAny_bind (wpAny_newList ?_ (by show vs.length ≤ _; lia))
 have gl:(h1.push (seqObj "list" vs.toArray 0)).get? h1.objs.size = some (seqObj "list" vs.toArray 0):=Heap.get?_push_size _ rfl
 show wpAny _ _ _ _ _ { s with heap:=h1.push (seqObj "list" vs.toArray 0),toks:=tk }
 refine wpAny_bind (wpAny_holding (wpAny_call_entry_kw slot_list_sort ⟨_,gl,rfl⟩ entry_list_sort (zV gl (t.to fun b o e _ => Heap.get?_push_of_some _ (k1 b o e)) nd (by lia) fun zs z1 z2 => ⟨_,rfl,?_⟩) (args_list_sort_rev _ _)))
 obtain ⟨c,gc⟩:∃ c,(sortedHeap (h1.push (seqObj "list" vs.toArray 0)) h1.objs.size vs (zs.map (·.1)).toArray).get? h1.objs.size = some (seqObj "list" (zs.map (·.1)).toArray c) :=
  ⟨_,by unfold sortedHeap; exact get?_update_seq (Heap.get?_push_of_some _ (Heap.get?_push_of_some _ (get?_update_seq gl fun _ => #[]))) fun _ => (zs.map (·.1)).toArray⟩
 refine wpAny_pure ⟨_,rfl,h _ tk h1.objs.size c zs (fun b o e => ?_) ?_ z1 z2 gc⟩
 ·have e1:=k1 b o e
  have ne:h1.objs.size ≠ b:=Nat.ne_of_gt (Heap.lt_size e1)
  unfold sortedHeap
  refine (Heap.get?_update_other _ _ ne).trans (Heap.get?_push_of_some _ (Heap.get?_push_of_some _ ((Heap.get?_update_other _ _ ne).trans (Heap.get?_push_of_some _ e1))))
 ·exact Nat.le_of_lt k0
end
end SO
namespace L2
open PySem PySem.Spec PyProof.Rows
noncomputable def zW (X:Cx) (f:Value) (ks:List Str) (r:List V → List V → Hp → VK → Prop):Prop :=
 ∀ (ae:List (Addr × Obj)) (s:Shared) (σ:St) (H:Hp) (xs zs:List V) (us ws:List Value) (Q:VK),aG X ae σ H s → a7 xs us → a7 zs ws → r xs zs H Q →
  wpAny (model X.prog X.w) X.A (call f us (ks.zip ws)) (EP X ae σ Q) X.xe s
noncomputable def Qg (r:List V → List V → Hp → VK → Prop) (t tk:TA):TE:=fun σ H Q => t σ H fun vs H1 => tk σ H1 fun zs H2 => r vs zs H2 Q
section
variable {X:Cx} {id:String} {ks:List Str} {r:List V → List V → Hp → VK → Prop} {x:Str} {p pos:Pos} {e:Expr} {es:List Expr} {yb:List Keyword} {t tk:TA}
theorem wM (hc:zW X (.builtin id) ks r) (hg:Gl X x) (hm:X.mg x = none) (hv:bootBuiltins x = some (.builtin id)) (ha:PA X (e :: es) t) (Qh:PK X yb tk)
  (Qi:(backToKw pos (keywordEach yb X.env)).filterMap (·.1) = ks:=by rfl) (hn:x ≠ "__name__":=by decide) (kK:(x == ("__debug__":Str)) = false:=by decide)
  (he:backTo pos (starEach (e :: es) X.env) = (false,eval e X.env) :: backTo pos (starEach es X.env):=by rfl) (hV:(backTo pos (starEach (e :: es) X.env)).any (·.1) = false:=by rfl)
  (Fo:(backToKw pos (keywordEach yb X.env)).all (·.1.isSome) = true:=by rfl) (LI:(backToKw pos (keywordEach yb X.env)).any (·.1.isNone) = false:=by rfl):PE X (.Call (.Name x p) (e :: es) yb pos) (Qg r t tk):=by
 intro ae s σ H Q I h
 refine wpAny_Call_Name_kw (gH I hg hm hv ?_ hn kK)
 refine callWith_kw (bF (ha pos ae s σ H _ I h) fun us s1 q1 => ?_) he hV Fo LI
 obtain ⟨vs,H1,I1,r1,q1⟩:=q1
 refine bF (Qh pos ae s1 σ H1 _ I1 q1) fun ws s2 q2 => ?_
 obtain ⟨zs,H2,I2,r2,q2⟩:=q2
 rw [Qi]
 exact hc ae s2 σ H2 vs zs us ws Q I2 r1 r2 q2
end
noncomputable def iK (k:List Int):List cI:=k.map Sum.inl
theorem MV (k:List Int):(iK k).map kV = k.map V.int:=by
 unfold iK
 rw [List.map_map]
 rfl
theorem zZ {a b:List Int} (h:iK a = iK b):a = b:=by
 induction a generalizing b with
 | nil => cases b with
  | nil => rfl
  | cons => cases h
 | cons x a ih => cases b with
  | nil => cases h
  | cons y b =>
   injection h with h1 h2
   injection h1 with h1
   rw [h1,ih h2]
noncomputable def G5 (H:Hp) (v:V) (k:List Int):Prop:=∃ a,v = .ref a ∧ H a = some (.tup (k.map V.int))
noncomputable def z5:List V → List V → Hp → VK → Prop:=fun xs zs H Q => ∃ (d:Addr) (aH:List (List cI × V)) (ks:List (List Int)),xs = [.ref d] ∧ zs = [.bl true] ∧ H d = some (.dT aH) ∧ aH.map (·.1) = ks.map iK ∧ ks.length ≤ sizeLine ∧ (∀ k ∈ ks,k ≠ []) ∧
 ∀ (l:Addr) (vs:List V) (outs:List (List Int)),H l = none → outs.Perm ks → SO.gX outs → Paired (G5 H) vs outs → Q (.ref l) (upd H l (.lst vs))
theorem z6 {xs:List Int} {us:List Value} (h:a7 (xs.map V.int) us):IntsAre us xs:=by
 induction xs generalizing us with
 | nil => cases h; exact .nil
 | cons x xs ih =>
  cases h with
  | cons a b =>
   obtain ⟨t,rfl⟩:=a
   exact .cons x t (ih b)
section
variable {X:Cx}
theorem rf (hc:X.calm = true):zW X (.builtin "sorted") ["reverse"] z5:=by
 intro ae s σ H xs zs us ws Q I rx rz h
 obtain ⟨d,aH,ks,rfl,rfl,hd,hk,QR,MJ,q⟩:=h
 obtain ⟨u,rfl,r1⟩:=vals1 rx
 obtain ⟨z,rfl,r2⟩:=vals1 rz
 cases r1
 cases r2
 obtain ⟨_,lo,xs,pr,o,es,ep,h1,h2,h3,h4,h5⟩:=(show bU X.prog X.w H s.heap d (.dT aH) from I.bI d _ hd)
 -- A? OG values and Io Qj hold
 have key:∀ {aH:List (List cI × V)} {xs:List (List cI × Addr × Value)} {ks:List (List Int)},KT H aH xs → aH.map (·.1) = ks.map iK → (∀ k ∈ ks,k ≠ []) →
   SO.bM s.heap (xs.map fun x => Value.ref x.2.1) ks ∧ xs.map (·.1) = ks.map iK ∧ ∀ z ∈ (xs.map fun x => Value.ref x.2.1).zip ks,∃ a,z.1 = .ref a ∧ H a = some (.tup (z.2.map V.int)):=by
  intro aH xs ks pr
  induction pr generalizing ks with
  | nil =>
   intro e _
   cases ks with
   | nil => exact ⟨.nil,rfl,fun z m => by cases m⟩
   | cons => cases e
  | @cons p x ps ys a _ ih =>
   intro e ne
   cases ks with
   | nil => cases e
   | cons k ks =>
    injection e with e1 e2
    replace e1:p.1 = iK k:=e1
    obtain ⟨i1,i2,i3⟩:=ih e2 fun k m => ne k (List.mem_cons_of_mem _ m)
    have ht:H x.2.1 = some (.tup (k.map V.int)):=by rw [← MV,← e1]; exact a.2.1
    obtain ⟨_,aA,rv,o,g1,g2,n,g3⟩:=(show bU X.prog X.w H s.heap x.2.1 (.tup (k.map V.int)) from I.bI _ _ ht)
    refine ⟨.cons ⟨ne k List.mem_cons_self,x.2.1,o,aA.toArray,n,rfl,g1,g2,g3,z6 rv⟩ i1,?_,fun z m => ?_⟩
    ·rw [List.map_cons,List.map_cons,i2,← a.1,e1]
    ·rcases List.mem_cons.mp m with m | m
     ·rw [m]; exact ⟨_,rfl,ht⟩
     ·exact i3 z m
 obtain ⟨t,ek,hz⟩:=key pr hk MJ
 have nd:ks.Nodup:=by
  rw [ek] at h5
  exact List.Pairwise.of_map iK (fun a b z e => z (by rw [e])) h5
 have ev:es.toList.map (·.key) = xs.map fun x => Value.ref x.2.1:=by rw [h4,List.map_map]; rfl
 have lv:es.size = ks.length:=by
  have:=congrArg List.length h4
  rw [Array.length_toList,List.length_map] at this
  have l2:=t.length
  rw [List.length_map] at l2
  lia
 have x:SO.iT s.heap d es ep:=⟨o,h1,h2.1,h3⟩
 refine SO.tD (I.ok.hd hc) lo x (by rw [ev]; exact t) nd (by lia) fun h' tk l c zs kp hl z1 z2 g => ?_
 rw [ev] at z1
 have all:∀ z ∈ zs,∃ a,z.1 = .ref a ∧ H a = some (.tup (z.2.map V.int)):=fun z m => hz z (z1.mem_iff.mp m)
 have mk:∀ {zs:List (Value × List Int)},(∀ z ∈ zs,∃ a,z.1 = .ref a ∧ H a = some (.tup (z.2.map V.int))) → ∃ vs,a7 vs (zs.map (·.1)) ∧ Paired (G5 H) vs (zs.map (·.2)):=by
  intro zs
  induction zs with
  | nil => intro _; exact ⟨[],.nil,.nil⟩
  | cons z zs ih =>
   intro al
   obtain ⟨vs,v1,v2⟩:=ih fun y m => al y (List.mem_cons_of_mem _ m)
   obtain ⟨a,e1,e2⟩:=al z List.mem_cons_self
   exact ⟨.ref a :: vs,.cons e1 v1,.cons ⟨a,rfl,e2⟩ v2⟩
 obtain ⟨vs,v1,v2⟩:=mk all
 have op:(zs.map (·.2)).Perm ks:=by
  have:=z1.map (·.2)
  rwa [List.map_snd_zip (Nat.le_of_eq t.length.symm)] at this
 have lz:vs.length ≤ sizeLine:=by
  have e1:=v1.length
  have e2:=op.length_eq
  rw [List.length_map] at e1 e2
  lia
 exact ⟨.ref l,_,I.laid (t':=tk) kp hl (show bU X.prog X.w _ h' _ (.lst vs) from ⟨lz,_,c,v1,g⟩),rfl,q l vs _ (I.bI.fresh hl) op z2 v2⟩
end
end L2
namespace SO
open PySem PySem.W PyProof.Rows
end SO
namespace SO
open PySem PySem.W PyProof.Rows
end SO
namespace MN
open PySem PySem.Spec L2
open PyProof.Rows hiding St kindOf
noncomputable def rh:List cI → Option (List Int)
 | [] => some []
 | .inl i :: r => (rh r).map (i :: ·)
 | .inr _ :: _ => none
noncomputable def kF:List (List cI) → Option (List (List Int))
 | [] => some []
 | k :: r => match rh k,kF r with
  | some a,some b => some (a :: b)
  | _,_ => none
theorem CS:∀ {k:List cI} {a:List Int},rh k = some a → k = iK a:=by
 intro k
 induction k with
 | nil => intro a h; cases h; rfl
 | cons x r ih =>
  intro a h
  cases x with
  | inl i =>
   replace h:(rh r).map (i :: ·) = some a:=h
   cases z:rh r with
   | none => rw [z] at h; cases h
   | some b =>
    rw [z] at h; cases h
    rw [ih z]; rfl
  | inr x => cases h
theorem z7:∀ {l:List (List cI)} {ks:List (List Int)},kF l = some ks → l = ks.map iK:=by
 intro l
 induction l with
 | nil => intro ks h; cases h; rfl
 | cons k r ih =>
  intro ks h
  unfold kF at h
  cases z1:rh k with
  | none => rw [z1] at h; cases h
  | some a =>
   cases z2:kF r with
   | none => rw [z1,z2] at h; cases h
   | some b =>
    rw [z1,z2] at h; cases h
    rw [CS z1,ih z2]; rfl
theorem CT (a:List Int):rh (iK a) = some a:=by
 induction a with
 | nil => rfl
 | cons x a ih => show (rh (iK a)).map (x :: ·) = _; rw [ih]; rfl
theorem z8 (ks:List (List Int)):kF (ks.map iK) = some ks:=by
 induction ks with
 | nil => rfl
 | cons k ks ih => rw [List.map_cons]; unfold kF; rw [CT,ih]
noncomputable def HS (a b:List Int):Bool:=!(SO.lexLt a b)
noncomputable def mQ (ks:List (List Int)):List (List Int):=ks.mergeSort HS
theorem jl (ks:List (List Int)):(mQ ks).Perm ks:=List.mergeSort_perm ks HS
theorem wN {ks:List (List Int)} (nd:ks.Nodup):SO.gX (mQ ks):=by
 have h1:(mQ ks).Pairwise fun a b => HS a b = true:=by
  refine List.pairwise_mergeSort (fun a b c h1 h2 => ?_) (fun a b => ?_) ks
  ·unfold HS at h1 h2 ⊢
   rw [Bool.not_eq_true'] at h1 h2 ⊢
   by_cases e1:a = b
   ·rw [e1]; exact h2
   ·by_cases e2:b = c
    ·rw [← e2]; exact h1
    ·exact SO.iU (SO.mP (SO.fS e2 h2) (SO.fS e1 h1))
  ·unfold HS
   cases z:SO.lexLt a b with
   | false => rfl
   | true => rw [SO.iU z]; rfl
 have h2:(mQ ks).Nodup:=(jl ks).nodup_iff.mpr nd
 refine List.Pairwise.imp (fun {a b} h => ?_) (h1.and h2)
 have z:SO.lexLt a b = false:=by
  have:=h.1
  unfold HS at this
  rwa [Bool.not_eq_true'] at this
 exact SO.fS h.2 z
theorem rj {ks:List (List Int)} (h:SO.gX ks):ks.Nodup:=List.Pairwise.imp (fun {a b} h e => by rw [e,SO.h_] at h; cases h) h
theorem z9 {a b:List (List Int)} (p:a.Perm b) (fa:SO.gX a) (fb:SO.gX b):a = b :=
 List.Perm.eq_of_pairwise (fun x y _ _ h1 h2 => by rw [SO.iU h1] at h2; cases h2) fa fb p
noncomputable def b7 (k:List Int):ao:=.tup (k.map .int)
noncomputable def z_ (d:ao) (st:ag):bW ao:=match d with
 | .loc n => match st[n]? with
  | some (.dT aH) => match kF (aH.map (·.1)) with
   | some ks => if ks.length ≤ sizeLine ∧ ks.all (fun k => !k.isEmpty) = true then .ok (.loc st.length) (st ++ [.lst ((mQ ks).map b7)]) else .bad
   | none => .bad
  | _ => .bad
 | _ => .bad
noncomputable def mS (m:ME):ME:=fun μ st => (m μ st).bind z_
theorem CU {n:Nat} {st:ag} {aH:List (List cI × ao)} {ks:List (List Int)} (h1:st[n]? = some (.dT aH)) (h2:aH.map (·.1) = ks.map iK) (h3:ks.length ≤ sizeLine) (h4:∀ k ∈ ks,k ≠ []) :
  z_ (.loc n) st = .ok (.loc st.length) (st ++ [.lst ((mQ ks).map b7)]):=by
 unfold z_
 dsimp only
 rw [h1]
 dsimp only
 rw [h2,z8]
 dsimp only
 rw [if_pos ⟨h3,List.all_eq_true.mpr fun k m => by
  cases k with
  | nil => exact absurd rfl (h4 _ m)
  | cons => rfl⟩]
theorem z! {K:PySem.W.Frag} {ρ:List Addr} {H:Hp} {vs:List V} {ks:List (List Int)} (p:Paired (G5 H) vs ks):aP K ρ H (ks.map b7) vs:=by
 induction p with
 | nil => exact aP.nil
 | cons a _ ih =>
  obtain ⟨b,rfl,hb⟩:=a
  exact aP.cons (Rl.l? hb (aP.ints _)) ih
section
variable {X:Cx} {E:XK} {x:Str} {p pos cp kp:Pos} {e:Expr} {md:ME} {j:Nat}
theorem z? (hc:X.calm = true) (hg:Gl X x) (hm:X.mg x = none) (hv:bootBuiltins x = some (.builtin "sorted")) (ha:PE X e (tE X E md)) (hn:x ≠ "__name__":=by decide) (kK:(x == ("__debug__":Str)) = false:=by decide)
  (he:starEach [e] X.env = (false,eval e X.env) :: starEach [] X.env:=by rfl):PE X (.Call (.Name x p) [e] [⟨some "reverse",.Constant (.bool true) j cp,kp⟩] pos) (tE X E (mS md)):=by
 refine PE.imp (wM (rf hc) hg hm hv (f_ ha lV he) (BB DV Fb) (by rfl) hn kK (by rw [he]; rfl) (by rw [he]; rfl) (by rfl) (by rfl)) ?_
 rintro σ H Q ⟨μ,ρ,st,rs,sr,h⟩
 refine go μ ρ st rs sr h fun d st1 ρ1 H1 v e1 bw r1 h1 => ?_
 show z5 [v] [.bl true] H1 Q
 cases d with
 | loc n =>
  obtain ⟨a,rfl,ha⟩:=r1.df
  unfold z_ at h1
  dsimp only at h1
  cases hn:st1[n]? with
  | none => rw [hn] at h1; exact h1.elim
  | some c =>
   rw [hn] at h1
   cases c with
   | dT aH =>
    obtain ⟨gf,hd,pr⟩:=bw.cell n _ a hn ha
    dsimp only at h1
    cases hk:kF (aH.map (·.1)) with
    | none => rw [hk] at h1; exact h1.elim
    | some ks =>
     rw [hk] at h1
     dsimp only at h1
     by_cases hz:ks.length ≤ sizeLine ∧ ks.all (fun k => !k.isEmpty) = true
     ·rw [if_pos hz] at h1
      refine ⟨a,gf,ks,rfl,rfl,hd,by rw [← pr.1]; exact z7 hk,hz.1,fun k m z => ?_,fun l vs outs hl op fo pv => ?_⟩
      ·have:=List.all_eq_true.mp hz.2 k m
       rw [z] at this; cases this
      ·have nd:ks.Nodup:=op.nodup_iff.mp (rj fo)
       have eo:outs = mQ ks:=z9 (op.trans (jl ks).symm) fo (wN nd)
       rw [eo] at pv
       obtain ⟨k1,k2,k3⟩:=eQ bw (z! pv) hl
       exact h1 _ _ _ k1 k2 k3
     ·rw [if_neg hz] at h1; exact h1.elim
   | _ => exact h1.elim
 | _ => exact h1.elim
end
noncomputable def rm:List ao → Option (List Int)
 | [] => some []
 | .int i :: r => (rm r).map (i :: ·)
 | _ :: _ => none
theorem Aa (a:List Int):rm (a.map ao.int) = some a:=by
 induction a with
 | nil => rfl
 | cons x a ih => show (rm (a.map ao.int)).map (x :: ·) = _; rw [ih]; rfl
end MN
namespace PM
open PySem PySem.Spec L2 MN
open PyProof.Rows hiding St
end PM
namespace PM
open PySem PySem.Spec L2 MN
open PyProof.Rows hiding St
noncomputable def gY:FN:=dM 3 3 (pH (af 0) (af 1) (aj c! (mI (af 0) (af 1) (mC (.int 0))) (af 2)))
noncomputable def aF:FN:=dM 3 3 (aO (mq (ai PM.cR (aa (af 0) ah)) (iO Cf Cf (af 1) (af 0) (af 2))))
noncomputable def cT:FN:=dM 2 3 (aw (bu 2 (b! 2 [0] (dg (af 1)) (fh [(aB 0),(aB 1)]) bD (du (aa (af 0) (aa (ai PM.bj (aa (af 2) (aa (af 1) ah))) ah))))) (aO (b! 1 [] (dg (af 2)) (aB 0) (bg (aj kB (aj gz (af 0) (mC (.int 1))) (mC (.int 0)))) (af 0))))
noncomputable def aE:FN:=dM 1 1 (cg (c6 (bg (ai PM.aF (aa (af 0) (aa (mC (.int 1)) (aa (mC (.int 4)) ah)))))) (cD "NoUnknowns" (aa (mC (.str "a count of unknowns is a whole number from 1 to 4")) ah)) aD)
noncomputable def b0:FN:=dM 2 2 (aw (cg (iP (c6 (bg (xQ "tuple" (af 0)))) (bg (aj kB (ai dC (aa (af 0) ah)) (af 1)))) (aO (mC (.bl false))) aD) (aO (ai jP (aa (b! 1 [] (dg (af 0)) (aB 0) bD (ai PM.aF (aa (af 0) (aa (mC (.int 0)) (aa (mC (.int 99)) ah))))) ah))))
noncomputable def b4:FN:=dM 2 2 (aO (ai PM.cT (aa (af 0) (aa (b! 1 [1] (dg (mS (af 1))) (aB 0) bD (du (aa (af 0) (aa (aj je (af 1) (af 0)) ah)))) ah))))
noncomputable def cZ:FN:=dM 2 2 (aw (cg (iP (c6 (bg (xQ "tuple" (af 0)))) (bg (aj kB (ai dC (aa (af 0) ah)) (mC (.int 2))))) (aO (mC (.bl false))) aD) (aO (mq (ai PM.b0 (aa (aj gz (af 0) (mC (.int 0))) (aa (af 1) ah))) (ai PM.cR (aa (aj gz (af 0) (mC (.int 1))) ah)))))
noncomputable def bt:FN:=dM 2 3 (gD (dg (af 1)) (aB 2) (cg (c6 (bg (ai PM.cZ (aa (af 2) (aa (af 0) ah))))) (cD "NoTerm" (aa (mC (.str "a term is a tuple of exponents from 0 to 99, one for each unknown, and a whole number")) ah)) aD))
noncomputable def made:FN:=dM 3 6 (aw (bh (ai PM.az (aa (af 0) ah))) (aw (bh (ai PM.aE (aa (af 1) ah))) (aw (bh (ai PM.bt (aa (af 1) (aa (af 2) ah)))) (aw (bu 3 mH) (aw (gD (dg (af 2)) (fh [(aB 4),(aB 5)]) (bh (ai PM.gY (aa (af 3) (aa (af 4) (aa (af 5) ah)))))) (aO (ai PM.b4 (aa (af 0) (aa (af 3) ah)))))))))
end PM
namespace DL
open PySem
end DL
namespace L2
open PySem PySem.Spec PyProof.Rows
end L2
namespace MN
open PySem PySem.Spec L2
open PyProof.Rows hiding St
end MN
namespace DL
open PySem PyProof.Rows
end DL
namespace L2
open PySem PySem.Spec PyProof.Rows
end L2
namespace MN
open PySem PySem.Spec L2
open PyProof.Rows hiding St
end MN
namespace MN
open PySem PySem.Spec L2
open PyProof.Rows hiding St
end MN
namespace PM
open PySem PySem.Spec L2 MN
open PyProof.Rows hiding St
end PM
namespace PM
open PySem PySem.Spec L2 MN
open PyProof.Rows hiding St
end PM
namespace L2
open PySem PySem.Spec PyProof.Rows
end L2
namespace MN
open PySem PySem.Spec L2
open PyProof.Rows hiding St
end MN
namespace PM
open PySem PySem.Spec L2 MN
open PyProof.Rows hiding St
end PM
namespace SO
open PySem PySem.W PyProof.Rows
end SO
namespace MN
open PySem PySem.Spec L2
open PyProof.Rows hiding St
end MN
namespace L2
open PySem PySem.Spec PyProof.Rows
end L2
namespace L2
open PySem PySem.Spec PyProof.Rows
end L2
namespace MN
open PySem PySem.Spec L2
open PyProof.Rows hiding St
end MN
namespace HT
open PySem PySem.Spec PyProof.Rows
end HT
namespace L2
open PySem PySem.Spec PyProof.Rows
end L2
namespace MN
open PySem PySem.Spec L2
open PyProof.Rows hiding St
end MN
namespace SO
open PySem PySem.W PyProof.Rows
end SO
namespace L2
open PySem PySem.Spec PyProof.Rows
end L2
namespace MN
open PySem PySem.Spec L2
open PyProof.Rows hiding St
section
variable {X:Cx} {E:XK}
theorem Glob.strs {K:PySem.W.Frag} {mg:Str → Option Value} {x:Str} {a:Addr} {o:Obj} {aA:Array Value} {n:Nat} {ns:List Str} (h:mg x = some (.ref a)) (l:K.lookup a = some o) (hc:o.cls = .type "tuple") (hd:o.data = .seq aA n) (hz:aA.size ≤ sizeLine) (hv:a7 (ns.map V.str) aA.toList):Glob K mg x (.mt (ns.map .str)) :=
 ⟨_,.ref a,h,rfl,fun ρ H => Rl.Ji (.inr ⟨o,aA,n,l,hc,hd,hz,hv⟩) (by
  clear h l hc hd hz hv
  induction ns with
  | nil => exact aP.nil
  | cons s ns ih => exact aP.cons (Rl.mkStr s) ih)⟩
end
end MN
namespace PM
open PySem PySem.Spec L2 MN
open PyProof.Rows hiding St
noncomputable def Ab:ao:=.mt ((["lex","deg"]:List Str).map ao.str)
noncomputable def dH:FN:=dM 1 1 (aO (mq (xQ "str" (af 0)) (aj (uR false) (af 0) (mC PM.Ab))))
noncomputable def cw:FN:=dM 1 1 (cg (c6 (bg (ai PM.dH (aa (af 0) ah)))) (cD "NoOrder" (aa (mC (.str "an order is lex or deg")) ah)) aD)
end PM
namespace L2
open PySem PySem.Spec PyProof.Rows
structure fU (k:Nat) (A:Around):Prop where
 dp:A.depth + 3 * k + 5 < recursionLimit
 un:A.units + 16 * k + 200 < cLine
theorem fU.room {k:Nat} {A:Around} (r:fU k A):dJ k { A with handled:=none }:=⟨rfl,r.dp,r.un⟩
theorem fU.mono {j k:Nat} {A:Around} (r:fU k A) (h:j ≤ k):fU j A:=⟨by have:=r.dp; lia,by have:=r.un; lia⟩
theorem fU.mark {k:Nat} {A:Around} (r:dJ k A) (v:Option Value):fU k (A.mark v):=⟨r.dp,r.un⟩
structure JV (ea:Addr) (oe:Obj) (outer:List Env) (H:Hp) (s:Shared):Prop where
 get:s.heap.get? ea = some oe
 no:H ea = none
 out:ea ∉ eM outer
 dat:∀ v,oe.data ≠ .cell v
noncomputable def HU (CX:r0) (P:Program) (w:World) (K:PySem.W.Frag) (mg:Str → Option Value) (base:Heap) (N:List Str) (qual:Str) (scope:Scope) (f:Addr) (cd:Value) (A:Around) (outer:List Env) (s:Shared) (H:Hp) (E:XK) (ea:Addr) (oe:Obj):Cx :=
 { fE CX P w K mg base N qual scope f cd A outer s H E with calm:=false,pn:=[(ea,oe)] }
theorem G6 {CX:r0} {P:Program} {w:World} {K:PySem.W.Frag} {mg:Str → Option Value} {base:Heap} {k:Nat} {f:Addr} {name qual:Str} {params:Arguments} {body:List Stmt} {scope:Scope} {dV kV doc pm dc ct oc:Value} {an od:Option Addr}
  {vK:Array (Option Value)} {N ps:List Str} (lk:K.lookup f = some ⟨oc,od,.func (PySem.W.fnOf name qual params body scope dV kV doc pm an dc ct),vK⟩) (nN:PySem.W.codeIn K dc qual = true) (S:dD N ps scope)
  {A:Around} {outer:List Env} {s:Shared} {H:Hp} {args:Args} {us:List Value} {vs:List V} {Q:VK} {E:XK} {ea:Addr} {oe:Obj} (hr:fU (k + 1) A) (e0:su P w K mg base A outer s H) (hb:BindsTo s (PySem.W.fnOf name qual params body scope dV kV doc pm an dc ct) args (ps.zip us)) (r:a7 vs us) (hl:vs.length = ps.length) (hx:JV ea oe outer H s)
  (qo:∃ t,gG (HU CX P w K mg base N qual scope f dc A outer s H E ea oe) body t ∧ t { nx:=fun _ H' => Q .cB H',rt:=Q } (start N vs) H) :
  codeAny (model P w) A (.call (.ref f) args) (CR CX outer P w H s Q E) s:=by
 have KX:K.In s.heap:=e0.mod.DQ.keeps fun b o e => (e0.bs b o e).1
 have lim:s.heap.NoLimit:=e0.mod.nolimit.keeps fun b o e => (e0.bs b o e).1
 have yc:∀ y ∈ ps.zip us,scope.names.lookup y.1 = some .local ∨ (scope.names.lookup y.1 = some .cell ∧ ((cellsFrom (s.heap.objs.size + 1) scope.names []).lookup y.1).isSome = true):=fun ⟨n,v⟩ hy => by
  rcases S.par n (List.of_mem_zip hy).1 with q | q
  ·exact .inl q
  ·exact .inr ⟨q,PySem.W.cellsFrom_some _ _ _ (.inl q)⟩
 refine codeAny_call_function (A:=A) (show _ from hr.room.depth) (KX _ _ lk) rfl S.co S.gen rfl (PySem.W.codeRec_of KX nN) (hb _ _ _ _ ?_)
 refine wpAny_newFunctionEnv_cells S.kind yc fun env he s1 x => ?_
 subst he
 refine ⟨lim.keeps x.toInCall.keep,codeAny_func ?_⟩
 obtain ⟨t,ht,hq⟩:=qo
 have e1:su P w K mg base { A with handled:=none } outer s H:=⟨e0.frames,e0.mod,e0.bs,e0.Bc,e0.gF,e0.xM,e0.bI,e0.bare⟩
 have I0:aG (fE CX P w K mg base N qual scope f dc { A with handled:=none } outer s H E) [] (start N vs) H s1:=ow S rfl e1 hl r x
 have I:aG (HU CX P w K mg base N qual scope f dc A outer s H E ea oe) [] (start N vs) H s1:=by
  refine ⟨⟨I0.ok.mod,I0.ok.kind,I0.ok.glob,I0.ok.blt,I0.ok.above,I0.ok.inj,I0.ok.has,I0.ok.DR,fun h => (by cases h),I0.ok.frames,I0.ok.Bb,I0.ok.Km,I0.ok.bs,I0.ok.Bc,I0.ok.qf,I0.ok.vC,I0.ok.gF,I0.ok.xM⟩,I0.os,I0.bare,I0.base,I0.loc,I0.cell,I0.free,I0.eZ,fun p hp => ?_,I0.bI,I0.len⟩
  have Qk:p = (ea,oe):=by simpa [HU] using hp
  subst Qk
  refine ⟨x.toInCall.keep _ _ hx.get,hx.no,?_,hx.out,hx.dat⟩
  exact Nat.ne_of_lt (Heap.lt_size hx.get)
 refine wpAny_mono (ht [] s1 (start N vs) H _ I hq) (fun fl s' hs => ?_) fun e s' hs => hs
 have fin:∀ {σ':St} {H':Hp} {v:V} {u:Value},aG (HU CX P w K mg base N qual scope f dc A outer s H E ea oe) [] σ' H' s' → ba v u → Q v H' → CE outer P w H s Q u s' :=
  fun {σ' H' v u} J rv q => ⟨v,H',J.os,J.bare,J.base,J.bI,rv,q⟩
 cases fl with
 | ret u =>
  obtain ⟨v,σ',H',J,rv,q⟩:=hs
  exact fin J rv q
 | next =>
  obtain ⟨σ',H',J,q⟩:=hs
  exact fin (v:=V.cB) (u:=Value.none) J rfl q
 | brk =>
  obtain ⟨_,_,_,q⟩:=hs
  exact False.elim q
 | cont =>
  obtain ⟨_,_,_,q⟩:=hs
  exact False.elim q
end L2
namespace MN
open PySem PySem.Spec L2
open PyProof.Rows hiding St
noncomputable def oQ (P:Program) (w:World) (K:PySem.W.Frag) (mg:Str → Option Value) (base:Heap) (x:Str) (k:Nat) (F:Str → ag → bW ao):Prop :=
 ∃ (fa:Addr) (fd:FuncData) (ps:List Str),mg x = some (.ref fa) ∧ PySem.W.keepIn K (.ref fa) = true ∧ Binds K fd ps [] ∧ ps.length = 1 ∧
  ∀ (A:Around) (outer:List PySem.Env) (s:Shared) (H:Hp) (ea:Addr) (oe:Obj) (C:Addr) (c:Str) (Q:VK) (args:Args),fU k A → su P w K mg base A outer s H → BindsTo s fd args (ps.zip [.ref ea]) → JV ea oe outer H s → mg c = some (.ref C) → oe.cls = .ref C →
   (∃ ρ st,SR K ρ st H ∧ wR ⟨K,mg,[]⟩ E0 (Rl K) ρ H Q (F c st)) → codeAny (model P w) A (.call (.ref fa) args) (CR (i9 P w) outer P w H s Q E0) s
noncomputable def MW (n:Nat) (body:MB):Str → ag → bW ao:=fun c st => (body (some (.exc c) :: List.replicate n none) st).fin
section
variable {P:Program} {w:World} {K:PySem.W.Frag} {mg:Str → Option Value} {base:Heap}
theorem oQ.mk {x p:Str} {st:Stmt} {f:Addr} {fd:FuncData} {N:List Str} {k:Nat} {body:MB} (F:Bh K x x st f fd) (hm:mg x = some (.ref f)) (S:dD (p :: N) [p] (aN st))
  (hb:∀ (kV doc pm:Value) (an:Option Addr) (dc ct:Value) (us:List Value),us.length = 1 → bindArgs (PySem.W.fnOf x x (d3 st) (cK st) (aN st) .none kV doc pm an dc ct) ⟨us,[]⟩ = pure ([p].zip us))
  (h:∀ (dc:Value) (A:Around) (outer:List PySem.Env) (s:Shared) (H:Hp) (ea:Addr) (oe:Obj),fU k (A.deeper (envOfC x (aN st) s.heap.objs.size f dc)) →
   gG (HU (i9 P w) P w K mg base (p :: N) x (aN st) f dc A outer s H E0 ea oe) (cK st) (tS (HU (i9 P w) P w K mg base (p :: N) x (aN st) f dc A outer s H E0 ea oe) E0 body)) :
  oQ P w K mg base x (k + 1) (MW N.length body):=by
 refine ⟨f,fd,[p],hm,F.kp,F.binds hb,rfl,fun A outer s H ea oe C c Q args hr e0 Ql hx hc xU q => ?_⟩
 obtain ⟨ρ,av,sr,q⟩:=q
 obtain ⟨oc,od,kV,doc,pm,an,dc,ct,vK,rfl,lk,nN⟩:=F.ex
 have Qm:fU k (A.deeper (envOfC x (aN st) s.heap.objs.size f dc)):=by
  have:=(hr.room).deeper (envOfC x (aN st) s.heap.objs.size f dc)
  exact ⟨this.dp,this.un⟩
 refine G6 (vs:=[V.ref ea]) (E:=E0) lk nN S hr e0 Ql (.cons rfl .nil) rfl hx ⟨_,h dc A outer s H ea oe Qm,some (.exc c) :: List.replicate N.length none,ρ,av,?_,sr,?_⟩
 ·refine ⟨by simp [L2.start],fun i u e => ?_⟩
  cases i with
  | zero =>
   cases e
   exact ⟨.ref ea,rfl,ea,oe,C,rfl,List.mem_singleton.mpr rfl,hc,xU⟩
  | succ i =>
   rw [List.getElem?_cons_succ,List.getElem?_replicate] at e
   split at e <;> cases e
 ·unfold MW at q
  revert q
  cases body (some (.exc c) :: List.replicate N.length none) av with
  | nx μ st2 => exact fun q ρ' H' σ' e s _ => q ρ' H' .cB e s Rl.uL
  | rt v st2 => exact fun q => q
  | er c μ st2 => exact fun q => q
  | bk μ st2 => exact fun q => q.elim
  | ct μ st2 => exact fun q => q.elim
  | bad => exact fun q => q.elim
end
noncomputable def gq (i:Nat) (F:Str → ag → bW ao):ME:=fun μ st => match μ[i]? with
 | some (some (.exc c)) => JA (F c st)
 | _ => .bad
section
variable {X:Cx} {E:XK} {pos p q1:Pos} {x n:Str} {k j:Nat} {F:Str → ag → bW ao}
theorem Ac (i:Nat) (G:oQ X.prog X.w X.K X.mg X.base x k F) (hr:fU k X.A) (hg:Gl X x) (hN:X.N[i]? = some n:=by rfl) (hv:Ey X.env.scope n:=by first | exact Or.inl rfl | exact Or.inr (Or.inl rfl)) (hd:(n == ("__debug__":Str)) = false:=by decide) (nN:(n == ("__classdict__":Str)) = false:=by decide) (kK:(x == ("__debug__":Str)) = false:=by decide)
  (he:starEach [.Name n q1] X.env = (false,eval (.Name n q1) X.env) :: starEach [] X.env:=by rfl) (hV:(backTo pos (starEach [] X.env)).any (·.1) = false:=by rfl) :
  PE X (.Call (.Name x p) [.Name n q1] [] pos) (tE X E (gq i F)):=by
 obtain ⟨fa,fd,ps,hm,hk,hb,Qn,run⟩:=G
 intro ae s σ H Q I h
 obtain ⟨μ,ρ,st,rs,sr,h⟩:=h
 unfold gq at h
 split at h
 ·rename_i c hμ
  obtain ⟨v,hσ,ea,oe,C,rfl,Eb,Qo,xU⟩:=rs.at_ i _ hμ
  have pin:=I.pin (ea,oe) (List.mem_append_left _ Eb)
  refine wpAny_Call_Name_kw (hJ I hg hm ?_ kK)
  refine PySem.W.callWith_K (h₀:=X.base) I.ok.mod.DQ hk (bF ((f_ (r! hN hv hd nN) lV he) pos ae s σ H (fun vs H1 => vs = [.ref ea] ∧ H1 = H) I ⟨_,hσ,rfl,rfl⟩) fun us s1 ⟨vs,H1,I1,r,e1,e2⟩ => ⟨I1.lG,?_⟩) he hV
  subst e1 e2
  obtain ⟨u,rfl,ru⟩:=vals1 r
  cases ru
  have Ad:=I1.pin (ea,oe) (List.mem_append_left _ Eb)
  have OH:=hb s1 [.ref ea] I1.lG (by rw [List.append_nil,Qn]; rfl)
  rw [List.append_nil] at OH
  refine wpAny_call (codeAny_mono (run X.A X.stack s1 H1 ea oe C c Q ⟨[.ref ea],[]⟩ hr I1.E! OH ⟨Ad.1,Ad.2.1,fun hb => (List.mem_cons.mp (I1.jG ea hb)).elim Ad.2.2.1 Ad.2.2.2.1,Ad.2.2.2.2⟩ Qo xU ⟨ρ,st,sr,?_⟩) fun r s' hq => ?_)
  ·revert h
   cases F c st with
   | ok y st2 => exact fun h => h
   | err c st2 => exact fun h => h.elim
   | bad => exact fun h => h.elim
  ·cases r with
   | error e => obtain ⟨_,_,_,_,_,z⟩:=hq; exact z.elim
   | ok fl =>
    cases fl with
    | ret u => exact I1.after hq
    | next => exact False.elim hq
    | brk => exact False.elim hq
    | cont => exact False.elim hq
 ·exact h.elim
end
end MN
namespace L2
open PySem PySem.Spec PyProof.Rows
end L2
namespace MN
open PySem PySem.Spec L2
open PyProof.Rows hiding St
end MN
namespace SO
open PySem PySem.W PyProof.Rows
end SO
namespace SO
open PySem PySem.W PyProof.Rows
end SO
namespace SO
open PySem PySem.W PyProof.Rows
end SO
namespace L2
open PySem PySem.Spec PyProof.Rows
end L2
namespace MN
open PySem PySem.Spec L2
open PyProof.Rows hiding St kindOf
end MN
namespace L2
open PySem PySem.Spec PyProof.Rows PySem.W
section
variable {X:Cx}
theorem nW:bV X (.builtin "isinstance") (fun xs H Q => ∃ (ea:Addr) (oe:Obj) (C D:Addr) (b:Bool),xs = [.ref ea,.ref D] ∧ (ea,oe) ∈ X.pn ∧ oe.cls = .ref C ∧ gP X.K C ∧ kitOne X.K (.ref C) (.ref D) = some b ∧ Q (.bl b) H):=by
 intro ae s σ H xs us Q I r h
 obtain ⟨ea,oe,C,D,b,rfl,hp,hc,hq,hk,q⟩:=h
 have he:=(I.pin (ea,oe) (List.mem_append_left _ hp)).1
 obtain ⟨u,u2,rfl,ru,Mk⟩:=vals2 r
 cases ru
 cases Mk
 exact kia_one (zo hc hq) I.lG he hk (by intro z; cases z) fun tk => ⟨.bl b,H,I.tok tk,rfl,q⟩
end
end L2
namespace MN
open PySem PySem.Spec L2
open PyProof.Rows hiding St
noncomputable def cS (sub:Str → Str → Option Bool) (qs:List Str) (i:Nat) (x:Str):ME:=fun μ st => match μ[i]? with
 | some (some (.exc c)) => if qs.contains c then (match sub c x with
  | some b => .ok (.bl b) st
  | none => .bad) else .bad
 | _ => .bad
section
variable {X:Cx} {E:XK} {pos p q1 q2:Pos} {n x:Str} {tab:List (Str × Str × Bool)} {qs:List Str}
theorem CV (i:Nat) (hS:dR X.K X.mg tab) (hQ:nV X.K X.mg qs) (h:zh X.K X.mg x) (hg:Gl X "isinstance") (hm:X.mg "isinstance" = none) (Qp:Gl X x) (hN:X.N[i]? = some n:=by rfl) (hv:Ey X.env.scope n:=by first | exact Or.inl rfl | exact Or.inr (Or.inl rfl))
  (hd:(n == ("__debug__":Str)) = false:=by decide) (nN:(n == ("__classdict__":Str)) = false:=by decide) (Qq:(x == ("__debug__":Str)) = false:=by decide)
  (hs:starEach [.Name n q1,.Name x q2] X.env = (false,eval (.Name n q1) X.env) :: starEach [.Name x q2] X.env:=by rfl) (fP:starEach [.Name x q2] X.env = (false,eval (.Name x q2) X.env) :: starEach [] X.env:=by rfl)
  (hV:(backTo pos (starEach [.Name x q2] X.env)).any (·.1) = false:=by rfl):PE X (.Call (.Name "isinstance" p) [.Name n q1,.Name x q2] [] pos) (tE X E (cS (c7 tab) qs i x)):=by
 obtain ⟨D,hD,_,_⟩:=h
 refine PE.imp (lW nW hg hm PyProof.Rows.boot_isinstance (f_ (r! (i:=i) hN hv hd nN) (f_ (uz (v:=.ref D) Qp hD rfl Qq) lV fP) hs) (by decide) (by decide) hs hV) ?_
 rintro σ H Q ⟨μ,ρ,st,rs,sr,h⟩
 unfold cS at h
 split at h
 ·rename_i c e
  split at h
  ·rename_i Qr
   split at h
   ·rename_i b eb
    obtain ⟨w,e',a,oe,C,rfl,hp,hC,ho⟩:=rs.at_ i _ e
    obtain ⟨C',OI,hq⟩:=hQ.at_ Qr
    have hC:X.mg c = some (.ref C):=hC
    rw [hC] at OI
    cases OI
    refine ⟨_,e',a,oe,C,D,b,rfl,hp,ho,hq,?_,fQ sr h⟩
    have k:=hS.Jv c x b C D eb hC hD
    unfold PySem.W.kitOne
    split
    ·rename_i z
     have z:=beq_iff_eq.mp z
     cases z
     rw [hq.kc] at k
     exact k
    ·exact k
   ·exact h.elim
  ·exact h.elim
 ·exact h.elim
noncomputable def jm:MB:=fun _ _ => .bad
theorem vg {ss:List Stmt}:gG X ss (tS X E jm):=fun _ _ _ _ _ _ h => by
 obtain ⟨_,_,_,_,_,h⟩:=h
 exact h.elim
theorem fM {st:Stmt}:PS X st (tS X E jm):=fun _ _ _ _ _ _ h => by
 obtain ⟨_,_,_,_,_,h⟩:=h
 exact h.elim
end
end MN
namespace PM
open PySem PySem.Spec L2 MN
open PyProof.Rows hiding St
end PM
namespace PM
open PySem PySem.Spec L2 MN
open PyProof.Rows hiding St
end PM
namespace MN
open PySem PySem.Spec L2
open PyProof.Rows hiding St kindOf
end MN
namespace MN
open PySem PySem.Spec L2
open PyProof.Rows hiding St
section
variable {K:PySem.W.Frag} {h:Heap} {mg:Str → Option Value}
noncomputable def b9 (K:PySem.W.Frag) (x:Str) (st:Stmt):Prop:=∃ (f:Addr) (fd:FuncData),Bh K x x st f fd ∧ PySem.W.nsIn K mainGlobals x = some (some (.ref f))
theorem b9.mk {x:Str} {st:Stmt} {f:Addr} {oc:Value} {od an:Option Addr} {vK:Array (Option Value)} {kV doc pm dc ct:Value} (a:PySem.W.nsIn K mainGlobals x = some (some (.ref f))) (l:K.lookup f = some ⟨oc,od,.func (PySem.W.fnOf x x (d3 st) (cK st) (aN st) .none kV doc pm an dc ct),vK⟩)
  (c:PySem.W.codeIn K dc x = true) (k:PySem.W.keepIn K (.ref f) = true):b9 K x st:=⟨f,_,yj l c k,a⟩
inductive tF (K:PySem.W.Frag):List Str → Prop
 | nil:tF K []
 | cons {x:Str} {r:List Str} (a:PySem.W.nsIn K mainGlobals x = some none) (t:tF K r):tF K (x :: r)
@[reducible] def CW (mg:Str → Option Value):List Str → Prop
 | [] => True
 | x :: r => mg x = none ∧ CW mg r
theorem tF.get (X:K.In h) (G:h.Ns mainGlobals mg):∀ {l:List Str},tF K l → CW mg l
 | _,.nil => trivial
 | _,.cons a t => ⟨PySem.W.mg_none_of X G a,t.get X G⟩
inductive tH (K:PySem.W.Frag):List Str → Prop
 | nil:tH K []
 | cons {x:Str} {r:List Str} {C:Addr} (a:PySem.W.nsIn K mainGlobals x = some (some (.ref C))) (e:PySem.W.excIn K C Ol "ValueError.__new__" = true) (s:PySem.W.subIn K (.ref C) (.type "BaseException") = some true) (t:tH K r):tH K (x :: r)
@[reducible] def CY (K:PySem.W.Frag) (mg:Str → Option Value):List Str → Prop
 | [] => True
 | x :: r => zh K mg x ∧ CY K mg r
theorem tH.get (X:K.In h) (G:h.Ns mainGlobals mg):∀ {l:List Str},tH K l → CY K mg l
 | _,.nil => trivial
 | _,.cons a e s t => ⟨⟨_,PySem.W.mg_of X G a,e,s⟩,t.get X G⟩
inductive kG (K:PySem.W.Frag):List (Str × Str × Bool) → Prop
 | nil:kG K []
 | cons {c x:Str} {b:Bool} {C D:Addr} {cd:ClassData} {r:List (Str × Str × Bool)} (h1:PySem.W.nsIn K mainGlobals c = some (some (.ref C))) (h2:PySem.W.nsIn K mainGlobals x = some (some (.ref D))) (h3:PySem.W.clsIn K D = some cd) (h4:PySem.W.typeIn K (.ref D) = some (.type "type")) (h5:PySem.W.subIn K (.ref C) (.ref D) = some b) (t:kG K r):kG K ((c,x,b) :: r)
inductive mT (K:PySem.W.Frag):List Str → Prop
 | nil:mT K []
 | cons {c:Str} {C:Addr} {r:List Str} (h1:PySem.W.nsIn K mainGlobals c = some (some (.ref C))) (h3:PySem.W.kitOne K (.ref C) (.type "ValueError") = some true) (t:mT K r):mT K (c :: r)
noncomputable def JW (l:List Str):List (Str × Str × Bool):=l.map fun c => (c,"ValueError",true)
theorem mT.get (X:K.In h) (G:h.Ns mainGlobals mg) (n:PySem.W.nsIn K mainGlobals "ValueError" = some none):∀ {l:List Str},mT K l → dR K mg (JW l)
 | _,.nil => .nil
 | _,.cons h1 h3 t => .blt (PySem.W.mg_of X G h1) (PySem.W.mg_none_of X G n) nU h3 (t.get X G n)
theorem kG.get (X:K.In h) (G:h.Ns mainGlobals mg) {l':List (Str × Str × Bool)} (S:dR K mg l'):∀ {l:List (Str × Str × Bool)},kG K l → dR K mg (l ++ l')
 | _,.nil => S
 | _,.cons h1 h2 h3 h4 h5 t => .own (PySem.W.mg_of X G h1) (PySem.W.mg_of X G h2) (wm h3 h4 h5) (t.get X G S)
inductive tJ (K:PySem.W.Frag):List Str → Prop
 | nil:tJ K []
 | cons {x:Str} {r:List Str} {C:Addr} (a:PySem.W.nsIn K mainGlobals x = some (some (.ref C))) (q:L2.pJ K C = true) (t:tJ K r):tJ K (x :: r)
theorem tJ.get (X:K.In h) (G:h.Ns mainGlobals mg):∀ {l:List Str},tJ K l → nV K mg l
 | _,.nil => .nil
 | _,.cons a q t => .cons (PySem.W.mg_of X G a) q (t.get X G)
theorem nV.known {l:List Str} (Q:nV K mg l):Known mg (KY l):=fun c hc => let ⟨C,h,_⟩:=Q.at_ hc; ⟨C,h⟩
end
section
variable {X:Cx} {E:XK} {pos:Pos} {a b:Expr} {ma mb:ME}
theorem G7 (ha:PE X a (tE X E ma)) (hb:PE X b (tE X E mb)):PE X (.BinOp a .Add b pos) (tE X E (aj c! ma mb)):=mf Cg ha hb
theorem G8 (ha:PE X a (tE X E ma)) (hb:PE X b (tE X E mb)):PE X (.BinOp a .Sub b pos) (tE X E (aj Ce ma mb)):=mf Ci ha hb
theorem G9 (ha:PE X a (tE X E ma)) (hb:PE X b (tE X E mb)):PE X (.BinOp a .Mult b pos) (tE X E (aj dN ma mb)):=mf Cj ha hb
theorem G_ (ha:PE X a (tE X E ma)) (hb:PE X b (tE X E mb)):PE X (.BinOp a .FloorDiv b pos) (tE X E (aj cY ma mb)):=mf yK ha hb
theorem G! (ha:PE X a (tE X E ma)) (hb:PE X b (tE X E mb)):PE X (.BinOp a .Mod b pos) (tE X E (aj bB ma mb)):=mf Ck ha hb
theorem JX (ha:PE X a (tE X E ma)) (hb:PE X b (tE X E mb)):PT X (.Compare a [.Lt] [b] pos) (tT X E (bg (aj ltV ma mb))):=jN yL ha hb
theorem JY (ha:PE X a (tE X E ma)) (hb:PE X b (tE X E mb)):PT X (.Compare a [.Gt] [b] pos) (tT X E (bg (aj HJ ma mb))):=jN yM ha hb
theorem JZ (hu:X.A.units + 64 < cLine) (ha:PE X a (tE X E ma)) (hb:PE X b (tE X E mb)):PT X (.Compare a [.Eq] [b] pos) (tT X E (bg (aj cb ma mb))):=jN (yP hu) ha hb
theorem J0 (hu:X.A.units + 64 < cLine) (ha:PE X a (tE X E ma)) (hb:PE X b (tE X E mb)):PT X (.Compare a [.NotEq] [b] pos) (tT X E (bg (aj kB ma mb))):=jN (yQ hu) ha hb
theorem J1 (hu:X.A.units + 64 < cLine) (ha:PE X a (tE X E ma)) (hb:PE X b (tE X E mb)):PE X (.Compare a [.Eq] [b] pos) (tE X E (aj cb ma mb)):=iN (yP hu) ha hb
theorem J2 (hu:X.A.units + 64 < cLine) (ha:PE X a (tE X E ma)) (hb:PE X b (tE X E mb)):PE X (.Compare a [.NotEq] [b] pos) (tE X E (aj kB ma mb)):=iN (yQ hu) ha hb
end
end MN
namespace MN
open PySem PySem.Spec L2
open PyProof.Rows hiding St kindOf
end MN
namespace SO
open PySem PySem.W PyProof.Rows
end SO
namespace L2
open PySem PySem.Spec PyProof.Rows
end L2
namespace DL
open PySem
section
variable {prog:Program} {w:World} {A:Around} {E:Value → Shared → Prop} {s:Shared}
variable {K:Type} [DecidableEq K] {knd:KeyKind prog w K}
noncomputable def kG (knd:KeyKind prog w K) (h:Heap) (u:Value) (q:K × Value):Prop :=
 ∃ a o aA n key,u = .ref a ∧ h.get? a = some o ∧ o.cls = .type "tuple" ∧ o.data = .seq aA n ∧ aA.toList = [key,q.2] ∧ knd.is q.1 key = true
end
end DL
namespace L2
open PySem PySem.Spec PyProof.Rows
end L2
namespace L2
open PySem PySem.Spec PyProof.Rows
end L2
namespace L2
open PySem PySem.Spec PyProof.Rows
end L2
namespace MN
open PySem PySem.Spec L2
open PyProof.Rows hiding St kindOf
end MN
namespace MN
open PySem PySem.Spec L2
open PyProof.Rows hiding St kindOf
end MN
namespace L2
open PySem PySem.Spec PyProof.Rows
end L2
namespace SO
open PySem PySem.W PyProof.Rows
end SO
namespace L2
open PySem PySem.Spec PyProof.Rows
end L2
namespace MN
open PySem PySem.Spec L2
open PyProof.Rows hiding St kindOf
noncomputable def MX (st:ag) (n:Nat):Option (List (cI × ao)):=match st[n]? with
 | some (.dK aH) => some aH
 | some (.fd aH) => some aH
 | _ => none
noncomputable def Em:List cI → Option (List Int)
 | [] => some []
 | .inl i :: r => (Em r).map (i :: ·)
 | .inr _ :: _ => none
end MN
namespace MN
open PySem PySem.Spec L2
end MN
namespace PM
open PySem PySem.Spec L2 MN
open PyProof.Rows hiding St
end PM
namespace SO
open PySem PySem.W PyProof.Rows
end SO
namespace L2
open PySem PySem.Spec PyProof.Rows
section
variable {X:Cx}
noncomputable def kU {α:Type} (xs:List α) (k:Int):List α:=(sliceRange 0 xs.length k).filterMap fun i => xs[i]?
theorem ic:∀ (is:List Nat) {xs:List V} {us:List Value},a7 xs us → a7 (is.filterMap fun i => xs[i]?) (is.filterMap fun i => us[i]?)
 | [],_,_,_ => .nil
 | i :: is,xs,us,r => by
  cases z:xs[i]? with
  | none =>
   have:us[i]? = none:=by
    rw [List.getElem?_eq_none_iff] at z ⊢
    rw [← r.length]; exact z
   rw [List.filterMap_cons_none z,List.filterMap_cons_none this]
   exact ic is r
  | some x =>
   obtain ⟨u,hu,ru⟩:=r.get z
   rw [List.filterMap_cons_some z,List.filterMap_cons_some hu]
   exact .cons ru (ic is r)
theorem Ae {α:Type} (xs:List α) {k:Int} (hk:0 < k):(kU xs k).length ≤ xs.length:=by
 unfold kU
 refine Nat.le_trans (List.length_filterMap_le _ _) ?_
 have:=sliceRange_len_le 0 (xs.length:Int) k (by lia)
 rw [if_pos hk] at this
 simpa using this
theorem wO {e es:Expr} {te ts:TE} {pos p2:Pos} (he:PE X e te) (hs:PE X es ts) :
  PE X (.Subscript e (.Slice none none (some es) p2) pos) (fun σ H Q => te σ H fun x H1 => ts σ H1 fun y H2 => ∃ a xs k,x = .ref a ∧ y = .int k ∧ 0 < k ∧ i8 X.K H2 a xs ∧ ∀ p,H2 p = none → Q (.ref p) (upd H2 p (.lst (kU xs k)))):=by
 intro ae s σ H Q I h
 refine Subscript_ (bF (he ae s σ H _ I h) fun v s1 ⟨x,H1,I1,r1,q1⟩ => ?_)
 refine wpAny_Slice ?_
 rw [evalPart_none]
 refine wpAny_pure ?_
 refine wpAny_pure ?_
 rw [evalPart_some]
 refine bF (hs ae s1 σ H1 _ I1 q1) fun v3 s3 ⟨y,H2,I3,r3,a,xs,k,e1,e2,hk,hx,q⟩ => ?_
 subst e1 e2
 cases r1
 obtain ⟨tk,rfl⟩:=r3
 have I4:aG X ae σ H2 { s3 with heap:=s3.heap.push { cls:=.type "slice",data:=.fields #[.none,.none,.int k tk] } }:=I3.kept (t':=s3.toks) fun b ob q => Heap.get?_push_of_some _ q
 show wpAny (model X.prog X.w) X.A (subscriptTail e (.Slice none none (some es) p2) (.ref a) (.ref s3.heap.objs.size)) (EP X ae σ Q) X.xe { s3 with heap:=s3.heap.push { cls:=.type "slice",data:=.fields #[.none,.none,.int k tk] } }
 obtain ⟨aA,r,ht,hz⟩:=I4.list hx
 have hlen:aA.toArray.size = xs.length:=by rw [List.size_toArray]; exact r.length.symm
 refine tail_any (ops:=[.ref a,.ref s3.heap.objs.size]) ht.isList.typeIs slot_list_getitem.lookup ?_ (by with_unfolding_all rfl)
 refine wpAny_getItem_list_slice ht.isList (Heap.IsSliceOf.new ..) .none .none (.int k tk) (by intro z; injection z with z; lia) ?_ (by rw [hlen]; exact hz)
 have ep:slicePick aA.toArray none none (some k) = (kU aA k).toArray:=by
  have b1:(sliceBounds none none (some k) aA.toArray.size).1 = 0:=by show (if k > 0 then (0:Int) else _) = 0; rw [if_pos hk]
  have b2:(sliceBounds none none (some k) aA.toArray.size).2.1 = (aA.length:Int):=by show (if k > 0 then ((aA.toArray.size:Nat):Int) else _) = _; rw [if_pos hk,List.size_toArray]
  have b3:(sliceBounds none none (some k) aA.toArray.size).2.2 = k:=rfl
  unfold slicePick kU
  rw [b1,b2,b3]
  simp only [List.getElem?_toArray]
 rw [ep]
 refine ⟨.ref _,_,I4.laid (t':=s3.toks) (o:=.lst (kU xs k)) (fun b ob q => Heap.get?_push_of_some _ q) (Nat.le_refl _) ?_,rfl,q _ (I4.bI.fresh (Nat.le_refl _))⟩
 refine ⟨Nat.le_trans (Ae xs hk) hz,_,0,?_,Heap.get?_push_size _ rfl⟩
 unfold kU
 rw [show aA.length = xs.length from r.length.symm]
 exact ic _ r
end
end L2
namespace MN
open PySem PySem.Spec L2
open PyProof.Rows hiding St kindOf
noncomputable def MY (ns:List Int):List Int:=ns.mergeSort fun a b => decide (a ≤ b)
noncomputable def OJ:FN
 | [.loc n],st => match MX st n with
  | some aH => match Em (aH.map (·.1)) with
   | some ns => if ns.length < 64 then .ok (.loc st.length) (st ++ [.lst ((MY ns).map .int)]) else .bad
   | none => .bad
  | none => .bad
 | _,_ => .bad
noncomputable def lN (v k:ao) (st:ag):bW ao:=match v,k with
 | .loc n,.int k => match ak st n with
  | some us => if 0 < k then .ok (.loc st.length) (st ++ [.lst (kU us k)]) else .bad
  | none => .bad
 | _,_ => .bad
noncomputable def fu (m mk:ME):ME:=fun μ st => (m μ st).bind fun v st1 => (mk μ st1).bind fun k st2 => lN v k st2
section
variable {X:Cx} {E:XK}
theorem jo {K:PySem.W.Frag} {ρ:List Addr} {H:Hp}:∀ (is:List Nat) {us:List ao} {xs:List V},aP K ρ H us xs → aP K ρ H (is.filterMap fun i => us[i]?) (is.filterMap fun i => xs[i]?)
 | [],_,_,_ => aP.nil
 | i :: is,us,xs,r => by
  cases z:us[i]? with
  | none =>
   have:xs[i]? = none:=by
    rw [List.getElem?_eq_none_iff] at z ⊢
    rw [← r.length]; exact z
   rw [List.filterMap_cons_none z,List.filterMap_cons_none this]
   exact jo is r
  | some x =>
   obtain ⟨u,hu,ru⟩:=r.get z
   rw [List.filterMap_cons_some z,List.filterMap_cons_some hu]
   exact aP.cons ru (jo is r)
theorem wQ {e es:Expr} {m mk:ME} {pos p2:Pos} (he:PE X e (tE X E m)) (hs:PE X es (tE X E mk)):PE X (.Subscript e (.Slice none none (some es) p2) pos) (tE X E (fu m mk)):=by
 refine PE.imp (wO he hs) ?_
 rintro σ H Q ⟨μ,ρ,st,rs,sr,h⟩
 refine go μ ρ st rs sr h fun u st1 ρ1 H1 x e1 bw r1 h1 => ?_
 refine go μ ρ1 st1 (rs.mono e1) bw h1 fun k st2 ρ2 H2 z e2 gy r2 h2 => ?_
 have MZ:=Rl.mono e2 _ _ r1
 cases u with
 | loc n =>
  cases k with
  | int k =>
   unfold lN at h2
   dsimp only at h2
   cases hn:ak st2 n with
   | none => rw [hn] at h2; exact h2.elim
   | some us =>
    rw [hn] at h2
    dsimp only at h2
    by_cases hk:0 < k
    ·rw [if_pos hk] at h2
     obtain ⟨a,rfl,ha⟩:=MZ.df
     obtain ⟨vs,h3,rv⟩:=bb gy hn ha
     refine ⟨a,vs,k,rfl,by rw [r2.b6],hk,h3,fun p hp => ?_⟩
     have rr:aP X.K ρ2 H2 (kU us k) (kU vs k):=by
      unfold kU
      rw [show us.length = vs.length from rv.length]
      exact jo _ rv
     obtain ⟨k1,k2,k3⟩:=eQ gy rr hp
     exact h2 _ _ _ k1 k2 k3
    ·rw [if_neg hk] at h2; exact h2.elim
  | _ => exact h2.elim
 | _ => exact h2.elim
end
end MN
namespace PM
open PySem PySem.Spec L2 MN
open PyProof.Rows hiding St
end PM
namespace L2
open PySem PySem.Spec PyProof.Rows
open PySem.Builtin PySem.Builtin.Str
section
variable {X:Cx} {o e:Expr} {to te:TE} {apos bC:Pos}
theorem wU (ho:PE X o to) (he:PE X e te) (hb:attributeBase o "startswith" X.env (eval o X.env) = eval o X.env) (hs:starEach [e] X.env = [(false,eval e X.env)]) (hl:(apos.endLine == bC.line) = true) :
  PE X (.Call (.Attribute o "startswith" apos) [e] [] bC) (fun σ H Q => to σ H fun x H1 => ∃ a,x = .str a ∧ te σ H1 fun y H2 => ∃ b,y = .str b ∧ Q (.bl (Txt.startswith a b)) H2):=by
 intro ae s σ H Q I h
 refine Call_method1 hb hs hl (bF (ho ae s σ H _ I h) fun v s1 ⟨x,H1,I1,r1,a,e1,q1⟩ => ?_)
 subst e1
 obtain ⟨t,rfl⟩:=r1
 refine SB.startswith (bF (he ae s1 σ H1 _ I1 q1) fun u s2 ⟨y,H2,I2,r2,b,e2,q2⟩ => ?_)
 subst e2
 obtain ⟨t',rfl⟩:=r2
 exact ⟨b,t',rfl,.bl _,H2,I2,rfl,q2⟩
theorem oR:∀ l:List (Str × Tok),a7 ((l.map (·.1)).map V.str) (strValues l)
 | [] => .nil
 | p :: l => .cons ⟨p.2,rfl⟩ (oR l)
theorem oS:∀ {xs:List Str} {us:List Value},a7 (xs.map V.str) us → ∃ l:List (Str × Tok),l.map (·.1) = xs ∧ us = strValues l
 | [],us,r => by cases r; exact ⟨[],rfl,rfl⟩
 | x :: xs,us,r => by
  rw [List.map_cons] at r
  cases r with
  | cons r1 r2 =>
   obtain ⟨t,e⟩:=r1
   obtain ⟨l,h1,h2⟩:=oS r2
   exact ⟨(x,t) :: l,by rw [List.map_cons,h1],by rw [h2,e]; rfl⟩
theorem wV (ho:PE X o to) (he:PE X e te) (hb:attributeBase o "split" X.env (eval o X.env) = eval o X.env) (hs:starEach [e] X.env = [(false,eval e X.env)]) (hl:(apos.endLine == bC.line) = true) :
  PE X (.Call (.Attribute o "split" apos) [e] [] bC) (fun σ H Q => to σ H fun x H1 => ∃ a,x = .str a ∧ a.length ≤ sizeLine ∧ te σ H1 fun y H2 => ∃ b,y = .str b ∧ (b.length == 0) = false ∧ (partsBetween a (occurrences a b 0 a.length (a.length + 1)) b.length).length ≤ sizeLine ∧ (Txt.split a b).length ≤ sizeLine ∧
   ∀ p,H2 p = none → Q (.ref p) (upd H2 p (.lst ((Txt.split a b).map V.str)))):=by
 intro ae s σ H Q I h
 refine Call_method1 hb hs hl (bF (ho ae s σ H _ I h) fun v s1 ⟨x,H1,I1,r1,a,e1,ha,q1⟩ => ?_)
 subst e1
 obtain ⟨t,rfl⟩:=r1
 have key:∀ (u:Value) (s2:Shared),EP X ae σ (fun y H2 => ∃ b,y = .str b ∧ (b.length == 0) = false ∧ (partsBetween a (occurrences a b 0 a.length (a.length + 1)) b.length).length ≤ sizeLine ∧ (Txt.split a b).length ≤ sizeLine ∧ ∀ p,H2 p = none → Q (.ref p) (upd H2 p (.lst ((Txt.split a b).map V.str)))) u s2 → ∃ y u',u = .str y u' ∧ (y.length == 0) = false ∧ (partsBetween a (occurrences a y 0 a.length (a.length + 1)) y.length).length ≤ sizeLine ∧ ∀ (l:List (Str × Tok)) (k:Nat),l.map (·.1) = Txt.split a y → EP X ae σ Q (.ref s2.heap.objs.size) { s2 with heap:=s2.heap.push (seqObj "list" (strValues l).toArray 0),toks:=k }:=by
  rintro u s2 ⟨y,H2,I2,r2,b,e2,h0,hn,hz,q2⟩
  subst e2
  obtain ⟨t',rfl⟩:=r2
  refine ⟨b,t',rfl,h0,hn,fun l k hk => ?_⟩
  refine ⟨.ref _,_,I2.laid (t':=k) (o:=.lst ((Txt.split a b).map V.str)) (fun b ob q => Heap.get?_push_of_some _ q) (Nat.le_refl _) ?_,rfl,q2 _ (I2.bI.fresh (Nat.le_refl _))⟩
  refine ⟨by rw [List.length_map]; exact hz,_,0,?_,Heap.get?_push_size _ rfl⟩
  rw [← hk]
  exact oR l
 refine ⟨"str",_,F.plainAttrs_str,F.slot_str_split,F.type_str_split,typeIs_str _ _ _,(fun _ e => nomatch e),?_⟩
 refine method1_meets F.slot_str_split F.entry_str_split (bF (he ae s1 σ H1 _ I1 q1) fun v s₁ h₁ => ?_)
 obtain ⟨y,u,rfl,hy,hn,hq⟩:=key v s₁ h₁
 refine ⟨typeIs_str _ _ _,F.args_str_split_2 _ _,?_⟩
 cases h1:(decide (a.length < y.length) || decide (strKind a < strKind y))
 ·cases hf:(occurrences a y 0 a.length (a.length + 1)).isEmpty
  ·refine ⟨_,meets_str_split_sep a y t u h1 hy hf ha hn,?_⟩
   show wants _ _ _ { s₁ with toks:=_,heap:=s₁.heap.push { cls:=.type "list",data:=.seq (strsFrom s₁.toks (partsBetween a (occurrences a y 0 a.length (a.length + 1)) y.length)).toArray } }
   rw [strsFrom_eq]
   exact hq (numbered s₁.toks _) _ ((numbered_texts _ _).trans ((if_neg (ne_true_of_eq_false h1)).trans (if_neg (ne_true_of_eq_false hf))).symm)
  ·exact ⟨_,meets_str_split_not_found a y t u h1 hy hf,hq [(a,t)] s₁.toks ((if_neg (ne_true_of_eq_false h1)).trans (if_pos hf)).symm⟩
 ·exact ⟨_,meets_str_split_cannot_occur a y t u h1,hq [(a,t)] s₁.toks (if_pos h1).symm⟩
theorem Af (ho:PE X o to) (he:PE X e te) (hb:attributeBase o "join" X.env (eval o X.env) = eval o X.env) (hs:starEach [e] X.env = [(false,eval e X.env)]) (hl:(apos.endLine == bC.line) = true) :
  PE X (.Call (.Attribute o "join" apos) [e] [] bC) (fun σ H Q => to σ H fun x H1 => ∃ a,x = .str a ∧ te σ H1 fun y H2 => ∃ p xs,y = .ref p ∧ i8 X.K H2 p (xs.map V.str) ∧ JoinOk a xs = true ∧ Q (.str (Txt.join a xs)) H2):=by
 intro ae s σ H Q I h
 refine Call_method1 hb hs hl (bF (ho ae s σ H _ I h) fun v s1 ⟨x,H1,I1,r1,a,e1,q1⟩ => ?_)
 subst e1
 obtain ⟨t,rfl⟩:=r1
 refine SB.join (bF (he ae s1 σ H1 _ I1 q1) fun u s2 ⟨y,H2,I2,r2,p,xs,e2,hx,hj,q2⟩ => ?_)
 subst e2
 cases r2
 obtain ⟨aA,r,ht,hz⟩:=I2.list hx
 obtain ⟨l,h1,rfl⟩:=oS r
 exact ⟨p,l,rfl,ht.isList,xs,h1,hj,fun t' k => ⟨.str _,H2,I2.tok _,⟨_,rfl⟩,q2⟩⟩
theorem G?:BH X (fun x lo hi H Q => ∃ z,x = .str z ∧ z.length ≤ sizeLine ∧ Q (.str (Txt.slice z lo hi)) H):=by
 intro ae s σ H x v vl vu lo hi sl Q I rx hs pl pu q
 obtain ⟨z,rfl,hz,q⟩:=q
 obtain ⟨t,rfl⟩:=rx
 have fin:∀ (l u:Option (Int × Tok)),s.heap.IsSliceOf sl (partValue l) (partValue u) Value.none → (sliceMade z t l u none).post (EP X ae σ Q) s → ∃ T id,typeLookup (.type T) "__getitem__" = pure (some (.builtin id)) ∧ s.TypeIs (.str z t) T ∧ wpAny (model X.prog X.w) X.A (getItem (.str z t) (.ref sl)) (EP X ae σ Q) X.xe s:=fun l u hs hp =>
  ⟨"str",_,F.slot_str_getitem.lookup,typeIs_str _ _ _,wpAny_getItem_str_slice (l:=l) (u:=u) (st:=none) hs rfl hp⟩
 cases pl with
 | none =>
  cases pu with
  | none => exact fin none none hs (post_val_or_str ⟨Nat.le_trans (Txt.slice_le z _ _) hz,fun t' k => ⟨.str _,H,I.tok _,⟨_,rfl⟩,q⟩⟩)
  | int j tj => exact fin none (some (j,tj)) hs (post_val_or_str ⟨Nat.le_trans (Txt.slice_le z _ _) hz,fun t' k => ⟨.str _,H,I.tok _,⟨_,rfl⟩,q⟩⟩)
 | int i ti =>
  cases pu with
  | none => exact fin (some (i,ti)) none hs (post_val_or_str ⟨Nat.le_trans (Txt.slice_le z _ _) hz,fun t' k => ⟨.str _,H,I.tok _,⟨_,rfl⟩,q⟩⟩)
  | int j tj => exact fin (some (i,ti)) (some (j,tj)) hs (post_val_or_str ⟨Nat.le_trans (Txt.slice_le z _ _) hz,fun t' k => ⟨.str _,H,I.tok _,⟨_,rfl⟩,q⟩⟩)
end
end L2
namespace L2
open PySem PySem.Spec PyProof.Rows
noncomputable def r_ (x:Str):List Str:=x.cps.toList.map fun c => (⟨#[c]⟩:Str)
noncomputable def OK (x:Str):It:=⟨fun i _ => i < x.length,fun i H v H' => H' = H ∧ ∃ c,x.cps[i]? = some c ∧ v = .str ⟨#[c]⟩,fun i _ => x.length ≤ i⟩
theorem wW {P:Program} {w:World} {K:PySem.W.Frag} {tg:Expr} (it:Addr) (x:Str) (t:Tok):Turn P w K tg (OK x) [it] it (fun i h => h.IsStrIter it "str_ascii_iterator" x t i) where
 mem:=by simp
 obj:=fun i h st b hb => by
  have e:b = it:=by simpa using hb
  subst e
  obtain ⟨o,e,c,d⟩:=st
  exact ⟨o,e,fun v z => by rw [d] at z; cases z⟩
 keep:=fun i h h' st k => by
  obtain ⟨o,e,c,d⟩:=st
  exact ⟨o,k it (by simp) o e,c,d⟩
 item:=by
  intro X hP hw hK hc i ae s σ H E I hf st hg
  subst hP hw hK
  obtain ⟨f0,f1,f2,f3,f4,f5⟩:=hf it (by simp)
  have jM:i < x.cps.size:=hg
  refine wpAny_pyNext_ascii_item st (c:=x.cps[i]) (by simp [jM]) fun h' av sb => ?_
  have I1:aG X ae σ H { s with heap:=h',toks:=s.toks + 1 }:=I.turned (t':=s.toks + 1) (fun b o hb e => (sb.2 b hb).trans e) f0 f1 f3 f4 f5
  obtain ⟨o,e,c,d⟩:=id av
  exact ⟨_,rfl,uA (s:={ s with heap:=h',toks:=s.toks + 1 }) e c d (by decide) ⟨.str ⟨#[x.cps[i]]⟩,H,I1,⟨_,rfl⟩,⟨rfl,_,by simp [jM],rfl⟩,av,fun b hb => (hf b hb).1⟩⟩
 done:=by
  intro X hP hw hK hc i ae s σ H E I hf st hg
  subst hP hw hK
  obtain ⟨f0,f1,f2,f3,f4,f5⟩:=hf it (by simp)
  have jM:x.cps.size ≤ i:=hg
  exact wpAny_pyNext_ascii_end (I.ok.hd hc) st (by simp [jM]) fun h' eb => ⟨rfl,I.turned (t':=s.toks) (fun b o hb e => eb b o hb e) f0 f1 f3 f4 f5⟩
 self:=fun _ _ _ _ _ st h => wpAny_pyIter_striter_ascii st h
section
variable {X:Cx} {tg:Expr}
theorem CZ {l:Expr} {tl:TE} (hl:PE X l tl):PI X tg l (fun σ H R => tl σ H fun v H1 => ∃ x,v = .str x ∧ x.cps.all (· < 128) = true ∧ R (OK x) H1):=by
 intro ae s σ H R I h
 refine bF (hl ae s σ H _ I h) fun v s1 ⟨y,H1,I1,r1,q1⟩ => ?_
 obtain ⟨x,e,ha,q⟩:=q1
 subst e
 obtain ⟨t,rfl⟩:=r1
 refine wpAny_pyIter_ascii ha ?_
 refine ⟨s1.heap.objs.size,[s1.heap.objs.size],_,_,H1,rfl,I1.kept (t':=s1.toks) fun b o e => Heap.get?_push_of_some _ e,wW _ x t,⟨_,Heap.get?_push_size _ rfl,rfl,rfl⟩,fun b hb => ?_,q⟩
 have e:b = s1.heap.objs.size:=by simpa using hb
 subst e
 exact I1.vD (Nat.le_refl _) (I1.bI.fresh (Nat.le_refl _))
end
end L2
namespace MN
open PySem PySem.Spec L2
open PyProof.Rows hiding St kindOf
noncomputable def K6:F2
 | .str a,.str b,st => .ok (.bl (Txt.startswith a b)) st
 | _,_,_ => .bad
noncomputable def QS:ao → Option Str
 | .str a => some a
 | _ => none
noncomputable def pQ (m:ME) (k:Str → Env → ag → bW ao):ME:=fun μ st => (m μ st).bind fun v st1 => match v with
 | .str a => k a μ st1
 | _ => .bad
noncomputable def gr (mo me:ME):ME:=pQ mo fun a μ st => (me μ st).bind fun v st2 => match v with
 | .str b => .ok (.bl (Txt.startswith a b)) st2
 | _ => .bad
noncomputable def eh (mo me:ME):ME:=pQ mo fun a μ st => if a.length ≤ sizeLine then (me μ st).bind fun v st2 => match v with
 | .str b => if (b.length == 0) = false ∧ (Builtin.Str.partsBetween a (Builtin.Str.occurrences a b 0 a.length (a.length + 1)) b.length).length ≤ sizeLine ∧ (Txt.split a b).length ≤ sizeLine then .ok (.loc st2.length) (st2 ++ [.lst ((Txt.split a b).map .str)]) else .bad
 | _ => .bad else .bad
noncomputable def strsOf:List ao → Option (List Str)
 | [] => some []
 | .str a :: r => (strsOf r).map (a :: ·)
 | _ :: _ => none
theorem mU:∀ {us:List ao} {xs:List Str},strsOf us = some xs → us = xs.map .str
 | [],xs,h => by cases h; rfl
 | u :: us,xs,h => by
  cases u with
  | str a =>
   unfold strsOf at h
   cases e:strsOf us with
   | none => rw [e] at h; cases h
   | some r =>
    rw [e] at h
    cases h
    rw [List.map_cons,mU e]
  | _ => cases h
theorem wX (xs:List Str):strsOf (xs.map .str) = some xs:=by
 induction xs with
 | nil => rfl
 | cons x xs ih => rw [List.map_cons]; unfold strsOf; rw [ih]; rfl
noncomputable def gA (mo me:ME):ME:=pQ mo fun a μ st => (me μ st).bind fun v st2 => match v with
 | .loc n => match ak st2 n with
  | some us => match strsOf us with
   | some xs => if JoinOk a xs = true then .ok (.str (Txt.join a xs)) st2 else .bad
   | none => .bad
  | none => .bad
 | _ => .bad
noncomputable def fV (m:ME) (lo hi:MO):ME:=pQ m fun z μ st => (lo μ st).bind fun l st2 => (hi μ st2).bind fun h fD => if z.length ≤ sizeLine then .ok (.str (Txt.slice z l h)) fD else .bad
noncomputable def mV (m:ME):MI:=fun μ st => (m μ st).bind fun v av => match v with
 | .str x => if x.cps.all (· < 128) = true then .ok ((r_ x).map .str,fun _ => True) av else .bad
 | _ => .bad
noncomputable def J3:F2
 | .str i,.str j,st => .ok (.bl (!(Builtin.Str.occurrences j i 0 j.length 1).isEmpty)) st
 | _,_,_ => .bad
noncomputable def Ag:FN
 | [.int i],st => if i.natAbs.log2 < 1920 then .ok (.str (toString i)) st else .bad
 | _,_ => .bad
noncomputable def C0:F2
 | .mt us,.int i,st => match nJ us i with
  | some v => .ok v st
  | none => .bad
 | _,_,_ => .bad
theorem aP.vh {K:PySem.W.Frag} {ρ:List Addr} {H:Hp}:∀ {xs:List Str} {vs:List V},aP K ρ H (xs.map .str) vs → vs = xs.map V.str
 | [],vs,h => h.dP
 | x :: xs,vs,h => by
  obtain ⟨v,r,rfl,h2,h3⟩:=aP.b_ h
  rw [List.map_cons,h2.dE,aP.vh h3]
theorem aP.strs {K:PySem.W.Frag} {ρ:List Addr} {H:Hp}:∀ xs:List Str,aP K ρ H (xs.map .str) (xs.map V.str)
 | [] => aP.nil
 | x :: xs => aP.cons (Rl.mkStr x) (aP.strs xs)
section
variable {X:Cx} {E:XK} {o e i:Expr} {mo me mi:ME} {apos bC pos p2:Pos}
theorem wY (ho:PE X o (tE X E mo)) (he:PE X e (tE X E me)) (hb:attributeBase o "startswith" X.env (eval o X.env) = eval o X.env:=by rfl) (hs:starEach [e] X.env = [(false,eval e X.env)]:=by rfl) (hl:(apos.endLine == bC.line) = true:=by rfl) :
  PE X (.Call (.Attribute o "startswith" apos) [e] [] bC) (tE X E (gr mo me)):=by
 refine PE.imp (wU ho he hb hs hl) ?_
 rintro σ H Q ⟨μ,ρ,st,rs,sr,h⟩
 refine go μ ρ st rs sr h fun u st1 ρ1 H1 x e1 bw r1 h1 => ?_
 cases u with
 | str a =>
  refine ⟨a,r1.dE,?_⟩
  refine go μ ρ1 st1 (rs.mono e1) bw h1 fun v st2 ρ2 H2 y e2 gy r2 h2 => ?_
  cases v with
  | str b => exact ⟨b,r2.dE,fQ gy h2⟩
  | _ => exact h2.elim
 | _ => exact h1.elim
theorem wZ (ho:PE X o (tE X E mo)) (he:PE X e (tE X E me)) (hb:attributeBase o "split" X.env (eval o X.env) = eval o X.env:=by rfl) (hs:starEach [e] X.env = [(false,eval e X.env)]:=by rfl) (hl:(apos.endLine == bC.line) = true:=by rfl) :
  PE X (.Call (.Attribute o "split" apos) [e] [] bC) (tE X E (eh mo me)):=by
 refine PE.imp (wV ho he hb hs hl) ?_
 rintro σ H Q ⟨μ,ρ,st,rs,sr,h⟩
 refine go μ ρ st rs sr h fun u st1 ρ1 H1 x e1 bw r1 h1 => ?_
 cases u with
 | str a =>
  dsimp only at h1
  split at h1
  ·rename_i ha
   refine ⟨a,r1.dE,ha,?_⟩
   refine go μ ρ1 st1 (rs.mono e1) bw h1 fun v st2 ρ2 H2 y e2 gy r2 h2 => ?_
   cases v with
   | str b =>
    dsimp only at h2
    split at h2
    ·rename_i hz
     refine ⟨b,r2.dE,hz.1,hz.2.1,hz.2.2,fun p hp => ?_⟩
     obtain ⟨k1,k2,k3⟩:=eQ gy (aP.strs (Txt.split a b)) hp
     exact h2 _ _ _ k1 k2 k3
    ·exact h2.elim
   | _ => exact h2.elim
  ·exact h1.elim
 | _ => exact h1.elim
theorem Ah (ho:PE X o (tE X E mo)) (he:PE X e (tE X E me)) (hb:attributeBase o "join" X.env (eval o X.env) = eval o X.env:=by rfl) (hs:starEach [e] X.env = [(false,eval e X.env)]:=by rfl) (hl:(apos.endLine == bC.line) = true:=by rfl) :
  PE X (.Call (.Attribute o "join" apos) [e] [] bC) (tE X E (gA mo me)):=by
 refine PE.imp (Af ho he hb hs hl) ?_
 rintro σ H Q ⟨μ,ρ,st,rs,sr,h⟩
 refine go μ ρ st rs sr h fun u st1 ρ1 H1 x e1 bw r1 h1 => ?_
 cases u with
 | str a =>
  refine ⟨a,r1.dE,?_⟩
  refine go μ ρ1 st1 (rs.mono e1) bw h1 fun v st2 ρ2 H2 y e2 gy r2 h2 => ?_
  cases v with
  | loc n =>
   dsimp only at h2
   cases z:ak st2 n with
   | none => rw [z] at h2; exact h2.elim
   | some us =>
    rw [z] at h2
    dsimp only at h2
    cases q:strsOf us with
    | none => rw [q] at h2; exact h2.elim
    | some xs =>
     rw [q] at h2
     dsimp only at h2
     split at h2
     ·rename_i hj
      obtain ⟨b,rfl,hb⟩:=r2.df
      obtain ⟨vs,hv,rv⟩:=bb gy z hb
      rw [mU q] at rv
      rw [aP.vh rv] at hv
      exact ⟨b,xs,rfl,hv,hj,h2 ρ2 H2 _ (ax.refl _ _) gy (Rl.mkStr _)⟩
     ·exact h2.elim
  | _ => exact h2.elim
 | _ => exact h1.elim
theorem G' {lo hi:Option Expr} {ml mh:MO} (he:PE X e (tE X E me)) (hl:PO X lo (HQ X E ml)) (hh:PO X hi (HQ X E mh)):PE X (.Subscript e (.Slice lo hi none p2) pos) (tE X E (fV me ml mh)):=by
 refine PE.imp (qp G? he hl hh) ?_
 rintro σ H Q ⟨μ,ρ,st,rs,sr,h⟩
 refine go μ ρ st rs sr h fun u st1 ρ1 H1 x e1 bw r1 h1 => ?_
 cases u with
 | str z =>
  refine go (R1:=RO) μ ρ1 st1 (rs.mono e1) bw h1 fun l st2 ρ2 H2 l' e2 gy r2 h2 => ?_
  cases r2
  refine go (R1:=RO) μ ρ2 st2 ((rs.mono e1).mono e2) gy h2 fun k fD ρ3 H3 k' e3 nL r3 h3 => ?_
  cases r3
  split at h3
  ·rename_i hz
   exact ⟨z,r1.dE,hz,h3 ρ3 H3 _ (ax.refl _ _) nL (Rl.mkStr _)⟩
  ·exact h3.elim
 | _ => exact h1.elim
theorem C1 {tg l:Expr} {m:ME} (hl:PE X l (tE X E m)):PI X tg l (tI X E (mV m)):=by
 refine PI.imp (CZ hl) ?_
 rintro σ H R ⟨μ,ρ,st,rs,sr,h⟩
 refine go μ ρ st rs sr h fun u st1 ρ1 H1 x e1 bw r1 h1 => ?_
 cases u with
 | str x =>
  dsimp only at h1
  split at h1
  ·rename_i ha
   refine ⟨x,r1.dE,ha,h1 ρ1 H1 _ (ax.refl _ _) bw ?_⟩
   intro ρ' av H' e s g i
   have hl:((r_ x).map ao.str).length = x.length:=by unfold r_; rw [List.length_map,List.length_map,Array.length_toList]; rfl
   refine ⟨fun u hu => ?_,fun hi => by rw [hl] at hi; exact hi⟩
   have lt:i < x.length:=by have:=d7 hu; rw [hl] at this; exact this
   refine ⟨lt,?_⟩
   rintro v H2 ⟨rfl,c,hc,rfl⟩
   have:u = .str ⟨#[c]⟩:=by
    unfold r_ at hu
    rw [List.getElem?_map,List.getElem?_map,Array.getElem?_toList,hc] at hu
    cases hu; rfl
   subst this
   exact ⟨ax.refl _ _,s,Rl.mkStr _⟩
  ·exact h1.elim
 | _ => exact h1.elim
theorem Ha:c5 X (compareOp .In) (rM (wo X) E J3):=by
 refine c5.imp vI ?_
 rintro x y H Q ⟨ρ,st,u,w,sr,r1,r2,h⟩
 cases u with
 | str a =>
  cases w with
  | str b => exact ⟨a,b,r1.dE,r2.dE,fQ sr h⟩
  | _ => exact h.elim
 | _ => exact h.elim
theorem w4:bV X (.type "str") (cM (wo X) E Ag):=by
 refine bV.imp oZ ?_
 rintro xs H Q ⟨ρ,st,us,sr,r,h⟩
 unfold Ag at h
 split at h
 ·rename_i i
  obtain ⟨v,rfl,r1⟩:=r.v7
  split at h
  ·rename_i hi
   exact ⟨i,by rw [r1.b6],hi,h ρ H _ (ax.refl _ _) sr (Rl.mkStr _)⟩
  ·exact h.elim
 ·exact h.elim
end
end MN
namespace L2
open PySem PySem.Spec PyProof.Rows
theorem tK:typeLookup (.type "str") "__int__" = pure none:=by rw [typeLookup_type,builtinLookup_eq_fast]; kernel_rfl
theorem w5:typeLookup (.type "str") "__index__" = pure none:=by rw [typeLookup_type,builtinLookup_eq_fast]; kernel_rfl
theorem pR:typeLookup (.type "str") "__trunc__" = pure none:=by rw [typeLookup_type,builtinLookup_eq_fast]; kernel_rfl
theorem nX (t:Tok):Gives (Builtin.«int.__new__» ⟨[.type "int",.str "1" t],[]⟩) (.int 1) :=
 .of_wp fun M A E s Q h => by
  obtain ⟨hp,g,d,tk,os⟩:=s
  have f1:=F.conv_sub_int
  have f2:=F.madeHere_int
  have f3:=tK
  have f4:=w5
  have f5:=pR
  repeat (any_goals (first | assumption | wp_step))
  have key:∀ (t:Sem Value) R s,t = mkInt 1 → wpAny M A (mkInt 1) R E s → wpAny M A t R E s:=fun t R s e h => e ▸ h
  refine key _ _ _ ?_ ?_
  ·kernel_rfl
  ·exact wpAny_mkInt (wpAny_pure ⟨_,rfl,h⟩)
noncomputable def numOf (x:Str):Option Int:=if x = "1" then some 1 else none
theorem w6 {x:Str} {n:Int} (h:numOf x = some n) (t:Tok):Gives (Builtin.«int.__new__» ⟨[.type "int",.str x t],[]⟩) (.int n):=by
 unfold numOf at h
 split at h
 ·rename_i e
  cases h
  rw [e]
  exact nX t
 ·cases h
section
variable {X:Cx}
theorem nY:bV X (.type "int") (fun xs H Q => ∃ x n,xs = [.str x] ∧ numOf x = some n ∧ Q (.int n) H):=by
 rintro ae s σ H xs ws Q I r ⟨x,n,rfl,hn,q⟩
 obtain ⟨u,rfl,ru⟩:=vals1 r
 obtain ⟨t,rfl⟩:=ru
 exact call_int_1 (w6 hn t).meets (show (Made.int n).post _ s from ⟨rfl,.int n,H,I.tok _,⟨_,rfl⟩,q⟩)
theorem Hb {a b:Expr} {ta tb:TE} {k:Str} {j:Nat} {p1 p2 p3 pos:Pos} (ha:PE X a ta) (hb:PE X b tb) :
  PE X (.JoinedStr [.FormattedValue a (-1) none p1,.Constant (.str k) j p2,.FormattedValue b (-1) none p3] pos)
   (fun σ H Q => ta σ H fun x H1 => ∃ z,x = .str z ∧ z.length ≤ sizeLine ∧ (z ++ k).length ≤ sizeLine ∧ tb σ H1 fun y H2 => ∃ i:Int,y = .int i ∧ i.natAbs.log2 < 1920 ∧ (z ++ k ++ (toString i:Str)).length ≤ sizeLine ∧ Q (.str (z ++ k ++ (toString i:Str))) H2):=by
 intro ae s σ H Q I h
 refine JoinedStr_many (joinParts_cons (FormattedValue_plain (bF (ha ae s σ H _ I h) fun v s1 ⟨x,H1,I1,r1,z,e1,hz,Qs,q1⟩ => ?_)))
 subst e1
 obtain ⟨t,rfl⟩:=r1
 refine SB.field_str (fun t' tk => ?_) hz
 have e0:Str.empty ++ z = z:=Str.append_left_empty rfl
 dsimp only
 rw [e0]
 refine ⟨hz,joinParts_cons (Calls.Constant_str ⟨Qs,joinParts_cons (FormattedValue_plain (bF (hb ae _ σ H1 _ (I1.tok _) q1) fun u s2 ⟨y,H2,I2,r2,i,e2,hi,hl,q2⟩ => ?_))⟩)⟩
 subst e2
 obtain ⟨t2,rfl⟩:=r2
 refine formatField_int_small hi ?_
 exact ⟨hl,joinParts_nil ⟨.str _,H2,I2.tok _,⟨_,rfl⟩,q2⟩ hl⟩
end
end L2
namespace L2
open PySem PySem.Spec PyProof.Rows
noncomputable def kW {α:Type} (xs:List α) (i k:Int):List α:=(sliceRange (max 0 (min i (xs.length:Int))) xs.length k).filterMap fun i => xs[i]?
theorem Ai {α:Type} (xs:List α) (i:Int) {k:Int} (hk:0 < k):(kW xs i k).length ≤ xs.length:=by
 unfold kW
 refine Nat.le_trans (List.length_filterMap_le _ _) ?_
 have:=sliceRange_len_le (max 0 (min i (xs.length:Int))) (xs.length:Int) k (by lia)
 rw [if_pos hk] at this
 lia
section
variable {X:Cx}
theorem tM {e el es:Expr} {te tl ts:TE} {pos p2:Pos} (he:PE X e te) (hl:PE X el tl) (hs:PE X es ts) :
  PE X (.Subscript e (.Slice (some el) none (some es) p2) pos) (fun σ H Q => te σ H fun x H1 => tl σ H1 fun z H2 => ts σ H2 fun y H3 => ∃ a xs i k,x = .ref a ∧ z = .int i ∧ y = .int k ∧ 0 ≤ i ∧ 0 < k ∧ i8 X.K H3 a xs ∧ ∀ p,H3 p = none → Q (.ref p) (upd H3 p (.lst (kW xs i k)))):=by
 intro ae s σ H Q I h
 refine Subscript_ (bF (he ae s σ H _ I h) fun v s1 ⟨x,H1,I1,r1,q1⟩ => ?_)
 refine wpAny_Slice ?_
 rw [evalPart_some]
 refine bF (hl ae s1 σ H1 _ I1 q1) fun v2 s2 ⟨z,H2,I2,r2,q2⟩ => ?_
 rw [evalPart_none]
 refine wpAny_pure ?_
 rw [evalPart_some]
 refine bF (hs ae s2 σ H2 _ I2 q2) fun v3 s3 ⟨y,H3,I3,r3,a,xs,i,k,e1,e2,e3,hi,hk,hx,q⟩ => ?_
 subst e1 e2 e3
 cases r1
 obtain ⟨ti,rfl⟩:=r2
 obtain ⟨tk,rfl⟩:=r3
 have I4:aG X ae σ H3 { s3 with heap:=s3.heap.push { cls:=.type "slice",data:=.fields #[.int i ti,.none,.int k tk] } }:=I3.kept (t':=s3.toks) fun b ob q => Heap.get?_push_of_some _ q
 show wpAny (model X.prog X.w) X.A (subscriptTail e (.Slice (some el) none (some es) p2) (.ref a) (.ref s3.heap.objs.size)) (EP X ae σ Q) X.xe { s3 with heap:=s3.heap.push { cls:=.type "slice",data:=.fields #[.int i ti,.none,.int k tk] } }
 obtain ⟨aA,r,ht,hz⟩:=I4.list hx
 have hlen:aA.toArray.size = xs.length:=by rw [List.size_toArray]; exact r.length.symm
 refine tail_any (ops:=[.ref a,.ref s3.heap.objs.size]) ht.isList.typeIs slot_list_getitem.lookup ?_ (by with_unfolding_all rfl)
 refine wpAny_getItem_list_slice ht.isList (Heap.IsSliceOf.new ..) (.int i ti) .none (.int k tk) (by intro z; injection z with z; lia) ?_ (by rw [hlen]; exact hz)
 have ep:slicePick aA.toArray (some i) none (some k) = (kW aA i k).toArray:=by
  have b1:(sliceBounds (some i) none (some k) aA.toArray.size).1 = max 0 (min i (aA.length:Int)):=by
   show (if k > 0 then max 0 (min (if i < 0 then i + ((aA.toArray.size:Nat):Int) else i) ((aA.toArray.size:Nat):Int)) else _) = _
   rw [if_pos hk,if_neg (by lia),List.size_toArray]
  have b2:(sliceBounds (some i) none (some k) aA.toArray.size).2.1 = (aA.length:Int):=by show (if k > 0 then ((aA.toArray.size:Nat):Int) else _) = _; rw [if_pos hk,List.size_toArray]
  have b3:(sliceBounds (some i) none (some k) aA.toArray.size).2.2 = k:=rfl
  unfold slicePick kW
  rw [b1,b2,b3]
  simp only [List.getElem?_toArray]
 rw [ep]
 refine ⟨.ref _,_,I4.laid (t':=s3.toks) (o:=.lst (kW xs i k)) (fun b ob q => Heap.get?_push_of_some _ q) (Nat.le_refl _) ?_,rfl,q _ (I4.bI.fresh (Nat.le_refl _))⟩
 refine ⟨Nat.le_trans (Ai xs i hk) hz,_,0,?_,Heap.get?_push_size _ rfl⟩
 unfold kW
 rw [show aA.length = xs.length from r.length.symm]
 exact ic _ r
end
end L2
namespace MN
open PySem PySem.Spec L2
open PyProof.Rows hiding St kindOf
noncomputable def jq (v l k:ao) (st:ag):bW ao:=match v,l,k with
 | .loc n,.int i,.int k => match ak st n with
  | some us => if 0 ≤ i ∧ 0 < k then .ok (.loc st.length) (st ++ [.lst (kW us i k)]) else .bad
  | none => .bad
 | _,_,_ => .bad
noncomputable def e? (m ml mk:ME):ME:=fun μ st => (m μ st).bind fun v st1 => (ml μ st1).bind fun l st2 => (mk μ st2).bind fun k fD => jq v l k fD
noncomputable def tN:FN
 | [.str x],st => match numOf x with
  | some n => .ok (.int n) st
  | none => .bad
 | _,_ => .bad
noncomputable def OL (k:Str) (z:Str) (i:Int):Str:=z ++ k ++ (toString i:Str)
noncomputable def C2 (k:Str) (ma mb:ME):ME:=pQ ma fun z μ st => if z.length ≤ sizeLine ∧ (z ++ k).length ≤ sizeLine then (mb μ st).bind fun v st2 => match v with
 | .int i => if i.natAbs.log2 < 1920 ∧ (OL k z i).length ≤ sizeLine then .ok (.str (OL k z i)) st2 else .bad
 | _ => .bad else .bad
section
variable {X:Cx} {E:XK} {e el es a b:Expr} {m ml mk ma mb:ME} {pos p1 p2 p3:Pos}
theorem tO (he:PE X e (tE X E m)) (hl:PE X el (tE X E ml)) (hs:PE X es (tE X E mk)):PE X (.Subscript e (.Slice (some el) none (some es) p2) pos) (tE X E (e? m ml mk)):=by
 refine PE.imp (tM he hl hs) ?_
 rintro σ H Q ⟨μ,ρ,st,rs,sr,h⟩
 refine go μ ρ st rs sr h fun u st1 ρ1 H1 x e1 bw r1 h1 => ?_
 refine go μ ρ1 st1 (rs.mono e1) bw h1 fun l st2 ρ2 H2 y e2 gy r2 h2 => ?_
 refine go μ ρ2 st2 ((rs.mono e1).mono e2) gy h2 fun k fD ρ3 H3 z e3 nL r3 h3 => ?_
 have MZ:=Rl.mono e3 _ _ (Rl.mono e2 _ _ r1)
 have Qt:=Rl.mono e3 _ _ r2
 cases u with
 | loc n =>
  cases l with
  | int i =>
   cases k with
   | int k =>
    unfold jq at h3
    dsimp only at h3
    cases hn:ak fD n with
    | none => rw [hn] at h3; exact h3.elim
    | some us =>
     rw [hn] at h3
     dsimp only at h3
     split at h3
     ·rename_i hk
      obtain ⟨a,rfl,ha⟩:=MZ.df
      obtain ⟨vs,h4,rv⟩:=bb nL hn ha
      refine ⟨a,vs,i,k,rfl,Qt.b6,r3.b6,hk.1,hk.2,h4,fun p hp => ?_⟩
      have rr:aP X.K ρ3 H3 (kW us i k) (kW vs i k):=by
       unfold kW
       rw [show us.length = vs.length from rv.length]
       exact jo _ rv
      obtain ⟨k1,k2,k3⟩:=eQ nL rr hp
      exact h3 _ _ _ k1 k2 k3
     ·exact h3.elim
   | _ => exact h3.elim
  | _ => exact h3.elim
 | _ => exact h3.elim
theorem J4:p? X (rM (wo X) E C0):=by
 refine p?.imp L2.sD ?_
 rintro x y H Q ⟨ρ,st,u,w,sr,r1,r2,h⟩
 cases u <;> cases w <;> try exact h.elim
 case mt.int us i =>
  unfold C0 at h
  dsimp only at h
  split at h
  ·rename_i v e
   obtain ⟨a,vs,rfl,ha,ra⟩:=r1.Mr
   obtain ⟨z,h1,h2⟩:=ra.nJ e
   exact ⟨a,vs,i,z,rfl,r2.b6,ha,h1,h ρ H z (ax.refl _ _) sr h2⟩
  ·exact h.elim
theorem w9:bV X (.type "int") (cM (wo X) E tN):=by
 refine bV.imp nY ?_
 rintro xs H Q ⟨ρ,st,us,sr,r,h⟩
 unfold tN at h
 split at h
 ·rename_i x
  obtain ⟨v,rfl,r1⟩:=r.v7
  split at h
  ·rename_i n hn
   exact ⟨x,n,by rw [r1.dE],hn,dq sr h⟩
  ·exact h.elim
 ·exact h.elim
theorem Hc {k:Str} {j:Nat} (ha:PE X a (tE X E ma)) (hb:PE X b (tE X E mb)):PE X (.JoinedStr [.FormattedValue a (-1) none p1,.Constant (.str k) j p2,.FormattedValue b (-1) none p3] pos) (tE X E (C2 k ma mb)):=by
 refine PE.imp (Hb ha hb) ?_
 rintro σ H Q ⟨μ,ρ,st,rs,sr,h⟩
 refine go μ ρ st rs sr h fun u st1 ρ1 H1 x e1 bw r1 h1 => ?_
 cases u with
 | str z =>
  dsimp only at h1
  split at h1
  ·rename_i hz
   refine ⟨z,r1.dE,hz.1,hz.2,?_⟩
   refine go μ ρ1 st1 (rs.mono e1) bw h1 fun v st2 ρ2 H2 y e2 gy r2 h2 => ?_
   cases v with
   | int i =>
    dsimp only at h2
    split at h2
    ·rename_i hi
     exact ⟨i,r2.b6,hi.1,hi.2,h2 ρ2 H2 _ (ax.refl _ _) gy (Rl.mkStr _)⟩
    ·exact h2.elim
   | _ => exact h2.elim
  ·exact h1.elim
 | _ => exact h1.elim
end
end MN
namespace L2
open PySem PySem.Spec PyProof.Rows
section
variable {X:Cx}
theorem C3 {i:Nat} {x:Str} {e:Expr} {te:HI} {pos pos':Pos} (hN:X.N.Nodup) (hi:X.N[i]? = some x) (hx:Loc X.env.scope x) (he:sM X e te) (hs:swapsWith e (some (.Name x pos')) pos.line X.env = pure false:=by rfl) (hf:X.fn x = true ∨ X.env.scope.names.lookup x = some .local:=by first | exact .inl rfl | exact .inr rfl | assumption) :
  qD X (.Assign [.Name x pos'] e pos) (fun D EX σ H => te σ H (fun v H1 => D.nx (σ.set i (some v)) H1) fun cls ea H' => EX cls ea σ H'):=by
 intro ae s σ H D EX I h
 refine wpAny_Assign_Name (wpAny_mono (he ae s σ H _ _ I h) (fun v s1 ⟨y,H1,I1,r1,q1⟩ => ?_) fun _ _ q => q.at) hs
 exact i! I1 hN hi hx r1 (fun s2 I2 => ⟨_,H1,I2,q1⟩) hf
end
end L2
namespace MN
open PySem PySem.Spec L2
open PyProof.Rows hiding St kindOf
noncomputable def C4 (μ:Env):Bool:=μ.all fun o => match o with
 | some v => !xO v
 | none => true
noncomputable def letGo (i:Nat):bQ → bQ
 | .rt v st => .rt v st
 | .nx μ st => if C4 (μ.set i none) = true then .nx (μ.set i none) st else .bad
 | _ => .bad
noncomputable def tP (sub:Str → Str → Option Bool) (x:Str) (i:Nat) (kr:MB) (rest:MH):MH:=fun c μ st => match sub c x with
 | some true => letGo i (kr (μ.set i (some (.exc c))) st)
 | some false => rest c μ st
 | none => .bad
theorem RS.drop {K:PySem.W.Frag} {mg:Str → Option Value} {pn B':List (Addr × Obj)} {ρ:List Addr} {H:Hp} {μ:Env} {σ:L2.St} {i:Nat} (h:RS ⟨K,mg,pn⟩ ρ H μ σ) (hx:C4 (μ.set i none) = true):RS ⟨K,mg,B'⟩ ρ H (μ.set i none) (σ.set i none):=by
 refine ⟨by rw [List.length_set,List.length_set]; exact h.len,fun j u e => ?_⟩
 have hj:xO u = false:=by
  have:=List.all_eq_true.mp hx _ (List.mem_of_getElem? e)
  simpa using this
 have ne:¬ j = i:=by
  intro z
  subst z
  have hl:=d7 e
  rw [List.length_set] at hl
  rw [List.getElem?_set_self hl] at e
  cases e
 rw [List.getElem?_set_ne (fun y => ne y.symm)] at e ⊢
 obtain ⟨v,h1,h2⟩:=h.at_ j u e
 exact ⟨v,h1,sN.of (h2.un (by rw [hj]; decide))⟩
section
variable {X:Cx} {pos:Pos} {e:Expr} {m:ME}
theorem vi (i:Nat) {x:Str} {pos':Pos} (hN:X.N.Nodup) (he:sM X e (HP X m)) (hi:X.N[i]? = some x:=by rfl) (hx:Loc X.env.scope x:=by first | exact Or.inl rfl | exact Or.inr rfl) (hs:swapsWith e (some (.Name x pos')) pos.line X.env = pure false:=by rfl)
  (hf:X.fn x = true ∨ X.env.scope.names.lookup x = some .local:=by first | exact .inl rfl | exact .inr rfl | assumption):qD X (.Assign [.Name x pos'] e pos) (wj X (bu i m)):=by
 refine qD.imp (C3 hN hi hx he hs hf) ?_
 rintro D EX σ H ⟨μ,ρ,st,rs,sr,h⟩
 exact y! rs sr h fun u st1 ρ1 H1 x e1 bw r1 h1 => h1 ρ1 H1 _ (ax.refl _ _) bw ((rs.mono e1).set i r1)
theorem Hd {x n:Str} {i:Nat} {np:Pos} {b₀:Stmt} {kr:List Stmt} {rest:List ExceptHandler} {tab:List (Str × Str × Bool)} {s:MB} {r:MH} (hS:dR X.K X.mg tab) (hN:X.N.Nodup) (h:zh X.K X.mg x) (hg:Gl X x) (hs:∀ ea oe,gG (L2.vY X ea oe) (b₀ :: kr) (tS (L2.vY X ea oe) E0 s)) (hr:PH X rest (Js X r)) (hi:X.N[i]? = some n:=by rfl) (hl:X.env.scope.names.lookup n = some .local:=by rfl) (hd:(x == ("__debug__":Str)) = false:=by decide) :
  PH X (.ExceptHandler (some (.Name x np)) (some n) (b₀ :: kr) pos :: rest) (Js X (tP (c7 tab) x i s r)):=by
 obtain ⟨C,hm,_,hB⟩:=h
 have hS:=hS.Jv
 refine PH.imp (Jg hN hi hl hg hm hB hs hr hd) ?_
 rintro D EX cls ea σ H ⟨c,C',μ,ρ,st,h1,rfl,rs,sr,h⟩
 unfold tP at h
 split at h
 ·rename_i e
  refine ⟨true,hS c x true C' C e h1 hm,?_⟩
  rw [if_pos rfl]
  intro oe B5
  have uW:RS (wo (L2.vY X ea oe)) ρ H (μ.set i (some (.exc c))) (σ.set i (some (.ref ea))) :=
   (RS.pn (fun q hq => List.mem_cons_of_mem _ hq) rs).Jj i ⟨ea,oe,C',rfl,List.mem_cons_self,h1,B5⟩
  refine ⟨_,ρ,st,uW,sr,?_⟩
  revert h
  cases s (μ.set i (some (.exc c))) st with
  | rt v av => exact fun q => q
  | nx μ' av =>
   intro q
   unfold letGo at q
   dsimp only at q
   split at q
   ·rename_i hx
    exact fun ρ2 H2 σ2 e2 s2 r2 => q ρ2 H2 (σ2.set i none) e2 s2 (RS.drop r2 hx)
   ·exact q.elim
  | _ => exact fun q => q.elim
 ·rename_i e
  refine ⟨false,hS c x false C' C e h1 hm,?_⟩
  rw [if_neg Bool.false_ne_true]
  exact ⟨c,C',μ,ρ,st,h1,rfl,rs,sr,h⟩
 ·exact h.elim
end
end MN
namespace L2
open PySem PySem.Spec PyProof.Rows
section
variable {pg:Program} {w:World} {B:Around} {EE:Value → Shared → Prop} {z:Shared}
theorem rn {a t:Addr} {i:Nat} {xs:Array Value} {x:Value} {R:Value → Shared → Prop} (ha:z.heap.IsTupleIter a t i) (ht:z.heap.IsTuple t xs) (hx:xs[i]? = some x)
  (k:∀ y,y.IsTupleIter a t (i + 1) → Heap.SameBut a z.heap y → R x { z with heap:=y }):wpAny (model pg w) B (Builtin.SmallTypes.nextOf (.ref a)) R EE z:=by
 obtain ⟨q,e1,e2,e3⟩:=id ha
 obtain ⟨r,f1,_,nn,f2⟩:=ht
 unfold Builtin.SmallTypes.nextOf
 refine wpAny_bind (wpAny_callSpecial?_slot (name:=Str.ofString "__next__") ha.typeIs F.slot_tuple_iterator_next (wpAny_call_entry F.slot_tuple_iterator_next ha.typeIs F.entry_tuple_iterator_next ?_ (F.args_tuple_iterator_next_1 _)))
 show wpAny _ _ (field (.ref a) 0 >>= _) _ _ z
 refine wpAny_bind (wpAny_field e1 e3 (x:=.ref t) rfl ?_)
 show wpAny _ _ (if (Value.ref t == Value.none) = true then _ else _) _ _ z
 rw [if_neg (show ¬ ((Value.ref t == Value.none) = true) from nofun)]
 show wpAny _ _ (field (.ref a) 1 >>= _) _ _ z
 refine wpAny_bind (wpAny_field e1 e3 (x:=.int i 0) rfl ?_)
 show wpAny _ _ (seqItems? (.ref t) >>= _) _ _ z
 refine wpAny_bind (wpAny_seqItems f1 f2 ?_); simp only [Int.toNat_natCast,hx]
 refine wpAny_bind (wpAny_setField e1 e3 (by simp) (wpAny_pure ⟨x,rfl,wpAny_pure (k _ ?_ (Heap.SameBut.update ..))⟩))
 exact ⟨_,Heap.get?_update_self _ e1 (Obj.isFreed_of_fields (Obj.data_mapFields e3 _)),(Obj.cls_mapFields ..).trans e2,by rw [Obj.data_mapFields e3]; simp [rawInt]⟩
theorem mW {a t:Addr} {i:Nat} {xs:Array Value} {R:Value → Shared → Prop} (hB:B.handled = none) (ha:z.heap.IsTupleIter a t i) (ht:z.heap.IsTuple t xs) (hx:xs[i]? = none)
  (k:∀ y e,Heap.ExtBut a z.heap y → (∃ o,y.get? e = some o ∧ o.cls = .type "StopIteration") → EE (.ref e) { z with heap:=y }):wpAny (model pg w) B (Builtin.SmallTypes.nextOf (.ref a)) R EE z:=by
 obtain ⟨q,e1,e2,e3⟩:=id ha
 obtain ⟨r,f1,_,nn,f2⟩:=ht
 unfold Builtin.SmallTypes.nextOf
 refine wpAny_bind (wpAny_callSpecial?_slot (name:=Str.ofString "__next__") ha.typeIs F.slot_tuple_iterator_next (wpAny_call_entry F.slot_tuple_iterator_next ha.typeIs F.entry_tuple_iterator_next ?_ (F.args_tuple_iterator_next_1 _)))
 show wpAny _ _ (field (.ref a) 0 >>= _) _ _ z
 refine wpAny_bind (wpAny_field e1 e3 (x:=.ref t) rfl ?_)
 show wpAny _ _ (if (Value.ref t == Value.none) = true then _ else _) _ _ z
 rw [if_neg (show ¬ ((Value.ref t == Value.none) = true) from nofun)]
 show wpAny _ _ (field (.ref a) 1 >>= _) _ _ z
 refine wpAny_bind (wpAny_field e1 e3 (x:=.int i 0) rfl ?_)
 show wpAny _ _ (seqItems? (.ref t) >>= _) _ _ z
 refine wpAny_bind (wpAny_seqItems f1 f2 ?_); simp only [Int.toNat_natCast,hx]
 refine wpAny_bind (wpAny_rule (wpAny_bind (wpAny_setField e1 e3 (by simp) ?_)))
 refine wpAny_bind (m:=newExc (.type "StopIteration") []) ?_; simp only [newExc,newTuple]
 refine wpAny_bind (wpAny_newObj_type (wpAny_bind (m:=firstArgMember _ _) (wpAny_of_eq (a:=Value.none) (by first | rfl | (simp only [firstArgMember]; rfl)) ?_)) (by size_fits))
 refine wpAny_newObj_type ?_ (by size_fits); simp only [raiseNew]
 refine wpAny_bind (wpAny_handled ?_)
 first | rw [show B.in1.handled = none from hB] | rw [hB]
 exact wpAny_bind (wpAny_pure (wpAny_throw (k _ _ (((Heap.SameBut.update ..).extBut.push _).push _) ⟨_,Heap.get?_push_size _ rfl,rfl⟩)))
end
theorem He {pg:Program} {w:World} {B:Around} (hB:B.handled = none) (it l:Addr) (ne:l ≠ it) (xs:Array Value):Draws pg w B it [it,l] xs.size (fun i v => xs[i]? = some v) (fun i h => h.IsTupleIter it l i ∧ h.IsTuple l xs) where
 live:=fun _ _ st => let ⟨o,ho,_⟩:=st.1; ⟨o,ho⟩
 frame:=fun _ _ _ st hk => ⟨st.1.at fun o e => hk it (by simp) o e,let ⟨o,e,r⟩:=st.2; ⟨o,hk l (by simp) o e,r⟩⟩
 item:=fun i s Q E hi st hQ => rn st.1 st.2 (x:=xs[i]) (by simp [hi]) fun y h1 h2 => hQ _ y s.toks (by simp [hi]) ⟨h1,st.2.extBut h2.extBut ne⟩ h2
 done:=fun s Q E st hE => mW hB st.1 st.2 (by simp) hE
theorem Hf {pg:Program} {w:World} {B:Around} (hB:B.handled = none) (it l:Addr) (xs:Array Value) (i:Nat) (hx:xs.size ≤ i):Draws pg w B it [it,l] i (fun _ _ => True) (fun j h => j = i ∧ h.IsTupleIter it l j ∧ h.IsTuple l xs) where
 live:=fun _ _ st => let ⟨o,ho,_⟩:=st.2.1; ⟨o,ho⟩
 frame:=fun _ _ _ st hk => ⟨st.1,st.2.1.at fun o e => hk it (by simp) o e,let ⟨o,e,r⟩:=st.2.2; ⟨o,hk l (by simp) o e,r⟩⟩
 item:=fun j s Q E hj st hQ => absurd st.1 (by lia)
 done:=fun s Q E st hE => mW hB st.2.1 st.2.2 (by simp [hx]) hE
section
variable {pg:Program} {w:World} {B:Around} {EE:Value → Shared → Prop} {z:Shared}
open AutoSeq1 (wpAny_loadPart') in
theorem w_ (l:Addr) (xs:Array Value) (n:Nat) (M3:Option Addr) (sl:Array (Option Value)) :
  Meets (Builtin.«enumerate.__new__» ⟨[.type "enumerate",.ref l],[]⟩) (fun _ R s => s.heap.get? l = some { cls:=.type "tuple",dict:=M3,data:=.seq xs n,slots:=sl } ∧ R (.ok (.ret (.ref (s.heap.push { cls:=.type "tuple_iterator",data:=.fields #[.ref l,.int 0 0] }).objs.size)))
    { s with heap:=(s.heap.push { cls:=.type "tuple_iterator",data:=.fields #[.ref l,.int 0 0] }).push { cls:=.type "enumerate",data:=.fields #[.none,.bool false,.ref s.heap.objs.size,rawInt 0,.none,.none] } }) :=
 .of_wp fun pg w A R s h => by
  obtain ⟨hp,g,d,tk,os⟩:=s
  obtain ⟨hl,h⟩:=h
  have Me:=sub_enumerate
  have hT:Heap.IsTuple (Shared.heap ⟨hp,g,d,tk,os⟩) l xs:=⟨_,hl,rfl,n,rfl⟩
  wp_walk using wpAny_loadPart' hl
  refine wpAny_stack_any fun st => wpAny_pure ?_
  split
  ·rename_i c _ _ _ _ _
   cases (c == Value.type "enumerate")
   ·wp_walk using wpAny_loadPart' hl,wpAny_pyIter_tuple hT
    exact ⟨_,rfl,h⟩
   ·wp_walk using wpAny_loadPart' hl,wpAny_pyIter_tuple hT
    exact ⟨_,rfl,h⟩
  ·wp_walk using wpAny_loadPart' hl,wpAny_pyIter_tuple hT
   exact ⟨_,rfl,h⟩
theorem Aj {l:Addr} {xs:Array Value} {Q:Value → Shared → Prop} (hL:z.heap.IsTuple l xs)
  (h:∀ h',IsEnum h' (z.heap.objs.size + 1) z.heap.objs.size 0 .none → h'.IsTupleIter z.heap.objs.size l 0 → (∀ b o,z.heap.get? b = some o → h'.get? b = some o) → Q (.ref (z.heap.objs.size + 1)) { z with heap:=h' }):wpAny (model pg w) B (call (.type "enumerate") [.ref l]) Q EE z:=by
 obtain ⟨⟨c,M3,dt,sl⟩,hl,hc,n,hd⟩:=hL
 dsimp only at hc hd
 subst hc hd
 refine callType_new F.called_enumerate (by decide) (F.typeCall_enumerate_1 _) (F.newCall_enumerate_1 _) (fun obj => F.args_object_init_2 obj _) F.entry_enumerate_new (w_ l xs n M3 sl) ⟨hl,?_⟩
 have hz:(z.heap.push { cls:=.type "tuple_iterator",data:=.fields #[.ref l,.int 0 0] }).objs.size = z.heap.objs.size + 1:=Heap.size_push ..
 show _ ∧ _
 rw [hz]
 have he:IsEnum ((z.heap.push { cls:=.type "tuple_iterator",data:=.fields #[.ref l,.int 0 0] }).push { cls:=.type "enumerate",data:=.fields #[.none,.bool false,.ref z.heap.objs.size,rawInt 0,.none,.none] }) (z.heap.objs.size + 1) z.heap.objs.size 0 .none:=by
  have:=Heap.get?_push_size (z.heap.push { cls:=.type "tuple_iterator",data:=.fields #[.ref l,.int 0 0] }) (o:={ cls:=.type "enumerate",data:=.fields #[.none,.bool false,.ref z.heap.objs.size,rawInt 0,.none,.none] }) rfl
  rw [hz] at this
  exact this
 exact ⟨⟨_,he,rfl⟩,h _ he ⟨_,Heap.get?_push_of_some _ (Heap.get?_push_size _ rfl),rfl,rfl⟩ fun b o x => Heap.get?_push_of_some _ (Heap.get?_push_of_some _ x)⟩
end
noncomputable def OM (K:PySem.W.Frag) (a:Addr):It :=
 ⟨fun i H => ∃ xs x,hR K H a xs ∧ xs[i]? = some x,
  fun i H v H' => ∃ p x,v = .ref p ∧ H p = none ∧ H' = upd H p (.tup [.int i,x]) ∧ ∀ xs,hR K H a xs → xs[i]? = some x,
  fun i H => ∃ xs,hR K H a xs ∧ xs.length ≤ i⟩
theorem Ak {P:Program} {w:World} {K:PySem.W.Frag} {elts:List Expr} {kt:Nat} {tp:Pos} {e it:Addr} (a:Addr) (ne:e ≠ it) (ne1:a ≠ it) (ne2:e ≠ a) :
  Turn P w K (.Tuple elts kt tp) (OM K a) [e,it] e (fun i h => (∃ old,IsEnum h e it (i:Int) old) ∧ h.IsTupleIter it a i) where
 mem:=by simp
 obj:=fun i h ⟨⟨old,he⟩,hi⟩ c hc => by
  have cz:c = e ∨ c = it:=by simpa using hc
  rcases cz with rfl | rfl
  ·exact ⟨_,he,fun v q => by have q':Data.fields _ = Data.cell v:=q; cases q'⟩
  ·obtain ⟨o,e',c,d⟩:=hi
   exact ⟨o,e',fun v z => by rw [d] at z; cases z⟩
 keep:=fun i h h' ⟨⟨old,he⟩,hi⟩ k => ⟨⟨old,k e (by simp) _ he⟩,hi.at fun o e' => k it (by simp) o e'⟩
 item:=by
  intro X hP hw hK hc i ae s σ H E I hf st hg
  subst hP hw hK
  obtain ⟨⟨old,he⟩,hi⟩:=st
  obtain ⟨xs,x,sx,ex⟩:=hg
  obtain ⟨aA,rv,p,_⟩:=I.tuple sx
  obtain ⟨ux,KJ,rx⟩:=rv.get ex
  have fz:=hf e (by simp)
  have uJ:i < aA.toArray.size:=by
   obtain ⟨h,_⟩:=List.getElem?_eq_some_iff.mp KJ
   simpa using h
  have hn:X.A.in1.handled = none:=I.ok.hd hc
  refine wpAny_pyNext_enum_itemD (He hn it a ne1 aA.toArray) he ⟨hi,p⟩ uJ ne (by simp [ne,ne2]) fun u h' tk a0 a1 a2 a3 a4 a5 => ⟨_,rfl,?_⟩
  have eu:u = ux:=by
   rw [List.getElem?_toArray,KJ] at a0
   exact (Option.some.inj a0).symm
  subst eu
  have hT:H s.heap.objs.size = none:=I.bI.fresh (Nat.le_refl _)
  have Ja:∀ c ∈ [e,it],H c = none:=fun c cz => (hf c cz).1
  have kp:∀ c o,c ∉ [e,it] → s.heap.get? c = some o → h'.get? c = some o:=fun c o cz q => a5 c o (fun z => cz (by simp [z])) (fun z => cz (by simp [z])) q
  have qe:∀ c o,H c = some o → c ∉ [e,it]:=fun c o q cz => by rw [Ja c cz] at q; cases q
  have bI:f7 X.prog X.w (upd H s.heap.objs.size (.tup [.int i,x])) h':=fun c o q => by
   by_cases Jb:c = s.heap.objs.size
   ·subst Jb
    rw [bT] at q
    cases q
    exact ⟨by show 2 ≤ sizeLine; decide,[.int i tk,u],.cons ⟨_,rfl⟩ (.cons rx .nil),_,a3,rfl,_,rfl⟩
   ·rw [aV Jb] at q
    refine (I.bI c o q).jF (fun d v hd z => kp d v ?_ z) (fun d z => by rw [aV (aW z hT)]; exact z) fun d zs z => by rw [aV (aW z hT)]; exact z
    rcases hd with q' | q'
    ·rw [q']; exact qe c o q
    ·exact qe d _ q'
  have un:Un (eM X.stack) [e,it] H (upd H s.heap.objs.size (.tup [.int i,x])) s.heap h' :=
   ⟨fun c o q n _ cz => kp c o cz q,fun c o q n _ cz => ⟨o.slots,kp c o cz q⟩,fun c o q n cz => by rw [aV (Nat.ne_of_lt (Heap.lt_size q))]; exact n,fun c o q cz => ⟨o,kp c o cz q⟩,
    fun c zs q => by rw [aV (aW q hT)]; exact q,fun c o u q => by rw [aV (aW q hT)]; exact q,fun c ps q => ⟨#[],by rw [aV (aW q hT),q]; simp⟩⟩
  have I1:aG X ae σ (upd H s.heap.objs.size (.tup [.int i,x])) { s with heap:=h',toks:=tk + 1 }:=I.qh rfl un bI I.bare fun c cz => by
   obtain ⟨f0,f1,f2,f3,f4,f5⟩:=hf c cz
   exact ⟨f3,f1,f4,f5⟩
  have Mg:∀ c ∈ [e,it],c ≠ s.heap.objs.size:=fun c cz q => by
   have uJ:c < s.heap.objs.size:=by
    have FE:c = e ∨ c = it:=by simpa using cz
    rcases FE with r | r
    ·rw [r]; exact Heap.lt_size he
    ·obtain ⟨o,e',_⟩:=hi; rw [r]; exact Heap.lt_size e'
   exact absurd uJ (by rw [q]; exact Nat.lt_irrefl _)
  have Jc:∀ c ∈ [e,it],(upd H s.heap.objs.size (.tup [.int i,x])) c = none:=fun c cz => by rw [aV (Mg c cz)]; exact (hf c cz).1
  refine wpAny_letOwnedTupleGo_enum a1 fun B6 M4 sb => ?_
  obtain ⟨f0,f1,f2,f3,f4,f5⟩:=fz
  have I2:aG X ae σ (upd H s.heap.objs.size (.tup [.int i,x])) { s with heap:=B6,toks:=tk + 1 }:=I1.turned (s:={ s with heap:=h',toks:=tk + 1 }) (t':=tk + 1) (it:=e) (fun c o cz q => (sb.2 c cz).trans q) (Jc e (by simp)) f1 f3 f4 f5
  refine ⟨.ref s.heap.objs.size,_,I2,rfl,⟨_,x,rfl,hT,rfl,fun zs hs => by rw [I.hU hs sx]; exact ex⟩,⟨⟨_,M4⟩,a2.1.at fun o q => sb.extBut _ o ne.symm q⟩,Jc⟩
 done:=by
  intro X hP hw hK hc i ae s σ H E I hf st hg
  subst hP hw hK
  obtain ⟨⟨old,he⟩,hi⟩:=st
  obtain ⟨xs,sx,hl⟩:=hg
  obtain ⟨aA,rv,p,_⟩:=I.tuple sx
  have l1:=rv.length
  obtain ⟨f0,f1,f2,f3,f4,f5⟩:=hf it (by simp)
  have hn:X.A.in1.handled = none:=I.ok.hd hc
  exact wpAny_pyNext_enum_endD (Hf hn it a aA.toArray i (by simp; lia)) he ⟨rfl,hi,p⟩ fun h' eb => ⟨rfl,I.turned (t':=s.toks) (fun b o hb q => eb b o hb q) f0 f1 f3 f4 f5⟩
 self:=fun _ _ _ _ _ st h => by
  obtain ⟨⟨old,he⟩,hi⟩:=st
  exact wpAny_pyIter_enum he h
section
variable {X:Cx} {elts:List Expr} {kt:Nat} {tp p pos:Pos}
theorem Al {a:Expr} {ta:TA} (hg:Gl X "enumerate") (hm:X.mg "enumerate" = none) (hv:bootBuiltins "enumerate" = some (.type "enumerate")) (ha:PA X [a] ta) (hs:starEach [a] X.env = [(false,eval a X.env)]:=by rfl) :
  PI X (.Tuple elts kt tp) (.Call (.Name "enumerate" p) [a] [] pos) (fun σ H R => ta σ H fun vs H1 => ∃ b xs,vs = [.ref b] ∧ hR X.K H1 b xs ∧ R (OM X.K b) H1):=by
 intro ae s σ H R I h
 refine Call_ (gH I hg hm hv (PyProof.Rows.callWith_type1 (bF (ha pos ae s σ H _ I h) fun us s1 ⟨vs,H1,I1,r1,q1⟩ => ?_) hs rfl))
 obtain ⟨b,xs,e,hq,q⟩:=q1
 subst e
 obtain ⟨u,rfl,ru⟩:=a7.one r1
 cases ru
 obtain ⟨aA,rv,pl,hz⟩:=I1.tuple hq
 have ON:b < s1.heap.objs.size:=let ⟨_,e,_⟩:=pl; Heap.lt_size e
 refine Aj pl fun h' he hi kp => ?_
 have I2:aG X ae σ H1 { s1 with heap:=h' }:=I1.kept (t':=s1.toks) kp
 have T:=Ak (P:=X.prog) (w:=X.w) (K:=X.K) (elts:=elts) (kt:=kt) (tp:=tp) (e:=s1.heap.objs.size + 1) (it:=s1.heap.objs.size) b (Nat.succ_ne_self _) (Nat.ne_of_lt ON) (Nat.ne_of_lt (Nat.lt_succ_of_lt ON)).symm
 refine T.self X.A 0 { s1 with heap:=h' } _ _ ⟨⟨_,he⟩,hi⟩ ?_
 refine ⟨s1.heap.objs.size + 1,[s1.heap.objs.size + 1,s1.heap.objs.size],_,_,H1,rfl,I2,T,⟨⟨_,he⟩,hi⟩,fun c hc => ?_,q⟩
 have hle:s1.heap.objs.size ≤ c:=by
  have cz:c = s1.heap.objs.size + 1 ∨ c = s1.heap.objs.size:=by simpa using hc
  rcases cz with r | r <;> (rw [r]; first | exact Nat.le_refl _ | exact Nat.le_add_right _ _)
 exact I1.vD hle (I1.bI.fresh hle)
end
end L2
namespace MN
open PySem PySem.Spec L2
open PyProof.Rows hiding St kindOf
noncomputable def J5 (vs:List ao) (av:ag):bW Itm:=match vs with
 | [.tup us] => .ok (oK 0 us,fun _ => True) av
 | _ => .bad
noncomputable def mX (m:MA):MI:=fun μ st => (m μ st).bind J5
section
variable {X:Cx} {E:XK} {tg:Expr} {pos p:Pos}
theorem Am {elts:List Expr} {kt:Nat} {tp:Pos} {a:Expr} {m:MA} (hg:Gl X "enumerate") (hm:X.mg "enumerate" = none) (ha:PA X [a] (tL X E m)) (hs:starEach [a] X.env = [(false,eval a X.env)]:=by rfl):PI X (.Tuple elts kt tp) (.Call (.Name "enumerate" p) [a] [] pos) (tI X E (mX m)):=by
 refine PI.imp (Al hg hm PyProof.Rows.Boot.«enumerate» ha hs) ?_
 rintro σ H R ⟨μ,ρ,st,rs,sr,h⟩
 refine go (R1:=aP X.K) μ ρ st rs sr h fun us st1 ρ1 H1 xs e1 bw r1 h1 => ?_
 unfold J5 at h1
 split at h1
 ·rename_i ws
  obtain ⟨v,rfl,rv⟩:=r1.v7
  obtain ⟨b,vs,rfl,JB,Qu⟩:=rv.fg
  refine ⟨b,vs,rfl,JB,h1 ρ1 H1 _ (ax.refl _ _) bw ?_⟩
  intro ρ' av H' e s g i
  have s1:=e.KQ JB
  have t1:=aP.mono e _ _ Qu
  refine ⟨fun z hz => ?_,fun hi => ⟨vs,s1,?_⟩⟩
  ·obtain ⟨u,hu,rfl⟩:=qO ws 0 i z hz
   obtain ⟨y,hy,ry⟩:=t1.get hu
   refine ⟨⟨vs,y,s1,hy⟩,fun x' KW y' => ?_⟩
   obtain ⟨pp,x1,rfl,hp,rfl,f1⟩:=y'
   have c1:=(f1 vs s1).symm.trans hy
   cases c1
   rw [Nat.zero_add]
   exact ⟨ax.same (cC hp),s.grow (cC hp),Rl.l? bT (aP.mono (ax.same (cC hp)) _ _ (aP.cons (Rl.mkInt _) (aP.one ry)))⟩
  ·have BY:(oK 0 ws).length ≤ i:=hi
   rw [oM] at BY
   rw [← t1.length]; exact BY
 ·exact h1.elim
end
end MN
namespace PM
open PySem PySem.Spec L2 MN
open PyProof.Rows hiding St
noncomputable def gu:ao:=.mt ((["x","y","z","w"]:List Str).map ao.str)
noncomputable def mY:ao:=.mt ((["+","-"]:List Str).map ao.str)
noncomputable def d_:FN:=dM 2 2 (aw (cg (bg (aj cb (af 1) (mC (.int 0)))) (cD "NoInverse" (aa (mC (.str "nothing is divided by nought")) ah)) aD) (aw (cg (bg (aj kB (aj bB (af 0) (af 1)) (mC (.int 0)))) (cD "NotWhole" (aa (mC (.str "no whole number makes the first one of the second")) ah)) aD) jm))
noncomputable def eT:FN:=dM 2 2 (aw (cg (bg (af 0)) (aO (v9 (bg (aj ltV (af 1) (mC (.int 0)))) (mC (.str "-")) (mC (.str "")))) aD) (aO (v9 (bg (aj ltV (af 1) (mC (.int 0)))) (mC (.str " - ")) (mC (.str " + ")))))
noncomputable def dw:FN:=dM 2 2 (aO (v9 (bg (aj cb (af 1) (mC (.int 1)))) (af 0) (C2 "^" (af 0) (af 1))))
noncomputable def cG:FN:=dM 1 1 (aO (mq (aj HJ (ai dC (aa (af 0) ah)) (mC (.int 0))) (ai jP (aa (b! 1 [] (mV (af 0)) (aB 0) bD (aj J3 (af 0) (mC (.str "0123456789")))) ah))))
noncomputable def cm:FN:=dM 2 3 (aw (gD (gg (aa (af 0) ah)) (aB 2) (cg (bg (aj cb (aj C0 (mC PM.gu) (af 2)) (af 1))) (aO (af 2)) aD)) (cD "NotWritten" (aa (mC (.str "a term is of figures and of the letters of the unknowns")) ah)))
noncomputable def c_:FN:=dM 1 2 (aw (cg (bg (aj cb (aj bB (af 0) (mC (.int 4))) (mC (.int 0)))) (aO (aj gz (bx (aa (mC (.bl true)) (aa (mC (.bl false)) (aa (mC .cB) (aa (mC (.str "2")) ah))))) (aj bB (aj cY (af 0) (mC (.int 4))) (mC (.int 4))))) aD) (aw (bu 1 (aj Ce (aj bB (aj cY (af 0) (mC (.int 4))) (mC (.int 1300))) (mC (.int 100)))) (aw (cg (bg (aj cb (aj bB (af 0) (mC (.int 4))) (mC (.int 1)))) (bu 1 (aj gz (bx (aa (mC (.int 9)) (aa (mC (.int 15)) (aa (mC (.int 25)) (aa (mC (.int 49)) (aa (mC (.int 77)) (aa (mC (.int 91)) (aa (mC (.int 119)) (aa (mC (.int 121)) (aa (mC (.int 169)) (aa (mC (.int 289)) (aa (mC (.int 361)) (aa (mC (.int 529)) (aa (mC (.int 841)) (aa (mC (.int 961)) (aa (mC (.int 1009)) (aa (mC (.int 10007)) ah))))))))))))))))) (aj bB (aj cY (af 0) (mC (.int 4))) (mC (.int 16))))) aD) (aw (fG (iP (bg (aj cb (af 1) (mC (.int 0)))) (kA (bg (iO Cf Cf (mC (.int 2)) (af 1) (mC (.int 997)))) (bg (aj cb (b! 1 [1] (jd (aa (mC (.int 2)) (aa (mC (.int 32)) ah))) (aB 0) (kA (bg (aj ltV (af 0) (af 1))) (bg (aj cb (aj bB (af 1) (af 0)) (mC (.int 0))))) (af 0)) (bx ah))))) (bu 1 (aj c! (af 1) (mC (.int 1))))) (aO (af 1))))))
noncomputable def eU:FN:=dM 2 3 (aw (bu 2 (b! 2 [] (mX (aa (af 0) ah)) (fh [(aB 0),(aB 1)]) (bg (aj kB (af 1) (mC (.int 0)))) (ai PM.dw (aa (aj C0 (mC PM.gu) (af 0)) (aa (af 1) ah))))) (aw (cg (iP (bg (aj kB (af 1) (mC (.int 1)))) (bg (aj cb (ai dC (aa (af 2) ah)) (mC (.int 0))))) (aO (gA (mC (.str "*")) (aj c! (bx (aa (ai Ag (aa (af 1) ah)) ah)) (af 2)))) aD) (aO (gA (mC (.str "*")) (af 2)))))
noncomputable def b8:FN:=dM 1 2 (aw (cg (bg (aj cb (af 0) (mC (.str "")))) (aO (mC (.int 1))) aD) (aw (bu 1 (fV (af 0) (dj (mC (.int 1))) dh)) (aw (cg (iP (bg (aj kB (aj gz (af 0) (mC (.int 0))) (mC (.str "^")))) (iP (c6 (bg (ai PM.cG (aa (af 1) ah)))) (bg (aj HJ (ai dC (aa (af 1) ah)) (mC (.int 2)))))) (cD "NotWritten" (aa (mC (.str "behind a letter stands nothing, or ^ and an exponent to 99")) ah)) aD) (aO (ai tN (aa (af 1) ah))))))
noncomputable def eV:FN:=dM 3 3 (aw (bh (ai PM.cw (aa (af 0) ah))) jm)
noncomputable def d!:FN:=dM 2 2 (aw (bh (ai PM.cw (aa (af 0) ah))) (aw (cg (bg (aj cb (ai dC (aa (af 1) ah)) (mC (.int 0)))) (cD "NoLead" (aa (mC (.str "nought has no highest term")) ah)) aD) jm))
noncomputable def shown:FN:=dM 1 4 (aw (cg (bg (aj cb (ai dC (aa (af 0) ah)) (mC (.int 0)))) (aO (mC (.str "0"))) aD) (aw (bu 1 (bx ah)) (aw (gD (dg (af 0)) (fh [(aB 2),(aB 3)]) (aw (bh (sV dF (af 1) (aa (ai PM.eT (aa (aj cb (ai dC (aa (af 1) ah)) (mC (.int 0))) (aa (af 3) ah))) ah))) (bh (sV dF (af 1) (aa (ai PM.eU (aa (af 2) (aa (ai sP (aa (af 3) ah)) ah))) ah))))) (aO (gA (mC (.str "")) (af 1))))))
noncomputable def cO:FN:=dM 3 6 (aw (cg (bg (aj (uR true) (af 1) (mC PM.mY))) (cD "NotWritten" (aa (mC (.str "between two terms stands + or -")) ah)) aD) (aw (bu 3 (v9 (bg (aj cb (af 1) (mC (.str "-")))) (v_ (mC (.int 1))) (mC (.int 1)))) (aw (bu 4 (aj dN (bx (aa (mC (.int 0)) ah)) (af 0))) (aw (gD (dg (eh (af 2) (mC (.str "*")))) (aB 5) (cg (bg (ai PM.cG (aa (af 5) ah))) (bu 3 (aj dN (af 3) (ai tN (aa (af 5) ah)))) (u3 (af 4) (ai PM.cm (aa (af 0) (aa (fV (af 5) dh (dj (mC (.int 1)))) ah))) (ai PM.b8 (aa (fV (af 5) (dj (mC (.int 1))) dh) ah))))) (aO (du (aa (ai sQ (aa (af 4) ah)) (aa (af 3) ah))))))))
noncomputable def cP:FN:=dM 2 2 (aw (bh (ai PM.az (aa (af 0) ah))) (aw (cg (bg (aj cb (af 0) (mC (.int 0)))) (aO (ai PM.fH (aa (af 1) ah))) aD) (aw (cg (bg (aj cb (aj bB (af 1) (af 0)) (mC (.int 0)))) (cD "NoInverse" (aa (mC (.str "a multiple of the prime has no inverse")) ah)) aD) jm)))
noncomputable def cH:FN:=dM 3 3 (aw (bh (ai PM.az (aa (af 0) ah))) (aw (bh (ai PM.aE (aa (af 1) ah))) jm))
noncomputable def lO:FN:=dM 3 3 (aw (bh (ai PM.az (aa (af 0) ah))) jm)
noncomputable def jr:FN:=dM 3 3 (aw (bh (ai PM.az (aa (af 0) ah))) jm)
noncomputable def js:FN:=dM 3 3 (aw (bh (ai PM.az (aa (af 0) ah))) jm)
noncomputable def ie:FN:=dM 3 3 (aw (bh (ai PM.az (aa (af 0) ah))) jm)
noncomputable def dA:FN:=dM 3 3 (aw (bh (ai PM.az (aa (af 0) ah))) (aw (cg (iP (c6 (bg (ai PM.cR (aa (af 2) ah)))) (bg (aj ltV (af 2) (mC (.int 1))))) (cD "NoCount" (aa (mC (.str "a sum is raised by a whole number from 1 on")) ah)) aD) jm))
noncomputable def jt:FN:=dM 3 6 (aw (bh (ai PM.az (aa (af 0) ah))) jm)
noncomputable def ju:FN:=dM 3 4 (aw (bh (ai PM.az (aa (af 0) ah))) jm)
noncomputable def dm:FN:=dM 2 5 (aw (bu 2 (v9 (bg (gr (af 1) (mC (.str "-")))) (mC (.str "-")) (mC (.str "+")))) (aw (bu 3 (eh (v9 (bg (aj cb (af 2) (mC (.str "-")))) (fV (af 1) (dj (mC (.int 1))) dh) (af 1)) (mC (.str " ")))) (aw (cg (bg (aj cb (aj bB (ai dC (aa (af 3) ah)) (mC (.int 2))) (mC (.int 0)))) (cD "NotWritten" (aa (mC (.str "terms have a sign between each two, and blanks only round it")) ah)) aD) (aw (bu 4 (aj c! (bx (aa (af 2) ah)) (e? (af 3) (mC (.int 1)) (mC (.int 2))))) (aO (b! 2 [0] (oH true true (aa (af 4) (aa (fu (af 3) (mC (.int 2))) ah))) (fh [(aB 0),(aB 1)]) bD (ai PM.cO (aa (af 2) (aa (af 0) (aa (af 1) ah))))))))))
noncomputable def fw:FN:=dM 3 3 (aw (bh (ai PM.az (aa (af 0) ah))) (aw (cg (bg (aj cb (af 0) (mC (.int 0)))) (aO (ai PM.d_ (aa (af 1) (aa (af 2) ah)))) aD) (aO (aj bB (aj dN (af 1) (ai PM.cP (aa (af 0) (aa (af 2) ah)))) (af 0)))))
noncomputable def read:FN:=dM 3 4 (aw (bh (ai PM.az (aa (af 0) ah))) (aw (bh (ai PM.aE (aa (af 1) ah))) (aw (bu 3 (ai PM.made (aa (af 0) (aa (af 1) (aa (ai PM.dm (aa (af 1) (aa (af 2) ah))) ah))))) (aw (cg (bg (aj kB (ai PM.shown (aa (af 3) ah)) (af 2))) (cD "NotWritten" (aa (mC (.str "a text is what is written of a sum, sign by sign")) ah)) aD) (aO (af 3))))))
noncomputable def cQ:FN:=dM 2 2 (aw (cg (bg (aj cb (af 0) (mC (.int 0)))) (aO (ai PM.cP (aa (mC (.int 7)) (aa (mC (.int 14)) ah)))) aD) (aw (cg (bg (aj cb (af 0) (mC (.int 1)))) (aO (ai PM.fw (aa (mC (.int 0)) (aa (mC (.int 3)) (aa (mC (.int 2)) ah))))) aD) (aw (cg (bg (aj cb (af 0) (mC (.int 2)))) (aO (ai PM.made (aa (mC (.int 0)) (aa (mC (.int 0)) (aa (bx (aa (mC (.int 3)) ah)) ah))))) aD) (aw (cg (bg (aj cb (af 0) (mC (.int 3)))) (aO (ai PM.made (aa (mC (.int 2)) (aa (mC (.int 1)) (aa (bx (aa (du (aa (du (aa (mC (.int 1)) ah)) (aa (mC (.int 1)) ah))) (aa (mC (.int 3)) ah))) ah))))) aD) (aw (cg (bg (aj cb (af 0) (mC (.int 4)))) (aO (ai PM.dA (aa (mC (.int 0)) (aa (bx (aa (du (aa (du (aa (mC (.int 1)) ah)) (aa (mC (.int 1)) ah))) ah)) (aa (mC (.int 0)) ah))))) aD) (aw (cg (bg (aj cb (af 0) (mC (.int 5)))) (aO (ai PM.d! (aa (mC (.str "lex")) (aa (bx ah) ah)))) aD) (aw (cg (bg (aj cb (af 0) (mC (.int 6)))) (aO (ai PM.d! (aa (mC (.str "up")) (aa (bx ah) ah)))) aD) (aw (cg (bg (aj cb (af 0) (mC (.int 7)))) (aO (ai PM.read (aa (mC (.int 0)) (aa (mC (.int 2)) (aa (mC (.str "x^1")) ah))))) aD) (aw (cg (bg (aj cb (af 0) (mC (.int 8)))) (aO (ai PM.cH (aa (mC (.int 5)) (aa (af 1) (aa (mC (.int 1)) ah))))) aD) (aO (ai PM.eV (aa (mC (.str "up")) (aa (du (aa (mC (.int 1)) ah)) (aa (du (aa (mC (.int 2)) ah)) ah))))))))))))))
noncomputable def bH:FN:=dM 3 5 (aw (bu 3 (aj gz (bx (aa (bx ah) (aa (bx (aa (du (aa (du (aa (mC (.int 1)) ah)) (aa (mC (.int 1)) ah))) ah)) ah))) (aj bB (af 2) (mC (.int 2))))) (aw (bu 4 (aj gz (bx (aa (mC (.int 0)) (aa (mC (.int 1)) (aa (mC (.int 2)) ah)))) (aj bB (aj cY (af 2) (mC (.int 2))) (mC (.int 3))))) (aw (cg (bg (aj cb (af 0) (mC (.int 0)))) (aO (ai PM.cP (aa (af 1) (aa (af 4) ah)))) aD) (aw (cg (bg (aj cb (af 0) (mC (.int 1)))) (aO (ai PM.fw (aa (af 1) (aa (mC (.int 0)) (aa (af 4) ah))))) aD) (aw (cg (bg (aj cb (af 0) (mC (.int 2)))) (aO (ai PM.made (aa (af 1) (aa (aj bB (aj cY (af 2) (mC (.int 6))) (mC (.int 2))) (aa (HR (bx (aa (mC (.int 3)) ah)) dh (dj (aj bB (aj cY (af 2) (mC (.int 2))) (mC (.int 2))))) ah))))) aD) (aw (cg (bg (aj cb (af 0) (mC (.int 3)))) (aO (ai PM.js (aa (af 1) (aa (af 3) (aa (bx ah) ah))))) aD) (aw (cg (bg (aj cb (af 0) (mC (.int 4)))) (aO (ai PM.dA (aa (af 1) (aa (af 3) (aa (aj bB (aj cY (af 2) (mC (.int 2))) (mC (.int 2))) ah))))) aD) (aw (cg (bg (aj cb (af 0) (mC (.int 5)))) (aO (ai PM.ie (aa (af 1) (aa (af 3) (aa (af 4) ah))))) aD) (aw (cg (bg (aj cb (af 0) (mC (.int 6)))) (aO (ai PM.ju (aa (af 1) (aa (af 3) (aa (mC (.int 0)) ah))))) aD) (aw (cg (bg (aj cb (af 0) (mC (.int 7)))) (aO (ai PM.read (aa (af 1) (aa (aj bB (aj cY (af 2) (mC (.int 2))) (mC (.int 2))) (aa (aj gz (bx (aa (mC (.str "")) (aa (mC (.str "0")) ah))) (aj bB (af 2) (mC (.int 2)))) ah))))) aD) (aw (cg (bg (aj cb (af 0) (mC (.int 8)))) (aO (ai PM.cH (aa (af 1) (aa (aj bB (aj cY (af 2) (mC (.int 6))) (mC (.int 2))) (aa (af 4) ah))))) aD) (aw (cg (bg (aj cb (af 0) (mC (.int 9)))) (aO (ai PM.jt (aa (af 1) (aa (af 3) (aa (bx (aa (mC (.int 1)) ah)) ah))))) aD) (aw (cg (bg (aj cb (af 0) (mC (.int 10)))) (aO (ai PM.lO (aa (af 1) (aa (af 3) (aa (bx ah) ah))))) aD) (aw (cg (bg (aj cb (af 0) (mC (.int 11)))) (aO (ai PM.jr (aa (af 1) (aa (bx ah) (aa (af 3) ah))))) aD) (aO (ai PM.settled (aa (af 1) (aa (af 4) ah))))))))))))))))))
end PM
namespace mZ
open PySem PySem.Spec L2 MN
open PyProof.Rows hiding St
noncomputable def J7:List (Str × Str × Bool):=[(("NoInverse":Str),("ByNought":Str),false),(("NoInverse":Str),("NoCount":Str),false),(("NoInverse":Str),("NoInverse":Str),true),(("NoInverse":Str),("NoLead":Str),false),(("NoInverse":Str),("NoMeet":Str),false),(("NoInverse":Str),("NoOrder":Str),false),(("NoInverse":Str),("NoParts":Str),false),(("NoInverse":Str),("NoPrime":Str),false),(("NoInverse":Str),("NoRing":Str),false),(("NoInverse":Str),("NoSums":Str),false),(("NoInverse":Str),("NoTerm":Str),false),(("NoInverse":Str),("NoUnknowns":Str),false),(("NoInverse":Str),("NotPlain":Str),false),(("NoInverse":Str),("NotWhole":Str),false),(("NoInverse":Str),("NotWritten":Str),false),(("NoInverse":Str),("AlgebraError":Str),true),(("NotWhole":Str),("ByNought":Str),false),(("NotWhole":Str),("NoCount":Str),false),(("NotWhole":Str),("NoInverse":Str),false),(("NotWhole":Str),("NoLead":Str),false),(("NotWhole":Str),("NoMeet":Str),false),(("NotWhole":Str),("NoOrder":Str),false),(("NotWhole":Str),("NoParts":Str),false),(("NotWhole":Str),("NoPrime":Str),false),(("NotWhole":Str),("NoRing":Str),false),(("NotWhole":Str),("NoSums":Str),false),(("NotWhole":Str),("NoTerm":Str),false),(("NotWhole":Str),("NoUnknowns":Str),false),(("NotWhole":Str),("NotPlain":Str),false),(("NotWhole":Str),("NotWhole":Str),true),(("NotWhole":Str),("NotWritten":Str),false),(("NotWhole":Str),("AlgebraError":Str),true),(("NotWritten":Str),("ByNought":Str),false),(("NotWritten":Str),("NoCount":Str),false),(("NotWritten":Str),("NoInverse":Str),false),(("NotWritten":Str),("NoLead":Str),false),(("NotWritten":Str),("NoMeet":Str),false),(("NotWritten":Str),("NoOrder":Str),false),(("NotWritten":Str),("NoParts":Str),false),(("NotWritten":Str),("NoPrime":Str),false),(("NotWritten":Str),("NoRing":Str),false),(("NotWritten":Str),("NoSums":Str),false),(("NotWritten":Str),("NoTerm":Str),false),(("NotWritten":Str),("NoUnknowns":Str),false),(("NotWritten":Str),("NotPlain":Str),false),(("NotWritten":Str),("NotWhole":Str),false),(("NotWritten":Str),("NotWritten":Str),true),(("NotWritten":Str),("AlgebraError":Str),true),(("NoOrder":Str),("ByNought":Str),false),(("NoOrder":Str),("NoCount":Str),false),(("NoOrder":Str),("NoInverse":Str),false),(("NoOrder":Str),("NoLead":Str),false),(("NoOrder":Str),("NoMeet":Str),false),(("NoOrder":Str),("NoOrder":Str),true),(("NoOrder":Str),("NoParts":Str),false),(("NoOrder":Str),("NoPrime":Str),false),(("NoOrder":Str),("NoRing":Str),false),(("NoOrder":Str),("NoSums":Str),false),(("NoOrder":Str),("NoTerm":Str),false),(("NoOrder":Str),("NoUnknowns":Str),false),(("NoOrder":Str),("NotPlain":Str),false),(("NoOrder":Str),("NotWhole":Str),false),(("NoOrder":Str),("NotWritten":Str),false),(("NoOrder":Str),("AlgebraError":Str),true),(("NoRing":Str),("ByNought":Str),false),(("NoRing":Str),("NoCount":Str),false),(("NoRing":Str),("NoInverse":Str),false),(("NoRing":Str),("NoLead":Str),false),(("NoRing":Str),("NoMeet":Str),false),(("NoRing":Str),("NoOrder":Str),false),(("NoRing":Str),("NoParts":Str),false),(("NoRing":Str),("NoPrime":Str),false),(("NoRing":Str),("NoRing":Str),true),(("NoRing":Str),("NoSums":Str),false),(("NoRing":Str),("NoTerm":Str),false),(("NoRing":Str),("NoUnknowns":Str),false),(("NoRing":Str),("NotPlain":Str),false),(("NoRing":Str),("NotWhole":Str),false),(("NoRing":Str),("NotWritten":Str),false),(("NoRing":Str),("AlgebraError":Str),true),(("NoUnknowns":Str),("ByNought":Str),false),(("NoUnknowns":Str),("NoCount":Str),false),(("NoUnknowns":Str),("NoInverse":Str),false),(("NoUnknowns":Str),("NoLead":Str),false),(("NoUnknowns":Str),("NoMeet":Str),false),(("NoUnknowns":Str),("NoOrder":Str),false),(("NoUnknowns":Str),("NoParts":Str),false),(("NoUnknowns":Str),("NoPrime":Str),false),(("NoUnknowns":Str),("NoRing":Str),false),(("NoUnknowns":Str),("NoSums":Str),false),(("NoUnknowns":Str),("NoTerm":Str),false),(("NoUnknowns":Str),("NoUnknowns":Str),true),(("NoUnknowns":Str),("NotPlain":Str),false),(("NoUnknowns":Str),("NotWhole":Str),false),(("NoUnknowns":Str),("NotWritten":Str),false),(("NoUnknowns":Str),("AlgebraError":Str),true),(("NoLead":Str),("ByNought":Str),false),(("NoLead":Str),("NoCount":Str),false),(("NoLead":Str),("NoInverse":Str),false),(("NoLead":Str),("NoLead":Str),true),(("NoLead":Str),("NoMeet":Str),false),(("NoLead":Str),("NoOrder":Str),false),(("NoLead":Str),("NoParts":Str),false),(("NoLead":Str),("NoPrime":Str),false),(("NoLead":Str),("NoRing":Str),false),(("NoLead":Str),("NoSums":Str),false),(("NoLead":Str),("NoTerm":Str),false),(("NoLead":Str),("NoUnknowns":Str),false),(("NoLead":Str),("NotPlain":Str),false),(("NoLead":Str),("NotWhole":Str),false),(("NoLead":Str),("NotWritten":Str),false),(("NoLead":Str),("AlgebraError":Str),true),(("NoCount":Str),("ByNought":Str),false),(("NoCount":Str),("NoCount":Str),true),(("NoCount":Str),("NoInverse":Str),false),(("NoCount":Str),("NoLead":Str),false),(("NoCount":Str),("NoMeet":Str),false),(("NoCount":Str),("NoOrder":Str),false),(("NoCount":Str),("NoParts":Str),false),(("NoCount":Str),("NoPrime":Str),false),(("NoCount":Str),("NoRing":Str),false),(("NoCount":Str),("NoSums":Str),false),(("NoCount":Str),("NoTerm":Str),false),(("NoCount":Str),("NoUnknowns":Str),false),(("NoCount":Str),("NotPlain":Str),false),(("NoCount":Str),("NotWhole":Str),false),(("NoCount":Str),("NotWritten":Str),false),(("NoCount":Str),("AlgebraError":Str),true),(("NoTerm":Str),("ByNought":Str),false),(("NoTerm":Str),("NoCount":Str),false),(("NoTerm":Str),("NoInverse":Str),false),(("NoTerm":Str),("NoLead":Str),false),(("NoTerm":Str),("NoMeet":Str),false),(("NoTerm":Str),("NoOrder":Str),false),(("NoTerm":Str),("NoParts":Str),false),(("NoTerm":Str),("NoPrime":Str),false),(("NoTerm":Str),("NoRing":Str),false),(("NoTerm":Str),("NoSums":Str),false),(("NoTerm":Str),("NoTerm":Str),true),(("NoTerm":Str),("NoUnknowns":Str),false),(("NoTerm":Str),("NotPlain":Str),false),(("NoTerm":Str),("NotWhole":Str),false),(("NoTerm":Str),("NotWritten":Str),false),(("NoTerm":Str),("AlgebraError":Str),true)]
noncomputable def tab:List (Str × Str × Bool):=J7 ++ JW []
noncomputable def kn:List Str:=["NoInverse","NotWhole","NotWritten","NoOrder","NoRing","NoUnknowns","NoLead","NoCount","NoTerm"]
noncomputable def bO:Str → ag → bW ao:=MW 1 (aw (bu 1 (bx (aa (cS (c7 tab) kn 0 "ByNought") (aa (cS (c7 tab) kn 0 "NoCount") (aa (cS (c7 tab) kn 0 "NoInverse") (aa (cS (c7 tab) kn 0 "NoLead") ah)))))) (aw (bu 1 (aj c! (af 1) (bx (aa (cS (c7 tab) kn 0 "NoMeet") (aa (cS (c7 tab) kn 0 "NoOrder") (aa (cS (c7 tab) kn 0 "NoParts") (aa (cS (c7 tab) kn 0 "NoPrime") ah))))))) (aw (bu 1 (aj c! (af 1) (bx (aa (cS (c7 tab) kn 0 "NoRing") (aa (cS (c7 tab) kn 0 "NoSums") (aa (cS (c7 tab) kn 0 "NoTerm") (aa (cS (c7 tab) kn 0 "NoUnknowns") ah))))))) (aO (aj c! (af 1) (bx (aa (cS (c7 tab) kn 0 "NotPlain") (aa (cS (c7 tab) kn 0 "NotWhole") (aa (cS (c7 tab) kn 0 "NotWritten") ah)))))))))
noncomputable def jv:MB:=(aO (aj cb (af 4) (b! 1 [2] (gg (aa (mC (.int 15)) ah)) (aB 0) bD (aj cb (af 0) (af 1)))))
noncomputable def gZ:MB:=(aw (mG (pE (KY kn) (cg (pC (bg (af 3))) (aw (bu 5 (ai PM.c_ (pC (aa (ai PM.a! (aa (af 0) (aa (mC (.int 2)) ah))) ah)))) (bh (ai PM.bH (pC (aa (aj bB (ai PM.a! (aa (af 0) (aa (mC (.int 0)) ah))) (mC (.int 13))) (aa (af 5) (aa (ai PM.a! (aa (af 0) (aa (mC (.int 3)) ah))) ah))))))) (aw (bu 6 (pC (bx (aa (mC (.int 0)) (aa (mC (.int 5)) (aa (v_ (mC (.int 1))) (aa (mC (.bl true)) (aa (mC (.bl false)) (aa (mC .cB) (aa (mC (.str "1")) (aa (mC (.int 99)) ah))))))))))) (bh (ai PM.cQ (pC (aa (af 1) (aa (aj gz (af 6) (aj bB (ai PM.a! (aa (af 0) (aa (mC (.int 2)) ah))) (mC (.int 8)))) ah))))))) (tP (c7 tab) "AlgebraError" 7 (bu 4 (gq 7 bO)) y?))) jv)
noncomputable def m5:MB:=(aw (bu 4 (bx ah)) gZ)
noncomputable def m6:MB:=(aw (cg (bg (af 3)) (bu 2 (mC (.int 8))) aD) m5)
noncomputable def m7:MB:=(aw (bu 3 (aj cb (aj bB (ai PM.a! (aa (af 0) (aa (mC (.int 1)) ah))) (mC (.int 3))) (mC (.int 1)))) m6)
noncomputable def rp:MB:=(aw (bu 2 (aj gz (bx (aa (mC (.int 2)) (aa (mC (.int 13)) (aa (mC (.int 11)) (aa (mC (.int 10)) (aa (mC (.int 1)) (aa (mC (.int 3)) (aa (mC (.int 5)) (aa (mC (.int 14)) (aa (mC (.int 11)) (aa (mC (.int 5)) ah))))))))))) (af 1))) m7)
noncomputable def vj:FN:=dM 1 8 (aw (bu 1 (aj bB (ai PM.a! (aa (af 0) (aa (mC (.int 0)) ah))) (mC (.int 10)))) rp)
end mZ
namespace PG
open PySem PySem.Spec L2 MN
open PyProof.Rows hiding St kindOf
theorem dI (i:Int) (st:ag):PM.cR [.int i] st = .ok (.bl true) st:=rfl
noncomputable def FP:List Int:=[2,3,5,7,11,13,17,19,23,29,31]
noncomputable def xR (n:Int):Bool:=FP.contains n || (decide (2 ≤ n) && decide (n ≤ 997) && FP.all fun p => !(n.fmod p == 0))
theorem any_ints (n:Int) (ns:List Int):(ns.map ao.int).any (fun y => Cm y (.int n)) = ns.contains n:=by
 induction ns with
 | nil => rfl
 | cons m ns ih =>
  simp only [List.map_cons,List.any_cons,List.contains_cons]
  rw [ih]
  congr 1
  show (m == n) = (n == m)
  rw [Bool.eq_iff_iff,beq_iff_eq,beq_iff_eq]; exact ⟨Eq.symm,Eq.symm⟩
theorem C5 (n:Int) (ns:List Int) (st:ag):uR false (.int n) (.mt (ns.map ao.int)) st = .ok (.bl (ns.contains n)) st:=by
 have h1:(ns.map ao.int).all flat = true:=by rw [List.all_map]; exact List.all_eq_true.mpr fun _ _ => rfl
 unfold uR yR
 dsimp only
 rw [if_pos ⟨rfl,h1⟩,any_ints]
 rfl
theorem lP (ns:List Int) (f:Int → Bool):fR ((ns.map ao.int).map fun v => match v with | .int i => .bl (f i) | _ => .cB) = some (ns.map f):=by
 induction ns with
 | nil => rfl
 | cons m ns ih =>
  simp only [List.map_cons,fR] at ih ⊢
  rw [ih]; rfl
theorem iq (n:Int) (st:ag):∃ g,PM.bE [.int n] st = .ok (.bl (xR n)) (st ++ g):=by
 have D8:uR false (.int n) PM.dG st = .ok (.bl (FP.contains n)) st:=C5 n FP st
 cases h1:FP.contains n with
 | true =>
  refine ⟨[],?_⟩
  rw [h1] at D8
  simp only [PM.bE,aU,au,ay,iQ,bG,aS,br,aQ,cE,cU,cf,a8,aZ,aL,bc,bA,bz,List.map_cons,List.map_nil,List.replicate_zero,Nat.reduceSub,List.length_cons,List.length_nil,Nat.reduceAdd,D8,List.append_nil,xR,h1,Bool.true_or]
 | false =>
  rw [h1] at D8
  by_cases h2:n < 2
  ·refine ⟨[],?_⟩
   have e2:decide (n < 2) = true:=decide_eq_true h2
   have e3:decide (2 ≤ n) = false:=decide_eq_false (by lia)
   simp only [PM.bE,aU,au,ay,aX,iQ,bG,aS,br,aQ,pL,cE,cU,cV,cf,a8,aZ,e9,aL,cN,bc,bA,ji,bz,List.map_cons,List.map_nil,List.replicate_zero,Nat.reduceSub,List.length_cons,List.length_nil,Nat.reduceAdd,D8,e2,List.append_nil,xR,h1,e3,Bool.false_or,Bool.false_and]
  ·have e2:decide (n < 2) = false:=decide_eq_false h2
   have e3:decide (2 ≤ n) = true:=decide_eq_true (by lia)
   by_cases h3:997 < n
   ·refine ⟨[],?_⟩
    have e4:decide (997 < n) = true:=decide_eq_true h3
    have e5:decide (n ≤ 997) = false:=decide_eq_false (by lia)
    simp only [PM.bE,aU,au,ay,aX,iQ,bG,aS,br,aQ,fq,cE,cU,cV,cf,a8,aZ,e9,aL,cN,bc,bA,ji,qX,bz,List.map_cons,List.map_nil,List.replicate_zero,Nat.reduceSub,List.length_cons,List.length_nil,Nat.reduceAdd,D8,e2,e4,List.append_nil,xR,h1,e3,e5,Bool.false_or,Bool.false_and,Bool.true_and]
   ·have e4:decide (997 < n) = false:=decide_eq_false h3
    have e5:decide (n ≤ 997) = true:=decide_eq_true (by lia)
    let f:ao → ao:=fun v => match v with | .int i => .bl (!(n.fmod i == 0)) | _ => .cB
    have hc:cq (fun _ => True) (aB 0) bD (aj kB (aj bB (af 1) (af 0)) (mC (ao.int 0))) (FP.map ao.int) (gO 1 [0] [some (ao.int n)]) st [] = .ok ([] ++ ((FP.map ao.int).filter fun _ => true).map f) st:=by
     refine cL trivial (fun τ => ∃ x,τ = [x,some (.int n)]) (fun _ => true) f (FP.map ao.int) _ [] ⟨none,rfl⟩ ?_
     rintro u hu τ ⟨x,rfl⟩
     obtain ⟨i,hi,rfl⟩:=List.mem_map.mp hu
     have M5:¬ i = 0:=by
      intro z; subst z; revert hi; decide
     refine ⟨_,rfl,⟨_,rfl⟩,rfl,fun _ => ?_⟩
     simp only [au,aS,br,aQ,cf,u_,bz,bP,List.set_cons_zero,ck M5,f]
    have hb:fR (((FP.map ao.int).filter fun _ => true).map f) = some (FP.map fun i => !(n.fmod i == 0)):=by
     rw [List.filter_eq_self.mpr (fun _ _ => rfl)]
     exact lP FP fun i => !(n.fmod i == 0)
    refine ⟨[.lst (((FP.map ao.int).filter fun _ => true).map f)],?_⟩
    have ha:jP [.loc st.length] (st ++ [.lst (((FP.map ao.int).filter fun _ => true).map f)]) = .ok (.bl (xR n)) (st ++ [.lst (((FP.map ao.int).filter fun _ => true).map f)]):=by
     unfold jP
     dsimp only
     rw [aR]
     dsimp only
     rw [hb]
     simp only [xR,h1,e3,e5,Bool.false_or,Bool.true_and,List.all_map]
     rfl
    have hw:mO PM.dG st = .ok (FP.map ao.int,fun _ => True) st:=rfl
    have hz:(FP.map ao.int).length = 11:=rfl
    rw [List.nil_append] at hc
    simp only [PM.bE,aU,au,ay,aX,bG,aS,br,aQ,fq,aT,aK,cE,cV,iy,fK,cf,a8,aZ,e9,a9,aJ,aY,aL,cN,bc,bA,d8,d9,ji,qX,bz,List.map_cons,List.map_nil,List.cons_append,List.nil_append,List.replicate_zero,Nat.reduceSub,List.length_cons,List.length_nil,Nat.reduceAdd,sizeLine_eq,Nat.reduceLeDiff,↓reduceIte,D8,e2,e4,hw,hc,ha,hz]
end PG
namespace Qv
end Qv
namespace PG
open PySem PySem.Spec L2 MN
open PyProof.Rows hiding St kindOf
noncomputable def iA (n:Int):Bool:=n == 0 || xR n
theorem kH (n:Int) (st:ag):∃ g,PM.eR [.int n] st = .ok (.bl (iA n)) (st ++ g):=by
 cases h:n == 0 with
 | true => exact ⟨[],by simp only [PM.eR,aU,au,ay,bG,aS,br,aQ,gm,Gx,aT,aK,cE,cf,fJ,Ec,a9,aJ,aY,bc,c8,bz,List.map_cons,List.map_nil,List.replicate_zero,Nat.reduceSub,List.length_cons,List.length_nil,Nat.reduceAdd,dI,h,iA,Bool.true_or,List.append_nil]⟩
 | false =>
  obtain ⟨g,e⟩:=iq n st
  exact ⟨g,by simp only [PM.eR,aU,au,ay,bG,aS,br,aQ,gm,Gy,aT,aK,cE,cf,fJ,Ec,a9,aJ,aY,bc,c8,bz,List.map_cons,List.map_nil,List.cons_append,List.nil_append,List.replicate_zero,Nat.reduceSub,List.length_cons,List.length_nil,Nat.reduceAdd,dI,h,iA,Bool.false_or,e]⟩
theorem b5 {n:Int} (h:iA n = true) (st:ag):∃ g,PM.az [.int n] st = .ok .cB (st ++ g):=by
 obtain ⟨g,e⟩:=kH n st
 rw [h] at e
 exact ⟨g,by simp only [PM.az,aU,au,ay,Gv,mL,aT,aK,cV,a8,aZ,eS,a9,aJ,aY,cN,bA,bz,List.map_cons,List.map_nil,List.cons_append,List.nil_append,List.replicate_zero,Nat.reduceSub,List.length_cons,List.length_nil,Nat.reduceAdd,Bool.not_true,e]⟩
end PG
namespace PG
open PySem PySem.Spec L2 MN
open PyProof.Rows hiding St kindOf
theorem w! {p:Int} (h:xR p = true):2 ≤ p ∧ p ≤ 997:=by
 unfold xR at h
 rw [Bool.or_eq_true] at h
 rcases h with h | h
 ·have:p ∈ FP:=by simpa using h
  simp only [FP,List.mem_cons,List.not_mem_nil,or_false] at this
  omega
 ·simp only [Bool.and_eq_true,decide_eq_true_eq] at h
  omega
theorem An {p:Int} (hp:0 < p) (i:Int):i.fmod p = i % p:=Int.fmod_eq_emod_of_nonneg i (by lia)
end PG
namespace PG
open PySem PySem.Spec L2 MN
open PyProof.Rows hiding St kindOf
end PG
namespace PG
open PySem PySem.Spec L2 MN
open PyProof.Rows hiding St kindOf
theorem tQ {i:Nat} {f o:Int} (h0:0 ≤ f) (h1:f < 2 ^ (31 * i)) (o0:0 ≤ o) (o1:o < 2147483647):0 ≤ f * 2147483647 + o ∧ f * 2147483647 + o < 2 ^ (31 * (i + 1)):=by
 have e:(2:Int) ^ (31 * (i + 1)) = 2 ^ (31 * i) * 2147483648:=by rw [Nat.mul_succ,Int.pow_add]; rfl
 rw [e]
 lia
theorem C6 {ns:List Int} {k:Int} (h0:0 ≤ k) (h1:k < (ns.length:Int)):∃ c:Int,L2.nJ (ns.map ao.int) k = some (.int c):=by
 have hk:k.toNat < ns.length:=by lia
 refine ⟨ns[k.toNat],?_⟩
 have e:=L2.lJ (xs:=ns.map ao.int) (j:=k.toNat) (v:=.int ns[k.toNat]) (by rw [List.getElem?_map,List.getElem?_eq_getElem hk]; rfl)
 rw [show ((k.toNat:Nat):Int) = k by lia] at e
 exact e
theorem g6 {m:Int} (hm:0 < m) (i:Int):0 ≤ i.fmod m ∧ i.fmod m < m:=by
 rw [An hm]; exact ⟨Int.emod_nonneg _ (by lia),Int.emod_lt_of_pos _ hm⟩
theorem ig {n:Nat} {ns:List Int} {k:Int} {st:ag} (h:ak st n = some (ns.map ao.int)) (k0:0 ≤ k) (k1:k ≤ 1000000) :
  ∃ o,PM.a! [.loc n,.int k] st = .ok (.int o) st ∧ 0 ≤ o ∧ o < 2 ^ 186:=by
 have len:((List.map ao.int ns).length:Int) = (ns.length:Int):=by rw [List.length_map]
 have loop:∀ (c x:Int),0 ≤ x → x < 2147483647 → ∃ μ' av o,forL (fun _ => True) (aB 5) (aw (bu 3 (aj bB (aj c! (aj dN (aj bB (aj dN (af 3) (af 3)) (mC (.int 2147483629))) (mC (.int 69621))) (af 5)) (mC (.int 2147483647)))) (bu 4 (aj c! (aj dN (af 4) (mC (.int 2147483647))) (af 3)))) (cj 0 6) [some (.loc n),some (.int k),some (.int c),some (.int x),some (.int 0),none] st = .nx μ' av ∧ av = st ∧ (∃ y t,μ' = [some (.loc n),some (.int k),some (.int c),y,some (.int o),t]) ∧ 0 ≤ o ∧ o < 2 ^ 186:=by
  intro c x x0 x1
  obtain ⟨μ',av,e,rfl,o,f,t,rfl,o0,o1,f0,f1⟩:=jf (g:=fun _ => True) (a:=aB 5) (body:=aw (bu 3 (aj bB (aj c! (aj dN (aj bB (aj dN (af 3) (af 3)) (mC (.int 2147483629))) (mC (.int 69621))) (af 5)) (mC (.int 2147483647)))) (bu 4 (aj c! (aj dN (af 4) (mC (.int 2147483647))) (af 3))))
   (fun i μ s => s = st ∧ ∃ (o f:Int) (t:Option ao),μ = [some (.loc n),some (.int k),some (.int c),some (.int o),some (.int f),t] ∧ 0 ≤ o ∧ o < 2147483647 ∧ 0 ≤ f ∧ f < 2 ^ (31 * i))
   (cj 0 6) 0 [some (.loc n),some (.int k),some (.int c),some (.int x),some (.int 0),none] st
   (by
    rintro i u μ s hu ⟨rfl,o,f,t,rfl,o0,o1,f0,f1⟩
    refine ⟨trivial,?_⟩
    have hi:i < 6:=by have:=d7 hu; simpa [cj] using this
    have eu:u = .int (0 + (i:Int)):=by
     simp only [cj,List.getElem?_map] at hu
     rw [List.getElem?_range hi] at hu
     exact (Option.some.inj hu).symm
    subst eu
    have q1:=g6 (m:=2147483629) (by decide) (o * o)
    have q2:=g6 (m:=2147483647) (by decide) ((o * o).fmod 2147483629 * 69621 + (0 + (i:Int)))
    refine ⟨_,rfl,[some (.loc n),some (.int k),some (.int c),some (.int (((o * o).fmod 2147483629 * 69621 + (0 + (i:Int))).fmod 2147483647)),some (.int (f * 2147483647 + ((o * o).fmod 2147483629 * 69621 + (0 + (i:Int))).fmod 2147483647)),some (.int (0 + (i:Int)))],s,.inl ?_,rfl,_,_,_,rfl,q2.1,q2.2,?_⟩
    ·simp only [au,ay,aX,aS,br,aQ,eI,cf,aL,cW,pO,bz,bP,List.set_cons_zero,List.set_cons_succ,zD (i:=o) (by lia) (by lia),ck (j:=2147483629) (by decide),mul_r (j:=69621) (by decide) (by decide),ck (j:=2147483647) (by decide),mul_r (j:=2147483647) (by decide) (by decide)]
    ·rw [Nat.zero_add] at f1 ⊢
     exact tQ f0 f1 q2.1 q2.2) (fun _ _ _ => trivial)
   ⟨rfl,x,0,none,rfl,x0,x1,by decide,by decide⟩
  refine ⟨_,_,f,e,rfl,⟨_,_,rfl⟩,f0,?_⟩
  have:(cj 0 6).length = 6:=rfl
  rw [this] at f1
  exact f1
 have fin:∀ c:Int,((decide (k < ((List.map ao.int ns).length:Int)) = false ∧ c = 0) ∨ (decide (k < ((List.map ao.int ns).length:Int)) = true ∧ L2.nJ (ns.map ao.int) k = some (.int c))) → ∃ o,PM.a! [.loc n,.int k] st = .ok (.int o) st ∧ 0 ≤ o ∧ o < 2 ^ 186:=by
  intro c hc
  have q:=g6 (m:=2147483647) (by decide) (c * 48271 + 7919 * k * k + 104729 * k + 11)
  obtain ⟨μ',av,o,e,rfl,⟨y,t,rfl⟩,o0,o1⟩:=loop c _ q.1 q.2
  refine ⟨o,?_,o0,o1⟩
  have r6:CC [.int 6] av = .ok (cj 0 6,fun _ => True) av:=rfl
  rcases hc with ⟨h1,rfl⟩ | ⟨h1,h2⟩
  ·simp only [PM.a!,aU,au,ay,aX,bG,aS,br,aQ,aT,aK,cE,cV,eI,kE,cf,a8,aZ,a9,aJ,aY,aL,cN,bc,bA,cW,gT,lK,pO,ji,bz,ft,bP,List.map_cons,List.map_nil,List.cons_append,List.nil_append,List.replicate_succ,List.replicate_zero,List.set_cons_zero,List.set_cons_succ,Nat.reduceSub,List.length_cons,List.length_nil,Nat.reduceAdd,gp h,h1,mul_r (j:=48271) (by decide) (by decide),zD (i:=7919) (by decide) (by decide),mul_r (j:=k) (by lia) (by lia),ck (j:=2147483647) (by decide),r6,e]
  ·simp only [PM.a!,aU,au,ay,aX,bG,aS,br,aQ,aT,aK,cE,cU,eI,kE,cf,a8,aZ,a9,aJ,aY,aL,bc,bA,cW,gT,lK,pO,ji,bz,ft,bP,List.map_cons,List.map_nil,List.cons_append,List.nil_append,List.replicate_succ,List.replicate_zero,List.set_cons_zero,List.set_cons_succ,Nat.reduceSub,List.length_cons,List.length_nil,Nat.reduceAdd,gp h,h1,pP h h2,mul_r (j:=48271) (by decide) (by decide),zD (i:=7919) (by decide) (by decide),mul_r (j:=k) (by lia) (by lia),ck (j:=2147483647) (by decide),r6,e]
 by_cases hk:k < (ns.length:Int)
 ·obtain ⟨c,hc⟩:=C6 k0 hk
  exact fin c (.inr ⟨decide_eq_true (by rw [len]; exact hk),hc⟩)
 ·exact fin 0 (.inl ⟨decide_eq_false (by rw [len]; exact hk),rfl⟩)
end PG
namespace PG
open PySem PySem.Spec L2 MN
open PyProof.Rows hiding St kindOf
theorem Hg {j:Int} (h:0 < j) (h1:j < 2 ^ 64):Dz j:=by
 refine Dz.of (k:=64) (by lia) ?_ (by decide)
 show j.natAbs < 2 ^ 64
 lia
noncomputable def K7 (n:Int) (u:ao):Bool:=match u with
 | .int b => decide (b < n) && (n.fmod b == 0)
 | _ => false
noncomputable def p! (n:Int):List ao:=(cj 2 30).filter (K7 n)
theorem Ao (n:Int) (x:Option ao) (st:ag):cq (fun _ => True) (aB 0) (kA (bg (aj ltV (af 0) (af 1))) (bg (aj cb (aj bB (af 1) (af 0)) (mC (.int 0))))) (af 0) (cj 2 30) [x,some (.int n)] st [] = .ok (p! n) st:=by
 have:=cL (a:=aB 0) (c:=kA (bg (aj ltV (af 0) (af 1))) (bg (aj cb (aj bB (af 1) (af 0)) (mC (.int 0))))) (e:=af 0) (g:=fun _ => True) (st:=st) trivial (fun τ => ∃ x,τ = [x,some (.int n)]) (K7 n) id (cj 2 30) [x,some (.int n)] [] ⟨x,rfl⟩ ?_
 ·rw [this,List.nil_append,List.map_id]; rfl
 ·rintro u hu τ ⟨x,rfl⟩
  simp only [cj,List.mem_map,List.mem_range] at hu
  obtain ⟨i,hi,rfl⟩:=hu
  have nz:¬ (2 + (i:Int)) = 0:=by lia
  refine ⟨_,rfl,⟨_,rfl⟩,?_,fun _ => rfl⟩
  by_cases hb:2 + (i:Int) < n
  ·have e:decide (2 + (i:Int) < n) = true:=decide_eq_true hb
   simp only [au,aS,br,aQ,qT,cf,a8,aZ,jg,ji,c8,bz,bP,List.set_cons_zero,e,ck nz,K7,Bool.true_and]
  ·have e:decide (2 + (i:Int) < n) = false:=decide_eq_false hb
   simp only [au,aS,br,aQ,mK,a8,aZ,jg,ji,bz,bP,List.set_cons_zero,e,K7,Bool.false_and]
end PG
namespace PG
open PySem PySem.Spec L2 MN
open PyProof.Rows hiding St kindOf
noncomputable def Ap (v:ao) (st:ag):Prop:=xO v = false ∧ ∃ k,kindOf st v = some k ∧ (k == "int" || (k == "bool")) = (k == "bool")
theorem tR {st:ag} {v:ao} {k:String} (h:kindOf st v = some k) (g:ag):kindOf (st ++ g) v = some k:=by
 cases v with
 | loc n =>
  rcases Nat.lt_or_ge n st.length with q | q
  ·unfold kindOf at h ⊢
   dsimp only at h ⊢
   rw [List.getElem?_append_left q]; exact h
  ·unfold kindOf at h
   dsimp only at h
   rw [List.getElem?_eq_none q] at h; cases h
 | _ => exact h
theorem Ap.old {v:ao} {st:ag} (h:Ap v st) (g:ag):Ap v (st ++ g):=⟨h.1,h.2.choose,tR h.2.choose_spec.1 g,h.2.choose_spec.2⟩
theorem pS {v:ao} {st:ag} (h:Ap v st):PM.cR [v] st = .ok (.bl false) st:=by
 obtain ⟨hx,k,hk,hb⟩:=h
 have vx:af 0 [some v] st = .ok v st:=zA hx
 have e1:wB "int" v st = .ok (.bl (k == "bool")) st:=by
  unfold wB HK; rw [hk]
  have M6:(k == "int" || (k == "bool" && ("int" == "int"))) = (k == "bool"):=by rw [show (("int":String) == "int") = true from rfl,Bool.and_true]; exact hb
  simp only [Option.map_some,M6]
 have e2:wB "bool" v st = .ok (.bl (k == "bool")) st:=by
  unfold wB HK; rw [hk]
  have M6:(k == "bool" || (k == "bool" && (("bool":String) == "int"))) = (k == "bool"):=by rw [show (("bool":String) == "int") = false by decide,Bool.and_false,Bool.or_false]
  simp only [Option.map_some,M6]
 cases OO:k == "bool" with
 | true => rw [OO] at e1 e2; simp only [PM.cR,aU,au,ay,bG,gm,k_not,cE,fJ,Gz,zu,bc,List.map_cons,List.map_nil,List.cons_append,List.nil_append,List.replicate_zero,Nat.reduceSub,List.length_cons,List.length_nil,Nat.reduceAdd,Bool.not_true,vx,e1,e2]
 | false => rw [OO] at e1 e2; simp only [PM.cR,aU,au,ay,bG,pK,cE,fJ,zu,bc,List.map_cons,List.map_nil,List.cons_append,List.nil_append,List.replicate_zero,Nat.reduceSub,List.length_cons,List.length_nil,Nat.reduceAdd,vx,e1,e2]
noncomputable def qb (v:ao) (st:ag):Prop:=xO v = false ∧ ∀ g,∃ g',PM.eR [v] (st ++ g) = .ok (.bl false) (st ++ g ++ g')
theorem qb.odd {v:ao} {st:ag} (h:Ap v st):qb v st:=⟨h.1,fun g => by
 have vx:af 0 [some v] (st ++ g) = .ok v (st ++ g):=zA h.1
 exact ⟨[],by simp only [PM.eR,aU,au,ay,bG,pK,aT,aK,cE,fJ,a9,aJ,aY,bc,List.map_cons,List.map_nil,List.replicate_zero,Nat.reduceSub,List.length_cons,List.length_nil,Nat.reduceAdd,vx,pS (h.old g),List.append_nil]⟩⟩
theorem qb.int {n:Int} (h:iA n = false) (st:ag):qb (.int n) st:=⟨rfl,fun g => by
 obtain ⟨g',e⟩:=kH n (st ++ g)
 rw [h] at e
 exact ⟨g',e⟩⟩
theorem qb.is {v:ao} {st:ag} (h:qb v st):∃ g',PM.eR [v] st = .ok (.bl false) (st ++ g'):=by
 obtain ⟨g',e⟩:=h.2 []
 rw [List.append_nil] at e
 exact ⟨g',e⟩
theorem Aq {v:ao} {st:ag} (h:qb v st):∃ g',PM.az [v] st = .err "NoRing" (st ++ g'):=by
 obtain ⟨g',e⟩:=h.is
 have vx:af 0 [some v] st = .ok v st:=zA h.1
 exact ⟨g',by simp only [PM.az,aU,au,ay,gj,mL,aT,aK,cU,gn,cf,a8,aZ,eS,a9,aJ,aY,bA,e_,List.map_cons,List.map_nil,List.cons_append,List.nil_append,List.replicate_zero,Nat.reduceSub,List.length_cons,List.length_nil,Nat.reduceAdd,Bool.not_false,sizeLine_eq,Nat.reduceLeDiff,↓reduceIte,vx,e]⟩
end PG
namespace PG
open PySem PySem.Spec L2 MN
open PyProof.Rows hiding St kindOf
end PG
namespace PG
open PySem PySem.Spec L2 MN
open PyProof.Rows hiding St kindOf
theorem m8 {g:ag → Prop} {a:AS} {e:ME} {st:ag} (hg:g st) (I:MN.Env → Prop) (f:Int → ao):∀ (ns:List Int) (τ:MN.Env) (ys:List ao),I τ →
  (∀ i ∈ ns,∀ τ,I τ → ∃ τ1,a (.int i) τ = some τ1 ∧ I τ1 ∧ e τ1 st = .ok (f i) st) → cq g a bD e (ns.map ao.int) τ st ys = .ok (ys ++ ns.map f) st
 | [],τ,ys,_,_ => by
  rw [List.map_nil]
  unfold cq
  rw [if_pos hg]; simp
 | n :: ns,τ,ys,hI,hs => by
  obtain ⟨τ1,h1,h2,h3⟩:=hs n List.mem_cons_self τ hI
  have ih:=m8 hg I f ns τ1 (ys ++ [f n]) h2 fun i hi => hs i (List.mem_cons_of_mem n hi)
  rw [List.map_cons]
  unfold cq
  rw [if_pos hg,h1]
  dsimp only [bD]
  rw [h3]
  dsimp only
  rw [ih]
  simp
end PG
namespace PG
open PySem PySem.Spec L2 MN
open PyProof.Rows hiding St kindOf
end PG
namespace PG
open PySem PySem.Spec L2 MN
open PyProof.Rows hiding St kindOf
noncomputable abbrev eg:=List Int × Int
noncomputable def tV (t:eg):ao:=.tup [b7 t.1,.int t.2]
noncomputable def eD (t:eg):List cI × ao:=(iK t.1,.int t.2)
noncomputable def fW (A:List eg) (k:List Int):Int:=((A.find? fun p => decide (p.1 = k)).map (·.2)).getD 0
noncomputable def g7 (A:List eg) (k:List Int) (v:Int):List eg:=if A.any (fun p => decide (p.1 = k)) then A.map (fun p => if p.1 = k then (p.1,v) else p) else A ++ [(k,v)]
theorem Ar (a k:List Int):decide (iK a = iK k) = decide (a = k):=by
 by_cases h:a = k
 ·rw [h,decide_eq_true rfl,decide_eq_true rfl]
 ·rw [decide_eq_false h,decide_eq_false fun e => h (zZ e)]
theorem vk (k:List Int):∀ A:List eg,pF (A.map eD) (iK k) = (A.find? fun p => decide (p.1 = k)).map fun p => ao.int p.2
 | [] => rfl
 | p :: A => by
  unfold pF
  rw [List.map_cons,List.find?_cons,List.find?_cons]
  show Option.map _ (match decide (iK p.1 = iK k) with | true => some (eD p) | false => _) = _
  rw [Ar]
  cases decide (p.1 = k) with
  | true => rfl
  | false => exact vk k A
theorem As (k:List Int):∀ A:List eg,((A.map eD).any fun kv => decide (kv.1 = iK k)) = A.any fun p => decide (p.1 = k)
 | [] => rfl
 | p :: A => by
  rw [List.map_cons,List.any_cons,List.any_cons,As k A]
  show (decide (iK p.1 = iK k) || _) = _
  rw [Ar]
theorem C7 (A:List eg) (k:List Int) (v:Int):wt (A.map eD) (iK k) (.int v) = (g7 A k v).map eD:=by
 unfold wt g7
 rw [As]
 by_cases h:(A.any fun p => decide (p.1 = k)) = true
 ·rw [if_pos h,if_pos h,List.map_map,List.map_map]
  refine List.map_congr_left fun p _ => ?_
  show (if iK p.1 = iK k then (iK p.1,ao.int v) else eD p) = eD (if p.1 = k then (p.1,v) else p)
  by_cases e:p.1 = k
  ·rw [if_pos e,if_pos (by rw [e])]; rfl
  ·rw [if_neg e,if_neg fun z => e (zZ z)]
 ·rw [if_neg h,if_neg h,List.map_append]; rfl
theorem oT (k:List Int):jQ (b7 k) = some (iK k):=by
 have h:∀ k:List Int,keysOf (k.map ao.int) = some (iK k):=by
  intro k
  induction k with
  | nil => rfl
  | cons x k ih =>
   rw [List.map_cons]
   unfold keysOf
   show (match cF (ao.int x),keysOf (k.map ao.int) with | some a,some b => some (a :: b) | _,_ => none) = _
   rw [ih]; rfl
 show keysOf (k.map ao.int) = _
 exact h k
theorem vm {st:ag} {d:Nat} {A:List eg} (h:st[d]? = some (.dT (A.map eD))) (k:List Int):kC st (.loc d) (b7 k) = some ((A.find? fun p => decide (p.1 = k)).map fun p => ao.int p.2):=by
 unfold kC
 dsimp only
 rw [h]
 dsimp only
 rw [oT,Option.map_some,vk]
theorem w? {st:ag} {d:Nat} {A:List eg} (h:st[d]? = some (.dT (A.map eD))) (hl:A.length < sizeLine) (k:List Int) (v:Int):jR st (.loc d) (b7 k) (.int v) = some (st.set d (.dT ((g7 A k v).map eD))):=by
 unfold jR
 dsimp only
 rw [h]
 dsimp only
 rw [if_pos (by rw [List.length_map]; exact hl),oT,Option.map_some,C7]
theorem xa (A:List eg) (k:List Int):((A.find? fun p => decide (p.1 = k)).map fun p => ao.int p.2).getD (.int 0) = .int (fW A k):=by
 unfold fW
 cases A.find? fun p => decide (p.1 = k) with
 | none => rfl
 | some p => rfl
theorem xb {A:List eg} {k:List Int} {v:Int}:(g7 A k v).map (·.1) = if A.any (fun p => decide (p.1 = k)) then A.map (·.1) else A.map (·.1) ++ [k]:=by
 unfold g7
 by_cases h:(A.any fun p => decide (p.1 = k)) = true
 ·rw [if_pos h,if_pos h,List.map_map]
  refine List.map_congr_left fun p _ => ?_
  show (if p.1 = k then (p.1,v) else p).1 = p.1
  split <;> rfl
 ·rw [if_neg h,if_neg h,List.map_append]; rfl
theorem C8 {A:List eg} {k:List Int}:(A.any fun p => decide (p.1 = k)) = true ↔ k ∈ A.map (·.1):=by
 rw [List.any_eq_true,List.mem_map]
 constructor
 ·rintro ⟨p,hp,e⟩; exact ⟨p,hp,of_decide_eq_true e⟩
 ·rintro ⟨p,hp,e⟩; exact ⟨p,hp,decide_eq_true e⟩
theorem tU {A:List eg} (h:(A.map (·.1)).Nodup) (k:List Int) (v:Int):((g7 A k v).map (·.1)).Nodup:=by
 rw [xb]
 by_cases c:(A.any fun p => decide (p.1 = k)) = true
 ·rw [if_pos c]; exact h
 ·rw [if_neg c]
  refine List.nodup_append.mpr ⟨h,List.pairwise_singleton _ _,?_⟩
  intro a ha b hb e
  rw [List.mem_singleton.mp hb] at e
  exact c (C8.mpr (e ▸ ha))
theorem Au {A:List eg} {k:List Int} {v:Int}:(g7 A k v).length ≤ A.length + 1:=by
 unfold g7
 split
 ·rw [List.length_map]; lia
 ·rw [List.length_append]; exact Nat.le_refl _
theorem Av {A:List eg} {k:List Int} {v:Int} {t:eg} (h:t ∈ g7 A k v):t ∈ A ∨ t = (k,v):=by
 unfold g7 at h
 split at h
 ·obtain ⟨p,hp,e⟩:=List.mem_map.mp h
  by_cases c:p.1 = k
  ·rw [if_pos c] at e; right; rw [← e,c]
  ·rw [if_neg c] at e; left; rw [← e]; exact hp
 ·rcases List.mem_append.mp h with h | h
  ·exact .inl h
  ·exact .inr (List.mem_singleton.mp h)
end PG
namespace PG
open PySem PySem.Spec L2 MN
open PyProof.Rows hiding St kindOf
theorem set_dict (st:ag) (a b:List (List cI × ao)):(st ++ [bf.dT a]).set st.length (.dT b) = st ++ [.dT b]:=zI st _ _
theorem vn (st:ag) (a:List (List cI × ao)):(st ++ [bf.dT a])[st.length]? = some (.dT a):=by
 rw [List.getElem?_append_right (Nat.le_refl _),Nat.sub_self]; rfl
end PG
namespace PG
open PySem PySem.Spec L2 MN
open PyProof.Rows hiding St kindOf
noncomputable def HV:ao → List Int
 | .tup us => (rm us).getD []
 | _ => []
theorem Aw (k:List Int):HV (b7 k) = k:=by
 show (rm (k.map ao.int)).getD [] = k
 rw [Aa]; rfl
theorem C9 {s:ag} {d:Nat} {A:List eg} {k:List Int} (h:s[d]? = some (.dT (A.map eD))) (hk:k ∈ A.map (·.1)):je (.loc d) (b7 k) s = .ok (.int (fW A k)) s:=by
 unfold je
 rw [vm h k]
 unfold fW
 cases z:A.find? fun p => decide (p.1 = k) with
 | none =>
  rw [List.find?_eq_none] at z
  obtain ⟨p,hp,e⟩:=List.mem_map.mp hk
  exact absurd (decide_eq_true e) (z p hp)
 | some p => rfl
theorem Ax {m:ME} {μ:MN.Env} {st:ag}:mS m μ st = (m μ st).f6 z_:=gQ
end PG
namespace PG
open PySem PySem.Spec L2 MN
open PyProof.Rows hiding St kindOf
end PG
namespace PG
open PySem PySem.Spec L2 MN
open PyProof.Rows hiding St kindOf
end PG
namespace PG
open PySem PySem.Spec L2 MN
open PyProof.Rows hiding St kindOf
end PG
namespace PG
open PySem PySem.Spec L2 MN
open PyProof.Rows hiding St kindOf
theorem xc {g:ag → Prop} {a:AS} {e:ME} {u y:ao} {us:List ao} {τ τ1:MN.Env} {st st1:ag} {ys:List ao} (hg:g st) (h1:a u τ = some τ1) (h2:e τ1 st = .ok y st1):cq g a bD e (u :: us) τ st ys = cq g a bD e us τ1 st1 (ys ++ [y]):=by
 rw [cq]
 rw [if_pos hg,h1]
 dsimp only [bD]
 rw [h2]
theorem oU {g:ag → Prop} {a:AS} {c:MT} {e:ME} {τ:MN.Env} {st:ag} {ys:List ao} (hg:g st):cq g a c e [] τ st ys = .ok ys st:=by
 rw [cq,if_pos hg]
end PG
namespace PG
open PySem PySem.Spec L2 MN
open PyProof.Rows hiding St kindOf
end PG
namespace PG
open PySem PySem.Spec L2 MN
open PyProof.Rows hiding St kindOf
noncomputable def Ay:ao → eg
 | .tup [k,.int n] => (HV k,n)
 | _ => ([],0)
theorem vo (t:eg):Ay (tV t) = t:=by
 show (HV (b7 t.1),t.2) = t
 rw [Aw]
end PG
namespace PG
open PySem PySem.Spec L2 MN
open PyProof.Rows hiding St kindOf
end PG
namespace PG
open PySem PySem.Spec L2 MN
open PyProof.Rows hiding St kindOf
end PG
namespace PG
open PySem PySem.Spec L2 MN
open PyProof.Rows hiding St kindOf
end PG
namespace PG
open PySem PySem.Spec L2 MN
open PyProof.Rows hiding St kindOf
end PG
namespace PG
open PySem PySem.Spec L2 MN
open PyProof.Rows hiding St kindOf
end PG
namespace PG
open PySem PySem.Spec L2 MN
open PyProof.Rows hiding St kindOf
section
variable {μ:MN.Env} {s s1 s2:ag} {a b:ME} {f:F2} {x y:ao} {r:bW ao} {t u:MT} {c:Bool} {B:MB}
theorem fc (h1:a μ s = .ok x s1) (h2:b μ s1 = .ok y s2):aj f a b μ s = f x y s2:=by
 show (a μ s).bind _ = _
 rw [h1]
 show (b μ s1).bind _ = _
 rw [h2]
theorem fe (h:a μ s = .ok (.bl c) s1):bg a μ s = .ok c s1:=by rw [aZ,h]; rfl
theorem vp (h:t μ s = .ok true s1):c6 t μ s = .ok false s1:=by rw [eS,h]; rfl
theorem m9 (h:t μ s = .ok false s1):cg t B aD μ s = .nx μ s1:=by rw [bA,h,ay,cV]; rfl
theorem Hh (h1:a μ s = .ok (.bl true) s1) (h2:b μ s1 = r):mq a b μ s = r:=by rw [fJ,h1,au,gm,h2]
end
theorem Az {s:ag} {n:Nat} {c:bf} (h:s[n]? = some c) (more:ag):(s ++ more)[n]? = some c:=by
 have:n < s.length:=by
  rcases Nat.lt_or_ge n s.length with q | q
  ·exact q
  ·rw [List.getElem?_eq_none q] at h; cases h
 rw [List.getElem?_append_left this]; exact h
end PG
namespace PG
open PySem PySem.Spec L2 MN
open PyProof.Rows hiding St kindOf
theorem xf {s:ag} {d:Nat} {A:List eg} {k:List Int} {v:Int} (h:s[d]? = some (.dT (A.map eD))) (hl:A.length < sizeLine) :
  PM.gY [.loc d,b7 k,.int v] s = .ok .cB (s.set d (.dT ((g7 A k (fW A k + v)).map eD))):=by
 have hd:wu s (.loc d) = true:=by
  unfold wu
  dsimp only
  rw [h]
 have e1:mI (af 0) (af 1) (mC (.int 0)) [some (.loc d),some (b7 k),some (.int v)] s = .ok (.int (fW A k)) s:=by
  show (if wu s (.loc d) = true then (match kC s (.loc d) (b7 k) with | some o => bW.ok (o.getD (.int 0)) s | none => .bad) else .bad) = _
  rw [if_pos hd,vm h k]
  show bW.ok (Option.getD _ (ao.int 0)) s = _
  rw [xa]
 have e2:aj c! (mI (af 0) (af 1) (mC (.int 0))) (af 2) [some (.loc d),some (b7 k),some (.int v)] s = .ok (.int (fW A k + v)) s:=by
  unfold aj
  rw [e1]; rfl
 unfold PM.gY
 rw [aU (np:=3) (us:=[ao.loc d,b7 k,.int v]) rfl]
 show (pH (af 0) (af 1) (aj c! (mI (af 0) (af 1) (mC (.int 0))) (af 2)) [some (.loc d),some (b7 k),some (.int v)] s).fin = _
 unfold pH
 rw [e2]
 show bQ.fin (match jR s (.loc d) (b7 k) (.int (fW A k + v)) with | some ku => bQ.nx _ ku | none => .bad) = _
 rw [w? h hl]
 rfl
noncomputable def pT (r n:Int):Int:=if r = 0 then n else n.fmod r
noncomputable def rq (A:List eg):List eg:=(mQ (A.map (·.1))).map fun k => (k,fW A k)
noncomputable def iB (r:Int) (A:List eg):List eg:=((rq A).map fun t => (t.1,pT r t.2)).filter fun t => t.2 != 0
theorem C_ (r n:Int) (st:ag):PM.bj [.int r,.int n] st = .ok (.int (pT r n)) st:=by
 unfold pT
 by_cases h:r = 0
 ·have e:(r == 0) = true:=by rw [h]; rfl
  rw [if_pos h]
  simp only [PM.bj,aU,au,ay,bG,aS,br,aQ,u6,cE,cf,a8,aZ,mM,bc,c8,bz,bP,List.map_cons,List.map_nil,List.cons_append,List.nil_append,List.replicate_zero,Nat.reduceSub,List.length_cons,List.length_nil,Nat.reduceAdd,e]
 ·have e:(r == 0) = false:=by simpa using h
  rw [if_neg h]
  simp only [PM.bj,aU,au,ay,bG,aS,br,aQ,jh,cE,cf,a8,aZ,mM,bc,c8,bz,bP,List.map_cons,List.map_nil,List.cons_append,List.nil_append,List.replicate_zero,Nat.reduceSub,List.length_cons,List.length_nil,Nat.reduceAdd,e,ck h]
theorem tW {p:Nat} {L:List eg} {r:Int} {st:ag} (h:ak st p = some (L.map tV)) (hl:L.length ≤ 1000000) :
  ∃ c,PM.cT [.int r,.loc p] st = .ok (.loc (st.length + 1)) (st ++ [c,.lst (((L.map fun t => (t.1,pT r t.2)).filter fun t => t.2 != 0).map tV)]):=by
 obtain ⟨L',M7⟩:∃ L':List eg,L' = L.map fun t => (t.1,pT r t.2):=⟨_,rfl⟩
 have cp:=cL (a:=fh [aB 0,aB 1]) (c:=bD) (e:=du (aa (af 0) (aa (ai PM.bj (aa (af 2) (aa (af 1) ah))) ah))) (g:=fun av => ak av p = some (L.map tV)) (st:=st) h (fun τ => ∃ x y,τ = [x,y,some (.int r)]) (fun _ => true) (fun v => tV ((Ay v).1,pT r (Ay v).2)) (L.map tV) [none,none,some (.int r)] [] ⟨_,_,rfl⟩ (by
  rintro u hu τ ⟨x,y,rfl⟩
  obtain ⟨t,ht,rfl⟩:=List.mem_map.mp hu
  refine ⟨[some (b7 t.1),some (.int t.2),some (.int r)],rfl,⟨_,_,rfl⟩,rfl,fun _ => ?_⟩
  have e0:af 0 [some (b7 t.1),some (.int t.2),some (.int r)] st = .ok (b7 t.1) st:=rfl
  have e1:ai PM.bj (aa (af 2) (aa (af 1) ah)) [some (b7 t.1),some (.int t.2),some (.int r)] st = .ok (.int (pT r t.2)) st:=by
   show PM.bj [.int r,.int t.2] st = _
   exact C_ _ _ _
  rw [vo,pN,aJ,e0,au,aT,aJ,e1,au,aT,a9,au,aK,au,aK,au,u9]
  exact if_pos (by rw [sizeLine_eq]; show 2 ≤ 16777216; decide))
 have e:(List.filter (fun _ => true) (L.map tV)).map (fun v => tV ((Ay v).1,pT r (Ay v).2)) = L'.map tV:=by
  rw [List.filter_eq_self.mpr fun _ _ => rfl,List.map_map,M7,List.map_map]
  refine List.map_congr_left fun t _ => ?_
  show tV ((Ay (tV t)).1,pT r (Ay (tV t)).2) = _
  rw [vo]; rfl
 rw [e,List.nil_append] at cp
 obtain ⟨s,hs⟩:∃ s,s = st ++ [bf.lst (L'.map tV)]:=⟨_,rfl⟩
 have ls:s.length = st.length + 1:=by rw [hs,List.length_append]; rfl
 have h2:ak s st.length = some (L'.map tV):=by rw [hs]; exact aR st _
 have lL:L'.length = L.length:=by rw [M7,List.length_map]
 have OP:=cL (a:=aB 0) (c:=bg (aj kB (aj gz (af 0) (mC (.int 1))) (mC (.int 0)))) (e:=af 0) (g:=fun av => ak av st.length = some (L'.map tV)) (st:=s) h2 (fun τ => ∃ x,τ = [x]) (fun v => (Ay v).2 != 0) (fun v => v) (L'.map tV) [none] [] ⟨_,rfl⟩ (by
  rintro u hu τ ⟨x,rfl⟩
  obtain ⟨t,ht,rfl⟩:=List.mem_map.mp hu
  refine ⟨[some (tV t)],rfl,⟨_,rfl⟩,?_,fun _ => rfl⟩
  rw [vo]
  refine fe ?_
  rw [fc (x:=.int t.2) (s1:=s) rfl (y:=.int 0) (s2:=s) rfl,u_]
  rfl)
 have e2:(List.filter (fun v => (Ay v).2 != 0) (L'.map tV)).map (fun v => v) = (L'.filter fun t => t.2 != 0).map tV:=by
  rw [List.map_id',List.filter_map]
  have:((fun v => (Ay v).2 != 0) ∘ tV) = fun t => t.2 != 0:=by
   funext t
   show ((Ay (tV t)).2 != 0) = _
   rw [vo]
  rw [this]
 rw [e2,List.nil_append] at OP
 refine ⟨.lst (L'.map tV),?_⟩
 have v1:af 1 [some (ao.int r),some (.loc p),none] st = .ok (.loc p) st:=rfl
 have sU:gO 2 [0] [some (ao.int r),some (.loc p),none] = [none,none,some (.int r)]:=rfl
 have comp:b! 2 [0] (dg (af 1)) (fh [aB 0,aB 1]) bD (du (aa (af 0) (aa (ai PM.bj (aa (af 2) (aa (af 1) ah))) ah))) [some (.int r),some (.loc p),none] st = .ok (.loc st.length) s:=by
  rw [d8,d9,v1,au,dz h,au,fK,if_pos (by rw [List.length_map,sizeLine_eq]; lia),sU,cp,au,iy,hs]
 have v2:af 2 [some (ao.int r),some (.loc p),some (.loc st.length)] s = .ok (.loc st.length) s:=rfl
 have M8:gO 1 [] [some (ao.int r),some (.loc p),some (.loc st.length)] = [none]:=rfl
 have J8:b! 1 [] (dg (af 2)) (aB 0) (bg (aj kB (aj gz (af 0) (mC (.int 1))) (mC (.int 0)))) (af 0) [some (.int r),some (.loc p),some (.loc st.length)] s = .ok (.loc s.length) (s ++ [.lst ((L'.filter fun t => t.2 != 0).map tV)]):=by
  rw [d8,d9,v2,au,dz h2,au,fK,if_pos (by rw [List.length_map,sizeLine_eq]; lia),M8,OP,au,iy]
 have first:bu 2 (b! 2 [0] (dg (af 1)) (fh [aB 0,aB 1]) bD (du (aa (af 0) (aa (ai PM.bj (aa (af 2) (aa (af 1) ah))) ah)))) [some (.int r),some (.loc p),none] st = .nx [some (.int r),some (.loc p),some (.loc st.length)] s:=by
  rw [cW,comp,ay]; rfl
 have es:st ++ [bf.lst (L'.map tV),.lst ((L'.filter fun t => t.2 != 0).map tV)] = s ++ [.lst ((L'.filter fun t => t.2 != 0).map tV)]:=by rw [hs,List.append_assoc]; rfl
 unfold PM.cT
 rw [aU (np:=2) (us:=[ao.int r,.loc p]) rfl,← M7,es,← ls]
 show (aw (bu 2 (b! 2 [0] (dg (af 1)) (fh [aB 0,aB 1]) bD (du (aa (af 0) (aa (ai PM.bj (aa (af 2) (aa (af 1) ah))) ah))))) (aO (b! 1 [] (dg (af 2)) (aB 0) (bg (aj kB (aj gz (af 0) (mC (.int 1))) (mC (.int 0)))) (af 0))) [some (.int r),some (.loc p),none] st).fin = _
 rw [aL,first,aX,bc,J8,ay]
 rfl
end PG
namespace PG
open PySem PySem.Spec L2 MN
open PyProof.Rows hiding St kindOf
noncomputable def ff (P:List eg):List eg:=P.foldl (fun A t => g7 A t.1 (fW A t.1 + t.2)) []
theorem xg (P:List eg) (t:eg):ff (P ++ [t]) = g7 (ff P) t.1 (fW (ff P) t.1 + t.2):=by
 unfold ff
 rw [List.foldl_append]; rfl
theorem fold_all (K:List (List Int)):∀ (P A:List eg),(A.map (·.1)).Nodup → (∀ t ∈ A,t.1 ∈ K) → (∀ t ∈ P,t.1 ∈ K) →
  ((P.foldl (fun A t => g7 A t.1 (fW A t.1 + t.2)) A).map (·.1)).Nodup ∧ (P.foldl (fun A t => g7 A t.1 (fW A t.1 + t.2)) A).length ≤ A.length + P.length ∧ ∀ t ∈ P.foldl (fun A t => g7 A t.1 (fW A t.1 + t.2)) A,t.1 ∈ K
 | [],A,h1,h2,_ => ⟨h1,by simp,h2⟩
 | t :: P,A,h1,h2,h3 => by
  have ih:=fold_all K P (g7 A t.1 (fW A t.1 + t.2)) (tU h1 _ _) (fun q hq => by
   rcases Av hq with hq | rfl
   ·exact h2 q hq
   ·exact h3 t List.mem_cons_self) (fun q hq => h3 q (List.mem_cons_of_mem _ hq))
  refine ⟨ih.1,Nat.le_trans ih.2.1 ?_,ih.2.2⟩
  have:=Au (A:=A) (k:=t.1) (v:=fW A t.1 + t.2)
  rw [List.length_cons]
  lia
theorem rA (P:List eg):((ff P).map (·.1)).Nodup ∧ (ff P).length ≤ P.length ∧ ∀ t ∈ ff P,t.1 ∈ P.map (·.1):=by
 have:=fold_all (P.map (·.1)) P [] List.nodup_nil (fun t ht => by cases ht) (fun t ht => List.mem_map.mpr ⟨t,ht,rfl⟩)
 refine ⟨this.1,?_,this.2.2⟩
 have:=this.2.1
 simp at this
 exact this
noncomputable abbrev K8:MB:=bh (ai PM.gY (aa (af 3) (aa (af 4) (aa (af 5) ah))))
theorem xh {p:Nat} {P:List eg} {st:ag} {x0 x1:Option ao} (h:ak st p = some (P.map tV)) (hl:P.length < 1000000) :
  ∃ y4 y5,forL (fun av => ak av p = some (P.map tV)) (fh [aB 4,aB 5]) K8 (P.map tV) [x0,x1,some (.loc p),some (.loc st.length),none,none] (st ++ [.dT []]) = .nx [x0,x1,some (.loc p),some (.loc st.length),y4,y5] (st ++ [.dT ((ff P).map eD)]):=by
 have hg:∀ (A:List eg),ak (st ++ [.dT (A.map eD)]) p = some (P.map tV):=fun A => aM h _
 obtain ⟨μ',av,e,rfl,y4,y5,rfl⟩:=jf (g:=fun av => ak av p = some (P.map tV)) (a:=fh [aB 4,aB 5]) (body:=K8)
  (fun i μ s' => s' = st ++ [.dT ((ff (P.take i)).map eD)] ∧ ∃ y4 y5,μ = [x0,x1,some (.loc p),some (.loc st.length),y4,y5])
  (P.map tV) 0 [x0,x1,some (.loc p),some (.loc st.length),none,none] (st ++ [.dT []])
  (by
   rintro i u μ s' hu ⟨rfl,y4,y5,rfl⟩
   rw [Nat.zero_add]
   refine ⟨hg _,?_⟩
   rw [List.getElem?_map] at hu
   have hi:i < P.length:=by
    rcases Nat.lt_or_ge i P.length with q | q
    ·exact q
    ·rw [List.getElem?_eq_none q] at hu; cases hu
   rw [List.getElem?_eq_getElem hi] at hu
   obtain ⟨t,ht⟩:∃ t,t = P[i]:=⟨_,rfl⟩
   rw [← ht] at hu
   cases hu
   have tk:P.take (i + 1) = P.take i ++ [t]:=by
    rw [List.take_succ,List.getElem?_eq_getElem hi,← ht]; rfl
   have lA:=(rA (P.take i)).2.1
   rw [List.length_take] at lA
   have ad:=xf (k:=t.1) (v:=t.2) (vn st ((ff (P.take i)).map eD)) (by rw [sizeLine_eq]; lia)
   rw [set_dict,← xg,← tk] at ad
   refine ⟨[x0,x1,some (.loc p),some (.loc st.length),some (b7 t.1),some (.int t.2)],rfl,[x0,x1,some (.loc p),some (.loc st.length),some (b7 t.1),some (.int t.2)],_,.inl ?_,rfl,_,_,rfl⟩
   have q:ai PM.gY (aa (af 3) (aa (af 4) (aa (af 5) ah))) [x0,x1,some (.loc p),some (.loc st.length),some (b7 t.1),some (.int t.2)] (st ++ [.dT ((ff (P.take i)).map eD)]) = .ok .cB (st ++ [.dT ((ff (P.take (i + 1))).map eD)]):=by
    show PM.gY [.loc st.length,b7 t.1,.int t.2] _ = _
    exact ad
   show bh _ _ _ = _
   rw [bJ,q,ay]
   rfl)
  (fun μ s hp => by obtain ⟨rfl,_⟩:=hp; exact hg _)
  ⟨rfl,none,none,rfl⟩
 rw [Nat.zero_add,List.length_map,List.take_of_length_le (Nat.le_refl _)] at e
 exact ⟨y4,y5,e⟩
noncomputable abbrev K9:ME:=du (aa (af 0) (aa (aj je (af 1) (af 0)) ah))
theorem xi {s:ag} {d:Nat} {A:List eg} {r:Int} (h:s[d]? = some (.dT (A.map eD))) (nd:(A.map (·.1)).Nodup) (hl:A.length < 1000000) (ne:∀ t ∈ A,t.1 ≠ []) :
  ∃ c1 c2 c3,PM.b4 [.int r,.loc d] s = .ok (.loc (s.length + 3)) (s ++ [c1,c2,c3,.lst ((iB r A).map tV)]):=by
 have J9:(A.map eD).map (·.1) = (A.map (·.1)).map iK:=by rw [List.map_map,List.map_map]; rfl
 have Qw:=CU (ks:=A.map (·.1)) h J9 (by rw [List.length_map,sizeLine_eq]; lia) (fun k hk => by
  obtain ⟨t,ht,rfl⟩:=List.mem_map.mp hk
  exact ne t ht)
 obtain ⟨s2,fP⟩:∃ s2,s2 = s ++ [bf.lst ((mQ (A.map (·.1))).map b7)]:=⟨_,rfl⟩
 have hd2:s2[d]? = some (.dT (A.map eD)):=by rw [fP]; exact Az h _
 have hit:ak s2 s.length = some ((mQ (A.map (·.1))).map b7):=by rw [fP]; exact aR s _
 have lk:(mQ (A.map (·.1))).length = A.length:=by rw [(jl _).length_eq,List.length_map]
 have cp:=cL (a:=aB 0) (c:=bD) (e:=K9) (g:=fun av => ak av s.length = some ((mQ (A.map (·.1))).map b7)) (st:=s2) hit (fun τ => ∃ x,τ = [x,some (.loc d)]) (fun _ => true) (fun v => .tup [v,.int (fW A (HV v))]) ((mQ (A.map (·.1))).map b7) [none,some (.loc d)] [] ⟨_,rfl⟩ (by
  rintro u hu τ ⟨x,rfl⟩
  obtain ⟨k,hk,rfl⟩:=List.mem_map.mp hu
  have Qx:=(jl _).mem_iff.mp hk
  have e0:af 0 [some (b7 k),some (.loc d)] s2 = .ok (b7 k) s2:=rfl
  have e1:aj je (af 1) (af 0) [some (b7 k),some (.loc d)] s2 = .ok (.int (fW A k)) s2:=by
   show je (.loc d) (b7 k) s2 = _
   exact C9 hd2 Qx
  refine ⟨[some (b7 k),some (.loc d)],rfl,⟨_,rfl⟩,rfl,fun _ => ?_⟩
  rw [Aw]
  unfold K9
  rw [pN,aJ,e0,au,aT,aJ,e1,au,aT,a9,au,aK,au,aK,au,u9]
  exact if_pos (by rw [sizeLine_eq]; show 2 ≤ 16777216; decide))
 have e:(List.filter (fun _ => true) ((mQ (A.map (·.1))).map b7)).map (fun v => ao.tup [v,.int (fW A (HV v))]) = (rq A).map tV:=by
  rw [List.filter_eq_self.mpr fun _ _ => rfl,List.map_map]
  unfold rq
  rw [List.map_map]
  refine List.map_congr_left fun k _ => ?_
  show ao.tup [b7 k,.int (fW A (HV (b7 k)))] = _
  rw [Aw]; rfl
 rw [e,List.nil_append] at cp
 obtain ⟨s3,iC⟩:∃ s3,s3 = s2 ++ [bf.lst ((rq A).map tV)]:=⟨_,rfl⟩
 have v1:af 1 [some (ao.int r),some (.loc d)] s = .ok (.loc d) s:=rfl
 have sU:gO 1 [1] [some (ao.int r),some (.loc d)] = [none,some (.loc d)]:=rfl
 have comp:b! 1 [1] (dg (mS (af 1))) (aB 0) bD K9 [some (.int r),some (.loc d)] s = .ok (.loc s2.length) s3:=by
  rw [d8,d9,Ax,v1,au,Qw,← fP,au,dz hit,au,fK,if_pos (by rw [List.length_map,lk,sizeLine_eq]; lia),sU,cp,au,iy,iC]
 obtain ⟨c3,se⟩:=tW (r:=r) (L:=rq A) (p:=s2.length) (st:=s3) (by rw [iC]; exact aR s2 _) (by unfold rq; rw [List.length_map,lk]; lia)
 refine ⟨.lst ((mQ (A.map (·.1))).map b7),.lst ((rq A).map tV),c3,?_⟩
 have l3:s3.length = s.length + 2:=by rw [iC,fP,List.length_append,List.length_append]; rfl
 have es:s ++ [bf.lst ((mQ (A.map (·.1))).map b7),.lst ((rq A).map tV),c3,.lst ((iB r A).map tV)] = s3 ++ [c3,.lst ((iB r A).map tV)]:=by
  rw [iC,fP,List.append_assoc,List.append_assoc]; rfl
 have v0:af 0 [some (ao.int r),some (.loc d)] s = .ok (.int r) s:=rfl
 unfold PM.b4
 rw [aU (np:=2) (us:=[ao.int r,.loc d]) rfl,es]
 show (aO (ai PM.cT (aa (af 0) (aa (b! 1 [1] (dg (mS (af 1))) (aB 0) bD K9) ah))) [some (.int r),some (.loc d)] s).fin = _
 rw [bc,aY,aJ,v0,au,aT,aJ,comp,au,aT,a9,au,aK,au,aK,au,se,l3]
 rfl
end PG
namespace PG
open PySem PySem.Spec L2 MN
open PyProof.Rows hiding St kindOf
end PG
namespace PG
open PySem PySem.Spec L2 MN
open PyProof.Rows hiding St kindOf
end PG
namespace PG
open PySem PySem.Spec L2 MN
open PyProof.Rows hiding St kindOf
theorem within_int (e lo hi:Int) (st:ag):PM.aF [.int e,.int lo,.int hi] st = .ok (.bl (decide (lo ≤ e) && decide (e ≤ hi))) st:=by
 by_cases h:lo ≤ e
 ·have z:decide (lo ≤ e) = true:=decide_eq_true h
  rw [z,Bool.true_and]
  simp only [PM.aF,aU,au,ay,bG,aQ,gm,zt,qU,pM,aT,aK,cE,fJ,gR,a9,aJ,aY,bc,qW,bz,bP,List.map_cons,List.map_nil,List.cons_append,List.nil_append,List.replicate_zero,Nat.reduceSub,List.length_cons,List.length_nil,Nat.reduceAdd,dI,z]
 ·have z:decide (lo ≤ e) = false:=decide_eq_false h
  rw [z,Bool.false_and]
  simp only [PM.aF,aU,au,ay,bG,gm,zt,qU,u7,aT,aK,cE,fJ,gR,a9,aJ,aY,bc,qW,bz,bP,List.map_cons,List.map_nil,List.cons_append,List.nil_append,List.replicate_zero,Nat.reduceSub,List.length_cons,List.length_nil,Nat.reduceAdd,dI,z]
structure Good (aC:Nat) (t:eg):Prop where
 len:t.1.length = aC
 rg:∀ e ∈ t.1,0 ≤ e ∧ e ≤ 99
theorem rB:∀ us:List Int,fR (us.map fun _ => ao.bl true) = some (us.map fun _ => true)
 | [] => rfl
 | u :: us => by
  rw [List.map_cons]
  unfold fR
  rw [rB us]; rfl
theorem Hi {k:List Int} {aC:Nat} (hl:k.length = aC) (hm:aC ≤ 4) (hr:∀ e ∈ k,0 ≤ e ∧ e ≤ 99) (st:ag):PM.b0 [b7 k,.int (aC:Int)] st = .ok (.bl true) (st ++ [.lst (k.map fun _ => ao.bl true)]):=by
 have cp:=cL (a:=aB 0) (c:=bD) (e:=ai PM.aF (aa (af 0) (aa (mC (.int 0)) (aa (mC (.int 99)) ah)))) (g:=fun _ => True) (st:=st) trivial (fun τ => ∃ x,τ = [x]) (fun _ => true) (fun _ => .bl true) (k.map ao.int) [none] [] ⟨_,rfl⟩ (by
  rintro u hu τ ⟨x,rfl⟩
  obtain ⟨e,he,rfl⟩:=List.mem_map.mp hu
  refine ⟨[some (.int e)],rfl,⟨_,rfl⟩,rfl,fun _ => ?_⟩
  show PM.aF [.int e,.int 0,.int 99] st = _
  have:=hr e he
  rw [within_int,decide_eq_true this.1,decide_eq_true this.2]; rfl)
 rw [List.filter_eq_self.mpr fun _ _ => rfl,List.map_map,List.nil_append] at cp
 have e0:((fun _ => ao.bl true) ∘ ao.int) = fun _:Int => ao.bl true:=rfl
 rw [e0] at cp
 have v0:af 0 [some (b7 k),some (.int (aC:Int))] st = .ok (b7 k) st:=rfl
 have sU:gO 1 [] [some (b7 k),some (.int (aC:Int))] = [none]:=rfl
 have comp:b! 1 [] (dg (af 0)) (aB 0) bD (ai PM.aF (aa (af 0) (aa (mC (.int 0)) (aa (mC (.int 99)) ah)))) [some (b7 k),some (.int (aC:Int))] st = .ok (.loc st.length) (st ++ [.lst (k.map fun _ => ao.bl true)]):=by
  rw [d8,d9,v0,au]
  show ((mO (.tup (k.map ao.int)) st).f6 _) = _
  rw [wC,au,fK,if_pos (by rw [List.length_map,sizeLine_eq]; lia),sU,cp,au,iy]
 have al:jP [.loc st.length] (st ++ [.lst (k.map fun _ => ao.bl true)]) = .ok (.bl true) (st ++ [.lst (k.map fun _ => ao.bl true)]):=by
  unfold jP
  dsimp only
  rw [aR]
  dsimp only
  rw [rB]
  dsimp only
  congr 2
  rw [List.all_map]
  exact List.all_eq_true.mpr fun _ _ => rfl
 have c1:iP (c6 (bg (xQ "tuple" (af 0)))) (bg (aj kB (ai dC (aa (af 0) ah)) (af 1))) [some (b7 k),some (.int (aC:Int))] st = .ok (!(((k.map ao.int).length:Int) == (aC:Int))) st:=rfl
 rw [List.length_map,hl,beq_self_eq_true] at c1
 unfold PM.b0
 rw [aU (np:=2) (us:=[b7 k,.int (aC:Int)]) rfl]
 show (aw (cg (iP (c6 (bg (xQ "tuple" (af 0)))) (bg (aj kB (ai dC (aa (af 0) ah)) (af 1)))) (aO (mC (.bl false))) aD) (aO (ai jP (aa (b! 1 [] (dg (af 0)) (aB 0) bD (ai PM.aF (aa (af 0) (aa (mC (.int 0)) (aa (mC (.int 99)) ah))))) ah))) [some (b7 k),some (.int (aC:Int))] st).fin = _
 rw [aL,m9 c1,aX,bc,aY,aJ,comp,au,aT,a9,au,aK,au,al,ay]
 rfl
theorem m_ {t:eg} {aC:Nat} (G:Good aC t) (hm:aC ≤ 4) (st:ag):PM.cZ [tV t,.int (aC:Int)] st = .ok (.bl true) (st ++ [.lst (t.1.map fun _ => ao.bl true)]):=by
 have ar:=Hi G.len hm G.rg st
 have c1:iP (c6 (bg (xQ "tuple" (af 0)))) (bg (aj kB (ai dC (aa (af 0) ah)) (mC (.int 2)))) [some (tV t),some (.int (aC:Int))] st = .ok false st:=rfl
 have q1:ai PM.b0 (aa (aj gz (af 0) (mC (.int 0))) (aa (af 1) ah)) [some (tV t),some (.int (aC:Int))] st = .ok (.bl true) (st ++ [.lst (t.1.map fun _ => ao.bl true)]):=by
  show PM.b0 [b7 t.1,.int (aC:Int)] st = _
  exact ar
 have q2:∀ s:ag,ai PM.cR (aa (aj gz (af 0) (mC (.int 1))) ah) [some (tV t),some (.int (aC:Int))] s = .ok (.bl true) s:=fun s => rfl
 unfold PM.cZ
 rw [aU (np:=2) (us:=[tV t,.int (aC:Int)]) rfl]
 show (aw (cg (iP (c6 (bg (xQ "tuple" (af 0)))) (bg (aj kB (ai dC (aa (af 0) ah)) (mC (.int 2))))) (aO (mC (.bl false))) aD) (aO (mq (ai PM.b0 (aa (aj gz (af 0) (mC (.int 0))) (aa (af 1) ah))) (ai PM.cR (aa (aj gz (af 0) (mC (.int 1))) ah)))) [some (tV t),some (.int (aC:Int))] st).fin = _
 rw [aL,m9 c1,aX,bc,Hh q1 (q2 _),ay]
 rfl
noncomputable abbrev tX:MB:=cg (c6 (bg (ai PM.cZ (aa (af 2) (aa (af 0) ah))))) (cD "NoTerm" (aa (mC (.str "a term is a tuple of exponents from 0 to 99, one for each unknown, and a whole number")) ah)) aD
theorem m? {p aC:Nat} {P:List eg} {st:ag} (h:ak st p = some (P.map tV)) (G:∀ t ∈ P,Good aC t) (hm:aC ≤ 4):∃ g,PM.bt [.int (aC:Int),.loc p] st = .ok .cB (st ++ g):=by
 obtain ⟨μ',av,e,g,rfl,y,rfl⟩:=jf (g:=fun av => ak av p = some (P.map tV)) (a:=aB 2) (body:=tX)
  (fun _ μ s' => ∃ g,s' = st ++ g ∧ ∃ y,μ = [some (.int (aC:Int)),some (.loc p),y])
  (P.map tV) 0 [some (.int (aC:Int)),some (.loc p),none] st
  (by
   rintro i u μ s' hu ⟨g,rfl,y,rfl⟩
   refine ⟨aM h _,?_⟩
   obtain ⟨t,ht,rfl⟩:=List.mem_map.mp (List.mem_of_getElem? hu)
   have ip:=m_ (G t ht) hm (st ++ g)
   have q:ai PM.cZ (aa (af 2) (aa (af 0) ah)) [some (.int (aC:Int)),some (.loc p),some (tV t)] (st ++ g) = .ok (.bl true) (st ++ g ++ [.lst (t.1.map fun _ => ao.bl true)]):=by
    show PM.cZ [tV t,.int (aC:Int)] (st ++ g) = _
    exact ip
   refine ⟨[some (.int (aC:Int)),some (.loc p),some (tV t)],rfl,[some (.int (aC:Int)),some (.loc p),some (tV t)],st ++ g ++ [.lst (t.1.map fun _ => ao.bl true)],.inl ?_,g ++ [.lst (t.1.map fun _ => ao.bl true)],by rw [List.append_assoc],_,rfl⟩
   show cg _ _ _ _ _ = _
   exact m9 (vp (fe q)))
  (fun μ s hp => by obtain ⟨g,rfl,_⟩:=hp; exact aM h _)
  ⟨[],by rw [List.append_nil],none,rfl⟩
 refine ⟨g,?_⟩
 have v1:af 1 [some (ao.int (aC:Int)),some (.loc p),none] st = .ok (.loc p) st:=rfl
 unfold PM.bt
 rw [aU (np:=2) (us:=[ao.int (aC:Int),.loc p]) rfl]
 show (gD (dg (af 1)) (aB 2) tX [some (.int (aC:Int)),some (.loc p),none] st).fin = _
 rw [gT,d9,v1,au,dz h,ay,kE,e]
 rfl
end PG
namespace PG
open PySem PySem.Spec L2 MN
open PyProof.Rows hiding St kindOf
theorem fA {aC:Nat} (h1:1 ≤ aC) (h4:aC ≤ 4) (st:ag):PM.aE [.int (aC:Int)] st = .ok .cB st:=by
 have q:ai PM.aF (aa (af 0) (aa (mC (.int 1)) (aa (mC (.int 4)) ah))) [some (.int (aC:Int))] st = .ok (.bl true) st:=by
  show PM.aF [.int (aC:Int),.int 1,.int 4] st = _
  rw [within_int,decide_eq_true (by lia),decide_eq_true (by lia)]; rfl
 unfold PM.aE
 rw [aU (np:=1) (us:=[ao.int (aC:Int)]) rfl]
 show (cg (c6 (bg (ai PM.aF (aa (af 0) (aa (mC (.int 1)) (aa (mC (.int 4)) ah)))))) _ aD [some (.int (aC:Int))] st).fin = _
 rw [m9 (vp (fe q))]
 rfl
theorem C! {p aC:Nat} {P:List eg} {r:Int} {st:ag} (hr:iA r = true) (h:ak st p = some (P.map tV)) (hl:P.length < 1000000) (G:∀ t ∈ P,Good aC t) (h1:1 ≤ aC) (h4:aC ≤ 4) :
  ∃ g k,PM.made [.int r,.int (aC:Int),.loc p] st = .ok (.loc k) (st ++ g) ∧ st.length ≤ k ∧ (st ++ g)[k]? = some (.lst ((iB r (ff P)).map tV)):=by
 obtain ⟨g1,e1⟩:=b5 hr st
 obtain ⟨s1,ij⟩:∃ s1,s1 = st ++ g1:=⟨_,rfl⟩
 rw [← ij] at e1
 have i1:ak s1 p = some (P.map tV):=by rw [ij]; exact aM h _
 have e2:=fA h1 h4 s1
 obtain ⟨g3,e3⟩:=m? i1 G h4
 obtain ⟨s3,iC⟩:∃ s3,s3 = s1 ++ g3:=⟨_,rfl⟩
 rw [← iC] at e3
 have i3:ak s3 p = some (P.map tV):=by rw [iC]; exact aM i1 _
 obtain ⟨y4,y5,e4⟩:=xh (x0:=some (.int r)) (x1:=some (.int (aC:Int))) i3 hl
 have ga:=rA P
 obtain ⟨s5,C?⟩:∃ s5,s5 = s3 ++ [bf.dT ((ff P).map eD)]:=⟨_,rfl⟩
 rw [← C?] at e4
 have d5:s5[s3.length]? = some (.dT ((ff P).map eD)):=by rw [C?]; exact vn s3 _
 obtain ⟨c1,c2,c3,e5⟩:=xi (r:=r) d5 ga.1 (by lia) (fun t ht z => by
  obtain ⟨q,hq,e⟩:=List.mem_map.mp (ga.2.2 t ht)
  have:=(G q hq).len
  rw [e,z] at this
  simp at this
  lia)
 have es:st ++ (g1 ++ g3 ++ [bf.dT ((ff P).map eD)] ++ [c1,c2,c3,.lst ((iB r (ff P)).map tV)]) = s5 ++ [c1,c2,c3,.lst ((iB r (ff P)).map tV)]:=by
  rw [C?,iC,ij]
  simp only [List.append_assoc]
 refine ⟨g1 ++ g3 ++ [bf.dT ((ff P).map eD)] ++ [c1,c2,c3,.lst ((iB r (ff P)).map tV)],s5.length + 3,?_,?_,?_⟩
 ·rw [es]
  have q1:ai PM.az (aa (af 0) ah) [some (.int r),some (.int (aC:Int)),some (.loc p),none,none,none] st = .ok .cB s1:=by
   show PM.az [.int r] st = _
   exact e1
  have q2:ai PM.aE (aa (af 1) ah) [some (.int r),some (.int (aC:Int)),some (.loc p),none,none,none] s1 = .ok .cB s1:=by
   show PM.aE [.int (aC:Int)] s1 = _
   exact e2
  have q3:ai PM.bt (aa (af 1) (aa (af 2) ah)) [some (.int r),some (.int (aC:Int)),some (.loc p),none,none,none] s1 = .ok .cB s3:=by
   show PM.bt [.int (aC:Int),.loc p] s1 = _
   exact e3
  have x1:bh (ai PM.az (aa (af 0) ah)) [some (.int r),some (.int (aC:Int)),some (.loc p),none,none,none] st = .nx [some (.int r),some (.int (aC:Int)),some (.loc p),none,none,none] s1:=by
   rw [bJ,q1,ay]; rfl
  have x2:bh (ai PM.aE (aa (af 1) ah)) [some (.int r),some (.int (aC:Int)),some (.loc p),none,none,none] s1 = .nx [some (.int r),some (.int (aC:Int)),some (.loc p),none,none,none] s1:=by
   rw [bJ,q2,ay]; rfl
  have x3:bh (ai PM.bt (aa (af 1) (aa (af 2) ah))) [some (.int r),some (.int (aC:Int)),some (.loc p),none,none,none] s1 = .nx [some (.int r),some (.int (aC:Int)),some (.loc p),none,none,none] s3:=by
   rw [bJ,q3,ay]; rfl
  have x4:bu 3 mH [some (.int r),some (.int (aC:Int)),some (.loc p),none,none,none] s3 = .nx [some (.int r),some (.int (aC:Int)),some (.loc p),some (.loc s3.length),none,none] (s3 ++ [.dT []]):=rfl
  have v2:af 2 [some (ao.int r),some (.int (aC:Int)),some (.loc p),some (.loc s3.length),none,none] (s3 ++ [.dT []]) = .ok (.loc p) (s3 ++ [.dT []]):=rfl
  have x5:gD (dg (af 2)) (fh [aB 4,aB 5]) K8 [some (.int r),some (.int (aC:Int)),some (.loc p),some (.loc s3.length),none,none] (s3 ++ [.dT []]) = .nx [some (.int r),some (.int (aC:Int)),some (.loc p),some (.loc s3.length),y4,y5] s5:=by
   rw [gT,d9,v2,au,dz (aM i3 _),ay,kE]
   exact e4
  have q6:ai PM.b4 (aa (af 0) (aa (af 3) ah)) [some (.int r),some (.int (aC:Int)),some (.loc p),some (.loc s3.length),y4,y5] s5 = .ok (.loc (s5.length + 3)) (s5 ++ [c1,c2,c3,.lst ((iB r (ff P)).map tV)]):=by
   show PM.b4 [.int r,.loc s3.length] s5 = _
   exact e5
  unfold PM.made
  rw [aU (np:=3) (us:=[ao.int r,.int (aC:Int),.loc p]) rfl]
  show (aw (bh (ai PM.az (aa (af 0) ah))) (aw (bh (ai PM.aE (aa (af 1) ah))) (aw (bh (ai PM.bt (aa (af 1) (aa (af 2) ah)))) (aw (bu 3 mH) (aw (gD (dg (af 2)) (fh [aB 4,aB 5]) K8) (aO (ai PM.b4 (aa (af 0) (aa (af 3) ah)))))))) [some (.int r),some (.int (aC:Int)),some (.loc p),none,none,none] st).fin = _
  rw [aL,x1,aX,aL,x2,aX,aL,x3,aX,aL,x4,aX,aL,x5,aX,bc,q6,ay]
  rfl
 ·rw [C?,iC,ij]
  simp only [List.length_append]
  lia
 ·rw [es,List.getElem?_append_right (by lia),show s5.length + 3 - s5.length = 3 by lia]
  rfl
end PG
namespace PG
open PySem PySem.Spec L2 MN
open PyProof.Rows hiding St kindOf
end PG
namespace PG
open PySem PySem.Spec L2 MN
open PyProof.Rows hiding St kindOf
section
variable {μ:MN.Env} {s s1 s2:ag} {m:ME} {o j:Int} {t:MT} {B:MB}
theorem En (h:m μ s = .ok (.int o) s1):aj cb m (mC (.int j)) μ s = .ok (.bl (o == j)) s1:=by
 rw [fc h (y:=.int j) (s2:=s1) rfl]; exact c8
theorem jT {i:Nat} {v:ao} (h:m μ s = .ok v s1):bu i m μ s = .nx (μ.set i (some v)) s1:=by
 rw [cW,h,ay]; rfl
theorem pU {C:MB} (h:t μ s = .ok true s1):cg t B C μ s = B μ s1:=by rw [bA,h,ay,cU]
theorem pV {v:ao} (h:m μ s = .ok v s1):aa m ah μ s = .ok [v] s1:=by rw [aJ,h,au,aT,a9,au,aK]
theorem fN {m2:ME} {v w:ao} (h:m μ s = .ok v s1) (h2:m2 μ s1 = .ok w s2):aa m (aa m2 ah) μ s = .ok [v,w] s2:=by rw [aJ,h,au,aT,pV h2,au,aK]
theorem dB {m2:MA} {v:ao} {ws:List ao} (h:m μ s = .ok v s1) (h2:m2 μ s1 = .ok ws s2):aa m m2 μ s = .ok (v :: ws) s2:=by rw [aJ,h,au,aT,h2,au,aK]
theorem bZ {f:FN} {a:MA} {vs:List ao} (h:a μ s = .ok vs s1):ai f a μ s = f vs s1:=by rw [aY,h,au]
theorem dW {a:MA} {vs:List ao} (h:a μ s = .ok vs s1) (hl:vs.length ≤ 1000):bx a μ s = .ok (.loc s1.length) (s1 ++ [.lst vs]):=by
 rw [gS,h,au,kD]
 exact if_pos (by rw [sizeLine_eq]; lia)
end
end PG
namespace PG
open PySem PySem.Spec L2 MN
open PyProof.Rows hiding St kindOf
end PG
namespace PG
open PySem PySem.Spec L2 MN
open PyProof.Rows hiding St kindOf
end PG
namespace PG
open PySem PySem.Spec L2 MN
open PyProof.Rows hiding St kindOf
end PG
namespace PG
open PySem PySem.Spec L2 MN
open PyProof.Rows hiding St kindOf
end PG
namespace PG
open PySem PySem.Spec L2 MN
open PyProof.Rows hiding St kindOf
noncomputable def HW (lo hi:Int):ao → Bool
 | .int e => decide (lo ≤ e) && decide (e ≤ hi)
 | _ => false
theorem tY {v:ao} (h:flat v = true) (lo hi:Int) (st:ag):PM.aF [v,.int lo,.int hi] st = .ok (.bl (HW lo hi v)) st:=by
 cases v with
 | int e => exact within_int e lo hi st
 | cB => rfl
 | bl b => cases b <;> rfl
 | str z => rfl
 | _ => cases h
structure Eo (aC:Nat) (v:ao) (s:ag):Prop where
 no:∀ g,∃ g',PM.cZ [v,.int (aC:Int)] (s ++ g) = .ok (.bl false) (s ++ g ++ g')
 eq:∀ g,kQ 15 (s ++ g) v v = some true
 nx:xO v = false
theorem Eo.old {aC:Nat} {v:ao} {s:ag} (h:Eo aC v s) (g:ag):Eo aC v (s ++ g) :=
 ⟨fun g2 => by have:=h.no (g ++ g2); rw [← List.append_assoc] at this; exact this,fun g2 => by have:=h.eq (g ++ g2); rw [← List.append_assoc] at this; exact this,h.nx⟩
end PG
namespace PG
open PySem PySem.Spec L2 MN
open PyProof.Rows hiding St kindOf
noncomputable def ones (aC:Nat):List Int:=List.replicate aC 1
end PG
namespace PG
open PySem PySem.Spec L2 MN
open PyProof.Rows hiding St kindOf
end PG
namespace PG
open PySem PySem.Spec L2 MN
open PyProof.Rows hiding St kindOf
end PG
namespace PG
open PySem PySem.Spec L2 MN
open PyProof.Rows hiding St kindOf
theorem ng {v:ao} (h:xO v = false) {i:Nat} {μ:MN.Env} (hi:μ[i]? = some (some v)) (s:ag):af i μ s = .ok v s:=by
 unfold af
 rw [hi]
 cases v <;> first | rfl | cases h
theorem lQ {v:ao} (h:flat v = true):xO v = false:=by cases v <;> first | rfl | cases h
theorem kI {v:ao} (h:flat v = true) (hb:HW 1 4 v = false) (st:ag):PM.aE [v] st = .err "NoUnknowns" st:=by
 have v0:af 0 [some v] st = .ok v st:=ng (lQ h) rfl st
 have q:ai PM.aF (aa (af 0) (aa (mC (.int 1)) (aa (mC (.int 4)) ah))) [some v] st = .ok (.bl false) st:=by
  rw [bZ (dB v0 (fN (v:=.int 1) (s1:=st) rfl (w:=.int 4) (s2:=st) rfl)),tY h,hb]
 have t:c6 (bg (ai PM.aF (aa (af 0) (aa (mC (.int 1)) (aa (mC (.int 4)) ah))))) [some v] st = .ok true st:=by
  rw [eS,fe q]; rfl
 unfold PM.aE
 rw [aU (np:=1) (us:=[v]) rfl]
 show (cg (c6 (bg (ai PM.aF (aa (af 0) (aa (mC (.int 1)) (aa (mC (.int 4)) ah)))))) _ aD [some v] st).fin = _
 rw [pU t]
 rfl
theorem AA {t:eg} {aC p:Nat} (G:Good aC t) (hm:aC ≤ 4) (s:ag):∃ g,tX [some (.int (aC:Int)),some (.loc p),some (tV t)] s = .nx [some (.int (aC:Int)),some (.loc p),some (tV t)] (s ++ g):=by
 have ip:=m_ G hm s
 have q:ai PM.cZ (aa (af 2) (aa (af 0) ah)) [some (.int (aC:Int)),some (.loc p),some (tV t)] s = .ok (.bl true) (s ++ [.lst (t.1.map fun _ => ao.bl true)]):=by
  show PM.cZ [tV t,.int (aC:Int)] s = _
  exact ip
 exact ⟨_,m9 (vp (fe q))⟩
theorem Dc {v:ao} {aC p:Nat} {s:ag} (O:Eo aC v s):∃ g,tX [some (.int (aC:Int)),some (.loc p),some v] s = .er "NoTerm" [some (.int (aC:Int)),some (.loc p),some v] (s ++ g):=by
 obtain ⟨g,ip⟩:=O.no []
 rw [List.append_nil] at ip
 have v2:af 2 [some (.int (aC:Int)),some (.loc p),some v] s = .ok v s:=ng O.nx rfl s
 have q:ai PM.cZ (aa (af 2) (aa (af 0) ah)) [some (.int (aC:Int)),some (.loc p),some v] s = .ok (.bl false) (s ++ g):=by
  rw [bZ (fN v2 (w:=.int (aC:Int)) (s2:=s) rfl),ip]
 have t:c6 (bg (ai PM.cZ (aa (af 2) (aa (af 0) ah)))) [some (.int (aC:Int)),some (.loc p),some v] s = .ok true (s ++ g):=by
  rw [eS,fe q]; rfl
 refine ⟨g,?_⟩
 unfold tX
 rw [pU t]
 rfl
theorem AB {G:ag → Prop} {st:ag} (hg:∀ g,G (st ++ g)) {aC p:Nat} {v:ao} {us:List ao} (hm:aC ≤ 4) (O:Eo aC v st):∀ (P:List eg) (y:Option ao) (g:ag),(∀ t ∈ P,Good aC t) → ∃ μ' g',forL G (aB 2) tX (P.map tV ++ v :: us) [some (.int (aC:Int)),some (.loc p),y] (st ++ g) = .er "NoTerm" μ' (st ++ g')
 | [],y,g,_ => by
  obtain ⟨g2,e⟩:=Dc (p:=p) (O.old g)
  refine ⟨[some (.int (aC:Int)),some (.loc p),some v],g ++ g2,?_⟩
  show forL G (aB 2) tX (v :: us) _ _ = _
  unfold forL
  rw [if_pos (hg g)]
  show (match tX [some (.int (aC:Int)),some (.loc p),some v] (st ++ g) with | .nx μ' av => forL G (aB 2) tX us μ' av | .ct μ' av => forL G (aB 2) tX us μ' av | .bk μ' av => .nx μ' av | .rt v av => .rt v av | .er c μ' av => .er c μ' av | .bad => .bad) = _
  rw [e,List.append_assoc]
 | t :: P,y,g,h => by
  obtain ⟨g2,e⟩:=AA (p:=p) (h t List.mem_cons_self) hm (st ++ g)
  obtain ⟨μ',g',ih⟩:=AB hg hm O P (some (tV t)) (g ++ g2) (fun q hq => h q (List.mem_cons_of_mem _ hq))
  refine ⟨μ',g',?_⟩
  show forL G (aB 2) tX (tV t :: (P.map tV ++ v :: us)) _ _ = _
  unfold forL
  rw [if_pos (hg g)]
  show (match tX [some (.int (aC:Int)),some (.loc p),some (tV t)] (st ++ g) with | .nx μ' av => forL G (aB 2) tX (P.map tV ++ v :: us) μ' av | .ct μ' av => forL G (aB 2) tX (P.map tV ++ v :: us) μ' av | .bk μ' av => .nx μ' av | .rt v av => .rt v av | .er c μ' av => .er c μ' av | .bad => .bad) = _
  rw [e,List.append_assoc]
  exact ih
theorem AD {p aC:Nat} {P:List eg} {v:ao} {us:List ao} {st:ag} (h:ak st p = some (P.map tV ++ v :: us)) (G:∀ t ∈ P,Good aC t) (hm:aC ≤ 4) (O:Eo aC v st):∃ g,PM.bt [.int (aC:Int),.loc p] st = .err "NoTerm" (st ++ g):=by
 obtain ⟨μ',g,e⟩:=AB (G:=fun av => ak av p = some (P.map tV ++ v :: us)) (fun g => aM h g) (p:=p) (us:=us) hm O P none [] G
 rw [List.append_nil] at e
 refine ⟨g,?_⟩
 have v1:af 1 [some (ao.int (aC:Int)),some (.loc p),none] st = .ok (.loc p) st:=rfl
 unfold PM.bt
 rw [aU (np:=2) (us:=[ao.int (aC:Int),.loc p]) rfl]
 show (gD (dg (af 1)) (aB 2) tX [some (.int (aC:Int)),some (.loc p),none] st).fin = _
 rw [gT,d9,v1,au,dz h,ay,kE,e]
 rfl
theorem AE {p:Nat} {v:ao} {r:Int} {st:ag} (hr:iA r = true) (h:flat v = true) (hb:HW 1 4 v = false):∃ g,PM.made [.int r,v,.loc p] st = .err "NoUnknowns" (st ++ g):=by
 obtain ⟨g1,e1⟩:=b5 hr st
 have e2:=kI h hb (st ++ g1)
 refine ⟨g1,?_⟩
 have q1:ai PM.az (aa (af 0) ah) [some (.int r),some v,some (.loc p),none,none,none] st = .ok .cB (st ++ g1):=by
  show PM.az [.int r] st = _
  exact e1
 have x1:bh (ai PM.az (aa (af 0) ah)) [some (.int r),some v,some (.loc p),none,none,none] st = .nx [some (.int r),some v,some (.loc p),none,none,none] (st ++ g1):=by
  rw [bJ,q1,ay]; rfl
 have v1:af 1 [some (.int r),some v,some (.loc p),none,none,none] (st ++ g1) = .ok v (st ++ g1):=ng (lQ h) rfl _
 have q2:ai PM.aE (aa (af 1) ah) [some (.int r),some v,some (.loc p),none,none,none] (st ++ g1) = .err "NoUnknowns" (st ++ g1):=by
  rw [bZ (pV v1),e2]
 unfold PM.made
 rw [aU (np:=3) (us:=[ao.int r,v,.loc p]) rfl]
 show (aw (bh (ai PM.az (aa (af 0) ah))) (aw (bh (ai PM.aE (aa (af 1) ah))) _) [some (.int r),some v,some (.loc p),none,none,none] st).fin = _
 rw [aL,x1,aX,aL,bJ,q2,fm,fI]
 rfl
theorem AF {p aC:Nat} {P:List eg} {v:ao} {us:List ao} {r:Int} {st:ag} (hr:iA r = true) (h:ak st p = some (P.map tV ++ v :: us)) (G:∀ t ∈ P,Good aC t) (h1:1 ≤ aC) (hm:aC ≤ 4) (O:Eo aC v st):∃ g,PM.made [.int r,.int (aC:Int),.loc p] st = .err "NoTerm" (st ++ g):=by
 obtain ⟨g1,e1⟩:=b5 hr st
 have e2:=fA h1 hm (st ++ g1)
 obtain ⟨g3,e3⟩:=AD (aM h g1) G hm (O.old g1)
 refine ⟨g1 ++ g3,?_⟩
 have q1:ai PM.az (aa (af 0) ah) [some (.int r),some (.int (aC:Int)),some (.loc p),none,none,none] st = .ok .cB (st ++ g1):=by
  show PM.az [.int r] st = _
  exact e1
 have x1:bh (ai PM.az (aa (af 0) ah)) [some (.int r),some (.int (aC:Int)),some (.loc p),none,none,none] st = .nx [some (.int r),some (.int (aC:Int)),some (.loc p),none,none,none] (st ++ g1):=by
  rw [bJ,q1,ay]; rfl
 have q2:ai PM.aE (aa (af 1) ah) [some (.int r),some (.int (aC:Int)),some (.loc p),none,none,none] (st ++ g1) = .ok .cB (st ++ g1):=by
  show PM.aE [.int (aC:Int)] (st ++ g1) = _
  exact e2
 have x2:bh (ai PM.aE (aa (af 1) ah)) [some (.int r),some (.int (aC:Int)),some (.loc p),none,none,none] (st ++ g1) = .nx [some (.int r),some (.int (aC:Int)),some (.loc p),none,none,none] (st ++ g1):=by
  rw [bJ,q2,ay]; rfl
 have q3:ai PM.bt (aa (af 1) (aa (af 2) ah)) [some (.int r),some (.int (aC:Int)),some (.loc p),none,none,none] (st ++ g1) = .err "NoTerm" (st ++ g1 ++ g3):=by
  show PM.bt [.int (aC:Int),.loc p] (st ++ g1) = _
  exact e3
 unfold PM.made
 rw [aU (np:=3) (us:=[ao.int r,.int (aC:Int),.loc p]) rfl]
 show (aw (bh (ai PM.az (aa (af 0) ah))) (aw (bh (ai PM.aE (aa (af 1) ah))) (aw (bh (ai PM.bt (aa (af 1) (aa (af 2) ah)))) _)) [some (.int r),some (.int (aC:Int)),some (.loc p),none,none,none] st).fin = _
 rw [aL,x1,aX,aL,x2,aX,aL,bJ,q3,fm,fI,List.append_assoc]
 rfl
end PG
namespace PG
open PySem PySem.Spec L2 MN
open PyProof.Rows hiding St kindOf
end PG
namespace PG
open PySem PySem.Spec L2 MN
open PyProof.Rows hiding St kindOf
end PG
namespace PG
open PySem PySem.Spec L2 MN
open PyProof.Rows hiding St kindOf
end PG
namespace PG
open PySem PySem.Spec L2 MN
open PyProof.Rows hiding St kindOf
end PG
namespace PG
open PySem PySem.Spec L2 MN
open PyProof.Rows hiding St kindOf
end PG
namespace PG
open PySem PySem.Spec L2 MN
open PyProof.Rows hiding St kindOf
end PG
namespace PG
open PySem PySem.Spec L2 MN
open PyProof.Rows hiding St kindOf
end PG
namespace PG
open PySem PySem.Spec L2 MN
open PyProof.Rows hiding St kindOf
end PG
namespace PG
open PySem PySem.Spec L2 MN
open PyProof.Rows hiding St kindOf
end PG
namespace PG
open PySem PySem.Spec L2 MN
open PyProof.Rows hiding St kindOf
end PG
namespace PG
open PySem PySem.Spec L2 MN
open PyProof.Rows hiding St kindOf
end PG
namespace PG
open PySem PySem.Spec L2 MN
open PyProof.Rows hiding St kindOf
end PG
namespace PG
open PySem PySem.Spec L2 MN
open PyProof.Rows hiding St kindOf
end PG
namespace PG
open PySem PySem.Spec L2 MN
open PyProof.Rows hiding St kindOf
end PG
namespace PG
open PySem PySem.Spec L2 MN
open PyProof.Rows hiding St kindOf
end PG
namespace PG
open PySem PySem.Spec L2 MN
open PyProof.Rows hiding St kindOf
end PG
namespace PG
open PySem PySem.Spec L2 MN
open PyProof.Rows hiding St kindOf
noncomputable def AG (d:Bool):Str:=if d then "deg" else "lex"
theorem rC (d:Bool) (st:ag):PM.dH [.str (AG d)] st = .ok (.bl true) st:=by
 cases d <;> rfl
theorem nh (d:Bool) (st:ag):PM.cw [.str (AG d)] st = .ok .cB st:=by
 unfold PM.cw
 rw [aU (np:=1) (us:=[ao.str (AG d)]) rfl]
 show (cg (c6 (bg (ai PM.dH (aa (af 0) ah)))) _ aD [some (.str (AG d))] st).fin = _
 rw [m9 (vp (fe (by rw [bZ (pV (v:=.str (AG d)) (s1:=st) rfl),rC])))]
 rfl
structure OQ (v:ao):Prop where
 no:∀ st,PM.dH [v] st = .ok (.bl false) st
 px:xO v = false
theorem g8 {v:ao} (h:OQ v) (st:ag):PM.cw [v] st = .err "NoOrder" st:=by
 unfold PM.cw
 rw [aU (np:=1) (us:=[v]) rfl]
 show (cg (c6 (bg (ai PM.dH (aa (af 0) ah)))) (cD "NoOrder" (aa (mC (.str "an order is lex or deg")) ah)) aD [some v] st).fin = _
 have t:bg (ai PM.dH (aa (af 0) ah)) [some v] st = .ok false st:=fe (by rw [bZ (pV (v:=v) (s1:=st) (iS rfl h.px)),h.no])
 have t2:c6 (bg (ai PM.dH (aa (af 0) ah))) [some v] st = .ok true st:=by rw [eS,t]; rfl
 rw [pU t2,e_,pV (v:=.str "an order is lex or deg") (s1:=st) rfl,ay,gn,if_pos (by rw [sizeLine_eq]; show 1 ≤ 16777216; decide)]
 rfl
end PG
namespace mZ
open PySem PySem.Spec L2 MN PG
open PyProof.Rows hiding St kindOf
theorem tZ {v:ao} {np nl:Nat} {B:MB} {us:List ao} {st:ag} (h:qb v st) (hl:(v :: us).length = np):∃ g,dM np nl (aw (bh (ai PM.az (aa (af 0) ah))) B) (v :: us) st = .err "NoRing" (st ++ g):=by
 obtain ⟨g,e⟩:=Aq h
 refine ⟨g,?_⟩
 rw [aU hl,aL,bJ,bZ (pV (v:=v) (s1:=st) (iS rfl h.1)),e]
 rfl
theorem aq {μ:MN.Env} {w k:Int} {A B:MB} {st:ag} (hv:af 0 μ st = .ok (.int w) st) (h:¬ w = k):aw (cg (bg (aj cb (af 0) (mC (.int k)))) A aD) B μ st = B μ st:=by
 have t:bg (aj cb (af 0) (mC (.int k))) μ st = .ok false st:=by
  refine fe ?_
  rw [En hv,beq_false_of_ne h]
 rw [aL,m9 t,aX]
theorem bL {μ:MN.Env} {w:Int} {m:ME} {B:MB} {st s':ag} {c:Str} (hv:af 0 μ st = .ok (.int w) st) (h:m μ st = .err c s'):(aw (cg (bg (aj cb (af 0) (mC (.int w)))) (aO m) aD) B μ st).fin = .err c s':=by
 have t:bg (aj cb (af 0) (mC (.int w))) μ st = .ok true st:=by
  refine fe ?_
  rw [En hv,show (w == w) = true from beq_self_eq_true w]
 rw [aL,pU t,bc,h]
 rfl
theorem rD {μ:MN.Env} {m:ME} {st s':ag} {c:Str} (h:m μ st = .err c s'):(aO m μ st).fin = .err c s':=by
 rw [bc,h]
 rfl
noncomputable def Rf (f:FN) (np:Nat):Prop:=∀ (v:ao) (us:List ao) (st:ag),qb v st → (v :: us).length = np → ∃ s,f (v :: us) st = .err "NoRing" s
theorem fX {np nl:Nat} {B:MB}:Rf (dM np nl (aw (bh (ai PM.az (aa (af 0) ah))) B)) np:=fun _ _ _ h hl => let ⟨_,e⟩:=tZ h hl; ⟨_,e⟩
theorem da {f:FN} {np:Nat} {μ:MN.Env} {v:ao} {us:List ao} {a:MA} {st s1:ag} (hf:Rf f np) (hn:∀ st,qb v st) (ha:aa (af 1) a μ st = .ok (v :: us) s1) (hl:(v :: us).length = np):∃ s,ai f (aa (af 1) a) μ st = .err "NoRing" s:=by
 obtain ⟨s,e⟩:=hf v us s1 (hn _) hl
 exact ⟨s,by rw [bZ ha,e]⟩
theorem ni {μ:MN.Env} {a:MA} {e:ME} {vs:List ao} {st s1:ag} {i:Int} (ha:a μ st = .ok vs s1) (hz:vs.length ≤ 1000) (he:∀ s,e μ s = .ok (.int i) s) (h0:0 ≤ i) (h1:i < (vs.length:Int)):∃ v ∈ vs,aj gz (bx a) e μ st = .ok v (s1 ++ [.lst vs]):=by
 obtain ⟨j,rfl⟩:∃ j:Nat,i = (j:Int):=⟨i.toNat,by lia⟩
 have hj:j < vs.length:=by lia
 refine ⟨vs[j],List.getElem_mem hj,?_⟩
 rw [fc (dW ha (by lia)) (he _)]
 exact pP (qY (fL _ _)) (L2.lJ (List.getElem?_eq_getElem hj))
section
variable {v:ao} {way c:Int} {st:ag}
noncomputable abbrev K_:MB:=(aw (cg (bg (aj cb (af 0) (mC (.int 0)))) (aO (ai PM.cP (aa (af 1) (aa (af 4) ah)))) aD) (aw (cg (bg (aj cb (af 0) (mC (.int 1)))) (aO (ai PM.fw (aa (af 1) (aa (mC (.int 0)) (aa (af 4) ah))))) aD) (aw (cg (bg (aj cb (af 0) (mC (.int 2)))) (aO (ai PM.made (aa (af 1) (aa (aj bB (aj cY (af 2) (mC (.int 6))) (mC (.int 2))) (aa (HR (bx (aa (mC (.int 3)) ah)) dh (dj (aj bB (aj cY (af 2) (mC (.int 2))) (mC (.int 2))))) ah))))) aD) (aw (cg (bg (aj cb (af 0) (mC (.int 3)))) (aO (ai PM.js (aa (af 1) (aa (af 3) (aa (bx ah) ah))))) aD) (aw (cg (bg (aj cb (af 0) (mC (.int 4)))) (aO (ai PM.dA (aa (af 1) (aa (af 3) (aa (aj bB (aj cY (af 2) (mC (.int 2))) (mC (.int 2))) ah))))) aD) (aw (cg (bg (aj cb (af 0) (mC (.int 5)))) (aO (ai PM.ie (aa (af 1) (aa (af 3) (aa (af 4) ah))))) aD) (aw (cg (bg (aj cb (af 0) (mC (.int 6)))) (aO (ai PM.ju (aa (af 1) (aa (af 3) (aa (mC (.int 0)) ah))))) aD) (aw (cg (bg (aj cb (af 0) (mC (.int 7)))) (aO (ai PM.read (aa (af 1) (aa (aj bB (aj cY (af 2) (mC (.int 2))) (mC (.int 2))) (aa (aj gz (bx (aa (mC (.str "")) (aa (mC (.str "0")) ah))) (aj bB (af 2) (mC (.int 2)))) ah))))) aD) (aw (cg (bg (aj cb (af 0) (mC (.int 8)))) (aO (ai PM.cH (aa (af 1) (aa (aj bB (aj cY (af 2) (mC (.int 6))) (mC (.int 2))) (aa (af 4) ah))))) aD) (aw (cg (bg (aj cb (af 0) (mC (.int 9)))) (aO (ai PM.jt (aa (af 1) (aa (af 3) (aa (bx (aa (mC (.int 1)) ah)) ah))))) aD) (aw (cg (bg (aj cb (af 0) (mC (.int 10)))) (aO (ai PM.lO (aa (af 1) (aa (af 3) (aa (bx ah) ah))))) aD) (aw (cg (bg (aj cb (af 0) (mC (.int 11)))) (aO (ai PM.jr (aa (af 1) (aa (bx ah) (aa (af 3) ah))))) aD) (aO (ai PM.settled (aa (af 1) (aa (af 4) ah))))))))))))))))
theorem t4 (hn:∀ st,qb v st) (h0:0 ≤ way) (h1:way < 13):∃ s,PM.bH [.int way,v,.int c] st = .err "NoRing" s:=by
 have vx:=(hn st).1
 have q2:=g6 (m:=2) (by decide) c
 have q3:=g6 (m:=3) (by decide) (c.fdiv 2)
 have q4:=g6 (m:=2) (by decide) (c.fdiv 2)
 have d2:Dz 2:=Hg (by decide) (by decide)
 have d6:Dz 6:=Hg (by decide) (by decide)
 have m2:∀ (x1 x3 x4:Option ao) (s:ag),aj bB (af 2) (mC (.int 2)) [some (.int way),x1,some (.int c),x3,x4] s = .ok (.int (c.fmod 2)) s:=fun x1 x3 x4 s => by
  rw [fc (x:=.int c) (s1:=s) rfl (y:=.int 2) (s2:=s) rfl]; exact ck (by decide)
 have m3:∀ (k j:Int) (hk:Dz k) (hj:¬ j = 0) (x1 x3 x4:Option ao) (s:ag),aj bB (aj cY (af 2) (mC (.int k))) (mC (.int j)) [some (.int way),x1,some (.int c),x3,x4] s = .ok (.int ((c.fdiv k).fmod j)) s:=fun k j hk hj x1 x3 x4 s => by
  rw [fc (x:=.int (c.fdiv k)) (s1:=s) (by rw [fc (x:=.int c) (s1:=s) rfl (y:=.int k) (s2:=s) rfl]; exact div_ii hk) (y:=.int j) (s2:=s) rfl]; exact ck hj
 -- A? two lists
 obtain ⟨s1,ij⟩:∃ s1,s1 = st ++ [bf.lst []]:=⟨_,rfl⟩
 obtain ⟨s2,fP⟩:∃ s2,s2 = s1 ++ [bf.lst [ao.tup [.tup [.int 1],.int 1]]]:=⟨_,rfl⟩
 have a1:aa (bx ah) (aa (bx (aa (du (aa (du (aa (mC (.int 1)) ah)) (aa (mC (.int 1)) ah))) ah)) ah) [some (.int way),some v,some (.int c),none,none] st = .ok [.loc st.length,.loc s1.length] s2:=by
  simp only [au,aT,aK,u9,kD,cf,a9,aJ,pN,gS,List.length_cons,List.length_nil,Nat.reduceAdd,sizeLine_eq,Nat.reduceLeDiff,↓reduceIte,← ij,← fP]
 obtain ⟨w,hw,e3⟩:=ni a1 (by show 2 ≤ 1000; decide) (m2 (some v) none none) q2.1 (by exact q2.2)
 obtain ⟨a,rfl⟩:∃ a,w = .loc a:=by
  rcases List.mem_cons.mp hw with z | z
  ·exact ⟨_,z⟩
  ·exact ⟨_,List.mem_singleton.mp z⟩
 obtain ⟨s3,iC⟩:∃ s3,s3 = s2 ++ [bf.lst [ao.loc st.length,.loc s1.length]]:=⟨_,rfl⟩
 rw [← iC] at e3
 obtain ⟨w',OR,e4⟩:=ni (μ:=[some (.int way),some v,some (.int c),some (.loc a),none]) (a:=aa (mC (.int 0)) (aa (mC (.int 1)) (aa (mC (.int 2)) ah))) (vs:=[.int 0,.int 1,.int 2]) (st:=s3) (s1:=s3) rfl (by decide) (m3 2 3 d2 (by decide) (some v) (some (.loc a)) none) q3.1 (by exact q3.2)
 obtain ⟨m,rfl⟩:∃ m,w' = .int m:=by
  simp only [List.mem_cons,List.mem_nil_iff,or_false] at OR
  rcases OR with z | z | z <;> exact ⟨_,z⟩
 obtain ⟨s4,t5⟩:∃ s4,s4 = s3 ++ [bf.lst [ao.int 0,.int 1,.int 2]]:=⟨_,rfl⟩
 rw [← t5] at e4
 obtain ⟨μ,hμ⟩:∃ μ:MN.Env,μ = [some (.int way),some v,some (.int c),some (.loc a),some (.int m)]:=⟨_,rfl⟩
 have v0:∀ s,af 0 μ s = .ok (.int way) s:=fun s => by rw [hμ]; rfl
 have v1:∀ s,af 1 μ s = .ok v s:=fun s => by rw [hμ]; exact iS rfl vx
 have v3:∀ s,af 3 μ s = .ok (.loc a) s:=fun s => by rw [hμ]; rfl
 have v4:∀ s,af 4 μ s = .ok (.int m) s:=fun s => by rw [hμ]; rfl
 have n2:∀ s,aj bB (aj cY (af 2) (mC (.int 2))) (mC (.int 2)) μ s = .ok (.int ((c.fdiv 2).fmod 2)) s:=fun s => by rw [hμ]; exact m3 2 2 d2 (by decide) _ _ _ s
 have n6:∀ s,aj bB (aj cY (af 2) (mC (.int 6))) (mC (.int 2)) μ s = .ok (.int ((c.fdiv 6).fmod 2)) s:=fun s => by rw [hμ]; exact m3 6 2 d6 (by decide) _ _ _ s
 have nc:∀ s,aj bB (af 2) (mC (.int 2)) μ s = .ok (.int (c.fmod 2)) s:=fun s => by rw [hμ]; exact m2 _ _ _ s
 have k0:∀ (x:ao) s,mC x μ s = .ok x s:=fun _ _ => rfl
 have ln:∀ s,bx ah μ s = .ok (.loc s.length) (s ++ [.lst []]):=fun s => dW (vs:=[]) (s1:=s) rfl (by decide)
 have l1:∀ s,bx (aa (mC (.int 1)) ah) μ s = .ok (.loc s.length) (s ++ [.lst [.int 1]]):=fun s => dW (vs:=[.int 1]) (s1:=s) rfl (by decide)
 obtain ⟨tx,QT,et⟩:=ni (μ:=μ) (a:=aa (mC (.str "")) (aa (mC (.str "0")) ah)) (vs:=[.str "",.str "0"]) (st:=s4) (s1:=s4) rfl (by decide) nc q2.1 (by exact q2.2)
 have sl:∃ k s,HR (bx (aa (mC (.int 3)) ah)) dh (dj (aj bB (aj cY (af 2) (mC (.int 2))) (mC (.int 2)))) μ s4 = .ok (.loc k) s:=by
  have q:bx (aa (mC (.int 3)) ah) μ s4 = .ok (.loc s4.length) (s4 ++ [.lst [.int 3]]):=dW (vs:=[.int 3]) (s1:=s4) rfl (by decide)
  unfold HR dh dj
  rw [q]
  dsimp only [bW.bind]
  rw [n2]
  dsimp only [bW.bind]
  unfold Jw
  dsimp only
  rw [qY (fL s4 [.int 3])]
  exact ⟨_,_,rfl⟩
 obtain ⟨k,s5,Qy⟩:=sl
 have run:PM.bH [.int way,v,.int c] st = (K_ μ s4).fin:=by
  unfold PM.bH
  rw [aU (np:=3) (us:=[.int way,v,.int c]) rfl]
  show (aw (bu 3 _) (aw (bu 4 _) K_) [some (.int way),some v,some (.int c),none,none] st).fin = _
  rw [aL,jT e3,aX]
  show (aw (bu 4 _) K_ [some (.int way),some v,some (.int c),some (.loc a),none] s3).fin = _
  rw [aL,jT e4,aX,hμ]
  rfl
 clear hμ
 have hw:way = 0 ∨ way = 1 ∨ way = 2 ∨ way = 3 ∨ way = 4 ∨ way = 5 ∨ way = 6 ∨ way = 7 ∨ way = 8 ∨ way = 9 ∨ way = 10 ∨ way = 11 ∨ way = 12:=by lia
 rw [run]
 unfold K_
 rcases hw with rfl | rfl | rfl | rfl | rfl | rfl | rfl | rfl | rfl | rfl | rfl | rfl | rfl
 ·obtain ⟨s,e⟩:=da (np:=2) fX hn (dB (v1 s4) (pV (v4 s4))) rfl
  exact ⟨s,bL (v0 s4) e⟩
 ·obtain ⟨s,e⟩:=da (np:=3) fX hn (dB (v1 s4) (fN (k0 _ s4) (v4 s4))) rfl
  rw [aq (v0 s4) (by decide:¬ (1:Int) = 0)]
  exact ⟨s,bL (v0 s4) e⟩
 ·obtain ⟨s,e⟩:=da (np:=3) fX hn (dB (v1 s4) (fN (n6 s4) Qy)) rfl
  rw [aq (v0 s4) (by decide:¬ (2:Int) = 0),aq (v0 s4) (by decide:¬ (2:Int) = 1)]
  exact ⟨s,bL (v0 s4) e⟩
 ·obtain ⟨s,e⟩:=da (np:=3) fX hn (dB (v1 s4) (fN (v3 s4) (ln s4))) rfl
  rw [aq (v0 s4) (by decide:¬ (3:Int) = 0),aq (v0 s4) (by decide:¬ (3:Int) = 1),aq (v0 s4) (by decide:¬ (3:Int) = 2)]
  exact ⟨s,bL (v0 s4) e⟩
 ·obtain ⟨s,e⟩:=da (np:=3) fX hn (dB (v1 s4) (fN (v3 s4) (n2 s4))) rfl
  rw [aq (v0 s4) (by decide:¬ (4:Int) = 0),aq (v0 s4) (by decide:¬ (4:Int) = 1),aq (v0 s4) (by decide:¬ (4:Int) = 2),aq (v0 s4) (by decide:¬ (4:Int) = 3)]
  exact ⟨s,bL (v0 s4) e⟩
 ·obtain ⟨s,e⟩:=da (np:=3) fX hn (dB (v1 s4) (fN (v3 s4) (v4 s4))) rfl
  rw [aq (v0 s4) (by decide:¬ (5:Int) = 0),aq (v0 s4) (by decide:¬ (5:Int) = 1),aq (v0 s4) (by decide:¬ (5:Int) = 2),aq (v0 s4) (by decide:¬ (5:Int) = 3),aq (v0 s4) (by decide:¬ (5:Int) = 4)]
  exact ⟨s,bL (v0 s4) e⟩
 ·obtain ⟨s,e⟩:=da (np:=3) fX hn (dB (v1 s4) (fN (v3 s4) (k0 _ s4))) rfl
  rw [aq (v0 s4) (by decide:¬ (6:Int) = 0),aq (v0 s4) (by decide:¬ (6:Int) = 1),aq (v0 s4) (by decide:¬ (6:Int) = 2),aq (v0 s4) (by decide:¬ (6:Int) = 3),aq (v0 s4) (by decide:¬ (6:Int) = 4),aq (v0 s4) (by decide:¬ (6:Int) = 5)]
  exact ⟨s,bL (v0 s4) e⟩
 ·obtain ⟨s,e⟩:=da (np:=3) fX hn (dB (v1 s4) (fN (n2 s4) et)) rfl
  rw [aq (v0 s4) (by decide:¬ (7:Int) = 0),aq (v0 s4) (by decide:¬ (7:Int) = 1),aq (v0 s4) (by decide:¬ (7:Int) = 2),aq (v0 s4) (by decide:¬ (7:Int) = 3),aq (v0 s4) (by decide:¬ (7:Int) = 4),aq (v0 s4) (by decide:¬ (7:Int) = 5),aq (v0 s4) (by decide:¬ (7:Int) = 6)]
  exact ⟨s,bL (v0 s4) e⟩
 ·obtain ⟨s,e⟩:=da (np:=3) fX hn (dB (v1 s4) (fN (n6 s4) (v4 s4))) rfl
  rw [aq (v0 s4) (by decide:¬ (8:Int) = 0),aq (v0 s4) (by decide:¬ (8:Int) = 1),aq (v0 s4) (by decide:¬ (8:Int) = 2),aq (v0 s4) (by decide:¬ (8:Int) = 3),aq (v0 s4) (by decide:¬ (8:Int) = 4),aq (v0 s4) (by decide:¬ (8:Int) = 5),aq (v0 s4) (by decide:¬ (8:Int) = 6),aq (v0 s4) (by decide:¬ (8:Int) = 7)]
  exact ⟨s,bL (v0 s4) e⟩
 ·obtain ⟨s,e⟩:=da (np:=3) fX hn (dB (v1 s4) (fN (v3 s4) (l1 s4))) rfl
  rw [aq (v0 s4) (by decide:¬ (9:Int) = 0),aq (v0 s4) (by decide:¬ (9:Int) = 1),aq (v0 s4) (by decide:¬ (9:Int) = 2),aq (v0 s4) (by decide:¬ (9:Int) = 3),aq (v0 s4) (by decide:¬ (9:Int) = 4),aq (v0 s4) (by decide:¬ (9:Int) = 5),aq (v0 s4) (by decide:¬ (9:Int) = 6),aq (v0 s4) (by decide:¬ (9:Int) = 7),aq (v0 s4) (by decide:¬ (9:Int) = 8)]
  exact ⟨s,bL (v0 s4) e⟩
 ·obtain ⟨s,e⟩:=da (np:=3) fX hn (dB (v1 s4) (fN (v3 s4) (ln s4))) rfl
  rw [aq (v0 s4) (by decide:¬ (10:Int) = 0),aq (v0 s4) (by decide:¬ (10:Int) = 1),aq (v0 s4) (by decide:¬ (10:Int) = 2),aq (v0 s4) (by decide:¬ (10:Int) = 3),aq (v0 s4) (by decide:¬ (10:Int) = 4),aq (v0 s4) (by decide:¬ (10:Int) = 5),aq (v0 s4) (by decide:¬ (10:Int) = 6),aq (v0 s4) (by decide:¬ (10:Int) = 7),aq (v0 s4) (by decide:¬ (10:Int) = 8),aq (v0 s4) (by decide:¬ (10:Int) = 9)]
  exact ⟨s,bL (v0 s4) e⟩
 ·obtain ⟨s,e⟩:=da (np:=3) fX hn (dB (v1 s4) (fN (ln s4) (v3 _))) rfl
  rw [aq (v0 s4) (by decide:¬ (11:Int) = 0),aq (v0 s4) (by decide:¬ (11:Int) = 1),aq (v0 s4) (by decide:¬ (11:Int) = 2),aq (v0 s4) (by decide:¬ (11:Int) = 3),aq (v0 s4) (by decide:¬ (11:Int) = 4),aq (v0 s4) (by decide:¬ (11:Int) = 5),aq (v0 s4) (by decide:¬ (11:Int) = 6),aq (v0 s4) (by decide:¬ (11:Int) = 7),aq (v0 s4) (by decide:¬ (11:Int) = 8),aq (v0 s4) (by decide:¬ (11:Int) = 9),aq (v0 s4) (by decide:¬ (11:Int) = 10)]
  exact ⟨s,bL (v0 s4) e⟩
 ·obtain ⟨s,e⟩:=da (np:=2) fX hn (dB (v1 s4) (pV (v4 s4))) rfl
  rw [aq (v0 s4) (by decide:¬ (12:Int) = 0),aq (v0 s4) (by decide:¬ (12:Int) = 1),aq (v0 s4) (by decide:¬ (12:Int) = 2),aq (v0 s4) (by decide:¬ (12:Int) = 3),aq (v0 s4) (by decide:¬ (12:Int) = 4),aq (v0 s4) (by decide:¬ (12:Int) = 5),aq (v0 s4) (by decide:¬ (12:Int) = 6),aq (v0 s4) (by decide:¬ (12:Int) = 7),aq (v0 s4) (by decide:¬ (12:Int) = 8),aq (v0 s4) (by decide:¬ (12:Int) = 9),aq (v0 s4) (by decide:¬ (12:Int) = 10),aq (v0 s4) (by decide:¬ (12:Int) = 11)]
  exact ⟨s,rD e⟩
noncomputable abbrev J_:MB:=(aw (cg (bg (aj cb (af 0) (mC (.int 0)))) (aO (ai PM.cP (aa (mC (.int 7)) (aa (mC (.int 14)) ah)))) aD) (aw (cg (bg (aj cb (af 0) (mC (.int 1)))) (aO (ai PM.fw (aa (mC (.int 0)) (aa (mC (.int 3)) (aa (mC (.int 2)) ah))))) aD) (aw (cg (bg (aj cb (af 0) (mC (.int 2)))) (aO (ai PM.made (aa (mC (.int 0)) (aa (mC (.int 0)) (aa (bx (aa (mC (.int 3)) ah)) ah))))) aD) (aw (cg (bg (aj cb (af 0) (mC (.int 3)))) (aO (ai PM.made (aa (mC (.int 2)) (aa (mC (.int 1)) (aa (bx (aa (du (aa (du (aa (mC (.int 1)) ah)) (aa (mC (.int 1)) ah))) (aa (mC (.int 3)) ah))) ah))))) aD) (aw (cg (bg (aj cb (af 0) (mC (.int 4)))) (aO (ai PM.dA (aa (mC (.int 0)) (aa (bx (aa (du (aa (du (aa (mC (.int 1)) ah)) (aa (mC (.int 1)) ah))) ah)) (aa (mC (.int 0)) ah))))) aD) (aw (cg (bg (aj cb (af 0) (mC (.int 5)))) (aO (ai PM.d! (aa (mC (.str "lex")) (aa (bx ah) ah)))) aD) (aw (cg (bg (aj cb (af 0) (mC (.int 6)))) (aO (ai PM.d! (aa (mC (.str "up")) (aa (bx ah) ah)))) aD) (aw (cg (bg (aj cb (af 0) (mC (.int 7)))) (aO (ai PM.read (aa (mC (.int 0)) (aa (mC (.int 2)) (aa (mC (.str "x^1")) ah))))) aD) (aw (cg (bg (aj cb (af 0) (mC (.int 8)))) (aO (ai PM.cH (aa (mC (.int 5)) (aa (af 1) (aa (mC (.int 1)) ah))))) aD) (aO (ai PM.eV (aa (mC (.str "up")) (aa (du (aa (mC (.int 1)) ah)) (aa (du (aa (mC (.int 2)) ah)) ah))))))))))))))
end
end mZ
namespace mZ
open PySem PySem.Spec L2 MN PG
open PyProof.Rows hiding St kindOf
theorem Hj:∀ k:Fin 998,xR (k.val:Int) = true → (p! (k.val:Int)).isEmpty = true:=by decide +kernel
noncomputable abbrev M9:ME:=b! 1 [1] (jd (aa (mC (.int 2)) (aa (mC (.int 32)) ah))) (aB 0) (kA (bg (aj ltV (af 0) (af 1))) (bg (aj cb (aj bB (af 1) (af 0)) (mC (.int 0))))) (af 0)
noncomputable abbrev Hk:MT:=iP (bg (aj cb (af 1) (mC (.int 0)))) (kA (bg (iO Cf Cf (mC (.int 2)) (af 1) (mC (.int 997)))) (bg (aj cb M9 (bx ah))))
noncomputable def Dd (n:Int):Bool:=n == 0 || (decide (2 ≤ n) && decide (n ≤ 997) && (p! n).isEmpty)
theorem J! {n:Int} (h:Dd n = false):iA n = false:=by
 unfold Dd at h
 rw [Bool.or_eq_false_iff] at h
 unfold iA
 rw [h.1,Bool.false_or]
 cases q:xR n with
 | false => rfl
 | true =>
  have hr:=w! q
  have:=Hj ⟨n.toNat,by lia⟩ (by show xR ((n.toNat:Nat):Int) = true; rw [Int.toNat_of_nonneg (by lia)]; exact q)
  have e:(p! n).isEmpty = true:=by
   have:(p! ((n.toNat:Nat):Int)).isEmpty = true:=this
   rwa [Int.toNat_of_nonneg (by lia)] at this
  have h2:=h.2
  rw [e,decide_eq_true hr.1,decide_eq_true hr.2] at h2
  exact absurd h2 (by decide)
theorem J? {n:Int} (h:Dd n = true):n ≤ 997:=by
 unfold Dd at h
 rw [Bool.or_eq_true] at h
 rcases h with h | h
 ·have:n = 0:=by simpa using h
  lia
 ·simp only [Bool.and_eq_true,decide_eq_true_eq] at h
  lia
theorem De (c n:Int) (s:ag):∃ g,Hk [some (.int c),some (.int n)] s = .ok (Dd n) (s ++ g):=by
 have Qz:∃ g,bg (aj cb M9 (bx ah)) [some (.int c),some (.int n)] s = .ok (p! n).isEmpty (s ++ g):=by
  have r2:∀ st,JJ [.int 2,.int 32] st = .ok (cj 2 30,fun _ => True) st:=fun _ => rfl
  have rl:(cj 2 30).length = 30:=rfl
  have Fn:gO 1 [1] [some (ao.int c),some (ao.int n)] = [none,some (.int n)]:=rfl
  exact ⟨[.lst (p! n)] ++ [.lst []],by rw [← List.append_assoc]; simp only [au,aS,br,aQ,aT,aK,kD,iy,fK,cf,a8,aZ,a9,aJ,gS,d8,CD,List.length_nil,sizeLine_eq,Nat.reduceLeDiff,↓reduceIte,r2,rl,Fn,Ao,eq_nil (aM (aR s (p! n)) [.lst []]) (aR (s ++ [.lst (p! n)]) [])]⟩
 obtain ⟨s',t⟩:=Qz
 unfold Hk Dd
 generalize bg (aj cb M9 (bx ah)) = T at t ⊢
 cases q:(n == 0) with
 | true => exact ⟨[],by rw [List.append_nil]; simp only [au,aS,br,aQ,pL,cf,a8,aZ,e9,c8,bz,bP,q]; rfl⟩
 | false =>
  cases q1:decide (2 ≤ n) with
  | false => exact ⟨[],by rw [List.append_nil]; simp only [au,aS,br,aQ,mK,fq,zt,qU,u7,cf,a8,aZ,jg,e9,gR,qW,c8,bz,bP,q,q1]; rfl⟩
  | true =>
   cases q2:decide (n ≤ 997) with
   | false => exact ⟨[],by rw [List.append_nil]; simp only [au,aS,br,aQ,mK,fq,zt,qU,pM,cf,a8,aZ,jg,e9,gR,qW,c8,bz,bP,q,q1,q2]; rfl⟩
   | true => exact ⟨s',by simp only [au,aS,br,aQ,qT,fq,zt,qU,pM,cf,a8,aZ,jg,e9,gR,qW,c8,bz,bP,q,q1,q2,t]; rfl⟩
theorem Df (c n:Int) (s0:ag):∃ (m:Int) (g:ag),fG Hk (bu 1 (aj c! (af 1) (mC (.int 1)))) [some (.int c),some (.int n)] s0 = .nx [some (.int c),some (.int m)] (s0 ++ g) ∧ Dd m = false:=by
 obtain ⟨μ',s',e,⟨m,rfl,h⟩,g,rfl⟩:=tq (t:=Hk) (body:=bu 1 (aj c! (af 1) (mC (.int 1)))) (fun μ s => (∃ n:Int,μ = [some (.int c),some (.int n)]) ∧ ∃ g,s = s0 ++ g) (fun μ _ => match (μ[1]?:Option (Option ao)) with | some (some (.int n)) => (998 - n).toNat | _ => 0) (fun μ s => (∃ n:Int,μ = [some (.int c),some (.int n)] ∧ Dd n = false) ∧ ∃ g,s = s0 ++ g) (by
  rintro μ s ⟨⟨n,rfl⟩,g0,rfl⟩
  obtain ⟨g,t⟩:=De c n (s0 ++ g0)
  rw [List.append_assoc] at t
  cases q:Dd n with
  | false => rw [q] at t; exact .inl ⟨_,t,⟨n,rfl,q⟩,_,rfl⟩
  | true =>
   rw [q] at t
   have hl:=J? q
   refine .inr ⟨_,[some (.int c),some (.int (n + 1))],s0 ++ (g0 ++ g),t,.inl (by simp only [au,ay,aS,br,aQ,eI,cf,cW,pO,bz,bP,List.set_cons_zero,List.set_cons_succ]),⟨⟨n + 1,rfl⟩,_,rfl⟩,?_⟩
   show (998 - (n + 1)).toNat < (998 - n).toNat
   lia) [some (.int c),some (.int n)] s0 ⟨⟨n,rfl⟩,[],(List.append_nil _).symm⟩
 exact ⟨m,g,e,h⟩
theorem t7 (c:Int) (st:ag):∃ v g,PM.c_ [.int c] st = .ok v (st ++ g) ∧ ∀ st,qb v st:=by
 have d4:Dz 4:=Hg (by decide) (by decide)
 have q4:=g6 (m:=4) (by decide) (c.fdiv 4)
 have OS:=g6 (m:=16) (by decide) (c.fdiv 4)
 have m3:∀ (j:Int) (hj:¬ j = 0) (x1:Option ao) (s:ag),aj bB (aj cY (af 0) (mC (.int 4))) (mC (.int j)) [some (.int c),x1] s = .ok (.int ((c.fdiv 4).fmod j)) s:=fun j hj x1 s => by
  rw [fc (x:=.int (c.fdiv 4)) (s1:=s) (by rw [fc (x:=.int c) (s1:=s) rfl (y:=.int 4) (s2:=s) rfl]; exact div_ii d4) (y:=.int j) (s2:=s) rfl]; exact ck hj
 have fin:∀ (n:Int) (s:ag),∃ v g,(aw (fG Hk (bu 1 (aj c! (af 1) (mC (.int 1))))) (aO (af 1)) [some (.int c),some (.int n)] s).fin = .ok v (s ++ g) ∧ ∀ st,qb v st:=fun n s => by
  obtain ⟨m,g,e,h⟩:=Df c n s
  refine ⟨.int m,g,?_,fun st => qb.int (J! h) st⟩
  rw [aL,e,aX]
  rfl
 cases z0:(c.fmod 4 == 0) with
 | true =>
  obtain ⟨v,hv,e⟩:=ni (μ:=[some (.int c),none]) (a:=aa (mC (.bl true)) (aa (mC (.bl false)) (aa (mC .cB) (aa (mC (.str "2")) ah)))) (vs:=[.bl true,.bl false,.cB,.str "2"]) (st:=st) (s1:=st) rfl (by decide) (m3 4 (by decide) none) q4.1 (by exact q4.2)
  refine ⟨v,[bf.lst [ao.bl true,ao.bl false,ao.cB,ao.str "2"]],?_,?_⟩
  rotate_left
  ·simp only [List.mem_cons,List.mem_nil_iff,or_false] at hv
   rcases hv with rfl | rfl | rfl | rfl
   ·exact fun st => qb.odd ⟨rfl,"bool",rfl,by decide⟩
   ·exact fun st => qb.odd ⟨rfl,"bool",rfl,by decide⟩
   ·exact fun st => qb.odd ⟨rfl,"NoneType",rfl,by decide⟩
   ·exact fun st => qb.odd ⟨rfl,"str",rfl,by decide⟩
  ·unfold PM.c_
   generalize aj gz (bx (aa (mC (.bl true)) (aa (mC (.bl false)) (aa (mC .cB) (aa (mC (.str "2")) ah))))) (aj bB (aj cY (af 0) (mC (.int 4))) (mC (.int 4))) = Z at e ⊢
   simp only [aU,au,ay,iQ,bG,aS,br,aQ,cE,cU,cf,a8,aZ,aL,bc,bA,c8,bz,List.map_cons,List.map_nil,List.cons_append,List.nil_append,List.replicate_succ,List.replicate_zero,Nat.reduceSub,List.length_cons,List.length_nil,Nat.reduceAdd,ck (j:=4) (by decide),z0,e]
 | false =>
  obtain ⟨v,hv,e⟩:=ni (μ:=[some (.int c),some (.int ((c.fdiv 4).fmod 1300 - 100))]) (a:=aa (mC (.int 9)) (aa (mC (.int 15)) (aa (mC (.int 25)) (aa (mC (.int 49)) (aa (mC (.int 77)) (aa (mC (.int 91)) (aa (mC (.int 119)) (aa (mC (.int 121)) (aa (mC (.int 169)) (aa (mC (.int 289)) (aa (mC (.int 361)) (aa (mC (.int 529)) (aa (mC (.int 841)) (aa (mC (.int 961)) (aa (mC (.int 1009)) (aa (mC (.int 10007)) ah)))))))))))))))) (vs:=[9,15,25,49,77,91,119,121,169,289,361,529,841,961,1009,10007].map ao.int) (st:=st) (s1:=st) rfl (by decide) (m3 16 (by decide) _) OS.1 (by exact OS.2)
  obtain ⟨n,_,rfl⟩:=List.mem_map.mp hv
  unfold PM.c_
  generalize aj gz (bx (aa (mC (.int 9)) (aa (mC (.int 15)) (aa (mC (.int 25)) (aa (mC (.int 49)) (aa (mC (.int 77)) (aa (mC (.int 91)) (aa (mC (.int 119)) (aa (mC (.int 121)) (aa (mC (.int 169)) (aa (mC (.int 289)) (aa (mC (.int 361)) (aa (mC (.int 529)) (aa (mC (.int 841)) (aa (mC (.int 961)) (aa (mC (.int 1009)) (aa (mC (.int 10007)) ah))))))))))))))))) (aj bB (aj cY (af 0) (mC (.int 4))) (mC (.int 16))) = Z at e ⊢
  cases z1:(c.fmod 4 == 1) with
  | true =>
   obtain ⟨v,s',ef,hn⟩:=fin n (st ++ [.lst ([9,15,25,49,77,91,119,121,169,289,361,529,841,961,1009,10007].map ao.int)])
   refine ⟨v,[.lst ([9,15,25,49,77,91,119,121,169,289,361,529,841,961,1009,10007].map ao.int)] ++ s',?_,hn⟩
   rw [← List.append_assoc,← ef]
   generalize fG Hk (bu 1 (aj c! (af 1) (mC (.int 1)))) = W
   simp only [aU,au,ay,aX,aS,br,aQ,cU,cV,eI,cf,a8,aZ,aL,cN,bA,cW,zB,c8,bz,List.map_cons,List.map_nil,List.cons_append,List.nil_append,List.replicate_succ,List.replicate_zero,List.set_cons_zero,List.set_cons_succ,Nat.reduceSub,List.length_cons,List.length_nil,Nat.reduceAdd,ck (j:=4) (by decide),ck (j:=1300) (by decide),div_ii d4,z0,z1,e]
  | false =>
   obtain ⟨v,s',ef,hn⟩:=fin ((c.fdiv 4).fmod 1300 - 100) st
   refine ⟨v,s',?_,hn⟩
   rw [← ef]
   generalize fG Hk (bu 1 (aj c! (af 1) (mC (.int 1)))) = W
   simp only [aU,au,ay,aX,aS,br,aQ,cV,eI,cf,a8,aZ,aL,cN,bA,cW,zB,c8,bz,List.map_cons,List.map_nil,List.cons_append,List.nil_append,List.replicate_succ,List.replicate_zero,List.set_cons_zero,List.set_cons_succ,Nat.reduceSub,List.length_cons,List.length_nil,Nat.reduceAdd,ck (j:=4) (by decide),ck (j:=1300) (by decide),div_ii d4,z0,z1]
end mZ
namespace mZ
open PySem PySem.Spec L2 MN PG
open PyProof.Rows hiding St kindOf
section
variable {st:ag}
theorem t8:∃ s,PM.cP [.int 7,.int 14] st = .err "NoInverse" s:=by
 obtain ⟨g,e⟩:=b5 (n:=7) (by decide +kernel) st
 have z:((7:Int) == 0) = false:=rfl
 have m:bB (.int 14) (.int 7) (st ++ g) = .ok (.int 0) (st ++ g):=by rw [ck (by decide)]; rfl
 have y:((0:Int) == 0) = true:=rfl
 exact ⟨_,by simp only [PM.cP,aU,au,ay,aX,fI,gj,aS,br,aQ,aT,aK,iR,cU,cV,gn,cf,a8,aZ,a9,aJ,aY,aL,cN,bJ,bA,e_,c8,bz,bP,List.map_cons,List.map_nil,List.cons_append,List.nil_append,List.replicate_zero,Nat.reduceSub,List.length_cons,List.length_nil,Nat.reduceAdd,sizeLine_eq,Nat.reduceLeDiff,↓reduceIte,e,z,m,y]; rfl⟩
theorem Dg:∃ s,PM.fw [.int 0,.int 3,.int 2] st = .err "NotWhole" s:=by
 obtain ⟨g,e⟩:=b5 (n:=0) (by decide +kernel) st
 have z:((0:Int) == 0) = true:=rfl
 have y:((2:Int) == 0) = false:=rfl
 have m:bB (.int 3) (.int 2) (st ++ g) = .ok (.int 1) (st ++ g):=by rw [ck (by decide)]; rfl
 have x:((1:Int) == 0) = false:=rfl
 exact ⟨_,by simp only [PM.fw,PM.d_,aU,au,ay,fm,aX,fI,gj,aS,br,aQ,aT,aK,iR,cU,cV,gn,cf,a8,aZ,a9,aJ,aY,aL,cN,bJ,bc,bA,e_,c8,u_,bz,bP,List.map_cons,List.map_nil,List.cons_append,List.nil_append,List.replicate_zero,Nat.reduceSub,List.length_cons,List.length_nil,Nat.reduceAdd,Bool.not_false,sizeLine_eq,Nat.reduceLeDiff,↓reduceIte,e,z,y,m,x]; rfl⟩
theorem M_:Eo 1 (.int 3) st:=⟨fun g => ⟨[],by
 rw [List.append_nil]
 have t:wB "tuple" (.int 3) (st ++ g) = .ok (.bl false) (st ++ g):=rfl
 simp only [PM.cZ,aU,au,ay,iQ,bG,pL,mL,cE,cU,cf,a8,aZ,e9,eS,zu,aL,bc,bA,bz,List.map_cons,List.map_nil,List.cons_append,List.nil_append,List.replicate_zero,Nat.reduceSub,List.length_cons,List.length_nil,Nat.reduceAdd,Bool.not_false,t]⟩,fun g => rfl,rfl⟩
theorem xj {a:Nat}:∃ s,PM.dA [.int 0,.loc a,.int 0] st = .err "NoCount" s:=by
 obtain ⟨g,e⟩:=b5 (n:=0) (by decide +kernel) st
 have w:=dI (i:=0) (st:=st ++ g)
 have y:decide ((0:Int) < 1) = true:=rfl
 exact ⟨_,by simp only [PM.dA,aU,au,ay,aX,fI,gj,aS,br,aQ,fq,mL,aT,aK,iR,cU,gn,cf,a8,aZ,e9,eS,a9,aJ,aY,aL,bJ,bA,e_,ji,bz,bP,List.map_cons,List.map_nil,List.cons_append,List.nil_append,List.replicate_zero,Nat.reduceSub,List.length_cons,List.length_nil,Nat.reduceAdd,Bool.not_true,sizeLine_eq,Nat.reduceLeDiff,↓reduceIte,e,w,y]; rfl⟩
theorem Ep:OQ (.str "up"):=⟨fun _ => rfl,rfl⟩
theorem Dh {a:Nat} (h:ak st a = some []):∃ s,PM.d! [.str "lex",.loc a] st = .err "NoLead" s:=by
 have e:PM.cw [.str "lex"] st = .ok .cB st:=nh false st
 have l:dC [.loc a] st = .ok (.int 0) st:=gp h
 have y:((0:Int) == 0) = true:=rfl
 exact ⟨_,by simp only [PM.d!,aU,au,ay,aX,fI,gj,aS,br,aQ,aT,aK,iR,cU,gn,cf,a8,aZ,a9,aJ,aY,aL,bJ,bA,e_,c8,dS,ft,bP,List.map_cons,List.map_nil,List.cons_append,List.nil_append,List.replicate_zero,Nat.reduceSub,List.length_cons,List.length_nil,Nat.reduceAdd,sizeLine_eq,Nat.reduceLeDiff,↓reduceIte,e,l,y]; rfl⟩
theorem AH {a:Nat}:∃ s,PM.d! [.str "up",.loc a] st = .err "NoOrder" s:=by
 have e:=g8 Ep st
 exact ⟨_,by simp only [PM.d!,aU,au,fm,fI,gj,aT,aK,a9,aJ,aY,aL,bJ,dS,List.map_cons,List.map_nil,List.cons_append,List.nil_append,List.replicate_zero,Nat.reduceSub,List.length_cons,List.length_nil,Nat.reduceAdd,e]; rfl⟩
theorem xk {u w:List ao}:∃ s,PM.eV [.str "up",.tup u,.tup w] st = .err "NoOrder" s:=by
 have e:=g8 Ep st
 exact ⟨_,by simp only [PM.eV,aU,au,fm,fI,gj,aT,aK,a9,aJ,aY,aL,bJ,dS,List.map_cons,List.map_nil,List.cons_append,List.nil_append,List.replicate_zero,Nat.reduceSub,List.length_cons,List.length_nil,Nat.reduceAdd,e]; rfl⟩
theorem rE {v:ao} (h:flat v = true) (hb:HW 1 4 v = false):∃ s,PM.cH [.int 5,v,.int 1] st = .err "NoUnknowns" s:=by
 obtain ⟨g,e⟩:=b5 (n:=5) (by decide +kernel) st
 have u:=kI h hb (st ++ g)
 have v1:∀ x0 r s,af 1 (x0 :: some v :: r) s = .ok v s:=fun x0 r s => iS rfl (lQ h)
 exact ⟨_,by simp only [PM.cH,aU,au,ay,fm,aX,fI,gj,aT,aK,iR,a9,aJ,aY,aL,bJ,bz,List.map_cons,List.map_nil,List.cons_append,List.nil_append,List.replicate_zero,Nat.reduceSub,List.length_cons,List.length_nil,Nat.reduceAdd,e,v1,u]; rfl⟩
end
end mZ
namespace mZ
open PySem PySem.Spec L2 MN PG
open PyProof.Rows hiding St kindOf
noncomputable def pW (c:Str):Bool:=!(Builtin.Str.occurrences ("0123456789":Str) c 0 ("0123456789":Str).length 1).isEmpty
noncomputable def Dj (x:Str):Bool:=decide ((0:Int) < (x.length:Int)) && (r_ x).all pW
theorem lP {α:Type} (f:α → Bool):∀ us:List α,fR (us.map fun u => ao.bl (f u)) = some (us.map f)
 | [] => rfl
 | u :: us => by
  rw [List.map_cons,List.map_cons]
  unfold fR
  rw [lP f us]
  rfl
theorem Dk (x:Str):(r_ x).length = x.length:=by unfold r_; rw [List.length_map,Array.length_toList]; rfl
theorem vq {x:Str} (ha:x.cps.all (· < 128) = true) (hl:x.length ≤ 100000) (st:ag):∃ g,PM.cG [.str x] st = .ok (.bl (Dj x)) (st ++ g):=by
 have sz:x.length ≤ sizeLine:=by rw [sizeLine_eq]; lia
 have ln:∀ s,dC [.str x] s = .ok (.int (x.length:Int)) s:=fun s => by unfold dC; dsimp only; rw [if_pos sz]
 have v0:∀ s,af 0 [some (ao.str x)] s = .ok (.str x) s:=fun _ => rfl
 have cp:=cL (g:=fun _ => True) (a:=aB 0) (c:=bD) (e:=aj J3 (af 0) (mC (.str "0123456789"))) (st:=st) trivial (fun τ => ∃ y,τ = [y]) (fun _ => true) (fun u => match u with | .str c => .bl (pW c) | u => u) ((r_ x).map ao.str) [none] [] ⟨_,rfl⟩ (by
  rintro u hu τ ⟨y,rfl⟩
  obtain ⟨c,_,rfl⟩:=List.mem_map.mp hu
  exact ⟨[some (.str c)],rfl,⟨_,rfl⟩,rfl,fun _ => rfl⟩)
 rw [List.filter_eq_self.mpr fun _ _ => rfl,List.map_map,List.nil_append] at cp
 have e0:(r_ x).map ((fun u => match u with | ao.str c => ao.bl (pW c) | u => u) ∘ ao.str) = (r_ x).map fun c => ao.bl (pW c):=rfl
 rw [e0] at cp
 have tx:mV (af 0) [some (ao.str x)] st = .ok ((r_ x).map .str,fun _ => True) st:=by
  unfold mV
  rw [v0]
  show (if x.cps.all (· < 128) = true then _ else _) = _
  rw [if_pos ha]
 have sU:gO 1 [] [some (ao.str x)] = [none]:=rfl
 have comp:b! 1 [] (mV (af 0)) (aB 0) bD (aj J3 (af 0) (mC (.str "0123456789"))) [some (.str x)] st = .ok (.loc st.length) (st ++ [.lst ((r_ x).map fun c => ao.bl (pW c))]):=by
  rw [d8,tx,au,fK,if_pos (by rw [List.length_map,Dk]; exact sz),sU,cp,au,iy]
 have al:jP [.loc st.length] (st ++ [.lst ((r_ x).map fun c => ao.bl (pW c))]) = .ok (.bl ((r_ x).all pW)) (st ++ [.lst ((r_ x).map fun c => ao.bl (pW c))]):=by
  unfold jP
  dsimp only
  rw [aR]
  dsimp only
  rw [lP]
  dsimp only
  rw [List.all_map]
  rfl
 unfold Dj
 cases q:decide ((0:Int) < (x.length:Int)) with
 | false => exact ⟨[],by rw [List.append_nil]; simp only [PM.cG,aU,au,ay,bG,aS,br,aQ,pK,aT,aK,cE,cf,fJ,a9,aJ,aY,bc,qX,dS,List.map_cons,List.map_nil,List.cons_append,List.nil_append,List.replicate_zero,Nat.reduceSub,List.length_cons,List.length_nil,Nat.reduceAdd,ln,q]; rfl⟩
 | true => exact ⟨[.lst ((r_ x).map fun c => ao.bl (pW c))],by
   unfold PM.cG
   generalize b! 1 [] (mV (af 0)) (aB 0) bD (aj J3 (af 0) (mC (.str "0123456789"))) = Z at comp ⊢
   simp only [aU,au,ay,bG,aS,br,aQ,gm,aT,aK,cE,cf,fJ,a9,aJ,aY,bc,qX,dS,List.map_cons,List.map_nil,List.cons_append,List.nil_append,List.replicate_zero,Nat.reduceSub,List.length_cons,List.length_nil,Nat.reduceAdd,ln,q,comp,al]; rfl⟩
theorem Dl (st:ag):PM.cm [.int 2,.str "x"] st = .ok (.int 0) st:=by
 have r:CC [.int 2] st = .ok (cj 0 2,fun _ => True) st:=rfl
 have rl:cj 0 2 = [.int 0,.int 1]:=rfl
 have ix:C0 PM.gu (.int 0) st = .ok (.str "x") st:=rfl
 have y:(("x":Str) == ("x":Str)) = true:=by decide
 simp only [PM.cm,aU,au,ay,aT,aK,kE,a9,aJ,aL,gT,lK,bz,List.map_cons,List.map_nil,List.cons_append,List.nil_append,List.replicate_succ,List.replicate_zero,Nat.reduceSub,List.length_cons,List.length_nil,Nat.reduceAdd,r,rl]
 unfold forL
 rw [if_pos trivial]
 have a:aB 2 (.int 0) [some (ao.int 2),some (ao.str "x"),none] = some [some (.int 2),some (.str "x"),some (.int 0)]:=rfl
 rw [a]
 dsimp only
 simp only [au,ay,iQ,bG,aS,br,aQ,cE,cU,cf,a8,aZ,bc,bA,u!,bz,dS,bP,ix,y]
theorem t9 {m:ME} {lo hi:MO} {x:Str} {l h:Option Int} {μ:MN.Env} {s:ag} (e:m μ s = .ok (.str x) s) (hl:lo μ s = .ok l s) (hh:hi μ s = .ok h s) (sz:x.length ≤ sizeLine):fV m lo hi μ s = .ok (.str (Txt.slice x l h)) s:=by
 unfold fV pQ
 rw [e]
 show ((lo μ s).bind fun l st2 => _) = _
 rw [hl]
 show ((hi μ s).bind fun l st2 => _) = _
 rw [hh]
 show (if x.length ≤ sizeLine then _ else _) = _
 rw [if_pos sz]
theorem rF {m:ME} {x y:Str} {μ:MN.Env} {s s1:ag} (e:m μ s = .ok (.str x) s1) (sz:x.length ≤ sizeLine) (hb:(y.length == 0) = false ∧ (Builtin.Str.partsBetween x (Builtin.Str.occurrences x y 0 x.length (x.length + 1)) y.length).length ≤ sizeLine ∧ (Txt.split x y).length ≤ sizeLine) :
  eh m (mC (.str y)) μ s = .ok (.loc s1.length) (s1 ++ [.lst ((Txt.split x y).map .str)]):=by
 unfold eh pQ
 rw [e]
 show (if x.length ≤ sizeLine then _ else _) = _
 rw [if_pos sz]
 show (if (y.length == 0) = false ∧ (Builtin.Str.partsBetween x (Builtin.Str.occurrences x y 0 x.length (x.length + 1)) y.length).length ≤ sizeLine ∧ (Txt.split x y).length ≤ sizeLine then _ else _) = _
 rw [if_pos hb]
theorem vt {me:ME} {y:Str} {n:Nat} {xs:List Str} {μ:MN.Env} {s s1:ag} (e:me μ s = .ok (.loc n) s1) (hi:ak s1 n = some (xs.map .str)) (hk:JoinOk y xs = true):gA (mC (.str y)) me μ s = .ok (.str (Txt.join y xs)) s1:=by
 unfold gA pQ
 show ((me μ s).bind fun v st2 => _) = _
 rw [e]
 show (match ak s1 n with | some us => _ | none => _) = _
 rw [hi]
 show (match strsOf (xs.map .str) with | some xs => _ | none => _) = _
 rw [wX]
 show (if JoinOk y xs = true then _ else _) = _
 rw [if_pos hk]
theorem Hl (st:ag):∃ g,PM.b8 [.str "^1"] st = .ok (.int 1) (st ++ g):=by
 obtain ⟨g,f⟩:=vq (x:="1") (by decide +kernel) (by decide +kernel) st
 have fb:Dj "1" = true:=by decide +kernel
 rw [fb] at f
 have q0:(("^1":Str) == ("":Str)) = false:=by decide
 have q1:Txt.slice ("^1":Str) (some 1) none = "1":=by decide +kernel
 have sl:fV (af 0) (dj (mC (.int 1))) dh [some (.str "^1"),none] st = .ok (.str "1") st:=by
  rw [t9 (x:="^1") (l:=some 1) (h:=none) rfl rfl rfl (by decide +kernel),q1]
 have ix:∀ s,gz (.str "^1") (.int 0) s = .ok (.str "^") s:=fun s => by
  unfold gz; dsimp only; rw [if_pos (by decide +kernel)]; rfl
 have q2:(("^":Str) == ("^":Str)) = true:=by decide
 have ln:∀ s,dC [.str "1"] s = .ok (.int 1) s:=fun s => by unfold dC; dsimp only; rw [if_pos (by decide +kernel)]; rfl
 have q3:decide ((2:Int) < 1) = false:=rfl
 have it:∀ s,tN [.str "1"] s = .ok (.int 1) s:=fun s => rfl
 exact ⟨g,by
  unfold PM.b8
  generalize fV (af 0) (dj (mC (.int 1))) dh = Z at sl ⊢
  simp only [aU,au,ay,aX,bG,aS,br,aQ,fq,mL,aT,aK,cE,cV,eI,cf,a8,aZ,e9,eS,a9,aJ,aY,aL,cN,bc,bA,cW,qX,u!,Eg,dS,bP,List.map_cons,List.map_nil,List.cons_append,List.nil_append,List.replicate_succ,List.replicate_zero,List.set_cons_zero,List.set_cons_succ,Nat.reduceSub,List.length_cons,List.length_nil,Nat.reduceAdd,Bool.not_true,q0,sl,ix,q2,f,ln,q3,it]⟩
end mZ
namespace mZ
open PySem PySem.Spec L2 MN PG
open PyProof.Rows hiding St kindOf
noncomputable abbrev Kc:MB:=cg (bg (ai PM.cG (aa (af 5) ah))) (bu 3 (aj dN (af 3) (ai tN (aa (af 5) ah)))) (u3 (af 4) (ai PM.cm (aa (af 0) (aa (fV (af 5) dh (dj (mC (.int 1)))) ah))) (ai PM.b8 (aa (fV (af 5) (dj (mC (.int 1))) dh) ah)))
theorem Dm {n:Nat} {x1 x2 x3:Option ao} {s:ag} (hn:s[n]? = some (.lst [.int 0,.int 0])):∃ g,Kc [some (.int 2),x1,x2,x3,some (.loc n),some (.str "x^1")] s = .nx [some (.int 2),x1,x2,x3,some (.loc n),some (.str "x^1")] ((s ++ g).set n (.lst [.int 1,.int 0])):=by
 obtain ⟨g1,f⟩:=vq (x:="x^1") (by decide +kernel) (by decide +kernel) s
 have fb:Dj "x^1" = false:=by decide +kernel
 rw [fb] at f
 obtain ⟨g2,e⟩:=Hl (s ++ g1)
 have q1:Txt.slice ("x^1":Str) none (some 1) = "x":=by decide +kernel
 have q2:Txt.slice ("x^1":Str) (some 1) none = "^1":=by decide +kernel
 have OT:∀ s,fV (af 5) dh (dj (mC (.int 1))) [some (.int 2),x1,x2,x3,some (.loc n),some (.str "x^1")] s = .ok (.str "x") s:=fun s => by
  rw [t9 (x:="x^1") (l:=none) (h:=some 1) rfl rfl rfl (by decide +kernel),q1]
 have DZ:∀ s,fV (af 5) (dj (mC (.int 1))) dh [some (.int 2),x1,x2,x3,some (.loc n),some (.str "x^1")] s = .ok (.str "^1") s:=fun s => by
  rw [t9 (x:="x^1") (l:=some 1) (h:=none) rfl rfl rfl (by decide +kernel),q2]
 have L6:(s ++ g1 ++ g2)[n]? = some (.lst [.int 0,.int 0]):=by
  have hl:n < s.length:=(List.getElem?_eq_some_iff.mp hn).1
  rw [List.append_assoc,List.getElem?_append_left hl]; exact hn
 have st:=CK (v:=.int 1) (k:=0) (j:=0) L6 rfl
 have av:pI (.loc n) (.int 0) (.int 1) (s ++ g1 ++ g2) = some ((s ++ g1 ++ g2).set n (.lst [.int 1,.int 0])):=st
 refine ⟨g1 ++ g2,?_⟩
 rw [← List.append_assoc]
 unfold Kc
 generalize fV (af 5) dh (dj (mC (.int 1))) = Z1 at OT ⊢
 generalize fV (af 5) (dj (mC (.int 1))) dh = Z2 at DZ ⊢
 simp only [au,ay,aT,aK,cV,a8,aZ,a9,aJ,aY,bA,bz,dS,ft,bP,CJ,MG,JM,JN,zH,f,OT,DZ,e,Dl,av]
theorem Dp (st:ag):∃ g,PM.cO [.int 2,.str "+",.str "x^1"] st = .ok (.tup [.tup [.int 1,.int 0],.int 1]) (st ++ g):=by
 have c0:bg (aj (uR true) (af 1) (mC PM.mY)) [some (.int 2),some (.str "+"),some (.str "x^1"),none,none,none] st = .ok false st:=by
  have:uR true (.str "+") PM.mY st = .ok (.bl false) st:=by
   unfold uR
   have h1:yR st PM.mY = some [.str "+",.str "-"]:=rfl
   rw [h1]
   dsimp only
   rw [if_pos ⟨rfl,rfl⟩]
   have:(if (true:Bool) = true then !([ao.str "+",.str "-"].any fun y => Cm y (.str "+")) else [ao.str "+",.str "-"].any fun y => Cm y (.str "+")) = false:=by decide +kernel
   rw [this]
  exact fe (by rw [fc (x:=.str "+") (s1:=st) rfl (y:=PM.mY) (s2:=st) rfl,this])
 have q1:(("+":Str) == ("-":Str)) = false:=by decide
 have l0:(st ++ [bf.lst [.int 0]])[st.length]? = some (.lst [.int 0]):=fL _ _
 have ml:dN (.loc st.length) (.int 2) (st ++ [.lst [.int 0]]) = .ok (.loc (st ++ [bf.lst [.int 0]]).length) (st ++ [.lst [.int 0]] ++ [.lst [.int 0,.int 0]]):=GQ l0 (by decide) (by decide) (by decide)
 obtain ⟨s1,ij⟩:∃ s1,s1 = st ++ [bf.lst [.int 0]]:=⟨_,rfl⟩
 rw [← ij] at ml
 obtain ⟨s2,fP⟩:∃ s2,s2 = s1 ++ [bf.lst [.int 0,.int 0]]:=⟨_,rfl⟩
 rw [← fP] at ml
 have n2:s2[s1.length]? = some (.lst [.int 0,.int 0]):=by rw [fP]; exact fL _ _
 have sp:Txt.split ("x^1":Str) "*" = [("x^1":Str)]:=by decide +kernel
 have sl:∀ x3 x4 x5,eh (af 2) (mC (.str "*")) [some (.int 2),some (.str "+"),some (.str "x^1"),x3,x4,x5] s2 = .ok (.loc s2.length) (s2 ++ [.lst [.str "x^1"]]):=fun x3 x4 x5 => by
  rw [rF (x:="x^1") (s1:=s2) rfl (by decide +kernel) (by decide +kernel),sp]; rfl
 obtain ⟨s3,iC⟩:∃ s3,s3 = s2 ++ [bf.lst [.str "x^1"]]:=⟨_,rfl⟩
 have n3:s3[s1.length]? = some (.lst [.int 0,.int 0]):=by
  rw [iC,List.getElem?_append_left (List.getElem?_eq_some_iff.mp n2).1]; exact n2
 have k3:ak s3 s2.length = some [.str "x^1"]:=by rw [iC]; exact aR _ _
 obtain ⟨g,pb⟩:=Dm (x1:=some (.str "+")) (x2:=some (.str "x^1")) (x3:=some (.int 1)) n3
 obtain ⟨s4,t5⟩:∃ s4,s4 = (s3 ++ g).set s1.length (bf.lst [.int 1,.int 0]):=⟨_,rfl⟩
 have QA:s1.length < s3.length:=(List.getElem?_eq_some_iff.mp n3).1
 have n4:ak s4 s1.length = some [.int 1,.int 0]:=by
  rw [t5]
  unfold ak
  rw [List.getElem?_set_self (by rw [List.length_append]; lia)]
 have k4:ak s4 s2.length = some [.str "x^1"]:=by
  have ne:s1.length ≠ s2.length:=by rw [fP,List.length_append]; simp
  rw [t5]
  unfold ak
  rw [List.getElem?_set_ne ne]
  exact aM k3 g
 have loop:gD (dg (eh (af 2) (mC (.str "*")))) (aB 5) Kc [some (.int 2),some (.str "+"),some (.str "x^1"),some (.int 1),some (.loc s1.length),none] s2 = .nx [some (.int 2),some (.str "+"),some (.str "x^1"),some (.int 1),some (.loc s1.length),some (.str "x^1")] s4:=by
  have wk:mO (.loc s2.length) s3 = .ok ([.str "x^1"],fun av => ak av s2.length = some [.str "x^1"]) s3:=by
   exact dz k3
  rw [gT,d9,sl,au,← iC,wk,ay,kE]
  unfold forL
  rw [if_pos k3]
  have a:aB 5 (.str "x^1") [some (.int 2),some (.str "+"),some (.str "x^1"),some (.int 1),some (.loc s1.length),none] = some [some (.int 2),some (.str "+"),some (.str "x^1"),some (.int 1),some (.loc s1.length),some (.str "x^1")]:=rfl
  rw [a]
  dsimp only
  rw [pb,← t5]
  dsimp only
  unfold forL
  rw [if_pos k4]
 have fin:∃ g,s4 = st ++ g:=by
  refine ⟨(([bf.lst [.int 0]] ++ [bf.lst [.int 0,.int 0]] ++ [bf.lst [.str "x^1"]] ++ g).set 1 (.lst [.int 1,.int 0])),?_⟩
  rw [t5,iC,fP,ij]
  rw [show st ++ [bf.lst [ao.int 0]] ++ [bf.lst [ao.int 0,ao.int 0]] ++ [bf.lst [ao.str "x^1"]] ++ g = st ++ ([bf.lst [.int 0]] ++ [bf.lst [.int 0,.int 0]] ++ [bf.lst [.str "x^1"]] ++ g) by simp only [List.append_assoc]]
  have sa:∀ (a b:List bf) (n:Nat) (c:bf),a.length ≤ n → (a ++ b).set n c = a ++ b.set (n - a.length) c:=fun a b n c h => List.set_append_right n c h
  have lb:(st ++ [bf.lst [ao.int 0]]).length = st.length + 1:=by rw [List.length_append]; rfl
  refine (sa st _ _ _ (by rw [lb]; lia)).trans ?_
  rw [lb,Nat.add_sub_cancel_left]
 obtain ⟨g',e4⟩:=fin
 refine ⟨g',?_⟩
 rw [← e4]
 have tp:sQ [.loc s1.length] s4 = .ok (.tup [.int 1,.int 0]) s4:=CF n4
 unfold PM.cO
 generalize bg (aj (uR true) (af 1) (mC PM.mY)) = Z0 at c0 ⊢
 change dM 3 6 (aw (cg Z0 _ _) (aw _ (aw _ (aw (gD (dg (eh (af 2) (mC (.str "*")))) (aB 5) Kc) _)))) _ _ = _
 generalize gD (dg (eh (af 2) (mC (.str "*")))) (aB 5) Kc = Z1 at loop ⊢
 simp only [aU,au,ay,aX,bG,aS,br,aQ,jh,aT,aK,u9,kD,cE,cV,eI,cf,a8,aZ,mM,a9,aJ,pN,gS,aY,aL,cN,bc,bA,cW,u!,bz,dS,ft,bP,List.map_cons,List.map_nil,List.cons_append,List.nil_append,List.replicate_succ,List.replicate_zero,List.set_cons_zero,List.set_cons_succ,Nat.reduceSub,List.length_cons,List.length_nil,Nat.reduceAdd,sizeLine_eq,Nat.reduceLeDiff,↓reduceIte,c0,q1,← ij,ml,loop,tp]
end mZ
namespace mZ
open PySem PySem.Spec L2 MN PG
open PyProof.Rows hiding St kindOf
theorem xn {m mk:ME} {n:Nat} {k:Int} {us:List ao} {μ:MN.Env} {s:ag} (e:m μ s = .ok (.loc n) s) (hk:mk μ s = .ok (.int k) s) (hi:ak s n = some us) (h0:0 < k):fu m mk μ s = .ok (.loc s.length) (s ++ [.lst (kU us k)]):=by
 unfold fu
 rw [e]
 show ((mk μ s).bind fun k st2 => _) = _
 rw [hk]
 show lN (.loc n) (.int k) s = _
 unfold lN
 dsimp only
 rw [hi]
 dsimp only
 rw [if_pos h0]
theorem t_ {m ml mk:ME} {n:Nat} {i k:Int} {us:List ao} {μ:MN.Env} {s:ag} (e:m μ s = .ok (.loc n) s) (hl:ml μ s = .ok (.int i) s) (hk:mk μ s = .ok (.int k) s) (hi:ak s n = some us) (M5:0 ≤ i) (h0:0 < k):e? m ml mk μ s = .ok (.loc s.length) (s ++ [.lst (kW us i k)]):=by
 unfold e?
 rw [e]
 show ((ml μ s).bind fun k st2 => _) = _
 rw [hl]
 show ((mk μ s).bind fun k st2 => _) = _
 rw [hk]
 show jq (.loc n) (.int i) (.int k) s = _
 unfold jq
 dsimp only
 rw [hi]
 dsimp only
 rw [if_pos ⟨M5,h0⟩]
theorem xo {m:ME} {x y:Str} {μ:MN.Env} {s:ag} (e:m μ s = .ok (.str x) s):gr m (mC (.str y)) μ s = .ok (.bl (Txt.startswith x y)) s:=by
 unfold gr pQ
 rw [e]
 rfl
noncomputable abbrev px:ao:=.tup [.tup [.int 1,.int 0],.int 1]
theorem AI (st:ag):∃ g n,PM.dm [.int 2,.str "x^1"] st = .ok (.loc n) (st ++ g) ∧ ak (st ++ g) n = some [px]:=by
 have q0:Txt.startswith ("x^1":Str) "-" = false:=by decide +kernel
 have c0:∀ x2 x3 x4,gr (af 1) (mC (.str "-")) [some (.int 2),some (.str "x^1"),x2,x3,x4] st = .ok (.bl false) st:=fun x2 x3 x4 => by
  rw [xo (x:="x^1") rfl,q0]
 have q1:(("+":Str) == ("-":Str)) = false:=by decide
 have sp:Txt.split ("x^1":Str) " " = [("x^1":Str)]:=by decide +kernel
 have m1:∀ x3 x4,v9 (bg (aj cb (af 2) (mC (.str "-")))) (fV (af 1) (dj (mC (.int 1))) dh) (af 1) [some (.int 2),some (.str "x^1"),some (.str "+"),x3,x4] st = .ok (.str "x^1") st:=fun x3 x4 => by
  generalize fV (af 1) (dj (mC (.int 1))) dh = Z
  simp only [au,aS,br,aQ,jh,cf,a8,aZ,mM,u!,dS,bP,q1]
 obtain ⟨s1,ij⟩:∃ s1,s1 = st ++ [bf.lst [.str "x^1"]]:=⟨_,rfl⟩
 have sl:∀ x3 x4,eh (v9 (bg (aj cb (af 2) (mC (.str "-")))) (fV (af 1) (dj (mC (.int 1))) dh) (af 1)) (mC (.str " ")) [some (.int 2),some (.str "x^1"),some (.str "+"),x3,x4] st = .ok (.loc st.length) s1:=fun x3 x4 => by
  rw [rF (x:="x^1") (s1:=st) (m1 x3 x4) (by decide +kernel) (by decide +kernel),sp,ij]; rfl
 have i1:ak s1 st.length = some [.str "x^1"]:=by rw [ij]; exact aR _ _
 have ln:dC [.loc st.length] s1 = .ok (.int 1) s1:=gp i1
 have md:bB (.int 1) (.int 2) s1 = .ok (.int 1) s1:=by rw [ck (by decide)]; rfl
 have q2:((1:Int) == 0) = false:=rfl
 obtain ⟨s2,fP⟩:∃ s2,s2 = s1 ++ [bf.lst [.str "+"]]:=⟨_,rfl⟩
 have i2:ak s2 st.length = some [.str "x^1"]:=by rw [fP]; exact aM i1 _
 obtain ⟨s3,iC⟩:∃ s3,s3 = s2 ++ [bf.lst []]:=⟨_,rfl⟩
 have sf:∀ x2 x4,e? (af 3) (mC (.int 1)) (mC (.int 2)) [some (.int 2),some (.str "x^1"),x2,some (.loc st.length),x4] s2 = .ok (.loc s2.length) s3:=fun x2 x4 => by
  rw [t_ (n:=st.length) (i:=1) (k:=2) rfl rfl rfl i2 (by decide) (by decide),iC]; rfl
 have a3:s3[s1.length]? = some (.lst [.str "+"]):=by
  have:s2[s1.length]? = some (.lst [.str "+"]):=by rw [fP]; exact fL _ _
  rw [iC,List.getElem?_append_left (List.getElem?_eq_some_iff.mp this).1]; exact this
 have b3:s3[s2.length]? = some (.lst []):=by rw [iC]; exact fL _ _
 obtain ⟨s4,t5⟩:∃ s4,s4 = s3 ++ [bf.lst [.str "+"]]:=⟨_,rfl⟩
 have ad:c! (.loc s1.length) (.loc s2.length) s3 = .ok (.loc s3.length) s4:=by rw [MN.GP a3 b3 (by decide),t5]; rfl
 have i4:ak s4 st.length = some [.str "x^1"]:=by rw [t5,iC]; exact aM (aM i2 _) _
 have j4:ak s4 s3.length = some [.str "+"]:=by rw [t5]; exact aR _ _
 obtain ⟨s5,C?⟩:∃ s5,s5 = s4 ++ [bf.lst [.str "x^1"]]:=⟨_,rfl⟩
 have sd:fu (af 3) (mC (.int 2)) [some (.int 2),some (.str "x^1"),some (.str "+"),some (.loc st.length),some (.loc s3.length)] s4 = .ok (.loc s4.length) s5:=by
  rw [xn (n:=st.length) (k:=2) rfl rfl i4 (by decide),C?]; rfl
 have i5:ak s5 s3.length = some [.str "+"]:=by rw [C?]; exact aM j4 _
 have j5:ak s5 s4.length = some [.str "x^1"]:=by rw [C?]; exact aR _ _
 obtain ⟨g,pk⟩:=Dp s5
 have cp:b! 2 [0] (oH true true (aa (af 4) (aa (fu (af 3) (mC (.int 2))) ah))) (fh [(aB 0),(aB 1)]) bD (ai PM.cO (aa (af 2) (aa (af 0) (aa (af 1) ah)))) [some (.int 2),some (.str "x^1"),some (.str "+"),some (.loc st.length),some (.loc s3.length)] s4 = .ok (.loc (s5 ++ g).length) (s5 ++ g ++ [.lst [px]]):=by
  have v4:af 4 [some (.int 2),some (.str "x^1"),some (.str "+"),some (.loc st.length),some (.loc s3.length)] s4 = .ok (.loc s3.length) s4:=rfl
  have sU:gO 2 [0] [some (ao.int 2),some (.str "x^1"),some (.str "+"),some (.loc st.length),some (.loc s3.length)] = [none,none,some (.int 2)]:=rfl
  have zz:nT [ao.str "+"] [ao.str "x^1"] = [.tup [.str "+",.str "x^1"]]:=rfl
  rw [d8,GG,fN v4 sd,au,GO i5 j5,au,fK,if_pos (by decide),sU,zz]
  rw [xc (y:=px) (st1:=s5 ++ g) (τ1:=[some (.str "+"),some (.str "x^1"),some (.int 2)]) ⟨i5,j5⟩ rfl (by
   rw [bZ (vs:=[.int 2,.str "+",.str "x^1"]) (s1:=s5) rfl,pk])]
  rw [oU ⟨aM i5 g,aM j5 g⟩,au,iy]
  rfl
 obtain ⟨g',fin⟩:∃ g',s5 ++ g ++ [bf.lst [px]] = st ++ g':=⟨[bf.lst [.str "x^1"]] ++ [bf.lst [.str "+"]] ++ [bf.lst []] ++ [bf.lst [.str "+"]] ++ [bf.lst [.str "x^1"]] ++ g ++ [.lst [px]],by
  rw [C?,t5,iC,fP,ij]; simp only [List.append_assoc]⟩
 refine ⟨g',(s5 ++ g).length,?_,?_⟩
 rotate_left
 ·rw [← fin]; exact aR _ _
 rw [← fin]
 unfold PM.dm
 generalize gr (af 1) (mC (.str "-")) = Z0 at c0 ⊢
 generalize eh (v9 (bg (aj cb (af 2) (mC (.str "-")))) (fV (af 1) (dj (mC (.int 1))) dh) (af 1)) (mC (.str " ")) = Z1 at sl ⊢
 generalize b! 2 [0] (oH true true (aa (af 4) (aa (fu (af 3) (mC (.int 2))) ah))) (fh [(aB 0),(aB 1)]) bD (ai PM.cO (aa (af 2) (aa (af 0) (aa (af 1) ah)))) = Z2 at cp ⊢
 generalize e? (af 3) (mC (.int 1)) (mC (.int 2)) = Z3 at sf ⊢
 simp only [aU,au,ay,aX,bG,aS,br,aQ,jh,aT,aK,kD,cE,cV,eI,cf,a8,aZ,mM,a9,aJ,gS,aY,aL,cN,bc,bA,cW,c8,dS,ft,bP,List.map_cons,List.map_nil,List.cons_append,List.nil_append,List.replicate_succ,List.replicate_zero,List.set_cons_zero,List.set_cons_succ,Nat.reduceSub,List.length_cons,List.length_nil,Nat.reduceAdd,sizeLine_eq,Nat.reduceLeDiff,↓reduceIte,c0,sl,ln,md,q2,← fP,sf,ad,cp]
end mZ
namespace mZ
open PySem PySem.Spec L2 MN PG
open PyProof.Rows hiding St kindOf
theorem t! {g:ag → Prop} {a:AS} {c:MT} {e:ME} {u y:ao} {us:List ao} {τ τ1:MN.Env} {st st1 st2:ag} {ys:List ao} (hg:g st) (h1:a u τ = some τ1) (hc:c τ1 st = .ok true st1) (h2:e τ1 st1 = .ok y st2):cq g a c e (u :: us) τ st ys = cq g a c e us τ1 st2 (ys ++ [y]):=by
 rw [cq,if_pos hg,h1]
 dsimp only
 rw [hc]
 dsimp only
 rw [h2]
theorem t? {g:ag → Prop} {a:AS} {c:MT} {e:ME} {u:ao} {us:List ao} {τ τ1:MN.Env} {st st1:ag} {ys:List ao} (hg:g st) (h1:a u τ = some τ1) (hc:c τ1 st = .ok false st1):cq g a c e (u :: us) τ st ys = cq g a c e us τ1 st1 ys:=by
 rw [cq,if_pos hg,h1]
 dsimp only
 rw [hc]
theorem xp (z:Str) (s:ag):PM.dw [.str z,.int 1] s = .ok (.str z) s:=by
 have q:((1:Int) == 1) = true:=rfl
 unfold PM.dw
 generalize C2 "^" (af 0) (af 1) = Z
 simp only [aU,au,ay,bG,aS,br,aQ,u6,cE,cf,a8,aZ,mM,bc,c8,bz,dS,bP,List.map_cons,List.map_nil,List.cons_append,List.nil_append,List.replicate_zero,Nat.reduceSub,List.length_cons,List.length_nil,Nat.reduceAdd,q]
theorem Hm (st:ag):∃ g,PM.eU [.tup [.int 1,.int 0],.int 1] st = .ok (.str "x") (st ++ g):=by
 have en:mX (aa (af 0) ah) [some (.tup [.int 1,.int 0]),some (.int 1),none] st = .ok ([.tup [.int 0,.int 1],.tup [.int 1,.int 0]],fun _ => True) st:=rfl
 have sU:gO 2 [] [some (.tup [.int 1,.int 0]),some (.int 1),none] = [none,none]:=rfl
 have ix:C0 PM.gu (.int 0) st = .ok (.str "x") st:=rfl
 have cp:b! 2 [] (mX (aa (af 0) ah)) (fh [(aB 0),(aB 1)]) (bg (aj kB (af 1) (mC (.int 0)))) (ai PM.dw (aa (aj C0 (mC PM.gu) (af 0)) (aa (af 1) ah))) [some (.tup [.int 1,.int 0]),some (.int 1),none] st = .ok (.loc st.length) (st ++ [.lst [.str "x"]]):=by
  rw [d8,en,au,fK,if_pos (by decide),sU]
  rw [t! (y:=.str "x") (τ1:=[some (.int 0),some (.int 1)]) (st1:=st) (st2:=st) trivial rfl rfl (by
   rw [bZ (vs:=[.str "x",.int 1]) (s1:=st) rfl]; exact xp _ _)]
  rw [t? (τ1:=[some (.int 1),some (.int 0)]) (st1:=st) trivial rfl rfl,oU trivial,au,iy]
  rfl
 have i1:=aR st [.str "x"]
 have ln:dC [.loc st.length] (st ++ [.lst [.str "x"]]) = .ok (.int 1) (st ++ [.lst [.str "x"]]):=gp i1
 have q1:(!((1:Int) == 1)) = false:=rfl
 have q2:((1:Int) == 0) = false:=rfl
 have jn:gA (mC (.str "*")) (af 2) [some (.tup [.int 1,.int 0]),some (.int 1),some (.loc st.length)] (st ++ [.lst [.str "x"]]) = .ok (.str "x") (st ++ [.lst [.str "x"]]):=by
  rw [vt (n:=st.length) (xs:=["x"]) (s1:=st ++ [.lst [.str "x"]]) rfl i1 (by decide +kernel)]
  have:Txt.join ("*":Str) ["x"] = "x":=by decide +kernel
  rw [this]
 refine ⟨[.lst [.str "x"]],?_⟩
 unfold PM.eU
 generalize b! 2 [] (mX (aa (af 0) ah)) (fh [(aB 0),(aB 1)]) (bg (aj kB (af 1) (mC (.int 0)))) (ai PM.dw (aa (aj C0 (mC PM.gu) (af 0)) (aa (af 1) ah))) = Z0 at cp ⊢
 generalize gA (mC (.str "*")) (af 2) = Z1 at jn ⊢
 generalize gA (mC (.str "*")) (aj c! (bx (aa (ai Ag (aa (af 1) ah)) ah)) (af 2)) = Z2
 simp only [aU,au,ay,aX,bG,aS,br,aQ,fq,aT,aK,cE,cV,eI,cf,a8,aZ,e9,a9,aJ,aY,aL,cN,bc,bA,cW,c8,u_,bz,ft,bP,List.map_cons,List.map_nil,List.cons_append,List.nil_append,List.replicate_succ,List.replicate_zero,List.set_cons_zero,List.set_cons_succ,Nat.reduceSub,List.length_cons,List.length_nil,Nat.reduceAdd,cp,q1,q2,ln,jn]
theorem xq (st:ag):PM.eT [.bl true,.int 1] st = .ok (.str "") st:=by
 have q:decide ((1:Int) < 0) = false:=rfl
 simp only [PM.eT,aU,au,ay,iQ,bG,aS,br,aQ,jh,cE,cU,cf,a8,aZ,mM,aL,bc,bA,ji,bz,qV,bP,List.map_cons,List.map_nil,List.cons_append,List.nil_append,List.replicate_zero,Nat.reduceSub,List.length_cons,List.length_nil,Nat.reduceAdd,q]
noncomputable abbrev Kd:MB:=aw (bh (sV dF (af 1) (aa (ai PM.eT (aa (aj cb (ai dC (aa (af 1) ah)) (mC (.int 0))) (aa (af 3) ah))) ah))) (bh (sV dF (af 1) (aa (ai PM.eU (aa (af 2) (aa (ai sP (aa (af 3) ah)) ah))) ah)))
theorem Dq {p:Nat} {st:ag} (h:ak st p = some [px]):∃ s',PM.shown [.loc p] st = .ok (.str "x") s':=by
 have hp:p < st.length:=by
  rcases Nat.lt_or_ge p st.length with q | q
  ·exact q
  ·unfold ak at h; rw [List.getElem?_eq_none q] at h; cases h
 have QB:dC [.loc p] st = .ok (.int 1) st:=gp h
 have q0:((1:Int) == 0) = false:=rfl
 obtain ⟨s1,ij⟩:∃ s1,s1 = st ++ [bf.lst []]:=⟨_,rfl⟩
 have n1:s1[st.length]? = some (.lst []):=by rw [ij]; exact fL _ _
 have p1:ak s1 p = some [px]:=by rw [ij]; exact aM h _
 have QC:dC [.loc st.length] s1 = .ok (.int 0) s1:=gp (qY n1)
 have q1:((0:Int) == 0) = true:=rfl
 obtain ⟨s2,fP⟩:∃ s2,s2 = s1.set st.length (bf.lst [.str ""]):=⟨_,rfl⟩
 have a1:dF (.loc st.length) [.str ""] s1 = .ok .cB s2:=by rw [oN n1 (by decide),fP]; rfl
 have l1:st.length < s1.length:=(List.getElem?_eq_some_iff.mp n1).1
 have n2:s2[st.length]? = some (.lst [.str ""]):=by rw [fP,List.getElem?_set_self l1]
 have sp:∀ (s:ag) (c:bf),ak (s.set st.length c) p = ak s p:=fun s c => by
  unfold ak
  rw [List.getElem?_set_ne (by lia)]
 have p2:ak s2 p = some [px]:=by rw [fP,sp]; exact p1
 obtain ⟨g,tm⟩:=Hm s2
 obtain ⟨s3,iC⟩:∃ s3,s3 = s2 ++ g:=⟨_,rfl⟩
 rw [← iC] at tm
 have n3:s3[st.length]? = some (.lst [.str ""]):=by rw [iC,List.getElem?_append_left (List.getElem?_eq_some_iff.mp n2).1]; exact n2
 have p3:ak s3 p = some [px]:=by rw [iC]; exact aM p2 _
 obtain ⟨s4,t5⟩:∃ s4,s4 = s3.set st.length (bf.lst [.str "",.str "x"]):=⟨_,rfl⟩
 have a2:dF (.loc st.length) [.str "x"] s3 = .ok .cB s4:=by rw [oN n3 (by decide),t5]; rfl
 have n4:ak s4 st.length = some [.str "",.str "x"]:=by
  unfold ak
  rw [t5,List.getElem?_set_self (List.getElem?_eq_some_iff.mp n3).1]
 have p4:ak s4 p = some [px]:=by rw [t5,sp]; exact p3
 have ab:∀ s,sP [.int 1] s = .ok (.int 1) s:=fun _ => rfl
 have body:Kd [some (.loc p),some (.loc st.length),some (.tup [.int 1,.int 0]),some (.int 1)] s1 = .nx [some (.loc p),some (.loc st.length),some (.tup [.int 1,.int 0]),some (.int 1)] s4:=by
  simp only [Kd,au,ay,aX,aS,br,aQ,aT,aK,iR,cf,a9,aJ,aY,aL,bJ,c8,bz,JI,ft,bP,GK,JL,Eh n1,QC,q1,xq,a1,Eh n2,ab,tm,a2]
 have loop:gD (dg (af 0)) (fh [(aB 2),(aB 3)]) Kd [some (.loc p),some (.loc st.length),none,none] s1 = .nx [some (.loc p),some (.loc st.length),some (.tup [.int 1,.int 0]),some (.int 1)] s4:=by
  have v0:af 0 [some (.loc p),some (.loc st.length),none,none] s1 = .ok (.loc p) s1:=rfl
  rw [gT,d9,v0,au,dz p1,ay,kE]
  unfold forL
  rw [if_pos p1]
  have a:fh [(aB 2),(aB 3)] px [some (.loc p),some (.loc st.length),none,none] = some [some (.loc p),some (.loc st.length),some (.tup [.int 1,.int 0]),some (.int 1)]:=rfl
  rw [a]
  dsimp only
  rw [body]
  dsimp only
  unfold forL
  rw [if_pos p4]
 have jn:gA (mC (.str "")) (af 1) [some (.loc p),some (.loc st.length),some (.tup [.int 1,.int 0]),some (.int 1)] s4 = .ok (.str "x") s4:=by
  rw [vt (n:=st.length) (xs:=["","x"]) (s1:=s4) rfl n4 (by decide +kernel)]
  have:Txt.join ("":Str) ["","x"] = "x":=by decide +kernel
  rw [this]
 refine ⟨s4,?_⟩
 unfold PM.shown
 change dM 1 4 (aw _ (aw _ (aw (gD (dg (af 0)) (fh [(aB 2),(aB 3)]) Kd) _))) _ _ = _
 generalize gD (dg (af 0)) (fh [(aB 2),(aB 3)]) Kd = Z0 at loop ⊢
 generalize gA (mC (.str "")) (af 1) = Z1 at jn ⊢
 simp only [aU,au,ay,aX,bG,aS,br,aQ,aT,aK,kD,cE,cV,eI,cf,a8,aZ,a9,aJ,gS,aY,aL,cN,bc,bA,cW,c8,ft,List.map_cons,List.map_nil,List.cons_append,List.nil_append,List.replicate_succ,List.replicate_zero,List.set_cons_zero,List.set_cons_succ,Nat.reduceSub,List.length_cons,List.length_nil,Nat.reduceAdd,sizeLine_eq,Nat.reduceLeDiff,↓reduceIte,QB,q0,← ij,loop,jn]
theorem Dr (st:ag):∃ s',PM.read [.int 0,.int 2,.str "x^1"] st = .err "NotWritten" s':=by
 obtain ⟨g1,cr⟩:=b5 (n:=0) (by decide +kernel) st
 obtain ⟨s1,ij⟩:∃ s1,s1 = st ++ g1:=⟨_,rfl⟩
 rw [← ij] at cr
 have cu:PM.aE [.int 2] s1 = .ok .cB s1:=rfl
 obtain ⟨g2,n,pw,pi⟩:=AI s1
 obtain ⟨s2,fP⟩:∃ s2,s2 = s1 ++ g2:=⟨_,rfl⟩
 rw [← fP] at pw pi
 obtain ⟨g3,k,md,_,mk⟩:=C! (p:=n) (aC:=2) (P:=[([1,0],1)]) (r:=0) (st:=s2) (by decide +kernel) pi (by decide) (by
  intro t ht
  rw [List.mem_singleton] at ht
  subst ht
  exact ⟨rfl,by decide⟩) (by decide) (by decide)
 have tp:(iB 0 (ff [([1,0],1)])).map tV = [px]:=by
  have:iB 0 (ff [([1,0],1)]) = [([1,0],1)]:=by decide +kernel
  rw [this]; rfl
 rw [tp] at mk
 obtain ⟨s3,iC⟩:∃ s3,s3 = s2 ++ g3:=⟨_,rfl⟩
 rw [← iC] at md mk
 obtain ⟨s4,sh⟩:=Dq (qY mk)
 have QD:PM.made [.int 0,.int 2,.loc n] s2 = .ok (.loc k) s3:=md
 have ne:(!(("x":Str) == ("x^1":Str))) = true:=by decide
 exact ⟨s4,by simp only [PM.read,aU,au,ay,aX,fI,gj,aS,br,aQ,aT,aK,iR,cU,eI,gn,cf,a8,aZ,a9,aJ,aY,aL,bJ,bA,cW,e_,Eg,bz,dS,ft,bP,List.map_cons,List.map_nil,List.cons_append,List.nil_append,List.replicate_succ,List.replicate_zero,List.set_cons_zero,List.set_cons_succ,Nat.reduceSub,List.length_cons,List.length_nil,Nat.reduceAdd,sizeLine_eq,Nat.reduceLeDiff,↓reduceIte,cr,cu,pw,QD,sh,ne]⟩
end mZ
namespace mZ
open PySem PySem.Spec L2 MN PG
open PyProof.Rows hiding St kindOf
theorem QE {μ:MN.Env} {s:ag} {c x:Str} {b:Bool} (h:μ[0]? = some (some (.exc c))) (hk:kn.contains c = true) (hs:c7 tab c x = some b):cS (c7 tab) kn 0 x μ s = .ok (.bl b) s:=by
 unfold cS
 rw [h]
 dsimp only
 rw [if_pos hk,hs]
theorem add_lists {e:Option ao} {s:ag} {n:Nat} {us vs:List ao} {a:MA} {r:MN.Env} (h:s[n]? = some (.lst us)) (ha:a (e :: some (.loc n) :: r) s = .ok vs s) (hl:us.length ≤ 100) (hv:vs.length ≤ 100) :
  ∃ m s',aj c! (af 1) (bx a) (e :: some (.loc n) :: r) s = .ok (.loc m) s' ∧ (∃ g,s' = s ++ g) ∧ s'[m]? = some (.lst (us ++ vs)):=by
 obtain ⟨s1,ij⟩:∃ s1,s1 = s ++ [bf.lst vs]:=⟨_,rfl⟩
 have h1:s1[n]? = some (.lst us):=by rw [ij]; exact Az h _
 have h2:s1[s.length]? = some (.lst vs):=by rw [ij]; exact fL s _
 refine ⟨s1.length,s1 ++ [.lst (us ++ vs)],?_,⟨[.lst vs,.lst (us ++ vs)],by rw [ij,List.append_assoc]; rfl⟩,fL s1 _⟩
 rw [fc (x:=.loc n) (s1:=s) rfl (dW ha (by lia)),← ij]
 show (match s1[n]?,s1[s.length]? with | some (.lst us),some (.lst ws) => if us.length + ws.length ≤ sizeLine then bW.ok (ao.loc s1.length) (s1 ++ [bf.lst (us ++ ws)]) else .bad | _,_ => .bad) = _
 rw [h1,h2]
 dsimp only
 rw [if_pos (by rw [sizeLine_eq]; lia)]
theorem Ke {μ:MN.Env} {s:ag} {m1 m2 m3:ME} {u v w:ao} (h1:m1 μ s = .ok u s) (h2:m2 μ s = .ok v s) (h3:m3 μ s = .ok w s):aa m1 (aa m2 (aa m3 ah)) μ s = .ok [u,v,w] s:=dB h1 (fN h2 h3)
theorem Hn {μ:MN.Env} {s:ag} {m1 m2 m3 m4:ME} {u v w x:ao} (h1:m1 μ s = .ok u s) (h2:m2 μ s = .ok v s) (h3:m3 μ s = .ok w s) (h4:m4 μ s = .ok x s):aa m1 (aa m2 (aa m3 (aa m4 ah))) μ s = .ok [u,v,w,x] s:=dB h1 (Ke h2 h3 h4)
noncomputable def Ho:List Str:=["ByNought","NoCount","NoInverse","NoLead","NoMeet","NoOrder","NoParts","NoPrime","NoRing","NoSums","NoTerm","NoUnknowns","NotPlain","NotWhole","NotWritten"]
noncomputable def Hq (c:Str):List ao:=Ho.map fun x => .bl (x == c)
theorem AJ {c:Str} (hk:kn.contains c = true) (h:∀ x ∈ Ho,c7 tab c x = some (x == c)) (st:ag):∃ g m,bO c st = .ok (.loc m) (st ++ g) ∧ (st ++ g)[m]? = some (.lst (Hq c)):=by
 have q:∀ {x:Str} {y:Option ao} {s:ag},x ∈ Ho → cS (c7 tab) kn 0 x [some (.exc c),y] s = .ok (.bl (x == c)) s:=fun {x y s} hx => QE rfl hk (h x hx)
 obtain ⟨s1,ij⟩:∃ s1,s1 = st ++ [bf.lst [ao.bl ("ByNought" == c),.bl ("NoCount" == c),.bl ("NoInverse" == c),.bl ("NoLead" == c)]]:=⟨_,rfl⟩
 have f1:bu 1 (bx (aa (cS (c7 tab) kn 0 "ByNought") (aa (cS (c7 tab) kn 0 "NoCount") (aa (cS (c7 tab) kn 0 "NoInverse") (aa (cS (c7 tab) kn 0 "NoLead") ah))))) [some (.exc c),none] st = .nx [some (.exc c),some (.loc st.length)] s1:=by
  rw [jT (dW (Hn (q (by decide)) (q (by decide)) (q (by decide)) (q (by decide))) (by show 4 ≤ 1000; decide)),ij]; rfl
 have a1:s1[st.length]? = some (.lst [ao.bl ("ByNought" == c),.bl ("NoCount" == c),.bl ("NoInverse" == c),.bl ("NoLead" == c)]):=by rw [ij]; exact fL st _
 obtain ⟨m2,s2,f2,⟨g2,e2⟩,a2⟩:=add_lists (e:=some (.exc c)) (r:=[]) a1 (Hn (q (x:="NoMeet") (by decide)) (q (x:="NoOrder") (by decide)) (q (x:="NoParts") (by decide)) (q (x:="NoPrime") (by decide))) (by show 4 ≤ 100; decide) (by show 4 ≤ 100; decide)
 obtain ⟨m3,s3,f3,⟨g3,e3⟩,a3⟩:=add_lists (e:=some (.exc c)) (r:=[]) a2 (Hn (q (x:="NoRing") (by decide)) (q (x:="NoSums") (by decide)) (q (x:="NoTerm") (by decide)) (q (x:="NoUnknowns") (by decide))) (by show 8 ≤ 100; decide) (by show 4 ≤ 100; decide)
 obtain ⟨m4,s4,f4,⟨g4,e4⟩,a4⟩:=add_lists (e:=some (.exc c)) (r:=[]) a3 (Ke (q (x:="NotPlain") (by decide)) (q (x:="NotWhole") (by decide)) (q (x:="NotWritten") (by decide))) (by show 12 ≤ 100; decide) (by show 3 ≤ 100; decide)
 refine ⟨[bf.lst [ao.bl ("ByNought" == c),.bl ("NoCount" == c),.bl ("NoInverse" == c),.bl ("NoLead" == c)]] ++ g2 ++ g3 ++ g4,m4,?_,?_⟩
 ·have es:st ++ ([bf.lst [ao.bl ("ByNought" == c),.bl ("NoCount" == c),.bl ("NoInverse" == c),.bl ("NoLead" == c)]] ++ g2 ++ g3 ++ g4) = s4:=by
   rw [e4,e3,e2,ij]; simp only [List.append_assoc]
  rw [es]
  show (aw _ _ [some (.exc c),none] st).fin = _
  rw [aL,f1,aX,aL,jT f2,aX]
  show (aw _ _ [some (.exc c),some (.loc m2)] s2).fin = _
  rw [aL,jT f3,aX]
  show (aO _ [some (.exc c),some (.loc m3)] s3).fin = _
  rw [bc,f4,ay]
  rfl
 ·have es:st ++ ([bf.lst [ao.bl ("ByNought" == c),.bl ("NoCount" == c),.bl ("NoInverse" == c),.bl ("NoLead" == c)]] ++ g2 ++ g3 ++ g4) = s4:=by
   rw [e4,e3,e2,ij]; simp only [List.append_assoc]
  rw [es]
  exact a4
noncomputable def AK:List Str:=["NoInverse","NotWhole","NoUnknowns","NoTerm","NoCount","NoLead","NoOrder","NotWritten","NoUnknowns","NoOrder"]
noncomputable def rG:List Int:=[2,13,11,10,1,3,5,14,11,5]
theorem AL {v:ao} {w:Int} (hf:flat v = true) (hb:HW 1 4 v = false) (h0:0 ≤ w) (h1:w < 10) (st:ag):∃ c s,PM.cQ [.int w,v] st = .err c s ∧ AK[w.toNat]? = some c:=by
 obtain ⟨μ,hμ⟩:∃ μ:MN.Env,μ = [some (.int w),some v]:=⟨_,rfl⟩
 have v0:∀ s,af 0 μ s = .ok (.int w) s:=fun s => by rw [hμ]; rfl
 have v1:∀ s,af 1 μ s = .ok v s:=fun s => by rw [hμ]; exact iS rfl (lQ hf)
 have k0:∀ (x:ao) s,mC x μ s = .ok x s:=fun _ _ => rfl
 have run:PM.cQ [.int w,v] st = (J_ μ st).fin:=by
  unfold PM.cQ
  rw [aU (np:=2) (us:=[.int w,v]) rfl,hμ]
  rfl
 clear hμ
 rw [run]
 unfold J_
 have hw:w = 0 ∨ w = 1 ∨ w = 2 ∨ w = 3 ∨ w = 4 ∨ w = 5 ∨ w = 6 ∨ w = 7 ∨ w = 8 ∨ w = 9:=by lia
 rcases hw with rfl | rfl | rfl | rfl | rfl | rfl | rfl | rfl | rfl | rfl
 ·obtain ⟨s,e⟩:=t8 (st:=st)
  exact ⟨_,s,bL (v0 st) (by rw [bZ (vs:=[.int 7,.int 14]) (s1:=st) rfl]; exact e),rfl⟩
 ·obtain ⟨s,e⟩:=Dg (st:=st)
  rw [aq (v0 st) (by decide:¬ (1:Int) = 0)]
  exact ⟨_,s,bL (v0 st) (by rw [bZ (vs:=[.int 0,.int 3,.int 2]) (s1:=st) rfl]; exact e),rfl⟩
 ·obtain ⟨g,e⟩:=AE (p:=st.length) (v:=.int 0) (r:=0) (st:=st ++ [.lst [.int 3]]) (by decide +kernel) rfl (by decide +kernel)
  have l:=dW (μ:=μ) (a:=aa (mC (.int 3)) ah) (vs:=[.int 3]) (s:=st) (s1:=st) rfl (by decide)
  rw [aq (v0 st) (by decide:¬ (2:Int) = 0),aq (v0 st) (by decide:¬ (2:Int) = 1)]
  exact ⟨_,_,bL (v0 st) (by rw [bZ (dB (k0 _ st) (fN (k0 _ st) l))]; exact e),rfl⟩
 ·obtain ⟨g,e⟩:=AF (p:=st.length) (aC:=1) (P:=[([1],1)]) (v:=.int 3) (us:=[]) (r:=2) (st:=st ++ [.lst [.tup [.tup [.int 1],.int 1],.int 3]]) (by decide +kernel) (aR _ _) (by
   intro t ht
   rw [List.mem_singleton] at ht
   subst ht
   exact ⟨rfl,by decide⟩) (by decide) (by decide) M_
  have l:=dW (μ:=μ) (a:=aa (du (aa (du (aa (mC (.int 1)) ah)) (aa (mC (.int 1)) ah))) (aa (mC (.int 3)) ah)) (vs:=[.tup [.tup [.int 1],.int 1],.int 3]) (s:=st) (s1:=st) rfl (by decide)
  rw [aq (v0 st) (by decide:¬ (3:Int) = 0),aq (v0 st) (by decide:¬ (3:Int) = 1),aq (v0 st) (by decide:¬ (3:Int) = 2)]
  exact ⟨_,_,bL (v0 st) (by rw [bZ (dB (k0 _ st) (fN (k0 _ st) l))]; exact e),rfl⟩
 ·have l:=dW (μ:=μ) (a:=aa (du (aa (du (aa (mC (.int 1)) ah)) (aa (mC (.int 1)) ah))) ah) (vs:=[.tup [.tup [.int 1],.int 1]]) (s:=st) (s1:=st) rfl (by decide)
  obtain ⟨s,e⟩:=xj (a:=st.length) (st:=st ++ [.lst [.tup [.tup [.int 1],.int 1]]])
  rw [aq (v0 st) (by decide:¬ (4:Int) = 0),aq (v0 st) (by decide:¬ (4:Int) = 1),aq (v0 st) (by decide:¬ (4:Int) = 2),aq (v0 st) (by decide:¬ (4:Int) = 3)]
  exact ⟨_,s,bL (v0 st) (by rw [bZ (dB (k0 _ st) (fN l (k0 _ _)))]; exact e),rfl⟩
 ·have l:=dW (μ:=μ) (a:=ah) (vs:=[]) (s:=st) (s1:=st) rfl (by decide)
  obtain ⟨s,e⟩:=Dh (a:=st.length) (st:=st ++ [.lst []]) (aR _ _)
  rw [aq (v0 st) (by decide:¬ (5:Int) = 0),aq (v0 st) (by decide:¬ (5:Int) = 1),aq (v0 st) (by decide:¬ (5:Int) = 2),aq (v0 st) (by decide:¬ (5:Int) = 3),aq (v0 st) (by decide:¬ (5:Int) = 4)]
  exact ⟨_,s,bL (v0 st) (by rw [bZ (fN (k0 _ st) l)]; exact e),rfl⟩
 ·have l:=dW (μ:=μ) (a:=ah) (vs:=[]) (s:=st) (s1:=st) rfl (by decide)
  obtain ⟨s,e⟩:=AH (a:=st.length) (st:=st ++ [.lst []])
  rw [aq (v0 st) (by decide:¬ (6:Int) = 0),aq (v0 st) (by decide:¬ (6:Int) = 1),aq (v0 st) (by decide:¬ (6:Int) = 2),aq (v0 st) (by decide:¬ (6:Int) = 3),aq (v0 st) (by decide:¬ (6:Int) = 4),aq (v0 st) (by decide:¬ (6:Int) = 5)]
  exact ⟨_,s,bL (v0 st) (by rw [bZ (fN (k0 _ st) l)]; exact e),rfl⟩
 ·obtain ⟨s,e⟩:=Dr st
  rw [aq (v0 st) (by decide:¬ (7:Int) = 0),aq (v0 st) (by decide:¬ (7:Int) = 1),aq (v0 st) (by decide:¬ (7:Int) = 2),aq (v0 st) (by decide:¬ (7:Int) = 3),aq (v0 st) (by decide:¬ (7:Int) = 4),aq (v0 st) (by decide:¬ (7:Int) = 5),aq (v0 st) (by decide:¬ (7:Int) = 6)]
  exact ⟨_,s,bL (v0 st) (by rw [bZ (vs:=[.int 0,.int 2,.str "x^1"]) (s1:=st) rfl]; exact e),rfl⟩
 ·obtain ⟨s,e⟩:=rE (st:=st) hf hb
  rw [aq (v0 st) (by decide:¬ (8:Int) = 0),aq (v0 st) (by decide:¬ (8:Int) = 1),aq (v0 st) (by decide:¬ (8:Int) = 2),aq (v0 st) (by decide:¬ (8:Int) = 3),aq (v0 st) (by decide:¬ (8:Int) = 4),aq (v0 st) (by decide:¬ (8:Int) = 5),aq (v0 st) (by decide:¬ (8:Int) = 6),aq (v0 st) (by decide:¬ (8:Int) = 7)]
  exact ⟨_,s,bL (v0 st) (by rw [bZ (dB (k0 _ st) (fN (v1 st) (k0 _ st)))]; exact e),rfl⟩
 ·obtain ⟨s,e⟩:=xk (u:=[.int 1]) (w:=[.int 2]) (st:=st)
  rw [aq (v0 st) (by decide:¬ (9:Int) = 0),aq (v0 st) (by decide:¬ (9:Int) = 1),aq (v0 st) (by decide:¬ (9:Int) = 2),aq (v0 st) (by decide:¬ (9:Int) = 3),aq (v0 st) (by decide:¬ (9:Int) = 4),aq (v0 st) (by decide:¬ (9:Int) = 5),aq (v0 st) (by decide:¬ (9:Int) = 6),aq (v0 st) (by decide:¬ (9:Int) = 7),aq (v0 st) (by decide:¬ (9:Int) = 8)]
  exact ⟨_,s,rD (by rw [bZ (vs:=[.str "up",.tup [.int 1],.tup [.int 2]]) (s1:=st) rfl]; exact e),rfl⟩
end mZ
namespace MN
open PySem PySem.Spec L2
open PyProof.Rows hiding St kindOf
theorem b? {N P:List Str} {sc:Scope} (a:sc.kind = .function:=by rfl) (b:sc.isCoroutine = false:=by rfl) (c:sc.isGenerator = false:=by rfl) (d:N.Nodup:=by decide +kernel) (e:N.take P.length = P:=by rfl)
  (f:∀ x ∈ P,sc.names.lookup x = some .local ∨ sc.names.lookup x = some .cell:=by decide +kernel) (g:∀ y ∈ sc.names,y.2 ≠ .free:=by decide +kernel):dD N P sc:=⟨a,b,c,d,e,f,g⟩
theorem iD {X:Cx} {N:List Str} {scope:Scope} {k:Nat} {cl:List (Str × Addr)} {a_:List Nat} (sG:closureFor scope X.env = pure cl:=by rfl) (A:gi X scope cl a_:=by repeat first | exact .nil | refine .cons (by rfl) (by rfl) (by first | exact Or.inl rfl | exact Or.inr rfl) (by first | exact Or.inl rfl | exact Or.inr rfl) ?_)
  (has:((relabel scope X.env).names.all fun p => !(p.2 == .cell || p.2 == .free) || (cl.map (·.1)).contains p.1) = true:=by rfl) (jL:(scope.names.all fun p => !(p.2 == .cell)) = true:=by rfl) (kind:scope.kind = .function:=by rfl)
  (names:(scope.names.all fun p => !(p.2 == .local) || scope.names.lookup p.1 == some .local) = true:=by rfl) (len:N.length = k + a_.length:=by rfl) (hN:N.drop k = cl.map (·.1):=by rfl):qz X N scope cl k a_:=Jt sG A has jL kind names len hN
section
variable {P:Program} {w:World} {K:PySem.W.Frag} {mg:Str → Option Value} {base:Heap}
noncomputable def OU (K:PySem.W.Frag) (mg:Str → Option Value):Prop:=∀ x f,PySem.W.nsIn K mainGlobals x = some (some (.ref f)) → mg x = some (.ref f)
theorem fY {x:Str}:∀ {l:List Str},CW mg l → x ∈ l → mg x = none
 | y :: l,h,hx => by
  rcases List.mem_cons.mp hx with e | e
  ·rw [e]; exact h.1
  ·exact fY h.2 e
theorem Hr {x:Str}:∀ {l:List Str},CY K mg l → x ∈ l → zh K mg x
 | y :: l,h,hx => by
  rcases List.mem_cons.mp hx with e | e
  ·rw [e]; exact h.1
  ·exact Hr h.2 e
theorem FnAt.fi {x:Str} {st:Stmt} {N ps:List Str} {k:Nat} {body:MB} (F:b9 K x st) (hm:OU K mg) (S:dD N ps (aN st))
  (h:∀ (f:Addr) (dc:Value) (A:Around) (outer:List PySem.Env) (s:Shared) (H:Hp) (E:XK),N.Nodup → dJ k (A.deeper (envOfC x (aN st) s.heap.objs.size f dc)) →
   gG (fE (i9 P w) P w K mg base N x (aN st) f dc A outer s H E) (cK st) (tS (fE (i9 P w) P w K mg base N x (aN st) f dc A outer s H E) E body))
  (hb:∀ (kV doc pm:Value) (an:Option Addr) (dc ct:Value) (us:List Value),us.length = ps.length → bindArgs (PySem.W.fnOf x x (d3 st) (cK st) (aN st) .none kV doc pm an dc ct) ⟨us,[]⟩ = pure (ps.zip us):=by
   first | exact fun _ _ _ _ _ _ => Gr fun _ => rfl | exact fun _ _ _ _ _ _ => Jy fun _ _ => rfl | exact fun _ _ _ _ _ _ => Mz fun _ _ _ => rfl | exact fun _ _ _ _ _ _ => len0 rfl):FnAt P w K mg base x (k + 1) (dM ps.length N.length body):=by
 obtain ⟨f,fd,F,a⟩:=F
 exact FnAt.mk F (hm _ _ a) S hb fun dc A outer s H E => h f dc A outer s H E S.nd
end
end MN
namespace mZ
open PySem PySem.Spec L2 MN PG
open PyProof.Rows hiding St kindOf
noncomputable def jU (d:Int):List ao:=(List.range 15).map fun k:Nat => ao.bl ((k:Int) == d)
theorem Ds:∀ c ∈ ("NoRing":Str) :: AK,kn.contains c = true ∧ c7 tab c "AlgebraError" = some true ∧ ∀ x ∈ Ho,c7 tab c x = some (x == c):=by decide +kernel
theorem mk_eq {c:Str} {d:Int} (h:Ho.map (fun x => x == c) = (List.range 15).map fun k:Nat => ((k:Int) == d)):Hq c = jU d:=by
 have:(Ho.map (fun x => x == c)).map ao.bl = ((List.range 15).map fun k:Nat => ((k:Int) == d)).map ao.bl:=by rw [h]
 rw [List.map_map,List.map_map] at this
 exact this
theorem AM (n:Nat) (bs:List Bool):e! n (bs.map ao.bl) = true:=oO fun u hu => by
 obtain ⟨i,_,rfl⟩:=List.mem_map.mp hu
 cases n <;> rfl
noncomputable abbrev Dt:MB:=cg (pC (bg (af 3))) (aw (bu 5 (ai PM.c_ (pC (aa (ai PM.a! (aa (af 0) (aa (mC (.int 2)) ah))) ah)))) (bh (ai PM.bH (pC (aa (aj bB (ai PM.a! (aa (af 0) (aa (mC (.int 0)) ah))) (mC (.int 13))) (aa (af 5) (aa (ai PM.a! (aa (af 0) (aa (mC (.int 3)) ah))) ah))))))) (aw (bu 6 (pC (bx (aa (mC (.int 0)) (aa (mC (.int 5)) (aa (v_ (mC (.int 1))) (aa (mC (.bl true)) (aa (mC (.bl false)) (aa (mC .cB) (aa (mC (.str "1")) (aa (mC (.int 99)) ah))))))))))) (bh (ai PM.cQ (pC (aa (af 1) (aa (aj gz (af 6) (aj bB (ai PM.a! (aa (af 0) (aa (mC (.int 2)) ah))) (mC (.int 8)))) ah))))))
noncomputable def uc:List ao:=[.int 0,.int 5,.int (-1),.bl true,.bl false,.cB,.str "1",.int 99]
theorem Hs:∀ v ∈ uc,flat v = true ∧ HW 1 4 v = false:=by
 intro v hv
 simp only [uc,List.mem_cons,List.mem_nil_iff,or_false] at hv
 rcases hv with rfl | rfl | rfl | rfl | rfl | rfl | rfl | rfl <;> exact ⟨rfl,by decide +kernel⟩
theorem Du:∀ k:Fin 10,Ho.map (fun x => x == (AK[k.val]?).getD "") = (List.range 15).map fun j:Nat => ((j:Int) == (rG[k.val]?).getD 0):=by decide +kernel
theorem Ht {k:Nat} {c:Str} {d:Int} (hk:k < 10) (hc:AK[k]? = some c) (hd:rG[k]? = some d):Hq c = jU d:=mk_eq (by
 have:=Du ⟨k,hk⟩
 dsimp only at this
 rw [hc,hd] at this
 exact this)
section
variable {w d:Int} {b:Bool} {x0:Option ao} {m:Nat} {c:Str} {s:ag}
theorem Dv {x5 x6 x7:Option ao} (hm:s[m]? = some (.lst (Hq c))) (hd:Hq c = jU d):∃ s',jv [x0,some (.int w),some (.int d),some (.bl b),some (.loc m),x5,x6,x7] s = .rt (.bl true) s':=by
 have v4:af 4 [x0,some (.int w),some (.int d),some (.bl b),some (.loc m),x5,x6,x7] s = .ok (.loc m) s:=rfl
 have r:∀ s,CC [.int 15] s = .ok (((List.range 15).map fun k:Nat => (k:Int)).map ao.int,fun _ => True) s:=fun _ => rfl
 have sU:gO 1 [2] [x0,some (.int w),some (.int d),some (.bl b),some (.loc m),x5,x6,x7] = [none,some (.int d)]:=rfl
 have cp:=m8 (g:=fun _ => True) (a:=aB 0) (e:=aj cb (af 0) (af 1)) (st:=s) trivial (fun τ => ∃ y,τ = [y,some (.int d)]) (fun i => .bl (i == d)) ((List.range 15).map fun k:Nat => (k:Int)) [none,some (.int d)] [] ⟨_,rfl⟩ (by
  rintro i _ τ ⟨y,rfl⟩
  exact ⟨[some (.int i),some (.int d)],rfl,⟨_,rfl⟩,rfl⟩)
 rw [List.nil_append] at cp
 have e0:((List.range 15).map fun k:Nat => (k:Int)).map (fun i:Int => ao.bl (i == d)) = jU d:=by rw [List.map_map]; rfl
 rw [e0] at cp
 have comp:b! 1 [2] (gg (aa (mC (.int 15)) ah)) (aB 0) bD (aj cb (af 0) (af 1)) [x0,some (.int w),some (.int d),some (.bl b),some (.loc m),x5,x6,x7] s = .ok (.loc s.length) (s ++ [.lst (jU d)]):=by
  rw [d8,lK,pV (v:=.int 15) (s1:=s) rfl,au,r,au,fK,if_pos (by decide),sU,cp,au,iy]
 have i1:ak (s ++ [.lst (jU d)]) m = some (jU d):=by rw [← hd]; exact aM (qY hm) _
 have pd:e! 14 (jU d) = true:=by
  unfold jU
  rw [show (List.range 15).map (fun k:Nat => ao.bl ((k:Int) == d)) = ((List.range 15).map fun k:Nat => ((k:Int) == d)).map ao.bl from rfl]
  exact AM 14 _
 have q:=zK i1 (aR s (jU d)) pd
 refine ⟨s ++ [.lst (jU d)],?_⟩
 unfold jv
 rw [bc,fc v4 comp,q]
 rfl
theorem vy {x4 x5 x6 x7:Option ao} (hc:c ∈ ("NoRing":Str) :: AK) (hd:Hq c = jU d) (h0:C4 [x0] = true) (h5:C4 [x5] = true) (h6:C4 [x6] = true) {B:MB} {μ:MN.Env} {st:ag} (hB:B μ st = .er c [x0,some (.int w),some (.int d),some (.bl b),x4,x5,x6,x7] s) :
  ∃ s',(aw (mG (pE (KY kn) B (tP (c7 tab) "AlgebraError" 7 (bu 4 (gq 7 bO)) y?))) jv) μ st = .rt (.bl true) s':=by
 obtain ⟨hk,hA,hs⟩:=Ds c hc
 obtain ⟨g,m,em,lm⟩:=AJ hk hs s
 obtain ⟨s',el⟩:=Dv (w:=w) (b:=b) (x0:=x0) (x5:=x5) (x6:=x6) (x7:=none) lm hd
 refine ⟨s',?_⟩
 have hh:tP (c7 tab) "AlgebraError" 7 (bu 4 (gq 7 bO)) y? c [x0,some (.int w),some (.int d),some (.bl b),x4,x5,x6,x7] s = .nx [x0,some (.int w),some (.int d),some (.bl b),some (.loc m),x5,x6,none] (s ++ g):=by
  unfold tP
  rw [hA]
  dsimp only
  have:gq 7 bO [x0,some (.int w),some (.int d),some (.bl b),x4,x5,x6,some (.exc c)] s = .ok (.loc m) (s ++ g):=by
   show JA (bO c s) = _
   rw [em]; rfl
  have f:bu 4 (gq 7 bO) [x0,some (.int w),some (.int d),some (.bl b),x4,x5,x6,some (.exc c)] s = .nx [x0,some (.int w),some (.int d),some (.bl b),some (.loc m),x5,x6,some (.exc c)] (s ++ g):=by
   rw [jT this]; rfl
  show MN.letGo 7 (bu 4 (gq 7 bO) [x0,some (.int w),some (.int d),some (.bl b),x4,x5,x6,some (.exc c)] s) = _
  rw [f]
  unfold MN.letGo
  dsimp only
  have z:C4 [x0,some (.int w),some (.int d),some (.bl b),some (.loc m),x5,x6,none] = true:=by
   unfold C4 at h0 h5 h6 ⊢
   simp only [List.all_cons,List.all_nil,Bool.and_true] at h0 h5 h6 ⊢
   rw [h0,h5,h6]
   rfl
  show (if C4 [x0,some (.int w),some (.int d),some (.bl b),some (.loc m),x5,x6,none] = true then _ else _) = _
  rw [if_pos z]
  rfl
 have tr:mG (pE (KY kn) B (tP (c7 tab) "AlgebraError" 7 (bu 4 (gq 7 bO)) y?)) μ st = .nx [x0,some (.int w),some (.int d),some (.bl b),some (.loc m),x5,x6,none] (s ++ g):=by
  rw [zG,GI,hB,CH (by exact hk),hh]
  rfl
 rw [aL,tr,aX]
 exact el
theorem AN:∀ (c:bf) (ns:List Int),ns.length ≤ 63 → ak [c] 0 = some (ns.map ao.int) → ∃ av,vj [.loc 0] [c] = .ok (.bl true) av:=by
 intro c ns hl hi
 obtain ⟨st,xN⟩:∃ st,[c] = st:=⟨_,rfl⟩
 rw [xN] at hi ⊢
 obtain ⟨o0,e0,_⟩:=ig (k:=0) hi (by decide) (by decide)
 obtain ⟨w,hw⟩:∃ w,w = o0.fmod 10:=⟨_,rfl⟩
 have wr:=g6 (m:=10) (by decide) o0
 rw [← hw] at wr
 have dl:(([2,13,11,10,1,3,5,14,11,5]:List Int).map ao.int).length = 10:=rfl
 obtain ⟨d,ed⟩:∃ d,rG[w.toNat]? = some d:=⟨rG[w.toNat]'(by show w.toNat < 10; lia),List.getElem?_eq_getElem _⟩
 have ix:gz (.loc st.length) (.int w) (st ++ [.lst (rG.map ao.int)]) = .ok (.int d) (st ++ [.lst (rG.map ao.int)]):=by
  refine pP (aR _ _) ?_
  rw [show w = ((w.toNat:Nat):Int) by lia]
  exact L2.lJ (by rw [List.getElem?_map,ed]; rfl)
 obtain ⟨s1,ij⟩:∃ s1,s1 = st ++ [bf.lst (rG.map ao.int)]:=⟨_,rfl⟩
 rw [← ij] at ix
 have OV:ak s1 0 = some (ns.map ao.int):=by rw [ij]; exact aM hi _
 have ll:bx (aa (mC (.int 2)) (aa (mC (.int 13)) (aa (mC (.int 11)) (aa (mC (.int 10)) (aa (mC (.int 1)) (aa (mC (.int 3)) (aa (mC (.int 5)) (aa (mC (.int 14)) (aa (mC (.int 11)) (aa (mC (.int 5)) ah)))))))))) [some (.loc 0),some (.int w),none,none,none,none,none,none] st = .ok (.loc st.length) s1:=by
  rw [ij]; exact dW (vs:=rG.map ao.int) (s1:=st) rfl (by decide)
 obtain ⟨o1,e1,_⟩:=ig (k:=1) OV (by decide) (by decide)
 obtain ⟨s2,fP⟩:∃ s2,s2 = s1 ++ [bf.lst []]:=⟨_,rfl⟩
 have Ei:ak s2 0 = some (ns.map ao.int):=by rw [fP]; exact aM OV _
 obtain ⟨o2,e2,_⟩:=ig (k:=2) Ei (by decide) (by decide)
 have Kf:∀ s,bB (.int o0) (.int 10) s = .ok (.int w) s:=fun s => by rw [ck (by decide),hw]
 have OW:∀ s,bB (.int o1) (.int 3) s = .ok (.int (o1.fmod 3)) s:=fun s => by rw [ck (by decide)]
 have head:∀ (d':Int) (b:Bool),(o1.fmod 3 == 1) = b → d' = (if b then 8 else d) → ∀ r,gZ [some (.loc 0),some (.int w),some (.int d'),some (.bl b),some (.loc s1.length),none,none,none] s2 = r → vj [.loc 0] st = r.fin:=fun d' b q HB r er => by
  rw [← er]
  generalize hT:gZ = T
  unfold vj rp
  generalize bx (aa (mC (.int 2)) (aa (mC (.int 13)) (aa (mC (.int 11)) (aa (mC (.int 10)) (aa (mC (.int 1)) (aa (mC (.int 3)) (aa (mC (.int 5)) (aa (mC (.int 14)) (aa (mC (.int 11)) (aa (mC (.int 5)) ah)))))))))) = L at ll ⊢
  cases b with
  | true =>
   have hd2:d' = 8:=HB
   subst hd2
   simp only [m7,m6,m5,aU,au,ay,aX,aS,br,aQ,aT,aK,kD,cU,eI,cf,a8,aZ,a9,aJ,gS,aY,aL,bA,cW,c8,bz,qV,ft,bP,List.map_cons,List.map_nil,List.cons_append,List.nil_append,List.replicate_succ,List.replicate_zero,List.set_cons_zero,List.set_cons_succ,Nat.reduceSub,List.length_cons,List.length_nil,Nat.reduceAdd,sizeLine_eq,Nat.reduceLeDiff,↓reduceIte,hT,e0,Kf,ll,ix,e1,OW,q,← fP]
  | false =>
   have hd2:d' = d:=HB
   subst hd2
   simp only [m7,m6,m5,aU,au,ay,aX,aS,br,aQ,aT,aK,kD,cV,eI,cf,a8,aZ,a9,aJ,gS,aY,aL,cN,bA,cW,c8,bz,qV,ft,bP,List.map_cons,List.map_nil,List.cons_append,List.nil_append,List.replicate_succ,List.replicate_zero,List.set_cons_zero,List.set_cons_succ,Nat.reduceSub,List.length_cons,List.length_nil,Nat.reduceAdd,sizeLine_eq,Nat.reduceLeDiff,↓reduceIte,hT,e0,Kf,ll,ix,e1,OW,q,← fP]
 cases q:(o1.fmod 3 == 1) with
 | true =>
  obtain ⟨v,g,en,hn⟩:=t7 o2 s2
  have K!:ak (s2 ++ g) 0 = some (ns.map ao.int):=aM Ei g
  obtain ⟨K?,QF,_⟩:=ig (k:=0) K! (by decide) (by decide)
  obtain ⟨o3,e3,_⟩:=ig (k:=3) K! (by decide) (by decide)
  have OX:=g6 (m:=13) (by decide) K?
  have M!:∀ s,bB (.int K?) (.int 13) s = .ok (.int (K?.fmod 13)) s:=fun s => by rw [ck (by decide)]
  obtain ⟨s',ew⟩:=t4 (way:=K?.fmod 13) (c:=o3) (st:=s2 ++ g) hn OX.1 OX.2
  have vx:=(hn st).1
  have v5:∀ x6 x7 s,af 5 [some (.loc 0),some (.int w),some (.int 8),some (.bl true),some (.loc s1.length),some v,x6,x7] s = .ok v s:=fun _ _ _ => iS rfl vx
  obtain ⟨sf,ef⟩:=vy (w:=w) (d:=8) (b:=true) (x0:=some (.loc 0)) (c:="NoRing") (s:=s') (x4:=some (.loc s1.length)) (x5:=some v) (x6:=none) (x7:=none) (by simp) (mk_eq (by decide +kernel)) rfl (by unfold C4; simp only [List.all_cons,List.all_nil,vx]; rfl) rfl (μ:=[some (.loc 0),some (.int w),some (.int 8),some (.bl true),some (.loc s1.length),none,none,none]) (st:=s2)
   (B:=Dt)
   (by simp only [Dt,au,ay,fm,aX,aS,br,aQ,aT,aK,cU,eI,cf,a8,aZ,a9,aJ,aY,aL,bJ,bA,cW,zE,zF,qV,ft,bP,List.set_cons_zero,List.set_cons_succ,e2,en,QF,M!,v5,e3,ew])
  refine ⟨sf,?_⟩
  rw [head 8 true q rfl (.rt (.bl true) sf) (by unfold gZ; exact ef)]
  rfl
 | false =>
  obtain ⟨s3,iC⟩:∃ s3,s3 = s2 ++ [bf.lst uc]:=⟨_,rfl⟩
  have K!:ak s3 0 = some (ns.map ao.int):=by rw [iC]; exact aM Ei _
  have lc:bx (aa (mC (.int 0)) (aa (mC (.int 5)) (aa (v_ (mC (.int 1))) (aa (mC (.bl true)) (aa (mC (.bl false)) (aa (mC .cB) (aa (mC (.str "1")) (aa (mC (.int 99)) ah)))))))) [some (.loc 0),some (.int w),some (.int d),some (.bl false),some (.loc s1.length),none,none,none] s2 = .ok (.loc s2.length) s3:=by
   rw [iC]; exact dW (vs:=uc) (s1:=s2) rfl (by decide)
  obtain ⟨Dw,Mx,_⟩:=ig (k:=2) K! (by decide) (by decide)
  have w8:=g6 (m:=8) (by decide) Dw
  have QG:∀ s,bB (.int Dw) (.int 8) s = .ok (.int (Dw.fmod 8)) s:=fun s => by rw [ck (by decide)]
  obtain ⟨v,ev⟩:∃ v,uc[(Dw.fmod 8).toNat]? = some v:=⟨uc[(Dw.fmod 8).toNat]'(by show (Dw.fmod 8).toNat < 8; lia),List.getElem?_eq_getElem _⟩
  have hv:v ∈ uc:=List.mem_of_getElem? ev
  obtain ⟨hf,hb⟩:=Hs v hv
  have QH:gz (.loc s2.length) (.int (Dw.fmod 8)) s3 = .ok v s3:=by
   refine pP (by rw [iC]; exact aR _ _) ?_
   rw [show Dw.fmod 8 = (((Dw.fmod 8).toNat:Nat):Int) by lia]
   exact L2.lJ ev
  obtain ⟨c,s',ea,hc⟩:=AL hf hb wr.1 wr.2 s3
  have nN:Hq c = jU d:=Ht (by lia) hc ed
  obtain ⟨sf,ef⟩:=vy (w:=w) (d:=d) (b:=false) (x0:=some (.loc 0)) (c:=c) (s:=s') (x4:=some (.loc s1.length)) (x5:=none) (x6:=some (.loc s2.length)) (x7:=none) (List.mem_cons_of_mem _ (List.mem_of_getElem? hc)) nN rfl rfl rfl (μ:=[some (.loc 0),some (.int w),some (.int d),some (.bl false),some (.loc s1.length),none,none,none]) (st:=s2)
   (B:=Dt)
   (by
    unfold Dt
    generalize bx (aa (mC (.int 0)) (aa (mC (.int 5)) (aa (v_ (mC (.int 1))) (aa (mC (.bl true)) (aa (mC (.bl false)) (aa (mC .cB) (aa (mC (.str "1")) (aa (mC (.int 99)) ah)))))))) = L at lc ⊢
    simp only [au,ay,fm,aX,aS,br,aQ,aT,aK,cV,eI,cf,a8,aZ,a9,aJ,aY,aL,bJ,bA,cW,zE,zF,bz,qV,ft,bP,List.set_cons_zero,List.set_cons_succ,lc,Mx,QG,QH,ea])
  refine ⟨sf,?_⟩
  rw [head d false q rfl (.rt (.bl true) sf) (by unfold gZ; exact ef)]
  rfl
end
end mZ
namespace mZ
open PySem PySem.Spec L2 MN
open PyProof.Rows hiding St
noncomputable def top (i:Nat):Stmt:=PySem.Challenge.pw_polyring_k12_refusals_apart.main.body.getD i (.Pass ⟨0,0,0,0⟩)
structure Txt (P:Program) (w:World) (K:PySem.W.Frag) (mg:Str → Option Value) (base:Heap):Prop where
 gl:OU K mg
 b:CW mg ["abs","all","bool","enumerate","int","isinstance","len","range","sorted","str","tuple","zip"]
 c:CY K mg ["AlgebraError","NoRing","NoPrime","NoInverse","NotWhole","NoUnknowns","NoTerm","NoCount","NoLead","NoOrder","NotWritten","ByNought","NoMeet","NoParts","NotPlain","NoSums"]
 rH:Glob K mg "MOST_RING" (.int 997)
 nk:Glob K mg "FIRST_PRIMES" PM.dG
 kX:Glob K mg "MOST_UNKNOWNS" (.int 4)
 g9:Glob K mg "MOST_MADE_EXPONENT" (.int 99)
 AO:Glob K mg "ORDERS" PM.Ab
 xr:Glob K mg "LETTERS" PM.gu
 Dx:Glob K mg "SIGNS" PM.mY
 xt:Glob K mg "FIGURES" (.str "0123456789")
 fZ:Glob K mg "MOST_EXPONENT_FIGURES" (.int 2)
 sub:dR K mg tab
 qx:nV K mg mZ.kn
theorem Dy {X:Cx} {E:XK} {e:Expr} {m:ME} {i:Nat} {x:Str} {pos pos':Pos} (hN:X.N.Nodup) (he:PE X e (tE X E m)) (hi:X.N[i]? = some x:=by rfl) (hx:Loc X.env.scope x:=by first | exact Or.inl rfl | exact Or.inr rfl) (hs:swapsWith e (some (.Name x pos')) pos.line X.env = pure false:=by rfl) (hf:X.fn x = true ∨ X.env.scope.names.lookup x = some .local:=by first | exact .inl rfl | exact .inr rfl | assumption):PS X (.Assign [.Name x pos'] e pos) (tS X E (bu i m)):=F? i hN he hi hx hs hf
section
variable {P:Program} {w:World} {K:PySem.W.Frag} {mg:Str → Option Value} {base:Heap} (T:Txt P w K mg base)
theorem iE:dD ["_law_e","_law_marks_here"] ["_law_e"] (aN (top 83)):=b?
theorem nq:dD ["_law_script","_law_which","_law_due","_law_bad","_law_marks_here","_law_thing","_law_counts","_law_e"] ["_law_script"] (aN (top 87)):=b?
seal L2.PE L2.PT L2.PA L2.PS L2.gG L2.PG L2.r? L2.PI L2.vT L2.sM L2.gC L2.PH
set_option hygiene false
local macro_rules|`(tactic|trivial)=>`(tactic|repeat' first|((with_reducible show PA _ (_::_) _);refine Cb ?_ ?_)|with_reducible exact F7|((with_reducible show PE _ (.Name ..) _);first|exact FT _|exact eO (by rfl) T.rH|exact eO (by rfl) T.nk|exact eO (by rfl) T.kX|exact eO (by rfl) T.g9|exact eO (by rfl) T.AO|exact eO (by rfl) T.xr|exact eO (by rfl) T.Dx|exact eO (by rfl) T.xt|exact eO (by rfl) T.fZ)|((with_reducible show PE _ (.Constant ..) _);first|exact FU|exact Jk|exact FV|exact FW)|((with_reducible show PE _ _ (tG _ _ _ (ai jP _)));refine mr (wb hr.hd) (by rfl) (fY T.b (by decide +kernel)) PyProof.Rows.boot_all ?_)|((with_reducible show PE _ _ (tG _ _ _ (ai sP _)));refine mr v? (by rfl) (fY T.b (by decide +kernel)) PyProof.Rows.boot_abs ?_)|((with_reducible show PE _ _ (tG _ _ _ (ai dC _)));refine mr v! (by rfl) (fY T.b (by decide +kernel)) PySem.boot_len ?_)|((with_reducible show PE _ _ (tG _ _ _ (ai Ag _)));refine jO w4 (by rfl) (fY T.b (by decide +kernel)) PyProof.Rows.boot_str ?_)|((with_reducible show PE _ _ (tG _ _ _ (ai tN _)));refine jO w9 (by rfl) (fY T.b (by decide +kernel)) PyProof.Rows.Boot.«int» ?_)|((with_reducible show PE _ _ (tG _ _ _ (ai sQ _)));refine jO wa (by rfl) (fY T.b (by decide +kernel)) PyProof.Rows.boot_tuple ?_)|((with_reducible show PE _ _ (tG _ _ _ (ai _ _)));refine Ju (by assumption) hr (by decide) (by rfl) (by first|exact yy|exact Jr|exact Jz) ?_)|((with_reducible show PE _ _ (tG _ _ _ (aj gz _ _)));refine Gp ?_ ?_)|((with_reducible show PE _ _ (tG _ _ _ (aj je _ _)));refine Cs hr.units ?_ ?_)|((with_reducible show PE _ _ (tG _ _ _ (mq _ _)));refine F0 ?_ ?_)|((with_reducible show PE _ _ (tG _ _ _ (KR _ _)));refine Jl ?_ ?_)|((with_reducible show PE _ _ (tG _ _ _ (v9 _ _ _)));refine Jn ?_ ?_ ?_)|((with_reducible show PE _ _ (tG _ _ _ (du _)));refine F8 ?_)|((with_reducible show PE _ _ (tG _ _ _ (bx _)));refine F9 ?_)|((with_reducible show PE _ _ (tG _ _ _ (HR _ _ _)));refine Jx ?_ ?_ ?_)|((with_reducible show PE _ _ (tG _ _ _ (fu _ _)));refine wQ ?_ ?_)|((with_reducible show PE _ _ (tG _ _ _ (mH)));refine zj)|((with_reducible show PE _ _ (tG _ _ _ (gr _ _)));refine wY ?_ ?_)|((with_reducible show PE _ _ (tG _ _ _ (eh _ _)));refine wZ ?_ ?_)|((with_reducible show PE _ _ (tG _ _ _ (gA _ _)));refine Ah ?_ ?_)|((with_reducible show PE _ _ (tG _ _ _ (fV _ _ _)));refine G' ?_ ?_ ?_)|((with_reducible show PE _ _ (tG _ _ _ (e? _ _ _)));refine tO ?_ ?_ ?_)|((with_reducible show PE _ _ (tG _ _ _ (C2 _ _ _)));refine Hc ?_ ?_)|((with_reducible show PE _ _ (tG _ _ _ (aj C0 _ _)));refine D! J4 ?_ ?_)|((with_reducible show PE _ (.BinOp ..) _);first|refine G! ?_ ?_|refine G_ ?_ ?_|refine G7 ?_ ?_|refine G8 ?_ ?_|refine G9 ?_ ?_)|((with_reducible show PE _ (.Compare ..) _);first|refine J1 hr.units ?_ ?_|refine J2 hr.units ?_ ?_|refine iN yL ?_ ?_|refine iN yM ?_ ?_|refine iN yS ?_ ?_|refine iN oD ?_ ?_|refine iN Ha ?_ ?_)|((with_reducible show PE _ (.UnaryOp ..) _);first|refine F' ?_|refine F1 ?_)|((with_reducible show PE _ (.Call (.Attribute ..) ..) _);first|refine wy ?_ ?_|refine zl hr.units ?_ ?_ ?_)|((with_reducible show PE _ _ (tG _ _ _ (xQ _ _)));first|refine pB yV (by rfl) (fY T.b (by decide +kernel)) (by rfl) (fY T.b (by decide +kernel)) PyProof.Rows.boot_int ?_|refine pB wc (by rfl) (fY T.b (by decide +kernel)) (by rfl) (fY T.b (by decide +kernel)) PyProof.Rows.boot_bool ?_|refine pB yW (by rfl) (fY T.b (by decide +kernel)) (by rfl) (fY T.b (by decide +kernel)) PyProof.Rows.boot_str ?_|refine pB sS (by rfl) (fY T.b (by decide +kernel)) (by rfl) (fY T.b (by decide +kernel)) PyProof.Rows.boot_tuple ?_)|((with_reducible show PE _ _ (tG _ _ _ (cS _ _ _ _)));refine CV _ T.sub T.qx (Hr T.c (by decide +kernel)) (by rfl) (fY T.b (by decide +kernel)) (by rfl))|((with_reducible show gG _ [_] _);refine yG ?_)|((with_reducible show gG _ (_::_) _);refine uM ?_ ?_)|with_reducible exact F_|((with_reducible show PS _ (.Assign [.Name ..] ..) _);refine Dy (by assumption) ?_)|((with_reducible show PS _ (.Assign [.Subscript ..] ..) _);first|refine Cu hr.units ?_ ?_ ?_|refine Cz ?_ ?_ ?_)|((with_reducible show PS _ (.Return ..) _);refine F! ?_)|((with_reducible show PS _ (.If ..) _);refine Jo ?_ ?_ ?_)|((with_reducible show PS _ (.Expr ..) _);refine Cd ?_)|((with_reducible show PS _ (.While ..) _);refine y6 qL ?_ ?_)|((with_reducible show PS _ (.For ..) _);refine Gg qL rfl ?_ ?_ ?_)|((with_reducible show PS _ (.Raise ..) _);refine wq s_ rfl (Hr T.c (by decide +kernel)) (by rfl) ?_)|((with_reducible show PI _ _ _ (tG _ _ _ (dg _)));refine Ge ?_)|((with_reducible show PI _ _ _ (tG _ _ _ (mV _)));refine C1 ?_)|((with_reducible show PI _ _ (.Call ..) _);first|refine wd (by rfl) (fY T.b (by decide +kernel)) ?_|refine we (by rfl) (fY T.b (by decide +kernel)) ?_|refine Gf _ _ (by rfl) (fY T.b (by decide +kernel)) ?_|refine Am (by rfl) (fY T.b (by decide +kernel)) ?_)|((with_reducible show PG _ (.Name ..) _);exact Co _ (by assumption))|((with_reducible show PG _ (.Tuple ..) _);refine Gb rfl ?_)|((with_reducible show r? _ (_::_) _);refine yX ?_ ?_)|with_reducible exact Cp|((with_reducible show vT _ [] _);exact Cq)|((with_reducible show vT _ [_] _);refine Cr ?_)|((with_reducible show PT _ (.Compare ..) _);first|refine JZ hr.units ?_ ?_|refine J0 hr.units ?_ ?_|refine JX ?_ ?_|refine JY ?_ ?_|refine jN yS ?_ ?_|refine jN oD ?_ ?_)|((with_reducible show PT _ (.UnaryOp ..) _);refine F5 ?_)|((with_reducible show PT _ (.BoolOp ..) _);refine Mt ?_)|((with_reducible show PT _ _ (tG _ _ _ (bg _)));refine FX ?_)|refine Cy ?_|exact Cw|refine Jm ?_ ?_|refine F3 ?_|refine F4 ?_ ?_|refine Ca ?_|refine FZ ?_|((with_reducible show gG _ _ _);first|refine yG ?_|refine uM ?_ ?_))
include T
theorem rK (F:b9 K "is_whole" (top 20)):FnAt P w K mg base "is_whole" 1 PM.cR :=
 FnAt.fi F T.gl (b? (N:=["thing"]) (P:=["thing"])) (fun _ _ _ _ s _ _ nd hr => by
 trivial)
variable (gv:FnAt P w K mg base "is_whole" 1 PM.cR)
theorem iV (F:b9 K "is_prime_within" (top 21)):FnAt P w K mg base "is_prime_within" 1 PM.bE :=
 FnAt.fi F T.gl (b? (N:=["number"]) (P:=["number"])) (fun _ _ _ _ s _ _ nd hr => by
 have:(["prime","number"]:List Str).Nodup:=by decide +kernel
 trivial
 ·refine fk (N:=["prime","number"]) (k:=1) rfl rfl (iD (cl:=[("number",s.heap.objs.size + 1)])) ?_ (fun _ _ _ _ => ?_) (fun _ _ _ _ => ?_) (fun _ _ _ _ => ?_)<;>trivial)
variable (jw:FnAt P w K mg base "is_prime_within" 1 PM.bE)
theorem kY (F:b9 K "rest_in_ring" (top 24)):FnAt P w K mg base "rest_in_ring" 1 PM.bj :=
 FnAt.fi F T.gl (b? (N:=["ring","number"]) (P:=["ring","number"])) (fun _ _ _ _ s _ _ nd hr => by
 trivial)
variable (g_:FnAt P w K mg base "rest_in_ring" 1 PM.bj)
theorem jV (F:b9 K "whole_inverse" (top 29)):FnAt P w K mg base "whole_inverse" 1 PM.fH :=
 FnAt.fi F T.gl (b? (N:=["number"]) (P:=["number"])) (fun _ _ _ _ s _ _ nd hr => by
 trivial)
variable (kZ:FnAt P w K mg base "whole_inverse" 1 PM.fH)
theorem nZ (F:b9 K "whole_over" (top 31)):FnAt P w K mg base "whole_over" 1 PM.d_ :=
 FnAt.fi F T.gl (b? (N:=["one","other"]) (P:=["one","other"])) (fun _ _ _ _ s _ _ nd hr => by
 trivial
 ·exact fM)
variable (pX:FnAt P w K mg base "whole_over" 1 PM.d_)
theorem xu (F:b9 K "add_to" (top 41)):FnAt P w K mg base "add_to" 1 PM.gY :=
 FnAt.fi F T.gl (b? (N:=["totals","exponents","number"]) (P:=["totals","exponents","number"])) (fun _ _ _ _ s _ _ nd hr => by
 trivial)
variable (AQ:FnAt P w K mg base "add_to" 1 PM.gY)
theorem rL (F:b9 K "is_order" (top 61)):FnAt P w K mg base "is_order" 1 PM.dH :=
 FnAt.fi F T.gl (b? (N:=["thing"]) (P:=["thing"])) (fun _ _ _ _ s _ _ nd hr => by
 trivial)
variable (ud:FnAt P w K mg base "is_order" 1 PM.dH)
theorem pZ (F:b9 K "sign_text" (top 72)):FnAt P w K mg base "sign_text" 1 PM.eT :=
 FnAt.fi F T.gl (b? (N:=["is_first","number"]) (P:=["is_first","number"])) (fun _ _ _ _ s _ _ nd hr => by
 trivial)
variable (rN:FnAt P w K mg base "sign_text" 1 PM.eT)
theorem n0 (F:b9 K "power_text" (top 74)):FnAt P w K mg base "power_text" 1 PM.dw :=
 FnAt.fi F T.gl (b? (N:=["letter","exponent"]) (P:=["letter","exponent"])) (fun _ _ _ _ s _ _ nd hr => by
 trivial)
variable (p0:FnAt P w K mg base "power_text" 1 PM.dw)
theorem nr (F:b9 K "are_figures" (top 78)):FnAt P w K mg base "are_figures" 1 PM.cG :=
 FnAt.fi F T.gl (b? (N:=["text"]) (P:=["text"])) (fun _ _ _ _ s _ _ nd hr => by
 have:(["sign"]:List Str).Nodup:=by decide +kernel
 trivial
 ·refine fk (N:=["sign"]) (k:=1) rfl rfl (iD (cl:=[])) ?_ (fun _ _ _ _ => ?_) (fun _ _ _ _ => ?_) (fun _ _ _ _ => ?_)<;>trivial)
variable (iF:FnAt P w K mg base "are_figures" 1 PM.cG)
theorem iW (F:b9 K "place_of_letter" (top 79)):FnAt P w K mg base "place_of_letter" 1 PM.cm :=
 FnAt.fi F T.gl (b? (N:=["many","letter","place"]) (P:=["many","letter"])) (fun _ _ _ _ s _ _ nd hr => by
 trivial)
variable (jx:FnAt P w K mg base "place_of_letter" 1 PM.cm)
theorem k6 (F:b9 K "_law_cell_at" (top 82)):FnAt P w K mg base "_law_cell_at" 1 PM.a! :=
 FnAt.fi F T.gl (b? (N:=["_law_script","_law_k","_law_cell","_law_one","_law_found","_law_turn"]) (P:=["_law_script","_law_k"])) (fun _ _ _ _ s _ _ nd hr => by
 trivial)
variable (nu:FnAt P w K mg base "_law_cell_at" 1 PM.a!)
theorem n_ (F:b9 K "_law_marks" (top 83)):oQ P w K mg base "_law_marks" 1 bO:=let ⟨_,_,F,a⟩:=F
 oQ.mk F (T.gl _ _ a) iE (fun _ _ _ _ _ _ => Gr fun _ => rfl) fun dc A outer s H ea oe hr => by
 have:=iE.nd
 trivial
variable (jy:oQ P w K mg base "_law_marks" 1 bO)
theorem k7 (F:b9 K "_law_no_ring" (top 86)):FnAt P w K mg base "_law_no_ring" 1 PM.c_ :=
 FnAt.fi F T.gl (b? (N:=["_law_cell","_law_number"]) (P:=["_law_cell"])) (fun _ _ _ _ s _ _ nd hr => by
 have:(["_law_by","_law_number"]:List Str).Nodup:=by decide +kernel
 trivial
 ·refine yF qH pA pA ?_ ?_ ?_<;>trivial
 ·refine fk (N:=["_law_by","_law_number"]) (k:=1) rfl rfl (iD (cl:=[("_law_number",s.heap.objs.size + 1)])) ?_ (fun _ _ _ _ => ?_) (fun _ _ _ _ => ?_) (fun _ _ _ _ => ?_)<;>trivial)
variable (g!:FnAt P w K mg base "_law_no_ring" 1 PM.c_)
include gv jw in
theorem ue (F:b9 K "is_ring" (top 22)):FnAt P w K mg base "is_ring" 2 PM.eR :=
 FnAt.fi F T.gl (b? (N:=["thing"]) (P:=["thing"])) (fun _ _ _ _ s _ _ nd hr => by
 trivial)
variable (xw:FnAt P w K mg base "is_ring" 2 PM.eR)
include gv in
theorem iX (F:b9 K "is_whole_within" (top 36)):FnAt P w K mg base "is_whole_within" 2 PM.aF :=
 FnAt.fi F T.gl (b? (N:=["thing","lowest","highest"]) (P:=["thing","lowest","highest"])) (fun _ _ _ _ s _ _ nd hr => by
 trivial
 ·refine yE qH pA pA ?_ ?_ ?_<;>trivial)
variable (fB:FnAt P w K mg base "is_whole_within" 2 PM.aF)
include g_ in
theorem jW (F:b9 K "settled_terms" (top 42)):FnAt P w K mg base "settled_terms" 2 PM.cT :=
 FnAt.fi F T.gl (b? (N:=["ring","pairs","terms"]) (P:=["ring","pairs"])) (fun _ _ _ _ s _ _ nd hr => by
 have:(["exponents","number","ring"]:List Str).Nodup:=by decide +kernel
 have:(["term"]:List Str).Nodup:=by decide +kernel
 trivial
 ·refine MN.mF 2 (N:=["exponents","number","ring"]) (k:=2) nd rfl rfl (iD (cl:=[("ring",s.heap.objs.size + 1)])) ?_ (fun _ _ _ _ => ?_) (fun _ _ _ _ => ?_) (fun _ _ _ _ => ?_)<;>trivial
 ·refine fk (N:=["term"]) (k:=1) rfl rfl (iD (cl:=[])) ?_ (fun _ _ _ _ => ?_) (fun _ _ _ _ => ?_) (fun _ _ _ _ => ?_)<;>trivial)
variable (k8:FnAt P w K mg base "settled_terms" 2 PM.cT)
include ud in
theorem nv (F:b9 K "check_order" (top 62)):FnAt P w K mg base "check_order" 2 PM.cw :=
 FnAt.fi F T.gl (b? (N:=["order"]) (P:=["order"])) (fun _ _ _ _ s _ _ nd hr => by
 trivial)
variable (iG:FnAt P w K mg base "check_order" 2 PM.cw)
include p0 in
theorem p5 (F:b9 K "term_text" (top 73)):FnAt P w K mg base "term_text" 2 PM.eU :=
 FnAt.fi F T.gl (b? (N:=["exponents","size","powers"]) (P:=["exponents","size"])) (fun _ _ _ _ s _ _ nd hr => by
 have:(["place","exponent"]:List Str).Nodup:=by decide +kernel
 trivial
 ·refine MN.mF 2 (N:=["place","exponent"]) (k:=2) nd rfl rfl (iD (cl:=[])) ?_ (fun _ _ _ _ => ?_) (fun _ _ _ _ => ?_) (fun _ _ _ _ => ?_)<;>trivial)
variable (rO:FnAt P w K mg base "term_text" 2 PM.eU)
include iF in
theorem ir (F:b9 K "exponent_written" (top 80)):FnAt P w K mg base "exponent_written" 2 PM.b8 :=
 FnAt.fi F T.gl (b? (N:=["text","figures"]) (P:=["text"])) (fun _ _ _ _ s _ _ nd hr => by
 trivial)
variable (iY:FnAt P w K mg base "exponent_written" 2 PM.b8)
include xw in
theorem n! (F:b9 K "check_ring" (top 23)):FnAt P w K mg base "check_ring" 3 PM.az :=
 FnAt.fi F T.gl (b? (N:=["ring"]) (P:=["ring"])) (fun _ _ _ _ s _ _ nd hr => by
 trivial)
variable (bo:FnAt P w K mg base "check_ring" 3 PM.az)
include fB in
theorem jz (F:b9 K "check_unknowns" (top 37)):FnAt P w K mg base "check_unknowns" 3 PM.aE :=
 FnAt.fi F T.gl (b? (N:=["many"]) (P:=["many"])) (fun _ _ _ _ s _ _ nd hr => by
 trivial)
variable (dY:FnAt P w K mg base "check_unknowns" 3 PM.aE)
include fB in
theorem jX (F:b9 K "are_exponents" (top 38)):FnAt P w K mg base "are_exponents" 3 PM.b0 :=
 FnAt.fi F T.gl (b? (N:=["thing","many"]) (P:=["thing","many"])) (fun _ _ _ _ s _ _ nd hr => by
 have:(["exponent"]:List Str).Nodup:=by decide +kernel
 trivial
 ·refine fk (N:=["exponent"]) (k:=1) rfl rfl (iD (cl:=[])) ?_ (fun _ _ _ _ => ?_) (fun _ _ _ _ => ?_) (fun _ _ _ _ => ?_)<;>trivial)
variable (k9:FnAt P w K mg base "are_exponents" 3 PM.b0)
include k8 in
theorem jY (F:b9 K "sum_of_totals" (top 43)):FnAt P w K mg base "sum_of_totals" 3 PM.b4 :=
 FnAt.fi F T.gl (b? (N:=["ring","totals"]) (P:=["ring","totals"])) (fun _ _ _ _ s _ _ nd hr => by
 have:(["exponents","totals"]:List Str).Nodup:=by decide +kernel
 trivial
 ·refine fk (N:=["exponents","totals"]) (k:=1) rfl rfl (iD (cl:=[("totals",s.heap.objs.size + 1)])) ?_ (fun _ _ _ _ => ?_) (fun _ _ _ _ => ?_) (fun _ _ _ _ => ?_)
  ·trivial
   ·refine z? (by rfl) (by rfl) T.b.2.2.2.2.2.2.2.2.1 PyProof.Rows.Boot.«sorted» ?_<;>trivial
  ·trivial
  ·trivial
  ·trivial)
variable (k_:FnAt P w K mg base "sum_of_totals" 3 PM.b4)
include iG in
theorem xx (F:b9 K "higher" (top 64)):FnAt P w K mg base "higher" 3 PM.eV :=
 FnAt.fi F T.gl (b? (N:=["order","one","other"]) (P:=["order","one","other"])) (fun _ _ _ _ s _ _ nd hr => by
 trivial
 ·exact fM)
variable (AR:FnAt P w K mg base "higher" 3 PM.eV)
include iG in
theorem DA (F:b9 K "lead" (top 65)):FnAt P w K mg base "lead" 3 PM.d! :=
 FnAt.fi F T.gl (b? (N:=["order","row"]) (P:=["order","row"])) (fun _ _ _ _ s _ _ nd hr => by
 trivial
 ·exact fM)
variable (Hu:FnAt P w K mg base "lead" 3 PM.d!)
include rN rO in
theorem AU (F:b9 K "shown" (top 71)):FnAt P w K mg base "shown" 3 PM.shown :=
 FnAt.fi F T.gl (b? (N:=["row","pieces","exponents","number"]) (P:=["row"])) (fun _ _ _ _ s _ _ nd hr => by
 trivial)
variable (DB:FnAt P w K mg base "shown" 3 PM.shown)
include iF jx iY in
theorem k! (F:b9 K "pair_written" (top 77)):FnAt P w K mg base "pair_written" 3 PM.cO :=
 FnAt.fi F T.gl (b? (N:=["many","sign","word","number","exponents","factor"]) (P:=["many","sign","word"])) (fun _ _ _ _ s _ _ nd hr => by
 trivial)
variable (ny:FnAt P w K mg base "pair_written" 3 PM.cO)
include g_ bo in
theorem uf (F:b9 K "settled" (top 25)):FnAt P w K mg base "settled" 4 PM.settled :=
 FnAt.fi F T.gl (b? (N:=["ring","number"]) (P:=["ring","number"])) (fun _ _ _ _ s _ _ nd hr => by
 trivial)
variable (xy:FnAt P w K mg base "settled" 4 PM.settled)
include kZ bo in
theorem ug (F:b9 K "inverse" (top 28)):FnAt P w K mg base "inverse" 4 PM.cP :=
 FnAt.fi F T.gl (b? (N:=["ring","number"]) (P:=["ring","number"])) (fun _ _ _ _ s _ _ nd hr => by
 trivial
 ·exact fM)
variable (jZ:FnAt P w K mg base "inverse" 4 PM.cP)
include gv k9 in
theorem uh (F:b9 K "is_pair" (top 39)):FnAt P w K mg base "is_pair" 4 PM.cZ :=
 FnAt.fi F T.gl (b? (N:=["thing","many"]) (P:=["thing","many"])) (fun _ _ _ _ s _ _ nd hr => by
 trivial)
variable (xA:FnAt P w K mg base "is_pair" 4 PM.cZ)
include bo dY in
theorem rP (F:b9 K "constant" (top 45)):FnAt P w K mg base "constant" 4 PM.cH :=
 FnAt.fi F T.gl (b? (N:=["ring","many","number"]) (P:=["ring","many","number"])) (fun _ _ _ _ s _ _ nd hr => by
 trivial
 ·exact fM)
variable (nA:FnAt P w K mg base "constant" 4 PM.cH)
include bo in
theorem DC (F:b9 K "plus" (top 46)):FnAt P w K mg base "plus" 4 PM.lO :=
 FnAt.fi F T.gl (b? (N:=["ring","ones","others"]) (P:=["ring","ones","others"])) (fun _ _ _ _ s _ _ nd hr => by
 trivial
 ·exact fM)
variable (Hv:FnAt P w K mg base "plus" 4 PM.lO)
include bo in
theorem AV (F:b9 K "minus" (top 47)):FnAt P w K mg base "minus" 4 PM.jr :=
 FnAt.fi F T.gl (b? (N:=["ring","ones","others"]) (P:=["ring","ones","others"])) (fun _ _ _ _ s _ _ nd hr => by
 trivial
 ·exact fM)
variable (DD:FnAt P w K mg base "minus" 4 PM.jr)
include bo in
theorem AW (F:b9 K "times" (top 49)):FnAt P w K mg base "times" 4 PM.js :=
 FnAt.fi F T.gl (b? (N:=["ring","ones","others"]) (P:=["ring","ones","others"])) (fun _ _ _ _ s _ _ nd hr => by
 trivial
 ·exact fM)
variable (DE:FnAt P w K mg base "times" 4 PM.js)
include bo in
theorem xB (F:b9 K "scaled" (top 52)):FnAt P w K mg base "scaled" 4 PM.ie :=
 FnAt.fi F T.gl (b? (N:=["ring","row","number"]) (P:=["ring","row","number"])) (fun _ _ _ _ s _ _ nd hr => by
 trivial
 ·exact fM)
variable (AX:FnAt P w K mg base "scaled" 4 PM.ie)
include gv bo in
theorem xC (F:b9 K "raised" (top 53)):FnAt P w K mg base "raised" 4 PM.dA :=
 FnAt.fi F T.gl (b? (N:=["ring","row","count"]) (P:=["ring","row","count"])) (fun _ _ _ _ s _ _ nd hr => by
 trivial
 ·exact fM)
variable (rQ:FnAt P w K mg base "raised" 4 PM.dA)
include bo in
theorem AY (F:b9 K "value" (top 54)):FnAt P w K mg base "value" 4 PM.jt :=
 FnAt.fi F T.gl (b? (N:=["ring","row","point","total","exponents","number"]) (P:=["ring","row","point"])) (fun _ _ _ _ s _ _ nd hr => by
 trivial
 ·exact vg)
variable (DF:FnAt P w K mg base "value" 4 PM.jt)
include bo in
theorem AZ (F:b9 K "slope" (top 57)):FnAt P w K mg base "slope" 4 PM.ju :=
 FnAt.fi F T.gl (b? (N:=["ring","row","unknown","pairs"]) (P:=["ring","row","unknown"])) (fun _ _ _ _ s _ _ nd hr => by
 trivial
 ·exact vg)
variable (DG:FnAt P w K mg base "slope" 4 PM.ju)
include ny in
theorem j6 (F:b9 K "pairs_written" (top 76)):FnAt P w K mg base "pairs_written" 4 PM.dm :=
 FnAt.fi F T.gl (b? (N:=["many","text","first_sign","words","signs"]) (P:=["many","text"])) (fun _ _ _ _ s _ _ nd hr => by
 have:(["sign","word","many"]:List Str).Nodup:=by decide +kernel
 trivial
 ·refine fk (N:=["sign","word","many"]) (k:=2) rfl rfl (iD (cl:=[("many",s.heap.objs.size + 1)])) ?_ (fun _ _ _ _ => ?_) (fun _ _ _ _ => ?_) (fun _ _ _ _ => ?_)<;>trivial)
variable (k?:FnAt P w K mg base "pairs_written" 4 PM.dm)
include pX bo jZ in
theorem DH (F:b9 K "over" (top 30)):FnAt P w K mg base "over" 5 PM.fw :=
 FnAt.fi F T.gl (b? (N:=["ring","one","other"]) (P:=["ring","one","other"])) (fun _ _ _ _ s _ _ nd hr => by
 trivial)
variable (A0:FnAt P w K mg base "over" 5 PM.fw)
include xA in
theorem nB (F:b9 K "check_pairs" (top 40)):FnAt P w K mg base "check_pairs" 5 PM.bt :=
 FnAt.fi F T.gl (b? (N:=["many","pairs","thing"]) (P:=["many","pairs"])) (fun _ _ _ _ s _ _ nd hr => by
 trivial)
variable (n?:FnAt P w K mg base "check_pairs" 5 PM.bt)
include AQ bo dY k_ n? in
theorem DI (F:b9 K "made" (top 44)):FnAt P w K mg base "made" 6 PM.made :=
 FnAt.fi F T.gl (b? (N:=["ring","many","pairs","totals","exponents","number"]) (P:=["ring","many","pairs"])) (fun _ _ _ _ s _ _ nd hr => by
 trivial)
variable (ui:FnAt P w K mg base "made" 6 PM.made)
include bo dY DB k? ui in
theorem DJ (F:b9 K "read" (top 75)):FnAt P w K mg base "read" 7 PM.read :=
 FnAt.fi F T.gl (b? (N:=["ring","many","text","row"]) (P:=["ring","many","text"])) (fun _ _ _ _ s _ _ nd hr => by
 trivial)
variable (A3:FnAt P w K mg base "read" 7 PM.read)
include AR Hu jZ nA rQ A0 ui A3 in
theorem og (F:b9 K "_law_asked" (top 84)):FnAt P w K mg base "_law_asked" 8 PM.cQ :=
 FnAt.fi F T.gl (b? (N:=["_law_which","_law_count"]) (P:=["_law_which","_law_count"])) (fun _ _ _ _ s _ _ nd hr => by
 trivial)
variable (jA:FnAt P w K mg base "_law_asked" 8 PM.cQ)
include xy jZ nA Hv DD DE AX rQ DF DG A0 ui A3 in
theorem g? (F:b9 K "_law_without_ring" (top 85)):FnAt P w K mg base "_law_without_ring" 8 PM.bH :=
 FnAt.fi F T.gl (b? (N:=["_law_which","_law_ring","_law_cell","_law_ones","_law_number"]) (P:=["_law_which","_law_ring","_law_cell"])) (fun _ _ _ _ s _ _ nd hr => by
 trivial)
variable (eJ:FnAt P w K mg base "_law_without_ring" 8 PM.bH)
include nu jy g! jA eJ in
theorem Hw {f:Addr} {fd:FuncData} (F:Bh K "law" "law" (top 87) f fd):gJ P w K mg base (i9 P w) 9 f fd ["_law_script"] (F6 ⟨K,mg,[]⟩ vj) :=
 yI F nq fun dc A outer s H E hr => by
 have:=nq.nd
 have:(["_law_k","_law_due"]:List Str).Nodup:=by decide +kernel
 trivial
 ·refine Gk T.qx.known ⟨fun _ => rfl,rfl,rfl⟩ ?_ ?_
  ·refine pD ?_
   ·refine Gi (fun _ => ?_) ?_ ?_
    ·trivial
    ·refine qK ?_ ?_
     ·refine vi 5 nq.nd ?_
      ·refine sZ g! hr (by decide) (by rfl) (fun _ => rfl) (fun _ => ?_)<;>trivial
     ·refine pD ?_
      ·refine qJ ?_
       ·refine sZ eJ hr (by decide) (by rfl) (fun _ => rfl) (fun _ => ?_)<;>trivial
    ·refine qK ?_ ?_
     ·refine vi 6 nq.nd ?_
      ·refine y9 fun _ => ?_<;>trivial
     ·refine pD ?_
      ·refine qJ ?_
       ·refine sZ jA hr (by decide) (by rfl) (fun _ => rfl) (fun _ => ?_)<;>trivial
  ·refine Hd (i:=7) T.sub nq.nd T.c.1 (by rfl) (fun _ _ => ?_) ?_
   ·trivial
    ·exact (Ac 7 jy ((fU.mark hr _).mono (by decide)) (by rfl))
   ·exact Gj
 ·refine fk (N:=["_law_k","_law_due"]) (k:=1) rfl rfl (iD (cl:=[("_law_due",s.heap.objs.size + 1)])) ?_ (fun _ _ _ _ => ?_) (fun _ _ _ _ => ?_) (fun _ _ _ _ => ?_)<;>trivial
end
theorem all_mk {l:PySem.W.OpenLaw} {w:World} {K:PySem.W.Frag} {h:Heap} {mg:Str → Option Value} {fa:Addr} (X:K.In h) (G:h.Ns mainGlobals mg) (QI:mg "law" = some (.ref fa))
  {M?:Addr} {Na Kg:Option Addr} {Nb:Array (Option Value)} {Nc Kh Ki Kj Hx Kk:Value}
  {p6:Tok}
  {gB:Addr} {lg:Option Addr} {lh:Nat} {lq:Array (Option Value)} {j7 j8 j9 j_ j! j? j' kd ke kf jB:Tok}
  {kg:Tok}
  {gE:Tok}
  {oV:Addr} {xD:Option Addr} {xE:Nat} {xF:Array (Option Value)} {uj uk:Tok}
  {nC:Addr} {um:Option Addr} {uo:Nat} {uq:Array (Option Value)} {rR rS rT rV:Tok}
  {rW:Addr} {A4:Option Addr} {A5:Nat} {A6:Array (Option Value)} {xG xH:Tok}
  {ur:Tok}
  {fO:Tok}
  (h0:b9 K "is_whole" (top 20))
  (h1:b9 K "is_prime_within" (top 21))
  (h2:b9 K "rest_in_ring" (top 24))
  (h3:b9 K "whole_inverse" (top 29))
  (h4:b9 K "whole_over" (top 31))
  (h5:b9 K "add_to" (top 41))
  (h6:b9 K "is_order" (top 61))
  (h7:b9 K "sign_text" (top 72))
  (h8:b9 K "power_text" (top 74))
  (h9:b9 K "are_figures" (top 78))
  (Nd:b9 K "place_of_letter" (top 79))
  (KO:b9 K "_law_cell_at" (top 82))
  (Nf:b9 K "_law_marks" (top 83))
  (Ng:b9 K "_law_no_ring" (top 86))
  (Nh:b9 K "is_ring" (top 22))
  (Ni:b9 K "is_whole_within" (top 36))
  (Nj:b9 K "settled_terms" (top 42))
  (Nk:b9 K "check_order" (top 62))
  (Nl:b9 K "term_text" (top 73))
  (Nm:b9 K "exponent_written" (top 80))
  (Nn:b9 K "check_ring" (top 23))
  (Np:b9 K "check_unknowns" (top 37))
  (Nq:b9 K "are_exponents" (top 38))
  (Nr:b9 K "sum_of_totals" (top 43))
  (Nt:b9 K "higher" (top 64))
  (Nu:b9 K "lead" (top 65))
  (Nv:b9 K "shown" (top 71))
  (Nw:b9 K "pair_written" (top 77))
  (Nx:b9 K "settled" (top 25))
  (Ny:b9 K "inverse" (top 28))
  (Nz:b9 K "is_pair" (top 39))
  (NA:b9 K "constant" (top 45))
  (NB:b9 K "plus" (top 46))
  (NC:b9 K "minus" (top 47))
  (ND:b9 K "times" (top 49))
  (NF:b9 K "scaled" (top 52))
  (NG:b9 K "raised" (top 53))
  (NH:b9 K "value" (top 54))
  (NI:b9 K "slope" (top 57))
  (NJ:b9 K "pairs_written" (top 76))
  (NK:b9 K "over" (top 30))
  (NL:b9 K "check_pairs" (top 40))
  (NM:b9 K "made" (top 44))
  (NN:b9 K "read" (top 75))
  (NO:b9 K "_law_asked" (top 84))
  (NP:b9 K "_law_without_ring" (top 85))
  (NQ:PySem.W.nsIn K mainGlobals "law" = some (some (.ref M?))) (NR:K.lookup M? = some ⟨Nc,Na,.func (PySem.W.fnOf "law" "law" (d3 (top 87)) (cK (top 87)) (aN (top 87)) .none Kh Ki Kj Kg Hx Kk),Nb⟩) (NT:PySem.W.codeIn K Hx "law" = true) (NU:PySem.W.keepIn K (.ref M?) = true)
  (zb:tF K ["abs","all","bool","enumerate","int","isinstance","len","range","sorted","str","tuple","zip"])
  (zc:tH K ["AlgebraError","NoRing","NoPrime","NoInverse","NotWhole","NoUnknowns","NoTerm","NoCount","NoLead","NoOrder","NotWritten","ByNought","NoMeet","NoParts","NotPlain","NoSums"])
  (gw:PySem.W.nsIn K mainGlobals "MOST_RING" = some (some (.int 997 p6)))
  (eB:PySem.W.nsIn K mainGlobals "FIRST_PRIMES" = some (some (.ref gB))) (eG:K.lookup gB = some ⟨.type "tuple",lg,.seq #[.int 2 j7,.int 3 j8,.int 5 j9,.int 7 j_,.int 11 j!,.int 13 j?,.int 17 j',.int 19 kd,.int 23 ke,.int 29 kf,.int 31 jB] lh,lq⟩)
  (dZ:PySem.W.nsIn K mainGlobals "MOST_UNKNOWNS" = some (some (.int 4 kg)))
  (cX:PySem.W.nsIn K mainGlobals "MOST_MADE_EXPONENT" = some (some (.int 99 gE)))
  (kh:PySem.W.nsIn K mainGlobals "ORDERS" = some (some (.ref oV))) (ki:K.lookup oV = some ⟨.type "tuple",xD,.seq #[.str "lex" uj,.str "deg" uk] xE,xF⟩)
  (iZ:PySem.W.nsIn K mainGlobals "LETTERS" = some (some (.ref nC))) (i0:K.lookup nC = some ⟨.type "tuple",um,.seq #[.str "x" rR,.str "y" rS,.str "z" rT,.str "w" rV] uo,uq⟩)
  (nD:PySem.W.nsIn K mainGlobals "SIGNS" = some (some (.ref rW))) (nE:K.lookup rW = some ⟨.type "tuple",A4,.seq #[.str "+" xG,.str "-" xH] A5,A6⟩)
  (i6:PySem.W.nsIn K mainGlobals "FIGURES" = some (some (.str "0123456789" ur)))
  (cy:PySem.W.nsIn K mainGlobals "MOST_EXPONENT_FIGURES" = some (some (.int 2 fO)))
  (zp:kG K J7) (zv:mT K []) (zw:PySem.W.nsIn K mainGlobals "ValueError" = some none) (zq:tJ K kn) :
  ∃ fd:FuncData,(∀ (s:Shared) (v:Value),BindsTo s fd ⟨[v],[]⟩ [("_law_script",v)]) ∧ ∀ base:Heap,K.In base → base.Ns mainGlobals mg → gJ l.prog w K mg base (i9 l.prog w) 9 fa fd ["_law_script"] (u0 K):=by
 have e:=QI.symm.trans (PySem.W.mg_of X G NQ)
 cases e
 refine ⟨PySem.W.fnOf "law" "law" (d3 (top 87)) (cK (top 87)) (aN (top 87)) .none Kh Ki Kj Kg Hx Kk,fun s v => .of_eq rfl,fun base _ _ => ?_⟩
 have T:Txt l.prog w K mg base:=⟨fun _ _ h => PySem.W.mg_of X G h,zb.get X G,zc.get X G,Glob.int (PySem.W.mg_of X G gw),Glob.ints (ns:=[2,3,5,7,11,13,17,19,23,29,31]) (PySem.W.mg_of X G eB) eG rfl rfl (by simp [sizeLine_eq]) (.cons ⟨_,rfl⟩ (.cons ⟨_,rfl⟩ (.cons ⟨_,rfl⟩ (.cons ⟨_,rfl⟩ (.cons ⟨_,rfl⟩ (.cons ⟨_,rfl⟩ (.cons ⟨_,rfl⟩ (.cons ⟨_,rfl⟩ (.cons ⟨_,rfl⟩ (.cons ⟨_,rfl⟩ (.cons ⟨_,rfl⟩ (.nil)))))))))))),Glob.int (PySem.W.mg_of X G dZ),Glob.int (PySem.W.mg_of X G cX),Glob.strs (ns:=["lex","deg"]) (PySem.W.mg_of X G kh) ki rfl rfl (by simp [sizeLine_eq]) (.cons ⟨_,rfl⟩ (.cons ⟨_,rfl⟩ (.nil))),Glob.strs (ns:=["x","y","z","w"]) (PySem.W.mg_of X G iZ) i0 rfl rfl (by simp [sizeLine_eq]) (.cons ⟨_,rfl⟩ (.cons ⟨_,rfl⟩ (.cons ⟨_,rfl⟩ (.cons ⟨_,rfl⟩ (.nil))))),Glob.strs (ns:=["+","-"]) (PySem.W.mg_of X G nD) nE rfl rfl (by simp [sizeLine_eq]) (.cons ⟨_,rfl⟩ (.cons ⟨_,rfl⟩ (.nil))),Glob.str (PySem.W.mg_of X G i6),Glob.int (PySem.W.mg_of X G cy),zp.get X G (zv.get X G zw),zq.get X G⟩
 have gx:=rK T  h0
 have jC:=iV T  h1
 have hG:=kY T  h2
 have lu:=jV T  h3
 have p7:=nZ T  h4
 have A7:=xu T  h5
 have uu:=rL T  h6
 have rX:=pZ T  h7
 have p8:=n0 T  h8
 have iH:=nr T  h9
 have jD:=iW T  Nd
 have nF:=k6 T  KO
 have p9:=n_ T  Nf
 have nG:=k7 T  Ng
 have xI:=ue T gx jC Nh
 have fC:=iX T gx Ni
 have lB:=jW T hG Nj
 have iI:=nv T uu Nk
 have rY:=p5 T p8 Nl
 have i7:=ir T iH Nm
 have bp:=n! T xI Nn
 have d0:=jz T fC Np
 have lC:=jX T fC Nq
 have lD:=jY T lB Nr
 have A8:=xx T iI Nt
 have Hy:=DA T iI Nu
 have DK:=AU T rX rY Nv
 have nH:=k! T iH jD i7 Nw
 have xJ:=uf T hG bp Nx
 have kj:=ug T lu bp Ny
 have xK:=uh T gx lC Nz
 have nI:=rP T bp d0 NA
 have Hz:=DC T bp NB
 have DM:=AV T bp NC
 have DN:=AW T bp ND
 have A9:=xB T bp NF
 have rZ:=xC T gx bp NG
 have DO:=AY T bp NH
 have DP:=AZ T bp NI
 have lE:=j6 T nH NJ
 have A_:=DH T p7 bp kj NK
 have oh:=nB T xK NL
 have uv:=DI T A7 bp d0 lD oh NM
 have A!:=DJ T bp d0 DK lE uv NN
 have p_:=og T A8 Hy kj nI rZ A_ uv A! NO
 have iu:=g? T xJ kj nI Hz DM DN A9 rZ DO DP A_ uv A! NP
 exact (Hw T nF p9 nG p_ iu (yj (st:=top 87) NR NT NU)).imp fun _ _ _ _ h => Gn AN h
end mZ
namespace PySem.W.Fast
def tw6376501101595583389:=()
def tw7561522311243422783:=()
def tw11705567923078441846:=()
def tw15080041361645265805:=()
def tw9813215133265081904:=()
def tw14595536152227551909:=()
def tw8644408165046459605:=()
def tw957121176842707001:=()
def tw9616466837931136086:=()
def tw16857166411196047442:=()
def tw10800758480364754328:=()
def tw9270413846921580429:=()
def tw2003189613456846223:=()
def tw4537759846114964034:=()
def tw11489655006048093984:=()
def tw10777808369073870745:=()
def tw7350649883350173163:=()
def tw5882936905734199562:=()
def tw12499350517444993986:=()
def tw2032272746839767243:=()
def tw5031943716800721431:=()
def tw9992848946347180250:=()
def tw18315852318316635773:=()
def tw7359142913155145166:=()
def tw5952165657372315483:=()
def tw8117693930910214915:=()
def tw630533031631589749:=()
def tw11891757471975507870:=()
def tw3234395016264574846:=()
def tw2225957814349835028:=()
def tw8055234936974357692:=()
def tw6745472073612152328:=()
def tw4983537071511379103:=()
def tw1947452210357628039:=()
def tw9786323687842458914:=()
def tw6066646665894400529:=()
def tw11802504194140140499:=()
end PySem.W.Fast
open PySem PySem.W PyProof.Rows
set_option maxRecDepth 100000 in
set_option maxHeartbeats 0 in
theorem PySem.Challenge.cw_polyring_k12_refusals_apart_holds : PySem.Challenge.rw_polyring_k12_refusals_apart.Holds := by
 w_on; o_law; k_head; (case hw => w_witness2)
 k_fill
 refine MN.zg (l:=PySem.Challenge.rw_polyring_k12_refusals_apart) (k:=9) (x:="_law_script") rfl rfl ⟨rfl,by decide,by decide⟩ (fun w h Y => PySem.W.km_in_of Y) ?F
 case F =>
  intro w mg fa h KX G IL
  refine' mZ.all_mk KX G IL ?h0 ?h1 ?h2 ?h3 ?h4 ?h5 ?h6 ?h7 ?h8 ?h9 ?Nd ?KO ?Nf ?Ng ?Nh ?Ni ?Nj ?Nk ?Nl ?Nm ?Nn ?Np ?Nq ?Nr ?Nt ?Nu ?Nv ?Nw ?Nx ?Ny ?Nz ?NA ?NB ?NC ?ND ?NF ?NG ?NH ?NI ?NJ ?NK ?NL ?NM ?NN ?NO ?NP ?NQ ?NR ?NT ?NU ?zb ?zc ?gw ?eB ?eG ?dZ ?cX ?kh ?ki ?iZ ?i0 ?nD ?nE ?i6 ?cy ?zp ?zv ?zw ?zq
  (case h0 | h1 | h2 | h3 | h4 | h5 | h6 | h7 | h8 | h9 | Nd | KO | Nf | Ng | Nh | Ni | Nj | Nk | Nl | Nm | Nn | Np | Nq | Nr | Nt | Nu | Nv | Nw | Nx | Ny | Nz | NA | NB | NC | ND | NF | NG | NH | NI | NJ | NK | NL | NM | NN | NO | NP => refine' MN.b9.mk ?a ?l ?c ?k; (case a => k_is); (case l => k_is); (case c => k_is); (case k => k_is); skip)
  (case NQ => k_is)
  (case NR => k_is)
  (case NT => k_is)
  (case NU => k_is)
  case zb =>
   repeat (refine' MN.tF.cons ?a ?_; (case a => k_is); skip)
   exact .nil
  case zc =>
   repeat (refine' MN.tH.cons ?a ?e ?s ?_; (case a => k_is); (case e => k_exc); (case s => k_is); skip)
   exact .nil
  (case gw => k_is)
  (case eB => k_is)
  (case eG => k_is)
  (case dZ => k_is)
  (case cX => k_is)
  (case kh => k_is)
  (case ki => k_is)
  (case iZ => k_is)
  (case i0 => k_is)
  (case nD => k_is)
  (case nE => k_is)
  (case i6 => k_is)
  (case cy => k_is)
  case zp =>
   repeat (refine' MN.kG.cons ?a ?b ?c ?d ?e ?_; (case a => k_is); (case b => k_is); (case c => k_is); (case d => k_is); (case e => first | k_is | kit_is); skip)
   exact .nil
  case zv =>
   repeat (refine' MN.mT.cons ?a ?e ?_; (case a => k_is); (case e => first | k_is | kit_is); skip)
   exact .nil
  (case zw => k_is)
  case zq =>
   repeat (refine' MN.tJ.cons ?a ?e ?_; (case a => k_is); (case e => first | k_is | kit_is | rfl | decide +kernel); skip)
   exact .nil
