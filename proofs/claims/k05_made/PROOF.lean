import PyProof.Rows.All
import Wide.All
import OpenK.AllK
import Wide.FinOn
import Lean
import PyProof.EqAt
import PyProof.EqKinds
import PyProof.TupleCall
import PyProof.NeKinds
import PyProof.ZipIter
import PyProof.FitsBits
import KE.KRevIter
import KE.KStateDown
import PyProof.Rows.Range3
import PyProof.EnumFor
import PyProof.EnumMake
import PyProof.EnumStmt
import PyProof.Rows.SumAny
import PyProof.ListIndex
import PyProof.ListIndexNeg
import PyProof.WalkInts
import PyProof.Conv_int_bool
import PyProof.SumAny
import PyProof.Rows.FactsN_abs
import PyProof.ExcBaseAll.ValueError
import KE.KIsAll
import PyProof.ExcAttrAll.ValueError
import KE.KSortTup
import KE.KDictList
import PySem.Challenge.RW_polyring_k05_made
set_option Elab.async false
set_option linter.all false
set_option maxRecDepth 100000
set_option maxHeartbeats 4000000
set_option compiler.extract_closed false
set_option genSizeOf false
-- CHANGE: your row's module here, as the last of these rows
namespace L2
open PySem PySem.Spec PyProof.Rows
noncomputable abbrev Key := Sum Int Str
noncomputable def keyIs : Key → Value → Bool
  | .inl k, v => Value.isInt k v
  | .inr x, v => Value.isStrOf x v
noncomputable def keyH (w : World) : Key → Int
  | .inl k => hashInt k
  | .inr x => hashStr w x
theorem keyIs_shape : ∀ {k : Key} {v : Value}, keyIs k v = true → (∃ i t, k = Sum.inl i ∧ v = Value.int i t) ∨ (∃ x t, k = Sum.inr x ∧ v = Value.str x t)
  | .inl i, v, h => by
    obtain ⟨t, e⟩ := Value.isInt_shape (k := i) (v := v) h
    exact .inl ⟨i, t, rfl, e⟩
  | .inr x, v, h => by
    obtain ⟨t, e⟩ := Value.isStrOf_shape (x := x) (v := v) h
    exact .inr ⟨x, t, rfl, e⟩
theorem keyIs_int (i : Int) (t : Tok) : keyIs (.inl i) (.int i t) = true := by simp [keyIs, Value.isInt]
theorem keyIs_str (x : Str) (t : Tok) : keyIs (.inr x) (.str x t) = true := by simp [keyIs, Value.isStrOf]
theorem key_ll (a b : Int) : decide ((Sum.inl a : Key) = Sum.inl b) = (a == b) := by
  by_cases e : a = b
  · subst e; simp
  · have h : ¬ (Sum.inl a : Key) = Sum.inl b := fun q => e (Sum.inl.inj q)
    rw [decide_eq_false h]
    exact (beq_eq_false_iff_ne.mpr e).symm
theorem key_rr (a b : Str) : decide ((Sum.inr a : Key) = Sum.inr b) = decide (a = b) := by
  by_cases e : a = b
  · subst e; simp
  · have h : ¬ (Sum.inr a : Key) = Sum.inr b := fun q => e (Sum.inr.inj q)
    rw [decide_eq_false h, decide_eq_false e]
theorem key_lr (a : Int) (b : Str) : decide ((Sum.inl a : Key) = Sum.inr b) = false := decide_eq_false (fun q => nomatch q)
theorem key_rl (a : Str) (b : Int) : decide ((Sum.inr a : Key) = Sum.inl b) = false := decide_eq_false (fun q => nomatch q)
noncomputable def mixKind (prog : Program) (w : World) : PySem.KeyKind prog w Key where
  is := keyIs
  hash := keyH w
  inj := fun v a b ha hb => by
    rcases keyIs_shape ha with ⟨i, t, rfl, rfl⟩ | ⟨x, t, rfl, rfl⟩
    · rcases keyIs_shape hb with ⟨j, u, rfl, e⟩ | ⟨y, u, rfl, e⟩
      · injection e with e1 _; rw [e1]
      · exact nomatch e
    · rcases keyIs_shape hb with ⟨j, u, rfl, e⟩ | ⟨y, u, rfl, e⟩
      · exact nomatch e
      · injection e with e1 _; rw [e1]
  byValue := fun k v h => by
    rcases keyIs_shape h with ⟨i, t, rfl, rfl⟩ | ⟨x, t, rfl, rfl⟩ <;> rfl
  pyHash := fun hv h => by
    rcases keyIs_shape hv with ⟨i, t, rfl, rfl⟩ | ⟨x, t, rfl, rfl⟩
    · exact wpAny_pyHash_int h
    · exact wpAny_pyHash_str h
  eqBool := fun hu hv h => by
    rcases keyIs_shape hu with ⟨i, t, rfl, rfl⟩ | ⟨x, t, rfl, rfl⟩
    · rcases keyIs_shape hv with ⟨j, u, rfl, rfl⟩ | ⟨y, u, rfl, rfl⟩
      · rw [key_ll] at h; exact wpAny_eqBool_int h
      · rw [key_lr] at h; exact SeqAt.EqAt.int_str i t y u _ _ _ _ h
    · rcases keyIs_shape hv with ⟨j, u, rfl, rfl⟩ | ⟨y, u, rfl, rfl⟩
      · rw [key_rl] at h; exact SeqAt.EqAt.str_int x t j u _ _ _ _ h
      · rw [key_rr] at h; exact wpAny_eqBool_str h
  «strs» := fun k x t v h => by
    rcases keyIs_shape h with ⟨i, u, rfl, e⟩ | ⟨y, u, rfl, e⟩
    · exact nomatch e
    · injection e with e1 _
      subst e1
      cases v <;> rfl
theorem mixKind_int (prog : Program) (w : World) (i : Int) (t : Tok) : (mixKind prog w).is (.inl i) (.int i t) = true := keyIs_int i t
theorem mixKind_str (prog : Program) (w : World) (x : Str) (t : Tok) : (mixKind prog w).is (.inr x) (.str x t) = true := keyIs_str x t
end L2
namespace L2
open PySem PySem.Spec PyProof.Rows
inductive V where
  | non | bl (b : Bool) | int (i : Int) | str (x : Str) | byt (b : Array UInt8) | flt (b : UInt64) | ref (a : Addr) | ty (n : String)
  deriving DecidableEq
noncomputable def RelV : V → Value → Prop
  | .non, u => u = Value.none
  | .bl b, u => u = Value.bool b
  | .int i, u => ∃ t, u = Value.int i t
  | .str x, u => ∃ t, u = Value.str x t
  | .byt b, u => ∃ t, u = Value.bytes b t
  | .flt b, u => ∃ t, u = Value.float b t
  | .ref a, u => u = Value.ref a
  | .ty n, u => u = Value.type n
noncomputable abbrev Vals : List V → List Value → Prop := Paired RelV
theorem Vals.length {xs : List V} {us : List Value} (r : Vals xs us) : xs.length = us.length := Paired.length r
theorem Vals.get : ∀ {xs : List V} {us : List Value} {i : Nat} {x : V}, Vals xs us → xs[i]? = some x → ∃ u, us[i]? = some u ∧ RelV x u
  | _, _, _, _, .nil, e => by simp at e
  | _, _, 0, _, .cons r _, e => by simp at e; subst e; exact ⟨_, rfl, r⟩
  | _, _, i + 1, x, .cons _ t, e => by
    obtain ⟨u, h1, h2⟩ := Vals.get (i := i) (x := x) t (by simpa using e)
    exact ⟨u, by simpa using h1, h2⟩
theorem Vals.append : ∀ {xs ys : List V} {us ws : List Value}, Vals xs us → Vals ys ws → Vals (xs ++ ys) (us ++ ws)
  | _, _, _, _, .nil, s => s
  | _, _, _, _, .cons r t, s => .cons r (Vals.append t s)
theorem Vals.take : ∀ {xs : List V} {us : List Value} (n : Nat), Vals xs us → Vals (xs.take n) (us.take n)
  | _, _, 0, _ => .nil
  | _, _, _ + 1, .nil => .nil
  | _, _, n + 1, .cons r t => .cons r (Vals.take n t)
theorem Vals.drop : ∀ {xs : List V} {us : List Value} (n : Nat), Vals xs us → Vals (xs.drop n) (us.drop n)
  | _, _, 0, r => r
  | _, _, _ + 1, .nil => .nil
  | _, _, n + 1, .cons _ t => Vals.drop n t
noncomputable def RelO : Option V → Option Value → Prop
  | some v, some u => RelV v u
  | none, none => True
  | _, _ => False
noncomputable def KV {κ : Type} : List (κ × V) → List (κ × Value) → Prop := Paired fun (p : κ × V) (q : κ × Value) => p.1 = q.1 ∧ RelV p.2 q.2
noncomputable def kV : Key → V
  | .inl i => .int i
  | .inr x => .str x
inductive HO where
    | lst (xs : List V)
    | tup (xs : List V)
    | dK (kvs : List (Key × V)) | dT (kvs : List (List Key × V))
    | set (S : Int → Bool) (n : Nat)
    | ins (C dx : Addr) (fs : List (Str × V))
    | own (x : Addr)
    | xd (fs : List (Str × V))
    | met (f x : Addr)
    | rng (lo hi : Int)
    | frz (o : Obj) (u : HO)
    | tbl (ps : Array Value)
    | ext (φ : Heap → Prop)
noncomputable abbrev Hp := Addr → Option HO
noncomputable def upd (H : Hp) (a : Addr) (o : HO) : Hp := fun b => if b = a then some o else H b
theorem upd_same {H : Hp} {a : Addr} {o : HO} : upd H a o a = some o := by unfold upd; rw [if_pos rfl]
theorem upd_ne {H : Hp} {a b : Addr} {o : HO} (h : b ≠ a) : upd H a o b = H b := by unfold upd; rw [if_neg h]
theorem ne_of {H : Hp} {a b : Addr} {o u : HO} (h : H a = some o) (h' : H b = some u) (d : o ≠ u) : a ≠ b := by
  intro e; subst e; rw [h] at h'; exact d (Option.some.inj h')
theorem ne_of_none {H : Hp} {a b : Addr} {o : HO} (h : H a = some o) (h' : H b = none) : a ≠ b := by
  intro e; subst e; rw [h] at h'; cases h'
section
variable (P : Program) (w : World)
noncomputable def ObjOk (H : Hp) (h : Heap) (a : Addr) : HO → Prop
  | .lst xs => xs.length ≤ sizeLine ∧ ∃ (its : List Value) (n : Nat), Vals xs its ∧ h.get? a = some { cls := .type "list", data := .seq its.toArray n }
  | .tup xs => xs.length ≤ sizeLine ∧ ∃ its : List Value, Vals xs its ∧ IsTup h a its.toArray
  | .dK kvs => kvs.length ≤ sizeLine ∧ (a == sysModules) = false ∧ ∃ vs, KV kvs vs ∧ h.DictOf (mixKind P w) a vs
  | .dT kvs => kvs.length ≤ sizeLine ∧ (a == sysModules) = false ∧ ∃ xs : List (List Key × Addr × Value),
      Paired (fun (p : List Key × V) (q : List Key × Addr × Value) => p.1 = q.1 ∧ H q.2.1 = some (.tup (p.1.map kV)) ∧ RelV p.2 q.2.2) kvs xs ∧
      ∃ o es ep, h.get? a = some o ∧ o.ExactDict ∧ o.data = .dict es ep ∧ es.toList = xs.map (entryOfKey (tupleKind (mixKind P w))) ∧ (xs.map (·.1)).Nodup
  | .set S n => h.SetOf (intKind P w) a S n
  | .ins C dx fs => H dx = some (.own a) ∧ fs.length ≤ 1000 ∧ dx ≠ a ∧ h.get? a = some (PySem.W.instObj C dx) ∧
      ∃ mA, h.Ns1 dx mA ∧ (∀ f, RelO (fs.lookup f) (mA f)) ∧ PySem.Within mA (fs.map (·.1))
  | .own _ => ∃ o, h.get? a = some o
  | .xd fs => ∃ mA, h.Ns1 a mA ∧ ∀ f, RelO (fs.lookup f) (mA f)
  | .rng lo hi => ∃ t u v, h.get? a = some { cls := .type "range", data := .fields #[.int lo t, .int hi u, .int 1 v] }
  | .frz o u => h.get? a = some o ∧ ObjOk H h a u
  | .tbl ps => h.get? a = some { cls := .none, data := .fields ps }
  | .met f x => h.get? a = some (PySem.W.methodObj (.ref f) (.ref x))
  | .ext φ => φ h ∧ (∃ o, h.get? a = some o) ∧ ∀ h1 h2 : Heap, φ h1 → (∀ o, h1.get? a = some o → h2.get? a = some o) → φ h2
noncomputable def HOk (H : Hp) (h : Heap) : Prop := ∀ a o, H a = some o → ObjOk P w H h a o
end
section
variable {P : Program} {w : World} {H H' : Hp} {h h' : Heap} {a : Addr} {o : HO}
theorem ObjOk.lt (x : ObjOk P w H h a o) : a < h.objs.size := by
  cases o with
  | lst xs => obtain ⟨_, _, _, _, e⟩ := x; exact Heap.lt_size e
  | tup xs => obtain ⟨_, _, _, p⟩ := x; exact p.lt
  | dK kvs => obtain ⟨_, _, _, _, o, _, _, e, _⟩ := x; exact Heap.lt_size e
  | dT kvs => obtain ⟨_, _, _, _, o, _, _, e, _⟩ := x; exact Heap.lt_size e
  | set S n => obtain ⟨o, _, _, _, e, _⟩ := x; exact Heap.lt_size e
  | ins C dx fs => obtain ⟨_, _, _, e, _⟩ := x; exact Heap.lt_size e
  | own y => obtain ⟨_, e⟩ := x; exact Heap.lt_size e
  | xd fs => obtain ⟨_, ⟨_, _, _, e, _⟩, _⟩ := x; exact Heap.lt_size e
  | rng lo hi => obtain ⟨_, _, _, e⟩ := x; exact Heap.lt_size e
  | frz ob u => obtain ⟨e, _⟩ := x; exact Heap.lt_size e
  | tbl ps => exact Heap.lt_size (show h.get? a = some _ from x)
  | met f y => exact Heap.lt_size (show h.get? a = some _ from x)
  | ext φ => obtain ⟨_, ⟨_, e⟩, _⟩ := x; exact Heap.lt_size e
theorem Paired.mapP {α β : Type} {F G : α → β → Prop} : ∀ {l₁ : List α} {l₂ : List β}, Paired F l₁ l₂ → (∀ a b, F a b → G a b) → Paired G l₁ l₂
  | _, _, .nil, _ => .nil
  | _, _, .cons r t, f => .cons (f _ _ r) (Paired.mapP t f)
theorem ObjOk.stay (x : ObjOk P w H h a o) (k : ∀ b u, (b = a ∨ H b = some (.own a)) → h.get? b = some u → h'.get? b = some u)
    (ho : ∀ b, H b = some (.own a) → H' b = some (.own a)) (ht : ∀ b xs, H b = some (.tup xs) → H' b = some (.tup xs)) : ObjOk P w H' h' a o := by
  induction o with
  | lst xs => obtain ⟨z, its, n, r, e⟩ := x; exact ⟨z, its, n, r, k _ _ (.inl rfl) e⟩
  | tup xs => obtain ⟨z, its, r, ob, e, c⟩ := x; exact ⟨z, its, r, ob, k _ _ (.inl rfl) e, c⟩
  | dK kvs => obtain ⟨z, y, vs, r, ob, es, ep, e, c⟩ := x; exact ⟨z, y, vs, r, ob, es, ep, k _ _ (.inl rfl) e, c⟩
  | dT kvs =>
    obtain ⟨z, y, xs, r, ob, es, ep, e, c⟩ := x
    exact ⟨z, y, xs, Paired.mapP r fun p q z => ⟨z.1, ht _ _ z.2.1, z.2.2⟩, ob, es, ep, k _ _ (.inl rfl) e, c⟩
  | set S n => obtain ⟨ob, es, ep, t, e, c⟩ := x; exact ⟨ob, es, ep, t, k _ _ (.inl rfl) e, c⟩
  | ins C dx fs =>
    obtain ⟨d, z, ne, e, mA, ⟨od, es, ep, e2, c⟩, r⟩ := x
    exact ⟨ho _ d, z, ne, k _ _ (.inl rfl) e, mA, ⟨od, es, ep, k _ _ (.inr d) e2, c⟩, r⟩
  | own y => obtain ⟨ob, e⟩ := x; exact ⟨ob, k _ _ (.inl rfl) e⟩
  | xd fs => obtain ⟨mA, ⟨od, es, ep, e, c⟩, r⟩ := x; exact ⟨mA, ⟨od, es, ep, k _ _ (.inl rfl) e, c⟩, r⟩
  | rng lo hi => obtain ⟨t, u, v, e⟩ := x; exact ⟨t, u, v, k _ _ (.inl rfl) e⟩
  | frz ob u ih => obtain ⟨e, q⟩ := x; exact ⟨k _ _ (.inl rfl) e, ih q⟩
  | tbl ps =>
    have e : h.get? a = some { cls := .none, data := .fields ps } := x
    show h'.get? a = some { cls := .none, data := .fields ps }
    exact k a _ (.inl rfl) e
  | met f y =>
    have e : h.get? a = some (PySem.W.methodObj (.ref f) (.ref y)) := x
    show h'.get? a = some (PySem.W.methodObj (.ref f) (.ref y))
    exact k a _ (.inl rfl) e
  | ext φ => obtain ⟨p, ⟨o, e⟩, st⟩ := x; exact ⟨st _ _ p fun o q => k _ _ (.inl rfl) q, ⟨o, k _ _ (.inl rfl) e⟩, st⟩
theorem HOk.lt (x : HOk P w H h) (e : H a = some o) : a < h.objs.size := (x a o e).lt
theorem HOk.fresh (x : HOk P w H h) (e : h.objs.size ≤ a) : H a = none := by
  cases q : H a with
  | none => rfl
  | some u => exact absurd (Nat.lt_of_lt_of_le (x.lt q) e) (Nat.lt_irrefl _)
theorem HOk.kept (x : HOk P w H h) (k : ∀ b u, h.get? b = some u → h'.get? b = some u) : HOk P w H h' := fun a o e =>
  (x a o e).stay (fun b u _ q => k b u q) (fun _ q => q) fun _ _ q => q
theorem HOk.laid (x : HOk P w H h) (k : ∀ b u, h.get? b = some u → h'.get? b = some u) (hp : h.objs.size ≤ a) (new : ObjOk P w (upd H a o) h' a o) : HOk P w (upd H a o) h' := fun b u e => by
  have hn := x.fresh hp
  by_cases hb : b = a
  · subst hb; rw [upd_same] at e; cases e; exact new
  · rw [upd_ne hb] at e
    exact (x b u e).stay (fun c v _ q => k c v q) (fun c q => by rw [upd_ne (ne_of_none q hn)]; exact q) fun c xs q => by rw [upd_ne (ne_of_none q hn)]; exact q
end
noncomputable def Rd (H : Hp) (a : Addr) (u : HO) : Prop := H a = some u ∨ ∃ o, H a = some (.frz o u)
theorem Rd.ok {P : Program} {w : World} {H : Hp} {h : Heap} {a : Addr} {u : HO} (r : Rd H a u) (x : HOk P w H h) : ObjOk P w H h a u := by
  rcases r with r | ⟨o, r⟩
  · exact x a u r
  · obtain ⟨_, q⟩ := x a _ r
    exact q
noncomputable def Mut : Option HO → Prop
  | some (.lst _) => True
  | some (.dK _) => True
  | some (.dT _) => True
  | some (.set _ _) => True
  | some (.ins _ _ _) => True
  | some (.ext _) => True
  | _ => False
section
variable {P : Program} {w : World} {H : Hp} {h h' : Heap} {x e : Addr} {o' : HO}
theorem HOk.write (ok : HOk P w H h) (mu : Mut (H x)) (he : e = x ∨ H e = some (.own x)) (k : ∀ b u, b ≠ e → h.get? b = some u → h'.get? b = some u) (heo : ∃ u, h'.get? e = some u)
    (new : ObjOk P w (upd H x o') h' x o') : HOk P w (upd H x o') h' := fun b u q => by
  have nown : ∀ c y, H c = some (.own y) → c ≠ x := fun c y r z => by subst z; rw [r] at mu; exact mu
  have ntup : ∀ c xs, H c = some (.tup xs) → c ≠ x := fun c xs r z => by subst z; rw [r] at mu; exact mu
  by_cases hb : b = x
  · subst hb; rw [upd_same] at q; cases q; exact new
  · rw [upd_ne hb] at q
    by_cases hbe : b = e
    · have q' : H b = some (.own x) := by
        rcases he with z | z
        · exact absurd (hbe.trans z) hb
        · rw [hbe]; exact z
      rw [q] at q'; cases q'
      obtain ⟨v, hv⟩ := heo
      exact ⟨v, by rw [hbe]; exact hv⟩
    · refine (ok b u q).stay (fun c v hc r => k c v ?_ r) (fun c r => by rw [upd_ne (nown c b r)]; exact r) fun c xs r => by rw [upd_ne (ntup c xs r)]; exact r
      rcases hc with rfl | hc
      · exact hbe
      · rintro rfl
        rcases he with z | z
        · exact nown c b hc z
        · rw [hc] at z; cases z; exact hb rfl
end
structure Un (fs ex : List Addr) (H H' : Hp) (h h' : Heap) : Prop where
  keep : ∀ b o, h.get? b = some o → H b = none → b ∉ fs → b ∉ ex → h'.get? b = some o
  slot : ∀ b o, h.get? b = some o → H b = none → b ∈ fs → b ∉ ex → ∃ sl, h'.get? b = some { o with slots := sl }
  free : ∀ b o, h.get? b = some o → H b = none → b ∉ ex → H' b = none
  there : ∀ b o, h.get? b = some o → b ∉ ex → ∃ o', h'.get? b = some o'
  tups : ∀ b xs, H b = some (.tup xs) → H' b = some (.tup xs)
  frzs : ∀ b o u, H b = some (.frz o u) → H' b = some (.frz o u)
  tbls : ∀ b ps, H b = some (.tbl ps) → ∃ more, H' b = some (.tbl (ps ++ more))
section
variable {fs fs' ex ex' : List Addr} {H H1 H2 : Hp} {h h1 h2 h' : Heap} {a x e : Addr} {o : HO}
theorem Un.any (u : Un fs ex H H1 h h1) {b : Addr} {ob : Obj} (q : h.get? b = some ob) (n : H b = none) (hx : b ∉ ex) : ∃ sl, h1.get? b = some { ob with slots := sl } := by
  by_cases hb : b ∈ fs
  · exact u.slot b ob q n hb hx
  · exact ⟨ob.slots, u.keep b ob q n hb hx⟩
theorem Un.kept (k : ∀ b u, h.get? b = some u → h'.get? b = some u) : Un fs ex H H h h' :=
  ⟨fun b ob q _ _ _ => k b ob q, fun b ob q _ _ _ => ⟨ob.slots, k b ob q⟩, fun _ _ _ n _ => n, fun b ob q _ => ⟨ob, k b ob q⟩, fun _ _ q => q, fun _ _ _ q => q, fun _ ps q => ⟨#[], by rw [q]; simp⟩⟩
theorem Un.refl : Un fs ex H H h h := Un.kept fun _ _ q => q
theorem Un.laid (k : ∀ b u, h.get? b = some u → h'.get? b = some u) (hp : h.objs.size ≤ a) (hn : H a = none) : Un fs ex H (upd H a o) h h' where
  keep := fun b u q _ _ _ => k b u q
  slot := fun b u q _ _ _ => ⟨u.slots, k b u q⟩
  free := fun b u q n _ => by rw [upd_ne (Nat.ne_of_lt (Nat.lt_of_lt_of_le (Heap.lt_size q) hp))]; exact n
  there := fun b u q _ => ⟨u, k b u q⟩
  tups := fun b xs q => by rw [upd_ne (ne_of_none q hn)]; exact q
  frzs := fun b u xs q => by rw [upd_ne (ne_of_none q hn)]; exact q
  tbls := fun b ps q => ⟨#[], by rw [upd_ne (ne_of_none q hn), q]; simp⟩
theorem Un.write (mu : Mut (H x)) (he : e = x ∨ H e = some (.own x)) (k : ∀ b u, b ≠ e → h.get? b = some u → h'.get? b = some u) (heo : ∃ u, h'.get? e = some u) : Un fs ex H (upd H x o) h h' := by
  have hx : ∀ b, H b = none → b ≠ x := fun b n z => by subst z; rw [n] at mu; exact mu
  have hb : ∀ b, H b = none → b ≠ e := fun b n z => by
    subst z
    rcases he with r | r
    · exact hx b n r
    · rw [n] at r; cases r
  have hm : ∀ b u, H b = some u → ¬ Mut (some u) → b ≠ x := fun b u q nm z => by subst z; rw [q] at mu; exact nm mu
  refine ⟨fun b u q n _ _ => k b u (hb b n) q, fun b u q n _ _ => ⟨u.slots, k b u (hb b n) q⟩, fun b u q n _ => by rw [upd_ne (hx b n)]; exact n, fun b u q _ => ?_,
    fun b xs q => by rw [upd_ne (hm b _ q fun z => z)]; exact q, fun b u xs q => by rw [upd_ne (hm b _ q fun z => z)]; exact q, fun b ps q => ⟨#[], by rw [upd_ne (hm b _ q fun z => z), q]; simp⟩⟩
  by_cases hbe : b = e
  · subst hbe; exact heo
  · exact ⟨u, k b u hbe q⟩
end
noncomputable def trk (h : Heap) (H : Hp) : List Addr := (List.range h.objs.size).filter fun a => (H a).isSome
noncomputable def hidT (h : Heap) (H : Hp) : Heap := PySem.W.hideAll h (trk h H)
theorem hidT_size (h : Heap) (H : Hp) : (hidT h H).objs.size = h.objs.size := PySem.W.hideAll_size _ _
theorem hidT_get {h : Heap} {H : Hp} {b : Addr} {o : Obj} (e : h.get? b = some o) (n : H b = none) : (hidT h H).get? b = some o :=
  PySem.W.hideAll_get _ e fun hm => by
    have q : (H b).isSome = true := (List.mem_filter.mp hm).2
    rw [n] at q; simp at q
theorem of_hidT {h : Heap} {H : Hp} {b : Addr} {o : Obj} (e : (hidT h H).get? b = some o) : h.get? b = some o ∧ H b = none := by
  have e' : h.get? b = some o := PySem.W.of_hideAll (trk h H) e
  refine ⟨e', ?_⟩
  cases q : H b with
  | none => rfl
  | some x =>
    have hm : b ∈ trk h H := List.mem_filter.mpr ⟨List.mem_range.mpr (Heap.lt_size e'), by simp [q]⟩
    have z : (hidT h H).get? b = none := PySem.W.hideAll_none (trk h H) hm
    rw [z] at e; cases e
noncomputable def allNews (g h : Heap) (L : Addr) : List (Addr × Obj) := (List.range h.objs.size).filterMap fun a => if a = L ∨ (g.get? a).isSome = true then none else (h.get? a).map fun o => (a, o)
noncomputable def rest (g h : Heap) (L d : Addr) : List (Addr × Obj) := (allNews g h L).filter fun p => decide (p.1 ≠ d)
end L2
namespace L2
open PySem PySem.Spec PyProof.Rows
structure Mod (K : PySem.W.Frag) (mg : Str → Option Value) (base : Heap) : Prop where
  kin : K.In base
  glob : base.Ns mainGlobals mg
  blt : ∃ mb, base.Ns builtinsNs mb ∧ ∀ x : Str, x ≠ "__name__" → mb x = bootBuiltins x
  nolimit : base.NoLimit
structure Cx where
  prog : Program
  w : World
  K : PySem.W.Frag
  mg : Str → Option Value
  base : Heap
  A : Around
  N : List Str
  s₀ : Shared
  H₀ : Hp
  env : Env
  outer : List Env
  stack : List Env
  ex : List Addr
  fn : Str → Bool
  calm : Bool
  pn : List (Addr × Obj)
  xe : Value → Shared → Prop
noncomputable def frs (l : List Env) : List Addr := l.filterMap (·.frame)
noncomputable abbrev Cx.fs (X : Cx) : List Addr := frs X.outer
noncomputable def Vis (sc : Scope) (x : Str) : Prop := sc.names.lookup x = some .local ∨ sc.names.lookup x = some .cell ∨ sc.names.lookup x = some .free
noncomputable def Loc (sc : Scope) (x : Str) : Prop := sc.names.lookup x = some .local ∨ sc.names.lookup x = some .cell
noncomputable def Look (env : Env) (h : Heap) (m : Str → Option Value) (x : Str) (u : Value) : Prop :=
  (env.kindOf x = some .local ∧ m x = some u) ∨ ((env.kindOf x = some .cell ∨ env.kindOf x = some .free) ∧ ∃ c, env.cells.lookup x = some c ∧ h.IsCell c (some u))
structure Cx.Ok (X : Cx) : Prop where
  mod : Mod X.K X.mg X.base
  kind : X.env.scope.kind = .function
  glob : X.env.globals = mainGlobals
  blt : X.env.builtins = builtinsNs
  above : X.s₀.heap.objs.size ≤ X.env.locals
  inj : ∀ x y c, X.env.cells.lookup x = some c → X.env.cells.lookup y = some c → x = y
  has : ∀ x, (X.env.kindOf x = some .cell ∨ X.env.kindOf x = some .free) → ∃ c, X.env.cells.lookup x = some c
  cab : ∀ x c, X.fn x = true → X.env.cells.lookup x = some c → X.s₀.heap.objs.size ≤ c
  hd : X.calm = true → X.A.handled = none
  frames : X.A.frames = some X.stack
  stk : X.stack = X.outer ∨ (X.stack = X.env :: X.outer ∧ X.env.frame = some X.env.locals)
  exf : ∀ b ∈ X.ex, b ≠ X.env.locals ∧ ∀ x c, X.env.cells.lookup x = some c → c ≠ b
  bs : ∀ b o, X.base.get? b = some o → X.s₀.heap.get? b = some o ∧ X.H₀ b = none
  bsz : X.base.objs.size ≤ X.s₀.heap.objs.size
  noex : ∀ b o, X.base.get? b = some o → b ∉ X.ex
  exfs : ∀ b ∈ X.ex, b ∉ X.fs
  funs : X.s₀.heap.FunFrames X.base X.outer
  frf : ∀ b ∈ X.fs, X.H₀ b = none
structure Inv (X : Cx) (pins : List (Addr × Obj)) (σ : List (Option V)) (H : Hp) (s : Shared) : Prop where
  ok : X.Ok
  os : s.os = X.s₀.os
  bare : AllBare s.gens
  base : Un X.fs X.ex X.H₀ H X.s₀.heap s.heap
  loc : ∃ m, s.heap.Ns X.env.locals m ∧ ∀ (i : Nat) (x : Str) (v : V), X.N[i]? = some x → σ[i]? = some (some v) → Vis X.env.scope x → ∃ u, RelV v u ∧ Look X.env s.heap m x u
  cell : ∀ x c, X.env.cells.lookup x = some c → ∃ v, s.heap.IsCell c v
  free : H X.env.locals = none
  freeC : ∀ x c, X.env.cells.lookup x = some c → H c = none
  pin : ∀ p ∈ X.pn ++ pins, s.heap.get? p.1 = some p.2 ∧ H p.1 = none ∧ p.1 ≠ X.env.locals ∧ p.1 ∉ X.fs ∧ ∀ v, p.2.data ≠ .cell v
  hok : HOk X.prog X.w H s.heap
  len : σ.length = X.N.length
section
variable {X : Cx} {pins : List (Addr × Obj)} {σ : List (Option V)} {H H' : Hp} {s : Shared} {h' : Heap}
theorem Cx.Ok.nofr (ok : X.Ok) {b : Addr} {o : Obj} (e : X.base.get? b = some o) : b ∉ X.fs := fun hb => by
  have := (ok.funs.mem hb).1
  rw [e] at this; cases this
theorem Inv.bs (I : Inv X pins σ H s) : ∀ b o, X.base.get? b = some o → s.heap.get? b = some o ∧ H b = none := fun b o e =>
  ⟨I.base.keep b o (I.ok.bs b o e).1 (I.ok.bs b o e).2 (I.ok.nofr e) (I.ok.noex b o e), I.base.free b o (I.ok.bs b o e).1 (I.ok.bs b o e).2 (I.ok.noex b o e)⟩
theorem Inv.bk (I : Inv X pins σ H s) : ∀ b o, X.base.get? b = some o → s.heap.get? b = some o := fun b o e => (I.bs b o e).1
theorem Inv.mod (I : Inv X pins σ H s) : Mod X.K X.mg X.base := I.ok.mod
theorem Inv.kIn (I : Inv X pins σ H s) : X.K.In s.heap := I.ok.mod.kin.keeps I.bk
theorem Inv.lt (I : Inv X pins σ H s) : X.env.locals < s.heap.objs.size := let ⟨_, hn, _⟩ := I.loc; hn.lt
theorem Inv.sz (I : Inv X pins σ H s) : X.s₀.heap.objs.size ≤ s.heap.objs.size := Nat.le_trans I.ok.above (Nat.le_of_lt I.lt)
theorem Inv.nofs (I : Inv X pins σ H s) {a : Addr} (h : s.heap.objs.size ≤ a) : a ∉ X.fs := fun hb => by
  obtain ⟨_, o, ho, _⟩ := I.ok.funs.mem hb
  exact absurd (Nat.lt_of_lt_of_le (Heap.lt_size ho) (Nat.le_trans I.sz h)) (Nat.lt_irrefl _)
theorem Inv.cne (I : Inv X pins σ H s) : ∀ x c, X.env.cells.lookup x = some c → c ≠ X.env.locals := fun x c e z => by
  obtain ⟨v, o, ho, hd⟩ := I.cell x c e
  obtain ⟨m, ⟨o', es, ep, ho', hd', _⟩, _⟩ := I.loc
  rw [z, ho'] at ho; cases ho; rw [hd'] at hd; cases hd
theorem Inv.funs (I : Inv X pins σ H s) : s.heap.FunFrames X.base X.outer := by
  have all : ∀ (l : List Env), (∀ b ∈ frs l, b ∈ X.fs) → X.s₀.heap.FunFrames X.base l → s.heap.FunFrames X.base l := by
    intro l
    induction l with
    | nil => intro _ _; trivial
    | cons env r ih =>
      intro hs hl
      obtain ⟨hk, ⟨L, o, hf, hn, ho, hd⟩, hr⟩ := hl
      have hL : L ∈ X.fs := hs L (by unfold frs; rw [List.filterMap_cons, hf]; exact List.mem_cons_self)
      obtain ⟨sl, e⟩ := I.base.slot L o ho (I.ok.frf L hL) hL fun z => I.ok.exfs L z hL
      exact ⟨hk, ⟨L, _, hf, hn, e, hd⟩, ih (fun b hb => hs b (by unfold frs; rw [List.filterMap_cons, hf]; exact List.mem_cons_of_mem _ hb)) hr⟩
  exact all X.outer (fun _ hb => hb) I.ok.funs
theorem Inv.stack (I : Inv X pins σ H s) : s.heap.FunFrames X.base X.stack := by
  rcases I.ok.stk with e | ⟨e, hf⟩
  · rw [e]; exact I.funs
  · rw [e]
    obtain ⟨m, hn, _⟩ := I.loc
    refine .cons (by rw [I.ok.kind]; decide) hf hn ?_ I.funs
    exact Heap.get?_none_of_le (Nat.le_trans I.ok.bsz I.ok.above)
theorem Inv.stkSub (I : Inv X pins σ H s) : ∀ b ∈ frs X.stack, b ∈ X.env.locals :: X.fs := fun b hb => by
  rcases I.ok.stk with e | ⟨e, hf⟩
  · rw [e] at hb; exact List.mem_cons_of_mem _ hb
  · rw [e] at hb
    unfold frs at hb
    rw [List.filterMap_cons, hf] at hb
    exact hb
theorem Inv.stkFree (I : Inv X pins σ H s) : ∀ b ∈ frs X.stack, H b = none := fun b hb => by
  rcases List.mem_cons.mp (I.stkSub b hb) with e | hb
  · rw [e]; exact I.free
  · obtain ⟨_, o, ho, _⟩ := I.ok.funs.mem hb
    exact I.base.free b o ho (I.ok.frf b hb) fun z => I.ok.exfs b z hb
theorem Inv.step {g' : Array GenState} {t' : Nat} {d' : Drawn} {ch : List Addr} (I : Inv X pins σ H s)
    (hch : ∀ b ∈ ch, (b ∈ X.ex ∨ X.s₀.heap.objs.size ≤ b) ∧ b ≠ X.env.locals ∧ (∀ x c, X.env.cells.lookup x = some c → c ≠ b) ∧ ∀ p ∈ X.pn ++ pins, p.1 ≠ b)
    (keep : ∀ b o, b ≠ X.env.locals → b ∉ X.fs → b ∉ ch → s.heap.get? b = some o → H b = none → h'.get? b = some o)
    (slot : ∀ b o, b ≠ X.env.locals → b ∈ X.fs → b ∉ ch → s.heap.get? b = some o → H b = none → ∃ sl, h'.get? b = some { o with slots := sl }) (free : ∀ b o, b ∉ ch → s.heap.get? b = some o → H b = none → H' b = none)
    (there : ∀ b o, b ∉ ch → s.heap.get? b = some o → ∃ o', h'.get? b = some o')
    (tups : ∀ b xs, H b = some (.tup xs) → H' b = some (.tup xs)) (frzs : ∀ b o u, H b = some (.frz o u) → H' b = some (.frz o u)) (tbls : ∀ b ps, H b = some (.tbl ps) → ∃ more, H' b = some (.tbl (ps ++ more)))
    (ns : ∀ m, s.heap.Ns X.env.locals m → h'.Ns X.env.locals m) (hok : HOk X.prog X.w H' h') (hg : AllBare g') :
    Inv X pins σ H' { s with heap := h', gens := g', drawn := d', toks := t' } := by
  have neL : ∀ b o, X.s₀.heap.get? b = some o → b ≠ X.env.locals := fun b o e => Nat.ne_of_lt (Nat.lt_of_lt_of_le (Heap.lt_size e) I.ok.above)
  have neC : ∀ b o, X.s₀.heap.get? b = some o → b ∉ X.ex → b ∉ ch := fun b o e hx hb => by
    rcases (hch b hb).1 with z | z
    · exact hx z
    · exact absurd (Nat.lt_of_lt_of_le (Heap.lt_size e) z) (Nat.lt_irrefl _)
  have cellK : ∀ x c, X.env.cells.lookup x = some c → ∀ v, s.heap.IsCell c v → h'.IsCell c v := fun x c e v ⟨o, ho, hd⟩ => by
    have nch : c ∉ ch := fun z => (hch c z).2.2.1 x c e rfl
    by_cases hc : c ∈ X.fs
    · obtain ⟨sl, q⟩ := slot c o (I.cne x c e) hc nch ho (I.freeC x c e)
      exact ⟨_, q, hd⟩
    · exact ⟨o, keep c o (I.cne x c e) hc nch ho (I.freeC x c e), hd⟩
  refine ⟨I.ok, I.os, hg, ⟨fun b o e n hb hx => ?_, fun b o e n hb hx => ?_, fun b o e n hx => ?_, fun b o e hx => ?_, fun b xs e => tups b xs (I.base.tups b xs e), fun b o xs e => frzs b o xs (I.base.frzs b o xs e), fun b ps e => ?_⟩, ?_, fun x c e => ?_, ?_, fun x c e => ?_, fun p hp => ?_, hok, I.len⟩
  · exact keep b o (neL b o e) hb (neC b o e hx) (I.base.keep b o e n hb hx) (I.base.free b o e n hx)
  · obtain ⟨sl, e1⟩ := I.base.slot b o e n hb hx
    obtain ⟨sl', e2⟩ := slot b _ (neL b o e) hb (neC b o e hx) e1 (I.base.free b o e n hx)
    exact ⟨sl', e2⟩
  · obtain ⟨o', e1⟩ := I.base.there b o e hx
    exact free b o' (neC b o e hx) e1 (I.base.free b o e n hx)
  · obtain ⟨o', e1⟩ := I.base.there b o e hx
    exact there b o' (neC b o e hx) e1
  · obtain ⟨m1, e1⟩ := I.base.tbls b ps e
    obtain ⟨m2, e2⟩ := tbls b _ e1
    exact ⟨m1 ++ m2, by rw [e2, Array.append_assoc]⟩
  · obtain ⟨m, hn, hl⟩ := I.loc
    refine ⟨m, ns m hn, fun i x v e1 e2 e3 => ?_⟩
    obtain ⟨u, r, l⟩ := hl i x v e1 e2 e3
    refine ⟨u, r, ?_⟩
    rcases l with l | ⟨k, c, e, z⟩
    · exact .inl l
    · exact .inr ⟨k, c, e, cellK x c e _ z⟩
  · obtain ⟨v, z⟩ := I.cell x c e
    exact ⟨v, cellK x c e v z⟩
  · obtain ⟨m, ⟨o, _, _, ho, _⟩, _⟩ := I.loc
    exact free _ o (fun z => (hch _ z).2.1 rfl) ho I.free
  · obtain ⟨v, o, ho, hd⟩ := I.cell x c e
    exact free c o (fun z => (hch c z).2.2.1 x c e rfl) ho (I.freeC x c e)
  · obtain ⟨e, n, ne, nf, d⟩ := I.pin p hp
    have nch : p.1 ∉ ch := fun z => (hch p.1 z).2.2.2 p hp rfl
    exact ⟨keep p.1 p.2 ne nf nch e n, free p.1 p.2 nch e n, ne, nf, d⟩
theorem Inv.un {t' : Nat} (I : Inv X pins σ H s) (u : Un X.fs [] H H' s.heap h') (hok : HOk X.prog X.w H' h') : Inv X pins σ H' { s with heap := h', toks := t' } := by
  obtain ⟨m, ⟨o, es, ep, ho, r⟩, _⟩ := id I.loc
  obtain ⟨sl, hL⟩ := u.any ho I.free (by simp)
  exact I.step (g' := s.gens) (d' := s.drawn) (ch := []) (fun _ z => nomatch z) (fun b o _ hb _ e n => u.keep b o e n hb (by simp)) (fun b o _ hb _ e n => u.slot b o e n hb (by simp)) (fun b o _ e n => u.free b o e n (by simp)) (fun b o _ e => u.there b o e (by simp)) u.tups u.frzs u.tbls (fun m' hm => by
    obtain ⟨o', es', ep', ho', r'⟩ := hm
    rw [ho] at ho'; cases ho'
    exact ⟨_, es', ep', hL, r'⟩) hok I.bare
theorem Inv.call {g' : Array GenState} {t' : Nat} {d' : Drawn} {ch : List Addr} (I : Inv X pins σ H s) (u : Un (frs X.stack) ch H H' s.heap h') (hok : HOk X.prog X.w H' h') (hg : AllBare g')
    (hch : ∀ b ∈ ch, (b ∈ X.ex ∨ X.s₀.heap.objs.size ≤ b) ∧ b ≠ X.env.locals ∧ (∀ x c, X.env.cells.lookup x = some c → c ≠ b) ∧ ∀ p ∈ X.pn ++ pins, p.1 ≠ b) :
    Inv X pins σ H' { s with heap := h', gens := g', drawn := d', toks := t' } := by
  obtain ⟨m, ⟨o, es, ep, ho, r⟩, _⟩ := id I.loc
  obtain ⟨sl, hL⟩ := u.any ho I.free fun z => (hch _ z).2.1 rfl
  exact I.step (ch := ch) hch (fun b o hL hb hc e n => u.keep b o e n (fun z => (List.mem_cons.mp (I.stkSub b z)).elim hL hb) hc) (fun b o _ _ hc e n => u.any e n hc) (fun b o hc e n => u.free b o e n hc) (fun b o hc e => u.there b o e hc) u.tups u.frzs u.tbls (fun m' hm => by
    obtain ⟨o', es', ep', ho', r'⟩ := hm
    rw [ho] at ho'; cases ho'
    exact ⟨_, es', ep', hL, r'⟩) hok hg
theorem Inv.turned {t' : Nat} {it : Addr} (I : Inv X pins σ H s) (k : ∀ b o, b ≠ it → s.heap.get? b = some o → h'.get? b = some o) (hn : H it = none) (hL : it ≠ X.env.locals)
    (h1 : it ∈ X.ex ∨ X.s₀.heap.objs.size ≤ it) (h2 : ∀ x c, X.env.cells.lookup x = some c → c ≠ it) (h3 : ∀ p ∈ X.pn ++ pins, p.1 ≠ it) : Inv X pins σ H { s with heap := h', toks := t' } := by
  have nit : ∀ b u, H b = some u → b ≠ it := fun b u e z => by rw [z, hn] at e; cases e
  refine I.step (g' := s.gens) (d' := s.drawn) (ch := [it]) (fun b hb => ?_) (fun b o _ _ hc e _ => k b o (fun z => hc (by simp [z])) e) (fun b o _ _ hc e _ => ⟨o.slots, k b o (fun z => hc (by simp [z])) e⟩) (fun _ _ _ _ n => n)
    (fun b o hc e => ⟨o, k b o (fun z => hc (by simp [z])) e⟩) (fun _ _ e => e) (fun _ _ _ e => e) (fun b ps e => ⟨#[], by rw [e]; simp⟩) (fun m hm => ?_) (fun b u e => ?_) I.bare
  · have e : b = it := by simpa using hb
    subst e
    exact ⟨h1, hL, h2, h3⟩
  · obtain ⟨o, es, ep, ho, r⟩ := hm
    exact ⟨o, es, ep, k _ o (Ne.symm hL) ho, r⟩
  · refine (I.hok b u e).stay (fun c v hc q => k c v ?_ q) (fun _ q => q) fun _ _ q => q
    rcases hc with z | z
    · rw [z]; exact nit b u e
    · exact nit c _ z
theorem Inv.tok (I : Inv X pins σ H s) (t : Nat) : Inv X pins σ H { s with toks := t } := I.un (h' := s.heap) (t' := t) Un.refl I.hok
theorem Inv.kept {t' : Nat} (I : Inv X pins σ H s) (k : ∀ b u, s.heap.get? b = some u → h'.get? b = some u) : Inv X pins σ H { s with heap := h', toks := t' } := I.un (Un.kept k) (I.hok.kept k)
theorem Inv.laid {a : Addr} {o : HO} {t' : Nat} (I : Inv X pins σ H s) (k : ∀ b u, s.heap.get? b = some u → h'.get? b = some u) (hp : s.heap.objs.size ≤ a) (new : ObjOk X.prog X.w (upd H a o) h' a o) :
    Inv X pins σ (upd H a o) { s with heap := h', toks := t' } := I.un (Un.laid k hp (I.hok.fresh hp)) (I.hok.laid k hp new)
theorem Inv.write {x e : Addr} {o : HO} {t' : Nat} (I : Inv X pins σ H s) (mu : Mut (H x)) (he : e = x ∨ H e = some (.own x)) (k : ∀ b u, b ≠ e → s.heap.get? b = some u → h'.get? b = some u) (heo : ∃ u, h'.get? e = some u)
    (new : ObjOk X.prog X.w (upd H x o) h' x o) : Inv X pins σ (upd H x o) { s with heap := h', toks := t' } := I.un (Un.write mu he k heo) (I.hok.write mu he k heo new)
theorem Inv.pins_of {pins' : List (Addr × Obj)} (I : Inv X pins σ H s) (h : ∀ p ∈ pins', s.heap.get? p.1 = some p.2 ∧ H p.1 = none ∧ p.1 ≠ X.env.locals ∧ p.1 ∉ X.fs ∧ ∀ v, p.2.data ≠ .cell v) : Inv X pins' σ H s :=
  ⟨I.ok, I.os, I.bare, I.base, I.loc, I.cell, I.free, I.freeC, fun p hp => (List.mem_append.mp hp).elim (fun z => I.pin p (List.mem_append_left _ z)) (h p), I.hok, I.len⟩
theorem nodup_ix {N : List Str} (hN : N.Nodup) {i j : Nat} {x : Str} (a : N[i]? = some x) (b : N[j]? = some x) : i = j := by
  obtain ⟨h1, e1⟩ := List.getElem?_eq_some_iff.mp a
  obtain ⟨h2, e2⟩ := List.getElem?_eq_some_iff.mp b
  exact (List.getElem_inj hN).mp (e1.trans e2.symm)
theorem store_ok2 {M : Model} {A : Around} {E : Value → Shared → Prop} {i : Nat} {x : Str} {v : V} {u : Value} {Q : Unit → Shared → Prop} (I : Inv X pins σ H s) (hN : X.N.Nodup) (hi : X.N[i]? = some x) (hx : Loc X.env.scope x) (r : RelV v u)
    (h : ∀ s', Inv X pins (σ.set i (some v)) H s' → (∃ a, Heap.SameBut a s.heap s'.heap ∧ (a = X.env.locals ∨ X.env.cells.lookup x = some a)) → Q () s') (hf : X.fn x = true ∨ X.env.scope.names.lookup x = some .local := by first | exact .inl rfl | exact .inr rfl | assumption) : wpAny M A (storeName X.env x u) Q E s := by
  obtain ⟨m, hn, hl⟩ := id I.loc
  have hcls : (X.env.scope.kind == .class || (X.env.scope.kind == .module && X.env.locals != X.env.globals)) = false := by rw [I.ok.kind]; rfl
  have hiσ : i < σ.length := by rw [I.len]; exact (List.getElem?_eq_some_iff.mp hi).1
  have cne := I.cne
  have tracked : ∀ {a : Addr} {h' : Heap}, (∃ o, s.heap.get? a = some o ∧ H a = none) → Heap.SameBut a s.heap h' → HOk X.prog X.w H h' := fun {a h'} ha hs b ob e => by
    obtain ⟨_, _, hfree⟩ := ha
    refine (I.hok b ob e).stay (fun c w' hc q => (hs.2 c ?_).trans q) (fun _ q => q) fun _ _ q => q
    rintro rfl
    rcases hc with rfl | hc
    · rw [hfree] at e; cases e
    · rw [hfree] at hc; cases hc
  rcases hx with hk | hk
  · refine wpAny_storeName_local hk hn (fun h' hn' hs => ?_) hcls
    obtain ⟨oL, _, _, hoL, _⟩ := id hn
    refine h _ ⟨I.ok, I.os, I.bare, ⟨fun b o e n hb hx => ?_, fun b o e n hb hx => ?_, I.base.free, fun b o e hx => ?_, I.base.tups, I.base.frzs, I.base.tbls⟩, ⟨_, hn', fun j y v' e1 e2 e3 => ?_⟩, fun y c e => ?_, I.free, I.freeC, fun p hp => ?_, tracked ⟨oL, hoL, I.free⟩ hs, by simpa using I.len⟩ ⟨_, hs, .inl rfl⟩
    · exact (hs.2 b (Nat.ne_of_lt (Nat.lt_of_lt_of_le (Heap.lt_size e) I.ok.above))).trans (I.base.keep b o e n hb hx)
    · obtain ⟨sl, e1⟩ := I.base.slot b o e n hb hx
      exact ⟨sl, (hs.2 b (Nat.ne_of_lt (Nat.lt_of_lt_of_le (Heap.lt_size e) I.ok.above))).trans e1⟩
    · obtain ⟨o', e1⟩ := I.base.there b o e hx
      exact ⟨o', (hs.2 b (Nat.ne_of_lt (Nat.lt_of_lt_of_le (Heap.lt_size e) I.ok.above))).trans e1⟩
    · by_cases hj : j = i
      · subst hj
        rw [hi] at e1; cases e1
        rw [List.getElem?_set_self hiσ] at e2
        cases e2
        exact ⟨u, r, .inl ⟨hk, by simp⟩⟩
      · rw [List.getElem?_set_ne (Ne.symm hj)] at e2
        obtain ⟨u', r', q⟩ := hl j y v' e1 e2 e3
        refine ⟨u', r', ?_⟩
        rcases q with ⟨k, e⟩ | ⟨k, c, e, z⟩
        · refine .inl ⟨k, ?_⟩
          have : y ≠ x := fun e => hj (nodup_ix hN e1 (e ▸ hi))
          simp [this, e]
        · exact .inr ⟨k, c, e, z.sameBut hs (cne y c e)⟩
    · obtain ⟨w', z⟩ := I.cell y c e
      exact ⟨w', z.sameBut hs (cne y c e)⟩
    · obtain ⟨e, n, ne, nf, d⟩ := I.pin p hp
      exact ⟨(hs.2 p.1 ne).trans e, n, ne, nf, d⟩
  · have hfn : X.fn x = true := by
      rcases hf with z | z
      · exact z
      · rw [z] at hk; cases hk
    obtain ⟨c, hc⟩ := I.ok.has x (.inl hk)
    obtain ⟨w', z⟩ := I.cell x c hc
    refine wpAny_storeName_cell I.ok.kind hk hc z (fun h' hc' hs => ?_)
    obtain ⟨oc, hoc, hocd⟩ := id z
    refine h { s with heap := h' } ⟨I.ok, I.os, I.bare, ⟨fun b o e n hb hx => ?_, fun b o e n hb hx => ?_, I.base.free, fun b o e hx => ?_, I.base.tups, I.base.frzs, I.base.tbls⟩, ⟨m, hn.sameBut hs (Ne.symm (cne x c hc)), fun j y v' e1 e2 e3 => ?_⟩, fun y c' e => ?_, I.free, I.freeC, fun p hp => ?_, tracked ⟨oc, hoc, I.freeC x c hc⟩ hs, by simpa using I.len⟩ ⟨c, hs, .inr hc⟩
    · exact (hs.2 b (Nat.ne_of_lt (Nat.lt_of_lt_of_le (Heap.lt_size e) (I.ok.cab x c hfn hc)))).trans (I.base.keep b o e n hb hx)
    · obtain ⟨sl, e1⟩ := I.base.slot b o e n hb hx
      exact ⟨sl, (hs.2 b (Nat.ne_of_lt (Nat.lt_of_lt_of_le (Heap.lt_size e) (I.ok.cab x c hfn hc)))).trans e1⟩
    · obtain ⟨o', e1⟩ := I.base.there b o e hx
      exact ⟨o', (hs.2 b (Nat.ne_of_lt (Nat.lt_of_lt_of_le (Heap.lt_size e) (I.ok.cab x c hfn hc)))).trans e1⟩
    · by_cases hj : j = i
      · subst hj
        rw [hi] at e1; cases e1
        rw [List.getElem?_set_self hiσ] at e2
        cases e2
        exact ⟨u, r, .inr ⟨.inl hk, c, hc, hc'⟩⟩
      · rw [List.getElem?_set_ne (Ne.symm hj)] at e2
        obtain ⟨u', r', q⟩ := hl j y v' e1 e2 e3
        refine ⟨u', r', ?_⟩
        rcases q with q | ⟨k, c', e, z'⟩
        · exact .inl q
        · refine .inr ⟨k, c', e, z'.sameBut hs ?_⟩
          rintro rfl
          exact hj (nodup_ix hN e1 (I.ok.inj _ _ _ e hc ▸ hi))
    · by_cases hcc : c' = c
      · subst hcc; exact ⟨_, hc'⟩
      · obtain ⟨w2, z2⟩ := I.cell y c' e
        exact ⟨w2, z2.sameBut hs hcc⟩
    · obtain ⟨e, n, ne, nf, d⟩ := I.pin p hp
      refine ⟨(hs.2 p.1 ?_).trans e, n, ne, nf, d⟩
      intro q
      rw [q, hoc] at e
      have q' : oc = p.2 := Option.some.inj e
      exact d w' (by rw [← q']; exact hocd)
theorem store_ok {M : Model} {A : Around} {E : Value → Shared → Prop} {i : Nat} {x : Str} {v : V} {u : Value} {Q : Unit → Shared → Prop} (I : Inv X pins σ H s) (hN : X.N.Nodup) (hi : X.N[i]? = some x) (hx : Loc X.env.scope x) (r : RelV v u)
    (h : ∀ s', Inv X pins (σ.set i (some v)) H s' → Q () s') (hf : X.fn x = true ∨ X.env.scope.names.lookup x = some .local := by first | exact .inl rfl | exact .inr rfl | assumption) : wpAny M A (storeName X.env x u) Q E s :=
  store_ok2 I hN hi hx r (fun s' I' _ => h s' I') hf
theorem Inv.call' {s' : Shared} {ch : List Addr} (I : Inv X pins σ H s) (ho : s'.os = s.os) (u : Un (frs X.stack) ch H H' s.heap s'.heap) (hok : HOk X.prog X.w H' s'.heap) (hg : AllBare s'.gens)
    (hch : ∀ b ∈ ch, (b ∈ X.ex ∨ X.s₀.heap.objs.size ≤ b) ∧ b ≠ X.env.locals ∧ (∀ x c, X.env.cells.lookup x = some c → c ≠ b) ∧ ∀ p ∈ X.pn ++ pins, p.1 ≠ b) : Inv X pins σ H' s' := by
  obtain ⟨h', g', d', t', o'⟩ := s'
  have e : o' = s.os := ho
  subst e
  exact I.call (g' := g') (t' := t') (d' := d') u hok hg hch
end
noncomputable abbrev XK := Value → Option Addr → Hp → Prop
noncomputable abbrev St := List (Option V)
noncomputable abbrev VK := V → Hp → Prop
noncomputable abbrev TE := St → Hp → VK → Prop
noncomputable abbrev TT := St → Hp → (Bool → Hp → Prop) → Prop
noncomputable abbrev TA := St → Hp → (List V → Hp → Prop) → Prop
structure Ends where
  nx : St → Hp → Prop
  rt : VK
  bk : St → Hp → Prop := fun _ _ => False
  ct : St → Hp → Prop := fun _ _ => False
noncomputable abbrev TS := Ends → St → Hp → Prop
noncomputable def EP (X : Cx) (pins : List (Addr × Obj)) (σ : St) (Q : VK) (u : Value) (s' : Shared) : Prop := ∃ v H', Inv X pins σ H' s' ∧ RelV v u ∧ Q v H'
noncomputable def TP (X : Cx) (pins : List (Addr × Obj)) (σ : St) (Q : Bool → Hp → Prop) (b : Bool) (s' : Shared) : Prop := ∃ H', Inv X pins σ H' s' ∧ Q b H'
noncomputable def AP (X : Cx) (pins : List (Addr × Obj)) (σ : St) (Q : List V → Hp → Prop) (us : List Value) (s' : Shared) : Prop := ∃ vs H', Inv X pins σ H' s' ∧ Vals vs us ∧ Q vs H'
noncomputable def SP (X : Cx) (pins : List (Addr × Obj)) (D : Ends) (f : Flow) (s' : Shared) : Prop :=
  match f with
  | .next => ∃ σ' H', Inv X pins σ' H' s' ∧ D.nx σ' H'
  | .brk => ∃ σ' H', Inv X pins σ' H' s' ∧ D.bk σ' H'
  | .cont => ∃ σ' H', Inv X pins σ' H' s' ∧ D.ct σ' H'
  | .ret u => ∃ v σ' H', Inv X pins σ' H' s' ∧ RelV v u ∧ D.rt v H'
noncomputable def PE (X : Cx) (e : Expr) (t : TE) : Prop :=
  ∀ (pins : List (Addr × Obj)) (s : Shared) (σ : St) (H : Hp) (Q : VK), Inv X pins σ H s → t σ H Q → wpAny (model X.prog X.w) X.A (eval e X.env) (EP X pins σ Q) X.xe s
noncomputable def PT (X : Cx) (e : Expr) (t : TT) : Prop :=
  ∀ (pins : List (Addr × Obj)) (s : Shared) (σ : St) (H : Hp) (Q : Bool → Hp → Prop), Inv X pins σ H s → t σ H Q → wpAny (model X.prog X.w) X.A (isTrue e X.env (eval e X.env)) (TP X pins σ Q) X.xe s
noncomputable def PW (X : Cx) (e : Expr) (t : TT) : Prop :=
  ∀ (whole : Sem Value) (pins : List (Addr × Obj)) (s : Shared) (σ : St) (H : Hp) (Q : Bool → Hp → Prop), Inv X pins σ H s → t σ H Q → wpAny (model X.prog X.w) X.A (isTrue e X.env whole) (TP X pins σ Q) X.xe s
theorem PW.pt {X : Cx} {e : Expr} {t : TT} (h : PW X e t) : PT X e t := h _
noncomputable def PA (X : Cx) (es : List Expr) (t : TA) : Prop :=
  ∀ (pos : Pos) (pins : List (Addr × Obj)) (s : Shared) (σ : St) (H : Hp) (Q : List V → Hp → Prop), Inv X pins σ H s → t σ H Q → wpAny (model X.prog X.w) X.A (spliced (backTo pos (starEach es X.env))) (AP X pins σ Q) X.xe s
noncomputable def PS (X : Cx) (st : Stmt) (t : TS) : Prop :=
  ∀ (pins : List (Addr × Obj)) (s : Shared) (σ : St) (H : Hp) (D : Ends), Inv X pins σ H s → t D σ H → wpAny (model X.prog X.w) X.A (exec st X.env) (SP X pins D) X.xe s
noncomputable def PSs (X : Cx) (st : List Stmt) (t : TS) : Prop :=
  ∀ (pins : List (Addr × Obj)) (s : Shared) (σ : St) (H : Hp) (D : Ends), Inv X pins σ H s → t D σ H → wpAny (model X.prog X.w) X.A (execs st X.env) (SP X pins D) X.xe s
theorem thn {α : Type} {t : Sem α} {Q Q' : α → Shared → Prop} {M : Model} {A : Around} {E : Value → Shared → Prop} {s : Shared} (h : wpAny M A t Q E s) (hQ : ∀ a s, Q a s → Q' a s) : wpAny M A t Q' E s := wpAny_mono h hQ fun _ _ x => x
end L2
namespace L2
open PySem PySem.Spec PyProof.Rows
section
variable {X : Cx}
theorem bin {a b : Expr} {ta tb : TE} (ha : PE X a ta) (hb : PE X b tb) {pins : List (Addr × Obj)} {s : Shared} {σ : St} {H : Hp} {R : V → V → Hp → Prop} (I : Inv X pins σ H s) (h : ta σ H fun x H1 => tb σ H1 fun y H2 => R x y H2)
    {α : Type} {Q : α → Shared → Prop} {f : Value → Value → Sem α}
    (hf : ∀ v u s2 x y H2, Inv X pins σ H2 s2 → RelV x v → RelV y u → R x y H2 → wpAny (model X.prog X.w) X.A (f v u) Q X.xe s2) :
    wpAny (model X.prog X.w) X.A (eval a X.env) (fun v s₁ => wpAny (model X.prog X.w) X.A (eval b X.env) (fun u s₂ => wpAny (model X.prog X.w) X.A (f v u) Q X.xe s₂) X.xe s₁) X.xe s := by
  refine thn (ha pins s σ H _ I h) fun v s1 ⟨x, H1, I1, r1, q1⟩ => ?_
  refine thn (hb pins s1 σ H1 _ I1 q1) fun u s2 ⟨y, H2, I2, r2, q2⟩ => ?_
  exact hf v u s2 x y H2 I2 r1 r2 q2
noncomputable def tVar (i : Nat) : TE := fun σ H Q => ∃ v, σ[i]? = some (some v) ∧ Q v H
noncomputable def tC (v : V) : TE := fun _ H Q => Q v H
theorem pe_var {i : Nat} {x : Str} {pos : Pos} (hN : X.N[i]? = some x) (hv : Vis X.env.scope x) (hd : (x == ("__debug__" : Str)) = false := by decide) (hcd : (x == ("__classdict__" : Str)) = false := by decide) : PE X (.Name x pos) (tVar i) := by
  intro pins s σ H Q I h
  obtain ⟨v, e, h⟩ := h
  obtain ⟨m, hn, hl⟩ := I.loc
  obtain ⟨u, r, l⟩ := hl i x v hN e hv
  have fin : EP X pins σ Q u s := ⟨v, H, I, r, h⟩
  rcases l with ⟨hk, hm⟩ | ⟨hk, c, hc, hcell⟩
  · exact wpAny_Name (wpAny_loadName_local I.ok.kind hk hn hm fin) hd
  · rcases hk with hk | hk
    · exact wpAny_Name (wpAny_loadName_cell I.ok.kind hk hc hcell fin) hd
    · exact wpAny_Name (wpAny_loadName_free I.ok.kind hk hc hcell fin hcd) hd
theorem pe_int {i j pos} : PE X (.Constant (.int i) j pos) (tC (.int i)) := fun _ _ _ H _ I h => wpAny_Constant_int ⟨.int i, H, I.tok _, ⟨_, rfl⟩, h⟩
theorem pe_bl {b j pos} : PE X (.Constant (.bool b) j pos) (tC (.bl b)) := fun _ _ _ H _ I h => Constant_bool ⟨.bl b, H, I, rfl, h⟩
theorem pe_non {j pos} : PE X (.Constant .none j pos) (tC .non) := fun _ _ _ H _ I h => Constant_none ⟨.non, H, I, rfl, h⟩
theorem pe_str {x j pos} : PE X (.Constant (.str x) j pos) (tC (.str x)) := fun _ _ _ H _ I h => Calls.Constant_str ⟨.str x, H, I.tok _, ⟨_, rfl⟩, h⟩
noncomputable def Gl (X : Cx) (x : Str) : Prop := X.env.kindOf x = some .globalImplicit
theorem ld_glob {E : Value → Shared → Prop} {pins : List (Addr × Obj)} {s : Shared} {σ : St} {H : Hp} {x : Str} {u : Value} {pos : Pos} {Q : Value → Shared → Prop} (I : Inv X pins σ H s) (hg : Gl X x) (hm : X.mg x = some u) (h : Q u s)
    (hd : (x == ("__debug__" : Str)) = false := by decide) : wpAny (model X.prog X.w) X.A (eval (.Name x pos) X.env) Q E s :=
  Calls.Name_function_global I.ok.kind hg (Calls.loadGlobal_global (by rw [I.ok.glob]; exact I.mod.glob.keeps I.bk) hm h) hd
theorem ld_blt {E : Value → Shared → Prop} {pins : List (Addr × Obj)} {s : Shared} {σ : St} {H : Hp} {x : Str} {u : Value} {pos : Pos} {Q : Value → Shared → Prop} (I : Inv X pins σ H s) (hg : Gl X x) (hm : X.mg x = none) (hv : bootBuiltins x = some u) (h : Q u s)
    (hn : x ≠ "__name__" := by decide) (hd : (x == ("__debug__" : Str)) = false := by decide) : wpAny (model X.prog X.w) X.A (eval (.Name x pos) X.env) Q E s := by
  obtain ⟨mb, h1, h2⟩ := I.mod.blt
  exact Calls.Name_function_global I.ok.kind hg (Calls.loadGlobal_builtin (by rw [I.ok.glob]; exact I.mod.glob.keeps I.bk) hm (by rw [I.ok.blt]; exact h1.keeps I.bk) ((h2 x hn).trans hv) h) hd
theorem pe_glob {x : Str} {v : V} {u : Value} {pos : Pos} (hg : Gl X x) (hm : X.mg x = some u) (r : RelV v u) (hd : (x == ("__debug__" : Str)) = false := by decide) : PE X (.Name x pos) (tC v) :=
  fun _ _ _ H _ I h => ld_glob I hg hm ⟨v, H, I, r, h⟩ hd
theorem pe_bltn {x : Str} {v : V} {u : Value} {pos : Pos} (hg : Gl X x) (hm : X.mg x = none) (hv : bootBuiltins x = some u) (r : RelV v u) (hn : x ≠ "__name__" := by decide) (hd : (x == ("__debug__" : Str)) = false := by decide) : PE X (.Name x pos) (tC v) :=
  fun _ _ _ H _ I h => ld_blt I hg hm hv ⟨v, H, I, r, h⟩ hn hd
variable {a b : Expr} {ta tb : TE} {pos : Pos}
noncomputable def PC (X : Cx) (op : CmpOp) (a b : Expr) (t : TE) : Prop :=
  ∀ (pins : List (Addr × Obj)) (s : Shared) (σ : St) (H : Hp) (Q : VK), Inv X pins σ H s → t σ H Q →
    wpAny (model X.prog X.w) X.A (eval a X.env) (fun v s₁ => wpAny (model X.prog X.w) X.A (eval b X.env) (fun u s₂ => wpAny (model X.prog X.w) X.A (compareOp op v u) (EP X pins σ Q) X.xe s₂) X.xe s₁) X.xe s
theorem nobehind (b : Expr) {op : CmpOp} (h : op ≠ .In) (h2 : op ≠ .NotIn) : behindInMarks op b = false := by
  have e1 : (op == CmpOp.In) = false := by cases op <;> first | rfl | exact absurd rfl h
  have e2 : (op == CmpOp.NotIn) = false := by cases op <;> first | rfl | exact absurd rfl h2
  cases b <;> simp [behindInMarks, e1, e2]
noncomputable def tB (t : TE) : TT := fun σ H Q => t σ H fun x H1 => ∃ c, x = .bl c ∧ Q c H1
theorem pt_cmp {op : CmpOp} {t : TE} (h : PC X op a b t) (h1 : behindInMarks op b = false := by first | exact nobehind _ (by decide) (by decide) | rfl) : PT X (.Compare a [op] [b] pos) (tB t) := by
  intro pins s σ H Q I hw
  refine wpAny_isTrue_Compare1 (thn (h pins s σ H _ I hw) fun v s1 h1 => thn h1 fun u s2 h2 => thn h2 fun c s3 ⟨x, H1, I1, r1, q1⟩ => ?_) h1
  obtain ⟨d, rfl, q⟩ := q1
  cases r1
  exact wpAny_truthy_bool ⟨H1, I1, q⟩
theorem pt_val {e : Expr} {t : TE} (h : PE X e t) (he : ∀ whole, isTrue e X.env whole = (do let v ← whole; standAt e.pos; holding [v] (truthy v)) := by intro _; rfl) : PT X e (tB t) := by
  intro pins s σ H Q I hw
  refine isTrue_plain (thn (h pins s σ H _ I hw) fun v s1 ⟨x, H1, I1, r1, q1⟩ => ?_) (he _)
  obtain ⟨d, rfl, q⟩ := q1
  cases r1
  exact wpAny_truthy_bool ⟨H1, I1, q⟩
variable {tA tB' : TT} {rest : List Expr}
noncomputable def tAnd (t u : TT) : TT := fun σ H Q => t σ H fun c H1 => if c = true then u σ H1 Q else Q false H1
noncomputable def tOr (t u : TT) : TT := fun σ H Q => t σ H fun c H1 => if c = true then Q true H1 else u σ H1 Q
noncomputable def tNot (t : TT) : TT := fun σ H Q => t σ H fun c H1 => Q (!c) H1
theorem pw_and1 (ha : PT X a tA) : PW X (.BoolOp .And [a] pos) tA := by
  intro wh pins s σ H Q I h
  refine isTrue_and (thn (ha pins s σ H Q I h) fun c s1 e => ?_)
  cases c with
  | true => exact isTrue_and_nil e
  | false => exact e
theorem pw_or1 (ha : PT X a tA) : PW X (.BoolOp .Or [a] pos) tA := by
  intro wh pins s σ H Q I h
  refine isTrue_or (thn (ha pins s σ H Q I h) fun c s1 e => ?_)
  cases c with
  | false => exact isTrue_or_nil e
  | true => exact e
theorem pw_and (ha : PT X a tA) (hb : PW X (.BoolOp .And (b :: rest) pos) tB') : PW X (.BoolOp .And (a :: b :: rest) pos) (tAnd tA tB') := by
  intro wh pins s σ H Q I h
  refine isTrue_and (thn (ha pins s σ H _ I h) fun c s1 ⟨H1, I1, q1⟩ => ?_)
  cases c with
  | true => exact hb wh pins s1 σ H1 Q I1 q1
  | false => exact ⟨H1, I1, q1⟩
theorem pw_or (ha : PT X a tA) (hb : PW X (.BoolOp .Or (b :: rest) pos) tB') : PW X (.BoolOp .Or (a :: b :: rest) pos) (tOr tA tB') := by
  intro wh pins s σ H Q I h
  refine isTrue_or (thn (ha pins s σ H _ I h) fun c s1 ⟨H1, I1, q1⟩ => ?_)
  cases c with
  | true => exact ⟨H1, I1, q1⟩
  | false => exact hb wh pins s1 σ H1 Q I1 q1
theorem pt_not (ha : PT X a tA) : PT X (.UnaryOp .Not a pos) (tNot tA) := by
  intro pins s σ H Q I h
  exact isTrue_not (ha pins s σ H (fun c H1 => Q (!c) H1) I h)
noncomputable def tAndV (ta tb : TE) : TE := fun σ H Q => ta σ H fun x H1 => ∃ c, x = .bl c ∧ if c = true then tb σ H1 Q else Q (.bl false) H1
noncomputable def tOrV (ta tb : TE) : TE := fun σ H Q => ta σ H fun x H1 => ∃ c, x = .bl c ∧ if c = true then Q (.bl true) H1 else tb σ H1 Q
noncomputable def tNotV (ta : TE) : TE := fun σ H Q => ta σ H fun x H1 => ∃ c, x = .bl c ∧ Q (.bl (!c)) H1
theorem pe_one {op} {t : TE} (h : PE X a t) : PE X (.BoolOp op [a] pos) t := fun pins s σ H Q I hw => BoolOp_one (h pins s σ H Q I hw)
theorem pe_and (ha : PE X a ta) (hb : PE X (.BoolOp .And (b :: rest) pos) tb) : PE X (.BoolOp .And (a :: b :: rest) pos) (tAndV ta tb) := by
  intro pins s σ H Q I h
  refine BoolOp_and (thn (ha pins s σ H _ I h) fun v s1 ⟨x, H1, I1, r1, q1⟩ => ?_)
  obtain ⟨c, rfl, q1⟩ := q1
  cases r1
  refine wpAny_truthy_bool ?_
  cases c with
  | true => exact hb pins s1 σ H1 Q I1 q1
  | false => exact ⟨.bl false, H1, I1, rfl, q1⟩
theorem pe_or (ha : PE X a ta) (hb : PE X (.BoolOp .Or (b :: rest) pos) tb) : PE X (.BoolOp .Or (a :: b :: rest) pos) (tOrV ta tb) := by
  intro pins s σ H Q I h
  refine BoolOp_or (thn (ha pins s σ H _ I h) fun v s1 ⟨x, H1, I1, r1, q1⟩ => ?_)
  obtain ⟨c, rfl, q1⟩ := q1
  cases r1
  refine wpAny_truthy_bool ?_
  cases c with
  | false => exact hb pins s1 σ H1 Q I1 q1
  | true => exact ⟨.bl true, H1, I1, rfl, q1⟩
theorem pe_not (ha : PE X a ta) : PE X (.UnaryOp .Not a pos) (tNotV ta) := by
  intro pins s σ H Q I h
  refine UnaryOp_ (thn (ha pins s σ H _ I h) fun v s1 ⟨x, H1, I1, r1, q1⟩ => ?_)
  obtain ⟨c, rfl, q1⟩ := q1
  cases r1
  exact not_of (wpAny_truthy_bool ⟨.bl (!c), H1, I1, rfl, q1⟩)
noncomputable def tIf (t : TT) (ta tb : TE) : TE := fun σ H Q => t σ H fun c H1 => if c = true then ta σ H1 Q else tb σ H1 Q
theorem pe_ifExp {c : Expr} (hc : PT X c tA) (ha : PE X a ta) (hb : PE X b tb) : PE X (.IfExp c a b pos) (tIf tA ta tb) := by
  intro pins s σ H Q I h
  refine wpAny_IfExp (thn (hc pins s σ H _ I h) fun d s1 ⟨H1, I1, q1⟩ => ?_)
  cases d with
  | true => exact ha pins s1 σ H1 Q I1 q1
  | false => exact hb pins s1 σ H1 Q I1 q1
end
end L2
namespace L2
open PySem PySem.Spec PyProof.Rows
noncomputable def SqL (K : PySem.W.Frag) (H : Hp) (a : Addr) (xs : List V) : Prop :=
  Rd H a (.lst xs) ∨
    ∃ (o : Obj) (its : Array Value) (n : Nat), K.lookup a = some o ∧ o.cls = .type "list" ∧ o.dict = none ∧ o.data = .seq its n ∧ its.size ≤ sizeLine ∧ Vals xs its.toList
noncomputable def SqT (K : PySem.W.Frag) (H : Hp) (a : Addr) (xs : List V) : Prop :=
  Rd H a (.tup xs) ∨
    ∃ (o : Obj) (its : Array Value) (n : Nat), K.lookup a = some o ∧ o.cls = .type "tuple" ∧ o.data = .seq its n ∧ its.size ≤ sizeLine ∧ Vals xs its.toList
noncomputable def absV : Value → Option V
  | .none => some .non
  | .bool b => some (.bl b)
  | .int i _ => some (.int i)
  | .str x _ => some (.str x)
  | .bytes b _ => some (.byt b)
  | .float b _ => some (.flt b)
  | .ref a => some (.ref a)
  | .type n => some (.ty n)
  | _ => none
theorem RelV.abs {x : V} {u : Value} (r : RelV x u) : absV u = some x := by
  cases x with
  | non => cases r; rfl
  | bl _ => cases r; rfl
  | int _ => obtain ⟨t, rfl⟩ := r; rfl
  | str _ => obtain ⟨t, rfl⟩ := r; rfl
  | byt _ => obtain ⟨t, rfl⟩ := r; rfl
  | flt _ => obtain ⟨t, rfl⟩ := r; rfl
  | ref _ => cases r; rfl
  | ty _ => cases r; rfl
theorem RelV.inj {x y : V} {u : Value} (r : RelV x u) (q : RelV y u) : x = y := Option.some.inj (r.abs.symm.trans q.abs)
theorem Vals.inj {xs ys : List V} {us : List Value} (p : Vals xs us) (q : Vals ys us) : xs = ys := by
  induction p generalizing ys with
  | nil => cases q; rfl
  | cons r t ih =>
    cases q with
    | cons r' t' => rw [r.inj r', ih t']
section
variable {X : Cx} {pins : List (Addr × Obj)} {σ : St} {H : Hp} {s : Shared} {a : Addr} {xs ys : List V}
theorem SqL.of {K : PySem.W.Frag} (h : H a = some (.lst xs)) : SqL K H a xs := .inl (.inl h)
theorem SqT.of {K : PySem.W.Frag} (h : H a = some (.tup xs)) : SqT K H a xs := .inl (.inl h)
theorem Inv.list (I : Inv X pins σ H s) (h : SqL X.K H a xs) : ∃ its : List Value, Vals xs its ∧ PlainL s.heap a its.toArray ∧ xs.length ≤ sizeLine := by
  rcases h with h | ⟨o, its, n, hk, hc, hd, hs, hz, r⟩
  · obtain ⟨z, its, n, r, e⟩ := h.ok I.hok
    exact ⟨its, r, ⟨_, n, e, rfl, rfl, rfl⟩, z⟩
  · refine ⟨its.toList, r, ⟨o, n, I.kIn a o hk, hc, hd, by simpa using hs⟩, ?_⟩
    have e := r.length
    simp only [Array.length_toList] at e
    omega
theorem Inv.tuple (I : Inv X pins σ H s) (h : SqT X.K H a xs) : ∃ its : List Value, Vals xs its ∧ IsTup s.heap a its.toArray ∧ xs.length ≤ sizeLine := by
  rcases h with h | ⟨o, its, n, hk, hc, hs, hz, r⟩
  · obtain ⟨z, its, r, p⟩ := h.ok I.hok
    exact ⟨its, r, p, z⟩
  · refine ⟨its.toList, r, ⟨o, I.kIn a o hk, hc, n, by simpa using hs⟩, ?_⟩
    have e := r.length
    simp only [Array.length_toList] at e
    omega
theorem Inv.list_inj (I : Inv X pins σ H s) (h : SqL X.K H a xs) (h' : SqL X.K H a ys) : xs = ys := by
  obtain ⟨its, r, ⟨o, n, e, _, _, d⟩, _⟩ := I.list h
  obtain ⟨its', r', ⟨o', n', e', _, _, d'⟩, _⟩ := I.list h'
  rw [e] at e'; cases e'
  rw [d] at d'
  injection d' with d1 _
  have : its = its' := by simpa using congrArg Array.toList d1
  subst this
  exact r.inj r'
theorem Inv.tuple_inj (I : Inv X pins σ H s) (h : SqT X.K H a xs) (h' : SqT X.K H a ys) : xs = ys := by
  obtain ⟨its, r, ⟨o, e, _, n, d⟩, _⟩ := I.tuple h
  obtain ⟨its', r', ⟨o', e', _, n', d'⟩, _⟩ := I.tuple h'
  rw [e] at e'; cases e'
  rw [d] at d'
  injection d' with d1 _
  have : its = its' := by simpa using congrArg Array.toList d1
  subst this
  exact r.inj r'
end
noncomputable abbrev Cx.wish (X : Cx) (E : Value → Shared → Prop) : Cx := { X with xe := E }
theorem Cx.Ok.wish {X : Cx} (ok : X.Ok) (E : Value → Shared → Prop) : (X.wish E).Ok :=
  ⟨ok.mod, ok.kind, ok.glob, ok.blt, ok.above, ok.inj, ok.has, ok.cab, ok.hd, ok.frames, ok.stk, ok.exf, ok.bs, ok.bsz, ok.noex, ok.exfs, ok.funs, ok.frf⟩
theorem Cx.Ok.unwish {X : Cx} {E : Value → Shared → Prop} (ok : (X.wish E).Ok) : X.Ok :=
  ⟨ok.mod, ok.kind, ok.glob, ok.blt, ok.above, ok.inj, ok.has, ok.cab, ok.hd, ok.frames, ok.stk, ok.exf, ok.bs, ok.bsz, ok.noex, ok.exfs, ok.funs, ok.frf⟩
section
variable {X : Cx} {pins : List (Addr × Obj)} {σ : St} {H : Hp} {s : Shared} {E : Value → Shared → Prop}
theorem Inv.wish (I : Inv X pins σ H s) (E : Value → Shared → Prop) : Inv (X.wish E) pins σ H s := ⟨I.ok.wish E, I.os, I.bare, I.base, I.loc, I.cell, I.free, I.freeC, I.pin, I.hok, I.len⟩
theorem Inv.unwish (I : Inv (X.wish E) pins σ H s) : Inv X pins σ H s := ⟨I.ok.unwish, I.os, I.bare, I.base, I.loc, I.cell, I.free, I.freeC, I.pin, I.hok, I.len⟩
end
section
variable {X : Cx} {st : Stmt} {rest : List Stmt} {t u : TS} {e : Expr} {te : TE} {pos : Pos}
noncomputable def tNext : TS := fun D σ H => D.nx σ H
noncomputable def tSeq (t u : TS) : TS := fun D σ H => t { D with nx := u D } σ H
theorem pss_nil : PSs X [] tNext := fun _ _ σ H _ I h => wpAny_execs_nil ⟨σ, H, I, h⟩
theorem pss_cons (h1 : PS X st t) (h2 : PSs X rest u) : PSs X (st :: rest) (tSeq t u) := by
  intro pins s σ H D I h
  refine wpAny_execs_cons (thn (h1 pins s σ H { D with nx := u D } I h) fun f s1 q => ?_)
  cases f with
  | next =>
    obtain ⟨σ', H', I', q⟩ := q
    exact h2 pins s1 σ' H' D I' q
  | ret v => exact q
  | brk => exact q
  | cont => exact q
theorem pss_one (h1 : PS X st t) : PSs X [st] t := by
  intro pins s σ H D I h
  refine wpAny_execs_cons (thn (h1 pins s σ H D I h) fun f s1 q => ?_)
  cases f with
  | next => exact wpAny_execs_nil q
  | ret v => exact q
  | brk => exact q
  | cont => exact q
theorem Inv.quiet {pins : List (Addr × Obj)} {σ : St} {H : Hp} {s : Shared} (I : Inv X pins σ H s) : interactive X.env = false := by simp [interactive, I.ok.kind]
noncomputable def tDrop (te : TE) : TS := fun D σ H => te σ H fun _ H1 => D.nx σ H1
theorem ps_expr (he : PE X e te) (hs : swapsWith e none pos.line X.env = pure false := by rfl) : PS X (.Expr e pos) (tDrop te) := by
  intro pins s σ H D I h
  exact wpAny_Expr_any (thn (he pins s σ H _ I h) fun v s1 ⟨x, H1, I1, r1, q1⟩ => ⟨σ, H1, I1, q1⟩) I.quiet hs
noncomputable def tRet (te : TE) : TS := fun D σ H => te σ H D.rt
theorem ps_ret (he : PE X e te) : PS X (.Return (some e) pos) (tRet te) := by
  intro pins s σ H D I h
  exact wpAny_Return_some (thn (he pins s σ H _ I h) fun v s1 ⟨x, H1, I1, r1, q1⟩ => ⟨x, σ, H1, I1, r1, q1⟩)
noncomputable def tIfS (c : TT) (t u : TS) : TS := fun D σ H => c σ H fun b H1 => if b = true then t D σ H1 else u D σ H1
theorem ps_if {c : Expr} {a b : List Stmt} {tc : TT} (hc : PT X c tc) (ha : PSs X a t) (hb : PSs X b u) : PS X (.If c a b pos) (tIfS tc t u) := by
  intro pins s σ H D I h
  refine wpAny_If (thn (hc pins s σ H _ I h) fun d s1 ⟨H1, I1, q1⟩ => ?_)
  cases d with
  | true => exact ha pins s1 σ H1 D I1 q1
  | false => exact hb pins s1 σ H1 D I1 q1
end
noncomputable abbrev TG := V → St → Hp → (St → Hp → Prop) → Prop
noncomputable abbrev TGs := List V → St → Hp → (St → Hp → Prop) → Prop
noncomputable def PG (X : Cx) (target : Expr) (t : TG) : Prop :=
  ∀ (pins : List (Addr × Obj)) (s : Shared) (σ : St) (H : Hp) (v : V) (u : Value) (Q : St → Hp → Prop), Inv X pins σ H s → RelV v u → t v σ H Q →
    wpAny (model X.prog X.w) X.A (assign target X.env u) (fun _ s' => ∃ σ' H', Inv X pins σ' H' s' ∧ Q σ' H') X.xe s
noncomputable def PGs (X : Cx) (ts : List Expr) (t : TGs) : Prop :=
  ∀ (pins : List (Addr × Obj)) (s : Shared) (σ : St) (H : Hp) (vs : List V) (us : List Value) (Q : St → Hp → Prop), Inv X pins σ H s → Vals vs us → t vs σ H Q →
    wpAny (model X.prog X.w) X.A (assignInOrder ((assignEach ts X.env).map (·.2)) us) (fun _ s' => ∃ σ' H', Inv X pins σ' H' s' ∧ Q σ' H') X.xe s
section
variable {X : Cx} {pos : Pos}
noncomputable def gName (i : Nat) : TG := fun v σ H Q => Q (σ.set i (some v)) H
theorem pg_name {i : Nat} {x : Str} (hN : X.N.Nodup) (hi : X.N[i]? = some x) (hx : Loc X.env.scope x) (hf : X.fn x = true ∨ X.env.scope.names.lookup x = some .local := by first | exact .inl rfl | exact .inr rfl | assumption) : PG X (.Name x pos) (gName i) := by
  intro pins s σ H v u Q I r h
  exact wpAny_assign_Name (store_ok I hN hi hx r (fun s' I' => ⟨_, H, I', h⟩) hf)
noncomputable def gNil : TGs := fun vs σ H Q => vs = [] ∧ Q σ H
noncomputable def gCons (t : TG) (u : TGs) : TGs := fun vs σ H Q => ∃ v r, vs = v :: r ∧ t v σ H fun σ' H' => u r σ' H' Q
theorem pgs_nil : PGs X [] gNil := by
  intro pins s σ H vs us Q I r h
  obtain ⟨e, h⟩ := h
  subst e
  cases r
  exact assignInOrder_nil ⟨σ, H, I, h⟩
theorem pgs_cons {e : Expr} {es : List Expr} {t : TG} {u : TGs} (h1 : PG X e t) (h2 : PGs X es u)
    (hs : (assignEach (e :: es) X.env).map (·.2) = assign e X.env :: (assignEach es X.env).map (·.2) := by rfl) : PGs X (e :: es) (gCons t u) := by
  intro pins s σ H vs us Q I r h
  obtain ⟨v, vr, e1, h⟩ := h
  subst e1
  cases r with
  | cons r rr =>
    rw [hs]
    refine assignInOrder_cons (thn (h1 pins s σ H _ _ _ I r h) fun _ s1 ⟨σ1, H1, I1, q1⟩ => ?_)
    exact h2 pins s1 σ1 H1 _ _ Q I1 rr q1
noncomputable def gTup (K : PySem.W.Frag) (n : Nat) (t : TGs) : TG := fun v σ H Q => ∃ a xs, v = .ref a ∧ SqT K H a xs ∧ xs.length = n ∧ t xs σ H Q
theorem pg_tup {es : List Expr} {k : Nat} {t : TGs} {n : Nat} (hc : X.calm = true) (h : PGs X es t)
    (hn : (assignEach es X.env).length = n := by rfl) (hst : (assignEach es X.env).findIdx? (·.1) = none := by rfl) : PG X (.Tuple es k pos) (gTup X.K n t) := by
  intro pins s σ H v u Q I r hw
  obtain ⟨a, xs, e1, hq, hl, hw⟩ := hw
  subst e1
  cases r
  obtain ⟨its, rv, ht, hz⟩ := I.tuple hq
  refine assign_Tuple_tuple (I.ok.hd hc) ht (by simp [hn, ← hl, rv.length]) hst fun h' hx => ?_
  have I1 : Inv X pins σ H { s with heap := h' } := I.kept (t' := s.toks) fun b o e => hx b o (Nat.ne_of_lt (Heap.lt_size e)) e
  exact h pins _ σ H xs _ Q I1 (by simpa using rv) hw
noncomputable def tAsg (te : TE) (g : TG) : TS := fun D σ H => te σ H fun x H1 => g x σ H1 D.nx
theorem ps_set {i : Nat} {x : Str} {e : Expr} {te : TE} {pos' : Pos} (hN : X.N.Nodup) (hi : X.N[i]? = some x) (hx : Loc X.env.scope x) (he : PE X e te) (hs : swapsWith e (some (.Name x pos')) pos.line X.env = pure false := by rfl) (hf : X.fn x = true ∨ X.env.scope.names.lookup x = some .local := by first | exact .inl rfl | exact .inr rfl | assumption) :
    PS X (.Assign [.Name x pos'] e pos) (tAsg te (gName i)) := by
  intro pins s σ H D I h
  refine wpAny_Assign_Name (thn (he pins s σ H _ I h) fun v s1 ⟨y, H1, I1, r1, q1⟩ => ?_) hs
  exact store_ok I1 hN hi hx r1 (fun s2 I2 => ⟨_, H1, I2, q1⟩) hf
end
section
variable {X : Cx} {pos : Pos}
noncomputable def tWhile (c : TT) (tb : TS) : TS := fun D σ H => ∃ W : Nat → St → Hp → Prop, (∃ m, W m σ H) ∧ ∀ m σ H, W m σ H →
  c σ H fun b H1 => if b = true then ∃ N : St → Hp → Prop, (∀ σ' H', N σ' H' → ∃ m', m' < m ∧ W m' σ' H') ∧ tb { D with nx := N, ct := N, bk := D.nx } σ H1 else D.nx σ H1
theorem ps_while {c : Expr} {body : List Stmt} {tc : TT} {tb : TS} (hp : PassesOwn (model X.prog X.w) X.A X.env X.xe) (hc : PT X c tc) (hb : PSs X body tb) : PS X (.While c body [] pos) (tWhile tc tb) := by
  intro pins s σ H D I h
  obtain ⟨W, ⟨m0, w0⟩, turn⟩ := h
  refine wpAny_While (codeAny_whileLoop (fun n s' => ∃ σ' H', Inv X pins σ' H' s' ∧ W n σ' H') ?_ m0 ⟨σ, H, I, w0⟩)
  rintro n s1 ⟨σ1, H1, I1, w1⟩
  refine wpAny_passesOwn hp (thn (hc pins s1 σ1 H1 _ I1 (turn n σ1 H1 w1)) fun b s2 ⟨H2, I2, q2⟩ => ?_)
  cases b with
  | true =>
    obtain ⟨N, hN, q2⟩ := q2
    rw [if_pos rfl]
    refine wpAny_passesOwn hp (thn (hb pins s2 σ1 H2 _ I2 q2) fun f s3 q3 => ?_)
    cases f with
    | next =>
      obtain ⟨σ3, H3, I3, n3⟩ := q3
      obtain ⟨m', hm, w3⟩ := hN σ3 H3 n3
      exact ⟨m', hm, σ3, H3, I3, w3⟩
    | cont =>
      obtain ⟨σ3, H3, I3, n3⟩ := q3
      obtain ⟨m', hm, w3⟩ := hN σ3 H3 n3
      exact ⟨m', hm, σ3, H3, I3, w3⟩
    | brk => exact q3
    | ret v => exact q3
  | false =>
    rw [if_neg Bool.false_ne_true]
    exact wpAny_execs_nil ⟨σ1, H2, I2, q2⟩
end
structure It where
  go : Nat → Hp → Prop
  yld : Nat → Hp → V → Hp → Prop
  stop : Nat → Hp → Prop
noncomputable def FpOk (X : Cx) (pins : List (Addr × Obj)) (H : Hp) (b : Addr) : Prop :=
  H b = none ∧ b ≠ X.env.locals ∧ b ∉ X.fs ∧ (b ∈ X.ex ∨ X.s₀.heap.objs.size ≤ b) ∧ (∀ x c, X.env.cells.lookup x = some c → c ≠ b) ∧ ∀ p ∈ X.pn ++ pins, p.1 ≠ b
theorem Inv.fpOk {X : Cx} {pins : List (Addr × Obj)} {σ : St} {H H' : Hp} {s : Shared} {b : Addr} (I : Inv X pins σ H s) (hb : s.heap.objs.size ≤ b) (hn : H' b = none) : FpOk X pins H' b := by
  refine ⟨hn, Nat.ne_of_gt (Nat.lt_of_lt_of_le I.lt hb), I.nofs hb, .inr (Nat.le_trans I.sz hb), fun x c e z => ?_, fun p hp z => ?_⟩
  · obtain ⟨v, q⟩ := I.cell x c e
    exact absurd (Nat.lt_of_lt_of_le q.lt (by rw [z]; exact hb)) (Nat.lt_irrefl _)
  · exact absurd (Nat.lt_of_lt_of_le (Heap.lt_size (I.pin p hp).1) (by rw [z]; exact hb)) (Nat.lt_irrefl _)
structure Turn (P : Program) (w : World) (K : PySem.W.Frag) (tg : Expr) (J : It) (fp : List Addr) (it : Addr) (tn : Nat → Heap → Prop) : Prop where
  mem : it ∈ fp
  obj : ∀ i h, tn i h → ∀ b ∈ fp, ∃ o, h.get? b = some o ∧ ∀ v, o.data ≠ .cell v
  keep : ∀ i h h', tn i h → (∀ b ∈ fp, ∀ o, h.get? b = some o → h'.get? b = some o) → tn i h'
  item : ∀ (X : Cx), X.prog = P → X.w = w → X.K = K → X.calm = true → ∀ (i : Nat) (pins : List (Addr × Obj)) (s : Shared) (σ : St) (H : Hp) (E : Value → Shared → Prop), Inv X pins σ H s → (∀ b ∈ fp, FpOk X pins H b) → tn i s.heap → J.go i H →
    wpAny (model P w) X.A (pyNext (.ref it)) (fun r s1 => ∃ u, r = some u ∧
      wpAny (model P w) X.A (letOwnedTupleGo tg (.ref it) u) (fun _ s2 => ∃ x H', Inv X pins σ H' s2 ∧ RelV x u ∧ J.yld i H x H' ∧ tn (i + 1) s2.heap ∧ ∀ b ∈ fp, H' b = none) E s1) E s
  done : ∀ (X : Cx), X.prog = P → X.w = w → X.K = K → X.calm = true → ∀ (i : Nat) (pins : List (Addr × Obj)) (s : Shared) (σ : St) (H : Hp) (E : Value → Shared → Prop), Inv X pins σ H s → (∀ b ∈ fp, FpOk X pins H b) → tn i s.heap → J.stop i H →
    wpAny (model P w) X.A (pyNext (.ref it)) (fun r s1 => r = none ∧ Inv X pins σ H s1) E s
  self : ∀ (A : Around) (i : Nat) (s : Shared) (Q : Value → Shared → Prop) (E : Value → Shared → Prop), tn i s.heap → Q (.ref it) s → wpAny (model P w) A (pyIter (.ref it)) Q E s
noncomputable abbrev TI := St → Hp → (It → Hp → Prop) → Prop
noncomputable def PIE (X : Cx) (pins : List (Addr × Obj)) (σ : St) (tg : Expr) (R : It → Hp → Prop) (itv : Value) (s2 : Shared) : Prop :=
  ∃ (it : Addr) (fp : List Addr) (tn : Nat → Heap → Prop) (J : It) (H' : Hp), itv = .ref it ∧ Inv X pins σ H' s2 ∧ Turn X.prog X.w X.K tg J fp it tn ∧ tn 0 s2.heap ∧ (∀ b ∈ fp, FpOk X pins H' b) ∧ R J H'
noncomputable def PI (X : Cx) (tg iter : Expr) (wi : TI) : Prop :=
  ∀ (pins : List (Addr × Obj)) (s : Shared) (σ : St) (H : Hp) (R : It → Hp → Prop), Inv X pins σ H s → wi σ H R →
    wpAny (model X.prog X.w) X.A (eval iter X.env) (fun v s1 => wpAny (model X.prog X.w) X.A (pyIter v) (PIE X pins σ tg R) X.xe s1) X.xe s
theorem go_of {M : Model} {A : Around} {E : Value → Shared → Prop} {s : Shared} {tg : Expr} {it : Addr} {u : Value} {o : Obj} {n : String} {vs : Array Value} {Q : Unit → Shared → Prop} (ho : s.heap.get? it = some o) (hc : o.cls = .type n) (hd : o.data = .fields vs)
    (hn : ["enumerate", "zip", "dict_itemiterator", "dict_reverseitemiterator", "odict_iterator", "itertools.zip_longest", "itertools.pairwise"].contains n = false) (hQ : Q () s) : wpAny M A (letOwnedTupleGo tg (.ref it) u) Q E s := by
  unfold letOwnedTupleGo
  cases tg <;> first
    | exact wpAny_pure hQ
    | (cases u <;> first
        | exact wpAny_pure hQ
        | (refine wpAny_bind (wpAny_load ho ?_)
           rw [hc, hd]
           show wpAny M A (if (["enumerate", "zip", "dict_itemiterator", "dict_reverseitemiterator", "odict_iterator", "itertools.zip_longest", "itertools.pairwise"].contains n && vs[0]? == some (rawInt _)) = true then _ else _) Q E s
           rw [if_neg (by intro h; rw [hn, Bool.false_and] at h; cases h)]
           exact wpAny_pure hQ))
noncomputable def Itl (K : PySem.W.Frag) (a : Addr) : It :=
  ⟨fun i H => ∃ xs x, SqL K H a xs ∧ xs[i]? = some x, fun i H x H' => H' = H ∧ ∀ xs, SqL K H a xs → xs[i]? = some x, fun i H => ∃ xs, SqL K H a xs ∧ xs.length ≤ i⟩
noncomputable def Itt (K : PySem.W.Frag) (a : Addr) : It :=
  ⟨fun i H => ∃ xs x, SqT K H a xs ∧ xs[i]? = some x, fun i H x H' => H' = H ∧ ∀ xs, SqT K H a xs → xs[i]? = some x, fun i H => ∃ xs, SqT K H a xs ∧ xs.length ≤ i⟩
noncomputable def Itr (lo : Int) (n : Nat) : It := ⟨fun i _ => i < n, fun i H x H' => H' = H ∧ x = .int (lo + i), fun i _ => n ≤ i⟩
theorem turn_list {P : Program} {w : World} {K : PySem.W.Frag} {tg : Expr} (a it : Addr) : Turn P w K tg (Itl K a) [it] it (fun i h => h.IsListIter it a i) where
  mem := by simp
  obj := fun i h st b hb => by
    have e : b = it := by simpa using hb
    subst e
    obtain ⟨o, e, c, d⟩ := st
    exact ⟨o, e, fun v z => by rw [d] at z; cases z⟩
  keep := fun i h h' st k => st.at fun o e => k it (by simp) o e
  item := by
    intro X hP hw hK hc i pins s σ H E I hf st hg
    subst hP hw hK
    obtain ⟨xs, x, hq, hx⟩ := hg
    obtain ⟨its, rv, p, hz⟩ := I.list hq
    obtain ⟨u, hu, ru⟩ := rv.get hx
    obtain ⟨f0, f1, f2, f3, f4, f5⟩ := hf it (by simp)
    refine wpAny_pyNext_list_item st p.isList (x := u) (by simpa using hu) fun h' st' sb => ?_
    have I1 : Inv X pins σ H { s with heap := h' } := I.turned (t' := s.toks) (fun b o hb e => (sb.2 b hb).trans e) f0 f1 f3 f4 f5
    obtain ⟨o, e, c, d⟩ := id st'
    exact ⟨u, rfl, go_of (s := { s with heap := h' }) e c d (by decide) ⟨x, H, I1, ru, ⟨rfl, fun ys hy => by rw [I.list_inj hy hq]; exact hx⟩, st', fun b hb => (hf b hb).1⟩⟩
  done := by
    intro X hP hw hK hc i pins s σ H E I hf st hg
    subst hP hw hK
    obtain ⟨xs, hq, hx⟩ := hg
    obtain ⟨its, rv, p, hz⟩ := I.list hq
    obtain ⟨f0, f1, f2, f3, f4, f5⟩ := hf it (by simp)
    have hl := rv.length
    exact wpAny_pyNext_list_end (I.ok.hd hc) st p.isList (by simp; omega) fun h' eb => ⟨rfl, I.turned (t' := s.toks) (fun b o hb e => eb b o hb e) f0 f1 f3 f4 f5⟩
  self := fun _ _ _ _ _ st h => wpAny_pyIter_listiter st h
theorem turn_tuple {P : Program} {w : World} {K : PySem.W.Frag} {tg : Expr} (a it : Addr) : Turn P w K tg (Itt K a) [it] it (fun i h => h.IsTupleIter it a i) where
  mem := by simp
  obj := fun i h st b hb => by
    have e : b = it := by simpa using hb
    subst e
    obtain ⟨o, e, c, d⟩ := st
    exact ⟨o, e, fun v z => by rw [d] at z; cases z⟩
  keep := fun i h h' st k => st.at fun o e => k it (by simp) o e
  item := by
    intro X hP hw hK hc i pins s σ H E I hf st hg
    subst hP hw hK
    obtain ⟨xs, x, hq, hx⟩ := hg
    obtain ⟨its, rv, p, hz⟩ := I.tuple hq
    obtain ⟨u, hu, ru⟩ := rv.get hx
    obtain ⟨f0, f1, f2, f3, f4, f5⟩ := hf it (by simp)
    refine wpAny_pyNext_tuple_item st (show s.heap.IsTuple a its.toArray from p) (x := u) (by simpa using hu) fun h' st' sb => ?_
    have I1 : Inv X pins σ H { s with heap := h' } := I.turned (t' := s.toks) (fun b o hb e => (sb.2 b hb).trans e) f0 f1 f3 f4 f5
    obtain ⟨o, e, c, d⟩ := id st'
    exact ⟨u, rfl, go_of (s := { s with heap := h' }) e c d (by decide) ⟨x, H, I1, ru, ⟨rfl, fun ys hy => by rw [I.tuple_inj hy hq]; exact hx⟩, st', fun b hb => (hf b hb).1⟩⟩
  done := by
    intro X hP hw hK hc i pins s σ H E I hf st hg
    subst hP hw hK
    obtain ⟨xs, hq, hx⟩ := hg
    obtain ⟨its, rv, p, hz⟩ := I.tuple hq
    obtain ⟨f0, f1, f2, f3, f4, f5⟩ := hf it (by simp)
    have hl := rv.length
    exact wpAny_pyNext_tuple_end (I.ok.hd hc) st (show s.heap.IsTuple a its.toArray from p) (by simp; omega) fun h' eb => ⟨rfl, I.turned (t' := s.toks) (fun b o hb e => eb b o hb e) f0 f1 f3 f4 f5⟩
  self := fun _ _ _ _ _ st h => wpAny_pyIter_tupleiter st h
theorem turn_range {P : Program} {w : World} {K : PySem.W.Frag} {tg : Expr} (it : Addr) (lo : Int) (n : Nat) : Turn P w K tg (Itr lo n) [it] it (fun i h => IsRangeIter h it (lo + (i : Nat) * 1) ((n : Int) - (i : Nat)) 1) where
  mem := by simp
  obj := fun i h st b hb => by
    have e : b = it := by simpa using hb
    subst e
    exact ⟨_, st, fun v z => by
      have z' : Data.fields _ = Data.cell v := z
      cases z'⟩
  keep := fun i h h' st k => k it (by simp) _ st
  item := by
    intro X hP hw hK hc i pins s σ H E I hf st hg
    subst hP hw hK
    obtain ⟨f0, f1, f2, f3, f4, f5⟩ := hf it (by simp)
    have W := Walks.range (prog := X.prog) (w := X.w) (I.ok.hd hc) it lo 1 n
    refine W.item i s _ _ hg st fun v h' tk hv st' kk => ?_
    obtain ⟨t, rfl⟩ := hv
    have I1 : Inv X pins σ H { s with heap := h', toks := tk } := I.turned (fun b o hb e => kk b o (by simpa using hb) e) f0 f1 f3 f4 f5
    refine ⟨_, rfl, go_of (s := { s with heap := h', toks := tk }) (n := "range_iterator") st' rfl rfl (by decide) ⟨.int (lo + i), H, I1, ⟨t, ?_⟩, ⟨rfl, rfl⟩, st', fun b hb => (hf b hb).1⟩⟩
    rw [Int.mul_one]
  done := by
    intro X hP hw hK hc i pins s σ H E I hf st hg
    subst hP hw hK
    obtain ⟨f0, f1, f2, f3, f4, f5⟩ := hf it (by simp)
    exact wpAny_pyNext_range_end (I.ok.hd hc) st (by have : n ≤ i := hg; omega) fun h' eb => ⟨rfl, I.turned (t' := s.toks) (fun b o hb e => eb b o hb e) f0 f1 f3 f4 f5⟩
  self := fun _ _ _ _ _ st h => wpAny_pyIter_rangeiter st h
end L2
namespace L2
open PySem PySem.Spec PyProof.Rows
section
variable {X : Cx} {tg : Expr}
theorem range_it {pins : List (Addr × Obj)} {σ : St} {H : Hp} {s : Shared} {R : It → Hp → Prop} {E : Value → Shared → Prop} {lo hi : Int} {t u v : Tok} {tk : Nat} (I : Inv X pins σ H s) (h1 : -(2 ^ 62) ≤ lo) (h2 : lo < 2 ^ 62) (h3 : -(2 ^ 62) ≤ hi) (h4 : hi < 2 ^ 62)
    (q : R (Itr lo (hi - lo).toNat) H) : wpAny (model X.prog X.w) X.A (pyIter (.ref s.heap.objs.size)) (PIE X pins σ tg R) E { s with heap := s.heap.push { cls := .type "range", data := .fields #[.int lo t, .int hi u, .int 1 v] }, toks := tk } := by
  refine wpAny_pyIter_range (IsRange.new ..) (small_one h1 h2 h3 h4) ?_
  have I1 : Inv X pins σ H { s with heap := s.heap.push { cls := .type "range", data := .fields #[.int lo t, .int hi u, .int 1 v] }, toks := tk } := I.kept fun b o e => Heap.get?_push_of_some _ e
  refine ⟨(s.heap.push { cls := .type "range", data := .fields #[.int lo t, .int hi u, .int 1 v] }).objs.size, [(s.heap.push { cls := .type "range", data := .fields #[.int lo t, .int hi u, .int 1 v] }).objs.size], _, _, H, rfl,
    I1.kept (t' := tk) fun b o e => Heap.get?_push_of_some _ e, turn_range _ lo (hi - lo).toNat, ?_, fun b hb => ?_, q⟩
  · have e1 : lo + ((0 : Nat) : Int) * 1 = lo := by simp
    have e2 : (((hi - lo).toNat : Nat) : Int) - ((0 : Nat) : Int) = Builtin.Range.rangeSize lo hi 1 := by rw [rangeSize_one]; split <;> omega
    show IsRangeIter _ _ (lo + ((0 : Nat) : Int) * 1) ((((hi - lo).toNat : Nat) : Int) - ((0 : Nat) : Int)) 1
    rw [e1, e2]
    exact Heap.get?_push_size _ rfl
  · have e : b = (s.heap.push { cls := .type "range", data := .fields #[.int lo t, .int hi u, .int 1 v] }).objs.size := by simpa using hb
    subst e
    exact I1.fpOk (Nat.le_refl _) (I1.hok.fresh (Nat.le_refl _))
noncomputable def iRng1 (ta : TA) : TI := fun σ H R => ta σ H fun vs H1 => ∃ j : Int, vs = [.int j] ∧ -(2 ^ 62) ≤ j ∧ j < 2 ^ 62 ∧ R (Itr 0 j.toNat) H1
noncomputable def iRng2 (ta : TA) : TI := fun σ H R => ta σ H fun vs H1 => ∃ i j : Int, vs = [.int i, .int j] ∧ (-(2 ^ 62) ≤ i ∧ i < 2 ^ 62 ∧ -(2 ^ 62) ≤ j ∧ j < 2 ^ 62) ∧ R (Itr i (j - i).toNat) H1
theorem pi_range1 {a : Expr} {ta : TA} {p pos : Pos} (hg : Gl X "range") (hm : X.mg "range" = none) (ha : PA X [a] ta) (hs : starEach [a] X.env = [(false, eval a X.env)] := by rfl) : PI X tg (.Call (.Name "range" p) [a] [] pos) (iRng1 ta) := by
  intro pins s σ H R I h
  refine Call_ (ld_blt I hg hm boot_range (PyProof.Rows.callWith_type1 (thn (ha pos pins s σ H _ I h) fun us s1 ⟨vs, H1, I1, r1, q1⟩ => ?_) hs rfl))
  obtain ⟨j, e, q1, q2, q⟩ := q1
  subst e
  cases r1 with
  | cons r rr =>
    cases rr
    obtain ⟨t, rfl⟩ := r
    exact call_range_1 (range_it I1 (by omega) (by omega) q1 q2 (by simpa using q))
theorem pi_range2 {a b : Expr} {ta : TA} {p pos : Pos} (hg : Gl X "range") (hm : X.mg "range" = none) (ha : PA X [a, b] ta) (hs : starEach [a, b] X.env = [(false, eval a X.env), (false, eval b X.env)] := by rfl) (hs2 : starEach [b] X.env = [(false, eval b X.env)] := by rfl) :
    PI X tg (.Call (.Name "range" p) [a, b] [] pos) (iRng2 ta) := by
  intro pins s σ H R I h
  refine Call_ (ld_blt I hg hm boot_range (PyProof.Rows.callWith_type1 (thn (ha pos pins s σ H _ I h) fun us s1 ⟨vs, H1, I1, r1, q1⟩ => ?_) (by rw [hs, hs2]) (by rw [hs2]; rfl)))
  obtain ⟨i, j, e, ⟨q1, q2, q3, q4⟩, q⟩ := q1
  subst e
  cases r1 with
  | cons r rr =>
    cases rr with
    | cons r' rr =>
      cases rr
      obtain ⟨t, rfl⟩ := r
      obtain ⟨t', rfl⟩ := r'
      exact call_range_2 (range_it I1 q1 q2 q3 q4 q)
noncomputable def tFor (wi : TI) (g : TG) (tb : TS) : TS := fun D σ H => wi σ H fun J H1 => ∃ W : Nat → Nat → St → Hp → Prop, (∃ m, W 0 m σ H1) ∧ ∀ i m σ H, W i m σ H →
  (J.stop i H ∧ D.nx σ H) ∨ (J.go i H ∧ ∃ N : St → Hp → Prop, (∀ σ' H', N σ' H' → ∃ m', m' < m ∧ W (i + 1) m' σ' H') ∧ ∀ x H', J.yld i H x H' → g x σ H' fun σ2 H2 => tb { D with nx := N, ct := N, bk := D.nx } σ2 H2)
noncomputable def pinsAt (fp : List Addr) (h : Heap) : List (Addr × Obj) := fp.filterMap fun b => (h.get? b).map fun o => (b, o)
theorem mem_pinsAt {fp : List Addr} {h : Heap} {b : Addr} {o : Obj} (hb : b ∈ fp) (e : h.get? b = some o) : (b, o) ∈ pinsAt fp h := List.mem_filterMap.mpr ⟨b, hb, by rw [e]; rfl⟩
theorem of_pinsAt {fp : List Addr} {h : Heap} {p : Addr × Obj} (hp : p ∈ pinsAt fp h) : p.1 ∈ fp ∧ h.get? p.1 = some p.2 := by
  obtain ⟨b, hb, e⟩ := List.mem_filterMap.mp hp
  cases q : h.get? b with
  | none => rw [q] at e; cases e
  | some o =>
    rw [q] at e
    have e' : (b, o) = p := Option.some.inj e
    subst e'
    exact ⟨hb, q⟩
theorem Inv.pinned {pins : List (Addr × Obj)} {σ : St} {H : Hp} {s : Shared} {fp : List Addr} (I : Inv X pins σ H s) (hf : ∀ b ∈ fp, FpOk X pins H b) (ho : ∀ b ∈ fp, ∃ o, s.heap.get? b = some o ∧ ∀ v, o.data ≠ .cell v) : Inv X (pins ++ pinsAt fp s.heap) σ H s :=
  I.pins_of fun p hp => (List.mem_append.mp hp).elim (fun z => I.pin p (List.mem_append_right _ z)) fun z => by
    obtain ⟨hb, e⟩ := of_pinsAt z
    obtain ⟨f0, f1, f2, _⟩ := hf p.1 hb
    obtain ⟨o, e', d⟩ := ho p.1 hb
    rw [e] at e'; cases e'
    exact ⟨e, f0, f1, f2, d⟩
theorem Inv.unpinned {pins pl : List (Addr × Obj)} {σ : St} {H : Hp} {s : Shared} (I : Inv X (pins ++ pl) σ H s) : Inv X pins σ H s := I.pins_of fun p hp => I.pin p (List.mem_append_right _ (List.mem_append_left _ hp))
theorem ps_for {iter : Expr} {body : List Stmt} {wi : TI} {g : TG} {tb : TS} {pos : Pos} (hp : PassesOwn (model X.prog X.w) X.A X.env X.xe) (hc : X.calm = true) (hi : PI X tg iter wi) (hg : PG X tg g) (hb : PSs X body tb)
    (hs : ∀ x, foldedSetIterable iter X.env x = pure x := by intro _; rfl) : PS X (.For tg iter body [] pos) (tFor wi g tb) := by
  intro pins s σ H D I h
  refine wpAny_For (thn (hi pins s σ H _ I h) fun v s1 h1 => thn h1 fun itv s2 h2 => ?_) hs
  obtain ⟨it, fp, tn, J, H2, e, I2, T, st2, f2, W, ⟨m0, w0⟩, turn⟩ := h2
  subst e
  -- what stays true of the iterator's objects through the loop
  have stat : ∀ {H' : Hp}, (∀ b ∈ fp, H' b = none) → ∀ b ∈ fp, FpOk X pins H' b := fun hn b hb => ⟨hn b hb, (f2 b hb).2⟩
  refine codeAny_forLoop_any (fun n s' => ∃ i σ' H', Inv X pins σ' H' s' ∧ tn i s'.heap ∧ (∀ b ∈ fp, H' b = none) ∧ W i n σ' H') ?_ m0 ⟨0, σ, H2, I2, st2, fun b hb => (f2 b hb).1, w0⟩
  rintro n s3 ⟨i, σ3, H3, I3, st3, fr3, w3⟩
  rcases turn i n σ3 H3 w3 with ⟨stop, qn⟩ | ⟨go, N, hN, step⟩
  · refine wpAny_passesOwn hp (thn (T.done X rfl rfl rfl hc i pins s3 σ3 H3 X.xe I3 (stat fr3) st3 stop) fun r s4 ⟨hr, I4⟩ => ?_)
    subst hr
    exact wpAny_execs_nil ⟨σ3, H3, I4, qn⟩
  · refine wpAny_passesOwn hp (thn (T.item X rfl rfl rfl hc i pins s3 σ3 H3 X.xe I3 (stat fr3) st3 go) fun r s4 ⟨u, hr, h4⟩ => ?_)
    subst hr
    refine wpAny_passesOwn hp (thn h4 fun _ s5 ⟨x, H5, I5, r5, y5, st5, fr5⟩ => ?_)
    have I5' := I5.pinned (stat fr5) (T.obj _ _ st5)
    refine wpAny_passesOwn hp (thn (hg _ s5 σ3 H5 x u _ I5' r5 (step x H5 y5)) fun _ s6 ⟨σ6, H6, I6, q6⟩ => ?_)
    refine wpAny_passesOwn hp (thn (hb _ s6 σ6 H6 _ I6 q6) fun f s7 q7 => ?_)
    have again : ∀ {σ7 : St} {H7 : Hp}, Inv X (pins ++ pinsAt fp s5.heap) σ7 H7 s7 → N σ7 H7 → ∃ m, m < n ∧ ∃ i σ' H', Inv X pins σ' H' s7 ∧ tn i s7.heap ∧ (∀ b ∈ fp, H' b = none) ∧ W i m σ' H' := fun {σ7 H7} I7 n7 => by
      obtain ⟨m', hm, w7⟩ := hN σ7 H7 n7
      refine ⟨m', hm, i + 1, σ7, H7, I7.unpinned, T.keep _ _ _ st5 fun b hb o e => (I7.pin (b, o) (List.mem_append_right _ (List.mem_append_right _ (mem_pinsAt hb e)))).1, fun b hb => ?_, w7⟩
      obtain ⟨o, e, d⟩ := T.obj _ _ st5 b hb
      exact (I7.pin (b, o) (List.mem_append_right _ (List.mem_append_right _ (mem_pinsAt hb e)))).2.1
    cases f with
    | next => obtain ⟨σ7, H7, I7, n7⟩ := q7; exact again I7 n7
    | cont => obtain ⟨σ7, H7, I7, n7⟩ := q7; exact again I7 n7
    | brk => obtain ⟨σ7, H7, I7, q7⟩ := q7; exact ⟨σ7, H7, I7.unpinned, q7⟩
    | ret v => obtain ⟨x7, σ7, H7, I7, r7, q7⟩ := q7; exact ⟨x7, σ7, H7, I7.unpinned, r7, q7⟩
end
end L2
namespace L2
open PySem PySem.Spec PyProof.Rows
noncomputable abbrev R2 := V → V → Hp → VK → Prop
noncomputable def OpR (X : Cx) (f : Value → Value → Sem Value) (r : R2) : Prop :=
  ∀ (pins : List (Addr × Obj)) (s : Shared) (σ : St) (H : Hp) (x y : V) (v u : Value) (Q : VK), Inv X pins σ H s → RelV x v → RelV y u → r x y H Q →
    wpAny (model X.prog X.w) X.A (f v u) (EP X pins σ Q) X.xe s
noncomputable def UnR (X : Cx) (f : Value → Sem Value) (r : V → Hp → VK → Prop) : Prop :=
  ∀ (pins : List (Addr × Obj)) (s : Shared) (σ : St) (H : Hp) (x : V) (v : Value) (Q : VK), Inv X pins σ H s → RelV x v → r x H Q →
    wpAny (model X.prog X.w) X.A (f v) (EP X pins σ Q) X.xe s
noncomputable def CallR (X : Cx) (f : Value) (r : List V → Hp → VK → Prop) : Prop :=
  ∀ (pins : List (Addr × Obj)) (s : Shared) (σ : St) (H : Hp) (xs : List V) (us : List Value) (Q : VK), Inv X pins σ H s → Vals xs us → r xs H Q →
    wpAny (model X.prog X.w) X.A (call f us) (EP X pins σ Q) X.xe s
noncomputable def tOp (r : R2) (ta tb : TE) : TE := fun σ H Q => ta σ H fun x H1 => tb σ H1 fun y H2 => r x y H2 Q
noncomputable def tUn (r : V → Hp → VK → Prop) (ta : TE) : TE := fun σ H Q => ta σ H fun x H1 => r x H1 Q
noncomputable def rI (C : Int → Int → Prop) (g : Int → Int → V) : R2 := fun x y H Q => ∃ i j, x = .int i ∧ y = .int j ∧ C i j ∧ Q (g i j) H
noncomputable def rI0 (g : Int → Int → V) : R2 := fun x y H Q => ∃ i j, x = .int i ∧ y = .int j ∧ Q (g i j) H
noncomputable def rU (g : Int → V) : V → Hp → VK → Prop := fun x H Q => ∃ i, x = .int i ∧ Q (g i) H
section
variable {X : Cx} {a b c : Expr} {ta tb tc : TE} {pos : Pos}
theorem binT (ha : PE X a ta) (hb : PE X b tb) {pins : List (Addr × Obj)} {s : Shared} {σ : St} {H : Hp} {R : V → V → Hp → Prop} (I : Inv X pins σ H s)
    (h : ta σ H fun x H1 => tb σ H1 fun y H2 => R x y H2) {Q : Value → Shared → Prop} {f : Value → Value → Sem Value}
    (hf : ∀ v u s2 x y H2, Inv X pins σ H2 s2 → RelV x v → RelV y u → R x y H2 → wpAny (model X.prog X.w) X.A (f v u) Q X.xe s2) :
    wpAny (model X.prog X.w) X.A (eval a X.env) (fun v s₁ => wpAny (model X.prog X.w) X.A (eval b X.env) (fun u s₂ => wpAny (model X.prog X.w) X.A (f v u) Q X.xe s₂) X.xe s₁) X.xe s := by
  refine thn (ha pins s σ H _ I h) fun v s1 ⟨x, H1, I1, r1, q1⟩ => ?_
  refine thn (hb pins s1 σ H1 _ I1 q1) fun u s2 ⟨y, H2, I2, r2, q2⟩ => ?_
  exact hf v u s2 x y H2 I2 r1 r2 q2
theorem pe_op {op : Operator} {r : R2} (ho : OpR X (binaryOp op) r) (ha : PE X a ta) (hb : PE X b tb) : PE X (.BinOp a op b pos) (tOp r ta tb) := by
  intro pins s σ H Q I h
  exact wpAny_BinOp (binT ha hb I h fun v u s2 x y H2 I2 rx ry q => ho pins s2 σ H2 x y v u Q I2 rx ry q)
theorem pe_un {op : UnaryOp} {r : V → Hp → VK → Prop} (ho : UnR X (unaryOp op) r) (ha : PE X a ta) : PE X (.UnaryOp op a pos) (tUn r ta) := by
  intro pins s σ H Q I h
  exact UnaryOp_ (thn (ha pins s σ H _ I h) fun v s1 ⟨x, H1, I1, r1, q1⟩ => ho pins s1 σ H1 x v Q I1 r1 q1)
theorem opI {f : Value → Value → Sem Value} {C : Int → Int → Prop} {g : Int → Int → Int}
    (rule : ∀ (i j : Int) (t u : Tok) (s : Shared) (Q : Value → Shared → Prop) (E : Value → Shared → Prop), C i j → Q (.int (g i j) s.toks) { s with toks := s.toks + 1 } → wpAny (model X.prog X.w) X.A (f (.int i t) (.int j u)) Q E s) :
    OpR X f (rI C fun i j => .int (g i j)) := by
  intro pins s σ H x y v u Q I rx ry h
  obtain ⟨i, j, rfl, rfl, hc, q⟩ := h
  obtain ⟨t, rfl⟩ := rx
  obtain ⟨t', rfl⟩ := ry
  exact rule i j t t' s _ _ hc ⟨.int (g i j), H, I.tok _, ⟨_, rfl⟩, q⟩
theorem opI0 {f : Value → Value → Sem Value} {g : Int → Int → Int}
    (rule : ∀ (i j : Int) (t u : Tok) (s : Shared) (Q : Value → Shared → Prop) (E : Value → Shared → Prop), Q (.int (g i j) s.toks) { s with toks := s.toks + 1 } → wpAny (model X.prog X.w) X.A (f (.int i t) (.int j u)) Q E s) :
    OpR X f (rI0 fun i j => .int (g i j)) := by
  intro pins s σ H x y v u Q I rx ry h
  obtain ⟨i, j, rfl, rfl, q⟩ := h
  obtain ⟨t, rfl⟩ := rx
  obtain ⟨t', rfl⟩ := ry
  exact rule i j t t' s _ _ ⟨.int (g i j), H, I.tok _, ⟨_, rfl⟩, q⟩
theorem opB0 {f : Value → Value → Sem Value} {g : Int → Int → Bool}
    (rule : ∀ (i j : Int) (t u : Tok) (s : Shared) (Q : Value → Shared → Prop) (E : Value → Shared → Prop), Q (.bool (g i j)) s → wpAny (model X.prog X.w) X.A (f (.int i t) (.int j u)) Q E s) :
    OpR X f (rI0 fun i j => .bl (g i j)) := by
  intro pins s σ H x y v u Q I rx ry h
  obtain ⟨i, j, rfl, rfl, q⟩ := h
  obtain ⟨t, rfl⟩ := rx
  obtain ⟨t', rfl⟩ := ry
  exact rule i j t t' s _ _ ⟨.bl (g i j), H, I, rfl, q⟩
noncomputable def CPow (i j : Int) : Prop := 0 ≤ j ∧ j ≤ 1000000 ∧ i.natAbs < 2 ^ 64
noncomputable def CMul (i j : Int) : Prop := (-(2 ^ 64) < i ∧ i < 2 ^ 64) ∨ (-(2 ^ 64) < j ∧ j < 2 ^ 64)
theorem CMul.ok {i j : Int} (h : CMul i j) : IntMulOk i j := by
  rcases h with ⟨h1, h2⟩ | ⟨h1, h2⟩
  · exact .of_left (intBits_le_64 h1 h2)
  · exact .of_right (intBits_le_64 h1 h2)
theorem op_add : OpR X (binaryOp .Add) (rI0 fun i j => .int (i + j)) := opI0 fun _ _ _ _ _ _ _ q => add_int q
theorem op_sub : OpR X (binaryOp .Sub) (rI0 fun i j => .int (i - j)) := opI0 fun _ _ _ _ _ _ _ q => sub_int q
theorem op_mul : OpR X (binaryOp .Mult) (rI CMul fun i j => .int (i * j)) := opI fun _ _ _ _ _ _ _ hc q => mul_int q hc.ok
theorem op_modN : OpR X (binaryOp .Mod) (rI (fun _ j => j ≠ 0) fun i j => .int (i.fmod j)) := opI fun _ _ _ _ _ _ _ hc q => mod_int' hc q
theorem op_pow : OpR X (binaryOp .Pow) (rI CPow fun i j => .int (i ^ j.toNat)) := opI fun _ _ _ _ _ _ _ hc q => pow_int_small hc.1 hc.2.1 hc.2.2 q
theorem unI {f : Value → Sem Value} {g : Int → Int}
    (rule : ∀ (i : Int) (t : Tok) (s : Shared) (Q : Value → Shared → Prop) (E : Value → Shared → Prop), Q (.int (g i) s.toks) { s with toks := s.toks + 1 } → wpAny (model X.prog X.w) X.A (f (.int i t)) Q E s) :
    UnR X f (rU fun i => .int (g i)) := by
  intro pins s σ H x v Q I rx h
  obtain ⟨i, rfl, q⟩ := h
  obtain ⟨t, rfl⟩ := rx
  exact rule i t s _ _ ⟨.int (g i), H, I.tok _, ⟨_, rfl⟩, q⟩
theorem un_neg : UnR X (unaryOp .USub) (rU fun i => .int (-i)) := unI fun _ _ _ _ _ q => neg_int q
end
section
variable {X : Cx} {a b c : Expr} {ta tb tc : TE} {pos : Pos}
theorem op_lt : OpR X (compareOp .Lt) (rI0 fun i j => .bl (decide (i < j))) := opB0 fun _ _ _ _ _ _ _ q => lt_int q
theorem op_le : OpR X (compareOp .LtE) (rI0 fun i j => .bl (decide (i ≤ j))) := opB0 fun _ _ _ _ _ _ _ q => le_int q
theorem op_gt : OpR X (compareOp .Gt) (rI0 fun i j => .bl (decide (j < i))) := opB0 fun _ _ _ _ _ _ _ q => gt_int q
theorem OpR.or {f : Value → Value → Sem Value} {r r' : R2} (h : OpR X f r) (h' : OpR X f r') : OpR X f (fun x y H Q => r x y H Q ∨ r' x y H Q) := by
  intro pins s σ H x y v u Q I rx ry q
  rcases q with q | q
  · exact h pins s σ H x y v u Q I rx ry q
  · exact h' pins s σ H x y v u Q I rx ry q
theorem nomark (b : Expr) {op : CmpOp} (h : op ≠ .In := by decide) (h2 : op ≠ .NotIn := by decide) : behindInMarks op b = false := by
  have e1 : (op == CmpOp.In) = false := by cases op <;> first | rfl | exact absurd rfl h
  have e2 : (op == CmpOp.NotIn) = false := by cases op <;> first | rfl | exact absurd rfl h2
  cases b <;> simp [behindInMarks, e1, e2]
theorem pe_cmpR {op : CmpOp} {r : R2} (ho : OpR X (compareOp op) r) (ha : PE X a ta) (hb : PE X b tb) (hm : behindInMarks op b = false) : PE X (.Compare a [op] [b] pos) (tOp r ta tb) := by
  intro pins s σ H Q I h
  exact wpAny_Compare1 (binT ha hb I h fun v u s2 x y H2 I2 rx ry q => ho pins s2 σ H2 x y v u Q I2 rx ry q) hm
noncomputable def tTest (t : TE) : TT := fun σ H Q => t σ H fun x H' => ∃ k, x = .bl k ∧ Q k H'
theorem pt_cmpR {op : CmpOp} {r : R2} (ho : OpR X (compareOp op) r) (ha : PE X a ta) (hb : PE X b tb) (hm : behindInMarks op b = false) : PT X (.Compare a [op] [b] pos) (tTest (tOp r ta tb)) := by
  intro pins s σ H Q I h
  refine wpAny_isTrue_Compare1 (thn (ha pins s σ H _ I h) fun v s1 ⟨x, H1, I1, r1, q1⟩ => thn (hb pins s1 σ H1 _ I1 q1) fun u s2 ⟨y, H2, I2, r2, q2⟩ =>
    thn (ho pins s2 σ H2 x y v u _ I2 r1 r2 q2) fun c s3 ⟨z, H3, I3, r3, k, e, q3⟩ => ?_) hm
  subst e
  cases r3
  exact wpAny_truthy_bool ⟨H3, I3, q3⟩
noncomputable def tChain (r r' : R2) (ta tb tc : TE) : TE := fun σ H Q => ta σ H fun x H1 => tb σ H1 fun y H2 => r x y H2 fun z H3 => ∃ k, z = .bl k ∧
  (if k = true then tc σ H3 fun w' H4 => r' y w' H4 Q else Q (.bl false) H3)
theorem pe_chain {op op' : CmpOp} {r r' : R2} (ho : OpR X (compareOp op) r) (ho' : OpR X (compareOp op') r') (ha : PE X a ta) (hb : PE X b tb) (hc : PE X c tc)
    (hm : lastMarks [op, op'] [b, c] = false := by with_unfolding_all rfl) : PE X (.Compare a [op, op'] [b, c] pos) (tChain r r' ta tb tc) := by
  intro pins s σ H Q I h
  refine Compare_chain (thn (ha pins s σ H _ I h) fun v s1 ⟨x, H1, I1, r1, q1⟩ => chain_link (thn (hb pins s1 σ H1 _ I1 q1) fun u s2 ⟨y, H2, I2, r2, q2⟩ =>
    thn (ho pins s2 σ H2 x y v u _ I2 r1 r2 q2) fun d s3 ⟨z, H3, I3, r3, k, e, q3⟩ => ?_)) hm
  subst e
  cases r3
  refine wpAny_truthy_bool ?_
  cases k with
  | false => exact ite_ff ⟨.bl false, H3, I3, rfl, q3⟩
  | true => exact ite_tt (chain_last (thn (hc pins s3 σ H3 _ I3 q3) fun w' s4 ⟨z', H4, I4, r4, q4⟩ => ho' pins s4 σ H4 y z' u w' Q I4 r2 r4 q4))
theorem line63 : (sizeLine : Nat) < 2 ^ 63 := by rw [sizeLine_eq]; decide
theorem op_add_str : OpR X (binaryOp .Add) (fun x y H Q => ∃ i j, x = .str i ∧ y = .str j ∧ i.length + j.length ≤ sizeLine ∧ Q (.str (i ++ j)) H) := by
  intro pins s σ H x y v u Q I rx ry h
  obtain ⟨i, j, rfl, rfl, hz, q⟩ := h
  obtain ⟨t, rfl⟩ := rx
  obtain ⟨t', rfl⟩ := ry
  exact add_str (fun t' tk => ⟨.str (i ++ j), H, I.tok _, ⟨_, rfl⟩, q⟩) hz
theorem vals1 {x : V} {us : List Value} (r : Vals [x] us) : ∃ u, us = [u] ∧ RelV x u := by
  cases r with
  | cons r1 r2 => cases r2; exact ⟨_, rfl, r1⟩
theorem vals2 {x y : V} {us : List Value} (r : Vals [x, y] us) : ∃ u w', us = [u, w'] ∧ RelV x u ∧ RelV y w' := by
  cases r with
  | cons r1 r2 =>
    cases r2 with
    | cons r3 r4 => cases r4; exact ⟨_, _, rfl, r1, r3⟩
end
end L2
namespace L2
open PySem PySem.Spec PyProof.Rows
structure ObjM (h : Heap) (x dx C : Addr) (mA : Str → Option Value) : Prop where
  obj : h.get? x = some (PySem.W.instObj C dx)
  ns : h.Ns1 dx mA
  ne : dx ≠ x
theorem lookIn_ns {h : Heap} {dx : Addr} {mA : Str → Option Value} (n : h.Ns1 dx mA) : ∃ od, h.get? dx = some od ∧ ∀ name, PySem.W.lookIn name od = some (mA name) := by
  obtain ⟨o, es, ep, ho, hd, hk, _, hm⟩ := n
  refine ⟨o, ho, fun name => ?_⟩
  have e := hm name
  unfold nsFind findBy at e
  rw [← Array.find?_toList] at e
  unfold PySem.W.lookIn
  rw [hd]
  dsimp only
  split
  · rename_i y q
    rw [q] at e
    exact congrArg some e
  · rename_i q
    rw [q] at e
    have a : es.toList.any (·.refKey) = false := by
      rw [List.any_eq_false]
      intro y hy
      obtain ⟨z, t, hkey⟩ := hk y (Array.mem_toList_iff.mp hy)
      simp [DictEntry.refKey, hkey]
    have a' : ¬ es.toList.any (·.refKey) = true := by rw [a]; exact Bool.false_ne_true
    rw [if_neg a']
    exact congrArg some e
theorem ObjM.look {h : Heap} {x dx C : Addr} {mA : Str → Option Value} (I : ObjM h x dx C mA) : ∃ od, PySem.W.InstAt h x (PySem.W.instObj C dx) C (some od) ∧ ∀ name, PySem.W.lookIn name od = some (mA name) :=
  let ⟨od, ho, hl⟩ := lookIn_ns I.ns
  ⟨od, ⟨I.obj, rfl, rfl, ho⟩, hl⟩
section
variable {prog : Program} {w : World} {A : Around} {E : Value → Shared → Prop} {s : Shared} {K : PySem.W.Frag} {x dx C f : Addr} {mA : Str → Option Value} {name : Str} {v : Value}
end
theorem RelO.some_of {v : V} {o : Option Value} (r : RelO (some v) o) : ∃ u, o = some u ∧ RelV v u := by
  cases o with
  | none => exact (show False from r).elim
  | some u => exact ⟨u, rfl, r⟩
section
variable {P : Program} {w : World} {H H' : Hp} {h h' : Heap} {a C dx : Addr} {fs fs' : List (Str × V)}
theorem ins_get (hok : HOk P w H h) (e : H a = some (.ins C dx fs)) : ∃ mA, ObjM h a dx C mA ∧ (∀ f, RelO (fs.lookup f) (mA f)) ∧ PySem.Within mA (fs.map (·.1)) ∧ fs.length ≤ 1000 ∧ H dx = some (.own a) := by
  obtain ⟨d, z, ne, ob, mA, n, r, q⟩ := (show ObjOk P w H h a (.ins C dx fs) from hok a _ e)
  exact ⟨mA, ⟨ob, n, ne⟩, r, q, z, d⟩
end
structure Cls (K : PySem.W.Frag) (C : Addr) : Prop where
  pg : PySem.W.plainGet K C Str.empty = true
  hd : PySem.W.hasDictIn K C = true
  po : PySem.W.plainOver K C = true
  sa : PySem.W.findIn K (.ref C) "__setattr__" = some (some (.builtin "object.__setattr__"))
theorem Cls.get {K : PySem.W.Frag} {C : Addr} (c : Cls K C) (f : Str) : PySem.W.plainGet K C f = true := c.pg
section
variable {X : Cx} {pins : List (Addr × Obj)} {σ : St} {H : Hp} {s : Shared} {a C dx : Addr} {fs : List (Str × V)} {f : Str} {v : V} {A : Around} {E : Value → Shared → Prop}
end
section
variable {X : Cx} {o e value : Expr} {f : Str} {pos pos' tpos : Pos} {ta tv : TE}
end
section
variable {X : Cx} {pins : List (Addr × Obj)} {σ : St} {H : Hp} {s : Shared} {A : Around} {E : Value → Shared → Prop} {Q : Value → Shared → Prop} {c : Value} {b : Bool}
inductive TyOf (K : PySem.W.Frag) (H : Hp) : V → Value → Prop where
  | non : TyOf K H .non (.type "NoneType")
  | bl (x : Bool) : TyOf K H (.bl x) (.type "bool")
  | int (i : Int) : TyOf K H (.int i) (.type "int")
  | str (x : Str) : TyOf K H (.str x) (.type "str")
  | flt (x : UInt64) : TyOf K H (.flt x) (.type "float")
  | lst {a : Addr} {xs : List V} (e : H a = some (.lst xs)) : TyOf K H (.ref a) (.type "list")
  | frz {a : Addr} {o : Obj} {xs : List V} (e : H a = some (.frz o (.lst xs))) : TyOf K H (.ref a) (.type "list")
  | tup {a : Addr} {xs : List V} (e : H a = some (.tup xs)) : TyOf K H (.ref a) (.type "tuple")
  | dK {a : Addr} {kvs : List (Key × V)} (e : H a = some (.dK kvs)) : TyOf K H (.ref a) (.type "dict")
  | dT {a : Addr} {kvs : List (List Key × V)} (e : H a = some (.dT kvs)) : TyOf K H (.ref a) (.type "dict")
  | ins {a C dx : Addr} {fs : List (Str × V)} (e : H a = some (.ins C dx fs)) (cl : Cls K C) (ha : PySem.W.findIn K (.ref C) "__class__" = some (some (.builtin "object.__class__")))
      (hn : PySem.W.specialIn K (.builtin "object.__class__") "__get__" = some (some (.builtin "getset_descriptor.__get__"))) (htk : PySem.W.takesIn K (.builtin "object.__class__") = some true)
      (hm : PySem.W.mroIn K C (.type "object") = some true) : TyOf K H (.ref a) (.ref C)
theorem isinst_ok {x : V} {u t : Value} (I : Inv X pins σ H s) (rx : RelV x u) (ty : TyOf X.K H x t) (e : PySem.W.kitOne X.K t c = some b) (h : ∀ tk, Q (.bool b) { s with toks := tk }) :
    wpAny (model X.prog X.w) A (call (.builtin "isinstance") [u, c]) Q E s := by
  cases ty with
  | non => cases (show u = Value.none from rx); exact PySem.W.kia_one PySem.W.kitx_none I.kIn True.intro e (fun z => nomatch z) h
  | bl y => cases (show u = Value.bool y from rx); exact PySem.W.kia_one PySem.W.kitx_bool I.kIn True.intro e (fun z => nomatch z) h
  | int i => obtain ⟨t, q⟩ := (show ∃ t, u = Value.int i t from rx); cases q; exact PySem.W.kia_one PySem.W.kitx_int I.kIn True.intro e (fun z => nomatch z) h
  | str y => obtain ⟨t, q⟩ := (show ∃ t, u = Value.str y t from rx); cases q; exact PySem.W.kia_one PySem.W.kitx_str I.kIn True.intro e (fun z => nomatch z) h
  | flt y => obtain ⟨t, q⟩ := (show ∃ t, u = Value.float y t from rx); cases q; exact PySem.W.kia_one PySem.W.kitx_float I.kIn True.intro e (fun z => nomatch z) h
  | @lst a xs ea =>
    cases (show u = Value.ref a from rx)
    obtain ⟨_, _, n, _, h1⟩ := (show ObjOk X.prog X.w H s.heap a (.lst xs) from I.hok a _ ea)
    exact PySem.W.kia_one PySem.W.kitx_list I.kIn ⟨_, h1, rfl⟩ e (fun z => nomatch z) h
  | @frz a ob xs ea =>
    cases (show u = Value.ref a from rx)
    obtain ⟨_, _, _, n, _, h1⟩ := (show ObjOk X.prog X.w H s.heap a (.frz ob (.lst xs)) from I.hok a _ ea)
    exact PySem.W.kia_one PySem.W.kitx_list I.kIn ⟨_, h1, rfl⟩ e (fun z => nomatch z) h
  | @tup a xs ea =>
    cases (show u = Value.ref a from rx)
    obtain ⟨_, _, _, p⟩ := (show ObjOk X.prog X.w H s.heap a (.tup xs) from I.hok a _ ea)
    obtain ⟨o, h1, h2, _⟩ := p
    exact PySem.W.kia_one PySem.W.kitx_tuple I.kIn ⟨o, h1, h2⟩ e (fun z => nomatch z) h
  | @dK a kvs ea =>
    cases (show u = Value.ref a from rx)
    obtain ⟨_, _, vs, _, p⟩ := (show ObjOk X.prog X.w H s.heap a (.dK kvs) from I.hok a _ ea)
    obtain ⟨o, es, ep, h1, h2, _⟩ := p
    exact PySem.W.kia_one PySem.W.kitx_dict I.kIn ⟨o, h1, h2.1⟩ e (fun z => nomatch z) h
  | @dT a kvs ea =>
    cases (show u = Value.ref a from rx)
    obtain ⟨_, _, xs, _, o, es, ep, h1, h2, _⟩ := (show ObjOk X.prog X.w H s.heap a (.dT kvs) from I.hok a _ ea)
    exact PySem.W.kia_one PySem.W.kitx_dict I.kIn ⟨o, h1, h2.1⟩ e (fun z => nomatch z) h
  | @ins a C dx fs ea cl ha hn htk hm =>
    cases (show u = Value.ref a from rx)
    obtain ⟨mA, O, _⟩ := ins_get I.hok ea
    obtain ⟨od, J, _⟩ := O.look
    exact PySem.W.kia_one (PySem.W.kitx_own (cl.get _) cl.hd ha hn htk hm) I.kIn J e (fun z => nomatch z) h
end
end L2
namespace L2
open PySem PySem.Spec PyProof.Rows
structure Room (k : Nat) (A : Around) : Prop where
  hd : A.handled = none
  dp : A.depth + 3 * k + 5 < recursionLimit
  un : A.units + 16 * k + 200 < cLine
theorem Room.mono {j k : Nat} {A : Around} (r : Room k A) (h : j ≤ k) : Room j A := ⟨r.hd, by have := r.dp; omega, by have := r.un; omega⟩
theorem Room.deeper {k : Nat} {A : Around} (r : Room (k + 1) A) (env : Env) : Room k (A.deeper env) :=
  ⟨r.hd, by have := r.dp; show A.depth + 1 + 3 * k + 5 < _; omega, by have := r.un; show A.units + 3 + 16 * k + 200 < _; omega⟩
theorem Room.depth {k : Nat} {A : Around} (r : Room k A) : A.depth < recursionLimit := by have := r.dp; omega
theorem Room.units {k : Nat} {A : Around} (r : Room k A) : A.units + 64 < cLine := by have := r.un; omega
noncomputable def tNil : TA := fun _ H Q => Q [] H
noncomputable def tCons (ta : TE) (tr : TA) : TA := fun σ H Q => ta σ H fun x H1 => tr σ H1 fun xs H2 => Q (x :: xs) H2
section
variable {X : Cx} {e : Expr} {es : List Expr} {te : TE} {t : TA} {pos : Pos}
theorem pa_nil : PA X [] tNil := fun _ _ _ _ H Q I h => Calls.spliced_nil ⟨[], H, I, .nil, h⟩
theorem pa_cons (ha : PE X e te) (hr : PA X es t) (hs : starEach (e :: es) X.env = (false, eval e X.env) :: starEach es X.env := by rfl) : PA X (e :: es) (tCons te t) := by
  intro pos pins s σ H Q I h
  rw [hs]
  show wpAny _ _ (spliced ((false, eval e X.env) :: backTo pos (starEach es X.env))) _ _ s
  refine Calls.spliced_cons (thn (ha pins s σ H _ I h) fun u s1 ⟨x, H1, I1, r1, q1⟩ => ?_)
  exact thn (hr pos pins s1 σ H1 _ I1 q1) fun us s2 ⟨xs, H2, I2, r2, q2⟩ => ⟨x :: xs, H2, I2, .cons r1 r2, q2⟩
noncomputable def tTup (t : TA) : TE := fun σ H Q => t σ H fun xs H1 => xs.length ≤ sizeLine ∧ ∀ p, H1 p = none → Q (.ref p) (upd H1 p (.tup xs))
noncomputable def tLst (t : TA) : TE := fun σ H Q => t σ H fun xs H1 => xs.length ≤ sizeLine ∧ ∀ p, H1 p = none → Q (.ref p) (upd H1 p (.lst xs))
theorem pe_tup {x1} (h : PA X es t) : PE X (.Tuple es x1 pos) (tTup t) := by
  intro pins s σ H Q I hq
  refine wpAny_Tuple_spliced (thn (h pos pins s σ H _ I hq) fun us s1 ⟨xs, H1, I1, r, z, q⟩ => ⟨by rw [← r.length]; exact z, ?_⟩)
  have hf : H1 s1.heap.objs.size = none := I1.hok.fresh (Nat.le_refl _)
  refine ⟨.ref s1.heap.objs.size, upd H1 s1.heap.objs.size (.tup xs), I1.laid (t' := s1.toks) (fun b u e => Heap.get?_push_of_some _ e) (Nat.le_refl _) ?_, rfl, q _ hf⟩
  exact ⟨z, us, r, ⟨_, Heap.get?_push_size _ rfl, rfl, _, rfl⟩⟩
theorem pe_lst (h : PA X es t) : PE X (.List es pos) (tLst t) := by
  intro pins s σ H Q I hq
  refine wpAny_List_spliced (thn (h pos pins s σ H _ I hq) fun us s1 ⟨xs, H1, I1, r, z, q⟩ => ⟨by rw [← r.length]; exact z, ?_⟩)
  have hf : H1 s1.heap.objs.size = none := I1.hok.fresh (Nat.le_refl _)
  refine ⟨.ref s1.heap.objs.size, upd H1 s1.heap.objs.size (.lst xs), I1.laid (t' := s1.toks) (fun b u e => Heap.get?_push_of_some _ e) (Nat.le_refl _) ?_, rfl, q _ hf⟩
  exact ⟨z, us, 0, r, Heap.get?_push_size _ rfl⟩
end
noncomputable abbrev Sp := List V → Hp → VK → XK → Prop
noncomputable abbrev CXT := List Env → Hp → Shared → XK → Value → Shared → Prop
structure Env0 (P : Program) (w : World) (K : PySem.W.Frag) (mg : Str → Option Value) (base : Heap) (A : Around) (outer : List Env) (s : Shared) (H : Hp) : Prop where
  frames : A.frames = some outer
  mod : Mod K mg base
  bs : ∀ b o, base.get? b = some o → s.heap.get? b = some o ∧ H b = none
  bsz : base.objs.size ≤ s.heap.objs.size
  funs : s.heap.FunFrames base outer
  frf : ∀ b ∈ frs outer, H b = none
  hok : HOk P w H s.heap
  bare : AllBare s.gens
noncomputable def CE (outer : List Env) (P : Program) (w : World) (H : Hp) (s : Shared) (Q : VK) (u : Value) (s' : Shared) : Prop :=
  ∃ v H', s'.os = s.os ∧ AllBare s'.gens ∧ Un (frs outer) [] H H' s.heap s'.heap ∧ HOk P w H' s'.heap ∧ RelV v u ∧ Q v H'
noncomputable def CR (CX : CXT) (outer : List Env) (P : Program) (w : World) (H : Hp) (s : Shared) (Q : VK) (E : XK) (r : Result) (s' : Shared) : Prop :=
  match r with
  | .ok (.ret u) => CE outer P w H s Q u s'
  | .ok _ => False
  | .error e => CX outer H s E e s'
structure FnOk (P : Program) (w : World) (K : PySem.W.Frag) (mg : Str → Option Value) (base : Heap) (CX : CXT) (k : Nat) (f : Addr) (fd : FuncData) (ps : List Str) (sp : Sp) : Prop where
  len : ∀ vs H Q E, sp vs H Q E → vs.length = ps.length
  run : ∀ (A : Around) (outer : List Env) (s : Shared) (H : Hp) (args : Args) (us : List Value) (vs : List V) (Q : VK) (E : XK), Room k A → Env0 P w K mg base A outer s H → BindsTo s fd args (ps.zip us) → Vals vs us → sp vs H Q E →
    codeAny (model P w) A (.call (.ref f) args) (CR CX outer P w H s Q E) s
theorem FnOk.imp {P : Program} {w : World} {K : PySem.W.Frag} {mg : Str → Option Value} {base : Heap} {CX : CXT} {k : Nat} {f : Addr} {fd : FuncData} {ps : List Str} {sp sp' : Sp} (F : FnOk P w K mg base CX k f fd ps sp)
    (h : ∀ vs H Q E, sp' vs H Q E → sp vs H Q E) : FnOk P w K mg base CX k f fd ps sp' :=
  ⟨fun vs H Q E q => F.len vs H Q E (h _ _ _ _ q), fun A outer s H args us vs Q E hr he hb hv hs => F.run A outer s H args us vs Q E hr he hb hv (h _ _ _ _ hs)⟩
section
variable {X : Cx} {pins : List (Addr × Obj)} {σ : St} {H : Hp} {s s' : Shared}
theorem Inv.env0 (I : Inv X pins σ H s) : Env0 X.prog X.w X.K X.mg X.base X.A X.stack s H :=
  ⟨I.ok.frames, I.ok.mod, I.bs, Nat.le_trans I.ok.bsz I.sz, I.stack, I.stkFree, I.hok, I.bare⟩
theorem Inv.after {Q : VK} {u : Value} (I : Inv X pins σ H s) (h : CE X.stack X.prog X.w H s Q u s') : EP X pins σ Q u s' := by
  obtain ⟨v, H', os, bare, un, hok, r, q⟩ := h
  obtain ⟨hh, g, d, t, os'⟩ := s'
  obtain rfl : os' = s.os := os
  exact ⟨v, H', I.call (h' := hh) (g' := g) (d' := d) (t' := t) (ch := []) un hok bare (fun b z => absurd z (by simp)), r, q⟩
end
noncomputable def tCall (sp : Sp) (dvs : List V) (E : XK) (t : TA) : TE := fun σ H Q => t σ H fun vs H1 => sp (vs ++ dvs) H1 Q E
noncomputable def Binds (K : PySem.W.Frag) (fd : FuncData) (ps : List Str) (ds : List Value) : Prop :=
  ∀ (s : Shared) (us : List Value), K.In s.heap → (us ++ ds).length = ps.length → BindsTo s fd ⟨us, []⟩ (ps.zip (us ++ ds))
theorem Binds.all {K : PySem.W.Frag} {fd : FuncData} {ps : List Str} (h : ∀ us : List Value, us.length = ps.length → bindArgs fd ⟨us, []⟩ = pure (ps.zip us)) : Binds K fd ps [] := fun s us _ hl => by
  rw [List.append_nil] at hl ⊢
  exact .of_eq (h us hl)
noncomputable def Passes (CX : CXT) (X : Cx) (E : XK) : Prop := ∀ (pins : List (Addr × Obj)) (σ : St) (H : Hp) (s : Shared) (e : Value) (s' : Shared), Inv X pins σ H s → CX X.stack H s E e s' → X.xe e s'
section
variable {X : Cx} {CX : CXT} {k : Nat} {f C : Addr} {fd : FuncData} {ps : List Str} {sp : Sp} {dvs : List V} {ds : List Value} {E : XK} {x m : Str} {p pos apos : Pos} {e o : Expr} {es : List Expr} {ta : TE} {t : TA}
theorem run_fn {pins : List (Addr × Obj)} {σ : St} {H : Hp} {s : Shared} {Q : VK} {us : List Value} {vs : List V} (F : FnOk X.prog X.w X.K X.mg X.base CX k f fd ps sp) (hr : Room k X.A) (hb : Binds X.K fd ps ds) (hd : Vals dvs ds) (hx : Passes CX X E)
    (I : Inv X pins σ H s) (r : Vals vs us) (h : sp (vs ++ dvs) H Q E) : wpAny (model X.prog X.w) X.A (call (.ref f) us) (EP X pins σ Q) X.xe s := by
  have r2 : Vals (vs ++ dvs) (us ++ ds) := r.append hd
  have hl : (us ++ ds).length = ps.length := by rw [← r2.length]; exact F.len _ _ _ _ h
  refine wpAny_call (codeAny_mono (F.run X.A X.stack s H ⟨us, []⟩ (us ++ ds) (vs ++ dvs) Q E hr I.env0 (hb s us I.kIn hl) r2 h) fun r s' hq => ?_)
  cases r with
  | error e => exact hx pins σ H s e s' I hq
  | ok fl =>
    cases fl with
    | ret u => exact I.after hq
    | next => exact False.elim hq
    | brk => exact False.elim hq
    | cont => exact False.elim hq
theorem pe_call (F : FnOk X.prog X.w X.K X.mg X.base CX k f fd ps sp) (hr : Room k X.A) (hg : Gl X x) (hm : X.mg x = some (.ref f)) (hk : PySem.W.keepIn X.K (.ref f) = true) (hb : Binds X.K fd ps ds) (hd : Vals dvs ds) (hx : Passes CX X E)
    (ha : PA X (e :: es) t) (hdb : (x == ("__debug__" : Str)) = false := by decide) (he : starEach (e :: es) X.env = (false, eval e X.env) :: starEach es X.env := by rfl) (hpl : (backTo pos (starEach es X.env)).any (·.1) = false := by rfl) :
    PE X (.Call (.Name x p) (e :: es) [] pos) (tCall sp dvs E t) := by
  intro pins s σ H Q I h
  refine wpAny_Call_Name_kw (ld_glob I hg hm ?_ hdb)
  refine PySem.W.callWith_K (h₀ := X.base) I.ok.mod.kin hk (thn (ha pos pins s σ H _ I h) fun us s1 ⟨vs, H1, I1, r, q⟩ => ⟨I1.kIn, ?_⟩) he hpl
  exact run_fn F hr hb hd hx I1 r q
end
noncomputable def PK (X : Cx) (kws : List Keyword) (t : TA) : Prop :=
  ∀ (pos : Pos) (pins : List (Addr × Obj)) (s : Shared) (σ : St) (H : Hp) (Q : List V → Hp → Prop), Inv X pins σ H s → t σ H Q → wpAny (model X.prog X.w) X.A (evalAll ((backToKw pos (keywordEach kws X.env)).map (·.2))) (AP X pins σ Q) X.xe s
section
variable {X : Cx} {CX : CXT} {k : Nat} {f C : Addr} {fd : FuncData} {ps ks : List Str} {sp : Sp} {E : XK} {x m : Str} {p pos apos kpos : Pos} {e o : Expr} {es : List Expr} {kws : List Keyword} {te ta : TE} {t tk : TA} {nm : Option Str}
theorem pk_nil : PK X [] tNil := fun _ _ _ _ H Q I h => wpAny_evalAll_nil ⟨[], H, I, .nil, h⟩
theorem pk_cons (ha : PE X e te) (hr : PK X kws t) : PK X (⟨nm, e, kpos⟩ :: kws) (tCons te t) := by
  intro pos pins s σ H Q I h
  show wpAny _ _ (evalAll ((do let v ← eval e X.env; standAt pos; pure v) :: (backToKw pos (keywordEach kws X.env)).map (·.2))) _ _ s
  refine wpAny_evalAll_cons (wpAny_bind (thn (ha pins s σ H _ I h) fun u s1 ⟨x, H1, I1, r1, q1⟩ => wpAny_bind (wpAny_standAt (wpAny_pure ?_))))
  exact thn (hr pos pins s1 σ H1 _ I1 q1) fun us s2 ⟨xs, H2, I2, r2, q2⟩ => ⟨x :: xs, H2, I2, .cons r1 r2, q2⟩
variable {g : List Value → List Value → List Value} {gV : List V → List V → List V}
end
structure FnScope (N P : List Str) (sc : Scope) : Prop where
  kind : sc.kind = .function
  co : sc.isCoroutine = false
  gen : sc.isGenerator = false
  nd : N.Nodup
  pre : N.take P.length = P
  par : ∀ x ∈ P, sc.names.lookup x = some .local ∨ sc.names.lookup x = some .cell
  nofree : ∀ y ∈ sc.names, y.2 ≠ .free
theorem bindL_out {kindOf : Str → Option NameKind} {x : Str} : ∀ {binds : List (Str × Value)} {m : Str → Option Value}, (∀ v, (x, v) ∉ binds) → bindL kindOf binds m x = m x
  | [], _, _ => rfl
  | (n, v) :: r, m, h => by
    unfold bindL
    rw [bindL_out fun w hw => h w (List.mem_cons_of_mem _ hw)]
    split
    · have : x ≠ n := by rintro rfl; exact h v List.mem_cons_self
      simp [this]
    · rfl
theorem bindC_out {kindOf : Str → Option NameKind} {x : Str} : ∀ {binds : List (Str × Value)} {m : Str → Option Value}, (∀ v, (x, v) ∉ binds) → bindC kindOf binds m x = m x
  | [], _, _ => rfl
  | (n, v) :: r, m, h => by
    unfold bindC
    rw [bindC_out fun w hw => h w (List.mem_cons_of_mem _ hw)]
    split
    · rfl
    · have : x ≠ n := by rintro rfl; exact h v List.mem_cons_self
      simp [this]
theorem bindL_get {kindOf : Str → Option NameKind} {x : Str} {v : Value} : ∀ {P : List Str} {vs : List Value} {i : Nat} {m : Str → Option Value}, P.Nodup → P[i]? = some x → vs[i]? = some v → kindOf x = some .local →
    bindL kindOf (P.zip vs) m x = some v
  | [], _, _, _, _, h, _, _ => by simp at h
  | _ :: _, [], _, _, _, _, h, _ => by simp at h
  | p :: P, w :: vs, 0, m, nd, h1, h2, hk => by
    simp at h1 h2; subst h1; subst h2
    show bindL kindOf ((p, w) :: P.zip vs) m p = _
    unfold bindL
    rw [bindL_out fun v hv => (List.nodup_cons.mp nd).1 (List.of_mem_zip hv).1, if_pos hk]
    simp
  | p :: P, w :: vs, i + 1, m, nd, h1, h2, hk => by
    show bindL kindOf ((p, w) :: P.zip vs) m x = _
    unfold bindL
    exact bindL_get (i := i) (List.nodup_cons.mp nd).2 (by simpa using h1) (by simpa using h2) hk
theorem bindC_get {kindOf : Str → Option NameKind} {x : Str} {v : Value} : ∀ {P : List Str} {vs : List Value} {i : Nat} {m : Str → Option Value}, P.Nodup → P[i]? = some x → vs[i]? = some v → kindOf x ≠ some .local →
    bindC kindOf (P.zip vs) m x = some v
  | [], _, _, _, _, h, _, _ => by simp at h
  | _ :: _, [], _, _, _, _, h, _ => by simp at h
  | p :: P, w :: vs, 0, m, nd, h1, h2, hk => by
    simp at h1 h2; subst h1; subst h2
    show bindC kindOf ((p, w) :: P.zip vs) m p = _
    unfold bindC
    rw [bindC_out fun v hv => (List.nodup_cons.mp nd).1 (List.of_mem_zip hv).1, if_neg hk]
    simp
  | p :: P, w :: vs, i + 1, m, nd, h1, h2, hk => by
    show bindC kindOf ((p, w) :: P.zip vs) m x = _
    unfold bindC
    exact bindC_get (i := i) (List.nodup_cons.mp nd).2 (by simpa using h1) (by simpa using h2) hk
noncomputable def start (N : List Str) (vs : List V) : St := vs.map some ++ List.replicate (N.length - vs.length) none
noncomputable def cxOf (CX : CXT) (P : Program) (w : World) (K : PySem.W.Frag) (mg : Str → Option Value) (base : Heap) (N : List Str) (qual : Str) (scope : Scope) (f : Addr) (cd : Value) (A : Around) (outer : List Env) (s : Shared) (H : Hp) (E : XK) : Cx where
  prog := P
  w := w
  K := K
  mg := mg
  base := base
  A := A.deeper (envOfC qual scope s.heap.objs.size f cd)
  N := N
  s₀ := s
  H₀ := H
  env := envOfC qual scope s.heap.objs.size f cd
  outer := outer
  stack := envOfC qual scope s.heap.objs.size f cd :: outer
  ex := []
  calm := true
  fn := fun _ => true
  pn := []
  xe := fun e s' => wpAny (model P w) (A.deeper (envOfC qual scope s.heap.objs.size f cd)) (leaving (envOfC qual scope s.heap.objs.size f cd) e) (fun _ s'' => CX outer H s E e s'') (fun e' s'' => CX outer H s E e' s'') s'
theorem cell_has {sc : Scope} {n : Nat} {x : Str} (h : sc.names.lookup x = some .cell) : ∃ c, (cellsFrom n sc.names []).lookup x = some c := by
  have q := PySem.W.cellsFrom_some sc.names n [] (.inl h)
  exact Option.isSome_iff_exists.mp q
theorem inv_start {CX : CXT} {P : Program} {w : World} {K : PySem.W.Frag} {mg : Str → Option Value} {base : Heap} {N ps : List Str} {qual : Str} {scope : Scope} {f : Addr} {cd : Value} {A : Around} {outer : List Env} {s s1 : Shared} {H : Hp} {E : XK} {us : List Value} {vs : List V}
    (S : FnScope N ps scope) (hd : A.handled = none) (e0 : Env0 P w K mg base A outer s H) (hl : vs.length = ps.length) (r : Vals vs us)
    (x : InCallC s s.heap.objs.size (bindL (envOfC qual scope s.heap.objs.size f cd).kindOf (ps.zip us) fun _ => none) (cellsFrom (s.heap.objs.size + 1) scope.names []) (bindC (envOfC qual scope s.heap.objs.size f cd).kindOf (ps.zip us) fun _ => none) s1) :
    Inv (cxOf CX P w K mg base N qual scope f cd A outer s H E) [] (start N vs) H s1 := by
  have hpl : ps.length ≤ N.length := by have := congrArg List.length S.pre; rw [List.length_take] at this; omega
  obtain ⟨h1, tk, rfl, hk⟩ := x.done
  have noA : ∀ b : Addr, b ∉ (cxOf CX P w K mg base N qual scope f cd A outer s H E).ex := fun b z => absurd (show b ∈ ([] : List Addr) from z) (by simp)
  refine ⟨⟨e0.mod, S.kind, rfl, rfl, Nat.le_refl _, fun y z c h1 h2 => ?_, fun y hy => ?_, fun y c _ h => ?_, fun _ => hd, Around.frames_deeper e0.frames, .inr ⟨rfl, rfl⟩, fun b z => absurd z (noA b), e0.bs, e0.bsz, fun b _ _ => noA b, fun b z => absurd z (noA b), e0.funs, e0.frf⟩,
    rfl, e0.bare, Un.kept hk, ⟨_, x.toInCall.ns, fun i y v h1 h2 h3 => ?_⟩, fun y c h => ⟨_, x.cell y c h⟩, e0.hok.fresh (Nat.le_refl _), fun y c h => ?_, fun p hp => absurd (show p ∈ ([] : List (Addr × Obj)) from hp) (by simp), e0.hok.kept hk, ?_⟩
  · exact name_of_addr x.apart (PySem.mem_of_lookup h1) (PySem.mem_of_lookup h2)
  · have hy : scope.names.lookup y = some .cell ∨ scope.names.lookup y = some .free := hy
    rcases hy with hy | hy
    · exact cell_has hy
    · exact absurd rfl (S.nofree _ (PySem.mem_of_lookup hy))
  · exact Nat.le_of_lt (x.above y c (PySem.mem_of_lookup h))
  · have hi : i < vs.length := by
      unfold start at h2
      by_cases hi : i < vs.length
      · exact hi
      · rw [List.getElem?_append_right (by simpa using hi)] at h2
        rw [List.getElem?_replicate] at h2
        split at h2 <;> cases h2
    have ha : vs[i]? = some v := by
      unfold start at h2
      rw [List.getElem?_append_left (by simpa using hi), List.getElem?_map] at h2
      cases e : vs[i]? with
      | none => rw [e] at h2; cases h2
      | some a => rw [e] at h2; cases h2; rfl
    obtain ⟨u, hu, rv⟩ := r.get ha
    have hp : ps[i]? = some y := by
      rw [← S.pre, List.getElem?_take_of_lt (by omega)]; exact h1
    have ndP : ps.Nodup := by rw [← S.pre]; exact S.nd.sublist (List.take_sublist _ _)
    refine ⟨u, rv, ?_⟩
    rcases S.par y (List.mem_of_getElem? hp) with k | k
    · exact .inl ⟨k, bindL_get ndP hp hu k⟩
    · obtain ⟨c, e⟩ := cell_has (n := s.heap.objs.size + 1) k
      refine .inr ⟨.inl k, c, e, ?_⟩
      have q := x.cell y c e
      rw [bindC_get ndP hp hu (by show scope.names.lookup y ≠ _; rw [k]; decide)] at q
      exact q
  · exact e0.hok.fresh (Nat.le_of_lt (x.above y c (PySem.mem_of_lookup h)))
  · unfold start
    show _ = N.length
    rw [List.length_append, List.length_map, List.length_replicate]
    omega
theorem fn_of {CX : CXT} {P : Program} {w : World} {K : PySem.W.Frag} {mg : Str → Option Value} {base : Heap} {k : Nat} {f : Addr} {name qual : Str} {params : Arguments} {body : List Stmt} {scope : Scope} {dV kV doc pm cdv ct oc : Value} {an od : Option Addr}
    {osl : Array (Option Value)} {N ps : List Str} {sp : Sp} (lk : K.lookup f = some ⟨oc, od, .func (PySem.W.fnOf name qual params body scope dV kV doc pm an cdv ct), osl⟩) (hcd : PySem.W.codeIn K cdv qual = true) (S : FnScope N ps scope)
    (len : ∀ vs H Q E, sp vs H Q E → vs.length = ps.length)
    (hbody : ∀ (A : Around) (outer : List Env) (s : Shared) (H : Hp) (vs : List V) (Q : VK) (E : XK), Room k (A.deeper (envOfC qual scope s.heap.objs.size f cdv)) → sp vs H Q E →
      ∃ t, PSs (cxOf CX P w K mg base N qual scope f cdv A outer s H E) body t ∧ t { nx := fun _ H' => Q .non H', rt := Q } (start N vs) H) :
    FnOk P w K mg base CX (k + 1) f (PySem.W.fnOf name qual params body scope dV kV doc pm an cdv ct) ps sp := by
  refine ⟨len, fun A outer s H args us vs Q E hr e0 hb r hsp => ?_⟩
  have hl := len _ _ _ _ hsp
  have KX : K.In s.heap := e0.mod.kin.keeps fun b o e => (e0.bs b o e).1
  have lim : s.heap.NoLimit := e0.mod.nolimit.keeps fun b o e => (e0.bs b o e).1
  have hkind : ∀ y ∈ ps.zip us, scope.names.lookup y.1 = some .local ∨ (scope.names.lookup y.1 = some .cell ∧ ((cellsFrom (s.heap.objs.size + 1) scope.names []).lookup y.1).isSome = true) := fun ⟨n, v⟩ hy => by
    rcases S.par n (List.of_mem_zip hy).1 with q | q
    · exact .inl q
    · exact .inr ⟨q, PySem.W.cellsFrom_some _ _ _ (.inl q)⟩
  refine codeAny_call_function hr.depth (KX _ _ lk) rfl S.co S.gen rfl (PySem.W.codeRec_of KX hcd) (hb _ _ _ _ ?_)
  refine wpAny_newFunctionEnv_cells S.kind hkind fun env he s1 x => ?_
  subst he
  refine ⟨lim.keeps x.toInCall.keep, codeAny_func ?_⟩
  obtain ⟨t, ht, hq⟩ := hbody A outer s H vs Q E (hr.deeper _) hsp
  have I : Inv (cxOf CX P w K mg base N qual scope f cdv A outer s H E) [] (start N vs) H s1 := inv_start S hr.hd e0 hl r x
  refine wpAny_mono (ht [] s1 (start N vs) H _ I hq) (fun fl s' hs => ?_) fun e s' hs => hs
  have fin : ∀ {σ' : St} {H' : Hp} {v : V} {u : Value}, Inv (cxOf CX P w K mg base N qual scope f cdv A outer s H E) [] σ' H' s' → RelV v u → Q v H' → CE outer P w H s Q u s' :=
    fun {σ' H' v u} J rv q => ⟨v, H', J.os, J.bare, J.base, J.hok, rv, q⟩
  cases fl with
  | ret u =>
    obtain ⟨v, σ', H', J, rv, q⟩ := hs
    exact fin J rv q
  | next =>
    obtain ⟨σ', H', J, q⟩ := hs
    exact fin (v := V.non) (u := Value.none) J rfl q
  | brk =>
    obtain ⟨_, _, _, q⟩ := hs
    exact False.elim q
  | cont =>
    obtain ⟨_, _, _, q⟩ := hs
    exact False.elim q
end L2
namespace L2
open PySem PySem.Spec PyProof.Rows
section
variable {X : Cx} {x : Str} {p pos : Pos} {e : Expr} {es : List Expr} {t : TA} {id T : String} {r : List V → Hp → VK → Prop}
noncomputable def tCB (r : List V → Hp → VK → Prop) (t : TA) : TE := fun σ H Q => t σ H fun vs H1 => r vs H1 Q
theorem pe_callB (hc : CallR X (.builtin id) r) (hg : Gl X x) (hm : X.mg x = none) (hv : bootBuiltins x = some (.builtin id)) (ha : PA X (e :: es) t) (hn : x ≠ "__name__" := by decide) (hdb : (x == ("__debug__" : Str)) = false := by decide)
    (he : starEach (e :: es) X.env = (false, eval e X.env) :: starEach es X.env := by rfl) (hpl : (backTo pos (starEach es X.env)).any (·.1) = false := by rfl) : PE X (.Call (.Name x p) (e :: es) [] pos) (tCB r t) := by
  intro pins s σ H Q I h
  refine wpAny_Call_Name_kw (ld_blt I hg hm hv ?_ hn hdb)
  exact PyProof.Rows.callWith_builtin1 (thn (ha pos pins s σ H _ I h) fun us s1 ⟨vs, H1, I1, r1, q1⟩ => hc pins s1 σ H1 vs us Q I1 r1 q1) he hpl
theorem pe_callTy (hc : CallR X (.type T) r) (hg : Gl X x) (hm : X.mg x = none) (hv : bootBuiltins x = some (.type T)) (ha : PA X (e :: es) t) (hn : x ≠ "__name__" := by decide) (hdb : (x == ("__debug__" : Str)) = false := by decide)
    (he : starEach (e :: es) X.env = (false, eval e X.env) :: starEach es X.env := by rfl) (hpl : (backTo pos (starEach es X.env)).any (·.1) = false := by rfl) : PE X (.Call (.Name x p) (e :: es) [] pos) (tCB r t) := by
  intro pins s σ H Q I h
  refine wpAny_Call_Name_kw (ld_blt I hg hm hv ?_ hn hdb)
  exact PyProof.Rows.callWith_type1 (thn (ha pos pins s σ H _ I h) fun us s1 ⟨vs, H1, I1, r1, q1⟩ => hc pins s1 σ H1 vs us Q I1 r1 q1) he hpl
end
end L2
namespace HT
open PySem PyProof.Rows
noncomputable def lexLt : List Int → List Int → Bool
  | [], [] => false
  | [], _ :: _ => true
  | _ :: _, [] => false
  | x :: xs, y :: ys => if x = y then lexLt xs ys else decide (x < y)
section
open PySem.SeqAt
open PySem.AutoSeq1 (wpAny_loadPart')
open PySem.MeetsSeq PySem.MeetsSeq2 PySem.MeetsSeq3
end
section
variable {prog : Program} {w : World} {A : Around} {E : Value → Shared → Prop} {s : Shared}
theorem cat_tup {t b : Addr} {vs ws : List Value} {Q : Value → Shared → Prop} (ht : IsTup s.heap t vs.toArray) (hb : IsTup s.heap b ws.toArray) (hv : vs ≠ [])
    (h1 : ws = [] → Q (.ref t) s) (h2 : ws ≠ [] → Q (.ref s.heap.objs.size) { s with heap := s.heap.push { cls := .type "tuple", data := .seq (vs ++ ws).toArray } })
    (hsz : vs.length + ws.length ≤ sizeLine) : wpAny (model prog w) A (binaryOp .Add (.ref t) (.ref b)) Q E s := by
  obtain ⟨⟨cls, dd, data, sl⟩, ho, hc, n, hd⟩ := id ht
  obtain ⟨⟨cls2, dd2, data2, sl2⟩, ho2, hc2, n2, hd2⟩ := id hb
  simp only at hc hd hc2 hd2
  subst hc hd hc2 hd2
  have e : vs.toArray ++ ws.toArray = (vs ++ ws).toArray := by simp
  by_cases hw : ws = []
  · exact concat_meets ⟨_, ho, rfl⟩ ⟨_, ho2, rfl⟩ noFill_tuple_add seq_tuple_add PySem.F.slot_tuple_add PySem.F.entry_tuple_add (PySem.F.args_tuple_add_2 _ _)
      (tuple_addW1 t b vs.toArray ws.toArray n n2 dd dd2 sl sl2 (by simpa using hv) (by simp [hw])) ⟨ho, ho2, h1 hw⟩
  · refine concat_meets ⟨_, ho, rfl⟩ ⟨_, ho2, rfl⟩ noFill_tuple_add seq_tuple_add PySem.F.slot_tuple_add PySem.F.entry_tuple_add (PySem.F.args_tuple_add_2 _ _)
      (tuple_addW2 t b vs.toArray ws.toArray n n2 dd dd2 sl sl2 (by simpa using hv) (by simpa using hw) (by rw [List.size_toArray, List.size_toArray]; exact hsz)) ⟨ho, ho2, ?_⟩
    rw [e]
    exact h2 hw
noncomputable def sIx (n d : Nat) : Option Int → Nat
  | none => d
  | some v => if v < 0 then (v + (n : Int)).toNat else min v.toNat n
theorem sIx_none (n d : Nat) : sIx n d none = d := rfl
theorem sIx_nat (n d k : Nat) : sIx n d (some (k : Int)) = min k n := by
  show (if (k : Int) < 0 then ((k : Int) + (n : Int)).toNat else min (k : Int).toNat n) = min k n
  rw [if_neg (by omega), Int.toNat_natCast]
theorem sIx_le (n d : Nat) (hd : d ≤ n) (o : Option Int) : sIx n d o ≤ n := by
  cases o with
  | none => exact hd
  | some v =>
    show (if v < 0 then (v + (n : Int)).toNat else min v.toNat n) ≤ n
    by_cases hv : v < 0
    · rw [if_pos hv]; omega
    · rw [if_neg hv]; exact Nat.min_le_right _ _
theorem clip_eq (v : Int) (n d : Nat) : (if v < 0 then max (v + (n : Int)) 0 else min v (n : Int)) = ((sIx n d (some v) : Nat) : Int) := by
  show (if v < 0 then max (v + (n : Int)) 0 else min v (n : Int)) = (((if v < 0 then (v + (n : Int)).toNat else min v.toNat n) : Nat) : Int)
  by_cases hv : v < 0
  · simp only [if_pos hv]; omega
  · simp only [if_neg hv]; omega
theorem adjust_gen (lo hi : Option Int) (n : Nat) : Builtin.Slice.sliceAdjust lo hi 1 (n : Int) = (((sIx n 0 lo : Nat) : Int), ((sIx n n hi : Nat) : Int)) := by
  have h1 : ¬ ((1 : Int) < 0) := by omega
  unfold Builtin.Slice.sliceAdjust
  simp only [h1, if_false]
  refine Prod.ext ?_ ?_
  · cases lo with
    | none => rfl
    | some v => exact clip_eq v n 0
  · cases hi with
    | none => rfl
    | some v => exact clip_eq v n n
theorem places_gen (i j : Nat) : Builtin.Slice.slicePlaces (i : Int) (j : Int) 1 = j - i := by
  unfold Builtin.Slice.slicePlaces
  have h1 : (1 : Int) > 0 := by omega
  simp only [h1, if_true, Int.ediv_one]
  split <;> omega
theorem slicePart_ {v : Value} {o : Option Int} {Q : Option Int → Shared → Prop} (p : IsPart v o) (h : Q o s) : wpAny (model prog w) A (Builtin.Slice.slicePartIndex v) Q E s := by
  cases p with
  | none => exact slicePart_none h
  | int i t => exact slicePart_int h
theorem sliceApplied_gen {sl : Addr} {vl vu : Value} {lo hi : Option Int} {n : Nat} {Q : Int × Int × Nat → Shared → Prop} (hs : s.heap.IsSliceOf sl vl vu .none) (pl : IsPart vl lo) (pu : IsPart vu hi)
    (h : Q (((sIx n 0 lo : Nat) : Int), 1, sIx n n hi - sIx n 0 lo) s) : wpAny (model prog w) A (Builtin.Slice.sliceApplied (.ref sl) (pure (n : Int))) Q E s := by
  obtain ⟨os, hos, hcs, hds⟩ := id hs
  unfold Builtin.Slice.sliceApplied Builtin.Slice.sliceFields
  refine wpAny_bind (wpAny_bind (wpAny_field hos hds (x := vl) rfl (wpAny_bind (wpAny_field hos hds (x := vu) rfl (wpAny_bind (wpAny_field hos hds (x := .none) rfl (wpAny_pure ?_)))))))
  refine wpAny_bind (slicePart_none ?_)
  show wpAny _ _ (if ((1 : Int) == 0) = true then _ else _) _ _ s
  rw [if_neg (by decide)]
  refine wpAny_bind (slicePart_ pl (wpAny_bind (slicePart_ pu (wpAny_bind (wpAny_pure ?_)))))
  show wpAny _ _ (match Builtin.Slice.sliceAdjust lo hi 1 (n : Int) with | (lo, hi) => pure (lo, (1 : Int), Builtin.Slice.slicePlaces lo hi 1)) _ _ s
  rw [adjust_gen lo hi n]
  show wpAny _ _ (pure (((sIx n 0 lo : Nat) : Int), (1 : Int), Builtin.Slice.slicePlaces ((sIx n 0 lo : Nat) : Int) ((sIx n n hi : Nat) : Int) 1)) _ _ s
  rw [places_gen]
  exact wpAny_pure h
theorem pick_gen (xs : Array Value) (i k : Nat) : ((List.range k).filterMap fun (m : Nat) => xs[((i : Int) + (m : Int) * 1).toNat]?).toArray = ((xs.toList.drop i).take k).toArray := by
  have e : (fun (m : Nat) => xs[((i : Int) + (m : Int) * 1).toNat]?) = fun m => xs[i + m]? := by
    funext m
    have : ((i : Int) + (m : Int) * 1).toNat = i + m := by omega
    rw [this]
  rw [e]
  have := pick_run xs i k
  rw [List.filterMap_map] at this
  have e2 : ((fun x => xs[x]?) ∘ fun x => i + x) = fun m => xs[i + m]? := rfl
  rw [e2] at this
  rw [this]
theorem getItem_tuple_cut {t sl : Addr} {items : Array Value} {vl vu : Value} {lo hi : Option Int} {Q : Value → Shared → Prop} (ht : IsTup s.heap t items) (hs : s.heap.IsSliceOf sl vl vu .none) (pl : IsPart vl lo) (pu : IsPart vu hi)
    (hw : ¬ (sIx items.size 0 lo = 0 ∧ sIx items.size items.size hi = items.size))
    (h : Q (.ref s.heap.objs.size) { s with heap := s.heap.push { cls := .type "tuple", data := .seq ((items.toList.drop (sIx items.size 0 lo)).take (sIx items.size items.size hi - sIx items.size 0 lo)).toArray } })
    (hsz : items.size ≤ sizeLine) : wpAny (model prog w) A (getItem (.ref t) (.ref sl)) Q E s := by
  have htake : sizeOk (.seq ((items.toList.drop (sIx items.size 0 lo)).take (sIx items.size items.size hi - sIx items.size 0 lo)).toArray) := by
    show ((items.toList.drop (sIx items.size 0 lo)).take (sIx items.size items.size hi - sIx items.size 0 lo)).toArray.size ≤ sizeLine
    rw [List.size_toArray, List.length_take, List.length_drop, Array.length_toList]
    omega
  have hj : sIx items.size items.size hi ≤ items.size := sIx_le _ _ (Nat.le_refl _) hi
  obtain ⟨os, hos, hcs, hds⟩ := id hs
  have hTs : s.TypeIs (.ref sl) "slice" := ⟨os, hos, hcs⟩
  unfold getItem
  try with_reducible refine wpAny_holding ?_
  first | refine wpAny_bind (wpAny_pure ?_) | skip
  refine wpAny_bind (wpAny_sequenceKey ht.typeIs (by decide) ?_)
  refine wpAny_bind (wpAny_callSpecial?_slot (name := Str.ofString "__getitem__") ht.typeIs PyProof.Rows.slot_tuple_getitem
    (wpAny_call_entry PyProof.Rows.slot_tuple_getitem ht.typeIs entry_tuple_getitem ?_ (args_tuple_getitem _ _)))
  show wpAny _ _ (Builtin.Tuple.tupleItemsOf (.ref t) >>= _) _ _ s
  refine wpAny_bind (tupleItemsOf_ ht ?_)
  refine wpAny_bind (wpAny_typeOf hTs ?_)
  rw [if_pos (by decide)]
  refine wpAny_bind (sliceApplied_gen hs pl pu ?_)
  have hno : ¬ ((((sIx items.size 0 lo : Nat) : Int) == 0 && (1 : Int) == 1 && (sIx items.size items.size hi - sIx items.size 0 lo) == items.size) = true) := by
    intro q
    rw [Bool.and_eq_true, Bool.and_eq_true] at q
    have q1 : ((sIx items.size 0 lo : Nat) : Int) = 0 := eq_of_beq q.1.1
    have q2 : sIx items.size items.size hi - sIx items.size 0 lo = items.size := eq_of_beq q.2
    exact hw ⟨by omega, by omega⟩
  show wpAny _ _ (if (((sIx items.size 0 lo : Nat) : Int) == 0 && (1 : Int) == 1 && (sIx items.size items.size hi - sIx items.size 0 lo) == items.size) = true then _ else _) _ _ s
  rw [if_neg hno, pick_gen]
  first
    | exact wpAny_bind (m := Builtin.Tuple.tupleExact _) (wpAny_newObj_type (wpAny_pure ⟨_, rfl, wpAny_pure h⟩) htake)
    | exact wpAny_bind (m := Builtin.Tuple.tupleExact _) (wpAny_newObj_type (wpAny_bind (wpAny_pure (wpAny_pure ⟨_, rfl, wpAny_pure h⟩))) htake)
    | exact wpAny_bind (wpAny_bind (m := Builtin.Tuple.tupleExact _) (wpAny_newObj_type (wpAny_pure (wpAny_pure ⟨_, rfl, wpAny_pure h⟩)) htake))
    | exact wpAny_bind (wpAny_bind (m := Builtin.Tuple.tupleExact _) (wpAny_newObj_type (wpAny_pure ⟨_, rfl, wpAny_pure h⟩) htake))
end
end HT
namespace L2
open PySem PySem.Spec PyProof.Rows
noncomputable abbrev TO := St → Hp → (Option Int → Hp → Prop) → Prop
noncomputable def PO (X : Cx) (e : Option Expr) (t : TO) : Prop :=
  ∀ (pins : List (Addr × Obj)) (s : Shared) (σ : St) (H : Hp) (Q : Option Int → Hp → Prop), Inv X pins σ H s → t σ H Q →
    wpAny (model X.prog X.w) X.A (evalPart e X.env) (fun u s' => ∃ o H', Inv X pins σ H' s' ∧ IsPart u o ∧ Q o H') X.xe s
noncomputable def tNoPart : TO := fun _ H Q => Q none H
noncomputable def tPart (t : TE) : TO := fun σ H Q => t σ H fun x H1 => ∃ i, x = .int i ∧ Q (some i) H1
section
variable {X : Cx} {e : Expr} {te : TE} {lo hi : Option Expr} {tl th : TO} {pos p2 : Pos}
theorem po_none : PO X none tNoPart := by
  intro pins s σ H Q I h
  rw [evalPart_none]
  exact wpAny_pure ⟨none, H, I, .none, h⟩
theorem po_some (h : PE X e te) : PO X (some e) (tPart te) := by
  intro pins s σ H Q I hw
  rw [evalPart_some]
  refine thn (h pins s σ H _ I hw) fun u s1 ⟨x, H1, I1, r1, q1⟩ => ?_
  obtain ⟨i, rfl, q⟩ := q1
  obtain ⟨t, rfl⟩ := r1
  exact ⟨some i, H1, I1, .int i t, q⟩
noncomputable def SlR (X : Cx) (r : V → Option Int → Option Int → Hp → VK → Prop) : Prop :=
  ∀ (pins : List (Addr × Obj)) (s : Shared) (σ : St) (H : Hp) (x : V) (v vl vu : Value) (lo hi : Option Int) (sl : Addr) (Q : VK), Inv X pins σ H s → RelV x v → s.heap.IsSliceOf sl vl vu .none → IsPart vl lo → IsPart vu hi → r x lo hi H Q →
    ∃ T id, typeLookup (.type T) "__getitem__" = pure (some (.builtin id)) ∧ s.TypeIs v T ∧ wpAny (model X.prog X.w) X.A (getItem v (.ref sl)) (EP X pins σ Q) X.xe s
theorem SlR.or {r r' : V → Option Int → Option Int → Hp → VK → Prop} (h : SlR X r) (h' : SlR X r') : SlR X (fun x lo hi H Q => r x lo hi H Q ∨ r' x lo hi H Q) := by
  intro pins s σ H x v vl vu lo hi sl Q I rx hs pl pu q
  rcases q with q | q
  · exact h pins s σ H x v vl vu lo hi sl Q I rx hs pl pu q
  · exact h' pins s σ H x v vl vu lo hi sl Q I rx hs pl pu q
noncomputable def tSl (r : V → Option Int → Option Int → Hp → VK → Prop) (te : TE) (tl th : TO) : TE := fun σ H Q => te σ H fun x H1 => tl σ H1 fun l H2 => th σ H2 fun u H3 => r x l u H3 Q
theorem pe_slice {r : V → Option Int → Option Int → Hp → VK → Prop} (hr : SlR X r) (he : PE X e te) (hl : PO X lo tl) (hu : PO X hi th) : PE X (.Subscript e (.Slice lo hi none p2) pos) (tSl r te tl th) := by
  intro pins s σ H Q I h
  refine Subscript_ (thn (he pins s σ H _ I h) fun v s1 ⟨x, H1, I1, r1, q1⟩ => ?_)
  refine wpAny_Slice (thn (hl pins s1 σ H1 _ I1 q1) fun vl s2 ⟨l, H2, I2, pl, q2⟩ => thn (hu pins s2 σ H2 _ I2 q2) fun vu s3 ⟨u, H3, I3, pu, q3⟩ => ?_)
  rw [evalPart_none]
  refine wpAny_pure ?_
  have I4 : Inv X pins σ H3 { s3 with heap := s3.heap.push { cls := .type "slice", data := .fields #[vl, vu, .none] } } := I3.kept (t' := s3.toks) fun b ob q => Heap.get?_push_of_some _ q
  obtain ⟨T, id, hT, ht, hg⟩ := hr pins { s3 with heap := s3.heap.push { cls := .type "slice", data := .fields #[vl, vu, .none] } } σ H3 x v vl vu l u s3.heap.objs.size Q I4 r1 (Heap.IsSliceOf.new ..) pl pu q3
  show wpAny (model X.prog X.w) X.A (subscriptTail e (.Slice lo hi none p2) v (.ref s3.heap.objs.size)) (EP X pins σ Q) X.xe { s3 with heap := s3.heap.push { cls := .type "slice", data := .fields #[vl, vu, .none] } }
  exact tail_any (ops := [.ref s3.heap.objs.size, v]) ht hT hg (by with_unfolding_all rfl)
noncomputable def cutV (xs : List V) (lo hi : Option Int) : List V := (xs.drop (HT.sIx xs.length 0 lo)).take (HT.sIx xs.length xs.length hi - HT.sIx xs.length 0 lo)
theorem cutV_length (xs : List V) (lo hi : Option Int) : (cutV xs lo hi).length ≤ xs.length := by
  unfold cutV
  rw [List.length_take, List.length_drop]
  omega
noncomputable def rSlT (K : PySem.W.Frag) : V → Option Int → Option Int → Hp → VK → Prop := fun x lo hi H Q => ∃ a xs, x = .ref a ∧ SqT K H a xs ∧
  ¬ (HT.sIx xs.length 0 lo = 0 ∧ HT.sIx xs.length xs.length hi = xs.length) ∧ ∀ p, H p = none → Q (.ref p) (upd H p (.tup (cutV xs lo hi)))
theorem sl_tup : SlR X (rSlT X.K) := by
  intro pins s σ H x v vl vu lo hi sl Q I rx hs pl pu h
  obtain ⟨a, xs, rfl, hx, hw, q⟩ := h
  cases rx
  obtain ⟨its, r, ht, hz⟩ := I.tuple hx
  have hlen : its.toArray.size = xs.length := by rw [List.size_toArray]; exact r.length.symm
  refine ⟨"tuple", _, PyProof.Rows.slot_tuple_getitem.lookup, ht.typeIs, ?_⟩
  refine HT.getItem_tuple_cut ht hs pl pu (by rw [hlen]; exact hw) ?_ (by rw [hlen]; exact hz)
  rw [hlen]
  refine ⟨.ref s.heap.objs.size, _, I.laid (t' := s.toks) (o := .tup (cutV xs lo hi)) (fun b ob q => Heap.get?_push_of_some _ q) (Nat.le_refl _) ?_, rfl, q _ (I.hok.fresh (Nat.le_refl _))⟩
  exact ⟨Nat.le_trans (cutV_length xs lo hi) hz, _, (r.drop (HT.sIx xs.length 0 lo)).take (HT.sIx xs.length xs.length hi - HT.sIx xs.length 0 lo), IsTup.new _ _⟩
noncomputable def rCatT (K : PySem.W.Frag) : R2 := fun x y H Q => ∃ a b xs ys, x = .ref a ∧ y = .ref b ∧ SqT K H a xs ∧ SqT K H b ys ∧ xs ≠ [] ∧ xs.length + ys.length ≤ sizeLine ∧
  (ys = [] → Q (.ref a) H) ∧ (ys ≠ [] → ∀ p, H p = none → Q (.ref p) (upd H p (.tup (xs ++ ys))))
theorem Vals.nil_iff {xs : List V} {us : List Value} (r : Vals xs us) : us = [] ↔ xs = [] := by
  cases r with
  | nil => simp
  | cons _ _ => simp
theorem op_catT : OpR X (binaryOp .Add) (rCatT X.K) := by
  intro pins s σ H x y v u Q I rx ry h
  obtain ⟨a, b, xs, ys, rfl, rfl, ha, hb, hx, hz, q1, q2⟩ := h
  cases rx
  cases ry
  obtain ⟨its, r1, p1, _⟩ := I.tuple ha
  obtain ⟨its2, r2, p2, _⟩ := I.tuple hb
  refine HT.cat_tup p1 p2 (fun z => hx (r1.nil_iff.mp z)) (fun z => ⟨.ref a, H, I, rfl, q1 (r2.nil_iff.mp z)⟩) (fun z => ?_) (by rw [← r1.length, ← r2.length]; exact hz)
  refine ⟨.ref s.heap.objs.size, _, I.laid (t' := s.toks) (o := .tup (xs ++ ys)) (fun b ob q => Heap.get?_push_of_some _ q) (Nat.le_refl _) ?_, rfl, q2 (fun w => z (r2.nil_iff.mpr w)) _ (I.hok.fresh (Nat.le_refl _))⟩
  exact ⟨by rw [List.length_append]; exact hz, _, r1.append r2, IsTup.new _ _⟩
end
end L2
namespace L2
open PySem PySem.Spec PyProof.Rows
noncomputable def ixN (n : Nat) (i : Int) : Option Nat := if 0 ≤ i then (if i < n then some i.toNat else none) else if -(n : Int) ≤ i then some (i + n).toNat else none
noncomputable def atI {α : Type} (xs : List α) (i : Int) : Option α := (ixN xs.length i).bind fun j => xs[j]?
theorem ixN_seq {n : Nat} {i : Int} {j : Nat} (h : ixN n i = some j) : seqIndex? i n = some j ∧ j < n ∧ -(n : Int) ≤ i ∧ i < n := by
  unfold ixN at h
  by_cases h0 : 0 ≤ i
  · rw [if_pos h0] at h
    by_cases h1 : i < n
    · rw [if_pos h1] at h
      have e : i.toNat = j := Option.some.inj h
      exact ⟨by rw [seqIndex_of h0 h1, e], by omega, by omega, h1⟩
    · rw [if_neg h1] at h; cases h
  · rw [if_neg h0] at h
    by_cases h1 : -(n : Int) ≤ i
    · rw [if_pos h1] at h
      have e : (i + n).toNat = j := Option.some.inj h
      exact ⟨by rw [seqIndex_neg (by omega) h1, e], by omega, h1, by omega⟩
    · rw [if_neg h1] at h; cases h
theorem atI_get {α : Type} {xs : List α} {i : Int} {v : α} (h : atI xs i = some v) : ∃ j, seqIndex? i xs.length = some j ∧ xs[j]? = some v ∧ j < xs.length ∧ -(xs.length : Int) ≤ i ∧ i < xs.length := by
  unfold atI at h
  cases e : ixN xs.length i with
  | none => rw [e] at h; cases h
  | some j =>
    rw [e] at h
    obtain ⟨h1, h2, h3, h4⟩ := ixN_seq e
    exact ⟨j, h1, h, h2, h3, h4⟩
theorem atI_nat {α : Type} {xs : List α} {j : Nat} {v : α} (h : xs[j]? = some v) : atI xs (j : Int) = some v := by
  have hj : j < xs.length := (List.getElem?_eq_some_iff.mp h).1
  have e : ixN xs.length (j : Int) = some j := by
    unfold ixN
    rw [if_pos (by omega), if_pos (by omega)]; simp
  unfold atI; rw [e]; exact h
noncomputable def PlainIx (b : Expr) : Prop := ∀ o i, subscripted b false o i = operate [o, i] (getItem o i)
noncomputable def IxR (X : Cx) (r : R2) : Prop :=
  ∀ (value slice : Expr) (pins : List (Addr × Obj)) (s : Shared) (σ : St) (H : Hp) (x y : V) (v u : Value) (Q : VK), Inv X pins σ H s → RelV x v → RelV y u → r x y H Q →
    subscripted slice false v u = operate [v, u] (getItem v u) → wpAny (model X.prog X.w) X.A (subscriptTail value slice v u) (EP X pins σ Q) X.xe s
noncomputable def MtR (X : Cx) (id : String) (r : V → List V → Hp → VK → Prop) : Prop :=
  ∀ (pins : List (Addr × Obj)) (s : Shared) (σ : St) (H : Hp) (x : V) (xs : List V) (v : Value) (us : List Value) (Q : VK), Inv X pins σ H s → RelV x v → Vals xs us → r x xs H Q →
    wpAny (model X.prog X.w) X.A (call (.builtin id) (v :: us)) (EP X pins σ Q) X.xe s
section
variable {X : Cx} {a b : Expr} {ta tb : TE} {pos : Pos}
theorem IxR.or {r r' : R2} (h : IxR X r) (h' : IxR X r') : IxR X (fun x y H Q => r x y H Q ∨ r' x y H Q) := by
  intro value slice pins s σ H x y v u Q I rx ry q hs
  rcases q with q | q
  · exact h value slice pins s σ H x y v u Q I rx ry q hs
  · exact h' value slice pins s σ H x y v u Q I rx ry q hs
theorem pe_ix {r : R2} (hr : IxR X r) (ha : PE X a ta) (hb : PE X b tb) (hs : PlainIx b) : PE X (.Subscript a b pos) (tOp r ta tb) := by
  intro pins s σ H Q I h
  exact Subscript_ (binT ha hb I h fun v u s2 x y H2 I2 rx ry q => hr a b pins s2 σ H2 x y v u Q I2 rx ry q (hs _ _))
noncomputable def rIxL (K : PySem.W.Frag) : R2 := fun x y H Q => ∃ p xs i v, x = .ref p ∧ y = .int i ∧ SqL K H p xs ∧ atI xs i = some v ∧ Q v H
noncomputable def rIxT (K : PySem.W.Frag) : R2 := fun x y H Q => ∃ p xs i v, x = .ref p ∧ y = .int i ∧ SqT K H p xs ∧ atI xs i = some v ∧ Q v H
noncomputable def rIxS : R2 := fun x y H Q => ∃ z i c, x = .str z ∧ y = .int i ∧ z.length ≤ sizeLine ∧ atI z.cps.toList i = some c ∧ Q (.str ⟨#[c]⟩) H
theorem ix_list : IxR X (rIxL X.K) := by
  intro value slice pins s σ H x y v u Q I rx ry h hs
  obtain ⟨p, xs, i, z, rfl, rfl, hq, he, q⟩ := h
  cases rx
  obtain ⟨t, rfl⟩ := ry
  obtain ⟨its, r, pl, hz⟩ := I.list hq
  obtain ⟨j, h1, h2, h3, h4, h5⟩ := atI_get he
  obtain ⟨w, ew, rw'⟩ := r.get h2
  have hl := r.length
  have hn := line63
  have fin : EP X pins σ Q w s := ⟨z, H, I, rw', q⟩
  by_cases h0 : 0 ≤ i
  · have hj : i.toNat = j := by
      rw [seqIndex_of h0 h5] at h1
      exact Option.some.inj h1
    exact item_listR pl.isList h0 (by omega) (by rw [hj]; simpa using ew) fin hs
  · have hj : (i + (its.toArray.size : Int)).toNat = j := by
      rw [seqIndex_neg (by omega) h4] at h1
      rw [List.size_toArray, ← hl]
      exact Option.some.inj h1
    exact subscriptTail_builtinR (x := w) pl.isList.typeIs slot_list_getitem.lookup
      (wpAny_getItem_list_neg (Q := fun r s' => r = w ∧ EP X pins σ Q r s') pl.isList (by omega) (by rw [List.size_toArray] <;> omega) (by omega) (by rw [hj]; simpa using ew) ⟨rfl, fin⟩) hs
theorem ix_tup : IxR X (rIxT X.K) := by
  intro value slice pins s σ H x y v u Q I rx ry h hs
  obtain ⟨p, xs, i, z, rfl, rfl, hq, he, q⟩ := h
  cases rx
  obtain ⟨t, rfl⟩ := ry
  obtain ⟨its, r, pl, hz⟩ := I.tuple hq
  obtain ⟨j, h1, h2, h3, h4, h5⟩ := atI_get he
  obtain ⟨w, ew, rw'⟩ := r.get h2
  have hl := r.length
  have hn := line63
  have fin : EP X pins σ Q w s := ⟨z, H, I, rw', q⟩
  exact subscriptTail_builtinR (x := w) pl.typeIs slot_tuple_getitem.lookup
    (getItem_tuple (j := j) (Q := fun r s' => r = w ∧ EP X pins σ Q r s') pl (by omega) (by omega) (by rw [List.size_toArray, ← hl]; exact h1) (by simpa using ew) ⟨rfl, fin⟩) hs
theorem ix_str : IxR X rIxS := by
  intro value slice pins s σ H x y v u Q I rx ry h hs
  obtain ⟨z, i, c, rfl, rfl, hz, he, q⟩ := h
  obtain ⟨t, rfl⟩ := rx
  obtain ⟨t', rfl⟩ := ry
  obtain ⟨j, h1, h2, h3, h4, h5⟩ := atI_get he
  have hl : z.cps.toList.length = z.length := by simp [Str.length]
  rw [hl] at h1 h4 h5
  have hn := line63
  exact tail_any (typeIs_str s z t) slot_str_getitem.lookup (getItem_str (c := c) (by
    have e1 : decide (i < -(2 ^ 63 : Int)) = false := decide_eq_false (by omega)
    have e2 : decide (i ≥ 2 ^ 63) = false := decide_eq_false (by omega)
    rw [e1, e2, Bool.or_false]) (by rw [h1]; simpa using h2) ⟨.str ⟨#[c]⟩, H, I.tok _, ⟨_, rfl⟩, q⟩) hs
theorem Inv.lst {pins : List (Addr × Obj)} {σ : St} {H : Hp} {s : Shared} {p : Addr} {xs : List V} (I : Inv X pins σ H s) (h : H p = some (.lst xs)) :
    ∃ (its : List Value) (n : Nat), Vals xs its ∧ s.heap.get? p = some { cls := .type "list", data := .seq its.toArray n } ∧ xs.length ≤ sizeLine := by
  obtain ⟨z, its, n, r, e⟩ := I.hok p _ h
  exact ⟨its, n, r, e, z⟩
theorem slice_bounds (lo hi : Option Int) (n : Nat) : (sliceBounds lo hi none n).1 = ((HT.sIx n 0 lo : Nat) : Int) ∧ (sliceBounds lo hi none n).2.1 = ((HT.sIx n n hi : Nat) : Int) ∧ (sliceBounds lo hi none n).2.2 = 1 := by
  refine ⟨?_, ?_, rfl⟩
  · cases lo with
    | none => simp [sliceBounds, HT.sIx]
    | some i =>
      simp only [sliceBounds, HT.sIx, Option.getD_none, show (1 : Int) > 0 by decide, if_true]
      by_cases h : i < 0
      · simp only [h, if_true] <;> omega
      · simp only [h, if_false] <;> omega
  · cases hi with
    | none => simp [sliceBounds, HT.sIx]
    | some i =>
      simp only [sliceBounds, HT.sIx, Option.getD_none, show (1 : Int) > 0 by decide, if_true]
      by_cases h : i < 0
      · simp only [h, if_true] <;> omega
      · simp only [h, if_false] <;> omega
theorem slicePick_cut (its : List Value) (lo hi : Option Int) : slicePick its.toArray lo hi none = ((its.drop (HT.sIx its.length 0 lo)).take (HT.sIx its.length its.length hi - HT.sIx its.length 0 lo)).toArray := by
  obtain ⟨h1, h2, h3⟩ := slice_bounds lo hi its.toArray.size
  unfold slicePick
  rw [h1, h2, h3]
  simp only [sliceRange_one, pick_run, List.size_toArray] <;> rfl
noncomputable def rSlL (K : PySem.W.Frag) : V → Option Int → Option Int → Hp → VK → Prop := fun x lo hi H Q => ∃ a xs, x = .ref a ∧ SqL K H a xs ∧ ∀ p, H p = none → Q (.ref p) (upd H p (.lst (cutV xs lo hi)))
theorem sl_list : SlR X (rSlL X.K) := by
  intro pins s σ H x v vl vu lo hi sl Q I rx hs pl pu h
  obtain ⟨a, xs, rfl, hx, q⟩ := h
  cases rx
  obtain ⟨its, r, ht, hz⟩ := I.list hx
  have hlen := r.length
  refine ⟨"list", _, slot_list_getitem.lookup, ht.isList.typeIs, ?_⟩
  refine wpAny_getItem_list_slice ht.isList hs pl pu .none (by simp) ?_ (by rw [List.size_toArray] <;> omega)
  rw [slicePick_cut, ← hlen]
  refine ⟨.ref s.heap.objs.size, _, I.laid (t' := s.toks) (o := .lst (cutV xs lo hi)) (fun b ob q => Heap.get?_push_of_some _ q) (Nat.le_refl _) ?_, rfl, q _ (I.hok.fresh (Nat.le_refl _))⟩
  exact ⟨Nat.le_trans (cutV_length xs lo hi) hz, _, 0, (r.drop (HT.sIx xs.length 0 lo)).take (HT.sIx xs.length xs.length hi - HT.sIx xs.length 0 lo), Heap.get?_push_size _ rfl⟩
noncomputable def flatV : V → Bool
  | .non => true
  | .bl _ => true
  | .int _ => true
  | .str _ => true
  | _ => false
noncomputable def eqV : V → V → Bool
  | .non, .non => true
  | .bl a, .bl b => a == b
  | .bl a, .int b => (if a then 1 else 0) == b
  | .int a, .bl b => a == (if b then 1 else 0)
  | .int a, .int b => a == b
  | .str a, .str b => a == b
  | _, _ => false
theorem eqAt_V {A : Around} {s : Shared} {y x : V} {u v : Value} (ry : RelV y u) (rx : RelV x v) (fy : flatV y = true) (fx : flatV x = true) : SeqAt.EqAt A s u v (eqV y x) := by
  cases y with
  | non =>
    cases ry
    cases x with
    | non => cases rx; exact SeqAt.EqAt.same _
    | bl b => cases rx; exact SeqAt.EqAt.none_bool b
    | int b => obtain ⟨t, rfl⟩ := rx; exact SeqAt.EqAt.none_int b t
    | str b => obtain ⟨t, rfl⟩ := rx; exact SeqAt.EqAt.none_str b t
    | _ => exact absurd (show false = true from fx) Bool.false_ne_true
  | bl a =>
    cases ry
    cases x with
    | non => cases rx; exact SeqAt.EqAt.bool_none a
    | bl b => cases rx; exact SeqAt.EqAt.bool_bool a b
    | int b => obtain ⟨t, rfl⟩ := rx; exact SeqAt.EqAt.bool_int a b t
    | str b => obtain ⟨t, rfl⟩ := rx; exact SeqAt.EqAt.bool_str a b t
    | _ => exact absurd (show false = true from fx) Bool.false_ne_true
  | int a =>
    obtain ⟨t', rfl⟩ := ry
    cases x with
    | non => cases rx; exact SeqAt.EqAt.int_none a t'
    | bl b => cases rx; exact SeqAt.EqAt.int_bool a t' b
    | int b => obtain ⟨t, rfl⟩ := rx; exact SeqAt.EqAt.int_int a t' b t
    | str b => obtain ⟨t, rfl⟩ := rx; exact SeqAt.EqAt.int_str a t' b t
    | _ => exact absurd (show false = true from fx) Bool.false_ne_true
  | str a =>
    obtain ⟨t', rfl⟩ := ry
    cases x with
    | non => cases rx; exact SeqAt.EqAt.str_none a t'
    | bl b => cases rx; exact SeqAt.EqAt.str_bool a t' b
    | int b => obtain ⟨t, rfl⟩ := rx; exact SeqAt.EqAt.str_int a t' b t
    | str b => obtain ⟨t, rfl⟩ := rx; exact SeqAt.EqAt.str_str a t' b t
    | _ => exact absurd (show false = true from fx) Bool.false_ne_true
  | _ => exact absurd (show false = true from fy) Bool.false_ne_true
noncomputable def eqU (x : V) (u : Value) : Bool := match u with
  | .none => eqV .non x
  | .bool b => eqV (.bl b) x
  | .int i _ => eqV (.int i) x
  | .str z _ => eqV (.str z) x
  | _ => false
theorem eqU_of {x y : V} {u : Value} (r : RelV y u) (f : flatV y = true) : eqU x u = eqV y x := by
  cases y with
  | non => cases r; rfl
  | bl b => cases r; rfl
  | int i => obtain ⟨t, rfl⟩ := r; rfl
  | str z => obtain ⟨t, rfl⟩ := r; rfl
  | _ => exact absurd (show false = true from f) Bool.false_ne_true
theorem any_eqU {x : V} : ∀ {xs : List V} {us : List Value}, Vals xs us → xs.all flatV = true → us.any (eqU x) = xs.any fun y => eqV y x
  | _, _, .nil, _ => rfl
  | y :: xs, u :: us, .cons r t, f => by
    rw [List.all_cons, Bool.and_eq_true] at f
    rw [List.any_cons, List.any_cons, eqU_of r f.1, any_eqU t f.2]
theorem mem_eqAt {A : Around} {s : Shared} {x : V} {v : Value} (rx : RelV x v) (fx : flatV x = true) : ∀ {xs : List V} {us : List Value}, Vals xs us → xs.all flatV = true → ∀ u ∈ us, SeqAt.EqAt A s u v (eqU x u)
  | _, _, .nil, _ => fun u hu => by cases hu
  | y :: xs, u :: us, .cons r t, f => fun u' hu => by
    rw [List.all_cons, Bool.and_eq_true] at f
    rcases List.mem_cons.mp hu with rfl | hu
    · rw [eqU_of r f.1]; exact eqAt_V r rx f.1 fx
    · exact mem_eqAt rx fx t f.2 u' hu
noncomputable def inV (x : V) (xs : List V) : Bool := xs.any fun y => eqV y x
noncomputable def rIn (K : PySem.W.Frag) (neg : Bool) : R2 := fun x y H Q => ∃ p xs, y = .ref p ∧ (SqL K H p xs ∨ SqT K H p xs) ∧ flatV x = true ∧ xs.all flatV = true ∧ Q (.bl (if neg then !inV x xs else inV x xs)) H
theorem op_in_seq : OpR X (compareOp .In) (rIn X.K false) := by
  intro pins s σ H x y v u Q I rx ry h
  obtain ⟨p, xs, rfl, hq, fx, fs, q⟩ := h
  cases ry
  rcases hq with hq | hq
  · obtain ⟨its, r, pl, hz⟩ := I.list hq
    refine SeqAt.in_listAt (eqU x) pl.isList (fun w hw => mem_eqAt rx fx r fs w (by simpa using hw)) ⟨.bl _, H, I, rfl, ?_⟩
    rw [show its.toArray.any (eqU x) = its.any (eqU x) by simp, any_eqU r fs]
    exact q
  · obtain ⟨its, r, pl, hz⟩ := I.tuple hq
    refine SeqAt.in_tupleAt (eqU x) pl (fun w hw => mem_eqAt rx fx r fs w (by simpa using hw)) ⟨.bl _, H, I, rfl, ?_⟩
    rw [show its.toArray.any (eqU x) = its.any (eqU x) by simp, any_eqU r fs]
    exact q
theorem call_len_seq : CallR X (.builtin "len") (fun xs H Q => ∃ p ys, xs = [.ref p] ∧ (SqL X.K H p ys ∨ SqT X.K H p ys) ∧ Q (.int ys.length) H) := by
  intro pins s σ H xs us Q I r h
  obtain ⟨p, ys, rfl, hq, q⟩ := h
  obtain ⟨u, rfl, rx⟩ := vals1 r
  cases rx
  have hn := line63
  rcases hq with hq | hq
  · obtain ⟨its, r', pl, hz⟩ := I.list hq
    have hlen := r'.length
    exact Calls.call_len_list pl.isList (by simp only [List.size_toArray] <;> omega) ⟨.int ys.length, H, I.tok _, ⟨s.toks + 1, by rw [List.size_toArray, hlen]⟩, q⟩
  · obtain ⟨its, r', pl, hz⟩ := I.tuple hq
    have hlen := r'.length
    exact len_tuple pl (by simp only [List.size_toArray] <;> omega) ⟨.int ys.length, H, I.tok _, ⟨s.toks + 1, by rw [List.size_toArray, hlen]⟩, q⟩
theorem call_len_str : CallR X (.builtin "len") (fun xs H Q => ∃ z, xs = [.str z] ∧ z.length ≤ sizeLine ∧ Q (.int z.length) H) := by
  intro pins s σ H xs us Q I r h
  obtain ⟨z, rfl, hz, q⟩ := h
  obtain ⟨u, rfl, t, rfl⟩ := vals1 r
  have hn := line63
  exact len_str (by omega) ⟨.int z.length, H, I.tok _, ⟨_, rfl⟩, q⟩
theorem CallR.or {f : Value} {r r' : List V → Hp → VK → Prop} (h : CallR X f r) (h' : CallR X f r') : CallR X f (fun xs H Q => r xs H Q ∨ r' xs H Q) := by
  intro pins s σ H xs us Q I rs q
  rcases q with q | q
  · exact h pins s σ H xs us Q I rs q
  · exact h' pins s σ H xs us Q I rs q
theorem call_list_of : CallR X (.type "list") (fun xs H Q => ∃ p ys, xs = [.ref p] ∧ (SqL X.K H p ys ∨ SqT X.K H p ys) ∧ ∀ l, H l = none → Q (.ref l) (upd H l (.lst ys))) := by
  intro pins s σ H xs us Q I r h
  obtain ⟨p, ys, rfl, hq, q⟩ := h
  obtain ⟨u, rfl, rx⟩ := vals1 r
  cases rx
  have fin : ∀ (its : List Value), Vals ys its → ys.length ≤ sizeLine → ∀ (h' : Heap) (c' : Nat), (∀ b o', s.heap.get? b = some o' → h'.get? b = some o') →
      h'.get? s.heap.objs.size = some { cls := .type "list", dict := none, data := .seq its.toArray c', slots := #[] } → EP X pins σ Q (.ref s.heap.objs.size) { s with heap := h' } := fun its r' hz h' c' kp e =>
    ⟨.ref s.heap.objs.size, _, I.laid (t' := s.toks) kp (Nat.le_refl _) (show ObjOk X.prog X.w _ h' _ (.lst ys) from ⟨hz, its, c', r', e⟩), rfl, q _ (I.hok.fresh (Nat.le_refl _))⟩
  rcases hq with hq | hq
  · obtain ⟨its, r', pl, hz⟩ := I.list hq
    have hlen := r'.length
    obtain ⟨o, ho, hc, n, hd⟩ := pl.isList
    exact call_list_seq p (.inl rfl) ho hc hd (fun h' c' kp e => fin its r' hz h' c' kp e) (by simp only [List.size_toArray] <;> omega)
  · obtain ⟨its, r', pl, hz⟩ := I.tuple hq
    have hlen := r'.length
    obtain ⟨o, ho, hc, n, hd⟩ := pl
    exact call_list_seq p (.inr rfl) ho hc hd (fun h' c' kp e => fin its r' hz h' c' kp e) (by simp only [List.size_toArray] <;> omega)
theorem call_tuple_of : CallR X (.type "tuple") (fun xs H Q => ∃ p ys, xs = [.ref p] ∧ ((SqL X.K H p ys ∧ ∀ l, H l = none → Q (.ref l) (upd H l (.tup ys))) ∨ (SqT X.K H p ys ∧ Q (.ref p) H))) := by
  intro pins s σ H xs us Q I r h
  obtain ⟨p, ys, rfl, h⟩ := h
  obtain ⟨u, rfl, rx⟩ := vals1 r
  cases rx
  rcases h with ⟨hq, q⟩ | ⟨hq, q⟩
  · obtain ⟨its, r', pl, hz⟩ := I.list hq
    have hlen := r'.length
    refine call_tuple_list pl.isList (fun h' kp => ?_) (by simp only [List.size_toArray] <;> omega)
    have I1 : Inv X pins σ H { s with heap := h' } := I.kept (t' := s.toks) kp
    have I2 : Inv X pins σ (upd H h'.objs.size (.tup ys)) { s with heap := h'.push { cls := .type "tuple", data := .seq its.toArray } } :=
      I1.laid (t' := s.toks) (fun b o e => Heap.get?_push_of_some _ e) (Nat.le_refl _) (show ObjOk X.prog X.w _ _ _ (.tup ys) from ⟨hz, its, r', IsTup.new _ _⟩)
    exact ⟨.ref h'.objs.size, _, I2, rfl, q _ (I1.hok.fresh (Nat.le_refl _))⟩
  · obtain ⟨its, r', pl, hz⟩ := I.tuple hq
    exact call_tuple_same pl ⟨.ref p, H, I, rfl, q⟩
noncomputable def tyV (K : PySem.W.Frag) (T : String) (x : V) (H : Hp) : Prop := match x with
  | .str _ => T = "str"
  | .int _ => T = "int"
  | .ref p => (T = "list" ∧ ∃ xs, SqL K H p xs) ∨ (T = "tuple" ∧ ∃ o, K.lookup p = some o ∧ o.cls = .type "tuple" ∧ o.dict = none) ∨
      (T = "dict" ∧ ((∃ kvs, H p = some (.dK kvs)) ∨ ∃ kvs, H p = some (.dT kvs))) ∨ (T = "set" ∧ ∃ S n, H p = some (.set S n))
  | _ => False
theorem tyV_is {pins : List (Addr × Obj)} {σ : St} {H : Hp} {s : Shared} {T : String} {x : V} {v : Value} (I : Inv X pins σ H s) (r : RelV x v) (ty : tyV X.K T x H) :
    s.TypeIs v T ∧ ∀ a, v = .ref a → ∃ ob, s.heap.get? a = some ob ∧ ob.dict = none := by
  cases x with
  | str z =>
    obtain ⟨t, rfl⟩ := r
    cases (show T = "str" from ty)
    exact ⟨typeIs_str s z t, fun _ e => nomatch e⟩
  | int i =>
    obtain ⟨t, rfl⟩ := r
    cases (show T = "int" from ty)
    exact ⟨typeIs_int s i t, fun _ e => nomatch e⟩
  | ref p =>
    cases r
    rcases ty with ⟨rfl, xs, hq⟩ | ⟨rfl, o, hk, hc, hd⟩ | ⟨rfl, hk⟩ | ⟨rfl, S, n, hk⟩
    · obtain ⟨its, _, pl, _⟩ := I.list hq
      refine ⟨pl.isList.typeIs, fun a e => ?_⟩
      cases e
      obtain ⟨o, n, e, c, hd, _⟩ := pl
      exact ⟨o, e, hd⟩
    · refine ⟨⟨o, I.kIn p o hk, hc⟩, fun a e => ?_⟩
      cases e
      exact ⟨o, I.kIn _ o hk, hd⟩
    · have z : ∃ o, s.heap.get? p = some o ∧ o.ExactDict := by
        rcases hk with ⟨kvs, hk⟩ | ⟨kvs, hk⟩
        · obtain ⟨_, _, _, _, o, _, _, e, ex, _⟩ := I.hok p _ hk
          exact ⟨o, e, ex⟩
        · obtain ⟨_, _, _, _, o, _, _, e, ex, _⟩ := I.hok p _ hk
          exact ⟨o, e, ex⟩
      obtain ⟨o, e, ex⟩ := z
      refine ⟨⟨o, e, ex.1⟩, fun a e2 => ?_⟩
      cases e2
      exact ⟨o, e, ex.2.1⟩
    · obtain ⟨o, _, _, _, e, ex, _⟩ := I.hok p _ hk
      refine ⟨⟨o, e, ex.1⟩, fun a e2 => ?_⟩
      cases e2
      exact ⟨o, e, ex.2.1⟩
  | _ => exact False.elim ty
noncomputable def tBM (K : PySem.W.Frag) (T : String) (r : V → List V → Hp → VK → Prop) (to : TE) (t : TA) : TE := fun σ H Q => to σ H fun x H1 => tyV K T x H1 ∧ t σ H1 fun xs H2 => r x xs H2 Q
variable {o e : Expr} {es : List Expr} {to : TE} {t : TA} {name : Str} {apos cpos : Pos} {T id : String} {r : V → List V → Hp → VK → Prop}
theorem pe_bm (pa : PlainAttrs T) (slot : Slot T name id) (hty : typeOf (.builtin id) = pure (.type "method_descriptor")) (hm : MtR X id r) (ho : PE X o to) (ha : PA X (e :: es) t)
    (hbase : attributeBase o name X.env (eval o X.env) = eval o X.env := by rfl)
    (hfew : ((backTo cpos (starEach (e :: es) X.env)).all (fun x => !x.1) && (backToKw cpos (keywordEach [] X.env)).all (fun x => x.1.isSome)
      && decide ((e :: es).length + ([] : List Keyword).length + (if ([] : List Keyword).isEmpty then 0 else 1) < 30)) = true := by rfl)
    (hline : (apos.endLine == cpos.line) = true := by rfl) (hs : starEach (e :: es) X.env = (false, eval e X.env) :: starEach es X.env := by rfl) (hplain : (backTo cpos (starEach es X.env)).any (·.1) = false := by rfl) :
    PE X (.Call (.Attribute o name apos) (e :: es) [] cpos) (tBM X.K T r to t) := by
  intro pins s σ H Q I h
  refine wpAny_Call_method_late hbase hfew hline rfl (thn (ho pins s σ H _ I h) fun v s1 ⟨x, H1, I1, r1, ty, q1⟩ => ?_)
  obtain ⟨h1, h2⟩ := tyV_is I1 r1 ty
  refine ⟨T, id, pa, slot, hty, h1, h2, ?_⟩
  have hA := ha cpos pins s1 σ H1 _ I1 q1
  rw [hs] at hA ⊢
  refine Calls.callWith_builtin (by show (false || (backTo cpos (starEach es X.env)).any (·.1)) = false; rw [hplain] <;> rfl) (Calls.evalArgs_plain ?_)
  exact thn hA fun us s2 ⟨vs, H2, I2, r2, q2⟩ => hm pins s2 σ H2 x vs v us Q I2 r1 r2 q2
end
end L2
namespace L2
open PySem PySem.Spec PyProof.Rows
noncomputable def MtM (X : Cx) (id : String) (r : V → List V → Hp → VK → Prop) : Prop :=
  ∀ (pins : List (Addr × Obj)) (s : Shared) (σ : St) (H : Hp) (x : V) (xs : List V) (v : Value) (us : List Value) (Q : VK), Inv X pins σ H s → RelV x v → Vals xs us → r x xs H Q →
    wpAny (model X.prog X.w) X.A (call (.builtin id) (v :: us)) (EP X pins σ Q) X.xe s
theorem Vals.one {x : V} {us : List Value} (p : Vals [x] us) : ∃ u, us = [u] ∧ RelV x u := by
  cases p with
  | cons r t => cases t; exact ⟨_, rfl, r⟩
theorem Vals.rep {xs : List V} {us : List Value} (h : Vals xs us) : ∀ k : Nat, Vals (List.replicate k xs).flatten (List.replicate k us).flatten
  | 0 => .nil
  | k + 1 => by
    rw [List.replicate_succ, List.replicate_succ, List.flatten_cons, List.flatten_cons]
    exact Vals.append h (Vals.rep h k)
theorem foldl_rep (its : List Value) : ∀ (k : Nat) (acc : List Value),
    List.foldl (fun x1 x2 => x1 ++ x2) acc.toArray (List.replicate k its.toArray) = (acc ++ (List.replicate k its).flatten).toArray
  | 0, acc => by simp
  | k + 1, acc => by
    have e : acc.toArray ++ its.toArray = (acc ++ its).toArray := by simp
    have e2 : (acc ++ its) ++ (List.replicate k its).flatten = acc ++ (List.replicate (k + 1) its).flatten := by
      rw [List.replicate_succ, List.flatten_cons, List.append_assoc]
    rw [← e2, ← foldl_rep its k (acc ++ its), ← e, List.replicate_succ, List.foldl_cons]
section
variable {X : Cx} {pins : List (Addr × Obj)} {σ : St} {H : Hp} {s : Shared} {l b : Addr} {xs ys zs : List V}
theorem Inv.lset {its its' : List Value} {n : Nat} {f : Array Value → Array Value} {t' : Nat} (I : Inv X pins σ H s) (hH : H l = some (.lst xs))
    (e : s.heap.get? l = some { cls := .type "list", data := .seq its.toArray n }) (hf : f its.toArray = its'.toArray) (hv : Vals ys its') (hz : ys.length ≤ sizeLine) :
    Inv X pins σ (upd H l (.lst ys)) { s with heap := s.heap.update l (Obj.mapSeq f), toks := t' } := by
  have q := PySem.IsL.update e f
  rw [hf] at q
  refine I.write (x := l) (e := l) (by rw [hH]; exact trivial) (.inl rfl) (fun b' u hb hu => (Heap.get?_update_other s.heap (Obj.mapSeq f) (Ne.symm hb)).trans hu) ⟨_, q⟩ ?_
  exact ⟨hz, its', _, hv, q⟩
theorem Inv.lnew {its : List Value} {t' : Nat} (I : Inv X pins σ H s) (hv : Vals ys its) (hz : ys.length ≤ sizeLine) :
    Inv X pins σ (upd H s.heap.objs.size (.lst ys)) { s with heap := s.heap.push { cls := .type "list", data := .seq its.toArray }, toks := t' } :=
  I.laid (fun _ _ q => Heap.get?_push_of_some _ q) (Nat.le_refl _) ⟨hz, its, 0, hv, Heap.get?_push_size _ rfl⟩
theorem Inv.fresh (I : Inv X pins σ H s) : H s.heap.objs.size = none := I.hok.fresh (Nat.le_refl _)
theorem Inv.lstM (I : Inv X pins σ H s) (hH : H l = some (.lst xs)) : xs.length ≤ sizeLine ∧ ∃ (its : List Value) (n : Nat), Vals xs its ∧ xs.length = its.length ∧ s.heap.get? l = some { cls := .type "list", data := .seq its.toArray n } := by
  obtain ⟨z, its, n, r, e⟩ := I.hok l _ hH
  exact ⟨z, its, n, r, r.length, e⟩
theorem notLongL {n : Nat} (h : n ≤ sizeLine) : Builtin.List.listTooLong n = false := by
  unfold Builtin.List.listTooLong
  exact decide_eq_false (by omega)
end
section
variable {X : Cx}
noncomputable def rAppend : V → List V → Hp → VK → Prop := fun x vs H Q => ∃ l xs y, x = .ref l ∧ vs = [y] ∧ H l = some (.lst xs) ∧ xs.length < sizeLine ∧ Q .non (upd H l (.lst (xs ++ [y])))
theorem mt_append : MtM X "list.append" rAppend := by
  intro pins s σ H x vs v us Q I rx rv h
  obtain ⟨l, xs, y, rfl, rfl, hH, hz, q⟩ := h
  cases rx
  obtain ⟨u, rfl, ru⟩ := rv.one
  obtain ⟨z, its, n, r, hl, e⟩ := I.lstM hH
  refine call_meets F.slot_list_append ⟨_, e, rfl⟩ F.entry_list_append (F.args_list_append_2 _ _) (PySem.list_append l its.toArray n u (by rw [List.size_toArray]; omega)) ⟨e, ?_⟩
  refine ⟨.non, _, I.lset (its' := its ++ [u]) hH e (by simp) (r.append (.cons ru .nil)) ?_, rfl, q⟩
  rw [List.length_append, List.length_singleton]
  omega
noncomputable def rExtend : V → List V → Hp → VK → Prop := fun x vs H Q => ∃ l b xs zs, x = .ref l ∧ vs = [.ref b] ∧ H l = some (.lst xs) ∧ H b = some (.lst zs) ∧ xs.length + zs.length ≤ sizeLine ∧ Q .non (upd H l (.lst (xs ++ zs)))
theorem mt_extend : MtM X "list.extend" rExtend := by
  intro pins s σ H x vs v us Q I rx rv h
  obtain ⟨l, b, xs, zs, rfl, rfl, hH, hB, hz, q⟩ := h
  cases rx
  obtain ⟨u, rfl, ru⟩ := rv.one
  cases ru
  obtain ⟨z, its, n, r, hl, e⟩ := I.lstM hH
  obtain ⟨z2, its2, n2, r2, hl2, e2⟩ := I.lstM hB
  have hsz : its.toArray.size + its2.toArray.size ≤ sizeLine := by rw [List.size_toArray, List.size_toArray]; omega
  have hlong : ¬ (!its.toArray.isEmpty && Builtin.List.listTooLong (its.toArray.size + its2.toArray.size)) = true := by
    rw [notLongL hsz, Bool.and_false]
    exact Bool.false_ne_true
  refine call_meets F.slot_list_extend ⟨_, e, rfl⟩ F.entry_list_extend (F.args_list_extend_2 _ _)
    (AutoSeq1.list_extend_list_list_0 l its.toArray n b its2.toArray n2 hlong (by rw [List.size_toArray]; omega) (by omega)) ⟨e, e2, ?_⟩
  refine ⟨.non, _, I.lset (its' := its ++ its2) hH e (by simp) (r.append r2) ?_, rfl, q⟩
  rw [List.length_append]
  omega
noncomputable def rCat : R2 := fun x y H Q => ∃ l b xs zs, x = .ref l ∧ y = .ref b ∧ H l = some (.lst xs) ∧ H b = some (.lst zs) ∧ xs.length + zs.length ≤ sizeLine ∧ ∀ p, H p = none → Q (.ref p) (upd H p (.lst (xs ++ zs)))
theorem op_cat : OpR X (binaryOp .Add) rCat := by
  intro pins s σ H x y v u Q I rx ry h
  obtain ⟨l, b, xs, zs, rfl, rfl, hH, hB, hz, q⟩ := h
  cases rx
  cases ry
  obtain ⟨z, its, n, r, hl, e⟩ := I.lstM hH
  obtain ⟨z2, its2, n2, r2, hl2, e2⟩ := I.lstM hB
  refine PySem.P.add_list e e2 ?_ (by rw [List.size_toArray, List.size_toArray]; omega)
  have ea : its.toArray ++ its2.toArray = (its ++ its2).toArray := by simp
  rw [ea]
  exact ⟨.ref _, _, I.lnew (t' := s.toks) (r.append r2) (by rw [List.length_append]; omega), rfl, q _ I.fresh⟩
noncomputable def rRep : R2 := fun x y H Q => ∃ l k xs, x = .ref l ∧ y = .int k ∧ H l = some (.lst xs) ∧ -(2 ^ 63) ≤ k ∧ k < 2 ^ 63 ∧ xs.length * k.toNat ≤ sizeLine ∧
  ∀ p, H p = none → Q (.ref p) (upd H p (.lst (List.replicate k.toNat xs).flatten))
theorem len_rep {α : Type} (xs : List α) (k : Nat) : (List.replicate k xs).flatten.length = k * xs.length := by
  induction k with
  | zero => simp
  | succ k ih => rw [List.replicate_succ, List.flatten_cons, List.length_append, ih, Nat.succ_mul, Nat.add_comm]
theorem op_rep : OpR X (binaryOp .Mult) rRep := by
  intro pins s σ H x y v u Q I rx ry h
  obtain ⟨l, k, xs, rfl, rfl, hH, h1, h2, hz, q⟩ := h
  cases rx
  obtain ⟨t, rfl⟩ := ry
  obtain ⟨z, its, n, r, hl, e⟩ := I.lstM hH
  have hlen : its.toArray.size * k.toNat ≤ sizeLine := by rw [List.size_toArray, ← hl]; exact hz
  have hcap : ¬ its.toArray.size * k.toNat > (2 ^ 63 - 1) / 8 := by
    have : (sizeLine : Nat) ≤ (2 ^ 63 - 1) / 8 := by decide
    omega
  have hfit : ¬ (!Builtin.List.listFitsIndex k) = true := by
    rw [fitsIndex_both h1 h2]
    exact Bool.false_ne_true
  have hlong : ¬ Builtin.List.listTooLong (its.toArray.size * k.toNat) = true := by
    rw [notLongL hlen]
    exact Bool.false_ne_true
  have hnew : List.foldl (fun x1 x2 => x1 ++ x2) #[] (List.replicate (if its.toArray.isEmpty = true then 0 else k.toNat) its.toArray) = (List.replicate k.toNat its).flatten.toArray := by
    have f0 : ∀ m : Nat, List.foldl (fun x1 x2 => x1 ++ x2) #[] (List.replicate m its.toArray) = (List.replicate m its).flatten.toArray := fun m => by
      have := foldl_rep its m []
      rw [List.nil_append] at this
      exact this
    rw [f0]
    cases its with
    | nil => simp
    | cons a r' => rw [if_neg (by simp)]
  refine wpAny_binaryOp_repeat_ref (T := "list") (U := "int") (by decide) ⟨_, e, rfl⟩ (fun s' => typeIs_int s' k t) noFill_list_mul F.fills_int_mul F.slot_int_rmul repeat_list F.slot_int_index.lookup
    (call_meets F.slot_int_rmul (typeIs_int s k t) F.entry_int_rmul (F.args_int_rmul_2 _ _) (int___rmul___int_list k t l its.toArray n)
      ⟨e, rfl, ⟨_, e, rfl⟩, call_meets F.slot_list_mul ⟨_, e, rfl⟩ F.entry_list_mul (F.args_list_mul_2 _ _) (AutoListH.list___mul___list_int_3 l its.toArray n k t hfit hcap hlong) ⟨e, ?_⟩⟩)
  rw [hnew]
  exact ⟨.ref _, _, I.lnew (t' := s.toks) (r.rep k.toNat) (by rw [len_rep, Nat.mul_comm]; exact hz), rfl, q _ I.fresh⟩
end
section
variable {prog : Program} {w : World} {A : Around} {E : Value → Shared → Prop} {s : Shared}
set_option maxRecDepth 100000 in
end
section
variable {X : Cx}
end
end L2
namespace Att
open PySem PySem.W PySem.Calls PyProof.Rows
theorem ints_of_wellAll {P : Params} {h : Heap} : ∀ (ns : List Int) (vs : List Value), WellAll P h vs (ns.map WData.int) → IntsAre vs ns := by
  intro ns
  induction ns with
  | nil =>
    intro vs w
    rw [List.map_nil] at w
    cases w
    exact .nil
  | cons n ns ih =>
    intro vs w
    rw [List.map_cons] at w
    cases w with
    | cons a b =>
      cases a
      exact .cons _ _ (ih _ b)
theorem script_of {l : OpenLaw} {n : Nat} (hn : l.most = some n) {P : Params} {h : Heap} {args : List WData} {vals : List Value}
    (hpre : l.row.toRowW.claim.pre args = true) (hwl : WellAll P h vals args) :
    ∃ a vs ns, vals = [Value.ref a] ∧ args = [WData.list (ns.map WData.int)] ∧ h.get? a = some { cls := .type "list", data := .seq vs.toArray } ∧ IntsAre vs ns ∧ ns.length ≤ n := by
  have hsh : WShape.hasAll [] args [.list .int] = true := (pre_splitW hpre).1
  have hc : l.pre.holds [] { args := args } = true := (pre_splitW hpre).2
  obtain ⟨d, r, rfl, h1, h2⟩ := hasAllW_cons hsh
  obtain rfl := hasAllW_nil h2
  obtain ⟨xs, rfl, h3⟩ := hasW_list h1
  obtain ⟨ns, rfl⟩ := items_int h3
  have hlen : ns.length ≤ n := by
    unfold OpenLaw.pre at hc
    have h4 : (WTm.not (.lt (.lit (.int (n : Int))) (.len (.arg 0)))).holds [] { args := [.list (ns.map .int)] } = true := by
      have h4 := (holds_andW hc).1
      rw [hn] at h4
      exact h4
    have h5 := condW_of h4 (w_not (w_lt w_lit (w_len_list (w_arg rfl))))
    rw [List.length_map] at h5
    refine Nat.le_of_not_lt fun q => ?_
    have q' : (n : Int) < ((ns.length : Nat) : Int) := by omega
    first
      | (rw [decide_eq_true q'] at h5; exact absurd h5 (by decide))
      | (simp at h5; omega)
  cases hwl with
  | cons w1 w2 =>
    cases w2
    cases w1 with
    | list ho hall => exact ⟨_, _, ns, rfl, rfl, ho, ints_of_wellAll ns _ hall, hlen⟩
theorem post_true (l : OpenLaw) (args : List WData) : l.row.toRowW.claim.post args (.bool true) args = true :=
  postW_of (r := l.row.toRowW) (X := (true == true))
    (show WShape.has [] (.bool true) .bool = true by first | rfl | decide | simp [WShape.has, WShape.arms, WShape.armsAll])
    (show (WTm.eq .res (.lit (.bool true))).value [] { args := args, res := some (.bool true), after := args } = some (.bool (true == true)) from w_eq_bool (w_res rfl) w_lit) rfl
theorem attach_call {l : OpenLaw} {n : Nat} {q : Program} {loose : List Str} {XP : (Str → Option Value) → Heap → Prop} {YP : World → Heap → Prop} {d : DefRec}
    (hn : l.most = some n) (hdf : d.params.defaults = [])
    (call : ∀ (w : World) (s₀ s₁ : Shared) (mg mb : Str → Option Value) (fa : Addr) (o : Obj) (pm cd doc : Value) (a : Addr) (vs : List Value) (ns : List Int),
      Ground q loose [] XP w s₀ mg mb s₁.heap → YP w s₁.heap →
      s₁.heap.get? fa = some o → o.data = .func (docDef d.name d.params d.body d.scope pm cd doc) → s₁.heap.CodeRec cd d.name → mg d.name = some (.ref fa) →
      s₁.heap.get? a = some { cls := .type "list", data := .seq vs.toArray } → IntsAre vs ns → ns.length ≤ n → s₁.gens = #[] →
      codeAny (model l.prog w) callerA (.call (.ref fa) ⟨[.ref a], []⟩) (fun r s' => r = .ok (.ret (.bool true)) ∧ OldK s₁.heap s'.heap ∧ s'.os = s₁.os ∧ AllBare s'.gens) s₁) :
    WalkO q loose XP YP l.row.toRowW d [] (fun f vs => PySem.call f vs) := by
  intro w s₀ s₁ mg mb G Y fa o pm cd doc dV kV ho hd hcd hD hmg hg args vals as hpre hlay hrd hwl hlo
  obtain rfl : dV = .none := Dflts.none hD hdf
  obtain rfl : kV = .none := Dflts.noKw hD
  obtain ⟨a, vs, ns, rfl, rfl, hobj, hints, hlen⟩ := script_of hn hpre hwl
  refine enter_call (codeAny_mono (call w s₀ s₁ mg mb fa o pm cd doc a vs ns G Y ho (fd_plain hd) hcd hmg hobj hints hlen hg) fun r s' hq => ?_)
  obtain ⟨rfl, h2, h3, h4⟩ := hq
  exact ⟨.inl ⟨.bool true, .bool true, [], rfl, fun _ => rfl, .bool true, post_true l _, fun _ => ⟨List.Pairwise.nil, fun _ hm => (nomatch hm)⟩⟩, h2, h3, h4⟩
section
variable {prog : Program} {w : World} {A : Around} {E : Value → Shared → Prop} {s : Shared} {K : Frag}
end
end Att
namespace L2
open PySem PySem.Spec PyProof.Rows
theorem vals_ints : ∀ {vs : List Value} {ns : List Int}, IntsAre vs ns → Vals (ns.map V.int) vs
  | _, _, .nil => .nil
  | _, _, .cons n t h => .cons ⟨t, rfl⟩ (vals_ints h)
noncomputable def Only (H : Hp) : Prop := ∀ b, H b = none ∨ ∃ o xs, H b = some (.frz o (.lst xs))
theorem law_call {P : Program} {w : World} {K : PySem.W.Frag} {mg mb : Str → Option Value} {CX : CXT} {k : Nat} {fa a : Addr} {fd : FuncData} {x : Str} {sp : Sp} {s₁ : Shared} {vs : List Value} {ns : List Int}
    (KX : K.In s₁.heap) (hns : s₁.heap.Ns mainGlobals mg) (hb : s₁.heap.Ns builtinsNs mb) (hbb : ∀ x : Str, x ≠ "__name__" → mb x = bootBuiltins x) (hlim : s₁.heap.NoLimit) (hg : s₁.gens = #[])
    (ha : s₁.heap.get? a = some { cls := .type "list", data := .seq vs.toArray }) (hi : IntsAre vs ns) (hl : ns.length ≤ sizeLine) (hr : Room k callerA)
    (F : ∀ base : Heap, K.In base → base.Ns mainGlobals mg → FnOk P w K mg base CX k fa fd [x] sp) (hbind : ∀ (s : Shared) (u : Value), BindsTo s fd ⟨[u], []⟩ [(x, u)])
    (hsp : ∀ H : Hp, Only H → SqL K H a (ns.map V.int) → sp [.ref a] H (fun v _ => v = .bl true) fun _ _ _ => False)
    (hCX : ∀ H e s', CX [] H s₁ (fun _ _ _ => False) e s' → False) :
    codeAny (model P w) callerA (.call (.ref fa) ⟨[.ref a], []⟩) (fun r s' => r = .ok (.ret (.bool true)) ∧ OldK s₁.heap s'.heap ∧ s'.os = s₁.os ∧ AllBare s'.gens) s₁ := by
  have rv := vals_ints hi
  have lenV := hi.length
  -- from an abstract heap in which nothing but the script may be tracked
  have core : ∀ H : Hp, Only H → SqL K H a (ns.map V.int) → HOk P w H s₁.heap → (∀ b, H b ≠ none → b = a) → (H a ≠ none → K.lookup a = none) →
      codeAny (model P w) callerA (.call (.ref fa) ⟨[.ref a], []⟩) (fun r s' => r = .ok (.ret (.bool true)) ∧ OldK s₁.heap s'.heap ∧ s'.os = s₁.os ∧ AllBare s'.gens) s₁ := by
    intro H hO hS hok hA hK
    have base_of : ∀ {b : Addr} {o : Obj}, s₁.heap.get? b = some o → H b = none → (hidT s₁.heap H).get? b = some o := fun e n => hidT_get e n
    have noA : ∀ {b : Addr} {o : Obj} {es : Array DictEntry} {ep : Nat}, s₁.heap.get? b = some o → o.data = .dict es ep → H b = none := fun {b o es ep} e d => by
      cases q : H b with
      | none => rfl
      | some u =>
        have e' : b = a := hA b (by rw [q]; simp)
        subst e'
        rw [ha] at e; cases e
        have d' : Data.seq vs.toArray _ = Data.dict es ep := d
        cases d'
    have nsK : ∀ {b : Addr} {m : Str → Option Value}, s₁.heap.Ns b m → (hidT s₁.heap H).Ns b m := fun {b m} ⟨o, es, ep, e, d, r⟩ => ⟨o, es, ep, base_of e (noA e d), d, r⟩
    have hKb : K.In (hidT s₁.heap H) := fun b o e => base_of (KX b o e) (by
      cases q : H b with
      | none => rfl
      | some u =>
        have e' : b = a := hA b (by rw [q]; simp)
        subst e'
        rw [hK (by rw [q]; simp)] at e; cases e)
    have hM : Mod K mg (hidT s₁.heap H) := ⟨hKb, nsK hns, ⟨mb, nsK hb, hbb⟩, let ⟨mc, h1, h2⟩ := hlim; ⟨mc, nsK h1, h2⟩⟩
    have e0 : Env0 P w K mg (hidT s₁.heap H) callerA [] s₁ H := ⟨rfl, hM, fun b o e => of_hidT e, Nat.le_of_eq (hidT_size _ _), trivial, fun b hb => absurd (show b ∈ ([] : List Addr) from hb) (by simp), hok, .of_eq hg⟩
    refine codeAny_mono ((F _ hKb (nsK hns)).run callerA [] s₁ H ⟨[.ref a], []⟩ [.ref a] [.ref a] _ _ hr e0 (hbind s₁ (.ref a)) (.cons rfl .nil) (hsp H hO hS)) fun r s' h => ?_
    cases r with
    | error e => exact (hCX H e s' h).elim
    | ok fl =>
      cases fl with
      | next => exact False.elim h
      | brk => exact False.elim h
      | cont => exact False.elim h
      | ret u =>
        obtain ⟨v, H', os, bare, un, hok', r', q⟩ := h
        have q' : v = .bl true := q
        subst q'
        obtain rfl : u = Value.bool true := r'
        refine ⟨rfl, OldK.of_keep fun b o e => ?_, os, bare⟩
        cases q : H b with
        | none => exact un.keep b o e q (by intro z; exact absurd (show b ∈ ([] : List Addr) from z) (by simp)) (by simp)
        | some u =>
          rcases hO b with z | ⟨ob, xs, z⟩
          · rw [q] at z; cases z
          · have z2 := un.frzs b ob _ z
            obtain ⟨e1, _⟩ := hok b _ z
            obtain ⟨e2, _⟩ := hok' b _ z2
            rw [e] at e1; cases e1
            exact e2
  cases hk : K.lookup a with
  | some o =>
    -- the script is one of the module's own objects
    have e := KX a o hk
    rw [ha] at e
    cases e
    refine core (fun _ => none) (fun _ => .inl rfl) (.inr ⟨_, vs.toArray, _, hk, rfl, rfl, rfl, by rw [List.size_toArray, lenV]; exact hl, by simpa using rv⟩) (fun b u z => by have z' : (none : Option HO) = some u := z; cases z') (fun b z => absurd rfl z) fun z => absurd rfl z
  | none =>
    refine core (fun b => if b = a then some (.frz { cls := .type "list", data := .seq vs.toArray } (.lst (ns.map V.int))) else none) (fun b => ?_) (.inl (.inr ⟨{ cls := .type "list", data := .seq vs.toArray }, if_pos rfl⟩)) (fun b u z => ?_) (fun b z => ?_) fun _ => hk
    · by_cases hb : b = a
      · exact .inr ⟨_, _, if_pos hb⟩
      · exact .inl (if_neg hb)
    · by_cases hb : b = a
      · have z' := (if_pos hb).symm.trans z
        cases z'
        subst hb
        exact ⟨ha, by rw [List.length_map]; exact hl, vs, _, rv, ha⟩
      · have z' := (if_neg hb).symm.trans z
        cases z'
    · by_cases hb : b = a
      · exact hb
      · exact absurd (if_neg hb) z
end L2
namespace L2
open PySem PySem.Spec PyProof.Rows
theorem walk_of {l : PySem.W.OpenLaw} {n k : Nat} {q : Program} {loose : List Str} {XP : (Str → Option Value) → Heap → Prop} {YP : World → Heap → Prop} {d : DefRec} {K : Params → PySem.W.Frag} {CX : World → CXT} {sp : World → Sp} {x : Str}
    (hn : l.most = some n) (hn2 : n ≤ sizeLine) (hdf : d.params.defaults = []) (hr : Room k callerA)
    (hY : ∀ (w : World) (h : Heap), YP w h → (K w.params).In h)
    (F : ∀ (w : World) (mg : Str → Option Value) (fa : Addr) (h : Heap), (K w.params).In h → h.Ns mainGlobals mg → mg d.name = some (.ref fa) →
      ∃ fd : FuncData, (∀ (s : Shared) (u : Value), BindsTo s fd ⟨[u], []⟩ [(x, u)]) ∧
        ∀ base : Heap, (K w.params).In base → base.Ns mainGlobals mg → FnOk l.prog w (K w.params) mg base (CX w) k fa fd [x] (sp w))
    (hsp : ∀ (w : World) (H : Hp) (a : Addr) (ns : List Int), ns.length ≤ n → Only H → SqL (K w.params) H a (ns.map V.int) → sp w [.ref a] H (fun v _ => v = .bl true) fun _ _ _ => False)
    (hCX : ∀ (w : World) (H : Hp) (s : Shared) (e : Value) (s' : Shared), CX w [] H s (fun _ _ _ => False) e s' → False) :
    PySem.W.WalkO q loose XP YP l.row.toRowW d [] (fun f vs => PySem.call f vs) := by
  refine Att.attach_call hn hdf fun w s₀ s₁ mg mb fa o pm cd doc a vs ns G Y ho hd hcd hmg hobj hints hlen hg => ?_
  have KX := hY w _ Y
  obtain ⟨fd, hb, hF⟩ := F w mg fa _ KX G.T.g hmg
  exact law_call KX G.T.g G.T.b G.T.builtins G.T.nolimit hg hobj hints (Nat.le_trans hlen hn2) hr hF hb (fun H hO hS => hsp w H a ns hlen hO hS) fun H e s' => hCX w H s₁ e s'
end L2
namespace L2
open PySem PySem.Spec PyProof.Rows
noncomputable def defArgs (s : Stmt) : Arguments := match s with
  | .FunctionDef _ a _ _ _ _ _ _ _ _ => a
  | _ => { posonlyargs := [], args := [], vararg := none, kwonlyargs := [], kw_defaults := [], kwarg := none, defaults := [] }
noncomputable def defBody (s : Stmt) : List Stmt := match s with
  | .FunctionDef _ _ b _ _ _ _ _ _ _ => b
  | _ => []
noncomputable def defScope (s : Stmt) : Scope := match s with
  | .FunctionDef _ _ _ _ _ _ sc _ _ _ => sc
  | _ => { kind := .function, names := [], isGenerator := false, isCoroutine := false }
noncomputable abbrev E0 : XK := fun _ _ _ => False
structure Fun (K : PySem.W.Frag) (x qual : Str) (st : Stmt) (f : Addr) (fd : FuncData) : Prop where
  ex : ∃ (oc : Value) (od : Option Addr) (kV doc pm : Value) (an : Option Addr) (cdv ct : Value) (osl : Array (Option Value)),
    fd = PySem.W.fnOf x qual (defArgs st) (defBody st) (defScope st) .none kV doc pm an cdv ct ∧ K.lookup f = some ⟨oc, od, .func fd, osl⟩ ∧ PySem.W.codeIn K cdv qual = true
  kp : PySem.W.keepIn K (.ref f) = true
section
variable {P : Program} {w : World} {K : PySem.W.Frag} {mg : Str → Option Value} {base : Heap}
theorem Fun.binds {x qual : Str} {st : Stmt} {f : Addr} {fd : FuncData} {ps : List Str} (F : Fun K x qual st f fd)
    (h : ∀ (kV doc pm : Value) (an : Option Addr) (cdv ct : Value) (us : List Value), us.length = ps.length → bindArgs (PySem.W.fnOf x qual (defArgs st) (defBody st) (defScope st) .none kV doc pm an cdv ct) ⟨us, []⟩ = pure (ps.zip us)) : Binds K fd ps [] := by
  obtain ⟨oc, od, kV, doc, pm, an, cdv, ct, osl, rfl, lk, hcd⟩ := F.ex
  exact .all (h kV doc pm an cdv ct)
theorem fun_mk {x qual : Str} {st : Stmt} {f : Addr} {oc : Value} {od an : Option Addr} {osl : Array (Option Value)} {kV doc pm cdv ct : Value} (l : K.lookup f = some ⟨oc, od, .func (PySem.W.fnOf x qual (defArgs st) (defBody st) (defScope st) .none kV doc pm an cdv ct), osl⟩)
    (c : PySem.W.codeIn K cdv qual = true) (k : PySem.W.keepIn K (.ref f) = true) : Fun K x qual st f (PySem.W.fnOf x qual (defArgs st) (defBody st) (defScope st) .none kV doc pm an cdv ct) := ⟨⟨oc, od, kV, doc, pm, an, cdv, ct, osl, rfl, l, c⟩, k⟩
end
section
variable {X : Cx}
end
noncomputable def Same (H H' : Hp) : Prop := ∀ b o, H b = some o → H' b = some o
theorem Same.refl (H : Hp) : Same H H := fun _ _ h => h
end L2
namespace L2
open PySem PySem.Spec PyProof.Rows
section
variable {κ : Type} [DecidableEq κ]
noncomputable def valV (kvs : List (κ × V)) (k : κ) : Option V := (kvs.find? fun kv => decide (kv.1 = k)).map (·.2)
noncomputable def putK (kvs : List (κ × V)) (k : κ) (v : V) : List (κ × V) :=
  if (kvs.any fun kv => decide (kv.1 = k)) = true then kvs.map (fun kv => if kv.1 = k then (kv.1, v) else kv) else kvs ++ [(k, v)]
theorem valV_pos {p : κ × V} {r : List (κ × V)} {k : κ} (e : p.1 = k) : valV (p :: r) k = some p.2 := by simp [valV, List.find?_cons, e]
theorem valV_neg {p : κ × V} {r : List (κ × V)} {k : κ} (e : ¬ p.1 = k) : valV (p :: r) k = valV r k := by simp [valV, List.find?_cons, e]
theorem valV_any (k : κ) : ∀ kvs : List (κ × V), (kvs.any fun kv => decide (kv.1 = k)) = (valV kvs k).isSome
  | [] => rfl
  | p :: r => by
    rw [List.any_cons]
    by_cases e : p.1 = k
    · simp only [valV_pos e, decide_eq_true e, Bool.true_or, Option.isSome_some]
    · rw [valV_neg e, decide_eq_false e, Bool.false_or]; exact valV_any k r
theorem length_putK (kvs : List (κ × V)) (k : κ) (v : V) : (putK kvs k v).length ≤ kvs.length + 1 := by
  unfold putK
  split
  · rw [List.length_map]; omega
  · rw [List.length_append, List.length_cons, List.length_nil]; omega
theorem RelO.isSome_eq {o : Option V} {u : Option Value} (r : RelO o u) : o.isSome = u.isSome := by
  cases o with
  | none => cases u with
    | none => rfl
    | some _ => exact (show False from r).elim
  | some _ => cases u with
    | none => exact (show False from r).elim
    | some _ => rfl
theorem RelO.getD {o : Option V} {u : Option Value} {d : V} {d' : Value} (r : RelO o u) (rd : RelV d d') : RelV (o.getD d) (u.getD d') := by
  cases o with
  | none => cases u with
    | none => exact rd
    | some _ => exact (show False from r).elim
  | some _ => cases u with
    | none => exact (show False from r).elim
    | some _ => exact r
theorem KV.val {kvs : List (κ × V)} {vs : List (κ × Value)} (r : KV kvs vs) (k : κ) : RelO (valV kvs k) (valueAt vs k) := by
  unfold KV at r
  induction r with
  | nil => exact True.intro
  | @cons p q ps qs h t ih =>
    obtain ⟨h1, h2⟩ := h
    by_cases e : p.1 = k
    · have e' : q.1 = k := h1.symm.trans e
      have b : valueAt (q :: qs) k = some q.2 := by simp [valueAt, List.find?_cons, e']
      rw [valV_pos e, b]; exact h2
    · have e' : ¬ q.1 = k := fun z => e (h1.trans z)
      have b : valueAt (q :: qs) k = valueAt qs k := by simp [valueAt, List.find?_cons, e']
      rw [valV_neg e, b]; exact ih
theorem KV.any {kvs : List (κ × V)} {vs : List (κ × Value)} (r : KV kvs vs) (k : κ) : (kvs.any fun kv => decide (kv.1 = k)) = vs.any fun kv => decide (kv.1 = k) := by
  unfold KV at r
  induction r with
  | nil => rfl
  | cons h t ih => rw [List.any_cons, List.any_cons, ih, h.1]
theorem KV.repl {kvs : List (κ × V)} {vs : List (κ × Value)} (r : KV kvs vs) (k : κ) {y : V} {u : Value} (ry : RelV y u) :
    KV (kvs.map fun kv => if kv.1 = k then (kv.1, y) else kv) (vs.map fun kv => if kv.1 = k then (kv.1, u) else kv) := by
  unfold KV at r ⊢
  induction r with
  | nil => exact .nil
  | @cons p q ps qs h t ih =>
    rw [List.map_cons, List.map_cons]
    refine .cons ?_ ih
    obtain ⟨h1, h2⟩ := h
    by_cases e : p.1 = k
    · rw [if_pos e, if_pos (h1.symm.trans e)]; exact ⟨h1, ry⟩
    · rw [if_neg e, if_neg (fun z => e (h1.trans z))]; exact ⟨h1, h2⟩
theorem KV.put {kvs : List (κ × V)} {vs : List (κ × Value)} (r : KV kvs vs) (k : κ) {y : V} {u : Value} (ry : RelV y u) : KV (putK kvs k y) (stored vs k u) := by
  unfold putK stored
  rw [r.any k]
  by_cases e : (vs.any fun kv => decide (kv.1 = k)) = true
  · rw [if_pos e, if_pos e]; exact r.repl k ry
  · rw [if_neg e, if_neg e]; exact Paired.snoc r ⟨rfl, ry⟩
theorem KV.length {kvs : List (κ × V)} {vs : List (κ × Value)} (r : KV kvs vs) : kvs.length = vs.length := Paired.length r
end
theorem kV_is {P : Program} {w : World} {k : Key} {u : Value} (r : RelV (kV k) u) : (mixKind P w).is k u = true := by
  cases k with
  | inl i => obtain ⟨t, e⟩ := (show ∃ t, u = Value.int i t from r); subst e; exact mixKind_int P w i t
  | inr x => obtain ⟨t, e⟩ := (show ∃ t, u = Value.str x t from r); subst e; exact mixKind_str P w x t
theorem items_are {P : Program} {w : World} : ∀ {ks : List Key} {us : List Value}, Vals (ks.map kV) us → ItemsAre (mixKind P w) ks us
  | [], _, r => by rw [List.map_nil] at r; cases r; exact .nil
  | k :: ks, _, r => by
    rw [List.map_cons] at r
    cases r with
    | cons h t => exact .cons (kV_is h) (items_are t)
noncomputable abbrev KT (H : Hp) : List (List Key × V) → List (List Key × Addr × Value) → Prop := Paired fun p q => p.1 = q.1 ∧ H q.2.1 = some (.tup (p.1.map kV)) ∧ RelV p.2 q.2.2
theorem KT.val {H : Hp} {kvs : List (List Key × V)} {xs : List (List Key × Addr × Value)} (r : KT H kvs xs) (k : List Key) : RelO (valV kvs k) ((atKey xs k).map (·.2)) := by
  induction r with
  | nil => exact True.intro
  | @cons p q ps qs h t ih =>
    obtain ⟨h1, _, h2⟩ := h
    by_cases e : p.1 = k
    · have e' : q.1 = k := h1.symm.trans e
      have b : atKey (q :: qs) k = some q.2 := by simp [atKey, List.find?_cons, e']
      rw [valV_pos e, b]; exact h2
    · have e' : ¬ q.1 = k := fun z => e (h1.trans z)
      have b : atKey (q :: qs) k = atKey qs k := by simp [atKey, List.find?_cons, e']
      rw [valV_neg e, b]; exact ih
theorem KT.repl {H : Hp} {kvs : List (List Key × V)} {xs : List (List Key × Addr × Value)} (r : KT H kvs xs) (k : List Key) {y : V} {u : Value} (ry : RelV y u) :
    KT H (kvs.map fun kv => if kv.1 = k then (kv.1, y) else kv) (xs.map (putAt k u)) := by
  induction r with
  | nil => exact .nil
  | @cons p q ps qs h t ih =>
    rw [List.map_cons, List.map_cons]
    refine .cons ?_ ih
    obtain ⟨h1, h2, h3⟩ := h
    unfold putAt
    by_cases e : p.1 = k
    · rw [if_pos e, if_pos (h1.symm.trans e)]; exact ⟨h1, h2, ry⟩
    · rw [if_neg e, if_neg (fun z => e (h1.trans z))]; exact ⟨h1, h2, h3⟩
theorem KT.put {H : Hp} {kvs : List (List Key × V)} {xs : List (List Key × Addr × Value)} (r : KT H kvs xs) (k : List Key) {b : Addr} {y : V} {u : Value} (hb : H b = some (.tup (k.map kV))) (ry : RelV y u) :
    KT H (putK kvs k y) (storedH xs k b u) := by
  have e : (kvs.any fun kv => decide (kv.1 = k)) = (atKey xs k).isSome := by
    rw [valV_any, (r.val k).isSome_eq, Option.isSome_map]
  unfold putK storedH
  rw [e]
  by_cases q : (atKey xs k).isSome = true
  · rw [if_pos q, if_pos q]; exact r.repl k ry
  · rw [if_neg q, if_neg q]; exact Paired.snoc r ⟨rfl, hb, ry⟩
theorem KT.keeps {H H' : Hp} {kvs : List (List Key × V)} {xs : List (List Key × Addr × Value)} (r : KT H kvs xs) (ht : ∀ b ys, H b = some (.tup ys) → H' b = some (.tup ys)) : KT H' kvs xs :=
  Paired.mapP r fun _ _ z => ⟨z.1, ht _ _ z.2.1, z.2.2⟩
section
variable {P : Program} {w : World} {H : Hp} {h : Heap} {a : Addr}
theorem rd_of {u : HO} (ok : HOk P w H h) (e : Rd H a u) : ObjOk P w H h a u := e.ok ok
theorem dk_rd {kvs : List (Key × V)} (ok : HOk P w H h) (e : Rd H a (.dK kvs)) : kvs.length ≤ sizeLine ∧ (a == sysModules) = false ∧ ∃ vs, KV kvs vs ∧ h.DictOf (mixKind P w) a vs :=
  show ObjOk P w H h a (.dK kvs) from rd_of ok e
theorem dk_of {kvs : List (Key × V)} (ok : HOk P w H h) (e : H a = some (.dK kvs)) : kvs.length ≤ sizeLine ∧ (a == sysModules) = false ∧ ∃ vs, KV kvs vs ∧ h.DictOf (mixKind P w) a vs := dk_rd ok (.inl e)
theorem key_of {ks : List Key} (ok : HOk P w H h) (e : H a = some (.tup (ks.map kV))) : (tupleKind (mixKind P w)).is h ks a := by
  obtain ⟨_, its, r, o, h1, h2, n, h3⟩ := (show ObjOk P w H h a (.tup (ks.map kV)) from ok a _ e)
  exact ⟨o, its.toArray, n, h1, h2, h3, by simpa using items_are r⟩
theorem dt_rd {kvs : List (List Key × V)} (ok : HOk P w H h) (e : Rd H a (.dT kvs)) : kvs.length ≤ sizeLine ∧ (a == sysModules) = false ∧
    ∃ xs, KT H kvs xs ∧ h.DictOfH (tupleKind (mixKind P w)) a xs := by
  obtain ⟨z, y, xs, r, o, es, ep, h1, h2, h3, h4, h5⟩ := (show ObjOk P w H h a (.dT kvs) from rd_of ok e)
  refine ⟨z, y, xs, r, o, es, ep, h1, h2, h3, h4, fun x hx => ?_, h5⟩
  have all : ∀ {l : List (List Key × V)} {m : List (List Key × Addr × Value)}, KT H l m → ∀ x ∈ m, (tupleKind (mixKind P w)).is h x.1 x.2.1 := by
    intro l m q
    induction q with
    | nil => intro x hx; exact nomatch hx
    | @cons p q ps qs hq t ih =>
      intro x hx
      rcases List.mem_cons.mp hx with e | hx
      · subst e
        exact key_of ok (by rw [← hq.1]; exact hq.2.1)
      · exact ih x hx
  exact all r x hx
theorem dt_of {kvs : List (List Key × V)} (ok : HOk P w H h) (e : H a = some (.dT kvs)) : kvs.length ≤ sizeLine ∧ (a == sysModules) = false ∧
    ∃ xs, KT H kvs xs ∧ h.DictOfH (tupleKind (mixKind P w)) a xs := dt_rd ok (.inl e)
end
noncomputable def DGet (H : Hp) (a : Addr) (y : V) (r : Option V) : Prop :=
  (∃ kvs k, Rd H a (.dK kvs) ∧ y = kV k ∧ r = valV kvs k) ∨ ∃ kvs k b, Rd H a (.dT kvs) ∧ y = .ref b ∧ H b = some (.tup (k.map kV)) ∧ r = valV kvs k
noncomputable def DPut (H : Hp) (a : Addr) (y v : V) (H' : Hp) : Prop :=
  (∃ kvs k, H a = some (.dK kvs) ∧ y = kV k ∧ kvs.length < sizeLine ∧ H' = upd H a (.dK (putK kvs k v))) ∨
  ∃ kvs k b, H a = some (.dT kvs) ∧ y = .ref b ∧ H b = some (.tup (k.map kV)) ∧ kvs.length < sizeLine ∧ H' = upd H a (.dT (putK kvs k v))
theorem DGet.k {H : Hp} {a : Addr} {kvs : List (Key × V)} {k : Key} (e : H a = some (.dK kvs)) : DGet H a (kV k) (valV kvs k) := .inl ⟨kvs, k, .inl e, rfl, rfl⟩
theorem DGet.t {H : Hp} {a b : Addr} {kvs : List (List Key × V)} {k : List Key} (e : H a = some (.dT kvs)) (eb : H b = some (.tup (k.map kV))) : DGet H a (.ref b) (valV kvs k) := .inr ⟨kvs, k, b, .inl e, rfl, eb, rfl⟩
theorem DPut.k {H : Hp} {a : Addr} {kvs : List (Key × V)} {k : Key} {v : V} (e : H a = some (.dK kvs)) (hl : kvs.length < sizeLine) : DPut H a (kV k) v (upd H a (.dK (putK kvs k v))) := .inl ⟨kvs, k, e, rfl, hl, rfl⟩
theorem DPut.t {H : Hp} {a b : Addr} {kvs : List (List Key × V)} {k : List Key} {v : V} (e : H a = some (.dT kvs)) (eb : H b = some (.tup (k.map kV))) (hl : kvs.length < sizeLine) :
    DPut H a (.ref b) v (upd H a (.dT (putK kvs k v))) := .inr ⟨kvs, k, b, e, rfl, eb, hl, rfl⟩
section
variable {X : Cx} {pins : List (Addr × Obj)} {σ : St} {H : Hp} {s : Shared} {a : Addr} {y v : V} {u r : Value} {o : Option V} {A : Around} {E : Value → Shared → Prop}
theorem Inv.big (I : Inv X pins σ H s) : sysModules < s.heap.objs.size := by
  have h : mainGlobals < s.heap.objs.size := (I.mod.glob.keeps I.bk).lt
  exact Nat.lt_trans (by decide) h
theorem d_getItem {Q : Value → Shared → Prop} (hu : A.units + 1 < cLine) (I : Inv X pins σ H s) (g : DGet H a y (some v)) (ry : RelV y u) (h : ∀ w' s', Inv X pins σ H s' → RelV v w' → Q w' s') :
    wpAny (model X.prog X.w) A (getItem (.ref a) u) Q E s := by
  rcases g with ⟨kvs, k, e, ey, l⟩ | ⟨kvs, k, b, e, ey, eb, l⟩
  · subst ey
    obtain ⟨z, hd, vs, rel, dd⟩ := dk_rd I.hok e
    obtain ⟨w', hw, rw'⟩ := RelO.some_of (v := v) (o := valueAt vs k) (by rw [l]; exact rel.val k)
    exact wpAny_getItem_of (kV_is ry) dd.mapOf hw (h w' _ (I.tok _) rw')
  · subst ey
    cases (show u = Value.ref b from ry)
    obtain ⟨z, hd, xs, rel, dd⟩ := dt_rd I.hok e
    obtain ⟨w', hw, rw'⟩ := RelO.some_of (v := v) (o := (atKey xs k).map (·.2)) (by rw [l]; exact rel.val k)
    obtain ⟨p, hp, hp2⟩ := Option.map_eq_some_iff.mp hw
    refine wpAny_getItem_heap (tupleKind_room_in1 hu) (key_of I.hok eb) dd hp ?_
    rw [hp2]
    exact h w' _ (I.tok _) rw'
theorem d_write {h' : Heap} {t' : Nat} {ob : HO} (I : Inv X pins σ H s) (mu : Mut (H a)) (hs : Heap.SameBut a s.heap h') (he : ∃ q, h'.get? a = some q) (new : ObjOk X.prog X.w (upd H a ob) h' a ob) :
    Inv X pins σ (upd H a ob) { s with heap := h', toks := t' } :=
  I.write (x := a) (e := a) mu (.inl rfl) (fun b q hb z => (hs.2 b hb).trans z) he new
theorem dk_new {P : Program} {w : World} {H' : Hp} {h' : Heap} {kvs : List (Key × V)} {vs : List (Key × Value)} (z : kvs.length ≤ sizeLine) (hd : (a == sysModules) = false) (rel : KV kvs vs) (dd : h'.DictOf (mixKind P w) a vs) :
    ObjOk P w H' h' a (.dK kvs) := ⟨z, hd, vs, rel, dd⟩
theorem d_setItem {H' : Hp} {Q : Unit → Shared → Prop} (hu : A.units + 1 < cLine) (I : Inv X pins σ H s) (g : DPut H a y v H') (ry : RelV y u) (rv : RelV v r) (h : ∀ s', Inv X pins σ H' s' → Q () s') :
    wpAny (model X.prog X.w) A (setItem (.ref a) u r) Q E s := by
  rcases g with ⟨kvs, k, e, ey, l, eH⟩ | ⟨kvs, k, b, e, ey, eb, l, eH⟩
  · subst ey eH
    obtain ⟨z, hd, vs, rel, dd⟩ := dk_of I.hok e
    have hz : vs.length ≤ sizeLine := by rw [← rel.length]; exact z
    have hl : (putK kvs k v).length ≤ sizeLine := by have := length_putK kvs k v; omega
    refine wpAny_setItem_pairs (hsz := hz) (kV_is ry) dd fun h' dd' hs => h _ ?_
    have he : ∃ q, h'.get? a = some q := let ⟨q, _, _, hq, _⟩ := dd'; ⟨q, hq⟩
    exact d_write I (by rw [e]; exact True.intro) hs he (dk_new hl hd (rel.put k rv) dd')
  · subst ey eH
    cases (show u = Value.ref b from ry)
    obtain ⟨z, hd, xs, rel, dd⟩ := dt_of I.hok e
    have hz : xs.length ≤ sizeLine := by rw [← Paired.length rel]; exact z
    have hl : (putK kvs k v).length ≤ sizeLine := by have := length_putK kvs k v; omega
    refine wpAny_setItem_heap (hsz := hz) (tupleKind_room_in1 hu) (key_of I.hok eb) dd fun h' dd' hs => h _ ?_
    obtain ⟨q, es, ep, hq, h2, h3, h4, _, h5⟩ := dd'
    refine d_write I (by rw [e]; exact True.intro) hs ⟨q, hq⟩ ⟨hl, hd, _, (rel.put k eb rv).keeps fun c ys ec => ?_, q, es, ep, hq, h2, h3, h4, h5⟩
    rw [upd_ne (ne_of ec e (fun z => nomatch z))]
    exact ec
end
section
variable {X : Cx} {pins : List (Addr × Obj)} {σ : St} {H : Hp} {s : Shared} {a : Addr} {kvs : List (Key × V)} {k : Key} {u : Value} {A : Around} {E : Value → Shared → Prop}
end
noncomputable def NoSl (i : Expr) : Prop := ∀ ov iv, subscripted i false ov iv = operate [ov, iv] (getItem ov iv)
theorem subD_of {prog : Program} {w : World} {A : Around} {E : Value → Shared → Prop} {s : Shared} {env : Env} {value slice : Expr} {pos : Pos} {T id : String} {Q : Value → Shared → Prop}
    (hl : typeLookup (.type T) "__getitem__" = pure (some (.builtin id))) (hs : NoSl slice)
    (h : wpAny (model prog w) A (eval value env) (fun o s₁ => wpAny (model prog w) A (eval slice env) (fun i s₂ => s₂.TypeIs o T ∧ wpAny (model prog w) A (getItem o i) Q E s₂) E s₁) E s) :
    wpAny (model prog w) A (eval (.Subscript value slice pos) env) Q E s := by
  refine Subscript_ (wpAny_mono h (fun o s₁ h₁ => wpAny_mono h₁ (fun i s₂ h₂ => ?_) fun _ _ x => x) fun _ _ x => x)
  obtain ⟨hT, h₂⟩ := h₂
  unfold subscriptTail
  refine wpAny_bind ?_
  rw [getitemInPython_of_ne hT.not_modules]
  refine wpAny_bind (wpAny_specialOf hT hl ?_)
  have fin : wpAny (model prog w) A (subscripted slice false o i) (fun r s₃ => wpAny (model prog w) A (letTemporaryGo value o r >>= fun _ => pure r) Q E s₃) E s₂ := by
    rw [hs o i]
    exact wpAny_operating (wpAny_mono h₂ (fun r s₃ h₃ => wpAny_bind (wpAny_letTemporaryGo (wpAny_pure h₃))) fun _ _ x => x)
  first
    | exact wpAny_pure (wpAny_bind fin)
    | exact wpAny_bind (wpAny_pure (wpAny_bind fin))
    | exact wpAny_bind fin
theorem dict_typeIs {X : Cx} {pins : List (Addr × Obj)} {σ : St} {H : Hp} {s : Shared} {a : Addr} {y : V} {o : Option V} (I : Inv X pins σ H s) (g : DGet H a y o) : s.TypeIs (.ref a) "dict" := by
  rcases g with ⟨kvs, k, e, _, _⟩ | ⟨kvs, k, b, e, _, _, _⟩
  · obtain ⟨_, _, vs, _, dd⟩ := dk_rd I.hok e
    exact dd.typeIs
  · obtain ⟨_, _, xs, _, dd⟩ := dt_rd I.hok e
    exact dd.typeIs
noncomputable def tDGet (td ty : TE) : TE := fun σ H Q => td σ H fun x H1 => ty σ H1 fun y H2 => ∃ a v, x = .ref a ∧ DGet H2 a y (some v) ∧ Q v H2
noncomputable def sDPut (td ty tv : TE) : TS := fun D σ H => tv σ H fun v H1 => td σ H1 fun x H2 => ty σ H2 fun y H3 => ∃ a H4, x = .ref a ∧ DPut H3 a y v H4 ∧ D.nx σ H4
section
variable {X : Cx} {o i e value : Expr} {pos pos' tpos : Pos} {td ty tv : TE}
theorem pe_dget (hu : X.A.units + 1 < cLine) (ho : PE X o td) (hi : PE X i ty) (hs : NoSl i) : PE X (.Subscript o i pos) (tDGet td ty) := by
  intro pins s σ H Q I h
  refine subD_of PySem.F.slot_dict_getitem.lookup hs (thn (ho pins s σ H _ I h) fun u s1 ⟨x, H1, I1, rx, q1⟩ => thn (hi pins s1 σ H1 _ I1 q1) fun iv s2 ⟨y, H2, I2, ry, a, v, ex, g, q2⟩ => ?_)
  subst ex
  obtain rfl : u = Value.ref a := rx
  exact ⟨dict_typeIs I2 g, d_getItem hu I2 g ry fun w' s3 I3 rw' => ⟨v, H2, I3, rw', q2⟩⟩
theorem ps_dput (hu : X.A.units + 1 < cLine) (ho : PE X o td) (hi : PE X i ty) (hv : PE X value tv) (hs : swapsWith value (some (.Subscript o i pos')) pos.line X.env = pure false) :
    PS X (.Assign [.Subscript o i pos'] value pos) (sDPut td ty tv) := by
  intro pins s σ H D I h
  refine wpAny_Assign_Subscript (thn (hv pins s σ H _ I h) fun r s1 ⟨v, H1, I1, rv, q1⟩ => thn (ho pins s1 σ H1 _ I1 q1) fun u s2 ⟨x, H2, I2, rx, q2⟩ => thn (hi pins s2 σ H2 _ I2 q2) fun iv s3 ⟨y, H3, I3, ry, a, H4, ex, g, q3⟩ => ?_) hs
  subst ex
  obtain rfl : u = Value.ref a := rx
  exact d_setItem hu I3 g ry rv fun s4 I4 => ⟨σ, H4, I4, q3⟩
end
theorem dt_empty {P : Program} {w : World} {H : Hp} (h : Heap) (hb : sysModules < h.objs.size) : ObjOk P w H (h.push { cls := .type "dict", data := .dict #[] }) h.objs.size (.dT []) :=
  ⟨Nat.zero_le _, beq_eq_false_iff_ne.mpr (Ne.symm (Nat.ne_of_lt hb)), [], .nil, _, #[], 0, Heap.get?_push_size _ rfl, ⟨rfl, rfl, rfl⟩, rfl, rfl, List.nodup_nil⟩
noncomputable def tDNewT : TE := fun _ H Q => ∀ p, H p = none → Q (.ref p) (upd H p (.dT []))
section
variable {X : Cx} {pos : Pos}
theorem pe_dnewT : PE X (.Dict [] [] pos) tDNewT := fun pins s σ H Q I h =>
  wpAny_Dict_empty ⟨.ref s.heap.objs.size, _, I.laid (a := s.heap.objs.size) (o := .dT []) (t' := s.toks) (fun _ _ q => Heap.get?_push_of_some _ q) (Nat.le_refl _) (dt_empty s.heap I.big), rfl, h _ (I.hok.fresh (Nat.le_refl _))⟩
end
structure M2 (X : Cx) (o : Expr) (m : Str) (apos : Pos) (e f : Expr) (cpos : Pos) : Prop where
  base : attributeBase o m X.env (eval o X.env) = eval o X.env
  few : ((backTo cpos (starEach [e, f] X.env)).all (fun x => !x.1) && (backToKw cpos (keywordEach [] X.env)).all (fun x => x.1.isSome)
    && decide (([e, f] : List Expr).length + ([] : List Keyword).length + (if ([] : List Keyword).isEmpty then 0 else 1) < 30)) = true
  line : (apos.endLine == cpos.line) = true
  trees : backTo cpos (starEach [e, f] X.env) = [(false, eval e X.env), (false, eval f X.env)]
noncomputable def IsD (H : Hp) (a : Addr) : Prop := (∃ kvs, Rd H a (.dK kvs)) ∨ ∃ kvs, Rd H a (.dT kvs)
theorem isD_at {X : Cx} {pins : List (Addr × Obj)} {σ : St} {H : Hp} {s : Shared} {a : Addr} (I : Inv X pins σ H s) (d : IsD H a) :
    s.TypeIs (.ref a) "dict" ∧ (∀ b, Value.ref a = .ref b → ∃ ob, s.heap.get? b = some ob ∧ ob.dict = none) ∧ (a == sysModules) = false := by
  rcases d with ⟨kvs, e⟩ | ⟨kvs, e⟩
  · obtain ⟨_, hd, vs, _, dd⟩ := dk_rd I.hok e
    refine ⟨dd.typeIs, fun b q => ?_, hd⟩
    cases q
    obtain ⟨ob, _, _, h1, h2, _⟩ := dd
    exact ⟨ob, h1, h2.2.1⟩
  · obtain ⟨_, hd, xs, _, dd⟩ := dt_rd I.hok e
    refine ⟨dd.typeIs, fun b q => ?_, hd⟩
    cases q
    obtain ⟨ob, _, _, h1, h2, _⟩ := dd
    exact ⟨ob, h1, h2.2.1⟩
section
variable {X : Cx} {pins : List (Addr × Obj)} {σ : St} {H : Hp} {s : Shared} {a : Addr} {y d : V} {u r : Value} {o : Option V} {A : Around} {E : Value → Shared → Prop}
theorem d_get2 {Q : Value → Shared → Prop} (hu : A.units + 1 < cLine) (I : Inv X pins σ H s) (g : DGet H a y o) (ry : RelV y u) (rd : RelV d r) (h : ∀ w' s', Inv X pins σ H s' → RelV (o.getD d) w' → Q w' s') :
    wpAny (model X.prog X.w) A (call (.builtin "dict.get") [.ref a, u, r]) Q E s := by
  rcases g with ⟨kvs, k, e, ey, l⟩ | ⟨kvs, k, b, e, ey, eb, l⟩
  · subst ey
    obtain ⟨z, hd, vs, rel, dd⟩ := dk_rd I.hok e
    refine call_meetsIn PySem.F.slot_dict_get dd.typeIs PySem.F.entry_dict_get (PySem.F.args_dict_get_3 _ _ _) (meets_dict_get_default (mixKind X.prog X.w) a (kV_is ry) hd r) ⟨_, dd.mapOf, h _ _ (I.tok _) ?_⟩
    rw [l]
    exact (rel.val k).getD rd
  · subst ey
    cases (show u = Value.ref b from ry)
    obtain ⟨z, hd, xs, rel, dd⟩ := dt_rd I.hok e
    refine call_meetsIn PySem.F.slot_dict_get dd.typeIs PySem.F.entry_dict_get (PySem.F.args_dict_get_3 _ _ _) (meetsH_dict_get_default (tupleKind (mixKind X.prog X.w)) a b hd r) ⟨tupleKind_room_in1 hu, k, xs, key_of I.hok eb, dd, h _ _ (I.tok _) ?_⟩
    rw [l]
    exact (rel.val k).getD rd
end
noncomputable def tDGet2 (td ty tx : TE) : TE := fun σ H Q => td σ H fun x H1 => ∃ a, x = .ref a ∧ IsD H1 a ∧ ty σ H1 fun y H2 => tx σ H2 fun z H3 => ∃ o, DGet H3 a y o ∧ Q (o.getD z) H3
section
variable {X : Cx} {o e f : Expr} {apos cpos : Pos} {td ty tx : TE}
theorem pe_dget2 (hu : X.A.units + 1 < cLine) (ho : PE X o td) (he : PE X e ty) (hf : PE X f tx) (m : M2 X o "get" apos e f cpos) : PE X (.Call (.Attribute o "get" apos) [e, f] [] cpos) (tDGet2 td ty tx) := by
  intro pins s σ H Q I h
  refine wpAny_Call_method m.base m.few m.line PySem.F.plainAttrs_dict PySem.F.slot_dict_get PySem.F.type_dict_get (thn (ho pins s σ H _ I h) fun u s1 ⟨x, H1, I1, rx, a, ex, d, q1⟩ => ?_)
  subst ex
  obtain rfl : u = Value.ref a := rx
  obtain ⟨t1, t2, _⟩ := isD_at I1 d
  refine ⟨t1, t2, ?_⟩
  rw [m.trees]
  refine Calls.callWith_builtin rfl (Calls.evalArgs_plain (Calls.spliced_cons (thn (he pins s1 σ H1 _ I1 q1) fun iv s2 ⟨y, H2, I2, ry, q2⟩ =>
    Calls.spliced_cons (thn (hf pins s2 σ H2 _ I2 q2) fun fv s3 ⟨z, H3, I3, rz, ov, g, q3⟩ => Calls.spliced_nil ?_))))
  exact d_get2 hu I3 g ry rz fun w' s4 I4 rw' => ⟨_, H3, I4, rw', q3⟩
end
section
variable {X : Cx} {pins : List (Addr × Obj)} {σ : St} {H : Hp} {s : Shared} {a : Addr} {kvs : List (Key × V)} {A : Around} {E : Value → Shared → Prop}
end
section
variable {X : Cx} {pins : List (Addr × Obj)} {σ : St} {H : Hp} {s : Shared} {a : Addr} {y : V} {u : Value} {A : Around} {E : Value → Shared → Prop}
end
section
variable {κ : Type} [DecidableEq κ]
end
end L2
namespace L2
open PySem PySem.Spec PyProof.Rows
theorem Same.upd {H H' : Hp} {p : Addr} {o : HO} (e : Same H H') (h : H' p = none) : Same H (upd H' p o) := fun b u q => by
  rw [upd_ne (ne_of_none (e b u q) h)]
  exact e b u q
noncomputable def Big (k : Nat) (i : Int) : Prop := i.natAbs < 2 ^ k
theorem Big.bits {k : Nat} {i : Int} (h : Big k i) : Builtin.Int.intBits i ≤ k := by
  unfold Builtin.Int.intBits
  by_cases hz : (i == 0) = true
  · rw [if_pos hz]; exact Nat.zero_le _
  · rw [if_neg hz]
    have h0 : i.natAbs ≠ 0 := by
      intro e
      apply hz
      have : i = 0 := Int.natAbs_eq_zero.mp e
      simp [this]
    have := (Nat.log2_lt h0).mpr h
    omega
theorem Big.small {k : Nat} {i : Int} (hk : 10 ≤ k) (h0 : -1000 < i) (h1 : i < 1000) : Big k i := by
  show i.natAbs < 2 ^ k
  have : 2 ^ 10 ≤ 2 ^ k := Nat.pow_le_pow_right (by decide) hk
  omega
noncomputable def CMulB (i j : Int) : Prop := ∃ a b, Big a i ∧ Big b j ∧ a ≤ 2 ^ 20 ∧ b ≤ 2 ^ 20
theorem CMulB.ok {i j : Int} (h : CMulB i j) : IntMulOk i j := by
  obtain ⟨a, b, h1, h2, h3, h4⟩ := h
  exact IntMulOk.of_bits (Nat.le_trans h1.bits h3) (Nat.le_trans h2.bits h4)
noncomputable def CDivB (i j : Int) : Prop := j ≠ 0 ∧ Big 9000 j
theorem CDivB.ok {i j : Int} (h : CDivB i j) : Builtin.divisionGoesByPylong i j = false :=
  PyProof.noPylong_of_log2 ((Nat.log2_lt (by intro e; exact h.1 (Int.natAbs_eq_zero.mp e))).mpr h.2)
section
variable {X : Cx}
theorem op_mulB : OpR X (binaryOp .Mult) (rI CMulB fun i j => .int (i * j)) := opI fun _ _ _ _ _ _ _ hc q => PyProof.Rows.mul_int q hc.ok
theorem op_fdivB : OpR X (binaryOp .FloorDiv) (rI CDivB fun i j => .int (i.fdiv j)) := opI fun _ _ _ _ _ _ _ hc q => floordiv_int hc.1 q (.inl hc.ok)
end
end L2
namespace L2
open PySem PySem.Spec PyProof.Rows
theorem compLoop_gen {prog : Program} {w : World} {A : Around} {s : Shared} {elt target iter : Expr} {ifs : List Expr} {scope : Scope} {pos : Pos} {it acc : Value} {env : Env} {R : Result → Shared → Prop} (I : Nat → Shared → Prop)
    (turn : ∀ n s, I n s → wpAny (model prog w) A (pyNext it) (fun r s₁ => match r with
      | none => R (.ok .next) s₁
      | some v => wpAny (model prog w) A (letOwnedTupleGo target it v) (fun _ s₁' => wpAny (model prog w) A (assign target env v) (fun _ s₂ =>
          wpAny (model prog w) A (forIn ifs true fun c r => if r = true then do let ok ← isTrue c env (eval c env); pure (ForInStep.yield ok) else pure (ForInStep.yield r)) (fun ok s₃ =>
            if ok = true then wpAny (model prog w) A (eval elt env) (fun x s₄ =>
              wpAny (model prog w) A (call (.builtin "list.append") [acc, x]) (fun _ s₅ => ∃ m, m < n ∧ I m s₅) (fun _ _ => False) s₄) (fun _ _ => False) s₃
            else ∃ m, m < n ∧ I m s₃) (fun _ _ => False) s₂) (fun _ _ => False) s₁') (fun _ _ => False) s₁) (fun _ _ => False) s)
    (n : Nat) (h : I n s) : codeAny (model prog w) A (.compLoop (.ListComp elt [⟨target, iter, ifs, 0⟩] scope pos) 0 it acc env) R s := by
  refine codeAny_loop rfl I (fun n s hI => ?_) n h
  show wpAny _ A ((compTurn (.ListComp elt [⟨target, iter, ifs, 0⟩] scope pos) 0 it acc env).onRaise (fun x => do noteFrame x env; theTreesLotGoes x)) _ _ s
  refine wpAny_noted ?_
  rw [compTurn_list]
  refine wpAny_bind (wpAny_standAt (wpAny_bind (wpAny_mono (turn n s hI) (fun r s₁ h₁ => ?_) fun _ _ h' => h'.elim)))
  cases r with
  | none => exact wpAny_pure h₁
  | some v =>
    refine wpAny_bind (wpAny_mono h₁ (fun _ s₁' h₁' => ?_) fun _ _ h' => h'.elim)
    refine wpAny_bind (wpAny_mono h₁' (fun _ s₂ h₂ => wpAny_bind (wpAny_mono h₂ (fun ok s₃ h₃ => ?_) fun _ _ h' => h'.elim)) fun _ _ h' => h'.elim)
    cases ok with
    | false => exact wpAny_pure ⟨rfl, h₃⟩
    | true => exact wpAny_bind (wpAny_bind (wpAny_mono h₃ (fun x s₄ h₄ => wpAny_bind (wpAny_mono h₄ (fun _ s₅ h₅ => wpAny_pure (wpAny_pure ⟨rfl, h₅⟩)) fun _ _ h' => h'.elim)) fun _ _ h' => h'.elim))
noncomputable def PIf (X : Cx) (ifs : List Expr) (t : TT) : Prop :=
  ∀ (pins : List (Addr × Obj)) (s : Shared) (σ : St) (H : Hp) (Q : Bool → Hp → Prop), Inv X pins σ H s → t σ H Q →
    wpAny (model X.prog X.w) X.A (forIn ifs true fun c r => if r = true then do let ok ← isTrue c X.env (eval c X.env); pure (ForInStep.yield ok) else pure (ForInStep.yield r)) (TP X pins σ Q) X.xe s
noncomputable def tTrue : TT := fun _ H Q => Q true H
theorem pif_nil {X : Cx} : PIf X [] tTrue := fun _ _ _ H _ I h => wpAny_tests_nil ⟨H, I, h⟩
theorem pif_one {X : Cx} {c : Expr} {t : TT} (h : PT X c t) : PIf X [c] t := fun pins s σ H Q I hw => wpAny_tests_one (h pins s σ H Q I hw)
theorem HOk.track {P : Program} {w : World} {H : Hp} {h : Heap} {a : Addr} {o : HO} (x : HOk P w H h) (hn : H a = none) (new : ObjOk P w (upd H a o) h a o) : HOk P w (upd H a o) h := fun b u e => by
  by_cases hb : b = a
  · subst hb; rw [upd_same] at e; cases e; exact new
  · rw [upd_ne hb] at e
    exact (x b u e).stay (fun c v _ q => q) (fun c q => by rw [upd_ne (ne_of_none q hn)]; exact q) fun c xs q => by rw [upd_ne (ne_of_none q hn)]; exact q
noncomputable def cxB (X : Cx) (N : List Str) (scope : Scope) (cl : List (Str × Addr)) (C : Addr) (fp : List Addr) (s : Shared) (H : Hp) : Cx :=
  { X with N := N, s₀ := s, H₀ := H, env := compEnvC scope cl C X.env, outer := X.stack, stack := X.stack, ex := fp, fn := fun _ => false, pn := [], xe := fun _ _ => False }
noncomputable def capS (k : Nat) (caps : List Nat) (σ : St) : St := List.replicate k none ++ caps.map fun j => (σ[j]?).getD none
structure Caps (X : Cx) (N : List Str) (scope : Scope) (cl : List (Str × Addr)) (k : Nat) (caps : List Nat) : Prop where
  clos : closureFor scope X.env = pure cl
  sub : ∀ x c, cl.lookup x = some c → X.env.cells.lookup x = some c
  has : ∀ x, ((relabel scope X.env).names.lookup x = some .cell ∨ (relabel scope X.env).names.lookup x = some .free) → ∃ c, cl.lookup x = some c
  nocell : ∀ x ∈ scope.names, x.2 ≠ .cell
  kind : scope.kind = .function
  names : ∀ x ∈ scope.names, x.2 = .local → scope.names.lookup x.1 = some .local
  len : N.length = k + caps.length
  at_ : ∀ i j x, caps[i]? = some j → N[k + i]? = some x → X.N[j]? = some x ∧ (X.env.kindOf x = some .cell ∨ X.env.kindOf x = some .free) ∧ ((relabel scope X.env).names.lookup x = some .cell ∨ (relabel scope X.env).names.lookup x = some .free)
noncomputable def CompW (J : It) (k : Nat) (caps : List Nat) (g : TG) (tt : TT) (te : TE) (σ : St) (H1 : Hp) (Q : VK) : Prop :=
  ∃ W : Nat → Nat → List V → St → Hp → Prop, (∃ m, W 0 m [] (capS k caps σ) H1) ∧ ∀ i m ys τ H, W i m ys τ H →
    (J.stop i H ∧ ys.length ≤ sizeLine ∧ ∀ p, H p = none → Q (.ref p) (upd H p (.lst ys))) ∨
    (J.go i H ∧ ys.length < sizeLine ∧ ∀ x H', J.yld i H x H' → g x τ H' fun τ2 H2 => tt τ2 H2 fun b H3 => if b = true then te τ2 H3 fun y H4 => ∃ m', m' < m ∧ W (i + 1) m' (ys ++ [y]) τ2 H4 else ∃ m', m' < m ∧ W (i + 1) m' ys τ2 H3)
@[irreducible] def tComp (k : Nat) (caps : List Nat) (wi : TI) (g : TG) (tt : TT) (te : TE) : TE := fun σ H Q => wi σ H fun J H1 => CompW J k caps g tt te σ H1 Q
theorem tComp_by {k : Nat} {caps : List Nat} {wi : TI} {g : TG} {tt : TT} {te : TE} {σ : St} {H : Hp} {Q : VK} (h : wi σ H fun J H1 => CompW J k caps g tt te σ H1 Q) : tComp k caps wi g tt te σ H Q := by
  unfold tComp
  exact h
theorem tComp_out {k : Nat} {caps : List Nat} {wi : TI} {g : TG} {tt : TT} {te : TE} {σ : St} {H : Hp} {Q : VK} (h : tComp k caps wi g tt te σ H Q) : wi σ H fun J H1 => CompW J k caps g tt te σ H1 Q := by
  unfold tComp at h
  exact h
section
variable {X : Cx} {pins : List (Addr × Obj)} {σ : St} {H : Hp} {s : Shared}
theorem cap_get {k : Nat} {caps : List Nat} {σ : St} {i : Nat} {v : V} (h : (capS k caps σ)[i]? = some (some v)) : ∃ j, k ≤ i ∧ caps[i - k]? = some j ∧ σ[j]? = some (some v) := by
  unfold capS at h
  by_cases hi : i < k
  · rw [List.getElem?_append_left (by simpa using hi), List.getElem?_replicate] at h
    split at h <;> cases h
  · rw [List.getElem?_append_right (by simpa using Nat.le_of_not_lt hi), List.length_replicate, List.getElem?_map] at h
    cases e : caps[i - k]? with
    | none => rw [e] at h; cases h
    | some j =>
      rw [e] at h
      refine ⟨j, Nat.le_of_not_lt hi, rfl, ?_⟩
      have h' : (σ[j]?).getD none = some v := by simpa using h
      cases q : σ[j]? with
      | none => rw [q] at h'; cases h'
      | some o => rw [q] at h'; exact congrArg some h'
theorem Inv.block {N : List Str} {scope : Scope} {cl : List (Str × Addr)} {k : Nat} {caps : List Nat} {fp : List Addr} {C : Addr} {h' : Heap} {t' : Nat} {m' : Str → Option Value}
    (I : Inv X pins σ H s) (B : Caps X N scope cl k caps) (hf : ∀ b ∈ fp, FpOk X pins H b) (hC : s.heap.objs.size ≤ C) (hfp : ∀ b ∈ fp, ∃ o, s.heap.get? b = some o)
    (kp : ∀ b o, s.heap.get? b = some o → h'.get? b = some o) (ns : h'.Ns C m') : Inv (cxB X N scope cl C fp s H) [] (capS k caps σ) H { s with heap := h', toks := t' } := by
  have below : ∀ {b : Addr} {o : Obj}, s.heap.get? b = some o → b ≠ C := fun e => Nat.ne_of_lt (Nat.lt_of_lt_of_le (Heap.lt_size e) hC)
  have cellC : ∀ x c, cl.lookup x = some c → ∃ v, s.heap.IsCell c v := fun x c e => I.cell x c (B.sub x c e)
  refine ⟨⟨I.ok.mod, ?_, I.ok.glob, I.ok.blt, hC, fun x y c h1 h2 => I.ok.inj x y c (B.sub x c h1) (B.sub y c h2), fun x hx => B.has x hx, fun x c h1 _ => ?_, I.ok.hd, I.ok.frames, .inl rfl, fun b hb => ⟨?_, fun x c e => ?_⟩, I.bs, Nat.le_trans I.ok.bsz I.sz, fun b o e hb => ?_, fun b hb => ?_, I.stack, I.stkFree⟩,
    rfl, I.bare, Un.kept kp, ⟨m', ns, fun i x v h1 h2 h3 => ?_⟩, fun x c e => ?_, ?_, fun x c e => I.freeC x c (B.sub x c e), fun p hp => absurd (show p ∈ ([] : List (Addr × Obj)) from hp) (by simp), I.hok.kept kp, ?_⟩
  · exact B.kind
  · exact absurd h1 (by simp [cxB])
  · obtain ⟨o, e⟩ := hfp b hb
    exact below e
  · exact (hf b hb).2.2.2.2.1 x c (B.sub x c e)
  · obtain ⟨_, _, _, h4, _⟩ := hf b hb
    rcases h4 with z | z
    · exact I.ok.noex b o e z
    · exact absurd (Nat.lt_of_lt_of_le (Heap.lt_size (I.ok.bs b o e).1) z) (Nat.lt_irrefl _)
  · intro z
    rcases List.mem_cons.mp (I.stkSub b z) with e | e
    · exact (hf b hb).2.1 e
    · exact (hf b hb).2.2.1 e
  · obtain ⟨j, hk, hj, hσ⟩ := cap_get h2
    have hN : N[k + (i - k)]? = some x := by rw [Nat.add_sub_cancel' hk]; exact h1
    obtain ⟨a1, a2, a3⟩ := B.at_ (i - k) j x hj hN
    obtain ⟨m, hn, hl⟩ := I.loc
    have vis : Vis X.env.scope x := by
      rcases a2 with z | z
      · exact .inr (.inl z)
      · exact .inr (.inr z)
    obtain ⟨u, r, l⟩ := hl j x v a1 hσ vis
    refine ⟨u, r, .inr ⟨a3, ?_⟩⟩
    rcases l with ⟨z, _⟩ | ⟨_, c, e, cc⟩
    · rcases a2 with y | y <;> (rw [z] at y; cases y)
    · obtain ⟨c', e'⟩ := B.has x a3
      have : X.env.cells.lookup x = some c' := B.sub x c' e'
      rw [e] at this
      cases this
      obtain ⟨o, ho, hd⟩ := cc
      exact ⟨c, e', o, kp c o ho, hd⟩
  · obtain ⟨v, o, ho, hd⟩ := cellC x c e
    exact ⟨v, o, kp c o ho, hd⟩
  · exact I.hok.fresh hC
  · show (capS k caps σ).length = N.length
    unfold capS
    rw [List.length_append, List.length_replicate, List.length_map, B.len]
noncomputable def CompEndP (X : Cx) (pins : List (Addr × Obj)) (σ : St) (s : Shared) (Q : VK) (acc : Value) (C : Addr) (s' : Shared) : Prop :=
  ∃ D H', acc = .ref D ∧ s.heap.objs.size ≤ C ∧ Inv X pins σ H' s' ∧ H' C = none ∧ (∃ m, s'.heap.Ns C m) ∧ Q (.ref D) H'
theorem comp_core {tg elt iter : Expr} {ifs : List Expr} {scope : Scope} {pos : Pos} {N : List Str} {cl : List (Str × Addr)} {k : Nat} {caps : List Nat} {g : TG} {tt : TT} {te : TE} {it : Addr} {fp : List Addr} {tn : Nat → Heap → Prop} {J : It} {Q : VK} {RR : Value → Addr → Result → Shared → Prop} {E : Value → Shared → Prop}
    (hc : X.calm = true) (B : Caps X N scope cl k caps) (hg : ∀ C fp s H, PG (cxB X N scope cl C fp s H) tg g) (hi : ∀ C fp s H, PIf (cxB X N scope cl C fp s H) ifs tt) (he : ∀ C fp s H, PE (cxB X N scope cl C fp s H) elt te)
    (I : Inv X pins σ H s) (T : Turn X.prog X.w X.K tg J fp it tn) (st : tn 0 s.heap) (hf : ∀ b ∈ fp, FpOk X pins H b)
    (h : CompW J k caps g tt te σ H Q)
    (hRR : ∀ acc C s', CompEndP X pins σ s Q acc C s' → RR acc C (.ok .next) s') :
    wpAny (model X.prog X.w) X.A (newList []) (fun acc s₃ => wpAny (model X.prog X.w) X.A (newFunctionEnv scope X.env.globals cl [] X.env.qual none .none (some X.env)) (fun cenv s₄ =>
      codeAny (model X.prog X.w) X.A (.compStart (.ListComp elt [⟨tg, iter, ifs, 0⟩] scope pos) 0 (.ref it) acc { cenv with scope := relabel scope X.env }) (RR acc cenv.locals) s₄) E s₃) E s := by
  obtain ⟨W, ⟨m0, w0⟩, turn⟩ := h
  refine wpAny_newObj_type (wpAny_newFunctionEnv B.nocell (by intro y hy; simp at hy) (fun h₁ hns₁ hsb₁ => ?_) B.kind)
  dsimp only at hns₁ hsb₁ ⊢
  generalize hH2 : s.heap.push { cls := .type "list", dict := none, data := .seq ([] : List Value).toArray } = H2 at hns₁ hsb₁ ⊢
  have hC : H2.objs.size = s.heap.objs.size + 1 := by rw [← hH2, Heap.size_push]
  have hCs : s.heap.objs.size ≤ H2.objs.size := by rw [hC]; exact Nat.le_succ _
  have hDC : s.heap.objs.size ≠ H2.objs.size := by rw [hC]; exact Nat.ne_of_lt (Nat.lt_succ_self _)
  have old : ∀ b o, s.heap.get? b = some o → h₁.get? b = some o := fun b o e => hsb₁.extBut b o (Nat.ne_of_lt (Nat.lt_of_lt_of_le (Heap.lt_size e) hCs)) (Heap.get?_push_of_some _ (hH2 ▸ Heap.get?_push_of_some _ e))
  have hacc : h₁.get? s.heap.objs.size = some { cls := .type "list", data := .seq ([] : List Value).toArray 0 } := hsb₁.extBut _ _ hDC (Heap.get?_push_of_some _ (hH2 ▸ Heap.get?_push_size _ rfl))
  have obj0 := T.obj 0 _ st
  have hfp : ∀ b ∈ fp, ∃ o, s.heap.get? b = some o := fun b hb => let ⟨o, e, _⟩ := obj0 b hb; ⟨o, e⟩
  have hDf : ∀ b ∈ fp, b ≠ s.heap.objs.size := fun b hb z => by
    obtain ⟨o, e⟩ := hfp b hb
    exact absurd (Heap.lt_size e) (by rw [z]; exact Nat.lt_irrefl _)
  have hD0 : H s.heap.objs.size = none := I.hok.fresh (Nat.le_refl _)
  have st₁ : tn 0 h₁ := T.keep 0 _ _ st fun b _ o e => old b o e
  have cellD : ∀ x c, cl.lookup x = some c → c ≠ s.heap.objs.size := fun x c e z => by
    obtain ⟨v, o, ho, _⟩ := I.cell x c (B.sub x c e)
    exact absurd (Heap.lt_size ho) (by rw [z]; exact Nat.lt_irrefl _)
  have nfs : ∀ b ∈ frs X.stack, b ≠ s.heap.objs.size := fun b hb z => by
    obtain ⟨_, o, ho, _⟩ := I.stack.mem hb
    exact absurd (Heap.lt_size ho) (by rw [z]; exact Nat.lt_irrefl _)
  have loop : ∀ s₃ : Shared, s₃ = { s with heap := h₁, toks := s.toks + ([] : List (Str × Value)).length } →
      codeAny (model X.prog X.w) X.A (.compLoop (.ListComp elt [⟨tg, iter, ifs, 0⟩] scope pos) 0 (.ref it) (.ref s.heap.objs.size) (compEnvC scope cl H2.objs.size X.env)) (RR (.ref s.heap.objs.size) H2.objs.size) s₃ := by
    rintro s₃ rfl
    generalize hXB : cxB X N scope cl H2.objs.size fp s H = XB
    have eP : XB.prog = X.prog := by rw [← hXB]; rfl
    have eW : XB.w = X.w := by rw [← hXB]; rfl
    have eK : XB.K = X.K := by rw [← hXB]; rfl
    have eA : XB.A = X.A := by rw [← hXB]; rfl
    have eE : XB.env = compEnvC scope cl H2.objs.size X.env := by rw [← hXB]; rfl
    have eL : XB.env.locals = H2.objs.size := by rw [eE]; rfl
    have eF : XB.fs = frs X.stack := by rw [← hXB]; rfl
    have eX : XB.ex = fp := by rw [← hXB]; rfl
    have eN : XB.pn = [] := by rw [← hXB]; rfl
    have e0 : XB.s₀ = s := by rw [← hXB]; rfl
    have eC : XB.calm = true := by rw [← hXB]; exact hc
    have ecl : XB.env.cells = cl := by rw [eE]; rfl
    have exe : XB.xe = fun _ _ => False := by rw [← hXB]; rfl
    have hg' : PG XB tg g := by rw [← hXB]; exact hg _ _ _ _
    have hi' : PIf XB ifs tt := by rw [← hXB]; exact hi _ _ _ _
    have he' : PE XB elt te := by rw [← hXB]; exact he _ _ _ _
    have I0 : Inv XB [] (capS k caps σ) H { s with heap := h₁, toks := s.toks + ([] : List (Str × Value)).length } := by rw [← hXB]; exact I.block B hf hCs hfp old hns₁
    -- the accumulator pinned
    have pinD : ∀ {τ : St} {H' : Hp} {s' : Shared} {its : List Value} {nn : Nat}, Inv XB [] τ H' s' → s'.heap.get? s.heap.objs.size = some { cls := .type "list", data := .seq its.toArray nn } → H' s.heap.objs.size = none →
        Inv XB [(s.heap.objs.size, { cls := .type "list", data := .seq its.toArray nn })] τ H' s' := fun {τ H' s' its nn} J hd hn => J.pins_of fun p hp => by
      obtain rfl : p = _ := List.mem_singleton.mp hp
      refine ⟨hd, hn, by rw [eL]; exact hDC, by rw [eF]; exact fun z => nfs _ z rfl, fun v z => ?_⟩
      have z' : Data.seq its.toArray nn = Data.cell v := z
      cases z'
    have stat : ∀ {H' : Hp} {o : Obj}, (∀ b ∈ fp, H' b = none) → ∀ b ∈ fp, FpOk XB [(s.heap.objs.size, o)] H' b := fun {H' o} hn b hb => by
      obtain ⟨_, f1, f2, f3, f4, f5⟩ := hf b hb
      refine ⟨hn b hb, ?_, ?_, .inl (by rw [eX]; exact hb), fun x c e => f4 x c (B.sub x c (by rw [← ecl]; exact e)), fun p hp => ?_⟩
      · rw [eL]
        obtain ⟨o, e⟩ := hfp b hb
        exact Nat.ne_of_lt (Nat.lt_of_lt_of_le (Heap.lt_size e) hCs)
      · rw [eF]
        intro z
        rcases List.mem_cons.mp (I.stkSub b z) with e | e
        · exact f1 e
        · exact f2 e
      · rw [eN] at hp
        obtain rfl : p = _ := List.mem_singleton.mp (by simpa using hp)
        exact Ne.symm (hDf b hb)
    refine compLoop_gen (fun n s' => ∃ i ys its nn τ H', Inv XB [] τ H' s' ∧ s'.heap.get? s.heap.objs.size = some { cls := .type "list", data := .seq its.toArray nn } ∧ H' s.heap.objs.size = none ∧ Vals ys its ∧ tn i s'.heap ∧ (∀ b ∈ fp, H' b = none) ∧ W i n ys τ H') ?_ m0
      ⟨0, [], [], 0, capS k caps σ, H, I0, hacc, hD0, .nil, st₁, fun b hb => (hf b hb).1, w0⟩
    rintro n s3 ⟨i, ys, its, nn, τ, H3, I3, hd3, hn3, rv3, st3, fr3, w3⟩
    have I3' := pinD I3 hd3 hn3
    rcases turn i n ys τ H3 w3 with ⟨stop, hz, qn⟩ | ⟨go, hz, step⟩
    · have D1 := T.done XB eP eW eK eC i _ s3 τ H3 (fun _ _ => False) I3' (stat fr3) st3 stop
      rw [eA] at D1
      refine thn D1 fun r s4 ⟨hr, I4⟩ => ?_
      subst hr
      refine hRR _ _ s4 ?_
      obtain ⟨pd, pn4, _⟩ := I4.pin (s.heap.objs.size, { cls := .type "list", data := .seq its.toArray nn }) (by rw [eN]; exact List.mem_append_right _ (List.mem_singleton.mpr rfl))
      have hb4 : Un (frs X.stack) fp H H3 s.heap s4.heap := by
        have := I4.base
        rw [← hXB] at this
        exact this
      have new : ObjOk X.prog X.w (upd H3 s.heap.objs.size (.lst ys)) s4.heap s.heap.objs.size (.lst ys) := ⟨hz, its, nn, rv3, pd⟩
      have hok4 : HOk X.prog X.w H3 s4.heap := by
        have := I4.hok
        rw [eP, eW] at this
        exact this
      have hok : HOk X.prog X.w (upd H3 s.heap.objs.size (.lst ys)) s4.heap := hok4.track pn4 new
      have os4 : s4.os = s.os := by
        have := I4.os
        rw [e0] at this
        exact this
      have un : Un (frs X.stack) fp H (upd H3 s.heap.objs.size (.lst ys)) s.heap s4.heap :=
        ⟨hb4.keep, hb4.slot, fun b o e n hx => by rw [upd_ne (Nat.ne_of_lt (Heap.lt_size e))]; exact hb4.free b o e n hx, hb4.there,
          fun b xs e => by rw [upd_ne (ne_of_none (hb4.tups b xs e) pn4)]; exact hb4.tups b xs e, fun b o u e => by rw [upd_ne (ne_of_none (hb4.frzs b o u e) pn4)]; exact hb4.frzs b o u e,
          fun b ps e => by
            obtain ⟨more, q⟩ := hb4.tbls b ps e
            exact ⟨more, by rw [upd_ne (ne_of_none q pn4)]; exact q⟩⟩
      have I5 : Inv X pins σ (upd H3 s.heap.objs.size (.lst ys)) s4 := I.call' os4 un hok I4.bare fun b hb => ⟨(hf b hb).2.2.2.1, (hf b hb).2.1, (hf b hb).2.2.2.2.1, (hf b hb).2.2.2.2.2⟩
      have hC4 : H3 H2.objs.size = none := by
        have := I4.free
        rw [eL] at this
        exact this
      refine ⟨s.heap.objs.size, _, rfl, hCs, I5, by rw [upd_ne (Ne.symm hDC)]; exact hC4, ?_, qn _ pn4⟩
      obtain ⟨m4, ns4, _⟩ := I4.loc
      rw [eL] at ns4
      exact ⟨m4, ns4⟩
    · have D1 := T.item XB eP eW eK eC i _ s3 τ H3 (fun _ _ => False) I3' (stat fr3) st3 go
      rw [eA] at D1
      refine thn D1 fun r s4 ⟨u, hr, h4⟩ => ?_
      subst hr
      refine thn h4 fun _ s5 ⟨x, H5, I5, r5, y5, st5, fr5⟩ => ?_
      have I5' := I5.pinned (stat fr5) (T.obj _ _ st5)
      have G := hg' _ s5 τ H5 x u _ I5' r5 (step x H5 y5)
      rw [eP, eW, eA, eE, exe] at G
      refine thn G fun _ s6 ⟨τ6, H6, I6, q6⟩ => ?_
      have G2 := hi' _ s6 τ6 H6 _ I6 q6
      rw [eP, eW, eA, eE, exe] at G2
      refine thn G2 fun ok s7 ⟨H7, I7, q7⟩ => ?_
      -- what the pins give back
      have back : ∀ {τ8 : St} {H8 : Hp} {s8 : Shared}, Inv XB ([(s.heap.objs.size, ({ cls := .type "list", data := .seq its.toArray nn } : Obj))] ++ pinsAt fp s5.heap) τ8 H8 s8 →
          Inv XB [] τ8 H8 s8 ∧ s8.heap.get? s.heap.objs.size = some { cls := .type "list", data := .seq its.toArray nn } ∧ H8 s.heap.objs.size = none ∧ tn (i + 1) s8.heap ∧ ∀ b ∈ fp, H8 b = none := fun {τ8 H8 s8} J => by
        obtain ⟨p1, p2, _⟩ := J.pin (s.heap.objs.size, { cls := .type "list", data := .seq its.toArray nn }) (List.mem_append_right _ (List.mem_append_left _ (List.mem_singleton.mpr rfl)))
        refine ⟨J.pins_of fun p hp => absurd (show p ∈ ([] : List (Addr × Obj)) from hp) (by simp), p1, p2, T.keep _ _ _ st5 fun b hb o e => (J.pin (b, o) (List.mem_append_right _ (List.mem_append_right _ (mem_pinsAt hb e)))).1, fun b hb => ?_⟩
        obtain ⟨o, e, d⟩ := T.obj _ _ st5 b hb
        exact (J.pin (b, o) (List.mem_append_right _ (List.mem_append_right _ (mem_pinsAt hb e)))).2.1
      cases ok with
      | false =>
        rw [if_neg Bool.false_ne_true] at q7 ⊢
        obtain ⟨m', hm, w7⟩ := q7
        obtain ⟨J, a1, a2, a3, a4⟩ := back I7
        exact ⟨m', hm, i + 1, ys, its, nn, τ6, H7, J, a1, a2, rv3, a3, a4, w7⟩
      | true =>
        rw [if_pos rfl] at q7 ⊢
        have G3 := he' _ s7 τ6 H7 _ I7 q7
        rw [eP, eW, eA, eE, exe] at G3
        refine thn G3 fun v s8 ⟨y, H8, I8, r8, m', hm, w8⟩ => ?_
        obtain ⟨J, a1, a2, a3, a4⟩ := back I8
        have hlen := rv3.length
        refine call_meets F.slot_list_append ⟨_, a1, rfl⟩ F.entry_list_append (F.args_list_append_2 _ _) (PySem.list_append s.heap.objs.size its.toArray nn v (by rw [List.size_toArray]; omega)) ⟨a1, ?_⟩
        have q := PySem.IsL.update a1 (fun z => z.push v)
        have other : ∀ b o, b ≠ s.heap.objs.size → s8.heap.get? b = some o → (s8.heap.update s.heap.objs.size (Obj.mapSeq fun z => z.push v)).get? b = some o := fun b o hb e => (Heap.get?_update_other s8.heap (Obj.mapSeq fun z => z.push v) (Ne.symm hb)).trans e
        have J' : Inv XB [] τ6 H8 { s8 with heap := s8.heap.update s.heap.objs.size (Obj.mapSeq fun z => z.push v) } :=
          J.turned (t' := s8.toks) (it := s.heap.objs.size) other a2 (by rw [eL]; exact hDC) (.inr (by rw [e0]; exact Nat.le_refl _)) (fun x c e => cellD x c (by rw [← ecl]; exact e)) fun p hp => absurd (show p ∈ ([] : List (Addr × Obj)) by rw [eN] at hp; exact hp) (by simp)
        obtain ⟨n2, q2⟩ : ∃ n2, (s8.heap.update s.heap.objs.size (Obj.mapSeq fun z => z.push v)).get? s.heap.objs.size = some { cls := .type "list", data := .seq (its ++ [v]).toArray n2 } := by
          have e1 : its.toArray.push v = (its ++ [v]).toArray := by simp
          rw [← e1]
          exact ⟨_, q⟩
        exact ⟨m', hm, i + 1, ys ++ [y], its ++ [v], n2, τ6, H8, J', q2, a2, rv3.append (.cons r8 .nil), T.keep _ _ _ a3 fun b hb o e => other b o (hDf b hb) e, a4, w8⟩
  exact codeAny_compStart_list (loop _ rfl) (T.self X.A 0 _ _ _ st₁ (loop _ rfl))
end
end L2
namespace L2
open PySem PySem.Spec PyProof.Rows
section
variable {X : Cx} {tg elt iter : Expr} {ifs : List Expr} {scope : Scope} {pos spos : Pos} {N : List Str} {cl : List (Str × Addr)} {k : Nat} {caps : List Nat} {wi : TI} {g : TG} {tt : TT} {te : TE}
theorem Inv.blockGone {pins : List (Addr × Obj)} {σ σ' : St} {H H' : Hp} {s s' : Shared} {C : Addr} {h' : Heap} (I : Inv X pins σ H s) (hC : s.heap.objs.size ≤ C) (I' : Inv X pins σ' H' s') (hn : H' C = none) (sb : Heap.SameBut C s'.heap h') :
    Inv X pins σ' H' { s' with heap := h' } := by
  refine I'.turned (t' := s'.toks) (it := C) (fun b o hb e => (sb.2 b hb).trans e) hn (Nat.ne_of_gt (Nat.lt_of_lt_of_le I.lt hC)) (.inr (Nat.le_trans I.sz hC)) (fun x c e => ?_) fun p hp => ?_
  · obtain ⟨v, o, ho, _⟩ := I.cell x c e
    exact Nat.ne_of_lt (Nat.lt_of_lt_of_le (Heap.lt_size ho) hC)
  · exact Nat.ne_of_lt (Nat.lt_of_lt_of_le (Heap.lt_size (I.pin p hp).1) hC)
theorem pe_comp (hc : X.calm = true) (B : Caps X N scope cl k caps) (hi : PI X tg iter wi) (hg : ∀ C fp s H, PG (cxB X N scope cl C fp s H) tg g) (hif : ∀ C fp s H, PIf (cxB X N scope cl C fp s H) ifs tt)
    (he : ∀ C fp s H, PE (cxB X N scope cl C fp s H) elt te) (hs : ∀ x, foldedSetIterable iter X.env x = pure x := by intro _; rfl) : PE X (.ListComp elt [⟨tg, iter, ifs, 0⟩] scope pos) (tComp k caps wi g tt te) := by
  intro pins s σ H Q I h
  rw [eval_ListComp]
  refine wpAny_comprehension_free (use := none) rfl hs B.clos B.kind B.names (thn (hi pins s σ H _ I (tComp_out h)) fun xv s₁ h₁ => thn h₁ fun itv s₂ h₂ => ?_)
  obtain ⟨it, fp, tn, J, H2, e, I2, T, st2, f2, hW⟩ := h₂
  subst e
  refine comp_core (RR := fun acc C => compPost (model X.prog X.w) X.A X.xe none (EP X pins σ Q) acc C) hc B hg hif he I2 T st2 f2 hW ?_
  rintro acc C s' ⟨D, H', rfl, hC, I', hn, ⟨m, ns⟩, q⟩
  exact ⟨m, ns, fun h' sb => ⟨.ref D, H', I2.blockGone hC I' hn sb, rfl, q⟩⟩
theorem ps_setComp {i : Nat} {y : Str} {py : Pos} (hN : X.N.Nodup) (hy : X.N[i]? = some y) (hx : Loc X.env.scope y) (hc : X.calm = true) (B : Caps X N scope cl k caps) (hi : PI X tg iter wi) (hg : ∀ C fp s H, PG (cxB X N scope cl C fp s H) tg g)
    (hif : ∀ C fp s H, PIf (cxB X N scope cl C fp s H) ifs tt) (he : ∀ C fp s H, PE (cxB X N scope cl C fp s H) elt te) (hsw : swapsWith (.ListComp elt [⟨tg, iter, ifs, 0⟩] scope pos) (some (.Name y py)) spos.line X.env = pure true := by rfl)
    (hs : ∀ x, foldedSetIterable iter X.env x = pure x := by intro _; rfl) (hf : X.fn y = true ∨ X.env.scope.names.lookup y = some .local := by first | exact .inl rfl | exact .inr rfl | assumption) :
    PS X (.Assign [.Name y py] (.ListComp elt [⟨tg, iter, ifs, 0⟩] scope pos) spos) (tAsg (tComp k caps wi g tt te) (gName i)) := by
  intro pins s σ H D I h
  rw [exec_Assign_Name_used _ _ _ _ hsw]
  refine wpAny_bind (wpAny_standAt (wpAny_bind ?_))
  show wpAny _ X.A (do let _ ← comprehension (.ListComp elt [⟨tg, iter, ifs, 0⟩] scope pos) scope X.env _ (newList []) false (eval iter X.env) (some (assign (.Name y py) X.env))) _ _ s
  refine wpAny_bind (wpAny_mono (wpAny_comprehension_free (use := some (assign (.Name y py) X.env)) (Q := fun _ s' => SP X pins D .next s') rfl hs B.clos B.kind B.names (thn (hi pins s σ H _ I (tComp_out h)) fun xv s₁ h₁ => thn h₁ fun itv s₂ h₂ => ?_)) (fun _ s' hq => wpAny_pure (wpAny_pure hq)) fun _ _ e => e)
  obtain ⟨it, fp, tn, J, H2, e, I2, T, st2, f2, hW⟩ := h₂
  subst e
  refine comp_core (Q := fun v H' => gName i v σ H' D.nx) (RR := fun acc C => compPost (model X.prog X.w) X.A X.xe (some (assign (.Name y py) X.env)) (fun _ s' => SP X pins D .next s') acc C) hc B hg hif he I2 T st2 f2 hW ?_
  rintro acc C s' ⟨D', H', rfl, hC, I', hn, ⟨m, ns⟩, q⟩
  show wpAny _ _ (assign (.Name y py) X.env (.ref D')) _ _ s'
  refine wpAny_assign_Name (store_ok2 I' hN hy hx (v := .ref D') rfl (fun s'' I'' ⟨a, sb, ha⟩ => ?_) hf)
  have hCa : C ≠ a := by
    rcases ha with e | e
    · rw [e]; exact Nat.ne_of_gt (Nat.lt_of_lt_of_le I2.lt hC)
    · obtain ⟨v, o, ho, _⟩ := I2.cell y a e
      exact Nat.ne_of_gt (Nat.lt_of_lt_of_le (Heap.lt_size ho) hC)
  exact ⟨m, ns.sameBut sb hCa, fun h' sb' => ⟨_, H', I2.blockGone hC I'' hn sb', q⟩⟩
end
section
variable {K : PySem.W.Frag} {g : TG} {tt : TT} {te : TE} {Q : VK}
theorem comp_by {J : It} {k : Nat} {caps : List Nat} {σ : St} {H : Hp} (n : Nat) (hn : n ≤ sizeLine) (Pv : Nat → List V → St → Hp → Prop) (h0 : Pv 0 [] (capS k caps σ) H) (hgo : ∀ i ys τ H, i < n → Pv i ys τ H → J.go i H) (hst : ∀ ys τ H, Pv n ys τ H → J.stop n H)
    (hl : ∀ i ys τ H, Pv i ys τ H → ys.length ≤ i)
    (hs : ∀ i ys τ H x H', i < n → Pv i ys τ H → J.yld i H x H' → ∀ K1 : List V → St → Hp → Prop, (∀ ys τ H, Pv (i + 1) ys τ H → K1 ys τ H) → g x τ H' fun τ2 H2 => tt τ2 H2 fun b H3 => if b = true then te τ2 H3 fun y H4 => K1 (ys ++ [y]) τ2 H4 else K1 ys τ2 H3)
    (hd : ∀ ys τ H p, Pv n ys τ H → H p = none → Q (.ref p) (upd H p (.lst ys))) : CompW J k caps g tt te σ H Q := by
  refine ⟨fun i m ys τ H => m = n - i ∧ i ≤ n ∧ Pv i ys τ H, ⟨n, by simp, Nat.zero_le _, h0⟩, ?_⟩
  rintro i m ys τ H ⟨rfl, hi, p⟩
  have hy := hl i ys τ H p
  by_cases hlt : i < n
  · refine .inr ⟨hgo i ys τ H hlt p, by omega, fun x H' y => ?_⟩
    exact hs i ys τ H x H' hlt p y (fun ys τ H => ∃ m', m' < n - i ∧ m' = n - (i + 1) ∧ i + 1 ≤ n ∧ Pv (i + 1) ys τ H) fun ys τ H q => ⟨n - (i + 1), by omega, rfl, hlt, q⟩
  · have e : i = n := by omega
    subst e
    exact .inl ⟨hst ys τ H p, by omega, fun q hq => hd ys τ H q p hq⟩
end
section
variable {prog : Program} {w : World} {A : Around} {E : Value → Shared → Prop} {s : Shared}
end
end L2
namespace L2
open PySem PySem.Spec PyProof.Rows
section
variable {prog : Program} {w : World} {A : Around} {E : Value → Shared → Prop} {s : Shared}
end
section
variable {X : Cx} {elts : List Expr} {kt : Nat} {tp p pos : Pos}
end
end L2
namespace L2
open PySem PySem.Spec PyProof.Rows
theorem ObjOk.there {P : Program} {w : World} {H : Hp} {h : Heap} {a : Addr} {o : HO} (x : ObjOk P w H h a o) : ∃ ob, h.get? a = some ob := by
  cases o with
  | lst xs => obtain ⟨_, _, _, _, e⟩ := x; exact ⟨_, e⟩
  | tup xs => obtain ⟨_, _, _, ob, e, _⟩ := x; exact ⟨_, e⟩
  | dK kvs => obtain ⟨_, _, _, _, o, _, _, e, _⟩ := x; exact ⟨_, e⟩
  | dT kvs => obtain ⟨_, _, _, _, o, _, _, e, _⟩ := x; exact ⟨_, e⟩
  | set S n => obtain ⟨o, _, _, _, e, _⟩ := x; exact ⟨_, e⟩
  | ins C dx fs => obtain ⟨_, _, _, e, _⟩ := x; exact ⟨_, e⟩
  | own y => obtain ⟨_, e⟩ := x; exact ⟨_, e⟩
  | xd fs => obtain ⟨_, ⟨_, _, _, e, _⟩, _⟩ := x; exact ⟨_, e⟩
  | rng lo hi => obtain ⟨_, _, _, e⟩ := x; exact ⟨_, e⟩
  | frz ob u => obtain ⟨e, _⟩ := x; exact ⟨_, e⟩
  | tbl ps => exact ⟨_, (show h.get? a = some _ from x)⟩
  | met f y => exact ⟨_, (show h.get? a = some _ from x)⟩
  | ext φ => obtain ⟨_, e, _⟩ := x; exact e
structure Fly (P : Program) (w : World) (l : List Env) (H H' : Hp) (s s' : Shared) (ea : Addr) (cls : Value) : Prop where
  os : s'.os = s.os
  bare : AllBare s'.gens
  un : Un (frs l) [] H H' s.heap s'.heap
  hok : HOk P w H' s'.heap
  fl : ∃ (B : Heap) (t : Addr), Heap.FlyingW B l ea cls (.ref t) s'.heap ∧ (∀ b, H' b ≠ none → ∃ o, B.get? b = some o) ∧ (∀ b o, s.heap.get? b = some o → b ∉ frs l → ∃ o', B.get? b = some o')
noncomputable def CX1 (P : Program) (w : World) : CXT := fun outer H s E e s' => ∃ ea cls H', e = .ref ea ∧ Fly P w outer H H' s s' ea cls ∧ E cls none H'
section
variable {P : Program} {w : World} {K : PySem.W.Frag} {mg : Str → Option Value} {base : Heap} {N : List Str} {qual : Str} {scope : Scope} {f : Addr} {cd : Value} {A : Around} {outer : List Env} {s₀ : Shared} {H₀ : Hp} {E : XK}
theorem frs_cons {env : Env} {L : Addr} (hf : env.frame = some L) (l : List Env) : frs (env :: l) = L :: frs l := by
  unfold frs
  rw [List.filterMap_cons, hf]
theorem raise_out {pins : List (Addr × Obj)} {σ : St} {H : Hp} {s : Shared} {h' : Heap} {e : Addr} {cls : Value} {vs : List Value} (I : Inv (cxOf (CX1 P w) P w K mg base N qual scope f cd A outer s₀ H₀ E) pins σ H s)
    (hx : Heap.MadeExcOf s.heap h' e cls vs) (hE : E cls none H) : (cxOf (CX1 P w) P w K mg base N qual scope f cd A outer s₀ H₀ E).xe (.ref e) { s with heap := h' } := by
  have hst := I.stack
  have hfree := I.stkFree
  have hfr : (A.deeper (envOfC qual scope s₀.heap.objs.size f cd)).frames = some (envOfC qual scope s₀.heap.objs.size f cd :: outer) := I.ok.frames
  have efs : frs (envOfC qual scope s₀.heap.objs.size f cd :: outer) = s₀.heap.objs.size :: frs outer := frs_cons rfl outer
  have hin : ∀ env ∈ (envOfC qual scope s₀.heap.objs.size f cd :: outer), ∀ b, env.frame = some b → b ∈ frs (envOfC qual scope s₀.heap.objs.size f cd :: outer) := fun env he b hb => List.mem_filterMap.mpr ⟨env, he, hb⟩
  have nfr : ∀ b o, s₀.heap.get? b = some o → b ∉ frs outer → b ∉ frs (envOfC qual scope s₀.heap.objs.size f cd :: outer) := fun b o q hb hm => by
    rw [efs] at hm
    rcases List.mem_cons.mp hm with z | z
    · exact absurd (Heap.lt_size q) (by rw [z]; exact Nat.lt_irrefl _)
    · exact hb z
  refine wpAny_leaves_madeW (base := PySem.W.hideAll s.heap (frs (envOfC qual scope s₀.heap.objs.size f cd :: outer))) (h := s.heap) hfr rfl (fun b o q => PySem.W.of_hideAll _ q) (PySem.W.funFrames_hide hst hin) hx fun h'' t fl _ _ up => ?_
  have stays : ∀ b o, s.heap.get? b = some o → b ∉ frs (envOfC qual scope s₀.heap.objs.size f cd :: outer) → h''.get? b = some o := fun b o q hb => fl.1 b o (PySem.W.hideAll_get _ q hb)
  have trk : ∀ b u, H b = some u → b ∉ frs (envOfC qual scope s₀.heap.objs.size f cd :: outer) := fun b u q hb => by rw [hfree b hb] at q; cases q
  have slot : ∀ b o, s₀.heap.get? b = some o → H₀ b = none → b ∈ frs outer → ∃ sl, h''.get? b = some { o with slots := sl } := fun b o q n hb => by
    obtain ⟨sl, e1⟩ := I.base.slot b o q n hb (by intro z; cases z)
    obtain ⟨_, o', ho', hnf⟩ := hst.mem (show b ∈ frs (envOfC qual scope s₀.heap.objs.size f cd :: outer) by rw [efs]; exact List.mem_cons_of_mem _ hb)
    rw [e1] at ho'
    cases ho'
    obtain ⟨sl', e2⟩ := up b _ (hx.keeps _ _ e1) hnf
    exact ⟨sl', e2⟩
  have nil : ∀ b : Addr, b ∉ (cxOf (CX1 P w) P w K mg base N qual scope f cd A outer s₀ H₀ E).ex := fun b z => by cases z
  refine ⟨e, cls, H, rfl, ⟨I.os, I.bare, ⟨fun b o q n hb _ => stays b o (I.base.keep b o q n hb (nil b)) (nfr b o q hb), fun b o q n hb _ => slot b o q n hb, fun b o q n _ => I.base.free b o q n (nil b), fun b o q _ => ?_, I.base.tups, I.base.frzs, I.base.tbls⟩, fun b u q => ?_, PySem.W.hideAll s.heap (frs (envOfC qual scope s₀.heap.objs.size f cd :: outer)), t, fl, fun b hb => ?_, fun b o q hb => ?_⟩, hE⟩
  · by_cases hb : b ∈ frs outer
    · obtain ⟨sl, e1⟩ := slot b o q (I.ok.frf b hb) hb
      exact ⟨_, e1⟩
    · obtain ⟨o', e1⟩ := I.base.there b o q (nil b)
      exact ⟨o', stays b o' e1 (nfr b o q hb)⟩
  · refine (I.hok b u q).stay (fun c v hc z => stays c v z ?_) (fun _ z => z) fun _ _ z => z
    rcases hc with z' | z'
    · rw [z']; exact trk b u q
    · exact trk c _ z'
  · cases q : H b with
    | none => exact absurd q hb
    | some u =>
      obtain ⟨o, e1⟩ := (I.hok b u q).there
      exact ⟨o, PySem.W.hideAll_get _ e1 (trk b u q)⟩
  · obtain ⟨o', e1⟩ := I.base.there b o q (nil b)
    exact ⟨o', PySem.W.hideAll_get _ e1 (nfr b o q hb)⟩
theorem pass_out : Passes (CX1 P w) (cxOf (CX1 P w) P w K mg base N qual scope f cd A outer s₀ H₀ E) E := by
  rintro pins σ H s e s' I ⟨ea, cls, H', rfl, Z, hE⟩
  obtain ⟨B, t, fl, ct, cs⟩ := Z.fl
  have hfr : (A.deeper (envOfC qual scope s₀.heap.objs.size f cd)).frames = some (envOfC qual scope s₀.heap.objs.size f cd :: outer) := I.ok.frames
  have efs : frs (envOfC qual scope s₀.heap.objs.size f cd :: outer) = s₀.heap.objs.size :: frs outer := frs_cons rfl outer
  have nfr : ∀ b o, s₀.heap.get? b = some o → b ∉ frs outer → b ∉ frs (envOfC qual scope s₀.heap.objs.size f cd :: outer) := fun b o q hb hm => by
    rw [efs] at hm
    rcases List.mem_cons.mp hm with z | z
    · exact absurd (Heap.lt_size q) (by rw [z]; exact Nat.lt_irrefl _)
    · exact hb z
  have sub : ∀ b, b ∈ frs outer → b ∈ frs (envOfC qual scope s₀.heap.objs.size f cd :: outer) := fun b hb => by rw [efs]; exact List.mem_cons_of_mem _ hb
  have nil : ∀ b : Addr, b ∉ (cxOf (CX1 P w) P w K mg base N qual scope f cd A outer s₀ H₀ E).ex := fun b z => by cases z
  refine wpAny_leaves_onW hfr rfl fl fun h'' fl2 up => ?_
  have inB : ∀ b o, s'.heap.get? b = some o → (∃ o', B.get? b = some o') → h''.get? b = some o := fun b o q ⟨o', z⟩ => by
    have q' := fl.1 b o' z
    rw [q] at q'
    cases q'
    exact fl2.1 b o z
  have slot : ∀ b o, s₀.heap.get? b = some o → H₀ b = none → b ∈ frs outer → ∃ sl, h''.get? b = some { o with slots := sl } := fun b o q n hb => by
    obtain ⟨sl, e1⟩ := I.base.slot b o q n hb (nil b)
    obtain ⟨sl2, e2⟩ := Z.un.slot b _ e1 (I.base.free b o q n (nil b)) (sub b hb) (by intro z; cases z)
    obtain ⟨_, o', ho', hnf⟩ := fl.2.2.1.mem (sub b hb)
    rw [e2] at ho'
    cases ho'
    obtain ⟨sl', e3⟩ := up b _ e2 hnf
    exact ⟨sl', e3⟩
  refine ⟨ea, cls, H', rfl, ⟨Z.os.trans I.os, Z.bare, ⟨fun b o q n hb _ => ?_, fun b o q n hb _ => slot b o q n hb, fun b o q n _ => ?_, fun b o q _ => ?_, fun b xs q => Z.un.tups b xs (I.base.tups b xs q), fun b o u q => Z.un.frzs b o u (I.base.frzs b o u q), fun b ps q => ?_⟩, fun b u q => ?_, B, t, fl2, ct, fun b o q hb => ?_⟩, hE⟩
  · have e1 := I.base.keep b o q n hb (nil b)
    have n1 := I.base.free b o q n (nil b)
    have nf := nfr b o q hb
    exact inB b o (Z.un.keep b o e1 n1 nf (by intro z; cases z)) (cs b o e1 nf)
  · obtain ⟨o', e1⟩ := I.base.there b o q (nil b)
    exact Z.un.free b o' e1 (I.base.free b o q n (nil b)) (by intro z; cases z)
  · by_cases hb : b ∈ frs outer
    · obtain ⟨sl, e1⟩ := slot b o q (I.ok.frf b hb) hb
      exact ⟨_, e1⟩
    · obtain ⟨o', e1⟩ := I.base.there b o q (nil b)
      obtain ⟨o2, e2⟩ := cs b o' e1 (nfr b o q hb)
      exact ⟨o2, fl2.1 b o2 e2⟩
  · obtain ⟨m1, e1⟩ := I.base.tbls b ps q
    obtain ⟨m2, e2⟩ := Z.un.tbls b _ e1
    exact ⟨m1 ++ m2, by rw [e2, Array.append_assoc]⟩
  · refine (Z.hok b u q).stay (fun c v hc z => inB c v z (ct c ?_)) (fun _ z => z) fun _ _ z => z
    rcases hc with z' | z'
    · rw [z', q]; simp
    · rw [z']; simp
  · obtain ⟨o', e1⟩ := I.base.there b o q (nil b)
    exact cs b o' e1 (nfr b o q hb)
theorem Fun.okX {x : Str} {st : Stmt} {fd : FuncData} {ps : List Str} {k : Nat} {sp : Sp} (F : Fun K x qual st f fd) (S : FnScope N ps (defScope st)) (len : ∀ vs H Q E, sp vs H Q E → vs.length = ps.length)
    (hbody : ∀ (cdv : Value) (A : Around) (outer : List Env) (s : Shared) (H : Hp) (vs : List V) (Q : VK) (E : XK), Room k (A.deeper (envOfC qual (defScope st) s.heap.objs.size f cdv)) → sp vs H Q E →
      ∃ t, PSs (cxOf (CX1 P w) P w K mg base N qual (defScope st) f cdv A outer s H E) (defBody st) t ∧ t { nx := fun _ H' => Q .non H', rt := Q } (start N vs) H) : FnOk P w K mg base (CX1 P w) (k + 1) f fd ps sp := by
  obtain ⟨oc, od, kV, doc, pm, an, cdv, ct, osl, rfl, lk, hcd⟩ := F.ex
  exact fn_of lk hcd S len fun A outer s H vs Q E hr hsp => hbody cdv A outer s H vs Q E hr hsp
end
theorem ownCls_in {K : PySem.W.Frag} {h : Heap} {mg : Str → Option Value} {x : Str} {C : Addr} {bmB : List Value} {newId : String} (X : K.In h) (hb : mg x = some (.ref C)) (q : PySem.W.excIn K C bmB newId = true) : OwnCls x C bmB newId mg h := by
  refine ⟨hb, ?_⟩
  unfold PySem.W.excIn at q
  split at q
  · rename_i dd cd sl ho
    split at q
    · rename_i C' bm k0 k1 k2 k3 n k5 hm hs
      simp only [Bool.and_eq_true, beq_iff_eq, Bool.not_eq_true'] at q
      obtain ⟨⟨⟨⟨⟨rfl, rfl⟩, hdel⟩, ht⟩, hok⟩, hni⟩ := q
      obtain ⟨nm, bs, mro, ns, qn, hd, sn, sub, ab, col, del⟩ := cd
      dsimp only at hm hdel hok hni
      subst hm hdel
      have hsl : sl = #[k0, k1, k2, k3, some (.builtin n), k5] := by
        obtain ⟨l⟩ := sl
        simp only at hs
        rw [hs]
      subst hsl
      exact ⟨bm, ns, nm, qn, bs, hd, sn, sub, ab, col, dd, k0, k1, k2, k3, k5, _, X _ _ ho, .of_isNs (PySem.W.isNs_of_in X hok), PySem.W.nsMap_none_of_in X hok hni, PySem.W.tail_of_in X ht⟩
    · cases q
  · cases q
noncomputable def tRaise (E : XK) (C : Addr) (t : TA) : TS := fun _ σ H => t σ H fun vs H1 => vs.length ≤ sizeLine ∧ E (.ref C) none H1
noncomputable def Raises (X : Cx) (E : XK) : Prop := ∀ (pins : List (Addr × Obj)) (σ : St) (H : Hp) (s : Shared) (h' : Heap) (e : Addr) (cls : Value) (vs : List Value), Inv X pins σ H s → Heap.MadeExcOf s.heap h' e cls vs → E cls none H → X.xe (.ref e) { s with heap := h' }
theorem ps_raise {X : Cx} {E : XK} {x : Str} {C : Addr} {B newId initId : String} {bm : List Value} {np cpos pos : Pos} {e₀ : Expr} {rest : List Expr} {t : TA} (hX : Raises X E) (hc : X.calm = true) (hm : X.mg x = some (.ref C)) (hq : PySem.W.excIn X.K C bm newId = true) (FB : ExcBaseFacts B newId initId bm) (hg : Gl X x) (ha : PA X (e₀ :: rest) t)
    (he : starEach (e₀ :: rest) X.env = (false, eval e₀ X.env) :: starEach rest X.env := by rfl) (hpl : (backTo cpos (starEach rest X.env)).any (·.1) = false := by rfl) (hd : (x == ("__debug__" : Str)) = false := by decide) :
    PS X (.Raise (some (.Call (.Name x np) (e₀ :: rest) [] cpos)) none pos) (tRaise E C t) := by
  intro pins s σ H D I h
  obtain ⟨tl, NS, nm, q, bs, hdct, sn, sub, ab, col, dd, k0, k1, k2, k3, k5, mN, hC, hN, hni, T⟩ := (ownCls_in I.mod.kin hm hq).obj
  refine wpAny_Raise_call_subT (C := C) (nm := nm) (q := q) (N := NS) (bs := bs) (bm := tl) (hdct := hdct) (sn := sn) (sub := sub) (ab := ab) (col := col) (dd := dd) (k0 := k0) (k1 := k1) (k2 := k2) (k3 := k3) (k5 := k5)
    FB (mN := mN) (T.hasType FB.hasBase) (I.ok.hd hc) (by rw [he]; show (false || (backTo cpos (starEach rest X.env)).any (·.1)) = false; rw [hpl]; rfl) hni (ld_glob I hg hm ⟨rfl, ?_⟩ hd)
  have hA := ha cpos pins s σ H _ I h
  rw [he] at hA ⊢
  exact Calls.evalArgs_plain (thn hA fun us s2 ⟨vs, H2, I2, r2, z, q2⟩ => ⟨rfl, by rw [← r2.length]; exact z, I2.bk _ _ hC, hN.keeps I2.bk, T.keeps I2.bk, fun h' e hm2 => hX pins σ H2 s2 h' e _ _ I2 hm2 q2⟩)
end L2
namespace L2
open PySem PySem.Spec PyProof.Rows
structure DefX (X : Cx) : Prop where
  fn : ∀ y, X.fn y = true
  stk : X.stack = X.env :: X.outer
  fr : X.env.frame = some X.env.locals
structure InvX (X : Cx) (pins : List (Addr × Obj)) (σ : St) (H : Hp) (s : Shared) (ea : Addr) (cls : Value) : Prop where
  inv : Inv X pins σ H s
  fl : ∃ (B : Heap) (t : Addr), Heap.FlyingW B X.stack ea cls (.ref t) s.heap ∧ (∀ b, H b ≠ none → ∃ o, B.get? b = some o) ∧ (∀ b o, X.s₀.heap.get? b = some o → b ∉ frs X.stack → b ∉ X.ex → ∃ o', B.get? b = some o') ∧ (∀ p ∈ X.pn ++ pins, ∃ o', B.get? p.1 = some o') ∧ (∀ x c, X.env.cells.lookup x = some c → ∃ o, B.get? c = some o)
section
variable {X : Cx} {pins : List (Addr × Obj)} {σ : St} {H H' : Hp} {s s' : Shared} {ea : Addr} {cls : Value}
theorem Inv.nstk (I : Inv X pins σ H s) {b : Addr} (h1 : b ≠ X.env.locals) (h2 : b ∉ X.fs) : b ∉ frs X.stack := fun z => (List.mem_cons.mp (I.stkSub b z)).elim h1 h2
theorem Inv.slots {B h' : Heap} (I : Inv X pins σ H s) (sB : B.StaysIn s.heap) (c1 : ∀ b, H b ≠ none → ∃ o, B.get? b = some o) (c2 : ∀ b o, X.s₀.heap.get? b = some o → b ∉ frs X.stack → b ∉ X.ex → ∃ o', B.get? b = some o') (c3 : ∀ p ∈ X.pn ++ pins, ∃ o', B.get? p.1 = some o')
    (c4 : ∀ x c, X.env.cells.lookup x = some c → ∃ o, B.get? c = some o) (k1 : B.StaysIn h') (k2 : s.heap.UpToSlots h') : Inv X pins σ H { s with heap := h' } := by
  have inB : ∀ b o, s.heap.get? b = some o → (∃ o', B.get? b = some o') → h'.get? b = some o := fun b o q ⟨o', z⟩ => by
    have q' := sB b o' z
    rw [q] at q'
    cases q'
    exact k1 b o z
  have neL : ∀ b o, X.s₀.heap.get? b = some o → b ≠ X.env.locals := fun b o e => Nat.ne_of_lt (Nat.lt_of_lt_of_le (Heap.lt_size e) I.ok.above)
  have slot : ∀ b o, X.s₀.heap.get? b = some o → X.H₀ b = none → b ∈ X.fs → b ∉ X.ex → ∃ sl, h'.get? b = some { o with slots := sl } := fun b o q n hb hx => by
    obtain ⟨sl, e1⟩ := I.base.slot b o q n hb hx
    obtain ⟨_, o', ho', hnf⟩ := I.funs.mem hb
    rw [e1] at ho'
    cases ho'
    obtain ⟨sl', e2⟩ := k2 b _ e1 hnf
    exact ⟨sl', e2⟩
  refine ⟨I.ok, I.os, I.bare, ⟨fun b o q n hb hx => ?_, slot, I.base.free, fun b o q hx => ?_, I.base.tups, I.base.frzs, I.base.tbls⟩, ?_, fun x c e => ?_, I.free, I.freeC, fun p hp => ?_, fun b u q => ?_, I.len⟩
  · exact inB b o (I.base.keep b o q n hb hx) (c2 b o q (I.nstk (neL b o q) hb) hx)
  · by_cases hb : b ∈ X.fs
    · obtain ⟨sl, e1⟩ := slot b o q (I.ok.frf b hb) hb hx
      exact ⟨_, e1⟩
    · obtain ⟨o', e1⟩ := I.base.there b o q hx
      exact ⟨o', inB b o' e1 (c2 b o q (I.nstk (neL b o q) hb) hx)⟩
  · obtain ⟨m, hn, hl⟩ := I.loc
    refine ⟨m, k2.ns hn, fun i x v e1 e2 e3 => ?_⟩
    obtain ⟨u, r, l⟩ := hl i x v e1 e2 e3
    refine ⟨u, r, ?_⟩
    rcases l with l | ⟨k, c, e, o, ho, hd⟩
    · exact .inl l
    · exact .inr ⟨k, c, e, o, inB c o ho (c4 x c e), hd⟩
  · obtain ⟨v, o, ho, hd⟩ := I.cell x c e
    exact ⟨v, o, inB c o ho (c4 x c e), hd⟩
  · obtain ⟨e, n, ne, nf, d⟩ := I.pin p hp
    exact ⟨inB p.1 p.2 e (c3 p hp), n, ne, nf, d⟩
  · refine (I.hok b u q).stay (fun c v hc z => inB c v z (c1 c ?_)) (fun _ z => z) fun _ _ z => z
    rcases hc with z' | z'
    · rw [z', q]; simp
    · rw [z']; simp
theorem InvX.slots (J : InvX X pins σ H s ea cls) : ∃ (B : Heap) (t : Addr), Heap.FlyingW B X.stack ea cls (.ref t) s.heap ∧ H ea = none ∧ ∀ h', Heap.FlyingW B X.stack ea cls (.ref t) h' → s.heap.UpToSlots h' → InvX X pins σ H { s with heap := h' } ea cls := by
  obtain ⟨B, t, fl, c1, c2, c3, c4⟩ := J.fl
  refine ⟨B, t, fl, ?_, fun h' f2 up => ⟨J.inv.slots fl.1 c1 c2 c3 c4 f2.1 up, B, t, f2, c1, c2, c3, c4⟩⟩
  cases q : H ea with
  | none => rfl
  | some u =>
    obtain ⟨o, e⟩ := c1 ea (by rw [q]; simp)
    rw [fl.2.1] at e
    cases e
theorem Inv.flew (I : Inv X pins σ H s) (hfn : ∀ y, X.fn y = true) (Z : Fly X.prog X.w X.stack H H' s s' ea cls) : InvX X pins σ H' s' ea cls := by
  obtain ⟨B, t, fl, ct, cs⟩ := Z.fl
  have cl : ∀ x c, X.env.cells.lookup x = some c → c ∉ frs X.stack := fun x c e => I.nstk (I.cne x c e) fun hb => by
    obtain ⟨_, o, ho, _⟩ := I.ok.funs.mem hb
    exact absurd (Nat.lt_of_lt_of_le (Heap.lt_size ho) (I.ok.cab x c (hfn x) e)) (Nat.lt_irrefl _)
  refine ⟨I.call' Z.os Z.un Z.hok Z.bare fun b z => absurd z (by simp), B, t, fl, ct, fun b o q hb hx => ?_, fun p hp => ?_, fun x c e => ?_⟩
  · obtain ⟨o', e1⟩ := I.base.there b o q hx
    exact cs b o' e1 hb
  · obtain ⟨e, n, ne, nf, d⟩ := I.pin p hp
    exact cs p.1 p.2 e (I.nstk ne nf)
  · obtain ⟨v, o, ho, _⟩ := I.cell x c e
    exact cs c o ho (cl x c e)
end
noncomputable abbrev EK := Value → Addr → St → Hp → Prop
noncomputable abbrev EH := Value → Addr → Hp → Prop
noncomputable abbrev TEE := St → Hp → VK → EH → Prop
noncomputable abbrev TAE := St → Hp → (List V → Hp → Prop) → EH → Prop
noncomputable abbrev TSE := Ends → EK → St → Hp → Prop
noncomputable def XP (X : Cx) (pins : List (Addr × Obj)) (EX : EK) (e : Value) (s' : Shared) : Prop := ∃ ea cls σ' H', e = .ref ea ∧ InvX X pins σ' H' s' ea cls ∧ EX cls ea σ' H'
noncomputable abbrev atS (σ : St) (EX : EH) : EK := fun cls ea σ' H' => σ' = σ ∧ EX cls ea H'
noncomputable def PEE (X : Cx) (e : Expr) (t : TEE) : Prop :=
  ∀ (pins : List (Addr × Obj)) (s : Shared) (σ : St) (H : Hp) (Q : VK) (EX : EH), Inv X pins σ H s → t σ H Q EX → wpAny (model X.prog X.w) X.A (eval e X.env) (EP X pins σ Q) (XP X pins (atS σ EX)) s
noncomputable def PAE (X : Cx) (es : List Expr) (t : TAE) : Prop :=
  ∀ (pos : Pos) (pins : List (Addr × Obj)) (s : Shared) (σ : St) (H : Hp) (Q : List V → Hp → Prop) (EX : EH), Inv X pins σ H s → t σ H Q EX → wpAny (model X.prog X.w) X.A (spliced (backTo pos (starEach es X.env))) (AP X pins σ Q) (XP X pins (atS σ EX)) s
noncomputable def PSE (X : Cx) (st : Stmt) (t : TSE) : Prop :=
  ∀ (pins : List (Addr × Obj)) (s : Shared) (σ : St) (H : Hp) (D : Ends) (EX : EK), Inv X pins σ H s → t D EX σ H → wpAny (model X.prog X.w) X.A (exec st X.env) (SP X pins D) (XP X pins EX) s
noncomputable def PSEs (X : Cx) (st : List Stmt) (t : TSE) : Prop :=
  ∀ (pins : List (Addr × Obj)) (s : Shared) (σ : St) (H : Hp) (D : Ends) (EX : EK), Inv X pins σ H s → t D EX σ H → wpAny (model X.prog X.w) X.A (execs st X.env) (SP X pins D) (XP X pins EX) s
section
variable {X : Cx}
theorem pee_of {e : Expr} {t : TE} (h : ∀ W, PE (X.wish W) e t) : PEE X e (fun σ H Q _ => t σ H Q) := fun pins s σ H Q EX I hw =>
  thn (h (XP X pins (atS σ EX)) pins s σ H Q (I.wish _) hw) fun _ _ ⟨v, H', I', r, q⟩ => ⟨v, H', I'.unwish, r, q⟩
theorem XP.at {pins : List (Addr × Obj)} {σ : St} {EX : EK} {e : Value} {s' : Shared} (h : XP X pins (atS σ fun cls ea H' => EX cls ea σ H') e s') : XP X pins EX e s' := by
  obtain ⟨ea, cls, σ', H', rfl, J, rfl, q⟩ := h
  exact ⟨ea, cls, _, H', rfl, J, q⟩
noncomputable def tCallE (sp : Sp) (t : TA) : TEE := fun σ H Q EX => t σ H fun vs H1 => sp vs H1 Q fun cls _ H' => ∀ ea, EX cls ea H'
theorem pee_call {k : Nat} {f : Addr} {fd : FuncData} {ps : List Str} {sp : Sp} {x : Str} {p pos : Pos} {e : Expr} {es : List Expr} {t : TA} (F : FnOk X.prog X.w X.K X.mg X.base (CX1 X.prog X.w) k f fd ps sp) (hr : Room k X.A) (hg : Gl X x) (hm : X.mg x = some (.ref f)) (hk : PySem.W.keepIn X.K (.ref f) = true) (hb : Binds X.K fd ps []) (hfn : ∀ y, X.fn y = true)
    (ha : ∀ W, PA (X.wish W) (e :: es) t) (hdb : (x == ("__debug__" : Str)) = false := by decide) (he : starEach (e :: es) X.env = (false, eval e X.env) :: starEach es X.env := by rfl) (hpl : (backTo pos (starEach es X.env)).any (·.1) = false := by rfl) :
    PEE X (.Call (.Name x p) (e :: es) [] pos) (tCallE sp t) := by
  intro pins s σ H Q EX I h
  refine wpAny_Call_Name_kw (ld_glob I hg hm ?_ hdb)
  refine PySem.W.callWith_K (h₀ := X.base) I.ok.mod.kin hk (thn (ha (XP X pins (atS σ EX)) pos pins s σ H _ (I.wish _) h) fun us s1 ⟨vs, H1, I1, r, q⟩ => ⟨I1.unwish.kIn, ?_⟩) he hpl
  have I2 := I1.unwish
  have hl : (us ++ []).length = ps.length := by rw [List.append_nil, ← r.length]; exact F.len _ _ _ _ q
  have hb2 := hb s1 us I2.kIn hl
  rw [List.append_nil] at hb2
  refine wpAny_call (codeAny_mono (F.run X.A X.stack s1 H1 ⟨us, []⟩ us vs Q _ hr I2.env0 hb2 r q) fun r s' hq => ?_)
  cases r with
  | error e =>
    obtain ⟨ea, cls, H', rfl, Z, hE⟩ := hq
    exact ⟨ea, cls, σ, H', rfl, I2.flew hfn Z, rfl, hE ea⟩
  | ok fl =>
    cases fl with
    | ret u => exact I2.after hq
    | next => exact False.elim hq
    | brk => exact False.elim hq
    | cont => exact False.elim hq
noncomputable def tNilE : TAE := fun _ H Q _ => Q [] H
noncomputable def tConsE (ta : TEE) (tr : TAE) : TAE := fun σ H Q EX => ta σ H (fun x H1 => tr σ H1 (fun xs H2 => Q (x :: xs) H2) EX) EX
theorem pae_nil : PAE X [] tNilE := fun _ _ _ _ H Q _ I h => Calls.spliced_nil ⟨[], H, I, .nil, h⟩
theorem pae_cons {e : Expr} {es : List Expr} {te : TEE} {t : TAE} (ha : PEE X e te) (hr : PAE X es t) (hs : starEach (e :: es) X.env = (false, eval e X.env) :: starEach es X.env := by rfl) : PAE X (e :: es) (tConsE te t) := by
  intro pos pins s σ H Q EX I h
  rw [hs]
  show wpAny _ _ (spliced ((false, eval e X.env) :: backTo pos (starEach es X.env))) _ _ s
  refine Calls.spliced_cons (thn (ha pins s σ H _ EX I h) fun u s1 ⟨x, H1, I1, r1, q1⟩ => ?_)
  exact thn (hr pos pins s1 σ H1 _ EX I1 q1) fun us s2 ⟨xs, H2, I2, r2, q2⟩ => ⟨x :: xs, H2, I2, .cons r1 r2, q2⟩
noncomputable def tTupE (t : TAE) : TEE := fun σ H Q EX => t σ H (fun xs H1 => xs.length ≤ sizeLine ∧ ∀ p, H1 p = none → Q (.ref p) (upd H1 p (.tup xs))) EX
theorem pee_tup {es : List Expr} {t : TAE} {x1} {pos : Pos} (h : PAE X es t) : PEE X (.Tuple es x1 pos) (tTupE t) := by
  intro pins s σ H Q EX I hq
  refine wpAny_Tuple_spliced (thn (h pos pins s σ H _ EX I hq) fun us s1 ⟨xs, H1, I1, r, z, q⟩ => ⟨by rw [← r.length]; exact z, ?_⟩)
  have hf : H1 s1.heap.objs.size = none := I1.hok.fresh (Nat.le_refl _)
  refine ⟨.ref s1.heap.objs.size, upd H1 s1.heap.objs.size (.tup xs), I1.laid (t' := s1.toks) (fun b u e => Heap.get?_push_of_some _ e) (Nat.le_refl _) ?_, rfl, q _ hf⟩
  exact ⟨z, us, r, ⟨_, Heap.get?_push_size _ rfl, rfl, _, rfl⟩⟩
theorem pse_expr {e : Expr} {te : TEE} {pos : Pos} (he : PEE X e te) (hs : swapsWith e none pos.line X.env = pure false := by rfl) : PSE X (.Expr e pos) (fun D EX σ H => te σ H (fun _ H1 => D.nx σ H1) fun cls ea H' => EX cls ea σ H') := by
  intro pins s σ H D EX I h
  exact wpAny_Expr_any (wpAny_mono (he pins s σ H _ _ I h) (fun v s1 ⟨x, H1, I1, r1, q1⟩ => ⟨σ, H1, I1, q1⟩) fun _ _ q => q.at) I.quiet hs
theorem pse_ret {e : Expr} {te : TEE} {pos : Pos} (he : PEE X e te) : PSE X (.Return (some e) pos) (fun D EX σ H => te σ H D.rt fun cls ea H' => EX cls ea σ H') := by
  intro pins s σ H D EX I h
  exact wpAny_Return_some (wpAny_mono (he pins s σ H _ _ I h) (fun v s1 ⟨x, H1, I1, r1, q1⟩ => ⟨x, σ, H1, I1, r1, q1⟩) fun _ _ q => q.at)
theorem psse_one {st : Stmt} {t : TSE} (h1 : PSE X st t) : PSEs X [st] t := by
  intro pins s σ H D EX I h
  refine wpAny_execs_cons (thn (h1 pins s σ H D EX I h) fun f s1 q => ?_)
  cases f with
  | next => exact wpAny_execs_nil q
  | ret v => exact q
  | brk => exact q
  | cont => exact q
noncomputable abbrev THs := Ends → EK → Value → Addr → St → Hp → Prop
noncomputable def PH (X : Cx) (hs : List ExceptHandler) (th : THs) : Prop :=
  ∀ (pins : List (Addr × Obj)) (s : Shared) (σ : St) (H : Hp) (D : Ends) (EX : EK) (ea : Addr) (cls : Value), InvX X pins σ H s ea cls → th D EX cls ea σ H → wpAny (model X.prog X.w) X.A (handleBy (.ref ea) X.env hs) (SP X pins D) (XP X pins EX) s
noncomputable def thNone : THs := fun _ _ _ _ _ _ => False
theorem ph_nil : PH X [] thNone := fun _ _ _ _ _ _ _ _ _ h => h.elim
theorem pse_try {body : List Stmt} {h₀ : ExceptHandler} {hs : List ExceptHandler} {tb : TSE} {th : THs} {pos : Pos} (dx : DefX X) (hb : PSEs X body tb) (hh : PH X (h₀ :: hs) th) : PSE X (.Try body (h₀ :: hs) [] [] pos) (fun D EX σ H => tb D (fun cls ea σ' H' => th D EX cls ea σ' H') σ H) := by
  intro pins s σ H D EX I h
  refine wpAny_Try_except (wpAny_mono (hb pins s σ H D _ I h) (fun f s1 q => ?_) fun e s1 q => ?_)
  · cases f with
    | next => exact wpAny_execs_nil q
    | ret v => exact q
    | brk => exact q
    | cont => exact q
  · obtain ⟨ea, cls, σ', H', rfl, J, hE⟩ := q
    obtain ⟨B, t, fl, hn, go⟩ := J.slots
    have hfr : X.A.frames = some (X.env :: X.outer) := by rw [← dx.stk]; exact J.inv.ok.frames
    refine wpAny_looks_onW hfr dx.fr (by rw [← dx.stk]; exact fl) fun h4 held up4 => ?_
    refine wpAny_landsW held fun h5 fl5 up5 => ?_
    exact hh pins _ σ' H' D EX ea cls (go h5 (by rw [dx.stk]; exact fl5) (up4.trans up5)) hE
theorem ps_try {body : List Stmt} {h₀ : ExceptHandler} {hs : List ExceptHandler} {tb : TSE} {th : THs} {pos : Pos} (dx : DefX X) (hb : PSEs X body tb) (hh : PH X (h₀ :: hs) th) :
    PS X (.Try body (h₀ :: hs) [] [] pos) (fun D σ H => tb D (fun cls ea σ' H' => th D (fun _ _ _ _ => False) cls ea σ' H') σ H) := by
  intro pins s σ H D I h
  exact wpAny_mono (pse_try dx hb hh pins s σ H D (fun _ _ _ _ => False) I h) (fun _ _ q => q) fun _ _ ⟨_, _, _, _, _, _, z⟩ => z.elim
noncomputable def inH (X : Cx) (ea : Addr) (oe : Obj) : Cx := { X with A := X.A.mark (some (.ref ea)), calm := false, pn := (ea, oe) :: X.pn, xe := fun _ _ => False }
theorem InvX.inH {pins : List (Addr × Obj)} {σ : St} {H : Hp} {s : Shared} {ea : Addr} {cls : Value} (J : InvX X pins σ H s ea cls) : ∃ oe, s.heap.get? ea = some oe ∧ oe.cls = cls ∧ Inv (L2.inH X ea oe) pins σ H s := by
  obtain ⟨B, t, fl, hn, _⟩ := J.slots
  obtain ⟨oe, vs, he, hc, hd, _⟩ := fl.first
  have I := J.inv
  have nfr : ∀ b ∈ frs X.stack, ea ≠ b := fun b hb z => by
    obtain ⟨_, o, ho, hnf⟩ := I.stack.mem hb
    rw [← z, he] at ho
    cases ho
    exact hnf vs hd
  have neL : ea ≠ X.env.locals := fun z => by
    obtain ⟨m, ⟨o, es, ep, ho, hdd, _⟩, _⟩ := I.loc
    rw [← z, he] at ho
    cases ho
    rw [hd] at hdd
    cases hdd
  have nfs : ea ∉ X.fs := fun hb => by
    obtain ⟨_, o, ho, hnf⟩ := I.funs.mem hb
    rw [he] at ho
    cases ho
    exact hnf vs hd
  refine ⟨oe, he, hc, ⟨⟨I.ok.mod, I.ok.kind, I.ok.glob, I.ok.blt, I.ok.above, I.ok.inj, I.ok.has, I.ok.cab, fun z => (by cases z), I.ok.frames, I.ok.stk, I.ok.exf, I.ok.bs, I.ok.bsz, I.ok.noex, I.ok.exfs, I.ok.funs, I.ok.frf⟩, I.os, I.bare, I.base, I.loc, I.cell, I.free, I.freeC, fun p hp => ?_, I.hok, I.len⟩⟩
  rcases List.mem_cons.mp (show p ∈ (ea, oe) :: (X.pn ++ pins) from hp) with z | z
  · rw [z]
    exact ⟨he, hn, neL, nfs, fun v q => by rw [hd] at q; cases q⟩
  · exact I.pin p z
theorem Inv.outH {pins : List (Addr × Obj)} {σ : St} {H : Hp} {s : Shared} {ea : Addr} {oe : Obj} (ok : X.Ok) (I : Inv (L2.inH X ea oe) pins σ H s) : Inv X pins σ H s :=
  ⟨ok, I.os, I.bare, I.base, I.loc, I.cell, I.free, I.freeC, fun p hp => I.pin p (List.mem_cons_of_mem _ hp), I.hok, I.len⟩
theorem SP.outH {pins : List (Addr × Obj)} {ea : Addr} {oe : Obj} {D : Ends} {f : Flow} {s' : Shared} (ok : X.Ok) (h : SP (L2.inH X ea oe) pins D f s') : SP X pins D f s' := by
  cases f with
  | next => obtain ⟨σ', H', I, q⟩ := h; exact ⟨σ', H', I.outH ok, q⟩
  | brk => obtain ⟨σ', H', I, q⟩ := h; exact ⟨σ', H', I.outH ok, q⟩
  | cont => obtain ⟨σ', H', I, q⟩ := h; exact ⟨σ', H', I.outH ok, q⟩
  | ret u => obtain ⟨v, σ', H', I, r, q⟩ := h; exact ⟨v, σ', H', I.outH ok, r, q⟩
end
theorem excMatchK {M : Model} {A : Around} {E : Value → Shared → Prop} {s : Shared} {K : PySem.W.Frag} {ea C : Addr} {oe : Obj} {b : Bool} {Q : Bool → Shared → Prop} (KX : K.In s.heap) (he : s.heap.get? ea = some oe) (h1 : PySem.W.kitCls K oe.cls (.ref C) = some b) (h2 : PySem.W.subIn K (.ref C) (.type "BaseException") = some true) (q : Q b s) :
    wpAny M A (excMatches (.ref ea) (.ref C)) Q E s := by
  obtain ⟨l1, l2, l3⟩ := PySem.W.kit_cls (M := M) KX h1
  have l4 := PySem.W.looks_subIn (M := M) KX h2
  obtain ⟨hp, g, d, tk, os⟩ := s
  have lt : PySem.W.Looks M hp (isInstance (.ref C) (.type "tuple")) false := l1.andThen (.of_pure tc_notTuple)
  have lx : PySem.W.Looks M hp (isExcClass (.ref C)) true := fun A' Q' E' s' k z => by
    unfold isExcClass
    refine wpAny_bind (l2 A' _ E' s' k ?_)
    rw [if_pos rfl]
    exact l4 A' Q' E' s' k z
  have ly : PySem.W.Looks M hp (typeOf (.ref ea)) oe.cls := fun A' Q' E' s' k z => by
    unfold typeOf
    exact wpAny_bind (wpAny_loadPart (k _ _ he) (wpAny_pure z))
  unfold excMatches
  refine wpAny_bind (lt.here ?_)
  simp only [Bool.false_eq_true, if_false, pure_bind, List.forIn_cons, List.forIn_nil, bind_assoc]
  refine wpAny_bind (lx.here ?_)
  simp only [Bool.not_true, Bool.false_eq_true, if_false, pure_bind]
  refine wpAny_bind (ly.here ?_)
  refine wpAny_bind (l3.here ?_)
  cases b with
  | true => exact wpAny_pure q
  | false => exact wpAny_pure q
theorem isinst_true {prog : Program} {w : World} {A : Around} {E : Value → Shared → Prop} {s : Shared} {K : PySem.W.Frag} {ea : Addr} {oe : Obj} {c : Value} {Q : Value → Shared → Prop} (KX : K.In s.heap) (he : s.heap.get? ea = some oe) (e : PySem.W.kitOne K oe.cls c = some true) (h : Q (.bool true) s) :
    wpAny (model prog w) A (call (.builtin "isinstance") [.ref ea, c]) Q E s := by
  have ly : PySem.W.Looks (model prog w) s.heap (typeOf (.ref ea)) oe.cls := fun A' Q' E' s' k z => by
    unfold typeOf
    exact wpAny_bind (wpAny_loadPart (k _ _ he) (wpAny_pure z))
  refine PyProof.Rows.call_isinstance_of ?_ (by intro z; cases z)
  unfold PySem.W.kitOne at e
  unfold Builtin.«isinstance.nested»
  refine wpAny_bind (ly.here ?_)
  by_cases q : (oe.cls == c) = true
  · rw [if_pos q]
    first
      | exact wpAny_bind (wpAny_rule h)
      | exact wpAny_bind (wpAny_rule (wpAny_pure h))
      | exact wpAny_pure h
  · rw [if_neg q] at e
    rw [if_neg q]
    obtain ⟨hty, his, hsub⟩ := PySem.W.kit_cls (M := model prog w) KX e
    have LI : PySem.W.Looks (model prog w) s.heap (isInstance (.ref ea) c) true := ly.andThen hsub
    refine wpAny_bind (hty.here ?_)
    rw [if_pos (by decide)]
    k_delta "plainIsInstance"
    refine wpAny_bind (wpAny_bind (his.here ?_))
    simp only [Bool.not_true, Bool.false_eq_true, if_false]
    refine wpAny_bind (LI.here ?_)
    first
      | exact wpAny_pure (wpAny_pure h)
      | (simp only [if_true]; first | exact wpAny_pure (wpAny_pure h) | exact wpAny_pure h | exact wpAny_bind (wpAny_pure (wpAny_pure h)))
section
variable {X : Cx}
theorem call_isinstX : CallR X (.builtin "isinstance") (fun xs H Q => ∃ ea oe c, (xs = [.ref ea, .ref c] ∧ PySem.W.kitOne X.K oe.cls (.ref c) = some true ∨ ∃ n, xs = [.ref ea, .ty n] ∧ PySem.W.kitOne X.K oe.cls (.type n) = some true) ∧ (ea, oe) ∈ X.pn ∧ Q (.bl true) H) := by
  intro pins s σ H xs us Q I r h
  obtain ⟨ea, oe, c, hx, hp, q⟩ := h
  have he := (I.pin (ea, oe) (List.mem_append_left _ hp)).1
  rcases hx with ⟨rfl, e⟩ | ⟨n, rfl, e⟩
  · obtain ⟨u, u2, rfl, ru, ru2⟩ := vals2 r
    cases ru
    cases ru2
    exact isinst_true I.kIn he e ⟨.bl true, H, I, rfl, q⟩
  · obtain ⟨u, u2, rfl, ru, ru2⟩ := vals2 r
    cases ru
    cases ru2
    exact isinst_true I.kIn he e ⟨.bl true, H, I, rfl, q⟩
noncomputable def thCons (K : PySem.W.Frag) (C : Addr) (ts : Addr → Obj → TS) (tr : THs) : THs := fun D EX cls ea σ H => ∃ b, PySem.W.kitCls K cls (.ref C) = some b ∧ if b = true then ∀ oe, oe.cls = cls → ts ea oe D σ H else tr D EX cls ea σ H
theorem ph_cons {x : Str} {C : Addr} {np pos : Pos} {b₀ : Stmt} {suite : List Stmt} {rest : List ExceptHandler} {ts : Addr → Obj → TS} {tr : THs} (hg : Gl X x) (hm : X.mg x = some (.ref C)) (hB : PySem.W.subIn X.K (.ref C) (.type "BaseException") = some true) (hs : ∀ ea oe, PSs (L2.inH X ea oe) (b₀ :: suite) (ts ea oe)) (hr : PH X rest tr)
    (hd : (x == ("__debug__" : Str)) = false := by decide) : PH X (.ExceptHandler (some (.Name x np)) none (b₀ :: suite) pos :: rest) (thCons X.K C ts tr) := by
  intro pins s σ H D EX ea cls J h
  obtain ⟨b, hb, h⟩ := h
  obtain ⟨oe, he, hc, I⟩ := J.inH
  refine wpAny_handleBy_cons (codeAny_handlers_test (ld_glob I (show Gl (L2.inH X ea oe) x from hg) (show (L2.inH X ea oe).mg x = some (.ref C) from hm) ?_ hd)) (by intro z; cases z)
  refine excMatchK I.kIn he (by rw [hc]; exact hb) hB ?_
  cases b with
  | false => exact hr pins s σ H D EX ea cls J (by simpa using h)
  | true =>
    obtain ⟨B, t, fl, hn, go⟩ := J.slots
    refine codeAny_handlers_suite (lands_againW fl fun h6 fl6 up6 => ?_)
    have J6 := go h6 fl6 up6
    obtain ⟨oe6, he6, hc6, I6⟩ := J6.inH
    have h' : ∀ oe, oe.cls = cls → ts ea oe D σ H := by simpa using h
    exact wpAny_mono (hs ea oe6 pins _ σ H D I6 (h' oe6 hc6)) (fun f s2 q => q.outH J.inv.ok) fun _ _ z => z.elim
theorem Inv.unbound {pins : List (Addr × Obj)} {σ : St} {H : Hp} {s : Shared} {i : Nat} {n : Str} {u : Option Value} {h' : Heap} {m : Str → Option Value} (I : Inv X pins σ H s) (hN : X.N.Nodup) (hi : X.N[i]? = some n) (hx : X.env.kindOf n = some .local) (hn : s.heap.Ns X.env.locals m)
    (hl : ∀ (j : Nat) (x : Str) (v : V), X.N[j]? = some x → σ[j]? = some (some v) → Vis X.env.scope x → ∃ u, RelV v u ∧ Look X.env s.heap m x u)
    (hn' : h'.Ns X.env.locals (fun x => if x = n then u else m x)) (sb : Heap.SameBut X.env.locals s.heap h') : Inv X pins (σ.set i none) H { s with heap := h' } := by
  have iσ : i < σ.length := by rw [I.len]; exact (List.getElem?_eq_some_iff.mp hi).1
  have oth : ∀ b o, b ≠ X.env.locals → s.heap.get? b = some o → h'.get? b = some o := fun b o hb e => (sb.2 b hb).trans e
  have neL : ∀ b o, X.s₀.heap.get? b = some o → b ≠ X.env.locals := fun b o e => Nat.ne_of_lt (Nat.lt_of_lt_of_le (Heap.lt_size e) I.ok.above)
  refine ⟨I.ok, I.os, I.bare, ⟨fun b o q nn hb hx => oth b o (neL b o q) (I.base.keep b o q nn hb hx), fun b o q nn hb hx => ?_, I.base.free, fun b o q hx => ?_, I.base.tups, I.base.frzs, I.base.tbls⟩, ⟨_, hn', fun j x v e1 e2 e3 => ?_⟩, fun x c e => ?_, I.free, I.freeC, fun p hp => ?_, fun b w q => ?_, by rw [List.length_set]; exact I.len⟩
  · obtain ⟨sl, e1⟩ := I.base.slot b o q nn hb hx
    exact ⟨sl, oth b _ (neL b o q) e1⟩
  · obtain ⟨o', e1⟩ := I.base.there b o q hx
    exact ⟨o', oth b o' (neL b o q) e1⟩
  · by_cases hj : j = i
    · subst hj
      rw [List.getElem?_set_self iσ] at e2
      cases e2
    · rw [List.getElem?_set_ne (Ne.symm hj)] at e2
      obtain ⟨u', r, l⟩ := hl j x v e1 e2 e3
      have nx : x ≠ n := fun z => hj (nodup_ix hN e1 (z ▸ hi))
      refine ⟨u', r, ?_⟩
      rcases l with ⟨k, e⟩ | ⟨k, c, e, o, ho, hd⟩
      · exact .inl ⟨k, by simp [nx, e]⟩
      · exact .inr ⟨k, c, e, o, oth c o (I.cne x c e) ho, hd⟩
  · obtain ⟨v, o, ho, hd⟩ := I.cell x c e
    exact ⟨v, o, oth c o (I.cne x c e) ho, hd⟩
  · obtain ⟨e, z, ne, nf, d⟩ := I.pin p hp
    exact ⟨oth p.1 p.2 ne e, z, ne, nf, d⟩
  · refine (I.hok b w q).stay (fun c v hc z => oth c v ?_ z) (fun _ z => z) fun _ _ z => z
    intro z'
    rcases hc with r | r
    · rw [← r, z', I.free] at q
      cases q
    · rw [z', I.free] at r
      cases r
noncomputable def thAs (K : PySem.W.Frag) (C : Addr) (i : Nat) (ts : Addr → Obj → TS) (tr : THs) : THs := fun D EX cls ea σ H => ∃ b, PySem.W.kitCls K cls (.ref C) = some b ∧ if b = true then ∀ oe, oe.cls = cls → ts ea oe { nx := fun σ' H' => D.nx (σ'.set i none) H', rt := D.rt, bk := fun σ' H' => D.bk (σ'.set i none) H', ct := fun σ' H' => D.ct (σ'.set i none) H' } (σ.set i (some (.ref ea))) H else tr D EX cls ea σ H
theorem ph_as {x n : Str} {i : Nat} {C : Addr} {np pos : Pos} {b₀ : Stmt} {suite : List Stmt} {rest : List ExceptHandler} {ts : Addr → Obj → TS} {tr : THs} (hN : X.N.Nodup) (hi : X.N[i]? = some n) (hl : X.env.scope.names.lookup n = some .local) (hg : Gl X x) (hm : X.mg x = some (.ref C)) (hB : PySem.W.subIn X.K (.ref C) (.type "BaseException") = some true) (hs : ∀ ea oe, PSs (L2.inH X ea oe) (b₀ :: suite) (ts ea oe)) (hr : PH X rest tr)
    (hd : (x == ("__debug__" : Str)) = false := by decide) : PH X (.ExceptHandler (some (.Name x np)) (some n) (b₀ :: suite) pos :: rest) (thAs X.K C i ts tr) := by
  intro pins s σ H D EX ea cls J h
  obtain ⟨b, hb, h⟩ := h
  obtain ⟨oe, he, hc, I⟩ := J.inH
  refine wpAny_handleBy_cons (codeAny_handlers_test (ld_glob I (show Gl (L2.inH X ea oe) x from hg) (show (L2.inH X ea oe).mg x = some (.ref C) from hm) ?_ hd)) (by intro z; cases z)
  refine excMatchK I.kIn he (by rw [hc]; exact hb) hB ?_
  cases b with
  | false => exact hr pins s σ H D EX ea cls J (by simpa using h)
  | true =>
    obtain ⟨B, t, fl, hn, go⟩ := J.slots
    have h' : ∀ oe, oe.cls = cls → ts ea oe { nx := fun σ' H' => D.nx (σ'.set i none) H', rt := D.rt, bk := fun σ' H' => D.bk (σ'.set i none) H', ct := fun σ' H' => D.ct (σ'.set i none) H' } (σ.set i (some (.ref ea))) H := by simpa using h
    refine codeAny_handlers_suite_as (lands_againW fl fun h6 fl6 up6 => ?_)
    have J6 := go h6 fl6 up6
    obtain ⟨oe6, he6, hc6, I6⟩ := J6.inH
    refine store_ok (X := L2.inH X ea oe6) (v := .ref ea) I6 hN hi (Or.inl hl) rfl (fun s7 I7 => ?_) (Or.inr hl)
    refine wpAny_mono (hs ea oe6 pins s7 _ H _ I7 (h' oe6 hc6)) (fun f s8 q => ?_) fun _ _ z => z.elim
    -- the name is let go
    have letGo : ∀ {σ8 : St} {H8 : Hp} {R : Shared → Prop}, Inv (L2.inH X ea oe6) pins σ8 H8 s8 → (∀ s9, Inv X pins (σ8.set i none) H8 s9 → R s9) →
        wpAny (model X.prog X.w) X.A (do bindName X.env n .none; unbindBehindTheSuite X.env n pos) (fun _ s9 => R s9) (XP X pins EX) s8 := fun {σ8 H8 R} I8 k => by
      have I9 := I8.outH J.inv.ok
      refine wpAny_bind (wpAny_bindName (store_ok2 I9 hN hi (Or.inl hl) (v := .non) rfl (fun s9 I10 ⟨a, sb, ha⟩ => ?_) (Or.inr hl)))
      obtain ⟨m, ns, hlk⟩ := I10.loc
      have iσ : i < σ8.length := by rw [I9.len]; exact (List.getElem?_eq_some_iff.mp hi).1
      obtain ⟨u, ru, lk⟩ := hlk i n .non hi (List.getElem?_set_self iσ) (Or.inl hl)
      have hmn : m n = some u := by
        rcases lk with ⟨_, e⟩ | ⟨k', _⟩
        · exact e
        · exfalso
          rcases k' with z | z
          · have z' : X.env.scope.names.lookup n = some .cell := z
            rw [hl] at z'; cases z'
          · have z' : X.env.scope.names.lookup n = some .free := z
            rw [hl] at z'; cases z'
      unfold unbindBehindTheSuite
      refine wpAny_onRaise (wpAny_unbindName_local hl ns hmn (by rw [I10.ok.kind]; rfl) fun h11 u' ns' sb' => ?_)
      have I11 := I10.unbound hN hi hl ns hlk ns' sb'
      rw [List.set_set] at I11
      exact k _ I11
    cases f with
    | next =>
      obtain ⟨σ8, H8, I8, q8⟩ := q
      exact letGo I8 fun s9 I9 => ⟨_, H8, I9, q8⟩
    | brk =>
      obtain ⟨σ8, H8, I8, q8⟩ := q
      exact letGo I8 fun s9 I9 => ⟨_, H8, I9, q8⟩
    | cont =>
      obtain ⟨σ8, H8, I8, q8⟩ := q
      exact letGo I8 fun s9 I9 => ⟨_, H8, I9, q8⟩
    | ret v =>
      obtain ⟨x8, σ8, H8, I8, r8, q8⟩ := q
      exact letGo I8 fun s9 I9 => ⟨x8, _, H8, I9, r8, q8⟩
end
end L2
namespace L2
open PySem PySem.Spec PyProof.Rows
section
variable {X : Cx} {tg : Expr}
end
section
variable {X : Cx} {tg : Expr}
end
section
variable {X : Cx} {elts : List Expr} {kt : Nat} {tp p pos : Pos}
end
section
variable {X : Cx}
end
end L2
namespace MN
open PySem PySem.Spec L2
open PyProof.Rows hiding St
inductive Val where
  | non | bl (b : Bool) | int (i : Int) | str (x : Str) | tup (vs : List Val) | loc (n : Nat) | exc (c : Str) | fn (k : Nat) (caps : List Val) | mt (vs : List Val)
inductive Cell where
  | lst (vs : List Val) | fro (vs : List Val) | mod (vs : List Val) | dK (kvs : List (Key × Val)) | dT (kvs : List (List Key × Val))
noncomputable abbrev Store := List Cell
noncomputable abbrev Env := List (Option Val)
inductive Res (α : Type) where
  | ok (a : α) (st : Store) | err (c : Str) (st : Store) | bad
inductive SRes where
  | nx (μ : Env) (st : Store) | rt (v : Val) (st : Store) | bk (μ : Env) (st : Store) | ct (μ : Env) (st : Store) | er (c : Str) (μ : Env) (st : Store) | bad
@[reducible] def Res.bind {α β : Type} (r : Res α) (k : α → Store → Res β) : Res β := match r with
  | .ok a st => k a st
  | .err c st => .err c st
  | .bad => .bad
structure Wo where
  K : PySem.W.Frag
  mg : Str → Option Value
  pn : List (Addr × Obj)
noncomputable abbrev wo (X : Cx) : Wo := ⟨X.K, X.mg, X.pn⟩
mutual
noncomputable def Rl (K : PySem.W.Frag) (ρ : List Addr) (H : Hp) : Val → V → Prop
  | .non, v => v = .non
  | .bl b, v => v = .bl b
  | .int i, v => v = .int i
  | .str x, v => v = .str x
  | .tup us, v => ∃ a vs, v = .ref a ∧ H a = some (.tup vs) ∧ Rls K ρ H us vs
  | .mt us, v => ∃ a vs, v = .ref a ∧ SqT K H a vs ∧ Rls K ρ H us vs
  | .loc n, v => ∃ a, v = .ref a ∧ ρ[n]? = some a
  | .exc _, _ => False
  | .fn _ _, _ => False
noncomputable def Rls (K : PySem.W.Frag) (ρ : List Addr) (H : Hp) : List Val → List V → Prop
  | [], vs => vs = []
  | u :: us, vs => ∃ v r, vs = v :: r ∧ Rl K ρ H u v ∧ Rls K ρ H us r
end
structure Step (ρ : List Addr) (H : Hp) (ρ' : List Addr) (H' : Hp) : Prop where
  pre : ρ <+: ρ'
  tup : ∀ b xs, H b = some (.tup xs) → H' b = some (.tup xs)
  frz : ∀ b o u, H b = some (.frz o u) → H' b = some (.frz o u)
theorem Step.refl (ρ : List Addr) (H : Hp) : Step ρ H ρ H := ⟨List.prefix_refl ρ, fun _ _ h => h, fun _ _ _ h => h⟩
theorem Step.trans {ρ ρ1 ρ2 : List Addr} {H H1 H2 : Hp} (a : Step ρ H ρ1 H1) (b : Step ρ1 H1 ρ2 H2) : Step ρ H ρ2 H2 :=
  ⟨a.pre.trans b.pre, fun _ _ h => b.tup _ _ (a.tup _ _ h), fun _ _ _ h => b.frz _ _ _ (a.frz _ _ _ h)⟩
theorem Step.same {ρ : List Addr} {H H' : Hp} (e : Same H H') : Step ρ H ρ H' := ⟨List.prefix_refl ρ, fun _ _ h => e _ _ h, fun _ _ _ h => e _ _ h⟩
theorem Step.snoc {ρ : List Addr} {H H' : Hp} (p : Addr) (e : Same H H') : Step ρ H (ρ ++ [p]) H' := ⟨List.prefix_append ρ [p], fun _ _ h => e _ _ h, fun _ _ _ h => e _ _ h⟩
theorem Step.at_ {ρ ρ' : List Addr} {H H' : Hp} (e : Step ρ H ρ' H') {n : Nat} {a : Addr} (h : ρ[n]? = some a) : ρ'[n]? = some a := by
  obtain ⟨t, rfl⟩ := e.pre
  have hl : n < ρ.length := by
    rcases Nat.lt_or_ge n ρ.length with q | q
    · exact q
    · rw [List.getElem?_eq_none q] at h; cases h
  rw [List.getElem?_append_left hl, h]
theorem Step.sqT {K : PySem.W.Frag} {ρ ρ' : List Addr} {H H' : Hp} (e : Step ρ H ρ' H') {a : Addr} {xs : List V} (h : SqT K H a xs) : SqT K H' a xs := by
  rcases h with (h | ⟨o, h⟩) | h
  · exact .inl (.inl (e.tup _ _ h))
  · exact .inl (.inr ⟨o, e.frz _ _ _ h⟩)
  · exact .inr h
mutual
theorem Rl.mono {K : PySem.W.Frag} {ρ ρ' : List Addr} {H H' : Hp} (e : Step ρ H ρ' H') : ∀ (u : Val) (v : V), Rl K ρ H u v → Rl K ρ' H' u v
  | .non, _, h => h
  | .bl _, _, h => h
  | .int _, _, h => h
  | .str _, _, h => h
  | .tup us, v, h => by
    unfold Rl at h ⊢
    obtain ⟨a, vs, h1, h2, h3⟩ := h
    exact ⟨a, vs, h1, e.tup _ _ h2, Rls.mono e us vs h3⟩
  | .mt us, v, h => by
    unfold Rl at h ⊢
    obtain ⟨a, vs, h1, h2, h3⟩ := h
    exact ⟨a, vs, h1, e.sqT h2, Rls.mono e us vs h3⟩
  | .loc n, v, h => by
    unfold Rl at h ⊢
    obtain ⟨a, h1, h2⟩ := h
    exact ⟨a, h1, e.at_ h2⟩
  | .exc c, v, h => h
  | .fn _ _, _, h => h
theorem Rls.mono {K : PySem.W.Frag} {ρ ρ' : List Addr} {H H' : Hp} (e : Step ρ H ρ' H') : ∀ (us : List Val) (vs : List V), Rls K ρ H us vs → Rls K ρ' H' us vs
  | [], _, h => h
  | u :: us, vs, h => by
    unfold Rls at h ⊢
    obtain ⟨v, r, h1, h2, h3⟩ := h
    exact ⟨v, r, h1, Rl.mono e u v h2, Rls.mono e us r h3⟩
end
section
variable {K : PySem.W.Frag} {ρ ρ' : List Addr} {H H' : Hp}
theorem Rls.nil : Rls K ρ H [] [] := by unfold Rls; rfl
theorem Rls.cons {u : Val} {us : List Val} {v : V} {vs : List V} (h : Rl K ρ H u v) (hs : Rls K ρ H us vs) : Rls K ρ H (u :: us) (v :: vs) := by
  unfold Rls; exact ⟨v, vs, rfl, h, hs⟩
theorem Rls.uncons {u : Val} {us : List Val} {vs : List V} (h : Rls K ρ H (u :: us) vs) : ∃ v r, vs = v :: r ∧ Rl K ρ H u v ∧ Rls K ρ H us r := by
  unfold Rls at h; exact h
theorem Rls.unnil {vs : List V} (h : Rls K ρ H [] vs) : vs = [] := by unfold Rls at h; exact h
theorem Rls.length : ∀ {us : List Val} {vs : List V}, Rls K ρ H us vs → us.length = vs.length
  | [], vs, h => by rw [h.unnil]; rfl
  | u :: us, vs, h => by
    obtain ⟨v, r, rfl, _, h3⟩ := h.uncons
    rw [List.length_cons, List.length_cons, h3.length]
theorem Rls.get : ∀ {us : List Val} {vs : List V} {i : Nat} {u : Val}, Rls K ρ H us vs → us[i]? = some u → ∃ v, vs[i]? = some v ∧ Rl K ρ H u v
  | [], _, _, _, _, e => by cases e
  | w :: us, vs, 0, u, h, e => by
    obtain ⟨v, r, rfl, h2, _⟩ := h.uncons
    cases e
    exact ⟨v, rfl, h2⟩
  | w :: us, vs, i + 1, u, h, e => by
    obtain ⟨v, r, rfl, _, h3⟩ := h.uncons
    exact Rls.get (i := i) h3 e
theorem Rls.append : ∀ {us ws : List Val} {vs xs : List V}, Rls K ρ H us vs → Rls K ρ H ws xs → Rls K ρ H (us ++ ws) (vs ++ xs)
  | [], _, vs, _, h, k => by rw [h.unnil]; exact k
  | u :: us, ws, vs, xs, h, k => by
    obtain ⟨v, r, rfl, h2, h3⟩ := h.uncons
    exact Rls.cons h2 (h3.append k)
theorem Rls.drop : ∀ (n : Nat) {us : List Val} {vs : List V}, Rls K ρ H us vs → Rls K ρ H (us.drop n) (vs.drop n)
  | 0, _, _, h => h
  | _ + 1, [], vs, h => by rw [h.unnil]; exact Rls.nil
  | n + 1, u :: us, vs, h => by
    obtain ⟨v, r, rfl, h2, h3⟩ := h.uncons
    exact Rls.drop n h3
theorem Rls.take : ∀ (n : Nat) {us : List Val} {vs : List V}, Rls K ρ H us vs → Rls K ρ H (us.take n) (vs.take n)
  | 0, _, _, _ => Rls.nil
  | _ + 1, [], vs, h => by rw [h.unnil]; exact Rls.nil
  | n + 1, u :: us, vs, h => by
    obtain ⟨v, r, rfl, h2, h3⟩ := h.uncons
    exact Rls.cons h2 (Rls.take n h3)
theorem Rls.one {u : Val} {v : V} (h : Rl K ρ H u v) : Rls K ρ H [u] [v] := Rls.cons h Rls.nil
theorem Rls.un1 {u : Val} {vs : List V} (h : Rls K ρ H [u] vs) : ∃ v, vs = [v] ∧ Rl K ρ H u v := by
  obtain ⟨v, r, rfl, h2, h3⟩ := h.uncons
  rw [h3.unnil]
  exact ⟨v, rfl, h2⟩
theorem Rls.un2 {u w : Val} {vs : List V} (h : Rls K ρ H [u, w] vs) : ∃ v x, vs = [v, x] ∧ Rl K ρ H u v ∧ Rl K ρ H w x := by
  obtain ⟨v, r, rfl, h2, h3⟩ := h.uncons
  obtain ⟨x, rfl, h4⟩ := h3.un1
  exact ⟨v, x, rfl, h2, h4⟩
theorem Rls.ints : ∀ (ns : List Int), Rls K ρ H (ns.map Val.int) (ns.map V.int)
  | [] => Rls.nil
  | n :: ns => Rls.cons (by unfold Rl; rfl) (Rls.ints ns)
theorem Rl.int_ {i : Int} {v : V} (h : Rl K ρ H (.int i) v) : v = .int i := by unfold Rl at h; exact h
theorem Rl.bl_ {b : Bool} {v : V} (h : Rl K ρ H (.bl b) v) : v = .bl b := by unfold Rl at h; exact h
theorem Rl.str_ {x : Str} {v : V} (h : Rl K ρ H (.str x) v) : v = .str x := by unfold Rl at h; exact h
theorem Rl.non_ {v : V} (h : Rl K ρ H .non v) : v = .non := by unfold Rl at h; exact h
theorem Rl.tupH {us : List Val} {v : V} (h : Rl K ρ H (.tup us) v) : ∃ a vs, v = .ref a ∧ H a = some (.tup vs) ∧ Rls K ρ H us vs := by unfold Rl at h; exact h
theorem Rl.tup_ {us : List Val} {v : V} (h : Rl K ρ H (.tup us) v) : ∃ a vs, v = .ref a ∧ SqT K H a vs ∧ Rls K ρ H us vs := let ⟨a, vs, h1, h2, h3⟩ := h.tupH; ⟨a, vs, h1, SqT.of h2, h3⟩
theorem Rl.mt_ {us : List Val} {v : V} (h : Rl K ρ H (.mt us) v) : ∃ a vs, v = .ref a ∧ SqT K H a vs ∧ Rls K ρ H us vs := by unfold Rl at h; exact h
theorem Rl.mkMt {us : List Val} {a : Addr} {vs : List V} (h : SqT K H a vs) (r : Rls K ρ H us vs) : Rl K ρ H (.mt us) (.ref a) := by unfold Rl; exact ⟨a, vs, rfl, h, r⟩
theorem Rl.loc_ {n : Nat} {v : V} (h : Rl K ρ H (.loc n) v) : ∃ a, v = .ref a ∧ ρ[n]? = some a := by unfold Rl at h; exact h
theorem Rl.mkInt (i : Int) : Rl K ρ H (.int i) (.int i) := by unfold Rl; rfl
theorem Rl.mkBl (b : Bool) : Rl K ρ H (.bl b) (.bl b) := by unfold Rl; rfl
theorem Rl.mkStr (x : Str) : Rl K ρ H (.str x) (.str x) := by unfold Rl; rfl
theorem Rl.mkNon : Rl K ρ H .non .non := by unfold Rl; rfl
theorem Rl.mkTup {us : List Val} {a : Addr} {vs : List V} (h : H a = some (.tup vs)) (r : Rls K ρ H us vs) : Rl K ρ H (.tup us) (.ref a) := by unfold Rl; exact ⟨a, vs, rfl, h, r⟩
theorem Rl.mkLoc {n : Nat} {a : Addr} (h : ρ[n]? = some a) : Rl K ρ H (.loc n) (.ref a) := by unfold Rl; exact ⟨a, rfl, h⟩
end
noncomputable def Prs {κ : Type} (K : PySem.W.Frag) (ρ : List Addr) (H : Hp) (kvs : List (κ × Val)) (kvs' : List (κ × V)) : Prop := kvs.map (·.1) = kvs'.map (·.1) ∧ Rls K ρ H (kvs.map (·.2)) (kvs'.map (·.2))
noncomputable def isMod : Option Cell → Bool
  | some (.mod _) => true
  | _ => false
noncomputable def ModL (K : PySem.W.Frag) (a : Addr) (vs : List V) : Prop := ∃ (o : Obj) (its : Array Value) (n : Nat), K.lookup a = some o ∧ o.cls = .type "list" ∧ o.dict = none ∧ o.data = .seq its n ∧ its.size ≤ sizeLine ∧ Vals vs its.toList
noncomputable def CellR (K : PySem.W.Frag) (ρ : List Addr) (H : Hp) : Cell → Addr → Prop
  | .lst us, a => ∃ vs, H a = some (.lst vs) ∧ Rls K ρ H us vs
  | .fro us, a => ∃ o vs, H a = some (.frz o (.lst vs)) ∧ Rls K ρ H us vs
  | .mod us, a => ∃ vs, ModL K a vs ∧ Rls K ρ H us vs
  | .dK kvs, a => ∃ kvs', H a = some (.dK kvs') ∧ Prs K ρ H kvs kvs'
  | .dT kvs, a => ∃ kvs', H a = some (.dT kvs') ∧ Prs K ρ H kvs kvs'
structure SR (K : PySem.W.Frag) (ρ : List Addr) (st : Store) (H : Hp) : Prop where
  len : ρ.length = st.length
  nd : ∀ (n m : Nat) a, ρ[n]? = some a → ρ[m]? = some a → isMod st[n]? = false → isMod st[m]? = false → n = m
  cell : ∀ (n : Nat) c a, st[n]? = some c → ρ[n]? = some a → CellR K ρ H c a
theorem getL_lt {α : Type} {l : List α} {n : Nat} {x : α} (h : l[n]? = some x) : n < l.length := by
  rcases Nat.lt_or_ge n l.length with q | q
  · exact q
  · rw [List.getElem?_eq_none q] at h; cases h
section
variable {K : PySem.W.Frag} {ρ ρ' : List Addr} {H H' : Hp} {st : Store}
theorem CellR.there {c : Cell} {a : Addr} (h : CellR K ρ H c a) (hn : isMod (some c) = false) : ∃ o, H a = some o ∧ ∀ xs, o ≠ .tup xs := by
  cases c with
  | lst us => obtain ⟨vs, h, _⟩ := h; exact ⟨_, h, fun xs e => by cases e⟩
  | fro us => obtain ⟨o, vs, h, _⟩ := h; exact ⟨_, h, fun xs e => by cases e⟩
  | mod us => cases hn
  | dK kvs => obtain ⟨vs, h, _⟩ := h; exact ⟨_, h, fun xs e => by cases e⟩
  | dT kvs => obtain ⟨vs, h, _⟩ := h; exact ⟨_, h, fun xs e => by cases e⟩
theorem CellR.mono {c : Cell} {a : Addr} (h : CellR K ρ H c a) (e : Step ρ H ρ' H') (ha : isMod (some c) = true ∨ H' a = H a) : CellR K ρ' H' c a := by
  cases c with
  | mod us => obtain ⟨vs, h, r⟩ := h; exact ⟨vs, h, Rls.mono e _ _ r⟩
  | lst us => rcases ha with ha | ha <;> first | cases ha; done | (obtain ⟨vs, h, r⟩ := h; exact ⟨vs, ha.trans h, Rls.mono e _ _ r⟩)
  | fro us => rcases ha with ha | ha <;> first | cases ha; done | (obtain ⟨o, vs, h, r⟩ := h; exact ⟨o, vs, ha.trans h, Rls.mono e _ _ r⟩)
  | dK kvs => rcases ha with ha | ha <;> first | cases ha; done | (obtain ⟨vs, h, r⟩ := h; exact ⟨vs, ha.trans h, r.1, Rls.mono e _ _ r.2⟩)
  | dT kvs => rcases ha with ha | ha <;> first | cases ha; done | (obtain ⟨vs, h, r⟩ := h; exact ⟨vs, ha.trans h, r.1, Rls.mono e _ _ r.2⟩)
theorem CellR.grow {c : Cell} {a : Addr} (h : CellR K ρ H c a) (e : Step ρ H ρ' H') (s : Same H H') : CellR K ρ' H' c a := by
  cases z : isMod (some c) with
  | true => exact h.mono e (.inl z)
  | false =>
    obtain ⟨o, ho, _⟩ := h.there z
    exact h.mono e (.inr (by rw [ho]; exact s _ _ ho))
theorem SR.there (s : SR K ρ st H) {n : Nat} {a : Addr} (h : ρ[n]? = some a) : ∃ c, st[n]? = some c ∧ CellR K ρ H c a := by
  have hn := getL_lt h
  have hn' : n < st.length := by rw [← s.len]; exact hn
  exact ⟨st[n], List.getElem?_eq_getElem hn', s.cell n _ a (List.getElem?_eq_getElem hn') h⟩
theorem SR.grow (s : SR K ρ st H) (e : Same H H') : SR K ρ st H' :=
  ⟨s.len, s.nd, fun n c a h1 h2 => (s.cell n c a h1 h2).grow (Step.same e) e⟩
theorem SR.notin (s : SR K ρ st H) {p : Addr} (hp : H p = none) {n : Nat} (h : ρ[n]? = some p) (hm : isMod st[n]? = false) : False := by
  obtain ⟨c, hc, k⟩ := s.there h
  rw [hc] at hm
  obtain ⟨o, ho, _⟩ := k.there hm
  rw [hp] at ho
  cases ho
theorem same_upd {p : Addr} {o : HO} (hp : H p = none) : Same H (upd H p o) := Same.upd (Same.refl H) hp
theorem SR.alloc (s : SR K ρ st H) {p : Addr} {o : HO} {c : Cell} (hp : H p = none) (k : CellR K (ρ ++ [p]) (upd H p o) c p) : SR K (ρ ++ [p]) (st ++ [c]) (upd H p o) := by
  have e : Same H (upd H p o) := same_upd hp
  have at_ : ∀ (n : Nat) (a : Addr), (ρ ++ [p])[n]? = some a → (n < st.length ∧ ρ[n]? = some a ∧ (st ++ [c])[n]? = st[n]?) ∨ (n = st.length ∧ a = p ∧ (st ++ [c])[n]? = some c) := by
    intro n a h
    rcases Nat.lt_trichotomy n st.length with q | q | q
    · rw [List.getElem?_append_left (by rw [s.len]; exact q)] at h
      exact .inl ⟨q, h, List.getElem?_append_left q⟩
    · subst q
      rw [List.getElem?_append_right (by rw [s.len]; exact Nat.le_refl _), s.len, Nat.sub_self] at h
      cases h
      refine .inr ⟨rfl, rfl, ?_⟩
      rw [List.getElem?_append_right (Nat.le_refl _), Nat.sub_self]; rfl
    · rw [List.getElem?_eq_none (by rw [List.length_append, List.length_singleton, s.len]; omega)] at h
      cases h
  refine ⟨by rw [List.length_append, List.length_append, s.len]; rfl, fun n m a h1 h2 m1 m2 => ?_, fun n c' a h1 h2 => ?_⟩
  · rcases at_ n a h1 with ⟨q1, q2, q3⟩ | ⟨q1, q2, q3⟩ <;> rcases at_ m a h2 with ⟨r1, r2, r3⟩ | ⟨r1, r2, r3⟩
    · rw [q3] at m1; rw [r3] at m2; exact s.nd n m a q2 r2 m1 m2
    · subst r2; rw [q3] at m1; exact (s.notin hp q2 m1).elim
    · subst q2; rw [r3] at m2; exact (s.notin hp r2 m2).elim
    · rw [q1, r1]
  · rcases at_ n a h2 with ⟨q1, q2, q3⟩ | ⟨q1, q2, q3⟩
    · rw [q3] at h1
      exact (s.cell n c' a h1 q2).grow (Step.snoc p e) e
    · rw [q3] at h1
      cases h1
      subst q2
      exact k
theorem Step.put {a : Addr} {o o' : HO} (h : H a = some o) (h1 : ∀ xs, o ≠ .tup xs) (h2 : ∀ x u, o ≠ .frz x u) : Step ρ H ρ (upd H a o') := by
  refine ⟨List.prefix_refl ρ, fun b xs e => ?_, fun b x u e => ?_⟩
  · rw [upd_ne (fun z => ?_)]
    · exact e
    · subst z; rw [h] at e; exact h1 _ (Option.some.inj e)
  · rw [upd_ne (fun z => ?_)]
    · exact e
    · subst z; rw [h] at e; exact h2 _ _ (Option.some.inj e)
theorem SR.set (s : SR K ρ st H) {n : Nat} {a : Addr} {o o' : HO} {c c' : Cell} (h : st[n]? = some c) (hc : isMod (some c) = false) (hc' : isMod (some c') = false) (ha : ρ[n]? = some a) (ho : H a = some o) (h1 : ∀ xs, o ≠ .tup xs) (h2 : ∀ x u, o ≠ .frz x u)
    (k : CellR K ρ (upd H a o') c' a) : SR K ρ (st.set n c') (upd H a o') := by
  have hn : n < st.length := getL_lt h
  have at_ : ∀ (m : Nat), isMod (st.set n c')[m]? = isMod st[m]? := fun m => by
    by_cases z : m = n
    · subst z; rw [List.getElem?_set_self hn, h, hc, hc']
    · rw [List.getElem?_set_ne (fun y => z y.symm)]
  refine ⟨by rw [List.length_set]; exact s.len, fun i m b q1 q2 m1 m2 => s.nd i m b q1 q2 (by rw [← at_]; exact m1) (by rw [← at_]; exact m2), fun m d b q1 q2 => ?_⟩
  by_cases z : m = n
  · subst z
    rw [ha] at q2
    cases q2
    rw [List.getElem?_set_self hn] at q1
    cases q1
    exact k
  · rw [List.getElem?_set_ne (fun y => z y.symm)] at q1
    have kb := s.cell m d b q1 q2
    cases zm : isMod (some d) with
    | true => exact kb.mono (Step.put ho h1 h2) (.inl zm)
    | false =>
      have hb : b ≠ a := fun y => z (s.nd m n a (by rw [← y]; exact q2) ha (by rw [q1]; exact zm) (by rw [h]; exact hc))
      exact kb.mono (Step.put ho h1 h2) (.inr (upd_ne hb))
end
noncomputable def RlE (W : Wo) (ρ : List Addr) (H : Hp) (u : Val) (v : V) : Prop := match u with
  | .exc c => ∃ a oe C, v = .ref a ∧ (a, oe) ∈ W.pn ∧ W.mg c = some (.ref C) ∧ oe.cls = .ref C
  | u => Rl W.K ρ H u v
theorem RlE.mono {W : Wo} {ρ ρ' : List Addr} {H H' : Hp} {u : Val} {v : V} (h : RlE W ρ H u v) (e : Step ρ H ρ' H') : RlE W ρ' H' u v := by
  cases u with
  | exc c => exact h
  | _ => exact Rl.mono e _ _ h
theorem RlE.of {W : Wo} {ρ : List Addr} {H : Hp} {u : Val} {v : V} (h : Rl W.K ρ H u v) : RlE W ρ H u v := by
  cases u with
  | exc c => unfold Rl at h; exact h.elim
  | _ => exact h
structure RS (W : Wo) (ρ : List Addr) (H : Hp) (μ : Env) (σ : St) : Prop where
  len : μ.length = σ.length
  at_ : ∀ (i : Nat) u, μ[i]? = some (some u) → ∃ v, σ[i]? = some (some v) ∧ RlE W ρ H u v
section
variable {W : Wo} {ρ ρ' : List Addr} {H H' : Hp} {μ : Env} {σ : St}
theorem RS.mono (r : RS W ρ H μ σ) (e : Step ρ H ρ' H') : RS W ρ' H' μ σ := ⟨r.len, fun i u h => let ⟨v, h1, h2⟩ := r.at_ i u h; ⟨v, h1, h2.mono e⟩⟩
theorem RS.setE (r : RS W ρ H μ σ) (i : Nat) {u : Val} {v : V} (h : RlE W ρ H u v) : RS W ρ H (μ.set i (some u)) (σ.set i (some v)) := by
  refine ⟨by rw [List.length_set, List.length_set]; exact r.len, fun j w e => ?_⟩
  by_cases z : j = i
  · subst z
    have hj := getL_lt e
    rw [List.length_set] at hj
    rw [List.getElem?_set_self hj] at e
    cases e
    exact ⟨v, List.getElem?_set_self (by rw [← r.len]; exact hj), h⟩
  · rw [List.getElem?_set_ne (fun y => z y.symm)] at e ⊢
    exact r.at_ j w e
theorem RS.set (r : RS W ρ H μ σ) (i : Nat) {u : Val} {v : V} (h : Rl W.K ρ H u v) : RS W ρ H (μ.set i (some u)) (σ.set i (some v)) := r.setE i (RlE.of h)
end
end MN
namespace MN
open PySem PySem.Spec L2
open PyProof.Rows hiding St
noncomputable abbrev ME := Env → Store → Res Val
noncomputable abbrev MT := Env → Store → Res Bool
noncomputable abbrev MA := Env → Store → Res (List Val)
noncomputable abbrev MB := Env → Store → SRes
noncomputable def wR {α β : Type} (W : Wo) (E : XK) (R : List Addr → Hp → α → β → Prop) (ρ : List Addr) (H : Hp) (Q : β → Hp → Prop) : Res α → Prop
  | .ok u st' => ∀ ρ' H' v, Step ρ H ρ' H' → SR W.K ρ' st' H' → R ρ' H' u v → Q v H'
  | .err c st' => ∃ C, W.mg c = some (.ref C) ∧ ∀ ρ' H', Step ρ H ρ' H' → SR W.K ρ' st' H' → E (.ref C) none H'
  | .bad => False
theorem wR.mono {α β : Type} {W : Wo} {E : XK} {R : List Addr → Hp → α → β → Prop} {ρ ρ' : List Addr} {H H' : Hp} {Q : β → Hp → Prop} {r : Res α} (h : wR W E R ρ H Q r) (e : Step ρ H ρ' H') : wR W E R ρ' H' Q r := by
  cases r with
  | ok u st => exact fun ρ2 H2 v e2 s r => h ρ2 H2 v (e.trans e2) s r
  | err c st => obtain ⟨C, h1, h2⟩ := h; exact ⟨C, h1, fun ρ2 H2 e2 s => h2 ρ2 H2 (e.trans e2) s⟩
  | bad => exact h
theorem wR.pn {α β : Type} {K : PySem.W.Frag} {mg : Str → Option Value} {pn pn' : List (Addr × Obj)} {E : XK} {R : List Addr → Hp → α → β → Prop} {ρ : List Addr} {H : Hp} {Q : β → Hp → Prop} {r : Res α} (h : wR ⟨K, mg, pn⟩ E R ρ H Q r) : wR ⟨K, mg, pn'⟩ E R ρ H Q r := by
  cases r <;> exact h
noncomputable def tG {α β : Type} (W : Wo) (E : XK) (R : List Addr → Hp → α → β → Prop) (m : Env → Store → Res α) : St → Hp → (β → Hp → Prop) → Prop :=
  fun σ H Q => ∃ μ ρ st, RS W ρ H μ σ ∧ SR W.K ρ st H ∧ wR W E R ρ H Q (m μ st)
noncomputable abbrev RB : List Addr → Hp → Bool → Bool → Prop := fun _ _ b c => c = b
noncomputable abbrev tE (X : Cx) (E : XK) (m : ME) : TE := tG (wo X) E (Rl X.K) m
noncomputable abbrev tT (X : Cx) (E : XK) (m : MT) : TT := tG (wo X) E RB m
noncomputable abbrev tL (X : Cx) (E : XK) (m : MA) : TA := tG (wo X) E (Rls X.K) m
theorem go {α β γ δ : Type} {W : Wo} {E : XK} {R1 : List Addr → Hp → α → β → Prop} {R2 : List Addr → Hp → γ → δ → Prop} {m : Env → Store → Res α} {k : α → Store → Res γ} {σ : St} {H : Hp} {Q : δ → Hp → Prop} {Q' : β → Hp → Prop}
    (μ : Env) (ρ : List Addr) (st : Store) (rs : RS W ρ H μ σ) (sr : SR W.K ρ st H) (h : wR W E R2 ρ H Q ((m μ st).bind k))
    (c : ∀ u st1 ρ1 H1 x, Step ρ H ρ1 H1 → SR W.K ρ1 st1 H1 → R1 ρ1 H1 u x → wR W E R2 ρ1 H1 Q (k u st1) → Q' x H1) : tG W E R1 m σ H Q' := by
  refine ⟨μ, ρ, st, rs, sr, ?_⟩
  cases e : m μ st with
  | ok u st1 =>
    rw [e] at h
    intro ρ1 H1 x e1 sr1 r1
    exact c u st1 ρ1 H1 x e1 sr1 r1 (wR.mono h e1)
  | err c st1 => rw [e] at h; exact h
  | bad => rw [e] at h; exact h
section
variable {X : Cx}
theorem PE.imp {e : Expr} {t t' : TE} (h : PE X e t) (k : ∀ σ H Q, t' σ H Q → t σ H Q) : PE X e t' := fun pins s σ H Q I q => h pins s σ H Q I (k σ H Q q)
theorem PT.imp {e : Expr} {t t' : TT} (h : PT X e t) (k : ∀ σ H Q, t' σ H Q → t σ H Q) : PT X e t' := fun pins s σ H Q I q => h pins s σ H Q I (k σ H Q q)
theorem PW.imp {e : Expr} {t t' : TT} (h : PW X e t) (k : ∀ σ H Q, t' σ H Q → t σ H Q) : PW X e t' := fun w pins s σ H Q I q => h w pins s σ H Q I (k σ H Q q)
theorem PA.imp {e : List Expr} {t t' : TA} (h : PA X e t) (k : ∀ σ H Q, t' σ H Q → t σ H Q) : PA X e t' := fun p pins s σ H Q I q => h p pins s σ H Q I (k σ H Q q)
theorem PS.imp {e : Stmt} {t t' : TS} (h : PS X e t) (k : ∀ D σ H, t' D σ H → t D σ H) : PS X e t' := fun pins s σ H D I q => h pins s σ H D I (k D σ H q)
theorem PSs.imp {e : List Stmt} {t t' : TS} (h : PSs X e t) (k : ∀ D σ H, t' D σ H → t D σ H) : PSs X e t' := fun pins s σ H D I q => h pins s σ H D I (k D σ H q)
theorem PG.imp {e : Expr} {t t' : TG} (h : PG X e t) (k : ∀ v σ H Q, t' v σ H Q → t v σ H Q) : PG X e t' := fun pins s σ H v u Q I r q => h pins s σ H v u Q I r (k v σ H Q q)
theorem OpR.imp {f : Value → Value → Sem Value} {t t' : R2} (h : OpR X f t) (k : ∀ x y H Q, t' x y H Q → t x y H Q) : OpR X f t' := fun pins s σ H x y v u Q I rx ry q => h pins s σ H x y v u Q I rx ry (k x y H Q q)
theorem CallR.imp {f : Value} {t t' : List V → Hp → VK → Prop} (h : CallR X f t) (k : ∀ xs H Q, t' xs H Q → t xs H Q) : CallR X f t' := fun pins s σ H xs us Q I r q => h pins s σ H xs us Q I r (k xs H Q q)
theorem IxR.imp {t t' : R2} (h : IxR X t) (k : ∀ x y H Q, t' x y H Q → t x y H Q) : IxR X t' := fun va sl pins s σ H x y v u Q I rx ry q e => h va sl pins s σ H x y v u Q I rx ry (k x y H Q q) e
end
noncomputable def isX : Val → Bool
  | .exc _ => true
  | _ => false
noncomputable def mVar (i : Nat) : ME := fun μ st => match μ[i]? with
  | some (some v) => if isX v = true then .bad else .ok v st
  | _ => .bad
theorem RlE.un {W : Wo} {ρ : List Addr} {H : Hp} {u : Val} {v : V} (h : RlE W ρ H u v) (n : ¬ isX u = true) : Rl W.K ρ H u v := by
  cases u with
  | exc c => exact absurd rfl n
  | _ => exact h
noncomputable def mC (v : Val) : ME := fun _ st => .ok v st
section
variable {X : Cx} {E : XK} {pos : Pos}
theorem me_var (i : Nat) {x : Str} (hN : X.N[i]? = some x := by rfl) (hv : Vis X.env.scope x := by first | exact Or.inl rfl | exact Or.inr (Or.inl rfl) | exact Or.inr (Or.inr rfl)) (hd : (x == ("__debug__" : Str)) = false := by decide)
    (hcd : (x == ("__classdict__" : Str)) = false := by decide) : PE X (.Name x pos) (tE X E (mVar i)) := by
  refine PE.imp (pe_var hN hv hd hcd) ?_
  rintro σ H Q ⟨μ, ρ, st, rs, sr, h⟩
  unfold mVar at h
  split at h
  · rename_i v e
    obtain ⟨w, e', r⟩ := rs.at_ i v e
    split at h
    · exact h.elim
    · rename_i n
      exact ⟨w, e', h ρ H w (Step.refl _ _) sr (r.un n)⟩
  · exact h.elim
theorem me_of {e : Expr} {v : V} {c : Val} (h : PE X e (tC v)) (r : ∀ ρ H, Rl X.K ρ H c v) : PE X e (tE X E (mC c)) := by
  refine PE.imp h ?_
  rintro σ H Q ⟨μ, ρ, st, rs, sr, h⟩
  exact h ρ H v (Step.refl _ _) sr (r ρ H)
theorem me_int {i j} : PE X (.Constant (.int i) j pos) (tE X E (mC (.int i))) := me_of pe_int fun _ _ => Rl.mkInt i
theorem me_bl {b j} : PE X (.Constant (.bool b) j pos) (tE X E (mC (.bl b))) := me_of pe_bl fun _ _ => Rl.mkBl b
theorem me_non {j} : PE X (.Constant .none j pos) (tE X E (mC .non)) := me_of pe_non fun _ _ => Rl.mkNon
theorem me_str {x j} : PE X (.Constant (.str x) j pos) (tE X E (mC (.str x))) := me_of pe_str fun _ _ => Rl.mkStr x
structure Glob (K : PySem.W.Frag) (mg : Str → Option Value) (x : Str) (c : Val) : Prop where
  at_ : ∃ (u : Value) (v : V), mg x = some u ∧ RelV v u ∧ ∀ ρ H, Rl K ρ H c v
theorem me_glob {x : Str} {c : Val} (hg : Gl X x) (h : Glob X.K X.mg x c) (hd : (x == ("__debug__" : Str)) = false := by decide) : PE X (.Name x pos) (tE X E (mC c)) := by
  obtain ⟨u, v, h1, h2, h3⟩ := h.at_
  exact me_of (pe_glob hg h1 h2 hd) h3
end
noncomputable abbrev F2 := Val → Val → Store → Res Val
noncomputable def rM (W : Wo) (E : XK) (f : F2) : R2 := fun x y H Q => ∃ ρ st u w, SR W.K ρ st H ∧ Rl W.K ρ H u x ∧ Rl W.K ρ H w y ∧ wR W E (Rl W.K) ρ H Q (f u w st)
noncomputable def mBin (f : F2) (a b : ME) : ME := fun μ st => (a μ st).bind fun x st1 => (b μ st1).bind fun y st2 => f x y st2
section
variable {X : Cx} {E : XK} {pos : Pos} {a b c : Expr} {ma mb mc : ME} {f g : F2}
theorem bin_read {σ : St} {H : Hp} {Q : VK} (h : tE X E (mBin f ma mb) σ H Q) : tOp (rM (wo X) E f) (tE X E ma) (tE X E mb) σ H Q := by
  obtain ⟨μ, ρ, st, rs, sr, h⟩ := h
  refine go μ ρ st rs sr h fun u st1 ρ1 H1 x e1 sr1 r1 h1 => ?_
  refine go μ ρ1 st1 (rs.mono e1) sr1 h1 fun w st2 ρ2 H2 y e2 sr2 r2 h2 => ?_
  exact ⟨ρ2, st2, u, w, sr2, Rl.mono e2 _ _ r1, r2, h2⟩
theorem me_bin {op : Operator} (ho : OpR X (binaryOp op) (rM (wo X) E f)) (ha : PE X a (tE X E ma)) (hb : PE X b (tE X E mb)) : PE X (.BinOp a op b pos) (tE X E (mBin f ma mb)) :=
  PE.imp (pe_op ho ha hb) fun _ _ _ h => bin_read h
theorem me_cmp {op : CmpOp} (ho : OpR X (compareOp op) (rM (wo X) E f)) (ha : PE X a (tE X E ma)) (hb : PE X b (tE X E mb)) (hm : behindInMarks op b = false := by first | exact nomark _ | (with_unfolding_all rfl)) : PE X (.Compare a [op] [b] pos) (tE X E (mBin f ma mb)) :=
  PE.imp (pe_cmpR ho ha hb hm) fun _ _ _ h => bin_read h
noncomputable def asT (m : ME) : MT := fun μ st => (m μ st).bind fun v st' => match v with
  | .bl b => .ok b st'
  | _ => .bad
theorem asT_read {m : ME} {σ : St} {H : Hp} {Q : Bool → Hp → Prop} (h : tT X E (asT m) σ H Q) : tE X E m σ H fun x H' => ∃ k, x = .bl k ∧ Q k H' := by
  obtain ⟨μ, ρ, st, rs, sr, h⟩ := h
  refine go μ ρ st rs sr h fun u st1 ρ1 H1 x e1 sr1 r1 h1 => ?_
  cases u with
  | bl b => exact ⟨b, r1.bl_, h1 ρ1 H1 b (Step.refl _ _) sr1 rfl⟩
  | _ => exact h1.elim
theorem mt_cmp {op : CmpOp} (ho : OpR X (compareOp op) (rM (wo X) E f)) (ha : PE X a (tE X E ma)) (hb : PE X b (tE X E mb)) (hm : behindInMarks op b = false := by first | exact nomark _ | (with_unfolding_all rfl)) : PT X (.Compare a [op] [b] pos) (tT X E (asT (mBin f ma mb))) :=
  PT.imp (pt_cmpR ho ha hb hm) fun σ H Q h => by
    show tOp (rM (wo X) E f) (tE X E ma) (tE X E mb) σ H _
    exact bin_read (asT_read h)
theorem mt_val {m : ME} (h : PE X a (tE X E m)) (he : ∀ whole, isTrue a X.env whole = (do let v ← whole; standAt a.pos; holding [v] (truthy v)) := by intro _; rfl) : PT X a (tT X E (asT m)) :=
  PT.imp (pt_val h he) fun σ H Q h => asT_read h
noncomputable def mChain (f g : F2) (a b c : ME) : ME := fun μ st => (a μ st).bind fun x st1 => (b μ st1).bind fun y st2 => (f x y st2).bind fun z st3 => match z with
  | .bl true => (c μ st3).bind fun w st4 => g y w st4
  | .bl false => .ok (.bl false) st3
  | _ => .bad
noncomputable def Tells (f : F2) : Prop := ∀ u w st, f u w st = .bad ∨ ∃ b, f u w st = .ok (.bl b) st
theorem chain_read (hf : Tells f) {σ : St} {H : Hp} {Q : VK} (h : tE X E (mChain f g ma mb mc) σ H Q) : tChain (rM (wo X) E f) (rM (wo X) E g) (tE X E ma) (tE X E mb) (tE X E mc) σ H Q := by
  obtain ⟨μ, ρ, st, rs, sr, h⟩ := h
  refine go μ ρ st rs sr h fun u st1 ρ1 H1 x e1 sr1 r1 h1 => ?_
  refine go μ ρ1 st1 (rs.mono e1) sr1 h1 fun w st2 ρ2 H2 y e2 sr2 r2 h2 => ?_
  refine ⟨ρ2, st2, u, w, sr2, Rl.mono e2 _ _ r1, r2, ?_⟩
  rcases hf u w st2 with e | ⟨k, e⟩
  · rw [e] at h2; exact h2.elim
  · rw [e] at h2 ⊢
    intro ρ3 H3 z e3 sr3 rz
    rw [rz.bl_]
    refine ⟨k, rfl, ?_⟩
    cases k with
    | true =>
      rw [if_pos rfl]
      refine go μ ρ3 st2 (((rs.mono e1).mono e2).mono e3) sr3 (wR.mono h2 e3) fun v st4 ρ4 H4 x4 e4 sr4 r4 h4 => ?_
      exact ⟨ρ4, st4, w, v, sr4, Rl.mono (e3.trans e4) _ _ r2, r4, h4⟩
    | false =>
      rw [if_neg Bool.false_ne_true]
      exact h2 ρ3 H3 _ e3 sr3 (Rl.mkBl false)
theorem me_chain {op op' : CmpOp} (hf : Tells f) (ho : OpR X (compareOp op) (rM (wo X) E f)) (ho' : OpR X (compareOp op') (rM (wo X) E g)) (ha : PE X a (tE X E ma)) (hb : PE X b (tE X E mb)) (hc : PE X c (tE X E mc))
    (hm : lastMarks [op, op'] [b, c] = false := by with_unfolding_all rfl) : PE X (.Compare a [op, op'] [b, c] pos) (tE X E (mChain f g ma mb mc)) :=
  PE.imp (pe_chain ho ho' ha hb hc hm) fun _ _ _ h => chain_read hf h
noncomputable def mAnd (a b : ME) : ME := fun μ st => (a μ st).bind fun x st1 => match x with
  | .bl true => b μ st1
  | .bl false => .ok (.bl false) st1
  | _ => .bad
noncomputable def mOr (a b : ME) : ME := fun μ st => (a μ st).bind fun x st1 => match x with
  | .bl true => .ok (.bl true) st1
  | .bl false => b μ st1
  | _ => .bad
noncomputable def mNot (a : ME) : ME := fun μ st => (a μ st).bind fun x st1 => match x with
  | .bl b => .ok (.bl (!b)) st1
  | _ => .bad
noncomputable def tAndM (a b : MT) : MT := fun μ st => (a μ st).bind fun x st1 => match x with
  | true => b μ st1
  | false => .ok false st1
noncomputable def tOrM (a b : MT) : MT := fun μ st => (a μ st).bind fun x st1 => match x with
  | true => .ok true st1
  | false => b μ st1
noncomputable def tNotM (a : MT) : MT := fun μ st => (a μ st).bind fun x st1 => .ok (!x) st1
noncomputable def mIf (t : MT) (a b : ME) : ME := fun μ st => (t μ st).bind fun x st1 => match x with
  | true => a μ st1
  | false => b μ st1
variable {rest : List Expr} {tA tB' : MT}
theorem me_one {op} {m : ME} (h : PE X a (tE X E m)) : PE X (.BoolOp op [a] pos) (tE X E m) := pe_one h
theorem me_and (ha : PE X a (tE X E ma)) (hb : PE X (.BoolOp .And (b :: rest) pos) (tE X E mb)) : PE X (.BoolOp .And (a :: b :: rest) pos) (tE X E (mAnd ma mb)) := by
  refine PE.imp (pe_and ha hb) ?_
  rintro σ H Q ⟨μ, ρ, st, rs, sr, h⟩
  refine go μ ρ st rs sr h fun u st1 ρ1 H1 x e1 sr1 r1 h1 => ?_
  cases u with
  | bl k =>
    refine ⟨k, r1.bl_, ?_⟩
    cases k with
    | true => rw [if_pos rfl]; exact ⟨μ, ρ1, st1, rs.mono e1, sr1, h1⟩
    | false => rw [if_neg Bool.false_ne_true]; exact h1 ρ1 H1 _ (Step.refl _ _) sr1 (Rl.mkBl false)
  | _ => exact h1.elim
theorem me_or (ha : PE X a (tE X E ma)) (hb : PE X (.BoolOp .Or (b :: rest) pos) (tE X E mb)) : PE X (.BoolOp .Or (a :: b :: rest) pos) (tE X E (mOr ma mb)) := by
  refine PE.imp (pe_or ha hb) ?_
  rintro σ H Q ⟨μ, ρ, st, rs, sr, h⟩
  refine go μ ρ st rs sr h fun u st1 ρ1 H1 x e1 sr1 r1 h1 => ?_
  cases u with
  | bl k =>
    refine ⟨k, r1.bl_, ?_⟩
    cases k with
    | true => rw [if_pos rfl]; exact h1 ρ1 H1 _ (Step.refl _ _) sr1 (Rl.mkBl true)
    | false => rw [if_neg Bool.false_ne_true]; exact ⟨μ, ρ1, st1, rs.mono e1, sr1, h1⟩
  | _ => exact h1.elim
theorem me_not (ha : PE X a (tE X E ma)) : PE X (.UnaryOp .Not a pos) (tE X E (mNot ma)) := by
  refine PE.imp (pe_not ha) ?_
  rintro σ H Q ⟨μ, ρ, st, rs, sr, h⟩
  refine go μ ρ st rs sr h fun u st1 ρ1 H1 x e1 sr1 r1 h1 => ?_
  cases u with
  | bl k => exact ⟨k, r1.bl_, h1 ρ1 H1 _ (Step.refl _ _) sr1 (Rl.mkBl _)⟩
  | _ => exact h1.elim
theorem mw_and1 (ha : PT X a (tT X E tA)) : PW X (.BoolOp .And [a] pos) (tT X E tA) := pw_and1 ha
theorem mw_or1 (ha : PT X a (tT X E tA)) : PW X (.BoolOp .Or [a] pos) (tT X E tA) := pw_or1 ha
theorem mw_and (ha : PT X a (tT X E tA)) (hb : PW X (.BoolOp .And (b :: rest) pos) (tT X E tB')) : PW X (.BoolOp .And (a :: b :: rest) pos) (tT X E (tAndM tA tB')) := by
  refine PW.imp (pw_and ha hb) ?_
  rintro σ H Q ⟨μ, ρ, st, rs, sr, h⟩
  refine go (R1 := RB) μ ρ st rs sr h fun u st1 ρ1 H1 x e1 sr1 r1 h1 => ?_
  cases r1
  cases u with
  | true => rw [if_pos rfl]; exact ⟨μ, ρ1, st1, rs.mono e1, sr1, h1⟩
  | false => rw [if_neg Bool.false_ne_true]; exact h1 ρ1 H1 _ (Step.refl _ _) sr1 rfl
theorem mw_or (ha : PT X a (tT X E tA)) (hb : PW X (.BoolOp .Or (b :: rest) pos) (tT X E tB')) : PW X (.BoolOp .Or (a :: b :: rest) pos) (tT X E (tOrM tA tB')) := by
  refine PW.imp (pw_or ha hb) ?_
  rintro σ H Q ⟨μ, ρ, st, rs, sr, h⟩
  refine go (R1 := RB) μ ρ st rs sr h fun u st1 ρ1 H1 x e1 sr1 r1 h1 => ?_
  cases r1
  cases u with
  | true => rw [if_pos rfl]; exact h1 ρ1 H1 _ (Step.refl _ _) sr1 rfl
  | false => rw [if_neg Bool.false_ne_true]; exact ⟨μ, ρ1, st1, rs.mono e1, sr1, h1⟩
theorem mt_w {e : Expr} {t : MT} (h : PW X e (tT X E t)) : PT X e (tT X E t) := h.pt
theorem mt_not (ha : PT X a (tT X E tA)) : PT X (.UnaryOp .Not a pos) (tT X E (tNotM tA)) := by
  refine PT.imp (pt_not ha) ?_
  rintro σ H Q ⟨μ, ρ, st, rs, sr, h⟩
  refine go (R1 := RB) μ ρ st rs sr h fun u st1 ρ1 H1 x e1 sr1 r1 h1 => ?_
  cases r1
  exact h1 ρ1 H1 _ (Step.refl _ _) sr1 rfl
theorem me_if (hc : PT X c (tT X E tA)) (ha : PE X a (tE X E ma)) (hb : PE X b (tE X E mb)) : PE X (.IfExp c a b pos) (tE X E (mIf tA ma mb)) := by
  refine PE.imp (pe_ifExp hc ha hb) ?_
  rintro σ H Q ⟨μ, ρ, st, rs, sr, h⟩
  refine go (R1 := RB) μ ρ st rs sr h fun u st1 ρ1 H1 x e1 sr1 r1 h1 => ?_
  cases r1
  cases u with
  | true => rw [if_pos rfl]; exact ⟨μ, ρ1, st1, rs.mono e1, sr1, h1⟩
  | false => rw [if_neg Bool.false_ne_true]; exact ⟨μ, ρ1, st1, rs.mono e1, sr1, h1⟩
end
noncomputable def mNil : MA := fun _ st => .ok [] st
noncomputable def mCons (a : ME) (r : MA) : MA := fun μ st => (a μ st).bind fun x st1 => (r μ st1).bind fun xs st2 => .ok (x :: xs) st2
noncomputable def mTup (a : MA) : ME := fun μ st => (a μ st).bind fun xs st1 => if xs.length ≤ sizeLine then .ok (.tup xs) st1 else .bad
noncomputable def mLst (a : MA) : ME := fun μ st => (a μ st).bind fun xs st1 => if xs.length ≤ sizeLine then .ok (.loc st1.length) (st1 ++ [.lst xs]) else .bad
noncomputable abbrev FN := List Val → Store → Res Val
noncomputable def mCall (f : FN) (a : MA) : ME := fun μ st => (a μ st).bind fun xs st1 => f xs st1
noncomputable def spM (W : Wo) (f : FN) : Sp := fun vs H Q E => ∃ us ρ st, Rls W.K ρ H us vs ∧ SR W.K ρ st H ∧ wR W E (Rl W.K) ρ H Q (f us st)
noncomputable def cM (W : Wo) (E : XK) (f : FN) : List V → Hp → VK → Prop := fun xs H Q => ∃ ρ st us, SR W.K ρ st H ∧ Rls W.K ρ H us xs ∧ wR W E (Rl W.K) ρ H Q (f us st)
section
variable {X : Cx} {E : XK} {pos p : Pos} {e : Expr} {es : List Expr} {m : ME} {ms : MA} {f : FN} {x : Str}
theorem ma_nil : PA X [] (tL X E mNil) := PA.imp pa_nil fun σ H Q ⟨μ, ρ, st, rs, sr, h⟩ => h ρ H [] (Step.refl _ _) sr Rls.nil
theorem ma_cons (ha : PE X e (tE X E m)) (hr : PA X es (tL X E ms)) (hs : starEach (e :: es) X.env = (false, eval e X.env) :: starEach es X.env := by rfl) : PA X (e :: es) (tL X E (mCons m ms)) := by
  refine PA.imp (pa_cons ha hr hs) ?_
  rintro σ H Q ⟨μ, ρ, st, rs, sr, h⟩
  refine go μ ρ st rs sr h fun u st1 ρ1 H1 x e1 sr1 r1 h1 => ?_
  refine go (R1 := Rls X.K) μ ρ1 st1 (rs.mono e1) sr1 h1 fun w st2 ρ2 H2 y e2 sr2 r2 h2 => ?_
  exact h2 ρ2 H2 _ (Step.refl _ _) sr2 (Rls.cons (Rl.mono e2 _ _ r1) r2)
theorem me_tup {k} (h : PA X es (tL X E ms)) : PE X (.Tuple es k pos) (tE X E (mTup ms)) := by
  refine PE.imp (pe_tup h) ?_
  rintro σ H Q ⟨μ, ρ, st, rs, sr, h⟩
  refine go (R1 := Rls X.K) μ ρ st rs sr h fun us st1 ρ1 H1 xs e1 sr1 r1 h1 => ?_
  by_cases hz : us.length ≤ sizeLine
  · rw [if_pos hz] at h1
    refine ⟨by rw [← r1.length]; exact hz, fun p hp => ?_⟩
    have s := same_upd (o := .tup xs) hp
    exact h1 ρ1 _ _ (Step.same s) (sr1.grow s) (Rl.mkTup upd_same (Rls.mono (Step.same s) _ _ r1))
  · rw [if_neg hz] at h1; exact h1.elim
theorem new_lst {K : PySem.W.Frag} {ρ : List Addr} {st : Store} {H : Hp} {us : List Val} {xs : List V} (sr : SR K ρ st H) (r : Rls K ρ H us xs) {p : Addr} (hp : H p = none) :
    Step ρ H (ρ ++ [p]) (upd H p (.lst xs)) ∧ SR K (ρ ++ [p]) (st ++ [.lst us]) (upd H p (.lst xs)) ∧ Rl K (ρ ++ [p]) (upd H p (.lst xs)) (.loc st.length) (.ref p) := by
  have s := same_upd (o := .lst xs) hp
  refine ⟨Step.snoc p s, sr.alloc hp ⟨xs, upd_same, Rls.mono (Step.snoc p s) _ _ r⟩, Rl.mkLoc ?_⟩
  rw [← sr.len, List.getElem?_append_right (Nat.le_refl _), Nat.sub_self]
  rfl
theorem me_lst (h : PA X es (tL X E ms)) : PE X (.List es pos) (tE X E (mLst ms)) := by
  refine PE.imp (pe_lst h) ?_
  rintro σ H Q ⟨μ, ρ, st, rs, sr, h⟩
  refine go (R1 := Rls X.K) μ ρ st rs sr h fun us st1 ρ1 H1 xs e1 sr1 r1 h1 => ?_
  by_cases hz : us.length ≤ sizeLine
  · rw [if_pos hz] at h1
    refine ⟨by rw [← r1.length]; exact hz, fun p hp => ?_⟩
    obtain ⟨a, b, c⟩ := new_lst sr1 r1 hp
    exact h1 _ _ _ a b c
  · rw [if_neg hz] at h1; exact h1.elim
theorem me_call {k : Nat} {fa : Addr} {fd : FuncData} {ps : List Str} {CX : CXT} (F : FnOk X.prog X.w X.K X.mg X.base CX k fa fd ps (spM ⟨X.K, X.mg, []⟩ f)) (hr : Room k X.A) (hg : Gl X x) (hm : X.mg x = some (.ref fa)) (hk : PySem.W.keepIn X.K (.ref fa) = true)
    (hb : Binds X.K fd ps []) (hx : Passes CX X E) (ha : PA X (e :: es) (tL X E ms)) (hdb : (x == ("__debug__" : Str)) = false := by decide)
    (he : starEach (e :: es) X.env = (false, eval e X.env) :: starEach es X.env := by rfl) (hpl : (backTo pos (starEach es X.env)).any (·.1) = false := by rfl) :
    PE X (.Call (.Name x p) (e :: es) [] pos) (tE X E (mCall f ms)) := by
  refine PE.imp (pe_call F hr hg hm hk hb .nil hx ha hdb he hpl) ?_
  rintro σ H Q ⟨μ, ρ, st, rs, sr, h⟩
  refine go (R1 := Rls X.K) μ ρ st rs sr h fun us st1 ρ1 H1 xs e1 sr1 r1 h1 => ?_
  rw [List.append_nil]
  exact ⟨us, ρ1, st1, r1, sr1, wR.pn h1⟩
theorem me_callB {id : String} (hc : CallR X (.builtin id) (cM (wo X) E f)) (hg : Gl X x) (hm : X.mg x = none) (hv : bootBuiltins x = some (.builtin id)) (ha : PA X (e :: es) (tL X E ms)) (hn : x ≠ "__name__" := by decide) (hdb : (x == ("__debug__" : Str)) = false := by decide)
    (he : starEach (e :: es) X.env = (false, eval e X.env) :: starEach es X.env := by rfl) (hpl : (backTo pos (starEach es X.env)).any (·.1) = false := by rfl) : PE X (.Call (.Name x p) (e :: es) [] pos) (tE X E (mCall f ms)) := by
  refine PE.imp (pe_callB hc hg hm hv ha hn hdb he hpl) ?_
  rintro σ H Q ⟨μ, ρ, st, rs, sr, h⟩
  exact go (R1 := Rls X.K) μ ρ st rs sr h fun us st1 ρ1 H1 xs e1 sr1 r1 h1 => ⟨ρ1, st1, us, sr1, r1, h1⟩
theorem me_callTy {T : String} (hc : CallR X (.type T) (cM (wo X) E f)) (hg : Gl X x) (hm : X.mg x = none) (hv : bootBuiltins x = some (.type T)) (ha : PA X (e :: es) (tL X E ms)) (hn : x ≠ "__name__" := by decide) (hdb : (x == ("__debug__" : Str)) = false := by decide)
    (he : starEach (e :: es) X.env = (false, eval e X.env) :: starEach es X.env := by rfl) (hpl : (backTo pos (starEach es X.env)).any (·.1) = false := by rfl) : PE X (.Call (.Name x p) (e :: es) [] pos) (tE X E (mCall f ms)) := by
  refine PE.imp (pe_callTy hc hg hm hv ha hn hdb he hpl) ?_
  rintro σ H Q ⟨μ, ρ, st, rs, sr, h⟩
  exact go (R1 := Rls X.K) μ ρ st rs sr h fun us st1 ρ1 H1 xs e1 sr1 r1 h1 => ⟨ρ1, st1, us, sr1, r1, h1⟩
end
section
variable {X : Cx} {E : XK} {pos : Pos} {a b : Expr} {ma mb : ME} {f : F2}
theorem me_ix (hr : IxR X (rM (wo X) E f)) (ha : PE X a (tE X E ma)) (hb : PE X b (tE X E mb)) (hs : PlainIx b := by exact fun _ _ => rfl) : PE X (.Subscript a b pos) (tE X E (mBin f ma mb)) :=
  PE.imp (pe_ix hr ha hb hs) fun _ _ _ h => bin_read h
end
noncomputable def wS (W : Wo) (E : XK) (ρ : List Addr) (H : Hp) (D : Ends) : SRes → Prop
  | .nx μ st => ∀ ρ' H' σ', Step ρ H ρ' H' → SR W.K ρ' st H' → RS W ρ' H' μ σ' → D.nx σ' H'
  | .rt v st => ∀ ρ' H' x, Step ρ H ρ' H' → SR W.K ρ' st H' → Rl W.K ρ' H' v x → D.rt x H'
  | .bk μ st => ∀ ρ' H' σ', Step ρ H ρ' H' → SR W.K ρ' st H' → RS W ρ' H' μ σ' → D.bk σ' H'
  | .ct μ st => ∀ ρ' H' σ', Step ρ H ρ' H' → SR W.K ρ' st H' → RS W ρ' H' μ σ' → D.ct σ' H'
  | .er c _ st => ∃ C, W.mg c = some (.ref C) ∧ ∀ ρ' H', Step ρ H ρ' H' → SR W.K ρ' st H' → E (.ref C) none H'
  | .bad => False
theorem wS.mono {W : Wo} {E : XK} {ρ ρ' : List Addr} {H H' : Hp} {D : Ends} {r : SRes} (h : wS W E ρ H D r) (e : Step ρ H ρ' H') : wS W E ρ' H' D r := by
  cases r with
  | nx μ st => exact fun ρ2 H2 σ2 e2 s r => h ρ2 H2 σ2 (e.trans e2) s r
  | rt v st => exact fun ρ2 H2 x e2 s r => h ρ2 H2 x (e.trans e2) s r
  | bk μ st => exact fun ρ2 H2 σ2 e2 s r => h ρ2 H2 σ2 (e.trans e2) s r
  | ct μ st => exact fun ρ2 H2 σ2 e2 s r => h ρ2 H2 σ2 (e.trans e2) s r
  | er c μ st => obtain ⟨C, h1, h2⟩ := h; exact ⟨C, h1, fun ρ2 H2 e2 s => h2 ρ2 H2 (e.trans e2) s⟩
  | bad => exact h
noncomputable def tS (X : Cx) (E : XK) (m : MB) : TS := fun D σ H => ∃ μ ρ st, RS (wo X) ρ H μ σ ∧ SR X.K ρ st H ∧ wS (wo X) E ρ H D (m μ st)
@[reducible] def Res.sb {α : Type} (r : Res α) (μ : Env) (k : α → Store → SRes) : SRes := match r with
  | .ok a st => k a st
  | .err c st => .er c μ st
  | .bad => .bad
theorem goS {α β : Type} {W : Wo} {E : XK} {R1 : List Addr → Hp → α → β → Prop} {m : Env → Store → Res α} {k : α → Store → SRes} {σ : St} {H : Hp} {D : Ends} {Q' : β → Hp → Prop}
    (μ : Env) (ρ : List Addr) (st : Store) (rs : RS W ρ H μ σ) (sr : SR W.K ρ st H) (h : wS W E ρ H D ((m μ st).sb μ k))
    (c : ∀ u st1 ρ1 H1 x, Step ρ H ρ1 H1 → SR W.K ρ1 st1 H1 → R1 ρ1 H1 u x → wS W E ρ1 H1 D (k u st1) → Q' x H1) : tG W E R1 m σ H Q' := by
  refine ⟨μ, ρ, st, rs, sr, ?_⟩
  cases e : m μ st with
  | ok u st1 =>
    rw [e] at h
    intro ρ1 H1 x e1 sr1 r1
    exact c u st1 ρ1 H1 x e1 sr1 r1 (wS.mono h e1)
  | err c st1 => rw [e] at h; exact h
  | bad => rw [e] at h; exact h
noncomputable def sNext : MB := fun μ st => .nx μ st
noncomputable def sSeq (a b : MB) : MB := fun μ st => match a μ st with
  | .nx μ' st' => b μ' st'
  | r => r
noncomputable def sExpr (m : ME) : MB := fun μ st => (m μ st).sb μ fun _ st' => .nx μ st'
noncomputable def sRet (m : ME) : MB := fun μ st => (m μ st).sb μ fun v st' => .rt v st'
noncomputable def sIf (t : MT) (a b : MB) : MB := fun μ st => (t μ st).sb μ fun k st' => match k with
  | true => a μ st'
  | false => b μ st'
noncomputable def sSet (i : Nat) (m : ME) : MB := fun μ st => (m μ st).sb μ fun v st' => .nx (μ.set i (some v)) st'
noncomputable def sRaise (c : Str) (m : MA) : MB := fun μ st => (m μ st).sb μ fun vs st' => if vs.length ≤ sizeLine then .er c μ st' else .bad
section
variable {X : Cx} {E : XK} {pos : Pos} {s1 : Stmt} {rest : List Stmt} {e : Expr} {m : ME} {a b : MB}
theorem ms_nil : PSs X [] (tS X E sNext) := PSs.imp pss_nil fun D σ H ⟨μ, ρ, st, rs, sr, h⟩ => h ρ H σ (Step.refl _ _) sr rs
theorem ms_cons (h1 : PS X s1 (tS X E a)) (h2 : PSs X rest (tS X E b)) : PSs X (s1 :: rest) (tS X E (sSeq a b)) := by
  refine PSs.imp (pss_cons h1 h2) ?_
  rintro D σ H ⟨μ, ρ, st, rs, sr, h⟩
  refine ⟨μ, ρ, st, rs, sr, ?_⟩
  unfold sSeq at h
  cases e : a μ st with
  | nx μ' st' =>
    rw [e] at h
    intro ρ1 H1 σ1 e1 sr1 rs1
    exact ⟨μ', ρ1, st', rs1, sr1, wS.mono h e1⟩
  | rt v st' => rw [e] at h; exact h
  | bk μ' st' => rw [e] at h; exact h
  | ct μ' st' => rw [e] at h; exact h
  | er c μ' st' => rw [e] at h; exact h
  | bad => rw [e] at h; exact h
theorem ms_one (h1 : PS X s1 (tS X E a)) : PSs X [s1] (tS X E a) := pss_one h1
theorem ms_expr (he : PE X e (tE X E m)) (hs : swapsWith e none pos.line X.env = pure false := by rfl) : PS X (.Expr e pos) (tS X E (sExpr m)) := by
  refine PS.imp (ps_expr he hs) ?_
  rintro D σ H ⟨μ, ρ, st, rs, sr, h⟩
  exact goS μ ρ st rs sr h fun u st1 ρ1 H1 x e1 sr1 r1 h1 => h1 ρ1 H1 σ (Step.refl _ _) sr1 (rs.mono e1)
theorem ms_ret (he : PE X e (tE X E m)) : PS X (.Return (some e) pos) (tS X E (sRet m)) := by
  refine PS.imp (ps_ret he) ?_
  rintro D σ H ⟨μ, ρ, st, rs, sr, h⟩
  exact goS μ ρ st rs sr h fun u st1 ρ1 H1 x e1 sr1 r1 h1 => h1 ρ1 H1 x (Step.refl _ _) sr1 r1
theorem ms_if {c : Expr} {sa sb : List Stmt} {t : MT} (hc : PT X c (tT X E t)) (ha : PSs X sa (tS X E a)) (hb : PSs X sb (tS X E b)) : PS X (.If c sa sb pos) (tS X E (sIf t a b)) := by
  refine PS.imp (ps_if hc ha hb) ?_
  rintro D σ H ⟨μ, ρ, st, rs, sr, h⟩
  refine goS (R1 := RB) μ ρ st rs sr h fun u st1 ρ1 H1 x e1 sr1 r1 h1 => ?_
  cases r1
  cases u with
  | true => rw [if_pos rfl]; exact ⟨μ, ρ1, st1, rs.mono e1, sr1, h1⟩
  | false => rw [if_neg Bool.false_ne_true]; exact ⟨μ, ρ1, st1, rs.mono e1, sr1, h1⟩
theorem set_read {i : Nat} {D : Ends} {σ : St} {H : Hp} (h : tS X E (sSet i m) D σ H) : tAsg (tE X E m) (gName i) D σ H := by
  obtain ⟨μ, ρ, st, rs, sr, h⟩ := h
  exact goS μ ρ st rs sr h fun u st1 ρ1 H1 x e1 sr1 r1 h1 => h1 ρ1 H1 _ (Step.refl _ _) sr1 ((rs.mono e1).set i r1)
theorem ms_set (i : Nat) {x : Str} {pos' : Pos} (hN : X.N.Nodup) (he : PE X e (tE X E m)) (hi : X.N[i]? = some x := by rfl) (hx : Loc X.env.scope x := by first | exact Or.inl rfl | exact Or.inr rfl) (hs : swapsWith e (some (.Name x pos')) pos.line X.env = pure false := by rfl)
    (hf : X.fn x = true ∨ X.env.scope.names.lookup x = some .local := by first | exact .inl rfl | exact .inr rfl | assumption) : PS X (.Assign [.Name x pos'] e pos) (tS X E (sSet i m)) :=
  PS.imp (ps_set hN hi hx he hs hf) fun _ _ _ h => set_read h
theorem ms_raise {x : Str} {C : Addr} {B newId initId : String} {bm : List Value} {np cpos : Pos} {e₀ : Expr} {es : List Expr} {ms : MA} (hX : Raises X E) (hc : X.calm = true) (hm : X.mg x = some (.ref C)) (hq : PySem.W.excIn X.K C bm newId = true) (FB : ExcBaseFacts B newId initId bm) (hg : Gl X x) (ha : PA X (e₀ :: es) (tL X E ms))
    (he : starEach (e₀ :: es) X.env = (false, eval e₀ X.env) :: starEach es X.env := by rfl) (hpl : (backTo cpos (starEach es X.env)).any (·.1) = false := by rfl) (hd : (x == ("__debug__" : Str)) = false := by decide) :
    PS X (.Raise (some (.Call (.Name x np) (e₀ :: es) [] cpos)) none pos) (tS X E (sRaise x ms)) := by
  refine PS.imp (ps_raise (E := E) hX hc hm hq FB hg ha he hpl hd) ?_
  rintro D σ H ⟨μ, ρ, st, rs, sr, h⟩
  refine goS (R1 := Rls X.K) μ ρ st rs sr h fun us st1 ρ1 H1 xs e1 sr1 r1 h1 => ?_
  by_cases hz : us.length ≤ sizeLine
  · rw [if_pos hz] at h1
    obtain ⟨C', q1, q2⟩ := h1
    have e : C' = C := by
      have := q1.symm.trans hm
      injection this with this
      injection this
    subst e
    exact ⟨by rw [← r1.length]; exact hz, q2 ρ1 H1 (Step.refl _ _) sr1⟩
  · rw [if_neg hz] at h1; exact h1.elim
end
noncomputable def fnM (np n : Nat) (body : MB) : FN := fun us st => if us.length = np then (match body (us.map some ++ List.replicate (n - np) none) st with
  | .nx _ st' => .ok .non st'
  | .rt v st' => .ok v st'
  | .er c _ st' => .err c st'
  | _ => .bad) else .bad
theorem RS.start {W : Wo} {ρ : List Addr} {H : Hp} {N : List Str} {us : List Val} {vs : List V} (r : Rls W.K ρ H us vs) : RS W ρ H (us.map some ++ List.replicate (N.length - us.length) none) (L2.start N vs) := by
  have hl := r.length
  refine ⟨by simp [L2.start, hl], fun i u e => ?_⟩
  rcases Nat.lt_or_ge i us.length with q | q
  · rw [List.getElem?_append_left (by rw [List.length_map]; exact q), List.getElem?_map] at e
    have e' : us[i]? = some u := by
      cases z : us[i]? with
      | none => rw [z] at e; cases e
      | some w => rw [z] at e; exact congrArg _ (Option.some.inj (Option.some.inj e))
    obtain ⟨v, h1, h2⟩ := r.get e'
    refine ⟨v, ?_, RlE.of h2⟩
    unfold L2.start
    rw [List.getElem?_append_left (by rw [List.length_map, ← hl]; exact q), List.getElem?_map, h1]
    rfl
  · rw [List.getElem?_append_right (by rw [List.length_map]; exact q)] at e
    rw [List.getElem?_replicate] at e
    split at e
    · cases e
    · cases e
section
variable {P : Program} {w : World} {K : PySem.W.Frag} {mg : Str → Option Value} {base : Heap}
theorem fn_okM {x qual : Str} {st : Stmt} {f : Addr} {fd : FuncData} {N ps : List Str} {k : Nat} {body : MB} (F : Fun K x qual st f fd) (S : FnScope N ps (defScope st))
    (h : ∀ (cdv : Value) (A : Around) (outer : List PySem.Env) (s : Shared) (H : Hp) (E : XK), Room k (A.deeper (envOfC qual (defScope st) s.heap.objs.size f cdv)) →
      PSs (cxOf (CX1 P w) P w K mg base N qual (defScope st) f cdv A outer s H E) (defBody st) (tS (cxOf (CX1 P w) P w K mg base N qual (defScope st) f cdv A outer s H E) E body)) :
    FnOk P w K mg base (CX1 P w) (k + 1) f fd ps (spM ⟨K, mg, []⟩ (fnM ps.length N.length body)) := by
  refine F.okX S (fun vs H Q E q => ?_) (fun cdv A outer s H vs Q E hr q => ⟨_, h cdv A outer s H E hr, ?_⟩)
  · obtain ⟨us, ρ, st, r, sr, q⟩ := q
    by_cases hl : us.length = ps.length
    · rw [← r.length]; exact hl
    · unfold fnM at q; rw [if_neg hl] at q; exact q.elim
  · obtain ⟨us, ρ, st', r, sr, q⟩ := q
    unfold fnM at q
    by_cases hl : us.length = ps.length
    · rw [if_pos hl, ← hl] at q
      refine ⟨_, ρ, st', RS.start r, sr, ?_⟩
      revert q
      cases body (us.map some ++ List.replicate (N.length - us.length) none) st' with
      | nx μ st2 => exact fun q ρ' H' σ' e s _ => q ρ' H' .non e s Rl.mkNon
      | rt v st2 => exact fun q => q
      | er c μ st2 => exact fun q => q
      | bk μ st2 => exact fun q => q.elim
      | ct μ st2 => exact fun q => q.elim
      | bad => exact fun q => q.elim
    · rw [if_neg hl] at q; exact q.elim
end
end MN
namespace MN
open PySem PySem.Spec L2
open PyProof.Rows hiding St
noncomputable def Sz (i : Int) : Prop := i.natAbs.log2 < 1000000
noncomputable instance (i : Int) : Decidable (Sz i) := inferInstanceAs (Decidable (_ < _))
theorem Sz.big {i : Int} (h : Sz i) : Big 1000001 i := by
  show _ < _
  have h1 : i.natAbs < 2 ^ (i.natAbs.log2 + 1) := Nat.lt_log2_self
  exact Nat.lt_of_lt_of_le h1 (Nat.pow_le_pow_right (by decide) (by have : i.natAbs.log2 < 1000000 := h; omega))
theorem Sz.mul {i j : Int} (h : Sz i) (k : Sz j) : CMulB i j := ⟨_, _, h.big, k.big, by decide, by decide⟩
noncomputable def Dz (i : Int) : Prop := i ≠ 0 ∧ i.natAbs.log2 < 8000
noncomputable instance (i : Int) : Decidable (Dz i) := inferInstanceAs (Decidable (_ ∧ _))
theorem Dz.ok {i j : Int} (h : Dz j) : CDivB i j := by
  refine ⟨h.1, ?_⟩
  show _ < _
  have h1 : j.natAbs < 2 ^ (j.natAbs.log2 + 1) := Nat.lt_log2_self
  exact Nat.lt_of_lt_of_le h1 (Nat.pow_le_pow_right (by decide) (by have := h.2; omega))
theorem Dz.of {k : Nat} {i : Int} (h0 : i ≠ 0) (h : Big k i) (hk : k ≤ 8000) : Dz i := by
  refine ⟨h0, ?_⟩
  have h' : i.natAbs < 2 ^ k := h
  exact Nat.lt_of_lt_of_le ((Nat.log2_lt (by omega)).mpr h') hk
noncomputable def MulOk (i j : Int) : Prop := (Sz i ∧ Sz j) ∨ CMul i j
noncomputable instance (i j : Int) : Decidable (CMul i j) := inferInstanceAs (Decidable (_ ∨ _))
noncomputable instance (i j : Int) : Decidable (MulOk i j) := inferInstanceAs (Decidable (_ ∨ _))
noncomputable instance (i j : Int) : Decidable (CPow i j) := inferInstanceAs (Decidable (_ ∧ _ ∧ _))
noncomputable def repsV (k : Nat) (us : List Val) : List Val := (List.replicate k us).flatten
noncomputable def addV : F2
  | .int i, .int j, st => .ok (.int (i + j)) st
  | .str a, .str b, st => if a.length + b.length ≤ sizeLine then .ok (.str (a ++ b)) st else .bad
  | .tup us, .tup ws, st => if us.length + ws.length ≤ sizeLine then .ok (.tup (us ++ ws)) st else .bad
  | .loc n, .loc m, st => match st[n]?, st[m]? with
    | some (.lst us), some (.lst ws) => if us.length + ws.length ≤ sizeLine then .ok (.loc st.length) (st ++ [.lst (us ++ ws)]) else .bad
    | _, _ => .bad
  | _, _, _ => .bad
noncomputable def int2 (g : Int → Int → Store → Res Val) : F2
  | .int i, .int j, st => g i j st
  | _, _, _ => .bad
theorem int2_or (g : Int → Int → Store → Res Val) (u w : Val) (st : Store) : (∃ i j, u = .int i ∧ w = .int j) ∨ int2 g u w st = .bad := by
  cases u with
  | int i =>
    cases w with
    | int j => exact .inl ⟨i, j, rfl, rfl⟩
    | _ => exact .inr rfl
  | _ => exact .inr rfl
theorem int2_go {g : Int → Int → Store → Res Val} {W : Wo} {E : XK} {ρ : List Addr} {st : Store} {H : Hp} {Q : VK} {u w : Val} (h : wR W E (Rl W.K) ρ H Q (int2 g u w st)) : ∃ i j, u = .int i ∧ w = .int j ∧ wR W E (Rl W.K) ρ H Q (g i j st) := by
  rcases int2_or g u w st with ⟨i, j, rfl, rfl⟩ | z
  · exact ⟨i, j, rfl, rfl, h⟩
  · rw [z] at h; exact h.elim
noncomputable def subV : F2 := int2 fun i j st => .ok (.int (i - j)) st
noncomputable def mulV : F2
  | .int i, .int j, st => if MulOk i j then .ok (.int (i * j)) st else .bad
  | .loc n, .int k, st => match st[n]? with
    | some (.lst us) => if -(2 ^ 63) ≤ k ∧ k < 2 ^ 63 ∧ us.length * k.toNat ≤ sizeLine then .ok (.loc st.length) (st ++ [.lst (repsV k.toNat us)]) else .bad
    | _ => .bad
  | _, _, _ => .bad
noncomputable def fdivV : F2 := int2 fun i j st => if Dz j then .ok (.int (i.fdiv j)) st else .bad
noncomputable def modV : F2 := int2 fun i j st => if j = 0 then .bad else .ok (.int (i.fmod j)) st
noncomputable def powV : F2 := int2 fun i j st => if CPow i j then .ok (.int (i ^ j.toNat)) st else .bad
noncomputable def ltV : F2 := int2 fun i j st => .ok (.bl (decide (i < j))) st
noncomputable def leV : F2 := int2 fun i j st => .ok (.bl (decide (i ≤ j))) st
noncomputable def gtV : F2 := int2 fun i j st => .ok (.bl (decide (j < i))) st
noncomputable def geV : F2 := int2 fun i j st => .ok (.bl (decide (j ≤ i))) st
theorem tells_lt : Tells ltV := fun u w st => (int2_or _ u w st).elim (fun ⟨_, _, e1, e2⟩ => .inr (by rw [e1, e2]; exact ⟨_, rfl⟩)) .inl
theorem tells_le : Tells leV := fun u w st => (int2_or _ u w st).elim (fun ⟨_, _, e1, e2⟩ => .inr (by rw [e1, e2]; exact ⟨_, rfl⟩)) .inl
section
variable {X : Cx} {E : XK}
theorem fin_int {W : Wo} {ρ : List Addr} {st : Store} {H : Hp} {Q : VK} {i : Int} (sr : SR W.K ρ st H) (h : wR W E (Rl W.K) ρ H Q (.ok (.int i) st)) : Q (.int i) H := h ρ H _ (Step.refl _ _) sr (Rl.mkInt i)
theorem fin_b {W : Wo} {ρ : List Addr} {st : Store} {H : Hp} {Q : VK} {i : Bool} (sr : SR W.K ρ st H) (h : wR W E (Rl W.K) ρ H Q (.ok (.bl i) st)) : Q (.bl i) H := h ρ H _ (Step.refl _ _) sr (Rl.mkBl i)
theorem Rls.reps {K : PySem.W.Frag} {ρ : List Addr} {H : Hp} {us : List Val} {xs : List V} (r : Rls K ρ H us xs) : ∀ k : Nat, Rls K ρ H (repsV k us) (List.replicate k xs).flatten
  | 0 => Rls.nil
  | k + 1 => by
    unfold repsV
    rw [List.replicate_succ, List.replicate_succ, List.flatten_cons, List.flatten_cons]
    exact r.append (Rls.reps r k)
theorem op_catT0 : OpR X (binaryOp .Add) (fun x y H Q => ∃ a b ys, x = .ref a ∧ y = .ref b ∧ SqT X.K H a [] ∧ SqT X.K H b ys ∧ Q (.ref b) H) := by
  intro pins s σ H x y v u Q I rx ry h
  obtain ⟨a, b, ys, rfl, rfl, ha, hb, q⟩ := h
  cases rx
  cases ry
  obtain ⟨its, r1, p1, _⟩ := I.tuple ha
  obtain ⟨its2, r2, p2, _⟩ := I.tuple hb
  cases r1
  obtain ⟨⟨cls, dd, data, sl⟩, ho, hc, n, hd⟩ := id p1
  obtain ⟨⟨cls2, dd2, data2, sl2⟩, ho2, hc2, n2, hd2⟩ := id p2
  simp only at hc hd hc2 hd2
  subst hc hd hc2 hd2
  exact concat_meets ⟨_, ho, rfl⟩ ⟨_, ho2, rfl⟩ noFill_tuple_add seq_tuple_add PySem.F.slot_tuple_add PySem.F.entry_tuple_add (PySem.F.args_tuple_add_2 _ _)
    (tuple_addW0 a b #[] its2.toArray n n2 dd dd2 sl sl2 (by simp)) ⟨ho, ho2, ⟨.ref b, H, I, rfl, q⟩⟩
theorem op_addM : OpR X (binaryOp .Add) (rM (wo X) E addV) := by
  refine OpR.imp (OpR.or op_add (OpR.or op_add_str (OpR.or op_cat (OpR.or op_catT op_catT0)))) ?_
  rintro x y H Q ⟨ρ, st, u, w, sr, r1, r2, h⟩
  cases u <;> cases w <;> try exact h.elim
  case int.int i j => exact .inl ⟨i, j, r1.int_, r2.int_, fin_int sr h⟩
  case str.str a b =>
    unfold addV at h
    dsimp only at h
    split at h
    · rename_i hz
      exact .inr (.inl ⟨a, b, r1.str_, r2.str_, hz, h ρ H _ (Step.refl _ _) sr (Rl.mkStr _)⟩)
    · exact h.elim
  case tup.tup us ws =>
    unfold addV at h
    dsimp only at h
    split at h
    · rename_i hz
      obtain ⟨a, xs, rfl, ha, ra⟩ := r1.tup_
      obtain ⟨b, ys, rfl, hb, rb⟩ := r2.tup_
      by_cases hx : xs = []
      · subst hx
        have hu : us = [] := List.eq_nil_of_length_eq_zero ra.length
        subst hu
        exact .inr (.inr (.inr (.inr ⟨a, b, ys, rfl, rfl, ha, hb, h ρ H _ (Step.refl _ _) sr r2⟩)))
      · refine .inr (.inr (.inr (.inl ⟨a, b, xs, ys, rfl, rfl, ha, hb, hx, by rw [← ra.length, ← rb.length]; exact hz, fun hy => ?_, fun hy p hp => ?_⟩)))
        · subst hy
          have hw : ws = [] := List.eq_nil_of_length_eq_zero rb.length
          subst hw
          rw [List.append_nil] at h
          exact h ρ H _ (Step.refl _ _) sr r1
        · have s := same_upd (o := .tup (xs ++ ys)) hp
          exact h ρ _ _ (Step.same s) (sr.grow s) (Rl.mkTup upd_same (Rls.mono (Step.same s) _ _ (ra.append rb)))
    · exact h.elim
  case loc.loc n m =>
    unfold addV at h
    dsimp only at h
    split at h
    · rename_i us ws e1 e2
      split at h
      · rename_i hz
        obtain ⟨a, rfl, ha⟩ := r1.loc_
        obtain ⟨b, rfl, hb⟩ := r2.loc_
        obtain ⟨xs, h1, q1⟩ := sr.cell n _ a e1 ha
        obtain ⟨ys, h2, q2⟩ := sr.cell m _ b e2 hb
        refine .inr (.inr (.inl ⟨a, b, xs, ys, rfl, rfl, h1, h2, by rw [← q1.length, ← q2.length]; exact hz, fun p hp => ?_⟩))
        obtain ⟨k1, k2, k3⟩ := new_lst sr (q1.append q2) hp
        exact h _ _ _ k1 k2 k3
      · exact h.elim
    · exact h.elim
theorem op_subM : OpR X (binaryOp .Sub) (rM (wo X) E subV) := by
  refine OpR.imp op_sub ?_
  rintro x y H Q ⟨ρ, st, u, w, sr, r1, r2, h⟩
  obtain ⟨i, j, rfl, rfl, q⟩ := int2_go h
  exact ⟨i, j, r1.int_, r2.int_, fin_int sr q⟩
theorem op_mulM : OpR X (binaryOp .Mult) (rM (wo X) E mulV) := by
  refine OpR.imp (OpR.or op_mulB (OpR.or op_mul op_rep)) ?_
  rintro x y H Q ⟨ρ, st, u, w, sr, r1, r2, h⟩
  cases u <;> cases w <;> try exact h.elim
  case int.int i j =>
    unfold mulV at h
    dsimp only at h
    split at h
    · rename_i hz
      rcases hz with hz | hz
      · exact .inl ⟨i, j, r1.int_, r2.int_, hz.1.mul hz.2, fin_int sr h⟩
      · exact .inr (.inl ⟨i, j, r1.int_, r2.int_, hz, fin_int sr h⟩)
    · exact h.elim
  case loc.int n k =>
    unfold mulV at h
    dsimp only at h
    split at h
    · rename_i us e1
      split at h
      · rename_i hz
        obtain ⟨a, rfl, ha⟩ := r1.loc_
        obtain ⟨xs, h1, q1⟩ := sr.cell n _ a e1 ha
        refine .inr (.inr ⟨a, k, xs, rfl, r2.int_, h1, hz.1, hz.2.1, by rw [← q1.length]; exact hz.2.2, fun p hp => ?_⟩)
        obtain ⟨k1, k2, k3⟩ := new_lst sr (q1.reps k.toNat) hp
        exact h _ _ _ k1 k2 k3
      · exact h.elim
    · exact h.elim
theorem op_fdivM : OpR X (binaryOp .FloorDiv) (rM (wo X) E fdivV) := by
  refine OpR.imp op_fdivB ?_
  rintro x y H Q ⟨ρ, st, u, w, sr, r1, r2, h⟩
  obtain ⟨i, j, rfl, rfl, h0⟩ := int2_go h
  clear h
  have h := h0
  clear h0
  · split at h
    · rename_i hz
      exact ⟨i, j, r1.int_, r2.int_, hz.ok, fin_int sr h⟩
    · exact h.elim
theorem op_modM : OpR X (binaryOp .Mod) (rM (wo X) E modV) := by
  refine OpR.imp op_modN ?_
  rintro x y H Q ⟨ρ, st, u, w, sr, r1, r2, h⟩
  obtain ⟨i, j, rfl, rfl, h0⟩ := int2_go h
  clear h
  have h := h0
  clear h0
  · split at h
    · exact h.elim
    · rename_i hz
      exact ⟨i, j, r1.int_, r2.int_, hz, fin_int sr h⟩
theorem op_powM : OpR X (binaryOp .Pow) (rM (wo X) E powV) := by
  refine OpR.imp op_pow ?_
  rintro x y H Q ⟨ρ, st, u, w, sr, r1, r2, h⟩
  obtain ⟨i, j, rfl, rfl, h0⟩ := int2_go h
  clear h
  have h := h0
  clear h0
  · split at h
    · rename_i hz
      exact ⟨i, j, r1.int_, r2.int_, hz, fin_int sr h⟩
    · exact h.elim
theorem op_ltM : OpR X (compareOp .Lt) (rM (wo X) E ltV) := by
  refine OpR.imp op_lt ?_
  rintro x y H Q ⟨ρ, st, u, w, sr, r1, r2, h⟩
  obtain ⟨i, j, rfl, rfl, q⟩ := int2_go h
  exact ⟨i, j, r1.int_, r2.int_, fin_b sr q⟩
theorem op_leM : OpR X (compareOp .LtE) (rM (wo X) E leV) := by
  refine OpR.imp op_le ?_
  rintro x y H Q ⟨ρ, st, u, w, sr, r1, r2, h⟩
  obtain ⟨i, j, rfl, rfl, q⟩ := int2_go h
  exact ⟨i, j, r1.int_, r2.int_, fin_b sr q⟩
theorem op_gtM : OpR X (compareOp .Gt) (rM (wo X) E gtV) := by
  refine OpR.imp op_gt ?_
  rintro x y H Q ⟨ρ, st, u, w, sr, r1, r2, h⟩
  obtain ⟨i, j, rfl, rfl, q⟩ := int2_go h
  exact ⟨i, j, r1.int_, r2.int_, fin_b sr q⟩
noncomputable def mNeg (m : ME) : ME := fun μ st => (m μ st).bind fun v st' => match v with
  | .int i => .ok (.int (-i)) st'
  | _ => .bad
theorem me_neg {a : Expr} {m : ME} {pos : Pos} (h : PE X a (tE X E m)) : PE X (.UnaryOp .USub a pos) (tE X E (mNeg m)) := by
  refine PE.imp (pe_un un_neg h) ?_
  rintro σ H Q ⟨μ, ρ, st, rs, sr, h⟩
  refine go μ ρ st rs sr h fun u st1 ρ1 H1 x e1 sr1 r1 h1 => ?_
  cases u with
  | int i => exact ⟨i, r1.int_, fin_int sr1 h1⟩
  | _ => exact h1.elim
end
noncomputable def flat : Val → Bool
  | .non => true
  | .bl _ => true
  | .int _ => true
  | .str _ => true
  | _ => false
noncomputable def eqF : Val → Val → Bool
  | .non, .non => true
  | .bl a, .bl b => a == b
  | .bl a, .int b => (if a then 1 else 0) == b
  | .int a, .bl b => a == (if b then 1 else 0)
  | .int a, .int b => a == b
  | .str a, .str b => a == b
  | _, _ => false
noncomputable def itemsOf (st : Store) (n : Nat) : Option (List Val) := match st[n]? with
  | some (.lst us) => some us
  | some (.fro us) => some us
  | some (.mod us) => some us
  | _ => none
inductive Vw where
  | lst (us : List Val) | tup (us : List Val) | flt
noncomputable def vw (st : Store) : Val → Option Vw
  | .tup us => some (.tup us)
  | .loc n => (itemsOf st n).map .lst
  | .non => some .flt
  | .bl _ => some .flt
  | .int _ => some .flt
  | .str _ => some .flt
  | _ => none
noncomputable def eqDs (f : Val → Val → Option Bool) : List Val → List Val → Option Bool
  | [], [] => some true
  | x :: xs, y :: ys => match f x y, eqDs f xs ys with
    | some a, some b => some (a && b)
    | _, _ => none
  | [], _ :: _ => some false
  | _ :: _, [] => some false
noncomputable def eqD : Nat → Store → Val → Val → Option Bool
  | 0, _, _, _ => none
  | n + 1, st, u, w => match vw st u, vw st w with
    | some (.tup us), some (.tup ws) => eqDs (eqD n st) us ws
    | some (.lst us), some (.lst ws) => eqDs (eqD n st) us ws
    | some .flt, some .flt => some (eqF u w)
    | some _, some _ => some false
    | _, _ => none
theorem eqDs_len {f : Val → Val → Option Bool} : ∀ {us ws : List Val} {b : Bool}, eqDs f us ws = some b → us.length ≠ ws.length → b = false
  | [], [], _, _, h => absurd rfl h
  | [], _ :: _, b, e, _ => by injection e with e; exact e.symm
  | _ :: _, [], b, e, _ => by injection e with e; exact e.symm
  | x :: xs, y :: ys, b, e, h => by
    unfold eqDs at e
    split at e
    · rename_i a c h1 h2
      injection e with e
      rw [← e, eqDs_len h2 (fun z => h (by simp [z])), Bool.and_false]
    · cases e
theorem eqDs_at {f : Val → Val → Option Bool} : ∀ {us ws : List Val} {b : Bool}, eqDs f us ws = some b → ∀ (j : Nat) (u w : Val), us[j]? = some u → ws[j]? = some w → ∃ c, f u w = some c
  | [], _, _, _, j, u, w, h1, _ => by cases h1
  | _ :: _, [], _, _, j, u, w, _, h2 => by cases h2
  | x :: xs, y :: ys, b, e, j, u, w, h1, h2 => by
    unfold eqDs at e
    split at e
    · rename_i a c q1 q2
      cases j with
      | zero => cases h1; cases h2; exact ⟨a, q1⟩
      | succ j => exact eqDs_at q2 j u w h1 h2
    · cases e
noncomputable def eqJ (f : Val → Val → Option Bool) (us ws : List Val) (j : Nat) : Bool := match us[j]?, ws[j]? with
  | some u, some w => (f u w).getD true
  | _, _ => true
theorem eqDs_all {f : Val → Val → Option Bool} : ∀ {us ws : List Val} {b : Bool}, eqDs f us ws = some b → us.length = ws.length → (List.range us.length).all (eqJ f us ws) = b
  | [], [], b, e, _ => by injection e
  | [], _ :: _, _, _, h => by simp at h
  | _ :: _, [], _, _, h => by simp at h
  | x :: xs, y :: ys, b, e, h => by
    have h' : xs.length = ys.length := by simpa using h
    unfold eqDs at e
    split at e
    · rename_i a c q1 q2
      injection e with e
      rw [List.length_cons, List.range_succ_eq_map, List.all_cons, List.all_map, ← e, ← eqDs_all q2 h']
      congr 1
      show (f x y).getD true = a
      rw [q1]; rfl
    · cases e
section
variable {X : Cx} {pins : List (Addr × Obj)} {σ : St} {H : Hp} {s : Shared} {ρ : List Addr} {st : Store}
theorem itemsOf_sq (sr : SR X.K ρ st H) {n : Nat} {us : List Val} {a : Addr} (h : itemsOf st n = some us) (ha : ρ[n]? = some a) : ∃ vs, SqL X.K H a vs ∧ Rls X.K ρ H us vs := by
  unfold itemsOf at h
  split at h
  · rename_i ws e
    cases h
    obtain ⟨vs, h1, h2⟩ := sr.cell n _ a e ha
    exact ⟨vs, SqL.of h1, h2⟩
  · rename_i ws e
    cases h
    obtain ⟨o, vs, h1, h2⟩ := sr.cell n _ a e ha
    exact ⟨vs, .inl (.inr ⟨o, h1⟩), h2⟩
  · rename_i ws e
    cases h
    obtain ⟨vs, h1, h2⟩ := sr.cell n _ a e ha
    exact ⟨vs, .inr h1, h2⟩
  · cases h
theorem same_eq (I : Inv X pins σ H s) (sr : SR X.K ρ st H) : ∀ (n : Nat) (u w : Val) (x : V) (b : Bool), Rl X.K ρ H u x → Rl X.K ρ H w x → eqD n st u w = some b → b = true
  | 0, _, _, _, _, _, _, e => by cases e
  | n + 1, u, w, x, b, r1, r2, e => by
    have lst : ∀ (us ws : List Val) (vs : List V) (b : Bool), Rls X.K ρ H us vs → Rls X.K ρ H ws vs → eqDs (eqD n st) us ws = some b → b = true := by
      intro us
      induction us with
      | nil =>
        intro ws vs b h1 h2 e
        have := h1.unnil
        subst this
        have hw : ws = [] := List.eq_nil_of_length_eq_zero h2.length
        subst hw
        injection e with e; exact e.symm
      | cons u us ih =>
        intro ws vs b h1 h2 e
        obtain ⟨v, r, rfl, q1, q2⟩ := h1.uncons
        cases ws with
        | nil => have := h2.unnil; cases this
        | cons w ws =>
          obtain ⟨v', r', e', q3, q4⟩ := h2.uncons
          cases e'
          unfold eqDs at e
          split at e
          · rename_i a c z1 z2
            injection e with e
            rw [← e, same_eq I sr n u w v a q1 q3 z1, ih ws r c q2 q4 z2]; rfl
          · cases e
    unfold eqD at e
    cases u <;> cases w <;> dsimp only [vw] at e <;> try (cases e; done)
    all_goals first
      | (have z1 := Rl.int_ r1; subst z1; have z2 := Rl.int_ r2; cases z2; injection e with e; rw [← e]; exact beq_self_eq_true _)
      | (have z1 := Rl.bl_ r1; subst z1; have z2 := Rl.bl_ r2; cases z2; injection e with e; rw [← e]; exact beq_self_eq_true _)
      | (have z1 := Rl.str_ r1; subst z1; have z2 := Rl.str_ r2; cases z2; injection e with e; rw [← e]; exact beq_self_eq_true _)
      | (have z1 := Rl.non_ r1; subst z1; injection e with e; exact e.symm)
      | skip
    case tup.tup us ws =>
      obtain ⟨a, vs, rfl, ha, ra⟩ := r1.tup_
      obtain ⟨a', vs', ea, hb, rb⟩ := r2.tup_
      cases ea
      have := I.tuple_inj ha hb
      subst this
      exact lst us ws vs b ra rb e
    case loc.loc i j =>
      obtain ⟨a, rfl, ha⟩ := r1.loc_
      obtain ⟨a', ea, hb⟩ := r2.loc_
      cases ea
      cases z : itemsOf st i with
      | none => rw [z] at e; cases e
      | some us =>
        cases z2 : itemsOf st j with
        | none => rw [z, z2] at e; cases e
        | some ws =>
          rw [z, z2] at e
          obtain ⟨vs, s1, rv⟩ := itemsOf_sq sr z ha
          obtain ⟨vs', s2, rv'⟩ := itemsOf_sq sr z2 hb
          have := I.list_inj s1 s2
          subst this
          exact lst us ws vs b rv rv' e
    all_goals (exfalso; first
      | (have z1 := Rl.int_ r1; subst z1; first | (have z2 := Rl.bl_ r2; cases z2; done) | (have z2 := Rl.str_ r2; cases z2; done) | (have z2 := Rl.non_ r2; cases z2; done) | (obtain ⟨_, _, z2, _⟩ := r2.tup_; cases z2; done) | (obtain ⟨_, z2, _⟩ := r2.loc_; cases z2; done))
      | (have z1 := Rl.bl_ r1; subst z1; first | (have z2 := Rl.int_ r2; cases z2; done) | (have z2 := Rl.str_ r2; cases z2; done) | (have z2 := Rl.non_ r2; cases z2; done) | (obtain ⟨_, _, z2, _⟩ := r2.tup_; cases z2; done) | (obtain ⟨_, z2, _⟩ := r2.loc_; cases z2; done))
      | (have z1 := Rl.str_ r1; subst z1; first | (have z2 := Rl.int_ r2; cases z2; done) | (have z2 := Rl.bl_ r2; cases z2; done) | (have z2 := Rl.non_ r2; cases z2; done) | (obtain ⟨_, _, z2, _⟩ := r2.tup_; cases z2; done) | (obtain ⟨_, z2, _⟩ := r2.loc_; cases z2; done))
      | (have z1 := Rl.non_ r1; subst z1; first | (have z2 := Rl.int_ r2; cases z2; done) | (have z2 := Rl.bl_ r2; cases z2; done) | (have z2 := Rl.str_ r2; cases z2; done) | (obtain ⟨_, _, z2, _⟩ := r2.tup_; cases z2; done) | (obtain ⟨_, z2, _⟩ := r2.loc_; cases z2; done))
      | (obtain ⟨_, _, z1, _⟩ := r1.tup_; subst z1; first | (have z2 := Rl.int_ r2; cases z2; done) | (have z2 := Rl.bl_ r2; cases z2; done) | (have z2 := Rl.str_ r2; cases z2; done) | (have z2 := Rl.non_ r2; cases z2; done))
      | (obtain ⟨_, z1, _⟩ := r1.loc_; subst z1; first | (have z2 := Rl.int_ r2; cases z2; done) | (have z2 := Rl.bl_ r2; cases z2; done) | (have z2 := Rl.str_ r2; cases z2; done) | (have z2 := Rl.non_ r2; cases z2; done))
      | skip)
    case tup.loc us j =>
      obtain ⟨a, vs, rfl, ha, ra⟩ := r1.tup_
      obtain ⟨a', ea, hb⟩ := r2.loc_
      cases ea
      cases z : itemsOf st j with
      | none => rw [z] at e; cases e
      | some us' =>
        obtain ⟨ws, hw, _⟩ := itemsOf_sq sr z hb
        obtain ⟨_, _, p1, _⟩ := I.tuple ha
        obtain ⟨_, _, p2, _⟩ := I.list hw
        exact SeqAt.ne_of_list_tuple p2.isList p1 rfl
    case loc.tup i us =>
      obtain ⟨a, rfl, ha⟩ := r1.loc_
      obtain ⟨a', vs, ea, hb, rb⟩ := r2.tup_
      cases ea
      cases z : itemsOf st i with
      | none => rw [z] at e; cases e
      | some us' =>
        obtain ⟨ws, hw, _⟩ := itemsOf_sq sr z ha
        obtain ⟨_, _, p1, _⟩ := I.tuple hb
        obtain ⟨_, _, p2, _⟩ := I.list hw
        exact SeqAt.ne_of_list_tuple p2.isList p1 rfl
    all_goals (cases z : itemsOf st _ <;> rw [z] at e <;> cases e)
noncomputable def SeenV (X : Cx) (ρ : List Addr) (H : Hp) (s : Shared) : Vw → Val → Value → Prop
  | .tup us, _, v => ∃ a its vs, v = .ref a ∧ s.heap.IsTuple a (List.toArray its) ∧ Vals vs its ∧ Rls X.K ρ H us vs
  | .lst us, _, v => ∃ a its vs, v = .ref a ∧ s.heap.IsList a (List.toArray its) ∧ Vals vs its ∧ Rls X.K ρ H us vs
  | .flt, u, v => (u = .non ∧ v = .none) ∨ (∃ b, u = .bl b ∧ v = .bool b) ∨ (∃ i t, u = .int i ∧ v = .int i t) ∨ (∃ z t, u = .str z ∧ v = .str z t)
theorem seen (I : Inv X pins σ H s) (sr : SR X.K ρ st H) {u : Val} {x : V} {v : Value} {k : Vw} (r : Rl X.K ρ H u x) (q : RelV x v) (h : vw st u = some k) : SeenV X ρ H s k u v := by
  cases u with
  | non => cases h; have := r.non_; subst this; exact .inl ⟨rfl, q⟩
  | bl b => cases h; have := r.bl_; subst this; exact .inr (.inl ⟨b, rfl, q⟩)
  | int i => cases h; have := r.int_; subst this; obtain ⟨t, q⟩ := q; exact .inr (.inr (.inl ⟨i, t, rfl, q⟩))
  | str z => cases h; have := r.str_; subst this; obtain ⟨t, q⟩ := q; exact .inr (.inr (.inr ⟨z, t, rfl, q⟩))
  | tup us =>
    cases h
    obtain ⟨a, vs, rfl, ha, ra⟩ := r.tup_
    obtain ⟨its, r1, p1, _⟩ := I.tuple ha
    exact ⟨a, its, vs, q, p1, r1, ra⟩
  | loc n =>
    obtain ⟨a, rfl, ha⟩ := r.loc_
    cases z : itemsOf st n with
    | none => simp only [vw, z] at h; cases h
    | some us =>
      simp only [vw, z] at h
      cases h
      obtain ⟨vs, hs, rv⟩ := itemsOf_sq sr z ha
      obtain ⟨its, r1, p1, _⟩ := I.list hs
      exact ⟨a, its, vs, q, p1.isList, r1, rv⟩
  | exc c => cases h
  | fn k c => cases h
  | mt us => cases h
theorem els_of {A : Around} {f : Val → Val → Option Bool} {us ws : List Val} {xs ys : List V} {its its2 : List Value} {b : Bool} (e : eqDs f us ws = some b) (ra : Rls X.K ρ H us xs) (rb : Rls X.K ρ H ws ys) (va : Vals xs its) (vb : Vals ys its2)
    (ih : ∀ u w x y vu vw c, Rl X.K ρ H u x → RelV x vu → Rl X.K ρ H w y → RelV y vw → f u w = some c → SeqAt.EqAt A s vu vw c) :
    ∀ j (h1 : j < its.toArray.size) (h2 : j < its2.toArray.size), SeqAt.EqAt A s its.toArray[j] its2.toArray[j] (eqJ f us ws j) := by
  intro j h1 h2
  have l1 := va.length
  have l2 := vb.length
  have l3 := ra.length
  have l4 := rb.length
  simp only [List.size_toArray] at h1 h2
  have e1 : us[j]? = some us[j] := List.getElem?_eq_getElem (by omega)
  have e2 : ws[j]? = some ws[j] := List.getElem?_eq_getElem (by omega)
  obtain ⟨x, hx, rx⟩ := ra.get e1
  obtain ⟨y, hy, ry⟩ := rb.get e2
  obtain ⟨u, hu, ru⟩ := va.get hx
  obtain ⟨v, hv, rv⟩ := vb.get hy
  have q1 : its.toArray[j] = u := by
    obtain ⟨_, e⟩ := List.getElem?_eq_some_iff.mp hu
    simpa using e
  have q2 : its2.toArray[j] = v := by
    obtain ⟨_, e⟩ := List.getElem?_eq_some_iff.mp hv
    simpa using e
  obtain ⟨c, hc⟩ := eqDs_at e j _ _ e1 e2
  rw [q1, q2]
  unfold eqJ
  rw [e1, e2]
  dsimp only
  rw [hc]
  exact ih _ _ _ _ _ _ c rx ru ry rv hc
theorem in1_units (A : Around) : A.in1.units = A.units + 1 := by rfl
theorem rc_M {A : Around} (I : Inv X pins σ H s) (sr : SR X.K ρ st H) (n : Nat) (ih : ∀ u w x y vu vw c, Rl X.K ρ H u x → RelV x vu → Rl X.K ρ H w y → RelV y vw → eqD n st u w = some c → SeqAt.EqAt A.in1 s vu vw c) (hu : A.units < cLine)
    {u w : Val} {x y : V} {v1 v2 : Value} {b : Bool} (r1 : Rl X.K ρ H u x) (q1 : RelV x v1) (r2 : Rl X.K ρ H w y) (q2 : RelV y v2) (e : eqD (n + 1) st u w = some b) : SeqAt.RcAt A s v1 v2 b ∧ SeqAt.RcNeAt A s v1 v2 (!b) := by
  unfold eqD at e
  cases z1 : vw st u with
  | none => rw [z1] at e; cases e
  | some k1 =>
    cases z2 : vw st w with
    | none => rw [z1, z2] at e; cases k1 <;> cases e
    | some k2 =>
      rw [z1, z2] at e
      have s1 := seen I sr r1 q1 z1
      have s2 := seen I sr r2 q2 z2
      cases k1 with
      | tup us =>
        obtain ⟨a, its, xs, rfl, p1, va, ra⟩ := s1
        cases k2 with
        | tup ws =>
          obtain ⟨a2, its2, ys, rfl, p2, vb, rb⟩ := s2
          have el := els_of e ra rb va vb ih
          have l1 := va.length
          have l2 := vb.length
          have l3 := ra.length
          have l4 := rb.length
          have hb : ((List.range (min its.toArray.size its2.toArray.size)).all (eqJ (eqD n st) us ws) && its.toArray.size == its2.toArray.size) = b := by
            by_cases hl : us.length = ws.length
            · rw [show min its.toArray.size its2.toArray.size = us.length by simp only [List.size_toArray]; omega, eqDs_all e hl, show (its.toArray.size == its2.toArray.size) = true by simp only [List.size_toArray, beq_iff_eq]; omega, Bool.and_true]
            · rw [show (its.toArray.size == its2.toArray.size) = false by simp only [List.size_toArray, beq_eq_false_iff_ne]; omega, Bool.and_false]
              exact (eqDs_len e hl).symm
          have g1 := SeqAt.RcAt.tuples p1 p2 hu el
          have g2 := SeqAt.RcNeAt.tuples p1 p2 hu el
          rw [hb] at g1 g2
          exact ⟨g1, g2⟩
        | lst ws =>
          obtain ⟨a2, its2, ys, rfl, p2, vb, rb⟩ := s2
          cases e
          exact ⟨SeqAt.RcAt.tuple_list p1 p2 hu, SeqAt.RcNeAt.tuple_list p1 p2 hu⟩
        | flt =>
          cases e
          rcases s2 with ⟨_, rfl⟩ | ⟨k, _, rfl⟩ | ⟨k, t, _, rfl⟩ | ⟨k, t, _, rfl⟩
          · exact ⟨SeqAt.RcAt.tuple_none p1 hu, SeqAt.RcNeAt.tuple_none p1 hu⟩
          · exact ⟨SeqAt.RcAt.tuple_bool _ p1 hu, SeqAt.RcNeAt.tuple_bool _ p1 hu⟩
          · exact ⟨SeqAt.RcAt.tuple_int _ _ p1 hu, SeqAt.RcNeAt.tuple_int _ _ p1 hu⟩
          · exact ⟨SeqAt.RcAt.tuple_str _ _ p1 hu, SeqAt.RcNeAt.tuple_str _ _ p1 hu⟩
      | lst us =>
        obtain ⟨a, its, xs, rfl, p1, va, ra⟩ := s1
        cases k2 with
        | tup ws =>
          obtain ⟨a2, its2, ys, rfl, p2, vb, rb⟩ := s2
          cases e
          exact ⟨SeqAt.RcAt.list_tuple p1 p2 hu, SeqAt.RcNeAt.list_tuple p1 p2 hu⟩
        | lst ws =>
          obtain ⟨a2, its2, ys, rfl, p2, vb, rb⟩ := s2
          have l1 := va.length
          have l2 := vb.length
          have l3 := ra.length
          have l4 := rb.length
          by_cases hl : us.length = ws.length
          · have hs : its.toArray.size = its2.toArray.size := by simp only [List.size_toArray]; omega
            have el := els_of e ra rb va vb ih
            have g1 := SeqAt.RcAt.lists p1 p2 hs hu el
            have g2 := SeqAt.RcNeAt.lists p1 p2 hs hu el
            rw [show its.toArray.size = us.length by simp only [List.size_toArray]; omega, eqDs_all e hl] at g1 g2
            exact ⟨g1, g2⟩
          · have hs : (its.toArray.size != its2.toArray.size) = true := by simp only [List.size_toArray, bne_iff_ne]; omega
            rw [eqDs_len e hl]
            exact ⟨SeqAt.RcAt.lists_lengths p1 p2 hs hu, SeqAt.RcNeAt.lists_lengths p1 p2 hs hu⟩
        | flt =>
          cases e
          rcases s2 with ⟨_, rfl⟩ | ⟨k, _, rfl⟩ | ⟨k, t, _, rfl⟩ | ⟨k, t, _, rfl⟩
          · exact ⟨SeqAt.RcAt.list_none p1 hu, SeqAt.RcNeAt.list_none p1 hu⟩
          · exact ⟨SeqAt.RcAt.list_bool _ p1 hu, SeqAt.RcNeAt.list_bool _ p1 hu⟩
          · exact ⟨SeqAt.RcAt.list_int _ _ p1 hu, SeqAt.RcNeAt.list_int _ _ p1 hu⟩
          · exact ⟨SeqAt.RcAt.list_str _ _ p1 hu, SeqAt.RcNeAt.list_str _ _ p1 hu⟩
      | flt =>
        cases k2 with
        | tup ws =>
          obtain ⟨a2, its2, ys, rfl, p2, vb, rb⟩ := s2
          cases e
          rcases s1 with ⟨_, rfl⟩ | ⟨k, _, rfl⟩ | ⟨k, t, _, rfl⟩ | ⟨k, t, _, rfl⟩
          · exact ⟨SeqAt.RcAt.none_tuple p2 hu, SeqAt.RcNeAt.none_tuple p2 hu⟩
          · exact ⟨SeqAt.RcAt.bool_tuple _ p2 hu, SeqAt.RcNeAt.bool_tuple _ p2 hu⟩
          · exact ⟨SeqAt.RcAt.int_tuple _ _ p2 hu, SeqAt.RcNeAt.int_tuple _ _ p2 hu⟩
          · exact ⟨SeqAt.RcAt.str_tuple _ _ p2 hu, SeqAt.RcNeAt.str_tuple _ _ p2 hu⟩
        | lst ws =>
          obtain ⟨a2, its2, ys, rfl, p2, vb, rb⟩ := s2
          cases e
          rcases s1 with ⟨_, rfl⟩ | ⟨k, _, rfl⟩ | ⟨k, t, _, rfl⟩ | ⟨k, t, _, rfl⟩
          · exact ⟨SeqAt.RcAt.none_list p2 hu, SeqAt.RcNeAt.none_list p2 hu⟩
          · exact ⟨SeqAt.RcAt.bool_list _ p2 hu, SeqAt.RcNeAt.bool_list _ p2 hu⟩
          · exact ⟨SeqAt.RcAt.int_list _ _ p2 hu, SeqAt.RcNeAt.int_list _ _ p2 hu⟩
          · exact ⟨SeqAt.RcAt.str_list _ _ p2 hu, SeqAt.RcNeAt.str_list _ _ p2 hu⟩
        | flt =>
          injection e with e
          subst e
          rcases s1 with ⟨rfl, rfl⟩ | ⟨i, rfl, rfl⟩ | ⟨i, t, rfl, rfl⟩ | ⟨i, t, rfl, rfl⟩ <;> rcases s2 with ⟨rfl, rfl⟩ | ⟨j, rfl, rfl⟩ | ⟨j, t', rfl, rfl⟩ | ⟨j, t', rfl, rfl⟩
          · exact ⟨SeqAt.RcAt.none_none, SeqAt.RcNeAt.none_none⟩
          · exact ⟨SeqAt.RcAt.none_bool _, SeqAt.RcNeAt.none_bool _⟩
          · exact ⟨SeqAt.RcAt.none_int _ _, SeqAt.RcNeAt.none_int _ _⟩
          · exact ⟨SeqAt.RcAt.none_str _ _, SeqAt.RcNeAt.none_str _ _⟩
          · exact ⟨SeqAt.RcAt.bool_none _, SeqAt.RcNeAt.bool_none _⟩
          · exact ⟨SeqAt.RcAt.bool_bool _ _, SeqAt.RcNeAt.bool_bool _ _⟩
          · exact ⟨SeqAt.RcAt.bool_int _ _ _, SeqAt.RcNeAt.bool_int _ _ _⟩
          · exact ⟨SeqAt.RcAt.bool_str _ _ _, SeqAt.RcNeAt.bool_str _ _ _⟩
          · exact ⟨SeqAt.RcAt.int_none _ _, SeqAt.RcNeAt.int_none _ _⟩
          · exact ⟨SeqAt.RcAt.int_bool _ _ _, SeqAt.RcNeAt.int_bool _ _ _⟩
          · exact ⟨SeqAt.RcAt.int_int _ _ _ _, SeqAt.RcNeAt.int_int _ _ _ _⟩
          · exact ⟨SeqAt.RcAt.int_str _ _ _ _, SeqAt.RcNeAt.int_str _ _ _ _⟩
          · exact ⟨SeqAt.RcAt.str_none _ _, SeqAt.RcNeAt.str_none _ _⟩
          · exact ⟨SeqAt.RcAt.str_bool _ _ _, SeqAt.RcNeAt.str_bool _ _ _⟩
          · exact ⟨SeqAt.RcAt.str_int _ _ _ _, SeqAt.RcNeAt.str_int _ _ _ _⟩
          · exact ⟨SeqAt.RcAt.str_str _ _ _ _, SeqAt.RcNeAt.str_str _ _ _ _⟩
theorem eq_flat {A : Around} {u w : Val} {v1 v2 : Value} (s1 : SeenV X ρ H s .flt u v1) (s2 : SeenV X ρ H s .flt w v2) : SeqAt.EqAt A s v1 v2 (eqF u w) := by
  rcases s1 with ⟨rfl, rfl⟩ | ⟨i, rfl, rfl⟩ | ⟨i, t, rfl, rfl⟩ | ⟨i, t, rfl, rfl⟩ <;> rcases s2 with ⟨rfl, rfl⟩ | ⟨j, rfl, rfl⟩ | ⟨j, t', rfl, rfl⟩ | ⟨j, t', rfl, rfl⟩
  · exact SeqAt.EqAt.same _
  · exact SeqAt.EqAt.none_bool _
  · exact SeqAt.EqAt.none_int _ _
  · exact SeqAt.EqAt.none_str _ _
  · exact SeqAt.EqAt.bool_none _
  · exact SeqAt.EqAt.bool_bool _ _
  · exact SeqAt.EqAt.bool_int _ _ _
  · exact SeqAt.EqAt.bool_str _ _ _
  · exact SeqAt.EqAt.int_none _ _
  · exact SeqAt.EqAt.int_bool _ _ _
  · exact SeqAt.EqAt.int_int _ _ _ _
  · exact SeqAt.EqAt.int_str _ _ _ _
  · exact SeqAt.EqAt.str_none _ _
  · exact SeqAt.EqAt.str_bool _ _ _
  · exact SeqAt.EqAt.str_int _ _ _ _
  · exact SeqAt.EqAt.str_str _ _ _ _
theorem eqAt_M (I : Inv X pins σ H s) (sr : SR X.K ρ st H) : ∀ (n : Nat) (A : Around), A.units + n < cLine → ∀ (u w : Val) (x y : V) (v1 v2 : Value) (b : Bool), Rl X.K ρ H u x → RelV x v1 → Rl X.K ρ H w y → RelV y v2 → eqD n st u w = some b → SeqAt.EqAt A s v1 v2 b
  | 0, _, _, _, _, _, _, _, _, _, _, _, _, _, e => by cases e
  | n + 1, A, hu, u, w, x, y, v1, v2, b, r1, q1, r2, q2, e => by
    have rc := (rc_M I sr n (fun u w x y vu vw c a1 a2 a3 a4 a5 => eqAt_M I sr n A.in1 (by rw [in1_units]; omega) u w x y vu vw c a1 a2 a3 a4 a5) (by omega) r1 q1 r2 q2 e).1
    have refs : ∀ a a2, v1 = .ref a → v2 = .ref a2 → SeqAt.EqAt A s v1 v2 b := by
      intro a a2 e1 e2
      subst e1 e2
      by_cases hn : a = a2
      · subst hn
        have hx : x = y := q1.inj q2
        subst hx
        rw [same_eq I sr (n + 1) u w x b r1 r2 e]
        exact SeqAt.EqAt.same _
      · exact SeqAt.EqAt.of_refs hn rc
    cases z1 : vw st u with
    | none => unfold eqD at e; rw [z1] at e; cases e
    | some k1 =>
      cases z2 : vw st w with
      | none => unfold eqD at e; rw [z1, z2] at e; cases k1 <;> cases e
      | some k2 =>
        have s1 := seen I sr r1 q1 z1
        have s2 := seen I sr r2 q2 z2
        unfold eqD at e
        rw [z1, z2] at e
        cases k1 with
        | tup us =>
          obtain ⟨a, its, xs, rfl, p1, va, ra⟩ := s1
          cases k2 with
          | tup ws => obtain ⟨a2, its2, ys, rfl, p2, vb, rb⟩ := s2; exact refs a a2 rfl rfl
          | lst ws => obtain ⟨a2, its2, ys, rfl, p2, vb, rb⟩ := s2; exact refs a a2 rfl rfl
          | flt =>
            cases e
            rcases s2 with ⟨_, rfl⟩ | ⟨k, _, rfl⟩ | ⟨k, t, _, rfl⟩ | ⟨k, t, _, rfl⟩
            · exact SeqAt.EqAt.tuple_none p1 (by omega)
            · exact SeqAt.EqAt.tuple_bool _ p1 (by omega)
            · exact SeqAt.EqAt.tuple_int _ _ p1 (by omega)
            · exact SeqAt.EqAt.tuple_str _ _ p1 (by omega)
        | lst us =>
          obtain ⟨a, its, xs, rfl, p1, va, ra⟩ := s1
          cases k2 with
          | tup ws => obtain ⟨a2, its2, ys, rfl, p2, vb, rb⟩ := s2; exact refs a a2 rfl rfl
          | lst ws => obtain ⟨a2, its2, ys, rfl, p2, vb, rb⟩ := s2; exact refs a a2 rfl rfl
          | flt =>
            cases e
            rcases s2 with ⟨_, rfl⟩ | ⟨k, _, rfl⟩ | ⟨k, t, _, rfl⟩ | ⟨k, t, _, rfl⟩
            · exact SeqAt.EqAt.list_none p1 (by omega)
            · exact SeqAt.EqAt.list_bool _ p1 (by omega)
            · exact SeqAt.EqAt.list_int _ _ p1 (by omega)
            · exact SeqAt.EqAt.list_str _ _ p1 (by omega)
        | flt =>
          cases k2 with
          | tup ws =>
            obtain ⟨a2, its2, ys, rfl, p2, vb, rb⟩ := s2
            cases e
            rcases s1 with ⟨_, rfl⟩ | ⟨k, _, rfl⟩ | ⟨k, t, _, rfl⟩ | ⟨k, t, _, rfl⟩
            · exact SeqAt.EqAt.none_tuple p2 (by omega)
            · exact SeqAt.EqAt.bool_tuple _ p2 (by omega)
            · exact SeqAt.EqAt.int_tuple _ _ p2 (by omega)
            · exact SeqAt.EqAt.str_tuple _ _ p2 (by omega)
          | lst ws =>
            obtain ⟨a2, its2, ys, rfl, p2, vb, rb⟩ := s2
            cases e
            rcases s1 with ⟨_, rfl⟩ | ⟨k, _, rfl⟩ | ⟨k, t, _, rfl⟩ | ⟨k, t, _, rfl⟩
            · exact SeqAt.EqAt.none_list p2 (by omega)
            · exact SeqAt.EqAt.bool_list _ p2 (by omega)
            · exact SeqAt.EqAt.int_list _ _ p2 (by omega)
            · exact SeqAt.EqAt.str_list _ _ p2 (by omega)
          | flt =>
            injection e with e
            subst e
            exact eq_flat s1 s2
noncomputable def eqM : F2 := fun u w st => match eqD 16 st u w with
  | some b => .ok (.bl b) st
  | none => .bad
noncomputable def neM : F2 := fun u w st => match eqD 16 st u w with
  | some b => .ok (.bl (!b)) st
  | none => .bad
theorem op_eqM {E : XK} (hu : X.A.units + 64 < cLine) : OpR X (compareOp .Eq) (rM (wo X) E eqM) := by
  intro pins s σ H x y v u Q I rx ry h
  obtain ⟨ρ, st, u1, w1, sr, r1, r2, h⟩ := h
  unfold eqM at h
  split at h
  · rename_i b e
    exact (rc_M I sr 15 (eqAt_M I sr 15 X.A.in1 (by rw [in1_units]; omega)) (by omega) r1 rx r2 ry e).1 X.prog X.w X.xe (EP X pins σ Q) ⟨.bl b, H, I, rfl, fin_b sr h⟩
  · exact h.elim
theorem op_neM {E : XK} (hu : X.A.units + 64 < cLine) : OpR X (compareOp .NotEq) (rM (wo X) E neM) := by
  intro pins s σ H x y v u Q I rx ry h
  obtain ⟨ρ, st, u1, w1, sr, r1, r2, h⟩ := h
  unfold neM at h
  split at h
  · rename_i b e
    exact (rc_M I sr 15 (eqAt_M I sr 15 X.A.in1 (by rw [in1_units]; omega)) (by omega) r1 rx r2 ry e).2 X.prog X.w X.xe (EP X pins σ Q) ⟨.bl (!b), H, I, rfl, fin_b sr h⟩
  · exact h.elim
noncomputable def seqOf (st : Store) : Val → Option (List Val)
  | .tup us => some us
  | .mt us => some us
  | .loc n => itemsOf st n
  | _ => none
noncomputable def inW (neg : Bool) : F2 := fun u w st => match seqOf st w with
  | some us => if flat u = true ∧ us.all flat = true then .ok (.bl (if neg then !us.any (fun y => eqF y u) else us.any (fun y => eqF y u))) st else .bad
  | none => .bad
theorem flat_rel {K : PySem.W.Frag} {u w : Val} {x y : V} (f1 : flat u = true) (f2 : flat w = true) (r1 : Rl K ρ H u x) (r2 : Rl K ρ H w y) : flatV x = true ∧ flatV y = true ∧ eqV x y = eqF u w := by
  cases u <;> (try cases f1) <;> cases w <;> (try cases f2) <;>
    (first | (have z1 := Rl.int_ r1; subst z1) | (have z1 := Rl.bl_ r1; subst z1) | (have z1 := Rl.str_ r1; subst z1) | (have z1 := Rl.non_ r1; subst z1)) <;>
    (first | (have z2 := Rl.int_ r2; subst z2) | (have z2 := Rl.bl_ r2; subst z2) | (have z2 := Rl.str_ r2; subst z2) | (have z2 := Rl.non_ r2; subst z2)) <;> exact ⟨rfl, rfl, rfl⟩
theorem flat_any {K : PySem.W.Frag} {u : Val} {x : V} (f : flat u = true) (r : Rl K ρ H u x) : ∀ {us : List Val} {vs : List V}, us.all flat = true → Rls K ρ H us vs → vs.all flatV = true ∧ inV x vs = us.any fun y => eqF y u
  | [], vs, _, h => by rw [h.unnil]; exact ⟨rfl, rfl⟩
  | w :: us, vs, hf, h => by
    obtain ⟨v, r', rfl, h2, h3⟩ := h.uncons
    rw [List.all_cons, Bool.and_eq_true] at hf
    obtain ⟨a, b, c⟩ := flat_rel hf.1 f h2 r
    obtain ⟨d, e⟩ := flat_any f r hf.2 h3
    refine ⟨by rw [List.all_cons, a, d]; rfl, ?_⟩
    show (eqV v x || inV x r') = _
    rw [c, e]; rfl
theorem in_read {E : XK} {neg : Bool} {x y : V} {H : Hp} {Q : VK} (h : rM (wo X) E (inW neg) x y H Q) : rIn X.K neg x y H Q := by
  obtain ⟨ρ, st, u, w, sr, r1, r2, h⟩ := h
  unfold inW at h
  split at h
  · rename_i us e
    split at h
    · rename_i hz
      cases w with
      | tup ws =>
        cases e
        obtain ⟨a, vs, rfl, ha, ra⟩ := r2.tup_
        obtain ⟨q1, q2⟩ := flat_any hz.1 r1 hz.2 ra
        refine ⟨a, vs, rfl, .inr ha, (flat_rel hz.1 hz.1 r1 r1).1, q1, ?_⟩
        rw [q2]
        exact fin_b sr h
      | mt ws =>
        cases e
        obtain ⟨a, vs, rfl, ha, ra⟩ := r2.mt_
        obtain ⟨q1, q2⟩ := flat_any hz.1 r1 hz.2 ra
        refine ⟨a, vs, rfl, .inr ha, (flat_rel hz.1 hz.1 r1 r1).1, q1, ?_⟩
        rw [q2]
        exact fin_b sr h
      | loc n =>
        obtain ⟨a, rfl, ha⟩ := r2.loc_
        obtain ⟨vs, hs, ra⟩ := itemsOf_sq sr e ha
        obtain ⟨q1, q2⟩ := flat_any hz.1 r1 hz.2 ra
        refine ⟨a, vs, rfl, .inl hs, (flat_rel hz.1 hz.1 r1 r1).1, q1, ?_⟩
        rw [q2]
        exact fin_b sr h
      | _ => cases e
    · exact h.elim
  · exact h.elim
theorem op_inM {E : XK} : OpR X (compareOp .In) (rM (wo X) E (inW false)) := OpR.imp op_in_seq fun _ _ _ _ h => in_read h
end
end MN
namespace MN
open PySem PySem.Spec L2
open PyProof.Rows hiding St
section
variable {X : Cx} {E : XK} {pos : Pos}
noncomputable def ixV : F2
  | .tup us, .int i, st => match atI us i with
    | some v => .ok v st
    | none => .bad
  | .loc n, .int i, st => match itemsOf st n with
    | some us => match atI us i with
      | some v => .ok v st
      | none => .bad
    | none => .bad
  | .str z, .int i, st => if z.length ≤ sizeLine then (match atI z.cps.toList i with
      | some c => .ok (.str ⟨#[c]⟩) st
      | none => .bad) else .bad
  | _, _, _ => .bad
theorem Rls.atI {K : PySem.W.Frag} {ρ : List Addr} {H : Hp} {us : List Val} {vs : List V} {i : Int} {u : Val} (r : Rls K ρ H us vs) (h : atI us i = some u) : ∃ v, L2.atI vs i = some v ∧ Rl K ρ H u v := by
  unfold L2.atI at h ⊢
  rw [← r.length]
  cases z : ixN us.length i with
  | none => rw [z] at h; cases h
  | some j =>
    rw [z] at h
    obtain ⟨v, h1, h2⟩ := r.get (show us[j]? = some u from h)
    exact ⟨v, h1, h2⟩
theorem ix_M : IxR X (rM (wo X) E ixV) := by
  refine IxR.imp (IxR.or ix_list (IxR.or ix_tup ix_str)) ?_
  rintro x y H Q ⟨ρ, st, u, w, sr, r1, r2, h⟩
  cases u <;> cases w <;> try exact h.elim
  case tup.int us i =>
    unfold ixV at h
    dsimp only at h
    split at h
    · rename_i v e
      obtain ⟨a, vs, rfl, ha, ra⟩ := r1.tup_
      obtain ⟨z, h1, h2⟩ := ra.atI e
      exact .inr (.inl ⟨a, vs, i, z, rfl, r2.int_, ha, h1, h ρ H z (Step.refl _ _) sr h2⟩)
    · exact h.elim
  case loc.int n i =>
    unfold ixV at h
    dsimp only at h
    split at h
    · rename_i us e
      split at h
      · rename_i v e'
        obtain ⟨a, rfl, ha⟩ := r1.loc_
        obtain ⟨vs, hs, rv⟩ := itemsOf_sq sr e ha
        obtain ⟨z, h1, h2⟩ := rv.atI e'
        exact .inl ⟨a, vs, i, z, rfl, r2.int_, hs, h1, h ρ H z (Step.refl _ _) sr h2⟩
      · exact h.elim
    · exact h.elim
  case str.int z i =>
    unfold ixV at h
    dsimp only at h
    split at h
    · rename_i hz
      split at h
      · rename_i c e
        exact .inr (.inr ⟨z, i, c, r1.str_, r2.int_, hz, e, h ρ H _ (Step.refl _ _) sr (Rl.mkStr _)⟩)
      · exact h.elim
    · exact h.elim
noncomputable def lenF : FN
  | [.tup us], st => .ok (.int us.length) st
  | [.loc n], st => match itemsOf st n with
    | some us => .ok (.int us.length) st
    | none => .bad
  | [.str z], st => if z.length ≤ sizeLine then .ok (.int z.length) st else .bad
  | _, _ => .bad
theorem call_lenM : CallR X (.builtin "len") (cM (wo X) E lenF) := by
  refine CallR.imp (CallR.or call_len_seq call_len_str) ?_
  rintro xs H Q ⟨ρ, st, us, sr, r, h⟩
  match us, r, h with
  | [], _, h => exact h.elim
  | [.tup ws], r, h =>
    obtain ⟨v, rfl, r1⟩ := r.un1
    obtain ⟨a, vs, rfl, ha, ra⟩ := r1.tup_
    refine .inl ⟨a, vs, rfl, .inr ha, ?_⟩
    rw [← ra.length]; exact fin_int sr h
  | [.loc n], r, h =>
    obtain ⟨v, rfl, r1⟩ := r.un1
    obtain ⟨a, rfl, ha⟩ := r1.loc_
    unfold lenF at h
    dsimp only at h
    split at h
    · rename_i ws e
      obtain ⟨vs, hs, rv⟩ := itemsOf_sq sr e ha
      refine .inl ⟨a, vs, rfl, .inl hs, ?_⟩
      rw [← rv.length]; exact fin_int sr h
    · exact h.elim
  | [.str z], r, h =>
    obtain ⟨v, rfl, r1⟩ := r.un1
    unfold lenF at h
    dsimp only at h
    split at h
    · rename_i hz
      exact .inr ⟨z, by rw [r1.str_], hz, fin_int sr h⟩
    · exact h.elim
  | [.non], _, h => exact h.elim
  | [.bl _], _, h => exact h.elim
  | [.int _], _, h => exact h.elim
  | [.exc _], _, h => exact h.elim
  | [.fn _ _], _, h => exact h.elim
  | [.mt _], _, h => exact h.elim
  | x :: y :: r, _, h => cases x <;> exact h.elim
noncomputable def absF : FN
  | [.int i], st => .ok (.int (if i < 0 then -i else i)) st
  | _, _ => .bad
noncomputable def tupF : FN
  | [.tup us], st => .ok (.tup us) st
  | [.loc n], st => match itemsOf st n with
    | some us => .ok (.tup us) st
    | none => .bad
  | _, _ => .bad
theorem call_tupM : CallR X (.type "tuple") (cM (wo X) E tupF) := by
  refine CallR.imp call_tuple_of ?_
  rintro xs H Q ⟨ρ, st, us, sr, r, h⟩
  unfold tupF at h
  split at h
  · rename_i ws
    obtain ⟨v, rfl, r1⟩ := r.un1
    obtain ⟨a, vs, rfl, ha, ra⟩ := r1.tup_
    exact ⟨a, vs, rfl, .inr ⟨ha, h ρ H _ (Step.refl _ _) sr r1⟩⟩
  · rename_i n
    obtain ⟨v, rfl, r1⟩ := r.un1
    obtain ⟨a, rfl, ha⟩ := r1.loc_
    split at h
    · rename_i ws e
      obtain ⟨vs, hs, rv⟩ := itemsOf_sq sr e ha
      refine ⟨a, vs, rfl, .inl ⟨hs, fun l hl => ?_⟩⟩
      have s := same_upd (o := .tup vs) hl
      exact h ρ _ _ (Step.same s) (sr.grow s) (Rl.mkTup upd_same (Rls.mono (Step.same s) _ _ rv))
    · exact h.elim
  · exact h.elim
noncomputable def lstF : FN
  | [.tup us], st => .ok (.loc st.length) (st ++ [.lst us])
  | [.loc n], st => match itemsOf st n with
    | some us => .ok (.loc st.length) (st ++ [.lst us])
    | none => .bad
  | _, _ => .bad
theorem call_lstM : CallR X (.type "list") (cM (wo X) E lstF) := by
  refine CallR.imp call_list_of ?_
  rintro xs H Q ⟨ρ, st, us, sr, r, h⟩
  unfold lstF at h
  split at h
  · rename_i ws
    obtain ⟨v, rfl, r1⟩ := r.un1
    obtain ⟨a, vs, rfl, ha, ra⟩ := r1.tup_
    refine ⟨a, vs, rfl, .inr ha, fun l hl => ?_⟩
    obtain ⟨k1, k2, k3⟩ := new_lst sr ra hl
    exact h _ _ _ k1 k2 k3
  · rename_i n
    obtain ⟨v, rfl, r1⟩ := r.un1
    obtain ⟨a, rfl, ha⟩ := r1.loc_
    split at h
    · rename_i ws e
      obtain ⟨vs, hs, rv⟩ := itemsOf_sq sr e ha
      refine ⟨a, vs, rfl, .inl hs, fun l hl => ?_⟩
      obtain ⟨k1, k2, k3⟩ := new_lst sr rv hl
      exact h _ _ _ k1 k2 k3
    · exact h.elim
  · exact h.elim
noncomputable def blsOf : List Val → Option (List Bool)
  | [] => some []
  | .bl b :: r => (blsOf r).map (b :: ·)
  | _ => none
theorem blsOf_are {K : PySem.W.Frag} {ρ : List Addr} {H : Hp} : ∀ {us : List Val} {bs : List Bool} {vs : List V} {its : List Value}, blsOf us = some bs → Rls K ρ H us vs → Vals vs its → LSm.BoolsAre its bs
  | [], bs, vs, its, h, r, v => by
    cases h
    have := r.unnil
    subst this
    cases v
    exact .nil
  | u :: us, bs, vs, its, h, r, v => by
    cases u with
    | bl b =>
      simp only [blsOf] at h
      cases z : blsOf us with
      | none => rw [z] at h; cases h
      | some bs' =>
        rw [z] at h
        cases h
        obtain ⟨x, r', rfl, h2, h3⟩ := r.uncons
        have := h2.bl_
        subst this
        cases v with
        | cons q1 q2 =>
          cases q1
          exact .cons b (blsOf_are z h3 q2)
    | _ => cases h
theorem call_all_bools (hh : X.A.handled = none) : CallR X (.builtin "all") (fun xs H Q => ∃ a ρ us vs bs, xs = [.ref a] ∧ SqL X.K H a vs ∧ Rls X.K ρ H us vs ∧ blsOf us = some bs ∧ Q (.bl (bs.all id)) H) := by
  rintro pins s σ H xs ws Q I r ⟨a, ρ, us, vs, bs, rfl, hs, rv, hb, q⟩
  obtain ⟨u, rfl, ru⟩ := vals1 r
  cases ru
  obtain ⟨its, r1, p1, _⟩ := I.list hs
  have B := blsOf_are hb rv r1
  have hl := p1.isList
  have hlt : a < s.heap.objs.size := by obtain ⟨_, e, _⟩ := hl; exact Heap.lt_size e
  refine call_all_walk (wpAny_pyIter_list hl ?_)
  refine ⟨s.heap.objs.size, [s.heap.objs.size, a], [s.heap.objs.size], its.toArray.size, _, _, fun i => (bs[i]?).getD true, rfl, Walks.list (A := X.A.in1) hh _ a (Nat.ne_of_lt hlt) its.toArray,
    ⟨⟨_, Heap.get?_push_size _ rfl, rfl, rfl⟩, hl.push _⟩, fun i v s' Q' E' hP hQ => ?_, fun h' tk hk => ?_⟩
  · obtain ⟨b, e, rfl⟩ := B.get i v (by simpa using hP)
    simp only [e, Option.getD_some] at hQ
    exact wpAny_truthy_bool hQ
  · have e : ((List.range its.toArray.size).all fun i => (bs[i]?).getD true) = bs.all id := by
      rw [List.size_toArray, B.length]; exact LSm.range_all bs
    rw [e]
    exact ⟨.bl _, H, I.kept (LSm.kept_iter hk), rfl, q⟩
noncomputable def allF : FN
  | [.loc n], st => match itemsOf st n with
    | some us => match blsOf us with
      | some bs => .ok (.bl (bs.all id)) st
      | none => .bad
    | none => .bad
  | _, _ => .bad
theorem call_allM (hh : X.A.handled = none) : CallR X (.builtin "all") (cM (wo X) E allF) := by
  refine CallR.imp (call_all_bools hh) ?_
  rintro xs H Q ⟨ρ, st, us, sr, r, h⟩
  unfold allF at h
  split at h
  · rename_i n
    obtain ⟨v, rfl, r1⟩ := r.un1
    obtain ⟨a, rfl, ha⟩ := r1.loc_
    split at h
    · rename_i ws e
      split at h
      · rename_i bs hb
        obtain ⟨vs, hs, rv⟩ := itemsOf_sq sr e ha
        exact ⟨a, ρ, ws, vs, bs, rfl, hs, rv, hb, fin_b sr h⟩
      · exact h.elim
    · exact h.elim
  · exact h.elim
noncomputable def kindOf (st : Store) : Val → Option String
  | .non => some "NoneType"
  | .bl _ => some "bool"
  | .int _ => some "int"
  | .str _ => some "str"
  | .tup _ => some "tuple"
  | .loc n => match st[n]? with
    | some (.lst _) => some "list"
    | some (.fro _) => some "list"
    | some (.mod _) => none
    | some (.dK _) => some "dict"
    | some (.dT _) => some "dict"
    | none => none
  | _ => none
noncomputable def isT (T : String) (st : Store) (v : Val) : Option Bool := (kindOf st v).map fun k => k == T || (k == "bool" && T == "int")
noncomputable def mIs (T : String) (m : ME) : ME := fun μ st => (m μ st).bind fun v st' => match isT T st' v with
  | some b => .ok (.bl b) st'
  | none => .bad
noncomputable def KitT (K : PySem.W.Frag) (T : String) : Prop := ∀ k ∈ ["NoneType", "bool", "int", "str", "tuple", "list", "dict"], PySem.W.kitOne K (.type k) (.type T) = some (k == T || (k == "bool" && T == "int"))
theorem kindOf_mem {st : Store} {v : Val} {k : String} (h : kindOf st v = some k) : k ∈ ["NoneType", "bool", "int", "str", "tuple", "list", "dict"] := by
  unfold kindOf at h
  split at h
  all_goals first
    | (cases h; decide)
    | (split at h <;> first | (cases h; decide) | cases h)
    | cases h
theorem isinst_M {pins : List (Addr × Obj)} {σ : St} {H : Hp} {s : Shared} {A : Around} {E : Value → Shared → Prop} {Q : Value → Shared → Prop} {c : Value} {b : Bool} {ρ : List Addr} {st : Store} {u : Val} {x : V} {v : Value} {k : String}
    (I : Inv X pins σ H s) (sr : SR X.K ρ st H) (r : Rl X.K ρ H u x) (q : RelV x v) (hk : kindOf st u = some k) (e : PySem.W.kitOne X.K (.type k) c = some b) (h : ∀ tk, Q (.bool b) { s with toks := tk }) :
    wpAny (model X.prog X.w) A (call (.builtin "isinstance") [v, c]) Q E s := by
  cases u with
  | non => cases hk; have := r.non_; subst this; exact isinst_ok I q .non e h
  | bl y => cases hk; have := r.bl_; subst this; exact isinst_ok I q (.bl y) e h
  | int i => cases hk; have := r.int_; subst this; exact isinst_ok I q (.int i) e h
  | str y => cases hk; have := r.str_; subst this; exact isinst_ok I q (.str y) e h
  | tup us =>
    cases hk
    obtain ⟨a, vs, rfl, ha, ra⟩ := r.tup_
    cases q
    obtain ⟨its, r1, ⟨o, h1, h2, _⟩, _⟩ := I.tuple ha
    exact PySem.W.kia_one PySem.W.kitx_tuple I.kIn ⟨o, h1, h2⟩ e (fun z => nomatch z) h
  | loc n =>
    obtain ⟨a, rfl, ha⟩ := r.loc_
    obtain ⟨cl, hc, kc⟩ := sr.there ha
    simp only [kindOf, hc] at hk
    cases cl with
    | lst us => cases hk; obtain ⟨vs, h1, _⟩ := kc; exact isinst_ok I q (.lst h1) e h
    | fro us => cases hk; obtain ⟨o, vs, h1, _⟩ := kc; exact isinst_ok I q (.frz h1) e h
    | mod us => cases hk
    | dK us => cases hk; obtain ⟨vs, h1, _⟩ := kc; exact isinst_ok I q (.dK h1) e h
    | dT us => cases hk; obtain ⟨vs, h1, _⟩ := kc; exact isinst_ok I q (.dT h1) e h
  | exc c => cases hk
  | fn k c => cases hk
  | mt us => cases hk
theorem me_isT {T : String} {x : Str} {e : Expr} {m : ME} {p q : Pos} (hK : KitT X.K T) (hg : Gl X "isinstance") (hm : X.mg "isinstance" = none) (hgT : Gl X x) (hmT : X.mg x = none) (hvT : bootBuiltins x = some (.type T)) (he : PE X e (tE X E m))
    (hn : x ≠ "__name__" := by decide) (hd : (x == ("__debug__" : Str)) = false := by decide)
    (hs : starEach [e, .Name x q] X.env = (false, eval e X.env) :: starEach [.Name x q] X.env := by rfl) (hs2 : starEach [.Name x q] X.env = (false, eval (.Name x q) X.env) :: starEach [] X.env := by rfl)
    (hpl : (backTo pos (starEach [.Name x q] X.env)).any (·.1) = false := by rfl) : PE X (.Call (.Name "isinstance" p) [e, .Name x q] [] pos) (tE X E (mIs T m)) := by
  have hc : CallR X (.builtin "isinstance") (fun xs H Q => ∃ y ρ st u k b, xs = [y, .ty T] ∧ SR X.K ρ st H ∧ Rl X.K ρ H u y ∧ kindOf st u = some k ∧ PySem.W.kitOne X.K (.type k) (.type T) = some b ∧ Q (.bl b) H) := by
    rintro pins s σ H xs us Q I r ⟨y, ρ, st, u, k, b, rfl, sr, r1, h1, h2, h3⟩
    obtain ⟨v1, v2, rfl, q1, q2⟩ := vals2 r
    cases q2
    exact isinst_M I sr r1 q1 h1 h2 fun tk => ⟨.bl b, H, I.tok tk, rfl, h3⟩
  refine PE.imp (pe_callB hc hg hm PyProof.Rows.boot_isinstance (pa_cons he (pa_cons (pe_bltn (v := .ty T) hgT hmT hvT rfl hn hd) pa_nil hs2) hs) (by decide) (by decide) hs hpl) ?_
  rintro σ H Q ⟨μ, ρ, st, rs, sr, h⟩
  refine go μ ρ st rs sr h fun u st1 ρ1 H1 x e1 sr1 r1 h1 => ?_
  cases z : kindOf st1 u with
  | none => simp only [isT, z] at h1; exact h1.elim
  | some k =>
    simp only [isT, z] at h1
    exact ⟨x, ρ1, st1, u, k, _, rfl, sr1, r1, z, hK k (kindOf_mem z), fin_b sr1 h1⟩
end
theorem kitT_int {K : PySem.W.Frag} : KitT K "int" := by
  intro k hk
  simp only [List.mem_cons, List.mem_nil_iff, or_false] at hk
  rcases hk with rfl | rfl | rfl | rfl | rfl | rfl | rfl <;> first | rfl | kernel_rfl
theorem kitT_bool {K : PySem.W.Frag} : KitT K "bool" := by
  intro k hk
  simp only [List.mem_cons, List.mem_nil_iff, or_false] at hk
  rcases hk with rfl | rfl | rfl | rfl | rfl | rfl | rfl <;> first | rfl | kernel_rfl
theorem kitT_tuple {K : PySem.W.Frag} : KitT K "tuple" := by
  intro k hk
  simp only [List.mem_cons, List.mem_nil_iff, or_false] at hk
  rcases hk with rfl | rfl | rfl | rfl | rfl | rfl | rfl <;> first | rfl | kernel_rfl
theorem kitT_list {K : PySem.W.Frag} : KitT K "list" := by
  intro k hk
  simp only [List.mem_cons, List.mem_nil_iff, or_false] at hk
  rcases hk with rfl | rfl | rfl | rfl | rfl | rfl | rfl <;> first | rfl | kernel_rfl
end MN
namespace MN
open PySem PySem.Spec L2
open PyProof.Rows hiding St
noncomputable abbrev AS := Val → Env → Option Env
noncomputable def aName (i : Nat) : AS := fun v μ => some (μ.set i (some v))
noncomputable def aTups : List AS → List Val → Env → Option Env
  | [], [], μ => some μ
  | a :: as, v :: vs, μ => (a v μ).bind fun μ' => aTups as vs μ'
  | _, _, _ => none
noncomputable def aTup (l : List AS) : AS := fun v μ => match v with
  | .tup vs => aTups l vs μ
  | _ => none
noncomputable def tA (W : Wo) (a : AS) : TG := fun v σ H Q => ∃ μ ρ u μ', RS W ρ H μ σ ∧ Rl W.K ρ H u v ∧ a u μ = some μ' ∧ ∀ σ', RS W ρ H μ' σ' → Q σ' H
noncomputable def tAs (W : Wo) (l : List AS) : TGs := fun vs σ H Q => ∃ μ ρ us μ', RS W ρ H μ σ ∧ Rls W.K ρ H us vs ∧ aTups l us μ = some μ' ∧ ∀ σ', RS W ρ H μ' σ' → Q σ' H
section
variable {X : Cx} {pos : Pos}
theorem PGs.imp {e : List Expr} {t t' : TGs} (h : PGs X e t) (k : ∀ v σ H Q, t' v σ H Q → t v σ H Q) : PGs X e t' := fun pins s σ H v u Q I r q => h pins s σ H v u Q I r (k v σ H Q q)
theorem mg_name (i : Nat) {x : Str} (hN : X.N.Nodup) (hi : X.N[i]? = some x := by rfl) (hx : Loc X.env.scope x := by first | exact Or.inl rfl | exact Or.inr rfl) (hf : X.fn x = true ∨ X.env.scope.names.lookup x = some .local := by first | exact .inl rfl | exact .inr rfl | assumption) : PG X (.Name x pos) (tA (wo X) (aName i)) := by
  refine PG.imp (pg_name hN hi hx hf) ?_
  rintro v σ H Q ⟨μ, ρ, u, μ', rs, r, e, q⟩
  cases e
  exact q _ (rs.set i r)
theorem mgs_nil : PGs X [] (tAs (wo X) []) := by
  refine PGs.imp pgs_nil ?_
  rintro vs σ H Q ⟨μ, ρ, us, μ', rs, r, e, q⟩
  cases us with
  | nil => cases e; exact ⟨r.unnil, q σ rs⟩
  | cons => cases e
theorem mgs_cons {e : Expr} {es : List Expr} {a : AS} {as : List AS} (h1 : PG X e (tA (wo X) a)) (h2 : PGs X es (tAs (wo X) as)) (hs : (assignEach (e :: es) X.env).map (·.2) = assign e X.env :: (assignEach es X.env).map (·.2) := by rfl) : PGs X (e :: es) (tAs (wo X) (a :: as)) := by
  refine PGs.imp (pgs_cons h1 h2 hs) ?_
  rintro vs σ H Q ⟨μ, ρ, us, μ', rs, r, e, q⟩
  cases us with
  | nil => cases e
  | cons u us =>
    obtain ⟨v, r', rfl, ru, rr⟩ := r.uncons
    unfold aTups at e
    cases z : a u μ with
    | none => rw [z] at e; cases e
    | some μ1 =>
      rw [z] at e
      exact ⟨v, r', rfl, μ, ρ, u, μ1, rs, ru, z, fun σ1 rs1 => ⟨μ1, ρ, us, μ', rs1, rr, e, q⟩⟩
theorem mg_tup {es : List Expr} {k : Nat} {l : List AS} (hc : X.calm = true) (h : PGs X es (tAs (wo X) l)) (hn : (assignEach es X.env).length = l.length := by rfl) (hst : (assignEach es X.env).findIdx? (·.1) = none := by rfl) : PG X (.Tuple es k pos) (tA (wo X) (aTup l)) := by
  refine PG.imp (pg_tup hc h hn hst) ?_
  rintro v σ H Q ⟨μ, ρ, u, μ', rs, r, e, q⟩
  cases u with
  | tup us =>
    obtain ⟨a, vs, rfl, ha, ra⟩ := r.tup_
    have len : ∀ (l : List AS) (us : List Val) (μ : Env), aTups l us μ = some μ' → us.length = l.length := by
      intro l
      induction l with
      | nil => intro us μ e; cases us with | nil => rfl | cons => cases e
      | cons a l ih =>
        intro us μ e
        cases us with
        | nil => cases e
        | cons u us =>
          unfold aTups at e
          cases z : a u μ with
          | none => rw [z] at e; cases e
          | some μ1 => rw [z] at e; rw [List.length_cons, List.length_cons, ih us μ1 e]
    exact ⟨a, vs, rfl, ha, by rw [← ra.length]; exact len _ _ _ e, μ, ρ, us, μ', rs, ra, e, q⟩
  | _ => cases e
noncomputable def sAsg (a : AS) (m : ME) : MB := fun μ st => (m μ st).sb μ fun v st' => match a v μ with
  | some μ' => .nx μ' st'
  | none => .bad
end
noncomputable abbrev Itm := List Val × (Store → Prop)
noncomputable abbrev MI := Env → Store → Res Itm
noncomputable def ItR (K : PySem.W.Frag) (ρ0 : List Addr) (H0 : Hp) (p : Itm) (J : It) : Prop :=
  ∀ ρ st H, Step ρ0 H0 ρ H → SR K ρ st H → p.2 st → ∀ i : Nat,
    (∀ u, p.1[i]? = some u → J.go i H ∧ ∀ x H', J.yld i H x H' → Step ρ H ρ H' ∧ SR K ρ st H' ∧ Rl K ρ H' u x) ∧ (p.1.length ≤ i → J.stop i H)
noncomputable abbrev tI (X : Cx) (E : XK) (m : MI) : TI := tG (wo X) E (ItR X.K) m
section
variable {X : Cx} {E : XK} {tg : Expr} {pos p : Pos}
theorem PI.imp {it : Expr} {t t' : TI} (h : PI X tg it t) (k : ∀ σ H Q, t' σ H Q → t σ H Q) : PI X tg it t' := fun pins s σ H R I q => h pins s σ H R I (k σ H R q)
theorem pi_seq {l : Expr} {tl : TE} (hl : PE X l tl) : PI X tg l (fun σ H R => tl σ H fun x H1 => ∃ a, x = .ref a ∧ (((∃ xs, SqL X.K H1 a xs) ∧ R (Itl X.K a) H1) ∨ ((∃ xs, SqT X.K H1 a xs) ∧ R (Itt X.K a) H1))) := by
  intro pins s σ H R I h
  refine thn (hl pins s σ H _ I h) fun v s1 ⟨x, H1, I1, r1, q1⟩ => ?_
  obtain ⟨a, e, q⟩ := q1
  subst e
  cases r1
  rcases q with ⟨⟨xs, hq⟩, q⟩ | ⟨⟨xs, hq⟩, q⟩
  · obtain ⟨its, rv, p, hz⟩ := I1.list hq
    refine wpAny_pyIter_list p.isList ?_
    refine ⟨s1.heap.objs.size, [s1.heap.objs.size], _, _, H1, rfl, I1.kept (t' := s1.toks) fun b o e => Heap.get?_push_of_some _ e, turn_list a _, ⟨_, Heap.get?_push_size _ rfl, rfl, rfl⟩, fun b hb => ?_, q⟩
    have e : b = s1.heap.objs.size := by simpa using hb
    subst e
    exact I1.fpOk (Nat.le_refl _) (I1.hok.fresh (Nat.le_refl _))
  · obtain ⟨its, rv, p, hz⟩ := I1.tuple hq
    refine wpAny_pyIter_tuple (show s1.heap.IsTuple a its.toArray from p) ?_
    refine ⟨s1.heap.objs.size, [s1.heap.objs.size], _, _, H1, rfl, I1.kept (t' := s1.toks) fun b o e => Heap.get?_push_of_some _ e, turn_tuple a _, ⟨_, Heap.get?_push_size _ rfl, rfl, rfl⟩, fun b hb => ?_, q⟩
    have e : b = s1.heap.objs.size := by simpa using hb
    subst e
    exact I1.fpOk (Nat.le_refl _) (I1.hok.fresh (Nat.le_refl _))
noncomputable def walkOf (st : Store) : Val → Option Itm
  | .tup us => some (us, fun _ => True)
  | .mt us => some (us, fun _ => True)
  | .loc n => (itemsOf st n).map fun us => (us, fun st' => itemsOf st' n = some us)
  | _ => none
noncomputable def iSeq (m : ME) : MI := fun μ st => (m μ st).bind fun v st' => match walkOf st' v with
  | some p => .ok p st'
  | none => .bad
theorem itR_list {K : PySem.W.Frag} {ρ : List Addr} {H : Hp} {n : Nat} {us : List Val} {a : Addr} (ha : ρ[n]? = some a) (hsq : ∀ {ρ' : List Addr} {st' : Store} {H' : Hp}, SR K ρ' st' H' → itemsOf st' n = some us → ρ'[n]? = some a → ∃ vs, SqL K H' a vs ∧ Rls K ρ' H' us vs) :
    ItR K ρ H (us, fun st' => itemsOf st' n = some us) (Itl K a) := by
  intro ρ' st' H' e sr g i
  obtain ⟨vs, hs, rv⟩ := hsq sr g (e.at_ ha)
  refine ⟨fun u hu => ?_, fun hi => ⟨vs, hs, by rw [← rv.length]; exact hi⟩⟩
  obtain ⟨v, hv, ru⟩ := rv.get hu
  refine ⟨⟨vs, v, hs, hv⟩, fun x H'' y => ?_⟩
  obtain ⟨rfl, y⟩ := y
  have e := (y vs hs).symm.trans hv
  cases e
  exact ⟨Step.refl _ _, sr, ru⟩
theorem itR_tup {K : PySem.W.Frag} {ρ : List Addr} {H : Hp} {us : List Val} {a : Addr} {vs : List V} (ha : SqT K H a vs) (ra : Rls K ρ H us vs) : ItR K ρ H (us, fun _ => True) (Itt K a) := by
  intro ρ' st' H' e sr g i
  have ha' : SqT K H' a vs := e.sqT ha
  have rv := Rls.mono e _ _ ra
  refine ⟨fun u hu => ?_, fun hi => ⟨vs, ha', by rw [← rv.length]; exact hi⟩⟩
  obtain ⟨v, hv, ru⟩ := rv.get hu
  refine ⟨⟨vs, v, ha', hv⟩, fun x H'' y => ?_⟩
  obtain ⟨rfl, y⟩ := y
  have e := (y vs ha').symm.trans hv
  cases e
  exact ⟨Step.refl _ _, sr, ru⟩
theorem mi_seq {l : Expr} {m : ME} (hl : PE X l (tE X E m)) : PI X tg l (tI X E (iSeq m)) := by
  refine PI.imp (pi_seq hl) ?_
  rintro σ H R ⟨μ, ρ, st, rs, sr, h⟩
  refine go μ ρ st rs sr h fun u st1 ρ1 H1 x e1 sr1 r1 h1 => ?_
  cases u with
  | tup us =>
    obtain ⟨a, vs, rfl, ha, ra⟩ := r1.tup_
    exact ⟨a, rfl, .inr ⟨⟨vs, ha⟩, h1 ρ1 H1 _ (Step.refl _ _) sr1 (itR_tup ha ra)⟩⟩
  | mt us =>
    obtain ⟨a, vs, rfl, ha, ra⟩ := r1.mt_
    exact ⟨a, rfl, .inr ⟨⟨vs, ha⟩, h1 ρ1 H1 _ (Step.refl _ _) sr1 (itR_tup ha ra)⟩⟩
  | loc n =>
    obtain ⟨a, rfl, ha⟩ := r1.loc_
    cases z : itemsOf st1 n with
    | none => simp only [walkOf, z] at h1; exact h1.elim
    | some us =>
      simp only [walkOf, z] at h1
      obtain ⟨vs, hs, rv⟩ := itemsOf_sq sr1 z ha
      exact ⟨a, rfl, .inl ⟨⟨vs, hs⟩, h1 ρ1 H1 _ (Step.refl _ _) sr1 (itR_list ha fun s g h => itemsOf_sq s g h)⟩⟩
  | _ => exact h1.elim
noncomputable def rangeL (lo : Int) (n : Nat) : List Val := (List.range n).map fun (i : Nat) => Val.int (lo + (i : Int))
theorem itR_range {K : PySem.W.Frag} {ρ : List Addr} {H : Hp} (lo : Int) (n : Nat) : ItR K ρ H (rangeL lo n, fun _ => True) (Itr lo n) := by
  intro ρ' st' H' e sr g i
  refine ⟨fun u hu => ?_, fun hi => ?_⟩
  · have hi : i < n := by
      have := getL_lt hu
      simpa [rangeL] using this
    refine ⟨hi, fun x H'' y => ?_⟩
    obtain ⟨rfl, rfl⟩ := y
    have e : u = Val.int (lo + (i : Int)) := by
      simp only [rangeL, List.getElem?_map] at hu
      rw [List.getElem?_range hi] at hu
      exact (Option.some.inj hu).symm
    subst e
    exact ⟨Step.refl _ _, sr, Rl.mkInt _⟩
  · show n ≤ i
    simpa [rangeL] using hi
noncomputable def iRange1 (m : MA) : MI := fun μ st => (m μ st).bind fun vs st' => match vs with
  | [.int j] => if -(2 ^ 62) ≤ j ∧ j < 2 ^ 62 then .ok (rangeL 0 j.toNat, fun _ => True) st' else .bad
  | _ => .bad
noncomputable def iRange2 (m : MA) : MI := fun μ st => (m μ st).bind fun vs st' => match vs with
  | [.int i, .int j] => if -(2 ^ 62) ≤ i ∧ i < 2 ^ 62 ∧ -(2 ^ 62) ≤ j ∧ j < 2 ^ 62 then .ok (rangeL i (j - i).toNat, fun _ => True) st' else .bad
  | _ => .bad
theorem mi_range1 {a : Expr} {m : MA} (hg : Gl X "range") (hm : X.mg "range" = none) (ha : PA X [a] (tL X E m)) (hs : starEach [a] X.env = [(false, eval a X.env)] := by rfl) : PI X tg (.Call (.Name "range" p) [a] [] pos) (tI X E (iRange1 m)) := by
  refine PI.imp (pi_range1 hg hm ha hs) ?_
  rintro σ H R ⟨μ, ρ, st, rs, sr, h⟩
  refine go (R1 := Rls X.K) μ ρ st rs sr h fun us st1 ρ1 H1 xs e1 sr1 r1 h1 => ?_
  split at h1
  · rename_i j
    obtain ⟨v, rfl, rv⟩ := r1.un1
    split at h1
    · rename_i hz
      exact ⟨j, by rw [rv.int_], hz.1, hz.2, h1 ρ1 H1 _ (Step.refl _ _) sr1 (itR_range 0 j.toNat)⟩
    · exact h1.elim
  · exact h1.elim
theorem mi_range2 {a b : Expr} {m : MA} (hg : Gl X "range") (hm : X.mg "range" = none) (ha : PA X [a, b] (tL X E m)) (hs : starEach [a, b] X.env = [(false, eval a X.env), (false, eval b X.env)] := by rfl) (hs2 : starEach [b] X.env = [(false, eval b X.env)] := by rfl) :
    PI X tg (.Call (.Name "range" p) [a, b] [] pos) (tI X E (iRange2 m)) := by
  refine PI.imp (pi_range2 hg hm ha hs hs2) ?_
  rintro σ H R ⟨μ, ρ, st, rs, sr, h⟩
  refine go (R1 := Rls X.K) μ ρ st rs sr h fun us st1 ρ1 H1 xs e1 sr1 r1 h1 => ?_
  split at h1
  · rename_i i j
    obtain ⟨v, w, rfl, rv, rw'⟩ := r1.un2
    split at h1
    · rename_i hz
      exact ⟨i, j, by rw [rv.int_, rw'.int_], hz, h1 ρ1 H1 _ (Step.refl _ _) sr1 (itR_range i _)⟩
    · exact h1.elim
  · exact h1.elim
noncomputable def sideOf (st : Store) : Val → Option (Bool × Itm)
  | .tup us => some (false, us, fun _ => True)
  | .loc n => (itemsOf st n).map fun us => (true, us, fun st' => itemsOf st' n = some us)
  | _ => none
noncomputable def zipL : List Val → List Val → List Val
  | x :: xs, y :: ys => .tup [x, y] :: zipL xs ys
  | _, _ => []
noncomputable def iZip2 (b1 b2 : Bool) (m : MA) : MI := fun μ st => (m μ st).bind fun vs st' => match vs with
  | [u, w] => match sideOf st' u, sideOf st' w with
    | some (c1, us, g1), some (c2, ws, g2) => if c1 = b1 ∧ c2 = b2 then .ok (zipL us ws, fun st2 => g1 st2 ∧ g2 st2) st' else .bad
    | _, _ => .bad
  | _ => .bad
end
open Classical in
noncomputable def forL (g : Store → Prop) (a : AS) (body : MB) : List Val → MB
  | [], μ, st => if g st then .nx μ st else .bad
  | u :: us, μ, st => if g st then (match a u μ with
    | some μ1 => match body μ1 st with
      | .nx μ' st' => forL g a body us μ' st'
      | .ct μ' st' => forL g a body us μ' st'
      | .bk μ' st' => .nx μ' st'
      | .rt v st' => .rt v st'
      | .er c μ' st' => .er c μ' st'
      | .bad => .bad
    | none => .bad) else .bad
noncomputable def sFor (it : MI) (a : AS) (body : MB) : MB := fun μ st => (it μ st).sb μ fun p st' => forL p.2 a body p.1 μ st'
section
variable {X : Cx} {E : XK} {tg : Expr} {pos p : Pos}
theorem ms_for {iter : Expr} {sb : List Stmt} {it : MI} {a : AS} {body : MB} (hp : PassesOwn (model X.prog X.w) X.A X.env X.xe) (hc : X.calm = true) (hi : PI X tg iter (tI X E it)) (hg : PG X tg (tA (wo X) a)) (hb : PSs X sb (tS X E body))
    (hs : ∀ x, foldedSetIterable iter X.env x = pure x := by intro _; rfl) : PS X (.For tg iter sb [] pos) (tS X E (sFor it a body)) := by
  refine PS.imp (ps_for hp hc hi hg hb hs) ?_
  rintro D σ H ⟨μ, ρ, st, rs, sr, h⟩
  refine goS (R1 := ItR X.K) μ ρ st rs sr h fun pr st1 ρ1 H1 J e1 sr1 rJ h1 => ?_
  obtain ⟨us, g⟩ := pr
  refine ⟨fun i m σ' H' => m = us.length - i ∧ i ≤ us.length ∧ ∃ μ' ρ' st', Step ρ1 H1 ρ' H' ∧ RS (wo X) ρ' H' μ' σ' ∧ SR X.K ρ' st' H' ∧ wS (wo X) E ρ' H' D (forL g a body (us.drop i) μ' st'),
    ⟨us.length, by simp, Nat.zero_le _, μ, ρ1, st1, Step.refl _ _, rs.mono e1, sr1, h1⟩, ?_⟩
  rintro i m σ' H' ⟨rfl, hi, μ', ρ', st', e', rs', sr', h'⟩
  by_cases hlt : i < us.length
  · rw [List.drop_eq_getElem_cons hlt] at h'
    unfold forL at h'
    by_cases hg' : g st'
    · rw [if_pos hg'] at h'
      obtain ⟨k1, k2⟩ := rJ ρ' st' H' e' sr' hg' i
      obtain ⟨go', yl⟩ := k1 _ (List.getElem?_eq_getElem hlt)
      refine .inr ⟨go', fun σ2 H2 => i + 1 ≤ us.length ∧ ∃ μ2 ρ2 st2, Step ρ1 H1 ρ2 H2 ∧ RS (wo X) ρ2 H2 μ2 σ2 ∧ SR X.K ρ2 st2 H2 ∧ wS (wo X) E ρ2 H2 D (forL g a body (us.drop (i + 1)) μ2 st2), fun σ2 H2 n => ⟨us.length - (i + 1), by omega, rfl, n.1, n.2⟩, fun x H2 y => ?_⟩
      obtain ⟨e2, sr2, r2⟩ := yl x H2 y
      cases z : a us[i] μ' with
      | none => rw [z] at h'; exact h'.elim
      | some μ1 =>
        rw [z] at h'
        dsimp only at h'
        refine ⟨μ', ρ', us[i], μ1, rs'.mono e2, r2, z, fun σ3 rs3 => ⟨μ1, ρ', st', rs3, sr2, ?_⟩⟩
        cases zb : body μ1 st' with
        | nx μ4 st4 =>
          rw [zb] at h'
          intro ρ4 H4 σ4 e4 sr4 rs4
          exact ⟨by omega, μ4, ρ4, st4, (e'.trans e2).trans e4, rs4, sr4, wS.mono h' (e2.trans e4)⟩
        | ct μ4 st4 =>
          rw [zb] at h'
          intro ρ4 H4 σ4 e4 sr4 rs4
          exact ⟨by omega, μ4, ρ4, st4, (e'.trans e2).trans e4, rs4, sr4, wS.mono h' (e2.trans e4)⟩
        | bk μ4 st4 => rw [zb] at h'; exact fun ρ4 H4 σ4 e4 sr4 rs4 => h' ρ4 H4 σ4 (e2.trans e4) sr4 rs4
        | rt v st4 => rw [zb] at h'; exact fun ρ4 H4 σ4 e4 sr4 rs4 => h' ρ4 H4 σ4 (e2.trans e4) sr4 rs4
        | er c μ4 st4 => rw [zb] at h'; obtain ⟨C, q1, q2⟩ := h'; exact ⟨C, q1, fun ρ4 H4 e4 sr4 => q2 ρ4 H4 (e2.trans e4) sr4⟩
        | bad => rw [zb] at h'; exact h'
    · rw [if_neg hg'] at h'; exact h'.elim
  · have hi' : i = us.length := by omega
    subst hi'
    rw [List.drop_length] at h'
    unfold forL at h'
    by_cases hg' : g st'
    · rw [if_pos hg'] at h'
      exact .inl ⟨(rJ ρ' st' H' e' sr' hg' us.length).2 (Nat.le_refl _), h' ρ' H' σ' (Step.refl _ _) sr' rs'⟩
    · rw [if_neg hg'] at h'; exact h'.elim
end
noncomputable def whileN (t : MT) (body : MB) : Nat → Env → Store → Option SRes
  | 0, _, _ => none
  | n + 1, μ, st => match t μ st with
    | .ok true st1 => match body μ st1 with
      | .nx μ' st' => whileN t body n μ' st'
      | .ct μ' st' => whileN t body n μ' st'
      | .bk μ' st' => some (.nx μ' st')
      | .rt v st' => some (.rt v st')
      | .er c μ' st' => some (.er c μ' st')
      | .bad => some .bad
    | .ok false st1 => some (.nx μ st1)
    | .err c st1 => some (.er c μ st1)
    | .bad => some .bad
open Classical in
noncomputable def sWhile (t : MT) (body : MB) : MB := fun μ st => if h : ∃ n r, whileN t body n μ st = some r then h.choose_spec.choose else .bad
theorem whileN_mono {t : MT} {body : MB} : ∀ {n m : Nat} {μ : Env} {st : Store} {r r' : SRes}, whileN t body n μ st = some r → whileN t body m μ st = some r' → r = r'
  | 0, _, _, _, _, _, h, _ => by cases h
  | _ + 1, 0, _, _, _, _, _, h => by cases h
  | n + 1, m + 1, μ, st, r, r', h, h' => by
    unfold whileN at h h'
    split at h
    · rename_i st1 e
      rw [e] at h'
      dsimp only at h'
      split at h
      all_goals (rename_i eb; rw [eb] at h'; dsimp only at h')
      · exact whileN_mono h h'
      · exact whileN_mono h h'
      all_goals (cases h; cases h'; rfl)
    all_goals (rename_i e; rw [e] at h'; dsimp only at h'; cases h; cases h'; rfl)
theorem sWhile_of {t : MT} {body : MB} {n : Nat} {μ : Env} {st : Store} {r : SRes} (h : whileN t body n μ st = some r) : sWhile t body μ st = r := by
  have hx : ∃ n r, whileN t body n μ st = some r := ⟨n, r, h⟩
  unfold sWhile
  rw [dif_pos hx]
  exact whileN_mono hx.choose_spec.choose_spec h
section
variable {X : Cx} {E : XK} {pos : Pos}
theorem ms_while {c : Expr} {sb : List Stmt} {t : MT} {body : MB} (hp : PassesOwn (model X.prog X.w) X.A X.env X.xe) (hc : PT X c (tT X E t)) (hb : PSs X sb (tS X E body)) : PS X (.While c sb [] pos) (tS X E (sWhile t body)) := by
  refine PS.imp (ps_while hp hc hb) ?_
  rintro D σ H ⟨μ, ρ, st, rs, sr, h⟩
  unfold sWhile at h
  split at h
  · rename_i hx
    have hr := hx.choose_spec.choose_spec
    refine ⟨fun m σ' H' => ∃ μ' ρ' st' r, Step ρ H ρ' H' ∧ RS (wo X) ρ' H' μ' σ' ∧ SR X.K ρ' st' H' ∧ whileN t body m μ' st' = some r ∧ wS (wo X) E ρ' H' D r, ⟨_, μ, ρ, st, _, Step.refl _ _, rs, sr, hr, h⟩, ?_⟩
    rintro m σ' H' ⟨μ', ρ', st', r, e', rs', sr', hw, hq⟩
    cases m with
    | zero => cases hw
    | succ m =>
      unfold whileN at hw
      refine ⟨μ', ρ', st', rs', sr', ?_⟩
      cases z : t μ' st' with
      | ok k st1 =>
        rw [z] at hw
        intro ρ1 H1 k' e1 sr1 ek
        cases ek
        cases k with
        | true =>
          dsimp only at hw
          rw [if_pos rfl]
          refine ⟨fun σ2 H2 => ∃ μ2 ρ2 st2 r2, Step ρ H ρ2 H2 ∧ RS (wo X) ρ2 H2 μ2 σ2 ∧ SR X.K ρ2 st2 H2 ∧ whileN t body m μ2 st2 = some r2 ∧ wS (wo X) E ρ2 H2 D r2, fun σ2 H2 n => ⟨m, Nat.lt_succ_self m, n⟩, μ', ρ1, st1, rs'.mono e1, sr1, ?_⟩
          cases zb : body μ' st1 with
          | nx μ4 st4 =>
            rw [zb] at hw
            intro ρ4 H4 σ4 e4 sr4 rs4
            exact ⟨μ4, ρ4, st4, r, (e'.trans e1).trans e4, rs4, sr4, hw, wS.mono hq (e1.trans e4)⟩
          | ct μ4 st4 =>
            rw [zb] at hw
            intro ρ4 H4 σ4 e4 sr4 rs4
            exact ⟨μ4, ρ4, st4, r, (e'.trans e1).trans e4, rs4, sr4, hw, wS.mono hq (e1.trans e4)⟩
          | bk μ4 st4 => rw [zb] at hw; cases hw; exact fun ρ4 H4 σ4 e4 sr4 rs4 => hq ρ4 H4 σ4 (e1.trans e4) sr4 rs4
          | rt v st4 => rw [zb] at hw; cases hw; exact fun ρ4 H4 σ4 e4 sr4 rs4 => hq ρ4 H4 σ4 (e1.trans e4) sr4 rs4
          | er c μ4 st4 => rw [zb] at hw; cases hw; obtain ⟨C, q1, q2⟩ := hq; exact ⟨C, q1, fun ρ4 H4 e4 sr4 => q2 ρ4 H4 (e1.trans e4) sr4⟩
          | bad => rw [zb] at hw; cases hw; exact hq
        | false =>
          cases hw
          rw [if_neg Bool.false_ne_true]
          exact hq ρ1 H1 σ' e1 sr1 (rs'.mono e1)
      | err c st1 => rw [z] at hw; cases hw; exact hq
      | bad => rw [z] at hw; cases hw; exact hq
  · exact h.elim
end
end MN
namespace MN
open PySem PySem.Spec L2
open PyProof.Rows hiding St
noncomputable def capM (k : Nat) (caps : List Nat) (μ : Env) : Env := List.replicate k none ++ caps.map fun j => (μ[j]?).getD none
theorem RS.cap {W : Wo} {ρ : List Addr} {H : Hp} {μ : Env} {σ : L2.St} (r : RS W ρ H μ σ) (k : Nat) (caps : List Nat) : RS W ρ H (capM k caps μ) (capS k caps σ) := by
  refine ⟨by simp [capM, capS], fun i u e => ?_⟩
  unfold capM at e
  rcases Nat.lt_or_ge i k with q | q
  · rw [List.getElem?_append_left (by rw [List.length_replicate]; exact q), List.getElem?_replicate, if_pos q] at e
    cases e
  · rw [List.getElem?_append_right (by rw [List.length_replicate]; exact q), List.length_replicate, List.getElem?_map] at e
    cases z : caps[i - k]? with
    | none => rw [z] at e; cases e
    | some j =>
      rw [z] at e
      have e' : (μ[j]?).getD none = some u := Option.some.inj e
      have e2 : μ[j]? = some (some u) := by
        cases y : μ[j]? with
        | none => rw [y] at e'; cases e'
        | some w => rw [y] at e'; exact congrArg _ e'
      obtain ⟨v, h1, h2⟩ := r.at_ j u e2
      refine ⟨v, ?_, h2⟩
      unfold capS
      rw [List.getElem?_append_right (by rw [List.length_replicate]; exact q), List.length_replicate, List.getElem?_map, z]
      show some ((σ[j]?).getD none) = _
      rw [h1]
      rfl
open Classical in
noncomputable def compL (g : Store → Prop) (a : AS) (c : MT) (e : ME) : List Val → Env → Store → List Val → Res (List Val)
  | [], _, st, ys => if g st then .ok ys st else .bad
  | u :: us, τ, st, ys => if g st then (match a u τ with
    | some τ1 => match c τ1 st with
      | .ok true st1 => match e τ1 st1 with
        | .ok y st2 => compL g a c e us τ1 st2 (ys ++ [y])
        | .err _ _ => .bad
        | .bad => .bad
      | .ok false st1 => compL g a c e us τ1 st1 ys
      | .err _ _ => .bad
      | .bad => .bad
    | none => .bad) else .bad
noncomputable def mComp (k : Nat) (caps : List Nat) (it : MI) (a : AS) (c : MT) (e : ME) : ME := fun μ st => (it μ st).bind fun p st1 =>
  if p.1.length ≤ sizeLine then (compL p.2 a c e p.1 (capM k caps μ) st1 []).bind fun ys st2 => .ok (.loc st2.length) (st2 ++ [.lst ys]) else .bad
noncomputable def tTrueM : MT := fun _ st => .ok true st
noncomputable abbrev W0 (X : Cx) : Wo := ⟨X.K, X.mg, []⟩
section
variable {X : Cx} {E : XK} {tg elt iter : Expr} {ifs : List Expr} {scope : Scope} {pos spos : Pos} {N : List Str} {cl : List (Str × Addr)} {k : Nat} {caps : List Nat} {it : MI} {a : AS} {c : MT} {e : ME}
theorem comp_read (hpn : X.pn = []) {σ : L2.St} {H : Hp} {Q : VK} (h : tE X E (mComp k caps it a c e) σ H Q) : tComp k caps (tI X E it) (tA (W0 X) a) (tG (W0 X) E0 RB c) (tG (W0 X) E0 (Rl X.K) e) σ H Q := by
  obtain ⟨μ, ρ, st, rs, sr, h⟩ := h
  refine tComp_by (go (R1 := ItR X.K) μ ρ st rs sr h fun pr st1 ρ1 H1 J e1 sr1 rJ h1 => ?_)
  obtain ⟨us, g⟩ := pr
  have ew : wo X = W0 X := by show Wo.mk _ _ _ = _; rw [hpn]
  have rs1 := rs.mono e1
  rw [ew] at rs1 h1
  dsimp only at h1
  split at h1
  · rename_i hz
    refine comp_by us.length hz (fun i ys τ H' => ∃ μτ ρ' st' yv, Step ρ1 H1 ρ' H' ∧ RS (W0 X) ρ' H' μτ τ ∧ SR X.K ρ' st' H' ∧ Rls X.K ρ' H' yv ys ∧ yv.length ≤ i ∧ wR (W0 X) E (Rl X.K) ρ' H' Q ((compL g a c e (us.drop i) μτ st' yv).bind fun (zs : List Val) (st2 : Store) => Res.ok (Val.loc st2.length) (st2 ++ [Cell.lst zs])))
      ⟨capM k caps μ, ρ1, st1, [], Step.refl _ _, rs1.cap k caps, sr1, Rls.nil, Nat.le_refl _, h1⟩ ?_ ?_ ?_ ?_ ?_
    · rintro i ys τ H' hi ⟨μτ, ρ', st', yv, e', rs', sr', ry, hl, hq⟩
      rw [List.drop_eq_getElem_cons hi] at hq
      unfold compL at hq
      by_cases hg' : g st'
      · exact ((rJ ρ' st' H' e' sr' hg' i).1 _ (List.getElem?_eq_getElem hi)).1
      · rw [if_neg hg'] at hq; exact hq.elim
    · rintro ys τ H' ⟨μτ, ρ', st', yv, e', rs', sr', ry, hl, hq⟩
      rw [List.drop_length] at hq
      unfold compL at hq
      by_cases hg' : g st'
      · exact (rJ ρ' st' H' e' sr' hg' us.length).2 (Nat.le_refl _)
      · rw [if_neg hg'] at hq; exact hq.elim
    · rintro i ys τ H' ⟨μτ, ρ', st', yv, e', rs', sr', ry, hl, hq⟩
      rw [← ry.length]; exact hl
    · rintro i ys τ H' x H2 hi ⟨μτ, ρ', st', yv, e', rs', sr', ry, hl, hq⟩ y K1 hK
      rw [List.drop_eq_getElem_cons hi] at hq
      unfold compL at hq
      by_cases hg' : g st'
      · rw [if_pos hg'] at hq
        obtain ⟨e2, sr2, r2⟩ := ((rJ ρ' st' H' e' sr' hg' i).1 _ (List.getElem?_eq_getElem hi)).2 x H2 y
        cases z : a us[i] μτ with
        | none => rw [z] at hq; exact hq.elim
        | some τ1 =>
          rw [z] at hq
          dsimp only at hq
          refine ⟨μτ, ρ', us[i], τ1, rs'.mono e2, r2, z, fun σ3 rs3 => ⟨τ1, ρ', st', rs3, sr2, ?_⟩⟩
          cases zc : c τ1 st' with
          | ok b st3 =>
            rw [zc] at hq
            intro ρ3 H3 b' e3 sr3 eb
            cases eb
            cases b with
            | true =>
              dsimp only at hq
              rw [if_pos rfl]
              refine ⟨τ1, ρ3, st3, rs3.mono e3, sr3, ?_⟩
              cases ze : e τ1 st3 with
              | ok v st4 =>
                rw [ze] at hq
                intro ρ4 H4 y4 e4 sr4 r4
                exact hK _ _ _ ⟨τ1, ρ4, st4, yv ++ [v], ((e'.trans e2).trans e3).trans e4, (rs3.mono e3).mono e4, sr4, (Rls.mono ((e2.trans e3).trans e4) _ _ ry).append (Rls.one r4), by rw [List.length_append, List.length_singleton]; omega, wR.mono hq ((e2.trans e3).trans e4)⟩
              | err c' st4 => rw [ze] at hq; exact hq.elim
              | bad => rw [ze] at hq; exact hq.elim
            | false =>
              dsimp only at hq
              rw [if_neg Bool.false_ne_true]
              exact hK _ _ _ ⟨τ1, ρ3, st3, yv, (e'.trans e2).trans e3, rs3.mono e3, sr3, Rls.mono (e2.trans e3) _ _ ry, by omega, wR.mono hq (e2.trans e3)⟩
          | err c' st3 => rw [zc] at hq; exact hq.elim
          | bad => rw [zc] at hq; exact hq.elim
      · rw [if_neg hg'] at hq; exact hq.elim
    · rintro ys τ H' p ⟨μτ, ρ', st', yv, e', rs', sr', ry, hl, hq⟩ hp
      rw [List.drop_length] at hq
      unfold compL at hq
      by_cases hg' : g st'
      · rw [if_pos hg'] at hq
        obtain ⟨k1, k2, k3⟩ := new_lst sr' ry hp
        exact hq _ _ _ k1 k2 k3
      · rw [if_neg hg'] at hq; exact hq.elim
  · exact h1.elim
theorem me_comp (hc : X.calm = true) (hpn : X.pn = []) (B : Caps X N scope cl k caps) (hi : PI X tg iter (tI X E it)) (hg : ∀ C fp s H, PG (cxB X N scope cl C fp s H) tg (tA (W0 X) a)) (hif : ∀ C fp s H, PIf (cxB X N scope cl C fp s H) ifs (tG (W0 X) E0 RB c))
    (he : ∀ C fp s H, PE (cxB X N scope cl C fp s H) elt (tG (W0 X) E0 (Rl X.K) e)) (hs : ∀ x, foldedSetIterable iter X.env x = pure x := by intro _; rfl) : PE X (.ListComp elt [⟨tg, iter, ifs, 0⟩] scope pos) (tE X E (mComp k caps it a c e)) :=
  PE.imp (pe_comp hc B hi hg hif he hs) fun _ _ _ h => comp_read hpn h
theorem ms_setComp (i : Nat) {y : Str} {py : Pos} (hN : X.N.Nodup) (hc : X.calm = true) (hpn : X.pn = []) (B : Caps X N scope cl k caps) (hi : PI X tg iter (tI X E it)) (hg : ∀ C fp s H, PG (cxB X N scope cl C fp s H) tg (tA (W0 X) a)) (hif : ∀ C fp s H, PIf (cxB X N scope cl C fp s H) ifs (tG (W0 X) E0 RB c))
    (he : ∀ C fp s H, PE (cxB X N scope cl C fp s H) elt (tG (W0 X) E0 (Rl X.K) e)) (hy : X.N[i]? = some y := by rfl) (hx : Loc X.env.scope y := by first | exact Or.inl rfl | exact Or.inr rfl) (hsw : swapsWith (.ListComp elt [⟨tg, iter, ifs, 0⟩] scope pos) (some (.Name y py)) spos.line X.env = pure true := by rfl)
    (hs : ∀ x, foldedSetIterable iter X.env x = pure x := by intro _; rfl) (hf : X.fn y = true ∨ X.env.scope.names.lookup y = some .local := by first | exact .inl rfl | exact .inr rfl | assumption) :
    PS X (.Assign [.Name y py] (.ListComp elt [⟨tg, iter, ifs, 0⟩] scope pos) spos) (tS X E (sSet i (mComp k caps it a c e))) :=
  PS.imp (L2.ps_setComp hN hy hx hc B hi hg hif he hsw hs hf) fun _ _ _ h => comp_read hpn (set_read h)
theorem mif_nil {C fp s H} : PIf (cxB X N scope cl C fp s H) [] (tG (W0 X) E0 RB tTrueM) := by
  intro pins s' σ H' Q I q
  refine pif_nil pins s' σ H' Q I ?_
  obtain ⟨μ, ρ, st, rs, sr, h⟩ := q
  exact h ρ H' true (Step.refl _ _) sr rfl
theorem mif_one {cc : Expr} {C fp s H} (h : PT (cxB X N scope cl C fp s H) cc (tG (W0 X) E0 RB c)) : PIf (cxB X N scope cl C fp s H) [cc] (tG (W0 X) E0 RB c) := pif_one h
theorem passB {P : Program} {w : World} {C fp s H} : Passes (CX1 P w) (cxB X N scope cl C fp s H) E0 := by
  rintro pins σ H' s' e s2 I ⟨ea, cls, H2, _, _, q⟩
  exact q.elim
end
noncomputable abbrev FM := Val → List Val → Store → Res Val
noncomputable def rMt (W : Wo) (E : XK) (f : FM) : V → List V → Hp → VK → Prop := fun x xs H Q => ∃ ρ st u us, SR W.K ρ st H ∧ Rl W.K ρ H u x ∧ Rls W.K ρ H us xs ∧ wR W E (Rl W.K) ρ H Q (f u us st)
noncomputable def isLst (st : Store) : Val → Bool
  | .loc n => match st[n]? with
    | some (.lst _) => true
    | _ => false
  | _ => false
noncomputable def mMtL (f : FM) (o : ME) (a : MA) : ME := fun μ st => (o μ st).bind fun x st1 => if isLst st1 x = true then (a μ st1).bind fun xs st2 => f x xs st2 else .bad
noncomputable def appendF : FM
  | .loc n, [v], st => match st[n]? with
    | some (.lst us) => if us.length < sizeLine then .ok .non (st.set n (.lst (us ++ [v]))) else .bad
    | _ => .bad
  | _, _, _ => .bad
section
variable {X : Cx} {E : XK} {o e : Expr} {es : List Expr} {mo : ME} {ms : MA} {apos cpos : Pos} {f : FM}
theorem MtM.imp {id : String} {r r' : V → List V → Hp → VK → Prop} (h : MtM X id r) (k : ∀ x xs H Q, r' x xs H Q → r x xs H Q) : MtM X id r' := fun pins s σ H x xs v us Q I rx rs q => h pins s σ H x xs v us Q I rx rs (k x xs H Q q)
theorem put_lst {K : PySem.W.Frag} {ρ : List Addr} {st : Store} {H : Hp} {n : Nat} {us us' : List Val} {a : Addr} {vs vs' : List V} (sr : SR K ρ st H) (h : st[n]? = some (.lst us)) (ha : ρ[n]? = some a) (hH : H a = some (.lst vs)) (r : Rls K ρ H us' vs') :
    Step ρ H ρ (upd H a (.lst vs')) ∧ SR K ρ (st.set n (.lst us')) (upd H a (.lst vs')) := by
  have e : Step ρ H ρ (upd H a (.lst vs')) := Step.put hH (fun _ z => by cases z) (fun _ _ z => by cases z)
  exact ⟨e, sr.set h rfl rfl ha hH (fun _ z => by cases z) (fun _ _ z => by cases z) ⟨vs', upd_same, Rls.mono e _ _ r⟩⟩
theorem mt_appendM : MtM X "list.append" (rMt (wo X) E appendF) := by
  refine MtM.imp mt_append ?_
  rintro x xs H Q ⟨ρ, st, u, us, sr, r1, r2, h⟩
  unfold appendF at h
  split at h
  · rename_i n v
    obtain ⟨a, rfl, ha⟩ := r1.loc_
    obtain ⟨y, rfl, ry⟩ := r2.un1
    split at h
    · rename_i ws hw
      split at h
      · rename_i hz
        obtain ⟨vs, hH, rv⟩ := sr.cell n _ a hw ha
        refine ⟨a, vs, y, rfl, rfl, hH, by rw [← rv.length]; exact hz, ?_⟩
        obtain ⟨k1, k2⟩ := put_lst sr hw ha hH (rv.append (Rls.one ry))
        exact h ρ _ _ k1 k2 Rl.mkNon
      · exact h.elim
    · exact h.elim
  · exact h.elim
theorem isLst_ty {K : PySem.W.Frag} {ρ : List Addr} {st : Store} {H : Hp} {u : Val} {x : V} (sr : SR K ρ st H) (r : Rl K ρ H u x) (h : isLst st u = true) : tyV K "list" x H := by
  cases u with
  | loc n =>
    obtain ⟨a, rfl, ha⟩ := r.loc_
    obtain ⟨c, hc, kc⟩ := sr.there ha
    simp only [isLst, hc] at h
    cases c with
    | lst us => obtain ⟨vs, h1, _⟩ := kc; exact .inl ⟨rfl, vs, SqL.of h1⟩
    | _ => cases h
  | _ => cases h
theorem me_mtL {name : Str} {id : String} (slot : Slot "list" name id) (hty : typeOf (.builtin id) = pure (.type "method_descriptor")) (hm : MtM X id (rMt (wo X) E f)) (ho : PE X o (tE X E mo)) (ha : PA X (e :: es) (tL X E ms))
    (hbase : attributeBase o name X.env (eval o X.env) = eval o X.env := by rfl)
    (hfew : ((backTo cpos (starEach (e :: es) X.env)).all (fun x => !x.1) && (backToKw cpos (keywordEach [] X.env)).all (fun x => x.1.isSome)
      && decide ((e :: es).length + ([] : List Keyword).length + (if ([] : List Keyword).isEmpty then 0 else 1) < 30)) = true := by rfl)
    (hline : (apos.endLine == cpos.line) = true := by rfl) (hs : starEach (e :: es) X.env = (false, eval e X.env) :: starEach es X.env := by rfl) (hplain : (backTo cpos (starEach es X.env)).any (·.1) = false := by rfl) :
    PE X (.Call (.Attribute o name apos) (e :: es) [] cpos) (tE X E (mMtL f mo ms)) := by
  refine PE.imp (pe_bm PySem.F.plainAttrs_list slot hty hm ho ha hbase hfew hline hs hplain) ?_
  rintro σ H Q ⟨μ, ρ, st, rs, sr, h⟩
  refine go μ ρ st rs sr h fun u st1 ρ1 H1 x e1 sr1 r1 h1 => ?_
  split at h1
  · rename_i hz
    refine ⟨isLst_ty sr1 r1 hz, ?_⟩
    refine go (R1 := Rls X.K) μ ρ1 st1 (rs.mono e1) sr1 h1 fun us st2 ρ2 H2 xs e2 sr2 r2 h2 => ?_
    exact ⟨ρ2, st2, u, us, sr2, Rl.mono e2 _ _ r1, r2, h2⟩
  · exact h1.elim
end
end MN
namespace MN
open PySem PySem.Spec L2
open PyProof.Rows hiding St
noncomputable def wRE {α β : Type} (W : Wo) (R : List Addr → Hp → α → β → Prop) (ρ : List Addr) (H : Hp) (Q : β → Hp → Prop) (EX : EH) : Res α → Prop
  | .ok u st' => ∀ ρ' H' v, Step ρ H ρ' H' → SR W.K ρ' st' H' → R ρ' H' u v → Q v H'
  | .err c st' => ∃ C, W.mg c = some (.ref C) ∧ ∀ ρ' H' ea, Step ρ H ρ' H' → SR W.K ρ' st' H' → EX (.ref C) ea H'
  | .bad => False
theorem wRE.mono {α β : Type} {W : Wo} {R : List Addr → Hp → α → β → Prop} {ρ ρ' : List Addr} {H H' : Hp} {Q : β → Hp → Prop} {EX : EH} {r : Res α} (h : wRE W R ρ H Q EX r) (e : Step ρ H ρ' H') : wRE W R ρ' H' Q EX r := by
  cases r with
  | ok u st => exact fun ρ2 H2 v e2 s r => h ρ2 H2 v (e.trans e2) s r
  | err c st => obtain ⟨C, h1, h2⟩ := h; exact ⟨C, h1, fun ρ2 H2 ea e2 s => h2 ρ2 H2 ea (e.trans e2) s⟩
  | bad => exact h
noncomputable def tEE (X : Cx) (m : ME) : TEE := fun σ H Q EX => ∃ μ ρ st, RS (wo X) ρ H μ σ ∧ SR X.K ρ st H ∧ wRE (wo X) (Rl X.K) ρ H Q EX (m μ st)
noncomputable def tLE (X : Cx) (m : MA) : TAE := fun σ H Q EX => ∃ μ ρ st, RS (wo X) ρ H μ σ ∧ SR X.K ρ st H ∧ wRE (wo X) (Rls X.K) ρ H Q EX (m μ st)
noncomputable def wSE (W : Wo) (ρ : List Addr) (H : Hp) (D : Ends) (EX : EK) : SRes → Prop
  | .nx μ st => ∀ ρ' H' σ', Step ρ H ρ' H' → SR W.K ρ' st H' → RS W ρ' H' μ σ' → D.nx σ' H'
  | .rt v st => ∀ ρ' H' x, Step ρ H ρ' H' → SR W.K ρ' st H' → Rl W.K ρ' H' v x → D.rt x H'
  | .bk μ st => ∀ ρ' H' σ', Step ρ H ρ' H' → SR W.K ρ' st H' → RS W ρ' H' μ σ' → D.bk σ' H'
  | .ct μ st => ∀ ρ' H' σ', Step ρ H ρ' H' → SR W.K ρ' st H' → RS W ρ' H' μ σ' → D.ct σ' H'
  | .er c μ st => ∃ C, W.mg c = some (.ref C) ∧ ∀ ρ' H' σ' ea, Step ρ H ρ' H' → SR W.K ρ' st H' → RS W ρ' H' μ σ' → EX (.ref C) ea σ' H'
  | .bad => False
theorem wSE.mono {W : Wo} {ρ ρ' : List Addr} {H H' : Hp} {D : Ends} {EX : EK} {r : SRes} (h : wSE W ρ H D EX r) (e : Step ρ H ρ' H') : wSE W ρ' H' D EX r := by
  cases r with
  | nx μ st => exact fun ρ2 H2 σ2 e2 s r => h ρ2 H2 σ2 (e.trans e2) s r
  | rt v st => exact fun ρ2 H2 x e2 s r => h ρ2 H2 x (e.trans e2) s r
  | bk μ st => exact fun ρ2 H2 σ2 e2 s r => h ρ2 H2 σ2 (e.trans e2) s r
  | ct μ st => exact fun ρ2 H2 σ2 e2 s r => h ρ2 H2 σ2 (e.trans e2) s r
  | er c μ st => obtain ⟨C, h1, h2⟩ := h; exact ⟨C, h1, fun ρ2 H2 σ2 ea e2 s r => h2 ρ2 H2 σ2 ea (e.trans e2) s r⟩
  | bad => exact h
noncomputable def tSE (X : Cx) (m : MB) : TSE := fun D EX σ H => ∃ μ ρ st, RS (wo X) ρ H μ σ ∧ SR X.K ρ st H ∧ wSE (wo X) ρ H D EX (m μ st)
noncomputable def noE {α : Type} (m : Env → Store → Res α) : Env → Store → Res α := fun μ st => match m μ st with
  | .ok v st' => .ok v st'
  | .err _ _ => .bad
  | .bad => .bad
section
variable {X : Cx} {pos p : Pos} {e : Expr} {es : List Expr} {m : ME} {ms : MA} {f : FN} {x : Str}
theorem PEE.imp {t t' : TEE} (h : PEE X e t) (k : ∀ σ H Q EX, t' σ H Q EX → t σ H Q EX) : PEE X e t' := fun pins s σ H Q EX I q => h pins s σ H Q EX I (k σ H Q EX q)
theorem PAE.imp {t t' : TAE} (h : PAE X es t) (k : ∀ σ H Q EX, t' σ H Q EX → t σ H Q EX) : PAE X es t' := fun p pins s σ H Q EX I q => h p pins s σ H Q EX I (k σ H Q EX q)
theorem PSE.imp {st : Stmt} {t t' : TSE} (h : PSE X st t) (k : ∀ D EX σ H, t' D EX σ H → t D EX σ H) : PSE X st t' := fun pins s σ H D EX I q => h pins s σ H D EX I (k D EX σ H q)
theorem mee_pure (h : ∀ W, PE (X.wish W) e (tE X E0 m)) : PEE X e (tEE X (noE m)) := by
  refine PEE.imp (pee_of h) ?_
  rintro σ H Q EX ⟨μ, ρ, st, rs, sr, h⟩
  refine ⟨μ, ρ, st, rs, sr, ?_⟩
  unfold noE at h
  cases z : m μ st with
  | ok v st' => rw [z] at h; exact h
  | err c st' => rw [z] at h; exact h.elim
  | bad => rw [z] at h; exact h
theorem mee_call {k : Nat} {fa : Addr} {fd : FuncData} {ps : List Str} (F : FnOk X.prog X.w X.K X.mg X.base (CX1 X.prog X.w) k fa fd ps (spM ⟨X.K, X.mg, []⟩ f)) (hr : Room k X.A) (hg : Gl X x) (hm : X.mg x = some (.ref fa)) (hk : PySem.W.keepIn X.K (.ref fa) = true) (hb : Binds X.K fd ps []) (hfn : ∀ y, X.fn y = true) (ha : ∀ W, PA (X.wish W) (e :: es) (tL X E0 ms))
    (hdb : (x == ("__debug__" : Str)) = false := by decide) (he : starEach (e :: es) X.env = (false, eval e X.env) :: starEach es X.env := by rfl) (hpl : (backTo pos (starEach es X.env)).any (·.1) = false := by rfl) :
    PEE X (.Call (.Name x p) (e :: es) [] pos) (tEE X (mCall f (noE ms))) := by
  refine PEE.imp (pee_call F hr hg hm hk hb hfn ha hdb he hpl) ?_
  rintro σ H Q EX ⟨μ, ρ, st, rs, sr, h⟩
  refine ⟨μ, ρ, st, rs, sr, ?_⟩
  unfold mCall noE at h
  cases z : ms μ st with
  | ok us st1 =>
    rw [z] at h
    intro ρ1 H1 vs e1 sr1 r1
    refine ⟨us, ρ1, st1, r1, sr1, ?_⟩
    have h' : wRE (wo X) (Rl X.K) ρ1 H1 Q EX (f us st1) := wRE.mono h e1
    revert h'
    cases f us st1 with
    | ok u st2 => exact fun q => q
    | err c st2 => exact fun ⟨C, q1, q2⟩ => ⟨C, q1, fun ρ2 H2 e2 s2 ea => q2 ρ2 H2 ea e2 s2⟩
    | bad => exact fun q => q
  | err c st' => rw [z] at h; exact h.elim
  | bad => rw [z] at h; exact h
theorem mae_nil : PAE X [] (tLE X mNil) := PAE.imp pae_nil fun σ H Q EX ⟨μ, ρ, st, rs, sr, h⟩ => h ρ H [] (Step.refl _ _) sr Rls.nil
theorem mae_cons (ha : PEE X e (tEE X m)) (hr : PAE X es (tLE X ms)) (hs : starEach (e :: es) X.env = (false, eval e X.env) :: starEach es X.env := by rfl) : PAE X (e :: es) (tLE X (mCons m ms)) := by
  refine PAE.imp (pae_cons ha hr hs) ?_
  rintro σ H Q EX ⟨μ, ρ, st, rs, sr, h⟩
  refine ⟨μ, ρ, st, rs, sr, ?_⟩
  unfold mCons at h
  cases z : m μ st with
  | ok u st1 =>
    rw [z] at h
    intro ρ1 H1 v e1 sr1 r1
    have h' := wRE.mono h e1
    refine ⟨μ, ρ1, st1, rs.mono e1, sr1, ?_⟩
    dsimp only [Res.bind] at h'
    cases z2 : ms μ st1 with
    | ok us st2 =>
      rw [z2] at h'
      exact fun ρ2 H2 vs e2 sr2 r2 => h' ρ2 H2 _ e2 sr2 (Rls.cons (Rl.mono e2 _ _ r1) r2)
    | err c st2 => rw [z2] at h'; exact h'
    | bad => rw [z2] at h'; exact h'
  | err c st' => rw [z] at h; exact h
  | bad => rw [z] at h; exact h
theorem mee_tup {k} (h : PAE X es (tLE X ms)) : PEE X (.Tuple es k pos) (tEE X (mTup ms)) := by
  refine PEE.imp (pee_tup h) ?_
  rintro σ H Q EX ⟨μ, ρ, st, rs, sr, h⟩
  refine ⟨μ, ρ, st, rs, sr, ?_⟩
  unfold mTup at h
  cases z : ms μ st with
  | ok us st1 =>
    rw [z] at h
    dsimp only [Res.bind] at h
    split at h
    · rename_i hz
      intro ρ1 H1 xs e1 sr1 r1
      refine ⟨by rw [← r1.length]; exact hz, fun p hp => ?_⟩
      have s := same_upd (o := .tup xs) hp
      exact h ρ1 _ _ (e1.trans (Step.same s)) (sr1.grow s) (Rl.mkTup upd_same (Rls.mono (Step.same s) _ _ r1))
    · exact h.elim
  | err c st' => rw [z] at h; exact h
  | bad => rw [z] at h; exact h
theorem wSE_sb {σ : L2.St} {H : Hp} {D : Ends} {EX : EK} {k : Val → Store → SRes} {μ : Env} {ρ : List Addr} {st : Store} (rs : RS (wo X) ρ H μ σ) (sr : SR X.K ρ st H) (h : wSE (wo X) ρ H D EX ((m μ st).sb μ k)) {Q : VK}
    (c : ∀ u st1 ρ1 H1 x, Step ρ H ρ1 H1 → SR X.K ρ1 st1 H1 → Rl X.K ρ1 H1 u x → wSE (wo X) ρ1 H1 D EX (k u st1) → Q x H1) : tEE X m σ H Q fun cls ea H' => EX cls ea σ H' := by
  refine ⟨μ, ρ, st, rs, sr, ?_⟩
  cases z : m μ st with
  | ok u st1 => rw [z] at h; exact fun ρ1 H1 x e1 sr1 r1 => c u st1 ρ1 H1 x e1 sr1 r1 (wSE.mono h e1)
  | err c' st1 => rw [z] at h; obtain ⟨C, q1, q2⟩ := h; exact ⟨C, q1, fun ρ2 H2 ea e2 s2 => q2 ρ2 H2 σ ea e2 s2 (rs.mono e2)⟩
  | bad => rw [z] at h; exact h
theorem mse_expr (he : PEE X e (tEE X m)) (hs : swapsWith e none pos.line X.env = pure false := by rfl) : PSE X (.Expr e pos) (tSE X (sExpr m)) := by
  refine PSE.imp (pse_expr he hs) ?_
  rintro D EX σ H ⟨μ, ρ, st, rs, sr, h⟩
  exact wSE_sb rs sr h fun u st1 ρ1 H1 x e1 sr1 r1 h1 => h1 ρ1 H1 σ (Step.refl _ _) sr1 (rs.mono e1)
theorem mse_ret (he : PEE X e (tEE X m)) : PSE X (.Return (some e) pos) (tSE X (sRet m)) := by
  refine PSE.imp (pse_ret he) ?_
  rintro D EX σ H ⟨μ, ρ, st, rs, sr, h⟩
  exact wSE_sb rs sr h fun u st1 ρ1 H1 x e1 sr1 r1 h1 => h1 ρ1 H1 x (Step.refl _ _) sr1 r1
theorem mse_one {s1 : Stmt} {a : MB} (h : PSE X s1 (tSE X a)) : PSEs X [s1] (tSE X a) := psse_one h
noncomputable abbrev MH := Str → MB
noncomputable def hNil : MH := fun _ _ _ => .bad
noncomputable def onlyRt : SRes → SRes
  | .rt v st => .rt v st
  | _ => .bad
noncomputable def hCons (sub : Str → Str → Option Bool) (x : Str) (suite : MB) (rest : MH) : MH := fun c μ st => match sub c x with
  | some true => onlyRt (suite μ st)
  | some false => rest c μ st
  | none => .bad
noncomputable def hAs (sub : Str → Str → Option Bool) (x : Str) (i : Nat) (suite : MB) (rest : MH) : MH := fun c μ st => match sub c x with
  | some true => onlyRt (suite (μ.set i (some (.exc c))) st)
  | some false => rest c μ st
  | none => .bad
noncomputable def sTry (kn : Str → Bool) (body : MB) (h : MH) : MB := fun μ st => match body μ st with
  | .er c μ' st' => if kn c = true then h c μ' st' else .bad
  | .nx μ' st' => .nx μ' st'
  | .rt v st' => .rt v st'
  | .bk μ' st' => .bk μ' st'
  | .ct μ' st' => .ct μ' st'
  | .bad => .bad
noncomputable def tHd (X : Cx) (h : MH) : THs := fun D EX cls ea σ H => ∃ c C μ ρ st, X.mg c = some (.ref C) ∧ cls = .ref C ∧ RS (wo X) ρ H μ σ ∧ SR X.K ρ st H ∧ wSE (wo X) ρ H D EX (h c μ st)
theorem PH.imp {hs : List ExceptHandler} {t t' : THs} (h : PH X hs t) (k : ∀ D EX cls ea σ H, t' D EX cls ea σ H → t D EX cls ea σ H) : PH X hs t' := fun pins s σ H D EX ea cls J q => h pins s σ H D EX ea cls J (k D EX cls ea σ H q)
theorem mh_nil : PH X [] (tHd X hNil) := PH.imp ph_nil fun D EX cls ea σ H q => by
  obtain ⟨c, C, μ, ρ, st, _, _, _, _, h⟩ := q
  exact h
noncomputable def SubT (K : PySem.W.Frag) (mg : Str → Option Value) (sub : Str → Str → Option Bool) : Prop := ∀ c x b C D, sub c x = some b → mg c = some (.ref C) → mg x = some (.ref D) → PySem.W.kitCls K (.ref C) (.ref D) = some b
theorem RlE.pn {K : PySem.W.Frag} {mg : Str → Option Value} {pn pn' : List (Addr × Obj)} (hp : ∀ q ∈ pn, q ∈ pn') {ρ : List Addr} {H : Hp} {u : Val} {v : V} (h : RlE ⟨K, mg, pn⟩ ρ H u v) : RlE ⟨K, mg, pn'⟩ ρ H u v := by
  cases u with
  | exc c => obtain ⟨a, oe, C, h1, h2, h3⟩ := h; exact ⟨a, oe, C, h1, hp _ h2, h3⟩
  | _ => exact h
theorem RS.pn {K : PySem.W.Frag} {mg : Str → Option Value} {pn pn' : List (Addr × Obj)} (hp : ∀ q ∈ pn, q ∈ pn') {ρ : List Addr} {H : Hp} {μ : Env} {σ : L2.St} (h : RS ⟨K, mg, pn⟩ ρ H μ σ) : RS ⟨K, mg, pn'⟩ ρ H μ σ :=
  ⟨h.len, fun i u e => let ⟨v, h1, h2⟩ := h.at_ i u e; ⟨v, h1, h2.pn hp⟩⟩
theorem mh_cons {C : Addr} {np : Pos} {b₀ : Stmt} {suite : List Stmt} {rest : List ExceptHandler} {sub : Str → Str → Option Bool} {s : MB} {r : MH} (hS : SubT X.K X.mg sub) (hg : Gl X x) (hm : X.mg x = some (.ref C)) (hB : PySem.W.subIn X.K (.ref C) (.type "BaseException") = some true)
    (hs : ∀ ea oe, PSs (L2.inH X ea oe) (b₀ :: suite) (tS (L2.inH X ea oe) E0 s)) (hr : PH X rest (tHd X r)) (hd : (x == ("__debug__" : Str)) = false := by decide) : PH X (.ExceptHandler (some (.Name x np)) none (b₀ :: suite) pos :: rest) (tHd X (hCons sub x s r)) := by
  refine PH.imp (ph_cons hg hm hB hs hr hd) ?_
  rintro D EX cls ea σ H ⟨c, C', μ, ρ, st, h1, rfl, rs, sr, h⟩
  unfold hCons at h
  split at h
  · rename_i e
    refine ⟨true, hS c x true C' C e h1 hm, ?_⟩
    rw [if_pos rfl]
    intro oe hoe
    refine ⟨μ, ρ, st, RS.pn (fun q hq => List.mem_cons_of_mem _ hq) rs, sr, ?_⟩
    revert h
    cases s μ st with
    | rt v st' => exact fun q => q
    | _ => exact fun q => q.elim
  · rename_i e
    refine ⟨false, hS c x false C' C e h1 hm, ?_⟩
    rw [if_neg Bool.false_ne_true]
    exact ⟨c, C', μ, ρ, st, h1, rfl, rs, sr, h⟩
  · exact h.elim
theorem mh_as {n : Str} {i : Nat} {C : Addr} {np : Pos} {b₀ : Stmt} {suite : List Stmt} {rest : List ExceptHandler} {sub : Str → Str → Option Bool} {s : MB} {r : MH} (hS : SubT X.K X.mg sub) (hN : X.N.Nodup) (hi : X.N[i]? = some n) (hl : X.env.scope.names.lookup n = some .local) (hg : Gl X x) (hm : X.mg x = some (.ref C))
    (hB : PySem.W.subIn X.K (.ref C) (.type "BaseException") = some true) (hs : ∀ ea oe, PSs (L2.inH X ea oe) (b₀ :: suite) (tS (L2.inH X ea oe) E0 s)) (hr : PH X rest (tHd X r)) (hd : (x == ("__debug__" : Str)) = false := by decide) :
    PH X (.ExceptHandler (some (.Name x np)) (some n) (b₀ :: suite) pos :: rest) (tHd X (hAs sub x i s r)) := by
  refine PH.imp (ph_as hN hi hl hg hm hB hs hr hd) ?_
  rintro D EX cls ea σ H ⟨c, C', μ, ρ, st, h1, rfl, rs, sr, h⟩
  unfold hAs at h
  split at h
  · rename_i e
    refine ⟨true, hS c x true C' C e h1 hm, ?_⟩
    rw [if_pos rfl]
    intro oe hoe
    have rs' : RS (wo (L2.inH X ea oe)) ρ H (μ.set i (some (.exc c))) (σ.set i (some (.ref ea))) :=
      (RS.pn (fun q hq => List.mem_cons_of_mem _ hq) rs).setE i ⟨ea, oe, C', rfl, List.mem_cons_self, h1, hoe⟩
    refine ⟨_, ρ, st, rs', sr, ?_⟩
    revert h
    cases s (μ.set i (some (.exc c))) st with
    | rt v st' => exact fun q => q
    | _ => exact fun q => q.elim
  · rename_i e
    refine ⟨false, hS c x false C' C e h1 hm, ?_⟩
    rw [if_neg Bool.false_ne_true]
    exact ⟨c, C', μ, ρ, st, h1, rfl, rs, sr, h⟩
  · exact h.elim
noncomputable def Known (mg : Str → Option Value) (kn : Str → Bool) : Prop := ∀ c, kn c = true → ∃ C, mg c = some (.ref C)
theorem try_read {kn : Str → Bool} {b : MB} {h : MH} (hk : Known X.mg kn) {D : Ends} {EX : EK} {σ : L2.St} {H : Hp} (q : tSE X (sTry kn b h) D EX σ H) : tSE X b D (fun cls ea σ' H' => tHd X h D EX cls ea σ' H') σ H := by
  obtain ⟨μ, ρ, st, rs, sr, q⟩ := q
  refine ⟨μ, ρ, st, rs, sr, ?_⟩
  unfold sTry at q
  cases z : b μ st with
  | er c μ' st' =>
    rw [z] at q
    dsimp only at q
    split at q
    · rename_i hc
      obtain ⟨C, hC⟩ := hk c hc
      exact ⟨C, hC, fun ρ' H' σ' ea e s r => ⟨c, C, μ', ρ', st', hC, rfl, r, s, wSE.mono q e⟩⟩
    · exact q.elim
  | _ => rw [z] at q; exact q
noncomputable def noOut (m : MB) : MB := fun μ st => match m μ st with
  | .er _ _ _ => .bad
  | .nx μ' st' => .nx μ' st'
  | .rt v st' => .rt v st'
  | .bk μ' st' => .bk μ' st'
  | .ct μ' st' => .ct μ' st'
  | .bad => .bad
theorem ms_try {E : XK} {kn : Str → Bool} {body : List Stmt} {h₀ : ExceptHandler} {hs : List ExceptHandler} {b : MB} {h : MH} (hk : Known X.mg kn) (dx : DefX X) (hb : PSEs X body (tSE X b)) (hh : PH X (h₀ :: hs) (tHd X h)) : PS X (.Try body (h₀ :: hs) [] [] pos) (tS X E (noOut (sTry kn b h))) := by
  refine PS.imp (ps_try dx hb hh) ?_
  rintro D σ H ⟨μ, ρ, st, rs, sr, q⟩
  refine try_read (EX := fun _ _ _ _ => False) hk ⟨μ, ρ, st, rs, sr, ?_⟩
  unfold noOut at q
  revert q
  cases sTry kn b h μ st with
  | er c μ' st' => exact fun q => q.elim
  | _ => exact fun q => q
noncomputable def mIsX (sub : Str → Str → Option Bool) (i : Nat) (x : Str) : ME := fun μ st => match μ[i]? with
  | some (some (.exc c)) => (match sub c x with
    | some true => .ok (.bl true) st
    | _ => .bad)
  | _ => .bad
inductive ClsAt (X : Cx) (x : Str) : Value → V → Prop
  | own {C : Addr} (hm : X.mg x = some (.ref C)) : ClsAt X x (.ref C) (.ref C)
  | blt {n : String} (hm : X.mg x = none) (hv : bootBuiltins x = some (.type n)) (hn : x ≠ "__name__") : ClsAt X x (.type n) (.ty n)
noncomputable def SubI (K : PySem.W.Frag) (mg : Str → Option Value) (sub : Str → Str → Option Bool) (x : Str) (cv : Value) : Prop := ∀ c C, sub c x = some true → mg c = some (.ref C) → PySem.W.kitOne K (.ref C) cv = some true
theorem me_isX {E : XK} {sub : Str → Str → Option Bool} {i : Nat} {n : Str} {cv : Value} {v : V} {q1 q2 : Pos} (hc : ClsAt X x cv v) (hS : SubI X.K X.mg sub x cv) (hg : Gl X "isinstance") (hm : X.mg "isinstance" = none) (hgx : Gl X x)
    (hN : X.N[i]? = some n) (hv : Vis X.env.scope n) (hd : (n == ("__debug__" : Str)) = false) (hcd : (n == ("__classdict__" : Str)) = false) (hdx : (x == ("__debug__" : Str)) = false)
    (hs : starEach [.Name n q1, .Name x q2] X.env = (false, eval (.Name n q1) X.env) :: starEach [.Name x q2] X.env := by rfl) (hs2 : starEach [.Name x q2] X.env = (false, eval (.Name x q2) X.env) :: starEach [] X.env := by rfl)
    (hpl : (backTo pos (starEach [.Name x q2] X.env)).any (·.1) = false := by rfl) : PE X (.Call (.Name "isinstance" p) [.Name n q1, .Name x q2] [] pos) (tE X E (mIsX sub i x)) := by
  have hx : PE X (.Name x q2) (tC v) := by
    cases hc with
    | own h => exact pe_glob hgx h rfl hdx
    | blt h1 h2 h3 => exact pe_bltn hgx h1 h2 rfl h3 hdx
  refine PE.imp (pe_callB call_isinstX hg hm PyProof.Rows.boot_isinstance (pa_cons (pe_var (i := i) hN hv hd hcd) (pa_cons hx pa_nil hs2) hs) (by decide) (by decide) hs hpl) ?_
  rintro σ H Q ⟨μ, ρ, st, rs, sr, h⟩
  unfold mIsX at h
  split at h
  · rename_i c e
    split at h
    · rename_i es
      obtain ⟨w, e', a, oe, C, rfl, hp, hC, ho⟩ := rs.at_ i _ e
      have hk := hS c C es hC
      rw [← ho] at hk
      cases hc with
      | own h' => exact ⟨_, e', a, oe, _, .inl ⟨rfl, hk⟩, hp, fin_b sr h⟩
      | blt h1 h2 h3 => exact ⟨_, e', a, oe, 0, .inr ⟨_, rfl, hk⟩, hp, fin_b sr h⟩
    · exact h.elim
  · exact h.elim
end
end MN
namespace MN
open PySem PySem.Spec L2
open PyProof.Rows hiding St
inductive CapAll (X : Cx) (scope : Scope) : List (Str × Addr) → List Nat → Prop
  | nil : CapAll X scope [] []
  | cons {y : Str} {c : Addr} {j : Nat} {cl : List (Str × Addr)} {caps : List Nat} (sub : X.env.cells.lookup y = some c) (hX : X.N[j]? = some y) (hk : X.env.kindOf y = some .cell ∨ X.env.kindOf y = some .free)
      (hr : (relabel scope X.env).names.lookup y = some .cell ∨ (relabel scope X.env).names.lookup y = some .free) (r : CapAll X scope cl caps) : CapAll X scope ((y, c) :: cl) (j :: caps)
theorem CapAll.sub {X : Cx} {scope : Scope} {cl : List (Str × Addr)} {caps : List Nat} (A : CapAll X scope cl caps) : ∀ x c, cl.lookup x = some c → X.env.cells.lookup x = some c := by
  induction A with
  | nil => intro x c h; cases h
  | @cons y c0 _ _ _ sub _ _ _ _ ih =>
    intro x c h
    rw [List.lookup_cons] at h
    by_cases e : x = y
    · rw [beq_iff_eq.mpr e] at h
      rw [e]; exact sub.trans h
    · rw [beq_eq_false_iff_ne.mpr e] at h
      exact ih x c h
theorem CapAll.at_ {X : Cx} {scope : Scope} {cl : List (Str × Addr)} {caps : List Nat} (A : CapAll X scope cl caps) : ∀ (i j : Nat) (x : Str), caps[i]? = some j → (cl.map (·.1))[i]? = some x →
    X.N[j]? = some x ∧ (X.env.kindOf x = some .cell ∨ X.env.kindOf x = some .free) ∧ ((relabel scope X.env).names.lookup x = some .cell ∨ (relabel scope X.env).names.lookup x = some .free) := by
  induction A with
  | nil => intro i j x h; cases h
  | cons _ hX hk hr _ ih =>
    intro i j x h h2
    cases i with
    | zero => cases h; cases h2; exact ⟨hX, hk, hr⟩
    | succ i => exact ih i j x h h2
theorem lookup_of_mem : ∀ {cl : List (Str × Addr)} {x : Str}, x ∈ cl.map (·.1) → ∃ c, cl.lookup x = some c
  | [], x, h => by simp at h
  | (y, c) :: cl, x, h => by
    by_cases e : x = y
    · exact ⟨c, by simp [e]⟩
    · have e' : (x == y) = false := by simpa using e
      rw [List.map_cons, List.mem_cons] at h
      rcases h with h | h
      · exact absurd h e
      · obtain ⟨d, hd⟩ := lookup_of_mem h
        exact ⟨d, by simp only [List.lookup_cons, e']; exact hd⟩
theorem capsA {X : Cx} {N : List Str} {scope : Scope} {k : Nat} {cl : List (Str × Addr)} {caps : List Nat} (clos : closureFor scope X.env = pure cl) (A : CapAll X scope cl caps) (has : ((relabel scope X.env).names.all fun p => !(p.2 == .cell || p.2 == .free) || (cl.map (·.1)).contains p.1) = true)
    (nocell : (scope.names.all fun p => !(p.2 == .cell)) = true) (kind : scope.kind = .function) (names : (scope.names.all fun p => !(p.2 == .local) || scope.names.lookup p.1 == some .local) = true) (len : N.length = k + caps.length) (hN : N.drop k = cl.map (·.1)) : Caps X N scope cl k caps where
  clos := clos
  sub := A.sub
  has := fun x h => by
    have m : x ∈ cl.map (·.1) := by
      rcases h with h | h <;> (have m := PySem.mem_of_lookup h; have z := List.all_eq_true.mp has _ m; simpa using z)
    exact lookup_of_mem m
  nocell := fun x hx h => by
    have z := List.all_eq_true.mp nocell x hx
    simp [h] at z
  kind := kind
  names := fun x hx h => by
    have z := List.all_eq_true.mp names x hx
    simpa [h] using z
  len := len
  at_ := fun i j x h1 h2 => A.at_ i j x h1 (by rw [← hN, List.getElem?_drop]; exact h2)
noncomputable def FnAt (P : Program) (w : World) (K : PySem.W.Frag) (mg : Str → Option Value) (base : Heap) (x : Str) (k : Nat) (f : FN) : Prop :=
  ∃ fa fd ps, FnOk P w K mg base (CX1 P w) k fa fd ps (spM ⟨K, mg, []⟩ f) ∧ mg x = some (.ref fa) ∧ PySem.W.keepIn K (.ref fa) = true ∧ Binds K fd ps []
section
variable {X : Cx} {E : XK} {pos p : Pos} {e : Expr} {es : List Expr} {ms : MA} {f : FN} {x : Str} {k j : Nat}
theorem me_fn (G : FnAt X.prog X.w X.K X.mg X.base x k f) (hr : Room j X.A) (hk : k ≤ j) (hg : Gl X x) (hx : Passes (CX1 X.prog X.w) X E) (ha : PA X (e :: es) (tL X E ms)) (hdb : (x == ("__debug__" : Str)) = false := by decide)
    (he : starEach (e :: es) X.env = (false, eval e X.env) :: starEach es X.env := by rfl) (hpl : (backTo pos (starEach es X.env)).any (·.1) = false := by rfl) : PE X (.Call (.Name x p) (e :: es) [] pos) (tE X E (mCall f ms)) := by
  obtain ⟨fa, fd, ps, F, hm, kp, b⟩ := G
  exact me_call F (hr.mono hk) hg hm kp b hx ha hdb he hpl
theorem mee_fn (G : FnAt X.prog X.w X.K X.mg X.base x k f) (hr : Room j X.A) (hk : k ≤ j) (hg : Gl X x) (hfn : ∀ y, X.fn y = true) (ha : ∀ W, PA (X.wish W) (e :: es) (tL X E0 ms)) (hdb : (x == ("__debug__" : Str)) = false := by decide)
    (he : starEach (e :: es) X.env = (false, eval e X.env) :: starEach es X.env := by rfl) (hpl : (backTo pos (starEach es X.env)).any (·.1) = false := by rfl) : PEE X (.Call (.Name x p) (e :: es) [] pos) (tEE X (mCall f (noE ms))) := by
  obtain ⟨fa, fd, ps, F, hm, kp, b⟩ := G
  exact mee_call F (hr.mono hk) hg hm kp b hfn ha hdb he hpl
end
section
variable {P : Program} {w : World} {K : PySem.W.Frag} {mg : Str → Option Value} {base : Heap}
theorem FnAt.mk {x : Str} {st : Stmt} {f : Addr} {fd : FuncData} {N ps : List Str} {k : Nat} {body : MB} (F : Fun K x x st f fd) (hm : mg x = some (.ref f)) (S : FnScope N ps (defScope st))
    (hb : ∀ (kV doc pm : Value) (an : Option Addr) (cdv ct : Value) (us : List Value), us.length = ps.length → bindArgs (PySem.W.fnOf x x (defArgs st) (defBody st) (defScope st) .none kV doc pm an cdv ct) ⟨us, []⟩ = pure (ps.zip us))
    (h : ∀ (cdv : Value) (A : Around) (outer : List PySem.Env) (s : Shared) (H : Hp) (E : XK), Room k (A.deeper (envOfC x (defScope st) s.heap.objs.size f cdv)) →
      PSs (cxOf (CX1 P w) P w K mg base N x (defScope st) f cdv A outer s H E) (defBody st) (tS (cxOf (CX1 P w) P w K mg base N x (defScope st) f cdv A outer s H E) E body)) : FnAt P w K mg base x (k + 1) (fnM ps.length N.length body) :=
  ⟨f, fd, ps, fn_okM F S h, hm, F.kp, F.binds hb⟩
theorem own_pass {N : List Str} {qual : Str} {scope : Scope} {f : Addr} {cd : Value} {A : Around} {outer : List PySem.Env} {s₀ : Shared} {H₀ : Hp} {E : XK} : PassesOwn (model P w) (A.deeper (envOfC qual scope s₀.heap.objs.size f cd)) (envOfC qual scope s₀.heap.objs.size f cd) (cxOf (CX1 P w) P w K mg base N qual scope f cd A outer s₀ H₀ E).xe :=
  PassesOwn.leaving
theorem own_raises {N : List Str} {qual : Str} {scope : Scope} {f : Addr} {cd : Value} {A : Around} {outer : List PySem.Env} {s₀ : Shared} {H₀ : Hp} {E : XK} : Raises (cxOf (CX1 P w) P w K mg base N qual scope f cd A outer s₀ H₀ E) E :=
  fun pins σ H s h' e cls vs I hx hE => raise_out I hx hE
theorem Glob.int {x : Str} {i : Int} {t : Tok} (h : mg x = some (.int i t)) : Glob K mg x (.int i) := ⟨_, .int i, h, ⟨t, rfl⟩, fun _ _ => Rl.mkInt i⟩
theorem Glob.ints {x : Str} {a : Addr} {o : Obj} {its : Array Value} {n : Nat} {ns : List Int} (h : mg x = some (.ref a)) (l : K.lookup a = some o) (hc : o.cls = .type "tuple") (hd : o.data = .seq its n) (hz : its.size ≤ sizeLine) (hv : Vals (ns.map V.int) its.toList) : Glob K mg x (.mt (ns.map .int)) :=
  ⟨_, .ref a, h, rfl, fun ρ H => Rl.mkMt (.inr ⟨o, its, n, l, hc, hd, hz, hv⟩) (Rls.ints ns)⟩
noncomputable def spLaw (K : PySem.W.Frag) : Sp := fun vs H Q _ => ∃ (a : Addr) (ns : List Int), vs = [.ref a] ∧ Only H ∧ SqL K H a (ns.map V.int) ∧ ns.length ≤ 63 ∧ ∀ H', Q (.bl true) H'
theorem one_SR {H : Hp} {a : Addr} {c : Cell} (k : CellR K [a] H c a) : SR K [a] [c] H := by
  refine ⟨rfl, fun n m b h1 h2 _ _ => ?_, fun n c' b h1 h2 => ?_⟩
  · have p1 := getL_lt h1
    have p2 := getL_lt h2
    simp at p1 p2
    omega
  · have p1 := getL_lt h1
    simp at p1
    subst p1
    cases h1
    cases h2
    exact k
theorem law_sp {f : FN} (hf : ∀ (c : Cell) (ns : List Int), ns.length ≤ 63 → itemsOf [c] 0 = some (ns.map Val.int) → ∃ st', f [.loc 0] [c] = .ok (.bl true) st') {vs : List V} {H : Hp} {Q : VK} {E : XK} (h : spLaw K vs H Q E) : spM ⟨K, mg, []⟩ f vs H Q E := by
  obtain ⟨a, ns, rfl, hO, hS, hl, q⟩ := h
  have fin : ∀ c : Cell, CellR K [a] H c a → itemsOf [c] 0 = some (ns.map Val.int) → spM ⟨K, mg, []⟩ f [.ref a] H Q E := by
    intro c k hi
    obtain ⟨st', e⟩ := hf c ns hl hi
    refine ⟨[.loc 0], [a], [c], Rls.one (Rl.mkLoc rfl), one_SR k, ?_⟩
    rw [e]
    intro ρ' H' v _ _ r
    rw [r.bl_]
    exact q H'
  rcases hS with (h | ⟨o, h⟩) | h
  · rcases hO a with z | ⟨o, xs, z⟩ <;> (rw [z] at h; cases h)
  · exact fin (.fro (ns.map .int)) ⟨o, _, h, Rls.ints ns⟩ rfl
  · exact fin (.mod (ns.map .int)) ⟨_, h, Rls.ints ns⟩ rfl
theorem law_walk {l : PySem.W.OpenLaw} {q : Program} {loose : List Str} {XP : (Str → Option Value) → Heap → Prop} {YP : World → Heap → Prop} {d : DefRec} {K : Params → PySem.W.Frag} {x : Str} {k : Nat} (hn : l.most = some 63) (hdf : d.params.defaults = []) (hr : Room k callerA)
    (hY : ∀ (w : World) (h : Heap), YP w h → (K w.params).In h)
    (F : ∀ (w : World) (mg : Str → Option Value) (fa : Addr) (h : Heap), (K w.params).In h → h.Ns mainGlobals mg → mg d.name = some (.ref fa) →
      ∃ fd : FuncData, (∀ (s : Shared) (u : Value), BindsTo s fd ⟨[u], []⟩ [(x, u)]) ∧ ∀ base : Heap, (K w.params).In base → base.Ns mainGlobals mg → FnOk l.prog w (K w.params) mg base (CX1 l.prog w) k fa fd [x] (spLaw (K w.params))) :
    PySem.W.WalkO q loose XP YP l.row.toRowW d [] (fun f vs => PySem.call f vs) :=
  L2.walk_of (n := 63) (k := k) (x := x) (CX := fun w => CX1 l.prog w) (sp := fun w => spLaw (K w.params)) hn (by decide) hdf hr hY F (fun _ _ a ns hl hO hS => ⟨a, ns, rfl, hO, hS, hl, fun _ => rfl⟩) fun _ _ _ _ _ ⟨_, _, _, _, _, z⟩ => z
end
end MN
namespace MN
open PySem PySem.Spec L2
open PyProof.Rows hiding St
theorem bt_ValueError : bootBuiltins "ValueError" = some (.type "ValueError") := by decide +kernel
abbrev bmV : List Value := [.type "ValueError", .type "Exception", .type "BaseException", .type "object"]
noncomputable def ExcC (K : PySem.W.Frag) (mg : Str → Option Value) (x : Str) : Prop := ∃ C, mg x = some (.ref C) ∧ PySem.W.excIn K C bmV "ValueError.__new__" = true ∧ PySem.W.subIn K (.ref C) (.type "BaseException") = some true
theorem kitCls_of {K : PySem.W.Frag} {D : Addr} {t : Value} {cd : ClassData} {b : Bool} (h1 : PySem.W.clsIn K D = some cd) (h2 : PySem.W.typeIn K (.ref D) = some (.type "type")) (h3 : PySem.W.subIn K t (.ref D) = some b) : PySem.W.kitCls K t (.ref D) = some b := by
  show (if ((PySem.W.clsIn K D).isSome && PySem.W.typeIn K (.ref D) == some (.type "type")) = true then PySem.W.subIn K t (.ref D) else none) = some b
  rw [h1, h2, h3]
  rfl
inductive SubAll (K : PySem.W.Frag) (mg : Str → Option Value) : List (Str × Str × Bool) → Prop
  | nil : SubAll K mg []
  | own {c x : Str} {b : Bool} {C D : Addr} {r : List (Str × Str × Bool)} (h1 : mg c = some (.ref C)) (h2 : mg x = some (.ref D)) (h3 : PySem.W.kitCls K (.ref C) (.ref D) = some b) (hr : SubAll K mg r) : SubAll K mg ((c, x, b) :: r)
  | blt {c x : Str} {n : String} {C : Addr} {r : List (Str × Str × Bool)} (h1 : mg c = some (.ref C)) (h2 : mg x = none) (h2' : bootBuiltins x = some (.type n)) (h3 : PySem.W.kitOne K (.ref C) (.type n) = some true) (hr : SubAll K mg r) : SubAll K mg ((c, x, true) :: r)
noncomputable def subL (tab : List (Str × Str × Bool)) (c x : Str) : Option Bool := match tab with
  | [] => none
  | (c', x', b) :: r => if c' = c ∧ x' = x then some b else subL r c x
section
variable {K : PySem.W.Frag} {mg : Str → Option Value}
theorem SubAll.subT {tab : List (Str × Str × Bool)} (S : SubAll K mg tab) : SubT K mg (subL tab) := by
  induction S with
  | nil => intro c x b C D h; cases h
  | @own c' x' _ _ _ _ h1 h2 h3 _ ih =>
    intro c x b C D h e1 e2
    rw [subL] at h
    by_cases z : c' = c ∧ x' = x
    · rw [if_pos z] at h
      cases h
      rw [z.1, e1] at h1; cases h1
      rw [z.2, e2] at h2; cases h2
      exact h3
    · rw [if_neg z] at h
      exact ih c x b C D h e1 e2
  | @blt c' x' _ _ _ h1 h2 _ _ _ ih =>
    intro c x b C D h e1 e2
    rw [subL] at h
    by_cases z : c' = c ∧ x' = x
    · rw [z.2, e2] at h2; cases h2
    · rw [if_neg z] at h
      exact ih c x b C D h e1 e2
theorem SubAll.subI {tab : List (Str × Str × Bool)} (S : SubAll K mg tab) : ∀ (x : Str) (cv : Value), (∃ D, cv = .ref D ∧ mg x = some (.ref D)) ∨ (∃ n, cv = .type n ∧ bootBuiltins x = some (.type n) ∧ mg x = none) → SubI K mg (subL tab) x cv := by
  induction S with
  | nil => intro x cv _ c C h; cases h
  | @own c' x' _ _ _ _ h1 h2 h3 _ ih =>
    intro x cv hx c C h e1
    rw [subL] at h
    by_cases z : c' = c ∧ x' = x
    · rw [if_pos z] at h
      cases h
      rw [z.1, e1] at h1; cases h1
      rw [z.2] at h2
      rcases hx with ⟨D, rfl, e2⟩ | ⟨n, rfl, _, e2⟩
      · rw [h2] at e2; cases e2
        unfold PySem.W.kitOne
        split
        · rfl
        · exact h3
      · rw [h2] at e2; cases e2
    · rw [if_neg z] at h
      exact ih x cv hx c C h e1
  | @blt c' x' _ _ _ h1 h2 h2' h3 _ ih =>
    intro x cv hx c C h e1
    rw [subL] at h
    by_cases z : c' = c ∧ x' = x
    · rw [if_pos z] at h
      cases h
      rw [z.1, e1] at h1; cases h1
      rw [z.2] at h2 h2'
      rcases hx with ⟨D, rfl, e2⟩ | ⟨n, rfl, e2, _⟩
      · rw [h2] at e2; cases e2
      · rw [h2'] at e2; cases e2; exact h3
    · rw [if_neg z] at h
      exact ih x cv hx c C h e1
noncomputable def knL (l : List Str) (c : Str) : Bool := l.contains c
theorem known_of {l : List Str} (h : ∀ c ∈ l, ExcC K mg c) : Known mg (knL l) := fun c hc => by
  have : c ∈ l := by simpa [knL] using hc
  obtain ⟨C, h1, _⟩ := h c this
  exact ⟨C, h1⟩
end
section
variable {X : Cx} {E : XK} {pos np cpos p q1 q2 : Pos} {x n : Str} {e₀ : Expr} {es : List Expr} {ms : MA} {i : Nat} {b₀ : Stmt} {suite : List Stmt} {rest : List ExceptHandler} {tab : List (Str × Str × Bool)} {s : MB} {r : MH}
theorem ms_raiseC (hX : Raises X E) (hc : X.calm = true) (h : ExcC X.K X.mg x) (hg : Gl X x) (ha : PA X (e₀ :: es) (tL X E ms))
    (he : starEach (e₀ :: es) X.env = (false, eval e₀ X.env) :: starEach es X.env := by rfl) (hpl : (backTo cpos (starEach es X.env)).any (·.1) = false := by rfl) (hd : (x == ("__debug__" : Str)) = false := by decide) :
    PS X (.Raise (some (.Call (.Name x np) (e₀ :: es) [] cpos)) none pos) (tS X E (sRaise x ms)) := by
  obtain ⟨C, hm, hq, _⟩ := h
  exact ms_raise hX hc hm hq PySem.F.excBase_ValueError hg ha he hpl hd
theorem mh_consC (hS : SubAll X.K X.mg tab) (h : ExcC X.K X.mg x) (hg : Gl X x) (hs : ∀ ea oe, PSs (L2.inH X ea oe) (b₀ :: suite) (tS (L2.inH X ea oe) E0 s)) (hr : PH X rest (tHd X r)) (hd : (x == ("__debug__" : Str)) = false := by decide) :
    PH X (.ExceptHandler (some (.Name x np)) none (b₀ :: suite) pos :: rest) (tHd X (hCons (subL tab) x s r)) := by
  obtain ⟨C, hm, _, hB⟩ := h
  exact mh_cons hS.subT hg hm hB hs hr hd
theorem mh_asC (hS : SubAll X.K X.mg tab) (hN : X.N.Nodup) (h : ExcC X.K X.mg x) (hg : Gl X x) (hs : ∀ ea oe, PSs (L2.inH X ea oe) (b₀ :: suite) (tS (L2.inH X ea oe) E0 s)) (hr : PH X rest (tHd X r)) (hi : X.N[i]? = some n := by rfl) (hl : X.env.scope.names.lookup n = some .local := by rfl) (hd : (x == ("__debug__" : Str)) = false := by decide) :
    PH X (.ExceptHandler (some (.Name x np)) (some n) (b₀ :: suite) pos :: rest) (tHd X (hAs (subL tab) x i s r)) := by
  obtain ⟨C, hm, _, hB⟩ := h
  exact mh_as hS.subT hN hi hl hg hm hB hs hr hd
theorem me_isXb (i : Nat) {T : String} (hS : SubAll X.K X.mg tab) (hmx : X.mg x = none) (hb : bootBuiltins x = some (.type T)) (hg : Gl X "isinstance") (hm : X.mg "isinstance" = none) (hgx : Gl X x) (hN : X.N[i]? = some n := by rfl) (hv : Vis X.env.scope n := by first | exact Or.inl rfl | exact Or.inr (Or.inl rfl)) (hn : x ≠ "__name__" := by decide)
    (hd : (n == ("__debug__" : Str)) = false := by decide) (hcd : (n == ("__classdict__" : Str)) = false := by decide) (hdx : (x == ("__debug__" : Str)) = false := by decide)
    (hs : starEach [.Name n q1, .Name x q2] X.env = (false, eval (.Name n q1) X.env) :: starEach [.Name x q2] X.env := by rfl) (hs2 : starEach [.Name x q2] X.env = (false, eval (.Name x q2) X.env) :: starEach [] X.env := by rfl)
    (hpl : (backTo pos (starEach [.Name x q2] X.env)).any (·.1) = false := by rfl) : PE X (.Call (.Name "isinstance" p) [.Name n q1, .Name x q2] [] pos) (tE X E (mIsX (subL tab) i x)) :=
  me_isX (.blt hmx hb hn) (hS.subI x _ (.inr ⟨T, rfl, hb, hmx⟩)) hg hm hgx hN hv hd hcd hdx hs hs2 hpl
end
end MN
namespace MN
open PySem PySem.Spec L2
open PyProof.Rows hiding St
section
variable {κ : Type} [DecidableEq κ]
noncomputable def valW (kvs : List (κ × Val)) (k : κ) : Option Val := (kvs.find? fun kv => decide (kv.1 = k)).map (·.2)
noncomputable def putW (kvs : List (κ × Val)) (k : κ) (v : Val) : List (κ × Val) :=
  if (kvs.any fun kv => decide (kv.1 = k)) = true then kvs.map (fun kv => if kv.1 = k then (kv.1, v) else kv) else kvs ++ [(k, v)]
variable {K : PySem.W.Frag} {ρ ρ' : List Addr} {H H' : Hp}
theorem Prs.nil : Prs K ρ H ([] : List (κ × Val)) [] := ⟨rfl, Rls.nil⟩
theorem Prs.cons {k : κ} {u : Val} {v : V} {kvs : List (κ × Val)} {kvs' : List (κ × V)} (r : Rl K ρ H u v) (p : Prs K ρ H kvs kvs') : Prs K ρ H ((k, u) :: kvs) ((k, v) :: kvs') :=
  ⟨by simp only [List.map_cons, p.1], Rls.cons r p.2⟩
theorem Prs.uncons {k : κ} {u : Val} {kvs : List (κ × Val)} {l : List (κ × V)} (p : Prs K ρ H ((k, u) :: kvs) l) : ∃ v kvs', l = (k, v) :: kvs' ∧ Rl K ρ H u v ∧ Prs K ρ H kvs kvs' := by
  obtain ⟨h1, h2⟩ := p
  cases l with
  | nil => simp at h1
  | cons x l =>
    obtain ⟨k', v⟩ := x
    simp only [List.map_cons, List.cons.injEq] at h1 h2
    obtain ⟨rfl, h1⟩ := h1
    obtain ⟨v', r, e, q1, q2⟩ := h2.uncons
    simp only [List.cons.injEq] at e
    obtain ⟨rfl, rfl⟩ := e
    exact ⟨v, l, rfl, q1, h1, q2⟩
theorem Prs.unnil {l : List (κ × V)} (p : Prs K ρ H ([] : List (κ × Val)) l) : l = [] := by
  have := p.1
  cases l with
  | nil => rfl
  | cons => simp at this
theorem Prs.mono {kvs : List (κ × Val)} {l : List (κ × V)} (p : Prs K ρ H kvs l) (e : Step ρ H ρ' H') : Prs K ρ' H' kvs l := ⟨p.1, Rls.mono e _ _ p.2⟩
theorem Prs.length {kvs : List (κ × Val)} {l : List (κ × V)} (p : Prs K ρ H kvs l) : kvs.length = l.length := by
  have := congrArg List.length p.1
  simpa using this
theorem Prs.val (k : κ) : ∀ {kvs : List (κ × Val)} {l : List (κ × V)}, Prs K ρ H kvs l → (valW kvs k = none ∧ valV l k = none) ∨ ∃ u v, valW kvs k = some u ∧ valV l k = some v ∧ Rl K ρ H u v
  | [], l, p => by rw [p.unnil]; exact .inl ⟨rfl, rfl⟩
  | (k', u) :: kvs, l, p => by
    obtain ⟨v, l', rfl, r, p'⟩ := p.uncons
    by_cases e : k' = k
    · exact .inr ⟨u, v, by simp [valW, e], by simp [valV, e], r⟩
    · rcases Prs.val k p' with ⟨h1, h2⟩ | ⟨u', v', h1, h2, h3⟩
      · exact .inl ⟨by simpa [valW, e] using h1, by simpa [valV, e] using h2⟩
      · exact .inr ⟨u', v', by simpa [valW, e] using h1, by simpa [valV, e] using h2, h3⟩
theorem Prs.any (k : κ) : ∀ {kvs : List (κ × Val)} {l : List (κ × V)}, Prs K ρ H kvs l → (kvs.any fun kv => decide (kv.1 = k)) = l.any fun kv => decide (kv.1 = k)
  | [], l, p => by rw [p.unnil]; rfl
  | (k', u) :: kvs, l, p => by
    obtain ⟨v, l', rfl, r, p'⟩ := p.uncons
    simp only [List.any_cons, Prs.any k p']
theorem Prs.repl (k : κ) {u : Val} {v : V} (r : Rl K ρ H u v) : ∀ {kvs : List (κ × Val)} {l : List (κ × V)}, Prs K ρ H kvs l → Prs K ρ H (kvs.map fun kv => if kv.1 = k then (kv.1, u) else kv) (l.map fun kv => if kv.1 = k then (kv.1, v) else kv)
  | [], l, p => by rw [p.unnil]; exact Prs.nil
  | (k', u') :: kvs, l, p => by
    obtain ⟨v', l', rfl, r', p'⟩ := p.uncons
    simp only [List.map_cons]
    by_cases e : k' = k
    · rw [if_pos e, if_pos e]; exact Prs.cons r (Prs.repl k r p')
    · rw [if_neg e, if_neg e]; exact Prs.cons r' (Prs.repl k r p')
theorem Prs.snoc {k : κ} {u : Val} {v : V} (r : Rl K ρ H u v) : ∀ {kvs : List (κ × Val)} {l : List (κ × V)}, Prs K ρ H kvs l → Prs K ρ H (kvs ++ [(k, u)]) (l ++ [(k, v)])
  | [], l, p => by rw [p.unnil]; exact Prs.cons r Prs.nil
  | (k', u') :: kvs, l, p => by
    obtain ⟨v', l', rfl, r', p'⟩ := p.uncons
    exact Prs.cons r' (Prs.snoc r p')
theorem Prs.put (k : κ) {u : Val} {v : V} (r : Rl K ρ H u v) {kvs : List (κ × Val)} {l : List (κ × V)} (p : Prs K ρ H kvs l) : Prs K ρ H (putW kvs k u) (putK l k v) := by
  unfold putW putK
  rw [p.any k]
  split
  · exact p.repl k r
  · exact p.snoc r
end
noncomputable def keyOf : Val → Option Key
  | .int i => some (.inl i)
  | .str x => some (.inr x)
  | _ => none
noncomputable def keysOf : List Val → Option (List Key)
  | [] => some []
  | u :: us => match keyOf u, keysOf us with
    | some k, some ks => some (k :: ks)
    | _, _ => none
noncomputable def tkeyOf : Val → Option (List Key)
  | .tup us => keysOf us
  | _ => none
section
variable {K : PySem.W.Frag} {ρ : List Addr} {H : Hp}
theorem keyOf_V {u : Val} {v : V} {k : Key} (r : Rl K ρ H u v) (h : keyOf u = some k) : v = kV k := by
  cases u with
  | int i => cases h; exact r.int_
  | str x => cases h; exact r.str_
  | _ => cases h
theorem keysOf_V : ∀ {us : List Val} {vs : List V} {ks : List Key}, Rls K ρ H us vs → keysOf us = some ks → vs = ks.map kV
  | [], vs, ks, r, h => by cases h; exact r.unnil
  | u :: us, vs, ks, r, h => by
    obtain ⟨v, r', rfl, h2, h3⟩ := r.uncons
    unfold keysOf at h
    split at h
    · rename_i k ks' e1 e2
      cases h
      rw [keyOf_V h2 e1, keysOf_V h3 e2]; rfl
    · cases h
theorem tkeyOf_V {u : Val} {v : V} {ks : List Key} (r : Rl K ρ H u v) (h : tkeyOf u = some ks) : ∃ b, v = .ref b ∧ H b = some (.tup (ks.map kV)) := by
  cases u with
  | tup us =>
    obtain ⟨b, vs, rfl, hb, rb⟩ := r.tupH
    rw [keysOf_V rb h] at hb
    exact ⟨b, rfl, hb⟩
  | _ => cases h
end
noncomputable def lookD (st : Store) (d k : Val) : Option (Option Val) := match d with
  | .loc n => match st[n]? with
    | some (.dK kvs) => (keyOf k).map fun q => valW kvs q
    | some (.dT kvs) => (tkeyOf k).map fun q => valW kvs q
    | _ => none
  | _ => none
noncomputable def storeD (st : Store) (d k v : Val) : Option Store := match d with
  | .loc n => match st[n]? with
    | some (.dK kvs) => if kvs.length < sizeLine then (keyOf k).map fun q => st.set n (.dK (putW kvs q v)) else none
    | some (.dT kvs) => if kvs.length < sizeLine then (tkeyOf k).map fun q => st.set n (.dT (putW kvs q v)) else none
    | _ => none
  | _ => none
theorem lookD_get {K : PySem.W.Frag} {ρ : List Addr} {st : Store} {H : Hp} {d k : Val} {x y : V} {o : Option Val} (sr : SR K ρ st H) (rd : Rl K ρ H d x) (rk : Rl K ρ H k y) (h : lookD st d k = some o) :
    ∃ a o', x = .ref a ∧ DGet H a y o' ∧ IsD H a ∧ ((o = none ∧ o' = none) ∨ ∃ u v, o = some u ∧ o' = some v ∧ Rl K ρ H u v) := by
  cases d with
  | loc n =>
    obtain ⟨a, rfl, ha⟩ := rd.loc_
    unfold lookD at h
    dsimp only at h
    split at h
    · rename_i kvs e
      obtain ⟨l, hl, p⟩ := sr.cell n _ a e ha
      cases z : keyOf k with
      | none => rw [z] at h; cases h
      | some q =>
        rw [z] at h
        cases h
        have := keyOf_V rk z
        subst this
        exact ⟨a, valV l q, rfl, DGet.k hl, .inl ⟨l, .inl hl⟩, p.val q⟩
    · rename_i kvs e
      obtain ⟨l, hl, p⟩ := sr.cell n _ a e ha
      cases z : tkeyOf k with
      | none => rw [z] at h; cases h
      | some q =>
        rw [z] at h
        cases h
        obtain ⟨b, rfl, hb⟩ := tkeyOf_V rk z
        exact ⟨a, valV l q, rfl, DGet.t hl hb, .inr ⟨l, .inl hl⟩, p.val q⟩
    · cases h
  | _ => cases h
theorem storeD_put {K : PySem.W.Frag} {ρ : List Addr} {st st' : Store} {H : Hp} {d k v : Val} {x y z : V} (sr : SR K ρ st H) (rd : Rl K ρ H d x) (rk : Rl K ρ H k y) (rv : Rl K ρ H v z) (h : storeD st d k v = some st') :
    ∃ a H', x = .ref a ∧ DPut H a y z H' ∧ Step ρ H ρ H' ∧ SR K ρ st' H' := by
  cases d with
  | loc n =>
    obtain ⟨a, rfl, ha⟩ := rd.loc_
    unfold storeD at h
    dsimp only at h
    split at h
    · rename_i kvs e
      obtain ⟨l, hl, p⟩ := sr.cell n _ a e ha
      split at h
      · rename_i hz
        cases zk : keyOf k with
        | none => rw [zk] at h; cases h
        | some q =>
          rw [zk] at h
          cases h
          have := keyOf_V rk zk
          subst this
          have st1 : Step ρ H ρ (upd H a (.dK (putK l q z))) := Step.put hl (fun _ z => by cases z) (fun _ _ z => by cases z)
          exact ⟨a, _, rfl, DPut.k hl (by rw [← p.length]; exact hz), st1, sr.set e rfl rfl ha hl (fun _ z => by cases z) (fun _ _ z => by cases z) ⟨_, upd_same, (p.put q rv).mono st1⟩⟩
      · cases h
    · rename_i kvs e
      obtain ⟨l, hl, p⟩ := sr.cell n _ a e ha
      split at h
      · rename_i hz
        cases zk : tkeyOf k with
        | none => rw [zk] at h; cases h
        | some q =>
          rw [zk] at h
          cases h
          obtain ⟨b, rfl, hb⟩ := tkeyOf_V rk zk
          have st1 : Step ρ H ρ (upd H a (.dT (putK l q z))) := Step.put hl (fun _ z => by cases z) (fun _ _ z => by cases z)
          exact ⟨a, _, rfl, DPut.t hl hb (by rw [← p.length]; exact hz), st1, sr.set e rfl rfl ha hl (fun _ z => by cases z) (fun _ _ z => by cases z) ⟨_, upd_same, (p.put q rv).mono st1⟩⟩
      · cases h
    · cases h
  | _ => cases h
noncomputable def mDNewT : ME := fun _ st => .ok (.loc st.length) (st ++ [.dT []])
noncomputable def dgetV : F2 := fun d k st => match lookD st d k with
  | some (some v) => .ok v st
  | _ => .bad
noncomputable def dinV (neg : Bool) : F2 := fun k d st => match lookD st d k with
  | some o => .ok (.bl (if neg then !o.isSome else o.isSome)) st
  | none => .bad
noncomputable def isDc (st : Store) : Val → Bool
  | .loc n => match st[n]? with
    | some (.dK _) => true
    | some (.dT _) => true
    | _ => false
  | _ => false
noncomputable def mDGet2 (d k x : ME) : ME := fun μ st => (d μ st).bind fun dv st1 => if isDc st1 dv = true then (k μ st1).bind fun kv st2 => (x μ st2).bind fun xv st3 => match lookD st3 dv kv with
  | some o => .ok (o.getD xv) st3
  | none => .bad else .bad
noncomputable def sDPutM (d k v : ME) : MB := fun μ st => (v μ st).sb μ fun vv st1 => (d μ st1).sb μ fun dv st2 => (k μ st2).sb μ fun kv st3 => match storeD st3 dv kv vv with
  | some st4 => .nx μ st4
  | none => .bad
section
variable {X : Cx} {E : XK} {pos pos' apos cpos : Pos} {o i e f value : Expr} {md mk mv mx : ME}
theorem new_cell {K : PySem.W.Frag} {ρ : List Addr} {st : Store} {H : Hp} (sr : SR K ρ st H) {p : Addr} (hp : H p = none) {ob : HO} {c : Cell} (k : CellR K (ρ ++ [p]) (upd H p ob) c p) :
    Step ρ H (ρ ++ [p]) (upd H p ob) ∧ SR K (ρ ++ [p]) (st ++ [c]) (upd H p ob) ∧ Rl K (ρ ++ [p]) (upd H p ob) (.loc st.length) (.ref p) := by
  refine ⟨Step.snoc p (same_upd hp), sr.alloc hp k, Rl.mkLoc ?_⟩
  rw [← sr.len, List.getElem?_append_right (Nat.le_refl _), Nat.sub_self]
  rfl
theorem me_dnewT : PE X (.Dict [] [] pos) (tE X E mDNewT) := by
  refine PE.imp pe_dnewT ?_
  rintro σ H Q ⟨μ, ρ, st, rs, sr, h⟩ p hp
  obtain ⟨k1, k2, k3⟩ := new_cell (c := .dT []) sr hp ⟨[], upd_same, Prs.nil⟩
  exact h _ _ _ k1 k2 k3
theorem me_dget (hu : X.A.units + 64 < cLine) (ho : PE X o (tE X E md)) (hi : PE X i (tE X E mk)) (hs : NoSl i := by exact fun _ _ => rfl) : PE X (.Subscript o i pos) (tE X E (mBin dgetV md mk)) := by
  refine PE.imp (pe_dget (by omega) ho hi hs) ?_
  rintro σ H Q ⟨μ, ρ, st, rs, sr, h⟩
  refine go μ ρ st rs sr h fun d st1 ρ1 H1 x e1 sr1 r1 h1 => ?_
  refine go μ ρ1 st1 (rs.mono e1) sr1 h1 fun k st2 ρ2 H2 y e2 sr2 r2 h2 => ?_
  unfold dgetV at h2
  split at h2
  · rename_i u hl
    obtain ⟨a, o', rfl, hd, _, hv⟩ := lookD_get sr2 (Rl.mono e2 _ _ r1) r2 hl
    rcases hv with ⟨z, _⟩ | ⟨u', v, z, rfl, rv⟩
    · cases z
    · cases z
      exact ⟨a, v, rfl, hd, h2 ρ2 H2 v (Step.refl _ _) sr2 rv⟩
  · exact h2.elim
theorem isDc_is {K : PySem.W.Frag} {ρ : List Addr} {st : Store} {H : Hp} {d : Val} {x : V} (sr : SR K ρ st H) (r : Rl K ρ H d x) (h : isDc st d = true) : ∃ a, x = .ref a ∧ IsD H a := by
  cases d with
  | loc n =>
    obtain ⟨a, rfl, ha⟩ := r.loc_
    obtain ⟨c, hc, kc⟩ := sr.there ha
    simp only [isDc, hc] at h
    cases c with
    | dK kvs => obtain ⟨l, hl, _⟩ := kc; exact ⟨a, rfl, .inl ⟨l, .inl hl⟩⟩
    | dT kvs => obtain ⟨l, hl, _⟩ := kc; exact ⟨a, rfl, .inr ⟨l, .inl hl⟩⟩
    | _ => cases h
  | _ => cases h
theorem me_dget2 (hu : X.A.units + 64 < cLine) (ho : PE X o (tE X E md)) (he : PE X e (tE X E mk)) (hf : PE X f (tE X E mx)) (m : M2 X o "get" apos e f cpos := by exact ⟨rfl, rfl, rfl, rfl⟩) : PE X (.Call (.Attribute o "get" apos) [e, f] [] cpos) (tE X E (mDGet2 md mk mx)) := by
  refine PE.imp (pe_dget2 (by omega) ho he hf m) ?_
  rintro σ H Q ⟨μ, ρ, st, rs, sr, h⟩
  refine go μ ρ st rs sr h fun d st1 ρ1 H1 x e1 sr1 r1 h1 => ?_
  split at h1
  · rename_i hd
    obtain ⟨a, rfl, ia⟩ := isDc_is sr1 r1 hd
    refine ⟨a, rfl, ia, ?_⟩
    refine go μ ρ1 st1 (rs.mono e1) sr1 h1 fun k st2 ρ2 H2 y e2 sr2 r2 h2 => ?_
    refine go μ ρ2 st2 ((rs.mono e1).mono e2) sr2 h2 fun xv st3 ρ3 H3 z e3 sr3 r3 h3 => ?_
    split at h3
    · rename_i ov hl
      obtain ⟨a', o', ea, hd', _, hv⟩ := lookD_get sr3 (Rl.mono (e2.trans e3) _ _ r1) (Rl.mono e3 _ _ r2) hl
      cases ea
      refine ⟨o', hd', ?_⟩
      rcases hv with ⟨rfl, rfl⟩ | ⟨u, v, rfl, rfl, rv⟩
      · exact h3 ρ3 H3 z (Step.refl _ _) sr3 r3
      · exact h3 ρ3 H3 v (Step.refl _ _) sr3 rv
    · exact h3.elim
  · exact h1.elim
theorem ms_dput (hu : X.A.units + 64 < cLine) (ho : PE X o (tE X E md)) (hi : PE X i (tE X E mk)) (hv : PE X value (tE X E mv)) (hs : swapsWith value (some (.Subscript o i pos')) pos.line X.env = pure false := by rfl) :
    PS X (.Assign [.Subscript o i pos'] value pos) (tS X E (sDPutM md mk mv)) := by
  refine PS.imp (ps_dput (by omega) ho hi hv hs) ?_
  rintro D σ H ⟨μ, ρ, st, rs, sr, h⟩
  refine goS μ ρ st rs sr h fun v st1 ρ1 H1 z e1 sr1 r1 h1 => ?_
  refine goS μ ρ1 st1 (rs.mono e1) sr1 h1 fun d st2 ρ2 H2 x e2 sr2 r2 h2 => ?_
  refine goS μ ρ2 st2 ((rs.mono e1).mono e2) sr2 h2 fun k st3 ρ3 H3 y e3 sr3 r3 h3 => ?_
  split at h3
  · rename_i st4 hst
    obtain ⟨a, H4, rfl, hd, s4, sr4⟩ := storeD_put sr3 (Rl.mono e3 _ _ r2) r3 (Rl.mono (e2.trans e3) _ _ r1) hst
    exact ⟨a, H4, rfl, hd, h3 ρ3 H4 σ s4 sr4 ((((rs.mono e1).mono e2).mono e3).mono s4)⟩
  · exact h3.elim
end
section
variable {X : Cx} {E : XK} {es : List Expr} {ms : MA} {pos : Pos}
theorem ma_int {i j} (hr : PA X es (tL X E ms)) : PA X (.Constant (.int i) j pos :: es) (tL X E (mCons (mC (.int i)) ms)) := ma_cons me_int hr
theorem ma_bl {b j} (hr : PA X es (tL X E ms)) : PA X (.Constant (.bool b) j pos :: es) (tL X E (mCons (mC (.bl b)) ms)) := ma_cons me_bl hr
theorem ma_non {j} (hr : PA X es (tL X E ms)) : PA X (.Constant .none j pos :: es) (tL X E (mCons (mC .non) ms)) := ma_cons me_non hr
theorem ma_str {x j} (hr : PA X es (tL X E ms)) : PA X (.Constant (.str x) j pos :: es) (tL X E (mCons (mC (.str x)) ms)) := ma_cons me_str hr
theorem me_ixM {a b : Expr} {ma mb : ME} (ha : PE X a (tE X E ma)) (hb : PE X b (tE X E mb)) (hs : PlainIx b := by exact fun _ _ => rfl) : PE X (.Subscript a b pos) (tE X E (mBin ixV ma mb)) := me_ix ix_M ha hb hs
end
end MN
namespace MN
open PySem PySem.Spec L2
open PyProof.Rows hiding St
noncomputable def cutL (us : List Val) (lo hi : Option Int) : List Val := (us.drop (HT.sIx us.length 0 lo)).take (HT.sIx us.length us.length hi - HT.sIx us.length 0 lo)
theorem Rls.cut {K : PySem.W.Frag} {ρ : List Addr} {H : Hp} {us : List Val} {vs : List V} (r : Rls K ρ H us vs) (lo hi : Option Int) : Rls K ρ H (cutL us lo hi) (cutV vs lo hi) := by
  unfold cutL cutV
  rw [r.length]
  exact Rls.take _ (Rls.drop _ r)
noncomputable abbrev MO := Env → Store → Res (Option Int)
noncomputable abbrev RO : List Addr → Hp → Option Int → Option Int → Prop := fun _ _ a b => b = a
noncomputable abbrev tOo (X : Cx) (E : XK) (m : MO) : TO := tG (wo X) E RO m
noncomputable def oNone : MO := fun _ st => .ok none st
noncomputable def oSome (m : ME) : MO := fun μ st => (m μ st).bind fun v st' => match v with
  | .int i => .ok (some i) st'
  | _ => .bad
noncomputable def slV (lo hi : Option Int) : Val → Store → Res Val
  | .tup us, st => if HT.sIx us.length 0 lo = 0 ∧ HT.sIx us.length us.length hi = us.length then .bad else .ok (.tup (cutL us lo hi)) st
  | .loc n, st => match itemsOf st n with
    | some us => .ok (.loc st.length) (st ++ [.lst (cutL us lo hi)])
    | none => .bad
  | _, _ => .bad
noncomputable def mSl (a : ME) (lo hi : MO) : ME := fun μ st => (a μ st).bind fun x st1 => (lo μ st1).bind fun l st2 => (hi μ st2).bind fun h st3 => slV l h x st3
section
variable {X : Cx} {E : XK} {pos p2 : Pos} {e : Expr} {m : ME}
theorem PO.imp {e : Option Expr} {t t' : TO} (h : PO X e t) (k : ∀ σ H Q, t' σ H Q → t σ H Q) : PO X e t' := fun pins s σ H Q I q => h pins s σ H Q I (k σ H Q q)
theorem mo_none : PO X none (tOo X E oNone) := PO.imp po_none fun σ H Q ⟨μ, ρ, st, rs, sr, h⟩ => h ρ H none (Step.refl _ _) sr rfl
theorem mo_some (h : PE X e (tE X E m)) : PO X (some e) (tOo X E (oSome m)) := by
  refine PO.imp (po_some h) ?_
  rintro σ H Q ⟨μ, ρ, st, rs, sr, h⟩
  refine go μ ρ st rs sr h fun u st1 ρ1 H1 x e1 sr1 r1 h1 => ?_
  cases u with
  | int i => exact ⟨i, r1.int_, h1 ρ1 H1 (some i) (Step.refl _ _) sr1 rfl⟩
  | _ => exact h1.elim
theorem me_sl {lo hi : Option Expr} {ml mh : MO} (he : PE X e (tE X E m)) (hl : PO X lo (tOo X E ml)) (hh : PO X hi (tOo X E mh)) : PE X (.Subscript e (.Slice lo hi none p2) pos) (tE X E (mSl m ml mh)) := by
  refine PE.imp (pe_slice (SlR.or sl_list sl_tup) he hl hh) ?_
  rintro σ H Q ⟨μ, ρ, st, rs, sr, h⟩
  refine go μ ρ st rs sr h fun u st1 ρ1 H1 x e1 sr1 r1 h1 => ?_
  refine go (R1 := RO) μ ρ1 st1 (rs.mono e1) sr1 h1 fun l st2 ρ2 H2 l' e2 sr2 r2 h2 => ?_
  cases r2
  refine go (R1 := RO) μ ρ2 st2 ((rs.mono e1).mono e2) sr2 h2 fun k st3 ρ3 H3 k' e3 sr3 r3 h3 => ?_
  cases r3
  have ru := Rl.mono e3 _ _ (Rl.mono e2 _ _ r1)
  cases u with
  | tup us =>
    obtain ⟨a, vs, rfl, ha, ra⟩ := ru.tup_
    unfold slV at h3
    dsimp only at h3
    split at h3
    · exact h3.elim
    · rename_i hz
      refine .inr ⟨a, vs, rfl, ha, by rw [← ra.length]; exact hz, fun p hp => ?_⟩
      have s := same_upd (o := .tup (cutV vs l k)) hp
      exact h3 ρ3 _ _ (Step.same s) (sr3.grow s) (Rl.mkTup upd_same (Rls.mono (Step.same s) _ _ (ra.cut l k)))
  | loc n =>
    obtain ⟨a, rfl, ha⟩ := ru.loc_
    cases z : itemsOf st3 n with
    | none => simp only [slV, z] at h3; exact h3.elim
    | some us =>
      simp only [slV, z] at h3
      obtain ⟨vs, hs, rv⟩ := itemsOf_sq sr3 z ha
      refine .inl ⟨a, vs, rfl, hs, fun p hp => ?_⟩
      obtain ⟨k1, k2, k3⟩ := new_lst sr3 (rv.cut l k) hp
      exact h3 _ _ _ k1 k2 k3
  | _ => exact h3.elim
end
noncomputable def mMt0 (f : FM) (o : ME) : ME := fun μ st => (o μ st).bind fun x st1 => if isLst st1 x = true then f x [] st1 else .bad
noncomputable def popF : FM
  | .loc n, [], st => match st[n]? with
    | some (.lst us) => match us[us.length - 1]? with
      | some u => .ok u (st.set n (.lst us.dropLast))
      | none => .bad
    | _ => .bad
  | _, _, _ => .bad
noncomputable def extendF : FM
  | .loc n, [.loc m], st => match st[n]?, st[m]? with
    | some (.lst us), some (.lst ws) => if us.length + ws.length ≤ sizeLine then .ok .non (st.set n (.lst (us ++ ws))) else .bad
    | _, _ => .bad
  | _, _, _ => .bad
section
variable {X : Cx} {E : XK} {o : Expr} {mo : ME} {apos cpos : Pos} {f : FM}
end
noncomputable def setF (o i v : Val) (st : Store) : Option Store := match o, i with
  | .loc n, .int k => match st[n]? with
    | some (.lst us) => (L2.ixN us.length k).map fun j => st.set n (.lst (us.set j v))
    | _ => none
  | _, _ => none
noncomputable def nxO (μ : Env) : Option Store → SRes
  | some st => .nx μ st
  | none => .bad
noncomputable def sSetI (o i v : ME) : MB := fun μ st => (v μ st).sb μ fun x st1 => (o μ st1).sb μ fun y st2 => (i μ st2).sb μ fun z st3 => nxO μ (setF y z x st3)
noncomputable def iadV : F2 := int2 fun i j st => .ok (.int (i + j)) st
noncomputable def isbV : F2 := int2 fun i j st => .ok (.int (i - j)) st
noncomputable def ixL : F2
  | .loc n, .int i, st => match itemsOf st n with
    | some us => match L2.atI us i with
      | some v => .ok v st
      | none => .bad
    | none => .bad
  | _, _, _ => .bad
noncomputable def sAugI (f : F2) (o i e : ME) : MB := fun μ st => (o μ st).sb μ fun y st1 => (i μ st1).sb μ fun z st2 => (ixL y z st2).sb μ fun x st3 => (e μ st3).sb μ fun w st4 => (f x w st4).sb μ fun r st5 => nxO μ (setF y z r st5)
noncomputable def sAug (k : Nat) (f : F2) (e : ME) : MB := fun μ st => (mVar k μ st).sb μ fun x st1 => (e μ st1).sb μ fun w st2 => (f x w st2).sb μ fun r st3 => .nx (μ.set k (some r)) st3
section
variable {X : Cx} {E : XK} {o i v : Expr} {mo mi mv : ME} {pos tpos : Pos} {f : F2}
end
noncomputable def downL (hi : Int) (n : Nat) : List Val := (List.range n).map fun (i : Nat) => Val.int (hi - (i : Int))
noncomputable def dwnK (vs : List Val) (st' : Store) : Res Itm := match vs with
  | [.int i, .int j, .int k] => if k = -1 ∧ -(2 ^ 62) ≤ i ∧ i < 2 ^ 62 ∧ -(2 ^ 62) ≤ j ∧ j < 2 ^ 62 then .ok (downL i (i - j).toNat, fun _ => True) st' else .bad
  | _ => .bad
noncomputable def iDownM (m : MA) : MI := fun μ st => (m μ st).bind dwnK
noncomputable def revK (vs : List Val) (st' : Store) : Res Itm := match vs with
  | [.loc n] => match itemsOf st' n with
    | some us => .ok (us.reverse, fun st2 => itemsOf st2 n = some us) st'
    | none => .bad
  | _ => .bad
noncomputable def iRevM (m : MA) : MI := fun μ st => (m μ st).bind revK
noncomputable def enumL : Nat → List Val → List Val
  | _, [] => []
  | i, u :: us => .tup [.int i, u] :: enumL (i + 1) us
noncomputable def enuK (vs : List Val) (st' : Store) : Res Itm := match vs with
  | [.loc n] => match itemsOf st' n with
    | some us => .ok (enumL 0 us, fun st2 => itemsOf st2 n = some us) st'
    | none => .bad
  | _ => .bad
noncomputable def iEnumM (m : MA) : MI := fun μ st => (m μ st).bind enuK
section
variable {X : Cx} {E : XK} {tg : Expr} {pos p : Pos}
end
noncomputable def maxF : FN
  | [.int i, .int j], st => .ok (.int (if j > i then j else i)) st
  | _, _ => .bad
noncomputable def intF : FN
  | [.bl b], st => .ok (.int (if b then 1 else 0)) st
  | _, _ => .bad
section
variable {X : Cx} {E : XK}
end
section
variable {X : Cx} {E : XK} {o e : Expr} {es : List Expr} {mo : ME} {ms : MA} {apos cpos : Pos}
theorem me_append (ho : PE X o (tE X E mo)) (ha : PA X (e :: es) (tL X E ms))
    (hbase : attributeBase o "append" X.env (eval o X.env) = eval o X.env := by rfl)
    (hfew : ((backTo cpos (starEach (e :: es) X.env)).all (fun x => !x.1) && (backToKw cpos (keywordEach [] X.env)).all (fun x => x.1.isSome)
      && decide ((e :: es).length + ([] : List Keyword).length + (if ([] : List Keyword).isEmpty then 0 else 1) < 30)) = true := by rfl)
    (hline : (apos.endLine == cpos.line) = true := by rfl) (hs : starEach (e :: es) X.env = (false, eval e X.env) :: starEach es X.env := by rfl) (hplain : (backTo cpos (starEach es X.env)).any (·.1) = false := by rfl) :
    PE X (.Call (.Attribute o "append" apos) (e :: es) [] cpos) (tE X E (mMtL appendF mo ms)) := me_mtL PySem.F.slot_list_append PySem.F.type_list_append mt_appendM ho ha hbase hfew hline hs hplain
end
end MN
namespace MN
open PySem PySem.Spec L2
open PyProof.Rows hiding St
theorem len0 {C : List Value → Prop} (h : C []) (us : List Value) (hl : us.length = 0) : C us := by
  rw [List.eq_nil_of_length_eq_zero hl]
  exact h
theorem lenS {C : List Value → Prop} {n : Nat} (h : ∀ a (r : List Value), r.length = n → C (a :: r)) (us : List Value) (hl : us.length = n + 1) : C us := by
  cases us with
  | nil => cases hl
  | cons a r => exact h a r (Nat.succ.inj hl)
theorem len1 {C : List Value → Prop} (h : ∀ a, C [a]) : ∀ us : List Value, us.length = 1 → C us := lenS fun a => len0 (C := fun r => C (a :: r)) (h a)
theorem len2 {C : List Value → Prop} (h : ∀ a b, C [a, b]) : ∀ us : List Value, us.length = 2 → C us := lenS fun a => len1 (C := fun r => C (a :: r)) (h a)
theorem len3 {C : List Value → Prop} (h : ∀ a b c, C [a, b, c]) : ∀ us : List Value, us.length = 3 → C us := lenS fun a => len2 (C := fun r => C (a :: r)) (h a)
theorem len4 {C : List Value → Prop} (h : ∀ a b c d, C [a, b, c, d]) : ∀ us : List Value, us.length = 4 → C us := lenS fun a => len3 (C := fun r => C (a :: r)) (h a)
end MN
namespace L2
open PySem PySem.Spec PyProof.Rows PySem.W Builtin Builtin.ObjectAttr Builtin.Getset_descriptor PySem.Calls
section
variable {prog : Program} {w : World} {A : Around} {E : Value → Shared → Prop} {s : Shared} {K : PySem.W.Frag} {x C : Addr} {ox : Obj} {R : Result → Shared → Prop}
end
section
variable {X : Cx}
end
end L2
namespace MN
open PySem PySem.Spec L2
open PyProof.Rows hiding St
inductive Cls (mg : Str → Option Value) : List Str → List Addr → Prop
  | nil : Cls mg [] []
  | cons {x : Str} {C : Addr} {xs : List Str} {cs : List Addr} (h : mg x = some (.ref C)) (r : Cls mg xs cs) : Cls mg (x :: xs) (C :: cs)
section
variable {X : Cx} {E : XK} {pos p q1 tpos : Pos} {n : Str} {i : Nat} {tab : List (Str × Str × Bool)} {qs xs : List Str} {es : List Expr} {cx : Nat}
end
end MN
namespace PM
open PySem PySem.Spec L2 MN
open PyProof.Rows hiding St
noncomputable def FIRST_PRIMES : Val := .mt ([2, 3, 5, 7, 11, 13, 17, 19, 23, 29, 31].map Val.int)
noncomputable def is_whole : FN := fnM 1 1 (sRet (mAnd (mIs "int" (mVar 0)) (mNot (mIs "bool" (mVar 0)))))
noncomputable def is_prime_within : FN := fnM 1 1 (sSeq (sIf (asT (mBin (inW false) (mVar 0) (mC PM.FIRST_PRIMES))) (sRet (mC (.bl true))) sNext) (sSeq (sIf (tOrM (asT (mBin ltV (mVar 0) (mC (.int 2)))) (asT (mBin gtV (mVar 0) (mC (.int 997))))) (sRet (mC (.bl false))) sNext) (sRet (mCall allF (mCons (mComp 1 [0] (iSeq (mC PM.FIRST_PRIMES)) (aName 0) tTrueM (mBin neM (mBin modV (mVar 1) (mVar 0)) (mC (.int 0)))) mNil)))))
noncomputable def rest_in_ring : FN := fnM 2 2 (sRet (mIf (asT (mBin eqM (mVar 0) (mC (.int 0)))) (mVar 1) (mBin modV (mVar 1) (mVar 0))))
noncomputable def signed_unit : FN := fnM 1 1 (sRet (mIf (asT (mBin ltV (mVar 0) (mC (.int 0)))) (mNeg (mC (.int 1))) (mC (.int 1))))
noncomputable def whole_inverse : FN := fnM 1 1 (sSeq (sIf (asT (mBin neM (mCall absF (mCons (mVar 0) mNil)) (mC (.int 1)))) (sRaise "NoInverse" (mCons (mC (.str "only 1 and -1 have an inverse among the whole numbers")) mNil)) sNext) (sRet (mVar 0)))
noncomputable def whole_over : FN := fnM 2 2 (sSeq (sIf (asT (mBin eqM (mVar 1) (mC (.int 0)))) (sRaise "NoInverse" (mCons (mC (.str "nothing is divided by nought")) mNil)) sNext) (sSeq (sIf (asT (mBin neM (mBin modV (mVar 0) (mVar 1)) (mC (.int 0)))) (sRaise "NotWhole" (mCons (mC (.str "no whole number makes the first one of the second")) mNil)) sNext) (sRet (mBin fdivV (mVar 0) (mVar 1)))))
noncomputable def law_cell_at : FN := fnM 2 6 (sSeq (sSet 2 (mC (.int 0))) (sSeq (sIf (asT (mBin ltV (mVar 1) (mCall lenF (mCons (mVar 0) mNil)))) (sSet 2 (mBin ixV (mVar 0) (mVar 1))) sNext) (sSeq (sSet 3 (mBin modV (mBin addV (mBin addV (mBin addV (mBin mulV (mVar 2) (mC (.int 48271))) (mBin mulV (mBin mulV (mC (.int 7919)) (mVar 1)) (mVar 1))) (mBin mulV (mC (.int 104729)) (mVar 1))) (mC (.int 11))) (mC (.int 2147483647)))) (sSeq (sSet 4 (mC (.int 0))) (sSeq (sFor (iRange1 (mCons (mC (.int 6)) mNil)) (aName 5) (sSeq (sSet 3 (mBin modV (mBin addV (mBin mulV (mBin modV (mBin mulV (mVar 3) (mVar 3)) (mC (.int 2147483629))) (mC (.int 69621))) (mVar 5)) (mC (.int 2147483647)))) (sSet 4 (mBin addV (mBin mulV (mVar 4) (mC (.int 2147483647))) (mVar 3))))) (sRet (mVar 4)))))))
noncomputable def is_ring : FN := fnM 1 1 (sRet (mAnd (mCall PM.is_whole (mCons (mVar 0) mNil)) (mOr (mBin eqM (mVar 0) (mC (.int 0))) (mCall PM.is_prime_within (mCons (mVar 0) mNil)))))
noncomputable def shared : FN := fnM 2 6 (sSeq (sSet 2 (mTup (mCons (mCall absF (mCons (mVar 0) mNil)) (mCons (mCall PM.signed_unit (mCons (mVar 0) mNil)) (mCons (mC (.int 0)) mNil))))) (sSeq (sSet 3 (mTup (mCons (mCall absF (mCons (mVar 1) mNil)) (mCons (mC (.int 0)) (mCons (mCall PM.signed_unit (mCons (mVar 1) mNil)) mNil))))) (sSeq (sWhile (asT (mBin neM (mBin ixV (mVar 3) (mC (.int 0))) (mC (.int 0)))) (sSeq (sSet 4 (mBin fdivV (mBin ixV (mVar 2) (mC (.int 0))) (mBin ixV (mVar 3) (mC (.int 0))))) (sSeq (sSet 5 (mCall tupF (mCons (mComp 2 [4] (iZip2 false false (mCons (mVar 2) (mCons (mVar 3) mNil))) (aTup [(aName 0), (aName 1)]) tTrueM (mBin subV (mVar 0) (mBin mulV (mVar 2) (mVar 1)))) mNil))) (sSeq (sSet 2 (mVar 3)) (sSet 3 (mVar 5)))))) (sRet (mVar 2)))))
noncomputable def check_ring : FN := fnM 1 1 (sIf (tNotM (asT (mCall PM.is_ring (mCons (mVar 0) mNil)))) (sRaise "NoRing" (mCons (mC (.str "a ring is 0 or a prime from 2 to 997")) mNil)) sNext)
noncomputable def inverse : FN := fnM 2 2 (sSeq (sExpr (mCall PM.check_ring (mCons (mVar 0) mNil))) (sSeq (sIf (asT (mBin eqM (mVar 0) (mC (.int 0)))) (sRet (mCall PM.whole_inverse (mCons (mVar 1) mNil))) sNext) (sSeq (sIf (asT (mBin eqM (mBin modV (mVar 1) (mVar 0)) (mC (.int 0)))) (sRaise "NoInverse" (mCons (mC (.str "a multiple of the prime has no inverse")) mNil)) sNext) (sRet (mBin modV (mBin ixV (mCall PM.shared (mCons (mBin modV (mVar 1) (mVar 0)) (mCons (mVar 0) mNil))) (mC (.int 1))) (mVar 0))))))
noncomputable def over : FN := fnM 3 3 (sSeq (sExpr (mCall PM.check_ring (mCons (mVar 0) mNil))) (sSeq (sIf (asT (mBin eqM (mVar 0) (mC (.int 0)))) (sRet (mCall PM.whole_over (mCons (mVar 1) (mCons (mVar 2) mNil)))) sNext) (sRet (mBin modV (mBin mulV (mVar 1) (mCall PM.inverse (mCons (mVar 0) (mCons (mVar 2) mNil)))) (mVar 0)))))
noncomputable def law_whole : FN := fnM 1 1 (sRet (mAnd (mIs "int" (mVar 0)) (mNot (mIs "bool" (mVar 0)))))
noncomputable def law_prime : FN := fnM 1 2 (sSeq (sIf (asT (mBin eqM (mBin modV (mVar 0) (mC (.int 2))) (mC (.int 0)))) (sRet (mBin ixV (mLst (mCons (mC (.int 2)) (mCons (mC (.int 3)) (mCons (mC (.int 5)) (mCons (mC (.int 7)) (mCons (mC (.int 11)) (mCons (mC (.int 13)) mNil))))))) (mBin modV (mBin fdivV (mVar 0) (mC (.int 2))) (mC (.int 6))))) sNext) (sSeq (sSet 1 (mBin addV (mC (.int 2)) (mBin modV (mBin fdivV (mVar 0) (mC (.int 2))) (mC (.int 996))))) (sSeq (sWhile (asT (mBin neM (mComp 1 [1] (iRange2 (mCons (mC (.int 2)) (mCons (mC (.int 32)) mNil))) (aName 0) (tAndM (asT (mBin ltV (mVar 0) (mVar 1))) (asT (mBin eqM (mBin modV (mVar 1) (mVar 0)) (mC (.int 0))))) (mVar 0)) (mLst mNil))) (sSet 1 (mBin addV (mVar 1) (mC (.int 1))))) (sRet (mVar 1)))))
noncomputable def law_number : FN := fnM 1 1 (sSeq (sIf (asT (mBin eqM (mBin modV (mVar 0) (mC (.int 7))) (mC (.int 0)))) (sRet (mBin mulV (mBin subV (mC (.int 1)) (mBin mulV (mBin modV (mBin fdivV (mVar 0) (mC (.int 7))) (mC (.int 2))) (mC (.int 2)))) (mBin modV (mBin fdivV (mVar 0) (mC (.int 14))) (mBin powV (mC (.int 10)) (mC (.int 40)))))) sNext) (sRet (mBin subV (mBin modV (mBin fdivV (mVar 0) (mC (.int 7))) (mC (.int 19))) (mC (.int 9)))))
noncomputable def law_ring : FN := fnM 1 1 (sSeq (sIf (asT (mBin eqM (mBin modV (mVar 0) (mC (.int 3))) (mC (.int 0)))) (sRet (mC (.int 0))) sNext) (sRet (mCall PM.law_prime (mCons (mBin fdivV (mVar 0) (mC (.int 3))) mNil))))
noncomputable def law_t7 : MB := (sRet (mAnd (mBin eqM (mBin modV (mVar 1) (mBin ixV (mVar 4) (mC (.int 0)))) (mC (.int 0))) (mBin eqM (mBin modV (mVar 2) (mBin ixV (mVar 4) (mC (.int 0)))) (mC (.int 0)))))
noncomputable def law_t6 : MB := (sSeq (sIf (asT (mBin eqM (mBin ixV (mVar 4) (mC (.int 0))) (mC (.int 0)))) (sRet (mAnd (mBin eqM (mVar 1) (mC (.int 0))) (mBin eqM (mVar 2) (mC (.int 0))))) sNext) PM.law_t7)
noncomputable def law_t5 : MB := (sSeq (sIf (tOrM (asT (mBin neM (mBin addV (mBin mulV (mBin ixV (mVar 4) (mC (.int 1))) (mVar 1)) (mBin mulV (mBin ixV (mVar 4) (mC (.int 2))) (mVar 2))) (mBin ixV (mVar 4) (mC (.int 0))))) (asT (mBin ltV (mBin ixV (mVar 4) (mC (.int 0))) (mC (.int 0))))) (sRet (mC (.bl false))) sNext) PM.law_t6)
noncomputable def law_t4 : MB := (sSeq (sIf (tOrM (tNotM (asT (mIs "tuple" (mVar 4)))) (tOrM (asT (mBin neM (mCall lenF (mCons (mVar 4) mNil)) (mC (.int 3)))) (asT (mBin neM (mComp 1 [] (iSeq (mVar 4)) (aName 0) (tNotM (asT (mCall PM.law_whole (mCons (mVar 0) mNil)))) (mVar 0)) (mLst mNil))))) (sRet (mC (.bl false))) sNext) PM.law_t5)
noncomputable def law_t3 : MB := (sSeq (sSet 4 (mCall PM.shared (mCons (mVar 1) (mCons (mVar 2) mNil)))) PM.law_t4)
noncomputable def law_t2 : MB := (sSeq (sIf (asT (mBin eqM (mBin modV (mCall PM.law_cell_at (mCons (mVar 0) (mCons (mC (.int 2)) mNil))) (mC (.int 2))) (mC (.int 1)))) (sSeq (sSet 3 (mCall PM.law_number (mCons (mBin fdivV (mCall PM.law_cell_at (mCons (mVar 0) (mCons (mC (.int 2)) mNil))) (mC (.int 2))) mNil))) (sSeq (sSet 1 (mBin mulV (mVar 1) (mVar 3))) (sSet 2 (mBin mulV (mVar 2) (mVar 3))))) sNext) PM.law_t3)
noncomputable def law_t1 : MB := (sSeq (sSet 2 (mCall PM.law_number (mCons (mCall PM.law_cell_at (mCons (mVar 0) (mCons (mC (.int 1)) mNil))) mNil))) PM.law_t2)
noncomputable def law : FN := fnM 1 5 (sSeq (sSet 1 (mCall PM.law_number (mCons (mCall PM.law_cell_at (mCons (mVar 0) (mCons (mC (.int 0)) mNil))) mNil))) PM.law_t1)
end PM
namespace PM
open PySem PySem.Spec L2 MN
open PyProof.Rows hiding St
noncomputable def row_of_rests : FN := fnM 2 3 (sSeq (sSet 2 (mComp 1 [0] (iSeq (mVar 1)) (aName 0) tTrueM (mBin modV (mVar 0) (mVar 1)))) (sSeq (sWhile (tAndM (asT (mBin gtV (mCall lenF (mCons (mVar 2) mNil)) (mC (.int 0)))) (asT (mBin eqM (mBin ixV (mVar 2) (mNeg (mC (.int 1)))) (mC (.int 0))))) (sExpr (mMt0 popF (mVar 2)))) (sRet (mVar 2))))
noncomputable def check_prime : FN := fnM 1 1 (sIf (tOrM (tNotM (asT (mCall PM.is_ring (mCons (mVar 0) mNil)))) (asT (mBin eqM (mVar 0) (mC (.int 0))))) (sRaise "NoPrime" (mCons (mC (.str "a prime is one from 2 to 997")) mNil)) sNext)
noncomputable def with_noughts : FN := fnM 2 2 (sRet (mBin addV (mCall lstF (mCons (mVar 0) mNil)) (mBin mulV (mLst (mCons (mC (.int 0)) mNil)) (mBin subV (mVar 1) (mCall lenF (mCons (mVar 0) mNil))))))
noncomputable def row_with_multiple : FN := fnM 4 6 (sSeq (sSet 4 (mCall maxF (mCons (mCall lenF (mCons (mVar 1) mNil)) (mCons (mCall lenF (mCons (mVar 2) mNil)) mNil)))) (sSeq (sSet 5 (mCall PM.with_noughts (mCons (mVar 1) (mCons (mVar 4) mNil)))) (sRet (mCall PM.row_of_rests (mCons (mVar 0) (mCons (mComp 2 [3] (iZip2 true true (mCons (mVar 5) (mCons (mCall PM.with_noughts (mCons (mVar 2) (mCons (mVar 4) mNil))) mNil))) (aTup [(aName 0), (aName 1)]) tTrueM (mBin addV (mVar 0) (mBin mulV (mVar 2) (mVar 1)))) mNil))))))
noncomputable def row_product : FN := fnM 3 8 (sSeq (sIf (tOrM (asT (mBin eqM (mCall lenF (mCons (mVar 1) mNil)) (mC (.int 0)))) (asT (mBin eqM (mCall lenF (mCons (mVar 2) mNil)) (mC (.int 0))))) (sRet (mLst mNil)) sNext) (sSeq (sSet 3 (mBin mulV (mLst (mCons (mC (.int 0)) mNil)) (mBin subV (mBin addV (mCall lenF (mCons (mVar 1) mNil)) (mCall lenF (mCons (mVar 2) mNil))) (mC (.int 1))))) (sSeq (sFor (iEnumM (mCons (mVar 1) mNil)) (aTup [(aName 4), (aName 5)]) (sFor (iEnumM (mCons (mVar 2) mNil)) (aTup [(aName 6), (aName 7)]) (sAugI iadV (mVar 3) (mBin addV (mVar 4) (mVar 6)) (mBin mulV (mVar 5) (mVar 7))))) (sRet (mCall PM.row_of_rests (mCons (mVar 0) (mCons (mVar 3) mNil)))))))
noncomputable def row_multiple : FN := fnM 3 3 (sRet (mCall PM.row_of_rests (mCons (mVar 0) (mCons (mComp 1 [2] (iSeq (mVar 1)) (aName 0) tTrueM (mBin mulV (mVar 0) (mVar 1))) mNil))))
end PM
namespace PM
open PySem PySem.Spec L2 MN
open PyProof.Rows hiding St
noncomputable def parted : FN := fnM 3 11 (sSeq (sSet 3 (mCall lstF (mCons (mVar 1) mNil))) (sSeq (sSet 4 (mCall PM.inverse (mCons (mVar 0) (mCons (mBin ixV (mVar 2) (mNeg (mC (.int 1)))) mNil)))) (sSeq (sSet 5 (mCall maxF (mCons (mC (.int 0)) (mCons (mBin addV (mBin subV (mCall lenF (mCons (mVar 1) mNil)) (mCall lenF (mCons (mVar 2) mNil))) (mC (.int 1))) mNil)))) (sSeq (sSet 6 (mBin mulV (mLst (mCons (mC (.int 0)) mNil)) (mVar 5))) (sSeq (sFor (iDownM (mCons (mBin subV (mVar 5) (mC (.int 1))) (mCons (mNeg (mC (.int 1))) (mCons (mNeg (mC (.int 1))) mNil)))) (aName 7) (sSeq (sSet 8 (mBin modV (mBin mulV (mBin ixV (mVar 3) (mBin subV (mBin addV (mVar 7) (mCall lenF (mCons (mVar 2) mNil))) (mC (.int 1)))) (mVar 4)) (mVar 0))) (sSeq (sSetI (mVar 6) (mVar 7) (mVar 8)) (sFor (iEnumM (mCons (mVar 2) mNil)) (aTup [(aName 9), (aName 10)]) (sAugI isbV (mVar 3) (mBin addV (mVar 7) (mVar 9)) (mBin mulV (mVar 8) (mVar 10))))))) (sRet (mTup (mCons (mCall PM.row_of_rests (mCons (mVar 0) (mCons (mVar 6) mNil))) (mCons (mCall PM.row_of_rests (mCons (mVar 0) (mCons (mVar 3) mNil))) mNil)))))))))
noncomputable def divided : FN := fnM 3 3 (sSeq (sExpr (mCall PM.check_prime (mCons (mVar 0) mNil))) (sSeq (sIf (asT (mBin eqM (mCall lenF (mCons (mVar 2) mNil)) (mC (.int 0)))) (sRaise "ByNought" (mCons (mC (.str "no row is divided by nought")) mNil)) sNext) (sRet (mCall PM.parted (mCons (mVar 0) (mCons (mVar 1) (mCons (mVar 2) mNil)))))))
noncomputable def triple_below : FN := fnM 3 5 (sSeq (sSet 3 (mCall PM.parted (mCons (mVar 0) (mCons (mBin ixV (mVar 1) (mC (.int 0))) (mCons (mBin ixV (mVar 2) (mC (.int 0))) mNil))))) (sSeq (sSet 4 (mComp 1 [2, 3, 0] (iSeq (mTup (mCons (mC (.int 1)) (mCons (mC (.int 2)) mNil)))) (aName 0) tTrueM (mCall PM.row_product (mCons (mVar 3) (mCons (mBin ixV (mVar 2) (mC (.int 0))) (mCons (mBin ixV (mVar 1) (mVar 0)) mNil)))))) (sRet (mTup (mCons (mBin ixV (mVar 3) (mC (.int 1))) (mCons (mCall PM.row_with_multiple (mCons (mVar 0) (mCons (mBin ixV (mVar 1) (mC (.int 1))) (mCons (mBin ixV (mVar 4) (mC (.int 0))) (mCons (mNeg (mC (.int 1))) mNil))))) (mCons (mCall PM.row_with_multiple (mCons (mVar 0) (mCons (mBin ixV (mVar 1) (mC (.int 2))) (mCons (mBin ixV (mVar 4) (mC (.int 1))) (mCons (mNeg (mC (.int 1))) mNil))))) mNil)))))))
noncomputable def met : FN := fnM 3 10 (sSeq (sSet 3 (mTup (mCons (mVar 1) (mCons (mLst (mCons (mC (.int 1)) mNil)) (mCons (mLst mNil) mNil))))) (sSeq (sSet 4 (mTup (mCons (mVar 2) (mCons (mLst mNil) (mCons (mLst (mCons (mC (.int 1)) mNil)) mNil))))) (sSeq (sWhile (asT (mBin gtV (mCall lenF (mCons (mBin ixV (mVar 4) (mC (.int 0))) mNil)) (mC (.int 0)))) (sSeq (sSet 5 (mCall PM.triple_below (mCons (mVar 0) (mCons (mVar 3) (mCons (mVar 4) mNil))))) (sSeq (sSet 3 (mVar 4)) (sSet 4 (mVar 5))))) (sSeq (sSet 6 (mCall PM.inverse (mCons (mVar 0) (mCons (mBin ixV (mBin ixV (mVar 3) (mC (.int 0))) (mNeg (mC (.int 1)))) mNil)))) (sSeq (sSet 7 (mCall PM.row_multiple (mCons (mVar 0) (mCons (mBin ixV (mVar 3) (mC (.int 0))) (mCons (mVar 6) mNil))))) (sSeq (sSet 8 (mBin ixV (mCall PM.parted (mCons (mVar 0) (mCons (mVar 1) (mCons (mVar 7) mNil)))) (mC (.int 0)))) (sSeq (sSet 9 (mBin ixV (mCall PM.parted (mCons (mVar 0) (mCons (mVar 2) (mCons (mVar 7) mNil)))) (mC (.int 0)))) (sRet (mTup (mCons (mVar 7) (mCons (mVar 8) (mCons (mVar 9) (mCons (mCall PM.row_multiple (mCons (mVar 0) (mCons (mBin ixV (mVar 3) (mC (.int 1))) (mCons (mVar 6) mNil)))) (mCons (mCall PM.row_multiple (mCons (mVar 0) (mCons (mBin ixV (mVar 3) (mC (.int 2))) (mCons (mVar 6) mNil)))) mNil))))))))))))))
end PM
namespace MN
open PySem PySem.Spec L2
open PyProof.Rows hiding St
theorem forL_inv {g : Store → Prop} {a : AS} {body : MB} (P : Nat → Env → Store → Prop) : ∀ (us : List Val) (k : Nat) (μ : Env) (st : Store),
    (∀ (i : Nat) (u : Val) (μ : Env) (st : Store), us[i]? = some u → P (k + i) μ st → g st ∧ ∃ μ1, a u μ = some μ1 ∧ ∃ μ' st', (body μ1 st = .nx μ' st' ∨ body μ1 st = .ct μ' st') ∧ P (k + i + 1) μ' st') →
    (∀ μ st, P (k + us.length) μ st → g st) → P k μ st → ∃ μ' st', forL g a body us μ st = .nx μ' st' ∧ P (k + us.length) μ' st'
  | [], k, μ, st, _, he, h => by
    refine ⟨μ, st, ?_, h⟩
    unfold forL
    rw [if_pos (he μ st h)]
  | u :: us, k, μ, st, hs, he, h => by
    obtain ⟨hg, μ1, ha, μ', st', hb, hP⟩ := hs 0 u μ st rfl h
    have ih := forL_inv (a := a) (body := body) P us (k + 1) μ' st' (fun i v μ2 st2 hv hp => by
      have := hs (i + 1) v μ2 st2 hv (by rw [show k + (i + 1) = k + 1 + i by omega]; exact hp)
      rw [show k + (i + 1) + 1 = k + 1 + i + 1 by omega] at this
      exact this) (fun μ2 st2 hp => he μ2 st2 (by rw [List.length_cons, show k + (us.length + 1) = k + 1 + us.length by omega]; exact hp)) hP
    obtain ⟨μ2, st2, e2, p2⟩ := ih
    refine ⟨μ2, st2, ?_, by rw [List.length_cons, show k + (us.length + 1) = k + 1 + us.length by omega]; exact p2⟩
    unfold forL
    rw [if_pos hg, ha]
    rcases hb with hb | hb <;> (dsimp only; rw [hb]; exact e2)
theorem compL_pure {g : Store → Prop} {a : AS} {c : MT} {e : ME} {st : Store} (hg : g st) (I : Env → Prop) (p : Val → Bool) (f : Val → Val) : ∀ (us : List Val) (τ : Env) (ys : List Val), I τ →
    (∀ u ∈ us, ∀ τ, I τ → ∃ τ1, a u τ = some τ1 ∧ I τ1 ∧ c τ1 st = .ok (p u) st ∧ (p u = true → e τ1 st = .ok (f u) st)) → compL g a c e us τ st ys = .ok (ys ++ (us.filter p).map f) st
  | [], τ, ys, _, _ => by
    unfold compL
    rw [if_pos hg]; simp
  | u :: us, τ, ys, hI, hs => by
    obtain ⟨τ1, h1, h2, h3, h4⟩ := hs u List.mem_cons_self τ hI
    have hs' := fun v hv => hs v (List.mem_cons_of_mem u hv)
    unfold compL
    rw [if_pos hg, h1]
    dsimp only
    rw [h3]
    cases z : p u with
    | true =>
      dsimp only
      rw [h4 z]
      dsimp only
      rw [compL_pure hg I p f us τ1 _ h2 hs', List.filter_cons_of_pos z]
      simp
    | false =>
      dsimp only
      rw [compL_pure hg I p f us τ1 _ h2 hs', List.filter_cons_of_neg (by rw [z]; simp)]
theorem itemsOf_new (st : Store) (us : List Val) : itemsOf (st ++ [.lst us]) st.length = some us := by
  unfold itemsOf
  rw [List.getElem?_append_right (Nat.le_refl _), Nat.sub_self]; rfl
theorem itemsOf_old {st : Store} {n : Nat} {us : List Val} (h : itemsOf st n = some us) (more : Store) : itemsOf (st ++ more) n = some us := by
  have hn : n < st.length := by
    rcases Nat.lt_or_ge n st.length with q | q
    · exact q
    · unfold itemsOf at h; rw [List.getElem?_eq_none q] at h; cases h
  unfold itemsOf at h ⊢
  rw [List.getElem?_append_left hn]; exact h
theorem whileN_inv {t : MT} {body : MB} (P : Env → Store → Prop) (M : Env → Store → Nat) (Q : Env → Store → Prop)
    (hs : ∀ μ st, P μ st → (∃ st1, t μ st = .ok false st1 ∧ Q μ st1) ∨ ∃ st1 μ' st', t μ st = .ok true st1 ∧ (body μ st1 = .nx μ' st' ∨ body μ st1 = .ct μ' st') ∧ P μ' st' ∧ M μ' st' < M μ st) :
    ∀ (n : Nat) (μ : Env) (st : Store), M μ st < n → P μ st → ∃ μ' st', whileN t body n μ st = some (.nx μ' st') ∧ Q μ' st'
  | 0, μ, st, h, _ => absurd h (Nat.not_lt_zero _)
  | n + 1, μ, st, h, hp => by
    unfold whileN
    rcases hs μ st hp with ⟨st1, e, q⟩ | ⟨st1, μ', st', e, hb, p', lt⟩
    · rw [e]; exact ⟨μ, st1, rfl, q⟩
    · rw [e]
      dsimp only
      obtain ⟨μ2, st2, e2, q2⟩ := whileN_inv P M Q hs n μ' st' (by omega) p'
      rcases hb with hb | hb <;> (rw [hb]; exact ⟨μ2, st2, e2, q2⟩)
theorem sWhile_inv {t : MT} {body : MB} (P : Env → Store → Prop) (M : Env → Store → Nat) (Q : Env → Store → Prop)
    (hs : ∀ μ st, P μ st → (∃ st1, t μ st = .ok false st1 ∧ Q μ st1) ∨ ∃ st1 μ' st', t μ st = .ok true st1 ∧ (body μ st1 = .nx μ' st' ∨ body μ st1 = .ct μ' st') ∧ P μ' st' ∧ M μ' st' < M μ st)
    (μ : Env) (st : Store) (hp : P μ st) : ∃ μ' st', sWhile t body μ st = .nx μ' st' ∧ Q μ' st' := by
  obtain ⟨μ', st', e, q⟩ := whileN_inv P M Q hs (M μ st + 1) μ st (Nat.lt_succ_self _) hp
  exact ⟨μ', st', sWhile_of e, q⟩
end MN
namespace MN
open PySem PySem.Spec L2
open PyProof.Rows hiding St
noncomputable def Res.bnd {α β : Type} (r : Res α) (k : α → Store → Res β) : Res β := match r with
  | .ok a st => k a st
  | .err c st => .err c st
  | .bad => .bad
noncomputable def Res.sbn {α : Type} (r : Res α) (μ : Env) (k : α → Store → SRes) : SRes := match r with
  | .ok a st => k a st
  | .err c st => .er c μ st
  | .bad => .bad
noncomputable def SRes.thn (r : SRes) (k : MB) : SRes := match r with
  | .nx μ st => k μ st
  | .rt v st => .rt v st
  | .bk μ st => .bk μ st
  | .ct μ st => .ct μ st
  | .er c μ st => .er c μ st
  | .bad => .bad
noncomputable def SRes.fin (r : SRes) : Res Val := match r with
  | .nx _ st' => .ok .non st'
  | .rt v st' => .ok v st'
  | .er c _ st' => .err c st'
  | _ => .bad
section
variable {α β : Type} {μ : Env} {st : Store}
theorem bnd_ok {a : α} {k : α → Store → Res β} : (Res.ok a st).bnd k = k a st := rfl
theorem bnd_err {c : Str} {k : α → Store → Res β} : (Res.err c st : Res α).bnd k = .err c st := rfl
theorem bnd_bad {k : α → Store → Res β} : (Res.bad : Res α).bnd k = .bad := rfl
theorem sbn_ok {a : α} {k : α → Store → SRes} : (Res.ok a st).sbn μ k = k a st := rfl
theorem sbn_err {c : Str} {k : α → Store → SRes} : (Res.err c st : Res α).sbn μ k = .er c μ st := rfl
theorem sbn_bad {k : α → Store → SRes} : (Res.bad : Res α).sbn μ k = .bad := rfl
theorem thn_nx {k : MB} : (SRes.nx μ st).thn k = k μ st := rfl
theorem thn_rt {v : Val} {k : MB} : (SRes.rt v st).thn k = .rt v st := rfl
theorem thn_bk {k : MB} : (SRes.bk μ st).thn k = .bk μ st := rfl
theorem thn_ct {k : MB} : (SRes.ct μ st).thn k = .ct μ st := rfl
theorem thn_er {c : Str} {k : MB} : (SRes.er c μ st).thn k = .er c μ st := rfl
theorem fin_nx : (SRes.nx μ st).fin = .ok .non st := rfl
theorem fin_rt {v : Val} : (SRes.rt v st).fin = .ok v st := rfl
theorem fin_er {c : Str} : (SRes.er c μ st).fin = .err c st := rfl
theorem bind_bnd {r : Res α} {k : α → Store → Res β} : r.bind k = r.bnd k := by cases r <;> rfl
variable {a b c : ME} {f g : F2} {t u : MT} {s1 s2 : MB} {ms : MA} {i : Nat} {v : Val}
theorem bnd_eq {r : Res α} {k k' : α → Store → Res β} (h : ∀ a st, k a st = k' a st) : r.bind k = r.bnd k' := by cases r <;> first | exact h _ _ | rfl
theorem sbn_eq {r : Res α} {k k' : α → Store → SRes} (h : ∀ a st, k a st = k' a st) : r.sb μ k = r.sbn μ k' := by cases r <;> first | exact h _ _ | rfl
noncomputable def kBin2 (f : F2) (x : Val) : Val → Store → Res Val := fun y st => f x y st
noncomputable def kBin (f : F2) (b : ME) (μ : Env) : Val → Store → Res Val := fun x st => (b μ st).bnd (kBin2 f x)
theorem ev_bin : mBin f a b μ st = (a μ st).bnd (kBin f b μ) := bnd_eq fun _ _ => bnd_eq fun _ _ => rfl
theorem k_bin {x : Val} : kBin f b μ x st = (b μ st).bnd (kBin2 f x) := rfl
theorem k_bin2 {x y : Val} : kBin2 f x y st = f x y st := rfl
theorem ev_C : mC v μ st = .ok v st := rfl
noncomputable def asB : Val → Store → Res Bool
  | .bl b, st => .ok b st
  | _, _ => .bad
theorem asB_bl {b : Bool} : asB (.bl b) st = .ok b st := rfl
theorem ev_asT : asT a μ st = (a μ st).bnd asB := bnd_eq fun x _ => by cases x <;> rfl
noncomputable def kAnd (b : ME) (μ : Env) : Val → Store → Res Val
  | .bl true, st => b μ st
  | .bl false, st => .ok (.bl false) st
  | _, _ => .bad
theorem ev_and : mAnd a b μ st = (a μ st).bnd (kAnd b μ) := bnd_eq fun x _ => by
  cases x <;> try rfl
  rename_i k; cases k <;> rfl
theorem k_and_t : kAnd b μ (.bl true) st = b μ st := rfl
theorem k_and_f : kAnd b μ (.bl false) st = .ok (.bl false) st := rfl
noncomputable def kOr (b : ME) (μ : Env) : Val → Store → Res Val
  | .bl true, st => .ok (.bl true) st
  | .bl false, st => b μ st
  | _, _ => .bad
theorem ev_or : mOr a b μ st = (a μ st).bnd (kOr b μ) := bnd_eq fun x _ => by
  cases x <;> try rfl
  rename_i k; cases k <;> rfl
theorem k_or_t : kOr b μ (.bl true) st = .ok (.bl true) st := rfl
theorem k_or_f : kOr b μ (.bl false) st = b μ st := rfl
noncomputable def kNot : Val → Store → Res Val
  | .bl k, st => .ok (.bl (!k)) st
  | _, _ => .bad
theorem ev_not : mNot a μ st = (a μ st).bnd kNot := bnd_eq fun x _ => by cases x <;> rfl
theorem k_not {k : Bool} : kNot (.bl k) st = .ok (.bl (!k)) st := rfl
noncomputable def kTand (u : MT) (μ : Env) : Bool → Store → Res Bool
  | true, st => u μ st
  | false, st => .ok false st
theorem ev_tand : tAndM t u μ st = (t μ st).bnd (kTand u μ) := bnd_eq fun x _ => by cases x <;> rfl
theorem k_tand_t : kTand u μ true st = u μ st := rfl
theorem k_tand_f : kTand u μ false st = .ok false st := rfl
noncomputable def kTor (u : MT) (μ : Env) : Bool → Store → Res Bool
  | true, st => .ok true st
  | false, st => u μ st
theorem ev_tor : tOrM t u μ st = (t μ st).bnd (kTor u μ) := bnd_eq fun x _ => by cases x <;> rfl
theorem k_tor_t : kTor u μ true st = .ok true st := rfl
theorem k_tor_f : kTor u μ false st = u μ st := rfl
noncomputable def kTnot : Bool → Store → Res Bool := fun k st => .ok (!k) st
theorem ev_tnot : tNotM t μ st = (t μ st).bnd kTnot := bnd_eq fun _ _ => rfl
theorem k_tnot {k : Bool} : kTnot k st = .ok (!k) st := rfl
noncomputable def kIfE (a b : ME) (μ : Env) : Bool → Store → Res Val
  | true, st => a μ st
  | false, st => b μ st
theorem ev_if : mIf t a b μ st = (t μ st).bnd (kIfE a b μ) := bnd_eq fun x _ => by cases x <;> rfl
theorem k_ife_t : kIfE a b μ true st = a μ st := rfl
theorem k_ife_f : kIfE a b μ false st = b μ st := rfl
noncomputable def kCh2 (g : F2) (c : ME) (μ : Env) (y : Val) : Val → Store → Res Val
  | .bl true, st => (c μ st).bnd (kBin2 g y)
  | .bl false, st => .ok (.bl false) st
  | _, _ => .bad
noncomputable def kCh1 (f g : F2) (c : ME) (μ : Env) (x : Val) : Val → Store → Res Val := fun y st => (f x y st).bnd (kCh2 g c μ y)
noncomputable def kCh (f g : F2) (b c : ME) (μ : Env) : Val → Store → Res Val := fun x st => (b μ st).bnd (kCh1 f g c μ x)
theorem ev_chain : mChain f g a b c μ st = (a μ st).bnd (kCh f g b c μ) := bnd_eq fun _ _ => bnd_eq fun _ _ => bnd_eq fun z _ => by
  cases z <;> try rfl
  rename_i k
  cases k
  · rfl
  · exact bnd_eq fun _ _ => rfl
theorem k_ch {x : Val} : kCh f g b c μ x st = (b μ st).bnd (kCh1 f g c μ x) := rfl
theorem k_ch1 {x y : Val} : kCh1 f g c μ x y st = (f x y st).bnd (kCh2 g c μ y) := rfl
theorem k_ch2_t {y : Val} : kCh2 g c μ y (.bl true) st = (c μ st).bnd (kBin2 g y) := rfl
theorem k_ch2_f {y : Val} : kCh2 g c μ y (.bl false) st = .ok (.bl false) st := rfl
theorem ev_nil : mNil μ st = .ok [] st := rfl
noncomputable def kCons2 (x : Val) : List Val → Store → Res (List Val) := fun xs st => .ok (x :: xs) st
noncomputable def kCons (ms : MA) (μ : Env) : Val → Store → Res (List Val) := fun x st => (ms μ st).bnd (kCons2 x)
theorem ev_cons : mCons a ms μ st = (a μ st).bnd (kCons ms μ) := bnd_eq fun _ _ => bnd_eq fun _ _ => rfl
theorem k_cons {x : Val} : kCons ms μ x st = (ms μ st).bnd (kCons2 x) := rfl
theorem k_cons2 {x : Val} {xs : List Val} : kCons2 x xs st = .ok (x :: xs) st := rfl
noncomputable def kTup : List Val → Store → Res Val := fun xs st => if xs.length ≤ sizeLine then .ok (.tup xs) st else .bad
theorem ev_tup : mTup ms μ st = (ms μ st).bnd kTup := bnd_eq fun _ _ => rfl
theorem k_tup {xs : List Val} : kTup xs st = if xs.length ≤ sizeLine then .ok (.tup xs) st else .bad := rfl
noncomputable def kLst : List Val → Store → Res Val := fun xs st => if xs.length ≤ sizeLine then .ok (.loc st.length) (st ++ [.lst xs]) else .bad
theorem ev_lst : mLst ms μ st = (ms μ st).bnd kLst := bnd_eq fun _ _ => rfl
theorem k_lst {xs : List Val} : kLst xs st = if xs.length ≤ sizeLine then .ok (.loc st.length) (st ++ [.lst xs]) else .bad := rfl
theorem ev_call {h : FN} : mCall h ms μ st = (ms μ st).bnd h := bnd_eq fun _ _ => rfl
noncomputable def negV : Val → Store → Res Val
  | .int i, st => .ok (.int (-i)) st
  | _, _ => .bad
theorem negV_int {i : Int} : negV (.int i) st = .ok (.int (-i)) st := rfl
theorem ev_neg : mNeg a μ st = (a μ st).bnd negV := bnd_eq fun x _ => by cases x <;> rfl
noncomputable def isOf (T : String) (v : Val) (st : Store) : Res Val := match isT T st v with
  | some b => .ok (.bl b) st
  | none => .bad
theorem ev_is {T : String} : mIs T a μ st = (a μ st).bnd (isOf T) := bnd_eq fun _ _ => rfl
theorem ev_seq : sSeq s1 s2 μ st = (s1 μ st).thn s2 := by
  unfold sSeq; cases s1 μ st <;> rfl
theorem ev_next : sNext μ st = .nx μ st := rfl
noncomputable def kExpr (μ : Env) : Val → Store → SRes := fun _ st => .nx μ st
theorem ev_expr : sExpr a μ st = (a μ st).sbn μ (kExpr μ) := sbn_eq fun _ _ => rfl
theorem k_expr : kExpr μ v st = .nx μ st := rfl
noncomputable def kRet : Val → Store → SRes := fun v st => .rt v st
theorem ev_ret : sRet a μ st = (a μ st).sbn μ kRet := sbn_eq fun _ _ => rfl
theorem k_ret : kRet v st = .rt v st := rfl
noncomputable def kIf (s1 s2 : MB) (μ : Env) : Bool → Store → SRes
  | true, st => s1 μ st
  | false, st => s2 μ st
theorem ev_ifS : sIf t s1 s2 μ st = (t μ st).sbn μ (kIf s1 s2 μ) := sbn_eq fun x _ => by cases x <;> rfl
theorem k_if_t : kIf s1 s2 μ true st = s1 μ st := rfl
theorem k_if_f : kIf s1 s2 μ false st = s2 μ st := rfl
noncomputable def kSet (i : Nat) (μ : Env) : Val → Store → SRes := fun v st => .nx (μ.set i (some v)) st
theorem ev_set : sSet i a μ st = (a μ st).sbn μ (kSet i μ) := sbn_eq fun _ _ => rfl
theorem k_set : kSet i μ v st = .nx (μ.set i (some v)) st := rfl
noncomputable def kRaise (x : Str) (μ : Env) : List Val → Store → SRes := fun vs st => if vs.length ≤ sizeLine then .er x μ st else .bad
theorem ev_raise {x : Str} : sRaise x ms μ st = (ms μ st).sbn μ (kRaise x μ) := sbn_eq fun _ _ => rfl
theorem k_raise {x : Str} {vs : List Val} : kRaise x μ vs st = if vs.length ≤ sizeLine then .er x μ st else .bad := rfl
noncomputable def kFor (as : AS) (s1 : MB) (μ : Env) : Itm → Store → SRes := fun p st => forL p.2 as s1 p.1 μ st
theorem ev_for {it : MI} {as : AS} : sFor it as s1 μ st = (it μ st).sbn μ (kFor as s1 μ) := sbn_eq fun _ _ => rfl
theorem k_for {as : AS} {us : List Val} {q : Store → Prop} : kFor as s1 μ (us, q) st = forL q as s1 us μ st := rfl
noncomputable def kNew : List Val → Store → Res Val := fun ys st => .ok (.loc st.length) (st ++ [.lst ys])
theorem k_new {ys : List Val} : kNew ys st = .ok (.loc st.length) (st ++ [.lst ys]) := rfl
noncomputable def kComp (k : Nat) (caps : List Nat) (as : AS) (t : MT) (a : ME) (μ : Env) : Itm → Store → Res Val := fun p st => if p.1.length ≤ sizeLine then (compL p.2 as t a p.1 (capM k caps μ) st []).bnd kNew else .bad
theorem ev_comp {k : Nat} {caps : List Nat} {it : MI} {as : AS} : mComp k caps it as t a μ st = (it μ st).bnd (kComp k caps as t a μ) := bnd_eq fun p st1 => by
  unfold kComp
  split
  · exact bnd_eq fun _ _ => rfl
  · rfl
theorem k_comp {k : Nat} {caps : List Nat} {as : AS} {us : List Val} {q : Store → Prop} : kComp k caps as t a μ (us, q) st = if us.length ≤ sizeLine then (compL q as t a us (capM k caps μ) st []).bnd kNew else .bad := rfl
theorem ev_fn {np n : Nat} {us : List Val} (h : us.length = np) : fnM np n s1 us st = (s1 (us.map some ++ List.replicate (n - np) none) st).fin := by
  unfold fnM; rw [if_pos h]; cases s1 (us.map some ++ List.replicate (n - np) none) st <;> rfl
theorem var_s {x : Option Val} {μ : Env} : mVar (i + 1) (x :: μ) st = mVar i μ st := rfl
theorem var_i {μ : Env} {j : Int} : mVar 0 (some (.int j) :: μ) st = .ok (.int j) st := rfl
theorem var_b {μ : Env} {j : Bool} : mVar 0 (some (.bl j) :: μ) st = .ok (.bl j) st := rfl
theorem var_st {μ : Env} {j : Str} : mVar 0 (some (.str j) :: μ) st = .ok (.str j) st := rfl
theorem var_t {μ : Env} {j : List Val} : mVar 0 (some (.tup j) :: μ) st = .ok (.tup j) st := rfl
theorem var_l {μ : Env} {j : Nat} : mVar 0 (some (.loc j) :: μ) st = .ok (.loc j) st := rfl
theorem var_n {μ : Env} : mVar 0 (some .non :: μ) st = .ok .non st := rfl
noncomputable def walkK (v : Val) (st : Store) : Res Itm := match walkOf st v with
  | some p => .ok p st
  | none => .bad
theorem ev_iseq : iSeq a μ st = (a μ st).bnd walkK := by unfold iSeq; rw [bind_bnd]; rfl
theorem walkK_tup {us : List Val} : walkK (.tup us) st = .ok (us, fun _ => True) st := rfl
theorem walkK_loc {n : Nat} {us : List Val} (h : itemsOf st n = some us) : walkK (.loc n) st = .ok (us, fun st' => itemsOf st' n = some us) st := by
  simp only [walkK, walkOf, h]; rfl
noncomputable def rng1 (vs : List Val) (st' : Store) : Res Itm := match vs with
  | [.int j] => if -(2 ^ 62) ≤ j ∧ j < 2 ^ 62 then .ok (rangeL 0 j.toNat, fun _ => True) st' else .bad
  | _ => .bad
noncomputable def rng2 (vs : List Val) (st' : Store) : Res Itm := match vs with
  | [.int i, .int j] => if -(2 ^ 62) ≤ i ∧ i < 2 ^ 62 ∧ -(2 ^ 62) ≤ j ∧ j < 2 ^ 62 then .ok (rangeL i (j - i).toNat, fun _ => True) st' else .bad
  | _ => .bad
theorem ev_rng1 : iRange1 ms μ st = (ms μ st).bnd rng1 := by unfold iRange1; rw [bind_bnd]; rfl
theorem ev_rng2 : iRange2 ms μ st = (ms μ st).bnd rng2 := by unfold iRange2; rw [bind_bnd]; rfl
theorem rng1_ok {j : Int} (h1 : -(2 ^ 62) ≤ j) (h2 : j < 2 ^ 62) : rng1 [.int j] st = .ok (rangeL 0 j.toNat, fun _ => True) st := by unfold rng1; dsimp only; rw [if_pos ⟨h1, h2⟩]
noncomputable def zipK (b1 b2 : Bool) (vs : List Val) (st' : Store) : Res Itm := match vs with
  | [u, w] => match sideOf st' u, sideOf st' w with
    | some (c1, us, g1), some (c2, ws, g2) => if c1 = b1 ∧ c2 = b2 then .ok (zipL us ws, fun st2 => g1 st2 ∧ g2 st2) st' else .bad
    | _, _ => .bad
  | _ => .bad
theorem ev_zip {b1 b2 : Bool} : iZip2 b1 b2 ms μ st = (ms μ st).bnd (zipK b1 b2) := by unfold iZip2; rw [bind_bnd]; rfl
theorem zipK_tt {us ws : List Val} : zipK false false [.tup us, .tup ws] st = .ok (zipL us ws, fun _ => True ∧ True) st := rfl
theorem tup_loc {n : Nat} {us : List Val} (h1 : itemsOf st n = some us) : tupF [.loc n] st = .ok (.tup us) st := by unfold tupF; dsimp only; rw [h1]
theorem add_ii {i j : Int} : addV (.int i) (.int j) st = .ok (.int (i + j)) st := rfl
theorem sub_ii {i j : Int} : subV (.int i) (.int j) st = .ok (.int (i - j)) st := rfl
theorem mul_ok {i j : Int} (h : MulOk i j) : mulV (.int i) (.int j) st = .ok (.int (i * j)) st := by unfold mulV; dsimp only; rw [if_pos h]
theorem mul_l {i j : Int} (h1 : -(2 ^ 64) < i) (h2 : i < 2 ^ 64) : mulV (.int i) (.int j) st = .ok (.int (i * j)) st := mul_ok (.inr (.inl ⟨h1, h2⟩))
theorem mul_r {i j : Int} (h1 : -(2 ^ 64) < j) (h2 : j < 2 ^ 64) : mulV (.int i) (.int j) st = .ok (.int (i * j)) st := mul_ok (.inr (.inr ⟨h1, h2⟩))
theorem div_ii {i j : Int} (h : Dz j) : fdivV (.int i) (.int j) st = .ok (.int (i.fdiv j)) st := if_pos h
theorem mod_ii {i j : Int} (h : ¬ j = 0) : modV (.int i) (.int j) st = .ok (.int (i.fmod j)) st := if_neg h
theorem pow_ii {i j : Int} (h : CPow i j) : powV (.int i) (.int j) st = .ok (.int (i ^ j.toNat)) st := if_pos h
theorem lt_ii {i j : Int} : ltV (.int i) (.int j) st = .ok (.bl (decide (i < j))) st := rfl
theorem le_ii {i j : Int} : leV (.int i) (.int j) st = .ok (.bl (decide (i ≤ j))) st := rfl
theorem gt_ii {i j : Int} : gtV (.int i) (.int j) st = .ok (.bl (decide (j < i))) st := rfl
theorem ge_ii {i j : Int} : geV (.int i) (.int j) st = .ok (.bl (decide (j ≤ i))) st := rfl
theorem eq_ii {i j : Int} : eqM (.int i) (.int j) st = .ok (.bl (i == j)) st := rfl
theorem ne_ii {i j : Int} : neM (.int i) (.int j) st = .ok (.bl (!(i == j))) st := rfl
theorem eq_bb {i j : Bool} : eqM (.bl i) (.bl j) st = .ok (.bl (i == j)) st := rfl
theorem ne_bb {i j : Bool} : neM (.bl i) (.bl j) st = .ok (.bl (!(i == j))) st := rfl
theorem eq_ss {i j : Str} : eqM (.str i) (.str j) st = .ok (.bl (i == j)) st := rfl
theorem ne_ss {i j : Str} : neM (.str i) (.str j) st = .ok (.bl (!(i == j))) st := rfl
theorem ix_tup {us : List Val} {i : Int} {v : Val} (h : L2.atI us i = some v) : ixV (.tup us) (.int i) st = .ok v st := by unfold ixV; dsimp only; rw [h]
theorem ix_loc {n : Nat} {us : List Val} {i : Int} {v : Val} (h1 : itemsOf st n = some us) (h : L2.atI us i = some v) : ixV (.loc n) (.int i) st = .ok v st := by unfold ixV; dsimp only; rw [h1]; dsimp only; rw [h]
theorem len_loc {n : Nat} {us : List Val} (h1 : itemsOf st n = some us) : lenF [.loc n] st = .ok (.int us.length) st := by unfold lenF; dsimp only; rw [h1]
theorem len_tup {us : List Val} : lenF [.tup us] st = .ok (.int us.length) st := rfl
theorem abs_i {i : Int} : absF [.int i] st = .ok (.int (if i < 0 then -i else i)) st := rfl
theorem is_int_int {i : Int} : isOf "int" (.int i) st = .ok (.bl true) st := rfl
theorem is_bool_int {i : Int} : isOf "bool" (.int i) st = .ok (.bl false) st := rfl
theorem eqD_nil {n m : Nat} {us : List Val} (h1 : itemsOf st n = some us) (h2 : itemsOf st m = some []) : eqD 16 st (.loc n) (.loc m) = some us.isEmpty := by
  unfold eqD
  simp only [vw, h1, h2]
  show eqDs _ us [] = _
  cases us <;> rfl
theorem ne_nil {n m : Nat} {us : List Val} (h1 : itemsOf st n = some us) (h2 : itemsOf st m = some []) : neM (.loc n) (.loc m) st = .ok (.bl (!us.isEmpty)) st := by unfold neM; rw [eqD_nil h1 h2]
noncomputable def Res.noe (r : Res α) : Res α := match r with
  | .ok v st' => .ok v st'
  | .err _ _ => .bad
  | .bad => .bad
theorem ev_noE {m : Env → Store → Res α} : noE m μ st = (m μ st).noe := by unfold noE Res.noe; cases m μ st <;> rfl
theorem noe_ok {a : α} : (Res.ok a st).noe = .ok a st := rfl
noncomputable def SRes.nout (r : SRes) : SRes := match r with
  | .er _ _ _ => .bad
  | .nx μ' st' => .nx μ' st'
  | .rt v st' => .rt v st'
  | .bk μ' st' => .bk μ' st'
  | .ct μ' st' => .ct μ' st'
  | .bad => .bad
theorem ev_noOut : noOut s1 μ st = (s1 μ st).nout := by unfold noOut SRes.nout; cases s1 μ st <;> rfl
theorem nout_nx : (SRes.nx μ st).nout = .nx μ st := rfl
theorem nout_rt : (SRes.rt v st).nout = .rt v st := rfl
noncomputable def SRes.tryK (r : SRes) (kn : Str → Bool) (h : MH) : SRes := match r with
  | .er c μ' st' => if kn c = true then h c μ' st' else .bad
  | .nx μ' st' => .nx μ' st'
  | .rt v st' => .rt v st'
  | .bk μ' st' => .bk μ' st'
  | .ct μ' st' => .ct μ' st'
  | .bad => .bad
theorem ev_try {kn : Str → Bool} {h : MH} : sTry kn s1 h μ st = (s1 μ st).tryK kn h := by unfold sTry SRes.tryK; cases s1 μ st <;> rfl
theorem tryK_nx {kn : Str → Bool} {h : MH} : (SRes.nx μ st).tryK kn h = .nx μ st := rfl
theorem tryK_rt {kn : Str → Bool} {h : MH} : (SRes.rt v st).tryK kn h = .rt v st := rfl
theorem tryK_er {kn : Str → Bool} {h : MH} {c : Str} (hk : kn c = true) : (SRes.er c μ st).tryK kn h = h c μ st := by
  show (if kn c = true then h c μ st else .bad) = _
  rw [if_pos hk]
theorem hCons_t {sub : Str → Str → Option Bool} {x c : Str} {r : MH} (h : sub c x = some true) : hCons sub x s1 r c μ st = onlyRt (s1 μ st) := by unfold hCons; rw [h]
theorem hCons_f {sub : Str → Str → Option Bool} {x c : Str} {r : MH} (h : sub c x = some false) : hCons sub x s1 r c μ st = r c μ st := by unfold hCons; rw [h]
theorem hAs_t {sub : Str → Str → Option Bool} {x c : Str} {r : MH} (h : sub c x = some true) : hAs sub x i s1 r c μ st = onlyRt (s1 (μ.set i (some (.exc c))) st) := by unfold hAs; rw [h]
theorem onlyRt_rt : onlyRt (.rt v st) = .rt v st := rfl
theorem isX_s {sub : Str → Str → Option Bool} {x : Str} {y : Option Val} {μ : Env} : mIsX sub (i + 1) x (y :: μ) st = mIsX sub i x μ st := rfl
theorem isX_0 {sub : Str → Str → Option Bool} {x c : Str} {μ : Env} (h : sub c x = some true) : mIsX sub 0 x (some (.exc c) :: μ) st = .ok (.bl true) st := by unfold mIsX; dsimp only [List.getElem?_cons_zero]; rw [h]
end
end MN
namespace MN
open PySem PySem.Spec L2
open PyProof.Rows hiding St kindOf
theorem evs : (((((((type_of% @ev_fn) ∧ ((type_of% @bnd_ok) ∧ (type_of% @bnd_err))) ∧ (((type_of% @bnd_bad) ∧ (type_of% @sbn_ok)) ∧ ((type_of% @sbn_err) ∧ (type_of% @sbn_bad)))) ∧ ((((type_of% @thn_nx) ∧ (type_of% @thn_rt)) ∧ ((type_of% @thn_er) ∧ (type_of% @thn_bk))) ∧ (((type_of% @thn_ct) ∧ (type_of% @fin_nx)) ∧ ((type_of% @fin_rt) ∧ (type_of% @fin_er))))) ∧ (((((type_of% @ev_bin) ∧ (type_of% @k_bin)) ∧ ((type_of% @k_bin2) ∧ (type_of% @k_and_t))) ∧ (((type_of% @k_and_f) ∧ (type_of% @k_or_t)) ∧ ((type_of% @k_or_f) ∧ (type_of% @k_not)))) ∧ ((((type_of% @k_tand_t) ∧ (type_of% @k_tand_f)) ∧ ((type_of% @k_tor_t) ∧ (type_of% @k_tor_f))) ∧ (((type_of% @k_tnot) ∧ (type_of% @k_ife_t)) ∧ ((type_of% @k_ife_f) ∧ (type_of% @k_ch)))))) ∧ ((((((type_of% @k_ch1) ∧ (type_of% @k_ch2_t)) ∧ ((type_of% @k_ch2_f) ∧ (type_of% @k_cons))) ∧ (((type_of% @k_cons2) ∧ (type_of% @k_tup)) ∧ ((type_of% @k_lst) ∧ (type_of% @k_expr)))) ∧ ((((type_of% @k_ret) ∧ (type_of% @k_if_t)) ∧ ((type_of% @k_if_f) ∧ (type_of% @k_set))) ∧ (((type_of% @k_raise) ∧ (type_of% @k_for)) ∧ ((type_of% @k_new) ∧ (type_of% @k_comp))))) ∧ (((((type_of% @ev_C) ∧ (type_of% @asB_bl)) ∧ ((type_of% @ev_asT) ∧ (type_of% @ev_and))) ∧ (((type_of% @ev_or) ∧ (type_of% @ev_not)) ∧ ((type_of% @ev_tand) ∧ (type_of% @ev_tor)))) ∧ ((((type_of% @ev_tnot) ∧ (type_of% @ev_if)) ∧ ((type_of% @ev_chain) ∧ (type_of% @ev_nil))) ∧ (((type_of% @ev_cons) ∧ (type_of% @ev_tup)) ∧ ((type_of% @ev_lst) ∧ (type_of% @ev_call))))))) ∧ (((((((type_of% @negV_int) ∧ (type_of% @ev_neg)) ∧ ((type_of% @ev_is) ∧ (type_of% @ev_seq))) ∧ (((type_of% @ev_next) ∧ (type_of% @ev_expr)) ∧ ((type_of% @ev_ret) ∧ (type_of% @ev_ifS)))) ∧ ((((type_of% @ev_set) ∧ (type_of% @ev_raise)) ∧ ((type_of% @ev_for) ∧ (type_of% @ev_comp))) ∧ (((type_of% @ev_iseq) ∧ (type_of% @ev_rng1)) ∧ ((type_of% @ev_rng2) ∧ (type_of% @walkK_tup))))) ∧ (((((type_of% @ev_zip) ∧ (type_of% @zipK_tt)) ∧ ((type_of% @ev_noE) ∧ (type_of% @noe_ok))) ∧ (((type_of% @ev_noOut) ∧ (type_of% @nout_nx)) ∧ ((type_of% @nout_rt) ∧ (type_of% @ev_try)))) ∧ ((((type_of% @tryK_nx) ∧ (type_of% @tryK_rt)) ∧ ((type_of% @onlyRt_rt) ∧ (type_of% @MN.isX_s))) ∧ (((type_of% @add_ii) ∧ (type_of% @sub_ii)) ∧ ((type_of% @lt_ii) ∧ (type_of% @le_ii)))))) ∧ ((((((type_of% @gt_ii) ∧ (type_of% @ge_ii)) ∧ ((type_of% @eq_ii) ∧ (type_of% @ne_ii))) ∧ (((type_of% @eq_bb) ∧ (type_of% @ne_bb)) ∧ ((type_of% @eq_ss) ∧ (type_of% @ne_ss)))) ∧ ((((type_of% @len_tup) ∧ (type_of% @abs_i)) ∧ ((type_of% @is_int_int) ∧ (type_of% @is_bool_int))) ∧ (((type_of% @var_i) ∧ (type_of% @var_b)) ∧ ((type_of% @var_st) ∧ (type_of% @var_t))))) ∧ (((((type_of% @var_l) ∧ (type_of% @var_n)) ∧ ((type_of% @var_s) ∧ (type_of% @List.map_cons.{0,0}))) ∧ (((type_of% @List.map_nil.{0,0}) ∧ (type_of% @List.cons_append.{0})) ∧ ((type_of% @List.nil_append.{0}) ∧ (type_of% @List.replicate_succ.{0})))) ∧ ((((type_of% @List.replicate_zero.{0}) ∧ (type_of% @List.set_cons_zero.{0})) ∧ ((type_of% @List.set_cons_succ.{0}) ∧ (type_of% @List.length_cons.{0}))) ∧ (((type_of% @List.length_nil.{0}) ∧ (type_of% @Bool.not_true)) ∧ ((type_of% @Bool.not_false) ∧ (type_of% @sizeLine_eq)))))))) := ⟨⟨⟨⟨⟨⟨@ev_fn, ⟨@bnd_ok, @bnd_err⟩⟩, ⟨⟨@bnd_bad, @sbn_ok⟩, ⟨@sbn_err, @sbn_bad⟩⟩⟩, ⟨⟨⟨@thn_nx, @thn_rt⟩, ⟨@thn_er, @thn_bk⟩⟩, ⟨⟨@thn_ct, @fin_nx⟩, ⟨@fin_rt, @fin_er⟩⟩⟩⟩, ⟨⟨⟨⟨@ev_bin, @k_bin⟩, ⟨@k_bin2, @k_and_t⟩⟩, ⟨⟨@k_and_f, @k_or_t⟩, ⟨@k_or_f, @k_not⟩⟩⟩, ⟨⟨⟨@k_tand_t, @k_tand_f⟩, ⟨@k_tor_t, @k_tor_f⟩⟩, ⟨⟨@k_tnot, @k_ife_t⟩, ⟨@k_ife_f, @k_ch⟩⟩⟩⟩⟩, ⟨⟨⟨⟨⟨@k_ch1, @k_ch2_t⟩, ⟨@k_ch2_f, @k_cons⟩⟩, ⟨⟨@k_cons2, @k_tup⟩, ⟨@k_lst, @k_expr⟩⟩⟩, ⟨⟨⟨@k_ret, @k_if_t⟩, ⟨@k_if_f, @k_set⟩⟩, ⟨⟨@k_raise, @k_for⟩, ⟨@k_new, @k_comp⟩⟩⟩⟩, ⟨⟨⟨⟨@ev_C, @asB_bl⟩, ⟨@ev_asT, @ev_and⟩⟩, ⟨⟨@ev_or, @ev_not⟩, ⟨@ev_tand, @ev_tor⟩⟩⟩, ⟨⟨⟨@ev_tnot, @ev_if⟩, ⟨@ev_chain, @ev_nil⟩⟩, ⟨⟨@ev_cons, @ev_tup⟩, ⟨@ev_lst, @ev_call⟩⟩⟩⟩⟩⟩, ⟨⟨⟨⟨⟨⟨@negV_int, @ev_neg⟩, ⟨@ev_is, @ev_seq⟩⟩, ⟨⟨@ev_next, @ev_expr⟩, ⟨@ev_ret, @ev_ifS⟩⟩⟩, ⟨⟨⟨@ev_set, @ev_raise⟩, ⟨@ev_for, @ev_comp⟩⟩, ⟨⟨@ev_iseq, @ev_rng1⟩, ⟨@ev_rng2, @walkK_tup⟩⟩⟩⟩, ⟨⟨⟨⟨@ev_zip, @zipK_tt⟩, ⟨@ev_noE, @noe_ok⟩⟩, ⟨⟨@ev_noOut, @nout_nx⟩, ⟨@nout_rt, @ev_try⟩⟩⟩, ⟨⟨⟨@tryK_nx, @tryK_rt⟩, ⟨@onlyRt_rt, @MN.isX_s⟩⟩, ⟨⟨@add_ii, @sub_ii⟩, ⟨@lt_ii, @le_ii⟩⟩⟩⟩⟩, ⟨⟨⟨⟨⟨@gt_ii, @ge_ii⟩, ⟨@eq_ii, @ne_ii⟩⟩, ⟨⟨@eq_bb, @ne_bb⟩, ⟨@eq_ss, @ne_ss⟩⟩⟩, ⟨⟨⟨@len_tup, @abs_i⟩, ⟨@is_int_int, @is_bool_int⟩⟩, ⟨⟨@var_i, @var_b⟩, ⟨@var_st, @var_t⟩⟩⟩⟩, ⟨⟨⟨⟨@var_l, @var_n⟩, ⟨@var_s, @List.map_cons.{0,0}⟩⟩, ⟨⟨@List.map_nil.{0,0}, @List.cons_append.{0}⟩, ⟨@List.nil_append.{0}, @List.replicate_succ.{0}⟩⟩⟩, ⟨⟨⟨@List.replicate_zero.{0}, @List.set_cons_zero.{0}⟩, ⟨@List.set_cons_succ.{0}, @List.length_cons.{0}⟩⟩, ⟨⟨@List.length_nil.{0}, @Bool.not_true⟩, ⟨@Bool.not_false, @sizeLine_eq⟩⟩⟩⟩⟩⟩⟩
end MN
namespace MN
open PySem PySem.Spec L2
open PyProof.Rows hiding St kindOf
section
variable {μ : Env} {st : Store} {a b c o : ME} {ms : MA} {f : F2} {g : FM} {v w : Val} {i n m : Nat} {us ws : List Val}
noncomputable def kSl3 (x : Val) (l : Option Int) : Option Int → Store → Res Val := fun h st => slV l h x st
noncomputable def kSl2 (hi : MO) (μ : Env) (x : Val) : Option Int → Store → Res Val := fun l st => (hi μ st).bnd (kSl3 x l)
noncomputable def kSl (lo hi : MO) (μ : Env) : Val → Store → Res Val := fun x st => (lo μ st).bnd (kSl2 hi μ x)
theorem ev_sl {lo hi : MO} : mSl a lo hi μ st = (a μ st).bnd (kSl lo hi μ) := bnd_eq fun x st1 => bnd_eq fun l st2 => bnd_eq fun h st3 => rfl
theorem k_sl {lo hi : MO} : kSl lo hi μ v st = (lo μ st).bnd (kSl2 hi μ v) := rfl
theorem k_sl2 {hi : MO} {l : Option Int} : kSl2 hi μ v l st = (hi μ st).bnd (kSl3 v l) := rfl
theorem k_sl3 {l h : Option Int} : kSl3 v l h st = slV l h v st := rfl
theorem ev_onone : oNone μ st = .ok none st := rfl
noncomputable def kO : Val → Store → Res (Option Int)
  | .int i, st => .ok (some i) st
  | _, _ => .bad
theorem ev_osome : oSome a μ st = (a μ st).bnd kO := bnd_eq fun x _ => by cases x <;> rfl
theorem kO_i {j : Int} : kO (.int j) st = .ok (some j) st := rfl
theorem sl_loc {l h : Option Int} (e : itemsOf st n = some us) : slV l h (.loc n) st = .ok (.loc st.length) (st ++ [.lst (cutL us l h)]) := by
  simp only [slV, e]
noncomputable def kMt2 (g : FM) (x : Val) : List Val → Store → Res Val := fun xs st => g x xs st
noncomputable def kMtL (g : FM) (ms : MA) (μ : Env) : Val → Store → Res Val := fun x st => if isLst st x = true then (ms μ st).bnd (kMt2 g x) else .bad
theorem ev_mtL : mMtL g o ms μ st = (o μ st).bnd (kMtL g ms μ) := bnd_eq fun x st1 => by
  unfold kMtL
  split
  · exact bnd_eq fun _ _ => rfl
  · rfl
theorem k_mtL (h : st[n]? = some (.lst us)) : kMtL g ms μ (.loc n) st = (ms μ st).bnd (kMt2 g (.loc n)) := by
  unfold kMtL
  rw [if_pos (by unfold isLst; dsimp only; rw [h])]
theorem k_mt2 {xs : List Val} : kMt2 g v xs st = g v xs st := rfl
noncomputable def kMt0 (g : FM) : Val → Store → Res Val := fun x st => if isLst st x = true then g x [] st else .bad
theorem ev_mt0 : mMt0 g o μ st = (o μ st).bnd (kMt0 g) := bnd_eq fun _ _ => rfl
theorem append_ok (h : st[n]? = some (.lst us)) (hl : us.length < sizeLine) : appendF (.loc n) [v] st = .ok .non (st.set n (.lst (us ++ [v]))) := by
  simp only [appendF, h]
  rw [if_pos hl]
noncomputable def kSI3 (μ : Env) (x y : Val) : Val → Store → SRes := fun z st => nxO μ (setF y z x st)
noncomputable def kSI2 (b : ME) (μ : Env) (x : Val) : Val → Store → SRes := fun y st => (b μ st).sbn μ (kSI3 μ x y)
noncomputable def kSI (a b : ME) (μ : Env) : Val → Store → SRes := fun x st => (a μ st).sbn μ (kSI2 b μ x)
theorem ev_seti : sSetI a b c μ st = (c μ st).sbn μ (kSI a b μ) := sbn_eq fun _ _ => sbn_eq fun _ _ => sbn_eq fun _ _ => rfl
theorem k_si : kSI a b μ v st = (a μ st).sbn μ (kSI2 b μ v) := rfl
theorem k_si2 : kSI2 b μ v w st = (b μ st).sbn μ (kSI3 μ v w) := rfl
theorem k_si3 {x : Val} : kSI3 μ v w x st = nxO μ (setF w x v st) := rfl
theorem nxO_some : nxO μ (some st) = .nx μ st := rfl
noncomputable def kAI5 (μ : Env) (y z : Val) : Val → Store → SRes := fun r st => nxO μ (setF y z r st)
noncomputable def kAI4 (f : F2) (μ : Env) (y z x : Val) : Val → Store → SRes := fun w st => (f x w st).sbn μ (kAI5 μ y z)
noncomputable def kAI3 (f : F2) (c : ME) (μ : Env) (y z : Val) : Val → Store → SRes := fun x st => (c μ st).sbn μ (kAI4 f μ y z x)
noncomputable def kAI2 (f : F2) (c : ME) (μ : Env) (y : Val) : Val → Store → SRes := fun z st => (ixL y z st).sbn μ (kAI3 f c μ y z)
noncomputable def kAI (f : F2) (b c : ME) (μ : Env) : Val → Store → SRes := fun y st => (b μ st).sbn μ (kAI2 f c μ y)
theorem ev_augi : sAugI f a b c μ st = (a μ st).sbn μ (kAI f b c μ) := sbn_eq fun _ _ => sbn_eq fun _ _ => sbn_eq fun _ _ => sbn_eq fun _ _ => sbn_eq fun _ _ => rfl
theorem k_ai : kAI f b c μ v st = (b μ st).sbn μ (kAI2 f c μ v) := rfl
theorem k_ai2 : kAI2 f c μ v w st = (ixL v w st).sbn μ (kAI3 f c μ v w) := rfl
theorem k_ai3 {x : Val} : kAI3 f c μ v w x st = (c μ st).sbn μ (kAI4 f μ v w x) := rfl
theorem k_ai4 {x y : Val} : kAI4 f μ v w x y st = (f x y st).sbn μ (kAI5 μ v w) := rfl
theorem k_ai5 {x : Val} : kAI5 μ v w x st = nxO μ (setF v w x st) := rfl
theorem iad_ii {j k : Int} : iadV (.int j) (.int k) st = .ok (.int (j + k)) st := rfl
theorem isb_ii {j k : Int} : isbV (.int j) (.int k) st = .ok (.int (j - k)) st := rfl
noncomputable def kAu2 (k : Nat) (μ : Env) : Val → Store → SRes := fun r st => .nx (μ.set k (some r)) st
noncomputable def kAu1 (k : Nat) (f : F2) (μ : Env) (x : Val) : Val → Store → SRes := fun w st => (f x w st).sbn μ (kAu2 k μ)
noncomputable def kAu (k : Nat) (f : F2) (a : ME) (μ : Env) : Val → Store → SRes := fun x st => (a μ st).sbn μ (kAu1 k f μ x)
theorem ev_aug {k : Nat} : sAug k f a μ st = (mVar k μ st).sbn μ (kAu k f a μ) := sbn_eq fun _ _ => sbn_eq fun _ _ => sbn_eq fun _ _ => rfl
theorem k_au {k : Nat} : kAu k f a μ v st = (a μ st).sbn μ (kAu1 k f μ v) := rfl
theorem k_au1 {k : Nat} : kAu1 k f μ v w st = (f v w st).sbn μ (kAu2 k μ) := rfl
theorem k_au2 {k : Nat} : kAu2 k μ v st = .nx (μ.set k (some v)) st := rfl
theorem ev_down : iDownM ms μ st = (ms μ st).bnd dwnK := by unfold iDownM; rw [bind_bnd]
theorem ev_rev : iRevM ms μ st = (ms μ st).bnd revK := by unfold iRevM; rw [bind_bnd]
theorem ev_enum : iEnumM ms μ st = (ms μ st).bnd enuK := by unfold iEnumM; rw [bind_bnd]
theorem max_ii {j k : Int} : maxF [.int j, .int k] st = .ok (.int (if k > j then k else j)) st := rfl
theorem int_b {x : Bool} : intF [.bl x] st = .ok (.int (if x then 1 else 0)) st := rfl
theorem lst_loc (e : itemsOf st n = some us) : lstF [.loc n] st = .ok (.loc st.length) (st ++ [.lst us]) := by
  simp only [lstF, e]
theorem add_ll (h1 : st[n]? = some (.lst us)) (h2 : st[m]? = some (.lst ws)) (hl : us.length + ws.length ≤ sizeLine) : addV (.loc n) (.loc m) st = .ok (.loc st.length) (st ++ [.lst (us ++ ws)]) := by
  simp only [addV, h1, h2]
  rw [if_pos hl]
theorem mul_li {k : Int} (h1 : st[n]? = some (.lst us)) (h2 : -(2 ^ 63) ≤ k) (h3 : k < 2 ^ 63) (h4 : us.length * k.toNat ≤ sizeLine) : mulV (.loc n) (.int k) st = .ok (.loc st.length) (st ++ [.lst (repsV k.toNat us)]) := by
  simp only [mulV, h1]
  rw [if_pos ⟨h2, h3, h4⟩]
theorem it_of (h : st[n]? = some (.lst us)) : itemsOf st n = some us := by unfold itemsOf; rw [h]
theorem la_new (st : Store) (us : List Val) : (st ++ [Cell.lst us])[st.length]? = some (.lst us) := by
  rw [List.getElem?_append_right (Nat.le_refl _), Nat.sub_self]; rfl
theorem is_list (h : st[n]? = some (.lst us)) : isOf "list" (.loc n) st = .ok (.bl true) st := by
  unfold isOf isT kindOf; dsimp only; rw [h]; rfl
theorem is_tuple : isOf "tuple" (.tup us) st = .ok (.bl true) st := rfl
theorem set_last (st : Store) (k k' : Cell) : (st ++ [k]).set st.length k' = st ++ [k'] := by
  rw [List.set_append_right _ _ (Nat.le_refl _), Nat.sub_self]; rfl
theorem set_mid (st : Store) (k k' : Cell) (g : Store) : (st ++ k :: g).set st.length k' = st ++ k' :: g := by
  rw [List.set_append_right _ _ (Nat.le_refl _), Nat.sub_self]; rfl
theorem la_mid (st : Store) (k : Cell) (g : Store) : (st ++ k :: g)[st.length]? = some k := by
  rw [List.getElem?_append_right (Nat.le_refl _), Nat.sub_self]; rfl
end
mutual
noncomputable def pureD : Nat → Val → Bool
  | _, .non => true
  | _, .bl _ => true
  | _, .int _ => true
  | _, .str _ => true
  | 0, .tup _ => false
  | n + 1, .tup us => pureDs n us
  | _, _ => false
noncomputable def pureDs : Nat → List Val → Bool
  | _, [] => true
  | n, u :: us => pureD n u && pureDs n us
end
mutual
theorem eqD_self (st : Store) : ∀ (n : Nat) (v : Val), pureD n v = true → eqD (n + 1) st v v = some true
  | _, .non, _ => rfl
  | _, .bl b, _ => by show some (b == b) = _; rw [beq_self_eq_true]
  | _, .int i, _ => by show some (i == i) = _; rw [beq_self_eq_true]
  | _, .str x, _ => by show some (x == x) = _; rw [beq_self_eq_true]
  | 0, .tup _, h => by cases h
  | n + 1, .tup us, h => by
    show eqDs (eqD (n + 1) st) us us = some true
    exact eqDs_self st n us h
  | n, .loc _, h => by cases n <;> cases h
  | n, .exc _, h => by cases n <;> cases h
  | n, .fn _ _, h => by cases n <;> cases h
  | n, .mt _, h => by cases n <;> cases h
theorem eqDs_self (st : Store) : ∀ (n : Nat) (us : List Val), pureDs n us = true → eqDs (eqD (n + 1) st) us us = some true
  | _, [], _ => rfl
  | n, u :: us, h => by
    have h' : pureD n u = true ∧ pureDs n us = true := by simpa [pureDs] using h
    show (match eqD (n + 1) st u u, eqDs (eqD (n + 1) st) us us with | some a, some b => some (a && b) | _, _ => none) = _
    rw [eqD_self st n u h'.1, eqDs_self st n us h'.2]; rfl
end
theorem pureDs_of {n : Nat} : ∀ {us : List Val}, (∀ u ∈ us, pureD n u = true) → pureDs n us = true
  | [], _ => rfl
  | u :: us, h => by
    unfold pureDs
    rw [h u List.mem_cons_self, pureDs_of fun w hw => h w (List.mem_cons_of_mem u hw)]; rfl
theorem pureDs_ints (n : Nat) (ns : List Int) : pureDs n (ns.map Val.int) = true := pureDs_of fun u hu => by
  obtain ⟨i, _, rfl⟩ := List.mem_map.mp hu
  cases n <;> rfl
section
variable {st : Store} {n m : Nat} {us : List Val}
theorem eqD_lists (h1 : itemsOf st n = some us) (h2 : itemsOf st m = some us) (hp : pureDs 14 us = true) : eqD 16 st (.loc n) (.loc m) = some true := by
  unfold eqD
  simp only [vw, h1, h2]
  exact eqDs_self st 14 us hp
theorem eq_lists (h1 : itemsOf st n = some us) (h2 : itemsOf st m = some us) (hp : pureDs 14 us = true) : eqM (.loc n) (.loc m) st = .ok (.bl true) st := by unfold eqM; rw [eqD_lists h1 h2 hp]
theorem eq_self {v : Val} (hp : pureD 15 v = true) : eqM v v st = .ok (.bl true) st := by unfold eqM; rw [eqD_self st 15 v hp]
theorem ne_self {v : Val} (hp : pureD 15 v = true) : neM v v st = .ok (.bl false) st := by unfold neM; rw [eqD_self st 15 v hp]; rfl
end
end MN
namespace MN
open PySem PySem.Spec L2
open PyProof.Rows hiding St kindOf
theorem ev2s : ((((((type_of% @ev_sl) ∧ (type_of% @k_sl)) ∧ ((type_of% @k_sl2) ∧ (type_of% @k_sl3))) ∧ (((type_of% @ev_onone) ∧ (type_of% @ev_osome)) ∧ ((type_of% @kO_i) ∧ (type_of% @ev_mtL)))) ∧ ((((type_of% @k_mt2) ∧ (type_of% @ev_mt0)) ∧ ((type_of% @ev_seti) ∧ (type_of% @k_si))) ∧ (((type_of% @k_si2) ∧ (type_of% @k_si3)) ∧ ((type_of% @nxO_some) ∧ (type_of% @ev_augi))))) ∧ (((((type_of% @k_ai) ∧ (type_of% @k_ai2)) ∧ ((type_of% @k_ai3) ∧ (type_of% @k_ai4))) ∧ (((type_of% @k_ai5) ∧ (type_of% @iad_ii)) ∧ ((type_of% @isb_ii) ∧ (type_of% @ev_aug)))) ∧ ((((type_of% @k_au) ∧ (type_of% @k_au1)) ∧ ((type_of% @k_au2) ∧ (type_of% @ev_down))) ∧ (((type_of% @ev_rev) ∧ (type_of% @ev_enum)) ∧ ((type_of% @max_ii) ∧ ((type_of% @int_b) ∧ (type_of% @is_tuple))))))) := ⟨⟨⟨⟨⟨@ev_sl, @k_sl⟩, ⟨@k_sl2, @k_sl3⟩⟩, ⟨⟨@ev_onone, @ev_osome⟩, ⟨@kO_i, @ev_mtL⟩⟩⟩, ⟨⟨⟨@k_mt2, @ev_mt0⟩, ⟨@ev_seti, @k_si⟩⟩, ⟨⟨@k_si2, @k_si3⟩, ⟨@nxO_some, @ev_augi⟩⟩⟩⟩, ⟨⟨⟨⟨@k_ai, @k_ai2⟩, ⟨@k_ai3, @k_ai4⟩⟩, ⟨⟨@k_ai5, @iad_ii⟩, ⟨@isb_ii, @ev_aug⟩⟩⟩, ⟨⟨⟨@k_au, @k_au1⟩, ⟨@k_au2, @ev_down⟩⟩, ⟨⟨@ev_rev, @ev_enum⟩, ⟨@max_ii, ⟨@int_b, @is_tuple⟩⟩⟩⟩⟩⟩
end MN
namespace PG
open PySem PySem.Spec L2 MN
open PyProof.Rows hiding St kindOf
theorem is_whole_int (i : Int) (st : Store) : PM.is_whole [.int i] st = .ok (.bl true) st := rfl
noncomputable def FP : List Int := [2, 3, 5, 7, 11, 13, 17, 19, 23, 29, 31]
noncomputable def prB (n : Int) : Bool := FP.contains n || (decide (2 ≤ n) && decide (n ≤ 997) && FP.all fun p => !(n.fmod p == 0))
theorem any_ints (n : Int) (ns : List Int) : (ns.map Val.int).any (fun y => eqF y (.int n)) = ns.contains n := by
  induction ns with
  | nil => rfl
  | cons m ns ih =>
    simp only [List.map_cons, List.any_cons, List.contains_cons]
    rw [ih]
    congr 1
    show (m == n) = (n == m)
    rw [Bool.eq_iff_iff, beq_iff_eq, beq_iff_eq]; exact ⟨Eq.symm, Eq.symm⟩
theorem in_ints (n : Int) (ns : List Int) (st : Store) : inW false (.int n) (.mt (ns.map Val.int)) st = .ok (.bl (ns.contains n)) st := by
  have h1 : (ns.map Val.int).all flat = true := by rw [List.all_map]; exact List.all_eq_true.mpr fun _ _ => rfl
  unfold inW seqOf
  dsimp only
  rw [if_pos ⟨rfl, h1⟩, any_ints]
  rfl
theorem bls_map (ns : List Int) (f : Int → Bool) : blsOf ((ns.map Val.int).map fun v => match v with | .int i => .bl (f i) | _ => .non) = some (ns.map f) := by
  induction ns with
  | nil => rfl
  | cons m ns ih =>
    simp only [List.map_cons, blsOf] at ih ⊢
    rw [ih]; rfl
theorem is_prime_within_int (n : Int) (st : Store) : ∃ g, PM.is_prime_within [.int n] st = .ok (.bl (prB n)) (st ++ g) := by
  have hin : inW false (.int n) PM.FIRST_PRIMES st = .ok (.bl (FP.contains n)) st := in_ints n FP st
  cases h1 : FP.contains n with
  | true =>
    refine ⟨[], ?_⟩
    rw [h1] at hin
    simp only [PM.is_prime_within, ev_fn, bnd_ok, sbn_ok, thn_rt, fin_rt, ev_bin, k_bin, k_bin2, k_ret, k_if_t, ev_C, asB_bl, ev_asT, ev_seq, ev_ret, ev_ifS, var_i, List.map_cons, List.map_nil, List.replicate_zero, Nat.reduceSub, List.length_cons, List.length_nil, Nat.reduceAdd, hin, List.append_nil, prB, h1, Bool.true_or]
  | false =>
    rw [h1] at hin
    by_cases h2 : n < 2
    · refine ⟨[], ?_⟩
      have e2 : decide (n < 2) = true := decide_eq_true h2
      have e3 : decide (2 ≤ n) = false := decide_eq_false (by omega)
      simp only [PM.is_prime_within, ev_fn, bnd_ok, sbn_ok, thn_nx, thn_rt, fin_rt, ev_bin, k_bin, k_bin2, k_tor_t, k_ret, k_if_t, k_if_f, ev_C, asB_bl, ev_asT, ev_tor, ev_seq, ev_next, ev_ret, ev_ifS, lt_ii, var_i, List.map_cons, List.map_nil, List.replicate_zero, Nat.reduceSub, List.length_cons, List.length_nil, Nat.reduceAdd, hin, e2, List.append_nil, prB, h1, e3, Bool.false_or, Bool.false_and]
    · have e2 : decide (n < 2) = false := decide_eq_false h2
      have e3 : decide (2 ≤ n) = true := decide_eq_true (by omega)
      by_cases h3 : 997 < n
      · refine ⟨[], ?_⟩
        have e4 : decide (997 < n) = true := decide_eq_true h3
        have e5 : decide (n ≤ 997) = false := decide_eq_false (by omega)
        simp only [PM.is_prime_within, ev_fn, bnd_ok, sbn_ok, thn_nx, thn_rt, fin_rt, ev_bin, k_bin, k_bin2, k_tor_f, k_ret, k_if_t, k_if_f, ev_C, asB_bl, ev_asT, ev_tor, ev_seq, ev_next, ev_ret, ev_ifS, lt_ii, gt_ii, var_i, List.map_cons, List.map_nil, List.replicate_zero, Nat.reduceSub, List.length_cons, List.length_nil, Nat.reduceAdd, hin, e2, e4, List.append_nil, prB, h1, e3, e5, Bool.false_or, Bool.false_and, Bool.true_and]
      · have e4 : decide (997 < n) = false := decide_eq_false h3
        have e5 : decide (n ≤ 997) = true := decide_eq_true (by omega)
        let f : Val → Val := fun v => match v with | .int i => .bl (!(n.fmod i == 0)) | _ => .non
        have hc : compL (fun _ => True) (aName 0) tTrueM (mBin neM (mBin modV (mVar 1) (mVar 0)) (mC (Val.int 0))) (FP.map Val.int) (capM 1 [0] [some (Val.int n)]) st [] = .ok ([] ++ ((FP.map Val.int).filter fun _ => true).map f) st := by
          refine compL_pure trivial (fun τ => ∃ x, τ = [x, some (.int n)]) (fun _ => true) f (FP.map Val.int) _ [] ⟨none, rfl⟩ ?_
          rintro u hu τ ⟨x, rfl⟩
          obtain ⟨i, hi, rfl⟩ := List.mem_map.mp hu
          have hi0 : ¬ i = 0 := by
            intro z; subst z; revert hi; decide
          refine ⟨_, rfl, ⟨_, rfl⟩, rfl, fun _ => ?_⟩
          simp only [bnd_ok, ev_bin, k_bin, k_bin2, ev_C, ne_ii, var_i, var_s, List.set_cons_zero, mod_ii hi0, f]
        have hb : blsOf (((FP.map Val.int).filter fun _ => true).map f) = some (FP.map fun i => !(n.fmod i == 0)) := by
          rw [List.filter_eq_self.mpr (fun _ _ => rfl)]
          exact bls_map FP fun i => !(n.fmod i == 0)
        refine ⟨[.lst (((FP.map Val.int).filter fun _ => true).map f)], ?_⟩
        have ha : allF [.loc st.length] (st ++ [.lst (((FP.map Val.int).filter fun _ => true).map f)]) = .ok (.bl (prB n)) (st ++ [.lst (((FP.map Val.int).filter fun _ => true).map f)]) := by
          unfold allF
          dsimp only
          rw [itemsOf_new]
          dsimp only
          rw [hb]
          simp only [prB, h1, e3, e5, Bool.false_or, Bool.true_and, List.all_map]
          rfl
        have hw : walkK PM.FIRST_PRIMES st = .ok (FP.map Val.int, fun _ => True) st := rfl
        have hz : (FP.map Val.int).length = 11 := rfl
        rw [List.nil_append] at hc
        simp only [PM.is_prime_within, ev_fn, bnd_ok, sbn_ok, thn_nx, fin_rt, ev_bin, k_bin, k_bin2, k_tor_f, k_cons, k_cons2, k_ret, k_if_f, k_new, k_comp, ev_C, asB_bl, ev_asT, ev_tor, ev_nil, ev_cons, ev_call, ev_seq, ev_next, ev_ret, ev_ifS, ev_comp, ev_iseq, lt_ii, gt_ii, var_i, List.map_cons, List.map_nil, List.cons_append, List.nil_append, List.replicate_zero, Nat.reduceSub, List.length_cons, List.length_nil, Nat.reduceAdd, sizeLine_eq, Nat.reduceLeDiff, ↓reduceIte, hin, e2, e4, hw, hc, ha, hz]
end PG
namespace M03
noncomputable def Cof (u0 u1 g0 g1 M : Int) : Prop := ∃ e x0 x1 : Int, (e = 1 ∨ e = -1) ∧ 0 ≤ x0 ∧ 0 ≤ x1 ∧ u0 = e * x0 ∧ u1 = -(e * x1) ∧ x1 * g0 + x0 * g1 = M ∧ x0 ≤ M + 1 ∧ x1 ≤ M + 1
structure Inv (a b : Int) (g0 u0 v0 g1 u1 v1 : Int) : Prop where
  n0 : 0 ≤ g0
  n1 : 0 ≤ g1
  c0 : u0 * a + v0 * b = g0
  c1 : u1 * a + v1 * b = g1
  cu : Cof u0 u1 g0 g1 (b.natAbs : Int)
  cv : Cof v0 v1 g0 g1 (a.natAbs : Int)
  m0 : g0 ≤ (a.natAbs : Int) + (b.natAbs : Int)
  m1 : g1 ≤ (a.natAbs : Int) + (b.natAbs : Int)
  da : ∃ p q : Int, a = p * g0 + q * g1
  db : ∃ p q : Int, b = p * g0 + q * g1
end M03
namespace PG
open PySem PySem.Spec L2 MN
open PyProof.Rows hiding St kindOf
noncomputable def ringB (n : Int) : Bool := n == 0 || prB n
theorem is_ring_int (n : Int) (st : Store) : ∃ g, PM.is_ring [.int n] st = .ok (.bl (ringB n)) (st ++ g) := by
  cases h : n == 0 with
  | true => exact ⟨[], by simp only [PM.is_ring, ev_fn, bnd_ok, sbn_ok, fin_rt, ev_bin, k_bin, k_bin2, k_and_t, k_or_t, k_cons, k_cons2, k_ret, ev_C, ev_and, ev_or, ev_nil, ev_cons, ev_call, ev_ret, eq_ii, var_i, List.map_cons, List.map_nil, List.replicate_zero, Nat.reduceSub, List.length_cons, List.length_nil, Nat.reduceAdd, is_whole_int, h, ringB, Bool.true_or, List.append_nil]⟩
  | false =>
    obtain ⟨g, e⟩ := is_prime_within_int n st
    exact ⟨g, by simp only [PM.is_ring, ev_fn, bnd_ok, sbn_ok, fin_rt, ev_bin, k_bin, k_bin2, k_and_t, k_or_f, k_cons, k_cons2, k_ret, ev_C, ev_and, ev_or, ev_nil, ev_cons, ev_call, ev_ret, eq_ii, var_i, List.map_cons, List.map_nil, List.cons_append, List.nil_append, List.replicate_zero, Nat.reduceSub, List.length_cons, List.length_nil, Nat.reduceAdd, is_whole_int, h, ringB, Bool.false_or, e]⟩
theorem check_ring_ok {n : Int} (h : ringB n = true) (st : Store) : ∃ g, PM.check_ring [.int n] st = .ok .non (st ++ g) := by
  obtain ⟨g, e⟩ := is_ring_int n st
  rw [h] at e
  exact ⟨g, by simp only [PM.check_ring, ev_fn, bnd_ok, sbn_ok, fin_nx, k_tnot, k_cons, k_cons2, k_if_f, asB_bl, ev_asT, ev_tnot, ev_nil, ev_cons, ev_call, ev_next, ev_ifS, var_i, List.map_cons, List.map_nil, List.cons_append, List.nil_append, List.replicate_zero, Nat.reduceSub, List.length_cons, List.length_nil, Nat.reduceAdd, Bool.not_true, e]⟩
theorem at0 {x : Val} {r : List Val} : L2.atI (x :: r) 0 = some x := by
  unfold L2.atI ixN
  simp
end PG
namespace PG
open PySem PySem.Spec L2 MN
open PyProof.Rows hiding St kindOf
theorem fmod_pos {p : Int} (hp : 0 < p) (i : Int) : i.fmod p = i % p := Int.fmod_eq_emod_of_nonneg i (by omega)
theorem ringB_of {p : Int} (h : prB p = true) : ringB p = true := by unfold ringB; rw [h, Bool.or_true]
theorem at1 {x y : Val} {r : List Val} : L2.atI (x :: y :: r) 1 = some y := L2.atI_nat (xs := x :: y :: r) (j := 1) rfl
end PG
namespace PG
open PySem PySem.Spec L2 MN
open PyProof.Rows hiding St kindOf
theorem found_step {i : Nat} {f o : Int} (h0 : 0 ≤ f) (h1 : f < 2 ^ (31 * i)) (o0 : 0 ≤ o) (o1 : o < 2147483647) : 0 ≤ f * 2147483647 + o ∧ f * 2147483647 + o < 2 ^ (31 * (i + 1)) := by
  have e : (2 : Int) ^ (31 * (i + 1)) = 2 ^ (31 * i) * 2147483648 := by rw [Nat.mul_succ, Int.pow_add]; rfl
  rw [e]
  omega
theorem at_ints {ns : List Int} {k : Int} (h0 : 0 ≤ k) (h1 : k < (ns.length : Int)) : ∃ c : Int, L2.atI (ns.map Val.int) k = some (.int c) := by
  have hk : k.toNat < ns.length := by omega
  refine ⟨ns[k.toNat], ?_⟩
  have e := L2.atI_nat (xs := ns.map Val.int) (j := k.toNat) (v := .int ns[k.toNat]) (by rw [List.getElem?_map, List.getElem?_eq_getElem hk]; rfl)
  rw [show ((k.toNat : Nat) : Int) = k by omega] at e
  exact e
theorem fmodc {m : Int} (hm : 0 < m) (i : Int) : 0 ≤ i.fmod m ∧ i.fmod m < m := by
  rw [fmod_pos hm]; exact ⟨Int.emod_nonneg _ (by omega), Int.emod_lt_of_pos _ hm⟩
theorem cell_at {n : Nat} {ns : List Int} {k : Int} {st : Store} (h : itemsOf st n = some (ns.map Val.int)) (k0 : 0 ≤ k) (k1 : k ≤ 1000000) :
    ∃ o, PM.law_cell_at [.loc n, .int k] st = .ok (.int o) st ∧ 0 ≤ o ∧ o < 2 ^ 186 := by
  have len : ((List.map Val.int ns).length : Int) = (ns.length : Int) := by rw [List.length_map]
  have loop : ∀ (c x : Int), 0 ≤ x → x < 2147483647 → ∃ μ' st' o, forL (fun _ => True) (aName 5) (sSeq (sSet 3 (mBin modV (mBin addV (mBin mulV (mBin modV (mBin mulV (mVar 3) (mVar 3)) (mC (.int 2147483629))) (mC (.int 69621))) (mVar 5)) (mC (.int 2147483647)))) (sSet 4 (mBin addV (mBin mulV (mVar 4) (mC (.int 2147483647))) (mVar 3)))) (rangeL 0 6) [some (.loc n), some (.int k), some (.int c), some (.int x), some (.int 0), none] st = .nx μ' st' ∧ st' = st ∧ (∃ y t, μ' = [some (.loc n), some (.int k), some (.int c), y, some (.int o), t]) ∧ 0 ≤ o ∧ o < 2 ^ 186 := by
    intro c x x0 x1
    obtain ⟨μ', st', e, rfl, o, f, t, rfl, o0, o1, f0, f1⟩ := forL_inv (g := fun _ => True) (a := aName 5) (body := sSeq (sSet 3 (mBin modV (mBin addV (mBin mulV (mBin modV (mBin mulV (mVar 3) (mVar 3)) (mC (.int 2147483629))) (mC (.int 69621))) (mVar 5)) (mC (.int 2147483647)))) (sSet 4 (mBin addV (mBin mulV (mVar 4) (mC (.int 2147483647))) (mVar 3))))
      (fun i μ s => s = st ∧ ∃ (o f : Int) (t : Option Val), μ = [some (.loc n), some (.int k), some (.int c), some (.int o), some (.int f), t] ∧ 0 ≤ o ∧ o < 2147483647 ∧ 0 ≤ f ∧ f < 2 ^ (31 * i))
      (rangeL 0 6) 0 [some (.loc n), some (.int k), some (.int c), some (.int x), some (.int 0), none] st
      (by
        rintro i u μ s hu ⟨rfl, o, f, t, rfl, o0, o1, f0, f1⟩
        refine ⟨trivial, ?_⟩
        have hi : i < 6 := by have := getL_lt hu; simpa [rangeL] using this
        have eu : u = .int (0 + (i : Int)) := by
          simp only [rangeL, List.getElem?_map] at hu
          rw [List.getElem?_range hi] at hu
          exact (Option.some.inj hu).symm
        subst eu
        have q1 := fmodc (m := 2147483629) (by decide) (o * o)
        have q2 := fmodc (m := 2147483647) (by decide) ((o * o).fmod 2147483629 * 69621 + (0 + (i : Int)))
        refine ⟨_, rfl, [some (.loc n), some (.int k), some (.int c), some (.int (((o * o).fmod 2147483629 * 69621 + (0 + (i : Int))).fmod 2147483647)), some (.int (f * 2147483647 + ((o * o).fmod 2147483629 * 69621 + (0 + (i : Int))).fmod 2147483647)), some (.int (0 + (i : Int)))], s, .inl ?_, rfl, _, _, _, rfl, q2.1, q2.2, ?_⟩
        · simp only [bnd_ok, sbn_ok, thn_nx, ev_bin, k_bin, k_bin2, k_set, ev_C, ev_seq, ev_set, add_ii, var_i, var_s, List.set_cons_zero, List.set_cons_succ, mul_l (i := o) (by omega) (by omega), mod_ii (j := 2147483629) (by decide), mul_r (j := 69621) (by decide) (by decide), mod_ii (j := 2147483647) (by decide), mul_r (j := 2147483647) (by decide) (by decide)]
        · rw [Nat.zero_add] at f1 ⊢
          exact found_step f0 f1 q2.1 q2.2) (fun _ _ _ => trivial)
      ⟨rfl, x, 0, none, rfl, x0, x1, by decide, by decide⟩
    refine ⟨_, _, f, e, rfl, ⟨_, _, rfl⟩, f0, ?_⟩
    have : (rangeL 0 6).length = 6 := rfl
    rw [this] at f1
    exact f1
  have fin : ∀ c : Int, ((decide (k < ((List.map Val.int ns).length : Int)) = false ∧ c = 0) ∨ (decide (k < ((List.map Val.int ns).length : Int)) = true ∧ L2.atI (ns.map Val.int) k = some (.int c))) → ∃ o, PM.law_cell_at [.loc n, .int k] st = .ok (.int o) st ∧ 0 ≤ o ∧ o < 2 ^ 186 := by
    intro c hc
    have q := fmodc (m := 2147483647) (by decide) (c * 48271 + 7919 * k * k + 104729 * k + 11)
    obtain ⟨μ', st', o, e, rfl, ⟨y, t, rfl⟩, o0, o1⟩ := loop c _ q.1 q.2
    refine ⟨o, ?_, o0, o1⟩
    have r6 : rng1 [.int 6] st' = .ok (rangeL 0 6, fun _ => True) st' := rfl
    rcases hc with ⟨h1, rfl⟩ | ⟨h1, h2⟩
    · simp only [PM.law_cell_at, ev_fn, bnd_ok, sbn_ok, thn_nx, fin_rt, ev_bin, k_bin, k_bin2, k_cons, k_cons2, k_ret, k_if_f, k_set, k_for, ev_C, asB_bl, ev_asT, ev_nil, ev_cons, ev_call, ev_seq, ev_next, ev_ret, ev_ifS, ev_set, ev_for, ev_rng1, add_ii, lt_ii, var_i, var_l, var_s, List.map_cons, List.map_nil, List.cons_append, List.nil_append, List.replicate_succ, List.replicate_zero, List.set_cons_zero, List.set_cons_succ, Nat.reduceSub, List.length_cons, List.length_nil, Nat.reduceAdd, len_loc h, h1, mul_r (j := 48271) (by decide) (by decide), mul_l (i := 7919) (by decide) (by decide), mul_r (j := k) (by omega) (by omega), mod_ii (j := 2147483647) (by decide), r6, e]
    · simp only [PM.law_cell_at, ev_fn, bnd_ok, sbn_ok, thn_nx, fin_rt, ev_bin, k_bin, k_bin2, k_cons, k_cons2, k_ret, k_if_t, k_set, k_for, ev_C, asB_bl, ev_asT, ev_nil, ev_cons, ev_call, ev_seq, ev_ret, ev_ifS, ev_set, ev_for, ev_rng1, add_ii, lt_ii, var_i, var_l, var_s, List.map_cons, List.map_nil, List.cons_append, List.nil_append, List.replicate_succ, List.replicate_zero, List.set_cons_zero, List.set_cons_succ, Nat.reduceSub, List.length_cons, List.length_nil, Nat.reduceAdd, len_loc h, h1, ix_loc h h2, mul_r (j := 48271) (by decide) (by decide), mul_l (i := 7919) (by decide) (by decide), mul_r (j := k) (by omega) (by omega), mod_ii (j := 2147483647) (by decide), r6, e]
  by_cases hk : k < (ns.length : Int)
  · obtain ⟨c, hc⟩ := at_ints k0 hk
    exact fin c (.inr ⟨decide_eq_true (by rw [len]; exact hk), hc⟩)
  · exact fin 0 (.inl ⟨decide_eq_false (by rw [len]; exact hk), rfl⟩)
end PG
namespace PG
open PySem PySem.Spec L2 MN
open PyProof.Rows hiding St kindOf
theorem dz_c {j : Int} (h : 0 < j) (h1 : j < 2 ^ 64) : Dz j := by
  refine Dz.of (k := 64) (by omega) ?_ (by decide)
  show j.natAbs < 2 ^ 64
  omega
theorem fdiv_c {m : Int} (hm : 0 < m) (i : Int) : i.fdiv m = i / m := Int.fdiv_eq_ediv_of_nonneg i (by omega)
theorem big_sign {s x : Int} (hs : s = 1 ∨ s = -1) (h0 : 0 ≤ x) (h1 : x < (10 : Int) ^ 40) : Big 134 (s * x) := by
  show (s * x).natAbs < 2 ^ 134
  have e : (10 : Int) ^ 40 = 10000000000000000000000000000000000000000 := by decide
  rw [e] at h1
  rcases hs with rfl | rfl
  · rw [Int.one_mul]; omega
  · rw [Int.neg_one_mul]; omega
theorem number_i {c : Int} (h : 0 ≤ c) (st : Store) : ∃ r, PM.law_number [.int c] st = .ok (.int r) st ∧ Big 134 r := by
  have d7 : Dz 7 := dz_c (by decide) (by decide)
  have d14 : Dz 14 := dz_c (by decide) (by decide)
  have cp : CPow 10 40 := by decide
  have tn : Int.toNat 40 = 40 := rfl
  cases hz : c.fmod 7 == 0 with
  | true =>
    have q := fmodc (m := 2) (by decide) (c.fdiv 7)
    have q2 := fmodc (m := 10 ^ 40) (by decide) (c.fdiv 14)
    refine ⟨(1 - (c.fdiv 7).fmod 2 * 2) * (c.fdiv 14).fmod (10 ^ 40), ?_, big_sign (by omega) q2.1 q2.2⟩
    have nz : ¬ (10 : Int) ^ 40 = 0 := by decide
    simp only [PM.law_number, ev_fn, bnd_ok, sbn_ok, thn_rt, fin_rt, ev_bin, k_bin, k_bin2, k_ret, k_if_t, ev_C, asB_bl, ev_asT, ev_seq, ev_ret, ev_ifS, sub_ii, eq_ii, var_i, List.map_cons, List.map_nil, List.cons_append, List.nil_append, List.replicate_zero, Nat.reduceSub, List.length_cons, List.length_nil, Nat.reduceAdd, mod_ii (j := 7) (by decide), hz, div_ii d7, div_ii d14, mod_ii (j := 2) (by decide), mul_r (j := 2) (by decide) (by decide), pow_ii cp, tn, mod_ii nz, mul_l (i := 1 - (c.fdiv 7).fmod 2 * 2) (by omega) (by omega)]
  | false =>
    have q := fmodc (m := 19) (by decide) (c.fdiv 7)
    refine ⟨(c.fdiv 7).fmod 19 - 9, ?_, Big.small (by decide) (by omega) (by omega)⟩
    simp only [PM.law_number, ev_fn, bnd_ok, sbn_ok, thn_nx, fin_rt, ev_bin, k_bin, k_bin2, k_ret, k_if_f, ev_C, asB_bl, ev_asT, ev_seq, ev_next, ev_ret, ev_ifS, sub_ii, eq_ii, var_i, List.map_cons, List.map_nil, List.cons_append, List.nil_append, List.replicate_zero, Nat.reduceSub, List.length_cons, List.length_nil, Nat.reduceAdd, mod_ii (j := 7) (by decide), hz, div_ii d7, mod_ii (j := 19) (by decide)]
noncomputable def dvP (n : Int) (u : Val) : Bool := match u with
  | .int b => decide (b < n) && (n.fmod b == 0)
  | _ => false
noncomputable def dvs (n : Int) : List Val := (rangeL 2 30).filter (dvP n)
theorem dvs_pr : ∀ k : Fin 998, 2 ≤ k.val → (dvs (k.val : Int)).isEmpty = true → prB (k.val : Int) = true := by decide +kernel
theorem dvs_997 : (dvs 997).isEmpty = true := by decide +kernel
theorem dvs_comp (n : Int) (x : Option Val) (st : Store) : compL (fun _ => True) (aName 0) (tAndM (asT (mBin ltV (mVar 0) (mVar 1))) (asT (mBin eqM (mBin modV (mVar 1) (mVar 0)) (mC (.int 0))))) (mVar 0) (rangeL 2 30) [x, some (.int n)] st [] = .ok (dvs n) st := by
  have := compL_pure (a := aName 0) (c := tAndM (asT (mBin ltV (mVar 0) (mVar 1))) (asT (mBin eqM (mBin modV (mVar 1) (mVar 0)) (mC (.int 0))))) (e := mVar 0) (g := fun _ => True) (st := st) trivial (fun τ => ∃ x, τ = [x, some (.int n)]) (dvP n) id (rangeL 2 30) [x, some (.int n)] [] ⟨x, rfl⟩ ?_
  · rw [this, List.nil_append, List.map_id]; rfl
  · rintro u hu τ ⟨x, rfl⟩
    simp only [rangeL, List.mem_map, List.mem_range] at hu
    obtain ⟨i, hi, rfl⟩ := hu
    have nz : ¬ (2 + (i : Int)) = 0 := by omega
    refine ⟨_, rfl, ⟨_, rfl⟩, ?_, fun _ => rfl⟩
    by_cases hb : 2 + (i : Int) < n
    · have e : decide (2 + (i : Int) < n) = true := decide_eq_true hb
      simp only [bnd_ok, ev_bin, k_bin, k_bin2, k_tand_t, ev_C, asB_bl, ev_asT, ev_tand, lt_ii, eq_ii, var_i, var_s, List.set_cons_zero, e, mod_ii nz, dvP, Bool.true_and]
    · have e : decide (2 + (i : Int) < n) = false := decide_eq_false hb
      simp only [bnd_ok, ev_bin, k_bin, k_bin2, k_tand_f, asB_bl, ev_asT, ev_tand, lt_ii, var_i, var_s, List.set_cons_zero, e, dvP, Bool.false_and]
noncomputable def msr1 (μ : MN.Env) : Nat := match (μ[1]? : Option (Option Val)) with
  | some (some (Val.int n)) => (997 - n).toNat
  | _ => 0
theorem prime_i {c : Int} (h : 0 ≤ c) (st : Store) : ∃ g p, PM.law_prime [.int c] st = .ok (.int p) (st ++ g) ∧ prB p = true := by
  have d2 : Dz 2 := dz_c (by decide) (by decide)
  cases hz : c.fmod 2 == 0 with
  | true =>
    have q := fmodc (m := 6) (by decide) (c.fdiv 2)
    have at6 : ∀ i : Int, 0 ≤ i → i < 6 → ∃ p, L2.atI ([.int 2, .int 3, .int 5, .int 7, .int 11, .int 13] : List Val) i = some (.int p) ∧ prB p = true := by
      intro i i0 i1
      have : i = 0 ∨ i = 1 ∨ i = 2 ∨ i = 3 ∨ i = 4 ∨ i = 5 := by omega
      rcases this with rfl | rfl | rfl | rfl | rfl | rfl
      · exact ⟨2, rfl, by decide⟩
      · exact ⟨3, rfl, by decide⟩
      · exact ⟨5, rfl, by decide⟩
      · exact ⟨7, rfl, by decide⟩
      · exact ⟨11, rfl, by decide⟩
      · exact ⟨13, rfl, by decide⟩
    obtain ⟨p, ep, hp⟩ := at6 _ q.1 q.2
    refine ⟨[.lst [.int 2, .int 3, .int 5, .int 7, .int 11, .int 13]], p, ?_, hp⟩
    simp only [PM.law_prime, ev_fn, bnd_ok, sbn_ok, thn_rt, fin_rt, ev_bin, k_bin, k_bin2, k_cons, k_cons2, k_lst, k_ret, k_if_t, ev_C, asB_bl, ev_asT, ev_nil, ev_cons, ev_lst, ev_seq, ev_ret, ev_ifS, eq_ii, var_i, List.map_cons, List.map_nil, List.cons_append, List.nil_append, List.replicate_succ, List.replicate_zero, Nat.reduceSub, List.length_cons, List.length_nil, Nat.reduceAdd, sizeLine_eq, Nat.reduceLeDiff, ↓reduceIte, mod_ii (j := 2) (by decide), hz, div_ii d2, mod_ii (j := 6) (by decide), ix_loc (itemsOf_new st [.int 2, .int 3, .int 5, .int 7, .int 11, .int 13]) ep]
  | false =>
    have q := fmodc (m := 996) (by decide) (c.fdiv 2)
    have r2 : ∀ st, rng2 [.int 2, .int 32] st = .ok (rangeL 2 30, fun _ => True) st := fun _ => rfl
    have rl : (rangeL 2 30).length = 30 := rfl
    have tst : ∀ (n : Int) (s : Store), asT (mBin neM (mComp 1 [1] (iRange2 (mCons (mC (.int 2)) (mCons (mC (.int 32)) mNil))) (aName 0) (tAndM (asT (mBin ltV (mVar 0) (mVar 1))) (asT (mBin eqM (mBin modV (mVar 1) (mVar 0)) (mC (.int 0))))) (mVar 0)) (mLst mNil)) [some (.int c), some (.int n)] s = .ok (!(dvs n).isEmpty) (s ++ [.lst (dvs n)] ++ [.lst []]) := by
      intro n s
      have hcap : capM 1 [1] [some (Val.int c), some (Val.int n)] = [none, some (.int n)] := rfl
      simp only [bnd_ok, ev_bin, k_bin, k_bin2, k_cons, k_cons2, k_lst, k_new, k_comp, ev_C, asB_bl, ev_asT, ev_nil, ev_cons, ev_lst, ev_comp, ev_rng2, List.length_nil, sizeLine_eq, Nat.reduceLeDiff, ↓reduceIte, r2, rl, hcap, dvs_comp, ne_nil (itemsOf_old (itemsOf_new s (dvs n)) [.lst []]) (itemsOf_new (s ++ [.lst (dvs n)]) [])]
    obtain ⟨μ', st', e, g, rfl, n, rfl, n0, n1, em⟩ := sWhile_inv (t := asT (mBin neM (mComp 1 [1] (iRange2 (mCons (mC (.int 2)) (mCons (mC (.int 32)) mNil))) (aName 0) (tAndM (asT (mBin ltV (mVar 0) (mVar 1))) (asT (mBin eqM (mBin modV (mVar 1) (mVar 0)) (mC (.int 0))))) (mVar 0)) (mLst mNil)))
      (body := sSet 1 (mBin addV (mVar 1) (mC (.int 1))))
      (fun μ s => ∃ g, s = st ++ g ∧ ∃ n : Int, μ = [some (.int c), some (.int n)] ∧ 2 ≤ n ∧ n ≤ 997) (fun μ _ => msr1 μ)
      (fun μ s => ∃ g, s = st ++ g ∧ ∃ n : Int, μ = [some (.int c), some (.int n)] ∧ 2 ≤ n ∧ n ≤ 997 ∧ (dvs n).isEmpty = true)
      (by
        rintro μ s ⟨g, rfl, n, rfl, n0, n1⟩
        have t := tst n (st ++ g)
        cases hd : (dvs n).isEmpty with
        | true =>
          rw [hd] at t
          exact .inl ⟨_, t, g ++ ([.lst (dvs n)] ++ [.lst []]), by simp only [List.append_assoc], n, rfl, n0, n1, hd⟩
        | false =>
          rw [hd] at t
          have n2 : n ≠ 997 := fun z => by rw [z, dvs_997] at hd; cases hd
          refine .inr ⟨_, [some (.int c), some (.int (n + 1))], _, t, .inl (by simp only [bnd_ok, sbn_ok, ev_bin, k_bin, k_bin2, k_set, ev_C, ev_set, add_ii, var_i, var_s, List.set_cons_zero, List.set_cons_succ]; rfl), ⟨g ++ ([.lst (dvs n)] ++ [.lst []]), by simp only [List.append_assoc], n + 1, rfl, by omega, by omega⟩, ?_⟩
          show (997 - (n + 1)).toNat < (997 - n).toNat
          omega)
      [some (.int c), some (.int (2 + (c.fdiv 2).fmod 996))] st ⟨[], by rw [List.append_nil], _, rfl, by omega, by omega⟩
    have hp := dvs_pr ⟨n.toNat, by omega⟩ (by show 2 ≤ n.toNat; omega) (by show (dvs ((n.toNat : Nat) : Int)).isEmpty = true; rw [Int.toNat_of_nonneg (by omega)]; exact em)
    have hp' : prB n = true := by
      have : prB ((n.toNat : Nat) : Int) = true := hp
      rw [Int.toNat_of_nonneg (by omega)] at this; exact this
    refine ⟨g, n, ?_, hp'⟩
    simp only [PM.law_prime, ev_fn, bnd_ok, sbn_ok, thn_nx, fin_rt, ev_bin, k_bin, k_bin2, k_ret, k_if_f, k_set, ev_C, asB_bl, ev_asT, ev_seq, ev_next, ev_ret, ev_ifS, ev_set, add_ii, eq_ii, var_i, var_s, List.map_cons, List.map_nil, List.cons_append, List.nil_append, List.replicate_succ, List.replicate_zero, List.set_cons_zero, List.set_cons_succ, Nat.reduceSub, List.length_cons, List.length_nil, Nat.reduceAdd, mod_ii (j := 2) (by decide), hz, div_ii d2, mod_ii (j := 996) (by decide), e]
theorem ring_i {c : Int} (h : 0 ≤ c) (st : Store) : ∃ g p, PM.law_ring [.int c] st = .ok (.int p) (st ++ g) ∧ (p = 0 ∨ prB p = true) := by
  have d3 : Dz 3 := dz_c (by decide) (by decide)
  cases hz : c.fmod 3 == 0 with
  | true => exact ⟨[], 0, by simp only [PM.law_ring, ev_fn, bnd_ok, sbn_ok, thn_rt, fin_rt, ev_bin, k_bin, k_bin2, k_ret, k_if_t, ev_C, asB_bl, ev_asT, ev_seq, ev_ret, ev_ifS, eq_ii, var_i, List.map_cons, List.map_nil, List.replicate_zero, Nat.reduceSub, List.length_cons, List.length_nil, Nat.reduceAdd, mod_ii (j := 3) (by decide), hz, List.append_nil], .inl rfl⟩
  | false =>
    obtain ⟨g, p, e, hp⟩ := prime_i (c := c.fdiv 3) (by rw [fdiv_c (by decide)]; exact Int.ediv_nonneg h (by decide)) st
    exact ⟨g, p, by simp only [PM.law_ring, ev_fn, bnd_ok, sbn_ok, thn_nx, fin_rt, ev_bin, k_bin, k_bin2, k_cons, k_cons2, k_ret, k_if_f, ev_C, asB_bl, ev_asT, ev_nil, ev_cons, ev_call, ev_seq, ev_next, ev_ret, ev_ifS, eq_ii, var_i, List.map_cons, List.map_nil, List.cons_append, List.nil_append, List.replicate_zero, Nat.reduceSub, List.length_cons, List.length_nil, Nat.reduceAdd, mod_ii (j := 3) (by decide), hz, div_ii d3, e], .inr hp⟩
end PG
namespace PG
open PySem PySem.Spec L2 MN
open PyProof.Rows hiding St kindOf
end PG
namespace PG
open PySem PySem.Spec L2 MN
open PyProof.Rows hiding St kindOf
theorem len_ints (ns : List Int) : (ns.map Val.int).length = ns.length := List.length_map ..
end PG
namespace PG
open PySem PySem.Spec L2 MN
open PyProof.Rows hiding St kindOf
noncomputable def cutI (ns : List Int) (lo hi : Option Int) : List Int := (ns.drop (HT.sIx ns.length 0 lo)).take (HT.sIx ns.length ns.length hi - HT.sIx ns.length 0 lo)
theorem cutL_ints (ns : List Int) (lo hi : Option Int) : cutL (ns.map Val.int) lo hi = (cutI ns lo hi).map Val.int := by
  unfold cutL cutI
  rw [len_ints, List.map_take, List.map_drop]
end PG
namespace PG
open PySem PySem.Spec L2 MN
open PyProof.Rows hiding St kindOf
end PG
namespace PG
open PySem PySem.Spec L2 MN
open PyProof.Rows hiding St kindOf
noncomputable abbrev inB : MB := sAugI iadV (mVar 3) (mBin addV (mVar 4) (mVar 6)) (mBin mulV (mVar 5) (mVar 7))
end PG
namespace PG
open PySem PySem.Spec L2 MN
open PyProof.Rows hiding St kindOf
theorem cutI_take {ns : List Int} {k : Nat} (h : k ≤ ns.length) : cutI ns none (some (k : Int)) = ns.take k := by
  unfold cutI
  rw [HT.sIx_none, HT.sIx_nat, List.drop_zero, show min k ns.length - 0 = k by omega]
theorem cutI_drop {ns : List Int} {k : Nat} (h : k ≤ ns.length) : cutI ns (some (k : Int)) none = ns.drop k := by
  unfold cutI
  rw [HT.sIx_none, HT.sIx_nat, show min k ns.length = k by omega, List.take_of_length_le (by rw [List.length_drop]; omega)]
end PG
namespace SO
open PySem PySem.W PyProof.Rows
noncomputable abbrev g (p : Array Nat) (i : Nat) : Nat := p.getD i 0
theorem g_eq (p : Array Nat) (i : Nat) : g p i = (p[i]?).getD 0 := Array.getD_eq_getD_getElem?
noncomputable def Ok (L : Nat → Nat → Bool) (n : Nat) {α : Type} (P : α → Prop) : KasT α → Prop
  | .ret a => P a
  | .ask i j k => i < n ∧ j < n ∧ Ok L n P (k (L i j))
theorem Ok.bind {L : Nat → Nat → Bool} {n : Nat} {α β : Type} {P : α → Prop} {Q : β → Prop} {f : α → KasT β} (hf : ∀ a, P a → Ok L n Q (f a)) : ∀ {t : KasT α}, Ok L n P t → Ok L n Q (t.bind f)
  | .ret a, h => hf a h
  | .ask _ _ _, h => ⟨h.1, h.2.1, Ok.bind hf h.2.2⟩
theorem Ok.imp {L : Nat → Nat → Bool} {n : Nat} {α : Type} {P Q : α → Prop} (hf : ∀ a, P a → Q a) : ∀ {t : KasT α}, Ok L n P t → Ok L n Q t
  | .ret a, h => hf a h
  | .ask _ _ _, h => ⟨h.1, h.2.1, Ok.imp hf h.2.2⟩
theorem Ok.wp {L : Nat → Nat → Bool} {n : Nat} {α : Type} {P : α → Prop} {cmp : Nat → Nat → (Bool → Shared → Prop) → Shared → Prop} {R : Shared → Prop} {Q : α → Shared → Prop}
    (ha : ∀ i j s (C : Bool → Shared → Prop), i < n → j < n → R s → (∀ s', R s' → C (L i j) s') → cmp i j C s) (hq : ∀ a s, P a → R s → Q a s) : ∀ {t : KasT α} {s : Shared}, Ok L n P t → R s → t.kasWp cmp Q s
  | .ret a, s, h, r => hq a s h r
  | .ask i j k, s, h, r => ha i j s _ h.1 h.2.1 r fun s' r' => Ok.wp ha hq h.2.2 r'
structure Ord (L : Nat → Nat → Bool) (n : Nat) : Prop where
  tr : ∀ i j k, i < n → j < n → k < n → L i j = true → L j k = true → L i k = true
  tot : ∀ i j, i < n → j < n → i ≠ j → L i j = false → L j i = true
  asym : ∀ i j, i < n → j < n → L i j = true → L j i = false
noncomputable def Pm (n : Nat) (p : Array Nat) : Prop := p.Perm (List.toArray (List.range n))
section
variable {n : Nat} {p : Array Nat}
theorem Pm.list (h : Pm n p) : p.toList.Perm (List.range n) := Array.perm_iff_toList_perm.mp h
theorem Pm.size (h : Pm n p) : p.size = n := by
  have := h.list.length_eq
  rw [List.length_range] at this
  exact this
theorem Pm.get (h : Pm n p) {i : Nat} (hi : i < n) : p[i]? = some (g p i) := by
  have hz : i < p.size := by rw [h.size]; exact hi
  rw [g_eq, getElem?_pos p i hz]; rfl
theorem Pm.lt (h : Pm n p) {i : Nat} (hi : i < n) : g p i < n := by
  have hz : i < p.size := by rw [h.size]; exact hi
  have e : g p i = p.toList[i]'hz := by rw [g_eq, getElem?_pos p i hz]; rfl
  have m : g p i ∈ p.toList := by rw [e]; exact List.getElem_mem _
  exact List.mem_range.mp (h.list.mem_iff.mp m)
theorem Pm.inj (h : Pm n p) {i j : Nat} (hi : i < n) (hj : j < n) (e : g p i = g p j) : i = j := by
  have hz : i < p.size := by rw [h.size]; exact hi
  have hz2 : j < p.size := by rw [h.size]; exact hj
  have nd : p.toList.Nodup := h.list.nodup_iff.mpr List.nodup_range
  have e1 : g p i = p.toList[i]'hz := by rw [g_eq, getElem?_pos p i hz]; rfl
  have e2 : g p j = p.toList[j]'hz2 := by rw [g_eq, getElem?_pos p j hz2]; rfl
  rw [e1, e2] at e
  exact (List.getElem_inj nd).mp e
theorem Pm.start (n : Nat) : Pm n (List.toArray (List.range n)) := Array.Perm.refl _
theorem Pm.rev (h : Pm n p) (i j : Nat) : Pm n (kas_rev p i j) := (mirror_perm p i j _).trans h
theorem Pm.bub (h : Pm n p) (i j : Nat) : Pm n (bubble p i j) := (bubble_perm p i j).trans h
theorem g_rev (h : Pm n p) {m i : Nat} (hm : m ≤ n) (hi : i < m) : g (kas_rev p 0 m) i = g p (m - 1 - i) := by
  rw [g_eq, g_eq]
  unfold kas_rev
  rw [getElem?_mirror_all (by rw [h.size]; exact hm), if_pos ⟨Nat.zero_le _, hi⟩, Nat.zero_add]
theorem g_bub (h : Pm n p) {k l i : Nat} (hk : k < n) (hl : l ≤ k) : g (bubble p k (k - l)) i = if i = l then g p k else if l < i ∧ i ≤ k then g p (i - 1) else g p i := by
  have e : k - (k - l) = l := by omega
  rw [g_eq, getElem?_bubble (by rw [h.size]; exact hk) (k - l) (by omega), e]
  split
  · rw [g_eq]
  · split <;> rw [g_eq]
end
section
variable {L : Nat → Nat → Bool} {n : Nat} (O : Ord L n)
include O
noncomputable def Asc (L : Nat → Nat → Bool) (p : Array Nat) (m : Nat) : Prop := ∀ i, i + 1 < m → L (g p i) (g p (i + 1)) = true
noncomputable def Desc (L : Nat → Nat → Bool) (p : Array Nat) (m : Nat) : Prop := ∀ i, i + 1 < m → L (g p (i + 1)) (g p i) = true
theorem other {p : Array Nat} (h : Pm n p) {i j : Nat} (hi : i < n) (hj : j < n) (hn : i ≠ j) (e : L (g p i) (g p j) = false) : L (g p j) (g p i) = true :=
  O.tot _ _ (h.lt hi) (h.lt hj) (fun z => hn (h.inj hi hj z)) e
theorem Asc.far {p : Array Nat} (h : Pm n p) {m : Nat} (hm : m ≤ n) (a : Asc L p m) {i : Nat} : ∀ d : Nat, i + d + 1 < m → L (g p i) (g p (i + d + 1)) = true
  | 0, hd => a i hd
  | d + 1, hd => O.tr _ _ _ (h.lt (by omega)) (h.lt (by omega)) (h.lt (by omega)) (Asc.far h hm a d (by omega)) (a (i + d + 1) hd)
theorem Asc.lt {p : Array Nat} (h : Pm n p) {m : Nat} (hm : m ≤ n) (a : Asc L p m) {i j : Nat} (hij : i < j) (hj : j < m) : L (g p i) (g p j) = true := by
  have := Asc.far O h hm a (i := i) (j - i - 1) (by omega)
  rwa [show i + (j - i - 1) + 1 = j by omega] at this
theorem asc_ok {p : Array Nat} (h : Pm n p) : ∀ (f k : Nat), 1 ≤ k → k + f ≤ n → Asc L p k → Ok L n (fun m => k ≤ m ∧ m ≤ k + f ∧ Asc L p m ∧ (m < k + f → L (g p m) (g p (m - 1)) = true)) (kas_asc p f k)
  | 0, k, _, _, a => ⟨Nat.le_refl _, Nat.le_refl _, a, fun z => absurd z (Nat.lt_irrefl _)⟩
  | f + 1, k, h1, hk, a => by
    refine ⟨h.lt (by omega), h.lt (by omega), ?_⟩
    show Ok L n _ (if L (g p k) (g p (k - 1)) = true then .ret k else kas_asc p f (k + 1))
    by_cases c : L (g p k) (g p (k - 1)) = true
    · rw [if_pos c]
      exact ⟨Nat.le_refl _, by omega, a, fun _ => c⟩
    · rw [if_neg c]
      have c' : L (g p k) (g p (k - 1)) = false := by simpa using c
      have z := other O h (by omega) (by omega) (by omega) c'
      refine Ok.imp (fun m hm => ?_) (asc_ok h f (k + 1) (by omega) (by omega) (fun i hi => ?_))
      · exact ⟨by omega, by omega, hm.2.2.1, fun q => hm.2.2.2 (by omega)⟩
      · by_cases e : i + 1 < k
        · exact a i e
        · have : i = k - 1 := by omega
          subst this
          rw [show k - 1 + 1 = k by omega]; exact z
theorem desc_ok {p : Array Nat} (h : Pm n p) : ∀ (f k : Nat), 1 ≤ k → k + f ≤ n → Desc L p k → Ok L n (fun r => r.1 = p ∧ r.2.2 = 0 ∧ k ≤ r.2.1 ∧ r.2.1 ≤ k + f ∧ Desc L p r.2.1) (kas_desc f p k 0)
  | 0, k, _, _, a => ⟨rfl, rfl, Nat.le_refl _, Nat.le_refl _, a⟩
  | f + 1, k, h1, hk, a => by
    refine ⟨h.lt (by omega), h.lt (by omega), ?_⟩
    show Ok L n _ (if L (g p k) (g p (k - 1)) = true then (if 0 > 0 then kas_desc f (kas_rev p (k - (0 + 1)) k) (k + 1) 0 else kas_desc f p (k + 1) 0) else .ask (g p (k - 1)) (g p k) fun d => if d = true then .ret (p, k, 0) else kas_desc f p (k + 1) (0 + 1))
    by_cases c : L (g p k) (g p (k - 1)) = true
    · rw [if_pos c, if_neg (Nat.lt_irrefl _)]
      refine Ok.imp (fun r hr => ⟨hr.1, hr.2.1, by omega, by omega, hr.2.2.2.2⟩) (desc_ok h f (k + 1) (by omega) (by omega) (fun i hi => ?_))
      by_cases e : i + 1 < k
      · exact a i e
      · have : i = k - 1 := by omega
        subst this
        rw [show k - 1 + 1 = k by omega]; exact c
    · rw [if_neg c]
      have c' : L (g p k) (g p (k - 1)) = false := by simpa using c
      have z := other O h (by omega) (by omega) (by omega) c'
      refine ⟨h.lt (by omega), h.lt (by omega), ?_⟩
      show Ok L n _ (if L (g p (k - 1)) (g p k) = true then .ret (p, k, 0) else kas_desc f p (k + 1) (0 + 1))
      rw [if_pos z]
      exact ⟨rfl, rfl, Nat.le_refl _, Nat.le_add_right _ _, a⟩
noncomputable def Part (L : Nat → Nat → Bool) (n : Nat) (r : Nat × Array Nat) : Prop := 1 ≤ r.1 ∧ r.1 ≤ n ∧ Pm n r.2 ∧ Asc L r.2 r.1
theorem tail_ok {p : Array Nat} (h : Pm n p) {m : Nat} (h1 : 1 ≤ m) (hm : m ≤ n) (a : Desc L p m) : Ok L n (Part L n) (kas_tail3 m n p) := by
  have b : Asc L (kas_rev p 0 m) m := by
    intro i hi
    rw [g_rev h hm (by omega), g_rev h hm hi]
    have := a (m - 1 - (i + 1)) (by omega)
    rwa [show m - 1 - (i + 1) + 1 = m - 1 - i by omega] at this
  refine Ok.bind (fun k hk => ?_) (asc_ok O (h.rev 0 m) (n - m) m h1 (by omega) b)
  exact ⟨by omega, by omega, h.rev 0 m, hk.2.2.1⟩
theorem count_ok {p : Array Nat} (h : Pm n p) (hn : 1 ≤ n) : Ok L n (Part L n) (kas_count n p) := by
  refine Ok.bind (fun k hk => ?_) (asc_ok O h (n - 1) 1 (Nat.le_refl _) (by omega) (fun i hi => absurd hi (by omega)))
  obtain ⟨k1, k2, ka, kl⟩ := hk
  have part : Part L n (k, p) := ⟨k1, by show k ≤ n; omega, h, ka⟩
  by_cases e : (k == n) = true
  · rw [if_pos e]; exact part
  · rw [if_neg e]
    have e' : k ≠ n := fun z => e (by simpa using z)
    by_cases e1 : k > 1
    · rw [if_pos e1]
      refine ⟨h.lt (by omega), h.lt (by omega), ?_⟩
      show Ok L n _ (if L (g p 0) (g p (k - 1)) = true then .ret (k, p) else _)
      rw [if_pos (Asc.lt O h (by omega) ka (by omega) (by omega))]
      exact part
    · rw [if_neg e1]
      have : k = 1 := by omega
      subst this
      have z := kl (by omega)
      refine Ok.bind (fun r hr => ?_) (desc_ok O h (n - (1 + 1)) (1 + 1) (by omega) (by omega) (fun i hi => ?_))
      · obtain ⟨r1, r2, r3⟩ := r
        obtain ⟨q1, q2, q3, q4, q5⟩ := hr
        dsimp only at q1 q2 q3 q4 q5
        subst q1 q2
        show Ok L n _ (if 0 > 0 then _ else kas_tail3 r2 n r1)
        rw [if_neg (Nat.lt_irrefl _)]
        exact tail_ok O h (by omega) (by omega) q5
      · have : i = 0 := by omega
        subst this
        exact z
theorem place_ok {p : Array Nat} (h : Pm n p) {k : Nat} (hk : k < n) (a : Asc L p k) : ∀ (f l r : Nat), l ≤ r → r ≤ k → r - l ≤ f → (∀ i, i < l → L (g p i) (g p k) = true) → (∀ i, r ≤ i → i < k → L (g p k) (g p i) = true) →
    Ok L n (fun m => m ≤ k ∧ (∀ i, i < m → L (g p i) (g p k) = true) ∧ ∀ i, m ≤ i → i < k → L (g p k) (g p i) = true) (kas_place p k f l r)
  | 0, l, r, h1, h2, h3, lo, hi => ⟨by omega, lo, fun i q => hi i (by omega)⟩
  | f + 1, l, r, h1, h2, h3, lo, hi => by
    show Ok L n _ (if l ≥ r then .ret l else .ask (g p k) (g p ((l + r) / 2)) fun c => if c = true then kas_place p k f l ((l + r) / 2) else kas_place p k f ((l + r) / 2 + 1) r)
    by_cases e : l ≥ r
    · rw [if_pos e]
      exact ⟨by omega, lo, fun i q => hi i (by omega)⟩
    · rw [if_neg e]
      obtain ⟨m, hm⟩ : ∃ m, m = (l + r) / 2 := ⟨_, rfl⟩
      rw [← hm]
      have m1 : l ≤ m := by omega
      have m2 : m < r := by omega
      refine ⟨h.lt hk, h.lt (by omega), ?_⟩
      show Ok L n _ (if L (g p k) (g p m) = true then kas_place p k f l m else kas_place p k f (m + 1) r)
      by_cases c : L (g p k) (g p m) = true
      · rw [if_pos c]
        refine place_ok h hk a f l m m1 (by omega) (by omega) lo fun i q1 q2 => ?_
        by_cases q : i = m
        · rw [q]; exact c
        · exact O.tr _ _ _ (h.lt hk) (h.lt (by omega)) (h.lt (by omega)) c (Asc.lt O h (by omega) a (by omega) q2)
      · rw [if_neg c]
        have c' : L (g p k) (g p m) = false := by simpa using c
        have z := other O h hk (by omega) (by omega) c'
        refine place_ok h hk a f (m + 1) r (by omega) h2 (by omega) (fun i q => ?_) hi
        by_cases q1 : i = m
        · rw [q1]; exact z
        · exact O.tr _ _ _ (h.lt (by omega)) (h.lt (by omega)) (h.lt hk) (Asc.lt O h (by omega) a (show i < m by omega) (by omega)) z
theorem bin_ok : ∀ (f : Nat) (p : Array Nat) (k : Nat), Pm n p → k + f = n → Asc L p k → Ok L n (fun q => Pm n q ∧ Asc L q n) (kas_bin f p k)
  | 0, p, k, h, hk, a => ⟨h, by rw [← hk]; exact a⟩
  | f + 1, p, k, h, hk, a => by
    refine Ok.bind (fun l hl => ?_) (place_ok O h (k := k) (by omega) a k 0 k (Nat.zero_le _) (Nat.le_refl _) (by omega) (fun i q => absurd q (Nat.not_lt_zero _)) (fun i q1 q2 => absurd q1 (by omega)))
    obtain ⟨l1, lo, hi⟩ := hl
    refine bin_ok f _ (k + 1) (h.bub _ _) (by omega) fun i hi' => ?_
    rw [g_bub h (by omega) l1, g_bub h (by omega) l1]
    by_cases c1 : i = l
    · rw [if_pos c1, if_neg (by omega), if_pos (by omega)]
      exact hi _ (by omega) (by omega)
    · rw [if_neg c1]
      by_cases c2 : i + 1 = l
      · rw [if_pos c2, if_neg (by omega)]
        exact lo i (by omega)
      · rw [if_neg c2]
        by_cases c3 : l < i
        · rw [if_pos ⟨c3, by omega⟩, if_pos ⟨by omega, by omega⟩]
          have := a (i - 1) (by omega)
          rwa [show i - 1 + 1 = i + 1 - 1 by omega] at this
        · rw [if_neg (by omega), if_neg (by omega)]
          exact a i (by omega)
theorem sort_ok (hn : 1 ≤ n) : Ok L n (fun q => Pm n q ∧ Asc L q n) (kas_sort n) := by
  refine Ok.bind (fun r hr => ?_) (count_ok O (Pm.start n) hn)
  obtain ⟨k, p⟩ := r
  obtain ⟨h1, h2, h3, h4⟩ := hr
  dsimp only at h1 h2 h3 h4
  show Ok L n _ (if k < n then kas_bin (n - max k 1) p (max k 1) else .ret p)
  have e : max k 1 = k := by omega
  rw [e]
  by_cases c : k < n
  · rw [if_pos c]
    exact bin_ok O (n - k) p k h3 (by omega) h4
  · rw [if_neg c]
    have : k = n := by omega
    subst this
    exact ⟨h3, h4⟩
end
end SO
namespace SO
open PySem PySem.W PyProof.Rows
noncomputable def RawD (h : Heap) (d : Addr) (es : Array DictEntry) (ep : Nat) : Prop := ∃ o, h.get? d = some o ∧ o.cls = .type "dict" ∧ o.data = .dict es ep
section
variable {prog : Program} {w : World} {A : Around} {E : Value → Shared → Prop} {s : Shared} {d it : Addr} {es : Array DictEntry} {ep i : Nat}
theorem RawD.ty (x : RawD s.heap d es ep) : s.TypeIs (.ref d) "dict" := by
  obtain ⟨o, ho, hc, _⟩ := x
  exact ⟨o, ho, hc⟩
theorem RawD.lt {h : Heap} (x : RawD h d es ep) : d < h.objs.size := by
  obtain ⟨o, ho, _⟩ := x
  exact Heap.lt_size ho
theorem RawD.to {h h' : Heap} (x : RawD h d es ep) (hk : ∀ o, h.get? d = some o → h'.get? d = some o) : RawD h' d es ep := by
  obtain ⟨o, ho, r⟩ := x
  exact ⟨o, hk o ho, r⟩
theorem raw_iter {Q : Value → Shared → Prop} (hd : (d == sysModules) = false) (x : RawD s.heap d es ep)
    (hQ : Q (.ref s.heap.objs.size) { s with heap := s.heap.push { cls := .type "dict_keyiterator", data := .fields #[.ref d, .int 0 0, .int es.size 0, .int ep 0] } }) : wpAny (model prog w) A (pyIter (.ref d)) Q E s := by
  obtain ⟨o, go, gc, gd⟩ := id x
  have T := x.ty
  refine wpAny_pyIter_slot T PySem.F.slot_dict_iter (wpAny_call_entry PySem.F.slot_dict_iter T PySem.F.entry_dict_iter ?_ (PySem.F.args_dict_iter_1 _))
  unfold Builtin.«dict.__iter__»; refine wpAny_bind ?_
  unfold Builtin.Dict.dictSlotNone; refine wpAny_bind (wpAny_notOrdered_dict T ?_)
  show wpAny _ _ (pure (Value.ref d)) _ _ s; refine wpAny_pure ?_
  show wpAny _ _ (Builtin.Dict.showsAll d >>= _) _ _ s; unfold Builtin.Dict.showsAll
  rw [if_neg (by rw [hd]; exact Bool.false_ne_true)]; refine wpAny_bind (wpAny_pure ?_)
  refine wpAny_bind (wpAny_dictEntries go gd ?_)
  refine wpAny_bind (wpAny_dictEpoch go gd ?_)
  refine wpAny_bind (wpAny_newObj_type (wpAny_pure ⟨_, rfl, "dict_keyiterator", _, ⟨_, Heap.get?_push_size _ rfl, rfl⟩, PySem.F.slot_dict_keyiterator_next.lookup, ?_⟩))
  simpa [rawInt] using hQ
theorem raw_item {Q : Option Value → Shared → Prop} (hit : s.heap.IsKeyIter it d i es.size ep) (x : RawD s.heap d es ep) (hi : i < es.size)
    (hQ : ∀ h', h'.IsKeyIter it d (i + 1) es.size ep → Heap.SameBut it s.heap h' → Q (some es[i].key) { s with heap := h' }) : wpAny (model prog w) A (pyNext (.ref it)) Q E s := by
  obtain ⟨o, ho, hc, hf⟩ := id hit
  obtain ⟨od, go, gc, gd⟩ := id x
  have T := hit.typeIs
  unfold pyNext
  refine wpAny_bind (wpAny_attempt (wpAny_callSpecial?_slot (name := Str.ofString "__next__") T PySem.F.slot_dict_keyiterator_next (wpAny_call_entry PySem.F.slot_dict_keyiterator_next T PySem.F.entry_dict_keyiterator_next ?_ (PySem.F.args_dict_keyiterator_next_1 _))))
  refine wpAny_bind (wpAny_pure ?_); refine wpAny_bind ?_; refine wpAny_bind ?_
  first | refine wpAny_bind (wpAny_typeNameOfWhole_keyiter T (wpAny_pure ?_)) | refine wpAny_bind (wpAny_typeNameOf_keyiter T (wpAny_pure ?_))
  refine wpAny_bind (wpAny_fieldsOf ho hf ?_)
  have no : Builtin.Dict_items.ownsTuple "dict_keyiterator" = false := by decide
  simp only [no, Bool.false_eq_true, if_false]
  show wpAny _ _ (if (Value.ref d == Value.none) = true then _ else _) _ _ s; rw [if_neg (show ¬ ((Value.ref d == Value.none) = true) from Bool.false_ne_true)]
  refine wpAny_bind (wpAny_pure ?_); refine wpAny_bind (wpAny_dictEntries go gd ?_)
  rw [if_neg (by simp)]; refine wpAny_bind (wpAny_pure ?_)
  refine wpAny_bind (wpAny_dictEpoch go gd ?_); rw [if_neg (by simp)]; refine wpAny_pure ?_
  simp only [show ¬ ((i : Int) < 0) from by omega, if_false, Int.toNat_natCast, Array.getElem?_eq_getElem hi]; refine wpAny_bind ?_
  first | refine wpAny_bind (wpAny_typeNameOfWhole_keyiter T (wpAny_pure ?_)) | refine wpAny_bind (wpAny_typeNameOf_keyiter T (wpAny_pure ?_))
  refine wpAny_bind (wpAny_isOneOf_keyiter T ?_)
  show wpAny _ _ (setField (.ref it) 1 (rawInt ((i : Int) + 1)) >>= _) _ _ s; refine wpAny_bind (wpAny_setField ho hf (by simp) ?_)
  have go2 : (s.heap.update it (Obj.mapFields (·.setIfInBounds 1 (rawInt ((i : Int) + 1))))).IsKeyIter it d (i + 1) es.size ep :=
    ⟨_, Heap.get?_update_self _ ho (Obj.isFreed_of_fields (Obj.data_mapFields hf _)), (Obj.cls_mapFields ..).trans hc, by rw [Obj.data_mapFields hf]; simp [rawInt]⟩
  refine wpAny_bind (wpAny_holding ?_)
  refine wpAny_bind (wpAny_isOneOf_keyiter (s := { s with heap := s.heap.update it (Obj.mapFields (·.setIfInBounds 1 (rawInt ((i : Int) + 1)))) }) go2.typeIs ?_)
  show wpAny _ _ (pure es[i].key) _ _ _; exact wpAny_pure (wpAny_pure ⟨_, rfl, wpAny_pure (hQ _ go2 (Heap.SameBut.update ..))⟩)
theorem raw_end {Q : Option Value → Shared → Prop} (hh : A.handled = none) (hit : s.heap.IsKeyIter it d i es.size ep) (x : RawD s.heap d es ep) (hi : es.size ≤ i)
    (hQ : ∀ h', Heap.ExtBut it s.heap h' → Q none { s with heap := h' }) : wpAny (model prog w) A (pyNext (.ref it)) Q E s := by
  obtain ⟨o, ho, hc, hf⟩ := id hit
  obtain ⟨od, go, gc, gd⟩ := id x
  have T := hit.typeIs
  unfold pyNext
  refine wpAny_bind (wpAny_attempt (wpAny_callSpecial?_slot (name := Str.ofString "__next__") T PySem.F.slot_dict_keyiterator_next (wpAny_call_entry PySem.F.slot_dict_keyiterator_next T PySem.F.entry_dict_keyiterator_next ?_ (PySem.F.args_dict_keyiterator_next_1 _))))
  refine wpAny_bind (wpAny_pure ?_); refine wpAny_bind ?_; refine wpAny_bind ?_
  first | refine wpAny_bind (wpAny_typeNameOfWhole_keyiter T (wpAny_pure ?_)) | refine wpAny_bind (wpAny_typeNameOf_keyiter T (wpAny_pure ?_))
  refine wpAny_bind (wpAny_fieldsOf ho hf ?_)
  have no : Builtin.Dict_items.ownsTuple "dict_keyiterator" = false := by decide
  simp only [no, Bool.false_eq_true, if_false]
  show wpAny _ _ (if (Value.ref d == Value.none) = true then _ else _) _ _ s; rw [if_neg (show ¬ ((Value.ref d == Value.none) = true) from Bool.false_ne_true)]
  refine wpAny_bind (wpAny_pure ?_); refine wpAny_bind (wpAny_dictEntries go gd ?_)
  rw [if_neg (by simp)]; refine wpAny_bind (wpAny_pure ?_)
  refine wpAny_bind (wpAny_dictEpoch go gd ?_); rw [if_neg (by simp)]; refine wpAny_pure ?_
  simp only [show ¬ ((i : Int) < 0) from by omega, if_false, Int.toNat_natCast, Array.getElem?_eq_none hi]; refine wpAny_bind ?_
  first | refine wpAny_bind (wpAny_typeNameOfWhole_keyiter T (wpAny_pure ?_)) | refine wpAny_bind (wpAny_typeNameOf_keyiter T (wpAny_pure ?_))
  show wpAny _ _ (setField (.ref it) 0 .none >>= _) _ _ s; refine wpAny_bind (wpAny_setField ho hf (by simp) ?_)
  show wpAny _ _ (newExc (.type "StopIteration") [] >>= _) _ _ _; refine wpAny_bind ?_; simp only [newExc, newTuple]
  refine wpAny_bind (wpAny_newObj_type ?_ (by size_fits)); refine wpAny_bind (m := firstArgMember _ _) (wpAny_of_eq (a := Value.none) (by first | rfl | (simp only [firstArgMember]; rfl)) ?_)
  refine wpAny_newObj_type ?_ (by size_fits); simp only [raiseNew]
  refine wpAny_bind (wpAny_handled ?_); rw [show A.in1.handled = none from hh]; refine wpAny_bind (wpAny_pure (wpAny_throw ?_))
  refine wpAny_bind (wpAny_isInstance (T := "StopIteration") (b := true) ⟨_, Heap.get?_push_size _ rfl, rfl⟩ isSubtype_stop ?_)
  exact wpAny_pure (hQ _ (((Heap.SameBut.update ..).extBut.push _).push _))
noncomputable def KeyAt (es : Array DictEntry) (i : Nat) (v : Value) : Prop := ∃ h : i < es.size, v = es[i].key
theorem raw_walks (hh : A.handled = none) (I : Addr) (hne : d ≠ I) : Walks prog w A I [I, d] [I] es.size (KeyAt es) (fun i h => h.IsKeyIter I d i es.size ep ∧ RawD h d es ep) where
  sub := fun b hb => by
    rw [List.mem_singleton] at hb; rw [hb]; exact List.mem_cons_self
  frame := fun _ _ _ st hk => ⟨st.1.at fun o e => hk I List.mem_cons_self o e, st.2.to fun o e => hk d (List.mem_cons_of_mem _ List.mem_cons_self) o e⟩
  item := fun i s Q E hi st hQ => raw_item st.1 st.2 hi fun h' k1 k2 =>
    hQ _ h' s.toks ⟨hi, rfl⟩ ⟨k1, st.2.to fun o e => k2.extBut d o hne e⟩ fun b o hb e => k2.extBut b o (fun z => hb (by rw [z]; exact List.mem_singleton_self _)) e
  done := fun s Q E st hQ => raw_end hh st.1 st.2 (Nat.le_refl _) fun h' k => hQ h' s.toks fun b o hb e => k b o (fun z => hb (by rw [z]; exact List.mem_singleton_self _)) e
  self := fun _ _ _ _ st hQ => wpAny_pyIter_keyiter st.1 hQ
theorem raw_src (lo : (d == sysModules) = false) : KdlSrc prog w "dict" d d es.size (KeyAt es) (fun h => RawD h d es ep) where
  type := fun _ x => x.ty
  there := fun _ x => ⟨x.lt, x.lt⟩
  keep := fun _ _ x hk => x.to fun o e => hk d (.inl rfl) o e
  notList := by decide
  notTuple := by decide
  hint := fun _ _ _ _ x q => kdl_hint_dict x.ty q
  iter := fun _ _ hh x => ⟨_, _, (fun _ _ q => raw_iter lo x q), raw_walks hh _ (Nat.ne_of_lt x.lt), ⟨⟨_, Heap.get?_push_size _ rfl, rfl, rfl⟩, x.to fun o e => Heap.get?_push_of_some _ e⟩⟩
end
end SO
namespace SO
open PySem PySem.W PyProof.Rows
section
variable {prog : Program} {w : World} {A : Around} {E : Value → Shared → Prop} {s : Shared} {d it : Addr} {es : Array DictEntry} {ep i : Nat}
theorem keys_of {acc : Array Value} (h : ItemsOf (KeyAt es) acc es.size) : acc.toList = es.toList.map (·.key) := by
  apply List.ext_getElem
  · rw [Array.length_toList, List.length_map, Array.length_toList]; exact h.1
  · intro i h1 h2
    have hi : i < acc.size := by rw [Array.length_toList] at h1; exact h1
    obtain ⟨hz, e⟩ := h.2 i acc[i] (Array.getElem?_eq_getElem hi)
    rw [Array.getElem_toList, List.getElem_map, Array.getElem_toList, e]
theorem collect_raw {Q : List Value → Shared → Prop} (hh : A.handled = none) (lo : (d == sysModules) = false) (x : RawD s.heap d es ep) (hn : es.size ≤ sizeLine)
    (h : ∀ h' tk, s.heap.objs.size < h'.objs.size → (∀ b o, s.heap.get? b = some o → h'.get? b = some o) → Q (es.toList.map (·.key)) { s with heap := h', toks := tk }) : wpAny (model prog w) A (collect (.ref d)) Q E s := by
  unfold collect
  refine wpAny_bind (wpAny_runValue (codeAny_mono (R := fun r s' => r = .ok (.ret (.ref s.heap.objs.size)) ∧ wpAny (model prog w) A (do
    let u ← load s.heap.objs.size
    match u.data with
    | .seq xs _ => pure xs.toList
    | _ => unsupported "internal:collect") Q E s') ?_ fun r s' q => ?_))
  · refine codeAny_builtin entry_proto_collect' ?_
    show wpAny _ _ (do again (.builtin "list.__iadd__" ⟨[← newList [], .ref d], []⟩)) _ _ s
    refine wpAny_bind (wpAny_newList (wpAny_pure ⟨Code.quiet_builtin _ (by decide +kernel), codeAny_builtin entry_list_iadd' ?_⟩) (Nat.zero_le _))
    have ne := Nat.ne_of_gt x.lt
    refine kdl_extend (R := fun r s' => r = .ok (.ret (.ref s.heap.objs.size)) ∧ wpAny (model prog w) A (do
      let u ← load s.heap.objs.size
      match u.data with
      | .seq xs _ => pure xs.toList
      | _ => unsupported "internal:collect") Q E s') (s := { s with heap := s.heap.push (seqObj "list" #[] 0) }) (raw_src (es := es) (ep := ep) lo) hh (x.to fun o e => Heap.get?_push_of_some _ e) s.heap.objs.size ne ne (.ref s.heap.objs.size) 0 (Heap.get?_push_size _ rfl) (fun h' tk acc c hk hS hacc => ⟨rfl, ?_⟩) hn
    refine wpAny_bind (wpAny_load hS ?_)
    show wpAny _ _ (pure acc.toList) Q E _
    rw [keys_of hacc]
    exact wpAny_pure (h h' tk (Heap.lt_size hS) fun b o e => hk b o (Nat.ne_of_lt (Heap.lt_size e)) (Heap.get?_push_of_some _ e))
  · obtain ⟨rfl, q⟩ := q
    exact q
end
noncomputable def lexLt : List Int → List Int → Bool
  | _, [] => false
  | [], _ :: _ => true
  | x :: xs, y :: ys => if x = y then lexLt xs ys else decide (x < y)
theorem lexLt_irr : ∀ xs : List Int, lexLt xs xs = false
  | [] => rfl
  | x :: xs => by
    show (if x = x then lexLt xs xs else _) = false
    rw [if_pos rfl]; exact lexLt_irr xs
theorem lexLt_tr : ∀ {xs ys zs : List Int}, lexLt xs ys = true → lexLt ys zs = true → lexLt xs zs = true := by
  intro xs
  induction xs with
  | nil =>
    intro ys zs h1 h2
    cases zs with
    | nil => cases ys <;> cases h2
    | cons z zs => rfl
  | cons x xs ih =>
    intro ys zs h1 h2
    cases ys with
    | nil => cases h1
    | cons y ys =>
      cases zs with
      | nil => cases h2
      | cons z zs =>
        replace h1 : (if x = y then lexLt xs ys else decide (x < y)) = true := h1
        replace h2 : (if y = z then lexLt ys zs else decide (y < z)) = true := h2
        show (if x = z then lexLt xs zs else decide (x < z)) = true
        by_cases e1 : x = y
        · rw [if_pos e1] at h1
          subst e1
          by_cases e2 : x = z
          · rw [if_pos e2] at h2 ⊢
            exact ih h1 h2
          · rw [if_neg e2] at h2 ⊢
            exact h2
        · rw [if_neg e1] at h1
          have h1' := of_decide_eq_true h1
          by_cases e2 : y = z
          · subst e2
            rw [if_neg e1]
            exact h1
          · rw [if_neg e2] at h2
            have h2' := of_decide_eq_true h2
            rw [if_neg (by omega)]
            exact decide_eq_true (by omega)
theorem lexLt_tot : ∀ {xs ys : List Int}, xs ≠ ys → lexLt xs ys = false → lexLt ys xs = true := by
  intro xs
  induction xs with
  | nil =>
    intro ys h1 h2
    cases ys with
    | nil => exact absurd rfl h1
    | cons y ys => cases h2
  | cons x xs ih =>
    intro ys h1 h2
    cases ys with
    | nil => rfl
    | cons y ys =>
      replace h2 : (if x = y then lexLt xs ys else decide (x < y)) = false := h2
      show (if y = x then lexLt ys xs else decide (y < x)) = true
      by_cases e : x = y
      · subst e
        rw [if_pos rfl] at h2 ⊢
        exact ih (fun z => h1 (by rw [z])) h2
      · rw [if_neg e] at h2
        rw [if_neg (fun z => e z.symm)]
        have := of_decide_eq_false h2
        exact decide_eq_true (by omega)
theorem lexLt_asym {xs ys : List Int} (h : lexLt xs ys = true) : lexLt ys xs = false := by
  cases z : lexLt ys xs with
  | false => rfl
  | true =>
    have := lexLt_tr h z
    rw [lexLt_irr] at this
    cases this
section
variable {prog : Program} {w : World} {A : Around} {E : Value → Shared → Prop} {s : Shared}
theorem lex_ok {fin : Bool} {Q : Bool → Shared → Prop} : ∀ {us vs : List Value} {xs ys : List Int} (i : Nat), IntsAre us xs → IntsAre vs ys → fin = decide (xs.length < ys.length) → Q (lexLt xs ys) s →
    KatLex prog w A true fin Q (us.zip vs) i s := by
  intro us vs xs ys i h1
  induction h1 generalizing vs ys i with
  | nil =>
    intro h2 hf h
    refine kat_nil ?_
    cases h2 with
    | nil => rw [hf]; exact h
    | cons n t r => rw [hf]; exact h
  | cons n t r ih =>
    intro h2 hf h
    cases h2 with
    | nil =>
      refine kat_nil ?_
      rw [hf]; exact h
    | @cons m u vs' ys' r2 =>
      refine kat_cons (wpAny_eqBool_int ?_)
      rename_i us' xs'
      replace h : Q (if n = m then lexLt xs' ys' else decide (n < m)) s := h
      by_cases e : n = m
      · subst e
        rw [beq_self_eq_true]
        refine kat_yes (ih (i + 1) r2 ?_ ?_)
        · rw [hf]
          simp only [List.length_cons, Nat.add_lt_add_iff_right]
        · rw [if_pos rfl] at h; exact h
      · rw [beq_eq_false_iff_ne.mpr e]
        rw [if_neg e] at h
        refine kat_no ?_
        by_cases hi : i = 0
        · subst hi
          exact oneLt_int h
        · rw [show (true && i == 0) = false by rw [Bool.true_and]; exact beq_eq_false_iff_ne.mpr hi]
          exact kat_one _ _ (lt_int h)
noncomputable def TupOf (h : Heap) (v : Value) (xs : List Int) : Prop := xs ≠ [] ∧ ∃ a o its n, v = .ref a ∧ h.get? a = some o ∧ o.cls = .type "tuple" ∧ o.data = .seq its n ∧ IntsAre its.toList xs
theorem TupOf.to {h h' : Heap} {v : Value} {xs : List Int} (t : TupOf h v xs) (hk : ∀ b o, h.get? b = some o → o.cls = .type "tuple" → h'.get? b = some o) : TupOf h' v xs := by
  obtain ⟨ne, a, o, its, n, e, ho, hc, r⟩ := t
  exact ⟨ne, a, o, its, n, e, hk a o ho hc, hc, r⟩
theorem lt_ok {Q : Bool → Shared → Prop} {x y : Value} {xs ys : List Int} (h1 : TupOf s.heap x xs) (h2 : TupOf s.heap y ys) (h : Q (lexLt xs ys) s) : wpAny (model prog w) A (keyLt' (tuples' true) x y) Q E s := by
  obtain ⟨_, a, o, its, n, rfl, ho, hc, hd, hi⟩ := h1
  obtain ⟨_, b, o2, its2, n2, rfl, ho2, hc2, hd2, hi2⟩ := h2
  refine kat_lt ho hd ho2 hd2 (lex_ok 0 hi hi2 ?_ h)
  rw [← hi.length, ← hi2.length, Array.length_toList, Array.length_toList]
inductive TupsOf (h : Heap) : List Value → List (List Int) → Prop
  | nil : TupsOf h [] []
  | cons {v : Value} {x : List Int} {vs : List Value} {xs : List (List Int)} : TupOf h v x → TupsOf h vs xs → TupsOf h (v :: vs) (x :: xs)
theorem TupsOf.to {h h' : Heap} {vs : List Value} {xs : List (List Int)} (t : TupsOf h vs xs) (hk : ∀ b o, h.get? b = some o → o.cls = .type "tuple" → h'.get? b = some o) : TupsOf h' vs xs := by
  induction t with
  | nil => exact .nil
  | cons a _ ih => exact .cons (a.to hk) ih
theorem TupsOf.length {h : Heap} {vs : List Value} {xs : List (List Int)} (t : TupsOf h vs xs) : vs.length = xs.length := by
  induction t with
  | nil => rfl
  | cons _ _ ih => rw [List.length_cons, List.length_cons, ih]
theorem TupsOf.at_ {h : Heap} {vs : List Value} {xs : List (List Int)} (t : TupsOf h vs xs) : ∀ i, i < vs.length → TupOf h (vs.getD i .none) (xs.getD i []) := by
  induction t with
  | nil => intro i hi; cases hi
  | cons a _ ih =>
    intro i hi
    cases i with
    | zero => exact a
    | succ i => exact ih i (Nat.lt_of_succ_lt_succ hi)
theorem TupsOf.append {h : Heap} {vs vs2 : List Value} {xs xs2 : List (List Int)} (t : TupsOf h vs xs) (t2 : TupsOf h vs2 xs2) : TupsOf h (vs ++ vs2) (xs ++ xs2) := by
  induction t with
  | nil => exact t2
  | cons a _ ih => exact .cons a ih
theorem TupsOf.rev {h : Heap} {vs : List Value} {xs : List (List Int)} (t : TupsOf h vs xs) : TupsOf h vs.reverse xs.reverse := by
  induction t with
  | nil => exact .nil
  | cons a _ ih =>
    rw [List.reverse_cons, List.reverse_cons]
    exact ih.append (.cons a .nil)
theorem TupsOf.kat {h : Heap} {vs : List Value} {xs : List (List Int)} (t : TupsOf h vs xs) : ∃ fs, KatTups h vs fs ∧ fs.length = vs.length ∧ ∀ v ∈ fs, ∃ n u, v = .int n u := by
  induction t with
  | nil => exact ⟨[], .nil, rfl, fun v m => by cases m⟩
  | cons a _ ih =>
    obtain ⟨fs, k, l, al⟩ := ih
    obtain ⟨ne, a, o, its, n, rfl, ho, hc, hd, hi⟩ := a
    obtain ⟨its⟩ := its
    cases hi with
    | nil => exact absurd rfl ne
    | cons m u r =>
      refine ⟨_, KatTups.cons ho hc hd rfl k, by rw [List.length_cons, List.length_cons, l], fun v mv => ?_⟩
      rcases List.mem_cons.mp mv with rfl | mv
      · exact ⟨_, _, rfl⟩
      · exact al v mv
theorem kind_ok {vs : List Value} {xs : List (List Int)} {Q : SortKind → Shared → Prop} (t : TupsOf s.heap vs xs) (h0 : 0 < vs.length) (h : Q (tuples' true) s) : wpAny (model prog w) A (keyKind' vs.toArray) Q E s := by
  obtain ⟨fs, k, l, al⟩ := t.kat
  refine kat_kind (T := .type "int") k (by rw [l]; exact h0) (fun v m => ?_) (by decide) h
  obtain ⟨n, u, rfl⟩ := al v m
  exact Looks.of_pure rfl
end
end SO
namespace SO
open PySem PySem.W PyProof.Rows
noncomputable def Falls (xs : List (List Int)) : Prop := xs.Pairwise fun a b => lexLt b a = true
section
variable {vs : List Value} {xs : List (List Int)}
theorem gd_at {α : Type} {l : List α} {i : Nat} (d : α) (h : i < l.length) : l.getD i d = l[i] := by
  rw [List.getD_eq_getElem?_getD, List.getElem?_eq_getElem h]; rfl
theorem zip_rev {α β : Type} : ∀ {vs : List α} {xs : List β}, vs.length = xs.length → vs.reverse.zip xs.reverse = (vs.zip xs).reverse
  | [], [], _ => rfl
  | v :: vs, x :: xs, h => by
    have h' : vs.length = xs.length := Nat.succ.inj h
    rw [List.reverse_cons, List.reverse_cons, List.zip_cons_cons, List.reverse_cons, List.zip_append (by rw [List.length_reverse, List.length_reverse, h']), zip_rev h']
    rfl
noncomputable def ordL (xs : List (List Int)) (i j : Nat) : Bool := lexLt (xs.getD i []) (xs.getD j [])
theorem ord_of (nd : xs.Nodup) : Ord (ordL xs) xs.length where
  tr := fun _ _ _ _ _ _ h1 h2 => lexLt_tr h1 h2
  tot := fun i j hi hj ne h => lexLt_tot (fun e => ne (by
    rw [gd_at _ hi, gd_at _ hj] at e
    exact (List.getElem_inj nd).mp e)) h
  asym := fun _ _ _ _ h => lexLt_asym h
theorem zip_range : ∀ {vs : List Value} {xs : List (List Int)}, vs.length = xs.length → (List.range vs.length).map (fun i => (vs.getD i Value.none, xs.getD i [])) = vs.zip xs := by
  intro vs xs hl
  apply List.ext_getElem
  · rw [List.length_map, List.length_range, List.length_zip, ← hl, Nat.min_self]
  · intro i h1 h2
    rw [List.length_map, List.length_range] at h1
    rw [List.getElem_map, List.getElem_range, List.getElem_zip, gd_at _ h1, gd_at _ (hl ▸ h1)]
theorem out_of {p : Array Nat} (hl : vs.length = xs.length) (h : Pm xs.length p) (a : Asc (ordL xs) p xs.length) (nd : xs.Nodup) :
    ∃ zs : List (Value × List Int), zs.Perm (vs.zip xs) ∧ Falls (zs.map (·.2)) ∧ (p.toList.map fun i => vs.getD i Value.none).reverse = zs.map (·.1) := by
  refine ⟨(p.toList.map fun i => (vs.getD i Value.none, xs.getD i [])).reverse, ?_, ?_, ?_⟩
  · refine (List.reverse_perm _).trans ?_
    rw [← zip_range hl]
    refine List.Perm.map _ ?_
    rw [hl]; exact h.list
  · unfold Falls
    rw [List.map_reverse, List.pairwise_reverse, List.map_map]
    rw [List.pairwise_iff_getElem]
    intro i j hi hj hij
    rw [List.length_map, Array.length_toList, h.size] at hi hj
    rw [List.getElem_map, List.getElem_map]
    have := Asc.lt (ord_of nd) h (Nat.le_refl _) a hij hj
    have e1 : g p i = p.toList[i]'(by rw [Array.length_toList, h.size]; exact hi) := by
      have := h.get hi
      rw [← Array.getElem?_toList, List.getElem?_eq_getElem (by rw [Array.length_toList, h.size]; exact hi)] at this
      exact (Option.some.inj this).symm
    have e2 : g p j = p.toList[j]'(by rw [Array.length_toList, h.size]; exact hj) := by
      have := h.get hj
      rw [← Array.getElem?_toList, List.getElem?_eq_getElem (by rw [Array.length_toList, h.size]; exact hj)] at this
      exact (Option.some.inj this).symm
    rw [← e1, ← e2]
    exact this
  · rw [List.map_reverse, List.map_map]; rfl
end
section
variable {prog : Program} {w : World} {A : Around} {E : Value → Shared → Prop} {s : Shared} {vs : List Value} {xs : List (List Int)}
theorem sort_rev {a : Addr} {n : Nat} {P : PySem.Fin → Shared → Prop} (ho : s.heap.get? a = some (seqObj "list" vs.toArray n)) (t : TupsOf s.heap vs xs) (nd : xs.Nodup) (h64 : vs.length < 64)
    (h : ∀ zs : List (Value × List Int), zs.Perm (vs.zip xs) → Falls (zs.map (·.2)) → P (.done (.ret .none)) { s with heap := sortedHeap s.heap a vs (zs.map (·.1)).toArray }) :
    wpAny (model prog w) A (Builtin.«list.sort» ⟨[.ref a], [(Str.ofString "reverse", .bool true)]⟩) P E s := by
  rw [list_sort_rev]
  have ha : a < s.heap.objs.size := Heap.lt_size ho
  have small : vs.toArray.size ≤ sizeLine := by rw [List.size_toArray, sizeLine_eq]; omega
  obtain ⟨h1, e1⟩ : ∃ h1, h1 = s.heap.update a (Obj.mapSeq fun _ => (#[] : Array Value)) := ⟨_, rfl⟩
  obtain ⟨c1, ho1⟩ : ∃ c, h1.get? a = some (seqObj "list" #[] c) := ⟨_, by rw [e1]; exact get?_update_seq ho fun _ => #[]⟩
  obtain ⟨h6, e6⟩ : ∃ h6, h6 = (h1.push (seqObj "tuple" vs.toArray 0)).push (seqObj "list" #[] 0) := ⟨_, rfl⟩
  have ho6 : h6.get? a = some (seqObj "list" #[] c1) := by rw [e6]; exact Heap.get?_push_of_some _ (Heap.get?_push_of_some _ ho1)
  have t6 : TupsOf h6 vs xs := t.to fun b o hb hc => by
    rw [e6, e1]
    refine Heap.get?_push_of_some _ (Heap.get?_push_of_some _ ?_)
    have ne : a ≠ b := fun z => by
      rw [← z, ho] at hb
      cases hb
      exact absurd (Value.type.inj hc) (by decide)
    exact (Heap.get?_update_other _ _ ne).trans hb
  refine wpAny_bind (listItems_at ho rfl (wpAny_bind (listUpdate_at ho rfl ?_ small (Nat.zero_le _))))
  rw [← e1]
  refine wpAny_bind (seqEpoch_at ho1 rfl (wpAny_bind (wpAny_newTuple ?_ (by show vs.length ≤ _; rw [sizeLine_eq]; omega))))
  refine wpAny_bind (wpAny_newList ?_ (Nat.zero_le _)); refine wpAny_holding ?_
  show wpAny (model prog w) A _ P E { s with heap := (h1.push (seqObj "tuple" vs.toArray 0)).push (seqObj "list" #[] 0) }
  rw [← e6]
  have ends : ∀ zs : List (Value × List Int), zs.Perm (vs.zip xs) → Falls (zs.map (·.2)) → P (.done (.ret .none)) { s with heap := h6.update a (Obj.mapSeq fun _ => (zs.map (·.1)).toArray) } := by
    intro zs z1 z2
    have := h zs z1 z2
    unfold sortedHeap at this
    rw [← e1, ← e6] at this
    exact this
  dsimp only
  rw [if_pos rfl]
  refine wpAny_bind (wpAny_rule ?_)
  by_cases h2 : vs.toArray.size < 2
  · rw [if_pos h2, if_pos h2]
    refine wpAny_bind (wpAny_pure ?_); rw [StateT.run_pure]; refine wpAny_bind (wpAny_pure ?_)
    dsimp only
    have hz : (vs.zip xs).length < 2 := by rw [List.length_zip, ← t.length, Nat.min_self]; rw [List.size_toArray] at h2; exact h2
    have out : (((vs.toArray.zip vs.toArray).reverse.map (·.2)).reverse) = ((vs.zip xs).map (·.1)).toArray := by
      rw [Array.map_reverse, Array.reverse_reverse]
      apply Array.toList_inj.mp
      rw [Array.toList_map, Array.toList_zip]
      show List.map _ (vs.zip vs) = List.map _ (vs.zip xs)
      rw [List.map_snd_zip (Nat.le_refl _), List.map_fst_zip (Nat.le_of_eq t.length)]
    refine wpAny_bind (seqEpoch_at ho6 rfl (wpAny_bind (listUpdate_at ho6 rfl ?_ (Nat.zero_le _) ?_)))
    · show wpAny _ _ _ _ _ { s with heap := h6.update a (Obj.mapSeq fun _ => (((vs.toArray.zip vs.toArray).reverse.map (·.2)).reverse)) }
      rw [out]
      simp only [bne_self_eq_false, Bool.false_eq_true, if_false]
      refine wpAny_pure (ends _ (List.Perm.refl _) ?_)
      unfold Falls
      match (vs.zip xs), hz with
      | [], _ => exact .nil
      | [_], _ => exact List.pairwise_singleton _ _
    · show (((vs.toArray.zip vs.toArray).reverse.map (·.2)).reverse).size ≤ _
      rw [out, List.size_toArray, List.length_map, sizeLine_eq]; omega
  · rw [if_neg h2, if_neg h2]
    have l2 : 2 ≤ vs.length := by rw [List.size_toArray] at h2; omega
    obtain ⟨rs, er⟩ : ∃ rs, rs = vs.reverse := ⟨_, rfl⟩
    obtain ⟨ks, ek⟩ : ∃ ks, ks = xs.reverse := ⟨_, rfl⟩
    have tr6 : TupsOf h6 rs ks := by rw [er, ek]; exact t6.rev
    have lr : rs.length = vs.length := by rw [er, List.length_reverse]
    have lk : rs.length = ks.length := tr6.length
    have ndk : ks.Nodup := by rw [ek]; exact (List.reverse_perm xs).nodup_iff.mpr nd
    refine wpAny_bind (kind_ok t6 (by omega) ?_)
    have pr : (vs.toArray.zip vs.toArray).reverse = rs.toArray.zip rs.toArray := by
      have := kat_pairs true (ks := vs) (vs := vs) rfl
      rw [if_pos rfl] at this
      rw [this, er]; rfl
    rw [pr]
    refine wpAny_bind (wpAny_mono (kat_run (Q := fun st' s' => ∃ p : Array Nat, arrOf st' = p.map (kas_item (rs.toArray.zip rs.toArray)) ∧ failedOf st' = none ∧ Pm ks.length p ∧ Asc (ordL ks) p ks.length ∧ s' = { s with heap := h6 })
      (G := fun p s' => Pm ks.length p ∧ Asc (ordL ks) p ks.length ∧ s' = { s with heap := h6 }) rfl (by omega) (by omega) (fun p st' s' _ a2 a3 a4 => ⟨p, a2, a3, a4⟩) ?_) ?_ fun _ _ e => e)
    · rw [lk]
      refine Ok.wp (R := fun s' => s' = { s with heap := h6 }) (fun i j s' C hi hj hs hC => ?_) (fun p s' hp hs => ⟨hp.1, hp.2, hs⟩) (sort_ok (ord_of ndk) (by omega)) rfl
      subst hs
      exact lt_ok (tr6.at_ i (by omega)) (tr6.at_ j (by omega)) (hC _ rfl)
    · rintro ⟨⟨⟩, st'⟩ s' ⟨p, har, hf, hp, ha', rfl⟩
      dsimp only
      obtain ⟨zs, z1, z2, z3⟩ := out_of lk hp ha' ndk
      have out : ((arrOf st').map (·.2)).reverse = (zs.map (·.1)).toArray := by
        rw [kat_snds rfl har]
        apply Array.toList_inj.mp
        rw [Array.toList_reverse]
        exact z3
      have lz : zs.length < 64 := by
        have := z1.length_eq
        rw [List.length_zip, ← lk, Nat.min_self] at this
        omega
      have zp : zs.Perm (vs.zip xs) := by
        refine z1.trans ?_
        rw [er, ek, zip_rev t.length]
        exact List.reverse_perm _
      refine wpAny_bind (seqEpoch_at ho6 rfl (wpAny_bind (listUpdate_at ho6 rfl ?_ (Nat.zero_le _) ?_)))
      · rw [if_pos rfl, out, hf]
        simp only [bne_self_eq_false, Bool.false_eq_true, if_false]
        exact wpAny_pure (ends zs zp z2)
      · rw [if_pos rfl, out, List.size_toArray, List.length_map, sizeLine_eq]; omega
theorem sorted_raw {d : Addr} {es : Array DictEntry} {ep : Nat} {Q : Value → Shared → Prop} (hh : A.handled = none) (lo : (d == sysModules) = false) (x : RawD s.heap d es ep) (t : TupsOf s.heap (es.toList.map (·.key)) xs) (nd : xs.Nodup) (h64 : es.size < 64)
    (h : ∀ (h' : Heap) (tk : Nat) (l : Addr) (c : Nat) (zs : List (Value × List Int)), (∀ b o, s.heap.get? b = some o → h'.get? b = some o) → s.heap.objs.size ≤ l → zs.Perm ((es.toList.map (·.key)).zip xs) → Falls (zs.map (·.2)) →
      h'.get? l = some (seqObj "list" (zs.map (·.1)).toArray c) → Q (.ref l) { s with heap := h', toks := tk }) :
    wpAny (model prog w) A (call (.builtin "sorted") [.ref d] [(Str.ofString "reverse", .bool true)]) Q E s := by
  refine call_function_entry_kw kind_sorted plain_sorted entry_sorted (args_sorted_rev _ _) ?_
  unfold Builtin.«sorted»; refine wpAny_bind (m := checkCount "sorted" 1 1 _) (wpAny_pure ?_)
  have hn : es.size ≤ sizeLine := by rw [sizeLine_eq]; omega
  obtain ⟨vs, ev⟩ : ∃ vs, vs = es.toList.map (·.key) := ⟨_, rfl⟩
  have lv : vs.length = es.size := by rw [ev, List.length_map, Array.length_toList]
  refine wpAny_bind (collect_raw hh lo x hn fun h1 tk k0 k1 => ?_)
  rw [← ev] at t h ⊢
  refine wpAny_bind (wpAny_newList ?_ (by show vs.length ≤ _; omega))
  have gl : (h1.push (seqObj "list" vs.toArray 0)).get? h1.objs.size = some (seqObj "list" vs.toArray 0) := Heap.get?_push_size _ rfl
  show wpAny _ _ _ _ _ { s with heap := h1.push (seqObj "list" vs.toArray 0), toks := tk }
  refine wpAny_bind (wpAny_holding (wpAny_call_entry_kw slot_list_sort ⟨_, gl, rfl⟩ entry_list_sort (sort_rev gl (t.to fun b o e _ => Heap.get?_push_of_some _ (k1 b o e)) nd (by omega) fun zs z1 z2 => ⟨_, rfl, ?_⟩) (args_list_sort_rev _ _)))
  obtain ⟨c, gc⟩ : ∃ c, (sortedHeap (h1.push (seqObj "list" vs.toArray 0)) h1.objs.size vs (zs.map (·.1)).toArray).get? h1.objs.size = some (seqObj "list" (zs.map (·.1)).toArray c) :=
    ⟨_, by unfold sortedHeap; exact get?_update_seq (Heap.get?_push_of_some _ (Heap.get?_push_of_some _ (get?_update_seq gl fun _ => #[]))) fun _ => (zs.map (·.1)).toArray⟩
  refine wpAny_pure ⟨_, rfl, h _ tk h1.objs.size c zs (fun b o e => ?_) ?_ z1 z2 gc⟩
  · have e1 := k1 b o e
    have ne : h1.objs.size ≠ b := Nat.ne_of_gt (Heap.lt_size e1)
    unfold sortedHeap
    refine (Heap.get?_update_other _ _ ne).trans (Heap.get?_push_of_some _ (Heap.get?_push_of_some _ ((Heap.get?_update_other _ _ ne).trans (Heap.get?_push_of_some _ e1))))
  · exact Nat.le_of_lt k0
end
end SO
namespace L2
open PySem PySem.Spec PyProof.Rows
noncomputable def CallKR (X : Cx) (f : Value) (ks : List Str) (r : List V → List V → Hp → VK → Prop) : Prop :=
  ∀ (pins : List (Addr × Obj)) (s : Shared) (σ : St) (H : Hp) (xs zs : List V) (us ws : List Value) (Q : VK), Inv X pins σ H s → Vals xs us → Vals zs ws → r xs zs H Q →
    wpAny (model X.prog X.w) X.A (call f us (ks.zip ws)) (EP X pins σ Q) X.xe s
noncomputable def tCK (r : List V → List V → Hp → VK → Prop) (t tk : TA) : TE := fun σ H Q => t σ H fun vs H1 => tk σ H1 fun zs H2 => r vs zs H2 Q
section
variable {X : Cx} {id : String} {ks : List Str} {r : List V → List V → Hp → VK → Prop} {x : Str} {p pos : Pos} {e : Expr} {es : List Expr} {kws : List Keyword} {t tk : TA}
theorem pe_callBK (hc : CallKR X (.builtin id) ks r) (hg : Gl X x) (hm : X.mg x = none) (hv : bootBuiltins x = some (.builtin id)) (ha : PA X (e :: es) t) (hkw : PK X kws tk)
    (hks : (backToKw pos (keywordEach kws X.env)).filterMap (·.1) = ks := by rfl) (hn : x ≠ "__name__" := by decide) (hdb : (x == ("__debug__" : Str)) = false := by decide)
    (he : backTo pos (starEach (e :: es) X.env) = (false, eval e X.env) :: backTo pos (starEach es X.env) := by rfl) (hpl : (backTo pos (starEach (e :: es) X.env)).any (·.1) = false := by rfl)
    (hall : (backToKw pos (keywordEach kws X.env)).all (·.1.isSome) = true := by rfl) (hno : (backToKw pos (keywordEach kws X.env)).any (·.1.isNone) = false := by rfl) : PE X (.Call (.Name x p) (e :: es) kws pos) (tCK r t tk) := by
  intro pins s σ H Q I h
  refine wpAny_Call_Name_kw (ld_blt I hg hm hv ?_ hn hdb)
  refine callWith_kw (thn (ha pos pins s σ H _ I h) fun us s1 q1 => ?_) he hpl hall hno
  obtain ⟨vs, H1, I1, r1, q1⟩ := q1
  refine thn (hkw pos pins s1 σ H1 _ I1 q1) fun ws s2 q2 => ?_
  obtain ⟨zs, H2, I2, r2, q2⟩ := q2
  rw [hks]
  exact hc pins s2 σ H2 vs zs us ws Q I2 r1 r2 q2
end
noncomputable def iK (k : List Int) : List Key := k.map Sum.inl
theorem iK_V (k : List Int) : (iK k).map kV = k.map V.int := by
  unfold iK
  rw [List.map_map]
  rfl
theorem iK_inj {a b : List Int} (h : iK a = iK b) : a = b := by
  induction a generalizing b with
  | nil => cases b with
    | nil => rfl
    | cons => cases h
  | cons x a ih => cases b with
    | nil => cases h
    | cons y b =>
      injection h with h1 h2
      injection h1 with h1
      rw [h1, ih h2]
noncomputable def KeyV (H : Hp) (v : V) (k : List Int) : Prop := ∃ a, v = .ref a ∧ H a = some (.tup (k.map V.int))
noncomputable def rSortD : List V → List V → Hp → VK → Prop := fun xs zs H Q => ∃ (d : Addr) (kvs : List (List Key × V)) (ks : List (List Int)), xs = [.ref d] ∧ zs = [.bl true] ∧ H d = some (.dT kvs) ∧ kvs.map (·.1) = ks.map iK ∧ ks.length < 64 ∧ (∀ k ∈ ks, k ≠ []) ∧
  ∀ (l : Addr) (vs : List V) (outs : List (List Int)), H l = none → outs.Perm ks → SO.Falls outs → Paired (KeyV H) vs outs → Q (.ref l) (upd H l (.lst vs))
theorem ints_are {xs : List Int} {us : List Value} (h : Vals (xs.map V.int) us) : IntsAre us xs := by
  induction xs generalizing us with
  | nil => cases h; exact .nil
  | cons x xs ih =>
    cases h with
    | cons a b =>
      obtain ⟨t, rfl⟩ := a
      exact .cons x t (ih b)
section
variable {X : Cx}
theorem callK_sortD (hc : X.calm = true) : CallKR X (.builtin "sorted") ["reverse"] rSortD := by
  intro pins s σ H xs zs us ws Q I rx rz h
  obtain ⟨d, kvs, ks, rfl, rfl, hd, hk, h64, hne, q⟩ := h
  obtain ⟨u, rfl, r1⟩ := vals1 rx
  obtain ⟨z, rfl, r2⟩ := vals1 rz
  cases r1
  cases r2
  obtain ⟨_, lo, xs, pr, o, es, ep, h1, h2, h3, h4, h5⟩ := (show ObjOk X.prog X.w H s.heap d (.dT kvs) from I.hok d _ hd)
  -- the keys' values and what they hold
  have key : ∀ {kvs : List (List Key × V)} {xs : List (List Key × Addr × Value)} {ks : List (List Int)}, KT H kvs xs → kvs.map (·.1) = ks.map iK → (∀ k ∈ ks, k ≠ []) →
      SO.TupsOf s.heap (xs.map fun x => Value.ref x.2.1) ks ∧ xs.map (·.1) = ks.map iK ∧ ∀ z ∈ (xs.map fun x => Value.ref x.2.1).zip ks, ∃ a, z.1 = .ref a ∧ H a = some (.tup (z.2.map V.int)) := by
    intro kvs xs ks pr
    induction pr generalizing ks with
    | nil =>
      intro e _
      cases ks with
      | nil => exact ⟨.nil, rfl, fun z m => by cases m⟩
      | cons => cases e
    | @cons p x ps ys a _ ih =>
      intro e ne
      cases ks with
      | nil => cases e
      | cons k ks =>
        injection e with e1 e2
        replace e1 : p.1 = iK k := e1
        obtain ⟨i1, i2, i3⟩ := ih e2 fun k m => ne k (List.mem_cons_of_mem _ m)
        have ht : H x.2.1 = some (.tup (k.map V.int)) := by rw [← iK_V, ← e1]; exact a.2.1
        obtain ⟨_, its, rv, o, g1, g2, n, g3⟩ := (show ObjOk X.prog X.w H s.heap x.2.1 (.tup (k.map V.int)) from I.hok _ _ ht)
        refine ⟨.cons ⟨ne k List.mem_cons_self, x.2.1, o, its.toArray, n, rfl, g1, g2, g3, ints_are rv⟩ i1, ?_, fun z m => ?_⟩
        · rw [List.map_cons, List.map_cons, i2, ← a.1, e1]
        · rcases List.mem_cons.mp m with m | m
          · rw [m]; exact ⟨_, rfl, ht⟩
          · exact i3 z m
  obtain ⟨t, ek, hz⟩ := key pr hk hne
  have nd : ks.Nodup := by
    rw [ek] at h5
    exact List.Pairwise.of_map iK (fun a b z e => z (by rw [e])) h5
  have ev : es.toList.map (·.key) = xs.map fun x => Value.ref x.2.1 := by rw [h4, List.map_map]; rfl
  have lv : es.size = ks.length := by
    have := congrArg List.length h4
    rw [Array.length_toList, List.length_map] at this
    have l2 := t.length
    rw [List.length_map] at l2
    omega
  have x : SO.RawD s.heap d es ep := ⟨o, h1, h2.1, h3⟩
  refine SO.sorted_raw (I.ok.hd hc) lo x (by rw [ev]; exact t) nd (by omega) fun h' tk l c zs kp hl z1 z2 g => ?_
  rw [ev] at z1
  have all : ∀ z ∈ zs, ∃ a, z.1 = .ref a ∧ H a = some (.tup (z.2.map V.int)) := fun z m => hz z (z1.mem_iff.mp m)
  have mk : ∀ {zs : List (Value × List Int)}, (∀ z ∈ zs, ∃ a, z.1 = .ref a ∧ H a = some (.tup (z.2.map V.int))) → ∃ vs, Vals vs (zs.map (·.1)) ∧ Paired (KeyV H) vs (zs.map (·.2)) := by
    intro zs
    induction zs with
    | nil => intro _; exact ⟨[], .nil, .nil⟩
    | cons z zs ih =>
      intro al
      obtain ⟨vs, v1, v2⟩ := ih fun y m => al y (List.mem_cons_of_mem _ m)
      obtain ⟨a, e1, e2⟩ := al z List.mem_cons_self
      exact ⟨.ref a :: vs, .cons e1 v1, .cons ⟨a, rfl, e2⟩ v2⟩
  obtain ⟨vs, v1, v2⟩ := mk all
  have op : (zs.map (·.2)).Perm ks := by
    have := z1.map (·.2)
    rwa [List.map_snd_zip (Nat.le_of_eq t.length.symm)] at this
  have lz : vs.length ≤ sizeLine := by
    have e1 := v1.length
    have e2 := op.length_eq
    rw [List.length_map] at e1 e2
    rw [sizeLine_eq]; omega
  exact ⟨.ref l, _, I.laid (t' := tk) kp hl (show ObjOk X.prog X.w _ h' _ (.lst vs) from ⟨lz, _, c, v1, g⟩), rfl, q l vs _ (I.hok.fresh hl) op z2 v2⟩
end
end L2
namespace SO
open PySem PySem.W PyProof.Rows
section
variable {prog : Program} {w : World} {A : Around} {E : Value → Shared → Prop} {s : Shared}
end
end SO
namespace SO
open PySem PySem.W PyProof.Rows
section
variable {prog : Program} {w : World} {A : Around} {E : Value → Shared → Prop} {I l S : Addr} {us : List Value} {ns : List Int} {d : Value} {R : Result → Shared → Prop}
end
end SO
namespace MN
open PySem PySem.Spec L2
open PyProof.Rows hiding St kindOf
noncomputable def intK : List Key → Option (List Int)
  | [] => some []
  | .inl i :: r => (intK r).map (i :: ·)
  | .inr _ :: _ => none
noncomputable def intKs : List (List Key) → Option (List (List Int))
  | [] => some []
  | k :: r => match intK k, intKs r with
    | some a, some b => some (a :: b)
    | _, _ => none
theorem intK_iK : ∀ {k : List Key} {a : List Int}, intK k = some a → k = iK a := by
  intro k
  induction k with
  | nil => intro a h; cases h; rfl
  | cons x r ih =>
    intro a h
    cases x with
    | inl i =>
      replace h : (intK r).map (i :: ·) = some a := h
      cases z : intK r with
      | none => rw [z] at h; cases h
      | some b =>
        rw [z] at h; cases h
        rw [ih z]; rfl
    | inr x => cases h
theorem intKs_iK : ∀ {l : List (List Key)} {ks : List (List Int)}, intKs l = some ks → l = ks.map iK := by
  intro l
  induction l with
  | nil => intro ks h; cases h; rfl
  | cons k r ih =>
    intro ks h
    unfold intKs at h
    cases z1 : intK k with
    | none => rw [z1] at h; cases h
    | some a =>
      cases z2 : intKs r with
      | none => rw [z1, z2] at h; cases h
      | some b =>
        rw [z1, z2] at h; cases h
        rw [intK_iK z1, ih z2]; rfl
theorem intK_of (a : List Int) : intK (iK a) = some a := by
  induction a with
  | nil => rfl
  | cons x a ih => show (intK (iK a)).map (x :: ·) = _; rw [ih]; rfl
theorem intKs_of (ks : List (List Int)) : intKs (ks.map iK) = some ks := by
  induction ks with
  | nil => rfl
  | cons k ks ih => rw [List.map_cons]; unfold intKs; rw [intK_of, ih]
noncomputable def geK (a b : List Int) : Bool := !(SO.lexLt a b)
noncomputable def srt (ks : List (List Int)) : List (List Int) := ks.mergeSort geK
theorem srt_perm (ks : List (List Int)) : (srt ks).Perm ks := List.mergeSort_perm ks geK
theorem srt_falls {ks : List (List Int)} (nd : ks.Nodup) : SO.Falls (srt ks) := by
  have h1 : (srt ks).Pairwise fun a b => geK a b = true := by
    refine List.pairwise_mergeSort (fun a b c h1 h2 => ?_) (fun a b => ?_) ks
    · unfold geK at h1 h2 ⊢
      rw [Bool.not_eq_true'] at h1 h2 ⊢
      by_cases e1 : a = b
      · rw [e1]; exact h2
      · by_cases e2 : b = c
        · rw [← e2]; exact h1
        · exact SO.lexLt_asym (SO.lexLt_tr (SO.lexLt_tot e2 h2) (SO.lexLt_tot e1 h1))
    · unfold geK
      cases z : SO.lexLt a b with
      | false => rfl
      | true => rw [SO.lexLt_asym z]; rfl
  have h2 : (srt ks).Nodup := (srt_perm ks).nodup_iff.mpr nd
  refine List.Pairwise.imp (fun {a b} h => ?_) (h1.and h2)
  have z : SO.lexLt a b = false := by
    have := h.1
    unfold geK at this
    rwa [Bool.not_eq_true'] at this
  exact SO.lexLt_tot h.2 z
theorem falls_nodup {ks : List (List Int)} (h : SO.Falls ks) : ks.Nodup := List.Pairwise.imp (fun {a b} h e => by rw [e, SO.lexLt_irr] at h; cases h) h
theorem falls_eq {a b : List (List Int)} (p : a.Perm b) (fa : SO.Falls a) (fb : SO.Falls b) : a = b :=
  List.Perm.eq_of_pairwise (fun x y _ _ h1 h2 => by rw [SO.lexLt_asym h1] at h2; cases h2) fa fb p
noncomputable def tupI (k : List Int) : Val := .tup (k.map .int)
noncomputable def srtD (d : Val) (st : Store) : Res Val := match d with
  | .loc n => match st[n]? with
    | some (.dT kvs) => match intKs (kvs.map (·.1)) with
      | some ks => if ks.length < 64 ∧ ks.all (fun k => !k.isEmpty) = true then .ok (.loc st.length) (st ++ [.lst ((srt ks).map tupI)]) else .bad
      | none => .bad
    | _ => .bad
  | _ => .bad
noncomputable def mSortD (m : ME) : ME := fun μ st => (m μ st).bind srtD
theorem srtD_ok {n : Nat} {st : Store} {kvs : List (List Key × Val)} {ks : List (List Int)} (h1 : st[n]? = some (.dT kvs)) (h2 : kvs.map (·.1) = ks.map iK) (h3 : ks.length < 64) (h4 : ∀ k ∈ ks, k ≠ []) :
    srtD (.loc n) st = .ok (.loc st.length) (st ++ [.lst ((srt ks).map tupI)]) := by
  unfold srtD
  dsimp only
  rw [h1]
  dsimp only
  rw [h2, intKs_of]
  dsimp only
  rw [if_pos ⟨h3, List.all_eq_true.mpr fun k m => by
    cases k with
    | nil => exact absurd rfl (h4 _ m)
    | cons => rfl⟩]
theorem keyVs_rl {K : PySem.W.Frag} {ρ : List Addr} {H : Hp} {vs : List V} {ks : List (List Int)} (p : Paired (KeyV H) vs ks) : Rls K ρ H (ks.map tupI) vs := by
  induction p with
  | nil => exact Rls.nil
  | cons a _ ih =>
    obtain ⟨b, rfl, hb⟩ := a
    exact Rls.cons (Rl.mkTup hb (Rls.ints _)) ih
section
variable {X : Cx} {E : XK} {x : Str} {p pos cp kp : Pos} {e : Expr} {md : ME} {j : Nat}
theorem me_sortD (hc : X.calm = true) (hg : Gl X x) (hm : X.mg x = none) (hv : bootBuiltins x = some (.builtin "sorted")) (ha : PE X e (tE X E md)) (hn : x ≠ "__name__" := by decide) (hdb : (x == ("__debug__" : Str)) = false := by decide)
    (he : starEach [e] X.env = (false, eval e X.env) :: starEach [] X.env := by rfl) : PE X (.Call (.Name x p) [e] [⟨some "reverse", .Constant (.bool true) j cp, kp⟩] pos) (tE X E (mSortD md)) := by
  refine PE.imp (pe_callBK (callK_sortD hc) hg hm hv (pa_cons ha pa_nil he) (pk_cons pe_bl pk_nil) (by rfl) hn hdb (by rw [he]; rfl) (by rw [he]; rfl) (by rfl) (by rfl)) ?_
  rintro σ H Q ⟨μ, ρ, st, rs, sr, h⟩
  refine go μ ρ st rs sr h fun d st1 ρ1 H1 v e1 sr1 r1 h1 => ?_
  show rSortD [v] [.bl true] H1 Q
  cases d with
  | loc n =>
    obtain ⟨a, rfl, ha⟩ := r1.loc_
    unfold srtD at h1
    dsimp only at h1
    cases hn : st1[n]? with
    | none => rw [hn] at h1; exact h1.elim
    | some c =>
      rw [hn] at h1
      cases c with
      | dT kvs =>
        obtain ⟨kvs', hd, pr⟩ := sr1.cell n _ a hn ha
        dsimp only at h1
        cases hk : intKs (kvs.map (·.1)) with
        | none => rw [hk] at h1; exact h1.elim
        | some ks =>
          rw [hk] at h1
          dsimp only at h1
          by_cases hz : ks.length < 64 ∧ ks.all (fun k => !k.isEmpty) = true
          · rw [if_pos hz] at h1
            refine ⟨a, kvs', ks, rfl, rfl, hd, by rw [← pr.1]; exact intKs_iK hk, hz.1, fun k m z => ?_, fun l vs outs hl op fo pv => ?_⟩
            · have := List.all_eq_true.mp hz.2 k m
              rw [z] at this; cases this
            · have nd : ks.Nodup := op.nodup_iff.mp (falls_nodup fo)
              have eo : outs = srt ks := falls_eq (op.trans (srt_perm ks).symm) fo (srt_falls nd)
              rw [eo] at pv
              obtain ⟨k1, k2, k3⟩ := new_lst sr1 (keyVs_rl pv) hl
              exact h1 _ _ _ k1 k2 k3
          · rw [if_neg hz] at h1; exact h1.elim
      | _ => exact h1.elim
  | _ => exact h1.elim
end
noncomputable def intVs : List Val → Option (List Int)
  | [] => some []
  | .int i :: r => (intVs r).map (i :: ·)
  | _ :: _ => none
theorem intVs_of (a : List Int) : intVs (a.map Val.int) = some a := by
  induction a with
  | nil => rfl
  | cons x a ih => show (intVs (a.map Val.int)).map (x :: ·) = _; rw [ih]; rfl
section
variable {X : Cx} {E : XK}
end
section
variable {X : Cx} {E : XK}
variable {x : Str} {p pos kp : Pos} {e ed : Expr} {m md : ME}
end
end MN
namespace PM
open PySem PySem.Spec L2 MN
open PyProof.Rows hiding St
end PM
namespace PM
open PySem PySem.Spec L2 MN
open PyProof.Rows hiding St
noncomputable def add_to : FN := fnM 3 3 (sDPutM (mVar 0) (mVar 1) (mBin addV (mDGet2 (mVar 0) (mVar 1) (mC (.int 0))) (mVar 2)))
noncomputable def law_settled : FN := fnM 2 2 (sSeq (sIf (asT (mBin eqM (mVar 0) (mC (.int 0)))) (sRet (mVar 1)) sNext) (sRet (mBin modV (mVar 1) (mVar 0))))
noncomputable def law_exponents : FN := fnM 2 7 (sSeq (sSet 2 (mLst mNil)) (sSeq (sSet 3 (mVar 0)) (sSeq (sSet 4 (mC (.int 4))) (sSeq (sIf (asT (mBin eqM (mBin modV (mVar 0) (mC (.int 3))) (mC (.int 0)))) (sSeq (sSet 3 (mBin fdivV (mVar 0) (mC (.int 3)))) (sSet 4 (mC (.int 100)))) sNext) (sSeq (sFor (iRange1 (mCons (mVar 1) mNil)) (aName 5) (sSeq (sSet 6 (mBin modV (mVar 3) (mVar 4))) (sSeq (sSet 3 (mBin fdivV (mVar 3) (mVar 4))) (sSeq (sIf (tAndM (asT (mBin eqM (mVar 4) (mC (.int 4)))) (asT (mBin eqM (mBin modV (mBin fdivV (mVar 0) (mC (.int 256))) (mC (.int 8))) (mVar 5)))) (sSet 6 (mBin modV (mBin fdivV (mVar 0) (mC (.int 2048))) (mC (.int 100)))) sNext) (sExpr (mMtL appendF (mVar 2) (mCons (mVar 6) mNil))))))) (sRet (mCall tupF (mCons (mVar 2) mNil))))))))
noncomputable def law_odd_v2 : FN := fnM 2 6 (sSeq (sSet 2 (mCall tupF (mCons (mBin mulV (mLst (mCons (mC (.int 1)) mNil)) (mVar 1)) mNil))) (sSeq (sSet 3 (mLst (mCons (mC .non) (mCons (mTup (mCons (mVar 2) (mCons (mC (.bl true)) mNil))) (mCons (mTup (mCons (mVar 2) (mCons (mC .non) mNil))) (mCons (mTup (mCons (mVar 2) mNil)) (mCons (mTup (mCons (mVar 2) (mCons (mC (.int 1)) (mCons (mC (.int 1)) mNil)))) (mCons (mLst (mCons (mVar 2) (mCons (mC (.int 1)) mNil))) (mCons (mTup (mCons (mCall lstF (mCons (mVar 2) mNil)) (mCons (mC (.int 1)) mNil))) (mCons (mTup (mCons (mBin addV (mVar 2) (mTup (mCons (mC (.int 0)) mNil))) (mCons (mC (.int 1)) mNil))) mNil)))))))))) (sSeq (sSet 4 (mBin ixV (mLst (mCons (mNeg (mC (.int 1))) (mCons (mC (.int 100)) (mCons (mC (.bl true)) (mCons (mC .non) (mCons (mC (.str "1")) (mCons (mBin powV (mC (.int 10)) (mC (.int 9))) (mCons (mNeg (mBin powV (mC (.int 10)) (mC (.int 9)))) (mCons (mC (.bl false)) mNil))))))))) (mBin modV (mBin fdivV (mVar 0) (mC (.int 22))) (mC (.int 8))))) (sSeq (sSet 5 (mBin modV (mBin fdivV (mVar 0) (mC (.int 176))) (mVar 1))) (sSeq (sSet 3 (mBin addV (mBin addV (mVar 3) (mLst (mCons (mTup (mCons (mSl (mVar 2) (oSome (mC (.int 1))) oNone) (mCons (mC (.int 1)) mNil))) (mCons (mTup (mCons (mC (.str "x")) (mCons (mC (.int 1)) mNil))) mNil)))) (mBin mulV (mLst (mCons (mTup (mCons (mBin addV (mBin addV (mSl (mVar 2) oNone (oSome (mVar 5))) (mTup (mCons (mVar 4) mNil))) (mSl (mVar 2) (oSome (mBin addV (mVar 5) (mC (.int 1)))) oNone)) (mCons (mC (.int 1)) mNil))) mNil)) (mC (.int 12))))) (sRet (mBin ixV (mVar 3) (mBin modV (mVar 0) (mC (.int 22))))))))))
noncomputable def is_whole_within : FN := fnM 3 3 (sRet (mAnd (mCall PM.is_whole (mCons (mVar 0) mNil)) (mChain leV leV (mVar 1) (mVar 0) (mVar 2))))
noncomputable def settled_terms : FN := fnM 2 3 (sSeq (sSet 2 (mComp 2 [0] (iSeq (mVar 1)) (aTup [(aName 0), (aName 1)]) tTrueM (mTup (mCons (mVar 0) (mCons (mCall PM.rest_in_ring (mCons (mVar 2) (mCons (mVar 1) mNil))) mNil))))) (sRet (mComp 1 [] (iSeq (mVar 2)) (aName 0) (asT (mBin neM (mBin ixV (mVar 0) (mC (.int 1))) (mC (.int 0)))) (mVar 0))))
noncomputable def law_gathered : FN := fnM 2 6 (sSeq (sSet 2 mDNewT) (sSeq (sFor (iSeq (mVar 1)) (aName 3) (sDPutM (mVar 2) (mBin ixV (mVar 3) (mC (.int 0))) (mBin addV (mDGet2 (mVar 2) (mBin ixV (mVar 3) (mC (.int 0))) (mC (.int 0))) (mBin ixV (mVar 3) (mC (.int 1)))))) (sSeq (sSet 4 (mLst mNil)) (sSeq (sFor (iSeq (mSortD (mVar 2))) (aName 5) (sIf (asT (mBin neM (mCall PM.law_settled (mCons (mVar 0) (mCons (mBin dgetV (mVar 2) (mVar 5)) mNil))) (mC (.int 0)))) (sExpr (mMtL appendF (mVar 4) (mCons (mTup (mCons (mVar 5) (mCons (mCall PM.law_settled (mCons (mVar 0) (mCons (mBin dgetV (mVar 2) (mVar 5)) mNil))) mNil))) mNil))) sNext)) (sRet (mVar 4))))))
noncomputable def law_same : FN := fnM 2 3 (sSeq (sIf (tOrM (tNotM (asT (mIs "list" (mVar 0)))) (asT (mBin neM (mCall lenF (mCons (mVar 0) mNil)) (mCall lenF (mCons (mVar 1) mNil))))) (sRet (mC (.bl false))) sNext) (sSeq (sFor (iRange1 (mCons (mCall lenF (mCons (mVar 1) mNil)) mNil)) (aName 2) (sSeq (sIf (tOrM (tNotM (asT (mIs "tuple" (mBin ixV (mVar 0) (mVar 2))))) (tOrM (asT (mBin neM (mCall lenF (mCons (mBin ixV (mVar 0) (mVar 2)) mNil)) (mC (.int 2)))) (tNotM (asT (mCall PM.law_whole (mCons (mBin ixV (mBin ixV (mVar 0) (mVar 2)) (mC (.int 1))) mNil)))))) (sRet (mC (.bl false))) sNext) (sIf (tOrM (tNotM (asT (mIs "tuple" (mBin ixV (mBin ixV (mVar 0) (mVar 2)) (mC (.int 0)))))) (asT (mBin neM (mComp 1 [] (iSeq (mBin ixV (mBin ixV (mVar 0) (mVar 2)) (mC (.int 0)))) (aName 0) (tNotM (asT (mCall PM.law_whole (mCons (mVar 0) mNil)))) (mVar 0)) (mLst mNil)))) (sRet (mC (.bl false))) sNext))) (sRet (mBin eqM (mVar 0) (mVar 1)))))
noncomputable def law_pairs : FN := fnM 4 7 (sSeq (sSet 4 (mLst mNil)) (sSeq (sFor (iRange1 (mCons (mVar 3) mNil)) (aName 5) (sSeq (sSet 6 (mCall PM.law_exponents (mCons (mCall PM.law_cell_at (mCons (mVar 0) (mCons (mBin addV (mVar 1) (mBin mulV (mC (.int 2)) (mVar 5))) mNil))) (mCons (mVar 2) mNil)))) (sExpr (mMtL appendF (mVar 4) (mCons (mTup (mCons (mVar 6) (mCons (mCall PM.law_number (mCons (mCall PM.law_cell_at (mCons (mVar 0) (mCons (mBin addV (mBin addV (mVar 1) (mBin mulV (mC (.int 2)) (mVar 5))) (mC (.int 1))) mNil))) mNil)) mNil))) mNil))))) (sRet (mVar 4))))
noncomputable def check_unknowns : FN := fnM 1 1 (sIf (tNotM (asT (mCall PM.is_whole_within (mCons (mVar 0) (mCons (mC (.int 1)) (mCons (mC (.int 4)) mNil)))))) (sRaise "NoUnknowns" (mCons (mC (.str "a count of unknowns is a whole number from 1 to 4")) mNil)) sNext)
noncomputable def are_exponents : FN := fnM 2 2 (sSeq (sIf (tOrM (tNotM (asT (mIs "tuple" (mVar 0)))) (asT (mBin neM (mCall lenF (mCons (mVar 0) mNil)) (mVar 1)))) (sRet (mC (.bl false))) sNext) (sRet (mCall allF (mCons (mComp 1 [] (iSeq (mVar 0)) (aName 0) tTrueM (mCall PM.is_whole_within (mCons (mVar 0) (mCons (mC (.int 0)) (mCons (mC (.int 99)) mNil))))) mNil))))
noncomputable def sum_of_totals : FN := fnM 2 2 (sRet (mCall PM.settled_terms (mCons (mVar 0) (mCons (mComp 1 [1] (iSeq (mSortD (mVar 1))) (aName 0) tTrueM (mTup (mCons (mVar 0) (mCons (mBin dgetV (mVar 1) (mVar 0)) mNil)))) mNil))))
noncomputable def is_pair : FN := fnM 2 2 (sSeq (sIf (tOrM (tNotM (asT (mIs "tuple" (mVar 0)))) (asT (mBin neM (mCall lenF (mCons (mVar 0) mNil)) (mC (.int 2))))) (sRet (mC (.bl false))) sNext) (sRet (mAnd (mCall PM.are_exponents (mCons (mBin ixV (mVar 0) (mC (.int 0))) (mCons (mVar 1) mNil))) (mCall PM.is_whole (mCons (mBin ixV (mVar 0) (mC (.int 1))) mNil)))))
noncomputable def check_pairs : FN := fnM 2 3 (sFor (iSeq (mVar 1)) (aName 2) (sIf (tNotM (asT (mCall PM.is_pair (mCons (mVar 2) (mCons (mVar 0) mNil))))) (sRaise "NoTerm" (mCons (mC (.str "a term is a tuple of exponents from 0 to 99, one for each unknown, and a whole number")) mNil)) sNext))
noncomputable def made : FN := fnM 3 6 (sSeq (sExpr (mCall PM.check_ring (mCons (mVar 0) mNil))) (sSeq (sExpr (mCall PM.check_unknowns (mCons (mVar 1) mNil))) (sSeq (sExpr (mCall PM.check_pairs (mCons (mVar 1) (mCons (mVar 2) mNil)))) (sSeq (sSet 3 mDNewT) (sSeq (sFor (iSeq (mVar 2)) (aTup [(aName 4), (aName 5)]) (sExpr (mCall PM.add_to (mCons (mVar 3) (mCons (mVar 4) (mCons (mVar 5) mNil)))))) (sRet (mCall PM.sum_of_totals (mCons (mVar 0) (mCons (mVar 3) mNil)))))))))
end PM
namespace PG
open PySem PySem.Spec L2 MN
open PyProof.Rows hiding St kindOf
end PG
namespace PG
open PySem PySem.Spec L2 MN
open PyProof.Rows hiding St kindOf
noncomputable abbrev Trm := List Int × Int
noncomputable def tV (t : Trm) : Val := .tup [tupI t.1, .int t.2]
noncomputable def eD (t : Trm) : List Key × Val := (iK t.1, .int t.2)
noncomputable def getA (A : List Trm) (k : List Int) : Int := ((A.find? fun p => decide (p.1 = k)).map (·.2)).getD 0
noncomputable def putA (A : List Trm) (k : List Int) (v : Int) : List Trm := if A.any (fun p => decide (p.1 = k)) then A.map (fun p => if p.1 = k then (p.1, v) else p) else A ++ [(k, v)]
theorem iK_dec (a k : List Int) : decide (iK a = iK k) = decide (a = k) := by
  by_cases h : a = k
  · rw [h, decide_eq_true rfl, decide_eq_true rfl]
  · rw [decide_eq_false h, decide_eq_false fun e => h (iK_inj e)]
theorem valW_eD (k : List Int) : ∀ A : List Trm, valW (A.map eD) (iK k) = (A.find? fun p => decide (p.1 = k)).map fun p => Val.int p.2
  | [] => rfl
  | p :: A => by
    unfold valW
    rw [List.map_cons, List.find?_cons, List.find?_cons]
    show Option.map _ (match decide (iK p.1 = iK k) with | true => some (eD p) | false => _) = _
    rw [iK_dec]
    cases decide (p.1 = k) with
    | true => rfl
    | false => exact valW_eD k A
theorem any_eD (k : List Int) : ∀ A : List Trm, ((A.map eD).any fun kv => decide (kv.1 = iK k)) = A.any fun p => decide (p.1 = k)
  | [] => rfl
  | p :: A => by
    rw [List.map_cons, List.any_cons, List.any_cons, any_eD k A]
    show (decide (iK p.1 = iK k) || _) = _
    rw [iK_dec]
theorem putW_eD (A : List Trm) (k : List Int) (v : Int) : putW (A.map eD) (iK k) (.int v) = (putA A k v).map eD := by
  unfold putW putA
  rw [any_eD]
  by_cases h : (A.any fun p => decide (p.1 = k)) = true
  · rw [if_pos h, if_pos h, List.map_map, List.map_map]
    refine List.map_congr_left fun p _ => ?_
    show (if iK p.1 = iK k then (iK p.1, Val.int v) else eD p) = eD (if p.1 = k then (p.1, v) else p)
    by_cases e : p.1 = k
    · rw [if_pos e, if_pos (by rw [e])]; rfl
    · rw [if_neg e, if_neg fun z => e (iK_inj z)]
  · rw [if_neg h, if_neg h, List.map_append]; rfl
theorem tkey_tupI (k : List Int) : tkeyOf (tupI k) = some (iK k) := by
  have h : ∀ k : List Int, keysOf (k.map Val.int) = some (iK k) := by
    intro k
    induction k with
    | nil => rfl
    | cons x k ih =>
      rw [List.map_cons]
      unfold keysOf
      show (match keyOf (Val.int x), keysOf (k.map Val.int) with | some a, some b => some (a :: b) | _, _ => none) = _
      rw [ih]; rfl
  show keysOf (k.map Val.int) = _
  exact h k
theorem look_ok {st : Store} {d : Nat} {A : List Trm} (h : st[d]? = some (.dT (A.map eD))) (k : List Int) : lookD st (.loc d) (tupI k) = some ((A.find? fun p => decide (p.1 = k)).map fun p => Val.int p.2) := by
  unfold lookD
  dsimp only
  rw [h]
  dsimp only
  rw [tkey_tupI, Option.map_some, valW_eD]
theorem store_ok' {st : Store} {d : Nat} {A : List Trm} (h : st[d]? = some (.dT (A.map eD))) (hl : A.length < sizeLine) (k : List Int) (v : Int) : storeD st (.loc d) (tupI k) (.int v) = some (st.set d (.dT ((putA A k v).map eD))) := by
  unfold storeD
  dsimp only
  rw [h]
  dsimp only
  rw [if_pos (by rw [List.length_map]; exact hl), tkey_tupI, Option.map_some, putW_eD]
theorem getD_look (A : List Trm) (k : List Int) : ((A.find? fun p => decide (p.1 = k)).map fun p => Val.int p.2).getD (.int 0) = .int (getA A k) := by
  unfold getA
  cases A.find? fun p => decide (p.1 = k) with
  | none => rfl
  | some p => rfl
theorem putA_keys {A : List Trm} {k : List Int} {v : Int} : (putA A k v).map (·.1) = if A.any (fun p => decide (p.1 = k)) then A.map (·.1) else A.map (·.1) ++ [k] := by
  unfold putA
  by_cases h : (A.any fun p => decide (p.1 = k)) = true
  · rw [if_pos h, if_pos h, List.map_map]
    refine List.map_congr_left fun p _ => ?_
    show (if p.1 = k then (p.1, v) else p).1 = p.1
    split <;> rfl
  · rw [if_neg h, if_neg h, List.map_append]; rfl
theorem any_mem {A : List Trm} {k : List Int} : (A.any fun p => decide (p.1 = k)) = true ↔ k ∈ A.map (·.1) := by
  rw [List.any_eq_true, List.mem_map]
  constructor
  · rintro ⟨p, hp, e⟩; exact ⟨p, hp, of_decide_eq_true e⟩
  · rintro ⟨p, hp, e⟩; exact ⟨p, hp, decide_eq_true e⟩
theorem putA_nodup {A : List Trm} (h : (A.map (·.1)).Nodup) (k : List Int) (v : Int) : ((putA A k v).map (·.1)).Nodup := by
  rw [putA_keys]
  by_cases c : (A.any fun p => decide (p.1 = k)) = true
  · rw [if_pos c]; exact h
  · rw [if_neg c]
    refine List.nodup_append.mpr ⟨h, List.pairwise_singleton _ _, ?_⟩
    intro a ha b hb e
    rw [List.mem_singleton.mp hb] at e
    exact c (any_mem.mpr (e ▸ ha))
theorem putA_len {A : List Trm} {k : List Int} {v : Int} : (putA A k v).length ≤ A.length + 1 := by
  unfold putA
  split
  · rw [List.length_map]; omega
  · rw [List.length_append]; exact Nat.le_refl _
theorem putA_mem {A : List Trm} {k : List Int} {v : Int} {t : Trm} (h : t ∈ putA A k v) : t ∈ A ∨ t = (k, v) := by
  unfold putA at h
  split at h
  · obtain ⟨p, hp, e⟩ := List.mem_map.mp h
    by_cases c : p.1 = k
    · rw [if_pos c] at e; right; rw [← e, c]
    · rw [if_neg c] at e; left; rw [← e]; exact hp
  · rcases List.mem_append.mp h with h | h
    · exact .inl h
    · exact .inr (List.mem_singleton.mp h)
end PG
namespace PG
open PySem PySem.Spec L2 MN
open PyProof.Rows hiding St kindOf
theorem set_dict (st : Store) (a b : List (List Key × Val)) : (st ++ [Cell.dT a]).set st.length (.dT b) = st ++ [.dT b] := set_last st _ _
theorem la_dict (st : Store) (a : List (List Key × Val)) : (st ++ [Cell.dT a])[st.length]? = some (.dT a) := by
  rw [List.getElem?_append_right (Nat.le_refl _), Nat.sub_self]; rfl
noncomputable def told (A : List Trm) : List Trm := ((srt (A.map (·.1))).filter fun k => getA A k != 0).map fun k => (k, getA A k)
end PG
namespace PG
open PySem PySem.Spec L2 MN
open PyProof.Rows hiding St kindOf
noncomputable def kOf : Val → List Int
  | .tup us => (intVs us).getD []
  | _ => []
theorem kOf_t (k : List Int) : kOf (tupI k) = k := by
  show (intVs (k.map Val.int)).getD [] = k
  rw [intVs_of]; rfl
theorem dget_ok {s : Store} {d : Nat} {A : List Trm} {k : List Int} (h : s[d]? = some (.dT (A.map eD))) (hk : k ∈ A.map (·.1)) : dgetV (.loc d) (tupI k) s = .ok (.int (getA A k)) s := by
  unfold dgetV
  rw [look_ok h k]
  unfold getA
  cases z : A.find? fun p => decide (p.1 = k) with
  | none =>
    rw [List.find?_eq_none] at z
    obtain ⟨p, hp, e⟩ := List.mem_map.mp hk
    exact absurd (decide_eq_true e) (z p hp)
  | some p => rfl
theorem ev_sortD {m : ME} {μ : MN.Env} {st : Store} : mSortD m μ st = (m μ st).bnd srtD := bind_bnd
end PG
namespace PG
open PySem PySem.Spec L2 MN
open PyProof.Rows hiding St kindOf
end PG
namespace PG
open PySem PySem.Spec L2 MN
open PyProof.Rows hiding St kindOf
noncomputable def tOf : Val → Trm
  | .tup [k, .int n] => (kOf k, n)
  | _ => ([], 0)
theorem tOf_t (t : Trm) : tOf (tV t) = t := by
  show (kOf (tupI t.1), t.2) = t
  rw [kOf_t]
end PG
namespace PG
open PySem PySem.Spec L2 MN
open PyProof.Rows hiding St kindOf
theorem sl_lo {k : List Int} {a : Nat} (h : a < k.length) (s : Store) : slV none (some (a : Int)) (tupI k) s = .ok (tupI (k.take a)) s := by
  have hl : (k.map Val.int).length = k.length := List.length_map ..
  show (if HT.sIx (k.map Val.int).length 0 none = 0 ∧ HT.sIx (k.map Val.int).length (k.map Val.int).length (some (a : Int)) = (k.map Val.int).length then Res.bad else .ok (Val.tup (cutL (k.map Val.int) none (some (a : Int)))) s) = _
  rw [HT.sIx_nat, hl, if_neg (by omega), cutL_ints, cutI_take (by omega)]
  rfl
theorem sl_hi {k : List Int} {a : Nat} (h : a < k.length) (s : Store) : slV (some ((a : Int) + 1)) none (tupI k) s = .ok (tupI (k.drop (a + 1))) s := by
  have hl : (k.map Val.int).length = k.length := List.length_map ..
  have e : (a : Int) + 1 = ((a + 1 : Nat) : Int) := by omega
  rw [e]
  show (if HT.sIx (k.map Val.int).length 0 (some ((a + 1 : Nat) : Int)) = 0 ∧ HT.sIx (k.map Val.int).length (k.map Val.int).length none = (k.map Val.int).length then Res.bad else .ok (Val.tup (cutL (k.map Val.int) (some ((a + 1 : Nat) : Int)) none)) s) = _
  rw [HT.sIx_nat, hl, if_neg (by omega), cutL_ints, cutI_drop (by omega)]
  rfl
theorem add_tt {a b : List Int} {s : Store} (h : a.length + b.length ≤ 64) : addV (tupI a) (tupI b) s = .ok (tupI (a ++ b)) s := by
  show (if (a.map Val.int).length + (b.map Val.int).length ≤ sizeLine then Res.ok (Val.tup (a.map Val.int ++ b.map Val.int)) s else .bad) = _
  rw [if_pos (by rw [List.length_map, List.length_map, sizeLine_eq]; omega), ← List.map_append]
  rfl
end PG
namespace PG
open PySem PySem.Spec L2 MN
open PyProof.Rows hiding St kindOf
end PG
namespace PG
open PySem PySem.Spec L2 MN
open PyProof.Rows hiding St kindOf
end PG
namespace PG
open PySem PySem.Spec L2 MN
open PyProof.Rows hiding St kindOf
end PG
namespace PG
open PySem PySem.Spec L2 MN
open PyProof.Rows hiding St kindOf
end PG
namespace PG
open PySem PySem.Spec L2 MN
open PyProof.Rows hiding St kindOf
section
variable {μ : MN.Env} {s s1 s2 : Store} {a b : ME} {f : F2} {x y : Val} {r : Res Val} {t u : MT} {c : Bool} {B : MB}
theorem bin_of (h1 : a μ s = .ok x s1) (h2 : b μ s1 = .ok y s2) : mBin f a b μ s = f x y s2 := by
  show (a μ s).bind _ = _
  rw [h1]
  show (b μ s1).bind _ = _
  rw [h2]
theorem asT_of (h : a μ s = .ok (.bl c) s1) : asT a μ s = .ok c s1 := by rw [ev_asT, h]; rfl
theorem or_ff (h1 : t μ s = .ok false s1) (h2 : u μ s1 = .ok false s2) : tOrM t u μ s = .ok false s2 := by rw [ev_tor, h1, bnd_ok, k_tor_f, h2]
theorem not_t (h : t μ s = .ok true s1) : tNotM t μ s = .ok false s1 := by rw [ev_tnot, h]; rfl
theorem if_no (h : t μ s = .ok false s1) : sIf t B sNext μ s = .nx μ s1 := by rw [ev_ifS, h, sbn_ok, k_if_f]; rfl
theorem and_tt (h1 : a μ s = .ok (.bl true) s1) (h2 : b μ s1 = r) : mAnd a b μ s = r := by rw [ev_and, h1, bnd_ok, k_and_t, h2]
end
theorem pure_t (t : Trm) : pureD 14 (tV t) = true := by
  show (pureDs 12 (t.1.map Val.int) && (true && true)) = true
  rw [pureDs_ints]; rfl
theorem pure_D (D : List Trm) : pureDs 14 (D.map tV) = true := pureDs_of fun u hu => by
  obtain ⟨t, _, rfl⟩ := List.mem_map.mp hu
  exact pure_t t
theorem old_at {s : Store} {n : Nat} {c : Cell} (h : s[n]? = some c) (more : Store) : (s ++ more)[n]? = some c := by
  have : n < s.length := by
    rcases Nat.lt_or_ge n s.length with q | q
    · exact q
    · rw [List.getElem?_eq_none q] at h; cases h
  rw [List.getElem?_append_left this]; exact h
end PG
namespace PG
open PySem PySem.Spec L2 MN
open PyProof.Rows hiding St kindOf
theorem add_to_ok {s : Store} {d : Nat} {A : List Trm} {k : List Int} {v : Int} (h : s[d]? = some (.dT (A.map eD))) (hl : A.length < sizeLine) :
    PM.add_to [.loc d, tupI k, .int v] s = .ok .non (s.set d (.dT ((putA A k (getA A k + v)).map eD))) := by
  have hd : isDc s (.loc d) = true := by
    unfold isDc
    dsimp only
    rw [h]
  have e1 : mDGet2 (mVar 0) (mVar 1) (mC (.int 0)) [some (.loc d), some (tupI k), some (.int v)] s = .ok (.int (getA A k)) s := by
    show (if isDc s (.loc d) = true then (match lookD s (.loc d) (tupI k) with | some o => Res.ok (o.getD (.int 0)) s | none => .bad) else .bad) = _
    rw [if_pos hd, look_ok h k]
    show Res.ok (Option.getD _ (Val.int 0)) s = _
    rw [getD_look]
  have e2 : mBin addV (mDGet2 (mVar 0) (mVar 1) (mC (.int 0))) (mVar 2) [some (.loc d), some (tupI k), some (.int v)] s = .ok (.int (getA A k + v)) s := by
    unfold mBin
    rw [e1]; rfl
  unfold PM.add_to
  rw [ev_fn (np := 3) (us := [Val.loc d, tupI k, .int v]) rfl]
  show (sDPutM (mVar 0) (mVar 1) (mBin addV (mDGet2 (mVar 0) (mVar 1) (mC (.int 0))) (mVar 2)) [some (.loc d), some (tupI k), some (.int v)] s).fin = _
  unfold sDPutM
  rw [e2]
  show SRes.fin (match storeD s (.loc d) (tupI k) (.int (getA A k + v)) with | some st4 => SRes.nx _ st4 | none => .bad) = _
  rw [store_ok' h hl]
  rfl
noncomputable def setR (r n : Int) : Int := if r = 0 then n else n.fmod r
theorem law_settled_ok (r n : Int) (st : Store) : PM.law_settled [.int r, .int n] st = .ok (.int (setR r n)) st := by
  unfold setR
  by_cases h : r = 0
  · have e : (r == 0) = true := by rw [h]; rfl
    rw [if_pos h]
    simp only [PM.law_settled, ev2s, evs, Nat.reduceSub, Nat.reduceAdd, Nat.reduceLeDiff, ↓reduceIte, e]
  · have e : (r == 0) = false := by simpa using h
    rw [if_neg h]
    simp only [PM.law_settled, ev2s, evs, Nat.reduceSub, Nat.reduceAdd, Nat.reduceLeDiff, ↓reduceIte, e, mod_ii h]
noncomputable def allT (A : List Trm) : List Trm := (srt (A.map (·.1))).map fun k => (k, getA A k)
noncomputable def toldR (r : Int) (A : List Trm) : List Trm := ((allT A).map fun t => (t.1, setR r t.2)).filter fun t => t.2 != 0
theorem rest_ok (r n : Int) (st : Store) : PM.rest_in_ring [.int r, .int n] st = .ok (.int (setR r n)) st := by
  unfold setR
  by_cases h : r = 0
  · have e : (r == 0) = true := by rw [h]; rfl
    rw [if_pos h]
    simp only [PM.rest_in_ring, ev2s, evs, Nat.reduceSub, Nat.reduceAdd, Nat.reduceLeDiff, ↓reduceIte, e]
  · have e : (r == 0) = false := by simpa using h
    rw [if_neg h]
    simp only [PM.rest_in_ring, ev2s, evs, Nat.reduceSub, Nat.reduceAdd, Nat.reduceLeDiff, ↓reduceIte, e, mod_ii h]
theorem settled_ok {p : Nat} {L : List Trm} {r : Int} {st : Store} (h : itemsOf st p = some (L.map tV)) (hl : L.length ≤ 64) :
    ∃ c, PM.settled_terms [.int r, .loc p] st = .ok (.loc (st.length + 1)) (st ++ [c, .lst (((L.map fun t => (t.1, setR r t.2)).filter fun t => t.2 != 0).map tV)]) := by
  obtain ⟨L', hL'⟩ : ∃ L' : List Trm, L' = L.map fun t => (t.1, setR r t.2) := ⟨_, rfl⟩
  have cp := compL_pure (a := aTup [aName 0, aName 1]) (c := tTrueM) (e := mTup (mCons (mVar 0) (mCons (mCall PM.rest_in_ring (mCons (mVar 2) (mCons (mVar 1) mNil))) mNil))) (g := fun st' => itemsOf st' p = some (L.map tV)) (st := st) h (fun τ => ∃ x y, τ = [x, y, some (.int r)]) (fun _ => true) (fun v => tV ((tOf v).1, setR r (tOf v).2)) (L.map tV) [none, none, some (.int r)] [] ⟨_, _, rfl⟩ (by
    rintro u hu τ ⟨x, y, rfl⟩
    obtain ⟨t, ht, rfl⟩ := List.mem_map.mp hu
    refine ⟨[some (tupI t.1), some (.int t.2), some (.int r)], rfl, ⟨_, _, rfl⟩, rfl, fun _ => ?_⟩
    have e0 : mVar 0 [some (tupI t.1), some (.int t.2), some (.int r)] st = .ok (tupI t.1) st := rfl
    have e1 : mCall PM.rest_in_ring (mCons (mVar 2) (mCons (mVar 1) mNil)) [some (tupI t.1), some (.int t.2), some (.int r)] st = .ok (.int (setR r t.2)) st := by
      show PM.rest_in_ring [.int r, .int t.2] st = _
      exact rest_ok _ _ _
    rw [tOf_t, ev_tup, ev_cons, e0, bnd_ok, k_cons, ev_cons, e1, bnd_ok, k_cons, ev_nil, bnd_ok, k_cons2, bnd_ok, k_cons2, bnd_ok, k_tup]
    exact if_pos (by rw [sizeLine_eq]; show 2 ≤ 16777216; decide))
  have e : (List.filter (fun _ => true) (L.map tV)).map (fun v => tV ((tOf v).1, setR r (tOf v).2)) = L'.map tV := by
    rw [List.filter_eq_self.mpr fun _ _ => rfl, List.map_map, hL', List.map_map]
    refine List.map_congr_left fun t _ => ?_
    show tV ((tOf (tV t)).1, setR r (tOf (tV t)).2) = _
    rw [tOf_t]; rfl
  rw [e, List.nil_append] at cp
  obtain ⟨s, hs⟩ : ∃ s, s = st ++ [Cell.lst (L'.map tV)] := ⟨_, rfl⟩
  have ls : s.length = st.length + 1 := by rw [hs, List.length_append]; rfl
  have h2 : itemsOf s st.length = some (L'.map tV) := by rw [hs]; exact itemsOf_new st _
  have lL : L'.length = L.length := by rw [hL', List.length_map]
  have cp2 := compL_pure (a := aName 0) (c := asT (mBin neM (mBin ixV (mVar 0) (mC (.int 1))) (mC (.int 0)))) (e := mVar 0) (g := fun st' => itemsOf st' st.length = some (L'.map tV)) (st := s) h2 (fun τ => ∃ x, τ = [x]) (fun v => (tOf v).2 != 0) (fun v => v) (L'.map tV) [none] [] ⟨_, rfl⟩ (by
    rintro u hu τ ⟨x, rfl⟩
    obtain ⟨t, ht, rfl⟩ := List.mem_map.mp hu
    refine ⟨[some (tV t)], rfl, ⟨_, rfl⟩, ?_, fun _ => rfl⟩
    rw [tOf_t]
    refine asT_of ?_
    rw [bin_of (x := .int t.2) (s1 := s) rfl (y := .int 0) (s2 := s) rfl, ne_ii]
    rfl)
  have e2 : (List.filter (fun v => (tOf v).2 != 0) (L'.map tV)).map (fun v => v) = (L'.filter fun t => t.2 != 0).map tV := by
    rw [List.map_id', List.filter_map]
    have : ((fun v => (tOf v).2 != 0) ∘ tV) = fun t => t.2 != 0 := by
      funext t
      show ((tOf (tV t)).2 != 0) = _
      rw [tOf_t]
    rw [this]
  rw [e2, List.nil_append] at cp2
  refine ⟨.lst (L'.map tV), ?_⟩
  have v1 : mVar 1 [some (Val.int r), some (.loc p), none] st = .ok (.loc p) st := rfl
  have cap : capM 2 [0] [some (Val.int r), some (.loc p), none] = [none, none, some (.int r)] := rfl
  have comp : mComp 2 [0] (iSeq (mVar 1)) (aTup [aName 0, aName 1]) tTrueM (mTup (mCons (mVar 0) (mCons (mCall PM.rest_in_ring (mCons (mVar 2) (mCons (mVar 1) mNil))) mNil))) [some (.int r), some (.loc p), none] st = .ok (.loc st.length) s := by
    rw [ev_comp, ev_iseq, v1, bnd_ok, walkK_loc h, bnd_ok, k_comp, if_pos (by rw [List.length_map, sizeLine_eq]; omega), cap, cp, bnd_ok, k_new, hs]
  have v2 : mVar 2 [some (Val.int r), some (.loc p), some (.loc st.length)] s = .ok (.loc st.length) s := rfl
  have cap2 : capM 1 [] [some (Val.int r), some (.loc p), some (.loc st.length)] = [none] := rfl
  have comp2 : mComp 1 [] (iSeq (mVar 2)) (aName 0) (asT (mBin neM (mBin ixV (mVar 0) (mC (.int 1))) (mC (.int 0)))) (mVar 0) [some (.int r), some (.loc p), some (.loc st.length)] s = .ok (.loc s.length) (s ++ [.lst ((L'.filter fun t => t.2 != 0).map tV)]) := by
    rw [ev_comp, ev_iseq, v2, bnd_ok, walkK_loc h2, bnd_ok, k_comp, if_pos (by rw [List.length_map, sizeLine_eq]; omega), cap2, cp2, bnd_ok, k_new]
  have first : sSet 2 (mComp 2 [0] (iSeq (mVar 1)) (aTup [aName 0, aName 1]) tTrueM (mTup (mCons (mVar 0) (mCons (mCall PM.rest_in_ring (mCons (mVar 2) (mCons (mVar 1) mNil))) mNil)))) [some (.int r), some (.loc p), none] st = .nx [some (.int r), some (.loc p), some (.loc st.length)] s := by
    rw [ev_set, comp, sbn_ok]; rfl
  have es : st ++ [Cell.lst (L'.map tV), .lst ((L'.filter fun t => t.2 != 0).map tV)] = s ++ [.lst ((L'.filter fun t => t.2 != 0).map tV)] := by rw [hs, List.append_assoc]; rfl
  unfold PM.settled_terms
  rw [ev_fn (np := 2) (us := [Val.int r, .loc p]) rfl, ← hL', es, ← ls]
  show (sSeq (sSet 2 (mComp 2 [0] (iSeq (mVar 1)) (aTup [aName 0, aName 1]) tTrueM (mTup (mCons (mVar 0) (mCons (mCall PM.rest_in_ring (mCons (mVar 2) (mCons (mVar 1) mNil))) mNil))))) (sRet (mComp 1 [] (iSeq (mVar 2)) (aName 0) (asT (mBin neM (mBin ixV (mVar 0) (mC (.int 1))) (mC (.int 0)))) (mVar 0))) [some (.int r), some (.loc p), none] st).fin = _
  rw [ev_seq, first, thn_nx, ev_ret, comp2, sbn_ok]
  rfl
end PG
namespace PG
open PySem PySem.Spec L2 MN
open PyProof.Rows hiding St kindOf
noncomputable def gthr (P : List Trm) : List Trm := P.foldl (fun A t => putA A t.1 (getA A t.1 + t.2)) []
theorem gthr_snoc (P : List Trm) (t : Trm) : gthr (P ++ [t]) = putA (gthr P) t.1 (getA (gthr P) t.1 + t.2) := by
  unfold gthr
  rw [List.foldl_append]; rfl
theorem fold_all (K : List (List Int)) : ∀ (P A : List Trm), (A.map (·.1)).Nodup → (∀ t ∈ A, t.1 ∈ K) → (∀ t ∈ P, t.1 ∈ K) →
    ((P.foldl (fun A t => putA A t.1 (getA A t.1 + t.2)) A).map (·.1)).Nodup ∧ (P.foldl (fun A t => putA A t.1 (getA A t.1 + t.2)) A).length ≤ A.length + P.length ∧ ∀ t ∈ P.foldl (fun A t => putA A t.1 (getA A t.1 + t.2)) A, t.1 ∈ K
  | [], A, h1, h2, _ => ⟨h1, by simp, h2⟩
  | t :: P, A, h1, h2, h3 => by
    have ih := fold_all K P (putA A t.1 (getA A t.1 + t.2)) (putA_nodup h1 _ _) (fun q hq => by
      rcases putA_mem hq with hq | rfl
      · exact h2 q hq
      · exact h3 t List.mem_cons_self) (fun q hq => h3 q (List.mem_cons_of_mem _ hq))
    refine ⟨ih.1, Nat.le_trans ih.2.1 ?_, ih.2.2⟩
    have := putA_len (A := A) (k := t.1) (v := getA A t.1 + t.2)
    rw [List.length_cons]
    omega
theorem gthr_all (P : List Trm) : ((gthr P).map (·.1)).Nodup ∧ (gthr P).length ≤ P.length ∧ ∀ t ∈ gthr P, t.1 ∈ P.map (·.1) := by
  have := fold_all (P.map (·.1)) P [] List.nodup_nil (fun t ht => by cases ht) (fun t ht => List.mem_map.mpr ⟨t, ht, rfl⟩)
  refine ⟨this.1, ?_, this.2.2⟩
  have := this.2.1
  simp at this
  exact this
noncomputable abbrev mdB : MB := sExpr (mCall PM.add_to (mCons (mVar 3) (mCons (mVar 4) (mCons (mVar 5) mNil))))
theorem made_loop {p : Nat} {P : List Trm} {st : Store} {x0 x1 : Option Val} (h : itemsOf st p = some (P.map tV)) (hl : P.length < 64) :
    ∃ y4 y5, forL (fun st' => itemsOf st' p = some (P.map tV)) (aTup [aName 4, aName 5]) mdB (P.map tV) [x0, x1, some (.loc p), some (.loc st.length), none, none] (st ++ [.dT []]) = .nx [x0, x1, some (.loc p), some (.loc st.length), y4, y5] (st ++ [.dT ((gthr P).map eD)]) := by
  have hg : ∀ (A : List Trm), itemsOf (st ++ [.dT (A.map eD)]) p = some (P.map tV) := fun A => itemsOf_old h _
  obtain ⟨μ', st', e, rfl, y4, y5, rfl⟩ := forL_inv (g := fun st' => itemsOf st' p = some (P.map tV)) (a := aTup [aName 4, aName 5]) (body := mdB)
    (fun i μ s' => s' = st ++ [.dT ((gthr (P.take i)).map eD)] ∧ ∃ y4 y5, μ = [x0, x1, some (.loc p), some (.loc st.length), y4, y5])
    (P.map tV) 0 [x0, x1, some (.loc p), some (.loc st.length), none, none] (st ++ [.dT []])
    (by
      rintro i u μ s' hu ⟨rfl, y4, y5, rfl⟩
      rw [Nat.zero_add]
      refine ⟨hg _, ?_⟩
      rw [List.getElem?_map] at hu
      have hi : i < P.length := by
        rcases Nat.lt_or_ge i P.length with q | q
        · exact q
        · rw [List.getElem?_eq_none q] at hu; cases hu
      rw [List.getElem?_eq_getElem hi] at hu
      obtain ⟨t, ht⟩ : ∃ t, t = P[i] := ⟨_, rfl⟩
      rw [← ht] at hu
      cases hu
      have tk : P.take (i + 1) = P.take i ++ [t] := by
        rw [List.take_succ, List.getElem?_eq_getElem hi, ← ht]; rfl
      have lA := (gthr_all (P.take i)).2.1
      rw [List.length_take] at lA
      have ad := add_to_ok (k := t.1) (v := t.2) (la_dict st ((gthr (P.take i)).map eD)) (by rw [sizeLine_eq]; omega)
      rw [set_dict, ← gthr_snoc, ← tk] at ad
      refine ⟨[x0, x1, some (.loc p), some (.loc st.length), some (tupI t.1), some (.int t.2)], rfl, [x0, x1, some (.loc p), some (.loc st.length), some (tupI t.1), some (.int t.2)], _, .inl ?_, rfl, _, _, rfl⟩
      have q : mCall PM.add_to (mCons (mVar 3) (mCons (mVar 4) (mCons (mVar 5) mNil))) [x0, x1, some (.loc p), some (.loc st.length), some (tupI t.1), some (.int t.2)] (st ++ [.dT ((gthr (P.take i)).map eD)]) = .ok .non (st ++ [.dT ((gthr (P.take (i + 1))).map eD)]) := by
        show PM.add_to [.loc st.length, tupI t.1, .int t.2] _ = _
        exact ad
      show sExpr _ _ _ = _
      rw [ev_expr, q, sbn_ok]
      rfl)
    (fun μ s hp => by obtain ⟨rfl, _⟩ := hp; exact hg _)
    ⟨rfl, none, none, rfl⟩
  rw [Nat.zero_add, List.length_map, List.take_of_length_le (Nat.le_refl _)] at e
  exact ⟨y4, y5, e⟩
noncomputable abbrev alE : ME := mTup (mCons (mVar 0) (mCons (mBin dgetV (mVar 1) (mVar 0)) mNil))
theorem totals_ok {s : Store} {d : Nat} {A : List Trm} {r : Int} (h : s[d]? = some (.dT (A.map eD))) (nd : (A.map (·.1)).Nodup) (hl : A.length < 64) (ne : ∀ t ∈ A, t.1 ≠ []) :
    ∃ c1 c2 c3, PM.sum_of_totals [.int r, .loc d] s = .ok (.loc (s.length + 3)) (s ++ [c1, c2, c3, .lst ((toldR r A).map tV)]) := by
  have ekeys : (A.map eD).map (·.1) = (A.map (·.1)).map iK := by rw [List.map_map, List.map_map]; rfl
  have hsd := srtD_ok (ks := A.map (·.1)) h ekeys (by rw [List.length_map]; exact hl) (fun k hk => by
    obtain ⟨t, ht, rfl⟩ := List.mem_map.mp hk
    exact ne t ht)
  obtain ⟨s2, hs2⟩ : ∃ s2, s2 = s ++ [Cell.lst ((srt (A.map (·.1))).map tupI)] := ⟨_, rfl⟩
  have hd2 : s2[d]? = some (.dT (A.map eD)) := by rw [hs2]; exact old_at h _
  have hit : itemsOf s2 s.length = some ((srt (A.map (·.1))).map tupI) := by rw [hs2]; exact itemsOf_new s _
  have lk : (srt (A.map (·.1))).length = A.length := by rw [(srt_perm _).length_eq, List.length_map]
  have cp := compL_pure (a := aName 0) (c := tTrueM) (e := alE) (g := fun st' => itemsOf st' s.length = some ((srt (A.map (·.1))).map tupI)) (st := s2) hit (fun τ => ∃ x, τ = [x, some (.loc d)]) (fun _ => true) (fun v => .tup [v, .int (getA A (kOf v))]) ((srt (A.map (·.1))).map tupI) [none, some (.loc d)] [] ⟨_, rfl⟩ (by
    rintro u hu τ ⟨x, rfl⟩
    obtain ⟨k, hk, rfl⟩ := List.mem_map.mp hu
    have hk' := (srt_perm _).mem_iff.mp hk
    have e0 : mVar 0 [some (tupI k), some (.loc d)] s2 = .ok (tupI k) s2 := rfl
    have e1 : mBin dgetV (mVar 1) (mVar 0) [some (tupI k), some (.loc d)] s2 = .ok (.int (getA A k)) s2 := by
      show dgetV (.loc d) (tupI k) s2 = _
      exact dget_ok hd2 hk'
    refine ⟨[some (tupI k), some (.loc d)], rfl, ⟨_, rfl⟩, rfl, fun _ => ?_⟩
    rw [kOf_t]
    unfold alE
    rw [ev_tup, ev_cons, e0, bnd_ok, k_cons, ev_cons, e1, bnd_ok, k_cons, ev_nil, bnd_ok, k_cons2, bnd_ok, k_cons2, bnd_ok, k_tup]
    exact if_pos (by rw [sizeLine_eq]; show 2 ≤ 16777216; decide))
  have e : (List.filter (fun _ => true) ((srt (A.map (·.1))).map tupI)).map (fun v => Val.tup [v, .int (getA A (kOf v))]) = (allT A).map tV := by
    rw [List.filter_eq_self.mpr fun _ _ => rfl, List.map_map]
    unfold allT
    rw [List.map_map]
    refine List.map_congr_left fun k _ => ?_
    show Val.tup [tupI k, .int (getA A (kOf (tupI k)))] = _
    rw [kOf_t]; rfl
  rw [e, List.nil_append] at cp
  obtain ⟨s3, hs3⟩ : ∃ s3, s3 = s2 ++ [Cell.lst ((allT A).map tV)] := ⟨_, rfl⟩
  have v1 : mVar 1 [some (Val.int r), some (.loc d)] s = .ok (.loc d) s := rfl
  have cap : capM 1 [1] [some (Val.int r), some (.loc d)] = [none, some (.loc d)] := rfl
  have comp : mComp 1 [1] (iSeq (mSortD (mVar 1))) (aName 0) tTrueM alE [some (.int r), some (.loc d)] s = .ok (.loc s2.length) s3 := by
    rw [ev_comp, ev_iseq, ev_sortD, v1, bnd_ok, hsd, ← hs2, bnd_ok, walkK_loc hit, bnd_ok, k_comp, if_pos (by rw [List.length_map, lk, sizeLine_eq]; omega), cap, cp, bnd_ok, k_new, hs3]
  obtain ⟨c3, se⟩ := settled_ok (r := r) (L := allT A) (p := s2.length) (st := s3) (by rw [hs3]; exact itemsOf_new s2 _) (by unfold allT; rw [List.length_map, lk]; omega)
  refine ⟨.lst ((srt (A.map (·.1))).map tupI), .lst ((allT A).map tV), c3, ?_⟩
  have l3 : s3.length = s.length + 2 := by rw [hs3, hs2, List.length_append, List.length_append]; rfl
  have es : s ++ [Cell.lst ((srt (A.map (·.1))).map tupI), .lst ((allT A).map tV), c3, .lst ((toldR r A).map tV)] = s3 ++ [c3, .lst ((toldR r A).map tV)] := by
    rw [hs3, hs2, List.append_assoc, List.append_assoc]; rfl
  have v0 : mVar 0 [some (Val.int r), some (.loc d)] s = .ok (.int r) s := rfl
  unfold PM.sum_of_totals
  rw [ev_fn (np := 2) (us := [Val.int r, .loc d]) rfl, es]
  show (sRet (mCall PM.settled_terms (mCons (mVar 0) (mCons (mComp 1 [1] (iSeq (mSortD (mVar 1))) (aName 0) tTrueM alE) mNil))) [some (.int r), some (.loc d)] s).fin = _
  rw [ev_ret, ev_call, ev_cons, v0, bnd_ok, k_cons, ev_cons, comp, bnd_ok, k_cons, ev_nil, bnd_ok, k_cons2, bnd_ok, k_cons2, bnd_ok, se, l3]
  rfl
end PG
namespace PG
open PySem PySem.Spec L2 MN
open PyProof.Rows hiding St kindOf
noncomputable abbrev lgA : MB := sDPutM (mVar 2) (mBin ixV (mVar 3) (mC (.int 0))) (mBin addV (mDGet2 (mVar 2) (mBin ixV (mVar 3) (mC (.int 0))) (mC (.int 0))) (mBin ixV (mVar 3) (mC (.int 1))))
theorem lgA_step {s : Store} {d : Nat} {A : List Trm} {t : Trm} {x0 x1 x4 x5 : Option Val} (h : s[d]? = some (.dT (A.map eD))) (hl : A.length < sizeLine) :
    lgA [x0, x1, some (.loc d), some (tV t), x4, x5] s = .nx [x0, x1, some (.loc d), some (tV t), x4, x5] (s.set d (.dT ((putA A t.1 (getA A t.1 + t.2)).map eD))) := by
  have hd : isDc s (.loc d) = true := by
    unfold isDc
    dsimp only
    rw [h]
  have e1 : mDGet2 (mVar 2) (mBin ixV (mVar 3) (mC (.int 0))) (mC (.int 0)) [x0, x1, some (.loc d), some (tV t), x4, x5] s = .ok (.int (getA A t.1)) s := by
    show (if isDc s (.loc d) = true then (match lookD s (.loc d) (tupI t.1) with | some o => Res.ok (o.getD (.int 0)) s | none => .bad) else .bad) = _
    rw [if_pos hd, look_ok h t.1]
    show Res.ok (Option.getD _ (Val.int 0)) s = _
    rw [getD_look]
  have i1 : mBin ixV (mVar 3) (mC (.int 1)) [x0, x1, some (.loc d), some (tV t), x4, x5] s = .ok (.int t.2) s := rfl
  have e2 : mBin addV (mDGet2 (mVar 2) (mBin ixV (mVar 3) (mC (.int 0))) (mC (.int 0))) (mBin ixV (mVar 3) (mC (.int 1))) [x0, x1, some (.loc d), some (tV t), x4, x5] s = .ok (.int (getA A t.1 + t.2)) s := by
    rw [bin_of e1 i1]; rfl
  unfold lgA sDPutM
  rw [e2]
  show (match storeD s (.loc d) (tupI t.1) (.int (getA A t.1 + t.2)) with | some st4 => SRes.nx _ st4 | none => .bad) = _
  rw [store_ok' h hl]
noncomputable def tkR (r : Int) (A : List Trm) (ks : List (List Int)) : List Trm := (ks.map fun k => (k, setR r (getA A k))).filter fun t => t.2 != 0
theorem tkR_snoc (r : Int) (A : List Trm) (ks : List (List Int)) (k : List Int) : tkR r A (ks ++ [k]) = tkR r A ks ++ (if setR r (getA A k) != 0 then [(k, setR r (getA A k))] else []) := by
  unfold tkR
  rw [List.map_append, List.filter_append]
  congr 1
  show List.filter _ [(k, setR r (getA A k))] = _
  by_cases h : (setR r (getA A k) != 0) = true
  · rw [if_pos h, List.filter_cons_of_pos (p := fun t : Trm => t.2 != 0) h]; rfl
  · rw [if_neg h, List.filter_cons_of_neg (p := fun t : Trm => t.2 != 0) h]; rfl
theorem tkR_told (r : Int) (A : List Trm) : tkR r A (srt (A.map (·.1))) = toldR r A := by
  unfold tkR toldR allT
  rw [List.map_map]; rfl
theorem tkR_len (r : Int) (A : List Trm) (ks : List (List Int)) : (tkR r A ks).length ≤ ks.length := by
  unfold tkR
  refine Nat.le_trans (List.length_filter_le _ _) ?_
  rw [List.length_map]; exact Nat.le_refl _
noncomputable abbrev lgS : ME := mCall PM.law_settled (mCons (mVar 0) (mCons (mBin dgetV (mVar 2) (mVar 5)) mNil))
noncomputable abbrev lgB : MB := sIf (asT (mBin neM lgS (mC (.int 0)))) (sExpr (mMtL appendF (mVar 4) (mCons (mTup (mCons (mVar 5) (mCons lgS mNil))) mNil))) sNext
theorem lgB_step {s : Store} {d q : Nat} {A : List Trm} {r : Int} {ks : List (List Int)} {k : List Int} {x1 x3 : Option Val} (h : s[d]? = some (.dT (A.map eD))) (hq : s[q]? = some (.lst ((tkR r A ks).map tV))) (hl : ks.length ≤ 64) (hk : k ∈ A.map (·.1)) :
    lgB [some (.int r), x1, some (.loc d), x3, some (.loc q), some (tupI k)] s = .nx [some (.int r), x1, some (.loc d), x3, some (.loc q), some (tupI k)] (s.set q (.lst ((tkR r A (ks ++ [k])).map tV))) := by
  obtain ⟨μ, hμ⟩ : ∃ μ : MN.Env, μ = [some (.int r), x1, some (.loc d), x3, some (.loc q), some (tupI k)] := ⟨_, rfl⟩
  have v4 : mVar 4 μ s = .ok (.loc q) s := by rw [hμ]; rfl
  have v5 : mVar 5 μ s = .ok (tupI k) s := by rw [hμ]; rfl
  have v0 : mVar 0 μ s = .ok (.int r) s := by rw [hμ]; rfl
  have dg : mBin dgetV (mVar 2) (mVar 5) μ s = .ok (.int (getA A k)) s := by
    rw [hμ]
    show dgetV (.loc d) (tupI k) s = _
    exact dget_ok h hk
  have sl : lgS μ s = .ok (.int (setR r (getA A k))) s := by
    unfold lgS
    rw [ev_call, ev_cons, v0, bnd_ok, k_cons, ev_cons, dg, bnd_ok, k_cons, ev_nil, bnd_ok, k_cons2, bnd_ok, k_cons2, bnd_ok]
    exact law_settled_ok _ _ _
  have tst : asT (mBin neM lgS (mC (.int 0))) μ s = .ok (setR r (getA A k) != 0) s := by
    refine asT_of ?_
    rw [bin_of sl (y := .int 0) (s2 := s) rfl, ne_ii]; rfl
  rw [← hμ, tkR_snoc]
  show sIf _ _ _ μ s = _
  rw [ev_ifS, tst, sbn_ok]
  cases c : setR r (getA A k) != 0 with
  | true =>
    have ap := append_ok (v := tV (k, setR r (getA A k))) hq (by rw [List.length_map, sizeLine_eq]; have := tkR_len r A ks; omega)
    have arg : mCons (mTup (mCons (mVar 5) (mCons lgS mNil))) mNil μ s = .ok [tV (k, setR r (getA A k))] s := by
      have tp : mTup (mCons (mVar 5) (mCons lgS mNil)) μ s = .ok (tV (k, setR r (getA A k))) s := by
        rw [ev_tup, ev_cons, v5, bnd_ok, k_cons, ev_cons, sl, bnd_ok, k_cons, ev_nil, bnd_ok, k_cons2, bnd_ok, k_cons2, bnd_ok, k_tup]
        exact if_pos (by rw [sizeLine_eq]; show 2 ≤ 16777216; decide)
      rw [ev_cons, tp, bnd_ok, k_cons, ev_nil, bnd_ok, k_cons2]
    rw [k_if_t, ev_expr, ev_mtL, v4, bnd_ok, k_mtL hq, arg, bnd_ok, k_mt2, ap, if_pos rfl, List.map_append]
    rfl
  | false =>
    rw [k_if_f, if_neg (by decide), List.append_nil]
    have : s.set q (.lst ((tkR r A ks).map tV)) = s := by
      apply List.ext_getElem?
      intro j
      rw [List.getElem?_set]
      by_cases e : q = j
      · rw [if_pos e]
        subst e
        split
        · exact hq.symm
        · rw [List.getElem?_eq_none (by omega)]
      · rw [if_neg e]
    rw [this]
    rfl
end PG
namespace PG
open PySem PySem.Spec L2 MN
open PyProof.Rows hiding St kindOf
theorem lgA_loop {p : Nat} {P : List Trm} {st : Store} {x0 : Option Val} (h : itemsOf st p = some (P.map tV)) (hl : P.length < 64) :
    ∃ y3, forL (fun st' => itemsOf st' p = some (P.map tV)) (aName 3) lgA (P.map tV) [x0, some (.loc p), some (.loc st.length), none, none, none] (st ++ [.dT []]) = .nx [x0, some (.loc p), some (.loc st.length), y3, none, none] (st ++ [.dT ((gthr P).map eD)]) := by
  have hg : ∀ (A : List Trm), itemsOf (st ++ [.dT (A.map eD)]) p = some (P.map tV) := fun A => itemsOf_old h _
  obtain ⟨μ', st', e, rfl, y3, rfl⟩ := forL_inv (g := fun st' => itemsOf st' p = some (P.map tV)) (a := aName 3) (body := lgA)
    (fun i μ s' => s' = st ++ [.dT ((gthr (P.take i)).map eD)] ∧ ∃ y3, μ = [x0, some (.loc p), some (.loc st.length), y3, none, none])
    (P.map tV) 0 [x0, some (.loc p), some (.loc st.length), none, none, none] (st ++ [.dT []])
    (by
      rintro i u μ s' hu ⟨rfl, y3, rfl⟩
      rw [Nat.zero_add]
      refine ⟨hg _, ?_⟩
      rw [List.getElem?_map] at hu
      have hi : i < P.length := by
        rcases Nat.lt_or_ge i P.length with q | q
        · exact q
        · rw [List.getElem?_eq_none q] at hu; cases hu
      rw [List.getElem?_eq_getElem hi] at hu
      obtain ⟨t, ht⟩ : ∃ t, t = P[i] := ⟨_, rfl⟩
      rw [← ht] at hu
      cases hu
      have tk : P.take (i + 1) = P.take i ++ [t] := by
        rw [List.take_succ, List.getElem?_eq_getElem hi, ← ht]; rfl
      have lA := (gthr_all (P.take i)).2.1
      rw [List.length_take] at lA
      have ad := lgA_step (x0 := x0) (x1 := some (.loc p)) (x4 := none) (x5 := none) (t := t) (la_dict st ((gthr (P.take i)).map eD)) (by rw [sizeLine_eq]; omega)
      rw [set_dict, ← gthr_snoc, ← tk] at ad
      exact ⟨_, rfl, _, _, .inl ad, rfl, _, rfl⟩)
    (fun μ s hp => by obtain ⟨rfl, _⟩ := hp; exact hg _)
    ⟨rfl, none, rfl⟩
  rw [Nat.zero_add, List.length_map, List.take_of_length_le (Nat.le_refl _)] at e
  exact ⟨y3, e⟩
theorem lgB_loop {st : Store} {A : List Trm} {r : Int} {x1 x3 : Option Val} (hl : A.length < 64) :
    ∃ y5, forL (fun st' => itemsOf st' (st.length + 2) = some ((srt (A.map (·.1))).map tupI)) (aName 5) lgB ((srt (A.map (·.1))).map tupI) [some (.int r), x1, some (.loc st.length), x3, some (.loc (st.length + 1)), none] (st ++ [.dT (A.map eD), .lst [], .lst ((srt (A.map (·.1))).map tupI)]) =
      .nx [some (.int r), x1, some (.loc st.length), x3, some (.loc (st.length + 1)), y5] (st ++ [.dT (A.map eD), .lst ((toldR r A).map tV), .lst ((srt (A.map (·.1))).map tupI)]) := by
  obtain ⟨ks, hks⟩ : ∃ ks, ks = srt (A.map (·.1)) := ⟨_, rfl⟩
  have lk : ks.length = A.length := by rw [hks, (srt_perm _).length_eq, List.length_map]
  rw [← tkR_told, ← hks]
  have at0 : ∀ (us : List Val), (st ++ [Cell.dT (A.map eD), .lst us, .lst (ks.map tupI)])[st.length]? = some (.dT (A.map eD)) := fun us => by
    rw [List.getElem?_append_right (Nat.le_refl _), Nat.sub_self]; rfl
  have at1 : ∀ (us : List Val), (st ++ [Cell.dT (A.map eD), .lst us, .lst (ks.map tupI)])[st.length + 1]? = some (.lst us) := fun us => by
    rw [List.getElem?_append_right (by omega), show st.length + 1 - st.length = 1 by omega]; rfl
  have at2 : ∀ (us : List Val), (st ++ [Cell.dT (A.map eD), .lst us, .lst (ks.map tupI)])[st.length + 2]? = some (.lst (ks.map tupI)) := fun us => by
    rw [List.getElem?_append_right (by omega), show st.length + 2 - st.length = 2 by omega]; rfl
  have st1 : ∀ (us ws : List Val), (st ++ [Cell.dT (A.map eD), .lst us, .lst (ks.map tupI)]).set (st.length + 1) (.lst ws) = st ++ [Cell.dT (A.map eD), .lst ws, .lst (ks.map tupI)] := fun us ws => by
    rw [List.set_append_right _ _ (by omega), show st.length + 1 - st.length = 1 by omega]; rfl
  obtain ⟨μ', st', e, rfl, y5, rfl⟩ := forL_inv (g := fun st' => itemsOf st' (st.length + 2) = some (ks.map tupI)) (a := aName 5) (body := lgB)
    (fun i μ s' => s' = st ++ [.dT (A.map eD), .lst ((tkR r A (ks.take i)).map tV), .lst (ks.map tupI)] ∧ ∃ y5, μ = [some (.int r), x1, some (.loc st.length), x3, some (.loc (st.length + 1)), y5])
    (ks.map tupI) 0 [some (.int r), x1, some (.loc st.length), x3, some (.loc (st.length + 1)), none] (st ++ [.dT (A.map eD), .lst [], .lst (ks.map tupI)])
    (by
      rintro i u μ s' hu ⟨rfl, y5, rfl⟩
      rw [Nat.zero_add]
      refine ⟨it_of (at2 _), ?_⟩
      rw [List.getElem?_map] at hu
      have hi : i < ks.length := by
        rcases Nat.lt_or_ge i ks.length with q | q
        · exact q
        · rw [List.getElem?_eq_none q] at hu; cases hu
      rw [List.getElem?_eq_getElem hi] at hu
      obtain ⟨k, hk⟩ : ∃ k, k = ks[i] := ⟨_, rfl⟩
      have mk : k ∈ A.map (·.1) := by
        refine (srt_perm _).mem_iff.mp ?_
        rw [← hks, hk]; exact List.getElem_mem hi
      rw [← hk] at hu
      cases hu
      have tk : ks.take (i + 1) = ks.take i ++ [k] := by
        rw [List.take_succ, List.getElem?_eq_getElem hi, ← hk]; rfl
      have es := lgB_step (x1 := x1) (x3 := x3) (at0 _) (at1 ((tkR r A (ks.take i)).map tV)) (by rw [List.length_take]; omega) mk
      rw [st1, ← tk] at es
      exact ⟨_, rfl, _, _, .inl es, rfl, _, rfl⟩)
    (fun μ s hp => by obtain ⟨rfl, _⟩ := hp; exact it_of (at2 _))
    ⟨rfl, none, rfl⟩
  rw [Nat.zero_add, List.length_map, List.take_of_length_le (Nat.le_refl _)] at e
  exact ⟨y5, e⟩
theorem law_gathered_ok {p : Nat} {P : List Trm} {r : Int} {st : Store} (h : itemsOf st p = some (P.map tV)) (hl : P.length < 64) (ne : ∀ t ∈ P, t.1 ≠ []) :
    ∃ c1 c3, PM.law_gathered [.int r, .loc p] st = .ok (.loc (st.length + 1)) (st ++ [c1, .lst ((toldR r (gthr P)).map tV), c3]) := by
  obtain ⟨A, hA⟩ : ∃ A, A = gthr P := ⟨_, rfl⟩
  have ga := gthr_all P
  rw [← hA] at ga
  obtain ⟨y3, e1⟩ := lgA_loop (x0 := some (.int r)) h hl
  obtain ⟨y5, e2⟩ := lgB_loop (st := st) (A := A) (r := r) (x1 := some (.loc p)) (x3 := y3) (by omega)
  rw [← hA] at e1 ⊢
  refine ⟨.dT (A.map eD), .lst ((srt (A.map (·.1))).map tupI), ?_⟩
  have s1 : sSet 2 mDNewT [some (.int r), some (.loc p), none, none, none, none] st = .nx [some (.int r), some (.loc p), some (.loc st.length), none, none, none] (st ++ [.dT []]) := rfl
  have v1 : mVar 1 [some (Val.int r), some (.loc p), some (.loc st.length), none, none, none] (st ++ [.dT []]) = .ok (.loc p) (st ++ [.dT []]) := rfl
  have s2 : sFor (iSeq (mVar 1)) (aName 3) lgA [some (.int r), some (.loc p), some (.loc st.length), none, none, none] (st ++ [.dT []]) = .nx [some (.int r), some (.loc p), some (.loc st.length), y3, none, none] (st ++ [.dT (A.map eD)]) := by
    rw [ev_for, ev_iseq, v1, bnd_ok, walkK_loc (itemsOf_old h _), sbn_ok, k_for]
    exact e1
  have ld : (st ++ [Cell.dT (A.map eD)]).length = st.length + 1 := by rw [List.length_append]; rfl
  have s3 : sSet 4 (mLst mNil) [some (.int r), some (.loc p), some (.loc st.length), y3, none, none] (st ++ [.dT (A.map eD)]) = .nx [some (.int r), some (.loc p), some (.loc st.length), y3, some (.loc (st.length + 1)), none] (st ++ [.dT (A.map eD), .lst []]) := by
    rw [← ld]
    have q : mLst mNil [some (Val.int r), some (.loc p), some (.loc st.length), y3, none, none] (st ++ [.dT (A.map eD)]) = .ok (.loc (st ++ [Cell.dT (A.map eD)]).length) (st ++ [.dT (A.map eD)] ++ [.lst []]) := by simp only [ev2s, evs, Nat.reduceSub, Nat.reduceAdd, Nat.reduceLeDiff, ↓reduceIte]
    rw [ev_set, q, sbn_ok, List.append_assoc]
    rfl
  have hd : (st ++ [Cell.dT (A.map eD), .lst []])[st.length]? = some (.dT (A.map eD)) := by
    rw [List.getElem?_append_right (Nat.le_refl _), Nat.sub_self]; rfl
  have ekeys : (A.map eD).map (·.1) = (A.map (·.1)).map iK := by rw [List.map_map, List.map_map]; rfl
  have hsd := srtD_ok (ks := A.map (·.1)) hd ekeys (by rw [List.length_map]; omega) (fun k hk => by
    obtain ⟨t, ht, rfl⟩ := List.mem_map.mp hk
    obtain ⟨q, hq, e⟩ := List.mem_map.mp (ga.2.2 t ht)
    rw [← e]; exact ne q hq)
  have l2 : (st ++ [Cell.dT (A.map eD), .lst []]).length = st.length + 2 := by rw [List.length_append]; rfl
  rw [l2, List.append_assoc] at hsd
  have hit : itemsOf (st ++ [Cell.dT (A.map eD), .lst [], .lst ((srt (A.map (·.1))).map tupI)]) (st.length + 2) = some ((srt (A.map (·.1))).map tupI) := by
    refine it_of ?_
    rw [List.getElem?_append_right (by omega), show st.length + 2 - st.length = 2 by omega]; rfl
  have v2 : mVar 2 [some (Val.int r), some (.loc p), some (.loc st.length), y3, some (.loc (st.length + 1)), none] (st ++ [.dT (A.map eD), .lst []]) = .ok (.loc st.length) (st ++ [.dT (A.map eD), .lst []]) := rfl
  have s4 : sFor (iSeq (mSortD (mVar 2))) (aName 5) lgB [some (.int r), some (.loc p), some (.loc st.length), y3, some (.loc (st.length + 1)), none] (st ++ [.dT (A.map eD), .lst []]) = .nx [some (.int r), some (.loc p), some (.loc st.length), y3, some (.loc (st.length + 1)), y5] (st ++ [.dT (A.map eD), .lst ((toldR r A).map tV), .lst ((srt (A.map (·.1))).map tupI)]) := by
    rw [ev_for, ev_iseq, ev_sortD, v2, bnd_ok, hsd, bnd_ok]
    show (walkK (.loc (st.length + 2)) (st ++ [Cell.dT (A.map eD), .lst [], .lst ((srt (A.map (·.1))).map tupI)])).sbn _ _ = _
    rw [walkK_loc hit, sbn_ok, k_for]
    exact e2
  unfold PM.law_gathered
  rw [ev_fn (np := 2) (us := [Val.int r, .loc p]) rfl]
  show (sSeq (sSet 2 mDNewT) (sSeq (sFor (iSeq (mVar 1)) (aName 3) lgA) (sSeq (sSet 4 (mLst mNil)) (sSeq (sFor (iSeq (mSortD (mVar 2))) (aName 5) lgB) (sRet (mVar 4))))) [some (.int r), some (.loc p), none, none, none, none] st).fin = _
  rw [ev_seq, s1, thn_nx, ev_seq, s2, thn_nx, ev_seq, s3, thn_nx, ev_seq, s4, thn_nx]
  rfl
end PG
namespace PG
open PySem PySem.Spec L2 MN
open PyProof.Rows hiding St kindOf
theorem within_int (e lo hi : Int) (st : Store) : PM.is_whole_within [.int e, .int lo, .int hi] st = .ok (.bl (decide (lo ≤ e) && decide (e ≤ hi))) st := by
  by_cases h : lo ≤ e
  · have z : decide (lo ≤ e) = true := decide_eq_true h
    rw [z, Bool.true_and]
    simp only [PM.is_whole_within, ev2s, evs, Nat.reduceSub, Nat.reduceAdd, Nat.reduceLeDiff, ↓reduceIte, is_whole_int, z]
  · have z : decide (lo ≤ e) = false := decide_eq_false h
    rw [z, Bool.false_and]
    simp only [PM.is_whole_within, ev2s, evs, Nat.reduceSub, Nat.reduceAdd, Nat.reduceLeDiff, ↓reduceIte, is_whole_int, z]
structure Good (many : Nat) (t : Trm) : Prop where
  len : t.1.length = many
  rg : ∀ e ∈ t.1, 0 ≤ e ∧ e ≤ 99
theorem bls_true : ∀ us : List Int, blsOf (us.map fun _ => Val.bl true) = some (us.map fun _ => true)
  | [] => rfl
  | u :: us => by
    rw [List.map_cons]
    unfold blsOf
    rw [bls_true us]; rfl
theorem are_ok {k : List Int} {many : Nat} (hl : k.length = many) (hm : many ≤ 4) (hr : ∀ e ∈ k, 0 ≤ e ∧ e ≤ 99) (st : Store) : PM.are_exponents [tupI k, .int (many : Int)] st = .ok (.bl true) (st ++ [.lst (k.map fun _ => Val.bl true)]) := by
  have cp := compL_pure (a := aName 0) (c := tTrueM) (e := mCall PM.is_whole_within (mCons (mVar 0) (mCons (mC (.int 0)) (mCons (mC (.int 99)) mNil)))) (g := fun _ => True) (st := st) trivial (fun τ => ∃ x, τ = [x]) (fun _ => true) (fun _ => .bl true) (k.map Val.int) [none] [] ⟨_, rfl⟩ (by
    rintro u hu τ ⟨x, rfl⟩
    obtain ⟨e, he, rfl⟩ := List.mem_map.mp hu
    refine ⟨[some (.int e)], rfl, ⟨_, rfl⟩, rfl, fun _ => ?_⟩
    show PM.is_whole_within [.int e, .int 0, .int 99] st = _
    have := hr e he
    rw [within_int, decide_eq_true this.1, decide_eq_true this.2]; rfl)
  rw [List.filter_eq_self.mpr fun _ _ => rfl, List.map_map, List.nil_append] at cp
  have e0 : ((fun _ => Val.bl true) ∘ Val.int) = fun _ : Int => Val.bl true := rfl
  rw [e0] at cp
  have v0 : mVar 0 [some (tupI k), some (.int (many : Int))] st = .ok (tupI k) st := rfl
  have cap : capM 1 [] [some (tupI k), some (.int (many : Int))] = [none] := rfl
  have comp : mComp 1 [] (iSeq (mVar 0)) (aName 0) tTrueM (mCall PM.is_whole_within (mCons (mVar 0) (mCons (mC (.int 0)) (mCons (mC (.int 99)) mNil)))) [some (tupI k), some (.int (many : Int))] st = .ok (.loc st.length) (st ++ [.lst (k.map fun _ => Val.bl true)]) := by
    rw [ev_comp, ev_iseq, v0, bnd_ok]
    show ((walkK (.tup (k.map Val.int)) st).bnd _) = _
    rw [walkK_tup, bnd_ok, k_comp, if_pos (by rw [List.length_map, sizeLine_eq]; omega), cap, cp, bnd_ok, k_new]
  have al : allF [.loc st.length] (st ++ [.lst (k.map fun _ => Val.bl true)]) = .ok (.bl true) (st ++ [.lst (k.map fun _ => Val.bl true)]) := by
    unfold allF
    dsimp only
    rw [itemsOf_new]
    dsimp only
    rw [bls_true]
    dsimp only
    congr 2
    rw [List.all_map]
    exact List.all_eq_true.mpr fun _ _ => rfl
  have c1 : tOrM (tNotM (asT (mIs "tuple" (mVar 0)))) (asT (mBin neM (mCall lenF (mCons (mVar 0) mNil)) (mVar 1))) [some (tupI k), some (.int (many : Int))] st = .ok (!(((k.map Val.int).length : Int) == (many : Int))) st := rfl
  rw [List.length_map, hl, beq_self_eq_true] at c1
  unfold PM.are_exponents
  rw [ev_fn (np := 2) (us := [tupI k, .int (many : Int)]) rfl]
  show (sSeq (sIf (tOrM (tNotM (asT (mIs "tuple" (mVar 0)))) (asT (mBin neM (mCall lenF (mCons (mVar 0) mNil)) (mVar 1)))) (sRet (mC (.bl false))) sNext) (sRet (mCall allF (mCons (mComp 1 [] (iSeq (mVar 0)) (aName 0) tTrueM (mCall PM.is_whole_within (mCons (mVar 0) (mCons (mC (.int 0)) (mCons (mC (.int 99)) mNil))))) mNil))) [some (tupI k), some (.int (many : Int))] st).fin = _
  rw [ev_seq, if_no c1, thn_nx, ev_ret, ev_call, ev_cons, comp, bnd_ok, k_cons, ev_nil, bnd_ok, k_cons2, bnd_ok, al, sbn_ok]
  rfl
theorem is_pair_ok {t : Trm} {many : Nat} (G : Good many t) (hm : many ≤ 4) (st : Store) : PM.is_pair [tV t, .int (many : Int)] st = .ok (.bl true) (st ++ [.lst (t.1.map fun _ => Val.bl true)]) := by
  have ar := are_ok G.len hm G.rg st
  have c1 : tOrM (tNotM (asT (mIs "tuple" (mVar 0)))) (asT (mBin neM (mCall lenF (mCons (mVar 0) mNil)) (mC (.int 2)))) [some (tV t), some (.int (many : Int))] st = .ok false st := rfl
  have q1 : mCall PM.are_exponents (mCons (mBin ixV (mVar 0) (mC (.int 0))) (mCons (mVar 1) mNil)) [some (tV t), some (.int (many : Int))] st = .ok (.bl true) (st ++ [.lst (t.1.map fun _ => Val.bl true)]) := by
    show PM.are_exponents [tupI t.1, .int (many : Int)] st = _
    exact ar
  have q2 : ∀ s : Store, mCall PM.is_whole (mCons (mBin ixV (mVar 0) (mC (.int 1))) mNil) [some (tV t), some (.int (many : Int))] s = .ok (.bl true) s := fun s => rfl
  unfold PM.is_pair
  rw [ev_fn (np := 2) (us := [tV t, .int (many : Int)]) rfl]
  show (sSeq (sIf (tOrM (tNotM (asT (mIs "tuple" (mVar 0)))) (asT (mBin neM (mCall lenF (mCons (mVar 0) mNil)) (mC (.int 2))))) (sRet (mC (.bl false))) sNext) (sRet (mAnd (mCall PM.are_exponents (mCons (mBin ixV (mVar 0) (mC (.int 0))) (mCons (mVar 1) mNil))) (mCall PM.is_whole (mCons (mBin ixV (mVar 0) (mC (.int 1))) mNil)))) [some (tV t), some (.int (many : Int))] st).fin = _
  rw [ev_seq, if_no c1, thn_nx, ev_ret, and_tt q1 (q2 _), sbn_ok]
  rfl
noncomputable abbrev cpB : MB := sIf (tNotM (asT (mCall PM.is_pair (mCons (mVar 2) (mCons (mVar 0) mNil))))) (sRaise "NoTerm" (mCons (mC (.str "a term is a tuple of exponents from 0 to 99, one for each unknown, and a whole number")) mNil)) sNext
theorem check_pairs_ok {p many : Nat} {P : List Trm} {st : Store} (h : itemsOf st p = some (P.map tV)) (G : ∀ t ∈ P, Good many t) (hm : many ≤ 4) : ∃ g, PM.check_pairs [.int (many : Int), .loc p] st = .ok .non (st ++ g) := by
  obtain ⟨μ', st', e, g, rfl, y, rfl⟩ := forL_inv (g := fun st' => itemsOf st' p = some (P.map tV)) (a := aName 2) (body := cpB)
    (fun _ μ s' => ∃ g, s' = st ++ g ∧ ∃ y, μ = [some (.int (many : Int)), some (.loc p), y])
    (P.map tV) 0 [some (.int (many : Int)), some (.loc p), none] st
    (by
      rintro i u μ s' hu ⟨g, rfl, y, rfl⟩
      refine ⟨itemsOf_old h _, ?_⟩
      obtain ⟨t, ht, rfl⟩ := List.mem_map.mp (List.mem_of_getElem? hu)
      have ip := is_pair_ok (G t ht) hm (st ++ g)
      have q : mCall PM.is_pair (mCons (mVar 2) (mCons (mVar 0) mNil)) [some (.int (many : Int)), some (.loc p), some (tV t)] (st ++ g) = .ok (.bl true) (st ++ g ++ [.lst (t.1.map fun _ => Val.bl true)]) := by
        show PM.is_pair [tV t, .int (many : Int)] (st ++ g) = _
        exact ip
      refine ⟨[some (.int (many : Int)), some (.loc p), some (tV t)], rfl, [some (.int (many : Int)), some (.loc p), some (tV t)], st ++ g ++ [.lst (t.1.map fun _ => Val.bl true)], .inl ?_, g ++ [.lst (t.1.map fun _ => Val.bl true)], by rw [List.append_assoc], _, rfl⟩
      show sIf _ _ _ _ _ = _
      exact if_no (not_t (asT_of q)))
    (fun μ s hp => by obtain ⟨g, rfl, _⟩ := hp; exact itemsOf_old h _)
    ⟨[], by rw [List.append_nil], none, rfl⟩
  refine ⟨g, ?_⟩
  have v1 : mVar 1 [some (Val.int (many : Int)), some (.loc p), none] st = .ok (.loc p) st := rfl
  unfold PM.check_pairs
  rw [ev_fn (np := 2) (us := [Val.int (many : Int), .loc p]) rfl]
  show (sFor (iSeq (mVar 1)) (aName 2) cpB [some (.int (many : Int)), some (.loc p), none] st).fin = _
  rw [ev_for, ev_iseq, v1, bnd_ok, walkK_loc h, sbn_ok, k_for, e]
  rfl
end PG
namespace PG
open PySem PySem.Spec L2 MN
open PyProof.Rows hiding St kindOf
theorem check_unknowns_ok {many : Nat} (h1 : 1 ≤ many) (h4 : many ≤ 4) (st : Store) : PM.check_unknowns [.int (many : Int)] st = .ok .non st := by
  have q : mCall PM.is_whole_within (mCons (mVar 0) (mCons (mC (.int 1)) (mCons (mC (.int 4)) mNil))) [some (.int (many : Int))] st = .ok (.bl true) st := by
    show PM.is_whole_within [.int (many : Int), .int 1, .int 4] st = _
    rw [within_int, decide_eq_true (by omega), decide_eq_true (by omega)]; rfl
  unfold PM.check_unknowns
  rw [ev_fn (np := 1) (us := [Val.int (many : Int)]) rfl]
  show (sIf (tNotM (asT (mCall PM.is_whole_within (mCons (mVar 0) (mCons (mC (.int 1)) (mCons (mC (.int 4)) mNil)))))) _ sNext [some (.int (many : Int))] st).fin = _
  rw [if_no (not_t (asT_of q))]
  rfl
theorem made_ok {p many : Nat} {P : List Trm} {r : Int} {st : Store} (hr : ringB r = true) (h : itemsOf st p = some (P.map tV)) (hl : P.length < 64) (G : ∀ t ∈ P, Good many t) (h1 : 1 ≤ many) (h4 : many ≤ 4) :
    ∃ g k, PM.made [.int r, .int (many : Int), .loc p] st = .ok (.loc k) (st ++ g) ∧ st.length ≤ k ∧ (st ++ g)[k]? = some (.lst ((toldR r (gthr P)).map tV)) := by
  obtain ⟨g1, e1⟩ := check_ring_ok hr st
  obtain ⟨s1, hs1⟩ : ∃ s1, s1 = st ++ g1 := ⟨_, rfl⟩
  rw [← hs1] at e1
  have i1 : itemsOf s1 p = some (P.map tV) := by rw [hs1]; exact itemsOf_old h _
  have e2 := check_unknowns_ok h1 h4 s1
  obtain ⟨g3, e3⟩ := check_pairs_ok i1 G h4
  obtain ⟨s3, hs3⟩ : ∃ s3, s3 = s1 ++ g3 := ⟨_, rfl⟩
  rw [← hs3] at e3
  have i3 : itemsOf s3 p = some (P.map tV) := by rw [hs3]; exact itemsOf_old i1 _
  obtain ⟨y4, y5, e4⟩ := made_loop (x0 := some (.int r)) (x1 := some (.int (many : Int))) i3 hl
  have ga := gthr_all P
  obtain ⟨s5, hs5⟩ : ∃ s5, s5 = s3 ++ [Cell.dT ((gthr P).map eD)] := ⟨_, rfl⟩
  rw [← hs5] at e4
  have d5 : s5[s3.length]? = some (.dT ((gthr P).map eD)) := by rw [hs5]; exact la_dict s3 _
  obtain ⟨c1, c2, c3, e5⟩ := totals_ok (r := r) d5 ga.1 (by omega) (fun t ht z => by
    obtain ⟨q, hq, e⟩ := List.mem_map.mp (ga.2.2 t ht)
    have := (G q hq).len
    rw [e, z] at this
    simp at this
    omega)
  have es : st ++ (g1 ++ g3 ++ [Cell.dT ((gthr P).map eD)] ++ [c1, c2, c3, .lst ((toldR r (gthr P)).map tV)]) = s5 ++ [c1, c2, c3, .lst ((toldR r (gthr P)).map tV)] := by
    rw [hs5, hs3, hs1]
    simp only [List.append_assoc]
  refine ⟨g1 ++ g3 ++ [Cell.dT ((gthr P).map eD)] ++ [c1, c2, c3, .lst ((toldR r (gthr P)).map tV)], s5.length + 3, ?_, ?_, ?_⟩
  · rw [es]
    have q1 : mCall PM.check_ring (mCons (mVar 0) mNil) [some (.int r), some (.int (many : Int)), some (.loc p), none, none, none] st = .ok .non s1 := by
      show PM.check_ring [.int r] st = _
      exact e1
    have q2 : mCall PM.check_unknowns (mCons (mVar 1) mNil) [some (.int r), some (.int (many : Int)), some (.loc p), none, none, none] s1 = .ok .non s1 := by
      show PM.check_unknowns [.int (many : Int)] s1 = _
      exact e2
    have q3 : mCall PM.check_pairs (mCons (mVar 1) (mCons (mVar 2) mNil)) [some (.int r), some (.int (many : Int)), some (.loc p), none, none, none] s1 = .ok .non s3 := by
      show PM.check_pairs [.int (many : Int), .loc p] s1 = _
      exact e3
    have x1 : sExpr (mCall PM.check_ring (mCons (mVar 0) mNil)) [some (.int r), some (.int (many : Int)), some (.loc p), none, none, none] st = .nx [some (.int r), some (.int (many : Int)), some (.loc p), none, none, none] s1 := by
      rw [ev_expr, q1, sbn_ok]; rfl
    have x2 : sExpr (mCall PM.check_unknowns (mCons (mVar 1) mNil)) [some (.int r), some (.int (many : Int)), some (.loc p), none, none, none] s1 = .nx [some (.int r), some (.int (many : Int)), some (.loc p), none, none, none] s1 := by
      rw [ev_expr, q2, sbn_ok]; rfl
    have x3 : sExpr (mCall PM.check_pairs (mCons (mVar 1) (mCons (mVar 2) mNil))) [some (.int r), some (.int (many : Int)), some (.loc p), none, none, none] s1 = .nx [some (.int r), some (.int (many : Int)), some (.loc p), none, none, none] s3 := by
      rw [ev_expr, q3, sbn_ok]; rfl
    have x4 : sSet 3 mDNewT [some (.int r), some (.int (many : Int)), some (.loc p), none, none, none] s3 = .nx [some (.int r), some (.int (many : Int)), some (.loc p), some (.loc s3.length), none, none] (s3 ++ [.dT []]) := rfl
    have v2 : mVar 2 [some (Val.int r), some (.int (many : Int)), some (.loc p), some (.loc s3.length), none, none] (s3 ++ [.dT []]) = .ok (.loc p) (s3 ++ [.dT []]) := rfl
    have x5 : sFor (iSeq (mVar 2)) (aTup [aName 4, aName 5]) mdB [some (.int r), some (.int (many : Int)), some (.loc p), some (.loc s3.length), none, none] (s3 ++ [.dT []]) = .nx [some (.int r), some (.int (many : Int)), some (.loc p), some (.loc s3.length), y4, y5] s5 := by
      rw [ev_for, ev_iseq, v2, bnd_ok, walkK_loc (itemsOf_old i3 _), sbn_ok, k_for]
      exact e4
    have q6 : mCall PM.sum_of_totals (mCons (mVar 0) (mCons (mVar 3) mNil)) [some (.int r), some (.int (many : Int)), some (.loc p), some (.loc s3.length), y4, y5] s5 = .ok (.loc (s5.length + 3)) (s5 ++ [c1, c2, c3, .lst ((toldR r (gthr P)).map tV)]) := by
      show PM.sum_of_totals [.int r, .loc s3.length] s5 = _
      exact e5
    unfold PM.made
    rw [ev_fn (np := 3) (us := [Val.int r, .int (many : Int), .loc p]) rfl]
    show (sSeq (sExpr (mCall PM.check_ring (mCons (mVar 0) mNil))) (sSeq (sExpr (mCall PM.check_unknowns (mCons (mVar 1) mNil))) (sSeq (sExpr (mCall PM.check_pairs (mCons (mVar 1) (mCons (mVar 2) mNil)))) (sSeq (sSet 3 mDNewT) (sSeq (sFor (iSeq (mVar 2)) (aTup [aName 4, aName 5]) mdB) (sRet (mCall PM.sum_of_totals (mCons (mVar 0) (mCons (mVar 3) mNil)))))))) [some (.int r), some (.int (many : Int)), some (.loc p), none, none, none] st).fin = _
    rw [ev_seq, x1, thn_nx, ev_seq, x2, thn_nx, ev_seq, x3, thn_nx, ev_seq, x4, thn_nx, ev_seq, x5, thn_nx, ev_ret, q6, sbn_ok]
    rfl
  · rw [hs5, hs3, hs1]
    simp only [List.length_append]
    omega
  · rw [es, List.getElem?_append_right (by omega), show s5.length + 3 - s5.length = 3 by omega]
    rfl
end PG
namespace PG
open PySem PySem.Spec L2 MN
open PyProof.Rows hiding St kindOf
noncomputable abbrev smX : ME := mBin ixV (mVar 0) (mVar 2)
noncomputable abbrev smC1 : MT := tOrM (tNotM (asT (mIs "tuple" smX))) (tOrM (asT (mBin neM (mCall lenF (mCons smX mNil)) (mC (.int 2)))) (tNotM (asT (mCall PM.law_whole (mCons (mBin ixV smX (mC (.int 1))) mNil)))))
noncomputable abbrev smP : ME := mComp 1 [] (iSeq (mBin ixV smX (mC (.int 0)))) (aName 0) (tNotM (asT (mCall PM.law_whole (mCons (mVar 0) mNil)))) (mVar 0)
noncomputable abbrev smC2 : MT := tOrM (tNotM (asT (mIs "tuple" (mBin ixV smX (mC (.int 0)))))) (asT (mBin neM smP (mLst mNil)))
noncomputable abbrev smB : MB := sSeq (sIf smC1 (sRet (mC (.bl false))) sNext) (sIf smC2 (sRet (mC (.bl false))) sNext)
theorem sm_step {s : Store} {μ : MN.Env} {t : Trm} (hX : smX μ s = .ok (tV t) s) (hl : t.1.length ≤ 64) : smB μ s = .nx μ (s ++ [.lst [], .lst []]) := by
  have ca : asT (mIs "tuple" smX) μ s = .ok true s := asT_of (by rw [ev_is, hX, bnd_ok]; rfl)
  have lenq : mCall lenF (mCons smX mNil) μ s = .ok (.int 2) s := by
    rw [ev_call, ev_cons, hX, bnd_ok, k_cons, ev_nil, bnd_ok, k_cons2, bnd_ok]; rfl
  have cb : asT (mBin neM (mCall lenF (mCons smX mNil)) (mC (.int 2))) μ s = .ok false s := asT_of (by rw [bin_of lenq (y := .int 2) (s2 := s) rfl]; rfl)
  have x1 : mBin ixV smX (mC (.int 1)) μ s = .ok (.int t.2) s := by rw [bin_of hX (y := .int 1) (s2 := s) rfl]; rfl
  have x0 : mBin ixV smX (mC (.int 0)) μ s = .ok (tupI t.1) s := by rw [bin_of hX (y := .int 0) (s2 := s) rfl]; rfl
  have cc : asT (mCall PM.law_whole (mCons (mBin ixV smX (mC (.int 1))) mNil)) μ s = .ok true s := asT_of (by
    rw [ev_call, ev_cons, x1, bnd_ok, k_cons, ev_nil, bnd_ok, k_cons2, bnd_ok]; rfl)
  have cd : asT (mIs "tuple" (mBin ixV smX (mC (.int 0)))) μ s = .ok true s := asT_of (by rw [ev_is, x0, bnd_ok]; rfl)
  have cp := compL_pure (a := aName 0) (c := tNotM (asT (mCall PM.law_whole (mCons (mVar 0) mNil)))) (e := mVar 0) (g := fun _ => True) (st := s) trivial (fun τ => ∃ x, τ = [x]) (fun _ => false) (fun v => v) (t.1.map Val.int) [none] [] ⟨_, rfl⟩ (by
    rintro u hu τ ⟨x, rfl⟩
    obtain ⟨e, he, rfl⟩ := List.mem_map.mp hu
    exact ⟨[some (.int e)], rfl, ⟨_, rfl⟩, rfl, fun z => by cases z⟩)
  rw [List.filter_eq_nil_iff.mpr (fun _ _ z => by cases z), List.map_nil, List.append_nil] at cp
  have cap : capM 1 [] μ = [none] := rfl
  have pc : smP μ s = .ok (.loc s.length) (s ++ [.lst []]) := by
    unfold smP
    rw [ev_comp, ev_iseq, x0, bnd_ok]
    show ((walkK (.tup (t.1.map Val.int)) s).bnd _) = _
    rw [walkK_tup, bnd_ok, k_comp, if_pos (by rw [List.length_map, sizeLine_eq]; omega), cap, cp, bnd_ok, k_new]
  have pl : mLst mNil μ (s ++ [.lst []]) = .ok (.loc (s ++ [Cell.lst []]).length) (s ++ [.lst []] ++ [.lst []]) := by simp only [ev2s, evs, Nat.reduceSub, Nat.reduceAdd, Nat.reduceLeDiff, ↓reduceIte]
  have ce : asT (mBin neM smP (mLst mNil)) μ s = .ok false (s ++ [.lst []] ++ [.lst []]) := asT_of (by
    rw [bin_of pc pl]
    exact ne_nil (itemsOf_old (itemsOf_new s []) _) (itemsOf_new (s ++ [.lst []]) []))
  have es : s ++ [Cell.lst [], .lst []] = s ++ [.lst []] ++ [.lst []] := by rw [List.append_assoc]; rfl
  unfold smB
  rw [ev_seq, if_no (or_ff (not_t ca) (or_ff cb (not_t cc))), thn_nx, if_no (or_ff (not_t cd) ce), es]
theorem law_same_ok {a b : Nat} {D : List Trm} {st : Store} (ha : st[a]? = some (.lst (D.map tV))) (hb : st[b]? = some (.lst (D.map tV))) (hl : D.length ≤ 64) (hk : ∀ t ∈ D, t.1.length ≤ 64) : ∃ g, PM.law_same [.loc a, .loc b] st = .ok (.bl true) (st ++ g) := by
  obtain ⟨n, hn⟩ : ∃ n : Int, n = ((D.map tV).length : Int) := ⟨_, rfl⟩
  have nD : n.toNat = D.length := by rw [hn, List.length_map]; simp
  have hrg := rng1_ok (st := st) (j := n) (by omega) (by rw [List.length_map] at hn; omega)
  obtain ⟨μ', st', e, g, rfl, y, rfl⟩ := forL_inv (g := fun _ => True) (a := aName 2) (body := smB)
    (fun _ μ s' => ∃ g, s' = st ++ g ∧ ∃ y, μ = [some (.loc a), some (.loc b), y])
    (rangeL 0 n.toNat) 0 [some (.loc a), some (.loc b), none] st
    (by
      rintro i u μ s' hu ⟨g, rfl, y, rfl⟩
      refine ⟨trivial, ?_⟩
      have hu' := hu
      unfold rangeL at hu'
      rw [List.getElem?_map] at hu'
      have hi : i < n.toNat := by
        rcases Nat.lt_or_ge i n.toNat with q | q
        · exact q
        · rw [List.getElem?_eq_none (by rw [List.length_range]; exact q)] at hu'; cases hu'
      rw [List.getElem?_eq_getElem (by rw [List.length_range]; exact hi), List.getElem_range] at hu'
      have ue : u = .int ((i : Nat) : Int) := by
        cases hu'
        show Val.int (0 + (i : Int)) = _
        rw [Int.zero_add]
      subst ue
      have hiD : i < D.length := by omega
      have hat : L2.atI (D.map tV) (i : Int) = some (tV D[i]) := L2.atI_nat (by rw [List.getElem?_map, List.getElem?_eq_getElem hiD]; rfl)
      have hX : smX [some (.loc a), some (.loc b), some (.int (i : Int))] (st ++ g) = .ok (tV D[i]) (st ++ g) := by
        show ixV (.loc a) (.int (i : Int)) (st ++ g) = _
        exact ix_loc (itemsOf_old (it_of ha) _) hat
      exact ⟨[some (.loc a), some (.loc b), some (.int (i : Int))], rfl, _, _, .inl (sm_step hX (hk _ (List.getElem_mem hiD))), g ++ [.lst [], .lst []], by rw [List.append_assoc], _, rfl⟩)
    (fun _ _ _ => trivial) ⟨[], by rw [List.append_nil], none, rfl⟩
  refine ⟨g, ?_⟩
  have la := len_loc (it_of ha)
  have lb := len_loc (it_of hb)
  rw [← hn] at la lb
  have first : sIf (tOrM (tNotM (asT (mIs "list" (mVar 0)))) (asT (mBin neM (mCall lenF (mCons (mVar 0) mNil)) (mCall lenF (mCons (mVar 1) mNil))))) (sRet (mC (.bl false))) sNext [some (.loc a), some (.loc b), none] st = .nx [some (.loc a), some (.loc b), none] st := by
    refine if_no (or_ff (s1 := st) (not_t (asT_of ?_)) (asT_of ?_))
    · simp only [ev2s, evs, Nat.reduceSub, Nat.reduceAdd, Nat.reduceLeDiff, ↓reduceIte, is_list ha]
    · rw [bin_of (x := .int n) (s1 := st) la (y := .int n) (s2 := st) lb, ne_ii, beq_self_eq_true]; rfl
  have a1 : iRange1 (mCons (mCall lenF (mCons (mVar 1) mNil)) mNil) [some (.loc a), some (.loc b), none] st = .ok (rangeL 0 n.toNat, fun _ => True) st := by
    simp only [ev2s, evs, Nat.reduceSub, Nat.reduceAdd, Nat.reduceLeDiff, ↓reduceIte, lb, hrg]
  have last : mBin eqM (mVar 0) (mVar 1) [some (.loc a), some (.loc b), y] (st ++ g) = .ok (.bl true) (st ++ g) := by
    show eqM (.loc a) (.loc b) (st ++ g) = _
    exact eq_lists (itemsOf_old (it_of ha) _) (itemsOf_old (it_of hb) _) (pure_D D)
  unfold PM.law_same
  rw [ev_fn (np := 2) (us := [Val.loc a, .loc b]) rfl]
  show (sSeq (sIf (tOrM (tNotM (asT (mIs "list" (mVar 0)))) (asT (mBin neM (mCall lenF (mCons (mVar 0) mNil)) (mCall lenF (mCons (mVar 1) mNil))))) (sRet (mC (.bl false))) sNext) (sSeq (sFor (iRange1 (mCons (mCall lenF (mCons (mVar 1) mNil)) mNil)) (aName 2) smB) (sRet (mBin eqM (mVar 0) (mVar 1)))) [some (.loc a), some (.loc b), none] st).fin = _
  rw [ev_seq, first, thn_nx, ev_seq, ev_for, a1, sbn_ok, k_for, e, thn_nx, ev_ret, last, sbn_ok]
  rfl
end PG
namespace PG
open PySem PySem.Spec L2 MN
open PyProof.Rows hiding St kindOf
section
variable {μ : MN.Env} {s s1 s2 : Store} {m : ME} {o j : Int} {t : MT} {B : MB}
theorem mod_of (h : m μ s = .ok (.int o) s1) (hj : ¬ j = 0) : mBin modV m (mC (.int j)) μ s = .ok (.int (o.fmod j)) s1 := by
  rw [bin_of h (y := .int j) (s2 := s1) rfl]; exact mod_ii hj
theorem div_of (h : m μ s = .ok (.int o) s1) (hj : Dz j) : mBin fdivV m (mC (.int j)) μ s = .ok (.int (o.fdiv j)) s1 := by
  rw [bin_of h (y := .int j) (s2 := s1) rfl]; exact div_ii hj
theorem eq_of (h : m μ s = .ok (.int o) s1) : mBin eqM m (mC (.int j)) μ s = .ok (.bl (o == j)) s1 := by
  rw [bin_of h (y := .int j) (s2 := s1) rfl]; exact eq_ii
theorem set_of {i : Nat} {v : Val} (h : m μ s = .ok v s1) : sSet i m μ s = .nx (μ.set i (some v)) s1 := by
  rw [ev_set, h, sbn_ok]; rfl
theorem if_yes {C : MB} (h : t μ s = .ok true s1) : sIf t B C μ s = B μ s1 := by rw [ev_ifS, h, sbn_ok, k_if_t]
theorem arg1 {v : Val} (h : m μ s = .ok v s1) : mCons m mNil μ s = .ok [v] s1 := by rw [ev_cons, h, bnd_ok, k_cons, ev_nil, bnd_ok, k_cons2]
theorem arg2 {m2 : ME} {v w : Val} (h : m μ s = .ok v s1) (h2 : m2 μ s1 = .ok w s2) : mCons m (mCons m2 mNil) μ s = .ok [v, w] s2 := by rw [ev_cons, h, bnd_ok, k_cons, arg1 h2, bnd_ok, k_cons2]
theorem arg_c {m2 : MA} {v : Val} {ws : List Val} (h : m μ s = .ok v s1) (h2 : m2 μ s1 = .ok ws s2) : mCons m m2 μ s = .ok (v :: ws) s2 := by rw [ev_cons, h, bnd_ok, k_cons, h2, bnd_ok, k_cons2]
theorem call_of {f : FN} {a : MA} {vs : List Val} (h : a μ s = .ok vs s1) : mCall f a μ s = f vs s1 := by rw [ev_call, h, bnd_ok]
theorem tup_of {a : MA} {vs : List Val} (h : a μ s = .ok vs s1) (hl : vs.length ≤ 1000) : mTup a μ s = .ok (.tup vs) s1 := by
  rw [ev_tup, h, bnd_ok, k_tup]
  exact if_pos (by rw [sizeLine_eq]; omega)
theorem lst_of {a : MA} {vs : List Val} (h : a μ s = .ok vs s1) (hl : vs.length ≤ 1000) : mLst a μ s = .ok (.loc s1.length) (s1 ++ [.lst vs]) := by
  rw [ev_lst, h, bnd_ok, k_lst]
  exact if_pos (by rw [sizeLine_eq]; omega)
theorem rng_of {a : MA} (h : a μ s = .ok [.int j] s1) (h1 : -(2 ^ 62) ≤ j) (h2 : j < 2 ^ 62) : iRange1 a μ s = .ok (rangeL 0 j.toNat, fun _ => True) s1 := by
  rw [ev_rng1, h, bnd_ok, rng1_ok h1 h2]
end
noncomputable abbrev leC : MB := sIf (tAndM (asT (mBin eqM (mVar 4) (mC (.int 4)))) (asT (mBin eqM (mBin modV (mBin fdivV (mVar 0) (mC (.int 256))) (mC (.int 8))) (mVar 5)))) (sSet 6 (mBin modV (mBin fdivV (mVar 0) (mC (.int 2048))) (mC (.int 100)))) sNext
noncomputable abbrev leB : MB := sSeq (sSet 6 (mBin modV (mVar 3) (mVar 4))) (sSeq (sSet 3 (mBin fdivV (mVar 3) (mVar 4))) (sSeq leC (sExpr (mMtL appendF (mVar 2) (mCons (mVar 6) mNil)))))
theorem le_step {c rest W k : Int} {n : Nat} {s : Store} {es : List Int} {x1 y6 : Option Val} (hW : W = 4 ∨ W = 100) (h : s[n]? = some (.lst (es.map Val.int))) (hl : es.length ≤ 64) :
    ∃ e r', leB [some (.int c), x1, some (.loc n), some (.int rest), some (.int W), some (.int k), y6] s = .nx [some (.int c), x1, some (.loc n), some (.int r'), some (.int W), some (.int k), some (.int e)] (s.set n (.lst ((es ++ [e]).map Val.int))) ∧ 0 ≤ e ∧ e ≤ 99 := by
  have W0 : ¬ W = 0 := by omega
  have dW : Dz W := dz_c (by omega) (by omega)
  have qW := fmodc (m := W) (by omega) rest
  obtain ⟨e1, he1⟩ : ∃ e1, e1 = rest.fmod W := ⟨_, rfl⟩
  obtain ⟨r', hr'⟩ : ∃ r', r' = rest.fdiv W := ⟨_, rfl⟩
  have a1 : sSet 6 (mBin modV (mVar 3) (mVar 4)) [some (.int c), x1, some (.loc n), some (.int rest), some (.int W), some (.int k), y6] s = .nx [some (.int c), x1, some (.loc n), some (.int rest), some (.int W), some (.int k), some (.int e1)] s := by
    refine set_of (v := .int e1) ?_
    rw [he1]; exact mod_ii W0
  have a2 : sSet 3 (mBin fdivV (mVar 3) (mVar 4)) [some (.int c), x1, some (.loc n), some (.int rest), some (.int W), some (.int k), some (.int e1)] s = .nx [some (.int c), x1, some (.loc n), some (.int r'), some (.int W), some (.int k), some (.int e1)] s := by
    refine set_of (v := .int r') ?_
    rw [hr']; exact div_ii dW
  obtain ⟨e, a3, h0, h1⟩ : ∃ e, leC [some (.int c), x1, some (.loc n), some (.int r'), some (.int W), some (.int k), some (.int e1)] s = .nx [some (.int c), x1, some (.loc n), some (.int r'), some (.int W), some (.int k), some (.int e)] s ∧ 0 ≤ e ∧ e ≤ 99 := by
    have t1 : asT (mBin eqM (mVar 4) (mC (.int 4))) [some (.int c), x1, some (.loc n), some (.int r'), some (.int W), some (.int k), some (.int e1)] s = .ok (W == 4) s := asT_of (eq_of rfl)
    have dd : mBin fdivV (mVar 0) (mC (.int 256)) [some (.int c), x1, some (.loc n), some (.int r'), some (.int W), some (.int k), some (.int e1)] s = .ok (.int (c.fdiv 256)) s := div_of rfl (dz_c (by decide) (by decide))
    have t2 : asT (mBin eqM (mBin modV (mBin fdivV (mVar 0) (mC (.int 256))) (mC (.int 8))) (mVar 5)) [some (.int c), x1, some (.loc n), some (.int r'), some (.int W), some (.int k), some (.int e1)] s = .ok ((c.fdiv 256).fmod 8 == k) s := asT_of (by
      rw [bin_of (mod_of dd (by decide)) (y := .int k) (s2 := s) rfl]; exact eq_ii)
    have tt : tAndM (asT (mBin eqM (mVar 4) (mC (.int 4)))) (asT (mBin eqM (mBin modV (mBin fdivV (mVar 0) (mC (.int 256))) (mC (.int 8))) (mVar 5))) [some (.int c), x1, some (.loc n), some (.int r'), some (.int W), some (.int k), some (.int e1)] s = .ok ((W == 4) && ((c.fdiv 256).fmod 8 == k)) s := by
      rw [ev_tand, t1, bnd_ok]
      cases (W == 4) with
      | true => rw [k_tand_t, t2, Bool.true_and]
      | false => rw [k_tand_f, Bool.false_and]
    cases hb : ((W == 4) && ((c.fdiv 256).fmod 8 == k)) with
    | false => rw [hb] at tt; exact ⟨e1, if_no tt, by omega, by omega⟩
    | true =>
      rw [hb] at tt
      have q := fmodc (m := 100) (by decide) (c.fdiv 2048)
      refine ⟨(c.fdiv 2048).fmod 100, ?_, by omega, by omega⟩
      unfold leC
      rw [if_yes tt]
      exact set_of (mod_of (div_of rfl (dz_c (by decide) (by decide))) (by decide))
  refine ⟨e, r', ?_, h0, h1⟩
  have ap := append_ok (v := Val.int e) h (by rw [List.length_map, sizeLine_eq]; omega)
  have a4 : sExpr (mMtL appendF (mVar 2) (mCons (mVar 6) mNil)) [some (.int c), x1, some (.loc n), some (.int r'), some (.int W), some (.int k), some (.int e)] s = .nx [some (.int c), x1, some (.loc n), some (.int r'), some (.int W), some (.int k), some (.int e)] (s.set n (.lst ((es ++ [e]).map Val.int))) := by
    have v2 : mVar 2 [some (.int c), x1, some (.loc n), some (.int r'), some (.int W), some (.int k), some (.int e)] s = .ok (.loc n) s := rfl
    have ar : mCons (mVar 6) mNil [some (.int c), x1, some (.loc n), some (.int r'), some (.int W), some (.int k), some (.int e)] s = .ok [.int e] s := rfl
    rw [ev_expr, ev_mtL, v2, bnd_ok, k_mtL h, ar, bnd_ok, k_mt2, ap, List.map_append]; rfl
  unfold leB
  rw [ev_seq, a1, thn_nx, ev_seq, a2, thn_nx, ev_seq, a3, thn_nx, a4]
theorem le_first (c : Int) (many : Nat) (st : Store) : ∃ r0 W : Int, (W = 4 ∨ W = 100) ∧ sIf (asT (mBin eqM (mBin modV (mVar 0) (mC (.int 3))) (mC (.int 0)))) (sSeq (sSet 3 (mBin fdivV (mVar 0) (mC (.int 3)))) (sSet 4 (mC (.int 100)))) sNext [some (.int c), some (.int (many : Int)), some (.loc st.length), some (.int c), some (.int 4), none, none] (st ++ [.lst []]) = .nx [some (.int c), some (.int (many : Int)), some (.loc st.length), some (.int r0), some (.int W), none, none] (st ++ [.lst []]) := by
  have tt : asT (mBin eqM (mBin modV (mVar 0) (mC (.int 3))) (mC (.int 0))) [some (.int c), some (.int (many : Int)), some (.loc st.length), some (.int c), some (.int 4), none, none] (st ++ [.lst []]) = .ok (c.fmod 3 == 0) (st ++ [.lst []]) := asT_of (eq_of (mod_of rfl (by decide)))
  cases hb : c.fmod 3 == 0 with
  | false => rw [hb] at tt; exact ⟨c, 4, .inl rfl, if_no tt⟩
  | true =>
    rw [hb] at tt
    refine ⟨c.fdiv 3, 100, .inr rfl, ?_⟩
    have a : sSet 3 (mBin fdivV (mVar 0) (mC (.int 3))) [some (.int c), some (.int (many : Int)), some (.loc st.length), some (.int c), some (.int 4), none, none] (st ++ [.lst []]) = .nx [some (.int c), some (.int (many : Int)), some (.loc st.length), some (.int (c.fdiv 3)), some (.int 4), none, none] (st ++ [.lst []]) := set_of (div_of rfl (dz_c (by decide) (by decide)))
    rw [if_yes tt, ev_seq, a, thn_nx]; rfl
theorem law_exponents_ok (c : Int) {many : Nat} (hm : many ≤ 4) (st : Store) : ∃ g es, PM.law_exponents [.int c, .int (many : Int)] st = .ok (tupI es) (st ++ g) ∧ es.length = many ∧ ∀ e ∈ es, 0 ≤ e ∧ e ≤ 99 := by
  obtain ⟨r0, W, hW, s4⟩ := le_first c many st
  obtain ⟨μ', st', e, es, le, hes, rfl, r', y5, y6, rfl⟩ := forL_inv (g := fun _ => True) (a := aName 5) (body := leB)
    (fun i μ s' => ∃ es : List Int, es.length = i ∧ (∀ e ∈ es, 0 ≤ e ∧ e ≤ 99) ∧ s' = st ++ [.lst (es.map Val.int)] ∧ ∃ r' y5 y6, μ = [some (.int c), some (.int (many : Int)), some (.loc st.length), some (.int r'), some (.int W), y5, y6])
    (rangeL 0 (many : Int).toNat) 0 [some (.int c), some (.int (many : Int)), some (.loc st.length), some (.int r0), some (.int W), none, none] (st ++ [.lst []])
    (by
      rintro i u μ s' hu ⟨es, le, hes, rfl, r', y5, y6, rfl⟩
      refine ⟨trivial, ?_⟩
      have hu' := hu
      unfold rangeL at hu'
      rw [List.getElem?_map] at hu'
      have hi : i < (many : Int).toNat := by
        rcases Nat.lt_or_ge i (many : Int).toNat with q | q
        · exact q
        · rw [List.getElem?_eq_none (by rw [List.length_range]; exact q)] at hu'; cases hu'
      rw [List.getElem?_eq_getElem (by rw [List.length_range]; exact hi), List.getElem_range] at hu'
      cases hu'
      have hi4 : i < 4 := by omega
      obtain ⟨e, r2, eb, h0, h1⟩ := le_step (c := c) (rest := r') (k := 0 + (i : Int)) (x1 := some (.int (many : Int))) (y6 := y6) hW (la_new st (es.map Val.int)) (by omega)
      refine ⟨_, rfl, _, _, .inl eb, es ++ [e], by rw [List.length_append, le]; rfl, ?_, set_last st _ _, r2, _, _, rfl⟩
      intro x hx
      rcases List.mem_append.mp hx with hx | hx
      · exact hes x hx
      · rw [List.mem_singleton.mp hx]; exact ⟨h0, h1⟩)
    (fun _ _ _ => trivial) ⟨[], rfl, fun _ h => (by cases h), rfl, r0, none, none, rfl⟩
  refine ⟨[.lst (es.map Val.int)], es, ?_, by rw [le]; unfold rangeL; rw [List.length_map, List.length_range]; omega, hes⟩
  have a1 : sSet 2 (mLst mNil) [some (.int c), some (.int (many : Int)), none, none, none, none, none] st = .nx [some (.int c), some (.int (many : Int)), some (.loc st.length), none, none, none, none] (st ++ [.lst []]) := set_of (lst_of (vs := []) rfl (Nat.zero_le _))
  have a2 : sSet 3 (mVar 0) [some (.int c), some (.int (many : Int)), some (.loc st.length), none, none, none, none] (st ++ [.lst []]) = .nx [some (.int c), some (.int (many : Int)), some (.loc st.length), some (.int c), none, none, none] (st ++ [.lst []]) := rfl
  have a3 : sSet 4 (mC (.int 4)) [some (.int c), some (.int (many : Int)), some (.loc st.length), some (.int c), none, none, none] (st ++ [.lst []]) = .nx [some (.int c), some (.int (many : Int)), some (.loc st.length), some (.int c), some (.int 4), none, none] (st ++ [.lst []]) := rfl
  have a5 : iRange1 (mCons (mVar 1) mNil) [some (.int c), some (.int (many : Int)), some (.loc st.length), some (.int r0), some (.int W), none, none] (st ++ [.lst []]) = .ok (rangeL 0 (many : Int).toNat, fun _ => True) (st ++ [.lst []]) := rng_of rfl (by omega) (by omega)
  have v2 : mVar 2 [some (.int c), some (.int (many : Int)), some (.loc st.length), some (.int r'), some (.int W), y5, y6] (st ++ [.lst (es.map Val.int)]) = .ok (.loc st.length) (st ++ [.lst (es.map Val.int)]) := rfl
  unfold PM.law_exponents
  rw [ev_fn (np := 2) (us := [Val.int c, .int (many : Int)]) rfl]
  show (sSeq (sSet 2 (mLst mNil)) (sSeq (sSet 3 (mVar 0)) (sSeq (sSet 4 (mC (.int 4))) (sSeq _ (sSeq (sFor (iRange1 (mCons (mVar 1) mNil)) (aName 5) leB) (sRet (mCall tupF (mCons (mVar 2) mNil))))))) [some (.int c), some (.int (many : Int)), none, none, none, none, none] st).fin = _
  rw [ev_seq, a1, thn_nx, ev_seq, a2, thn_nx, ev_seq, a3, thn_nx, ev_seq, s4, thn_nx, ev_seq, ev_for, a5, sbn_ok, k_for, e, thn_nx, ev_ret, call_of (arg1 v2), tup_loc (itemsOf_new _ _), sbn_ok]
  rfl
end PG
namespace PG
open PySem PySem.Spec L2 MN
open PyProof.Rows hiding St kindOf
theorem app_of {μ : MN.Env} {s : Store} {o : ME} {a : MA} {n : Nat} {us : List Val} {v : Val} (ho : o μ s = .ok (.loc n) s) {s1 : Store} (h0 : s[n]? = some (.lst us)) (ha : a μ s = .ok [v] s1) (h : s1[n]? = some (.lst us)) (hl : us.length ≤ 1000) : sExpr (mMtL appendF o a) μ s = .nx μ (s1.set n (.lst (us ++ [v]))) := by
  rw [ev_expr, ev_mtL, ho, bnd_ok, k_mtL h0, ha, bnd_ok, k_mt2, append_ok h (by rw [sizeLine_eq]; omega), sbn_ok]; rfl
noncomputable abbrev lpP : ME := mBin addV (mVar 1) (mBin mulV (mC (.int 2)) (mVar 5))
noncomputable abbrev lprB : MB := sSeq (sSet 6 (mCall PM.law_exponents (mCons (mCall PM.law_cell_at (mCons (mVar 0) (mCons lpP mNil))) (mCons (mVar 2) mNil)))) (sExpr (mMtL appendF (mVar 4) (mCons (mTup (mCons (mVar 6) (mCons (mCall PM.law_number (mCons (mCall PM.law_cell_at (mCons (mVar 0) (mCons (mBin addV lpP (mC (.int 1))) mNil))) mNil)) mNil))) mNil)))
theorem lp_step {n q many : Nat} {ns : List Int} {place size k : Int} {P : List Trm} {s : Store} {y6 : Option Val} (h : itemsOf s n = some (ns.map Val.int)) (hq : s[q]? = some (.lst (P.map tV))) (p0 : 0 ≤ place) (p1 : place ≤ 1000) (k0 : 0 ≤ k) (k1 : k ≤ 1000) (hm : many ≤ 4) (hl : P.length ≤ 64) :
    ∃ g t y, lprB [some (.loc n), some (.int place), some (.int (many : Int)), some (.int size), some (.loc q), some (.int k), y6] s = .nx [some (.loc n), some (.int place), some (.int (many : Int)), some (.int size), some (.loc q), some (.int k), y] ((s ++ g).set q (.lst ((P ++ [t]).map tV))) ∧ Good many t ∧ Big 134 t.2 := by
  have pl : ∀ (s : Store) (y : Option Val), lpP [some (.loc n), some (.int place), some (.int (many : Int)), some (.int size), some (.loc q), some (.int k), y] s = .ok (.int (place + 2 * k)) s := fun s y => by
    have a : mBin mulV (mC (.int 2)) (mVar 5) [some (.loc n), some (.int place), some (.int (many : Int)), some (.int size), some (.loc q), some (.int k), y] s = .ok (.int (2 * k)) s := mul_l (i := 2) (by decide) (by decide)
    unfold lpP
    rw [bin_of (x := .int place) (s1 := s) rfl a]; rfl
  obtain ⟨o, ho, o0, _⟩ := cell_at (k := place + 2 * k) h (by omega) (by omega)
  obtain ⟨g, es, ee, le, re⟩ := law_exponents_ok o hm s
  have a1 : sSet 6 (mCall PM.law_exponents (mCons (mCall PM.law_cell_at (mCons (mVar 0) (mCons lpP mNil))) (mCons (mVar 2) mNil))) [some (.loc n), some (.int place), some (.int (many : Int)), some (.int size), some (.loc q), some (.int k), y6] s = .nx [some (.loc n), some (.int place), some (.int (many : Int)), some (.int size), some (.loc q), some (.int k), some (tupI es)] (s ++ g) := by
    refine set_of (v := tupI es) ?_
    rw [call_of (arg2 (v := .int o) (s1 := s) (w := .int (many : Int)) (s2 := s) ?_ rfl)]
    · exact ee
    · rw [call_of (arg2 (v := .loc n) (s1 := s) rfl (pl s y6))]; exact ho
  have h2 := itemsOf_old h g
  obtain ⟨o2, ho2, o20, _⟩ := cell_at (k := place + 2 * k + 1) h2 (by omega) (by omega)
  obtain ⟨r, hr, br⟩ := number_i o20 (s ++ g)
  have num : mCall PM.law_number (mCons (mCall PM.law_cell_at (mCons (mVar 0) (mCons (mBin addV lpP (mC (.int 1))) mNil))) mNil) [some (.loc n), some (.int place), some (.int (many : Int)), some (.int size), some (.loc q), some (.int k), some (tupI es)] (s ++ g) = .ok (.int r) (s ++ g) := by
    have ad : mBin addV lpP (mC (.int 1)) [some (.loc n), some (.int place), some (.int (many : Int)), some (.int size), some (.loc q), some (.int k), some (tupI es)] (s ++ g) = .ok (.int (place + 2 * k + 1)) (s ++ g) := by
      rw [bin_of (pl (s ++ g) _) (y := .int 1) (s2 := s ++ g) rfl]; rfl
    rw [call_of (arg1 (v := .int o2) (s1 := s ++ g) ?_)]
    · exact hr
    · rw [call_of (arg2 (v := .loc n) (s1 := s ++ g) rfl ad)]; exact ho2
  refine ⟨g, (es, r), some (tupI es), ?_, ⟨le, re⟩, br⟩
  have ap := app_of (o := mVar 4) (a := mCons (mTup (mCons (mVar 6) (mCons (mCall PM.law_number (mCons (mCall PM.law_cell_at (mCons (mVar 0) (mCons (mBin addV lpP (mC (.int 1))) mNil))) mNil)) mNil))) mNil) (v := tV (es, r)) (μ := [some (.loc n), some (.int place), some (.int (many : Int)), some (.int size), some (.loc q), some (.int k), some (tupI es)]) (s := s ++ g) (n := q) rfl (old_at hq g) (arg1 (tup_of (arg2 (v := tupI es) (s1 := s ++ g) rfl num) (by show 2 ≤ 1000; decide))) (old_at hq g) (by rw [List.length_map]; omega)
  unfold lprB
  rw [ev_seq, a1, thn_nx, ap, List.map_append]; rfl
theorem law_pairs_ok {n many size : Nat} {ns : List Int} {place : Int} {st : Store} (h : itemsOf st n = some (ns.map Val.int)) (p0 : 0 ≤ place) (p1 : place ≤ 1000) (hm : many ≤ 4) (hs : size ≤ 60) :
    ∃ (g : Store) (P : List Trm), PM.law_pairs [.loc n, .int place, .int (many : Int), .int (size : Int)] st = .ok (.loc st.length) (st ++ .lst (P.map tV) :: g) ∧ P.length = size ∧ ∀ t ∈ P, Good many t ∧ Big 134 t.2 := by
  obtain ⟨μ', st', e, P, g, lP, hP, rfl, y5, y6, rfl⟩ := forL_inv (g := fun _ => True) (a := aName 5) (body := lprB)
    (fun i μ s' => ∃ (P : List Trm) (g : Store), P.length = i ∧ (∀ t ∈ P, Good many t ∧ Big 134 t.2) ∧ s' = st ++ .lst (P.map tV) :: g ∧ ∃ y5 y6, μ = [some (.loc n), some (.int place), some (.int (many : Int)), some (.int (size : Int)), some (.loc st.length), y5, y6])
    (rangeL 0 (size : Int).toNat) 0 [some (.loc n), some (.int place), some (.int (many : Int)), some (.int (size : Int)), some (.loc st.length), none, none] (st ++ [.lst []])
    (by
      rintro i u μ s' hu ⟨P, g, lP, hP, rfl, y5, y6, rfl⟩
      refine ⟨trivial, ?_⟩
      have hu' := hu
      unfold rangeL at hu'
      rw [List.getElem?_map] at hu'
      have hi : i < (size : Int).toNat := by
        rcases Nat.lt_or_ge i (size : Int).toNat with q | q
        · exact q
        · rw [List.getElem?_eq_none (by rw [List.length_range]; exact q)] at hu'; cases hu'
      rw [List.getElem?_eq_getElem (by rw [List.length_range]; exact hi), List.getElem_range] at hu'
      cases hu'
      have hi4 : i < 60 := by omega
      obtain ⟨g2, t, y, eb, gt, bt⟩ := lp_step (size := (size : Int)) (k := 0 + (i : Int)) (y6 := y6) (itemsOf_old h (.lst (P.map tV) :: g)) (la_mid st _ g) p0 p1 (by omega) (by omega) hm (by omega)
      refine ⟨_, rfl, _, _, .inl eb, P ++ [t], g ++ g2, by rw [List.length_append, lP]; rfl, ?_, ?_, _, _, rfl⟩
      · intro x hx
        rcases List.mem_append.mp hx with hx | hx
        · exact hP x hx
        · rw [List.mem_singleton.mp hx]; exact ⟨gt, bt⟩
      · rw [List.append_assoc]; exact set_mid st _ _ _)
    (fun _ _ _ => trivial) ⟨[], [], rfl, fun _ h => (by cases h), rfl, none, none, rfl⟩
  refine ⟨g, P, ?_, by rw [lP]; unfold rangeL; rw [List.length_map, List.length_range]; omega, hP⟩
  have a1 : sSet 4 (mLst mNil) [some (.loc n), some (.int place), some (.int (many : Int)), some (.int (size : Int)), none, none, none] st = .nx [some (.loc n), some (.int place), some (.int (many : Int)), some (.int (size : Int)), some (.loc st.length), none, none] (st ++ [.lst []]) := set_of (lst_of (vs := []) rfl (Nat.zero_le _))
  have a5 : iRange1 (mCons (mVar 3) mNil) [some (.loc n), some (.int place), some (.int (many : Int)), some (.int (size : Int)), some (.loc st.length), none, none] (st ++ [.lst []]) = .ok (rangeL 0 (size : Int).toNat, fun _ => True) (st ++ [.lst []]) := rng_of rfl (by omega) (by omega)
  unfold PM.law_pairs
  rw [ev_fn (np := 4) (us := [Val.loc n, .int place, .int (many : Int), .int (size : Int)]) rfl]
  show (sSeq (sSet 4 (mLst mNil)) (sSeq (sFor (iRange1 (mCons (mVar 3) mNil)) (aName 5) lprB) (sRet (mVar 4))) [some (.loc n), some (.int place), some (.int (many : Int)), some (.int (size : Int)), none, none, none] st).fin = _
  rw [ev_seq, a1, thn_nx, ev_seq, ev_for, a5, sbn_ok, k_for, e, thn_nx]
  rfl
end PG
namespace PG
open PySem PySem.Spec L2 MN
open PyProof.Rows hiding St kindOf
noncomputable def wiB (lo hi : Int) : Val → Bool
  | .int e => decide (lo ≤ e) && decide (e ≤ hi)
  | _ => false
theorem within_any {v : Val} (h : flat v = true) (lo hi : Int) (st : Store) : PM.is_whole_within [v, .int lo, .int hi] st = .ok (.bl (wiB lo hi v)) st := by
  cases v with
  | int e => exact within_int e lo hi st
  | non => rfl
  | bl b => cases b <;> rfl
  | str z => rfl
  | _ => cases h
theorem bls_mapV (f : Val → Bool) : ∀ us : List Val, blsOf (us.map fun u => Val.bl (f u)) = some (us.map f)
  | [] => rfl
  | u :: us => by
    rw [List.map_cons]
    unfold blsOf
    rw [bls_mapV f us]; rfl
theorem are_any {us : List Val} {many : Nat} (hl : us.length = many) (hm : many ≤ 4) (hf : ∀ u ∈ us, flat u = true) (st : Store) : PM.are_exponents [.tup us, .int (many : Int)] st = .ok (.bl (us.all (wiB 0 99))) (st ++ [.lst (us.map fun u => Val.bl (wiB 0 99 u))]) := by
  have cp := compL_pure (a := aName 0) (c := tTrueM) (e := mCall PM.is_whole_within (mCons (mVar 0) (mCons (mC (.int 0)) (mCons (mC (.int 99)) mNil)))) (g := fun _ => True) (st := st) trivial (fun τ => ∃ x, τ = [x]) (fun _ => true) (fun u => .bl (wiB 0 99 u)) us [none] [] ⟨_, rfl⟩ (by
    rintro u hu τ ⟨x, rfl⟩
    refine ⟨[some u], rfl, ⟨_, rfl⟩, rfl, fun _ => ?_⟩
    have v0 : mVar 0 [some u] st = .ok u st := by
      have := hf u hu
      cases u <;> first | rfl | cases this
    rw [call_of (arg_c v0 (arg2 (v := .int 0) (s1 := st) rfl (w := .int 99) (s2 := st) rfl))]
    exact within_any (hf u hu) 0 99 st)
  rw [List.filter_eq_self.mpr fun _ _ => rfl, List.nil_append] at cp
  have v0 : mVar 0 [some (.tup us), some (.int (many : Int))] st = .ok (.tup us) st := rfl
  have cap : capM 1 [] [some (.tup us), some (.int (many : Int))] = [none] := rfl
  have comp : mComp 1 [] (iSeq (mVar 0)) (aName 0) tTrueM (mCall PM.is_whole_within (mCons (mVar 0) (mCons (mC (.int 0)) (mCons (mC (.int 99)) mNil)))) [some (.tup us), some (.int (many : Int))] st = .ok (.loc st.length) (st ++ [.lst (us.map fun u => Val.bl (wiB 0 99 u))]) := by
    rw [ev_comp, ev_iseq, v0, bnd_ok, walkK_tup, bnd_ok, k_comp, if_pos (by rw [sizeLine_eq]; omega), cap, cp, bnd_ok, k_new]
  have al : allF [.loc st.length] (st ++ [.lst (us.map fun u => Val.bl (wiB 0 99 u))]) = .ok (.bl (us.all (wiB 0 99))) (st ++ [.lst (us.map fun u => Val.bl (wiB 0 99 u))]) := by
    unfold allF
    dsimp only
    rw [itemsOf_new]
    dsimp only
    rw [bls_mapV]
    dsimp only
    rw [List.all_map]
    rfl
  have c1 : tOrM (tNotM (asT (mIs "tuple" (mVar 0)))) (asT (mBin neM (mCall lenF (mCons (mVar 0) mNil)) (mVar 1))) [some (.tup us), some (.int (many : Int))] st = .ok (!((us.length : Int) == (many : Int))) st := rfl
  rw [hl, beq_self_eq_true] at c1
  unfold PM.are_exponents
  rw [ev_fn (np := 2) (us := [.tup us, .int (many : Int)]) rfl]
  show (sSeq (sIf (tOrM (tNotM (asT (mIs "tuple" (mVar 0)))) (asT (mBin neM (mCall lenF (mCons (mVar 0) mNil)) (mVar 1)))) (sRet (mC (.bl false))) sNext) (sRet (mCall allF (mCons (mComp 1 [] (iSeq (mVar 0)) (aName 0) tTrueM (mCall PM.is_whole_within (mCons (mVar 0) (mCons (mC (.int 0)) (mCons (mC (.int 99)) mNil))))) mNil))) [some (.tup us), some (.int (many : Int))] st).fin = _
  rw [ev_seq, if_no c1, thn_nx, ev_ret, call_of (arg1 comp), al, sbn_ok]
  rfl
theorem are_len {us : List Val} {many : Nat} (hl : us.length ≠ many) (st : Store) : PM.are_exponents [.tup us, .int (many : Int)] st = .ok (.bl false) st := by
  have c1 : tOrM (tNotM (asT (mIs "tuple" (mVar 0)))) (asT (mBin neM (mCall lenF (mCons (mVar 0) mNil)) (mVar 1))) [some (.tup us), some (.int (many : Int))] st = .ok (!((us.length : Int) == (many : Int))) st := rfl
  rw [show ((us.length : Int) == (many : Int)) = false by rw [beq_eq_false_iff_ne]; omega] at c1
  unfold PM.are_exponents
  rw [ev_fn (np := 2) (us := [.tup us, .int (many : Int)]) rfl]
  show (sSeq (sIf (tOrM (tNotM (asT (mIs "tuple" (mVar 0)))) (asT (mBin neM (mCall lenF (mCons (mVar 0) mNil)) (mVar 1)))) (sRet (mC (.bl false))) sNext) _ [some (.tup us), some (.int (many : Int))] st).fin = _
  rw [ev_seq, if_yes c1]
  rfl
theorem are_kind {v : Val} {n : Int} {st : Store} (hv : mVar 0 [some v, some (.int n)] st = .ok v st) (h : isOf "tuple" v st = .ok (.bl false) st) : PM.are_exponents [v, .int n] st = .ok (.bl false) st := by
  have c1 : tOrM (tNotM (asT (mIs "tuple" (mVar 0)))) (asT (mBin neM (mCall lenF (mCons (mVar 0) mNil)) (mVar 1))) [some v, some (.int n)] st = .ok true st := by
    have a : asT (mIs "tuple" (mVar 0)) [some v, some (.int n)] st = .ok false st := asT_of (by rw [ev_is, hv, bnd_ok, h])
    rw [ev_tor, ev_tnot, a, bnd_ok]; rfl
  unfold PM.are_exponents
  rw [ev_fn (np := 2) (us := [v, .int n]) rfl]
  show (sSeq (sIf (tOrM (tNotM (asT (mIs "tuple" (mVar 0)))) (asT (mBin neM (mCall lenF (mCons (mVar 0) mNil)) (mVar 1)))) (sRet (mC (.bl false))) sNext) _ [some v, some (.int n)] st).fin = _
  rw [ev_seq, if_yes c1]
  rfl
theorem pair_kind {v : Val} {n : Int} {st : Store} (hv : mVar 0 [some v, some (.int n)] st = .ok v st) (h : isOf "tuple" v st = .ok (.bl false) st) : PM.is_pair [v, .int n] st = .ok (.bl false) st := by
  have c1 : tOrM (tNotM (asT (mIs "tuple" (mVar 0)))) (asT (mBin neM (mCall lenF (mCons (mVar 0) mNil)) (mC (.int 2)))) [some v, some (.int n)] st = .ok true st := by
    have a : asT (mIs "tuple" (mVar 0)) [some v, some (.int n)] st = .ok false st := asT_of (by rw [ev_is, hv, bnd_ok, h])
    rw [ev_tor, ev_tnot, a, bnd_ok]; rfl
  unfold PM.is_pair
  rw [ev_fn (np := 2) (us := [v, .int n]) rfl]
  show (sSeq (sIf (tOrM (tNotM (asT (mIs "tuple" (mVar 0)))) (asT (mBin neM (mCall lenF (mCons (mVar 0) mNil)) (mC (.int 2))))) (sRet (mC (.bl false))) sNext) _ [some v, some (.int n)] st).fin = _
  rw [ev_seq, if_yes c1]
  rfl
theorem pair_len {us : List Val} {n : Int} (hl : us.length ≠ 2) (st : Store) : PM.is_pair [.tup us, .int n] st = .ok (.bl false) st := by
  have c1 : tOrM (tNotM (asT (mIs "tuple" (mVar 0)))) (asT (mBin neM (mCall lenF (mCons (mVar 0) mNil)) (mC (.int 2)))) [some (.tup us), some (.int n)] st = .ok (!((us.length : Int) == 2)) st := rfl
  rw [show ((us.length : Int) == 2) = false by rw [beq_eq_false_iff_ne]; omega] at c1
  unfold PM.is_pair
  rw [ev_fn (np := 2) (us := [.tup us, .int n]) rfl]
  show (sSeq (sIf (tOrM (tNotM (asT (mIs "tuple" (mVar 0)))) (asT (mBin neM (mCall lenF (mCons (mVar 0) mNil)) (mC (.int 2))))) (sRet (mC (.bl false))) sNext) _ [some (.tup us), some (.int n)] st).fin = _
  rw [ev_seq, if_yes c1]
  rfl
theorem pair_two {x y : Val} {n : Int} {st s1 : Store} {b w : Bool} (h : PM.are_exponents [x, .int n] st = .ok (.bl b) s1) (hw : PM.is_whole [y] s1 = .ok (.bl w) s1) : PM.is_pair [.tup [x, y], .int n] st = .ok (.bl (b && w)) s1 := by
  have c1 : tOrM (tNotM (asT (mIs "tuple" (mVar 0)))) (asT (mBin neM (mCall lenF (mCons (mVar 0) mNil)) (mC (.int 2)))) [some (.tup [x, y]), some (.int n)] st = .ok false st := rfl
  have q1 : mCall PM.are_exponents (mCons (mBin ixV (mVar 0) (mC (.int 0))) (mCons (mVar 1) mNil)) [some (.tup [x, y]), some (.int n)] st = .ok (.bl b) s1 := by
    rw [call_of (arg2 (v := x) (s1 := st) rfl (w := .int n) (s2 := st) rfl)]; exact h
  have q2 : mCall PM.is_whole (mCons (mBin ixV (mVar 0) (mC (.int 1))) mNil) [some (.tup [x, y]), some (.int n)] s1 = .ok (.bl w) s1 := by
    rw [call_of (arg1 (v := y) (s1 := s1) rfl)]; exact hw
  unfold PM.is_pair
  rw [ev_fn (np := 2) (us := [.tup [x, y], .int n]) rfl]
  show (sSeq (sIf (tOrM (tNotM (asT (mIs "tuple" (mVar 0)))) (asT (mBin neM (mCall lenF (mCons (mVar 0) mNil)) (mC (.int 2))))) (sRet (mC (.bl false))) sNext) (sRet (mAnd (mCall PM.are_exponents (mCons (mBin ixV (mVar 0) (mC (.int 0))) (mCons (mVar 1) mNil))) (mCall PM.is_whole (mCons (mBin ixV (mVar 0) (mC (.int 1))) mNil)))) [some (.tup [x, y]), some (.int n)] st).fin = _
  rw [ev_seq, if_no c1, thn_nx, ev_ret, ev_and, q1, bnd_ok]
  cases b with
  | true => rw [k_and_t, q2, sbn_ok]; rfl
  | false => rfl
structure Odd (many : Nat) (v : Val) (s : Store) : Prop where
  no : ∀ g, ∃ g', PM.is_pair [v, .int (many : Int)] (s ++ g) = .ok (.bl false) (s ++ g ++ g')
  eq : ∀ g, eqD 15 (s ++ g) v v = some true
  nx : isX v = false
theorem Odd.old {many : Nat} {v : Val} {s : Store} (h : Odd many v s) (g : Store) : Odd many v (s ++ g) :=
  ⟨fun g2 => by have := h.no (g ++ g2); rw [← List.append_assoc] at this; exact this, fun g2 => by have := h.eq (g ++ g2); rw [← List.append_assoc] at this; exact this, h.nx⟩
end PG
namespace PG
open PySem PySem.Spec L2 MN
open PyProof.Rows hiding St kindOf
noncomputable def ones (many : Nat) : List Int := List.replicate many 1
theorem ones_len (many : Nat) : (ones many).length = many := List.length_replicate ..
theorem reps_ones : ∀ many : Nat, repsV many [Val.int 1] = (ones many).map Val.int
  | 0 => rfl
  | n + 1 => by
    show [Val.int 1] ++ repsV n [Val.int 1] = _
    rw [reps_ones n]; rfl
theorem ones_rg (many : Nat) : ∀ e ∈ ones many, 0 ≤ e ∧ e ≤ 99 := fun e he => by
  rw [List.eq_of_mem_replicate he]; decide
theorem whole_no {v : Val} (h : v = .non ∨ v = .bl true) (s : Store) : PM.is_whole [v] s = .ok (.bl false) s := by
  rcases h with rfl | rfl <;> rfl
section
variable {many : Nat} {s : Store}
theorem odd_non : Odd many .non s := ⟨fun g => ⟨[], by rw [List.append_nil]; exact pair_kind rfl rfl⟩, fun _ => rfl, rfl⟩
theorem odd_len {us : List Val} (h : us.length ≠ 2) (hp : pureDs 13 us = true) : Odd many (.tup us) s := ⟨fun g => ⟨[], by rw [List.append_nil]; exact pair_len h _⟩, fun g => eqD_self _ 14 _ hp, rfl⟩
theorem odd_num {v : Val} (hm : many ≤ 4) (h : v = .non ∨ v = .bl true) : Odd many (.tup [tupI (ones many), v]) s := by
  refine ⟨fun g => ⟨_, pair_two (are_ok (ones_len many) hm (ones_rg many) (s ++ g)) (whole_no h _)⟩, fun g => eqD_self _ 14 _ ?_, rfl⟩
  show (pureDs 12 ((ones many).map Val.int) && (pureD 13 v && true)) = true
  rw [pureDs_ints]
  rcases h with rfl | rfl <;> rfl
theorem odd_lst {n : Nat} {us : List Val} (h : s[n]? = some (.lst us)) (hp : pureDs 13 us = true) : Odd many (.loc n) s := by
  refine ⟨fun g => ⟨[], ?_⟩, fun g => ?_, rfl⟩
  · rw [List.append_nil]
    refine pair_kind rfl ?_
    unfold isOf isT kindOf
    dsimp only
    rw [old_at h g]
    rfl
  · unfold eqD
    simp only [vw, it_of (old_at h g), Option.map_some]
    exact eqDs_self _ 13 us hp
theorem odd_first {x : Val} (hv : ∀ (n : Int) (s : Store), mVar 0 [some x, some (.int n)] s = .ok x s) (h : ∀ g, isOf "tuple" x (s ++ g) = .ok (.bl false) (s ++ g)) (he : ∀ g, eqD 14 (s ++ g) x x = some true) : Odd many (.tup [x, .int 1]) s := by
  refine ⟨fun g => ⟨[], by rw [List.append_nil]; exact pair_two (are_kind (hv _ _) (h g)) rfl⟩, fun g => ?_, rfl⟩
  unfold eqD
  simp only [vw, eqDs, he g]
  rfl
theorem odd_exps {us : List Val} (h : us.length ≠ many) (hp : pureDs 12 us = true) : Odd many (.tup [.tup us, .int 1]) s := by
  refine ⟨fun g => ⟨[], by rw [List.append_nil]; exact pair_two (are_len h _) rfl⟩, fun g => eqD_self _ 14 _ ?_, rfl⟩
  show (pureDs 12 us && (true && true)) = true
  rw [hp]; rfl
theorem pure_flat {v : Val} (h : flat v = true) (n : Nat) : pureD n v = true := by
  cases v <;> first | (cases n <;> rfl) | cases h
theorem odd_bad {k1 k2 : List Int} {b : Val} (hm : many ≤ 4) (hl : k1.length + 1 + k2.length = many) (hf : flat b = true) (hb : wiB 0 99 b = false) : Odd many (.tup [.tup (k1.map Val.int ++ [b] ++ k2.map Val.int), .int 1]) s := by
  have hfl : ∀ u ∈ k1.map Val.int ++ [b] ++ k2.map Val.int, flat u = true := by
    intro u hu
    rcases List.mem_append.mp hu with hu | hu
    · rcases List.mem_append.mp hu with hu | hu
      · obtain ⟨i, _, rfl⟩ := List.mem_map.mp hu; rfl
      · rw [List.mem_singleton.mp hu]; exact hf
    · obtain ⟨i, _, rfl⟩ := List.mem_map.mp hu; rfl
  have al : (k1.map Val.int ++ [b] ++ k2.map Val.int).all (wiB 0 99) = false := by
    rw [List.all_append, List.all_append]
    show (_ && (wiB 0 99 b && true) && _) = false
    rw [hb, Bool.false_and, Bool.and_false, Bool.false_and]
  refine ⟨fun g => ⟨[.lst ((k1.map Val.int ++ [b] ++ k2.map Val.int).map fun u => Val.bl (wiB 0 99 u))], ?_⟩, fun g => eqD_self _ 14 _ ?_, rfl⟩
  · have := are_any (us := k1.map Val.int ++ [b] ++ k2.map Val.int) (many := many) (by rw [List.length_append, List.length_append, List.length_map, List.length_map]; exact hl) hm hfl (s ++ g)
    rw [al] at this
    exact pair_two (y := .int 1) (w := true) this rfl
  · show (pureDs 12 (k1.map Val.int ++ [b] ++ k2.map Val.int) && (true && true)) = true
    rw [pureDs_of fun u hu => pure_flat (hfl u hu) 12]; rfl
end
end PG
namespace PG
open PySem PySem.Spec L2 MN
open PyProof.Rows hiding St kindOf
theorem add_tv {a b : List Val} {s : Store} (h : a.length + b.length ≤ 64) : addV (.tup a) (.tup b) s = .ok (.tup (a ++ b)) s := by
  show (if a.length + b.length ≤ sizeLine then Res.ok (Val.tup (a ++ b)) s else .bad) = _
  rw [if_pos (by rw [sizeLine_eq]; omega)]
section
variable {μ : MN.Env} {s s1 : Store} {a m : ME} {k : Int} {x : Val}
theorem sl_up (h : a μ s = .ok x s) (h1 : m μ s = .ok (.int k) s) : mSl a oNone (oSome m) μ s = slV none (some k) x s := by
  rw [ev_sl, h, bnd_ok, k_sl, ev_onone, bnd_ok, k_sl2, ev_osome, h1, bnd_ok, kO_i, bnd_ok, k_sl3]
theorem sl_dn (h : a μ s = .ok x s) (h1 : m μ s = .ok (.int k) s) : mSl a (oSome m) oNone μ s = slV (some k) none x s := by
  rw [ev_sl, h, bnd_ok, k_sl, ev_osome, h1, bnd_ok, kO_i, bnd_ok, k_sl2, ev_onone, bnd_ok, k_sl3]
end
theorem pick {st : Store} {n : Nat} {us : List Val} {i : Int} (h : itemsOf st n = some us) (h0 : 0 ≤ i) (h1 : i < (us.length : Int)) : ∃ v ∈ us, ixV (.loc n) (.int i) st = .ok v st := by
  obtain ⟨j, hj⟩ : ∃ j : Nat, (j : Int) = i := ⟨i.toNat, by omega⟩
  have hl : j < us.length := by omega
  refine ⟨us[j], List.getElem_mem hl, ?_⟩
  rw [← hj]
  exact ix_loc h (L2.atI_nat (List.getElem?_eq_getElem hl))
noncomputable def bads : List Val := [.int (-1), .int 100, .bl true, .non, .str "1", .int (10 ^ 9), .int (-10 ^ 9), .bl false]
theorem bads_ok : ∀ b ∈ bads, flat b = true ∧ wiB 0 99 b = false := by
  intro b hb
  unfold bads at hb
  simp only [List.mem_cons, List.not_mem_nil, or_false] at hb
  rcases hb with rfl | rfl | rfl | rfl | rfl | rfl | rfl | rfl <;> exact ⟨rfl, by decide⟩
noncomputable def lo0 (G : Val) (p q : Nat) (H : Val) : List Val := [.non, .tup [G, .bl true], .tup [G, .non], .tup [G], .tup [G, .int 1, .int 1], .loc p, .tup [.loc q, .int 1], .tup [H, .int 1]]
noncomputable abbrev loG : ME := mCall tupF (mCons (mBin mulV (mLst (mCons (mC (.int 1)) mNil)) (mVar 1)) mNil)
noncomputable abbrev loL : ME := mLst (mCons (mC .non) (mCons (mTup (mCons (mVar 2) (mCons (mC (.bl true)) mNil))) (mCons (mTup (mCons (mVar 2) (mCons (mC .non) mNil))) (mCons (mTup (mCons (mVar 2) mNil)) (mCons (mTup (mCons (mVar 2) (mCons (mC (.int 1)) (mCons (mC (.int 1)) mNil)))) (mCons (mLst (mCons (mVar 2) (mCons (mC (.int 1)) mNil))) (mCons (mTup (mCons (mCall lstF (mCons (mVar 2) mNil)) (mCons (mC (.int 1)) mNil))) (mCons (mTup (mCons (mBin addV (mVar 2) (mTup (mCons (mC (.int 0)) mNil))) (mCons (mC (.int 1)) mNil))) mNil))))))))
noncomputable abbrev loX : ME := mBin ixV (mLst (mCons (mNeg (mC (.int 1))) (mCons (mC (.int 100)) (mCons (mC (.bl true)) (mCons (mC .non) (mCons (mC (.str "1")) (mCons (mBin powV (mC (.int 10)) (mC (.int 9))) (mCons (mNeg (mBin powV (mC (.int 10)) (mC (.int 9)))) (mCons (mC (.bl false)) mNil))))))))) (mBin modV (mBin fdivV (mVar 0) (mC (.int 22))) (mC (.int 8)))
noncomputable abbrev loT : ME := mTup (mCons (mBin addV (mBin addV (mSl (mVar 2) oNone (oSome (mVar 5))) (mTup (mCons (mVar 4) mNil))) (mSl (mVar 2) (oSome (mBin addV (mVar 5) (mC (.int 1)))) oNone)) (mCons (mC (.int 1)) mNil))
noncomputable abbrev loS : ME := mBin addV (mBin addV (mVar 3) (mLst (mCons (mTup (mCons (mSl (mVar 2) (oSome (mC (.int 1))) oNone) (mCons (mC (.int 1)) mNil))) (mCons (mTup (mCons (mC (.str "x")) (mCons (mC (.int 1)) mNil))) mNil)))) (mBin mulV (mLst (mCons loT mNil)) (mC (.int 12)))
theorem lo_G {c : Int} {many : Nat} (hm : many ≤ 4) (st : Store) : ∃ g, loG [some (.int c), some (.int (many : Int)), none, none, none, none] st = .ok (tupI (ones many)) (st ++ g) := by
  have l : mLst (mCons (mC (.int 1)) mNil) [some (.int c), some (.int (many : Int)), none, none, none, none] st = .ok (.loc st.length) (st ++ [.lst [.int 1]]) := lst_of (vs := [.int 1]) rfl (by show 1 ≤ 1000; decide)
  have mu := mul_li (k := (many : Int)) (la_new st [.int 1]) (by omega) (by omega) (by rw [sizeLine_eq]; show 1 * _ ≤ _; omega)
  refine ⟨[.lst [.int 1]] ++ [.lst (repsV (many : Int).toNat [.int 1])], ?_⟩
  have b := bin_of (f := mulV) l (y := .int (many : Int)) (s2 := st ++ [.lst [.int 1]]) (b := mVar 1) rfl
  rw [mu] at b
  unfold loG
  rw [call_of (arg1 b), tup_loc (itemsOf_new _ _), List.append_assoc, Int.toNat_natCast, reps_ones]
  rfl
theorem lo_L {c : Int} {many : Nat} (hm : many ≤ 4) (s : Store) : loL [some (.int c), some (.int (many : Int)), some (tupI (ones many)), none, none, none] s =
    .ok (.loc (s.length + 2)) (s ++ [.lst [tupI (ones many), .int 1]] ++ [.lst ((ones many).map Val.int)] ++ [.lst (lo0 (tupI (ones many)) s.length (s.length + 1) (tupI (ones many ++ [0])))]) := by
  obtain ⟨s1, hs1⟩ : ∃ s1, s1 = s ++ [Cell.lst [tupI (ones many), .int 1]] := ⟨_, rfl⟩
  obtain ⟨s2, hs2⟩ : ∃ s2, s2 = s1 ++ [Cell.lst ((ones many).map Val.int)] := ⟨_, rfl⟩
  have l1 : s1.length = s.length + 1 := by rw [hs1, List.length_append]; rfl
  have l2 : s2.length = s.length + 2 := by rw [hs2, List.length_append, l1]; rfl
  rw [← hs1, ← hs2, ← l1, ← l2]
  obtain ⟨μ, hμ⟩ : ∃ μ : MN.Env, μ = [some (.int c), some (.int (many : Int)), some (tupI (ones many)), none, none, none] := ⟨_, rfl⟩
  have v2 : ∀ s, mVar 2 μ s = .ok (tupI (ones many)) s := fun s => by rw [hμ]; rfl
  rw [← hμ]
  have e5 : mLst (mCons (mVar 2) (mCons (mC (.int 1)) mNil)) μ s = .ok (.loc s.length) s1 := by
    rw [hs1]; exact lst_of (arg2 (v2 s) (w := .int 1) (s2 := s) rfl) (by show 2 ≤ 1000; decide)
  have e6 : mTup (mCons (mCall lstF (mCons (mVar 2) mNil)) (mCons (mC (.int 1)) mNil)) μ s1 = .ok (.tup [.loc s1.length, .int 1]) s2 := by
    refine tup_of (arg2 (v := .loc s1.length) (s1 := s2) ?_ (w := .int 1) (s2 := s2) rfl) (by show 2 ≤ 1000; decide)
    rw [call_of (arg1 (v2 s1)), hs2]; rfl
  have e7 : mTup (mCons (mBin addV (mVar 2) (mTup (mCons (mC (.int 0)) mNil))) (mCons (mC (.int 1)) mNil)) μ s2 = .ok (.tup [tupI (ones many ++ [0]), .int 1]) s2 := by
    refine tup_of (arg2 (v := tupI (ones many ++ [0])) (s1 := s2) ?_ (w := .int 1) (s2 := s2) rfl) (by show 2 ≤ 1000; decide)
    rw [bin_of (v2 s2) (y := tupI [0]) (s2 := s2) (tup_of (vs := [.int 0]) (arg1 rfl) (by show 1 ≤ 1000; decide))]
    exact add_tt (by rw [ones_len]; show many + 1 ≤ 64; omega)
  have e1 : mTup (mCons (mVar 2) (mCons (mC (.bl true)) mNil)) μ s = .ok (.tup [tupI (ones many), .bl true]) s := tup_of (arg2 (v2 s) (w := .bl true) (s2 := s) rfl) (by show 2 ≤ 1000; decide)
  have e2 : mTup (mCons (mVar 2) (mCons (mC .non) mNil)) μ s = .ok (.tup [tupI (ones many), .non]) s := tup_of (arg2 (v2 s) (w := .non) (s2 := s) rfl) (by show 2 ≤ 1000; decide)
  have e3 : mTup (mCons (mVar 2) mNil) μ s = .ok (.tup [tupI (ones many)]) s := tup_of (arg1 (v2 s)) (by show 1 ≤ 1000; decide)
  have e4 : mTup (mCons (mVar 2) (mCons (mC (.int 1)) (mCons (mC (.int 1)) mNil))) μ s = .ok (.tup [tupI (ones many), .int 1, .int 1]) s := tup_of (arg_c (v2 s) (arg2 (v := .int 1) (s1 := s) rfl (w := .int 1) (s2 := s) rfl)) (by show 3 ≤ 1000; decide)
  exact lst_of (arg_c (v := .non) (s1 := s) rfl (arg_c e1 (arg_c e2 (arg_c e3 (arg_c e4 (arg_c e5 (arg_c e6 (arg1 e7)))))))) (by show 8 ≤ 1000; decide)
theorem lo_X {c : Int} {x1 x2 x3 : Option Val} (s : Store) : ∃ b ∈ bads, loX [some (.int c), x1, x2, x3, none, none] s = .ok b (s ++ [.lst bads]) := by
  have q := fmodc (m := 8) (by decide) (c.fdiv 22)
  obtain ⟨b, hb, e⟩ := pick (st := s ++ [.lst bads]) (n := s.length) (us := bads) (i := (c.fdiv 22).fmod 8) (itemsOf_new s bads) q.1 q.2
  refine ⟨b, hb, ?_⟩
  obtain ⟨μ, hμ⟩ : ∃ μ : MN.Env, μ = [some (.int c), x1, x2, x3, none, none] := ⟨_, rfl⟩
  have v0 : ∀ s, mVar 0 μ s = .ok (.int c) s := fun s => by rw [hμ]; rfl
  rw [← hμ]
  have pw : mBin powV (mC (.int 10)) (mC (.int 9)) μ s = .ok (.int (10 ^ 9)) s := pow_ii (by decide)
  have ng : mNeg (mBin powV (mC (.int 10)) (mC (.int 9))) μ s = .ok (.int (-10 ^ 9)) s := by
    rw [ev_neg, pw, bnd_ok, negV_int]
  have n1 : mNeg (mC (.int 1)) μ s = .ok (.int (-1)) s := rfl
  have l : mLst (mCons (mNeg (mC (.int 1))) (mCons (mC (.int 100)) (mCons (mC (.bl true)) (mCons (mC .non) (mCons (mC (.str "1")) (mCons (mBin powV (mC (.int 10)) (mC (.int 9))) (mCons (mNeg (mBin powV (mC (.int 10)) (mC (.int 9)))) (mCons (mC (.bl false)) mNil)))))))) μ s = .ok (.loc s.length) (s ++ [.lst bads]) :=
    lst_of (arg_c n1 (arg_c (v := .int 100) (s1 := s) rfl (arg_c (v := .bl true) (s1 := s) rfl (arg_c (v := .non) (s1 := s) rfl (arg_c (v := .str "1") (s1 := s) rfl (arg_c pw (arg_c ng (arg1 (v := .bl false) (s1 := s) rfl)))))))) (by show 8 ≤ 1000; decide)
  unfold loX
  rw [bin_of l (mod_of (div_of (v0 _) (dz_c (by decide) (by decide))) (by decide)), e]
end PG
namespace PG
open PySem PySem.Spec L2 MN
open PyProof.Rows hiding St kindOf
theorem reps12 (t : Val) : repsV 12 [t] = [t, t, t, t, t, t, t, t, t, t, t, t] := rfl
theorem law_odd_ok (c : Int) {many : Nat} (h1 : 1 ≤ many) (hm : many ≤ 4) (st : Store) : ∃ g v, PM.law_odd_v2 [.int c, .int (many : Int)] st = .ok v (st ++ g) ∧ Odd many v (st ++ g) := by
  obtain ⟨g1, e1⟩ := lo_G (c := c) hm st
  obtain ⟨s1, hs1⟩ : ∃ s1, s1 = st ++ g1 := ⟨_, rfl⟩
  rw [← hs1] at e1
  have e2 := lo_L (c := c) hm s1
  obtain ⟨L, hL⟩ : ∃ L, L = lo0 (tupI (ones many)) s1.length (s1.length + 1) (tupI (ones many ++ [0])) := ⟨_, rfl⟩
  rw [← hL] at e2
  have lL : L.length = 8 := by rw [hL]; rfl
  obtain ⟨s4, hs4⟩ : ∃ s4, s4 = s1 ++ [.lst [tupI (ones many), .int 1]] ++ [.lst ((ones many).map Val.int)] ++ [.lst L] := ⟨_, rfl⟩
  rw [← hs4] at e2
  have at5 : s4[s1.length]? = some (.lst [tupI (ones many), .int 1]) := by rw [hs4]; exact old_at (old_at (la_new _ _) _) _
  have at6 : s4[s1.length + 1]? = some (.lst ((ones many).map Val.int)) := by
    have : (s1 ++ [Cell.lst [tupI (ones many), .int 1]]).length = s1.length + 1 := by rw [List.length_append]; rfl
    rw [hs4, ← this]; exact old_at (la_new _ _) _
  have atL : s4[s1.length + 2]? = some (.lst L) := by
    have : (s1 ++ [Cell.lst [tupI (ones many), .int 1]] ++ [Cell.lst ((ones many).map Val.int)]).length = s1.length + 2 := by rw [List.length_append, List.length_append]; rfl
    rw [hs4, ← this]; exact la_new _ _
  obtain ⟨b, hb, e3⟩ := lo_X (c := c) (x1 := some (.int (many : Int))) (x2 := some (tupI (ones many))) (x3 := some (.loc (s1.length + 2))) s4
  obtain ⟨s5, hs5⟩ : ∃ s5, s5 = s4 ++ [Cell.lst bads] := ⟨_, rfl⟩
  rw [← hs5] at e3
  have hbf := bads_ok b hb
  have qa := fmodc (m := (many : Int)) (by omega) (c.fdiv 176)
  obtain ⟨a, ha⟩ : ∃ a : Nat, (a : Int) = (c.fdiv 176).fmod (many : Int) := ⟨((c.fdiv 176).fmod (many : Int)).toNat, by omega⟩
  have am : a < many := by omega
  obtain ⟨μ, hμ⟩ : ∃ μ : MN.Env, μ = [some (.int c), some (.int (many : Int)), some (tupI (ones many)), some (.loc (s1.length + 2)), some b, some (.int (a : Int))] := ⟨_, rfl⟩
  have vb : ∀ s, mVar 4 μ s = .ok b s := fun s => by
    rw [hμ]
    have := hbf.1
    cases b <;> first | rfl | cases this
  have v2 : ∀ s, mVar 2 μ s = .ok (tupI (ones many)) s := fun s => by rw [hμ]; rfl
  have v3 : ∀ s, mVar 3 μ s = .ok (.loc (s1.length + 2)) s := fun s => by rw [hμ]; rfl
  have v5 : ∀ s, mVar 5 μ s = .ok (.int (a : Int)) s := fun s => by rw [hμ]; rfl
  have v0 : ∀ s, mVar 0 μ s = .ok (.int c) s := fun s => by rw [hμ]; rfl
  -- the ninth and the tenth
  obtain ⟨t8, ht8⟩ : ∃ t8, t8 = Val.tup [tupI ((ones many).drop 1), .int 1] := ⟨_, rfl⟩
  obtain ⟨t9, ht9⟩ : ∃ t9, t9 = Val.tup [.str "x", .int 1] := ⟨_, rfl⟩
  obtain ⟨t, ht⟩ : ∃ t, t = Val.tup [.tup (((ones many).take a).map Val.int ++ [b] ++ ((ones many).drop (a + 1)).map Val.int), .int 1] := ⟨_, rfl⟩
  obtain ⟨s6, hs6⟩ : ∃ s6, s6 = s5 ++ [Cell.lst [t8, t9]] := ⟨_, rfl⟩
  have at5' : s5[s1.length + 2]? = some (.lst L) := by rw [hs5]; exact old_at atL _
  have l2 : mLst (mCons (mTup (mCons (mSl (mVar 2) (oSome (mC (.int 1))) oNone) (mCons (mC (.int 1)) mNil))) (mCons (mTup (mCons (mC (.str "x")) (mCons (mC (.int 1)) mNil))) mNil)) μ s5 = .ok (.loc s5.length) s6 := by
    have sl : mSl (mVar 2) (oSome (mC (.int 1))) oNone μ s5 = .ok (tupI ((ones many).drop 1)) s5 := by
      rw [sl_dn (v2 s5) (k := 1) rfl]
      exact sl_hi (a := 0) (by rw [ones_len]; omega) s5
    have e8 : mTup (mCons (mSl (mVar 2) (oSome (mC (.int 1))) oNone) (mCons (mC (.int 1)) mNil)) μ s5 = .ok t8 s5 := by
      rw [ht8]; exact tup_of (arg2 sl (w := .int 1) (s2 := s5) rfl) (by show 2 ≤ 1000; decide)
    have e9 : mTup (mCons (mC (.str "x")) (mCons (mC (.int 1)) mNil)) μ s5 = .ok t9 s5 := by
      rw [ht9]; exact tup_of (arg2 (v := .str "x") (s1 := s5) rfl (w := .int 1) (s2 := s5) rfl) (by show 2 ≤ 1000; decide)
    rw [hs6]
    exact lst_of (arg2 e8 e9) (by show 2 ≤ 1000; decide)
  have a1 : mBin addV (mVar 3) (mLst (mCons (mTup (mCons (mSl (mVar 2) (oSome (mC (.int 1))) oNone) (mCons (mC (.int 1)) mNil))) (mCons (mTup (mCons (mC (.str "x")) (mCons (mC (.int 1)) mNil))) mNil))) μ s5 = .ok (.loc s6.length) (s6 ++ [.lst (L ++ [t8, t9])]) := by
    rw [bin_of (v3 s5) l2]
    refine add_ll ?_ ?_ ?_
    · rw [hs6]; exact old_at at5' _
    · rw [hs6]; exact la_new _ _
    · rw [lL, sizeLine_eq]; show 8 + 2 ≤ 16777216; decide
  obtain ⟨s7, hs7⟩ : ∃ s7, s7 = s6 ++ [Cell.lst (L ++ [t8, t9])] := ⟨_, rfl⟩
  rw [← hs7] at a1
  have eT : loT μ s7 = .ok t s7 := by
    have lo : mSl (mVar 2) oNone (oSome (mVar 5)) μ s7 = .ok (tupI ((ones many).take a)) s7 := by
      rw [sl_up (v2 s7) (v5 s7)]; exact sl_lo (by rw [ones_len]; omega) s7
    have hi : mSl (mVar 2) (oSome (mBin addV (mVar 5) (mC (.int 1)))) oNone μ s7 = .ok (tupI ((ones many).drop (a + 1))) s7 := by
      have q : mBin addV (mVar 5) (mC (.int 1)) μ s7 = .ok (.int ((a : Int) + 1)) s7 := by
        rw [bin_of (v5 s7) (y := .int 1) (s2 := s7) rfl]; rfl
      rw [sl_dn (v2 s7) q]; exact sl_hi (by rw [ones_len]; omega) s7
    have mid : mTup (mCons (mVar 4) mNil) μ s7 = .ok (.tup [b]) s7 := tup_of (arg1 (vb s7)) (by show 1 ≤ 1000; decide)
    have ab : mBin addV (mSl (mVar 2) oNone (oSome (mVar 5))) (mTup (mCons (mVar 4) mNil)) μ s7 = .ok (.tup (((ones many).take a).map Val.int ++ [b])) s7 := by
      rw [bin_of lo mid]
      exact add_tv (by rw [List.length_map, List.length_take, ones_len]; show min a many + 1 ≤ 64; omega)
    have abc : mBin addV (mBin addV (mSl (mVar 2) oNone (oSome (mVar 5))) (mTup (mCons (mVar 4) mNil))) (mSl (mVar 2) (oSome (mBin addV (mVar 5) (mC (.int 1)))) oNone) μ s7 = .ok (.tup (((ones many).take a).map Val.int ++ [b] ++ ((ones many).drop (a + 1)).map Val.int)) s7 := by
      rw [bin_of ab hi]
      exact add_tv (by rw [List.length_append, List.length_map, List.length_map, List.length_take, List.length_drop, ones_len]; show min a many + 1 + _ ≤ 64; omega)
    rw [ht]
    exact tup_of (arg2 abc (w := .int 1) (s2 := s7) rfl) (by show 2 ≤ 1000; decide)
  have l3 : mLst (mCons loT mNil) μ s7 = .ok (.loc s7.length) (s7 ++ [.lst [t]]) := lst_of (arg1 eT) (by show 1 ≤ 1000; decide)
  obtain ⟨s8, hs8⟩ : ∃ s8, s8 = s7 ++ [Cell.lst [t]] := ⟨_, rfl⟩
  rw [← hs8] at l3
  have mu : mBin mulV (mLst (mCons loT mNil)) (mC (.int 12)) μ s7 = .ok (.loc s8.length) (s8 ++ [.lst (repsV 12 [t])]) := by
    rw [bin_of l3 (y := .int 12) (s2 := s8) rfl]
    exact mul_li (k := 12) (us := [t]) (by rw [hs8]; exact la_new _ _) (by decide) (by decide) (by rw [sizeLine_eq]; show 1 * 12 ≤ 16777216; decide)
  obtain ⟨s9, hs9⟩ : ∃ s9, s9 = s8 ++ [Cell.lst (repsV 12 [t])] := ⟨_, rfl⟩
  rw [← hs9] at mu
  obtain ⟨F, hF⟩ : ∃ F, F = L ++ [t8, t9] ++ repsV 12 [t] := ⟨_, rfl⟩
  have lF : F.length = 22 := by rw [hF, List.length_append, List.length_append, lL]; rfl
  have eS : loS μ s5 = .ok (.loc s9.length) (s9 ++ [.lst F]) := by
    unfold loS
    rw [bin_of a1 mu, hF]
    refine add_ll ?_ ?_ ?_
    · rw [hs9, hs8, hs7]; exact old_at (old_at (la_new _ _) _) _
    · rw [hs9]; exact la_new _ _
    · rw [List.length_append, lL, sizeLine_eq]; show 8 + 2 + 12 ≤ 16777216; decide
  obtain ⟨s, hs⟩ : ∃ s, s = s9 ++ [Cell.lst F] := ⟨_, rfl⟩
  rw [← hs] at eS
  have q := fmodc (m := 22) (by decide) c
  obtain ⟨v, hv, ev⟩ := pick (st := s) (n := s9.length) (us := F) (i := c.fmod 22) (by rw [hs]; exact itemsOf_new _ _) q.1 (by rw [lF]; exact q.2)
  have es : s = s4 ++ ([Cell.lst bads] ++ [Cell.lst [t8, t9]] ++ [Cell.lst (L ++ [t8, t9])] ++ [Cell.lst [t]] ++ [Cell.lst (repsV 12 [t])] ++ [Cell.lst F]) := by
    rw [hs, hs9, hs8, hs7, hs6, hs5]; simp only [List.append_assoc]
  obtain ⟨G, est⟩ : ∃ G, st ++ G = s := ⟨(g1 ++ [Cell.lst [tupI (ones many), .int 1]] ++ [.lst ((ones many).map Val.int)] ++ [.lst L] ++ ([Cell.lst bads] ++ [Cell.lst [t8, t9]] ++ [Cell.lst (L ++ [t8, t9])] ++ [Cell.lst [t]] ++ [Cell.lst (repsV 12 [t])] ++ [Cell.lst F])), by
    rw [es, hs4, hs1]; simp only [List.append_assoc]⟩
  refine ⟨G, v, ?_, ?_⟩
  rotate_left
  · rw [est]
    have oL : ∀ v ∈ F, Odd many v s := by
      intro v hv
      have d5 : s[s1.length]? = some (.lst [tupI (ones many), .int 1]) := by rw [es]; exact old_at at5 _
      have d6 : s[s1.length + 1]? = some (.lst ((ones many).map Val.int)) := by rw [es]; exact old_at at6 _
      rw [hF, reps12, hL] at hv
      unfold lo0 at hv
      simp only [List.cons_append, List.nil_append, List.mem_cons, List.not_mem_nil, or_false] at hv
      have o10 : Odd many t s := by
        rw [ht]; exact odd_bad hm (by rw [List.length_take, List.length_drop, ones_len]; omega) hbf.1 hbf.2
      rcases hv with rfl | rfl | rfl | rfl | rfl | rfl | rfl | rfl | rfl | rfl | rfl | rfl | rfl | rfl | rfl | rfl | rfl | rfl | rfl | rfl | rfl | rfl
      · exact odd_non
      · exact odd_num hm (.inr rfl)
      · exact odd_num hm (.inl rfl)
      · exact odd_len (by show 1 ≠ 2; decide) (by show (pureDs 12 _ && true) = true; rw [pureDs_ints]; rfl)
      · exact odd_len (by show 3 ≠ 2; decide) (by show (pureDs 12 _ && (true && (true && true))) = true; rw [pureDs_ints]; rfl)
      · exact odd_lst d5 (by show (pureDs 12 _ && (true && true)) = true; rw [pureDs_ints]; rfl)
      · refine odd_first (fun _ _ => rfl) (fun g => ?_) (fun g => ?_)
        · unfold isOf isT kindOf
          dsimp only
          rw [old_at d6 g]
          rfl
        · unfold eqD
          simp only [vw, it_of (old_at d6 g), Option.map_some]
          exact eqDs_self _ 12 _ (pureDs_ints 12 _)
      · exact odd_exps (by rw [List.length_map, List.length_append, ones_len]; show many + 1 ≠ many; omega) (pureDs_ints 12 _)
      · rw [ht8]; exact odd_exps (by rw [List.length_map, List.length_drop, ones_len]; omega) (pureDs_ints 12 _)
      · rw [ht9]; exact odd_first (fun _ _ => rfl) (fun _ => rfl) (fun _ => rfl)
      all_goals exact o10
    exact oL v hv
  · rw [est]
    have x1 : sSet 2 loG [some (.int c), some (.int (many : Int)), none, none, none, none] st = .nx [some (.int c), some (.int (many : Int)), some (tupI (ones many)), none, none, none] s1 := set_of e1
    have x2 : sSet 3 loL [some (.int c), some (.int (many : Int)), some (tupI (ones many)), none, none, none] s1 = .nx [some (.int c), some (.int (many : Int)), some (tupI (ones many)), some (.loc (s1.length + 2)), none, none] s4 := set_of e2
    have x3 : sSet 4 loX [some (.int c), some (.int (many : Int)), some (tupI (ones many)), some (.loc (s1.length + 2)), none, none] s4 = .nx [some (.int c), some (.int (many : Int)), some (tupI (ones many)), some (.loc (s1.length + 2)), some b, none] s5 := set_of e3
    have x4 : sSet 5 (mBin modV (mBin fdivV (mVar 0) (mC (.int 176))) (mVar 1)) [some (.int c), some (.int (many : Int)), some (tupI (ones many)), some (.loc (s1.length + 2)), some b, none] s5 = .nx μ s5 := by
      rw [hμ, ha]
      refine set_of (v := .int ((c.fdiv 176).fmod (many : Int))) ?_
      have dd : mBin fdivV (mVar 0) (mC (.int 176)) [some (.int c), some (.int (many : Int)), some (tupI (ones many)), some (.loc (s1.length + 2)), some b, none] s5 = .ok (.int (c.fdiv 176)) s5 := div_of rfl (dz_c (by decide) (by decide))
      rw [bin_of dd (y := .int (many : Int)) (s2 := s5) rfl]
      exact mod_ii (by omega)
    have x5 : sSet 3 loS μ s5 = .nx (μ.set 3 (some (.loc s9.length))) s := set_of eS
    have r6 : mBin ixV (mVar 3) (mBin modV (mVar 0) (mC (.int 22))) (μ.set 3 (some (.loc s9.length))) s = .ok v s := by
      have w3 : mVar 3 (μ.set 3 (some (.loc s9.length))) s = .ok (.loc s9.length) s := by rw [hμ]; rfl
      have w0 : mVar 0 (μ.set 3 (some (.loc s9.length))) s = .ok (.int c) s := by rw [hμ]; rfl
      rw [bin_of w3 (mod_of w0 (by decide)), ev]
    unfold PM.law_odd_v2
    rw [ev_fn (np := 2) (us := [Val.int c, .int (many : Int)]) rfl]
    show (sSeq (sSet 2 loG) (sSeq (sSet 3 loL) (sSeq (sSet 4 loX) (sSeq (sSet 5 (mBin modV (mBin fdivV (mVar 0) (mC (.int 176))) (mVar 1))) (sSeq (sSet 3 loS) (sRet (mBin ixV (mVar 3) (mBin modV (mVar 0) (mC (.int 22))))))))) [some (.int c), some (.int (many : Int)), none, none, none, none] st).fin = _
    rw [ev_seq, x1, thn_nx, ev_seq, x2, thn_nx, ev_seq, x3, thn_nx, ev_seq, x4, thn_nx, ev_seq, x5, thn_nx, ev_ret, r6, sbn_ok]
    rfl
end PG
namespace PG
open PySem PySem.Spec L2 MN
open PyProof.Rows hiding St kindOf
theorem var_flat {v : Val} (h : isX v = false) {i : Nat} {μ : MN.Env} (hi : μ[i]? = some (some v)) (s : Store) : mVar i μ s = .ok v s := by
  unfold mVar
  rw [hi]
  cases v <;> first | rfl | cases h
theorem flat_nx {v : Val} (h : flat v = true) : isX v = false := by cases v <;> first | rfl | cases h
theorem unknowns_no {v : Val} (h : flat v = true) (hb : wiB 1 4 v = false) (st : Store) : PM.check_unknowns [v] st = .err "NoUnknowns" st := by
  have v0 : mVar 0 [some v] st = .ok v st := var_flat (flat_nx h) rfl st
  have q : mCall PM.is_whole_within (mCons (mVar 0) (mCons (mC (.int 1)) (mCons (mC (.int 4)) mNil))) [some v] st = .ok (.bl false) st := by
    rw [call_of (arg_c v0 (arg2 (v := .int 1) (s1 := st) rfl (w := .int 4) (s2 := st) rfl)), within_any h, hb]
  have t : tNotM (asT (mCall PM.is_whole_within (mCons (mVar 0) (mCons (mC (.int 1)) (mCons (mC (.int 4)) mNil))))) [some v] st = .ok true st := by
    rw [ev_tnot, asT_of q]; rfl
  unfold PM.check_unknowns
  rw [ev_fn (np := 1) (us := [v]) rfl]
  show (sIf (tNotM (asT (mCall PM.is_whole_within (mCons (mVar 0) (mCons (mC (.int 1)) (mCons (mC (.int 4)) mNil)))))) _ sNext [some v] st).fin = _
  rw [if_yes t]
  rfl
theorem cpB_good {t : Trm} {many p : Nat} (G : Good many t) (hm : many ≤ 4) (s : Store) : ∃ g, cpB [some (.int (many : Int)), some (.loc p), some (tV t)] s = .nx [some (.int (many : Int)), some (.loc p), some (tV t)] (s ++ g) := by
  have ip := is_pair_ok G hm s
  have q : mCall PM.is_pair (mCons (mVar 2) (mCons (mVar 0) mNil)) [some (.int (many : Int)), some (.loc p), some (tV t)] s = .ok (.bl true) (s ++ [.lst (t.1.map fun _ => Val.bl true)]) := by
    show PM.is_pair [tV t, .int (many : Int)] s = _
    exact ip
  exact ⟨_, if_no (not_t (asT_of q))⟩
theorem cpB_odd {v : Val} {many p : Nat} {s : Store} (O : Odd many v s) : ∃ g, cpB [some (.int (many : Int)), some (.loc p), some v] s = .er "NoTerm" [some (.int (many : Int)), some (.loc p), some v] (s ++ g) := by
  obtain ⟨g, ip⟩ := O.no []
  rw [List.append_nil] at ip
  have v2 : mVar 2 [some (.int (many : Int)), some (.loc p), some v] s = .ok v s := var_flat O.nx rfl s
  have q : mCall PM.is_pair (mCons (mVar 2) (mCons (mVar 0) mNil)) [some (.int (many : Int)), some (.loc p), some v] s = .ok (.bl false) (s ++ g) := by
    rw [call_of (arg2 v2 (w := .int (many : Int)) (s2 := s) rfl), ip]
  have t : tNotM (asT (mCall PM.is_pair (mCons (mVar 2) (mCons (mVar 0) mNil)))) [some (.int (many : Int)), some (.loc p), some v] s = .ok true (s ++ g) := by
    rw [ev_tnot, asT_of q]; rfl
  refine ⟨g, ?_⟩
  unfold cpB
  rw [if_yes t]
  rfl
theorem cp_err {G : Store → Prop} {st : Store} (hg : ∀ g, G (st ++ g)) {many p : Nat} {v : Val} {us : List Val} (hm : many ≤ 4) (O : Odd many v st) : ∀ (P : List Trm) (y : Option Val) (g : Store), (∀ t ∈ P, Good many t) → ∃ μ' g', forL G (aName 2) cpB (P.map tV ++ v :: us) [some (.int (many : Int)), some (.loc p), y] (st ++ g) = .er "NoTerm" μ' (st ++ g')
  | [], y, g, _ => by
    obtain ⟨g2, e⟩ := cpB_odd (p := p) (O.old g)
    refine ⟨[some (.int (many : Int)), some (.loc p), some v], g ++ g2, ?_⟩
    show forL G (aName 2) cpB (v :: us) _ _ = _
    unfold forL
    rw [if_pos (hg g)]
    show (match cpB [some (.int (many : Int)), some (.loc p), some v] (st ++ g) with | .nx μ' st' => forL G (aName 2) cpB us μ' st' | .ct μ' st' => forL G (aName 2) cpB us μ' st' | .bk μ' st' => .nx μ' st' | .rt v st' => .rt v st' | .er c μ' st' => .er c μ' st' | .bad => .bad) = _
    rw [e, List.append_assoc]
  | t :: P, y, g, h => by
    obtain ⟨g2, e⟩ := cpB_good (p := p) (h t List.mem_cons_self) hm (st ++ g)
    obtain ⟨μ', g', ih⟩ := cp_err hg hm O P (some (tV t)) (g ++ g2) (fun q hq => h q (List.mem_cons_of_mem _ hq))
    refine ⟨μ', g', ?_⟩
    show forL G (aName 2) cpB (tV t :: (P.map tV ++ v :: us)) _ _ = _
    unfold forL
    rw [if_pos (hg g)]
    show (match cpB [some (.int (many : Int)), some (.loc p), some (tV t)] (st ++ g) with | .nx μ' st' => forL G (aName 2) cpB (P.map tV ++ v :: us) μ' st' | .ct μ' st' => forL G (aName 2) cpB (P.map tV ++ v :: us) μ' st' | .bk μ' st' => .nx μ' st' | .rt v st' => .rt v st' | .er c μ' st' => .er c μ' st' | .bad => .bad) = _
    rw [e, List.append_assoc]
    exact ih
theorem pairs_no {p many : Nat} {P : List Trm} {v : Val} {us : List Val} {st : Store} (h : itemsOf st p = some (P.map tV ++ v :: us)) (G : ∀ t ∈ P, Good many t) (hm : many ≤ 4) (O : Odd many v st) : ∃ g, PM.check_pairs [.int (many : Int), .loc p] st = .err "NoTerm" (st ++ g) := by
  obtain ⟨μ', g, e⟩ := cp_err (G := fun st' => itemsOf st' p = some (P.map tV ++ v :: us)) (fun g => itemsOf_old h g) (p := p) (us := us) hm O P none [] G
  rw [List.append_nil] at e
  refine ⟨g, ?_⟩
  have v1 : mVar 1 [some (Val.int (many : Int)), some (.loc p), none] st = .ok (.loc p) st := rfl
  unfold PM.check_pairs
  rw [ev_fn (np := 2) (us := [Val.int (many : Int), .loc p]) rfl]
  show (sFor (iSeq (mVar 1)) (aName 2) cpB [some (.int (many : Int)), some (.loc p), none] st).fin = _
  rw [ev_for, ev_iseq, v1, bnd_ok, walkK_loc h, sbn_ok, k_for, e]
  rfl
theorem made_no1 {p : Nat} {v : Val} {r : Int} {st : Store} (hr : ringB r = true) (h : flat v = true) (hb : wiB 1 4 v = false) : ∃ g, PM.made [.int r, v, .loc p] st = .err "NoUnknowns" (st ++ g) := by
  obtain ⟨g1, e1⟩ := check_ring_ok hr st
  have e2 := unknowns_no h hb (st ++ g1)
  refine ⟨g1, ?_⟩
  have q1 : mCall PM.check_ring (mCons (mVar 0) mNil) [some (.int r), some v, some (.loc p), none, none, none] st = .ok .non (st ++ g1) := by
    show PM.check_ring [.int r] st = _
    exact e1
  have x1 : sExpr (mCall PM.check_ring (mCons (mVar 0) mNil)) [some (.int r), some v, some (.loc p), none, none, none] st = .nx [some (.int r), some v, some (.loc p), none, none, none] (st ++ g1) := by
    rw [ev_expr, q1, sbn_ok]; rfl
  have v1 : mVar 1 [some (.int r), some v, some (.loc p), none, none, none] (st ++ g1) = .ok v (st ++ g1) := var_flat (flat_nx h) rfl _
  have q2 : mCall PM.check_unknowns (mCons (mVar 1) mNil) [some (.int r), some v, some (.loc p), none, none, none] (st ++ g1) = .err "NoUnknowns" (st ++ g1) := by
    rw [call_of (arg1 v1), e2]
  unfold PM.made
  rw [ev_fn (np := 3) (us := [Val.int r, v, .loc p]) rfl]
  show (sSeq (sExpr (mCall PM.check_ring (mCons (mVar 0) mNil))) (sSeq (sExpr (mCall PM.check_unknowns (mCons (mVar 1) mNil))) _) [some (.int r), some v, some (.loc p), none, none, none] st).fin = _
  rw [ev_seq, x1, thn_nx, ev_seq, ev_expr, q2, sbn_err, thn_er]
  rfl
theorem made_no2 {p many : Nat} {P : List Trm} {v : Val} {us : List Val} {r : Int} {st : Store} (hr : ringB r = true) (h : itemsOf st p = some (P.map tV ++ v :: us)) (G : ∀ t ∈ P, Good many t) (h1 : 1 ≤ many) (hm : many ≤ 4) (O : Odd many v st) : ∃ g, PM.made [.int r, .int (many : Int), .loc p] st = .err "NoTerm" (st ++ g) := by
  obtain ⟨g1, e1⟩ := check_ring_ok hr st
  have e2 := check_unknowns_ok h1 hm (st ++ g1)
  obtain ⟨g3, e3⟩ := pairs_no (itemsOf_old h g1) G hm (O.old g1)
  refine ⟨g1 ++ g3, ?_⟩
  have q1 : mCall PM.check_ring (mCons (mVar 0) mNil) [some (.int r), some (.int (many : Int)), some (.loc p), none, none, none] st = .ok .non (st ++ g1) := by
    show PM.check_ring [.int r] st = _
    exact e1
  have x1 : sExpr (mCall PM.check_ring (mCons (mVar 0) mNil)) [some (.int r), some (.int (many : Int)), some (.loc p), none, none, none] st = .nx [some (.int r), some (.int (many : Int)), some (.loc p), none, none, none] (st ++ g1) := by
    rw [ev_expr, q1, sbn_ok]; rfl
  have q2 : mCall PM.check_unknowns (mCons (mVar 1) mNil) [some (.int r), some (.int (many : Int)), some (.loc p), none, none, none] (st ++ g1) = .ok .non (st ++ g1) := by
    show PM.check_unknowns [.int (many : Int)] (st ++ g1) = _
    exact e2
  have x2 : sExpr (mCall PM.check_unknowns (mCons (mVar 1) mNil)) [some (.int r), some (.int (many : Int)), some (.loc p), none, none, none] (st ++ g1) = .nx [some (.int r), some (.int (many : Int)), some (.loc p), none, none, none] (st ++ g1) := by
    rw [ev_expr, q2, sbn_ok]; rfl
  have q3 : mCall PM.check_pairs (mCons (mVar 1) (mCons (mVar 2) mNil)) [some (.int r), some (.int (many : Int)), some (.loc p), none, none, none] (st ++ g1) = .err "NoTerm" (st ++ g1 ++ g3) := by
    show PM.check_pairs [.int (many : Int), .loc p] (st ++ g1) = _
    exact e3
  unfold PM.made
  rw [ev_fn (np := 3) (us := [Val.int r, .int (many : Int), .loc p]) rfl]
  show (sSeq (sExpr (mCall PM.check_ring (mCons (mVar 0) mNil))) (sSeq (sExpr (mCall PM.check_unknowns (mCons (mVar 1) mNil))) (sSeq (sExpr (mCall PM.check_pairs (mCons (mVar 1) (mCons (mVar 2) mNil)))) _)) [some (.int r), some (.int (many : Int)), some (.loc p), none, none, none] st).fin = _
  rw [ev_seq, x1, thn_nx, ev_seq, x2, thn_nx, ev_seq, ev_expr, q3, sbn_err, thn_er, List.append_assoc]
  rfl
end PG
namespace PG
open PySem PySem.Spec L2 MN
open PyProof.Rows hiding St kindOf
theorem cut_take (us : List Val) (k : Nat) : cutL us none (some (k : Int)) = us.take k := by
  unfold cutL
  rw [HT.sIx_none, HT.sIx_nat, List.drop_zero, Nat.sub_zero]
  rcases Nat.le_total k us.length with h | h
  · rw [Nat.min_eq_left h]
  · rw [Nat.min_eq_right h, List.take_of_length_le h, List.take_of_length_le (Nat.le_refl _)]
theorem cut_drop {us : List Val} {k : Nat} (h : k ≤ us.length) : cutL us (some (k : Int)) none = us.drop k := by
  unfold cutL
  rw [HT.sIx_none, HT.sIx_nat, Nat.min_eq_left h, List.take_of_length_le (by rw [List.length_drop]; omega)]
theorem eqDs_refl {f : Val → Val → Option Bool} : ∀ (U : List Val), (∀ u ∈ U, f u u = some true) → eqDs f U U = some true
  | [], _ => rfl
  | u :: U, h => by
    unfold eqDs
    rw [h u List.mem_cons_self, eqDs_refl U fun w hw => h w (List.mem_cons_of_mem _ hw)]; rfl
noncomputable def negT (P : List Trm) : List Trm := P.map fun t => (t.1, -t.2)
noncomputable abbrev ngE : ME := mComp 1 [] (iSeq (mSl (mVar 5) oNone (oSome (mC (.int 3))))) (aName 0) tTrueM (mTup (mCons (mBin ixV (mVar 0) (mC (.int 0))) (mCons (mNeg (mBin ixV (mVar 0) (mC (.int 1)))) mNil)))
theorem ng_ok {μ : MN.Env} {p : Nat} {P : List Trm} {s : Store} (v5 : mVar 5 μ s = .ok (.loc p) s) (h : itemsOf s p = some (P.map tV)) (hl : P.length ≤ 64) :
    ngE μ s = .ok (.loc (s.length + 1)) (s ++ [.lst ((P.take 3).map tV)] ++ [.lst ((negT (P.take 3)).map tV)]) := by
  obtain ⟨s1, hs1⟩ : ∃ s1, s1 = s ++ [Cell.lst ((P.take 3).map tV)] := ⟨_, rfl⟩
  have l1 : s1.length = s.length + 1 := by rw [hs1, List.length_append]; rfl
  have sl : mSl (mVar 5) oNone (oSome (mC (.int 3))) μ s = .ok (.loc s.length) s1 := by
    rw [sl_up v5 (k := 3) rfl, sl_loc h, hs1]
    have := cut_take (P.map tV) 3
    rw [← List.map_take] at this
    rw [← this]; rfl
  have h1 : itemsOf s1 s.length = some ((P.take 3).map tV) := by rw [hs1]; exact itemsOf_new _ _
  have cp := compL_pure (a := aName 0) (c := tTrueM) (e := mTup (mCons (mBin ixV (mVar 0) (mC (.int 0))) (mCons (mNeg (mBin ixV (mVar 0) (mC (.int 1)))) mNil))) (g := fun st' => itemsOf st' s.length = some ((P.take 3).map tV)) (st := s1) h1 (fun τ => ∃ x, τ = [x]) (fun _ => true) (fun v => tV ((tOf v).1, -(tOf v).2)) ((P.take 3).map tV) [none] [] ⟨_, rfl⟩ (by
    rintro u hu τ ⟨x, rfl⟩
    obtain ⟨t, ht, rfl⟩ := List.mem_map.mp hu
    refine ⟨[some (tV t)], rfl, ⟨_, rfl⟩, rfl, fun _ => ?_⟩
    have a0 : mBin ixV (mVar 0) (mC (.int 0)) [some (tV t)] s1 = .ok (tupI t.1) s1 := rfl
    have a1 : mNeg (mBin ixV (mVar 0) (mC (.int 1))) [some (tV t)] s1 = .ok (.int (-t.2)) s1 := rfl
    rw [tOf_t]
    exact tup_of (arg2 a0 a1) (by show 2 ≤ 1000; decide))
  have e : (List.filter (fun _ => true) ((P.take 3).map tV)).map (fun v => tV ((tOf v).1, -(tOf v).2)) = (negT (P.take 3)).map tV := by
    unfold negT
    rw [List.filter_eq_self.mpr fun _ _ => rfl, List.map_map, List.map_map]
    refine List.map_congr_left fun t _ => ?_
    show tV ((tOf (tV t)).1, -(tOf (tV t)).2) = _
    rw [tOf_t]; rfl
  rw [e, List.nil_append] at cp
  have cap : capM 1 [] μ = [none] := rfl
  unfold ngE
  rw [ev_comp, ev_iseq, sl, bnd_ok, walkK_loc h1, bnd_ok, k_comp, if_pos (by rw [List.length_map, List.length_take, sizeLine_eq]; omega), cap, cp, bnd_ok, k_new, l1, hs1]
noncomputable abbrev n2E : ME := mBin addV (mVar 5) ngE
theorem n2_ok {μ : MN.Env} {p : Nat} {P : List Trm} {s : Store} (v5 : mVar 5 μ s = .ok (.loc p) s) (h : s[p]? = some (.lst (P.map tV))) (hl : P.length ≤ 64) :
    ∃ g k, n2E μ s = .ok (.loc k) (s ++ g) ∧ (s ++ g)[k]? = some (.lst ((P ++ negT (P.take 3)).map tV)) := by
  have e := ng_ok v5 (it_of h) hl
  obtain ⟨s2, hs2⟩ : ∃ s2, s2 = s ++ [Cell.lst ((P.take 3).map tV)] ++ [Cell.lst ((negT (P.take 3)).map tV)] := ⟨_, rfl⟩
  rw [← hs2] at e
  have k1 : s2[p]? = some (.lst (P.map tV)) := by rw [hs2]; exact old_at (old_at h _) _
  have k2 : s2[s.length + 1]? = some (.lst ((negT (P.take 3)).map tV)) := by
    have : (s ++ [Cell.lst ((P.take 3).map tV)]).length = s.length + 1 := by rw [List.length_append]; rfl
    rw [hs2, ← this]; exact la_new _ _
  have ad := add_ll k1 k2 (by unfold negT; rw [List.length_map, List.length_map, List.length_map, List.length_take, sizeLine_eq]; omega)
  rw [← List.map_append] at ad
  refine ⟨[Cell.lst ((P.take 3).map tV)] ++ [Cell.lst ((negT (P.take 3)).map tV)] ++ [Cell.lst ((P ++ negT (P.take 3)).map tV)], s2.length, ?_, ?_⟩
  · unfold n2E
    rw [bin_of v5 e, ad, hs2]; simp only [List.append_assoc]
  · have : s ++ ([Cell.lst ((P.take 3).map tV)] ++ [Cell.lst ((negT (P.take 3)).map tV)] ++ [Cell.lst ((P ++ negT (P.take 3)).map tV)]) = s2 ++ [Cell.lst ((P ++ negT (P.take 3)).map tV)] := by rw [hs2]; simp only [List.append_assoc]
    rw [this]; exact la_new _ _
theorem neg_good {many : Nat} {P : List Trm} (G : ∀ t ∈ P, Good many t) : ∀ t ∈ P ++ negT (P.take 3), Good many t := by
  intro t ht
  rcases List.mem_append.mp ht with ht | ht
  · exact G t ht
  · unfold negT at ht
    obtain ⟨q, hq, rfl⟩ := List.mem_map.mp ht
    have := G q (List.mem_of_mem_take hq)
    exact ⟨this.len, this.rg⟩
noncomputable abbrev inE (m : ME) : ME := mBin addV (mBin addV (mSl (mVar 5) oNone (oSome (mVar 6))) (mLst (mCons m mNil))) (mSl (mVar 5) (oSome (mVar 6)) oNone)
theorem in_ok {μ : MN.Env} {p a : Nat} {P : List Trm} {s : Store} {m : ME} {v : Val} {s2 g2 : Store} (v5 : ∀ s, mVar 5 μ s = .ok (.loc p) s) (v6 : ∀ s, mVar 6 μ s = .ok (.int (a : Int)) s) (h : s[p]? = some (.lst (P.map tV))) (hl : P.length ≤ 64) (ha : a ≤ P.length)
    (hs2 : s2 = s ++ [Cell.lst ((P.take a).map tV)] ++ g2) (hm : m μ (s ++ [.lst ((P.take a).map tV)]) = .ok v s2) :
    ∃ g k, inE m μ s = .ok (.loc k) (s2 ++ g) ∧ (s2 ++ g)[k]? = some (.lst ((P.take a).map tV ++ v :: (P.drop a).map tV)) := by
  have sl : mSl (mVar 5) oNone (oSome (mVar 6)) μ s = .ok (.loc s.length) (s ++ [.lst ((P.take a).map tV)]) := by
    rw [sl_up (v5 s) (v6 s), sl_loc (it_of h), cut_take, ← List.map_take]
  have ls : mLst (mCons m mNil) μ (s ++ [.lst ((P.take a).map tV)]) = .ok (.loc s2.length) (s2 ++ [.lst [v]]) := lst_of (arg1 hm) (by show 1 ≤ 1000; decide)
  obtain ⟨s3, hs3⟩ : ∃ s3, s3 = s2 ++ [Cell.lst [v]] := ⟨_, rfl⟩
  rw [← hs3] at ls
  have k1 : s3[s.length]? = some (.lst ((P.take a).map tV)) := by rw [hs3, hs2]; exact old_at (old_at (la_new _ _) _) _
  have k2 : s3[s2.length]? = some (.lst [v]) := by rw [hs3]; exact la_new _ _
  have kp : s3[p]? = some (.lst (P.map tV)) := by rw [hs3, hs2]; exact old_at (old_at (old_at h _) _) _
  have ad := add_ll k1 k2 (by rw [List.length_map, List.length_take, sizeLine_eq]; show min a P.length + 1 ≤ _; omega)
  have b1 : mBin addV (mSl (mVar 5) oNone (oSome (mVar 6))) (mLst (mCons m mNil)) μ s = .ok (.loc s3.length) (s3 ++ [.lst ((P.take a).map tV ++ [v])]) := by
    rw [bin_of sl ls, ad]
  obtain ⟨s4, hs4⟩ : ∃ s4, s4 = s3 ++ [Cell.lst ((P.take a).map tV ++ [v])] := ⟨_, rfl⟩
  rw [← hs4] at b1
  have s2' : mSl (mVar 5) (oSome (mVar 6)) oNone μ s4 = .ok (.loc s4.length) (s4 ++ [.lst ((P.drop a).map tV)]) := by
    rw [sl_dn (v5 s4) (v6 s4), sl_loc (us := P.map tV) (by rw [hs4]; exact it_of (old_at kp _)), cut_drop (by rw [List.length_map]; exact ha), ← List.map_drop]
  obtain ⟨s5, hs5⟩ : ∃ s5, s5 = s4 ++ [Cell.lst ((P.drop a).map tV)] := ⟨_, rfl⟩
  rw [← hs5] at s2'
  have ad2 := add_ll (st := s5) (n := s3.length) (us := (P.take a).map tV ++ [v]) (m := s4.length) (ws := (P.drop a).map tV) (by rw [hs5, hs4]; exact old_at (la_new _ _) _) (by rw [hs5]; exact la_new _ _) (by rw [List.length_append, List.length_map, List.length_map, List.length_take, List.length_drop, sizeLine_eq]; show min a P.length + 1 + _ ≤ _; omega)
  rw [List.append_assoc] at ad2
  refine ⟨[Cell.lst [v]] ++ [Cell.lst ((P.take a).map tV ++ [v])] ++ [Cell.lst ((P.drop a).map tV)] ++ [Cell.lst ((P.take a).map tV ++ v :: (P.drop a).map tV)], s5.length, ?_, ?_⟩
  · unfold inE
    rw [bin_of b1 s2', ad2, hs5, hs4, hs3]; simp only [List.append_assoc]; rfl
  · have : s2 ++ ([Cell.lst [v]] ++ [Cell.lst ((P.take a).map tV ++ [v])] ++ [Cell.lst ((P.drop a).map tV)] ++ [Cell.lst ((P.take a).map tV ++ v :: (P.drop a).map tV)]) = s5 ++ [Cell.lst ((P.take a).map tV ++ v :: (P.drop a).map tV)] := by rw [hs5, hs4, hs3]; simp only [List.append_assoc]
    rw [this]; exact la_new _ _
end PG
namespace K05
open PySem PySem.Spec L2 MN
open PyProof.Rows hiding St
noncomputable def tab : List (Str × Str × Bool) := [("NoRing", "NoUnknowns", false), ("NoRing", "NoTerm", false), ("NoRing", "AlgebraError", true), ("NoRing", "ValueError", true), ("NoUnknowns", "NoUnknowns", true), ("NoUnknowns", "NoTerm", false), ("NoUnknowns", "AlgebraError", true), ("NoUnknowns", "ValueError", true), ("NoTerm", "NoUnknowns", false), ("NoTerm", "NoTerm", true), ("NoTerm", "AlgebraError", true), ("NoTerm", "ValueError", true)]
noncomputable def kn : List Str := ["NoRing", "NoUnknowns", "NoTerm"]
noncomputable def w_law_told : FN := fnM 3 3 (noOut (sTry (knL kn) (sRet (mTup (mCons (noE (mC (.str "told"))) (mCons (mCall PM.made (noE (mCons (mVar 0) (mCons (mVar 1) (mCons (mVar 2) mNil))))) mNil)))) (hCons (subL tab) "NoUnknowns" (sRet (mTup (mCons (mC (.str "no unknowns")) (mCons (mLst mNil) mNil)))) (hCons (subL tab) "NoTerm" (sRet (mTup (mCons (mC (.str "no term")) (mCons (mLst mNil) mNil)))) hNil))))
noncomputable def w_law_refused : FN := fnM 3 4 (sSeq (noOut (sTry (knL kn) (sExpr (mCall PM.made (noE (mCons (mVar 0) (mCons (mVar 1) (mCons (mVar 2) mNil)))))) (hAs (subL tab) "AlgebraError" 3 (sRet (mIsX (subL tab) 3 "ValueError")) hNil))) (sRet (mC (.bl false))))
noncomputable def w_law_t17 : MB := (sRet (mAnd (mCall PM.law_same (mCons (mCall PM.made (mCons (mVar 1) (mCons (mVar 4) (mCons (mVar 9) mNil)))) (mCons (mCall PM.law_gathered (mCons (mVar 1) (mCons (mVar 5) mNil))) mNil))) (mBin eqM (mVar 9) (mVar 5))))
noncomputable def w_law_t16 : MB := (sSeq (sExpr (mMtL appendF (mBin ixV (mVar 10) (mC (.int 1))) (mCons (mC (.int 7)) mNil))) w_law_t17)
noncomputable def w_law_t15 : MB := (sSeq (sIf (tOrM (asT (mBin neM (mBin ixV (mVar 10) (mC (.int 0))) (mC (.str "told")))) (tNotM (asT (mCall PM.law_same (mCons (mBin ixV (mVar 10) (mC (.int 1))) (mCons (mCall PM.law_gathered (mCons (mVar 1) (mCons (mVar 5) mNil))) mNil)))))) (sRet (mC (.bl false))) sNext) w_law_t16)
noncomputable def w_law_t14 : MB := (sSeq (sIf (asT (mBin eqM (mBin modV (mVar 3) (mC (.int 4))) (mC (.int 1)))) (sRet (mAnd (mBin eqM (mBin ixV (mVar 10) (mC (.int 0))) (mC (.str "no term"))) (mCall w_law_refused (mCons (mVar 1) (mCons (mVar 4) (mCons (mVar 9) mNil)))))) sNext) w_law_t15)
noncomputable def w_law_t13 : MB := (sSeq (sIf (asT (mVar 8)) (sRet (mAnd (mBin eqM (mBin ixV (mVar 10) (mC (.int 0))) (mC (.str "no unknowns"))) (mCall w_law_refused (mCons (mVar 1) (mCons (mVar 7) (mCons (mVar 9) mNil)))))) sNext) w_law_t14)
noncomputable def w_law_t12 : MB := (sSeq (sIf (asT (mBin neM (mVar 9) (mVar 5))) (sRet (mC (.bl false))) sNext) w_law_t13)
noncomputable def w_law_t11 : MB := (sSeq (sSet 10 (mCall w_law_told (mCons (mVar 1) (mCons (mVar 7) (mCons (mVar 9) mNil))))) w_law_t12)
noncomputable def w_law_t10 : MB := (sSeq (sSet 9 (mCall lstF (mCons (mVar 5) mNil))) w_law_t11)
noncomputable def w_law_t9 : MB := (sSeq (sIf (asT (mVar 8)) (sSet 7 (mBin ixV (mLst (mCons (mC (.int 0)) (mCons (mC (.int 5)) (mCons (mNeg (mC (.int 1))) (mCons (mC (.bl true)) (mCons (mC .non) (mCons (mC (.str "1")) (mCons (mC (.int 99)) mNil)))))))) (mBin modV (mCall PM.law_cell_at (mCons (mVar 0) (mCons (mC (.int 4)) mNil))) (mC (.int 7))))) sNext) w_law_t10)
noncomputable def w_law_t8 : MB := (sSeq (sSet 8 (mBin eqM (mBin modV (mBin fdivV (mVar 3) (mC (.int 4))) (mC (.int 8))) (mC (.int 1)))) w_law_t9)
noncomputable def w_law_t7 : MB := (sSeq (sSet 7 (mVar 4)) w_law_t8)
noncomputable def w_law_t6 : MB := (sSeq (sIf (asT (mBin eqM (mBin modV (mVar 3) (mC (.int 4))) (mC (.int 1)))) (sSeq (sSet 6 (mBin modV (mBin fdivV (mVar 3) (mC (.int 4))) (mBin addV (mCall lenF (mCons (mVar 5) mNil)) (mC (.int 1))))) (sSet 5 (mBin addV (mBin addV (mSl (mVar 5) oNone (oSome (mVar 6))) (mLst (mCons (mCall PM.law_odd_v2 (mCons (mCall PM.law_cell_at (mCons (mVar 0) (mCons (mC (.int 3)) mNil))) (mCons (mVar 4) mNil))) mNil))) (mSl (mVar 5) (oSome (mVar 6)) oNone)))) sNext) w_law_t7)
noncomputable def w_law_t5 : MB := (sSeq (sIf (asT (mBin eqM (mBin modV (mBin fdivV (mVar 2) (mC (.int 40))) (mC (.int 3))) (mC (.int 1)))) (sSet 5 (mBin addV (mVar 5) (mComp 1 [] (iSeq (mSl (mVar 5) oNone (oSome (mC (.int 3))))) (aName 0) tTrueM (mTup (mCons (mBin ixV (mVar 0) (mC (.int 0))) (mCons (mNeg (mBin ixV (mVar 0) (mC (.int 1)))) mNil)))))) sNext) w_law_t6)
noncomputable def w_law_t4 : MB := (sSeq (sSet 5 (mCall PM.law_pairs (mCons (mVar 0) (mCons (mC (.int 5)) (mCons (mVar 4) (mCons (mBin modV (mBin fdivV (mVar 2) (mC (.int 4))) (mC (.int 10))) mNil)))))) w_law_t5)
noncomputable def w_law_t3 : MB := (sSeq (sSet 4 (mBin addV (mC (.int 1)) (mBin modV (mVar 2) (mC (.int 4))))) w_law_t4)
noncomputable def w_law_t2 : MB := (sSeq (sSet 3 (mCall PM.law_cell_at (mCons (mVar 0) (mCons (mC (.int 2)) mNil)))) w_law_t3)
noncomputable def w_law_t1 : MB := (sSeq (sSet 2 (mCall PM.law_cell_at (mCons (mVar 0) (mCons (mC (.int 1)) mNil)))) w_law_t2)
noncomputable def w_law : FN := fnM 1 11 (sSeq (sSet 1 (mCall PM.law_ring (mCons (mCall PM.law_cell_at (mCons (mVar 0) (mCons (mC (.int 0)) mNil))) mNil))) w_law_t1)
end K05
namespace K05
open PySem PySem.Spec L2 MN PG
open PyProof.Rows hiding St kindOf
theorem kU : knL kn "NoUnknowns" = true := by decide +kernel
theorem kT : knL kn "NoTerm" = true := by decide +kernel
theorem sUU : subL tab "NoUnknowns" "NoUnknowns" = some true := by decide +kernel
theorem sTU : subL tab "NoTerm" "NoUnknowns" = some false := by decide +kernel
theorem sTT : subL tab "NoTerm" "NoTerm" = some true := by decide +kernel
theorem sUA : subL tab "NoUnknowns" "AlgebraError" = some true := by decide +kernel
theorem sTA : subL tab "NoTerm" "AlgebraError" = some true := by decide +kernel
theorem sUV : subL tab "NoUnknowns" "ValueError" = some true := by decide +kernel
theorem sTV : subL tab "NoTerm" "ValueError" = some true := by decide +kernel
noncomputable abbrev tdB : ME := mTup (mCons (noE (mC (.str "told"))) (mCons (mCall PM.made (noE (mCons (mVar 0) (mCons (mVar 1) (mCons (mVar 2) mNil))))) mNil))
noncomputable abbrev tdH : MH := hCons (subL tab) "NoUnknowns" (sRet (mTup (mCons (mC (.str "no unknowns")) (mCons (mLst mNil) mNil)))) (hCons (subL tab) "NoTerm" (sRet (mTup (mCons (mC (.str "no term")) (mCons (mLst mNil) mNil)))) hNil)
section
variable {r : Int} {v : Val} {p : Nat} {st s1 : Store}
theorem args_ok (hv : isX v = false) (μ : MN.Env) : noE (mCons (mVar 0) (mCons (mVar 1) (mCons (mVar 2) mNil))) (some (.int r) :: some v :: some (.loc p) :: μ) st = .ok [.int r, v, .loc p] st := by
  have v1 : mVar 1 (some (.int r) :: some v :: some (.loc p) :: μ) st = .ok v st := var_flat hv rfl st
  rw [ev_noE, arg_c (v := .int r) (s1 := st) rfl (arg2 v1 (w := .loc p) (s2 := st) rfl)]
  rfl
theorem told_err {c : Str} (hv : isX v = false) (h : PM.made [.int r, v, .loc p] st = .err c s1) : w_law_told [.int r, v, .loc p] st = ((SRes.er c [some (.int r), some v, some (.loc p)] s1).tryK (knL kn) tdH).nout.fin := by
  unfold w_law_told
  rw [ev_fn (np := 3) (us := [Val.int r, v, .loc p]) rfl]
  show (noOut (sTry (knL kn) (sRet tdB) tdH) [some (.int r), some v, some (.loc p)] st).fin = _
  have m : mCall PM.made (noE (mCons (mVar 0) (mCons (mVar 1) (mCons (mVar 2) mNil)))) [some (.int r), some v, some (.loc p)] st = .err c s1 := by
    rw [call_of (args_ok hv []), h]
  have b : sRet tdB [some (.int r), some v, some (.loc p)] st = .er c [some (.int r), some v, some (.loc p)] s1 := by
    have c0 : noE (mC (.str "told")) [some (.int r), some v, some (.loc p)] st = .ok (.str "told") st := rfl
    unfold tdB
    rw [ev_ret, ev_tup, ev_cons, c0, bnd_ok, k_cons, ev_cons, m, bnd_err, bnd_err, bnd_err, sbn_err]
  rw [ev_noOut, ev_try, b]
theorem told_nu (hv : isX v = false) (h : PM.made [.int r, v, .loc p] st = .err "NoUnknowns" s1) : w_law_told [.int r, v, .loc p] st = .ok (.tup [.str "no unknowns", .loc s1.length]) (s1 ++ [.lst []]) := by
  rw [told_err hv h, tryK_er kU]
  unfold tdH
  rw [hCons_t sUU, ev_ret, tup_of (arg2 (v := .str "no unknowns") (s1 := s1) rfl (lst_of (vs := []) rfl (Nat.zero_le _))) (by show 2 ≤ 1000; decide), sbn_ok]
  rfl
theorem told_nt (hv : isX v = false) (h : PM.made [.int r, v, .loc p] st = .err "NoTerm" s1) : w_law_told [.int r, v, .loc p] st = .ok (.tup [.str "no term", .loc s1.length]) (s1 ++ [.lst []]) := by
  rw [told_err hv h, tryK_er kT]
  unfold tdH
  rw [hCons_f sTU, hCons_t sTT, ev_ret, tup_of (arg2 (v := .str "no term") (s1 := s1) rfl (lst_of (vs := []) rfl (Nat.zero_le _))) (by show 2 ≤ 1000; decide), sbn_ok]
  rfl
theorem told_ok {k : Nat} (hv : isX v = false) (h : PM.made [.int r, v, .loc p] st = .ok (.loc k) s1) : w_law_told [.int r, v, .loc p] st = .ok (.tup [.str "told", .loc k]) s1 := by
  unfold w_law_told
  rw [ev_fn (np := 3) (us := [Val.int r, v, .loc p]) rfl]
  show (noOut (sTry (knL kn) (sRet tdB) tdH) [some (.int r), some v, some (.loc p)] st).fin = _
  have m : mCall PM.made (noE (mCons (mVar 0) (mCons (mVar 1) (mCons (mVar 2) mNil)))) [some (.int r), some v, some (.loc p)] st = .ok (.loc k) s1 := by
    rw [call_of (args_ok hv []), h]
  have b : sRet tdB [some (.int r), some v, some (.loc p)] st = .rt (.tup [.str "told", .loc k]) s1 := by
    have c0 : noE (mC (.str "told")) [some (.int r), some v, some (.loc p)] st = .ok (.str "told") st := rfl
    unfold tdB
    rw [ev_ret, tup_of (arg2 c0 m) (by show 2 ≤ 1000; decide), sbn_ok]; rfl
  rw [ev_noOut, ev_try, b]
  rfl
theorem refused_ok {c : Str} (hv : isX v = false) (h : PM.made [.int r, v, .loc p] st = .err c s1) (hk : knL kn c = true) (ha : subL tab c "AlgebraError" = some true) (hw : subL tab c "ValueError" = some true) : w_law_refused [.int r, v, .loc p] st = .ok (.bl true) s1 := by
  unfold w_law_refused
  rw [ev_fn (np := 3) (us := [Val.int r, v, .loc p]) rfl]
  show (sSeq (noOut (sTry (knL kn) (sExpr (mCall PM.made (noE (mCons (mVar 0) (mCons (mVar 1) (mCons (mVar 2) mNil)))))) (hAs (subL tab) "AlgebraError" 3 (sRet (mIsX (subL tab) 3 "ValueError")) hNil))) _ [some (.int r), some v, some (.loc p), none] st).fin = _
  have m : mCall PM.made (noE (mCons (mVar 0) (mCons (mVar 1) (mCons (mVar 2) mNil)))) [some (.int r), some v, some (.loc p), none] st = .err c s1 := by
    rw [call_of (args_ok hv [none]), h]
  rw [ev_seq, ev_noOut, ev_try, ev_expr, m, sbn_err, tryK_er hk, hAs_t ha, ev_ret]
  show ((onlyRt ((mIsX (subL tab) 3 "ValueError" [some (.int r), some v, some (.loc p), some (.exc c)] s1).sbn _ _)).nout.thn _).fin = _
  rw [isX_s, isX_s, isX_s, isX_0 hw, sbn_ok]
  rfl
end
noncomputable def SelfEq (U : List Val) (s : Store) : Prop := ∀ g, eqDs (eqD 15 (s ++ g)) U U = some true
theorem eq_self2 {U : List Val} {s : Store} {a b : Nat} (ha : itemsOf s a = some U) (hb : itemsOf s b = some U) (h : eqDs (eqD 15 s) U U = some true) : eqD 16 s (.loc a) (.loc b) = some true := by
  unfold eqD
  simp only [vw, ha, hb, Option.map_some]
  exact h
section
variable {r third : Int} {many p : Nat} {U : List Val} {cnt : Val} {s : Store} {x0 x2 x6 : Option Val}
noncomputable abbrev E9 (x0 : Option Val) (r : Int) (x2 : Option Val) (third : Int) (many p : Nat) (x6 : Option Val) (cnt : Val) (bad : Bool) (n9 : Option Val) (n10 : Option Val) : MN.Env := [x0, some (.int r), x2, some (.int third), some (.int (many : Int)), some (.loc p), x6, some cnt, some (.bl bad), n9, n10]
theorem t12_ok {bad : Bool} {n : Nat} {x10 : Val} {s2 : Store} (ha : itemsOf s2 n = some U) (hb : itemsOf s2 p = some U) (h : eqDs (eqD 15 s2) U U = some true) : w_law_t12 (E9 x0 r x2 third many p x6 cnt bad (some (.loc n)) (some x10)) s2 = w_law_t13 (E9 x0 r x2 third many p x6 cnt bad (some (.loc n)) (some x10)) s2 := by
  have q : mBin neM (mVar 9) (mVar 5) (E9 x0 r x2 third many p x6 cnt bad (some (.loc n)) (some x10)) s2 = .ok (.bl false) s2 := by
    show neM (.loc n) (.loc p) s2 = _
    unfold neM
    rw [eq_self2 ha hb h]; rfl
  unfold w_law_t12
  rw [ev_seq, if_no (asT_of q), thn_nx]
theorem first_of {bad : Bool} {n k : Nat} {z : Str} {s2 : Store} : mBin ixV (mVar 10) (mC (.int 0)) (E9 x0 r x2 third many p x6 cnt bad (some (.loc n)) (some (.tup [.str z, .loc k]))) s2 = .ok (.str z) s2 := rfl
theorem second_of {bad : Bool} {n k : Nat} {z : Str} {s2 : Store} : mBin ixV (mVar 10) (mC (.int 1)) (E9 x0 r x2 third many p x6 cnt bad (some (.loc n)) (some (.tup [.str z, .loc k]))) s2 = .ok (.loc k) s2 := rfl
theorem bad_ok (hr : ringB r = true) (hU : itemsOf s p = some U) (se : SelfEq U s) (hf : flat cnt = true) (hw : wiB 1 4 cnt = false) : ∃ st', w_law_t10 (E9 x0 r x2 third many p x6 cnt true none none) s = .rt (.bl true) st' := by
  obtain ⟨s1, hs1⟩ : ∃ s1, s1 = s ++ [Cell.lst U] := ⟨_, rfl⟩
  have h9 : itemsOf s1 s.length = some U := by rw [hs1]; exact itemsOf_new s U
  have h5 : itemsOf s1 p = some U := by rw [hs1]; exact itemsOf_old hU _
  have x9 : sSet 9 (mCall lstF (mCons (mVar 5) mNil)) (E9 x0 r x2 third many p x6 cnt true none none) s = .nx (E9 x0 r x2 third many p x6 cnt true (some (.loc s.length)) none) s1 := by
    refine set_of (v := .loc s.length) ?_
    rw [call_of (arg1 (v := .loc p) (s1 := s) rfl), lst_loc hU, hs1]
  have nx := flat_nx hf
  obtain ⟨g, em⟩ := made_no1 (p := s.length) (st := s1) hr hf hw
  have td := told_nu nx em
  obtain ⟨s2, hs2⟩ : ∃ s2, s2 = s1 ++ g ++ [Cell.lst []] := ⟨_, rfl⟩
  rw [← hs2] at td
  have x10 : sSet 10 (mCall w_law_told (mCons (mVar 1) (mCons (mVar 7) (mCons (mVar 9) mNil)))) (E9 x0 r x2 third many p x6 cnt true (some (.loc s.length)) none) s1 = .nx (E9 x0 r x2 third many p x6 cnt true (some (.loc s.length)) (some (.tup [.str "no unknowns", .loc (s1 ++ g).length]))) s2 := by
    refine set_of (v := .tup [.str "no unknowns", .loc (s1 ++ g).length]) ?_
    rw [call_of (arg_c (v := .int r) (s1 := s1) rfl (arg2 (v := cnt) (s1 := s1) (var_flat nx rfl s1) (w := .loc s.length) (s2 := s1) rfl)), td]
  have es : s2 = s ++ ([Cell.lst U] ++ g ++ [Cell.lst []]) := by rw [hs2, hs1]; simp only [List.append_assoc]
  have k9 : itemsOf s2 s.length = some U := by rw [hs2, List.append_assoc]; exact itemsOf_old h9 _
  have k5 : itemsOf s2 p = some U := by rw [hs2, List.append_assoc]; exact itemsOf_old h5 _
  obtain ⟨g2, em2⟩ := made_no1 (p := s.length) (st := s2) hr hf hw
  refine ⟨s2 ++ g2, ?_⟩
  unfold w_law_t10
  rw [ev_seq, x9, thn_nx]
  unfold w_law_t11
  rw [ev_seq, x10, thn_nx, t12_ok k9 k5 (by rw [es]; exact se _)]
  have c8 : asT (mVar 8) (E9 x0 r x2 third many p x6 cnt true (some (.loc s.length)) (some (.tup [.str "no unknowns", .loc (s1 ++ g).length]))) s2 = .ok true s2 := rfl
  have e1 : mBin eqM (mBin ixV (mVar 10) (mC (.int 0))) (mC (.str "no unknowns")) (E9 x0 r x2 third many p x6 cnt true (some (.loc s.length)) (some (.tup [.str "no unknowns", .loc (s1 ++ g).length]))) s2 = .ok (.bl true) s2 := by
    rw [bin_of first_of (y := .str "no unknowns") (s2 := s2) rfl]; exact eq_self rfl
  have e2 : mCall w_law_refused (mCons (mVar 1) (mCons (mVar 7) (mCons (mVar 9) mNil))) (E9 x0 r x2 third many p x6 cnt true (some (.loc s.length)) (some (.tup [.str "no unknowns", .loc (s1 ++ g).length]))) s2 = .ok (.bl true) (s2 ++ g2) := by
    rw [call_of (arg_c (v := .int r) (s1 := s2) rfl (arg2 (v := cnt) (s1 := s2) (var_flat nx rfl s2) (w := .loc s.length) (s2 := s2) rfl))]
    exact refused_ok nx em2 kU sUA sUV
  unfold w_law_t13
  rw [ev_seq, if_yes c8, ev_ret, and_tt e1 e2, sbn_ok]
  rfl
theorem odd_ok {P : List Trm} {v : Val} {us : List Val} (hr : ringB r = true) (hU : itemsOf s p = some (P.map tV ++ v :: us)) (se : SelfEq (P.map tV ++ v :: us) s) (h1 : 1 ≤ many) (hm : many ≤ 4) (h3 : (third.fmod 4 == 1) = true) (G : ∀ t ∈ P, Good many t) (O : Odd many v s) : ∃ st', w_law_t10 (E9 x0 r x2 third many p x6 (.int (many : Int)) false none none) s = .rt (.bl true) st' := by
  obtain ⟨U, hUU⟩ : ∃ U, U = P.map tV ++ v :: us := ⟨_, rfl⟩
  rw [← hUU] at hU se
  obtain ⟨s1, hs1⟩ : ∃ s1, s1 = s ++ [Cell.lst U] := ⟨_, rfl⟩
  have h9 : itemsOf s1 s.length = some U := by rw [hs1]; exact itemsOf_new s U
  have h5 : itemsOf s1 p = some U := by rw [hs1]; exact itemsOf_old hU _
  have x9 : sSet 9 (mCall lstF (mCons (mVar 5) mNil)) (E9 x0 r x2 third many p x6 (.int (many : Int)) false none none) s = .nx (E9 x0 r x2 third many p x6 (.int (many : Int)) false (some (.loc s.length)) none) s1 := by
    refine set_of (v := .loc s.length) ?_
    rw [call_of (arg1 (v := .loc p) (s1 := s) rfl), lst_loc hU, hs1]
  have O1 : Odd many v s1 := by rw [hs1]; exact O.old _
  obtain ⟨g, em⟩ := made_no2 (st := s1) hr (by rw [← hUU]; exact h9) G h1 hm O1
  have td := told_nt rfl em
  obtain ⟨s2, hs2⟩ : ∃ s2, s2 = s1 ++ g ++ [Cell.lst []] := ⟨_, rfl⟩
  rw [← hs2] at td
  have O2 : Odd many v s2 := by rw [hs2]; exact (O1.old _).old _
  have x10 : sSet 10 (mCall w_law_told (mCons (mVar 1) (mCons (mVar 7) (mCons (mVar 9) mNil)))) (E9 x0 r x2 third many p x6 (.int (many : Int)) false (some (.loc s.length)) none) s1 = .nx (E9 x0 r x2 third many p x6 (.int (many : Int)) false (some (.loc s.length)) (some (.tup [.str "no term", .loc (s1 ++ g).length]))) s2 := by
    refine set_of (v := .tup [.str "no term", .loc (s1 ++ g).length]) ?_
    rw [call_of (arg_c (v := .int r) (s1 := s1) rfl (arg2 (v := .int (many : Int)) (s1 := s1) rfl (w := .loc s.length) (s2 := s1) rfl)), td]
  have es : s2 = s ++ ([Cell.lst U] ++ g ++ [Cell.lst []]) := by rw [hs2, hs1]; simp only [List.append_assoc]
  have k9 : itemsOf s2 s.length = some U := by rw [hs2, List.append_assoc]; exact itemsOf_old h9 _
  have k5 : itemsOf s2 p = some U := by rw [hs2, List.append_assoc]; exact itemsOf_old h5 _
  obtain ⟨g2, em2⟩ := made_no2 (st := s2) hr (by rw [← hUU]; exact k9) G h1 hm O2
  refine ⟨s2 ++ g2, ?_⟩
  unfold w_law_t10
  rw [ev_seq, x9, thn_nx]
  unfold w_law_t11
  rw [ev_seq, x10, thn_nx, t12_ok k9 k5 (by rw [es]; exact se _)]
  have c8 : asT (mVar 8) (E9 x0 r x2 third many p x6 (.int (many : Int)) false (some (.loc s.length)) (some (.tup [.str "no term", .loc (s1 ++ g).length]))) s2 = .ok false s2 := rfl
  have c3 : asT (mBin eqM (mBin modV (mVar 3) (mC (.int 4))) (mC (.int 1))) (E9 x0 r x2 third many p x6 (.int (many : Int)) false (some (.loc s.length)) (some (.tup [.str "no term", .loc (s1 ++ g).length]))) s2 = .ok true s2 := by
    rw [← h3]; exact asT_of (eq_of (mod_of rfl (by decide)))
  have e1 : mBin eqM (mBin ixV (mVar 10) (mC (.int 0))) (mC (.str "no term")) (E9 x0 r x2 third many p x6 (.int (many : Int)) false (some (.loc s.length)) (some (.tup [.str "no term", .loc (s1 ++ g).length]))) s2 = .ok (.bl true) s2 := by
    rw [bin_of first_of (y := .str "no term") (s2 := s2) rfl]; exact eq_self rfl
  have e2 : mCall w_law_refused (mCons (mVar 1) (mCons (mVar 4) (mCons (mVar 9) mNil))) (E9 x0 r x2 third many p x6 (.int (many : Int)) false (some (.loc s.length)) (some (.tup [.str "no term", .loc (s1 ++ g).length]))) s2 = .ok (.bl true) (s2 ++ g2) := by
    rw [call_of (arg_c (v := .int r) (s1 := s2) rfl (arg2 (v := .int (many : Int)) (s1 := s2) rfl (w := .loc s.length) (s2 := s2) rfl))]
    exact refused_ok rfl em2 kT sTA sTV
  unfold w_law_t13
  rw [ev_seq, if_no c8, thn_nx]
  unfold w_law_t14
  rw [ev_seq, if_yes c3, ev_ret, and_tt e1 e2, sbn_ok]
  rfl
theorem told_D (r : Int) (P : List Trm) (hl : P.length < 64) (G : ∀ t ∈ P, Good many t) (hm : many ≤ 4) : (toldR r (gthr P)).length ≤ 64 ∧ ∀ t ∈ toldR r (gthr P), t.1.length ≤ 64 := by
  have ga := gthr_all P
  rw [← tkR_told]
  constructor
  · refine Nat.le_trans (tkR_len _ _ _) ?_
    rw [(srt_perm _).length_eq, List.length_map]; omega
  · intro t ht
    unfold tkR at ht
    obtain ⟨k, hk, rfl⟩ := List.mem_map.mp (List.mem_filter.mp ht).1
    have := (srt_perm _).mem_iff.mp hk
    obtain ⟨q, hq, rfl⟩ := List.mem_map.mp this
    obtain ⟨w, hw, e⟩ := List.mem_map.mp (ga.2.2 q hq)
    show q.1.length ≤ 64
    rw [← e, (G w hw).len]; omega
theorem same_ok {P : List Trm} {k : Nat} {m2 : ME} {μ : MN.Env} {s s2 : Store} (hl : P.length < 64) (G : ∀ t ∈ P, Good many t) (h1 : 1 ≤ many) (hm : many ≤ 4) (hk : m2 μ s = .ok (.loc k) s2) (v1 : mVar 1 μ s2 = .ok (.int r) s2) (v5 : mVar 5 μ s2 = .ok (.loc p) s2) (h5 : itemsOf s2 p = some (P.map tV)) (hd : s2[k]? = some (.lst ((toldR r (gthr P)).map tV))) : ∃ g, mCall PM.law_same (mCons m2 (mCons (mCall PM.law_gathered (mCons (mVar 1) (mCons (mVar 5) mNil))) mNil)) μ s = .ok (.bl true) (s2 ++ g) := by
  obtain ⟨c1, c3, eg⟩ := law_gathered_ok (r := r) h5 hl (fun t ht z => by
    have := (G t ht).len
    rw [z] at this
    simp at this
    omega)
  have td := told_D r P hl G hm
  obtain ⟨s3, hs3⟩ : ∃ s3, s3 = s2 ++ [c1, Cell.lst ((toldR r (gthr P)).map tV), c3] := ⟨_, rfl⟩
  rw [← hs3] at eg
  have ka : s3[k]? = some (.lst ((toldR r (gthr P)).map tV)) := by rw [hs3]; exact old_at hd _
  have kb : s3[s2.length + 1]? = some (.lst ((toldR r (gthr P)).map tV)) := by
    rw [hs3, List.getElem?_append_right (by omega), show s2.length + 1 - s2.length = 1 by omega]; rfl
  obtain ⟨g, e⟩ := law_same_ok ka kb td.1 td.2
  have ga : mCall PM.law_gathered (mCons (mVar 1) (mCons (mVar 5) mNil)) μ s2 = .ok (.loc (s2.length + 1)) s3 := by
    rw [call_of (arg2 v1 v5)]; exact eg
  refine ⟨[c1, Cell.lst ((toldR r (gthr P)).map tV), c3] ++ g, ?_⟩
  rw [call_of (arg2 hk ga), e, hs3, List.append_assoc]
theorem good_ok {P : List Trm} (hr : ringB r = true) (hU : itemsOf s p = some (P.map tV)) (hl : P.length < 64) (h1 : 1 ≤ many) (hm : many ≤ 4) (h3 : (third.fmod 4 == 1) = false) (G : ∀ t ∈ P, Good many t) : ∃ st', w_law_t10 (E9 x0 r x2 third many p x6 (.int (many : Int)) false none none) s = .rt (.bl true) st' := by
  have pl : p < s.length := by
    rcases Nat.lt_or_ge p s.length with q | q
    · exact q
    · unfold itemsOf at hU; rw [List.getElem?_eq_none q] at hU; cases hU
  obtain ⟨s1, hs1⟩ : ∃ s1, s1 = s ++ [Cell.lst (P.map tV)] := ⟨_, rfl⟩
  have ls1 : s1.length = s.length + 1 := by rw [hs1, List.length_append]; rfl
  have h9 : itemsOf s1 s.length = some (P.map tV) := by rw [hs1]; exact itemsOf_new s _
  have h5 : itemsOf s1 p = some (P.map tV) := by rw [hs1]; exact itemsOf_old hU _
  have x9 : sSet 9 (mCall lstF (mCons (mVar 5) mNil)) (E9 x0 r x2 third many p x6 (.int (many : Int)) false none none) s = .nx (E9 x0 r x2 third many p x6 (.int (many : Int)) false (some (.loc s.length)) none) s1 := by
    refine set_of (v := .loc s.length) ?_
    rw [call_of (arg1 (v := .loc p) (s1 := s) rfl), lst_loc hU, hs1]
  obtain ⟨g, k, em, hk, hd⟩ := made_ok (st := s1) hr h9 hl G h1 hm
  have td := told_ok rfl em
  obtain ⟨s2, hs2⟩ : ∃ s2, s2 = s1 ++ g := ⟨_, rfl⟩
  rw [← hs2] at td hd
  obtain ⟨μ, hμ⟩ : ∃ μ, μ = E9 x0 r x2 third many p x6 (.int (many : Int)) false (some (.loc s.length)) (some (.tup [.str "told", .loc k])) := ⟨_, rfl⟩
  have x10 : sSet 10 (mCall w_law_told (mCons (mVar 1) (mCons (mVar 7) (mCons (mVar 9) mNil)))) (E9 x0 r x2 third many p x6 (.int (many : Int)) false (some (.loc s.length)) none) s1 = .nx μ s2 := by
    rw [hμ]
    refine set_of (v := .tup [.str "told", .loc k]) ?_
    rw [call_of (arg_c (v := .int r) (s1 := s1) rfl (arg2 (v := .int (many : Int)) (s1 := s1) rfl (w := .loc s.length) (s2 := s1) rfl)), td]
  have k9 : itemsOf s2 s.length = some (P.map tV) := by rw [hs2]; exact itemsOf_old h9 _
  have k5 : itemsOf s2 p = some (P.map tV) := by rw [hs2]; exact itemsOf_old h5 _
  have v1 : ∀ s, mVar 1 μ s = .ok (.int r) s := fun s => by rw [hμ]; rfl
  have v4 : ∀ s, mVar 4 μ s = .ok (.int (many : Int)) s := fun s => by rw [hμ]; rfl
  have v5 : ∀ s, mVar 5 μ s = .ok (.loc p) s := fun s => by rw [hμ]; rfl
  have v9 : ∀ t, mVar 9 μ t = .ok (.loc s.length) t := fun s => by rw [hμ]; rfl
  have f1 : ∀ s, mBin ixV (mVar 10) (mC (.int 0)) μ s = .ok (.str "told") s := fun s => by rw [hμ]; exact first_of
  have f2 : ∀ s, mBin ixV (mVar 10) (mC (.int 1)) μ s = .ok (.loc k) s := fun s => by rw [hμ]; exact second_of
  obtain ⟨g3, e3⟩ := same_ok hl G h1 hm (f2 s2) (v1 s2) (v5 s2) k5 hd
  obtain ⟨s3, hs3⟩ : ∃ s3, s3 = s2 ++ g3 := ⟨_, rfl⟩
  rw [← hs3] at e3
  have td2 := told_D r P hl G hm
  have d3 : s3[k]? = some (.lst ((toldR r (gthr P)).map tV)) := by rw [hs3]; exact old_at hd _
  have x16 := app_of (μ := μ) (s := s3) (o := mBin ixV (mVar 10) (mC (.int 1))) (a := mCons (mC (.int 7)) mNil) (v := .int 7) (f2 s3) d3 rfl d3 (by rw [List.length_map]; omega)
  obtain ⟨s4, hs4⟩ : ∃ s4, s4 = s3.set k (.lst ((toldR r (gthr P)).map tV ++ [.int 7])) := ⟨_, rfl⟩
  rw [← hs4] at x16
  have keep : ∀ q, q < s1.length → itemsOf s4 q = itemsOf s1 q := fun q hq => by
    unfold itemsOf
    rw [hs4, List.getElem?_set_ne (by omega), hs3, hs2, List.append_assoc, List.getElem?_append_left hq]
  have m9 : itemsOf s4 s.length = some (P.map tV) := by rw [keep _ (by omega)]; exact h9
  have m5 : itemsOf s4 p = some (P.map tV) := by rw [keep _ (by omega)]; exact h5
  obtain ⟨g5, k2, em2, hk2, hd2⟩ := made_ok (st := s4) hr m9 hl G h1 hm
  obtain ⟨s5, hs5⟩ : ∃ s5, s5 = s4 ++ g5 := ⟨_, rfl⟩
  rw [← hs5] at em2 hd2
  have mk : mCall PM.made (mCons (mVar 1) (mCons (mVar 4) (mCons (mVar 9) mNil))) μ s4 = .ok (.loc k2) s5 := by
    rw [call_of (arg_c (v1 s4) (arg2 (v4 s4) (v9 s4))), em2]
  obtain ⟨g6, e6⟩ := same_ok hl G h1 hm mk (v1 s5) (v5 s5) (by rw [hs5]; exact itemsOf_old m5 _) hd2
  have last : mBin eqM (mVar 9) (mVar 5) μ (s5 ++ g6) = .ok (.bl true) (s5 ++ g6) := by
    rw [bin_of (v9 _) (v5 _)]
    refine eq_lists (us := P.map tV) ?_ ?_ (pure_D P)
    · rw [hs5, List.append_assoc]; exact itemsOf_old m9 _
    · rw [hs5, List.append_assoc]; exact itemsOf_old m5 _
  refine ⟨s5 ++ g6, ?_⟩
  unfold w_law_t10
  rw [ev_seq, x9, thn_nx]
  unfold w_law_t11
  rw [ev_seq, x10, thn_nx, hμ, t12_ok k9 k5 (eqDs_self _ 14 _ (pure_D P)), ← hμ]
  have c8 : asT (mVar 8) μ s2 = .ok false s2 := by rw [hμ]; rfl
  have c3 : asT (mBin eqM (mBin modV (mVar 3) (mC (.int 4))) (mC (.int 1))) μ s2 = .ok false s2 := by
    rw [← h3, hμ]; exact asT_of (eq_of (mod_of rfl (by decide)))
  have e1 : asT (mBin neM (mBin ixV (mVar 10) (mC (.int 0))) (mC (.str "told"))) μ s2 = .ok false s2 := asT_of (by
    rw [bin_of (f1 s2) (y := .str "told") (s2 := s2) rfl]; exact ne_self rfl)
  unfold w_law_t13
  rw [ev_seq, if_no c8, thn_nx]
  unfold w_law_t14
  rw [ev_seq, if_no c3, thn_nx]
  unfold w_law_t15
  rw [ev_seq, if_no (or_ff e1 (not_t (asT_of e3))), thn_nx]
  unfold w_law_t16
  rw [ev_seq, x16, thn_nx]
  unfold w_law_t17
  rw [ev_ret, and_tt e6 last, sbn_ok]
  rfl
end
noncomputable def cnts : List Val := [.int 0, .int 5, .int (-1), .bl true, .non, .str "1", .int 99]
theorem cnts_ok : ∀ b ∈ cnts, flat b = true ∧ wiB 1 4 b = false := by
  intro b hb
  unfold cnts at hb
  simp only [List.mem_cons, List.not_mem_nil, or_false] at hb
  rcases hb with rfl | rfl | rfl | rfl | rfl | rfl | rfl <;> exact ⟨rfl, by decide⟩
theorem cell_c {ns : List Int} {s : Store} {μ : MN.Env} {k : Int} (h : itemsOf s 0 = some (ns.map Val.int)) (k0 : 0 ≤ k) (k1 : k ≤ 1000) : ∃ o, mCall PM.law_cell_at (mCons (mVar 0) (mCons (mC (.int k)) mNil)) (some (.loc 0) :: μ) s = .ok (.int o) s ∧ 0 ≤ o := by
  obtain ⟨o, e, o0, _⟩ := cell_at h k0 (by omega)
  exact ⟨o, e, o0⟩
section
variable {r third : Int} {many p : Nat} {s : Store} {x2 x6 : Option Val} {ns : List Int}
theorem t9_bad {U : List Val} (hn : itemsOf s 0 = some (ns.map Val.int)) (hr : ringB r = true) (hU : itemsOf s p = some U) (se : SelfEq U s) : ∃ st', w_law_t9 (E9 (some (.loc 0)) r x2 third many p x6 (.int (many : Int)) true none none) s = .rt (.bl true) st' := by
  obtain ⟨s1, hs1⟩ : ∃ s1, s1 = s ++ [Cell.lst cnts] := ⟨_, rfl⟩
  have hn1 : itemsOf s1 0 = some (ns.map Val.int) := by rw [hs1]; exact itemsOf_old hn _
  obtain ⟨o, eo, o0⟩ := cell_c (μ := [some (.int r), x2, some (.int third), some (.int (many : Int)), some (.loc p), x6, some (.int (many : Int)), some (.bl true), none, none]) (k := 4) hn1 (by decide) (by decide)
  have q := fmodc (m := 7) (by decide) o
  obtain ⟨b, hb, eb⟩ := pick (st := s1) (n := s.length) (us := cnts) (i := o.fmod 7) (by rw [hs1]; exact itemsOf_new _ _) q.1 q.2
  have hbf := cnts_ok b hb
  have l : mLst (mCons (mC (.int 0)) (mCons (mC (.int 5)) (mCons (mNeg (mC (.int 1))) (mCons (mC (.bl true)) (mCons (mC .non) (mCons (mC (.str "1")) (mCons (mC (.int 99)) mNil))))))) (E9 (some (.loc 0)) r x2 third many p x6 (.int (many : Int)) true none none) s = .ok (.loc s.length) s1 := by
    rw [hs1]
    exact lst_of (arg_c (v := .int 0) (s1 := s) rfl (arg_c (v := .int 5) (s1 := s) rfl (arg_c (v := .int (-1)) (s1 := s) rfl (arg_c (v := .bl true) (s1 := s) rfl (arg_c (v := .non) (s1 := s) rfl (arg_c (v := .str "1") (s1 := s) rfl (arg1 (v := .int 99) (s1 := s) rfl))))))) (by show 7 ≤ 1000; decide)
  have x7 : sIf (asT (mVar 8)) (sSet 7 (mBin ixV (mLst (mCons (mC (.int 0)) (mCons (mC (.int 5)) (mCons (mNeg (mC (.int 1))) (mCons (mC (.bl true)) (mCons (mC .non) (mCons (mC (.str "1")) (mCons (mC (.int 99)) mNil)))))))) (mBin modV (mCall PM.law_cell_at (mCons (mVar 0) (mCons (mC (.int 4)) mNil))) (mC (.int 7))))) sNext (E9 (some (.loc 0)) r x2 third many p x6 (.int (many : Int)) true none none) s = .nx (E9 (some (.loc 0)) r x2 third many p x6 b true none none) s1 := by
    have c8 : asT (mVar 8) (E9 (some (.loc 0)) r x2 third many p x6 (.int (many : Int)) true none none) s = .ok true s := rfl
    rw [if_yes c8]
    refine set_of (v := b) ?_
    rw [bin_of l (mod_of eo (by decide)), eb]
  obtain ⟨st', e⟩ := bad_ok (x0 := some (.loc 0)) (x2 := x2) (third := third) (many := many) (x6 := x6) (s := s1) (p := p) (U := U) hr (by rw [hs1]; exact itemsOf_old hU _) (fun g => by rw [hs1, List.append_assoc]; exact se _) hbf.1 hbf.2
  refine ⟨st', ?_⟩
  unfold w_law_t9
  rw [ev_seq, x7, thn_nx, e]
theorem t9_no : w_law_t9 (E9 (some (.loc 0)) r x2 third many p x6 (.int (many : Int)) false none none) s = w_law_t10 (E9 (some (.loc 0)) r x2 third many p x6 (.int (many : Int)) false none none) s := by
  have c8 : asT (mVar 8) (E9 (some (.loc 0)) r x2 third many p x6 (.int (many : Int)) false none none) s = .ok false s := rfl
  unfold w_law_t9
  rw [ev_seq, if_no c8, thn_nx]
theorem t7_ok {U : List Val} (hn : itemsOf s 0 = some (ns.map Val.int)) (hr : ringB r = true) (hU : itemsOf s p = some U) (se : SelfEq U s) (h1 : 1 ≤ many) (hm : many ≤ 4)
    (hc : ((third.fmod 4 == 1) = true ∧ ∃ (P : List Trm) (v : Val) (us : List Val), U = P.map tV ++ v :: us ∧ (∀ t ∈ P, Good many t) ∧ Odd many v s) ∨ ((third.fmod 4 == 1) = false ∧ ∃ P : List Trm, U = P.map tV ∧ P.length < 64 ∧ ∀ t ∈ P, Good many t)) :
    ∃ st', w_law_t7 [some (.loc 0), some (.int r), x2, some (.int third), some (.int (many : Int)), some (.loc p), x6, none, none, none, none] s = .rt (.bl true) st' := by
  have x8 : sSet 8 (mBin eqM (mBin modV (mBin fdivV (mVar 3) (mC (.int 4))) (mC (.int 8))) (mC (.int 1))) [some (.loc 0), some (.int r), x2, some (.int third), some (.int (many : Int)), some (.loc p), x6, some (.int (many : Int)), none, none, none] s = .nx (E9 (some (.loc 0)) r x2 third many p x6 (.int (many : Int)) ((third.fdiv 4).fmod 8 == 1) none none) s := set_of (eq_of (mod_of (div_of rfl (dz_c (by decide) (by decide))) (by decide)))
  have goal : ∃ st', w_law_t9 (E9 (some (.loc 0)) r x2 third many p x6 (.int (many : Int)) ((third.fdiv 4).fmod 8 == 1) none none) s = .rt (.bl true) st' := by
    cases (third.fdiv 4).fmod 8 == 1 with
    | true => exact t9_bad hn hr hU se
    | false =>
      rw [t9_no]
      rcases hc with ⟨h3, P, v, us, rfl, G, O⟩ | ⟨h3, P, rfl, hl, G⟩
      · exact odd_ok hr hU se h1 hm h3 G O
      · exact good_ok hr hU hl h1 hm h3 G
  obtain ⟨st', e⟩ := goal
  refine ⟨st', ?_⟩
  have x7 : sSet 7 (mVar 4) [some (.loc 0), some (.int r), x2, some (.int third), some (.int (many : Int)), some (.loc p), x6, none, none, none, none] s = .nx [some (.loc 0), some (.int r), x2, some (.int third), some (.int (many : Int)), some (.loc p), x6, some (.int (many : Int)), none, none, none] s := rfl
  unfold w_law_t7
  rw [ev_seq, x7, thn_nx]
  unfold w_law_t8
  rw [ev_seq, x8, thn_nx, e]
theorem t6_ok {P : List Trm} (hn : itemsOf s 0 = some (ns.map Val.int)) (hr : ringB r = true) (hU : s[p]? = some (.lst (P.map tV))) (hl : P.length < 64) (G : ∀ t ∈ P, Good many t) (h1 : 1 ≤ many) (hm : many ≤ 4) :
    ∃ st', w_law_t6 [some (.loc 0), some (.int r), x2, some (.int third), some (.int (many : Int)), some (.loc p), none, none, none, none, none] s = .rt (.bl true) st' := by
  have tst : asT (mBin eqM (mBin modV (mVar 3) (mC (.int 4))) (mC (.int 1))) [some (.loc 0), some (.int r), x2, some (.int third), some (.int (many : Int)), some (.loc p), none, none, none, none, none] s = .ok (third.fmod 4 == 1) s := asT_of (eq_of (mod_of rfl (by decide)))
  cases h3 : third.fmod 4 == 1 with
  | false =>
    rw [h3] at tst
    obtain ⟨st', e⟩ := t7_ok (x2 := x2) (x6 := none) (third := third) hn hr (it_of hU) (fun g => eqDs_self _ 14 _ (pure_D P)) h1 hm (.inr ⟨h3, P, rfl, hl, G⟩)
    refine ⟨st', ?_⟩
    unfold w_law_t6
    rw [ev_seq, if_no tst, thn_nx, e]
  | true =>
    rw [h3] at tst
    have lP : ((P.map tV).length : Int) = (P.length : Int) := by rw [List.length_map]
    have q := fmodc (m := (P.length : Int) + 1) (by omega) (third.fdiv 4)
    obtain ⟨a, ha⟩ : ∃ a : Nat, (a : Int) = (third.fdiv 4).fmod ((P.length : Int) + 1) := ⟨((third.fdiv 4).fmod ((P.length : Int) + 1)).toNat, by omega⟩
    have x6' : sSet 6 (mBin modV (mBin fdivV (mVar 3) (mC (.int 4))) (mBin addV (mCall lenF (mCons (mVar 5) mNil)) (mC (.int 1)))) [some (.loc 0), some (.int r), x2, some (.int third), some (.int (many : Int)), some (.loc p), none, none, none, none, none] s = .nx [some (.loc 0), some (.int r), x2, some (.int third), some (.int (many : Int)), some (.loc p), some (.int (a : Int)), none, none, none, none] s := by
      refine set_of (v := .int (a : Int)) ?_
      have dv : mBin fdivV (mVar 3) (mC (.int 4)) [some (.loc 0), some (.int r), x2, some (.int third), some (.int (many : Int)), some (.loc p), none, none, none, none, none] s = .ok (.int (third.fdiv 4)) s := div_of rfl (dz_c (by decide) (by decide))
      have ln : mCall lenF (mCons (mVar 5) mNil) [some (.loc 0), some (.int r), x2, some (.int third), some (.int (many : Int)), some (.loc p), none, none, none, none, none] s = .ok (.int (P.length : Int)) s := by
        rw [call_of (arg1 (v := .loc p) (s1 := s) rfl), len_loc (it_of hU), lP]
      have ad : mBin addV (mCall lenF (mCons (mVar 5) mNil)) (mC (.int 1)) [some (.loc 0), some (.int r), x2, some (.int third), some (.int (many : Int)), some (.loc p), none, none, none, none, none] s = .ok (.int ((P.length : Int) + 1)) s := by
        rw [bin_of ln (y := .int 1) (s2 := s) rfl]; rfl
      rw [bin_of dv ad, ha]
      exact mod_ii (by omega)
    obtain ⟨μ, hμ⟩ : ∃ μ : MN.Env, μ = [some (.loc 0), some (.int r), x2, some (.int third), some (.int (many : Int)), some (.loc p), some (.int (a : Int)), none, none, none, none] := ⟨_, rfl⟩
    rw [← hμ] at x6'
    have hn1 := itemsOf_old hn [Cell.lst ((P.take a).map tV)]
    obtain ⟨o, eo, o0⟩ := cell_c (μ := [some (.int r), x2, some (.int third), some (.int (many : Int)), some (.loc p), some (.int (a : Int)), none, none, none, none]) (k := 3) hn1 (by decide) (by decide)
    obtain ⟨g2, v, ev, O⟩ := law_odd_ok o h1 hm (s ++ [.lst ((P.take a).map tV)])
    have eod : mCall PM.law_odd_v2 (mCons (mCall PM.law_cell_at (mCons (mVar 0) (mCons (mC (.int 3)) mNil))) (mCons (mVar 4) mNil)) μ (s ++ [.lst ((P.take a).map tV)]) = .ok v (s ++ [.lst ((P.take a).map tV)] ++ g2) := by
      rw [← ev, hμ]
      exact call_of (arg2 eo (w := .int (many : Int)) (s2 := s ++ [.lst ((P.take a).map tV)]) rfl)
    obtain ⟨g, k, ei, hk⟩ := in_ok (μ := μ) (p := p) (a := a) (P := P) (fun s => by rw [hμ]; rfl) (fun s => by rw [hμ]; rfl) hU (by omega) (by omega) rfl eod
    obtain ⟨s4, hs4⟩ : ∃ s4, s4 = s ++ [Cell.lst ((P.take a).map tV)] ++ g2 ++ g := ⟨_, rfl⟩
    rw [← hs4] at ei hk
    have O4 : Odd many v s4 := by rw [hs4]; exact O.old g
    have x5 : sSet 5 (inE (mCall PM.law_odd_v2 (mCons (mCall PM.law_cell_at (mCons (mVar 0) (mCons (mC (.int 3)) mNil))) (mCons (mVar 4) mNil)))) μ s = .nx [some (.loc 0), some (.int r), x2, some (.int third), some (.int (many : Int)), some (.loc k), some (.int (a : Int)), none, none, none, none] s4 := by
      rw [set_of ei, hμ]; rfl
    obtain ⟨st', e⟩ := t7_ok (x2 := x2) (x6 := some (.int (a : Int))) (third := third) (s := s4) (p := k) (U := (P.take a).map tV ++ v :: (P.drop a).map tV) (ns := ns) (r := r) (many := many) (by rw [hs4, List.append_assoc]; exact itemsOf_old hn1 _) hr (it_of hk) (fun g => eqDs_refl _ fun u hu => by
      rcases List.mem_append.mp hu with hu | hu
      · obtain ⟨t, _, rfl⟩ := List.mem_map.mp hu; exact eqD_self _ 14 _ (pure_t t)
      · rcases List.mem_cons.mp hu with rfl | hu
        · exact O4.eq g
        · obtain ⟨t, _, rfl⟩ := List.mem_map.mp hu; exact eqD_self _ 14 _ (pure_t t)) h1 hm (.inl ⟨h3, P.take a, v, (P.drop a).map tV, rfl, fun t ht => G t (List.mem_of_mem_take ht), O4⟩)
    refine ⟨st', ?_⟩
    unfold w_law_t6
    rw [ev_seq, if_yes tst, ev_seq, x6', thn_nx]
    show ((sSet 5 (inE (mCall PM.law_odd_v2 (mCons (mCall PM.law_cell_at (mCons (mVar 0) (mCons (mC (.int 3)) mNil))) (mCons (mVar 4) mNil)))) μ s).thn _) = _
    rw [x5, thn_nx, e]
theorem t5_ok {P : List Trm} {second : Int} (hn : itemsOf s 0 = some (ns.map Val.int)) (hr : ringB r = true) (hU : s[p]? = some (.lst (P.map tV))) (hl : P.length ≤ 20) (G : ∀ t ∈ P, Good many t) (h1 : 1 ≤ many) (hm : many ≤ 4) :
    ∃ st', w_law_t5 [some (.loc 0), some (.int r), some (.int second), some (.int third), some (.int (many : Int)), some (.loc p), none, none, none, none, none] s = .rt (.bl true) st' := by
  have tst : asT (mBin eqM (mBin modV (mBin fdivV (mVar 2) (mC (.int 40))) (mC (.int 3))) (mC (.int 1))) [some (.loc 0), some (.int r), some (.int second), some (.int third), some (.int (many : Int)), some (.loc p), none, none, none, none, none] s = .ok ((second.fdiv 40).fmod 3 == 1) s := asT_of (eq_of (mod_of (div_of rfl (dz_c (by decide) (by decide))) (by decide)))
  cases h3 : (second.fdiv 40).fmod 3 == 1 with
  | false =>
    rw [h3] at tst
    obtain ⟨st', e⟩ := t6_ok (x2 := some (.int second)) (third := third) hn hr hU (by omega) G h1 hm
    refine ⟨st', ?_⟩
    unfold w_law_t5
    rw [ev_seq, if_no tst, thn_nx, e]
  | true =>
    rw [h3] at tst
    obtain ⟨g, k, e2, hk⟩ := n2_ok (μ := [some (.loc 0), some (.int r), some (.int second), some (.int third), some (.int (many : Int)), some (.loc p), none, none, none, none, none]) rfl hU (by omega)
    have x5 : sSet 5 n2E [some (.loc 0), some (.int r), some (.int second), some (.int third), some (.int (many : Int)), some (.loc p), none, none, none, none, none] s = .nx [some (.loc 0), some (.int r), some (.int second), some (.int third), some (.int (many : Int)), some (.loc k), none, none, none, none, none] (s ++ g) := set_of e2
    obtain ⟨st', e⟩ := t6_ok (x2 := some (.int second)) (third := third) (itemsOf_old hn g) hr hk (by unfold negT; rw [List.length_append, List.length_map, List.length_take]; omega) (neg_good G) h1 hm
    refine ⟨st', ?_⟩
    unfold w_law_t5
    rw [ev_seq, if_yes tst]
    show ((sSet 5 n2E _ s).thn _) = _
    rw [x5, thn_nx, e]
end
theorem law_true : ∀ (c : Cell) (ns : List Int), ns.length ≤ 63 → itemsOf [c] 0 = some (ns.map Val.int) → ∃ st', w_law [.loc 0] [c] = .ok (.bl true) st' := by
  intro c ns hl hi
  obtain ⟨s, hs⟩ : ∃ s, [c] = s := ⟨_, rfl⟩
  rw [hs] at hi ⊢
  clear hs
  obtain ⟨o, eo, o0⟩ := cell_c (μ := [none, none, none, none, none, none, none, none, none, none]) (k := 0) hi (by decide) (by decide)
  obtain ⟨g, r, er, hr⟩ := ring_i o0 s
  have hrB : ringB r = true := by
    rcases hr with rfl | h
    · rfl
    · exact ringB_of h
  obtain ⟨s1, hs1⟩ : ∃ s1, s1 = s ++ g := ⟨_, rfl⟩
  rw [← hs1] at er
  have i1 : itemsOf s1 0 = some (ns.map Val.int) := by rw [hs1]; exact itemsOf_old hi _
  have x1 : sSet 1 (mCall PM.law_ring (mCons (mCall PM.law_cell_at (mCons (mVar 0) (mCons (mC (.int 0)) mNil))) mNil)) [some (.loc 0), none, none, none, none, none, none, none, none, none, none] s = .nx [some (.loc 0), some (.int r), none, none, none, none, none, none, none, none, none] s1 := by
    refine set_of (v := .int r) ?_
    rw [call_of (arg1 eo), er]
  obtain ⟨sec, e2, s20⟩ := cell_c (μ := [some (.int r), none, none, none, none, none, none, none, none, none]) (k := 1) i1 (by decide) (by decide)
  have x2 : sSet 2 (mCall PM.law_cell_at (mCons (mVar 0) (mCons (mC (.int 1)) mNil))) [some (.loc 0), some (.int r), none, none, none, none, none, none, none, none, none] s1 = .nx [some (.loc 0), some (.int r), some (.int sec), none, none, none, none, none, none, none, none] s1 := set_of e2
  obtain ⟨thr, e3, t30⟩ := cell_c (μ := [some (.int r), some (.int sec), none, none, none, none, none, none, none, none]) (k := 2) i1 (by decide) (by decide)
  have x3 : sSet 3 (mCall PM.law_cell_at (mCons (mVar 0) (mCons (mC (.int 2)) mNil))) [some (.loc 0), some (.int r), some (.int sec), none, none, none, none, none, none, none, none] s1 = .nx [some (.loc 0), some (.int r), some (.int sec), some (.int thr), none, none, none, none, none, none, none] s1 := set_of e3
  have q4 := fmodc (m := 4) (by decide) sec
  obtain ⟨many, hmany⟩ : ∃ many : Nat, (many : Int) = 1 + sec.fmod 4 := ⟨(1 + sec.fmod 4).toNat, by omega⟩
  have x4 : sSet 4 (mBin addV (mC (.int 1)) (mBin modV (mVar 2) (mC (.int 4)))) [some (.loc 0), some (.int r), some (.int sec), some (.int thr), none, none, none, none, none, none, none] s1 = .nx [some (.loc 0), some (.int r), some (.int sec), some (.int thr), some (.int (many : Int)), none, none, none, none, none, none] s1 := by
    refine set_of (v := .int (many : Int)) ?_
    rw [bin_of (x := .int 1) (s1 := s1) rfl (mod_of (o := sec) (s1 := s1) rfl (by decide)), hmany]; rfl
  have q5 := fmodc (m := 10) (by decide) (sec.fdiv 4)
  obtain ⟨size, hsize⟩ : ∃ size : Nat, (size : Int) = (sec.fdiv 4).fmod 10 := ⟨((sec.fdiv 4).fmod 10).toNat, by omega⟩
  obtain ⟨g5, P, e5, lP, hP⟩ := law_pairs_ok (many := many) (size := size) (place := 5) i1 (by decide) (by decide) (by omega) (by omega)
  have x5 : sSet 5 (mCall PM.law_pairs (mCons (mVar 0) (mCons (mC (.int 5)) (mCons (mVar 4) (mCons (mBin modV (mBin fdivV (mVar 2) (mC (.int 4))) (mC (.int 10))) mNil))))) [some (.loc 0), some (.int r), some (.int sec), some (.int thr), some (.int (many : Int)), none, none, none, none, none, none] s1 = .nx [some (.loc 0), some (.int r), some (.int sec), some (.int thr), some (.int (many : Int)), some (.loc s1.length), none, none, none, none, none] (s1 ++ .lst (P.map tV) :: g5) := by
    refine set_of (v := .loc s1.length) ?_
    have md : mBin modV (mBin fdivV (mVar 2) (mC (.int 4))) (mC (.int 10)) [some (.loc 0), some (.int r), some (.int sec), some (.int thr), some (.int (many : Int)), none, none, none, none, none, none] s1 = .ok (.int (size : Int)) s1 := by
      rw [hsize]; exact mod_of (div_of rfl (dz_c (by decide) (by decide))) (by decide)
    rw [call_of (arg_c (v := .loc 0) (s1 := s1) rfl (arg_c (v := .int 5) (s1 := s1) rfl (arg2 (v := .int (many : Int)) (s1 := s1) rfl md))), e5]
  obtain ⟨st', e6⟩ := t5_ok (second := sec) (third := thr) (itemsOf_old i1 (.lst (P.map tV) :: g5)) hrB (la_mid s1 _ g5) (by omega) (fun t ht => (hP t ht).1) (by omega) (by omega)
  refine ⟨st', ?_⟩
  unfold w_law
  rw [ev_fn (np := 1) (us := [Val.loc 0]) rfl]
  show (sSeq _ w_law_t1 [some (.loc 0), none, none, none, none, none, none, none, none, none, none] s).fin = _
  rw [ev_seq, x1, thn_nx]
  unfold w_law_t1
  rw [ev_seq, x2, thn_nx]
  unfold w_law_t2
  rw [ev_seq, x3, thn_nx]
  unfold w_law_t3
  rw [ev_seq, x4, thn_nx]
  unfold w_law_t4
  rw [ev_seq, x5, thn_nx, e6]
  rfl
end K05
namespace K05
open PySem PySem.Spec L2 MN
open PyProof.Rows hiding St
noncomputable def top (i : Nat) : Stmt := PySem.Challenge.pw_polyring_k05_made.main.body.getD i (.Pass ⟨0, 0, 0, 0⟩)
structure Txt (K : PySem.W.Frag) (mg : Str → Option Value) : Prop where
  b_ValueError : mg "ValueError" = none
  b_all : mg "all" = none
  b_bool : mg "bool" = none
  b_int : mg "int" = none
  b_isinstance : mg "isinstance" = none
  b_len : mg "len" = none
  b_list : mg "list" = none
  b_range : mg "range" = none
  b_sorted : mg "sorted" = none
  b_tuple : mg "tuple" = none
  g_MOST_RING : Glob K mg "MOST_RING" (.int 997)
  g_FIRST_PRIMES : Glob K mg "FIRST_PRIMES" PM.FIRST_PRIMES
  g_MOST_UNKNOWNS : Glob K mg "MOST_UNKNOWNS" (.int 4)
  g_MOST_MADE_EXPONENT : Glob K mg "MOST_MADE_EXPONENT" (.int 99)
  c_AlgebraError : ExcC K mg "AlgebraError"
  c_NoRing : ExcC K mg "NoRing"
  c_NoUnknowns : ExcC K mg "NoUnknowns"
  c_NoTerm : ExcC K mg "NoTerm"
  sub : SubAll K mg tab
  kn : Known mg (knL kn)
theorem ms_setM {X : Cx} {E : XK} {e : Expr} {m : ME} {i : Nat} {x : Str} {pos pos' : Pos} (hN : X.N.Nodup) (he : PE X e (tE X E m)) (hi : X.N[i]? = some x := by rfl) (hx : Loc X.env.scope x := by first | exact Or.inl rfl | exact Or.inr rfl) (hs : swapsWith e (some (.Name x pos')) pos.line X.env = pure false := by rfl) (hf : X.fn x = true ∨ X.env.scope.names.lookup x = some .local := by first | exact .inl rfl | exact .inr rfl | assumption) : PS X (.Assign [.Name x pos'] e pos) (tS X E (sSet i m)) := ms_set i hN he hi hx hs hf
section
variable {P : Program} {w : World} {K : PySem.W.Frag} {mg : Str → Option Value} {base : Heap}
theorem sc_is_whole : FnScope ["thing"] ["thing"] (defScope (top 8)) := ⟨rfl, rfl, rfl, by decide +kernel, rfl, by decide +kernel, by decide +kernel⟩
theorem ok_is_whole {f : Addr} {fd : FuncData} (F : Fun K "is_whole" "is_whole" (top 8) f fd) (hm : mg "is_whole" = some (.ref f)) (T : Txt K mg)  : FnAt P w K mg base "is_whole" 1 PM.is_whole :=
  FnAt.mk F hm sc_is_whole (fun _ _ _ _ _ _ => len1 fun _ => rfl) fun cdv A outer s H E hr =>
    by
      refine ms_one ?_
      refine ms_ret ?_
      refine me_and ?_ ?_
      · refine me_isT kitT_int (by rfl) T.b_isinstance (by rfl) T.b_int PyProof.Rows.boot_int ?_
        exact (me_var 0)
      refine me_one ?_
      refine me_not ?_
      refine me_isT kitT_bool (by rfl) T.b_isinstance (by rfl) T.b_bool PyProof.Rows.boot_bool ?_
      exact (me_var 0)
theorem nd_0_is_prime_within : (["prime", "number"] : List Str).Nodup := by decide +kernel
theorem sc_is_prime_within : FnScope ["number"] ["number"] (defScope (top 9)) := ⟨rfl, rfl, rfl, by decide +kernel, rfl, by decide +kernel, by decide +kernel⟩
theorem ok_is_prime_within {f : Addr} {fd : FuncData} (F : Fun K "is_prime_within" "is_prime_within" (top 9) f fd) (hm : mg "is_prime_within" = some (.ref f)) (T : Txt K mg)  : FnAt P w K mg base "is_prime_within" 1 PM.is_prime_within :=
  FnAt.mk F hm sc_is_prime_within (fun _ _ _ _ _ _ => len1 fun _ => rfl) fun cdv A outer s H E hr =>
    by
      refine ms_cons ?_ ?_
      · refine ms_if ?_ ?_ ms_nil
        · refine mt_cmp ?_ ?_ ?_
          · exact op_inM
          · exact (me_var 0)
          exact (me_glob (by rfl) T.g_FIRST_PRIMES)
        refine ms_one ?_
        exact (ms_ret me_bl)
      refine ms_cons ?_ ?_
      · refine ms_if ?_ ?_ ms_nil
        · refine mt_w ?_
          refine mw_or ?_ ?_
          · refine mt_cmp ?_ ?_ me_int
            · exact op_ltM
            exact (me_var 0)
          refine mw_or1 ?_
          refine mt_cmp ?_ ?_ ?_
          · exact op_gtM
          · exact (me_var 0)
          exact (me_glob (by rfl) T.g_MOST_RING)
        refine ms_one ?_
        exact (ms_ret me_bl)
      refine ms_one ?_
      refine ms_ret ?_
      refine me_callB ?_ (by rfl) T.b_all PyProof.Rows.boot_all ?_
      · exact (call_allM hr.hd)
      refine ma_cons ?_ ma_nil
      refine me_comp (N := ["prime", "number"]) (k := 1) rfl rfl (capsA (cl := [("number", s.heap.objs.size + 1)]) (caps := [0]) (by rfl) (.cons (c := s.heap.objs.size + 1) (by rfl) (by rfl) (by first | exact Or.inl rfl | exact Or.inr rfl) (by first | exact Or.inl rfl | exact Or.inr rfl) .nil) (by rfl) (by rfl) (by rfl) (by rfl) (by rfl) (by rfl)) ?_ (fun _ _ _ _ => ?_) (fun _ _ _ _ => mif_nil) (fun _ _ _ _ => ?_)
      · refine mi_seq ?_
        exact (me_glob (by rfl) T.g_FIRST_PRIMES)
      · exact (mg_name 0 nd_0_is_prime_within)
      refine me_cmp ?_ ?_ me_int
      · exact (op_neM hr.units)
      refine me_bin ?_ ?_ ?_
      · exact op_modM
      · exact (me_var 1)
      exact (me_var 0)
theorem sc_rest_in_ring : FnScope ["ring", "number"] ["ring", "number"] (defScope (top 12)) := ⟨rfl, rfl, rfl, by decide +kernel, rfl, by decide +kernel, by decide +kernel⟩
theorem ok_rest_in_ring {f : Addr} {fd : FuncData} (F : Fun K "rest_in_ring" "rest_in_ring" (top 12) f fd) (hm : mg "rest_in_ring" = some (.ref f)) (T : Txt K mg)  : FnAt P w K mg base "rest_in_ring" 1 PM.rest_in_ring :=
  FnAt.mk F hm sc_rest_in_ring (fun _ _ _ _ _ _ => len2 fun _ _ => rfl) fun cdv A outer s H E hr =>
    by
      refine ms_one ?_
      refine ms_ret ?_
      refine me_if ?_ ?_ ?_
      · refine mt_cmp ?_ ?_ me_int
        · exact (op_eqM hr.units)
        exact (me_var 0)
      · exact (me_var 1)
      refine me_bin ?_ ?_ ?_
      · exact op_modM
      · exact (me_var 1)
      exact (me_var 0)
theorem sc_add_to : FnScope ["totals", "exponents", "number"] ["totals", "exponents", "number"] (defScope (top 21)) := ⟨rfl, rfl, rfl, by decide +kernel, rfl, by decide +kernel, by decide +kernel⟩
theorem ok_add_to {f : Addr} {fd : FuncData} (F : Fun K "add_to" "add_to" (top 21) f fd) (hm : mg "add_to" = some (.ref f)) (T : Txt K mg)  : FnAt P w K mg base "add_to" 1 PM.add_to :=
  FnAt.mk F hm sc_add_to (fun _ _ _ _ _ _ => len3 fun _ _ _ => rfl) fun cdv A outer s H E hr =>
    by
      refine ms_one ?_
      refine ms_dput hr.units ?_ ?_ ?_
      · exact (me_var 0)
      · exact (me_var 1)
      refine me_bin ?_ ?_ ?_
      · exact op_addM
      · refine me_dget2 hr.units ?_ ?_ me_int
        · exact (me_var 0)
        exact (me_var 1)
      exact (me_var 2)
theorem sc__law_whole : FnScope ["_law_found"] ["_law_found"] (defScope (top 26)) := ⟨rfl, rfl, rfl, by decide +kernel, rfl, by decide +kernel, by decide +kernel⟩
theorem ok__law_whole {f : Addr} {fd : FuncData} (F : Fun K "_law_whole" "_law_whole" (top 26) f fd) (hm : mg "_law_whole" = some (.ref f)) (T : Txt K mg)  : FnAt P w K mg base "_law_whole" 1 PM.law_whole :=
  FnAt.mk F hm sc__law_whole (fun _ _ _ _ _ _ => len1 fun _ => rfl) fun cdv A outer s H E hr =>
    by
      refine ms_one ?_
      refine ms_ret ?_
      refine me_and ?_ ?_
      · refine me_isT kitT_int (by rfl) T.b_isinstance (by rfl) T.b_int PyProof.Rows.boot_int ?_
        exact (me_var 0)
      refine me_one ?_
      refine me_not ?_
      refine me_isT kitT_bool (by rfl) T.b_isinstance (by rfl) T.b_bool PyProof.Rows.boot_bool ?_
      exact (me_var 0)
theorem sc__law_cell_at : FnScope ["_law_script", "_law_k", "_law_cell", "_law_one", "_law_found", "_law_turn"] ["_law_script", "_law_k"] (defScope (top 27)) := ⟨rfl, rfl, rfl, by decide +kernel, rfl, by decide +kernel, by decide +kernel⟩
theorem ok__law_cell_at {f : Addr} {fd : FuncData} (F : Fun K "_law_cell_at" "_law_cell_at" (top 27) f fd) (hm : mg "_law_cell_at" = some (.ref f)) (T : Txt K mg)  : FnAt P w K mg base "_law_cell_at" 1 PM.law_cell_at :=
  FnAt.mk F hm sc__law_cell_at (fun _ _ _ _ _ _ => len2 fun _ _ => rfl) fun cdv A outer s H E hr =>
    by
      refine ms_cons ?_ ?_
      · refine ms_setM ?_ ?_
        · exact sc__law_cell_at.nd
        exact me_int
      refine ms_cons ?_ ?_
      · refine ms_if ?_ ?_ ms_nil
        · refine mt_cmp ?_ ?_ ?_
          · exact op_ltM
          · exact (me_var 1)
          refine me_callB ?_ (by rfl) T.b_len PySem.boot_len ?_
          · exact call_lenM
          refine ma_cons ?_ ma_nil
          exact (me_var 0)
        refine ms_one ?_
        refine ms_setM ?_ ?_
        · exact sc__law_cell_at.nd
        refine me_ixM ?_ ?_
        · exact (me_var 0)
        exact (me_var 1)
      refine ms_cons ?_ ?_
      · refine ms_setM ?_ ?_
        · exact sc__law_cell_at.nd
        refine me_bin ?_ ?_ me_int
        · exact op_modM
        refine me_bin ?_ ?_ me_int
        · exact op_addM
        refine me_bin ?_ ?_ ?_
        · exact op_addM
        · refine me_bin ?_ ?_ ?_
          · exact op_addM
          · refine me_bin ?_ ?_ me_int
            · exact op_mulM
            exact (me_var 2)
          refine me_bin ?_ ?_ ?_
          · exact op_mulM
          · refine me_bin ?_ me_int ?_
            · exact op_mulM
            exact (me_var 1)
          exact (me_var 1)
        refine me_bin ?_ me_int ?_
        · exact op_mulM
        exact (me_var 1)
      refine ms_cons ?_ ?_
      · refine ms_setM ?_ ?_
        · exact sc__law_cell_at.nd
        exact me_int
      refine ms_cons ?_ ?_
      · refine ms_for own_pass rfl ?_ ?_ ?_
        · refine mi_range1 (by rfl) T.b_range ?_
          exact (ma_int ma_nil)
        · exact (mg_name 5 sc__law_cell_at.nd)
        refine ms_cons ?_ ?_
        · refine ms_setM ?_ ?_
          · exact sc__law_cell_at.nd
          refine me_bin ?_ ?_ me_int
          · exact op_modM
          refine me_bin ?_ ?_ ?_
          · exact op_addM
          · refine me_bin ?_ ?_ me_int
            · exact op_mulM
            refine me_bin ?_ ?_ me_int
            · exact op_modM
            refine me_bin ?_ ?_ ?_
            · exact op_mulM
            · exact (me_var 3)
            exact (me_var 3)
          exact (me_var 5)
        refine ms_one ?_
        refine ms_setM ?_ ?_
        · exact sc__law_cell_at.nd
        refine me_bin ?_ ?_ ?_
        · exact op_addM
        · refine me_bin ?_ ?_ me_int
          · exact op_mulM
          exact (me_var 4)
        exact (me_var 3)
      refine ms_one ?_
      refine ms_ret ?_
      exact (me_var 4)
theorem nd_0_law_prime : (["_law_by", "_law_number_here"] : List Str).Nodup := by decide +kernel
theorem sc__law_prime : FnScope ["_law_cell", "_law_number_here"] ["_law_cell"] (defScope (top 28)) := ⟨rfl, rfl, rfl, by decide +kernel, rfl, by decide +kernel, by decide +kernel⟩
theorem ok__law_prime {f : Addr} {fd : FuncData} (F : Fun K "_law_prime" "_law_prime" (top 28) f fd) (hm : mg "_law_prime" = some (.ref f)) (T : Txt K mg)  : FnAt P w K mg base "_law_prime" 1 PM.law_prime :=
  FnAt.mk F hm sc__law_prime (fun _ _ _ _ _ _ => len1 fun _ => rfl) fun cdv A outer s H E hr =>
    by
      refine ms_cons ?_ ?_
      · refine ms_if ?_ ?_ ms_nil
        · refine mt_cmp ?_ ?_ me_int
          · exact (op_eqM hr.units)
          refine me_bin ?_ ?_ me_int
          · exact op_modM
          exact (me_var 0)
        refine ms_one ?_
        refine ms_ret ?_
        refine me_ixM ?_ ?_
        · refine me_lst ?_
          refine ma_int ?_
          refine ma_int ?_
          refine ma_int ?_
          refine ma_int ?_
          refine ma_int ?_
          exact (ma_int ma_nil)
        refine me_bin ?_ ?_ me_int
        · exact op_modM
        refine me_bin ?_ ?_ me_int
        · exact op_fdivM
        exact (me_var 0)
      refine ms_cons ?_ ?_
      · refine ms_setM ?_ ?_
        · exact sc__law_prime.nd
        refine me_bin ?_ me_int ?_
        · exact op_addM
        refine me_bin ?_ ?_ me_int
        · exact op_modM
        refine me_bin ?_ ?_ me_int
        · exact op_fdivM
        exact (me_var 0)
      refine ms_cons ?_ ?_
      · refine ms_while own_pass ?_ ?_
        · refine mt_cmp ?_ ?_ ?_
          · exact (op_neM hr.units)
          · refine me_comp (N := ["_law_by", "_law_number_here"]) (k := 1) rfl rfl (capsA (cl := [("_law_number_here", s.heap.objs.size + 1)]) (caps := [1]) (by rfl) (.cons (c := s.heap.objs.size + 1) (by rfl) (by rfl) (by first | exact Or.inl rfl | exact Or.inr rfl) (by first | exact Or.inl rfl | exact Or.inr rfl) .nil) (by rfl) (by rfl) (by rfl) (by rfl) (by rfl) (by rfl)) ?_ (fun _ _ _ _ => ?_) (fun _ _ _ _ => ?_) (fun _ _ _ _ => ?_)
            · refine mi_range2 (by rfl) T.b_range ?_
              refine ma_int ?_
              exact (ma_int ma_nil)
            · exact (mg_name 0 nd_0_law_prime)
            · refine mif_one ?_
              refine mt_w ?_
              refine mw_and ?_ ?_
              · refine mt_cmp ?_ ?_ ?_
                · exact op_ltM
                · exact (me_var 0)
                exact (me_var 1)
              refine mw_and1 ?_
              refine mt_cmp ?_ ?_ me_int
              · exact (op_eqM hr.units)
              refine me_bin ?_ ?_ ?_
              · exact op_modM
              · exact (me_var 1)
              exact (me_var 0)
            exact (me_var 0)
          exact (me_lst ma_nil)
        refine ms_one ?_
        refine ms_setM ?_ ?_
        · exact sc__law_prime.nd
        refine me_bin ?_ ?_ me_int
        · exact op_addM
        exact (me_var 1)
      refine ms_one ?_
      refine ms_ret ?_
      exact (me_var 1)
theorem sc__law_settled : FnScope ["_law_ring_here", "_law_number_here"] ["_law_ring_here", "_law_number_here"] (defScope (top 30)) := ⟨rfl, rfl, rfl, by decide +kernel, rfl, by decide +kernel, by decide +kernel⟩
theorem ok__law_settled {f : Addr} {fd : FuncData} (F : Fun K "_law_settled" "_law_settled" (top 30) f fd) (hm : mg "_law_settled" = some (.ref f)) (T : Txt K mg)  : FnAt P w K mg base "_law_settled" 1 PM.law_settled :=
  FnAt.mk F hm sc__law_settled (fun _ _ _ _ _ _ => len2 fun _ _ => rfl) fun cdv A outer s H E hr =>
    by
      refine ms_cons ?_ ?_
      · refine ms_if ?_ ?_ ms_nil
        · refine mt_cmp ?_ ?_ me_int
          · exact (op_eqM hr.units)
          exact (me_var 0)
        refine ms_one ?_
        refine ms_ret ?_
        exact (me_var 1)
      refine ms_one ?_
      refine ms_ret ?_
      refine me_bin ?_ ?_ ?_
      · exact op_modM
      · exact (me_var 1)
      exact (me_var 0)
theorem sc__law_number : FnScope ["_law_cell"] ["_law_cell"] (defScope (top 33)) := ⟨rfl, rfl, rfl, by decide +kernel, rfl, by decide +kernel, by decide +kernel⟩
theorem ok__law_number {f : Addr} {fd : FuncData} (F : Fun K "_law_number" "_law_number" (top 33) f fd) (hm : mg "_law_number" = some (.ref f)) (T : Txt K mg)  : FnAt P w K mg base "_law_number" 1 PM.law_number :=
  FnAt.mk F hm sc__law_number (fun _ _ _ _ _ _ => len1 fun _ => rfl) fun cdv A outer s H E hr =>
    by
      refine ms_cons ?_ ?_
      · refine ms_if ?_ ?_ ms_nil
        · refine mt_cmp ?_ ?_ me_int
          · exact (op_eqM hr.units)
          refine me_bin ?_ ?_ me_int
          · exact op_modM
          exact (me_var 0)
        refine ms_one ?_
        refine ms_ret ?_
        refine me_bin ?_ ?_ ?_
        · exact op_mulM
        · refine me_bin ?_ me_int ?_
          · exact op_subM
          refine me_bin ?_ ?_ me_int
          · exact op_mulM
          refine me_bin ?_ ?_ me_int
          · exact op_modM
          refine me_bin ?_ ?_ me_int
          · exact op_fdivM
          exact (me_var 0)
        refine me_bin ?_ ?_ ?_
        · exact op_modM
        · refine me_bin ?_ ?_ me_int
          · exact op_fdivM
          exact (me_var 0)
        exact (me_bin op_powM me_int me_int)
      refine ms_one ?_
      refine ms_ret ?_
      refine me_bin ?_ ?_ me_int
      · exact op_subM
      refine me_bin ?_ ?_ me_int
      · exact op_modM
      refine me_bin ?_ ?_ me_int
      · exact op_fdivM
      exact (me_var 0)
theorem sc__law_exponents : FnScope ["_law_cell", "_law_many", "_law_found", "_law_rest", "_law_wide", "_law_k", "_law_exponent"] ["_law_cell", "_law_many"] (defScope (top 34)) := ⟨rfl, rfl, rfl, by decide +kernel, rfl, by decide +kernel, by decide +kernel⟩
theorem ok__law_exponents {f : Addr} {fd : FuncData} (F : Fun K "_law_exponents" "_law_exponents" (top 34) f fd) (hm : mg "_law_exponents" = some (.ref f)) (T : Txt K mg)  : FnAt P w K mg base "_law_exponents" 1 PM.law_exponents :=
  FnAt.mk F hm sc__law_exponents (fun _ _ _ _ _ _ => len2 fun _ _ => rfl) fun cdv A outer s H E hr =>
    by
      refine ms_cons ?_ ?_
      · refine ms_setM ?_ ?_
        · exact sc__law_exponents.nd
        exact (me_lst ma_nil)
      refine ms_cons ?_ ?_
      · refine ms_setM ?_ ?_
        · exact sc__law_exponents.nd
        exact (me_var 0)
      refine ms_cons ?_ ?_
      · refine ms_setM ?_ ?_
        · exact sc__law_exponents.nd
        exact me_int
      refine ms_cons ?_ ?_
      · refine ms_if ?_ ?_ ms_nil
        · refine mt_cmp ?_ ?_ me_int
          · exact (op_eqM hr.units)
          refine me_bin ?_ ?_ me_int
          · exact op_modM
          exact (me_var 0)
        refine ms_cons ?_ ?_
        · refine ms_setM ?_ ?_
          · exact sc__law_exponents.nd
          refine me_bin ?_ ?_ me_int
          · exact op_fdivM
          exact (me_var 0)
        refine ms_one ?_
        refine ms_setM ?_ ?_
        · exact sc__law_exponents.nd
        exact me_int
      refine ms_cons ?_ ?_
      · refine ms_for own_pass rfl ?_ ?_ ?_
        · refine mi_range1 (by rfl) T.b_range ?_
          refine ma_cons ?_ ma_nil
          exact (me_var 1)
        · exact (mg_name 5 sc__law_exponents.nd)
        refine ms_cons ?_ ?_
        · refine ms_setM ?_ ?_
          · exact sc__law_exponents.nd
          refine me_bin ?_ ?_ ?_
          · exact op_modM
          · exact (me_var 3)
          exact (me_var 4)
        refine ms_cons ?_ ?_
        · refine ms_setM ?_ ?_
          · exact sc__law_exponents.nd
          refine me_bin ?_ ?_ ?_
          · exact op_fdivM
          · exact (me_var 3)
          exact (me_var 4)
        refine ms_cons ?_ ?_
        · refine ms_if ?_ ?_ ms_nil
          · refine mt_w ?_
            refine mw_and ?_ ?_
            · refine mt_cmp ?_ ?_ me_int
              · exact (op_eqM hr.units)
              exact (me_var 4)
            refine mw_and1 ?_
            refine mt_cmp ?_ ?_ ?_
            · exact (op_eqM hr.units)
            · refine me_bin ?_ ?_ me_int
              · exact op_modM
              refine me_bin ?_ ?_ me_int
              · exact op_fdivM
              exact (me_var 0)
            exact (me_var 5)
          refine ms_one ?_
          refine ms_setM ?_ ?_
          · exact sc__law_exponents.nd
          refine me_bin ?_ ?_ me_int
          · exact op_modM
          refine me_bin ?_ ?_ me_int
          · exact op_fdivM
          exact (me_var 0)
        refine ms_one ?_
        refine ms_expr ?_
        refine me_append ?_ ?_
        · exact (me_var 2)
        refine ma_cons ?_ ma_nil
        exact (me_var 6)
      refine ms_one ?_
      refine ms_ret ?_
      refine me_callTy ?_ (by rfl) T.b_tuple PyProof.Rows.boot_tuple ?_
      · exact call_tupM
      refine ma_cons ?_ ma_nil
      exact (me_var 2)
theorem sc__law_odd : FnScope ["_law_cell", "_law_many", "_law_good", "_law_some", "_law_bad", "_law_at"] ["_law_cell", "_law_many"] (defScope (top 36)) := ⟨rfl, rfl, rfl, by decide +kernel, rfl, by decide +kernel, by decide +kernel⟩
theorem ok__law_odd {f : Addr} {fd : FuncData} (F : Fun K "_law_odd" "_law_odd" (top 36) f fd) (hm : mg "_law_odd" = some (.ref f)) (T : Txt K mg)  : FnAt P w K mg base "_law_odd" 1 PM.law_odd_v2 :=
  FnAt.mk F hm sc__law_odd (fun _ _ _ _ _ _ => len2 fun _ _ => rfl) fun cdv A outer s H E hr =>
    by
      refine ms_cons ?_ ?_
      · refine ms_setM ?_ ?_
        · exact sc__law_odd.nd
        refine me_callTy ?_ (by rfl) T.b_tuple PyProof.Rows.boot_tuple ?_
        · exact call_tupM
        refine ma_cons ?_ ma_nil
        refine me_bin ?_ ?_ ?_
        · exact op_mulM
        · refine me_lst ?_
          exact (ma_int ma_nil)
        exact (me_var 1)
      refine ms_cons ?_ ?_
      · refine ms_setM ?_ ?_
        · exact sc__law_odd.nd
        refine me_lst ?_
        refine ma_non ?_
        refine ma_cons ?_ ?_
        · refine me_tup ?_
          refine ma_cons ?_ ?_
          · exact (me_var 2)
          exact (ma_bl ma_nil)
        refine ma_cons ?_ ?_
        · refine me_tup ?_
          refine ma_cons ?_ ?_
          · exact (me_var 2)
          exact (ma_non ma_nil)
        refine ma_cons ?_ ?_
        · refine me_tup ?_
          refine ma_cons ?_ ma_nil
          exact (me_var 2)
        refine ma_cons ?_ ?_
        · refine me_tup ?_
          refine ma_cons ?_ ?_
          · exact (me_var 2)
          refine ma_int ?_
          exact (ma_int ma_nil)
        refine ma_cons ?_ ?_
        · refine me_lst ?_
          refine ma_cons ?_ ?_
          · exact (me_var 2)
          exact (ma_int ma_nil)
        refine ma_cons ?_ ?_
        · refine me_tup ?_
          refine ma_cons ?_ ?_
          · refine me_callTy ?_ (by rfl) T.b_list PyProof.Rows.boot_list ?_
            · exact call_lstM
            refine ma_cons ?_ ma_nil
            exact (me_var 2)
          exact (ma_int ma_nil)
        refine ma_cons ?_ ma_nil
        refine me_tup ?_
        refine ma_cons ?_ ?_
        · refine me_bin ?_ ?_ ?_
          · exact op_addM
          · exact (me_var 2)
          refine me_tup ?_
          exact (ma_int ma_nil)
        exact (ma_int ma_nil)
      refine ms_cons ?_ ?_
      · refine ms_setM ?_ ?_
        · exact sc__law_odd.nd
        refine me_ixM ?_ ?_
        · refine me_lst ?_
          refine ma_cons ?_ ?_
          · exact (me_neg me_int)
          refine ma_int ?_
          refine ma_bl ?_
          refine ma_non ?_
          refine ma_str ?_
          refine ma_cons ?_ ?_
          · exact (me_bin op_powM me_int me_int)
          refine ma_cons ?_ ?_
          · refine me_neg ?_
            exact (me_bin op_powM me_int me_int)
          exact (ma_bl ma_nil)
        refine me_bin ?_ ?_ me_int
        · exact op_modM
        refine me_bin ?_ ?_ me_int
        · exact op_fdivM
        exact (me_var 0)
      refine ms_cons ?_ ?_
      · refine ms_setM ?_ ?_
        · exact sc__law_odd.nd
        refine me_bin ?_ ?_ ?_
        · exact op_modM
        · refine me_bin ?_ ?_ me_int
          · exact op_fdivM
          exact (me_var 0)
        exact (me_var 1)
      refine ms_cons ?_ ?_
      · refine ms_setM ?_ ?_
        · exact sc__law_odd.nd
        refine me_bin ?_ ?_ ?_
        · exact op_addM
        · refine me_bin ?_ ?_ ?_
          · exact op_addM
          · exact (me_var 3)
          refine me_lst ?_
          refine ma_cons ?_ ?_
          · refine me_tup ?_
            refine ma_cons ?_ ?_
            · refine me_sl ?_ ?_ mo_none
              · exact (me_var 2)
              exact (mo_some me_int)
            exact (ma_int ma_nil)
          refine ma_cons ?_ ma_nil
          refine me_tup ?_
          refine ma_str ?_
          exact (ma_int ma_nil)
        refine me_bin ?_ ?_ me_int
        · exact op_mulM
        refine me_lst ?_
        refine ma_cons ?_ ma_nil
        refine me_tup ?_
        refine ma_cons ?_ ?_
        · refine me_bin ?_ ?_ ?_
          · exact op_addM
          · refine me_bin ?_ ?_ ?_
            · exact op_addM
            · refine me_sl ?_ mo_none ?_
              · exact (me_var 2)
              refine mo_some ?_
              exact (me_var 5)
            refine me_tup ?_
            refine ma_cons ?_ ma_nil
            exact (me_var 4)
          refine me_sl ?_ ?_ mo_none
          · exact (me_var 2)
          refine mo_some ?_
          refine me_bin ?_ ?_ me_int
          · exact op_addM
          exact (me_var 5)
        exact (ma_int ma_nil)
      refine ms_one ?_
      refine ms_ret ?_
      refine me_ixM ?_ ?_
      · exact (me_var 3)
      refine me_bin ?_ ?_ me_int
      · exact op_modM
      exact (me_var 0)
theorem sc_is_ring : FnScope ["thing"] ["thing"] (defScope (top 10)) := ⟨rfl, rfl, rfl, by decide +kernel, rfl, by decide +kernel, by decide +kernel⟩
theorem ok_is_ring {f : Addr} {fd : FuncData} (F : Fun K "is_ring" "is_ring" (top 10) f fd) (hm : mg "is_ring" = some (.ref f)) (T : Txt K mg) (G_is_whole : FnAt P w K mg base "is_whole" 1 PM.is_whole) (G_is_prime_within : FnAt P w K mg base "is_prime_within" 1 PM.is_prime_within) : FnAt P w K mg base "is_ring" 2 PM.is_ring :=
  FnAt.mk F hm sc_is_ring (fun _ _ _ _ _ _ => len1 fun _ => rfl) fun cdv A outer s H E hr =>
    by
      refine ms_one ?_
      refine ms_ret ?_
      refine me_and ?_ ?_
      · refine me_fn G_is_whole hr (by decide) (by rfl) pass_out ?_
        refine ma_cons ?_ ma_nil
        exact (me_var 0)
      refine me_one ?_
      refine me_or ?_ ?_
      · refine me_cmp ?_ ?_ me_int
        · exact (op_eqM hr.units)
        exact (me_var 0)
      refine me_one ?_
      refine me_fn G_is_prime_within hr (by decide) (by rfl) pass_out ?_
      refine ma_cons ?_ ma_nil
      exact (me_var 0)
theorem sc_is_whole_within : FnScope ["thing", "lowest", "highest"] ["thing", "lowest", "highest"] (defScope (top 16)) := ⟨rfl, rfl, rfl, by decide +kernel, rfl, by decide +kernel, by decide +kernel⟩
theorem ok_is_whole_within {f : Addr} {fd : FuncData} (F : Fun K "is_whole_within" "is_whole_within" (top 16) f fd) (hm : mg "is_whole_within" = some (.ref f)) (T : Txt K mg) (G_is_whole : FnAt P w K mg base "is_whole" 1 PM.is_whole) : FnAt P w K mg base "is_whole_within" 2 PM.is_whole_within :=
  FnAt.mk F hm sc_is_whole_within (fun _ _ _ _ _ _ => len3 fun _ _ _ => rfl) fun cdv A outer s H E hr =>
    by
      refine ms_one ?_
      refine ms_ret ?_
      refine me_and ?_ ?_
      · refine me_fn G_is_whole hr (by decide) (by rfl) pass_out ?_
        refine ma_cons ?_ ma_nil
        exact (me_var 0)
      refine me_one ?_
      refine me_chain tells_le ?_ ?_ ?_ ?_ ?_
      · exact op_leM
      · exact op_leM
      · exact (me_var 1)
      · exact (me_var 0)
      exact (me_var 2)
theorem nd_0_settled_terms : (["exponents", "number", "ring"] : List Str).Nodup := by decide +kernel
theorem nd_1_settled_terms : (["term"] : List Str).Nodup := by decide +kernel
theorem sc_settled_terms : FnScope ["ring", "pairs", "terms"] ["ring", "pairs"] (defScope (top 22)) := ⟨rfl, rfl, rfl, by decide +kernel, rfl, by decide +kernel, by decide +kernel⟩
theorem ok_settled_terms {f : Addr} {fd : FuncData} (F : Fun K "settled_terms" "settled_terms" (top 22) f fd) (hm : mg "settled_terms" = some (.ref f)) (T : Txt K mg) (G_rest_in_ring : FnAt P w K mg base "rest_in_ring" 1 PM.rest_in_ring) : FnAt P w K mg base "settled_terms" 2 PM.settled_terms :=
  FnAt.mk F hm sc_settled_terms (fun _ _ _ _ _ _ => len2 fun _ _ => rfl) fun cdv A outer s H E hr =>
    by
      refine ms_cons (MN.ms_setComp 2 (N := ["exponents", "number", "ring"]) (k := 2) sc_settled_terms.nd rfl rfl (capsA (cl := [("ring", s.heap.objs.size + 1)]) (caps := [0]) (by rfl) (.cons (c := s.heap.objs.size + 1) (by rfl) (by rfl) (by first | exact Or.inl rfl | exact Or.inr rfl) (by first | exact Or.inl rfl | exact Or.inr rfl) .nil) (by rfl) (by rfl) (by rfl) (by rfl) (by rfl) (by rfl)) (mi_seq (me_var 1)) (fun _ _ _ _ => (mg_tup rfl (mgs_cons (mg_name 0 nd_0_settled_terms) (mgs_cons (mg_name 1 nd_0_settled_terms) mgs_nil)))) (fun _ _ _ _ => mif_nil) (fun _ _ _ _ => (me_tup (ma_cons (me_var 0) (ma_cons (me_fn G_rest_in_ring hr (by decide) (by rfl) passB (ma_cons (me_var 2) (ma_cons (me_var 1) ma_nil))) ma_nil))))) ?_
      refine ms_one ?_
      refine ms_ret ?_
      refine me_comp (N := ["term"]) (k := 1) rfl rfl (capsA (cl := []) (caps := []) (by rfl) .nil (by rfl) (by rfl) (by rfl) (by rfl) (by rfl) (by rfl)) ?_ (fun _ _ _ _ => ?_) (fun _ _ _ _ => ?_) (fun _ _ _ _ => ?_)
      · refine mi_seq ?_
        exact (me_var 2)
      · exact (mg_name 0 nd_1_settled_terms)
      · refine mif_one ?_
        refine mt_cmp ?_ ?_ me_int
        · exact (op_neM hr.units)
        refine me_ixM ?_ me_int
        exact (me_var 0)
      exact (me_var 0)
theorem sc__law_ring : FnScope ["_law_cell"] ["_law_cell"] (defScope (top 29)) := ⟨rfl, rfl, rfl, by decide +kernel, rfl, by decide +kernel, by decide +kernel⟩
theorem ok__law_ring {f : Addr} {fd : FuncData} (F : Fun K "_law_ring" "_law_ring" (top 29) f fd) (hm : mg "_law_ring" = some (.ref f)) (T : Txt K mg) (G__law_prime : FnAt P w K mg base "_law_prime" 1 PM.law_prime) : FnAt P w K mg base "_law_ring" 2 PM.law_ring :=
  FnAt.mk F hm sc__law_ring (fun _ _ _ _ _ _ => len1 fun _ => rfl) fun cdv A outer s H E hr =>
    by
      refine ms_cons ?_ ?_
      · refine ms_if ?_ ?_ ms_nil
        · refine mt_cmp ?_ ?_ me_int
          · exact (op_eqM hr.units)
          refine me_bin ?_ ?_ me_int
          · exact op_modM
          exact (me_var 0)
        refine ms_one ?_
        exact (ms_ret me_int)
      refine ms_one ?_
      refine ms_ret ?_
      refine me_fn G__law_prime hr (by decide) (by rfl) pass_out ?_
      refine ma_cons ?_ ma_nil
      refine me_bin ?_ ?_ me_int
      · exact op_fdivM
      exact (me_var 0)
theorem sc__law_gathered : FnScope ["_law_ring_here", "_law_pairs_here", "_law_found", "_law_pair", "_law_rows", "_law_exponents_here"] ["_law_ring_here", "_law_pairs_here"] (defScope (top 31)) := ⟨rfl, rfl, rfl, by decide +kernel, rfl, by decide +kernel, by decide +kernel⟩
theorem ok__law_gathered {f : Addr} {fd : FuncData} (F : Fun K "_law_gathered" "_law_gathered" (top 31) f fd) (hm : mg "_law_gathered" = some (.ref f)) (T : Txt K mg) (G__law_settled : FnAt P w K mg base "_law_settled" 1 PM.law_settled) : FnAt P w K mg base "_law_gathered" 2 PM.law_gathered :=
  FnAt.mk F hm sc__law_gathered (fun _ _ _ _ _ _ => len2 fun _ _ => rfl) fun cdv A outer s H E hr =>
    by
      refine ms_cons ?_ ?_
      · refine ms_setM ?_ ?_
        · exact sc__law_gathered.nd
        exact me_dnewT
      refine ms_cons ?_ ?_
      · refine ms_for own_pass rfl ?_ ?_ ?_
        · refine mi_seq ?_
          exact (me_var 1)
        · exact (mg_name 3 sc__law_gathered.nd)
        refine ms_one ?_
        refine ms_dput hr.units ?_ ?_ ?_
        · exact (me_var 2)
        · refine me_ixM ?_ me_int
          exact (me_var 3)
        refine me_bin ?_ ?_ ?_
        · exact op_addM
        · refine me_dget2 hr.units ?_ ?_ me_int
          · exact (me_var 2)
          refine me_ixM ?_ me_int
          exact (me_var 3)
        refine me_ixM ?_ me_int
        exact (me_var 3)
      refine ms_cons ?_ ?_
      · refine ms_setM ?_ ?_
        · exact sc__law_gathered.nd
        exact (me_lst ma_nil)
      refine ms_cons ?_ ?_
      · refine ms_for own_pass rfl ?_ ?_ ?_
        · refine mi_seq ?_
          refine me_sortD (by rfl) (by rfl) T.b_sorted PyProof.Rows.Boot.«sorted» ?_
          exact (me_var 2)
        · exact (mg_name 5 sc__law_gathered.nd)
        refine ms_one ?_
        refine ms_if ?_ ?_ ms_nil
        · refine mt_cmp ?_ ?_ me_int
          · exact (op_neM hr.units)
          refine me_fn G__law_settled hr (by decide) (by rfl) pass_out ?_
          refine ma_cons ?_ ?_
          · exact (me_var 0)
          refine ma_cons ?_ ma_nil
          refine me_dget hr.units ?_ ?_
          · exact (me_var 2)
          exact (me_var 5)
        refine ms_one ?_
        refine ms_expr ?_
        refine me_append ?_ ?_
        · exact (me_var 4)
        refine ma_cons ?_ ma_nil
        refine me_tup ?_
        refine ma_cons ?_ ?_
        · exact (me_var 5)
        refine ma_cons ?_ ma_nil
        refine me_fn G__law_settled hr (by decide) (by rfl) pass_out ?_
        refine ma_cons ?_ ?_
        · exact (me_var 0)
        refine ma_cons ?_ ma_nil
        refine me_dget hr.units ?_ ?_
        · exact (me_var 2)
        exact (me_var 5)
      refine ms_one ?_
      refine ms_ret ?_
      exact (me_var 4)
theorem nd_0_law_same : (["_law_one"] : List Str).Nodup := by decide +kernel
theorem sc__law_same : FnScope ["_law_found", "_law_due", "_law_k"] ["_law_found", "_law_due"] (defScope (top 32)) := ⟨rfl, rfl, rfl, by decide +kernel, rfl, by decide +kernel, by decide +kernel⟩
theorem ok__law_same {f : Addr} {fd : FuncData} (F : Fun K "_law_same" "_law_same" (top 32) f fd) (hm : mg "_law_same" = some (.ref f)) (T : Txt K mg) (G__law_whole : FnAt P w K mg base "_law_whole" 1 PM.law_whole) : FnAt P w K mg base "_law_same" 2 PM.law_same :=
  FnAt.mk F hm sc__law_same (fun _ _ _ _ _ _ => len2 fun _ _ => rfl) fun cdv A outer s H E hr =>
    by
      refine ms_cons ?_ ?_
      · refine ms_if ?_ ?_ ms_nil
        · refine mt_w ?_
          refine mw_or ?_ ?_
          · refine mt_not ?_
            refine mt_val ?_
            refine me_isT kitT_list (by rfl) T.b_isinstance (by rfl) T.b_list PyProof.Rows.boot_list ?_
            exact (me_var 0)
          refine mw_or1 ?_
          refine mt_cmp ?_ ?_ ?_
          · exact (op_neM hr.units)
          · refine me_callB ?_ (by rfl) T.b_len PySem.boot_len ?_
            · exact call_lenM
            refine ma_cons ?_ ma_nil
            exact (me_var 0)
          refine me_callB ?_ (by rfl) T.b_len PySem.boot_len ?_
          · exact call_lenM
          refine ma_cons ?_ ma_nil
          exact (me_var 1)
        refine ms_one ?_
        exact (ms_ret me_bl)
      refine ms_cons ?_ ?_
      · refine ms_for own_pass rfl ?_ ?_ ?_
        · refine mi_range1 (by rfl) T.b_range ?_
          refine ma_cons ?_ ma_nil
          refine me_callB ?_ (by rfl) T.b_len PySem.boot_len ?_
          · exact call_lenM
          refine ma_cons ?_ ma_nil
          exact (me_var 1)
        · exact (mg_name 2 sc__law_same.nd)
        refine ms_cons ?_ ?_
        · refine ms_if ?_ ?_ ms_nil
          · refine mt_w ?_
            refine mw_or ?_ ?_
            · refine mt_not ?_
              refine mt_val ?_
              refine me_isT kitT_tuple (by rfl) T.b_isinstance (by rfl) T.b_tuple PyProof.Rows.boot_tuple ?_
              refine me_ixM ?_ ?_
              · exact (me_var 0)
              exact (me_var 2)
            refine mw_or ?_ ?_
            · refine mt_cmp ?_ ?_ me_int
              · exact (op_neM hr.units)
              refine me_callB ?_ (by rfl) T.b_len PySem.boot_len ?_
              · exact call_lenM
              refine ma_cons ?_ ma_nil
              refine me_ixM ?_ ?_
              · exact (me_var 0)
              exact (me_var 2)
            refine mw_or1 ?_
            refine mt_not ?_
            refine mt_val ?_
            refine me_fn G__law_whole hr (by decide) (by rfl) pass_out ?_
            refine ma_cons ?_ ma_nil
            refine me_ixM ?_ me_int
            refine me_ixM ?_ ?_
            · exact (me_var 0)
            exact (me_var 2)
          refine ms_one ?_
          exact (ms_ret me_bl)
        refine ms_one ?_
        refine ms_if ?_ ?_ ms_nil
        · refine mt_w ?_
          refine mw_or ?_ ?_
          · refine mt_not ?_
            refine mt_val ?_
            refine me_isT kitT_tuple (by rfl) T.b_isinstance (by rfl) T.b_tuple PyProof.Rows.boot_tuple ?_
            refine me_ixM ?_ me_int
            refine me_ixM ?_ ?_
            · exact (me_var 0)
            exact (me_var 2)
          refine mw_or1 ?_
          refine mt_cmp ?_ ?_ ?_
          · exact (op_neM hr.units)
          · refine me_comp (N := ["_law_one"]) (k := 1) rfl rfl (capsA (cl := []) (caps := []) (by rfl) .nil (by rfl) (by rfl) (by rfl) (by rfl) (by rfl) (by rfl)) ?_ (fun _ _ _ _ => ?_) (fun _ _ _ _ => ?_) (fun _ _ _ _ => ?_)
            · refine mi_seq ?_
              refine me_ixM ?_ me_int
              refine me_ixM ?_ ?_
              · exact (me_var 0)
              exact (me_var 2)
            · exact (mg_name 0 nd_0_law_same)
            · refine mif_one ?_
              refine mt_not ?_
              refine mt_val ?_
              refine me_fn G__law_whole hr (by decide) (by rfl) passB ?_
              refine ma_cons ?_ ma_nil
              exact (me_var 0)
            exact (me_var 0)
          exact (me_lst ma_nil)
        refine ms_one ?_
        exact (ms_ret me_bl)
      refine ms_one ?_
      refine ms_ret ?_
      refine me_cmp ?_ ?_ ?_
      · exact (op_eqM hr.units)
      · exact (me_var 0)
      exact (me_var 1)
theorem sc__law_pairs : FnScope ["_law_script", "_law_place", "_law_many", "_law_size", "_law_pairs_here", "_law_k", "_law_exponents_here"] ["_law_script", "_law_place", "_law_many", "_law_size"] (defScope (top 35)) := ⟨rfl, rfl, rfl, by decide +kernel, rfl, by decide +kernel, by decide +kernel⟩
theorem ok__law_pairs {f : Addr} {fd : FuncData} (F : Fun K "_law_pairs" "_law_pairs" (top 35) f fd) (hm : mg "_law_pairs" = some (.ref f)) (T : Txt K mg) (G__law_cell_at : FnAt P w K mg base "_law_cell_at" 1 PM.law_cell_at) (G__law_number : FnAt P w K mg base "_law_number" 1 PM.law_number) (G__law_exponents : FnAt P w K mg base "_law_exponents" 1 PM.law_exponents) : FnAt P w K mg base "_law_pairs" 2 PM.law_pairs :=
  FnAt.mk F hm sc__law_pairs (fun _ _ _ _ _ _ => len4 fun _ _ _ _ => rfl) fun cdv A outer s H E hr =>
    by
      refine ms_cons ?_ ?_
      · refine ms_setM ?_ ?_
        · exact sc__law_pairs.nd
        exact (me_lst ma_nil)
      refine ms_cons ?_ ?_
      · refine ms_for own_pass rfl ?_ ?_ ?_
        · refine mi_range1 (by rfl) T.b_range ?_
          refine ma_cons ?_ ma_nil
          exact (me_var 3)
        · exact (mg_name 5 sc__law_pairs.nd)
        refine ms_cons ?_ ?_
        · refine ms_setM ?_ ?_
          · exact sc__law_pairs.nd
          refine me_fn G__law_exponents hr (by decide) (by rfl) pass_out ?_
          refine ma_cons ?_ ?_
          · refine me_fn G__law_cell_at hr (by decide) (by rfl) pass_out ?_
            refine ma_cons ?_ ?_
            · exact (me_var 0)
            refine ma_cons ?_ ma_nil
            refine me_bin ?_ ?_ ?_
            · exact op_addM
            · exact (me_var 1)
            refine me_bin ?_ me_int ?_
            · exact op_mulM
            exact (me_var 5)
          refine ma_cons ?_ ma_nil
          exact (me_var 2)
        refine ms_one ?_
        refine ms_expr ?_
        refine me_append ?_ ?_
        · exact (me_var 4)
        refine ma_cons ?_ ma_nil
        refine me_tup ?_
        refine ma_cons ?_ ?_
        · exact (me_var 6)
        refine ma_cons ?_ ma_nil
        refine me_fn G__law_number hr (by decide) (by rfl) pass_out ?_
        refine ma_cons ?_ ma_nil
        refine me_fn G__law_cell_at hr (by decide) (by rfl) pass_out ?_
        refine ma_cons ?_ ?_
        · exact (me_var 0)
        refine ma_cons ?_ ma_nil
        refine me_bin ?_ ?_ me_int
        · exact op_addM
        refine me_bin ?_ ?_ ?_
        · exact op_addM
        · exact (me_var 1)
        refine me_bin ?_ me_int ?_
        · exact op_mulM
        exact (me_var 5)
      refine ms_one ?_
      refine ms_ret ?_
      exact (me_var 4)
theorem sc_check_ring : FnScope ["ring"] ["ring"] (defScope (top 11)) := ⟨rfl, rfl, rfl, by decide +kernel, rfl, by decide +kernel, by decide +kernel⟩
theorem ok_check_ring {f : Addr} {fd : FuncData} (F : Fun K "check_ring" "check_ring" (top 11) f fd) (hm : mg "check_ring" = some (.ref f)) (T : Txt K mg) (G_is_ring : FnAt P w K mg base "is_ring" 2 PM.is_ring) : FnAt P w K mg base "check_ring" 3 PM.check_ring :=
  FnAt.mk F hm sc_check_ring (fun _ _ _ _ _ _ => len1 fun _ => rfl) fun cdv A outer s H E hr =>
    by
      refine ms_one ?_
      refine ms_if ?_ ?_ ms_nil
      · refine mt_not ?_
        refine mt_val ?_
        refine me_fn G_is_ring hr (by decide) (by rfl) pass_out ?_
        refine ma_cons ?_ ma_nil
        exact (me_var 0)
      refine ms_one ?_
      refine ms_raiseC own_raises rfl T.c_NoRing (by rfl) ?_
      exact (ma_str ma_nil)
theorem sc_check_unknowns : FnScope ["many"] ["many"] (defScope (top 17)) := ⟨rfl, rfl, rfl, by decide +kernel, rfl, by decide +kernel, by decide +kernel⟩
theorem ok_check_unknowns {f : Addr} {fd : FuncData} (F : Fun K "check_unknowns" "check_unknowns" (top 17) f fd) (hm : mg "check_unknowns" = some (.ref f)) (T : Txt K mg) (G_is_whole_within : FnAt P w K mg base "is_whole_within" 2 PM.is_whole_within) : FnAt P w K mg base "check_unknowns" 3 PM.check_unknowns :=
  FnAt.mk F hm sc_check_unknowns (fun _ _ _ _ _ _ => len1 fun _ => rfl) fun cdv A outer s H E hr =>
    by
      refine ms_one ?_
      refine ms_if ?_ ?_ ms_nil
      · refine mt_not ?_
        refine mt_val ?_
        refine me_fn G_is_whole_within hr (by decide) (by rfl) pass_out ?_
        refine ma_cons ?_ ?_
        · exact (me_var 0)
        refine ma_int ?_
        refine ma_cons ?_ ma_nil
        exact (me_glob (by rfl) T.g_MOST_UNKNOWNS)
      refine ms_one ?_
      refine ms_raiseC own_raises rfl T.c_NoUnknowns (by rfl) ?_
      exact (ma_str ma_nil)
theorem nd_0_are_exponents : (["exponent"] : List Str).Nodup := by decide +kernel
theorem sc_are_exponents : FnScope ["thing", "many"] ["thing", "many"] (defScope (top 18)) := ⟨rfl, rfl, rfl, by decide +kernel, rfl, by decide +kernel, by decide +kernel⟩
theorem ok_are_exponents {f : Addr} {fd : FuncData} (F : Fun K "are_exponents" "are_exponents" (top 18) f fd) (hm : mg "are_exponents" = some (.ref f)) (T : Txt K mg) (G_is_whole_within : FnAt P w K mg base "is_whole_within" 2 PM.is_whole_within) : FnAt P w K mg base "are_exponents" 3 PM.are_exponents :=
  FnAt.mk F hm sc_are_exponents (fun _ _ _ _ _ _ => len2 fun _ _ => rfl) fun cdv A outer s H E hr =>
    by
      refine ms_cons ?_ ?_
      · refine ms_if ?_ ?_ ms_nil
        · refine mt_w ?_
          refine mw_or ?_ ?_
          · refine mt_not ?_
            refine mt_val ?_
            refine me_isT kitT_tuple (by rfl) T.b_isinstance (by rfl) T.b_tuple PyProof.Rows.boot_tuple ?_
            exact (me_var 0)
          refine mw_or1 ?_
          refine mt_cmp ?_ ?_ ?_
          · exact (op_neM hr.units)
          · refine me_callB ?_ (by rfl) T.b_len PySem.boot_len ?_
            · exact call_lenM
            refine ma_cons ?_ ma_nil
            exact (me_var 0)
          exact (me_var 1)
        refine ms_one ?_
        exact (ms_ret me_bl)
      refine ms_one ?_
      refine ms_ret ?_
      refine me_callB ?_ (by rfl) T.b_all PyProof.Rows.boot_all ?_
      · exact (call_allM hr.hd)
      refine ma_cons ?_ ma_nil
      refine me_comp (N := ["exponent"]) (k := 1) rfl rfl (capsA (cl := []) (caps := []) (by rfl) .nil (by rfl) (by rfl) (by rfl) (by rfl) (by rfl) (by rfl)) ?_ (fun _ _ _ _ => ?_) (fun _ _ _ _ => mif_nil) (fun _ _ _ _ => ?_)
      · refine mi_seq ?_
        exact (me_var 0)
      · exact (mg_name 0 nd_0_are_exponents)
      refine me_fn G_is_whole_within hr (by decide) (by rfl) passB ?_
      refine ma_cons ?_ ?_
      · exact (me_var 0)
      refine ma_int ?_
      refine ma_cons ?_ ma_nil
      exact (me_glob (by rfl) T.g_MOST_MADE_EXPONENT)
theorem nd_0_sum_of_totals : (["exponents", "totals"] : List Str).Nodup := by decide +kernel
theorem sc_sum_of_totals : FnScope ["ring", "totals"] ["ring", "totals"] (defScope (top 23)) := ⟨rfl, rfl, rfl, by decide +kernel, rfl, by decide +kernel, by decide +kernel⟩
theorem ok_sum_of_totals {f : Addr} {fd : FuncData} (F : Fun K "sum_of_totals" "sum_of_totals" (top 23) f fd) (hm : mg "sum_of_totals" = some (.ref f)) (T : Txt K mg) (G_settled_terms : FnAt P w K mg base "settled_terms" 2 PM.settled_terms) : FnAt P w K mg base "sum_of_totals" 3 PM.sum_of_totals :=
  FnAt.mk F hm sc_sum_of_totals (fun _ _ _ _ _ _ => len2 fun _ _ => rfl) fun cdv A outer s H E hr =>
    by
      refine ms_one ?_
      refine ms_ret ?_
      refine me_fn G_settled_terms hr (by decide) (by rfl) pass_out ?_
      refine ma_cons ?_ ?_
      · exact (me_var 0)
      refine ma_cons ?_ ma_nil
      refine me_comp (N := ["exponents", "totals"]) (k := 1) rfl rfl (capsA (cl := [("totals", s.heap.objs.size + 1)]) (caps := [1]) (by rfl) (.cons (c := s.heap.objs.size + 1) (by rfl) (by rfl) (by first | exact Or.inl rfl | exact Or.inr rfl) (by first | exact Or.inl rfl | exact Or.inr rfl) .nil) (by rfl) (by rfl) (by rfl) (by rfl) (by rfl) (by rfl)) ?_ (fun _ _ _ _ => ?_) (fun _ _ _ _ => mif_nil) (fun _ _ _ _ => ?_)
      · refine mi_seq ?_
        refine me_sortD (by rfl) (by rfl) T.b_sorted PyProof.Rows.Boot.«sorted» ?_
        exact (me_var 1)
      · exact (mg_name 0 nd_0_sum_of_totals)
      refine me_tup ?_
      refine ma_cons ?_ ?_
      · exact (me_var 0)
      refine ma_cons ?_ ma_nil
      refine me_dget hr.units ?_ ?_
      · exact (me_var 1)
      exact (me_var 0)
theorem sc_is_pair : FnScope ["thing", "many"] ["thing", "many"] (defScope (top 19)) := ⟨rfl, rfl, rfl, by decide +kernel, rfl, by decide +kernel, by decide +kernel⟩
theorem ok_is_pair {f : Addr} {fd : FuncData} (F : Fun K "is_pair" "is_pair" (top 19) f fd) (hm : mg "is_pair" = some (.ref f)) (T : Txt K mg) (G_is_whole : FnAt P w K mg base "is_whole" 1 PM.is_whole) (G_are_exponents : FnAt P w K mg base "are_exponents" 3 PM.are_exponents) : FnAt P w K mg base "is_pair" 4 PM.is_pair :=
  FnAt.mk F hm sc_is_pair (fun _ _ _ _ _ _ => len2 fun _ _ => rfl) fun cdv A outer s H E hr =>
    by
      refine ms_cons ?_ ?_
      · refine ms_if ?_ ?_ ms_nil
        · refine mt_w ?_
          refine mw_or ?_ ?_
          · refine mt_not ?_
            refine mt_val ?_
            refine me_isT kitT_tuple (by rfl) T.b_isinstance (by rfl) T.b_tuple PyProof.Rows.boot_tuple ?_
            exact (me_var 0)
          refine mw_or1 ?_
          refine mt_cmp ?_ ?_ me_int
          · exact (op_neM hr.units)
          refine me_callB ?_ (by rfl) T.b_len PySem.boot_len ?_
          · exact call_lenM
          refine ma_cons ?_ ma_nil
          exact (me_var 0)
        refine ms_one ?_
        exact (ms_ret me_bl)
      refine ms_one ?_
      refine ms_ret ?_
      refine me_and ?_ ?_
      · refine me_fn G_are_exponents hr (by decide) (by rfl) pass_out ?_
        refine ma_cons ?_ ?_
        · refine me_ixM ?_ me_int
          exact (me_var 0)
        refine ma_cons ?_ ma_nil
        exact (me_var 1)
      refine me_one ?_
      refine me_fn G_is_whole hr (by decide) (by rfl) pass_out ?_
      refine ma_cons ?_ ma_nil
      refine me_ixM ?_ me_int
      exact (me_var 0)
theorem sc_check_pairs : FnScope ["many", "pairs", "thing"] ["many", "pairs"] (defScope (top 20)) := ⟨rfl, rfl, rfl, by decide +kernel, rfl, by decide +kernel, by decide +kernel⟩
theorem ok_check_pairs {f : Addr} {fd : FuncData} (F : Fun K "check_pairs" "check_pairs" (top 20) f fd) (hm : mg "check_pairs" = some (.ref f)) (T : Txt K mg) (G_is_pair : FnAt P w K mg base "is_pair" 4 PM.is_pair) : FnAt P w K mg base "check_pairs" 5 PM.check_pairs :=
  FnAt.mk F hm sc_check_pairs (fun _ _ _ _ _ _ => len2 fun _ _ => rfl) fun cdv A outer s H E hr =>
    by
      refine ms_one ?_
      refine ms_for own_pass rfl ?_ ?_ ?_
      · refine mi_seq ?_
        exact (me_var 1)
      · exact (mg_name 2 sc_check_pairs.nd)
      refine ms_one ?_
      refine ms_if ?_ ?_ ms_nil
      · refine mt_not ?_
        refine mt_val ?_
        refine me_fn G_is_pair hr (by decide) (by rfl) pass_out ?_
        refine ma_cons ?_ ?_
        · exact (me_var 2)
        refine ma_cons ?_ ma_nil
        exact (me_var 0)
      refine ms_one ?_
      refine ms_raiseC own_raises rfl T.c_NoTerm (by rfl) ?_
      exact (ma_str ma_nil)
theorem sc_made : FnScope ["ring", "many", "pairs", "totals", "exponents", "number"] ["ring", "many", "pairs"] (defScope (top 24)) := ⟨rfl, rfl, rfl, by decide +kernel, rfl, by decide +kernel, by decide +kernel⟩
theorem ok_made {f : Addr} {fd : FuncData} (F : Fun K "made" "made" (top 24) f fd) (hm : mg "made" = some (.ref f)) (T : Txt K mg) (G_add_to : FnAt P w K mg base "add_to" 1 PM.add_to) (G_check_ring : FnAt P w K mg base "check_ring" 3 PM.check_ring) (G_check_unknowns : FnAt P w K mg base "check_unknowns" 3 PM.check_unknowns) (G_sum_of_totals : FnAt P w K mg base "sum_of_totals" 3 PM.sum_of_totals) (G_check_pairs : FnAt P w K mg base "check_pairs" 5 PM.check_pairs) : FnAt P w K mg base "made" 6 PM.made :=
  FnAt.mk F hm sc_made (fun _ _ _ _ _ _ => len3 fun _ _ _ => rfl) fun cdv A outer s H E hr =>
    by
      refine ms_cons ?_ ?_
      · refine ms_expr ?_
        refine me_fn G_check_ring hr (by decide) (by rfl) pass_out ?_
        refine ma_cons ?_ ma_nil
        exact (me_var 0)
      refine ms_cons ?_ ?_
      · refine ms_expr ?_
        refine me_fn G_check_unknowns hr (by decide) (by rfl) pass_out ?_
        refine ma_cons ?_ ma_nil
        exact (me_var 1)
      refine ms_cons ?_ ?_
      · refine ms_expr ?_
        refine me_fn G_check_pairs hr (by decide) (by rfl) pass_out ?_
        refine ma_cons ?_ ?_
        · exact (me_var 1)
        refine ma_cons ?_ ma_nil
        exact (me_var 2)
      refine ms_cons ?_ ?_
      · refine ms_setM ?_ ?_
        · exact sc_made.nd
        exact me_dnewT
      refine ms_cons ?_ ?_
      · refine ms_for own_pass rfl ?_ ?_ ?_
        · refine mi_seq ?_
          exact (me_var 2)
        · refine mg_tup rfl ?_
          refine mgs_cons ?_ ?_
          · exact (mg_name 4 sc_made.nd)
          refine mgs_cons ?_ mgs_nil
          exact (mg_name 5 sc_made.nd)
        refine ms_one ?_
        refine ms_expr ?_
        refine me_fn G_add_to hr (by decide) (by rfl) pass_out ?_
        refine ma_cons ?_ ?_
        · exact (me_var 3)
        refine ma_cons ?_ ?_
        · exact (me_var 4)
        refine ma_cons ?_ ma_nil
        exact (me_var 5)
      refine ms_one ?_
      refine ms_ret ?_
      refine me_fn G_sum_of_totals hr (by decide) (by rfl) pass_out ?_
      refine ma_cons ?_ ?_
      · exact (me_var 0)
      refine ma_cons ?_ ma_nil
      exact (me_var 3)
theorem sc__law_told : FnScope ["_law_ring_here", "_law_many", "_law_pairs_here"] ["_law_ring_here", "_law_many", "_law_pairs_here"] (defScope (top 37)) := ⟨rfl, rfl, rfl, by decide +kernel, rfl, by decide +kernel, by decide +kernel⟩
theorem ok__law_told {f : Addr} {fd : FuncData} (F : Fun K "_law_told" "_law_told" (top 37) f fd) (hm : mg "_law_told" = some (.ref f)) (T : Txt K mg) (G_made : FnAt P w K mg base "made" 6 PM.made) : FnAt P w K mg base "_law_told" 7 w_law_told :=
  FnAt.mk F hm sc__law_told (fun _ _ _ _ _ _ => len3 fun _ _ _ => rfl) fun cdv A outer s H E hr =>
    by
      refine ms_one ?_
      refine ms_try T.kn ⟨fun _ => rfl, rfl, rfl⟩ ?_ ?_
      · refine mse_one ?_
        refine mse_ret ?_
        refine mee_tup ?_
        refine mae_cons ?_ ?_
        · exact (mee_pure fun _ => me_str)
        refine mae_cons ?_ mae_nil
        refine mee_fn G_made hr (by decide) (by rfl) (fun _ => rfl) (fun _ => ?_)
        refine ma_cons ?_ ?_
        · exact (me_var 0)
        refine ma_cons ?_ ?_
        · exact (me_var 1)
        refine ma_cons ?_ ma_nil
        exact (me_var 2)
      refine mh_consC T.sub T.c_NoUnknowns (by rfl) (fun _ _ => ?_) ?_
      · refine ms_one ?_
        refine ms_ret ?_
        refine me_tup ?_
        refine ma_str ?_
        refine ma_cons ?_ ma_nil
        exact (me_lst ma_nil)
      refine mh_consC T.sub T.c_NoTerm (by rfl) (fun _ _ => ?_) mh_nil
      refine ms_one ?_
      refine ms_ret ?_
      refine me_tup ?_
      refine ma_str ?_
      refine ma_cons ?_ ma_nil
      exact (me_lst ma_nil)
theorem sc__law_refused : FnScope ["_law_ring_here", "_law_many", "_law_pairs_here", "e"] ["_law_ring_here", "_law_many", "_law_pairs_here"] (defScope (top 38)) := ⟨rfl, rfl, rfl, by decide +kernel, rfl, by decide +kernel, by decide +kernel⟩
theorem ok__law_refused {f : Addr} {fd : FuncData} (F : Fun K "_law_refused" "_law_refused" (top 38) f fd) (hm : mg "_law_refused" = some (.ref f)) (T : Txt K mg) (G_made : FnAt P w K mg base "made" 6 PM.made) : FnAt P w K mg base "_law_refused" 7 w_law_refused :=
  FnAt.mk F hm sc__law_refused (fun _ _ _ _ _ _ => len3 fun _ _ _ => rfl) fun cdv A outer s H E hr =>
    by
      refine ms_cons ?_ ?_
      · refine ms_try T.kn ⟨fun _ => rfl, rfl, rfl⟩ ?_ ?_
        · refine mse_one ?_
          refine mse_expr ?_
          refine mee_fn G_made hr (by decide) (by rfl) (fun _ => rfl) (fun _ => ?_)
          refine ma_cons ?_ ?_
          · exact (me_var 0)
          refine ma_cons ?_ ?_
          · exact (me_var 1)
          refine ma_cons ?_ ma_nil
          exact (me_var 2)
        refine mh_asC (i := 3) T.sub sc__law_refused.nd T.c_AlgebraError (by rfl) (fun _ _ => ?_) mh_nil
        refine ms_one ?_
        refine ms_ret ?_
        exact (me_isXb 3 T.sub T.b_ValueError bt_ValueError (by rfl) T.b_isinstance (by rfl))
      refine ms_one ?_
      exact (ms_ret me_bl)
theorem nd_0_law : (["_law_pair"] : List Str).Nodup := by decide +kernel
theorem sc_law : FnScope ["_law_script", "_law_ring_here", "_law_second", "_law_third", "_law_many", "_law_pairs_here", "_law_place", "_law_count", "_law_bad", "_law_handed", "_law_found"] ["_law_script"] (defScope (top 39)) := ⟨rfl, rfl, rfl, by decide +kernel, rfl, by decide +kernel, by decide +kernel⟩
theorem law_fn {f : Addr} {fd : FuncData} (F : Fun K "law" "law" (top 39) f fd) (T : Txt K mg) (G__law_cell_at : FnAt P w K mg base "_law_cell_at" 1 PM.law_cell_at) (G__law_odd : FnAt P w K mg base "_law_odd" 1 PM.law_odd_v2) (G__law_ring : FnAt P w K mg base "_law_ring" 2 PM.law_ring) (G__law_gathered : FnAt P w K mg base "_law_gathered" 2 PM.law_gathered) (G__law_same : FnAt P w K mg base "_law_same" 2 PM.law_same) (G__law_pairs : FnAt P w K mg base "_law_pairs" 2 PM.law_pairs) (G_made : FnAt P w K mg base "made" 6 PM.made) (G__law_told : FnAt P w K mg base "_law_told" 7 w_law_told) (G__law_refused : FnAt P w K mg base "_law_refused" 7 w_law_refused) : FnOk P w K mg base (CX1 P w) 8 f fd ["_law_script"] (spM ⟨K, mg, []⟩ w_law) :=
  fn_okM F sc_law fun cdv A outer s H E hr =>
    by
      refine ms_cons ?_ ?_
      · refine ms_setM ?_ ?_
        · exact sc_law.nd
        refine me_fn G__law_ring hr (by decide) (by rfl) pass_out ?_
        refine ma_cons ?_ ma_nil
        refine me_fn G__law_cell_at hr (by decide) (by rfl) pass_out ?_
        refine ma_cons ?_ ?_
        · exact (me_var 0)
        exact (ma_int ma_nil)
      refine ms_cons ?_ ?_
      · refine ms_setM ?_ ?_
        · exact sc_law.nd
        refine me_fn G__law_cell_at hr (by decide) (by rfl) pass_out ?_
        refine ma_cons ?_ ?_
        · exact (me_var 0)
        exact (ma_int ma_nil)
      refine ms_cons ?_ ?_
      · refine ms_setM ?_ ?_
        · exact sc_law.nd
        refine me_fn G__law_cell_at hr (by decide) (by rfl) pass_out ?_
        refine ma_cons ?_ ?_
        · exact (me_var 0)
        exact (ma_int ma_nil)
      refine ms_cons ?_ ?_
      · refine ms_setM ?_ ?_
        · exact sc_law.nd
        refine me_bin ?_ me_int ?_
        · exact op_addM
        refine me_bin ?_ ?_ me_int
        · exact op_modM
        exact (me_var 2)
      refine ms_cons ?_ ?_
      · refine ms_setM ?_ ?_
        · exact sc_law.nd
        refine me_fn G__law_pairs hr (by decide) (by rfl) pass_out ?_
        refine ma_cons ?_ ?_
        · exact (me_var 0)
        refine ma_int ?_
        refine ma_cons ?_ ?_
        · exact (me_var 4)
        refine ma_cons ?_ ma_nil
        refine me_bin ?_ ?_ me_int
        · exact op_modM
        refine me_bin ?_ ?_ me_int
        · exact op_fdivM
        exact (me_var 2)
      refine ms_cons ?_ ?_
      · refine ms_if ?_ ?_ ms_nil
        · refine mt_cmp ?_ ?_ me_int
          · exact (op_eqM hr.units)
          refine me_bin ?_ ?_ me_int
          · exact op_modM
          refine me_bin ?_ ?_ me_int
          · exact op_fdivM
          exact (me_var 2)
        refine ms_one ?_
        refine ms_setM ?_ ?_
        · exact sc_law.nd
        refine me_bin ?_ ?_ ?_
        · exact op_addM
        · exact (me_var 5)
        refine me_comp (N := ["_law_pair"]) (k := 1) rfl rfl (capsA (cl := []) (caps := []) (by rfl) .nil (by rfl) (by rfl) (by rfl) (by rfl) (by rfl) (by rfl)) ?_ (fun _ _ _ _ => ?_) (fun _ _ _ _ => mif_nil) (fun _ _ _ _ => ?_)
        · refine mi_seq ?_
          refine me_sl ?_ mo_none ?_
          · exact (me_var 5)
          exact (mo_some me_int)
        · exact (mg_name 0 nd_0_law)
        refine me_tup ?_
        refine ma_cons ?_ ?_
        · refine me_ixM ?_ me_int
          exact (me_var 0)
        refine ma_cons ?_ ma_nil
        refine me_neg ?_
        refine me_ixM ?_ me_int
        exact (me_var 0)
      refine ms_cons ?_ ?_
      · refine ms_if ?_ ?_ ms_nil
        · refine mt_cmp ?_ ?_ me_int
          · exact (op_eqM hr.units)
          refine me_bin ?_ ?_ me_int
          · exact op_modM
          exact (me_var 3)
        refine ms_cons ?_ ?_
        · refine ms_setM ?_ ?_
          · exact sc_law.nd
          refine me_bin ?_ ?_ ?_
          · exact op_modM
          · refine me_bin ?_ ?_ me_int
            · exact op_fdivM
            exact (me_var 3)
          refine me_bin ?_ ?_ me_int
          · exact op_addM
          refine me_callB ?_ (by rfl) T.b_len PySem.boot_len ?_
          · exact call_lenM
          refine ma_cons ?_ ma_nil
          exact (me_var 5)
        refine ms_one ?_
        refine ms_setM ?_ ?_
        · exact sc_law.nd
        refine me_bin ?_ ?_ ?_
        · exact op_addM
        · refine me_bin ?_ ?_ ?_
          · exact op_addM
          · refine me_sl ?_ mo_none ?_
            · exact (me_var 5)
            refine mo_some ?_
            exact (me_var 6)
          refine me_lst ?_
          refine ma_cons ?_ ma_nil
          refine me_fn G__law_odd hr (by decide) (by rfl) pass_out ?_
          refine ma_cons ?_ ?_
          · refine me_fn G__law_cell_at hr (by decide) (by rfl) pass_out ?_
            refine ma_cons ?_ ?_
            · exact (me_var 0)
            exact (ma_int ma_nil)
          refine ma_cons ?_ ma_nil
          exact (me_var 4)
        refine me_sl ?_ ?_ mo_none
        · exact (me_var 5)
        refine mo_some ?_
        exact (me_var 6)
      refine ms_cons ?_ ?_
      · refine ms_setM ?_ ?_
        · exact sc_law.nd
        exact (me_var 4)
      refine ms_cons ?_ ?_
      · refine ms_setM ?_ ?_
        · exact sc_law.nd
        refine me_cmp ?_ ?_ me_int
        · exact (op_eqM hr.units)
        refine me_bin ?_ ?_ me_int
        · exact op_modM
        refine me_bin ?_ ?_ me_int
        · exact op_fdivM
        exact (me_var 3)
      refine ms_cons ?_ ?_
      · refine ms_if ?_ ?_ ms_nil
        · refine mt_val ?_
          exact (me_var 8)
        refine ms_one ?_
        refine ms_setM ?_ ?_
        · exact sc_law.nd
        refine me_ixM ?_ ?_
        · refine me_lst ?_
          refine ma_int ?_
          refine ma_int ?_
          refine ma_cons ?_ ?_
          · exact (me_neg me_int)
          refine ma_bl ?_
          refine ma_non ?_
          refine ma_str ?_
          exact (ma_int ma_nil)
        refine me_bin ?_ ?_ me_int
        · exact op_modM
        refine me_fn G__law_cell_at hr (by decide) (by rfl) pass_out ?_
        refine ma_cons ?_ ?_
        · exact (me_var 0)
        exact (ma_int ma_nil)
      refine ms_cons ?_ ?_
      · refine ms_setM ?_ ?_
        · exact sc_law.nd
        refine me_callTy ?_ (by rfl) T.b_list PyProof.Rows.boot_list ?_
        · exact call_lstM
        refine ma_cons ?_ ma_nil
        exact (me_var 5)
      refine ms_cons ?_ ?_
      · refine ms_setM ?_ ?_
        · exact sc_law.nd
        refine me_fn G__law_told hr (by decide) (by rfl) pass_out ?_
        refine ma_cons ?_ ?_
        · exact (me_var 1)
        refine ma_cons ?_ ?_
        · exact (me_var 7)
        refine ma_cons ?_ ma_nil
        exact (me_var 9)
      refine ms_cons ?_ ?_
      · refine ms_if ?_ ?_ ms_nil
        · refine mt_cmp ?_ ?_ ?_
          · exact (op_neM hr.units)
          · exact (me_var 9)
          exact (me_var 5)
        refine ms_one ?_
        exact (ms_ret me_bl)
      refine ms_cons ?_ ?_
      · refine ms_if ?_ ?_ ms_nil
        · refine mt_val ?_
          exact (me_var 8)
        refine ms_one ?_
        refine ms_ret ?_
        refine me_and ?_ ?_
        · refine me_cmp ?_ ?_ me_str
          · exact (op_eqM hr.units)
          refine me_ixM ?_ me_int
          exact (me_var 10)
        refine me_one ?_
        refine me_fn G__law_refused hr (by decide) (by rfl) pass_out ?_
        refine ma_cons ?_ ?_
        · exact (me_var 1)
        refine ma_cons ?_ ?_
        · exact (me_var 7)
        refine ma_cons ?_ ma_nil
        exact (me_var 9)
      refine ms_cons ?_ ?_
      · refine ms_if ?_ ?_ ms_nil
        · refine mt_cmp ?_ ?_ me_int
          · exact (op_eqM hr.units)
          refine me_bin ?_ ?_ me_int
          · exact op_modM
          exact (me_var 3)
        refine ms_one ?_
        refine ms_ret ?_
        refine me_and ?_ ?_
        · refine me_cmp ?_ ?_ me_str
          · exact (op_eqM hr.units)
          refine me_ixM ?_ me_int
          exact (me_var 10)
        refine me_one ?_
        refine me_fn G__law_refused hr (by decide) (by rfl) pass_out ?_
        refine ma_cons ?_ ?_
        · exact (me_var 1)
        refine ma_cons ?_ ?_
        · exact (me_var 4)
        refine ma_cons ?_ ma_nil
        exact (me_var 9)
      refine ms_cons ?_ ?_
      · refine ms_if ?_ ?_ ms_nil
        · refine mt_w ?_
          refine mw_or ?_ ?_
          · refine mt_cmp ?_ ?_ me_str
            · exact (op_neM hr.units)
            refine me_ixM ?_ me_int
            exact (me_var 10)
          refine mw_or1 ?_
          refine mt_not ?_
          refine mt_val ?_
          refine me_fn G__law_same hr (by decide) (by rfl) pass_out ?_
          refine ma_cons ?_ ?_
          · refine me_ixM ?_ me_int
            exact (me_var 10)
          refine ma_cons ?_ ma_nil
          refine me_fn G__law_gathered hr (by decide) (by rfl) pass_out ?_
          refine ma_cons ?_ ?_
          · exact (me_var 1)
          refine ma_cons ?_ ma_nil
          exact (me_var 5)
        refine ms_one ?_
        exact (ms_ret me_bl)
      refine ms_cons ?_ ?_
      · refine ms_expr ?_
        refine me_append ?_ ?_
        · refine me_ixM ?_ me_int
          exact (me_var 10)
        exact (ma_int ma_nil)
      refine ms_one ?_
      refine ms_ret ?_
      refine me_and ?_ ?_
      · refine me_fn G__law_same hr (by decide) (by rfl) pass_out ?_
        refine ma_cons ?_ ?_
        · refine me_fn G_made hr (by decide) (by rfl) pass_out ?_
          refine ma_cons ?_ ?_
          · exact (me_var 1)
          refine ma_cons ?_ ?_
          · exact (me_var 4)
          refine ma_cons ?_ ma_nil
          exact (me_var 9)
        refine ma_cons ?_ ma_nil
        refine me_fn G__law_gathered hr (by decide) (by rfl) pass_out ?_
        refine ma_cons ?_ ?_
        · exact (me_var 1)
        refine ma_cons ?_ ma_nil
        exact (me_var 5)
      refine me_one ?_
      refine me_cmp ?_ ?_ ?_
      · exact (op_eqM hr.units)
      · exact (me_var 9)
      exact (me_var 5)
end
theorem all_mk {l : PySem.W.OpenLaw} {w : World} {K : PySem.W.Frag} {h : Heap} {mg : Str → Option Value} {fa : Addr} (X : K.In h) (G : h.Ns mainGlobals mg) (hfa : mg "law" = some (.ref fa))
    {f0 : Addr} {od0 an0 : Option Addr} {sl0 : Array (Option Value)} {oc0 kV0 dc0 pm0 cd0 ct0 : Value}
    {f1 : Addr} {od1 an1 : Option Addr} {sl1 : Array (Option Value)} {oc1 kV1 dc1 pm1 cd1 ct1 : Value}
    {f2 : Addr} {od2 an2 : Option Addr} {sl2 : Array (Option Value)} {oc2 kV2 dc2 pm2 cd2 ct2 : Value}
    {f3 : Addr} {od3 an3 : Option Addr} {sl3 : Array (Option Value)} {oc3 kV3 dc3 pm3 cd3 ct3 : Value}
    {f4 : Addr} {od4 an4 : Option Addr} {sl4 : Array (Option Value)} {oc4 kV4 dc4 pm4 cd4 ct4 : Value}
    {f5 : Addr} {od5 an5 : Option Addr} {sl5 : Array (Option Value)} {oc5 kV5 dc5 pm5 cd5 ct5 : Value}
    {f6 : Addr} {od6 an6 : Option Addr} {sl6 : Array (Option Value)} {oc6 kV6 dc6 pm6 cd6 ct6 : Value}
    {f7 : Addr} {od7 an7 : Option Addr} {sl7 : Array (Option Value)} {oc7 kV7 dc7 pm7 cd7 ct7 : Value}
    {f8 : Addr} {od8 an8 : Option Addr} {sl8 : Array (Option Value)} {oc8 kV8 dc8 pm8 cd8 ct8 : Value}
    {f9 : Addr} {od9 an9 : Option Addr} {sl9 : Array (Option Value)} {oc9 kV9 dc9 pm9 cd9 ct9 : Value}
    {f10 : Addr} {od10 an10 : Option Addr} {sl10 : Array (Option Value)} {oc10 kV10 dc10 pm10 cd10 ct10 : Value}
    {f11 : Addr} {od11 an11 : Option Addr} {sl11 : Array (Option Value)} {oc11 kV11 dc11 pm11 cd11 ct11 : Value}
    {f12 : Addr} {od12 an12 : Option Addr} {sl12 : Array (Option Value)} {oc12 kV12 dc12 pm12 cd12 ct12 : Value}
    {f13 : Addr} {od13 an13 : Option Addr} {sl13 : Array (Option Value)} {oc13 kV13 dc13 pm13 cd13 ct13 : Value}
    {f14 : Addr} {od14 an14 : Option Addr} {sl14 : Array (Option Value)} {oc14 kV14 dc14 pm14 cd14 ct14 : Value}
    {f15 : Addr} {od15 an15 : Option Addr} {sl15 : Array (Option Value)} {oc15 kV15 dc15 pm15 cd15 ct15 : Value}
    {f16 : Addr} {od16 an16 : Option Addr} {sl16 : Array (Option Value)} {oc16 kV16 dc16 pm16 cd16 ct16 : Value}
    {f17 : Addr} {od17 an17 : Option Addr} {sl17 : Array (Option Value)} {oc17 kV17 dc17 pm17 cd17 ct17 : Value}
    {f18 : Addr} {od18 an18 : Option Addr} {sl18 : Array (Option Value)} {oc18 kV18 dc18 pm18 cd18 ct18 : Value}
    {f19 : Addr} {od19 an19 : Option Addr} {sl19 : Array (Option Value)} {oc19 kV19 dc19 pm19 cd19 ct19 : Value}
    {f20 : Addr} {od20 an20 : Option Addr} {sl20 : Array (Option Value)} {oc20 kV20 dc20 pm20 cd20 ct20 : Value}
    {f21 : Addr} {od21 an21 : Option Addr} {sl21 : Array (Option Value)} {oc21 kV21 dc21 pm21 cd21 ct21 : Value}
    {f22 : Addr} {od22 an22 : Option Addr} {sl22 : Array (Option Value)} {oc22 kV22 dc22 pm22 cd22 ct22 : Value}
    {f23 : Addr} {od23 an23 : Option Addr} {sl23 : Array (Option Value)} {oc23 kV23 dc23 pm23 cd23 ct23 : Value}
    {f24 : Addr} {od24 an24 : Option Addr} {sl24 : Array (Option Value)} {oc24 kV24 dc24 pm24 cd24 ct24 : Value}
    {f25 : Addr} {od25 an25 : Option Addr} {sl25 : Array (Option Value)} {oc25 kV25 dc25 pm25 cd25 ct25 : Value}
    {f26 : Addr} {od26 an26 : Option Addr} {sl26 : Array (Option Value)} {oc26 kV26 dc26 pm26 cd26 ct26 : Value}
    {f27 : Addr} {od27 an27 : Option Addr} {sl27 : Array (Option Value)} {oc27 kV27 dc27 pm27 cd27 ct27 : Value}
    {gt_MOST_RING : Tok}
    {ga_FIRST_PRIMES : Addr} {gd_FIRST_PRIMES : Option Addr} {gn_FIRST_PRIMES : Nat} {gs_FIRST_PRIMES : Array (Option Value)} {gt0_FIRST_PRIMES gt1_FIRST_PRIMES gt2_FIRST_PRIMES gt3_FIRST_PRIMES gt4_FIRST_PRIMES gt5_FIRST_PRIMES gt6_FIRST_PRIMES gt7_FIRST_PRIMES gt8_FIRST_PRIMES gt9_FIRST_PRIMES gt10_FIRST_PRIMES : Tok}
    {gt_MOST_UNKNOWNS : Tok}
    {gt_MOST_MADE_EXPONENT : Tok}
    {C_AlgebraError : Addr} {cdat_AlgebraError : ClassData}
    {C_NoRing : Addr} {cdat_NoRing : ClassData}
    {C_NoUnknowns : Addr} {cdat_NoUnknowns : ClassData}
    {C_NoTerm : Addr} {cdat_NoTerm : ClassData}
    (a0 : PySem.W.nsIn K mainGlobals "is_whole" = some (some (.ref f0))) (l0 : K.lookup f0 = some ⟨oc0, od0, .func (PySem.W.fnOf "is_whole" "is_whole" (defArgs (top 8)) (defBody (top 8)) (defScope (top 8)) .none kV0 dc0 pm0 an0 cd0 ct0), sl0⟩) (c0 : PySem.W.codeIn K cd0 "is_whole" = true) (k0 : PySem.W.keepIn K (.ref f0) = true)
    (a1 : PySem.W.nsIn K mainGlobals "is_prime_within" = some (some (.ref f1))) (l1 : K.lookup f1 = some ⟨oc1, od1, .func (PySem.W.fnOf "is_prime_within" "is_prime_within" (defArgs (top 9)) (defBody (top 9)) (defScope (top 9)) .none kV1 dc1 pm1 an1 cd1 ct1), sl1⟩) (c1 : PySem.W.codeIn K cd1 "is_prime_within" = true) (k1 : PySem.W.keepIn K (.ref f1) = true)
    (a2 : PySem.W.nsIn K mainGlobals "rest_in_ring" = some (some (.ref f2))) (l2 : K.lookup f2 = some ⟨oc2, od2, .func (PySem.W.fnOf "rest_in_ring" "rest_in_ring" (defArgs (top 12)) (defBody (top 12)) (defScope (top 12)) .none kV2 dc2 pm2 an2 cd2 ct2), sl2⟩) (c2 : PySem.W.codeIn K cd2 "rest_in_ring" = true) (k2 : PySem.W.keepIn K (.ref f2) = true)
    (a3 : PySem.W.nsIn K mainGlobals "add_to" = some (some (.ref f3))) (l3 : K.lookup f3 = some ⟨oc3, od3, .func (PySem.W.fnOf "add_to" "add_to" (defArgs (top 21)) (defBody (top 21)) (defScope (top 21)) .none kV3 dc3 pm3 an3 cd3 ct3), sl3⟩) (c3 : PySem.W.codeIn K cd3 "add_to" = true) (k3 : PySem.W.keepIn K (.ref f3) = true)
    (a4 : PySem.W.nsIn K mainGlobals "_law_whole" = some (some (.ref f4))) (l4 : K.lookup f4 = some ⟨oc4, od4, .func (PySem.W.fnOf "_law_whole" "_law_whole" (defArgs (top 26)) (defBody (top 26)) (defScope (top 26)) .none kV4 dc4 pm4 an4 cd4 ct4), sl4⟩) (c4 : PySem.W.codeIn K cd4 "_law_whole" = true) (k4 : PySem.W.keepIn K (.ref f4) = true)
    (a5 : PySem.W.nsIn K mainGlobals "_law_cell_at" = some (some (.ref f5))) (l5 : K.lookup f5 = some ⟨oc5, od5, .func (PySem.W.fnOf "_law_cell_at" "_law_cell_at" (defArgs (top 27)) (defBody (top 27)) (defScope (top 27)) .none kV5 dc5 pm5 an5 cd5 ct5), sl5⟩) (c5 : PySem.W.codeIn K cd5 "_law_cell_at" = true) (k5 : PySem.W.keepIn K (.ref f5) = true)
    (a6 : PySem.W.nsIn K mainGlobals "_law_prime" = some (some (.ref f6))) (l6 : K.lookup f6 = some ⟨oc6, od6, .func (PySem.W.fnOf "_law_prime" "_law_prime" (defArgs (top 28)) (defBody (top 28)) (defScope (top 28)) .none kV6 dc6 pm6 an6 cd6 ct6), sl6⟩) (c6 : PySem.W.codeIn K cd6 "_law_prime" = true) (k6 : PySem.W.keepIn K (.ref f6) = true)
    (a7 : PySem.W.nsIn K mainGlobals "_law_settled" = some (some (.ref f7))) (l7 : K.lookup f7 = some ⟨oc7, od7, .func (PySem.W.fnOf "_law_settled" "_law_settled" (defArgs (top 30)) (defBody (top 30)) (defScope (top 30)) .none kV7 dc7 pm7 an7 cd7 ct7), sl7⟩) (c7 : PySem.W.codeIn K cd7 "_law_settled" = true) (k7 : PySem.W.keepIn K (.ref f7) = true)
    (a8 : PySem.W.nsIn K mainGlobals "_law_number" = some (some (.ref f8))) (l8 : K.lookup f8 = some ⟨oc8, od8, .func (PySem.W.fnOf "_law_number" "_law_number" (defArgs (top 33)) (defBody (top 33)) (defScope (top 33)) .none kV8 dc8 pm8 an8 cd8 ct8), sl8⟩) (c8 : PySem.W.codeIn K cd8 "_law_number" = true) (k8 : PySem.W.keepIn K (.ref f8) = true)
    (a9 : PySem.W.nsIn K mainGlobals "_law_exponents" = some (some (.ref f9))) (l9 : K.lookup f9 = some ⟨oc9, od9, .func (PySem.W.fnOf "_law_exponents" "_law_exponents" (defArgs (top 34)) (defBody (top 34)) (defScope (top 34)) .none kV9 dc9 pm9 an9 cd9 ct9), sl9⟩) (c9 : PySem.W.codeIn K cd9 "_law_exponents" = true) (k9 : PySem.W.keepIn K (.ref f9) = true)
    (a10 : PySem.W.nsIn K mainGlobals "_law_odd" = some (some (.ref f10))) (l10 : K.lookup f10 = some ⟨oc10, od10, .func (PySem.W.fnOf "_law_odd" "_law_odd" (defArgs (top 36)) (defBody (top 36)) (defScope (top 36)) .none kV10 dc10 pm10 an10 cd10 ct10), sl10⟩) (c10 : PySem.W.codeIn K cd10 "_law_odd" = true) (k10 : PySem.W.keepIn K (.ref f10) = true)
    (a11 : PySem.W.nsIn K mainGlobals "is_ring" = some (some (.ref f11))) (l11 : K.lookup f11 = some ⟨oc11, od11, .func (PySem.W.fnOf "is_ring" "is_ring" (defArgs (top 10)) (defBody (top 10)) (defScope (top 10)) .none kV11 dc11 pm11 an11 cd11 ct11), sl11⟩) (c11 : PySem.W.codeIn K cd11 "is_ring" = true) (k11 : PySem.W.keepIn K (.ref f11) = true)
    (a12 : PySem.W.nsIn K mainGlobals "is_whole_within" = some (some (.ref f12))) (l12 : K.lookup f12 = some ⟨oc12, od12, .func (PySem.W.fnOf "is_whole_within" "is_whole_within" (defArgs (top 16)) (defBody (top 16)) (defScope (top 16)) .none kV12 dc12 pm12 an12 cd12 ct12), sl12⟩) (c12 : PySem.W.codeIn K cd12 "is_whole_within" = true) (k12 : PySem.W.keepIn K (.ref f12) = true)
    (a13 : PySem.W.nsIn K mainGlobals "settled_terms" = some (some (.ref f13))) (l13 : K.lookup f13 = some ⟨oc13, od13, .func (PySem.W.fnOf "settled_terms" "settled_terms" (defArgs (top 22)) (defBody (top 22)) (defScope (top 22)) .none kV13 dc13 pm13 an13 cd13 ct13), sl13⟩) (c13 : PySem.W.codeIn K cd13 "settled_terms" = true) (k13 : PySem.W.keepIn K (.ref f13) = true)
    (a14 : PySem.W.nsIn K mainGlobals "_law_ring" = some (some (.ref f14))) (l14 : K.lookup f14 = some ⟨oc14, od14, .func (PySem.W.fnOf "_law_ring" "_law_ring" (defArgs (top 29)) (defBody (top 29)) (defScope (top 29)) .none kV14 dc14 pm14 an14 cd14 ct14), sl14⟩) (c14 : PySem.W.codeIn K cd14 "_law_ring" = true) (k14 : PySem.W.keepIn K (.ref f14) = true)
    (a15 : PySem.W.nsIn K mainGlobals "_law_gathered" = some (some (.ref f15))) (l15 : K.lookup f15 = some ⟨oc15, od15, .func (PySem.W.fnOf "_law_gathered" "_law_gathered" (defArgs (top 31)) (defBody (top 31)) (defScope (top 31)) .none kV15 dc15 pm15 an15 cd15 ct15), sl15⟩) (c15 : PySem.W.codeIn K cd15 "_law_gathered" = true) (k15 : PySem.W.keepIn K (.ref f15) = true)
    (a16 : PySem.W.nsIn K mainGlobals "_law_same" = some (some (.ref f16))) (l16 : K.lookup f16 = some ⟨oc16, od16, .func (PySem.W.fnOf "_law_same" "_law_same" (defArgs (top 32)) (defBody (top 32)) (defScope (top 32)) .none kV16 dc16 pm16 an16 cd16 ct16), sl16⟩) (c16 : PySem.W.codeIn K cd16 "_law_same" = true) (k16 : PySem.W.keepIn K (.ref f16) = true)
    (a17 : PySem.W.nsIn K mainGlobals "_law_pairs" = some (some (.ref f17))) (l17 : K.lookup f17 = some ⟨oc17, od17, .func (PySem.W.fnOf "_law_pairs" "_law_pairs" (defArgs (top 35)) (defBody (top 35)) (defScope (top 35)) .none kV17 dc17 pm17 an17 cd17 ct17), sl17⟩) (c17 : PySem.W.codeIn K cd17 "_law_pairs" = true) (k17 : PySem.W.keepIn K (.ref f17) = true)
    (a18 : PySem.W.nsIn K mainGlobals "check_ring" = some (some (.ref f18))) (l18 : K.lookup f18 = some ⟨oc18, od18, .func (PySem.W.fnOf "check_ring" "check_ring" (defArgs (top 11)) (defBody (top 11)) (defScope (top 11)) .none kV18 dc18 pm18 an18 cd18 ct18), sl18⟩) (c18 : PySem.W.codeIn K cd18 "check_ring" = true) (k18 : PySem.W.keepIn K (.ref f18) = true)
    (a19 : PySem.W.nsIn K mainGlobals "check_unknowns" = some (some (.ref f19))) (l19 : K.lookup f19 = some ⟨oc19, od19, .func (PySem.W.fnOf "check_unknowns" "check_unknowns" (defArgs (top 17)) (defBody (top 17)) (defScope (top 17)) .none kV19 dc19 pm19 an19 cd19 ct19), sl19⟩) (c19 : PySem.W.codeIn K cd19 "check_unknowns" = true) (k19 : PySem.W.keepIn K (.ref f19) = true)
    (a20 : PySem.W.nsIn K mainGlobals "are_exponents" = some (some (.ref f20))) (l20 : K.lookup f20 = some ⟨oc20, od20, .func (PySem.W.fnOf "are_exponents" "are_exponents" (defArgs (top 18)) (defBody (top 18)) (defScope (top 18)) .none kV20 dc20 pm20 an20 cd20 ct20), sl20⟩) (c20 : PySem.W.codeIn K cd20 "are_exponents" = true) (k20 : PySem.W.keepIn K (.ref f20) = true)
    (a21 : PySem.W.nsIn K mainGlobals "sum_of_totals" = some (some (.ref f21))) (l21 : K.lookup f21 = some ⟨oc21, od21, .func (PySem.W.fnOf "sum_of_totals" "sum_of_totals" (defArgs (top 23)) (defBody (top 23)) (defScope (top 23)) .none kV21 dc21 pm21 an21 cd21 ct21), sl21⟩) (c21 : PySem.W.codeIn K cd21 "sum_of_totals" = true) (k21 : PySem.W.keepIn K (.ref f21) = true)
    (a22 : PySem.W.nsIn K mainGlobals "is_pair" = some (some (.ref f22))) (l22 : K.lookup f22 = some ⟨oc22, od22, .func (PySem.W.fnOf "is_pair" "is_pair" (defArgs (top 19)) (defBody (top 19)) (defScope (top 19)) .none kV22 dc22 pm22 an22 cd22 ct22), sl22⟩) (c22 : PySem.W.codeIn K cd22 "is_pair" = true) (k22 : PySem.W.keepIn K (.ref f22) = true)
    (a23 : PySem.W.nsIn K mainGlobals "check_pairs" = some (some (.ref f23))) (l23 : K.lookup f23 = some ⟨oc23, od23, .func (PySem.W.fnOf "check_pairs" "check_pairs" (defArgs (top 20)) (defBody (top 20)) (defScope (top 20)) .none kV23 dc23 pm23 an23 cd23 ct23), sl23⟩) (c23 : PySem.W.codeIn K cd23 "check_pairs" = true) (k23 : PySem.W.keepIn K (.ref f23) = true)
    (a24 : PySem.W.nsIn K mainGlobals "made" = some (some (.ref f24))) (l24 : K.lookup f24 = some ⟨oc24, od24, .func (PySem.W.fnOf "made" "made" (defArgs (top 24)) (defBody (top 24)) (defScope (top 24)) .none kV24 dc24 pm24 an24 cd24 ct24), sl24⟩) (c24 : PySem.W.codeIn K cd24 "made" = true) (k24 : PySem.W.keepIn K (.ref f24) = true)
    (a25 : PySem.W.nsIn K mainGlobals "_law_told" = some (some (.ref f25))) (l25 : K.lookup f25 = some ⟨oc25, od25, .func (PySem.W.fnOf "_law_told" "_law_told" (defArgs (top 37)) (defBody (top 37)) (defScope (top 37)) .none kV25 dc25 pm25 an25 cd25 ct25), sl25⟩) (c25 : PySem.W.codeIn K cd25 "_law_told" = true) (k25 : PySem.W.keepIn K (.ref f25) = true)
    (a26 : PySem.W.nsIn K mainGlobals "_law_refused" = some (some (.ref f26))) (l26 : K.lookup f26 = some ⟨oc26, od26, .func (PySem.W.fnOf "_law_refused" "_law_refused" (defArgs (top 38)) (defBody (top 38)) (defScope (top 38)) .none kV26 dc26 pm26 an26 cd26 ct26), sl26⟩) (c26 : PySem.W.codeIn K cd26 "_law_refused" = true) (k26 : PySem.W.keepIn K (.ref f26) = true)
    (a27 : PySem.W.nsIn K mainGlobals "law" = some (some (.ref f27))) (l27 : K.lookup f27 = some ⟨oc27, od27, .func (PySem.W.fnOf "law" "law" (defArgs (top 39)) (defBody (top 39)) (defScope (top 39)) .none kV27 dc27 pm27 an27 cd27 ct27), sl27⟩) (c27 : PySem.W.codeIn K cd27 "law" = true) (k27 : PySem.W.keepIn K (.ref f27) = true)
    (zb_ValueError : PySem.W.nsIn K mainGlobals "ValueError" = some none)
    (zb_all : PySem.W.nsIn K mainGlobals "all" = some none)
    (zb_bool : PySem.W.nsIn K mainGlobals "bool" = some none)
    (zb_int : PySem.W.nsIn K mainGlobals "int" = some none)
    (zb_isinstance : PySem.W.nsIn K mainGlobals "isinstance" = some none)
    (zb_len : PySem.W.nsIn K mainGlobals "len" = some none)
    (zb_list : PySem.W.nsIn K mainGlobals "list" = some none)
    (zb_range : PySem.W.nsIn K mainGlobals "range" = some none)
    (zb_sorted : PySem.W.nsIn K mainGlobals "sorted" = some none)
    (zb_tuple : PySem.W.nsIn K mainGlobals "tuple" = some none)
    (zg_MOST_RING : PySem.W.nsIn K mainGlobals "MOST_RING" = some (some (.int 997 gt_MOST_RING)))
    (zg_FIRST_PRIMES : PySem.W.nsIn K mainGlobals "FIRST_PRIMES" = some (some (.ref ga_FIRST_PRIMES))) (zl_FIRST_PRIMES : K.lookup ga_FIRST_PRIMES = some ⟨.type "tuple", gd_FIRST_PRIMES, .seq #[.int 2 gt0_FIRST_PRIMES, .int 3 gt1_FIRST_PRIMES, .int 5 gt2_FIRST_PRIMES, .int 7 gt3_FIRST_PRIMES, .int 11 gt4_FIRST_PRIMES, .int 13 gt5_FIRST_PRIMES, .int 17 gt6_FIRST_PRIMES, .int 19 gt7_FIRST_PRIMES, .int 23 gt8_FIRST_PRIMES, .int 29 gt9_FIRST_PRIMES, .int 31 gt10_FIRST_PRIMES] gn_FIRST_PRIMES, gs_FIRST_PRIMES⟩)
    (zg_MOST_UNKNOWNS : PySem.W.nsIn K mainGlobals "MOST_UNKNOWNS" = some (some (.int 4 gt_MOST_UNKNOWNS)))
    (zg_MOST_MADE_EXPONENT : PySem.W.nsIn K mainGlobals "MOST_MADE_EXPONENT" = some (some (.int 99 gt_MOST_MADE_EXPONENT)))
    (zc_AlgebraError : PySem.W.nsIn K mainGlobals "AlgebraError" = some (some (.ref C_AlgebraError))) (zd_AlgebraError : PySem.W.clsIn K C_AlgebraError = some cdat_AlgebraError) (zt_AlgebraError : PySem.W.typeIn K (.ref C_AlgebraError) = some (.type "type")) (ze_AlgebraError : PySem.W.excIn K C_AlgebraError bmV "ValueError.__new__" = true) (zs_AlgebraError : PySem.W.subIn K (.ref C_AlgebraError) (.type "BaseException") = some true)
    (zc_NoRing : PySem.W.nsIn K mainGlobals "NoRing" = some (some (.ref C_NoRing))) (zd_NoRing : PySem.W.clsIn K C_NoRing = some cdat_NoRing) (zt_NoRing : PySem.W.typeIn K (.ref C_NoRing) = some (.type "type")) (ze_NoRing : PySem.W.excIn K C_NoRing bmV "ValueError.__new__" = true) (zs_NoRing : PySem.W.subIn K (.ref C_NoRing) (.type "BaseException") = some true)
    (zc_NoUnknowns : PySem.W.nsIn K mainGlobals "NoUnknowns" = some (some (.ref C_NoUnknowns))) (zd_NoUnknowns : PySem.W.clsIn K C_NoUnknowns = some cdat_NoUnknowns) (zt_NoUnknowns : PySem.W.typeIn K (.ref C_NoUnknowns) = some (.type "type")) (ze_NoUnknowns : PySem.W.excIn K C_NoUnknowns bmV "ValueError.__new__" = true) (zs_NoUnknowns : PySem.W.subIn K (.ref C_NoUnknowns) (.type "BaseException") = some true)
    (zc_NoTerm : PySem.W.nsIn K mainGlobals "NoTerm" = some (some (.ref C_NoTerm))) (zd_NoTerm : PySem.W.clsIn K C_NoTerm = some cdat_NoTerm) (zt_NoTerm : PySem.W.typeIn K (.ref C_NoTerm) = some (.type "type")) (ze_NoTerm : PySem.W.excIn K C_NoTerm bmV "ValueError.__new__" = true) (zs_NoTerm : PySem.W.subIn K (.ref C_NoTerm) (.type "BaseException") = some true)
    (zp0 : PySem.W.subIn K (.ref C_NoRing) (.ref C_NoUnknowns) = some false)
    (zp1 : PySem.W.subIn K (.ref C_NoRing) (.ref C_NoTerm) = some false)
    (zp2 : PySem.W.subIn K (.ref C_NoRing) (.ref C_AlgebraError) = some true)
    (zp3 : PySem.W.kitOne K (.ref C_NoRing) (.type "ValueError") = some true)
    (zp4 : PySem.W.subIn K (.ref C_NoUnknowns) (.ref C_NoUnknowns) = some true)
    (zp5 : PySem.W.subIn K (.ref C_NoUnknowns) (.ref C_NoTerm) = some false)
    (zp6 : PySem.W.subIn K (.ref C_NoUnknowns) (.ref C_AlgebraError) = some true)
    (zp7 : PySem.W.kitOne K (.ref C_NoUnknowns) (.type "ValueError") = some true)
    (zp8 : PySem.W.subIn K (.ref C_NoTerm) (.ref C_NoUnknowns) = some false)
    (zp9 : PySem.W.subIn K (.ref C_NoTerm) (.ref C_NoTerm) = some true)
    (zp10 : PySem.W.subIn K (.ref C_NoTerm) (.ref C_AlgebraError) = some true)
    (zp11 : PySem.W.kitOne K (.ref C_NoTerm) (.type "ValueError") = some true) :
    ∃ fd : FuncData, (∀ (s : Shared) (v : Value), BindsTo s fd ⟨[v], []⟩ [("_law_script", v)]) ∧ ∀ base : Heap, K.In base → base.Ns mainGlobals mg → FnOk l.prog w K mg base (CX1 l.prog w) 8 fa fd ["_law_script"] (spLaw K) := by
  have e := hfa.symm.trans (PySem.W.mg_of X G a27)
  cases e
  have T : Txt K mg := ⟨PySem.W.mg_none_of X G zb_ValueError, PySem.W.mg_none_of X G zb_all, PySem.W.mg_none_of X G zb_bool, PySem.W.mg_none_of X G zb_int, PySem.W.mg_none_of X G zb_isinstance, PySem.W.mg_none_of X G zb_len, PySem.W.mg_none_of X G zb_list, PySem.W.mg_none_of X G zb_range, PySem.W.mg_none_of X G zb_sorted, PySem.W.mg_none_of X G zb_tuple, Glob.int (PySem.W.mg_of X G zg_MOST_RING), Glob.ints (ns := [2, 3, 5, 7, 11, 13, 17, 19, 23, 29, 31]) (PySem.W.mg_of X G zg_FIRST_PRIMES) zl_FIRST_PRIMES rfl rfl (by simp [sizeLine_eq]) (.cons ⟨_, rfl⟩ (.cons ⟨_, rfl⟩ (.cons ⟨_, rfl⟩ (.cons ⟨_, rfl⟩ (.cons ⟨_, rfl⟩ (.cons ⟨_, rfl⟩ (.cons ⟨_, rfl⟩ (.cons ⟨_, rfl⟩ (.cons ⟨_, rfl⟩ (.cons ⟨_, rfl⟩ (.cons ⟨_, rfl⟩ (.nil)))))))))))), Glob.int (PySem.W.mg_of X G zg_MOST_UNKNOWNS), Glob.int (PySem.W.mg_of X G zg_MOST_MADE_EXPONENT), ⟨C_AlgebraError, PySem.W.mg_of X G zc_AlgebraError, ze_AlgebraError, zs_AlgebraError⟩, ⟨C_NoRing, PySem.W.mg_of X G zc_NoRing, ze_NoRing, zs_NoRing⟩, ⟨C_NoUnknowns, PySem.W.mg_of X G zc_NoUnknowns, ze_NoUnknowns, zs_NoUnknowns⟩, ⟨C_NoTerm, PySem.W.mg_of X G zc_NoTerm, ze_NoTerm, zs_NoTerm⟩, (.own (PySem.W.mg_of X G zc_NoRing) (PySem.W.mg_of X G zc_NoUnknowns) (kitCls_of zd_NoUnknowns zt_NoUnknowns zp0) (.own (PySem.W.mg_of X G zc_NoRing) (PySem.W.mg_of X G zc_NoTerm) (kitCls_of zd_NoTerm zt_NoTerm zp1) (.own (PySem.W.mg_of X G zc_NoRing) (PySem.W.mg_of X G zc_AlgebraError) (kitCls_of zd_AlgebraError zt_AlgebraError zp2) (.blt (PySem.W.mg_of X G zc_NoRing) (PySem.W.mg_none_of X G zb_ValueError) bt_ValueError zp3 (.own (PySem.W.mg_of X G zc_NoUnknowns) (PySem.W.mg_of X G zc_NoUnknowns) (kitCls_of zd_NoUnknowns zt_NoUnknowns zp4) (.own (PySem.W.mg_of X G zc_NoUnknowns) (PySem.W.mg_of X G zc_NoTerm) (kitCls_of zd_NoTerm zt_NoTerm zp5) (.own (PySem.W.mg_of X G zc_NoUnknowns) (PySem.W.mg_of X G zc_AlgebraError) (kitCls_of zd_AlgebraError zt_AlgebraError zp6) (.blt (PySem.W.mg_of X G zc_NoUnknowns) (PySem.W.mg_none_of X G zb_ValueError) bt_ValueError zp7 (.own (PySem.W.mg_of X G zc_NoTerm) (PySem.W.mg_of X G zc_NoUnknowns) (kitCls_of zd_NoUnknowns zt_NoUnknowns zp8) (.own (PySem.W.mg_of X G zc_NoTerm) (PySem.W.mg_of X G zc_NoTerm) (kitCls_of zd_NoTerm zt_NoTerm zp9) (.own (PySem.W.mg_of X G zc_NoTerm) (PySem.W.mg_of X G zc_AlgebraError) (kitCls_of zd_AlgebraError zt_AlgebraError zp10) (.blt (PySem.W.mg_of X G zc_NoTerm) (PySem.W.mg_none_of X G zb_ValueError) bt_ValueError zp11 .nil)))))))))))), known_of (fun c hc => by
    simp only [kn, List.mem_cons, List.mem_nil_iff, or_false] at hc
    rcases hc with rfl | rfl | rfl
    · exact ⟨C_NoRing, PySem.W.mg_of X G zc_NoRing, ze_NoRing, zs_NoRing⟩
    · exact ⟨C_NoUnknowns, PySem.W.mg_of X G zc_NoUnknowns, ze_NoUnknowns, zs_NoUnknowns⟩
    · exact ⟨C_NoTerm, PySem.W.mg_of X G zc_NoTerm, ze_NoTerm, zs_NoTerm⟩)⟩
  have H_is_whole := fun (base : Heap) => ok_is_whole (P := l.prog) (w := w) (base := base) (fun_mk (st := top 8) l0 c0 k0) (PySem.W.mg_of X G a0) T 
  have H_is_prime_within := fun (base : Heap) => ok_is_prime_within (P := l.prog) (w := w) (base := base) (fun_mk (st := top 9) l1 c1 k1) (PySem.W.mg_of X G a1) T 
  have H_rest_in_ring := fun (base : Heap) => ok_rest_in_ring (P := l.prog) (w := w) (base := base) (fun_mk (st := top 12) l2 c2 k2) (PySem.W.mg_of X G a2) T 
  have H_add_to := fun (base : Heap) => ok_add_to (P := l.prog) (w := w) (base := base) (fun_mk (st := top 21) l3 c3 k3) (PySem.W.mg_of X G a3) T 
  have H__law_whole := fun (base : Heap) => ok__law_whole (P := l.prog) (w := w) (base := base) (fun_mk (st := top 26) l4 c4 k4) (PySem.W.mg_of X G a4) T 
  have H__law_cell_at := fun (base : Heap) => ok__law_cell_at (P := l.prog) (w := w) (base := base) (fun_mk (st := top 27) l5 c5 k5) (PySem.W.mg_of X G a5) T 
  have H__law_prime := fun (base : Heap) => ok__law_prime (P := l.prog) (w := w) (base := base) (fun_mk (st := top 28) l6 c6 k6) (PySem.W.mg_of X G a6) T 
  have H__law_settled := fun (base : Heap) => ok__law_settled (P := l.prog) (w := w) (base := base) (fun_mk (st := top 30) l7 c7 k7) (PySem.W.mg_of X G a7) T 
  have H__law_number := fun (base : Heap) => ok__law_number (P := l.prog) (w := w) (base := base) (fun_mk (st := top 33) l8 c8 k8) (PySem.W.mg_of X G a8) T 
  have H__law_exponents := fun (base : Heap) => ok__law_exponents (P := l.prog) (w := w) (base := base) (fun_mk (st := top 34) l9 c9 k9) (PySem.W.mg_of X G a9) T 
  have H__law_odd := fun (base : Heap) => ok__law_odd (P := l.prog) (w := w) (base := base) (fun_mk (st := top 36) l10 c10 k10) (PySem.W.mg_of X G a10) T 
  have H_is_ring := fun (base : Heap) => ok_is_ring (P := l.prog) (w := w) (base := base) (fun_mk (st := top 10) l11 c11 k11) (PySem.W.mg_of X G a11) T (H_is_whole base) (H_is_prime_within base)
  have H_is_whole_within := fun (base : Heap) => ok_is_whole_within (P := l.prog) (w := w) (base := base) (fun_mk (st := top 16) l12 c12 k12) (PySem.W.mg_of X G a12) T (H_is_whole base)
  have H_settled_terms := fun (base : Heap) => ok_settled_terms (P := l.prog) (w := w) (base := base) (fun_mk (st := top 22) l13 c13 k13) (PySem.W.mg_of X G a13) T (H_rest_in_ring base)
  have H__law_ring := fun (base : Heap) => ok__law_ring (P := l.prog) (w := w) (base := base) (fun_mk (st := top 29) l14 c14 k14) (PySem.W.mg_of X G a14) T (H__law_prime base)
  have H__law_gathered := fun (base : Heap) => ok__law_gathered (P := l.prog) (w := w) (base := base) (fun_mk (st := top 31) l15 c15 k15) (PySem.W.mg_of X G a15) T (H__law_settled base)
  have H__law_same := fun (base : Heap) => ok__law_same (P := l.prog) (w := w) (base := base) (fun_mk (st := top 32) l16 c16 k16) (PySem.W.mg_of X G a16) T (H__law_whole base)
  have H__law_pairs := fun (base : Heap) => ok__law_pairs (P := l.prog) (w := w) (base := base) (fun_mk (st := top 35) l17 c17 k17) (PySem.W.mg_of X G a17) T (H__law_cell_at base) (H__law_number base) (H__law_exponents base)
  have H_check_ring := fun (base : Heap) => ok_check_ring (P := l.prog) (w := w) (base := base) (fun_mk (st := top 11) l18 c18 k18) (PySem.W.mg_of X G a18) T (H_is_ring base)
  have H_check_unknowns := fun (base : Heap) => ok_check_unknowns (P := l.prog) (w := w) (base := base) (fun_mk (st := top 17) l19 c19 k19) (PySem.W.mg_of X G a19) T (H_is_whole_within base)
  have H_are_exponents := fun (base : Heap) => ok_are_exponents (P := l.prog) (w := w) (base := base) (fun_mk (st := top 18) l20 c20 k20) (PySem.W.mg_of X G a20) T (H_is_whole_within base)
  have H_sum_of_totals := fun (base : Heap) => ok_sum_of_totals (P := l.prog) (w := w) (base := base) (fun_mk (st := top 23) l21 c21 k21) (PySem.W.mg_of X G a21) T (H_settled_terms base)
  have H_is_pair := fun (base : Heap) => ok_is_pair (P := l.prog) (w := w) (base := base) (fun_mk (st := top 19) l22 c22 k22) (PySem.W.mg_of X G a22) T (H_is_whole base) (H_are_exponents base)
  have H_check_pairs := fun (base : Heap) => ok_check_pairs (P := l.prog) (w := w) (base := base) (fun_mk (st := top 20) l23 c23 k23) (PySem.W.mg_of X G a23) T (H_is_pair base)
  have H_made := fun (base : Heap) => ok_made (P := l.prog) (w := w) (base := base) (fun_mk (st := top 24) l24 c24 k24) (PySem.W.mg_of X G a24) T (H_add_to base) (H_check_ring base) (H_check_unknowns base) (H_sum_of_totals base) (H_check_pairs base)
  have H__law_told := fun (base : Heap) => ok__law_told (P := l.prog) (w := w) (base := base) (fun_mk (st := top 37) l25 c25 k25) (PySem.W.mg_of X G a25) T (H_made base)
  have H__law_refused := fun (base : Heap) => ok__law_refused (P := l.prog) (w := w) (base := base) (fun_mk (st := top 38) l26 c26 k26) (PySem.W.mg_of X G a26) T (H_made base)
  refine ⟨PySem.W.fnOf "law" "law" (defArgs (top 39)) (defBody (top 39)) (defScope (top 39)) .none kV27 dc27 pm27 an27 cd27 ct27, fun s v => .of_eq rfl, fun base _ _ => ?_⟩
  exact (law_fn (fun_mk (st := top 39) l27 c27 k27) T (H__law_cell_at base) (H__law_odd base) (H__law_ring base) (H__law_gathered base) (H__law_same base) (H__law_pairs base) (H_made base) (H__law_told base) (H__law_refused base)).imp fun _ _ _ _ h => law_sp law_true h
end K05
open PySem PySem.W PyProof.Rows
set_option maxRecDepth 100000 in
set_option maxHeartbeats 0 in
theorem PySem.Challenge.cw_polyring_k05_made_holds : PySem.Challenge.rw_polyring_k05_made.Holds := by
  w_on; o_law; k_head; (case hw => w_witness2)
  k_fill
  refine MN.law_walk (l := PySem.Challenge.rw_polyring_k05_made) (k := 8) (x := "_law_script") rfl rfl ⟨rfl, by decide, by decide⟩ (fun w h Y => PySem.W.kIn_of Y) ?F
  case F =>
    intro w mg fa h KX G hmg
    refine' K05.all_mk KX G hmg ?a0 ?l0 ?c0 ?k0 ?a1 ?l1 ?c1 ?k1 ?a2 ?l2 ?c2 ?k2 ?a3 ?l3 ?c3 ?k3 ?a4 ?l4 ?c4 ?k4 ?a5 ?l5 ?c5 ?k5 ?a6 ?l6 ?c6 ?k6 ?a7 ?l7 ?c7 ?k7 ?a8 ?l8 ?c8 ?k8 ?a9 ?l9 ?c9 ?k9 ?a10 ?l10 ?c10 ?k10 ?a11 ?l11 ?c11 ?k11 ?a12 ?l12 ?c12 ?k12 ?a13 ?l13 ?c13 ?k13 ?a14 ?l14 ?c14 ?k14 ?a15 ?l15 ?c15 ?k15 ?a16 ?l16 ?c16 ?k16 ?a17 ?l17 ?c17 ?k17 ?a18 ?l18 ?c18 ?k18 ?a19 ?l19 ?c19 ?k19 ?a20 ?l20 ?c20 ?k20 ?a21 ?l21 ?c21 ?k21 ?a22 ?l22 ?c22 ?k22 ?a23 ?l23 ?c23 ?k23 ?a24 ?l24 ?c24 ?k24 ?a25 ?l25 ?c25 ?k25 ?a26 ?l26 ?c26 ?k26 ?a27 ?l27 ?c27 ?k27 ?zb_ValueError ?zb_all ?zb_bool ?zb_int ?zb_isinstance ?zb_len ?zb_list ?zb_range ?zb_sorted ?zb_tuple ?zg_MOST_RING ?zg_FIRST_PRIMES ?zl_FIRST_PRIMES ?zg_MOST_UNKNOWNS ?zg_MOST_MADE_EXPONENT ?zc_AlgebraError ?zd_AlgebraError ?zt_AlgebraError ?ze_AlgebraError ?zs_AlgebraError ?zc_NoRing ?zd_NoRing ?zt_NoRing ?ze_NoRing ?zs_NoRing ?zc_NoUnknowns ?zd_NoUnknowns ?zt_NoUnknowns ?ze_NoUnknowns ?zs_NoUnknowns ?zc_NoTerm ?zd_NoTerm ?zt_NoTerm ?ze_NoTerm ?zs_NoTerm ?zp0 ?zp1 ?zp2 ?zp3 ?zp4 ?zp5 ?zp6 ?zp7 ?zp8 ?zp9 ?zp10 ?zp11
    (case a0 => k_is)
    (case l0 => k_is)
    (case c0 => k_is)
    (case k0 => k_is)
    (case a1 => k_is)
    (case l1 => k_is)
    (case c1 => k_is)
    (case k1 => k_is)
    (case a2 => k_is)
    (case l2 => k_is)
    (case c2 => k_is)
    (case k2 => k_is)
    (case a3 => k_is)
    (case l3 => k_is)
    (case c3 => k_is)
    (case k3 => k_is)
    (case a4 => k_is)
    (case l4 => k_is)
    (case c4 => k_is)
    (case k4 => k_is)
    (case a5 => k_is)
    (case l5 => k_is)
    (case c5 => k_is)
    (case k5 => k_is)
    (case a6 => k_is)
    (case l6 => k_is)
    (case c6 => k_is)
    (case k6 => k_is)
    (case a7 => k_is)
    (case l7 => k_is)
    (case c7 => k_is)
    (case k7 => k_is)
    (case a8 => k_is)
    (case l8 => k_is)
    (case c8 => k_is)
    (case k8 => k_is)
    (case a9 => k_is)
    (case l9 => k_is)
    (case c9 => k_is)
    (case k9 => k_is)
    (case a10 => k_is)
    (case l10 => k_is)
    (case c10 => k_is)
    (case k10 => k_is)
    (case a11 => k_is)
    (case l11 => k_is)
    (case c11 => k_is)
    (case k11 => k_is)
    (case a12 => k_is)
    (case l12 => k_is)
    (case c12 => k_is)
    (case k12 => k_is)
    (case a13 => k_is)
    (case l13 => k_is)
    (case c13 => k_is)
    (case k13 => k_is)
    (case a14 => k_is)
    (case l14 => k_is)
    (case c14 => k_is)
    (case k14 => k_is)
    (case a15 => k_is)
    (case l15 => k_is)
    (case c15 => k_is)
    (case k15 => k_is)
    (case a16 => k_is)
    (case l16 => k_is)
    (case c16 => k_is)
    (case k16 => k_is)
    (case a17 => k_is)
    (case l17 => k_is)
    (case c17 => k_is)
    (case k17 => k_is)
    (case a18 => k_is)
    (case l18 => k_is)
    (case c18 => k_is)
    (case k18 => k_is)
    (case a19 => k_is)
    (case l19 => k_is)
    (case c19 => k_is)
    (case k19 => k_is)
    (case a20 => k_is)
    (case l20 => k_is)
    (case c20 => k_is)
    (case k20 => k_is)
    (case a21 => k_is)
    (case l21 => k_is)
    (case c21 => k_is)
    (case k21 => k_is)
    (case a22 => k_is)
    (case l22 => k_is)
    (case c22 => k_is)
    (case k22 => k_is)
    (case a23 => k_is)
    (case l23 => k_is)
    (case c23 => k_is)
    (case k23 => k_is)
    (case a24 => k_is)
    (case l24 => k_is)
    (case c24 => k_is)
    (case k24 => k_is)
    (case a25 => k_is)
    (case l25 => k_is)
    (case c25 => k_is)
    (case k25 => k_is)
    (case a26 => k_is)
    (case l26 => k_is)
    (case c26 => k_is)
    (case k26 => k_is)
    (case a27 => k_is)
    (case l27 => k_is)
    (case c27 => k_is)
    (case k27 => k_is)
    (case zb_ValueError => k_is)
    (case zb_all => k_is)
    (case zb_bool => k_is)
    (case zb_int => k_is)
    (case zb_isinstance => k_is)
    (case zb_len => k_is)
    (case zb_list => k_is)
    (case zb_range => k_is)
    (case zb_sorted => k_is)
    (case zb_tuple => k_is)
    (case zg_MOST_RING => k_is)
    (case zg_FIRST_PRIMES => k_is)
    (case zl_FIRST_PRIMES => k_is)
    (case zg_MOST_UNKNOWNS => k_is)
    (case zg_MOST_MADE_EXPONENT => k_is)
    (case zc_AlgebraError => k_is)
    (case zd_AlgebraError => k_is)
    (case zt_AlgebraError => k_is)
    (case ze_AlgebraError => k_exc)
    (case zs_AlgebraError => k_is)
    (case zc_NoRing => k_is)
    (case zd_NoRing => k_is)
    (case zt_NoRing => k_is)
    (case ze_NoRing => k_exc)
    (case zs_NoRing => k_is)
    (case zc_NoUnknowns => k_is)
    (case zd_NoUnknowns => k_is)
    (case zt_NoUnknowns => k_is)
    (case ze_NoUnknowns => k_exc)
    (case zs_NoUnknowns => k_is)
    (case zc_NoTerm => k_is)
    (case zd_NoTerm => k_is)
    (case zt_NoTerm => k_is)
    (case ze_NoTerm => k_exc)
    (case zs_NoTerm => k_is)
    (case zp0 => first | k_is | kit_is)
    (case zp1 => first | k_is | kit_is)
    (case zp2 => first | k_is | kit_is)
    (case zp3 => first | k_is | kit_is)
    (case zp4 => first | k_is | kit_is)
    (case zp5 => first | k_is | kit_is)
    (case zp6 => first | k_is | kit_is)
    (case zp7 => first | k_is | kit_is)
    (case zp8 => first | k_is | kit_is)
    (case zp9 => first | k_is | kit_is)
    (case zp10 => first | k_is | kit_is)
    (case zp11 => first | k_is | kit_is)
