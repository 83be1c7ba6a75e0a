import PyProof.Rows.All
import Wide.All
import OpenK.AllK
import Wide.FinOn
import Lean
import PyProof.EqAt
import PyProof.EqKinds
import PyProof.TupleCall
import PyProof.NeKinds
import PyProof.ZipIter
import PyProof.FitsBits
import KE.KRevIter
import KE.KStateDown
import PyProof.Rows.Range3
import PyProof.EnumFor
import PyProof.EnumMake
import PyProof.EnumStmt
import PyProof.Rows.SumAny
import PyProof.ListIndex
import PyProof.ListIndexNeg
import PyProof.WalkInts
import PyProof.Conv_int_bool
import PyProof.SumAny
import PyProof.Rows.FactsN_abs
import PyProof.ExcBaseAll.ValueError
import KE.KIsAll
import PyProof.ExcAttrAll.ValueError
import PyProof.Rows.SortRuns
import KE.KSortTup
import KE.KDictList
import KE.KDictOf
import PyProof.AttrMissHeap
import PyProof.DictRoadsH
import PyProof.Seq
import PySem.Challenge.RW_polyring_k06_sums_and_differences
set_option Elab.async false
set_option linter.all false
set_option maxRecDepth 100000
set_option maxHeartbeats 4000000
set_option compiler.extract_closed false
set_option genSizeOf false
-- CHANGE: your row's module here,as the last of these rows
namespace L2
open PySem PySem.Spec PyProof.Rows
noncomputable abbrev Key:=Sum Int Str
noncomputable def keyIs:Key → Value → Bool
  | .inl k,v => Value.isInt k v
  | .inr x,v => Value.isStrOf x v
noncomputable def keyH (w:World):Key → Int
  | .inl k => hashInt k
  | .inr x => hashStr w x
theorem keyIs_shape:∀ {k:Key} {v:Value},keyIs k v = true → (∃ i t,k = Sum.inl i ∧ v = Value.int i t) ∨ (∃ x t,k = Sum.inr x ∧ v = Value.str x t)
  | .inl i,v,h => by
    obtain ⟨t,e⟩:=Value.isInt_shape (k:=i) (v:=v) h
    exact .inl ⟨i,t,rfl,e⟩
  | .inr x,v,h => by
    obtain ⟨t,e⟩:=Value.isStrOf_shape (x:=x) (v:=v) h
    exact .inr ⟨x,t,rfl,e⟩
theorem keyIs_int (i:Int) (t:Tok):keyIs (.inl i) (.int i t) = true:=by simp [keyIs,Value.isInt]
theorem keyIs_str (x:Str) (t:Tok):keyIs (.inr x) (.str x t) = true:=by simp [keyIs,Value.isStrOf]
theorem key_ll (a b:Int):decide ((Sum.inl a:Key) = Sum.inl b) = (a == b):=by
  by_cases e:a = b
  · subst e; simp
  · have h:¬ (Sum.inl a:Key) = Sum.inl b:=fun q => e (Sum.inl.inj q)
    rw [decide_eq_false h]
    exact (beq_eq_false_iff_ne.mpr e).symm
theorem key_rr (a b:Str):decide ((Sum.inr a:Key) = Sum.inr b) = decide (a = b):=by
  by_cases e:a = b
  · subst e; simp
  · have h:¬ (Sum.inr a:Key) = Sum.inr b:=fun q => e (Sum.inr.inj q)
    rw [decide_eq_false h,decide_eq_false e]
theorem key_lr (a:Int) (b:Str):decide ((Sum.inl a:Key) = Sum.inr b) = false:=decide_eq_false (fun q => nomatch q)
theorem key_rl (a:Str) (b:Int):decide ((Sum.inr a:Key) = Sum.inl b) = false:=decide_eq_false (fun q => nomatch q)
noncomputable def mixKind (prog:Program) (w:World):PySem.KeyKind prog w Key where
  is:=keyIs
  hash:=keyH w
  inj:=fun v a b ha hb => by
    rcases keyIs_shape ha with ⟨i,t,rfl,rfl⟩ | ⟨x,t,rfl,rfl⟩
    · rcases keyIs_shape hb with ⟨j,u,rfl,e⟩ | ⟨y,u,rfl,e⟩
      · injection e with e1 _; rw [e1]
      · exact nomatch e
    · rcases keyIs_shape hb with ⟨j,u,rfl,e⟩ | ⟨y,u,rfl,e⟩
      · exact nomatch e
      · injection e with e1 _; rw [e1]
  byValue:=fun k v h => by
    rcases keyIs_shape h with ⟨i,t,rfl,rfl⟩ | ⟨x,t,rfl,rfl⟩ <;> rfl
  pyHash:=fun hv h => by
    rcases keyIs_shape hv with ⟨i,t,rfl,rfl⟩ | ⟨x,t,rfl,rfl⟩
    · exact wpAny_pyHash_int h
    · exact wpAny_pyHash_str h
  eqBool:=fun hu hv h => by
    rcases keyIs_shape hu with ⟨i,t,rfl,rfl⟩ | ⟨x,t,rfl,rfl⟩
    · rcases keyIs_shape hv with ⟨j,u,rfl,rfl⟩ | ⟨y,u,rfl,rfl⟩
      · rw [key_ll] at h; exact wpAny_eqBool_int h
      · rw [key_lr] at h; exact SeqAt.EqAt.int_str i t y u _ _ _ _ h
    · rcases keyIs_shape hv with ⟨j,u,rfl,rfl⟩ | ⟨y,u,rfl,rfl⟩
      · rw [key_rl] at h; exact SeqAt.EqAt.str_int x t j u _ _ _ _ h
      · rw [key_rr] at h; exact wpAny_eqBool_str h
  «strs»:=fun k x t v h => by
    rcases keyIs_shape h with ⟨i,u,rfl,e⟩ | ⟨y,u,rfl,e⟩
    · exact nomatch e
    · injection e with e1 _
      subst e1
      cases v <;> rfl
theorem mixKind_int (prog:Program) (w:World) (i:Int) (t:Tok):(mixKind prog w).is (.inl i) (.int i t) = true:=keyIs_int i t
theorem mixKind_str (prog:Program) (w:World) (x:Str) (t:Tok):(mixKind prog w).is (.inr x) (.str x t) = true:=keyIs_str x t
end L2
namespace L2
open PySem PySem.Spec PyProof.Rows
inductive V where
  | non | bl (b:Bool) | int (i:Int) | str (x:Str) | byt (b:Array UInt8) | flt (b:UInt64) | ref (a:Addr) | ty (n:String)
  deriving DecidableEq
noncomputable def RelV:V → Value → Prop
  | .non,u => u = Value.none
  | .bl b,u => u = Value.bool b
  | .int i,u => ∃ t,u = Value.int i t
  | .str x,u => ∃ t,u = Value.str x t
  | .byt b,u => ∃ t,u = Value.bytes b t
  | .flt b,u => ∃ t,u = Value.float b t
  | .ref a,u => u = Value.ref a
  | .ty n,u => u = Value.type n
noncomputable abbrev Vals:List V → List Value → Prop:=Paired RelV
theorem Vals.length {xs:List V} {us:List Value} (r:Vals xs us):xs.length = us.length:=Paired.length r
theorem Vals.get:∀ {xs:List V} {us:List Value} {i:Nat} {x:V},Vals xs us → xs[i]? = some x → ∃ u,us[i]? = some u ∧ RelV x u
  | _,_,_,_,.nil,e => by simp at e
  | _,_,0,_,.cons r _,e => by simp at e; subst e; exact ⟨_,rfl,r⟩
  | _,_,i + 1,x,.cons _ t,e => by
    obtain ⟨u,h1,h2⟩:=Vals.get (i:=i) (x:=x) t (by simpa using e)
    exact ⟨u,by simpa using h1,h2⟩
theorem Vals.append:∀ {xs ys:List V} {us ws:List Value},Vals xs us → Vals ys ws → Vals (xs ++ ys) (us ++ ws)
  | _,_,_,_,.nil,s => s
  | _,_,_,_,.cons r t,s => .cons r (Vals.append t s)
theorem Vals.take:∀ {xs:List V} {us:List Value} (n:Nat),Vals xs us → Vals (xs.take n) (us.take n)
  | _,_,0,_ => .nil
  | _,_,_ + 1,.nil => .nil
  | _,_,n + 1,.cons r t => .cons r (Vals.take n t)
theorem Vals.drop:∀ {xs:List V} {us:List Value} (n:Nat),Vals xs us → Vals (xs.drop n) (us.drop n)
  | _,_,0,r => r
  | _,_,_ + 1,.nil => .nil
  | _,_,n + 1,.cons _ t => Vals.drop n t
noncomputable def RelO:Option V → Option Value → Prop
  | some v,some u => RelV v u
  | none,none => True
  | _,_ => False
noncomputable def KV {κ:Type}:List (κ × V) → List (κ × Value) → Prop:=Paired fun (p:κ × V) (q:κ × Value) => p.1 = q.1 ∧ RelV p.2 q.2
noncomputable def kV:Key → V
  | .inl i => .int i
  | .inr x => .str x
inductive HO where
    | lst (xs:List V)
    | tup (xs:List V)
    | dK (kvs:List (Key × V)) | dT (kvs:List (List Key × V))
    | set (S:Int → Bool) (n:Nat)
    | ins (C dx:Addr) (fs:List (Str × V))
    | own (x:Addr)
    | xd (fs:List (Str × V))
    | met (f x:Addr)
    | rng (lo hi:Int)
    | frz (o:Obj) (u:HO)
    | tbl (ps:Array Value)
    | ext (φ:Heap → Prop)
noncomputable abbrev Hp:=Addr → Option HO
noncomputable def upd (H:Hp) (a:Addr) (o:HO):Hp:=fun b => if b = a then some o else H b
theorem upd_same {H:Hp} {a:Addr} {o:HO}:upd H a o a = some o:=by unfold upd; rw [if_pos rfl]
theorem upd_ne {H:Hp} {a b:Addr} {o:HO} (h:b ≠ a):upd H a o b = H b:=by unfold upd; rw [if_neg h]
theorem ne_of {H:Hp} {a b:Addr} {o u:HO} (h:H a = some o) (h':H b = some u) (d:o ≠ u):a ≠ b:=by
  intro e; subst e; rw [h] at h'; exact d (Option.some.inj h')
theorem ne_of_none {H:Hp} {a b:Addr} {o:HO} (h:H a = some o) (h':H b = none):a ≠ b:=by
  intro e; subst e; rw [h] at h'; cases h'
section
variable (P:Program) (w:World)
noncomputable def ObjOk (H:Hp) (h:Heap) (a:Addr):HO → Prop
  | .lst xs => xs.length ≤ sizeLine ∧ ∃ (its:List Value) (n:Nat),Vals xs its ∧ h.get? a = some { cls:=.type "list",data:=.seq its.toArray n }
  | .tup xs => xs.length ≤ sizeLine ∧ ∃ its:List Value,Vals xs its ∧ IsTup h a its.toArray
  | .dK kvs => kvs.length ≤ sizeLine ∧ (a == sysModules) = false ∧ ∃ vs,KV kvs vs ∧ h.DictOf (mixKind P w) a vs
  | .dT kvs => kvs.length ≤ sizeLine ∧ (a == sysModules) = false ∧ ∃ xs:List (List Key × Addr × Value),
      Paired (fun (p:List Key × V) (q:List Key × Addr × Value) => p.1 = q.1 ∧ H q.2.1 = some (.tup (p.1.map kV)) ∧ RelV p.2 q.2.2) kvs xs ∧
      ∃ o es ep,h.get? a = some o ∧ o.ExactDict ∧ o.data = .dict es ep ∧ es.toList = xs.map (entryOfKey (tupleKind (mixKind P w))) ∧ (xs.map (·.1)).Nodup
  | .set S n => h.SetOf (intKind P w) a S n
  | .ins C dx fs => H dx = some (.own a) ∧ fs.length ≤ 1000 ∧ dx ≠ a ∧ h.get? a = some (PySem.W.instObj C dx) ∧
      ∃ mA,h.Ns1 dx mA ∧ (∀ f,RelO (fs.lookup f) (mA f)) ∧ PySem.Within mA (fs.map (·.1))
  | .own _ => ∃ o,h.get? a = some o
  | .xd fs => ∃ mA,h.Ns1 a mA ∧ ∀ f,RelO (fs.lookup f) (mA f)
  | .rng lo hi => ∃ t u v,h.get? a = some { cls:=.type "range",data:=.fields #[.int lo t,.int hi u,.int 1 v] }
  | .frz o u => h.get? a = some o ∧ ObjOk H h a u
  | .tbl ps => h.get? a = some { cls:=.none,data:=.fields ps }
  | .met f x => h.get? a = some (PySem.W.methodObj (.ref f) (.ref x))
  | .ext φ => φ h ∧ (∃ o,h.get? a = some o) ∧ ∀ h1 h2:Heap,φ h1 → (∀ o,h1.get? a = some o → h2.get? a = some o) → φ h2
noncomputable def HOk (H:Hp) (h:Heap):Prop:=∀ a o,H a = some o → ObjOk P w H h a o
end
section
variable {P:Program} {w:World} {H H':Hp} {h h':Heap} {a:Addr} {o:HO}
theorem ObjOk.lt (x:ObjOk P w H h a o):a < h.objs.size:=by
  cases o with
  | lst xs => obtain ⟨_,_,_,_,e⟩:=x; exact Heap.lt_size e
  | tup xs => obtain ⟨_,_,_,p⟩:=x; exact p.lt
  | dK kvs => obtain ⟨_,_,_,_,o,_,_,e,_⟩:=x; exact Heap.lt_size e
  | dT kvs => obtain ⟨_,_,_,_,o,_,_,e,_⟩:=x; exact Heap.lt_size e
  | set S n => obtain ⟨o,_,_,_,e,_⟩:=x; exact Heap.lt_size e
  | ins C dx fs => obtain ⟨_,_,_,e,_⟩:=x; exact Heap.lt_size e
  | own y => obtain ⟨_,e⟩:=x; exact Heap.lt_size e
  | xd fs => obtain ⟨_,⟨_,_,_,e,_⟩,_⟩:=x; exact Heap.lt_size e
  | rng lo hi => obtain ⟨_,_,_,e⟩:=x; exact Heap.lt_size e
  | frz ob u => obtain ⟨e,_⟩:=x; exact Heap.lt_size e
  | tbl ps => exact Heap.lt_size (show h.get? a = some _ from x)
  | met f y => exact Heap.lt_size (show h.get? a = some _ from x)
  | ext φ => obtain ⟨_,⟨_,e⟩,_⟩:=x; exact Heap.lt_size e
theorem Paired.mapP {α β:Type} {F G:α → β → Prop}:∀ {l₁:List α} {l₂:List β},Paired F l₁ l₂ → (∀ a b,F a b → G a b) → Paired G l₁ l₂
  | _,_,.nil,_ => .nil
  | _,_,.cons r t,f => .cons (f _ _ r) (Paired.mapP t f)
theorem ObjOk.stay (x:ObjOk P w H h a o) (k:∀ b u,(b = a ∨ H b = some (.own a)) → h.get? b = some u → h'.get? b = some u)
    (ho:∀ b,H b = some (.own a) → H' b = some (.own a)) (ht:∀ b xs,H b = some (.tup xs) → H' b = some (.tup xs)):ObjOk P w H' h' a o:=by
  induction o with
  | lst xs => obtain ⟨z,its,n,r,e⟩:=x; exact ⟨z,its,n,r,k _ _ (.inl rfl) e⟩
  | tup xs => obtain ⟨z,its,r,ob,e,c⟩:=x; exact ⟨z,its,r,ob,k _ _ (.inl rfl) e,c⟩
  | dK kvs => obtain ⟨z,y,vs,r,ob,es,ep,e,c⟩:=x; exact ⟨z,y,vs,r,ob,es,ep,k _ _ (.inl rfl) e,c⟩
  | dT kvs =>
    obtain ⟨z,y,xs,r,ob,es,ep,e,c⟩:=x
    exact ⟨z,y,xs,Paired.mapP r fun p q z => ⟨z.1,ht _ _ z.2.1,z.2.2⟩,ob,es,ep,k _ _ (.inl rfl) e,c⟩
  | set S n => obtain ⟨ob,es,ep,t,e,c⟩:=x; exact ⟨ob,es,ep,t,k _ _ (.inl rfl) e,c⟩
  | ins C dx fs =>
    obtain ⟨d,z,ne,e,mA,⟨od,es,ep,e2,c⟩,r⟩:=x
    exact ⟨ho _ d,z,ne,k _ _ (.inl rfl) e,mA,⟨od,es,ep,k _ _ (.inr d) e2,c⟩,r⟩
  | own y => obtain ⟨ob,e⟩:=x; exact ⟨ob,k _ _ (.inl rfl) e⟩
  | xd fs => obtain ⟨mA,⟨od,es,ep,e,c⟩,r⟩:=x; exact ⟨mA,⟨od,es,ep,k _ _ (.inl rfl) e,c⟩,r⟩
  | rng lo hi => obtain ⟨t,u,v,e⟩:=x; exact ⟨t,u,v,k _ _ (.inl rfl) e⟩
  | frz ob u ih => obtain ⟨e,q⟩:=x; exact ⟨k _ _ (.inl rfl) e,ih q⟩
  | tbl ps =>
    have e:h.get? a = some { cls:=.none,data:=.fields ps }:=x
    show h'.get? a = some { cls:=.none,data:=.fields ps }
    exact k a _ (.inl rfl) e
  | met f y =>
    have e:h.get? a = some (PySem.W.methodObj (.ref f) (.ref y)):=x
    show h'.get? a = some (PySem.W.methodObj (.ref f) (.ref y))
    exact k a _ (.inl rfl) e
  | ext φ => obtain ⟨p,⟨o,e⟩,st⟩:=x; exact ⟨st _ _ p fun o q => k _ _ (.inl rfl) q,⟨o,k _ _ (.inl rfl) e⟩,st⟩
theorem HOk.lt (x:HOk P w H h) (e:H a = some o):a < h.objs.size:=(x a o e).lt
theorem HOk.fresh (x:HOk P w H h) (e:h.objs.size ≤ a):H a = none:=by
  cases q:H a with
  | none => rfl
  | some u => exact absurd (Nat.lt_of_lt_of_le (x.lt q) e) (Nat.lt_irrefl _)
theorem HOk.kept (x:HOk P w H h) (k:∀ b u,h.get? b = some u → h'.get? b = some u):HOk P w H h':=fun a o e =>
  (x a o e).stay (fun b u _ q => k b u q) (fun _ q => q) fun _ _ q => q
theorem HOk.laid (x:HOk P w H h) (k:∀ b u,h.get? b = some u → h'.get? b = some u) (hp:h.objs.size ≤ a) (new:ObjOk P w (upd H a o) h' a o):HOk P w (upd H a o) h':=fun b u e => by
  have hn:=x.fresh hp
  by_cases hb:b = a
  · subst hb; rw [upd_same] at e; cases e; exact new
  · rw [upd_ne hb] at e
    exact (x b u e).stay (fun c v _ q => k c v q) (fun c q => by rw [upd_ne (ne_of_none q hn)]; exact q) fun c xs q => by rw [upd_ne (ne_of_none q hn)]; exact q
end
noncomputable def Rd (H:Hp) (a:Addr) (u:HO):Prop:=H a = some u ∨ ∃ o,H a = some (.frz o u)
theorem Rd.ok {P:Program} {w:World} {H:Hp} {h:Heap} {a:Addr} {u:HO} (r:Rd H a u) (x:HOk P w H h):ObjOk P w H h a u:=by
  rcases r with r | ⟨o,r⟩
  · exact x a u r
  · obtain ⟨_,q⟩:=x a _ r
    exact q
noncomputable def Mut:Option HO → Prop
  | some (.lst _) => True
  | some (.dK _) => True
  | some (.dT _) => True
  | some (.set _ _) => True
  | some (.ins _ _ _) => True
  | some (.ext _) => True
  | _ => False
section
variable {P:Program} {w:World} {H:Hp} {h h':Heap} {x e:Addr} {o':HO}
theorem HOk.write (ok:HOk P w H h) (mu:Mut (H x)) (he:e = x ∨ H e = some (.own x)) (k:∀ b u,b ≠ e → h.get? b = some u → h'.get? b = some u) (heo:∃ u,h'.get? e = some u)
    (new:ObjOk P w (upd H x o') h' x o'):HOk P w (upd H x o') h':=fun b u q => by
  have nown:∀ c y,H c = some (.own y) → c ≠ x:=fun c y r z => by subst z; rw [r] at mu; exact mu
  have ntup:∀ c xs,H c = some (.tup xs) → c ≠ x:=fun c xs r z => by subst z; rw [r] at mu; exact mu
  by_cases hb:b = x
  · subst hb; rw [upd_same] at q; cases q; exact new
  · rw [upd_ne hb] at q
    by_cases hbe:b = e
    · have q':H b = some (.own x):=by
        rcases he with z | z
        · exact absurd (hbe.trans z) hb
        · rw [hbe]; exact z
      rw [q] at q'; cases q'
      obtain ⟨v,hv⟩:=heo
      exact ⟨v,by rw [hbe]; exact hv⟩
    · refine (ok b u q).stay (fun c v hc r => k c v ?_ r) (fun c r => by rw [upd_ne (nown c b r)]; exact r) fun c xs r => by rw [upd_ne (ntup c xs r)]; exact r
      rcases hc with rfl | hc
      · exact hbe
      · rintro rfl
        rcases he with z | z
        · exact nown c b hc z
        · rw [hc] at z; cases z; exact hb rfl
end
structure Un (fs ex:List Addr) (H H':Hp) (h h':Heap):Prop where
  keep:∀ b o,h.get? b = some o → H b = none → b ∉ fs → b ∉ ex → h'.get? b = some o
  slot:∀ b o,h.get? b = some o → H b = none → b ∈ fs → b ∉ ex → ∃ sl,h'.get? b = some { o with slots:=sl }
  free:∀ b o,h.get? b = some o → H b = none → b ∉ ex → H' b = none
  there:∀ b o,h.get? b = some o → b ∉ ex → ∃ o',h'.get? b = some o'
  tups:∀ b xs,H b = some (.tup xs) → H' b = some (.tup xs)
  frzs:∀ b o u,H b = some (.frz o u) → H' b = some (.frz o u)
  tbls:∀ b ps,H b = some (.tbl ps) → ∃ more,H' b = some (.tbl (ps ++ more))
section
variable {fs fs' ex ex':List Addr} {H H1 H2:Hp} {h h1 h2 h':Heap} {a x e:Addr} {o:HO}
theorem Un.any (u:Un fs ex H H1 h h1) {b:Addr} {ob:Obj} (q:h.get? b = some ob) (n:H b = none) (hx:b ∉ ex):∃ sl,h1.get? b = some { ob with slots:=sl }:=by
  by_cases hb:b ∈ fs
  · exact u.slot b ob q n hb hx
  · exact ⟨ob.slots,u.keep b ob q n hb hx⟩
theorem Un.kept (k:∀ b u,h.get? b = some u → h'.get? b = some u):Un fs ex H H h h' :=
  ⟨fun b ob q _ _ _ => k b ob q,fun b ob q _ _ _ => ⟨ob.slots,k b ob q⟩,fun _ _ _ n _ => n,fun b ob q _ => ⟨ob,k b ob q⟩,fun _ _ q => q,fun _ _ _ q => q,fun _ ps q => ⟨#[],by rw [q]; simp⟩⟩
theorem Un.refl:Un fs ex H H h h:=Un.kept fun _ _ q => q
theorem Un.laid (k:∀ b u,h.get? b = some u → h'.get? b = some u) (hp:h.objs.size ≤ a) (hn:H a = none):Un fs ex H (upd H a o) h h' where
  keep:=fun b u q _ _ _ => k b u q
  slot:=fun b u q _ _ _ => ⟨u.slots,k b u q⟩
  free:=fun b u q n _ => by rw [upd_ne (Nat.ne_of_lt (Nat.lt_of_lt_of_le (Heap.lt_size q) hp))]; exact n
  there:=fun b u q _ => ⟨u,k b u q⟩
  tups:=fun b xs q => by rw [upd_ne (ne_of_none q hn)]; exact q
  frzs:=fun b u xs q => by rw [upd_ne (ne_of_none q hn)]; exact q
  tbls:=fun b ps q => ⟨#[],by rw [upd_ne (ne_of_none q hn),q]; simp⟩
theorem Un.write (mu:Mut (H x)) (he:e = x ∨ H e = some (.own x)) (k:∀ b u,b ≠ e → h.get? b = some u → h'.get? b = some u) (heo:∃ u,h'.get? e = some u):Un fs ex H (upd H x o) h h':=by
  have hx:∀ b,H b = none → b ≠ x:=fun b n z => by subst z; rw [n] at mu; exact mu
  have hb:∀ b,H b = none → b ≠ e:=fun b n z => by
    subst z
    rcases he with r | r
    · exact hx b n r
    · rw [n] at r; cases r
  have hm:∀ b u,H b = some u → ¬ Mut (some u) → b ≠ x:=fun b u q nm z => by subst z; rw [q] at mu; exact nm mu
  refine ⟨fun b u q n _ _ => k b u (hb b n) q,fun b u q n _ _ => ⟨u.slots,k b u (hb b n) q⟩,fun b u q n _ => by rw [upd_ne (hx b n)]; exact n,fun b u q _ => ?_,
    fun b xs q => by rw [upd_ne (hm b _ q fun z => z)]; exact q,fun b u xs q => by rw [upd_ne (hm b _ q fun z => z)]; exact q,fun b ps q => ⟨#[],by rw [upd_ne (hm b _ q fun z => z),q]; simp⟩⟩
  by_cases hbe:b = e
  · subst hbe; exact heo
  · exact ⟨u,k b u hbe q⟩
end
noncomputable def trk (h:Heap) (H:Hp):List Addr:=(List.range h.objs.size).filter fun a => (H a).isSome
noncomputable def hidT (h:Heap) (H:Hp):Heap:=PySem.W.hideAll h (trk h H)
theorem hidT_size (h:Heap) (H:Hp):(hidT h H).objs.size = h.objs.size:=PySem.W.hideAll_size _ _
theorem hidT_get {h:Heap} {H:Hp} {b:Addr} {o:Obj} (e:h.get? b = some o) (n:H b = none):(hidT h H).get? b = some o :=
  PySem.W.hideAll_get _ e fun hm => by
    have q:(H b).isSome = true:=(List.mem_filter.mp hm).2
    rw [n] at q; simp at q
theorem of_hidT {h:Heap} {H:Hp} {b:Addr} {o:Obj} (e:(hidT h H).get? b = some o):h.get? b = some o ∧ H b = none:=by
  have e':h.get? b = some o:=PySem.W.of_hideAll (trk h H) e
  refine ⟨e',?_⟩
  cases q:H b with
  | none => rfl
  | some x =>
    have hm:b ∈ trk h H:=List.mem_filter.mpr ⟨List.mem_range.mpr (Heap.lt_size e'),by simp [q]⟩
    have z:(hidT h H).get? b = none:=PySem.W.hideAll_none (trk h H) hm
    rw [z] at e; cases e
noncomputable def allNews (g h:Heap) (L:Addr):List (Addr × Obj):=(List.range h.objs.size).filterMap fun a => if a = L ∨ (g.get? a).isSome = true then none else (h.get? a).map fun o => (a,o)
noncomputable def rest (g h:Heap) (L d:Addr):List (Addr × Obj):=(allNews g h L).filter fun p => decide (p.1 ≠ d)
end L2
namespace L2
open PySem PySem.Spec PyProof.Rows
structure Mod (K:PySem.W.Frag) (mg:Str → Option Value) (base:Heap):Prop where
  kin:K.In base
  glob:base.Ns mainGlobals mg
  blt:∃ mb,base.Ns builtinsNs mb ∧ ∀ x:Str,x ≠ "__name__" → mb x = bootBuiltins x
  nolimit:base.NoLimit
structure Cx where
  prog:Program
  w:World
  K:PySem.W.Frag
  mg:Str → Option Value
  base:Heap
  A:Around
  N:List Str
  s₀:Shared
  H₀:Hp
  env:Env
  outer:List Env
  stack:List Env
  ex:List Addr
  fn:Str → Bool
  calm:Bool
  pn:List (Addr × Obj)
  xe:Value → Shared → Prop
noncomputable def frs (l:List Env):List Addr:=l.filterMap (·.frame)
noncomputable abbrev Cx.fs (X:Cx):List Addr:=frs X.outer
noncomputable def Vis (sc:Scope) (x:Str):Prop:=sc.names.lookup x = some .local ∨ sc.names.lookup x = some .cell ∨ sc.names.lookup x = some .free
noncomputable def Loc (sc:Scope) (x:Str):Prop:=sc.names.lookup x = some .local ∨ sc.names.lookup x = some .cell
noncomputable def Look (env:Env) (h:Heap) (m:Str → Option Value) (x:Str) (u:Value):Prop :=
  (env.kindOf x = some .local ∧ m x = some u) ∨ ((env.kindOf x = some .cell ∨ env.kindOf x = some .free) ∧ ∃ c,env.cells.lookup x = some c ∧ h.IsCell c (some u))
structure Cx.Ok (X:Cx):Prop where
  mod:Mod X.K X.mg X.base
  kind:X.env.scope.kind = .function
  glob:X.env.globals = mainGlobals
  blt:X.env.builtins = builtinsNs
  above:X.s₀.heap.objs.size ≤ X.env.locals
  inj:∀ x y c,X.env.cells.lookup x = some c → X.env.cells.lookup y = some c → x = y
  has:∀ x,(X.env.kindOf x = some .cell ∨ X.env.kindOf x = some .free) → ∃ c,X.env.cells.lookup x = some c
  cab:∀ x c,X.fn x = true → X.env.cells.lookup x = some c → X.s₀.heap.objs.size ≤ c
  hd:X.calm = true → X.A.handled = none
  frames:X.A.frames = some X.stack
  stk:X.stack = X.outer ∨ (X.stack = X.env :: X.outer ∧ X.env.frame = some X.env.locals)
  exf:∀ b ∈ X.ex,b ≠ X.env.locals ∧ ∀ x c,X.env.cells.lookup x = some c → c ≠ b
  bs:∀ b o,X.base.get? b = some o → X.s₀.heap.get? b = some o ∧ X.H₀ b = none
  bsz:X.base.objs.size ≤ X.s₀.heap.objs.size
  noex:∀ b o,X.base.get? b = some o → b ∉ X.ex
  exfs:∀ b ∈ X.ex,b ∉ X.fs
  funs:X.s₀.heap.FunFrames X.base X.outer
  frf:∀ b ∈ X.fs,X.H₀ b = none
structure Inv (X:Cx) (pins:List (Addr × Obj)) (σ:List (Option V)) (H:Hp) (s:Shared):Prop where
  ok:X.Ok
  os:s.os = X.s₀.os
  bare:AllBare s.gens
  base:Un X.fs X.ex X.H₀ H X.s₀.heap s.heap
  loc:∃ m,s.heap.Ns X.env.locals m ∧ ∀ (i:Nat) (x:Str) (v:V),X.N[i]? = some x → σ[i]? = some (some v) → Vis X.env.scope x → ∃ u,RelV v u ∧ Look X.env s.heap m x u
  cell:∀ x c,X.env.cells.lookup x = some c → ∃ v,s.heap.IsCell c v
  free:H X.env.locals = none
  freeC:∀ x c,X.env.cells.lookup x = some c → H c = none
  pin:∀ p ∈ X.pn ++ pins,s.heap.get? p.1 = some p.2 ∧ H p.1 = none ∧ p.1 ≠ X.env.locals ∧ p.1 ∉ X.fs ∧ ∀ v,p.2.data ≠ .cell v
  hok:HOk X.prog X.w H s.heap
  len:σ.length = X.N.length
section
variable {X:Cx} {pins:List (Addr × Obj)} {σ:List (Option V)} {H H':Hp} {s:Shared} {h':Heap}
theorem Cx.Ok.nofr (ok:X.Ok) {b:Addr} {o:Obj} (e:X.base.get? b = some o):b ∉ X.fs:=fun hb => by
  have:=(ok.funs.mem hb).1
  rw [e] at this; cases this
theorem Inv.bs (I:Inv X pins σ H s):∀ b o,X.base.get? b = some o → s.heap.get? b = some o ∧ H b = none:=fun b o e =>
  ⟨I.base.keep b o (I.ok.bs b o e).1 (I.ok.bs b o e).2 (I.ok.nofr e) (I.ok.noex b o e),I.base.free b o (I.ok.bs b o e).1 (I.ok.bs b o e).2 (I.ok.noex b o e)⟩
theorem Inv.bk (I:Inv X pins σ H s):∀ b o,X.base.get? b = some o → s.heap.get? b = some o:=fun b o e => (I.bs b o e).1
theorem Inv.mod (I:Inv X pins σ H s):Mod X.K X.mg X.base:=I.ok.mod
theorem Inv.kIn (I:Inv X pins σ H s):X.K.In s.heap:=I.ok.mod.kin.keeps I.bk
theorem Inv.lt (I:Inv X pins σ H s):X.env.locals < s.heap.objs.size:=let ⟨_,hn,_⟩:=I.loc; hn.lt
theorem Inv.sz (I:Inv X pins σ H s):X.s₀.heap.objs.size ≤ s.heap.objs.size:=Nat.le_trans I.ok.above (Nat.le_of_lt I.lt)
theorem Inv.nofs (I:Inv X pins σ H s) {a:Addr} (h:s.heap.objs.size ≤ a):a ∉ X.fs:=fun hb => by
  obtain ⟨_,o,ho,_⟩:=I.ok.funs.mem hb
  exact absurd (Nat.lt_of_lt_of_le (Heap.lt_size ho) (Nat.le_trans I.sz h)) (Nat.lt_irrefl _)
theorem Inv.cne (I:Inv X pins σ H s):∀ x c,X.env.cells.lookup x = some c → c ≠ X.env.locals:=fun x c e z => by
  obtain ⟨v,o,ho,hd⟩:=I.cell x c e
  obtain ⟨m,⟨o',es,ep,ho',hd',_⟩,_⟩:=I.loc
  rw [z,ho'] at ho; cases ho; rw [hd'] at hd; cases hd
theorem Inv.funs (I:Inv X pins σ H s):s.heap.FunFrames X.base X.outer:=by
  have all:∀ (l:List Env),(∀ b ∈ frs l,b ∈ X.fs) → X.s₀.heap.FunFrames X.base l → s.heap.FunFrames X.base l:=by
    intro l
    induction l with
    | nil => intro _ _; trivial
    | cons env r ih =>
      intro hs hl
      obtain ⟨hk,⟨L,o,hf,hn,ho,hd⟩,hr⟩:=hl
      have hL:L ∈ X.fs:=hs L (by unfold frs; rw [List.filterMap_cons,hf]; exact List.mem_cons_self)
      obtain ⟨sl,e⟩:=I.base.slot L o ho (I.ok.frf L hL) hL fun z => I.ok.exfs L z hL
      exact ⟨hk,⟨L,_,hf,hn,e,hd⟩,ih (fun b hb => hs b (by unfold frs; rw [List.filterMap_cons,hf]; exact List.mem_cons_of_mem _ hb)) hr⟩
  exact all X.outer (fun _ hb => hb) I.ok.funs
theorem Inv.stack (I:Inv X pins σ H s):s.heap.FunFrames X.base X.stack:=by
  rcases I.ok.stk with e | ⟨e,hf⟩
  · rw [e]; exact I.funs
  · rw [e]
    obtain ⟨m,hn,_⟩:=I.loc
    refine .cons (by rw [I.ok.kind]; decide) hf hn ?_ I.funs
    exact Heap.get?_none_of_le (Nat.le_trans I.ok.bsz I.ok.above)
theorem Inv.stkSub (I:Inv X pins σ H s):∀ b ∈ frs X.stack,b ∈ X.env.locals :: X.fs:=fun b hb => by
  rcases I.ok.stk with e | ⟨e,hf⟩
  · rw [e] at hb; exact List.mem_cons_of_mem _ hb
  · rw [e] at hb
    unfold frs at hb
    rw [List.filterMap_cons,hf] at hb
    exact hb
theorem Inv.stkFree (I:Inv X pins σ H s):∀ b ∈ frs X.stack,H b = none:=fun b hb => by
  rcases List.mem_cons.mp (I.stkSub b hb) with e | hb
  · rw [e]; exact I.free
  · obtain ⟨_,o,ho,_⟩:=I.ok.funs.mem hb
    exact I.base.free b o ho (I.ok.frf b hb) fun z => I.ok.exfs b z hb
theorem Inv.step {g':Array GenState} {t':Nat} {d':Drawn} {ch:List Addr} (I:Inv X pins σ H s)
    (hch:∀ b ∈ ch,(b ∈ X.ex ∨ X.s₀.heap.objs.size ≤ b) ∧ b ≠ X.env.locals ∧ (∀ x c,X.env.cells.lookup x = some c → c ≠ b) ∧ ∀ p ∈ X.pn ++ pins,p.1 ≠ b)
    (keep:∀ b o,b ≠ X.env.locals → b ∉ X.fs → b ∉ ch → s.heap.get? b = some o → H b = none → h'.get? b = some o)
    (slot:∀ b o,b ≠ X.env.locals → b ∈ X.fs → b ∉ ch → s.heap.get? b = some o → H b = none → ∃ sl,h'.get? b = some { o with slots:=sl }) (free:∀ b o,b ∉ ch → s.heap.get? b = some o → H b = none → H' b = none)
    (there:∀ b o,b ∉ ch → s.heap.get? b = some o → ∃ o',h'.get? b = some o')
    (tups:∀ b xs,H b = some (.tup xs) → H' b = some (.tup xs)) (frzs:∀ b o u,H b = some (.frz o u) → H' b = some (.frz o u)) (tbls:∀ b ps,H b = some (.tbl ps) → ∃ more,H' b = some (.tbl (ps ++ more)))
    (ns:∀ m,s.heap.Ns X.env.locals m → h'.Ns X.env.locals m) (hok:HOk X.prog X.w H' h') (hg:AllBare g') :
    Inv X pins σ H' { s with heap:=h',gens:=g',drawn:=d',toks:=t' }:=by
  have neL:∀ b o,X.s₀.heap.get? b = some o → b ≠ X.env.locals:=fun b o e => Nat.ne_of_lt (Nat.lt_of_lt_of_le (Heap.lt_size e) I.ok.above)
  have neC:∀ b o,X.s₀.heap.get? b = some o → b ∉ X.ex → b ∉ ch:=fun b o e hx hb => by
    rcases (hch b hb).1 with z | z
    · exact hx z
    · exact absurd (Nat.lt_of_lt_of_le (Heap.lt_size e) z) (Nat.lt_irrefl _)
  have cellK:∀ x c,X.env.cells.lookup x = some c → ∀ v,s.heap.IsCell c v → h'.IsCell c v:=fun x c e v ⟨o,ho,hd⟩ => by
    have nch:c ∉ ch:=fun z => (hch c z).2.2.1 x c e rfl
    by_cases hc:c ∈ X.fs
    · obtain ⟨sl,q⟩:=slot c o (I.cne x c e) hc nch ho (I.freeC x c e)
      exact ⟨_,q,hd⟩
    · exact ⟨o,keep c o (I.cne x c e) hc nch ho (I.freeC x c e),hd⟩
  refine ⟨I.ok,I.os,hg,⟨fun b o e n hb hx => ?_,fun b o e n hb hx => ?_,fun b o e n hx => ?_,fun b o e hx => ?_,fun b xs e => tups b xs (I.base.tups b xs e),fun b o xs e => frzs b o xs (I.base.frzs b o xs e),fun b ps e => ?_⟩,?_,fun x c e => ?_,?_,fun x c e => ?_,fun p hp => ?_,hok,I.len⟩
  · exact keep b o (neL b o e) hb (neC b o e hx) (I.base.keep b o e n hb hx) (I.base.free b o e n hx)
  · obtain ⟨sl,e1⟩:=I.base.slot b o e n hb hx
    obtain ⟨sl',e2⟩:=slot b _ (neL b o e) hb (neC b o e hx) e1 (I.base.free b o e n hx)
    exact ⟨sl',e2⟩
  · obtain ⟨o',e1⟩:=I.base.there b o e hx
    exact free b o' (neC b o e hx) e1 (I.base.free b o e n hx)
  · obtain ⟨o',e1⟩:=I.base.there b o e hx
    exact there b o' (neC b o e hx) e1
  · obtain ⟨m1,e1⟩:=I.base.tbls b ps e
    obtain ⟨m2,e2⟩:=tbls b _ e1
    exact ⟨m1 ++ m2,by rw [e2,Array.append_assoc]⟩
  · obtain ⟨m,hn,hl⟩:=I.loc
    refine ⟨m,ns m hn,fun i x v e1 e2 e3 => ?_⟩
    obtain ⟨u,r,l⟩:=hl i x v e1 e2 e3
    refine ⟨u,r,?_⟩
    rcases l with l | ⟨k,c,e,z⟩
    · exact .inl l
    · exact .inr ⟨k,c,e,cellK x c e _ z⟩
  · obtain ⟨v,z⟩:=I.cell x c e
    exact ⟨v,cellK x c e v z⟩
  · obtain ⟨m,⟨o,_,_,ho,_⟩,_⟩:=I.loc
    exact free _ o (fun z => (hch _ z).2.1 rfl) ho I.free
  · obtain ⟨v,o,ho,hd⟩:=I.cell x c e
    exact free c o (fun z => (hch c z).2.2.1 x c e rfl) ho (I.freeC x c e)
  · obtain ⟨e,n,ne,nf,d⟩:=I.pin p hp
    have nch:p.1 ∉ ch:=fun z => (hch p.1 z).2.2.2 p hp rfl
    exact ⟨keep p.1 p.2 ne nf nch e n,free p.1 p.2 nch e n,ne,nf,d⟩
theorem Inv.un {t':Nat} (I:Inv X pins σ H s) (u:Un X.fs [] H H' s.heap h') (hok:HOk X.prog X.w H' h'):Inv X pins σ H' { s with heap:=h',toks:=t' }:=by
  obtain ⟨m,⟨o,es,ep,ho,r⟩,_⟩:=id I.loc
  obtain ⟨sl,hL⟩:=u.any ho I.free (by simp)
  exact I.step (g':=s.gens) (d':=s.drawn) (ch:=[]) (fun _ z => nomatch z) (fun b o _ hb _ e n => u.keep b o e n hb (by simp)) (fun b o _ hb _ e n => u.slot b o e n hb (by simp)) (fun b o _ e n => u.free b o e n (by simp)) (fun b o _ e => u.there b o e (by simp)) u.tups u.frzs u.tbls (fun m' hm => by
    obtain ⟨o',es',ep',ho',r'⟩:=hm
    rw [ho] at ho'; cases ho'
    exact ⟨_,es',ep',hL,r'⟩) hok I.bare
theorem Inv.call {g':Array GenState} {t':Nat} {d':Drawn} {ch:List Addr} (I:Inv X pins σ H s) (u:Un (frs X.stack) ch H H' s.heap h') (hok:HOk X.prog X.w H' h') (hg:AllBare g')
    (hch:∀ b ∈ ch,(b ∈ X.ex ∨ X.s₀.heap.objs.size ≤ b) ∧ b ≠ X.env.locals ∧ (∀ x c,X.env.cells.lookup x = some c → c ≠ b) ∧ ∀ p ∈ X.pn ++ pins,p.1 ≠ b) :
    Inv X pins σ H' { s with heap:=h',gens:=g',drawn:=d',toks:=t' }:=by
  obtain ⟨m,⟨o,es,ep,ho,r⟩,_⟩:=id I.loc
  obtain ⟨sl,hL⟩:=u.any ho I.free fun z => (hch _ z).2.1 rfl
  exact I.step (ch:=ch) hch (fun b o hL hb hc e n => u.keep b o e n (fun z => (List.mem_cons.mp (I.stkSub b z)).elim hL hb) hc) (fun b o _ _ hc e n => u.any e n hc) (fun b o hc e n => u.free b o e n hc) (fun b o hc e => u.there b o e hc) u.tups u.frzs u.tbls (fun m' hm => by
    obtain ⟨o',es',ep',ho',r'⟩:=hm
    rw [ho] at ho'; cases ho'
    exact ⟨_,es',ep',hL,r'⟩) hok hg
theorem Inv.turned {t':Nat} {it:Addr} (I:Inv X pins σ H s) (k:∀ b o,b ≠ it → s.heap.get? b = some o → h'.get? b = some o) (hn:H it = none) (hL:it ≠ X.env.locals)
    (h1:it ∈ X.ex ∨ X.s₀.heap.objs.size ≤ it) (h2:∀ x c,X.env.cells.lookup x = some c → c ≠ it) (h3:∀ p ∈ X.pn ++ pins,p.1 ≠ it):Inv X pins σ H { s with heap:=h',toks:=t' }:=by
  have nit:∀ b u,H b = some u → b ≠ it:=fun b u e z => by rw [z,hn] at e; cases e
  refine I.step (g':=s.gens) (d':=s.drawn) (ch:=[it]) (fun b hb => ?_) (fun b o _ _ hc e _ => k b o (fun z => hc (by simp [z])) e) (fun b o _ _ hc e _ => ⟨o.slots,k b o (fun z => hc (by simp [z])) e⟩) (fun _ _ _ _ n => n)
    (fun b o hc e => ⟨o,k b o (fun z => hc (by simp [z])) e⟩) (fun _ _ e => e) (fun _ _ _ e => e) (fun b ps e => ⟨#[],by rw [e]; simp⟩) (fun m hm => ?_) (fun b u e => ?_) I.bare
  · have e:b = it:=by simpa using hb
    subst e
    exact ⟨h1,hL,h2,h3⟩
  · obtain ⟨o,es,ep,ho,r⟩:=hm
    exact ⟨o,es,ep,k _ o (Ne.symm hL) ho,r⟩
  · refine (I.hok b u e).stay (fun c v hc q => k c v ?_ q) (fun _ q => q) fun _ _ q => q
    rcases hc with z | z
    · rw [z]; exact nit b u e
    · exact nit c _ z
theorem Inv.tok (I:Inv X pins σ H s) (t:Nat):Inv X pins σ H { s with toks:=t }:=I.un (h':=s.heap) (t':=t) Un.refl I.hok
theorem Inv.kept {t':Nat} (I:Inv X pins σ H s) (k:∀ b u,s.heap.get? b = some u → h'.get? b = some u):Inv X pins σ H { s with heap:=h',toks:=t' }:=I.un (Un.kept k) (I.hok.kept k)
theorem Inv.laid {a:Addr} {o:HO} {t':Nat} (I:Inv X pins σ H s) (k:∀ b u,s.heap.get? b = some u → h'.get? b = some u) (hp:s.heap.objs.size ≤ a) (new:ObjOk X.prog X.w (upd H a o) h' a o) :
    Inv X pins σ (upd H a o) { s with heap:=h',toks:=t' }:=I.un (Un.laid k hp (I.hok.fresh hp)) (I.hok.laid k hp new)
theorem Inv.write {x e:Addr} {o:HO} {t':Nat} (I:Inv X pins σ H s) (mu:Mut (H x)) (he:e = x ∨ H e = some (.own x)) (k:∀ b u,b ≠ e → s.heap.get? b = some u → h'.get? b = some u) (heo:∃ u,h'.get? e = some u)
    (new:ObjOk X.prog X.w (upd H x o) h' x o):Inv X pins σ (upd H x o) { s with heap:=h',toks:=t' }:=I.un (Un.write mu he k heo) (I.hok.write mu he k heo new)
theorem Inv.pins_of {pins':List (Addr × Obj)} (I:Inv X pins σ H s) (h:∀ p ∈ pins',s.heap.get? p.1 = some p.2 ∧ H p.1 = none ∧ p.1 ≠ X.env.locals ∧ p.1 ∉ X.fs ∧ ∀ v,p.2.data ≠ .cell v):Inv X pins' σ H s :=
  ⟨I.ok,I.os,I.bare,I.base,I.loc,I.cell,I.free,I.freeC,fun p hp => (List.mem_append.mp hp).elim (fun z => I.pin p (List.mem_append_left _ z)) (h p),I.hok,I.len⟩
theorem nodup_ix {N:List Str} (hN:N.Nodup) {i j:Nat} {x:Str} (a:N[i]? = some x) (b:N[j]? = some x):i = j:=by
  obtain ⟨h1,e1⟩:=List.getElem?_eq_some_iff.mp a
  obtain ⟨h2,e2⟩:=List.getElem?_eq_some_iff.mp b
  exact (List.getElem_inj hN).mp (e1.trans e2.symm)
theorem store_ok2 {M:Model} {A:Around} {E:Value → Shared → Prop} {i:Nat} {x:Str} {v:V} {u:Value} {Q:Unit → Shared → Prop} (I:Inv X pins σ H s) (hN:X.N.Nodup) (hi:X.N[i]? = some x) (hx:Loc X.env.scope x) (r:RelV v u)
    (h:∀ s',Inv X pins (σ.set i (some v)) H s' → (∃ a,Heap.SameBut a s.heap s'.heap ∧ (a = X.env.locals ∨ X.env.cells.lookup x = some a)) → Q () s') (hf:X.fn x = true ∨ X.env.scope.names.lookup x = some .local:=by first | exact .inl rfl | exact .inr rfl | assumption):wpAny M A (storeName X.env x u) Q E s:=by
  obtain ⟨m,hn,hl⟩:=id I.loc
  have hcls:(X.env.scope.kind == .class || (X.env.scope.kind == .module && X.env.locals != X.env.globals)) = false:=by rw [I.ok.kind]; rfl
  have hiσ:i < σ.length:=by rw [I.len]; exact (List.getElem?_eq_some_iff.mp hi).1
  have cne:=I.cne
  have tracked:∀ {a:Addr} {h':Heap},(∃ o,s.heap.get? a = some o ∧ H a = none) → Heap.SameBut a s.heap h' → HOk X.prog X.w H h':=fun {a h'} ha hs b ob e => by
    obtain ⟨_,_,hfree⟩:=ha
    refine (I.hok b ob e).stay (fun c w' hc q => (hs.2 c ?_).trans q) (fun _ q => q) fun _ _ q => q
    rintro rfl
    rcases hc with rfl | hc
    · rw [hfree] at e; cases e
    · rw [hfree] at hc; cases hc
  rcases hx with hk | hk
  · refine wpAny_storeName_local hk hn (fun h' hn' hs => ?_) hcls
    obtain ⟨oL,_,_,hoL,_⟩:=id hn
    refine h _ ⟨I.ok,I.os,I.bare,⟨fun b o e n hb hx => ?_,fun b o e n hb hx => ?_,I.base.free,fun b o e hx => ?_,I.base.tups,I.base.frzs,I.base.tbls⟩,⟨_,hn',fun j y v' e1 e2 e3 => ?_⟩,fun y c e => ?_,I.free,I.freeC,fun p hp => ?_,tracked ⟨oL,hoL,I.free⟩ hs,by simpa using I.len⟩ ⟨_,hs,.inl rfl⟩
    · exact (hs.2 b (Nat.ne_of_lt (Nat.lt_of_lt_of_le (Heap.lt_size e) I.ok.above))).trans (I.base.keep b o e n hb hx)
    · obtain ⟨sl,e1⟩:=I.base.slot b o e n hb hx
      exact ⟨sl,(hs.2 b (Nat.ne_of_lt (Nat.lt_of_lt_of_le (Heap.lt_size e) I.ok.above))).trans e1⟩
    · obtain ⟨o',e1⟩:=I.base.there b o e hx
      exact ⟨o',(hs.2 b (Nat.ne_of_lt (Nat.lt_of_lt_of_le (Heap.lt_size e) I.ok.above))).trans e1⟩
    · by_cases hj:j = i
      · subst hj
        rw [hi] at e1; cases e1
        rw [List.getElem?_set_self hiσ] at e2
        cases e2
        exact ⟨u,r,.inl ⟨hk,by simp⟩⟩
      · rw [List.getElem?_set_ne (Ne.symm hj)] at e2
        obtain ⟨u',r',q⟩:=hl j y v' e1 e2 e3
        refine ⟨u',r',?_⟩
        rcases q with ⟨k,e⟩ | ⟨k,c,e,z⟩
        · refine .inl ⟨k,?_⟩
          have:y ≠ x:=fun e => hj (nodup_ix hN e1 (e ▸ hi))
          simp [this,e]
        · exact .inr ⟨k,c,e,z.sameBut hs (cne y c e)⟩
    · obtain ⟨w',z⟩:=I.cell y c e
      exact ⟨w',z.sameBut hs (cne y c e)⟩
    · obtain ⟨e,n,ne,nf,d⟩:=I.pin p hp
      exact ⟨(hs.2 p.1 ne).trans e,n,ne,nf,d⟩
  · have hfn:X.fn x = true:=by
      rcases hf with z | z
      · exact z
      · rw [z] at hk; cases hk
    obtain ⟨c,hc⟩:=I.ok.has x (.inl hk)
    obtain ⟨w',z⟩:=I.cell x c hc
    refine wpAny_storeName_cell I.ok.kind hk hc z (fun h' hc' hs => ?_)
    obtain ⟨oc,hoc,hocd⟩:=id z
    refine h { s with heap:=h' } ⟨I.ok,I.os,I.bare,⟨fun b o e n hb hx => ?_,fun b o e n hb hx => ?_,I.base.free,fun b o e hx => ?_,I.base.tups,I.base.frzs,I.base.tbls⟩,⟨m,hn.sameBut hs (Ne.symm (cne x c hc)),fun j y v' e1 e2 e3 => ?_⟩,fun y c' e => ?_,I.free,I.freeC,fun p hp => ?_,tracked ⟨oc,hoc,I.freeC x c hc⟩ hs,by simpa using I.len⟩ ⟨c,hs,.inr hc⟩
    · exact (hs.2 b (Nat.ne_of_lt (Nat.lt_of_lt_of_le (Heap.lt_size e) (I.ok.cab x c hfn hc)))).trans (I.base.keep b o e n hb hx)
    · obtain ⟨sl,e1⟩:=I.base.slot b o e n hb hx
      exact ⟨sl,(hs.2 b (Nat.ne_of_lt (Nat.lt_of_lt_of_le (Heap.lt_size e) (I.ok.cab x c hfn hc)))).trans e1⟩
    · obtain ⟨o',e1⟩:=I.base.there b o e hx
      exact ⟨o',(hs.2 b (Nat.ne_of_lt (Nat.lt_of_lt_of_le (Heap.lt_size e) (I.ok.cab x c hfn hc)))).trans e1⟩
    · by_cases hj:j = i
      · subst hj
        rw [hi] at e1; cases e1
        rw [List.getElem?_set_self hiσ] at e2
        cases e2
        exact ⟨u,r,.inr ⟨.inl hk,c,hc,hc'⟩⟩
      · rw [List.getElem?_set_ne (Ne.symm hj)] at e2
        obtain ⟨u',r',q⟩:=hl j y v' e1 e2 e3
        refine ⟨u',r',?_⟩
        rcases q with q | ⟨k,c',e,z'⟩
        · exact .inl q
        · refine .inr ⟨k,c',e,z'.sameBut hs ?_⟩
          rintro rfl
          exact hj (nodup_ix hN e1 (I.ok.inj _ _ _ e hc ▸ hi))
    · by_cases hcc:c' = c
      · subst hcc; exact ⟨_,hc'⟩
      · obtain ⟨w2,z2⟩:=I.cell y c' e
        exact ⟨w2,z2.sameBut hs hcc⟩
    · obtain ⟨e,n,ne,nf,d⟩:=I.pin p hp
      refine ⟨(hs.2 p.1 ?_).trans e,n,ne,nf,d⟩
      intro q
      rw [q,hoc] at e
      have q':oc = p.2:=Option.some.inj e
      exact d w' (by rw [← q']; exact hocd)
theorem store_ok {M:Model} {A:Around} {E:Value → Shared → Prop} {i:Nat} {x:Str} {v:V} {u:Value} {Q:Unit → Shared → Prop} (I:Inv X pins σ H s) (hN:X.N.Nodup) (hi:X.N[i]? = some x) (hx:Loc X.env.scope x) (r:RelV v u)
    (h:∀ s',Inv X pins (σ.set i (some v)) H s' → Q () s') (hf:X.fn x = true ∨ X.env.scope.names.lookup x = some .local:=by first | exact .inl rfl | exact .inr rfl | assumption):wpAny M A (storeName X.env x u) Q E s :=
  store_ok2 I hN hi hx r (fun s' I' _ => h s' I') hf
theorem Inv.call' {s':Shared} {ch:List Addr} (I:Inv X pins σ H s) (ho:s'.os = s.os) (u:Un (frs X.stack) ch H H' s.heap s'.heap) (hok:HOk X.prog X.w H' s'.heap) (hg:AllBare s'.gens)
    (hch:∀ b ∈ ch,(b ∈ X.ex ∨ X.s₀.heap.objs.size ≤ b) ∧ b ≠ X.env.locals ∧ (∀ x c,X.env.cells.lookup x = some c → c ≠ b) ∧ ∀ p ∈ X.pn ++ pins,p.1 ≠ b):Inv X pins σ H' s':=by
  obtain ⟨h',g',d',t',o'⟩:=s'
  have e:o' = s.os:=ho
  subst e
  exact I.call (g':=g') (t':=t') (d':=d') u hok hg hch
end
noncomputable abbrev XK:=Value → Option Addr → Hp → Prop
noncomputable abbrev St:=List (Option V)
noncomputable abbrev VK:=V → Hp → Prop
noncomputable abbrev TE:=St → Hp → VK → Prop
noncomputable abbrev TT:=St → Hp → (Bool → Hp → Prop) → Prop
noncomputable abbrev TA:=St → Hp → (List V → Hp → Prop) → Prop
structure Ends where
  nx:St → Hp → Prop
  rt:VK
  bk:St → Hp → Prop:=fun _ _ => False
  ct:St → Hp → Prop:=fun _ _ => False
noncomputable abbrev TS:=Ends → St → Hp → Prop
noncomputable def EP (X:Cx) (pins:List (Addr × Obj)) (σ:St) (Q:VK) (u:Value) (s':Shared):Prop:=∃ v H',Inv X pins σ H' s' ∧ RelV v u ∧ Q v H'
noncomputable def TP (X:Cx) (pins:List (Addr × Obj)) (σ:St) (Q:Bool → Hp → Prop) (b:Bool) (s':Shared):Prop:=∃ H',Inv X pins σ H' s' ∧ Q b H'
noncomputable def AP (X:Cx) (pins:List (Addr × Obj)) (σ:St) (Q:List V → Hp → Prop) (us:List Value) (s':Shared):Prop:=∃ vs H',Inv X pins σ H' s' ∧ Vals vs us ∧ Q vs H'
noncomputable def SP (X:Cx) (pins:List (Addr × Obj)) (D:Ends) (f:Flow) (s':Shared):Prop :=
  match f with
  | .next => ∃ σ' H',Inv X pins σ' H' s' ∧ D.nx σ' H'
  | .brk => ∃ σ' H',Inv X pins σ' H' s' ∧ D.bk σ' H'
  | .cont => ∃ σ' H',Inv X pins σ' H' s' ∧ D.ct σ' H'
  | .ret u => ∃ v σ' H',Inv X pins σ' H' s' ∧ RelV v u ∧ D.rt v H'
noncomputable def PE (X:Cx) (e:Expr) (t:TE):Prop :=
  ∀ (pins:List (Addr × Obj)) (s:Shared) (σ:St) (H:Hp) (Q:VK),Inv X pins σ H s → t σ H Q → wpAny (model X.prog X.w) X.A (eval e X.env) (EP X pins σ Q) X.xe s
noncomputable def PT (X:Cx) (e:Expr) (t:TT):Prop :=
  ∀ (pins:List (Addr × Obj)) (s:Shared) (σ:St) (H:Hp) (Q:Bool → Hp → Prop),Inv X pins σ H s → t σ H Q → wpAny (model X.prog X.w) X.A (isTrue e X.env (eval e X.env)) (TP X pins σ Q) X.xe s
noncomputable def PW (X:Cx) (e:Expr) (t:TT):Prop :=
  ∀ (whole:Sem Value) (pins:List (Addr × Obj)) (s:Shared) (σ:St) (H:Hp) (Q:Bool → Hp → Prop),Inv X pins σ H s → t σ H Q → wpAny (model X.prog X.w) X.A (isTrue e X.env whole) (TP X pins σ Q) X.xe s
theorem PW.pt {X:Cx} {e:Expr} {t:TT} (h:PW X e t):PT X e t:=h _
noncomputable def PA (X:Cx) (es:List Expr) (t:TA):Prop :=
  ∀ (pos:Pos) (pins:List (Addr × Obj)) (s:Shared) (σ:St) (H:Hp) (Q:List V → Hp → Prop),Inv X pins σ H s → t σ H Q → wpAny (model X.prog X.w) X.A (spliced (backTo pos (starEach es X.env))) (AP X pins σ Q) X.xe s
noncomputable def PS (X:Cx) (st:Stmt) (t:TS):Prop :=
  ∀ (pins:List (Addr × Obj)) (s:Shared) (σ:St) (H:Hp) (D:Ends),Inv X pins σ H s → t D σ H → wpAny (model X.prog X.w) X.A (exec st X.env) (SP X pins D) X.xe s
noncomputable def PSs (X:Cx) (st:List Stmt) (t:TS):Prop :=
  ∀ (pins:List (Addr × Obj)) (s:Shared) (σ:St) (H:Hp) (D:Ends),Inv X pins σ H s → t D σ H → wpAny (model X.prog X.w) X.A (execs st X.env) (SP X pins D) X.xe s
theorem thn {α:Type} {t:Sem α} {Q Q':α → Shared → Prop} {M:Model} {A:Around} {E:Value → Shared → Prop} {s:Shared} (h:wpAny M A t Q E s) (hQ:∀ a s,Q a s → Q' a s):wpAny M A t Q' E s:=wpAny_mono h hQ fun _ _ x => x
end L2
namespace L2
open PySem PySem.Spec PyProof.Rows
section
variable {X:Cx}
theorem bin {a b:Expr} {ta tb:TE} (ha:PE X a ta) (hb:PE X b tb) {pins:List (Addr × Obj)} {s:Shared} {σ:St} {H:Hp} {R:V → V → Hp → Prop} (I:Inv X pins σ H s) (h:ta σ H fun x H1 => tb σ H1 fun y H2 => R x y H2)
    {α:Type} {Q:α → Shared → Prop} {f:Value → Value → Sem α}
    (hf:∀ v u s2 x y H2,Inv X pins σ H2 s2 → RelV x v → RelV y u → R x y H2 → wpAny (model X.prog X.w) X.A (f v u) Q X.xe s2) :
    wpAny (model X.prog X.w) X.A (eval a X.env) (fun v s₁ => wpAny (model X.prog X.w) X.A (eval b X.env) (fun u s₂ => wpAny (model X.prog X.w) X.A (f v u) Q X.xe s₂) X.xe s₁) X.xe s:=by
  refine thn (ha pins s σ H _ I h) fun v s1 ⟨x,H1,I1,r1,q1⟩ => ?_
  refine thn (hb pins s1 σ H1 _ I1 q1) fun u s2 ⟨y,H2,I2,r2,q2⟩ => ?_
  exact hf v u s2 x y H2 I2 r1 r2 q2
noncomputable def tVar (i:Nat):TE:=fun σ H Q => ∃ v,σ[i]? = some (some v) ∧ Q v H
noncomputable def tC (v:V):TE:=fun _ H Q => Q v H
theorem pe_var {i:Nat} {x:Str} {pos:Pos} (hN:X.N[i]? = some x) (hv:Vis X.env.scope x) (hd:(x == ("__debug__":Str)) = false:=by decide) (hcd:(x == ("__classdict__":Str)) = false:=by decide):PE X (.Name x pos) (tVar i):=by
  intro pins s σ H Q I h
  obtain ⟨v,e,h⟩:=h
  obtain ⟨m,hn,hl⟩:=I.loc
  obtain ⟨u,r,l⟩:=hl i x v hN e hv
  have fin:EP X pins σ Q u s:=⟨v,H,I,r,h⟩
  rcases l with ⟨hk,hm⟩ | ⟨hk,c,hc,hcell⟩
  · exact wpAny_Name (wpAny_loadName_local I.ok.kind hk hn hm fin) hd
  · rcases hk with hk | hk
    · exact wpAny_Name (wpAny_loadName_cell I.ok.kind hk hc hcell fin) hd
    · exact wpAny_Name (wpAny_loadName_free I.ok.kind hk hc hcell fin hcd) hd
theorem pe_int {i j pos}:PE X (.Constant (.int i) j pos) (tC (.int i)):=fun _ _ _ H _ I h => wpAny_Constant_int ⟨.int i,H,I.tok _,⟨_,rfl⟩,h⟩
theorem pe_bl {b j pos}:PE X (.Constant (.bool b) j pos) (tC (.bl b)):=fun _ _ _ H _ I h => Constant_bool ⟨.bl b,H,I,rfl,h⟩
theorem pe_str {x j pos}:PE X (.Constant (.str x) j pos) (tC (.str x)):=fun _ _ _ H _ I h => Calls.Constant_str ⟨.str x,H,I.tok _,⟨_,rfl⟩,h⟩
noncomputable def Gl (X:Cx) (x:Str):Prop:=X.env.kindOf x = some .globalImplicit
theorem ld_glob {E:Value → Shared → Prop} {pins:List (Addr × Obj)} {s:Shared} {σ:St} {H:Hp} {x:Str} {u:Value} {pos:Pos} {Q:Value → Shared → Prop} (I:Inv X pins σ H s) (hg:Gl X x) (hm:X.mg x = some u) (h:Q u s)
    (hd:(x == ("__debug__":Str)) = false:=by decide):wpAny (model X.prog X.w) X.A (eval (.Name x pos) X.env) Q E s :=
  Calls.Name_function_global I.ok.kind hg (Calls.loadGlobal_global (by rw [I.ok.glob]; exact I.mod.glob.keeps I.bk) hm h) hd
theorem ld_blt {E:Value → Shared → Prop} {pins:List (Addr × Obj)} {s:Shared} {σ:St} {H:Hp} {x:Str} {u:Value} {pos:Pos} {Q:Value → Shared → Prop} (I:Inv X pins σ H s) (hg:Gl X x) (hm:X.mg x = none) (hv:bootBuiltins x = some u) (h:Q u s)
    (hn:x ≠ "__name__":=by decide) (hd:(x == ("__debug__":Str)) = false:=by decide):wpAny (model X.prog X.w) X.A (eval (.Name x pos) X.env) Q E s:=by
  obtain ⟨mb,h1,h2⟩:=I.mod.blt
  exact Calls.Name_function_global I.ok.kind hg (Calls.loadGlobal_builtin (by rw [I.ok.glob]; exact I.mod.glob.keeps I.bk) hm (by rw [I.ok.blt]; exact h1.keeps I.bk) ((h2 x hn).trans hv) h) hd
theorem pe_glob {x:Str} {v:V} {u:Value} {pos:Pos} (hg:Gl X x) (hm:X.mg x = some u) (r:RelV v u) (hd:(x == ("__debug__":Str)) = false:=by decide):PE X (.Name x pos) (tC v) :=
  fun _ _ _ H _ I h => ld_glob I hg hm ⟨v,H,I,r,h⟩ hd
theorem pe_bltn {x:Str} {v:V} {u:Value} {pos:Pos} (hg:Gl X x) (hm:X.mg x = none) (hv:bootBuiltins x = some u) (r:RelV v u) (hn:x ≠ "__name__":=by decide) (hd:(x == ("__debug__":Str)) = false:=by decide):PE X (.Name x pos) (tC v) :=
  fun _ _ _ H _ I h => ld_blt I hg hm hv ⟨v,H,I,r,h⟩ hn hd
variable {a b:Expr} {ta tb:TE} {pos:Pos}
noncomputable def PC (X:Cx) (op:CmpOp) (a b:Expr) (t:TE):Prop :=
  ∀ (pins:List (Addr × Obj)) (s:Shared) (σ:St) (H:Hp) (Q:VK),Inv X pins σ H s → t σ H Q →
    wpAny (model X.prog X.w) X.A (eval a X.env) (fun v s₁ => wpAny (model X.prog X.w) X.A (eval b X.env) (fun u s₂ => wpAny (model X.prog X.w) X.A (compareOp op v u) (EP X pins σ Q) X.xe s₂) X.xe s₁) X.xe s
theorem nobehind (b:Expr) {op:CmpOp} (h:op ≠ .In) (h2:op ≠ .NotIn):behindInMarks op b = false:=by
  have e1:(op == CmpOp.In) = false:=by cases op <;> first | rfl | exact absurd rfl h
  have e2:(op == CmpOp.NotIn) = false:=by cases op <;> first | rfl | exact absurd rfl h2
  cases b <;> simp [behindInMarks,e1,e2]
noncomputable def tB (t:TE):TT:=fun σ H Q => t σ H fun x H1 => ∃ c,x = .bl c ∧ Q c H1
theorem pt_cmp {op:CmpOp} {t:TE} (h:PC X op a b t) (h1:behindInMarks op b = false:=by first | exact nobehind _ (by decide) (by decide) | rfl):PT X (.Compare a [op] [b] pos) (tB t):=by
  intro pins s σ H Q I hw
  refine wpAny_isTrue_Compare1 (thn (h pins s σ H _ I hw) fun v s1 h1 => thn h1 fun u s2 h2 => thn h2 fun c s3 ⟨x,H1,I1,r1,q1⟩ => ?_) h1
  obtain ⟨d,rfl,q⟩:=q1
  cases r1
  exact wpAny_truthy_bool ⟨H1,I1,q⟩
theorem pt_val {e:Expr} {t:TE} (h:PE X e t) (he:∀ whole,isTrue e X.env whole = (do let v ← whole; standAt e.pos; holding [v] (truthy v)):=by intro _; rfl):PT X e (tB t):=by
  intro pins s σ H Q I hw
  refine isTrue_plain (thn (h pins s σ H _ I hw) fun v s1 ⟨x,H1,I1,r1,q1⟩ => ?_) (he _)
  obtain ⟨d,rfl,q⟩:=q1
  cases r1
  exact wpAny_truthy_bool ⟨H1,I1,q⟩
variable {tA tB':TT} {rest:List Expr}
noncomputable def tAnd (t u:TT):TT:=fun σ H Q => t σ H fun c H1 => if c = true then u σ H1 Q else Q false H1
noncomputable def tOr (t u:TT):TT:=fun σ H Q => t σ H fun c H1 => if c = true then Q true H1 else u σ H1 Q
noncomputable def tNot (t:TT):TT:=fun σ H Q => t σ H fun c H1 => Q (!c) H1
theorem pw_and1 (ha:PT X a tA):PW X (.BoolOp .And [a] pos) tA:=by
  intro wh pins s σ H Q I h
  refine isTrue_and (thn (ha pins s σ H Q I h) fun c s1 e => ?_)
  cases c with
  | true => exact isTrue_and_nil e
  | false => exact e
theorem pw_or1 (ha:PT X a tA):PW X (.BoolOp .Or [a] pos) tA:=by
  intro wh pins s σ H Q I h
  refine isTrue_or (thn (ha pins s σ H Q I h) fun c s1 e => ?_)
  cases c with
  | false => exact isTrue_or_nil e
  | true => exact e
theorem pw_and (ha:PT X a tA) (hb:PW X (.BoolOp .And (b :: rest) pos) tB'):PW X (.BoolOp .And (a :: b :: rest) pos) (tAnd tA tB'):=by
  intro wh pins s σ H Q I h
  refine isTrue_and (thn (ha pins s σ H _ I h) fun c s1 ⟨H1,I1,q1⟩ => ?_)
  cases c with
  | true => exact hb wh pins s1 σ H1 Q I1 q1
  | false => exact ⟨H1,I1,q1⟩
theorem pw_or (ha:PT X a tA) (hb:PW X (.BoolOp .Or (b :: rest) pos) tB'):PW X (.BoolOp .Or (a :: b :: rest) pos) (tOr tA tB'):=by
  intro wh pins s σ H Q I h
  refine isTrue_or (thn (ha pins s σ H _ I h) fun c s1 ⟨H1,I1,q1⟩ => ?_)
  cases c with
  | true => exact ⟨H1,I1,q1⟩
  | false => exact hb wh pins s1 σ H1 Q I1 q1
theorem pt_not (ha:PT X a tA):PT X (.UnaryOp .Not a pos) (tNot tA):=by
  intro pins s σ H Q I h
  exact isTrue_not (ha pins s σ H (fun c H1 => Q (!c) H1) I h)
noncomputable def tAndV (ta tb:TE):TE:=fun σ H Q => ta σ H fun x H1 => ∃ c,x = .bl c ∧ if c = true then tb σ H1 Q else Q (.bl false) H1
noncomputable def tOrV (ta tb:TE):TE:=fun σ H Q => ta σ H fun x H1 => ∃ c,x = .bl c ∧ if c = true then Q (.bl true) H1 else tb σ H1 Q
noncomputable def tNotV (ta:TE):TE:=fun σ H Q => ta σ H fun x H1 => ∃ c,x = .bl c ∧ Q (.bl (!c)) H1
theorem pe_one {op} {t:TE} (h:PE X a t):PE X (.BoolOp op [a] pos) t:=fun pins s σ H Q I hw => BoolOp_one (h pins s σ H Q I hw)
theorem pe_and (ha:PE X a ta) (hb:PE X (.BoolOp .And (b :: rest) pos) tb):PE X (.BoolOp .And (a :: b :: rest) pos) (tAndV ta tb):=by
  intro pins s σ H Q I h
  refine BoolOp_and (thn (ha pins s σ H _ I h) fun v s1 ⟨x,H1,I1,r1,q1⟩ => ?_)
  obtain ⟨c,rfl,q1⟩:=q1
  cases r1
  refine wpAny_truthy_bool ?_
  cases c with
  | true => exact hb pins s1 σ H1 Q I1 q1
  | false => exact ⟨.bl false,H1,I1,rfl,q1⟩
theorem pe_or (ha:PE X a ta) (hb:PE X (.BoolOp .Or (b :: rest) pos) tb):PE X (.BoolOp .Or (a :: b :: rest) pos) (tOrV ta tb):=by
  intro pins s σ H Q I h
  refine BoolOp_or (thn (ha pins s σ H _ I h) fun v s1 ⟨x,H1,I1,r1,q1⟩ => ?_)
  obtain ⟨c,rfl,q1⟩:=q1
  cases r1
  refine wpAny_truthy_bool ?_
  cases c with
  | false => exact hb pins s1 σ H1 Q I1 q1
  | true => exact ⟨.bl true,H1,I1,rfl,q1⟩
theorem pe_not (ha:PE X a ta):PE X (.UnaryOp .Not a pos) (tNotV ta):=by
  intro pins s σ H Q I h
  refine UnaryOp_ (thn (ha pins s σ H _ I h) fun v s1 ⟨x,H1,I1,r1,q1⟩ => ?_)
  obtain ⟨c,rfl,q1⟩:=q1
  cases r1
  exact not_of (wpAny_truthy_bool ⟨.bl (!c),H1,I1,rfl,q1⟩)
noncomputable def tIf (t:TT) (ta tb:TE):TE:=fun σ H Q => t σ H fun c H1 => if c = true then ta σ H1 Q else tb σ H1 Q
theorem pe_ifExp {c:Expr} (hc:PT X c tA) (ha:PE X a ta) (hb:PE X b tb):PE X (.IfExp c a b pos) (tIf tA ta tb):=by
  intro pins s σ H Q I h
  refine wpAny_IfExp (thn (hc pins s σ H _ I h) fun d s1 ⟨H1,I1,q1⟩ => ?_)
  cases d with
  | true => exact ha pins s1 σ H1 Q I1 q1
  | false => exact hb pins s1 σ H1 Q I1 q1
end
end L2
namespace L2
open PySem PySem.Spec PyProof.Rows
noncomputable def SqL (K:PySem.W.Frag) (H:Hp) (a:Addr) (xs:List V):Prop :=
  Rd H a (.lst xs) ∨
    ∃ (o:Obj) (its:Array Value) (n:Nat),K.lookup a = some o ∧ o.cls = .type "list" ∧ o.dict = none ∧ o.data = .seq its n ∧ its.size ≤ sizeLine ∧ Vals xs its.toList
noncomputable def SqT (K:PySem.W.Frag) (H:Hp) (a:Addr) (xs:List V):Prop :=
  Rd H a (.tup xs) ∨
    ∃ (o:Obj) (its:Array Value) (n:Nat),K.lookup a = some o ∧ o.cls = .type "tuple" ∧ o.data = .seq its n ∧ its.size ≤ sizeLine ∧ Vals xs its.toList
noncomputable def absV:Value → Option V
  | .none => some .non
  | .bool b => some (.bl b)
  | .int i _ => some (.int i)
  | .str x _ => some (.str x)
  | .bytes b _ => some (.byt b)
  | .float b _ => some (.flt b)
  | .ref a => some (.ref a)
  | .type n => some (.ty n)
  | _ => none
theorem RelV.abs {x:V} {u:Value} (r:RelV x u):absV u = some x:=by
  cases x with
  | non => cases r; rfl
  | bl _ => cases r; rfl
  | int _ => obtain ⟨t,rfl⟩:=r; rfl
  | str _ => obtain ⟨t,rfl⟩:=r; rfl
  | byt _ => obtain ⟨t,rfl⟩:=r; rfl
  | flt _ => obtain ⟨t,rfl⟩:=r; rfl
  | ref _ => cases r; rfl
  | ty _ => cases r; rfl
theorem RelV.inj {x y:V} {u:Value} (r:RelV x u) (q:RelV y u):x = y:=Option.some.inj (r.abs.symm.trans q.abs)
theorem Vals.inj {xs ys:List V} {us:List Value} (p:Vals xs us) (q:Vals ys us):xs = ys:=by
  induction p generalizing ys with
  | nil => cases q; rfl
  | cons r t ih =>
    cases q with
    | cons r' t' => rw [r.inj r',ih t']
section
variable {X:Cx} {pins:List (Addr × Obj)} {σ:St} {H:Hp} {s:Shared} {a:Addr} {xs ys:List V}
theorem SqL.of {K:PySem.W.Frag} (h:H a = some (.lst xs)):SqL K H a xs:=.inl (.inl h)
theorem SqT.of {K:PySem.W.Frag} (h:H a = some (.tup xs)):SqT K H a xs:=.inl (.inl h)
theorem Inv.list (I:Inv X pins σ H s) (h:SqL X.K H a xs):∃ its:List Value,Vals xs its ∧ PlainL s.heap a its.toArray ∧ xs.length ≤ sizeLine:=by
  rcases h with h | ⟨o,its,n,hk,hc,hd,hs,hz,r⟩
  · obtain ⟨z,its,n,r,e⟩:=h.ok I.hok
    exact ⟨its,r,⟨_,n,e,rfl,rfl,rfl⟩,z⟩
  · refine ⟨its.toList,r,⟨o,n,I.kIn a o hk,hc,hd,by simpa using hs⟩,?_⟩
    have e:=r.length
    simp only [Array.length_toList] at e
    omega
theorem Inv.tuple (I:Inv X pins σ H s) (h:SqT X.K H a xs):∃ its:List Value,Vals xs its ∧ IsTup s.heap a its.toArray ∧ xs.length ≤ sizeLine:=by
  rcases h with h | ⟨o,its,n,hk,hc,hs,hz,r⟩
  · obtain ⟨z,its,r,p⟩:=h.ok I.hok
    exact ⟨its,r,p,z⟩
  · refine ⟨its.toList,r,⟨o,I.kIn a o hk,hc,n,by simpa using hs⟩,?_⟩
    have e:=r.length
    simp only [Array.length_toList] at e
    omega
theorem Inv.list_inj (I:Inv X pins σ H s) (h:SqL X.K H a xs) (h':SqL X.K H a ys):xs = ys:=by
  obtain ⟨its,r,⟨o,n,e,_,_,d⟩,_⟩:=I.list h
  obtain ⟨its',r',⟨o',n',e',_,_,d'⟩,_⟩:=I.list h'
  rw [e] at e'; cases e'
  rw [d] at d'
  injection d' with d1 _
  have:its = its':=by simpa using congrArg Array.toList d1
  subst this
  exact r.inj r'
theorem Inv.tuple_inj (I:Inv X pins σ H s) (h:SqT X.K H a xs) (h':SqT X.K H a ys):xs = ys:=by
  obtain ⟨its,r,⟨o,e,_,n,d⟩,_⟩:=I.tuple h
  obtain ⟨its',r',⟨o',e',_,n',d'⟩,_⟩:=I.tuple h'
  rw [e] at e'; cases e'
  rw [d] at d'
  injection d' with d1 _
  have:its = its':=by simpa using congrArg Array.toList d1
  subst this
  exact r.inj r'
end
section
variable {X:Cx} {pins:List (Addr × Obj)} {σ:St} {H:Hp} {s:Shared} {E:Value → Shared → Prop}
end
section
variable {X:Cx} {st:Stmt} {rest:List Stmt} {t u:TS} {e:Expr} {te:TE} {pos:Pos}
noncomputable def tNext:TS:=fun D σ H => D.nx σ H
noncomputable def tSeq (t u:TS):TS:=fun D σ H => t { D with nx:=u D } σ H
theorem pss_nil:PSs X [] tNext:=fun _ _ σ H _ I h => wpAny_execs_nil ⟨σ,H,I,h⟩
theorem pss_cons (h1:PS X st t) (h2:PSs X rest u):PSs X (st :: rest) (tSeq t u):=by
  intro pins s σ H D I h
  refine wpAny_execs_cons (thn (h1 pins s σ H { D with nx:=u D } I h) fun f s1 q => ?_)
  cases f with
  | next =>
    obtain ⟨σ',H',I',q⟩:=q
    exact h2 pins s1 σ' H' D I' q
  | ret v => exact q
  | brk => exact q
  | cont => exact q
theorem pss_one (h1:PS X st t):PSs X [st] t:=by
  intro pins s σ H D I h
  refine wpAny_execs_cons (thn (h1 pins s σ H D I h) fun f s1 q => ?_)
  cases f with
  | next => exact wpAny_execs_nil q
  | ret v => exact q
  | brk => exact q
  | cont => exact q
theorem Inv.quiet {pins:List (Addr × Obj)} {σ:St} {H:Hp} {s:Shared} (I:Inv X pins σ H s):interactive X.env = false:=by simp [interactive,I.ok.kind]
noncomputable def tDrop (te:TE):TS:=fun D σ H => te σ H fun _ H1 => D.nx σ H1
theorem ps_expr (he:PE X e te) (hs:swapsWith e none pos.line X.env = pure false:=by rfl):PS X (.Expr e pos) (tDrop te):=by
  intro pins s σ H D I h
  exact wpAny_Expr_any (thn (he pins s σ H _ I h) fun v s1 ⟨x,H1,I1,r1,q1⟩ => ⟨σ,H1,I1,q1⟩) I.quiet hs
noncomputable def tRet (te:TE):TS:=fun D σ H => te σ H D.rt
theorem ps_ret (he:PE X e te):PS X (.Return (some e) pos) (tRet te):=by
  intro pins s σ H D I h
  exact wpAny_Return_some (thn (he pins s σ H _ I h) fun v s1 ⟨x,H1,I1,r1,q1⟩ => ⟨x,σ,H1,I1,r1,q1⟩)
noncomputable def tIfS (c:TT) (t u:TS):TS:=fun D σ H => c σ H fun b H1 => if b = true then t D σ H1 else u D σ H1
theorem ps_if {c:Expr} {a b:List Stmt} {tc:TT} (hc:PT X c tc) (ha:PSs X a t) (hb:PSs X b u):PS X (.If c a b pos) (tIfS tc t u):=by
  intro pins s σ H D I h
  refine wpAny_If (thn (hc pins s σ H _ I h) fun d s1 ⟨H1,I1,q1⟩ => ?_)
  cases d with
  | true => exact ha pins s1 σ H1 D I1 q1
  | false => exact hb pins s1 σ H1 D I1 q1
end
noncomputable abbrev TG:=V → St → Hp → (St → Hp → Prop) → Prop
noncomputable abbrev TGs:=List V → St → Hp → (St → Hp → Prop) → Prop
noncomputable def PG (X:Cx) (target:Expr) (t:TG):Prop :=
  ∀ (pins:List (Addr × Obj)) (s:Shared) (σ:St) (H:Hp) (v:V) (u:Value) (Q:St → Hp → Prop),Inv X pins σ H s → RelV v u → t v σ H Q →
    wpAny (model X.prog X.w) X.A (assign target X.env u) (fun _ s' => ∃ σ' H',Inv X pins σ' H' s' ∧ Q σ' H') X.xe s
noncomputable def PGs (X:Cx) (ts:List Expr) (t:TGs):Prop :=
  ∀ (pins:List (Addr × Obj)) (s:Shared) (σ:St) (H:Hp) (vs:List V) (us:List Value) (Q:St → Hp → Prop),Inv X pins σ H s → Vals vs us → t vs σ H Q →
    wpAny (model X.prog X.w) X.A (assignInOrder ((assignEach ts X.env).map (·.2)) us) (fun _ s' => ∃ σ' H',Inv X pins σ' H' s' ∧ Q σ' H') X.xe s
section
variable {X:Cx} {pos:Pos}
noncomputable def gName (i:Nat):TG:=fun v σ H Q => Q (σ.set i (some v)) H
theorem pg_name {i:Nat} {x:Str} (hN:X.N.Nodup) (hi:X.N[i]? = some x) (hx:Loc X.env.scope x) (hf:X.fn x = true ∨ X.env.scope.names.lookup x = some .local:=by first | exact .inl rfl | exact .inr rfl | assumption):PG X (.Name x pos) (gName i):=by
  intro pins s σ H v u Q I r h
  exact wpAny_assign_Name (store_ok I hN hi hx r (fun s' I' => ⟨_,H,I',h⟩) hf)
noncomputable def gNil:TGs:=fun vs σ H Q => vs = [] ∧ Q σ H
noncomputable def gCons (t:TG) (u:TGs):TGs:=fun vs σ H Q => ∃ v r,vs = v :: r ∧ t v σ H fun σ' H' => u r σ' H' Q
theorem pgs_nil:PGs X [] gNil:=by
  intro pins s σ H vs us Q I r h
  obtain ⟨e,h⟩:=h
  subst e
  cases r
  exact assignInOrder_nil ⟨σ,H,I,h⟩
theorem pgs_cons {e:Expr} {es:List Expr} {t:TG} {u:TGs} (h1:PG X e t) (h2:PGs X es u)
    (hs:(assignEach (e :: es) X.env).map (·.2) = assign e X.env :: (assignEach es X.env).map (·.2):=by rfl):PGs X (e :: es) (gCons t u):=by
  intro pins s σ H vs us Q I r h
  obtain ⟨v,vr,e1,h⟩:=h
  subst e1
  cases r with
  | cons r rr =>
    rw [hs]
    refine assignInOrder_cons (thn (h1 pins s σ H _ _ _ I r h) fun _ s1 ⟨σ1,H1,I1,q1⟩ => ?_)
    exact h2 pins s1 σ1 H1 _ _ Q I1 rr q1
noncomputable def gTup (K:PySem.W.Frag) (n:Nat) (t:TGs):TG:=fun v σ H Q => ∃ a xs,v = .ref a ∧ SqT K H a xs ∧ xs.length = n ∧ t xs σ H Q
theorem pg_tup {es:List Expr} {k:Nat} {t:TGs} {n:Nat} (hc:X.calm = true) (h:PGs X es t)
    (hn:(assignEach es X.env).length = n:=by rfl) (hst:(assignEach es X.env).findIdx? (·.1) = none:=by rfl):PG X (.Tuple es k pos) (gTup X.K n t):=by
  intro pins s σ H v u Q I r hw
  obtain ⟨a,xs,e1,hq,hl,hw⟩:=hw
  subst e1
  cases r
  obtain ⟨its,rv,ht,hz⟩:=I.tuple hq
  refine assign_Tuple_tuple (I.ok.hd hc) ht (by simp [hn,← hl,rv.length]) hst fun h' hx => ?_
  have I1:Inv X pins σ H { s with heap:=h' }:=I.kept (t':=s.toks) fun b o e => hx b o (Nat.ne_of_lt (Heap.lt_size e)) e
  exact h pins _ σ H xs _ Q I1 (by simpa using rv) hw
noncomputable def tAsg (te:TE) (g:TG):TS:=fun D σ H => te σ H fun x H1 => g x σ H1 D.nx
theorem ps_set {i:Nat} {x:Str} {e:Expr} {te:TE} {pos':Pos} (hN:X.N.Nodup) (hi:X.N[i]? = some x) (hx:Loc X.env.scope x) (he:PE X e te) (hs:swapsWith e (some (.Name x pos')) pos.line X.env = pure false:=by rfl) (hf:X.fn x = true ∨ X.env.scope.names.lookup x = some .local:=by first | exact .inl rfl | exact .inr rfl | assumption) :
    PS X (.Assign [.Name x pos'] e pos) (tAsg te (gName i)):=by
  intro pins s σ H D I h
  refine wpAny_Assign_Name (thn (he pins s σ H _ I h) fun v s1 ⟨y,H1,I1,r1,q1⟩ => ?_) hs
  exact store_ok I1 hN hi hx r1 (fun s2 I2 => ⟨_,H1,I2,q1⟩) hf
noncomputable def tPar (i j:Nat) (ta:TA):TS:=fun D σ H => ta σ H fun vs H1 => ∃ v w,vs = [v,w] ∧ D.nx ((σ.set i (some v)).set j (some w)) H1
theorem ps_par {i j:Nat} {x y:Str} {a b:Expr} {ta:TA} {px py pt:Pos} {kt k2 pt2} (hc:X.calm = true) (hN:X.N.Nodup) (hi:X.N[i]? = some x) (hj:X.N[j]? = some y) (hij:i ≠ j)
    (hx:X.env.scope.names.lookup x = some .local) (hy:X.env.scope.names.lookup y = some .local) (ha:PA X [a,b] ta)
    (hw:swappedStores [.Tuple [.Name x px,.Name y py] kt pt] (.Tuple [a,b] k2 pt2) X.env = pure (some [x,y]))
    (hs:swapsWithSole [.Tuple [.Name x px,.Name y py] kt pt] (.Tuple [a,b] k2 pt2) pos.line X.env = pure false:=by rfl) :
    PS X (.Assign [.Tuple [.Name x px,.Name y py] kt pt] (.Tuple [a,b] k2 pt2) pos) (tPar i j ta):=by
  intro pins s σ H D I h
  rw [exec_Assign_arm]
  refine wpAny_bind (wpAny_standAt ?_)
  rw [hs]
  refine wpAny_bind (wpAny_pure ?_)
  rw [if_neg (by decide)]
  refine wpAny_bind (Tuple_ (thn (ha _ pins s σ H _ I h) fun us s1 ⟨vs,H1,I1,r1,q1⟩ => ?_))
  obtain ⟨v,w,e1,q1⟩:=q1
  subst e1
  obtain ⟨u1,u2,rfl,rv,rw'⟩:∃ u1 u2,us = [u1,u2] ∧ RelV v u1 ∧ RelV w u2:=by
    cases r1 with
    | cons p q =>
      cases q with
      | cons p' q' =>
        cases q'
        exact ⟨_,_,rfl,p,p'⟩
  refine wpAny_newObj_type ?_ (by show 2 ≤ sizeLine; decide)
  have I2:Inv X pins σ H1 { s1 with heap:=s1.heap.push { cls:=.type "tuple",data:=.seq [u1,u2].toArray } }:=I1.kept (t':=s1.toks) fun b o e => Heap.get?_push_of_some _ e
  rw [hw]
  refine wpAny_bind (wpAny_pure ?_)
  show wpAny (model X.prog X.w) X.A (do rule "assign.swapped-stores"; let items ← unpackItems (.ref s1.heap.objs.size) 2 none; assignInOrder [fun v => bindName X.env y v,fun v => bindName X.env x v] items.reverse; pure Flow.next) _ _ _
  refine wpAny_bind (wpAny_rule (wpAny_bind (unpackItems_tuple (items:=#[u1,u2]) (I.ok.hd hc) (IsTup.new s1.heap _) fun h' hx' => ?_)))
  have I3:=I2.kept (h':=h') (t':=s1.toks) fun b o e => hx' b o (Nat.ne_of_lt (Heap.lt_size e)) e
  show wpAny _ _ (assignInOrder [fun v => bindName X.env y v,fun v => bindName X.env x v] [u2,u1] >>= fun _ => pure Flow.next) _ _ _
  refine wpAny_bind (assignInOrder_cons (wpAny_bindName (store_ok I3 hN hj (.inl hy) rw' (fun s2 I4 => ?_) (.inr hy))))
  refine assignInOrder_cons (wpAny_bindName (store_ok I4 hN hi (.inl hx) rv (fun s3 I5 => assignInOrder_nil (wpAny_pure ?_)) (.inr hx)))
  rw [List.set_comm _ _ (Ne.symm hij)] at I5
  exact ⟨_,H1,I5,q1⟩
end
section
variable {X:Cx} {pos:Pos}
noncomputable def tWhile (c:TT) (tb:TS):TS:=fun D σ H => ∃ W:Nat → St → Hp → Prop,(∃ m,W m σ H) ∧ ∀ m σ H,W m σ H →
  c σ H fun b H1 => if b = true then ∃ N:St → Hp → Prop,(∀ σ' H',N σ' H' → ∃ m',m' < m ∧ W m' σ' H') ∧ tb { D with nx:=N,ct:=N,bk:=D.nx } σ H1 else D.nx σ H1
theorem ps_while {c:Expr} {body:List Stmt} {tc:TT} {tb:TS} (hp:PassesOwn (model X.prog X.w) X.A X.env X.xe) (hc:PT X c tc) (hb:PSs X body tb):PS X (.While c body [] pos) (tWhile tc tb):=by
  intro pins s σ H D I h
  obtain ⟨W,⟨m0,w0⟩,turn⟩:=h
  refine wpAny_While (codeAny_whileLoop (fun n s' => ∃ σ' H',Inv X pins σ' H' s' ∧ W n σ' H') ?_ m0 ⟨σ,H,I,w0⟩)
  rintro n s1 ⟨σ1,H1,I1,w1⟩
  refine wpAny_passesOwn hp (thn (hc pins s1 σ1 H1 _ I1 (turn n σ1 H1 w1)) fun b s2 ⟨H2,I2,q2⟩ => ?_)
  cases b with
  | true =>
    obtain ⟨N,hN,q2⟩:=q2
    rw [if_pos rfl]
    refine wpAny_passesOwn hp (thn (hb pins s2 σ1 H2 _ I2 q2) fun f s3 q3 => ?_)
    cases f with
    | next =>
      obtain ⟨σ3,H3,I3,n3⟩:=q3
      obtain ⟨m',hm,w3⟩:=hN σ3 H3 n3
      exact ⟨m',hm,σ3,H3,I3,w3⟩
    | cont =>
      obtain ⟨σ3,H3,I3,n3⟩:=q3
      obtain ⟨m',hm,w3⟩:=hN σ3 H3 n3
      exact ⟨m',hm,σ3,H3,I3,w3⟩
    | brk => exact q3
    | ret v => exact q3
  | false =>
    rw [if_neg Bool.false_ne_true]
    exact wpAny_execs_nil ⟨σ1,H2,I2,q2⟩
end
structure It where
  go:Nat → Hp → Prop
  yld:Nat → Hp → V → Hp → Prop
  stop:Nat → Hp → Prop
noncomputable def FpOk (X:Cx) (pins:List (Addr × Obj)) (H:Hp) (b:Addr):Prop :=
  H b = none ∧ b ≠ X.env.locals ∧ b ∉ X.fs ∧ (b ∈ X.ex ∨ X.s₀.heap.objs.size ≤ b) ∧ (∀ x c,X.env.cells.lookup x = some c → c ≠ b) ∧ ∀ p ∈ X.pn ++ pins,p.1 ≠ b
theorem Inv.fpOk {X:Cx} {pins:List (Addr × Obj)} {σ:St} {H H':Hp} {s:Shared} {b:Addr} (I:Inv X pins σ H s) (hb:s.heap.objs.size ≤ b) (hn:H' b = none):FpOk X pins H' b:=by
  refine ⟨hn,Nat.ne_of_gt (Nat.lt_of_lt_of_le I.lt hb),I.nofs hb,.inr (Nat.le_trans I.sz hb),fun x c e z => ?_,fun p hp z => ?_⟩
  · obtain ⟨v,q⟩:=I.cell x c e
    exact absurd (Nat.lt_of_lt_of_le q.lt (by rw [z]; exact hb)) (Nat.lt_irrefl _)
  · exact absurd (Nat.lt_of_lt_of_le (Heap.lt_size (I.pin p hp).1) (by rw [z]; exact hb)) (Nat.lt_irrefl _)
structure Turn (P:Program) (w:World) (K:PySem.W.Frag) (tg:Expr) (J:It) (fp:List Addr) (it:Addr) (tn:Nat → Heap → Prop):Prop where
  mem:it ∈ fp
  obj:∀ i h,tn i h → ∀ b ∈ fp,∃ o,h.get? b = some o ∧ ∀ v,o.data ≠ .cell v
  keep:∀ i h h',tn i h → (∀ b ∈ fp,∀ o,h.get? b = some o → h'.get? b = some o) → tn i h'
  item:∀ (X:Cx),X.prog = P → X.w = w → X.K = K → X.calm = true → ∀ (i:Nat) (pins:List (Addr × Obj)) (s:Shared) (σ:St) (H:Hp) (E:Value → Shared → Prop),Inv X pins σ H s → (∀ b ∈ fp,FpOk X pins H b) → tn i s.heap → J.go i H →
    wpAny (model P w) X.A (pyNext (.ref it)) (fun r s1 => ∃ u,r = some u ∧
      wpAny (model P w) X.A (letOwnedTupleGo tg (.ref it) u) (fun _ s2 => ∃ x H',Inv X pins σ H' s2 ∧ RelV x u ∧ J.yld i H x H' ∧ tn (i + 1) s2.heap ∧ ∀ b ∈ fp,H' b = none) E s1) E s
  done:∀ (X:Cx),X.prog = P → X.w = w → X.K = K → X.calm = true → ∀ (i:Nat) (pins:List (Addr × Obj)) (s:Shared) (σ:St) (H:Hp) (E:Value → Shared → Prop),Inv X pins σ H s → (∀ b ∈ fp,FpOk X pins H b) → tn i s.heap → J.stop i H →
    wpAny (model P w) X.A (pyNext (.ref it)) (fun r s1 => r = none ∧ Inv X pins σ H s1) E s
  self:∀ (A:Around) (i:Nat) (s:Shared) (Q:Value → Shared → Prop) (E:Value → Shared → Prop),tn i s.heap → Q (.ref it) s → wpAny (model P w) A (pyIter (.ref it)) Q E s
noncomputable abbrev TI:=St → Hp → (It → Hp → Prop) → Prop
noncomputable def PIE (X:Cx) (pins:List (Addr × Obj)) (σ:St) (tg:Expr) (R:It → Hp → Prop) (itv:Value) (s2:Shared):Prop :=
  ∃ (it:Addr) (fp:List Addr) (tn:Nat → Heap → Prop) (J:It) (H':Hp),itv = .ref it ∧ Inv X pins σ H' s2 ∧ Turn X.prog X.w X.K tg J fp it tn ∧ tn 0 s2.heap ∧ (∀ b ∈ fp,FpOk X pins H' b) ∧ R J H'
noncomputable def PI (X:Cx) (tg iter:Expr) (wi:TI):Prop :=
  ∀ (pins:List (Addr × Obj)) (s:Shared) (σ:St) (H:Hp) (R:It → Hp → Prop),Inv X pins σ H s → wi σ H R →
    wpAny (model X.prog X.w) X.A (eval iter X.env) (fun v s1 => wpAny (model X.prog X.w) X.A (pyIter v) (PIE X pins σ tg R) X.xe s1) X.xe s
theorem go_of {M:Model} {A:Around} {E:Value → Shared → Prop} {s:Shared} {tg:Expr} {it:Addr} {u:Value} {o:Obj} {n:String} {vs:Array Value} {Q:Unit → Shared → Prop} (ho:s.heap.get? it = some o) (hc:o.cls = .type n) (hd:o.data = .fields vs)
    (hn:["enumerate","zip","dict_itemiterator","dict_reverseitemiterator","odict_iterator","itertools.zip_longest","itertools.pairwise"].contains n = false) (hQ:Q () s):wpAny M A (letOwnedTupleGo tg (.ref it) u) Q E s:=by
  unfold letOwnedTupleGo
  cases tg <;> first
    | exact wpAny_pure hQ
    | (cases u <;> first
        | exact wpAny_pure hQ
        | (refine wpAny_bind (wpAny_load ho ?_)
           rw [hc,hd]
           show wpAny M A (if (["enumerate","zip","dict_itemiterator","dict_reverseitemiterator","odict_iterator","itertools.zip_longest","itertools.pairwise"].contains n && vs[0]? == some (rawInt _)) = true then _ else _) Q E s
           rw [if_neg (by intro h; rw [hn,Bool.false_and] at h; cases h)]
           exact wpAny_pure hQ))
noncomputable def Itl (K:PySem.W.Frag) (a:Addr):It :=
  ⟨fun i H => ∃ xs x,SqL K H a xs ∧ xs[i]? = some x,fun i H x H' => H' = H ∧ ∀ xs,SqL K H a xs → xs[i]? = some x,fun i H => ∃ xs,SqL K H a xs ∧ xs.length ≤ i⟩
noncomputable def Itt (K:PySem.W.Frag) (a:Addr):It :=
  ⟨fun i H => ∃ xs x,SqT K H a xs ∧ xs[i]? = some x,fun i H x H' => H' = H ∧ ∀ xs,SqT K H a xs → xs[i]? = some x,fun i H => ∃ xs,SqT K H a xs ∧ xs.length ≤ i⟩
noncomputable def Itr (lo:Int) (n:Nat):It:=⟨fun i _ => i < n,fun i H x H' => H' = H ∧ x = .int (lo + i),fun i _ => n ≤ i⟩
theorem turn_list {P:Program} {w:World} {K:PySem.W.Frag} {tg:Expr} (a it:Addr):Turn P w K tg (Itl K a) [it] it (fun i h => h.IsListIter it a i) where
  mem:=by simp
  obj:=fun i h st b hb => by
    have e:b = it:=by simpa using hb
    subst e
    obtain ⟨o,e,c,d⟩:=st
    exact ⟨o,e,fun v z => by rw [d] at z; cases z⟩
  keep:=fun i h h' st k => st.at fun o e => k it (by simp) o e
  item:=by
    intro X hP hw hK hc i pins s σ H E I hf st hg
    subst hP hw hK
    obtain ⟨xs,x,hq,hx⟩:=hg
    obtain ⟨its,rv,p,hz⟩:=I.list hq
    obtain ⟨u,hu,ru⟩:=rv.get hx
    obtain ⟨f0,f1,f2,f3,f4,f5⟩:=hf it (by simp)
    refine wpAny_pyNext_list_item st p.isList (x:=u) (by simpa using hu) fun h' st' sb => ?_
    have I1:Inv X pins σ H { s with heap:=h' }:=I.turned (t':=s.toks) (fun b o hb e => (sb.2 b hb).trans e) f0 f1 f3 f4 f5
    obtain ⟨o,e,c,d⟩:=id st'
    exact ⟨u,rfl,go_of (s:={ s with heap:=h' }) e c d (by decide) ⟨x,H,I1,ru,⟨rfl,fun ys hy => by rw [I.list_inj hy hq]; exact hx⟩,st',fun b hb => (hf b hb).1⟩⟩
  done:=by
    intro X hP hw hK hc i pins s σ H E I hf st hg
    subst hP hw hK
    obtain ⟨xs,hq,hx⟩:=hg
    obtain ⟨its,rv,p,hz⟩:=I.list hq
    obtain ⟨f0,f1,f2,f3,f4,f5⟩:=hf it (by simp)
    have hl:=rv.length
    exact wpAny_pyNext_list_end (I.ok.hd hc) st p.isList (by simp; omega) fun h' eb => ⟨rfl,I.turned (t':=s.toks) (fun b o hb e => eb b o hb e) f0 f1 f3 f4 f5⟩
  self:=fun _ _ _ _ _ st h => wpAny_pyIter_listiter st h
theorem turn_tuple {P:Program} {w:World} {K:PySem.W.Frag} {tg:Expr} (a it:Addr):Turn P w K tg (Itt K a) [it] it (fun i h => h.IsTupleIter it a i) where
  mem:=by simp
  obj:=fun i h st b hb => by
    have e:b = it:=by simpa using hb
    subst e
    obtain ⟨o,e,c,d⟩:=st
    exact ⟨o,e,fun v z => by rw [d] at z; cases z⟩
  keep:=fun i h h' st k => st.at fun o e => k it (by simp) o e
  item:=by
    intro X hP hw hK hc i pins s σ H E I hf st hg
    subst hP hw hK
    obtain ⟨xs,x,hq,hx⟩:=hg
    obtain ⟨its,rv,p,hz⟩:=I.tuple hq
    obtain ⟨u,hu,ru⟩:=rv.get hx
    obtain ⟨f0,f1,f2,f3,f4,f5⟩:=hf it (by simp)
    refine wpAny_pyNext_tuple_item st (show s.heap.IsTuple a its.toArray from p) (x:=u) (by simpa using hu) fun h' st' sb => ?_
    have I1:Inv X pins σ H { s with heap:=h' }:=I.turned (t':=s.toks) (fun b o hb e => (sb.2 b hb).trans e) f0 f1 f3 f4 f5
    obtain ⟨o,e,c,d⟩:=id st'
    exact ⟨u,rfl,go_of (s:={ s with heap:=h' }) e c d (by decide) ⟨x,H,I1,ru,⟨rfl,fun ys hy => by rw [I.tuple_inj hy hq]; exact hx⟩,st',fun b hb => (hf b hb).1⟩⟩
  done:=by
    intro X hP hw hK hc i pins s σ H E I hf st hg
    subst hP hw hK
    obtain ⟨xs,hq,hx⟩:=hg
    obtain ⟨its,rv,p,hz⟩:=I.tuple hq
    obtain ⟨f0,f1,f2,f3,f4,f5⟩:=hf it (by simp)
    have hl:=rv.length
    exact wpAny_pyNext_tuple_end (I.ok.hd hc) st (show s.heap.IsTuple a its.toArray from p) (by simp; omega) fun h' eb => ⟨rfl,I.turned (t':=s.toks) (fun b o hb e => eb b o hb e) f0 f1 f3 f4 f5⟩
  self:=fun _ _ _ _ _ st h => wpAny_pyIter_tupleiter st h
theorem turn_range {P:Program} {w:World} {K:PySem.W.Frag} {tg:Expr} (it:Addr) (lo:Int) (n:Nat):Turn P w K tg (Itr lo n) [it] it (fun i h => IsRangeIter h it (lo + (i:Nat) * 1) ((n:Int) - (i:Nat)) 1) where
  mem:=by simp
  obj:=fun i h st b hb => by
    have e:b = it:=by simpa using hb
    subst e
    exact ⟨_,st,fun v z => by
      have z':Data.fields _ = Data.cell v:=z
      cases z'⟩
  keep:=fun i h h' st k => k it (by simp) _ st
  item:=by
    intro X hP hw hK hc i pins s σ H E I hf st hg
    subst hP hw hK
    obtain ⟨f0,f1,f2,f3,f4,f5⟩:=hf it (by simp)
    have W:=Walks.range (prog:=X.prog) (w:=X.w) (I.ok.hd hc) it lo 1 n
    refine W.item i s _ _ hg st fun v h' tk hv st' kk => ?_
    obtain ⟨t,rfl⟩:=hv
    have I1:Inv X pins σ H { s with heap:=h',toks:=tk }:=I.turned (fun b o hb e => kk b o (by simpa using hb) e) f0 f1 f3 f4 f5
    refine ⟨_,rfl,go_of (s:={ s with heap:=h',toks:=tk }) (n:="range_iterator") st' rfl rfl (by decide) ⟨.int (lo + i),H,I1,⟨t,?_⟩,⟨rfl,rfl⟩,st',fun b hb => (hf b hb).1⟩⟩
    rw [Int.mul_one]
  done:=by
    intro X hP hw hK hc i pins s σ H E I hf st hg
    subst hP hw hK
    obtain ⟨f0,f1,f2,f3,f4,f5⟩:=hf it (by simp)
    exact wpAny_pyNext_range_end (I.ok.hd hc) st (by have:n ≤ i:=hg; omega) fun h' eb => ⟨rfl,I.turned (t':=s.toks) (fun b o hb e => eb b o hb e) f0 f1 f3 f4 f5⟩
  self:=fun _ _ _ _ _ st h => wpAny_pyIter_rangeiter st h
end L2
namespace L2
open PySem PySem.Spec PyProof.Rows
section
variable {X:Cx} {tg:Expr}
theorem range_it {pins:List (Addr × Obj)} {σ:St} {H:Hp} {s:Shared} {R:It → Hp → Prop} {E:Value → Shared → Prop} {lo hi:Int} {t u v:Tok} {tk:Nat} (I:Inv X pins σ H s) (h1:-(2 ^ 62) ≤ lo) (h2:lo < 2 ^ 62) (h3:-(2 ^ 62) ≤ hi) (h4:hi < 2 ^ 62)
    (q:R (Itr lo (hi - lo).toNat) H):wpAny (model X.prog X.w) X.A (pyIter (.ref s.heap.objs.size)) (PIE X pins σ tg R) E { s with heap:=s.heap.push { cls:=.type "range",data:=.fields #[.int lo t,.int hi u,.int 1 v] },toks:=tk }:=by
  refine wpAny_pyIter_range (IsRange.new ..) (small_one h1 h2 h3 h4) ?_
  have I1:Inv X pins σ H { s with heap:=s.heap.push { cls:=.type "range",data:=.fields #[.int lo t,.int hi u,.int 1 v] },toks:=tk }:=I.kept fun b o e => Heap.get?_push_of_some _ e
  refine ⟨(s.heap.push { cls:=.type "range",data:=.fields #[.int lo t,.int hi u,.int 1 v] }).objs.size,[(s.heap.push { cls:=.type "range",data:=.fields #[.int lo t,.int hi u,.int 1 v] }).objs.size],_,_,H,rfl,
    I1.kept (t':=tk) fun b o e => Heap.get?_push_of_some _ e,turn_range _ lo (hi - lo).toNat,?_,fun b hb => ?_,q⟩
  · have e1:lo + ((0:Nat):Int) * 1 = lo:=by simp
    have e2:(((hi - lo).toNat:Nat):Int) - ((0:Nat):Int) = Builtin.Range.rangeSize lo hi 1:=by rw [rangeSize_one]; split <;> omega
    show IsRangeIter _ _ (lo + ((0:Nat):Int) * 1) ((((hi - lo).toNat:Nat):Int) - ((0:Nat):Int)) 1
    rw [e1,e2]
    exact Heap.get?_push_size _ rfl
  · have e:b = (s.heap.push { cls:=.type "range",data:=.fields #[.int lo t,.int hi u,.int 1 v] }).objs.size:=by simpa using hb
    subst e
    exact I1.fpOk (Nat.le_refl _) (I1.hok.fresh (Nat.le_refl _))
noncomputable def iRng1 (ta:TA):TI:=fun σ H R => ta σ H fun vs H1 => ∃ j:Int,vs = [.int j] ∧ -(2 ^ 62) ≤ j ∧ j < 2 ^ 62 ∧ R (Itr 0 j.toNat) H1
noncomputable def iRng2 (ta:TA):TI:=fun σ H R => ta σ H fun vs H1 => ∃ i j:Int,vs = [.int i,.int j] ∧ (-(2 ^ 62) ≤ i ∧ i < 2 ^ 62 ∧ -(2 ^ 62) ≤ j ∧ j < 2 ^ 62) ∧ R (Itr i (j - i).toNat) H1
theorem pi_range1 {a:Expr} {ta:TA} {p pos:Pos} (hg:Gl X "range") (hm:X.mg "range" = none) (ha:PA X [a] ta) (hs:starEach [a] X.env = [(false,eval a X.env)]:=by rfl):PI X tg (.Call (.Name "range" p) [a] [] pos) (iRng1 ta):=by
  intro pins s σ H R I h
  refine Call_ (ld_blt I hg hm boot_range (PyProof.Rows.callWith_type1 (thn (ha pos pins s σ H _ I h) fun us s1 ⟨vs,H1,I1,r1,q1⟩ => ?_) hs rfl))
  obtain ⟨j,e,q1,q2,q⟩:=q1
  subst e
  cases r1 with
  | cons r rr =>
    cases rr
    obtain ⟨t,rfl⟩:=r
    exact call_range_1 (range_it I1 (by omega) (by omega) q1 q2 (by simpa using q))
theorem pi_range2 {a b:Expr} {ta:TA} {p pos:Pos} (hg:Gl X "range") (hm:X.mg "range" = none) (ha:PA X [a,b] ta) (hs:starEach [a,b] X.env = [(false,eval a X.env),(false,eval b X.env)]:=by rfl) (hs2:starEach [b] X.env = [(false,eval b X.env)]:=by rfl) :
    PI X tg (.Call (.Name "range" p) [a,b] [] pos) (iRng2 ta):=by
  intro pins s σ H R I h
  refine Call_ (ld_blt I hg hm boot_range (PyProof.Rows.callWith_type1 (thn (ha pos pins s σ H _ I h) fun us s1 ⟨vs,H1,I1,r1,q1⟩ => ?_) (by rw [hs,hs2]) (by rw [hs2]; rfl)))
  obtain ⟨i,j,e,⟨q1,q2,q3,q4⟩,q⟩:=q1
  subst e
  cases r1 with
  | cons r rr =>
    cases rr with
    | cons r' rr =>
      cases rr
      obtain ⟨t,rfl⟩:=r
      obtain ⟨t',rfl⟩:=r'
      exact call_range_2 (range_it I1 q1 q2 q3 q4 q)
noncomputable def tFor (wi:TI) (g:TG) (tb:TS):TS:=fun D σ H => wi σ H fun J H1 => ∃ W:Nat → Nat → St → Hp → Prop,(∃ m,W 0 m σ H1) ∧ ∀ i m σ H,W i m σ H →
  (J.stop i H ∧ D.nx σ H) ∨ (J.go i H ∧ ∃ N:St → Hp → Prop,(∀ σ' H',N σ' H' → ∃ m',m' < m ∧ W (i + 1) m' σ' H') ∧ ∀ x H',J.yld i H x H' → g x σ H' fun σ2 H2 => tb { D with nx:=N,ct:=N,bk:=D.nx } σ2 H2)
noncomputable def pinsAt (fp:List Addr) (h:Heap):List (Addr × Obj):=fp.filterMap fun b => (h.get? b).map fun o => (b,o)
theorem mem_pinsAt {fp:List Addr} {h:Heap} {b:Addr} {o:Obj} (hb:b ∈ fp) (e:h.get? b = some o):(b,o) ∈ pinsAt fp h:=List.mem_filterMap.mpr ⟨b,hb,by rw [e]; rfl⟩
theorem of_pinsAt {fp:List Addr} {h:Heap} {p:Addr × Obj} (hp:p ∈ pinsAt fp h):p.1 ∈ fp ∧ h.get? p.1 = some p.2:=by
  obtain ⟨b,hb,e⟩:=List.mem_filterMap.mp hp
  cases q:h.get? b with
  | none => rw [q] at e; cases e
  | some o =>
    rw [q] at e
    have e':(b,o) = p:=Option.some.inj e
    subst e'
    exact ⟨hb,q⟩
theorem Inv.pinned {pins:List (Addr × Obj)} {σ:St} {H:Hp} {s:Shared} {fp:List Addr} (I:Inv X pins σ H s) (hf:∀ b ∈ fp,FpOk X pins H b) (ho:∀ b ∈ fp,∃ o,s.heap.get? b = some o ∧ ∀ v,o.data ≠ .cell v):Inv X (pins ++ pinsAt fp s.heap) σ H s :=
  I.pins_of fun p hp => (List.mem_append.mp hp).elim (fun z => I.pin p (List.mem_append_right _ z)) fun z => by
    obtain ⟨hb,e⟩:=of_pinsAt z
    obtain ⟨f0,f1,f2,_⟩:=hf p.1 hb
    obtain ⟨o,e',d⟩:=ho p.1 hb
    rw [e] at e'; cases e'
    exact ⟨e,f0,f1,f2,d⟩
theorem Inv.unpinned {pins pl:List (Addr × Obj)} {σ:St} {H:Hp} {s:Shared} (I:Inv X (pins ++ pl) σ H s):Inv X pins σ H s:=I.pins_of fun p hp => I.pin p (List.mem_append_right _ (List.mem_append_left _ hp))
theorem ps_for {iter:Expr} {body:List Stmt} {wi:TI} {g:TG} {tb:TS} {pos:Pos} (hp:PassesOwn (model X.prog X.w) X.A X.env X.xe) (hc:X.calm = true) (hi:PI X tg iter wi) (hg:PG X tg g) (hb:PSs X body tb)
    (hs:∀ x,foldedSetIterable iter X.env x = pure x:=by intro _; rfl):PS X (.For tg iter body [] pos) (tFor wi g tb):=by
  intro pins s σ H D I h
  refine wpAny_For (thn (hi pins s σ H _ I h) fun v s1 h1 => thn h1 fun itv s2 h2 => ?_) hs
  obtain ⟨it,fp,tn,J,H2,e,I2,T,st2,f2,W,⟨m0,w0⟩,turn⟩:=h2
  subst e
  -- what stays true of the iterator's objects through the loop
  have stat:∀ {H':Hp},(∀ b ∈ fp,H' b = none) → ∀ b ∈ fp,FpOk X pins H' b:=fun hn b hb => ⟨hn b hb,(f2 b hb).2⟩
  refine codeAny_forLoop_any (fun n s' => ∃ i σ' H',Inv X pins σ' H' s' ∧ tn i s'.heap ∧ (∀ b ∈ fp,H' b = none) ∧ W i n σ' H') ?_ m0 ⟨0,σ,H2,I2,st2,fun b hb => (f2 b hb).1,w0⟩
  rintro n s3 ⟨i,σ3,H3,I3,st3,fr3,w3⟩
  rcases turn i n σ3 H3 w3 with ⟨stop,qn⟩ | ⟨go,N,hN,step⟩
  · refine wpAny_passesOwn hp (thn (T.done X rfl rfl rfl hc i pins s3 σ3 H3 X.xe I3 (stat fr3) st3 stop) fun r s4 ⟨hr,I4⟩ => ?_)
    subst hr
    exact wpAny_execs_nil ⟨σ3,H3,I4,qn⟩
  · refine wpAny_passesOwn hp (thn (T.item X rfl rfl rfl hc i pins s3 σ3 H3 X.xe I3 (stat fr3) st3 go) fun r s4 ⟨u,hr,h4⟩ => ?_)
    subst hr
    refine wpAny_passesOwn hp (thn h4 fun _ s5 ⟨x,H5,I5,r5,y5,st5,fr5⟩ => ?_)
    have I5':=I5.pinned (stat fr5) (T.obj _ _ st5)
    refine wpAny_passesOwn hp (thn (hg _ s5 σ3 H5 x u _ I5' r5 (step x H5 y5)) fun _ s6 ⟨σ6,H6,I6,q6⟩ => ?_)
    refine wpAny_passesOwn hp (thn (hb _ s6 σ6 H6 _ I6 q6) fun f s7 q7 => ?_)
    have again:∀ {σ7:St} {H7:Hp},Inv X (pins ++ pinsAt fp s5.heap) σ7 H7 s7 → N σ7 H7 → ∃ m,m < n ∧ ∃ i σ' H',Inv X pins σ' H' s7 ∧ tn i s7.heap ∧ (∀ b ∈ fp,H' b = none) ∧ W i m σ' H':=fun {σ7 H7} I7 n7 => by
      obtain ⟨m',hm,w7⟩:=hN σ7 H7 n7
      refine ⟨m',hm,i + 1,σ7,H7,I7.unpinned,T.keep _ _ _ st5 fun b hb o e => (I7.pin (b,o) (List.mem_append_right _ (List.mem_append_right _ (mem_pinsAt hb e)))).1,fun b hb => ?_,w7⟩
      obtain ⟨o,e,d⟩:=T.obj _ _ st5 b hb
      exact (I7.pin (b,o) (List.mem_append_right _ (List.mem_append_right _ (mem_pinsAt hb e)))).2.1
    cases f with
    | next => obtain ⟨σ7,H7,I7,n7⟩:=q7; exact again I7 n7
    | cont => obtain ⟨σ7,H7,I7,n7⟩:=q7; exact again I7 n7
    | brk => obtain ⟨σ7,H7,I7,q7⟩:=q7; exact ⟨σ7,H7,I7.unpinned,q7⟩
    | ret v => obtain ⟨x7,σ7,H7,I7,r7,q7⟩:=q7; exact ⟨x7,σ7,H7,I7.unpinned,r7,q7⟩
end
end L2
namespace L2
open PySem PySem.Spec PyProof.Rows
noncomputable abbrev R2:=V → V → Hp → VK → Prop
noncomputable def OpR (X:Cx) (f:Value → Value → Sem Value) (r:R2):Prop :=
  ∀ (pins:List (Addr × Obj)) (s:Shared) (σ:St) (H:Hp) (x y:V) (v u:Value) (Q:VK),Inv X pins σ H s → RelV x v → RelV y u → r x y H Q →
    wpAny (model X.prog X.w) X.A (f v u) (EP X pins σ Q) X.xe s
noncomputable def UnR (X:Cx) (f:Value → Sem Value) (r:V → Hp → VK → Prop):Prop :=
  ∀ (pins:List (Addr × Obj)) (s:Shared) (σ:St) (H:Hp) (x:V) (v:Value) (Q:VK),Inv X pins σ H s → RelV x v → r x H Q →
    wpAny (model X.prog X.w) X.A (f v) (EP X pins σ Q) X.xe s
noncomputable def CallR (X:Cx) (f:Value) (r:List V → Hp → VK → Prop):Prop :=
  ∀ (pins:List (Addr × Obj)) (s:Shared) (σ:St) (H:Hp) (xs:List V) (us:List Value) (Q:VK),Inv X pins σ H s → Vals xs us → r xs H Q →
    wpAny (model X.prog X.w) X.A (call f us) (EP X pins σ Q) X.xe s
noncomputable def tOp (r:R2) (ta tb:TE):TE:=fun σ H Q => ta σ H fun x H1 => tb σ H1 fun y H2 => r x y H2 Q
noncomputable def tUn (r:V → Hp → VK → Prop) (ta:TE):TE:=fun σ H Q => ta σ H fun x H1 => r x H1 Q
noncomputable def rI (C:Int → Int → Prop) (g:Int → Int → V):R2:=fun x y H Q => ∃ i j,x = .int i ∧ y = .int j ∧ C i j ∧ Q (g i j) H
noncomputable def rI0 (g:Int → Int → V):R2:=fun x y H Q => ∃ i j,x = .int i ∧ y = .int j ∧ Q (g i j) H
noncomputable def rU (g:Int → V):V → Hp → VK → Prop:=fun x H Q => ∃ i,x = .int i ∧ Q (g i) H
section
variable {X:Cx} {a b c:Expr} {ta tb tc:TE} {pos:Pos}
theorem binT (ha:PE X a ta) (hb:PE X b tb) {pins:List (Addr × Obj)} {s:Shared} {σ:St} {H:Hp} {R:V → V → Hp → Prop} (I:Inv X pins σ H s)
    (h:ta σ H fun x H1 => tb σ H1 fun y H2 => R x y H2) {Q:Value → Shared → Prop} {f:Value → Value → Sem Value}
    (hf:∀ v u s2 x y H2,Inv X pins σ H2 s2 → RelV x v → RelV y u → R x y H2 → wpAny (model X.prog X.w) X.A (f v u) Q X.xe s2) :
    wpAny (model X.prog X.w) X.A (eval a X.env) (fun v s₁ => wpAny (model X.prog X.w) X.A (eval b X.env) (fun u s₂ => wpAny (model X.prog X.w) X.A (f v u) Q X.xe s₂) X.xe s₁) X.xe s:=by
  refine thn (ha pins s σ H _ I h) fun v s1 ⟨x,H1,I1,r1,q1⟩ => ?_
  refine thn (hb pins s1 σ H1 _ I1 q1) fun u s2 ⟨y,H2,I2,r2,q2⟩ => ?_
  exact hf v u s2 x y H2 I2 r1 r2 q2
theorem pe_op {op:Operator} {r:R2} (ho:OpR X (binaryOp op) r) (ha:PE X a ta) (hb:PE X b tb):PE X (.BinOp a op b pos) (tOp r ta tb):=by
  intro pins s σ H Q I h
  exact wpAny_BinOp (binT ha hb I h fun v u s2 x y H2 I2 rx ry q => ho pins s2 σ H2 x y v u Q I2 rx ry q)
theorem pe_un {op:UnaryOp} {r:V → Hp → VK → Prop} (ho:UnR X (unaryOp op) r) (ha:PE X a ta):PE X (.UnaryOp op a pos) (tUn r ta):=by
  intro pins s σ H Q I h
  exact UnaryOp_ (thn (ha pins s σ H _ I h) fun v s1 ⟨x,H1,I1,r1,q1⟩ => ho pins s1 σ H1 x v Q I1 r1 q1)
theorem opI {f:Value → Value → Sem Value} {C:Int → Int → Prop} {g:Int → Int → Int}
    (rule:∀ (i j:Int) (t u:Tok) (s:Shared) (Q:Value → Shared → Prop) (E:Value → Shared → Prop),C i j → Q (.int (g i j) s.toks) { s with toks:=s.toks + 1 } → wpAny (model X.prog X.w) X.A (f (.int i t) (.int j u)) Q E s) :
    OpR X f (rI C fun i j => .int (g i j)):=by
  intro pins s σ H x y v u Q I rx ry h
  obtain ⟨i,j,rfl,rfl,hc,q⟩:=h
  obtain ⟨t,rfl⟩:=rx
  obtain ⟨t',rfl⟩:=ry
  exact rule i j t t' s _ _ hc ⟨.int (g i j),H,I.tok _,⟨_,rfl⟩,q⟩
theorem opI0 {f:Value → Value → Sem Value} {g:Int → Int → Int}
    (rule:∀ (i j:Int) (t u:Tok) (s:Shared) (Q:Value → Shared → Prop) (E:Value → Shared → Prop),Q (.int (g i j) s.toks) { s with toks:=s.toks + 1 } → wpAny (model X.prog X.w) X.A (f (.int i t) (.int j u)) Q E s) :
    OpR X f (rI0 fun i j => .int (g i j)):=by
  intro pins s σ H x y v u Q I rx ry h
  obtain ⟨i,j,rfl,rfl,q⟩:=h
  obtain ⟨t,rfl⟩:=rx
  obtain ⟨t',rfl⟩:=ry
  exact rule i j t t' s _ _ ⟨.int (g i j),H,I.tok _,⟨_,rfl⟩,q⟩
theorem opB0 {f:Value → Value → Sem Value} {g:Int → Int → Bool}
    (rule:∀ (i j:Int) (t u:Tok) (s:Shared) (Q:Value → Shared → Prop) (E:Value → Shared → Prop),Q (.bool (g i j)) s → wpAny (model X.prog X.w) X.A (f (.int i t) (.int j u)) Q E s) :
    OpR X f (rI0 fun i j => .bl (g i j)):=by
  intro pins s σ H x y v u Q I rx ry h
  obtain ⟨i,j,rfl,rfl,q⟩:=h
  obtain ⟨t,rfl⟩:=rx
  obtain ⟨t',rfl⟩:=ry
  exact rule i j t t' s _ _ ⟨.bl (g i j),H,I,rfl,q⟩
noncomputable def CPow (i j:Int):Prop:=0 ≤ j ∧ j ≤ 1000000 ∧ i.natAbs < 2 ^ 64
noncomputable def CMul (i j:Int):Prop:=(-(2 ^ 64) < i ∧ i < 2 ^ 64) ∨ (-(2 ^ 64) < j ∧ j < 2 ^ 64)
theorem CMul.ok {i j:Int} (h:CMul i j):IntMulOk i j:=by
  rcases h with ⟨h1,h2⟩ | ⟨h1,h2⟩
  · exact .of_left (intBits_le_64 h1 h2)
  · exact .of_right (intBits_le_64 h1 h2)
theorem op_add:OpR X (binaryOp .Add) (rI0 fun i j => .int (i + j)):=opI0 fun _ _ _ _ _ _ _ q => add_int q
theorem op_sub:OpR X (binaryOp .Sub) (rI0 fun i j => .int (i - j)):=opI0 fun _ _ _ _ _ _ _ q => sub_int q
theorem op_mul:OpR X (binaryOp .Mult) (rI CMul fun i j => .int (i * j)):=opI fun _ _ _ _ _ _ _ hc q => mul_int q hc.ok
theorem op_modN:OpR X (binaryOp .Mod) (rI (fun _ j => j ≠ 0) fun i j => .int (i.fmod j)):=opI fun _ _ _ _ _ _ _ hc q => mod_int' hc q
theorem op_pow:OpR X (binaryOp .Pow) (rI CPow fun i j => .int (i ^ j.toNat)):=opI fun _ _ _ _ _ _ _ hc q => pow_int_small hc.1 hc.2.1 hc.2.2 q
theorem unI {f:Value → Sem Value} {g:Int → Int}
    (rule:∀ (i:Int) (t:Tok) (s:Shared) (Q:Value → Shared → Prop) (E:Value → Shared → Prop),Q (.int (g i) s.toks) { s with toks:=s.toks + 1 } → wpAny (model X.prog X.w) X.A (f (.int i t)) Q E s) :
    UnR X f (rU fun i => .int (g i)):=by
  intro pins s σ H x v Q I rx h
  obtain ⟨i,rfl,q⟩:=h
  obtain ⟨t,rfl⟩:=rx
  exact rule i t s _ _ ⟨.int (g i),H,I.tok _,⟨_,rfl⟩,q⟩
theorem un_neg:UnR X (unaryOp .USub) (rU fun i => .int (-i)):=unI fun _ _ _ _ _ q => neg_int q
end
section
variable {X:Cx} {a b c:Expr} {ta tb tc:TE} {pos:Pos}
theorem op_lt:OpR X (compareOp .Lt) (rI0 fun i j => .bl (decide (i < j))):=opB0 fun _ _ _ _ _ _ _ q => lt_int q
theorem op_le:OpR X (compareOp .LtE) (rI0 fun i j => .bl (decide (i ≤ j))):=opB0 fun _ _ _ _ _ _ _ q => le_int q
theorem op_gt:OpR X (compareOp .Gt) (rI0 fun i j => .bl (decide (j < i))):=opB0 fun _ _ _ _ _ _ _ q => gt_int q
theorem OpR.or {f:Value → Value → Sem Value} {r r':R2} (h:OpR X f r) (h':OpR X f r'):OpR X f (fun x y H Q => r x y H Q ∨ r' x y H Q):=by
  intro pins s σ H x y v u Q I rx ry q
  rcases q with q | q
  · exact h pins s σ H x y v u Q I rx ry q
  · exact h' pins s σ H x y v u Q I rx ry q
theorem nomark (b:Expr) {op:CmpOp} (h:op ≠ .In:=by decide) (h2:op ≠ .NotIn:=by decide):behindInMarks op b = false:=by
  have e1:(op == CmpOp.In) = false:=by cases op <;> first | rfl | exact absurd rfl h
  have e2:(op == CmpOp.NotIn) = false:=by cases op <;> first | rfl | exact absurd rfl h2
  cases b <;> simp [behindInMarks,e1,e2]
theorem pe_cmpR {op:CmpOp} {r:R2} (ho:OpR X (compareOp op) r) (ha:PE X a ta) (hb:PE X b tb) (hm:behindInMarks op b = false):PE X (.Compare a [op] [b] pos) (tOp r ta tb):=by
  intro pins s σ H Q I h
  exact wpAny_Compare1 (binT ha hb I h fun v u s2 x y H2 I2 rx ry q => ho pins s2 σ H2 x y v u Q I2 rx ry q) hm
noncomputable def tTest (t:TE):TT:=fun σ H Q => t σ H fun x H' => ∃ k,x = .bl k ∧ Q k H'
theorem pt_cmpR {op:CmpOp} {r:R2} (ho:OpR X (compareOp op) r) (ha:PE X a ta) (hb:PE X b tb) (hm:behindInMarks op b = false):PT X (.Compare a [op] [b] pos) (tTest (tOp r ta tb)):=by
  intro pins s σ H Q I h
  refine wpAny_isTrue_Compare1 (thn (ha pins s σ H _ I h) fun v s1 ⟨x,H1,I1,r1,q1⟩ => thn (hb pins s1 σ H1 _ I1 q1) fun u s2 ⟨y,H2,I2,r2,q2⟩ =>
    thn (ho pins s2 σ H2 x y v u _ I2 r1 r2 q2) fun c s3 ⟨z,H3,I3,r3,k,e,q3⟩ => ?_) hm
  subst e
  cases r3
  exact wpAny_truthy_bool ⟨H3,I3,q3⟩
noncomputable def tChain (r r':R2) (ta tb tc:TE):TE:=fun σ H Q => ta σ H fun x H1 => tb σ H1 fun y H2 => r x y H2 fun z H3 => ∃ k,z = .bl k ∧
  (if k = true then tc σ H3 fun w' H4 => r' y w' H4 Q else Q (.bl false) H3)
theorem pe_chain {op op':CmpOp} {r r':R2} (ho:OpR X (compareOp op) r) (ho':OpR X (compareOp op') r') (ha:PE X a ta) (hb:PE X b tb) (hc:PE X c tc)
    (hm:lastMarks [op,op'] [b,c] = false:=by with_unfolding_all rfl):PE X (.Compare a [op,op'] [b,c] pos) (tChain r r' ta tb tc):=by
  intro pins s σ H Q I h
  refine Compare_chain (thn (ha pins s σ H _ I h) fun v s1 ⟨x,H1,I1,r1,q1⟩ => chain_link (thn (hb pins s1 σ H1 _ I1 q1) fun u s2 ⟨y,H2,I2,r2,q2⟩ =>
    thn (ho pins s2 σ H2 x y v u _ I2 r1 r2 q2) fun d s3 ⟨z,H3,I3,r3,k,e,q3⟩ => ?_)) hm
  subst e
  cases r3
  refine wpAny_truthy_bool ?_
  cases k with
  | false => exact ite_ff ⟨.bl false,H3,I3,rfl,q3⟩
  | true => exact ite_tt (chain_last (thn (hc pins s3 σ H3 _ I3 q3) fun w' s4 ⟨z',H4,I4,r4,q4⟩ => ho' pins s4 σ H4 y z' u w' Q I4 r2 r4 q4))
theorem line63:(sizeLine:Nat) < 2 ^ 63:=by rw [sizeLine_eq]; decide
theorem op_add_str:OpR X (binaryOp .Add) (fun x y H Q => ∃ i j,x = .str i ∧ y = .str j ∧ i.length + j.length ≤ sizeLine ∧ Q (.str (i ++ j)) H):=by
  intro pins s σ H x y v u Q I rx ry h
  obtain ⟨i,j,rfl,rfl,hz,q⟩:=h
  obtain ⟨t,rfl⟩:=rx
  obtain ⟨t',rfl⟩:=ry
  exact add_str (fun t' tk => ⟨.str (i ++ j),H,I.tok _,⟨_,rfl⟩,q⟩) hz
theorem vals1 {x:V} {us:List Value} (r:Vals [x] us):∃ u,us = [u] ∧ RelV x u:=by
  cases r with
  | cons r1 r2 => cases r2; exact ⟨_,rfl,r1⟩
theorem vals2 {x y:V} {us:List Value} (r:Vals [x,y] us):∃ u w',us = [u,w'] ∧ RelV x u ∧ RelV y w':=by
  cases r with
  | cons r1 r2 =>
    cases r2 with
    | cons r3 r4 => cases r4; exact ⟨_,_,rfl,r1,r3⟩
end
end L2
namespace L2
open PySem PySem.Spec PyProof.Rows
structure ObjM (h:Heap) (x dx C:Addr) (mA:Str → Option Value):Prop where
  obj:h.get? x = some (PySem.W.instObj C dx)
  ns:h.Ns1 dx mA
  ne:dx ≠ x
theorem lookIn_ns {h:Heap} {dx:Addr} {mA:Str → Option Value} (n:h.Ns1 dx mA):∃ od,h.get? dx = some od ∧ ∀ name,PySem.W.lookIn name od = some (mA name):=by
  obtain ⟨o,es,ep,ho,hd,hk,_,hm⟩:=n
  refine ⟨o,ho,fun name => ?_⟩
  have e:=hm name
  unfold nsFind findBy at e
  rw [← Array.find?_toList] at e
  unfold PySem.W.lookIn
  rw [hd]
  dsimp only
  split
  · rename_i y q
    rw [q] at e
    exact congrArg some e
  · rename_i q
    rw [q] at e
    have a:es.toList.any (·.refKey) = false:=by
      rw [List.any_eq_false]
      intro y hy
      obtain ⟨z,t,hkey⟩:=hk y (Array.mem_toList_iff.mp hy)
      simp [DictEntry.refKey,hkey]
    have a':¬ es.toList.any (·.refKey) = true:=by rw [a]; exact Bool.false_ne_true
    rw [if_neg a']
    exact congrArg some e
theorem ObjM.look {h:Heap} {x dx C:Addr} {mA:Str → Option Value} (I:ObjM h x dx C mA):∃ od,PySem.W.InstAt h x (PySem.W.instObj C dx) C (some od) ∧ ∀ name,PySem.W.lookIn name od = some (mA name) :=
  let ⟨od,ho,hl⟩:=lookIn_ns I.ns
  ⟨od,⟨I.obj,rfl,rfl,ho⟩,hl⟩
section
variable {prog:Program} {w:World} {A:Around} {E:Value → Shared → Prop} {s:Shared} {K:PySem.W.Frag} {x dx C f:Addr} {mA:Str → Option Value} {name:Str} {v:Value}
end
theorem RelO.some_of {v:V} {o:Option Value} (r:RelO (some v) o):∃ u,o = some u ∧ RelV v u:=by
  cases o with
  | none => exact (show False from r).elim
  | some u => exact ⟨u,rfl,r⟩
section
variable {P:Program} {w:World} {H H':Hp} {h h':Heap} {a C dx:Addr} {fs fs':List (Str × V)}
theorem ins_get (hok:HOk P w H h) (e:H a = some (.ins C dx fs)):∃ mA,ObjM h a dx C mA ∧ (∀ f,RelO (fs.lookup f) (mA f)) ∧ PySem.Within mA (fs.map (·.1)) ∧ fs.length ≤ 1000 ∧ H dx = some (.own a):=by
  obtain ⟨d,z,ne,ob,mA,n,r,q⟩:=(show ObjOk P w H h a (.ins C dx fs) from hok a _ e)
  exact ⟨mA,⟨ob,n,ne⟩,r,q,z,d⟩
end
structure Cls (K:PySem.W.Frag) (C:Addr):Prop where
  pg:PySem.W.plainGet K C Str.empty = true
  hd:PySem.W.hasDictIn K C = true
  po:PySem.W.plainOver K C = true
  sa:PySem.W.findIn K (.ref C) "__setattr__" = some (some (.builtin "object.__setattr__"))
theorem Cls.get {K:PySem.W.Frag} {C:Addr} (c:Cls K C) (f:Str):PySem.W.plainGet K C f = true:=c.pg
section
variable {X:Cx} {pins:List (Addr × Obj)} {σ:St} {H:Hp} {s:Shared} {a C dx:Addr} {fs:List (Str × V)} {f:Str} {v:V} {A:Around} {E:Value → Shared → Prop}
end
section
variable {X:Cx} {o e value:Expr} {f:Str} {pos pos' tpos:Pos} {ta tv:TE}
end
section
variable {X:Cx} {pins:List (Addr × Obj)} {σ:St} {H:Hp} {s:Shared} {A:Around} {E:Value → Shared → Prop} {Q:Value → Shared → Prop} {c:Value} {b:Bool}
inductive TyOf (K:PySem.W.Frag) (H:Hp):V → Value → Prop where
  | non:TyOf K H .non (.type "NoneType")
  | bl (x:Bool):TyOf K H (.bl x) (.type "bool")
  | int (i:Int):TyOf K H (.int i) (.type "int")
  | str (x:Str):TyOf K H (.str x) (.type "str")
  | flt (x:UInt64):TyOf K H (.flt x) (.type "float")
  | lst {a:Addr} {xs:List V} (e:H a = some (.lst xs)):TyOf K H (.ref a) (.type "list")
  | frz {a:Addr} {o:Obj} {xs:List V} (e:H a = some (.frz o (.lst xs))):TyOf K H (.ref a) (.type "list")
  | tup {a:Addr} {xs:List V} (e:H a = some (.tup xs)):TyOf K H (.ref a) (.type "tuple")
  | dK {a:Addr} {kvs:List (Key × V)} (e:H a = some (.dK kvs)):TyOf K H (.ref a) (.type "dict")
  | dT {a:Addr} {kvs:List (List Key × V)} (e:H a = some (.dT kvs)):TyOf K H (.ref a) (.type "dict")
  | ins {a C dx:Addr} {fs:List (Str × V)} (e:H a = some (.ins C dx fs)) (cl:Cls K C) (ha:PySem.W.findIn K (.ref C) "__class__" = some (some (.builtin "object.__class__")))
      (hn:PySem.W.specialIn K (.builtin "object.__class__") "__get__" = some (some (.builtin "getset_descriptor.__get__"))) (htk:PySem.W.takesIn K (.builtin "object.__class__") = some true)
      (hm:PySem.W.mroIn K C (.type "object") = some true):TyOf K H (.ref a) (.ref C)
theorem isinst_ok {x:V} {u t:Value} (I:Inv X pins σ H s) (rx:RelV x u) (ty:TyOf X.K H x t) (e:PySem.W.kitOne X.K t c = some b) (h:∀ tk,Q (.bool b) { s with toks:=tk }) :
    wpAny (model X.prog X.w) A (call (.builtin "isinstance") [u,c]) Q E s:=by
  cases ty with
  | non => cases (show u = Value.none from rx); exact PySem.W.kia_one PySem.W.kitx_none I.kIn True.intro e (fun z => nomatch z) h
  | bl y => cases (show u = Value.bool y from rx); exact PySem.W.kia_one PySem.W.kitx_bool I.kIn True.intro e (fun z => nomatch z) h
  | int i => obtain ⟨t,q⟩:=(show ∃ t,u = Value.int i t from rx); cases q; exact PySem.W.kia_one PySem.W.kitx_int I.kIn True.intro e (fun z => nomatch z) h
  | str y => obtain ⟨t,q⟩:=(show ∃ t,u = Value.str y t from rx); cases q; exact PySem.W.kia_one PySem.W.kitx_str I.kIn True.intro e (fun z => nomatch z) h
  | flt y => obtain ⟨t,q⟩:=(show ∃ t,u = Value.float y t from rx); cases q; exact PySem.W.kia_one PySem.W.kitx_float I.kIn True.intro e (fun z => nomatch z) h
  | @lst a xs ea =>
    cases (show u = Value.ref a from rx)
    obtain ⟨_,_,n,_,h1⟩:=(show ObjOk X.prog X.w H s.heap a (.lst xs) from I.hok a _ ea)
    exact PySem.W.kia_one PySem.W.kitx_list I.kIn ⟨_,h1,rfl⟩ e (fun z => nomatch z) h
  | @frz a ob xs ea =>
    cases (show u = Value.ref a from rx)
    obtain ⟨_,_,_,n,_,h1⟩:=(show ObjOk X.prog X.w H s.heap a (.frz ob (.lst xs)) from I.hok a _ ea)
    exact PySem.W.kia_one PySem.W.kitx_list I.kIn ⟨_,h1,rfl⟩ e (fun z => nomatch z) h
  | @tup a xs ea =>
    cases (show u = Value.ref a from rx)
    obtain ⟨_,_,_,p⟩:=(show ObjOk X.prog X.w H s.heap a (.tup xs) from I.hok a _ ea)
    obtain ⟨o,h1,h2,_⟩:=p
    exact PySem.W.kia_one PySem.W.kitx_tuple I.kIn ⟨o,h1,h2⟩ e (fun z => nomatch z) h
  | @dK a kvs ea =>
    cases (show u = Value.ref a from rx)
    obtain ⟨_,_,vs,_,p⟩:=(show ObjOk X.prog X.w H s.heap a (.dK kvs) from I.hok a _ ea)
    obtain ⟨o,es,ep,h1,h2,_⟩:=p
    exact PySem.W.kia_one PySem.W.kitx_dict I.kIn ⟨o,h1,h2.1⟩ e (fun z => nomatch z) h
  | @dT a kvs ea =>
    cases (show u = Value.ref a from rx)
    obtain ⟨_,_,xs,_,o,es,ep,h1,h2,_⟩:=(show ObjOk X.prog X.w H s.heap a (.dT kvs) from I.hok a _ ea)
    exact PySem.W.kia_one PySem.W.kitx_dict I.kIn ⟨o,h1,h2.1⟩ e (fun z => nomatch z) h
  | @ins a C dx fs ea cl ha hn htk hm =>
    cases (show u = Value.ref a from rx)
    obtain ⟨mA,O,_⟩:=ins_get I.hok ea
    obtain ⟨od,J,_⟩:=O.look
    exact PySem.W.kia_one (PySem.W.kitx_own (cl.get _) cl.hd ha hn htk hm) I.kIn J e (fun z => nomatch z) h
end
end L2
namespace L2
open PySem PySem.Spec PyProof.Rows
structure Room (k:Nat) (A:Around):Prop where
  hd:A.handled = none
  dp:A.depth + 3 * k + 5 < recursionLimit
  un:A.units + 16 * k + 200 < cLine
theorem Room.mono {j k:Nat} {A:Around} (r:Room k A) (h:j ≤ k):Room j A:=⟨r.hd,by have:=r.dp; omega,by have:=r.un; omega⟩
theorem Room.deeper {k:Nat} {A:Around} (r:Room (k + 1) A) (env:Env):Room k (A.deeper env) :=
  ⟨r.hd,by have:=r.dp; show A.depth + 1 + 3 * k + 5 < _; omega,by have:=r.un; show A.units + 3 + 16 * k + 200 < _; omega⟩
theorem Room.depth {k:Nat} {A:Around} (r:Room k A):A.depth < recursionLimit:=by have:=r.dp; omega
theorem Room.units {k:Nat} {A:Around} (r:Room k A):A.units + 64 < cLine:=by have:=r.un; omega
noncomputable def tNil:TA:=fun _ H Q => Q [] H
noncomputable def tCons (ta:TE) (tr:TA):TA:=fun σ H Q => ta σ H fun x H1 => tr σ H1 fun xs H2 => Q (x :: xs) H2
section
variable {X:Cx} {e:Expr} {es:List Expr} {te:TE} {t:TA} {pos:Pos}
theorem pa_nil:PA X [] tNil:=fun _ _ _ _ H Q I h => Calls.spliced_nil ⟨[],H,I,.nil,h⟩
theorem pa_cons (ha:PE X e te) (hr:PA X es t) (hs:starEach (e :: es) X.env = (false,eval e X.env) :: starEach es X.env:=by rfl):PA X (e :: es) (tCons te t):=by
  intro pos pins s σ H Q I h
  rw [hs]
  show wpAny _ _ (spliced ((false,eval e X.env) :: backTo pos (starEach es X.env))) _ _ s
  refine Calls.spliced_cons (thn (ha pins s σ H _ I h) fun u s1 ⟨x,H1,I1,r1,q1⟩ => ?_)
  exact thn (hr pos pins s1 σ H1 _ I1 q1) fun us s2 ⟨xs,H2,I2,r2,q2⟩ => ⟨x :: xs,H2,I2,.cons r1 r2,q2⟩
noncomputable def tTup (t:TA):TE:=fun σ H Q => t σ H fun xs H1 => xs.length ≤ sizeLine ∧ ∀ p,H1 p = none → Q (.ref p) (upd H1 p (.tup xs))
noncomputable def tLst (t:TA):TE:=fun σ H Q => t σ H fun xs H1 => xs.length ≤ sizeLine ∧ ∀ p,H1 p = none → Q (.ref p) (upd H1 p (.lst xs))
theorem pe_tup {x1} (h:PA X es t):PE X (.Tuple es x1 pos) (tTup t):=by
  intro pins s σ H Q I hq
  refine wpAny_Tuple_spliced (thn (h pos pins s σ H _ I hq) fun us s1 ⟨xs,H1,I1,r,z,q⟩ => ⟨by rw [← r.length]; exact z,?_⟩)
  have hf:H1 s1.heap.objs.size = none:=I1.hok.fresh (Nat.le_refl _)
  refine ⟨.ref s1.heap.objs.size,upd H1 s1.heap.objs.size (.tup xs),I1.laid (t':=s1.toks) (fun b u e => Heap.get?_push_of_some _ e) (Nat.le_refl _) ?_,rfl,q _ hf⟩
  exact ⟨z,us,r,⟨_,Heap.get?_push_size _ rfl,rfl,_,rfl⟩⟩
theorem pe_lst (h:PA X es t):PE X (.List es pos) (tLst t):=by
  intro pins s σ H Q I hq
  refine wpAny_List_spliced (thn (h pos pins s σ H _ I hq) fun us s1 ⟨xs,H1,I1,r,z,q⟩ => ⟨by rw [← r.length]; exact z,?_⟩)
  have hf:H1 s1.heap.objs.size = none:=I1.hok.fresh (Nat.le_refl _)
  refine ⟨.ref s1.heap.objs.size,upd H1 s1.heap.objs.size (.lst xs),I1.laid (t':=s1.toks) (fun b u e => Heap.get?_push_of_some _ e) (Nat.le_refl _) ?_,rfl,q _ hf⟩
  exact ⟨z,us,0,r,Heap.get?_push_size _ rfl⟩
end
noncomputable abbrev Sp:=List V → Hp → VK → XK → Prop
noncomputable abbrev CXT:=List Env → Hp → Shared → XK → Value → Shared → Prop
structure Env0 (P:Program) (w:World) (K:PySem.W.Frag) (mg:Str → Option Value) (base:Heap) (A:Around) (outer:List Env) (s:Shared) (H:Hp):Prop where
  frames:A.frames = some outer
  mod:Mod K mg base
  bs:∀ b o,base.get? b = some o → s.heap.get? b = some o ∧ H b = none
  bsz:base.objs.size ≤ s.heap.objs.size
  funs:s.heap.FunFrames base outer
  frf:∀ b ∈ frs outer,H b = none
  hok:HOk P w H s.heap
  bare:AllBare s.gens
noncomputable def CE (outer:List Env) (P:Program) (w:World) (H:Hp) (s:Shared) (Q:VK) (u:Value) (s':Shared):Prop :=
  ∃ v H',s'.os = s.os ∧ AllBare s'.gens ∧ Un (frs outer) [] H H' s.heap s'.heap ∧ HOk P w H' s'.heap ∧ RelV v u ∧ Q v H'
noncomputable def CR (CX:CXT) (outer:List Env) (P:Program) (w:World) (H:Hp) (s:Shared) (Q:VK) (E:XK) (r:Result) (s':Shared):Prop :=
  match r with
  | .ok (.ret u) => CE outer P w H s Q u s'
  | .ok _ => False
  | .error e => CX outer H s E e s'
structure FnOk (P:Program) (w:World) (K:PySem.W.Frag) (mg:Str → Option Value) (base:Heap) (CX:CXT) (k:Nat) (f:Addr) (fd:FuncData) (ps:List Str) (sp:Sp):Prop where
  len:∀ vs H Q E,sp vs H Q E → vs.length = ps.length
  run:∀ (A:Around) (outer:List Env) (s:Shared) (H:Hp) (args:Args) (us:List Value) (vs:List V) (Q:VK) (E:XK),Room k A → Env0 P w K mg base A outer s H → BindsTo s fd args (ps.zip us) → Vals vs us → sp vs H Q E →
    codeAny (model P w) A (.call (.ref f) args) (CR CX outer P w H s Q E) s
theorem FnOk.imp {P:Program} {w:World} {K:PySem.W.Frag} {mg:Str → Option Value} {base:Heap} {CX:CXT} {k:Nat} {f:Addr} {fd:FuncData} {ps:List Str} {sp sp':Sp} (F:FnOk P w K mg base CX k f fd ps sp)
    (h:∀ vs H Q E,sp' vs H Q E → sp vs H Q E):FnOk P w K mg base CX k f fd ps sp' :=
  ⟨fun vs H Q E q => F.len vs H Q E (h _ _ _ _ q),fun A outer s H args us vs Q E hr he hb hv hs => F.run A outer s H args us vs Q E hr he hb hv (h _ _ _ _ hs)⟩
section
variable {X:Cx} {pins:List (Addr × Obj)} {σ:St} {H:Hp} {s s':Shared}
theorem Inv.env0 (I:Inv X pins σ H s):Env0 X.prog X.w X.K X.mg X.base X.A X.stack s H :=
  ⟨I.ok.frames,I.ok.mod,I.bs,Nat.le_trans I.ok.bsz I.sz,I.stack,I.stkFree,I.hok,I.bare⟩
theorem Inv.after {Q:VK} {u:Value} (I:Inv X pins σ H s) (h:CE X.stack X.prog X.w H s Q u s'):EP X pins σ Q u s':=by
  obtain ⟨v,H',os,bare,un,hok,r,q⟩:=h
  obtain ⟨hh,g,d,t,os'⟩:=s'
  obtain rfl:os' = s.os:=os
  exact ⟨v,H',I.call (h':=hh) (g':=g) (d':=d) (t':=t) (ch:=[]) un hok bare (fun b z => absurd z (by simp)),r,q⟩
end
noncomputable def tCall (sp:Sp) (dvs:List V) (E:XK) (t:TA):TE:=fun σ H Q => t σ H fun vs H1 => sp (vs ++ dvs) H1 Q E
noncomputable def Binds (K:PySem.W.Frag) (fd:FuncData) (ps:List Str) (ds:List Value):Prop :=
  ∀ (s:Shared) (us:List Value),K.In s.heap → (us ++ ds).length = ps.length → BindsTo s fd ⟨us,[]⟩ (ps.zip (us ++ ds))
theorem Binds.all {K:PySem.W.Frag} {fd:FuncData} {ps:List Str} (h:∀ us:List Value,us.length = ps.length → bindArgs fd ⟨us,[]⟩ = pure (ps.zip us)):Binds K fd ps []:=fun s us _ hl => by
  rw [List.append_nil] at hl ⊢
  exact .of_eq (h us hl)
noncomputable def Passes (CX:CXT) (X:Cx) (E:XK):Prop:=∀ (pins:List (Addr × Obj)) (σ:St) (H:Hp) (s:Shared) (e:Value) (s':Shared),Inv X pins σ H s → CX X.stack H s E e s' → X.xe e s'
section
variable {X:Cx} {CX:CXT} {k:Nat} {f C:Addr} {fd:FuncData} {ps:List Str} {sp:Sp} {dvs:List V} {ds:List Value} {E:XK} {x m:Str} {p pos apos:Pos} {e o:Expr} {es:List Expr} {ta:TE} {t:TA}
theorem run_fn {pins:List (Addr × Obj)} {σ:St} {H:Hp} {s:Shared} {Q:VK} {us:List Value} {vs:List V} (F:FnOk X.prog X.w X.K X.mg X.base CX k f fd ps sp) (hr:Room k X.A) (hb:Binds X.K fd ps ds) (hd:Vals dvs ds) (hx:Passes CX X E)
    (I:Inv X pins σ H s) (r:Vals vs us) (h:sp (vs ++ dvs) H Q E):wpAny (model X.prog X.w) X.A (call (.ref f) us) (EP X pins σ Q) X.xe s:=by
  have r2:Vals (vs ++ dvs) (us ++ ds):=r.append hd
  have hl:(us ++ ds).length = ps.length:=by rw [← r2.length]; exact F.len _ _ _ _ h
  refine wpAny_call (codeAny_mono (F.run X.A X.stack s H ⟨us,[]⟩ (us ++ ds) (vs ++ dvs) Q E hr I.env0 (hb s us I.kIn hl) r2 h) fun r s' hq => ?_)
  cases r with
  | error e => exact hx pins σ H s e s' I hq
  | ok fl =>
    cases fl with
    | ret u => exact I.after hq
    | next => exact False.elim hq
    | brk => exact False.elim hq
    | cont => exact False.elim hq
theorem pe_call (F:FnOk X.prog X.w X.K X.mg X.base CX k f fd ps sp) (hr:Room k X.A) (hg:Gl X x) (hm:X.mg x = some (.ref f)) (hk:PySem.W.keepIn X.K (.ref f) = true) (hb:Binds X.K fd ps ds) (hd:Vals dvs ds) (hx:Passes CX X E)
    (ha:PA X (e :: es) t) (hdb:(x == ("__debug__":Str)) = false:=by decide) (he:starEach (e :: es) X.env = (false,eval e X.env) :: starEach es X.env:=by rfl) (hpl:(backTo pos (starEach es X.env)).any (·.1) = false:=by rfl) :
    PE X (.Call (.Name x p) (e :: es) [] pos) (tCall sp dvs E t):=by
  intro pins s σ H Q I h
  refine wpAny_Call_Name_kw (ld_glob I hg hm ?_ hdb)
  refine PySem.W.callWith_K (h₀:=X.base) I.ok.mod.kin hk (thn (ha pos pins s σ H _ I h) fun us s1 ⟨vs,H1,I1,r,q⟩ => ⟨I1.kIn,?_⟩) he hpl
  exact run_fn F hr hb hd hx I1 r q
end
noncomputable def PK (X:Cx) (kws:List Keyword) (t:TA):Prop :=
  ∀ (pos:Pos) (pins:List (Addr × Obj)) (s:Shared) (σ:St) (H:Hp) (Q:List V → Hp → Prop),Inv X pins σ H s → t σ H Q → wpAny (model X.prog X.w) X.A (evalAll ((backToKw pos (keywordEach kws X.env)).map (·.2))) (AP X pins σ Q) X.xe s
section
variable {X:Cx} {CX:CXT} {k:Nat} {f C:Addr} {fd:FuncData} {ps ks:List Str} {sp:Sp} {E:XK} {x m:Str} {p pos apos kpos:Pos} {e o:Expr} {es:List Expr} {kws:List Keyword} {te ta:TE} {t tk:TA} {nm:Option Str}
theorem pk_nil:PK X [] tNil:=fun _ _ _ _ H Q I h => wpAny_evalAll_nil ⟨[],H,I,.nil,h⟩
theorem pk_cons (ha:PE X e te) (hr:PK X kws t):PK X (⟨nm,e,kpos⟩ :: kws) (tCons te t):=by
  intro pos pins s σ H Q I h
  show wpAny _ _ (evalAll ((do let v ← eval e X.env; standAt pos; pure v) :: (backToKw pos (keywordEach kws X.env)).map (·.2))) _ _ s
  refine wpAny_evalAll_cons (wpAny_bind (thn (ha pins s σ H _ I h) fun u s1 ⟨x,H1,I1,r1,q1⟩ => wpAny_bind (wpAny_standAt (wpAny_pure ?_))))
  exact thn (hr pos pins s1 σ H1 _ I1 q1) fun us s2 ⟨xs,H2,I2,r2,q2⟩ => ⟨x :: xs,H2,I2,.cons r1 r2,q2⟩
variable {g:List Value → List Value → List Value} {gV:List V → List V → List V}
end
structure FnScope (N P:List Str) (sc:Scope):Prop where
  kind:sc.kind = .function
  co:sc.isCoroutine = false
  gen:sc.isGenerator = false
  nd:N.Nodup
  pre:N.take P.length = P
  par:∀ x ∈ P,sc.names.lookup x = some .local ∨ sc.names.lookup x = some .cell
  nofree:∀ y ∈ sc.names,y.2 ≠ .free
theorem bindL_out {kindOf:Str → Option NameKind} {x:Str}:∀ {binds:List (Str × Value)} {m:Str → Option Value},(∀ v,(x,v) ∉ binds) → bindL kindOf binds m x = m x
  | [],_,_ => rfl
  | (n,v) :: r,m,h => by
    unfold bindL
    rw [bindL_out fun w hw => h w (List.mem_cons_of_mem _ hw)]
    split
    · have:x ≠ n:=by rintro rfl; exact h v List.mem_cons_self
      simp [this]
    · rfl
theorem bindC_out {kindOf:Str → Option NameKind} {x:Str}:∀ {binds:List (Str × Value)} {m:Str → Option Value},(∀ v,(x,v) ∉ binds) → bindC kindOf binds m x = m x
  | [],_,_ => rfl
  | (n,v) :: r,m,h => by
    unfold bindC
    rw [bindC_out fun w hw => h w (List.mem_cons_of_mem _ hw)]
    split
    · rfl
    · have:x ≠ n:=by rintro rfl; exact h v List.mem_cons_self
      simp [this]
theorem bindL_get {kindOf:Str → Option NameKind} {x:Str} {v:Value}:∀ {P:List Str} {vs:List Value} {i:Nat} {m:Str → Option Value},P.Nodup → P[i]? = some x → vs[i]? = some v → kindOf x = some .local →
    bindL kindOf (P.zip vs) m x = some v
  | [],_,_,_,_,h,_,_ => by simp at h
  | _ :: _,[],_,_,_,_,h,_ => by simp at h
  | p :: P,w :: vs,0,m,nd,h1,h2,hk => by
    simp at h1 h2; subst h1; subst h2
    show bindL kindOf ((p,w) :: P.zip vs) m p = _
    unfold bindL
    rw [bindL_out fun v hv => (List.nodup_cons.mp nd).1 (List.of_mem_zip hv).1,if_pos hk]
    simp
  | p :: P,w :: vs,i + 1,m,nd,h1,h2,hk => by
    show bindL kindOf ((p,w) :: P.zip vs) m x = _
    unfold bindL
    exact bindL_get (i:=i) (List.nodup_cons.mp nd).2 (by simpa using h1) (by simpa using h2) hk
theorem bindC_get {kindOf:Str → Option NameKind} {x:Str} {v:Value}:∀ {P:List Str} {vs:List Value} {i:Nat} {m:Str → Option Value},P.Nodup → P[i]? = some x → vs[i]? = some v → kindOf x ≠ some .local →
    bindC kindOf (P.zip vs) m x = some v
  | [],_,_,_,_,h,_,_ => by simp at h
  | _ :: _,[],_,_,_,_,h,_ => by simp at h
  | p :: P,w :: vs,0,m,nd,h1,h2,hk => by
    simp at h1 h2; subst h1; subst h2
    show bindC kindOf ((p,w) :: P.zip vs) m p = _
    unfold bindC
    rw [bindC_out fun v hv => (List.nodup_cons.mp nd).1 (List.of_mem_zip hv).1,if_neg hk]
    simp
  | p :: P,w :: vs,i + 1,m,nd,h1,h2,hk => by
    show bindC kindOf ((p,w) :: P.zip vs) m x = _
    unfold bindC
    exact bindC_get (i:=i) (List.nodup_cons.mp nd).2 (by simpa using h1) (by simpa using h2) hk
noncomputable def start (N:List Str) (vs:List V):St:=vs.map some ++ List.replicate (N.length - vs.length) none
noncomputable def cxOf (CX:CXT) (P:Program) (w:World) (K:PySem.W.Frag) (mg:Str → Option Value) (base:Heap) (N:List Str) (qual:Str) (scope:Scope) (f:Addr) (cd:Value) (A:Around) (outer:List Env) (s:Shared) (H:Hp) (E:XK):Cx where
  prog:=P
  w:=w
  K:=K
  mg:=mg
  base:=base
  A:=A.deeper (envOfC qual scope s.heap.objs.size f cd)
  N:=N
  s₀:=s
  H₀:=H
  env:=envOfC qual scope s.heap.objs.size f cd
  outer:=outer
  stack:=envOfC qual scope s.heap.objs.size f cd :: outer
  ex:=[]
  calm:=true
  fn:=fun _ => true
  pn:=[]
  xe:=fun e s' => wpAny (model P w) (A.deeper (envOfC qual scope s.heap.objs.size f cd)) (leaving (envOfC qual scope s.heap.objs.size f cd) e) (fun _ s'' => CX outer H s E e s'') (fun e' s'' => CX outer H s E e' s'') s'
theorem cell_has {sc:Scope} {n:Nat} {x:Str} (h:sc.names.lookup x = some .cell):∃ c,(cellsFrom n sc.names []).lookup x = some c:=by
  have q:=PySem.W.cellsFrom_some sc.names n [] (.inl h)
  exact Option.isSome_iff_exists.mp q
theorem inv_start {CX:CXT} {P:Program} {w:World} {K:PySem.W.Frag} {mg:Str → Option Value} {base:Heap} {N ps:List Str} {qual:Str} {scope:Scope} {f:Addr} {cd:Value} {A:Around} {outer:List Env} {s s1:Shared} {H:Hp} {E:XK} {us:List Value} {vs:List V}
    (S:FnScope N ps scope) (hd:A.handled = none) (e0:Env0 P w K mg base A outer s H) (hl:vs.length = ps.length) (r:Vals vs us)
    (x:InCallC s s.heap.objs.size (bindL (envOfC qual scope s.heap.objs.size f cd).kindOf (ps.zip us) fun _ => none) (cellsFrom (s.heap.objs.size + 1) scope.names []) (bindC (envOfC qual scope s.heap.objs.size f cd).kindOf (ps.zip us) fun _ => none) s1) :
    Inv (cxOf CX P w K mg base N qual scope f cd A outer s H E) [] (start N vs) H s1:=by
  have hpl:ps.length ≤ N.length:=by have:=congrArg List.length S.pre; rw [List.length_take] at this; omega
  obtain ⟨h1,tk,rfl,hk⟩:=x.done
  have noA:∀ b:Addr,b ∉ (cxOf CX P w K mg base N qual scope f cd A outer s H E).ex:=fun b z => absurd (show b ∈ ([]:List Addr) from z) (by simp)
  refine ⟨⟨e0.mod,S.kind,rfl,rfl,Nat.le_refl _,fun y z c h1 h2 => ?_,fun y hy => ?_,fun y c _ h => ?_,fun _ => hd,Around.frames_deeper e0.frames,.inr ⟨rfl,rfl⟩,fun b z => absurd z (noA b),e0.bs,e0.bsz,fun b _ _ => noA b,fun b z => absurd z (noA b),e0.funs,e0.frf⟩,
    rfl,e0.bare,Un.kept hk,⟨_,x.toInCall.ns,fun i y v h1 h2 h3 => ?_⟩,fun y c h => ⟨_,x.cell y c h⟩,e0.hok.fresh (Nat.le_refl _),fun y c h => ?_,fun p hp => absurd (show p ∈ ([]:List (Addr × Obj)) from hp) (by simp),e0.hok.kept hk,?_⟩
  · exact name_of_addr x.apart (PySem.mem_of_lookup h1) (PySem.mem_of_lookup h2)
  · have hy:scope.names.lookup y = some .cell ∨ scope.names.lookup y = some .free:=hy
    rcases hy with hy | hy
    · exact cell_has hy
    · exact absurd rfl (S.nofree _ (PySem.mem_of_lookup hy))
  · exact Nat.le_of_lt (x.above y c (PySem.mem_of_lookup h))
  · have hi:i < vs.length:=by
      unfold start at h2
      by_cases hi:i < vs.length
      · exact hi
      · rw [List.getElem?_append_right (by simpa using hi)] at h2
        rw [List.getElem?_replicate] at h2
        split at h2 <;> cases h2
    have ha:vs[i]? = some v:=by
      unfold start at h2
      rw [List.getElem?_append_left (by simpa using hi),List.getElem?_map] at h2
      cases e:vs[i]? with
      | none => rw [e] at h2; cases h2
      | some a => rw [e] at h2; cases h2; rfl
    obtain ⟨u,hu,rv⟩:=r.get ha
    have hp:ps[i]? = some y:=by
      rw [← S.pre,List.getElem?_take_of_lt (by omega)]; exact h1
    have ndP:ps.Nodup:=by rw [← S.pre]; exact S.nd.sublist (List.take_sublist _ _)
    refine ⟨u,rv,?_⟩
    rcases S.par y (List.mem_of_getElem? hp) with k | k
    · exact .inl ⟨k,bindL_get ndP hp hu k⟩
    · obtain ⟨c,e⟩:=cell_has (n:=s.heap.objs.size + 1) k
      refine .inr ⟨.inl k,c,e,?_⟩
      have q:=x.cell y c e
      rw [bindC_get ndP hp hu (by show scope.names.lookup y ≠ _; rw [k]; decide)] at q
      exact q
  · exact e0.hok.fresh (Nat.le_of_lt (x.above y c (PySem.mem_of_lookup h)))
  · unfold start
    show _ = N.length
    rw [List.length_append,List.length_map,List.length_replicate]
    omega
theorem fn_of {CX:CXT} {P:Program} {w:World} {K:PySem.W.Frag} {mg:Str → Option Value} {base:Heap} {k:Nat} {f:Addr} {name qual:Str} {params:Arguments} {body:List Stmt} {scope:Scope} {dV kV doc pm cdv ct oc:Value} {an od:Option Addr}
    {osl:Array (Option Value)} {N ps:List Str} {sp:Sp} (lk:K.lookup f = some ⟨oc,od,.func (PySem.W.fnOf name qual params body scope dV kV doc pm an cdv ct),osl⟩) (hcd:PySem.W.codeIn K cdv qual = true) (S:FnScope N ps scope)
    (len:∀ vs H Q E,sp vs H Q E → vs.length = ps.length)
    (hbody:∀ (A:Around) (outer:List Env) (s:Shared) (H:Hp) (vs:List V) (Q:VK) (E:XK),Room k (A.deeper (envOfC qual scope s.heap.objs.size f cdv)) → sp vs H Q E →
      ∃ t,PSs (cxOf CX P w K mg base N qual scope f cdv A outer s H E) body t ∧ t { nx:=fun _ H' => Q .non H',rt:=Q } (start N vs) H) :
    FnOk P w K mg base CX (k + 1) f (PySem.W.fnOf name qual params body scope dV kV doc pm an cdv ct) ps sp:=by
  refine ⟨len,fun A outer s H args us vs Q E hr e0 hb r hsp => ?_⟩
  have hl:=len _ _ _ _ hsp
  have KX:K.In s.heap:=e0.mod.kin.keeps fun b o e => (e0.bs b o e).1
  have lim:s.heap.NoLimit:=e0.mod.nolimit.keeps fun b o e => (e0.bs b o e).1
  have hkind:∀ y ∈ ps.zip us,scope.names.lookup y.1 = some .local ∨ (scope.names.lookup y.1 = some .cell ∧ ((cellsFrom (s.heap.objs.size + 1) scope.names []).lookup y.1).isSome = true):=fun ⟨n,v⟩ hy => by
    rcases S.par n (List.of_mem_zip hy).1 with q | q
    · exact .inl q
    · exact .inr ⟨q,PySem.W.cellsFrom_some _ _ _ (.inl q)⟩
  refine codeAny_call_function hr.depth (KX _ _ lk) rfl S.co S.gen rfl (PySem.W.codeRec_of KX hcd) (hb _ _ _ _ ?_)
  refine wpAny_newFunctionEnv_cells S.kind hkind fun env he s1 x => ?_
  subst he
  refine ⟨lim.keeps x.toInCall.keep,codeAny_func ?_⟩
  obtain ⟨t,ht,hq⟩:=hbody A outer s H vs Q E (hr.deeper _) hsp
  have I:Inv (cxOf CX P w K mg base N qual scope f cdv A outer s H E) [] (start N vs) H s1:=inv_start S hr.hd e0 hl r x
  refine wpAny_mono (ht [] s1 (start N vs) H _ I hq) (fun fl s' hs => ?_) fun e s' hs => hs
  have fin:∀ {σ':St} {H':Hp} {v:V} {u:Value},Inv (cxOf CX P w K mg base N qual scope f cdv A outer s H E) [] σ' H' s' → RelV v u → Q v H' → CE outer P w H s Q u s' :=
    fun {σ' H' v u} J rv q => ⟨v,H',J.os,J.bare,J.base,J.hok,rv,q⟩
  cases fl with
  | ret u =>
    obtain ⟨v,σ',H',J,rv,q⟩:=hs
    exact fin J rv q
  | next =>
    obtain ⟨σ',H',J,q⟩:=hs
    exact fin (v:=V.non) (u:=Value.none) J rfl q
  | brk =>
    obtain ⟨_,_,_,q⟩:=hs
    exact False.elim q
  | cont =>
    obtain ⟨_,_,_,q⟩:=hs
    exact False.elim q
end L2
namespace L2
open PySem PySem.Spec PyProof.Rows
section
variable {X:Cx} {x:Str} {p pos:Pos} {e:Expr} {es:List Expr} {t:TA} {id T:String} {r:List V → Hp → VK → Prop}
noncomputable def tCB (r:List V → Hp → VK → Prop) (t:TA):TE:=fun σ H Q => t σ H fun vs H1 => r vs H1 Q
theorem pe_callB (hc:CallR X (.builtin id) r) (hg:Gl X x) (hm:X.mg x = none) (hv:bootBuiltins x = some (.builtin id)) (ha:PA X (e :: es) t) (hn:x ≠ "__name__":=by decide) (hdb:(x == ("__debug__":Str)) = false:=by decide)
    (he:starEach (e :: es) X.env = (false,eval e X.env) :: starEach es X.env:=by rfl) (hpl:(backTo pos (starEach es X.env)).any (·.1) = false:=by rfl):PE X (.Call (.Name x p) (e :: es) [] pos) (tCB r t):=by
  intro pins s σ H Q I h
  refine wpAny_Call_Name_kw (ld_blt I hg hm hv ?_ hn hdb)
  exact PyProof.Rows.callWith_builtin1 (thn (ha pos pins s σ H _ I h) fun us s1 ⟨vs,H1,I1,r1,q1⟩ => hc pins s1 σ H1 vs us Q I1 r1 q1) he hpl
theorem pe_callTy (hc:CallR X (.type T) r) (hg:Gl X x) (hm:X.mg x = none) (hv:bootBuiltins x = some (.type T)) (ha:PA X (e :: es) t) (hn:x ≠ "__name__":=by decide) (hdb:(x == ("__debug__":Str)) = false:=by decide)
    (he:starEach (e :: es) X.env = (false,eval e X.env) :: starEach es X.env:=by rfl) (hpl:(backTo pos (starEach es X.env)).any (·.1) = false:=by rfl):PE X (.Call (.Name x p) (e :: es) [] pos) (tCB r t):=by
  intro pins s σ H Q I h
  refine wpAny_Call_Name_kw (ld_blt I hg hm hv ?_ hn hdb)
  exact PyProof.Rows.callWith_type1 (thn (ha pos pins s σ H _ I h) fun us s1 ⟨vs,H1,I1,r1,q1⟩ => hc pins s1 σ H1 vs us Q I1 r1 q1) he hpl
end
end L2
namespace HT
open PySem PyProof.Rows
noncomputable def lexLt:List Int → List Int → Bool
  | [],[] => false
  | [],_ :: _ => true
  | _ :: _,[] => false
  | x :: xs,y :: ys => if x = y then lexLt xs ys else decide (x < y)
section
open PySem.SeqAt
open PySem.AutoSeq1 (wpAny_loadPart')
open PySem.MeetsSeq PySem.MeetsSeq2 PySem.MeetsSeq3
end
section
variable {prog:Program} {w:World} {A:Around} {E:Value → Shared → Prop} {s:Shared}
theorem cat_tup {t b:Addr} {vs ws:List Value} {Q:Value → Shared → Prop} (ht:IsTup s.heap t vs.toArray) (hb:IsTup s.heap b ws.toArray) (hv:vs ≠ [])
    (h1:ws = [] → Q (.ref t) s) (h2:ws ≠ [] → Q (.ref s.heap.objs.size) { s with heap:=s.heap.push { cls:=.type "tuple",data:=.seq (vs ++ ws).toArray } })
    (hsz:vs.length + ws.length ≤ sizeLine):wpAny (model prog w) A (binaryOp .Add (.ref t) (.ref b)) Q E s:=by
  obtain ⟨⟨cls,dd,data,sl⟩,ho,hc,n,hd⟩:=id ht
  obtain ⟨⟨cls2,dd2,data2,sl2⟩,ho2,hc2,n2,hd2⟩:=id hb
  simp only at hc hd hc2 hd2
  subst hc hd hc2 hd2
  have e:vs.toArray ++ ws.toArray = (vs ++ ws).toArray:=by simp
  by_cases hw:ws = []
  · exact concat_meets ⟨_,ho,rfl⟩ ⟨_,ho2,rfl⟩ noFill_tuple_add seq_tuple_add PySem.F.slot_tuple_add PySem.F.entry_tuple_add (PySem.F.args_tuple_add_2 _ _)
      (tuple_addW1 t b vs.toArray ws.toArray n n2 dd dd2 sl sl2 (by simpa using hv) (by simp [hw])) ⟨ho,ho2,h1 hw⟩
  · refine concat_meets ⟨_,ho,rfl⟩ ⟨_,ho2,rfl⟩ noFill_tuple_add seq_tuple_add PySem.F.slot_tuple_add PySem.F.entry_tuple_add (PySem.F.args_tuple_add_2 _ _)
      (tuple_addW2 t b vs.toArray ws.toArray n n2 dd dd2 sl sl2 (by simpa using hv) (by simpa using hw) (by rw [List.size_toArray,List.size_toArray]; exact hsz)) ⟨ho,ho2,?_⟩
    rw [e]
    exact h2 hw
noncomputable def sIx (n d:Nat):Option Int → Nat
  | none => d
  | some v => if v < 0 then (v + (n:Int)).toNat else min v.toNat n
theorem sIx_none (n d:Nat):sIx n d none = d:=rfl
theorem sIx_nat (n d k:Nat):sIx n d (some (k:Int)) = min k n:=by
  show (if (k:Int) < 0 then ((k:Int) + (n:Int)).toNat else min (k:Int).toNat n) = min k n
  rw [if_neg (by omega),Int.toNat_natCast]
theorem sIx_le (n d:Nat) (hd:d ≤ n) (o:Option Int):sIx n d o ≤ n:=by
  cases o with
  | none => exact hd
  | some v =>
    show (if v < 0 then (v + (n:Int)).toNat else min v.toNat n) ≤ n
    by_cases hv:v < 0
    · rw [if_pos hv]; omega
    · rw [if_neg hv]; exact Nat.min_le_right _ _
theorem clip_eq (v:Int) (n d:Nat):(if v < 0 then max (v + (n:Int)) 0 else min v (n:Int)) = ((sIx n d (some v):Nat):Int):=by
  show (if v < 0 then max (v + (n:Int)) 0 else min v (n:Int)) = (((if v < 0 then (v + (n:Int)).toNat else min v.toNat n):Nat):Int)
  by_cases hv:v < 0
  · simp only [if_pos hv]; omega
  · simp only [if_neg hv]; omega
theorem adjust_gen (lo hi:Option Int) (n:Nat):Builtin.Slice.sliceAdjust lo hi 1 (n:Int) = (((sIx n 0 lo:Nat):Int),((sIx n n hi:Nat):Int)):=by
  have h1:¬ ((1:Int) < 0):=by omega
  unfold Builtin.Slice.sliceAdjust
  simp only [h1,if_false]
  refine Prod.ext ?_ ?_
  · cases lo with
    | none => rfl
    | some v => exact clip_eq v n 0
  · cases hi with
    | none => rfl
    | some v => exact clip_eq v n n
theorem places_gen (i j:Nat):Builtin.Slice.slicePlaces (i:Int) (j:Int) 1 = j - i:=by
  unfold Builtin.Slice.slicePlaces
  have h1:(1:Int) > 0:=by omega
  simp only [h1,if_true,Int.ediv_one]
  split <;> omega
theorem slicePart_ {v:Value} {o:Option Int} {Q:Option Int → Shared → Prop} (p:IsPart v o) (h:Q o s):wpAny (model prog w) A (Builtin.Slice.slicePartIndex v) Q E s:=by
  cases p with
  | none => exact slicePart_none h
  | int i t => exact slicePart_int h
theorem sliceApplied_gen {sl:Addr} {vl vu:Value} {lo hi:Option Int} {n:Nat} {Q:Int × Int × Nat → Shared → Prop} (hs:s.heap.IsSliceOf sl vl vu .none) (pl:IsPart vl lo) (pu:IsPart vu hi)
    (h:Q (((sIx n 0 lo:Nat):Int),1,sIx n n hi - sIx n 0 lo) s):wpAny (model prog w) A (Builtin.Slice.sliceApplied (.ref sl) (pure (n:Int))) Q E s:=by
  obtain ⟨os,hos,hcs,hds⟩:=id hs
  unfold Builtin.Slice.sliceApplied Builtin.Slice.sliceFields
  refine wpAny_bind (wpAny_bind (wpAny_field hos hds (x:=vl) rfl (wpAny_bind (wpAny_field hos hds (x:=vu) rfl (wpAny_bind (wpAny_field hos hds (x:=.none) rfl (wpAny_pure ?_)))))))
  refine wpAny_bind (slicePart_none ?_)
  show wpAny _ _ (if ((1:Int) == 0) = true then _ else _) _ _ s
  rw [if_neg (by decide)]
  refine wpAny_bind (slicePart_ pl (wpAny_bind (slicePart_ pu (wpAny_bind (wpAny_pure ?_)))))
  show wpAny _ _ (match Builtin.Slice.sliceAdjust lo hi 1 (n:Int) with | (lo,hi) => pure (lo,(1:Int),Builtin.Slice.slicePlaces lo hi 1)) _ _ s
  rw [adjust_gen lo hi n]
  show wpAny _ _ (pure (((sIx n 0 lo:Nat):Int),(1:Int),Builtin.Slice.slicePlaces ((sIx n 0 lo:Nat):Int) ((sIx n n hi:Nat):Int) 1)) _ _ s
  rw [places_gen]
  exact wpAny_pure h
theorem pick_gen (xs:Array Value) (i k:Nat):((List.range k).filterMap fun (m:Nat) => xs[((i:Int) + (m:Int) * 1).toNat]?).toArray = ((xs.toList.drop i).take k).toArray:=by
  have e:(fun (m:Nat) => xs[((i:Int) + (m:Int) * 1).toNat]?) = fun m => xs[i + m]?:=by
    funext m
    have:((i:Int) + (m:Int) * 1).toNat = i + m:=by omega
    rw [this]
  rw [e]
  have:=pick_run xs i k
  rw [List.filterMap_map] at this
  have e2:((fun x => xs[x]?) ∘ fun x => i + x) = fun m => xs[i + m]?:=rfl
  rw [e2] at this
  rw [this]
theorem getItem_tuple_cut {t sl:Addr} {items:Array Value} {vl vu:Value} {lo hi:Option Int} {Q:Value → Shared → Prop} (ht:IsTup s.heap t items) (hs:s.heap.IsSliceOf sl vl vu .none) (pl:IsPart vl lo) (pu:IsPart vu hi)
    (hw:¬ (sIx items.size 0 lo = 0 ∧ sIx items.size items.size hi = items.size))
    (h:Q (.ref s.heap.objs.size) { s with heap:=s.heap.push { cls:=.type "tuple",data:=.seq ((items.toList.drop (sIx items.size 0 lo)).take (sIx items.size items.size hi - sIx items.size 0 lo)).toArray } })
    (hsz:items.size ≤ sizeLine):wpAny (model prog w) A (getItem (.ref t) (.ref sl)) Q E s:=by
  have htake:sizeOk (.seq ((items.toList.drop (sIx items.size 0 lo)).take (sIx items.size items.size hi - sIx items.size 0 lo)).toArray):=by
    show ((items.toList.drop (sIx items.size 0 lo)).take (sIx items.size items.size hi - sIx items.size 0 lo)).toArray.size ≤ sizeLine
    rw [List.size_toArray,List.length_take,List.length_drop,Array.length_toList]
    omega
  have hj:sIx items.size items.size hi ≤ items.size:=sIx_le _ _ (Nat.le_refl _) hi
  obtain ⟨os,hos,hcs,hds⟩:=id hs
  have hTs:s.TypeIs (.ref sl) "slice":=⟨os,hos,hcs⟩
  unfold getItem
  try with_reducible refine wpAny_holding ?_
  first | refine wpAny_bind (wpAny_pure ?_) | skip
  refine wpAny_bind (wpAny_sequenceKey ht.typeIs (by decide) ?_)
  refine wpAny_bind (wpAny_callSpecial?_slot (name:=Str.ofString "__getitem__") ht.typeIs PyProof.Rows.slot_tuple_getitem
    (wpAny_call_entry PyProof.Rows.slot_tuple_getitem ht.typeIs entry_tuple_getitem ?_ (args_tuple_getitem _ _)))
  show wpAny _ _ (Builtin.Tuple.tupleItemsOf (.ref t) >>= _) _ _ s
  refine wpAny_bind (tupleItemsOf_ ht ?_)
  refine wpAny_bind (wpAny_typeOf hTs ?_)
  rw [if_pos (by decide)]
  refine wpAny_bind (sliceApplied_gen hs pl pu ?_)
  have hno:¬ ((((sIx items.size 0 lo:Nat):Int) == 0 && (1:Int) == 1 && (sIx items.size items.size hi - sIx items.size 0 lo) == items.size) = true):=by
    intro q
    rw [Bool.and_eq_true,Bool.and_eq_true] at q
    have q1:((sIx items.size 0 lo:Nat):Int) = 0:=eq_of_beq q.1.1
    have q2:sIx items.size items.size hi - sIx items.size 0 lo = items.size:=eq_of_beq q.2
    exact hw ⟨by omega,by omega⟩
  show wpAny _ _ (if (((sIx items.size 0 lo:Nat):Int) == 0 && (1:Int) == 1 && (sIx items.size items.size hi - sIx items.size 0 lo) == items.size) = true then _ else _) _ _ s
  rw [if_neg hno,pick_gen]
  first
    | exact wpAny_bind (m:=Builtin.Tuple.tupleExact _) (wpAny_newObj_type (wpAny_pure ⟨_,rfl,wpAny_pure h⟩) htake)
    | exact wpAny_bind (m:=Builtin.Tuple.tupleExact _) (wpAny_newObj_type (wpAny_bind (wpAny_pure (wpAny_pure ⟨_,rfl,wpAny_pure h⟩))) htake)
    | exact wpAny_bind (wpAny_bind (m:=Builtin.Tuple.tupleExact _) (wpAny_newObj_type (wpAny_pure (wpAny_pure ⟨_,rfl,wpAny_pure h⟩)) htake))
    | exact wpAny_bind (wpAny_bind (m:=Builtin.Tuple.tupleExact _) (wpAny_newObj_type (wpAny_pure ⟨_,rfl,wpAny_pure h⟩) htake))
end
end HT
namespace L2
open PySem PySem.Spec PyProof.Rows
noncomputable abbrev TO:=St → Hp → (Option Int → Hp → Prop) → Prop
noncomputable def PO (X:Cx) (e:Option Expr) (t:TO):Prop :=
  ∀ (pins:List (Addr × Obj)) (s:Shared) (σ:St) (H:Hp) (Q:Option Int → Hp → Prop),Inv X pins σ H s → t σ H Q →
    wpAny (model X.prog X.w) X.A (evalPart e X.env) (fun u s' => ∃ o H',Inv X pins σ H' s' ∧ IsPart u o ∧ Q o H') X.xe s
noncomputable def tNoPart:TO:=fun _ H Q => Q none H
noncomputable def tPart (t:TE):TO:=fun σ H Q => t σ H fun x H1 => ∃ i,x = .int i ∧ Q (some i) H1
section
variable {X:Cx} {e:Expr} {te:TE} {lo hi:Option Expr} {tl th:TO} {pos p2:Pos}
theorem po_none:PO X none tNoPart:=by
  intro pins s σ H Q I h
  rw [evalPart_none]
  exact wpAny_pure ⟨none,H,I,.none,h⟩
theorem po_some (h:PE X e te):PO X (some e) (tPart te):=by
  intro pins s σ H Q I hw
  rw [evalPart_some]
  refine thn (h pins s σ H _ I hw) fun u s1 ⟨x,H1,I1,r1,q1⟩ => ?_
  obtain ⟨i,rfl,q⟩:=q1
  obtain ⟨t,rfl⟩:=r1
  exact ⟨some i,H1,I1,.int i t,q⟩
noncomputable def SlR (X:Cx) (r:V → Option Int → Option Int → Hp → VK → Prop):Prop :=
  ∀ (pins:List (Addr × Obj)) (s:Shared) (σ:St) (H:Hp) (x:V) (v vl vu:Value) (lo hi:Option Int) (sl:Addr) (Q:VK),Inv X pins σ H s → RelV x v → s.heap.IsSliceOf sl vl vu .none → IsPart vl lo → IsPart vu hi → r x lo hi H Q →
    ∃ T id,typeLookup (.type T) "__getitem__" = pure (some (.builtin id)) ∧ s.TypeIs v T ∧ wpAny (model X.prog X.w) X.A (getItem v (.ref sl)) (EP X pins σ Q) X.xe s
theorem SlR.or {r r':V → Option Int → Option Int → Hp → VK → Prop} (h:SlR X r) (h':SlR X r'):SlR X (fun x lo hi H Q => r x lo hi H Q ∨ r' x lo hi H Q):=by
  intro pins s σ H x v vl vu lo hi sl Q I rx hs pl pu q
  rcases q with q | q
  · exact h pins s σ H x v vl vu lo hi sl Q I rx hs pl pu q
  · exact h' pins s σ H x v vl vu lo hi sl Q I rx hs pl pu q
noncomputable def tSl (r:V → Option Int → Option Int → Hp → VK → Prop) (te:TE) (tl th:TO):TE:=fun σ H Q => te σ H fun x H1 => tl σ H1 fun l H2 => th σ H2 fun u H3 => r x l u H3 Q
theorem pe_slice {r:V → Option Int → Option Int → Hp → VK → Prop} (hr:SlR X r) (he:PE X e te) (hl:PO X lo tl) (hu:PO X hi th):PE X (.Subscript e (.Slice lo hi none p2) pos) (tSl r te tl th):=by
  intro pins s σ H Q I h
  refine Subscript_ (thn (he pins s σ H _ I h) fun v s1 ⟨x,H1,I1,r1,q1⟩ => ?_)
  refine wpAny_Slice (thn (hl pins s1 σ H1 _ I1 q1) fun vl s2 ⟨l,H2,I2,pl,q2⟩ => thn (hu pins s2 σ H2 _ I2 q2) fun vu s3 ⟨u,H3,I3,pu,q3⟩ => ?_)
  rw [evalPart_none]
  refine wpAny_pure ?_
  have I4:Inv X pins σ H3 { s3 with heap:=s3.heap.push { cls:=.type "slice",data:=.fields #[vl,vu,.none] } }:=I3.kept (t':=s3.toks) fun b ob q => Heap.get?_push_of_some _ q
  obtain ⟨T,id,hT,ht,hg⟩:=hr pins { s3 with heap:=s3.heap.push { cls:=.type "slice",data:=.fields #[vl,vu,.none] } } σ H3 x v vl vu l u s3.heap.objs.size Q I4 r1 (Heap.IsSliceOf.new ..) pl pu q3
  show wpAny (model X.prog X.w) X.A (subscriptTail e (.Slice lo hi none p2) v (.ref s3.heap.objs.size)) (EP X pins σ Q) X.xe { s3 with heap:=s3.heap.push { cls:=.type "slice",data:=.fields #[vl,vu,.none] } }
  exact tail_any (ops:=[.ref s3.heap.objs.size,v]) ht hT hg (by with_unfolding_all rfl)
noncomputable def cutV (xs:List V) (lo hi:Option Int):List V:=(xs.drop (HT.sIx xs.length 0 lo)).take (HT.sIx xs.length xs.length hi - HT.sIx xs.length 0 lo)
theorem cutV_length (xs:List V) (lo hi:Option Int):(cutV xs lo hi).length ≤ xs.length:=by
  unfold cutV
  rw [List.length_take,List.length_drop]
  omega
noncomputable def rSlT (K:PySem.W.Frag):V → Option Int → Option Int → Hp → VK → Prop:=fun x lo hi H Q => ∃ a xs,x = .ref a ∧ SqT K H a xs ∧
  ¬ (HT.sIx xs.length 0 lo = 0 ∧ HT.sIx xs.length xs.length hi = xs.length) ∧ ∀ p,H p = none → Q (.ref p) (upd H p (.tup (cutV xs lo hi)))
theorem sl_tup:SlR X (rSlT X.K):=by
  intro pins s σ H x v vl vu lo hi sl Q I rx hs pl pu h
  obtain ⟨a,xs,rfl,hx,hw,q⟩:=h
  cases rx
  obtain ⟨its,r,ht,hz⟩:=I.tuple hx
  have hlen:its.toArray.size = xs.length:=by rw [List.size_toArray]; exact r.length.symm
  refine ⟨"tuple",_,PyProof.Rows.slot_tuple_getitem.lookup,ht.typeIs,?_⟩
  refine HT.getItem_tuple_cut ht hs pl pu (by rw [hlen]; exact hw) ?_ (by rw [hlen]; exact hz)
  rw [hlen]
  refine ⟨.ref s.heap.objs.size,_,I.laid (t':=s.toks) (o:=.tup (cutV xs lo hi)) (fun b ob q => Heap.get?_push_of_some _ q) (Nat.le_refl _) ?_,rfl,q _ (I.hok.fresh (Nat.le_refl _))⟩
  exact ⟨Nat.le_trans (cutV_length xs lo hi) hz,_,(r.drop (HT.sIx xs.length 0 lo)).take (HT.sIx xs.length xs.length hi - HT.sIx xs.length 0 lo),IsTup.new _ _⟩
noncomputable def rCatT (K:PySem.W.Frag):R2:=fun x y H Q => ∃ a b xs ys,x = .ref a ∧ y = .ref b ∧ SqT K H a xs ∧ SqT K H b ys ∧ xs ≠ [] ∧ xs.length + ys.length ≤ sizeLine ∧
  (ys = [] → Q (.ref a) H) ∧ (ys ≠ [] → ∀ p,H p = none → Q (.ref p) (upd H p (.tup (xs ++ ys))))
theorem Vals.nil_iff {xs:List V} {us:List Value} (r:Vals xs us):us = [] ↔ xs = []:=by
  cases r with
  | nil => simp
  | cons _ _ => simp
theorem op_catT:OpR X (binaryOp .Add) (rCatT X.K):=by
  intro pins s σ H x y v u Q I rx ry h
  obtain ⟨a,b,xs,ys,rfl,rfl,ha,hb,hx,hz,q1,q2⟩:=h
  cases rx
  cases ry
  obtain ⟨its,r1,p1,_⟩:=I.tuple ha
  obtain ⟨its2,r2,p2,_⟩:=I.tuple hb
  refine HT.cat_tup p1 p2 (fun z => hx (r1.nil_iff.mp z)) (fun z => ⟨.ref a,H,I,rfl,q1 (r2.nil_iff.mp z)⟩) (fun z => ?_) (by rw [← r1.length,← r2.length]; exact hz)
  refine ⟨.ref s.heap.objs.size,_,I.laid (t':=s.toks) (o:=.tup (xs ++ ys)) (fun b ob q => Heap.get?_push_of_some _ q) (Nat.le_refl _) ?_,rfl,q2 (fun w => z (r2.nil_iff.mpr w)) _ (I.hok.fresh (Nat.le_refl _))⟩
  exact ⟨by rw [List.length_append]; exact hz,_,r1.append r2,IsTup.new _ _⟩
end
end L2
namespace L2
open PySem PySem.Spec PyProof.Rows
noncomputable def ixN (n:Nat) (i:Int):Option Nat:=if 0 ≤ i then (if i < n then some i.toNat else none) else if -(n:Int) ≤ i then some (i + n).toNat else none
noncomputable def atI {α:Type} (xs:List α) (i:Int):Option α:=(ixN xs.length i).bind fun j => xs[j]?
theorem ixN_seq {n:Nat} {i:Int} {j:Nat} (h:ixN n i = some j):seqIndex? i n = some j ∧ j < n ∧ -(n:Int) ≤ i ∧ i < n:=by
  unfold ixN at h
  by_cases h0:0 ≤ i
  · rw [if_pos h0] at h
    by_cases h1:i < n
    · rw [if_pos h1] at h
      have e:i.toNat = j:=Option.some.inj h
      exact ⟨by rw [seqIndex_of h0 h1,e],by omega,by omega,h1⟩
    · rw [if_neg h1] at h; cases h
  · rw [if_neg h0] at h
    by_cases h1:-(n:Int) ≤ i
    · rw [if_pos h1] at h
      have e:(i + n).toNat = j:=Option.some.inj h
      exact ⟨by rw [seqIndex_neg (by omega) h1,e],by omega,h1,by omega⟩
    · rw [if_neg h1] at h; cases h
theorem atI_get {α:Type} {xs:List α} {i:Int} {v:α} (h:atI xs i = some v):∃ j,seqIndex? i xs.length = some j ∧ xs[j]? = some v ∧ j < xs.length ∧ -(xs.length:Int) ≤ i ∧ i < xs.length:=by
  unfold atI at h
  cases e:ixN xs.length i with
  | none => rw [e] at h; cases h
  | some j =>
    rw [e] at h
    obtain ⟨h1,h2,h3,h4⟩:=ixN_seq e
    exact ⟨j,h1,h,h2,h3,h4⟩
theorem atI_nat {α:Type} {xs:List α} {j:Nat} {v:α} (h:xs[j]? = some v):atI xs (j:Int) = some v:=by
  have hj:j < xs.length:=(List.getElem?_eq_some_iff.mp h).1
  have e:ixN xs.length (j:Int) = some j:=by
    unfold ixN
    rw [if_pos (by omega),if_pos (by omega)]; simp
  unfold atI; rw [e]; exact h
noncomputable def PlainIx (b:Expr):Prop:=∀ o i,subscripted b false o i = operate [o,i] (getItem o i)
noncomputable def IxR (X:Cx) (r:R2):Prop :=
  ∀ (value slice:Expr) (pins:List (Addr × Obj)) (s:Shared) (σ:St) (H:Hp) (x y:V) (v u:Value) (Q:VK),Inv X pins σ H s → RelV x v → RelV y u → r x y H Q →
    subscripted slice false v u = operate [v,u] (getItem v u) → wpAny (model X.prog X.w) X.A (subscriptTail value slice v u) (EP X pins σ Q) X.xe s
noncomputable def MtR (X:Cx) (id:String) (r:V → List V → Hp → VK → Prop):Prop :=
  ∀ (pins:List (Addr × Obj)) (s:Shared) (σ:St) (H:Hp) (x:V) (xs:List V) (v:Value) (us:List Value) (Q:VK),Inv X pins σ H s → RelV x v → Vals xs us → r x xs H Q →
    wpAny (model X.prog X.w) X.A (call (.builtin id) (v :: us)) (EP X pins σ Q) X.xe s
section
variable {X:Cx} {a b:Expr} {ta tb:TE} {pos:Pos}
theorem IxR.or {r r':R2} (h:IxR X r) (h':IxR X r'):IxR X (fun x y H Q => r x y H Q ∨ r' x y H Q):=by
  intro value slice pins s σ H x y v u Q I rx ry q hs
  rcases q with q | q
  · exact h value slice pins s σ H x y v u Q I rx ry q hs
  · exact h' value slice pins s σ H x y v u Q I rx ry q hs
theorem pe_ix {r:R2} (hr:IxR X r) (ha:PE X a ta) (hb:PE X b tb) (hs:PlainIx b):PE X (.Subscript a b pos) (tOp r ta tb):=by
  intro pins s σ H Q I h
  exact Subscript_ (binT ha hb I h fun v u s2 x y H2 I2 rx ry q => hr a b pins s2 σ H2 x y v u Q I2 rx ry q (hs _ _))
noncomputable def rIxL (K:PySem.W.Frag):R2:=fun x y H Q => ∃ p xs i v,x = .ref p ∧ y = .int i ∧ SqL K H p xs ∧ atI xs i = some v ∧ Q v H
noncomputable def rIxT (K:PySem.W.Frag):R2:=fun x y H Q => ∃ p xs i v,x = .ref p ∧ y = .int i ∧ SqT K H p xs ∧ atI xs i = some v ∧ Q v H
noncomputable def rIxS:R2:=fun x y H Q => ∃ z i c,x = .str z ∧ y = .int i ∧ z.length ≤ sizeLine ∧ atI z.cps.toList i = some c ∧ Q (.str ⟨#[c]⟩) H
theorem ix_list:IxR X (rIxL X.K):=by
  intro value slice pins s σ H x y v u Q I rx ry h hs
  obtain ⟨p,xs,i,z,rfl,rfl,hq,he,q⟩:=h
  cases rx
  obtain ⟨t,rfl⟩:=ry
  obtain ⟨its,r,pl,hz⟩:=I.list hq
  obtain ⟨j,h1,h2,h3,h4,h5⟩:=atI_get he
  obtain ⟨w,ew,rw'⟩:=r.get h2
  have hl:=r.length
  have hn:=line63
  have fin:EP X pins σ Q w s:=⟨z,H,I,rw',q⟩
  by_cases h0:0 ≤ i
  · have hj:i.toNat = j:=by
      rw [seqIndex_of h0 h5] at h1
      exact Option.some.inj h1
    exact item_listR pl.isList h0 (by omega) (by rw [hj]; simpa using ew) fin hs
  · have hj:(i + (its.toArray.size:Int)).toNat = j:=by
      rw [seqIndex_neg (by omega) h4] at h1
      rw [List.size_toArray,← hl]
      exact Option.some.inj h1
    exact subscriptTail_builtinR (x:=w) pl.isList.typeIs slot_list_getitem.lookup
      (wpAny_getItem_list_neg (Q:=fun r s' => r = w ∧ EP X pins σ Q r s') pl.isList (by omega) (by rw [List.size_toArray] <;> omega) (by omega) (by rw [hj]; simpa using ew) ⟨rfl,fin⟩) hs
theorem ix_tup:IxR X (rIxT X.K):=by
  intro value slice pins s σ H x y v u Q I rx ry h hs
  obtain ⟨p,xs,i,z,rfl,rfl,hq,he,q⟩:=h
  cases rx
  obtain ⟨t,rfl⟩:=ry
  obtain ⟨its,r,pl,hz⟩:=I.tuple hq
  obtain ⟨j,h1,h2,h3,h4,h5⟩:=atI_get he
  obtain ⟨w,ew,rw'⟩:=r.get h2
  have hl:=r.length
  have hn:=line63
  have fin:EP X pins σ Q w s:=⟨z,H,I,rw',q⟩
  exact subscriptTail_builtinR (x:=w) pl.typeIs slot_tuple_getitem.lookup
    (getItem_tuple (j:=j) (Q:=fun r s' => r = w ∧ EP X pins σ Q r s') pl (by omega) (by omega) (by rw [List.size_toArray,← hl]; exact h1) (by simpa using ew) ⟨rfl,fin⟩) hs
theorem ix_str:IxR X rIxS:=by
  intro value slice pins s σ H x y v u Q I rx ry h hs
  obtain ⟨z,i,c,rfl,rfl,hz,he,q⟩:=h
  obtain ⟨t,rfl⟩:=rx
  obtain ⟨t',rfl⟩:=ry
  obtain ⟨j,h1,h2,h3,h4,h5⟩:=atI_get he
  have hl:z.cps.toList.length = z.length:=by simp [Str.length]
  rw [hl] at h1 h4 h5
  have hn:=line63
  exact tail_any (typeIs_str s z t) slot_str_getitem.lookup (getItem_str (c:=c) (by
    have e1:decide (i < -(2 ^ 63:Int)) = false:=decide_eq_false (by omega)
    have e2:decide (i ≥ 2 ^ 63) = false:=decide_eq_false (by omega)
    rw [e1,e2,Bool.or_false]) (by rw [h1]; simpa using h2) ⟨.str ⟨#[c]⟩,H,I.tok _,⟨_,rfl⟩,q⟩) hs
theorem Inv.lst {pins:List (Addr × Obj)} {σ:St} {H:Hp} {s:Shared} {p:Addr} {xs:List V} (I:Inv X pins σ H s) (h:H p = some (.lst xs)) :
    ∃ (its:List Value) (n:Nat),Vals xs its ∧ s.heap.get? p = some { cls:=.type "list",data:=.seq its.toArray n } ∧ xs.length ≤ sizeLine:=by
  obtain ⟨z,its,n,r,e⟩:=I.hok p _ h
  exact ⟨its,n,r,e,z⟩
theorem slice_bounds (lo hi:Option Int) (n:Nat):(sliceBounds lo hi none n).1 = ((HT.sIx n 0 lo:Nat):Int) ∧ (sliceBounds lo hi none n).2.1 = ((HT.sIx n n hi:Nat):Int) ∧ (sliceBounds lo hi none n).2.2 = 1:=by
  refine ⟨?_,?_,rfl⟩
  · cases lo with
    | none => simp [sliceBounds,HT.sIx]
    | some i =>
      simp only [sliceBounds,HT.sIx,Option.getD_none,show (1:Int) > 0 by decide,if_true]
      by_cases h:i < 0
      · simp only [h,if_true] <;> omega
      · simp only [h,if_false] <;> omega
  · cases hi with
    | none => simp [sliceBounds,HT.sIx]
    | some i =>
      simp only [sliceBounds,HT.sIx,Option.getD_none,show (1:Int) > 0 by decide,if_true]
      by_cases h:i < 0
      · simp only [h,if_true] <;> omega
      · simp only [h,if_false] <;> omega
theorem slicePick_cut (its:List Value) (lo hi:Option Int):slicePick its.toArray lo hi none = ((its.drop (HT.sIx its.length 0 lo)).take (HT.sIx its.length its.length hi - HT.sIx its.length 0 lo)).toArray:=by
  obtain ⟨h1,h2,h3⟩:=slice_bounds lo hi its.toArray.size
  unfold slicePick
  rw [h1,h2,h3]
  simp only [sliceRange_one,pick_run,List.size_toArray] <;> rfl
noncomputable def rSlL (K:PySem.W.Frag):V → Option Int → Option Int → Hp → VK → Prop:=fun x lo hi H Q => ∃ a xs,x = .ref a ∧ SqL K H a xs ∧ ∀ p,H p = none → Q (.ref p) (upd H p (.lst (cutV xs lo hi)))
theorem sl_list:SlR X (rSlL X.K):=by
  intro pins s σ H x v vl vu lo hi sl Q I rx hs pl pu h
  obtain ⟨a,xs,rfl,hx,q⟩:=h
  cases rx
  obtain ⟨its,r,ht,hz⟩:=I.list hx
  have hlen:=r.length
  refine ⟨"list",_,slot_list_getitem.lookup,ht.isList.typeIs,?_⟩
  refine wpAny_getItem_list_slice ht.isList hs pl pu .none (by simp) ?_ (by rw [List.size_toArray] <;> omega)
  rw [slicePick_cut,← hlen]
  refine ⟨.ref s.heap.objs.size,_,I.laid (t':=s.toks) (o:=.lst (cutV xs lo hi)) (fun b ob q => Heap.get?_push_of_some _ q) (Nat.le_refl _) ?_,rfl,q _ (I.hok.fresh (Nat.le_refl _))⟩
  exact ⟨Nat.le_trans (cutV_length xs lo hi) hz,_,0,(r.drop (HT.sIx xs.length 0 lo)).take (HT.sIx xs.length xs.length hi - HT.sIx xs.length 0 lo),Heap.get?_push_size _ rfl⟩
noncomputable def flatV:V → Bool
  | .non => true
  | .bl _ => true
  | .int _ => true
  | .str _ => true
  | _ => false
noncomputable def eqV:V → V → Bool
  | .non,.non => true
  | .bl a,.bl b => a == b
  | .bl a,.int b => (if a then 1 else 0) == b
  | .int a,.bl b => a == (if b then 1 else 0)
  | .int a,.int b => a == b
  | .str a,.str b => a == b
  | _,_ => false
theorem eqAt_V {A:Around} {s:Shared} {y x:V} {u v:Value} (ry:RelV y u) (rx:RelV x v) (fy:flatV y = true) (fx:flatV x = true):SeqAt.EqAt A s u v (eqV y x):=by
  cases y with
  | non =>
    cases ry
    cases x with
    | non => cases rx; exact SeqAt.EqAt.same _
    | bl b => cases rx; exact SeqAt.EqAt.none_bool b
    | int b => obtain ⟨t,rfl⟩:=rx; exact SeqAt.EqAt.none_int b t
    | str b => obtain ⟨t,rfl⟩:=rx; exact SeqAt.EqAt.none_str b t
    | _ => exact absurd (show false = true from fx) Bool.false_ne_true
  | bl a =>
    cases ry
    cases x with
    | non => cases rx; exact SeqAt.EqAt.bool_none a
    | bl b => cases rx; exact SeqAt.EqAt.bool_bool a b
    | int b => obtain ⟨t,rfl⟩:=rx; exact SeqAt.EqAt.bool_int a b t
    | str b => obtain ⟨t,rfl⟩:=rx; exact SeqAt.EqAt.bool_str a b t
    | _ => exact absurd (show false = true from fx) Bool.false_ne_true
  | int a =>
    obtain ⟨t',rfl⟩:=ry
    cases x with
    | non => cases rx; exact SeqAt.EqAt.int_none a t'
    | bl b => cases rx; exact SeqAt.EqAt.int_bool a t' b
    | int b => obtain ⟨t,rfl⟩:=rx; exact SeqAt.EqAt.int_int a t' b t
    | str b => obtain ⟨t,rfl⟩:=rx; exact SeqAt.EqAt.int_str a t' b t
    | _ => exact absurd (show false = true from fx) Bool.false_ne_true
  | str a =>
    obtain ⟨t',rfl⟩:=ry
    cases x with
    | non => cases rx; exact SeqAt.EqAt.str_none a t'
    | bl b => cases rx; exact SeqAt.EqAt.str_bool a t' b
    | int b => obtain ⟨t,rfl⟩:=rx; exact SeqAt.EqAt.str_int a t' b t
    | str b => obtain ⟨t,rfl⟩:=rx; exact SeqAt.EqAt.str_str a t' b t
    | _ => exact absurd (show false = true from fx) Bool.false_ne_true
  | _ => exact absurd (show false = true from fy) Bool.false_ne_true
noncomputable def eqU (x:V) (u:Value):Bool:=match u with
  | .none => eqV .non x
  | .bool b => eqV (.bl b) x
  | .int i _ => eqV (.int i) x
  | .str z _ => eqV (.str z) x
  | _ => false
theorem eqU_of {x y:V} {u:Value} (r:RelV y u) (f:flatV y = true):eqU x u = eqV y x:=by
  cases y with
  | non => cases r; rfl
  | bl b => cases r; rfl
  | int i => obtain ⟨t,rfl⟩:=r; rfl
  | str z => obtain ⟨t,rfl⟩:=r; rfl
  | _ => exact absurd (show false = true from f) Bool.false_ne_true
theorem any_eqU {x:V}:∀ {xs:List V} {us:List Value},Vals xs us → xs.all flatV = true → us.any (eqU x) = xs.any fun y => eqV y x
  | _,_,.nil,_ => rfl
  | y :: xs,u :: us,.cons r t,f => by
    rw [List.all_cons,Bool.and_eq_true] at f
    rw [List.any_cons,List.any_cons,eqU_of r f.1,any_eqU t f.2]
theorem mem_eqAt {A:Around} {s:Shared} {x:V} {v:Value} (rx:RelV x v) (fx:flatV x = true):∀ {xs:List V} {us:List Value},Vals xs us → xs.all flatV = true → ∀ u ∈ us,SeqAt.EqAt A s u v (eqU x u)
  | _,_,.nil,_ => fun u hu => by cases hu
  | y :: xs,u :: us,.cons r t,f => fun u' hu => by
    rw [List.all_cons,Bool.and_eq_true] at f
    rcases List.mem_cons.mp hu with rfl | hu
    · rw [eqU_of r f.1]; exact eqAt_V r rx f.1 fx
    · exact mem_eqAt rx fx t f.2 u' hu
noncomputable def inV (x:V) (xs:List V):Bool:=xs.any fun y => eqV y x
noncomputable def rIn (K:PySem.W.Frag) (neg:Bool):R2:=fun x y H Q => ∃ p xs,y = .ref p ∧ (SqL K H p xs ∨ SqT K H p xs) ∧ flatV x = true ∧ xs.all flatV = true ∧ Q (.bl (if neg then !inV x xs else inV x xs)) H
theorem op_in_seq:OpR X (compareOp .In) (rIn X.K false):=by
  intro pins s σ H x y v u Q I rx ry h
  obtain ⟨p,xs,rfl,hq,fx,fs,q⟩:=h
  cases ry
  rcases hq with hq | hq
  · obtain ⟨its,r,pl,hz⟩:=I.list hq
    refine SeqAt.in_listAt (eqU x) pl.isList (fun w hw => mem_eqAt rx fx r fs w (by simpa using hw)) ⟨.bl _,H,I,rfl,?_⟩
    rw [show its.toArray.any (eqU x) = its.any (eqU x) by simp,any_eqU r fs]
    exact q
  · obtain ⟨its,r,pl,hz⟩:=I.tuple hq
    refine SeqAt.in_tupleAt (eqU x) pl (fun w hw => mem_eqAt rx fx r fs w (by simpa using hw)) ⟨.bl _,H,I,rfl,?_⟩
    rw [show its.toArray.any (eqU x) = its.any (eqU x) by simp,any_eqU r fs]
    exact q
theorem call_len_seq:CallR X (.builtin "len") (fun xs H Q => ∃ p ys,xs = [.ref p] ∧ (SqL X.K H p ys ∨ SqT X.K H p ys) ∧ Q (.int ys.length) H):=by
  intro pins s σ H xs us Q I r h
  obtain ⟨p,ys,rfl,hq,q⟩:=h
  obtain ⟨u,rfl,rx⟩:=vals1 r
  cases rx
  have hn:=line63
  rcases hq with hq | hq
  · obtain ⟨its,r',pl,hz⟩:=I.list hq
    have hlen:=r'.length
    exact Calls.call_len_list pl.isList (by simp only [List.size_toArray] <;> omega) ⟨.int ys.length,H,I.tok _,⟨s.toks + 1,by rw [List.size_toArray,hlen]⟩,q⟩
  · obtain ⟨its,r',pl,hz⟩:=I.tuple hq
    have hlen:=r'.length
    exact len_tuple pl (by simp only [List.size_toArray] <;> omega) ⟨.int ys.length,H,I.tok _,⟨s.toks + 1,by rw [List.size_toArray,hlen]⟩,q⟩
theorem call_len_str:CallR X (.builtin "len") (fun xs H Q => ∃ z,xs = [.str z] ∧ z.length ≤ sizeLine ∧ Q (.int z.length) H):=by
  intro pins s σ H xs us Q I r h
  obtain ⟨z,rfl,hz,q⟩:=h
  obtain ⟨u,rfl,t,rfl⟩:=vals1 r
  have hn:=line63
  exact len_str (by omega) ⟨.int z.length,H,I.tok _,⟨_,rfl⟩,q⟩
theorem CallR.or {f:Value} {r r':List V → Hp → VK → Prop} (h:CallR X f r) (h':CallR X f r'):CallR X f (fun xs H Q => r xs H Q ∨ r' xs H Q):=by
  intro pins s σ H xs us Q I rs q
  rcases q with q | q
  · exact h pins s σ H xs us Q I rs q
  · exact h' pins s σ H xs us Q I rs q
theorem call_list_of:CallR X (.type "list") (fun xs H Q => ∃ p ys,xs = [.ref p] ∧ (SqL X.K H p ys ∨ SqT X.K H p ys) ∧ ∀ l,H l = none → Q (.ref l) (upd H l (.lst ys))):=by
  intro pins s σ H xs us Q I r h
  obtain ⟨p,ys,rfl,hq,q⟩:=h
  obtain ⟨u,rfl,rx⟩:=vals1 r
  cases rx
  have fin:∀ (its:List Value),Vals ys its → ys.length ≤ sizeLine → ∀ (h':Heap) (c':Nat),(∀ b o',s.heap.get? b = some o' → h'.get? b = some o') →
      h'.get? s.heap.objs.size = some { cls:=.type "list",dict:=none,data:=.seq its.toArray c',slots:=#[] } → EP X pins σ Q (.ref s.heap.objs.size) { s with heap:=h' }:=fun its r' hz h' c' kp e =>
    ⟨.ref s.heap.objs.size,_,I.laid (t':=s.toks) kp (Nat.le_refl _) (show ObjOk X.prog X.w _ h' _ (.lst ys) from ⟨hz,its,c',r',e⟩),rfl,q _ (I.hok.fresh (Nat.le_refl _))⟩
  rcases hq with hq | hq
  · obtain ⟨its,r',pl,hz⟩:=I.list hq
    have hlen:=r'.length
    obtain ⟨o,ho,hc,n,hd⟩:=pl.isList
    exact call_list_seq p (.inl rfl) ho hc hd (fun h' c' kp e => fin its r' hz h' c' kp e) (by simp only [List.size_toArray] <;> omega)
  · obtain ⟨its,r',pl,hz⟩:=I.tuple hq
    have hlen:=r'.length
    obtain ⟨o,ho,hc,n,hd⟩:=pl
    exact call_list_seq p (.inr rfl) ho hc hd (fun h' c' kp e => fin its r' hz h' c' kp e) (by simp only [List.size_toArray] <;> omega)
theorem call_tuple_of:CallR X (.type "tuple") (fun xs H Q => ∃ p ys,xs = [.ref p] ∧ ((SqL X.K H p ys ∧ ∀ l,H l = none → Q (.ref l) (upd H l (.tup ys))) ∨ (SqT X.K H p ys ∧ Q (.ref p) H))):=by
  intro pins s σ H xs us Q I r h
  obtain ⟨p,ys,rfl,h⟩:=h
  obtain ⟨u,rfl,rx⟩:=vals1 r
  cases rx
  rcases h with ⟨hq,q⟩ | ⟨hq,q⟩
  · obtain ⟨its,r',pl,hz⟩:=I.list hq
    have hlen:=r'.length
    refine call_tuple_list pl.isList (fun h' kp => ?_) (by simp only [List.size_toArray] <;> omega)
    have I1:Inv X pins σ H { s with heap:=h' }:=I.kept (t':=s.toks) kp
    have I2:Inv X pins σ (upd H h'.objs.size (.tup ys)) { s with heap:=h'.push { cls:=.type "tuple",data:=.seq its.toArray } } :=
      I1.laid (t':=s.toks) (fun b o e => Heap.get?_push_of_some _ e) (Nat.le_refl _) (show ObjOk X.prog X.w _ _ _ (.tup ys) from ⟨hz,its,r',IsTup.new _ _⟩)
    exact ⟨.ref h'.objs.size,_,I2,rfl,q _ (I1.hok.fresh (Nat.le_refl _))⟩
  · obtain ⟨its,r',pl,hz⟩:=I.tuple hq
    exact call_tuple_same pl ⟨.ref p,H,I,rfl,q⟩
noncomputable def tyV (K:PySem.W.Frag) (T:String) (x:V) (H:Hp):Prop:=match x with
  | .str _ => T = "str"
  | .int _ => T = "int"
  | .ref p => (T = "list" ∧ ∃ xs,SqL K H p xs) ∨ (T = "tuple" ∧ ∃ o,K.lookup p = some o ∧ o.cls = .type "tuple" ∧ o.dict = none) ∨
      (T = "dict" ∧ ((∃ kvs,H p = some (.dK kvs)) ∨ ∃ kvs,H p = some (.dT kvs))) ∨ (T = "set" ∧ ∃ S n,H p = some (.set S n))
  | _ => False
theorem tyV_is {pins:List (Addr × Obj)} {σ:St} {H:Hp} {s:Shared} {T:String} {x:V} {v:Value} (I:Inv X pins σ H s) (r:RelV x v) (ty:tyV X.K T x H) :
    s.TypeIs v T ∧ ∀ a,v = .ref a → ∃ ob,s.heap.get? a = some ob ∧ ob.dict = none:=by
  cases x with
  | str z =>
    obtain ⟨t,rfl⟩:=r
    cases (show T = "str" from ty)
    exact ⟨typeIs_str s z t,fun _ e => nomatch e⟩
  | int i =>
    obtain ⟨t,rfl⟩:=r
    cases (show T = "int" from ty)
    exact ⟨typeIs_int s i t,fun _ e => nomatch e⟩
  | ref p =>
    cases r
    rcases ty with ⟨rfl,xs,hq⟩ | ⟨rfl,o,hk,hc,hd⟩ | ⟨rfl,hk⟩ | ⟨rfl,S,n,hk⟩
    · obtain ⟨its,_,pl,_⟩:=I.list hq
      refine ⟨pl.isList.typeIs,fun a e => ?_⟩
      cases e
      obtain ⟨o,n,e,c,hd,_⟩:=pl
      exact ⟨o,e,hd⟩
    · refine ⟨⟨o,I.kIn p o hk,hc⟩,fun a e => ?_⟩
      cases e
      exact ⟨o,I.kIn _ o hk,hd⟩
    · have z:∃ o,s.heap.get? p = some o ∧ o.ExactDict:=by
        rcases hk with ⟨kvs,hk⟩ | ⟨kvs,hk⟩
        · obtain ⟨_,_,_,_,o,_,_,e,ex,_⟩:=I.hok p _ hk
          exact ⟨o,e,ex⟩
        · obtain ⟨_,_,_,_,o,_,_,e,ex,_⟩:=I.hok p _ hk
          exact ⟨o,e,ex⟩
      obtain ⟨o,e,ex⟩:=z
      refine ⟨⟨o,e,ex.1⟩,fun a e2 => ?_⟩
      cases e2
      exact ⟨o,e,ex.2.1⟩
    · obtain ⟨o,_,_,_,e,ex,_⟩:=I.hok p _ hk
      refine ⟨⟨o,e,ex.1⟩,fun a e2 => ?_⟩
      cases e2
      exact ⟨o,e,ex.2.1⟩
  | _ => exact False.elim ty
noncomputable def tBM (K:PySem.W.Frag) (T:String) (r:V → List V → Hp → VK → Prop) (to:TE) (t:TA):TE:=fun σ H Q => to σ H fun x H1 => tyV K T x H1 ∧ t σ H1 fun xs H2 => r x xs H2 Q
variable {o e:Expr} {es:List Expr} {to:TE} {t:TA} {name:Str} {apos cpos:Pos} {T id:String} {r:V → List V → Hp → VK → Prop}
theorem pe_bm (pa:PlainAttrs T) (slot:Slot T name id) (hty:typeOf (.builtin id) = pure (.type "method_descriptor")) (hm:MtR X id r) (ho:PE X o to) (ha:PA X (e :: es) t)
    (hbase:attributeBase o name X.env (eval o X.env) = eval o X.env:=by rfl)
    (hfew:((backTo cpos (starEach (e :: es) X.env)).all (fun x => !x.1) && (backToKw cpos (keywordEach [] X.env)).all (fun x => x.1.isSome)
      && decide ((e :: es).length + ([]:List Keyword).length + (if ([]:List Keyword).isEmpty then 0 else 1) < 30)) = true:=by rfl)
    (hline:(apos.endLine == cpos.line) = true:=by rfl) (hs:starEach (e :: es) X.env = (false,eval e X.env) :: starEach es X.env:=by rfl) (hplain:(backTo cpos (starEach es X.env)).any (·.1) = false:=by rfl) :
    PE X (.Call (.Attribute o name apos) (e :: es) [] cpos) (tBM X.K T r to t):=by
  intro pins s σ H Q I h
  refine wpAny_Call_method_late hbase hfew hline rfl (thn (ho pins s σ H _ I h) fun v s1 ⟨x,H1,I1,r1,ty,q1⟩ => ?_)
  obtain ⟨h1,h2⟩:=tyV_is I1 r1 ty
  refine ⟨T,id,pa,slot,hty,h1,h2,?_⟩
  have hA:=ha cpos pins s1 σ H1 _ I1 q1
  rw [hs] at hA ⊢
  refine Calls.callWith_builtin (by show (false || (backTo cpos (starEach es X.env)).any (·.1)) = false; rw [hplain] <;> rfl) (Calls.evalArgs_plain ?_)
  exact thn hA fun us s2 ⟨vs,H2,I2,r2,q2⟩ => hm pins s2 σ H2 x vs v us Q I2 r1 r2 q2
end
end L2
namespace L2
open PySem PySem.Spec PyProof.Rows
noncomputable def MtM (X:Cx) (id:String) (r:V → List V → Hp → VK → Prop):Prop :=
  ∀ (pins:List (Addr × Obj)) (s:Shared) (σ:St) (H:Hp) (x:V) (xs:List V) (v:Value) (us:List Value) (Q:VK),Inv X pins σ H s → RelV x v → Vals xs us → r x xs H Q →
    wpAny (model X.prog X.w) X.A (call (.builtin id) (v :: us)) (EP X pins σ Q) X.xe s
theorem Vals.one {x:V} {us:List Value} (p:Vals [x] us):∃ u,us = [u] ∧ RelV x u:=by
  cases p with
  | cons r t => cases t; exact ⟨_,rfl,r⟩
theorem Vals.rep {xs:List V} {us:List Value} (h:Vals xs us):∀ k:Nat,Vals (List.replicate k xs).flatten (List.replicate k us).flatten
  | 0 => .nil
  | k + 1 => by
    rw [List.replicate_succ,List.replicate_succ,List.flatten_cons,List.flatten_cons]
    exact Vals.append h (Vals.rep h k)
theorem foldl_rep (its:List Value):∀ (k:Nat) (acc:List Value),
    List.foldl (fun x1 x2 => x1 ++ x2) acc.toArray (List.replicate k its.toArray) = (acc ++ (List.replicate k its).flatten).toArray
  | 0,acc => by simp
  | k + 1,acc => by
    have e:acc.toArray ++ its.toArray = (acc ++ its).toArray:=by simp
    have e2:(acc ++ its) ++ (List.replicate k its).flatten = acc ++ (List.replicate (k + 1) its).flatten:=by
      rw [List.replicate_succ,List.flatten_cons,List.append_assoc]
    rw [← e2,← foldl_rep its k (acc ++ its),← e,List.replicate_succ,List.foldl_cons]
section
variable {X:Cx} {pins:List (Addr × Obj)} {σ:St} {H:Hp} {s:Shared} {l b:Addr} {xs ys zs:List V}
theorem Inv.lset {its its':List Value} {n:Nat} {f:Array Value → Array Value} {t':Nat} (I:Inv X pins σ H s) (hH:H l = some (.lst xs))
    (e:s.heap.get? l = some { cls:=.type "list",data:=.seq its.toArray n }) (hf:f its.toArray = its'.toArray) (hv:Vals ys its') (hz:ys.length ≤ sizeLine) :
    Inv X pins σ (upd H l (.lst ys)) { s with heap:=s.heap.update l (Obj.mapSeq f),toks:=t' }:=by
  have q:=PySem.IsL.update e f
  rw [hf] at q
  refine I.write (x:=l) (e:=l) (by rw [hH]; exact trivial) (.inl rfl) (fun b' u hb hu => (Heap.get?_update_other s.heap (Obj.mapSeq f) (Ne.symm hb)).trans hu) ⟨_,q⟩ ?_
  exact ⟨hz,its',_,hv,q⟩
theorem Inv.lnew {its:List Value} {t':Nat} (I:Inv X pins σ H s) (hv:Vals ys its) (hz:ys.length ≤ sizeLine) :
    Inv X pins σ (upd H s.heap.objs.size (.lst ys)) { s with heap:=s.heap.push { cls:=.type "list",data:=.seq its.toArray },toks:=t' } :=
  I.laid (fun _ _ q => Heap.get?_push_of_some _ q) (Nat.le_refl _) ⟨hz,its,0,hv,Heap.get?_push_size _ rfl⟩
theorem Inv.fresh (I:Inv X pins σ H s):H s.heap.objs.size = none:=I.hok.fresh (Nat.le_refl _)
theorem Inv.lstM (I:Inv X pins σ H s) (hH:H l = some (.lst xs)):xs.length ≤ sizeLine ∧ ∃ (its:List Value) (n:Nat),Vals xs its ∧ xs.length = its.length ∧ s.heap.get? l = some { cls:=.type "list",data:=.seq its.toArray n }:=by
  obtain ⟨z,its,n,r,e⟩:=I.hok l _ hH
  exact ⟨z,its,n,r,r.length,e⟩
theorem notLongL {n:Nat} (h:n ≤ sizeLine):Builtin.List.listTooLong n = false:=by
  unfold Builtin.List.listTooLong
  exact decide_eq_false (by omega)
end
section
variable {X:Cx}
noncomputable def rAppend:V → List V → Hp → VK → Prop:=fun x vs H Q => ∃ l xs y,x = .ref l ∧ vs = [y] ∧ H l = some (.lst xs) ∧ xs.length < sizeLine ∧ Q .non (upd H l (.lst (xs ++ [y])))
theorem mt_append:MtM X "list.append" rAppend:=by
  intro pins s σ H x vs v us Q I rx rv h
  obtain ⟨l,xs,y,rfl,rfl,hH,hz,q⟩:=h
  cases rx
  obtain ⟨u,rfl,ru⟩:=rv.one
  obtain ⟨z,its,n,r,hl,e⟩:=I.lstM hH
  refine call_meets F.slot_list_append ⟨_,e,rfl⟩ F.entry_list_append (F.args_list_append_2 _ _) (PySem.list_append l its.toArray n u (by rw [List.size_toArray]; omega)) ⟨e,?_⟩
  refine ⟨.non,_,I.lset (its':=its ++ [u]) hH e (by simp) (r.append (.cons ru .nil)) ?_,rfl,q⟩
  rw [List.length_append,List.length_singleton]
  omega
noncomputable def rExtend:V → List V → Hp → VK → Prop:=fun x vs H Q => ∃ l b xs zs,x = .ref l ∧ vs = [.ref b] ∧ H l = some (.lst xs) ∧ H b = some (.lst zs) ∧ xs.length + zs.length ≤ sizeLine ∧ Q .non (upd H l (.lst (xs ++ zs)))
theorem mt_extend:MtM X "list.extend" rExtend:=by
  intro pins s σ H x vs v us Q I rx rv h
  obtain ⟨l,b,xs,zs,rfl,rfl,hH,hB,hz,q⟩:=h
  cases rx
  obtain ⟨u,rfl,ru⟩:=rv.one
  cases ru
  obtain ⟨z,its,n,r,hl,e⟩:=I.lstM hH
  obtain ⟨z2,its2,n2,r2,hl2,e2⟩:=I.lstM hB
  have hsz:its.toArray.size + its2.toArray.size ≤ sizeLine:=by rw [List.size_toArray,List.size_toArray]; omega
  have hlong:¬ (!its.toArray.isEmpty && Builtin.List.listTooLong (its.toArray.size + its2.toArray.size)) = true:=by
    rw [notLongL hsz,Bool.and_false]
    exact Bool.false_ne_true
  refine call_meets F.slot_list_extend ⟨_,e,rfl⟩ F.entry_list_extend (F.args_list_extend_2 _ _)
    (AutoSeq1.list_extend_list_list_0 l its.toArray n b its2.toArray n2 hlong (by rw [List.size_toArray]; omega) (by omega)) ⟨e,e2,?_⟩
  refine ⟨.non,_,I.lset (its':=its ++ its2) hH e (by simp) (r.append r2) ?_,rfl,q⟩
  rw [List.length_append]
  omega
noncomputable def rCat:R2:=fun x y H Q => ∃ l b xs zs,x = .ref l ∧ y = .ref b ∧ H l = some (.lst xs) ∧ H b = some (.lst zs) ∧ xs.length + zs.length ≤ sizeLine ∧ ∀ p,H p = none → Q (.ref p) (upd H p (.lst (xs ++ zs)))
theorem op_cat:OpR X (binaryOp .Add) rCat:=by
  intro pins s σ H x y v u Q I rx ry h
  obtain ⟨l,b,xs,zs,rfl,rfl,hH,hB,hz,q⟩:=h
  cases rx
  cases ry
  obtain ⟨z,its,n,r,hl,e⟩:=I.lstM hH
  obtain ⟨z2,its2,n2,r2,hl2,e2⟩:=I.lstM hB
  refine PySem.P.add_list e e2 ?_ (by rw [List.size_toArray,List.size_toArray]; omega)
  have ea:its.toArray ++ its2.toArray = (its ++ its2).toArray:=by simp
  rw [ea]
  exact ⟨.ref _,_,I.lnew (t':=s.toks) (r.append r2) (by rw [List.length_append]; omega),rfl,q _ I.fresh⟩
noncomputable def rRep:R2:=fun x y H Q => ∃ l k xs,x = .ref l ∧ y = .int k ∧ H l = some (.lst xs) ∧ -(2 ^ 63) ≤ k ∧ k < 2 ^ 63 ∧ xs.length * k.toNat ≤ sizeLine ∧
  ∀ p,H p = none → Q (.ref p) (upd H p (.lst (List.replicate k.toNat xs).flatten))
theorem len_rep {α:Type} (xs:List α) (k:Nat):(List.replicate k xs).flatten.length = k * xs.length:=by
  induction k with
  | zero => simp
  | succ k ih => rw [List.replicate_succ,List.flatten_cons,List.length_append,ih,Nat.succ_mul,Nat.add_comm]
theorem op_rep:OpR X (binaryOp .Mult) rRep:=by
  intro pins s σ H x y v u Q I rx ry h
  obtain ⟨l,k,xs,rfl,rfl,hH,h1,h2,hz,q⟩:=h
  cases rx
  obtain ⟨t,rfl⟩:=ry
  obtain ⟨z,its,n,r,hl,e⟩:=I.lstM hH
  have hlen:its.toArray.size * k.toNat ≤ sizeLine:=by rw [List.size_toArray,← hl]; exact hz
  have hcap:¬ its.toArray.size * k.toNat > (2 ^ 63 - 1) / 8:=by
    have:(sizeLine:Nat) ≤ (2 ^ 63 - 1) / 8:=by decide
    omega
  have hfit:¬ (!Builtin.List.listFitsIndex k) = true:=by
    rw [fitsIndex_both h1 h2]
    exact Bool.false_ne_true
  have hlong:¬ Builtin.List.listTooLong (its.toArray.size * k.toNat) = true:=by
    rw [notLongL hlen]
    exact Bool.false_ne_true
  have hnew:List.foldl (fun x1 x2 => x1 ++ x2) #[] (List.replicate (if its.toArray.isEmpty = true then 0 else k.toNat) its.toArray) = (List.replicate k.toNat its).flatten.toArray:=by
    have f0:∀ m:Nat,List.foldl (fun x1 x2 => x1 ++ x2) #[] (List.replicate m its.toArray) = (List.replicate m its).flatten.toArray:=fun m => by
      have:=foldl_rep its m []
      rw [List.nil_append] at this
      exact this
    rw [f0]
    cases its with
    | nil => simp
    | cons a r' => rw [if_neg (by simp)]
  refine wpAny_binaryOp_repeat_ref (T:="list") (U:="int") (by decide) ⟨_,e,rfl⟩ (fun s' => typeIs_int s' k t) noFill_list_mul F.fills_int_mul F.slot_int_rmul repeat_list F.slot_int_index.lookup
    (call_meets F.slot_int_rmul (typeIs_int s k t) F.entry_int_rmul (F.args_int_rmul_2 _ _) (int___rmul___int_list k t l its.toArray n)
      ⟨e,rfl,⟨_,e,rfl⟩,call_meets F.slot_list_mul ⟨_,e,rfl⟩ F.entry_list_mul (F.args_list_mul_2 _ _) (AutoListH.list___mul___list_int_3 l its.toArray n k t hfit hcap hlong) ⟨e,?_⟩⟩)
  rw [hnew]
  exact ⟨.ref _,_,I.lnew (t':=s.toks) (r.rep k.toNat) (by rw [len_rep,Nat.mul_comm]; exact hz),rfl,q _ I.fresh⟩
end
section
variable {prog:Program} {w:World} {A:Around} {E:Value → Shared → Prop} {s:Shared}
set_option maxRecDepth 100000 in
end
section
variable {X:Cx}
end
end L2
namespace Att
open PySem PySem.W PySem.Calls PyProof.Rows
theorem ints_of_wellAll {P:Params} {h:Heap}:∀ (ns:List Int) (vs:List Value),WellAll P h vs (ns.map WData.int) → IntsAre vs ns:=by
  intro ns
  induction ns with
  | nil =>
    intro vs w
    rw [List.map_nil] at w
    cases w
    exact .nil
  | cons n ns ih =>
    intro vs w
    rw [List.map_cons] at w
    cases w with
    | cons a b =>
      cases a
      exact .cons _ _ (ih _ b)
theorem script_of {l:OpenLaw} {n:Nat} (hn:l.most = some n) {P:Params} {h:Heap} {args:List WData} {vals:List Value}
    (hpre:l.row.toRowW.claim.pre args = true) (hwl:WellAll P h vals args) :
    ∃ a vs ns,vals = [Value.ref a] ∧ args = [WData.list (ns.map WData.int)] ∧ h.get? a = some { cls:=.type "list",data:=.seq vs.toArray } ∧ IntsAre vs ns ∧ ns.length ≤ n:=by
  have hsh:WShape.hasAll [] args [.list .int] = true:=(pre_splitW hpre).1
  have hc:l.pre.holds [] { args:=args } = true:=(pre_splitW hpre).2
  obtain ⟨d,r,rfl,h1,h2⟩:=hasAllW_cons hsh
  obtain rfl:=hasAllW_nil h2
  obtain ⟨xs,rfl,h3⟩:=hasW_list h1
  obtain ⟨ns,rfl⟩:=items_int h3
  have hlen:ns.length ≤ n:=by
    unfold OpenLaw.pre at hc
    have h4:(WTm.not (.lt (.lit (.int (n:Int))) (.len (.arg 0)))).holds [] { args:=[.list (ns.map .int)] } = true:=by
      have h4:=(holds_andW hc).1
      rw [hn] at h4
      exact h4
    have h5:=condW_of h4 (w_not (w_lt w_lit (w_len_list (w_arg rfl))))
    rw [List.length_map] at h5
    refine Nat.le_of_not_lt fun q => ?_
    have q':(n:Int) < ((ns.length:Nat):Int):=by omega
    first
      | (rw [decide_eq_true q'] at h5; exact absurd h5 (by decide))
      | (simp at h5; omega)
  cases hwl with
  | cons w1 w2 =>
    cases w2
    cases w1 with
    | list ho hall => exact ⟨_,_,ns,rfl,rfl,ho,ints_of_wellAll ns _ hall,hlen⟩
theorem post_true (l:OpenLaw) (args:List WData):l.row.toRowW.claim.post args (.bool true) args = true :=
  postW_of (r:=l.row.toRowW) (X:=(true == true))
    (show WShape.has [] (.bool true) .bool = true by first | rfl | decide | simp [WShape.has,WShape.arms,WShape.armsAll])
    (show (WTm.eq .res (.lit (.bool true))).value [] { args:=args,res:=some (.bool true),after:=args } = some (.bool (true == true)) from w_eq_bool (w_res rfl) w_lit) rfl
theorem attach_call {l:OpenLaw} {n:Nat} {q:Program} {loose:List Str} {XP:(Str → Option Value) → Heap → Prop} {YP:World → Heap → Prop} {d:DefRec}
    (hn:l.most = some n) (hdf:d.params.defaults = [])
    (call:∀ (w:World) (s₀ s₁:Shared) (mg mb:Str → Option Value) (fa:Addr) (o:Obj) (pm cd doc:Value) (a:Addr) (vs:List Value) (ns:List Int),
      Ground q loose [] XP w s₀ mg mb s₁.heap → YP w s₁.heap →
      s₁.heap.get? fa = some o → o.data = .func (docDef d.name d.params d.body d.scope pm cd doc) → s₁.heap.CodeRec cd d.name → mg d.name = some (.ref fa) →
      s₁.heap.get? a = some { cls:=.type "list",data:=.seq vs.toArray } → IntsAre vs ns → ns.length ≤ n → s₁.gens = #[] →
      codeAny (model l.prog w) callerA (.call (.ref fa) ⟨[.ref a],[]⟩) (fun r s' => r = .ok (.ret (.bool true)) ∧ OldK s₁.heap s'.heap ∧ s'.os = s₁.os ∧ AllBare s'.gens) s₁) :
    WalkO q loose XP YP l.row.toRowW d [] (fun f vs => PySem.call f vs):=by
  intro w s₀ s₁ mg mb G Y fa o pm cd doc dV kV ho hd hcd hD hmg hg args vals as hpre hlay hrd hwl hlo
  obtain rfl:dV = .none:=Dflts.none hD hdf
  obtain rfl:kV = .none:=Dflts.noKw hD
  obtain ⟨a,vs,ns,rfl,rfl,hobj,hints,hlen⟩:=script_of hn hpre hwl
  refine enter_call (codeAny_mono (call w s₀ s₁ mg mb fa o pm cd doc a vs ns G Y ho (fd_plain hd) hcd hmg hobj hints hlen hg) fun r s' hq => ?_)
  obtain ⟨rfl,h2,h3,h4⟩:=hq
  exact ⟨.inl ⟨.bool true,.bool true,[],rfl,fun _ => rfl,.bool true,post_true l _,fun _ => ⟨List.Pairwise.nil,fun _ hm => (nomatch hm)⟩⟩,h2,h3,h4⟩
section
variable {prog:Program} {w:World} {A:Around} {E:Value → Shared → Prop} {s:Shared} {K:Frag}
end
end Att
namespace L2
open PySem PySem.Spec PyProof.Rows
theorem vals_ints:∀ {vs:List Value} {ns:List Int},IntsAre vs ns → Vals (ns.map V.int) vs
  | _,_,.nil => .nil
  | _,_,.cons n t h => .cons ⟨t,rfl⟩ (vals_ints h)
noncomputable def Only (H:Hp):Prop:=∀ b,H b = none ∨ ∃ o xs,H b = some (.frz o (.lst xs))
theorem law_call {P:Program} {w:World} {K:PySem.W.Frag} {mg mb:Str → Option Value} {CX:CXT} {k:Nat} {fa a:Addr} {fd:FuncData} {x:Str} {sp:Sp} {s₁:Shared} {vs:List Value} {ns:List Int}
    (KX:K.In s₁.heap) (hns:s₁.heap.Ns mainGlobals mg) (hb:s₁.heap.Ns builtinsNs mb) (hbb:∀ x:Str,x ≠ "__name__" → mb x = bootBuiltins x) (hlim:s₁.heap.NoLimit) (hg:s₁.gens = #[])
    (ha:s₁.heap.get? a = some { cls:=.type "list",data:=.seq vs.toArray }) (hi:IntsAre vs ns) (hl:ns.length ≤ sizeLine) (hr:Room k callerA)
    (F:∀ base:Heap,K.In base → base.Ns mainGlobals mg → FnOk P w K mg base CX k fa fd [x] sp) (hbind:∀ (s:Shared) (u:Value),BindsTo s fd ⟨[u],[]⟩ [(x,u)])
    (hsp:∀ H:Hp,Only H → SqL K H a (ns.map V.int) → sp [.ref a] H (fun v _ => v = .bl true) fun _ _ _ => False)
    (hCX:∀ H e s',CX [] H s₁ (fun _ _ _ => False) e s' → False) :
    codeAny (model P w) callerA (.call (.ref fa) ⟨[.ref a],[]⟩) (fun r s' => r = .ok (.ret (.bool true)) ∧ OldK s₁.heap s'.heap ∧ s'.os = s₁.os ∧ AllBare s'.gens) s₁:=by
  have rv:=vals_ints hi
  have lenV:=hi.length
  -- from an abstract heap in which nothing but the script may be tracked
  have core:∀ H:Hp,Only H → SqL K H a (ns.map V.int) → HOk P w H s₁.heap → (∀ b,H b ≠ none → b = a) → (H a ≠ none → K.lookup a = none) →
      codeAny (model P w) callerA (.call (.ref fa) ⟨[.ref a],[]⟩) (fun r s' => r = .ok (.ret (.bool true)) ∧ OldK s₁.heap s'.heap ∧ s'.os = s₁.os ∧ AllBare s'.gens) s₁:=by
    intro H hO hS hok hA hK
    have base_of:∀ {b:Addr} {o:Obj},s₁.heap.get? b = some o → H b = none → (hidT s₁.heap H).get? b = some o:=fun e n => hidT_get e n
    have noA:∀ {b:Addr} {o:Obj} {es:Array DictEntry} {ep:Nat},s₁.heap.get? b = some o → o.data = .dict es ep → H b = none:=fun {b o es ep} e d => by
      cases q:H b with
      | none => rfl
      | some u =>
        have e':b = a:=hA b (by rw [q]; simp)
        subst e'
        rw [ha] at e; cases e
        have d':Data.seq vs.toArray _ = Data.dict es ep:=d
        cases d'
    have nsK:∀ {b:Addr} {m:Str → Option Value},s₁.heap.Ns b m → (hidT s₁.heap H).Ns b m:=fun {b m} ⟨o,es,ep,e,d,r⟩ => ⟨o,es,ep,base_of e (noA e d),d,r⟩
    have hKb:K.In (hidT s₁.heap H):=fun b o e => base_of (KX b o e) (by
      cases q:H b with
      | none => rfl
      | some u =>
        have e':b = a:=hA b (by rw [q]; simp)
        subst e'
        rw [hK (by rw [q]; simp)] at e; cases e)
    have hM:Mod K mg (hidT s₁.heap H):=⟨hKb,nsK hns,⟨mb,nsK hb,hbb⟩,let ⟨mc,h1,h2⟩:=hlim; ⟨mc,nsK h1,h2⟩⟩
    have e0:Env0 P w K mg (hidT s₁.heap H) callerA [] s₁ H:=⟨rfl,hM,fun b o e => of_hidT e,Nat.le_of_eq (hidT_size _ _),trivial,fun b hb => absurd (show b ∈ ([]:List Addr) from hb) (by simp),hok,.of_eq hg⟩
    refine codeAny_mono ((F _ hKb (nsK hns)).run callerA [] s₁ H ⟨[.ref a],[]⟩ [.ref a] [.ref a] _ _ hr e0 (hbind s₁ (.ref a)) (.cons rfl .nil) (hsp H hO hS)) fun r s' h => ?_
    cases r with
    | error e => exact (hCX H e s' h).elim
    | ok fl =>
      cases fl with
      | next => exact False.elim h
      | brk => exact False.elim h
      | cont => exact False.elim h
      | ret u =>
        obtain ⟨v,H',os,bare,un,hok',r',q⟩:=h
        have q':v = .bl true:=q
        subst q'
        obtain rfl:u = Value.bool true:=r'
        refine ⟨rfl,OldK.of_keep fun b o e => ?_,os,bare⟩
        cases q:H b with
        | none => exact un.keep b o e q (by intro z; exact absurd (show b ∈ ([]:List Addr) from z) (by simp)) (by simp)
        | some u =>
          rcases hO b with z | ⟨ob,xs,z⟩
          · rw [q] at z; cases z
          · have z2:=un.frzs b ob _ z
            obtain ⟨e1,_⟩:=hok b _ z
            obtain ⟨e2,_⟩:=hok' b _ z2
            rw [e] at e1; cases e1
            exact e2
  cases hk:K.lookup a with
  | some o =>
    -- the script is one of the module's own objects
    have e:=KX a o hk
    rw [ha] at e
    cases e
    refine core (fun _ => none) (fun _ => .inl rfl) (.inr ⟨_,vs.toArray,_,hk,rfl,rfl,rfl,by rw [List.size_toArray,lenV]; exact hl,by simpa using rv⟩) (fun b u z => by have z':(none:Option HO) = some u:=z; cases z') (fun b z => absurd rfl z) fun z => absurd rfl z
  | none =>
    refine core (fun b => if b = a then some (.frz { cls:=.type "list",data:=.seq vs.toArray } (.lst (ns.map V.int))) else none) (fun b => ?_) (.inl (.inr ⟨{ cls:=.type "list",data:=.seq vs.toArray },if_pos rfl⟩)) (fun b u z => ?_) (fun b z => ?_) fun _ => hk
    · by_cases hb:b = a
      · exact .inr ⟨_,_,if_pos hb⟩
      · exact .inl (if_neg hb)
    · by_cases hb:b = a
      · have z':=(if_pos hb).symm.trans z
        cases z'
        subst hb
        exact ⟨ha,by rw [List.length_map]; exact hl,vs,_,rv,ha⟩
      · have z':=(if_neg hb).symm.trans z
        cases z'
    · by_cases hb:b = a
      · exact hb
      · exact absurd (if_neg hb) z
end L2
namespace L2
open PySem PySem.Spec PyProof.Rows
theorem walk_of {l:PySem.W.OpenLaw} {n k:Nat} {q:Program} {loose:List Str} {XP:(Str → Option Value) → Heap → Prop} {YP:World → Heap → Prop} {d:DefRec} {K:Params → PySem.W.Frag} {CX:World → CXT} {sp:World → Sp} {x:Str}
    (hn:l.most = some n) (hn2:n ≤ sizeLine) (hdf:d.params.defaults = []) (hr:Room k callerA)
    (hY:∀ (w:World) (h:Heap),YP w h → (K w.params).In h)
    (F:∀ (w:World) (mg:Str → Option Value) (fa:Addr) (h:Heap),(K w.params).In h → h.Ns mainGlobals mg → mg d.name = some (.ref fa) →
      ∃ fd:FuncData,(∀ (s:Shared) (u:Value),BindsTo s fd ⟨[u],[]⟩ [(x,u)]) ∧
        ∀ base:Heap,(K w.params).In base → base.Ns mainGlobals mg → FnOk l.prog w (K w.params) mg base (CX w) k fa fd [x] (sp w))
    (hsp:∀ (w:World) (H:Hp) (a:Addr) (ns:List Int),ns.length ≤ n → Only H → SqL (K w.params) H a (ns.map V.int) → sp w [.ref a] H (fun v _ => v = .bl true) fun _ _ _ => False)
    (hCX:∀ (w:World) (H:Hp) (s:Shared) (e:Value) (s':Shared),CX w [] H s (fun _ _ _ => False) e s' → False) :
    PySem.W.WalkO q loose XP YP l.row.toRowW d [] (fun f vs => PySem.call f vs):=by
  refine Att.attach_call hn hdf fun w s₀ s₁ mg mb fa o pm cd doc a vs ns G Y ho hd hcd hmg hobj hints hlen hg => ?_
  have KX:=hY w _ Y
  obtain ⟨fd,hb,hF⟩:=F w mg fa _ KX G.T.g hmg
  exact law_call KX G.T.g G.T.b G.T.builtins G.T.nolimit hg hobj hints (Nat.le_trans hlen hn2) hr hF hb (fun H hO hS => hsp w H a ns hlen hO hS) fun H e s' => hCX w H s₁ e s'
end L2
namespace L2
open PySem PySem.Spec PyProof.Rows
noncomputable def defArgs (s:Stmt):Arguments:=match s with
  | .FunctionDef _ a _ _ _ _ _ _ _ _ => a
  | _ => { posonlyargs:=[],args:=[],vararg:=none,kwonlyargs:=[],kw_defaults:=[],kwarg:=none,defaults:=[] }
noncomputable def defBody (s:Stmt):List Stmt:=match s with
  | .FunctionDef _ _ b _ _ _ _ _ _ _ => b
  | _ => []
noncomputable def defScope (s:Stmt):Scope:=match s with
  | .FunctionDef _ _ _ _ _ _ sc _ _ _ => sc
  | _ => { kind:=.function,names:=[],isGenerator:=false,isCoroutine:=false }
noncomputable abbrev E0:XK:=fun _ _ _ => False
structure Fun (K:PySem.W.Frag) (x qual:Str) (st:Stmt) (f:Addr) (fd:FuncData):Prop where
  ex:∃ (oc:Value) (od:Option Addr) (kV doc pm:Value) (an:Option Addr) (cdv ct:Value) (osl:Array (Option Value)),
    fd = PySem.W.fnOf x qual (defArgs st) (defBody st) (defScope st) .none kV doc pm an cdv ct ∧ K.lookup f = some ⟨oc,od,.func fd,osl⟩ ∧ PySem.W.codeIn K cdv qual = true
  kp:PySem.W.keepIn K (.ref f) = true
section
variable {P:Program} {w:World} {K:PySem.W.Frag} {mg:Str → Option Value} {base:Heap}
theorem Fun.binds {x qual:Str} {st:Stmt} {f:Addr} {fd:FuncData} {ps:List Str} (F:Fun K x qual st f fd)
    (h:∀ (kV doc pm:Value) (an:Option Addr) (cdv ct:Value) (us:List Value),us.length = ps.length → bindArgs (PySem.W.fnOf x qual (defArgs st) (defBody st) (defScope st) .none kV doc pm an cdv ct) ⟨us,[]⟩ = pure (ps.zip us)):Binds K fd ps []:=by
  obtain ⟨oc,od,kV,doc,pm,an,cdv,ct,osl,rfl,lk,hcd⟩:=F.ex
  exact .all (h kV doc pm an cdv ct)
theorem fun_mk {x qual:Str} {st:Stmt} {f:Addr} {oc:Value} {od an:Option Addr} {osl:Array (Option Value)} {kV doc pm cdv ct:Value} (l:K.lookup f = some ⟨oc,od,.func (PySem.W.fnOf x qual (defArgs st) (defBody st) (defScope st) .none kV doc pm an cdv ct),osl⟩)
    (c:PySem.W.codeIn K cdv qual = true) (k:PySem.W.keepIn K (.ref f) = true):Fun K x qual st f (PySem.W.fnOf x qual (defArgs st) (defBody st) (defScope st) .none kV doc pm an cdv ct):=⟨⟨oc,od,kV,doc,pm,an,cdv,ct,osl,rfl,l,c⟩,k⟩
end
section
variable {X:Cx}
end
noncomputable def Same (H H':Hp):Prop:=∀ b o,H b = some o → H' b = some o
theorem Same.refl (H:Hp):Same H H:=fun _ _ h => h
end L2
namespace L2
open PySem PySem.Spec PyProof.Rows
section
variable {κ:Type} [DecidableEq κ]
noncomputable def valV (kvs:List (κ × V)) (k:κ):Option V:=(kvs.find? fun kv => decide (kv.1 = k)).map (·.2)
noncomputable def putK (kvs:List (κ × V)) (k:κ) (v:V):List (κ × V) :=
  if (kvs.any fun kv => decide (kv.1 = k)) = true then kvs.map (fun kv => if kv.1 = k then (kv.1,v) else kv) else kvs ++ [(k,v)]
theorem valV_pos {p:κ × V} {r:List (κ × V)} {k:κ} (e:p.1 = k):valV (p :: r) k = some p.2:=by simp [valV,List.find?_cons,e]
theorem valV_neg {p:κ × V} {r:List (κ × V)} {k:κ} (e:¬ p.1 = k):valV (p :: r) k = valV r k:=by simp [valV,List.find?_cons,e]
theorem valV_any (k:κ):∀ kvs:List (κ × V),(kvs.any fun kv => decide (kv.1 = k)) = (valV kvs k).isSome
  | [] => rfl
  | p :: r => by
    rw [List.any_cons]
    by_cases e:p.1 = k
    · simp only [valV_pos e,decide_eq_true e,Bool.true_or,Option.isSome_some]
    · rw [valV_neg e,decide_eq_false e,Bool.false_or]; exact valV_any k r
theorem length_putK (kvs:List (κ × V)) (k:κ) (v:V):(putK kvs k v).length ≤ kvs.length + 1:=by
  unfold putK
  split
  · rw [List.length_map]; omega
  · rw [List.length_append,List.length_cons,List.length_nil]; omega
theorem RelO.isSome_eq {o:Option V} {u:Option Value} (r:RelO o u):o.isSome = u.isSome:=by
  cases o with
  | none => cases u with
    | none => rfl
    | some _ => exact (show False from r).elim
  | some _ => cases u with
    | none => exact (show False from r).elim
    | some _ => rfl
theorem RelO.getD {o:Option V} {u:Option Value} {d:V} {d':Value} (r:RelO o u) (rd:RelV d d'):RelV (o.getD d) (u.getD d'):=by
  cases o with
  | none => cases u with
    | none => exact rd
    | some _ => exact (show False from r).elim
  | some _ => cases u with
    | none => exact (show False from r).elim
    | some _ => exact r
theorem KV.val {kvs:List (κ × V)} {vs:List (κ × Value)} (r:KV kvs vs) (k:κ):RelO (valV kvs k) (valueAt vs k):=by
  unfold KV at r
  induction r with
  | nil => exact True.intro
  | @cons p q ps qs h t ih =>
    obtain ⟨h1,h2⟩:=h
    by_cases e:p.1 = k
    · have e':q.1 = k:=h1.symm.trans e
      have b:valueAt (q :: qs) k = some q.2:=by simp [valueAt,List.find?_cons,e']
      rw [valV_pos e,b]; exact h2
    · have e':¬ q.1 = k:=fun z => e (h1.trans z)
      have b:valueAt (q :: qs) k = valueAt qs k:=by simp [valueAt,List.find?_cons,e']
      rw [valV_neg e,b]; exact ih
theorem KV.any {kvs:List (κ × V)} {vs:List (κ × Value)} (r:KV kvs vs) (k:κ):(kvs.any fun kv => decide (kv.1 = k)) = vs.any fun kv => decide (kv.1 = k):=by
  unfold KV at r
  induction r with
  | nil => rfl
  | cons h t ih => rw [List.any_cons,List.any_cons,ih,h.1]
theorem KV.repl {kvs:List (κ × V)} {vs:List (κ × Value)} (r:KV kvs vs) (k:κ) {y:V} {u:Value} (ry:RelV y u) :
    KV (kvs.map fun kv => if kv.1 = k then (kv.1,y) else kv) (vs.map fun kv => if kv.1 = k then (kv.1,u) else kv):=by
  unfold KV at r ⊢
  induction r with
  | nil => exact .nil
  | @cons p q ps qs h t ih =>
    rw [List.map_cons,List.map_cons]
    refine .cons ?_ ih
    obtain ⟨h1,h2⟩:=h
    by_cases e:p.1 = k
    · rw [if_pos e,if_pos (h1.symm.trans e)]; exact ⟨h1,ry⟩
    · rw [if_neg e,if_neg (fun z => e (h1.trans z))]; exact ⟨h1,h2⟩
theorem KV.put {kvs:List (κ × V)} {vs:List (κ × Value)} (r:KV kvs vs) (k:κ) {y:V} {u:Value} (ry:RelV y u):KV (putK kvs k y) (stored vs k u):=by
  unfold putK stored
  rw [r.any k]
  by_cases e:(vs.any fun kv => decide (kv.1 = k)) = true
  · rw [if_pos e,if_pos e]; exact r.repl k ry
  · rw [if_neg e,if_neg e]; exact Paired.snoc r ⟨rfl,ry⟩
theorem KV.length {kvs:List (κ × V)} {vs:List (κ × Value)} (r:KV kvs vs):kvs.length = vs.length:=Paired.length r
end
theorem kV_is {P:Program} {w:World} {k:Key} {u:Value} (r:RelV (kV k) u):(mixKind P w).is k u = true:=by
  cases k with
  | inl i => obtain ⟨t,e⟩:=(show ∃ t,u = Value.int i t from r); subst e; exact mixKind_int P w i t
  | inr x => obtain ⟨t,e⟩:=(show ∃ t,u = Value.str x t from r); subst e; exact mixKind_str P w x t
theorem items_are {P:Program} {w:World}:∀ {ks:List Key} {us:List Value},Vals (ks.map kV) us → ItemsAre (mixKind P w) ks us
  | [],_,r => by rw [List.map_nil] at r; cases r; exact .nil
  | k :: ks,_,r => by
    rw [List.map_cons] at r
    cases r with
    | cons h t => exact .cons (kV_is h) (items_are t)
noncomputable abbrev KT (H:Hp):List (List Key × V) → List (List Key × Addr × Value) → Prop:=Paired fun p q => p.1 = q.1 ∧ H q.2.1 = some (.tup (p.1.map kV)) ∧ RelV p.2 q.2.2
theorem KT.val {H:Hp} {kvs:List (List Key × V)} {xs:List (List Key × Addr × Value)} (r:KT H kvs xs) (k:List Key):RelO (valV kvs k) ((atKey xs k).map (·.2)):=by
  induction r with
  | nil => exact True.intro
  | @cons p q ps qs h t ih =>
    obtain ⟨h1,_,h2⟩:=h
    by_cases e:p.1 = k
    · have e':q.1 = k:=h1.symm.trans e
      have b:atKey (q :: qs) k = some q.2:=by simp [atKey,List.find?_cons,e']
      rw [valV_pos e,b]; exact h2
    · have e':¬ q.1 = k:=fun z => e (h1.trans z)
      have b:atKey (q :: qs) k = atKey qs k:=by simp [atKey,List.find?_cons,e']
      rw [valV_neg e,b]; exact ih
theorem KT.repl {H:Hp} {kvs:List (List Key × V)} {xs:List (List Key × Addr × Value)} (r:KT H kvs xs) (k:List Key) {y:V} {u:Value} (ry:RelV y u) :
    KT H (kvs.map fun kv => if kv.1 = k then (kv.1,y) else kv) (xs.map (putAt k u)):=by
  induction r with
  | nil => exact .nil
  | @cons p q ps qs h t ih =>
    rw [List.map_cons,List.map_cons]
    refine .cons ?_ ih
    obtain ⟨h1,h2,h3⟩:=h
    unfold putAt
    by_cases e:p.1 = k
    · rw [if_pos e,if_pos (h1.symm.trans e)]; exact ⟨h1,h2,ry⟩
    · rw [if_neg e,if_neg (fun z => e (h1.trans z))]; exact ⟨h1,h2,h3⟩
theorem KT.put {H:Hp} {kvs:List (List Key × V)} {xs:List (List Key × Addr × Value)} (r:KT H kvs xs) (k:List Key) {b:Addr} {y:V} {u:Value} (hb:H b = some (.tup (k.map kV))) (ry:RelV y u) :
    KT H (putK kvs k y) (storedH xs k b u):=by
  have e:(kvs.any fun kv => decide (kv.1 = k)) = (atKey xs k).isSome:=by
    rw [valV_any,(r.val k).isSome_eq,Option.isSome_map]
  unfold putK storedH
  rw [e]
  by_cases q:(atKey xs k).isSome = true
  · rw [if_pos q,if_pos q]; exact r.repl k ry
  · rw [if_neg q,if_neg q]; exact Paired.snoc r ⟨rfl,hb,ry⟩
theorem KT.keeps {H H':Hp} {kvs:List (List Key × V)} {xs:List (List Key × Addr × Value)} (r:KT H kvs xs) (ht:∀ b ys,H b = some (.tup ys) → H' b = some (.tup ys)):KT H' kvs xs :=
  Paired.mapP r fun _ _ z => ⟨z.1,ht _ _ z.2.1,z.2.2⟩
section
variable {P:Program} {w:World} {H:Hp} {h:Heap} {a:Addr}
theorem rd_of {u:HO} (ok:HOk P w H h) (e:Rd H a u):ObjOk P w H h a u:=e.ok ok
theorem dk_rd {kvs:List (Key × V)} (ok:HOk P w H h) (e:Rd H a (.dK kvs)):kvs.length ≤ sizeLine ∧ (a == sysModules) = false ∧ ∃ vs,KV kvs vs ∧ h.DictOf (mixKind P w) a vs :=
  show ObjOk P w H h a (.dK kvs) from rd_of ok e
theorem dk_of {kvs:List (Key × V)} (ok:HOk P w H h) (e:H a = some (.dK kvs)):kvs.length ≤ sizeLine ∧ (a == sysModules) = false ∧ ∃ vs,KV kvs vs ∧ h.DictOf (mixKind P w) a vs:=dk_rd ok (.inl e)
theorem key_of {ks:List Key} (ok:HOk P w H h) (e:H a = some (.tup (ks.map kV))):(tupleKind (mixKind P w)).is h ks a:=by
  obtain ⟨_,its,r,o,h1,h2,n,h3⟩:=(show ObjOk P w H h a (.tup (ks.map kV)) from ok a _ e)
  exact ⟨o,its.toArray,n,h1,h2,h3,by simpa using items_are r⟩
theorem dt_rd {kvs:List (List Key × V)} (ok:HOk P w H h) (e:Rd H a (.dT kvs)):kvs.length ≤ sizeLine ∧ (a == sysModules) = false ∧
    ∃ xs,KT H kvs xs ∧ h.DictOfH (tupleKind (mixKind P w)) a xs:=by
  obtain ⟨z,y,xs,r,o,es,ep,h1,h2,h3,h4,h5⟩:=(show ObjOk P w H h a (.dT kvs) from rd_of ok e)
  refine ⟨z,y,xs,r,o,es,ep,h1,h2,h3,h4,fun x hx => ?_,h5⟩
  have all:∀ {l:List (List Key × V)} {m:List (List Key × Addr × Value)},KT H l m → ∀ x ∈ m,(tupleKind (mixKind P w)).is h x.1 x.2.1:=by
    intro l m q
    induction q with
    | nil => intro x hx; exact nomatch hx
    | @cons p q ps qs hq t ih =>
      intro x hx
      rcases List.mem_cons.mp hx with e | hx
      · subst e
        exact key_of ok (by rw [← hq.1]; exact hq.2.1)
      · exact ih x hx
  exact all r x hx
theorem dt_of {kvs:List (List Key × V)} (ok:HOk P w H h) (e:H a = some (.dT kvs)):kvs.length ≤ sizeLine ∧ (a == sysModules) = false ∧
    ∃ xs,KT H kvs xs ∧ h.DictOfH (tupleKind (mixKind P w)) a xs:=dt_rd ok (.inl e)
end
noncomputable def DGet (H:Hp) (a:Addr) (y:V) (r:Option V):Prop :=
  (∃ kvs k,Rd H a (.dK kvs) ∧ y = kV k ∧ r = valV kvs k) ∨ ∃ kvs k b,Rd H a (.dT kvs) ∧ y = .ref b ∧ H b = some (.tup (k.map kV)) ∧ r = valV kvs k
noncomputable def DPut (H:Hp) (a:Addr) (y v:V) (H':Hp):Prop :=
  (∃ kvs k,H a = some (.dK kvs) ∧ y = kV k ∧ kvs.length < sizeLine ∧ H' = upd H a (.dK (putK kvs k v))) ∨
  ∃ kvs k b,H a = some (.dT kvs) ∧ y = .ref b ∧ H b = some (.tup (k.map kV)) ∧ kvs.length < sizeLine ∧ H' = upd H a (.dT (putK kvs k v))
theorem DGet.k {H:Hp} {a:Addr} {kvs:List (Key × V)} {k:Key} (e:H a = some (.dK kvs)):DGet H a (kV k) (valV kvs k):=.inl ⟨kvs,k,.inl e,rfl,rfl⟩
theorem DGet.t {H:Hp} {a b:Addr} {kvs:List (List Key × V)} {k:List Key} (e:H a = some (.dT kvs)) (eb:H b = some (.tup (k.map kV))):DGet H a (.ref b) (valV kvs k):=.inr ⟨kvs,k,b,.inl e,rfl,eb,rfl⟩
theorem DPut.k {H:Hp} {a:Addr} {kvs:List (Key × V)} {k:Key} {v:V} (e:H a = some (.dK kvs)) (hl:kvs.length < sizeLine):DPut H a (kV k) v (upd H a (.dK (putK kvs k v))):=.inl ⟨kvs,k,e,rfl,hl,rfl⟩
theorem DPut.t {H:Hp} {a b:Addr} {kvs:List (List Key × V)} {k:List Key} {v:V} (e:H a = some (.dT kvs)) (eb:H b = some (.tup (k.map kV))) (hl:kvs.length < sizeLine) :
    DPut H a (.ref b) v (upd H a (.dT (putK kvs k v))):=.inr ⟨kvs,k,b,e,rfl,eb,hl,rfl⟩
section
variable {X:Cx} {pins:List (Addr × Obj)} {σ:St} {H:Hp} {s:Shared} {a:Addr} {y v:V} {u r:Value} {o:Option V} {A:Around} {E:Value → Shared → Prop}
theorem Inv.big (I:Inv X pins σ H s):sysModules < s.heap.objs.size:=by
  have h:mainGlobals < s.heap.objs.size:=(I.mod.glob.keeps I.bk).lt
  exact Nat.lt_trans (by decide) h
theorem d_getItem {Q:Value → Shared → Prop} (hu:A.units + 1 < cLine) (I:Inv X pins σ H s) (g:DGet H a y (some v)) (ry:RelV y u) (h:∀ w' s',Inv X pins σ H s' → RelV v w' → Q w' s') :
    wpAny (model X.prog X.w) A (getItem (.ref a) u) Q E s:=by
  rcases g with ⟨kvs,k,e,ey,l⟩ | ⟨kvs,k,b,e,ey,eb,l⟩
  · subst ey
    obtain ⟨z,hd,vs,rel,dd⟩:=dk_rd I.hok e
    obtain ⟨w',hw,rw'⟩:=RelO.some_of (v:=v) (o:=valueAt vs k) (by rw [l]; exact rel.val k)
    exact wpAny_getItem_of (kV_is ry) dd.mapOf hw (h w' _ (I.tok _) rw')
  · subst ey
    cases (show u = Value.ref b from ry)
    obtain ⟨z,hd,xs,rel,dd⟩:=dt_rd I.hok e
    obtain ⟨w',hw,rw'⟩:=RelO.some_of (v:=v) (o:=(atKey xs k).map (·.2)) (by rw [l]; exact rel.val k)
    obtain ⟨p,hp,hp2⟩:=Option.map_eq_some_iff.mp hw
    refine wpAny_getItem_heap (tupleKind_room_in1 hu) (key_of I.hok eb) dd hp ?_
    rw [hp2]
    exact h w' _ (I.tok _) rw'
theorem d_write {h':Heap} {t':Nat} {ob:HO} (I:Inv X pins σ H s) (mu:Mut (H a)) (hs:Heap.SameBut a s.heap h') (he:∃ q,h'.get? a = some q) (new:ObjOk X.prog X.w (upd H a ob) h' a ob) :
    Inv X pins σ (upd H a ob) { s with heap:=h',toks:=t' } :=
  I.write (x:=a) (e:=a) mu (.inl rfl) (fun b q hb z => (hs.2 b hb).trans z) he new
theorem dk_new {P:Program} {w:World} {H':Hp} {h':Heap} {kvs:List (Key × V)} {vs:List (Key × Value)} (z:kvs.length ≤ sizeLine) (hd:(a == sysModules) = false) (rel:KV kvs vs) (dd:h'.DictOf (mixKind P w) a vs) :
    ObjOk P w H' h' a (.dK kvs):=⟨z,hd,vs,rel,dd⟩
theorem d_setItem {H':Hp} {Q:Unit → Shared → Prop} (hu:A.units + 1 < cLine) (I:Inv X pins σ H s) (g:DPut H a y v H') (ry:RelV y u) (rv:RelV v r) (h:∀ s',Inv X pins σ H' s' → Q () s') :
    wpAny (model X.prog X.w) A (setItem (.ref a) u r) Q E s:=by
  rcases g with ⟨kvs,k,e,ey,l,eH⟩ | ⟨kvs,k,b,e,ey,eb,l,eH⟩
  · subst ey eH
    obtain ⟨z,hd,vs,rel,dd⟩:=dk_of I.hok e
    have hz:vs.length ≤ sizeLine:=by rw [← rel.length]; exact z
    have hl:(putK kvs k v).length ≤ sizeLine:=by have:=length_putK kvs k v; omega
    refine wpAny_setItem_pairs (hsz:=hz) (kV_is ry) dd fun h' dd' hs => h _ ?_
    have he:∃ q,h'.get? a = some q:=let ⟨q,_,_,hq,_⟩:=dd'; ⟨q,hq⟩
    exact d_write I (by rw [e]; exact True.intro) hs he (dk_new hl hd (rel.put k rv) dd')
  · subst ey eH
    cases (show u = Value.ref b from ry)
    obtain ⟨z,hd,xs,rel,dd⟩:=dt_of I.hok e
    have hz:xs.length ≤ sizeLine:=by rw [← Paired.length rel]; exact z
    have hl:(putK kvs k v).length ≤ sizeLine:=by have:=length_putK kvs k v; omega
    refine wpAny_setItem_heap (hsz:=hz) (tupleKind_room_in1 hu) (key_of I.hok eb) dd fun h' dd' hs => h _ ?_
    obtain ⟨q,es,ep,hq,h2,h3,h4,_,h5⟩:=dd'
    refine d_write I (by rw [e]; exact True.intro) hs ⟨q,hq⟩ ⟨hl,hd,_,(rel.put k eb rv).keeps fun c ys ec => ?_,q,es,ep,hq,h2,h3,h4,h5⟩
    rw [upd_ne (ne_of ec e (fun z => nomatch z))]
    exact ec
end
section
variable {X:Cx} {pins:List (Addr × Obj)} {σ:St} {H:Hp} {s:Shared} {a:Addr} {kvs:List (Key × V)} {k:Key} {u:Value} {A:Around} {E:Value → Shared → Prop}
end
noncomputable def NoSl (i:Expr):Prop:=∀ ov iv,subscripted i false ov iv = operate [ov,iv] (getItem ov iv)
theorem subD_of {prog:Program} {w:World} {A:Around} {E:Value → Shared → Prop} {s:Shared} {env:Env} {value slice:Expr} {pos:Pos} {T id:String} {Q:Value → Shared → Prop}
    (hl:typeLookup (.type T) "__getitem__" = pure (some (.builtin id))) (hs:NoSl slice)
    (h:wpAny (model prog w) A (eval value env) (fun o s₁ => wpAny (model prog w) A (eval slice env) (fun i s₂ => s₂.TypeIs o T ∧ wpAny (model prog w) A (getItem o i) Q E s₂) E s₁) E s) :
    wpAny (model prog w) A (eval (.Subscript value slice pos) env) Q E s:=by
  refine Subscript_ (wpAny_mono h (fun o s₁ h₁ => wpAny_mono h₁ (fun i s₂ h₂ => ?_) fun _ _ x => x) fun _ _ x => x)
  obtain ⟨hT,h₂⟩:=h₂
  unfold subscriptTail
  refine wpAny_bind ?_
  rw [getitemInPython_of_ne hT.not_modules]
  refine wpAny_bind (wpAny_specialOf hT hl ?_)
  have fin:wpAny (model prog w) A (subscripted slice false o i) (fun r s₃ => wpAny (model prog w) A (letTemporaryGo value o r >>= fun _ => pure r) Q E s₃) E s₂:=by
    rw [hs o i]
    exact wpAny_operating (wpAny_mono h₂ (fun r s₃ h₃ => wpAny_bind (wpAny_letTemporaryGo (wpAny_pure h₃))) fun _ _ x => x)
  first
    | exact wpAny_pure (wpAny_bind fin)
    | exact wpAny_bind (wpAny_pure (wpAny_bind fin))
    | exact wpAny_bind fin
theorem dict_typeIs {X:Cx} {pins:List (Addr × Obj)} {σ:St} {H:Hp} {s:Shared} {a:Addr} {y:V} {o:Option V} (I:Inv X pins σ H s) (g:DGet H a y o):s.TypeIs (.ref a) "dict":=by
  rcases g with ⟨kvs,k,e,_,_⟩ | ⟨kvs,k,b,e,_,_,_⟩
  · obtain ⟨_,_,vs,_,dd⟩:=dk_rd I.hok e
    exact dd.typeIs
  · obtain ⟨_,_,xs,_,dd⟩:=dt_rd I.hok e
    exact dd.typeIs
noncomputable def tDGet (td ty:TE):TE:=fun σ H Q => td σ H fun x H1 => ty σ H1 fun y H2 => ∃ a v,x = .ref a ∧ DGet H2 a y (some v) ∧ Q v H2
noncomputable def sDPut (td ty tv:TE):TS:=fun D σ H => tv σ H fun v H1 => td σ H1 fun x H2 => ty σ H2 fun y H3 => ∃ a H4,x = .ref a ∧ DPut H3 a y v H4 ∧ D.nx σ H4
section
variable {X:Cx} {o i e value:Expr} {pos pos' tpos:Pos} {td ty tv:TE}
theorem pe_dget (hu:X.A.units + 1 < cLine) (ho:PE X o td) (hi:PE X i ty) (hs:NoSl i):PE X (.Subscript o i pos) (tDGet td ty):=by
  intro pins s σ H Q I h
  refine subD_of PySem.F.slot_dict_getitem.lookup hs (thn (ho pins s σ H _ I h) fun u s1 ⟨x,H1,I1,rx,q1⟩ => thn (hi pins s1 σ H1 _ I1 q1) fun iv s2 ⟨y,H2,I2,ry,a,v,ex,g,q2⟩ => ?_)
  subst ex
  obtain rfl:u = Value.ref a:=rx
  exact ⟨dict_typeIs I2 g,d_getItem hu I2 g ry fun w' s3 I3 rw' => ⟨v,H2,I3,rw',q2⟩⟩
theorem ps_dput (hu:X.A.units + 1 < cLine) (ho:PE X o td) (hi:PE X i ty) (hv:PE X value tv) (hs:swapsWith value (some (.Subscript o i pos')) pos.line X.env = pure false) :
    PS X (.Assign [.Subscript o i pos'] value pos) (sDPut td ty tv):=by
  intro pins s σ H D I h
  refine wpAny_Assign_Subscript (thn (hv pins s σ H _ I h) fun r s1 ⟨v,H1,I1,rv,q1⟩ => thn (ho pins s1 σ H1 _ I1 q1) fun u s2 ⟨x,H2,I2,rx,q2⟩ => thn (hi pins s2 σ H2 _ I2 q2) fun iv s3 ⟨y,H3,I3,ry,a,H4,ex,g,q3⟩ => ?_) hs
  subst ex
  obtain rfl:u = Value.ref a:=rx
  exact d_setItem hu I3 g ry rv fun s4 I4 => ⟨σ,H4,I4,q3⟩
end
theorem dt_empty {P:Program} {w:World} {H:Hp} (h:Heap) (hb:sysModules < h.objs.size):ObjOk P w H (h.push { cls:=.type "dict",data:=.dict #[] }) h.objs.size (.dT []) :=
  ⟨Nat.zero_le _,beq_eq_false_iff_ne.mpr (Ne.symm (Nat.ne_of_lt hb)),[],.nil,_,#[],0,Heap.get?_push_size _ rfl,⟨rfl,rfl,rfl⟩,rfl,rfl,List.nodup_nil⟩
noncomputable def tDNewT:TE:=fun _ H Q => ∀ p,H p = none → Q (.ref p) (upd H p (.dT []))
section
variable {X:Cx} {pos:Pos}
theorem pe_dnewT:PE X (.Dict [] [] pos) tDNewT:=fun pins s σ H Q I h =>
  wpAny_Dict_empty ⟨.ref s.heap.objs.size,_,I.laid (a:=s.heap.objs.size) (o:=.dT []) (t':=s.toks) (fun _ _ q => Heap.get?_push_of_some _ q) (Nat.le_refl _) (dt_empty s.heap I.big),rfl,h _ (I.hok.fresh (Nat.le_refl _))⟩
end
structure M2 (X:Cx) (o:Expr) (m:Str) (apos:Pos) (e f:Expr) (cpos:Pos):Prop where
  base:attributeBase o m X.env (eval o X.env) = eval o X.env
  few:((backTo cpos (starEach [e,f] X.env)).all (fun x => !x.1) && (backToKw cpos (keywordEach [] X.env)).all (fun x => x.1.isSome)
    && decide (([e,f]:List Expr).length + ([]:List Keyword).length + (if ([]:List Keyword).isEmpty then 0 else 1) < 30)) = true
  line:(apos.endLine == cpos.line) = true
  trees:backTo cpos (starEach [e,f] X.env) = [(false,eval e X.env),(false,eval f X.env)]
noncomputable def IsD (H:Hp) (a:Addr):Prop:=(∃ kvs,Rd H a (.dK kvs)) ∨ ∃ kvs,Rd H a (.dT kvs)
theorem isD_at {X:Cx} {pins:List (Addr × Obj)} {σ:St} {H:Hp} {s:Shared} {a:Addr} (I:Inv X pins σ H s) (d:IsD H a) :
    s.TypeIs (.ref a) "dict" ∧ (∀ b,Value.ref a = .ref b → ∃ ob,s.heap.get? b = some ob ∧ ob.dict = none) ∧ (a == sysModules) = false:=by
  rcases d with ⟨kvs,e⟩ | ⟨kvs,e⟩
  · obtain ⟨_,hd,vs,_,dd⟩:=dk_rd I.hok e
    refine ⟨dd.typeIs,fun b q => ?_,hd⟩
    cases q
    obtain ⟨ob,_,_,h1,h2,_⟩:=dd
    exact ⟨ob,h1,h2.2.1⟩
  · obtain ⟨_,hd,xs,_,dd⟩:=dt_rd I.hok e
    refine ⟨dd.typeIs,fun b q => ?_,hd⟩
    cases q
    obtain ⟨ob,_,_,h1,h2,_⟩:=dd
    exact ⟨ob,h1,h2.2.1⟩
section
variable {X:Cx} {pins:List (Addr × Obj)} {σ:St} {H:Hp} {s:Shared} {a:Addr} {y d:V} {u r:Value} {o:Option V} {A:Around} {E:Value → Shared → Prop}
theorem d_get2 {Q:Value → Shared → Prop} (hu:A.units + 1 < cLine) (I:Inv X pins σ H s) (g:DGet H a y o) (ry:RelV y u) (rd:RelV d r) (h:∀ w' s',Inv X pins σ H s' → RelV (o.getD d) w' → Q w' s') :
    wpAny (model X.prog X.w) A (call (.builtin "dict.get") [.ref a,u,r]) Q E s:=by
  rcases g with ⟨kvs,k,e,ey,l⟩ | ⟨kvs,k,b,e,ey,eb,l⟩
  · subst ey
    obtain ⟨z,hd,vs,rel,dd⟩:=dk_rd I.hok e
    refine call_meetsIn PySem.F.slot_dict_get dd.typeIs PySem.F.entry_dict_get (PySem.F.args_dict_get_3 _ _ _) (meets_dict_get_default (mixKind X.prog X.w) a (kV_is ry) hd r) ⟨_,dd.mapOf,h _ _ (I.tok _) ?_⟩
    rw [l]
    exact (rel.val k).getD rd
  · subst ey
    cases (show u = Value.ref b from ry)
    obtain ⟨z,hd,xs,rel,dd⟩:=dt_rd I.hok e
    refine call_meetsIn PySem.F.slot_dict_get dd.typeIs PySem.F.entry_dict_get (PySem.F.args_dict_get_3 _ _ _) (meetsH_dict_get_default (tupleKind (mixKind X.prog X.w)) a b hd r) ⟨tupleKind_room_in1 hu,k,xs,key_of I.hok eb,dd,h _ _ (I.tok _) ?_⟩
    rw [l]
    exact (rel.val k).getD rd
end
noncomputable def tDGet2 (td ty tx:TE):TE:=fun σ H Q => td σ H fun x H1 => ∃ a,x = .ref a ∧ IsD H1 a ∧ ty σ H1 fun y H2 => tx σ H2 fun z H3 => ∃ o,DGet H3 a y o ∧ Q (o.getD z) H3
section
variable {X:Cx} {o e f:Expr} {apos cpos:Pos} {td ty tx:TE}
theorem pe_dget2 (hu:X.A.units + 1 < cLine) (ho:PE X o td) (he:PE X e ty) (hf:PE X f tx) (m:M2 X o "get" apos e f cpos):PE X (.Call (.Attribute o "get" apos) [e,f] [] cpos) (tDGet2 td ty tx):=by
  intro pins s σ H Q I h
  refine wpAny_Call_method m.base m.few m.line PySem.F.plainAttrs_dict PySem.F.slot_dict_get PySem.F.type_dict_get (thn (ho pins s σ H _ I h) fun u s1 ⟨x,H1,I1,rx,a,ex,d,q1⟩ => ?_)
  subst ex
  obtain rfl:u = Value.ref a:=rx
  obtain ⟨t1,t2,_⟩:=isD_at I1 d
  refine ⟨t1,t2,?_⟩
  rw [m.trees]
  refine Calls.callWith_builtin rfl (Calls.evalArgs_plain (Calls.spliced_cons (thn (he pins s1 σ H1 _ I1 q1) fun iv s2 ⟨y,H2,I2,ry,q2⟩ =>
    Calls.spliced_cons (thn (hf pins s2 σ H2 _ I2 q2) fun fv s3 ⟨z,H3,I3,rz,ov,g,q3⟩ => Calls.spliced_nil ?_))))
  exact d_get2 hu I3 g ry rz fun w' s4 I4 rw' => ⟨_,H3,I4,rw',q3⟩
end
section
variable {X:Cx} {pins:List (Addr × Obj)} {σ:St} {H:Hp} {s:Shared} {a:Addr} {kvs:List (Key × V)} {A:Around} {E:Value → Shared → Prop}
end
section
variable {X:Cx} {pins:List (Addr × Obj)} {σ:St} {H:Hp} {s:Shared} {a:Addr} {y:V} {u:Value} {A:Around} {E:Value → Shared → Prop}
end
section
variable {κ:Type} [DecidableEq κ]
end
end L2
namespace L2
open PySem PySem.Spec PyProof.Rows
theorem Same.upd {H H':Hp} {p:Addr} {o:HO} (e:Same H H') (h:H' p = none):Same H (upd H' p o):=fun b u q => by
  rw [upd_ne (ne_of_none (e b u q) h)]
  exact e b u q
noncomputable def Big (k:Nat) (i:Int):Prop:=i.natAbs < 2 ^ k
theorem Big.bits {k:Nat} {i:Int} (h:Big k i):Builtin.Int.intBits i ≤ k:=by
  unfold Builtin.Int.intBits
  by_cases hz:(i == 0) = true
  · rw [if_pos hz]; exact Nat.zero_le _
  · rw [if_neg hz]
    have h0:i.natAbs ≠ 0:=by
      intro e
      apply hz
      have:i = 0:=Int.natAbs_eq_zero.mp e
      simp [this]
    have:=(Nat.log2_lt h0).mpr h
    omega
theorem Big.small {k:Nat} {i:Int} (hk:10 ≤ k) (h0:-1000 < i) (h1:i < 1000):Big k i:=by
  show i.natAbs < 2 ^ k
  have:2 ^ 10 ≤ 2 ^ k:=Nat.pow_le_pow_right (by decide) hk
  omega
noncomputable def CMulB (i j:Int):Prop:=∃ a b,Big a i ∧ Big b j ∧ a ≤ 2 ^ 20 ∧ b ≤ 2 ^ 20
theorem CMulB.ok {i j:Int} (h:CMulB i j):IntMulOk i j:=by
  obtain ⟨a,b,h1,h2,h3,h4⟩:=h
  exact IntMulOk.of_bits (Nat.le_trans h1.bits h3) (Nat.le_trans h2.bits h4)
noncomputable def CDivB (i j:Int):Prop:=j ≠ 0 ∧ Big 9000 j
theorem CDivB.ok {i j:Int} (h:CDivB i j):Builtin.divisionGoesByPylong i j = false :=
  PyProof.noPylong_of_log2 ((Nat.log2_lt (by intro e; exact h.1 (Int.natAbs_eq_zero.mp e))).mpr h.2)
section
variable {X:Cx}
theorem op_mulB:OpR X (binaryOp .Mult) (rI CMulB fun i j => .int (i * j)):=opI fun _ _ _ _ _ _ _ hc q => PyProof.Rows.mul_int q hc.ok
theorem op_fdivB:OpR X (binaryOp .FloorDiv) (rI CDivB fun i j => .int (i.fdiv j)):=opI fun _ _ _ _ _ _ _ hc q => floordiv_int hc.1 q (.inl hc.ok)
end
end L2
namespace L2
open PySem PySem.Spec PyProof.Rows
theorem compLoop_gen {prog:Program} {w:World} {A:Around} {s:Shared} {elt target iter:Expr} {ifs:List Expr} {scope:Scope} {pos:Pos} {it acc:Value} {env:Env} {R:Result → Shared → Prop} (I:Nat → Shared → Prop)
    (turn:∀ n s,I n s → wpAny (model prog w) A (pyNext it) (fun r s₁ => match r with
      | none => R (.ok .next) s₁
      | some v => wpAny (model prog w) A (letOwnedTupleGo target it v) (fun _ s₁' => wpAny (model prog w) A (assign target env v) (fun _ s₂ =>
          wpAny (model prog w) A (forIn ifs true fun c r => if r = true then do let ok ← isTrue c env (eval c env); pure (ForInStep.yield ok) else pure (ForInStep.yield r)) (fun ok s₃ =>
            if ok = true then wpAny (model prog w) A (eval elt env) (fun x s₄ =>
              wpAny (model prog w) A (call (.builtin "list.append") [acc,x]) (fun _ s₅ => ∃ m,m < n ∧ I m s₅) (fun _ _ => False) s₄) (fun _ _ => False) s₃
            else ∃ m,m < n ∧ I m s₃) (fun _ _ => False) s₂) (fun _ _ => False) s₁') (fun _ _ => False) s₁) (fun _ _ => False) s)
    (n:Nat) (h:I n s):codeAny (model prog w) A (.compLoop (.ListComp elt [⟨target,iter,ifs,0⟩] scope pos) 0 it acc env) R s:=by
  refine codeAny_loop rfl I (fun n s hI => ?_) n h
  show wpAny _ A ((compTurn (.ListComp elt [⟨target,iter,ifs,0⟩] scope pos) 0 it acc env).onRaise (fun x => do noteFrame x env; theTreesLotGoes x)) _ _ s
  refine wpAny_noted ?_
  rw [compTurn_list]
  refine wpAny_bind (wpAny_standAt (wpAny_bind (wpAny_mono (turn n s hI) (fun r s₁ h₁ => ?_) fun _ _ h' => h'.elim)))
  cases r with
  | none => exact wpAny_pure h₁
  | some v =>
    refine wpAny_bind (wpAny_mono h₁ (fun _ s₁' h₁' => ?_) fun _ _ h' => h'.elim)
    refine wpAny_bind (wpAny_mono h₁' (fun _ s₂ h₂ => wpAny_bind (wpAny_mono h₂ (fun ok s₃ h₃ => ?_) fun _ _ h' => h'.elim)) fun _ _ h' => h'.elim)
    cases ok with
    | false => exact wpAny_pure ⟨rfl,h₃⟩
    | true => exact wpAny_bind (wpAny_bind (wpAny_mono h₃ (fun x s₄ h₄ => wpAny_bind (wpAny_mono h₄ (fun _ s₅ h₅ => wpAny_pure (wpAny_pure ⟨rfl,h₅⟩)) fun _ _ h' => h'.elim)) fun _ _ h' => h'.elim))
noncomputable def PIf (X:Cx) (ifs:List Expr) (t:TT):Prop :=
  ∀ (pins:List (Addr × Obj)) (s:Shared) (σ:St) (H:Hp) (Q:Bool → Hp → Prop),Inv X pins σ H s → t σ H Q →
    wpAny (model X.prog X.w) X.A (forIn ifs true fun c r => if r = true then do let ok ← isTrue c X.env (eval c X.env); pure (ForInStep.yield ok) else pure (ForInStep.yield r)) (TP X pins σ Q) X.xe s
noncomputable def tTrue:TT:=fun _ H Q => Q true H
theorem pif_nil {X:Cx}:PIf X [] tTrue:=fun _ _ _ H _ I h => wpAny_tests_nil ⟨H,I,h⟩
theorem pif_one {X:Cx} {c:Expr} {t:TT} (h:PT X c t):PIf X [c] t:=fun pins s σ H Q I hw => wpAny_tests_one (h pins s σ H Q I hw)
theorem HOk.track {P:Program} {w:World} {H:Hp} {h:Heap} {a:Addr} {o:HO} (x:HOk P w H h) (hn:H a = none) (new:ObjOk P w (upd H a o) h a o):HOk P w (upd H a o) h:=fun b u e => by
  by_cases hb:b = a
  · subst hb; rw [upd_same] at e; cases e; exact new
  · rw [upd_ne hb] at e
    exact (x b u e).stay (fun c v _ q => q) (fun c q => by rw [upd_ne (ne_of_none q hn)]; exact q) fun c xs q => by rw [upd_ne (ne_of_none q hn)]; exact q
noncomputable def cxB (X:Cx) (N:List Str) (scope:Scope) (cl:List (Str × Addr)) (C:Addr) (fp:List Addr) (s:Shared) (H:Hp):Cx :=
  { X with N:=N,s₀:=s,H₀:=H,env:=compEnvC scope cl C X.env,outer:=X.stack,stack:=X.stack,ex:=fp,fn:=fun _ => false,pn:=[],xe:=fun _ _ => False }
noncomputable def capS (k:Nat) (caps:List Nat) (σ:St):St:=List.replicate k none ++ caps.map fun j => (σ[j]?).getD none
structure Caps (X:Cx) (N:List Str) (scope:Scope) (cl:List (Str × Addr)) (k:Nat) (caps:List Nat):Prop where
  clos:closureFor scope X.env = pure cl
  sub:∀ x c,cl.lookup x = some c → X.env.cells.lookup x = some c
  has:∀ x,((relabel scope X.env).names.lookup x = some .cell ∨ (relabel scope X.env).names.lookup x = some .free) → ∃ c,cl.lookup x = some c
  nocell:∀ x ∈ scope.names,x.2 ≠ .cell
  kind:scope.kind = .function
  names:∀ x ∈ scope.names,x.2 = .local → scope.names.lookup x.1 = some .local
  len:N.length = k + caps.length
  at_:∀ i j x,caps[i]? = some j → N[k + i]? = some x → X.N[j]? = some x ∧ (X.env.kindOf x = some .cell ∨ X.env.kindOf x = some .free) ∧ ((relabel scope X.env).names.lookup x = some .cell ∨ (relabel scope X.env).names.lookup x = some .free)
noncomputable def CompW (J:It) (k:Nat) (caps:List Nat) (g:TG) (tt:TT) (te:TE) (σ:St) (H1:Hp) (Q:VK):Prop :=
  ∃ W:Nat → Nat → List V → St → Hp → Prop,(∃ m,W 0 m [] (capS k caps σ) H1) ∧ ∀ i m ys τ H,W i m ys τ H →
    (J.stop i H ∧ ys.length ≤ sizeLine ∧ ∀ p,H p = none → Q (.ref p) (upd H p (.lst ys))) ∨
    (J.go i H ∧ ys.length < sizeLine ∧ ∀ x H',J.yld i H x H' → g x τ H' fun τ2 H2 => tt τ2 H2 fun b H3 => if b = true then te τ2 H3 fun y H4 => ∃ m',m' < m ∧ W (i + 1) m' (ys ++ [y]) τ2 H4 else ∃ m',m' < m ∧ W (i + 1) m' ys τ2 H3)
@[irreducible] def tComp (k:Nat) (caps:List Nat) (wi:TI) (g:TG) (tt:TT) (te:TE):TE:=fun σ H Q => wi σ H fun J H1 => CompW J k caps g tt te σ H1 Q
theorem tComp_by {k:Nat} {caps:List Nat} {wi:TI} {g:TG} {tt:TT} {te:TE} {σ:St} {H:Hp} {Q:VK} (h:wi σ H fun J H1 => CompW J k caps g tt te σ H1 Q):tComp k caps wi g tt te σ H Q:=by
  unfold tComp
  exact h
theorem tComp_out {k:Nat} {caps:List Nat} {wi:TI} {g:TG} {tt:TT} {te:TE} {σ:St} {H:Hp} {Q:VK} (h:tComp k caps wi g tt te σ H Q):wi σ H fun J H1 => CompW J k caps g tt te σ H1 Q:=by
  unfold tComp at h
  exact h
section
variable {X:Cx} {pins:List (Addr × Obj)} {σ:St} {H:Hp} {s:Shared}
theorem cap_get {k:Nat} {caps:List Nat} {σ:St} {i:Nat} {v:V} (h:(capS k caps σ)[i]? = some (some v)):∃ j,k ≤ i ∧ caps[i - k]? = some j ∧ σ[j]? = some (some v):=by
  unfold capS at h
  by_cases hi:i < k
  · rw [List.getElem?_append_left (by simpa using hi),List.getElem?_replicate] at h
    split at h <;> cases h
  · rw [List.getElem?_append_right (by simpa using Nat.le_of_not_lt hi),List.length_replicate,List.getElem?_map] at h
    cases e:caps[i - k]? with
    | none => rw [e] at h; cases h
    | some j =>
      rw [e] at h
      refine ⟨j,Nat.le_of_not_lt hi,rfl,?_⟩
      have h':(σ[j]?).getD none = some v:=by simpa using h
      cases q:σ[j]? with
      | none => rw [q] at h'; cases h'
      | some o => rw [q] at h'; exact congrArg some h'
theorem Inv.block {N:List Str} {scope:Scope} {cl:List (Str × Addr)} {k:Nat} {caps:List Nat} {fp:List Addr} {C:Addr} {h':Heap} {t':Nat} {m':Str → Option Value}
    (I:Inv X pins σ H s) (B:Caps X N scope cl k caps) (hf:∀ b ∈ fp,FpOk X pins H b) (hC:s.heap.objs.size ≤ C) (hfp:∀ b ∈ fp,∃ o,s.heap.get? b = some o)
    (kp:∀ b o,s.heap.get? b = some o → h'.get? b = some o) (ns:h'.Ns C m'):Inv (cxB X N scope cl C fp s H) [] (capS k caps σ) H { s with heap:=h',toks:=t' }:=by
  have below:∀ {b:Addr} {o:Obj},s.heap.get? b = some o → b ≠ C:=fun e => Nat.ne_of_lt (Nat.lt_of_lt_of_le (Heap.lt_size e) hC)
  have cellC:∀ x c,cl.lookup x = some c → ∃ v,s.heap.IsCell c v:=fun x c e => I.cell x c (B.sub x c e)
  refine ⟨⟨I.ok.mod,?_,I.ok.glob,I.ok.blt,hC,fun x y c h1 h2 => I.ok.inj x y c (B.sub x c h1) (B.sub y c h2),fun x hx => B.has x hx,fun x c h1 _ => ?_,I.ok.hd,I.ok.frames,.inl rfl,fun b hb => ⟨?_,fun x c e => ?_⟩,I.bs,Nat.le_trans I.ok.bsz I.sz,fun b o e hb => ?_,fun b hb => ?_,I.stack,I.stkFree⟩,
    rfl,I.bare,Un.kept kp,⟨m',ns,fun i x v h1 h2 h3 => ?_⟩,fun x c e => ?_,?_,fun x c e => I.freeC x c (B.sub x c e),fun p hp => absurd (show p ∈ ([]:List (Addr × Obj)) from hp) (by simp),I.hok.kept kp,?_⟩
  · exact B.kind
  · exact absurd h1 (by simp [cxB])
  · obtain ⟨o,e⟩:=hfp b hb
    exact below e
  · exact (hf b hb).2.2.2.2.1 x c (B.sub x c e)
  · obtain ⟨_,_,_,h4,_⟩:=hf b hb
    rcases h4 with z | z
    · exact I.ok.noex b o e z
    · exact absurd (Nat.lt_of_lt_of_le (Heap.lt_size (I.ok.bs b o e).1) z) (Nat.lt_irrefl _)
  · intro z
    rcases List.mem_cons.mp (I.stkSub b z) with e | e
    · exact (hf b hb).2.1 e
    · exact (hf b hb).2.2.1 e
  · obtain ⟨j,hk,hj,hσ⟩:=cap_get h2
    have hN:N[k + (i - k)]? = some x:=by rw [Nat.add_sub_cancel' hk]; exact h1
    obtain ⟨a1,a2,a3⟩:=B.at_ (i - k) j x hj hN
    obtain ⟨m,hn,hl⟩:=I.loc
    have vis:Vis X.env.scope x:=by
      rcases a2 with z | z
      · exact .inr (.inl z)
      · exact .inr (.inr z)
    obtain ⟨u,r,l⟩:=hl j x v a1 hσ vis
    refine ⟨u,r,.inr ⟨a3,?_⟩⟩
    rcases l with ⟨z,_⟩ | ⟨_,c,e,cc⟩
    · rcases a2 with y | y <;> (rw [z] at y; cases y)
    · obtain ⟨c',e'⟩:=B.has x a3
      have:X.env.cells.lookup x = some c':=B.sub x c' e'
      rw [e] at this
      cases this
      obtain ⟨o,ho,hd⟩:=cc
      exact ⟨c,e',o,kp c o ho,hd⟩
  · obtain ⟨v,o,ho,hd⟩:=cellC x c e
    exact ⟨v,o,kp c o ho,hd⟩
  · exact I.hok.fresh hC
  · show (capS k caps σ).length = N.length
    unfold capS
    rw [List.length_append,List.length_replicate,List.length_map,B.len]
noncomputable def CompEndP (X:Cx) (pins:List (Addr × Obj)) (σ:St) (s:Shared) (Q:VK) (acc:Value) (C:Addr) (s':Shared):Prop :=
  ∃ D H',acc = .ref D ∧ s.heap.objs.size ≤ C ∧ Inv X pins σ H' s' ∧ H' C = none ∧ (∃ m,s'.heap.Ns C m) ∧ Q (.ref D) H'
theorem comp_core {tg elt iter:Expr} {ifs:List Expr} {scope:Scope} {pos:Pos} {N:List Str} {cl:List (Str × Addr)} {k:Nat} {caps:List Nat} {g:TG} {tt:TT} {te:TE} {it:Addr} {fp:List Addr} {tn:Nat → Heap → Prop} {J:It} {Q:VK} {RR:Value → Addr → Result → Shared → Prop} {E:Value → Shared → Prop}
    (hc:X.calm = true) (B:Caps X N scope cl k caps) (hg:∀ C fp s H,PG (cxB X N scope cl C fp s H) tg g) (hi:∀ C fp s H,PIf (cxB X N scope cl C fp s H) ifs tt) (he:∀ C fp s H,PE (cxB X N scope cl C fp s H) elt te)
    (I:Inv X pins σ H s) (T:Turn X.prog X.w X.K tg J fp it tn) (st:tn 0 s.heap) (hf:∀ b ∈ fp,FpOk X pins H b)
    (h:CompW J k caps g tt te σ H Q)
    (hRR:∀ acc C s',CompEndP X pins σ s Q acc C s' → RR acc C (.ok .next) s') :
    wpAny (model X.prog X.w) X.A (newList []) (fun acc s₃ => wpAny (model X.prog X.w) X.A (newFunctionEnv scope X.env.globals cl [] X.env.qual none .none (some X.env)) (fun cenv s₄ =>
      codeAny (model X.prog X.w) X.A (.compStart (.ListComp elt [⟨tg,iter,ifs,0⟩] scope pos) 0 (.ref it) acc { cenv with scope:=relabel scope X.env }) (RR acc cenv.locals) s₄) E s₃) E s:=by
  obtain ⟨W,⟨m0,w0⟩,turn⟩:=h
  refine wpAny_newObj_type (wpAny_newFunctionEnv B.nocell (by intro y hy; simp at hy) (fun h₁ hns₁ hsb₁ => ?_) B.kind)
  dsimp only at hns₁ hsb₁ ⊢
  generalize hH2:s.heap.push { cls:=.type "list",dict:=none,data:=.seq ([]:List Value).toArray } = H2 at hns₁ hsb₁ ⊢
  have hC:H2.objs.size = s.heap.objs.size + 1:=by rw [← hH2,Heap.size_push]
  have hCs:s.heap.objs.size ≤ H2.objs.size:=by rw [hC]; exact Nat.le_succ _
  have hDC:s.heap.objs.size ≠ H2.objs.size:=by rw [hC]; exact Nat.ne_of_lt (Nat.lt_succ_self _)
  have old:∀ b o,s.heap.get? b = some o → h₁.get? b = some o:=fun b o e => hsb₁.extBut b o (Nat.ne_of_lt (Nat.lt_of_lt_of_le (Heap.lt_size e) hCs)) (Heap.get?_push_of_some _ (hH2 ▸ Heap.get?_push_of_some _ e))
  have hacc:h₁.get? s.heap.objs.size = some { cls:=.type "list",data:=.seq ([]:List Value).toArray 0 }:=hsb₁.extBut _ _ hDC (Heap.get?_push_of_some _ (hH2 ▸ Heap.get?_push_size _ rfl))
  have obj0:=T.obj 0 _ st
  have hfp:∀ b ∈ fp,∃ o,s.heap.get? b = some o:=fun b hb => let ⟨o,e,_⟩:=obj0 b hb; ⟨o,e⟩
  have hDf:∀ b ∈ fp,b ≠ s.heap.objs.size:=fun b hb z => by
    obtain ⟨o,e⟩:=hfp b hb
    exact absurd (Heap.lt_size e) (by rw [z]; exact Nat.lt_irrefl _)
  have hD0:H s.heap.objs.size = none:=I.hok.fresh (Nat.le_refl _)
  have st₁:tn 0 h₁:=T.keep 0 _ _ st fun b _ o e => old b o e
  have cellD:∀ x c,cl.lookup x = some c → c ≠ s.heap.objs.size:=fun x c e z => by
    obtain ⟨v,o,ho,_⟩:=I.cell x c (B.sub x c e)
    exact absurd (Heap.lt_size ho) (by rw [z]; exact Nat.lt_irrefl _)
  have nfs:∀ b ∈ frs X.stack,b ≠ s.heap.objs.size:=fun b hb z => by
    obtain ⟨_,o,ho,_⟩:=I.stack.mem hb
    exact absurd (Heap.lt_size ho) (by rw [z]; exact Nat.lt_irrefl _)
  have loop:∀ s₃:Shared,s₃ = { s with heap:=h₁,toks:=s.toks + ([]:List (Str × Value)).length } →
      codeAny (model X.prog X.w) X.A (.compLoop (.ListComp elt [⟨tg,iter,ifs,0⟩] scope pos) 0 (.ref it) (.ref s.heap.objs.size) (compEnvC scope cl H2.objs.size X.env)) (RR (.ref s.heap.objs.size) H2.objs.size) s₃:=by
    rintro s₃ rfl
    generalize hXB:cxB X N scope cl H2.objs.size fp s H = XB
    have eP:XB.prog = X.prog:=by rw [← hXB]; rfl
    have eW:XB.w = X.w:=by rw [← hXB]; rfl
    have eK:XB.K = X.K:=by rw [← hXB]; rfl
    have eA:XB.A = X.A:=by rw [← hXB]; rfl
    have eE:XB.env = compEnvC scope cl H2.objs.size X.env:=by rw [← hXB]; rfl
    have eL:XB.env.locals = H2.objs.size:=by rw [eE]; rfl
    have eF:XB.fs = frs X.stack:=by rw [← hXB]; rfl
    have eX:XB.ex = fp:=by rw [← hXB]; rfl
    have eN:XB.pn = []:=by rw [← hXB]; rfl
    have e0:XB.s₀ = s:=by rw [← hXB]; rfl
    have eC:XB.calm = true:=by rw [← hXB]; exact hc
    have ecl:XB.env.cells = cl:=by rw [eE]; rfl
    have exe:XB.xe = fun _ _ => False:=by rw [← hXB]; rfl
    have hg':PG XB tg g:=by rw [← hXB]; exact hg _ _ _ _
    have hi':PIf XB ifs tt:=by rw [← hXB]; exact hi _ _ _ _
    have he':PE XB elt te:=by rw [← hXB]; exact he _ _ _ _
    have I0:Inv XB [] (capS k caps σ) H { s with heap:=h₁,toks:=s.toks + ([]:List (Str × Value)).length }:=by rw [← hXB]; exact I.block B hf hCs hfp old hns₁
    -- the accumulator pinned
    have pinD:∀ {τ:St} {H':Hp} {s':Shared} {its:List Value} {nn:Nat},Inv XB [] τ H' s' → s'.heap.get? s.heap.objs.size = some { cls:=.type "list",data:=.seq its.toArray nn } → H' s.heap.objs.size = none →
        Inv XB [(s.heap.objs.size,{ cls:=.type "list",data:=.seq its.toArray nn })] τ H' s':=fun {τ H' s' its nn} J hd hn => J.pins_of fun p hp => by
      obtain rfl:p = _:=List.mem_singleton.mp hp
      refine ⟨hd,hn,by rw [eL]; exact hDC,by rw [eF]; exact fun z => nfs _ z rfl,fun v z => ?_⟩
      have z':Data.seq its.toArray nn = Data.cell v:=z
      cases z'
    have stat:∀ {H':Hp} {o:Obj},(∀ b ∈ fp,H' b = none) → ∀ b ∈ fp,FpOk XB [(s.heap.objs.size,o)] H' b:=fun {H' o} hn b hb => by
      obtain ⟨_,f1,f2,f3,f4,f5⟩:=hf b hb
      refine ⟨hn b hb,?_,?_,.inl (by rw [eX]; exact hb),fun x c e => f4 x c (B.sub x c (by rw [← ecl]; exact e)),fun p hp => ?_⟩
      · rw [eL]
        obtain ⟨o,e⟩:=hfp b hb
        exact Nat.ne_of_lt (Nat.lt_of_lt_of_le (Heap.lt_size e) hCs)
      · rw [eF]
        intro z
        rcases List.mem_cons.mp (I.stkSub b z) with e | e
        · exact f1 e
        · exact f2 e
      · rw [eN] at hp
        obtain rfl:p = _:=List.mem_singleton.mp (by simpa using hp)
        exact Ne.symm (hDf b hb)
    refine compLoop_gen (fun n s' => ∃ i ys its nn τ H',Inv XB [] τ H' s' ∧ s'.heap.get? s.heap.objs.size = some { cls:=.type "list",data:=.seq its.toArray nn } ∧ H' s.heap.objs.size = none ∧ Vals ys its ∧ tn i s'.heap ∧ (∀ b ∈ fp,H' b = none) ∧ W i n ys τ H') ?_ m0
      ⟨0,[],[],0,capS k caps σ,H,I0,hacc,hD0,.nil,st₁,fun b hb => (hf b hb).1,w0⟩
    rintro n s3 ⟨i,ys,its,nn,τ,H3,I3,hd3,hn3,rv3,st3,fr3,w3⟩
    have I3':=pinD I3 hd3 hn3
    rcases turn i n ys τ H3 w3 with ⟨stop,hz,qn⟩ | ⟨go,hz,step⟩
    · have D1:=T.done XB eP eW eK eC i _ s3 τ H3 (fun _ _ => False) I3' (stat fr3) st3 stop
      rw [eA] at D1
      refine thn D1 fun r s4 ⟨hr,I4⟩ => ?_
      subst hr
      refine hRR _ _ s4 ?_
      obtain ⟨pd,pn4,_⟩:=I4.pin (s.heap.objs.size,{ cls:=.type "list",data:=.seq its.toArray nn }) (by rw [eN]; exact List.mem_append_right _ (List.mem_singleton.mpr rfl))
      have hb4:Un (frs X.stack) fp H H3 s.heap s4.heap:=by
        have:=I4.base
        rw [← hXB] at this
        exact this
      have new:ObjOk X.prog X.w (upd H3 s.heap.objs.size (.lst ys)) s4.heap s.heap.objs.size (.lst ys):=⟨hz,its,nn,rv3,pd⟩
      have hok4:HOk X.prog X.w H3 s4.heap:=by
        have:=I4.hok
        rw [eP,eW] at this
        exact this
      have hok:HOk X.prog X.w (upd H3 s.heap.objs.size (.lst ys)) s4.heap:=hok4.track pn4 new
      have os4:s4.os = s.os:=by
        have:=I4.os
        rw [e0] at this
        exact this
      have un:Un (frs X.stack) fp H (upd H3 s.heap.objs.size (.lst ys)) s.heap s4.heap :=
        ⟨hb4.keep,hb4.slot,fun b o e n hx => by rw [upd_ne (Nat.ne_of_lt (Heap.lt_size e))]; exact hb4.free b o e n hx,hb4.there,
          fun b xs e => by rw [upd_ne (ne_of_none (hb4.tups b xs e) pn4)]; exact hb4.tups b xs e,fun b o u e => by rw [upd_ne (ne_of_none (hb4.frzs b o u e) pn4)]; exact hb4.frzs b o u e,
          fun b ps e => by
            obtain ⟨more,q⟩:=hb4.tbls b ps e
            exact ⟨more,by rw [upd_ne (ne_of_none q pn4)]; exact q⟩⟩
      have I5:Inv X pins σ (upd H3 s.heap.objs.size (.lst ys)) s4:=I.call' os4 un hok I4.bare fun b hb => ⟨(hf b hb).2.2.2.1,(hf b hb).2.1,(hf b hb).2.2.2.2.1,(hf b hb).2.2.2.2.2⟩
      have hC4:H3 H2.objs.size = none:=by
        have:=I4.free
        rw [eL] at this
        exact this
      refine ⟨s.heap.objs.size,_,rfl,hCs,I5,by rw [upd_ne (Ne.symm hDC)]; exact hC4,?_,qn _ pn4⟩
      obtain ⟨m4,ns4,_⟩:=I4.loc
      rw [eL] at ns4
      exact ⟨m4,ns4⟩
    · have D1:=T.item XB eP eW eK eC i _ s3 τ H3 (fun _ _ => False) I3' (stat fr3) st3 go
      rw [eA] at D1
      refine thn D1 fun r s4 ⟨u,hr,h4⟩ => ?_
      subst hr
      refine thn h4 fun _ s5 ⟨x,H5,I5,r5,y5,st5,fr5⟩ => ?_
      have I5':=I5.pinned (stat fr5) (T.obj _ _ st5)
      have G:=hg' _ s5 τ H5 x u _ I5' r5 (step x H5 y5)
      rw [eP,eW,eA,eE,exe] at G
      refine thn G fun _ s6 ⟨τ6,H6,I6,q6⟩ => ?_
      have G2:=hi' _ s6 τ6 H6 _ I6 q6
      rw [eP,eW,eA,eE,exe] at G2
      refine thn G2 fun ok s7 ⟨H7,I7,q7⟩ => ?_
      -- what the pins give back
      have back:∀ {τ8:St} {H8:Hp} {s8:Shared},Inv XB ([(s.heap.objs.size,({ cls:=.type "list",data:=.seq its.toArray nn }:Obj))] ++ pinsAt fp s5.heap) τ8 H8 s8 →
          Inv XB [] τ8 H8 s8 ∧ s8.heap.get? s.heap.objs.size = some { cls:=.type "list",data:=.seq its.toArray nn } ∧ H8 s.heap.objs.size = none ∧ tn (i + 1) s8.heap ∧ ∀ b ∈ fp,H8 b = none:=fun {τ8 H8 s8} J => by
        obtain ⟨p1,p2,_⟩:=J.pin (s.heap.objs.size,{ cls:=.type "list",data:=.seq its.toArray nn }) (List.mem_append_right _ (List.mem_append_left _ (List.mem_singleton.mpr rfl)))
        refine ⟨J.pins_of fun p hp => absurd (show p ∈ ([]:List (Addr × Obj)) from hp) (by simp),p1,p2,T.keep _ _ _ st5 fun b hb o e => (J.pin (b,o) (List.mem_append_right _ (List.mem_append_right _ (mem_pinsAt hb e)))).1,fun b hb => ?_⟩
        obtain ⟨o,e,d⟩:=T.obj _ _ st5 b hb
        exact (J.pin (b,o) (List.mem_append_right _ (List.mem_append_right _ (mem_pinsAt hb e)))).2.1
      cases ok with
      | false =>
        rw [if_neg Bool.false_ne_true] at q7 ⊢
        obtain ⟨m',hm,w7⟩:=q7
        obtain ⟨J,a1,a2,a3,a4⟩:=back I7
        exact ⟨m',hm,i + 1,ys,its,nn,τ6,H7,J,a1,a2,rv3,a3,a4,w7⟩
      | true =>
        rw [if_pos rfl] at q7 ⊢
        have G3:=he' _ s7 τ6 H7 _ I7 q7
        rw [eP,eW,eA,eE,exe] at G3
        refine thn G3 fun v s8 ⟨y,H8,I8,r8,m',hm,w8⟩ => ?_
        obtain ⟨J,a1,a2,a3,a4⟩:=back I8
        have hlen:=rv3.length
        refine call_meets F.slot_list_append ⟨_,a1,rfl⟩ F.entry_list_append (F.args_list_append_2 _ _) (PySem.list_append s.heap.objs.size its.toArray nn v (by rw [List.size_toArray]; omega)) ⟨a1,?_⟩
        have q:=PySem.IsL.update a1 (fun z => z.push v)
        have other:∀ b o,b ≠ s.heap.objs.size → s8.heap.get? b = some o → (s8.heap.update s.heap.objs.size (Obj.mapSeq fun z => z.push v)).get? b = some o:=fun b o hb e => (Heap.get?_update_other s8.heap (Obj.mapSeq fun z => z.push v) (Ne.symm hb)).trans e
        have J':Inv XB [] τ6 H8 { s8 with heap:=s8.heap.update s.heap.objs.size (Obj.mapSeq fun z => z.push v) } :=
          J.turned (t':=s8.toks) (it:=s.heap.objs.size) other a2 (by rw [eL]; exact hDC) (.inr (by rw [e0]; exact Nat.le_refl _)) (fun x c e => cellD x c (by rw [← ecl]; exact e)) fun p hp => absurd (show p ∈ ([]:List (Addr × Obj)) by rw [eN] at hp; exact hp) (by simp)
        obtain ⟨n2,q2⟩:∃ n2,(s8.heap.update s.heap.objs.size (Obj.mapSeq fun z => z.push v)).get? s.heap.objs.size = some { cls:=.type "list",data:=.seq (its ++ [v]).toArray n2 }:=by
          have e1:its.toArray.push v = (its ++ [v]).toArray:=by simp
          rw [← e1]
          exact ⟨_,q⟩
        exact ⟨m',hm,i + 1,ys ++ [y],its ++ [v],n2,τ6,H8,J',q2,a2,rv3.append (.cons r8 .nil),T.keep _ _ _ a3 fun b hb o e => other b o (hDf b hb) e,a4,w8⟩
  exact codeAny_compStart_list (loop _ rfl) (T.self X.A 0 _ _ _ st₁ (loop _ rfl))
end
end L2
namespace L2
open PySem PySem.Spec PyProof.Rows
section
variable {X:Cx} {tg elt iter:Expr} {ifs:List Expr} {scope:Scope} {pos spos:Pos} {N:List Str} {cl:List (Str × Addr)} {k:Nat} {caps:List Nat} {wi:TI} {g:TG} {tt:TT} {te:TE}
theorem Inv.blockGone {pins:List (Addr × Obj)} {σ σ':St} {H H':Hp} {s s':Shared} {C:Addr} {h':Heap} (I:Inv X pins σ H s) (hC:s.heap.objs.size ≤ C) (I':Inv X pins σ' H' s') (hn:H' C = none) (sb:Heap.SameBut C s'.heap h') :
    Inv X pins σ' H' { s' with heap:=h' }:=by
  refine I'.turned (t':=s'.toks) (it:=C) (fun b o hb e => (sb.2 b hb).trans e) hn (Nat.ne_of_gt (Nat.lt_of_lt_of_le I.lt hC)) (.inr (Nat.le_trans I.sz hC)) (fun x c e => ?_) fun p hp => ?_
  · obtain ⟨v,o,ho,_⟩:=I.cell x c e
    exact Nat.ne_of_lt (Nat.lt_of_lt_of_le (Heap.lt_size ho) hC)
  · exact Nat.ne_of_lt (Nat.lt_of_lt_of_le (Heap.lt_size (I.pin p hp).1) hC)
theorem pe_comp (hc:X.calm = true) (B:Caps X N scope cl k caps) (hi:PI X tg iter wi) (hg:∀ C fp s H,PG (cxB X N scope cl C fp s H) tg g) (hif:∀ C fp s H,PIf (cxB X N scope cl C fp s H) ifs tt)
    (he:∀ C fp s H,PE (cxB X N scope cl C fp s H) elt te) (hs:∀ x,foldedSetIterable iter X.env x = pure x:=by intro _; rfl):PE X (.ListComp elt [⟨tg,iter,ifs,0⟩] scope pos) (tComp k caps wi g tt te):=by
  intro pins s σ H Q I h
  rw [eval_ListComp]
  refine wpAny_comprehension_free (use:=none) rfl hs B.clos B.kind B.names (thn (hi pins s σ H _ I (tComp_out h)) fun xv s₁ h₁ => thn h₁ fun itv s₂ h₂ => ?_)
  obtain ⟨it,fp,tn,J,H2,e,I2,T,st2,f2,hW⟩:=h₂
  subst e
  refine comp_core (RR:=fun acc C => compPost (model X.prog X.w) X.A X.xe none (EP X pins σ Q) acc C) hc B hg hif he I2 T st2 f2 hW ?_
  rintro acc C s' ⟨D,H',rfl,hC,I',hn,⟨m,ns⟩,q⟩
  exact ⟨m,ns,fun h' sb => ⟨.ref D,H',I2.blockGone hC I' hn sb,rfl,q⟩⟩
theorem ps_setComp {i:Nat} {y:Str} {py:Pos} (hN:X.N.Nodup) (hy:X.N[i]? = some y) (hx:Loc X.env.scope y) (hc:X.calm = true) (B:Caps X N scope cl k caps) (hi:PI X tg iter wi) (hg:∀ C fp s H,PG (cxB X N scope cl C fp s H) tg g)
    (hif:∀ C fp s H,PIf (cxB X N scope cl C fp s H) ifs tt) (he:∀ C fp s H,PE (cxB X N scope cl C fp s H) elt te) (hsw:swapsWith (.ListComp elt [⟨tg,iter,ifs,0⟩] scope pos) (some (.Name y py)) spos.line X.env = pure true:=by rfl)
    (hs:∀ x,foldedSetIterable iter X.env x = pure x:=by intro _; rfl) (hf:X.fn y = true ∨ X.env.scope.names.lookup y = some .local:=by first | exact .inl rfl | exact .inr rfl | assumption) :
    PS X (.Assign [.Name y py] (.ListComp elt [⟨tg,iter,ifs,0⟩] scope pos) spos) (tAsg (tComp k caps wi g tt te) (gName i)):=by
  intro pins s σ H D I h
  rw [exec_Assign_Name_used _ _ _ _ hsw]
  refine wpAny_bind (wpAny_standAt (wpAny_bind ?_))
  show wpAny _ X.A (do let _ ← comprehension (.ListComp elt [⟨tg,iter,ifs,0⟩] scope pos) scope X.env _ (newList []) false (eval iter X.env) (some (assign (.Name y py) X.env))) _ _ s
  refine wpAny_bind (wpAny_mono (wpAny_comprehension_free (use:=some (assign (.Name y py) X.env)) (Q:=fun _ s' => SP X pins D .next s') rfl hs B.clos B.kind B.names (thn (hi pins s σ H _ I (tComp_out h)) fun xv s₁ h₁ => thn h₁ fun itv s₂ h₂ => ?_)) (fun _ s' hq => wpAny_pure (wpAny_pure hq)) fun _ _ e => e)
  obtain ⟨it,fp,tn,J,H2,e,I2,T,st2,f2,hW⟩:=h₂
  subst e
  refine comp_core (Q:=fun v H' => gName i v σ H' D.nx) (RR:=fun acc C => compPost (model X.prog X.w) X.A X.xe (some (assign (.Name y py) X.env)) (fun _ s' => SP X pins D .next s') acc C) hc B hg hif he I2 T st2 f2 hW ?_
  rintro acc C s' ⟨D',H',rfl,hC,I',hn,⟨m,ns⟩,q⟩
  show wpAny _ _ (assign (.Name y py) X.env (.ref D')) _ _ s'
  refine wpAny_assign_Name (store_ok2 I' hN hy hx (v:=.ref D') rfl (fun s'' I'' ⟨a,sb,ha⟩ => ?_) hf)
  have hCa:C ≠ a:=by
    rcases ha with e | e
    · rw [e]; exact Nat.ne_of_gt (Nat.lt_of_lt_of_le I2.lt hC)
    · obtain ⟨v,o,ho,_⟩:=I2.cell y a e
      exact Nat.ne_of_gt (Nat.lt_of_lt_of_le (Heap.lt_size ho) hC)
  exact ⟨m,ns.sameBut sb hCa,fun h' sb' => ⟨_,H',I2.blockGone hC I'' hn sb',q⟩⟩
end
section
variable {K:PySem.W.Frag} {g:TG} {tt:TT} {te:TE} {Q:VK}
theorem comp_by {J:It} {k:Nat} {caps:List Nat} {σ:St} {H:Hp} (n:Nat) (hn:n ≤ sizeLine) (Pv:Nat → List V → St → Hp → Prop) (h0:Pv 0 [] (capS k caps σ) H) (hgo:∀ i ys τ H,i < n → Pv i ys τ H → J.go i H) (hst:∀ ys τ H,Pv n ys τ H → J.stop n H)
    (hl:∀ i ys τ H,Pv i ys τ H → ys.length ≤ i)
    (hs:∀ i ys τ H x H',i < n → Pv i ys τ H → J.yld i H x H' → ∀ K1:List V → St → Hp → Prop,(∀ ys τ H,Pv (i + 1) ys τ H → K1 ys τ H) → g x τ H' fun τ2 H2 => tt τ2 H2 fun b H3 => if b = true then te τ2 H3 fun y H4 => K1 (ys ++ [y]) τ2 H4 else K1 ys τ2 H3)
    (hd:∀ ys τ H p,Pv n ys τ H → H p = none → Q (.ref p) (upd H p (.lst ys))):CompW J k caps g tt te σ H Q:=by
  refine ⟨fun i m ys τ H => m = n - i ∧ i ≤ n ∧ Pv i ys τ H,⟨n,by simp,Nat.zero_le _,h0⟩,?_⟩
  rintro i m ys τ H ⟨rfl,hi,p⟩
  have hy:=hl i ys τ H p
  by_cases hlt:i < n
  · refine .inr ⟨hgo i ys τ H hlt p,by omega,fun x H' y => ?_⟩
    exact hs i ys τ H x H' hlt p y (fun ys τ H => ∃ m',m' < n - i ∧ m' = n - (i + 1) ∧ i + 1 ≤ n ∧ Pv (i + 1) ys τ H) fun ys τ H q => ⟨n - (i + 1),by omega,rfl,hlt,q⟩
  · have e:i = n:=by omega
    subst e
    exact .inl ⟨hst ys τ H p,by omega,fun q hq => hd ys τ H q p hq⟩
end
section
variable {prog:Program} {w:World} {A:Around} {E:Value → Shared → Prop} {s:Shared}
end
end L2
namespace L2
open PySem PySem.Spec PyProof.Rows
section
variable {prog:Program} {w:World} {A:Around} {E:Value → Shared → Prop} {s:Shared}
end
section
variable {X:Cx} {elts:List Expr} {kt:Nat} {tp p pos:Pos}
end
end L2
namespace L2
open PySem PySem.Spec PyProof.Rows
theorem ObjOk.there {P:Program} {w:World} {H:Hp} {h:Heap} {a:Addr} {o:HO} (x:ObjOk P w H h a o):∃ ob,h.get? a = some ob:=by
  cases o with
  | lst xs => obtain ⟨_,_,_,_,e⟩:=x; exact ⟨_,e⟩
  | tup xs => obtain ⟨_,_,_,ob,e,_⟩:=x; exact ⟨_,e⟩
  | dK kvs => obtain ⟨_,_,_,_,o,_,_,e,_⟩:=x; exact ⟨_,e⟩
  | dT kvs => obtain ⟨_,_,_,_,o,_,_,e,_⟩:=x; exact ⟨_,e⟩
  | set S n => obtain ⟨o,_,_,_,e,_⟩:=x; exact ⟨_,e⟩
  | ins C dx fs => obtain ⟨_,_,_,e,_⟩:=x; exact ⟨_,e⟩
  | own y => obtain ⟨_,e⟩:=x; exact ⟨_,e⟩
  | xd fs => obtain ⟨_,⟨_,_,_,e,_⟩,_⟩:=x; exact ⟨_,e⟩
  | rng lo hi => obtain ⟨_,_,_,e⟩:=x; exact ⟨_,e⟩
  | frz ob u => obtain ⟨e,_⟩:=x; exact ⟨_,e⟩
  | tbl ps => exact ⟨_,(show h.get? a = some _ from x)⟩
  | met f y => exact ⟨_,(show h.get? a = some _ from x)⟩
  | ext φ => obtain ⟨_,e,_⟩:=x; exact e
structure Fly (P:Program) (w:World) (l:List Env) (H H':Hp) (s s':Shared) (ea:Addr) (cls:Value):Prop where
  os:s'.os = s.os
  bare:AllBare s'.gens
  un:Un (frs l) [] H H' s.heap s'.heap
  hok:HOk P w H' s'.heap
  fl:∃ (B:Heap) (t:Addr),Heap.FlyingW B l ea cls (.ref t) s'.heap ∧ (∀ b,H' b ≠ none → ∃ o,B.get? b = some o) ∧ (∀ b o,s.heap.get? b = some o → b ∉ frs l → ∃ o',B.get? b = some o')
noncomputable def CX1 (P:Program) (w:World):CXT:=fun outer H s E e s' => ∃ ea cls H',e = .ref ea ∧ Fly P w outer H H' s s' ea cls ∧ E cls none H'
section
variable {P:Program} {w:World} {K:PySem.W.Frag} {mg:Str → Option Value} {base:Heap} {N:List Str} {qual:Str} {scope:Scope} {f:Addr} {cd:Value} {A:Around} {outer:List Env} {s₀:Shared} {H₀:Hp} {E:XK}
theorem frs_cons {env:Env} {L:Addr} (hf:env.frame = some L) (l:List Env):frs (env :: l) = L :: frs l:=by
  unfold frs
  rw [List.filterMap_cons,hf]
theorem raise_out {pins:List (Addr × Obj)} {σ:St} {H:Hp} {s:Shared} {h':Heap} {e:Addr} {cls:Value} {vs:List Value} (I:Inv (cxOf (CX1 P w) P w K mg base N qual scope f cd A outer s₀ H₀ E) pins σ H s)
    (hx:Heap.MadeExcOf s.heap h' e cls vs) (hE:E cls none H):(cxOf (CX1 P w) P w K mg base N qual scope f cd A outer s₀ H₀ E).xe (.ref e) { s with heap:=h' }:=by
  have hst:=I.stack
  have hfree:=I.stkFree
  have hfr:(A.deeper (envOfC qual scope s₀.heap.objs.size f cd)).frames = some (envOfC qual scope s₀.heap.objs.size f cd :: outer):=I.ok.frames
  have efs:frs (envOfC qual scope s₀.heap.objs.size f cd :: outer) = s₀.heap.objs.size :: frs outer:=frs_cons rfl outer
  have hin:∀ env ∈ (envOfC qual scope s₀.heap.objs.size f cd :: outer),∀ b,env.frame = some b → b ∈ frs (envOfC qual scope s₀.heap.objs.size f cd :: outer):=fun env he b hb => List.mem_filterMap.mpr ⟨env,he,hb⟩
  have nfr:∀ b o,s₀.heap.get? b = some o → b ∉ frs outer → b ∉ frs (envOfC qual scope s₀.heap.objs.size f cd :: outer):=fun b o q hb hm => by
    rw [efs] at hm
    rcases List.mem_cons.mp hm with z | z
    · exact absurd (Heap.lt_size q) (by rw [z]; exact Nat.lt_irrefl _)
    · exact hb z
  refine wpAny_leaves_madeW (base:=PySem.W.hideAll s.heap (frs (envOfC qual scope s₀.heap.objs.size f cd :: outer))) (h:=s.heap) hfr rfl (fun b o q => PySem.W.of_hideAll _ q) (PySem.W.funFrames_hide hst hin) hx fun h'' t fl _ _ up => ?_
  have stays:∀ b o,s.heap.get? b = some o → b ∉ frs (envOfC qual scope s₀.heap.objs.size f cd :: outer) → h''.get? b = some o:=fun b o q hb => fl.1 b o (PySem.W.hideAll_get _ q hb)
  have trk:∀ b u,H b = some u → b ∉ frs (envOfC qual scope s₀.heap.objs.size f cd :: outer):=fun b u q hb => by rw [hfree b hb] at q; cases q
  have slot:∀ b o,s₀.heap.get? b = some o → H₀ b = none → b ∈ frs outer → ∃ sl,h''.get? b = some { o with slots:=sl }:=fun b o q n hb => by
    obtain ⟨sl,e1⟩:=I.base.slot b o q n hb (by intro z; cases z)
    obtain ⟨_,o',ho',hnf⟩:=hst.mem (show b ∈ frs (envOfC qual scope s₀.heap.objs.size f cd :: outer) by rw [efs]; exact List.mem_cons_of_mem _ hb)
    rw [e1] at ho'
    cases ho'
    obtain ⟨sl',e2⟩:=up b _ (hx.keeps _ _ e1) hnf
    exact ⟨sl',e2⟩
  have nil:∀ b:Addr,b ∉ (cxOf (CX1 P w) P w K mg base N qual scope f cd A outer s₀ H₀ E).ex:=fun b z => by cases z
  refine ⟨e,cls,H,rfl,⟨I.os,I.bare,⟨fun b o q n hb _ => stays b o (I.base.keep b o q n hb (nil b)) (nfr b o q hb),fun b o q n hb _ => slot b o q n hb,fun b o q n _ => I.base.free b o q n (nil b),fun b o q _ => ?_,I.base.tups,I.base.frzs,I.base.tbls⟩,fun b u q => ?_,PySem.W.hideAll s.heap (frs (envOfC qual scope s₀.heap.objs.size f cd :: outer)),t,fl,fun b hb => ?_,fun b o q hb => ?_⟩,hE⟩
  · by_cases hb:b ∈ frs outer
    · obtain ⟨sl,e1⟩:=slot b o q (I.ok.frf b hb) hb
      exact ⟨_,e1⟩
    · obtain ⟨o',e1⟩:=I.base.there b o q (nil b)
      exact ⟨o',stays b o' e1 (nfr b o q hb)⟩
  · refine (I.hok b u q).stay (fun c v hc z => stays c v z ?_) (fun _ z => z) fun _ _ z => z
    rcases hc with z' | z'
    · rw [z']; exact trk b u q
    · exact trk c _ z'
  · cases q:H b with
    | none => exact absurd q hb
    | some u =>
      obtain ⟨o,e1⟩:=(I.hok b u q).there
      exact ⟨o,PySem.W.hideAll_get _ e1 (trk b u q)⟩
  · obtain ⟨o',e1⟩:=I.base.there b o q (nil b)
    exact ⟨o',PySem.W.hideAll_get _ e1 (nfr b o q hb)⟩
theorem pass_out:Passes (CX1 P w) (cxOf (CX1 P w) P w K mg base N qual scope f cd A outer s₀ H₀ E) E:=by
  rintro pins σ H s e s' I ⟨ea,cls,H',rfl,Z,hE⟩
  obtain ⟨B,t,fl,ct,cs⟩:=Z.fl
  have hfr:(A.deeper (envOfC qual scope s₀.heap.objs.size f cd)).frames = some (envOfC qual scope s₀.heap.objs.size f cd :: outer):=I.ok.frames
  have efs:frs (envOfC qual scope s₀.heap.objs.size f cd :: outer) = s₀.heap.objs.size :: frs outer:=frs_cons rfl outer
  have nfr:∀ b o,s₀.heap.get? b = some o → b ∉ frs outer → b ∉ frs (envOfC qual scope s₀.heap.objs.size f cd :: outer):=fun b o q hb hm => by
    rw [efs] at hm
    rcases List.mem_cons.mp hm with z | z
    · exact absurd (Heap.lt_size q) (by rw [z]; exact Nat.lt_irrefl _)
    · exact hb z
  have sub:∀ b,b ∈ frs outer → b ∈ frs (envOfC qual scope s₀.heap.objs.size f cd :: outer):=fun b hb => by rw [efs]; exact List.mem_cons_of_mem _ hb
  have nil:∀ b:Addr,b ∉ (cxOf (CX1 P w) P w K mg base N qual scope f cd A outer s₀ H₀ E).ex:=fun b z => by cases z
  refine wpAny_leaves_onW hfr rfl fl fun h'' fl2 up => ?_
  have inB:∀ b o,s'.heap.get? b = some o → (∃ o',B.get? b = some o') → h''.get? b = some o:=fun b o q ⟨o',z⟩ => by
    have q':=fl.1 b o' z
    rw [q] at q'
    cases q'
    exact fl2.1 b o z
  have slot:∀ b o,s₀.heap.get? b = some o → H₀ b = none → b ∈ frs outer → ∃ sl,h''.get? b = some { o with slots:=sl }:=fun b o q n hb => by
    obtain ⟨sl,e1⟩:=I.base.slot b o q n hb (nil b)
    obtain ⟨sl2,e2⟩:=Z.un.slot b _ e1 (I.base.free b o q n (nil b)) (sub b hb) (by intro z; cases z)
    obtain ⟨_,o',ho',hnf⟩:=fl.2.2.1.mem (sub b hb)
    rw [e2] at ho'
    cases ho'
    obtain ⟨sl',e3⟩:=up b _ e2 hnf
    exact ⟨sl',e3⟩
  refine ⟨ea,cls,H',rfl,⟨Z.os.trans I.os,Z.bare,⟨fun b o q n hb _ => ?_,fun b o q n hb _ => slot b o q n hb,fun b o q n _ => ?_,fun b o q _ => ?_,fun b xs q => Z.un.tups b xs (I.base.tups b xs q),fun b o u q => Z.un.frzs b o u (I.base.frzs b o u q),fun b ps q => ?_⟩,fun b u q => ?_,B,t,fl2,ct,fun b o q hb => ?_⟩,hE⟩
  · have e1:=I.base.keep b o q n hb (nil b)
    have n1:=I.base.free b o q n (nil b)
    have nf:=nfr b o q hb
    exact inB b o (Z.un.keep b o e1 n1 nf (by intro z; cases z)) (cs b o e1 nf)
  · obtain ⟨o',e1⟩:=I.base.there b o q (nil b)
    exact Z.un.free b o' e1 (I.base.free b o q n (nil b)) (by intro z; cases z)
  · by_cases hb:b ∈ frs outer
    · obtain ⟨sl,e1⟩:=slot b o q (I.ok.frf b hb) hb
      exact ⟨_,e1⟩
    · obtain ⟨o',e1⟩:=I.base.there b o q (nil b)
      obtain ⟨o2,e2⟩:=cs b o' e1 (nfr b o q hb)
      exact ⟨o2,fl2.1 b o2 e2⟩
  · obtain ⟨m1,e1⟩:=I.base.tbls b ps q
    obtain ⟨m2,e2⟩:=Z.un.tbls b _ e1
    exact ⟨m1 ++ m2,by rw [e2,Array.append_assoc]⟩
  · refine (Z.hok b u q).stay (fun c v hc z => inB c v z (ct c ?_)) (fun _ z => z) fun _ _ z => z
    rcases hc with z' | z'
    · rw [z',q]; simp
    · rw [z']; simp
  · obtain ⟨o',e1⟩:=I.base.there b o q (nil b)
    exact cs b o' e1 (nfr b o q hb)
theorem Fun.okX {x:Str} {st:Stmt} {fd:FuncData} {ps:List Str} {k:Nat} {sp:Sp} (F:Fun K x qual st f fd) (S:FnScope N ps (defScope st)) (len:∀ vs H Q E,sp vs H Q E → vs.length = ps.length)
    (hbody:∀ (cdv:Value) (A:Around) (outer:List Env) (s:Shared) (H:Hp) (vs:List V) (Q:VK) (E:XK),Room k (A.deeper (envOfC qual (defScope st) s.heap.objs.size f cdv)) → sp vs H Q E →
      ∃ t,PSs (cxOf (CX1 P w) P w K mg base N qual (defScope st) f cdv A outer s H E) (defBody st) t ∧ t { nx:=fun _ H' => Q .non H',rt:=Q } (start N vs) H):FnOk P w K mg base (CX1 P w) (k + 1) f fd ps sp:=by
  obtain ⟨oc,od,kV,doc,pm,an,cdv,ct,osl,rfl,lk,hcd⟩:=F.ex
  exact fn_of lk hcd S len fun A outer s H vs Q E hr hsp => hbody cdv A outer s H vs Q E hr hsp
end
theorem ownCls_in {K:PySem.W.Frag} {h:Heap} {mg:Str → Option Value} {x:Str} {C:Addr} {bmB:List Value} {newId:String} (X:K.In h) (hb:mg x = some (.ref C)) (q:PySem.W.excIn K C bmB newId = true):OwnCls x C bmB newId mg h:=by
  refine ⟨hb,?_⟩
  unfold PySem.W.excIn at q
  split at q
  · rename_i dd cd sl ho
    split at q
    · rename_i C' bm k0 k1 k2 k3 n k5 hm hs
      simp only [Bool.and_eq_true,beq_iff_eq,Bool.not_eq_true'] at q
      obtain ⟨⟨⟨⟨⟨rfl,rfl⟩,hdel⟩,ht⟩,hok⟩,hni⟩:=q
      obtain ⟨nm,bs,mro,ns,qn,hd,sn,sub,ab,col,del⟩:=cd
      dsimp only at hm hdel hok hni
      subst hm hdel
      have hsl:sl = #[k0,k1,k2,k3,some (.builtin n),k5]:=by
        obtain ⟨l⟩:=sl
        simp only at hs
        rw [hs]
      subst hsl
      exact ⟨bm,ns,nm,qn,bs,hd,sn,sub,ab,col,dd,k0,k1,k2,k3,k5,_,X _ _ ho,.of_isNs (PySem.W.isNs_of_in X hok),PySem.W.nsMap_none_of_in X hok hni,PySem.W.tail_of_in X ht⟩
    · cases q
  · cases q
noncomputable def tRaise (E:XK) (C:Addr) (t:TA):TS:=fun _ σ H => t σ H fun vs H1 => vs.length ≤ sizeLine ∧ E (.ref C) none H1
noncomputable def Raises (X:Cx) (E:XK):Prop:=∀ (pins:List (Addr × Obj)) (σ:St) (H:Hp) (s:Shared) (h':Heap) (e:Addr) (cls:Value) (vs:List Value),Inv X pins σ H s → Heap.MadeExcOf s.heap h' e cls vs → E cls none H → X.xe (.ref e) { s with heap:=h' }
theorem ps_raise {X:Cx} {E:XK} {x:Str} {C:Addr} {B newId initId:String} {bm:List Value} {np cpos pos:Pos} {e₀:Expr} {rest:List Expr} {t:TA} (hX:Raises X E) (hc:X.calm = true) (hm:X.mg x = some (.ref C)) (hq:PySem.W.excIn X.K C bm newId = true) (FB:ExcBaseFacts B newId initId bm) (hg:Gl X x) (ha:PA X (e₀ :: rest) t)
    (he:starEach (e₀ :: rest) X.env = (false,eval e₀ X.env) :: starEach rest X.env:=by rfl) (hpl:(backTo cpos (starEach rest X.env)).any (·.1) = false:=by rfl) (hd:(x == ("__debug__":Str)) = false:=by decide) :
    PS X (.Raise (some (.Call (.Name x np) (e₀ :: rest) [] cpos)) none pos) (tRaise E C t):=by
  intro pins s σ H D I h
  obtain ⟨tl,NS,nm,q,bs,hdct,sn,sub,ab,col,dd,k0,k1,k2,k3,k5,mN,hC,hN,hni,T⟩:=(ownCls_in I.mod.kin hm hq).obj
  refine wpAny_Raise_call_subT (C:=C) (nm:=nm) (q:=q) (N:=NS) (bs:=bs) (bm:=tl) (hdct:=hdct) (sn:=sn) (sub:=sub) (ab:=ab) (col:=col) (dd:=dd) (k0:=k0) (k1:=k1) (k2:=k2) (k3:=k3) (k5:=k5)
    FB (mN:=mN) (T.hasType FB.hasBase) (I.ok.hd hc) (by rw [he]; show (false || (backTo cpos (starEach rest X.env)).any (·.1)) = false; rw [hpl]; rfl) hni (ld_glob I hg hm ⟨rfl,?_⟩ hd)
  have hA:=ha cpos pins s σ H _ I h
  rw [he] at hA ⊢
  exact Calls.evalArgs_plain (thn hA fun us s2 ⟨vs,H2,I2,r2,z,q2⟩ => ⟨rfl,by rw [← r2.length]; exact z,I2.bk _ _ hC,hN.keeps I2.bk,T.keeps I2.bk,fun h' e hm2 => hX pins σ H2 s2 h' e _ _ I2 hm2 q2⟩)
end L2
namespace L2
open PySem PySem.Spec PyProof.Rows
section
variable {X:Cx} {pins:List (Addr × Obj)} {σ:St} {H H':Hp} {s s':Shared} {ea:Addr} {cls:Value}
end
noncomputable abbrev EH:=Value → Addr → Hp → Prop
section
variable {X:Cx}
end
section
variable {X:Cx}
end
end L2
namespace L2
open PySem PySem.Spec PyProof.Rows
section
variable {X:Cx} {tg:Expr}
end
section
variable {X:Cx} {tg:Expr}
end
section
variable {X:Cx} {elts:List Expr} {kt:Nat} {tp p pos:Pos}
end
section
variable {X:Cx}
end
end L2
namespace MN
open PySem PySem.Spec L2
open PyProof.Rows hiding St
inductive Val where
  | non | bl (b:Bool) | int (i:Int) | str (x:Str) | tup (vs:List Val) | loc (n:Nat) | exc (c:Str) | fn (k:Nat) (caps:List Val) | mt (vs:List Val)
inductive Cell where
  | lst (vs:List Val) | fro (vs:List Val) | mod (vs:List Val) | dK (kvs:List (Key × Val)) | dT (kvs:List (List Key × Val))
noncomputable abbrev Store:=List Cell
noncomputable abbrev Env:=List (Option Val)
inductive Res (α:Type) where
  | ok (a:α) (st:Store) | err (c:Str) (st:Store) | bad
inductive SRes where
  | nx (μ:Env) (st:Store) | rt (v:Val) (st:Store) | bk (μ:Env) (st:Store) | ct (μ:Env) (st:Store) | er (c:Str) (μ:Env) (st:Store) | bad
@[reducible] def Res.bind {α β:Type} (r:Res α) (k:α → Store → Res β):Res β:=match r with
  | .ok a st => k a st
  | .err c st => .err c st
  | .bad => .bad
structure Wo where
  K:PySem.W.Frag
  mg:Str → Option Value
  pn:List (Addr × Obj)
noncomputable abbrev wo (X:Cx):Wo:=⟨X.K,X.mg,X.pn⟩
mutual
noncomputable def Rl (K:PySem.W.Frag) (ρ:List Addr) (H:Hp):Val → V → Prop
  | .non,v => v = .non
  | .bl b,v => v = .bl b
  | .int i,v => v = .int i
  | .str x,v => v = .str x
  | .tup us,v => ∃ a vs,v = .ref a ∧ H a = some (.tup vs) ∧ Rls K ρ H us vs
  | .mt us,v => ∃ a vs,v = .ref a ∧ SqT K H a vs ∧ Rls K ρ H us vs
  | .loc n,v => ∃ a,v = .ref a ∧ ρ[n]? = some a
  | .exc _,_ => False
  | .fn _ _,_ => False
noncomputable def Rls (K:PySem.W.Frag) (ρ:List Addr) (H:Hp):List Val → List V → Prop
  | [],vs => vs = []
  | u :: us,vs => ∃ v r,vs = v :: r ∧ Rl K ρ H u v ∧ Rls K ρ H us r
end
structure Step (ρ:List Addr) (H:Hp) (ρ':List Addr) (H':Hp):Prop where
  pre:ρ <+: ρ'
  tup:∀ b xs,H b = some (.tup xs) → H' b = some (.tup xs)
  frz:∀ b o u,H b = some (.frz o u) → H' b = some (.frz o u)
theorem Step.refl (ρ:List Addr) (H:Hp):Step ρ H ρ H:=⟨List.prefix_refl ρ,fun _ _ h => h,fun _ _ _ h => h⟩
theorem Step.trans {ρ ρ1 ρ2:List Addr} {H H1 H2:Hp} (a:Step ρ H ρ1 H1) (b:Step ρ1 H1 ρ2 H2):Step ρ H ρ2 H2 :=
  ⟨a.pre.trans b.pre,fun _ _ h => b.tup _ _ (a.tup _ _ h),fun _ _ _ h => b.frz _ _ _ (a.frz _ _ _ h)⟩
theorem Step.same {ρ:List Addr} {H H':Hp} (e:Same H H'):Step ρ H ρ H':=⟨List.prefix_refl ρ,fun _ _ h => e _ _ h,fun _ _ _ h => e _ _ h⟩
theorem Step.snoc {ρ:List Addr} {H H':Hp} (p:Addr) (e:Same H H'):Step ρ H (ρ ++ [p]) H':=⟨List.prefix_append ρ [p],fun _ _ h => e _ _ h,fun _ _ _ h => e _ _ h⟩
theorem Step.at_ {ρ ρ':List Addr} {H H':Hp} (e:Step ρ H ρ' H') {n:Nat} {a:Addr} (h:ρ[n]? = some a):ρ'[n]? = some a:=by
  obtain ⟨t,rfl⟩:=e.pre
  have hl:n < ρ.length:=by
    rcases Nat.lt_or_ge n ρ.length with q | q
    · exact q
    · rw [List.getElem?_eq_none q] at h; cases h
  rw [List.getElem?_append_left hl,h]
theorem Step.sqT {K:PySem.W.Frag} {ρ ρ':List Addr} {H H':Hp} (e:Step ρ H ρ' H') {a:Addr} {xs:List V} (h:SqT K H a xs):SqT K H' a xs:=by
  rcases h with (h | ⟨o,h⟩) | h
  · exact .inl (.inl (e.tup _ _ h))
  · exact .inl (.inr ⟨o,e.frz _ _ _ h⟩)
  · exact .inr h
mutual
theorem Rl.mono {K:PySem.W.Frag} {ρ ρ':List Addr} {H H':Hp} (e:Step ρ H ρ' H'):∀ (u:Val) (v:V),Rl K ρ H u v → Rl K ρ' H' u v
  | .non,_,h => h
  | .bl _,_,h => h
  | .int _,_,h => h
  | .str _,_,h => h
  | .tup us,v,h => by
    unfold Rl at h ⊢
    obtain ⟨a,vs,h1,h2,h3⟩:=h
    exact ⟨a,vs,h1,e.tup _ _ h2,Rls.mono e us vs h3⟩
  | .mt us,v,h => by
    unfold Rl at h ⊢
    obtain ⟨a,vs,h1,h2,h3⟩:=h
    exact ⟨a,vs,h1,e.sqT h2,Rls.mono e us vs h3⟩
  | .loc n,v,h => by
    unfold Rl at h ⊢
    obtain ⟨a,h1,h2⟩:=h
    exact ⟨a,h1,e.at_ h2⟩
  | .exc c,v,h => h
  | .fn _ _,_,h => h
theorem Rls.mono {K:PySem.W.Frag} {ρ ρ':List Addr} {H H':Hp} (e:Step ρ H ρ' H'):∀ (us:List Val) (vs:List V),Rls K ρ H us vs → Rls K ρ' H' us vs
  | [],_,h => h
  | u :: us,vs,h => by
    unfold Rls at h ⊢
    obtain ⟨v,r,h1,h2,h3⟩:=h
    exact ⟨v,r,h1,Rl.mono e u v h2,Rls.mono e us r h3⟩
end
section
variable {K:PySem.W.Frag} {ρ ρ':List Addr} {H H':Hp}
theorem Rls.nil:Rls K ρ H [] []:=by unfold Rls; rfl
theorem Rls.cons {u:Val} {us:List Val} {v:V} {vs:List V} (h:Rl K ρ H u v) (hs:Rls K ρ H us vs):Rls K ρ H (u :: us) (v :: vs):=by
  unfold Rls; exact ⟨v,vs,rfl,h,hs⟩
theorem Rls.uncons {u:Val} {us:List Val} {vs:List V} (h:Rls K ρ H (u :: us) vs):∃ v r,vs = v :: r ∧ Rl K ρ H u v ∧ Rls K ρ H us r:=by
  unfold Rls at h; exact h
theorem Rls.unnil {vs:List V} (h:Rls K ρ H [] vs):vs = []:=by unfold Rls at h; exact h
theorem Rls.length:∀ {us:List Val} {vs:List V},Rls K ρ H us vs → us.length = vs.length
  | [],vs,h => by rw [h.unnil]; rfl
  | u :: us,vs,h => by
    obtain ⟨v,r,rfl,_,h3⟩:=h.uncons
    rw [List.length_cons,List.length_cons,h3.length]
theorem Rls.get:∀ {us:List Val} {vs:List V} {i:Nat} {u:Val},Rls K ρ H us vs → us[i]? = some u → ∃ v,vs[i]? = some v ∧ Rl K ρ H u v
  | [],_,_,_,_,e => by cases e
  | w :: us,vs,0,u,h,e => by
    obtain ⟨v,r,rfl,h2,_⟩:=h.uncons
    cases e
    exact ⟨v,rfl,h2⟩
  | w :: us,vs,i + 1,u,h,e => by
    obtain ⟨v,r,rfl,_,h3⟩:=h.uncons
    exact Rls.get (i:=i) h3 e
theorem Rls.append:∀ {us ws:List Val} {vs xs:List V},Rls K ρ H us vs → Rls K ρ H ws xs → Rls K ρ H (us ++ ws) (vs ++ xs)
  | [],_,vs,_,h,k => by rw [h.unnil]; exact k
  | u :: us,ws,vs,xs,h,k => by
    obtain ⟨v,r,rfl,h2,h3⟩:=h.uncons
    exact Rls.cons h2 (h3.append k)
theorem Rls.drop:∀ (n:Nat) {us:List Val} {vs:List V},Rls K ρ H us vs → Rls K ρ H (us.drop n) (vs.drop n)
  | 0,_,_,h => h
  | _ + 1,[],vs,h => by rw [h.unnil]; exact Rls.nil
  | n + 1,u :: us,vs,h => by
    obtain ⟨v,r,rfl,h2,h3⟩:=h.uncons
    exact Rls.drop n h3
theorem Rls.take:∀ (n:Nat) {us:List Val} {vs:List V},Rls K ρ H us vs → Rls K ρ H (us.take n) (vs.take n)
  | 0,_,_,_ => Rls.nil
  | _ + 1,[],vs,h => by rw [h.unnil]; exact Rls.nil
  | n + 1,u :: us,vs,h => by
    obtain ⟨v,r,rfl,h2,h3⟩:=h.uncons
    exact Rls.cons h2 (Rls.take n h3)
theorem Rls.one {u:Val} {v:V} (h:Rl K ρ H u v):Rls K ρ H [u] [v]:=Rls.cons h Rls.nil
theorem Rls.un1 {u:Val} {vs:List V} (h:Rls K ρ H [u] vs):∃ v,vs = [v] ∧ Rl K ρ H u v:=by
  obtain ⟨v,r,rfl,h2,h3⟩:=h.uncons
  rw [h3.unnil]
  exact ⟨v,rfl,h2⟩
theorem Rls.un2 {u w:Val} {vs:List V} (h:Rls K ρ H [u,w] vs):∃ v x,vs = [v,x] ∧ Rl K ρ H u v ∧ Rl K ρ H w x:=by
  obtain ⟨v,r,rfl,h2,h3⟩:=h.uncons
  obtain ⟨x,rfl,h4⟩:=h3.un1
  exact ⟨v,x,rfl,h2,h4⟩
theorem Rls.ints:∀ (ns:List Int),Rls K ρ H (ns.map Val.int) (ns.map V.int)
  | [] => Rls.nil
  | n :: ns => Rls.cons (by unfold Rl; rfl) (Rls.ints ns)
theorem Rl.int_ {i:Int} {v:V} (h:Rl K ρ H (.int i) v):v = .int i:=by unfold Rl at h; exact h
theorem Rl.bl_ {b:Bool} {v:V} (h:Rl K ρ H (.bl b) v):v = .bl b:=by unfold Rl at h; exact h
theorem Rl.str_ {x:Str} {v:V} (h:Rl K ρ H (.str x) v):v = .str x:=by unfold Rl at h; exact h
theorem Rl.non_ {v:V} (h:Rl K ρ H .non v):v = .non:=by unfold Rl at h; exact h
theorem Rl.tupH {us:List Val} {v:V} (h:Rl K ρ H (.tup us) v):∃ a vs,v = .ref a ∧ H a = some (.tup vs) ∧ Rls K ρ H us vs:=by unfold Rl at h; exact h
theorem Rl.tup_ {us:List Val} {v:V} (h:Rl K ρ H (.tup us) v):∃ a vs,v = .ref a ∧ SqT K H a vs ∧ Rls K ρ H us vs:=let ⟨a,vs,h1,h2,h3⟩:=h.tupH; ⟨a,vs,h1,SqT.of h2,h3⟩
theorem Rl.mt_ {us:List Val} {v:V} (h:Rl K ρ H (.mt us) v):∃ a vs,v = .ref a ∧ SqT K H a vs ∧ Rls K ρ H us vs:=by unfold Rl at h; exact h
theorem Rl.mkMt {us:List Val} {a:Addr} {vs:List V} (h:SqT K H a vs) (r:Rls K ρ H us vs):Rl K ρ H (.mt us) (.ref a):=by unfold Rl; exact ⟨a,vs,rfl,h,r⟩
theorem Rl.loc_ {n:Nat} {v:V} (h:Rl K ρ H (.loc n) v):∃ a,v = .ref a ∧ ρ[n]? = some a:=by unfold Rl at h; exact h
theorem Rl.mkInt (i:Int):Rl K ρ H (.int i) (.int i):=by unfold Rl; rfl
theorem Rl.mkBl (b:Bool):Rl K ρ H (.bl b) (.bl b):=by unfold Rl; rfl
theorem Rl.mkStr (x:Str):Rl K ρ H (.str x) (.str x):=by unfold Rl; rfl
theorem Rl.mkNon:Rl K ρ H .non .non:=by unfold Rl; rfl
theorem Rl.mkTup {us:List Val} {a:Addr} {vs:List V} (h:H a = some (.tup vs)) (r:Rls K ρ H us vs):Rl K ρ H (.tup us) (.ref a):=by unfold Rl; exact ⟨a,vs,rfl,h,r⟩
theorem Rl.mkLoc {n:Nat} {a:Addr} (h:ρ[n]? = some a):Rl K ρ H (.loc n) (.ref a):=by unfold Rl; exact ⟨a,rfl,h⟩
end
noncomputable def Prs {κ:Type} (K:PySem.W.Frag) (ρ:List Addr) (H:Hp) (kvs:List (κ × Val)) (kvs':List (κ × V)):Prop:=kvs.map (·.1) = kvs'.map (·.1) ∧ Rls K ρ H (kvs.map (·.2)) (kvs'.map (·.2))
noncomputable def isMod:Option Cell → Bool
  | some (.mod _) => true
  | _ => false
noncomputable def ModL (K:PySem.W.Frag) (a:Addr) (vs:List V):Prop:=∃ (o:Obj) (its:Array Value) (n:Nat),K.lookup a = some o ∧ o.cls = .type "list" ∧ o.dict = none ∧ o.data = .seq its n ∧ its.size ≤ sizeLine ∧ Vals vs its.toList
noncomputable def CellR (K:PySem.W.Frag) (ρ:List Addr) (H:Hp):Cell → Addr → Prop
  | .lst us,a => ∃ vs,H a = some (.lst vs) ∧ Rls K ρ H us vs
  | .fro us,a => ∃ o vs,H a = some (.frz o (.lst vs)) ∧ Rls K ρ H us vs
  | .mod us,a => ∃ vs,ModL K a vs ∧ Rls K ρ H us vs
  | .dK kvs,a => ∃ kvs',H a = some (.dK kvs') ∧ Prs K ρ H kvs kvs'
  | .dT kvs,a => ∃ kvs',H a = some (.dT kvs') ∧ Prs K ρ H kvs kvs'
structure SR (K:PySem.W.Frag) (ρ:List Addr) (st:Store) (H:Hp):Prop where
  len:ρ.length = st.length
  nd:∀ (n m:Nat) a,ρ[n]? = some a → ρ[m]? = some a → isMod st[n]? = false → isMod st[m]? = false → n = m
  cell:∀ (n:Nat) c a,st[n]? = some c → ρ[n]? = some a → CellR K ρ H c a
theorem getL_lt {α:Type} {l:List α} {n:Nat} {x:α} (h:l[n]? = some x):n < l.length:=by
  rcases Nat.lt_or_ge n l.length with q | q
  · exact q
  · rw [List.getElem?_eq_none q] at h; cases h
section
variable {K:PySem.W.Frag} {ρ ρ':List Addr} {H H':Hp} {st:Store}
theorem CellR.there {c:Cell} {a:Addr} (h:CellR K ρ H c a) (hn:isMod (some c) = false):∃ o,H a = some o ∧ ∀ xs,o ≠ .tup xs:=by
  cases c with
  | lst us => obtain ⟨vs,h,_⟩:=h; exact ⟨_,h,fun xs e => by cases e⟩
  | fro us => obtain ⟨o,vs,h,_⟩:=h; exact ⟨_,h,fun xs e => by cases e⟩
  | mod us => cases hn
  | dK kvs => obtain ⟨vs,h,_⟩:=h; exact ⟨_,h,fun xs e => by cases e⟩
  | dT kvs => obtain ⟨vs,h,_⟩:=h; exact ⟨_,h,fun xs e => by cases e⟩
theorem CellR.mono {c:Cell} {a:Addr} (h:CellR K ρ H c a) (e:Step ρ H ρ' H') (ha:isMod (some c) = true ∨ H' a = H a):CellR K ρ' H' c a:=by
  cases c with
  | mod us => obtain ⟨vs,h,r⟩:=h; exact ⟨vs,h,Rls.mono e _ _ r⟩
  | lst us => rcases ha with ha | ha <;> first | cases ha; done | (obtain ⟨vs,h,r⟩:=h; exact ⟨vs,ha.trans h,Rls.mono e _ _ r⟩)
  | fro us => rcases ha with ha | ha <;> first | cases ha; done | (obtain ⟨o,vs,h,r⟩:=h; exact ⟨o,vs,ha.trans h,Rls.mono e _ _ r⟩)
  | dK kvs => rcases ha with ha | ha <;> first | cases ha; done | (obtain ⟨vs,h,r⟩:=h; exact ⟨vs,ha.trans h,r.1,Rls.mono e _ _ r.2⟩)
  | dT kvs => rcases ha with ha | ha <;> first | cases ha; done | (obtain ⟨vs,h,r⟩:=h; exact ⟨vs,ha.trans h,r.1,Rls.mono e _ _ r.2⟩)
theorem CellR.grow {c:Cell} {a:Addr} (h:CellR K ρ H c a) (e:Step ρ H ρ' H') (s:Same H H'):CellR K ρ' H' c a:=by
  cases z:isMod (some c) with
  | true => exact h.mono e (.inl z)
  | false =>
    obtain ⟨o,ho,_⟩:=h.there z
    exact h.mono e (.inr (by rw [ho]; exact s _ _ ho))
theorem SR.there (s:SR K ρ st H) {n:Nat} {a:Addr} (h:ρ[n]? = some a):∃ c,st[n]? = some c ∧ CellR K ρ H c a:=by
  have hn:=getL_lt h
  have hn':n < st.length:=by rw [← s.len]; exact hn
  exact ⟨st[n],List.getElem?_eq_getElem hn',s.cell n _ a (List.getElem?_eq_getElem hn') h⟩
theorem SR.grow (s:SR K ρ st H) (e:Same H H'):SR K ρ st H' :=
  ⟨s.len,s.nd,fun n c a h1 h2 => (s.cell n c a h1 h2).grow (Step.same e) e⟩
theorem SR.notin (s:SR K ρ st H) {p:Addr} (hp:H p = none) {n:Nat} (h:ρ[n]? = some p) (hm:isMod st[n]? = false):False:=by
  obtain ⟨c,hc,k⟩:=s.there h
  rw [hc] at hm
  obtain ⟨o,ho,_⟩:=k.there hm
  rw [hp] at ho
  cases ho
theorem same_upd {p:Addr} {o:HO} (hp:H p = none):Same H (upd H p o):=Same.upd (Same.refl H) hp
theorem SR.alloc (s:SR K ρ st H) {p:Addr} {o:HO} {c:Cell} (hp:H p = none) (k:CellR K (ρ ++ [p]) (upd H p o) c p):SR K (ρ ++ [p]) (st ++ [c]) (upd H p o):=by
  have e:Same H (upd H p o):=same_upd hp
  have at_:∀ (n:Nat) (a:Addr),(ρ ++ [p])[n]? = some a → (n < st.length ∧ ρ[n]? = some a ∧ (st ++ [c])[n]? = st[n]?) ∨ (n = st.length ∧ a = p ∧ (st ++ [c])[n]? = some c):=by
    intro n a h
    rcases Nat.lt_trichotomy n st.length with q | q | q
    · rw [List.getElem?_append_left (by rw [s.len]; exact q)] at h
      exact .inl ⟨q,h,List.getElem?_append_left q⟩
    · subst q
      rw [List.getElem?_append_right (by rw [s.len]; exact Nat.le_refl _),s.len,Nat.sub_self] at h
      cases h
      refine .inr ⟨rfl,rfl,?_⟩
      rw [List.getElem?_append_right (Nat.le_refl _),Nat.sub_self]; rfl
    · rw [List.getElem?_eq_none (by rw [List.length_append,List.length_singleton,s.len]; omega)] at h
      cases h
  refine ⟨by rw [List.length_append,List.length_append,s.len]; rfl,fun n m a h1 h2 m1 m2 => ?_,fun n c' a h1 h2 => ?_⟩
  · rcases at_ n a h1 with ⟨q1,q2,q3⟩ | ⟨q1,q2,q3⟩ <;> rcases at_ m a h2 with ⟨r1,r2,r3⟩ | ⟨r1,r2,r3⟩
    · rw [q3] at m1; rw [r3] at m2; exact s.nd n m a q2 r2 m1 m2
    · subst r2; rw [q3] at m1; exact (s.notin hp q2 m1).elim
    · subst q2; rw [r3] at m2; exact (s.notin hp r2 m2).elim
    · rw [q1,r1]
  · rcases at_ n a h2 with ⟨q1,q2,q3⟩ | ⟨q1,q2,q3⟩
    · rw [q3] at h1
      exact (s.cell n c' a h1 q2).grow (Step.snoc p e) e
    · rw [q3] at h1
      cases h1
      subst q2
      exact k
theorem Step.put {a:Addr} {o o':HO} (h:H a = some o) (h1:∀ xs,o ≠ .tup xs) (h2:∀ x u,o ≠ .frz x u):Step ρ H ρ (upd H a o'):=by
  refine ⟨List.prefix_refl ρ,fun b xs e => ?_,fun b x u e => ?_⟩
  · rw [upd_ne (fun z => ?_)]
    · exact e
    · subst z; rw [h] at e; exact h1 _ (Option.some.inj e)
  · rw [upd_ne (fun z => ?_)]
    · exact e
    · subst z; rw [h] at e; exact h2 _ _ (Option.some.inj e)
theorem SR.set (s:SR K ρ st H) {n:Nat} {a:Addr} {o o':HO} {c c':Cell} (h:st[n]? = some c) (hc:isMod (some c) = false) (hc':isMod (some c') = false) (ha:ρ[n]? = some a) (ho:H a = some o) (h1:∀ xs,o ≠ .tup xs) (h2:∀ x u,o ≠ .frz x u)
    (k:CellR K ρ (upd H a o') c' a):SR K ρ (st.set n c') (upd H a o'):=by
  have hn:n < st.length:=getL_lt h
  have at_:∀ (m:Nat),isMod (st.set n c')[m]? = isMod st[m]?:=fun m => by
    by_cases z:m = n
    · subst z; rw [List.getElem?_set_self hn,h,hc,hc']
    · rw [List.getElem?_set_ne (fun y => z y.symm)]
  refine ⟨by rw [List.length_set]; exact s.len,fun i m b q1 q2 m1 m2 => s.nd i m b q1 q2 (by rw [← at_]; exact m1) (by rw [← at_]; exact m2),fun m d b q1 q2 => ?_⟩
  by_cases z:m = n
  · subst z
    rw [ha] at q2
    cases q2
    rw [List.getElem?_set_self hn] at q1
    cases q1
    exact k
  · rw [List.getElem?_set_ne (fun y => z y.symm)] at q1
    have kb:=s.cell m d b q1 q2
    cases zm:isMod (some d) with
    | true => exact kb.mono (Step.put ho h1 h2) (.inl zm)
    | false =>
      have hb:b ≠ a:=fun y => z (s.nd m n a (by rw [← y]; exact q2) ha (by rw [q1]; exact zm) (by rw [h]; exact hc))
      exact kb.mono (Step.put ho h1 h2) (.inr (upd_ne hb))
end
noncomputable def RlE (W:Wo) (ρ:List Addr) (H:Hp) (u:Val) (v:V):Prop:=match u with
  | .exc c => ∃ a oe C,v = .ref a ∧ (a,oe) ∈ W.pn ∧ W.mg c = some (.ref C) ∧ oe.cls = .ref C
  | u => Rl W.K ρ H u v
theorem RlE.mono {W:Wo} {ρ ρ':List Addr} {H H':Hp} {u:Val} {v:V} (h:RlE W ρ H u v) (e:Step ρ H ρ' H'):RlE W ρ' H' u v:=by
  cases u with
  | exc c => exact h
  | _ => exact Rl.mono e _ _ h
theorem RlE.of {W:Wo} {ρ:List Addr} {H:Hp} {u:Val} {v:V} (h:Rl W.K ρ H u v):RlE W ρ H u v:=by
  cases u with
  | exc c => unfold Rl at h; exact h.elim
  | _ => exact h
structure RS (W:Wo) (ρ:List Addr) (H:Hp) (μ:Env) (σ:St):Prop where
  len:μ.length = σ.length
  at_:∀ (i:Nat) u,μ[i]? = some (some u) → ∃ v,σ[i]? = some (some v) ∧ RlE W ρ H u v
section
variable {W:Wo} {ρ ρ':List Addr} {H H':Hp} {μ:Env} {σ:St}
theorem RS.mono (r:RS W ρ H μ σ) (e:Step ρ H ρ' H'):RS W ρ' H' μ σ:=⟨r.len,fun i u h => let ⟨v,h1,h2⟩:=r.at_ i u h; ⟨v,h1,h2.mono e⟩⟩
theorem RS.setE (r:RS W ρ H μ σ) (i:Nat) {u:Val} {v:V} (h:RlE W ρ H u v):RS W ρ H (μ.set i (some u)) (σ.set i (some v)):=by
  refine ⟨by rw [List.length_set,List.length_set]; exact r.len,fun j w e => ?_⟩
  by_cases z:j = i
  · subst z
    have hj:=getL_lt e
    rw [List.length_set] at hj
    rw [List.getElem?_set_self hj] at e
    cases e
    exact ⟨v,List.getElem?_set_self (by rw [← r.len]; exact hj),h⟩
  · rw [List.getElem?_set_ne (fun y => z y.symm)] at e ⊢
    exact r.at_ j w e
theorem RS.set (r:RS W ρ H μ σ) (i:Nat) {u:Val} {v:V} (h:Rl W.K ρ H u v):RS W ρ H (μ.set i (some u)) (σ.set i (some v)):=r.setE i (RlE.of h)
end
end MN
namespace MN
open PySem PySem.Spec L2
open PyProof.Rows hiding St
noncomputable abbrev ME:=Env → Store → Res Val
noncomputable abbrev MT:=Env → Store → Res Bool
noncomputable abbrev MA:=Env → Store → Res (List Val)
noncomputable abbrev MB:=Env → Store → SRes
noncomputable def wR {α β:Type} (W:Wo) (E:XK) (R:List Addr → Hp → α → β → Prop) (ρ:List Addr) (H:Hp) (Q:β → Hp → Prop):Res α → Prop
  | .ok u st' => ∀ ρ' H' v,Step ρ H ρ' H' → SR W.K ρ' st' H' → R ρ' H' u v → Q v H'
  | .err c st' => ∃ C,W.mg c = some (.ref C) ∧ ∀ ρ' H',Step ρ H ρ' H' → SR W.K ρ' st' H' → E (.ref C) none H'
  | .bad => False
theorem wR.mono {α β:Type} {W:Wo} {E:XK} {R:List Addr → Hp → α → β → Prop} {ρ ρ':List Addr} {H H':Hp} {Q:β → Hp → Prop} {r:Res α} (h:wR W E R ρ H Q r) (e:Step ρ H ρ' H'):wR W E R ρ' H' Q r:=by
  cases r with
  | ok u st => exact fun ρ2 H2 v e2 s r => h ρ2 H2 v (e.trans e2) s r
  | err c st => obtain ⟨C,h1,h2⟩:=h; exact ⟨C,h1,fun ρ2 H2 e2 s => h2 ρ2 H2 (e.trans e2) s⟩
  | bad => exact h
theorem wR.pn {α β:Type} {K:PySem.W.Frag} {mg:Str → Option Value} {pn pn':List (Addr × Obj)} {E:XK} {R:List Addr → Hp → α → β → Prop} {ρ:List Addr} {H:Hp} {Q:β → Hp → Prop} {r:Res α} (h:wR ⟨K,mg,pn⟩ E R ρ H Q r):wR ⟨K,mg,pn'⟩ E R ρ H Q r:=by
  cases r <;> exact h
noncomputable def tG {α β:Type} (W:Wo) (E:XK) (R:List Addr → Hp → α → β → Prop) (m:Env → Store → Res α):St → Hp → (β → Hp → Prop) → Prop :=
  fun σ H Q => ∃ μ ρ st,RS W ρ H μ σ ∧ SR W.K ρ st H ∧ wR W E R ρ H Q (m μ st)
noncomputable abbrev RB:List Addr → Hp → Bool → Bool → Prop:=fun _ _ b c => c = b
noncomputable abbrev tE (X:Cx) (E:XK) (m:ME):TE:=tG (wo X) E (Rl X.K) m
noncomputable abbrev tT (X:Cx) (E:XK) (m:MT):TT:=tG (wo X) E RB m
noncomputable abbrev tL (X:Cx) (E:XK) (m:MA):TA:=tG (wo X) E (Rls X.K) m
theorem go {α β γ δ:Type} {W:Wo} {E:XK} {R1:List Addr → Hp → α → β → Prop} {R2:List Addr → Hp → γ → δ → Prop} {m:Env → Store → Res α} {k:α → Store → Res γ} {σ:St} {H:Hp} {Q:δ → Hp → Prop} {Q':β → Hp → Prop}
    (μ:Env) (ρ:List Addr) (st:Store) (rs:RS W ρ H μ σ) (sr:SR W.K ρ st H) (h:wR W E R2 ρ H Q ((m μ st).bind k))
    (c:∀ u st1 ρ1 H1 x,Step ρ H ρ1 H1 → SR W.K ρ1 st1 H1 → R1 ρ1 H1 u x → wR W E R2 ρ1 H1 Q (k u st1) → Q' x H1):tG W E R1 m σ H Q':=by
  refine ⟨μ,ρ,st,rs,sr,?_⟩
  cases e:m μ st with
  | ok u st1 =>
    rw [e] at h
    intro ρ1 H1 x e1 sr1 r1
    exact c u st1 ρ1 H1 x e1 sr1 r1 (wR.mono h e1)
  | err c st1 => rw [e] at h; exact h
  | bad => rw [e] at h; exact h
section
variable {X:Cx}
theorem PE.imp {e:Expr} {t t':TE} (h:PE X e t) (k:∀ σ H Q,t' σ H Q → t σ H Q):PE X e t':=fun pins s σ H Q I q => h pins s σ H Q I (k σ H Q q)
theorem PT.imp {e:Expr} {t t':TT} (h:PT X e t) (k:∀ σ H Q,t' σ H Q → t σ H Q):PT X e t':=fun pins s σ H Q I q => h pins s σ H Q I (k σ H Q q)
theorem PW.imp {e:Expr} {t t':TT} (h:PW X e t) (k:∀ σ H Q,t' σ H Q → t σ H Q):PW X e t':=fun w pins s σ H Q I q => h w pins s σ H Q I (k σ H Q q)
theorem PA.imp {e:List Expr} {t t':TA} (h:PA X e t) (k:∀ σ H Q,t' σ H Q → t σ H Q):PA X e t':=fun p pins s σ H Q I q => h p pins s σ H Q I (k σ H Q q)
theorem PS.imp {e:Stmt} {t t':TS} (h:PS X e t) (k:∀ D σ H,t' D σ H → t D σ H):PS X e t':=fun pins s σ H D I q => h pins s σ H D I (k D σ H q)
theorem PSs.imp {e:List Stmt} {t t':TS} (h:PSs X e t) (k:∀ D σ H,t' D σ H → t D σ H):PSs X e t':=fun pins s σ H D I q => h pins s σ H D I (k D σ H q)
theorem PG.imp {e:Expr} {t t':TG} (h:PG X e t) (k:∀ v σ H Q,t' v σ H Q → t v σ H Q):PG X e t':=fun pins s σ H v u Q I r q => h pins s σ H v u Q I r (k v σ H Q q)
theorem OpR.imp {f:Value → Value → Sem Value} {t t':R2} (h:OpR X f t) (k:∀ x y H Q,t' x y H Q → t x y H Q):OpR X f t':=fun pins s σ H x y v u Q I rx ry q => h pins s σ H x y v u Q I rx ry (k x y H Q q)
theorem CallR.imp {f:Value} {t t':List V → Hp → VK → Prop} (h:CallR X f t) (k:∀ xs H Q,t' xs H Q → t xs H Q):CallR X f t':=fun pins s σ H xs us Q I r q => h pins s σ H xs us Q I r (k xs H Q q)
theorem IxR.imp {t t':R2} (h:IxR X t) (k:∀ x y H Q,t' x y H Q → t x y H Q):IxR X t':=fun va sl pins s σ H x y v u Q I rx ry q e => h va sl pins s σ H x y v u Q I rx ry (k x y H Q q) e
end
noncomputable def isX:Val → Bool
  | .exc _ => true
  | _ => false
noncomputable def mVar (i:Nat):ME:=fun μ st => match μ[i]? with
  | some (some v) => if isX v = true then .bad else .ok v st
  | _ => .bad
theorem RlE.un {W:Wo} {ρ:List Addr} {H:Hp} {u:Val} {v:V} (h:RlE W ρ H u v) (n:¬ isX u = true):Rl W.K ρ H u v:=by
  cases u with
  | exc c => exact absurd rfl n
  | _ => exact h
noncomputable def mC (v:Val):ME:=fun _ st => .ok v st
section
variable {X:Cx} {E:XK} {pos:Pos}
theorem me_var (i:Nat) {x:Str} (hN:X.N[i]? = some x:=by rfl) (hv:Vis X.env.scope x:=by first | exact Or.inl rfl | exact Or.inr (Or.inl rfl) | exact Or.inr (Or.inr rfl)) (hd:(x == ("__debug__":Str)) = false:=by decide)
    (hcd:(x == ("__classdict__":Str)) = false:=by decide):PE X (.Name x pos) (tE X E (mVar i)):=by
  refine PE.imp (pe_var hN hv hd hcd) ?_
  rintro σ H Q ⟨μ,ρ,st,rs,sr,h⟩
  unfold mVar at h
  split at h
  · rename_i v e
    obtain ⟨w,e',r⟩:=rs.at_ i v e
    split at h
    · exact h.elim
    · rename_i n
      exact ⟨w,e',h ρ H w (Step.refl _ _) sr (r.un n)⟩
  · exact h.elim
theorem me_of {e:Expr} {v:V} {c:Val} (h:PE X e (tC v)) (r:∀ ρ H,Rl X.K ρ H c v):PE X e (tE X E (mC c)):=by
  refine PE.imp h ?_
  rintro σ H Q ⟨μ,ρ,st,rs,sr,h⟩
  exact h ρ H v (Step.refl _ _) sr (r ρ H)
theorem me_int {i j}:PE X (.Constant (.int i) j pos) (tE X E (mC (.int i))):=me_of pe_int fun _ _ => Rl.mkInt i
theorem me_bl {b j}:PE X (.Constant (.bool b) j pos) (tE X E (mC (.bl b))):=me_of pe_bl fun _ _ => Rl.mkBl b
theorem me_str {x j}:PE X (.Constant (.str x) j pos) (tE X E (mC (.str x))):=me_of pe_str fun _ _ => Rl.mkStr x
structure Glob (K:PySem.W.Frag) (mg:Str → Option Value) (x:Str) (c:Val):Prop where
  at_:∃ (u:Value) (v:V),mg x = some u ∧ RelV v u ∧ ∀ ρ H,Rl K ρ H c v
theorem me_glob {x:Str} {c:Val} (hg:Gl X x) (h:Glob X.K X.mg x c) (hd:(x == ("__debug__":Str)) = false:=by decide):PE X (.Name x pos) (tE X E (mC c)):=by
  obtain ⟨u,v,h1,h2,h3⟩:=h.at_
  exact me_of (pe_glob hg h1 h2 hd) h3
end
noncomputable abbrev F2:=Val → Val → Store → Res Val
noncomputable def rM (W:Wo) (E:XK) (f:F2):R2:=fun x y H Q => ∃ ρ st u w,SR W.K ρ st H ∧ Rl W.K ρ H u x ∧ Rl W.K ρ H w y ∧ wR W E (Rl W.K) ρ H Q (f u w st)
noncomputable def mBin (f:F2) (a b:ME):ME:=fun μ st => (a μ st).bind fun x st1 => (b μ st1).bind fun y st2 => f x y st2
section
variable {X:Cx} {E:XK} {pos:Pos} {a b c:Expr} {ma mb mc:ME} {f g:F2}
theorem bin_read {σ:St} {H:Hp} {Q:VK} (h:tE X E (mBin f ma mb) σ H Q):tOp (rM (wo X) E f) (tE X E ma) (tE X E mb) σ H Q:=by
  obtain ⟨μ,ρ,st,rs,sr,h⟩:=h
  refine go μ ρ st rs sr h fun u st1 ρ1 H1 x e1 sr1 r1 h1 => ?_
  refine go μ ρ1 st1 (rs.mono e1) sr1 h1 fun w st2 ρ2 H2 y e2 sr2 r2 h2 => ?_
  exact ⟨ρ2,st2,u,w,sr2,Rl.mono e2 _ _ r1,r2,h2⟩
theorem me_bin {op:Operator} (ho:OpR X (binaryOp op) (rM (wo X) E f)) (ha:PE X a (tE X E ma)) (hb:PE X b (tE X E mb)):PE X (.BinOp a op b pos) (tE X E (mBin f ma mb)) :=
  PE.imp (pe_op ho ha hb) fun _ _ _ h => bin_read h
theorem me_cmp {op:CmpOp} (ho:OpR X (compareOp op) (rM (wo X) E f)) (ha:PE X a (tE X E ma)) (hb:PE X b (tE X E mb)) (hm:behindInMarks op b = false:=by first | exact nomark _ | (with_unfolding_all rfl)):PE X (.Compare a [op] [b] pos) (tE X E (mBin f ma mb)) :=
  PE.imp (pe_cmpR ho ha hb hm) fun _ _ _ h => bin_read h
noncomputable def asT (m:ME):MT:=fun μ st => (m μ st).bind fun v st' => match v with
  | .bl b => .ok b st'
  | _ => .bad
theorem asT_read {m:ME} {σ:St} {H:Hp} {Q:Bool → Hp → Prop} (h:tT X E (asT m) σ H Q):tE X E m σ H fun x H' => ∃ k,x = .bl k ∧ Q k H':=by
  obtain ⟨μ,ρ,st,rs,sr,h⟩:=h
  refine go μ ρ st rs sr h fun u st1 ρ1 H1 x e1 sr1 r1 h1 => ?_
  cases u with
  | bl b => exact ⟨b,r1.bl_,h1 ρ1 H1 b (Step.refl _ _) sr1 rfl⟩
  | _ => exact h1.elim
theorem mt_cmp {op:CmpOp} (ho:OpR X (compareOp op) (rM (wo X) E f)) (ha:PE X a (tE X E ma)) (hb:PE X b (tE X E mb)) (hm:behindInMarks op b = false:=by first | exact nomark _ | (with_unfolding_all rfl)):PT X (.Compare a [op] [b] pos) (tT X E (asT (mBin f ma mb))) :=
  PT.imp (pt_cmpR ho ha hb hm) fun σ H Q h => by
    show tOp (rM (wo X) E f) (tE X E ma) (tE X E mb) σ H _
    exact bin_read (asT_read h)
theorem mt_val {m:ME} (h:PE X a (tE X E m)) (he:∀ whole,isTrue a X.env whole = (do let v ← whole; standAt a.pos; holding [v] (truthy v)):=by intro _; rfl):PT X a (tT X E (asT m)) :=
  PT.imp (pt_val h he) fun σ H Q h => asT_read h
noncomputable def mChain (f g:F2) (a b c:ME):ME:=fun μ st => (a μ st).bind fun x st1 => (b μ st1).bind fun y st2 => (f x y st2).bind fun z st3 => match z with
  | .bl true => (c μ st3).bind fun w st4 => g y w st4
  | .bl false => .ok (.bl false) st3
  | _ => .bad
noncomputable def Tells (f:F2):Prop:=∀ u w st,f u w st = .bad ∨ ∃ b,f u w st = .ok (.bl b) st
theorem chain_read (hf:Tells f) {σ:St} {H:Hp} {Q:VK} (h:tE X E (mChain f g ma mb mc) σ H Q):tChain (rM (wo X) E f) (rM (wo X) E g) (tE X E ma) (tE X E mb) (tE X E mc) σ H Q:=by
  obtain ⟨μ,ρ,st,rs,sr,h⟩:=h
  refine go μ ρ st rs sr h fun u st1 ρ1 H1 x e1 sr1 r1 h1 => ?_
  refine go μ ρ1 st1 (rs.mono e1) sr1 h1 fun w st2 ρ2 H2 y e2 sr2 r2 h2 => ?_
  refine ⟨ρ2,st2,u,w,sr2,Rl.mono e2 _ _ r1,r2,?_⟩
  rcases hf u w st2 with e | ⟨k,e⟩
  · rw [e] at h2; exact h2.elim
  · rw [e] at h2 ⊢
    intro ρ3 H3 z e3 sr3 rz
    rw [rz.bl_]
    refine ⟨k,rfl,?_⟩
    cases k with
    | true =>
      rw [if_pos rfl]
      refine go μ ρ3 st2 (((rs.mono e1).mono e2).mono e3) sr3 (wR.mono h2 e3) fun v st4 ρ4 H4 x4 e4 sr4 r4 h4 => ?_
      exact ⟨ρ4,st4,w,v,sr4,Rl.mono (e3.trans e4) _ _ r2,r4,h4⟩
    | false =>
      rw [if_neg Bool.false_ne_true]
      exact h2 ρ3 H3 _ e3 sr3 (Rl.mkBl false)
theorem me_chain {op op':CmpOp} (hf:Tells f) (ho:OpR X (compareOp op) (rM (wo X) E f)) (ho':OpR X (compareOp op') (rM (wo X) E g)) (ha:PE X a (tE X E ma)) (hb:PE X b (tE X E mb)) (hc:PE X c (tE X E mc))
    (hm:lastMarks [op,op'] [b,c] = false:=by with_unfolding_all rfl):PE X (.Compare a [op,op'] [b,c] pos) (tE X E (mChain f g ma mb mc)) :=
  PE.imp (pe_chain ho ho' ha hb hc hm) fun _ _ _ h => chain_read hf h
noncomputable def mAnd (a b:ME):ME:=fun μ st => (a μ st).bind fun x st1 => match x with
  | .bl true => b μ st1
  | .bl false => .ok (.bl false) st1
  | _ => .bad
noncomputable def mOr (a b:ME):ME:=fun μ st => (a μ st).bind fun x st1 => match x with
  | .bl true => .ok (.bl true) st1
  | .bl false => b μ st1
  | _ => .bad
noncomputable def mNot (a:ME):ME:=fun μ st => (a μ st).bind fun x st1 => match x with
  | .bl b => .ok (.bl (!b)) st1
  | _ => .bad
noncomputable def tAndM (a b:MT):MT:=fun μ st => (a μ st).bind fun x st1 => match x with
  | true => b μ st1
  | false => .ok false st1
noncomputable def tOrM (a b:MT):MT:=fun μ st => (a μ st).bind fun x st1 => match x with
  | true => .ok true st1
  | false => b μ st1
noncomputable def tNotM (a:MT):MT:=fun μ st => (a μ st).bind fun x st1 => .ok (!x) st1
noncomputable def mIf (t:MT) (a b:ME):ME:=fun μ st => (t μ st).bind fun x st1 => match x with
  | true => a μ st1
  | false => b μ st1
variable {rest:List Expr} {tA tB':MT}
theorem me_one {op} {m:ME} (h:PE X a (tE X E m)):PE X (.BoolOp op [a] pos) (tE X E m):=pe_one h
theorem me_and (ha:PE X a (tE X E ma)) (hb:PE X (.BoolOp .And (b :: rest) pos) (tE X E mb)):PE X (.BoolOp .And (a :: b :: rest) pos) (tE X E (mAnd ma mb)):=by
  refine PE.imp (pe_and ha hb) ?_
  rintro σ H Q ⟨μ,ρ,st,rs,sr,h⟩
  refine go μ ρ st rs sr h fun u st1 ρ1 H1 x e1 sr1 r1 h1 => ?_
  cases u with
  | bl k =>
    refine ⟨k,r1.bl_,?_⟩
    cases k with
    | true => rw [if_pos rfl]; exact ⟨μ,ρ1,st1,rs.mono e1,sr1,h1⟩
    | false => rw [if_neg Bool.false_ne_true]; exact h1 ρ1 H1 _ (Step.refl _ _) sr1 (Rl.mkBl false)
  | _ => exact h1.elim
theorem me_or (ha:PE X a (tE X E ma)) (hb:PE X (.BoolOp .Or (b :: rest) pos) (tE X E mb)):PE X (.BoolOp .Or (a :: b :: rest) pos) (tE X E (mOr ma mb)):=by
  refine PE.imp (pe_or ha hb) ?_
  rintro σ H Q ⟨μ,ρ,st,rs,sr,h⟩
  refine go μ ρ st rs sr h fun u st1 ρ1 H1 x e1 sr1 r1 h1 => ?_
  cases u with
  | bl k =>
    refine ⟨k,r1.bl_,?_⟩
    cases k with
    | true => rw [if_pos rfl]; exact h1 ρ1 H1 _ (Step.refl _ _) sr1 (Rl.mkBl true)
    | false => rw [if_neg Bool.false_ne_true]; exact ⟨μ,ρ1,st1,rs.mono e1,sr1,h1⟩
  | _ => exact h1.elim
theorem me_not (ha:PE X a (tE X E ma)):PE X (.UnaryOp .Not a pos) (tE X E (mNot ma)):=by
  refine PE.imp (pe_not ha) ?_
  rintro σ H Q ⟨μ,ρ,st,rs,sr,h⟩
  refine go μ ρ st rs sr h fun u st1 ρ1 H1 x e1 sr1 r1 h1 => ?_
  cases u with
  | bl k => exact ⟨k,r1.bl_,h1 ρ1 H1 _ (Step.refl _ _) sr1 (Rl.mkBl _)⟩
  | _ => exact h1.elim
theorem mw_and1 (ha:PT X a (tT X E tA)):PW X (.BoolOp .And [a] pos) (tT X E tA):=pw_and1 ha
theorem mw_or1 (ha:PT X a (tT X E tA)):PW X (.BoolOp .Or [a] pos) (tT X E tA):=pw_or1 ha
theorem mw_and (ha:PT X a (tT X E tA)) (hb:PW X (.BoolOp .And (b :: rest) pos) (tT X E tB')):PW X (.BoolOp .And (a :: b :: rest) pos) (tT X E (tAndM tA tB')):=by
  refine PW.imp (pw_and ha hb) ?_
  rintro σ H Q ⟨μ,ρ,st,rs,sr,h⟩
  refine go (R1:=RB) μ ρ st rs sr h fun u st1 ρ1 H1 x e1 sr1 r1 h1 => ?_
  cases r1
  cases u with
  | true => rw [if_pos rfl]; exact ⟨μ,ρ1,st1,rs.mono e1,sr1,h1⟩
  | false => rw [if_neg Bool.false_ne_true]; exact h1 ρ1 H1 _ (Step.refl _ _) sr1 rfl
theorem mw_or (ha:PT X a (tT X E tA)) (hb:PW X (.BoolOp .Or (b :: rest) pos) (tT X E tB')):PW X (.BoolOp .Or (a :: b :: rest) pos) (tT X E (tOrM tA tB')):=by
  refine PW.imp (pw_or ha hb) ?_
  rintro σ H Q ⟨μ,ρ,st,rs,sr,h⟩
  refine go (R1:=RB) μ ρ st rs sr h fun u st1 ρ1 H1 x e1 sr1 r1 h1 => ?_
  cases r1
  cases u with
  | true => rw [if_pos rfl]; exact h1 ρ1 H1 _ (Step.refl _ _) sr1 rfl
  | false => rw [if_neg Bool.false_ne_true]; exact ⟨μ,ρ1,st1,rs.mono e1,sr1,h1⟩
theorem mt_w {e:Expr} {t:MT} (h:PW X e (tT X E t)):PT X e (tT X E t):=h.pt
theorem mt_not (ha:PT X a (tT X E tA)):PT X (.UnaryOp .Not a pos) (tT X E (tNotM tA)):=by
  refine PT.imp (pt_not ha) ?_
  rintro σ H Q ⟨μ,ρ,st,rs,sr,h⟩
  refine go (R1:=RB) μ ρ st rs sr h fun u st1 ρ1 H1 x e1 sr1 r1 h1 => ?_
  cases r1
  exact h1 ρ1 H1 _ (Step.refl _ _) sr1 rfl
theorem me_if (hc:PT X c (tT X E tA)) (ha:PE X a (tE X E ma)) (hb:PE X b (tE X E mb)):PE X (.IfExp c a b pos) (tE X E (mIf tA ma mb)):=by
  refine PE.imp (pe_ifExp hc ha hb) ?_
  rintro σ H Q ⟨μ,ρ,st,rs,sr,h⟩
  refine go (R1:=RB) μ ρ st rs sr h fun u st1 ρ1 H1 x e1 sr1 r1 h1 => ?_
  cases r1
  cases u with
  | true => rw [if_pos rfl]; exact ⟨μ,ρ1,st1,rs.mono e1,sr1,h1⟩
  | false => rw [if_neg Bool.false_ne_true]; exact ⟨μ,ρ1,st1,rs.mono e1,sr1,h1⟩
end
noncomputable def mNil:MA:=fun _ st => .ok [] st
noncomputable def mCons (a:ME) (r:MA):MA:=fun μ st => (a μ st).bind fun x st1 => (r μ st1).bind fun xs st2 => .ok (x :: xs) st2
noncomputable def mTup (a:MA):ME:=fun μ st => (a μ st).bind fun xs st1 => if xs.length ≤ sizeLine then .ok (.tup xs) st1 else .bad
noncomputable def mLst (a:MA):ME:=fun μ st => (a μ st).bind fun xs st1 => if xs.length ≤ sizeLine then .ok (.loc st1.length) (st1 ++ [.lst xs]) else .bad
noncomputable abbrev FN:=List Val → Store → Res Val
noncomputable def mCall (f:FN) (a:MA):ME:=fun μ st => (a μ st).bind fun xs st1 => f xs st1
noncomputable def spM (W:Wo) (f:FN):Sp:=fun vs H Q E => ∃ us ρ st,Rls W.K ρ H us vs ∧ SR W.K ρ st H ∧ wR W E (Rl W.K) ρ H Q (f us st)
noncomputable def cM (W:Wo) (E:XK) (f:FN):List V → Hp → VK → Prop:=fun xs H Q => ∃ ρ st us,SR W.K ρ st H ∧ Rls W.K ρ H us xs ∧ wR W E (Rl W.K) ρ H Q (f us st)
section
variable {X:Cx} {E:XK} {pos p:Pos} {e:Expr} {es:List Expr} {m:ME} {ms:MA} {f:FN} {x:Str}
theorem ma_nil:PA X [] (tL X E mNil):=PA.imp pa_nil fun σ H Q ⟨μ,ρ,st,rs,sr,h⟩ => h ρ H [] (Step.refl _ _) sr Rls.nil
theorem ma_cons (ha:PE X e (tE X E m)) (hr:PA X es (tL X E ms)) (hs:starEach (e :: es) X.env = (false,eval e X.env) :: starEach es X.env:=by rfl):PA X (e :: es) (tL X E (mCons m ms)):=by
  refine PA.imp (pa_cons ha hr hs) ?_
  rintro σ H Q ⟨μ,ρ,st,rs,sr,h⟩
  refine go μ ρ st rs sr h fun u st1 ρ1 H1 x e1 sr1 r1 h1 => ?_
  refine go (R1:=Rls X.K) μ ρ1 st1 (rs.mono e1) sr1 h1 fun w st2 ρ2 H2 y e2 sr2 r2 h2 => ?_
  exact h2 ρ2 H2 _ (Step.refl _ _) sr2 (Rls.cons (Rl.mono e2 _ _ r1) r2)
theorem me_tup {k} (h:PA X es (tL X E ms)):PE X (.Tuple es k pos) (tE X E (mTup ms)):=by
  refine PE.imp (pe_tup h) ?_
  rintro σ H Q ⟨μ,ρ,st,rs,sr,h⟩
  refine go (R1:=Rls X.K) μ ρ st rs sr h fun us st1 ρ1 H1 xs e1 sr1 r1 h1 => ?_
  by_cases hz:us.length ≤ sizeLine
  · rw [if_pos hz] at h1
    refine ⟨by rw [← r1.length]; exact hz,fun p hp => ?_⟩
    have s:=same_upd (o:=.tup xs) hp
    exact h1 ρ1 _ _ (Step.same s) (sr1.grow s) (Rl.mkTup upd_same (Rls.mono (Step.same s) _ _ r1))
  · rw [if_neg hz] at h1; exact h1.elim
theorem new_lst {K:PySem.W.Frag} {ρ:List Addr} {st:Store} {H:Hp} {us:List Val} {xs:List V} (sr:SR K ρ st H) (r:Rls K ρ H us xs) {p:Addr} (hp:H p = none) :
    Step ρ H (ρ ++ [p]) (upd H p (.lst xs)) ∧ SR K (ρ ++ [p]) (st ++ [.lst us]) (upd H p (.lst xs)) ∧ Rl K (ρ ++ [p]) (upd H p (.lst xs)) (.loc st.length) (.ref p):=by
  have s:=same_upd (o:=.lst xs) hp
  refine ⟨Step.snoc p s,sr.alloc hp ⟨xs,upd_same,Rls.mono (Step.snoc p s) _ _ r⟩,Rl.mkLoc ?_⟩
  rw [← sr.len,List.getElem?_append_right (Nat.le_refl _),Nat.sub_self]
  rfl
theorem me_lst (h:PA X es (tL X E ms)):PE X (.List es pos) (tE X E (mLst ms)):=by
  refine PE.imp (pe_lst h) ?_
  rintro σ H Q ⟨μ,ρ,st,rs,sr,h⟩
  refine go (R1:=Rls X.K) μ ρ st rs sr h fun us st1 ρ1 H1 xs e1 sr1 r1 h1 => ?_
  by_cases hz:us.length ≤ sizeLine
  · rw [if_pos hz] at h1
    refine ⟨by rw [← r1.length]; exact hz,fun p hp => ?_⟩
    obtain ⟨a,b,c⟩:=new_lst sr1 r1 hp
    exact h1 _ _ _ a b c
  · rw [if_neg hz] at h1; exact h1.elim
theorem me_call {k:Nat} {fa:Addr} {fd:FuncData} {ps:List Str} {CX:CXT} (F:FnOk X.prog X.w X.K X.mg X.base CX k fa fd ps (spM ⟨X.K,X.mg,[]⟩ f)) (hr:Room k X.A) (hg:Gl X x) (hm:X.mg x = some (.ref fa)) (hk:PySem.W.keepIn X.K (.ref fa) = true)
    (hb:Binds X.K fd ps []) (hx:Passes CX X E) (ha:PA X (e :: es) (tL X E ms)) (hdb:(x == ("__debug__":Str)) = false:=by decide)
    (he:starEach (e :: es) X.env = (false,eval e X.env) :: starEach es X.env:=by rfl) (hpl:(backTo pos (starEach es X.env)).any (·.1) = false:=by rfl) :
    PE X (.Call (.Name x p) (e :: es) [] pos) (tE X E (mCall f ms)):=by
  refine PE.imp (pe_call F hr hg hm hk hb .nil hx ha hdb he hpl) ?_
  rintro σ H Q ⟨μ,ρ,st,rs,sr,h⟩
  refine go (R1:=Rls X.K) μ ρ st rs sr h fun us st1 ρ1 H1 xs e1 sr1 r1 h1 => ?_
  rw [List.append_nil]
  exact ⟨us,ρ1,st1,r1,sr1,wR.pn h1⟩
theorem me_callB {id:String} (hc:CallR X (.builtin id) (cM (wo X) E f)) (hg:Gl X x) (hm:X.mg x = none) (hv:bootBuiltins x = some (.builtin id)) (ha:PA X (e :: es) (tL X E ms)) (hn:x ≠ "__name__":=by decide) (hdb:(x == ("__debug__":Str)) = false:=by decide)
    (he:starEach (e :: es) X.env = (false,eval e X.env) :: starEach es X.env:=by rfl) (hpl:(backTo pos (starEach es X.env)).any (·.1) = false:=by rfl):PE X (.Call (.Name x p) (e :: es) [] pos) (tE X E (mCall f ms)):=by
  refine PE.imp (pe_callB hc hg hm hv ha hn hdb he hpl) ?_
  rintro σ H Q ⟨μ,ρ,st,rs,sr,h⟩
  exact go (R1:=Rls X.K) μ ρ st rs sr h fun us st1 ρ1 H1 xs e1 sr1 r1 h1 => ⟨ρ1,st1,us,sr1,r1,h1⟩
theorem me_callTy {T:String} (hc:CallR X (.type T) (cM (wo X) E f)) (hg:Gl X x) (hm:X.mg x = none) (hv:bootBuiltins x = some (.type T)) (ha:PA X (e :: es) (tL X E ms)) (hn:x ≠ "__name__":=by decide) (hdb:(x == ("__debug__":Str)) = false:=by decide)
    (he:starEach (e :: es) X.env = (false,eval e X.env) :: starEach es X.env:=by rfl) (hpl:(backTo pos (starEach es X.env)).any (·.1) = false:=by rfl):PE X (.Call (.Name x p) (e :: es) [] pos) (tE X E (mCall f ms)):=by
  refine PE.imp (pe_callTy hc hg hm hv ha hn hdb he hpl) ?_
  rintro σ H Q ⟨μ,ρ,st,rs,sr,h⟩
  exact go (R1:=Rls X.K) μ ρ st rs sr h fun us st1 ρ1 H1 xs e1 sr1 r1 h1 => ⟨ρ1,st1,us,sr1,r1,h1⟩
end
section
variable {X:Cx} {E:XK} {pos:Pos} {a b:Expr} {ma mb:ME} {f:F2}
theorem me_ix (hr:IxR X (rM (wo X) E f)) (ha:PE X a (tE X E ma)) (hb:PE X b (tE X E mb)) (hs:PlainIx b:=by exact fun _ _ => rfl):PE X (.Subscript a b pos) (tE X E (mBin f ma mb)) :=
  PE.imp (pe_ix hr ha hb hs) fun _ _ _ h => bin_read h
end
noncomputable def wS (W:Wo) (E:XK) (ρ:List Addr) (H:Hp) (D:Ends):SRes → Prop
  | .nx μ st => ∀ ρ' H' σ',Step ρ H ρ' H' → SR W.K ρ' st H' → RS W ρ' H' μ σ' → D.nx σ' H'
  | .rt v st => ∀ ρ' H' x,Step ρ H ρ' H' → SR W.K ρ' st H' → Rl W.K ρ' H' v x → D.rt x H'
  | .bk μ st => ∀ ρ' H' σ',Step ρ H ρ' H' → SR W.K ρ' st H' → RS W ρ' H' μ σ' → D.bk σ' H'
  | .ct μ st => ∀ ρ' H' σ',Step ρ H ρ' H' → SR W.K ρ' st H' → RS W ρ' H' μ σ' → D.ct σ' H'
  | .er c _ st => ∃ C,W.mg c = some (.ref C) ∧ ∀ ρ' H',Step ρ H ρ' H' → SR W.K ρ' st H' → E (.ref C) none H'
  | .bad => False
theorem wS.mono {W:Wo} {E:XK} {ρ ρ':List Addr} {H H':Hp} {D:Ends} {r:SRes} (h:wS W E ρ H D r) (e:Step ρ H ρ' H'):wS W E ρ' H' D r:=by
  cases r with
  | nx μ st => exact fun ρ2 H2 σ2 e2 s r => h ρ2 H2 σ2 (e.trans e2) s r
  | rt v st => exact fun ρ2 H2 x e2 s r => h ρ2 H2 x (e.trans e2) s r
  | bk μ st => exact fun ρ2 H2 σ2 e2 s r => h ρ2 H2 σ2 (e.trans e2) s r
  | ct μ st => exact fun ρ2 H2 σ2 e2 s r => h ρ2 H2 σ2 (e.trans e2) s r
  | er c μ st => obtain ⟨C,h1,h2⟩:=h; exact ⟨C,h1,fun ρ2 H2 e2 s => h2 ρ2 H2 (e.trans e2) s⟩
  | bad => exact h
noncomputable def tS (X:Cx) (E:XK) (m:MB):TS:=fun D σ H => ∃ μ ρ st,RS (wo X) ρ H μ σ ∧ SR X.K ρ st H ∧ wS (wo X) E ρ H D (m μ st)
@[reducible] def Res.sb {α:Type} (r:Res α) (μ:Env) (k:α → Store → SRes):SRes:=match r with
  | .ok a st => k a st
  | .err c st => .er c μ st
  | .bad => .bad
theorem goS {α β:Type} {W:Wo} {E:XK} {R1:List Addr → Hp → α → β → Prop} {m:Env → Store → Res α} {k:α → Store → SRes} {σ:St} {H:Hp} {D:Ends} {Q':β → Hp → Prop}
    (μ:Env) (ρ:List Addr) (st:Store) (rs:RS W ρ H μ σ) (sr:SR W.K ρ st H) (h:wS W E ρ H D ((m μ st).sb μ k))
    (c:∀ u st1 ρ1 H1 x,Step ρ H ρ1 H1 → SR W.K ρ1 st1 H1 → R1 ρ1 H1 u x → wS W E ρ1 H1 D (k u st1) → Q' x H1):tG W E R1 m σ H Q':=by
  refine ⟨μ,ρ,st,rs,sr,?_⟩
  cases e:m μ st with
  | ok u st1 =>
    rw [e] at h
    intro ρ1 H1 x e1 sr1 r1
    exact c u st1 ρ1 H1 x e1 sr1 r1 (wS.mono h e1)
  | err c st1 => rw [e] at h; exact h
  | bad => rw [e] at h; exact h
noncomputable def sNext:MB:=fun μ st => .nx μ st
noncomputable def sSeq (a b:MB):MB:=fun μ st => match a μ st with
  | .nx μ' st' => b μ' st'
  | r => r
noncomputable def sExpr (m:ME):MB:=fun μ st => (m μ st).sb μ fun _ st' => .nx μ st'
noncomputable def sRet (m:ME):MB:=fun μ st => (m μ st).sb μ fun v st' => .rt v st'
noncomputable def sIf (t:MT) (a b:MB):MB:=fun μ st => (t μ st).sb μ fun k st' => match k with
  | true => a μ st'
  | false => b μ st'
noncomputable def sSet (i:Nat) (m:ME):MB:=fun μ st => (m μ st).sb μ fun v st' => .nx (μ.set i (some v)) st'
noncomputable def sRaise (c:Str) (m:MA):MB:=fun μ st => (m μ st).sb μ fun vs st' => if vs.length ≤ sizeLine then .er c μ st' else .bad
section
variable {X:Cx} {E:XK} {pos:Pos} {s1:Stmt} {rest:List Stmt} {e:Expr} {m:ME} {a b:MB}
theorem ms_nil:PSs X [] (tS X E sNext):=PSs.imp pss_nil fun D σ H ⟨μ,ρ,st,rs,sr,h⟩ => h ρ H σ (Step.refl _ _) sr rs
theorem ms_cons (h1:PS X s1 (tS X E a)) (h2:PSs X rest (tS X E b)):PSs X (s1 :: rest) (tS X E (sSeq a b)):=by
  refine PSs.imp (pss_cons h1 h2) ?_
  rintro D σ H ⟨μ,ρ,st,rs,sr,h⟩
  refine ⟨μ,ρ,st,rs,sr,?_⟩
  unfold sSeq at h
  cases e:a μ st with
  | nx μ' st' =>
    rw [e] at h
    intro ρ1 H1 σ1 e1 sr1 rs1
    exact ⟨μ',ρ1,st',rs1,sr1,wS.mono h e1⟩
  | rt v st' => rw [e] at h; exact h
  | bk μ' st' => rw [e] at h; exact h
  | ct μ' st' => rw [e] at h; exact h
  | er c μ' st' => rw [e] at h; exact h
  | bad => rw [e] at h; exact h
theorem ms_one (h1:PS X s1 (tS X E a)):PSs X [s1] (tS X E a):=pss_one h1
theorem ms_expr (he:PE X e (tE X E m)) (hs:swapsWith e none pos.line X.env = pure false:=by rfl):PS X (.Expr e pos) (tS X E (sExpr m)):=by
  refine PS.imp (ps_expr he hs) ?_
  rintro D σ H ⟨μ,ρ,st,rs,sr,h⟩
  exact goS μ ρ st rs sr h fun u st1 ρ1 H1 x e1 sr1 r1 h1 => h1 ρ1 H1 σ (Step.refl _ _) sr1 (rs.mono e1)
theorem ms_ret (he:PE X e (tE X E m)):PS X (.Return (some e) pos) (tS X E (sRet m)):=by
  refine PS.imp (ps_ret he) ?_
  rintro D σ H ⟨μ,ρ,st,rs,sr,h⟩
  exact goS μ ρ st rs sr h fun u st1 ρ1 H1 x e1 sr1 r1 h1 => h1 ρ1 H1 x (Step.refl _ _) sr1 r1
theorem ms_if {c:Expr} {sa sb:List Stmt} {t:MT} (hc:PT X c (tT X E t)) (ha:PSs X sa (tS X E a)) (hb:PSs X sb (tS X E b)):PS X (.If c sa sb pos) (tS X E (sIf t a b)):=by
  refine PS.imp (ps_if hc ha hb) ?_
  rintro D σ H ⟨μ,ρ,st,rs,sr,h⟩
  refine goS (R1:=RB) μ ρ st rs sr h fun u st1 ρ1 H1 x e1 sr1 r1 h1 => ?_
  cases r1
  cases u with
  | true => rw [if_pos rfl]; exact ⟨μ,ρ1,st1,rs.mono e1,sr1,h1⟩
  | false => rw [if_neg Bool.false_ne_true]; exact ⟨μ,ρ1,st1,rs.mono e1,sr1,h1⟩
theorem set_read {i:Nat} {D:Ends} {σ:St} {H:Hp} (h:tS X E (sSet i m) D σ H):tAsg (tE X E m) (gName i) D σ H:=by
  obtain ⟨μ,ρ,st,rs,sr,h⟩:=h
  exact goS μ ρ st rs sr h fun u st1 ρ1 H1 x e1 sr1 r1 h1 => h1 ρ1 H1 _ (Step.refl _ _) sr1 ((rs.mono e1).set i r1)
theorem ms_set (i:Nat) {x:Str} {pos':Pos} (hN:X.N.Nodup) (he:PE X e (tE X E m)) (hi:X.N[i]? = some x:=by rfl) (hx:Loc X.env.scope x:=by first | exact Or.inl rfl | exact Or.inr rfl) (hs:swapsWith e (some (.Name x pos')) pos.line X.env = pure false:=by rfl)
    (hf:X.fn x = true ∨ X.env.scope.names.lookup x = some .local:=by first | exact .inl rfl | exact .inr rfl | assumption):PS X (.Assign [.Name x pos'] e pos) (tS X E (sSet i m)) :=
  PS.imp (ps_set hN hi hx he hs hf) fun _ _ _ h => set_read h
theorem ms_raise {x:Str} {C:Addr} {B newId initId:String} {bm:List Value} {np cpos:Pos} {e₀:Expr} {es:List Expr} {ms:MA} (hX:Raises X E) (hc:X.calm = true) (hm:X.mg x = some (.ref C)) (hq:PySem.W.excIn X.K C bm newId = true) (FB:ExcBaseFacts B newId initId bm) (hg:Gl X x) (ha:PA X (e₀ :: es) (tL X E ms))
    (he:starEach (e₀ :: es) X.env = (false,eval e₀ X.env) :: starEach es X.env:=by rfl) (hpl:(backTo cpos (starEach es X.env)).any (·.1) = false:=by rfl) (hd:(x == ("__debug__":Str)) = false:=by decide) :
    PS X (.Raise (some (.Call (.Name x np) (e₀ :: es) [] cpos)) none pos) (tS X E (sRaise x ms)):=by
  refine PS.imp (ps_raise (E:=E) hX hc hm hq FB hg ha he hpl hd) ?_
  rintro D σ H ⟨μ,ρ,st,rs,sr,h⟩
  refine goS (R1:=Rls X.K) μ ρ st rs sr h fun us st1 ρ1 H1 xs e1 sr1 r1 h1 => ?_
  by_cases hz:us.length ≤ sizeLine
  · rw [if_pos hz] at h1
    obtain ⟨C',q1,q2⟩:=h1
    have e:C' = C:=by
      have:=q1.symm.trans hm
      injection this with this
      injection this
    subst e
    exact ⟨by rw [← r1.length]; exact hz,q2 ρ1 H1 (Step.refl _ _) sr1⟩
  · rw [if_neg hz] at h1; exact h1.elim
end
noncomputable def fnM (np n:Nat) (body:MB):FN:=fun us st => if us.length = np then (match body (us.map some ++ List.replicate (n - np) none) st with
  | .nx _ st' => .ok .non st'
  | .rt v st' => .ok v st'
  | .er c _ st' => .err c st'
  | _ => .bad) else .bad
theorem RS.start {W:Wo} {ρ:List Addr} {H:Hp} {N:List Str} {us:List Val} {vs:List V} (r:Rls W.K ρ H us vs):RS W ρ H (us.map some ++ List.replicate (N.length - us.length) none) (L2.start N vs):=by
  have hl:=r.length
  refine ⟨by simp [L2.start,hl],fun i u e => ?_⟩
  rcases Nat.lt_or_ge i us.length with q | q
  · rw [List.getElem?_append_left (by rw [List.length_map]; exact q),List.getElem?_map] at e
    have e':us[i]? = some u:=by
      cases z:us[i]? with
      | none => rw [z] at e; cases e
      | some w => rw [z] at e; exact congrArg _ (Option.some.inj (Option.some.inj e))
    obtain ⟨v,h1,h2⟩:=r.get e'
    refine ⟨v,?_,RlE.of h2⟩
    unfold L2.start
    rw [List.getElem?_append_left (by rw [List.length_map,← hl]; exact q),List.getElem?_map,h1]
    rfl
  · rw [List.getElem?_append_right (by rw [List.length_map]; exact q)] at e
    rw [List.getElem?_replicate] at e
    split at e
    · cases e
    · cases e
section
variable {P:Program} {w:World} {K:PySem.W.Frag} {mg:Str → Option Value} {base:Heap}
theorem fn_okM {x qual:Str} {st:Stmt} {f:Addr} {fd:FuncData} {N ps:List Str} {k:Nat} {body:MB} (F:Fun K x qual st f fd) (S:FnScope N ps (defScope st))
    (h:∀ (cdv:Value) (A:Around) (outer:List PySem.Env) (s:Shared) (H:Hp) (E:XK),Room k (A.deeper (envOfC qual (defScope st) s.heap.objs.size f cdv)) →
      PSs (cxOf (CX1 P w) P w K mg base N qual (defScope st) f cdv A outer s H E) (defBody st) (tS (cxOf (CX1 P w) P w K mg base N qual (defScope st) f cdv A outer s H E) E body)) :
    FnOk P w K mg base (CX1 P w) (k + 1) f fd ps (spM ⟨K,mg,[]⟩ (fnM ps.length N.length body)):=by
  refine F.okX S (fun vs H Q E q => ?_) (fun cdv A outer s H vs Q E hr q => ⟨_,h cdv A outer s H E hr,?_⟩)
  · obtain ⟨us,ρ,st,r,sr,q⟩:=q
    by_cases hl:us.length = ps.length
    · rw [← r.length]; exact hl
    · unfold fnM at q; rw [if_neg hl] at q; exact q.elim
  · obtain ⟨us,ρ,st',r,sr,q⟩:=q
    unfold fnM at q
    by_cases hl:us.length = ps.length
    · rw [if_pos hl,← hl] at q
      refine ⟨_,ρ,st',RS.start r,sr,?_⟩
      revert q
      cases body (us.map some ++ List.replicate (N.length - us.length) none) st' with
      | nx μ st2 => exact fun q ρ' H' σ' e s _ => q ρ' H' .non e s Rl.mkNon
      | rt v st2 => exact fun q => q
      | er c μ st2 => exact fun q => q
      | bk μ st2 => exact fun q => q.elim
      | ct μ st2 => exact fun q => q.elim
      | bad => exact fun q => q.elim
    · rw [if_neg hl] at q; exact q.elim
end
end MN
namespace MN
open PySem PySem.Spec L2
open PyProof.Rows hiding St
noncomputable def Sz (i:Int):Prop:=i.natAbs.log2 < 1000000
noncomputable instance (i:Int):Decidable (Sz i):=inferInstanceAs (Decidable (_ < _))
theorem Sz.big {i:Int} (h:Sz i):Big 1000001 i:=by
  show _ < _
  have h1:i.natAbs < 2 ^ (i.natAbs.log2 + 1):=Nat.lt_log2_self
  exact Nat.lt_of_lt_of_le h1 (Nat.pow_le_pow_right (by decide) (by have:i.natAbs.log2 < 1000000:=h; omega))
theorem Sz.of {k:Nat} {i:Int} (h:Big k i) (hk:k ≤ 1000000):Sz i:=by
  show i.natAbs.log2 < 1000000
  have h':i.natAbs < 2 ^ k:=h
  by_cases z:i.natAbs = 0
  · rw [z]; decide
  · exact Nat.lt_of_lt_of_le ((Nat.log2_lt z).mpr h') hk
theorem Sz.mul {i j:Int} (h:Sz i) (k:Sz j):CMulB i j:=⟨_,_,h.big,k.big,by decide,by decide⟩
noncomputable def Dz (i:Int):Prop:=i ≠ 0 ∧ i.natAbs.log2 < 8000
noncomputable instance (i:Int):Decidable (Dz i):=inferInstanceAs (Decidable (_ ∧ _))
theorem Dz.ok {i j:Int} (h:Dz j):CDivB i j:=by
  refine ⟨h.1,?_⟩
  show _ < _
  have h1:j.natAbs < 2 ^ (j.natAbs.log2 + 1):=Nat.lt_log2_self
  exact Nat.lt_of_lt_of_le h1 (Nat.pow_le_pow_right (by decide) (by have:=h.2; omega))
theorem Dz.of {k:Nat} {i:Int} (h0:i ≠ 0) (h:Big k i) (hk:k ≤ 8000):Dz i:=by
  refine ⟨h0,?_⟩
  have h':i.natAbs < 2 ^ k:=h
  exact Nat.lt_of_lt_of_le ((Nat.log2_lt (by omega)).mpr h') hk
noncomputable def MulOk (i j:Int):Prop:=(Sz i ∧ Sz j) ∨ CMul i j
noncomputable instance (i j:Int):Decidable (CMul i j):=inferInstanceAs (Decidable (_ ∨ _))
noncomputable instance (i j:Int):Decidable (MulOk i j):=inferInstanceAs (Decidable (_ ∨ _))
noncomputable instance (i j:Int):Decidable (CPow i j):=inferInstanceAs (Decidable (_ ∧ _ ∧ _))
noncomputable def repsV (k:Nat) (us:List Val):List Val:=(List.replicate k us).flatten
noncomputable def addV:F2
  | .int i,.int j,st => .ok (.int (i + j)) st
  | .str a,.str b,st => if a.length + b.length ≤ sizeLine then .ok (.str (a ++ b)) st else .bad
  | .tup us,.tup ws,st => if us.length + ws.length ≤ sizeLine then .ok (.tup (us ++ ws)) st else .bad
  | .loc n,.loc m,st => match st[n]?,st[m]? with
    | some (.lst us),some (.lst ws) => if us.length + ws.length ≤ sizeLine then .ok (.loc st.length) (st ++ [.lst (us ++ ws)]) else .bad
    | _,_ => .bad
  | _,_,_ => .bad
noncomputable def int2 (g:Int → Int → Store → Res Val):F2
  | .int i,.int j,st => g i j st
  | _,_,_ => .bad
theorem int2_or (g:Int → Int → Store → Res Val) (u w:Val) (st:Store):(∃ i j,u = .int i ∧ w = .int j) ∨ int2 g u w st = .bad:=by
  cases u with
  | int i =>
    cases w with
    | int j => exact .inl ⟨i,j,rfl,rfl⟩
    | _ => exact .inr rfl
  | _ => exact .inr rfl
theorem int2_go {g:Int → Int → Store → Res Val} {W:Wo} {E:XK} {ρ:List Addr} {st:Store} {H:Hp} {Q:VK} {u w:Val} (h:wR W E (Rl W.K) ρ H Q (int2 g u w st)):∃ i j,u = .int i ∧ w = .int j ∧ wR W E (Rl W.K) ρ H Q (g i j st):=by
  rcases int2_or g u w st with ⟨i,j,rfl,rfl⟩ | z
  · exact ⟨i,j,rfl,rfl,h⟩
  · rw [z] at h; exact h.elim
noncomputable def subV:F2:=int2 fun i j st => .ok (.int (i - j)) st
noncomputable def mulV:F2
  | .int i,.int j,st => if MulOk i j then .ok (.int (i * j)) st else .bad
  | .loc n,.int k,st => match st[n]? with
    | some (.lst us) => if -(2 ^ 63) ≤ k ∧ k < 2 ^ 63 ∧ us.length * k.toNat ≤ sizeLine then .ok (.loc st.length) (st ++ [.lst (repsV k.toNat us)]) else .bad
    | _ => .bad
  | _,_,_ => .bad
noncomputable def fdivV:F2:=int2 fun i j st => if Dz j then .ok (.int (i.fdiv j)) st else .bad
noncomputable def modV:F2:=int2 fun i j st => if j = 0 then .bad else .ok (.int (i.fmod j)) st
noncomputable def powV:F2:=int2 fun i j st => if CPow i j then .ok (.int (i ^ j.toNat)) st else .bad
noncomputable def ltV:F2:=int2 fun i j st => .ok (.bl (decide (i < j))) st
noncomputable def leV:F2:=int2 fun i j st => .ok (.bl (decide (i ≤ j))) st
noncomputable def gtV:F2:=int2 fun i j st => .ok (.bl (decide (j < i))) st
noncomputable def geV:F2:=int2 fun i j st => .ok (.bl (decide (j ≤ i))) st
theorem tells_lt:Tells ltV:=fun u w st => (int2_or _ u w st).elim (fun ⟨_,_,e1,e2⟩ => .inr (by rw [e1,e2]; exact ⟨_,rfl⟩)) .inl
theorem tells_le:Tells leV:=fun u w st => (int2_or _ u w st).elim (fun ⟨_,_,e1,e2⟩ => .inr (by rw [e1,e2]; exact ⟨_,rfl⟩)) .inl
section
variable {X:Cx} {E:XK}
theorem fin_int {W:Wo} {ρ:List Addr} {st:Store} {H:Hp} {Q:VK} {i:Int} (sr:SR W.K ρ st H) (h:wR W E (Rl W.K) ρ H Q (.ok (.int i) st)):Q (.int i) H:=h ρ H _ (Step.refl _ _) sr (Rl.mkInt i)
theorem fin_b {W:Wo} {ρ:List Addr} {st:Store} {H:Hp} {Q:VK} {i:Bool} (sr:SR W.K ρ st H) (h:wR W E (Rl W.K) ρ H Q (.ok (.bl i) st)):Q (.bl i) H:=h ρ H _ (Step.refl _ _) sr (Rl.mkBl i)
theorem Rls.reps {K:PySem.W.Frag} {ρ:List Addr} {H:Hp} {us:List Val} {xs:List V} (r:Rls K ρ H us xs):∀ k:Nat,Rls K ρ H (repsV k us) (List.replicate k xs).flatten
  | 0 => Rls.nil
  | k + 1 => by
    unfold repsV
    rw [List.replicate_succ,List.replicate_succ,List.flatten_cons,List.flatten_cons]
    exact r.append (Rls.reps r k)
theorem op_catT0:OpR X (binaryOp .Add) (fun x y H Q => ∃ a b ys,x = .ref a ∧ y = .ref b ∧ SqT X.K H a [] ∧ SqT X.K H b ys ∧ Q (.ref b) H):=by
  intro pins s σ H x y v u Q I rx ry h
  obtain ⟨a,b,ys,rfl,rfl,ha,hb,q⟩:=h
  cases rx
  cases ry
  obtain ⟨its,r1,p1,_⟩:=I.tuple ha
  obtain ⟨its2,r2,p2,_⟩:=I.tuple hb
  cases r1
  obtain ⟨⟨cls,dd,data,sl⟩,ho,hc,n,hd⟩:=id p1
  obtain ⟨⟨cls2,dd2,data2,sl2⟩,ho2,hc2,n2,hd2⟩:=id p2
  simp only at hc hd hc2 hd2
  subst hc hd hc2 hd2
  exact concat_meets ⟨_,ho,rfl⟩ ⟨_,ho2,rfl⟩ noFill_tuple_add seq_tuple_add PySem.F.slot_tuple_add PySem.F.entry_tuple_add (PySem.F.args_tuple_add_2 _ _)
    (tuple_addW0 a b #[] its2.toArray n n2 dd dd2 sl sl2 (by simp)) ⟨ho,ho2,⟨.ref b,H,I,rfl,q⟩⟩
theorem op_addM:OpR X (binaryOp .Add) (rM (wo X) E addV):=by
  refine OpR.imp (OpR.or op_add (OpR.or op_add_str (OpR.or op_cat (OpR.or op_catT op_catT0)))) ?_
  rintro x y H Q ⟨ρ,st,u,w,sr,r1,r2,h⟩
  cases u <;> cases w <;> try exact h.elim
  case int.int i j => exact .inl ⟨i,j,r1.int_,r2.int_,fin_int sr h⟩
  case str.str a b =>
    unfold addV at h
    dsimp only at h
    split at h
    · rename_i hz
      exact .inr (.inl ⟨a,b,r1.str_,r2.str_,hz,h ρ H _ (Step.refl _ _) sr (Rl.mkStr _)⟩)
    · exact h.elim
  case tup.tup us ws =>
    unfold addV at h
    dsimp only at h
    split at h
    · rename_i hz
      obtain ⟨a,xs,rfl,ha,ra⟩:=r1.tup_
      obtain ⟨b,ys,rfl,hb,rb⟩:=r2.tup_
      by_cases hx:xs = []
      · subst hx
        have hu:us = []:=List.eq_nil_of_length_eq_zero ra.length
        subst hu
        exact .inr (.inr (.inr (.inr ⟨a,b,ys,rfl,rfl,ha,hb,h ρ H _ (Step.refl _ _) sr r2⟩)))
      · refine .inr (.inr (.inr (.inl ⟨a,b,xs,ys,rfl,rfl,ha,hb,hx,by rw [← ra.length,← rb.length]; exact hz,fun hy => ?_,fun hy p hp => ?_⟩)))
        · subst hy
          have hw:ws = []:=List.eq_nil_of_length_eq_zero rb.length
          subst hw
          rw [List.append_nil] at h
          exact h ρ H _ (Step.refl _ _) sr r1
        · have s:=same_upd (o:=.tup (xs ++ ys)) hp
          exact h ρ _ _ (Step.same s) (sr.grow s) (Rl.mkTup upd_same (Rls.mono (Step.same s) _ _ (ra.append rb)))
    · exact h.elim
  case loc.loc n m =>
    unfold addV at h
    dsimp only at h
    split at h
    · rename_i us ws e1 e2
      split at h
      · rename_i hz
        obtain ⟨a,rfl,ha⟩:=r1.loc_
        obtain ⟨b,rfl,hb⟩:=r2.loc_
        obtain ⟨xs,h1,q1⟩:=sr.cell n _ a e1 ha
        obtain ⟨ys,h2,q2⟩:=sr.cell m _ b e2 hb
        refine .inr (.inr (.inl ⟨a,b,xs,ys,rfl,rfl,h1,h2,by rw [← q1.length,← q2.length]; exact hz,fun p hp => ?_⟩))
        obtain ⟨k1,k2,k3⟩:=new_lst sr (q1.append q2) hp
        exact h _ _ _ k1 k2 k3
      · exact h.elim
    · exact h.elim
theorem op_subM:OpR X (binaryOp .Sub) (rM (wo X) E subV):=by
  refine OpR.imp op_sub ?_
  rintro x y H Q ⟨ρ,st,u,w,sr,r1,r2,h⟩
  obtain ⟨i,j,rfl,rfl,q⟩:=int2_go h
  exact ⟨i,j,r1.int_,r2.int_,fin_int sr q⟩
theorem op_mulM:OpR X (binaryOp .Mult) (rM (wo X) E mulV):=by
  refine OpR.imp (OpR.or op_mulB (OpR.or op_mul op_rep)) ?_
  rintro x y H Q ⟨ρ,st,u,w,sr,r1,r2,h⟩
  cases u <;> cases w <;> try exact h.elim
  case int.int i j =>
    unfold mulV at h
    dsimp only at h
    split at h
    · rename_i hz
      rcases hz with hz | hz
      · exact .inl ⟨i,j,r1.int_,r2.int_,hz.1.mul hz.2,fin_int sr h⟩
      · exact .inr (.inl ⟨i,j,r1.int_,r2.int_,hz,fin_int sr h⟩)
    · exact h.elim
  case loc.int n k =>
    unfold mulV at h
    dsimp only at h
    split at h
    · rename_i us e1
      split at h
      · rename_i hz
        obtain ⟨a,rfl,ha⟩:=r1.loc_
        obtain ⟨xs,h1,q1⟩:=sr.cell n _ a e1 ha
        refine .inr (.inr ⟨a,k,xs,rfl,r2.int_,h1,hz.1,hz.2.1,by rw [← q1.length]; exact hz.2.2,fun p hp => ?_⟩)
        obtain ⟨k1,k2,k3⟩:=new_lst sr (q1.reps k.toNat) hp
        exact h _ _ _ k1 k2 k3
      · exact h.elim
    · exact h.elim
theorem op_fdivM:OpR X (binaryOp .FloorDiv) (rM (wo X) E fdivV):=by
  refine OpR.imp op_fdivB ?_
  rintro x y H Q ⟨ρ,st,u,w,sr,r1,r2,h⟩
  obtain ⟨i,j,rfl,rfl,h0⟩:=int2_go h
  clear h
  have h:=h0
  clear h0
  · split at h
    · rename_i hz
      exact ⟨i,j,r1.int_,r2.int_,hz.ok,fin_int sr h⟩
    · exact h.elim
theorem op_modM:OpR X (binaryOp .Mod) (rM (wo X) E modV):=by
  refine OpR.imp op_modN ?_
  rintro x y H Q ⟨ρ,st,u,w,sr,r1,r2,h⟩
  obtain ⟨i,j,rfl,rfl,h0⟩:=int2_go h
  clear h
  have h:=h0
  clear h0
  · split at h
    · exact h.elim
    · rename_i hz
      exact ⟨i,j,r1.int_,r2.int_,hz,fin_int sr h⟩
theorem op_powM:OpR X (binaryOp .Pow) (rM (wo X) E powV):=by
  refine OpR.imp op_pow ?_
  rintro x y H Q ⟨ρ,st,u,w,sr,r1,r2,h⟩
  obtain ⟨i,j,rfl,rfl,h0⟩:=int2_go h
  clear h
  have h:=h0
  clear h0
  · split at h
    · rename_i hz
      exact ⟨i,j,r1.int_,r2.int_,hz,fin_int sr h⟩
    · exact h.elim
theorem op_ltM:OpR X (compareOp .Lt) (rM (wo X) E ltV):=by
  refine OpR.imp op_lt ?_
  rintro x y H Q ⟨ρ,st,u,w,sr,r1,r2,h⟩
  obtain ⟨i,j,rfl,rfl,q⟩:=int2_go h
  exact ⟨i,j,r1.int_,r2.int_,fin_b sr q⟩
theorem op_leM:OpR X (compareOp .LtE) (rM (wo X) E leV):=by
  refine OpR.imp op_le ?_
  rintro x y H Q ⟨ρ,st,u,w,sr,r1,r2,h⟩
  obtain ⟨i,j,rfl,rfl,q⟩:=int2_go h
  exact ⟨i,j,r1.int_,r2.int_,fin_b sr q⟩
theorem op_gtM:OpR X (compareOp .Gt) (rM (wo X) E gtV):=by
  refine OpR.imp op_gt ?_
  rintro x y H Q ⟨ρ,st,u,w,sr,r1,r2,h⟩
  obtain ⟨i,j,rfl,rfl,q⟩:=int2_go h
  exact ⟨i,j,r1.int_,r2.int_,fin_b sr q⟩
noncomputable def mNeg (m:ME):ME:=fun μ st => (m μ st).bind fun v st' => match v with
  | .int i => .ok (.int (-i)) st'
  | _ => .bad
theorem me_neg {a:Expr} {m:ME} {pos:Pos} (h:PE X a (tE X E m)):PE X (.UnaryOp .USub a pos) (tE X E (mNeg m)):=by
  refine PE.imp (pe_un un_neg h) ?_
  rintro σ H Q ⟨μ,ρ,st,rs,sr,h⟩
  refine go μ ρ st rs sr h fun u st1 ρ1 H1 x e1 sr1 r1 h1 => ?_
  cases u with
  | int i => exact ⟨i,r1.int_,fin_int sr1 h1⟩
  | _ => exact h1.elim
end
noncomputable def flat:Val → Bool
  | .non => true
  | .bl _ => true
  | .int _ => true
  | .str _ => true
  | _ => false
noncomputable def eqF:Val → Val → Bool
  | .non,.non => true
  | .bl a,.bl b => a == b
  | .bl a,.int b => (if a then 1 else 0) == b
  | .int a,.bl b => a == (if b then 1 else 0)
  | .int a,.int b => a == b
  | .str a,.str b => a == b
  | _,_ => false
noncomputable def itemsOf (st:Store) (n:Nat):Option (List Val):=match st[n]? with
  | some (.lst us) => some us
  | some (.fro us) => some us
  | some (.mod us) => some us
  | _ => none
inductive Vw where
  | lst (us:List Val) | tup (us:List Val) | flt
noncomputable def vw (st:Store):Val → Option Vw
  | .tup us => some (.tup us)
  | .loc n => (itemsOf st n).map .lst
  | .non => some .flt
  | .bl _ => some .flt
  | .int _ => some .flt
  | .str _ => some .flt
  | _ => none
noncomputable def eqDs (f:Val → Val → Option Bool):List Val → List Val → Option Bool
  | [],[] => some true
  | x :: xs,y :: ys => match f x y,eqDs f xs ys with
    | some a,some b => some (a && b)
    | _,_ => none
  | [],_ :: _ => some false
  | _ :: _,[] => some false
noncomputable def eqD:Nat → Store → Val → Val → Option Bool
  | 0,_,_,_ => none
  | n + 1,st,u,w => match vw st u,vw st w with
    | some (.tup us),some (.tup ws) => eqDs (eqD n st) us ws
    | some (.lst us),some (.lst ws) => eqDs (eqD n st) us ws
    | some .flt,some .flt => some (eqF u w)
    | some _,some _ => some false
    | _,_ => none
theorem eqDs_len {f:Val → Val → Option Bool}:∀ {us ws:List Val} {b:Bool},eqDs f us ws = some b → us.length ≠ ws.length → b = false
  | [],[],_,_,h => absurd rfl h
  | [],_ :: _,b,e,_ => by injection e with e; exact e.symm
  | _ :: _,[],b,e,_ => by injection e with e; exact e.symm
  | x :: xs,y :: ys,b,e,h => by
    unfold eqDs at e
    split at e
    · rename_i a c h1 h2
      injection e with e
      rw [← e,eqDs_len h2 (fun z => h (by simp [z])),Bool.and_false]
    · cases e
theorem eqDs_at {f:Val → Val → Option Bool}:∀ {us ws:List Val} {b:Bool},eqDs f us ws = some b → ∀ (j:Nat) (u w:Val),us[j]? = some u → ws[j]? = some w → ∃ c,f u w = some c
  | [],_,_,_,j,u,w,h1,_ => by cases h1
  | _ :: _,[],_,_,j,u,w,_,h2 => by cases h2
  | x :: xs,y :: ys,b,e,j,u,w,h1,h2 => by
    unfold eqDs at e
    split at e
    · rename_i a c q1 q2
      cases j with
      | zero => cases h1; cases h2; exact ⟨a,q1⟩
      | succ j => exact eqDs_at q2 j u w h1 h2
    · cases e
noncomputable def eqJ (f:Val → Val → Option Bool) (us ws:List Val) (j:Nat):Bool:=match us[j]?,ws[j]? with
  | some u,some w => (f u w).getD true
  | _,_ => true
theorem eqDs_all {f:Val → Val → Option Bool}:∀ {us ws:List Val} {b:Bool},eqDs f us ws = some b → us.length = ws.length → (List.range us.length).all (eqJ f us ws) = b
  | [],[],b,e,_ => by injection e
  | [],_ :: _,_,_,h => by simp at h
  | _ :: _,[],_,_,h => by simp at h
  | x :: xs,y :: ys,b,e,h => by
    have h':xs.length = ys.length:=by simpa using h
    unfold eqDs at e
    split at e
    · rename_i a c q1 q2
      injection e with e
      rw [List.length_cons,List.range_succ_eq_map,List.all_cons,List.all_map,← e,← eqDs_all q2 h']
      congr 1
      show (f x y).getD true = a
      rw [q1]; rfl
    · cases e
section
variable {X:Cx} {pins:List (Addr × Obj)} {σ:St} {H:Hp} {s:Shared} {ρ:List Addr} {st:Store}
theorem itemsOf_sq (sr:SR X.K ρ st H) {n:Nat} {us:List Val} {a:Addr} (h:itemsOf st n = some us) (ha:ρ[n]? = some a):∃ vs,SqL X.K H a vs ∧ Rls X.K ρ H us vs:=by
  unfold itemsOf at h
  split at h
  · rename_i ws e
    cases h
    obtain ⟨vs,h1,h2⟩:=sr.cell n _ a e ha
    exact ⟨vs,SqL.of h1,h2⟩
  · rename_i ws e
    cases h
    obtain ⟨o,vs,h1,h2⟩:=sr.cell n _ a e ha
    exact ⟨vs,.inl (.inr ⟨o,h1⟩),h2⟩
  · rename_i ws e
    cases h
    obtain ⟨vs,h1,h2⟩:=sr.cell n _ a e ha
    exact ⟨vs,.inr h1,h2⟩
  · cases h
theorem same_eq (I:Inv X pins σ H s) (sr:SR X.K ρ st H):∀ (n:Nat) (u w:Val) (x:V) (b:Bool),Rl X.K ρ H u x → Rl X.K ρ H w x → eqD n st u w = some b → b = true
  | 0,_,_,_,_,_,_,e => by cases e
  | n + 1,u,w,x,b,r1,r2,e => by
    have lst:∀ (us ws:List Val) (vs:List V) (b:Bool),Rls X.K ρ H us vs → Rls X.K ρ H ws vs → eqDs (eqD n st) us ws = some b → b = true:=by
      intro us
      induction us with
      | nil =>
        intro ws vs b h1 h2 e
        have:=h1.unnil
        subst this
        have hw:ws = []:=List.eq_nil_of_length_eq_zero h2.length
        subst hw
        injection e with e; exact e.symm
      | cons u us ih =>
        intro ws vs b h1 h2 e
        obtain ⟨v,r,rfl,q1,q2⟩:=h1.uncons
        cases ws with
        | nil => have:=h2.unnil; cases this
        | cons w ws =>
          obtain ⟨v',r',e',q3,q4⟩:=h2.uncons
          cases e'
          unfold eqDs at e
          split at e
          · rename_i a c z1 z2
            injection e with e
            rw [← e,same_eq I sr n u w v a q1 q3 z1,ih ws r c q2 q4 z2]; rfl
          · cases e
    unfold eqD at e
    cases u <;> cases w <;> dsimp only [vw] at e <;> try (cases e; done)
    all_goals first
      | (have z1:=Rl.int_ r1; subst z1; have z2:=Rl.int_ r2; cases z2; injection e with e; rw [← e]; exact beq_self_eq_true _)
      | (have z1:=Rl.bl_ r1; subst z1; have z2:=Rl.bl_ r2; cases z2; injection e with e; rw [← e]; exact beq_self_eq_true _)
      | (have z1:=Rl.str_ r1; subst z1; have z2:=Rl.str_ r2; cases z2; injection e with e; rw [← e]; exact beq_self_eq_true _)
      | (have z1:=Rl.non_ r1; subst z1; injection e with e; exact e.symm)
      | skip
    case tup.tup us ws =>
      obtain ⟨a,vs,rfl,ha,ra⟩:=r1.tup_
      obtain ⟨a',vs',ea,hb,rb⟩:=r2.tup_
      cases ea
      have:=I.tuple_inj ha hb
      subst this
      exact lst us ws vs b ra rb e
    case loc.loc i j =>
      obtain ⟨a,rfl,ha⟩:=r1.loc_
      obtain ⟨a',ea,hb⟩:=r2.loc_
      cases ea
      cases z:itemsOf st i with
      | none => rw [z] at e; cases e
      | some us =>
        cases z2:itemsOf st j with
        | none => rw [z,z2] at e; cases e
        | some ws =>
          rw [z,z2] at e
          obtain ⟨vs,s1,rv⟩:=itemsOf_sq sr z ha
          obtain ⟨vs',s2,rv'⟩:=itemsOf_sq sr z2 hb
          have:=I.list_inj s1 s2
          subst this
          exact lst us ws vs b rv rv' e
    all_goals (exfalso; first
      | (have z1:=Rl.int_ r1; subst z1; first | (have z2:=Rl.bl_ r2; cases z2; done) | (have z2:=Rl.str_ r2; cases z2; done) | (have z2:=Rl.non_ r2; cases z2; done) | (obtain ⟨_,_,z2,_⟩:=r2.tup_; cases z2; done) | (obtain ⟨_,z2,_⟩:=r2.loc_; cases z2; done))
      | (have z1:=Rl.bl_ r1; subst z1; first | (have z2:=Rl.int_ r2; cases z2; done) | (have z2:=Rl.str_ r2; cases z2; done) | (have z2:=Rl.non_ r2; cases z2; done) | (obtain ⟨_,_,z2,_⟩:=r2.tup_; cases z2; done) | (obtain ⟨_,z2,_⟩:=r2.loc_; cases z2; done))
      | (have z1:=Rl.str_ r1; subst z1; first | (have z2:=Rl.int_ r2; cases z2; done) | (have z2:=Rl.bl_ r2; cases z2; done) | (have z2:=Rl.non_ r2; cases z2; done) | (obtain ⟨_,_,z2,_⟩:=r2.tup_; cases z2; done) | (obtain ⟨_,z2,_⟩:=r2.loc_; cases z2; done))
      | (have z1:=Rl.non_ r1; subst z1; first | (have z2:=Rl.int_ r2; cases z2; done) | (have z2:=Rl.bl_ r2; cases z2; done) | (have z2:=Rl.str_ r2; cases z2; done) | (obtain ⟨_,_,z2,_⟩:=r2.tup_; cases z2; done) | (obtain ⟨_,z2,_⟩:=r2.loc_; cases z2; done))
      | (obtain ⟨_,_,z1,_⟩:=r1.tup_; subst z1; first | (have z2:=Rl.int_ r2; cases z2; done) | (have z2:=Rl.bl_ r2; cases z2; done) | (have z2:=Rl.str_ r2; cases z2; done) | (have z2:=Rl.non_ r2; cases z2; done))
      | (obtain ⟨_,z1,_⟩:=r1.loc_; subst z1; first | (have z2:=Rl.int_ r2; cases z2; done) | (have z2:=Rl.bl_ r2; cases z2; done) | (have z2:=Rl.str_ r2; cases z2; done) | (have z2:=Rl.non_ r2; cases z2; done))
      | skip)
    case tup.loc us j =>
      obtain ⟨a,vs,rfl,ha,ra⟩:=r1.tup_
      obtain ⟨a',ea,hb⟩:=r2.loc_
      cases ea
      cases z:itemsOf st j with
      | none => rw [z] at e; cases e
      | some us' =>
        obtain ⟨ws,hw,_⟩:=itemsOf_sq sr z hb
        obtain ⟨_,_,p1,_⟩:=I.tuple ha
        obtain ⟨_,_,p2,_⟩:=I.list hw
        exact SeqAt.ne_of_list_tuple p2.isList p1 rfl
    case loc.tup i us =>
      obtain ⟨a,rfl,ha⟩:=r1.loc_
      obtain ⟨a',vs,ea,hb,rb⟩:=r2.tup_
      cases ea
      cases z:itemsOf st i with
      | none => rw [z] at e; cases e
      | some us' =>
        obtain ⟨ws,hw,_⟩:=itemsOf_sq sr z ha
        obtain ⟨_,_,p1,_⟩:=I.tuple hb
        obtain ⟨_,_,p2,_⟩:=I.list hw
        exact SeqAt.ne_of_list_tuple p2.isList p1 rfl
    all_goals (cases z:itemsOf st _ <;> rw [z] at e <;> cases e)
noncomputable def SeenV (X:Cx) (ρ:List Addr) (H:Hp) (s:Shared):Vw → Val → Value → Prop
  | .tup us,_,v => ∃ a its vs,v = .ref a ∧ s.heap.IsTuple a (List.toArray its) ∧ Vals vs its ∧ Rls X.K ρ H us vs
  | .lst us,_,v => ∃ a its vs,v = .ref a ∧ s.heap.IsList a (List.toArray its) ∧ Vals vs its ∧ Rls X.K ρ H us vs
  | .flt,u,v => (u = .non ∧ v = .none) ∨ (∃ b,u = .bl b ∧ v = .bool b) ∨ (∃ i t,u = .int i ∧ v = .int i t) ∨ (∃ z t,u = .str z ∧ v = .str z t)
theorem seen (I:Inv X pins σ H s) (sr:SR X.K ρ st H) {u:Val} {x:V} {v:Value} {k:Vw} (r:Rl X.K ρ H u x) (q:RelV x v) (h:vw st u = some k):SeenV X ρ H s k u v:=by
  cases u with
  | non => cases h; have:=r.non_; subst this; exact .inl ⟨rfl,q⟩
  | bl b => cases h; have:=r.bl_; subst this; exact .inr (.inl ⟨b,rfl,q⟩)
  | int i => cases h; have:=r.int_; subst this; obtain ⟨t,q⟩:=q; exact .inr (.inr (.inl ⟨i,t,rfl,q⟩))
  | str z => cases h; have:=r.str_; subst this; obtain ⟨t,q⟩:=q; exact .inr (.inr (.inr ⟨z,t,rfl,q⟩))
  | tup us =>
    cases h
    obtain ⟨a,vs,rfl,ha,ra⟩:=r.tup_
    obtain ⟨its,r1,p1,_⟩:=I.tuple ha
    exact ⟨a,its,vs,q,p1,r1,ra⟩
  | loc n =>
    obtain ⟨a,rfl,ha⟩:=r.loc_
    cases z:itemsOf st n with
    | none => simp only [vw,z] at h; cases h
    | some us =>
      simp only [vw,z] at h
      cases h
      obtain ⟨vs,hs,rv⟩:=itemsOf_sq sr z ha
      obtain ⟨its,r1,p1,_⟩:=I.list hs
      exact ⟨a,its,vs,q,p1.isList,r1,rv⟩
  | exc c => cases h
  | fn k c => cases h
  | mt us => cases h
theorem els_of {A:Around} {f:Val → Val → Option Bool} {us ws:List Val} {xs ys:List V} {its its2:List Value} {b:Bool} (e:eqDs f us ws = some b) (ra:Rls X.K ρ H us xs) (rb:Rls X.K ρ H ws ys) (va:Vals xs its) (vb:Vals ys its2)
    (ih:∀ u w x y vu vw c,Rl X.K ρ H u x → RelV x vu → Rl X.K ρ H w y → RelV y vw → f u w = some c → SeqAt.EqAt A s vu vw c) :
    ∀ j (h1:j < its.toArray.size) (h2:j < its2.toArray.size),SeqAt.EqAt A s its.toArray[j] its2.toArray[j] (eqJ f us ws j):=by
  intro j h1 h2
  have l1:=va.length
  have l2:=vb.length
  have l3:=ra.length
  have l4:=rb.length
  simp only [List.size_toArray] at h1 h2
  have e1:us[j]? = some us[j]:=List.getElem?_eq_getElem (by omega)
  have e2:ws[j]? = some ws[j]:=List.getElem?_eq_getElem (by omega)
  obtain ⟨x,hx,rx⟩:=ra.get e1
  obtain ⟨y,hy,ry⟩:=rb.get e2
  obtain ⟨u,hu,ru⟩:=va.get hx
  obtain ⟨v,hv,rv⟩:=vb.get hy
  have q1:its.toArray[j] = u:=by
    obtain ⟨_,e⟩:=List.getElem?_eq_some_iff.mp hu
    simpa using e
  have q2:its2.toArray[j] = v:=by
    obtain ⟨_,e⟩:=List.getElem?_eq_some_iff.mp hv
    simpa using e
  obtain ⟨c,hc⟩:=eqDs_at e j _ _ e1 e2
  rw [q1,q2]
  unfold eqJ
  rw [e1,e2]
  dsimp only
  rw [hc]
  exact ih _ _ _ _ _ _ c rx ru ry rv hc
theorem in1_units (A:Around):A.in1.units = A.units + 1:=by rfl
theorem rc_M {A:Around} (I:Inv X pins σ H s) (sr:SR X.K ρ st H) (n:Nat) (ih:∀ u w x y vu vw c,Rl X.K ρ H u x → RelV x vu → Rl X.K ρ H w y → RelV y vw → eqD n st u w = some c → SeqAt.EqAt A.in1 s vu vw c) (hu:A.units < cLine)
    {u w:Val} {x y:V} {v1 v2:Value} {b:Bool} (r1:Rl X.K ρ H u x) (q1:RelV x v1) (r2:Rl X.K ρ H w y) (q2:RelV y v2) (e:eqD (n + 1) st u w = some b):SeqAt.RcAt A s v1 v2 b ∧ SeqAt.RcNeAt A s v1 v2 (!b):=by
  unfold eqD at e
  cases z1:vw st u with
  | none => rw [z1] at e; cases e
  | some k1 =>
    cases z2:vw st w with
    | none => rw [z1,z2] at e; cases k1 <;> cases e
    | some k2 =>
      rw [z1,z2] at e
      have s1:=seen I sr r1 q1 z1
      have s2:=seen I sr r2 q2 z2
      cases k1 with
      | tup us =>
        obtain ⟨a,its,xs,rfl,p1,va,ra⟩:=s1
        cases k2 with
        | tup ws =>
          obtain ⟨a2,its2,ys,rfl,p2,vb,rb⟩:=s2
          have el:=els_of e ra rb va vb ih
          have l1:=va.length
          have l2:=vb.length
          have l3:=ra.length
          have l4:=rb.length
          have hb:((List.range (min its.toArray.size its2.toArray.size)).all (eqJ (eqD n st) us ws) && its.toArray.size == its2.toArray.size) = b:=by
            by_cases hl:us.length = ws.length
            · rw [show min its.toArray.size its2.toArray.size = us.length by simp only [List.size_toArray]; omega,eqDs_all e hl,show (its.toArray.size == its2.toArray.size) = true by simp only [List.size_toArray,beq_iff_eq]; omega,Bool.and_true]
            · rw [show (its.toArray.size == its2.toArray.size) = false by simp only [List.size_toArray,beq_eq_false_iff_ne]; omega,Bool.and_false]
              exact (eqDs_len e hl).symm
          have g1:=SeqAt.RcAt.tuples p1 p2 hu el
          have g2:=SeqAt.RcNeAt.tuples p1 p2 hu el
          rw [hb] at g1 g2
          exact ⟨g1,g2⟩
        | lst ws =>
          obtain ⟨a2,its2,ys,rfl,p2,vb,rb⟩:=s2
          cases e
          exact ⟨SeqAt.RcAt.tuple_list p1 p2 hu,SeqAt.RcNeAt.tuple_list p1 p2 hu⟩
        | flt =>
          cases e
          rcases s2 with ⟨_,rfl⟩ | ⟨k,_,rfl⟩ | ⟨k,t,_,rfl⟩ | ⟨k,t,_,rfl⟩
          · exact ⟨SeqAt.RcAt.tuple_none p1 hu,SeqAt.RcNeAt.tuple_none p1 hu⟩
          · exact ⟨SeqAt.RcAt.tuple_bool _ p1 hu,SeqAt.RcNeAt.tuple_bool _ p1 hu⟩
          · exact ⟨SeqAt.RcAt.tuple_int _ _ p1 hu,SeqAt.RcNeAt.tuple_int _ _ p1 hu⟩
          · exact ⟨SeqAt.RcAt.tuple_str _ _ p1 hu,SeqAt.RcNeAt.tuple_str _ _ p1 hu⟩
      | lst us =>
        obtain ⟨a,its,xs,rfl,p1,va,ra⟩:=s1
        cases k2 with
        | tup ws =>
          obtain ⟨a2,its2,ys,rfl,p2,vb,rb⟩:=s2
          cases e
          exact ⟨SeqAt.RcAt.list_tuple p1 p2 hu,SeqAt.RcNeAt.list_tuple p1 p2 hu⟩
        | lst ws =>
          obtain ⟨a2,its2,ys,rfl,p2,vb,rb⟩:=s2
          have l1:=va.length
          have l2:=vb.length
          have l3:=ra.length
          have l4:=rb.length
          by_cases hl:us.length = ws.length
          · have hs:its.toArray.size = its2.toArray.size:=by simp only [List.size_toArray]; omega
            have el:=els_of e ra rb va vb ih
            have g1:=SeqAt.RcAt.lists p1 p2 hs hu el
            have g2:=SeqAt.RcNeAt.lists p1 p2 hs hu el
            rw [show its.toArray.size = us.length by simp only [List.size_toArray]; omega,eqDs_all e hl] at g1 g2
            exact ⟨g1,g2⟩
          · have hs:(its.toArray.size != its2.toArray.size) = true:=by simp only [List.size_toArray,bne_iff_ne]; omega
            rw [eqDs_len e hl]
            exact ⟨SeqAt.RcAt.lists_lengths p1 p2 hs hu,SeqAt.RcNeAt.lists_lengths p1 p2 hs hu⟩
        | flt =>
          cases e
          rcases s2 with ⟨_,rfl⟩ | ⟨k,_,rfl⟩ | ⟨k,t,_,rfl⟩ | ⟨k,t,_,rfl⟩
          · exact ⟨SeqAt.RcAt.list_none p1 hu,SeqAt.RcNeAt.list_none p1 hu⟩
          · exact ⟨SeqAt.RcAt.list_bool _ p1 hu,SeqAt.RcNeAt.list_bool _ p1 hu⟩
          · exact ⟨SeqAt.RcAt.list_int _ _ p1 hu,SeqAt.RcNeAt.list_int _ _ p1 hu⟩
          · exact ⟨SeqAt.RcAt.list_str _ _ p1 hu,SeqAt.RcNeAt.list_str _ _ p1 hu⟩
      | flt =>
        cases k2 with
        | tup ws =>
          obtain ⟨a2,its2,ys,rfl,p2,vb,rb⟩:=s2
          cases e
          rcases s1 with ⟨_,rfl⟩ | ⟨k,_,rfl⟩ | ⟨k,t,_,rfl⟩ | ⟨k,t,_,rfl⟩
          · exact ⟨SeqAt.RcAt.none_tuple p2 hu,SeqAt.RcNeAt.none_tuple p2 hu⟩
          · exact ⟨SeqAt.RcAt.bool_tuple _ p2 hu,SeqAt.RcNeAt.bool_tuple _ p2 hu⟩
          · exact ⟨SeqAt.RcAt.int_tuple _ _ p2 hu,SeqAt.RcNeAt.int_tuple _ _ p2 hu⟩
          · exact ⟨SeqAt.RcAt.str_tuple _ _ p2 hu,SeqAt.RcNeAt.str_tuple _ _ p2 hu⟩
        | lst ws =>
          obtain ⟨a2,its2,ys,rfl,p2,vb,rb⟩:=s2
          cases e
          rcases s1 with ⟨_,rfl⟩ | ⟨k,_,rfl⟩ | ⟨k,t,_,rfl⟩ | ⟨k,t,_,rfl⟩
          · exact ⟨SeqAt.RcAt.none_list p2 hu,SeqAt.RcNeAt.none_list p2 hu⟩
          · exact ⟨SeqAt.RcAt.bool_list _ p2 hu,SeqAt.RcNeAt.bool_list _ p2 hu⟩
          · exact ⟨SeqAt.RcAt.int_list _ _ p2 hu,SeqAt.RcNeAt.int_list _ _ p2 hu⟩
          · exact ⟨SeqAt.RcAt.str_list _ _ p2 hu,SeqAt.RcNeAt.str_list _ _ p2 hu⟩
        | flt =>
          injection e with e
          subst e
          rcases s1 with ⟨rfl,rfl⟩ | ⟨i,rfl,rfl⟩ | ⟨i,t,rfl,rfl⟩ | ⟨i,t,rfl,rfl⟩ <;> rcases s2 with ⟨rfl,rfl⟩ | ⟨j,rfl,rfl⟩ | ⟨j,t',rfl,rfl⟩ | ⟨j,t',rfl,rfl⟩
          · exact ⟨SeqAt.RcAt.none_none,SeqAt.RcNeAt.none_none⟩
          · exact ⟨SeqAt.RcAt.none_bool _,SeqAt.RcNeAt.none_bool _⟩
          · exact ⟨SeqAt.RcAt.none_int _ _,SeqAt.RcNeAt.none_int _ _⟩
          · exact ⟨SeqAt.RcAt.none_str _ _,SeqAt.RcNeAt.none_str _ _⟩
          · exact ⟨SeqAt.RcAt.bool_none _,SeqAt.RcNeAt.bool_none _⟩
          · exact ⟨SeqAt.RcAt.bool_bool _ _,SeqAt.RcNeAt.bool_bool _ _⟩
          · exact ⟨SeqAt.RcAt.bool_int _ _ _,SeqAt.RcNeAt.bool_int _ _ _⟩
          · exact ⟨SeqAt.RcAt.bool_str _ _ _,SeqAt.RcNeAt.bool_str _ _ _⟩
          · exact ⟨SeqAt.RcAt.int_none _ _,SeqAt.RcNeAt.int_none _ _⟩
          · exact ⟨SeqAt.RcAt.int_bool _ _ _,SeqAt.RcNeAt.int_bool _ _ _⟩
          · exact ⟨SeqAt.RcAt.int_int _ _ _ _,SeqAt.RcNeAt.int_int _ _ _ _⟩
          · exact ⟨SeqAt.RcAt.int_str _ _ _ _,SeqAt.RcNeAt.int_str _ _ _ _⟩
          · exact ⟨SeqAt.RcAt.str_none _ _,SeqAt.RcNeAt.str_none _ _⟩
          · exact ⟨SeqAt.RcAt.str_bool _ _ _,SeqAt.RcNeAt.str_bool _ _ _⟩
          · exact ⟨SeqAt.RcAt.str_int _ _ _ _,SeqAt.RcNeAt.str_int _ _ _ _⟩
          · exact ⟨SeqAt.RcAt.str_str _ _ _ _,SeqAt.RcNeAt.str_str _ _ _ _⟩
theorem eq_flat {A:Around} {u w:Val} {v1 v2:Value} (s1:SeenV X ρ H s .flt u v1) (s2:SeenV X ρ H s .flt w v2):SeqAt.EqAt A s v1 v2 (eqF u w):=by
  rcases s1 with ⟨rfl,rfl⟩ | ⟨i,rfl,rfl⟩ | ⟨i,t,rfl,rfl⟩ | ⟨i,t,rfl,rfl⟩ <;> rcases s2 with ⟨rfl,rfl⟩ | ⟨j,rfl,rfl⟩ | ⟨j,t',rfl,rfl⟩ | ⟨j,t',rfl,rfl⟩
  · exact SeqAt.EqAt.same _
  · exact SeqAt.EqAt.none_bool _
  · exact SeqAt.EqAt.none_int _ _
  · exact SeqAt.EqAt.none_str _ _
  · exact SeqAt.EqAt.bool_none _
  · exact SeqAt.EqAt.bool_bool _ _
  · exact SeqAt.EqAt.bool_int _ _ _
  · exact SeqAt.EqAt.bool_str _ _ _
  · exact SeqAt.EqAt.int_none _ _
  · exact SeqAt.EqAt.int_bool _ _ _
  · exact SeqAt.EqAt.int_int _ _ _ _
  · exact SeqAt.EqAt.int_str _ _ _ _
  · exact SeqAt.EqAt.str_none _ _
  · exact SeqAt.EqAt.str_bool _ _ _
  · exact SeqAt.EqAt.str_int _ _ _ _
  · exact SeqAt.EqAt.str_str _ _ _ _
theorem eqAt_M (I:Inv X pins σ H s) (sr:SR X.K ρ st H):∀ (n:Nat) (A:Around),A.units + n < cLine → ∀ (u w:Val) (x y:V) (v1 v2:Value) (b:Bool),Rl X.K ρ H u x → RelV x v1 → Rl X.K ρ H w y → RelV y v2 → eqD n st u w = some b → SeqAt.EqAt A s v1 v2 b
  | 0,_,_,_,_,_,_,_,_,_,_,_,_,_,e => by cases e
  | n + 1,A,hu,u,w,x,y,v1,v2,b,r1,q1,r2,q2,e => by
    have rc:=(rc_M I sr n (fun u w x y vu vw c a1 a2 a3 a4 a5 => eqAt_M I sr n A.in1 (by rw [in1_units]; omega) u w x y vu vw c a1 a2 a3 a4 a5) (by omega) r1 q1 r2 q2 e).1
    have refs:∀ a a2,v1 = .ref a → v2 = .ref a2 → SeqAt.EqAt A s v1 v2 b:=by
      intro a a2 e1 e2
      subst e1 e2
      by_cases hn:a = a2
      · subst hn
        have hx:x = y:=q1.inj q2
        subst hx
        rw [same_eq I sr (n + 1) u w x b r1 r2 e]
        exact SeqAt.EqAt.same _
      · exact SeqAt.EqAt.of_refs hn rc
    cases z1:vw st u with
    | none => unfold eqD at e; rw [z1] at e; cases e
    | some k1 =>
      cases z2:vw st w with
      | none => unfold eqD at e; rw [z1,z2] at e; cases k1 <;> cases e
      | some k2 =>
        have s1:=seen I sr r1 q1 z1
        have s2:=seen I sr r2 q2 z2
        unfold eqD at e
        rw [z1,z2] at e
        cases k1 with
        | tup us =>
          obtain ⟨a,its,xs,rfl,p1,va,ra⟩:=s1
          cases k2 with
          | tup ws => obtain ⟨a2,its2,ys,rfl,p2,vb,rb⟩:=s2; exact refs a a2 rfl rfl
          | lst ws => obtain ⟨a2,its2,ys,rfl,p2,vb,rb⟩:=s2; exact refs a a2 rfl rfl
          | flt =>
            cases e
            rcases s2 with ⟨_,rfl⟩ | ⟨k,_,rfl⟩ | ⟨k,t,_,rfl⟩ | ⟨k,t,_,rfl⟩
            · exact SeqAt.EqAt.tuple_none p1 (by omega)
            · exact SeqAt.EqAt.tuple_bool _ p1 (by omega)
            · exact SeqAt.EqAt.tuple_int _ _ p1 (by omega)
            · exact SeqAt.EqAt.tuple_str _ _ p1 (by omega)
        | lst us =>
          obtain ⟨a,its,xs,rfl,p1,va,ra⟩:=s1
          cases k2 with
          | tup ws => obtain ⟨a2,its2,ys,rfl,p2,vb,rb⟩:=s2; exact refs a a2 rfl rfl
          | lst ws => obtain ⟨a2,its2,ys,rfl,p2,vb,rb⟩:=s2; exact refs a a2 rfl rfl
          | flt =>
            cases e
            rcases s2 with ⟨_,rfl⟩ | ⟨k,_,rfl⟩ | ⟨k,t,_,rfl⟩ | ⟨k,t,_,rfl⟩
            · exact SeqAt.EqAt.list_none p1 (by omega)
            · exact SeqAt.EqAt.list_bool _ p1 (by omega)
            · exact SeqAt.EqAt.list_int _ _ p1 (by omega)
            · exact SeqAt.EqAt.list_str _ _ p1 (by omega)
        | flt =>
          cases k2 with
          | tup ws =>
            obtain ⟨a2,its2,ys,rfl,p2,vb,rb⟩:=s2
            cases e
            rcases s1 with ⟨_,rfl⟩ | ⟨k,_,rfl⟩ | ⟨k,t,_,rfl⟩ | ⟨k,t,_,rfl⟩
            · exact SeqAt.EqAt.none_tuple p2 (by omega)
            · exact SeqAt.EqAt.bool_tuple _ p2 (by omega)
            · exact SeqAt.EqAt.int_tuple _ _ p2 (by omega)
            · exact SeqAt.EqAt.str_tuple _ _ p2 (by omega)
          | lst ws =>
            obtain ⟨a2,its2,ys,rfl,p2,vb,rb⟩:=s2
            cases e
            rcases s1 with ⟨_,rfl⟩ | ⟨k,_,rfl⟩ | ⟨k,t,_,rfl⟩ | ⟨k,t,_,rfl⟩
            · exact SeqAt.EqAt.none_list p2 (by omega)
            · exact SeqAt.EqAt.bool_list _ p2 (by omega)
            · exact SeqAt.EqAt.int_list _ _ p2 (by omega)
            · exact SeqAt.EqAt.str_list _ _ p2 (by omega)
          | flt =>
            injection e with e
            subst e
            exact eq_flat s1 s2
noncomputable def eqM:F2:=fun u w st => match eqD 16 st u w with
  | some b => .ok (.bl b) st
  | none => .bad
noncomputable def neM:F2:=fun u w st => match eqD 16 st u w with
  | some b => .ok (.bl (!b)) st
  | none => .bad
theorem op_eqM {E:XK} (hu:X.A.units + 64 < cLine):OpR X (compareOp .Eq) (rM (wo X) E eqM):=by
  intro pins s σ H x y v u Q I rx ry h
  obtain ⟨ρ,st,u1,w1,sr,r1,r2,h⟩:=h
  unfold eqM at h
  split at h
  · rename_i b e
    exact (rc_M I sr 15 (eqAt_M I sr 15 X.A.in1 (by rw [in1_units]; omega)) (by omega) r1 rx r2 ry e).1 X.prog X.w X.xe (EP X pins σ Q) ⟨.bl b,H,I,rfl,fin_b sr h⟩
  · exact h.elim
theorem op_neM {E:XK} (hu:X.A.units + 64 < cLine):OpR X (compareOp .NotEq) (rM (wo X) E neM):=by
  intro pins s σ H x y v u Q I rx ry h
  obtain ⟨ρ,st,u1,w1,sr,r1,r2,h⟩:=h
  unfold neM at h
  split at h
  · rename_i b e
    exact (rc_M I sr 15 (eqAt_M I sr 15 X.A.in1 (by rw [in1_units]; omega)) (by omega) r1 rx r2 ry e).2 X.prog X.w X.xe (EP X pins σ Q) ⟨.bl (!b),H,I,rfl,fin_b sr h⟩
  · exact h.elim
noncomputable def seqOf (st:Store):Val → Option (List Val)
  | .tup us => some us
  | .mt us => some us
  | .loc n => itemsOf st n
  | _ => none
noncomputable def inW (neg:Bool):F2:=fun u w st => match seqOf st w with
  | some us => if flat u = true ∧ us.all flat = true then .ok (.bl (if neg then !us.any (fun y => eqF y u) else us.any (fun y => eqF y u))) st else .bad
  | none => .bad
theorem flat_rel {K:PySem.W.Frag} {u w:Val} {x y:V} (f1:flat u = true) (f2:flat w = true) (r1:Rl K ρ H u x) (r2:Rl K ρ H w y):flatV x = true ∧ flatV y = true ∧ eqV x y = eqF u w:=by
  cases u <;> (try cases f1) <;> cases w <;> (try cases f2) <;>
    (first | (have z1:=Rl.int_ r1; subst z1) | (have z1:=Rl.bl_ r1; subst z1) | (have z1:=Rl.str_ r1; subst z1) | (have z1:=Rl.non_ r1; subst z1)) <;>
    (first | (have z2:=Rl.int_ r2; subst z2) | (have z2:=Rl.bl_ r2; subst z2) | (have z2:=Rl.str_ r2; subst z2) | (have z2:=Rl.non_ r2; subst z2)) <;> exact ⟨rfl,rfl,rfl⟩
theorem flat_any {K:PySem.W.Frag} {u:Val} {x:V} (f:flat u = true) (r:Rl K ρ H u x):∀ {us:List Val} {vs:List V},us.all flat = true → Rls K ρ H us vs → vs.all flatV = true ∧ inV x vs = us.any fun y => eqF y u
  | [],vs,_,h => by rw [h.unnil]; exact ⟨rfl,rfl⟩
  | w :: us,vs,hf,h => by
    obtain ⟨v,r',rfl,h2,h3⟩:=h.uncons
    rw [List.all_cons,Bool.and_eq_true] at hf
    obtain ⟨a,b,c⟩:=flat_rel hf.1 f h2 r
    obtain ⟨d,e⟩:=flat_any f r hf.2 h3
    refine ⟨by rw [List.all_cons,a,d]; rfl,?_⟩
    show (eqV v x || inV x r') = _
    rw [c,e]; rfl
theorem in_read {E:XK} {neg:Bool} {x y:V} {H:Hp} {Q:VK} (h:rM (wo X) E (inW neg) x y H Q):rIn X.K neg x y H Q:=by
  obtain ⟨ρ,st,u,w,sr,r1,r2,h⟩:=h
  unfold inW at h
  split at h
  · rename_i us e
    split at h
    · rename_i hz
      cases w with
      | tup ws =>
        cases e
        obtain ⟨a,vs,rfl,ha,ra⟩:=r2.tup_
        obtain ⟨q1,q2⟩:=flat_any hz.1 r1 hz.2 ra
        refine ⟨a,vs,rfl,.inr ha,(flat_rel hz.1 hz.1 r1 r1).1,q1,?_⟩
        rw [q2]
        exact fin_b sr h
      | mt ws =>
        cases e
        obtain ⟨a,vs,rfl,ha,ra⟩:=r2.mt_
        obtain ⟨q1,q2⟩:=flat_any hz.1 r1 hz.2 ra
        refine ⟨a,vs,rfl,.inr ha,(flat_rel hz.1 hz.1 r1 r1).1,q1,?_⟩
        rw [q2]
        exact fin_b sr h
      | loc n =>
        obtain ⟨a,rfl,ha⟩:=r2.loc_
        obtain ⟨vs,hs,ra⟩:=itemsOf_sq sr e ha
        obtain ⟨q1,q2⟩:=flat_any hz.1 r1 hz.2 ra
        refine ⟨a,vs,rfl,.inl hs,(flat_rel hz.1 hz.1 r1 r1).1,q1,?_⟩
        rw [q2]
        exact fin_b sr h
      | _ => cases e
    · exact h.elim
  · exact h.elim
theorem op_inM {E:XK}:OpR X (compareOp .In) (rM (wo X) E (inW false)):=OpR.imp op_in_seq fun _ _ _ _ h => in_read h
end
end MN
namespace MN
open PySem PySem.Spec L2
open PyProof.Rows hiding St
section
variable {X:Cx} {E:XK} {pos:Pos}
noncomputable def ixV:F2
  | .tup us,.int i,st => match atI us i with
    | some v => .ok v st
    | none => .bad
  | .loc n,.int i,st => match itemsOf st n with
    | some us => match atI us i with
      | some v => .ok v st
      | none => .bad
    | none => .bad
  | .str z,.int i,st => if z.length ≤ sizeLine then (match atI z.cps.toList i with
      | some c => .ok (.str ⟨#[c]⟩) st
      | none => .bad) else .bad
  | _,_,_ => .bad
theorem Rls.atI {K:PySem.W.Frag} {ρ:List Addr} {H:Hp} {us:List Val} {vs:List V} {i:Int} {u:Val} (r:Rls K ρ H us vs) (h:atI us i = some u):∃ v,L2.atI vs i = some v ∧ Rl K ρ H u v:=by
  unfold L2.atI at h ⊢
  rw [← r.length]
  cases z:ixN us.length i with
  | none => rw [z] at h; cases h
  | some j =>
    rw [z] at h
    obtain ⟨v,h1,h2⟩:=r.get (show us[j]? = some u from h)
    exact ⟨v,h1,h2⟩
theorem ix_M:IxR X (rM (wo X) E ixV):=by
  refine IxR.imp (IxR.or ix_list (IxR.or ix_tup ix_str)) ?_
  rintro x y H Q ⟨ρ,st,u,w,sr,r1,r2,h⟩
  cases u <;> cases w <;> try exact h.elim
  case tup.int us i =>
    unfold ixV at h
    dsimp only at h
    split at h
    · rename_i v e
      obtain ⟨a,vs,rfl,ha,ra⟩:=r1.tup_
      obtain ⟨z,h1,h2⟩:=ra.atI e
      exact .inr (.inl ⟨a,vs,i,z,rfl,r2.int_,ha,h1,h ρ H z (Step.refl _ _) sr h2⟩)
    · exact h.elim
  case loc.int n i =>
    unfold ixV at h
    dsimp only at h
    split at h
    · rename_i us e
      split at h
      · rename_i v e'
        obtain ⟨a,rfl,ha⟩:=r1.loc_
        obtain ⟨vs,hs,rv⟩:=itemsOf_sq sr e ha
        obtain ⟨z,h1,h2⟩:=rv.atI e'
        exact .inl ⟨a,vs,i,z,rfl,r2.int_,hs,h1,h ρ H z (Step.refl _ _) sr h2⟩
      · exact h.elim
    · exact h.elim
  case str.int z i =>
    unfold ixV at h
    dsimp only at h
    split at h
    · rename_i hz
      split at h
      · rename_i c e
        exact .inr (.inr ⟨z,i,c,r1.str_,r2.int_,hz,e,h ρ H _ (Step.refl _ _) sr (Rl.mkStr _)⟩)
      · exact h.elim
    · exact h.elim
noncomputable def lenF:FN
  | [.tup us],st => .ok (.int us.length) st
  | [.loc n],st => match itemsOf st n with
    | some us => .ok (.int us.length) st
    | none => .bad
  | [.str z],st => if z.length ≤ sizeLine then .ok (.int z.length) st else .bad
  | _,_ => .bad
theorem call_lenM:CallR X (.builtin "len") (cM (wo X) E lenF):=by
  refine CallR.imp (CallR.or call_len_seq call_len_str) ?_
  rintro xs H Q ⟨ρ,st,us,sr,r,h⟩
  match us,r,h with
  | [],_,h => exact h.elim
  | [.tup ws],r,h =>
    obtain ⟨v,rfl,r1⟩:=r.un1
    obtain ⟨a,vs,rfl,ha,ra⟩:=r1.tup_
    refine .inl ⟨a,vs,rfl,.inr ha,?_⟩
    rw [← ra.length]; exact fin_int sr h
  | [.loc n],r,h =>
    obtain ⟨v,rfl,r1⟩:=r.un1
    obtain ⟨a,rfl,ha⟩:=r1.loc_
    unfold lenF at h
    dsimp only at h
    split at h
    · rename_i ws e
      obtain ⟨vs,hs,rv⟩:=itemsOf_sq sr e ha
      refine .inl ⟨a,vs,rfl,.inl hs,?_⟩
      rw [← rv.length]; exact fin_int sr h
    · exact h.elim
  | [.str z],r,h =>
    obtain ⟨v,rfl,r1⟩:=r.un1
    unfold lenF at h
    dsimp only at h
    split at h
    · rename_i hz
      exact .inr ⟨z,by rw [r1.str_],hz,fin_int sr h⟩
    · exact h.elim
  | [.non],_,h => exact h.elim
  | [.bl _],_,h => exact h.elim
  | [.int _],_,h => exact h.elim
  | [.exc _],_,h => exact h.elim
  | [.fn _ _],_,h => exact h.elim
  | [.mt _],_,h => exact h.elim
  | x :: y :: r,_,h => cases x <;> exact h.elim
noncomputable def absF:FN
  | [.int i],st => .ok (.int (if i < 0 then -i else i)) st
  | _,_ => .bad
noncomputable def tupF:FN
  | [.tup us],st => .ok (.tup us) st
  | [.loc n],st => match itemsOf st n with
    | some us => .ok (.tup us) st
    | none => .bad
  | _,_ => .bad
theorem call_tupM:CallR X (.type "tuple") (cM (wo X) E tupF):=by
  refine CallR.imp call_tuple_of ?_
  rintro xs H Q ⟨ρ,st,us,sr,r,h⟩
  unfold tupF at h
  split at h
  · rename_i ws
    obtain ⟨v,rfl,r1⟩:=r.un1
    obtain ⟨a,vs,rfl,ha,ra⟩:=r1.tup_
    exact ⟨a,vs,rfl,.inr ⟨ha,h ρ H _ (Step.refl _ _) sr r1⟩⟩
  · rename_i n
    obtain ⟨v,rfl,r1⟩:=r.un1
    obtain ⟨a,rfl,ha⟩:=r1.loc_
    split at h
    · rename_i ws e
      obtain ⟨vs,hs,rv⟩:=itemsOf_sq sr e ha
      refine ⟨a,vs,rfl,.inl ⟨hs,fun l hl => ?_⟩⟩
      have s:=same_upd (o:=.tup vs) hl
      exact h ρ _ _ (Step.same s) (sr.grow s) (Rl.mkTup upd_same (Rls.mono (Step.same s) _ _ rv))
    · exact h.elim
  · exact h.elim
noncomputable def lstF:FN
  | [.tup us],st => .ok (.loc st.length) (st ++ [.lst us])
  | [.loc n],st => match itemsOf st n with
    | some us => .ok (.loc st.length) (st ++ [.lst us])
    | none => .bad
  | _,_ => .bad
theorem call_lstM:CallR X (.type "list") (cM (wo X) E lstF):=by
  refine CallR.imp call_list_of ?_
  rintro xs H Q ⟨ρ,st,us,sr,r,h⟩
  unfold lstF at h
  split at h
  · rename_i ws
    obtain ⟨v,rfl,r1⟩:=r.un1
    obtain ⟨a,vs,rfl,ha,ra⟩:=r1.tup_
    refine ⟨a,vs,rfl,.inr ha,fun l hl => ?_⟩
    obtain ⟨k1,k2,k3⟩:=new_lst sr ra hl
    exact h _ _ _ k1 k2 k3
  · rename_i n
    obtain ⟨v,rfl,r1⟩:=r.un1
    obtain ⟨a,rfl,ha⟩:=r1.loc_
    split at h
    · rename_i ws e
      obtain ⟨vs,hs,rv⟩:=itemsOf_sq sr e ha
      refine ⟨a,vs,rfl,.inl hs,fun l hl => ?_⟩
      obtain ⟨k1,k2,k3⟩:=new_lst sr rv hl
      exact h _ _ _ k1 k2 k3
    · exact h.elim
  · exact h.elim
noncomputable def blsOf:List Val → Option (List Bool)
  | [] => some []
  | .bl b :: r => (blsOf r).map (b :: ·)
  | _ => none
theorem blsOf_are {K:PySem.W.Frag} {ρ:List Addr} {H:Hp}:∀ {us:List Val} {bs:List Bool} {vs:List V} {its:List Value},blsOf us = some bs → Rls K ρ H us vs → Vals vs its → LSm.BoolsAre its bs
  | [],bs,vs,its,h,r,v => by
    cases h
    have:=r.unnil
    subst this
    cases v
    exact .nil
  | u :: us,bs,vs,its,h,r,v => by
    cases u with
    | bl b =>
      simp only [blsOf] at h
      cases z:blsOf us with
      | none => rw [z] at h; cases h
      | some bs' =>
        rw [z] at h
        cases h
        obtain ⟨x,r',rfl,h2,h3⟩:=r.uncons
        have:=h2.bl_
        subst this
        cases v with
        | cons q1 q2 =>
          cases q1
          exact .cons b (blsOf_are z h3 q2)
    | _ => cases h
theorem call_all_bools (hh:X.A.handled = none):CallR X (.builtin "all") (fun xs H Q => ∃ a ρ us vs bs,xs = [.ref a] ∧ SqL X.K H a vs ∧ Rls X.K ρ H us vs ∧ blsOf us = some bs ∧ Q (.bl (bs.all id)) H):=by
  rintro pins s σ H xs ws Q I r ⟨a,ρ,us,vs,bs,rfl,hs,rv,hb,q⟩
  obtain ⟨u,rfl,ru⟩:=vals1 r
  cases ru
  obtain ⟨its,r1,p1,_⟩:=I.list hs
  have B:=blsOf_are hb rv r1
  have hl:=p1.isList
  have hlt:a < s.heap.objs.size:=by obtain ⟨_,e,_⟩:=hl; exact Heap.lt_size e
  refine call_all_walk (wpAny_pyIter_list hl ?_)
  refine ⟨s.heap.objs.size,[s.heap.objs.size,a],[s.heap.objs.size],its.toArray.size,_,_,fun i => (bs[i]?).getD true,rfl,Walks.list (A:=X.A.in1) hh _ a (Nat.ne_of_lt hlt) its.toArray,
    ⟨⟨_,Heap.get?_push_size _ rfl,rfl,rfl⟩,hl.push _⟩,fun i v s' Q' E' hP hQ => ?_,fun h' tk hk => ?_⟩
  · obtain ⟨b,e,rfl⟩:=B.get i v (by simpa using hP)
    simp only [e,Option.getD_some] at hQ
    exact wpAny_truthy_bool hQ
  · have e:((List.range its.toArray.size).all fun i => (bs[i]?).getD true) = bs.all id:=by
      rw [List.size_toArray,B.length]; exact LSm.range_all bs
    rw [e]
    exact ⟨.bl _,H,I.kept (LSm.kept_iter hk),rfl,q⟩
noncomputable def allF:FN
  | [.loc n],st => match itemsOf st n with
    | some us => match blsOf us with
      | some bs => .ok (.bl (bs.all id)) st
      | none => .bad
    | none => .bad
  | _,_ => .bad
theorem call_allM (hh:X.A.handled = none):CallR X (.builtin "all") (cM (wo X) E allF):=by
  refine CallR.imp (call_all_bools hh) ?_
  rintro xs H Q ⟨ρ,st,us,sr,r,h⟩
  unfold allF at h
  split at h
  · rename_i n
    obtain ⟨v,rfl,r1⟩:=r.un1
    obtain ⟨a,rfl,ha⟩:=r1.loc_
    split at h
    · rename_i ws e
      split at h
      · rename_i bs hb
        obtain ⟨vs,hs,rv⟩:=itemsOf_sq sr e ha
        exact ⟨a,ρ,ws,vs,bs,rfl,hs,rv,hb,fin_b sr h⟩
      · exact h.elim
    · exact h.elim
  · exact h.elim
noncomputable def kindOf (st:Store):Val → Option String
  | .non => some "NoneType"
  | .bl _ => some "bool"
  | .int _ => some "int"
  | .str _ => some "str"
  | .tup _ => some "tuple"
  | .loc n => match st[n]? with
    | some (.lst _) => some "list"
    | some (.fro _) => some "list"
    | some (.mod _) => none
    | some (.dK _) => some "dict"
    | some (.dT _) => some "dict"
    | none => none
  | _ => none
noncomputable def isT (T:String) (st:Store) (v:Val):Option Bool:=(kindOf st v).map fun k => k == T || (k == "bool" && T == "int")
noncomputable def mIs (T:String) (m:ME):ME:=fun μ st => (m μ st).bind fun v st' => match isT T st' v with
  | some b => .ok (.bl b) st'
  | none => .bad
noncomputable def KitT (K:PySem.W.Frag) (T:String):Prop:=∀ k ∈ ["NoneType","bool","int","str","tuple","list","dict"],PySem.W.kitOne K (.type k) (.type T) = some (k == T || (k == "bool" && T == "int"))
theorem kindOf_mem {st:Store} {v:Val} {k:String} (h:kindOf st v = some k):k ∈ ["NoneType","bool","int","str","tuple","list","dict"]:=by
  unfold kindOf at h
  split at h
  all_goals first
    | (cases h; decide)
    | (split at h <;> first | (cases h; decide) | cases h)
    | cases h
theorem isinst_M {pins:List (Addr × Obj)} {σ:St} {H:Hp} {s:Shared} {A:Around} {E:Value → Shared → Prop} {Q:Value → Shared → Prop} {c:Value} {b:Bool} {ρ:List Addr} {st:Store} {u:Val} {x:V} {v:Value} {k:String}
    (I:Inv X pins σ H s) (sr:SR X.K ρ st H) (r:Rl X.K ρ H u x) (q:RelV x v) (hk:kindOf st u = some k) (e:PySem.W.kitOne X.K (.type k) c = some b) (h:∀ tk,Q (.bool b) { s with toks:=tk }) :
    wpAny (model X.prog X.w) A (call (.builtin "isinstance") [v,c]) Q E s:=by
  cases u with
  | non => cases hk; have:=r.non_; subst this; exact isinst_ok I q .non e h
  | bl y => cases hk; have:=r.bl_; subst this; exact isinst_ok I q (.bl y) e h
  | int i => cases hk; have:=r.int_; subst this; exact isinst_ok I q (.int i) e h
  | str y => cases hk; have:=r.str_; subst this; exact isinst_ok I q (.str y) e h
  | tup us =>
    cases hk
    obtain ⟨a,vs,rfl,ha,ra⟩:=r.tup_
    cases q
    obtain ⟨its,r1,⟨o,h1,h2,_⟩,_⟩:=I.tuple ha
    exact PySem.W.kia_one PySem.W.kitx_tuple I.kIn ⟨o,h1,h2⟩ e (fun z => nomatch z) h
  | loc n =>
    obtain ⟨a,rfl,ha⟩:=r.loc_
    obtain ⟨cl,hc,kc⟩:=sr.there ha
    simp only [kindOf,hc] at hk
    cases cl with
    | lst us => cases hk; obtain ⟨vs,h1,_⟩:=kc; exact isinst_ok I q (.lst h1) e h
    | fro us => cases hk; obtain ⟨o,vs,h1,_⟩:=kc; exact isinst_ok I q (.frz h1) e h
    | mod us => cases hk
    | dK us => cases hk; obtain ⟨vs,h1,_⟩:=kc; exact isinst_ok I q (.dK h1) e h
    | dT us => cases hk; obtain ⟨vs,h1,_⟩:=kc; exact isinst_ok I q (.dT h1) e h
  | exc c => cases hk
  | fn k c => cases hk
  | mt us => cases hk
theorem me_isT {T:String} {x:Str} {e:Expr} {m:ME} {p q:Pos} (hK:KitT X.K T) (hg:Gl X "isinstance") (hm:X.mg "isinstance" = none) (hgT:Gl X x) (hmT:X.mg x = none) (hvT:bootBuiltins x = some (.type T)) (he:PE X e (tE X E m))
    (hn:x ≠ "__name__":=by decide) (hd:(x == ("__debug__":Str)) = false:=by decide)
    (hs:starEach [e,.Name x q] X.env = (false,eval e X.env) :: starEach [.Name x q] X.env:=by rfl) (hs2:starEach [.Name x q] X.env = (false,eval (.Name x q) X.env) :: starEach [] X.env:=by rfl)
    (hpl:(backTo pos (starEach [.Name x q] X.env)).any (·.1) = false:=by rfl):PE X (.Call (.Name "isinstance" p) [e,.Name x q] [] pos) (tE X E (mIs T m)):=by
  have hc:CallR X (.builtin "isinstance") (fun xs H Q => ∃ y ρ st u k b,xs = [y,.ty T] ∧ SR X.K ρ st H ∧ Rl X.K ρ H u y ∧ kindOf st u = some k ∧ PySem.W.kitOne X.K (.type k) (.type T) = some b ∧ Q (.bl b) H):=by
    rintro pins s σ H xs us Q I r ⟨y,ρ,st,u,k,b,rfl,sr,r1,h1,h2,h3⟩
    obtain ⟨v1,v2,rfl,q1,q2⟩:=vals2 r
    cases q2
    exact isinst_M I sr r1 q1 h1 h2 fun tk => ⟨.bl b,H,I.tok tk,rfl,h3⟩
  refine PE.imp (pe_callB hc hg hm PyProof.Rows.boot_isinstance (pa_cons he (pa_cons (pe_bltn (v:=.ty T) hgT hmT hvT rfl hn hd) pa_nil hs2) hs) (by decide) (by decide) hs hpl) ?_
  rintro σ H Q ⟨μ,ρ,st,rs,sr,h⟩
  refine go μ ρ st rs sr h fun u st1 ρ1 H1 x e1 sr1 r1 h1 => ?_
  cases z:kindOf st1 u with
  | none => simp only [isT,z] at h1; exact h1.elim
  | some k =>
    simp only [isT,z] at h1
    exact ⟨x,ρ1,st1,u,k,_,rfl,sr1,r1,z,hK k (kindOf_mem z),fin_b sr1 h1⟩
end
theorem kitT_int {K:PySem.W.Frag}:KitT K "int":=by
  intro k hk
  simp only [List.mem_cons,List.mem_nil_iff,or_false] at hk
  rcases hk with rfl | rfl | rfl | rfl | rfl | rfl | rfl <;> first | rfl | kernel_rfl
theorem kitT_bool {K:PySem.W.Frag}:KitT K "bool":=by
  intro k hk
  simp only [List.mem_cons,List.mem_nil_iff,or_false] at hk
  rcases hk with rfl | rfl | rfl | rfl | rfl | rfl | rfl <;> first | rfl | kernel_rfl
theorem kitT_tuple {K:PySem.W.Frag}:KitT K "tuple":=by
  intro k hk
  simp only [List.mem_cons,List.mem_nil_iff,or_false] at hk
  rcases hk with rfl | rfl | rfl | rfl | rfl | rfl | rfl <;> first | rfl | kernel_rfl
theorem kitT_list {K:PySem.W.Frag}:KitT K "list":=by
  intro k hk
  simp only [List.mem_cons,List.mem_nil_iff,or_false] at hk
  rcases hk with rfl | rfl | rfl | rfl | rfl | rfl | rfl <;> first | rfl | kernel_rfl
end MN
namespace MN
open PySem PySem.Spec L2
open PyProof.Rows hiding St
noncomputable abbrev AS:=Val → Env → Option Env
noncomputable def aName (i:Nat):AS:=fun v μ => some (μ.set i (some v))
noncomputable def aTups:List AS → List Val → Env → Option Env
  | [],[],μ => some μ
  | a :: as,v :: vs,μ => (a v μ).bind fun μ' => aTups as vs μ'
  | _,_,_ => none
noncomputable def aTup (l:List AS):AS:=fun v μ => match v with
  | .tup vs => aTups l vs μ
  | _ => none
noncomputable def tA (W:Wo) (a:AS):TG:=fun v σ H Q => ∃ μ ρ u μ',RS W ρ H μ σ ∧ Rl W.K ρ H u v ∧ a u μ = some μ' ∧ ∀ σ',RS W ρ H μ' σ' → Q σ' H
noncomputable def tAs (W:Wo) (l:List AS):TGs:=fun vs σ H Q => ∃ μ ρ us μ',RS W ρ H μ σ ∧ Rls W.K ρ H us vs ∧ aTups l us μ = some μ' ∧ ∀ σ',RS W ρ H μ' σ' → Q σ' H
section
variable {X:Cx} {pos:Pos}
theorem PGs.imp {e:List Expr} {t t':TGs} (h:PGs X e t) (k:∀ v σ H Q,t' v σ H Q → t v σ H Q):PGs X e t':=fun pins s σ H v u Q I r q => h pins s σ H v u Q I r (k v σ H Q q)
theorem mg_name (i:Nat) {x:Str} (hN:X.N.Nodup) (hi:X.N[i]? = some x:=by rfl) (hx:Loc X.env.scope x:=by first | exact Or.inl rfl | exact Or.inr rfl) (hf:X.fn x = true ∨ X.env.scope.names.lookup x = some .local:=by first | exact .inl rfl | exact .inr rfl | assumption):PG X (.Name x pos) (tA (wo X) (aName i)):=by
  refine PG.imp (pg_name hN hi hx hf) ?_
  rintro v σ H Q ⟨μ,ρ,u,μ',rs,r,e,q⟩
  cases e
  exact q _ (rs.set i r)
theorem mgs_nil:PGs X [] (tAs (wo X) []):=by
  refine PGs.imp pgs_nil ?_
  rintro vs σ H Q ⟨μ,ρ,us,μ',rs,r,e,q⟩
  cases us with
  | nil => cases e; exact ⟨r.unnil,q σ rs⟩
  | cons => cases e
theorem mgs_cons {e:Expr} {es:List Expr} {a:AS} {as:List AS} (h1:PG X e (tA (wo X) a)) (h2:PGs X es (tAs (wo X) as)) (hs:(assignEach (e :: es) X.env).map (·.2) = assign e X.env :: (assignEach es X.env).map (·.2):=by rfl):PGs X (e :: es) (tAs (wo X) (a :: as)):=by
  refine PGs.imp (pgs_cons h1 h2 hs) ?_
  rintro vs σ H Q ⟨μ,ρ,us,μ',rs,r,e,q⟩
  cases us with
  | nil => cases e
  | cons u us =>
    obtain ⟨v,r',rfl,ru,rr⟩:=r.uncons
    unfold aTups at e
    cases z:a u μ with
    | none => rw [z] at e; cases e
    | some μ1 =>
      rw [z] at e
      exact ⟨v,r',rfl,μ,ρ,u,μ1,rs,ru,z,fun σ1 rs1 => ⟨μ1,ρ,us,μ',rs1,rr,e,q⟩⟩
theorem mg_tup {es:List Expr} {k:Nat} {l:List AS} (hc:X.calm = true) (h:PGs X es (tAs (wo X) l)) (hn:(assignEach es X.env).length = l.length:=by rfl) (hst:(assignEach es X.env).findIdx? (·.1) = none:=by rfl):PG X (.Tuple es k pos) (tA (wo X) (aTup l)):=by
  refine PG.imp (pg_tup hc h hn hst) ?_
  rintro v σ H Q ⟨μ,ρ,u,μ',rs,r,e,q⟩
  cases u with
  | tup us =>
    obtain ⟨a,vs,rfl,ha,ra⟩:=r.tup_
    have len:∀ (l:List AS) (us:List Val) (μ:Env),aTups l us μ = some μ' → us.length = l.length:=by
      intro l
      induction l with
      | nil => intro us μ e; cases us with | nil => rfl | cons => cases e
      | cons a l ih =>
        intro us μ e
        cases us with
        | nil => cases e
        | cons u us =>
          unfold aTups at e
          cases z:a u μ with
          | none => rw [z] at e; cases e
          | some μ1 => rw [z] at e; rw [List.length_cons,List.length_cons,ih us μ1 e]
    exact ⟨a,vs,rfl,ha,by rw [← ra.length]; exact len _ _ _ e,μ,ρ,us,μ',rs,ra,e,q⟩
  | _ => cases e
noncomputable def sAsg (a:AS) (m:ME):MB:=fun μ st => (m μ st).sb μ fun v st' => match a v μ with
  | some μ' => .nx μ' st'
  | none => .bad
end
noncomputable abbrev Itm:=List Val × (Store → Prop)
noncomputable abbrev MI:=Env → Store → Res Itm
noncomputable def ItR (K:PySem.W.Frag) (ρ0:List Addr) (H0:Hp) (p:Itm) (J:It):Prop :=
  ∀ ρ st H,Step ρ0 H0 ρ H → SR K ρ st H → p.2 st → ∀ i:Nat,
    (∀ u,p.1[i]? = some u → J.go i H ∧ ∀ x H',J.yld i H x H' → Step ρ H ρ H' ∧ SR K ρ st H' ∧ Rl K ρ H' u x) ∧ (p.1.length ≤ i → J.stop i H)
noncomputable abbrev tI (X:Cx) (E:XK) (m:MI):TI:=tG (wo X) E (ItR X.K) m
section
variable {X:Cx} {E:XK} {tg:Expr} {pos p:Pos}
theorem PI.imp {it:Expr} {t t':TI} (h:PI X tg it t) (k:∀ σ H Q,t' σ H Q → t σ H Q):PI X tg it t':=fun pins s σ H R I q => h pins s σ H R I (k σ H R q)
theorem pi_seq {l:Expr} {tl:TE} (hl:PE X l tl):PI X tg l (fun σ H R => tl σ H fun x H1 => ∃ a,x = .ref a ∧ (((∃ xs,SqL X.K H1 a xs) ∧ R (Itl X.K a) H1) ∨ ((∃ xs,SqT X.K H1 a xs) ∧ R (Itt X.K a) H1))):=by
  intro pins s σ H R I h
  refine thn (hl pins s σ H _ I h) fun v s1 ⟨x,H1,I1,r1,q1⟩ => ?_
  obtain ⟨a,e,q⟩:=q1
  subst e
  cases r1
  rcases q with ⟨⟨xs,hq⟩,q⟩ | ⟨⟨xs,hq⟩,q⟩
  · obtain ⟨its,rv,p,hz⟩:=I1.list hq
    refine wpAny_pyIter_list p.isList ?_
    refine ⟨s1.heap.objs.size,[s1.heap.objs.size],_,_,H1,rfl,I1.kept (t':=s1.toks) fun b o e => Heap.get?_push_of_some _ e,turn_list a _,⟨_,Heap.get?_push_size _ rfl,rfl,rfl⟩,fun b hb => ?_,q⟩
    have e:b = s1.heap.objs.size:=by simpa using hb
    subst e
    exact I1.fpOk (Nat.le_refl _) (I1.hok.fresh (Nat.le_refl _))
  · obtain ⟨its,rv,p,hz⟩:=I1.tuple hq
    refine wpAny_pyIter_tuple (show s1.heap.IsTuple a its.toArray from p) ?_
    refine ⟨s1.heap.objs.size,[s1.heap.objs.size],_,_,H1,rfl,I1.kept (t':=s1.toks) fun b o e => Heap.get?_push_of_some _ e,turn_tuple a _,⟨_,Heap.get?_push_size _ rfl,rfl,rfl⟩,fun b hb => ?_,q⟩
    have e:b = s1.heap.objs.size:=by simpa using hb
    subst e
    exact I1.fpOk (Nat.le_refl _) (I1.hok.fresh (Nat.le_refl _))
noncomputable def walkOf (st:Store):Val → Option Itm
  | .tup us => some (us,fun _ => True)
  | .mt us => some (us,fun _ => True)
  | .loc n => (itemsOf st n).map fun us => (us,fun st' => itemsOf st' n = some us)
  | _ => none
noncomputable def iSeq (m:ME):MI:=fun μ st => (m μ st).bind fun v st' => match walkOf st' v with
  | some p => .ok p st'
  | none => .bad
theorem itR_list {K:PySem.W.Frag} {ρ:List Addr} {H:Hp} {n:Nat} {us:List Val} {a:Addr} (ha:ρ[n]? = some a) (hsq:∀ {ρ':List Addr} {st':Store} {H':Hp},SR K ρ' st' H' → itemsOf st' n = some us → ρ'[n]? = some a → ∃ vs,SqL K H' a vs ∧ Rls K ρ' H' us vs) :
    ItR K ρ H (us,fun st' => itemsOf st' n = some us) (Itl K a):=by
  intro ρ' st' H' e sr g i
  obtain ⟨vs,hs,rv⟩:=hsq sr g (e.at_ ha)
  refine ⟨fun u hu => ?_,fun hi => ⟨vs,hs,by rw [← rv.length]; exact hi⟩⟩
  obtain ⟨v,hv,ru⟩:=rv.get hu
  refine ⟨⟨vs,v,hs,hv⟩,fun x H'' y => ?_⟩
  obtain ⟨rfl,y⟩:=y
  have e:=(y vs hs).symm.trans hv
  cases e
  exact ⟨Step.refl _ _,sr,ru⟩
theorem itR_tup {K:PySem.W.Frag} {ρ:List Addr} {H:Hp} {us:List Val} {a:Addr} {vs:List V} (ha:SqT K H a vs) (ra:Rls K ρ H us vs):ItR K ρ H (us,fun _ => True) (Itt K a):=by
  intro ρ' st' H' e sr g i
  have ha':SqT K H' a vs:=e.sqT ha
  have rv:=Rls.mono e _ _ ra
  refine ⟨fun u hu => ?_,fun hi => ⟨vs,ha',by rw [← rv.length]; exact hi⟩⟩
  obtain ⟨v,hv,ru⟩:=rv.get hu
  refine ⟨⟨vs,v,ha',hv⟩,fun x H'' y => ?_⟩
  obtain ⟨rfl,y⟩:=y
  have e:=(y vs ha').symm.trans hv
  cases e
  exact ⟨Step.refl _ _,sr,ru⟩
theorem mi_seq {l:Expr} {m:ME} (hl:PE X l (tE X E m)):PI X tg l (tI X E (iSeq m)):=by
  refine PI.imp (pi_seq hl) ?_
  rintro σ H R ⟨μ,ρ,st,rs,sr,h⟩
  refine go μ ρ st rs sr h fun u st1 ρ1 H1 x e1 sr1 r1 h1 => ?_
  cases u with
  | tup us =>
    obtain ⟨a,vs,rfl,ha,ra⟩:=r1.tup_
    exact ⟨a,rfl,.inr ⟨⟨vs,ha⟩,h1 ρ1 H1 _ (Step.refl _ _) sr1 (itR_tup ha ra)⟩⟩
  | mt us =>
    obtain ⟨a,vs,rfl,ha,ra⟩:=r1.mt_
    exact ⟨a,rfl,.inr ⟨⟨vs,ha⟩,h1 ρ1 H1 _ (Step.refl _ _) sr1 (itR_tup ha ra)⟩⟩
  | loc n =>
    obtain ⟨a,rfl,ha⟩:=r1.loc_
    cases z:itemsOf st1 n with
    | none => simp only [walkOf,z] at h1; exact h1.elim
    | some us =>
      simp only [walkOf,z] at h1
      obtain ⟨vs,hs,rv⟩:=itemsOf_sq sr1 z ha
      exact ⟨a,rfl,.inl ⟨⟨vs,hs⟩,h1 ρ1 H1 _ (Step.refl _ _) sr1 (itR_list ha fun s g h => itemsOf_sq s g h)⟩⟩
  | _ => exact h1.elim
noncomputable def rangeL (lo:Int) (n:Nat):List Val:=(List.range n).map fun (i:Nat) => Val.int (lo + (i:Int))
theorem itR_range {K:PySem.W.Frag} {ρ:List Addr} {H:Hp} (lo:Int) (n:Nat):ItR K ρ H (rangeL lo n,fun _ => True) (Itr lo n):=by
  intro ρ' st' H' e sr g i
  refine ⟨fun u hu => ?_,fun hi => ?_⟩
  · have hi:i < n:=by
      have:=getL_lt hu
      simpa [rangeL] using this
    refine ⟨hi,fun x H'' y => ?_⟩
    obtain ⟨rfl,rfl⟩:=y
    have e:u = Val.int (lo + (i:Int)):=by
      simp only [rangeL,List.getElem?_map] at hu
      rw [List.getElem?_range hi] at hu
      exact (Option.some.inj hu).symm
    subst e
    exact ⟨Step.refl _ _,sr,Rl.mkInt _⟩
  · show n ≤ i
    simpa [rangeL] using hi
noncomputable def iRange1 (m:MA):MI:=fun μ st => (m μ st).bind fun vs st' => match vs with
  | [.int j] => if -(2 ^ 62) ≤ j ∧ j < 2 ^ 62 then .ok (rangeL 0 j.toNat,fun _ => True) st' else .bad
  | _ => .bad
noncomputable def iRange2 (m:MA):MI:=fun μ st => (m μ st).bind fun vs st' => match vs with
  | [.int i,.int j] => if -(2 ^ 62) ≤ i ∧ i < 2 ^ 62 ∧ -(2 ^ 62) ≤ j ∧ j < 2 ^ 62 then .ok (rangeL i (j - i).toNat,fun _ => True) st' else .bad
  | _ => .bad
theorem mi_range1 {a:Expr} {m:MA} (hg:Gl X "range") (hm:X.mg "range" = none) (ha:PA X [a] (tL X E m)) (hs:starEach [a] X.env = [(false,eval a X.env)]:=by rfl):PI X tg (.Call (.Name "range" p) [a] [] pos) (tI X E (iRange1 m)):=by
  refine PI.imp (pi_range1 hg hm ha hs) ?_
  rintro σ H R ⟨μ,ρ,st,rs,sr,h⟩
  refine go (R1:=Rls X.K) μ ρ st rs sr h fun us st1 ρ1 H1 xs e1 sr1 r1 h1 => ?_
  split at h1
  · rename_i j
    obtain ⟨v,rfl,rv⟩:=r1.un1
    split at h1
    · rename_i hz
      exact ⟨j,by rw [rv.int_],hz.1,hz.2,h1 ρ1 H1 _ (Step.refl _ _) sr1 (itR_range 0 j.toNat)⟩
    · exact h1.elim
  · exact h1.elim
theorem mi_range2 {a b:Expr} {m:MA} (hg:Gl X "range") (hm:X.mg "range" = none) (ha:PA X [a,b] (tL X E m)) (hs:starEach [a,b] X.env = [(false,eval a X.env),(false,eval b X.env)]:=by rfl) (hs2:starEach [b] X.env = [(false,eval b X.env)]:=by rfl) :
    PI X tg (.Call (.Name "range" p) [a,b] [] pos) (tI X E (iRange2 m)):=by
  refine PI.imp (pi_range2 hg hm ha hs hs2) ?_
  rintro σ H R ⟨μ,ρ,st,rs,sr,h⟩
  refine go (R1:=Rls X.K) μ ρ st rs sr h fun us st1 ρ1 H1 xs e1 sr1 r1 h1 => ?_
  split at h1
  · rename_i i j
    obtain ⟨v,w,rfl,rv,rw'⟩:=r1.un2
    split at h1
    · rename_i hz
      exact ⟨i,j,by rw [rv.int_,rw'.int_],hz,h1 ρ1 H1 _ (Step.refl _ _) sr1 (itR_range i _)⟩
    · exact h1.elim
  · exact h1.elim
noncomputable def sideOf (st:Store):Val → Option (Bool × Itm)
  | .tup us => some (false,us,fun _ => True)
  | .loc n => (itemsOf st n).map fun us => (true,us,fun st' => itemsOf st' n = some us)
  | _ => none
noncomputable def zipL:List Val → List Val → List Val
  | x :: xs,y :: ys => .tup [x,y] :: zipL xs ys
  | _,_ => []
noncomputable def iZip2 (b1 b2:Bool) (m:MA):MI:=fun μ st => (m μ st).bind fun vs st' => match vs with
  | [u,w] => match sideOf st' u,sideOf st' w with
    | some (c1,us,g1),some (c2,ws,g2) => if c1 = b1 ∧ c2 = b2 then .ok (zipL us ws,fun st2 => g1 st2 ∧ g2 st2) st' else .bad
    | _,_ => .bad
  | _ => .bad
end
open Classical in
noncomputable def forL (g:Store → Prop) (a:AS) (body:MB):List Val → MB
  | [],μ,st => if g st then .nx μ st else .bad
  | u :: us,μ,st => if g st then (match a u μ with
    | some μ1 => match body μ1 st with
      | .nx μ' st' => forL g a body us μ' st'
      | .ct μ' st' => forL g a body us μ' st'
      | .bk μ' st' => .nx μ' st'
      | .rt v st' => .rt v st'
      | .er c μ' st' => .er c μ' st'
      | .bad => .bad
    | none => .bad) else .bad
noncomputable def sFor (it:MI) (a:AS) (body:MB):MB:=fun μ st => (it μ st).sb μ fun p st' => forL p.2 a body p.1 μ st'
section
variable {X:Cx} {E:XK} {tg:Expr} {pos p:Pos}
theorem ms_for {iter:Expr} {sb:List Stmt} {it:MI} {a:AS} {body:MB} (hp:PassesOwn (model X.prog X.w) X.A X.env X.xe) (hc:X.calm = true) (hi:PI X tg iter (tI X E it)) (hg:PG X tg (tA (wo X) a)) (hb:PSs X sb (tS X E body))
    (hs:∀ x,foldedSetIterable iter X.env x = pure x:=by intro _; rfl):PS X (.For tg iter sb [] pos) (tS X E (sFor it a body)):=by
  refine PS.imp (ps_for hp hc hi hg hb hs) ?_
  rintro D σ H ⟨μ,ρ,st,rs,sr,h⟩
  refine goS (R1:=ItR X.K) μ ρ st rs sr h fun pr st1 ρ1 H1 J e1 sr1 rJ h1 => ?_
  obtain ⟨us,g⟩:=pr
  refine ⟨fun i m σ' H' => m = us.length - i ∧ i ≤ us.length ∧ ∃ μ' ρ' st',Step ρ1 H1 ρ' H' ∧ RS (wo X) ρ' H' μ' σ' ∧ SR X.K ρ' st' H' ∧ wS (wo X) E ρ' H' D (forL g a body (us.drop i) μ' st'),
    ⟨us.length,by simp,Nat.zero_le _,μ,ρ1,st1,Step.refl _ _,rs.mono e1,sr1,h1⟩,?_⟩
  rintro i m σ' H' ⟨rfl,hi,μ',ρ',st',e',rs',sr',h'⟩
  by_cases hlt:i < us.length
  · rw [List.drop_eq_getElem_cons hlt] at h'
    unfold forL at h'
    by_cases hg':g st'
    · rw [if_pos hg'] at h'
      obtain ⟨k1,k2⟩:=rJ ρ' st' H' e' sr' hg' i
      obtain ⟨go',yl⟩:=k1 _ (List.getElem?_eq_getElem hlt)
      refine .inr ⟨go',fun σ2 H2 => i + 1 ≤ us.length ∧ ∃ μ2 ρ2 st2,Step ρ1 H1 ρ2 H2 ∧ RS (wo X) ρ2 H2 μ2 σ2 ∧ SR X.K ρ2 st2 H2 ∧ wS (wo X) E ρ2 H2 D (forL g a body (us.drop (i + 1)) μ2 st2),fun σ2 H2 n => ⟨us.length - (i + 1),by omega,rfl,n.1,n.2⟩,fun x H2 y => ?_⟩
      obtain ⟨e2,sr2,r2⟩:=yl x H2 y
      cases z:a us[i] μ' with
      | none => rw [z] at h'; exact h'.elim
      | some μ1 =>
        rw [z] at h'
        dsimp only at h'
        refine ⟨μ',ρ',us[i],μ1,rs'.mono e2,r2,z,fun σ3 rs3 => ⟨μ1,ρ',st',rs3,sr2,?_⟩⟩
        cases zb:body μ1 st' with
        | nx μ4 st4 =>
          rw [zb] at h'
          intro ρ4 H4 σ4 e4 sr4 rs4
          exact ⟨by omega,μ4,ρ4,st4,(e'.trans e2).trans e4,rs4,sr4,wS.mono h' (e2.trans e4)⟩
        | ct μ4 st4 =>
          rw [zb] at h'
          intro ρ4 H4 σ4 e4 sr4 rs4
          exact ⟨by omega,μ4,ρ4,st4,(e'.trans e2).trans e4,rs4,sr4,wS.mono h' (e2.trans e4)⟩
        | bk μ4 st4 => rw [zb] at h'; exact fun ρ4 H4 σ4 e4 sr4 rs4 => h' ρ4 H4 σ4 (e2.trans e4) sr4 rs4
        | rt v st4 => rw [zb] at h'; exact fun ρ4 H4 σ4 e4 sr4 rs4 => h' ρ4 H4 σ4 (e2.trans e4) sr4 rs4
        | er c μ4 st4 => rw [zb] at h'; obtain ⟨C,q1,q2⟩:=h'; exact ⟨C,q1,fun ρ4 H4 e4 sr4 => q2 ρ4 H4 (e2.trans e4) sr4⟩
        | bad => rw [zb] at h'; exact h'
    · rw [if_neg hg'] at h'; exact h'.elim
  · have hi':i = us.length:=by omega
    subst hi'
    rw [List.drop_length] at h'
    unfold forL at h'
    by_cases hg':g st'
    · rw [if_pos hg'] at h'
      exact .inl ⟨(rJ ρ' st' H' e' sr' hg' us.length).2 (Nat.le_refl _),h' ρ' H' σ' (Step.refl _ _) sr' rs'⟩
    · rw [if_neg hg'] at h'; exact h'.elim
end
noncomputable def whileN (t:MT) (body:MB):Nat → Env → Store → Option SRes
  | 0,_,_ => none
  | n + 1,μ,st => match t μ st with
    | .ok true st1 => match body μ st1 with
      | .nx μ' st' => whileN t body n μ' st'
      | .ct μ' st' => whileN t body n μ' st'
      | .bk μ' st' => some (.nx μ' st')
      | .rt v st' => some (.rt v st')
      | .er c μ' st' => some (.er c μ' st')
      | .bad => some .bad
    | .ok false st1 => some (.nx μ st1)
    | .err c st1 => some (.er c μ st1)
    | .bad => some .bad
open Classical in
noncomputable def sWhile (t:MT) (body:MB):MB:=fun μ st => if h:∃ n r,whileN t body n μ st = some r then h.choose_spec.choose else .bad
theorem whileN_mono {t:MT} {body:MB}:∀ {n m:Nat} {μ:Env} {st:Store} {r r':SRes},whileN t body n μ st = some r → whileN t body m μ st = some r' → r = r'
  | 0,_,_,_,_,_,h,_ => by cases h
  | _ + 1,0,_,_,_,_,_,h => by cases h
  | n + 1,m + 1,μ,st,r,r',h,h' => by
    unfold whileN at h h'
    split at h
    · rename_i st1 e
      rw [e] at h'
      dsimp only at h'
      split at h
      all_goals (rename_i eb; rw [eb] at h'; dsimp only at h')
      · exact whileN_mono h h'
      · exact whileN_mono h h'
      all_goals (cases h; cases h'; rfl)
    all_goals (rename_i e; rw [e] at h'; dsimp only at h'; cases h; cases h'; rfl)
theorem sWhile_of {t:MT} {body:MB} {n:Nat} {μ:Env} {st:Store} {r:SRes} (h:whileN t body n μ st = some r):sWhile t body μ st = r:=by
  have hx:∃ n r,whileN t body n μ st = some r:=⟨n,r,h⟩
  unfold sWhile
  rw [dif_pos hx]
  exact whileN_mono hx.choose_spec.choose_spec h
section
variable {X:Cx} {E:XK} {pos:Pos}
theorem ms_while {c:Expr} {sb:List Stmt} {t:MT} {body:MB} (hp:PassesOwn (model X.prog X.w) X.A X.env X.xe) (hc:PT X c (tT X E t)) (hb:PSs X sb (tS X E body)):PS X (.While c sb [] pos) (tS X E (sWhile t body)):=by
  refine PS.imp (ps_while hp hc hb) ?_
  rintro D σ H ⟨μ,ρ,st,rs,sr,h⟩
  unfold sWhile at h
  split at h
  · rename_i hx
    have hr:=hx.choose_spec.choose_spec
    refine ⟨fun m σ' H' => ∃ μ' ρ' st' r,Step ρ H ρ' H' ∧ RS (wo X) ρ' H' μ' σ' ∧ SR X.K ρ' st' H' ∧ whileN t body m μ' st' = some r ∧ wS (wo X) E ρ' H' D r,⟨_,μ,ρ,st,_,Step.refl _ _,rs,sr,hr,h⟩,?_⟩
    rintro m σ' H' ⟨μ',ρ',st',r,e',rs',sr',hw,hq⟩
    cases m with
    | zero => cases hw
    | succ m =>
      unfold whileN at hw
      refine ⟨μ',ρ',st',rs',sr',?_⟩
      cases z:t μ' st' with
      | ok k st1 =>
        rw [z] at hw
        intro ρ1 H1 k' e1 sr1 ek
        cases ek
        cases k with
        | true =>
          dsimp only at hw
          rw [if_pos rfl]
          refine ⟨fun σ2 H2 => ∃ μ2 ρ2 st2 r2,Step ρ H ρ2 H2 ∧ RS (wo X) ρ2 H2 μ2 σ2 ∧ SR X.K ρ2 st2 H2 ∧ whileN t body m μ2 st2 = some r2 ∧ wS (wo X) E ρ2 H2 D r2,fun σ2 H2 n => ⟨m,Nat.lt_succ_self m,n⟩,μ',ρ1,st1,rs'.mono e1,sr1,?_⟩
          cases zb:body μ' st1 with
          | nx μ4 st4 =>
            rw [zb] at hw
            intro ρ4 H4 σ4 e4 sr4 rs4
            exact ⟨μ4,ρ4,st4,r,(e'.trans e1).trans e4,rs4,sr4,hw,wS.mono hq (e1.trans e4)⟩
          | ct μ4 st4 =>
            rw [zb] at hw
            intro ρ4 H4 σ4 e4 sr4 rs4
            exact ⟨μ4,ρ4,st4,r,(e'.trans e1).trans e4,rs4,sr4,hw,wS.mono hq (e1.trans e4)⟩
          | bk μ4 st4 => rw [zb] at hw; cases hw; exact fun ρ4 H4 σ4 e4 sr4 rs4 => hq ρ4 H4 σ4 (e1.trans e4) sr4 rs4
          | rt v st4 => rw [zb] at hw; cases hw; exact fun ρ4 H4 σ4 e4 sr4 rs4 => hq ρ4 H4 σ4 (e1.trans e4) sr4 rs4
          | er c μ4 st4 => rw [zb] at hw; cases hw; obtain ⟨C,q1,q2⟩:=hq; exact ⟨C,q1,fun ρ4 H4 e4 sr4 => q2 ρ4 H4 (e1.trans e4) sr4⟩
          | bad => rw [zb] at hw; cases hw; exact hq
        | false =>
          cases hw
          rw [if_neg Bool.false_ne_true]
          exact hq ρ1 H1 σ' e1 sr1 (rs'.mono e1)
      | err c st1 => rw [z] at hw; cases hw; exact hq
      | bad => rw [z] at hw; cases hw; exact hq
  · exact h.elim
end
end MN
namespace MN
open PySem PySem.Spec L2
open PyProof.Rows hiding St
noncomputable def capM (k:Nat) (caps:List Nat) (μ:Env):Env:=List.replicate k none ++ caps.map fun j => (μ[j]?).getD none
theorem RS.cap {W:Wo} {ρ:List Addr} {H:Hp} {μ:Env} {σ:L2.St} (r:RS W ρ H μ σ) (k:Nat) (caps:List Nat):RS W ρ H (capM k caps μ) (capS k caps σ):=by
  refine ⟨by simp [capM,capS],fun i u e => ?_⟩
  unfold capM at e
  rcases Nat.lt_or_ge i k with q | q
  · rw [List.getElem?_append_left (by rw [List.length_replicate]; exact q),List.getElem?_replicate,if_pos q] at e
    cases e
  · rw [List.getElem?_append_right (by rw [List.length_replicate]; exact q),List.length_replicate,List.getElem?_map] at e
    cases z:caps[i - k]? with
    | none => rw [z] at e; cases e
    | some j =>
      rw [z] at e
      have e':(μ[j]?).getD none = some u:=Option.some.inj e
      have e2:μ[j]? = some (some u):=by
        cases y:μ[j]? with
        | none => rw [y] at e'; cases e'
        | some w => rw [y] at e'; exact congrArg _ e'
      obtain ⟨v,h1,h2⟩:=r.at_ j u e2
      refine ⟨v,?_,h2⟩
      unfold capS
      rw [List.getElem?_append_right (by rw [List.length_replicate]; exact q),List.length_replicate,List.getElem?_map,z]
      show some ((σ[j]?).getD none) = _
      rw [h1]
      rfl
open Classical in
noncomputable def compL (g:Store → Prop) (a:AS) (c:MT) (e:ME):List Val → Env → Store → List Val → Res (List Val)
  | [],_,st,ys => if g st then .ok ys st else .bad
  | u :: us,τ,st,ys => if g st then (match a u τ with
    | some τ1 => match c τ1 st with
      | .ok true st1 => match e τ1 st1 with
        | .ok y st2 => compL g a c e us τ1 st2 (ys ++ [y])
        | .err _ _ => .bad
        | .bad => .bad
      | .ok false st1 => compL g a c e us τ1 st1 ys
      | .err _ _ => .bad
      | .bad => .bad
    | none => .bad) else .bad
noncomputable def mComp (k:Nat) (caps:List Nat) (it:MI) (a:AS) (c:MT) (e:ME):ME:=fun μ st => (it μ st).bind fun p st1 =>
  if p.1.length ≤ sizeLine then (compL p.2 a c e p.1 (capM k caps μ) st1 []).bind fun ys st2 => .ok (.loc st2.length) (st2 ++ [.lst ys]) else .bad
noncomputable def tTrueM:MT:=fun _ st => .ok true st
noncomputable abbrev W0 (X:Cx):Wo:=⟨X.K,X.mg,[]⟩
section
variable {X:Cx} {E:XK} {tg elt iter:Expr} {ifs:List Expr} {scope:Scope} {pos spos:Pos} {N:List Str} {cl:List (Str × Addr)} {k:Nat} {caps:List Nat} {it:MI} {a:AS} {c:MT} {e:ME}
theorem comp_read (hpn:X.pn = []) {σ:L2.St} {H:Hp} {Q:VK} (h:tE X E (mComp k caps it a c e) σ H Q):tComp k caps (tI X E it) (tA (W0 X) a) (tG (W0 X) E0 RB c) (tG (W0 X) E0 (Rl X.K) e) σ H Q:=by
  obtain ⟨μ,ρ,st,rs,sr,h⟩:=h
  refine tComp_by (go (R1:=ItR X.K) μ ρ st rs sr h fun pr st1 ρ1 H1 J e1 sr1 rJ h1 => ?_)
  obtain ⟨us,g⟩:=pr
  have ew:wo X = W0 X:=by show Wo.mk _ _ _ = _; rw [hpn]
  have rs1:=rs.mono e1
  rw [ew] at rs1 h1
  dsimp only at h1
  split at h1
  · rename_i hz
    refine comp_by us.length hz (fun i ys τ H' => ∃ μτ ρ' st' yv,Step ρ1 H1 ρ' H' ∧ RS (W0 X) ρ' H' μτ τ ∧ SR X.K ρ' st' H' ∧ Rls X.K ρ' H' yv ys ∧ yv.length ≤ i ∧ wR (W0 X) E (Rl X.K) ρ' H' Q ((compL g a c e (us.drop i) μτ st' yv).bind fun (zs:List Val) (st2:Store) => Res.ok (Val.loc st2.length) (st2 ++ [Cell.lst zs])))
      ⟨capM k caps μ,ρ1,st1,[],Step.refl _ _,rs1.cap k caps,sr1,Rls.nil,Nat.le_refl _,h1⟩ ?_ ?_ ?_ ?_ ?_
    · rintro i ys τ H' hi ⟨μτ,ρ',st',yv,e',rs',sr',ry,hl,hq⟩
      rw [List.drop_eq_getElem_cons hi] at hq
      unfold compL at hq
      by_cases hg':g st'
      · exact ((rJ ρ' st' H' e' sr' hg' i).1 _ (List.getElem?_eq_getElem hi)).1
      · rw [if_neg hg'] at hq; exact hq.elim
    · rintro ys τ H' ⟨μτ,ρ',st',yv,e',rs',sr',ry,hl,hq⟩
      rw [List.drop_length] at hq
      unfold compL at hq
      by_cases hg':g st'
      · exact (rJ ρ' st' H' e' sr' hg' us.length).2 (Nat.le_refl _)
      · rw [if_neg hg'] at hq; exact hq.elim
    · rintro i ys τ H' ⟨μτ,ρ',st',yv,e',rs',sr',ry,hl,hq⟩
      rw [← ry.length]; exact hl
    · rintro i ys τ H' x H2 hi ⟨μτ,ρ',st',yv,e',rs',sr',ry,hl,hq⟩ y K1 hK
      rw [List.drop_eq_getElem_cons hi] at hq
      unfold compL at hq
      by_cases hg':g st'
      · rw [if_pos hg'] at hq
        obtain ⟨e2,sr2,r2⟩:=((rJ ρ' st' H' e' sr' hg' i).1 _ (List.getElem?_eq_getElem hi)).2 x H2 y
        cases z:a us[i] μτ with
        | none => rw [z] at hq; exact hq.elim
        | some τ1 =>
          rw [z] at hq
          dsimp only at hq
          refine ⟨μτ,ρ',us[i],τ1,rs'.mono e2,r2,z,fun σ3 rs3 => ⟨τ1,ρ',st',rs3,sr2,?_⟩⟩
          cases zc:c τ1 st' with
          | ok b st3 =>
            rw [zc] at hq
            intro ρ3 H3 b' e3 sr3 eb
            cases eb
            cases b with
            | true =>
              dsimp only at hq
              rw [if_pos rfl]
              refine ⟨τ1,ρ3,st3,rs3.mono e3,sr3,?_⟩
              cases ze:e τ1 st3 with
              | ok v st4 =>
                rw [ze] at hq
                intro ρ4 H4 y4 e4 sr4 r4
                exact hK _ _ _ ⟨τ1,ρ4,st4,yv ++ [v],((e'.trans e2).trans e3).trans e4,(rs3.mono e3).mono e4,sr4,(Rls.mono ((e2.trans e3).trans e4) _ _ ry).append (Rls.one r4),by rw [List.length_append,List.length_singleton]; omega,wR.mono hq ((e2.trans e3).trans e4)⟩
              | err c' st4 => rw [ze] at hq; exact hq.elim
              | bad => rw [ze] at hq; exact hq.elim
            | false =>
              dsimp only at hq
              rw [if_neg Bool.false_ne_true]
              exact hK _ _ _ ⟨τ1,ρ3,st3,yv,(e'.trans e2).trans e3,rs3.mono e3,sr3,Rls.mono (e2.trans e3) _ _ ry,by omega,wR.mono hq (e2.trans e3)⟩
          | err c' st3 => rw [zc] at hq; exact hq.elim
          | bad => rw [zc] at hq; exact hq.elim
      · rw [if_neg hg'] at hq; exact hq.elim
    · rintro ys τ H' p ⟨μτ,ρ',st',yv,e',rs',sr',ry,hl,hq⟩ hp
      rw [List.drop_length] at hq
      unfold compL at hq
      by_cases hg':g st'
      · rw [if_pos hg'] at hq
        obtain ⟨k1,k2,k3⟩:=new_lst sr' ry hp
        exact hq _ _ _ k1 k2 k3
      · rw [if_neg hg'] at hq; exact hq.elim
  · exact h1.elim
theorem me_comp (hc:X.calm = true) (hpn:X.pn = []) (B:Caps X N scope cl k caps) (hi:PI X tg iter (tI X E it)) (hg:∀ C fp s H,PG (cxB X N scope cl C fp s H) tg (tA (W0 X) a)) (hif:∀ C fp s H,PIf (cxB X N scope cl C fp s H) ifs (tG (W0 X) E0 RB c))
    (he:∀ C fp s H,PE (cxB X N scope cl C fp s H) elt (tG (W0 X) E0 (Rl X.K) e)) (hs:∀ x,foldedSetIterable iter X.env x = pure x:=by intro _; rfl):PE X (.ListComp elt [⟨tg,iter,ifs,0⟩] scope pos) (tE X E (mComp k caps it a c e)) :=
  PE.imp (pe_comp hc B hi hg hif he hs) fun _ _ _ h => comp_read hpn h
theorem ms_setComp (i:Nat) {y:Str} {py:Pos} (hN:X.N.Nodup) (hc:X.calm = true) (hpn:X.pn = []) (B:Caps X N scope cl k caps) (hi:PI X tg iter (tI X E it)) (hg:∀ C fp s H,PG (cxB X N scope cl C fp s H) tg (tA (W0 X) a)) (hif:∀ C fp s H,PIf (cxB X N scope cl C fp s H) ifs (tG (W0 X) E0 RB c))
    (he:∀ C fp s H,PE (cxB X N scope cl C fp s H) elt (tG (W0 X) E0 (Rl X.K) e)) (hy:X.N[i]? = some y:=by rfl) (hx:Loc X.env.scope y:=by first | exact Or.inl rfl | exact Or.inr rfl) (hsw:swapsWith (.ListComp elt [⟨tg,iter,ifs,0⟩] scope pos) (some (.Name y py)) spos.line X.env = pure true:=by rfl)
    (hs:∀ x,foldedSetIterable iter X.env x = pure x:=by intro _; rfl) (hf:X.fn y = true ∨ X.env.scope.names.lookup y = some .local:=by first | exact .inl rfl | exact .inr rfl | assumption) :
    PS X (.Assign [.Name y py] (.ListComp elt [⟨tg,iter,ifs,0⟩] scope pos) spos) (tS X E (sSet i (mComp k caps it a c e))) :=
  PS.imp (L2.ps_setComp hN hy hx hc B hi hg hif he hsw hs hf) fun _ _ _ h => comp_read hpn (set_read h)
theorem mif_nil {C fp s H}:PIf (cxB X N scope cl C fp s H) [] (tG (W0 X) E0 RB tTrueM):=by
  intro pins s' σ H' Q I q
  refine pif_nil pins s' σ H' Q I ?_
  obtain ⟨μ,ρ,st,rs,sr,h⟩:=q
  exact h ρ H' true (Step.refl _ _) sr rfl
theorem mif_one {cc:Expr} {C fp s H} (h:PT (cxB X N scope cl C fp s H) cc (tG (W0 X) E0 RB c)):PIf (cxB X N scope cl C fp s H) [cc] (tG (W0 X) E0 RB c):=pif_one h
theorem passB {P:Program} {w:World} {C fp s H}:Passes (CX1 P w) (cxB X N scope cl C fp s H) E0:=by
  rintro pins σ H' s' e s2 I ⟨ea,cls,H2,_,_,q⟩
  exact q.elim
end
noncomputable abbrev FM:=Val → List Val → Store → Res Val
noncomputable def rMt (W:Wo) (E:XK) (f:FM):V → List V → Hp → VK → Prop:=fun x xs H Q => ∃ ρ st u us,SR W.K ρ st H ∧ Rl W.K ρ H u x ∧ Rls W.K ρ H us xs ∧ wR W E (Rl W.K) ρ H Q (f u us st)
noncomputable def isLst (st:Store):Val → Bool
  | .loc n => match st[n]? with
    | some (.lst _) => true
    | _ => false
  | _ => false
noncomputable def mMtL (f:FM) (o:ME) (a:MA):ME:=fun μ st => (o μ st).bind fun x st1 => if isLst st1 x = true then (a μ st1).bind fun xs st2 => f x xs st2 else .bad
noncomputable def appendF:FM
  | .loc n,[v],st => match st[n]? with
    | some (.lst us) => if us.length < sizeLine then .ok .non (st.set n (.lst (us ++ [v]))) else .bad
    | _ => .bad
  | _,_,_ => .bad
section
variable {X:Cx} {E:XK} {o e:Expr} {es:List Expr} {mo:ME} {ms:MA} {apos cpos:Pos} {f:FM}
theorem MtM.imp {id:String} {r r':V → List V → Hp → VK → Prop} (h:MtM X id r) (k:∀ x xs H Q,r' x xs H Q → r x xs H Q):MtM X id r':=fun pins s σ H x xs v us Q I rx rs q => h pins s σ H x xs v us Q I rx rs (k x xs H Q q)
theorem put_lst {K:PySem.W.Frag} {ρ:List Addr} {st:Store} {H:Hp} {n:Nat} {us us':List Val} {a:Addr} {vs vs':List V} (sr:SR K ρ st H) (h:st[n]? = some (.lst us)) (ha:ρ[n]? = some a) (hH:H a = some (.lst vs)) (r:Rls K ρ H us' vs') :
    Step ρ H ρ (upd H a (.lst vs')) ∧ SR K ρ (st.set n (.lst us')) (upd H a (.lst vs')):=by
  have e:Step ρ H ρ (upd H a (.lst vs')):=Step.put hH (fun _ z => by cases z) (fun _ _ z => by cases z)
  exact ⟨e,sr.set h rfl rfl ha hH (fun _ z => by cases z) (fun _ _ z => by cases z) ⟨vs',upd_same,Rls.mono e _ _ r⟩⟩
theorem mt_appendM:MtM X "list.append" (rMt (wo X) E appendF):=by
  refine MtM.imp mt_append ?_
  rintro x xs H Q ⟨ρ,st,u,us,sr,r1,r2,h⟩
  unfold appendF at h
  split at h
  · rename_i n v
    obtain ⟨a,rfl,ha⟩:=r1.loc_
    obtain ⟨y,rfl,ry⟩:=r2.un1
    split at h
    · rename_i ws hw
      split at h
      · rename_i hz
        obtain ⟨vs,hH,rv⟩:=sr.cell n _ a hw ha
        refine ⟨a,vs,y,rfl,rfl,hH,by rw [← rv.length]; exact hz,?_⟩
        obtain ⟨k1,k2⟩:=put_lst sr hw ha hH (rv.append (Rls.one ry))
        exact h ρ _ _ k1 k2 Rl.mkNon
      · exact h.elim
    · exact h.elim
  · exact h.elim
theorem isLst_ty {K:PySem.W.Frag} {ρ:List Addr} {st:Store} {H:Hp} {u:Val} {x:V} (sr:SR K ρ st H) (r:Rl K ρ H u x) (h:isLst st u = true):tyV K "list" x H:=by
  cases u with
  | loc n =>
    obtain ⟨a,rfl,ha⟩:=r.loc_
    obtain ⟨c,hc,kc⟩:=sr.there ha
    simp only [isLst,hc] at h
    cases c with
    | lst us => obtain ⟨vs,h1,_⟩:=kc; exact .inl ⟨rfl,vs,SqL.of h1⟩
    | _ => cases h
  | _ => cases h
theorem me_mtL {name:Str} {id:String} (slot:Slot "list" name id) (hty:typeOf (.builtin id) = pure (.type "method_descriptor")) (hm:MtM X id (rMt (wo X) E f)) (ho:PE X o (tE X E mo)) (ha:PA X (e :: es) (tL X E ms))
    (hbase:attributeBase o name X.env (eval o X.env) = eval o X.env:=by rfl)
    (hfew:((backTo cpos (starEach (e :: es) X.env)).all (fun x => !x.1) && (backToKw cpos (keywordEach [] X.env)).all (fun x => x.1.isSome)
      && decide ((e :: es).length + ([]:List Keyword).length + (if ([]:List Keyword).isEmpty then 0 else 1) < 30)) = true:=by rfl)
    (hline:(apos.endLine == cpos.line) = true:=by rfl) (hs:starEach (e :: es) X.env = (false,eval e X.env) :: starEach es X.env:=by rfl) (hplain:(backTo cpos (starEach es X.env)).any (·.1) = false:=by rfl) :
    PE X (.Call (.Attribute o name apos) (e :: es) [] cpos) (tE X E (mMtL f mo ms)):=by
  refine PE.imp (pe_bm PySem.F.plainAttrs_list slot hty hm ho ha hbase hfew hline hs hplain) ?_
  rintro σ H Q ⟨μ,ρ,st,rs,sr,h⟩
  refine go μ ρ st rs sr h fun u st1 ρ1 H1 x e1 sr1 r1 h1 => ?_
  split at h1
  · rename_i hz
    refine ⟨isLst_ty sr1 r1 hz,?_⟩
    refine go (R1:=Rls X.K) μ ρ1 st1 (rs.mono e1) sr1 h1 fun us st2 ρ2 H2 xs e2 sr2 r2 h2 => ?_
    exact ⟨ρ2,st2,u,us,sr2,Rl.mono e2 _ _ r1,r2,h2⟩
  · exact h1.elim
end
end MN
namespace MN
open PySem PySem.Spec L2
open PyProof.Rows hiding St
noncomputable def wRE {α β:Type} (W:Wo) (R:List Addr → Hp → α → β → Prop) (ρ:List Addr) (H:Hp) (Q:β → Hp → Prop) (EX:EH):Res α → Prop
  | .ok u st' => ∀ ρ' H' v,Step ρ H ρ' H' → SR W.K ρ' st' H' → R ρ' H' u v → Q v H'
  | .err c st' => ∃ C,W.mg c = some (.ref C) ∧ ∀ ρ' H' ea,Step ρ H ρ' H' → SR W.K ρ' st' H' → EX (.ref C) ea H'
  | .bad => False
noncomputable def noE {α:Type} (m:Env → Store → Res α):Env → Store → Res α:=fun μ st => match m μ st with
  | .ok v st' => .ok v st'
  | .err _ _ => .bad
  | .bad => .bad
section
variable {X:Cx} {pos p:Pos} {e:Expr} {es:List Expr} {m:ME} {ms:MA} {f:FN} {x:Str}
noncomputable abbrev MH:=Str → MB
noncomputable def onlyRt:SRes → SRes
  | .rt v st => .rt v st
  | _ => .bad
noncomputable def sTry (kn:Str → Bool) (body:MB) (h:MH):MB:=fun μ st => match body μ st with
  | .er c μ' st' => if kn c = true then h c μ' st' else .bad
  | .nx μ' st' => .nx μ' st'
  | .rt v st' => .rt v st'
  | .bk μ' st' => .bk μ' st'
  | .ct μ' st' => .ct μ' st'
  | .bad => .bad
noncomputable def noOut (m:MB):MB:=fun μ st => match m μ st with
  | .er _ _ _ => .bad
  | .nx μ' st' => .nx μ' st'
  | .rt v st' => .rt v st'
  | .bk μ' st' => .bk μ' st'
  | .ct μ' st' => .ct μ' st'
  | .bad => .bad
noncomputable def mIsX (sub:Str → Str → Option Bool) (i:Nat) (x:Str):ME:=fun μ st => match μ[i]? with
  | some (some (.exc c)) => (match sub c x with
    | some true => .ok (.bl true) st
    | _ => .bad)
  | _ => .bad
end
end MN
namespace MN
open PySem PySem.Spec L2
open PyProof.Rows hiding St
inductive CapAll (X:Cx) (scope:Scope):List (Str × Addr) → List Nat → Prop
  | nil:CapAll X scope [] []
  | cons {y:Str} {c:Addr} {j:Nat} {cl:List (Str × Addr)} {caps:List Nat} (sub:X.env.cells.lookup y = some c) (hX:X.N[j]? = some y) (hk:X.env.kindOf y = some .cell ∨ X.env.kindOf y = some .free)
      (hr:(relabel scope X.env).names.lookup y = some .cell ∨ (relabel scope X.env).names.lookup y = some .free) (r:CapAll X scope cl caps):CapAll X scope ((y,c) :: cl) (j :: caps)
theorem CapAll.sub {X:Cx} {scope:Scope} {cl:List (Str × Addr)} {caps:List Nat} (A:CapAll X scope cl caps):∀ x c,cl.lookup x = some c → X.env.cells.lookup x = some c:=by
  induction A with
  | nil => intro x c h; cases h
  | @cons y c0 _ _ _ sub _ _ _ _ ih =>
    intro x c h
    rw [List.lookup_cons] at h
    by_cases e:x = y
    · rw [beq_iff_eq.mpr e] at h
      rw [e]; exact sub.trans h
    · rw [beq_eq_false_iff_ne.mpr e] at h
      exact ih x c h
theorem CapAll.at_ {X:Cx} {scope:Scope} {cl:List (Str × Addr)} {caps:List Nat} (A:CapAll X scope cl caps):∀ (i j:Nat) (x:Str),caps[i]? = some j → (cl.map (·.1))[i]? = some x →
    X.N[j]? = some x ∧ (X.env.kindOf x = some .cell ∨ X.env.kindOf x = some .free) ∧ ((relabel scope X.env).names.lookup x = some .cell ∨ (relabel scope X.env).names.lookup x = some .free):=by
  induction A with
  | nil => intro i j x h; cases h
  | cons _ hX hk hr _ ih =>
    intro i j x h h2
    cases i with
    | zero => cases h; cases h2; exact ⟨hX,hk,hr⟩
    | succ i => exact ih i j x h h2
theorem lookup_of_mem:∀ {cl:List (Str × Addr)} {x:Str},x ∈ cl.map (·.1) → ∃ c,cl.lookup x = some c
  | [],x,h => by simp at h
  | (y,c) :: cl,x,h => by
    by_cases e:x = y
    · exact ⟨c,by simp [e]⟩
    · have e':(x == y) = false:=by simpa using e
      rw [List.map_cons,List.mem_cons] at h
      rcases h with h | h
      · exact absurd h e
      · obtain ⟨d,hd⟩:=lookup_of_mem h
        exact ⟨d,by simp only [List.lookup_cons,e']; exact hd⟩
theorem capsA {X:Cx} {N:List Str} {scope:Scope} {k:Nat} {cl:List (Str × Addr)} {caps:List Nat} (clos:closureFor scope X.env = pure cl) (A:CapAll X scope cl caps) (has:((relabel scope X.env).names.all fun p => !(p.2 == .cell || p.2 == .free) || (cl.map (·.1)).contains p.1) = true)
    (nocell:(scope.names.all fun p => !(p.2 == .cell)) = true) (kind:scope.kind = .function) (names:(scope.names.all fun p => !(p.2 == .local) || scope.names.lookup p.1 == some .local) = true) (len:N.length = k + caps.length) (hN:N.drop k = cl.map (·.1)):Caps X N scope cl k caps where
  clos:=clos
  sub:=A.sub
  has:=fun x h => by
    have m:x ∈ cl.map (·.1):=by
      rcases h with h | h <;> (have m:=PySem.mem_of_lookup h; have z:=List.all_eq_true.mp has _ m; simpa using z)
    exact lookup_of_mem m
  nocell:=fun x hx h => by
    have z:=List.all_eq_true.mp nocell x hx
    simp [h] at z
  kind:=kind
  names:=fun x hx h => by
    have z:=List.all_eq_true.mp names x hx
    simpa [h] using z
  len:=len
  at_:=fun i j x h1 h2 => A.at_ i j x h1 (by rw [← hN,List.getElem?_drop]; exact h2)
noncomputable def FnAt (P:Program) (w:World) (K:PySem.W.Frag) (mg:Str → Option Value) (base:Heap) (x:Str) (k:Nat) (f:FN):Prop :=
  ∃ fa fd ps,FnOk P w K mg base (CX1 P w) k fa fd ps (spM ⟨K,mg,[]⟩ f) ∧ mg x = some (.ref fa) ∧ PySem.W.keepIn K (.ref fa) = true ∧ Binds K fd ps []
section
variable {X:Cx} {E:XK} {pos p:Pos} {e:Expr} {es:List Expr} {ms:MA} {f:FN} {x:Str} {k j:Nat}
theorem me_fn (G:FnAt X.prog X.w X.K X.mg X.base x k f) (hr:Room j X.A) (hk:k ≤ j) (hg:Gl X x) (hx:Passes (CX1 X.prog X.w) X E) (ha:PA X (e :: es) (tL X E ms)) (hdb:(x == ("__debug__":Str)) = false:=by decide)
    (he:starEach (e :: es) X.env = (false,eval e X.env) :: starEach es X.env:=by rfl) (hpl:(backTo pos (starEach es X.env)).any (·.1) = false:=by rfl):PE X (.Call (.Name x p) (e :: es) [] pos) (tE X E (mCall f ms)):=by
  obtain ⟨fa,fd,ps,F,hm,kp,b⟩:=G
  exact me_call F (hr.mono hk) hg hm kp b hx ha hdb he hpl
end
section
variable {P:Program} {w:World} {K:PySem.W.Frag} {mg:Str → Option Value} {base:Heap}
theorem FnAt.mk {x:Str} {st:Stmt} {f:Addr} {fd:FuncData} {N ps:List Str} {k:Nat} {body:MB} (F:Fun K x x st f fd) (hm:mg x = some (.ref f)) (S:FnScope N ps (defScope st))
    (hb:∀ (kV doc pm:Value) (an:Option Addr) (cdv ct:Value) (us:List Value),us.length = ps.length → bindArgs (PySem.W.fnOf x x (defArgs st) (defBody st) (defScope st) .none kV doc pm an cdv ct) ⟨us,[]⟩ = pure (ps.zip us))
    (h:∀ (cdv:Value) (A:Around) (outer:List PySem.Env) (s:Shared) (H:Hp) (E:XK),Room k (A.deeper (envOfC x (defScope st) s.heap.objs.size f cdv)) →
      PSs (cxOf (CX1 P w) P w K mg base N x (defScope st) f cdv A outer s H E) (defBody st) (tS (cxOf (CX1 P w) P w K mg base N x (defScope st) f cdv A outer s H E) E body)):FnAt P w K mg base x (k + 1) (fnM ps.length N.length body) :=
  ⟨f,fd,ps,fn_okM F S h,hm,F.kp,F.binds hb⟩
theorem own_pass {N:List Str} {qual:Str} {scope:Scope} {f:Addr} {cd:Value} {A:Around} {outer:List PySem.Env} {s₀:Shared} {H₀:Hp} {E:XK}:PassesOwn (model P w) (A.deeper (envOfC qual scope s₀.heap.objs.size f cd)) (envOfC qual scope s₀.heap.objs.size f cd) (cxOf (CX1 P w) P w K mg base N qual scope f cd A outer s₀ H₀ E).xe :=
  PassesOwn.leaving
theorem own_raises {N:List Str} {qual:Str} {scope:Scope} {f:Addr} {cd:Value} {A:Around} {outer:List PySem.Env} {s₀:Shared} {H₀:Hp} {E:XK}:Raises (cxOf (CX1 P w) P w K mg base N qual scope f cd A outer s₀ H₀ E) E :=
  fun pins σ H s h' e cls vs I hx hE => raise_out I hx hE
theorem Glob.int {x:Str} {i:Int} {t:Tok} (h:mg x = some (.int i t)):Glob K mg x (.int i):=⟨_,.int i,h,⟨t,rfl⟩,fun _ _ => Rl.mkInt i⟩
theorem Glob.ints {x:Str} {a:Addr} {o:Obj} {its:Array Value} {n:Nat} {ns:List Int} (h:mg x = some (.ref a)) (l:K.lookup a = some o) (hc:o.cls = .type "tuple") (hd:o.data = .seq its n) (hz:its.size ≤ sizeLine) (hv:Vals (ns.map V.int) its.toList):Glob K mg x (.mt (ns.map .int)) :=
  ⟨_,.ref a,h,rfl,fun ρ H => Rl.mkMt (.inr ⟨o,its,n,l,hc,hd,hz,hv⟩) (Rls.ints ns)⟩
noncomputable def spLaw (K:PySem.W.Frag):Sp:=fun vs H Q _ => ∃ (a:Addr) (ns:List Int),vs = [.ref a] ∧ Only H ∧ SqL K H a (ns.map V.int) ∧ ns.length ≤ 63 ∧ ∀ H',Q (.bl true) H'
theorem one_SR {H:Hp} {a:Addr} {c:Cell} (k:CellR K [a] H c a):SR K [a] [c] H:=by
  refine ⟨rfl,fun n m b h1 h2 _ _ => ?_,fun n c' b h1 h2 => ?_⟩
  · have p1:=getL_lt h1
    have p2:=getL_lt h2
    simp at p1 p2
    omega
  · have p1:=getL_lt h1
    simp at p1
    subst p1
    cases h1
    cases h2
    exact k
theorem law_sp {f:FN} (hf:∀ (c:Cell) (ns:List Int),ns.length ≤ 63 → itemsOf [c] 0 = some (ns.map Val.int) → ∃ st',f [.loc 0] [c] = .ok (.bl true) st') {vs:List V} {H:Hp} {Q:VK} {E:XK} (h:spLaw K vs H Q E):spM ⟨K,mg,[]⟩ f vs H Q E:=by
  obtain ⟨a,ns,rfl,hO,hS,hl,q⟩:=h
  have fin:∀ c:Cell,CellR K [a] H c a → itemsOf [c] 0 = some (ns.map Val.int) → spM ⟨K,mg,[]⟩ f [.ref a] H Q E:=by
    intro c k hi
    obtain ⟨st',e⟩:=hf c ns hl hi
    refine ⟨[.loc 0],[a],[c],Rls.one (Rl.mkLoc rfl),one_SR k,?_⟩
    rw [e]
    intro ρ' H' v _ _ r
    rw [r.bl_]
    exact q H'
  rcases hS with (h | ⟨o,h⟩) | h
  · rcases hO a with z | ⟨o,xs,z⟩ <;> (rw [z] at h; cases h)
  · exact fin (.fro (ns.map .int)) ⟨o,_,h,Rls.ints ns⟩ rfl
  · exact fin (.mod (ns.map .int)) ⟨_,h,Rls.ints ns⟩ rfl
theorem law_walk {l:PySem.W.OpenLaw} {q:Program} {loose:List Str} {XP:(Str → Option Value) → Heap → Prop} {YP:World → Heap → Prop} {d:DefRec} {K:Params → PySem.W.Frag} {x:Str} {k:Nat} (hn:l.most = some 63) (hdf:d.params.defaults = []) (hr:Room k callerA)
    (hY:∀ (w:World) (h:Heap),YP w h → (K w.params).In h)
    (F:∀ (w:World) (mg:Str → Option Value) (fa:Addr) (h:Heap),(K w.params).In h → h.Ns mainGlobals mg → mg d.name = some (.ref fa) →
      ∃ fd:FuncData,(∀ (s:Shared) (u:Value),BindsTo s fd ⟨[u],[]⟩ [(x,u)]) ∧ ∀ base:Heap,(K w.params).In base → base.Ns mainGlobals mg → FnOk l.prog w (K w.params) mg base (CX1 l.prog w) k fa fd [x] (spLaw (K w.params))) :
    PySem.W.WalkO q loose XP YP l.row.toRowW d [] (fun f vs => PySem.call f vs) :=
  L2.walk_of (n:=63) (k:=k) (x:=x) (CX:=fun w => CX1 l.prog w) (sp:=fun w => spLaw (K w.params)) hn (by decide) hdf hr hY F (fun _ _ a ns hl hO hS => ⟨a,ns,rfl,hO,hS,hl,fun _ => rfl⟩) fun _ _ _ _ _ ⟨_,_,_,_,_,z⟩ => z
end
end MN
namespace MN
open PySem PySem.Spec L2
open PyProof.Rows hiding St
abbrev bmV:List Value:=[.type "ValueError",.type "Exception",.type "BaseException",.type "object"]
noncomputable def ExcC (K:PySem.W.Frag) (mg:Str → Option Value) (x:Str):Prop:=∃ C,mg x = some (.ref C) ∧ PySem.W.excIn K C bmV "ValueError.__new__" = true ∧ PySem.W.subIn K (.ref C) (.type "BaseException") = some true
section
variable {K:PySem.W.Frag} {mg:Str → Option Value}
end
section
variable {X:Cx} {E:XK} {pos np cpos p q1 q2:Pos} {x n:Str} {e₀:Expr} {es:List Expr} {ms:MA} {i:Nat} {b₀:Stmt} {suite:List Stmt} {rest:List ExceptHandler} {tab:List (Str × Str × Bool)} {s:MB} {r:MH}
theorem ms_raiseC (hX:Raises X E) (hc:X.calm = true) (h:ExcC X.K X.mg x) (hg:Gl X x) (ha:PA X (e₀ :: es) (tL X E ms))
    (he:starEach (e₀ :: es) X.env = (false,eval e₀ X.env) :: starEach es X.env:=by rfl) (hpl:(backTo cpos (starEach es X.env)).any (·.1) = false:=by rfl) (hd:(x == ("__debug__":Str)) = false:=by decide) :
    PS X (.Raise (some (.Call (.Name x np) (e₀ :: es) [] cpos)) none pos) (tS X E (sRaise x ms)):=by
  obtain ⟨C,hm,hq,_⟩:=h
  exact ms_raise hX hc hm hq PySem.F.excBase_ValueError hg ha he hpl hd
end
end MN
namespace MN
open PySem PySem.Spec L2
open PyProof.Rows hiding St
section
variable {κ:Type} [DecidableEq κ]
noncomputable def valW (kvs:List (κ × Val)) (k:κ):Option Val:=(kvs.find? fun kv => decide (kv.1 = k)).map (·.2)
noncomputable def putW (kvs:List (κ × Val)) (k:κ) (v:Val):List (κ × Val) :=
  if (kvs.any fun kv => decide (kv.1 = k)) = true then kvs.map (fun kv => if kv.1 = k then (kv.1,v) else kv) else kvs ++ [(k,v)]
variable {K:PySem.W.Frag} {ρ ρ':List Addr} {H H':Hp}
theorem Prs.nil:Prs K ρ H ([]:List (κ × Val)) []:=⟨rfl,Rls.nil⟩
theorem Prs.cons {k:κ} {u:Val} {v:V} {kvs:List (κ × Val)} {kvs':List (κ × V)} (r:Rl K ρ H u v) (p:Prs K ρ H kvs kvs'):Prs K ρ H ((k,u) :: kvs) ((k,v) :: kvs') :=
  ⟨by simp only [List.map_cons,p.1],Rls.cons r p.2⟩
theorem Prs.uncons {k:κ} {u:Val} {kvs:List (κ × Val)} {l:List (κ × V)} (p:Prs K ρ H ((k,u) :: kvs) l):∃ v kvs',l = (k,v) :: kvs' ∧ Rl K ρ H u v ∧ Prs K ρ H kvs kvs':=by
  obtain ⟨h1,h2⟩:=p
  cases l with
  | nil => simp at h1
  | cons x l =>
    obtain ⟨k',v⟩:=x
    simp only [List.map_cons,List.cons.injEq] at h1 h2
    obtain ⟨rfl,h1⟩:=h1
    obtain ⟨v',r,e,q1,q2⟩:=h2.uncons
    simp only [List.cons.injEq] at e
    obtain ⟨rfl,rfl⟩:=e
    exact ⟨v,l,rfl,q1,h1,q2⟩
theorem Prs.unnil {l:List (κ × V)} (p:Prs K ρ H ([]:List (κ × Val)) l):l = []:=by
  have:=p.1
  cases l with
  | nil => rfl
  | cons => simp at this
theorem Prs.mono {kvs:List (κ × Val)} {l:List (κ × V)} (p:Prs K ρ H kvs l) (e:Step ρ H ρ' H'):Prs K ρ' H' kvs l:=⟨p.1,Rls.mono e _ _ p.2⟩
theorem Prs.length {kvs:List (κ × Val)} {l:List (κ × V)} (p:Prs K ρ H kvs l):kvs.length = l.length:=by
  have:=congrArg List.length p.1
  simpa using this
theorem Prs.val (k:κ):∀ {kvs:List (κ × Val)} {l:List (κ × V)},Prs K ρ H kvs l → (valW kvs k = none ∧ valV l k = none) ∨ ∃ u v,valW kvs k = some u ∧ valV l k = some v ∧ Rl K ρ H u v
  | [],l,p => by rw [p.unnil]; exact .inl ⟨rfl,rfl⟩
  | (k',u) :: kvs,l,p => by
    obtain ⟨v,l',rfl,r,p'⟩:=p.uncons
    by_cases e:k' = k
    · exact .inr ⟨u,v,by simp [valW,e],by simp [valV,e],r⟩
    · rcases Prs.val k p' with ⟨h1,h2⟩ | ⟨u',v',h1,h2,h3⟩
      · exact .inl ⟨by simpa [valW,e] using h1,by simpa [valV,e] using h2⟩
      · exact .inr ⟨u',v',by simpa [valW,e] using h1,by simpa [valV,e] using h2,h3⟩
theorem Prs.any (k:κ):∀ {kvs:List (κ × Val)} {l:List (κ × V)},Prs K ρ H kvs l → (kvs.any fun kv => decide (kv.1 = k)) = l.any fun kv => decide (kv.1 = k)
  | [],l,p => by rw [p.unnil]; rfl
  | (k',u) :: kvs,l,p => by
    obtain ⟨v,l',rfl,r,p'⟩:=p.uncons
    simp only [List.any_cons,Prs.any k p']
theorem Prs.repl (k:κ) {u:Val} {v:V} (r:Rl K ρ H u v):∀ {kvs:List (κ × Val)} {l:List (κ × V)},Prs K ρ H kvs l → Prs K ρ H (kvs.map fun kv => if kv.1 = k then (kv.1,u) else kv) (l.map fun kv => if kv.1 = k then (kv.1,v) else kv)
  | [],l,p => by rw [p.unnil]; exact Prs.nil
  | (k',u') :: kvs,l,p => by
    obtain ⟨v',l',rfl,r',p'⟩:=p.uncons
    simp only [List.map_cons]
    by_cases e:k' = k
    · rw [if_pos e,if_pos e]; exact Prs.cons r (Prs.repl k r p')
    · rw [if_neg e,if_neg e]; exact Prs.cons r' (Prs.repl k r p')
theorem Prs.snoc {k:κ} {u:Val} {v:V} (r:Rl K ρ H u v):∀ {kvs:List (κ × Val)} {l:List (κ × V)},Prs K ρ H kvs l → Prs K ρ H (kvs ++ [(k,u)]) (l ++ [(k,v)])
  | [],l,p => by rw [p.unnil]; exact Prs.cons r Prs.nil
  | (k',u') :: kvs,l,p => by
    obtain ⟨v',l',rfl,r',p'⟩:=p.uncons
    exact Prs.cons r' (Prs.snoc r p')
theorem Prs.put (k:κ) {u:Val} {v:V} (r:Rl K ρ H u v) {kvs:List (κ × Val)} {l:List (κ × V)} (p:Prs K ρ H kvs l):Prs K ρ H (putW kvs k u) (putK l k v):=by
  unfold putW putK
  rw [p.any k]
  split
  · exact p.repl k r
  · exact p.snoc r
end
noncomputable def keyOf:Val → Option Key
  | .int i => some (.inl i)
  | .str x => some (.inr x)
  | _ => none
noncomputable def keysOf:List Val → Option (List Key)
  | [] => some []
  | u :: us => match keyOf u,keysOf us with
    | some k,some ks => some (k :: ks)
    | _,_ => none
noncomputable def tkeyOf:Val → Option (List Key)
  | .tup us => keysOf us
  | _ => none
section
variable {K:PySem.W.Frag} {ρ:List Addr} {H:Hp}
theorem keyOf_V {u:Val} {v:V} {k:Key} (r:Rl K ρ H u v) (h:keyOf u = some k):v = kV k:=by
  cases u with
  | int i => cases h; exact r.int_
  | str x => cases h; exact r.str_
  | _ => cases h
theorem keysOf_V:∀ {us:List Val} {vs:List V} {ks:List Key},Rls K ρ H us vs → keysOf us = some ks → vs = ks.map kV
  | [],vs,ks,r,h => by cases h; exact r.unnil
  | u :: us,vs,ks,r,h => by
    obtain ⟨v,r',rfl,h2,h3⟩:=r.uncons
    unfold keysOf at h
    split at h
    · rename_i k ks' e1 e2
      cases h
      rw [keyOf_V h2 e1,keysOf_V h3 e2]; rfl
    · cases h
theorem tkeyOf_V {u:Val} {v:V} {ks:List Key} (r:Rl K ρ H u v) (h:tkeyOf u = some ks):∃ b,v = .ref b ∧ H b = some (.tup (ks.map kV)):=by
  cases u with
  | tup us =>
    obtain ⟨b,vs,rfl,hb,rb⟩:=r.tupH
    rw [keysOf_V rb h] at hb
    exact ⟨b,rfl,hb⟩
  | _ => cases h
end
noncomputable def lookD (st:Store) (d k:Val):Option (Option Val):=match d with
  | .loc n => match st[n]? with
    | some (.dK kvs) => (keyOf k).map fun q => valW kvs q
    | some (.dT kvs) => (tkeyOf k).map fun q => valW kvs q
    | _ => none
  | _ => none
noncomputable def storeD (st:Store) (d k v:Val):Option Store:=match d with
  | .loc n => match st[n]? with
    | some (.dK kvs) => if kvs.length < sizeLine then (keyOf k).map fun q => st.set n (.dK (putW kvs q v)) else none
    | some (.dT kvs) => if kvs.length < sizeLine then (tkeyOf k).map fun q => st.set n (.dT (putW kvs q v)) else none
    | _ => none
  | _ => none
theorem lookD_get {K:PySem.W.Frag} {ρ:List Addr} {st:Store} {H:Hp} {d k:Val} {x y:V} {o:Option Val} (sr:SR K ρ st H) (rd:Rl K ρ H d x) (rk:Rl K ρ H k y) (h:lookD st d k = some o) :
    ∃ a o',x = .ref a ∧ DGet H a y o' ∧ IsD H a ∧ ((o = none ∧ o' = none) ∨ ∃ u v,o = some u ∧ o' = some v ∧ Rl K ρ H u v):=by
  cases d with
  | loc n =>
    obtain ⟨a,rfl,ha⟩:=rd.loc_
    unfold lookD at h
    dsimp only at h
    split at h
    · rename_i kvs e
      obtain ⟨l,hl,p⟩:=sr.cell n _ a e ha
      cases z:keyOf k with
      | none => rw [z] at h; cases h
      | some q =>
        rw [z] at h
        cases h
        have:=keyOf_V rk z
        subst this
        exact ⟨a,valV l q,rfl,DGet.k hl,.inl ⟨l,.inl hl⟩,p.val q⟩
    · rename_i kvs e
      obtain ⟨l,hl,p⟩:=sr.cell n _ a e ha
      cases z:tkeyOf k with
      | none => rw [z] at h; cases h
      | some q =>
        rw [z] at h
        cases h
        obtain ⟨b,rfl,hb⟩:=tkeyOf_V rk z
        exact ⟨a,valV l q,rfl,DGet.t hl hb,.inr ⟨l,.inl hl⟩,p.val q⟩
    · cases h
  | _ => cases h
theorem storeD_put {K:PySem.W.Frag} {ρ:List Addr} {st st':Store} {H:Hp} {d k v:Val} {x y z:V} (sr:SR K ρ st H) (rd:Rl K ρ H d x) (rk:Rl K ρ H k y) (rv:Rl K ρ H v z) (h:storeD st d k v = some st') :
    ∃ a H',x = .ref a ∧ DPut H a y z H' ∧ Step ρ H ρ H' ∧ SR K ρ st' H':=by
  cases d with
  | loc n =>
    obtain ⟨a,rfl,ha⟩:=rd.loc_
    unfold storeD at h
    dsimp only at h
    split at h
    · rename_i kvs e
      obtain ⟨l,hl,p⟩:=sr.cell n _ a e ha
      split at h
      · rename_i hz
        cases zk:keyOf k with
        | none => rw [zk] at h; cases h
        | some q =>
          rw [zk] at h
          cases h
          have:=keyOf_V rk zk
          subst this
          have st1:Step ρ H ρ (upd H a (.dK (putK l q z))):=Step.put hl (fun _ z => by cases z) (fun _ _ z => by cases z)
          exact ⟨a,_,rfl,DPut.k hl (by rw [← p.length]; exact hz),st1,sr.set e rfl rfl ha hl (fun _ z => by cases z) (fun _ _ z => by cases z) ⟨_,upd_same,(p.put q rv).mono st1⟩⟩
      · cases h
    · rename_i kvs e
      obtain ⟨l,hl,p⟩:=sr.cell n _ a e ha
      split at h
      · rename_i hz
        cases zk:tkeyOf k with
        | none => rw [zk] at h; cases h
        | some q =>
          rw [zk] at h
          cases h
          obtain ⟨b,rfl,hb⟩:=tkeyOf_V rk zk
          have st1:Step ρ H ρ (upd H a (.dT (putK l q z))):=Step.put hl (fun _ z => by cases z) (fun _ _ z => by cases z)
          exact ⟨a,_,rfl,DPut.t hl hb (by rw [← p.length]; exact hz),st1,sr.set e rfl rfl ha hl (fun _ z => by cases z) (fun _ _ z => by cases z) ⟨_,upd_same,(p.put q rv).mono st1⟩⟩
      · cases h
    · cases h
  | _ => cases h
noncomputable def mDNewT:ME:=fun _ st => .ok (.loc st.length) (st ++ [.dT []])
noncomputable def dgetV:F2:=fun d k st => match lookD st d k with
  | some (some v) => .ok v st
  | _ => .bad
noncomputable def dinV (neg:Bool):F2:=fun k d st => match lookD st d k with
  | some o => .ok (.bl (if neg then !o.isSome else o.isSome)) st
  | none => .bad
noncomputable def isDc (st:Store):Val → Bool
  | .loc n => match st[n]? with
    | some (.dK _) => true
    | some (.dT _) => true
    | _ => false
  | _ => false
noncomputable def mDGet2 (d k x:ME):ME:=fun μ st => (d μ st).bind fun dv st1 => if isDc st1 dv = true then (k μ st1).bind fun kv st2 => (x μ st2).bind fun xv st3 => match lookD st3 dv kv with
  | some o => .ok (o.getD xv) st3
  | none => .bad else .bad
noncomputable def sDPutM (d k v:ME):MB:=fun μ st => (v μ st).sb μ fun vv st1 => (d μ st1).sb μ fun dv st2 => (k μ st2).sb μ fun kv st3 => match storeD st3 dv kv vv with
  | some st4 => .nx μ st4
  | none => .bad
section
variable {X:Cx} {E:XK} {pos pos' apos cpos:Pos} {o i e f value:Expr} {md mk mv mx:ME}
theorem new_cell {K:PySem.W.Frag} {ρ:List Addr} {st:Store} {H:Hp} (sr:SR K ρ st H) {p:Addr} (hp:H p = none) {ob:HO} {c:Cell} (k:CellR K (ρ ++ [p]) (upd H p ob) c p) :
    Step ρ H (ρ ++ [p]) (upd H p ob) ∧ SR K (ρ ++ [p]) (st ++ [c]) (upd H p ob) ∧ Rl K (ρ ++ [p]) (upd H p ob) (.loc st.length) (.ref p):=by
  refine ⟨Step.snoc p (same_upd hp),sr.alloc hp k,Rl.mkLoc ?_⟩
  rw [← sr.len,List.getElem?_append_right (Nat.le_refl _),Nat.sub_self]
  rfl
theorem me_dnewT:PE X (.Dict [] [] pos) (tE X E mDNewT):=by
  refine PE.imp pe_dnewT ?_
  rintro σ H Q ⟨μ,ρ,st,rs,sr,h⟩ p hp
  obtain ⟨k1,k2,k3⟩:=new_cell (c:=.dT []) sr hp ⟨[],upd_same,Prs.nil⟩
  exact h _ _ _ k1 k2 k3
theorem me_dget (hu:X.A.units + 64 < cLine) (ho:PE X o (tE X E md)) (hi:PE X i (tE X E mk)) (hs:NoSl i:=by exact fun _ _ => rfl):PE X (.Subscript o i pos) (tE X E (mBin dgetV md mk)):=by
  refine PE.imp (pe_dget (by omega) ho hi hs) ?_
  rintro σ H Q ⟨μ,ρ,st,rs,sr,h⟩
  refine go μ ρ st rs sr h fun d st1 ρ1 H1 x e1 sr1 r1 h1 => ?_
  refine go μ ρ1 st1 (rs.mono e1) sr1 h1 fun k st2 ρ2 H2 y e2 sr2 r2 h2 => ?_
  unfold dgetV at h2
  split at h2
  · rename_i u hl
    obtain ⟨a,o',rfl,hd,_,hv⟩:=lookD_get sr2 (Rl.mono e2 _ _ r1) r2 hl
    rcases hv with ⟨z,_⟩ | ⟨u',v,z,rfl,rv⟩
    · cases z
    · cases z
      exact ⟨a,v,rfl,hd,h2 ρ2 H2 v (Step.refl _ _) sr2 rv⟩
  · exact h2.elim
theorem isDc_is {K:PySem.W.Frag} {ρ:List Addr} {st:Store} {H:Hp} {d:Val} {x:V} (sr:SR K ρ st H) (r:Rl K ρ H d x) (h:isDc st d = true):∃ a,x = .ref a ∧ IsD H a:=by
  cases d with
  | loc n =>
    obtain ⟨a,rfl,ha⟩:=r.loc_
    obtain ⟨c,hc,kc⟩:=sr.there ha
    simp only [isDc,hc] at h
    cases c with
    | dK kvs => obtain ⟨l,hl,_⟩:=kc; exact ⟨a,rfl,.inl ⟨l,.inl hl⟩⟩
    | dT kvs => obtain ⟨l,hl,_⟩:=kc; exact ⟨a,rfl,.inr ⟨l,.inl hl⟩⟩
    | _ => cases h
  | _ => cases h
theorem me_dget2 (hu:X.A.units + 64 < cLine) (ho:PE X o (tE X E md)) (he:PE X e (tE X E mk)) (hf:PE X f (tE X E mx)) (m:M2 X o "get" apos e f cpos:=by exact ⟨rfl,rfl,rfl,rfl⟩):PE X (.Call (.Attribute o "get" apos) [e,f] [] cpos) (tE X E (mDGet2 md mk mx)):=by
  refine PE.imp (pe_dget2 (by omega) ho he hf m) ?_
  rintro σ H Q ⟨μ,ρ,st,rs,sr,h⟩
  refine go μ ρ st rs sr h fun d st1 ρ1 H1 x e1 sr1 r1 h1 => ?_
  split at h1
  · rename_i hd
    obtain ⟨a,rfl,ia⟩:=isDc_is sr1 r1 hd
    refine ⟨a,rfl,ia,?_⟩
    refine go μ ρ1 st1 (rs.mono e1) sr1 h1 fun k st2 ρ2 H2 y e2 sr2 r2 h2 => ?_
    refine go μ ρ2 st2 ((rs.mono e1).mono e2) sr2 h2 fun xv st3 ρ3 H3 z e3 sr3 r3 h3 => ?_
    split at h3
    · rename_i ov hl
      obtain ⟨a',o',ea,hd',_,hv⟩:=lookD_get sr3 (Rl.mono (e2.trans e3) _ _ r1) (Rl.mono e3 _ _ r2) hl
      cases ea
      refine ⟨o',hd',?_⟩
      rcases hv with ⟨rfl,rfl⟩ | ⟨u,v,rfl,rfl,rv⟩
      · exact h3 ρ3 H3 z (Step.refl _ _) sr3 r3
      · exact h3 ρ3 H3 v (Step.refl _ _) sr3 rv
    · exact h3.elim
  · exact h1.elim
theorem ms_dput (hu:X.A.units + 64 < cLine) (ho:PE X o (tE X E md)) (hi:PE X i (tE X E mk)) (hv:PE X value (tE X E mv)) (hs:swapsWith value (some (.Subscript o i pos')) pos.line X.env = pure false:=by rfl) :
    PS X (.Assign [.Subscript o i pos'] value pos) (tS X E (sDPutM md mk mv)):=by
  refine PS.imp (ps_dput (by omega) ho hi hv hs) ?_
  rintro D σ H ⟨μ,ρ,st,rs,sr,h⟩
  refine goS μ ρ st rs sr h fun v st1 ρ1 H1 z e1 sr1 r1 h1 => ?_
  refine goS μ ρ1 st1 (rs.mono e1) sr1 h1 fun d st2 ρ2 H2 x e2 sr2 r2 h2 => ?_
  refine goS μ ρ2 st2 ((rs.mono e1).mono e2) sr2 h2 fun k st3 ρ3 H3 y e3 sr3 r3 h3 => ?_
  split at h3
  · rename_i st4 hst
    obtain ⟨a,H4,rfl,hd,s4,sr4⟩:=storeD_put sr3 (Rl.mono e3 _ _ r2) r3 (Rl.mono (e2.trans e3) _ _ r1) hst
    exact ⟨a,H4,rfl,hd,h3 ρ3 H4 σ s4 sr4 ((((rs.mono e1).mono e2).mono e3).mono s4)⟩
  · exact h3.elim
end
section
variable {X:Cx} {E:XK} {es:List Expr} {ms:MA} {pos:Pos}
theorem ma_int {i j} (hr:PA X es (tL X E ms)):PA X (.Constant (.int i) j pos :: es) (tL X E (mCons (mC (.int i)) ms)):=ma_cons me_int hr
theorem ma_str {x j} (hr:PA X es (tL X E ms)):PA X (.Constant (.str x) j pos :: es) (tL X E (mCons (mC (.str x)) ms)):=ma_cons me_str hr
theorem me_ixM {a b:Expr} {ma mb:ME} (ha:PE X a (tE X E ma)) (hb:PE X b (tE X E mb)) (hs:PlainIx b:=by exact fun _ _ => rfl):PE X (.Subscript a b pos) (tE X E (mBin ixV ma mb)):=me_ix ix_M ha hb hs
end
end MN
namespace MN
open PySem PySem.Spec L2
open PyProof.Rows hiding St
noncomputable def cutL (us:List Val) (lo hi:Option Int):List Val:=(us.drop (HT.sIx us.length 0 lo)).take (HT.sIx us.length us.length hi - HT.sIx us.length 0 lo)
theorem Rls.cut {K:PySem.W.Frag} {ρ:List Addr} {H:Hp} {us:List Val} {vs:List V} (r:Rls K ρ H us vs) (lo hi:Option Int):Rls K ρ H (cutL us lo hi) (cutV vs lo hi):=by
  unfold cutL cutV
  rw [r.length]
  exact Rls.take _ (Rls.drop _ r)
noncomputable abbrev MO:=Env → Store → Res (Option Int)
noncomputable abbrev RO:List Addr → Hp → Option Int → Option Int → Prop:=fun _ _ a b => b = a
noncomputable abbrev tOo (X:Cx) (E:XK) (m:MO):TO:=tG (wo X) E RO m
noncomputable def oNone:MO:=fun _ st => .ok none st
noncomputable def oSome (m:ME):MO:=fun μ st => (m μ st).bind fun v st' => match v with
  | .int i => .ok (some i) st'
  | _ => .bad
noncomputable def slV (lo hi:Option Int):Val → Store → Res Val
  | .tup us,st => if HT.sIx us.length 0 lo = 0 ∧ HT.sIx us.length us.length hi = us.length then .bad else .ok (.tup (cutL us lo hi)) st
  | .loc n,st => match itemsOf st n with
    | some us => .ok (.loc st.length) (st ++ [.lst (cutL us lo hi)])
    | none => .bad
  | _,_ => .bad
noncomputable def mSl (a:ME) (lo hi:MO):ME:=fun μ st => (a μ st).bind fun x st1 => (lo μ st1).bind fun l st2 => (hi μ st2).bind fun h st3 => slV l h x st3
section
variable {X:Cx} {E:XK} {pos p2:Pos} {e:Expr} {m:ME}
theorem PO.imp {e:Option Expr} {t t':TO} (h:PO X e t) (k:∀ σ H Q,t' σ H Q → t σ H Q):PO X e t':=fun pins s σ H Q I q => h pins s σ H Q I (k σ H Q q)
theorem mo_none:PO X none (tOo X E oNone):=PO.imp po_none fun σ H Q ⟨μ,ρ,st,rs,sr,h⟩ => h ρ H none (Step.refl _ _) sr rfl
theorem mo_some (h:PE X e (tE X E m)):PO X (some e) (tOo X E (oSome m)):=by
  refine PO.imp (po_some h) ?_
  rintro σ H Q ⟨μ,ρ,st,rs,sr,h⟩
  refine go μ ρ st rs sr h fun u st1 ρ1 H1 x e1 sr1 r1 h1 => ?_
  cases u with
  | int i => exact ⟨i,r1.int_,h1 ρ1 H1 (some i) (Step.refl _ _) sr1 rfl⟩
  | _ => exact h1.elim
theorem me_sl {lo hi:Option Expr} {ml mh:MO} (he:PE X e (tE X E m)) (hl:PO X lo (tOo X E ml)) (hh:PO X hi (tOo X E mh)):PE X (.Subscript e (.Slice lo hi none p2) pos) (tE X E (mSl m ml mh)):=by
  refine PE.imp (pe_slice (SlR.or sl_list sl_tup) he hl hh) ?_
  rintro σ H Q ⟨μ,ρ,st,rs,sr,h⟩
  refine go μ ρ st rs sr h fun u st1 ρ1 H1 x e1 sr1 r1 h1 => ?_
  refine go (R1:=RO) μ ρ1 st1 (rs.mono e1) sr1 h1 fun l st2 ρ2 H2 l' e2 sr2 r2 h2 => ?_
  cases r2
  refine go (R1:=RO) μ ρ2 st2 ((rs.mono e1).mono e2) sr2 h2 fun k st3 ρ3 H3 k' e3 sr3 r3 h3 => ?_
  cases r3
  have ru:=Rl.mono e3 _ _ (Rl.mono e2 _ _ r1)
  cases u with
  | tup us =>
    obtain ⟨a,vs,rfl,ha,ra⟩:=ru.tup_
    unfold slV at h3
    dsimp only at h3
    split at h3
    · exact h3.elim
    · rename_i hz
      refine .inr ⟨a,vs,rfl,ha,by rw [← ra.length]; exact hz,fun p hp => ?_⟩
      have s:=same_upd (o:=.tup (cutV vs l k)) hp
      exact h3 ρ3 _ _ (Step.same s) (sr3.grow s) (Rl.mkTup upd_same (Rls.mono (Step.same s) _ _ (ra.cut l k)))
  | loc n =>
    obtain ⟨a,rfl,ha⟩:=ru.loc_
    cases z:itemsOf st3 n with
    | none => simp only [slV,z] at h3; exact h3.elim
    | some us =>
      simp only [slV,z] at h3
      obtain ⟨vs,hs,rv⟩:=itemsOf_sq sr3 z ha
      refine .inl ⟨a,vs,rfl,hs,fun p hp => ?_⟩
      obtain ⟨k1,k2,k3⟩:=new_lst sr3 (rv.cut l k) hp
      exact h3 _ _ _ k1 k2 k3
  | _ => exact h3.elim
end
noncomputable def mMt0 (f:FM) (o:ME):ME:=fun μ st => (o μ st).bind fun x st1 => if isLst st1 x = true then f x [] st1 else .bad
noncomputable def popF:FM
  | .loc n,[],st => match st[n]? with
    | some (.lst us) => match us[us.length - 1]? with
      | some u => .ok u (st.set n (.lst us.dropLast))
      | none => .bad
    | _ => .bad
  | _,_,_ => .bad
noncomputable def extendF:FM
  | .loc n,[.loc m],st => match st[n]?,st[m]? with
    | some (.lst us),some (.lst ws) => if us.length + ws.length ≤ sizeLine then .ok .non (st.set n (.lst (us ++ ws))) else .bad
    | _,_ => .bad
  | _,_,_ => .bad
section
variable {X:Cx} {E:XK} {o:Expr} {mo:ME} {apos cpos:Pos} {f:FM}
end
noncomputable def setF (o i v:Val) (st:Store):Option Store:=match o,i with
  | .loc n,.int k => match st[n]? with
    | some (.lst us) => (L2.ixN us.length k).map fun j => st.set n (.lst (us.set j v))
    | _ => none
  | _,_ => none
noncomputable def nxO (μ:Env):Option Store → SRes
  | some st => .nx μ st
  | none => .bad
noncomputable def sSetI (o i v:ME):MB:=fun μ st => (v μ st).sb μ fun x st1 => (o μ st1).sb μ fun y st2 => (i μ st2).sb μ fun z st3 => nxO μ (setF y z x st3)
noncomputable def iadV:F2:=int2 fun i j st => .ok (.int (i + j)) st
noncomputable def isbV:F2:=int2 fun i j st => .ok (.int (i - j)) st
noncomputable def ixL:F2
  | .loc n,.int i,st => match itemsOf st n with
    | some us => match L2.atI us i with
      | some v => .ok v st
      | none => .bad
    | none => .bad
  | _,_,_ => .bad
noncomputable def sAugI (f:F2) (o i e:ME):MB:=fun μ st => (o μ st).sb μ fun y st1 => (i μ st1).sb μ fun z st2 => (ixL y z st2).sb μ fun x st3 => (e μ st3).sb μ fun w st4 => (f x w st4).sb μ fun r st5 => nxO μ (setF y z r st5)
noncomputable def sAug (k:Nat) (f:F2) (e:ME):MB:=fun μ st => (mVar k μ st).sb μ fun x st1 => (e μ st1).sb μ fun w st2 => (f x w st2).sb μ fun r st3 => .nx (μ.set k (some r)) st3
section
variable {X:Cx} {E:XK} {o i v:Expr} {mo mi mv:ME} {pos tpos:Pos} {f:F2}
end
noncomputable def downL (hi:Int) (n:Nat):List Val:=(List.range n).map fun (i:Nat) => Val.int (hi - (i:Int))
noncomputable def dwnK (vs:List Val) (st':Store):Res Itm:=match vs with
  | [.int i,.int j,.int k] => if k = -1 ∧ -(2 ^ 62) ≤ i ∧ i < 2 ^ 62 ∧ -(2 ^ 62) ≤ j ∧ j < 2 ^ 62 then .ok (downL i (i - j).toNat,fun _ => True) st' else .bad
  | _ => .bad
noncomputable def iDownM (m:MA):MI:=fun μ st => (m μ st).bind dwnK
noncomputable def revK (vs:List Val) (st':Store):Res Itm:=match vs with
  | [.loc n] => match itemsOf st' n with
    | some us => .ok (us.reverse,fun st2 => itemsOf st2 n = some us) st'
    | none => .bad
  | _ => .bad
noncomputable def iRevM (m:MA):MI:=fun μ st => (m μ st).bind revK
noncomputable def enumL:Nat → List Val → List Val
  | _,[] => []
  | i,u :: us => .tup [.int i,u] :: enumL (i + 1) us
noncomputable def enuK (vs:List Val) (st':Store):Res Itm:=match vs with
  | [.loc n] => match itemsOf st' n with
    | some us => .ok (enumL 0 us,fun st2 => itemsOf st2 n = some us) st'
    | none => .bad
  | _ => .bad
noncomputable def iEnumM (m:MA):MI:=fun μ st => (m μ st).bind enuK
section
variable {X:Cx} {E:XK} {tg:Expr} {pos p:Pos}
end
noncomputable def maxF:FN
  | [.int i,.int j],st => .ok (.int (if j > i then j else i)) st
  | _,_ => .bad
noncomputable def intF:FN
  | [.bl b],st => .ok (.int (if b then 1 else 0)) st
  | _,_ => .bad
section
variable {X:Cx} {E:XK}
end
section
variable {X:Cx} {E:XK} {o e:Expr} {es:List Expr} {mo:ME} {ms:MA} {apos cpos:Pos}
theorem me_append (ho:PE X o (tE X E mo)) (ha:PA X (e :: es) (tL X E ms))
    (hbase:attributeBase o "append" X.env (eval o X.env) = eval o X.env:=by rfl)
    (hfew:((backTo cpos (starEach (e :: es) X.env)).all (fun x => !x.1) && (backToKw cpos (keywordEach [] X.env)).all (fun x => x.1.isSome)
      && decide ((e :: es).length + ([]:List Keyword).length + (if ([]:List Keyword).isEmpty then 0 else 1) < 30)) = true:=by rfl)
    (hline:(apos.endLine == cpos.line) = true:=by rfl) (hs:starEach (e :: es) X.env = (false,eval e X.env) :: starEach es X.env:=by rfl) (hplain:(backTo cpos (starEach es X.env)).any (·.1) = false:=by rfl) :
    PE X (.Call (.Attribute o "append" apos) (e :: es) [] cpos) (tE X E (mMtL appendF mo ms)):=me_mtL PySem.F.slot_list_append PySem.F.type_list_append mt_appendM ho ha hbase hfew hline hs hplain
end
end MN
namespace MN
open PySem PySem.Spec L2
open PyProof.Rows hiding St
theorem capsR {X:Cx} {N:List Str} {scope:Scope} {k:Nat} {cl cl':List (Str × Addr)} {caps caps':List Nat} (clos:closureFor scope X.env = pure cl') (A:CapAll X scope cl caps) (B:CapAll X scope cl' caps') (has:((relabel scope X.env).names.all fun p => !(p.2 == .cell || p.2 == .free) || (cl'.map (·.1)).contains p.1) = true)
    (nocell:(scope.names.all fun p => !(p.2 == .cell)) = true) (kind:scope.kind = .function) (names:(scope.names.all fun p => !(p.2 == .local) || scope.names.lookup p.1 == some .local) = true) (len:N.length = k + caps.length) (hN:N.drop k = cl.map (·.1)):Caps X N scope cl' k caps where
  clos:=clos
  sub:=B.sub
  has:=fun x h => by
    have m:x ∈ cl'.map (·.1):=by
      rcases h with h | h <;> (have m:=PySem.mem_of_lookup h; have z:=List.all_eq_true.mp has _ m; simpa using z)
    exact lookup_of_mem m
  nocell:=fun x hx h => by
    have z:=List.all_eq_true.mp nocell x hx
    simp [h] at z
  kind:=kind
  names:=fun x hx h => by
    have z:=List.all_eq_true.mp names x hx
    simpa [h] using z
  len:=len
  at_:=fun i j x h1 h2 => A.at_ i j x h1 (by rw [← hN,List.getElem?_drop]; exact h2)
theorem len0 {C:List Value → Prop} (h:C []) (us:List Value) (hl:us.length = 0):C us:=by
  rw [List.eq_nil_of_length_eq_zero hl]
  exact h
theorem lenS {C:List Value → Prop} {n:Nat} (h:∀ a (r:List Value),r.length = n → C (a :: r)) (us:List Value) (hl:us.length = n + 1):C us:=by
  cases us with
  | nil => cases hl
  | cons a r => exact h a r (Nat.succ.inj hl)
theorem len1 {C:List Value → Prop} (h:∀ a,C [a]):∀ us:List Value,us.length = 1 → C us:=lenS fun a => len0 (C:=fun r => C (a :: r)) (h a)
theorem len2 {C:List Value → Prop} (h:∀ a b,C [a,b]):∀ us:List Value,us.length = 2 → C us:=lenS fun a => len1 (C:=fun r => C (a :: r)) (h a)
theorem len3 {C:List Value → Prop} (h:∀ a b c,C [a,b,c]):∀ us:List Value,us.length = 3 → C us:=lenS fun a => len2 (C:=fun r => C (a :: r)) (h a)
theorem len4 {C:List Value → Prop} (h:∀ a b c d,C [a,b,c,d]):∀ us:List Value,us.length = 4 → C us:=lenS fun a => len3 (C:=fun r => C (a :: r)) (h a)
theorem len5 {C:List Value → Prop} (h:∀ a b c d e,C [a,b,c,d,e]):∀ us:List Value,us.length = 5 → C us:=lenS fun a => len4 (C:=fun r => C (a :: r)) (h a)
end MN
namespace L2
open PySem PySem.Spec PyProof.Rows PySem.W Builtin Builtin.ObjectAttr Builtin.Getset_descriptor PySem.Calls
section
variable {prog:Program} {w:World} {A:Around} {E:Value → Shared → Prop} {s:Shared} {K:PySem.W.Frag} {x C:Addr} {ox:Obj} {R:Result → Shared → Prop}
end
section
variable {X:Cx}
end
end L2
namespace MN
open PySem PySem.Spec L2
open PyProof.Rows hiding St
inductive Cls (mg:Str → Option Value):List Str → List Addr → Prop
  | nil:Cls mg [] []
  | cons {x:Str} {C:Addr} {xs:List Str} {cs:List Addr} (h:mg x = some (.ref C)) (r:Cls mg xs cs):Cls mg (x :: xs) (C :: cs)
section
variable {X:Cx} {E:XK} {pos p q1 tpos:Pos} {n:Str} {i:Nat} {tab:List (Str × Str × Bool)} {qs xs:List Str} {es:List Expr} {cx:Nat}
end
end MN
namespace PM
open PySem PySem.Spec L2 MN
open PyProof.Rows hiding St
noncomputable def FIRST_PRIMES:Val:=.mt ([2,3,5,7,11,13,17,19,23,29,31].map Val.int)
noncomputable def is_whole:FN:=fnM 1 1 (sRet (mAnd (mIs "int" (mVar 0)) (mNot (mIs "bool" (mVar 0)))))
noncomputable def is_prime_within:FN:=fnM 1 1 (sSeq (sIf (asT (mBin (inW false) (mVar 0) (mC PM.FIRST_PRIMES))) (sRet (mC (.bl true))) sNext) (sSeq (sIf (tOrM (asT (mBin ltV (mVar 0) (mC (.int 2)))) (asT (mBin gtV (mVar 0) (mC (.int 997))))) (sRet (mC (.bl false))) sNext) (sRet (mCall allF (mCons (mComp 1 [0] (iSeq (mC PM.FIRST_PRIMES)) (aName 0) tTrueM (mBin neM (mBin modV (mVar 1) (mVar 0)) (mC (.int 0)))) mNil)))))
noncomputable def rest_in_ring:FN:=fnM 2 2 (sRet (mIf (asT (mBin eqM (mVar 0) (mC (.int 0)))) (mVar 1) (mBin modV (mVar 1) (mVar 0))))
noncomputable def signed_unit:FN:=fnM 1 1 (sRet (mIf (asT (mBin ltV (mVar 0) (mC (.int 0)))) (mNeg (mC (.int 1))) (mC (.int 1))))
noncomputable def whole_inverse:FN:=fnM 1 1 (sSeq (sIf (asT (mBin neM (mCall absF (mCons (mVar 0) mNil)) (mC (.int 1)))) (sRaise "NoInverse" (mCons (mC (.str "only 1 and -1 have an inverse among the whole numbers")) mNil)) sNext) (sRet (mVar 0)))
noncomputable def whole_over:FN:=fnM 2 2 (sSeq (sIf (asT (mBin eqM (mVar 1) (mC (.int 0)))) (sRaise "NoInverse" (mCons (mC (.str "nothing is divided by nought")) mNil)) sNext) (sSeq (sIf (asT (mBin neM (mBin modV (mVar 0) (mVar 1)) (mC (.int 0)))) (sRaise "NotWhole" (mCons (mC (.str "no whole number makes the first one of the second")) mNil)) sNext) (sRet (mBin fdivV (mVar 0) (mVar 1)))))
noncomputable def law_cell_at:FN:=fnM 2 6 (sSeq (sSet 2 (mC (.int 0))) (sSeq (sIf (asT (mBin ltV (mVar 1) (mCall lenF (mCons (mVar 0) mNil)))) (sSet 2 (mBin ixV (mVar 0) (mVar 1))) sNext) (sSeq (sSet 3 (mBin modV (mBin addV (mBin addV (mBin addV (mBin mulV (mVar 2) (mC (.int 48271))) (mBin mulV (mBin mulV (mC (.int 7919)) (mVar 1)) (mVar 1))) (mBin mulV (mC (.int 104729)) (mVar 1))) (mC (.int 11))) (mC (.int 2147483647)))) (sSeq (sSet 4 (mC (.int 0))) (sSeq (sFor (iRange1 (mCons (mC (.int 6)) mNil)) (aName 5) (sSeq (sSet 3 (mBin modV (mBin addV (mBin mulV (mBin modV (mBin mulV (mVar 3) (mVar 3)) (mC (.int 2147483629))) (mC (.int 69621))) (mVar 5)) (mC (.int 2147483647)))) (sSet 4 (mBin addV (mBin mulV (mVar 4) (mC (.int 2147483647))) (mVar 3))))) (sRet (mVar 4)))))))
noncomputable def is_ring:FN:=fnM 1 1 (sRet (mAnd (mCall PM.is_whole (mCons (mVar 0) mNil)) (mOr (mBin eqM (mVar 0) (mC (.int 0))) (mCall PM.is_prime_within (mCons (mVar 0) mNil)))))
noncomputable def shared:FN:=fnM 2 6 (sSeq (sSet 2 (mTup (mCons (mCall absF (mCons (mVar 0) mNil)) (mCons (mCall PM.signed_unit (mCons (mVar 0) mNil)) (mCons (mC (.int 0)) mNil))))) (sSeq (sSet 3 (mTup (mCons (mCall absF (mCons (mVar 1) mNil)) (mCons (mC (.int 0)) (mCons (mCall PM.signed_unit (mCons (mVar 1) mNil)) mNil))))) (sSeq (sWhile (asT (mBin neM (mBin ixV (mVar 3) (mC (.int 0))) (mC (.int 0)))) (sSeq (sSet 4 (mBin fdivV (mBin ixV (mVar 2) (mC (.int 0))) (mBin ixV (mVar 3) (mC (.int 0))))) (sSeq (sSet 5 (mCall tupF (mCons (mComp 2 [4] (iZip2 false false (mCons (mVar 2) (mCons (mVar 3) mNil))) (aTup [(aName 0),(aName 1)]) tTrueM (mBin subV (mVar 0) (mBin mulV (mVar 2) (mVar 1)))) mNil))) (sSeq (sSet 2 (mVar 3)) (sSet 3 (mVar 5)))))) (sRet (mVar 2)))))
noncomputable def check_ring:FN:=fnM 1 1 (sIf (tNotM (asT (mCall PM.is_ring (mCons (mVar 0) mNil)))) (sRaise "NoRing" (mCons (mC (.str "a ring is 0 or a prime from 2 to 997")) mNil)) sNext)
noncomputable def inverse:FN:=fnM 2 2 (sSeq (sExpr (mCall PM.check_ring (mCons (mVar 0) mNil))) (sSeq (sIf (asT (mBin eqM (mVar 0) (mC (.int 0)))) (sRet (mCall PM.whole_inverse (mCons (mVar 1) mNil))) sNext) (sSeq (sIf (asT (mBin eqM (mBin modV (mVar 1) (mVar 0)) (mC (.int 0)))) (sRaise "NoInverse" (mCons (mC (.str "a multiple of the prime has no inverse")) mNil)) sNext) (sRet (mBin modV (mBin ixV (mCall PM.shared (mCons (mBin modV (mVar 1) (mVar 0)) (mCons (mVar 0) mNil))) (mC (.int 1))) (mVar 0))))))
noncomputable def over:FN:=fnM 3 3 (sSeq (sExpr (mCall PM.check_ring (mCons (mVar 0) mNil))) (sSeq (sIf (asT (mBin eqM (mVar 0) (mC (.int 0)))) (sRet (mCall PM.whole_over (mCons (mVar 1) (mCons (mVar 2) mNil)))) sNext) (sRet (mBin modV (mBin mulV (mVar 1) (mCall PM.inverse (mCons (mVar 0) (mCons (mVar 2) mNil)))) (mVar 0)))))
noncomputable def law_whole:FN:=fnM 1 1 (sRet (mAnd (mIs "int" (mVar 0)) (mNot (mIs "bool" (mVar 0)))))
noncomputable def law_prime:FN:=fnM 1 2 (sSeq (sIf (asT (mBin eqM (mBin modV (mVar 0) (mC (.int 2))) (mC (.int 0)))) (sRet (mBin ixV (mLst (mCons (mC (.int 2)) (mCons (mC (.int 3)) (mCons (mC (.int 5)) (mCons (mC (.int 7)) (mCons (mC (.int 11)) (mCons (mC (.int 13)) mNil))))))) (mBin modV (mBin fdivV (mVar 0) (mC (.int 2))) (mC (.int 6))))) sNext) (sSeq (sSet 1 (mBin addV (mC (.int 2)) (mBin modV (mBin fdivV (mVar 0) (mC (.int 2))) (mC (.int 996))))) (sSeq (sWhile (asT (mBin neM (mComp 1 [1] (iRange2 (mCons (mC (.int 2)) (mCons (mC (.int 32)) mNil))) (aName 0) (tAndM (asT (mBin ltV (mVar 0) (mVar 1))) (asT (mBin eqM (mBin modV (mVar 1) (mVar 0)) (mC (.int 0))))) (mVar 0)) (mLst mNil))) (sSet 1 (mBin addV (mVar 1) (mC (.int 1))))) (sRet (mVar 1)))))
noncomputable def law_number:FN:=fnM 1 1 (sSeq (sIf (asT (mBin eqM (mBin modV (mVar 0) (mC (.int 7))) (mC (.int 0)))) (sRet (mBin mulV (mBin subV (mC (.int 1)) (mBin mulV (mBin modV (mBin fdivV (mVar 0) (mC (.int 7))) (mC (.int 2))) (mC (.int 2)))) (mBin modV (mBin fdivV (mVar 0) (mC (.int 14))) (mBin powV (mC (.int 10)) (mC (.int 40)))))) sNext) (sRet (mBin subV (mBin modV (mBin fdivV (mVar 0) (mC (.int 7))) (mC (.int 19))) (mC (.int 9)))))
noncomputable def law_ring:FN:=fnM 1 1 (sSeq (sIf (asT (mBin eqM (mBin modV (mVar 0) (mC (.int 3))) (mC (.int 0)))) (sRet (mC (.int 0))) sNext) (sRet (mCall PM.law_prime (mCons (mBin fdivV (mVar 0) (mC (.int 3))) mNil))))
noncomputable def law_t7:MB:=(sRet (mAnd (mBin eqM (mBin modV (mVar 1) (mBin ixV (mVar 4) (mC (.int 0)))) (mC (.int 0))) (mBin eqM (mBin modV (mVar 2) (mBin ixV (mVar 4) (mC (.int 0)))) (mC (.int 0)))))
noncomputable def law_t6:MB:=(sSeq (sIf (asT (mBin eqM (mBin ixV (mVar 4) (mC (.int 0))) (mC (.int 0)))) (sRet (mAnd (mBin eqM (mVar 1) (mC (.int 0))) (mBin eqM (mVar 2) (mC (.int 0))))) sNext) PM.law_t7)
noncomputable def law_t5:MB:=(sSeq (sIf (tOrM (asT (mBin neM (mBin addV (mBin mulV (mBin ixV (mVar 4) (mC (.int 1))) (mVar 1)) (mBin mulV (mBin ixV (mVar 4) (mC (.int 2))) (mVar 2))) (mBin ixV (mVar 4) (mC (.int 0))))) (asT (mBin ltV (mBin ixV (mVar 4) (mC (.int 0))) (mC (.int 0))))) (sRet (mC (.bl false))) sNext) PM.law_t6)
noncomputable def law_t4:MB:=(sSeq (sIf (tOrM (tNotM (asT (mIs "tuple" (mVar 4)))) (tOrM (asT (mBin neM (mCall lenF (mCons (mVar 4) mNil)) (mC (.int 3)))) (asT (mBin neM (mComp 1 [] (iSeq (mVar 4)) (aName 0) (tNotM (asT (mCall PM.law_whole (mCons (mVar 0) mNil)))) (mVar 0)) (mLst mNil))))) (sRet (mC (.bl false))) sNext) PM.law_t5)
noncomputable def law_t3:MB:=(sSeq (sSet 4 (mCall PM.shared (mCons (mVar 1) (mCons (mVar 2) mNil)))) PM.law_t4)
noncomputable def law_t2:MB:=(sSeq (sIf (asT (mBin eqM (mBin modV (mCall PM.law_cell_at (mCons (mVar 0) (mCons (mC (.int 2)) mNil))) (mC (.int 2))) (mC (.int 1)))) (sSeq (sSet 3 (mCall PM.law_number (mCons (mBin fdivV (mCall PM.law_cell_at (mCons (mVar 0) (mCons (mC (.int 2)) mNil))) (mC (.int 2))) mNil))) (sSeq (sSet 1 (mBin mulV (mVar 1) (mVar 3))) (sSet 2 (mBin mulV (mVar 2) (mVar 3))))) sNext) PM.law_t3)
noncomputable def law_t1:MB:=(sSeq (sSet 2 (mCall PM.law_number (mCons (mCall PM.law_cell_at (mCons (mVar 0) (mCons (mC (.int 1)) mNil))) mNil))) PM.law_t2)
noncomputable def law:FN:=fnM 1 5 (sSeq (sSet 1 (mCall PM.law_number (mCons (mCall PM.law_cell_at (mCons (mVar 0) (mCons (mC (.int 0)) mNil))) mNil))) PM.law_t1)
end PM
namespace PM
open PySem PySem.Spec L2 MN
open PyProof.Rows hiding St
noncomputable def row_of_rests:FN:=fnM 2 3 (sSeq (sSet 2 (mComp 1 [0] (iSeq (mVar 1)) (aName 0) tTrueM (mBin modV (mVar 0) (mVar 1)))) (sSeq (sWhile (tAndM (asT (mBin gtV (mCall lenF (mCons (mVar 2) mNil)) (mC (.int 0)))) (asT (mBin eqM (mBin ixV (mVar 2) (mNeg (mC (.int 1)))) (mC (.int 0))))) (sExpr (mMt0 popF (mVar 2)))) (sRet (mVar 2))))
noncomputable def check_prime:FN:=fnM 1 1 (sIf (tOrM (tNotM (asT (mCall PM.is_ring (mCons (mVar 0) mNil)))) (asT (mBin eqM (mVar 0) (mC (.int 0))))) (sRaise "NoPrime" (mCons (mC (.str "a prime is one from 2 to 997")) mNil)) sNext)
noncomputable def with_noughts:FN:=fnM 2 2 (sRet (mBin addV (mCall lstF (mCons (mVar 0) mNil)) (mBin mulV (mLst (mCons (mC (.int 0)) mNil)) (mBin subV (mVar 1) (mCall lenF (mCons (mVar 0) mNil))))))
noncomputable def row_with_multiple:FN:=fnM 4 6 (sSeq (sSet 4 (mCall maxF (mCons (mCall lenF (mCons (mVar 1) mNil)) (mCons (mCall lenF (mCons (mVar 2) mNil)) mNil)))) (sSeq (sSet 5 (mCall PM.with_noughts (mCons (mVar 1) (mCons (mVar 4) mNil)))) (sRet (mCall PM.row_of_rests (mCons (mVar 0) (mCons (mComp 2 [3] (iZip2 true true (mCons (mVar 5) (mCons (mCall PM.with_noughts (mCons (mVar 2) (mCons (mVar 4) mNil))) mNil))) (aTup [(aName 0),(aName 1)]) tTrueM (mBin addV (mVar 0) (mBin mulV (mVar 2) (mVar 1)))) mNil))))))
noncomputable def row_product:FN:=fnM 3 8 (sSeq (sIf (tOrM (asT (mBin eqM (mCall lenF (mCons (mVar 1) mNil)) (mC (.int 0)))) (asT (mBin eqM (mCall lenF (mCons (mVar 2) mNil)) (mC (.int 0))))) (sRet (mLst mNil)) sNext) (sSeq (sSet 3 (mBin mulV (mLst (mCons (mC (.int 0)) mNil)) (mBin subV (mBin addV (mCall lenF (mCons (mVar 1) mNil)) (mCall lenF (mCons (mVar 2) mNil))) (mC (.int 1))))) (sSeq (sFor (iEnumM (mCons (mVar 1) mNil)) (aTup [(aName 4),(aName 5)]) (sFor (iEnumM (mCons (mVar 2) mNil)) (aTup [(aName 6),(aName 7)]) (sAugI iadV (mVar 3) (mBin addV (mVar 4) (mVar 6)) (mBin mulV (mVar 5) (mVar 7))))) (sRet (mCall PM.row_of_rests (mCons (mVar 0) (mCons (mVar 3) mNil)))))))
noncomputable def row_multiple:FN:=fnM 3 3 (sRet (mCall PM.row_of_rests (mCons (mVar 0) (mCons (mComp 1 [2] (iSeq (mVar 1)) (aName 0) tTrueM (mBin mulV (mVar 0) (mVar 1))) mNil))))
end PM
namespace PM
open PySem PySem.Spec L2 MN
open PyProof.Rows hiding St
noncomputable def parted:FN:=fnM 3 11 (sSeq (sSet 3 (mCall lstF (mCons (mVar 1) mNil))) (sSeq (sSet 4 (mCall PM.inverse (mCons (mVar 0) (mCons (mBin ixV (mVar 2) (mNeg (mC (.int 1)))) mNil)))) (sSeq (sSet 5 (mCall maxF (mCons (mC (.int 0)) (mCons (mBin addV (mBin subV (mCall lenF (mCons (mVar 1) mNil)) (mCall lenF (mCons (mVar 2) mNil))) (mC (.int 1))) mNil)))) (sSeq (sSet 6 (mBin mulV (mLst (mCons (mC (.int 0)) mNil)) (mVar 5))) (sSeq (sFor (iDownM (mCons (mBin subV (mVar 5) (mC (.int 1))) (mCons (mNeg (mC (.int 1))) (mCons (mNeg (mC (.int 1))) mNil)))) (aName 7) (sSeq (sSet 8 (mBin modV (mBin mulV (mBin ixV (mVar 3) (mBin subV (mBin addV (mVar 7) (mCall lenF (mCons (mVar 2) mNil))) (mC (.int 1)))) (mVar 4)) (mVar 0))) (sSeq (sSetI (mVar 6) (mVar 7) (mVar 8)) (sFor (iEnumM (mCons (mVar 2) mNil)) (aTup [(aName 9),(aName 10)]) (sAugI isbV (mVar 3) (mBin addV (mVar 7) (mVar 9)) (mBin mulV (mVar 8) (mVar 10))))))) (sRet (mTup (mCons (mCall PM.row_of_rests (mCons (mVar 0) (mCons (mVar 6) mNil))) (mCons (mCall PM.row_of_rests (mCons (mVar 0) (mCons (mVar 3) mNil))) mNil)))))))))
noncomputable def divided:FN:=fnM 3 3 (sSeq (sExpr (mCall PM.check_prime (mCons (mVar 0) mNil))) (sSeq (sIf (asT (mBin eqM (mCall lenF (mCons (mVar 2) mNil)) (mC (.int 0)))) (sRaise "ByNought" (mCons (mC (.str "no row is divided by nought")) mNil)) sNext) (sRet (mCall PM.parted (mCons (mVar 0) (mCons (mVar 1) (mCons (mVar 2) mNil)))))))
noncomputable def triple_below:FN:=fnM 3 5 (sSeq (sSet 3 (mCall PM.parted (mCons (mVar 0) (mCons (mBin ixV (mVar 1) (mC (.int 0))) (mCons (mBin ixV (mVar 2) (mC (.int 0))) mNil))))) (sSeq (sSet 4 (mComp 1 [2,3,0] (iSeq (mTup (mCons (mC (.int 1)) (mCons (mC (.int 2)) mNil)))) (aName 0) tTrueM (mCall PM.row_product (mCons (mVar 3) (mCons (mBin ixV (mVar 2) (mC (.int 0))) (mCons (mBin ixV (mVar 1) (mVar 0)) mNil)))))) (sRet (mTup (mCons (mBin ixV (mVar 3) (mC (.int 1))) (mCons (mCall PM.row_with_multiple (mCons (mVar 0) (mCons (mBin ixV (mVar 1) (mC (.int 1))) (mCons (mBin ixV (mVar 4) (mC (.int 0))) (mCons (mNeg (mC (.int 1))) mNil))))) (mCons (mCall PM.row_with_multiple (mCons (mVar 0) (mCons (mBin ixV (mVar 1) (mC (.int 2))) (mCons (mBin ixV (mVar 4) (mC (.int 1))) (mCons (mNeg (mC (.int 1))) mNil))))) mNil)))))))
noncomputable def met:FN:=fnM 3 10 (sSeq (sSet 3 (mTup (mCons (mVar 1) (mCons (mLst (mCons (mC (.int 1)) mNil)) (mCons (mLst mNil) mNil))))) (sSeq (sSet 4 (mTup (mCons (mVar 2) (mCons (mLst mNil) (mCons (mLst (mCons (mC (.int 1)) mNil)) mNil))))) (sSeq (sWhile (asT (mBin gtV (mCall lenF (mCons (mBin ixV (mVar 4) (mC (.int 0))) mNil)) (mC (.int 0)))) (sSeq (sSet 5 (mCall PM.triple_below (mCons (mVar 0) (mCons (mVar 3) (mCons (mVar 4) mNil))))) (sSeq (sSet 3 (mVar 4)) (sSet 4 (mVar 5))))) (sSeq (sSet 6 (mCall PM.inverse (mCons (mVar 0) (mCons (mBin ixV (mBin ixV (mVar 3) (mC (.int 0))) (mNeg (mC (.int 1)))) mNil)))) (sSeq (sSet 7 (mCall PM.row_multiple (mCons (mVar 0) (mCons (mBin ixV (mVar 3) (mC (.int 0))) (mCons (mVar 6) mNil))))) (sSeq (sSet 8 (mBin ixV (mCall PM.parted (mCons (mVar 0) (mCons (mVar 1) (mCons (mVar 7) mNil)))) (mC (.int 0)))) (sSeq (sSet 9 (mBin ixV (mCall PM.parted (mCons (mVar 0) (mCons (mVar 2) (mCons (mVar 7) mNil)))) (mC (.int 0)))) (sRet (mTup (mCons (mVar 7) (mCons (mVar 8) (mCons (mVar 9) (mCons (mCall PM.row_multiple (mCons (mVar 0) (mCons (mBin ixV (mVar 3) (mC (.int 1))) (mCons (mVar 6) mNil)))) (mCons (mCall PM.row_multiple (mCons (mVar 0) (mCons (mBin ixV (mVar 3) (mC (.int 2))) (mCons (mVar 6) mNil)))) mNil))))))))))))))
end PM
namespace MN
open PySem PySem.Spec L2
open PyProof.Rows hiding St
theorem forL_inv {g:Store → Prop} {a:AS} {body:MB} (P:Nat → Env → Store → Prop):∀ (us:List Val) (k:Nat) (μ:Env) (st:Store),
    (∀ (i:Nat) (u:Val) (μ:Env) (st:Store),us[i]? = some u → P (k + i) μ st → g st ∧ ∃ μ1,a u μ = some μ1 ∧ ∃ μ' st',(body μ1 st = .nx μ' st' ∨ body μ1 st = .ct μ' st') ∧ P (k + i + 1) μ' st') →
    (∀ μ st,P (k + us.length) μ st → g st) → P k μ st → ∃ μ' st',forL g a body us μ st = .nx μ' st' ∧ P (k + us.length) μ' st'
  | [],k,μ,st,_,he,h => by
    refine ⟨μ,st,?_,h⟩
    unfold forL
    rw [if_pos (he μ st h)]
  | u :: us,k,μ,st,hs,he,h => by
    obtain ⟨hg,μ1,ha,μ',st',hb,hP⟩:=hs 0 u μ st rfl h
    have ih:=forL_inv (a:=a) (body:=body) P us (k + 1) μ' st' (fun i v μ2 st2 hv hp => by
      have:=hs (i + 1) v μ2 st2 hv (by rw [show k + (i + 1) = k + 1 + i by omega]; exact hp)
      rw [show k + (i + 1) + 1 = k + 1 + i + 1 by omega] at this
      exact this) (fun μ2 st2 hp => he μ2 st2 (by rw [List.length_cons,show k + (us.length + 1) = k + 1 + us.length by omega]; exact hp)) hP
    obtain ⟨μ2,st2,e2,p2⟩:=ih
    refine ⟨μ2,st2,?_,by rw [List.length_cons,show k + (us.length + 1) = k + 1 + us.length by omega]; exact p2⟩
    unfold forL
    rw [if_pos hg,ha]
    rcases hb with hb | hb <;> (dsimp only; rw [hb]; exact e2)
theorem compL_pure {g:Store → Prop} {a:AS} {c:MT} {e:ME} {st:Store} (hg:g st) (I:Env → Prop) (p:Val → Bool) (f:Val → Val):∀ (us:List Val) (τ:Env) (ys:List Val),I τ →
    (∀ u ∈ us,∀ τ,I τ → ∃ τ1,a u τ = some τ1 ∧ I τ1 ∧ c τ1 st = .ok (p u) st ∧ (p u = true → e τ1 st = .ok (f u) st)) → compL g a c e us τ st ys = .ok (ys ++ (us.filter p).map f) st
  | [],τ,ys,_,_ => by
    unfold compL
    rw [if_pos hg]; simp
  | u :: us,τ,ys,hI,hs => by
    obtain ⟨τ1,h1,h2,h3,h4⟩:=hs u List.mem_cons_self τ hI
    have hs':=fun v hv => hs v (List.mem_cons_of_mem u hv)
    unfold compL
    rw [if_pos hg,h1]
    dsimp only
    rw [h3]
    cases z:p u with
    | true =>
      dsimp only
      rw [h4 z]
      dsimp only
      rw [compL_pure hg I p f us τ1 _ h2 hs',List.filter_cons_of_pos z]
      simp
    | false =>
      dsimp only
      rw [compL_pure hg I p f us τ1 _ h2 hs',List.filter_cons_of_neg (by rw [z]; simp)]
theorem itemsOf_new (st:Store) (us:List Val):itemsOf (st ++ [.lst us]) st.length = some us:=by
  unfold itemsOf
  rw [List.getElem?_append_right (Nat.le_refl _),Nat.sub_self]; rfl
theorem itemsOf_old {st:Store} {n:Nat} {us:List Val} (h:itemsOf st n = some us) (more:Store):itemsOf (st ++ more) n = some us:=by
  have hn:n < st.length:=by
    rcases Nat.lt_or_ge n st.length with q | q
    · exact q
    · unfold itemsOf at h; rw [List.getElem?_eq_none q] at h; cases h
  unfold itemsOf at h ⊢
  rw [List.getElem?_append_left hn]; exact h
theorem whileN_inv {t:MT} {body:MB} (P:Env → Store → Prop) (M:Env → Store → Nat) (Q:Env → Store → Prop)
    (hs:∀ μ st,P μ st → (∃ st1,t μ st = .ok false st1 ∧ Q μ st1) ∨ ∃ st1 μ' st',t μ st = .ok true st1 ∧ (body μ st1 = .nx μ' st' ∨ body μ st1 = .ct μ' st') ∧ P μ' st' ∧ M μ' st' < M μ st) :
    ∀ (n:Nat) (μ:Env) (st:Store),M μ st < n → P μ st → ∃ μ' st',whileN t body n μ st = some (.nx μ' st') ∧ Q μ' st'
  | 0,μ,st,h,_ => absurd h (Nat.not_lt_zero _)
  | n + 1,μ,st,h,hp => by
    unfold whileN
    rcases hs μ st hp with ⟨st1,e,q⟩ | ⟨st1,μ',st',e,hb,p',lt⟩
    · rw [e]; exact ⟨μ,st1,rfl,q⟩
    · rw [e]
      dsimp only
      obtain ⟨μ2,st2,e2,q2⟩:=whileN_inv P M Q hs n μ' st' (by omega) p'
      rcases hb with hb | hb <;> (rw [hb]; exact ⟨μ2,st2,e2,q2⟩)
theorem sWhile_inv {t:MT} {body:MB} (P:Env → Store → Prop) (M:Env → Store → Nat) (Q:Env → Store → Prop)
    (hs:∀ μ st,P μ st → (∃ st1,t μ st = .ok false st1 ∧ Q μ st1) ∨ ∃ st1 μ' st',t μ st = .ok true st1 ∧ (body μ st1 = .nx μ' st' ∨ body μ st1 = .ct μ' st') ∧ P μ' st' ∧ M μ' st' < M μ st)
    (μ:Env) (st:Store) (hp:P μ st):∃ μ' st',sWhile t body μ st = .nx μ' st' ∧ Q μ' st':=by
  obtain ⟨μ',st',e,q⟩:=whileN_inv P M Q hs (M μ st + 1) μ st (Nat.lt_succ_self _) hp
  exact ⟨μ',st',sWhile_of e,q⟩
end MN
namespace MN
open PySem PySem.Spec L2
open PyProof.Rows hiding St
noncomputable def Res.bnd {α β:Type} (r:Res α) (k:α → Store → Res β):Res β:=match r with
  | .ok a st => k a st
  | .err c st => .err c st
  | .bad => .bad
noncomputable def Res.sbn {α:Type} (r:Res α) (μ:Env) (k:α → Store → SRes):SRes:=match r with
  | .ok a st => k a st
  | .err c st => .er c μ st
  | .bad => .bad
noncomputable def SRes.thn (r:SRes) (k:MB):SRes:=match r with
  | .nx μ st => k μ st
  | .rt v st => .rt v st
  | .bk μ st => .bk μ st
  | .ct μ st => .ct μ st
  | .er c μ st => .er c μ st
  | .bad => .bad
noncomputable def SRes.fin (r:SRes):Res Val:=match r with
  | .nx _ st' => .ok .non st'
  | .rt v st' => .ok v st'
  | .er c _ st' => .err c st'
  | _ => .bad
section
variable {α β:Type} {μ:Env} {st:Store}
theorem bnd_ok {a:α} {k:α → Store → Res β}:(Res.ok a st).bnd k = k a st:=rfl
theorem bnd_err {c:Str} {k:α → Store → Res β}:(Res.err c st:Res α).bnd k = .err c st:=rfl
theorem bnd_bad {k:α → Store → Res β}:(Res.bad:Res α).bnd k = .bad:=rfl
theorem sbn_ok {a:α} {k:α → Store → SRes}:(Res.ok a st).sbn μ k = k a st:=rfl
theorem sbn_err {c:Str} {k:α → Store → SRes}:(Res.err c st:Res α).sbn μ k = .er c μ st:=rfl
theorem sbn_bad {k:α → Store → SRes}:(Res.bad:Res α).sbn μ k = .bad:=rfl
theorem thn_nx {k:MB}:(SRes.nx μ st).thn k = k μ st:=rfl
theorem thn_rt {v:Val} {k:MB}:(SRes.rt v st).thn k = .rt v st:=rfl
theorem thn_bk {k:MB}:(SRes.bk μ st).thn k = .bk μ st:=rfl
theorem thn_ct {k:MB}:(SRes.ct μ st).thn k = .ct μ st:=rfl
theorem thn_er {c:Str} {k:MB}:(SRes.er c μ st).thn k = .er c μ st:=rfl
theorem fin_nx:(SRes.nx μ st).fin = .ok .non st:=rfl
theorem fin_rt {v:Val}:(SRes.rt v st).fin = .ok v st:=rfl
theorem fin_er {c:Str}:(SRes.er c μ st).fin = .err c st:=rfl
theorem bind_bnd {r:Res α} {k:α → Store → Res β}:r.bind k = r.bnd k:=by cases r <;> rfl
variable {a b c:ME} {f g:F2} {t u:MT} {s1 s2:MB} {ms:MA} {i:Nat} {v:Val}
theorem bnd_eq {r:Res α} {k k':α → Store → Res β} (h:∀ a st,k a st = k' a st):r.bind k = r.bnd k':=by cases r <;> first | exact h _ _ | rfl
theorem sbn_eq {r:Res α} {k k':α → Store → SRes} (h:∀ a st,k a st = k' a st):r.sb μ k = r.sbn μ k':=by cases r <;> first | exact h _ _ | rfl
noncomputable def kBin2 (f:F2) (x:Val):Val → Store → Res Val:=fun y st => f x y st
noncomputable def kBin (f:F2) (b:ME) (μ:Env):Val → Store → Res Val:=fun x st => (b μ st).bnd (kBin2 f x)
theorem ev_bin:mBin f a b μ st = (a μ st).bnd (kBin f b μ):=bnd_eq fun _ _ => bnd_eq fun _ _ => rfl
theorem k_bin {x:Val}:kBin f b μ x st = (b μ st).bnd (kBin2 f x):=rfl
theorem k_bin2 {x y:Val}:kBin2 f x y st = f x y st:=rfl
theorem ev_C:mC v μ st = .ok v st:=rfl
noncomputable def asB:Val → Store → Res Bool
  | .bl b,st => .ok b st
  | _,_ => .bad
theorem asB_bl {b:Bool}:asB (.bl b) st = .ok b st:=rfl
theorem ev_asT:asT a μ st = (a μ st).bnd asB:=bnd_eq fun x _ => by cases x <;> rfl
noncomputable def kAnd (b:ME) (μ:Env):Val → Store → Res Val
  | .bl true,st => b μ st
  | .bl false,st => .ok (.bl false) st
  | _,_ => .bad
theorem ev_and:mAnd a b μ st = (a μ st).bnd (kAnd b μ):=bnd_eq fun x _ => by
  cases x <;> try rfl
  rename_i k; cases k <;> rfl
theorem k_and_t:kAnd b μ (.bl true) st = b μ st:=rfl
theorem k_and_f:kAnd b μ (.bl false) st = .ok (.bl false) st:=rfl
noncomputable def kOr (b:ME) (μ:Env):Val → Store → Res Val
  | .bl true,st => .ok (.bl true) st
  | .bl false,st => b μ st
  | _,_ => .bad
theorem ev_or:mOr a b μ st = (a μ st).bnd (kOr b μ):=bnd_eq fun x _ => by
  cases x <;> try rfl
  rename_i k; cases k <;> rfl
theorem k_or_t:kOr b μ (.bl true) st = .ok (.bl true) st:=rfl
theorem k_or_f:kOr b μ (.bl false) st = b μ st:=rfl
noncomputable def kNot:Val → Store → Res Val
  | .bl k,st => .ok (.bl (!k)) st
  | _,_ => .bad
theorem ev_not:mNot a μ st = (a μ st).bnd kNot:=bnd_eq fun x _ => by cases x <;> rfl
theorem k_not {k:Bool}:kNot (.bl k) st = .ok (.bl (!k)) st:=rfl
noncomputable def kTand (u:MT) (μ:Env):Bool → Store → Res Bool
  | true,st => u μ st
  | false,st => .ok false st
theorem ev_tand:tAndM t u μ st = (t μ st).bnd (kTand u μ):=bnd_eq fun x _ => by cases x <;> rfl
theorem k_tand_t:kTand u μ true st = u μ st:=rfl
theorem k_tand_f:kTand u μ false st = .ok false st:=rfl
noncomputable def kTor (u:MT) (μ:Env):Bool → Store → Res Bool
  | true,st => .ok true st
  | false,st => u μ st
theorem ev_tor:tOrM t u μ st = (t μ st).bnd (kTor u μ):=bnd_eq fun x _ => by cases x <;> rfl
theorem k_tor_t:kTor u μ true st = .ok true st:=rfl
theorem k_tor_f:kTor u μ false st = u μ st:=rfl
noncomputable def kTnot:Bool → Store → Res Bool:=fun k st => .ok (!k) st
theorem ev_tnot:tNotM t μ st = (t μ st).bnd kTnot:=bnd_eq fun _ _ => rfl
theorem k_tnot {k:Bool}:kTnot k st = .ok (!k) st:=rfl
noncomputable def kIfE (a b:ME) (μ:Env):Bool → Store → Res Val
  | true,st => a μ st
  | false,st => b μ st
theorem ev_if:mIf t a b μ st = (t μ st).bnd (kIfE a b μ):=bnd_eq fun x _ => by cases x <;> rfl
theorem k_ife_t:kIfE a b μ true st = a μ st:=rfl
theorem k_ife_f:kIfE a b μ false st = b μ st:=rfl
noncomputable def kCh2 (g:F2) (c:ME) (μ:Env) (y:Val):Val → Store → Res Val
  | .bl true,st => (c μ st).bnd (kBin2 g y)
  | .bl false,st => .ok (.bl false) st
  | _,_ => .bad
noncomputable def kCh1 (f g:F2) (c:ME) (μ:Env) (x:Val):Val → Store → Res Val:=fun y st => (f x y st).bnd (kCh2 g c μ y)
noncomputable def kCh (f g:F2) (b c:ME) (μ:Env):Val → Store → Res Val:=fun x st => (b μ st).bnd (kCh1 f g c μ x)
theorem ev_chain:mChain f g a b c μ st = (a μ st).bnd (kCh f g b c μ):=bnd_eq fun _ _ => bnd_eq fun _ _ => bnd_eq fun z _ => by
  cases z <;> try rfl
  rename_i k
  cases k
  · rfl
  · exact bnd_eq fun _ _ => rfl
theorem k_ch {x:Val}:kCh f g b c μ x st = (b μ st).bnd (kCh1 f g c μ x):=rfl
theorem k_ch1 {x y:Val}:kCh1 f g c μ x y st = (f x y st).bnd (kCh2 g c μ y):=rfl
theorem k_ch2_t {y:Val}:kCh2 g c μ y (.bl true) st = (c μ st).bnd (kBin2 g y):=rfl
theorem k_ch2_f {y:Val}:kCh2 g c μ y (.bl false) st = .ok (.bl false) st:=rfl
theorem ev_nil:mNil μ st = .ok [] st:=rfl
noncomputable def kCons2 (x:Val):List Val → Store → Res (List Val):=fun xs st => .ok (x :: xs) st
noncomputable def kCons (ms:MA) (μ:Env):Val → Store → Res (List Val):=fun x st => (ms μ st).bnd (kCons2 x)
theorem ev_cons:mCons a ms μ st = (a μ st).bnd (kCons ms μ):=bnd_eq fun _ _ => bnd_eq fun _ _ => rfl
theorem k_cons {x:Val}:kCons ms μ x st = (ms μ st).bnd (kCons2 x):=rfl
theorem k_cons2 {x:Val} {xs:List Val}:kCons2 x xs st = .ok (x :: xs) st:=rfl
noncomputable def kTup:List Val → Store → Res Val:=fun xs st => if xs.length ≤ sizeLine then .ok (.tup xs) st else .bad
theorem ev_tup:mTup ms μ st = (ms μ st).bnd kTup:=bnd_eq fun _ _ => rfl
theorem k_tup {xs:List Val}:kTup xs st = if xs.length ≤ sizeLine then .ok (.tup xs) st else .bad:=rfl
noncomputable def kLst:List Val → Store → Res Val:=fun xs st => if xs.length ≤ sizeLine then .ok (.loc st.length) (st ++ [.lst xs]) else .bad
theorem ev_lst:mLst ms μ st = (ms μ st).bnd kLst:=bnd_eq fun _ _ => rfl
theorem k_lst {xs:List Val}:kLst xs st = if xs.length ≤ sizeLine then .ok (.loc st.length) (st ++ [.lst xs]) else .bad:=rfl
theorem ev_call {h:FN}:mCall h ms μ st = (ms μ st).bnd h:=bnd_eq fun _ _ => rfl
noncomputable def negV:Val → Store → Res Val
  | .int i,st => .ok (.int (-i)) st
  | _,_ => .bad
theorem negV_int {i:Int}:negV (.int i) st = .ok (.int (-i)) st:=rfl
theorem ev_neg:mNeg a μ st = (a μ st).bnd negV:=bnd_eq fun x _ => by cases x <;> rfl
noncomputable def isOf (T:String) (v:Val) (st:Store):Res Val:=match isT T st v with
  | some b => .ok (.bl b) st
  | none => .bad
theorem ev_is {T:String}:mIs T a μ st = (a μ st).bnd (isOf T):=bnd_eq fun _ _ => rfl
theorem ev_seq:sSeq s1 s2 μ st = (s1 μ st).thn s2:=by
  unfold sSeq; cases s1 μ st <;> rfl
theorem ev_next:sNext μ st = .nx μ st:=rfl
noncomputable def kExpr (μ:Env):Val → Store → SRes:=fun _ st => .nx μ st
theorem ev_expr:sExpr a μ st = (a μ st).sbn μ (kExpr μ):=sbn_eq fun _ _ => rfl
theorem k_expr:kExpr μ v st = .nx μ st:=rfl
noncomputable def kRet:Val → Store → SRes:=fun v st => .rt v st
theorem ev_ret:sRet a μ st = (a μ st).sbn μ kRet:=sbn_eq fun _ _ => rfl
theorem k_ret:kRet v st = .rt v st:=rfl
noncomputable def kIf (s1 s2:MB) (μ:Env):Bool → Store → SRes
  | true,st => s1 μ st
  | false,st => s2 μ st
theorem ev_ifS:sIf t s1 s2 μ st = (t μ st).sbn μ (kIf s1 s2 μ):=sbn_eq fun x _ => by cases x <;> rfl
theorem k_if_t:kIf s1 s2 μ true st = s1 μ st:=rfl
theorem k_if_f:kIf s1 s2 μ false st = s2 μ st:=rfl
noncomputable def kSet (i:Nat) (μ:Env):Val → Store → SRes:=fun v st => .nx (μ.set i (some v)) st
theorem ev_set:sSet i a μ st = (a μ st).sbn μ (kSet i μ):=sbn_eq fun _ _ => rfl
theorem k_set:kSet i μ v st = .nx (μ.set i (some v)) st:=rfl
noncomputable def kRaise (x:Str) (μ:Env):List Val → Store → SRes:=fun vs st => if vs.length ≤ sizeLine then .er x μ st else .bad
theorem ev_raise {x:Str}:sRaise x ms μ st = (ms μ st).sbn μ (kRaise x μ):=sbn_eq fun _ _ => rfl
theorem k_raise {x:Str} {vs:List Val}:kRaise x μ vs st = if vs.length ≤ sizeLine then .er x μ st else .bad:=rfl
noncomputable def kFor (as:AS) (s1:MB) (μ:Env):Itm → Store → SRes:=fun p st => forL p.2 as s1 p.1 μ st
theorem ev_for {it:MI} {as:AS}:sFor it as s1 μ st = (it μ st).sbn μ (kFor as s1 μ):=sbn_eq fun _ _ => rfl
theorem k_for {as:AS} {us:List Val} {q:Store → Prop}:kFor as s1 μ (us,q) st = forL q as s1 us μ st:=rfl
noncomputable def kNew:List Val → Store → Res Val:=fun ys st => .ok (.loc st.length) (st ++ [.lst ys])
theorem k_new {ys:List Val}:kNew ys st = .ok (.loc st.length) (st ++ [.lst ys]):=rfl
noncomputable def kComp (k:Nat) (caps:List Nat) (as:AS) (t:MT) (a:ME) (μ:Env):Itm → Store → Res Val:=fun p st => if p.1.length ≤ sizeLine then (compL p.2 as t a p.1 (capM k caps μ) st []).bnd kNew else .bad
theorem ev_comp {k:Nat} {caps:List Nat} {it:MI} {as:AS}:mComp k caps it as t a μ st = (it μ st).bnd (kComp k caps as t a μ):=bnd_eq fun p st1 => by
  unfold kComp
  split
  · exact bnd_eq fun _ _ => rfl
  · rfl
theorem k_comp {k:Nat} {caps:List Nat} {as:AS} {us:List Val} {q:Store → Prop}:kComp k caps as t a μ (us,q) st = if us.length ≤ sizeLine then (compL q as t a us (capM k caps μ) st []).bnd kNew else .bad:=rfl
theorem ev_fn {np n:Nat} {us:List Val} (h:us.length = np):fnM np n s1 us st = (s1 (us.map some ++ List.replicate (n - np) none) st).fin:=by
  unfold fnM; rw [if_pos h]; cases s1 (us.map some ++ List.replicate (n - np) none) st <;> rfl
theorem var_s {x:Option Val} {μ:Env}:mVar (i + 1) (x :: μ) st = mVar i μ st:=rfl
theorem var_i {μ:Env} {j:Int}:mVar 0 (some (.int j) :: μ) st = .ok (.int j) st:=rfl
theorem var_b {μ:Env} {j:Bool}:mVar 0 (some (.bl j) :: μ) st = .ok (.bl j) st:=rfl
theorem var_st {μ:Env} {j:Str}:mVar 0 (some (.str j) :: μ) st = .ok (.str j) st:=rfl
theorem var_t {μ:Env} {j:List Val}:mVar 0 (some (.tup j) :: μ) st = .ok (.tup j) st:=rfl
theorem var_l {μ:Env} {j:Nat}:mVar 0 (some (.loc j) :: μ) st = .ok (.loc j) st:=rfl
theorem var_n {μ:Env}:mVar 0 (some .non :: μ) st = .ok .non st:=rfl
noncomputable def walkK (v:Val) (st:Store):Res Itm:=match walkOf st v with
  | some p => .ok p st
  | none => .bad
theorem ev_iseq:iSeq a μ st = (a μ st).bnd walkK:=by unfold iSeq; rw [bind_bnd]; rfl
theorem walkK_tup {us:List Val}:walkK (.tup us) st = .ok (us,fun _ => True) st:=rfl
theorem walkK_loc {n:Nat} {us:List Val} (h:itemsOf st n = some us):walkK (.loc n) st = .ok (us,fun st' => itemsOf st' n = some us) st:=by
  simp only [walkK,walkOf,h]; rfl
noncomputable def rng1 (vs:List Val) (st':Store):Res Itm:=match vs with
  | [.int j] => if -(2 ^ 62) ≤ j ∧ j < 2 ^ 62 then .ok (rangeL 0 j.toNat,fun _ => True) st' else .bad
  | _ => .bad
noncomputable def rng2 (vs:List Val) (st':Store):Res Itm:=match vs with
  | [.int i,.int j] => if -(2 ^ 62) ≤ i ∧ i < 2 ^ 62 ∧ -(2 ^ 62) ≤ j ∧ j < 2 ^ 62 then .ok (rangeL i (j - i).toNat,fun _ => True) st' else .bad
  | _ => .bad
theorem ev_rng1:iRange1 ms μ st = (ms μ st).bnd rng1:=by unfold iRange1; rw [bind_bnd]; rfl
theorem ev_rng2:iRange2 ms μ st = (ms μ st).bnd rng2:=by unfold iRange2; rw [bind_bnd]; rfl
theorem rng1_ok {j:Int} (h1:-(2 ^ 62) ≤ j) (h2:j < 2 ^ 62):rng1 [.int j] st = .ok (rangeL 0 j.toNat,fun _ => True) st:=by unfold rng1; dsimp only; rw [if_pos ⟨h1,h2⟩]
noncomputable def zipK (b1 b2:Bool) (vs:List Val) (st':Store):Res Itm:=match vs with
  | [u,w] => match sideOf st' u,sideOf st' w with
    | some (c1,us,g1),some (c2,ws,g2) => if c1 = b1 ∧ c2 = b2 then .ok (zipL us ws,fun st2 => g1 st2 ∧ g2 st2) st' else .bad
    | _,_ => .bad
  | _ => .bad
theorem ev_zip {b1 b2:Bool}:iZip2 b1 b2 ms μ st = (ms μ st).bnd (zipK b1 b2):=by unfold iZip2; rw [bind_bnd]; rfl
theorem zipK_tt {us ws:List Val}:zipK false false [.tup us,.tup ws] st = .ok (zipL us ws,fun _ => True ∧ True) st:=rfl
theorem tup_loc {n:Nat} {us:List Val} (h1:itemsOf st n = some us):tupF [.loc n] st = .ok (.tup us) st:=by unfold tupF; dsimp only; rw [h1]
theorem add_ii {i j:Int}:addV (.int i) (.int j) st = .ok (.int (i + j)) st:=rfl
theorem sub_ii {i j:Int}:subV (.int i) (.int j) st = .ok (.int (i - j)) st:=rfl
theorem mul_ok {i j:Int} (h:MulOk i j):mulV (.int i) (.int j) st = .ok (.int (i * j)) st:=by unfold mulV; dsimp only; rw [if_pos h]
theorem mul_l {i j:Int} (h1:-(2 ^ 64) < i) (h2:i < 2 ^ 64):mulV (.int i) (.int j) st = .ok (.int (i * j)) st:=mul_ok (.inr (.inl ⟨h1,h2⟩))
theorem mul_r {i j:Int} (h1:-(2 ^ 64) < j) (h2:j < 2 ^ 64):mulV (.int i) (.int j) st = .ok (.int (i * j)) st:=mul_ok (.inr (.inr ⟨h1,h2⟩))
theorem div_ii {i j:Int} (h:Dz j):fdivV (.int i) (.int j) st = .ok (.int (i.fdiv j)) st:=if_pos h
theorem mod_ii {i j:Int} (h:¬ j = 0):modV (.int i) (.int j) st = .ok (.int (i.fmod j)) st:=if_neg h
theorem pow_ii {i j:Int} (h:CPow i j):powV (.int i) (.int j) st = .ok (.int (i ^ j.toNat)) st:=if_pos h
theorem lt_ii {i j:Int}:ltV (.int i) (.int j) st = .ok (.bl (decide (i < j))) st:=rfl
theorem le_ii {i j:Int}:leV (.int i) (.int j) st = .ok (.bl (decide (i ≤ j))) st:=rfl
theorem gt_ii {i j:Int}:gtV (.int i) (.int j) st = .ok (.bl (decide (j < i))) st:=rfl
theorem ge_ii {i j:Int}:geV (.int i) (.int j) st = .ok (.bl (decide (j ≤ i))) st:=rfl
theorem eq_ii {i j:Int}:eqM (.int i) (.int j) st = .ok (.bl (i == j)) st:=rfl
theorem ne_ii {i j:Int}:neM (.int i) (.int j) st = .ok (.bl (!(i == j))) st:=rfl
theorem eq_bb {i j:Bool}:eqM (.bl i) (.bl j) st = .ok (.bl (i == j)) st:=rfl
theorem ne_bb {i j:Bool}:neM (.bl i) (.bl j) st = .ok (.bl (!(i == j))) st:=rfl
theorem eq_ss {i j:Str}:eqM (.str i) (.str j) st = .ok (.bl (i == j)) st:=rfl
theorem ne_ss {i j:Str}:neM (.str i) (.str j) st = .ok (.bl (!(i == j))) st:=rfl
theorem ix_tup {us:List Val} {i:Int} {v:Val} (h:L2.atI us i = some v):ixV (.tup us) (.int i) st = .ok v st:=by unfold ixV; dsimp only; rw [h]
theorem ix_loc {n:Nat} {us:List Val} {i:Int} {v:Val} (h1:itemsOf st n = some us) (h:L2.atI us i = some v):ixV (.loc n) (.int i) st = .ok v st:=by unfold ixV; dsimp only; rw [h1]; dsimp only; rw [h]
theorem len_loc {n:Nat} {us:List Val} (h1:itemsOf st n = some us):lenF [.loc n] st = .ok (.int us.length) st:=by unfold lenF; dsimp only; rw [h1]
theorem len_tup {us:List Val}:lenF [.tup us] st = .ok (.int us.length) st:=rfl
theorem abs_i {i:Int}:absF [.int i] st = .ok (.int (if i < 0 then -i else i)) st:=rfl
theorem is_int_int {i:Int}:isOf "int" (.int i) st = .ok (.bl true) st:=rfl
theorem is_bool_int {i:Int}:isOf "bool" (.int i) st = .ok (.bl false) st:=rfl
theorem eqD_nil {n m:Nat} {us:List Val} (h1:itemsOf st n = some us) (h2:itemsOf st m = some []):eqD 16 st (.loc n) (.loc m) = some us.isEmpty:=by
  unfold eqD
  simp only [vw,h1,h2]
  show eqDs _ us [] = _
  cases us <;> rfl
theorem ne_nil {n m:Nat} {us:List Val} (h1:itemsOf st n = some us) (h2:itemsOf st m = some []):neM (.loc n) (.loc m) st = .ok (.bl (!us.isEmpty)) st:=by unfold neM; rw [eqD_nil h1 h2]
noncomputable def Res.noe (r:Res α):Res α:=match r with
  | .ok v st' => .ok v st'
  | .err _ _ => .bad
  | .bad => .bad
theorem ev_noE {m:Env → Store → Res α}:noE m μ st = (m μ st).noe:=by unfold noE Res.noe; cases m μ st <;> rfl
theorem noe_ok {a:α}:(Res.ok a st).noe = .ok a st:=rfl
noncomputable def SRes.nout (r:SRes):SRes:=match r with
  | .er _ _ _ => .bad
  | .nx μ' st' => .nx μ' st'
  | .rt v st' => .rt v st'
  | .bk μ' st' => .bk μ' st'
  | .ct μ' st' => .ct μ' st'
  | .bad => .bad
theorem ev_noOut:noOut s1 μ st = (s1 μ st).nout:=by unfold noOut SRes.nout; cases s1 μ st <;> rfl
theorem nout_nx:(SRes.nx μ st).nout = .nx μ st:=rfl
theorem nout_rt:(SRes.rt v st).nout = .rt v st:=rfl
noncomputable def SRes.tryK (r:SRes) (kn:Str → Bool) (h:MH):SRes:=match r with
  | .er c μ' st' => if kn c = true then h c μ' st' else .bad
  | .nx μ' st' => .nx μ' st'
  | .rt v st' => .rt v st'
  | .bk μ' st' => .bk μ' st'
  | .ct μ' st' => .ct μ' st'
  | .bad => .bad
theorem ev_try {kn:Str → Bool} {h:MH}:sTry kn s1 h μ st = (s1 μ st).tryK kn h:=by unfold sTry SRes.tryK; cases s1 μ st <;> rfl
theorem tryK_nx {kn:Str → Bool} {h:MH}:(SRes.nx μ st).tryK kn h = .nx μ st:=rfl
theorem tryK_rt {kn:Str → Bool} {h:MH}:(SRes.rt v st).tryK kn h = .rt v st:=rfl
theorem onlyRt_rt:onlyRt (.rt v st) = .rt v st:=rfl
theorem isX_s {sub:Str → Str → Option Bool} {x:Str} {y:Option Val} {μ:Env}:mIsX sub (i + 1) x (y :: μ) st = mIsX sub i x μ st:=rfl
end
end MN
namespace MN
open PySem PySem.Spec L2
open PyProof.Rows hiding St kindOf
theorem evs:(((((((type_of% @ev_fn) ∧ ((type_of% @bnd_ok) ∧ (type_of% @bnd_err))) ∧ (((type_of% @bnd_bad) ∧ (type_of% @sbn_ok)) ∧ ((type_of% @sbn_err) ∧ (type_of% @sbn_bad)))) ∧ ((((type_of% @thn_nx) ∧ (type_of% @thn_rt)) ∧ ((type_of% @thn_er) ∧ (type_of% @thn_bk))) ∧ (((type_of% @thn_ct) ∧ (type_of% @fin_nx)) ∧ ((type_of% @fin_rt) ∧ (type_of% @fin_er))))) ∧ (((((type_of% @ev_bin) ∧ (type_of% @k_bin)) ∧ ((type_of% @k_bin2) ∧ (type_of% @k_and_t))) ∧ (((type_of% @k_and_f) ∧ (type_of% @k_or_t)) ∧ ((type_of% @k_or_f) ∧ (type_of% @k_not)))) ∧ ((((type_of% @k_tand_t) ∧ (type_of% @k_tand_f)) ∧ ((type_of% @k_tor_t) ∧ (type_of% @k_tor_f))) ∧ (((type_of% @k_tnot) ∧ (type_of% @k_ife_t)) ∧ ((type_of% @k_ife_f) ∧ (type_of% @k_ch)))))) ∧ ((((((type_of% @k_ch1) ∧ (type_of% @k_ch2_t)) ∧ ((type_of% @k_ch2_f) ∧ (type_of% @k_cons))) ∧ (((type_of% @k_cons2) ∧ (type_of% @k_tup)) ∧ ((type_of% @k_lst) ∧ (type_of% @k_expr)))) ∧ ((((type_of% @k_ret) ∧ (type_of% @k_if_t)) ∧ ((type_of% @k_if_f) ∧ (type_of% @k_set))) ∧ (((type_of% @k_raise) ∧ (type_of% @k_for)) ∧ ((type_of% @k_new) ∧ (type_of% @k_comp))))) ∧ (((((type_of% @ev_C) ∧ (type_of% @asB_bl)) ∧ ((type_of% @ev_asT) ∧ (type_of% @ev_and))) ∧ (((type_of% @ev_or) ∧ (type_of% @ev_not)) ∧ ((type_of% @ev_tand) ∧ (type_of% @ev_tor)))) ∧ ((((type_of% @ev_tnot) ∧ (type_of% @ev_if)) ∧ ((type_of% @ev_chain) ∧ (type_of% @ev_nil))) ∧ (((type_of% @ev_cons) ∧ (type_of% @ev_tup)) ∧ ((type_of% @ev_lst) ∧ (type_of% @ev_call))))))) ∧ (((((((type_of% @negV_int) ∧ (type_of% @ev_neg)) ∧ ((type_of% @ev_is) ∧ (type_of% @ev_seq))) ∧ (((type_of% @ev_next) ∧ (type_of% @ev_expr)) ∧ ((type_of% @ev_ret) ∧ (type_of% @ev_ifS)))) ∧ ((((type_of% @ev_set) ∧ (type_of% @ev_raise)) ∧ ((type_of% @ev_for) ∧ (type_of% @ev_comp))) ∧ (((type_of% @ev_iseq) ∧ (type_of% @ev_rng1)) ∧ ((type_of% @ev_rng2) ∧ (type_of% @walkK_tup))))) ∧ (((((type_of% @ev_zip) ∧ (type_of% @zipK_tt)) ∧ ((type_of% @ev_noE) ∧ (type_of% @noe_ok))) ∧ (((type_of% @ev_noOut) ∧ (type_of% @nout_nx)) ∧ ((type_of% @nout_rt) ∧ (type_of% @ev_try)))) ∧ ((((type_of% @tryK_nx) ∧ (type_of% @tryK_rt)) ∧ ((type_of% @onlyRt_rt) ∧ (type_of% @MN.isX_s))) ∧ (((type_of% @add_ii) ∧ (type_of% @sub_ii)) ∧ ((type_of% @lt_ii) ∧ (type_of% @le_ii)))))) ∧ ((((((type_of% @gt_ii) ∧ (type_of% @ge_ii)) ∧ ((type_of% @eq_ii) ∧ (type_of% @ne_ii))) ∧ (((type_of% @eq_bb) ∧ (type_of% @ne_bb)) ∧ ((type_of% @eq_ss) ∧ (type_of% @ne_ss)))) ∧ ((((type_of% @len_tup) ∧ (type_of% @abs_i)) ∧ ((type_of% @is_int_int) ∧ (type_of% @is_bool_int))) ∧ (((type_of% @var_i) ∧ (type_of% @var_b)) ∧ ((type_of% @var_st) ∧ (type_of% @var_t))))) ∧ (((((type_of% @var_l) ∧ (type_of% @var_n)) ∧ ((type_of% @var_s) ∧ (type_of% @List.map_cons.{0,0}))) ∧ (((type_of% @List.map_nil.{0,0}) ∧ (type_of% @List.cons_append.{0})) ∧ ((type_of% @List.nil_append.{0}) ∧ (type_of% @List.replicate_succ.{0})))) ∧ ((((type_of% @List.replicate_zero.{0}) ∧ (type_of% @List.set_cons_zero.{0})) ∧ ((type_of% @List.set_cons_succ.{0}) ∧ (type_of% @List.length_cons.{0}))) ∧ (((type_of% @List.length_nil.{0}) ∧ (type_of% @Bool.not_true)) ∧ ((type_of% @Bool.not_false) ∧ (type_of% @sizeLine_eq)))))))):=⟨⟨⟨⟨⟨⟨@ev_fn,⟨@bnd_ok,@bnd_err⟩⟩,⟨⟨@bnd_bad,@sbn_ok⟩,⟨@sbn_err,@sbn_bad⟩⟩⟩,⟨⟨⟨@thn_nx,@thn_rt⟩,⟨@thn_er,@thn_bk⟩⟩,⟨⟨@thn_ct,@fin_nx⟩,⟨@fin_rt,@fin_er⟩⟩⟩⟩,⟨⟨⟨⟨@ev_bin,@k_bin⟩,⟨@k_bin2,@k_and_t⟩⟩,⟨⟨@k_and_f,@k_or_t⟩,⟨@k_or_f,@k_not⟩⟩⟩,⟨⟨⟨@k_tand_t,@k_tand_f⟩,⟨@k_tor_t,@k_tor_f⟩⟩,⟨⟨@k_tnot,@k_ife_t⟩,⟨@k_ife_f,@k_ch⟩⟩⟩⟩⟩,⟨⟨⟨⟨⟨@k_ch1,@k_ch2_t⟩,⟨@k_ch2_f,@k_cons⟩⟩,⟨⟨@k_cons2,@k_tup⟩,⟨@k_lst,@k_expr⟩⟩⟩,⟨⟨⟨@k_ret,@k_if_t⟩,⟨@k_if_f,@k_set⟩⟩,⟨⟨@k_raise,@k_for⟩,⟨@k_new,@k_comp⟩⟩⟩⟩,⟨⟨⟨⟨@ev_C,@asB_bl⟩,⟨@ev_asT,@ev_and⟩⟩,⟨⟨@ev_or,@ev_not⟩,⟨@ev_tand,@ev_tor⟩⟩⟩,⟨⟨⟨@ev_tnot,@ev_if⟩,⟨@ev_chain,@ev_nil⟩⟩,⟨⟨@ev_cons,@ev_tup⟩,⟨@ev_lst,@ev_call⟩⟩⟩⟩⟩⟩,⟨⟨⟨⟨⟨⟨@negV_int,@ev_neg⟩,⟨@ev_is,@ev_seq⟩⟩,⟨⟨@ev_next,@ev_expr⟩,⟨@ev_ret,@ev_ifS⟩⟩⟩,⟨⟨⟨@ev_set,@ev_raise⟩,⟨@ev_for,@ev_comp⟩⟩,⟨⟨@ev_iseq,@ev_rng1⟩,⟨@ev_rng2,@walkK_tup⟩⟩⟩⟩,⟨⟨⟨⟨@ev_zip,@zipK_tt⟩,⟨@ev_noE,@noe_ok⟩⟩,⟨⟨@ev_noOut,@nout_nx⟩,⟨@nout_rt,@ev_try⟩⟩⟩,⟨⟨⟨@tryK_nx,@tryK_rt⟩,⟨@onlyRt_rt,@MN.isX_s⟩⟩,⟨⟨@add_ii,@sub_ii⟩,⟨@lt_ii,@le_ii⟩⟩⟩⟩⟩,⟨⟨⟨⟨⟨@gt_ii,@ge_ii⟩,⟨@eq_ii,@ne_ii⟩⟩,⟨⟨@eq_bb,@ne_bb⟩,⟨@eq_ss,@ne_ss⟩⟩⟩,⟨⟨⟨@len_tup,@abs_i⟩,⟨@is_int_int,@is_bool_int⟩⟩,⟨⟨@var_i,@var_b⟩,⟨@var_st,@var_t⟩⟩⟩⟩,⟨⟨⟨⟨@var_l,@var_n⟩,⟨@var_s,@List.map_cons.{0,0}⟩⟩,⟨⟨@List.map_nil.{0,0},@List.cons_append.{0}⟩,⟨@List.nil_append.{0},@List.replicate_succ.{0}⟩⟩⟩,⟨⟨⟨@List.replicate_zero.{0},@List.set_cons_zero.{0}⟩,⟨@List.set_cons_succ.{0},@List.length_cons.{0}⟩⟩,⟨⟨@List.length_nil.{0},@Bool.not_true⟩,⟨@Bool.not_false,@sizeLine_eq⟩⟩⟩⟩⟩⟩⟩
end MN
namespace MN
open PySem PySem.Spec L2
open PyProof.Rows hiding St kindOf
section
variable {μ:Env} {st:Store} {a b c o:ME} {ms:MA} {f:F2} {g:FM} {v w:Val} {i n m:Nat} {us ws:List Val}
noncomputable def kSl3 (x:Val) (l:Option Int):Option Int → Store → Res Val:=fun h st => slV l h x st
noncomputable def kSl2 (hi:MO) (μ:Env) (x:Val):Option Int → Store → Res Val:=fun l st => (hi μ st).bnd (kSl3 x l)
noncomputable def kSl (lo hi:MO) (μ:Env):Val → Store → Res Val:=fun x st => (lo μ st).bnd (kSl2 hi μ x)
theorem ev_sl {lo hi:MO}:mSl a lo hi μ st = (a μ st).bnd (kSl lo hi μ):=bnd_eq fun x st1 => bnd_eq fun l st2 => bnd_eq fun h st3 => rfl
theorem k_sl {lo hi:MO}:kSl lo hi μ v st = (lo μ st).bnd (kSl2 hi μ v):=rfl
theorem k_sl2 {hi:MO} {l:Option Int}:kSl2 hi μ v l st = (hi μ st).bnd (kSl3 v l):=rfl
theorem k_sl3 {l h:Option Int}:kSl3 v l h st = slV l h v st:=rfl
theorem ev_onone:oNone μ st = .ok none st:=rfl
noncomputable def kO:Val → Store → Res (Option Int)
  | .int i,st => .ok (some i) st
  | _,_ => .bad
theorem ev_osome:oSome a μ st = (a μ st).bnd kO:=bnd_eq fun x _ => by cases x <;> rfl
theorem kO_i {j:Int}:kO (.int j) st = .ok (some j) st:=rfl
theorem sl_loc {l h:Option Int} (e:itemsOf st n = some us):slV l h (.loc n) st = .ok (.loc st.length) (st ++ [.lst (cutL us l h)]):=by
  simp only [slV,e]
noncomputable def kMt2 (g:FM) (x:Val):List Val → Store → Res Val:=fun xs st => g x xs st
noncomputable def kMtL (g:FM) (ms:MA) (μ:Env):Val → Store → Res Val:=fun x st => if isLst st x = true then (ms μ st).bnd (kMt2 g x) else .bad
theorem ev_mtL:mMtL g o ms μ st = (o μ st).bnd (kMtL g ms μ):=bnd_eq fun x st1 => by
  unfold kMtL
  split
  · exact bnd_eq fun _ _ => rfl
  · rfl
theorem k_mtL (h:st[n]? = some (.lst us)):kMtL g ms μ (.loc n) st = (ms μ st).bnd (kMt2 g (.loc n)):=by
  unfold kMtL
  rw [if_pos (by unfold isLst; dsimp only; rw [h])]
theorem k_mt2 {xs:List Val}:kMt2 g v xs st = g v xs st:=rfl
noncomputable def kMt0 (g:FM):Val → Store → Res Val:=fun x st => if isLst st x = true then g x [] st else .bad
theorem ev_mt0:mMt0 g o μ st = (o μ st).bnd (kMt0 g):=bnd_eq fun _ _ => rfl
theorem append_ok (h:st[n]? = some (.lst us)) (hl:us.length < sizeLine):appendF (.loc n) [v] st = .ok .non (st.set n (.lst (us ++ [v]))):=by
  simp only [appendF,h]
  rw [if_pos hl]
noncomputable def kSI3 (μ:Env) (x y:Val):Val → Store → SRes:=fun z st => nxO μ (setF y z x st)
noncomputable def kSI2 (b:ME) (μ:Env) (x:Val):Val → Store → SRes:=fun y st => (b μ st).sbn μ (kSI3 μ x y)
noncomputable def kSI (a b:ME) (μ:Env):Val → Store → SRes:=fun x st => (a μ st).sbn μ (kSI2 b μ x)
theorem ev_seti:sSetI a b c μ st = (c μ st).sbn μ (kSI a b μ):=sbn_eq fun _ _ => sbn_eq fun _ _ => sbn_eq fun _ _ => rfl
theorem k_si:kSI a b μ v st = (a μ st).sbn μ (kSI2 b μ v):=rfl
theorem k_si2:kSI2 b μ v w st = (b μ st).sbn μ (kSI3 μ v w):=rfl
theorem k_si3 {x:Val}:kSI3 μ v w x st = nxO μ (setF w x v st):=rfl
theorem nxO_some:nxO μ (some st) = .nx μ st:=rfl
noncomputable def kAI5 (μ:Env) (y z:Val):Val → Store → SRes:=fun r st => nxO μ (setF y z r st)
noncomputable def kAI4 (f:F2) (μ:Env) (y z x:Val):Val → Store → SRes:=fun w st => (f x w st).sbn μ (kAI5 μ y z)
noncomputable def kAI3 (f:F2) (c:ME) (μ:Env) (y z:Val):Val → Store → SRes:=fun x st => (c μ st).sbn μ (kAI4 f μ y z x)
noncomputable def kAI2 (f:F2) (c:ME) (μ:Env) (y:Val):Val → Store → SRes:=fun z st => (ixL y z st).sbn μ (kAI3 f c μ y z)
noncomputable def kAI (f:F2) (b c:ME) (μ:Env):Val → Store → SRes:=fun y st => (b μ st).sbn μ (kAI2 f c μ y)
theorem ev_augi:sAugI f a b c μ st = (a μ st).sbn μ (kAI f b c μ):=sbn_eq fun _ _ => sbn_eq fun _ _ => sbn_eq fun _ _ => sbn_eq fun _ _ => sbn_eq fun _ _ => rfl
theorem k_ai:kAI f b c μ v st = (b μ st).sbn μ (kAI2 f c μ v):=rfl
theorem k_ai2:kAI2 f c μ v w st = (ixL v w st).sbn μ (kAI3 f c μ v w):=rfl
theorem k_ai3 {x:Val}:kAI3 f c μ v w x st = (c μ st).sbn μ (kAI4 f μ v w x):=rfl
theorem k_ai4 {x y:Val}:kAI4 f μ v w x y st = (f x y st).sbn μ (kAI5 μ v w):=rfl
theorem k_ai5 {x:Val}:kAI5 μ v w x st = nxO μ (setF v w x st):=rfl
theorem iad_ii {j k:Int}:iadV (.int j) (.int k) st = .ok (.int (j + k)) st:=rfl
theorem isb_ii {j k:Int}:isbV (.int j) (.int k) st = .ok (.int (j - k)) st:=rfl
noncomputable def kAu2 (k:Nat) (μ:Env):Val → Store → SRes:=fun r st => .nx (μ.set k (some r)) st
noncomputable def kAu1 (k:Nat) (f:F2) (μ:Env) (x:Val):Val → Store → SRes:=fun w st => (f x w st).sbn μ (kAu2 k μ)
noncomputable def kAu (k:Nat) (f:F2) (a:ME) (μ:Env):Val → Store → SRes:=fun x st => (a μ st).sbn μ (kAu1 k f μ x)
theorem ev_aug {k:Nat}:sAug k f a μ st = (mVar k μ st).sbn μ (kAu k f a μ):=sbn_eq fun _ _ => sbn_eq fun _ _ => sbn_eq fun _ _ => rfl
theorem k_au {k:Nat}:kAu k f a μ v st = (a μ st).sbn μ (kAu1 k f μ v):=rfl
theorem k_au1 {k:Nat}:kAu1 k f μ v w st = (f v w st).sbn μ (kAu2 k μ):=rfl
theorem k_au2 {k:Nat}:kAu2 k μ v st = .nx (μ.set k (some v)) st:=rfl
theorem ev_down:iDownM ms μ st = (ms μ st).bnd dwnK:=by unfold iDownM; rw [bind_bnd]
theorem ev_rev:iRevM ms μ st = (ms μ st).bnd revK:=by unfold iRevM; rw [bind_bnd]
theorem ev_enum:iEnumM ms μ st = (ms μ st).bnd enuK:=by unfold iEnumM; rw [bind_bnd]
theorem max_ii {j k:Int}:maxF [.int j,.int k] st = .ok (.int (if k > j then k else j)) st:=rfl
theorem int_b {x:Bool}:intF [.bl x] st = .ok (.int (if x then 1 else 0)) st:=rfl
theorem lst_loc (e:itemsOf st n = some us):lstF [.loc n] st = .ok (.loc st.length) (st ++ [.lst us]):=by
  simp only [lstF,e]
theorem add_ll (h1:st[n]? = some (.lst us)) (h2:st[m]? = some (.lst ws)) (hl:us.length + ws.length ≤ sizeLine):addV (.loc n) (.loc m) st = .ok (.loc st.length) (st ++ [.lst (us ++ ws)]):=by
  simp only [addV,h1,h2]
  rw [if_pos hl]
theorem mul_li {k:Int} (h1:st[n]? = some (.lst us)) (h2:-(2 ^ 63) ≤ k) (h3:k < 2 ^ 63) (h4:us.length * k.toNat ≤ sizeLine):mulV (.loc n) (.int k) st = .ok (.loc st.length) (st ++ [.lst (repsV k.toNat us)]):=by
  simp only [mulV,h1]
  rw [if_pos ⟨h2,h3,h4⟩]
theorem it_of (h:st[n]? = some (.lst us)):itemsOf st n = some us:=by unfold itemsOf; rw [h]
theorem la_new (st:Store) (us:List Val):(st ++ [Cell.lst us])[st.length]? = some (.lst us):=by
  rw [List.getElem?_append_right (Nat.le_refl _),Nat.sub_self]; rfl
theorem is_list (h:st[n]? = some (.lst us)):isOf "list" (.loc n) st = .ok (.bl true) st:=by
  unfold isOf isT kindOf; dsimp only; rw [h]; rfl
theorem is_tuple:isOf "tuple" (.tup us) st = .ok (.bl true) st:=rfl
theorem set_last (st:Store) (k k':Cell):(st ++ [k]).set st.length k' = st ++ [k']:=by
  rw [List.set_append_right _ _ (Nat.le_refl _),Nat.sub_self]; rfl
theorem set_mid (st:Store) (k k':Cell) (g:Store):(st ++ k :: g).set st.length k' = st ++ k' :: g:=by
  rw [List.set_append_right _ _ (Nat.le_refl _),Nat.sub_self]; rfl
theorem la_mid (st:Store) (k:Cell) (g:Store):(st ++ k :: g)[st.length]? = some k:=by
  rw [List.getElem?_append_right (Nat.le_refl _),Nat.sub_self]; rfl
end
mutual
noncomputable def pureD:Nat → Val → Bool
  | _,.non => true
  | _,.bl _ => true
  | _,.int _ => true
  | _,.str _ => true
  | 0,.tup _ => false
  | n + 1,.tup us => pureDs n us
  | _,_ => false
noncomputable def pureDs:Nat → List Val → Bool
  | _,[] => true
  | n,u :: us => pureD n u && pureDs n us
end
mutual
theorem eqD_self (st:Store):∀ (n:Nat) (v:Val),pureD n v = true → eqD (n + 1) st v v = some true
  | _,.non,_ => rfl
  | _,.bl b,_ => by show some (b == b) = _; rw [beq_self_eq_true]
  | _,.int i,_ => by show some (i == i) = _; rw [beq_self_eq_true]
  | _,.str x,_ => by show some (x == x) = _; rw [beq_self_eq_true]
  | 0,.tup _,h => by cases h
  | n + 1,.tup us,h => by
    show eqDs (eqD (n + 1) st) us us = some true
    exact eqDs_self st n us h
  | n,.loc _,h => by cases n <;> cases h
  | n,.exc _,h => by cases n <;> cases h
  | n,.fn _ _,h => by cases n <;> cases h
  | n,.mt _,h => by cases n <;> cases h
theorem eqDs_self (st:Store):∀ (n:Nat) (us:List Val),pureDs n us = true → eqDs (eqD (n + 1) st) us us = some true
  | _,[],_ => rfl
  | n,u :: us,h => by
    have h':pureD n u = true ∧ pureDs n us = true:=by simpa [pureDs] using h
    show (match eqD (n + 1) st u u,eqDs (eqD (n + 1) st) us us with | some a,some b => some (a && b) | _,_ => none) = _
    rw [eqD_self st n u h'.1,eqDs_self st n us h'.2]; rfl
end
theorem pureDs_of {n:Nat}:∀ {us:List Val},(∀ u ∈ us,pureD n u = true) → pureDs n us = true
  | [],_ => rfl
  | u :: us,h => by
    unfold pureDs
    rw [h u List.mem_cons_self,pureDs_of fun w hw => h w (List.mem_cons_of_mem u hw)]; rfl
theorem pureDs_ints (n:Nat) (ns:List Int):pureDs n (ns.map Val.int) = true:=pureDs_of fun u hu => by
  obtain ⟨i,_,rfl⟩:=List.mem_map.mp hu
  cases n <;> rfl
section
variable {st:Store} {n m:Nat} {us:List Val}
theorem eqD_lists (h1:itemsOf st n = some us) (h2:itemsOf st m = some us) (hp:pureDs 14 us = true):eqD 16 st (.loc n) (.loc m) = some true:=by
  unfold eqD
  simp only [vw,h1,h2]
  exact eqDs_self st 14 us hp
theorem eq_lists (h1:itemsOf st n = some us) (h2:itemsOf st m = some us) (hp:pureDs 14 us = true):eqM (.loc n) (.loc m) st = .ok (.bl true) st:=by unfold eqM; rw [eqD_lists h1 h2 hp]
end
end MN
namespace MN
open PySem PySem.Spec L2
open PyProof.Rows hiding St kindOf
theorem ev2s:((((((type_of% @ev_sl) ∧ (type_of% @k_sl)) ∧ ((type_of% @k_sl2) ∧ (type_of% @k_sl3))) ∧ (((type_of% @ev_onone) ∧ (type_of% @ev_osome)) ∧ ((type_of% @kO_i) ∧ (type_of% @ev_mtL)))) ∧ ((((type_of% @k_mt2) ∧ (type_of% @ev_mt0)) ∧ ((type_of% @ev_seti) ∧ (type_of% @k_si))) ∧ (((type_of% @k_si2) ∧ (type_of% @k_si3)) ∧ ((type_of% @nxO_some) ∧ (type_of% @ev_augi))))) ∧ (((((type_of% @k_ai) ∧ (type_of% @k_ai2)) ∧ ((type_of% @k_ai3) ∧ (type_of% @k_ai4))) ∧ (((type_of% @k_ai5) ∧ (type_of% @iad_ii)) ∧ ((type_of% @isb_ii) ∧ (type_of% @ev_aug)))) ∧ ((((type_of% @k_au) ∧ (type_of% @k_au1)) ∧ ((type_of% @k_au2) ∧ (type_of% @ev_down))) ∧ (((type_of% @ev_rev) ∧ (type_of% @ev_enum)) ∧ ((type_of% @max_ii) ∧ ((type_of% @int_b) ∧ (type_of% @is_tuple))))))):=⟨⟨⟨⟨⟨@ev_sl,@k_sl⟩,⟨@k_sl2,@k_sl3⟩⟩,⟨⟨@ev_onone,@ev_osome⟩,⟨@kO_i,@ev_mtL⟩⟩⟩,⟨⟨⟨@k_mt2,@ev_mt0⟩,⟨@ev_seti,@k_si⟩⟩,⟨⟨@k_si2,@k_si3⟩,⟨@nxO_some,@ev_augi⟩⟩⟩⟩,⟨⟨⟨⟨@k_ai,@k_ai2⟩,⟨@k_ai3,@k_ai4⟩⟩,⟨⟨@k_ai5,@iad_ii⟩,⟨@isb_ii,@ev_aug⟩⟩⟩,⟨⟨⟨@k_au,@k_au1⟩,⟨@k_au2,@ev_down⟩⟩,⟨⟨@ev_rev,@ev_enum⟩,⟨@max_ii,⟨@int_b,@is_tuple⟩⟩⟩⟩⟩⟩
end MN
namespace PG
open PySem PySem.Spec L2 MN
open PyProof.Rows hiding St kindOf
theorem is_whole_int (i:Int) (st:Store):PM.is_whole [.int i] st = .ok (.bl true) st:=rfl
noncomputable def FP:List Int:=[2,3,5,7,11,13,17,19,23,29,31]
noncomputable def prB (n:Int):Bool:=FP.contains n || (decide (2 ≤ n) && decide (n ≤ 997) && FP.all fun p => !(n.fmod p == 0))
theorem any_ints (n:Int) (ns:List Int):(ns.map Val.int).any (fun y => eqF y (.int n)) = ns.contains n:=by
  induction ns with
  | nil => rfl
  | cons m ns ih =>
    simp only [List.map_cons,List.any_cons,List.contains_cons]
    rw [ih]
    congr 1
    show (m == n) = (n == m)
    rw [Bool.eq_iff_iff,beq_iff_eq,beq_iff_eq]; exact ⟨Eq.symm,Eq.symm⟩
theorem in_ints (n:Int) (ns:List Int) (st:Store):inW false (.int n) (.mt (ns.map Val.int)) st = .ok (.bl (ns.contains n)) st:=by
  have h1:(ns.map Val.int).all flat = true:=by rw [List.all_map]; exact List.all_eq_true.mpr fun _ _ => rfl
  unfold inW seqOf
  dsimp only
  rw [if_pos ⟨rfl,h1⟩,any_ints]
  rfl
theorem bls_map (ns:List Int) (f:Int → Bool):blsOf ((ns.map Val.int).map fun v => match v with | .int i => .bl (f i) | _ => .non) = some (ns.map f):=by
  induction ns with
  | nil => rfl
  | cons m ns ih =>
    simp only [List.map_cons,blsOf] at ih ⊢
    rw [ih]; rfl
theorem is_prime_within_int (n:Int) (st:Store):∃ g,PM.is_prime_within [.int n] st = .ok (.bl (prB n)) (st ++ g):=by
  have hin:inW false (.int n) PM.FIRST_PRIMES st = .ok (.bl (FP.contains n)) st:=in_ints n FP st
  cases h1:FP.contains n with
  | true =>
    refine ⟨[],?_⟩
    rw [h1] at hin
    simp only [PM.is_prime_within,ev_fn,bnd_ok,sbn_ok,thn_rt,fin_rt,ev_bin,k_bin,k_bin2,k_ret,k_if_t,ev_C,asB_bl,ev_asT,ev_seq,ev_ret,ev_ifS,var_i,List.map_cons,List.map_nil,List.replicate_zero,Nat.reduceSub,List.length_cons,List.length_nil,Nat.reduceAdd,hin,List.append_nil,prB,h1,Bool.true_or]
  | false =>
    rw [h1] at hin
    by_cases h2:n < 2
    · refine ⟨[],?_⟩
      have e2:decide (n < 2) = true:=decide_eq_true h2
      have e3:decide (2 ≤ n) = false:=decide_eq_false (by omega)
      simp only [PM.is_prime_within,ev_fn,bnd_ok,sbn_ok,thn_nx,thn_rt,fin_rt,ev_bin,k_bin,k_bin2,k_tor_t,k_ret,k_if_t,k_if_f,ev_C,asB_bl,ev_asT,ev_tor,ev_seq,ev_next,ev_ret,ev_ifS,lt_ii,var_i,List.map_cons,List.map_nil,List.replicate_zero,Nat.reduceSub,List.length_cons,List.length_nil,Nat.reduceAdd,hin,e2,List.append_nil,prB,h1,e3,Bool.false_or,Bool.false_and]
    · have e2:decide (n < 2) = false:=decide_eq_false h2
      have e3:decide (2 ≤ n) = true:=decide_eq_true (by omega)
      by_cases h3:997 < n
      · refine ⟨[],?_⟩
        have e4:decide (997 < n) = true:=decide_eq_true h3
        have e5:decide (n ≤ 997) = false:=decide_eq_false (by omega)
        simp only [PM.is_prime_within,ev_fn,bnd_ok,sbn_ok,thn_nx,thn_rt,fin_rt,ev_bin,k_bin,k_bin2,k_tor_f,k_ret,k_if_t,k_if_f,ev_C,asB_bl,ev_asT,ev_tor,ev_seq,ev_next,ev_ret,ev_ifS,lt_ii,gt_ii,var_i,List.map_cons,List.map_nil,List.replicate_zero,Nat.reduceSub,List.length_cons,List.length_nil,Nat.reduceAdd,hin,e2,e4,List.append_nil,prB,h1,e3,e5,Bool.false_or,Bool.false_and,Bool.true_and]
      · have e4:decide (997 < n) = false:=decide_eq_false h3
        have e5:decide (n ≤ 997) = true:=decide_eq_true (by omega)
        let f:Val → Val:=fun v => match v with | .int i => .bl (!(n.fmod i == 0)) | _ => .non
        have hc:compL (fun _ => True) (aName 0) tTrueM (mBin neM (mBin modV (mVar 1) (mVar 0)) (mC (Val.int 0))) (FP.map Val.int) (capM 1 [0] [some (Val.int n)]) st [] = .ok ([] ++ ((FP.map Val.int).filter fun _ => true).map f) st:=by
          refine compL_pure trivial (fun τ => ∃ x,τ = [x,some (.int n)]) (fun _ => true) f (FP.map Val.int) _ [] ⟨none,rfl⟩ ?_
          rintro u hu τ ⟨x,rfl⟩
          obtain ⟨i,hi,rfl⟩:=List.mem_map.mp hu
          have hi0:¬ i = 0:=by
            intro z; subst z; revert hi; decide
          refine ⟨_,rfl,⟨_,rfl⟩,rfl,fun _ => ?_⟩
          simp only [bnd_ok,ev_bin,k_bin,k_bin2,ev_C,ne_ii,var_i,var_s,List.set_cons_zero,mod_ii hi0,f]
        have hb:blsOf (((FP.map Val.int).filter fun _ => true).map f) = some (FP.map fun i => !(n.fmod i == 0)):=by
          rw [List.filter_eq_self.mpr (fun _ _ => rfl)]
          exact bls_map FP fun i => !(n.fmod i == 0)
        refine ⟨[.lst (((FP.map Val.int).filter fun _ => true).map f)],?_⟩
        have ha:allF [.loc st.length] (st ++ [.lst (((FP.map Val.int).filter fun _ => true).map f)]) = .ok (.bl (prB n)) (st ++ [.lst (((FP.map Val.int).filter fun _ => true).map f)]):=by
          unfold allF
          dsimp only
          rw [itemsOf_new]
          dsimp only
          rw [hb]
          simp only [prB,h1,e3,e5,Bool.false_or,Bool.true_and,List.all_map]
          rfl
        have hw:walkK PM.FIRST_PRIMES st = .ok (FP.map Val.int,fun _ => True) st:=rfl
        have hz:(FP.map Val.int).length = 11:=rfl
        rw [List.nil_append] at hc
        simp only [PM.is_prime_within,ev_fn,bnd_ok,sbn_ok,thn_nx,fin_rt,ev_bin,k_bin,k_bin2,k_tor_f,k_cons,k_cons2,k_ret,k_if_f,k_new,k_comp,ev_C,asB_bl,ev_asT,ev_tor,ev_nil,ev_cons,ev_call,ev_seq,ev_next,ev_ret,ev_ifS,ev_comp,ev_iseq,lt_ii,gt_ii,var_i,List.map_cons,List.map_nil,List.cons_append,List.nil_append,List.replicate_zero,Nat.reduceSub,List.length_cons,List.length_nil,Nat.reduceAdd,sizeLine_eq,Nat.reduceLeDiff,↓reduceIte,hin,e2,e4,hw,hc,ha,hz]
end PG
namespace M03
noncomputable def Cof (u0 u1 g0 g1 M:Int):Prop:=∃ e x0 x1:Int,(e = 1 ∨ e = -1) ∧ 0 ≤ x0 ∧ 0 ≤ x1 ∧ u0 = e * x0 ∧ u1 = -(e * x1) ∧ x1 * g0 + x0 * g1 = M ∧ x0 ≤ M + 1 ∧ x1 ≤ M + 1
structure Inv (a b:Int) (g0 u0 v0 g1 u1 v1:Int):Prop where
  n0:0 ≤ g0
  n1:0 ≤ g1
  c0:u0 * a + v0 * b = g0
  c1:u1 * a + v1 * b = g1
  cu:Cof u0 u1 g0 g1 (b.natAbs:Int)
  cv:Cof v0 v1 g0 g1 (a.natAbs:Int)
  m0:g0 ≤ (a.natAbs:Int) + (b.natAbs:Int)
  m1:g1 ≤ (a.natAbs:Int) + (b.natAbs:Int)
  da:∃ p q:Int,a = p * g0 + q * g1
  db:∃ p q:Int,b = p * g0 + q * g1
end M03
namespace PG
open PySem PySem.Spec L2 MN
open PyProof.Rows hiding St kindOf
noncomputable def ringB (n:Int):Bool:=n == 0 || prB n
theorem is_ring_int (n:Int) (st:Store):∃ g,PM.is_ring [.int n] st = .ok (.bl (ringB n)) (st ++ g):=by
  cases h:n == 0 with
  | true => exact ⟨[],by simp only [PM.is_ring,ev_fn,bnd_ok,sbn_ok,fin_rt,ev_bin,k_bin,k_bin2,k_and_t,k_or_t,k_cons,k_cons2,k_ret,ev_C,ev_and,ev_or,ev_nil,ev_cons,ev_call,ev_ret,eq_ii,var_i,List.map_cons,List.map_nil,List.replicate_zero,Nat.reduceSub,List.length_cons,List.length_nil,Nat.reduceAdd,is_whole_int,h,ringB,Bool.true_or,List.append_nil]⟩
  | false =>
    obtain ⟨g,e⟩:=is_prime_within_int n st
    exact ⟨g,by simp only [PM.is_ring,ev_fn,bnd_ok,sbn_ok,fin_rt,ev_bin,k_bin,k_bin2,k_and_t,k_or_f,k_cons,k_cons2,k_ret,ev_C,ev_and,ev_or,ev_nil,ev_cons,ev_call,ev_ret,eq_ii,var_i,List.map_cons,List.map_nil,List.cons_append,List.nil_append,List.replicate_zero,Nat.reduceSub,List.length_cons,List.length_nil,Nat.reduceAdd,is_whole_int,h,ringB,Bool.false_or,e]⟩
theorem check_ring_ok {n:Int} (h:ringB n = true) (st:Store):∃ g,PM.check_ring [.int n] st = .ok .non (st ++ g):=by
  obtain ⟨g,e⟩:=is_ring_int n st
  rw [h] at e
  exact ⟨g,by simp only [PM.check_ring,ev_fn,bnd_ok,sbn_ok,fin_nx,k_tnot,k_cons,k_cons2,k_if_f,asB_bl,ev_asT,ev_tnot,ev_nil,ev_cons,ev_call,ev_next,ev_ifS,var_i,List.map_cons,List.map_nil,List.cons_append,List.nil_append,List.replicate_zero,Nat.reduceSub,List.length_cons,List.length_nil,Nat.reduceAdd,Bool.not_true,e]⟩
theorem at0 {x:Val} {r:List Val}:L2.atI (x :: r) 0 = some x:=by
  unfold L2.atI ixN
  simp
end PG
namespace PG
open PySem PySem.Spec L2 MN
open PyProof.Rows hiding St kindOf
theorem prB_range {p:Int} (h:prB p = true):2 ≤ p ∧ p ≤ 997:=by
  unfold prB at h
  rw [Bool.or_eq_true] at h
  rcases h with h | h
  · have:p ∈ FP:=by simpa using h
    simp only [FP,List.mem_cons,List.not_mem_nil,or_false] at this
    omega
  · simp only [Bool.and_eq_true,decide_eq_true_eq] at h
    omega
theorem fmod_pos {p:Int} (hp:0 < p) (i:Int):i.fmod p = i % p:=Int.fmod_eq_emod_of_nonneg i (by omega)
theorem ringB_of {p:Int} (h:prB p = true):ringB p = true:=by unfold ringB; rw [h,Bool.or_true]
theorem at1 {x y:Val} {r:List Val}:L2.atI (x :: y :: r) 1 = some y:=L2.atI_nat (xs:=x :: y :: r) (j:=1) rfl
end PG
namespace PG
open PySem PySem.Spec L2 MN
open PyProof.Rows hiding St kindOf
theorem found_step {i:Nat} {f o:Int} (h0:0 ≤ f) (h1:f < 2 ^ (31 * i)) (o0:0 ≤ o) (o1:o < 2147483647):0 ≤ f * 2147483647 + o ∧ f * 2147483647 + o < 2 ^ (31 * (i + 1)):=by
  have e:(2:Int) ^ (31 * (i + 1)) = 2 ^ (31 * i) * 2147483648:=by rw [Nat.mul_succ,Int.pow_add]; rfl
  rw [e]
  omega
theorem at_ints {ns:List Int} {k:Int} (h0:0 ≤ k) (h1:k < (ns.length:Int)):∃ c:Int,L2.atI (ns.map Val.int) k = some (.int c):=by
  have hk:k.toNat < ns.length:=by omega
  refine ⟨ns[k.toNat],?_⟩
  have e:=L2.atI_nat (xs:=ns.map Val.int) (j:=k.toNat) (v:=.int ns[k.toNat]) (by rw [List.getElem?_map,List.getElem?_eq_getElem hk]; rfl)
  rw [show ((k.toNat:Nat):Int) = k by omega] at e
  exact e
theorem fmodc {m:Int} (hm:0 < m) (i:Int):0 ≤ i.fmod m ∧ i.fmod m < m:=by
  rw [fmod_pos hm]; exact ⟨Int.emod_nonneg _ (by omega),Int.emod_lt_of_pos _ hm⟩
theorem cell_at {n:Nat} {ns:List Int} {k:Int} {st:Store} (h:itemsOf st n = some (ns.map Val.int)) (k0:0 ≤ k) (k1:k ≤ 1000000) :
    ∃ o,PM.law_cell_at [.loc n,.int k] st = .ok (.int o) st ∧ 0 ≤ o ∧ o < 2 ^ 186:=by
  have len:((List.map Val.int ns).length:Int) = (ns.length:Int):=by rw [List.length_map]
  have loop:∀ (c x:Int),0 ≤ x → x < 2147483647 → ∃ μ' st' o,forL (fun _ => True) (aName 5) (sSeq (sSet 3 (mBin modV (mBin addV (mBin mulV (mBin modV (mBin mulV (mVar 3) (mVar 3)) (mC (.int 2147483629))) (mC (.int 69621))) (mVar 5)) (mC (.int 2147483647)))) (sSet 4 (mBin addV (mBin mulV (mVar 4) (mC (.int 2147483647))) (mVar 3)))) (rangeL 0 6) [some (.loc n),some (.int k),some (.int c),some (.int x),some (.int 0),none] st = .nx μ' st' ∧ st' = st ∧ (∃ y t,μ' = [some (.loc n),some (.int k),some (.int c),y,some (.int o),t]) ∧ 0 ≤ o ∧ o < 2 ^ 186:=by
    intro c x x0 x1
    obtain ⟨μ',st',e,rfl,o,f,t,rfl,o0,o1,f0,f1⟩:=forL_inv (g:=fun _ => True) (a:=aName 5) (body:=sSeq (sSet 3 (mBin modV (mBin addV (mBin mulV (mBin modV (mBin mulV (mVar 3) (mVar 3)) (mC (.int 2147483629))) (mC (.int 69621))) (mVar 5)) (mC (.int 2147483647)))) (sSet 4 (mBin addV (mBin mulV (mVar 4) (mC (.int 2147483647))) (mVar 3))))
      (fun i μ s => s = st ∧ ∃ (o f:Int) (t:Option Val),μ = [some (.loc n),some (.int k),some (.int c),some (.int o),some (.int f),t] ∧ 0 ≤ o ∧ o < 2147483647 ∧ 0 ≤ f ∧ f < 2 ^ (31 * i))
      (rangeL 0 6) 0 [some (.loc n),some (.int k),some (.int c),some (.int x),some (.int 0),none] st
      (by
        rintro i u μ s hu ⟨rfl,o,f,t,rfl,o0,o1,f0,f1⟩
        refine ⟨trivial,?_⟩
        have hi:i < 6:=by have:=getL_lt hu; simpa [rangeL] using this
        have eu:u = .int (0 + (i:Int)):=by
          simp only [rangeL,List.getElem?_map] at hu
          rw [List.getElem?_range hi] at hu
          exact (Option.some.inj hu).symm
        subst eu
        have q1:=fmodc (m:=2147483629) (by decide) (o * o)
        have q2:=fmodc (m:=2147483647) (by decide) ((o * o).fmod 2147483629 * 69621 + (0 + (i:Int)))
        refine ⟨_,rfl,[some (.loc n),some (.int k),some (.int c),some (.int (((o * o).fmod 2147483629 * 69621 + (0 + (i:Int))).fmod 2147483647)),some (.int (f * 2147483647 + ((o * o).fmod 2147483629 * 69621 + (0 + (i:Int))).fmod 2147483647)),some (.int (0 + (i:Int)))],s,.inl ?_,rfl,_,_,_,rfl,q2.1,q2.2,?_⟩
        · simp only [bnd_ok,sbn_ok,thn_nx,ev_bin,k_bin,k_bin2,k_set,ev_C,ev_seq,ev_set,add_ii,var_i,var_s,List.set_cons_zero,List.set_cons_succ,mul_l (i:=o) (by omega) (by omega),mod_ii (j:=2147483629) (by decide),mul_r (j:=69621) (by decide) (by decide),mod_ii (j:=2147483647) (by decide),mul_r (j:=2147483647) (by decide) (by decide)]
        · rw [Nat.zero_add] at f1 ⊢
          exact found_step f0 f1 q2.1 q2.2) (fun _ _ _ => trivial)
      ⟨rfl,x,0,none,rfl,x0,x1,by decide,by decide⟩
    refine ⟨_,_,f,e,rfl,⟨_,_,rfl⟩,f0,?_⟩
    have:(rangeL 0 6).length = 6:=rfl
    rw [this] at f1
    exact f1
  have fin:∀ c:Int,((decide (k < ((List.map Val.int ns).length:Int)) = false ∧ c = 0) ∨ (decide (k < ((List.map Val.int ns).length:Int)) = true ∧ L2.atI (ns.map Val.int) k = some (.int c))) → ∃ o,PM.law_cell_at [.loc n,.int k] st = .ok (.int o) st ∧ 0 ≤ o ∧ o < 2 ^ 186:=by
    intro c hc
    have q:=fmodc (m:=2147483647) (by decide) (c * 48271 + 7919 * k * k + 104729 * k + 11)
    obtain ⟨μ',st',o,e,rfl,⟨y,t,rfl⟩,o0,o1⟩:=loop c _ q.1 q.2
    refine ⟨o,?_,o0,o1⟩
    have r6:rng1 [.int 6] st' = .ok (rangeL 0 6,fun _ => True) st':=rfl
    rcases hc with ⟨h1,rfl⟩ | ⟨h1,h2⟩
    · simp only [PM.law_cell_at,ev_fn,bnd_ok,sbn_ok,thn_nx,fin_rt,ev_bin,k_bin,k_bin2,k_cons,k_cons2,k_ret,k_if_f,k_set,k_for,ev_C,asB_bl,ev_asT,ev_nil,ev_cons,ev_call,ev_seq,ev_next,ev_ret,ev_ifS,ev_set,ev_for,ev_rng1,add_ii,lt_ii,var_i,var_l,var_s,List.map_cons,List.map_nil,List.cons_append,List.nil_append,List.replicate_succ,List.replicate_zero,List.set_cons_zero,List.set_cons_succ,Nat.reduceSub,List.length_cons,List.length_nil,Nat.reduceAdd,len_loc h,h1,mul_r (j:=48271) (by decide) (by decide),mul_l (i:=7919) (by decide) (by decide),mul_r (j:=k) (by omega) (by omega),mod_ii (j:=2147483647) (by decide),r6,e]
    · simp only [PM.law_cell_at,ev_fn,bnd_ok,sbn_ok,thn_nx,fin_rt,ev_bin,k_bin,k_bin2,k_cons,k_cons2,k_ret,k_if_t,k_set,k_for,ev_C,asB_bl,ev_asT,ev_nil,ev_cons,ev_call,ev_seq,ev_ret,ev_ifS,ev_set,ev_for,ev_rng1,add_ii,lt_ii,var_i,var_l,var_s,List.map_cons,List.map_nil,List.cons_append,List.nil_append,List.replicate_succ,List.replicate_zero,List.set_cons_zero,List.set_cons_succ,Nat.reduceSub,List.length_cons,List.length_nil,Nat.reduceAdd,len_loc h,h1,ix_loc h h2,mul_r (j:=48271) (by decide) (by decide),mul_l (i:=7919) (by decide) (by decide),mul_r (j:=k) (by omega) (by omega),mod_ii (j:=2147483647) (by decide),r6,e]
  by_cases hk:k < (ns.length:Int)
  · obtain ⟨c,hc⟩:=at_ints k0 hk
    exact fin c (.inr ⟨decide_eq_true (by rw [len]; exact hk),hc⟩)
  · exact fin 0 (.inl ⟨decide_eq_false (by rw [len]; exact hk),rfl⟩)
end PG
namespace PG
open PySem PySem.Spec L2 MN
open PyProof.Rows hiding St kindOf
theorem dz_c {j:Int} (h:0 < j) (h1:j < 2 ^ 64):Dz j:=by
  refine Dz.of (k:=64) (by omega) ?_ (by decide)
  show j.natAbs < 2 ^ 64
  omega
theorem fdiv_c {m:Int} (hm:0 < m) (i:Int):i.fdiv m = i / m:=Int.fdiv_eq_ediv_of_nonneg i (by omega)
theorem big_sign {s x:Int} (hs:s = 1 ∨ s = -1) (h0:0 ≤ x) (h1:x < (10:Int) ^ 40):Big 134 (s * x):=by
  show (s * x).natAbs < 2 ^ 134
  have e:(10:Int) ^ 40 = 10000000000000000000000000000000000000000:=by decide
  rw [e] at h1
  rcases hs with rfl | rfl
  · rw [Int.one_mul]; omega
  · rw [Int.neg_one_mul]; omega
theorem number_i {c:Int} (h:0 ≤ c) (st:Store):∃ r,PM.law_number [.int c] st = .ok (.int r) st ∧ Big 134 r:=by
  have d7:Dz 7:=dz_c (by decide) (by decide)
  have d14:Dz 14:=dz_c (by decide) (by decide)
  have cp:CPow 10 40:=by decide
  have tn:Int.toNat 40 = 40:=rfl
  cases hz:c.fmod 7 == 0 with
  | true =>
    have q:=fmodc (m:=2) (by decide) (c.fdiv 7)
    have q2:=fmodc (m:=10 ^ 40) (by decide) (c.fdiv 14)
    refine ⟨(1 - (c.fdiv 7).fmod 2 * 2) * (c.fdiv 14).fmod (10 ^ 40),?_,big_sign (by omega) q2.1 q2.2⟩
    have nz:¬ (10:Int) ^ 40 = 0:=by decide
    simp only [PM.law_number,ev_fn,bnd_ok,sbn_ok,thn_rt,fin_rt,ev_bin,k_bin,k_bin2,k_ret,k_if_t,ev_C,asB_bl,ev_asT,ev_seq,ev_ret,ev_ifS,sub_ii,eq_ii,var_i,List.map_cons,List.map_nil,List.cons_append,List.nil_append,List.replicate_zero,Nat.reduceSub,List.length_cons,List.length_nil,Nat.reduceAdd,mod_ii (j:=7) (by decide),hz,div_ii d7,div_ii d14,mod_ii (j:=2) (by decide),mul_r (j:=2) (by decide) (by decide),pow_ii cp,tn,mod_ii nz,mul_l (i:=1 - (c.fdiv 7).fmod 2 * 2) (by omega) (by omega)]
  | false =>
    have q:=fmodc (m:=19) (by decide) (c.fdiv 7)
    refine ⟨(c.fdiv 7).fmod 19 - 9,?_,Big.small (by decide) (by omega) (by omega)⟩
    simp only [PM.law_number,ev_fn,bnd_ok,sbn_ok,thn_nx,fin_rt,ev_bin,k_bin,k_bin2,k_ret,k_if_f,ev_C,asB_bl,ev_asT,ev_seq,ev_next,ev_ret,ev_ifS,sub_ii,eq_ii,var_i,List.map_cons,List.map_nil,List.cons_append,List.nil_append,List.replicate_zero,Nat.reduceSub,List.length_cons,List.length_nil,Nat.reduceAdd,mod_ii (j:=7) (by decide),hz,div_ii d7,mod_ii (j:=19) (by decide)]
noncomputable def dvP (n:Int) (u:Val):Bool:=match u with
  | .int b => decide (b < n) && (n.fmod b == 0)
  | _ => false
noncomputable def dvs (n:Int):List Val:=(rangeL 2 30).filter (dvP n)
theorem dvs_pr:∀ k:Fin 998,2 ≤ k.val → (dvs (k.val:Int)).isEmpty = true → prB (k.val:Int) = true:=by decide +kernel
theorem dvs_997:(dvs 997).isEmpty = true:=by decide +kernel
theorem dvs_comp (n:Int) (x:Option Val) (st:Store):compL (fun _ => True) (aName 0) (tAndM (asT (mBin ltV (mVar 0) (mVar 1))) (asT (mBin eqM (mBin modV (mVar 1) (mVar 0)) (mC (.int 0))))) (mVar 0) (rangeL 2 30) [x,some (.int n)] st [] = .ok (dvs n) st:=by
  have:=compL_pure (a:=aName 0) (c:=tAndM (asT (mBin ltV (mVar 0) (mVar 1))) (asT (mBin eqM (mBin modV (mVar 1) (mVar 0)) (mC (.int 0))))) (e:=mVar 0) (g:=fun _ => True) (st:=st) trivial (fun τ => ∃ x,τ = [x,some (.int n)]) (dvP n) id (rangeL 2 30) [x,some (.int n)] [] ⟨x,rfl⟩ ?_
  · rw [this,List.nil_append,List.map_id]; rfl
  · rintro u hu τ ⟨x,rfl⟩
    simp only [rangeL,List.mem_map,List.mem_range] at hu
    obtain ⟨i,hi,rfl⟩:=hu
    have nz:¬ (2 + (i:Int)) = 0:=by omega
    refine ⟨_,rfl,⟨_,rfl⟩,?_,fun _ => rfl⟩
    by_cases hb:2 + (i:Int) < n
    · have e:decide (2 + (i:Int) < n) = true:=decide_eq_true hb
      simp only [bnd_ok,ev_bin,k_bin,k_bin2,k_tand_t,ev_C,asB_bl,ev_asT,ev_tand,lt_ii,eq_ii,var_i,var_s,List.set_cons_zero,e,mod_ii nz,dvP,Bool.true_and]
    · have e:decide (2 + (i:Int) < n) = false:=decide_eq_false hb
      simp only [bnd_ok,ev_bin,k_bin,k_bin2,k_tand_f,asB_bl,ev_asT,ev_tand,lt_ii,var_i,var_s,List.set_cons_zero,e,dvP,Bool.false_and]
noncomputable def msr1 (μ:MN.Env):Nat:=match (μ[1]?:Option (Option Val)) with
  | some (some (Val.int n)) => (997 - n).toNat
  | _ => 0
theorem prime_i {c:Int} (h:0 ≤ c) (st:Store):∃ g p,PM.law_prime [.int c] st = .ok (.int p) (st ++ g) ∧ prB p = true:=by
  have d2:Dz 2:=dz_c (by decide) (by decide)
  cases hz:c.fmod 2 == 0 with
  | true =>
    have q:=fmodc (m:=6) (by decide) (c.fdiv 2)
    have at6:∀ i:Int,0 ≤ i → i < 6 → ∃ p,L2.atI ([.int 2,.int 3,.int 5,.int 7,.int 11,.int 13]:List Val) i = some (.int p) ∧ prB p = true:=by
      intro i i0 i1
      have:i = 0 ∨ i = 1 ∨ i = 2 ∨ i = 3 ∨ i = 4 ∨ i = 5:=by omega
      rcases this with rfl | rfl | rfl | rfl | rfl | rfl
      · exact ⟨2,rfl,by decide⟩
      · exact ⟨3,rfl,by decide⟩
      · exact ⟨5,rfl,by decide⟩
      · exact ⟨7,rfl,by decide⟩
      · exact ⟨11,rfl,by decide⟩
      · exact ⟨13,rfl,by decide⟩
    obtain ⟨p,ep,hp⟩:=at6 _ q.1 q.2
    refine ⟨[.lst [.int 2,.int 3,.int 5,.int 7,.int 11,.int 13]],p,?_,hp⟩
    simp only [PM.law_prime,ev_fn,bnd_ok,sbn_ok,thn_rt,fin_rt,ev_bin,k_bin,k_bin2,k_cons,k_cons2,k_lst,k_ret,k_if_t,ev_C,asB_bl,ev_asT,ev_nil,ev_cons,ev_lst,ev_seq,ev_ret,ev_ifS,eq_ii,var_i,List.map_cons,List.map_nil,List.cons_append,List.nil_append,List.replicate_succ,List.replicate_zero,Nat.reduceSub,List.length_cons,List.length_nil,Nat.reduceAdd,sizeLine_eq,Nat.reduceLeDiff,↓reduceIte,mod_ii (j:=2) (by decide),hz,div_ii d2,mod_ii (j:=6) (by decide),ix_loc (itemsOf_new st [.int 2,.int 3,.int 5,.int 7,.int 11,.int 13]) ep]
  | false =>
    have q:=fmodc (m:=996) (by decide) (c.fdiv 2)
    have r2:∀ st,rng2 [.int 2,.int 32] st = .ok (rangeL 2 30,fun _ => True) st:=fun _ => rfl
    have rl:(rangeL 2 30).length = 30:=rfl
    have tst:∀ (n:Int) (s:Store),asT (mBin neM (mComp 1 [1] (iRange2 (mCons (mC (.int 2)) (mCons (mC (.int 32)) mNil))) (aName 0) (tAndM (asT (mBin ltV (mVar 0) (mVar 1))) (asT (mBin eqM (mBin modV (mVar 1) (mVar 0)) (mC (.int 0))))) (mVar 0)) (mLst mNil)) [some (.int c),some (.int n)] s = .ok (!(dvs n).isEmpty) (s ++ [.lst (dvs n)] ++ [.lst []]):=by
      intro n s
      have hcap:capM 1 [1] [some (Val.int c),some (Val.int n)] = [none,some (.int n)]:=rfl
      simp only [bnd_ok,ev_bin,k_bin,k_bin2,k_cons,k_cons2,k_lst,k_new,k_comp,ev_C,asB_bl,ev_asT,ev_nil,ev_cons,ev_lst,ev_comp,ev_rng2,List.length_nil,sizeLine_eq,Nat.reduceLeDiff,↓reduceIte,r2,rl,hcap,dvs_comp,ne_nil (itemsOf_old (itemsOf_new s (dvs n)) [.lst []]) (itemsOf_new (s ++ [.lst (dvs n)]) [])]
    obtain ⟨μ',st',e,g,rfl,n,rfl,n0,n1,em⟩:=sWhile_inv (t:=asT (mBin neM (mComp 1 [1] (iRange2 (mCons (mC (.int 2)) (mCons (mC (.int 32)) mNil))) (aName 0) (tAndM (asT (mBin ltV (mVar 0) (mVar 1))) (asT (mBin eqM (mBin modV (mVar 1) (mVar 0)) (mC (.int 0))))) (mVar 0)) (mLst mNil)))
      (body:=sSet 1 (mBin addV (mVar 1) (mC (.int 1))))
      (fun μ s => ∃ g,s = st ++ g ∧ ∃ n:Int,μ = [some (.int c),some (.int n)] ∧ 2 ≤ n ∧ n ≤ 997) (fun μ _ => msr1 μ)
      (fun μ s => ∃ g,s = st ++ g ∧ ∃ n:Int,μ = [some (.int c),some (.int n)] ∧ 2 ≤ n ∧ n ≤ 997 ∧ (dvs n).isEmpty = true)
      (by
        rintro μ s ⟨g,rfl,n,rfl,n0,n1⟩
        have t:=tst n (st ++ g)
        cases hd:(dvs n).isEmpty with
        | true =>
          rw [hd] at t
          exact .inl ⟨_,t,g ++ ([.lst (dvs n)] ++ [.lst []]),by simp only [List.append_assoc],n,rfl,n0,n1,hd⟩
        | false =>
          rw [hd] at t
          have n2:n ≠ 997:=fun z => by rw [z,dvs_997] at hd; cases hd
          refine .inr ⟨_,[some (.int c),some (.int (n + 1))],_,t,.inl (by simp only [bnd_ok,sbn_ok,ev_bin,k_bin,k_bin2,k_set,ev_C,ev_set,add_ii,var_i,var_s,List.set_cons_zero,List.set_cons_succ]; rfl),⟨g ++ ([.lst (dvs n)] ++ [.lst []]),by simp only [List.append_assoc],n + 1,rfl,by omega,by omega⟩,?_⟩
          show (997 - (n + 1)).toNat < (997 - n).toNat
          omega)
      [some (.int c),some (.int (2 + (c.fdiv 2).fmod 996))] st ⟨[],by rw [List.append_nil],_,rfl,by omega,by omega⟩
    have hp:=dvs_pr ⟨n.toNat,by omega⟩ (by show 2 ≤ n.toNat; omega) (by show (dvs ((n.toNat:Nat):Int)).isEmpty = true; rw [Int.toNat_of_nonneg (by omega)]; exact em)
    have hp':prB n = true:=by
      have:prB ((n.toNat:Nat):Int) = true:=hp
      rw [Int.toNat_of_nonneg (by omega)] at this; exact this
    refine ⟨g,n,?_,hp'⟩
    simp only [PM.law_prime,ev_fn,bnd_ok,sbn_ok,thn_nx,fin_rt,ev_bin,k_bin,k_bin2,k_ret,k_if_f,k_set,ev_C,asB_bl,ev_asT,ev_seq,ev_next,ev_ret,ev_ifS,ev_set,add_ii,eq_ii,var_i,var_s,List.map_cons,List.map_nil,List.cons_append,List.nil_append,List.replicate_succ,List.replicate_zero,List.set_cons_zero,List.set_cons_succ,Nat.reduceSub,List.length_cons,List.length_nil,Nat.reduceAdd,mod_ii (j:=2) (by decide),hz,div_ii d2,mod_ii (j:=996) (by decide),e]
theorem ring_i {c:Int} (h:0 ≤ c) (st:Store):∃ g p,PM.law_ring [.int c] st = .ok (.int p) (st ++ g) ∧ (p = 0 ∨ prB p = true):=by
  have d3:Dz 3:=dz_c (by decide) (by decide)
  cases hz:c.fmod 3 == 0 with
  | true => exact ⟨[],0,by simp only [PM.law_ring,ev_fn,bnd_ok,sbn_ok,thn_rt,fin_rt,ev_bin,k_bin,k_bin2,k_ret,k_if_t,ev_C,asB_bl,ev_asT,ev_seq,ev_ret,ev_ifS,eq_ii,var_i,List.map_cons,List.map_nil,List.replicate_zero,Nat.reduceSub,List.length_cons,List.length_nil,Nat.reduceAdd,mod_ii (j:=3) (by decide),hz,List.append_nil],.inl rfl⟩
  | false =>
    obtain ⟨g,p,e,hp⟩:=prime_i (c:=c.fdiv 3) (by rw [fdiv_c (by decide)]; exact Int.ediv_nonneg h (by decide)) st
    exact ⟨g,p,by simp only [PM.law_ring,ev_fn,bnd_ok,sbn_ok,thn_nx,fin_rt,ev_bin,k_bin,k_bin2,k_cons,k_cons2,k_ret,k_if_f,ev_C,asB_bl,ev_asT,ev_nil,ev_cons,ev_call,ev_seq,ev_next,ev_ret,ev_ifS,eq_ii,var_i,List.map_cons,List.map_nil,List.cons_append,List.nil_append,List.replicate_zero,Nat.reduceSub,List.length_cons,List.length_nil,Nat.reduceAdd,mod_ii (j:=3) (by decide),hz,div_ii d3,e],.inr hp⟩
end PG
namespace PG
open PySem PySem.Spec L2 MN
open PyProof.Rows hiding St kindOf
end PG
namespace PG
open PySem PySem.Spec L2 MN
open PyProof.Rows hiding St kindOf
end PG
namespace PG
open PySem PySem.Spec L2 MN
open PyProof.Rows hiding St kindOf
end PG
namespace PG
open PySem PySem.Spec L2 MN
open PyProof.Rows hiding St kindOf
end PG
namespace PG
open PySem PySem.Spec L2 MN
open PyProof.Rows hiding St kindOf
noncomputable abbrev inB:MB:=sAugI iadV (mVar 3) (mBin addV (mVar 4) (mVar 6)) (mBin mulV (mVar 5) (mVar 7))
end PG
namespace PG
open PySem PySem.Spec L2 MN
open PyProof.Rows hiding St kindOf
end PG
namespace TS
section
variable {α:Type} (le:α → α → Prop)
noncomputable def Srt (l:List α):Prop:=l.Pairwise le
structure Mer (tot out A B:List α):Prop where
  pm:(out ++ (A ++ B)).Perm tot
  so:Srt le out
  sa:Srt le A
  sb:Srt le B
  oa:∀ x ∈ out,∀ y ∈ A,le x y
  ob:∀ x ∈ out,∀ y ∈ B,le x y
variable {le} {tot out A B:List α}
theorem Mer.swap (h:Mer le tot out A B):Mer le tot out B A :=
  ⟨(List.Perm.append_left _ List.perm_append_comm).trans h.pm,h.so,h.sb,h.sa,h.ob,h.oa⟩
theorem Mer.a {A1 A2:List α} (h:Mer le tot out (A1 ++ A2) B) (l:∀ x ∈ A1,∀ y ∈ B,le x y):Mer le tot (out ++ A1) A2 B:=by
  have sa:=List.pairwise_append.mp h.sa
  refine ⟨?_,List.pairwise_append.mpr ⟨h.so,sa.1,fun x hx y hy => h.oa x hx y (List.mem_append_left _ hy)⟩,sa.2.1,h.sb,fun x hx y hy => ?_,fun x hx y hy => ?_⟩
  · have:=h.pm
    rwa [List.append_assoc,← List.append_assoc out A1] at this
  · rcases List.mem_append.mp hx with hx | hx
    · exact h.oa x hx y (List.mem_append_right _ hy)
    · exact sa.2.2 x hx y hy
  · rcases List.mem_append.mp hx with hx | hx
    · exact h.ob x hx y hy
    · exact l x hx y hy
theorem Mer.b {B1 B2:List α} (h:Mer le tot out A (B1 ++ B2)) (l:∀ x ∈ B1,∀ y ∈ A,le x y):Mer le tot (out ++ B1) A B2:=(h.swap.a l).swap
theorem Mer.fin (h:Mer le tot out A B) (l:∀ x ∈ A,∀ y ∈ B,le x y):(out ++ A ++ B).Perm tot ∧ Srt le (out ++ A ++ B):=by
  refine ⟨by rw [List.append_assoc]; exact h.pm,?_⟩
  rw [List.append_assoc]
  refine List.pairwise_append.mpr ⟨h.so,List.pairwise_append.mpr ⟨h.sa,h.sb,l⟩,fun x hx y hy => ?_⟩
  rcases List.mem_append.mp hy with hy | hy
  · exact h.oa x hx y hy
  · exact h.ob x hx y hy
end
section
variable {α:Type} (r:α → Nat)
noncomputable def K (xs:Array α) (i:Nat):Nat:=(xs[i]?).elim 0 r
noncomputable def Up (xs:Array α) (lo hi:Nat):Prop:=∀ i j,lo ≤ i → i < j → j < hi → K r xs i ≤ K r xs j
noncomputable def Dn (xs:Array α) (lo hi:Nat):Prop:=∀ i j,lo ≤ i → i < j → j < hi → K r xs j ≤ K r xs i
noncomputable abbrev rle:α → α → Prop:=fun x y => r x ≤ r y
noncomputable abbrev rge:α → α → Prop:=fun x y => r y ≤ r x
noncomputable def part (xs:Array α) (i j:Nat):List α:=(xs.toList.drop i).take (j - i)
variable {r} {xs ys:Array α}
theorem K_at {i:Nat} {x:α} (h:xs[i]? = some x):K r xs i = r x:=by unfold K; rw [h]; rfl
theorem part_len {i j:Nat} (hj:j ≤ xs.size):(part xs i j).length = j - i:=by
  unfold part; rw [List.length_take,List.length_drop,Array.length_toList]; omega
theorem part_get {i j k:Nat}:(part xs i j)[k]? = if k < j - i then xs[i + k]? else none:=by
  unfold part; rw [List.getElem?_take,List.getElem?_drop,Array.getElem?_toList]
theorem part_mem {i j:Nat} {x:α} (h:x ∈ part xs i j):∃ k,i ≤ k ∧ k < j ∧ xs[k]? = some x:=by
  obtain ⟨k,hk⟩:=List.getElem?_of_mem h
  rw [part_get] at hk
  split at hk
  · exact ⟨i + k,by omega,by omega,hk⟩
  · cases hk
theorem part_split {i j k:Nat} (h1:i ≤ j) (h2:j ≤ k) (hk:k ≤ xs.size):part xs i k = part xs i j ++ part xs j k:=by
  apply List.ext_getElem?
  intro n
  rw [List.getElem?_append,part_len (by omega),part_get,part_get,part_get]
  by_cases c:n < j - i
  · rw [if_pos c,if_pos (by omega),if_pos c]
  · rw [if_neg c]
    by_cases d:n < k - i
    · rw [if_pos d,if_pos (by omega)]; congr 1; omega
    · rw [if_neg d,if_neg (by omega)]
theorem part_one {i:Nat} {x:α} (h:xs[i]? = some x):part xs i (i + 1) = [x]:=by
  apply List.ext_getElem?
  intro n
  rw [part_get]
  cases n with
  | zero => rw [if_pos (by omega)]; exact h
  | succ n => rw [if_neg (by omega)]; rfl
theorem part_nil {i j:Nat} (h:j ≤ i):part xs i j = []:=by unfold part; rw [show j - i = 0 by omega]; rfl
theorem part_all:part xs 0 xs.size = xs.toList:=by
  unfold part; rw [List.drop_zero,Nat.sub_zero,← Array.length_toList,List.take_length]
theorem extract_part {i j:Nat}:(xs.extract i j).toList = part xs i j:=by
  rw [Array.toList_extract]
  unfold part
  rw [List.extract_eq_take_drop]
theorem Up.srt {lo hi:Nat} (h:Up r xs lo hi):Srt (rle r) (part xs lo hi):=by
  unfold Srt
  rw [List.pairwise_iff_getElem]
  intro i j h1 h2 hij
  have e1:=List.getElem?_eq_getElem h1
  have e2:=List.getElem?_eq_getElem h2
  rw [part_get] at e1 e2
  split at e1
  · split at e2
    · have:=h (lo + i) (lo + j) (by omega) (by omega) (by omega)
      rw [K_at e1,K_at e2] at this
      exact this
    · cases e2
  · cases e1
theorem srt_up {lo hi:Nat} (h:Srt (rle r) (part xs lo hi)) (hz:hi ≤ xs.size):Up r xs lo hi:=by
  intro i j h1 h2 h3
  have q1:i - lo < (part xs lo hi).length:=by rw [part_len hz]; omega
  have q2:j - lo < (part xs lo hi).length:=by rw [part_len hz]; omega
  have:=(List.pairwise_iff_getElem.mp h) (i - lo) (j - lo) q1 q2 (by omega)
  have e1:=List.getElem?_eq_getElem q1
  have e2:=List.getElem?_eq_getElem q2
  rw [part_get,if_pos (by omega),show lo + (i - lo) = i by omega] at e1
  rw [part_get,if_pos (by omega),show lo + (j - lo) = j by omega] at e2
  rw [K_at e1,K_at e2]
  exact this
theorem Up.le {lo hi i j:Nat} (h:Up r xs lo hi) (h1:lo ≤ i) (h2:i ≤ j) (h3:j < hi):K r xs i ≤ K r xs j:=by
  rcases Nat.lt_or_ge i j with q | q
  · exact h i j h1 q h3
  · rw [show i = j by omega]; exact Nat.le_refl _
theorem Up.sub {lo hi lo' hi':Nat} (h:Up r xs lo hi) (h1:lo ≤ lo') (h2:hi' ≤ hi):Up r xs lo' hi':=fun i j a b c => h i j (by omega) b (by omega)
theorem Up.rev {lo hi:Nat} (h:Up r xs lo hi):Srt (rge r) (part xs lo hi).reverse:=List.pairwise_reverse.mpr h.srt
theorem write_go:∀ (m:List α) (k sa:Nat) (xs:Array α),sa + k + m.length ≤ xs.size →
    ((m.zipIdx k).foldl (fun a (q:α × Nat) => a.setIfInBounds (sa + q.2) q.1) xs).toList = xs.toList.take (sa + k) ++ m ++ xs.toList.drop (sa + k + m.length)
  | [],k,sa,xs,_ => by
    show xs.toList = _
    rw [List.append_nil]; exact (List.take_append_drop _ _).symm
  | x :: m,k,sa,xs,h => by
    rw [List.zipIdx_cons,List.foldl_cons,write_go m (k + 1) sa _ (by rw [Array.size_setIfInBounds]; simp only [List.length_cons] at h; omega)]
    simp only [List.length_cons] at h ⊢
    rw [Array.toList_setIfInBounds,← Nat.add_assoc,List.take_set,List.drop_set_of_lt (by omega)]
    have hl:sa + k < xs.toList.length:=by rw [Array.length_toList]; omega
    rw [List.take_succ_eq_append_getElem hl]
    have e:(xs.toList.take (sa + k)).length = sa + k:=by rw [List.length_take]; omega
    rw [List.set_append_right _ _ (by omega),e,Nat.sub_self]
    simp only [List.set_cons_zero,List.append_assoc,List.singleton_append,List.cons_append,List.nil_append]
    rw [show sa + k + 1 + m.length = sa + k + (m.length + 1) by omega]
theorem write_at {m:List α} {sa:Nat} {xs:Array α} (h:sa + m.length ≤ xs.size) :
    ((m.zipIdx).foldl (fun a (q:α × Nat) => a.setIfInBounds (sa + q.2) q.1) xs).toList = xs.toList.take sa ++ m ++ xs.toList.drop (sa + m.length):=write_go m 0 sa xs h
theorem take_part {i:Nat}:xs.toList.take i = part xs 0 i:=by unfold part; rw [List.drop_zero,Nat.sub_zero]
theorem drop_part {i:Nat}:xs.toList.drop i = part xs i xs.size:=by
  unfold part
  rw [List.take_of_length_le]
  rw [List.length_drop,Array.length_toList]; exact Nat.le_refl _
end
end TS
namespace TS
open PySem PyProof.Rows
noncomputable def gallop':Bool → Keyed → Array Keyed → Nat → Nat → Nat → StateT SortSt Sem (Option Nat):=sortPriv% PySem.Builtin.gallop
noncomputable def mergeLo':Array Keyed → Array Keyed → StateT SortSt Sem (Array Keyed):=sortPriv% PySem.Builtin.mergeLo
noncomputable def mergeHi':Array Keyed → Array Keyed → StateT SortSt Sem (Array Keyed):=sortPriv% PySem.Builtin.mergeHi
section
variable {prog:Program} {w:World} {A:Around} {E:Value → Shared → Prop} {s:Shared} {κ:SortKind} {S:Keyed → Prop} {r:Keyed → Nat} {st:SortSt}
noncomputable def Cmp (prog:Program) (w:World) (A:Around) (s:Shared) (κ:SortKind) (S:Keyed → Prop) (r:Keyed → Nat):Prop :=
  ∀ (x y:Keyed) (Q:Bool → Shared → Prop),S x → S y → Q (decide (r x < r y)) s → wpAny (model prog w) A (keyLt' κ x.1 y.1) Q (fun _ _ => False) s
theorem lt_ (C:Cmp prog w A s κ S r) {x y:Keyed} {Q:Option Bool → SortSt → Prop} (hk:kindOf st = κ) (hx:S x) (hy:S y) (h:Q (some (decide (r x < r y))) st) :
    wpS (model prog w) A E s (lt' x y) Q st:=by
  rw [lt'_eq]
  refine wpS_bind (wpS_get ?_)
  rw [hk]
  refine wpS_bind (wpS_lift (wpAny_attempt (wpAny_mono (C x y (fun c s' => c = decide (r x < r y) ∧ s' = s) hx hy ⟨rfl,rfl⟩) (fun c s' q => ⟨q.2,?_⟩) fun _ _ q => q.elim)))
  rw [q.1]
  exact wpS_pure h
theorem elem_ {xs:Array Keyed} {i:Nat} {x:Keyed} {Q:Keyed → SortSt → Prop} (e:xs[i]? = some x) (h:Q x st):wpS (model prog w) A E s (elem' xs i) Q st:=by
  rw [elem'_eq,e]
  exact wpS_pure h
theorem ltAt_ (C:Cmp prog w A s κ S r) {i j:Nat} {x y:Keyed} {Q:Option Bool → SortSt → Prop} (hk:kindOf st = κ) (e1:(arrOf st)[i]? = some x) (e2:(arrOf st)[j]? = some y) (hx:S x) (hy:S y) (h:Q (some (decide (r x < r y))) st) :
    wpS (model prog w) A E s (ltAt' i j) Q st:=by
  rw [ltAt'_eq]
  exact wpS_bind (wpS_get (wpS_bind (elem_ e1 (wpS_bind (elem_ e2 (lt_ C hk hx hy h))))))
noncomputable def bey (left:Bool) (k n:Nat):Bool:=if left then decide (n < k) else !(decide (k < n))
theorem bey_le {left:Bool} {k n m:Nat} (h:n ≤ m) (hb:bey left k m = true):bey left k n = true:=by
  unfold bey at *
  cases left
  · simp at hb ⊢; omega
  · simp at hb ⊢; omega
theorem bey_ge {left:Bool} {k n m:Nat} (h:n ≤ m) (hb:bey left k n = false):bey left k m = false:=by
  cases z:bey left k m with
  | false => rfl
  | true => rw [bey_le h z] at hb; cases hb
theorem at_of {xs:Array Keyed} {i:Nat} (h:i < xs.size):∃ x,xs[i]? = some x ∧ x ∈ xs ∧ K r xs i = r x:=⟨xs[i],getElem?_pos xs i h,Array.getElem_mem h,K_at (getElem?_pos xs i h)⟩
theorem bey_ (C:Cmp prog w A s κ S r) {left:Bool} {key:Keyed} {xs:Array Keyed} {i:Nat} {Q:Option Bool → SortSt → Prop} (hk:kindOf st = κ) (hS:∀ x ∈ xs,S x) (hy:S key) (hi:i < xs.size) (h:Q (some (bey left (r key) (K r xs i))) st) :
    wpS (model prog w) A E s (elem' xs i >>= fun y => if left = true then lt' y key else lt' key y >>= fun c => pure (c.map (!·))) Q st:=by
  obtain ⟨x,e,m,ek⟩:=at_of (r:=r) hi
  rw [ek] at h
  refine wpS_bind (elem_ e ?_)
  cases left with
  | true => exact lt_ C hk (hS x m) hy h
  | false => exact wpS_bind (lt_ C hk hy (hS x m) (wpS_pure h))
theorem gallop_ (C:Cmp prog w A s κ S r) {left:Bool} {key:Keyed} {xs:Array Keyed} {base n hint:Nat} {Q:Option Nat → SortSt → Prop} (hk:kindOf st = κ) (hS:∀ x ∈ xs,S x) (hy:S key) (hz:base + n ≤ xs.size) (hh:hint < n) (up:Up r xs base (base + n))
    (h:∀ k,k ≤ n → (∀ i,i < k → bey left (r key) (K r xs (base + i)) = true) → (∀ i,k ≤ i → i < n → bey left (r key) (K r xs (base + i)) = false) → Q (some k) st) :
    wpS (model prog w) A E s (gallop' left key xs base n hint) Q st:=by
  obtain ⟨b,eb⟩:∃ b:Nat → Bool,∀ i,b i = bey left (r key) (K r xs (base + i)):=⟨_,fun _ => rfl⟩
  have lo_:∀ i j,i ≤ j → j < n → b j = true → b i = true:=fun i j a c d => by
    rw [eb] at d ⊢
    exact bey_le (up.le (by omega) (by omega) (by omega)) d
  have hi_:∀ i j,i ≤ j → j < n → b i = false → b j = false:=fun i j a c d => by
    rw [eb] at d ⊢
    exact bey_ge (up.le (by omega) (by omega) (by omega)) d
  have ask:∀ {i:Nat} {Q:Option Bool → SortSt → Prop},i < n → Q (some (b i)) st → wpS (model prog w) A E s (elem' xs (base + i) >>= fun y => if left = true then lt' y key else lt' key y >>= fun c => pure (c.map (!·))) Q st:=by
    intro i Q hi q
    rw [eb] at q
    exact bey_ C hk hS hy (by omega) q
  simp only [← eb] at h
  unfold gallop'
  refine wpS_bind (ask hh ?_)
  dsimp only
  cases c:b hint with
  | true =>
    rw [if_pos rfl]
    refine wpS_bind (wpS_mono (wpS_forRange (I:=fun x z st' => st' = st ∧ ∃ l o,z = (none,l,o) ∧ x + 1 ≤ o ∧ l < o ∧ hint + l < n ∧ b (hint + l) = true) (Q:=fun z st' => st' = st ∧ ∃ l o,z = (none,l,o) ∧ l < o ∧ hint + l < n ∧ b (hint + l) = true ∧ (o < n - hint → b (hint + o) = false)) ?_ ?_ ⟨rfl,0,1,rfl,by omega,by omega,by omega,c⟩) ?_)
    · rintro x z st' _ hx ⟨e,l,o,rfl,h1,h2,h3,h4⟩
      rw [e]
      dsimp only
      by_cases q:o ≥ n - hint
      · rw [if_pos q]
        exact wpS_pure ⟨rfl,l,o,rfl,h2,h3,h4,fun z => absurd z (by omega)⟩
      · rw [if_neg q]
        refine wpS_bind (ask (by omega) ?_)
        dsimp only
        cases d:b (hint + o) with
        | true => exact wpS_pure ⟨rfl,o,2 * o + 1,rfl,by omega,by omega,by omega,d⟩
        | false => exact wpS_pure ⟨rfl,l,o,rfl,h2,h3,h4,fun _ => d⟩
    · rintro z st' ⟨e,l,o,rfl,h1,h2,h3,h4⟩
      exact ⟨e,l,o,rfl,h2,h3,h4,fun z => absurd z (by omega)⟩
    · rintro z st' ⟨e,l,o,rfl,h2,h3,h4,h5⟩
      rw [e]
      dsimp only
      obtain ⟨lo,hlo⟩:∃ lo,lo = hint + l + 1:=⟨_,rfl⟩
      obtain ⟨hi,hhi⟩:∃ hi,hi = hint + min o (n - hint):=⟨_,rfl⟩
      rw [← hlo,← hhi]
      have g1:lo ≤ hi:=by omega
      have g2:hi ≤ n:=by omega
      have g3:∀ i,i < lo → b i = true:=fun i q => lo_ i (hint + l) (by omega) h3 h4
      have g4:∀ i,hi ≤ i → i < n → b i = false:=fun i q q2 => hi_ (hint + o) i (by omega) q2 (h5 (by omega))
      clear hlo hhi
      refine wpS_bind (wpS_mono (wpS_forRange (I:=fun x z st' => st' = st ∧ ∃ lo hi,z = (none,lo,hi) ∧ lo ≤ hi ∧ hi ≤ n ∧ hi - lo + x ≤ n ∧ (∀ i,i < lo → b i = true) ∧ ∀ i,hi ≤ i → i < n → b i = false) (Q:=fun z st' => st' = st ∧ ∃ k,z = (none,k,k) ∧ k ≤ n ∧ (∀ i,i < k → b i = true) ∧ ∀ i,k ≤ i → i < n → b i = false) ?_ ?_ ⟨rfl,lo,hi,rfl,g1,g2,by omega,g3,g4⟩) ?_)
      · rintro x z st' _ hx ⟨e,lo,hi,rfl,h1,h2,h3,h4,h5⟩
        rw [e]
        dsimp only
        by_cases q:lo ≥ hi
        · rw [if_pos q]
          have:lo = hi:=by omega
          subst this
          exact wpS_pure ⟨rfl,lo,rfl,h2,h4,h5⟩
        · rw [if_neg q]
          refine wpS_bind (ask (by omega) ?_)
          dsimp only
          cases d:b (lo + (hi - lo) / 2) with
          | true => exact wpS_pure ⟨rfl,_,hi,rfl,by omega,h2,by omega,fun i q => lo_ i _ (by omega) (by omega) d,h5⟩
          | false => exact wpS_pure ⟨rfl,lo,_,rfl,by omega,by omega,by omega,h4,fun i q q2 => hi_ _ i q q2 d⟩
      · rintro z st' ⟨e,lo,hi,rfl,h1,h2,h3,h4,h5⟩
        have:lo = hi:=by omega
        subst this
        exact ⟨e,lo,rfl,h2,h4,h5⟩
      · rintro z st' ⟨e,k,rfl,h1,h2,h3⟩
        rw [e]
        exact wpS_pure (h k h1 h2 h3)
  | false =>
    rw [if_neg Bool.false_ne_true]
    refine wpS_bind (wpS_mono (wpS_forRange (I:=fun x z st' => st' = st ∧ ∃ l o,z = (none,l,o) ∧ x + 1 ≤ o ∧ l < o ∧ l ≤ hint ∧ b (hint - l) = false) (Q:=fun z st' => st' = st ∧ ∃ l o,z = (none,l,o) ∧ l < o ∧ l ≤ hint ∧ b (hint - l) = false ∧ (o < hint + 1 → b (hint - o) = true)) ?_ ?_ ⟨rfl,0,1,rfl,by omega,by omega,by omega,c⟩) ?_)
    · rintro x z st' _ hx ⟨e,l,o,rfl,h1,h2,h3,h4⟩
      rw [e]
      dsimp only
      by_cases q:o ≥ hint + 1
      · rw [if_pos q]
        exact wpS_pure ⟨rfl,l,o,rfl,h2,h3,h4,fun z => absurd z (by omega)⟩
      · rw [if_neg q]
        refine wpS_bind (ask (by omega) ?_)
        dsimp only
        cases d:b (hint - o) with
        | true => exact wpS_pure ⟨rfl,l,o,rfl,h2,h3,h4,fun _ => d⟩
        | false => exact wpS_pure ⟨rfl,o,2 * o + 1,rfl,by omega,by omega,by omega,d⟩
    · rintro z st' ⟨e,l,o,rfl,h1,h2,h3,h4⟩
      exact ⟨e,l,o,rfl,h2,h3,h4,fun z => absurd z (by omega)⟩
    · rintro z st' ⟨e,l,o,rfl,h2,h3,h4,h5⟩
      rw [e]
      dsimp only
      obtain ⟨lo,hlo⟩:∃ lo,lo = hint + 1 - min o (hint + 1):=⟨_,rfl⟩
      obtain ⟨hi,hhi⟩:∃ hi,hi = hint - l:=⟨_,rfl⟩
      rw [← hlo,← hhi]
      have g1:lo ≤ hi:=by omega
      have g2:hi ≤ n:=by omega
      have g3:∀ i,i < lo → b i = true:=fun i q => lo_ i (hint - o) (by omega) (by omega) (h5 (by omega))
      have g4:∀ i,hi ≤ i → i < n → b i = false:=fun i q q2 => hi_ (hint - l) i (by omega) q2 h4
      clear hlo hhi
      refine wpS_bind (wpS_mono (wpS_forRange (I:=fun x z st' => st' = st ∧ ∃ lo hi,z = (none,lo,hi) ∧ lo ≤ hi ∧ hi ≤ n ∧ hi - lo + x ≤ n ∧ (∀ i,i < lo → b i = true) ∧ ∀ i,hi ≤ i → i < n → b i = false) (Q:=fun z st' => st' = st ∧ ∃ k,z = (none,k,k) ∧ k ≤ n ∧ (∀ i,i < k → b i = true) ∧ ∀ i,k ≤ i → i < n → b i = false) ?_ ?_ ⟨rfl,lo,hi,rfl,g1,g2,by omega,g3,g4⟩) ?_)
      · rintro x z st' _ hx ⟨e,lo,hi,rfl,h1,h2,h3,h4,h5⟩
        rw [e]
        dsimp only
        by_cases q:lo ≥ hi
        · rw [if_pos q]
          have:lo = hi:=by omega
          subst this
          exact wpS_pure ⟨rfl,lo,rfl,h2,h4,h5⟩
        · rw [if_neg q]
          refine wpS_bind (ask (by omega) ?_)
          dsimp only
          cases d:b (lo + (hi - lo) / 2) with
          | true => exact wpS_pure ⟨rfl,_,hi,rfl,by omega,h2,by omega,fun i q => lo_ i _ (by omega) (by omega) d,h5⟩
          | false => exact wpS_pure ⟨rfl,lo,_,rfl,by omega,by omega,by omega,h4,fun i q q2 => hi_ _ i q q2 d⟩
      · rintro z st' ⟨e,lo,hi,rfl,h1,h2,h3,h4,h5⟩
        have:lo = hi:=by omega
        subst this
        exact ⟨e,lo,rfl,h2,h4,h5⟩
      · rintro z st' ⟨e,k,rfl,h1,h2,h3⟩
        rw [e]
        exact wpS_pure (h k h1 h2 h3)
end
end TS
namespace TS
open PySem PyProof.Rows
section
variable {prog:Program} {w:World} {A:Around} {E:Value → Shared → Prop} {s:Shared} {κ:SortKind} {S:Keyed → Prop} {r:Keyed → Nat} {st:SortSt}
noncomputable abbrev Gs (st:SortSt) (g:Nat):SortSt:=SortSt.mk' (kindOf st) (arrOf st) (pendingOf st) g (failedOf st)
theorem wpS_if {α:Type} {c:Prop} [Decidable c] {m1 m2:StateT SortSt Sem α} {Q:α → SortSt → Prop} {M:Model} (h1:c → wpS M A E s m1 Q st) (h2:¬c → wpS M A E s m2 Q st):wpS M A E s (if c then m1 else m2) Q st:=by
  by_cases q:c
  · rw [if_pos q]; exact h1 q
  · rw [if_neg q]; exact h2 q
theorem wpS_ife {α:Type} {x y:Nat} {m1 m2:StateT SortSt Sem α} {Q:α → SortSt → Prop} {M:Model} (h1:x = y → wpS M A E s m1 Q st) (h2:x ≠ y → wpS M A E s m2 Q st):wpS M A E s (if (x == y) = true then m1 else m2) Q st :=
  wpS_if (fun q => h1 (beq_iff_eq.mp q)) fun q => h2 fun z => q (beq_iff_eq.mpr z)
noncomputable def Good (r:Keyed → Nat) (a b m:Array Keyed):Prop:=m.toList.Perm (a.toList ++ b.toList) ∧ Srt (rle r) m.toList
structure Mm (r:Keyed → Nat) (a b out:Array Keyed) (ia ib:Nat):Prop where
  la:ia ≤ a.size
  lb:ib ≤ b.size
  me:Mer (rle r) (a.toList ++ b.toList) out.toList (part a ia a.size) (part b ib b.size)
section
variable {a b out:Array Keyed} {ia ib:Nat} (ua:Up r a 0 a.size) (ub:Up r b 0 b.size)
include ua ub
theorem Mm.as_ (h:Mm r a b out ia ib) (k:Nat) (hk:ia + k ≤ a.size) (l:ib < b.size → ∀ i,i < k → K r a (ia + i) ≤ K r b ib):Mm r a b (out ++ a.extract ia (ia + k)) (ia + k) ib:=by
  refine ⟨hk,h.lb,?_⟩
  have m:=h.me
  rw [part_split (i:=ia) (j:=ia + k) (by omega) hk (Nat.le_refl _)] at m
  rw [Array.toList_append,extract_part]
  refine m.a fun x hx y hy => ?_
  obtain ⟨i,i1,i2,i3⟩:=part_mem hx
  obtain ⟨j,j1,j2,j3⟩:=part_mem hy
  show r x ≤ r y
  rw [← K_at (r:=r) i3,← K_at (r:=r) j3]
  have:=l (by omega) (i - ia) (by omega)
  rw [show ia + (i - ia) = i by omega] at this
  exact Nat.le_trans this (ub.le (Nat.zero_le _) j1 j2)
theorem Mm.bs_ (h:Mm r a b out ia ib) (k:Nat) (hk:ib + k ≤ b.size) (l:ia < a.size → ∀ i,i < k → K r b (ib + i) ≤ K r a ia):Mm r a b (out ++ b.extract ib (ib + k)) ia (ib + k):=by
  refine ⟨h.la,hk,?_⟩
  have m:=h.me
  rw [part_split (i:=ib) (j:=ib + k) (by omega) hk (Nat.le_refl _)] at m
  rw [Array.toList_append,extract_part]
  refine m.b fun x hx y hy => ?_
  obtain ⟨i,i1,i2,i3⟩:=part_mem hx
  obtain ⟨j,j1,j2,j3⟩:=part_mem hy
  show r x ≤ r y
  rw [← K_at (r:=r) i3,← K_at (r:=r) j3]
  have:=l (by omega) (i - ib) (by omega)
  rw [show ib + (i - ib) = i by omega] at this
  exact Nat.le_trans this (ua.le (Nat.zero_le _) j1 j2)
theorem Mm.a1 (h:Mm r a b out ia ib) {x:Keyed} (e:a[ia]? = some x) (l:ib < b.size → r x ≤ K r b ib):Mm r a b (out.push x) (ia + 1) ib:=by
  have hz:ia < a.size:=(Array.getElem?_eq_some_iff.mp e).1
  have q:=h.as_ ua ub 1 hz fun z i hi => by
    rw [show ia + i = ia by omega,K_at e]; exact l z
  have:(out ++ a.extract ia (ia + 1)) = out.push x:=by
    apply Array.toList_inj.mp
    rw [Array.toList_append,extract_part,part_one e,Array.toList_push]
  rwa [this] at q
theorem Mm.b1 (h:Mm r a b out ia ib) {x:Keyed} (e:b[ib]? = some x) (l:ia < a.size → r x ≤ K r a ia):Mm r a b (out.push x) ia (ib + 1):=by
  have hz:ib < b.size:=(Array.getElem?_eq_some_iff.mp e).1
  have q:=h.bs_ ua ub 1 hz fun z i hi => by
    rw [show ib + i = ib by omega,K_at e]; exact l z
  have:(out ++ b.extract ib (ib + 1)) = out.push x:=by
    apply Array.toList_inj.mp
    rw [Array.toList_append,extract_part,part_one e,Array.toList_push]
  rwa [this] at q
omit ua ub in
theorem Mm.done (h:Mm r a b out ia ib) (l:ia = a.size ∨ ib = b.size):Good r a b (out ++ a.extract ia ++ b.extract ib):=by
  unfold Good
  rw [Array.toList_append,Array.toList_append,extract_part,extract_part]
  refine h.me.fin fun x hx y hy => ?_
  obtain ⟨i,i1,i2,i3⟩:=part_mem hx
  obtain ⟨j,j1,j2,j3⟩:=part_mem hy
  omega
omit ua in
theorem Mm.last (h:Mm r a b out ia ib) (l:ia + 1 = a.size) (hl:K r b (b.size - 1) ≤ K r a (a.size - 1)):Good r a b (out ++ b.extract ib ++ a.extract ia):=by
  unfold Good
  rw [Array.toList_append,Array.toList_append,extract_part,extract_part]
  refine h.me.swap.fin fun x hx y hy => ?_
  obtain ⟨i,i1,i2,i3⟩:=part_mem hx
  obtain ⟨j,j1,j2,j3⟩:=part_mem hy
  show r x ≤ r y
  rw [← K_at (r:=r) i3,← K_at (r:=r) j3,show j = a.size - 1 by omega]
  exact Nat.le_trans (ub.le (Nat.zero_le _) (by omega) (by omega)) hl
end
theorem mergeLo_ (C:Cmp prog w A s κ S r) {a b:Array Keyed} {Q:Array Keyed → SortSt → Prop} (hk:kindOf st = κ) (hSa:∀ x ∈ a,S x) (hSb:∀ x ∈ b,S x) (ua:Up r a 0 a.size) (ub:Up r b 0 b.size) (ha:1 ≤ a.size) (hb:1 ≤ b.size)
    (h0:K r b 0 ≤ K r a 0) (hl:K r b (b.size - 1) ≤ K r a (a.size - 1)) (h:∀ m g,Good r a b m → Q m (Gs st g)) :
    wpS (model prog w) A E s (mergeLo' a b) Q st:=by
  unfold mergeLo'
  refine wpS_bind (wpS_lift (wpAny_rule ⟨rfl,?_⟩))
  obtain ⟨y0,e0,m0,k0⟩:=at_of (r:=r) (xs:=b) (i:=0) (by omega)
  refine wpS_bind (elem_ e0 ?_)
  dsimp only
  have M0:Mm r a b #[] 0 0:=⟨Nat.zero_le _,Nat.zero_le _,by
    rw [part_all,part_all]
    exact ⟨List.Perm.refl _,List.Pairwise.nil,by rw [← part_all]; exact ua.srt,by rw [← part_all]; exact ub.srt,(by intro _ m; cases m),(by intro _ m; cases m)⟩⟩
  have M1:Mm r a b #[y0] 0 1:=M0.b1 ua ub e0 fun _ => by rw [← k0]; exact h0
  refine wpS_ife (fun q => wpS_pure (h _ (gallopOf st) (M1.done (.inr q)))) fun q1 => ?_
  refine wpS_ife (fun q => wpS_pure (h _ (gallopOf st) (M1.last ub q hl))) fun q2 => ?_
  refine wpS_bind (wpS_get ?_)
  refine wpS_bind (wpS_mono (wpS_forRange (I:=fun x z st' => (∃ g,st' = Gs st g) ∧ ∃ out ia ib mg,z = (none,out,ia,ib,mg) ∧ Mm r a b out ia ib ∧ ia + 1 < a.size ∧ ib < b.size ∧ x < ia + ib)
    (Q:=fun z st' => (∃ g,st' = Gs st g) ∧ ∃ m y,z = (some m,y) ∧ Good r a b m) ?_ ?_ ⟨⟨gallopOf st,rfl⟩,_,0,1,_,rfl,M1,by omega,by omega,by omega⟩) ?_)
  · rintro x z st' _ hx ⟨⟨g,e⟩,out,ia,ib,mg,rfl,m,l1,l2,l3⟩
    dsimp only
    refine wpS_bind (wpS_mono (wpS_forRange (I:=fun x' z st' => (∃ g,st' = Gs st g) ∧ ∃ out ia' ib' c1 c2,z = (none,out,ia',ib',c1,c2) ∧ Mm r a b out ia' ib' ∧ ia' + 1 < a.size ∧ ib' < b.size ∧ ia + ib + x' ≤ ia' + ib')
      (Q:=fun z st' => (∃ g,st' = Gs st g) ∧ ((∃ m y,z = (some m,y) ∧ Good r a b m) ∨ ∃ out ia' ib' c1 c2,z = (none,out,ia',ib',c1,c2) ∧ Mm r a b out ia' ib' ∧ ia' + 1 < a.size ∧ ib' < b.size ∧ ia + ib + 1 ≤ ia' + ib')) ?_ ?_ ⟨⟨g,e⟩,out,ia,ib,0,0,rfl,m,l1,l2,by omega⟩) ?_)
    · rintro x' z st2 _ hx' ⟨⟨g,e⟩,out,ia',ib',c1,c2,rfl,m,l1,l2,l3⟩
      dsimp only
      obtain ⟨y,ey,my,ky⟩:=at_of (r:=r) l2
      obtain ⟨z,ez,mz,kz⟩:=at_of (r:=r) (xs:=a) (i:=ia') (by omega)
      have hk2:kindOf st2 = κ:=by rw [e]; exact hk
      refine wpS_bind (elem_ ey (wpS_bind (elem_ ez (wpS_bind (lt_ C hk2 (hSb y my) (hSa z mz) ?_)))))
      dsimp only
      refine wpS_if (fun q => ?_) fun q => ?_
      · have m2:=m.b1 ua ub ey fun _ => by rw [kz]; have:=of_decide_eq_true q; omega
        refine wpS_bind (elem_ ey ?_)
        refine wpS_ife (fun q => wpS_pure ⟨⟨g,e⟩,.inl ⟨_,_,rfl,m2.done (.inr q)⟩⟩) fun q3 => ?_
        exact wpS_if (fun q => wpS_pure ⟨⟨g,e⟩,.inr ⟨_,_,_,_,_,rfl,m2,l1,by omega,by omega⟩⟩) fun q => wpS_pure ⟨⟨g,e⟩,_,_,_,_,_,rfl,m2,l1,by omega,by omega⟩
      · have m2:=m.a1 ua ub ez fun _ => by rw [ky]; have:=of_decide_eq_false (by simpa using q:decide (r y < r z) = false); omega
        refine wpS_bind (elem_ ez ?_)
        refine wpS_ife (fun q => wpS_pure ⟨⟨g,e⟩,.inl ⟨_,_,rfl,m2.last ub q hl⟩⟩) fun q3 => ?_
        exact wpS_if (fun q => wpS_pure ⟨⟨g,e⟩,.inr ⟨_,_,_,_,_,rfl,m2,by omega,l2,by omega⟩⟩) fun q => wpS_pure ⟨⟨g,e⟩,_,_,_,_,_,rfl,m2,by omega,l2,by omega⟩
    · rintro z st2 ⟨e,out,ia',ib',c1,c2,rfl,m,l1,l2,l3⟩
      exact ⟨e,.inr ⟨out,ia',ib',c1,c2,rfl,m,l1,l2,by omega⟩⟩
    · rintro z st2 ⟨e,⟨m,y,rfl,gd⟩ | ⟨out,ia1,ib1,c1,c2,rfl,m,l1,l2,l4⟩⟩
      · exact wpS_pure ⟨e,_,_,rfl,gd⟩
      · dsimp only
        refine wpS_bind (wpS_lift (wpAny_rule ⟨rfl,?_⟩))
        refine wpS_bind (wpS_mono (wpS_forRange (I:=fun x' z st' => (∃ g,st' = Gs st g) ∧ ∃ out ia' ib' mg c1 c2,z = (none,out,ia',ib',mg,c1,c2) ∧ Mm r a b out ia' ib' ∧ ia' + 1 < a.size ∧ ib' < b.size ∧ ia + ib + 1 ≤ ia' + ib')
          (Q:=fun z st' => (∃ g,st' = Gs st g) ∧ ((∃ m y,z = (some m,y) ∧ Good r a b m) ∨ ∃ out ia' ib' mg c1 c2,z = (none,out,ia',ib',mg,c1,c2) ∧ Mm r a b out ia' ib' ∧ ia' + 1 < a.size ∧ ib' < b.size ∧ ia + ib + 1 ≤ ia' + ib')) ?_ ?_ ⟨e,out,ia1,ib1,_,c1,c2,rfl,m,l1,l2,by omega⟩) ?_)
        · rintro x' z st3 _ hx' ⟨⟨g,e⟩,out,ia,ib,mg,c1,c2,rfl,m,l1,l2,l3⟩
          dsimp only
          obtain ⟨y,ey,my,ky⟩:=at_of (r:=r) l2
          have set_:∀ (mg:Nat) {Q:PUnit → SortSt → Prop},Q ⟨⟩ (Gs st mg) → wpS (model prog w) A E s (modify fun s:SortSt => Gs s mg) Q st3:=by
            intro mg Q q
            refine wpS_modify ?_
            rw [e]; exact q
          refine wpS_if (fun qg => ?_) fun qg => ?_
          all_goals
            refine wpS_bind (set_ _ ?_)
            refine wpS_bind (elem_ ey (wpS_bind (gallop_ C hk hSa (hSb y my) (by omega) (by omega) (ua.sub (by omega) (by omega)) fun k k1 k2 k3 => ?_)))
            dsimp only
            have mk:=m.as_ ua ub k (by omega) fun _ i hi => by
              have:=k2 i hi
              unfold bey at this
              simp only [Bool.false_eq_true,if_false,Bool.not_eq_true',decide_eq_false_iff_not] at this
              omega
            have nx:ia + k < a.size → r y ≤ K r a (ia + k):=fun z => by
              have:=k3 k (Nat.le_refl _) (by omega)
              unfold bey at this
              simp only [Bool.false_eq_true,if_false,Bool.not_eq_false',decide_eq_true_eq] at this
              omega
            refine wpS_if (fun qk => wpS_ife (fun q => wpS_pure ⟨⟨_,rfl⟩,.inl ⟨_,_,rfl,mk.last ub q hl⟩⟩) fun q1 => wpS_ife (fun q => wpS_pure ⟨⟨_,rfl⟩,.inl ⟨_,_,rfl,mk.done (.inl q)⟩⟩) fun q2 => ?_) fun qk => ?_
            obtain ⟨out1,eo⟩:∃ z,z = out ++ a.extract ia (ia + k):=⟨_,rfl⟩
            obtain ⟨ia1,ei⟩:∃ z,z = ia + k:=⟨_,rfl⟩
            rw [← eo,← ei]
            rw [← eo,← ei] at mk
            rw [← ei] at nx
            have l4:ia1 + 1 < a.size:=by omega
            rotate_left
            have k0:k = 0:=by omega
            subst k0
            obtain ⟨out1,eo⟩:∃ z,z = out:=⟨_,rfl⟩
            obtain ⟨ia1,ei⟩:∃ z,z = ia:=⟨_,rfl⟩
            replace mk:Mm r a b out ia ib:=m
            rw [Nat.add_zero,← ei] at nx
            rw [← eo,← ei] at mk ⊢
            have l4:ia1 + 1 < a.size:=by omega
            all_goals
              have m2:=mk.b1 ua ub ey nx
              refine wpS_bind (elem_ ey ?_)
              refine wpS_ife (fun q => wpS_pure ⟨⟨_,rfl⟩,.inl ⟨_,_,rfl,m2.done (.inr q)⟩⟩) fun q3 => ?_
              obtain ⟨x1,ex,mx,kx⟩:=at_of (r:=r) (xs:=a) (i:=ia1) (by omega)
              refine wpS_bind (elem_ ex (wpS_bind (gallop_ C hk hSb (hSa x1 mx) (by omega) (by omega) (ub.sub (by omega) (by omega)) fun j j1 j2 j3 => ?_)))
              dsimp only
              have mj:=m2.bs_ ua ub j (by omega) fun _ i hi => by
                have:=j2 i hi
                unfold bey at this
                simp only [if_true,decide_eq_true_eq] at this
                omega
              have nj:ib + 1 + j < b.size → r x1 ≤ K r b (ib + 1 + j):=fun z => by
                have:=j3 j (Nat.le_refl _) (by omega)
                unfold bey at this
                simp only [if_true,decide_eq_false_iff_not] at this
                omega
              refine wpS_if (fun qj => wpS_ife (fun q => wpS_pure ⟨⟨_,rfl⟩,.inl ⟨_,_,rfl,mj.done (.inr q)⟩⟩) fun q4 => ?_) fun qj => ?_
              obtain ⟨ib2,ej⟩:∃ z,z = ib + 1 + j:=⟨_,rfl⟩
              rw [← ej] at mj nj ⊢
              have l5:ib2 < b.size:=by omega
              rotate_left
              have j0:j = 0:=by omega
              subst j0
              replace mj:=m2
              obtain ⟨ib2,ej⟩:∃ z,z = ib + 1:=⟨_,rfl⟩
              rw [Nat.add_zero,← ej] at nj
              rw [← ej] at mj ⊢
              have l5:ib2 < b.size:=by omega
              all_goals
                have m3:=mj.a1 ua ub ex nj
                refine wpS_bind (elem_ ex ?_)
                refine wpS_ife (fun q => wpS_pure ⟨⟨_,rfl⟩,.inl ⟨_,_,rfl,m3.last ub q hl⟩⟩) fun q5 => ?_
                exact wpS_if (fun q => wpS_pure ⟨⟨_,rfl⟩,.inr ⟨_,_,_,_,_,_,rfl,m3,by omega,by omega,by omega⟩⟩) fun q => wpS_pure ⟨⟨_,rfl⟩,_,_,_,_,_,_,rfl,m3,by omega,by omega,by omega⟩
        · rintro z st3 ⟨e,out,ia',ib',mg,c1,c2,rfl,m,l1,l2,l3⟩
          exact ⟨e,.inr ⟨out,ia',ib',mg,c1,c2,rfl,m,l1,l2,l3⟩⟩
        · rintro z st3 ⟨⟨g,e⟩,⟨m,y,rfl,gd⟩ | ⟨out,ia1,ib1,mg,c1,c2,rfl,m,l1,l2,l4⟩⟩
          · exact wpS_pure ⟨⟨g,e⟩,_,_,rfl,gd⟩
          · dsimp only
            refine wpS_bind (wpS_modify (wpS_pure ⟨⟨mg + 1,?_⟩,_,_,_,_,rfl,m,l1,l2,by omega⟩))
            rw [e]
  · rintro z st' ⟨e,out,ia,ib,mg,rfl,m,l1,l2,l3⟩
    omega
  · rintro z st' ⟨⟨g,e⟩,m,y,rfl,gd⟩
    rw [e]
    exact wpS_pure (h m g gd)
end
end TS
namespace TS
open PySem PyProof.Rows
section
variable {prog:Program} {w:World} {A:Around} {E:Value → Shared → Prop} {s:Shared} {κ:SortKind} {S:Keyed → Prop} {r:Keyed → Nat} {st:SortSt}
structure Mh (r:Keyed → Nat) (a b out:Array Keyed) (na nb:Nat):Prop where
  la:na ≤ a.size
  lb:nb ≤ b.size
  me:Mer (rge r) (a.toList ++ b.toList) out.toList (part a 0 na).reverse (part b 0 nb).reverse
section
variable {a b out:Array Keyed} {na nb:Nat} (ua:Up r a 0 a.size) (ub:Up r b 0 b.size)
include ua ub
theorem Mh.as_ (h:Mh r a b out na nb) {k:Nat} (hk:k ≤ na) (l:0 < nb → ∀ i,k ≤ i → i < na → K r b (nb - 1) ≤ K r a i):Mh r a b (out ++ (a.extract k na).reverse) k nb:=by
  have la:=h.la
  have lb:=h.lb
  refine ⟨by omega,h.lb,?_⟩
  have m:=h.me
  rw [part_split (i:=0) (j:=k) (by omega) hk h.la,List.reverse_append] at m
  rw [Array.toList_append,Array.toList_reverse,extract_part]
  refine m.a fun x hx y hy => ?_
  obtain ⟨i,i1,i2,i3⟩:=part_mem (List.mem_reverse.mp hx)
  obtain ⟨j,j1,j2,j3⟩:=part_mem (List.mem_reverse.mp hy)
  show r y ≤ r x
  rw [← K_at (r:=r) i3,← K_at (r:=r) j3]
  exact Nat.le_trans (ub.le (Nat.zero_le _) (by omega) (by omega)) (l (by omega) i i1 i2)
theorem Mh.bs_ (h:Mh r a b out na nb) {k:Nat} (hk:k ≤ nb) (l:0 < na → ∀ i,k ≤ i → i < nb → K r a (na - 1) ≤ K r b i):Mh r a b (out ++ (b.extract k nb).reverse) na k:=by
  have la:=h.la
  have lb:=h.lb
  refine ⟨h.la,by omega,?_⟩
  have m:=h.me
  rw [part_split (i:=0) (j:=k) (by omega) hk h.lb,List.reverse_append] at m
  rw [Array.toList_append,Array.toList_reverse,extract_part]
  refine m.b fun x hx y hy => ?_
  obtain ⟨i,i1,i2,i3⟩:=part_mem (List.mem_reverse.mp hx)
  obtain ⟨j,j1,j2,j3⟩:=part_mem (List.mem_reverse.mp hy)
  show r y ≤ r x
  rw [← K_at (r:=r) i3,← K_at (r:=r) j3]
  exact Nat.le_trans (ua.le (Nat.zero_le _) (by omega) (by omega)) (l (by omega) i i1 i2)
theorem Mh.a1 (h:Mh r a b out na nb) (hn:0 < na) {x:Keyed} (e:a[na - 1]? = some x) (l:0 < nb → K r b (nb - 1) ≤ r x):Mh r a b (out.push x) (na - 1) nb:=by
  have q:=h.as_ ua ub (k:=na - 1) (by omega) fun z i i1 i2 => by
    rw [show i = na - 1 by omega,K_at e]; exact l z
  have:(out ++ (a.extract (na - 1) na).reverse) = out.push x:=by
    apply Array.toList_inj.mp
    have e2:=part_one e
    rw [show na - 1 + 1 = na by omega] at e2
    rw [Array.toList_append,Array.toList_reverse,extract_part,e2,Array.toList_push,List.reverse_singleton]
  rwa [this] at q
theorem Mh.b1 (h:Mh r a b out na nb) (hn:0 < nb) {x:Keyed} (e:b[nb - 1]? = some x) (l:0 < na → K r a (na - 1) ≤ r x):Mh r a b (out.push x) na (nb - 1):=by
  have q:=h.bs_ ua ub (k:=nb - 1) (by omega) fun z i i1 i2 => by
    rw [show i = nb - 1 by omega,K_at e]; exact l z
  have:(out ++ (b.extract (nb - 1) nb).reverse) = out.push x:=by
    apply Array.toList_inj.mp
    have e2:=part_one e
    rw [show nb - 1 + 1 = nb by omega] at e2
    rw [Array.toList_append,Array.toList_reverse,extract_part,e2,Array.toList_push,List.reverse_singleton]
  rwa [this] at q
omit ua ub in
theorem Mh.done (h:Mh r a b out na nb) (l:na = 0 ∨ nb = 0):Good r a b (a.extract 0 na ++ b.extract 0 nb ++ out.reverse):=by
  unfold Good
  rw [Array.toList_append,Array.toList_append,Array.toList_reverse,extract_part,extract_part]
  have f:=h.me.fin fun x hx y hy => by
    obtain ⟨i,i1,i2,i3⟩:=part_mem (List.mem_reverse.mp hx)
    obtain ⟨j,j1,j2,j3⟩:=part_mem (List.mem_reverse.mp hy)
    omega
  have e:part a 0 na ++ part b 0 nb ++ out.toList.reverse = (out.toList ++ (part a 0 na).reverse ++ (part b 0 nb).reverse).reverse:=by
    rw [List.reverse_append,List.reverse_append,List.reverse_reverse,List.reverse_reverse,← List.append_assoc]
    rcases l with z | z
    · rw [z,part_nil (Nat.le_refl _),List.append_nil,List.nil_append]
    · rw [z,part_nil (Nat.le_refl _),List.append_nil,List.nil_append]
  rw [e]
  exact ⟨(List.reverse_perm _).trans f.1,List.pairwise_reverse.mpr f.2⟩
omit ub in
theorem Mh.first (h:Mh r a b out na nb) (l:nb = 1) (h0:K r b 0 ≤ K r a 0):Good r a b (b.extract 0 nb ++ a.extract 0 na ++ out.reverse):=by
  have la:=h.la
  unfold Good
  rw [Array.toList_append,Array.toList_append,Array.toList_reverse,extract_part,extract_part]
  have f:=h.me.fin fun x hx y hy => by
    obtain ⟨i,i1,i2,i3⟩:=part_mem (List.mem_reverse.mp hx)
    obtain ⟨j,j1,j2,j3⟩:=part_mem (List.mem_reverse.mp hy)
    show r y ≤ r x
    rw [← K_at (r:=r) i3,← K_at (r:=r) j3,show j = 0 by omega]
    exact Nat.le_trans h0 (ua.le (Nat.le_refl _) (Nat.zero_le _) (by omega))
  have e:part b 0 nb ++ part a 0 na ++ out.toList.reverse = (out.toList ++ (part a 0 na).reverse ++ (part b 0 nb).reverse).reverse:=by
    rw [List.reverse_append,List.reverse_append,List.reverse_reverse,List.reverse_reverse,← List.append_assoc]
  rw [e]
  exact ⟨(List.reverse_perm _).trans f.1,List.pairwise_reverse.mpr f.2⟩
end
theorem mergeHi_ (C:Cmp prog w A s κ S r) {a b:Array Keyed} {Q:Array Keyed → SortSt → Prop} (hk:kindOf st = κ) (hSa:∀ x ∈ a,S x) (hSb:∀ x ∈ b,S x) (ua:Up r a 0 a.size) (ub:Up r b 0 b.size) (ha:1 ≤ a.size) (hb:1 ≤ b.size)
    (h0:K r b 0 ≤ K r a 0) (hl:K r b (b.size - 1) ≤ K r a (a.size - 1)) (h:∀ m g,Good r a b m → Q m (Gs st g)) :
    wpS (model prog w) A E s (mergeHi' a b) Q st:=by
  unfold mergeHi'
  refine wpS_bind (wpS_lift (wpAny_rule ⟨rfl,?_⟩))
  obtain ⟨y0,e0,m0,k0⟩:=at_of (r:=r) (xs:=a) (i:=a.size - 1) (by omega)
  refine wpS_bind (elem_ e0 ?_)
  dsimp only
  have M0:Mh r a b #[] a.size b.size:=⟨Nat.le_refl _,Nat.le_refl _,by
    rw [part_all,part_all]
    exact ⟨(List.reverse_perm _).append (List.reverse_perm _),List.Pairwise.nil,by rw [← part_all]; exact ua.rev,by rw [← part_all]; exact ub.rev,(by intro _ m; cases m),(by intro _ m; cases m)⟩⟩
  have M1:Mh r a b #[y0] (a.size - 1) b.size:=M0.a1 ua ub (by omega) e0 fun _ => by rw [← k0]; exact hl
  refine wpS_ife (fun q => wpS_pure (h _ (gallopOf st) (M1.done (.inl q)))) fun q1 => ?_
  refine wpS_ife (fun q => wpS_pure (h _ (gallopOf st) (M1.first ua q h0))) fun q2 => ?_
  refine wpS_bind (wpS_get ?_)
  refine wpS_bind (wpS_mono (wpS_forRange (I:=fun x z st' => (∃ g,st' = Gs st g) ∧ ∃ na nb out mg,z = (none,na,nb,out,mg) ∧ Mh r a b out na nb ∧ 0 < na ∧ 1 < nb ∧ x + na + nb < a.size + b.size)
    (Q:=fun z st' => (∃ g,st' = Gs st g) ∧ ∃ m y,z = (some m,y) ∧ Good r a b m) ?_ ?_ ⟨⟨gallopOf st,rfl⟩,_,_,_,_,rfl,M1,by omega,by omega,by omega⟩) ?_)
  · rintro x z st' _ hx ⟨⟨g,e⟩,na,nb,out,mg,rfl,m,l1,l2,l3⟩
    dsimp only
    refine wpS_bind (wpS_mono (wpS_forRange (I:=fun x' z st' => (∃ g,st' = Gs st g) ∧ ∃ na' nb' out c1 c2,z = (none,na',nb',out,c1,c2) ∧ Mh r a b out na' nb' ∧ 0 < na' ∧ 1 < nb' ∧ na' + nb' + x' ≤ na + nb)
      (Q:=fun z st' => (∃ g,st' = Gs st g) ∧ ((∃ m y,z = (some m,y) ∧ Good r a b m) ∨ ∃ na' nb' out c1 c2,z = (none,na',nb',out,c1,c2) ∧ Mh r a b out na' nb' ∧ 0 < na' ∧ 1 < nb' ∧ na' + nb' + 1 ≤ na + nb)) ?_ ?_ ⟨⟨g,e⟩,na,nb,out,0,0,rfl,m,l1,l2,by omega⟩) ?_)
    · rintro x' z st2 _ hx' ⟨⟨g,e⟩,na',nb',out,c1,c2,rfl,m,l1,l2,l3⟩
      dsimp only
      have ma:=m.la
      have mb:=m.lb
      obtain ⟨y,ey,my,ky⟩:=at_of (r:=r) (xs:=b) (i:=nb' - 1) (by omega)
      obtain ⟨z,ez,mz,kz⟩:=at_of (r:=r) (xs:=a) (i:=na' - 1) (by omega)
      have hk2:kindOf st2 = κ:=by rw [e]; exact hk
      refine wpS_bind (elem_ ey (wpS_bind (elem_ ez (wpS_bind (lt_ C hk2 (hSb y my) (hSa z mz) ?_)))))
      dsimp only
      refine wpS_if (fun q => ?_) fun q => ?_
      · have m2:=m.a1 ua ub l1 ez fun _ => by rw [ky]; have:=of_decide_eq_true q; omega
        refine wpS_bind (elem_ ez ?_)
        refine wpS_ife (fun q => wpS_pure ⟨⟨g,e⟩,.inl ⟨_,_,rfl,m2.done (.inl q)⟩⟩) fun q3 => ?_
        exact wpS_if (fun q => wpS_pure ⟨⟨g,e⟩,.inr ⟨_,_,_,_,_,rfl,m2,by omega,l2,by omega⟩⟩) fun q => wpS_pure ⟨⟨g,e⟩,_,_,_,_,_,rfl,m2,by omega,l2,by omega⟩
      · have m2:=m.b1 ua ub (by omega) ey fun _ => by rw [kz]; have:=of_decide_eq_false (by simpa using q:decide (r y < r z) = false); omega
        refine wpS_bind (elem_ ey ?_)
        refine wpS_ife (fun q => wpS_pure ⟨⟨g,e⟩,.inl ⟨_,_,rfl,m2.first ua q h0⟩⟩) fun q3 => ?_
        exact wpS_if (fun q => wpS_pure ⟨⟨g,e⟩,.inr ⟨_,_,_,_,_,rfl,m2,l1,by omega,by omega⟩⟩) fun q => wpS_pure ⟨⟨g,e⟩,_,_,_,_,_,rfl,m2,l1,by omega,by omega⟩
    · rintro z st2 ⟨e,na',nb',out,c1,c2,rfl,m,l1,l2,l3⟩
      exact ⟨e,.inr ⟨na',nb',out,c1,c2,rfl,m,l1,l2,by omega⟩⟩
    · rintro z st2 ⟨e,⟨m,y,rfl,gd⟩ | ⟨na1,nb1,out,c1,c2,rfl,m,l1,l2,l4⟩⟩
      · exact wpS_pure ⟨e,_,_,rfl,gd⟩
      · dsimp only
        refine wpS_bind (wpS_lift (wpAny_rule ⟨rfl,?_⟩))
        refine wpS_bind (wpS_mono (wpS_forRange (I:=fun x' z st' => (∃ g,st' = Gs st g) ∧ ∃ na' nb' out mg c1 c2,z = (none,na',nb',out,mg,c1,c2) ∧ Mh r a b out na' nb' ∧ 0 < na' ∧ 1 < nb' ∧ na' + nb' + 1 ≤ na + nb)
          (Q:=fun z st' => (∃ g,st' = Gs st g) ∧ ((∃ m y,z = (some m,y) ∧ Good r a b m) ∨ ∃ na' nb' out mg c1 c2,z = (none,na',nb',out,mg,c1,c2) ∧ Mh r a b out na' nb' ∧ 0 < na' ∧ 1 < nb' ∧ na' + nb' + 1 ≤ na + nb)) ?_ ?_ ⟨e,na1,nb1,out,_,c1,c2,rfl,m,l1,l2,by omega⟩) ?_)
        · rintro x' z st3 _ hx' ⟨⟨g,e⟩,na,nb,out,mg,c1,c2,rfl,m,l1,l2,l3⟩
          dsimp only
          have ma:=m.la
          have mb:=m.lb
          obtain ⟨y,ey,my,ky⟩:=at_of (r:=r) (xs:=b) (i:=nb - 1) (by omega)
          have set_:∀ (mg:Nat) {Q:PUnit → SortSt → Prop},Q ⟨⟩ (Gs st mg) → wpS (model prog w) A E s (modify fun s:SortSt => Gs s mg) Q st3:=by
            intro mg Q q
            refine wpS_modify ?_
            rw [e]; exact q
          refine wpS_if (fun qg => ?_) fun qg => ?_
          all_goals
            refine wpS_bind (set_ _ ?_)
            refine wpS_bind (elem_ ey (wpS_bind (gallop_ C hk hSa (hSb y my) (by omega) (by omega) (ua.sub (by omega) (by omega)) fun k k1 k2 k3 => ?_)))
            dsimp only
            simp only [Nat.zero_add] at k2 k3
            have mk:=m.as_ ua ub k1 fun _ i i1 i2 => by
              have:=k3 i i1 i2
              unfold bey at this
              simp only [Bool.false_eq_true,if_false,Bool.not_eq_false',decide_eq_true_eq] at this
              omega
            have nx:0 < k → K r a (k - 1) ≤ r y:=fun z => by
              have:=k2 (k - 1) (by omega)
              unfold bey at this
              simp only [Bool.false_eq_true,if_false,Bool.not_eq_true',decide_eq_false_iff_not] at this
              omega
            refine wpS_if (fun qk => wpS_ife (fun q => wpS_pure ⟨⟨_,rfl⟩,.inl ⟨_,_,rfl,mk.done (.inl q)⟩⟩) fun q2 => ?_) fun qk => ?_
            obtain ⟨out1,eo⟩:∃ z,z = out ++ (a.extract k na).reverse:=⟨_,rfl⟩
            rw [← eo] at mk ⊢
            rotate_left
            have k0:k = na:=by omega
            subst k0
            obtain ⟨out1,eo⟩:∃ z,z = out:=⟨_,rfl⟩
            replace mk:=m
            rw [← eo] at mk ⊢
            all_goals
              have kp:0 < k:=by omega
              have m2:=mk.b1 ua ub (by omega) ey nx
              refine wpS_bind (elem_ ey ?_)
              refine wpS_ife (fun q => wpS_pure ⟨⟨_,rfl⟩,.inl ⟨_,_,rfl,m2.first ua q h0⟩⟩) fun q3 => ?_
              obtain ⟨x1,ex,mx,kx⟩:=at_of (r:=r) (xs:=a) (i:=k - 1) (by omega)
              refine wpS_bind (elem_ ex (wpS_bind (gallop_ C hk hSb (hSa x1 mx) (by omega) (by omega) (ub.sub (by omega) (by omega)) fun j j1 j2 j3 => ?_)))
              dsimp only
              simp only [Nat.zero_add] at j2 j3
              have mj:=m2.bs_ ua ub j1 fun _ i i1 i2 => by
                have:=j3 i i1 i2
                unfold bey at this
                simp only [if_true,decide_eq_false_iff_not] at this
                omega
              have nj:0 < j → K r b (j - 1) ≤ r x1:=fun z => by
                have:=j2 (j - 1) (by omega)
                unfold bey at this
                simp only [if_true,decide_eq_true_eq] at this
                omega
              refine wpS_if (fun qj => wpS_ife (fun q => wpS_pure ⟨⟨_,rfl⟩,.inl ⟨_,_,rfl,mj.first ua q h0⟩⟩) fun q4 => wpS_ife (fun q => wpS_pure ⟨⟨_,rfl⟩,.inl ⟨_,_,rfl,mj.done (.inr q)⟩⟩) fun q5 => ?_) fun qj => ?_
              rotate_left
              have j0:j = nb - 1:=by omega
              subst j0
              replace mj:=m2
              all_goals
                have m3:=mj.a1 ua ub kp ex nj
                refine wpS_bind (elem_ ex ?_)
                refine wpS_ife (fun q => wpS_pure ⟨⟨_,rfl⟩,.inl ⟨_,_,rfl,m3.done (.inl q)⟩⟩) fun q5 => ?_
                exact wpS_if (fun q => wpS_pure ⟨⟨_,rfl⟩,.inr ⟨_,_,_,_,_,_,rfl,m3,by omega,by omega,by omega⟩⟩) fun q => wpS_pure ⟨⟨_,rfl⟩,_,_,_,_,_,_,rfl,m3,by omega,by omega,by omega⟩
        · rintro z st3 ⟨e,na',nb',out,mg,c1,c2,rfl,m,l1,l2,l3⟩
          exact ⟨e,.inr ⟨na',nb',out,mg,c1,c2,rfl,m,l1,l2,l3⟩⟩
        · rintro z st3 ⟨⟨g,e⟩,⟨m,y,rfl,gd⟩ | ⟨na1,nb1,out,mg,c1,c2,rfl,m,l1,l2,l4⟩⟩
          · exact wpS_pure ⟨⟨g,e⟩,_,_,rfl,gd⟩
          · dsimp only
            refine wpS_bind (wpS_modify (wpS_pure ⟨⟨mg + 1,?_⟩,_,_,_,_,rfl,m,l1,l2,by omega⟩))
            rw [e]
  · rintro z st' ⟨e,na,nb,out,mg,rfl,m,l1,l2,l3⟩
    omega
  · rintro z st' ⟨⟨g,e⟩,m,y,rfl,gd⟩
    rw [e]
    exact wpS_pure (h m g gd)
end
end TS
namespace TS
open PySem PyProof.Rows
theorem repl {α:Type} {X Y:Array α} {L M M' R:List α} (h1:X.toList = L ++ M ++ R) (h2:Y.toList = L ++ M' ++ R) (hl:M'.length = M.length) :
    Y.size = X.size ∧ (∀ j,j < L.length ∨ L.length + M.length ≤ j → Y[j]? = X[j]?) ∧ part Y L.length (L.length + M.length) = M':=by
  refine ⟨?_,fun j hj => ?_,?_⟩
  · rw [← Array.length_toList,← Array.length_toList,h1,h2]; simp only [List.length_append,hl]
  · rw [← Array.getElem?_toList,← Array.getElem?_toList,h1,h2]
    rcases hj with hj | hj
    · rw [List.append_assoc,List.append_assoc,List.getElem?_append_left hj,List.getElem?_append_left hj]
    · rw [List.getElem?_append_right (by rw [List.length_append]; omega),List.getElem?_append_right (by rw [List.length_append]; omega),List.length_append,List.length_append,hl]
  · unfold part
    rw [h2,List.append_assoc,List.drop_left,Nat.add_sub_cancel_left,← hl,List.take_left]
section
variable {prog:Program} {w:World} {A:Around} {E:Value → Shared → Prop} {s:Shared} {κ:SortKind} {S:Keyed → Prop} {r:Keyed → Nat} {st:SortSt}
theorem wpS_set {σ:Type} {M:Model} {st st':σ} {Q:PUnit → σ → Prop} (h:Q ⟨⟩ st'):wpS M A E s (set st':StateT σ Sem PUnit) Q st:=by
  unfold wpS; rw [StateT.run_set]; exact wpAny_pure ⟨rfl,h⟩
theorem mergeAt_ (C:Cmp prog w A s κ S r) {X:Array Keyed} {pend:Array (Nat × Nat × Nat)} {mg i sa na p nb q:Nat} {L1 L2:List (Nat × Nat × Nat)} {Q:Bool → SortSt → Prop} (hS:∀ x ∈ X,S x)
    (hp:pend.toList = L1 ++ (sa,na,p) :: (sa + na,nb,q) :: L2) (hi:i = L1.length) (h1:0 < na) (h2:0 < nb) (hz:sa + na + nb ≤ X.size) (u1:Up r X sa (sa + na)) (u2:Up r X (sa + na) (sa + na + nb))
    (h:∀ Y pd g,Y.toList.Perm X.toList → (∀ j,j < sa ∨ sa + na + nb ≤ j → Y[j]? = X[j]?) → Up r Y sa (sa + na + nb) → pd.toList = L1 ++ (sa,na + nb,p) :: L2 → Q true (SortSt.mk' κ Y pd g none)) :
    wpS (model prog w) A E s (mergeAt' i) Q (SortSt.mk' κ X pend mg none):=by
  have p1:pend[i]? = some (sa,na,p):=by
    rw [← Array.getElem?_toList,hp,hi,List.getElem?_append_right (Nat.le_refl _),Nat.sub_self]; rfl
  have p2:pend[i + 1]? = some (sa + na,nb,q):=by
    rw [← Array.getElem?_toList,hp,hi,List.getElem?_append_right (by omega),show L1.length + 1 - L1.length = 1 by omega]; rfl
  obtain ⟨pd,epd⟩:∃ pd,pd = (pend.setIfInBounds i (sa,na + nb,p)).eraseIdxIfInBounds (i + 1):=⟨_,rfl⟩
  have hpd:pd.toList = L1 ++ (sa,na + nb,p) :: L2:=by
    rw [epd,Array.toList_eraseIdxIfInBounds,Array.toList_setIfInBounds,hp,hi,List.set_append_right _ _ (Nat.le_refl _),Nat.sub_self,List.set_cons_zero,List.eraseIdx_append_of_length_le (by omega),show L1.length + 1 - L1.length = 1 by omega]
    rfl
  unfold mergeAt'
  refine wpS_bind (wpS_get ?_)
  dsimp only
  rw [p1,p2]
  dsimp only
  refine wpS_bind (wpS_set ?_)
  rw [← epd]
  obtain ⟨y,ey,my,ky⟩:=at_of (r:=r) (xs:=X) (i:=sa + na) (by omega)
  refine wpS_bind (elem_ ey ?_)
  refine wpS_bind (gallop_ C rfl hS (hS y my) (by omega) h1 u1 fun k k1 k2 k3 => ?_)
  dsimp only
  have lo:∀ i,sa ≤ i → i < sa + k → K r X i ≤ K r X (sa + na):=fun i i1 i2 => by
    have:=k2 (i - sa) (by omega)
    rw [show sa + (i - sa) = i by omega] at this
    unfold bey at this
    simp only [Bool.false_eq_true,if_false,Bool.not_eq_true',decide_eq_false_iff_not] at this
    omega
  refine wpS_ife (fun z => wpS_pure (h X pd mg (List.Perm.refl _) (fun _ _ => rfl) (fun i j a1 a2 a3 => ?_) hpd)) fun z => ?_
  · rcases Nat.lt_or_ge j (sa + na) with c | c
    · exact u1 i j a1 a2 c
    · rcases Nat.lt_or_ge i (sa + na) with d | d
      · exact Nat.le_trans (lo i a1 (by omega)) (u2.le (Nat.le_refl _) c a3)
      · exact u2 i j d a2 a3
  obtain ⟨x,ex,mx,kx⟩:=at_of (r:=r) (xs:=X) (i:=sa + na - 1) (by omega)
  have em:sa + k + (na - k) - 1 = sa + na - 1:=by omega
  rw [em]
  refine wpS_bind (elem_ ex ?_)
  refine wpS_bind (gallop_ C rfl hS (hS x mx) (by omega) (by omega) u2 fun m m1 m2 m3 => ?_)
  dsimp only
  have up:∀ i,sa + na + m ≤ i → i < sa + na + nb → K r X (sa + na - 1) ≤ K r X i:=fun i i1 i2 => by
    have:=m3 (i - (sa + na)) (by omega) (by omega)
    rw [show sa + na + (i - (sa + na)) = i by omega] at this
    unfold bey at this
    simp only [if_true,decide_eq_false_iff_not] at this
    omega
  refine wpS_ife (fun z => wpS_pure (h X pd mg (List.Perm.refl _) (fun _ _ => rfl) (fun i j a1 a2 a3 => ?_) hpd)) fun z2 => ?_
  · rcases Nat.lt_or_ge j (sa + na) with c | c
    · exact u1 i j a1 a2 c
    · rcases Nat.lt_or_ge i (sa + na) with d | d
      · exact Nat.le_trans (u1.le a1 (by omega) (by omega)) (up j (by omega) a3)
      · exact u2 i j d a2 a3
  obtain ⟨a,ea⟩:∃ a,a = X.extract (sa + k) (sa + na):=⟨_,rfl⟩
  obtain ⟨b,eb⟩:∃ b,b = X.extract (sa + na) (sa + na + m):=⟨_,rfl⟩
  rw [← ea,← eb]
  have za:a.size = na - k:=by rw [ea,Array.size_extract]; omega
  have zb:b.size = m:=by rw [eb,Array.size_extract]; omega
  have Ka:∀ i,i < a.size → K r a i = K r X (sa + k + i):=fun i hi => by
    unfold K
    rw [ea,Array.getElem?_extract_of_lt (by omega),getElem?_pos X _ (by omega)]
  have Kb:∀ i,i < b.size → K r b i = K r X (sa + na + i):=fun i hi => by
    unfold K
    rw [eb,Array.getElem?_extract_of_lt (by omega),getElem?_pos X _ (by omega)]
  have ua:Up r a 0 a.size:=fun i j _ a2 a3 => by rw [Ka i (by omega),Ka j a3]; exact u1 _ _ (by omega) (by omega) (by omega)
  have ub:Up r b 0 b.size:=fun i j _ a2 a3 => by rw [Kb i (by omega),Kb j a3]; exact u2 _ _ (by omega) (by omega) (by omega)
  have sa_:∀ x ∈ a,S x:=fun x hx => by
    rw [ea,← Array.mem_toList_iff,extract_part] at hx
    obtain ⟨j,_,_,j3⟩:=part_mem hx
    exact hS x (Array.mem_of_getElem? j3)
  have sb_:∀ x ∈ b,S x:=fun x hx => by
    rw [eb,← Array.mem_toList_iff,extract_part] at hx
    obtain ⟨j,_,_,j3⟩:=part_mem hx
    exact hS x (Array.mem_of_getElem? j3)
  have h0:K r b 0 ≤ K r a 0:=by
    rw [Ka 0 (by omega),Kb 0 (by omega)]
    have:=k3 k (Nat.le_refl _) (by omega)
    unfold bey at this
    simp only [Bool.false_eq_true,if_false,Bool.not_eq_false',decide_eq_true_eq] at this
    rw [Nat.add_zero,Nat.add_zero]
    omega
  have hl:K r b (b.size - 1) ≤ K r a (a.size - 1):=by
    rw [Ka _ (by omega),Kb _ (by omega)]
    have:=m2 (b.size - 1) (by omega)
    unfold bey at this
    simp only [if_true,decide_eq_true_eq] at this
    rw [show sa + k + (a.size - 1) = sa + na - 1 by omega]
    omega
  have fin:∀ (mgd:Array Keyed) (g:Nat),Good r a b mgd → Q true (SortSt.mk' κ (mgd.toList.zipIdx.foldl (fun a (q:Keyed × Nat) => a.setIfInBounds (sa + k + q.2) q.1) X) pd g none):=by
    intro mgd g gd
    obtain ⟨g1,g2⟩:=gd
    have ll:mgd.toList.length = na - k + m:=by
      have:=g1.length_eq
      rw [List.length_append,Array.length_toList (xs:=a),Array.length_toList (xs:=b)] at this
      omega
    obtain ⟨Y,eY⟩:∃ Y,Y = mgd.toList.zipIdx.foldl (fun a (q:Keyed × Nat) => a.setIfInBounds (sa + k + q.2) q.1) X:=⟨_,rfl⟩
    rw [← eY]
    have yl:=write_at (m:=mgd.toList) (sa:=sa + k) (xs:=X) (by omega)
    rw [← eY,take_part,drop_part,ll,show sa + k + (na - k + m) = sa + na + m by omega] at yl
    rw [part_split (i:=0) (j:=sa) (k:=sa + k) (by omega) (by omega) (by omega),part_split (i:=sa + na + m) (j:=sa + na + nb) (k:=X.size) (by omega) (by omega) (by omega)] at yl
    have xl:X.toList = part X 0 sa ++ part X sa (sa + na + nb) ++ part X (sa + na + nb) X.size:=by
      rw [← part_split (by omega) (by omega) (by omega),← part_split (by omega) (by omega) (by omega),part_all]
    have xm:part X sa (sa + na + nb) = part X sa (sa + k) ++ (a.toList ++ b.toList) ++ part X (sa + na + m) (sa + na + nb):=by
      rw [ea,eb,extract_part,extract_part,← part_split (by omega) (by omega) (by omega),← part_split (by omega) (by omega) (by omega),← part_split (by omega) (by omega) (by omega)]
    have yl':Y.toList = part X 0 sa ++ (part X sa (sa + k) ++ mgd.toList ++ part X (sa + na + m) (sa + na + nb)) ++ part X (sa + na + nb) X.size:=by
      rw [yl]; simp only [List.append_assoc]
    have pm:(part X sa (sa + k) ++ mgd.toList ++ part X (sa + na + m) (sa + na + nb)).Perm (part X sa (sa + na + nb)):=by
      rw [xm]
      exact (List.Perm.append_left _ g1).append_right _
    obtain ⟨r1,r2,r3⟩:=repl xl yl' pm.length_eq
    rw [part_len (by omega),part_len (by omega),Nat.sub_zero,show sa + (sa + na + nb - sa) = sa + na + nb by omega] at r2 r3
    refine h Y pd g ?_ r2 (srt_up ?_ (by omega)) hpd
    · rw [xl,yl']
      exact (List.Perm.append_left _ pm).append_right _
    · rw [r3]
      unfold Srt
      have mem:∀ x ∈ mgd.toList,∃ j,sa + k ≤ j ∧ j < sa + na + m ∧ X[j]? = some x:=fun x hx => by
        have:=g1.mem_iff.mp hx
        rw [ea,eb,extract_part,extract_part,← part_split (by omega) (by omega) (by omega)] at this
        exact part_mem this
      rw [List.append_assoc]
      refine List.pairwise_append.mpr ⟨(u1.sub (Nat.le_refl _) (by omega)).srt,List.pairwise_append.mpr ⟨g2,(u2.sub (by omega) (Nat.le_refl _)).srt,fun x hx y hy => ?_⟩,fun x hx y hy => ?_⟩
      · obtain ⟨i,i1,i2,i3⟩:=mem x hx
        obtain ⟨j,j1,j2,j3⟩:=part_mem hy
        show r x ≤ r y
        rw [← K_at (r:=r) i3,← K_at (r:=r) j3]
        rcases Nat.lt_or_ge i (sa + na) with d | d
        · exact Nat.le_trans (u1.le (by omega) (by omega) (by omega)) (up j j1 j2)
        · exact u2.le d (by omega) j2
      · obtain ⟨i,i1,i2,i3⟩:=part_mem hx
        have:∃ j,sa + k ≤ j ∧ j < sa + na + nb ∧ X[j]? = some y:=by
          rcases List.mem_append.mp hy with hy | hy
          · obtain ⟨j,j1,j2,j3⟩:=mem y hy
            exact ⟨j,j1,by omega,j3⟩
          · obtain ⟨j,j1,j2,j3⟩:=part_mem hy
            exact ⟨j,by omega,by omega,j3⟩
        obtain ⟨j,j1,j2,j3⟩:=this
        show r x ≤ r y
        rw [← K_at (r:=r) i3,← K_at (r:=r) j3]
        rcases Nat.lt_or_ge j (sa + na) with d | d
        · exact u1.le i1 (by omega) d
        · exact Nat.le_trans (lo i i1 i2) (u2.le (Nat.le_refl _) d j2)
  refine wpS_if (fun _ => ?_) fun _ => ?_
  · exact wpS_bind (mergeLo_ C rfl sa_ sb_ ua ub (by omega) (by omega) h0 hl fun mgd g gd => wpS_bind (wpS_modify (wpS_bind (wpS_get (wpS_pure (fin mgd g gd))))))
  · exact wpS_bind (mergeHi_ C rfl sa_ sb_ ua ub (by omega) (by omega) h0 hl fun mgd g gd => wpS_bind (wpS_modify (wpS_bind (wpS_get (wpS_pure (fin mgd g gd))))))
end
end TS
namespace TS
open PySem PyProof.Rows
noncomputable def Di (r:Keyed → Nat) (xs:Array Keyed):Prop:=(xs.toList.map r).Nodup
section
variable {r:Keyed → Nat} {X Y:Array Keyed}
theorem Di.to (h:Di r X) (p:Y.toList.Perm X.toList):Di r Y:=(p.map r).nodup_iff.mpr h
theorem Di.ne (h:Di r X) {i j:Nat} (hi:i < X.size) (hj:j < X.size) (e:i ≠ j):K r X i ≠ K r X j:=by
  rw [K_at (getElem?_pos X i hi),K_at (getElem?_pos X j hj)]
  intro z
  have li:i < (X.toList.map r).length:=by rw [List.length_map,Array.length_toList]; exact hi
  have lj:j < (X.toList.map r).length:=by rw [List.length_map,Array.length_toList]; exact hj
  refine e ((List.getElem_inj (h₀:=li) (h₁:=lj) h).mp ?_)
  rw [List.getElem_map,List.getElem_map,Array.getElem_toList,Array.getElem_toList]
  exact z
theorem K_rev {i j k:Nat} (hj:j ≤ X.size):K r (mirror X i j ((j - i) / 2)) k = if i ≤ k ∧ k < j then K r X (i + j - 1 - k) else K r X k:=by
  unfold K
  rw [getElem?_mirror_all hj]
  split <;> rfl
theorem K_bub {src d k:Nat} (hs:src < X.size) (hd:d ≤ src):K r (bubble X src d) k = if k = src - d then K r X src else if src - d < k ∧ k ≤ src then K r X (k - 1) else K r X k:=by
  unfold K
  rw [getElem?_bubble hs d hd]
  split
  · rfl
  · split <;> rfl
theorem Up.more {lo n:Nat} (h1:1 ≤ n) (h:Up r X lo (lo + n)) (l:K r X (lo + n - 1) ≤ K r X (lo + n)):Up r X lo (lo + (n + 1)):=fun i j a b c => by
  rcases Nat.lt_or_ge j (lo + n) with q | q
  · exact h i j a b q
  · rw [show j = lo + n by omega]
    exact Nat.le_trans (h.le a (show i ≤ lo + n - 1 by omega) (by omega)) l
theorem Dn.more {lo n:Nat} (h1:1 ≤ n) (h:Dn r X lo (lo + n)) (l:K r X (lo + n) ≤ K r X (lo + n - 1)):Dn r X lo (lo + (n + 1)):=fun i j a b c => by
  rcases Nat.lt_or_ge j (lo + n) with q | q
  · exact h i j a b q
  · rw [show j = lo + n by omega]
    rcases Nat.lt_or_ge i (lo + n - 1) with z | z
    · exact Nat.le_trans l (h i (lo + n - 1) a z (by omega))
    · rw [show i = lo + n - 1 by omega]; exact l
theorem Up.one {lo:Nat}:Up r X lo (lo + 1):=fun i j a b c => by omega
end
section
variable {prog:Program} {w:World} {A:Around} {E:Value → Shared → Prop} {s:Shared} {κ:SortKind} {S:Keyed → Prop} {r:Keyed → Nat} {pend:Array (Nat × Nat × Nat)} {mg:Nat} {X:Array Keyed}
theorem ask_ (C:Cmp prog w A s κ S r) {i j:Nat} {Q:Option Bool → SortSt → Prop} (hS:∀ x ∈ X,S x) (hi:i < X.size) (hj:j < X.size) (h:Q (some (decide (K r X i < K r X j))) (SortSt.mk' κ X pend mg none)) :
    wpS (model prog w) A E s (ltAt' i j) Q (SortSt.mk' κ X pend mg none):=by
  obtain ⟨x,ex,mx,kx⟩:=at_of (r:=r) hi
  obtain ⟨y,ey,my,ky⟩:=at_of (r:=r) hj
  rw [kx,ky] at h
  exact ltAt_ C rfl ex ey (hS x mx) (hS y my) h
theorem count_ (C:Cmp prog w A s κ S r) {lo nrem:Nat} {Q:Option Nat → SortSt → Prop} (h1:1 ≤ nrem) (hz:lo + nrem ≤ X.size) (hS:∀ x ∈ X,S x) (hd:Di r X)
    (h:∀ n Y,1 ≤ n → n ≤ nrem → Y.toList.Perm X.toList → (∀ j,j < lo → Y[j]? = X[j]?) → Up r Y lo (lo + n) → Q (some n) (SortSt.mk' κ Y pend mg none)) :
    wpS (model prog w) A E s (countRun' lo nrem) Q (SortSt.mk' κ X pend mg none):=by
  unfold countRun'
  refine wpS_bind (wpS_mono (wpS_forRange (I:=fun x z st' => st' = SortSt.mk' κ X pend mg none ∧ z = (none,x) ∧ Up r X lo (lo + x))
    (Q:=fun z st' => st' = SortSt.mk' κ X pend mg none ∧ ∃ n,z = (none,n) ∧ 1 ≤ n ∧ n ≤ nrem ∧ Up r X lo (lo + n) ∧ (n < nrem → K r X (lo + n) < K r X (lo + n - 1))) ?_ ?_ ⟨rfl,rfl,Up.one⟩) ?_)
  · rintro x z st' x1 hx ⟨e,rfl,u⟩
    rw [e]
    refine wpS_bind (ask_ C hS (by omega) (by omega) ?_)
    dsimp only
    refine wpS_if (fun q => wpS_pure ⟨rfl,x,rfl,x1,by omega,u,fun _ => of_decide_eq_true q⟩) fun q => wpS_pure ⟨rfl,rfl,u.more x1 ?_⟩
    have:=of_decide_eq_false (by simpa using q:decide (K r X (lo + x) < K r X (lo + x - 1)) = false)
    omega
  · rintro z st' ⟨e,rfl,u⟩
    rw [show max 1 nrem = nrem by omega] at u ⊢
    exact ⟨e,nrem,rfl,h1,Nat.le_refl _,u,fun q => absurd q (Nat.lt_irrefl _)⟩
  · rintro z st' ⟨e,n,rfl,n1,n2,u,f⟩
    rw [e]
    dsimp only
    refine wpS_ife (fun q => wpS_pure (h n X n1 n2 (List.Perm.refl _) (fun _ _ => rfl) u)) fun q => ?_
    have f':=f (by omega)
    refine wpS_if (fun g => ?_) fun g => ?_
    · refine wpS_bind (ask_ C hS (by omega) (by omega) ?_)
      dsimp only
      have ne:=hd.ne (i:=lo) (j:=lo + n - 1) (by omega) (by omega) (by omega)
      have le:=u.le (Nat.le_refl _) (show lo ≤ lo + n - 1 by omega) (by omega)
      rw [if_pos (decide_eq_true (by omega))]
      exact wpS_pure (h n X n1 n2 (List.Perm.refl _) (fun _ _ => rfl) u)
    · have:n = 1:=by omega
      subst this
      refine wpS_bind (wpS_lift (wpAny_rule ⟨rfl,?_⟩))
      refine wpS_bind (wpS_mono (wpS_forRange (I:=fun x z st' => st' = SortSt.mk' κ X pend mg none ∧ z = (none,x,0) ∧ Dn r X lo (lo + x))
        (Q:=fun z st' => st' = SortSt.mk' κ X pend mg none ∧ ∃ n,z = (none,n,0) ∧ 2 ≤ n ∧ n ≤ nrem ∧ Dn r X lo (lo + n)) ?_ ?_ ⟨rfl,rfl,?_⟩) ?_)
      · rintro x z st' x1 hx ⟨e,rfl,u⟩
        rw [e]
        dsimp only
        refine wpS_bind (ask_ C hS (by omega) (by omega) ?_)
        dsimp only
        refine wpS_if (fun q => ?_) fun q => ?_
        · rw [if_neg (Nat.lt_irrefl _)]
          have:=of_decide_eq_true q
          exact wpS_pure ⟨rfl,rfl,u.more (by omega) (by omega)⟩
        · refine wpS_bind (ask_ C hS (by omega) (by omega) ?_)
          dsimp only
          have ne:=hd.ne (i:=lo + x) (j:=lo + x - 1) (by omega) (by omega) (by omega)
          have:=of_decide_eq_false (by simpa using q:decide (K r X (lo + x) < K r X (lo + x - 1)) = false)
          rw [if_pos (decide_eq_true (by omega))]
          exact wpS_pure ⟨rfl,x,rfl,by omega,by omega,u⟩
      · rintro z st' ⟨e,rfl,u⟩
        rw [show max (1 + 1) nrem = nrem by omega] at u ⊢
        exact ⟨e,nrem,rfl,by omega,Nat.le_refl _,u⟩
      · intro i j a b c
        rw [show i = lo + 1 - 1 by omega,show j = lo + 1 by omega]
        omega
      · rintro z st' ⟨e,n,rfl,n1,n2,dn⟩
        rw [e]
        dsimp only
        rw [if_neg (Nat.lt_irrefl _)]
        obtain ⟨Y,eY⟩:∃ Y,Y = mirror X lo (lo + n) ((lo + n - lo) / 2):=⟨_,rfl⟩
        have zY:Y.size = X.size:=by rw [eY]; exact mirror_size _ _ _ _
        have pY:Y.toList.Perm X.toList:=by rw [eY]; exact Array.perm_iff_toList_perm.mp (mirror_perm _ _ _ _)
        have sY:∀ x ∈ Y,S x:=fun x hx => hS x (Array.mem_toList_iff.mp (pY.mem_iff.mp (Array.mem_toList_iff.mpr hx)))
        have bY:∀ j,j < lo → Y[j]? = X[j]?:=fun j hj => by
          rw [eY,getElem?_mirror_all (by omega),if_neg (by omega)]
        have uY:Up r Y lo (lo + n):=fun i j a b c => by
          rw [eY,K_rev (by omega),K_rev (by omega),if_pos (by omega),if_pos (by omega)]
          exact dn _ _ (by omega) (by omega) (by omega)
        refine wpS_bind (wpS_modify ?_)
        show wpS _ _ _ _ _ _ (SortSt.mk' κ (mirror X lo (lo + n) ((lo + n - lo) / 2)) pend mg none)
        rw [← eY]
        refine wpS_bind (wpS_mono (wpS_forRange (I:=fun x z st' => st' = SortSt.mk' κ Y pend mg none ∧ z = (none,x) ∧ Up r Y lo (lo + x))
          (Q:=fun z st' => st' = SortSt.mk' κ Y pend mg none ∧ ∃ n,z = (none,n) ∧ 1 ≤ n ∧ n ≤ nrem ∧ Up r Y lo (lo + n)) ?_ ?_ ⟨rfl,rfl,uY⟩) ?_)
        · rintro x z st' x1 hx ⟨e,rfl,u⟩
          rw [e]
          refine wpS_bind (ask_ C sY (by omega) (by omega) ?_)
          dsimp only
          refine wpS_if (fun q => wpS_pure ⟨rfl,x,rfl,by omega,by omega,u⟩) fun q => wpS_pure ⟨rfl,rfl,u.more (by omega) ?_⟩
          have:=of_decide_eq_false (by simpa using q:decide (K r Y (lo + x) < K r Y (lo + x - 1)) = false)
          omega
        · rintro z st' ⟨e,rfl,u⟩
          rw [show max n nrem = nrem by omega] at u ⊢
          exact ⟨e,nrem,rfl,h1,Nat.le_refl _,u⟩
        · rintro z st' ⟨e,n,rfl,n1,n2,u⟩
          rw [e]
          exact wpS_pure (h n Y n1 n2 pY bY u)
theorem bin_ (C:Cmp prog w A s κ S r) {lo n ok:Nat} {Q:Bool → SortSt → Prop} (h1:1 ≤ ok) (hz:lo + n ≤ X.size) (hS:∀ x ∈ X,S x) (u:Up r X lo (lo + ok))
    (h:∀ Y,Y.toList.Perm X.toList → (∀ j,j < lo → Y[j]? = X[j]?) → Up r Y lo (lo + n) → Q true (SortSt.mk' κ Y pend mg none)) :
    wpS (model prog w) A E s (binarySort' lo n ok) Q (SortSt.mk' κ X pend mg none):=by
  unfold binarySort'
  refine wpS_bind (wpS_mono (wpS_forRange (I:=fun k z st' => z = (none,()) ∧ ∃ Y,st' = SortSt.mk' κ Y pend mg none ∧ Y.toList.Perm X.toList ∧ (∀ j,j < lo → Y[j]? = X[j]?) ∧ Up r Y lo (lo + k))
    (Q:=fun z st' => z = (none,()) ∧ ∃ Y,st' = SortSt.mk' κ Y pend mg none ∧ Y.toList.Perm X.toList ∧ (∀ j,j < lo → Y[j]? = X[j]?) ∧ Up r Y lo (lo + n)) ?_ ?_ ⟨rfl,X,rfl,List.Perm.refl _,fun _ _ => rfl,by rw [show max ok 1 = ok by omega]; exact u⟩) ?_)
  · rintro k z st' k1 hk ⟨rfl,Y,e,pY,bY,uY⟩
    rw [e]
    have zY:Y.size = X.size:=by rw [← Array.length_toList,pY.length_eq,Array.length_toList]
    have sY:∀ x ∈ Y,S x:=fun x hx => hS x (Array.mem_toList_iff.mp (pY.mem_iff.mp (Array.mem_toList_iff.mpr hx)))
    refine wpS_bind (wpS_mono (wpS_forRange (I:=fun x z st' => st' = SortSt.mk' κ Y pend mg none ∧ ∃ l m,z = (none,l,m) ∧ l ≤ m ∧ m ≤ k ∧ m - l + x ≤ k ∧ (∀ i,i < l → K r Y (lo + i) ≤ K r Y (lo + k)) ∧ ∀ i,m ≤ i → i < k → K r Y (lo + k) ≤ K r Y (lo + i))
      (Q:=fun z st' => st' = SortSt.mk' κ Y pend mg none ∧ ∃ l,z = (none,l,l) ∧ l ≤ k ∧ (∀ i,i < l → K r Y (lo + i) ≤ K r Y (lo + k)) ∧ ∀ i,l ≤ i → i < k → K r Y (lo + k) ≤ K r Y (lo + i)) ?_ ?_ ⟨rfl,0,k,rfl,Nat.zero_le _,Nat.le_refl _,by omega,fun i q => absurd q (Nat.not_lt_zero _),fun i q1 q2 => absurd q1 (by omega)⟩) ?_)
    · rintro x z st' _ hx ⟨e,l,m,rfl,g1,g2,g3,g4,g5⟩
      rw [e]
      dsimp only
      refine wpS_if (fun q => ?_) fun q => ?_
      · have:l = m:=by omega
        subst this
        exact wpS_pure ⟨rfl,l,rfl,g2,g4,g5⟩
      · refine wpS_bind (ask_ C sY (by omega) (by omega) ?_)
        dsimp only
        refine wpS_if (fun q => ?_) fun q => ?_
        · have:=of_decide_eq_true q
          exact wpS_pure ⟨rfl,l,(l + m) / 2,rfl,by omega,by omega,by omega,g4,fun i i1 i2 => Nat.le_trans (Nat.le_of_lt this) (uY.le (by omega) (by omega) (by omega))⟩
        · have:=of_decide_eq_false (by simpa using q:decide (K r Y (lo + k) < K r Y (lo + (l + m) / 2)) = false)
          exact wpS_pure ⟨rfl,(l + m) / 2 + 1,m,rfl,by omega,by omega,by omega,fun i i1 => Nat.le_trans (uY.le (by omega) (show lo + i ≤ lo + (l + m) / 2 by omega) (by omega)) (by omega),g5⟩
    · rintro z st' ⟨e,l,m,rfl,g1,g2,g3,g4,g5⟩
      have:l = m:=by omega
      subst this
      exact ⟨e,l,rfl,g2,g4,g5⟩
    · rintro z st' ⟨e,l,rfl,g2,g4,g5⟩
      rw [e]
      dsimp only
      refine wpS_bind (wpS_modify (wpS_pure ⟨rfl,bubble Y (lo + k) (lo + k - (lo + l)),rfl,?_,fun j hj => ?_,?_⟩))
      · exact (Array.perm_iff_toList_perm.mp (bubble_perm _ _ _)).trans pY
      · rw [getElem?_bubble (by omega) _ (by omega),if_neg (by omega),if_neg (by omega)]
        exact bY j hj
      · intro i j a b c
        rw [K_bub (by omega) (by omega),K_bub (by omega) (by omega),show lo + k - (lo + k - (lo + l)) = lo + l by omega]
        by_cases c1:i = lo + l
        · rw [if_pos c1,if_neg (by omega),if_pos (by omega)]
          have:=g5 (j - 1 - lo) (by omega) (by omega)
          rwa [show lo + (j - 1 - lo) = j - 1 by omega] at this
        · rw [if_neg c1]
          by_cases c2:j = lo + l
          · rw [if_pos c2,if_neg (by omega)]
            have:=g4 (i - lo) (by omega)
            rwa [show lo + (i - lo) = i by omega] at this
          · rw [if_neg c2]
            by_cases c3:lo + l < i
            · rw [if_pos (by omega),if_pos (by omega)]
              exact uY.le (by omega) (by omega) (by omega)
            · rw [if_neg (by omega)]
              by_cases c4:lo + l < j
              · rw [if_pos (by omega)]
                exact uY.le a (by omega) (by omega)
              · rw [if_neg (by omega)]
                exact uY.le a (by omega) (by omega)
  · rintro z st' ⟨rfl,Y,e,pY,bY,uY⟩
    exact ⟨rfl,Y,e,pY,bY,uY.sub (Nat.le_refl _) (by omega)⟩
  · rintro z st' ⟨rfl,Y,e,pY,bY,uY⟩
    rw [e]
    exact wpS_pure (h Y pY bY uY)
end
end TS
namespace TS
open PySem PyProof.Rows
section
variable {r:Keyed → Nat} {X Y:Array Keyed}
noncomputable def Runs (r:Keyed → Nat) (X:Array Keyed):List (Nat × Nat × Nat) → Nat → Nat → Prop
  | [],lo,hi => lo = hi
  | q :: t,lo,hi => q.1 = lo ∧ 0 < q.2.1 ∧ Up r X lo (lo + q.2.1) ∧ Runs r X t (lo + q.2.1) hi
theorem runs_app:∀ {L1 L2:List (Nat × Nat × Nat)} {lo hi:Nat},Runs r X (L1 ++ L2) lo hi ↔ ∃ m,Runs r X L1 lo m ∧ Runs r X L2 m hi
  | [],L2,lo,hi => ⟨fun h => ⟨lo,rfl,h⟩,fun ⟨m,e,h⟩ => by cases e; exact h⟩
  | q :: L1,L2,lo,hi => by
    constructor
    · rintro ⟨a,b,c,d⟩
      obtain ⟨m,h1,h2⟩:=runs_app.mp d
      exact ⟨m,⟨a,b,c,h1⟩,h2⟩
    · rintro ⟨m,⟨a,b,c,d⟩,h2⟩
      exact ⟨a,b,c,runs_app.mpr ⟨m,d,h2⟩⟩
theorem Runs.len:∀ {L:List (Nat × Nat × Nat)} {lo hi:Nat},Runs r X L lo hi → lo + L.length ≤ hi
  | [],lo,hi,h => by cases h; exact Nat.le_refl _
  | q :: L,lo,hi,⟨a,b,c,d⟩ => by
    have:=d.len
    rw [List.length_cons]
    omega
theorem Runs.to:∀ {L:List (Nat × Nat × Nat)} {lo hi:Nat},Runs r X L lo hi → (∀ j,lo ≤ j → j < hi → Y[j]? = X[j]?) → Runs r Y L lo hi
  | [],lo,hi,h,_ => h
  | q :: L,lo,hi,⟨a,b,c,d⟩,e => by
    have l:=d.len
    refine ⟨a,b,fun i j h1 h2 h3 => ?_,d.to fun j h1 h2 => e j (by omega) h2⟩
    unfold K
    rw [e i h1 (by omega),e j (by omega) (by omega)]
    exact c i j h1 h2 h3
theorem Up.to {lo hi:Nat} (h:Up r X lo hi) (e:∀ j,lo ≤ j → Y[j]? = X[j]?):Up r Y lo hi:=fun i j a b c => by
  unfold K
  rw [e i a,e j (by omega)]
  exact h i j a b c
theorem Runs.pw:∀ {L L':List (Nat × Nat × Nat)} {lo hi:Nat},Runs r X L lo hi → L'.map (fun q => (q.1,q.2.1)) = L.map (fun q => (q.1,q.2.1)) → Runs r X L' lo hi
  | [],[],lo,hi,h,_ => h
  | [],_ :: _,_,_,_,e => by cases e
  | _ :: _,[],_,_,_,e => by cases e
  | q :: L,q' :: L',lo,hi,⟨a,b,c,d⟩,e => by
    injection e with e1 e2
    injection e1 with e3 e4
    exact ⟨e3.trans a,by rw [e4]; exact b,by rw [e4]; exact c,by rw [e4]; exact d.pw e2⟩
theorem modify_map {L:Array (Nat × Nat × Nat)} {i v:Nat}:(L.modify i fun q => (q.1,q.2.1,v)).toList.map (fun q => (q.1,q.2.1)) = L.toList.map (fun q => (q.1,q.2.1)):=by
  apply List.ext_getElem?
  intro j
  rw [List.getElem?_map,List.getElem?_map,Array.getElem?_toList,Array.getElem?_toList,Array.getElem?_modify]
  split
  · rw [Option.map_map]; rfl
  · rfl
theorem split2 {α:Type} {l:List α} {i:Nat} (h:i + 1 < l.length):∃ L1 a b L2,l = L1 ++ a :: b :: L2 ∧ i = L1.length:=by
  refine ⟨l.take i,l[i],l[i + 1],l.drop (i + 2),?_,by rw [List.length_take]; omega⟩
  have e1:l.drop i = l[i] :: l.drop (i + 1):=List.drop_eq_getElem_cons (by omega)
  have e2:l.drop (i + 1) = l[i + 1] :: l.drop (i + 2):=List.drop_eq_getElem_cons h
  rw [← e2,← e1,List.take_append_drop]
end
section
variable {prog:Program} {w:World} {A:Around} {E:Value → Shared → Prop} {s:Shared} {κ:SortKind} {S:Keyed → Prop} {r:Keyed → Nat} {pend:Array (Nat × Nat × Nat)} {mg:Nat} {X:Array Keyed}
theorem mergeR_ (C:Cmp prog w A s κ S r) {i hi:Nat} {Q:Bool → SortSt → Prop} (hS:∀ x ∈ X,S x) (R:Runs r X pend.toList 0 hi) (hz:hi ≤ X.size) (hi2:i + 1 < pend.size)
    (h:∀ Y pd g,Y.toList.Perm X.toList → (∀ j,hi ≤ j → Y[j]? = X[j]?) → pd.size + 1 = pend.size → Runs r Y pd.toList 0 hi → Q true (SortSt.mk' κ Y pd g none)) :
    wpS (model prog w) A E s (mergeAt' i) Q (SortSt.mk' κ X pend mg none):=by
  obtain ⟨L1,⟨sa,na,p⟩,⟨sb,nb,q⟩,L2,e,ei⟩:=split2 (l:=pend.toList) (i:=i) (by rw [Array.length_toList]; exact hi2)
  rw [e] at R
  obtain ⟨m,R1,a1,a2,a3,b1,b2,b3,R2⟩:=runs_app.mp R
  dsimp only at a1 a2 a3 b1 b2 b3 R2
  subst a1
  subst b1
  have l1:=R1.len
  have l2:=R2.len
  refine mergeAt_ C hS e ei a2 b2 (by omega) a3 b3 fun Y pd g y1 y2 y3 y4 => h Y pd g y1 (fun j hj => y2 j (.inr (by omega))) ?_ ?_
  · rw [← Array.length_toList,← Array.length_toList,e,y4]
    simp only [List.length_append,List.length_cons]
    omega
  · rw [y4]
    exact runs_app.mpr ⟨sa,R1.to fun j h1 h2 => y2 j (.inl h2),rfl,by show 0 < na + nb; omega,by show Up r Y sa (sa + (na + nb)); rw [← Nat.add_assoc]; exact y3,by
      show Runs r Y L2 (sa + (na + nb)) hi
      rw [← Nat.add_assoc]
      exact R2.to fun j h1 h2 => y2 j (.inr h1)⟩
theorem runs_ (C:Cmp prog w A s κ S r) {Q:Unit → SortSt → Prop} (hS:∀ x ∈ X,S x) (hd:Di r X) (h2:2 ≤ X.size)
    (h:∀ Y pd g,Y.toList.Perm X.toList → Up r Y 0 X.size → Q () (SortSt.mk' κ Y pd g none)) :
    wpS (model prog w) A E s sortRuns' Q (SortSt.mk' κ X #[] mg none):=by
  unfold sortRuns'
  refine wpS_bind (wpS_get ?_)
  dsimp only
  refine wpS_bind (wpS_mono (wpS_forRange (I:=fun x z st' => ∃ lo Y pd g,z = (none,lo) ∧ st' = SortSt.mk' κ Y pd g none ∧ Y.toList.Perm X.toList ∧ Runs r Y pd.toList 0 lo ∧ x ≤ lo ∧ lo ≤ X.size)
    (Q:=fun z st' => ∃ Y pd g,z = (none,X.size) ∧ st' = SortSt.mk' κ Y pd g none ∧ Y.toList.Perm X.toList ∧ Runs r Y pd.toList 0 X.size) ?_ ?_ ⟨0,X,#[],mg,rfl,rfl,List.Perm.refl _,rfl,Nat.le_refl _,Nat.zero_le _⟩) ?_)
  · rintro x z st' _ hx ⟨lo,Y,pd,g,rfl,e,pY,R,l1,l2⟩
    rw [e]
    dsimp only
    have zY:Y.size = X.size:=by rw [← Array.length_toList,pY.length_eq,Array.length_toList]
    have sY:∀ x ∈ Y,S x:=fun x hx => hS x (Array.mem_toList_iff.mp (pY.mem_iff.mp (Array.mem_toList_iff.mpr hx)))
    refine wpS_if (fun q => ?_) fun q => ?_
    · have:lo = X.size:=by omega
      subst this
      exact wpS_pure ⟨Y,pd,g,rfl,rfl,pY,R⟩
    refine wpS_bind (count_ C (by omega) (by omega) sY (hd.to pY) fun n Y1 n1 n2 p1 b1 u1 => ?_)
    dsimp only
    have sY1:∀ x ∈ Y1,S x:=fun x hx => sY x (Array.mem_toList_iff.mp (p1.mem_iff.mp (Array.mem_toList_iff.mpr hx)))
    have zY1:Y1.size = X.size:=by rw [← Array.length_toList,p1.length_eq,Array.length_toList,zY]
    have R1:Runs r Y1 pd.toList 0 lo:=R.to fun j _ h => b1 j h
    replace p1:=p1.trans pY
    refine wpS_if (fun c => wpS_bind (wpS_lift (wpAny_rule ⟨rfl,wpS_bind (bin_ C n1 (by omega) sY1 u1 fun Y2 p2 b2 u2 => ?_)⟩))) fun c => ?_
    have sY2:∀ x ∈ Y2,S x:=fun x hx => sY1 x (Array.mem_toList_iff.mp (p2.mem_iff.mp (Array.mem_toList_iff.mpr hx)))
    replace p2:=p2.trans p1
    have R2:Runs r Y2 pd.toList 0 lo:=R1.to fun j _ h => b2 j h
    simp only [Bool.not_true,Bool.false_eq_true,if_false]
    have m0:0 < min (X.size - lo) (minRun' X.size X.size 0) ∧ lo + min (X.size - lo) (minRun' X.size X.size 0) ≤ X.size:=by
      replace c:n < minRun' X.size X.size 0:=c
      omega
    rotate_left
    obtain ⟨Y2,e2⟩:∃ Y2,Y2 = Y1:=⟨_,rfl⟩
    rw [← e2] at R1 u1 p1 sY1 zY1 ⊢
    have R2:=R1
    have u2:=u1
    have p2:=p1
    have sY2:=sY1
    have m0:0 < n ∧ lo + n ≤ X.size:=by omega
    all_goals
      refine wpS_bind (wpS_get ?_)
      dsimp only
      cases hb:pd.back? with
      | none =>
        refine wpS_bind (wpS_modify (wpS_pure ⟨_,Y2,_,_,rfl,rfl,p2,?_,?_,m0.2⟩))
        · show Runs r Y2 (Array.push _ _).toList 0 _
          rw [Array.toList_push]
          exact runs_app.mpr ⟨lo,R2,rfl,m0.1,u2,rfl⟩
        · exact Nat.le_trans (Nat.succ_le_succ l1) (Nat.add_le_add_left m0.1 lo)
      | some q =>
        obtain ⟨s1,n1,v⟩:=q
        dsimp only
        refine wpS_bind (wpS_mono (wpS_forRange (I:=fun _ z st' => z = (none,()) ∧ ∃ Y pd g,st' = SortSt.mk' κ Y pd g none ∧ Y.toList.Perm X.toList ∧ (∀ j,lo ≤ j → Y[j]? = Y2[j]?) ∧ Runs r Y pd.toList 0 lo)
          (Q:=fun z st' => z = (none,()) ∧ ∃ Y pd g,st' = SortSt.mk' κ Y pd g none ∧ Y.toList.Perm X.toList ∧ (∀ j,lo ≤ j → Y[j]? = Y2[j]?) ∧ Runs r Y pd.toList 0 lo) ?_ ?_ ⟨rfl,Y2,pd,g,rfl,p2,fun _ _ => rfl,R2⟩) ?_)
        · rintro x z st' _ _ ⟨rfl,Y,pd,g,e,pY,bY,R⟩
          rw [e]
          have zY:Y.size = X.size:=by rw [← Array.length_toList,pY.length_eq,Array.length_toList]
          refine wpS_bind (wpS_get ?_)
          dsimp only
          by_cases c2:pd.size > 1
          · rw [if_pos c2]
            obtain ⟨q,eq⟩:∃ q,pd[pd.size - 2]? = some q:=⟨_,getElem?_pos pd _ (by omega)⟩
            rw [eq]
            obtain ⟨a1,a2,a3⟩:=q
            dsimp only
            refine wpS_if (fun _ => wpS_pure ⟨rfl,Y,pd,g,rfl,pY,bY,R⟩) fun _ => ?_
            refine wpS_bind (mergeR_ C (fun x hx => hS x (Array.mem_toList_iff.mp (pY.mem_iff.mp (Array.mem_toList_iff.mpr hx)))) R (by omega) (by omega) fun Y3 pd3 g3 y1 y2 y3 y4 => ?_)
            exact wpS_pure ⟨rfl,Y3,pd3,g3,rfl,y1.trans pY,fun j hj => (y2 j hj).trans (bY j hj),y4⟩
          · rw [if_neg c2]
            exact wpS_pure ⟨rfl,Y,pd,g,rfl,pY,bY,R⟩
        · exact fun _ _ h => h
        · rintro z st' ⟨rfl,Y,pd,g,e,pY,bY,R⟩
          rw [e]
          dsimp only
          refine wpS_bind (wpS_modify (wpS_bind (wpS_modify (wpS_pure ⟨_,Y,_,_,rfl,rfl,pY,?_,?_,m0.2⟩))))
          · show Runs r Y (Array.push _ _).toList 0 _
            rw [Array.toList_push]
            exact runs_app.mpr ⟨lo,R.pw modify_map,rfl,m0.1,u2.to bY,rfl⟩
          · exact Nat.le_trans (Nat.succ_le_succ l1) (Nat.add_le_add_left m0.1 lo)
  · rintro z st' ⟨lo,Y,pd,g,rfl,e,pY,R,l1,l2⟩
    have:lo = X.size:=by omega
    subst this
    exact ⟨Y,pd,g,rfl,e,pY,R⟩
  · rintro z st' ⟨Y,pd,g,rfl,e,pY,R⟩
    rw [e]
    dsimp only
    refine wpS_bind (wpS_mono (wpS_forRange (I:=fun x z st' => z = (none,()) ∧ ∃ Y pd g,st' = SortSt.mk' κ Y pd g none ∧ Y.toList.Perm X.toList ∧ Runs r Y pd.toList 0 X.size ∧ (pd.size ≤ 1 ∨ pd.size + x ≤ X.size))
      (Q:=fun z st' => z = (none,()) ∧ ∃ Y pd g,st' = SortSt.mk' κ Y pd g none ∧ Y.toList.Perm X.toList ∧ Runs r Y pd.toList 0 X.size ∧ pd.size ≤ 1) ?_ ?_ ⟨rfl,Y,pd,g,rfl,pY,R,.inr (by have:=R.len; rw [Array.length_toList] at this; omega)⟩) ?_)
    · rintro x z st' _ hx ⟨rfl,Y,pd,g,e,pY,R,l⟩
      rw [e]
      have zY:Y.size = X.size:=by rw [← Array.length_toList,pY.length_eq,Array.length_toList]
      refine wpS_bind (wpS_get ?_)
      dsimp only
      refine wpS_if (fun c => wpS_pure ⟨rfl,Y,pd,g,rfl,pY,R,c⟩) fun c => ?_
      refine wpS_bind (mergeR_ C (fun x hx => hS x (Array.mem_toList_iff.mp (pY.mem_iff.mp (Array.mem_toList_iff.mpr hx)))) R (by omega) ?_ fun Y3 pd3 g3 y1 y2 y3 y4 => ?_)
      · have lem:∀ {c:Prop} [Decidable c] {a b n:Nat},a + 1 < n → b + 1 < n → (if c then a else b) + 1 < n:=by
          intro c _ a b n h1 h2
          split <;> assumption
        exact lem (by omega) (by omega)
      · exact wpS_pure ⟨rfl,Y3,pd3,g3,rfl,y1.trans pY,y4,by omega⟩
    · rintro z st' ⟨rfl,Y,pd,g,e,pY,R,l⟩
      exact ⟨rfl,Y,pd,g,e,pY,R,by omega⟩
    · rintro z st' ⟨rfl,Y,pd,g,e,pY,R,l⟩
      rw [e]
      refine wpS_pure (h Y pd g pY ?_)
      obtain ⟨q,eq⟩:∃ q,pd.toList = [q]:=by
        match z:pd.toList with
        | [] =>
          rw [z] at R
          replace R:0 = X.size:=R
          omega
        | [q] => exact ⟨q,rfl⟩
        | _ :: _ :: _ => rw [← Array.length_toList,z] at l; simp at l
      rw [eq] at R
      obtain ⟨_,_,u,e2⟩:=R
      replace e2:0 + q.2.1 = X.size:=e2
      rw [e2] at u
      exact u
end
end TS
namespace SO
open PySem PySem.W PyProof.Rows
noncomputable abbrev g (p:Array Nat) (i:Nat):Nat:=p.getD i 0
theorem g_eq (p:Array Nat) (i:Nat):g p i = (p[i]?).getD 0:=Array.getD_eq_getD_getElem?
noncomputable def Ok (L:Nat → Nat → Bool) (n:Nat) {α:Type} (P:α → Prop):KasT α → Prop
  | .ret a => P a
  | .ask i j k => i < n ∧ j < n ∧ Ok L n P (k (L i j))
theorem Ok.bind {L:Nat → Nat → Bool} {n:Nat} {α β:Type} {P:α → Prop} {Q:β → Prop} {f:α → KasT β} (hf:∀ a,P a → Ok L n Q (f a)):∀ {t:KasT α},Ok L n P t → Ok L n Q (t.bind f)
  | .ret a,h => hf a h
  | .ask _ _ _,h => ⟨h.1,h.2.1,Ok.bind hf h.2.2⟩
theorem Ok.imp {L:Nat → Nat → Bool} {n:Nat} {α:Type} {P Q:α → Prop} (hf:∀ a,P a → Q a):∀ {t:KasT α},Ok L n P t → Ok L n Q t
  | .ret a,h => hf a h
  | .ask _ _ _,h => ⟨h.1,h.2.1,Ok.imp hf h.2.2⟩
structure Ord (L:Nat → Nat → Bool) (n:Nat):Prop where
  tr:∀ i j k,i < n → j < n → k < n → L i j = true → L j k = true → L i k = true
  tot:∀ i j,i < n → j < n → i ≠ j → L i j = false → L j i = true
  asym:∀ i j,i < n → j < n → L i j = true → L j i = false
noncomputable def Pm (n:Nat) (p:Array Nat):Prop:=p.Perm (List.toArray (List.range n))
section
variable {n:Nat} {p:Array Nat}
theorem Pm.list (h:Pm n p):p.toList.Perm (List.range n):=Array.perm_iff_toList_perm.mp h
theorem Pm.size (h:Pm n p):p.size = n:=by
  have:=h.list.length_eq
  rw [List.length_range] at this
  exact this
theorem Pm.lt (h:Pm n p) {i:Nat} (hi:i < n):g p i < n:=by
  have hz:i < p.size:=by rw [h.size]; exact hi
  have e:g p i = p.toList[i]'hz:=by rw [g_eq,getElem?_pos p i hz]; rfl
  have m:g p i ∈ p.toList:=by rw [e]; exact List.getElem_mem _
  exact List.mem_range.mp (h.list.mem_iff.mp m)
theorem Pm.inj (h:Pm n p) {i j:Nat} (hi:i < n) (hj:j < n) (e:g p i = g p j):i = j:=by
  have hz:i < p.size:=by rw [h.size]; exact hi
  have hz2:j < p.size:=by rw [h.size]; exact hj
  have nd:p.toList.Nodup:=h.list.nodup_iff.mpr List.nodup_range
  have e1:g p i = p.toList[i]'hz:=by rw [g_eq,getElem?_pos p i hz]; rfl
  have e2:g p j = p.toList[j]'hz2:=by rw [g_eq,getElem?_pos p j hz2]; rfl
  rw [e1,e2] at e
  exact (List.getElem_inj nd).mp e
end
section
variable {L:Nat → Nat → Bool} {n:Nat} (O:Ord L n)
include O
theorem other {p:Array Nat} (h:Pm n p) {i j:Nat} (hi:i < n) (hj:j < n) (hn:i ≠ j) (e:L (g p i) (g p j) = false):L (g p j) (g p i) = true :=
  O.tot _ _ (h.lt hi) (h.lt hj) (fun z => hn (h.inj hi hj z)) e
end
end SO
namespace SO
open PySem PySem.W PyProof.Rows
noncomputable def RawD (h:Heap) (d:Addr) (es:Array DictEntry) (ep:Nat):Prop:=∃ o,h.get? d = some o ∧ o.cls = .type "dict" ∧ o.data = .dict es ep
section
variable {prog:Program} {w:World} {A:Around} {E:Value → Shared → Prop} {s:Shared} {d it:Addr} {es:Array DictEntry} {ep i:Nat}
theorem RawD.ty (x:RawD s.heap d es ep):s.TypeIs (.ref d) "dict":=by
  obtain ⟨o,ho,hc,_⟩:=x
  exact ⟨o,ho,hc⟩
theorem RawD.lt {h:Heap} (x:RawD h d es ep):d < h.objs.size:=by
  obtain ⟨o,ho,_⟩:=x
  exact Heap.lt_size ho
theorem RawD.to {h h':Heap} (x:RawD h d es ep) (hk:∀ o,h.get? d = some o → h'.get? d = some o):RawD h' d es ep:=by
  obtain ⟨o,ho,r⟩:=x
  exact ⟨o,hk o ho,r⟩
theorem raw_iter {Q:Value → Shared → Prop} (hd:(d == sysModules) = false) (x:RawD s.heap d es ep)
    (hQ:Q (.ref s.heap.objs.size) { s with heap:=s.heap.push { cls:=.type "dict_keyiterator",data:=.fields #[.ref d,.int 0 0,.int es.size 0,.int ep 0] } }):wpAny (model prog w) A (pyIter (.ref d)) Q E s:=by
  obtain ⟨o,go,gc,gd⟩:=id x
  have T:=x.ty
  refine wpAny_pyIter_slot T PySem.F.slot_dict_iter (wpAny_call_entry PySem.F.slot_dict_iter T PySem.F.entry_dict_iter ?_ (PySem.F.args_dict_iter_1 _))
  unfold Builtin.«dict.__iter__»; refine wpAny_bind ?_
  unfold Builtin.Dict.dictSlotNone; refine wpAny_bind (wpAny_notOrdered_dict T ?_)
  show wpAny _ _ (pure (Value.ref d)) _ _ s; refine wpAny_pure ?_
  show wpAny _ _ (Builtin.Dict.showsAll d >>= _) _ _ s; unfold Builtin.Dict.showsAll
  rw [if_neg (by rw [hd]; exact Bool.false_ne_true)]; refine wpAny_bind (wpAny_pure ?_)
  refine wpAny_bind (wpAny_dictEntries go gd ?_)
  refine wpAny_bind (wpAny_dictEpoch go gd ?_)
  refine wpAny_bind (wpAny_newObj_type (wpAny_pure ⟨_,rfl,"dict_keyiterator",_,⟨_,Heap.get?_push_size _ rfl,rfl⟩,PySem.F.slot_dict_keyiterator_next.lookup,?_⟩))
  simpa [rawInt] using hQ
theorem raw_item {Q:Option Value → Shared → Prop} (hit:s.heap.IsKeyIter it d i es.size ep) (x:RawD s.heap d es ep) (hi:i < es.size)
    (hQ:∀ h',h'.IsKeyIter it d (i + 1) es.size ep → Heap.SameBut it s.heap h' → Q (some es[i].key) { s with heap:=h' }):wpAny (model prog w) A (pyNext (.ref it)) Q E s:=by
  obtain ⟨o,ho,hc,hf⟩:=id hit
  obtain ⟨od,go,gc,gd⟩:=id x
  have T:=hit.typeIs
  unfold pyNext
  refine wpAny_bind (wpAny_attempt (wpAny_callSpecial?_slot (name:=Str.ofString "__next__") T PySem.F.slot_dict_keyiterator_next (wpAny_call_entry PySem.F.slot_dict_keyiterator_next T PySem.F.entry_dict_keyiterator_next ?_ (PySem.F.args_dict_keyiterator_next_1 _))))
  refine wpAny_bind (wpAny_pure ?_); refine wpAny_bind ?_; refine wpAny_bind ?_
  first | refine wpAny_bind (wpAny_typeNameOfWhole_keyiter T (wpAny_pure ?_)) | refine wpAny_bind (wpAny_typeNameOf_keyiter T (wpAny_pure ?_))
  refine wpAny_bind (wpAny_fieldsOf ho hf ?_)
  have no:Builtin.Dict_items.ownsTuple "dict_keyiterator" = false:=by decide
  simp only [no,Bool.false_eq_true,if_false]
  show wpAny _ _ (if (Value.ref d == Value.none) = true then _ else _) _ _ s; rw [if_neg (show ¬ ((Value.ref d == Value.none) = true) from Bool.false_ne_true)]
  refine wpAny_bind (wpAny_pure ?_); refine wpAny_bind (wpAny_dictEntries go gd ?_)
  rw [if_neg (by simp)]; refine wpAny_bind (wpAny_pure ?_)
  refine wpAny_bind (wpAny_dictEpoch go gd ?_); rw [if_neg (by simp)]; refine wpAny_pure ?_
  simp only [show ¬ ((i:Int) < 0) from by omega,if_false,Int.toNat_natCast,Array.getElem?_eq_getElem hi]; refine wpAny_bind ?_
  first | refine wpAny_bind (wpAny_typeNameOfWhole_keyiter T (wpAny_pure ?_)) | refine wpAny_bind (wpAny_typeNameOf_keyiter T (wpAny_pure ?_))
  refine wpAny_bind (wpAny_isOneOf_keyiter T ?_)
  show wpAny _ _ (setField (.ref it) 1 (rawInt ((i:Int) + 1)) >>= _) _ _ s; refine wpAny_bind (wpAny_setField ho hf (by simp) ?_)
  have go2:(s.heap.update it (Obj.mapFields (·.setIfInBounds 1 (rawInt ((i:Int) + 1))))).IsKeyIter it d (i + 1) es.size ep :=
    ⟨_,Heap.get?_update_self _ ho (Obj.isFreed_of_fields (Obj.data_mapFields hf _)),(Obj.cls_mapFields ..).trans hc,by rw [Obj.data_mapFields hf]; simp [rawInt]⟩
  refine wpAny_bind (wpAny_holding ?_)
  refine wpAny_bind (wpAny_isOneOf_keyiter (s:={ s with heap:=s.heap.update it (Obj.mapFields (·.setIfInBounds 1 (rawInt ((i:Int) + 1)))) }) go2.typeIs ?_)
  show wpAny _ _ (pure es[i].key) _ _ _; exact wpAny_pure (wpAny_pure ⟨_,rfl,wpAny_pure (hQ _ go2 (Heap.SameBut.update ..))⟩)
theorem raw_end {Q:Option Value → Shared → Prop} (hh:A.handled = none) (hit:s.heap.IsKeyIter it d i es.size ep) (x:RawD s.heap d es ep) (hi:es.size ≤ i)
    (hQ:∀ h',Heap.ExtBut it s.heap h' → Q none { s with heap:=h' }):wpAny (model prog w) A (pyNext (.ref it)) Q E s:=by
  obtain ⟨o,ho,hc,hf⟩:=id hit
  obtain ⟨od,go,gc,gd⟩:=id x
  have T:=hit.typeIs
  unfold pyNext
  refine wpAny_bind (wpAny_attempt (wpAny_callSpecial?_slot (name:=Str.ofString "__next__") T PySem.F.slot_dict_keyiterator_next (wpAny_call_entry PySem.F.slot_dict_keyiterator_next T PySem.F.entry_dict_keyiterator_next ?_ (PySem.F.args_dict_keyiterator_next_1 _))))
  refine wpAny_bind (wpAny_pure ?_); refine wpAny_bind ?_; refine wpAny_bind ?_
  first | refine wpAny_bind (wpAny_typeNameOfWhole_keyiter T (wpAny_pure ?_)) | refine wpAny_bind (wpAny_typeNameOf_keyiter T (wpAny_pure ?_))
  refine wpAny_bind (wpAny_fieldsOf ho hf ?_)
  have no:Builtin.Dict_items.ownsTuple "dict_keyiterator" = false:=by decide
  simp only [no,Bool.false_eq_true,if_false]
  show wpAny _ _ (if (Value.ref d == Value.none) = true then _ else _) _ _ s; rw [if_neg (show ¬ ((Value.ref d == Value.none) = true) from Bool.false_ne_true)]
  refine wpAny_bind (wpAny_pure ?_); refine wpAny_bind (wpAny_dictEntries go gd ?_)
  rw [if_neg (by simp)]; refine wpAny_bind (wpAny_pure ?_)
  refine wpAny_bind (wpAny_dictEpoch go gd ?_); rw [if_neg (by simp)]; refine wpAny_pure ?_
  simp only [show ¬ ((i:Int) < 0) from by omega,if_false,Int.toNat_natCast,Array.getElem?_eq_none hi]; refine wpAny_bind ?_
  first | refine wpAny_bind (wpAny_typeNameOfWhole_keyiter T (wpAny_pure ?_)) | refine wpAny_bind (wpAny_typeNameOf_keyiter T (wpAny_pure ?_))
  show wpAny _ _ (setField (.ref it) 0 .none >>= _) _ _ s; refine wpAny_bind (wpAny_setField ho hf (by simp) ?_)
  show wpAny _ _ (newExc (.type "StopIteration") [] >>= _) _ _ _; refine wpAny_bind ?_; simp only [newExc,newTuple]
  refine wpAny_bind (wpAny_newObj_type ?_ (by size_fits)); refine wpAny_bind (m:=firstArgMember _ _) (wpAny_of_eq (a:=Value.none) (by first | rfl | (simp only [firstArgMember]; rfl)) ?_)
  refine wpAny_newObj_type ?_ (by size_fits); simp only [raiseNew]
  refine wpAny_bind (wpAny_handled ?_); rw [show A.in1.handled = none from hh]; refine wpAny_bind (wpAny_pure (wpAny_throw ?_))
  refine wpAny_bind (wpAny_isInstance (T:="StopIteration") (b:=true) ⟨_,Heap.get?_push_size _ rfl,rfl⟩ isSubtype_stop ?_)
  exact wpAny_pure (hQ _ (((Heap.SameBut.update ..).extBut.push _).push _))
noncomputable def KeyAt (es:Array DictEntry) (i:Nat) (v:Value):Prop:=∃ h:i < es.size,v = es[i].key
theorem raw_walks (hh:A.handled = none) (I:Addr) (hne:d ≠ I):Walks prog w A I [I,d] [I] es.size (KeyAt es) (fun i h => h.IsKeyIter I d i es.size ep ∧ RawD h d es ep) where
  sub:=fun b hb => by
    rw [List.mem_singleton] at hb; rw [hb]; exact List.mem_cons_self
  frame:=fun _ _ _ st hk => ⟨st.1.at fun o e => hk I List.mem_cons_self o e,st.2.to fun o e => hk d (List.mem_cons_of_mem _ List.mem_cons_self) o e⟩
  item:=fun i s Q E hi st hQ => raw_item st.1 st.2 hi fun h' k1 k2 =>
    hQ _ h' s.toks ⟨hi,rfl⟩ ⟨k1,st.2.to fun o e => k2.extBut d o hne e⟩ fun b o hb e => k2.extBut b o (fun z => hb (by rw [z]; exact List.mem_singleton_self _)) e
  done:=fun s Q E st hQ => raw_end hh st.1 st.2 (Nat.le_refl _) fun h' k => hQ h' s.toks fun b o hb e => k b o (fun z => hb (by rw [z]; exact List.mem_singleton_self _)) e
  self:=fun _ _ _ _ st hQ => wpAny_pyIter_keyiter st.1 hQ
theorem raw_src (lo:(d == sysModules) = false):KdlSrc prog w "dict" d d es.size (KeyAt es) (fun h => RawD h d es ep) where
  type:=fun _ x => x.ty
  there:=fun _ x => ⟨x.lt,x.lt⟩
  keep:=fun _ _ x hk => x.to fun o e => hk d (.inl rfl) o e
  notList:=by decide
  notTuple:=by decide
  hint:=fun _ _ _ _ x q => kdl_hint_dict x.ty q
  iter:=fun _ _ hh x => ⟨_,_,(fun _ _ q => raw_iter lo x q),raw_walks hh _ (Nat.ne_of_lt x.lt),⟨⟨_,Heap.get?_push_size _ rfl,rfl,rfl⟩,x.to fun o e => Heap.get?_push_of_some _ e⟩⟩
end
end SO
namespace SO
open PySem PySem.W PyProof.Rows
section
variable {prog:Program} {w:World} {A:Around} {E:Value → Shared → Prop} {s:Shared} {d it:Addr} {es:Array DictEntry} {ep i:Nat}
theorem keys_of {acc:Array Value} (h:ItemsOf (KeyAt es) acc es.size):acc.toList = es.toList.map (·.key):=by
  apply List.ext_getElem
  · rw [Array.length_toList,List.length_map,Array.length_toList]; exact h.1
  · intro i h1 h2
    have hi:i < acc.size:=by rw [Array.length_toList] at h1; exact h1
    obtain ⟨hz,e⟩:=h.2 i acc[i] (Array.getElem?_eq_getElem hi)
    rw [Array.getElem_toList,List.getElem_map,Array.getElem_toList,e]
theorem collect_raw {Q:List Value → Shared → Prop} (hh:A.handled = none) (lo:(d == sysModules) = false) (x:RawD s.heap d es ep) (hn:es.size ≤ sizeLine)
    (h:∀ h' tk,s.heap.objs.size < h'.objs.size → (∀ b o,s.heap.get? b = some o → h'.get? b = some o) → Q (es.toList.map (·.key)) { s with heap:=h',toks:=tk }):wpAny (model prog w) A (collect (.ref d)) Q E s:=by
  unfold collect
  refine wpAny_bind (wpAny_runValue (codeAny_mono (R:=fun r s' => r = .ok (.ret (.ref s.heap.objs.size)) ∧ wpAny (model prog w) A (do
    let u ← load s.heap.objs.size
    match u.data with
    | .seq xs _ => pure xs.toList
    | _ => unsupported "internal:collect") Q E s') ?_ fun r s' q => ?_))
  · refine codeAny_builtin entry_proto_collect' ?_
    show wpAny _ _ (do again (.builtin "list.__iadd__" ⟨[← newList [],.ref d],[]⟩)) _ _ s
    refine wpAny_bind (wpAny_newList (wpAny_pure ⟨Code.quiet_builtin _ (by decide +kernel),codeAny_builtin entry_list_iadd' ?_⟩) (Nat.zero_le _))
    have ne:=Nat.ne_of_gt x.lt
    refine kdl_extend (R:=fun r s' => r = .ok (.ret (.ref s.heap.objs.size)) ∧ wpAny (model prog w) A (do
      let u ← load s.heap.objs.size
      match u.data with
      | .seq xs _ => pure xs.toList
      | _ => unsupported "internal:collect") Q E s') (s:={ s with heap:=s.heap.push (seqObj "list" #[] 0) }) (raw_src (es:=es) (ep:=ep) lo) hh (x.to fun o e => Heap.get?_push_of_some _ e) s.heap.objs.size ne ne (.ref s.heap.objs.size) 0 (Heap.get?_push_size _ rfl) (fun h' tk acc c hk hS hacc => ⟨rfl,?_⟩) hn
    refine wpAny_bind (wpAny_load hS ?_)
    show wpAny _ _ (pure acc.toList) Q E _
    rw [keys_of hacc]
    exact wpAny_pure (h h' tk (Heap.lt_size hS) fun b o e => hk b o (Nat.ne_of_lt (Heap.lt_size e)) (Heap.get?_push_of_some _ e))
  · obtain ⟨rfl,q⟩:=q
    exact q
end
noncomputable def lexLt:List Int → List Int → Bool
  | _,[] => false
  | [],_ :: _ => true
  | x :: xs,y :: ys => if x = y then lexLt xs ys else decide (x < y)
theorem lexLt_irr:∀ xs:List Int,lexLt xs xs = false
  | [] => rfl
  | x :: xs => by
    show (if x = x then lexLt xs xs else _) = false
    rw [if_pos rfl]; exact lexLt_irr xs
theorem lexLt_tr:∀ {xs ys zs:List Int},lexLt xs ys = true → lexLt ys zs = true → lexLt xs zs = true:=by
  intro xs
  induction xs with
  | nil =>
    intro ys zs h1 h2
    cases zs with
    | nil => cases ys <;> cases h2
    | cons z zs => rfl
  | cons x xs ih =>
    intro ys zs h1 h2
    cases ys with
    | nil => cases h1
    | cons y ys =>
      cases zs with
      | nil => cases h2
      | cons z zs =>
        replace h1:(if x = y then lexLt xs ys else decide (x < y)) = true:=h1
        replace h2:(if y = z then lexLt ys zs else decide (y < z)) = true:=h2
        show (if x = z then lexLt xs zs else decide (x < z)) = true
        by_cases e1:x = y
        · rw [if_pos e1] at h1
          subst e1
          by_cases e2:x = z
          · rw [if_pos e2] at h2 ⊢
            exact ih h1 h2
          · rw [if_neg e2] at h2 ⊢
            exact h2
        · rw [if_neg e1] at h1
          have h1':=of_decide_eq_true h1
          by_cases e2:y = z
          · subst e2
            rw [if_neg e1]
            exact h1
          · rw [if_neg e2] at h2
            have h2':=of_decide_eq_true h2
            rw [if_neg (by omega)]
            exact decide_eq_true (by omega)
theorem lexLt_tot:∀ {xs ys:List Int},xs ≠ ys → lexLt xs ys = false → lexLt ys xs = true:=by
  intro xs
  induction xs with
  | nil =>
    intro ys h1 h2
    cases ys with
    | nil => exact absurd rfl h1
    | cons y ys => cases h2
  | cons x xs ih =>
    intro ys h1 h2
    cases ys with
    | nil => rfl
    | cons y ys =>
      replace h2:(if x = y then lexLt xs ys else decide (x < y)) = false:=h2
      show (if y = x then lexLt ys xs else decide (y < x)) = true
      by_cases e:x = y
      · subst e
        rw [if_pos rfl] at h2 ⊢
        exact ih (fun z => h1 (by rw [z])) h2
      · rw [if_neg e] at h2
        rw [if_neg (fun z => e z.symm)]
        have:=of_decide_eq_false h2
        exact decide_eq_true (by omega)
theorem lexLt_asym {xs ys:List Int} (h:lexLt xs ys = true):lexLt ys xs = false:=by
  cases z:lexLt ys xs with
  | false => rfl
  | true =>
    have:=lexLt_tr h z
    rw [lexLt_irr] at this
    cases this
section
variable {prog:Program} {w:World} {A:Around} {E:Value → Shared → Prop} {s:Shared}
theorem lex_ok {fin:Bool} {Q:Bool → Shared → Prop}:∀ {us vs:List Value} {xs ys:List Int} (i:Nat),IntsAre us xs → IntsAre vs ys → fin = decide (xs.length < ys.length) → Q (lexLt xs ys) s →
    KatLex prog w A true fin Q (us.zip vs) i s:=by
  intro us vs xs ys i h1
  induction h1 generalizing vs ys i with
  | nil =>
    intro h2 hf h
    refine kat_nil ?_
    cases h2 with
    | nil => rw [hf]; exact h
    | cons n t r => rw [hf]; exact h
  | cons n t r ih =>
    intro h2 hf h
    cases h2 with
    | nil =>
      refine kat_nil ?_
      rw [hf]; exact h
    | @cons m u vs' ys' r2 =>
      refine kat_cons (wpAny_eqBool_int ?_)
      rename_i us' xs'
      replace h:Q (if n = m then lexLt xs' ys' else decide (n < m)) s:=h
      by_cases e:n = m
      · subst e
        rw [beq_self_eq_true]
        refine kat_yes (ih (i + 1) r2 ?_ ?_)
        · rw [hf]
          simp only [List.length_cons,Nat.add_lt_add_iff_right]
        · rw [if_pos rfl] at h; exact h
      · rw [beq_eq_false_iff_ne.mpr e]
        rw [if_neg e] at h
        refine kat_no ?_
        by_cases hi:i = 0
        · subst hi
          exact oneLt_int h
        · rw [show (true && i == 0) = false by rw [Bool.true_and]; exact beq_eq_false_iff_ne.mpr hi]
          exact kat_one _ _ (lt_int h)
noncomputable def TupOf (h:Heap) (v:Value) (xs:List Int):Prop:=xs ≠ [] ∧ ∃ a o its n,v = .ref a ∧ h.get? a = some o ∧ o.cls = .type "tuple" ∧ o.data = .seq its n ∧ IntsAre its.toList xs
theorem TupOf.to {h h':Heap} {v:Value} {xs:List Int} (t:TupOf h v xs) (hk:∀ b o,h.get? b = some o → o.cls = .type "tuple" → h'.get? b = some o):TupOf h' v xs:=by
  obtain ⟨ne,a,o,its,n,e,ho,hc,r⟩:=t
  exact ⟨ne,a,o,its,n,e,hk a o ho hc,hc,r⟩
theorem lt_ok {Q:Bool → Shared → Prop} {x y:Value} {xs ys:List Int} (h1:TupOf s.heap x xs) (h2:TupOf s.heap y ys) (h:Q (lexLt xs ys) s):wpAny (model prog w) A (keyLt' (tuples' true) x y) Q E s:=by
  obtain ⟨_,a,o,its,n,rfl,ho,hc,hd,hi⟩:=h1
  obtain ⟨_,b,o2,its2,n2,rfl,ho2,hc2,hd2,hi2⟩:=h2
  refine kat_lt ho hd ho2 hd2 (lex_ok 0 hi hi2 ?_ h)
  rw [← hi.length,← hi2.length,Array.length_toList,Array.length_toList]
inductive TupsOf (h:Heap):List Value → List (List Int) → Prop
  | nil:TupsOf h [] []
  | cons {v:Value} {x:List Int} {vs:List Value} {xs:List (List Int)}:TupOf h v x → TupsOf h vs xs → TupsOf h (v :: vs) (x :: xs)
theorem TupsOf.to {h h':Heap} {vs:List Value} {xs:List (List Int)} (t:TupsOf h vs xs) (hk:∀ b o,h.get? b = some o → o.cls = .type "tuple" → h'.get? b = some o):TupsOf h' vs xs:=by
  induction t with
  | nil => exact .nil
  | cons a _ ih => exact .cons (a.to hk) ih
theorem TupsOf.length {h:Heap} {vs:List Value} {xs:List (List Int)} (t:TupsOf h vs xs):vs.length = xs.length:=by
  induction t with
  | nil => rfl
  | cons _ _ ih => rw [List.length_cons,List.length_cons,ih]
theorem TupsOf.at_ {h:Heap} {vs:List Value} {xs:List (List Int)} (t:TupsOf h vs xs):∀ i,i < vs.length → TupOf h (vs.getD i .none) (xs.getD i []):=by
  induction t with
  | nil => intro i hi; cases hi
  | cons a _ ih =>
    intro i hi
    cases i with
    | zero => exact a
    | succ i => exact ih i (Nat.lt_of_succ_lt_succ hi)
theorem TupsOf.append {h:Heap} {vs vs2:List Value} {xs xs2:List (List Int)} (t:TupsOf h vs xs) (t2:TupsOf h vs2 xs2):TupsOf h (vs ++ vs2) (xs ++ xs2):=by
  induction t with
  | nil => exact t2
  | cons a _ ih => exact .cons a ih
theorem TupsOf.rev {h:Heap} {vs:List Value} {xs:List (List Int)} (t:TupsOf h vs xs):TupsOf h vs.reverse xs.reverse:=by
  induction t with
  | nil => exact .nil
  | cons a _ ih =>
    rw [List.reverse_cons,List.reverse_cons]
    exact ih.append (.cons a .nil)
theorem TupsOf.kat {h:Heap} {vs:List Value} {xs:List (List Int)} (t:TupsOf h vs xs):∃ fs,KatTups h vs fs ∧ fs.length = vs.length ∧ ∀ v ∈ fs,∃ n u,v = .int n u:=by
  induction t with
  | nil => exact ⟨[],.nil,rfl,fun v m => by cases m⟩
  | cons a _ ih =>
    obtain ⟨fs,k,l,al⟩:=ih
    obtain ⟨ne,a,o,its,n,rfl,ho,hc,hd,hi⟩:=a
    obtain ⟨its⟩:=its
    cases hi with
    | nil => exact absurd rfl ne
    | cons m u r =>
      refine ⟨_,KatTups.cons ho hc hd rfl k,by rw [List.length_cons,List.length_cons,l],fun v mv => ?_⟩
      rcases List.mem_cons.mp mv with rfl | mv
      · exact ⟨_,_,rfl⟩
      · exact al v mv
theorem kind_ok {vs:List Value} {xs:List (List Int)} {Q:SortKind → Shared → Prop} (t:TupsOf s.heap vs xs) (h0:0 < vs.length) (h:Q (tuples' true) s):wpAny (model prog w) A (keyKind' vs.toArray) Q E s:=by
  obtain ⟨fs,k,l,al⟩:=t.kat
  refine kat_kind (T:=.type "int") k (by rw [l]; exact h0) (fun v m => ?_) (by decide) h
  obtain ⟨n,u,rfl⟩:=al v m
  exact Looks.of_pure rfl
end
end SO
namespace SO
open PySem PySem.W PyProof.Rows
noncomputable def Falls (xs:List (List Int)):Prop:=xs.Pairwise fun a b => lexLt b a = true
section
variable {vs:List Value} {xs:List (List Int)}
theorem zip_rev {α β:Type}:∀ {vs:List α} {xs:List β},vs.length = xs.length → vs.reverse.zip xs.reverse = (vs.zip xs).reverse
  | [],[],_ => rfl
  | v :: vs,x :: xs,h => by
    have h':vs.length = xs.length:=Nat.succ.inj h
    rw [List.reverse_cons,List.reverse_cons,List.zip_cons_cons,List.reverse_cons,List.zip_append (by rw [List.length_reverse,List.length_reverse,h']),zip_rev h']
    rfl
noncomputable def nOf:Value → Int
  | .int n _ => n
  | _ => 0
noncomputable def keyOf (h:Heap):Value → List Int
  | .ref a => match h.get? a with
    | some o => match o.data with
      | .seq its _ => its.toList.map nOf
      | _ => []
    | none => []
  | _ => []
theorem ints_n {us:List Value} {ns:List Int} (h:IntsAre us ns):us.map nOf = ns:=by
  induction h with
  | nil => rfl
  | cons n t _ ih => rw [List.map_cons,ih]; rfl
theorem key_at {h:Heap} {v:Value} {k:List Int} (t:TupOf h v k):keyOf h v = k:=by
  obtain ⟨_,a,o,its,n,rfl,ho,_,hd,hi⟩:=t
  unfold keyOf
  dsimp only
  rw [ho]
  dsimp only
  rw [hd]
  exact ints_n hi
theorem keys_at {h:Heap} {vs:List Value} {xs:List (List Int)} (t:TupsOf h vs xs):vs.map (keyOf h) = xs:=by
  induction t with
  | nil => rfl
  | cons a _ ih => rw [List.map_cons,ih,key_at a]
noncomputable def rk (xs:List (List Int)) (k:List Int):Nat:=xs.countP fun z => lexLt z k
theorem countP_lt {α:Type} {p q:α → Bool}:∀ {l:List α} {x:α},x ∈ l → (∀ z,p z = true → q z = true) → q x = true → p x = false → l.countP p < l.countP q
  | y :: l,x,m,h,hq,hp => by
    have le:l.countP p ≤ l.countP q:=List.countP_mono_left fun z _ => h z
    rcases List.mem_cons.mp m with e | m
    · subst e
      rw [List.countP_cons_of_neg (by rw [hp]; exact Bool.false_ne_true),List.countP_cons_of_pos hq]
      omega
    · have ih:=countP_lt m h hq hp
      by_cases c:p y = true
      · rw [List.countP_cons_of_pos c,List.countP_cons_of_pos (h y c)]
        omega
      · rw [List.countP_cons_of_neg c]
        by_cases d:q y = true
        · rw [List.countP_cons_of_pos d]; omega
        · rw [List.countP_cons_of_neg d]; exact ih
theorem rk_lt {xs:List (List Int)} {a b:List Int} (ha:a ∈ xs) (h:lexLt a b = true):rk xs a < rk xs b :=
  countP_lt ha (fun z hz => lexLt_tr hz h) h (lexLt_irr a)
theorem rk_eq {xs:List (List Int)} {a b:List Int} (ha:a ∈ xs) (hb:b ∈ xs):decide (rk xs a < rk xs b) = lexLt a b:=by
  cases z:lexLt a b with
  | true => exact decide_eq_true (rk_lt ha z)
  | false =>
    refine decide_eq_false ?_
    by_cases e:a = b
    · rw [e]; exact Nat.lt_irrefl _
    · have:=rk_lt hb (lexLt_tot e z)
      omega
theorem rk_nodup {xs:List (List Int)} (nd:xs.Nodup):(xs.map (rk xs)).Nodup:=by
  refine List.pairwise_map.mpr (List.Pairwise.imp_of_mem (fun {a b} ha hb ne => ?_) nd)
  intro e
  cases z:lexLt a b with
  | true => have:=rk_lt ha z; omega
  | false => have:=rk_lt hb (lexLt_tot ne z); omega
end
section
variable {prog:Program} {w:World} {A:Around} {E:Value → Shared → Prop} {s:Shared} {vs:List Value} {xs:List (List Int)}
theorem sort_rev {a:Addr} {n:Nat} {P:PySem.Fin → Shared → Prop} (ho:s.heap.get? a = some (seqObj "list" vs.toArray n)) (t:TupsOf s.heap vs xs) (nd:xs.Nodup) (hz:vs.length ≤ sizeLine)
    (h:∀ zs:List (Value × List Int),zs.Perm (vs.zip xs) → Falls (zs.map (·.2)) → P (.done (.ret .none)) { s with heap:=sortedHeap s.heap a vs (zs.map (·.1)).toArray }) :
    wpAny (model prog w) A (Builtin.«list.sort» ⟨[.ref a],[(Str.ofString "reverse",.bool true)]⟩) P E s:=by
  rw [list_sort_rev]
  have ha:a < s.heap.objs.size:=Heap.lt_size ho
  have small:vs.toArray.size ≤ sizeLine:=by rw [List.size_toArray]; exact hz
  obtain ⟨h1,e1⟩:∃ h1,h1 = s.heap.update a (Obj.mapSeq fun _ => (#[]:Array Value)):=⟨_,rfl⟩
  obtain ⟨c1,ho1⟩:∃ c,h1.get? a = some (seqObj "list" #[] c):=⟨_,by rw [e1]; exact get?_update_seq ho fun _ => #[]⟩
  obtain ⟨h6,e6⟩:∃ h6,h6 = (h1.push (seqObj "tuple" vs.toArray 0)).push (seqObj "list" #[] 0):=⟨_,rfl⟩
  have ho6:h6.get? a = some (seqObj "list" #[] c1):=by rw [e6]; exact Heap.get?_push_of_some _ (Heap.get?_push_of_some _ ho1)
  have t6:TupsOf h6 vs xs:=t.to fun b o hb hc => by
    rw [e6,e1]
    refine Heap.get?_push_of_some _ (Heap.get?_push_of_some _ ?_)
    have ne:a ≠ b:=fun z => by
      rw [← z,ho] at hb
      cases hb
      exact absurd (Value.type.inj hc) (by decide)
    exact (Heap.get?_update_other _ _ ne).trans hb
  refine wpAny_bind (listItems_at ho rfl (wpAny_bind (listUpdate_at ho rfl ?_ small (Nat.zero_le _))))
  rw [← e1]
  refine wpAny_bind (seqEpoch_at ho1 rfl (wpAny_bind (wpAny_newTuple ?_ (by show vs.length ≤ _; exact hz))))
  refine wpAny_bind (wpAny_newList ?_ (Nat.zero_le _)); refine wpAny_holding ?_
  show wpAny (model prog w) A _ P E { s with heap:=(h1.push (seqObj "tuple" vs.toArray 0)).push (seqObj "list" #[] 0) }
  rw [← e6]
  have ends:∀ zs:List (Value × List Int),zs.Perm (vs.zip xs) → Falls (zs.map (·.2)) → P (.done (.ret .none)) { s with heap:=h6.update a (Obj.mapSeq fun _ => (zs.map (·.1)).toArray) }:=by
    intro zs z1 z2
    have:=h zs z1 z2
    unfold sortedHeap at this
    rw [← e1,← e6] at this
    exact this
  dsimp only
  rw [if_pos rfl]
  refine wpAny_bind (wpAny_rule ?_)
  by_cases h2:vs.toArray.size < 2
  · rw [if_pos h2,if_pos h2]
    refine wpAny_bind (wpAny_pure ?_); rw [StateT.run_pure]; refine wpAny_bind (wpAny_pure ?_)
    dsimp only
    have h2z:(vs.zip xs).length < 2:=by rw [List.length_zip,← t.length,Nat.min_self]; rw [List.size_toArray] at h2; exact h2
    have out:(((vs.toArray.zip vs.toArray).reverse.map (·.2)).reverse) = ((vs.zip xs).map (·.1)).toArray:=by
      rw [Array.map_reverse,Array.reverse_reverse]
      apply Array.toList_inj.mp
      rw [Array.toList_map,Array.toList_zip]
      show List.map _ (vs.zip vs) = List.map _ (vs.zip xs)
      rw [List.map_snd_zip (Nat.le_refl _),List.map_fst_zip (Nat.le_of_eq t.length)]
    refine wpAny_bind (seqEpoch_at ho6 rfl (wpAny_bind (listUpdate_at ho6 rfl ?_ (Nat.zero_le _) ?_)))
    · show wpAny _ _ _ _ _ { s with heap:=h6.update a (Obj.mapSeq fun _ => (((vs.toArray.zip vs.toArray).reverse.map (·.2)).reverse)) }
      rw [out]
      simp only [bne_self_eq_false,Bool.false_eq_true,if_false]
      refine wpAny_pure (ends _ (List.Perm.refl _) ?_)
      unfold Falls
      match (vs.zip xs),h2z with
      | [],_ => exact .nil
      | [_],_ => exact List.pairwise_singleton _ _
    · show (((vs.toArray.zip vs.toArray).reverse.map (·.2)).reverse).size ≤ _
      rw [out,List.size_toArray,List.length_map]; omega
  · rw [if_neg h2,if_neg h2]
    have l2:2 ≤ vs.length:=by rw [List.size_toArray] at h2; omega
    obtain ⟨rs,er⟩:∃ rs,rs = vs.reverse:=⟨_,rfl⟩
    obtain ⟨ks,ek⟩:∃ ks,ks = xs.reverse:=⟨_,rfl⟩
    have tr6:TupsOf h6 rs ks:=by rw [er,ek]; exact t6.rev
    have lr:rs.length = vs.length:=by rw [er,List.length_reverse]
    have lk:rs.length = ks.length:=tr6.length
    have ndk:ks.Nodup:=by rw [ek]; exact (List.reverse_perm xs).nodup_iff.mpr nd
    refine wpAny_bind (kind_ok t6 (by omega) ?_)
    have pr:(vs.toArray.zip vs.toArray).reverse = rs.toArray.zip rs.toArray:=by
      have:=kat_pairs true (ks:=vs) (vs:=vs) rfl
      rw [if_pos rfl] at this
      rw [this,er]; rfl
    rw [pr]
    obtain ⟨X,eX⟩:∃ X,X = rs.toArray.zip rs.toArray:=⟨_,rfl⟩
    rw [← eX]
    have xl:X.toList = rs.map fun v => (v,v):=by
      rw [eX,Array.toList_zip]
      show rs.zip rs = _
      rw [List.zip_eq_zipWith,List.zipWith_self]
    have kk:rs.map (keyOf h6) = ks:=keys_at tr6
    have sX:∀ x ∈ X,∃ k,TupOf h6 x.1 k ∧ k ∈ ks:=fun x hx => by
      rw [← Array.mem_toList_iff,xl] at hx
      obtain ⟨v,hv,rfl⟩:=List.mem_map.mp hx
      obtain ⟨i,hi⟩:=List.getElem?_of_mem hv
      have li:i < rs.length:=(List.getElem?_eq_some_iff.mp hi).1
      have:=tr6.at_ i li
      rw [List.getD_eq_getElem?_getD,hi,List.getD_eq_getElem?_getD,List.getElem?_eq_getElem (by omega)] at this
      exact ⟨_,this,List.getElem_mem _⟩
    have C:TS.Cmp prog w A { s with heap:=h6 } (tuples' true) (fun x => ∃ k,TupOf h6 x.1 k ∧ k ∈ ks) fun x => rk ks (keyOf h6 x.1):=by
      rintro x y Q ⟨k,tk,mk⟩ ⟨l,tl,ml⟩ q
      replace q:Q (decide (rk ks (keyOf h6 x.1) < rk ks (keyOf h6 y.1))) { s with heap:=h6 }:=q
      rw [key_at tk,key_at tl,rk_eq mk ml] at q
      exact lt_ok tk tl q
    have dX:TS.Di (fun x => rk ks (keyOf h6 x.1)) X:=by
      unfold TS.Di
      rw [xl,List.map_map]
      have:rs.map ((fun x:Keyed => rk ks (keyOf h6 x.1)) ∘ fun v => (v,v)) = ks.map (rk ks):=by
        rw [← kk,List.map_map]; rfl
      rw [this]
      exact rk_nodup ndk
    have zX:X.size = rs.length:=by rw [← Array.length_toList,xl,List.length_map]
    rw [if_pos (rfl:true = true)]
    refine wpAny_bind (wpAny_mono (TS.runs_ (Q:=fun _ st' => ∃ Y pd g,st' = SortSt.mk' (tuples' true) Y pd g none ∧ Y.toList.Perm X.toList ∧ TS.Up (fun x => rk ks (keyOf h6 x.1)) Y 0 X.size) C sX dX (by omega) fun Y pd g y1 y2 => ⟨Y,pd,g,rfl,y1,y2⟩) ?_ fun _ _ e => e)
    rintro ⟨⟨⟩,st'⟩ s' ⟨rfl,Y,pd,g,rfl,y1,y2⟩
    dsimp only at y1 y2 ⊢
    have zY:Y.size = X.size:=by rw [← Array.length_toList,y1.length_eq,Array.length_toList]
    obtain ⟨zs,ez⟩:∃ zs:List (Value × List Int),zs = (Y.toList.map fun x => (x.2,keyOf h6 x.1)).reverse:=⟨_,rfl⟩
    have zp:zs.Perm (vs.zip xs):=by
      rw [ez]
      refine (List.reverse_perm _).trans ((y1.map _).trans ?_)
      rw [xl,List.map_map]
      have:rs.map ((fun x:Keyed => (x.2,keyOf h6 x.1)) ∘ fun v => (v,v)) = rs.zip ks:=by
        rw [← kk,List.zip_map_right,List.zip_eq_zipWith,List.zipWith_self,List.map_map]; rfl
      rw [this,er,ek,zip_rev t.length]
      exact List.reverse_perm _
    have zf:Falls (zs.map (·.2)):=by
      unfold Falls
      rw [ez,List.map_reverse,List.pairwise_reverse,List.map_map,List.pairwise_map]
      have u:=y2.srt
      rw [← zY,TS.part_all] at u
      have d:=List.pairwise_map.mp (dX.to y1)
      refine List.Pairwise.imp_of_mem (fun {a b} ha hb q => ?_) (List.Pairwise.and u d)
      obtain ⟨k,tk,mk⟩:=sX a (Array.mem_toList_iff.mp (y1.mem_iff.mp ha))
      obtain ⟨l,tl,ml⟩:=sX b (Array.mem_toList_iff.mp (y1.mem_iff.mp hb))
      have q1:rk ks (keyOf h6 a.1) ≤ rk ks (keyOf h6 b.1):=q.1
      have q2:rk ks (keyOf h6 a.1) ≠ rk ks (keyOf h6 b.1):=q.2
      show lexLt (keyOf h6 a.1) (keyOf h6 b.1) = true
      rw [key_at tk,key_at tl] at q1 q2 ⊢
      rw [← rk_eq mk ml]
      exact decide_eq_true (by omega)
    have out:(Y.map (·.2)).reverse = (zs.map (·.1)).toArray:=by
      apply Array.toList_inj.mp
      rw [Array.toList_reverse,Array.toList_map,ez,List.map_reverse,List.map_map]
      rfl
    have lz:zs.length ≤ sizeLine:=by
      have:=zp.length_eq
      rw [List.length_zip,← t.length,Nat.min_self] at this
      omega
    refine wpAny_bind (seqEpoch_at ho6 rfl (wpAny_bind (listUpdate_at ho6 rfl ?_ (Nat.zero_le _) ?_)))
    · rw [if_pos rfl,out]
      simp only [bne_self_eq_false,Bool.false_eq_true,if_false]
      exact wpAny_pure (ends zs zp zf)
    · rw [if_pos rfl,out,List.size_toArray,List.length_map]; exact Nat.le_succ_of_le lz
theorem sorted_raw {d:Addr} {es:Array DictEntry} {ep:Nat} {Q:Value → Shared → Prop} (hh:A.handled = none) (lo:(d == sysModules) = false) (x:RawD s.heap d es ep) (t:TupsOf s.heap (es.toList.map (·.key)) xs) (nd:xs.Nodup) (hz:es.size ≤ sizeLine)
    (h:∀ (h':Heap) (tk:Nat) (l:Addr) (c:Nat) (zs:List (Value × List Int)),(∀ b o,s.heap.get? b = some o → h'.get? b = some o) → s.heap.objs.size ≤ l → zs.Perm ((es.toList.map (·.key)).zip xs) → Falls (zs.map (·.2)) →
      h'.get? l = some (seqObj "list" (zs.map (·.1)).toArray c) → Q (.ref l) { s with heap:=h',toks:=tk }) :
    wpAny (model prog w) A (call (.builtin "sorted") [.ref d] [(Str.ofString "reverse",.bool true)]) Q E s:=by
  refine call_function_entry_kw kind_sorted plain_sorted entry_sorted (args_sorted_rev _ _) ?_
  unfold Builtin.«sorted»; refine wpAny_bind (m:=checkCount "sorted" 1 1 _) (wpAny_pure ?_)
  have hn:es.size ≤ sizeLine:=hz
  obtain ⟨vs,ev⟩:∃ vs,vs = es.toList.map (·.key):=⟨_,rfl⟩
  have lv:vs.length = es.size:=by rw [ev,List.length_map,Array.length_toList]
  refine wpAny_bind (collect_raw hh lo x hn fun h1 tk k0 k1 => ?_)
  rw [← ev] at t h ⊢
  refine wpAny_bind (wpAny_newList ?_ (by show vs.length ≤ _; omega))
  have gl:(h1.push (seqObj "list" vs.toArray 0)).get? h1.objs.size = some (seqObj "list" vs.toArray 0):=Heap.get?_push_size _ rfl
  show wpAny _ _ _ _ _ { s with heap:=h1.push (seqObj "list" vs.toArray 0),toks:=tk }
  refine wpAny_bind (wpAny_holding (wpAny_call_entry_kw slot_list_sort ⟨_,gl,rfl⟩ entry_list_sort (sort_rev gl (t.to fun b o e _ => Heap.get?_push_of_some _ (k1 b o e)) nd (by omega) fun zs z1 z2 => ⟨_,rfl,?_⟩) (args_list_sort_rev _ _)))
  obtain ⟨c,gc⟩:∃ c,(sortedHeap (h1.push (seqObj "list" vs.toArray 0)) h1.objs.size vs (zs.map (·.1)).toArray).get? h1.objs.size = some (seqObj "list" (zs.map (·.1)).toArray c) :=
    ⟨_,by unfold sortedHeap; exact get?_update_seq (Heap.get?_push_of_some _ (Heap.get?_push_of_some _ (get?_update_seq gl fun _ => #[]))) fun _ => (zs.map (·.1)).toArray⟩
  refine wpAny_pure ⟨_,rfl,h _ tk h1.objs.size c zs (fun b o e => ?_) ?_ z1 z2 gc⟩
  · have e1:=k1 b o e
    have ne:h1.objs.size ≠ b:=Nat.ne_of_gt (Heap.lt_size e1)
    unfold sortedHeap
    refine (Heap.get?_update_other _ _ ne).trans (Heap.get?_push_of_some _ (Heap.get?_push_of_some _ ((Heap.get?_update_other _ _ ne).trans (Heap.get?_push_of_some _ e1))))
  · exact Nat.le_of_lt k0
end
end SO
namespace L2
open PySem PySem.Spec PyProof.Rows
noncomputable def CallKR (X:Cx) (f:Value) (ks:List Str) (r:List V → List V → Hp → VK → Prop):Prop :=
  ∀ (pins:List (Addr × Obj)) (s:Shared) (σ:St) (H:Hp) (xs zs:List V) (us ws:List Value) (Q:VK),Inv X pins σ H s → Vals xs us → Vals zs ws → r xs zs H Q →
    wpAny (model X.prog X.w) X.A (call f us (ks.zip ws)) (EP X pins σ Q) X.xe s
noncomputable def tCK (r:List V → List V → Hp → VK → Prop) (t tk:TA):TE:=fun σ H Q => t σ H fun vs H1 => tk σ H1 fun zs H2 => r vs zs H2 Q
section
variable {X:Cx} {id:String} {ks:List Str} {r:List V → List V → Hp → VK → Prop} {x:Str} {p pos:Pos} {e:Expr} {es:List Expr} {kws:List Keyword} {t tk:TA}
theorem pe_callBK (hc:CallKR X (.builtin id) ks r) (hg:Gl X x) (hm:X.mg x = none) (hv:bootBuiltins x = some (.builtin id)) (ha:PA X (e :: es) t) (hkw:PK X kws tk)
    (hks:(backToKw pos (keywordEach kws X.env)).filterMap (·.1) = ks:=by rfl) (hn:x ≠ "__name__":=by decide) (hdb:(x == ("__debug__":Str)) = false:=by decide)
    (he:backTo pos (starEach (e :: es) X.env) = (false,eval e X.env) :: backTo pos (starEach es X.env):=by rfl) (hpl:(backTo pos (starEach (e :: es) X.env)).any (·.1) = false:=by rfl)
    (hall:(backToKw pos (keywordEach kws X.env)).all (·.1.isSome) = true:=by rfl) (hno:(backToKw pos (keywordEach kws X.env)).any (·.1.isNone) = false:=by rfl):PE X (.Call (.Name x p) (e :: es) kws pos) (tCK r t tk):=by
  intro pins s σ H Q I h
  refine wpAny_Call_Name_kw (ld_blt I hg hm hv ?_ hn hdb)
  refine callWith_kw (thn (ha pos pins s σ H _ I h) fun us s1 q1 => ?_) he hpl hall hno
  obtain ⟨vs,H1,I1,r1,q1⟩:=q1
  refine thn (hkw pos pins s1 σ H1 _ I1 q1) fun ws s2 q2 => ?_
  obtain ⟨zs,H2,I2,r2,q2⟩:=q2
  rw [hks]
  exact hc pins s2 σ H2 vs zs us ws Q I2 r1 r2 q2
end
noncomputable def iK (k:List Int):List Key:=k.map Sum.inl
theorem iK_V (k:List Int):(iK k).map kV = k.map V.int:=by
  unfold iK
  rw [List.map_map]
  rfl
theorem iK_inj {a b:List Int} (h:iK a = iK b):a = b:=by
  induction a generalizing b with
  | nil => cases b with
    | nil => rfl
    | cons => cases h
  | cons x a ih => cases b with
    | nil => cases h
    | cons y b =>
      injection h with h1 h2
      injection h1 with h1
      rw [h1,ih h2]
noncomputable def KeyV (H:Hp) (v:V) (k:List Int):Prop:=∃ a,v = .ref a ∧ H a = some (.tup (k.map V.int))
noncomputable def rSortD:List V → List V → Hp → VK → Prop:=fun xs zs H Q => ∃ (d:Addr) (kvs:List (List Key × V)) (ks:List (List Int)),xs = [.ref d] ∧ zs = [.bl true] ∧ H d = some (.dT kvs) ∧ kvs.map (·.1) = ks.map iK ∧ ks.length ≤ sizeLine ∧ (∀ k ∈ ks,k ≠ []) ∧
  ∀ (l:Addr) (vs:List V) (outs:List (List Int)),H l = none → outs.Perm ks → SO.Falls outs → Paired (KeyV H) vs outs → Q (.ref l) (upd H l (.lst vs))
theorem ints_are {xs:List Int} {us:List Value} (h:Vals (xs.map V.int) us):IntsAre us xs:=by
  induction xs generalizing us with
  | nil => cases h; exact .nil
  | cons x xs ih =>
    cases h with
    | cons a b =>
      obtain ⟨t,rfl⟩:=a
      exact .cons x t (ih b)
section
variable {X:Cx}
theorem callK_sortD (hc:X.calm = true):CallKR X (.builtin "sorted") ["reverse"] rSortD:=by
  intro pins s σ H xs zs us ws Q I rx rz h
  obtain ⟨d,kvs,ks,rfl,rfl,hd,hk,h64,hne,q⟩:=h
  obtain ⟨u,rfl,r1⟩:=vals1 rx
  obtain ⟨z,rfl,r2⟩:=vals1 rz
  cases r1
  cases r2
  obtain ⟨_,lo,xs,pr,o,es,ep,h1,h2,h3,h4,h5⟩:=(show ObjOk X.prog X.w H s.heap d (.dT kvs) from I.hok d _ hd)
  -- the keys' values and what they hold
  have key:∀ {kvs:List (List Key × V)} {xs:List (List Key × Addr × Value)} {ks:List (List Int)},KT H kvs xs → kvs.map (·.1) = ks.map iK → (∀ k ∈ ks,k ≠ []) →
      SO.TupsOf s.heap (xs.map fun x => Value.ref x.2.1) ks ∧ xs.map (·.1) = ks.map iK ∧ ∀ z ∈ (xs.map fun x => Value.ref x.2.1).zip ks,∃ a,z.1 = .ref a ∧ H a = some (.tup (z.2.map V.int)):=by
    intro kvs xs ks pr
    induction pr generalizing ks with
    | nil =>
      intro e _
      cases ks with
      | nil => exact ⟨.nil,rfl,fun z m => by cases m⟩
      | cons => cases e
    | @cons p x ps ys a _ ih =>
      intro e ne
      cases ks with
      | nil => cases e
      | cons k ks =>
        injection e with e1 e2
        replace e1:p.1 = iK k:=e1
        obtain ⟨i1,i2,i3⟩:=ih e2 fun k m => ne k (List.mem_cons_of_mem _ m)
        have ht:H x.2.1 = some (.tup (k.map V.int)):=by rw [← iK_V,← e1]; exact a.2.1
        obtain ⟨_,its,rv,o,g1,g2,n,g3⟩:=(show ObjOk X.prog X.w H s.heap x.2.1 (.tup (k.map V.int)) from I.hok _ _ ht)
        refine ⟨.cons ⟨ne k List.mem_cons_self,x.2.1,o,its.toArray,n,rfl,g1,g2,g3,ints_are rv⟩ i1,?_,fun z m => ?_⟩
        · rw [List.map_cons,List.map_cons,i2,← a.1,e1]
        · rcases List.mem_cons.mp m with m | m
          · rw [m]; exact ⟨_,rfl,ht⟩
          · exact i3 z m
  obtain ⟨t,ek,hz⟩:=key pr hk hne
  have nd:ks.Nodup:=by
    rw [ek] at h5
    exact List.Pairwise.of_map iK (fun a b z e => z (by rw [e])) h5
  have ev:es.toList.map (·.key) = xs.map fun x => Value.ref x.2.1:=by rw [h4,List.map_map]; rfl
  have lv:es.size = ks.length:=by
    have:=congrArg List.length h4
    rw [Array.length_toList,List.length_map] at this
    have l2:=t.length
    rw [List.length_map] at l2
    omega
  have x:SO.RawD s.heap d es ep:=⟨o,h1,h2.1,h3⟩
  refine SO.sorted_raw (I.ok.hd hc) lo x (by rw [ev]; exact t) nd (by omega) fun h' tk l c zs kp hl z1 z2 g => ?_
  rw [ev] at z1
  have all:∀ z ∈ zs,∃ a,z.1 = .ref a ∧ H a = some (.tup (z.2.map V.int)):=fun z m => hz z (z1.mem_iff.mp m)
  have mk:∀ {zs:List (Value × List Int)},(∀ z ∈ zs,∃ a,z.1 = .ref a ∧ H a = some (.tup (z.2.map V.int))) → ∃ vs,Vals vs (zs.map (·.1)) ∧ Paired (KeyV H) vs (zs.map (·.2)):=by
    intro zs
    induction zs with
    | nil => intro _; exact ⟨[],.nil,.nil⟩
    | cons z zs ih =>
      intro al
      obtain ⟨vs,v1,v2⟩:=ih fun y m => al y (List.mem_cons_of_mem _ m)
      obtain ⟨a,e1,e2⟩:=al z List.mem_cons_self
      exact ⟨.ref a :: vs,.cons e1 v1,.cons ⟨a,rfl,e2⟩ v2⟩
  obtain ⟨vs,v1,v2⟩:=mk all
  have op:(zs.map (·.2)).Perm ks:=by
    have:=z1.map (·.2)
    rwa [List.map_snd_zip (Nat.le_of_eq t.length.symm)] at this
  have lz:vs.length ≤ sizeLine:=by
    have e1:=v1.length
    have e2:=op.length_eq
    rw [List.length_map] at e1 e2
    omega
  exact ⟨.ref l,_,I.laid (t':=tk) kp hl (show ObjOk X.prog X.w _ h' _ (.lst vs) from ⟨lz,_,c,v1,g⟩),rfl,q l vs _ (I.hok.fresh hl) op z2 v2⟩
end
end L2
namespace SO
open PySem PySem.W PyProof.Rows
section
variable {prog:Program} {w:World} {A:Around} {E:Value → Shared → Prop} {s:Shared}
end
end SO
namespace SO
open PySem PySem.W PyProof.Rows
section
variable {prog:Program} {w:World} {A:Around} {E:Value → Shared → Prop} {I l S:Addr} {us:List Value} {ns:List Int} {d:Value} {R:Result → Shared → Prop}
end
end SO
namespace MN
open PySem PySem.Spec L2
open PyProof.Rows hiding St kindOf
noncomputable def intK:List Key → Option (List Int)
  | [] => some []
  | .inl i :: r => (intK r).map (i :: ·)
  | .inr _ :: _ => none
noncomputable def intKs:List (List Key) → Option (List (List Int))
  | [] => some []
  | k :: r => match intK k,intKs r with
    | some a,some b => some (a :: b)
    | _,_ => none
theorem intK_iK:∀ {k:List Key} {a:List Int},intK k = some a → k = iK a:=by
  intro k
  induction k with
  | nil => intro a h; cases h; rfl
  | cons x r ih =>
    intro a h
    cases x with
    | inl i =>
      replace h:(intK r).map (i :: ·) = some a:=h
      cases z:intK r with
      | none => rw [z] at h; cases h
      | some b =>
        rw [z] at h; cases h
        rw [ih z]; rfl
    | inr x => cases h
theorem intKs_iK:∀ {l:List (List Key)} {ks:List (List Int)},intKs l = some ks → l = ks.map iK:=by
  intro l
  induction l with
  | nil => intro ks h; cases h; rfl
  | cons k r ih =>
    intro ks h
    unfold intKs at h
    cases z1:intK k with
    | none => rw [z1] at h; cases h
    | some a =>
      cases z2:intKs r with
      | none => rw [z1,z2] at h; cases h
      | some b =>
        rw [z1,z2] at h; cases h
        rw [intK_iK z1,ih z2]; rfl
theorem intK_of (a:List Int):intK (iK a) = some a:=by
  induction a with
  | nil => rfl
  | cons x a ih => show (intK (iK a)).map (x :: ·) = _; rw [ih]; rfl
theorem intKs_of (ks:List (List Int)):intKs (ks.map iK) = some ks:=by
  induction ks with
  | nil => rfl
  | cons k ks ih => rw [List.map_cons]; unfold intKs; rw [intK_of,ih]
noncomputable def geK (a b:List Int):Bool:=!(SO.lexLt a b)
noncomputable def srt (ks:List (List Int)):List (List Int):=ks.mergeSort geK
theorem srt_perm (ks:List (List Int)):(srt ks).Perm ks:=List.mergeSort_perm ks geK
theorem srt_falls {ks:List (List Int)} (nd:ks.Nodup):SO.Falls (srt ks):=by
  have h1:(srt ks).Pairwise fun a b => geK a b = true:=by
    refine List.pairwise_mergeSort (fun a b c h1 h2 => ?_) (fun a b => ?_) ks
    · unfold geK at h1 h2 ⊢
      rw [Bool.not_eq_true'] at h1 h2 ⊢
      by_cases e1:a = b
      · rw [e1]; exact h2
      · by_cases e2:b = c
        · rw [← e2]; exact h1
        · exact SO.lexLt_asym (SO.lexLt_tr (SO.lexLt_tot e2 h2) (SO.lexLt_tot e1 h1))
    · unfold geK
      cases z:SO.lexLt a b with
      | false => rfl
      | true => rw [SO.lexLt_asym z]; rfl
  have h2:(srt ks).Nodup:=(srt_perm ks).nodup_iff.mpr nd
  refine List.Pairwise.imp (fun {a b} h => ?_) (h1.and h2)
  have z:SO.lexLt a b = false:=by
    have:=h.1
    unfold geK at this
    rwa [Bool.not_eq_true'] at this
  exact SO.lexLt_tot h.2 z
theorem falls_nodup {ks:List (List Int)} (h:SO.Falls ks):ks.Nodup:=List.Pairwise.imp (fun {a b} h e => by rw [e,SO.lexLt_irr] at h; cases h) h
theorem falls_eq {a b:List (List Int)} (p:a.Perm b) (fa:SO.Falls a) (fb:SO.Falls b):a = b :=
  List.Perm.eq_of_pairwise (fun x y _ _ h1 h2 => by rw [SO.lexLt_asym h1] at h2; cases h2) fa fb p
noncomputable def tupI (k:List Int):Val:=.tup (k.map .int)
noncomputable def srtD (d:Val) (st:Store):Res Val:=match d with
  | .loc n => match st[n]? with
    | some (.dT kvs) => match intKs (kvs.map (·.1)) with
      | some ks => if ks.length ≤ sizeLine ∧ ks.all (fun k => !k.isEmpty) = true then .ok (.loc st.length) (st ++ [.lst ((srt ks).map tupI)]) else .bad
      | none => .bad
    | _ => .bad
  | _ => .bad
noncomputable def mSortD (m:ME):ME:=fun μ st => (m μ st).bind srtD
theorem srtD_ok {n:Nat} {st:Store} {kvs:List (List Key × Val)} {ks:List (List Int)} (h1:st[n]? = some (.dT kvs)) (h2:kvs.map (·.1) = ks.map iK) (h3:ks.length ≤ sizeLine) (h4:∀ k ∈ ks,k ≠ []) :
    srtD (.loc n) st = .ok (.loc st.length) (st ++ [.lst ((srt ks).map tupI)]):=by
  unfold srtD
  dsimp only
  rw [h1]
  dsimp only
  rw [h2,intKs_of]
  dsimp only
  rw [if_pos ⟨h3,List.all_eq_true.mpr fun k m => by
    cases k with
    | nil => exact absurd rfl (h4 _ m)
    | cons => rfl⟩]
theorem keyVs_rl {K:PySem.W.Frag} {ρ:List Addr} {H:Hp} {vs:List V} {ks:List (List Int)} (p:Paired (KeyV H) vs ks):Rls K ρ H (ks.map tupI) vs:=by
  induction p with
  | nil => exact Rls.nil
  | cons a _ ih =>
    obtain ⟨b,rfl,hb⟩:=a
    exact Rls.cons (Rl.mkTup hb (Rls.ints _)) ih
section
variable {X:Cx} {E:XK} {x:Str} {p pos cp kp:Pos} {e:Expr} {md:ME} {j:Nat}
theorem me_sortD (hc:X.calm = true) (hg:Gl X x) (hm:X.mg x = none) (hv:bootBuiltins x = some (.builtin "sorted")) (ha:PE X e (tE X E md)) (hn:x ≠ "__name__":=by decide) (hdb:(x == ("__debug__":Str)) = false:=by decide)
    (he:starEach [e] X.env = (false,eval e X.env) :: starEach [] X.env:=by rfl):PE X (.Call (.Name x p) [e] [⟨some "reverse",.Constant (.bool true) j cp,kp⟩] pos) (tE X E (mSortD md)):=by
  refine PE.imp (pe_callBK (callK_sortD hc) hg hm hv (pa_cons ha pa_nil he) (pk_cons pe_bl pk_nil) (by rfl) hn hdb (by rw [he]; rfl) (by rw [he]; rfl) (by rfl) (by rfl)) ?_
  rintro σ H Q ⟨μ,ρ,st,rs,sr,h⟩
  refine go μ ρ st rs sr h fun d st1 ρ1 H1 v e1 sr1 r1 h1 => ?_
  show rSortD [v] [.bl true] H1 Q
  cases d with
  | loc n =>
    obtain ⟨a,rfl,ha⟩:=r1.loc_
    unfold srtD at h1
    dsimp only at h1
    cases hn:st1[n]? with
    | none => rw [hn] at h1; exact h1.elim
    | some c =>
      rw [hn] at h1
      cases c with
      | dT kvs =>
        obtain ⟨kvs',hd,pr⟩:=sr1.cell n _ a hn ha
        dsimp only at h1
        cases hk:intKs (kvs.map (·.1)) with
        | none => rw [hk] at h1; exact h1.elim
        | some ks =>
          rw [hk] at h1
          dsimp only at h1
          by_cases hz:ks.length ≤ sizeLine ∧ ks.all (fun k => !k.isEmpty) = true
          · rw [if_pos hz] at h1
            refine ⟨a,kvs',ks,rfl,rfl,hd,by rw [← pr.1]; exact intKs_iK hk,hz.1,fun k m z => ?_,fun l vs outs hl op fo pv => ?_⟩
            · have:=List.all_eq_true.mp hz.2 k m
              rw [z] at this; cases this
            · have nd:ks.Nodup:=op.nodup_iff.mp (falls_nodup fo)
              have eo:outs = srt ks:=falls_eq (op.trans (srt_perm ks).symm) fo (srt_falls nd)
              rw [eo] at pv
              obtain ⟨k1,k2,k3⟩:=new_lst sr1 (keyVs_rl pv) hl
              exact h1 _ _ _ k1 k2 k3
          · rw [if_neg hz] at h1; exact h1.elim
      | _ => exact h1.elim
  | _ => exact h1.elim
end
noncomputable def intVs:List Val → Option (List Int)
  | [] => some []
  | .int i :: r => (intVs r).map (i :: ·)
  | _ :: _ => none
theorem intVs_of (a:List Int):intVs (a.map Val.int) = some a:=by
  induction a with
  | nil => rfl
  | cons x a ih => show (intVs (a.map Val.int)).map (x :: ·) = _; rw [ih]; rfl
section
variable {X:Cx} {E:XK}
end
section
variable {X:Cx} {E:XK}
variable {x:Str} {p pos kp:Pos} {e ed:Expr} {m md:ME}
end
end MN
namespace PM
open PySem PySem.Spec L2 MN
open PyProof.Rows hiding St
end PM
namespace PM
open PySem PySem.Spec L2 MN
open PyProof.Rows hiding St
noncomputable def add_to:FN:=fnM 3 3 (sDPutM (mVar 0) (mVar 1) (mBin addV (mDGet2 (mVar 0) (mVar 1) (mC (.int 0))) (mVar 2)))
noncomputable def law_settled:FN:=fnM 2 2 (sSeq (sIf (asT (mBin eqM (mVar 0) (mC (.int 0)))) (sRet (mVar 1)) sNext) (sRet (mBin modV (mVar 1) (mVar 0))))
noncomputable def law_exponents:FN:=fnM 2 7 (sSeq (sSet 2 (mLst mNil)) (sSeq (sSet 3 (mVar 0)) (sSeq (sSet 4 (mC (.int 4))) (sSeq (sIf (asT (mBin eqM (mBin modV (mVar 0) (mC (.int 3))) (mC (.int 0)))) (sSeq (sSet 3 (mBin fdivV (mVar 0) (mC (.int 3)))) (sSet 4 (mC (.int 100)))) sNext) (sSeq (sFor (iRange1 (mCons (mVar 1) mNil)) (aName 5) (sSeq (sSet 6 (mBin modV (mVar 3) (mVar 4))) (sSeq (sSet 3 (mBin fdivV (mVar 3) (mVar 4))) (sSeq (sIf (tAndM (asT (mBin eqM (mVar 4) (mC (.int 4)))) (asT (mBin eqM (mBin modV (mBin fdivV (mVar 0) (mC (.int 256))) (mC (.int 8))) (mVar 5)))) (sSet 6 (mBin modV (mBin fdivV (mVar 0) (mC (.int 2048))) (mC (.int 100)))) sNext) (sExpr (mMtL appendF (mVar 2) (mCons (mVar 6) mNil))))))) (sRet (mCall tupF (mCons (mVar 2) mNil))))))))
noncomputable def is_whole_within:FN:=fnM 3 3 (sRet (mAnd (mCall PM.is_whole (mCons (mVar 0) mNil)) (mChain leV leV (mVar 1) (mVar 0) (mVar 2))))
noncomputable def settled_terms:FN:=fnM 2 3 (sSeq (sSet 2 (mComp 2 [0] (iSeq (mVar 1)) (aTup [(aName 0),(aName 1)]) tTrueM (mTup (mCons (mVar 0) (mCons (mCall PM.rest_in_ring (mCons (mVar 2) (mCons (mVar 1) mNil))) mNil))))) (sRet (mComp 1 [] (iSeq (mVar 2)) (aName 0) (asT (mBin neM (mBin ixV (mVar 0) (mC (.int 1))) (mC (.int 0)))) (mVar 0))))
noncomputable def law_gathered:FN:=fnM 2 6 (sSeq (sSet 2 mDNewT) (sSeq (sFor (iSeq (mVar 1)) (aName 3) (sDPutM (mVar 2) (mBin ixV (mVar 3) (mC (.int 0))) (mBin addV (mDGet2 (mVar 2) (mBin ixV (mVar 3) (mC (.int 0))) (mC (.int 0))) (mBin ixV (mVar 3) (mC (.int 1)))))) (sSeq (sSet 4 (mLst mNil)) (sSeq (sFor (iSeq (mSortD (mVar 2))) (aName 5) (sIf (asT (mBin neM (mCall PM.law_settled (mCons (mVar 0) (mCons (mBin dgetV (mVar 2) (mVar 5)) mNil))) (mC (.int 0)))) (sExpr (mMtL appendF (mVar 4) (mCons (mTup (mCons (mVar 5) (mCons (mCall PM.law_settled (mCons (mVar 0) (mCons (mBin dgetV (mVar 2) (mVar 5)) mNil))) mNil))) mNil))) sNext)) (sRet (mVar 4))))))
noncomputable def law_same:FN:=fnM 2 3 (sSeq (sIf (tOrM (tNotM (asT (mIs "list" (mVar 0)))) (asT (mBin neM (mCall lenF (mCons (mVar 0) mNil)) (mCall lenF (mCons (mVar 1) mNil))))) (sRet (mC (.bl false))) sNext) (sSeq (sFor (iRange1 (mCons (mCall lenF (mCons (mVar 1) mNil)) mNil)) (aName 2) (sSeq (sIf (tOrM (tNotM (asT (mIs "tuple" (mBin ixV (mVar 0) (mVar 2))))) (tOrM (asT (mBin neM (mCall lenF (mCons (mBin ixV (mVar 0) (mVar 2)) mNil)) (mC (.int 2)))) (tNotM (asT (mCall PM.law_whole (mCons (mBin ixV (mBin ixV (mVar 0) (mVar 2)) (mC (.int 1))) mNil)))))) (sRet (mC (.bl false))) sNext) (sIf (tOrM (tNotM (asT (mIs "tuple" (mBin ixV (mBin ixV (mVar 0) (mVar 2)) (mC (.int 0)))))) (asT (mBin neM (mComp 1 [] (iSeq (mBin ixV (mBin ixV (mVar 0) (mVar 2)) (mC (.int 0)))) (aName 0) (tNotM (asT (mCall PM.law_whole (mCons (mVar 0) mNil)))) (mVar 0)) (mLst mNil)))) (sRet (mC (.bl false))) sNext))) (sRet (mBin eqM (mVar 0) (mVar 1)))))
noncomputable def law_pairs:FN:=fnM 4 7 (sSeq (sSet 4 (mLst mNil)) (sSeq (sFor (iRange1 (mCons (mVar 3) mNil)) (aName 5) (sSeq (sSet 6 (mCall PM.law_exponents (mCons (mCall PM.law_cell_at (mCons (mVar 0) (mCons (mBin addV (mVar 1) (mBin mulV (mC (.int 2)) (mVar 5))) mNil))) (mCons (mVar 2) mNil)))) (sExpr (mMtL appendF (mVar 4) (mCons (mTup (mCons (mVar 6) (mCons (mCall PM.law_number (mCons (mCall PM.law_cell_at (mCons (mVar 0) (mCons (mBin addV (mBin addV (mVar 1) (mBin mulV (mC (.int 2)) (mVar 5))) (mC (.int 1))) mNil))) mNil)) mNil))) mNil))))) (sRet (mVar 4))))
noncomputable def check_unknowns:FN:=fnM 1 1 (sIf (tNotM (asT (mCall PM.is_whole_within (mCons (mVar 0) (mCons (mC (.int 1)) (mCons (mC (.int 4)) mNil)))))) (sRaise "NoUnknowns" (mCons (mC (.str "a count of unknowns is a whole number from 1 to 4")) mNil)) sNext)
noncomputable def sum_of_totals:FN:=fnM 2 2 (sRet (mCall PM.settled_terms (mCons (mVar 0) (mCons (mComp 1 [1] (iSeq (mSortD (mVar 1))) (aName 0) tTrueM (mTup (mCons (mVar 0) (mCons (mBin dgetV (mVar 1) (mVar 0)) mNil)))) mNil))))
end PM
namespace PG
open PySem PySem.Spec L2 MN
open PyProof.Rows hiding St kindOf
end PG
namespace PG
open PySem PySem.Spec L2 MN
open PyProof.Rows hiding St kindOf
noncomputable abbrev Trm:=List Int × Int
noncomputable def tV (t:Trm):Val:=.tup [tupI t.1,.int t.2]
noncomputable def eD (t:Trm):List Key × Val:=(iK t.1,.int t.2)
noncomputable def getA (A:List Trm) (k:List Int):Int:=((A.find? fun p => decide (p.1 = k)).map (·.2)).getD 0
noncomputable def putA (A:List Trm) (k:List Int) (v:Int):List Trm:=if A.any (fun p => decide (p.1 = k)) then A.map (fun p => if p.1 = k then (p.1,v) else p) else A ++ [(k,v)]
theorem iK_dec (a k:List Int):decide (iK a = iK k) = decide (a = k):=by
  by_cases h:a = k
  · rw [h,decide_eq_true rfl,decide_eq_true rfl]
  · rw [decide_eq_false h,decide_eq_false fun e => h (iK_inj e)]
theorem valW_eD (k:List Int):∀ A:List Trm,valW (A.map eD) (iK k) = (A.find? fun p => decide (p.1 = k)).map fun p => Val.int p.2
  | [] => rfl
  | p :: A => by
    unfold valW
    rw [List.map_cons,List.find?_cons,List.find?_cons]
    show Option.map _ (match decide (iK p.1 = iK k) with | true => some (eD p) | false => _) = _
    rw [iK_dec]
    cases decide (p.1 = k) with
    | true => rfl
    | false => exact valW_eD k A
theorem any_eD (k:List Int):∀ A:List Trm,((A.map eD).any fun kv => decide (kv.1 = iK k)) = A.any fun p => decide (p.1 = k)
  | [] => rfl
  | p :: A => by
    rw [List.map_cons,List.any_cons,List.any_cons,any_eD k A]
    show (decide (iK p.1 = iK k) || _) = _
    rw [iK_dec]
theorem putW_eD (A:List Trm) (k:List Int) (v:Int):putW (A.map eD) (iK k) (.int v) = (putA A k v).map eD:=by
  unfold putW putA
  rw [any_eD]
  by_cases h:(A.any fun p => decide (p.1 = k)) = true
  · rw [if_pos h,if_pos h,List.map_map,List.map_map]
    refine List.map_congr_left fun p _ => ?_
    show (if iK p.1 = iK k then (iK p.1,Val.int v) else eD p) = eD (if p.1 = k then (p.1,v) else p)
    by_cases e:p.1 = k
    · rw [if_pos e,if_pos (by rw [e])]; rfl
    · rw [if_neg e,if_neg fun z => e (iK_inj z)]
  · rw [if_neg h,if_neg h,List.map_append]; rfl
theorem tkey_tupI (k:List Int):tkeyOf (tupI k) = some (iK k):=by
  have h:∀ k:List Int,keysOf (k.map Val.int) = some (iK k):=by
    intro k
    induction k with
    | nil => rfl
    | cons x k ih =>
      rw [List.map_cons]
      unfold keysOf
      show (match keyOf (Val.int x),keysOf (k.map Val.int) with | some a,some b => some (a :: b) | _,_ => none) = _
      rw [ih]; rfl
  show keysOf (k.map Val.int) = _
  exact h k
theorem look_ok {st:Store} {d:Nat} {A:List Trm} (h:st[d]? = some (.dT (A.map eD))) (k:List Int):lookD st (.loc d) (tupI k) = some ((A.find? fun p => decide (p.1 = k)).map fun p => Val.int p.2):=by
  unfold lookD
  dsimp only
  rw [h]
  dsimp only
  rw [tkey_tupI,Option.map_some,valW_eD]
theorem store_ok' {st:Store} {d:Nat} {A:List Trm} (h:st[d]? = some (.dT (A.map eD))) (hl:A.length < sizeLine) (k:List Int) (v:Int):storeD st (.loc d) (tupI k) (.int v) = some (st.set d (.dT ((putA A k v).map eD))):=by
  unfold storeD
  dsimp only
  rw [h]
  dsimp only
  rw [if_pos (by rw [List.length_map]; exact hl),tkey_tupI,Option.map_some,putW_eD]
theorem getD_look (A:List Trm) (k:List Int):((A.find? fun p => decide (p.1 = k)).map fun p => Val.int p.2).getD (.int 0) = .int (getA A k):=by
  unfold getA
  cases A.find? fun p => decide (p.1 = k) with
  | none => rfl
  | some p => rfl
theorem putA_keys {A:List Trm} {k:List Int} {v:Int}:(putA A k v).map (·.1) = if A.any (fun p => decide (p.1 = k)) then A.map (·.1) else A.map (·.1) ++ [k]:=by
  unfold putA
  by_cases h:(A.any fun p => decide (p.1 = k)) = true
  · rw [if_pos h,if_pos h,List.map_map]
    refine List.map_congr_left fun p _ => ?_
    show (if p.1 = k then (p.1,v) else p).1 = p.1
    split <;> rfl
  · rw [if_neg h,if_neg h,List.map_append]; rfl
theorem any_mem {A:List Trm} {k:List Int}:(A.any fun p => decide (p.1 = k)) = true ↔ k ∈ A.map (·.1):=by
  rw [List.any_eq_true,List.mem_map]
  constructor
  · rintro ⟨p,hp,e⟩; exact ⟨p,hp,of_decide_eq_true e⟩
  · rintro ⟨p,hp,e⟩; exact ⟨p,hp,decide_eq_true e⟩
theorem putA_nodup {A:List Trm} (h:(A.map (·.1)).Nodup) (k:List Int) (v:Int):((putA A k v).map (·.1)).Nodup:=by
  rw [putA_keys]
  by_cases c:(A.any fun p => decide (p.1 = k)) = true
  · rw [if_pos c]; exact h
  · rw [if_neg c]
    refine List.nodup_append.mpr ⟨h,List.pairwise_singleton _ _,?_⟩
    intro a ha b hb e
    rw [List.mem_singleton.mp hb] at e
    exact c (any_mem.mpr (e ▸ ha))
theorem putA_len {A:List Trm} {k:List Int} {v:Int}:(putA A k v).length ≤ A.length + 1:=by
  unfold putA
  split
  · rw [List.length_map]; omega
  · rw [List.length_append]; exact Nat.le_refl _
theorem putA_mem {A:List Trm} {k:List Int} {v:Int} {t:Trm} (h:t ∈ putA A k v):t ∈ A ∨ t = (k,v):=by
  unfold putA at h
  split at h
  · obtain ⟨p,hp,e⟩:=List.mem_map.mp h
    by_cases c:p.1 = k
    · rw [if_pos c] at e; right; rw [← e,c]
    · rw [if_neg c] at e; left; rw [← e]; exact hp
  · rcases List.mem_append.mp h with h | h
    · exact .inl h
    · exact .inr (List.mem_singleton.mp h)
theorem getA_mem {A:List Trm} {k:List Int} (h:k ∈ A.map (·.1)):(k,getA A k) ∈ A:=by
  unfold getA
  cases z:A.find? fun p => decide (p.1 = k) with
  | none =>
    rw [List.find?_eq_none] at z
    obtain ⟨p,hp,e⟩:=List.mem_map.mp h
    exact absurd (decide_eq_true e) (z p hp)
  | some p =>
    have e:=List.find?_some z
    have m:=List.mem_of_find?_eq_some z
    have e':p.1 = k:=of_decide_eq_true e
    show (k,p.2) ∈ A
    rw [← e']; exact m
theorem getA_bound {A:List Trm} {k:List Int} {b:Int} (b0:0 ≤ b) (h:∀ t ∈ A,-b ≤ t.2 ∧ t.2 ≤ b):-b ≤ getA A k ∧ getA A k ≤ b:=by
  unfold getA
  cases z:A.find? fun p => decide (p.1 = k) with
  | none => show -b ≤ 0 ∧ (0:Int) ≤ b; omega
  | some p => exact h p (List.mem_of_find?_eq_some z)
end PG
namespace PG
open PySem PySem.Spec L2 MN
open PyProof.Rows hiding St kindOf
theorem set_dict (st:Store) (a b:List (List Key × Val)):(st ++ [Cell.dT a]).set st.length (.dT b) = st ++ [.dT b]:=set_last st _ _
theorem la_dict (st:Store) (a:List (List Key × Val)):(st ++ [Cell.dT a])[st.length]? = some (.dT a):=by
  rw [List.getElem?_append_right (Nat.le_refl _),Nat.sub_self]; rfl
end PG
namespace PG
open PySem PySem.Spec L2 MN
open PyProof.Rows hiding St kindOf
noncomputable def kOf:Val → List Int
  | .tup us => (intVs us).getD []
  | _ => []
theorem kOf_t (k:List Int):kOf (tupI k) = k:=by
  show (intVs (k.map Val.int)).getD [] = k
  rw [intVs_of]; rfl
theorem dget_ok {s:Store} {d:Nat} {A:List Trm} {k:List Int} (h:s[d]? = some (.dT (A.map eD))) (hk:k ∈ A.map (·.1)):dgetV (.loc d) (tupI k) s = .ok (.int (getA A k)) s:=by
  unfold dgetV
  rw [look_ok h k]
  unfold getA
  cases z:A.find? fun p => decide (p.1 = k) with
  | none =>
    rw [List.find?_eq_none] at z
    obtain ⟨p,hp,e⟩:=List.mem_map.mp hk
    exact absurd (decide_eq_true e) (z p hp)
  | some p => rfl
theorem ev_sortD {m:ME} {μ:MN.Env} {st:Store}:mSortD m μ st = (m μ st).bnd srtD:=bind_bnd
end PG
namespace PG
open PySem PySem.Spec L2 MN
open PyProof.Rows hiding St kindOf
end PG
namespace PG
open PySem PySem.Spec L2 MN
open PyProof.Rows hiding St kindOf
noncomputable def tOf:Val → Trm
  | .tup [k,.int n] => (kOf k,n)
  | _ => ([],0)
theorem tOf_t (t:Trm):tOf (tV t) = t:=by
  show (kOf (tupI t.1),t.2) = t
  rw [kOf_t]
end PG
namespace PG
open PySem PySem.Spec L2 MN
open PyProof.Rows hiding St kindOf
end PG
namespace PG
open PySem PySem.Spec L2 MN
open PyProof.Rows hiding St kindOf
end PG
namespace PG
open PySem PySem.Spec L2 MN
open PyProof.Rows hiding St kindOf
end PG
namespace PG
open PySem PySem.Spec L2 MN
open PyProof.Rows hiding St kindOf
end PG
namespace PG
open PySem PySem.Spec L2 MN
open PyProof.Rows hiding St kindOf
end PG
namespace PG
open PySem PySem.Spec L2 MN
open PyProof.Rows hiding St kindOf
section
variable {μ:MN.Env} {s s1 s2:Store} {a b:ME} {f:F2} {x y:Val} {r:Res Val} {t u:MT} {c:Bool} {B:MB}
theorem bin_of (h1:a μ s = .ok x s1) (h2:b μ s1 = .ok y s2):mBin f a b μ s = f x y s2:=by
  show (a μ s).bind _ = _
  rw [h1]
  show (b μ s1).bind _ = _
  rw [h2]
theorem asT_of (h:a μ s = .ok (.bl c) s1):asT a μ s = .ok c s1:=by rw [ev_asT,h]; rfl
theorem or_ff (h1:t μ s = .ok false s1) (h2:u μ s1 = .ok false s2):tOrM t u μ s = .ok false s2:=by rw [ev_tor,h1,bnd_ok,k_tor_f,h2]
theorem not_t (h:t μ s = .ok true s1):tNotM t μ s = .ok false s1:=by rw [ev_tnot,h]; rfl
theorem if_no (h:t μ s = .ok false s1):sIf t B sNext μ s = .nx μ s1:=by rw [ev_ifS,h,sbn_ok,k_if_f]; rfl
theorem and_tt (h1:a μ s = .ok (.bl true) s1) (h2:b μ s1 = r):mAnd a b μ s = r:=by rw [ev_and,h1,bnd_ok,k_and_t,h2]
end
theorem pure_t (t:Trm):pureD 14 (tV t) = true:=by
  show (pureDs 12 (t.1.map Val.int) && (true && true)) = true
  rw [pureDs_ints]; rfl
theorem pure_D (D:List Trm):pureDs 14 (D.map tV) = true:=pureDs_of fun u hu => by
  obtain ⟨t,_,rfl⟩:=List.mem_map.mp hu
  exact pure_t t
theorem old_at {s:Store} {n:Nat} {c:Cell} (h:s[n]? = some c) (more:Store):(s ++ more)[n]? = some c:=by
  have:n < s.length:=by
    rcases Nat.lt_or_ge n s.length with q | q
    · exact q
    · rw [List.getElem?_eq_none q] at h; cases h
  rw [List.getElem?_append_left this]; exact h
end PG
namespace PG
open PySem PySem.Spec L2 MN
open PyProof.Rows hiding St kindOf
theorem add_to_ok {s:Store} {d:Nat} {A:List Trm} {k:List Int} {v:Int} (h:s[d]? = some (.dT (A.map eD))) (hl:A.length < sizeLine) :
    PM.add_to [.loc d,tupI k,.int v] s = .ok .non (s.set d (.dT ((putA A k (getA A k + v)).map eD))):=by
  have hd:isDc s (.loc d) = true:=by
    unfold isDc
    dsimp only
    rw [h]
  have e1:mDGet2 (mVar 0) (mVar 1) (mC (.int 0)) [some (.loc d),some (tupI k),some (.int v)] s = .ok (.int (getA A k)) s:=by
    show (if isDc s (.loc d) = true then (match lookD s (.loc d) (tupI k) with | some o => Res.ok (o.getD (.int 0)) s | none => .bad) else .bad) = _
    rw [if_pos hd,look_ok h k]
    show Res.ok (Option.getD _ (Val.int 0)) s = _
    rw [getD_look]
  have e2:mBin addV (mDGet2 (mVar 0) (mVar 1) (mC (.int 0))) (mVar 2) [some (.loc d),some (tupI k),some (.int v)] s = .ok (.int (getA A k + v)) s:=by
    unfold mBin
    rw [e1]; rfl
  unfold PM.add_to
  rw [ev_fn (np:=3) (us:=[Val.loc d,tupI k,.int v]) rfl]
  show (sDPutM (mVar 0) (mVar 1) (mBin addV (mDGet2 (mVar 0) (mVar 1) (mC (.int 0))) (mVar 2)) [some (.loc d),some (tupI k),some (.int v)] s).fin = _
  unfold sDPutM
  rw [e2]
  show SRes.fin (match storeD s (.loc d) (tupI k) (.int (getA A k + v)) with | some st4 => SRes.nx _ st4 | none => .bad) = _
  rw [store_ok' h hl]
  rfl
noncomputable def setR (r n:Int):Int:=if r = 0 then n else n.fmod r
theorem law_settled_ok (r n:Int) (st:Store):PM.law_settled [.int r,.int n] st = .ok (.int (setR r n)) st:=by
  unfold setR
  by_cases h:r = 0
  · have e:(r == 0) = true:=by rw [h]; rfl
    rw [if_pos h]
    simp only [PM.law_settled,ev2s,evs,Nat.reduceSub,Nat.reduceAdd,Nat.reduceLeDiff,↓reduceIte,e]
  · have e:(r == 0) = false:=by simpa using h
    rw [if_neg h]
    simp only [PM.law_settled,ev2s,evs,Nat.reduceSub,Nat.reduceAdd,Nat.reduceLeDiff,↓reduceIte,e,mod_ii h]
noncomputable def allT (A:List Trm):List Trm:=(srt (A.map (·.1))).map fun k => (k,getA A k)
noncomputable def toldR (r:Int) (A:List Trm):List Trm:=((allT A).map fun t => (t.1,setR r t.2)).filter fun t => t.2 != 0
theorem rest_ok (r n:Int) (st:Store):PM.rest_in_ring [.int r,.int n] st = .ok (.int (setR r n)) st:=by
  unfold setR
  by_cases h:r = 0
  · have e:(r == 0) = true:=by rw [h]; rfl
    rw [if_pos h]
    simp only [PM.rest_in_ring,ev2s,evs,Nat.reduceSub,Nat.reduceAdd,Nat.reduceLeDiff,↓reduceIte,e]
  · have e:(r == 0) = false:=by simpa using h
    rw [if_neg h]
    simp only [PM.rest_in_ring,ev2s,evs,Nat.reduceSub,Nat.reduceAdd,Nat.reduceLeDiff,↓reduceIte,e,mod_ii h]
theorem settled_ok {p:Nat} {L:List Trm} {r:Int} {st:Store} (h:itemsOf st p = some (L.map tV)) (hl:L.length ≤ 100000) :
    ∃ c,PM.settled_terms [.int r,.loc p] st = .ok (.loc (st.length + 1)) (st ++ [c,.lst (((L.map fun t => (t.1,setR r t.2)).filter fun t => t.2 != 0).map tV)]):=by
  obtain ⟨L',hL'⟩:∃ L':List Trm,L' = L.map fun t => (t.1,setR r t.2):=⟨_,rfl⟩
  have cp:=compL_pure (a:=aTup [aName 0,aName 1]) (c:=tTrueM) (e:=mTup (mCons (mVar 0) (mCons (mCall PM.rest_in_ring (mCons (mVar 2) (mCons (mVar 1) mNil))) mNil))) (g:=fun st' => itemsOf st' p = some (L.map tV)) (st:=st) h (fun τ => ∃ x y,τ = [x,y,some (.int r)]) (fun _ => true) (fun v => tV ((tOf v).1,setR r (tOf v).2)) (L.map tV) [none,none,some (.int r)] [] ⟨_,_,rfl⟩ (by
    rintro u hu τ ⟨x,y,rfl⟩
    obtain ⟨t,ht,rfl⟩:=List.mem_map.mp hu
    refine ⟨[some (tupI t.1),some (.int t.2),some (.int r)],rfl,⟨_,_,rfl⟩,rfl,fun _ => ?_⟩
    have e0:mVar 0 [some (tupI t.1),some (.int t.2),some (.int r)] st = .ok (tupI t.1) st:=rfl
    have e1:mCall PM.rest_in_ring (mCons (mVar 2) (mCons (mVar 1) mNil)) [some (tupI t.1),some (.int t.2),some (.int r)] st = .ok (.int (setR r t.2)) st:=by
      show PM.rest_in_ring [.int r,.int t.2] st = _
      exact rest_ok _ _ _
    rw [tOf_t,ev_tup,ev_cons,e0,bnd_ok,k_cons,ev_cons,e1,bnd_ok,k_cons,ev_nil,bnd_ok,k_cons2,bnd_ok,k_cons2,bnd_ok,k_tup]
    exact if_pos (by rw [sizeLine_eq]; show 2 ≤ 16777216; decide))
  have e:(List.filter (fun _ => true) (L.map tV)).map (fun v => tV ((tOf v).1,setR r (tOf v).2)) = L'.map tV:=by
    rw [List.filter_eq_self.mpr fun _ _ => rfl,List.map_map,hL',List.map_map]
    refine List.map_congr_left fun t _ => ?_
    show tV ((tOf (tV t)).1,setR r (tOf (tV t)).2) = _
    rw [tOf_t]; rfl
  rw [e,List.nil_append] at cp
  obtain ⟨s,hs⟩:∃ s,s = st ++ [Cell.lst (L'.map tV)]:=⟨_,rfl⟩
  have ls:s.length = st.length + 1:=by rw [hs,List.length_append]; rfl
  have h2:itemsOf s st.length = some (L'.map tV):=by rw [hs]; exact itemsOf_new st _
  have lL:L'.length = L.length:=by rw [hL',List.length_map]
  have cp2:=compL_pure (a:=aName 0) (c:=asT (mBin neM (mBin ixV (mVar 0) (mC (.int 1))) (mC (.int 0)))) (e:=mVar 0) (g:=fun st' => itemsOf st' st.length = some (L'.map tV)) (st:=s) h2 (fun τ => ∃ x,τ = [x]) (fun v => (tOf v).2 != 0) (fun v => v) (L'.map tV) [none] [] ⟨_,rfl⟩ (by
    rintro u hu τ ⟨x,rfl⟩
    obtain ⟨t,ht,rfl⟩:=List.mem_map.mp hu
    refine ⟨[some (tV t)],rfl,⟨_,rfl⟩,?_,fun _ => rfl⟩
    rw [tOf_t]
    refine asT_of ?_
    rw [bin_of (x:=.int t.2) (s1:=s) rfl (y:=.int 0) (s2:=s) rfl,ne_ii]
    rfl)
  have e2:(List.filter (fun v => (tOf v).2 != 0) (L'.map tV)).map (fun v => v) = (L'.filter fun t => t.2 != 0).map tV:=by
    rw [List.map_id',List.filter_map]
    have:((fun v => (tOf v).2 != 0) ∘ tV) = fun t => t.2 != 0:=by
      funext t
      show ((tOf (tV t)).2 != 0) = _
      rw [tOf_t]
    rw [this]
  rw [e2,List.nil_append] at cp2
  refine ⟨.lst (L'.map tV),?_⟩
  have v1:mVar 1 [some (Val.int r),some (.loc p),none] st = .ok (.loc p) st:=rfl
  have cap:capM 2 [0] [some (Val.int r),some (.loc p),none] = [none,none,some (.int r)]:=rfl
  have comp:mComp 2 [0] (iSeq (mVar 1)) (aTup [aName 0,aName 1]) tTrueM (mTup (mCons (mVar 0) (mCons (mCall PM.rest_in_ring (mCons (mVar 2) (mCons (mVar 1) mNil))) mNil))) [some (.int r),some (.loc p),none] st = .ok (.loc st.length) s:=by
    rw [ev_comp,ev_iseq,v1,bnd_ok,walkK_loc h,bnd_ok,k_comp,if_pos (by rw [List.length_map,sizeLine_eq]; omega),cap,cp,bnd_ok,k_new,hs]
  have v2:mVar 2 [some (Val.int r),some (.loc p),some (.loc st.length)] s = .ok (.loc st.length) s:=rfl
  have cap2:capM 1 [] [some (Val.int r),some (.loc p),some (.loc st.length)] = [none]:=rfl
  have comp2:mComp 1 [] (iSeq (mVar 2)) (aName 0) (asT (mBin neM (mBin ixV (mVar 0) (mC (.int 1))) (mC (.int 0)))) (mVar 0) [some (.int r),some (.loc p),some (.loc st.length)] s = .ok (.loc s.length) (s ++ [.lst ((L'.filter fun t => t.2 != 0).map tV)]):=by
    rw [ev_comp,ev_iseq,v2,bnd_ok,walkK_loc h2,bnd_ok,k_comp,if_pos (by rw [List.length_map,sizeLine_eq]; omega),cap2,cp2,bnd_ok,k_new]
  have first:sSet 2 (mComp 2 [0] (iSeq (mVar 1)) (aTup [aName 0,aName 1]) tTrueM (mTup (mCons (mVar 0) (mCons (mCall PM.rest_in_ring (mCons (mVar 2) (mCons (mVar 1) mNil))) mNil)))) [some (.int r),some (.loc p),none] st = .nx [some (.int r),some (.loc p),some (.loc st.length)] s:=by
    rw [ev_set,comp,sbn_ok]; rfl
  have es:st ++ [Cell.lst (L'.map tV),.lst ((L'.filter fun t => t.2 != 0).map tV)] = s ++ [.lst ((L'.filter fun t => t.2 != 0).map tV)]:=by rw [hs,List.append_assoc]; rfl
  unfold PM.settled_terms
  rw [ev_fn (np:=2) (us:=[Val.int r,.loc p]) rfl,← hL',es,← ls]
  show (sSeq (sSet 2 (mComp 2 [0] (iSeq (mVar 1)) (aTup [aName 0,aName 1]) tTrueM (mTup (mCons (mVar 0) (mCons (mCall PM.rest_in_ring (mCons (mVar 2) (mCons (mVar 1) mNil))) mNil))))) (sRet (mComp 1 [] (iSeq (mVar 2)) (aName 0) (asT (mBin neM (mBin ixV (mVar 0) (mC (.int 1))) (mC (.int 0)))) (mVar 0))) [some (.int r),some (.loc p),none] st).fin = _
  rw [ev_seq,first,thn_nx,ev_ret,comp2,sbn_ok]
  rfl
end PG
namespace PG
open PySem PySem.Spec L2 MN
open PyProof.Rows hiding St kindOf
noncomputable def gthr (P:List Trm):List Trm:=P.foldl (fun A t => putA A t.1 (getA A t.1 + t.2)) []
theorem gthr_snoc (P:List Trm) (t:Trm):gthr (P ++ [t]) = putA (gthr P) t.1 (getA (gthr P) t.1 + t.2):=by
  unfold gthr
  rw [List.foldl_append]; rfl
theorem fold_all (K:List (List Int)):∀ (P A:List Trm),(A.map (·.1)).Nodup → (∀ t ∈ A,t.1 ∈ K) → (∀ t ∈ P,t.1 ∈ K) →
    ((P.foldl (fun A t => putA A t.1 (getA A t.1 + t.2)) A).map (·.1)).Nodup ∧ (P.foldl (fun A t => putA A t.1 (getA A t.1 + t.2)) A).length ≤ A.length + P.length ∧ ∀ t ∈ P.foldl (fun A t => putA A t.1 (getA A t.1 + t.2)) A,t.1 ∈ K
  | [],A,h1,h2,_ => ⟨h1,by simp,h2⟩
  | t :: P,A,h1,h2,h3 => by
    have ih:=fold_all K P (putA A t.1 (getA A t.1 + t.2)) (putA_nodup h1 _ _) (fun q hq => by
      rcases putA_mem hq with hq | rfl
      · exact h2 q hq
      · exact h3 t List.mem_cons_self) (fun q hq => h3 q (List.mem_cons_of_mem _ hq))
    refine ⟨ih.1,Nat.le_trans ih.2.1 ?_,ih.2.2⟩
    have:=putA_len (A:=A) (k:=t.1) (v:=getA A t.1 + t.2)
    rw [List.length_cons]
    omega
theorem gthr_all (P:List Trm):((gthr P).map (·.1)).Nodup ∧ (gthr P).length ≤ P.length ∧ ∀ t ∈ gthr P,t.1 ∈ P.map (·.1):=by
  have:=fold_all (P.map (·.1)) P [] List.nodup_nil (fun t ht => by cases ht) (fun t ht => List.mem_map.mpr ⟨t,ht,rfl⟩)
  refine ⟨this.1,?_,this.2.2⟩
  have:=this.2.1
  simp at this
  exact this
noncomputable abbrev alE:ME:=mTup (mCons (mVar 0) (mCons (mBin dgetV (mVar 1) (mVar 0)) mNil))
theorem totals_ok {s:Store} {d:Nat} {A:List Trm} {r:Int} (h:s[d]? = some (.dT (A.map eD))) (nd:(A.map (·.1)).Nodup) (hl:A.length < 100000) (ne:∀ t ∈ A,t.1 ≠ []) :
    ∃ c1 c2 c3,PM.sum_of_totals [.int r,.loc d] s = .ok (.loc (s.length + 3)) (s ++ [c1,c2,c3,.lst ((toldR r A).map tV)]):=by
  have ekeys:(A.map eD).map (·.1) = (A.map (·.1)).map iK:=by rw [List.map_map,List.map_map]; rfl
  have hsd:=srtD_ok (ks:=A.map (·.1)) h ekeys (by rw [List.length_map,sizeLine_eq]; omega) (fun k hk => by
    obtain ⟨t,ht,rfl⟩:=List.mem_map.mp hk
    exact ne t ht)
  obtain ⟨s2,hs2⟩:∃ s2,s2 = s ++ [Cell.lst ((srt (A.map (·.1))).map tupI)]:=⟨_,rfl⟩
  have hd2:s2[d]? = some (.dT (A.map eD)):=by rw [hs2]; exact old_at h _
  have hit:itemsOf s2 s.length = some ((srt (A.map (·.1))).map tupI):=by rw [hs2]; exact itemsOf_new s _
  have lk:(srt (A.map (·.1))).length = A.length:=by rw [(srt_perm _).length_eq,List.length_map]
  have cp:=compL_pure (a:=aName 0) (c:=tTrueM) (e:=alE) (g:=fun st' => itemsOf st' s.length = some ((srt (A.map (·.1))).map tupI)) (st:=s2) hit (fun τ => ∃ x,τ = [x,some (.loc d)]) (fun _ => true) (fun v => .tup [v,.int (getA A (kOf v))]) ((srt (A.map (·.1))).map tupI) [none,some (.loc d)] [] ⟨_,rfl⟩ (by
    rintro u hu τ ⟨x,rfl⟩
    obtain ⟨k,hk,rfl⟩:=List.mem_map.mp hu
    have hk':=(srt_perm _).mem_iff.mp hk
    have e0:mVar 0 [some (tupI k),some (.loc d)] s2 = .ok (tupI k) s2:=rfl
    have e1:mBin dgetV (mVar 1) (mVar 0) [some (tupI k),some (.loc d)] s2 = .ok (.int (getA A k)) s2:=by
      show dgetV (.loc d) (tupI k) s2 = _
      exact dget_ok hd2 hk'
    refine ⟨[some (tupI k),some (.loc d)],rfl,⟨_,rfl⟩,rfl,fun _ => ?_⟩
    rw [kOf_t]
    unfold alE
    rw [ev_tup,ev_cons,e0,bnd_ok,k_cons,ev_cons,e1,bnd_ok,k_cons,ev_nil,bnd_ok,k_cons2,bnd_ok,k_cons2,bnd_ok,k_tup]
    exact if_pos (by rw [sizeLine_eq]; show 2 ≤ 16777216; decide))
  have e:(List.filter (fun _ => true) ((srt (A.map (·.1))).map tupI)).map (fun v => Val.tup [v,.int (getA A (kOf v))]) = (allT A).map tV:=by
    rw [List.filter_eq_self.mpr fun _ _ => rfl,List.map_map]
    unfold allT
    rw [List.map_map]
    refine List.map_congr_left fun k _ => ?_
    show Val.tup [tupI k,.int (getA A (kOf (tupI k)))] = _
    rw [kOf_t]; rfl
  rw [e,List.nil_append] at cp
  obtain ⟨s3,hs3⟩:∃ s3,s3 = s2 ++ [Cell.lst ((allT A).map tV)]:=⟨_,rfl⟩
  have v1:mVar 1 [some (Val.int r),some (.loc d)] s = .ok (.loc d) s:=rfl
  have cap:capM 1 [1] [some (Val.int r),some (.loc d)] = [none,some (.loc d)]:=rfl
  have comp:mComp 1 [1] (iSeq (mSortD (mVar 1))) (aName 0) tTrueM alE [some (.int r),some (.loc d)] s = .ok (.loc s2.length) s3:=by
    rw [ev_comp,ev_iseq,ev_sortD,v1,bnd_ok,hsd,← hs2,bnd_ok,walkK_loc hit,bnd_ok,k_comp,if_pos (by rw [List.length_map,lk,sizeLine_eq]; omega),cap,cp,bnd_ok,k_new,hs3]
  obtain ⟨c3,se⟩:=settled_ok (r:=r) (L:=allT A) (p:=s2.length) (st:=s3) (by rw [hs3]; exact itemsOf_new s2 _) (by unfold allT; rw [List.length_map,lk]; omega)
  refine ⟨.lst ((srt (A.map (·.1))).map tupI),.lst ((allT A).map tV),c3,?_⟩
  have l3:s3.length = s.length + 2:=by rw [hs3,hs2,List.length_append,List.length_append]; rfl
  have es:s ++ [Cell.lst ((srt (A.map (·.1))).map tupI),.lst ((allT A).map tV),c3,.lst ((toldR r A).map tV)] = s3 ++ [c3,.lst ((toldR r A).map tV)]:=by
    rw [hs3,hs2,List.append_assoc,List.append_assoc]; rfl
  have v0:mVar 0 [some (Val.int r),some (.loc d)] s = .ok (.int r) s:=rfl
  unfold PM.sum_of_totals
  rw [ev_fn (np:=2) (us:=[Val.int r,.loc d]) rfl,es]
  show (sRet (mCall PM.settled_terms (mCons (mVar 0) (mCons (mComp 1 [1] (iSeq (mSortD (mVar 1))) (aName 0) tTrueM alE) mNil))) [some (.int r),some (.loc d)] s).fin = _
  rw [ev_ret,ev_call,ev_cons,v0,bnd_ok,k_cons,ev_cons,comp,bnd_ok,k_cons,ev_nil,bnd_ok,k_cons2,bnd_ok,k_cons2,bnd_ok,se,l3]
  rfl
end PG
namespace PG
open PySem PySem.Spec L2 MN
open PyProof.Rows hiding St kindOf
noncomputable abbrev lgA:MB:=sDPutM (mVar 2) (mBin ixV (mVar 3) (mC (.int 0))) (mBin addV (mDGet2 (mVar 2) (mBin ixV (mVar 3) (mC (.int 0))) (mC (.int 0))) (mBin ixV (mVar 3) (mC (.int 1))))
theorem lgA_step {s:Store} {d:Nat} {A:List Trm} {t:Trm} {x0 x1 x4 x5:Option Val} (h:s[d]? = some (.dT (A.map eD))) (hl:A.length < sizeLine) :
    lgA [x0,x1,some (.loc d),some (tV t),x4,x5] s = .nx [x0,x1,some (.loc d),some (tV t),x4,x5] (s.set d (.dT ((putA A t.1 (getA A t.1 + t.2)).map eD))):=by
  have hd:isDc s (.loc d) = true:=by
    unfold isDc
    dsimp only
    rw [h]
  have e1:mDGet2 (mVar 2) (mBin ixV (mVar 3) (mC (.int 0))) (mC (.int 0)) [x0,x1,some (.loc d),some (tV t),x4,x5] s = .ok (.int (getA A t.1)) s:=by
    show (if isDc s (.loc d) = true then (match lookD s (.loc d) (tupI t.1) with | some o => Res.ok (o.getD (.int 0)) s | none => .bad) else .bad) = _
    rw [if_pos hd,look_ok h t.1]
    show Res.ok (Option.getD _ (Val.int 0)) s = _
    rw [getD_look]
  have i1:mBin ixV (mVar 3) (mC (.int 1)) [x0,x1,some (.loc d),some (tV t),x4,x5] s = .ok (.int t.2) s:=rfl
  have e2:mBin addV (mDGet2 (mVar 2) (mBin ixV (mVar 3) (mC (.int 0))) (mC (.int 0))) (mBin ixV (mVar 3) (mC (.int 1))) [x0,x1,some (.loc d),some (tV t),x4,x5] s = .ok (.int (getA A t.1 + t.2)) s:=by
    rw [bin_of e1 i1]; rfl
  unfold lgA sDPutM
  rw [e2]
  show (match storeD s (.loc d) (tupI t.1) (.int (getA A t.1 + t.2)) with | some st4 => SRes.nx _ st4 | none => .bad) = _
  rw [store_ok' h hl]
noncomputable def tkR (r:Int) (A:List Trm) (ks:List (List Int)):List Trm:=(ks.map fun k => (k,setR r (getA A k))).filter fun t => t.2 != 0
theorem tkR_snoc (r:Int) (A:List Trm) (ks:List (List Int)) (k:List Int):tkR r A (ks ++ [k]) = tkR r A ks ++ (if setR r (getA A k) != 0 then [(k,setR r (getA A k))] else []):=by
  unfold tkR
  rw [List.map_append,List.filter_append]
  congr 1
  show List.filter _ [(k,setR r (getA A k))] = _
  by_cases h:(setR r (getA A k) != 0) = true
  · rw [if_pos h,List.filter_cons_of_pos (p:=fun t:Trm => t.2 != 0) h]; rfl
  · rw [if_neg h,List.filter_cons_of_neg (p:=fun t:Trm => t.2 != 0) h]; rfl
theorem tkR_told (r:Int) (A:List Trm):tkR r A (srt (A.map (·.1))) = toldR r A:=by
  unfold tkR toldR allT
  rw [List.map_map]; rfl
theorem tkR_len (r:Int) (A:List Trm) (ks:List (List Int)):(tkR r A ks).length ≤ ks.length:=by
  unfold tkR
  refine Nat.le_trans (List.length_filter_le _ _) ?_
  rw [List.length_map]; exact Nat.le_refl _
noncomputable abbrev lgS:ME:=mCall PM.law_settled (mCons (mVar 0) (mCons (mBin dgetV (mVar 2) (mVar 5)) mNil))
noncomputable abbrev lgB:MB:=sIf (asT (mBin neM lgS (mC (.int 0)))) (sExpr (mMtL appendF (mVar 4) (mCons (mTup (mCons (mVar 5) (mCons lgS mNil))) mNil))) sNext
theorem lgB_step {s:Store} {d q:Nat} {A:List Trm} {r:Int} {ks:List (List Int)} {k:List Int} {x1 x3:Option Val} (h:s[d]? = some (.dT (A.map eD))) (hq:s[q]? = some (.lst ((tkR r A ks).map tV))) (hl:ks.length ≤ 100000) (hk:k ∈ A.map (·.1)) :
    lgB [some (.int r),x1,some (.loc d),x3,some (.loc q),some (tupI k)] s = .nx [some (.int r),x1,some (.loc d),x3,some (.loc q),some (tupI k)] (s.set q (.lst ((tkR r A (ks ++ [k])).map tV))):=by
  obtain ⟨μ,hμ⟩:∃ μ:MN.Env,μ = [some (.int r),x1,some (.loc d),x3,some (.loc q),some (tupI k)]:=⟨_,rfl⟩
  have v4:mVar 4 μ s = .ok (.loc q) s:=by rw [hμ]; rfl
  have v5:mVar 5 μ s = .ok (tupI k) s:=by rw [hμ]; rfl
  have v0:mVar 0 μ s = .ok (.int r) s:=by rw [hμ]; rfl
  have dg:mBin dgetV (mVar 2) (mVar 5) μ s = .ok (.int (getA A k)) s:=by
    rw [hμ]
    show dgetV (.loc d) (tupI k) s = _
    exact dget_ok h hk
  have sl:lgS μ s = .ok (.int (setR r (getA A k))) s:=by
    unfold lgS
    rw [ev_call,ev_cons,v0,bnd_ok,k_cons,ev_cons,dg,bnd_ok,k_cons,ev_nil,bnd_ok,k_cons2,bnd_ok,k_cons2,bnd_ok]
    exact law_settled_ok _ _ _
  have tst:asT (mBin neM lgS (mC (.int 0))) μ s = .ok (setR r (getA A k) != 0) s:=by
    refine asT_of ?_
    rw [bin_of sl (y:=.int 0) (s2:=s) rfl,ne_ii]; rfl
  rw [← hμ,tkR_snoc]
  show sIf _ _ _ μ s = _
  rw [ev_ifS,tst,sbn_ok]
  cases c:setR r (getA A k) != 0 with
  | true =>
    have ap:=append_ok (v:=tV (k,setR r (getA A k))) hq (by rw [List.length_map,sizeLine_eq]; have:=tkR_len r A ks; omega)
    have arg:mCons (mTup (mCons (mVar 5) (mCons lgS mNil))) mNil μ s = .ok [tV (k,setR r (getA A k))] s:=by
      have tp:mTup (mCons (mVar 5) (mCons lgS mNil)) μ s = .ok (tV (k,setR r (getA A k))) s:=by
        rw [ev_tup,ev_cons,v5,bnd_ok,k_cons,ev_cons,sl,bnd_ok,k_cons,ev_nil,bnd_ok,k_cons2,bnd_ok,k_cons2,bnd_ok,k_tup]
        exact if_pos (by rw [sizeLine_eq]; show 2 ≤ 16777216; decide)
      rw [ev_cons,tp,bnd_ok,k_cons,ev_nil,bnd_ok,k_cons2]
    rw [k_if_t,ev_expr,ev_mtL,v4,bnd_ok,k_mtL hq,arg,bnd_ok,k_mt2,ap,if_pos rfl,List.map_append]
    rfl
  | false =>
    rw [k_if_f,if_neg (by decide),List.append_nil]
    have:s.set q (.lst ((tkR r A ks).map tV)) = s:=by
      apply List.ext_getElem?
      intro j
      rw [List.getElem?_set]
      by_cases e:q = j
      · rw [if_pos e]
        subst e
        split
        · exact hq.symm
        · rw [List.getElem?_eq_none (by omega)]
      · rw [if_neg e]
    rw [this]
    rfl
end PG
namespace PG
open PySem PySem.Spec L2 MN
open PyProof.Rows hiding St kindOf
theorem lgA_loop {p:Nat} {P:List Trm} {st:Store} {x0:Option Val} (h:itemsOf st p = some (P.map tV)) (hl:P.length < 100000) :
    ∃ y3,forL (fun st' => itemsOf st' p = some (P.map tV)) (aName 3) lgA (P.map tV) [x0,some (.loc p),some (.loc st.length),none,none,none] (st ++ [.dT []]) = .nx [x0,some (.loc p),some (.loc st.length),y3,none,none] (st ++ [.dT ((gthr P).map eD)]):=by
  have hg:∀ (A:List Trm),itemsOf (st ++ [.dT (A.map eD)]) p = some (P.map tV):=fun A => itemsOf_old h _
  obtain ⟨μ',st',e,rfl,y3,rfl⟩:=forL_inv (g:=fun st' => itemsOf st' p = some (P.map tV)) (a:=aName 3) (body:=lgA)
    (fun i μ s' => s' = st ++ [.dT ((gthr (P.take i)).map eD)] ∧ ∃ y3,μ = [x0,some (.loc p),some (.loc st.length),y3,none,none])
    (P.map tV) 0 [x0,some (.loc p),some (.loc st.length),none,none,none] (st ++ [.dT []])
    (by
      rintro i u μ s' hu ⟨rfl,y3,rfl⟩
      rw [Nat.zero_add]
      refine ⟨hg _,?_⟩
      rw [List.getElem?_map] at hu
      have hi:i < P.length:=by
        rcases Nat.lt_or_ge i P.length with q | q
        · exact q
        · rw [List.getElem?_eq_none q] at hu; cases hu
      rw [List.getElem?_eq_getElem hi] at hu
      obtain ⟨t,ht⟩:∃ t,t = P[i]:=⟨_,rfl⟩
      rw [← ht] at hu
      cases hu
      have tk:P.take (i + 1) = P.take i ++ [t]:=by
        rw [List.take_succ,List.getElem?_eq_getElem hi,← ht]; rfl
      have lA:=(gthr_all (P.take i)).2.1
      rw [List.length_take] at lA
      have ad:=lgA_step (x0:=x0) (x1:=some (.loc p)) (x4:=none) (x5:=none) (t:=t) (la_dict st ((gthr (P.take i)).map eD)) (by rw [sizeLine_eq]; omega)
      rw [set_dict,← gthr_snoc,← tk] at ad
      exact ⟨_,rfl,_,_,.inl ad,rfl,_,rfl⟩)
    (fun μ s hp => by obtain ⟨rfl,_⟩:=hp; exact hg _)
    ⟨rfl,none,rfl⟩
  rw [Nat.zero_add,List.length_map,List.take_of_length_le (Nat.le_refl _)] at e
  exact ⟨y3,e⟩
theorem lgB_loop {st:Store} {A:List Trm} {r:Int} {x1 x3:Option Val} (hl:A.length < 100000) :
    ∃ y5,forL (fun st' => itemsOf st' (st.length + 2) = some ((srt (A.map (·.1))).map tupI)) (aName 5) lgB ((srt (A.map (·.1))).map tupI) [some (.int r),x1,some (.loc st.length),x3,some (.loc (st.length + 1)),none] (st ++ [.dT (A.map eD),.lst [],.lst ((srt (A.map (·.1))).map tupI)]) =
      .nx [some (.int r),x1,some (.loc st.length),x3,some (.loc (st.length + 1)),y5] (st ++ [.dT (A.map eD),.lst ((toldR r A).map tV),.lst ((srt (A.map (·.1))).map tupI)]):=by
  obtain ⟨ks,hks⟩:∃ ks,ks = srt (A.map (·.1)):=⟨_,rfl⟩
  have lk:ks.length = A.length:=by rw [hks,(srt_perm _).length_eq,List.length_map]
  rw [← tkR_told,← hks]
  have at0:∀ (us:List Val),(st ++ [Cell.dT (A.map eD),.lst us,.lst (ks.map tupI)])[st.length]? = some (.dT (A.map eD)):=fun us => by
    rw [List.getElem?_append_right (Nat.le_refl _),Nat.sub_self]; rfl
  have at1:∀ (us:List Val),(st ++ [Cell.dT (A.map eD),.lst us,.lst (ks.map tupI)])[st.length + 1]? = some (.lst us):=fun us => by
    rw [List.getElem?_append_right (by omega),show st.length + 1 - st.length = 1 by omega]; rfl
  have at2:∀ (us:List Val),(st ++ [Cell.dT (A.map eD),.lst us,.lst (ks.map tupI)])[st.length + 2]? = some (.lst (ks.map tupI)):=fun us => by
    rw [List.getElem?_append_right (by omega),show st.length + 2 - st.length = 2 by omega]; rfl
  have st1:∀ (us ws:List Val),(st ++ [Cell.dT (A.map eD),.lst us,.lst (ks.map tupI)]).set (st.length + 1) (.lst ws) = st ++ [Cell.dT (A.map eD),.lst ws,.lst (ks.map tupI)]:=fun us ws => by
    rw [List.set_append_right _ _ (by omega),show st.length + 1 - st.length = 1 by omega]; rfl
  obtain ⟨μ',st',e,rfl,y5,rfl⟩:=forL_inv (g:=fun st' => itemsOf st' (st.length + 2) = some (ks.map tupI)) (a:=aName 5) (body:=lgB)
    (fun i μ s' => s' = st ++ [.dT (A.map eD),.lst ((tkR r A (ks.take i)).map tV),.lst (ks.map tupI)] ∧ ∃ y5,μ = [some (.int r),x1,some (.loc st.length),x3,some (.loc (st.length + 1)),y5])
    (ks.map tupI) 0 [some (.int r),x1,some (.loc st.length),x3,some (.loc (st.length + 1)),none] (st ++ [.dT (A.map eD),.lst [],.lst (ks.map tupI)])
    (by
      rintro i u μ s' hu ⟨rfl,y5,rfl⟩
      rw [Nat.zero_add]
      refine ⟨it_of (at2 _),?_⟩
      rw [List.getElem?_map] at hu
      have hi:i < ks.length:=by
        rcases Nat.lt_or_ge i ks.length with q | q
        · exact q
        · rw [List.getElem?_eq_none q] at hu; cases hu
      rw [List.getElem?_eq_getElem hi] at hu
      obtain ⟨k,hk⟩:∃ k,k = ks[i]:=⟨_,rfl⟩
      have mk:k ∈ A.map (·.1):=by
        refine (srt_perm _).mem_iff.mp ?_
        rw [← hks,hk]; exact List.getElem_mem hi
      rw [← hk] at hu
      cases hu
      have tk:ks.take (i + 1) = ks.take i ++ [k]:=by
        rw [List.take_succ,List.getElem?_eq_getElem hi,← hk]; rfl
      have es:=lgB_step (x1:=x1) (x3:=x3) (at0 _) (at1 ((tkR r A (ks.take i)).map tV)) (by rw [List.length_take]; omega) mk
      rw [st1,← tk] at es
      exact ⟨_,rfl,_,_,.inl es,rfl,_,rfl⟩)
    (fun μ s hp => by obtain ⟨rfl,_⟩:=hp; exact it_of (at2 _))
    ⟨rfl,none,rfl⟩
  rw [Nat.zero_add,List.length_map,List.take_of_length_le (Nat.le_refl _)] at e
  exact ⟨y5,e⟩
theorem law_gathered_ok {p:Nat} {P:List Trm} {r:Int} {st:Store} (h:itemsOf st p = some (P.map tV)) (hl:P.length < 100000) (ne:∀ t ∈ P,t.1 ≠ []) :
    ∃ c1 c3,PM.law_gathered [.int r,.loc p] st = .ok (.loc (st.length + 1)) (st ++ [c1,.lst ((toldR r (gthr P)).map tV),c3]):=by
  obtain ⟨A,hA⟩:∃ A,A = gthr P:=⟨_,rfl⟩
  have ga:=gthr_all P
  rw [← hA] at ga
  obtain ⟨y3,e1⟩:=lgA_loop (x0:=some (.int r)) h hl
  obtain ⟨y5,e2⟩:=lgB_loop (st:=st) (A:=A) (r:=r) (x1:=some (.loc p)) (x3:=y3) (by omega)
  rw [← hA] at e1 ⊢
  refine ⟨.dT (A.map eD),.lst ((srt (A.map (·.1))).map tupI),?_⟩
  have s1:sSet 2 mDNewT [some (.int r),some (.loc p),none,none,none,none] st = .nx [some (.int r),some (.loc p),some (.loc st.length),none,none,none] (st ++ [.dT []]):=rfl
  have v1:mVar 1 [some (Val.int r),some (.loc p),some (.loc st.length),none,none,none] (st ++ [.dT []]) = .ok (.loc p) (st ++ [.dT []]):=rfl
  have s2:sFor (iSeq (mVar 1)) (aName 3) lgA [some (.int r),some (.loc p),some (.loc st.length),none,none,none] (st ++ [.dT []]) = .nx [some (.int r),some (.loc p),some (.loc st.length),y3,none,none] (st ++ [.dT (A.map eD)]):=by
    rw [ev_for,ev_iseq,v1,bnd_ok,walkK_loc (itemsOf_old h _),sbn_ok,k_for]
    exact e1
  have ld:(st ++ [Cell.dT (A.map eD)]).length = st.length + 1:=by rw [List.length_append]; rfl
  have s3:sSet 4 (mLst mNil) [some (.int r),some (.loc p),some (.loc st.length),y3,none,none] (st ++ [.dT (A.map eD)]) = .nx [some (.int r),some (.loc p),some (.loc st.length),y3,some (.loc (st.length + 1)),none] (st ++ [.dT (A.map eD),.lst []]):=by
    rw [← ld]
    have q:mLst mNil [some (Val.int r),some (.loc p),some (.loc st.length),y3,none,none] (st ++ [.dT (A.map eD)]) = .ok (.loc (st ++ [Cell.dT (A.map eD)]).length) (st ++ [.dT (A.map eD)] ++ [.lst []]):=by simp only [ev2s,evs,Nat.reduceSub,Nat.reduceAdd,Nat.reduceLeDiff,↓reduceIte]
    rw [ev_set,q,sbn_ok,List.append_assoc]
    rfl
  have hd:(st ++ [Cell.dT (A.map eD),.lst []])[st.length]? = some (.dT (A.map eD)):=by
    rw [List.getElem?_append_right (Nat.le_refl _),Nat.sub_self]; rfl
  have ekeys:(A.map eD).map (·.1) = (A.map (·.1)).map iK:=by rw [List.map_map,List.map_map]; rfl
  have hsd:=srtD_ok (ks:=A.map (·.1)) hd ekeys (by rw [List.length_map,sizeLine_eq]; omega) (fun k hk => by
    obtain ⟨t,ht,rfl⟩:=List.mem_map.mp hk
    obtain ⟨q,hq,e⟩:=List.mem_map.mp (ga.2.2 t ht)
    rw [← e]; exact ne q hq)
  have l2:(st ++ [Cell.dT (A.map eD),.lst []]).length = st.length + 2:=by rw [List.length_append]; rfl
  rw [l2,List.append_assoc] at hsd
  have hit:itemsOf (st ++ [Cell.dT (A.map eD),.lst [],.lst ((srt (A.map (·.1))).map tupI)]) (st.length + 2) = some ((srt (A.map (·.1))).map tupI):=by
    refine it_of ?_
    rw [List.getElem?_append_right (by omega),show st.length + 2 - st.length = 2 by omega]; rfl
  have v2:mVar 2 [some (Val.int r),some (.loc p),some (.loc st.length),y3,some (.loc (st.length + 1)),none] (st ++ [.dT (A.map eD),.lst []]) = .ok (.loc st.length) (st ++ [.dT (A.map eD),.lst []]):=rfl
  have s4:sFor (iSeq (mSortD (mVar 2))) (aName 5) lgB [some (.int r),some (.loc p),some (.loc st.length),y3,some (.loc (st.length + 1)),none] (st ++ [.dT (A.map eD),.lst []]) = .nx [some (.int r),some (.loc p),some (.loc st.length),y3,some (.loc (st.length + 1)),y5] (st ++ [.dT (A.map eD),.lst ((toldR r A).map tV),.lst ((srt (A.map (·.1))).map tupI)]):=by
    rw [ev_for,ev_iseq,ev_sortD,v2,bnd_ok,hsd,bnd_ok]
    show (walkK (.loc (st.length + 2)) (st ++ [Cell.dT (A.map eD),.lst [],.lst ((srt (A.map (·.1))).map tupI)])).sbn _ _ = _
    rw [walkK_loc hit,sbn_ok,k_for]
    exact e2
  unfold PM.law_gathered
  rw [ev_fn (np:=2) (us:=[Val.int r,.loc p]) rfl]
  show (sSeq (sSet 2 mDNewT) (sSeq (sFor (iSeq (mVar 1)) (aName 3) lgA) (sSeq (sSet 4 (mLst mNil)) (sSeq (sFor (iSeq (mSortD (mVar 2))) (aName 5) lgB) (sRet (mVar 4))))) [some (.int r),some (.loc p),none,none,none,none] st).fin = _
  rw [ev_seq,s1,thn_nx,ev_seq,s2,thn_nx,ev_seq,s3,thn_nx,ev_seq,s4,thn_nx]
  rfl
end PG
namespace PG
open PySem PySem.Spec L2 MN
open PyProof.Rows hiding St kindOf
theorem within_int (e lo hi:Int) (st:Store):PM.is_whole_within [.int e,.int lo,.int hi] st = .ok (.bl (decide (lo ≤ e) && decide (e ≤ hi))) st:=by
  by_cases h:lo ≤ e
  · have z:decide (lo ≤ e) = true:=decide_eq_true h
    rw [z,Bool.true_and]
    simp only [PM.is_whole_within,ev2s,evs,Nat.reduceSub,Nat.reduceAdd,Nat.reduceLeDiff,↓reduceIte,is_whole_int,z]
  · have z:decide (lo ≤ e) = false:=decide_eq_false h
    rw [z,Bool.false_and]
    simp only [PM.is_whole_within,ev2s,evs,Nat.reduceSub,Nat.reduceAdd,Nat.reduceLeDiff,↓reduceIte,is_whole_int,z]
structure Good (many:Nat) (t:Trm):Prop where
  len:t.1.length = many
  rg:∀ e ∈ t.1,0 ≤ e ∧ e ≤ 99
end PG
namespace PG
open PySem PySem.Spec L2 MN
open PyProof.Rows hiding St kindOf
theorem check_unknowns_ok {many:Nat} (h1:1 ≤ many) (h4:many ≤ 4) (st:Store):PM.check_unknowns [.int (many:Int)] st = .ok .non st:=by
  have q:mCall PM.is_whole_within (mCons (mVar 0) (mCons (mC (.int 1)) (mCons (mC (.int 4)) mNil))) [some (.int (many:Int))] st = .ok (.bl true) st:=by
    show PM.is_whole_within [.int (many:Int),.int 1,.int 4] st = _
    rw [within_int,decide_eq_true (by omega),decide_eq_true (by omega)]; rfl
  unfold PM.check_unknowns
  rw [ev_fn (np:=1) (us:=[Val.int (many:Int)]) rfl]
  show (sIf (tNotM (asT (mCall PM.is_whole_within (mCons (mVar 0) (mCons (mC (.int 1)) (mCons (mC (.int 4)) mNil)))))) _ sNext [some (.int (many:Int))] st).fin = _
  rw [if_no (not_t (asT_of q))]
  rfl
end PG
namespace PG
open PySem PySem.Spec L2 MN
open PyProof.Rows hiding St kindOf
noncomputable abbrev smX:ME:=mBin ixV (mVar 0) (mVar 2)
noncomputable abbrev smC1:MT:=tOrM (tNotM (asT (mIs "tuple" smX))) (tOrM (asT (mBin neM (mCall lenF (mCons smX mNil)) (mC (.int 2)))) (tNotM (asT (mCall PM.law_whole (mCons (mBin ixV smX (mC (.int 1))) mNil)))))
noncomputable abbrev smP:ME:=mComp 1 [] (iSeq (mBin ixV smX (mC (.int 0)))) (aName 0) (tNotM (asT (mCall PM.law_whole (mCons (mVar 0) mNil)))) (mVar 0)
noncomputable abbrev smC2:MT:=tOrM (tNotM (asT (mIs "tuple" (mBin ixV smX (mC (.int 0)))))) (asT (mBin neM smP (mLst mNil)))
noncomputable abbrev smB:MB:=sSeq (sIf smC1 (sRet (mC (.bl false))) sNext) (sIf smC2 (sRet (mC (.bl false))) sNext)
theorem sm_step {s:Store} {μ:MN.Env} {t:Trm} (hX:smX μ s = .ok (tV t) s) (hl:t.1.length ≤ 100000):smB μ s = .nx μ (s ++ [.lst [],.lst []]):=by
  have ca:asT (mIs "tuple" smX) μ s = .ok true s:=asT_of (by rw [ev_is,hX,bnd_ok]; rfl)
  have lenq:mCall lenF (mCons smX mNil) μ s = .ok (.int 2) s:=by
    rw [ev_call,ev_cons,hX,bnd_ok,k_cons,ev_nil,bnd_ok,k_cons2,bnd_ok]; rfl
  have cb:asT (mBin neM (mCall lenF (mCons smX mNil)) (mC (.int 2))) μ s = .ok false s:=asT_of (by rw [bin_of lenq (y:=.int 2) (s2:=s) rfl]; rfl)
  have x1:mBin ixV smX (mC (.int 1)) μ s = .ok (.int t.2) s:=by rw [bin_of hX (y:=.int 1) (s2:=s) rfl]; rfl
  have x0:mBin ixV smX (mC (.int 0)) μ s = .ok (tupI t.1) s:=by rw [bin_of hX (y:=.int 0) (s2:=s) rfl]; rfl
  have cc:asT (mCall PM.law_whole (mCons (mBin ixV smX (mC (.int 1))) mNil)) μ s = .ok true s:=asT_of (by
    rw [ev_call,ev_cons,x1,bnd_ok,k_cons,ev_nil,bnd_ok,k_cons2,bnd_ok]; rfl)
  have cd:asT (mIs "tuple" (mBin ixV smX (mC (.int 0)))) μ s = .ok true s:=asT_of (by rw [ev_is,x0,bnd_ok]; rfl)
  have cp:=compL_pure (a:=aName 0) (c:=tNotM (asT (mCall PM.law_whole (mCons (mVar 0) mNil)))) (e:=mVar 0) (g:=fun _ => True) (st:=s) trivial (fun τ => ∃ x,τ = [x]) (fun _ => false) (fun v => v) (t.1.map Val.int) [none] [] ⟨_,rfl⟩ (by
    rintro u hu τ ⟨x,rfl⟩
    obtain ⟨e,he,rfl⟩:=List.mem_map.mp hu
    exact ⟨[some (.int e)],rfl,⟨_,rfl⟩,rfl,fun z => by cases z⟩)
  rw [List.filter_eq_nil_iff.mpr (fun _ _ z => by cases z),List.map_nil,List.append_nil] at cp
  have cap:capM 1 [] μ = [none]:=rfl
  have pc:smP μ s = .ok (.loc s.length) (s ++ [.lst []]):=by
    unfold smP
    rw [ev_comp,ev_iseq,x0,bnd_ok]
    show ((walkK (.tup (t.1.map Val.int)) s).bnd _) = _
    rw [walkK_tup,bnd_ok,k_comp,if_pos (by rw [List.length_map,sizeLine_eq]; omega),cap,cp,bnd_ok,k_new]
  have pl:mLst mNil μ (s ++ [.lst []]) = .ok (.loc (s ++ [Cell.lst []]).length) (s ++ [.lst []] ++ [.lst []]):=by simp only [ev2s,evs,Nat.reduceSub,Nat.reduceAdd,Nat.reduceLeDiff,↓reduceIte]
  have ce:asT (mBin neM smP (mLst mNil)) μ s = .ok false (s ++ [.lst []] ++ [.lst []]):=asT_of (by
    rw [bin_of pc pl]
    exact ne_nil (itemsOf_old (itemsOf_new s []) _) (itemsOf_new (s ++ [.lst []]) []))
  have es:s ++ [Cell.lst [],.lst []] = s ++ [.lst []] ++ [.lst []]:=by rw [List.append_assoc]; rfl
  unfold smB
  rw [ev_seq,if_no (or_ff (not_t ca) (or_ff cb (not_t cc))),thn_nx,if_no (or_ff (not_t cd) ce),es]
theorem law_same_ok {a b:Nat} {D:List Trm} {st:Store} (ha:st[a]? = some (.lst (D.map tV))) (hb:st[b]? = some (.lst (D.map tV))) (hl:D.length ≤ 100000) (hk:∀ t ∈ D,t.1.length ≤ 100000):∃ g,PM.law_same [.loc a,.loc b] st = .ok (.bl true) (st ++ g):=by
  obtain ⟨n,hn⟩:∃ n:Int,n = ((D.map tV).length:Int):=⟨_,rfl⟩
  have nD:n.toNat = D.length:=by rw [hn,List.length_map]; simp
  have hrg:=rng1_ok (st:=st) (j:=n) (by omega) (by rw [List.length_map] at hn; omega)
  obtain ⟨μ',st',e,g,rfl,y,rfl⟩:=forL_inv (g:=fun _ => True) (a:=aName 2) (body:=smB)
    (fun _ μ s' => ∃ g,s' = st ++ g ∧ ∃ y,μ = [some (.loc a),some (.loc b),y])
    (rangeL 0 n.toNat) 0 [some (.loc a),some (.loc b),none] st
    (by
      rintro i u μ s' hu ⟨g,rfl,y,rfl⟩
      refine ⟨trivial,?_⟩
      have hu':=hu
      unfold rangeL at hu'
      rw [List.getElem?_map] at hu'
      have hi:i < n.toNat:=by
        rcases Nat.lt_or_ge i n.toNat with q | q
        · exact q
        · rw [List.getElem?_eq_none (by rw [List.length_range]; exact q)] at hu'; cases hu'
      rw [List.getElem?_eq_getElem (by rw [List.length_range]; exact hi),List.getElem_range] at hu'
      have ue:u = .int ((i:Nat):Int):=by
        cases hu'
        show Val.int (0 + (i:Int)) = _
        rw [Int.zero_add]
      subst ue
      have hiD:i < D.length:=by omega
      have hat:L2.atI (D.map tV) (i:Int) = some (tV D[i]):=L2.atI_nat (by rw [List.getElem?_map,List.getElem?_eq_getElem hiD]; rfl)
      have hX:smX [some (.loc a),some (.loc b),some (.int (i:Int))] (st ++ g) = .ok (tV D[i]) (st ++ g):=by
        show ixV (.loc a) (.int (i:Int)) (st ++ g) = _
        exact ix_loc (itemsOf_old (it_of ha) _) hat
      exact ⟨[some (.loc a),some (.loc b),some (.int (i:Int))],rfl,_,_,.inl (sm_step hX (hk _ (List.getElem_mem hiD))),g ++ [.lst [],.lst []],by rw [List.append_assoc],_,rfl⟩)
    (fun _ _ _ => trivial) ⟨[],by rw [List.append_nil],none,rfl⟩
  refine ⟨g,?_⟩
  have la:=len_loc (it_of ha)
  have lb:=len_loc (it_of hb)
  rw [← hn] at la lb
  have first:sIf (tOrM (tNotM (asT (mIs "list" (mVar 0)))) (asT (mBin neM (mCall lenF (mCons (mVar 0) mNil)) (mCall lenF (mCons (mVar 1) mNil))))) (sRet (mC (.bl false))) sNext [some (.loc a),some (.loc b),none] st = .nx [some (.loc a),some (.loc b),none] st:=by
    refine if_no (or_ff (s1:=st) (not_t (asT_of ?_)) (asT_of ?_))
    · simp only [ev2s,evs,Nat.reduceSub,Nat.reduceAdd,Nat.reduceLeDiff,↓reduceIte,is_list ha]
    · rw [bin_of (x:=.int n) (s1:=st) la (y:=.int n) (s2:=st) lb,ne_ii,beq_self_eq_true]; rfl
  have a1:iRange1 (mCons (mCall lenF (mCons (mVar 1) mNil)) mNil) [some (.loc a),some (.loc b),none] st = .ok (rangeL 0 n.toNat,fun _ => True) st:=by
    simp only [ev2s,evs,Nat.reduceSub,Nat.reduceAdd,Nat.reduceLeDiff,↓reduceIte,lb,hrg]
  have last:mBin eqM (mVar 0) (mVar 1) [some (.loc a),some (.loc b),y] (st ++ g) = .ok (.bl true) (st ++ g):=by
    show eqM (.loc a) (.loc b) (st ++ g) = _
    exact eq_lists (itemsOf_old (it_of ha) _) (itemsOf_old (it_of hb) _) (pure_D D)
  unfold PM.law_same
  rw [ev_fn (np:=2) (us:=[Val.loc a,.loc b]) rfl]
  show (sSeq (sIf (tOrM (tNotM (asT (mIs "list" (mVar 0)))) (asT (mBin neM (mCall lenF (mCons (mVar 0) mNil)) (mCall lenF (mCons (mVar 1) mNil))))) (sRet (mC (.bl false))) sNext) (sSeq (sFor (iRange1 (mCons (mCall lenF (mCons (mVar 1) mNil)) mNil)) (aName 2) smB) (sRet (mBin eqM (mVar 0) (mVar 1)))) [some (.loc a),some (.loc b),none] st).fin = _
  rw [ev_seq,first,thn_nx,ev_seq,ev_for,a1,sbn_ok,k_for,e,thn_nx,ev_ret,last,sbn_ok]
  rfl
end PG
namespace PG
open PySem PySem.Spec L2 MN
open PyProof.Rows hiding St kindOf
section
variable {μ:MN.Env} {s s1 s2:Store} {m:ME} {o j:Int} {t:MT} {B:MB}
theorem mod_of (h:m μ s = .ok (.int o) s1) (hj:¬ j = 0):mBin modV m (mC (.int j)) μ s = .ok (.int (o.fmod j)) s1:=by
  rw [bin_of h (y:=.int j) (s2:=s1) rfl]; exact mod_ii hj
theorem div_of (h:m μ s = .ok (.int o) s1) (hj:Dz j):mBin fdivV m (mC (.int j)) μ s = .ok (.int (o.fdiv j)) s1:=by
  rw [bin_of h (y:=.int j) (s2:=s1) rfl]; exact div_ii hj
theorem eq_of (h:m μ s = .ok (.int o) s1):mBin eqM m (mC (.int j)) μ s = .ok (.bl (o == j)) s1:=by
  rw [bin_of h (y:=.int j) (s2:=s1) rfl]; exact eq_ii
theorem set_of {i:Nat} {v:Val} (h:m μ s = .ok v s1):sSet i m μ s = .nx (μ.set i (some v)) s1:=by
  rw [ev_set,h,sbn_ok]; rfl
theorem if_yes {C:MB} (h:t μ s = .ok true s1):sIf t B C μ s = B μ s1:=by rw [ev_ifS,h,sbn_ok,k_if_t]
theorem arg1 {v:Val} (h:m μ s = .ok v s1):mCons m mNil μ s = .ok [v] s1:=by rw [ev_cons,h,bnd_ok,k_cons,ev_nil,bnd_ok,k_cons2]
theorem arg2 {m2:ME} {v w:Val} (h:m μ s = .ok v s1) (h2:m2 μ s1 = .ok w s2):mCons m (mCons m2 mNil) μ s = .ok [v,w] s2:=by rw [ev_cons,h,bnd_ok,k_cons,arg1 h2,bnd_ok,k_cons2]
theorem arg_c {m2:MA} {v:Val} {ws:List Val} (h:m μ s = .ok v s1) (h2:m2 μ s1 = .ok ws s2):mCons m m2 μ s = .ok (v :: ws) s2:=by rw [ev_cons,h,bnd_ok,k_cons,h2,bnd_ok,k_cons2]
theorem call_of {f:FN} {a:MA} {vs:List Val} (h:a μ s = .ok vs s1):mCall f a μ s = f vs s1:=by rw [ev_call,h,bnd_ok]
theorem tup_of {a:MA} {vs:List Val} (h:a μ s = .ok vs s1) (hl:vs.length ≤ 1000):mTup a μ s = .ok (.tup vs) s1:=by
  rw [ev_tup,h,bnd_ok,k_tup]
  exact if_pos (by rw [sizeLine_eq]; omega)
theorem lst_of {a:MA} {vs:List Val} (h:a μ s = .ok vs s1) (hl:vs.length ≤ 1000):mLst a μ s = .ok (.loc s1.length) (s1 ++ [.lst vs]):=by
  rw [ev_lst,h,bnd_ok,k_lst]
  exact if_pos (by rw [sizeLine_eq]; omega)
theorem rng_of {a:MA} (h:a μ s = .ok [.int j] s1) (h1:-(2 ^ 62) ≤ j) (h2:j < 2 ^ 62):iRange1 a μ s = .ok (rangeL 0 j.toNat,fun _ => True) s1:=by
  rw [ev_rng1,h,bnd_ok,rng1_ok h1 h2]
end
noncomputable abbrev leC:MB:=sIf (tAndM (asT (mBin eqM (mVar 4) (mC (.int 4)))) (asT (mBin eqM (mBin modV (mBin fdivV (mVar 0) (mC (.int 256))) (mC (.int 8))) (mVar 5)))) (sSet 6 (mBin modV (mBin fdivV (mVar 0) (mC (.int 2048))) (mC (.int 100)))) sNext
noncomputable abbrev leB:MB:=sSeq (sSet 6 (mBin modV (mVar 3) (mVar 4))) (sSeq (sSet 3 (mBin fdivV (mVar 3) (mVar 4))) (sSeq leC (sExpr (mMtL appendF (mVar 2) (mCons (mVar 6) mNil)))))
theorem le_step {c rest W k:Int} {n:Nat} {s:Store} {es:List Int} {x1 y6:Option Val} (hW:W = 4 ∨ W = 100) (h:s[n]? = some (.lst (es.map Val.int))) (hl:es.length ≤ 100000) :
    ∃ e r',leB [some (.int c),x1,some (.loc n),some (.int rest),some (.int W),some (.int k),y6] s = .nx [some (.int c),x1,some (.loc n),some (.int r'),some (.int W),some (.int k),some (.int e)] (s.set n (.lst ((es ++ [e]).map Val.int))) ∧ 0 ≤ e ∧ e ≤ 99:=by
  have W0:¬ W = 0:=by omega
  have dW:Dz W:=dz_c (by omega) (by omega)
  have qW:=fmodc (m:=W) (by omega) rest
  obtain ⟨e1,he1⟩:∃ e1,e1 = rest.fmod W:=⟨_,rfl⟩
  obtain ⟨r',hr'⟩:∃ r',r' = rest.fdiv W:=⟨_,rfl⟩
  have a1:sSet 6 (mBin modV (mVar 3) (mVar 4)) [some (.int c),x1,some (.loc n),some (.int rest),some (.int W),some (.int k),y6] s = .nx [some (.int c),x1,some (.loc n),some (.int rest),some (.int W),some (.int k),some (.int e1)] s:=by
    refine set_of (v:=.int e1) ?_
    rw [he1]; exact mod_ii W0
  have a2:sSet 3 (mBin fdivV (mVar 3) (mVar 4)) [some (.int c),x1,some (.loc n),some (.int rest),some (.int W),some (.int k),some (.int e1)] s = .nx [some (.int c),x1,some (.loc n),some (.int r'),some (.int W),some (.int k),some (.int e1)] s:=by
    refine set_of (v:=.int r') ?_
    rw [hr']; exact div_ii dW
  obtain ⟨e,a3,h0,h1⟩:∃ e,leC [some (.int c),x1,some (.loc n),some (.int r'),some (.int W),some (.int k),some (.int e1)] s = .nx [some (.int c),x1,some (.loc n),some (.int r'),some (.int W),some (.int k),some (.int e)] s ∧ 0 ≤ e ∧ e ≤ 99:=by
    have t1:asT (mBin eqM (mVar 4) (mC (.int 4))) [some (.int c),x1,some (.loc n),some (.int r'),some (.int W),some (.int k),some (.int e1)] s = .ok (W == 4) s:=asT_of (eq_of rfl)
    have dd:mBin fdivV (mVar 0) (mC (.int 256)) [some (.int c),x1,some (.loc n),some (.int r'),some (.int W),some (.int k),some (.int e1)] s = .ok (.int (c.fdiv 256)) s:=div_of rfl (dz_c (by decide) (by decide))
    have t2:asT (mBin eqM (mBin modV (mBin fdivV (mVar 0) (mC (.int 256))) (mC (.int 8))) (mVar 5)) [some (.int c),x1,some (.loc n),some (.int r'),some (.int W),some (.int k),some (.int e1)] s = .ok ((c.fdiv 256).fmod 8 == k) s:=asT_of (by
      rw [bin_of (mod_of dd (by decide)) (y:=.int k) (s2:=s) rfl]; exact eq_ii)
    have tt:tAndM (asT (mBin eqM (mVar 4) (mC (.int 4)))) (asT (mBin eqM (mBin modV (mBin fdivV (mVar 0) (mC (.int 256))) (mC (.int 8))) (mVar 5))) [some (.int c),x1,some (.loc n),some (.int r'),some (.int W),some (.int k),some (.int e1)] s = .ok ((W == 4) && ((c.fdiv 256).fmod 8 == k)) s:=by
      rw [ev_tand,t1,bnd_ok]
      cases (W == 4) with
      | true => rw [k_tand_t,t2,Bool.true_and]
      | false => rw [k_tand_f,Bool.false_and]
    cases hb:((W == 4) && ((c.fdiv 256).fmod 8 == k)) with
    | false => rw [hb] at tt; exact ⟨e1,if_no tt,by omega,by omega⟩
    | true =>
      rw [hb] at tt
      have q:=fmodc (m:=100) (by decide) (c.fdiv 2048)
      refine ⟨(c.fdiv 2048).fmod 100,?_,by omega,by omega⟩
      unfold leC
      rw [if_yes tt]
      exact set_of (mod_of (div_of rfl (dz_c (by decide) (by decide))) (by decide))
  refine ⟨e,r',?_,h0,h1⟩
  have ap:=append_ok (v:=Val.int e) h (by rw [List.length_map,sizeLine_eq]; omega)
  have a4:sExpr (mMtL appendF (mVar 2) (mCons (mVar 6) mNil)) [some (.int c),x1,some (.loc n),some (.int r'),some (.int W),some (.int k),some (.int e)] s = .nx [some (.int c),x1,some (.loc n),some (.int r'),some (.int W),some (.int k),some (.int e)] (s.set n (.lst ((es ++ [e]).map Val.int))):=by
    have v2:mVar 2 [some (.int c),x1,some (.loc n),some (.int r'),some (.int W),some (.int k),some (.int e)] s = .ok (.loc n) s:=rfl
    have ar:mCons (mVar 6) mNil [some (.int c),x1,some (.loc n),some (.int r'),some (.int W),some (.int k),some (.int e)] s = .ok [.int e] s:=rfl
    rw [ev_expr,ev_mtL,v2,bnd_ok,k_mtL h,ar,bnd_ok,k_mt2,ap,List.map_append]; rfl
  unfold leB
  rw [ev_seq,a1,thn_nx,ev_seq,a2,thn_nx,ev_seq,a3,thn_nx,a4]
theorem le_first (c:Int) (many:Nat) (st:Store):∃ r0 W:Int,(W = 4 ∨ W = 100) ∧ sIf (asT (mBin eqM (mBin modV (mVar 0) (mC (.int 3))) (mC (.int 0)))) (sSeq (sSet 3 (mBin fdivV (mVar 0) (mC (.int 3)))) (sSet 4 (mC (.int 100)))) sNext [some (.int c),some (.int (many:Int)),some (.loc st.length),some (.int c),some (.int 4),none,none] (st ++ [.lst []]) = .nx [some (.int c),some (.int (many:Int)),some (.loc st.length),some (.int r0),some (.int W),none,none] (st ++ [.lst []]):=by
  have tt:asT (mBin eqM (mBin modV (mVar 0) (mC (.int 3))) (mC (.int 0))) [some (.int c),some (.int (many:Int)),some (.loc st.length),some (.int c),some (.int 4),none,none] (st ++ [.lst []]) = .ok (c.fmod 3 == 0) (st ++ [.lst []]):=asT_of (eq_of (mod_of rfl (by decide)))
  cases hb:c.fmod 3 == 0 with
  | false => rw [hb] at tt; exact ⟨c,4,.inl rfl,if_no tt⟩
  | true =>
    rw [hb] at tt
    refine ⟨c.fdiv 3,100,.inr rfl,?_⟩
    have a:sSet 3 (mBin fdivV (mVar 0) (mC (.int 3))) [some (.int c),some (.int (many:Int)),some (.loc st.length),some (.int c),some (.int 4),none,none] (st ++ [.lst []]) = .nx [some (.int c),some (.int (many:Int)),some (.loc st.length),some (.int (c.fdiv 3)),some (.int 4),none,none] (st ++ [.lst []]):=set_of (div_of rfl (dz_c (by decide) (by decide)))
    rw [if_yes tt,ev_seq,a,thn_nx]; rfl
theorem law_exponents_ok (c:Int) {many:Nat} (hm:many ≤ 4) (st:Store):∃ g es,PM.law_exponents [.int c,.int (many:Int)] st = .ok (tupI es) (st ++ g) ∧ es.length = many ∧ ∀ e ∈ es,0 ≤ e ∧ e ≤ 99:=by
  obtain ⟨r0,W,hW,s4⟩:=le_first c many st
  obtain ⟨μ',st',e,es,le,hes,rfl,r',y5,y6,rfl⟩:=forL_inv (g:=fun _ => True) (a:=aName 5) (body:=leB)
    (fun i μ s' => ∃ es:List Int,es.length = i ∧ (∀ e ∈ es,0 ≤ e ∧ e ≤ 99) ∧ s' = st ++ [.lst (es.map Val.int)] ∧ ∃ r' y5 y6,μ = [some (.int c),some (.int (many:Int)),some (.loc st.length),some (.int r'),some (.int W),y5,y6])
    (rangeL 0 (many:Int).toNat) 0 [some (.int c),some (.int (many:Int)),some (.loc st.length),some (.int r0),some (.int W),none,none] (st ++ [.lst []])
    (by
      rintro i u μ s' hu ⟨es,le,hes,rfl,r',y5,y6,rfl⟩
      refine ⟨trivial,?_⟩
      have hu':=hu
      unfold rangeL at hu'
      rw [List.getElem?_map] at hu'
      have hi:i < (many:Int).toNat:=by
        rcases Nat.lt_or_ge i (many:Int).toNat with q | q
        · exact q
        · rw [List.getElem?_eq_none (by rw [List.length_range]; exact q)] at hu'; cases hu'
      rw [List.getElem?_eq_getElem (by rw [List.length_range]; exact hi),List.getElem_range] at hu'
      cases hu'
      have hi4:i < 4:=by omega
      obtain ⟨e,r2,eb,h0,h1⟩:=le_step (c:=c) (rest:=r') (k:=0 + (i:Int)) (x1:=some (.int (many:Int))) (y6:=y6) hW (la_new st (es.map Val.int)) (by omega)
      refine ⟨_,rfl,_,_,.inl eb,es ++ [e],by rw [List.length_append,le]; rfl,?_,set_last st _ _,r2,_,_,rfl⟩
      intro x hx
      rcases List.mem_append.mp hx with hx | hx
      · exact hes x hx
      · rw [List.mem_singleton.mp hx]; exact ⟨h0,h1⟩)
    (fun _ _ _ => trivial) ⟨[],rfl,fun _ h => (by cases h),rfl,r0,none,none,rfl⟩
  refine ⟨[.lst (es.map Val.int)],es,?_,by rw [le]; unfold rangeL; rw [List.length_map,List.length_range]; omega,hes⟩
  have a1:sSet 2 (mLst mNil) [some (.int c),some (.int (many:Int)),none,none,none,none,none] st = .nx [some (.int c),some (.int (many:Int)),some (.loc st.length),none,none,none,none] (st ++ [.lst []]):=set_of (lst_of (vs:=[]) rfl (Nat.zero_le _))
  have a2:sSet 3 (mVar 0) [some (.int c),some (.int (many:Int)),some (.loc st.length),none,none,none,none] (st ++ [.lst []]) = .nx [some (.int c),some (.int (many:Int)),some (.loc st.length),some (.int c),none,none,none] (st ++ [.lst []]):=rfl
  have a3:sSet 4 (mC (.int 4)) [some (.int c),some (.int (many:Int)),some (.loc st.length),some (.int c),none,none,none] (st ++ [.lst []]) = .nx [some (.int c),some (.int (many:Int)),some (.loc st.length),some (.int c),some (.int 4),none,none] (st ++ [.lst []]):=rfl
  have a5:iRange1 (mCons (mVar 1) mNil) [some (.int c),some (.int (many:Int)),some (.loc st.length),some (.int r0),some (.int W),none,none] (st ++ [.lst []]) = .ok (rangeL 0 (many:Int).toNat,fun _ => True) (st ++ [.lst []]):=rng_of rfl (by omega) (by omega)
  have v2:mVar 2 [some (.int c),some (.int (many:Int)),some (.loc st.length),some (.int r'),some (.int W),y5,y6] (st ++ [.lst (es.map Val.int)]) = .ok (.loc st.length) (st ++ [.lst (es.map Val.int)]):=rfl
  unfold PM.law_exponents
  rw [ev_fn (np:=2) (us:=[Val.int c,.int (many:Int)]) rfl]
  show (sSeq (sSet 2 (mLst mNil)) (sSeq (sSet 3 (mVar 0)) (sSeq (sSet 4 (mC (.int 4))) (sSeq _ (sSeq (sFor (iRange1 (mCons (mVar 1) mNil)) (aName 5) leB) (sRet (mCall tupF (mCons (mVar 2) mNil))))))) [some (.int c),some (.int (many:Int)),none,none,none,none,none] st).fin = _
  rw [ev_seq,a1,thn_nx,ev_seq,a2,thn_nx,ev_seq,a3,thn_nx,ev_seq,s4,thn_nx,ev_seq,ev_for,a5,sbn_ok,k_for,e,thn_nx,ev_ret,call_of (arg1 v2),tup_loc (itemsOf_new _ _),sbn_ok]
  rfl
end PG
namespace PG
open PySem PySem.Spec L2 MN
open PyProof.Rows hiding St kindOf
theorem app_of {μ:MN.Env} {s:Store} {o:ME} {a:MA} {n:Nat} {us:List Val} {v:Val} (ho:o μ s = .ok (.loc n) s) {s1:Store} (h0:s[n]? = some (.lst us)) (ha:a μ s = .ok [v] s1) (h:s1[n]? = some (.lst us)) (hl:us.length ≤ 1000):sExpr (mMtL appendF o a) μ s = .nx μ (s1.set n (.lst (us ++ [v]))):=by
  rw [ev_expr,ev_mtL,ho,bnd_ok,k_mtL h0,ha,bnd_ok,k_mt2,append_ok h (by rw [sizeLine_eq]; omega),sbn_ok]; rfl
noncomputable abbrev lpP:ME:=mBin addV (mVar 1) (mBin mulV (mC (.int 2)) (mVar 5))
noncomputable abbrev lprB:MB:=sSeq (sSet 6 (mCall PM.law_exponents (mCons (mCall PM.law_cell_at (mCons (mVar 0) (mCons lpP mNil))) (mCons (mVar 2) mNil)))) (sExpr (mMtL appendF (mVar 4) (mCons (mTup (mCons (mVar 6) (mCons (mCall PM.law_number (mCons (mCall PM.law_cell_at (mCons (mVar 0) (mCons (mBin addV lpP (mC (.int 1))) mNil))) mNil)) mNil))) mNil)))
theorem lp_step {n q many:Nat} {ns:List Int} {place size k:Int} {P:List Trm} {s:Store} {y6:Option Val} (h:itemsOf s n = some (ns.map Val.int)) (hq:s[q]? = some (.lst (P.map tV))) (p0:0 ≤ place) (p1:place ≤ 1000) (k0:0 ≤ k) (k1:k ≤ 1000) (hm:many ≤ 4) (hl:P.length ≤ 64) :
    ∃ g t y,lprB [some (.loc n),some (.int place),some (.int (many:Int)),some (.int size),some (.loc q),some (.int k),y6] s = .nx [some (.loc n),some (.int place),some (.int (many:Int)),some (.int size),some (.loc q),some (.int k),y] ((s ++ g).set q (.lst ((P ++ [t]).map tV))) ∧ Good many t ∧ Big 134 t.2:=by
  have pl:∀ (s:Store) (y:Option Val),lpP [some (.loc n),some (.int place),some (.int (many:Int)),some (.int size),some (.loc q),some (.int k),y] s = .ok (.int (place + 2 * k)) s:=fun s y => by
    have a:mBin mulV (mC (.int 2)) (mVar 5) [some (.loc n),some (.int place),some (.int (many:Int)),some (.int size),some (.loc q),some (.int k),y] s = .ok (.int (2 * k)) s:=mul_l (i:=2) (by decide) (by decide)
    unfold lpP
    rw [bin_of (x:=.int place) (s1:=s) rfl a]; rfl
  obtain ⟨o,ho,o0,_⟩:=cell_at (k:=place + 2 * k) h (by omega) (by omega)
  obtain ⟨g,es,ee,le,re⟩:=law_exponents_ok o hm s
  have a1:sSet 6 (mCall PM.law_exponents (mCons (mCall PM.law_cell_at (mCons (mVar 0) (mCons lpP mNil))) (mCons (mVar 2) mNil))) [some (.loc n),some (.int place),some (.int (many:Int)),some (.int size),some (.loc q),some (.int k),y6] s = .nx [some (.loc n),some (.int place),some (.int (many:Int)),some (.int size),some (.loc q),some (.int k),some (tupI es)] (s ++ g):=by
    refine set_of (v:=tupI es) ?_
    rw [call_of (arg2 (v:=.int o) (s1:=s) (w:=.int (many:Int)) (s2:=s) ?_ rfl)]
    · exact ee
    · rw [call_of (arg2 (v:=.loc n) (s1:=s) rfl (pl s y6))]; exact ho
  have h2:=itemsOf_old h g
  obtain ⟨o2,ho2,o20,_⟩:=cell_at (k:=place + 2 * k + 1) h2 (by omega) (by omega)
  obtain ⟨r,hr,br⟩:=number_i o20 (s ++ g)
  have num:mCall PM.law_number (mCons (mCall PM.law_cell_at (mCons (mVar 0) (mCons (mBin addV lpP (mC (.int 1))) mNil))) mNil) [some (.loc n),some (.int place),some (.int (many:Int)),some (.int size),some (.loc q),some (.int k),some (tupI es)] (s ++ g) = .ok (.int r) (s ++ g):=by
    have ad:mBin addV lpP (mC (.int 1)) [some (.loc n),some (.int place),some (.int (many:Int)),some (.int size),some (.loc q),some (.int k),some (tupI es)] (s ++ g) = .ok (.int (place + 2 * k + 1)) (s ++ g):=by
      rw [bin_of (pl (s ++ g) _) (y:=.int 1) (s2:=s ++ g) rfl]; rfl
    rw [call_of (arg1 (v:=.int o2) (s1:=s ++ g) ?_)]
    · exact hr
    · rw [call_of (arg2 (v:=.loc n) (s1:=s ++ g) rfl ad)]; exact ho2
  refine ⟨g,(es,r),some (tupI es),?_,⟨le,re⟩,br⟩
  have ap:=app_of (o:=mVar 4) (a:=mCons (mTup (mCons (mVar 6) (mCons (mCall PM.law_number (mCons (mCall PM.law_cell_at (mCons (mVar 0) (mCons (mBin addV lpP (mC (.int 1))) mNil))) mNil)) mNil))) mNil) (v:=tV (es,r)) (μ:=[some (.loc n),some (.int place),some (.int (many:Int)),some (.int size),some (.loc q),some (.int k),some (tupI es)]) (s:=s ++ g) (n:=q) rfl (old_at hq g) (arg1 (tup_of (arg2 (v:=tupI es) (s1:=s ++ g) rfl num) (by show 2 ≤ 1000; decide))) (old_at hq g) (by rw [List.length_map]; omega)
  unfold lprB
  rw [ev_seq,a1,thn_nx,ap,List.map_append]; rfl
theorem law_pairs_ok {n many size:Nat} {ns:List Int} {place:Int} {st:Store} (h:itemsOf st n = some (ns.map Val.int)) (p0:0 ≤ place) (p1:place ≤ 1000) (hm:many ≤ 4) (hs:size ≤ 60) :
    ∃ (g:Store) (P:List Trm),PM.law_pairs [.loc n,.int place,.int (many:Int),.int (size:Int)] st = .ok (.loc st.length) (st ++ .lst (P.map tV) :: g) ∧ P.length = size ∧ ∀ t ∈ P,Good many t ∧ Big 134 t.2:=by
  obtain ⟨μ',st',e,P,g,lP,hP,rfl,y5,y6,rfl⟩:=forL_inv (g:=fun _ => True) (a:=aName 5) (body:=lprB)
    (fun i μ s' => ∃ (P:List Trm) (g:Store),P.length = i ∧ (∀ t ∈ P,Good many t ∧ Big 134 t.2) ∧ s' = st ++ .lst (P.map tV) :: g ∧ ∃ y5 y6,μ = [some (.loc n),some (.int place),some (.int (many:Int)),some (.int (size:Int)),some (.loc st.length),y5,y6])
    (rangeL 0 (size:Int).toNat) 0 [some (.loc n),some (.int place),some (.int (many:Int)),some (.int (size:Int)),some (.loc st.length),none,none] (st ++ [.lst []])
    (by
      rintro i u μ s' hu ⟨P,g,lP,hP,rfl,y5,y6,rfl⟩
      refine ⟨trivial,?_⟩
      have hu':=hu
      unfold rangeL at hu'
      rw [List.getElem?_map] at hu'
      have hi:i < (size:Int).toNat:=by
        rcases Nat.lt_or_ge i (size:Int).toNat with q | q
        · exact q
        · rw [List.getElem?_eq_none (by rw [List.length_range]; exact q)] at hu'; cases hu'
      rw [List.getElem?_eq_getElem (by rw [List.length_range]; exact hi),List.getElem_range] at hu'
      cases hu'
      have hi4:i < 60:=by omega
      obtain ⟨g2,t,y,eb,gt,bt⟩:=lp_step (size:=(size:Int)) (k:=0 + (i:Int)) (y6:=y6) (itemsOf_old h (.lst (P.map tV) :: g)) (la_mid st _ g) p0 p1 (by omega) (by omega) hm (by omega)
      refine ⟨_,rfl,_,_,.inl eb,P ++ [t],g ++ g2,by rw [List.length_append,lP]; rfl,?_,?_,_,_,rfl⟩
      · intro x hx
        rcases List.mem_append.mp hx with hx | hx
        · exact hP x hx
        · rw [List.mem_singleton.mp hx]; exact ⟨gt,bt⟩
      · rw [List.append_assoc]; exact set_mid st _ _ _)
    (fun _ _ _ => trivial) ⟨[],[],rfl,fun _ h => (by cases h),rfl,none,none,rfl⟩
  refine ⟨g,P,?_,by rw [lP]; unfold rangeL; rw [List.length_map,List.length_range]; omega,hP⟩
  have a1:sSet 4 (mLst mNil) [some (.loc n),some (.int place),some (.int (many:Int)),some (.int (size:Int)),none,none,none] st = .nx [some (.loc n),some (.int place),some (.int (many:Int)),some (.int (size:Int)),some (.loc st.length),none,none] (st ++ [.lst []]):=set_of (lst_of (vs:=[]) rfl (Nat.zero_le _))
  have a5:iRange1 (mCons (mVar 3) mNil) [some (.loc n),some (.int place),some (.int (many:Int)),some (.int (size:Int)),some (.loc st.length),none,none] (st ++ [.lst []]) = .ok (rangeL 0 (size:Int).toNat,fun _ => True) (st ++ [.lst []]):=rng_of rfl (by omega) (by omega)
  unfold PM.law_pairs
  rw [ev_fn (np:=4) (us:=[Val.loc n,.int place,.int (many:Int),.int (size:Int)]) rfl]
  show (sSeq (sSet 4 (mLst mNil)) (sSeq (sFor (iRange1 (mCons (mVar 3) mNil)) (aName 5) lprB) (sRet (mVar 4))) [some (.loc n),some (.int place),some (.int (many:Int)),some (.int (size:Int)),none,none,none] st).fin = _
  rw [ev_seq,a1,thn_nx,ev_seq,ev_for,a5,sbn_ok,k_for,e,thn_nx]
  rfl
end PG
namespace PG
open PySem PySem.Spec L2 MN
open PyProof.Rows hiding St kindOf
end PG
namespace PG
open PySem PySem.Spec L2 MN
open PyProof.Rows hiding St kindOf
noncomputable def ones (many:Nat):List Int:=List.replicate many 1
section
variable {many:Nat} {s:Store}
end
end PG
namespace PG
open PySem PySem.Spec L2 MN
open PyProof.Rows hiding St kindOf
section
variable {μ:MN.Env} {s s1:Store} {a m:ME} {k:Int} {x:Val}
theorem sl_up (h:a μ s = .ok x s) (h1:m μ s = .ok (.int k) s):mSl a oNone (oSome m) μ s = slV none (some k) x s:=by
  rw [ev_sl,h,bnd_ok,k_sl,ev_onone,bnd_ok,k_sl2,ev_osome,h1,bnd_ok,kO_i,bnd_ok,k_sl3]
theorem sl_dn (h:a μ s = .ok x s) (h1:m μ s = .ok (.int k) s):mSl a (oSome m) oNone μ s = slV (some k) none x s:=by
  rw [ev_sl,h,bnd_ok,k_sl,ev_osome,h1,bnd_ok,kO_i,bnd_ok,k_sl2,ev_onone,bnd_ok,k_sl3]
end
end PG
namespace PG
open PySem PySem.Spec L2 MN
open PyProof.Rows hiding St kindOf
end PG
namespace PG
open PySem PySem.Spec L2 MN
open PyProof.Rows hiding St kindOf
end PG
namespace PG
open PySem PySem.Spec L2 MN
open PyProof.Rows hiding St kindOf
theorem cut_take (us:List Val) (k:Nat):cutL us none (some (k:Int)) = us.take k:=by
  unfold cutL
  rw [HT.sIx_none,HT.sIx_nat,List.drop_zero,Nat.sub_zero]
  rcases Nat.le_total k us.length with h | h
  · rw [Nat.min_eq_left h]
  · rw [Nat.min_eq_right h,List.take_of_length_le h,List.take_of_length_le (Nat.le_refl _)]
theorem cut_drop {us:List Val} {k:Nat} (h:k ≤ us.length):cutL us (some (k:Int)) none = us.drop k:=by
  unfold cutL
  rw [HT.sIx_none,HT.sIx_nat,Nat.min_eq_left h,List.take_of_length_le (by rw [List.length_drop]; omega)]
end PG
namespace DL
open PySem
section
variable {prog:Program} {w:World} {A:Around} {E:Value → Shared → Prop} {s:Shared}
theorem no_keys:typeLookup (.type "list") "keys" = pure none:=by
  rw [typeLookup_type,builtinLookup_eq_fast]
  kernel_rfl
theorem list_keys {a:Addr} {o:Obj} {xs:Array Value} {k:Nat} {Q:Option Value → Shared → Prop} (hx:s.heap.get? a = some o) (hc:o.cls = .type "list") (hdat:o.data = .seq xs k) (hd:o.dict = none) (hA:A.handled = none)
    (h:∀ h' tk,(∀ b u,s.heap.get? b = some u → h'.get? b = some u) → Q none { s with heap:=h',toks:=tk }):wpAny (model prog w) A (getAttr? (.ref a) "keys") Q E s:=by
  obtain ⟨c,dct,dat,sl⟩:=o
  simp only at hc hdat hd
  subst hc hdat hd
  obtain ⟨hp,g,d,tk,os⟩:=s
  have hT:∀ tk',(⟨hp,g,d,tk',os⟩:Shared).TypeIs (.ref a) "list":=fun _ => ⟨_,hx,rfl⟩
  have q1:=sub_AttributeError
  have q3:=F.slot_list_getattribute.lookup
  have q4:=F.slot_list_getattribute.bind (.ref a)
  have q5:=am_list_getattr_none
  unfold getAttr? getAttrBy? getAttrBy
  repeat (any_goals (first | assumption | exact hT _ | ((with_reducible show wpAny _ _ (call (Value.builtin "list.__getattribute__") _ _) _ _ _); refine call_meets F.slot_list_getattribute (hT _) am_entry_list_getattribute (F.args_list_getattribute_2 _ _) (meets_getattribute_miss_list a xs k sl "keys" _ no_keys (by decide) (by size_fits)) ⟨hx,hA,fun h' tk' e hx' => ?_⟩) | wp_step))
  obtain ⟨t',u',he⟩:=hx'.there
  show wpAny _ _ (getattributeRaised _ _ _ _ _ _ _) _ _ _
  unfold getattributeRaised
  repeat (any_goals (first | assumption | wp_step))
  exact h _ _ hx'.keeps
noncomputable def PairAt {K:Type} [DecidableEq K] (knd:KeyKind prog w K) (h:Heap) (u:Value) (q:List K × Addr × Value):Prop :=
  ∃ a o its n,u = .ref a ∧ h.get? a = some o ∧ o.cls = .type "tuple" ∧ o.data = .seq its n ∧ its.toList = [.ref q.2.1,q.2.2] ∧ (tupleKind knd).is h q.1 q.2.1
noncomputable def Keeps (h h':Heap):Prop:=∀ b u,h.get? b = some u → h'.get? b = some u
variable {K:Type} [DecidableEq K] {knd:KeyKind prog w K}
theorem key_mono {h h':Heap} {k:List K} {a:Addr} (x:(tupleKind knd).is h k a) (hk:Keeps h h'):(tupleKind knd).is h' k a:=by
  obtain ⟨o,its,n,h1,r⟩:=x
  exact ⟨o,its,n,hk _ _ h1,r⟩
theorem PairAt.mono {h h':Heap} {u:Value} {q:List K × Addr × Value} (x:PairAt knd h u q) (hk:Keeps h h'):PairAt knd h' u q:=by
  obtain ⟨a,o,its,n,e,h1,h2,h3,h4,h5⟩:=x
  exact ⟨a,o,its,n,e,hk _ _ h1,h2,h3,h4,key_mono h5 hk⟩
noncomputable def putAll (qs:List (List K × Addr × Value)):List (List K × Addr × Value) → List (List K × Addr × Value):=fun xs => qs.foldl (fun xs q => storedH xs q.1 q.2.1 q.2.2) xs
theorem dict_mono {h h':Heap} {d it:Addr} {xs:List (List K × Addr × Value)} (x:h.DictOfH (tupleKind knd) d xs) (hk:∀ b u,b ≠ it → h.get? b = some u → h'.get? b = some u) (hd:d ≠ it) (hi:∀ u,h.get? it = some u → u.cls ≠ .type "tuple"):h'.DictOfH (tupleKind knd) d xs:=by
  obtain ⟨o,es,ep,ho,a1,a2,a3,a4,a5⟩:=x
  refine ⟨o,es,ep,hk _ _ hd ho,a1,a2,a3,fun y hy => ?_,a5⟩
  obtain ⟨o,its,n,h1,h2,r⟩:=a4 y hy
  exact ⟨o,its,n,hk _ _ (fun z => hi o (by rw [← z]; exact h1) h2) h1,h2,r⟩
theorem stored_len (xs:List (List K × Addr × Value)) (q:List K × Addr × Value):(storedH xs q.1 q.2.1 q.2.2).length ≤ xs.length + 1:=by
  unfold storedH
  split
  · rw [List.length_map]; omega
  · rw [List.length_append]; exact Nat.le_refl _
theorem entry_loop:entryFor table "dict.update.loop" = some Builtin.«dict.update.loop»:=entryFor_of_tree (by kernel_rfl)
theorem plain_loop:plainId "dict.update.loop" = true:=by decide +kernel
theorem loop_ {B:Heap} {l d it:Addr} {items:Array Value} {R:Result → Shared → Prop} (hh:A.in1.handled = none) (hu:A.in1.units < cLine) (hl:B.IsList l items) (hd:B.get? d = none) (hi:B.get? it = none) (hdi:d ≠ it):∀ (qs:List (List K × Addr × Value)) (j:Nat) (xs:List (List K × Addr × Value)) (s:Shared),j + qs.length = items.size → (∀ i q,qs[i]? = some q → ∃ u,items[j + i]? = some u ∧ PairAt knd B u q) → Keeps B s.heap → s.heap.IsListIter it l j → s.heap.DictOfH (tupleKind knd) d xs → xs.length + qs.length ≤ sizeLine →
    (∀ h' tk,Keeps B h' → h'.DictOfH (tupleKind knd) d (putAll qs xs) → R (.ok (.ret .none)) { s with heap:=h',toks:=tk }) →
    codeAny (model prog w) A (.builtin "dict.update.loop" ⟨[.ref d,.ref it,rawInt (j:Int),.none],[]⟩) R s:=by
  have keep:∀ {h h':Heap} {x:Addr},Keeps B h → B.get? x = none → Heap.SameBut x h h' → Keeps B h':=fun hk hx hs b u e => (hs.2 b (fun z => by rw [z,hx] at e; cases e)).trans (hk b u e)
  intro qs
  induction qs with
  | nil =>
    intro j xs s hj hq hk hit hdo hz hR
    refine codeAny_builtin entry_loop ?_
    rw [Around.under_plainId plain_loop _]
    show wpAny _ A.in1 (pyNext (.ref it) >>= _) _ _ s
    obtain ⟨ol,hol,hlr⟩:=id hl
    refine wpAny_bind (wpAny_pyNext_list_end hh hit ⟨ol,hk _ _ hol,hlr⟩ (Array.getElem?_eq_none (by simp at hj; omega)) fun h' hx => ?_)
    refine wpAny_bind (wpAny_pure (wpAny_pure (hR h' s.toks (fun b u e => hx b u (fun z => by rw [z,hi] at e; cases e) (hk b u e)) ?_)))
    obtain ⟨oi,i1,i2,_⟩:=hit
    exact dict_mono hdo hx hdi fun u e z => by
      rw [i1] at e
      cases e
      rw [i2] at z
      exact absurd (Value.type.inj z) (by decide)
  | cons q qs ih =>
    intro j xs s hj hq hk hit hdo hz hR
    obtain ⟨u,hu0,hp⟩:=hq 0 q rfl
    refine codeAny_builtin entry_loop ?_
    rw [Around.under_plainId plain_loop _]
    show wpAny _ A.in1 (pyNext (.ref it) >>= _) _ _ s
    obtain ⟨ol,hol,hlr⟩:=id hl
    refine wpAny_bind (wpAny_pyNext_list_item hit ⟨ol,hk _ _ hol,hlr⟩ hu0 fun h1 hit1 hs1 => ?_)
    have k1:Keeps B h1:=keep hk hi hs1
    obtain ⟨a,o,its,n,rfl,g1,g2,g3,g4,g5⟩:=hp.mono k1
    have d1:h1.DictOfH (tupleKind knd) d xs:=dict_mono hdo (fun b u hb e => (hs1.2 b hb).trans e) hdi fun u e z => by
      obtain ⟨oi,i1,i2,_⟩:=hit
      rw [i1] at e
      cases e
      rw [i2] at z
      exact absurd (Value.type.inj z) (by decide)
    dsimp only
    refine wpAny_bind (wpAny_holding (wpAny_bind (wpAny_tryCatch ?_)))
    unfold Builtin.Dict.pairItems
    refine wpAny_bind (wpAny_typeOf (T:="tuple") ⟨o,g1,g2⟩ ?_)
    rw [if_pos (by decide)]
    refine wpAny_bind (wpAny_seqItems g1 g3 ?_)
    refine wpAny_pure ?_
    show wpAny _ _ (match its.toList with | [k,v] => _ | l => _) _ _ _
    rw [g4]
    dsimp only
    refine wpAny_holding (wpAny_dictSet_heap (hsz:=by simp at hz; omega) hu g5 d1 fun h2 d2 hs2 => ?_)
    have k2:Keeps B h2:=keep k1 hd hs2
    refine wpAny_pure ⟨plainId_quiet plain_loop _,?_⟩
    have hit2:h2.IsListIter it l (j + 1):=by
      obtain ⟨oi,i1,r⟩:=hit1
      exact ⟨oi,(hs2.2 it (Ne.symm hdi)).trans i1,r⟩
    have:=ih (j + 1) _ { s with heap:=h2,toks:=s.toks + (tupleKind knd).draws q.1 } (by simp at hj; omega) (fun i q' e => by
      have:=hq (i + 1) q' e
      rwa [show j + (i + 1) = j + 1 + i by omega] at this) k2 hit2 d2 (by have:=stored_len xs q; simp at hz; omega) fun h' tk a b => hR h' tk a b
    exact this
theorem call_ {l:Addr} {o:Obj} {items:Array Value} {n:Nat} {qs:List (List K × Addr × Value)} {Q:Value → Shared → Prop} (hh:A.handled = none) (hu:A.units + 2 < cLine) (ho:s.heap.get? l = some o) (hc:o.cls = .type "list") (hdat:o.data = .seq items n) (hdn:o.dict = none)
    (hq:∀ (i:Nat) q,qs[i]? = some q → ∃ u,items[i]? = some u ∧ PairAt knd s.heap u q) (hlen:qs.length = items.size) (hz:qs.length ≤ sizeLine)
    (h:∀ h' tk,Keeps s.heap h' → h'.DictOfH (tupleKind knd) s.heap.objs.size (putAll qs []) → Q (.ref s.heap.objs.size) { s with heap:=h',toks:=tk }):wpAny (model prog w) A (call (.type "dict") [.ref l]) Q E s:=by
  refine callType_codes (Q₁:=fun obj s₁ => obj = .ref s.heap.objs.size ∧ s₁ = { s with heap:=s.heap.push { cls:=.type "dict",data:=.dict #[] } }) F.kt_called_dict (F.kt_typeCall_dict_1 _) F.entry_dict_init (kt_code_dict_new _ ⟨rfl,rfl⟩) ?_
  rintro obj s₁ ⟨rfl,rfl⟩
  obtain ⟨h0,e0⟩:∃ h0,h0 = s.heap.push { cls:=.type "dict",data:=.dict #[] }:=⟨_,rfl⟩
  have new:h0.DictOfH (tupleKind knd) s.heap.objs.size []:=by rw [e0]; exact Heap.DictOfH.new s.heap
  have k0:Keeps s.heap h0:=fun b u e => by rw [e0]; exact Heap.get?_push_of_some _ e
  have T:({ s with heap:=h0 }:Shared).TypeIs (.ref s.heap.objs.size) "dict":=Heap.DictOfH.typeIs (s:={ s with heap:=h0 }) new
  rw [← e0]
  refine ⟨T,F.args_dict_init_2 _ _,?_⟩
  unfold Builtin.«dict.__init__»
  refine wpAny_bind ?_
  unfold Builtin.Dict.selfAndRest
  refine wpAny_bind (wpAny_notOrdered_dict T ?_)
  show wpAny _ _ (pure (s.heap.objs.size,[Value.ref l])) _ _ _
  refine wpAny_pure ?_
  show wpAny _ _ (Builtin.Dict.updateFrom "dict.__init__" s.heap.objs.size (.ref l) [] .none) _ _ _
  unfold Builtin.Dict.updateFrom
  refine wpAny_bind (wpAny_typeOf (T:="list") ⟨o,k0 _ _ ho,hc⟩ ?_)
  rw [if_pos (by decide)]
  refine wpAny_bind (list_keys (s:={ s with heap:=h0 }) (k0 _ _ ho) hc hdat hdn hh fun h1 tk k1 => ?_)
  rw [if_pos (show (none:Option Value).isNone = true from rfl)]
  refine wpAny_bind (wpAny_rule ?_)
  have hl:s.heap.IsList l items:=⟨o,ho,hc,n,hdat⟩
  have k1':Keeps s.heap h1:=fun b u e => k1 b u (k0 b u e)
  refine wpAny_bind (wpAny_pyIter_list (s:={ s with heap:=h1,toks:=tk }) (items:=items) ⟨o,k1' _ _ ho,hc,n,hdat⟩ ?_)
  have fresh:s.heap.get? h1.objs.size = none:=by
    cases z:s.heap.get? h1.objs.size with
    | none => rfl
    | some u => exact absurd (Heap.lt_size (k1' _ _ z)) (Nat.lt_irrefl _)
  have lt:s.heap.objs.size < h1.objs.size:=by
    obtain ⟨q,_,_,hq,_⟩:=new
    exact Heap.lt_size (k1 _ _ hq)
  refine wpAny_pure ⟨plainId_quiet plain_loop _,?_⟩
  obtain ⟨h2,e2⟩:∃ h2,h2 = h1.push { cls:=.type "list_iterator",data:=.fields #[.ref l,.int 0 0] }:=⟨_,rfl⟩
  have k2:∀ b u,h1.get? b = some u → h2.get? b = some u:=fun b u e => by rw [e2]; exact Heap.get?_push_of_some _ e
  have n0:∀ u,h0.get? h1.objs.size = some u → u.cls ≠ .type "tuple":=fun u e => absurd (Heap.lt_size (k1 _ _ e)) (Nat.lt_irrefl _)
  have:=loop_ (knd:=knd) (A:=A.in1) (B:=s.heap) (l:=l) (d:=s.heap.objs.size) (it:=h1.objs.size) (items:=items) (R:=wants (fun r s₂ => r = .none ∧ Q (.ref s.heap.objs.size) s₂) E) hh hu hl (Heap.get?_none_of_le (Nat.le_refl _)) fresh (Nat.ne_of_lt lt)
    qs 0 [] { s with heap:=h2,toks:=tk } (by omega) (fun i q e => by rw [Nat.zero_add]; exact hq i q e) (fun b u e => k2 b u (k1' b u e)) ⟨_,by rw [e2]; exact Heap.get?_push_size _ rfl,rfl,rfl⟩ (dict_mono new (fun b u _ e => k2 b u (k1 b u e)) (Nat.ne_of_lt lt) n0) (by simpa using hz) (fun h' tk' a b => ⟨rfl,h h' tk' a b⟩)
  rw [e2] at this
  exact this
end
end DL
namespace L2
open PySem PySem.Spec PyProof.Rows
noncomputable def PrV (H:Hp) (v:V) (q:List Key × V):Prop:=∃ b c,v = .ref b ∧ H b = some (.tup [.ref c,q.2]) ∧ H c = some (.tup (q.1.map kV))
noncomputable def putL (prs kvs:List (List Key × V)):List (List Key × V):=prs.foldl (fun a q => putK a q.1 q.2) kvs
noncomputable def rDictL (K:PySem.W.Frag):List V → Hp → VK → Prop:=fun xs H Q => ∃ a vs prs,xs = [.ref a] ∧ SqL K H a vs ∧ Paired (PrV H) vs prs ∧ ∀ p,H p = none → Q (.ref p) (upd H p (.dT (putL prs [])))
theorem kt_all {H:Hp} {prs:List (List Key × V)} {qs:List (List Key × Addr × Value)} (h:KT H prs qs):∀ {kvs:List (List Key × V)} {xs:List (List Key × Addr × Value)},KT H kvs xs → KT H (putL prs kvs) (DL.putAll qs xs):=by
  induction h with
  | nil => exact fun r => r
  | @cons p q ps qs a _ ih =>
    intro kvs xs r
    have:=r.put p.1 a.2.1 a.2.2
    rw [a.1] at this
    exact ih (show KT H (putK kvs p.1 p.2) (storedH xs q.1 q.2.1 q.2.2) from by rw [a.1]; exact this)
theorem putL_len:∀ (prs kvs:List (List Key × V)),(putL prs kvs).length ≤ kvs.length + prs.length
  | [],kvs => Nat.le_refl _
  | p :: ps,kvs => by
    have h1:=putL_len ps (putK kvs p.1 p.2)
    have h2:=length_putK kvs p.1 p.2
    show (putL ps (putK kvs p.1 p.2)).length ≤ _
    rw [List.length_cons]
    omega
theorem call_dictL {X:Cx} (hh:X.A.handled = none) (hu:X.A.units + 64 < cLine):CallR X (.type "dict") (rDictL X.K):=by
  intro pins s σ H xs us Q I rx h
  obtain ⟨a,vs,prs,rfl,hs,pr,q⟩:=h
  obtain ⟨u,rfl,r1⟩:=vals1 rx
  cases r1
  obtain ⟨its,rv,⟨o,n,ho,hc,hdn,hdat⟩,hz⟩:=I.list hs
  have key:∀ {vs:List V} {prs:List (List Key × V)} {its:List Value},Paired (PrV H) vs prs → Vals vs its → ∃ qs:List (List Key × Addr × Value),qs.length = its.length ∧ KT H prs qs ∧ ∀ (i:Nat) q,qs[i]? = some q → ∃ u,its[i]? = some u ∧ DL.PairAt (mixKind X.prog X.w) s.heap u q:=by
    intro vs prs its p
    induction p generalizing its with
    | nil =>
      intro v
      cases v
      exact ⟨[],rfl,.nil,fun i q e => by cases e⟩
    | @cons x y xs ys b _ ih =>
      intro v
      cases v with
      | cons v1 v2 =>
        obtain ⟨qs,l,k,al⟩:=ih v2
        obtain ⟨b,c,rfl,hb,hcc⟩:=b
        cases v1
        obtain ⟨_,it2,rv2,o2,g1,g2,n2,g3⟩:=(show ObjOk X.prog X.w H s.heap b (.tup [.ref c,y.2]) from I.hok b _ hb)
        obtain ⟨w1,w2,rfl,z1,z2⟩:=vals2 rv2
        cases z1
        refine ⟨(y.1,c,w2) :: qs,by rw [List.length_cons,List.length_cons,l],.cons ⟨rfl,hcc,z2⟩ k,fun i q e => ?_⟩
        cases i with
        | zero =>
          cases e
          exact ⟨_,rfl,b,o2,_,n2,rfl,g1,g2,g3,rfl,key_of I.hok hcc⟩
        | succ i => exact al i q e
  obtain ⟨qs,ql,kt,al⟩:=key pr rv
  have lv:vs.length = its.length:=rv.length
  have lp:prs.length = qs.length:=Paired.length kt
  refine DL.call_ (knd:=mixKind X.prog X.w) (qs:=qs) hh (by omega) ho hc hdat hdn (fun i q e => ?_) (by rw [ql,List.size_toArray]) (by omega) fun h' tk kp dd => ?_
  · obtain ⟨u,e1,e2⟩:=al i q e
    exact ⟨u,by rw [List.getElem?_toArray]; exact e1,e2⟩
  · have hp:H s.heap.objs.size = none:=I.hok.fresh (Nat.le_refl _)
    obtain ⟨ob,es,ep,b1,b2,b3,b4,_,b5⟩:=dd
    have hl:=putL_len prs []
    refine ⟨.ref s.heap.objs.size,_,I.laid (t':=tk) kp (Nat.le_refl _) (show ObjOk X.prog X.w _ h' _ (.dT (putL prs [])) from ⟨by simp at hl; omega,beq_eq_false_iff_ne.mpr (Ne.symm (Nat.ne_of_lt I.big)),_,(kt_all kt .nil).keeps fun c ys ec => ?_,ob,es,ep,b1,b2,b3,b4,b5⟩),rfl,q _ hp⟩
    rw [upd_ne (fun z => by rw [z,hp] at ec; cases ec)]
    exact ec
end L2
namespace MN
open PySem PySem.Spec L2
open PyProof.Rows hiding St
noncomputable def dprs:List Val → Option (List (List Key × Val))
  | [] => some []
  | .tup [k,v] :: r => match tkeyOf k,dprs r with
    | some q,some l => some ((q,v) :: l)
    | _,_ => none
  | _ => none
noncomputable def putAll (l:List (List Key × Val)) (a:List (List Key × Val)):List (List Key × Val):=l.foldl (fun a q => putW a q.1 q.2) a
noncomputable def dctF:FN
  | [.loc n],st => match itemsOf st n with
    | some us => match dprs us with
      | some l => .ok (.loc st.length) (st ++ [.dT (putAll l [])])
      | none => .bad
    | none => .bad
  | _,_ => .bad
section
variable {K:PySem.W.Frag} {ρ:List Addr} {H:Hp}
theorem dprs_pr:∀ {us:List Val} {vs:List V} {l:List (List Key × Val)},Rls K ρ H us vs → dprs us = some l → ∃ prs,Paired (PrV H) vs prs ∧ Prs K ρ H l prs
  | [],vs,l,r,h => by
    cases h
    rw [r.unnil]
    exact ⟨[],.nil,Prs.nil⟩
  | u :: us,vs,l,r,h => by
    obtain ⟨v,vs',rfl,r1,r2⟩:=r.uncons
    unfold dprs at h
    split at h
    · rename_i e; cases e
    · rename_i k x us' e
      cases e
      split at h
      · rename_i q l' e1 e2
        cases h
        obtain ⟨prs,p1,p2⟩:=dprs_pr r2 e2
        obtain ⟨b,zs,rfl,hb,rb⟩:=r1.tupH
        obtain ⟨z1,z2,rfl,rk,rx⟩:=rb.un2
        obtain ⟨c,rfl,hc⟩:=tkeyOf_V rk e1
        exact ⟨(q,z2) :: prs,.cons ⟨b,c,rfl,hb,hc⟩ p1,Prs.cons rx p2⟩
      · cases h
    · cases h
theorem prs_all:∀ {l:List (List Key × Val)} {prs:List (List Key × V)} {a:List (List Key × Val)} {b:List (List Key × V)},Prs K ρ H l prs → Prs K ρ H a b → Prs K ρ H (putAll l a) (putL prs b)
  | [],prs,a,b,p,r => by rw [p.unnil]; exact r
  | (k,u) :: l,prs,a,b,p,r => by
    obtain ⟨v,l',rfl,r',p'⟩:=p.uncons
    show Prs K ρ H (putAll l (putW a k u)) (putL l' (putK b k v))
    exact prs_all p' (r.put k r')
end
theorem call_dctM {X:Cx} {E:XK} (hh:X.A.handled = none) (hu:X.A.units + 64 < cLine):CallR X (.type "dict") (cM (wo X) E dctF):=by
  refine CallR.imp (call_dictL hh hu) ?_
  rintro xs H Q ⟨ρ,st,us,sr,r,h⟩
  unfold dctF at h
  split at h
  · rename_i n
    obtain ⟨v,rfl,r1⟩:=r.un1
    obtain ⟨a,rfl,ha⟩:=r1.loc_
    split at h
    · rename_i ws e
      split at h
      · rename_i l hl
        obtain ⟨vs,hs,rv⟩:=itemsOf_sq sr e ha
        obtain ⟨prs,p1,p2⟩:=dprs_pr rv hl
        refine ⟨a,vs,prs,rfl,hs,p1,fun p hp => ?_⟩
        have s:=same_upd (o:=.dT (putL prs [])) hp
        obtain ⟨k1,k2,k3⟩:=new_cell sr hp (c:=.dT (putAll l [])) ⟨_,upd_same,(prs_all p2 Prs.nil).mono (Step.snoc p s)⟩
        exact h _ _ _ k1 k2 k3
      · exact h.elim
    · exact h.elim
  · exact h.elim
end MN
namespace DL
open PySem PyProof.Rows
theorem fills_tup:fillsNumberSlot (.type "tuple") "mul" = pure false :=
  PySem.fillsNumberSlot_seq (id:="tuple.__mul__") (r:=some (.builtin "tuple.__rmul__")) PySem.F.slot_tuple_mul.lookup (by decide +kernel) PySem.F.slot_tuple_rmul.lookup (by decide +kernel)
theorem rep_tup:seqRepeat? (.type "tuple") = pure (some (.builtin "tuple.__mul__")):=by
  unfold seqRepeat?
  rw [PySem.seqSlot_of (name:="__mul__") (id:="tuple.__mul__") PySem.F.slot_tuple_mul.lookup (by decide +kernel),PySem.seqSlot_of (name:="__rmul__") (id:="tuple.__rmul__") PySem.F.slot_tuple_rmul.lookup (by decide +kernel)]
  rfl
theorem rmul_tup (k:Int) (t:Tok) (a:Addr) (items:Array Value) (n:Nat) (dd:Option Addr) (sl:Array (Option Value)) :
    Meets (Builtin.«int.__rmul__» ⟨[.int k t,.ref a],[]⟩) (fun _ R s => s.heap.get? a = some { cls:=.type "tuple",dict:=dd,data:=.seq items n,slots:=sl } ∧ R (.ok (.ret Value.notImplemented)) s) :=
  .of_wp fun prog w A R s h => by
    obtain ⟨hp,g,d,tk,os⟩:=s
    obtain ⟨hl,h⟩:=h
    wp_walk
    exact ⟨_,rfl,h⟩
section
variable {prog:Program} {w:World} {A:Around} {E:Value → Shared → Prop} {s:Shared}
theorem idx_ {k:Int} {t:Tok} {Q:Int → Shared → Prop} (q:Q k s):wpAny (model prog w) A (asIndex (.int k t)) Q E s:=by
  unfold asIndex
  refine wpAny_bind (m:=asInt? (.int k t)) (wpAny_pure ?_)
  exact wpAny_pure q
theorem tup_mul {a:Addr} {items:Array Value} {n:Nat} {k:Int} {t:Tok} {o:Obj} {P:PySem.Fin → Shared → Prop} (ho:s.heap.get? a = some o) (hc:o.cls = .type "tuple") (hd:o.data = .seq items n) (h1:1 ≤ k) (h2:k < 2 ^ 63) (hne:items.isEmpty = false)
    (hz:items.size * k.toNat ≤ sizeLine) {new:Array Value} (hnew:(List.replicate k.toNat items).foldl (· ++ ·) #[] = new) (hns:new.size ≤ sizeLine) (q1:k = 1 → P (.done (.ret (.ref a))) s) (h:k ≠ 1 → P (.done (.ret (.ref s.heap.objs.size))) { s with heap:=s.heap.push { cls:=.type "tuple",data:=.seq new 0 } }) :
    wpAny (model prog w) A (Builtin.«tuple.__mul__» ⟨[.ref a,.int k t],[]⟩) P E s:=by
  unfold Builtin.«tuple.__mul__»
  refine wpAny_bind (m:=asIndex (.int k t)) (idx_ ?_)
  dsimp only
  rw [if_neg (by simp only [Bool.or_eq_true,decide_eq_true_eq]; omega)]
  refine wpAny_bind (wpAny_tupleItemsOf ho hd ?_)
  rw [hne]
  have e:((items.size:Int) * k) = ((items.size * k.toNat:Nat):Int):=by
    rw [Int.natCast_mul,Int.toNat_of_nonneg (by omega)]
  by_cases c:k = 1
  · rw [if_pos (by rw [c]; rfl)]
    refine wpAny_bind ?_
    unfold Builtin.Tuple.tupleIsExact
    refine wpAny_bind (wpAny_typeOf (T:="tuple") ⟨o,ho,hc⟩ (wpAny_pure ?_))
    rw [if_pos (by decide)]
    exact wpAny_bind (wpAny_rule (wpAny_pure (q1 c)))
  · rw [if_neg (by simp only [Bool.false_or,beq_iff_eq]; exact c),if_neg (by simp only [Bool.or_false,decide_eq_true_eq]; omega),e]
    rw [if_neg (by rw [sizeLine_eq] at hz; omega),if_neg (by unfold Builtin.Tuple.tupleTooMany; simp only [decide_eq_true_eq]; omega)]
    unfold Builtin.Tuple.tupleExact
    rw [hnew]
    exact wpAny_bind (wpAny_newObj_type (wpAny_pure (h c)) hns)
end
end DL
namespace L2
open PySem PySem.Spec PyProof.Rows
noncomputable def rRepT (K:PySem.W.Frag):R2:=fun x y H Q => ∃ a k xs,x = .ref a ∧ y = .int k ∧ SqT K H a xs ∧ xs ≠ [] ∧ 1 ≤ k ∧ k < 2 ^ 63 ∧ xs.length * k.toNat ≤ sizeLine ∧
  (k = 1 → Q (.ref a) H) ∧ (k ≠ 1 → ∀ p,H p = none → Q (.ref p) (upd H p (.tup (List.replicate k.toNat xs).flatten)))
theorem op_repT {X:Cx}:OpR X (binaryOp .Mult) (rRepT X.K):=by
  intro pins s σ H x y v u Q I rx ry h
  obtain ⟨a,k,xs,rfl,rfl,ha,hx,h1,h2,hz,q1,q2⟩:=h
  cases rx
  obtain ⟨t,rfl⟩:=ry
  obtain ⟨its,r1,p1,_⟩:=I.tuple ha
  obtain ⟨⟨cls,dd,data,sl⟩,ho,hc,n,hd⟩:=id p1
  simp only at hc hd
  subst hc hd
  have hl:=r1.length
  have hnew:List.foldl (fun x1 x2 => x1 ++ x2) #[] (List.replicate k.toNat its.toArray) = (List.replicate k.toNat its).flatten.toArray:=by
    have:=foldl_rep its k.toNat []
    rw [List.nil_append] at this
    exact this
  refine wpAny_binaryOp_repeat_ref (T:="tuple") (U:="int") (by decide) ⟨_,ho,rfl⟩ (fun s' => typeIs_int s' k t) DL.fills_tup F.fills_int_mul F.slot_int_rmul DL.rep_tup F.slot_int_index.lookup
    (call_meets F.slot_int_rmul (typeIs_int s k t) F.entry_int_rmul (F.args_int_rmul_2 _ _) (DL.rmul_tup k t a its.toArray n dd sl) ⟨ho,rfl,⟨_,ho,rfl⟩,?_⟩)
  refine wpAny_call_entry F.slot_tuple_mul ⟨_,ho,rfl⟩ F.entry_tuple_mul ?_ (F.args_tuple_mul_2 _ _)
  refine DL.tup_mul ho rfl rfl h1 h2 ?_ (by rw [List.size_toArray,← hl]; exact hz) hnew (by rw [List.size_toArray,len_rep,← hl,Nat.mul_comm]; exact hz) (fun c => ⟨_,rfl,?_⟩) (fun c => ⟨_,rfl,?_⟩)
  · cases its with
    | nil => exact absurd (r1.nil_iff.mp rfl) hx
    | cons => rfl
  · exact ⟨.ref a,H,I,rfl,q1 c⟩
  · exact ⟨.ref s.heap.objs.size,_,I.laid (t':=s.toks) (o:=.tup (List.replicate k.toNat xs).flatten) (fun b ob q => Heap.get?_push_of_some _ q) (Nat.le_refl _) ⟨by rw [len_rep,Nat.mul_comm]; exact hz,_,r1.rep k.toNat,IsTup.new _ _⟩,rfl,q2 c _ (I.hok.fresh (Nat.le_refl _))⟩
end L2
namespace MN
open PySem PySem.Spec L2
open PyProof.Rows hiding St
noncomputable def mulX:F2
  | .tup us,.int k,st => if us ≠ [] ∧ 1 ≤ k ∧ k < 2 ^ 63 ∧ us.length * k.toNat ≤ sizeLine then .ok (.tup (repsV k.toNat us)) st else .bad
  | _,_,_ => .bad
theorem reps_one (us:List Val):repsV 1 us = us:=by
  unfold repsV
  rw [List.replicate_one,List.flatten_singleton]
theorem op_mulX {X:Cx} {E:XK}:OpR X (binaryOp .Mult) (rM (wo X) E mulX):=by
  refine OpR.imp op_repT ?_
  rintro x y H Q ⟨ρ,st,u,w,sr,r1,r2,h⟩
  cases u <;> cases w <;> try exact h.elim
  case tup.int us k =>
    unfold mulX at h
    dsimp only at h
    split at h
    · rename_i hz
      obtain ⟨a,vs,rfl,ha,ra⟩:=r1.tup_
      refine ⟨a,k,vs,rfl,r2.int_,ha,fun z => ?_,hz.2.1,hz.2.2.1,by rw [← ra.length]; exact hz.2.2.2,fun c => ?_,fun c p hp => ?_⟩
      · subst z
        exact hz.1 (List.eq_nil_of_length_eq_zero ra.length)
      · subst c
        rw [show Int.toNat 1 = 1 from rfl,reps_one] at h
        exact h ρ H _ (Step.refl _ _) sr r1
      · have s:=same_upd (o:=.tup (List.replicate k.toNat vs).flatten) hp
        exact h ρ _ _ (Step.same s) (sr.grow s) (Rl.mkTup upd_same (Rls.mono (Step.same s) _ _ (ra.reps k.toNat)))
    · exact h.elim
end MN
namespace MN
open PySem PySem.Spec L2
open PyProof.Rows hiding St
noncomputable def sPar (i j:Nat) (ms:MA):MB:=fun μ st => (ms μ st).sb μ fun vs st' => match vs with
  | [v,w] => .nx ((μ.set i (some v)).set j (some w)) st'
  | _ => .bad
theorem ms_par {X:Cx} {E:XK} (i j:Nat) {x y:Str} {a b:Expr} {ms:MA} {px py pt pos:Pos} {kt k2 pt2} (hN:X.N.Nodup) (ha:PA X [a,b] (tL X E ms)) (hc:X.calm = true:=by rfl) (hi:X.N[i]? = some x:=by rfl) (hj:X.N[j]? = some y:=by rfl) (hij:i ≠ j:=by decide)
    (hx:X.env.scope.names.lookup x = some .local:=by rfl) (hy:X.env.scope.names.lookup y = some .local:=by rfl)
    (hw:swappedStores [.Tuple [.Name x px,.Name y py] kt pt] (.Tuple [a,b] k2 pt2) X.env = pure (some [x,y]):=by rfl)
    (hs:swapsWithSole [.Tuple [.Name x px,.Name y py] kt pt] (.Tuple [a,b] k2 pt2) pos.line X.env = pure false:=by rfl) :
    PS X (.Assign [.Tuple [.Name x px,.Name y py] kt pt] (.Tuple [a,b] k2 pt2) pos) (tS X E (sPar i j ms)):=by
  refine PS.imp (ps_par hc hN hi hj hij hx hy ha hw hs) ?_
  rintro D σ H ⟨μ,ρ,st,rs,sr,h⟩
  refine goS (R1:=Rls X.K) μ ρ st rs sr h fun us st1 ρ1 H1 xs e1 sr1 r1 h1 => ?_
  match us,r1,h1 with
  | [v,w],r1,h1 =>
    obtain ⟨x1,x2,rfl,q1,q2⟩:=r1.un2
    exact ⟨x1,x2,rfl,h1 ρ1 H1 _ (Step.refl _ _) sr1 (((rs.mono e1).set i q1).set j q2)⟩
  | [],_,h1 => exact h1.elim
  | [_],_,h1 => exact h1.elim
  | _ :: _ :: _ :: _,_,h1 => exact h1.elim
end MN
namespace PM
open PySem PySem.Spec L2 MN
open PyProof.Rows hiding St
noncomputable def law_same_v2:FN:=fnM 2 3 (sSeq (sIf (tOrM (tNotM (asT (mIs "list" (mVar 0)))) (asT (mBin neM (mCall lenF (mCons (mVar 0) mNil)) (mCall lenF (mCons (mVar 1) mNil))))) (sRet (mC (.bl false))) sNext) (sSeq (sFor (iRange1 (mCons (mCall lenF (mCons (mVar 1) mNil)) mNil)) (aName 2) (sSeq (sIf (tOrM (tNotM (asT (mIs "tuple" (mBin ixV (mVar 0) (mVar 2))))) (tOrM (asT (mBin neM (mCall lenF (mCons (mBin ixV (mVar 0) (mVar 2)) mNil)) (mC (.int 2)))) (tNotM (asT (mCall PM.law_whole (mCons (mBin ixV (mBin ixV (mVar 0) (mVar 2)) (mC (.int 1))) mNil)))))) (sRet (mC (.bl false))) sNext) (sIf (tOrM (tNotM (asT (mIs "tuple" (mBin ixV (mBin ixV (mVar 0) (mVar 2)) (mC (.int 0)))))) (asT (mBin neM (mComp 1 [] (iSeq (mBin ixV (mBin ixV (mVar 0) (mVar 2)) (mC (.int 0)))) (aName 0) (tNotM (asT (mCall PM.law_whole (mCons (mVar 0) mNil)))) (mVar 0)) (mLst mNil)))) (sRet (mC (.bl false))) sNext))) (sRet (mBin eqM (mVar 0) (mVar 1)))))
noncomputable def law_due_v2:FN:=fnM 5 6 (sSeq (sSet 5 (mLst (mCons (mCall PM.law_gathered (mCons (mVar 0) (mCons (mBin addV (mVar 1) (mVar 2)) mNil))) (mCons (mCall PM.law_gathered (mCons (mVar 0) (mCons (mBin addV (mVar 1) (mComp 1 [] (iSeq (mVar 2)) (aName 0) tTrueM (mTup (mCons (mBin ixV (mVar 0) (mC (.int 0))) (mCons (mNeg (mBin ixV (mVar 0) (mC (.int 1)))) mNil))))) mNil))) mNil)))) (sSeq (sExpr (mMtL appendF (mVar 5) (mCons (mCall PM.law_gathered (mCons (mVar 0) (mCons (mComp 1 [3] (iSeq (mVar 1)) (aName 0) tTrueM (mTup (mCons (mBin ixV (mVar 0) (mC (.int 0))) (mCons (mBin mulV (mVar 1) (mBin ixV (mVar 0) (mC (.int 1)))) mNil)))) mNil))) mNil))) (sSeq (sExpr (mMtL appendF (mVar 5) (mCons (mCall PM.law_gathered (mCons (mVar 0) (mCons (mLst (mCons (mTup (mCons (mCall tupF (mCons (mBin mulV (mLst (mCons (mC (.int 0)) mNil)) (mVar 4)) mNil)) (mCons (mVar 3) mNil))) mNil)) mNil))) mNil))) (sRet (mVar 5)))))
noncomputable def constant:FN:=fnM 3 3 (sSeq (sExpr (mCall PM.check_ring (mCons (mVar 0) mNil))) (sSeq (sExpr (mCall PM.check_unknowns (mCons (mVar 1) mNil))) (sRet (mCall PM.settled_terms (mCons (mVar 0) (mCons (mLst (mCons (mTup (mCons (mBin mulX (mTup (mCons (mC (.int 0)) mNil)) (mVar 1)) (mCons (mVar 2) mNil))) mNil)) mNil))))))
noncomputable def with_multiple:FN:=fnM 4 7 (sSeq (sSet 4 (mCall dctF (mCons (mVar 1) mNil))) (sSeq (sFor (iSeq (mVar 2)) (aTup [(aName 5),(aName 6)]) (sExpr (mCall PM.add_to (mCons (mVar 4) (mCons (mVar 5) (mCons (mBin mulV (mVar 3) (mVar 6)) mNil)))))) (sRet (mCall PM.sum_of_totals (mCons (mVar 0) (mCons (mVar 4) mNil))))))
noncomputable def scaled:FN:=fnM 3 3 (sSeq (sExpr (mCall PM.check_ring (mCons (mVar 0) mNil))) (sRet (mCall PM.settled_terms (mCons (mVar 0) (mCons (mComp 2 [2] (iSeq (mVar 1)) (aTup [(aName 0),(aName 1)]) tTrueM (mTup (mCons (mVar 0) (mCons (mBin mulV (mVar 1) (mVar 2)) mNil)))) mNil)))))
noncomputable def plus:FN:=fnM 3 3 (sSeq (sExpr (mCall PM.check_ring (mCons (mVar 0) mNil))) (sRet (mCall PM.with_multiple (mCons (mVar 0) (mCons (mVar 1) (mCons (mVar 2) (mCons (mC (.int 1)) mNil)))))))
noncomputable def minus:FN:=fnM 3 3 (sSeq (sExpr (mCall PM.check_ring (mCons (mVar 0) mNil))) (sRet (mCall PM.with_multiple (mCons (mVar 0) (mCons (mVar 1) (mCons (mVar 2) (mCons (mNeg (mC (.int 1))) mNil)))))))
noncomputable def law_told_v2:FN:=fnM 5 6 (sSeq (sSet 5 (mLst (mCons (mCall PM.plus (mCons (mVar 0) (mCons (mVar 1) (mCons (mVar 2) mNil)))) (mCons (mCall PM.minus (mCons (mVar 0) (mCons (mVar 1) (mCons (mVar 2) mNil)))) (mCons (mCall PM.scaled (mCons (mVar 0) (mCons (mVar 1) (mCons (mVar 3) mNil)))) mNil))))) (sRet (mBin addV (mVar 5) (mLst (mCons (mCall PM.constant (mCons (mVar 0) (mCons (mVar 4) (mCons (mVar 3) mNil)))) mNil)))))
noncomputable def law_v9_t13:MB:=(sRet (mAnd (mCall PM.law_same_v2 (mCons (mBin ixV (mVar 10) (mC (.int 0))) (mCons (mVar 5) mNil))) (mCall PM.law_same_v2 (mCons (mBin ixV (mVar 10) (mC (.int 1))) (mCons (mVar 6) mNil)))))
noncomputable def law_v9_t12:MB:=(sSeq (sFor (iRange1 (mCons (mC (.int 2)) mNil)) (aName 12) (sSeq (sSet 13 (mCall PM.law_told_v2 (mCons (mVar 1) (mCons (mBin ixV (mVar 10) (mC (.int 0))) (mCons (mBin ixV (mVar 10) (mC (.int 1))) (mCons (mVar 9) (mCons (mVar 4) mNil))))))) (sFor (iRange1 (mCons (mC (.int 4)) mNil)) (aName 14) (sSeq (sIf (tNotM (asT (mCall PM.law_same_v2 (mCons (mBin ixV (mVar 13) (mVar 14)) (mCons (mBin ixV (mVar 11) (mVar 14)) mNil))))) (sRet (mC (.bl false))) sNext) (sExpr (mMtL appendF (mBin ixV (mVar 13) (mVar 14)) (mCons (mC (.int 7)) mNil))))))) PM.law_v9_t13)
noncomputable def law_v9_t11:MB:=(sSeq (sSet 11 (mCall PM.law_due_v2 (mCons (mVar 1) (mCons (mVar 5) (mCons (mVar 6) (mCons (mVar 9) (mCons (mVar 4) mNil))))))) PM.law_v9_t12)
noncomputable def law_v9_t10:MB:=(sSeq (sSet 10 (mLst (mCons (mCall lstF (mCons (mVar 5) mNil)) (mCons (mCall lstF (mCons (mVar 6) mNil)) mNil)))) PM.law_v9_t11)
noncomputable def law_v9_t9:MB:=(sSeq (sIf (asT (mBin eqM (mBin modV (mBin fdivV (mCall PM.law_cell_at (mCons (mVar 0) (mCons (mC (.int 4)) mNil))) (mC (.int 7))) (mC (.int 2))) (mC (.int 1)))) (sPar 5 6 (mCons (mVar 6) (mCons (mVar 5) mNil))) sNext) PM.law_v9_t10)
noncomputable def law_v9_t8:MB:=(sSeq (sSet 9 (mCall PM.law_number (mCons (mCall PM.law_cell_at (mCons (mVar 0) (mCons (mC (.int 4)) mNil))) mNil))) PM.law_v9_t9)
noncomputable def law_v9_t7:MB:=(sSeq (sIf (asT (mBin eqM (mBin modV (mBin fdivV (mVar 3) (mC (.int 8))) (mC (.int 3))) (mC (.int 2)))) (sSet 6 (mCall PM.law_gathered (mCons (mVar 1) (mCons (mBin addV (mSl (mVar 6) oNone (oSome (mC (.int 2)))) (mComp 1 [] (iSeq (mSl (mVar 5) (oSome (mBin modV (mBin fdivV (mVar 3) (mC (.int 24))) (mC (.int 4)))) oNone)) (aName 0) tTrueM (mTup (mCons (mBin ixV (mVar 0) (mC (.int 0))) (mCons (mNeg (mBin ixV (mVar 0) (mC (.int 1)))) mNil))))) mNil)))) sNext) PM.law_v9_t8)
noncomputable def law_v9_t6:MB:=(sSeq (sIf (asT (mBin eqM (mBin modV (mBin fdivV (mVar 3) (mC (.int 8))) (mC (.int 8))) (mC (.int 1)))) (sSeq (sSet 7 (mCall PM.law_cell_at (mCons (mVar 0) (mCons (mC (.int 3)) mNil)))) (sSeq (sSet 8 (mComp 1 [4,7] (iRange1 (mCons (mBin modV (mBin fdivV (mVar 3) (mC (.int 64))) (mC (.int 61))) mNil)) (aName 0) tTrueM (mTup (mCons (mCall PM.law_exponents (mCons (mBin addV (mBin fdivV (mVar 2) (mC (.int 7))) (mBin mulV (mC (.int 37)) (mVar 0))) (mCons (mVar 1) mNil))) (mCons (mCall PM.law_number (mCons (mBin addV (mVar 2) (mBin mulV (mC (.int 5)) (mVar 0))) mNil)) mNil))))) (sSet 5 (mCall PM.law_gathered (mCons (mVar 1) (mCons (mVar 8) mNil)))))) sNext) PM.law_v9_t7)
noncomputable def law_v9_t5:MB:=(sSeq (sSet 6 (mCall PM.law_gathered (mCons (mVar 1) (mCons (mCall PM.law_pairs (mCons (mVar 0) (mCons (mC (.int 21)) (mCons (mVar 4) (mCons (mBin modV (mVar 3) (mC (.int 8))) mNil))))) mNil)))) PM.law_v9_t6)
noncomputable def law_v9_t4:MB:=(sSeq (sSet 5 (mCall PM.law_gathered (mCons (mVar 1) (mCons (mCall PM.law_pairs (mCons (mVar 0) (mCons (mC (.int 5)) (mCons (mVar 4) (mCons (mBin modV (mBin fdivV (mVar 2) (mC (.int 4))) (mC (.int 8))) mNil))))) mNil)))) PM.law_v9_t5)
noncomputable def law_v9_t3:MB:=(sSeq (sSet 4 (mBin addV (mC (.int 1)) (mBin modV (mVar 2) (mC (.int 4))))) PM.law_v9_t4)
noncomputable def law_v9_t2:MB:=(sSeq (sSet 3 (mCall PM.law_cell_at (mCons (mVar 0) (mCons (mC (.int 2)) mNil)))) PM.law_v9_t3)
noncomputable def law_v9_t1:MB:=(sSeq (sSet 2 (mCall PM.law_cell_at (mCons (mVar 0) (mCons (mC (.int 1)) mNil)))) PM.law_v9_t2)
noncomputable def law_v9:FN:=fnM 1 15 (sSeq (sSet 1 (mCall PM.law_ring (mCons (mCall PM.law_cell_at (mCons (mVar 0) (mCons (mC (.int 0)) mNil))) mNil))) PM.law_v9_t1)
end PM
namespace PG
open PySem PySem.Spec L2 MN
open PyProof.Rows hiding St kindOf
noncomputable def gF (A:List Trm) (t:Trm):List Trm:=putA A t.1 (getA A t.1 + t.2)
theorem gthr_eq (P:List Trm):gthr P = P.foldl gF []:=rfl
theorem gthr_app (A B:List Trm):gthr (A ++ B) = B.foldl gF (gthr A):=by
  rw [gthr_eq,gthr_eq,List.foldl_append]
theorem getA_none {A:List Trm} {k:List Int} (h:k ∉ A.map (·.1)):getA A k = 0:=by
  unfold getA
  have:(A.find? fun p => decide (p.1 = k)) = none:=by
    rw [List.find?_eq_none]
    intro p hp z
    exact h (List.mem_map.mpr ⟨p,hp,of_decide_eq_true z⟩)
  rw [this]; rfl
theorem putA_new {A:List Trm} {k:List Int} (v:Int) (h:k ∉ A.map (·.1)):putA A k v = A ++ [(k,v)]:=by
  unfold putA
  rw [if_neg fun z => h (any_mem.mp z)]
theorem nd_mid {A P:List Trm} {t:Trm} (h:((A ++ t :: P).map (·.1)).Nodup):t.1 ∉ A.map (·.1) ∧ ((A ++ [t] ++ P).map (·.1)).Nodup:=by
  refine ⟨?_,by rw [List.append_assoc]; exact h⟩
  rw [List.map_append,List.map_cons,List.nodup_append] at h
  exact fun m => h.2.2 _ m _ List.mem_cons_self rfl
theorem fold_self:∀ (P A:List Trm),((A ++ P).map (·.1)).Nodup → P.foldl gF A = A ++ P
  | [],A,_ => by rw [List.append_nil]; rfl
  | t :: P,A,h => by
    have n:=nd_mid h
    show P.foldl gF (gF A t) = _
    unfold gF
    rw [getA_none n.1,putA_new _ n.1,Int.zero_add]
    have:=fold_self P (A ++ [t]) n.2
    rw [List.append_assoc] at this
    exact this
theorem gthr_self {D:List Trm} (h:(D.map (·.1)).Nodup):gthr D = D:=fold_self D [] h
theorem put_self:∀ (P A:List Trm),((A ++ P).map (·.1)).Nodup → MN.putAll (P.map eD) (A.map eD) = (A ++ P).map eD
  | [],A,_ => by rw [List.append_nil]; rfl
  | t :: P,A,h => by
    have n:=nd_mid h
    show MN.putAll (P.map eD) (putW (A.map eD) (iK t.1) (.int t.2)) = _
    rw [putW_eD,putA_new _ n.1]
    have:=put_self P (A ++ [t]) n.2
    rw [List.append_assoc] at this
    exact this
theorem dprs_t:∀ D:List Trm,dprs (D.map tV) = some (D.map eD)
  | [] => rfl
  | t :: D => by
    show (match tkeyOf (tupI t.1),dprs (D.map tV) with
      | some q,some l => some ((q,Val.int t.2) :: l)
      | _,_ => none) = _
    rw [tkey_tupI,dprs_t D]; rfl
theorem dct_ok {p:Nat} {D:List Trm} {st:Store} (h:itemsOf st p = some (D.map tV)) (nd:(D.map (·.1)).Nodup):dctF [.loc p] st = .ok (.loc st.length) (st ++ [.dT (D.map eD)]):=by
  unfold dctF
  dsimp only
  rw [h]
  dsimp only
  rw [dprs_t]
  dsimp only
  have:=put_self D [] nd
  rw [List.map_nil,List.nil_append] at this
  rw [this]
noncomputable def stl (r:Int) (L:List Trm):List Trm:=(L.map fun t => (t.1,setR r t.2)).filter fun t => t.2 != 0
theorem getA_at {D:List Trm} (nd:(D.map (·.1)).Nodup) {t:Trm} (ht:t ∈ D):getA D t.1 = t.2:=by
  have m:=getA_mem (A:=D) (k:=t.1) (List.mem_map.mpr ⟨t,ht,rfl⟩)
  have:(t.1,getA D t.1) = t:=by
    have inj:∀ a ∈ D,∀ b ∈ D,a.1 = b.1 → a = b:=by
      intro a ha b hb e
      have p:=List.pairwise_map.mp nd
      exact Classical.byContradiction fun ne => by
        rcases List.mem_iff_getElem.mp ha with ⟨i,hi,rfl⟩
        rcases List.mem_iff_getElem.mp hb with ⟨j,hj,rfl⟩
        have q:=List.pairwise_iff_getElem.mp p
        rcases Nat.lt_trichotomy i j with c | c | c
        · exact q i j hi hj c e
        · subst c; exact ne rfl
        · exact q j i hj hi c e.symm
    exact inj _ m _ ht rfl
  exact congrArg (·.2) this
theorem told_fall {r:Int} {D:List Trm} (f:SO.Falls (D.map (·.1))):toldR r D = stl r D:=by
  have nd:=falls_nodup f
  have e:srt (D.map (·.1)) = D.map (·.1):=falls_eq (srt_perm _) (srt_falls nd) f
  have:allT D = D:=by
    unfold allT
    rw [e,List.map_map]
    have:D.map ((fun k => (k,getA D k)) ∘ fun t => t.1) = D.map id:=List.map_congr_left fun t ht => by
      show (t.1,getA D t.1) = t
      rw [getA_at nd ht]
    rw [this,List.map_id]
  unfold toldR stl
  rw [this]
theorem told_falls (r:Int) {A:List Trm} (nd:(A.map (·.1)).Nodup):SO.Falls ((toldR r A).map (·.1)):=by
  rw [← tkR_told]
  unfold tkR
  rw [List.filter_map,List.map_map]
  have:(((srt (A.map (·.1))).filter ((fun t => t.2 != 0) ∘ fun k => (k,setR r (getA A k)))).map ((fun t => t.1) ∘ fun k => (k,setR r (getA A k)))) = (srt (A.map (·.1))).filter ((fun t:Trm => t.2 != 0) ∘ fun k => (k,setR r (getA A k))):=by
    have:((fun t:Trm => t.1) ∘ fun k:List Int => (k,setR r (getA A k))) = id:=rfl
    rw [this,List.map_id]
  rw [this]
  exact List.Pairwise.sublist List.filter_sublist (srt_falls nd)
theorem fold_bound {B:Int} (b0:0 ≤ B):∀ (P A:List Trm) (m:Nat),(∀ t ∈ P,-B ≤ t.2 ∧ t.2 ≤ B) → (∀ t ∈ A,-(m * B) ≤ t.2 ∧ t.2 ≤ m * B) → ∀ t ∈ P.foldl gF A,-((m + P.length:Nat) * B) ≤ t.2 ∧ t.2 ≤ (m + P.length:Nat) * B
  | [],A,m,_,h => h
  | p :: P,A,m,hp,h => by
    have e:((m + 1:Nat):Int) * B = m * B + B:=by rw [Int.natCast_add,Int.add_mul]; simp
    have mb:0 ≤ (m:Int) * B:=Int.mul_nonneg (Int.natCast_nonneg _) b0
    have q:=hp p List.mem_cons_self
    have ih:=fold_bound b0 P (gF A p) (m + 1) (fun t ht => hp t (List.mem_cons_of_mem _ ht)) (fun t ht => by
      rw [e]
      rcases putA_mem ht with ht | rfl
      · have:=h t ht; omega
      · have:=getA_bound (k:=p.1) mb h
        dsimp only
        omega)
    intro t ht
    have:=ih t ht
    rw [List.length_cons,show m + (P.length + 1) = m + 1 + P.length by omega]
    exact this
theorem gthr_bound {B:Int} (b0:0 ≤ B) {P:List Trm} (hp:∀ t ∈ P,-B ≤ t.2 ∧ t.2 ≤ B):∀ t ∈ gthr P,-(P.length * B) ≤ t.2 ∧ t.2 ≤ P.length * B:=by
  have:=fold_bound b0 P [] 0 hp (fun t ht => by cases ht)
  rw [Nat.zero_add] at this
  exact this
theorem setR_bound {r n C:Int} (hr:0 ≤ r) (hC:r ≤ C) (h:-C ≤ n ∧ n ≤ C):-C ≤ setR r n ∧ setR r n ≤ C:=by
  unfold setR
  split
  · exact h
  · have:=fmodc (m:=r) (by omega) n
    omega
theorem told_mem {r:Int} {A:List Trm} {t:Trm} (h:t ∈ toldR r A):∃ q ∈ A,t.1 = q.1 ∧ t.2 = setR r q.2:=by
  unfold toldR at h
  obtain ⟨u,hu,rfl⟩:=List.mem_map.mp (List.mem_filter.mp h).1
  unfold allT at hu
  obtain ⟨k,hk,rfl⟩:=List.mem_map.mp hu
  exact ⟨_,getA_mem ((srt_perm _).mem_iff.mp hk),rfl,rfl⟩
theorem told_len (r:Int) (A:List Trm):(toldR r A).length ≤ A.length:=by
  rw [← tkR_told]
  refine Nat.le_trans (tkR_len _ _ _) ?_
  rw [(srt_perm _).length_eq,List.length_map]; exact Nat.le_refl _
structure Sms (many:Nat) (D:List Trm) (C:Int):Prop where
  fall:SO.Falls (D.map (·.1))
  len:∀ t ∈ D,t.1.length = many
  big:∀ t ∈ D,-C ≤ t.2 ∧ t.2 ≤ C
theorem Sms.nd {many:Nat} {D:List Trm} {C:Int} (h:Sms many D C):(D.map (·.1)).Nodup:=falls_nodup h.fall
theorem told_sm {r B:Int} {many:Nat} {P:List Trm} (b0:0 ≤ B) (hr:0 ≤ r) (hl:∀ t ∈ P,t.1.length = many) (hb:∀ t ∈ P,-B ≤ t.2 ∧ t.2 ≤ B):Sms many (toldR r (gthr P)) (P.length * B + r):=by
  have ga:=gthr_all P
  refine ⟨told_falls r ga.1,fun t ht => ?_,fun t ht => ?_⟩
  · obtain ⟨q,hq,e1,_⟩:=told_mem ht
    obtain ⟨w,hw,e⟩:=List.mem_map.mp (ga.2.2 q hq)
    rw [e1,← e]; exact hl w hw
  · obtain ⟨q,hq,_,e2⟩:=told_mem ht
    have:=gthr_bound b0 hb q hq
    have pb:0 ≤ (P.length:Int) * B:=Int.mul_nonneg (Int.natCast_nonneg _) b0
    rw [e2]
    exact setR_bound hr (by omega) (by omega)
end PG
namespace PG
open PySem PySem.Spec L2 MN
open PyProof.Rows hiding St kindOf
noncomputable def scl (f:Int) (L:List Trm):List Trm:=L.map fun t => (t.1,f * t.2)
theorem scl_snoc (f:Int) (L:List Trm) (t:Trm):scl f (L ++ [t]) = scl f L ++ [(t.1,f * t.2)]:=by unfold scl; rw [List.map_append]; rfl
theorem scl_len (f:Int) (L:List Trm):(scl f L).length = L.length:=List.length_map _
noncomputable abbrev wmB:MB:=sExpr (mCall PM.add_to (mCons (mVar 4) (mCons (mVar 5) (mCons (mBin mulV (mVar 3) (mVar 6)) mNil))))
theorem wm_loop {p f:Int} {q:Nat} {D P:List Trm} {st:Store} {x0 x1:Option Val} (f1:-(2 ^ 64) < f) (f2:f < 2 ^ 64) (h:itemsOf st q = some (P.map tV)) (hl:D.length + P.length < 100000) :
    ∃ y5 y6,forL (fun st' => itemsOf st' q = some (P.map tV)) (aTup [aName 5,aName 6]) wmB (P.map tV) [x0,x1,some (.loc q),some (.int f),some (.loc st.length),none,none] (st ++ [.dT (D.map eD)]) = .nx [x0,x1,some (.loc q),some (.int f),some (.loc st.length),y5,y6] (st ++ [.dT (((scl f P).foldl gF D).map eD)]):=by
  have hg:∀ (A:List Trm),itemsOf (st ++ [.dT (A.map eD)]) q = some (P.map tV):=fun A => itemsOf_old h _
  have ln:∀ (L A:List Trm),(L.foldl gF A).length ≤ A.length + L.length:=by
    intro L
    induction L with
    | nil => intro A; exact Nat.le_refl _
    | cons t L ih =>
      intro A
      have:=ih (gF A t)
      have h2:(gF A t).length ≤ A.length + 1:=putA_len
      rw [List.length_cons]
      show (L.foldl gF (gF A t)).length ≤ _
      omega
  obtain ⟨μ',st',e,rfl,y4,y5,rfl⟩:=forL_inv (g:=fun st' => itemsOf st' q = some (P.map tV)) (a:=aTup [aName 5,aName 6]) (body:=wmB)
    (fun i μ s' => s' = st ++ [.dT (((scl f (P.take i)).foldl gF D).map eD)] ∧ ∃ y5 y6,μ = [x0,x1,some (.loc q),some (.int f),some (.loc st.length),y5,y6])
    (P.map tV) 0 [x0,x1,some (.loc q),some (.int f),some (.loc st.length),none,none] (st ++ [.dT (D.map eD)])
    (by
      rintro i u μ s' hu ⟨rfl,y5,y6,rfl⟩
      rw [Nat.zero_add]
      refine ⟨hg _,?_⟩
      rw [List.getElem?_map] at hu
      have hi:i < P.length:=by
        rcases Nat.lt_or_ge i P.length with z | z
        · exact z
        · rw [List.getElem?_eq_none z] at hu; cases hu
      rw [List.getElem?_eq_getElem hi] at hu
      obtain ⟨t,ht⟩:∃ t,t = P[i]:=⟨_,rfl⟩
      rw [← ht] at hu
      cases hu
      have tk:P.take (i + 1) = P.take i ++ [t]:=by
        rw [List.take_succ,List.getElem?_eq_getElem hi,← ht]; rfl
      have lA:=ln (scl f (P.take i)) D
      rw [scl_len,List.length_take] at lA
      have ad:=add_to_ok (k:=t.1) (v:=f * t.2) (la_dict st (((scl f (P.take i)).foldl gF D).map eD)) (by rw [sizeLine_eq]; omega)
      have sn:(scl f (P.take (i + 1))).foldl gF D = putA ((scl f (P.take i)).foldl gF D) t.1 (getA ((scl f (P.take i)).foldl gF D) t.1 + f * t.2):=by
        rw [tk,scl_snoc,List.foldl_append]; rfl
      rw [set_dict,← sn] at ad
      refine ⟨[x0,x1,some (.loc q),some (.int f),some (.loc st.length),some (tupI t.1),some (.int t.2)],rfl,[x0,x1,some (.loc q),some (.int f),some (.loc st.length),some (tupI t.1),some (.int t.2)],_,.inl ?_,rfl,_,_,rfl⟩
      have m:mBin mulV (mVar 3) (mVar 6) [x0,x1,some (.loc q),some (.int f),some (.loc st.length),some (tupI t.1),some (.int t.2)] (st ++ [.dT (((scl f (P.take i)).foldl gF D).map eD)]) = .ok (.int (f * t.2)) (st ++ [.dT (((scl f (P.take i)).foldl gF D).map eD)]):=mul_l f1 f2
      show sExpr _ _ _ = _
      rw [ev_expr,call_of (arg_c (v:=.loc st.length) (s1:=st ++ [.dT (((scl f (P.take i)).foldl gF D).map eD)]) rfl (arg2 (v:=tupI t.1) (s1:=st ++ [.dT (((scl f (P.take i)).foldl gF D).map eD)]) rfl m)),ad,sbn_ok]
      rfl)
    (fun μ s hp => by obtain ⟨rfl,_⟩:=hp; exact hg _)
    ⟨rfl,none,none,rfl⟩
  rw [Nat.zero_add,List.length_map,List.take_of_length_le (Nat.le_refl _)] at e
  exact ⟨y4,y5,e⟩
theorem fold_ne {many:Nat}:∀ (P A:List Trm),(∀ t ∈ A,t.1.length = many) → (∀ t ∈ P,t.1.length = many) → ∀ t ∈ P.foldl gF A,t.1.length = many
  | [],A,h,_ => h
  | p :: P,A,h,hp => fold_ne P (gF A p) (fun t ht => by
      rcases putA_mem ht with ht | rfl
      · exact h t ht
      · exact hp p List.mem_cons_self) fun t ht => hp t (List.mem_cons_of_mem _ ht)
theorem ne_len {many:Nat} (h1:1 ≤ many) {k:List Int} (h:k.length = many):k ≠ []:=fun z => by
  rw [z] at h
  simp at h
  omega
theorem with_multiple_ok {r f:Int} {p q many:Nat} {D P:List Trm} {C:Int} {st:Store} (f1:-(2 ^ 64) < f) (f2:f < 2 ^ 64) (hp:itemsOf st p = some (D.map tV)) (hq:itemsOf st q = some (P.map tV)) (h1:1 ≤ many) (S:Sms many D C) (hP:∀ t ∈ P,t.1.length = many) (hl:D.length + P.length < 100000) :
    ∃ g k,PM.with_multiple [.int r,.loc p,.loc q,.int f] st = .ok (.loc k) (st ++ g) ∧ st.length ≤ k ∧ (st ++ g)[k]? = some (.lst ((toldR r (gthr (D ++ scl f P))).map tV)):=by
  obtain ⟨A,hA⟩:∃ A,A = (scl f P).foldl gF D:=⟨_,rfl⟩
  have eA:gthr (D ++ scl f P) = A:=by rw [gthr_app,gthr_self S.nd,hA]
  have ga:=gthr_all (D ++ scl f P)
  rw [eA] at ga
  have lA:A.length < 100000:=by
    have:=ga.2.1
    rw [List.length_append,scl_len] at this
    omega
  have nA:∀ t ∈ A,t.1.length = many:=by
    rw [hA]
    exact fold_ne _ _ S.len fun t ht => by
      obtain ⟨u,hu,rfl⟩:=List.mem_map.mp ht
      exact hP u hu
  obtain ⟨s1,hs1⟩:∃ s1,s1 = st ++ [Cell.dT (A.map eD)]:=⟨_,rfl⟩
  obtain ⟨c1,c2,c3,et⟩:=totals_ok (s:=s1) (d:=st.length) (A:=A) (r:=r) (by rw [hs1]; exact la_dict st _) ga.1 lA (fun t ht => ne_len h1 (nA t ht))
  rw [eA]
  refine ⟨Cell.dT (A.map eD) :: [c1,c2,c3,.lst ((toldR r A).map tV)],st.length + 4,?_,by omega,?_⟩
  · obtain ⟨y5,y6,e⟩:=wm_loop (p:=0) (x0:=some (.int r)) (x1:=some (.loc p)) (D:=D) f1 f2 hq hl
    rw [← hA,← hs1] at e
    have x4:sSet 4 (mCall dctF (mCons (mVar 1) mNil)) [some (.int r),some (.loc p),some (.loc q),some (.int f),none,none,none] st = .nx [some (.int r),some (.loc p),some (.loc q),some (.int f),some (.loc st.length),none,none] (st ++ [.dT (D.map eD)]):=by
      refine set_of (v:=.loc st.length) ?_
      rw [call_of (arg1 (v:=.loc p) (s1:=st) rfl),dct_ok hp S.nd]
    have v2:mVar 2 [some (Val.int r),some (.loc p),some (.loc q),some (.int f),some (.loc st.length),none,none] (st ++ [.dT (D.map eD)]) = .ok (.loc q) (st ++ [.dT (D.map eD)]):=rfl
    have l1:s1.length = st.length + 1:=by rw [hs1,List.length_append]; rfl
    rw [l1] at et
    unfold PM.with_multiple
    rw [ev_fn (np:=4) (us:=[Val.int r,.loc p,.loc q,.int f]) rfl]
    show (sSeq (sSet 4 (mCall dctF (mCons (mVar 1) mNil))) (sSeq (sFor (iSeq (mVar 2)) (aTup [aName 5,aName 6]) wmB) (sRet (mCall PM.sum_of_totals (mCons (mVar 0) (mCons (mVar 4) mNil))))) [some (.int r),some (.loc p),some (.loc q),some (.int f),none,none,none] st).fin = _
    rw [ev_seq,x4,thn_nx,ev_seq,ev_for,ev_iseq,v2,bnd_ok,walkK_loc (itemsOf_old hq _),sbn_ok,k_for,e,thn_nx,ev_ret,call_of (arg2 (v:=.int r) (s1:=s1) rfl (w:=.loc st.length) (s2:=s1) rfl),et,sbn_ok,hs1,List.append_assoc]
    rfl
  · rw [List.getElem?_append_right (by omega),show st.length + 4 - st.length = 4 by omega]; rfl
end PG
namespace PG
open PySem PySem.Spec L2 MN
open PyProof.Rows hiding St kindOf
noncomputable def chg (g:Int → Int) (L:List Trm):List Trm:=L.map fun t => (t.1,g t.2)
theorem chg_len (g:Int → Int) (L:List Trm):(chg g L).length = L.length:=List.length_map _
theorem comp_t {μ:MN.Env} {m e:ME} {k:Nat} {caps:List Nat} {a:AS} {g:Int → Int} {s s1:Store} {p:Nat} {L:List Trm} (I:MN.Env → Prop) (hm:m μ s = .ok (.loc p) s1) (h:itemsOf s1 p = some (L.map tV)) (hl:L.length ≤ 100000) (hI:I (capM k caps μ))
    (hs:∀ t ∈ L,∀ τ,I τ → ∃ τ1,a (tV t) τ = some τ1 ∧ I τ1 ∧ e τ1 s1 = .ok (tV (t.1,g t.2)) s1) :
    mComp k caps (iSeq m) a tTrueM e μ s = .ok (.loc s1.length) (s1 ++ [.lst ((chg g L).map tV)]):=by
  have cp:=compL_pure (a:=a) (c:=tTrueM) (e:=e) (g:=fun st' => itemsOf st' p = some (L.map tV)) (st:=s1) h I (fun _ => true) (fun v => tV ((tOf v).1,g (tOf v).2)) (L.map tV) (capM k caps μ) [] hI (by
    intro u hu τ hτ
    obtain ⟨t,ht,rfl⟩:=List.mem_map.mp hu
    obtain ⟨τ1,h1,h2,h3⟩:=hs t ht τ hτ
    exact ⟨τ1,h1,h2,rfl,fun _ => by rw [tOf_t]; exact h3⟩)
  have ee:(List.filter (fun _ => true) (L.map tV)).map (fun v => tV ((tOf v).1,g (tOf v).2)) = (chg g L).map tV:=by
    unfold chg
    rw [List.filter_eq_self.mpr fun _ _ => rfl,List.map_map,List.map_map]
    refine List.map_congr_left fun t _ => ?_
    show tV ((tOf (tV t)).1,g (tOf (tV t)).2) = _
    rw [tOf_t]; rfl
  rw [ee,List.nil_append] at cp
  rw [ev_comp,ev_iseq,hm,bnd_ok,walkK_loc h,bnd_ok,k_comp,if_pos (by rw [List.length_map,sizeLine_eq]; omega),cp,bnd_ok,k_new]
theorem scl_one (P:List Trm):scl 1 P = P:=by
  unfold scl
  have:(fun t:Trm => (t.1,1 * t.2)) = id:=by funext t; show (t.1,1 * t.2) = t; rw [Int.one_mul]
  rw [this,List.map_id]
theorem scl_neg (P:List Trm):scl (-1) P = chg (fun n => -n) P:=by
  unfold scl chg
  refine List.map_congr_left fun t _ => ?_
  rw [Int.neg_mul,Int.one_mul]
section
variable {r:Int} {p q many:Nat} {D P:List Trm} {C:Int} {st:Store}
theorem pm_ok {f:Int} {w:ME} {F:FN} (hF:F = fnM 3 3 (sSeq (sExpr (mCall PM.check_ring (mCons (mVar 0) mNil))) (sRet (mCall PM.with_multiple (mCons (mVar 0) (mCons (mVar 1) (mCons (mVar 2) (mCons w mNil)))))))) (hw:∀ μ s,w μ s = .ok (.int f) s) (f1:-(2 ^ 64) < f) (f2:f < 2 ^ 64)
    (hr:ringB r = true) (hp:itemsOf st p = some (D.map tV)) (hq:itemsOf st q = some (P.map tV)) (h1:1 ≤ many) (S:Sms many D C) (hP:∀ t ∈ P,t.1.length = many) (hl:D.length + P.length < 100000) :
    ∃ g k,F [.int r,.loc p,.loc q] st = .ok (.loc k) (st ++ g) ∧ st.length ≤ k ∧ (st ++ g)[k]? = some (.lst ((toldR r (gthr (D ++ scl f P))).map tV)):=by
  obtain ⟨g1,e1⟩:=check_ring_ok hr st
  obtain ⟨g2,k,e2,lk,hk⟩:=with_multiple_ok (r:=r) f1 f2 (itemsOf_old hp g1) (itemsOf_old hq g1) h1 S hP hl
  refine ⟨g1 ++ g2,k,?_,by rw [List.length_append] at lk; omega,by rw [← List.append_assoc]; exact hk⟩
  have x1:sExpr (mCall PM.check_ring (mCons (mVar 0) mNil)) [some (.int r),some (.loc p),some (.loc q)] st = .nx [some (.int r),some (.loc p),some (.loc q)] (st ++ g1):=by
    rw [ev_expr,call_of (arg1 (v:=.int r) (s1:=st) rfl),e1,sbn_ok]; rfl
  rw [hF,ev_fn (np:=3) (us:=[Val.int r,.loc p,.loc q]) rfl]
  show (sSeq (sExpr (mCall PM.check_ring (mCons (mVar 0) mNil))) (sRet (mCall PM.with_multiple (mCons (mVar 0) (mCons (mVar 1) (mCons (mVar 2) (mCons w mNil)))))) [some (.int r),some (.loc p),some (.loc q)] st).fin = _
  rw [ev_seq,x1,thn_nx,ev_ret,call_of (arg_c (v:=.int r) (s1:=st ++ g1) rfl (arg_c (v:=.loc p) (s1:=st ++ g1) rfl (arg2 (v:=.loc q) (s1:=st ++ g1) rfl (hw _ _)))),e2,sbn_ok,List.append_assoc]
  rfl
theorem plus_ok (hr:ringB r = true) (hp:itemsOf st p = some (D.map tV)) (hq:itemsOf st q = some (P.map tV)) (h1:1 ≤ many) (S:Sms many D C) (hP:∀ t ∈ P,t.1.length = many) (hl:D.length + P.length < 100000) :
    ∃ g k,PM.plus [.int r,.loc p,.loc q] st = .ok (.loc k) (st ++ g) ∧ st.length ≤ k ∧ (st ++ g)[k]? = some (.lst ((toldR r (gthr (D ++ P))).map tV)):=by
  have:=pm_ok (F:=PM.plus) (f:=1) rfl (fun _ _ => rfl) (by decide) (by decide) hr hp hq h1 S hP hl
  rwa [scl_one] at this
theorem minus_ok (hr:ringB r = true) (hp:itemsOf st p = some (D.map tV)) (hq:itemsOf st q = some (P.map tV)) (h1:1 ≤ many) (S:Sms many D C) (hP:∀ t ∈ P,t.1.length = many) (hl:D.length + P.length < 100000) :
    ∃ g k,PM.minus [.int r,.loc p,.loc q] st = .ok (.loc k) (st ++ g) ∧ st.length ≤ k ∧ (st ++ g)[k]? = some (.lst ((toldR r (gthr (D ++ chg (fun n => -n) P))).map tV)):=by
  have:=pm_ok (F:=PM.minus) (f:=-1) rfl (fun _ _ => rfl) (by decide) (by decide) hr hp hq h1 S hP hl
  rwa [scl_neg] at this
theorem scaled_ok {n:Int} (hr:ringB r = true) (hp:itemsOf st p = some (D.map tV)) (hl:D.length ≤ 100000) (hm:∀ t ∈ D,MulOk t.2 n) :
    ∃ g k,PM.scaled [.int r,.loc p,.int n] st = .ok (.loc k) (st ++ g) ∧ st.length ≤ k ∧ (st ++ g)[k]? = some (.lst ((stl r (chg (· * n) D)).map tV)):=by
  obtain ⟨g1,e1⟩:=check_ring_ok hr st
  obtain ⟨s1,hs1⟩:∃ s1,s1 = st ++ g1:=⟨_,rfl⟩
  rw [← hs1] at e1
  have i1:itemsOf s1 p = some (D.map tV):=by rw [hs1]; exact itemsOf_old hp g1
  have x1:sExpr (mCall PM.check_ring (mCons (mVar 0) mNil)) [some (.int r),some (.loc p),some (.int n)] st = .nx [some (.int r),some (.loc p),some (.int n)] s1:=by
    rw [ev_expr,call_of (arg1 (v:=.int r) (s1:=st) rfl),e1,sbn_ok]; rfl
  have cp:=comp_t (μ:=[some (.int r),some (.loc p),some (.int n)]) (m:=mVar 1) (s:=s1) (s1:=s1) (k:=2) (caps:=[2]) (a:=aTup [aName 0,aName 1]) (e:=mTup (mCons (mVar 0) (mCons (mBin mulV (mVar 1) (mVar 2)) mNil))) (g:=(· * n)) (fun τ => ∃ x y,τ = [x,y,some (.int n)]) rfl i1 hl ⟨none,none,rfl⟩ (by
    rintro t ht τ ⟨x,y,rfl⟩
    refine ⟨[some (tupI t.1),some (.int t.2),some (.int n)],rfl,⟨_,_,rfl⟩,?_⟩
    have mu:mBin mulV (mVar 1) (mVar 2) [some (tupI t.1),some (.int t.2),some (.int n)] s1 = .ok (.int (t.2 * n)) s1:=mul_ok (hm t ht)
    exact tup_of (arg2 (v:=tupI t.1) (s1:=s1) rfl mu) (by show 2 ≤ 1000; decide))
  obtain ⟨c,se⟩:=settled_ok (r:=r) (L:=chg (· * n) D) (p:=s1.length) (st:=s1 ++ [.lst ((chg (· * n) D).map tV)]) (itemsOf_new s1 _) (by rw [chg_len]; exact hl)
  refine ⟨g1 ++ [.lst ((chg (· * n) D).map tV)] ++ [c,.lst ((stl r (chg (· * n) D)).map tV)],s1.length + 2,?_,by rw [hs1,List.length_append]; omega,?_⟩
  · unfold PM.scaled
    rw [ev_fn (np:=3) (us:=[Val.int r,.loc p,.int n]) rfl]
    show (sSeq (sExpr (mCall PM.check_ring (mCons (mVar 0) mNil))) (sRet (mCall PM.settled_terms (mCons (mVar 0) (mCons (mComp 2 [2] (iSeq (mVar 1)) (aTup [aName 0,aName 1]) tTrueM (mTup (mCons (mVar 0) (mCons (mBin mulV (mVar 1) (mVar 2)) mNil)))) mNil)))) [some (.int r),some (.loc p),some (.int n)] st).fin = _
    rw [ev_seq,x1,thn_nx,ev_ret,call_of (arg2 (v:=.int r) (s1:=s1) rfl cp),se,sbn_ok]
    rw [List.length_append,hs1]
    simp only [List.append_assoc]
    rfl
  · rw [← List.append_assoc,← List.append_assoc,← hs1]
    rw [List.getElem?_append_right (by rw [List.length_append]; show s1.length + 1 ≤ _; omega),List.length_append]
    rw [show s1.length + 2 - (s1.length + [Cell.lst ((chg (· * n) D).map tV)].length) = 1 by show s1.length + 2 - (s1.length + 1) = 1; omega]
    rfl
noncomputable def zer (many:Nat):List Int:=List.replicate many 0
theorem reps_zer (many:Nat):repsV many [Val.int 0] = (zer many).map Val.int:=by
  unfold repsV zer
  induction many with
  | zero => rfl
  | succ k ih =>
    rw [List.replicate_succ,List.replicate_succ,List.flatten_cons,List.map_cons,ih]
    rfl
theorem constant_ok {n:Int} (hr:ringB r = true) (h1:1 ≤ many) (hm:many ≤ 4) :
    ∃ g k,PM.constant [.int r,.int (many:Int),.int n] st = .ok (.loc k) (st ++ g) ∧ st.length ≤ k ∧ (st ++ g)[k]? = some (.lst ((stl r [(zer many,n)]).map tV)):=by
  obtain ⟨g1,e1⟩:=check_ring_ok hr st
  obtain ⟨s1,hs1⟩:∃ s1,s1 = st ++ g1:=⟨_,rfl⟩
  rw [← hs1] at e1
  obtain ⟨μ,hμ⟩:∃ μ:MN.Env,μ = [some (.int r),some (.int (many:Int)),some (.int n)]:=⟨_,rfl⟩
  have x1:sExpr (mCall PM.check_ring (mCons (mVar 0) mNil)) μ st = .nx μ s1:=by
    rw [hμ,ev_expr,call_of (arg1 (v:=.int r) (s1:=st) rfl),e1,sbn_ok]; rfl
  have x2:sExpr (mCall PM.check_unknowns (mCons (mVar 1) mNil)) μ s1 = .nx μ s1:=by
    rw [hμ,ev_expr,call_of (arg1 (v:=.int (many:Int)) (s1:=s1) rfl),check_unknowns_ok h1 hm s1,sbn_ok]; rfl
  have tu:mBin mulX (mTup (mCons (mC (.int 0)) mNil)) (mVar 1) μ s1 = .ok (tupI (zer many)) s1:=by
    rw [hμ,bin_of (tup_of (arg1 (v:=.int 0) (s1:=s1) rfl) (by show 1 ≤ 1000; decide)) (y:=.int (many:Int)) (s2:=s1) rfl]
    unfold mulX
    dsimp only
    rw [if_pos ⟨by simp,by omega,by omega,by rw [sizeLine_eq]; show 1 * (many:Int).toNat ≤ _; omega⟩,Int.toNat_natCast,reps_zer]
    rfl
  have ls:mLst (mCons (mTup (mCons (mBin mulX (mTup (mCons (mC (.int 0)) mNil)) (mVar 1)) (mCons (mVar 2) mNil))) mNil) μ s1 = .ok (.loc s1.length) (s1 ++ [.lst ([(zer many,n)].map tV)]) :=
    lst_of (arg1 (tup_of (arg2 tu (w:=.int n) (s2:=s1) (by rw [hμ]; rfl)) (by show 2 ≤ 1000; decide))) (by show 1 ≤ 1000; decide)
  obtain ⟨c,se⟩:=settled_ok (r:=r) (L:=[(zer many,n)]) (p:=s1.length) (st:=s1 ++ [.lst ([(zer many,n)].map tV)]) (itemsOf_new s1 _) (by show 1 ≤ 100000; decide)
  refine ⟨g1 ++ [.lst ([(zer many,n)].map tV)] ++ [c,.lst ((stl r [(zer many,n)]).map tV)],s1.length + 2,?_,by rw [hs1,List.length_append]; omega,?_⟩
  · unfold PM.constant
    rw [ev_fn (np:=3) (us:=[Val.int r,.int (many:Int),.int n]) rfl]
    show (sSeq (sExpr (mCall PM.check_ring (mCons (mVar 0) mNil))) (sSeq (sExpr (mCall PM.check_unknowns (mCons (mVar 1) mNil))) (sRet (mCall PM.settled_terms (mCons (mVar 0) (mCons (mLst (mCons (mTup (mCons (mBin mulX (mTup (mCons (mC (.int 0)) mNil)) (mVar 1)) (mCons (mVar 2) mNil))) mNil)) mNil))))) [some (.int r),some (.int (many:Int)),some (.int n)] st).fin = _
    rw [← hμ,ev_seq,x1,thn_nx,ev_seq,x2,thn_nx,ev_ret,call_of (arg2 (v:=.int r) (s1:=s1) (by rw [hμ]; rfl) ls),se,sbn_ok]
    rw [List.length_append,hs1]
    simp only [List.append_assoc]
    rfl
  · rw [← List.append_assoc,← List.append_assoc,← hs1]
    rw [List.getElem?_append_right (by rw [List.length_append]; show s1.length + 1 ≤ _; omega),List.length_append]
    rw [show s1.length + 2 - (s1.length + [Cell.lst ([(zer many,n)].map tV)].length) = 1 by show s1.length + 2 - (s1.length + 1) = 1; omega]
    rfl
end
end PG
namespace PG
open PySem PySem.Spec L2 MN
open PyProof.Rows hiding St kindOf
noncomputable def of4 {α:Type} (a b c d:α):Nat → α
  | 0 => a
  | 1 => b
  | 2 => c
  | _ => d
theorem all4 {P:Nat → Prop} (h0:P 0) (h1:P 1) (h2:P 2) (h3:P 3):∀ j,j < 4 → P j:=fun j hj => by
  match j,hj with
  | 0,_ => exact h0
  | 1,_ => exact h1
  | 2,_ => exact h2
  | 3,_ => exact h3
structure Four (st:Store) (B F:Nat) (f:Nat → Nat) (D:Nat → List Trm):Prop where
  li:st[F]? = some (.lst [.loc (f 0),.loc (f 1),.loc (f 2),.loc (f 3)])
  at_:∀ j,j < 4 → st[f j]? = some (.lst ((D j).map tV))
  lo:∀ j,j < 4 → B ≤ f j
  loF:B ≤ F
  ne:∀ i j,i < 4 → j < 4 → i ≠ j → f i ≠ f j
  neF:∀ j,j < 4 → f j ≠ F
noncomputable def dues (r:Int) (D P:List Trm) (n:Int) (many:Nat):Nat → List Trm :=
  of4 (toldR r (gthr (D ++ P))) (toldR r (gthr (D ++ chg (fun n => -n) P))) (toldR r (gthr (chg (n * ·) D))) (toldR r (gthr [(zer many,n)]))
theorem chg_keys (g:Int → Int) (D:List Trm):(chg g D).map (·.1) = D.map (·.1):=by
  unfold chg
  rw [List.map_map]; rfl
theorem due3 {r n C:Int} {many:Nat} {D:List Trm} (S:Sms many D C):toldR r (gthr (chg (n * ·) D)) = stl r (chg (· * n) D):=by
  have e:chg (n * ·) D = chg (· * n) D:=List.map_congr_left fun t _ => by
    show (t.1,n * t.2) = (t.1,t.2 * n)
    rw [Int.mul_comm]
  have f:SO.Falls ((chg (· * n) D).map (·.1)):=by rw [chg_keys]; exact S.fall
  rw [e,gthr_self (falls_nodup f),told_fall f]
theorem due4 {r n:Int} {many:Nat}:toldR r (gthr [(zer many,n)]) = stl r [(zer many,n)]:=by
  have f:SO.Falls ([(zer many,n)].map (·.1)):=List.pairwise_singleton _ _
  rw [gthr_self (falls_nodup f),told_fall f]
theorem lt_of_at {s:Store} {k:Nat} {c:Cell} (h:s[k]? = some c):k < s.length:=by
  rcases Nat.lt_or_ge k s.length with q | q
  · exact q
  · rw [List.getElem?_eq_none q] at h; cases h
section
variable {r n C:Int} {p q many:Nat} {D P:List Trm} {st:Store}
theorem told4_ok (hr:ringB r = true) (hp:st[p]? = some (.lst (D.map tV))) (hq:st[q]? = some (.lst (P.map tV))) (h1:1 ≤ many) (hm:many ≤ 4) (S:Sms many D C) (hP:∀ t ∈ P,t.1.length = many) (hl:D.length + P.length < 100000) (hmu:∀ t ∈ D,MulOk t.2 n) :
    ∃ g F f,PM.law_told_v2 [.int r,.loc p,.loc q,.int n,.int (many:Int)] st = .ok (.loc F) (st ++ g) ∧ Four (st ++ g) st.length F f (dues r D P n many):=by
  obtain ⟨g1,k1,e1,l1,a1⟩:=plus_ok hr (it_of hp) (it_of hq) h1 S hP hl
  obtain ⟨s1,hs1⟩:∃ s1,s1 = st ++ g1:=⟨_,rfl⟩
  rw [← hs1] at e1 a1
  have p1:s1[p]? = some (.lst (D.map tV)):=by rw [hs1]; exact old_at hp _
  have q1:s1[q]? = some (.lst (P.map tV)):=by rw [hs1]; exact old_at hq _
  obtain ⟨g2,k2,e2,l2,a2⟩:=minus_ok (st:=s1) hr (it_of p1) (it_of q1) h1 S hP hl
  obtain ⟨s2,hs2⟩:∃ s2,s2 = s1 ++ g2:=⟨_,rfl⟩
  rw [← hs2] at e2 a2
  have p2:s2[p]? = some (.lst (D.map tV)):=by rw [hs2]; exact old_at p1 _
  obtain ⟨g3,k3,e3,l3,a3⟩:=scaled_ok (st:=s2) (n:=n) hr (it_of p2) (by omega) hmu
  obtain ⟨s3,hs3⟩:∃ s3,s3 = s2 ++ g3:=⟨_,rfl⟩
  rw [← hs3] at e3 a3
  obtain ⟨s4,hs4⟩:∃ s4,s4 = s3 ++ [Cell.lst [.loc k1,.loc k2,.loc k3]]:=⟨_,rfl⟩
  obtain ⟨g5,k5,e5,l5,a5⟩:=constant_ok (st:=s4) (n:=n) (r:=r) hr h1 hm
  obtain ⟨s5,hs5⟩:∃ s5,s5 = s4 ++ g5:=⟨_,rfl⟩
  rw [← hs5] at e5 a5
  obtain ⟨s6,hs6⟩:∃ s6,s6 = s5 ++ [Cell.lst [.loc k5]]:=⟨_,rfl⟩
  obtain ⟨s7,hs7⟩:∃ s7,s7 = s6 ++ [Cell.lst [.loc k1,.loc k2,.loc k3,.loc k5]]:=⟨_,rfl⟩
  have b1:=lt_of_at a1
  have b2:=lt_of_at a2
  have b3:=lt_of_at a3
  have b5:=lt_of_at a5
  have z1:s1.length ≤ s2.length:=by rw [hs2,List.length_append]; omega
  have z2:s2.length ≤ s3.length:=by rw [hs3,List.length_append]; omega
  have z3:s4.length = s3.length + 1:=by rw [hs4,List.length_append]; rfl
  have z4:s4.length ≤ s5.length:=by rw [hs5,List.length_append]; omega
  have z5:s6.length = s5.length + 1:=by rw [hs6,List.length_append]; rfl
  have z0:st.length ≤ s1.length:=by rw [hs1,List.length_append]; omega
  have es:s7 = st ++ (g1 ++ g2 ++ g3 ++ [Cell.lst [.loc k1,.loc k2,.loc k3]] ++ g5 ++ [Cell.lst [.loc k5]] ++ [Cell.lst [.loc k1,.loc k2,.loc k3,.loc k5]]):=by
    rw [hs7,hs6,hs5,hs4,hs3,hs2,hs1]; simp only [List.append_assoc]
  refine ⟨g1 ++ g2 ++ g3 ++ [Cell.lst [.loc k1,.loc k2,.loc k3]] ++ g5 ++ [Cell.lst [.loc k5]] ++ [Cell.lst [.loc k1,.loc k2,.loc k3,.loc k5]],s6.length,of4 k1 k2 k3 k5,?_,?_⟩
  rotate_left
  · rw [← es]
    have up:∀ {k:Nat} {c:Cell},s3[k]? = some c → s7[k]? = some c:=fun h => by rw [hs7,hs6,hs5,hs4]; exact old_at (old_at (old_at (old_at h _) _) _) _
    have u2:∀ {k:Nat} {c:Cell},s2[k]? = some c → s7[k]? = some c:=fun h => up (by rw [hs3]; exact old_at h _)
    have u1:∀ {k:Nat} {c:Cell},s1[k]? = some c → s7[k]? = some c:=fun h => u2 (by rw [hs2]; exact old_at h _)
    refine ⟨?_,all4 (u1 a1) (u2 a2) ?_ ?_,all4 l1 (by show st.length ≤ k2; omega) (by show st.length ≤ k3; omega) (by show st.length ≤ k5; omega),by omega,?_,all4 (by show k1 ≠ _; omega) (by show k2 ≠ _; omega) (by show k3 ≠ _; omega) (by show k5 ≠ _; omega)⟩
    · rw [hs7]; exact la_new s6 _
    · show s7[k3]? = some (.lst ((toldR r (gthr (chg (n * ·) D))).map tV))
      rw [due3 S]; exact up a3
    · show s7[k5]? = some (.lst ((toldR r (gthr [(zer many,n)])).map tV))
      rw [due4,hs7,hs6]; exact old_at (old_at a5 _) _
    · have o12:k1 < k2:=by omega
      have o23:k2 < k3:=by omega
      have o35:k3 < k5:=by omega
      refine all4 (P:=fun i => ∀ j,i < 4 → j < 4 → i ≠ j → of4 k1 k2 k3 k5 i ≠ of4 k1 k2 k3 k5 j) ?_ ?_ ?_ ?_ |> fun h i j hi hj ne => h i hi j hi hj ne
      all_goals
        intro j _ hj ne
        match j,hj with
        | 0,_ => first | exact absurd rfl ne | (show _ ≠ k1; intro z; simp only [of4] at z; omega)
        | 1,_ => first | exact absurd rfl ne | (show _ ≠ k2; intro z; simp only [of4] at z; omega)
        | 2,_ => first | exact absurd rfl ne | (show _ ≠ k3; intro z; simp only [of4] at z; omega)
        | 3,_ => first | exact absurd rfl ne | (show _ ≠ k5; intro z; simp only [of4] at z; omega)
  · rw [← es]
    obtain ⟨μ,hμ⟩:∃ μ:MN.Env,μ = [some (.int r),some (.loc p),some (.loc q),some (.int n),some (.int (many:Int)),none]:=⟨_,rfl⟩
    have w1:mCall PM.plus (mCons (mVar 0) (mCons (mVar 1) (mCons (mVar 2) mNil))) μ st = .ok (.loc k1) s1:=by
      rw [hμ,call_of (arg_c (v:=.int r) (s1:=st) rfl (arg2 (v:=.loc p) (s1:=st) rfl (w:=.loc q) (s2:=st) rfl)),e1]
    have w2:mCall PM.minus (mCons (mVar 0) (mCons (mVar 1) (mCons (mVar 2) mNil))) μ s1 = .ok (.loc k2) s2:=by
      rw [hμ,call_of (arg_c (v:=.int r) (s1:=s1) rfl (arg2 (v:=.loc p) (s1:=s1) rfl (w:=.loc q) (s2:=s1) rfl)),e2]
    have w3:mCall PM.scaled (mCons (mVar 0) (mCons (mVar 1) (mCons (mVar 3) mNil))) μ s2 = .ok (.loc k3) s3:=by
      rw [hμ,call_of (arg_c (v:=.int r) (s1:=s2) rfl (arg2 (v:=.loc p) (s1:=s2) rfl (w:=.int n) (s2:=s2) rfl)),e3]
    have x5:sSet 5 (mLst (mCons (mCall PM.plus (mCons (mVar 0) (mCons (mVar 1) (mCons (mVar 2) mNil)))) (mCons (mCall PM.minus (mCons (mVar 0) (mCons (mVar 1) (mCons (mVar 2) mNil)))) (mCons (mCall PM.scaled (mCons (mVar 0) (mCons (mVar 1) (mCons (mVar 3) mNil)))) mNil)))) μ st = .nx [some (.int r),some (.loc p),some (.loc q),some (.int n),some (.int (many:Int)),some (.loc s3.length)] s4:=by
      rw [set_of (lst_of (arg_c w1 (arg2 w2 w3)) (by show 3 ≤ 1000; decide)),hμ,hs4]; rfl
    obtain ⟨μ2,hμ2⟩:∃ μ2:MN.Env,μ2 = [some (.int r),some (.loc p),some (.loc q),some (.int n),some (.int (many:Int)),some (.loc s3.length)]:=⟨_,rfl⟩
    rw [← hμ2] at x5
    have w5:mCall PM.constant (mCons (mVar 0) (mCons (mVar 4) (mCons (mVar 3) mNil))) μ2 s4 = .ok (.loc k5) s5:=by
      rw [hμ2,call_of (arg_c (v:=.int r) (s1:=s4) rfl (arg2 (v:=.int (many:Int)) (s1:=s4) rfl (w:=.int n) (s2:=s4) rfl)),e5]
    have w6:mLst (mCons (mCall PM.constant (mCons (mVar 0) (mCons (mVar 4) (mCons (mVar 3) mNil)))) mNil) μ2 s4 = .ok (.loc s5.length) s6:=by
      rw [lst_of (arg1 w5) (by show 1 ≤ 1000; decide),hs6]
    have w7:mBin addV (mVar 5) (mLst (mCons (mCall PM.constant (mCons (mVar 0) (mCons (mVar 4) (mCons (mVar 3) mNil)))) mNil)) μ2 s4 = .ok (.loc s6.length) s7:=by
      rw [bin_of (x:=.loc s3.length) (s1:=s4) (by rw [hμ2]; rfl) w6]
      have c3:s6[s3.length]? = some (.lst [.loc k1,.loc k2,.loc k3]):=by rw [hs6,hs5,hs4]; exact old_at (old_at (la_new s3 _) _) _
      have c5:s6[s5.length]? = some (.lst [.loc k5]):=by rw [hs6]; exact la_new s5 _
      rw [add_ll c3 c5 (by rw [sizeLine_eq]; show 3 + 1 ≤ _; decide),hs7]; rfl
    unfold PM.law_told_v2
    rw [ev_fn (np:=5) (us:=[Val.int r,.loc p,.loc q,.int n,.int (many:Int)]) rfl]
    show (sSeq _ (sRet (mBin addV (mVar 5) (mLst (mCons (mCall PM.constant (mCons (mVar 0) (mCons (mVar 4) (mCons (mVar 3) mNil)))) mNil)))) [some (.int r),some (.loc p),some (.loc q),some (.int n),some (.int (many:Int)),none] st).fin = _
    rw [← hμ,ev_seq,x5,thn_nx,ev_ret,w7,sbn_ok]
    rfl
end
end PG
namespace PG
open PySem PySem.Spec L2 MN
open PyProof.Rows hiding St kindOf
noncomputable abbrev ngC (m:ME):ME:=mComp 1 [] (iSeq m) (aName 0) tTrueM (mTup (mCons (mBin ixV (mVar 0) (mC (.int 0))) (mCons (mNeg (mBin ixV (mVar 0) (mC (.int 1)))) mNil)))
theorem ngC_ok {μ:MN.Env} {m:ME} {s s1:Store} {p:Nat} {L:List Trm} (hm:m μ s = .ok (.loc p) s1) (h:itemsOf s1 p = some (L.map tV)) (hl:L.length ≤ 100000) :
    ngC m μ s = .ok (.loc s1.length) (s1 ++ [.lst ((chg (fun n => -n) L).map tV)]):=by
  refine comp_t (g:=fun n => -n) (fun τ => ∃ x,τ = [x]) hm h hl ⟨none,rfl⟩ ?_
  rintro t ht τ ⟨x,rfl⟩
  refine ⟨[some (tV t)],rfl,⟨_,rfl⟩,?_⟩
  have a0:mBin ixV (mVar 0) (mC (.int 0)) [some (tV t)] s1 = .ok (tupI t.1) s1:=rfl
  have a1:mNeg (mBin ixV (mVar 0) (mC (.int 1))) [some (tV t)] s1 = .ok (.int (-t.2)) s1:=rfl
  exact tup_of (arg2 a0 a1) (by show 2 ≤ 1000; decide)
noncomputable abbrev mlC (m:ME):ME:=mComp 1 [3] (iSeq m) (aName 0) tTrueM (mTup (mCons (mBin ixV (mVar 0) (mC (.int 0))) (mCons (mBin mulV (mVar 1) (mBin ixV (mVar 0) (mC (.int 1)))) mNil)))
theorem mlC_ok {μ:MN.Env} {m:ME} {n:Int} {s s1:Store} {p:Nat} {L:List Trm} (hm:m μ s = .ok (.loc p) s1) (h:itemsOf s1 p = some (L.map tV)) (hl:L.length ≤ 100000) (hc:capM 1 [3] μ = [none,some (.int n)]) (hmu:∀ t ∈ L,MulOk n t.2) :
    mlC m μ s = .ok (.loc s1.length) (s1 ++ [.lst ((chg (n * ·) L).map tV)]):=by
  refine comp_t (g:=(n * ·)) (fun τ => ∃ x,τ = [x,some (.int n)]) hm h hl ⟨none,hc⟩ ?_
  rintro t ht τ ⟨x,rfl⟩
  refine ⟨[some (tV t),some (.int n)],rfl,⟨_,rfl⟩,?_⟩
  have a0:mBin ixV (mVar 0) (mC (.int 0)) [some (tV t),some (.int n)] s1 = .ok (tupI t.1) s1:=rfl
  have a1:mBin mulV (mVar 1) (mBin ixV (mVar 0) (mC (.int 1))) [some (tV t),some (.int n)] s1 = .ok (.int (n * t.2)) s1:=mul_ok (hmu t ht)
  exact tup_of (arg2 a0 a1) (by show 2 ≤ 1000; decide)
section
variable {r n C:Int} {p q many:Nat} {D P:List Trm} {st:Store}
theorem ga_ok {μ:MN.Env} {a m:ME} {s s1:Store} {k:Nat} {L:List Trm} (ha:a μ s = .ok (.int r) s) (hm:m μ s = .ok (.loc k) s1) (h:itemsOf s1 k = some (L.map tV)) (hl:L.length < 100000) (ne:∀ t ∈ L,t.1 ≠ []) :
    ∃ c1 c3,mCall PM.law_gathered (mCons a (mCons m mNil)) μ s = .ok (.loc (s1.length + 1)) (s1 ++ [c1,.lst ((toldR r (gthr L)).map tV),c3]) ∧ (s1 ++ [c1,.lst ((toldR r (gthr L)).map tV),c3])[s1.length + 1]? = some (.lst ((toldR r (gthr L)).map tV)):=by
  obtain ⟨c1,c3,e⟩:=law_gathered_ok (r:=r) h hl ne
  refine ⟨c1,c3,?_,?_⟩
  · rw [call_of (arg2 ha hm),e]
  · rw [List.getElem?_append_right (by omega),show s1.length + 1 - s1.length = 1 by omega]; rfl
theorem due4_ok (hp:st[p]? = some (.lst (D.map tV))) (hq:st[q]? = some (.lst (P.map tV))) (h1:1 ≤ many) (hm:many ≤ 4) (hD:∀ t ∈ D,t.1.length = many) (hP:∀ t ∈ P,t.1.length = many) (hl:D.length + P.length < 100000) (hmu:∀ t ∈ D,MulOk n t.2) :
    ∃ g F f,PM.law_due_v2 [.int r,.loc p,.loc q,.int n,.int (many:Int)] st = .ok (.loc F) (st ++ g) ∧ Four (st ++ g) st.length F f (dues r D P n many):=by
  have nD:∀ t ∈ D,t.1 ≠ []:=fun t ht => ne_len h1 (hD t ht)
  have nP:∀ t ∈ P,t.1 ≠ []:=fun t ht => ne_len h1 (hP t ht)
  have nC:∀ (g:Int → Int) (L:List Trm),(∀ t ∈ L,t.1 ≠ []) → ∀ t ∈ chg g L,t.1 ≠ []:=fun g L h t ht => by
    obtain ⟨u,hu,rfl⟩:=List.mem_map.mp ht
    exact h u hu
  have nA:∀ (L M:List Trm),(∀ t ∈ L,t.1 ≠ []) → (∀ t ∈ M,t.1 ≠ []) → ∀ t ∈ L ++ M,t.1 ≠ []:=fun L M a b t ht => (List.mem_append.mp ht).elim (a t) (b t)
  obtain ⟨μ,hμ⟩:∃ μ:MN.Env,μ = [some (.int r),some (.loc p),some (.loc q),some (.int n),some (.int (many:Int)),none]:=⟨_,rfl⟩
  have v0:∀ s,mVar 0 μ s = .ok (.int r) s:=fun s => by rw [hμ]; rfl
  have v1:∀ s,mVar 1 μ s = .ok (.loc p) s:=fun s => by rw [hμ]; rfl
  have v2:∀ s,mVar 2 μ s = .ok (.loc q) s:=fun s => by rw [hμ]; rfl
  -- the sum
  obtain ⟨s1,hs1⟩:∃ s1,s1 = st ++ [Cell.lst ((D ++ P).map tV)]:=⟨_,rfl⟩
  have w1:mBin addV (mVar 1) (mVar 2) μ st = .ok (.loc st.length) s1:=by
    rw [bin_of (v1 st) (v2 st),add_ll hp hq (by rw [List.length_map,List.length_map,sizeLine_eq]; omega),hs1,List.map_append]
  obtain ⟨c1,c2,e1,a1⟩:=ga_ok (L:=D ++ P) (v0 st) w1 (by rw [hs1]; exact itemsOf_new st _) (by rw [List.length_append]; exact hl) (nA _ _ nD nP)
  obtain ⟨s2,hs2⟩:∃ s2,s2 = s1 ++ [c1,Cell.lst ((toldR r (gthr (D ++ P))).map tV),c2]:=⟨_,rfl⟩
  rw [← hs2] at e1 a1
  -- the difference
  have p2:s2[p]? = some (.lst (D.map tV)):=by rw [hs2,hs1]; exact old_at (old_at hp _) _
  have q2:s2[q]? = some (.lst (P.map tV)):=by rw [hs2,hs1]; exact old_at (old_at hq _) _
  have w2:=ngC_ok (L:=P) (v2 s2) (it_of q2) (by omega)
  obtain ⟨s3,hs3⟩:∃ s3,s3 = s2 ++ [Cell.lst ((chg (fun n => -n) P).map tV)]:=⟨_,rfl⟩
  rw [← hs3] at w2
  obtain ⟨s4,hs4⟩:∃ s4,s4 = s3 ++ [Cell.lst ((D ++ chg (fun n => -n) P).map tV)]:=⟨_,rfl⟩
  have w3:mBin addV (mVar 1) (ngC (mVar 2)) μ s2 = .ok (.loc s3.length) s4:=by
    have p3:s3[p]? = some (.lst (D.map tV)):=by rw [hs3]; exact old_at p2 _
    have q3:s3[s2.length]? = some (.lst ((chg (fun n => -n) P).map tV)):=by rw [hs3]; exact la_new s2 _
    rw [bin_of (v1 s2) w2,add_ll p3 q3 (by rw [List.length_map,List.length_map,chg_len,sizeLine_eq]; omega),hs4,List.map_append]
  obtain ⟨c3,c4,e2,a2⟩:=ga_ok (L:=D ++ chg (fun n => -n) P) (v0 s2) w3 (by rw [hs4]; exact itemsOf_new s3 _) (by rw [List.length_append,chg_len]; exact hl) (nA _ _ nD (nC _ _ nP))
  obtain ⟨s5,hs5⟩:∃ s5,s5 = s4 ++ [c3,Cell.lst ((toldR r (gthr (D ++ chg (fun n => -n) P))).map tV),c4]:=⟨_,rfl⟩
  rw [← hs5] at e2 a2
  obtain ⟨k1,hk1⟩:∃ k1,k1 = s1.length + 1:=⟨_,rfl⟩
  obtain ⟨k2,hk2⟩:∃ k2,k2 = s4.length + 1:=⟨_,rfl⟩
  rw [← hk1] at e1 a1
  rw [← hk2] at e2 a2
  obtain ⟨s6,hs6⟩:∃ s6,s6 = s5 ++ [Cell.lst [.loc k1,.loc k2]]:=⟨_,rfl⟩
  obtain ⟨μ2,hμ2⟩:∃ μ2:MN.Env,μ2 = [some (.int r),some (.loc p),some (.loc q),some (.int n),some (.int (many:Int)),some (.loc s5.length)]:=⟨_,rfl⟩
  have x5:sSet 5 (mLst (mCons (mCall PM.law_gathered (mCons (mVar 0) (mCons (mBin addV (mVar 1) (mVar 2)) mNil))) (mCons (mCall PM.law_gathered (mCons (mVar 0) (mCons (mBin addV (mVar 1) (ngC (mVar 2))) mNil))) mNil))) μ st = .nx μ2 s6:=by
    rw [set_of (lst_of (arg2 e1 e2) (by show 2 ≤ 1000; decide)),hμ,hμ2,hs6]; rfl
  have u0:∀ s,mVar 0 μ2 s = .ok (.int r) s:=fun s => by rw [hμ2]; rfl
  have u1:∀ s,mVar 1 μ2 s = .ok (.loc p) s:=fun s => by rw [hμ2]; rfl
  have u5:∀ s,mVar 5 μ2 s = .ok (.loc s5.length) s:=fun s => by rw [hμ2]; rfl
  have c6:s6[s5.length]? = some (.lst [.loc k1,.loc k2]):=by rw [hs6]; exact la_new s5 _
  -- so many times
  have p6:s6[p]? = some (.lst (D.map tV)):=by rw [hs6,hs5,hs4,hs3]; exact old_at (old_at (old_at (old_at p2 _) _) _) _
  have w4:=mlC_ok (n:=n) (L:=D) (u1 s6) (it_of p6) (by omega) (by rw [hμ2]; rfl) hmu
  obtain ⟨s7,hs7⟩:∃ s7,s7 = s6 ++ [Cell.lst ((chg (n * ·) D).map tV)]:=⟨_,rfl⟩
  rw [← hs7] at w4
  obtain ⟨c5,c7,e3,a3⟩:=ga_ok (L:=chg (n * ·) D) (u0 s6) w4 (by rw [hs7]; exact itemsOf_new s6 _) (by rw [chg_len]; omega) (nC _ _ nD)
  obtain ⟨s8,hs8⟩:∃ s8,s8 = s7 ++ [c5,Cell.lst ((toldR r (gthr (chg (n * ·) D))).map tV),c7]:=⟨_,rfl⟩
  rw [← hs8] at e3 a3
  obtain ⟨k3,hk3⟩:∃ k3,k3 = s7.length + 1:=⟨_,rfl⟩
  rw [← hk3] at e3 a3
  have c8:s8[s5.length]? = some (.lst [.loc k1,.loc k2]):=by rw [hs8,hs7]; exact old_at (old_at c6 _) _
  have y1:=app_of (o:=mVar 5) (v:=.loc k3) (u5 s6) c6 (arg1 e3) c8 (by show 2 ≤ 1000; decide)
  obtain ⟨s9,hs9⟩:∃ s9,s9 = s8.set s5.length (.lst ([.loc k1,.loc k2] ++ [.loc k3])):=⟨_,rfl⟩
  rw [← hs9] at y1
  have l5:s5.length < s8.length:=lt_of_at c8
  have c9:s9[s5.length]? = some (.lst [.loc k1,.loc k2,.loc k3]):=by rw [hs9,List.getElem?_set_self l5]; rfl
  have keep9:∀ {k:Nat},k ≠ s5.length → s9[k]? = s8[k]?:=fun h => by rw [hs9]; exact List.getElem?_set_ne (Ne.symm h)
  -- the number alone
  obtain ⟨s10,hs10⟩:∃ s10,s10 = s9 ++ [Cell.lst [.int 0]] ++ [Cell.lst ((zer many).map Val.int)]:=⟨_,rfl⟩
  have w5:mCall tupF (mCons (mBin mulV (mLst (mCons (mC (.int 0)) mNil)) (mVar 4)) mNil) μ2 s9 = .ok (tupI (zer many)) s10:=by
    have l:mLst (mCons (mC (.int 0)) mNil) μ2 s9 = .ok (.loc s9.length) (s9 ++ [.lst [.int 0]]):=lst_of (vs:=[.int 0]) rfl (by show 1 ≤ 1000; decide)
    have mu:=mul_li (k:=(many:Int)) (la_new s9 [.int 0]) (by omega) (by omega) (by rw [sizeLine_eq]; show 1 * _ ≤ _; omega)
    have b:=bin_of (f:=mulV) l (y:=.int (many:Int)) (s2:=s9 ++ [.lst [.int 0]]) (b:=mVar 4) (by rw [hμ2]; rfl)
    rw [mu,Int.toNat_natCast,reps_zer] at b
    rw [call_of (arg1 b),tup_loc (itemsOf_new _ _),hs10]
    rfl
  obtain ⟨s11,hs11⟩:∃ s11,s11 = s10 ++ [Cell.lst ([(zer many,n)].map tV)]:=⟨_,rfl⟩
  have w6:mLst (mCons (mTup (mCons (mCall tupF (mCons (mBin mulV (mLst (mCons (mC (.int 0)) mNil)) (mVar 4)) mNil)) (mCons (mVar 3) mNil))) mNil) μ2 s9 = .ok (.loc s10.length) s11:=by
    rw [lst_of (arg1 (tup_of (arg2 w5 (w:=.int n) (s2:=s10) (by rw [hμ2]; rfl)) (by show 2 ≤ 1000; decide))) (by show 1 ≤ 1000; decide),hs11]; rfl
  obtain ⟨c10,c11,e4,a4⟩:=ga_ok (L:=[(zer many,n)]) (u0 s9) w6 (by rw [hs11]; exact itemsOf_new s10 _) (by show 1 < 100000; decide) (fun t ht => by
    rw [List.mem_singleton.mp ht]
    exact ne_len h1 (by unfold zer; rw [List.length_replicate]))
  obtain ⟨s12,hs12⟩:∃ s12,s12 = s11 ++ [c10,Cell.lst ((toldR r (gthr [(zer many,n)])).map tV),c11]:=⟨_,rfl⟩
  rw [← hs12] at e4 a4
  obtain ⟨k4,hk4⟩:∃ k4,k4 = s11.length + 1:=⟨_,rfl⟩
  rw [← hk4] at e4 a4
  have up9:∀ {k:Nat} {c:Cell},s9[k]? = some c → s12[k]? = some c:=fun h => by rw [hs12,hs11,hs10]; exact old_at (old_at (old_at (old_at h _) _) _) _
  have y2:=app_of (o:=mVar 5) (v:=.loc k4) (u5 s9) c9 (arg1 e4) (up9 c9) (by show 3 ≤ 1000; decide)
  obtain ⟨s13,hs13⟩:∃ s13,s13 = s12.set s5.length (.lst ([.loc k1,.loc k2,.loc k3] ++ [.loc k4])):=⟨_,rfl⟩
  rw [← hs13] at y2
  have keep13:∀ {k:Nat},k ≠ s5.length → s13[k]? = s12[k]?:=fun h => by rw [hs13]; exact List.getElem?_set_ne (Ne.symm h)
  have c13:s13[s5.length]? = some (.lst [.loc k1,.loc k2,.loc k3,.loc k4]):=by rw [hs13,List.getElem?_set_self (lt_of_at (up9 c9))]; rfl
  have L1:s1.length = st.length + 1:=by rw [hs1,List.length_append]; rfl
  have L2:s2.length = s1.length + 3:=by rw [hs2,List.length_append]; rfl
  have L3:s3.length = s2.length + 1:=by rw [hs3,List.length_append]; rfl
  have L4:s4.length = s3.length + 1:=by rw [hs4,List.length_append]; rfl
  have L5:s5.length = s4.length + 3:=by rw [hs5,List.length_append]; rfl
  have L6:s6.length = s5.length + 1:=by rw [hs6,List.length_append]; rfl
  have L7:s7.length = s6.length + 1:=by rw [hs7,List.length_append]; rfl
  have L8:s8.length = s7.length + 3:=by rw [hs8,List.length_append]; rfl
  have L9:s9.length = s8.length:=by rw [hs9,List.length_set]
  have L10:s10.length = s9.length + 2:=by rw [hs10,List.length_append,List.length_append]; rfl
  have L11:s11.length = s10.length + 1:=by rw [hs11,List.length_append]; rfl
  obtain ⟨g,hg⟩:∃ g,s13 = st ++ g:=by
    have h8:s8 = s5 ++ ([Cell.lst [.loc k1,.loc k2]] ++ [Cell.lst ((chg (n * ·) D).map tV)] ++ [c5,Cell.lst ((toldR r (gthr (chg (n * ·) D))).map tV),c7]):=by
      rw [hs8,hs7,hs6]; simp only [List.append_assoc]
    have h9:∃ y,s9 = s5 ++ y:=⟨_,by rw [hs9,h8,List.set_append_right _ _ (Nat.le_refl _)]⟩
    obtain ⟨y,hy⟩:=h9
    have h12:s12 = s5 ++ (y ++ ([Cell.lst [.int 0]] ++ [Cell.lst ((zer many).map Val.int)] ++ [Cell.lst ([(zer many,n)].map tV)] ++ [c10,Cell.lst ((toldR r (gthr [(zer many,n)])).map tV),c11])):=by
      rw [hs12,hs11,hs10,hy]; simp only [List.append_assoc]
    have h13:∃ y,s13 = s5 ++ y:=⟨_,by rw [hs13,h12,List.set_append_right _ _ (Nat.le_refl _)]⟩
    obtain ⟨z,hz⟩:=h13
    refine ⟨[Cell.lst ((D ++ P).map tV)] ++ [c1,Cell.lst ((toldR r (gthr (D ++ P))).map tV),c2] ++ [Cell.lst ((chg (fun n => -n) P).map tV)] ++ [Cell.lst ((D ++ chg (fun n => -n) P).map tV)] ++ [c3,Cell.lst ((toldR r (gthr (D ++ chg (fun n => -n) P))).map tV),c4] ++ z,?_⟩
    rw [hz,hs5,hs4,hs3,hs2,hs1]; simp only [List.append_assoc]
  refine ⟨g,s5.length,of4 k1 k2 k3 k4,?_,?_⟩
  · unfold PM.law_due_v2
    rw [ev_fn (np:=5) (us:=[Val.int r,.loc p,.loc q,.int n,.int (many:Int)]) rfl]
    show (sSeq _ (sSeq _ (sSeq _ (sRet (mVar 5)))) [some (.int r),some (.loc p),some (.loc q),some (.int n),some (.int (many:Int)),none] st).fin = _
    rw [← hμ,ev_seq,x5,thn_nx,ev_seq,y1,thn_nx,ev_seq,y2,thn_nx,ev_ret,u5,sbn_ok,hg]
    rfl
  · rw [← hg]
    have up5:∀ {k:Nat} {c:Cell},s5[k]? = some c → s13[k]? = some c:=fun {k c} h => by
      have:=lt_of_at h
      rw [keep13 (by omega)]
      refine up9 ?_
      rw [keep9 (by omega),hs8,hs7,hs6]
      exact old_at (old_at (old_at h _) _) _
    refine ⟨c13,all4 (up5 ?_) (up5 a2) ?_ ?_,all4 (by show st.length ≤ k1; omega) (by show st.length ≤ k2; omega) (by show st.length ≤ k3; omega) (by show st.length ≤ k4; omega),by omega,?_,all4 (by show k1 ≠ _; omega) (by show k2 ≠ _; omega) (by show k3 ≠ _; omega) (by show k4 ≠ _; omega)⟩
    · rw [hs5,hs4,hs3]; exact old_at (old_at (old_at a1 _) _) _
    · show s13[k3]? = some (.lst ((toldR r (gthr (chg (n * ·) D))).map tV))
      rw [keep13 (by omega)]
      refine up9 ?_
      rw [keep9 (by omega)]; exact a3
    · show s13[k4]? = some (.lst ((toldR r (gthr [(zer many,n)])).map tV))
      rw [keep13 (by omega)]; exact a4
    · refine all4 (P:=fun i => ∀ j,i < 4 → j < 4 → i ≠ j → of4 k1 k2 k3 k4 i ≠ of4 k1 k2 k3 k4 j) ?_ ?_ ?_ ?_ |> fun h i j hi hj ne => h i hi j hi hj ne
      all_goals
        intro j _ hj ne
        match j,hj with
        | 0,_ => first | exact absurd rfl ne | (show _ ≠ k1; intro z; simp only [of4] at z; omega)
        | 1,_ => first | exact absurd rfl ne | (show _ ≠ k2; intro z; simp only [of4] at z; omega)
        | 2,_ => first | exact absurd rfl ne | (show _ ≠ k3; intro z; simp only [of4] at z; omega)
        | 3,_ => first | exact absurd rfl ne | (show _ ≠ k4; intro z; simp only [of4] at z; omega)
end
end PG
namespace PG
open PySem PySem.Spec L2 MN
open PyProof.Rows hiding St kindOf
theorem same2:PM.law_same_v2 = PM.law_same:=rfl
theorem told_keys {r:Int} {many:Nat} {L:List Trm} (h:∀ t ∈ L,t.1.length = many):∀ t ∈ toldR r (gthr L),t.1.length = many:=fun t ht => by
  obtain ⟨q,hq,e1,_⟩:=told_mem ht
  obtain ⟨w,hw,e⟩:=List.mem_map.mp ((gthr_all L).2.2 q hq)
  rw [e1,← e]; exact h w hw
theorem told_few (r:Int) (L:List Trm):(toldR r (gthr L)).length ≤ L.length:=Nat.le_trans (told_len r _) (gthr_all L).2.1
section
variable {r n C:Int} {p q many:Nat} {D P:List Trm}
theorem dues_ok (hD:∀ t ∈ D,t.1.length = many) (hP:∀ t ∈ P,t.1.length = many) (hl:D.length + P.length ≤ 500):∀ j,j < 4 → (dues r D P n many j).length ≤ 500 ∧ ∀ t ∈ dues r D P n many j,t.1.length = many:=by
  have ch:∀ (g:Int → Int) (L:List Trm),(∀ t ∈ L,t.1.length = many) → ∀ t ∈ chg g L,t.1.length = many:=fun g L h t ht => by
    obtain ⟨u,hu,rfl⟩:=List.mem_map.mp ht
    exact h u hu
  have ap:∀ (L M:List Trm),(∀ t ∈ L,t.1.length = many) → (∀ t ∈ M,t.1.length = many) → ∀ t ∈ L ++ M,t.1.length = many:=fun L M a b t ht => (List.mem_append.mp ht).elim (a t) (b t)
  refine all4 ⟨Nat.le_trans (told_few r _) (by rw [List.length_append]; exact hl),told_keys (ap _ _ hD hP)⟩ ⟨Nat.le_trans (told_few r _) (by rw [List.length_append,chg_len]; exact hl),told_keys (ap _ _ hD (ch _ _ hP))⟩
    ⟨Nat.le_trans (told_few r _) (by rw [chg_len]; omega),told_keys (ch _ _ hD)⟩ ⟨Nat.le_trans (told_few r _) (by show 1 ≤ 500; decide),told_keys fun t ht => ?_⟩
  rw [List.mem_singleton.mp ht]
  unfold zer
  rw [List.length_replicate]
theorem ix4 {s:Store} {B F:Nat} {f:Nat → Nat} (h:s[F]? = some (.lst [.loc (f 0),.loc (f 1),.loc (f 2),.loc (f 3)])) {j:Nat} (hj:j < 4):ixV (.loc F) (.int (0 + (j:Int))) s = .ok (.loc (f j)) s:=by
  rw [Int.zero_add]
  refine ix_loc (it_of h) (L2.atI_nat ?_)
  match j,hj with
  | 0,_ => rfl
  | 1,_ => rfl
  | 2,_ => rfl
  | 3,_ => rfl
noncomputable abbrev l6S:ME:=mCall PM.law_same_v2 (mCons (mBin ixV (mVar 13) (mVar 14)) (mCons (mBin ixV (mVar 11) (mVar 14)) mNil))
noncomputable abbrev l6I:MB:=sSeq (sIf (tNotM (asT l6S)) (sRet (mC (.bl false))) sNext) (sExpr (mMtL appendF (mBin ixV (mVar 13) (mVar 14)) (mCons (mC (.int 7)) mNil)))
end
end PG
namespace PG
open PySem PySem.Spec L2 MN
open PyProof.Rows hiding St kindOf
theorem compL_inv {a:AS} {e:ME} (I:Nat → MN.Env → Store → List Val → Prop):∀ (us:List Val) (k:Nat) (τ:MN.Env) (st:Store) (ys:List Val),
    (∀ (i:Nat) (u:Val) (τ:MN.Env) (st:Store) (ys:List Val),us[i]? = some u → I (k + i) τ st ys → ∃ τ1,a u τ = some τ1 ∧ ∃ y st2,e τ1 st = .ok y st2 ∧ I (k + i + 1) τ1 st2 (ys ++ [y])) → I k τ st ys →
    ∃ τ' ys' st',compL (fun _ => True) a tTrueM e us τ st ys = .ok ys' st' ∧ I (k + us.length) τ' st' ys'
  | [],k,τ,st,ys,_,h => ⟨τ,ys,st,by unfold compL; rw [if_pos trivial],h⟩
  | u :: us,k,τ,st,ys,hs,h => by
    obtain ⟨τ1,h1,y,st2,h2,h3⟩:=hs 0 u τ st ys rfl h
    obtain ⟨τ',ys',st',e',h'⟩:=compL_inv (a:=a) (e:=e) I us (k + 1) τ1 st2 (ys ++ [y]) (fun i u τ st ys hu hI => by
      have:=hs (i + 1) u τ st ys hu
      rw [show k + (i + 1) = k + 1 + i by omega] at this
      exact this hI) h3
    refine ⟨τ',ys',st',?_,by rw [List.length_cons,show k + (us.length + 1) = k + 1 + us.length by omega]; exact h'⟩
    unfold compL
    rw [if_pos trivial,h1]
    show (match e τ1 st with
      | .ok y st2 => compL (fun _ => True) a tTrueM e us τ1 st2 (ys ++ [y])
      | .err _ _ => .bad
      | .bad => .bad) = _
    rw [h2]
    exact e'
noncomputable abbrev mxE:ME:=mTup (mCons (mCall PM.law_exponents (mCons (mBin addV (mBin fdivV (mVar 2) (mC (.int 7))) (mBin mulV (mC (.int 37)) (mVar 0))) (mCons (mVar 1) mNil))) (mCons (mCall PM.law_number (mCons (mBin addV (mVar 2) (mBin mulV (mC (.int 5)) (mVar 0))) mNil)) mNil))
theorem mx_step {i:Int} {many:Nat} {mix:Int} (i0:0 ≤ i) (m0:0 ≤ mix) (hm:many ≤ 4) (s:Store):∃ g t,mxE [some (.int i),some (.int (many:Int)),some (.int mix)] s = .ok (tV t) (s ++ g) ∧ Good many t ∧ Big 134 t.2:=by
  obtain ⟨μ,hμ⟩:∃ μ:MN.Env,μ = [some (.int i),some (.int (many:Int)),some (.int mix)]:=⟨_,rfl⟩
  obtain ⟨g,es,ee,le,re⟩:=law_exponents_ok (mix.fdiv 7 + 37 * i) hm s
  have a1:mBin addV (mBin fdivV (mVar 2) (mC (.int 7))) (mBin mulV (mC (.int 37)) (mVar 0)) μ s = .ok (.int (mix.fdiv 7 + 37 * i)) s:=by
    have d:mBin fdivV (mVar 2) (mC (.int 7)) μ s = .ok (.int (mix.fdiv 7)) s:=div_of (by rw [hμ]; rfl) (dz_c (by decide) (by decide))
    have m:mBin mulV (mC (.int 37)) (mVar 0) μ s = .ok (.int (37 * i)) s:=by
      rw [hμ]; exact mul_l (i:=37) (by decide) (by decide)
    rw [bin_of d m]; rfl
  have e1:mCall PM.law_exponents (mCons (mBin addV (mBin fdivV (mVar 2) (mC (.int 7))) (mBin mulV (mC (.int 37)) (mVar 0))) (mCons (mVar 1) mNil)) μ s = .ok (tupI es) (s ++ g):=by
    rw [call_of (arg2 a1 (w:=.int (many:Int)) (s2:=s) (by rw [hμ]; rfl)),ee]
  obtain ⟨r,hr,br⟩:=number_i (c:=mix + 5 * i) (by omega) (s ++ g)
  have a2:mBin addV (mVar 2) (mBin mulV (mC (.int 5)) (mVar 0)) μ (s ++ g) = .ok (.int (mix + 5 * i)) (s ++ g):=by
    have m:mBin mulV (mC (.int 5)) (mVar 0) μ (s ++ g) = .ok (.int (5 * i)) (s ++ g):=by
      rw [hμ]; exact mul_l (i:=5) (by decide) (by decide)
    rw [bin_of (x:=.int mix) (s1:=s ++ g) (by rw [hμ]; rfl) m]; rfl
  have e2:mCall PM.law_number (mCons (mBin addV (mVar 2) (mBin mulV (mC (.int 5)) (mVar 0))) mNil) μ (s ++ g) = .ok (.int r) (s ++ g):=by
    rw [call_of (arg1 a2),hr]
  refine ⟨g,(es,r),?_,⟨le,re⟩,br⟩
  rw [← hμ]
  exact tup_of (arg2 e1 e2) (by show 2 ≤ 1000; decide)
theorem mx_ok {μ:MN.Env} {m:ME} {many size:Nat} {mix:Int} {s:Store} (hm:m μ s = .ok (.int (size:Int)) s) (hz:size ≤ 60) (hc:capM 1 [4,7] μ = [none,some (.int (many:Int)),some (.int mix)]) (m0:0 ≤ mix) (h4:many ≤ 4) :
    ∃ (g:Store) (k:Nat) (P:List Trm),mComp 1 [4,7] (iRange1 (mCons m mNil)) (aName 0) tTrueM mxE μ s = .ok (.loc k) (s ++ g) ∧ (s ++ g)[k]? = some (.lst (P.map tV)) ∧ P.length = size ∧ ∀ t ∈ P,Good many t ∧ Big 134 t.2:=by
  obtain ⟨τ',ys',st',e,⟨P,rfl,lP,hP⟩,⟨g,rfl⟩,x,rfl⟩:=compL_inv (a:=aName 0) (e:=mxE)
    (fun i τ st ys => (∃ P:List Trm,ys = P.map tV ∧ P.length = i ∧ ∀ t ∈ P,Good many t ∧ Big 134 t.2) ∧ (∃ g,st = s ++ g) ∧ ∃ x,τ = [x,some (.int (many:Int)),some (.int mix)])
    (rangeL 0 (size:Int).toNat) 0 [none,some (.int (many:Int)),some (.int mix)] s []
    (by
      rintro i u τ st ys hu ⟨⟨P,rfl,lP,hP⟩,⟨g,rfl⟩,x,rfl⟩
      have hu':=hu
      unfold rangeL at hu'
      rw [List.getElem?_map] at hu'
      have hi:i < (size:Int).toNat:=by
        rcases Nat.lt_or_ge i (size:Int).toNat with q | q
        · exact q
        · rw [List.getElem?_eq_none (by rw [List.length_range]; exact q)] at hu'; cases hu'
      rw [List.getElem?_eq_getElem (by rw [List.length_range]; exact hi),List.getElem_range] at hu'
      cases hu'
      obtain ⟨g2,t,et,gt,bt⟩:=mx_step (i:=0 + (i:Int)) (by omega) m0 h4 (s ++ g)
      refine ⟨_,rfl,tV t,s ++ (g ++ g2),by rw [← List.append_assoc]; exact et,⟨P ++ [t],by rw [List.map_append]; rfl,by rw [List.length_append,lP]; rfl,fun y hy => ?_⟩,⟨_,rfl⟩,_,rfl⟩
      rcases List.mem_append.mp hy with hy | hy
      · exact hP y hy
      · rw [List.mem_singleton.mp hy]; exact ⟨gt,bt⟩)
    ⟨⟨[],rfl,rfl,fun _ h => (by cases h)⟩,⟨[],(List.append_nil s).symm⟩,none,rfl⟩
  have lr:(rangeL 0 (size:Int).toNat).length = size:=by unfold rangeL; rw [List.length_map,List.length_range]; omega
  rw [lr,Nat.zero_add] at lP
  refine ⟨g ++ [.lst (P.map tV)],(s ++ g).length,P,?_,by rw [← List.append_assoc]; exact la_new _ _,lP,hP⟩
  rw [ev_comp,rng_of (arg1 hm) (by omega) (by omega),bnd_ok,k_comp,if_pos (by rw [lr,sizeLine_eq]; omega),hc,e,bnd_ok,k_new,List.append_assoc]
theorem cut_dn (us:List Val) (k:Nat):cutL us (some (k:Int)) none = us.drop k:=by
  rcases Nat.le_total k us.length with h | h
  · exact cut_drop h
  · unfold cutL
    rw [HT.sIx_none,HT.sIx_nat,Nat.min_eq_right h,Nat.sub_self,List.take_zero,List.drop_eq_nil_of_le h]
theorem Sms.mono {many:Nat} {D:List Trm} {C C':Int} (h:Sms many D C) (hc:C ≤ C'):Sms many D C':=⟨h.fall,h.len,fun t ht => by have:=h.big t ht; omega⟩
theorem big_rg {k:Nat} {i:Int} (h:Big k i):-((2:Int) ^ k) ≤ i ∧ i ≤ (2:Int) ^ k:=by
  have h':i.natAbs < 2 ^ k:=h
  have:((2 ^ k:Nat):Int) = (2:Int) ^ k:=by simp
  omega
theorem big_of {k:Nat} {i:Int} (h:-((2:Int) ^ k) ≤ i ∧ i ≤ (2:Int) ^ k):Big (k + 1) i:=by
  show i.natAbs < 2 ^ (k + 1)
  have:((2 ^ k:Nat):Int) = (2:Int) ^ k:=by simp
  have h2:2 ^ (k + 1) = 2 ^ k * 2:=Nat.pow_succ ..
  have h3:0 < 2 ^ k:=Nat.two_pow_pos k
  omega
end PG
namespace K06
open PySem PySem.Spec L2 MN
open PyProof.Rows hiding St
end K06
namespace K06
open PySem PySem.Spec L2 MN PG
open PyProof.Rows hiding St kindOf
noncomputable abbrev EV (x0:Option Val) (r:Int) (x2 x3:Option Val) (many p q:Nat) (x7 x8:Option Val) (n:Int) (y10 y11 y12 y13 y14:Option Val):MN.Env:=[x0,some (.int r),x2,x3,some (.int (many:Int)),some (.loc p),some (.loc q),x7,x8,some (.int n),y10,y11,y12,y13,y14]
section
variable {r n C:Int} {p q many h0 h1 hh F B:Nat} {f:Nat → Nat} {D P:List Trm} {b:Store} {x0 x2 x3 x7 x8:Option Val}
theorem inner_ok (du:Four b B F f (dues r D P n many)) (hd:∀ j,j < 4 → (dues r D P n many j).length ≤ 500 ∧ ∀ t ∈ dues r D P n many j,t.1.length = many) (hm:many ≤ 4) {F2 B2:Nat} {f2:Nat → Nat} {X:Store} {y10 y12 y14:Option Val} (hB:b.length ≤ B2) (fo:Four (b ++ X) B2 F2 f2 (dues r D P n many)) :
    ∃ y X',forL (fun _ => True) (aName 14) l6I (rangeL 0 4) (EV x0 r x2 x3 many p q x7 x8 n y10 (some (.loc F)) y12 (some (.loc F2)) y14) (b ++ X) = .nx (EV x0 r x2 x3 many p q x7 x8 n y10 (some (.loc F)) y12 (some (.loc F2)) y) (b ++ X'):=by
  obtain ⟨μ',st',e,⟨X',rfl,_⟩,y,rfl⟩:=forL_inv (g:=fun _ => True) (a:=aName 14) (body:=l6I)
    (fun i μ s' => (∃ X',s' = b ++ X' ∧ s'[F2]? = some (.lst [.loc (f2 0),.loc (f2 1),.loc (f2 2),.loc (f2 3)]) ∧ ∀ j,i ≤ j → j < 4 → s'[f2 j]? = some (.lst ((dues r D P n many j).map tV))) ∧ ∃ y,μ = EV x0 r x2 x3 many p q x7 x8 n y10 (some (.loc F)) y12 (some (.loc F2)) y)
    (rangeL 0 4) 0 (EV x0 r x2 x3 many p q x7 x8 n y10 (some (.loc F)) y12 (some (.loc F2)) y14) (b ++ X)
    (by
      rintro i u μ s' hu ⟨⟨X',rfl,hF,hj⟩,y,rfl⟩
      rw [Nat.zero_add] at hj ⊢
      refine ⟨trivial,?_⟩
      have hu':=hu
      unfold rangeL at hu'
      rw [List.getElem?_map] at hu'
      have hi:i < 4:=by
        rcases Nat.lt_or_ge i 4 with z | z
        · exact z
        · rw [List.getElem?_eq_none (by rw [List.length_range]; exact z)] at hu'; cases hu'
      rw [List.getElem?_eq_getElem (by rw [List.length_range]; exact hi),List.getElem_range] at hu'
      cases hu'
      obtain ⟨μ,hμ⟩:∃ μ,μ = EV x0 r x2 x3 many p q x7 x8 n y10 (some (.loc F)) y12 (some (.loc F2)) (some (.int (0 + (i:Int)))):=⟨_,rfl⟩
      have di:=hd i hi
      have a1:=hj i (Nat.le_refl _) hi
      have a2:(b ++ X')[f i]? = some (.lst ((dues r D P n many i).map tV)):=old_at (du.at_ i hi) _
      obtain ⟨g,es⟩:=law_same_ok a1 a2 (by omega) (fun t ht => by rw [di.2 t ht]; omega)
      have ix1:∀ g,mBin ixV (mVar 13) (mVar 14) μ (b ++ X' ++ g) = .ok (.loc (f2 i)) (b ++ X' ++ g):=fun g => by
        rw [hμ,bin_of (x:=.loc F2) (s1:=b ++ X' ++ g) rfl (y:=.int (0 + (i:Int))) (s2:=b ++ X' ++ g) rfl]
        exact ix4 (B:=0) (old_at hF g) hi
      have ix1':mBin ixV (mVar 13) (mVar 14) μ (b ++ X') = .ok (.loc (f2 i)) (b ++ X'):=by
        have:=ix1 []
        rwa [List.append_nil] at this
      have ix2:mBin ixV (mVar 11) (mVar 14) μ (b ++ X') = .ok (.loc (f i)) (b ++ X'):=by
        rw [hμ,bin_of (x:=.loc F) (s1:=b ++ X') rfl (y:=.int (0 + (i:Int))) (s2:=b ++ X') rfl]
        exact ix4 (B:=0) (old_at du.li _) hi
      have sm:l6S μ (b ++ X') = .ok (.bl true) (b ++ X' ++ g):=by
        unfold l6S
        rw [call_of (arg2 ix1' ix2),same2,es]
      have nt:tNotM (asT l6S) μ (b ++ X') = .ok false (b ++ X' ++ g):=by
        rw [ev_tnot,asT_of sm,bnd_ok]; rfl
      have ap:=app_of (o:=mBin ixV (mVar 13) (mVar 14)) (a:=mCons (mC (.int 7)) mNil) (v:=.int 7) (ix1 g) (old_at a1 g) rfl (old_at a1 g) (by rw [List.length_map]; omega)
      have lo:b.length ≤ f2 i:=Nat.le_trans hB (fo.lo i hi)
      have st2:(b ++ X' ++ g).set (f2 i) (.lst ((dues r D P n many i).map tV ++ [.int 7])) = b ++ ((X' ++ g).set (f2 i - b.length) (.lst ((dues r D P n many i).map tV ++ [.int 7]))):=by
        rw [List.append_assoc,List.set_append_right _ _ lo]
      refine ⟨μ,by rw [hμ]; rfl,μ,_,.inl ?_,⟨_,st2,?_,fun j j1 j2 => ?_⟩,_,hμ⟩
      · unfold l6I
        rw [ev_seq,if_no nt,thn_nx,ap]
      · rw [List.getElem?_set_ne (fo.neF i hi)]
        exact old_at hF g
      · rw [List.getElem?_set_ne (fo.ne i j hi j2 (by omega))]
        exact old_at (hj j (by omega) j2) g)
    (fun _ _ _ => trivial) ⟨⟨X,rfl,fo.li,fun j _ hj => fo.at_ j hj⟩,y14,rfl⟩
  exact ⟨y,X',e⟩
theorem t12_ok (hr:ringB r = true) (h1':1 ≤ many) (hm:many ≤ 4) (S:Sms many D C) (hP:∀ t ∈ P,t.1.length = many) (hl:D.length + P.length ≤ 500) (hmu:∀ t ∈ D,MulOk t.2 n)
    (bp:b[p]? = some (.lst (D.map tV))) (bq:b[q]? = some (.lst (P.map tV))) (b0:b[h0]? = some (.lst (D.map tV))) (b1:b[h1]? = some (.lst (P.map tV))) (bh:b[hh]? = some (.lst [.loc h0,.loc h1])) (du:Four b B F f (dues r D P n many)) :
    ∃ st',PM.law_v9_t12 (EV x0 r x2 x3 many p q x7 x8 n (some (.loc hh)) (some (.loc F)) none none none) b = .rt (.bl true) st':=by
  have hd:=dues_ok (r:=r) (n:=n) S.len hP hl
  have i0:∀ (μ:MN.Env) (g:Store),mVar 10 μ (b ++ g) = .ok (.loc hh) (b ++ g) → mBin ixV (mVar 10) (mC (.int 0)) μ (b ++ g) = .ok (.loc h0) (b ++ g):=fun μ g h => by
    rw [bin_of h (y:=.int 0) (s2:=b ++ g) rfl]
    exact ix_loc (it_of (old_at bh g)) rfl
  have i1:∀ (μ:MN.Env) (g:Store),mVar 10 μ (b ++ g) = .ok (.loc hh) (b ++ g) → mBin ixV (mVar 10) (mC (.int 1)) μ (b ++ g) = .ok (.loc h1) (b ++ g):=fun μ g h => by
    rw [bin_of h (y:=.int 1) (s2:=b ++ g) rfl]
    exact ix_loc (it_of (old_at bh g)) rfl
  obtain ⟨body,hb⟩:∃ body:MB,body = sSeq (sSet 13 (mCall PM.law_told_v2 (mCons (mVar 1) (mCons (mBin ixV (mVar 10) (mC (.int 0))) (mCons (mBin ixV (mVar 10) (mC (.int 1))) (mCons (mVar 9) (mCons (mVar 4) mNil))))))) (sFor (iRange1 (mCons (mC (.int 4)) mNil)) (aName 14) l6I):=⟨_,rfl⟩
  obtain ⟨μ',st',e,⟨X,rfl⟩,y12,y13,y14,rfl⟩:=forL_inv (g:=fun _ => True) (a:=aName 12) (body:=body)
    (fun i μ s' => (∃ X,s' = b ++ X) ∧ ∃ y12 y13 y14,μ = EV x0 r x2 x3 many p q x7 x8 n (some (.loc hh)) (some (.loc F)) y12 y13 y14)
    (rangeL 0 2) 0 (EV x0 r x2 x3 many p q x7 x8 n (some (.loc hh)) (some (.loc F)) none none none) b
    (by
      rintro i u μ s' hu ⟨⟨X,rfl⟩,y12,y13,y14,rfl⟩
      refine ⟨trivial,EV x0 r x2 x3 many p q x7 x8 n (some (.loc hh)) (some (.loc F)) (some u) y13 y14,rfl,?_⟩
      obtain ⟨g,F2,f2,et,fo⟩:=told4_ok (r:=r) (n:=n) (many:=many) (st:=b ++ X) hr (old_at b0 X) (old_at b1 X) h1' hm S hP (by omega) hmu
      have x13:sSet 13 (mCall PM.law_told_v2 (mCons (mVar 1) (mCons (mBin ixV (mVar 10) (mC (.int 0))) (mCons (mBin ixV (mVar 10) (mC (.int 1))) (mCons (mVar 9) (mCons (mVar 4) mNil)))))) (EV x0 r x2 x3 many p q x7 x8 n (some (.loc hh)) (some (.loc F)) (some u) y13 y14) (b ++ X) = .nx (EV x0 r x2 x3 many p q x7 x8 n (some (.loc hh)) (some (.loc F)) (some u) (some (.loc F2)) y14) (b ++ X ++ g):=by
        refine set_of (v:=.loc F2) ?_
        rw [call_of (arg_c (v:=.int r) (s1:=b ++ X) rfl (arg_c (i0 _ X rfl) (arg_c (i1 _ X rfl) (arg2 (v:=.int n) (s1:=b ++ X) rfl (w:=.int (many:Int)) (s2:=b ++ X) rfl)))),et]
      obtain ⟨y,X',ei⟩:=inner_ok (x0:=x0) (x2:=x2) (x3:=x3) (p:=p) (q:=q) (x7:=x7) (x8:=x8) (y10:=some (.loc hh)) (y12:=some u) (y14:=y14) (X:=X ++ g) (B2:=(b ++ X).length) du hd hm (by rw [List.length_append]; omega) (by rw [← List.append_assoc]; exact fo)
      refine ⟨_,_,.inl ?_,⟨X',rfl⟩,some u,some (.loc F2),y,rfl⟩
      have rg:iRange1 (mCons (mC (.int 4)) mNil) (EV x0 r x2 x3 many p q x7 x8 n (some (.loc hh)) (some (.loc F)) (some u) (some (.loc F2)) y14) (b ++ X ++ g) = .ok (rangeL 0 (4:Int).toNat,fun _ => True) (b ++ X ++ g):=rng_of (j:=4) rfl (by decide) (by decide)
      rw [hb,ev_seq,x13,thn_nx,ev_for,rg,sbn_ok,k_for]
      rw [List.append_assoc]
      exact ei)
    (fun _ _ _ => trivial) ⟨⟨[],(List.append_nil b).symm⟩,none,none,none,rfl⟩
  have rg:iRange1 (mCons (mC (.int 2)) mNil) (EV x0 r x2 x3 many p q x7 x8 n (some (.loc hh)) (some (.loc F)) none none none) b = .ok (rangeL 0 (2:Int).toNat,fun _ => True) b:=rng_of (j:=2) rfl (by decide) (by decide)
  obtain ⟨g1,s1⟩:=law_same_ok (old_at b0 X) (old_at bp X) (by omega) (fun t ht => by rw [S.len t ht]; omega)
  obtain ⟨g2,s2⟩:=law_same_ok (st:=b ++ X ++ g1) (old_at (old_at b1 X) g1) (old_at (old_at bq X) g1) (by omega) (fun t ht => by rw [hP t ht]; omega)
  obtain ⟨μ,hμ⟩:∃ μ,μ = EV x0 r x2 x3 many p q x7 x8 n (some (.loc hh)) (some (.loc F)) y12 y13 y14:=⟨_,rfl⟩
  have a1:mCall PM.law_same_v2 (mCons (mBin ixV (mVar 10) (mC (.int 0))) (mCons (mVar 5) mNil)) μ (b ++ X) = .ok (.bl true) (b ++ X ++ g1):=by
    rw [call_of (arg2 (i0 μ X (by rw [hμ]; rfl)) (w:=.loc p) (s2:=b ++ X) (by rw [hμ]; rfl)),same2,s1]
  have a2:mCall PM.law_same_v2 (mCons (mBin ixV (mVar 10) (mC (.int 1))) (mCons (mVar 6) mNil)) μ (b ++ X ++ g1) = .ok (.bl true) (b ++ X ++ g1 ++ g2):=by
    have z:mBin ixV (mVar 10) (mC (.int 1)) μ (b ++ X ++ g1) = .ok (.loc h1) (b ++ X ++ g1):=by
      have:=i1 μ (X ++ g1) (by rw [hμ]; rfl)
      rwa [← List.append_assoc] at this
    rw [call_of (arg2 z (w:=.loc q) (s2:=b ++ X ++ g1) (by rw [hμ]; rfl)),same2,s2]
  refine ⟨b ++ X ++ g1 ++ g2,?_⟩
  unfold PM.law_v9_t12
  rw [ev_seq,ev_for,rg,sbn_ok,k_for]
  have e':forL (fun _ => True) (aName 12) (sSeq (sSet 13 (mCall PM.law_told_v2 (mCons (mVar 1) (mCons (mBin ixV (mVar 10) (mC (.int 0))) (mCons (mBin ixV (mVar 10) (mC (.int 1))) (mCons (mVar 9) (mCons (mVar 4) mNil))))))) (sFor (iRange1 (mCons (mC (.int 4)) mNil)) (aName 14) l6I)) (rangeL 0 (2:Int).toNat) (EV x0 r x2 x3 many p q x7 x8 n (some (.loc hh)) (some (.loc F)) none none none) b = .nx μ (b ++ X):=by
    rw [← hb,hμ]; exact e
  rw [e',thn_nx]
  unfold PM.law_v9_t13
  rw [ev_ret,and_tt a1 a2,sbn_ok]
  rfl
end
end K06
namespace K06
open PySem PySem.Spec L2 MN PG
open PyProof.Rows hiding St kindOf
theorem cell_c {ns:List Int} {s:Store} {μ:MN.Env} {k:Int} (h:itemsOf s 0 = some (ns.map Val.int)) (k0:0 ≤ k) (k1:k ≤ 1000):∃ o,mCall PM.law_cell_at (mCons (mVar 0) (mCons (mC (.int k)) mNil)) (some (.loc 0) :: μ) s = .ok (.int o) s ∧ 0 ≤ o:=by
  obtain ⟨o,e,o0,_⟩:=cell_at h k0 (by omega)
  exact ⟨o,e,o0⟩
section
variable {r n:Int} {p q many:Nat} {D P:List Trm} {s:Store} {x0 x2 x3 x7 x8:Option Val} {ns:List Int}
theorem mul_big {C:Int} {t:Int} (hC:-((2:Int) ^ 148) ≤ t ∧ t ≤ (2:Int) ^ 148) (hn:Big 134 n):MulOk t n ∧ MulOk n t :=
  ⟨.inl ⟨Sz.of (big_of hC) (by decide),Sz.of hn (by decide)⟩,.inl ⟨Sz.of hn (by decide),Sz.of (big_of hC) (by decide)⟩⟩
theorem t10_ok (hr:ringB r = true) (h1:1 ≤ many) (hm:many ≤ 4) (S:Sms many D (2 ^ 148)) (T:Sms many P (2 ^ 148)) (hl:D.length + P.length ≤ 500) (hn:Big 134 n) (sp:s[p]? = some (.lst (D.map tV))) (sq:s[q]? = some (.lst (P.map tV))) :
    ∃ st',PM.law_v9_t10 (EV x0 r x2 x3 many p q x7 x8 n none none none none none) s = .rt (.bl true) st':=by
  obtain ⟨s1,hs1⟩:∃ s1,s1 = s ++ [Cell.lst (D.map tV)]:=⟨_,rfl⟩
  obtain ⟨s2,hs2⟩:∃ s2,s2 = s1 ++ [Cell.lst (P.map tV)]:=⟨_,rfl⟩
  obtain ⟨s3,hs3⟩:∃ s3,s3 = s2 ++ [Cell.lst [.loc s.length,.loc s1.length]]:=⟨_,rfl⟩
  have q1:s1[q]? = some (.lst (P.map tV)):=by rw [hs1]; exact old_at sq _
  have c1:mCall lstF (mCons (mVar 5) mNil) (EV x0 r x2 x3 many p q x7 x8 n none none none none none) s = .ok (.loc s.length) s1:=by
    rw [call_of (arg1 (v:=.loc p) (s1:=s) rfl),lst_loc (it_of sp),hs1]
  have c2:mCall lstF (mCons (mVar 6) mNil) (EV x0 r x2 x3 many p q x7 x8 n none none none none none) s1 = .ok (.loc s1.length) s2:=by
    rw [call_of (arg1 (v:=.loc q) (s1:=s1) rfl),lst_loc (it_of q1),hs2]
  have x10:sSet 10 (mLst (mCons (mCall lstF (mCons (mVar 5) mNil)) (mCons (mCall lstF (mCons (mVar 6) mNil)) mNil))) (EV x0 r x2 x3 many p q x7 x8 n none none none none none) s = .nx (EV x0 r x2 x3 many p q x7 x8 n (some (.loc s2.length)) none none none none) s3:=by
    rw [set_of (lst_of (arg2 c1 c2) (by show 2 ≤ 1000; decide)),hs3]; rfl
  have p3:s3[p]? = some (.lst (D.map tV)):=by rw [hs3,hs2,hs1]; exact old_at (old_at (old_at sp _) _) _
  have q3:s3[q]? = some (.lst (P.map tV)):=by rw [hs3,hs2]; exact old_at (old_at q1 _) _
  have a0:s3[s.length]? = some (.lst (D.map tV)):=by rw [hs3,hs2,hs1]; exact old_at (old_at (la_new s _) _) _
  have a1:s3[s1.length]? = some (.lst (P.map tV)):=by rw [hs3,hs2]; exact old_at (la_new s1 _) _
  have ah:s3[s2.length]? = some (.lst [.loc s.length,.loc s1.length]):=by rw [hs3]; exact la_new s2 _
  obtain ⟨g,F,f,ed,fo⟩:=due4_ok (r:=r) (n:=n) (many:=many) p3 q3 h1 hm S.len T.len (by omega) (fun t ht => (mul_big (C:=0) (S.big t ht) hn).2)
  have x11:sSet 11 (mCall PM.law_due_v2 (mCons (mVar 1) (mCons (mVar 5) (mCons (mVar 6) (mCons (mVar 9) (mCons (mVar 4) mNil)))))) (EV x0 r x2 x3 many p q x7 x8 n (some (.loc s2.length)) none none none none) s3 = .nx (EV x0 r x2 x3 many p q x7 x8 n (some (.loc s2.length)) (some (.loc F)) none none none) (s3 ++ g):=by
    refine set_of (v:=.loc F) ?_
    rw [call_of (arg_c (v:=.int r) (s1:=s3) rfl (arg_c (v:=.loc p) (s1:=s3) rfl (arg_c (v:=.loc q) (s1:=s3) rfl (arg2 (v:=.int n) (s1:=s3) rfl (w:=.int (many:Int)) (s2:=s3) rfl)))),ed]
  obtain ⟨st',e⟩:=t12_ok (x0:=x0) (x2:=x2) (x3:=x3) (x7:=x7) (x8:=x8) (b:=s3 ++ g) hr h1 hm S T.len hl (fun t ht => (mul_big (C:=0) (S.big t ht) hn).1) (old_at p3 g) (old_at q3 g) (old_at a0 g) (old_at a1 g) (old_at ah g) fo
  refine ⟨st',?_⟩
  unfold PM.law_v9_t10
  rw [ev_seq,x10,thn_nx]
  unfold PM.law_v9_t11
  rw [ev_seq,x11,thn_nx,e]
theorem t8_ok (hn:itemsOf s 0 = some (ns.map Val.int)) (hr:ringB r = true) (h1:1 ≤ many) (hm:many ≤ 4) (S:Sms many D (2 ^ 148)) (T:Sms many P (2 ^ 148)) (hl:D.length + P.length ≤ 500) (sp:s[p]? = some (.lst (D.map tV))) (sq:s[q]? = some (.lst (P.map tV))) :
    ∃ st',PM.law_v9_t8 [some (.loc 0),some (.int r),x2,x3,some (.int (many:Int)),some (.loc p),some (.loc q),x7,x8,none,none,none,none,none,none] s = .rt (.bl true) st':=by
  obtain ⟨o,eo,o0⟩:=cell_c (μ:=[some (.int r),x2,x3,some (.int (many:Int)),some (.loc p),some (.loc q),x7,x8,none,none,none,none,none,none]) (k:=4) hn (by decide) (by decide)
  obtain ⟨m,em,bm⟩:=number_i o0 s
  have x9:sSet 9 (mCall PM.law_number (mCons (mCall PM.law_cell_at (mCons (mVar 0) (mCons (mC (.int 4)) mNil))) mNil)) [some (.loc 0),some (.int r),x2,x3,some (.int (many:Int)),some (.loc p),some (.loc q),x7,x8,none,none,none,none,none,none] s = .nx (EV (some (.loc 0)) r x2 x3 many p q x7 x8 m none none none none none) s:=by
    refine set_of (v:=.int m) ?_
    rw [call_of (arg1 eo),em]
  obtain ⟨o2,eo2,_⟩:=cell_c (μ:=[some (.int r),x2,x3,some (.int (many:Int)),some (.loc p),some (.loc q),x7,x8,some (.int m),none,none,none,none,none]) (k:=4) hn (by decide) (by decide)
  have tst:asT (mBin eqM (mBin modV (mBin fdivV (mCall PM.law_cell_at (mCons (mVar 0) (mCons (mC (.int 4)) mNil))) (mC (.int 7))) (mC (.int 2))) (mC (.int 1))) (EV (some (.loc 0)) r x2 x3 many p q x7 x8 m none none none none none) s = .ok ((o2.fdiv 7).fmod 2 == 1) s:=asT_of (eq_of (mod_of (div_of eo2 (dz_c (by decide) (by decide))) (by decide)))
  unfold PM.law_v9_t8
  rw [ev_seq,x9,thn_nx]
  unfold PM.law_v9_t9
  cases hb:(o2.fdiv 7).fmod 2 == 1 with
  | false =>
    rw [hb] at tst
    obtain ⟨st',e⟩:=t10_ok (x0:=some (.loc 0)) (x2:=x2) (x3:=x3) (x7:=x7) (x8:=x8) hr h1 hm S T hl bm sp sq
    exact ⟨st',by rw [ev_seq,if_no tst,thn_nx,e]⟩
  | true =>
    rw [hb] at tst
    obtain ⟨st',e⟩:=t10_ok (x0:=some (.loc 0)) (x2:=x2) (x3:=x3) (x7:=x7) (x8:=x8) hr h1 hm T S (by omega) bm sq sp
    have sw:sPar 5 6 (mCons (mVar 6) (mCons (mVar 5) mNil)) (EV (some (.loc 0)) r x2 x3 many p q x7 x8 m none none none none none) s = .nx (EV (some (.loc 0)) r x2 x3 many q p x7 x8 m none none none none none) s:=rfl
    exact ⟨st',by rw [ev_seq,if_yes tst,sw,thn_nx,e]⟩
theorem sm_lift {many:Nat} {L:List Trm} {B C:Int} (b0:0 ≤ B) (hr:ringB r = true) (hl:∀ t ∈ L,t.1.length = many) (hb:∀ t ∈ L,-B ≤ t.2 ∧ t.2 ≤ B) (hk:L.length ≤ 62) (hC:62 * B + 997 ≤ C):Sms many (toldR r (gthr L)) C:=by
  have rr:0 ≤ r ∧ r ≤ 997:=by
    unfold ringB at hr
    rcases Bool.or_eq_true _ _ |>.mp hr with h | h
    · have:r = 0:=by simpa using h
      omega
    · have:=prB_range h; omega
  refine (told_sm b0 rr.1 hl hb).mono ?_
  have:(L.length:Int) * B ≤ 62 * B:=Int.mul_le_mul_of_nonneg_right (by omega) b0
  omega
theorem t7_ok {third:Int} (hn:itemsOf s 0 = some (ns.map Val.int)) (hr:ringB r = true) (h1:1 ≤ many) (hm:many ≤ 4) (S:Sms many D (2 ^ 141)) (T:Sms many P (2 ^ 141)) (lD:D.length ≤ 60) (lP:P.length ≤ 60) (sp:s[p]? = some (.lst (D.map tV))) (sq:s[q]? = some (.lst (P.map tV))) :
    ∃ st',PM.law_v9_t7 [some (.loc 0),some (.int r),x2,some (.int third),some (.int (many:Int)),some (.loc p),some (.loc q),x7,x8,none,none,none,none,none,none] s = .rt (.bl true) st':=by
  obtain ⟨μ,hμ⟩:∃ μ:MN.Env,μ = [some (.loc 0),some (.int r),x2,some (.int third),some (.int (many:Int)),some (.loc p),some (.loc q),x7,x8,none,none,none,none,none,none]:=⟨_,rfl⟩
  have tst:asT (mBin eqM (mBin modV (mBin fdivV (mVar 3) (mC (.int 8))) (mC (.int 3))) (mC (.int 2))) μ s = .ok ((third.fdiv 8).fmod 3 == 2) s:=asT_of (eq_of (mod_of (div_of (by rw [hμ]; rfl) (dz_c (by decide) (by decide))) (by decide)))
  cases hb:(third.fdiv 8).fmod 3 == 2 with
  | false =>
    rw [hb] at tst
    obtain ⟨st',e⟩:=t8_ok (x2:=x2) (x3:=some (.int third)) (x7:=x7) (x8:=x8) hn hr h1 hm (S.mono (by decide)) (T.mono (by decide)) (by omega) sp sq
    refine ⟨st',?_⟩
    unfold PM.law_v9_t7
    rw [← hμ,ev_seq,if_no tst,thn_nx,hμ,e]
  | true =>
    rw [hb] at tst
    obtain ⟨s1,hs1⟩:∃ s1,s1 = s ++ [Cell.lst ((P.take 2).map tV)]:=⟨_,rfl⟩
    have sl1:mSl (mVar 6) oNone (oSome (mC (.int 2))) μ s = .ok (.loc s.length) s1:=by
      rw [sl_up (x:=.loc q) (by rw [hμ]; rfl) (k:=2) rfl,sl_loc (it_of sq),hs1]
      have:=cut_take (P.map tV) 2
      rw [← List.map_take] at this
      rw [← this]; rfl
    have p1:s1[p]? = some (.lst (D.map tV)):=by rw [hs1]; exact old_at sp _
    have qk:=fmodc (m:=4) (by decide) (third.fdiv 24)
    obtain ⟨k,hk⟩:∃ k:Nat,(k:Int) = (third.fdiv 24).fmod 4:=⟨((third.fdiv 24).fmod 4).toNat,by omega⟩
    obtain ⟨s2,hs2⟩:∃ s2,s2 = s1 ++ [Cell.lst ((D.drop k).map tV)]:=⟨_,rfl⟩
    have sl2:mSl (mVar 5) (oSome (mBin modV (mBin fdivV (mVar 3) (mC (.int 24))) (mC (.int 4)))) oNone μ s1 = .ok (.loc s1.length) s2:=by
      have md:mBin modV (mBin fdivV (mVar 3) (mC (.int 24))) (mC (.int 4)) μ s1 = .ok (.int (k:Int)) s1:=by
        rw [hk]; exact mod_of (div_of (by rw [hμ]; rfl) (dz_c (by decide) (by decide))) (by decide)
      rw [sl_dn (x:=.loc p) (by rw [hμ]; rfl) md,sl_loc (it_of p1),hs2,cut_dn,← List.map_drop]
    have ng:=ngC_ok (L:=D.drop k) sl2 (by rw [hs2]; exact itemsOf_new s1 _) (by rw [List.length_drop]; omega)
    obtain ⟨s3,hs3⟩:∃ s3,s3 = s2 ++ [Cell.lst ((chg (fun n => -n) (D.drop k)).map tV)]:=⟨_,rfl⟩
    rw [← hs3] at ng
    obtain ⟨L,hL⟩:∃ L,L = P.take 2 ++ chg (fun n => -n) (D.drop k):=⟨_,rfl⟩
    obtain ⟨s4,hs4⟩:∃ s4,s4 = s3 ++ [Cell.lst (L.map tV)]:=⟨_,rfl⟩
    have ad:mBin addV (mSl (mVar 6) oNone (oSome (mC (.int 2)))) (ngC (mSl (mVar 5) (oSome (mBin modV (mBin fdivV (mVar 3) (mC (.int 24))) (mC (.int 4)))) oNone)) μ s = .ok (.loc s3.length) s4:=by
      have u1:s3[s.length]? = some (.lst ((P.take 2).map tV)):=by rw [hs3,hs2,hs1]; exact old_at (old_at (la_new s _) _) _
      have u2:s3[s2.length]? = some (.lst ((chg (fun n => -n) (D.drop k)).map tV)):=by rw [hs3]; exact la_new s2 _
      rw [bin_of sl1 ng,add_ll u1 u2 (by rw [List.length_map,List.length_map,chg_len,List.length_take,List.length_drop,sizeLine_eq]; omega),hs4,hL,List.map_append]
    have lL:∀ t ∈ L,t.1.length = many:=fun t ht => by
      rw [hL] at ht
      rcases List.mem_append.mp ht with ht | ht
      · exact T.len t (List.mem_of_mem_take ht)
      · obtain ⟨u,hu,rfl⟩:=List.mem_map.mp ht
        exact S.len u (List.mem_of_mem_drop hu)
    have bL:∀ t ∈ L,-((2:Int) ^ 141) ≤ t.2 ∧ t.2 ≤ (2:Int) ^ 141:=fun t ht => by
      rw [hL] at ht
      rcases List.mem_append.mp ht with ht | ht
      · exact T.big t (List.mem_of_mem_take ht)
      · obtain ⟨u,hu,rfl⟩:=List.mem_map.mp ht
        have:=S.big u (List.mem_of_mem_drop hu)
        exact ⟨by show _ ≤ -u.2; omega,by show -u.2 ≤ _; omega⟩
    have zL:L.length ≤ 62:=by rw [hL,List.length_append,chg_len,List.length_take,List.length_drop]; omega
    obtain ⟨c1,c2,eg,ag⟩:=ga_ok (r:=r) (a:=mVar 1) (L:=L) (by rw [hμ]; rfl) ad (by rw [hs4]; exact itemsOf_new s3 _) (by omega) (fun t ht => ne_len h1 (lL t ht))
    obtain ⟨s5,hs5⟩:∃ s5,s5 = s4 ++ [c1,Cell.lst ((toldR r (gthr L)).map tV),c2]:=⟨_,rfl⟩
    rw [← hs5] at eg ag
    have up:∀ {k:Nat} {c:Cell},s[k]? = some c → s5[k]? = some c:=fun h => by rw [hs5,hs4,hs3,hs2,hs1]; exact old_at (old_at (old_at (old_at (old_at h _) _) _) _) _
    have hn5:itemsOf s5 0 = some (ns.map Val.int):=by rw [hs5,hs4,hs3,hs2,hs1]; exact itemsOf_old (itemsOf_old (itemsOf_old (itemsOf_old (itemsOf_old hn _) _) _) _) _
    obtain ⟨st',e⟩:=t8_ok (x2:=x2) (x3:=some (.int third)) (x7:=x7) (x8:=x8) hn5 hr h1 hm (S.mono (by decide)) (sm_lift (C:=2 ^ 148) (by decide) hr lL bL zL (by decide)) (by have:=told_few r L; omega) (up sp) ag
    have x6:=set_of (i:=6) eg
    refine ⟨st',?_⟩
    unfold PM.law_v9_t7
    rw [← hμ,ev_seq,if_yes tst]
    show ((sSet 6 (mCall PM.law_gathered (mCons (mVar 1) (mCons (mBin addV (mSl (mVar 6) oNone (oSome (mC (.int 2)))) (ngC (mSl (mVar 5) (oSome (mBin modV (mBin fdivV (mVar 3) (mC (.int 24))) (mC (.int 4)))) oNone))) mNil))) μ s).thn _) = _
    rw [x6,thn_nx,hμ]
    exact e
theorem t6_ok {third:Int} (hn:itemsOf s 0 = some (ns.map Val.int)) (hr:ringB r = true) (h1:1 ≤ many) (hm:many ≤ 4) (S:Sms many D (2 ^ 141)) (T:Sms many P (2 ^ 141)) (lD:D.length ≤ 60) (lP:P.length ≤ 60) (sp:s[p]? = some (.lst (D.map tV))) (sq:s[q]? = some (.lst (P.map tV))) :
    ∃ st',PM.law_v9_t6 [some (.loc 0),some (.int r),x2,some (.int third),some (.int (many:Int)),some (.loc p),some (.loc q),none,none,none,none,none,none,none,none] s = .rt (.bl true) st':=by
  obtain ⟨μ,hμ⟩:∃ μ:MN.Env,μ = [some (.loc 0),some (.int r),x2,some (.int third),some (.int (many:Int)),some (.loc p),some (.loc q),none,none,none,none,none,none,none,none]:=⟨_,rfl⟩
  have tst:asT (mBin eqM (mBin modV (mBin fdivV (mVar 3) (mC (.int 8))) (mC (.int 8))) (mC (.int 1))) μ s = .ok ((third.fdiv 8).fmod 8 == 1) s:=asT_of (eq_of (mod_of (div_of (by rw [hμ]; rfl) (dz_c (by decide) (by decide))) (by decide)))
  cases hb:(third.fdiv 8).fmod 8 == 1 with
  | false =>
    rw [hb] at tst
    obtain ⟨st',e⟩:=t7_ok (x2:=x2) (x7:=none) (x8:=none) (third:=third) hn hr h1 hm S T lD lP sp sq
    refine ⟨st',?_⟩
    unfold PM.law_v9_t6
    rw [← hμ,ev_seq,if_no tst,thn_nx,hμ,e]
  | true =>
    rw [hb] at tst
    obtain ⟨mix,em,m0⟩:=cell_c (μ:=[some (.int r),x2,some (.int third),some (.int (many:Int)),some (.loc p),some (.loc q),none,none,none,none,none,none,none,none]) (k:=3) hn (by decide) (by decide)
    obtain ⟨μ2,hμ2⟩:∃ μ2:MN.Env,μ2 = [some (.loc 0),some (.int r),x2,some (.int third),some (.int (many:Int)),some (.loc p),some (.loc q),some (.int mix),none,none,none,none,none,none,none]:=⟨_,rfl⟩
    have x7:sSet 7 (mCall PM.law_cell_at (mCons (mVar 0) (mCons (mC (.int 3)) mNil))) μ s = .nx μ2 s:=by rw [hμ,set_of em,hμ2]; rfl
    have qs:=fmodc (m:=61) (by decide) (third.fdiv 64)
    obtain ⟨size,hsz⟩:∃ size:Nat,(size:Int) = (third.fdiv 64).fmod 61:=⟨((third.fdiv 64).fmod 61).toNat,by omega⟩
    have md:mBin modV (mBin fdivV (mVar 3) (mC (.int 64))) (mC (.int 61)) μ2 s = .ok (.int (size:Int)) s:=by
      rw [hsz]; exact mod_of (div_of (by rw [hμ2]; rfl) (dz_c (by decide) (by decide))) (by decide)
    obtain ⟨g,k,L,ec,hk,lL,hL⟩:=mx_ok (many:=many) (mix:=mix) md (by omega) (by rw [hμ2]; rfl) m0 hm
    obtain ⟨μ3,hμ3⟩:∃ μ3:MN.Env,μ3 = [some (.loc 0),some (.int r),x2,some (.int third),some (.int (many:Int)),some (.loc p),some (.loc q),some (.int mix),some (.loc k),none,none,none,none,none,none]:=⟨_,rfl⟩
    have x8:sSet 8 (mComp 1 [4,7] (iRange1 (mCons (mBin modV (mBin fdivV (mVar 3) (mC (.int 64))) (mC (.int 61))) mNil)) (aName 0) tTrueM mxE) μ2 s = .nx μ3 (s ++ g):=by rw [set_of ec,hμ2,hμ3]; rfl
    obtain ⟨c1,c2,eg,ag⟩:=ga_ok (r:=r) (a:=mVar 1) (m:=mVar 8) (μ:=μ3) (s:=s ++ g) (s1:=s ++ g) (k:=k) (L:=L) (by rw [hμ3]; rfl) (by rw [hμ3]; rfl) (it_of hk) (by omega) (fun t ht => ne_len h1 (hL t ht).1.len)
    obtain ⟨s5,hs5⟩:∃ s5,s5 = s ++ g ++ [c1,Cell.lst ((toldR r (gthr L)).map tV),c2]:=⟨_,rfl⟩
    rw [← hs5] at eg ag
    have hn5:itemsOf s5 0 = some (ns.map Val.int):=by rw [hs5]; exact itemsOf_old (itemsOf_old hn _) _
    obtain ⟨st',e⟩:=t7_ok (x2:=x2) (x7:=some (.int mix)) (x8:=some (.loc k)) (third:=third) hn5 hr h1 hm (sm_lift (C:=2 ^ 141) (B:=2 ^ 134) (by decide) hr (fun t ht => (hL t ht).1.len) (fun t ht => big_rg (hL t ht).2) (by omega) (by decide)) T (by have:=told_few r L; omega) lP ag (by rw [hs5]; exact old_at (old_at sq _) _)
    have x5:=set_of (i:=5) eg
    refine ⟨st',?_⟩
    unfold PM.law_v9_t6
    rw [← hμ,ev_seq,if_yes tst,ev_seq,x7,thn_nx,ev_seq]
    show ((((sSet 8 (mComp 1 [4,7] (iRange1 (mCons (mBin modV (mBin fdivV (mVar 3) (mC (.int 64))) (mC (.int 61))) mNil)) (aName 0) tTrueM mxE) μ2 s).thn _)).thn _) = _
    rw [x8,thn_nx,x5,thn_nx,hμ3]
    exact e
end
theorem law_true:∀ (c:Cell) (ns:List Int),ns.length ≤ 63 → itemsOf [c] 0 = some (ns.map Val.int) → ∃ st',PM.law_v9 [.loc 0] [c] = .ok (.bl true) st':=by
  intro c ns hl hi
  obtain ⟨s,hs⟩:∃ s,[c] = s:=⟨_,rfl⟩
  rw [hs] at hi ⊢
  clear hs
  obtain ⟨o,eo,o0⟩:=cell_c (μ:=[none,none,none,none,none,none,none,none,none,none,none,none,none,none]) (k:=0) hi (by decide) (by decide)
  obtain ⟨g,r,er,hr⟩:=ring_i o0 s
  have hrB:ringB r = true:=by
    rcases hr with rfl | h
    · rfl
    · exact ringB_of h
  obtain ⟨s1,hs1⟩:∃ s1,s1 = s ++ g:=⟨_,rfl⟩
  rw [← hs1] at er
  have i1:itemsOf s1 0 = some (ns.map Val.int):=by rw [hs1]; exact itemsOf_old hi _
  have x1:sSet 1 (mCall PM.law_ring (mCons (mCall PM.law_cell_at (mCons (mVar 0) (mCons (mC (.int 0)) mNil))) mNil)) [some (.loc 0),none,none,none,none,none,none,none,none,none,none,none,none,none,none] s = .nx [some (.loc 0),some (.int r),none,none,none,none,none,none,none,none,none,none,none,none,none] s1:=by
    refine set_of (v:=.int r) ?_
    rw [call_of (arg1 eo),er]
  obtain ⟨sec,e2,s20⟩:=cell_c (μ:=[some (.int r),none,none,none,none,none,none,none,none,none,none,none,none,none]) (k:=1) i1 (by decide) (by decide)
  have x2:sSet 2 (mCall PM.law_cell_at (mCons (mVar 0) (mCons (mC (.int 1)) mNil))) [some (.loc 0),some (.int r),none,none,none,none,none,none,none,none,none,none,none,none,none] s1 = .nx [some (.loc 0),some (.int r),some (.int sec),none,none,none,none,none,none,none,none,none,none,none,none] s1:=set_of e2
  obtain ⟨thr,e3,t30⟩:=cell_c (μ:=[some (.int r),some (.int sec),none,none,none,none,none,none,none,none,none,none,none,none]) (k:=2) i1 (by decide) (by decide)
  have x3:sSet 3 (mCall PM.law_cell_at (mCons (mVar 0) (mCons (mC (.int 2)) mNil))) [some (.loc 0),some (.int r),some (.int sec),none,none,none,none,none,none,none,none,none,none,none,none] s1 = .nx [some (.loc 0),some (.int r),some (.int sec),some (.int thr),none,none,none,none,none,none,none,none,none,none,none] s1:=set_of e3
  have q4:=fmodc (m:=4) (by decide) sec
  obtain ⟨many,hmany⟩:∃ many:Nat,(many:Int) = 1 + sec.fmod 4:=⟨(1 + sec.fmod 4).toNat,by omega⟩
  obtain ⟨μ,hμ⟩:∃ μ:MN.Env,μ = [some (.loc 0),some (.int r),some (.int sec),some (.int thr),some (.int (many:Int)),none,none,none,none,none,none,none,none,none,none]:=⟨_,rfl⟩
  have x4:sSet 4 (mBin addV (mC (.int 1)) (mBin modV (mVar 2) (mC (.int 4)))) [some (.loc 0),some (.int r),some (.int sec),some (.int thr),none,none,none,none,none,none,none,none,none,none,none] s1 = .nx μ s1:=by
    rw [hμ]
    refine set_of (v:=.int (many:Int)) ?_
    rw [bin_of (x:=.int 1) (s1:=s1) rfl (mod_of (o:=sec) (s1:=s1) rfl (by decide)),hmany]; rfl
  have h1:1 ≤ many:=by omega
  have hm:many ≤ 4:=by omega
  -- ones
  have q5:=fmodc (m:=8) (by decide) (sec.fdiv 4)
  obtain ⟨z1,hz1⟩:∃ z:Nat,(z:Int) = (sec.fdiv 4).fmod 8:=⟨((sec.fdiv 4).fmod 8).toNat,by omega⟩
  obtain ⟨g5,L,e5,lL,hL⟩:=law_pairs_ok (many:=many) (size:=z1) (place:=5) i1 (by decide) (by decide) hm (by omega)
  have w5:mCall PM.law_pairs (mCons (mVar 0) (mCons (mC (.int 5)) (mCons (mVar 4) (mCons (mBin modV (mBin fdivV (mVar 2) (mC (.int 4))) (mC (.int 8))) mNil)))) μ s1 = .ok (.loc s1.length) (s1 ++ .lst (L.map tV) :: g5):=by
    have md:mBin modV (mBin fdivV (mVar 2) (mC (.int 4))) (mC (.int 8)) μ s1 = .ok (.int (z1:Int)) s1:=by
      rw [hz1]; exact mod_of (div_of (by rw [hμ]; rfl) (dz_c (by decide) (by decide))) (by decide)
    rw [call_of (arg_c (v:=.loc 0) (s1:=s1) (by rw [hμ]; rfl) (arg_c (v:=.int 5) (s1:=s1) rfl (arg2 (v:=.int (many:Int)) (s1:=s1) (by rw [hμ]; rfl) md))),e5]
  obtain ⟨c1,c2,eg,ag⟩:=ga_ok (r:=r) (a:=mVar 1) (L:=L) (by rw [hμ]; rfl) w5 (it_of (la_mid s1 _ g5)) (by omega) (fun t ht => ne_len h1 (hL t ht).1.len)
  obtain ⟨s5,hs5⟩:∃ s5,s5 = s1 ++ .lst (L.map tV) :: g5 ++ [c1,Cell.lst ((toldR r (gthr L)).map tV),c2]:=⟨_,rfl⟩
  obtain ⟨p,hp⟩:∃ p,p = (s1 ++ Cell.lst (L.map tV) :: g5).length + 1:=⟨_,rfl⟩
  rw [← hs5,← hp] at eg ag
  have i5:itemsOf s5 0 = some (ns.map Val.int):=by rw [hs5]; exact itemsOf_old (itemsOf_old i1 _) _
  have x5:=set_of (i:=5) eg
  obtain ⟨μ5,hμ5⟩:∃ μ5:MN.Env,μ5 = [some (.loc 0),some (.int r),some (.int sec),some (.int thr),some (.int (many:Int)),some (.loc p),none,none,none,none,none,none,none,none,none]:=⟨_,rfl⟩
  have y5:μ.set 5 (some (.loc p)) = μ5:=by rw [hμ,hμ5]; rfl
  rw [y5] at x5
  -- others
  have q6:=fmodc (m:=8) (by decide) thr
  obtain ⟨z2,hz2⟩:∃ z:Nat,(z:Int) = thr.fmod 8:=⟨(thr.fmod 8).toNat,by omega⟩
  obtain ⟨g6,M,e6,lM,hM⟩:=law_pairs_ok (many:=many) (size:=z2) (place:=21) i5 (by decide) (by decide) hm (by omega)
  have w6:mCall PM.law_pairs (mCons (mVar 0) (mCons (mC (.int 21)) (mCons (mVar 4) (mCons (mBin modV (mVar 3) (mC (.int 8))) mNil)))) μ5 s5 = .ok (.loc s5.length) (s5 ++ .lst (M.map tV) :: g6):=by
    have md:mBin modV (mVar 3) (mC (.int 8)) μ5 s5 = .ok (.int (z2:Int)) s5:=by
      rw [hz2]; exact mod_of (by rw [hμ5]; rfl) (by decide)
    rw [call_of (arg_c (v:=.loc 0) (s1:=s5) (by rw [hμ5]; rfl) (arg_c (v:=.int 21) (s1:=s5) rfl (arg2 (v:=.int (many:Int)) (s1:=s5) (by rw [hμ5]; rfl) md))),e6]
  obtain ⟨c3,c4,eh,ah⟩:=ga_ok (r:=r) (a:=mVar 1) (L:=M) (by rw [hμ5]; rfl) w6 (it_of (la_mid s5 _ g6)) (by omega) (fun t ht => ne_len h1 (hM t ht).1.len)
  obtain ⟨s6,hs6⟩:∃ s6,s6 = s5 ++ .lst (M.map tV) :: g6 ++ [c3,Cell.lst ((toldR r (gthr M)).map tV),c4]:=⟨_,rfl⟩
  obtain ⟨q,hq⟩:∃ q,q = (s5 ++ Cell.lst (M.map tV) :: g6).length + 1:=⟨_,rfl⟩
  rw [← hs6,← hq] at eh ah
  have i6:itemsOf s6 0 = some (ns.map Val.int):=by rw [hs6]; exact itemsOf_old (itemsOf_old i5 _) _
  have x6:=set_of (i:=6) eh
  have sm:∀ (L:List Trm),L.length ≤ 62 → (∀ t ∈ L,Good many t ∧ Big 134 t.2) → Sms many (toldR r (gthr L)) (2 ^ 141):=fun L z h => sm_lift (B:=2 ^ 134) (by decide) hrB (fun t ht => (h t ht).1.len) (fun t ht => big_rg (h t ht).2) z (by decide)
  obtain ⟨st',e⟩:=t6_ok (x2:=some (.int sec)) (third:=thr) i6 hrB h1 hm (sm L (by omega) hL) (sm M (by omega) hM) (by have:=told_few r L; omega) (by have:=told_few r M; omega) (by rw [hs6]; exact old_at (old_at ag _) _) ah
  refine ⟨st',?_⟩
  unfold PM.law_v9
  rw [ev_fn (np:=1) (us:=[Val.loc 0]) rfl]
  show (sSeq _ PM.law_v9_t1 [some (.loc 0),none,none,none,none,none,none,none,none,none,none,none,none,none,none] s).fin = _
  rw [ev_seq,x1,thn_nx]
  unfold PM.law_v9_t1
  rw [ev_seq,x2,thn_nx]
  unfold PM.law_v9_t2
  rw [ev_seq,x3,thn_nx]
  unfold PM.law_v9_t3
  rw [ev_seq,x4,thn_nx]
  unfold PM.law_v9_t4
  rw [ev_seq,x5,thn_nx]
  unfold PM.law_v9_t5
  rw [ev_seq,x6,thn_nx,hμ5]
  show (PM.law_v9_t6 [some (.loc 0),some (.int r),some (.int sec),some (.int thr),some (.int (many:Int)),some (.loc p),some (.loc q),none,none,none,none,none,none,none,none] s6).fin = _
  rw [e]
  rfl
end K06
namespace K06
open PySem PySem.Spec L2 MN
open PyProof.Rows hiding St
noncomputable def top (i:Nat):Stmt:=PySem.Challenge.pw_polyring_k06_sums_and_differences.main.body.getD i (.Pass ⟨0,0,0,0⟩)
structure Txt (K:PySem.W.Frag) (mg:Str → Option Value):Prop where
  b_all:mg "all" = none
  b_bool:mg "bool" = none
  b_dict:mg "dict" = none
  b_int:mg "int" = none
  b_isinstance:mg "isinstance" = none
  b_len:mg "len" = none
  b_list:mg "list" = none
  b_range:mg "range" = none
  b_sorted:mg "sorted" = none
  b_tuple:mg "tuple" = none
  g_MOST_RING:Glob K mg "MOST_RING" (.int 997)
  g_FIRST_PRIMES:Glob K mg "FIRST_PRIMES" PM.FIRST_PRIMES
  g_MOST_UNKNOWNS:Glob K mg "MOST_UNKNOWNS" (.int 4)
  c_AlgebraError:ExcC K mg "AlgebraError"
  c_NoRing:ExcC K mg "NoRing"
  c_NoUnknowns:ExcC K mg "NoUnknowns"
theorem ms_setM {X:Cx} {E:XK} {e:Expr} {m:ME} {i:Nat} {x:Str} {pos pos':Pos} (hN:X.N.Nodup) (he:PE X e (tE X E m)) (hi:X.N[i]? = some x:=by rfl) (hx:Loc X.env.scope x:=by first | exact Or.inl rfl | exact Or.inr rfl) (hs:swapsWith e (some (.Name x pos')) pos.line X.env = pure false:=by rfl) (hf:X.fn x = true ∨ X.env.scope.names.lookup x = some .local:=by first | exact .inl rfl | exact .inr rfl | assumption):PS X (.Assign [.Name x pos'] e pos) (tS X E (sSet i m)):=ms_set i hN he hi hx hs hf
section
variable {P:Program} {w:World} {K:PySem.W.Frag} {mg:Str → Option Value} {base:Heap}
theorem sc_is_whole:FnScope ["thing"] ["thing"] (defScope (top 7)):=⟨rfl,rfl,rfl,by decide +kernel,rfl,by decide +kernel,by decide +kernel⟩
theorem ok_is_whole {f:Addr} {fd:FuncData} (F:Fun K "is_whole" "is_whole" (top 7) f fd) (hm:mg "is_whole" = some (.ref f)) (T:Txt K mg) :FnAt P w K mg base "is_whole" 1 PM.is_whole :=
  FnAt.mk F hm sc_is_whole (fun _ _ _ _ _ _ => len1 fun _ => rfl) fun cdv A outer s H E hr =>
    by
      refine ms_one ?_
      refine ms_ret ?_
      refine me_and ?_ ?_
      · refine me_isT kitT_int (by rfl) T.b_isinstance (by rfl) T.b_int PyProof.Rows.boot_int ?_
        exact (me_var 0)
      refine me_one ?_
      refine me_not ?_
      refine me_isT kitT_bool (by rfl) T.b_isinstance (by rfl) T.b_bool PyProof.Rows.boot_bool ?_
      exact (me_var 0)
theorem nd_0_is_prime_within:(["prime","number"]:List Str).Nodup:=by decide +kernel
theorem sc_is_prime_within:FnScope ["number"] ["number"] (defScope (top 8)):=⟨rfl,rfl,rfl,by decide +kernel,rfl,by decide +kernel,by decide +kernel⟩
theorem ok_is_prime_within {f:Addr} {fd:FuncData} (F:Fun K "is_prime_within" "is_prime_within" (top 8) f fd) (hm:mg "is_prime_within" = some (.ref f)) (T:Txt K mg) :FnAt P w K mg base "is_prime_within" 1 PM.is_prime_within :=
  FnAt.mk F hm sc_is_prime_within (fun _ _ _ _ _ _ => len1 fun _ => rfl) fun cdv A outer s H E hr =>
    by
      refine ms_cons ?_ ?_
      · refine ms_if ?_ ?_ ms_nil
        · refine mt_cmp ?_ ?_ ?_
          · exact op_inM
          · exact (me_var 0)
          exact (me_glob (by rfl) T.g_FIRST_PRIMES)
        refine ms_one ?_
        exact (ms_ret me_bl)
      refine ms_cons ?_ ?_
      · refine ms_if ?_ ?_ ms_nil
        · refine mt_w ?_
          refine mw_or ?_ ?_
          · refine mt_cmp ?_ ?_ me_int
            · exact op_ltM
            exact (me_var 0)
          refine mw_or1 ?_
          refine mt_cmp ?_ ?_ ?_
          · exact op_gtM
          · exact (me_var 0)
          exact (me_glob (by rfl) T.g_MOST_RING)
        refine ms_one ?_
        exact (ms_ret me_bl)
      refine ms_one ?_
      refine ms_ret ?_
      refine me_callB ?_ (by rfl) T.b_all PyProof.Rows.boot_all ?_
      · exact (call_allM hr.hd)
      refine ma_cons ?_ ma_nil
      refine me_comp (N:=["prime","number"]) (k:=1) rfl rfl (capsA (cl:=[("number",s.heap.objs.size + 1)]) (caps:=[0]) (by rfl) (.cons (c:=s.heap.objs.size + 1) (by rfl) (by rfl) (by first | exact Or.inl rfl | exact Or.inr rfl) (by first | exact Or.inl rfl | exact Or.inr rfl) .nil) (by rfl) (by rfl) (by rfl) (by rfl) (by rfl) (by rfl)) ?_ (fun _ _ _ _ => ?_) (fun _ _ _ _ => mif_nil) (fun _ _ _ _ => ?_)
      · refine mi_seq ?_
        exact (me_glob (by rfl) T.g_FIRST_PRIMES)
      · exact (mg_name 0 nd_0_is_prime_within)
      refine me_cmp ?_ ?_ me_int
      · exact (op_neM hr.units)
      refine me_bin ?_ ?_ ?_
      · exact op_modM
      · exact (me_var 1)
      exact (me_var 0)
theorem sc_rest_in_ring:FnScope ["ring","number"] ["ring","number"] (defScope (top 11)):=⟨rfl,rfl,rfl,by decide +kernel,rfl,by decide +kernel,by decide +kernel⟩
theorem ok_rest_in_ring {f:Addr} {fd:FuncData} (F:Fun K "rest_in_ring" "rest_in_ring" (top 11) f fd) (hm:mg "rest_in_ring" = some (.ref f)) (T:Txt K mg) :FnAt P w K mg base "rest_in_ring" 1 PM.rest_in_ring :=
  FnAt.mk F hm sc_rest_in_ring (fun _ _ _ _ _ _ => len2 fun _ _ => rfl) fun cdv A outer s H E hr =>
    by
      refine ms_one ?_
      refine ms_ret ?_
      refine me_if ?_ ?_ ?_
      · refine mt_cmp ?_ ?_ me_int
        · exact (op_eqM hr.units)
        exact (me_var 0)
      · exact (me_var 1)
      refine me_bin ?_ ?_ ?_
      · exact op_modM
      · exact (me_var 1)
      exact (me_var 0)
theorem sc_add_to:FnScope ["totals","exponents","number"] ["totals","exponents","number"] (defScope (top 16)):=⟨rfl,rfl,rfl,by decide +kernel,rfl,by decide +kernel,by decide +kernel⟩
theorem ok_add_to {f:Addr} {fd:FuncData} (F:Fun K "add_to" "add_to" (top 16) f fd) (hm:mg "add_to" = some (.ref f)) (T:Txt K mg) :FnAt P w K mg base "add_to" 1 PM.add_to :=
  FnAt.mk F hm sc_add_to (fun _ _ _ _ _ _ => len3 fun _ _ _ => rfl) fun cdv A outer s H E hr =>
    by
      refine ms_one ?_
      refine ms_dput hr.units ?_ ?_ ?_
      · exact (me_var 0)
      · exact (me_var 1)
      refine me_bin ?_ ?_ ?_
      · exact op_addM
      · refine me_dget2 hr.units ?_ ?_ me_int
        · exact (me_var 0)
        exact (me_var 1)
      exact (me_var 2)
theorem sc__law_whole:FnScope ["_law_found"] ["_law_found"] (defScope (top 25)):=⟨rfl,rfl,rfl,by decide +kernel,rfl,by decide +kernel,by decide +kernel⟩
theorem ok__law_whole {f:Addr} {fd:FuncData} (F:Fun K "_law_whole" "_law_whole" (top 25) f fd) (hm:mg "_law_whole" = some (.ref f)) (T:Txt K mg) :FnAt P w K mg base "_law_whole" 1 PM.law_whole :=
  FnAt.mk F hm sc__law_whole (fun _ _ _ _ _ _ => len1 fun _ => rfl) fun cdv A outer s H E hr =>
    by
      refine ms_one ?_
      refine ms_ret ?_
      refine me_and ?_ ?_
      · refine me_isT kitT_int (by rfl) T.b_isinstance (by rfl) T.b_int PyProof.Rows.boot_int ?_
        exact (me_var 0)
      refine me_one ?_
      refine me_not ?_
      refine me_isT kitT_bool (by rfl) T.b_isinstance (by rfl) T.b_bool PyProof.Rows.boot_bool ?_
      exact (me_var 0)
theorem sc__law_cell_at:FnScope ["_law_script","_law_k","_law_cell","_law_one","_law_found","_law_turn"] ["_law_script","_law_k"] (defScope (top 26)):=⟨rfl,rfl,rfl,by decide +kernel,rfl,by decide +kernel,by decide +kernel⟩
theorem ok__law_cell_at {f:Addr} {fd:FuncData} (F:Fun K "_law_cell_at" "_law_cell_at" (top 26) f fd) (hm:mg "_law_cell_at" = some (.ref f)) (T:Txt K mg) :FnAt P w K mg base "_law_cell_at" 1 PM.law_cell_at :=
  FnAt.mk F hm sc__law_cell_at (fun _ _ _ _ _ _ => len2 fun _ _ => rfl) fun cdv A outer s H E hr =>
    by
      refine ms_cons ?_ ?_
      · refine ms_setM ?_ ?_
        · exact sc__law_cell_at.nd
        exact me_int
      refine ms_cons ?_ ?_
      · refine ms_if ?_ ?_ ms_nil
        · refine mt_cmp ?_ ?_ ?_
          · exact op_ltM
          · exact (me_var 1)
          refine me_callB ?_ (by rfl) T.b_len PySem.boot_len ?_
          · exact call_lenM
          refine ma_cons ?_ ma_nil
          exact (me_var 0)
        refine ms_one ?_
        refine ms_setM ?_ ?_
        · exact sc__law_cell_at.nd
        refine me_ixM ?_ ?_
        · exact (me_var 0)
        exact (me_var 1)
      refine ms_cons ?_ ?_
      · refine ms_setM ?_ ?_
        · exact sc__law_cell_at.nd
        refine me_bin ?_ ?_ me_int
        · exact op_modM
        refine me_bin ?_ ?_ me_int
        · exact op_addM
        refine me_bin ?_ ?_ ?_
        · exact op_addM
        · refine me_bin ?_ ?_ ?_
          · exact op_addM
          · refine me_bin ?_ ?_ me_int
            · exact op_mulM
            exact (me_var 2)
          refine me_bin ?_ ?_ ?_
          · exact op_mulM
          · refine me_bin ?_ me_int ?_
            · exact op_mulM
            exact (me_var 1)
          exact (me_var 1)
        refine me_bin ?_ me_int ?_
        · exact op_mulM
        exact (me_var 1)
      refine ms_cons ?_ ?_
      · refine ms_setM ?_ ?_
        · exact sc__law_cell_at.nd
        exact me_int
      refine ms_cons ?_ ?_
      · refine ms_for own_pass rfl ?_ ?_ ?_
        · refine mi_range1 (by rfl) T.b_range ?_
          exact (ma_int ma_nil)
        · exact (mg_name 5 sc__law_cell_at.nd)
        refine ms_cons ?_ ?_
        · refine ms_setM ?_ ?_
          · exact sc__law_cell_at.nd
          refine me_bin ?_ ?_ me_int
          · exact op_modM
          refine me_bin ?_ ?_ ?_
          · exact op_addM
          · refine me_bin ?_ ?_ me_int
            · exact op_mulM
            refine me_bin ?_ ?_ me_int
            · exact op_modM
            refine me_bin ?_ ?_ ?_
            · exact op_mulM
            · exact (me_var 3)
            exact (me_var 3)
          exact (me_var 5)
        refine ms_one ?_
        refine ms_setM ?_ ?_
        · exact sc__law_cell_at.nd
        refine me_bin ?_ ?_ ?_
        · exact op_addM
        · refine me_bin ?_ ?_ me_int
          · exact op_mulM
          exact (me_var 4)
        exact (me_var 3)
      refine ms_one ?_
      refine ms_ret ?_
      exact (me_var 4)
theorem nd_0_law_prime:(["_law_by","_law_number_here"]:List Str).Nodup:=by decide +kernel
theorem sc__law_prime:FnScope ["_law_cell","_law_number_here"] ["_law_cell"] (defScope (top 27)):=⟨rfl,rfl,rfl,by decide +kernel,rfl,by decide +kernel,by decide +kernel⟩
theorem ok__law_prime {f:Addr} {fd:FuncData} (F:Fun K "_law_prime" "_law_prime" (top 27) f fd) (hm:mg "_law_prime" = some (.ref f)) (T:Txt K mg) :FnAt P w K mg base "_law_prime" 1 PM.law_prime :=
  FnAt.mk F hm sc__law_prime (fun _ _ _ _ _ _ => len1 fun _ => rfl) fun cdv A outer s H E hr =>
    by
      refine ms_cons ?_ ?_
      · refine ms_if ?_ ?_ ms_nil
        · refine mt_cmp ?_ ?_ me_int
          · exact (op_eqM hr.units)
          refine me_bin ?_ ?_ me_int
          · exact op_modM
          exact (me_var 0)
        refine ms_one ?_
        refine ms_ret ?_
        refine me_ixM ?_ ?_
        · refine me_lst ?_
          refine ma_int ?_
          refine ma_int ?_
          refine ma_int ?_
          refine ma_int ?_
          refine ma_int ?_
          exact (ma_int ma_nil)
        refine me_bin ?_ ?_ me_int
        · exact op_modM
        refine me_bin ?_ ?_ me_int
        · exact op_fdivM
        exact (me_var 0)
      refine ms_cons ?_ ?_
      · refine ms_setM ?_ ?_
        · exact sc__law_prime.nd
        refine me_bin ?_ me_int ?_
        · exact op_addM
        refine me_bin ?_ ?_ me_int
        · exact op_modM
        refine me_bin ?_ ?_ me_int
        · exact op_fdivM
        exact (me_var 0)
      refine ms_cons ?_ ?_
      · refine ms_while own_pass ?_ ?_
        · refine mt_cmp ?_ ?_ ?_
          · exact (op_neM hr.units)
          · refine me_comp (N:=["_law_by","_law_number_here"]) (k:=1) rfl rfl (capsA (cl:=[("_law_number_here",s.heap.objs.size + 1)]) (caps:=[1]) (by rfl) (.cons (c:=s.heap.objs.size + 1) (by rfl) (by rfl) (by first | exact Or.inl rfl | exact Or.inr rfl) (by first | exact Or.inl rfl | exact Or.inr rfl) .nil) (by rfl) (by rfl) (by rfl) (by rfl) (by rfl) (by rfl)) ?_ (fun _ _ _ _ => ?_) (fun _ _ _ _ => ?_) (fun _ _ _ _ => ?_)
            · refine mi_range2 (by rfl) T.b_range ?_
              refine ma_int ?_
              exact (ma_int ma_nil)
            · exact (mg_name 0 nd_0_law_prime)
            · refine mif_one ?_
              refine mt_w ?_
              refine mw_and ?_ ?_
              · refine mt_cmp ?_ ?_ ?_
                · exact op_ltM
                · exact (me_var 0)
                exact (me_var 1)
              refine mw_and1 ?_
              refine mt_cmp ?_ ?_ me_int
              · exact (op_eqM hr.units)
              refine me_bin ?_ ?_ ?_
              · exact op_modM
              · exact (me_var 1)
              exact (me_var 0)
            exact (me_var 0)
          exact (me_lst ma_nil)
        refine ms_one ?_
        refine ms_setM ?_ ?_
        · exact sc__law_prime.nd
        refine me_bin ?_ ?_ me_int
        · exact op_addM
        exact (me_var 1)
      refine ms_one ?_
      refine ms_ret ?_
      exact (me_var 1)
theorem sc__law_settled:FnScope ["_law_ring_here","_law_number_here"] ["_law_ring_here","_law_number_here"] (defScope (top 29)):=⟨rfl,rfl,rfl,by decide +kernel,rfl,by decide +kernel,by decide +kernel⟩
theorem ok__law_settled {f:Addr} {fd:FuncData} (F:Fun K "_law_settled" "_law_settled" (top 29) f fd) (hm:mg "_law_settled" = some (.ref f)) (T:Txt K mg) :FnAt P w K mg base "_law_settled" 1 PM.law_settled :=
  FnAt.mk F hm sc__law_settled (fun _ _ _ _ _ _ => len2 fun _ _ => rfl) fun cdv A outer s H E hr =>
    by
      refine ms_cons ?_ ?_
      · refine ms_if ?_ ?_ ms_nil
        · refine mt_cmp ?_ ?_ me_int
          · exact (op_eqM hr.units)
          exact (me_var 0)
        refine ms_one ?_
        refine ms_ret ?_
        exact (me_var 1)
      refine ms_one ?_
      refine ms_ret ?_
      refine me_bin ?_ ?_ ?_
      · exact op_modM
      · exact (me_var 1)
      exact (me_var 0)
theorem sc__law_number:FnScope ["_law_cell"] ["_law_cell"] (defScope (top 32)):=⟨rfl,rfl,rfl,by decide +kernel,rfl,by decide +kernel,by decide +kernel⟩
theorem ok__law_number {f:Addr} {fd:FuncData} (F:Fun K "_law_number" "_law_number" (top 32) f fd) (hm:mg "_law_number" = some (.ref f)) (T:Txt K mg) :FnAt P w K mg base "_law_number" 1 PM.law_number :=
  FnAt.mk F hm sc__law_number (fun _ _ _ _ _ _ => len1 fun _ => rfl) fun cdv A outer s H E hr =>
    by
      refine ms_cons ?_ ?_
      · refine ms_if ?_ ?_ ms_nil
        · refine mt_cmp ?_ ?_ me_int
          · exact (op_eqM hr.units)
          refine me_bin ?_ ?_ me_int
          · exact op_modM
          exact (me_var 0)
        refine ms_one ?_
        refine ms_ret ?_
        refine me_bin ?_ ?_ ?_
        · exact op_mulM
        · refine me_bin ?_ me_int ?_
          · exact op_subM
          refine me_bin ?_ ?_ me_int
          · exact op_mulM
          refine me_bin ?_ ?_ me_int
          · exact op_modM
          refine me_bin ?_ ?_ me_int
          · exact op_fdivM
          exact (me_var 0)
        refine me_bin ?_ ?_ ?_
        · exact op_modM
        · refine me_bin ?_ ?_ me_int
          · exact op_fdivM
          exact (me_var 0)
        exact (me_bin op_powM me_int me_int)
      refine ms_one ?_
      refine ms_ret ?_
      refine me_bin ?_ ?_ me_int
      · exact op_subM
      refine me_bin ?_ ?_ me_int
      · exact op_modM
      refine me_bin ?_ ?_ me_int
      · exact op_fdivM
      exact (me_var 0)
theorem sc__law_exponents:FnScope ["_law_cell","_law_many","_law_found","_law_rest","_law_wide","_law_k","_law_exponent"] ["_law_cell","_law_many"] (defScope (top 33)):=⟨rfl,rfl,rfl,by decide +kernel,rfl,by decide +kernel,by decide +kernel⟩
theorem ok__law_exponents {f:Addr} {fd:FuncData} (F:Fun K "_law_exponents" "_law_exponents" (top 33) f fd) (hm:mg "_law_exponents" = some (.ref f)) (T:Txt K mg) :FnAt P w K mg base "_law_exponents" 1 PM.law_exponents :=
  FnAt.mk F hm sc__law_exponents (fun _ _ _ _ _ _ => len2 fun _ _ => rfl) fun cdv A outer s H E hr =>
    by
      refine ms_cons ?_ ?_
      · refine ms_setM ?_ ?_
        · exact sc__law_exponents.nd
        exact (me_lst ma_nil)
      refine ms_cons ?_ ?_
      · refine ms_setM ?_ ?_
        · exact sc__law_exponents.nd
        exact (me_var 0)
      refine ms_cons ?_ ?_
      · refine ms_setM ?_ ?_
        · exact sc__law_exponents.nd
        exact me_int
      refine ms_cons ?_ ?_
      · refine ms_if ?_ ?_ ms_nil
        · refine mt_cmp ?_ ?_ me_int
          · exact (op_eqM hr.units)
          refine me_bin ?_ ?_ me_int
          · exact op_modM
          exact (me_var 0)
        refine ms_cons ?_ ?_
        · refine ms_setM ?_ ?_
          · exact sc__law_exponents.nd
          refine me_bin ?_ ?_ me_int
          · exact op_fdivM
          exact (me_var 0)
        refine ms_one ?_
        refine ms_setM ?_ ?_
        · exact sc__law_exponents.nd
        exact me_int
      refine ms_cons ?_ ?_
      · refine ms_for own_pass rfl ?_ ?_ ?_
        · refine mi_range1 (by rfl) T.b_range ?_
          refine ma_cons ?_ ma_nil
          exact (me_var 1)
        · exact (mg_name 5 sc__law_exponents.nd)
        refine ms_cons ?_ ?_
        · refine ms_setM ?_ ?_
          · exact sc__law_exponents.nd
          refine me_bin ?_ ?_ ?_
          · exact op_modM
          · exact (me_var 3)
          exact (me_var 4)
        refine ms_cons ?_ ?_
        · refine ms_setM ?_ ?_
          · exact sc__law_exponents.nd
          refine me_bin ?_ ?_ ?_
          · exact op_fdivM
          · exact (me_var 3)
          exact (me_var 4)
        refine ms_cons ?_ ?_
        · refine ms_if ?_ ?_ ms_nil
          · refine mt_w ?_
            refine mw_and ?_ ?_
            · refine mt_cmp ?_ ?_ me_int
              · exact (op_eqM hr.units)
              exact (me_var 4)
            refine mw_and1 ?_
            refine mt_cmp ?_ ?_ ?_
            · exact (op_eqM hr.units)
            · refine me_bin ?_ ?_ me_int
              · exact op_modM
              refine me_bin ?_ ?_ me_int
              · exact op_fdivM
              exact (me_var 0)
            exact (me_var 5)
          refine ms_one ?_
          refine ms_setM ?_ ?_
          · exact sc__law_exponents.nd
          refine me_bin ?_ ?_ me_int
          · exact op_modM
          refine me_bin ?_ ?_ me_int
          · exact op_fdivM
          exact (me_var 0)
        refine ms_one ?_
        refine ms_expr ?_
        refine me_append ?_ ?_
        · exact (me_var 2)
        refine ma_cons ?_ ma_nil
        exact (me_var 6)
      refine ms_one ?_
      refine ms_ret ?_
      refine me_callTy ?_ (by rfl) T.b_tuple PyProof.Rows.boot_tuple ?_
      · exact call_tupM
      refine ma_cons ?_ ma_nil
      exact (me_var 2)
theorem sc_is_ring:FnScope ["thing"] ["thing"] (defScope (top 9)):=⟨rfl,rfl,rfl,by decide +kernel,rfl,by decide +kernel,by decide +kernel⟩
theorem ok_is_ring {f:Addr} {fd:FuncData} (F:Fun K "is_ring" "is_ring" (top 9) f fd) (hm:mg "is_ring" = some (.ref f)) (T:Txt K mg) (G_is_whole:FnAt P w K mg base "is_whole" 1 PM.is_whole) (G_is_prime_within:FnAt P w K mg base "is_prime_within" 1 PM.is_prime_within):FnAt P w K mg base "is_ring" 2 PM.is_ring :=
  FnAt.mk F hm sc_is_ring (fun _ _ _ _ _ _ => len1 fun _ => rfl) fun cdv A outer s H E hr =>
    by
      refine ms_one ?_
      refine ms_ret ?_
      refine me_and ?_ ?_
      · refine me_fn G_is_whole hr (by decide) (by rfl) pass_out ?_
        refine ma_cons ?_ ma_nil
        exact (me_var 0)
      refine me_one ?_
      refine me_or ?_ ?_
      · refine me_cmp ?_ ?_ me_int
        · exact (op_eqM hr.units)
        exact (me_var 0)
      refine me_one ?_
      refine me_fn G_is_prime_within hr (by decide) (by rfl) pass_out ?_
      refine ma_cons ?_ ma_nil
      exact (me_var 0)
theorem sc_is_whole_within:FnScope ["thing","lowest","highest"] ["thing","lowest","highest"] (defScope (top 14)):=⟨rfl,rfl,rfl,by decide +kernel,rfl,by decide +kernel,by decide +kernel⟩
theorem ok_is_whole_within {f:Addr} {fd:FuncData} (F:Fun K "is_whole_within" "is_whole_within" (top 14) f fd) (hm:mg "is_whole_within" = some (.ref f)) (T:Txt K mg) (G_is_whole:FnAt P w K mg base "is_whole" 1 PM.is_whole):FnAt P w K mg base "is_whole_within" 2 PM.is_whole_within :=
  FnAt.mk F hm sc_is_whole_within (fun _ _ _ _ _ _ => len3 fun _ _ _ => rfl) fun cdv A outer s H E hr =>
    by
      refine ms_one ?_
      refine ms_ret ?_
      refine me_and ?_ ?_
      · refine me_fn G_is_whole hr (by decide) (by rfl) pass_out ?_
        refine ma_cons ?_ ma_nil
        exact (me_var 0)
      refine me_one ?_
      refine me_chain tells_le ?_ ?_ ?_ ?_ ?_
      · exact op_leM
      · exact op_leM
      · exact (me_var 1)
      · exact (me_var 0)
      exact (me_var 2)
theorem nd_0_settled_terms:(["exponents","number","ring"]:List Str).Nodup:=by decide +kernel
theorem nd_1_settled_terms:(["term"]:List Str).Nodup:=by decide +kernel
theorem sc_settled_terms:FnScope ["ring","pairs","terms"] ["ring","pairs"] (defScope (top 17)):=⟨rfl,rfl,rfl,by decide +kernel,rfl,by decide +kernel,by decide +kernel⟩
theorem ok_settled_terms {f:Addr} {fd:FuncData} (F:Fun K "settled_terms" "settled_terms" (top 17) f fd) (hm:mg "settled_terms" = some (.ref f)) (T:Txt K mg) (G_rest_in_ring:FnAt P w K mg base "rest_in_ring" 1 PM.rest_in_ring):FnAt P w K mg base "settled_terms" 2 PM.settled_terms :=
  FnAt.mk F hm sc_settled_terms (fun _ _ _ _ _ _ => len2 fun _ _ => rfl) fun cdv A outer s H E hr =>
    by
      refine ms_cons (MN.ms_setComp 2 (N:=["exponents","number","ring"]) (k:=2) sc_settled_terms.nd rfl rfl (capsA (cl:=[("ring",s.heap.objs.size + 1)]) (caps:=[0]) (by rfl) (.cons (c:=s.heap.objs.size + 1) (by rfl) (by rfl) (by first | exact Or.inl rfl | exact Or.inr rfl) (by first | exact Or.inl rfl | exact Or.inr rfl) .nil) (by rfl) (by rfl) (by rfl) (by rfl) (by rfl) (by rfl)) (mi_seq (me_var 1)) (fun _ _ _ _ => (mg_tup rfl (mgs_cons (mg_name 0 nd_0_settled_terms) (mgs_cons (mg_name 1 nd_0_settled_terms) mgs_nil)))) (fun _ _ _ _ => mif_nil) (fun _ _ _ _ => (me_tup (ma_cons (me_var 0) (ma_cons (me_fn G_rest_in_ring hr (by decide) (by rfl) passB (ma_cons (me_var 2) (ma_cons (me_var 1) ma_nil))) ma_nil))))) ?_
      refine ms_one ?_
      refine ms_ret ?_
      refine me_comp (N:=["term"]) (k:=1) rfl rfl (capsA (cl:=[]) (caps:=[]) (by rfl) .nil (by rfl) (by rfl) (by rfl) (by rfl) (by rfl) (by rfl)) ?_ (fun _ _ _ _ => ?_) (fun _ _ _ _ => ?_) (fun _ _ _ _ => ?_)
      · refine mi_seq ?_
        exact (me_var 2)
      · exact (mg_name 0 nd_1_settled_terms)
      · refine mif_one ?_
        refine mt_cmp ?_ ?_ me_int
        · exact (op_neM hr.units)
        refine me_ixM ?_ me_int
        exact (me_var 0)
      exact (me_var 0)
theorem sc__law_ring:FnScope ["_law_cell"] ["_law_cell"] (defScope (top 28)):=⟨rfl,rfl,rfl,by decide +kernel,rfl,by decide +kernel,by decide +kernel⟩
theorem ok__law_ring {f:Addr} {fd:FuncData} (F:Fun K "_law_ring" "_law_ring" (top 28) f fd) (hm:mg "_law_ring" = some (.ref f)) (T:Txt K mg) (G__law_prime:FnAt P w K mg base "_law_prime" 1 PM.law_prime):FnAt P w K mg base "_law_ring" 2 PM.law_ring :=
  FnAt.mk F hm sc__law_ring (fun _ _ _ _ _ _ => len1 fun _ => rfl) fun cdv A outer s H E hr =>
    by
      refine ms_cons ?_ ?_
      · refine ms_if ?_ ?_ ms_nil
        · refine mt_cmp ?_ ?_ me_int
          · exact (op_eqM hr.units)
          refine me_bin ?_ ?_ me_int
          · exact op_modM
          exact (me_var 0)
        refine ms_one ?_
        exact (ms_ret me_int)
      refine ms_one ?_
      refine ms_ret ?_
      refine me_fn G__law_prime hr (by decide) (by rfl) pass_out ?_
      refine ma_cons ?_ ma_nil
      refine me_bin ?_ ?_ me_int
      · exact op_fdivM
      exact (me_var 0)
theorem sc__law_gathered:FnScope ["_law_ring_here","_law_pairs_here","_law_found","_law_pair","_law_rows","_law_exponents_here"] ["_law_ring_here","_law_pairs_here"] (defScope (top 30)):=⟨rfl,rfl,rfl,by decide +kernel,rfl,by decide +kernel,by decide +kernel⟩
theorem ok__law_gathered {f:Addr} {fd:FuncData} (F:Fun K "_law_gathered" "_law_gathered" (top 30) f fd) (hm:mg "_law_gathered" = some (.ref f)) (T:Txt K mg) (G__law_settled:FnAt P w K mg base "_law_settled" 1 PM.law_settled):FnAt P w K mg base "_law_gathered" 2 PM.law_gathered :=
  FnAt.mk F hm sc__law_gathered (fun _ _ _ _ _ _ => len2 fun _ _ => rfl) fun cdv A outer s H E hr =>
    by
      refine ms_cons ?_ ?_
      · refine ms_setM ?_ ?_
        · exact sc__law_gathered.nd
        exact me_dnewT
      refine ms_cons ?_ ?_
      · refine ms_for own_pass rfl ?_ ?_ ?_
        · refine mi_seq ?_
          exact (me_var 1)
        · exact (mg_name 3 sc__law_gathered.nd)
        refine ms_one ?_
        refine ms_dput hr.units ?_ ?_ ?_
        · exact (me_var 2)
        · refine me_ixM ?_ me_int
          exact (me_var 3)
        refine me_bin ?_ ?_ ?_
        · exact op_addM
        · refine me_dget2 hr.units ?_ ?_ me_int
          · exact (me_var 2)
          refine me_ixM ?_ me_int
          exact (me_var 3)
        refine me_ixM ?_ me_int
        exact (me_var 3)
      refine ms_cons ?_ ?_
      · refine ms_setM ?_ ?_
        · exact sc__law_gathered.nd
        exact (me_lst ma_nil)
      refine ms_cons ?_ ?_
      · refine ms_for own_pass rfl ?_ ?_ ?_
        · refine mi_seq ?_
          refine me_sortD (by rfl) (by rfl) T.b_sorted PyProof.Rows.Boot.«sorted» ?_
          exact (me_var 2)
        · exact (mg_name 5 sc__law_gathered.nd)
        refine ms_one ?_
        refine ms_if ?_ ?_ ms_nil
        · refine mt_cmp ?_ ?_ me_int
          · exact (op_neM hr.units)
          refine me_fn G__law_settled hr (by decide) (by rfl) pass_out ?_
          refine ma_cons ?_ ?_
          · exact (me_var 0)
          refine ma_cons ?_ ma_nil
          refine me_dget hr.units ?_ ?_
          · exact (me_var 2)
          exact (me_var 5)
        refine ms_one ?_
        refine ms_expr ?_
        refine me_append ?_ ?_
        · exact (me_var 4)
        refine ma_cons ?_ ma_nil
        refine me_tup ?_
        refine ma_cons ?_ ?_
        · exact (me_var 5)
        refine ma_cons ?_ ma_nil
        refine me_fn G__law_settled hr (by decide) (by rfl) pass_out ?_
        refine ma_cons ?_ ?_
        · exact (me_var 0)
        refine ma_cons ?_ ma_nil
        refine me_dget hr.units ?_ ?_
        · exact (me_var 2)
        exact (me_var 5)
      refine ms_one ?_
      refine ms_ret ?_
      exact (me_var 4)
theorem nd_0_law_same:(["_law_one"]:List Str).Nodup:=by decide +kernel
theorem sc__law_same:FnScope ["_law_found","_law_due_here","_law_k"] ["_law_found","_law_due_here"] (defScope (top 31)):=⟨rfl,rfl,rfl,by decide +kernel,rfl,by decide +kernel,by decide +kernel⟩
theorem ok__law_same {f:Addr} {fd:FuncData} (F:Fun K "_law_same" "_law_same" (top 31) f fd) (hm:mg "_law_same" = some (.ref f)) (T:Txt K mg) (G__law_whole:FnAt P w K mg base "_law_whole" 1 PM.law_whole):FnAt P w K mg base "_law_same" 2 PM.law_same_v2 :=
  FnAt.mk F hm sc__law_same (fun _ _ _ _ _ _ => len2 fun _ _ => rfl) fun cdv A outer s H E hr =>
    by
      refine ms_cons ?_ ?_
      · refine ms_if ?_ ?_ ms_nil
        · refine mt_w ?_
          refine mw_or ?_ ?_
          · refine mt_not ?_
            refine mt_val ?_
            refine me_isT kitT_list (by rfl) T.b_isinstance (by rfl) T.b_list PyProof.Rows.boot_list ?_
            exact (me_var 0)
          refine mw_or1 ?_
          refine mt_cmp ?_ ?_ ?_
          · exact (op_neM hr.units)
          · refine me_callB ?_ (by rfl) T.b_len PySem.boot_len ?_
            · exact call_lenM
            refine ma_cons ?_ ma_nil
            exact (me_var 0)
          refine me_callB ?_ (by rfl) T.b_len PySem.boot_len ?_
          · exact call_lenM
          refine ma_cons ?_ ma_nil
          exact (me_var 1)
        refine ms_one ?_
        exact (ms_ret me_bl)
      refine ms_cons ?_ ?_
      · refine ms_for own_pass rfl ?_ ?_ ?_
        · refine mi_range1 (by rfl) T.b_range ?_
          refine ma_cons ?_ ma_nil
          refine me_callB ?_ (by rfl) T.b_len PySem.boot_len ?_
          · exact call_lenM
          refine ma_cons ?_ ma_nil
          exact (me_var 1)
        · exact (mg_name 2 sc__law_same.nd)
        refine ms_cons ?_ ?_
        · refine ms_if ?_ ?_ ms_nil
          · refine mt_w ?_
            refine mw_or ?_ ?_
            · refine mt_not ?_
              refine mt_val ?_
              refine me_isT kitT_tuple (by rfl) T.b_isinstance (by rfl) T.b_tuple PyProof.Rows.boot_tuple ?_
              refine me_ixM ?_ ?_
              · exact (me_var 0)
              exact (me_var 2)
            refine mw_or ?_ ?_
            · refine mt_cmp ?_ ?_ me_int
              · exact (op_neM hr.units)
              refine me_callB ?_ (by rfl) T.b_len PySem.boot_len ?_
              · exact call_lenM
              refine ma_cons ?_ ma_nil
              refine me_ixM ?_ ?_
              · exact (me_var 0)
              exact (me_var 2)
            refine mw_or1 ?_
            refine mt_not ?_
            refine mt_val ?_
            refine me_fn G__law_whole hr (by decide) (by rfl) pass_out ?_
            refine ma_cons ?_ ma_nil
            refine me_ixM ?_ me_int
            refine me_ixM ?_ ?_
            · exact (me_var 0)
            exact (me_var 2)
          refine ms_one ?_
          exact (ms_ret me_bl)
        refine ms_one ?_
        refine ms_if ?_ ?_ ms_nil
        · refine mt_w ?_
          refine mw_or ?_ ?_
          · refine mt_not ?_
            refine mt_val ?_
            refine me_isT kitT_tuple (by rfl) T.b_isinstance (by rfl) T.b_tuple PyProof.Rows.boot_tuple ?_
            refine me_ixM ?_ me_int
            refine me_ixM ?_ ?_
            · exact (me_var 0)
            exact (me_var 2)
          refine mw_or1 ?_
          refine mt_cmp ?_ ?_ ?_
          · exact (op_neM hr.units)
          · refine me_comp (N:=["_law_one"]) (k:=1) rfl rfl (capsA (cl:=[]) (caps:=[]) (by rfl) .nil (by rfl) (by rfl) (by rfl) (by rfl) (by rfl) (by rfl)) ?_ (fun _ _ _ _ => ?_) (fun _ _ _ _ => ?_) (fun _ _ _ _ => ?_)
            · refine mi_seq ?_
              refine me_ixM ?_ me_int
              refine me_ixM ?_ ?_
              · exact (me_var 0)
              exact (me_var 2)
            · exact (mg_name 0 nd_0_law_same)
            · refine mif_one ?_
              refine mt_not ?_
              refine mt_val ?_
              refine me_fn G__law_whole hr (by decide) (by rfl) passB ?_
              refine ma_cons ?_ ma_nil
              exact (me_var 0)
            exact (me_var 0)
          exact (me_lst ma_nil)
        refine ms_one ?_
        exact (ms_ret me_bl)
      refine ms_one ?_
      refine ms_ret ?_
      refine me_cmp ?_ ?_ ?_
      · exact (op_eqM hr.units)
      · exact (me_var 0)
      exact (me_var 1)
theorem sc__law_pairs:FnScope ["_law_script","_law_place","_law_many","_law_size","_law_pairs_here","_law_k","_law_exponents_here"] ["_law_script","_law_place","_law_many","_law_size"] (defScope (top 34)):=⟨rfl,rfl,rfl,by decide +kernel,rfl,by decide +kernel,by decide +kernel⟩
theorem ok__law_pairs {f:Addr} {fd:FuncData} (F:Fun K "_law_pairs" "_law_pairs" (top 34) f fd) (hm:mg "_law_pairs" = some (.ref f)) (T:Txt K mg) (G__law_cell_at:FnAt P w K mg base "_law_cell_at" 1 PM.law_cell_at) (G__law_number:FnAt P w K mg base "_law_number" 1 PM.law_number) (G__law_exponents:FnAt P w K mg base "_law_exponents" 1 PM.law_exponents):FnAt P w K mg base "_law_pairs" 2 PM.law_pairs :=
  FnAt.mk F hm sc__law_pairs (fun _ _ _ _ _ _ => len4 fun _ _ _ _ => rfl) fun cdv A outer s H E hr =>
    by
      refine ms_cons ?_ ?_
      · refine ms_setM ?_ ?_
        · exact sc__law_pairs.nd
        exact (me_lst ma_nil)
      refine ms_cons ?_ ?_
      · refine ms_for own_pass rfl ?_ ?_ ?_
        · refine mi_range1 (by rfl) T.b_range ?_
          refine ma_cons ?_ ma_nil
          exact (me_var 3)
        · exact (mg_name 5 sc__law_pairs.nd)
        refine ms_cons ?_ ?_
        · refine ms_setM ?_ ?_
          · exact sc__law_pairs.nd
          refine me_fn G__law_exponents hr (by decide) (by rfl) pass_out ?_
          refine ma_cons ?_ ?_
          · refine me_fn G__law_cell_at hr (by decide) (by rfl) pass_out ?_
            refine ma_cons ?_ ?_
            · exact (me_var 0)
            refine ma_cons ?_ ma_nil
            refine me_bin ?_ ?_ ?_
            · exact op_addM
            · exact (me_var 1)
            refine me_bin ?_ me_int ?_
            · exact op_mulM
            exact (me_var 5)
          refine ma_cons ?_ ma_nil
          exact (me_var 2)
        refine ms_one ?_
        refine ms_expr ?_
        refine me_append ?_ ?_
        · exact (me_var 4)
        refine ma_cons ?_ ma_nil
        refine me_tup ?_
        refine ma_cons ?_ ?_
        · exact (me_var 6)
        refine ma_cons ?_ ma_nil
        refine me_fn G__law_number hr (by decide) (by rfl) pass_out ?_
        refine ma_cons ?_ ma_nil
        refine me_fn G__law_cell_at hr (by decide) (by rfl) pass_out ?_
        refine ma_cons ?_ ?_
        · exact (me_var 0)
        refine ma_cons ?_ ma_nil
        refine me_bin ?_ ?_ me_int
        · exact op_addM
        refine me_bin ?_ ?_ ?_
        · exact op_addM
        · exact (me_var 1)
        refine me_bin ?_ me_int ?_
        · exact op_mulM
        exact (me_var 5)
      refine ms_one ?_
      refine ms_ret ?_
      exact (me_var 4)
theorem sc_check_ring:FnScope ["ring"] ["ring"] (defScope (top 10)):=⟨rfl,rfl,rfl,by decide +kernel,rfl,by decide +kernel,by decide +kernel⟩
theorem ok_check_ring {f:Addr} {fd:FuncData} (F:Fun K "check_ring" "check_ring" (top 10) f fd) (hm:mg "check_ring" = some (.ref f)) (T:Txt K mg) (G_is_ring:FnAt P w K mg base "is_ring" 2 PM.is_ring):FnAt P w K mg base "check_ring" 3 PM.check_ring :=
  FnAt.mk F hm sc_check_ring (fun _ _ _ _ _ _ => len1 fun _ => rfl) fun cdv A outer s H E hr =>
    by
      refine ms_one ?_
      refine ms_if ?_ ?_ ms_nil
      · refine mt_not ?_
        refine mt_val ?_
        refine me_fn G_is_ring hr (by decide) (by rfl) pass_out ?_
        refine ma_cons ?_ ma_nil
        exact (me_var 0)
      refine ms_one ?_
      refine ms_raiseC own_raises rfl T.c_NoRing (by rfl) ?_
      exact (ma_str ma_nil)
theorem sc_check_unknowns:FnScope ["many"] ["many"] (defScope (top 15)):=⟨rfl,rfl,rfl,by decide +kernel,rfl,by decide +kernel,by decide +kernel⟩
theorem ok_check_unknowns {f:Addr} {fd:FuncData} (F:Fun K "check_unknowns" "check_unknowns" (top 15) f fd) (hm:mg "check_unknowns" = some (.ref f)) (T:Txt K mg) (G_is_whole_within:FnAt P w K mg base "is_whole_within" 2 PM.is_whole_within):FnAt P w K mg base "check_unknowns" 3 PM.check_unknowns :=
  FnAt.mk F hm sc_check_unknowns (fun _ _ _ _ _ _ => len1 fun _ => rfl) fun cdv A outer s H E hr =>
    by
      refine ms_one ?_
      refine ms_if ?_ ?_ ms_nil
      · refine mt_not ?_
        refine mt_val ?_
        refine me_fn G_is_whole_within hr (by decide) (by rfl) pass_out ?_
        refine ma_cons ?_ ?_
        · exact (me_var 0)
        refine ma_int ?_
        refine ma_cons ?_ ma_nil
        exact (me_glob (by rfl) T.g_MOST_UNKNOWNS)
      refine ms_one ?_
      refine ms_raiseC own_raises rfl T.c_NoUnknowns (by rfl) ?_
      exact (ma_str ma_nil)
theorem nd_0_sum_of_totals:(["exponents","totals"]:List Str).Nodup:=by decide +kernel
theorem sc_sum_of_totals:FnScope ["ring","totals"] ["ring","totals"] (defScope (top 18)):=⟨rfl,rfl,rfl,by decide +kernel,rfl,by decide +kernel,by decide +kernel⟩
theorem ok_sum_of_totals {f:Addr} {fd:FuncData} (F:Fun K "sum_of_totals" "sum_of_totals" (top 18) f fd) (hm:mg "sum_of_totals" = some (.ref f)) (T:Txt K mg) (G_settled_terms:FnAt P w K mg base "settled_terms" 2 PM.settled_terms):FnAt P w K mg base "sum_of_totals" 3 PM.sum_of_totals :=
  FnAt.mk F hm sc_sum_of_totals (fun _ _ _ _ _ _ => len2 fun _ _ => rfl) fun cdv A outer s H E hr =>
    by
      refine ms_one ?_
      refine ms_ret ?_
      refine me_fn G_settled_terms hr (by decide) (by rfl) pass_out ?_
      refine ma_cons ?_ ?_
      · exact (me_var 0)
      refine ma_cons ?_ ma_nil
      refine me_comp (N:=["exponents","totals"]) (k:=1) rfl rfl (capsA (cl:=[("totals",s.heap.objs.size + 1)]) (caps:=[1]) (by rfl) (.cons (c:=s.heap.objs.size + 1) (by rfl) (by rfl) (by first | exact Or.inl rfl | exact Or.inr rfl) (by first | exact Or.inl rfl | exact Or.inr rfl) .nil) (by rfl) (by rfl) (by rfl) (by rfl) (by rfl) (by rfl)) ?_ (fun _ _ _ _ => ?_) (fun _ _ _ _ => mif_nil) (fun _ _ _ _ => ?_)
      · refine mi_seq ?_
        refine me_sortD (by rfl) (by rfl) T.b_sorted PyProof.Rows.Boot.«sorted» ?_
        exact (me_var 1)
      · exact (mg_name 0 nd_0_sum_of_totals)
      refine me_tup ?_
      refine ma_cons ?_ ?_
      · exact (me_var 0)
      refine ma_cons ?_ ma_nil
      refine me_dget hr.units ?_ ?_
      · exact (me_var 1)
      exact (me_var 0)
theorem nd_0_law_due:(["_law_term"]:List Str).Nodup:=by decide +kernel
theorem nd_1_law_due:(["_law_term","_law_number_here"]:List Str).Nodup:=by decide +kernel
theorem sc__law_due:FnScope ["_law_ring_here","_law_ones","_law_others","_law_number_here","_law_many","_law_due_here"] ["_law_ring_here","_law_ones","_law_others","_law_number_here","_law_many"] (defScope (top 36)):=⟨rfl,rfl,rfl,by decide +kernel,rfl,by decide +kernel,by decide +kernel⟩
theorem ok__law_due {f:Addr} {fd:FuncData} (F:Fun K "_law_due" "_law_due" (top 36) f fd) (hm:mg "_law_due" = some (.ref f)) (T:Txt K mg) (G__law_gathered:FnAt P w K mg base "_law_gathered" 2 PM.law_gathered):FnAt P w K mg base "_law_due" 3 PM.law_due_v2 :=
  FnAt.mk F hm sc__law_due (fun _ _ _ _ _ _ => len5 fun _ _ _ _ _ => rfl) fun cdv A outer s H E hr =>
    by
      refine ms_cons ?_ ?_
      · refine ms_setM ?_ ?_
        · exact sc__law_due.nd
        refine me_lst ?_
        refine ma_cons ?_ ?_
        · refine me_fn G__law_gathered hr (by decide) (by rfl) pass_out ?_
          refine ma_cons ?_ ?_
          · exact (me_var 0)
          refine ma_cons ?_ ma_nil
          refine me_bin ?_ ?_ ?_
          · exact op_addM
          · exact (me_var 1)
          exact (me_var 2)
        refine ma_cons ?_ ma_nil
        refine me_fn G__law_gathered hr (by decide) (by rfl) pass_out ?_
        refine ma_cons ?_ ?_
        · exact (me_var 0)
        refine ma_cons ?_ ma_nil
        refine me_bin ?_ ?_ ?_
        · exact op_addM
        · exact (me_var 1)
        refine me_comp (N:=["_law_term"]) (k:=1) rfl rfl (capsA (cl:=[]) (caps:=[]) (by rfl) .nil (by rfl) (by rfl) (by rfl) (by rfl) (by rfl) (by rfl)) ?_ (fun _ _ _ _ => ?_) (fun _ _ _ _ => mif_nil) (fun _ _ _ _ => ?_)
        · refine mi_seq ?_
          exact (me_var 2)
        · exact (mg_name 0 nd_0_law_due)
        refine me_tup ?_
        refine ma_cons ?_ ?_
        · refine me_ixM ?_ me_int
          exact (me_var 0)
        refine ma_cons ?_ ma_nil
        refine me_neg ?_
        refine me_ixM ?_ me_int
        exact (me_var 0)
      refine ms_cons ?_ ?_
      · refine ms_expr ?_
        refine me_append ?_ ?_
        · exact (me_var 5)
        refine ma_cons ?_ ma_nil
        refine me_fn G__law_gathered hr (by decide) (by rfl) pass_out ?_
        refine ma_cons ?_ ?_
        · exact (me_var 0)
        refine ma_cons ?_ ma_nil
        refine me_comp (N:=["_law_term","_law_number_here"]) (k:=1) rfl rfl (capsA (cl:=[("_law_number_here",s.heap.objs.size + 1)]) (caps:=[3]) (by rfl) (.cons (c:=s.heap.objs.size + 1) (by rfl) (by rfl) (by first | exact Or.inl rfl | exact Or.inr rfl) (by first | exact Or.inl rfl | exact Or.inr rfl) .nil) (by rfl) (by rfl) (by rfl) (by rfl) (by rfl) (by rfl)) ?_ (fun _ _ _ _ => ?_) (fun _ _ _ _ => mif_nil) (fun _ _ _ _ => ?_)
        · refine mi_seq ?_
          exact (me_var 1)
        · exact (mg_name 0 nd_1_law_due)
        refine me_tup ?_
        refine ma_cons ?_ ?_
        · refine me_ixM ?_ me_int
          exact (me_var 0)
        refine ma_cons ?_ ma_nil
        refine me_bin ?_ ?_ ?_
        · exact op_mulM
        · exact (me_var 1)
        refine me_ixM ?_ me_int
        exact (me_var 0)
      refine ms_cons ?_ ?_
      · refine ms_expr ?_
        refine me_append ?_ ?_
        · exact (me_var 5)
        refine ma_cons ?_ ma_nil
        refine me_fn G__law_gathered hr (by decide) (by rfl) pass_out ?_
        refine ma_cons ?_ ?_
        · exact (me_var 0)
        refine ma_cons ?_ ma_nil
        refine me_lst ?_
        refine ma_cons ?_ ma_nil
        refine me_tup ?_
        refine ma_cons ?_ ?_
        · refine me_callTy ?_ (by rfl) T.b_tuple PyProof.Rows.boot_tuple ?_
          · exact call_tupM
          refine ma_cons ?_ ma_nil
          refine me_bin ?_ ?_ ?_
          · exact op_mulM
          · refine me_lst ?_
            exact (ma_int ma_nil)
          exact (me_var 4)
        refine ma_cons ?_ ma_nil
        exact (me_var 3)
      refine ms_one ?_
      refine ms_ret ?_
      exact (me_var 5)
theorem sc_constant:FnScope ["ring","many","number"] ["ring","many","number"] (defScope (top 19)):=⟨rfl,rfl,rfl,by decide +kernel,rfl,by decide +kernel,by decide +kernel⟩
theorem ok_constant {f:Addr} {fd:FuncData} (F:Fun K "constant" "constant" (top 19) f fd) (hm:mg "constant" = some (.ref f)) (T:Txt K mg) (G_settled_terms:FnAt P w K mg base "settled_terms" 2 PM.settled_terms) (G_check_ring:FnAt P w K mg base "check_ring" 3 PM.check_ring) (G_check_unknowns:FnAt P w K mg base "check_unknowns" 3 PM.check_unknowns):FnAt P w K mg base "constant" 4 PM.constant :=
  FnAt.mk F hm sc_constant (fun _ _ _ _ _ _ => len3 fun _ _ _ => rfl) fun cdv A outer s H E hr =>
    by
      refine ms_cons ?_ ?_
      · refine ms_expr ?_
        refine me_fn G_check_ring hr (by decide) (by rfl) pass_out ?_
        refine ma_cons ?_ ma_nil
        exact (me_var 0)
      refine ms_cons ?_ ?_
      · refine ms_expr ?_
        refine me_fn G_check_unknowns hr (by decide) (by rfl) pass_out ?_
        refine ma_cons ?_ ma_nil
        exact (me_var 1)
      refine ms_one ?_
      refine ms_ret ?_
      refine me_fn G_settled_terms hr (by decide) (by rfl) pass_out ?_
      refine ma_cons ?_ ?_
      · exact (me_var 0)
      refine ma_cons ?_ ma_nil
      refine me_lst ?_
      refine ma_cons ?_ ma_nil
      refine me_tup ?_
      refine ma_cons ?_ ?_
      · refine me_bin ?_ ?_ ?_
        · exact op_mulX
        · refine me_tup ?_
          exact (ma_int ma_nil)
        exact (me_var 1)
      refine ma_cons ?_ ma_nil
      exact (me_var 2)
theorem sc_with_multiple:FnScope ["ring","ones","others","factor","totals","exponents","number"] ["ring","ones","others","factor"] (defScope (top 22)):=⟨rfl,rfl,rfl,by decide +kernel,rfl,by decide +kernel,by decide +kernel⟩
theorem ok_with_multiple {f:Addr} {fd:FuncData} (F:Fun K "with_multiple" "with_multiple" (top 22) f fd) (hm:mg "with_multiple" = some (.ref f)) (T:Txt K mg) (G_add_to:FnAt P w K mg base "add_to" 1 PM.add_to) (G_sum_of_totals:FnAt P w K mg base "sum_of_totals" 3 PM.sum_of_totals):FnAt P w K mg base "with_multiple" 4 PM.with_multiple :=
  FnAt.mk F hm sc_with_multiple (fun _ _ _ _ _ _ => len4 fun _ _ _ _ => rfl) fun cdv A outer s H E hr =>
    by
      refine ms_cons ?_ ?_
      · refine ms_setM ?_ ?_
        · exact sc_with_multiple.nd
        refine me_callTy ?_ (by rfl) T.b_dict PyProof.Rows.boot_dict ?_
        · exact (call_dctM hr.hd hr.units)
        refine ma_cons ?_ ma_nil
        exact (me_var 1)
      refine ms_cons ?_ ?_
      · refine ms_for own_pass rfl ?_ ?_ ?_
        · refine mi_seq ?_
          exact (me_var 2)
        · refine mg_tup rfl ?_
          refine mgs_cons ?_ ?_
          · exact (mg_name 5 sc_with_multiple.nd)
          refine mgs_cons ?_ mgs_nil
          exact (mg_name 6 sc_with_multiple.nd)
        refine ms_one ?_
        refine ms_expr ?_
        refine me_fn G_add_to hr (by decide) (by rfl) pass_out ?_
        refine ma_cons ?_ ?_
        · exact (me_var 4)
        refine ma_cons ?_ ?_
        · exact (me_var 5)
        refine ma_cons ?_ ma_nil
        refine me_bin ?_ ?_ ?_
        · exact op_mulM
        · exact (me_var 3)
        exact (me_var 6)
      refine ms_one ?_
      refine ms_ret ?_
      refine me_fn G_sum_of_totals hr (by decide) (by rfl) pass_out ?_
      refine ma_cons ?_ ?_
      · exact (me_var 0)
      refine ma_cons ?_ ma_nil
      exact (me_var 4)
theorem nd_0_scaled:(["exponents","own","number"]:List Str).Nodup:=by decide +kernel
theorem sc_scaled:FnScope ["ring","row","number"] ["ring","row","number"] (defScope (top 23)):=⟨rfl,rfl,rfl,by decide +kernel,rfl,by decide +kernel,by decide +kernel⟩
theorem ok_scaled {f:Addr} {fd:FuncData} (F:Fun K "scaled" "scaled" (top 23) f fd) (hm:mg "scaled" = some (.ref f)) (T:Txt K mg) (G_settled_terms:FnAt P w K mg base "settled_terms" 2 PM.settled_terms) (G_check_ring:FnAt P w K mg base "check_ring" 3 PM.check_ring):FnAt P w K mg base "scaled" 4 PM.scaled :=
  FnAt.mk F hm sc_scaled (fun _ _ _ _ _ _ => len3 fun _ _ _ => rfl) fun cdv A outer s H E hr =>
    by
      refine ms_cons ?_ ?_
      · refine ms_expr ?_
        refine me_fn G_check_ring hr (by decide) (by rfl) pass_out ?_
        refine ma_cons ?_ ma_nil
        exact (me_var 0)
      refine ms_one ?_
      refine ms_ret ?_
      refine me_fn G_settled_terms hr (by decide) (by rfl) pass_out ?_
      refine ma_cons ?_ ?_
      · exact (me_var 0)
      refine ma_cons ?_ ma_nil
      refine me_comp (N:=["exponents","own","number"]) (k:=2) rfl rfl (capsA (cl:=[("number",s.heap.objs.size + 1)]) (caps:=[2]) (by rfl) (.cons (c:=s.heap.objs.size + 1) (by rfl) (by rfl) (by first | exact Or.inl rfl | exact Or.inr rfl) (by first | exact Or.inl rfl | exact Or.inr rfl) .nil) (by rfl) (by rfl) (by rfl) (by rfl) (by rfl) (by rfl)) ?_ (fun _ _ _ _ => ?_) (fun _ _ _ _ => mif_nil) (fun _ _ _ _ => ?_)
      · refine mi_seq ?_
        exact (me_var 1)
      · refine mg_tup rfl ?_
        refine mgs_cons ?_ ?_
        · exact (mg_name 0 nd_0_scaled)
        refine mgs_cons ?_ mgs_nil
        exact (mg_name 1 nd_0_scaled)
      refine me_tup ?_
      refine ma_cons ?_ ?_
      · exact (me_var 0)
      refine ma_cons ?_ ma_nil
      refine me_bin ?_ ?_ ?_
      · exact op_mulM
      · exact (me_var 1)
      exact (me_var 2)
theorem sc_plus:FnScope ["ring","ones","others"] ["ring","ones","others"] (defScope (top 20)):=⟨rfl,rfl,rfl,by decide +kernel,rfl,by decide +kernel,by decide +kernel⟩
theorem ok_plus {f:Addr} {fd:FuncData} (F:Fun K "plus" "plus" (top 20) f fd) (hm:mg "plus" = some (.ref f)) (T:Txt K mg) (G_check_ring:FnAt P w K mg base "check_ring" 3 PM.check_ring) (G_with_multiple:FnAt P w K mg base "with_multiple" 4 PM.with_multiple):FnAt P w K mg base "plus" 5 PM.plus :=
  FnAt.mk F hm sc_plus (fun _ _ _ _ _ _ => len3 fun _ _ _ => rfl) fun cdv A outer s H E hr =>
    by
      refine ms_cons ?_ ?_
      · refine ms_expr ?_
        refine me_fn G_check_ring hr (by decide) (by rfl) pass_out ?_
        refine ma_cons ?_ ma_nil
        exact (me_var 0)
      refine ms_one ?_
      refine ms_ret ?_
      refine me_fn G_with_multiple hr (by decide) (by rfl) pass_out ?_
      refine ma_cons ?_ ?_
      · exact (me_var 0)
      refine ma_cons ?_ ?_
      · exact (me_var 1)
      refine ma_cons ?_ ?_
      · exact (me_var 2)
      exact (ma_int ma_nil)
theorem sc_minus:FnScope ["ring","ones","others"] ["ring","ones","others"] (defScope (top 21)):=⟨rfl,rfl,rfl,by decide +kernel,rfl,by decide +kernel,by decide +kernel⟩
theorem ok_minus {f:Addr} {fd:FuncData} (F:Fun K "minus" "minus" (top 21) f fd) (hm:mg "minus" = some (.ref f)) (T:Txt K mg) (G_check_ring:FnAt P w K mg base "check_ring" 3 PM.check_ring) (G_with_multiple:FnAt P w K mg base "with_multiple" 4 PM.with_multiple):FnAt P w K mg base "minus" 5 PM.minus :=
  FnAt.mk F hm sc_minus (fun _ _ _ _ _ _ => len3 fun _ _ _ => rfl) fun cdv A outer s H E hr =>
    by
      refine ms_cons ?_ ?_
      · refine ms_expr ?_
        refine me_fn G_check_ring hr (by decide) (by rfl) pass_out ?_
        refine ma_cons ?_ ma_nil
        exact (me_var 0)
      refine ms_one ?_
      refine ms_ret ?_
      refine me_fn G_with_multiple hr (by decide) (by rfl) pass_out ?_
      refine ma_cons ?_ ?_
      · exact (me_var 0)
      refine ma_cons ?_ ?_
      · exact (me_var 1)
      refine ma_cons ?_ ?_
      · exact (me_var 2)
      refine ma_cons ?_ ma_nil
      exact (me_neg me_int)
theorem sc__law_told:FnScope ["_law_ring_here","_law_ones","_law_others","_law_number_here","_law_many","_law_found"] ["_law_ring_here","_law_ones","_law_others","_law_number_here","_law_many"] (defScope (top 35)):=⟨rfl,rfl,rfl,by decide +kernel,rfl,by decide +kernel,by decide +kernel⟩
theorem ok__law_told {f:Addr} {fd:FuncData} (F:Fun K "_law_told" "_law_told" (top 35) f fd) (hm:mg "_law_told" = some (.ref f)) (T:Txt K mg) (G_constant:FnAt P w K mg base "constant" 4 PM.constant) (G_scaled:FnAt P w K mg base "scaled" 4 PM.scaled) (G_plus:FnAt P w K mg base "plus" 5 PM.plus) (G_minus:FnAt P w K mg base "minus" 5 PM.minus):FnAt P w K mg base "_law_told" 6 PM.law_told_v2 :=
  FnAt.mk F hm sc__law_told (fun _ _ _ _ _ _ => len5 fun _ _ _ _ _ => rfl) fun cdv A outer s H E hr =>
    by
      refine ms_cons ?_ ?_
      · refine ms_setM ?_ ?_
        · exact sc__law_told.nd
        refine me_lst ?_
        refine ma_cons ?_ ?_
        · refine me_fn G_plus hr (by decide) (by rfl) pass_out ?_
          refine ma_cons ?_ ?_
          · exact (me_var 0)
          refine ma_cons ?_ ?_
          · exact (me_var 1)
          refine ma_cons ?_ ma_nil
          exact (me_var 2)
        refine ma_cons ?_ ?_
        · refine me_fn G_minus hr (by decide) (by rfl) pass_out ?_
          refine ma_cons ?_ ?_
          · exact (me_var 0)
          refine ma_cons ?_ ?_
          · exact (me_var 1)
          refine ma_cons ?_ ma_nil
          exact (me_var 2)
        refine ma_cons ?_ ma_nil
        refine me_fn G_scaled hr (by decide) (by rfl) pass_out ?_
        refine ma_cons ?_ ?_
        · exact (me_var 0)
        refine ma_cons ?_ ?_
        · exact (me_var 1)
        refine ma_cons ?_ ma_nil
        exact (me_var 3)
      refine ms_one ?_
      refine ms_ret ?_
      refine me_bin ?_ ?_ ?_
      · exact op_addM
      · exact (me_var 5)
      refine me_lst ?_
      refine ma_cons ?_ ma_nil
      refine me_fn G_constant hr (by decide) (by rfl) pass_out ?_
      refine ma_cons ?_ ?_
      · exact (me_var 0)
      refine ma_cons ?_ ?_
      · exact (me_var 4)
      refine ma_cons ?_ ma_nil
      exact (me_var 3)
theorem nd_0_law:(["_law_k","_law_many","_law_mix"]:List Str).Nodup:=by decide +kernel
theorem nd_1_law:(["_law_term"]:List Str).Nodup:=by decide +kernel
theorem sc_law:FnScope ["_law_script","_law_ring_here","_law_second","_law_third","_law_many","_law_ones","_law_others","_law_mix","_law_pairs_here","_law_number_here","_law_handed","_law_due_here","_law_turn","_law_found","_law_k"] ["_law_script"] (defScope (top 37)):=⟨rfl,rfl,rfl,by decide +kernel,rfl,by decide +kernel,by decide +kernel⟩
theorem law_fn {f:Addr} {fd:FuncData} (F:Fun K "law" "law" (top 37) f fd) (T:Txt K mg) (G__law_cell_at:FnAt P w K mg base "_law_cell_at" 1 PM.law_cell_at) (G__law_number:FnAt P w K mg base "_law_number" 1 PM.law_number) (G__law_exponents:FnAt P w K mg base "_law_exponents" 1 PM.law_exponents) (G__law_ring:FnAt P w K mg base "_law_ring" 2 PM.law_ring) (G__law_gathered:FnAt P w K mg base "_law_gathered" 2 PM.law_gathered) (G__law_same:FnAt P w K mg base "_law_same" 2 PM.law_same_v2) (G__law_pairs:FnAt P w K mg base "_law_pairs" 2 PM.law_pairs) (G__law_due:FnAt P w K mg base "_law_due" 3 PM.law_due_v2) (G__law_told:FnAt P w K mg base "_law_told" 6 PM.law_told_v2):FnOk P w K mg base (CX1 P w) 7 f fd ["_law_script"] (spM ⟨K,mg,[]⟩ PM.law_v9) :=
  fn_okM F sc_law fun cdv A outer s H E hr =>
    by
      refine ms_cons ?_ ?_
      · refine ms_setM ?_ ?_
        · exact sc_law.nd
        refine me_fn G__law_ring hr (by decide) (by rfl) pass_out ?_
        refine ma_cons ?_ ma_nil
        refine me_fn G__law_cell_at hr (by decide) (by rfl) pass_out ?_
        refine ma_cons ?_ ?_
        · exact (me_var 0)
        exact (ma_int ma_nil)
      refine ms_cons ?_ ?_
      · refine ms_setM ?_ ?_
        · exact sc_law.nd
        refine me_fn G__law_cell_at hr (by decide) (by rfl) pass_out ?_
        refine ma_cons ?_ ?_
        · exact (me_var 0)
        exact (ma_int ma_nil)
      refine ms_cons ?_ ?_
      · refine ms_setM ?_ ?_
        · exact sc_law.nd
        refine me_fn G__law_cell_at hr (by decide) (by rfl) pass_out ?_
        refine ma_cons ?_ ?_
        · exact (me_var 0)
        exact (ma_int ma_nil)
      refine ms_cons ?_ ?_
      · refine ms_setM ?_ ?_
        · exact sc_law.nd
        refine me_bin ?_ me_int ?_
        · exact op_addM
        refine me_bin ?_ ?_ me_int
        · exact op_modM
        exact (me_var 2)
      refine ms_cons ?_ ?_
      · refine ms_setM ?_ ?_
        · exact sc_law.nd
        refine me_fn G__law_gathered hr (by decide) (by rfl) pass_out ?_
        refine ma_cons ?_ ?_
        · exact (me_var 1)
        refine ma_cons ?_ ma_nil
        refine me_fn G__law_pairs hr (by decide) (by rfl) pass_out ?_
        refine ma_cons ?_ ?_
        · exact (me_var 0)
        refine ma_int ?_
        refine ma_cons ?_ ?_
        · exact (me_var 4)
        refine ma_cons ?_ ma_nil
        refine me_bin ?_ ?_ me_int
        · exact op_modM
        refine me_bin ?_ ?_ me_int
        · exact op_fdivM
        exact (me_var 2)
      refine ms_cons ?_ ?_
      · refine ms_setM ?_ ?_
        · exact sc_law.nd
        refine me_fn G__law_gathered hr (by decide) (by rfl) pass_out ?_
        refine ma_cons ?_ ?_
        · exact (me_var 1)
        refine ma_cons ?_ ma_nil
        refine me_fn G__law_pairs hr (by decide) (by rfl) pass_out ?_
        refine ma_cons ?_ ?_
        · exact (me_var 0)
        refine ma_int ?_
        refine ma_cons ?_ ?_
        · exact (me_var 4)
        refine ma_cons ?_ ma_nil
        refine me_bin ?_ ?_ me_int
        · exact op_modM
        exact (me_var 3)
      refine ms_cons ?_ ?_
      · refine ms_if ?_ ?_ ms_nil
        · refine mt_cmp ?_ ?_ me_int
          · exact (op_eqM hr.units)
          refine me_bin ?_ ?_ me_int
          · exact op_modM
          refine me_bin ?_ ?_ me_int
          · exact op_fdivM
          exact (me_var 3)
        refine ms_cons ?_ ?_
        · refine ms_setM ?_ ?_
          · exact sc_law.nd
          refine me_fn G__law_cell_at hr (by decide) (by rfl) pass_out ?_
          refine ma_cons ?_ ?_
          · exact (me_var 0)
          exact (ma_int ma_nil)
        refine ms_cons (MN.ms_setComp 8 (N:=["_law_k","_law_many","_law_mix"]) (k:=1) sc_law.nd rfl rfl (capsR (cl:=[("_law_many",s.heap.objs.size + 1),("_law_mix",s.heap.objs.size + 2)]) (cl':=[("_law_mix",s.heap.objs.size + 2),("_law_many",s.heap.objs.size + 1)]) (caps:=[4,7]) (caps':=[7,4]) (by rfl) (.cons (c:=s.heap.objs.size + 1) (by rfl) (by rfl) (by first | exact Or.inl rfl | exact Or.inr rfl) (by first | exact Or.inl rfl | exact Or.inr rfl) (.cons (c:=s.heap.objs.size + 2) (by rfl) (by rfl) (by first | exact Or.inl rfl | exact Or.inr rfl) (by first | exact Or.inl rfl | exact Or.inr rfl) .nil)) (.cons (c:=s.heap.objs.size + 2) (by rfl) (by rfl) (by first | exact Or.inl rfl | exact Or.inr rfl) (by first | exact Or.inl rfl | exact Or.inr rfl) (.cons (c:=s.heap.objs.size + 1) (by rfl) (by rfl) (by first | exact Or.inl rfl | exact Or.inr rfl) (by first | exact Or.inl rfl | exact Or.inr rfl) .nil)) (by rfl) (by rfl) (by rfl) (by rfl) (by rfl) (by rfl)) (mi_range1 (by rfl) T.b_range (ma_cons (me_bin op_modM (me_bin op_fdivM (me_var 3) me_int) me_int) ma_nil)) (fun _ _ _ _ => (mg_name 0 nd_0_law)) (fun _ _ _ _ => mif_nil) (fun _ _ _ _ => (me_tup (ma_cons (me_fn G__law_exponents hr (by decide) (by rfl) passB (ma_cons (me_bin op_addM (me_bin op_fdivM (me_var 2) me_int) (me_bin op_mulM me_int (me_var 0))) (ma_cons (me_var 1) ma_nil))) (ma_cons (me_fn G__law_number hr (by decide) (by rfl) passB (ma_cons (me_bin op_addM (me_var 2) (me_bin op_mulM me_int (me_var 0))) ma_nil)) ma_nil))))) ?_
        refine ms_one ?_
        refine ms_setM ?_ ?_
        · exact sc_law.nd
        refine me_fn G__law_gathered hr (by decide) (by rfl) pass_out ?_
        refine ma_cons ?_ ?_
        · exact (me_var 1)
        refine ma_cons ?_ ma_nil
        exact (me_var 8)
      refine ms_cons ?_ ?_
      · refine ms_if ?_ ?_ ms_nil
        · refine mt_cmp ?_ ?_ me_int
          · exact (op_eqM hr.units)
          refine me_bin ?_ ?_ me_int
          · exact op_modM
          refine me_bin ?_ ?_ me_int
          · exact op_fdivM
          exact (me_var 3)
        refine ms_one ?_
        refine ms_setM ?_ ?_
        · exact sc_law.nd
        refine me_fn G__law_gathered hr (by decide) (by rfl) pass_out ?_
        refine ma_cons ?_ ?_
        · exact (me_var 1)
        refine ma_cons ?_ ma_nil
        refine me_bin ?_ ?_ ?_
        · exact op_addM
        · refine me_sl ?_ mo_none ?_
          · exact (me_var 6)
          exact (mo_some me_int)
        refine me_comp (N:=["_law_term"]) (k:=1) rfl rfl (capsA (cl:=[]) (caps:=[]) (by rfl) .nil (by rfl) (by rfl) (by rfl) (by rfl) (by rfl) (by rfl)) ?_ (fun _ _ _ _ => ?_) (fun _ _ _ _ => mif_nil) (fun _ _ _ _ => ?_)
        · refine mi_seq ?_
          refine me_sl ?_ ?_ mo_none
          · exact (me_var 5)
          refine mo_some ?_
          refine me_bin ?_ ?_ me_int
          · exact op_modM
          refine me_bin ?_ ?_ me_int
          · exact op_fdivM
          exact (me_var 3)
        · exact (mg_name 0 nd_1_law)
        refine me_tup ?_
        refine ma_cons ?_ ?_
        · refine me_ixM ?_ me_int
          exact (me_var 0)
        refine ma_cons ?_ ma_nil
        refine me_neg ?_
        refine me_ixM ?_ me_int
        exact (me_var 0)
      refine ms_cons ?_ ?_
      · refine ms_setM ?_ ?_
        · exact sc_law.nd
        refine me_fn G__law_number hr (by decide) (by rfl) pass_out ?_
        refine ma_cons ?_ ma_nil
        refine me_fn G__law_cell_at hr (by decide) (by rfl) pass_out ?_
        refine ma_cons ?_ ?_
        · exact (me_var 0)
        exact (ma_int ma_nil)
      refine ms_cons ?_ ?_
      · refine ms_if ?_ ?_ ms_nil
        · refine mt_cmp ?_ ?_ me_int
          · exact (op_eqM hr.units)
          refine me_bin ?_ ?_ me_int
          · exact op_modM
          refine me_bin ?_ ?_ me_int
          · exact op_fdivM
          refine me_fn G__law_cell_at hr (by decide) (by rfl) pass_out ?_
          refine ma_cons ?_ ?_
          · exact (me_var 0)
          exact (ma_int ma_nil)
        refine ms_one ?_
        refine ms_par 5 6 sc_law.nd ?_
        refine ma_cons ?_ ?_
        · exact (me_var 6)
        refine ma_cons ?_ ma_nil
        exact (me_var 5)
      refine ms_cons ?_ ?_
      · refine ms_setM ?_ ?_
        · exact sc_law.nd
        refine me_lst ?_
        refine ma_cons ?_ ?_
        · refine me_callTy ?_ (by rfl) T.b_list PyProof.Rows.boot_list ?_
          · exact call_lstM
          refine ma_cons ?_ ma_nil
          exact (me_var 5)
        refine ma_cons ?_ ma_nil
        refine me_callTy ?_ (by rfl) T.b_list PyProof.Rows.boot_list ?_
        · exact call_lstM
        refine ma_cons ?_ ma_nil
        exact (me_var 6)
      refine ms_cons ?_ ?_
      · refine ms_setM ?_ ?_
        · exact sc_law.nd
        refine me_fn G__law_due hr (by decide) (by rfl) pass_out ?_
        refine ma_cons ?_ ?_
        · exact (me_var 1)
        refine ma_cons ?_ ?_
        · exact (me_var 5)
        refine ma_cons ?_ ?_
        · exact (me_var 6)
        refine ma_cons ?_ ?_
        · exact (me_var 9)
        refine ma_cons ?_ ma_nil
        exact (me_var 4)
      refine ms_cons ?_ ?_
      · refine ms_for own_pass rfl ?_ ?_ ?_
        · refine mi_range1 (by rfl) T.b_range ?_
          exact (ma_int ma_nil)
        · exact (mg_name 12 sc_law.nd)
        refine ms_cons ?_ ?_
        · refine ms_setM ?_ ?_
          · exact sc_law.nd
          refine me_fn G__law_told hr (by decide) (by rfl) pass_out ?_
          refine ma_cons ?_ ?_
          · exact (me_var 1)
          refine ma_cons ?_ ?_
          · refine me_ixM ?_ me_int
            exact (me_var 10)
          refine ma_cons ?_ ?_
          · refine me_ixM ?_ me_int
            exact (me_var 10)
          refine ma_cons ?_ ?_
          · exact (me_var 9)
          refine ma_cons ?_ ma_nil
          exact (me_var 4)
        refine ms_one ?_
        refine ms_for own_pass rfl ?_ ?_ ?_
        · refine mi_range1 (by rfl) T.b_range ?_
          exact (ma_int ma_nil)
        · exact (mg_name 14 sc_law.nd)
        refine ms_cons ?_ ?_
        · refine ms_if ?_ ?_ ms_nil
          · refine mt_not ?_
            refine mt_val ?_
            refine me_fn G__law_same hr (by decide) (by rfl) pass_out ?_
            refine ma_cons ?_ ?_
            · refine me_ixM ?_ ?_
              · exact (me_var 13)
              exact (me_var 14)
            refine ma_cons ?_ ma_nil
            refine me_ixM ?_ ?_
            · exact (me_var 11)
            exact (me_var 14)
          refine ms_one ?_
          exact (ms_ret me_bl)
        refine ms_one ?_
        refine ms_expr ?_
        refine me_append ?_ ?_
        · refine me_ixM ?_ ?_
          · exact (me_var 13)
          exact (me_var 14)
        exact (ma_int ma_nil)
      refine ms_one ?_
      refine ms_ret ?_
      refine me_and ?_ ?_
      · refine me_fn G__law_same hr (by decide) (by rfl) pass_out ?_
        refine ma_cons ?_ ?_
        · refine me_ixM ?_ me_int
          exact (me_var 10)
        refine ma_cons ?_ ma_nil
        exact (me_var 5)
      refine me_one ?_
      refine me_fn G__law_same hr (by decide) (by rfl) pass_out ?_
      refine ma_cons ?_ ?_
      · refine me_ixM ?_ me_int
        exact (me_var 10)
      refine ma_cons ?_ ma_nil
      exact (me_var 6)
end
theorem all_mk {l:PySem.W.OpenLaw} {w:World} {K:PySem.W.Frag} {h:Heap} {mg:Str → Option Value} {fa:Addr} (X:K.In h) (G:h.Ns mainGlobals mg) (hfa:mg "law" = some (.ref fa))
    {f0:Addr} {od0 an0:Option Addr} {sl0:Array (Option Value)} {oc0 kV0 dc0 pm0 cd0 ct0:Value}
    {f1:Addr} {od1 an1:Option Addr} {sl1:Array (Option Value)} {oc1 kV1 dc1 pm1 cd1 ct1:Value}
    {f2:Addr} {od2 an2:Option Addr} {sl2:Array (Option Value)} {oc2 kV2 dc2 pm2 cd2 ct2:Value}
    {f3:Addr} {od3 an3:Option Addr} {sl3:Array (Option Value)} {oc3 kV3 dc3 pm3 cd3 ct3:Value}
    {f4:Addr} {od4 an4:Option Addr} {sl4:Array (Option Value)} {oc4 kV4 dc4 pm4 cd4 ct4:Value}
    {f5:Addr} {od5 an5:Option Addr} {sl5:Array (Option Value)} {oc5 kV5 dc5 pm5 cd5 ct5:Value}
    {f6:Addr} {od6 an6:Option Addr} {sl6:Array (Option Value)} {oc6 kV6 dc6 pm6 cd6 ct6:Value}
    {f7:Addr} {od7 an7:Option Addr} {sl7:Array (Option Value)} {oc7 kV7 dc7 pm7 cd7 ct7:Value}
    {f8:Addr} {od8 an8:Option Addr} {sl8:Array (Option Value)} {oc8 kV8 dc8 pm8 cd8 ct8:Value}
    {f9:Addr} {od9 an9:Option Addr} {sl9:Array (Option Value)} {oc9 kV9 dc9 pm9 cd9 ct9:Value}
    {f10:Addr} {od10 an10:Option Addr} {sl10:Array (Option Value)} {oc10 kV10 dc10 pm10 cd10 ct10:Value}
    {f11:Addr} {od11 an11:Option Addr} {sl11:Array (Option Value)} {oc11 kV11 dc11 pm11 cd11 ct11:Value}
    {f12:Addr} {od12 an12:Option Addr} {sl12:Array (Option Value)} {oc12 kV12 dc12 pm12 cd12 ct12:Value}
    {f13:Addr} {od13 an13:Option Addr} {sl13:Array (Option Value)} {oc13 kV13 dc13 pm13 cd13 ct13:Value}
    {f14:Addr} {od14 an14:Option Addr} {sl14:Array (Option Value)} {oc14 kV14 dc14 pm14 cd14 ct14:Value}
    {f15:Addr} {od15 an15:Option Addr} {sl15:Array (Option Value)} {oc15 kV15 dc15 pm15 cd15 ct15:Value}
    {f16:Addr} {od16 an16:Option Addr} {sl16:Array (Option Value)} {oc16 kV16 dc16 pm16 cd16 ct16:Value}
    {f17:Addr} {od17 an17:Option Addr} {sl17:Array (Option Value)} {oc17 kV17 dc17 pm17 cd17 ct17:Value}
    {f18:Addr} {od18 an18:Option Addr} {sl18:Array (Option Value)} {oc18 kV18 dc18 pm18 cd18 ct18:Value}
    {f19:Addr} {od19 an19:Option Addr} {sl19:Array (Option Value)} {oc19 kV19 dc19 pm19 cd19 ct19:Value}
    {f20:Addr} {od20 an20:Option Addr} {sl20:Array (Option Value)} {oc20 kV20 dc20 pm20 cd20 ct20:Value}
    {f21:Addr} {od21 an21:Option Addr} {sl21:Array (Option Value)} {oc21 kV21 dc21 pm21 cd21 ct21:Value}
    {f22:Addr} {od22 an22:Option Addr} {sl22:Array (Option Value)} {oc22 kV22 dc22 pm22 cd22 ct22:Value}
    {f23:Addr} {od23 an23:Option Addr} {sl23:Array (Option Value)} {oc23 kV23 dc23 pm23 cd23 ct23:Value}
    {f24:Addr} {od24 an24:Option Addr} {sl24:Array (Option Value)} {oc24 kV24 dc24 pm24 cd24 ct24:Value}
    {f25:Addr} {od25 an25:Option Addr} {sl25:Array (Option Value)} {oc25 kV25 dc25 pm25 cd25 ct25:Value}
    {f26:Addr} {od26 an26:Option Addr} {sl26:Array (Option Value)} {oc26 kV26 dc26 pm26 cd26 ct26:Value}
    {f27:Addr} {od27 an27:Option Addr} {sl27:Array (Option Value)} {oc27 kV27 dc27 pm27 cd27 ct27:Value}
    {gt_MOST_RING:Tok}
    {ga_FIRST_PRIMES:Addr} {gd_FIRST_PRIMES:Option Addr} {gn_FIRST_PRIMES:Nat} {gs_FIRST_PRIMES:Array (Option Value)} {gt0_FIRST_PRIMES gt1_FIRST_PRIMES gt2_FIRST_PRIMES gt3_FIRST_PRIMES gt4_FIRST_PRIMES gt5_FIRST_PRIMES gt6_FIRST_PRIMES gt7_FIRST_PRIMES gt8_FIRST_PRIMES gt9_FIRST_PRIMES gt10_FIRST_PRIMES:Tok}
    {gt_MOST_UNKNOWNS:Tok}
    {C_AlgebraError:Addr} {cdat_AlgebraError:ClassData}
    {C_NoRing:Addr} {cdat_NoRing:ClassData}
    {C_NoUnknowns:Addr} {cdat_NoUnknowns:ClassData}
    (a0:PySem.W.nsIn K mainGlobals "is_whole" = some (some (.ref f0))) (l0:K.lookup f0 = some ⟨oc0,od0,.func (PySem.W.fnOf "is_whole" "is_whole" (defArgs (top 7)) (defBody (top 7)) (defScope (top 7)) .none kV0 dc0 pm0 an0 cd0 ct0),sl0⟩) (c0:PySem.W.codeIn K cd0 "is_whole" = true) (k0:PySem.W.keepIn K (.ref f0) = true)
    (a1:PySem.W.nsIn K mainGlobals "is_prime_within" = some (some (.ref f1))) (l1:K.lookup f1 = some ⟨oc1,od1,.func (PySem.W.fnOf "is_prime_within" "is_prime_within" (defArgs (top 8)) (defBody (top 8)) (defScope (top 8)) .none kV1 dc1 pm1 an1 cd1 ct1),sl1⟩) (c1:PySem.W.codeIn K cd1 "is_prime_within" = true) (k1:PySem.W.keepIn K (.ref f1) = true)
    (a2:PySem.W.nsIn K mainGlobals "rest_in_ring" = some (some (.ref f2))) (l2:K.lookup f2 = some ⟨oc2,od2,.func (PySem.W.fnOf "rest_in_ring" "rest_in_ring" (defArgs (top 11)) (defBody (top 11)) (defScope (top 11)) .none kV2 dc2 pm2 an2 cd2 ct2),sl2⟩) (c2:PySem.W.codeIn K cd2 "rest_in_ring" = true) (k2:PySem.W.keepIn K (.ref f2) = true)
    (a3:PySem.W.nsIn K mainGlobals "add_to" = some (some (.ref f3))) (l3:K.lookup f3 = some ⟨oc3,od3,.func (PySem.W.fnOf "add_to" "add_to" (defArgs (top 16)) (defBody (top 16)) (defScope (top 16)) .none kV3 dc3 pm3 an3 cd3 ct3),sl3⟩) (c3:PySem.W.codeIn K cd3 "add_to" = true) (k3:PySem.W.keepIn K (.ref f3) = true)
    (a4:PySem.W.nsIn K mainGlobals "_law_whole" = some (some (.ref f4))) (l4:K.lookup f4 = some ⟨oc4,od4,.func (PySem.W.fnOf "_law_whole" "_law_whole" (defArgs (top 25)) (defBody (top 25)) (defScope (top 25)) .none kV4 dc4 pm4 an4 cd4 ct4),sl4⟩) (c4:PySem.W.codeIn K cd4 "_law_whole" = true) (k4:PySem.W.keepIn K (.ref f4) = true)
    (a5:PySem.W.nsIn K mainGlobals "_law_cell_at" = some (some (.ref f5))) (l5:K.lookup f5 = some ⟨oc5,od5,.func (PySem.W.fnOf "_law_cell_at" "_law_cell_at" (defArgs (top 26)) (defBody (top 26)) (defScope (top 26)) .none kV5 dc5 pm5 an5 cd5 ct5),sl5⟩) (c5:PySem.W.codeIn K cd5 "_law_cell_at" = true) (k5:PySem.W.keepIn K (.ref f5) = true)
    (a6:PySem.W.nsIn K mainGlobals "_law_prime" = some (some (.ref f6))) (l6:K.lookup f6 = some ⟨oc6,od6,.func (PySem.W.fnOf "_law_prime" "_law_prime" (defArgs (top 27)) (defBody (top 27)) (defScope (top 27)) .none kV6 dc6 pm6 an6 cd6 ct6),sl6⟩) (c6:PySem.W.codeIn K cd6 "_law_prime" = true) (k6:PySem.W.keepIn K (.ref f6) = true)
    (a7:PySem.W.nsIn K mainGlobals "_law_settled" = some (some (.ref f7))) (l7:K.lookup f7 = some ⟨oc7,od7,.func (PySem.W.fnOf "_law_settled" "_law_settled" (defArgs (top 29)) (defBody (top 29)) (defScope (top 29)) .none kV7 dc7 pm7 an7 cd7 ct7),sl7⟩) (c7:PySem.W.codeIn K cd7 "_law_settled" = true) (k7:PySem.W.keepIn K (.ref f7) = true)
    (a8:PySem.W.nsIn K mainGlobals "_law_number" = some (some (.ref f8))) (l8:K.lookup f8 = some ⟨oc8,od8,.func (PySem.W.fnOf "_law_number" "_law_number" (defArgs (top 32)) (defBody (top 32)) (defScope (top 32)) .none kV8 dc8 pm8 an8 cd8 ct8),sl8⟩) (c8:PySem.W.codeIn K cd8 "_law_number" = true) (k8:PySem.W.keepIn K (.ref f8) = true)
    (a9:PySem.W.nsIn K mainGlobals "_law_exponents" = some (some (.ref f9))) (l9:K.lookup f9 = some ⟨oc9,od9,.func (PySem.W.fnOf "_law_exponents" "_law_exponents" (defArgs (top 33)) (defBody (top 33)) (defScope (top 33)) .none kV9 dc9 pm9 an9 cd9 ct9),sl9⟩) (c9:PySem.W.codeIn K cd9 "_law_exponents" = true) (k9:PySem.W.keepIn K (.ref f9) = true)
    (a10:PySem.W.nsIn K mainGlobals "is_ring" = some (some (.ref f10))) (l10:K.lookup f10 = some ⟨oc10,od10,.func (PySem.W.fnOf "is_ring" "is_ring" (defArgs (top 9)) (defBody (top 9)) (defScope (top 9)) .none kV10 dc10 pm10 an10 cd10 ct10),sl10⟩) (c10:PySem.W.codeIn K cd10 "is_ring" = true) (k10:PySem.W.keepIn K (.ref f10) = true)
    (a11:PySem.W.nsIn K mainGlobals "is_whole_within" = some (some (.ref f11))) (l11:K.lookup f11 = some ⟨oc11,od11,.func (PySem.W.fnOf "is_whole_within" "is_whole_within" (defArgs (top 14)) (defBody (top 14)) (defScope (top 14)) .none kV11 dc11 pm11 an11 cd11 ct11),sl11⟩) (c11:PySem.W.codeIn K cd11 "is_whole_within" = true) (k11:PySem.W.keepIn K (.ref f11) = true)
    (a12:PySem.W.nsIn K mainGlobals "settled_terms" = some (some (.ref f12))) (l12:K.lookup f12 = some ⟨oc12,od12,.func (PySem.W.fnOf "settled_terms" "settled_terms" (defArgs (top 17)) (defBody (top 17)) (defScope (top 17)) .none kV12 dc12 pm12 an12 cd12 ct12),sl12⟩) (c12:PySem.W.codeIn K cd12 "settled_terms" = true) (k12:PySem.W.keepIn K (.ref f12) = true)
    (a13:PySem.W.nsIn K mainGlobals "_law_ring" = some (some (.ref f13))) (l13:K.lookup f13 = some ⟨oc13,od13,.func (PySem.W.fnOf "_law_ring" "_law_ring" (defArgs (top 28)) (defBody (top 28)) (defScope (top 28)) .none kV13 dc13 pm13 an13 cd13 ct13),sl13⟩) (c13:PySem.W.codeIn K cd13 "_law_ring" = true) (k13:PySem.W.keepIn K (.ref f13) = true)
    (a14:PySem.W.nsIn K mainGlobals "_law_gathered" = some (some (.ref f14))) (l14:K.lookup f14 = some ⟨oc14,od14,.func (PySem.W.fnOf "_law_gathered" "_law_gathered" (defArgs (top 30)) (defBody (top 30)) (defScope (top 30)) .none kV14 dc14 pm14 an14 cd14 ct14),sl14⟩) (c14:PySem.W.codeIn K cd14 "_law_gathered" = true) (k14:PySem.W.keepIn K (.ref f14) = true)
    (a15:PySem.W.nsIn K mainGlobals "_law_same" = some (some (.ref f15))) (l15:K.lookup f15 = some ⟨oc15,od15,.func (PySem.W.fnOf "_law_same" "_law_same" (defArgs (top 31)) (defBody (top 31)) (defScope (top 31)) .none kV15 dc15 pm15 an15 cd15 ct15),sl15⟩) (c15:PySem.W.codeIn K cd15 "_law_same" = true) (k15:PySem.W.keepIn K (.ref f15) = true)
    (a16:PySem.W.nsIn K mainGlobals "_law_pairs" = some (some (.ref f16))) (l16:K.lookup f16 = some ⟨oc16,od16,.func (PySem.W.fnOf "_law_pairs" "_law_pairs" (defArgs (top 34)) (defBody (top 34)) (defScope (top 34)) .none kV16 dc16 pm16 an16 cd16 ct16),sl16⟩) (c16:PySem.W.codeIn K cd16 "_law_pairs" = true) (k16:PySem.W.keepIn K (.ref f16) = true)
    (a17:PySem.W.nsIn K mainGlobals "check_ring" = some (some (.ref f17))) (l17:K.lookup f17 = some ⟨oc17,od17,.func (PySem.W.fnOf "check_ring" "check_ring" (defArgs (top 10)) (defBody (top 10)) (defScope (top 10)) .none kV17 dc17 pm17 an17 cd17 ct17),sl17⟩) (c17:PySem.W.codeIn K cd17 "check_ring" = true) (k17:PySem.W.keepIn K (.ref f17) = true)
    (a18:PySem.W.nsIn K mainGlobals "check_unknowns" = some (some (.ref f18))) (l18:K.lookup f18 = some ⟨oc18,od18,.func (PySem.W.fnOf "check_unknowns" "check_unknowns" (defArgs (top 15)) (defBody (top 15)) (defScope (top 15)) .none kV18 dc18 pm18 an18 cd18 ct18),sl18⟩) (c18:PySem.W.codeIn K cd18 "check_unknowns" = true) (k18:PySem.W.keepIn K (.ref f18) = true)
    (a19:PySem.W.nsIn K mainGlobals "sum_of_totals" = some (some (.ref f19))) (l19:K.lookup f19 = some ⟨oc19,od19,.func (PySem.W.fnOf "sum_of_totals" "sum_of_totals" (defArgs (top 18)) (defBody (top 18)) (defScope (top 18)) .none kV19 dc19 pm19 an19 cd19 ct19),sl19⟩) (c19:PySem.W.codeIn K cd19 "sum_of_totals" = true) (k19:PySem.W.keepIn K (.ref f19) = true)
    (a20:PySem.W.nsIn K mainGlobals "_law_due" = some (some (.ref f20))) (l20:K.lookup f20 = some ⟨oc20,od20,.func (PySem.W.fnOf "_law_due" "_law_due" (defArgs (top 36)) (defBody (top 36)) (defScope (top 36)) .none kV20 dc20 pm20 an20 cd20 ct20),sl20⟩) (c20:PySem.W.codeIn K cd20 "_law_due" = true) (k20:PySem.W.keepIn K (.ref f20) = true)
    (a21:PySem.W.nsIn K mainGlobals "constant" = some (some (.ref f21))) (l21:K.lookup f21 = some ⟨oc21,od21,.func (PySem.W.fnOf "constant" "constant" (defArgs (top 19)) (defBody (top 19)) (defScope (top 19)) .none kV21 dc21 pm21 an21 cd21 ct21),sl21⟩) (c21:PySem.W.codeIn K cd21 "constant" = true) (k21:PySem.W.keepIn K (.ref f21) = true)
    (a22:PySem.W.nsIn K mainGlobals "with_multiple" = some (some (.ref f22))) (l22:K.lookup f22 = some ⟨oc22,od22,.func (PySem.W.fnOf "with_multiple" "with_multiple" (defArgs (top 22)) (defBody (top 22)) (defScope (top 22)) .none kV22 dc22 pm22 an22 cd22 ct22),sl22⟩) (c22:PySem.W.codeIn K cd22 "with_multiple" = true) (k22:PySem.W.keepIn K (.ref f22) = true)
    (a23:PySem.W.nsIn K mainGlobals "scaled" = some (some (.ref f23))) (l23:K.lookup f23 = some ⟨oc23,od23,.func (PySem.W.fnOf "scaled" "scaled" (defArgs (top 23)) (defBody (top 23)) (defScope (top 23)) .none kV23 dc23 pm23 an23 cd23 ct23),sl23⟩) (c23:PySem.W.codeIn K cd23 "scaled" = true) (k23:PySem.W.keepIn K (.ref f23) = true)
    (a24:PySem.W.nsIn K mainGlobals "plus" = some (some (.ref f24))) (l24:K.lookup f24 = some ⟨oc24,od24,.func (PySem.W.fnOf "plus" "plus" (defArgs (top 20)) (defBody (top 20)) (defScope (top 20)) .none kV24 dc24 pm24 an24 cd24 ct24),sl24⟩) (c24:PySem.W.codeIn K cd24 "plus" = true) (k24:PySem.W.keepIn K (.ref f24) = true)
    (a25:PySem.W.nsIn K mainGlobals "minus" = some (some (.ref f25))) (l25:K.lookup f25 = some ⟨oc25,od25,.func (PySem.W.fnOf "minus" "minus" (defArgs (top 21)) (defBody (top 21)) (defScope (top 21)) .none kV25 dc25 pm25 an25 cd25 ct25),sl25⟩) (c25:PySem.W.codeIn K cd25 "minus" = true) (k25:PySem.W.keepIn K (.ref f25) = true)
    (a26:PySem.W.nsIn K mainGlobals "_law_told" = some (some (.ref f26))) (l26:K.lookup f26 = some ⟨oc26,od26,.func (PySem.W.fnOf "_law_told" "_law_told" (defArgs (top 35)) (defBody (top 35)) (defScope (top 35)) .none kV26 dc26 pm26 an26 cd26 ct26),sl26⟩) (c26:PySem.W.codeIn K cd26 "_law_told" = true) (k26:PySem.W.keepIn K (.ref f26) = true)
    (a27:PySem.W.nsIn K mainGlobals "law" = some (some (.ref f27))) (l27:K.lookup f27 = some ⟨oc27,od27,.func (PySem.W.fnOf "law" "law" (defArgs (top 37)) (defBody (top 37)) (defScope (top 37)) .none kV27 dc27 pm27 an27 cd27 ct27),sl27⟩) (c27:PySem.W.codeIn K cd27 "law" = true) (k27:PySem.W.keepIn K (.ref f27) = true)
    (zb_all:PySem.W.nsIn K mainGlobals "all" = some none)
    (zb_bool:PySem.W.nsIn K mainGlobals "bool" = some none)
    (zb_dict:PySem.W.nsIn K mainGlobals "dict" = some none)
    (zb_int:PySem.W.nsIn K mainGlobals "int" = some none)
    (zb_isinstance:PySem.W.nsIn K mainGlobals "isinstance" = some none)
    (zb_len:PySem.W.nsIn K mainGlobals "len" = some none)
    (zb_list:PySem.W.nsIn K mainGlobals "list" = some none)
    (zb_range:PySem.W.nsIn K mainGlobals "range" = some none)
    (zb_sorted:PySem.W.nsIn K mainGlobals "sorted" = some none)
    (zb_tuple:PySem.W.nsIn K mainGlobals "tuple" = some none)
    (zg_MOST_RING:PySem.W.nsIn K mainGlobals "MOST_RING" = some (some (.int 997 gt_MOST_RING)))
    (zg_FIRST_PRIMES:PySem.W.nsIn K mainGlobals "FIRST_PRIMES" = some (some (.ref ga_FIRST_PRIMES))) (zl_FIRST_PRIMES:K.lookup ga_FIRST_PRIMES = some ⟨.type "tuple",gd_FIRST_PRIMES,.seq #[.int 2 gt0_FIRST_PRIMES,.int 3 gt1_FIRST_PRIMES,.int 5 gt2_FIRST_PRIMES,.int 7 gt3_FIRST_PRIMES,.int 11 gt4_FIRST_PRIMES,.int 13 gt5_FIRST_PRIMES,.int 17 gt6_FIRST_PRIMES,.int 19 gt7_FIRST_PRIMES,.int 23 gt8_FIRST_PRIMES,.int 29 gt9_FIRST_PRIMES,.int 31 gt10_FIRST_PRIMES] gn_FIRST_PRIMES,gs_FIRST_PRIMES⟩)
    (zg_MOST_UNKNOWNS:PySem.W.nsIn K mainGlobals "MOST_UNKNOWNS" = some (some (.int 4 gt_MOST_UNKNOWNS)))
    (zc_AlgebraError:PySem.W.nsIn K mainGlobals "AlgebraError" = some (some (.ref C_AlgebraError))) (zd_AlgebraError:PySem.W.clsIn K C_AlgebraError = some cdat_AlgebraError) (zt_AlgebraError:PySem.W.typeIn K (.ref C_AlgebraError) = some (.type "type")) (ze_AlgebraError:PySem.W.excIn K C_AlgebraError bmV "ValueError.__new__" = true) (zs_AlgebraError:PySem.W.subIn K (.ref C_AlgebraError) (.type "BaseException") = some true)
    (zc_NoRing:PySem.W.nsIn K mainGlobals "NoRing" = some (some (.ref C_NoRing))) (zd_NoRing:PySem.W.clsIn K C_NoRing = some cdat_NoRing) (zt_NoRing:PySem.W.typeIn K (.ref C_NoRing) = some (.type "type")) (ze_NoRing:PySem.W.excIn K C_NoRing bmV "ValueError.__new__" = true) (zs_NoRing:PySem.W.subIn K (.ref C_NoRing) (.type "BaseException") = some true)
    (zc_NoUnknowns:PySem.W.nsIn K mainGlobals "NoUnknowns" = some (some (.ref C_NoUnknowns))) (zd_NoUnknowns:PySem.W.clsIn K C_NoUnknowns = some cdat_NoUnknowns) (zt_NoUnknowns:PySem.W.typeIn K (.ref C_NoUnknowns) = some (.type "type")) (ze_NoUnknowns:PySem.W.excIn K C_NoUnknowns bmV "ValueError.__new__" = true) (zs_NoUnknowns:PySem.W.subIn K (.ref C_NoUnknowns) (.type "BaseException") = some true) :
    ∃ fd:FuncData,(∀ (s:Shared) (v:Value),BindsTo s fd ⟨[v],[]⟩ [("_law_script",v)]) ∧ ∀ base:Heap,K.In base → base.Ns mainGlobals mg → FnOk l.prog w K mg base (CX1 l.prog w) 7 fa fd ["_law_script"] (spLaw K):=by
  have e:=hfa.symm.trans (PySem.W.mg_of X G a27)
  cases e
  have T:Txt K mg:=⟨PySem.W.mg_none_of X G zb_all,PySem.W.mg_none_of X G zb_bool,PySem.W.mg_none_of X G zb_dict,PySem.W.mg_none_of X G zb_int,PySem.W.mg_none_of X G zb_isinstance,PySem.W.mg_none_of X G zb_len,PySem.W.mg_none_of X G zb_list,PySem.W.mg_none_of X G zb_range,PySem.W.mg_none_of X G zb_sorted,PySem.W.mg_none_of X G zb_tuple,Glob.int (PySem.W.mg_of X G zg_MOST_RING),Glob.ints (ns:=[2,3,5,7,11,13,17,19,23,29,31]) (PySem.W.mg_of X G zg_FIRST_PRIMES) zl_FIRST_PRIMES rfl rfl (by simp [sizeLine_eq]) (.cons ⟨_,rfl⟩ (.cons ⟨_,rfl⟩ (.cons ⟨_,rfl⟩ (.cons ⟨_,rfl⟩ (.cons ⟨_,rfl⟩ (.cons ⟨_,rfl⟩ (.cons ⟨_,rfl⟩ (.cons ⟨_,rfl⟩ (.cons ⟨_,rfl⟩ (.cons ⟨_,rfl⟩ (.cons ⟨_,rfl⟩ (.nil)))))))))))),Glob.int (PySem.W.mg_of X G zg_MOST_UNKNOWNS),⟨C_AlgebraError,PySem.W.mg_of X G zc_AlgebraError,ze_AlgebraError,zs_AlgebraError⟩,⟨C_NoRing,PySem.W.mg_of X G zc_NoRing,ze_NoRing,zs_NoRing⟩,⟨C_NoUnknowns,PySem.W.mg_of X G zc_NoUnknowns,ze_NoUnknowns,zs_NoUnknowns⟩⟩
  have H_is_whole:=fun (base:Heap) => ok_is_whole (P:=l.prog) (w:=w) (base:=base) (fun_mk (st:=top 7) l0 c0 k0) (PySem.W.mg_of X G a0) T
  have H_is_prime_within:=fun (base:Heap) => ok_is_prime_within (P:=l.prog) (w:=w) (base:=base) (fun_mk (st:=top 8) l1 c1 k1) (PySem.W.mg_of X G a1) T
  have H_rest_in_ring:=fun (base:Heap) => ok_rest_in_ring (P:=l.prog) (w:=w) (base:=base) (fun_mk (st:=top 11) l2 c2 k2) (PySem.W.mg_of X G a2) T
  have H_add_to:=fun (base:Heap) => ok_add_to (P:=l.prog) (w:=w) (base:=base) (fun_mk (st:=top 16) l3 c3 k3) (PySem.W.mg_of X G a3) T
  have H__law_whole:=fun (base:Heap) => ok__law_whole (P:=l.prog) (w:=w) (base:=base) (fun_mk (st:=top 25) l4 c4 k4) (PySem.W.mg_of X G a4) T
  have H__law_cell_at:=fun (base:Heap) => ok__law_cell_at (P:=l.prog) (w:=w) (base:=base) (fun_mk (st:=top 26) l5 c5 k5) (PySem.W.mg_of X G a5) T
  have H__law_prime:=fun (base:Heap) => ok__law_prime (P:=l.prog) (w:=w) (base:=base) (fun_mk (st:=top 27) l6 c6 k6) (PySem.W.mg_of X G a6) T
  have H__law_settled:=fun (base:Heap) => ok__law_settled (P:=l.prog) (w:=w) (base:=base) (fun_mk (st:=top 29) l7 c7 k7) (PySem.W.mg_of X G a7) T
  have H__law_number:=fun (base:Heap) => ok__law_number (P:=l.prog) (w:=w) (base:=base) (fun_mk (st:=top 32) l8 c8 k8) (PySem.W.mg_of X G a8) T
  have H__law_exponents:=fun (base:Heap) => ok__law_exponents (P:=l.prog) (w:=w) (base:=base) (fun_mk (st:=top 33) l9 c9 k9) (PySem.W.mg_of X G a9) T
  have H_is_ring:=fun (base:Heap) => ok_is_ring (P:=l.prog) (w:=w) (base:=base) (fun_mk (st:=top 9) l10 c10 k10) (PySem.W.mg_of X G a10) T (H_is_whole base) (H_is_prime_within base)
  have H_is_whole_within:=fun (base:Heap) => ok_is_whole_within (P:=l.prog) (w:=w) (base:=base) (fun_mk (st:=top 14) l11 c11 k11) (PySem.W.mg_of X G a11) T (H_is_whole base)
  have H_settled_terms:=fun (base:Heap) => ok_settled_terms (P:=l.prog) (w:=w) (base:=base) (fun_mk (st:=top 17) l12 c12 k12) (PySem.W.mg_of X G a12) T (H_rest_in_ring base)
  have H__law_ring:=fun (base:Heap) => ok__law_ring (P:=l.prog) (w:=w) (base:=base) (fun_mk (st:=top 28) l13 c13 k13) (PySem.W.mg_of X G a13) T (H__law_prime base)
  have H__law_gathered:=fun (base:Heap) => ok__law_gathered (P:=l.prog) (w:=w) (base:=base) (fun_mk (st:=top 30) l14 c14 k14) (PySem.W.mg_of X G a14) T (H__law_settled base)
  have H__law_same:=fun (base:Heap) => ok__law_same (P:=l.prog) (w:=w) (base:=base) (fun_mk (st:=top 31) l15 c15 k15) (PySem.W.mg_of X G a15) T (H__law_whole base)
  have H__law_pairs:=fun (base:Heap) => ok__law_pairs (P:=l.prog) (w:=w) (base:=base) (fun_mk (st:=top 34) l16 c16 k16) (PySem.W.mg_of X G a16) T (H__law_cell_at base) (H__law_number base) (H__law_exponents base)
  have H_check_ring:=fun (base:Heap) => ok_check_ring (P:=l.prog) (w:=w) (base:=base) (fun_mk (st:=top 10) l17 c17 k17) (PySem.W.mg_of X G a17) T (H_is_ring base)
  have H_check_unknowns:=fun (base:Heap) => ok_check_unknowns (P:=l.prog) (w:=w) (base:=base) (fun_mk (st:=top 15) l18 c18 k18) (PySem.W.mg_of X G a18) T (H_is_whole_within base)
  have H_sum_of_totals:=fun (base:Heap) => ok_sum_of_totals (P:=l.prog) (w:=w) (base:=base) (fun_mk (st:=top 18) l19 c19 k19) (PySem.W.mg_of X G a19) T (H_settled_terms base)
  have H__law_due:=fun (base:Heap) => ok__law_due (P:=l.prog) (w:=w) (base:=base) (fun_mk (st:=top 36) l20 c20 k20) (PySem.W.mg_of X G a20) T (H__law_gathered base)
  have H_constant:=fun (base:Heap) => ok_constant (P:=l.prog) (w:=w) (base:=base) (fun_mk (st:=top 19) l21 c21 k21) (PySem.W.mg_of X G a21) T (H_settled_terms base) (H_check_ring base) (H_check_unknowns base)
  have H_with_multiple:=fun (base:Heap) => ok_with_multiple (P:=l.prog) (w:=w) (base:=base) (fun_mk (st:=top 22) l22 c22 k22) (PySem.W.mg_of X G a22) T (H_add_to base) (H_sum_of_totals base)
  have H_scaled:=fun (base:Heap) => ok_scaled (P:=l.prog) (w:=w) (base:=base) (fun_mk (st:=top 23) l23 c23 k23) (PySem.W.mg_of X G a23) T (H_settled_terms base) (H_check_ring base)
  have H_plus:=fun (base:Heap) => ok_plus (P:=l.prog) (w:=w) (base:=base) (fun_mk (st:=top 20) l24 c24 k24) (PySem.W.mg_of X G a24) T (H_check_ring base) (H_with_multiple base)
  have H_minus:=fun (base:Heap) => ok_minus (P:=l.prog) (w:=w) (base:=base) (fun_mk (st:=top 21) l25 c25 k25) (PySem.W.mg_of X G a25) T (H_check_ring base) (H_with_multiple base)
  have H__law_told:=fun (base:Heap) => ok__law_told (P:=l.prog) (w:=w) (base:=base) (fun_mk (st:=top 35) l26 c26 k26) (PySem.W.mg_of X G a26) T (H_constant base) (H_scaled base) (H_plus base) (H_minus base)
  refine ⟨PySem.W.fnOf "law" "law" (defArgs (top 37)) (defBody (top 37)) (defScope (top 37)) .none kV27 dc27 pm27 an27 cd27 ct27,fun s v => .of_eq rfl,fun base _ _ => ?_⟩
  exact (law_fn (fun_mk (st:=top 37) l27 c27 k27) T (H__law_cell_at base) (H__law_number base) (H__law_exponents base) (H__law_ring base) (H__law_gathered base) (H__law_same base) (H__law_pairs base) (H__law_due base) (H__law_told base)).imp fun _ _ _ _ h => law_sp law_true h
end K06
open PySem PySem.W PyProof.Rows
set_option maxRecDepth 100000 in
set_option maxHeartbeats 0 in
theorem PySem.Challenge.cw_polyring_k06_sums_and_differences_holds : PySem.Challenge.rw_polyring_k06_sums_and_differences.Holds := by
  w_on; o_law; k_head; (case hw => w_witness2)
  k_fill
  refine MN.law_walk (l:=PySem.Challenge.rw_polyring_k06_sums_and_differences) (k:=7) (x:="_law_script") rfl rfl ⟨rfl,by decide,by decide⟩ (fun w h Y => PySem.W.kIn_of Y) ?F
  case F =>
    intro w mg fa h KX G hmg
    refine' K06.all_mk KX G hmg ?a0 ?l0 ?c0 ?k0 ?a1 ?l1 ?c1 ?k1 ?a2 ?l2 ?c2 ?k2 ?a3 ?l3 ?c3 ?k3 ?a4 ?l4 ?c4 ?k4 ?a5 ?l5 ?c5 ?k5 ?a6 ?l6 ?c6 ?k6 ?a7 ?l7 ?c7 ?k7 ?a8 ?l8 ?c8 ?k8 ?a9 ?l9 ?c9 ?k9 ?a10 ?l10 ?c10 ?k10 ?a11 ?l11 ?c11 ?k11 ?a12 ?l12 ?c12 ?k12 ?a13 ?l13 ?c13 ?k13 ?a14 ?l14 ?c14 ?k14 ?a15 ?l15 ?c15 ?k15 ?a16 ?l16 ?c16 ?k16 ?a17 ?l17 ?c17 ?k17 ?a18 ?l18 ?c18 ?k18 ?a19 ?l19 ?c19 ?k19 ?a20 ?l20 ?c20 ?k20 ?a21 ?l21 ?c21 ?k21 ?a22 ?l22 ?c22 ?k22 ?a23 ?l23 ?c23 ?k23 ?a24 ?l24 ?c24 ?k24 ?a25 ?l25 ?c25 ?k25 ?a26 ?l26 ?c26 ?k26 ?a27 ?l27 ?c27 ?k27 ?zb_all ?zb_bool ?zb_dict ?zb_int ?zb_isinstance ?zb_len ?zb_list ?zb_range ?zb_sorted ?zb_tuple ?zg_MOST_RING ?zg_FIRST_PRIMES ?zl_FIRST_PRIMES ?zg_MOST_UNKNOWNS ?zc_AlgebraError ?zd_AlgebraError ?zt_AlgebraError ?ze_AlgebraError ?zs_AlgebraError ?zc_NoRing ?zd_NoRing ?zt_NoRing ?ze_NoRing ?zs_NoRing ?zc_NoUnknowns ?zd_NoUnknowns ?zt_NoUnknowns ?ze_NoUnknowns ?zs_NoUnknowns
    (case a0 => k_is)
    (case l0 => k_is)
    (case c0 => k_is)
    (case k0 => k_is)
    (case a1 => k_is)
    (case l1 => k_is)
    (case c1 => k_is)
    (case k1 => k_is)
    (case a2 => k_is)
    (case l2 => k_is)
    (case c2 => k_is)
    (case k2 => k_is)
    (case a3 => k_is)
    (case l3 => k_is)
    (case c3 => k_is)
    (case k3 => k_is)
    (case a4 => k_is)
    (case l4 => k_is)
    (case c4 => k_is)
    (case k4 => k_is)
    (case a5 => k_is)
    (case l5 => k_is)
    (case c5 => k_is)
    (case k5 => k_is)
    (case a6 => k_is)
    (case l6 => k_is)
    (case c6 => k_is)
    (case k6 => k_is)
    (case a7 => k_is)
    (case l7 => k_is)
    (case c7 => k_is)
    (case k7 => k_is)
    (case a8 => k_is)
    (case l8 => k_is)
    (case c8 => k_is)
    (case k8 => k_is)
    (case a9 => k_is)
    (case l9 => k_is)
    (case c9 => k_is)
    (case k9 => k_is)
    (case a10 => k_is)
    (case l10 => k_is)
    (case c10 => k_is)
    (case k10 => k_is)
    (case a11 => k_is)
    (case l11 => k_is)
    (case c11 => k_is)
    (case k11 => k_is)
    (case a12 => k_is)
    (case l12 => k_is)
    (case c12 => k_is)
    (case k12 => k_is)
    (case a13 => k_is)
    (case l13 => k_is)
    (case c13 => k_is)
    (case k13 => k_is)
    (case a14 => k_is)
    (case l14 => k_is)
    (case c14 => k_is)
    (case k14 => k_is)
    (case a15 => k_is)
    (case l15 => k_is)
    (case c15 => k_is)
    (case k15 => k_is)
    (case a16 => k_is)
    (case l16 => k_is)
    (case c16 => k_is)
    (case k16 => k_is)
    (case a17 => k_is)
    (case l17 => k_is)
    (case c17 => k_is)
    (case k17 => k_is)
    (case a18 => k_is)
    (case l18 => k_is)
    (case c18 => k_is)
    (case k18 => k_is)
    (case a19 => k_is)
    (case l19 => k_is)
    (case c19 => k_is)
    (case k19 => k_is)
    (case a20 => k_is)
    (case l20 => k_is)
    (case c20 => k_is)
    (case k20 => k_is)
    (case a21 => k_is)
    (case l21 => k_is)
    (case c21 => k_is)
    (case k21 => k_is)
    (case a22 => k_is)
    (case l22 => k_is)
    (case c22 => k_is)
    (case k22 => k_is)
    (case a23 => k_is)
    (case l23 => k_is)
    (case c23 => k_is)
    (case k23 => k_is)
    (case a24 => k_is)
    (case l24 => k_is)
    (case c24 => k_is)
    (case k24 => k_is)
    (case a25 => k_is)
    (case l25 => k_is)
    (case c25 => k_is)
    (case k25 => k_is)
    (case a26 => k_is)
    (case l26 => k_is)
    (case c26 => k_is)
    (case k26 => k_is)
    (case a27 => k_is)
    (case l27 => k_is)
    (case c27 => k_is)
    (case k27 => k_is)
    (case zb_all => k_is)
    (case zb_bool => k_is)
    (case zb_dict => k_is)
    (case zb_int => k_is)
    (case zb_isinstance => k_is)
    (case zb_len => k_is)
    (case zb_list => k_is)
    (case zb_range => k_is)
    (case zb_sorted => k_is)
    (case zb_tuple => k_is)
    (case zg_MOST_RING => k_is)
    (case zg_FIRST_PRIMES => k_is)
    (case zl_FIRST_PRIMES => k_is)
    (case zg_MOST_UNKNOWNS => k_is)
    (case zc_AlgebraError => k_is)
    (case zd_AlgebraError => k_is)
    (case zt_AlgebraError => k_is)
    (case ze_AlgebraError => k_exc)
    (case zs_AlgebraError => k_is)
    (case zc_NoRing => k_is)
    (case zd_NoRing => k_is)
    (case zt_NoRing => k_is)
    (case ze_NoRing => k_exc)
    (case zs_NoRing => k_is)
    (case zc_NoUnknowns => k_is)
    (case zd_NoUnknowns => k_is)
    (case zt_NoUnknowns => k_is)
    (case ze_NoUnknowns => k_exc)
    (case zs_NoUnknowns => k_is)
