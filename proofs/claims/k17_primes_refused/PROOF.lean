import PyProof.Rows.All
import Wide.All
import OpenK.AllK
import Wide.FinOn
import Lean
import PyProof.EqAt
import PyProof.EqKinds
import PyProof.TupleCall
import PyProof.NeKinds
import PyProof.ZipIter
import PyProof.FitsBits
import KE.KRevIter
import KE.KStateDown
import PyProof.Rows.Range3
import PyProof.EnumFor
import PyProof.EnumMake
import PyProof.EnumStmt
import PyProof.Rows.SumAny
import PyProof.ListIndex
import PyProof.ListIndexNeg
import PyProof.WalkInts
import PyProof.Conv_int_bool
import PyProof.SumAny
import KE.KLam
import PyProof.Rows.FactsN_abs
import PyProof.ExcBaseAll.ValueError
import KE.KIsAll
import PyProof.ExcAttrAll.ValueError
import KE.KSortTup
import KE.KDictList
import PyProof.Rows.SortRuns
import KE.KDictOf
import PyProof.AttrMissHeap
import PyProof.DictRoadsH
import PyProof.Seq
import PyProof.ConsumeS
import KE.IntBitsLaws
import PyProof.DictWalks
import PyProof.DictItems
import KE.KPairComp
import PySem.Challenge.RW_polyring_k17_primes_refused
set_option Elab.async false
set_option linter.all false
set_option maxRecDepth 100000
set_option maxHeartbeats 4000000
set_option compiler.extract_closed false
set_option genSizeOf false
-- M4: Rq P' module here,as xy last of Qa rows
namespace L2
open PySem PySem.Spec PyProof.Rows
noncomputable abbrev dh:=Sum Int Str
noncomputable def pQ:dh → Value → Bool
 | .inl k,v => Value.isInt k v
 | .inr x,v => Value.isStrOf x v
noncomputable def M5 (w:World):dh → Int
 | .inl k => hashInt k
 | .inr x => hashStr w x
theorem cK:∀ {k:dh} {v:Value},pQ k v = true → (∃ i t,k = Sum.inl i ∧ v = Value.int i t) ∨ (∃ x t,k = Sum.inr x ∧ v = Value.str x t)
 | .inl i,v,h => by
  obtain ⟨t,e⟩:=Value.isInt_shape (k:=i) (v:=v) h
  exact .inl ⟨i,t,rfl,e⟩
 | .inr x,v,h => by
  obtain ⟨t,e⟩:=Value.isStrOf_shape (x:=x) (v:=v) h
  exact .inr ⟨x,t,rfl,e⟩
theorem xA (i:Int) (t:Tok):pQ (.inl i) (.int i t) = true:=by simp [pQ,Value.isInt]
theorem xB (x:Str) (t:Tok):pQ (.inr x) (.str x t) = true:=by simp [pQ,Value.isStrOf]
theorem Fj (a b:Int):decide ((Sum.inl a:dh) = Sum.inl b) = (a == b):=by
 by_cases e:a = b
 ·subst e; simp
 ·have h:¬ (Sum.inl a:dh) = Sum.inl b:=fun q => e (Sum.inl.inj q)
  rw [decide_eq_false h]
  exact (beq_eq_false_iff_ne.mpr e).symm
theorem Fl (a b:Str):decide ((Sum.inr a:dh) = Sum.inr b) = decide (a = b):=by
 by_cases e:a = b
 ·subst e; simp
 ·have h:¬ (Sum.inr a:dh) = Sum.inr b:=fun q => e (Sum.inr.inj q)
  rw [decide_eq_false h,decide_eq_false e]
theorem Fm (a:Int) (b:Str):decide ((Sum.inl a:dh) = Sum.inr b) = false:=decide_eq_false (fun q => nomatch q)
theorem Fn (a:Str) (b:Int):decide ((Sum.inr a:dh) = Sum.inl b) = false:=decide_eq_false (fun q => nomatch q)
noncomputable def dD (prog:Program) (w:World):PySem.KeyKind prog w dh where
 is:=pQ
 hash:=M5 w
 inj:=fun v a b ha hb => by
  rcases cK ha with ⟨i,t,rfl,rfl⟩ | ⟨x,t,rfl,rfl⟩
  ·rcases cK hb with ⟨j,u,rfl,e⟩ | ⟨y,u,rfl,e⟩
   ·injection e with e1 _; rw [e1]
   ·exact nomatch e
  ·rcases cK hb with ⟨j,u,rfl,e⟩ | ⟨y,u,rfl,e⟩
   ·exact nomatch e
   ·injection e with e1 _; rw [e1]
 byValue:=fun k v h => by
  rcases cK h with ⟨i,t,rfl,rfl⟩ | ⟨x,t,rfl,rfl⟩ <;> rfl
 pyHash:=fun hv h => by
  rcases cK hv with ⟨i,t,rfl,rfl⟩ | ⟨x,t,rfl,rfl⟩
  ·exact wpAny_pyHash_int h
  ·exact wpAny_pyHash_str h
 eqBool:=fun hu hv h => by
  rcases cK hu with ⟨i,t,rfl,rfl⟩ | ⟨x,t,rfl,rfl⟩
  ·rcases cK hv with ⟨j,u,rfl,rfl⟩ | ⟨y,u,rfl,rfl⟩
   ·rw [Fj] at h; exact wpAny_eqBool_int h
   ·rw [Fm] at h; exact SeqAt.EqAt.int_str i t y u _ _ _ _ h
  ·rcases cK hv with ⟨j,u,rfl,rfl⟩ | ⟨y,u,rfl,rfl⟩
   ·rw [Fn] at h; exact SeqAt.EqAt.str_int x t j u _ _ _ _ h
   ·rw [Fl] at h; exact wpAny_eqBool_str h
 «strs»:=fun k x t v h => by
  rcases cK h with ⟨i,u,rfl,e⟩ | ⟨y,u,rfl,e⟩
  ·exact nomatch e
  ·injection e with e1 _
   subst e1
   cases v <;> rfl
theorem sL (prog:Program) (w:World) (i:Int) (t:Tok):(dD prog w).is (.inl i) (.int i t) = true:=xA i t
theorem sM (prog:Program) (w:World) (x:Str) (t:Tok):(dD prog w).is (.inr x) (.str x t) = true:=xB x t
end L2
namespace L2
open PySem PySem.Spec PyProof.Rows
inductive V where
 | dA | bl (b:Bool) | int (i:Int) | str (x:Str) | M6 (b:Array UInt8) | mW (b:UInt64) | ref (a:Addr) | ty (n:String)
 deriving DecidableEq
noncomputable def bC:V → Value → Prop
 | .dA,u => u = Value.none
 | .bl b,u => u = Value.bool b
 | .int i,u => ∃ t,u = Value.int i t
 | .str x,u => ∃ t,u = Value.str x t
 | .M6 b,u => ∃ t,u = Value.bytes b t
 | .mW b,u => ∃ t,u = Value.float b t
 | .ref a,u => u = Value.ref a
 | .ty n,u => u = Value.type n
noncomputable abbrev bo:List V → List Value → Prop:=Paired bC
theorem bo.length {xs:List V} {us:List Value} (r:bo xs us):xs.length = us.length:=Paired.length r
theorem bo.get:∀ {xs:List V} {us:List Value} {i:Nat} {x:V},bo xs us → xs[i]? = some x → ∃ u,us[i]? = some u ∧ bC x u
 | _,_,_,_,.nil,e => by simp at e
 | _,_,0,_,.cons r _,e => by simp at e; subst e; exact ⟨_,rfl,r⟩
 | _,_,i + 1,x,.cons _ t,e => by
  obtain ⟨u,h1,h2⟩:=bo.get (i:=i) (x:=x) t (by simpa using e)
  exact ⟨u,by simpa using h1,h2⟩
theorem bo.set {x:V} {u:Value} (r:bC x u):∀ {xs:List V} {us:List Value} (i:Nat),bo xs us → bo (xs.set i x) (us.set i u)
 | _,_,_,.nil => .nil
 | _,_,0,.cons _ t => .cons r t
 | _,_,i + 1,.cons q t => .cons q (bo.set r i t)
theorem bo.append:∀ {xs ys:List V} {us ws:List Value},bo xs us → bo ys ws → bo (xs ++ ys) (us ++ ws)
 | _,_,_,_,.nil,s => s
 | _,_,_,_,.cons r t,s => .cons r (bo.append t s)
theorem bo.take:∀ {xs:List V} {us:List Value} (n:Nat),bo xs us → bo (xs.take n) (us.take n)
 | _,_,0,_ => .nil
 | _,_,_ + 1,.nil => .nil
 | _,_,n + 1,.cons r t => .cons r (bo.take n t)
theorem bo.drop:∀ {xs:List V} {us:List Value} (n:Nat),bo xs us → bo (xs.drop n) (us.drop n)
 | _,_,0,r => r
 | _,_,_ + 1,.nil => .nil
 | _,_,n + 1,.cons _ t => bo.drop n t
noncomputable def nk:Option V → Option Value → Prop
 | some v,some u => bC v u
 | none,none => True
 | _,_ => False
noncomputable def KV {κ:Type}:List (κ × V) → List (κ × Value) → Prop:=Paired fun (p:κ × V) (q:κ × Value) => p.1 = q.1 ∧ bC p.2 q.2
noncomputable def kV:dh → V
 | .inl i => .int i
 | .inr x => .str x
inductive HO where
  | lst (xs:List V)
  | tup (xs:List V)
  | dK (kvs:List (dh × V)) | dT (kvs:List (List dh × V))
  | set (S:Int → Bool) (n:Nat)
  | ins (C dx:Addr) (fs:List (Str × V))
  | own (x:Addr)
  | xd (fs:List (Str × V))
  | met (f x:Addr)
  | BW (lo hi:Int)
  | jB (o:Obj) (u:HO)
  | BX (ps:Array Value)
  | ext (φ:Heap → Prop)
noncomputable abbrev Hp:=Addr → Option HO
noncomputable def upd (H:Hp) (a:Addr) (o:HO):Hp:=fun b => if b = a then some o else H b
theorem cm {H:Hp} {a:Addr} {o:HO}:upd H a o a = some o:=by unfold upd; rw [if_pos rfl]
theorem bq {H:Hp} {a b:Addr} {o:HO} (h:b ≠ a):upd H a o b = H b:=by unfold upd; rw [if_neg h]
theorem Jp {H:Hp} {a b:Addr} {o u:HO} (h:H a = some o) (h':H b = some u) (d:o ≠ u):a ≠ b:=by
 intro e; subst e; rw [h] at h'; exact d (Option.some.inj h')
theorem br {H:Hp} {a b:Addr} {o:HO} (h:H a = some o) (h':H b = none):a ≠ b:=by
 intro e; subst e; rw [h] at h'; cases h'
section
variable (P:Program) (w:World)
noncomputable def cL (H:Hp) (h:Heap) (a:Addr):HO → Prop
 | .lst xs => xs.length ≤ sizeLine ∧ ∃ (aO:List Value) (n:Nat),bo xs aO ∧ h.get? a = some { cls:=.type "list",data:=.seq aO.toArray n }
 | .tup xs => xs.length ≤ sizeLine ∧ ∃ aO:List Value,bo xs aO ∧ IsTup h a aO.toArray
 | .dK kvs => kvs.length ≤ sizeLine ∧ (a == sysModules) = false ∧ ∃ vs,KV kvs vs ∧ h.DictOf (dD P w) a vs
 | .dT kvs => kvs.length ≤ sizeLine ∧ (a == sysModules) = false ∧ ∃ xs:List (List dh × Addr × Value),
   Paired (fun (p:List dh × V) (q:List dh × Addr × Value) => p.1 = q.1 ∧ H q.2.1 = some (.tup (p.1.map kV)) ∧ bC p.2 q.2.2) kvs xs ∧
   ∃ o es ep,h.get? a = some o ∧ o.ExactDict ∧ o.data = .dict es ep ∧ es.toList = xs.map (entryOfKey (tupleKind (dD P w))) ∧ (xs.map (·.1)).Nodup
 | .set S n => h.SetOf (intKind P w) a S n
 | .ins C dx fs => H dx = some (.own a) ∧ fs.length ≤ 1000 ∧ dx ≠ a ∧ h.get? a = some (PySem.W.instObj C dx) ∧
   ∃ mA,h.Ns1 dx mA ∧ (∀ f,nk (fs.lookup f) (mA f)) ∧ PySem.Within mA (fs.map (·.1))
 | .own _ => ∃ o,h.get? a = some o
 | .xd fs => ∃ mA,h.Ns1 a mA ∧ ∀ f,nk (fs.lookup f) (mA f)
 | .BW lo hi => ∃ t u v,h.get? a = some { cls:=.type "range",data:=.fields #[.int lo t,.int hi u,.int 1 v] }
 | .jB o u => h.get? a = some o ∧ cL H h a u
 | .BX ps => h.get? a = some { cls:=.none,data:=.fields ps }
 | .met f x => h.get? a = some (PySem.W.methodObj (.ref f) (.ref x))
 | .ext φ => φ h ∧ (∃ o,h.get? a = some o) ∧ ∀ h1 h2:Heap,φ h1 → (∀ o,h1.get? a = some o → h2.get? a = some o) → φ h2
noncomputable def gZ (H:Hp) (h:Heap):Prop:=∀ a o,H a = some o → cL P w H h a o
end
section
variable {P:Program} {w:World} {H H':Hp} {h h':Heap} {a:Addr} {o:HO}
theorem cL.lt (x:cL P w H h a o):a < h.objs.size:=by
 cases o with
 | lst xs => obtain ⟨_,_,_,_,e⟩:=x; exact Heap.lt_size e
 | tup xs => obtain ⟨_,_,_,p⟩:=x; exact p.lt
 | dK kvs => obtain ⟨_,_,_,_,o,_,_,e,_⟩:=x; exact Heap.lt_size e
 | dT kvs => obtain ⟨_,_,_,_,o,_,_,e,_⟩:=x; exact Heap.lt_size e
 | set S n => obtain ⟨o,_,_,_,e,_⟩:=x; exact Heap.lt_size e
 | ins C dx fs => obtain ⟨_,_,_,e,_⟩:=x; exact Heap.lt_size e
 | own y => obtain ⟨_,e⟩:=x; exact Heap.lt_size e
 | xd fs => obtain ⟨_,⟨_,_,_,e,_⟩,_⟩:=x; exact Heap.lt_size e
 | BW lo hi => obtain ⟨_,_,_,e⟩:=x; exact Heap.lt_size e
 | jB ob u => obtain ⟨e,_⟩:=x; exact Heap.lt_size e
 | BX ps => exact Heap.lt_size (show h.get? a = some _ from x)
 | met f y => exact Heap.lt_size (show h.get? a = some _ from x)
 | ext φ => obtain ⟨_,⟨_,e⟩,_⟩:=x; exact Heap.lt_size e
theorem Paired.Fo {α β:Type} {F G:α → β → Prop}:∀ {l₁:List α} {l₂:List β},Paired F l₁ l₂ → (∀ a b,F a b → G a b) → Paired G l₁ l₂
 | _,_,.nil,_ => .nil
 | _,_,.cons r t,f => .cons (f _ _ r) (Paired.Fo t f)
theorem cL.kq (x:cL P w H h a o) (k:∀ b u,(b = a ∨ H b = some (.own a)) → h.get? b = some u → h'.get? b = some u)
  (ho:∀ b,H b = some (.own a) → H' b = some (.own a)) (ht:∀ b xs,H b = some (.tup xs) → H' b = some (.tup xs)):cL P w H' h' a o:=by
 induction o with
 | lst xs => obtain ⟨z,aO,n,r,e⟩:=x; exact ⟨z,aO,n,r,k _ _ (.inl rfl) e⟩
 | tup xs => obtain ⟨z,aO,r,ob,e,c⟩:=x; exact ⟨z,aO,r,ob,k _ _ (.inl rfl) e,c⟩
 | dK kvs => obtain ⟨z,y,vs,r,ob,es,ep,e,c⟩:=x; exact ⟨z,y,vs,r,ob,es,ep,k _ _ (.inl rfl) e,c⟩
 | dT kvs =>
  obtain ⟨z,y,xs,r,ob,es,ep,e,c⟩:=x
  exact ⟨z,y,xs,Paired.Fo r fun p q z => ⟨z.1,ht _ _ z.2.1,z.2.2⟩,ob,es,ep,k _ _ (.inl rfl) e,c⟩
 | set S n => obtain ⟨ob,es,ep,t,e,c⟩:=x; exact ⟨ob,es,ep,t,k _ _ (.inl rfl) e,c⟩
 | ins C dx fs =>
  obtain ⟨d,z,ne,e,mA,⟨od,es,ep,e2,c⟩,r⟩:=x
  exact ⟨ho _ d,z,ne,k _ _ (.inl rfl) e,mA,⟨od,es,ep,k _ _ (.inr d) e2,c⟩,r⟩
 | own y => obtain ⟨ob,e⟩:=x; exact ⟨ob,k _ _ (.inl rfl) e⟩
 | xd fs => obtain ⟨mA,⟨od,es,ep,e,c⟩,r⟩:=x; exact ⟨mA,⟨od,es,ep,k _ _ (.inl rfl) e,c⟩,r⟩
 | BW lo hi => obtain ⟨t,u,v,e⟩:=x; exact ⟨t,u,v,k _ _ (.inl rfl) e⟩
 | jB ob u ih => obtain ⟨e,q⟩:=x; exact ⟨k _ _ (.inl rfl) e,ih q⟩
 | BX ps =>
  have e:h.get? a = some { cls:=.none,data:=.fields ps }:=x
  show h'.get? a = some { cls:=.none,data:=.fields ps }
  exact k a _ (.inl rfl) e
 | met f y =>
  have e:h.get? a = some (PySem.W.methodObj (.ref f) (.ref y)):=x
  show h'.get? a = some (PySem.W.methodObj (.ref f) (.ref y))
  exact k a _ (.inl rfl) e
 | ext φ => obtain ⟨p,⟨o,e⟩,st⟩:=x; exact ⟨st _ _ p fun o q => k _ _ (.inl rfl) q,⟨o,k _ _ (.inl rfl) e⟩,st⟩
theorem gZ.lt (x:gZ P w H h) (e:H a = some o):a < h.objs.size:=(x a o e).lt
theorem gZ.fresh (x:gZ P w H h) (e:h.objs.size ≤ a):H a = none:=by
 cases q:H a with
 | none => rfl
 | some u => exact absurd (Nat.lt_of_lt_of_le (x.lt q) e) (Nat.lt_irrefl _)
theorem gZ.kept (x:gZ P w H h) (k:∀ b u,h.get? b = some u → h'.get? b = some u):gZ P w H h':=fun a o e =>
 (x a o e).kq (fun b u _ q => k b u q) (fun _ q => q) fun _ _ q => q
theorem gZ.laid (x:gZ P w H h) (k:∀ b u,h.get? b = some u → h'.get? b = some u) (hp:h.objs.size ≤ a) (new:cL P w (upd H a o) h' a o):gZ P w (upd H a o) h':=fun b u e => by
 have hn:=x.fresh hp
 by_cases hb:b = a
 ·subst hb; rw [cm] at e; cases e; exact new
 ·rw [bq hb] at e
  exact (x b u e).kq (fun c v _ q => k c v q) (fun c q => by rw [bq (br q hn)]; exact q) fun c xs q => by rw [bq (br q hn)]; exact q
end
noncomputable def Rd (H:Hp) (a:Addr) (u:HO):Prop:=H a = some u ∨ ∃ o,H a = some (.jB o u)
theorem Rd.ok {P:Program} {w:World} {H:Hp} {h:Heap} {a:Addr} {u:HO} (r:Rd H a u) (x:gZ P w H h):cL P w H h a u:=by
 rcases r with r | ⟨o,r⟩
 ·exact x a u r
 ·obtain ⟨_,q⟩:=x a _ r
  exact q
noncomputable def Jq:Option HO → Prop
 | some (.lst _) => True
 | some (.dK _) => True
 | some (.dT _) => True
 | some (.set _ _) => True
 | some (.ins _ _ _) => True
 | some (.ext _) => True
 | _ => False
section
variable {P:Program} {w:World} {H:Hp} {h h':Heap} {x e:Addr} {o':HO}
theorem gZ.write (ok:gZ P w H h) (mu:Jq (H x)) (he:e = x ∨ H e = some (.own x)) (k:∀ b u,b ≠ e → h.get? b = some u → h'.get? b = some u) (IQ:∃ u,h'.get? e = some u)
  (new:cL P w (upd H x o') h' x o'):gZ P w (upd H x o') h':=fun b u q => by
 have Jr:∀ c y,H c = some (.own y) → c ≠ x:=fun c y r z => by subst z; rw [r] at mu; exact mu
 have M7:∀ c xs,H c = some (.tup xs) → c ≠ x:=fun c xs r z => by subst z; rw [r] at mu; exact mu
 by_cases hb:b = x
 ·subst hb; rw [cm] at q; cases q; exact new
 ·rw [bq hb] at q
  by_cases Fp:b = e
  ·have q':H b = some (.own x):=by
    rcases he with z | z
    ·exact absurd (Fp.trans z) hb
    ·rw [Fp]; exact z
   rw [q] at q'; cases q'
   obtain ⟨v,hv⟩:=IQ
   exact ⟨v,by rw [Fp]; exact hv⟩
  ·refine (ok b u q).kq (fun c v hc r => k c v ?_ r) (fun c r => by rw [bq (Jr c b r)]; exact r) fun c xs r => by rw [bq (M7 c xs r)]; exact r
   rcases hc with rfl | hc
   ·exact Fp
   ·rintro rfl
    rcases he with z | z
    ·exact Jr c b hc z
    ·rw [hc] at z; cases z; exact hb rfl
end
structure Un (fs ex:List Addr) (H H':Hp) (h h':Heap):Prop where
 keep:∀ b o,h.get? b = some o → H b = none → b ∉ fs → b ∉ ex → h'.get? b = some o
 slot:∀ b o,h.get? b = some o → H b = none → b ∈ fs → b ∉ ex → ∃ sl,h'.get? b = some { o with slots:=sl }
 free:∀ b o,h.get? b = some o → H b = none → b ∉ ex → H' b = none
 there:∀ b o,h.get? b = some o → b ∉ ex → ∃ o',h'.get? b = some o'
 jC:∀ b xs,H b = some (.tup xs) → H' b = some (.tup xs)
 jn:∀ b o u,H b = some (.jB o u) → H' b = some (.jB o u)
 jM:∀ b ps,H b = some (.BX ps) → ∃ more,H' b = some (.BX (ps ++ more))
section
variable {fs Rr ex TZ:List Addr} {H H1 H2:Hp} {h h1 h2 h':Heap} {a x e:Addr} {o:HO}
theorem Un.any (u:Un fs ex H H1 h h1) {b:Addr} {ob:Obj} (q:h.get? b = some ob) (n:H b = none) (hx:b ∉ ex):∃ sl,h1.get? b = some { ob with slots:=sl }:=by
 by_cases hb:b ∈ fs
 ·exact u.slot b ob q n hb hx
 ·exact ⟨ob.slots,u.keep b ob q n hb hx⟩
theorem Un.kept (k:∀ b u,h.get? b = some u → h'.get? b = some u):Un fs ex H H h h' :=
 ⟨fun b ob q _ _ _ => k b ob q,fun b ob q _ _ _ => ⟨ob.slots,k b ob q⟩,fun _ _ _ n _ => n,fun b ob q _ => ⟨ob,k b ob q⟩,fun _ _ q => q,fun _ _ _ q => q,fun _ ps q => ⟨#[],by rw [q]; simp⟩⟩
theorem Un.refl:Un fs ex H H h h:=Un.kept fun _ _ q => q
theorem Un.laid (k:∀ b u,h.get? b = some u → h'.get? b = some u) (hp:h.objs.size ≤ a) (hn:H a = none):Un fs ex H (upd H a o) h h' where
 keep:=fun b u q _ _ _ => k b u q
 slot:=fun b u q _ _ _ => ⟨u.slots,k b u q⟩
 free:=fun b u q n _ => by rw [bq (Nat.ne_of_lt (Nat.lt_of_lt_of_le (Heap.lt_size q) hp))]; exact n
 there:=fun b u q _ => ⟨u,k b u q⟩
 jC:=fun b xs q => by rw [bq (br q hn)]; exact q
 jn:=fun b u xs q => by rw [bq (br q hn)]; exact q
 jM:=fun b ps q => ⟨#[],by rw [bq (br q hn),q]; simp⟩
theorem Un.write (mu:Jq (H x)) (he:e = x ∨ H e = some (.own x)) (k:∀ b u,b ≠ e → h.get? b = some u → h'.get? b = some u) (IQ:∃ u,h'.get? e = some u):Un fs ex H (upd H x o) h h':=by
 have hx:∀ b,H b = none → b ≠ x:=fun b n z => by subst z; rw [n] at mu; exact mu
 have hb:∀ b,H b = none → b ≠ e:=fun b n z => by
  subst z
  rcases he with r | r
  ·exact hx b n r
  ·rw [n] at r; cases r
 have hm:∀ b u,H b = some u → ¬ Jq (some u) → b ≠ x:=fun b u q nm z => by subst z; rw [q] at mu; exact nm mu
 refine ⟨fun b u q n _ _ => k b u (hb b n) q,fun b u q n _ _ => ⟨u.slots,k b u (hb b n) q⟩,fun b u q n _ => by rw [bq (hx b n)]; exact n,fun b u q _ => ?_,
  fun b xs q => by rw [bq (hm b _ q fun z => z)]; exact q,fun b u xs q => by rw [bq (hm b _ q fun z => z)]; exact q,fun b ps q => ⟨#[],by rw [bq (hm b _ q fun z => z),q]; simp⟩⟩
 by_cases Fp:b = e
 ·subst Fp; exact IQ
 ·exact ⟨u,k b u Fp q⟩
end
noncomputable def sN (h:Heap) (H:Hp):List Addr:=(List.range h.objs.size).filter fun a => (H a).isSome
noncomputable def qu (h:Heap) (H:Hp):Heap:=PySem.W.hideAll h (sN h H)
theorem xC (h:Heap) (H:Hp):(qu h H).objs.size = h.objs.size:=PySem.W.hideAll_size _ _
theorem zr {h:Heap} {H:Hp} {b:Addr} {o:Obj} (e:h.get? b = some o) (n:H b = none):(qu h H).get? b = some o :=
 PySem.W.hideAll_get _ e fun hm => by
  have q:(H b).isSome = true:=(List.mem_filter.mp hm).2
  rw [n] at q; simp at q
theorem B7 {h:Heap} {H:Hp} {b:Addr} {o:Obj} (e:(qu h H).get? b = some o):h.get? b = some o ∧ H b = none:=by
 have e':h.get? b = some o:=PySem.W.of_hideAll (sN h H) e
 refine ⟨e',?_⟩
 cases q:H b with
 | none => rfl
 | some x =>
  have hm:b ∈ sN h H:=List.mem_filter.mpr ⟨List.mem_range.mpr (Heap.lt_size e'),by simp [q]⟩
  have z:(qu h H).get? b = none:=PySem.W.hideAll_none (sN h H) hm
  rw [z] at e; cases e
end L2
namespace L2
open PySem PySem.Spec PyProof.Rows
structure Mod (K:PySem.W.Frag) (mg:Str → Option Value) (base:Heap):Prop where
 Ex:K.In base
 glob:base.Ns mainGlobals mg
 blt:∃ mb,base.Ns builtinsNs mb ∧ ∀ x:Str,x ≠ "__name__" → mb x = bootBuiltins x
 nolimit:base.NoLimit
structure Cx where
 prog:Program
 w:World
 K:PySem.W.Frag
 mg:Str → Option Value
 base:Heap
 A:Around
 N:List Str
 s₀:Shared
 H₀:Hp
 env:Env
 outer:List Env
 stack:List Env
 ex:List Addr
 fn:Str → Bool
 calm:Bool
 pn:List (Addr × Obj)
 xe:Value → Shared → Prop
noncomputable def fD (l:List Env):List Addr:=l.filterMap (·.frame)
noncomputable abbrev Cx.fs (X:Cx):List Addr:=fD X.outer
noncomputable def BY (sc:Scope) (x:Str):Prop:=sc.names.lookup x = some .local ∨ sc.names.lookup x = some .cell ∨ sc.names.lookup x = some .free
noncomputable def Loc (sc:Scope) (x:Str):Prop:=sc.names.lookup x = some .local ∨ sc.names.lookup x = some .cell
noncomputable def Look (env:Env) (h:Heap) (m:Str → Option Value) (x:Str) (u:Value):Prop :=
 (env.kindOf x = some .local ∧ m x = some u) ∨ ((env.kindOf x = some .cell ∨ env.kindOf x = some .free) ∧ ∃ c,env.cells.lookup x = some c ∧ h.IsCell c (some u))
structure Cx.Ok (X:Cx):Prop where
 mod:Mod X.K X.mg X.base
 kind:X.env.scope.kind = .function
 glob:X.env.globals = mainGlobals
 blt:X.env.builtins = builtinsNs
 above:X.s₀.heap.objs.size ≤ X.env.locals
 inj:∀ x y c,X.env.cells.lookup x = some c → X.env.cells.lookup y = some c → x = y
 has:∀ x,(X.env.kindOf x = some .cell ∨ X.env.kindOf x = some .free) → ∃ c,X.env.cells.lookup x = some c
 Ey:∀ x c,X.fn x = true → X.env.cells.lookup x = some c → X.s₀.heap.objs.size ≤ c
 hd:X.calm = true → X.A.handled = none
 frames:X.A.frames = some X.stack
 BZ:X.stack = X.outer ∨ (X.stack = X.env :: X.outer ∧ X.env.frame = some X.env.locals)
 L_:∀ b ∈ X.ex,b ≠ X.env.locals ∧ ∀ x c,X.env.cells.lookup x = some c → c ≠ b
 bs:∀ b o,X.base.get? b = some o → X.s₀.heap.get? b = some o ∧ X.H₀ b = none
 B0:X.base.objs.size ≤ X.s₀.heap.objs.size
 sO:∀ b o,X.base.get? b = some o → b ∉ X.ex
 xD:∀ b ∈ X.ex,b ∉ X.fs
 iI:X.s₀.heap.FunFrames X.base X.outer
 zg:∀ b ∈ X.fs,X.H₀ b = none
structure aS (X:Cx) (af:List (Addr × Obj)) (σ:List (Option V)) (H:Hp) (s:Shared):Prop where
 ok:X.Ok
 os:s.os = X.s₀.os
 bare:AllBare s.gens
 base:Un X.fs X.ex X.H₀ H X.s₀.heap s.heap
 loc:∃ m,s.heap.Ns X.env.locals m ∧ ∀ (i:Nat) (x:Str) (v:V),X.N[i]? = some x → σ[i]? = some (some v) → BY X.env.scope x → ∃ u,bC v u ∧ Look X.env s.heap m x u
 cell:∀ x c,X.env.cells.lookup x = some c → ∃ v,s.heap.IsCell c v
 free:H X.env.locals = none
 fL:∀ x c,X.env.cells.lookup x = some c → H c = none
 pin:∀ p ∈ X.pn ++ af,s.heap.get? p.1 = some p.2 ∧ H p.1 = none ∧ p.1 ≠ X.env.locals ∧ p.1 ∉ X.fs ∧ ∀ v,p.2.data ≠ .cell v
 b?:gZ X.prog X.w H s.heap
 len:σ.length = X.N.length
section
variable {X:Cx} {af:List (Addr × Obj)} {σ:List (Option V)} {H H':Hp} {s:Shared} {h':Heap}
theorem Cx.Ok.M8 (ok:X.Ok) {b:Addr} {o:Obj} (e:X.base.get? b = some o):b ∉ X.fs:=fun hb => by
 have:=(ok.iI.mem hb).1
 rw [e] at this; cases this
theorem aS.bs (I:aS X af σ H s):∀ b o,X.base.get? b = some o → s.heap.get? b = some o ∧ H b = none:=fun b o e =>
 ⟨I.base.keep b o (I.ok.bs b o e).1 (I.ok.bs b o e).2 (I.ok.M8 e) (I.ok.sO b o e),I.base.free b o (I.ok.bs b o e).1 (I.ok.bs b o e).2 (I.ok.sO b o e)⟩
theorem aS.bk (I:aS X af σ H s):∀ b o,X.base.get? b = some o → s.heap.get? b = some o:=fun b o e => (I.bs b o e).1
theorem aS.mod (I:aS X af σ H s):Mod X.K X.mg X.base:=I.ok.mod
theorem aS.lM (I:aS X af σ H s):X.K.In s.heap:=I.ok.mod.Ex.keeps I.bk
theorem aS.lt (I:aS X af σ H s):X.env.locals < s.heap.objs.size:=let ⟨_,hn,_⟩:=I.loc; hn.lt
theorem aS.sz (I:aS X af σ H s):X.s₀.heap.objs.size ≤ s.heap.objs.size:=Nat.le_trans I.ok.above (Nat.le_of_lt I.lt)
theorem aS.M9 (I:aS X af σ H s) {a:Addr} (h:s.heap.objs.size ≤ a):a ∉ X.fs:=fun hb => by
 obtain ⟨_,o,ho,_⟩:=I.ok.iI.mem hb
 exact absurd (Nat.lt_of_lt_of_le (Heap.lt_size ho) (Nat.le_trans I.sz h)) (Nat.lt_irrefl _)
theorem aS.B1 (I:aS X af σ H s):∀ x c,X.env.cells.lookup x = some c → c ≠ X.env.locals:=fun x c e z => by
 obtain ⟨v,o,ho,hd⟩:=I.cell x c e
 obtain ⟨m,⟨o',es,ep,uN,Rt,_⟩,_⟩:=I.loc
 rw [z,uN] at ho; cases ho; rw [Rt] at hd; cases hd
theorem aS.iI (I:aS X af σ H s):s.heap.FunFrames X.base X.outer:=by
 have all:∀ (l:List Env),(∀ b ∈ fD l,b ∈ X.fs) → X.s₀.heap.FunFrames X.base l → s.heap.FunFrames X.base l:=by
  intro l
  induction l with
  | nil => intro _ _; trivial
  | cons env r ih =>
   intro hs hl
   obtain ⟨hk,⟨L,o,hf,hn,ho,hd⟩,hr⟩:=hl
   have hL:L ∈ X.fs:=hs L (by unfold fD; rw [List.filterMap_cons,hf]; exact List.mem_cons_self)
   obtain ⟨sl,e⟩:=I.base.slot L o ho (I.ok.zg L hL) hL fun z => I.ok.xD L z hL
   exact ⟨hk,⟨L,_,hf,hn,e,hd⟩,ih (fun b hb => hs b (by unfold fD; rw [List.filterMap_cons,hf]; exact List.mem_cons_of_mem _ hb)) hr⟩
 exact all X.outer (fun _ hb => hb) I.ok.iI
theorem aS.stack (I:aS X af σ H s):s.heap.FunFrames X.base X.stack:=by
 rcases I.ok.BZ with e | ⟨e,hf⟩
 ·rw [e]; exact I.iI
 ·rw [e]
  obtain ⟨m,hn,_⟩:=I.loc
  refine .cons (by rw [I.ok.kind]; decide) hf hn ?_ I.iI
  exact Heap.get?_none_of_le (Nat.le_trans I.ok.B0 I.ok.above)
theorem aS.kr (I:aS X af σ H s):∀ b ∈ fD X.stack,b ∈ X.env.locals :: X.fs:=fun b hb => by
 rcases I.ok.BZ with e | ⟨e,hf⟩
 ·rw [e] at hb; exact List.mem_cons_of_mem _ hb
 ·rw [e] at hb
  unfold fD at hb
  rw [List.filterMap_cons,hf] at hb
  exact hb
theorem aS.qv (I:aS X af σ H s):∀ b ∈ fD X.stack,H b = none:=fun b hb => by
 rcases List.mem_cons.mp (I.kr b hb) with e | hb
 ·rw [e]; exact I.free
 ·obtain ⟨_,o,ho,_⟩:=I.ok.iI.mem hb
  exact I.base.free b o ho (I.ok.zg b hb) fun z => I.ok.xD b z hb
theorem aS.step {g':Array GenState} {t':Nat} {d':Drawn} {ch:List Addr} (I:aS X af σ H s)
  (B2:∀ b ∈ ch,(b ∈ X.ex ∨ X.s₀.heap.objs.size ≤ b) ∧ b ≠ X.env.locals ∧ (∀ x c,X.env.cells.lookup x = some c → c ≠ b) ∧ ∀ p ∈ X.pn ++ af,p.1 ≠ b)
  (keep:∀ b o,b ≠ X.env.locals → b ∉ X.fs → b ∉ ch → s.heap.get? b = some o → H b = none → h'.get? b = some o)
  (slot:∀ b o,b ≠ X.env.locals → b ∈ X.fs → b ∉ ch → s.heap.get? b = some o → H b = none → ∃ sl,h'.get? b = some { o with slots:=sl }) (free:∀ b o,b ∉ ch → s.heap.get? b = some o → H b = none → H' b = none)
  (there:∀ b o,b ∉ ch → s.heap.get? b = some o → ∃ o',h'.get? b = some o')
  (jC:∀ b xs,H b = some (.tup xs) → H' b = some (.tup xs)) (jn:∀ b o u,H b = some (.jB o u) → H' b = some (.jB o u)) (jM:∀ b ps,H b = some (.BX ps) → ∃ more,H' b = some (.BX (ps ++ more)))
  (ns:∀ m,s.heap.Ns X.env.locals m → h'.Ns X.env.locals m) (b?:gZ X.prog X.w H' h') (hg:AllBare g') :
  aS X af σ H' { s with heap:=h',gens:=g',drawn:=d',toks:=t' }:=by
 have zt:∀ b o,X.s₀.heap.get? b = some o → b ≠ X.env.locals:=fun b o e => Nat.ne_of_lt (Nat.lt_of_lt_of_le (Heap.lt_size e) I.ok.above)
 have L!:∀ b o,X.s₀.heap.get? b = some o → b ∉ X.ex → b ∉ ch:=fun b o e hx hb => by
  rcases (B2 b hb).1 with z | z
  ·exact hx z
  ·exact absurd (Nat.lt_of_lt_of_le (Heap.lt_size e) z) (Nat.lt_irrefl _)
 have cellK:∀ x c,X.env.cells.lookup x = some c → ∀ v,s.heap.IsCell c v → h'.IsCell c v:=fun x c e v ⟨o,ho,hd⟩ => by
  have Js:c ∉ ch:=fun z => (B2 c z).2.2.1 x c e rfl
  by_cases hc:c ∈ X.fs
  ·obtain ⟨sl,q⟩:=slot c o (I.B1 x c e) hc Js ho (I.fL x c e)
   exact ⟨_,q,hd⟩
  ·exact ⟨o,keep c o (I.B1 x c e) hc Js ho (I.fL x c e),hd⟩
 refine ⟨I.ok,I.os,hg,⟨fun b o e n hb hx => ?_,fun b o e n hb hx => ?_,fun b o e n hx => ?_,fun b o e hx => ?_,fun b xs e => jC b xs (I.base.jC b xs e),fun b o xs e => jn b o xs (I.base.jn b o xs e),fun b ps e => ?_⟩,?_,fun x c e => ?_,?_,fun x c e => ?_,fun p hp => ?_,b?,I.len⟩
 ·exact keep b o (zt b o e) hb (L! b o e hx) (I.base.keep b o e n hb hx) (I.base.free b o e n hx)
 ·obtain ⟨sl,e1⟩:=I.base.slot b o e n hb hx
  obtain ⟨Ez,e2⟩:=slot b _ (zt b o e) hb (L! b o e hx) e1 (I.base.free b o e n hx)
  exact ⟨Ez,e2⟩
 ·obtain ⟨o',e1⟩:=I.base.there b o e hx
  exact free b o' (L! b o e hx) e1 (I.base.free b o e n hx)
 ·obtain ⟨o',e1⟩:=I.base.there b o e hx
  exact there b o' (L! b o e hx) e1
 ·obtain ⟨m1,e1⟩:=I.base.jM b ps e
  obtain ⟨m2,e2⟩:=jM b _ e1
  exact ⟨m1 ++ m2,by rw [e2,Array.append_assoc]⟩
 ·obtain ⟨m,hn,hl⟩:=I.loc
  refine ⟨m,ns m hn,fun i x v e1 e2 e3 => ?_⟩
  obtain ⟨u,r,l⟩:=hl i x v e1 e2 e3
  refine ⟨u,r,?_⟩
  rcases l with l | ⟨k,c,e,z⟩
  ·exact .inl l
  ·exact .inr ⟨k,c,e,cellK x c e _ z⟩
 ·obtain ⟨v,z⟩:=I.cell x c e
  exact ⟨v,cellK x c e v z⟩
 ·obtain ⟨m,⟨o,_,_,ho,_⟩,_⟩:=I.loc
  exact free _ o (fun z => (B2 _ z).2.1 rfl) ho I.free
 ·obtain ⟨v,o,ho,hd⟩:=I.cell x c e
  exact free c o (fun z => (B2 c z).2.2.1 x c e rfl) ho (I.fL x c e)
 ·obtain ⟨e,n,ne,nf,d⟩:=I.pin p hp
  have Js:p.1 ∉ ch:=fun z => (B2 p.1 z).2.2.2 p hp rfl
  exact ⟨keep p.1 p.2 ne nf Js e n,free p.1 p.2 Js e n,ne,nf,d⟩
theorem aS.un {t':Nat} (I:aS X af σ H s) (u:Un X.fs [] H H' s.heap h') (b?:gZ X.prog X.w H' h'):aS X af σ H' { s with heap:=h',toks:=t' }:=by
 obtain ⟨m,⟨o,es,ep,ho,r⟩,_⟩:=id I.loc
 obtain ⟨sl,hL⟩:=u.any ho I.free (by simp)
 exact I.step (g':=s.gens) (d':=s.drawn) (ch:=[]) (fun _ z => nomatch z) (fun b o _ hb _ e n => u.keep b o e n hb (by simp)) (fun b o _ hb _ e n => u.slot b o e n hb (by simp)) (fun b o _ e n => u.free b o e n (by simp)) (fun b o _ e => u.there b o e (by simp)) u.jC u.jn u.jM (fun m' hm => by
  obtain ⟨o',M_,M!,uN,r'⟩:=hm
  rw [ho] at uN; cases uN
  exact ⟨_,M_,M!,hL,r'⟩) b? I.bare
theorem aS.call {g':Array GenState} {t':Nat} {d':Drawn} {ch:List Addr} (I:aS X af σ H s) (u:Un (fD X.stack) ch H H' s.heap h') (b?:gZ X.prog X.w H' h') (hg:AllBare g')
  (B2:∀ b ∈ ch,(b ∈ X.ex ∨ X.s₀.heap.objs.size ≤ b) ∧ b ≠ X.env.locals ∧ (∀ x c,X.env.cells.lookup x = some c → c ≠ b) ∧ ∀ p ∈ X.pn ++ af,p.1 ≠ b) :
  aS X af σ H' { s with heap:=h',gens:=g',drawn:=d',toks:=t' }:=by
 obtain ⟨m,⟨o,es,ep,ho,r⟩,_⟩:=id I.loc
 obtain ⟨sl,hL⟩:=u.any ho I.free fun z => (B2 _ z).2.1 rfl
 exact I.step (ch:=ch) B2 (fun b o hL hb hc e n => u.keep b o e n (fun z => (List.mem_cons.mp (I.kr b z)).elim hL hb) hc) (fun b o _ _ hc e n => u.any e n hc) (fun b o hc e n => u.free b o e n hc) (fun b o hc e => u.there b o e hc) u.jC u.jn u.jM (fun m' hm => by
  obtain ⟨o',M_,M!,uN,r'⟩:=hm
  rw [ho] at uN; cases uN
  exact ⟨_,M_,M!,hL,r'⟩) b? hg
theorem aS.turned {t':Nat} {it:Addr} (I:aS X af σ H s) (k:∀ b o,b ≠ it → s.heap.get? b = some o → h'.get? b = some o) (hn:H it = none) (hL:it ≠ X.env.locals)
  (h1:it ∈ X.ex ∨ X.s₀.heap.objs.size ≤ it) (h2:∀ x c,X.env.cells.lookup x = some c → c ≠ it) (h3:∀ p ∈ X.pn ++ af,p.1 ≠ it):aS X af σ H { s with heap:=h',toks:=t' }:=by
 have Qb:∀ b u,H b = some u → b ≠ it:=fun b u e z => by rw [z,hn] at e; cases e
 refine I.step (g':=s.gens) (d':=s.drawn) (ch:=[it]) (fun b hb => ?_) (fun b o _ _ hc e _ => k b o (fun z => hc (by simp [z])) e) (fun b o _ _ hc e _ => ⟨o.slots,k b o (fun z => hc (by simp [z])) e⟩) (fun _ _ _ _ n => n)
  (fun b o hc e => ⟨o,k b o (fun z => hc (by simp [z])) e⟩) (fun _ _ e => e) (fun _ _ _ e => e) (fun b ps e => ⟨#[],by rw [e]; simp⟩) (fun m hm => ?_) (fun b u e => ?_) I.bare
 ·have e:b = it:=by simpa using hb
  subst e
  exact ⟨h1,hL,h2,h3⟩
 ·obtain ⟨o,es,ep,ho,r⟩:=hm
  exact ⟨o,es,ep,k _ o (Ne.symm hL) ho,r⟩
 ·refine (I.b? b u e).kq (fun c v hc q => k c v ?_ q) (fun _ q => q) fun _ _ q => q
  rcases hc with z | z
  ·rw [z]; exact Qb b u e
  ·exact Qb c _ z
theorem aS.tok (I:aS X af σ H s) (t:Nat):aS X af σ H { s with toks:=t }:=I.un (h':=s.heap) (t':=t) Un.refl I.b?
theorem aS.kept {t':Nat} (I:aS X af σ H s) (k:∀ b u,s.heap.get? b = some u → h'.get? b = some u):aS X af σ H { s with heap:=h',toks:=t' }:=I.un (Un.kept k) (I.b?.kept k)
theorem aS.laid {a:Addr} {o:HO} {t':Nat} (I:aS X af σ H s) (k:∀ b u,s.heap.get? b = some u → h'.get? b = some u) (hp:s.heap.objs.size ≤ a) (new:cL X.prog X.w (upd H a o) h' a o) :
  aS X af σ (upd H a o) { s with heap:=h',toks:=t' }:=I.un (Un.laid k hp (I.b?.fresh hp)) (I.b?.laid k hp new)
theorem aS.write {x e:Addr} {o:HO} {t':Nat} (I:aS X af σ H s) (mu:Jq (H x)) (he:e = x ∨ H e = some (.own x)) (k:∀ b u,b ≠ e → s.heap.get? b = some u → h'.get? b = some u) (IQ:∃ u,h'.get? e = some u)
  (new:cL X.prog X.w (upd H x o) h' x o):aS X af σ (upd H x o) { s with heap:=h',toks:=t' }:=I.un (Un.write mu he k IQ) (I.b?.write mu he k IQ new)
theorem aS.mX {EA:List (Addr × Obj)} (I:aS X af σ H s) (h:∀ p ∈ EA,s.heap.get? p.1 = some p.2 ∧ H p.1 = none ∧ p.1 ≠ X.env.locals ∧ p.1 ∉ X.fs ∧ ∀ v,p.2.data ≠ .cell v):aS X EA σ H s :=
 ⟨I.ok,I.os,I.bare,I.base,I.loc,I.cell,I.free,I.fL,fun p hp => (List.mem_append.mp hp).elim (fun z => I.pin p (List.mem_append_left _ z)) (h p),I.b?,I.len⟩
theorem nq {N:List Str} (hN:N.Nodup) {i j:Nat} {x:Str} (a:N[i]? = some x) (b:N[j]? = some x):i = j:=by
 obtain ⟨h1,e1⟩:=List.getElem?_eq_some_iff.mp a
 obtain ⟨h2,e2⟩:=List.getElem?_eq_some_iff.mp b
 exact (List.getElem_inj hN).mp (e1.trans e2.symm)
theorem ku {M:Model} {A:Around} {E:Value → Shared → Prop} {i:Nat} {x:Str} {v:V} {u:Value} {Q:Unit → Shared → Prop} (I:aS X af σ H s) (hN:X.N.Nodup) (hi:X.N[i]? = some x) (hx:Loc X.env.scope x) (r:bC v u)
  (h:∀ s',aS X af (σ.set i (some v)) H s' → (∃ a,Heap.SameBut a s.heap s'.heap ∧ (a = X.env.locals ∨ X.env.cells.lookup x = some a)) → Q () s') (hf:X.fn x = true ∨ X.env.scope.names.lookup x = some .local:=by first | exact .inl rfl | exact .inr rfl | assumption):wpAny M A (storeName X.env x u) Q E s:=by
 obtain ⟨m,hn,hl⟩:=id I.loc
 have zu:(X.env.scope.kind == .class || (X.env.scope.kind == .module && X.env.locals != X.env.globals)) = false:=by rw [I.ok.kind]; rfl
 have Jt:i < σ.length:=by rw [I.len]; exact (List.getElem?_eq_some_iff.mp hi).1
 have B1:=I.B1
 have tracked:∀ {a:Addr} {h':Heap},(∃ o,s.heap.get? a = some o ∧ H a = none) → Heap.SameBut a s.heap h' → gZ X.prog X.w H h':=fun {a h'} ha hs b ob e => by
  obtain ⟨_,_,wj⟩:=ha
  refine (I.b? b ob e).kq (fun c w' hc q => (hs.2 c ?_).trans q) (fun _ q => q) fun _ _ q => q
  rintro rfl
  rcases hc with rfl | hc
  ·rw [wj] at e; cases e
  ·rw [wj] at hc; cases hc
 rcases hx with hk | hk
 ·refine wpAny_storeName_local hk hn (fun h' IS hs => ?_) zu
  obtain ⟨oL,_,_,Ru,_⟩:=id hn
  refine h _ ⟨I.ok,I.os,I.bare,⟨fun b o e n hb hx => ?_,fun b o e n hb hx => ?_,I.base.free,fun b o e hx => ?_,I.base.jC,I.base.jn,I.base.jM⟩,⟨_,IS,fun j y v' e1 e2 e3 => ?_⟩,fun y c e => ?_,I.free,I.fL,fun p hp => ?_,tracked ⟨oL,Ru,I.free⟩ hs,by simpa using I.len⟩ ⟨_,hs,.inl rfl⟩
  ·exact (hs.2 b (Nat.ne_of_lt (Nat.lt_of_lt_of_le (Heap.lt_size e) I.ok.above))).trans (I.base.keep b o e n hb hx)
  ·obtain ⟨sl,e1⟩:=I.base.slot b o e n hb hx
   exact ⟨sl,(hs.2 b (Nat.ne_of_lt (Nat.lt_of_lt_of_le (Heap.lt_size e) I.ok.above))).trans e1⟩
  ·obtain ⟨o',e1⟩:=I.base.there b o e hx
   exact ⟨o',(hs.2 b (Nat.ne_of_lt (Nat.lt_of_lt_of_le (Heap.lt_size e) I.ok.above))).trans e1⟩
  ·by_cases hj:j = i
   ·subst hj
    rw [hi] at e1; cases e1
    rw [List.getElem?_set_self Jt] at e2
    cases e2
    exact ⟨u,r,.inl ⟨hk,by simp⟩⟩
   ·rw [List.getElem?_set_ne (Ne.symm hj)] at e2
    obtain ⟨u',r',q⟩:=hl j y v' e1 e2 e3
    refine ⟨u',r',?_⟩
    rcases q with ⟨k,e⟩ | ⟨k,c,e,z⟩
    ·refine .inl ⟨k,?_⟩
     have:y ≠ x:=fun e => hj (nq hN e1 (e ▸ hi))
     simp [this,e]
    ·exact .inr ⟨k,c,e,z.sameBut hs (B1 y c e)⟩
  ·obtain ⟨w',z⟩:=I.cell y c e
   exact ⟨w',z.sameBut hs (B1 y c e)⟩
  ·obtain ⟨e,n,ne,nf,d⟩:=I.pin p hp
   exact ⟨(hs.2 p.1 ne).trans e,n,ne,nf,d⟩
 ·have zx:X.fn x = true:=by
   rcases hf with z | z
   ·exact z
   ·rw [z] at hk; cases hk
  obtain ⟨c,hc⟩:=I.ok.has x (.inl hk)
  obtain ⟨w',z⟩:=I.cell x c hc
  refine wpAny_storeName_cell I.ok.kind hk hc z (fun h' c7 hs => ?_)
  obtain ⟨oc,Qc,M?⟩:=id z
  refine h { s with heap:=h' } ⟨I.ok,I.os,I.bare,⟨fun b o e n hb hx => ?_,fun b o e n hb hx => ?_,I.base.free,fun b o e hx => ?_,I.base.jC,I.base.jn,I.base.jM⟩,⟨m,hn.sameBut hs (Ne.symm (B1 x c hc)),fun j y v' e1 e2 e3 => ?_⟩,fun y c' e => ?_,I.free,I.fL,fun p hp => ?_,tracked ⟨oc,Qc,I.fL x c hc⟩ hs,by simpa using I.len⟩ ⟨c,hs,.inr hc⟩
  ·exact (hs.2 b (Nat.ne_of_lt (Nat.lt_of_lt_of_le (Heap.lt_size e) (I.ok.Ey x c zx hc)))).trans (I.base.keep b o e n hb hx)
  ·obtain ⟨sl,e1⟩:=I.base.slot b o e n hb hx
   exact ⟨sl,(hs.2 b (Nat.ne_of_lt (Nat.lt_of_lt_of_le (Heap.lt_size e) (I.ok.Ey x c zx hc)))).trans e1⟩
  ·obtain ⟨o',e1⟩:=I.base.there b o e hx
   exact ⟨o',(hs.2 b (Nat.ne_of_lt (Nat.lt_of_lt_of_le (Heap.lt_size e) (I.ok.Ey x c zx hc)))).trans e1⟩
  ·by_cases hj:j = i
   ·subst hj
    rw [hi] at e1; cases e1
    rw [List.getElem?_set_self Jt] at e2
    cases e2
    exact ⟨u,r,.inr ⟨.inl hk,c,hc,c7⟩⟩
   ·rw [List.getElem?_set_ne (Ne.symm hj)] at e2
    obtain ⟨u',r',q⟩:=hl j y v' e1 e2 e3
    refine ⟨u',r',?_⟩
    rcases q with q | ⟨k,c',e,z'⟩
    ·exact .inl q
    ·refine .inr ⟨k,c',e,z'.sameBut hs ?_⟩
     rintro rfl
     exact hj (nq hN e1 (I.ok.inj _ _ _ e hc ▸ hi))
  ·by_cases Qd:c' = c
   ·subst Qd; exact ⟨_,c7⟩
   ·obtain ⟨w2,z2⟩:=I.cell y c' e
    exact ⟨w2,z2.sameBut hs Qd⟩
  ·obtain ⟨e,n,ne,nf,d⟩:=I.pin p hp
   refine ⟨(hs.2 p.1 ?_).trans e,n,ne,nf,d⟩
   intro q
   rw [q,Qc] at e
   have q':oc = p.2:=Option.some.inj e
   exact d w' (by rw [← q']; exact M?)
theorem jN {M:Model} {A:Around} {E:Value → Shared → Prop} {i:Nat} {x:Str} {v:V} {u:Value} {Q:Unit → Shared → Prop} (I:aS X af σ H s) (hN:X.N.Nodup) (hi:X.N[i]? = some x) (hx:Loc X.env.scope x) (r:bC v u)
  (h:∀ s',aS X af (σ.set i (some v)) H s' → Q () s') (hf:X.fn x = true ∨ X.env.scope.names.lookup x = some .local:=by first | exact .inl rfl | exact .inr rfl | assumption):wpAny M A (storeName X.env x u) Q E s :=
 ku I hN hi hx r (fun s' I' _ => h s' I') hf
theorem aS.sP {s':Shared} {ch:List Addr} (I:aS X af σ H s) (ho:s'.os = s.os) (u:Un (fD X.stack) ch H H' s.heap s'.heap) (b?:gZ X.prog X.w H' s'.heap) (hg:AllBare s'.gens)
  (B2:∀ b ∈ ch,(b ∈ X.ex ∨ X.s₀.heap.objs.size ≤ b) ∧ b ≠ X.env.locals ∧ (∀ x c,X.env.cells.lookup x = some c → c ≠ b) ∧ ∀ p ∈ X.pn ++ af,p.1 ≠ b):aS X af σ H' s':=by
 obtain ⟨h',g',d',t',o'⟩:=s'
 have e:o' = s.os:=ho
 subst e
 exact I.call (g':=g') (t':=t') (d':=d') u b? hg B2
end
noncomputable abbrev XK:=Value → Option Addr → Hp → Prop
noncomputable abbrev St:=List (Option V)
noncomputable abbrev VK:=V → Hp → Prop
noncomputable abbrev TE:=St → Hp → VK → Prop
noncomputable abbrev TT:=St → Hp → (Bool → Hp → Prop) → Prop
noncomputable abbrev TA:=St → Hp → (List V → Hp → Prop) → Prop
structure Ends where
 nx:St → Hp → Prop
 rt:VK
 bk:St → Hp → Prop:=fun _ _ => False
 ct:St → Hp → Prop:=fun _ _ => False
noncomputable abbrev TS:=Ends → St → Hp → Prop
noncomputable def EP (X:Cx) (af:List (Addr × Obj)) (σ:St) (Q:VK) (u:Value) (s':Shared):Prop:=∃ v H',aS X af σ H' s' ∧ bC v u ∧ Q v H'
noncomputable def TP (X:Cx) (af:List (Addr × Obj)) (σ:St) (Q:Bool → Hp → Prop) (b:Bool) (s':Shared):Prop:=∃ H',aS X af σ H' s' ∧ Q b H'
noncomputable def AP (X:Cx) (af:List (Addr × Obj)) (σ:St) (Q:List V → Hp → Prop) (us:List Value) (s':Shared):Prop:=∃ vs H',aS X af σ H' s' ∧ bo vs us ∧ Q vs H'
noncomputable def SP (X:Cx) (af:List (Addr × Obj)) (D:Ends) (f:Flow) (s':Shared):Prop :=
 match f with
 | .next => ∃ σ' H',aS X af σ' H' s' ∧ D.nx σ' H'
 | .brk => ∃ σ' H',aS X af σ' H' s' ∧ D.bk σ' H'
 | .cont => ∃ σ' H',aS X af σ' H' s' ∧ D.ct σ' H'
 | .ret u => ∃ v σ' H',aS X af σ' H' s' ∧ bC v u ∧ D.rt v H'
noncomputable def PE (X:Cx) (e:Expr) (t:TE):Prop :=
 ∀ (af:List (Addr × Obj)) (s:Shared) (σ:St) (H:Hp) (Q:VK),aS X af σ H s → t σ H Q → wpAny (model X.prog X.w) X.A (eval e X.env) (EP X af σ Q) X.xe s
noncomputable def PT (X:Cx) (e:Expr) (t:TT):Prop :=
 ∀ (af:List (Addr × Obj)) (s:Shared) (σ:St) (H:Hp) (Q:Bool → Hp → Prop),aS X af σ H s → t σ H Q → wpAny (model X.prog X.w) X.A (isTrue e X.env (eval e X.env)) (TP X af σ Q) X.xe s
noncomputable def PW (X:Cx) (e:Expr) (t:TT):Prop :=
 ∀ (whole:Sem Value) (af:List (Addr × Obj)) (s:Shared) (σ:St) (H:Hp) (Q:Bool → Hp → Prop),aS X af σ H s → t σ H Q → wpAny (model X.prog X.w) X.A (isTrue e X.env whole) (TP X af σ Q) X.xe s
theorem PW.pt {X:Cx} {e:Expr} {t:TT} (h:PW X e t):PT X e t:=h _
noncomputable def PA (X:Cx) (es:List Expr) (t:TA):Prop :=
 ∀ (pos:Pos) (af:List (Addr × Obj)) (s:Shared) (σ:St) (H:Hp) (Q:List V → Hp → Prop),aS X af σ H s → t σ H Q → wpAny (model X.prog X.w) X.A (spliced (backTo pos (starEach es X.env))) (AP X af σ Q) X.xe s
noncomputable def PS (X:Cx) (st:Stmt) (t:TS):Prop :=
 ∀ (af:List (Addr × Obj)) (s:Shared) (σ:St) (H:Hp) (D:Ends),aS X af σ H s → t D σ H → wpAny (model X.prog X.w) X.A (exec st X.env) (SP X af D) X.xe s
noncomputable def iJ (X:Cx) (st:List Stmt) (t:TS):Prop :=
 ∀ (af:List (Addr × Obj)) (s:Shared) (σ:St) (H:Hp) (D:Ends),aS X af σ H s → t D σ H → wpAny (model X.prog X.w) X.A (execs st X.env) (SP X af D) X.xe s
theorem cR {α:Type} {t:Sem α} {Q Q':α → Shared → Prop} {M:Model} {A:Around} {E:Value → Shared → Prop} {s:Shared} (h:wpAny M A t Q E s) (hQ:∀ a s,Q a s → Q' a s):wpAny M A t Q' E s:=wpAny_mono h hQ fun _ _ x => x
end L2
namespace L2
open PySem PySem.Spec PyProof.Rows
section
variable {X:Cx}
noncomputable def M' (i:Nat):TE:=fun σ H Q => ∃ v,σ[i]? = some (some v) ∧ Q v H
noncomputable def tC (v:V):TE:=fun _ H Q => Q v H
theorem qw {i:Nat} {x:Str} {pos:Pos} (hN:X.N[i]? = some x) (hv:BY X.env.scope x) (hd:(x == ("__debug__":Str)) = false:=by decide) (nr:(x == ("__classdict__":Str)) = false:=by decide):PE X (.Name x pos) (M' i):=by
 intro af s σ H Q I h
 obtain ⟨v,e,h⟩:=h
 obtain ⟨m,hn,hl⟩:=I.loc
 obtain ⟨u,r,l⟩:=hl i x v hN e hv
 have fin:EP X af σ Q u s:=⟨v,H,I,r,h⟩
 rcases l with ⟨hk,hm⟩ | ⟨hk,c,hc,wk⟩
 ·exact wpAny_Name (wpAny_loadName_local I.ok.kind hk hn hm fin) hd
 ·rcases hk with hk | hk
  ·exact wpAny_Name (wpAny_loadName_cell I.ok.kind hk hc wk fin) hd
  ·exact wpAny_Name (wpAny_loadName_free I.ok.kind hk hc wk fin nr) hd
theorem Fq {i j pos}:PE X (.Constant (.int i) j pos) (tC (.int i)):=fun _ _ _ H _ I h => wpAny_Constant_int ⟨.int i,H,I.tok _,⟨_,rfl⟩,h⟩
theorem Ju {b j pos}:PE X (.Constant (.bool b) j pos) (tC (.bl b)):=fun _ _ _ H _ I h => Constant_bool ⟨.bl b,H,I,rfl,h⟩
theorem Fs {j pos}:PE X (.Constant .none j pos) (tC .dA):=fun _ _ _ H _ I h => Constant_none ⟨.dA,H,I,rfl,h⟩
theorem Ft {x j pos}:PE X (.Constant (.str x) j pos) (tC (.str x)):=fun _ _ _ H _ I h => Calls.Constant_str ⟨.str x,H,I.tok _,⟨_,rfl⟩,h⟩
noncomputable def Gl (X:Cx) (x:Str):Prop:=X.env.kindOf x = some .globalImplicit
theorem jh {E:Value → Shared → Prop} {af:List (Addr × Obj)} {s:Shared} {σ:St} {H:Hp} {x:Str} {u:Value} {pos:Pos} {Q:Value → Shared → Prop} (I:aS X af σ H s) (hg:Gl X x) (hm:X.mg x = some u) (h:Q u s)
  (hd:(x == ("__debug__":Str)) = false:=by decide):wpAny (model X.prog X.w) X.A (eval (.Name x pos) X.env) Q E s :=
 Calls.Name_function_global I.ok.kind hg (Calls.loadGlobal_global (by rw [I.ok.glob]; exact I.mod.glob.keeps I.bk) hm h) hd
theorem g6 {E:Value → Shared → Prop} {af:List (Addr × Obj)} {s:Shared} {σ:St} {H:Hp} {x:Str} {u:Value} {pos:Pos} {Q:Value → Shared → Prop} (I:aS X af σ H s) (hg:Gl X x) (hm:X.mg x = none) (hv:bootBuiltins x = some u) (h:Q u s)
  (hn:x ≠ "__name__":=by decide) (hd:(x == ("__debug__":Str)) = false:=by decide):wpAny (model X.prog X.w) X.A (eval (.Name x pos) X.env) Q E s:=by
 obtain ⟨mb,h1,h2⟩:=I.mod.blt
 exact Calls.Name_function_global I.ok.kind hg (Calls.loadGlobal_builtin (by rw [I.ok.glob]; exact I.mod.glob.keeps I.bk) hm (by rw [I.ok.blt]; exact h1.keeps I.bk) ((h2 x hn).trans hv) h) hd
theorem qy {x:Str} {v:V} {u:Value} {pos:Pos} (hg:Gl X x) (hm:X.mg x = some u) (r:bC v u) (hd:(x == ("__debug__":Str)) = false:=by decide):PE X (.Name x pos) (tC v) :=
 fun _ _ _ H _ I h => jh I hg hm ⟨v,H,I,r,h⟩ hd
theorem wm {x:Str} {v:V} {u:Value} {pos:Pos} (hg:Gl X x) (hm:X.mg x = none) (hv:bootBuiltins x = some u) (r:bC v u) (hn:x ≠ "__name__":=by decide) (hd:(x == ("__debug__":Str)) = false:=by decide):PE X (.Name x pos) (tC v) :=
 fun _ _ _ H _ I h => g6 I hg hm hv ⟨v,H,I,r,h⟩ hn hd
variable {a b:Expr} {ta tb:TE} {pos:Pos}
noncomputable def PC (X:Cx) (op:CmpOp) (a b:Expr) (t:TE):Prop :=
 ∀ (af:List (Addr × Obj)) (s:Shared) (σ:St) (H:Hp) (Q:VK),aS X af σ H s → t σ H Q →
  wpAny (model X.prog X.w) X.A (eval a X.env) (fun v s₁ => wpAny (model X.prog X.w) X.A (eval b X.env) (fun u s₂ => wpAny (model X.prog X.w) X.A (compareOp op v u) (EP X af σ Q) X.xe s₂) X.xe s₁) X.xe s
noncomputable def tB (t:TE):TT:=fun σ H Q => t σ H fun x H1 => ∃ c,x = .bl c ∧ Q c H1
theorem Fu {e:Expr} {t:TE} (h:PE X e t) (he:∀ whole,isTrue e X.env whole = (do let v ← whole; standAt e.pos; holding [v] (truthy v)):=by intro _; rfl):PT X e (tB t):=by
 intro af s σ H Q I hw
 refine isTrue_plain (cR (h af s σ H _ I hw) fun v s1 ⟨x,H1,I1,r1,q1⟩ => ?_) (he _)
 obtain ⟨d,rfl,q⟩:=q1
 cases r1
 exact wpAny_truthy_bool ⟨H1,I1,q⟩
variable {tA B8:TT} {rest:List Expr}
noncomputable def Na (t u:TT):TT:=fun σ H Q => t σ H fun c H1 => if c = true then u σ H1 Q else Q false H1
noncomputable def Rv (t u:TT):TT:=fun σ H Q => t σ H fun c H1 => if c = true then Q true H1 else u σ H1 Q
noncomputable def Nb (t:TT):TT:=fun σ H Q => t σ H fun c H1 => Q (!c) H1
theorem B9 (ha:PT X a tA):PW X (.BoolOp .And [a] pos) tA:=by
 intro wh af s σ H Q I h
 refine isTrue_and (cR (ha af s σ H Q I h) fun c s1 e => ?_)
 cases c with
 | true => exact isTrue_and_nil e
 | false => exact e
theorem Fv (ha:PT X a tA):PW X (.BoolOp .Or [a] pos) tA:=by
 intro wh af s σ H Q I h
 refine isTrue_or (cR (ha af s σ H Q I h) fun c s1 e => ?_)
 cases c with
 | false => exact isTrue_or_nil e
 | true => exact e
theorem Fw (ha:PT X a tA) (hb:PW X (.BoolOp .And (b :: rest) pos) B8):PW X (.BoolOp .And (a :: b :: rest) pos) (Na tA B8):=by
 intro wh af s σ H Q I h
 refine isTrue_and (cR (ha af s σ H _ I h) fun c s1 ⟨H1,I1,q1⟩ => ?_)
 cases c with
 | true => exact hb wh af s1 σ H1 Q I1 q1
 | false => exact ⟨H1,I1,q1⟩
theorem Jv (ha:PT X a tA) (hb:PW X (.BoolOp .Or (b :: rest) pos) B8):PW X (.BoolOp .Or (a :: b :: rest) pos) (Rv tA B8):=by
 intro wh af s σ H Q I h
 refine isTrue_or (cR (ha af s σ H _ I h) fun c s1 ⟨H1,I1,q1⟩ => ?_)
 cases c with
 | true => exact ⟨H1,I1,q1⟩
 | false => exact hb wh af s1 σ H1 Q I1 q1
theorem Fx (ha:PT X a tA):PT X (.UnaryOp .Not a pos) (Nb tA):=by
 intro af s σ H Q I h
 exact isTrue_not (ha af s σ H (fun c H1 => Q (!c) H1) I h)
noncomputable def Jw (ta tb:TE):TE:=fun σ H Q => ta σ H fun x H1 => ∃ c,x = .bl c ∧ if c = true then tb σ H1 Q else Q (.bl false) H1
noncomputable def Nc (ta tb:TE):TE:=fun σ H Q => ta σ H fun x H1 => ∃ c,x = .bl c ∧ if c = true then Q (.bl true) H1 else tb σ H1 Q
noncomputable def Jx (ta:TE):TE:=fun σ H Q => ta σ H fun x H1 => ∃ c,x = .bl c ∧ Q (.bl (!c)) H1
theorem Fy {op} {t:TE} (h:PE X a t):PE X (.BoolOp op [a] pos) t:=fun af s σ H Q I hw => BoolOp_one (h af s σ H Q I hw)
theorem FA (ha:PE X a ta) (hb:PE X (.BoolOp .And (b :: rest) pos) tb):PE X (.BoolOp .And (a :: b :: rest) pos) (Jw ta tb):=by
 intro af s σ H Q I h
 refine BoolOp_and (cR (ha af s σ H _ I h) fun v s1 ⟨x,H1,I1,r1,q1⟩ => ?_)
 obtain ⟨c,rfl,q1⟩:=q1
 cases r1
 refine wpAny_truthy_bool ?_
 cases c with
 | true => exact hb af s1 σ H1 Q I1 q1
 | false => exact ⟨.bl false,H1,I1,rfl,q1⟩
theorem Jy (ha:PE X a ta) (hb:PE X (.BoolOp .Or (b :: rest) pos) tb):PE X (.BoolOp .Or (a :: b :: rest) pos) (Nc ta tb):=by
 intro af s σ H Q I h
 refine BoolOp_or (cR (ha af s σ H _ I h) fun v s1 ⟨x,H1,I1,r1,q1⟩ => ?_)
 obtain ⟨c,rfl,q1⟩:=q1
 cases r1
 refine wpAny_truthy_bool ?_
 cases c with
 | false => exact hb af s1 σ H1 Q I1 q1
 | true => exact ⟨.bl true,H1,I1,rfl,q1⟩
theorem FC (ha:PE X a ta):PE X (.UnaryOp .Not a pos) (Jx ta):=by
 intro af s σ H Q I h
 refine UnaryOp_ (cR (ha af s σ H _ I h) fun v s1 ⟨x,H1,I1,r1,q1⟩ => ?_)
 obtain ⟨c,rfl,q1⟩:=q1
 cases r1
 exact not_of (wpAny_truthy_bool ⟨.bl (!c),H1,I1,rfl,q1⟩)
noncomputable def Rw (t:TT) (ta tb:TE):TE:=fun σ H Q => t σ H fun c H1 => if c = true then ta σ H1 Q else tb σ H1 Q
theorem zy {c:Expr} (hc:PT X c tA) (ha:PE X a ta) (hb:PE X b tb):PE X (.IfExp c a b pos) (Rw tA ta tb):=by
 intro af s σ H Q I h
 refine wpAny_IfExp (cR (hc af s σ H _ I h) fun d s1 ⟨H1,I1,q1⟩ => ?_)
 cases d with
 | true => exact ha af s1 σ H1 Q I1 q1
 | false => exact hb af s1 σ H1 Q I1 q1
end
end L2
namespace L2
open PySem PySem.Spec PyProof.Rows
noncomputable def iG (K:PySem.W.Frag) (H:Hp) (a:Addr) (xs:List V):Prop :=
 Rd H a (.lst xs) ∨
  ∃ (o:Obj) (aO:Array Value) (n:Nat),K.lookup a = some o ∧ o.cls = .type "list" ∧ o.dict = none ∧ o.data = .seq aO n ∧ aO.size ≤ sizeLine ∧ bo xs aO.toList
noncomputable def jD (K:PySem.W.Frag) (H:Hp) (a:Addr) (xs:List V):Prop :=
 Rd H a (.tup xs) ∨
  ∃ (o:Obj) (aO:Array Value) (n:Nat),K.lookup a = some o ∧ o.cls = .type "tuple" ∧ o.data = .seq aO n ∧ aO.size ≤ sizeLine ∧ bo xs aO.toList
noncomputable def Nd:Value → Option V
 | .none => some .dA
 | .bool b => some (.bl b)
 | .int i _ => some (.int i)
 | .str x _ => some (.str x)
 | .bytes b _ => some (.M6 b)
 | .float b _ => some (.mW b)
 | .ref a => some (.ref a)
 | .type n => some (.ty n)
 | _ => none
theorem bC.abs {x:V} {u:Value} (r:bC x u):Nd u = some x:=by
 cases x with
 | dA => cases r; rfl
 | bl _ => cases r; rfl
 | int _ => obtain ⟨t,rfl⟩:=r; rfl
 | str _ => obtain ⟨t,rfl⟩:=r; rfl
 | M6 _ => obtain ⟨t,rfl⟩:=r; rfl
 | mW _ => obtain ⟨t,rfl⟩:=r; rfl
 | ref _ => cases r; rfl
 | ty _ => cases r; rfl
theorem bC.inj {x y:V} {u:Value} (r:bC x u) (q:bC y u):x = y:=Option.some.inj (r.abs.symm.trans q.abs)
theorem bo.inj {xs ys:List V} {us:List Value} (p:bo xs us) (q:bo ys us):xs = ys:=by
 induction p generalizing ys with
 | nil => cases q; rfl
 | cons r t ih =>
  cases q with
  | cons r' t' => rw [r.inj r',ih t']
section
variable {X:Cx} {af:List (Addr × Obj)} {σ:St} {H:Hp} {s:Shared} {a:Addr} {xs ys:List V}
theorem iG.of {K:PySem.W.Frag} (h:H a = some (.lst xs)):iG K H a xs:=.inl (.inl h)
theorem jD.of {K:PySem.W.Frag} (h:H a = some (.tup xs)):jD K H a xs:=.inl (.inl h)
theorem aS.list (I:aS X af σ H s) (h:iG X.K H a xs):∃ aO:List Value,bo xs aO ∧ PlainL s.heap a aO.toArray ∧ xs.length ≤ sizeLine:=by
 rcases h with h | ⟨o,aO,n,hk,hc,hd,hs,hz,r⟩
 ·obtain ⟨z,aO,n,r,e⟩:=h.ok I.b?
  exact ⟨aO,r,⟨_,n,e,rfl,rfl,rfl⟩,z⟩
 ·refine ⟨aO.toList,r,⟨o,n,I.lM a o hk,hc,hd,by simpa using hs⟩,?_⟩
  have e:=r.length
  simp only [Array.length_toList] at e
  lia
theorem aS.tuple (I:aS X af σ H s) (h:jD X.K H a xs):∃ aO:List Value,bo xs aO ∧ IsTup s.heap a aO.toArray ∧ xs.length ≤ sizeLine:=by
 rcases h with h | ⟨o,aO,n,hk,hc,hs,hz,r⟩
 ·obtain ⟨z,aO,r,p⟩:=h.ok I.b?
  exact ⟨aO,r,p,z⟩
 ·refine ⟨aO.toList,r,⟨o,I.lM a o hk,hc,n,by simpa using hs⟩,?_⟩
  have e:=r.length
  simp only [Array.length_toList] at e
  lia
theorem aS.iK (I:aS X af σ H s) (h:iG X.K H a xs) (h':iG X.K H a ys):xs = ys:=by
 obtain ⟨aO,r,⟨o,n,e,_,_,d⟩,_⟩:=I.list h
 obtain ⟨its',r',⟨o',n',e',_,_,d'⟩,_⟩:=I.list h'
 rw [e] at e'; cases e'
 rw [d] at d'
 injection d' with d1 _
 have:aO = its':=by simpa using congrArg Array.toList d1
 subst this
 exact r.inj r'
theorem aS.kx (I:aS X af σ H s) (h:jD X.K H a xs) (h':jD X.K H a ys):xs = ys:=by
 obtain ⟨aO,r,⟨o,e,_,n,d⟩,_⟩:=I.tuple h
 obtain ⟨its',r',⟨o',e',_,n',d'⟩,_⟩:=I.tuple h'
 rw [e] at e'; cases e'
 rw [d] at d'
 injection d' with d1 _
 have:aO = its':=by simpa using congrArg Array.toList d1
 subst this
 exact r.inj r'
end
noncomputable abbrev Cx.nu (X:Cx) (E:Value → Shared → Prop):Cx:={ X with xe:=E }
theorem Cx.Ok.nu {X:Cx} (ok:X.Ok) (E:Value → Shared → Prop):(X.nu E).Ok :=
 ⟨ok.mod,ok.kind,ok.glob,ok.blt,ok.above,ok.inj,ok.has,ok.Ey,ok.hd,ok.frames,ok.BZ,ok.L_,ok.bs,ok.B0,ok.sO,ok.xD,ok.iI,ok.zg⟩
theorem Cx.Ok.qz {X:Cx} {E:Value → Shared → Prop} (ok:(X.nu E).Ok):X.Ok :=
 ⟨ok.mod,ok.kind,ok.glob,ok.blt,ok.above,ok.inj,ok.has,ok.Ey,ok.hd,ok.frames,ok.BZ,ok.L_,ok.bs,ok.B0,ok.sO,ok.xD,ok.iI,ok.zg⟩
section
variable {X:Cx} {af:List (Addr × Obj)} {σ:St} {H:Hp} {s:Shared} {E:Value → Shared → Prop}
theorem aS.nu (I:aS X af σ H s) (E:Value → Shared → Prop):aS (X.nu E) af σ H s:=⟨I.ok.nu E,I.os,I.bare,I.base,I.loc,I.cell,I.free,I.fL,I.pin,I.b?,I.len⟩
theorem aS.qz (I:aS (X.nu E) af σ H s):aS X af σ H s:=⟨I.ok.qz,I.os,I.bare,I.base,I.loc,I.cell,I.free,I.fL,I.pin,I.b?,I.len⟩
end
section
variable {X:Cx} {st:Stmt} {rest:List Stmt} {t u:TS} {e:Expr} {te:TE} {pos:Pos}
noncomputable def Jz:TS:=fun D σ H => D.nx σ H
noncomputable def Nf (t u:TS):TS:=fun D σ H => t { D with nx:=u D } σ H
theorem B_:iJ X [] Jz:=fun _ _ σ H _ I h => wpAny_execs_nil ⟨σ,H,I,h⟩
theorem zA (h1:PS X st t) (h2:iJ X rest u):iJ X (st :: rest) (Nf t u):=by
 intro af s σ H D I h
 refine wpAny_execs_cons (cR (h1 af s σ H { D with nx:=u D } I h) fun f s1 q => ?_)
 cases f with
 | next =>
  obtain ⟨σ',H',I',q⟩:=q
  exact h2 af s1 σ' H' D I' q
 | ret v => exact q
 | brk => exact q
 | cont => exact q
theorem B! (h1:PS X st t):iJ X [st] t:=by
 intro af s σ H D I h
 refine wpAny_execs_cons (cR (h1 af s σ H D I h) fun f s1 q => ?_)
 cases f with
 | next => exact wpAny_execs_nil q
 | ret v => exact q
 | brk => exact q
 | cont => exact q
theorem aS.quiet {af:List (Addr × Obj)} {σ:St} {H:Hp} {s:Shared} (I:aS X af σ H s):interactive X.env = false:=by simp [interactive,I.ok.kind]
noncomputable def JA (te:TE):TS:=fun D σ H => te σ H fun _ H1 => D.nx σ H1
theorem B? (he:PE X e te) (hs:swapsWith e none pos.line X.env = pure false:=by rfl):PS X (.Expr e pos) (JA te):=by
 intro af s σ H D I h
 exact wpAny_Expr_any (cR (he af s σ H _ I h) fun v s1 ⟨x,H1,I1,r1,q1⟩ => ⟨σ,H1,I1,q1⟩) I.quiet hs
noncomputable def Ng (te:TE):TS:=fun D σ H => te σ H D.rt
theorem FD (he:PE X e te):PS X (.Return (some e) pos) (Ng te):=by
 intro af s σ H D I h
 exact wpAny_Return_some (cR (he af s σ H _ I h) fun v s1 ⟨x,H1,I1,r1,q1⟩ => ⟨x,σ,H1,I1,r1,q1⟩)
noncomputable def Nh (c:TT) (t u:TS):TS:=fun D σ H => c σ H fun b H1 => if b = true then t D σ H1 else u D σ H1
theorem JB {c:Expr} {a b:List Stmt} {tc:TT} (hc:PT X c tc) (ha:iJ X a t) (hb:iJ X b u):PS X (.If c a b pos) (Nh tc t u):=by
 intro af s σ H D I h
 refine wpAny_If (cR (hc af s σ H _ I h) fun d s1 ⟨H1,I1,q1⟩ => ?_)
 cases d with
 | true => exact ha af s1 σ H1 D I1 q1
 | false => exact hb af s1 σ H1 D I1 q1
end
noncomputable abbrev TG:=V → St → Hp → (St → Hp → Prop) → Prop
noncomputable abbrev B':=List V → St → Hp → (St → Hp → Prop) → Prop
noncomputable def PG (X:Cx) (target:Expr) (t:TG):Prop :=
 ∀ (af:List (Addr × Obj)) (s:Shared) (σ:St) (H:Hp) (v:V) (u:Value) (Q:St → Hp → Prop),aS X af σ H s → bC v u → t v σ H Q →
  wpAny (model X.prog X.w) X.A (assign target X.env u) (fun _ s' => ∃ σ' H',aS X af σ' H' s' ∧ Q σ' H') X.xe s
noncomputable def uV (X:Cx) (ts:List Expr) (t:B'):Prop :=
 ∀ (af:List (Addr × Obj)) (s:Shared) (σ:St) (H:Hp) (vs:List V) (us:List Value) (Q:St → Hp → Prop),aS X af σ H s → bo vs us → t vs σ H Q →
  wpAny (model X.prog X.w) X.A (assignInOrder ((assignEach ts X.env).map (·.2)) us) (fun _ s' => ∃ σ' H',aS X af σ' H' s' ∧ Q σ' H') X.xe s
noncomputable abbrev zB:=V → V → V → Hp → (Hp → Prop) → Prop
noncomputable def FE (X:Cx) (t:zB):Prop :=
 ∀ (af:List (Addr × Obj)) (s:Shared) (σ:St) (H:Hp) (o i v:V) (ov iv u:Value) (Q:Hp → Prop),aS X af σ H s → bC o ov → bC i iv → bC v u → t o i v H Q →
  wpAny (model X.prog X.w) X.A (setItem ov iv u) (fun _ s' => ∃ H',aS X af σ H' s' ∧ Q H') X.xe s
noncomputable abbrev JC:=V → V → Hp → VK → Prop
noncomputable def Qe (X:Cx) (op:Operator) (t:JC):Prop :=
 ∀ (af:List (Addr × Obj)) (s:Shared) (σ:St) (H:Hp) (x y:V) (v u:Value) (Q:VK),aS X af σ H s → bC x v → bC y u → t x y H Q →
  wpAny (model X.prog X.w) X.A (inplaceOp op v u) (EP X af σ Q) X.xe s
section
variable {X:Cx} {pos:Pos}
noncomputable def sQ (i:Nat):TG:=fun v σ H Q => Q (σ.set i (some v)) H
theorem Ca {i:Nat} {x:Str} (hN:X.N.Nodup) (hi:X.N[i]? = some x) (hx:Loc X.env.scope x) (hf:X.fn x = true ∨ X.env.scope.names.lookup x = some .local:=by first | exact .inl rfl | exact .inr rfl | assumption):PG X (.Name x pos) (sQ i):=by
 intro af s σ H v u Q I r h
 exact wpAny_assign_Name (jN I hN hi hx r (fun s' I' => ⟨_,H,I',h⟩) hf)
noncomputable def Ni:B':=fun vs σ H Q => vs = [] ∧ Q σ H
noncomputable def JD (t:TG) (u:B'):B':=fun vs σ H Q => ∃ v r,vs = v :: r ∧ t v σ H fun σ' H' => u r σ' H' Q
theorem Cb:uV X [] Ni:=by
 intro af s σ H vs us Q I r h
 obtain ⟨e,h⟩:=h
 subst e
 cases r
 exact assignInOrder_nil ⟨σ,H,I,h⟩
theorem zC {e:Expr} {es:List Expr} {t:TG} {u:B'} (h1:PG X e t) (h2:uV X es u)
  (hs:(assignEach (e :: es) X.env).map (·.2) = assign e X.env :: (assignEach es X.env).map (·.2):=by rfl):uV X (e :: es) (JD t u):=by
 intro af s σ H vs us Q I r h
 obtain ⟨v,vr,e1,h⟩:=h
 subst e1
 cases r with
 | cons r rr =>
  rw [hs]
  refine assignInOrder_cons (cR (h1 af s σ H _ _ _ I r h) fun _ s1 ⟨σ1,H1,I1,q1⟩ => ?_)
  exact h2 af s1 σ1 H1 _ _ Q I1 rr q1
noncomputable def Nj (K:PySem.W.Frag) (n:Nat) (t:B'):TG:=fun v σ H Q => ∃ a xs,v = .ref a ∧ jD K H a xs ∧ xs.length = n ∧ t xs σ H Q
theorem FF {es:List Expr} {k:Nat} {t:B'} {n:Nat} (hc:X.calm = true) (h:uV X es t)
  (hn:(assignEach es X.env).length = n:=by rfl) (sG:(assignEach es X.env).findIdx? (·.1) = none:=by rfl):PG X (.Tuple es k pos) (Nj X.K n t):=by
 intro af s σ H v u Q I r hw
 obtain ⟨a,xs,e1,hq,hl,hw⟩:=hw
 subst e1
 cases r
 obtain ⟨aO,rv,ht,hz⟩:=I.tuple hq
 refine assign_Tuple_tuple (I.ok.hd hc) ht (by simp [hn,← hl,rv.length]) sG fun h' hx => ?_
 have I1:aS X af σ H { s with heap:=h' }:=I.kept (t':=s.toks) fun b o e => hx b o (Nat.ne_of_lt (Heap.lt_size e)) e
 exact h af _ σ H xs _ Q I1 (by simpa using rv) hw
noncomputable def Nk (to ti:TE) (t:zB):TG:=fun v σ H Q => to σ H fun o H1 => ti σ H1 fun i H2 => t o i v H2 fun H3 => Q σ H3
theorem FG {o i:Expr} {to ti:TE} {t:zB} (ho:PE X o to) (hi:PE X i ti) (hs:FE X t)
  (ha:∀ v,assign (.Subscript o i pos) X.env v = (do
   let ov ← holding [v] (eval o X.env)
   let iv ← holding [v,ov] (eval i X.env)
   standAt pos
   holding [v,ov,iv] (setItem ov iv v)
   release [v,ov,iv] []):=by intro _; rfl):PG X (.Subscript o i pos) (Nk to ti t):=by
 intro af s σ H v u Q I r h
 rw [ha]
 refine wpAny_bind (wpAny_holding (cR (ho af s σ H _ I h) fun ov s1 ⟨x,H1,I1,r1,q1⟩ => ?_))
 refine wpAny_bind (wpAny_holding (cR (hi af s1 σ H1 _ I1 q1) fun iv s2 ⟨y,H2,I2,r2,q2⟩ => ?_))
 refine wpAny_bind (wpAny_standAt (wpAny_bind (wpAny_holding (cR (hs af s2 σ H2 x y v ov iv u _ I2 r1 r2 r q2) fun _ s3 ⟨H3,I3,q3⟩ => ?_))))
 exact wpAny_release ⟨σ,H3,I3,q3⟩
noncomputable def Cc (te:TE) (g:TG):TS:=fun D σ H => te σ H fun x H1 => g x σ H1 D.nx
theorem FH {tg e:Expr} {te:TE} {g:TG} (he:PE X e te) (hg:PG X tg g) (hs:swapsWithSole [tg] e pos.line X.env = pure false:=by rfl) (hw:swappedStores [tg] e X.env = pure none:=by rfl)
  (h1:(assignEach [tg] X.env).map (·.2) = [assign tg X.env]:=by rfl):PS X (.Assign [tg] e pos) (Cc te g):=by
 intro af s σ H D I h
 refine wpAny_Assign_stores (cR (he af s σ H _ I h) fun v s1 ⟨x,H1,I1,r1,q1⟩ => ?_) hs hw
 rw [h1]
 exact cR (hg af s1 σ H1 x v _ I1 r1 q1) fun _ s2 q => q
theorem FI {i:Nat} {x:Str} {e:Expr} {te:TE} {pos':Pos} (hN:X.N.Nodup) (hi:X.N[i]? = some x) (hx:Loc X.env.scope x) (he:PE X e te) (hs:swapsWith e (some (.Name x pos')) pos.line X.env = pure false:=by rfl) (hf:X.fn x = true ∨ X.env.scope.names.lookup x = some .local:=by first | exact .inl rfl | exact .inr rfl | assumption) :
  PS X (.Assign [.Name x pos'] e pos) (Cc te (sQ i)):=by
 intro af s σ H D I h
 refine wpAny_Assign_Name (cR (he af s σ H _ I h) fun v s1 ⟨y,H1,I1,r1,q1⟩ => ?_) hs
 exact jN I1 hN hi hx r1 (fun s2 I2 => ⟨_,H1,I2,q1⟩) hf
noncomputable def Nl (i:Nat) (te:TE) (ti:JC):TS:=fun D σ H => ∃ x,σ[i]? = some (some x) ∧ te σ H fun y H1 => ti x y H1 fun z H2 => D.nx (σ.set i (some z)) H2
theorem FJ {i:Nat} {x:Str} {e:Expr} {te:TE} {op:Operator} {ti:JC} {pos':Pos} (hN:X.N.Nodup) (hi:X.N[i]? = some x) (hx:Loc X.env.scope x) (he:PE X e te) (ho:Qe X op ti) (hf:X.fn x = true ∨ X.env.scope.names.lookup x = some .local:=by first | exact .inl rfl | exact .inr rfl | assumption) :
  PS X (.AugAssign (.Name x pos') op e pos) (Nl i te ti):=by
 intro af s σ H D I h
 obtain ⟨v,e1,h⟩:=h
 obtain ⟨m,hn,hl⟩:=I.loc
 have Nm:BY X.env.scope x:=by rcases hx with k | k; exact .inl k; exact .inr (.inl k)
 obtain ⟨u,r,l⟩:=hl i x v hi e1 Nm
 refine wpAny_AugAssign_Name ?_
 have go:wpAny (model X.prog X.w) X.A (eval e X.env) (fun w s₂ => wpAny (model X.prog X.w) X.A (inplaceOp op u w) (fun r s₃ => wpAny (model X.prog X.w) X.A (storeName X.env x r) (fun _ => SP X af D .next) X.xe s₃) X.xe s₂) X.xe s:=by
  refine cR (he af s σ H _ I h) fun w s1 ⟨y,H1,I1,r1,q1⟩ => ?_
  refine cR (ho af s1 σ H1 v y u w _ I1 r r1 q1) fun z s2 ⟨zv,H2,I2,r2,q2⟩ => ?_
  exact jN I2 hN hi hx r2 (fun s3 I3 => ⟨_,H2,I3,q2⟩) hf
 rcases l with ⟨hk,hm⟩ | ⟨hk,c,hc,wk⟩
 ·exact wpAny_loadName_local I.ok.kind hk hn hm go
 ·rcases hk with hk | hk
  ·exact wpAny_loadName_cell I.ok.kind hk hc wk go
  ·rcases hx with k | k
   ·have:X.env.scope.names.lookup x = some .free:=hk
    rw [k] at this; cases this
   ·have:X.env.scope.names.lookup x = some .free:=hk
    rw [k] at this; cases this
noncomputable def JE (to ti te:TE) (Cd:V → V → Hp → VK → Prop) (L?:JC) (Ce:zB):TS:=fun D σ H => to σ H fun o H1 => ti σ H1 fun i H2 => Cd o i H2 fun x H3 => te σ H3 fun y H4 => L? x y H4 fun z H5 => Ce o i z H5 fun H6 => D.nx σ H6
noncomputable def JF (X:Cx) (t:V → V → Hp → VK → Prop):Prop :=
 ∀ (af:List (Addr × Obj)) (s:Shared) (σ:St) (H:Hp) (o i:V) (ov iv:Value) (Q:VK),aS X af σ H s → bC o ov → bC i iv → t o i H Q →
  wpAny (model X.prog X.w) X.A (getItem ov iv) (EP X af σ Q) X.xe s
theorem Ci {o i e:Expr} {to ti te:TE} {Cd:V → V → Hp → VK → Prop} {L?:JC} {Ce:zB} {op:Operator} {jO:Pos} (ho:PE X o to) (hi:PE X i ti) (hg:JF X Cd) (he:PE X e te) (hp:Qe X op L?) (hs:FE X Ce)
  (ha:∀ ov iv new,augStore i ov iv new = (do holding [new,ov,iv] (setItem ov iv new); release [new,ov,iv] []; pure .next):=by intros; rfl):PS X (.AugAssign (.Subscript o i jO) op e pos) (JE to ti te Cd L? Ce):=by
 intro af s σ H D I h
 refine wpAny_AugAssign_SubscriptAny (cR (ho af s σ H _ I h) fun ov s1 ⟨x1,H1,I1,r1,q1⟩ => ?_) ha
 refine cR (hi af s1 σ H1 _ I1 q1) fun iv s2 ⟨x2,H2,I2,r2,q2⟩ => ?_
 refine cR (hg af s2 σ H2 x1 x2 ov iv _ I2 r1 r2 q2) fun old s3 ⟨x3,H3,I3,r3,q3⟩ => ?_
 refine cR (he af s3 σ H3 _ I3 q3) fun v s4 ⟨x4,H4,I4,r4,q4⟩ => ?_
 refine cR (hp af s4 σ H4 x3 x4 old v _ I4 r3 r4 q4) fun new s5 ⟨x5,H5,I5,r5,q5⟩ => ?_
 exact cR (hs af s5 σ H5 x1 x2 x5 ov iv new _ I5 r1 r2 r5 q5) fun _ s6 ⟨H6,I6,q6⟩ => ⟨σ,H6,I6,q6⟩
end
section
variable {X:Cx} {pos:Pos}
noncomputable def FK (c:TT) (tb:TS):TS:=fun D σ H => ∃ W:Nat → St → Hp → Prop,(∃ m,W m σ H) ∧ ∀ m σ H,W m σ H →
 c σ H fun b H1 => if b = true then ∃ N:St → Hp → Prop,(∀ σ' H',N σ' H' → ∃ m',m' < m ∧ W m' σ' H') ∧ tb { D with nx:=N,ct:=N,bk:=D.nx } σ H1 else D.nx σ H1
theorem zD {c:Expr} {body:List Stmt} {tc:TT} {tb:TS} (hp:PassesOwn (model X.prog X.w) X.A X.env X.xe) (hc:PT X c tc) (hb:iJ X body tb):PS X (.While c body [] pos) (FK tc tb):=by
 intro af s σ H D I h
 obtain ⟨W,⟨m0,w0⟩,turn⟩:=h
 refine wpAny_While (codeAny_whileLoop (fun n s' => ∃ σ' H',aS X af σ' H' s' ∧ W n σ' H') ?_ m0 ⟨σ,H,I,w0⟩)
 rintro n s1 ⟨σ1,H1,I1,w1⟩
 refine wpAny_passesOwn hp (cR (hc af s1 σ1 H1 _ I1 (turn n σ1 H1 w1)) fun b s2 ⟨H2,I2,q2⟩ => ?_)
 cases b with
 | true =>
  obtain ⟨N,hN,q2⟩:=q2
  rw [if_pos rfl]
  refine wpAny_passesOwn hp (cR (hb af s2 σ1 H2 _ I2 q2) fun f s3 q3 => ?_)
  cases f with
  | next =>
   obtain ⟨σ3,H3,I3,n3⟩:=q3
   obtain ⟨m',hm,w3⟩:=hN σ3 H3 n3
   exact ⟨m',hm,σ3,H3,I3,w3⟩
  | cont =>
   obtain ⟨σ3,H3,I3,n3⟩:=q3
   obtain ⟨m',hm,w3⟩:=hN σ3 H3 n3
   exact ⟨m',hm,σ3,H3,I3,w3⟩
  | brk => exact q3
  | ret v => exact q3
 | false =>
  rw [if_neg Bool.false_ne_true]
  exact wpAny_execs_nil ⟨σ1,H2,I2,q2⟩
end
structure It where
 go:Nat → Hp → Prop
 JG:Nat → Hp → V → Hp → Prop
 stop:Nat → Hp → Prop
noncomputable def pe (X:Cx) (af:List (Addr × Obj)) (H:Hp) (b:Addr):Prop :=
 H b = none ∧ b ≠ X.env.locals ∧ b ∉ X.fs ∧ (b ∈ X.ex ∨ X.s₀.heap.objs.size ≤ b) ∧ (∀ x c,X.env.cells.lookup x = some c → c ≠ b) ∧ ∀ p ∈ X.pn ++ af,p.1 ≠ b
theorem aS.uW {X:Cx} {af:List (Addr × Obj)} {σ:St} {H H':Hp} {s:Shared} {b:Addr} (I:aS X af σ H s) (hb:s.heap.objs.size ≤ b) (hn:H' b = none):pe X af H' b:=by
 refine ⟨hn,Nat.ne_of_gt (Nat.lt_of_lt_of_le I.lt hb),I.M9 hb,.inr (Nat.le_trans I.sz hb),fun x c e z => ?_,fun p hp z => ?_⟩
 ·obtain ⟨v,q⟩:=I.cell x c e
  exact absurd (Nat.lt_of_lt_of_le q.lt (by rw [z]; exact hb)) (Nat.lt_irrefl _)
 ·exact absurd (Nat.lt_of_lt_of_le (Heap.lt_size (I.pin p hp).1) (by rw [z]; exact hb)) (Nat.lt_irrefl _)
structure Turn (P:Program) (w:World) (K:PySem.W.Frag) (tg:Expr) (J:It) (fp:List Addr) (it:Addr) (tn:Nat → Heap → Prop):Prop where
 mem:it ∈ fp
 obj:∀ i h,tn i h → ∀ b ∈ fp,∃ o,h.get? b = some o ∧ ∀ v,o.data ≠ .cell v
 keep:∀ i h h',tn i h → (∀ b ∈ fp,∀ o,h.get? b = some o → h'.get? b = some o) → tn i h'
 item:∀ (X:Cx),X.prog = P → X.w = w → X.K = K → X.calm = true → ∀ (i:Nat) (af:List (Addr × Obj)) (s:Shared) (σ:St) (H:Hp) (E:Value → Shared → Prop),aS X af σ H s → (∀ b ∈ fp,pe X af H b) → tn i s.heap → J.go i H →
  wpAny (model P w) X.A (pyNext (.ref it)) (fun r s1 => ∃ u,r = some u ∧
   wpAny (model P w) X.A (letOwnedTupleGo tg (.ref it) u) (fun _ s2 => ∃ x H',aS X af σ H' s2 ∧ bC x u ∧ J.JG i H x H' ∧ tn (i + 1) s2.heap ∧ ∀ b ∈ fp,H' b = none) E s1) E s
 done:∀ (X:Cx),X.prog = P → X.w = w → X.K = K → X.calm = true → ∀ (i:Nat) (af:List (Addr × Obj)) (s:Shared) (σ:St) (H:Hp) (E:Value → Shared → Prop),aS X af σ H s → (∀ b ∈ fp,pe X af H b) → tn i s.heap → J.stop i H →
  wpAny (model P w) X.A (pyNext (.ref it)) (fun r s1 => r = none ∧ aS X af σ H s1) E s
 self:∀ (A:Around) (i:Nat) (s:Shared) (Q:Value → Shared → Prop) (E:Value → Shared → Prop),tn i s.heap → Q (.ref it) s → wpAny (model P w) A (pyIter (.ref it)) Q E s
noncomputable abbrev TI:=St → Hp → (It → Hp → Prop) → Prop
noncomputable def Nn (X:Cx) (af:List (Addr × Obj)) (σ:St) (tg:Expr) (R:It → Hp → Prop) (L':Value) (s2:Shared):Prop :=
 ∃ (it:Addr) (fp:List Addr) (tn:Nat → Heap → Prop) (J:It) (H':Hp),L' = .ref it ∧ aS X af σ H' s2 ∧ Turn X.prog X.w X.K tg J fp it tn ∧ tn 0 s2.heap ∧ (∀ b ∈ fp,pe X af H' b) ∧ R J H'
noncomputable def PI (X:Cx) (tg iter:Expr) (wi:TI):Prop :=
 ∀ (af:List (Addr × Obj)) (s:Shared) (σ:St) (H:Hp) (R:It → Hp → Prop),aS X af σ H s → wi σ H R →
  wpAny (model X.prog X.w) X.A (eval iter X.env) (fun v s1 => wpAny (model X.prog X.w) X.A (pyIter v) (Nn X af σ tg R) X.xe s1) X.xe s
theorem sR {M:Model} {A:Around} {E:Value → Shared → Prop} {s:Shared} {tg:Expr} {it:Addr} {u:Value} {o:Obj} {n:String} {vs:Array Value} {Q:Unit → Shared → Prop} (ho:s.heap.get? it = some o) (hc:o.cls = .type n) (hd:o.data = .fields vs)
    (hn:["enumerate","zip","dict_itemiterator","dict_reverseitemiterator","odict_iterator","itertools.zip_longest","itertools.pairwise"].contains n = false) (hQ:Q () s):wpAny M A (letOwnedTupleGo tg (.ref it) u) Q E s:=by
  unfold letOwnedTupleGo
  cases tg <;> first
    | exact wpAny_pure hQ
    | (cases u <;> first
        | exact wpAny_pure hQ
        | (refine wpAny_bind (wpAny_load ho ?_)
           rw [hc,hd]
           show wpAny M A (if (["enumerate","zip","dict_itemiterator","dict_reverseitemiterator","odict_iterator","itertools.zip_longest","itertools.pairwise"].contains n && vs[0]? == some (rawInt _)) = true then _ else _) Q E s
           rw [if_neg (by intro h; rw [hn,Bool.false_and] at h; cases h)]
           exact wpAny_pure hQ))
noncomputable def Np (K:PySem.W.Frag) (a:Addr):It :=
 ⟨fun i H => ∃ xs x,iG K H a xs ∧ xs[i]? = some x,fun i H x H' => H' = H ∧ ∀ xs,iG K H a xs → xs[i]? = some x,fun i H => ∃ xs,iG K H a xs ∧ xs.length ≤ i⟩
noncomputable def Nq (K:PySem.W.Frag) (a:Addr):It :=
 ⟨fun i H => ∃ xs x,jD K H a xs ∧ xs[i]? = some x,fun i H x H' => H' = H ∧ ∀ xs,jD K H a xs → xs[i]? = some x,fun i H => ∃ xs,jD K H a xs ∧ xs.length ≤ i⟩
noncomputable def JH (lo:Int) (n:Nat):It:=⟨fun i _ => i < n,fun i H x H' => H' = H ∧ x = .int (lo + i),fun i _ => n ≤ i⟩
theorem xE {P:Program} {w:World} {K:PySem.W.Frag} {tg:Expr} (a it:Addr):Turn P w K tg (Np K a) [it] it (fun i h => h.IsListIter it a i) where
 mem:=by simp
 obj:=fun i h st b hb => by
  have e:b = it:=by simpa using hb
  subst e
  obtain ⟨o,e,c,d⟩:=st
  exact ⟨o,e,fun v z => by rw [d] at z; cases z⟩
 keep:=fun i h h' st k => st.at fun o e => k it (by simp) o e
 item:=by
  intro X hP hw hK hc i af s σ H E I hf st hg
  subst hP hw hK
  obtain ⟨xs,x,hq,hx⟩:=hg
  obtain ⟨aO,rv,p,hz⟩:=I.list hq
  obtain ⟨u,hu,ru⟩:=rv.get hx
  obtain ⟨f0,f1,f2,f3,f4,f5⟩:=hf it (by simp)
  refine wpAny_pyNext_list_item st p.isList (x:=u) (by simpa using hu) fun h' aC sb => ?_
  have I1:aS X af σ H { s with heap:=h' }:=I.turned (t':=s.toks) (fun b o hb e => (sb.2 b hb).trans e) f0 f1 f3 f4 f5
  obtain ⟨o,e,c,d⟩:=id aC
  exact ⟨u,rfl,sR (s:={ s with heap:=h' }) e c d (by decide) ⟨x,H,I1,ru,⟨rfl,fun ys hy => by rw [I.iK hy hq]; exact hx⟩,aC,fun b hb => (hf b hb).1⟩⟩
 done:=by
  intro X hP hw hK hc i af s σ H E I hf st hg
  subst hP hw hK
  obtain ⟨xs,hq,hx⟩:=hg
  obtain ⟨aO,rv,p,hz⟩:=I.list hq
  obtain ⟨f0,f1,f2,f3,f4,f5⟩:=hf it (by simp)
  have hl:=rv.length
  exact wpAny_pyNext_list_end (I.ok.hd hc) st p.isList (by simp; lia) fun h' eb => ⟨rfl,I.turned (t':=s.toks) (fun b o hb e => eb b o hb e) f0 f1 f3 f4 f5⟩
 self:=fun _ _ _ _ _ st h => wpAny_pyIter_listiter st h
theorem uX {P:Program} {w:World} {K:PySem.W.Frag} {tg:Expr} (a it:Addr):Turn P w K tg (Nq K a) [it] it (fun i h => h.IsTupleIter it a i) where
 mem:=by simp
 obj:=fun i h st b hb => by
  have e:b = it:=by simpa using hb
  subst e
  obtain ⟨o,e,c,d⟩:=st
  exact ⟨o,e,fun v z => by rw [d] at z; cases z⟩
 keep:=fun i h h' st k => st.at fun o e => k it (by simp) o e
 item:=by
  intro X hP hw hK hc i af s σ H E I hf st hg
  subst hP hw hK
  obtain ⟨xs,x,hq,hx⟩:=hg
  obtain ⟨aO,rv,p,hz⟩:=I.tuple hq
  obtain ⟨u,hu,ru⟩:=rv.get hx
  obtain ⟨f0,f1,f2,f3,f4,f5⟩:=hf it (by simp)
  refine wpAny_pyNext_tuple_item st (show s.heap.IsTuple a aO.toArray from p) (x:=u) (by simpa using hu) fun h' aC sb => ?_
  have I1:aS X af σ H { s with heap:=h' }:=I.turned (t':=s.toks) (fun b o hb e => (sb.2 b hb).trans e) f0 f1 f3 f4 f5
  obtain ⟨o,e,c,d⟩:=id aC
  exact ⟨u,rfl,sR (s:={ s with heap:=h' }) e c d (by decide) ⟨x,H,I1,ru,⟨rfl,fun ys hy => by rw [I.kx hy hq]; exact hx⟩,aC,fun b hb => (hf b hb).1⟩⟩
 done:=by
  intro X hP hw hK hc i af s σ H E I hf st hg
  subst hP hw hK
  obtain ⟨xs,hq,hx⟩:=hg
  obtain ⟨aO,rv,p,hz⟩:=I.tuple hq
  obtain ⟨f0,f1,f2,f3,f4,f5⟩:=hf it (by simp)
  have hl:=rv.length
  exact wpAny_pyNext_tuple_end (I.ok.hd hc) st (show s.heap.IsTuple a aO.toArray from p) (by simp; lia) fun h' eb => ⟨rfl,I.turned (t':=s.toks) (fun b o hb e => eb b o hb e) f0 f1 f3 f4 f5⟩
 self:=fun _ _ _ _ _ st h => wpAny_pyIter_tupleiter st h
theorem uY {P:Program} {w:World} {K:PySem.W.Frag} {tg:Expr} (it:Addr) (lo:Int) (n:Nat):Turn P w K tg (JH lo n) [it] it (fun i h => IsRangeIter h it (lo + (i:Nat) * 1) ((n:Int) - (i:Nat)) 1) where
 mem:=by simp
 obj:=fun i h st b hb => by
  have e:b = it:=by simpa using hb
  subst e
  exact ⟨_,st,fun v z => by
   have z':Data.fields _ = Data.cell v:=z
   cases z'⟩
 keep:=fun i h h' st k => k it (by simp) _ st
 item:=by
  intro X hP hw hK hc i af s σ H E I hf st hg
  subst hP hw hK
  obtain ⟨f0,f1,f2,f3,f4,f5⟩:=hf it (by simp)
  have W:=Walks.range (prog:=X.prog) (w:=X.w) (I.ok.hd hc) it lo 1 n
  refine W.item i s _ _ hg st fun v h' tk hv aC kk => ?_
  obtain ⟨t,rfl⟩:=hv
  have I1:aS X af σ H { s with heap:=h',toks:=tk }:=I.turned (fun b o hb e => kk b o (by simpa using hb) e) f0 f1 f3 f4 f5
  refine ⟨_,rfl,sR (s:={ s with heap:=h',toks:=tk }) (n:="range_iterator") aC rfl rfl (by decide) ⟨.int (lo + i),H,I1,⟨t,?_⟩,⟨rfl,rfl⟩,aC,fun b hb => (hf b hb).1⟩⟩
  rw [Int.mul_one]
 done:=by
  intro X hP hw hK hc i af s σ H E I hf st hg
  subst hP hw hK
  obtain ⟨f0,f1,f2,f3,f4,f5⟩:=hf it (by simp)
  exact wpAny_pyNext_range_end (I.ok.hd hc) st (by have:n ≤ i:=hg; lia) fun h' eb => ⟨rfl,I.turned (t':=s.toks) (fun b o hb e => eb b o hb e) f0 f1 f3 f4 f5⟩
 self:=fun _ _ _ _ _ st h => wpAny_pyIter_rangeiter st h
end L2
namespace L2
open PySem PySem.Spec PyProof.Rows
section
variable {X:Cx} {tg:Expr}
theorem sS {af:List (Addr × Obj)} {σ:St} {H:Hp} {s:Shared} {R:It → Hp → Prop} {E:Value → Shared → Prop} {lo hi:Int} {t u v:Tok} {tk:Nat} (I:aS X af σ H s) (h1:-(2 ^ 62) ≤ lo) (h2:lo < 2 ^ 62) (h3:-(2 ^ 62) ≤ hi) (h4:hi < 2 ^ 62)
  (q:R (JH lo (hi - lo).toNat) H):wpAny (model X.prog X.w) X.A (pyIter (.ref s.heap.objs.size)) (Nn X af σ tg R) E { s with heap:=s.heap.push { cls:=.type "range",data:=.fields #[.int lo t,.int hi u,.int 1 v] },toks:=tk }:=by
 refine wpAny_pyIter_range (IsRange.new ..) (small_one h1 h2 h3 h4) ?_
 have I1:aS X af σ H { s with heap:=s.heap.push { cls:=.type "range",data:=.fields #[.int lo t,.int hi u,.int 1 v] },toks:=tk }:=I.kept fun b o e => Heap.get?_push_of_some _ e
 refine ⟨(s.heap.push { cls:=.type "range",data:=.fields #[.int lo t,.int hi u,.int 1 v] }).objs.size,[(s.heap.push { cls:=.type "range",data:=.fields #[.int lo t,.int hi u,.int 1 v] }).objs.size],_,_,H,rfl,
  I1.kept (t':=tk) fun b o e => Heap.get?_push_of_some _ e,uY _ lo (hi - lo).toNat,?_,fun b hb => ?_,q⟩
 ·have e1:lo + ((0:Nat):Int) * 1 = lo:=by simp
  have e2:(((hi - lo).toNat:Nat):Int) - ((0:Nat):Int) = Builtin.Range.rangeSize lo hi 1:=by rw [rangeSize_one]; split <;> lia
  show IsRangeIter _ _ (lo + ((0:Nat):Int) * 1) ((((hi - lo).toNat:Nat):Int) - ((0:Nat):Int)) 1
  rw [e1,e2]
  exact Heap.get?_push_size _ rfl
 ·have e:b = (s.heap.push { cls:=.type "range",data:=.fields #[.int lo t,.int hi u,.int 1 v] }).objs.size:=by simpa using hb
  subst e
  exact I1.uW (Nat.le_refl _) (I1.b?.fresh (Nat.le_refl _))
noncomputable def JI (ta:TA):TI:=fun σ H R => ta σ H fun vs H1 => ∃ j:Int,vs = [.int j] ∧ -(2 ^ 62) ≤ j ∧ j < 2 ^ 62 ∧ R (JH 0 j.toNat) H1
noncomputable def JJ (ta:TA):TI:=fun σ H R => ta σ H fun vs H1 => ∃ i j:Int,vs = [.int i,.int j] ∧ (-(2 ^ 62) ≤ i ∧ i < 2 ^ 62 ∧ -(2 ^ 62) ≤ j ∧ j < 2 ^ 62) ∧ R (JH i (j - i).toNat) H1
theorem xF {a:Expr} {ta:TA} {p pos:Pos} (hg:Gl X "range") (hm:X.mg "range" = none) (ha:PA X [a] ta) (hs:starEach [a] X.env = [(false,eval a X.env)]:=by rfl):PI X tg (.Call (.Name "range" p) [a] [] pos) (JI ta):=by
 intro af s σ H R I h
 refine Call_ (g6 I hg hm boot_range (PyProof.Rows.callWith_type1 (cR (ha pos af s σ H _ I h) fun us s1 ⟨vs,H1,I1,r1,q1⟩ => ?_) hs rfl))
 obtain ⟨j,e,q1,q2,q⟩:=q1
 subst e
 cases r1 with
 | cons r rr =>
  cases rr
  obtain ⟨t,rfl⟩:=r
  exact call_range_1 (sS I1 (by lia) (by lia) q1 q2 (by simpa using q))
theorem xG {a b:Expr} {ta:TA} {p pos:Pos} (hg:Gl X "range") (hm:X.mg "range" = none) (ha:PA X [a,b] ta) (hs:starEach [a,b] X.env = [(false,eval a X.env),(false,eval b X.env)]:=by rfl) (gz:starEach [b] X.env = [(false,eval b X.env)]:=by rfl) :
  PI X tg (.Call (.Name "range" p) [a,b] [] pos) (JJ ta):=by
 intro af s σ H R I h
 refine Call_ (g6 I hg hm boot_range (PyProof.Rows.callWith_type1 (cR (ha pos af s σ H _ I h) fun us s1 ⟨vs,H1,I1,r1,q1⟩ => ?_) (by rw [hs,gz]) (by rw [gz]; rfl)))
 obtain ⟨i,j,e,⟨q1,q2,q3,q4⟩,q⟩:=q1
 subst e
 cases r1 with
 | cons r rr =>
  cases rr with
  | cons r' rr =>
   cases rr
   obtain ⟨t,rfl⟩:=r
   obtain ⟨t',rfl⟩:=r'
   exact call_range_2 (sS I1 q1 q2 q3 q4 q)
noncomputable def Nr (wi:TI) (g:TG) (tb:TS):TS:=fun D σ H => wi σ H fun J H1 => ∃ W:Nat → Nat → St → Hp → Prop,(∃ m,W 0 m σ H1) ∧ ∀ i m σ H,W i m σ H →
 (J.stop i H ∧ D.nx σ H) ∨ (J.go i H ∧ ∃ N:St → Hp → Prop,(∀ σ' H',N σ' H' → ∃ m',m' < m ∧ W (i + 1) m' σ' H') ∧ ∀ x H',J.JG i H x H' → g x σ H' fun σ2 H2 => tb { D with nx:=N,ct:=N,bk:=D.nx } σ2 H2)
noncomputable def nv (fp:List Addr) (h:Heap):List (Addr × Obj):=fp.filterMap fun b => (h.get? b).map fun o => (b,o)
theorem g_ {fp:List Addr} {h:Heap} {b:Addr} {o:Obj} (hb:b ∈ fp) (e:h.get? b = some o):(b,o) ∈ nv fp h:=List.mem_filterMap.mpr ⟨b,hb,by rw [e]; rfl⟩
theorem xH {fp:List Addr} {h:Heap} {p:Addr × Obj} (hp:p ∈ nv fp h):p.1 ∈ fp ∧ h.get? p.1 = some p.2:=by
 obtain ⟨b,hb,e⟩:=List.mem_filterMap.mp hp
 cases q:h.get? b with
 | none => rw [q] at e; cases e
 | some o =>
  rw [q] at e
  have e':(b,o) = p:=Option.some.inj e
  subst e'
  exact ⟨hb,q⟩
theorem aS.pinned {af:List (Addr × Obj)} {σ:St} {H:Hp} {s:Shared} {fp:List Addr} (I:aS X af σ H s) (hf:∀ b ∈ fp,pe X af H b) (ho:∀ b ∈ fp,∃ o,s.heap.get? b = some o ∧ ∀ v,o.data ≠ .cell v):aS X (af ++ nv fp s.heap) σ H s :=
 I.mX fun p hp => (List.mem_append.mp hp).elim (fun z => I.pin p (List.mem_append_right _ z)) fun z => by
  obtain ⟨hb,e⟩:=xH z
  obtain ⟨f0,f1,f2,_⟩:=hf p.1 hb
  obtain ⟨o,e',d⟩:=ho p.1 hb
  rw [e] at e'; cases e'
  exact ⟨e,f0,f1,f2,d⟩
theorem aS.ny {af pl:List (Addr × Obj)} {σ:St} {H:Hp} {s:Shared} (I:aS X (af ++ pl) σ H s):aS X af σ H s:=I.mX fun p hp => I.pin p (List.mem_append_right _ (List.mem_append_left _ hp))
theorem FL {iter:Expr} {body:List Stmt} {wi:TI} {g:TG} {tb:TS} {pos:Pos} (hp:PassesOwn (model X.prog X.w) X.A X.env X.xe) (hc:X.calm = true) (hi:PI X tg iter wi) (hg:PG X tg g) (hb:iJ X body tb)
  (hs:∀ x,foldedSetIterable iter X.env x = pure x:=by intro _; rfl):PS X (.For tg iter body [] pos) (Nr wi g tb):=by
 intro af s σ H D I h
 refine wpAny_For (cR (hi af s σ H _ I h) fun v s1 h1 => cR h1 fun L' s2 h2 => ?_) hs
 obtain ⟨it,fp,tn,J,H2,e,I2,T,bS,f2,W,⟨m0,w0⟩,turn⟩:=h2
 subst e
 -- Nt stays true of xy FO objects through xy loop
 have uZ:∀ {H':Hp},(∀ b ∈ fp,H' b = none) → ∀ b ∈ fp,pe X af H' b:=fun hn b hb => ⟨hn b hb,(f2 b hb).2⟩
 refine codeAny_forLoop_any (fun n s' => ∃ i σ' H',aS X af σ' H' s' ∧ tn i s'.heap ∧ (∀ b ∈ fp,H' b = none) ∧ W i n σ' H') ?_ m0 ⟨0,σ,H2,I2,bS,fun b hb => (f2 b hb).1,w0⟩
 rintro n s3 ⟨i,σ3,H3,I3,js,JK,w3⟩
 rcases turn i n σ3 H3 w3 with ⟨stop,qn⟩ | ⟨go,N,hN,step⟩
 ·refine wpAny_passesOwn hp (cR (T.done X rfl rfl rfl hc i af s3 σ3 H3 X.xe I3 (uZ JK) js stop) fun r s4 ⟨hr,I4⟩ => ?_)
  subst hr
  exact wpAny_execs_nil ⟨σ3,H3,I4,qn⟩
 ·refine wpAny_passesOwn hp (cR (T.item X rfl rfl rfl hc i af s3 σ3 H3 X.xe I3 (uZ JK) js go) fun r s4 ⟨u,hr,h4⟩ => ?_)
  subst hr
  refine wpAny_passesOwn hp (cR h4 fun _ s5 ⟨x,H5,I5,r5,y5,B3,Nu⟩ => ?_)
  have Nv:=I5.pinned (uZ Nu) (T.obj _ _ B3)
  refine wpAny_passesOwn hp (cR (hg _ s5 σ3 H5 x u _ Nv r5 (step x H5 y5)) fun _ s6 ⟨σ6,H6,I6,q6⟩ => ?_)
  refine wpAny_passesOwn hp (cR (hb _ s6 σ6 H6 _ I6 q6) fun f s7 q7 => ?_)
  have again:∀ {σ7:St} {H7:Hp},aS X (af ++ nv fp s5.heap) σ7 H7 s7 → N σ7 H7 → ∃ m,m < n ∧ ∃ i σ' H',aS X af σ' H' s7 ∧ tn i s7.heap ∧ (∀ b ∈ fp,H' b = none) ∧ W i m σ' H':=fun {σ7 H7} I7 n7 => by
   obtain ⟨m',hm,w7⟩:=hN σ7 H7 n7
   refine ⟨m',hm,i + 1,σ7,H7,I7.ny,T.keep _ _ _ B3 fun b hb o e => (I7.pin (b,o) (List.mem_append_right _ (List.mem_append_right _ (g_ hb e)))).1,fun b hb => ?_,w7⟩
   obtain ⟨o,e,d⟩:=T.obj _ _ B3 b hb
   exact (I7.pin (b,o) (List.mem_append_right _ (List.mem_append_right _ (g_ hb e)))).2.1
  cases f with
  | next => obtain ⟨σ7,H7,I7,n7⟩:=q7; exact again I7 n7
  | cont => obtain ⟨σ7,H7,I7,n7⟩:=q7; exact again I7 n7
  | brk => obtain ⟨σ7,H7,I7,q7⟩:=q7; exact ⟨σ7,H7,I7.ny,q7⟩
  | ret v => obtain ⟨x7,σ7,H7,I7,r7,q7⟩:=q7; exact ⟨x7,σ7,H7,I7.ny,r7,q7⟩
end
end L2
namespace L2
open PySem PySem.Spec PyProof.Rows
noncomputable abbrev R2:=V → V → Hp → VK → Prop
noncomputable def d5 (X:Cx) (f:Value → Value → Sem Value) (r:R2):Prop :=
 ∀ (af:List (Addr × Obj)) (s:Shared) (σ:St) (H:Hp) (x y:V) (v u:Value) (Q:VK),aS X af σ H s → bC x v → bC y u → r x y H Q →
  wpAny (model X.prog X.w) X.A (f v u) (EP X af σ Q) X.xe s
noncomputable def Nw (X:Cx) (f:Value → Sem Value) (r:V → Hp → VK → Prop):Prop :=
 ∀ (af:List (Addr × Obj)) (s:Shared) (σ:St) (H:Hp) (x:V) (v:Value) (Q:VK),aS X af σ H s → bC x v → r x H Q →
  wpAny (model X.prog X.w) X.A (f v) (EP X af σ Q) X.xe s
noncomputable def bU (X:Cx) (f:Value) (r:List V → Hp → VK → Prop):Prop :=
 ∀ (af:List (Addr × Obj)) (s:Shared) (σ:St) (H:Hp) (xs:List V) (us:List Value) (Q:VK),aS X af σ H s → bo xs us → r xs H Q →
  wpAny (model X.prog X.w) X.A (call f us) (EP X af σ Q) X.xe s
noncomputable def IT (r:R2) (ta tb:TE):TE:=fun σ H Q => ta σ H fun x H1 => tb σ H1 fun y H2 => r x y H2 Q
noncomputable def Rx (r:V → Hp → VK → Prop) (ta:TE):TE:=fun σ H Q => ta σ H fun x H1 => r x H1 Q
noncomputable def rI (C:Int → Int → Prop) (g:Int → Int → V):R2:=fun x y H Q => ∃ i j,x = .int i ∧ y = .int j ∧ C i j ∧ Q (g i j) H
noncomputable def EB (g:Int → Int → V):R2:=fun x y H Q => ∃ i j,x = .int i ∧ y = .int j ∧ Q (g i j) H
noncomputable def rU (g:Int → V):V → Hp → VK → Prop:=fun x H Q => ∃ i,x = .int i ∧ Q (g i) H
section
variable {X:Cx} {a b c:Expr} {ta tb tc:TE} {pos:Pos}
theorem FQ (ha:PE X a ta) (hb:PE X b tb) {af:List (Addr × Obj)} {s:Shared} {σ:St} {H:Hp} {R:V → V → Hp → Prop} (I:aS X af σ H s)
  (h:ta σ H fun x H1 => tb σ H1 fun y H2 => R x y H2) {Q:Value → Shared → Prop} {f:Value → Value → Sem Value}
  (hf:∀ v u s2 x y H2,aS X af σ H2 s2 → bC x v → bC y u → R x y H2 → wpAny (model X.prog X.w) X.A (f v u) Q X.xe s2) :
  wpAny (model X.prog X.w) X.A (eval a X.env) (fun v s₁ => wpAny (model X.prog X.w) X.A (eval b X.env) (fun u s₂ => wpAny (model X.prog X.w) X.A (f v u) Q X.xe s₂) X.xe s₁) X.xe s:=by
 refine cR (ha af s σ H _ I h) fun v s1 ⟨x,H1,I1,r1,q1⟩ => ?_
 refine cR (hb af s1 σ H1 _ I1 q1) fun u s2 ⟨y,H2,I2,r2,q2⟩ => ?_
 exact hf v u s2 x y H2 I2 r1 r2 q2
theorem JL {op:Operator} {r:R2} (ho:d5 X (binaryOp op) r) (ha:PE X a ta) (hb:PE X b tb):PE X (.BinOp a op b pos) (IT r ta tb):=by
 intro af s σ H Q I h
 exact wpAny_BinOp (FQ ha hb I h fun v u s2 x y H2 I2 rx ry q => ho af s2 σ H2 x y v u Q I2 rx ry q)
theorem JM {op:UnaryOp} {r:V → Hp → VK → Prop} (ho:Nw X (unaryOp op) r) (ha:PE X a ta):PE X (.UnaryOp op a pos) (Rx r ta):=by
 intro af s σ H Q I h
 exact UnaryOp_ (cR (ha af s σ H _ I h) fun v s1 ⟨x,H1,I1,r1,q1⟩ => ho af s1 σ H1 x v Q I1 r1 q1)
theorem JN {f:Value → Value → Sem Value} {C:Int → Int → Prop} {g:Int → Int → Int}
  (rule:∀ (i j:Int) (t u:Tok) (s:Shared) (Q:Value → Shared → Prop) (E:Value → Shared → Prop),C i j → Q (.int (g i j) s.toks) { s with toks:=s.toks + 1 } → wpAny (model X.prog X.w) X.A (f (.int i t) (.int j u)) Q E s) :
  d5 X f (rI C fun i j => .int (g i j)):=by
 intro af s σ H x y v u Q I rx ry h
 obtain ⟨i,j,rfl,rfl,hc,q⟩:=h
 obtain ⟨t,rfl⟩:=rx
 obtain ⟨t',rfl⟩:=ry
 exact rule i j t t' s _ _ hc ⟨.int (g i j),H,I.tok _,⟨_,rfl⟩,q⟩
theorem Cj {f:Value → Value → Sem Value} {g:Int → Int → Int}
  (rule:∀ (i j:Int) (t u:Tok) (s:Shared) (Q:Value → Shared → Prop) (E:Value → Shared → Prop),Q (.int (g i j) s.toks) { s with toks:=s.toks + 1 } → wpAny (model X.prog X.w) X.A (f (.int i t) (.int j u)) Q E s) :
  d5 X f (EB fun i j => .int (g i j)):=by
 intro af s σ H x y v u Q I rx ry h
 obtain ⟨i,j,rfl,rfl,q⟩:=h
 obtain ⟨t,rfl⟩:=rx
 obtain ⟨t',rfl⟩:=ry
 exact rule i j t t' s _ _ ⟨.int (g i j),H,I.tok _,⟨_,rfl⟩,q⟩
theorem JO {f:Value → Value → Sem Value} {g:Int → Int → Bool}
  (rule:∀ (i j:Int) (t u:Tok) (s:Shared) (Q:Value → Shared → Prop) (E:Value → Shared → Prop),Q (.bool (g i j)) s → wpAny (model X.prog X.w) X.A (f (.int i t) (.int j u)) Q E s) :
  d5 X f (EB fun i j => .bl (g i j)):=by
 intro af s σ H x y v u Q I rx ry h
 obtain ⟨i,j,rfl,rfl,q⟩:=h
 obtain ⟨t,rfl⟩:=rx
 obtain ⟨t',rfl⟩:=ry
 exact rule i j t t' s _ _ ⟨.bl (g i j),H,I,rfl,q⟩
noncomputable def xI (i j:Int):Prop:=0 ≤ j ∧ j ≤ 1000000 ∧ i.natAbs < 2 ^ 64
noncomputable def zE (i j:Int):Prop:=(-(2 ^ 64) < i ∧ i < 2 ^ 64) ∨ (-(2 ^ 64) < j ∧ j < 2 ^ 64)
theorem zE.ok {i j:Int} (h:zE i j):IntMulOk i j:=by
 rcases h with ⟨h1,h2⟩ | ⟨h1,h2⟩
 ·exact .of_left (intBits_le_64 h1 h2)
 ·exact .of_right (intBits_le_64 h1 h2)
theorem FR:d5 X (binaryOp .Add) (EB fun i j => .int (i + j)):=Cj fun _ _ _ _ _ _ _ q => add_int q
theorem FT:d5 X (binaryOp .Sub) (EB fun i j => .int (i - j)):=Cj fun _ _ _ _ _ _ _ q => sub_int q
theorem FU:d5 X (binaryOp .Mult) (rI zE fun i j => .int (i * j)):=JN fun _ _ _ _ _ _ _ hc q => mul_int q hc.ok
theorem Ck:d5 X (binaryOp .Mod) (rI (fun _ j => j ≠ 0) fun i j => .int (i.fmod j)):=JN fun _ _ _ _ _ _ _ hc q => mod_int' hc q
theorem FV:d5 X (binaryOp .Pow) (rI xI fun i j => .int (i ^ j.toNat)):=JN fun _ _ _ _ _ _ _ hc q => pow_int_small hc.1 hc.2.1 hc.2.2 q
theorem Cm:d5 X (inplaceOp .Add) (EB fun i j => .int (i + j)):=Cj fun _ _ _ _ _ _ _ q => iadd_int q
theorem Cn:d5 X (inplaceOp .Sub) (EB fun i j => .int (i - j)):=Cj fun _ _ _ _ _ _ _ q => isub_int q
theorem Ry {f:Value → Sem Value} {g:Int → Int}
  (rule:∀ (i:Int) (t:Tok) (s:Shared) (Q:Value → Shared → Prop) (E:Value → Shared → Prop),Q (.int (g i) s.toks) { s with toks:=s.toks + 1 } → wpAny (model X.prog X.w) X.A (f (.int i t)) Q E s) :
  Nw X f (rU fun i => .int (g i)):=by
 intro af s σ H x v Q I rx h
 obtain ⟨i,rfl,q⟩:=h
 obtain ⟨t,rfl⟩:=rx
 exact rule i t s _ _ ⟨.int (g i),H,I.tok _,⟨_,rfl⟩,q⟩
theorem FW:Nw X (unaryOp .USub) (rU fun i => .int (-i)):=Ry fun _ _ _ _ _ q => neg_int q
end
section
variable {X:Cx} {a b c:Expr} {ta tb tc:TE} {pos:Pos}
theorem JP:d5 X (compareOp .Lt) (EB fun i j => .bl (decide (i < j))):=JO fun _ _ _ _ _ _ _ q => lt_int q
theorem JQ:d5 X (compareOp .Gt) (EB fun i j => .bl (decide (j < i))):=JO fun _ _ _ _ _ _ _ q => gt_int q
theorem d5.or {f:Value → Value → Sem Value} {r r':R2} (h:d5 X f r) (h':d5 X f r'):d5 X f (fun x y H Q => r x y H Q ∨ r' x y H Q):=by
 intro af s σ H x y v u Q I rx ry q
 rcases q with q | q
 ·exact h af s σ H x y v u Q I rx ry q
 ·exact h' af s σ H x y v u Q I rx ry q
theorem zF (b:Expr) {op:CmpOp} (h:op ≠ .In:=by decide) (h2:op ≠ .NotIn:=by decide):behindInMarks op b = false:=by
 have e1:(op == CmpOp.In) = false:=by cases op <;> first | rfl | exact absurd rfl h
 have e2:(op == CmpOp.NotIn) = false:=by cases op <;> first | rfl | exact absurd rfl h2
 cases b <;> simp [behindInMarks,e1,e2]
theorem Co {op:CmpOp} {r:R2} (ho:d5 X (compareOp op) r) (ha:PE X a ta) (hb:PE X b tb) (hm:behindInMarks op b = false):PE X (.Compare a [op] [b] pos) (IT r ta tb):=by
 intro af s σ H Q I h
 exact wpAny_Compare1 (FQ ha hb I h fun v u s2 x y H2 I2 rx ry q => ho af s2 σ H2 x y v u Q I2 rx ry q) hm
noncomputable def JR (t:TE):TT:=fun σ H Q => t σ H fun x H' => ∃ k,x = .bl k ∧ Q k H'
theorem Cp {op:CmpOp} {r:R2} (ho:d5 X (compareOp op) r) (ha:PE X a ta) (hb:PE X b tb) (hm:behindInMarks op b = false):PT X (.Compare a [op] [b] pos) (JR (IT r ta tb)):=by
 intro af s σ H Q I h
 refine wpAny_isTrue_Compare1 (cR (ha af s σ H _ I h) fun v s1 ⟨x,H1,I1,r1,q1⟩ => cR (hb af s1 σ H1 _ I1 q1) fun u s2 ⟨y,H2,I2,r2,q2⟩ =>
  cR (ho af s2 σ H2 x y v u _ I2 r1 r2 q2) fun c s3 ⟨z,H3,I3,r3,k,e,q3⟩ => ?_) hm
 subst e
 cases r3
 exact wpAny_truthy_bool ⟨H3,I3,q3⟩
theorem jE:(sizeLine:Nat) < 2 ^ 63:=by rw [sizeLine_eq]; decide
theorem u3:d5 X (binaryOp .Add) (fun x y H Q => ∃ i j,x = .str i ∧ y = .str j ∧ i.length + j.length ≤ sizeLine ∧ Q (.str (i ++ j)) H):=by
 intro af s σ H x y v u Q I rx ry h
 obtain ⟨i,j,rfl,rfl,hz,q⟩:=h
 obtain ⟨t,rfl⟩:=rx
 obtain ⟨t',rfl⟩:=ry
 exact add_str (fun t' tk => ⟨.str (i ++ j),H,I.tok _,⟨_,rfl⟩,q⟩) hz
theorem vals1 {x:V} {us:List Value} (r:bo [x] us):∃ u,us = [u] ∧ bC x u:=by
 cases r with
 | cons r1 r2 => cases r2; exact ⟨_,rfl,r1⟩
theorem vals2 {x y:V} {us:List Value} (r:bo [x,y] us):∃ u w',us = [u,w'] ∧ bC x u ∧ bC y w':=by
 cases r with
 | cons r1 r2 =>
  cases r2 with
  | cons r3 r4 => cases r4; exact ⟨_,_,rfl,r1,r3⟩
theorem zG:bU X (.builtin "abs") (fun xs H Q => ∃ i,xs = [.int i] ∧ Q (.int (if i < 0 then -i else i)) H):=by
 intro af s σ H xs us Q I r h
 obtain ⟨i,rfl,q⟩:=h
 obtain ⟨u,rfl,t,rfl⟩:=vals1 r
 exact call_abs_int fun u tk => ⟨.int (if i < 0 then -i else i),H,I.tok _,⟨_,rfl⟩,q⟩
end
end L2
namespace L2
open PySem PySem.Spec PyProof.Rows
structure FX (h:Heap) (x dx C:Addr) (mA:Str → Option Value):Prop where
 obj:h.get? x = some (PySem.W.instObj C dx)
 ns:h.Ns1 dx mA
 ne:dx ≠ x
theorem xJ {h:Heap} {dx:Addr} {mA:Str → Option Value} (n:h.Ns1 dx mA):∃ od,h.get? dx = some od ∧ ∀ name,PySem.W.lookIn name od = some (mA name):=by
 obtain ⟨o,es,ep,ho,hd,hk,_,hm⟩:=n
 refine ⟨o,ho,fun name => ?_⟩
 have e:=hm name
 unfold nsFind findBy at e
 rw [← Array.find?_toList] at e
 unfold PySem.W.lookIn
 rw [hd]
 dsimp only
 split
 ·rename_i y q
  rw [q] at e
  exact congrArg some e
 ·rename_i q
  rw [q] at e
  have a:es.toList.any (·.refKey) = false:=by
   rw [List.any_eq_false]
   intro y hy
   obtain ⟨z,t,Nx⟩:=hk y (Array.mem_toList_iff.mp hy)
   simp [DictEntry.refKey,Nx]
  have a':¬ es.toList.any (·.refKey) = true:=by rw [a]; exact Bool.false_ne_true
  rw [if_neg a']
  exact congrArg some e
theorem FX.look {h:Heap} {x dx C:Addr} {mA:Str → Option Value} (I:FX h x dx C mA):∃ od,PySem.W.InstAt h x (PySem.W.instObj C dx) C (some od) ∧ ∀ name,PySem.W.lookIn name od = some (mA name) :=
 let ⟨od,ho,hl⟩:=xJ I.ns
 ⟨od,⟨I.obj,rfl,rfl,ho⟩,hl⟩
theorem nk.some_of {v:V} {o:Option Value} (r:nk (some v) o):∃ u,o = some u ∧ bC v u:=by
 cases o with
 | none => exact (show False from r).elim
 | some u => exact ⟨u,rfl,r⟩
section
variable {P:Program} {w:World} {H H':Hp} {h h':Heap} {a C dx:Addr} {fs Rr:List (Str × V)}
theorem Cq (b?:gZ P w H h) (e:H a = some (.ins C dx fs)):∃ mA,FX h a dx C mA ∧ (∀ f,nk (fs.lookup f) (mA f)) ∧ PySem.Within mA (fs.map (·.1)) ∧ fs.length ≤ 1000 ∧ H dx = some (.own a):=by
 obtain ⟨d,z,ne,ob,mA,n,r,q⟩:=(show cL P w H h a (.ins C dx fs) from b? a _ e)
 exact ⟨mA,⟨ob,n,ne⟩,r,q,z,d⟩
end
structure Ny (K:PySem.W.Frag) (C:Addr):Prop where
 pg:PySem.W.plainGet K C Str.empty = true
 hd:PySem.W.hasDictIn K C = true
 po:PySem.W.plainOver K C = true
 sa:PySem.W.findIn K (.ref C) "__setattr__" = some (some (.builtin "object.__setattr__"))
theorem Ny.get {K:PySem.W.Frag} {C:Addr} (c:Ny K C) (f:Str):PySem.W.plainGet K C f = true:=c.pg
section
variable {X:Cx} {af:List (Addr × Obj)} {σ:St} {H:Hp} {s:Shared} {A:Around} {E:Value → Shared → Prop} {Q:Value → Shared → Prop} {c:Value} {b:Bool}
inductive mf (K:PySem.W.Frag) (H:Hp):V → Value → Prop where
 | dA:mf K H .dA (.type "NoneType")
 | bl (x:Bool):mf K H (.bl x) (.type "bool")
 | int (i:Int):mf K H (.int i) (.type "int")
 | str (x:Str):mf K H (.str x) (.type "str")
 | mW (x:UInt64):mf K H (.mW x) (.type "float")
 | lst {a:Addr} {xs:List V} (e:H a = some (.lst xs)):mf K H (.ref a) (.type "list")
 | jB {a:Addr} {o:Obj} {xs:List V} (e:H a = some (.jB o (.lst xs))):mf K H (.ref a) (.type "list")
 | tup {a:Addr} {xs:List V} (e:H a = some (.tup xs)):mf K H (.ref a) (.type "tuple")
 | dK {a:Addr} {kvs:List (dh × V)} (e:H a = some (.dK kvs)):mf K H (.ref a) (.type "dict")
 | dT {a:Addr} {kvs:List (List dh × V)} (e:H a = some (.dT kvs)):mf K H (.ref a) (.type "dict")
 | ins {a C dx:Addr} {fs:List (Str × V)} (e:H a = some (.ins C dx fs)) (cl:Ny K C) (ha:PySem.W.findIn K (.ref C) "__class__" = some (some (.builtin "object.__class__")))
   (hn:PySem.W.specialIn K (.builtin "object.__class__") "__get__" = some (some (.builtin "getset_descriptor.__get__"))) (Qf:PySem.W.takesIn K (.builtin "object.__class__") = some true)
   (hm:PySem.W.mroIn K C (.type "object") = some true):mf K H (.ref a) (.ref C)
theorem eg {x:V} {u t:Value} (I:aS X af σ H s) (rx:bC x u) (ty:mf X.K H x t) (e:PySem.W.kitOne X.K t c = some b) (h:∀ tk,Q (.bool b) { s with toks:=tk }) :
  wpAny (model X.prog X.w) A (call (.builtin "isinstance") [u,c]) Q E s:=by
 cases ty with
 | dA => cases (show u = Value.none from rx); exact PySem.W.kia_one PySem.W.kitx_none I.lM True.intro e (fun z => nomatch z) h
 | bl y => cases (show u = Value.bool y from rx); exact PySem.W.kia_one PySem.W.kitx_bool I.lM True.intro e (fun z => nomatch z) h
 | int i => obtain ⟨t,q⟩:=(show ∃ t,u = Value.int i t from rx); cases q; exact PySem.W.kia_one PySem.W.kitx_int I.lM True.intro e (fun z => nomatch z) h
 | str y => obtain ⟨t,q⟩:=(show ∃ t,u = Value.str y t from rx); cases q; exact PySem.W.kia_one PySem.W.kitx_str I.lM True.intro e (fun z => nomatch z) h
 | mW y => obtain ⟨t,q⟩:=(show ∃ t,u = Value.float y t from rx); cases q; exact PySem.W.kia_one PySem.W.kitx_float I.lM True.intro e (fun z => nomatch z) h
 | @lst a xs ea =>
  cases (show u = Value.ref a from rx)
  obtain ⟨_,_,n,_,h1⟩:=(show cL X.prog X.w H s.heap a (.lst xs) from I.b? a _ ea)
  exact PySem.W.kia_one PySem.W.kitx_list I.lM ⟨_,h1,rfl⟩ e (fun z => nomatch z) h
 | @jB a ob xs ea =>
  cases (show u = Value.ref a from rx)
  obtain ⟨_,_,_,n,_,h1⟩:=(show cL X.prog X.w H s.heap a (.jB ob (.lst xs)) from I.b? a _ ea)
  exact PySem.W.kia_one PySem.W.kitx_list I.lM ⟨_,h1,rfl⟩ e (fun z => nomatch z) h
 | @tup a xs ea =>
  cases (show u = Value.ref a from rx)
  obtain ⟨_,_,_,p⟩:=(show cL X.prog X.w H s.heap a (.tup xs) from I.b? a _ ea)
  obtain ⟨o,h1,h2,_⟩:=p
  exact PySem.W.kia_one PySem.W.kitx_tuple I.lM ⟨o,h1,h2⟩ e (fun z => nomatch z) h
 | @dK a kvs ea =>
  cases (show u = Value.ref a from rx)
  obtain ⟨_,_,vs,_,p⟩:=(show cL X.prog X.w H s.heap a (.dK kvs) from I.b? a _ ea)
  obtain ⟨o,es,ep,h1,h2,_⟩:=p
  exact PySem.W.kia_one PySem.W.kitx_dict I.lM ⟨o,h1,h2.1⟩ e (fun z => nomatch z) h
 | @dT a kvs ea =>
  cases (show u = Value.ref a from rx)
  obtain ⟨_,_,xs,_,o,es,ep,h1,h2,_⟩:=(show cL X.prog X.w H s.heap a (.dT kvs) from I.b? a _ ea)
  exact PySem.W.kia_one PySem.W.kitx_dict I.lM ⟨o,h1,h2.1⟩ e (fun z => nomatch z) h
 | @ins a C dx fs ea cl ha hn Qf hm =>
  cases (show u = Value.ref a from rx)
  obtain ⟨mA,O,_⟩:=Cq I.b? ea
  obtain ⟨od,J,_⟩:=O.look
  exact PySem.W.kia_one (PySem.W.kitx_own (cl.get _) cl.hd ha hn Qf hm) I.lM J e (fun z => nomatch z) h
end
end L2
namespace L2
open PySem PySem.Spec PyProof.Rows
structure eZ (k:Nat) (A:Around):Prop where
 hd:A.handled = none
 dp:A.depth + 3 * k + 5 < recursionLimit
 un:A.units + 16 * k + 200 < cLine
theorem eZ.mono {j k:Nat} {A:Around} (r:eZ k A) (h:j ≤ k):eZ j A:=⟨r.hd,by have:=r.dp; lia,by have:=r.un; lia⟩
theorem eZ.deeper {k:Nat} {A:Around} (r:eZ (k + 1) A) (env:Env):eZ k (A.deeper env) :=
 ⟨r.hd,by have:=r.dp; show A.depth + 1 + 3 * k + 5 < _; lia,by have:=r.un; show A.units + 3 + 16 * k + 200 < _; lia⟩
theorem eZ.depth {k:Nat} {A:Around} (r:eZ k A):A.depth < recursionLimit:=by have:=r.dp; lia
theorem eZ.units {k:Nat} {A:Around} (r:eZ k A):A.units + 64 < cLine:=by have:=r.un; lia
noncomputable def Nz:TA:=fun _ H Q => Q [] H
noncomputable def JS (ta:TE) (tr:TA):TA:=fun σ H Q => ta σ H fun x H1 => tr σ H1 fun xs H2 => Q (x :: xs) H2
section
variable {X:Cx} {e:Expr} {es:List Expr} {te:TE} {t:TA} {pos:Pos}
theorem nC:PA X [] Nz:=fun _ _ _ _ H Q I h => Calls.spliced_nil ⟨[],H,I,.nil,h⟩
theorem gq (ha:PE X e te) (hr:PA X es t) (hs:starEach (e :: es) X.env = (false,eval e X.env) :: starEach es X.env:=by rfl):PA X (e :: es) (JS te t):=by
 intro pos af s σ H Q I h
 rw [hs]
 show wpAny _ _ (spliced ((false,eval e X.env) :: backTo pos (starEach es X.env))) _ _ s
 refine Calls.spliced_cons (cR (ha af s σ H _ I h) fun u s1 ⟨x,H1,I1,r1,q1⟩ => ?_)
 exact cR (hr pos af s1 σ H1 _ I1 q1) fun us s2 ⟨xs,H2,I2,r2,q2⟩ => ⟨x :: xs,H2,I2,.cons r1 r2,q2⟩
noncomputable def NA (t:TA):TE:=fun σ H Q => t σ H fun xs H1 => xs.length ≤ sizeLine ∧ ∀ p,H1 p = none → Q (.ref p) (upd H1 p (.tup xs))
noncomputable def NB (t:TA):TE:=fun σ H Q => t σ H fun xs H1 => xs.length ≤ sizeLine ∧ ∀ p,H1 p = none → Q (.ref p) (upd H1 p (.lst xs))
theorem FY {x1} (h:PA X es t):PE X (.Tuple es x1 pos) (NA t):=by
 intro af s σ H Q I hq
 refine wpAny_Tuple_spliced (cR (h pos af s σ H _ I hq) fun us s1 ⟨xs,H1,I1,r,z,q⟩ => ⟨by rw [← r.length]; exact z,?_⟩)
 have hf:H1 s1.heap.objs.size = none:=I1.b?.fresh (Nat.le_refl _)
 refine ⟨.ref s1.heap.objs.size,upd H1 s1.heap.objs.size (.tup xs),I1.laid (t':=s1.toks) (fun b u e => Heap.get?_push_of_some _ e) (Nat.le_refl _) ?_,rfl,q _ hf⟩
 exact ⟨z,us,r,⟨_,Heap.get?_push_size _ rfl,rfl,_,rfl⟩⟩
theorem FZ (h:PA X es t):PE X (.List es pos) (NB t):=by
 intro af s σ H Q I hq
 refine wpAny_List_spliced (cR (h pos af s σ H _ I hq) fun us s1 ⟨xs,H1,I1,r,z,q⟩ => ⟨by rw [← r.length]; exact z,?_⟩)
 have hf:H1 s1.heap.objs.size = none:=I1.b?.fresh (Nat.le_refl _)
 refine ⟨.ref s1.heap.objs.size,upd H1 s1.heap.objs.size (.lst xs),I1.laid (t':=s1.toks) (fun b u e => Heap.get?_push_of_some _ e) (Nat.le_refl _) ?_,rfl,q _ hf⟩
 exact ⟨z,us,0,r,Heap.get?_push_size _ rfl⟩
end
noncomputable abbrev Sp:=List V → Hp → VK → XK → Prop
noncomputable abbrev uO:=List Env → Hp → Shared → XK → Value → Shared → Prop
structure u4 (P:Program) (w:World) (K:PySem.W.Frag) (mg:Str → Option Value) (base:Heap) (A:Around) (outer:List Env) (s:Shared) (H:Hp):Prop where
 frames:A.frames = some outer
 mod:Mod K mg base
 bs:∀ b o,base.get? b = some o → s.heap.get? b = some o ∧ H b = none
 B0:base.objs.size ≤ s.heap.objs.size
 iI:s.heap.FunFrames base outer
 zg:∀ b ∈ fD outer,H b = none
 b?:gZ P w H s.heap
 bare:AllBare s.gens
noncomputable def CE (outer:List Env) (P:Program) (w:World) (H:Hp) (s:Shared) (Q:VK) (u:Value) (s':Shared):Prop :=
 ∃ v H',s'.os = s.os ∧ AllBare s'.gens ∧ Un (fD outer) [] H H' s.heap s'.heap ∧ gZ P w H' s'.heap ∧ bC v u ∧ Q v H'
noncomputable def CR (CX:uO) (outer:List Env) (P:Program) (w:World) (H:Hp) (s:Shared) (Q:VK) (E:XK) (r:Result) (s':Shared):Prop :=
 match r with
 | .ok (.ret u) => CE outer P w H s Q u s'
 | .ok _ => False
 | .error e => CX outer H s E e s'
structure iL (P:Program) (w:World) (K:PySem.W.Frag) (mg:Str → Option Value) (base:Heap) (CX:uO) (k:Nat) (f:Addr) (fd:FuncData) (ps:List Str) (sp:Sp):Prop where
 len:∀ vs H Q E,sp vs H Q E → vs.length = ps.length
 run:∀ (A:Around) (outer:List Env) (s:Shared) (H:Hp) (args:Args) (us:List Value) (vs:List V) (Q:VK) (E:XK),eZ k A → u4 P w K mg base A outer s H → BindsTo s fd args (ps.zip us) → bo vs us → sp vs H Q E →
  codeAny (model P w) A (.call (.ref f) args) (CR CX outer P w H s Q E) s
theorem iL.imp {P:Program} {w:World} {K:PySem.W.Frag} {mg:Str → Option Value} {base:Heap} {CX:uO} {k:Nat} {f:Addr} {fd:FuncData} {ps:List Str} {sp Qg:Sp} (F:iL P w K mg base CX k f fd ps sp)
  (h:∀ vs H Q E,Qg vs H Q E → sp vs H Q E):iL P w K mg base CX k f fd ps Qg :=
 ⟨fun vs H Q E q => F.len vs H Q E (h _ _ _ _ q),fun A outer s H args us vs Q E hr he hb hv hs => F.run A outer s H args us vs Q E hr he hb hv (h _ _ _ _ hs)⟩
section
variable {X:Cx} {af:List (Addr × Obj)} {σ:St} {H:Hp} {s s':Shared}
theorem aS.F_ (I:aS X af σ H s):u4 X.prog X.w X.K X.mg X.base X.A X.stack s H :=
 ⟨I.ok.frames,I.ok.mod,I.bs,Nat.le_trans I.ok.B0 I.sz,I.stack,I.qv,I.b?,I.bare⟩
theorem aS.after {Q:VK} {u:Value} (I:aS X af σ H s) (h:CE X.stack X.prog X.w H s Q u s'):EP X af σ Q u s':=by
 obtain ⟨v,H',os,bare,un,b?,r,q⟩:=h
 obtain ⟨hh,g,d,t,Rz⟩:=s'
 obtain rfl:Rz = s.os:=os
 exact ⟨v,H',I.call (h':=hh) (g':=g) (d':=d) (t':=t) (ch:=[]) un b? bare (fun b z => absurd z (by simp)),r,q⟩
end
noncomputable def JT (sp:Sp) (jK:List V) (E:XK) (t:TA):TE:=fun σ H Q => t σ H fun vs H1 => sp (vs ++ jK) H1 Q E
noncomputable def Binds (K:PySem.W.Frag) (fd:FuncData) (ps:List Str) (ds:List Value):Prop :=
 ∀ (s:Shared) (us:List Value),K.In s.heap → (us ++ ds).length = ps.length → BindsTo s fd ⟨us,[]⟩ (ps.zip (us ++ ds))
theorem Binds.all {K:PySem.W.Frag} {fd:FuncData} {ps:List Str} (h:∀ us:List Value,us.length = ps.length → bindArgs fd ⟨us,[]⟩ = pure (ps.zip us)):Binds K fd ps []:=fun s us _ hl => by
 rw [List.append_nil] at hl ⊢
 exact .of_eq (h us hl)
noncomputable def Passes (CX:uO) (X:Cx) (E:XK):Prop:=∀ (af:List (Addr × Obj)) (σ:St) (H:Hp) (s:Shared) (e:Value) (s':Shared),aS X af σ H s → CX X.stack H s E e s' → X.xe e s'
section
variable {X:Cx} {CX:uO} {k:Nat} {f C:Addr} {fd:FuncData} {ps:List Str} {sp:Sp} {jK:List V} {ds:List Value} {E:XK} {x m:Str} {p pos apos:Pos} {e o:Expr} {es:List Expr} {ta:TE} {t:TA}
theorem F! {af:List (Addr × Obj)} {σ:St} {H:Hp} {s:Shared} {Q:VK} {us:List Value} {vs:List V} (F:iL X.prog X.w X.K X.mg X.base CX k f fd ps sp) (hr:eZ k X.A) (hb:Binds X.K fd ps ds) (hd:bo jK ds) (hx:Passes CX X E)
  (I:aS X af σ H s) (r:bo vs us) (h:sp (vs ++ jK) H Q E):wpAny (model X.prog X.w) X.A (call (.ref f) us) (EP X af σ Q) X.xe s:=by
 have r2:bo (vs ++ jK) (us ++ ds):=r.append hd
 have hl:(us ++ ds).length = ps.length:=by rw [← r2.length]; exact F.len _ _ _ _ h
 refine wpAny_call (codeAny_mono (F.run X.A X.stack s H ⟨us,[]⟩ (us ++ ds) (vs ++ jK) Q E hr I.F_ (hb s us I.lM hl) r2 h) fun r s' hq => ?_)
 cases r with
 | error e => exact hx af σ H s e s' I hq
 | ok fl =>
  cases fl with
  | ret u => exact I.after hq
  | next => exact False.elim hq
  | brk => exact False.elim hq
  | cont => exact False.elim hq
theorem Cr (F:iL X.prog X.w X.K X.mg X.base CX k f fd ps sp) (hr:eZ k X.A) (hg:Gl X x) (hm:X.mg x = some (.ref f)) (hk:PySem.W.keepIn X.K (.ref f) = true) (hb:Binds X.K fd ps ds) (hd:bo jK ds) (hx:Passes CX X E)
  (ha:PA X (e :: es) t) (pf:(x == ("__debug__":Str)) = false:=by decide) (he:starEach (e :: es) X.env = (false,eval e X.env) :: starEach es X.env:=by rfl) (iH:(backTo pos (starEach es X.env)).any (·.1) = false:=by rfl) :
  PE X (.Call (.Name x p) (e :: es) [] pos) (JT sp jK E t):=by
 intro af s σ H Q I h
 refine wpAny_Call_Name_kw (jh I hg hm ?_ pf)
 refine PySem.W.callWith_K (h₀:=X.base) I.ok.mod.Ex hk (cR (ha pos af s σ H _ I h) fun us s1 ⟨vs,H1,I1,r,q⟩ => ⟨I1.lM,?_⟩) he iH
 exact F! F hr hb hd hx I1 r q
end
structure d! (N P:List Str) (sc:Scope):Prop where
 kind:sc.kind = .function
 co:sc.isCoroutine = false
 gen:sc.isGenerator = false
 nd:N.Nodup
 pre:N.take P.length = P
 par:∀ x ∈ P,sc.names.lookup x = some .local ∨ sc.names.lookup x = some .cell
 F?:∀ y ∈ sc.names,y.2 ≠ .free
theorem pR {kindOf:Str → Option NameKind} {x:Str}:∀ {binds:List (Str × Value)} {m:Str → Option Value},(∀ v,(x,v) ∉ binds) → bindL kindOf binds m x = m x
 | [],_,_ => rfl
 | (n,v) :: r,m,h => by
  unfold bindL
  rw [pR fun w hw => h w (List.mem_cons_of_mem _ hw)]
  split
  ·have:x ≠ n:=by rintro rfl; exact h v List.mem_cons_self
   simp [this]
  ·rfl
theorem pS {kindOf:Str → Option NameKind} {x:Str}:∀ {binds:List (Str × Value)} {m:Str → Option Value},(∀ v,(x,v) ∉ binds) → bindC kindOf binds m x = m x
 | [],_,_ => rfl
 | (n,v) :: r,m,h => by
  unfold bindC
  rw [pS fun w hw => h w (List.mem_cons_of_mem _ hw)]
  split
  ·rfl
  ·have:x ≠ n:=by rintro rfl; exact h v List.mem_cons_self
   simp [this]
theorem pT {kindOf:Str → Option NameKind} {x:Str} {v:Value}:∀ {P:List Str} {vs:List Value} {i:Nat} {m:Str → Option Value},P.Nodup → P[i]? = some x → vs[i]? = some v → kindOf x = some .local →
  bindL kindOf (P.zip vs) m x = some v
 | [],_,_,_,_,h,_,_ => by simp at h
 | _ :: _,[],_,_,_,_,h,_ => by simp at h
 | p :: P,w :: vs,0,m,nd,h1,h2,hk => by
  simp at h1 h2; subst h1; subst h2
  show bindL kindOf ((p,w) :: P.zip vs) m p = _
  unfold bindL
  rw [pR fun v hv => (List.nodup_cons.mp nd).1 (List.of_mem_zip hv).1,if_pos hk]
  simp
 | p :: P,w :: vs,i + 1,m,nd,h1,h2,hk => by
  show bindL kindOf ((p,w) :: P.zip vs) m x = _
  unfold bindL
  exact pT (i:=i) (List.nodup_cons.mp nd).2 (by simpa using h1) (by simpa using h2) hk
theorem pU {kindOf:Str → Option NameKind} {x:Str} {v:Value}:∀ {P:List Str} {vs:List Value} {i:Nat} {m:Str → Option Value},P.Nodup → P[i]? = some x → vs[i]? = some v → kindOf x ≠ some .local →
  bindC kindOf (P.zip vs) m x = some v
 | [],_,_,_,_,h,_,_ => by simp at h
 | _ :: _,[],_,_,_,_,h,_ => by simp at h
 | p :: P,w :: vs,0,m,nd,h1,h2,hk => by
  simp at h1 h2; subst h1; subst h2
  show bindC kindOf ((p,w) :: P.zip vs) m p = _
  unfold bindC
  rw [pS fun v hv => (List.nodup_cons.mp nd).1 (List.of_mem_zip hv).1,if_neg hk]
  simp
 | p :: P,w :: vs,i + 1,m,nd,h1,h2,hk => by
  show bindC kindOf ((p,w) :: P.zip vs) m x = _
  unfold bindC
  exact pU (i:=i) (List.nodup_cons.mp nd).2 (by simpa using h1) (by simpa using h2) hk
noncomputable def start (N:List Str) (vs:List V):St:=vs.map some ++ List.replicate (N.length - vs.length) none
noncomputable def gA (CX:uO) (P:Program) (w:World) (K:PySem.W.Frag) (mg:Str → Option Value) (base:Heap) (N:List Str) (qual:Str) (scope:Scope) (f:Addr) (cd:Value) (A:Around) (outer:List Env) (s:Shared) (H:Hp) (E:XK):Cx where
 prog:=P
 w:=w
 K:=K
 mg:=mg
 base:=base
 A:=A.deeper (envOfC qual scope s.heap.objs.size f cd)
 N:=N
 s₀:=s
 H₀:=H
 env:=envOfC qual scope s.heap.objs.size f cd
 outer:=outer
 stack:=envOfC qual scope s.heap.objs.size f cd :: outer
 ex:=[]
 calm:=true
 fn:=fun _ => true
 pn:=[]
 xe:=fun e s' => wpAny (model P w) (A.deeper (envOfC qual scope s.heap.objs.size f cd)) (leaving (envOfC qual scope s.heap.objs.size f cd) e) (fun _ Ma => CX outer H s E e Ma) (fun e' Ma => CX outer H s E e' Ma) s'
theorem sT {sc:Scope} {n:Nat} {x:Str} (h:sc.names.lookup x = some .cell):∃ c,(cellsFrom n sc.names []).lookup x = some c:=by
 have q:=PySem.W.cellsFrom_some sc.names n [] (.inl h)
 exact Option.isSome_iff_exists.mp q
theorem pV {CX:uO} {P:Program} {w:World} {K:PySem.W.Frag} {mg:Str → Option Value} {base:Heap} {N ps:List Str} {qual:Str} {scope:Scope} {f:Addr} {cd:Value} {A:Around} {outer:List Env} {s s1:Shared} {H:Hp} {E:XK} {us:List Value} {vs:List V}
  (S:d! N ps scope) (hd:A.handled = none) (e0:u4 P w K mg base A outer s H) (hl:vs.length = ps.length) (r:bo vs us)
  (x:InCallC s s.heap.objs.size (bindL (envOfC qual scope s.heap.objs.size f cd).kindOf (ps.zip us) fun _ => none) (cellsFrom (s.heap.objs.size + 1) scope.names []) (bindC (envOfC qual scope s.heap.objs.size f cd).kindOf (ps.zip us) fun _ => none) s1) :
  aS (gA CX P w K mg base N qual scope f cd A outer s H E) [] (start N vs) H s1:=by
 have iH:ps.length ≤ N.length:=by have:=congrArg List.length S.pre; rw [List.length_take] at this; lia
 obtain ⟨h1,tk,rfl,hk⟩:=x.done
 have JU:∀ b:Addr,b ∉ (gA CX P w K mg base N qual scope f cd A outer s H E).ex:=fun b z => absurd (show b ∈ ([]:List Addr) from z) (by simp)
 refine ⟨⟨e0.mod,S.kind,rfl,rfl,Nat.le_refl _,fun y z c h1 h2 => ?_,fun y hy => ?_,fun y c _ h => ?_,fun _ => hd,Around.frames_deeper e0.frames,.inr ⟨rfl,rfl⟩,fun b z => absurd z (JU b),e0.bs,e0.B0,fun b _ _ => JU b,fun b z => absurd z (JU b),e0.iI,e0.zg⟩,
  rfl,e0.bare,Un.kept hk,⟨_,x.toInCall.ns,fun i y v h1 h2 h3 => ?_⟩,fun y c h => ⟨_,x.cell y c h⟩,e0.b?.fresh (Nat.le_refl _),fun y c h => ?_,fun p hp => absurd (show p ∈ ([]:List (Addr × Obj)) from hp) (by simp),e0.b?.kept hk,?_⟩
 ·exact name_of_addr x.apart (PySem.mem_of_lookup h1) (PySem.mem_of_lookup h2)
 ·have hy:scope.names.lookup y = some .cell ∨ scope.names.lookup y = some .free:=hy
  rcases hy with hy | hy
  ·exact sT hy
  ·exact absurd rfl (S.F? _ (PySem.mem_of_lookup hy))
 ·exact Nat.le_of_lt (x.above y c (PySem.mem_of_lookup h))
 ·have hi:i < vs.length:=by
   unfold start at h2
   by_cases hi:i < vs.length
   ·exact hi
   ·rw [List.getElem?_append_right (by simpa using hi)] at h2
    rw [List.getElem?_replicate] at h2
    split at h2 <;> cases h2
  have ha:vs[i]? = some v:=by
   unfold start at h2
   rw [List.getElem?_append_left (by simpa using hi),List.getElem?_map] at h2
   cases e:vs[i]? with
   | none => rw [e] at h2; cases h2
   | some a => rw [e] at h2; cases h2; rfl
  obtain ⟨u,hu,rv⟩:=r.get ha
  have hp:ps[i]? = some y:=by
   rw [← S.pre,List.getElem?_take_of_lt (by lia)]; exact h1
  have Qh:ps.Nodup:=by rw [← S.pre]; exact S.nd.sublist (List.take_sublist _ _)
  refine ⟨u,rv,?_⟩
  rcases S.par y (List.mem_of_getElem? hp) with k | k
  ·exact .inl ⟨k,pT Qh hp hu k⟩
  ·obtain ⟨c,e⟩:=sT (n:=s.heap.objs.size + 1) k
   refine .inr ⟨.inl k,c,e,?_⟩
   have q:=x.cell y c e
   rw [pU Qh hp hu (by show scope.names.lookup y ≠ _; rw [k]; decide)] at q
   exact q
 ·exact e0.b?.fresh (Nat.le_of_lt (x.above y c (PySem.mem_of_lookup h)))
 ·unfold start
  show _ = N.length
  rw [List.length_append,List.length_map,List.length_replicate]
  lia
theorem JV {CX:uO} {P:Program} {w:World} {K:PySem.W.Frag} {mg:Str → Option Value} {base:Heap} {k:Nat} {f:Addr} {name qual:Str} {params:Arguments} {body:List Stmt} {scope:Scope} {dV kV doc pm dW ct oc:Value} {an od:Option Addr}
  {xK:Array (Option Value)} {N ps:List Str} {sp:Sp} (lk:K.lookup f = some ⟨oc,od,.func (PySem.W.fnOf name qual params body scope dV kV doc pm an dW ct),xK⟩) (nr:PySem.W.codeIn K dW qual = true) (S:d! N ps scope)
  (len:∀ vs H Q E,sp vs H Q E → vs.length = ps.length)
  (sU:∀ (A:Around) (outer:List Env) (s:Shared) (H:Hp) (vs:List V) (Q:VK) (E:XK),eZ k (A.deeper (envOfC qual scope s.heap.objs.size f dW)) → sp vs H Q E →
   ∃ t,iJ (gA CX P w K mg base N qual scope f dW A outer s H E) body t ∧ t { nx:=fun _ H' => Q .dA H',rt:=Q } (start N vs) H) :
  iL P w K mg base CX (k + 1) f (PySem.W.fnOf name qual params body scope dV kV doc pm an dW ct) ps sp:=by
 refine ⟨len,fun A outer s H args us vs Q E hr e0 hb r EC => ?_⟩
 have hl:=len _ _ _ _ EC
 have KX:K.In s.heap:=e0.mod.Ex.keeps fun b o e => (e0.bs b o e).1
 have lim:s.heap.NoLimit:=e0.mod.nolimit.keeps fun b o e => (e0.bs b o e).1
 have zH:∀ y ∈ ps.zip us,scope.names.lookup y.1 = some .local ∨ (scope.names.lookup y.1 = some .cell ∧ ((cellsFrom (s.heap.objs.size + 1) scope.names []).lookup y.1).isSome = true):=fun ⟨n,v⟩ hy => by
  rcases S.par n (List.of_mem_zip hy).1 with q | q
  ·exact .inl q
  ·exact .inr ⟨q,PySem.W.cellsFrom_some _ _ _ (.inl q)⟩
 refine codeAny_call_function hr.depth (KX _ _ lk) rfl S.co S.gen rfl (PySem.W.codeRec_of KX nr) (hb _ _ _ _ ?_)
 refine wpAny_newFunctionEnv_cells S.kind zH fun env he s1 x => ?_
 subst he
 refine ⟨lim.keeps x.toInCall.keep,codeAny_func ?_⟩
 obtain ⟨t,ht,hq⟩:=sU A outer s H vs Q E (hr.deeper _) EC
 have I:aS (gA CX P w K mg base N qual scope f dW A outer s H E) [] (start N vs) H s1:=pV S hr.hd e0 hl r x
 refine wpAny_mono (ht [] s1 (start N vs) H _ I hq) (fun fl s' hs => ?_) fun e s' hs => hs
 have fin:∀ {σ':St} {H':Hp} {v:V} {u:Value},aS (gA CX P w K mg base N qual scope f dW A outer s H E) [] σ' H' s' → bC v u → Q v H' → CE outer P w H s Q u s' :=
  fun {σ' H' v u} J rv q => ⟨v,H',J.os,J.bare,J.base,J.b?,rv,q⟩
 cases fl with
 | ret u =>
  obtain ⟨v,σ',H',J,rv,q⟩:=hs
  exact fin J rv q
 | next =>
  obtain ⟨σ',H',J,q⟩:=hs
  exact fin (v:=V.dA) (u:=Value.none) J rfl q
 | brk =>
  obtain ⟨_,_,_,q⟩:=hs
  exact False.elim q
 | cont =>
  obtain ⟨_,_,_,q⟩:=hs
  exact False.elim q
end L2
namespace L2
open PySem PySem.Spec PyProof.Rows
section
variable {X:Cx} {x:Str} {p pos:Pos} {e:Expr} {es:List Expr} {t:TA} {id T:String} {r:List V → Hp → VK → Prop}
noncomputable def Qi (r:List V → Hp → VK → Prop) (t:TA):TE:=fun σ H Q => t σ H fun vs H1 => r vs H1 Q
theorem jP (hc:bU X (.builtin id) r) (hg:Gl X x) (hm:X.mg x = none) (hv:bootBuiltins x = some (.builtin id)) (ha:PA X (e :: es) t) (hn:x ≠ "__name__":=by decide) (pf:(x == ("__debug__":Str)) = false:=by decide)
  (he:starEach (e :: es) X.env = (false,eval e X.env) :: starEach es X.env:=by rfl) (iH:(backTo pos (starEach es X.env)).any (·.1) = false:=by rfl):PE X (.Call (.Name x p) (e :: es) [] pos) (Qi r t):=by
 intro af s σ H Q I h
 refine wpAny_Call_Name_kw (g6 I hg hm hv ?_ hn pf)
 exact PyProof.Rows.callWith_builtin1 (cR (ha pos af s σ H _ I h) fun us s1 ⟨vs,H1,I1,r1,q1⟩ => hc af s1 σ H1 vs us Q I1 r1 q1) he iH
theorem xM (hc:bU X (.type T) r) (hg:Gl X x) (hm:X.mg x = none) (hv:bootBuiltins x = some (.type T)) (ha:PA X (e :: es) t) (hn:x ≠ "__name__":=by decide) (pf:(x == ("__debug__":Str)) = false:=by decide)
  (he:starEach (e :: es) X.env = (false,eval e X.env) :: starEach es X.env:=by rfl) (iH:(backTo pos (starEach es X.env)).any (·.1) = false:=by rfl):PE X (.Call (.Name x p) (e :: es) [] pos) (Qi r t):=by
 intro af s σ H Q I h
 refine wpAny_Call_Name_kw (g6 I hg hm hv ?_ hn pf)
 exact PyProof.Rows.callWith_type1 (cR (ha pos af s σ H _ I h) fun us s1 ⟨vs,H1,I1,r1,q1⟩ => hc af s1 σ H1 vs us Q I1 r1 q1) he iH
end
end L2
namespace HT
open PySem PyProof.Rows
section
variable {prog:Program} {w:World} {A:Around} {E:Value → Shared → Prop} {s:Shared}
theorem Cs {t b:Addr} {vs ws:List Value} {Q:Value → Shared → Prop} (ht:IsTup s.heap t vs.toArray) (hb:IsTup s.heap b ws.toArray) (hv:vs ≠ [])
  (h1:ws = [] → Q (.ref t) s) (h2:ws ≠ [] → Q (.ref s.heap.objs.size) { s with heap:=s.heap.push { cls:=.type "tuple",data:=.seq (vs ++ ws).toArray } })
  (hsz:vs.length + ws.length ≤ sizeLine):wpAny (model prog w) A (binaryOp .Add (.ref t) (.ref b)) Q E s:=by
 obtain ⟨⟨cls,dd,data,sl⟩,ho,hc,n,hd⟩:=id ht
 obtain ⟨⟨NC,Mb,data2,JW⟩,F',JX,n2,hd2⟩:=id hb
 simp only at hc hd JX hd2
 subst hc hd JX hd2
 have e:vs.toArray ++ ws.toArray = (vs ++ ws).toArray:=by simp
 by_cases hw:ws = []
 ·exact concat_meets ⟨_,ho,rfl⟩ ⟨_,F',rfl⟩ noFill_tuple_add seq_tuple_add PySem.F.slot_tuple_add PySem.F.entry_tuple_add (PySem.F.args_tuple_add_2 _ _)
   (tuple_addW1 t b vs.toArray ws.toArray n n2 dd Mb sl JW (by simpa using hv) (by simp [hw])) ⟨ho,F',h1 hw⟩
 ·refine concat_meets ⟨_,ho,rfl⟩ ⟨_,F',rfl⟩ noFill_tuple_add seq_tuple_add PySem.F.slot_tuple_add PySem.F.entry_tuple_add (PySem.F.args_tuple_add_2 _ _)
   (tuple_addW2 t b vs.toArray ws.toArray n n2 dd Mb sl JW (by simpa using hv) (by simpa using hw) (by rw [List.size_toArray,List.size_toArray]; exact hsz)) ⟨ho,F',?_⟩
  rw [e]
  exact h2 hw
noncomputable def eB (n d:Nat):Option Int → Nat
 | none => d
 | some v => if v < 0 then (v + (n:Int)).toNat else min v.toNat n
theorem zI (n d:Nat):eB n d none = d:=rfl
theorem Ct (n d k:Nat):eB n d (some (k:Int)) = min k n:=by
 show (if (k:Int) < 0 then ((k:Int) + (n:Int)).toNat else min (k:Int).toNat n) = min k n
 rw [if_neg (by lia),Int.toNat_natCast]
theorem Ga (n d:Nat) (hd:d ≤ n) (o:Option Int):eB n d o ≤ n:=by
 cases o with
 | none => exact hd
 | some v =>
  show (if v < 0 then (v + (n:Int)).toNat else min v.toNat n) ≤ n
  by_cases hv:v < 0
  ·rw [if_pos hv]; lia
  ·rw [if_neg hv]; exact Nat.min_le_right _ _
theorem wq (v:Int) (n d:Nat):(if v < 0 then max (v + (n:Int)) 0 else min v (n:Int)) = ((eB n d (some v):Nat):Int):=by
 show (if v < 0 then max (v + (n:Int)) 0 else min v (n:Int)) = (((if v < 0 then (v + (n:Int)).toNat else min v.toNat n):Nat):Int)
 by_cases hv:v < 0
 ·simp only [if_pos hv]; lia
 ·simp only [if_neg hv]; lia
theorem u5 (lo hi:Option Int) (n:Nat):Builtin.Slice.sliceAdjust lo hi 1 (n:Int) = (((eB n 0 lo:Nat):Int),((eB n n hi:Nat):Int)):=by
 have h1:¬ ((1:Int) < 0):=by lia
 unfold Builtin.Slice.sliceAdjust
 simp only [h1,if_false]
 refine Prod.ext ?_ ?_
 ·cases lo with
  | none => rfl
  | some v => exact wq v n 0
 ·cases hi with
  | none => rfl
  | some v => exact wq v n n
theorem u6 (i j:Nat):Builtin.Slice.slicePlaces (i:Int) (j:Int) 1 = j - i:=by
 unfold Builtin.Slice.slicePlaces
 have h1:(1:Int) > 0:=by lia
 simp only [h1,if_true,Int.ediv_one]
 split <;> lia
theorem nD {v:Value} {o:Option Int} {Q:Option Int → Shared → Prop} (p:IsPart v o) (h:Q o s):wpAny (model prog w) A (Builtin.Slice.slicePartIndex v) Q E s:=by
 cases p with
 | none => exact slicePart_none h
 | int i t => exact slicePart_int h
theorem ky {sl:Addr} {vl vu:Value} {lo hi:Option Int} {n:Nat} {Q:Int × Int × Nat → Shared → Prop} (hs:s.heap.IsSliceOf sl vl vu .none) (pl:IsPart vl lo) (pu:IsPart vu hi)
  (h:Q (((eB n 0 lo:Nat):Int),1,eB n n hi - eB n 0 lo) s):wpAny (model prog w) A (Builtin.Slice.sliceApplied (.ref sl) (pure (n:Int))) Q E s:=by
 obtain ⟨os,JY,Qj,Mc⟩:=id hs
 unfold Builtin.Slice.sliceApplied Builtin.Slice.sliceFields
 refine wpAny_bind (wpAny_bind (wpAny_field JY Mc (x:=vl) rfl (wpAny_bind (wpAny_field JY Mc (x:=vu) rfl (wpAny_bind (wpAny_field JY Mc (x:=.none) rfl (wpAny_pure ?_)))))))
 refine wpAny_bind (slicePart_none ?_)
 show wpAny _ _ (if ((1:Int) == 0) = true then _ else _) _ _ s
 rw [if_neg (by decide)]
 refine wpAny_bind (nD pl (wpAny_bind (nD pu (wpAny_bind (wpAny_pure ?_)))))
 show wpAny _ _ (match Builtin.Slice.sliceAdjust lo hi 1 (n:Int) with | (lo,hi) => pure (lo,(1:Int),Builtin.Slice.slicePlaces lo hi 1)) _ _ s
 rw [u5 lo hi n]
 show wpAny _ _ (pure (((eB n 0 lo:Nat):Int),(1:Int),Builtin.Slice.slicePlaces ((eB n 0 lo:Nat):Int) ((eB n n hi:Nat):Int) 1)) _ _ s
 rw [u6]
 exact wpAny_pure h
theorem zJ (xs:Array Value) (i k:Nat):((List.range k).filterMap fun (m:Nat) => xs[((i:Int) + (m:Int) * 1).toNat]?).toArray = ((xs.toList.drop i).take k).toArray:=by
 have e:(fun (m:Nat) => xs[((i:Int) + (m:Int) * 1).toNat]?) = fun m => xs[i + m]?:=by
  funext m
  have:((i:Int) + (m:Int) * 1).toNat = i + m:=by lia
  rw [this]
 rw [e]
 have:=pick_run xs i k
 rw [List.filterMap_map] at this
 have e2:((fun x => xs[x]?) ∘ fun x => i + x) = fun m => xs[i + m]?:=rfl
 rw [e2] at this
 rw [this]
theorem jQ {t sl:Addr} {items:Array Value} {vl vu:Value} {lo hi:Option Int} {Q:Value → Shared → Prop} (ht:IsTup s.heap t items) (hs:s.heap.IsSliceOf sl vl vu .none) (pl:IsPart vl lo) (pu:IsPart vu hi)
  (hw:¬ (eB items.size 0 lo = 0 ∧ eB items.size items.size hi = items.size))
  (h:Q (.ref s.heap.objs.size) { s with heap:=s.heap.push { cls:=.type "tuple",data:=.seq ((items.toList.drop (eB items.size 0 lo)).take (eB items.size items.size hi - eB items.size 0 lo)).toArray } })
  (hsz:items.size ≤ sizeLine):wpAny (model prog w) A (getItem (.ref t) (.ref sl)) Q E s:=by
 have wt:sizeOk (.seq ((items.toList.drop (eB items.size 0 lo)).take (eB items.size items.size hi - eB items.size 0 lo)).toArray):=by
  show ((items.toList.drop (eB items.size 0 lo)).take (eB items.size items.size hi - eB items.size 0 lo)).toArray.size ≤ sizeLine
  rw [List.size_toArray,List.length_take,List.length_drop,Array.length_toList]
  lia
 have hj:eB items.size items.size hi ≤ items.size:=Ga _ _ (Nat.le_refl _) hi
 obtain ⟨os,JY,Qj,Mc⟩:=id hs
 have RE:s.TypeIs (.ref sl) "slice":=⟨os,JY,Qj⟩
 unfold getItem
 try with_reducible refine wpAny_holding ?_
 first | refine wpAny_bind (wpAny_pure ?_) | skip
 refine wpAny_bind (wpAny_sequenceKey ht.typeIs (by decide) ?_)
 refine wpAny_bind (wpAny_callSpecial?_slot (name:=Str.ofString "__getitem__") ht.typeIs PyProof.Rows.slot_tuple_getitem
  (wpAny_call_entry PyProof.Rows.slot_tuple_getitem ht.typeIs entry_tuple_getitem ?_ (args_tuple_getitem _ _)))
 show wpAny _ _ (Builtin.Tuple.tupleItemsOf (.ref t) >>= _) _ _ s
 refine wpAny_bind (tupleItemsOf_ ht ?_)
 refine wpAny_bind (wpAny_typeOf RE ?_)
 rw [if_pos (by decide)]
 refine wpAny_bind (ky hs pl pu ?_)
 have ND:¬ ((((eB items.size 0 lo:Nat):Int) == 0 && (1:Int) == 1 && (eB items.size items.size hi - eB items.size 0 lo) == items.size) = true):=by
  intro q
  rw [Bool.and_eq_true,Bool.and_eq_true] at q
  have q1:((eB items.size 0 lo:Nat):Int) = 0:=eq_of_beq q.1.1
  have q2:eB items.size items.size hi - eB items.size 0 lo = items.size:=eq_of_beq q.2
  exact hw ⟨by lia,by lia⟩
 show wpAny _ _ (if (((eB items.size 0 lo:Nat):Int) == 0 && (1:Int) == 1 && (eB items.size items.size hi - eB items.size 0 lo) == items.size) = true then _ else _) _ _ s
 rw [if_neg ND,zJ]
 first
  | exact wpAny_bind (m:=Builtin.Tuple.tupleExact _) (wpAny_newObj_type (wpAny_pure ⟨_,rfl,wpAny_pure h⟩) wt)
  | exact wpAny_bind (m:=Builtin.Tuple.tupleExact _) (wpAny_newObj_type (wpAny_bind (wpAny_pure (wpAny_pure ⟨_,rfl,wpAny_pure h⟩))) wt)
  | exact wpAny_bind (wpAny_bind (m:=Builtin.Tuple.tupleExact _) (wpAny_newObj_type (wpAny_pure (wpAny_pure ⟨_,rfl,wpAny_pure h⟩)) wt))
  | exact wpAny_bind (wpAny_bind (m:=Builtin.Tuple.tupleExact _) (wpAny_newObj_type (wpAny_pure ⟨_,rfl,wpAny_pure h⟩) wt))
end
end HT
namespace L2
open PySem PySem.Spec PyProof.Rows
noncomputable abbrev TO:=St → Hp → (Option Int → Hp → Prop) → Prop
noncomputable def PO (X:Cx) (e:Option Expr) (t:TO):Prop :=
 ∀ (af:List (Addr × Obj)) (s:Shared) (σ:St) (H:Hp) (Q:Option Int → Hp → Prop),aS X af σ H s → t σ H Q →
  wpAny (model X.prog X.w) X.A (evalPart e X.env) (fun u s' => ∃ o H',aS X af σ H' s' ∧ IsPart u o ∧ Q o H') X.xe s
noncomputable def Cu:TO:=fun _ H Q => Q none H
noncomputable def JZ (t:TE):TO:=fun σ H Q => t σ H fun x H1 => ∃ i,x = .int i ∧ Q (some i) H1
section
variable {X:Cx} {e:Expr} {te:TE} {lo hi:Option Expr} {tl th:TO} {pos p2:Pos}
theorem Cv:PO X none Cu:=by
 intro af s σ H Q I h
 rw [evalPart_none]
 exact wpAny_pure ⟨none,H,I,.none,h⟩
theorem Cw (h:PE X e te):PO X (some e) (JZ te):=by
 intro af s σ H Q I hw
 rw [evalPart_some]
 refine cR (h af s σ H _ I hw) fun u s1 ⟨x,H1,I1,r1,q1⟩ => ?_
 obtain ⟨i,rfl,q⟩:=q1
 obtain ⟨t,rfl⟩:=r1
 exact ⟨some i,H1,I1,.int i t,q⟩
noncomputable def ED (X:Cx) (r:V → Option Int → Option Int → Hp → VK → Prop):Prop :=
 ∀ (af:List (Addr × Obj)) (s:Shared) (σ:St) (H:Hp) (x:V) (v vl vu:Value) (lo hi:Option Int) (sl:Addr) (Q:VK),aS X af σ H s → bC x v → s.heap.IsSliceOf sl vl vu .none → IsPart vl lo → IsPart vu hi → r x lo hi H Q →
  ∃ T id,typeLookup (.type T) "__getitem__" = pure (some (.builtin id)) ∧ s.TypeIs v T ∧ wpAny (model X.prog X.w) X.A (getItem v (.ref sl)) (EP X af σ Q) X.xe s
theorem ED.or {r r':V → Option Int → Option Int → Hp → VK → Prop} (h:ED X r) (h':ED X r'):ED X (fun x lo hi H Q => r x lo hi H Q ∨ r' x lo hi H Q):=by
 intro af s σ H x v vl vu lo hi sl Q I rx hs pl pu q
 rcases q with q | q
 ·exact h af s σ H x v vl vu lo hi sl Q I rx hs pl pu q
 ·exact h' af s σ H x v vl vu lo hi sl Q I rx hs pl pu q
noncomputable def RF (r:V → Option Int → Option Int → Hp → VK → Prop) (te:TE) (tl th:TO):TE:=fun σ H Q => te σ H fun x H1 => tl σ H1 fun l H2 => th σ H2 fun u H3 => r x l u H3 Q
theorem zK {r:V → Option Int → Option Int → Hp → VK → Prop} (hr:ED X r) (he:PE X e te) (hl:PO X lo tl) (hu:PO X hi th):PE X (.Subscript e (.Slice lo hi none p2) pos) (RF r te tl th):=by
 intro af s σ H Q I h
 refine Subscript_ (cR (he af s σ H _ I h) fun v s1 ⟨x,H1,I1,r1,q1⟩ => ?_)
 refine wpAny_Slice (cR (hl af s1 σ H1 _ I1 q1) fun vl s2 ⟨l,H2,I2,pl,q2⟩ => cR (hu af s2 σ H2 _ I2 q2) fun vu s3 ⟨u,H3,I3,pu,q3⟩ => ?_)
 rw [evalPart_none]
 refine wpAny_pure ?_
 have I4:aS X af σ H3 { s3 with heap:=s3.heap.push { cls:=.type "slice",data:=.fields #[vl,vu,.none] } }:=I3.kept (t':=s3.toks) fun b ob q => Heap.get?_push_of_some _ q
 obtain ⟨T,id,hT,ht,hg⟩:=hr af { s3 with heap:=s3.heap.push { cls:=.type "slice",data:=.fields #[vl,vu,.none] } } σ H3 x v vl vu l u s3.heap.objs.size Q I4 r1 (Heap.IsSliceOf.new ..) pl pu q3
 show wpAny (model X.prog X.w) X.A (subscriptTail e (.Slice lo hi none p2) v (.ref s3.heap.objs.size)) (EP X af σ Q) X.xe { s3 with heap:=s3.heap.push { cls:=.type "slice",data:=.fields #[vl,vu,.none] } }
 exact tail_any (ops:=[.ref s3.heap.objs.size,v]) ht hT hg (by with_unfolding_all rfl)
noncomputable def qC (xs:List V) (lo hi:Option Int):List V:=(xs.drop (HT.eB xs.length 0 lo)).take (HT.eB xs.length xs.length hi - HT.eB xs.length 0 lo)
theorem lN (xs:List V) (lo hi:Option Int):(qC xs lo hi).length ≤ xs.length:=by
 unfold qC
 rw [List.length_take,List.length_drop]
 lia
noncomputable def NF (K:PySem.W.Frag):V → Option Int → Option Int → Hp → VK → Prop:=fun x lo hi H Q => ∃ a xs,x = .ref a ∧ jD K H a xs ∧
 ¬ (HT.eB xs.length 0 lo = 0 ∧ HT.eB xs.length xs.length hi = xs.length) ∧ ∀ p,H p = none → Q (.ref p) (upd H p (.tup (qC xs lo hi)))
theorem Gb:ED X (NF X.K):=by
 intro af s σ H x v vl vu lo hi sl Q I rx hs pl pu h
 obtain ⟨a,xs,rfl,hx,hw,q⟩:=h
 cases rx
 obtain ⟨aO,r,ht,hz⟩:=I.tuple hx
 have hlen:aO.toArray.size = xs.length:=by rw [List.size_toArray]; exact r.length.symm
 refine ⟨"tuple",_,PyProof.Rows.slot_tuple_getitem.lookup,ht.typeIs,?_⟩
 refine HT.jQ ht hs pl pu (by rw [hlen]; exact hw) ?_ (by rw [hlen]; exact hz)
 rw [hlen]
 refine ⟨.ref s.heap.objs.size,_,I.laid (t':=s.toks) (o:=.tup (qC xs lo hi)) (fun b ob q => Heap.get?_push_of_some _ q) (Nat.le_refl _) ?_,rfl,q _ (I.b?.fresh (Nat.le_refl _))⟩
 exact ⟨Nat.le_trans (lN xs lo hi) hz,_,(r.drop (HT.eB xs.length 0 lo)).take (HT.eB xs.length xs.length hi - HT.eB xs.length 0 lo),IsTup.new _ _⟩
noncomputable def J0 (K:PySem.W.Frag):R2:=fun x y H Q => ∃ a b xs ys,x = .ref a ∧ y = .ref b ∧ jD K H a xs ∧ jD K H b ys ∧ xs ≠ [] ∧ xs.length + ys.length ≤ sizeLine ∧
 (ys = [] → Q (.ref a) H) ∧ (ys ≠ [] → ∀ p,H p = none → Q (.ref p) (upd H p (.tup (xs ++ ys))))
theorem bo.qD {xs:List V} {us:List Value} (r:bo xs us):us = [] ↔ xs = []:=by
 cases r with
 | nil => simp
 | cons _ _ => simp
theorem Cy:d5 X (binaryOp .Add) (J0 X.K):=by
 intro af s σ H x y v u Q I rx ry h
 obtain ⟨a,b,xs,ys,rfl,rfl,ha,hb,hx,hz,q1,q2⟩:=h
 cases rx
 cases ry
 obtain ⟨aO,r1,p1,_⟩:=I.tuple ha
 obtain ⟨d6,r2,p2,_⟩:=I.tuple hb
 refine HT.Cs p1 p2 (fun z => hx (r1.qD.mp z)) (fun z => ⟨.ref a,H,I,rfl,q1 (r2.qD.mp z)⟩) (fun z => ?_) (by rw [← r1.length,← r2.length]; exact hz)
 refine ⟨.ref s.heap.objs.size,_,I.laid (t':=s.toks) (o:=.tup (xs ++ ys)) (fun b ob q => Heap.get?_push_of_some _ q) (Nat.le_refl _) ?_,rfl,q2 (fun w => z (r2.qD.mpr w)) _ (I.b?.fresh (Nat.le_refl _))⟩
 exact ⟨by rw [List.length_append]; exact hz,_,r1.append r2,IsTup.new _ _⟩
end
end L2
namespace L2
open PySem PySem.Spec PyProof.Rows
noncomputable def sV (n:Nat) (i:Int):Option Nat:=if 0 ≤ i then (if i < n then some i.toNat else none) else if -(n:Int) ≤ i then some (i + n).toNat else none
noncomputable def g! {α:Type} (xs:List α) (i:Int):Option α:=(sV xs.length i).bind fun j => xs[j]?
theorem wu {n:Nat} {i:Int} {j:Nat} (h:sV n i = some j):seqIndex? i n = some j ∧ j < n ∧ -(n:Int) ≤ i ∧ i < n:=by
 unfold sV at h
 by_cases h0:0 ≤ i
 ·rw [if_pos h0] at h
  by_cases h1:i < n
  ·rw [if_pos h1] at h
   have e:i.toNat = j:=Option.some.inj h
   exact ⟨by rw [seqIndex_of h0 h1,e],by lia,by lia,h1⟩
  ·rw [if_neg h1] at h; cases h
 ·rw [if_neg h0] at h
  by_cases h1:-(n:Int) ≤ i
  ·rw [if_pos h1] at h
   have e:(i + n).toNat = j:=Option.some.inj h
   exact ⟨by rw [seqIndex_neg (by lia) h1,e],by lia,h1,by lia⟩
  ·rw [if_neg h1] at h; cases h
theorem mY {α:Type} {xs:List α} {i:Int} {v:α} (h:g! xs i = some v):∃ j,seqIndex? i xs.length = some j ∧ xs[j]? = some v ∧ j < xs.length ∧ -(xs.length:Int) ≤ i ∧ i < xs.length:=by
 unfold g! at h
 cases e:sV xs.length i with
 | none => rw [e] at h; cases h
 | some j =>
  rw [e] at h
  obtain ⟨h1,h2,h3,h4⟩:=wu e
  exact ⟨j,h1,h,h2,h3,h4⟩
theorem ji {α:Type} {xs:List α} {j:Nat} {v:α} (h:xs[j]? = some v):g! xs (j:Int) = some v:=by
 have hj:j < xs.length:=(List.getElem?_eq_some_iff.mp h).1
 have e:sV xs.length (j:Int) = some j:=by
  unfold sV
  rw [if_pos (by lia),if_pos (by lia)]; simp
 unfold g!; rw [e]; exact h
theorem zL {α:Type} (xs:List α) (v:α):g! (xs ++ [v]) (-1) = some v:=by
 have hl:(xs ++ [v]).length = xs.length + 1:=by simp
 have e:sV (xs ++ [v]).length (-1) = some xs.length:=by
  unfold sV
  rw [hl,if_neg (by decide),if_pos (by lia)]
  congr 1
  lia
 unfold g!
 rw [e]
 show (xs ++ [v])[xs.length]? = some v
 simp
noncomputable def qE (b:Expr):Prop:=∀ o i,subscripted b false o i = operate [o,i] (getItem o i)
noncomputable def uP (X:Cx) (r:R2):Prop :=
 ∀ (value slice:Expr) (af:List (Addr × Obj)) (s:Shared) (σ:St) (H:Hp) (x y:V) (v u:Value) (Q:VK),aS X af σ H s → bC x v → bC y u → r x y H Q →
  subscripted slice false v u = operate [v,u] (getItem v u) → wpAny (model X.prog X.w) X.A (subscriptTail value slice v u) (EP X af σ Q) X.xe s
noncomputable def Qk (X:Cx) (id:String) (r:V → List V → Hp → VK → Prop):Prop :=
 ∀ (af:List (Addr × Obj)) (s:Shared) (σ:St) (H:Hp) (x:V) (xs:List V) (v:Value) (us:List Value) (Q:VK),aS X af σ H s → bC x v → bo xs us → r x xs H Q →
  wpAny (model X.prog X.w) X.A (call (.builtin id) (v :: us)) (EP X af σ Q) X.xe s
section
variable {X:Cx} {a b:Expr} {ta tb:TE} {pos:Pos}
theorem uP.or {r r':R2} (h:uP X r) (h':uP X r'):uP X (fun x y H Q => r x y H Q ∨ r' x y H Q):=by
 intro value slice af s σ H x y v u Q I rx ry q hs
 rcases q with q | q
 ·exact h value slice af s σ H x y v u Q I rx ry q hs
 ·exact h' value slice af s σ H x y v u Q I rx ry q hs
theorem J1 {r:R2} (hr:uP X r) (ha:PE X a ta) (hb:PE X b tb) (hs:qE b):PE X (.Subscript a b pos) (IT r ta tb):=by
 intro af s σ H Q I h
 exact Subscript_ (FQ ha hb I h fun v u s2 x y H2 I2 rx ry q => hr a b af s2 σ H2 x y v u Q I2 rx ry q (hs _ _))
noncomputable def J2 (K:PySem.W.Frag):R2:=fun x y H Q => ∃ p xs i v,x = .ref p ∧ y = .int i ∧ iG K H p xs ∧ g! xs i = some v ∧ Q v H
noncomputable def NG (K:PySem.W.Frag):R2:=fun x y H Q => ∃ p xs i v,x = .ref p ∧ y = .int i ∧ jD K H p xs ∧ g! xs i = some v ∧ Q v H
noncomputable def NH:R2:=fun x y H Q => ∃ z i c,x = .str z ∧ y = .int i ∧ z.length ≤ sizeLine ∧ g! z.cps.toList i = some c ∧ Q (.str ⟨#[c]⟩) H
theorem Cz:uP X (J2 X.K):=by
 intro value slice af s σ H x y v u Q I rx ry h hs
 obtain ⟨p,xs,i,z,rfl,rfl,hq,he,q⟩:=h
 cases rx
 obtain ⟨t,rfl⟩:=ry
 obtain ⟨aO,r,pl,hz⟩:=I.list hq
 obtain ⟨j,h1,h2,h3,h4,h5⟩:=mY he
 obtain ⟨w,ew,qF⟩:=r.get h2
 have hl:=r.length
 have hn:=jE
 have fin:EP X af σ Q w s:=⟨z,H,I,qF,q⟩
 by_cases h0:0 ≤ i
 ·have hj:i.toNat = j:=by
   rw [seqIndex_of h0 h5] at h1
   exact Option.some.inj h1
  exact item_listR pl.isList h0 (by lia) (by rw [hj]; simpa using ew) fin hs
 ·have hj:(i + (aO.toArray.size:Int)).toNat = j:=by
   rw [seqIndex_neg (by lia) h4] at h1
   rw [List.size_toArray,← hl]
   exact Option.some.inj h1
  exact subscriptTail_builtinR (x:=w) pl.isList.typeIs slot_list_getitem.lookup
   (wpAny_getItem_list_neg (Q:=fun r s' => r = w ∧ EP X af σ Q r s') pl.isList (by lia) (by rw [List.size_toArray] <;> lia) (by lia) (by rw [hj]; simpa using ew) ⟨rfl,fin⟩) hs
theorem cz:uP X (NG X.K):=by
 intro value slice af s σ H x y v u Q I rx ry h hs
 obtain ⟨p,xs,i,z,rfl,rfl,hq,he,q⟩:=h
 cases rx
 obtain ⟨t,rfl⟩:=ry
 obtain ⟨aO,r,pl,hz⟩:=I.tuple hq
 obtain ⟨j,h1,h2,h3,h4,h5⟩:=mY he
 obtain ⟨w,ew,qF⟩:=r.get h2
 have hl:=r.length
 have hn:=jE
 have fin:EP X af σ Q w s:=⟨z,H,I,qF,q⟩
 exact subscriptTail_builtinR (x:=w) pl.typeIs slot_tuple_getitem.lookup
  (getItem_tuple (j:=j) (Q:=fun r s' => r = w ∧ EP X af σ Q r s') pl (by lia) (by lia) (by rw [List.size_toArray,← hl]; exact h1) (by simpa using ew) ⟨rfl,fin⟩) hs
theorem Gd:uP X NH:=by
 intro value slice af s σ H x y v u Q I rx ry h hs
 obtain ⟨z,i,c,rfl,rfl,hz,he,q⟩:=h
 obtain ⟨t,rfl⟩:=rx
 obtain ⟨t',rfl⟩:=ry
 obtain ⟨j,h1,h2,h3,h4,h5⟩:=mY he
 have hl:z.cps.toList.length = z.length:=by simp [Str.length]
 rw [hl] at h1 h4 h5
 have hn:=jE
 exact tail_any (typeIs_str s z t) slot_str_getitem.lookup (getItem_str (c:=c) (by
  have e1:decide (i < -(2 ^ 63:Int)) = false:=decide_eq_false (by lia)
  have e2:decide (i ≥ 2 ^ 63) = false:=decide_eq_false (by lia)
  rw [e1,e2,Bool.or_false]) (by rw [h1]; simpa using h2) ⟨.str ⟨#[c]⟩,H,I.tok _,⟨_,rfl⟩,q⟩) hs
theorem u7 (aO:List Value) (n j:Nat) (u:Value):Obj.mapSeq (·.setIfInBounds j u) { cls:=.type "list",data:=.seq aO.toArray n } = { cls:=.type "list",data:=.seq (aO.set j u).toArray n }:=by
 simp [Obj.mapSeq]
theorem aS.lst {af:List (Addr × Obj)} {σ:St} {H:Hp} {s:Shared} {p:Addr} {xs:List V} (I:aS X af σ H s) (h:H p = some (.lst xs)) :
  ∃ (aO:List Value) (n:Nat),bo xs aO ∧ s.heap.get? p = some { cls:=.type "list",data:=.seq aO.toArray n } ∧ xs.length ≤ sizeLine:=by
 obtain ⟨z,aO,n,r,e⟩:=I.b? p _ h
 exact ⟨aO,n,r,e,z⟩
theorem aS.Ge {af:List (Addr × Obj)} {σ:St} {H:Hp} {s:Shared} {p:Addr} {xs ys:List V} {aO its':List Value} {n n':Nat} {f:Obj → Obj} (I:aS X af σ H s) (h:H p = some (.lst xs))
  (ho:s.heap.get? p = some { cls:=.type "list",data:=.seq aO.toArray n }) (hf:f { cls:=.type "list",data:=.seq aO.toArray n } = { cls:=.type "list",data:=.seq its'.toArray n' }) (r:bo ys its') (hz:ys.length ≤ sizeLine) (t:Nat) :
  aS X af σ (upd H p (.lst ys)) { s with heap:=s.heap.update p f,toks:=t }:=by
 have e:(s.heap.update p f).get? p = some { cls:=.type "list",data:=.seq its'.toArray n' }:=by
  rw [Heap.get?_update_self f ho (by rw [hf] <;> rfl),hf]
 refine I.write (x:=p) (e:=p) (by rw [h]; trivial) (.inl rfl) (fun b u hb q => (Heap.get?_update_other _ _ (Ne.symm hb)).trans q) ⟨_,e⟩ ?_
 exact ⟨hz,its',n',r,e⟩
noncomputable def EE:V → V → V → Hp → (Hp → Prop) → Prop:=fun o i v H Q => ∃ p xs k j,o = .ref p ∧ i = .int k ∧ H p = some (.lst xs) ∧ sV xs.length k = some j ∧ Q (upd H p (.lst (xs.set j v)))
theorem set_list:FE X EE:=by
 intro af s σ H o i v ov iv u Q I ro ri rv h
 obtain ⟨p,xs,k,j,rfl,rfl,hp,hj,q⟩:=h
 cases ro
 obtain ⟨t,rfl⟩:=ri
 obtain ⟨aO,n,r,ho,hz⟩:=I.lst hp
 obtain ⟨h1,h2,h3,h4⟩:=wu hj
 have hl:=r.length
 have hn:=jE
 have I':aS X af σ (upd H p (.lst (xs.set j v))) { s with heap:=s.heap.update p (Obj.mapSeq (·.setIfInBounds j u)) } :=
  I.Ge hp ho (u7 aO n j u) (r.set rv j) (by rw [List.length_set]; exact hz) s.toks
 by_cases h0:0 ≤ k
 ·have hk:k.toNat = j:=by
   rw [seqIndex_of h0 h4] at h1
   exact Option.some.inj h1
  exact PySem.W.ki_setAt ho h0 (by lia) (by rw [List.size_toArray,← hl]; exact h4) (by rw [hk]; exact ⟨_,I',q⟩)
 ·have hk:(k + (aO.toArray.size:Int)).toNat = j:=by
   rw [seqIndex_neg (by lia) h3] at h1
   rw [List.size_toArray,← hl]
   exact Option.some.inj h1
  exact PySem.W.ki_setBack ho (by lia) (by rw [List.size_toArray,← hl]; exact h3) (by lia) (by rw [hk]; exact ⟨_,I',q⟩)
theorem qG (lo hi:Option Int) (n:Nat):(sliceBounds lo hi none n).1 = ((HT.eB n 0 lo:Nat):Int) ∧ (sliceBounds lo hi none n).2.1 = ((HT.eB n n hi:Nat):Int) ∧ (sliceBounds lo hi none n).2.2 = 1:=by
 refine ⟨?_,?_,rfl⟩
 ·cases lo with
  | none => simp [sliceBounds,HT.eB]
  | some i =>
   simp only [sliceBounds,HT.eB,Option.getD_none,show (1:Int) > 0 by decide,if_true]
   by_cases h:i < 0
   ·simp only [h,if_true] <;> lia
   ·simp only [h,if_false] <;> lia
 ·cases hi with
  | none => simp [sliceBounds,HT.eB]
  | some i =>
   simp only [sliceBounds,HT.eB,Option.getD_none,show (1:Int) > 0 by decide,if_true]
   by_cases h:i < 0
   ·simp only [h,if_true] <;> lia
   ·simp only [h,if_false] <;> lia
theorem ph (aO:List Value) (lo hi:Option Int):slicePick aO.toArray lo hi none = ((aO.drop (HT.eB aO.length 0 lo)).take (HT.eB aO.length aO.length hi - HT.eB aO.length 0 lo)).toArray:=by
 obtain ⟨h1,h2,h3⟩:=qG lo hi aO.toArray.size
 unfold slicePick
 rw [h1,h2,h3]
 simp only [sliceRange_one,pick_run,List.size_toArray] <;> rfl
noncomputable def NI (K:PySem.W.Frag):V → Option Int → Option Int → Hp → VK → Prop:=fun x lo hi H Q => ∃ a xs,x = .ref a ∧ iG K H a xs ∧ ∀ p,H p = none → Q (.ref p) (upd H p (.lst (qC xs lo hi)))
theorem CA:ED X (NI X.K):=by
 intro af s σ H x v vl vu lo hi sl Q I rx hs pl pu h
 obtain ⟨a,xs,rfl,hx,q⟩:=h
 cases rx
 obtain ⟨aO,r,ht,hz⟩:=I.list hx
 have hlen:=r.length
 refine ⟨"list",_,slot_list_getitem.lookup,ht.isList.typeIs,?_⟩
 refine wpAny_getItem_list_slice ht.isList hs pl pu .none (by simp) ?_ (by rw [List.size_toArray] <;> lia)
 rw [ph,← hlen]
 refine ⟨.ref s.heap.objs.size,_,I.laid (t':=s.toks) (o:=.lst (qC xs lo hi)) (fun b ob q => Heap.get?_push_of_some _ q) (Nat.le_refl _) ?_,rfl,q _ (I.b?.fresh (Nat.le_refl _))⟩
 exact ⟨Nat.le_trans (lN xs lo hi) hz,_,0,(r.drop (HT.eB xs.length 0 lo)).take (HT.eB xs.length xs.length hi - HT.eB xs.length 0 lo),Heap.get?_push_size _ rfl⟩
noncomputable def fk:V → Bool
 | .dA => true
 | .bl _ => true
 | .int _ => true
 | .str _ => true
 | _ => false
noncomputable def qH:V → V → Bool
 | .dA,.dA => true
 | .bl a,.bl b => a == b
 | .bl a,.int b => (if a then 1 else 0) == b
 | .int a,.bl b => a == (if b then 1 else 0)
 | .int a,.int b => a == b
 | .str a,.str b => a == b
 | _,_ => false
theorem Gf {A:Around} {s:Shared} {y x:V} {u v:Value} (ry:bC y u) (rx:bC x v) (fy:fk y = true) (fx:fk x = true):SeqAt.EqAt A s u v (qH y x):=by
 cases y with
 | dA =>
  cases ry
  cases x with
  | dA => cases rx; exact SeqAt.EqAt.same _
  | bl b => cases rx; exact SeqAt.EqAt.none_bool b
  | int b => obtain ⟨t,rfl⟩:=rx; exact SeqAt.EqAt.none_int b t
  | str b => obtain ⟨t,rfl⟩:=rx; exact SeqAt.EqAt.none_str b t
  | _ => exact absurd (show false = true from fx) Bool.false_ne_true
 | bl a =>
  cases ry
  cases x with
  | dA => cases rx; exact SeqAt.EqAt.bool_none a
  | bl b => cases rx; exact SeqAt.EqAt.bool_bool a b
  | int b => obtain ⟨t,rfl⟩:=rx; exact SeqAt.EqAt.bool_int a b t
  | str b => obtain ⟨t,rfl⟩:=rx; exact SeqAt.EqAt.bool_str a b t
  | _ => exact absurd (show false = true from fx) Bool.false_ne_true
 | int a =>
  obtain ⟨t',rfl⟩:=ry
  cases x with
  | dA => cases rx; exact SeqAt.EqAt.int_none a t'
  | bl b => cases rx; exact SeqAt.EqAt.int_bool a t' b
  | int b => obtain ⟨t,rfl⟩:=rx; exact SeqAt.EqAt.int_int a t' b t
  | str b => obtain ⟨t,rfl⟩:=rx; exact SeqAt.EqAt.int_str a t' b t
  | _ => exact absurd (show false = true from fx) Bool.false_ne_true
 | str a =>
  obtain ⟨t',rfl⟩:=ry
  cases x with
  | dA => cases rx; exact SeqAt.EqAt.str_none a t'
  | bl b => cases rx; exact SeqAt.EqAt.str_bool a t' b
  | int b => obtain ⟨t,rfl⟩:=rx; exact SeqAt.EqAt.str_int a t' b t
  | str b => obtain ⟨t,rfl⟩:=rx; exact SeqAt.EqAt.str_str a t' b t
  | _ => exact absurd (show false = true from fx) Bool.false_ne_true
 | _ => exact absurd (show false = true from fy) Bool.false_ne_true
noncomputable def xN (x:V) (u:Value):Bool:=match u with
 | .none => qH .dA x
 | .bool b => qH (.bl b) x
 | .int i _ => qH (.int i) x
 | .str z _ => qH (.str z) x
 | _ => false
theorem qI {x y:V} {u:Value} (r:bC y u) (f:fk y = true):xN x u = qH y x:=by
 cases y with
 | dA => cases r; rfl
 | bl b => cases r; rfl
 | int i => obtain ⟨t,rfl⟩:=r; rfl
 | str z => obtain ⟨t,rfl⟩:=r; rfl
 | _ => exact absurd (show false = true from f) Bool.false_ne_true
theorem qJ {x:V}:∀ {xs:List V} {us:List Value},bo xs us → xs.all fk = true → us.any (xN x) = xs.any fun y => qH y x
 | _,_,.nil,_ => rfl
 | y :: xs,u :: us,.cons r t,f => by
  rw [List.all_cons,Bool.and_eq_true] at f
  rw [List.any_cons,List.any_cons,qI r f.1,qJ t f.2]
theorem iM {A:Around} {s:Shared} {x:V} {v:Value} (rx:bC x v) (fx:fk x = true):∀ {xs:List V} {us:List Value},bo xs us → xs.all fk = true → ∀ u ∈ us,SeqAt.EqAt A s u v (xN x u)
 | _,_,.nil,_ => fun u hu => by cases hu
 | y :: xs,u :: us,.cons r t,f => fun u' hu => by
  rw [List.all_cons,Bool.and_eq_true] at f
  rcases List.mem_cons.mp hu with rfl | hu
  ·rw [qI r f.1]; exact Gf r rx f.1 fx
  ·exact iM rx fx t f.2 u' hu
noncomputable def Md (x:V) (xs:List V):Bool:=xs.any fun y => qH y x
noncomputable def Ql (K:PySem.W.Frag) (neg:Bool):R2:=fun x y H Q => ∃ p xs,y = .ref p ∧ (iG K H p xs ∨ jD K H p xs) ∧ fk x = true ∧ xs.all fk = true ∧ Q (.bl (if neg then !Md x xs else Md x xs)) H
theorem xO:d5 X (compareOp .In) (Ql X.K false):=by
 intro af s σ H x y v u Q I rx ry h
 obtain ⟨p,xs,rfl,hq,fx,fs,q⟩:=h
 cases ry
 rcases hq with hq | hq
 ·obtain ⟨aO,r,pl,hz⟩:=I.list hq
  refine SeqAt.in_listAt (xN x) pl.isList (fun w hw => iM rx fx r fs w (by simpa using hw)) ⟨.bl _,H,I,rfl,?_⟩
  rw [show aO.toArray.any (xN x) = aO.any (xN x) by simp,qJ r fs]
  exact q
 ·obtain ⟨aO,r,pl,hz⟩:=I.tuple hq
  refine SeqAt.in_tupleAt (xN x) pl (fun w hw => iM rx fx r fs w (by simpa using hw)) ⟨.bl _,H,I,rfl,?_⟩
  rw [show aO.toArray.any (xN x) = aO.any (xN x) by simp,qJ r fs]
  exact q
theorem qK:bU X (.builtin "len") (fun xs H Q => ∃ p ys,xs = [.ref p] ∧ (iG X.K H p ys ∨ jD X.K H p ys) ∧ Q (.int ys.length) H):=by
 intro af s σ H xs us Q I r h
 obtain ⟨p,ys,rfl,hq,q⟩:=h
 obtain ⟨u,rfl,rx⟩:=vals1 r
 cases rx
 have hn:=jE
 rcases hq with hq | hq
 ·obtain ⟨aO,r',pl,hz⟩:=I.list hq
  have hlen:=r'.length
  exact Calls.call_len_list pl.isList (by simp only [List.size_toArray] <;> lia) ⟨.int ys.length,H,I.tok _,⟨s.toks + 1,by rw [List.size_toArray,hlen]⟩,q⟩
 ·obtain ⟨aO,r',pl,hz⟩:=I.tuple hq
  have hlen:=r'.length
  exact len_tuple pl (by simp only [List.size_toArray] <;> lia) ⟨.int ys.length,H,I.tok _,⟨s.toks + 1,by rw [List.size_toArray,hlen]⟩,q⟩
theorem qL:bU X (.builtin "len") (fun xs H Q => ∃ z,xs = [.str z] ∧ z.length ≤ sizeLine ∧ Q (.int z.length) H):=by
 intro af s σ H xs us Q I r h
 obtain ⟨z,rfl,hz,q⟩:=h
 obtain ⟨u,rfl,t,rfl⟩:=vals1 r
 have hn:=jE
 exact len_str (by lia) ⟨.int z.length,H,I.tok _,⟨_,rfl⟩,q⟩
theorem bU.or {f:Value} {r r':List V → Hp → VK → Prop} (h:bU X f r) (h':bU X f r'):bU X f (fun xs H Q => r xs H Q ∨ r' xs H Q):=by
 intro af s σ H xs us Q I rs q
 rcases q with q | q
 ·exact h af s σ H xs us Q I rs q
 ·exact h' af s σ H xs us Q I rs q
theorem qM:bU X (.type "list") (fun xs H Q => ∃ p ys,xs = [.ref p] ∧ (iG X.K H p ys ∨ jD X.K H p ys) ∧ ∀ l,H l = none → Q (.ref l) (upd H l (.lst ys))):=by
 intro af s σ H xs us Q I r h
 obtain ⟨p,ys,rfl,hq,q⟩:=h
 obtain ⟨u,rfl,rx⟩:=vals1 r
 cases rx
 have fin:∀ (aO:List Value),bo ys aO → ys.length ≤ sizeLine → ∀ (h':Heap) (c':Nat),(∀ b o',s.heap.get? b = some o' → h'.get? b = some o') →
   h'.get? s.heap.objs.size = some { cls:=.type "list",dict:=none,data:=.seq aO.toArray c',slots:=#[] } → EP X af σ Q (.ref s.heap.objs.size) { s with heap:=h' }:=fun aO r' hz h' c' kp e =>
  ⟨.ref s.heap.objs.size,_,I.laid (t':=s.toks) kp (Nat.le_refl _) (show cL X.prog X.w _ h' _ (.lst ys) from ⟨hz,aO,c',r',e⟩),rfl,q _ (I.b?.fresh (Nat.le_refl _))⟩
 rcases hq with hq | hq
 ·obtain ⟨aO,r',pl,hz⟩:=I.list hq
  have hlen:=r'.length
  obtain ⟨o,ho,hc,n,hd⟩:=pl.isList
  exact call_list_seq p (.inl rfl) ho hc hd (fun h' c' kp e => fin aO r' hz h' c' kp e) (by simp only [List.size_toArray] <;> lia)
 ·obtain ⟨aO,r',pl,hz⟩:=I.tuple hq
  have hlen:=r'.length
  obtain ⟨o,ho,hc,n,hd⟩:=pl
  exact call_list_seq p (.inr rfl) ho hc hd (fun h' c' kp e => fin aO r' hz h' c' kp e) (by simp only [List.size_toArray] <;> lia)
theorem pj:bU X (.type "tuple") (fun xs H Q => ∃ p ys,xs = [.ref p] ∧ ((iG X.K H p ys ∧ ∀ l,H l = none → Q (.ref l) (upd H l (.tup ys))) ∨ (jD X.K H p ys ∧ Q (.ref p) H))):=by
 intro af s σ H xs us Q I r h
 obtain ⟨p,ys,rfl,h⟩:=h
 obtain ⟨u,rfl,rx⟩:=vals1 r
 cases rx
 rcases h with ⟨hq,q⟩ | ⟨hq,q⟩
 ·obtain ⟨aO,r',pl,hz⟩:=I.list hq
  have hlen:=r'.length
  refine call_tuple_list pl.isList (fun h' kp => ?_) (by simp only [List.size_toArray] <;> lia)
  have I1:aS X af σ H { s with heap:=h' }:=I.kept (t':=s.toks) kp
  have I2:aS X af σ (upd H h'.objs.size (.tup ys)) { s with heap:=h'.push { cls:=.type "tuple",data:=.seq aO.toArray } } :=
   I1.laid (t':=s.toks) (fun b o e => Heap.get?_push_of_some _ e) (Nat.le_refl _) (show cL X.prog X.w _ _ _ (.tup ys) from ⟨hz,aO,r',IsTup.new _ _⟩)
  exact ⟨.ref h'.objs.size,_,I2,rfl,q _ (I1.b?.fresh (Nat.le_refl _))⟩
 ·obtain ⟨aO,r',pl,hz⟩:=I.tuple hq
  exact call_tuple_same pl ⟨.ref p,H,I,rfl,q⟩
noncomputable def Me (K:PySem.W.Frag) (T:String) (x:V) (H:Hp):Prop:=match x with
 | .str _ => T = "str"
 | .int _ => T = "int"
 | .ref p => (T = "list" ∧ ∃ xs,iG K H p xs) ∨ (T = "tuple" ∧ ∃ o,K.lookup p = some o ∧ o.cls = .type "tuple" ∧ o.dict = none) ∨
   (T = "dict" ∧ ((∃ kvs,H p = some (.dK kvs)) ∨ ∃ kvs,H p = some (.dT kvs))) ∨ (T = "set" ∧ ∃ S n,H p = some (.set S n))
 | _ => False
theorem zM {af:List (Addr × Obj)} {σ:St} {H:Hp} {s:Shared} {T:String} {x:V} {v:Value} (I:aS X af σ H s) (r:bC x v) (ty:Me X.K T x H) :
  s.TypeIs v T ∧ ∀ a,v = .ref a → ∃ ob,s.heap.get? a = some ob ∧ ob.dict = none:=by
 cases x with
 | str z =>
  obtain ⟨t,rfl⟩:=r
  cases (show T = "str" from ty)
  exact ⟨typeIs_str s z t,fun _ e => nomatch e⟩
 | int i =>
  obtain ⟨t,rfl⟩:=r
  cases (show T = "int" from ty)
  exact ⟨typeIs_int s i t,fun _ e => nomatch e⟩
 | ref p =>
  cases r
  rcases ty with ⟨rfl,xs,hq⟩ | ⟨rfl,o,hk,hc,hd⟩ | ⟨rfl,hk⟩ | ⟨rfl,S,n,hk⟩
  ·obtain ⟨aO,_,pl,_⟩:=I.list hq
   refine ⟨pl.isList.typeIs,fun a e => ?_⟩
   cases e
   obtain ⟨o,n,e,c,hd,_⟩:=pl
   exact ⟨o,e,hd⟩
  ·refine ⟨⟨o,I.lM p o hk,hc⟩,fun a e => ?_⟩
   cases e
   exact ⟨o,I.lM _ o hk,hd⟩
  ·have z:∃ o,s.heap.get? p = some o ∧ o.ExactDict:=by
    rcases hk with ⟨kvs,hk⟩ | ⟨kvs,hk⟩
    ·obtain ⟨_,_,_,_,o,_,_,e,ex,_⟩:=I.b? p _ hk
     exact ⟨o,e,ex⟩
    ·obtain ⟨_,_,_,_,o,_,_,e,ex,_⟩:=I.b? p _ hk
     exact ⟨o,e,ex⟩
   obtain ⟨o,e,ex⟩:=z
   refine ⟨⟨o,e,ex.1⟩,fun a e2 => ?_⟩
   cases e2
   exact ⟨o,e,ex.2.1⟩
  ·obtain ⟨o,_,_,_,e,ex,_⟩:=I.b? p _ hk
   refine ⟨⟨o,e,ex.1⟩,fun a e2 => ?_⟩
   cases e2
   exact ⟨o,e,ex.2.1⟩
 | _ => exact False.elim ty
noncomputable def NJ (K:PySem.W.Frag) (T:String) (r:V → List V → Hp → VK → Prop) (to:TE):TE:=fun σ H Q => to σ H fun x H1 => Me K T x H1 ∧ r x [] H1 Q
noncomputable def RG (K:PySem.W.Frag) (T:String) (r:V → List V → Hp → VK → Prop) (to:TE) (t:TA):TE:=fun σ H Q => to σ H fun x H1 => Me K T x H1 ∧ t σ H1 fun xs H2 => r x xs H2 Q
variable {o e:Expr} {es:List Expr} {to:TE} {t:TA} {name:Str} {apos bZ:Pos} {T id:String} {r:V → List V → Hp → VK → Prop}
theorem Gg (pa:PlainAttrs T) (slot:Slot T name id) (CB:typeOf (.builtin id) = pure (.type "method_descriptor")) (hm:Qk X id r) (ho:PE X o to)
  (fM:attributeBase o name X.env (eval o X.env) = eval o X.env:=by rfl) (fN:(apos.endLine == bZ.line) = true:=by rfl):PE X (.Call (.Attribute o name apos) [] [] bZ) (NJ X.K T r to):=by
 intro af s σ H Q I h
 refine wpAny_Call_method0_late fM fN (cR (ho af s σ H _ I h) fun v s1 ⟨x,H1,I1,r1,ty,q1⟩ => ?_)
 obtain ⟨h1,h2⟩:=zM I1 r1 ty
 exact ⟨T,id,pa,slot,CB,h1,h2,Calls.callWith_builtin rfl (PySem.evalArgs_none (hm af s1 σ H1 x [] v [] Q I1 r1 .nil q1))⟩
theorem J3 (pa:PlainAttrs T) (slot:Slot T name id) (CB:typeOf (.builtin id) = pure (.type "method_descriptor")) (hm:Qk X id r) (ho:PE X o to) (ha:PA X (e :: es) t)
  (fM:attributeBase o name X.env (eval o X.env) = eval o X.env:=by rfl)
  (qN:((backTo bZ (starEach (e :: es) X.env)).all (fun x => !x.1) && (backToKw bZ (keywordEach [] X.env)).all (fun x => x.1.isSome)
   && decide ((e :: es).length + ([]:List Keyword).length + (if ([]:List Keyword).isEmpty then 0 else 1) < 30)) = true:=by rfl)
  (fN:(apos.endLine == bZ.line) = true:=by rfl) (hs:starEach (e :: es) X.env = (false,eval e X.env) :: starEach es X.env:=by rfl) (g?:(backTo bZ (starEach es X.env)).any (·.1) = false:=by rfl) :
  PE X (.Call (.Attribute o name apos) (e :: es) [] bZ) (RG X.K T r to t):=by
 intro af s σ H Q I h
 refine wpAny_Call_method_late fM qN fN rfl (cR (ho af s σ H _ I h) fun v s1 ⟨x,H1,I1,r1,ty,q1⟩ => ?_)
 obtain ⟨h1,h2⟩:=zM I1 r1 ty
 refine ⟨T,id,pa,slot,CB,h1,h2,?_⟩
 have hA:=ha bZ af s1 σ H1 _ I1 q1
 rw [hs] at hA ⊢
 refine Calls.callWith_builtin (by show (false || (backTo bZ (starEach es X.env)).any (·.1)) = false; rw [g?] <;> rfl) (Calls.evalArgs_plain ?_)
 exact cR hA fun us s2 ⟨vs,H2,I2,r2,q2⟩ => hm af s2 σ H2 x vs v us Q I2 r1 r2 q2
end
end L2
namespace L2
open PySem PySem.Spec PyProof.Rows
noncomputable def sW (X:Cx) (id:String) (r:V → List V → Hp → VK → Prop):Prop :=
 ∀ (af:List (Addr × Obj)) (s:Shared) (σ:St) (H:Hp) (x:V) (xs:List V) (v:Value) (us:List Value) (Q:VK),aS X af σ H s → bC x v → bo xs us → r x xs H Q →
  wpAny (model X.prog X.w) X.A (call (.builtin id) (v :: us)) (EP X af σ Q) X.xe s
theorem bo.one {x:V} {us:List Value} (p:bo [x] us):∃ u,us = [u] ∧ bC x u:=by
 cases p with
 | cons r t => cases t; exact ⟨_,rfl,r⟩
theorem bo.two {x y:V} {us:List Value} (p:bo [x,y] us):∃ u v,us = [u,v] ∧ bC x u ∧ bC y v:=by
 cases p with
 | cons r t =>
  obtain ⟨v,z,q⟩:=bo.one t
  rw [z]
  exact ⟨_,v,rfl,r,q⟩
theorem bo.zero:∀ {us:List Value},bo [] us → us = []
 | _,.nil => rfl
theorem bo.dropLast {xs:List V} {us:List Value} (h:bo xs us):bo xs.dropLast us.dropLast:=by
 induction h with
 | nil => exact .nil
 | cons r t ih =>
  cases t with
  | nil => exact .nil
  | cons q t' => exact .cons r ih
theorem bo.rep {xs:List V} {us:List Value} (h:bo xs us):∀ k:Nat,bo (List.replicate k xs).flatten (List.replicate k us).flatten
 | 0 => .nil
 | k + 1 => by
  rw [List.replicate_succ,List.replicate_succ,List.flatten_cons,List.flatten_cons]
  exact bo.append h (bo.rep h k)
theorem u9 {α:Type} (l:List α):l.eraseIdx (l.length - 1) = l.dropLast:=by
 induction l with
 | nil => rfl
 | cons a r ih =>
  cases r with
  | nil => rfl
  | cons b r =>
   have e:(a :: b :: r).length - 1 = ((b :: r).length - 1) + 1:=by
    have h1:(a :: b :: r).length = r.length + 2:=rfl
    have h2:(b :: r).length = r.length + 1:=rfl
    lia
   rw [e,List.eraseIdx_cons_succ,ih]
   all_goals rfl
theorem foldl_rep (aO:List Value):∀ (k:Nat) (acc:List Value),
  List.foldl (fun x1 x2 => x1 ++ x2) acc.toArray (List.replicate k aO.toArray) = (acc ++ (List.replicate k aO).flatten).toArray
 | 0,acc => by simp
 | k + 1,acc => by
  have e:acc.toArray ++ aO.toArray = (acc ++ aO).toArray:=by simp
  have e2:(acc ++ aO) ++ (List.replicate k aO).flatten = acc ++ (List.replicate (k + 1) aO).flatten:=by
   rw [List.replicate_succ,List.flatten_cons,List.append_assoc]
  rw [← e2,← foldl_rep aO k (acc ++ aO),← e,List.replicate_succ,List.foldl_cons]
section
variable {X:Cx} {af:List (Addr × Obj)} {σ:St} {H:Hp} {s:Shared} {l b:Addr} {xs ys zs:List V}
theorem aS.J4 {aO its':List Value} {n:Nat} {f:Array Value → Array Value} {t':Nat} (I:aS X af σ H s) (hH:H l = some (.lst xs))
  (e:s.heap.get? l = some { cls:=.type "list",data:=.seq aO.toArray n }) (hf:f aO.toArray = its'.toArray) (hv:bo ys its') (hz:ys.length ≤ sizeLine) :
  aS X af σ (upd H l (.lst ys)) { s with heap:=s.heap.update l (Obj.mapSeq f),toks:=t' }:=by
 have q:=PySem.IsL.update e f
 rw [hf] at q
 refine I.write (x:=l) (e:=l) (by rw [hH]; exact trivial) (.inl rfl) (fun b' u hb hu => (Heap.get?_update_other s.heap (Obj.mapSeq f) (Ne.symm hb)).trans hu) ⟨_,q⟩ ?_
 exact ⟨hz,its',_,hv,q⟩
theorem aS.J5 {aO:List Value} {t':Nat} (I:aS X af σ H s) (hv:bo ys aO) (hz:ys.length ≤ sizeLine) :
  aS X af σ (upd H s.heap.objs.size (.lst ys)) { s with heap:=s.heap.push { cls:=.type "list",data:=.seq aO.toArray },toks:=t' } :=
 I.laid (fun _ _ q => Heap.get?_push_of_some _ q) (Nat.le_refl _) ⟨hz,aO,0,hv,Heap.get?_push_size _ rfl⟩
theorem aS.fresh (I:aS X af σ H s):H s.heap.objs.size = none:=I.b?.fresh (Nat.le_refl _)
theorem aS.u_ (I:aS X af σ H s) (hH:H l = some (.lst xs)):xs.length ≤ sizeLine ∧ ∃ (aO:List Value) (n:Nat),bo xs aO ∧ xs.length = aO.length ∧ s.heap.get? l = some { cls:=.type "list",data:=.seq aO.toArray n }:=by
 obtain ⟨z,aO,n,r,e⟩:=I.b? l _ hH
 exact ⟨z,aO,n,r,r.length,e⟩
theorem zN {n:Nat} (h:n ≤ sizeLine):Builtin.List.listTooLong n = false:=by
 unfold Builtin.List.listTooLong
 exact decide_eq_false (by lia)
end
section
variable {X:Cx}
noncomputable def CC:V → List V → Hp → VK → Prop:=fun x vs H Q => ∃ l xs y,x = .ref l ∧ vs = [y] ∧ H l = some (.lst xs) ∧ xs.length < sizeLine ∧ Q .dA (upd H l (.lst (xs ++ [y])))
theorem xP:sW X "list.append" CC:=by
 intro af s σ H x vs v us Q I rx rv h
 obtain ⟨l,xs,y,rfl,rfl,hH,hz,q⟩:=h
 cases rx
 obtain ⟨u,rfl,ru⟩:=rv.one
 obtain ⟨z,aO,n,r,hl,e⟩:=I.u_ hH
 refine call_meets F.slot_list_append ⟨_,e,rfl⟩ F.entry_list_append (F.args_list_append_2 _ _) (PySem.list_append l aO.toArray n u (by rw [List.size_toArray]; lia)) ⟨e,?_⟩
 refine ⟨.dA,_,I.J4 (its':=aO ++ [u]) hH e (by simp) (r.append (.cons ru .nil)) ?_,rfl,q⟩
 rw [List.length_append,List.length_singleton]
 lia
noncomputable def Mf:V → List V → Hp → VK → Prop:=fun x vs H Q => ∃ l b xs zs,x = .ref l ∧ vs = [.ref b] ∧ H l = some (.lst xs) ∧ H b = some (.lst zs) ∧ xs.length + zs.length ≤ sizeLine ∧ Q .dA (upd H l (.lst (xs ++ zs)))
noncomputable def NK:V → List V → Hp → VK → Prop:=fun x vs H Q => ∃ l xs y,x = .ref l ∧ vs = [] ∧ H l = some (.lst xs) ∧ xs[xs.length - 1]? = some y ∧ Q y (upd H l (.lst xs.dropLast))
theorem Gh:sW X "list.pop" NK:=by
 intro af s σ H x vs v us Q I rx rv h
 obtain ⟨l,xs,y,rfl,rfl,hH,hy,q⟩:=h
 cases rx
 have RH:=rv.zero
 subst RH
 obtain ⟨z,aO,n,r,hl,e⟩:=I.u_ hH
 obtain ⟨u,hu,ru⟩:=r.get hy
 have RI:aO.toArray[aO.toArray.size - 1]? = some u:=by
  show aO.toArray[aO.length - 1]? = some u
  rw [← Array.getElem?_toList,← hl]
  exact hu
 refine call_meets F.slot_list_pop ⟨_,e,rfl⟩ F.entry_list_pop (F.args_list_pop_1 _) (MeetsSeq.list_pop_last l aO.toArray n u RI (by rw [List.size_toArray]; lia)) ⟨e,?_⟩
 refine ⟨y,_,I.J4 (its':=aO.dropLast) hH e ?_ r.dropLast ?_,ru,q⟩
 ·show aO.toArray.eraseIdxIfInBounds (aO.toArray.size - 1) = aO.dropLast.toArray
  rw [List.size_toArray,List.eraseIdxIfInBounds_toArray,u9]
 ·rw [List.length_dropLast]
  lia
noncomputable def NL:R2:=fun x y H Q => ∃ l b xs zs,x = .ref l ∧ y = .ref b ∧ H l = some (.lst xs) ∧ H b = some (.lst zs) ∧ xs.length + zs.length ≤ sizeLine ∧ ∀ p,H p = none → Q (.ref p) (upd H p (.lst (xs ++ zs)))
theorem Gi:d5 X (binaryOp .Add) NL:=by
 intro af s σ H x y v u Q I rx ry h
 obtain ⟨l,b,xs,zs,rfl,rfl,hH,hB,hz,q⟩:=h
 cases rx
 cases ry
 obtain ⟨z,aO,n,r,hl,e⟩:=I.u_ hH
 obtain ⟨z2,d6,n2,r2,km,e2⟩:=I.u_ hB
 refine PySem.P.add_list e e2 ?_ (by rw [List.size_toArray,List.size_toArray]; lia)
 have ea:aO.toArray ++ d6.toArray = (aO ++ d6).toArray:=by simp
 rw [ea]
 exact ⟨.ref _,_,I.J5 (t':=s.toks) (r.append r2) (by rw [List.length_append]; lia),rfl,q _ I.fresh⟩
noncomputable def NM:R2:=fun x y H Q => ∃ l k xs,x = .ref l ∧ y = .int k ∧ H l = some (.lst xs) ∧ -(2 ^ 63) ≤ k ∧ k < 2 ^ 63 ∧ xs.length * k.toNat ≤ sizeLine ∧
 ∀ p,H p = none → Q (.ref p) (upd H p (.lst (List.replicate k.toNat xs).flatten))
theorem len_rep {α:Type} (xs:List α) (k:Nat):(List.replicate k xs).flatten.length = k * xs.length:=by
 induction k with
 | zero => simp
 | succ k ih => rw [List.replicate_succ,List.flatten_cons,List.length_append,ih,Nat.succ_mul,Nat.add_comm]
theorem Gj:d5 X (binaryOp .Mult) NM:=by
 intro af s σ H x y v u Q I rx ry h
 obtain ⟨l,k,xs,rfl,rfl,hH,h1,h2,hz,q⟩:=h
 cases rx
 obtain ⟨t,rfl⟩:=ry
 obtain ⟨z,aO,n,r,hl,e⟩:=I.u_ hH
 have hlen:aO.toArray.size * k.toNat ≤ sizeLine:=by rw [List.size_toArray,← hl]; exact hz
 have iN:¬ aO.toArray.size * k.toNat > (2 ^ 63 - 1) / 8:=by
  have:(sizeLine:Nat) ≤ (2 ^ 63 - 1) / 8:=by decide
  lia
 have NN:¬ (!Builtin.List.listFitsIndex k) = true:=by
  rw [fitsIndex_both h1 h2]
  exact Bool.false_ne_true
 have J7:¬ Builtin.List.listTooLong (aO.toArray.size * k.toNat) = true:=by
  rw [zN hlen]
  exact Bool.false_ne_true
 have NO:List.foldl (fun x1 x2 => x1 ++ x2) #[] (List.replicate (if aO.toArray.isEmpty = true then 0 else k.toNat) aO.toArray) = (List.replicate k.toNat aO).flatten.toArray:=by
  have f0:∀ m:Nat,List.foldl (fun x1 x2 => x1 ++ x2) #[] (List.replicate m aO.toArray) = (List.replicate m aO).flatten.toArray:=fun m => by
   have:=foldl_rep aO m []
   rw [List.nil_append] at this
   exact this
  rw [f0]
  cases aO with
  | nil => simp
  | cons a r' => rw [if_neg (by simp)]
 refine wpAny_binaryOp_repeat_ref (T:="list") (U:="int") (by decide) ⟨_,e,rfl⟩ (fun s' => typeIs_int s' k t) noFill_list_mul F.fills_int_mul F.slot_int_rmul repeat_list F.slot_int_index.lookup
  (call_meets F.slot_int_rmul (typeIs_int s k t) F.entry_int_rmul (F.args_int_rmul_2 _ _) (int___rmul___int_list k t l aO.toArray n)
   ⟨e,rfl,⟨_,e,rfl⟩,call_meets F.slot_list_mul ⟨_,e,rfl⟩ F.entry_list_mul (F.args_list_mul_2 _ _) (AutoListH.list___mul___list_int_3 l aO.toArray n k t NN iN J7) ⟨e,?_⟩⟩)
 rw [NO]
 exact ⟨.ref _,_,I.J5 (t':=s.toks) (r.rep k.toNat) (by rw [len_rep,Nat.mul_comm]; exact hz),rfl,q _ I.fresh⟩
end
section
variable {prog:Program} {w:World} {A:Around} {E:Value → Shared → Prop} {s:Shared}
set_option maxRecDepth 100000 in
end
end L2
namespace Qm
open PySem PySem.W PySem.Calls PyProof.Rows
theorem mj {P:Params} {h:Heap}:∀ (ns:List Int) (vs:List Value),WellAll P h vs (ns.map WData.int) → IntsAre vs ns:=by
 intro ns
 induction ns with
 | nil =>
  intro vs w
  rw [List.map_nil] at w
  cases w
  exact .nil
 | cons n ns ih =>
  intro vs w
  rw [List.map_cons] at w
  cases w with
  | cons a b =>
   cases a
   exact .cons _ _ (ih _ b)
theorem xQ {l:OpenLaw} {n:Nat} (hn:l.most = some n) {P:Params} {h:Heap} {args:List WData} {vals:List Value}
  (CD:l.row.toRowW.claim.pre args = true) (NP:WellAll P h vals args) :
  ∃ a vs ns,vals = [Value.ref a] ∧ args = [WData.list (ns.map WData.int)] ∧ h.get? a = some { cls:=.type "list",data:=.seq vs.toArray } ∧ IntsAre vs ns ∧ ns.length ≤ n:=by
 have RJ:WShape.hasAll [] args [.list .int] = true:=(pre_splitW CD).1
 have hc:l.pre.holds [] { args:=args } = true:=(pre_splitW CD).2
 obtain ⟨d,r,rfl,h1,h2⟩:=hasAllW_cons RJ
 obtain rfl:=hasAllW_nil h2
 obtain ⟨xs,rfl,h3⟩:=hasW_list h1
 obtain ⟨ns,rfl⟩:=items_int h3
 have hlen:ns.length ≤ n:=by
  unfold OpenLaw.pre at hc
  have h4:(WTm.not (.lt (.lit (.int (n:Int))) (.len (.arg 0)))).holds [] { args:=[.list (ns.map .int)] } = true:=by
   have h4:=(holds_andW hc).1
   rw [hn] at h4
   exact h4
  have h5:=condW_of h4 (w_not (w_lt w_lit (w_len_list (w_arg rfl))))
  rw [List.length_map] at h5
  refine Nat.le_of_not_lt fun q => ?_
  have q':(n:Int) < ((ns.length:Nat):Int):=by lia
  first
   | (rw [decide_eq_true q'] at h5; exact absurd h5 (by decide))
   | (simp at h5; lia)
 cases NP with
 | cons w1 w2 =>
  cases w2
  cases w1 with
  | list ho NQ => exact ⟨_,_,ns,rfl,rfl,ho,mj ns _ NQ,hlen⟩
theorem xR (l:OpenLaw) (args:List WData):l.row.toRowW.claim.post args (.bool true) args = true :=
 postW_of (r:=l.row.toRowW) (X:=(true == true))
  (show WShape.has [] (.bool true) .bool = true by first | rfl | decide | simp [WShape.has,WShape.arms,WShape.armsAll])
  (show (WTm.eq .res (.lit (.bool true))).value [] { args:=args,res:=some (.bool true),after:=args } = some (.bool (true == true)) from w_eq_bool (w_res rfl) w_lit) rfl
theorem sX {l:OpenLaw} {n:Nat} {q:Program} {loose:List Str} {XP:(Str → Option Value) → Heap → Prop} {YP:World → Heap → Prop} {d:DefRec}
  (hn:l.most = some n) (J8:d.params.defaults = [])
  (call:∀ (w:World) (s₀ s₁:Shared) (mg mb:Str → Option Value) (fa:Addr) (o:Obj) (pm cd doc:Value) (a:Addr) (vs:List Value) (ns:List Int),
   Ground q loose [] XP w s₀ mg mb s₁.heap → YP w s₁.heap →
   s₁.heap.get? fa = some o → o.data = .func (docDef d.name d.params d.body d.scope pm cd doc) → s₁.heap.CodeRec cd d.name → mg d.name = some (.ref fa) →
   s₁.heap.get? a = some { cls:=.type "list",data:=.seq vs.toArray } → IntsAre vs ns → ns.length ≤ n → s₁.gens = #[] →
   codeAny (model l.prog w) callerA (.call (.ref fa) ⟨[.ref a],[]⟩) (fun r s' => r = .ok (.ret (.bool true)) ∧ OldK s₁.heap s'.heap ∧ s'.os = s₁.os ∧ AllBare s'.gens) s₁) :
  WalkO q loose XP YP l.row.toRowW d [] (fun f vs => PySem.call f vs):=by
 intro w s₀ s₁ mg mb G Y fa o pm cd doc dV kV ho hd nr hD J9 hg args vals as CD RK T1 NP T2
 obtain rfl:dV = .none:=Dflts.none hD J8
 obtain rfl:kV = .none:=Dflts.noKw hD
 obtain ⟨a,vs,ns,rfl,rfl,Gk,hints,hlen⟩:=xQ hn CD NP
 refine enter_call (codeAny_mono (call w s₀ s₁ mg mb fa o pm cd doc a vs ns G Y ho (fd_plain hd) nr J9 Gk hints hlen hg) fun r s' hq => ?_)
 obtain ⟨rfl,h2,h3,h4⟩:=hq
 exact ⟨.inl ⟨.bool true,.bool true,[],rfl,fun _ => rfl,.bool true,xR l _,fun _ => ⟨List.Pairwise.nil,fun _ hm => (nomatch hm)⟩⟩,h2,h3,h4⟩
end Qm
namespace L2
open PySem PySem.Spec PyProof.Rows
theorem pW:∀ {vs:List Value} {ns:List Int},IntsAre vs ns → bo (ns.map V.int) vs
 | _,_,.nil => .nil
 | _,_,.cons n t h => .cons ⟨t,rfl⟩ (pW h)
noncomputable def CF (H:Hp):Prop:=∀ b,H b = none ∨ ∃ o xs,H b = some (.jB o (.lst xs))
theorem zO {P:Program} {w:World} {K:PySem.W.Frag} {mg mb:Str → Option Value} {CX:uO} {k:Nat} {fa a:Addr} {fd:FuncData} {x:Str} {sp:Sp} {s₁:Shared} {vs:List Value} {ns:List Int}
  (KX:K.In s₁.heap) (Qn:s₁.heap.Ns mainGlobals mg) (hb:s₁.heap.Ns builtinsNs mb) (RL:∀ x:Str,x ≠ "__name__" → mb x = bootBuiltins x) (NR:s₁.heap.NoLimit) (hg:s₁.gens = #[])
  (ha:s₁.heap.get? a = some { cls:=.type "list",data:=.seq vs.toArray }) (hi:IntsAre vs ns) (hl:ns.length ≤ sizeLine) (hr:eZ k callerA)
  (F:∀ base:Heap,K.In base → base.Ns mainGlobals mg → iL P w K mg base CX k fa fd [x] sp) (J_:∀ (s:Shared) (u:Value),BindsTo s fd ⟨[u],[]⟩ [(x,u)])
  (EC:∀ H:Hp,CF H → iG K H a (ns.map V.int) → sp [.ref a] H (fun v _ => v = .bl true) fun _ _ _ => False)
  (NT:∀ H e s',CX [] H s₁ (fun _ _ _ => False) e s' → False) :
  codeAny (model P w) callerA (.call (.ref fa) ⟨[.ref a],[]⟩) (fun r s' => r = .ok (.ret (.bool true)) ∧ OldK s₁.heap s'.heap ∧ s'.os = s₁.os ∧ AllBare s'.gens) s₁:=by
 have rv:=pW hi
 have NU:=hi.length
 -- from an abstract heap in Qo nothing but xy Gm may be tracked
 have core:∀ H:Hp,CF H → iG K H a (ns.map V.int) → gZ P w H s₁.heap → (∀ b,H b ≠ none → b = a) → (H a ≠ none → K.lookup a = none) →
   codeAny (model P w) callerA (.call (.ref fa) ⟨[.ref a],[]⟩) (fun r s' => r = .ok (.ret (.bool true)) ∧ OldK s₁.heap s'.heap ∧ s'.os = s₁.os ∧ AllBare s'.gens) s₁:=by
  intro H hO hS b? hA hK
  have wx:∀ {b:Addr} {o:Obj},s₁.heap.get? b = some o → H b = none → (qu s₁.heap H).get? b = some o:=fun e n => zr e n
  have JU:∀ {b:Addr} {o:Obj} {es:Array DictEntry} {ep:Nat},s₁.heap.get? b = some o → o.data = .dict es ep → H b = none:=fun {b o es ep} e d => by
   cases q:H b with
   | none => rfl
   | some u =>
    have e':b = a:=hA b (by rw [q]; simp)
    subst e'
    rw [ha] at e; cases e
    have d':Data.seq vs.toArray _ = Data.dict es ep:=d
    cases d'
  have Mg:∀ {b:Addr} {m:Str → Option Value},s₁.heap.Ns b m → (qu s₁.heap H).Ns b m:=fun {b m} ⟨o,es,ep,e,d,r⟩ => ⟨o,es,ep,wx e (JU e d),d,r⟩
  have Qp:K.In (qu s₁.heap H):=fun b o e => wx (KX b o e) (by
   cases q:H b with
   | none => rfl
   | some u =>
    have e':b = a:=hA b (by rw [q]; simp)
    subst e'
    rw [hK (by rw [q]; simp)] at e; cases e)
  have hM:Mod K mg (qu s₁.heap H):=⟨Qp,Mg Qn,⟨mb,Mg hb,RL⟩,let ⟨mc,h1,h2⟩:=NR; ⟨mc,Mg h1,h2⟩⟩
  have e0:u4 P w K mg (qu s₁.heap H) callerA [] s₁ H:=⟨rfl,hM,fun b o e => B7 e,Nat.le_of_eq (xC _ _),trivial,fun b hb => absurd (show b ∈ ([]:List Addr) from hb) (by simp),b?,.of_eq hg⟩
  refine codeAny_mono ((F _ Qp (Mg Qn)).run callerA [] s₁ H ⟨[.ref a],[]⟩ [.ref a] [.ref a] _ _ hr e0 (J_ s₁ (.ref a)) (.cons rfl .nil) (EC H hO hS)) fun r s' h => ?_
  cases r with
  | error e => exact (NT H e s' h).elim
  | ok fl =>
   cases fl with
   | next => exact False.elim h
   | brk => exact False.elim h
   | cont => exact False.elim h
   | ret u =>
    obtain ⟨v,H',os,bare,un,NV,r',q⟩:=h
    have q':v = .bl true:=q
    subst q'
    obtain rfl:u = Value.bool true:=r'
    refine ⟨rfl,OldK.of_keep fun b o e => ?_,os,bare⟩
    cases q:H b with
    | none => exact un.keep b o e q (by intro z; exact absurd (show b ∈ ([]:List Addr) from z) (by simp)) (by simp)
    | some u =>
     rcases hO b with z | ⟨ob,xs,z⟩
     ·rw [q] at z; cases z
     ·have z2:=un.jn b ob _ z
      obtain ⟨e1,_⟩:=b? b _ z
      obtain ⟨e2,_⟩:=NV b _ z2
      rw [e] at e1; cases e1
      exact e2
 cases hk:K.lookup a with
 | some o =>
  -- xy Gm is one of xy J! own objects
  have e:=KX a o hk
  rw [ha] at e
  cases e
  refine core (fun _ => none) (fun _ => .inl rfl) (.inr ⟨_,vs.toArray,_,hk,rfl,rfl,rfl,by rw [List.size_toArray,NU]; exact hl,by simpa using rv⟩) (fun b u z => by have z':(none:Option HO) = some u:=z; cases z') (fun b z => absurd rfl z) fun z => absurd rfl z
 | none =>
  refine core (fun b => if b = a then some (.jB { cls:=.type "list",data:=.seq vs.toArray } (.lst (ns.map V.int))) else none) (fun b => ?_) (.inl (.inr ⟨{ cls:=.type "list",data:=.seq vs.toArray },if_pos rfl⟩)) (fun b u z => ?_) (fun b z => ?_) fun _ => hk
  ·by_cases hb:b = a
   ·exact .inr ⟨_,_,if_pos hb⟩
   ·exact .inl (if_neg hb)
  ·by_cases hb:b = a
   ·have z':=(if_pos hb).symm.trans z
    cases z'
    subst hb
    exact ⟨ha,by rw [List.length_map]; exact hl,vs,_,rv,ha⟩
   ·have z':=(if_neg hb).symm.trans z
    cases z'
  ·by_cases hb:b = a
   ·exact hb
   ·exact absurd (if_neg hb) z
end L2
namespace L2
open PySem PySem.Spec PyProof.Rows
theorem CG {l:PySem.W.OpenLaw} {n k:Nat} {q:Program} {loose:List Str} {XP:(Str → Option Value) → Heap → Prop} {YP:World → Heap → Prop} {d:DefRec} {K:Params → PySem.W.Frag} {CX:World → uO} {sp:World → Sp} {x:Str}
  (hn:l.most = some n) (RM:n ≤ sizeLine) (J8:d.params.defaults = []) (hr:eZ k callerA)
  (hY:∀ (w:World) (h:Heap),YP w h → (K w.params).In h)
  (F:∀ (w:World) (mg:Str → Option Value) (fa:Addr) (h:Heap),(K w.params).In h → h.Ns mainGlobals mg → mg d.name = some (.ref fa) →
   ∃ fd:FuncData,(∀ (s:Shared) (u:Value),BindsTo s fd ⟨[u],[]⟩ [(x,u)]) ∧
    ∀ base:Heap,(K w.params).In base → base.Ns mainGlobals mg → iL l.prog w (K w.params) mg base (CX w) k fa fd [x] (sp w))
  (EC:∀ (w:World) (H:Hp) (a:Addr) (ns:List Int),ns.length ≤ n → CF H → iG (K w.params) H a (ns.map V.int) → sp w [.ref a] H (fun v _ => v = .bl true) fun _ _ _ => False)
  (NT:∀ (w:World) (H:Hp) (s:Shared) (e:Value) (s':Shared),CX w [] H s (fun _ _ _ => False) e s' → False) :
  PySem.W.WalkO q loose XP YP l.row.toRowW d [] (fun f vs => PySem.call f vs):=by
 refine Qm.sX hn J8 fun w s₀ s₁ mg mb fa o pm cd doc a vs ns G Y ho hd nr J9 Gk hints hlen hg => ?_
 have KX:=hY w _ Y
 obtain ⟨fd,hb,hF⟩:=F w mg fa _ KX G.T.g J9
 exact zO KX G.T.g G.T.b G.T.builtins G.T.nolimit hg Gk hints (Nat.le_trans hlen RM) hr hF hb (fun H hO hS => EC w H a ns hlen hO hS) fun H e s' => NT w H s₁ e s'
end L2
namespace L2
open PySem PySem.Spec PyProof.Rows
noncomputable def ff (s:Stmt):Arguments:=match s with
 | .FunctionDef _ a _ _ _ _ _ _ _ _ => a
 | _ => { posonlyargs:=[],args:=[],vararg:=none,kwonlyargs:=[],kw_defaults:=[],kwarg:=none,defaults:=[] }
noncomputable def dj (s:Stmt):List Stmt:=match s with
 | .FunctionDef _ _ b _ _ _ _ _ _ _ => b
 | _ => []
noncomputable def a_ (s:Stmt):Scope:=match s with
 | .FunctionDef _ _ _ _ _ _ sc _ _ _ => sc
 | _ => { kind:=.function,names:=[],isGenerator:=false,isCoroutine:=false }
noncomputable abbrev E0:XK:=fun _ _ _ => False
structure B4 (K:PySem.W.Frag) (x qual:Str) (st:Stmt) (f:Addr) (fd:FuncData):Prop where
 ex:∃ (oc:Value) (od:Option Addr) (kV doc pm:Value) (an:Option Addr) (dW ct:Value) (xK:Array (Option Value)),
  fd = PySem.W.fnOf x qual (ff st) (dj st) (a_ st) .none kV doc pm an dW ct ∧ K.lookup f = some ⟨oc,od,.func fd,xK⟩ ∧ PySem.W.codeIn K dW qual = true
 kp:PySem.W.keepIn K (.ref f) = true
section
variable {P:Program} {w:World} {K:PySem.W.Frag} {mg:Str → Option Value} {base:Heap}
theorem B4.binds {x qual:Str} {st:Stmt} {f:Addr} {fd:FuncData} {ps:List Str} (F:B4 K x qual st f fd)
  (h:∀ (kV doc pm:Value) (an:Option Addr) (dW ct:Value) (us:List Value),us.length = ps.length → bindArgs (PySem.W.fnOf x qual (ff st) (dj st) (a_ st) .none kV doc pm an dW ct) ⟨us,[]⟩ = pure (ps.zip us)):Binds K fd ps []:=by
 obtain ⟨oc,od,kV,doc,pm,an,dW,ct,xK,rfl,lk,nr⟩:=F.ex
 exact .all (h kV doc pm an dW ct)
theorem zP {x qual:Str} {st:Stmt} {f:Addr} {oc:Value} {od an:Option Addr} {xK:Array (Option Value)} {kV doc pm dW ct:Value} (l:K.lookup f = some ⟨oc,od,.func (PySem.W.fnOf x qual (ff st) (dj st) (a_ st) .none kV doc pm an dW ct),xK⟩)
  (c:PySem.W.codeIn K dW qual = true) (k:PySem.W.keepIn K (.ref f) = true):B4 K x qual st f (PySem.W.fnOf x qual (ff st) (dj st) (a_ st) .none kV doc pm an dW ct):=⟨⟨oc,od,kV,doc,pm,an,dW,ct,xK,rfl,l,c⟩,k⟩
end
noncomputable def kz (H H':Hp):Prop:=∀ b o,H b = some o → H' b = some o
theorem kz.refl (H:Hp):kz H H:=fun _ _ h => h
end L2
namespace L2
open PySem PySem.Spec PyProof.Rows
section
variable {κ:Type} [DecidableEq κ]
noncomputable def hJ (kvs:List (κ × V)) (k:κ):Option V:=(kvs.find? fun kv => decide (kv.1 = k)).map (·.2)
noncomputable def putK (kvs:List (κ × V)) (k:κ) (v:V):List (κ × V) :=
 if (kvs.any fun kv => decide (kv.1 = k)) = true then kvs.map (fun kv => if kv.1 = k then (kv.1,v) else kv) else kvs ++ [(k,v)]
theorem nE {p:κ × V} {r:List (κ × V)} {k:κ} (e:p.1 = k):hJ (p :: r) k = some p.2:=by simp [hJ,List.find?_cons,e]
theorem nF {p:κ × V} {r:List (κ × V)} {k:κ} (e:¬ p.1 = k):hJ (p :: r) k = hJ r k:=by simp [hJ,List.find?_cons,e]
theorem sY (k:κ):∀ kvs:List (κ × V),(kvs.any fun kv => decide (kv.1 = k)) = (hJ kvs k).isSome
 | [] => rfl
 | p :: r => by
  rw [List.any_cons]
  by_cases e:p.1 = k
  ·simp only [nE e,decide_eq_true e,Bool.true_or,Option.isSome_some]
  ·rw [nF e,decide_eq_false e,Bool.false_or]; exact sY k r
theorem lO (kvs:List (κ × V)) (k:κ) (v:V):(putK kvs k v).length ≤ kvs.length + 1:=by
 unfold putK
 split
 ·rw [List.length_map]; lia
 ·rw [List.length_append,List.length_cons,List.length_nil]; lia
theorem nk.xS {o:Option V} {u:Option Value} (r:nk o u):o.isSome = u.isSome:=by
 cases o with
 | none => cases u with
  | none => rfl
  | some _ => exact (show False from r).elim
 | some _ => cases u with
  | none => exact (show False from r).elim
  | some _ => rfl
theorem KV.val {kvs:List (κ × V)} {vs:List (κ × Value)} (r:KV kvs vs) (k:κ):nk (hJ kvs k) (valueAt vs k):=by
 unfold KV at r
 induction r with
 | nil => exact True.intro
 | @cons p q ps qs h t ih =>
  obtain ⟨h1,h2⟩:=h
  by_cases e:p.1 = k
  ·have e':q.1 = k:=h1.symm.trans e
   have b:valueAt (q :: qs) k = some q.2:=by simp [valueAt,List.find?_cons,e']
   rw [nE e,b]; exact h2
  ·have e':¬ q.1 = k:=fun z => e (h1.trans z)
   have b:valueAt (q :: qs) k = valueAt qs k:=by simp [valueAt,List.find?_cons,e']
   rw [nF e,b]; exact ih
theorem KV.any {kvs:List (κ × V)} {vs:List (κ × Value)} (r:KV kvs vs) (k:κ):(kvs.any fun kv => decide (kv.1 = k)) = vs.any fun kv => decide (kv.1 = k):=by
 unfold KV at r
 induction r with
 | nil => rfl
 | cons h t ih => rw [List.any_cons,List.any_cons,ih,h.1]
theorem KV.u! {kvs:List (κ × V)} {vs:List (κ × Value)} (r:KV kvs vs) (k:κ) {y:V} {u:Value} (ry:bC y u) :
  KV (kvs.map fun kv => if kv.1 = k then (kv.1,y) else kv) (vs.map fun kv => if kv.1 = k then (kv.1,u) else kv):=by
 unfold KV at r ⊢
 induction r with
 | nil => exact .nil
 | @cons p q ps qs h t ih =>
  rw [List.map_cons,List.map_cons]
  refine .cons ?_ ih
  obtain ⟨h1,h2⟩:=h
  by_cases e:p.1 = k
  ·rw [if_pos e,if_pos (h1.symm.trans e)]; exact ⟨h1,ry⟩
  ·rw [if_neg e,if_neg (fun z => e (h1.trans z))]; exact ⟨h1,h2⟩
theorem KV.put {kvs:List (κ × V)} {vs:List (κ × Value)} (r:KV kvs vs) (k:κ) {y:V} {u:Value} (ry:bC y u):KV (putK kvs k y) (stored vs k u):=by
 unfold putK stored
 rw [r.any k]
 by_cases e:(vs.any fun kv => decide (kv.1 = k)) = true
 ·rw [if_pos e,if_pos e]; exact r.u! k ry
 ·rw [if_neg e,if_neg e]; exact Paired.snoc r ⟨rfl,ry⟩
theorem KV.length {kvs:List (κ × V)} {vs:List (κ × Value)} (r:KV kvs vs):kvs.length = vs.length:=Paired.length r
end
theorem zQ {P:Program} {w:World} {k:dh} {u:Value} (r:bC (kV k) u):(dD P w).is k u = true:=by
 cases k with
 | inl i => obtain ⟨t,e⟩:=(show ∃ t,u = Value.int i t from r); subst e; exact sL P w i t
 | inr x => obtain ⟨t,e⟩:=(show ∃ t,u = Value.str x t from r); subst e; exact sM P w x t
theorem pX {P:Program} {w:World}:∀ {ks:List dh} {us:List Value},bo (ks.map kV) us → ItemsAre (dD P w) ks us
 | [],_,r => by rw [List.map_nil] at r; cases r; exact .nil
 | k :: ks,_,r => by
  rw [List.map_cons] at r
  cases r with
  | cons h t => exact .cons (zQ h) (pX t)
noncomputable abbrev KT (H:Hp):List (List dh × V) → List (List dh × Addr × Value) → Prop:=Paired fun p q => p.1 = q.1 ∧ H q.2.1 = some (.tup (p.1.map kV)) ∧ bC p.2 q.2.2
theorem KT.val {H:Hp} {kvs:List (List dh × V)} {xs:List (List dh × Addr × Value)} (r:KT H kvs xs) (k:List dh):nk (hJ kvs k) ((atKey xs k).map (·.2)):=by
 induction r with
 | nil => exact True.intro
 | @cons p q ps qs h t ih =>
  obtain ⟨h1,_,h2⟩:=h
  by_cases e:p.1 = k
  ·have e':q.1 = k:=h1.symm.trans e
   have b:atKey (q :: qs) k = some q.2:=by simp [atKey,List.find?_cons,e']
   rw [nE e,b]; exact h2
  ·have e':¬ q.1 = k:=fun z => e (h1.trans z)
   have b:atKey (q :: qs) k = atKey qs k:=by simp [atKey,List.find?_cons,e']
   rw [nF e,b]; exact ih
theorem KT.u! {H:Hp} {kvs:List (List dh × V)} {xs:List (List dh × Addr × Value)} (r:KT H kvs xs) (k:List dh) {y:V} {u:Value} (ry:bC y u) :
  KT H (kvs.map fun kv => if kv.1 = k then (kv.1,y) else kv) (xs.map (putAt k u)):=by
 induction r with
 | nil => exact .nil
 | @cons p q ps qs h t ih =>
  rw [List.map_cons,List.map_cons]
  refine .cons ?_ ih
  obtain ⟨h1,h2,h3⟩:=h
  unfold putAt
  by_cases e:p.1 = k
  ·rw [if_pos e,if_pos (h1.symm.trans e)]; exact ⟨h1,h2,ry⟩
  ·rw [if_neg e,if_neg (fun z => e (h1.trans z))]; exact ⟨h1,h2,h3⟩
theorem KT.put {H:Hp} {kvs:List (List dh × V)} {xs:List (List dh × Addr × Value)} (r:KT H kvs xs) (k:List dh) {b:Addr} {y:V} {u:Value} (hb:H b = some (.tup (k.map kV))) (ry:bC y u) :
  KT H (putK kvs k y) (storedH xs k b u):=by
 have e:(kvs.any fun kv => decide (kv.1 = k)) = (atKey xs k).isSome:=by
  rw [sY,(r.val k).xS,Option.isSome_map]
 unfold putK storedH
 rw [e]
 by_cases q:(atKey xs k).isSome = true
 ·rw [if_pos q,if_pos q]; exact r.u! k ry
 ·rw [if_neg q,if_neg q]; exact Paired.snoc r ⟨rfl,hb,ry⟩
theorem KT.keeps {H H':Hp} {kvs:List (List dh × V)} {xs:List (List dh × Addr × Value)} (r:KT H kvs xs) (ht:∀ b ys,H b = some (.tup ys) → H' b = some (.tup ys)):KT H' kvs xs :=
 Paired.Fo r fun _ _ z => ⟨z.1,ht _ _ z.2.1,z.2.2⟩
section
variable {P:Program} {w:World} {H:Hp} {h:Heap} {a:Addr}
theorem EF {u:HO} (ok:gZ P w H h) (e:Rd H a u):cL P w H h a u:=e.ok ok
theorem wy {kvs:List (dh × V)} (ok:gZ P w H h) (e:Rd H a (.dK kvs)):kvs.length ≤ sizeLine ∧ (a == sysModules) = false ∧ ∃ vs,KV kvs vs ∧ h.DictOf (dD P w) a vs :=
 show cL P w H h a (.dK kvs) from EF ok e
theorem J? {kvs:List (dh × V)} (ok:gZ P w H h) (e:H a = some (.dK kvs)):kvs.length ≤ sizeLine ∧ (a == sysModules) = false ∧ ∃ vs,KV kvs vs ∧ h.DictOf (dD P w) a vs:=wy ok (.inl e)
theorem u? {ks:List dh} (ok:gZ P w H h) (e:H a = some (.tup (ks.map kV))):(tupleKind (dD P w)).is h ks a:=by
 obtain ⟨_,aO,r,o,h1,h2,n,h3⟩:=(show cL P w H h a (.tup (ks.map kV)) from ok a _ e)
 exact ⟨o,aO.toArray,n,h1,h2,h3,by simpa using pX r⟩
theorem zR {kvs:List (List dh × V)} (ok:gZ P w H h) (e:Rd H a (.dT kvs)):kvs.length ≤ sizeLine ∧ (a == sysModules) = false ∧
  ∃ xs,KT H kvs xs ∧ h.DictOfH (tupleKind (dD P w)) a xs:=by
 obtain ⟨z,y,xs,r,o,es,ep,h1,h2,h3,h4,h5⟩:=(show cL P w H h a (.dT kvs) from EF ok e)
 refine ⟨z,y,xs,r,o,es,ep,h1,h2,h3,h4,fun x hx => ?_,h5⟩
 have all:∀ {l:List (List dh × V)} {m:List (List dh × Addr × Value)},KT H l m → ∀ x ∈ m,(tupleKind (dD P w)).is h x.1 x.2.1:=by
  intro l m q
  induction q with
  | nil => intro x hx; exact nomatch hx
  | @cons p q ps qs hq t ih =>
   intro x hx
   rcases List.mem_cons.mp hx with e | hx
   ·subst e
    exact u? ok (by rw [← hq.1]; exact hq.2.1)
   ·exact ih x hx
 exact all r x hx
theorem Ka {kvs:List (List dh × V)} (ok:gZ P w H h) (e:H a = some (.dT kvs)):kvs.length ≤ sizeLine ∧ (a == sysModules) = false ∧
  ∃ xs,KT H kvs xs ∧ h.DictOfH (tupleKind (dD P w)) a xs:=zR ok (.inl e)
end
noncomputable def pk (H:Hp) (a:Addr) (y:V) (r:Option V):Prop :=
 (∃ kvs k,Rd H a (.dK kvs) ∧ y = kV k ∧ r = hJ kvs k) ∨ ∃ kvs k b,Rd H a (.dT kvs) ∧ y = .ref b ∧ H b = some (.tup (k.map kV)) ∧ r = hJ kvs k
noncomputable def qO (H:Hp) (a:Addr) (y v:V) (H':Hp):Prop :=
 (∃ kvs k,H a = some (.dK kvs) ∧ y = kV k ∧ kvs.length < sizeLine ∧ H' = upd H a (.dK (putK kvs k v))) ∨
 ∃ kvs k b,H a = some (.dT kvs) ∧ y = .ref b ∧ H b = some (.tup (k.map kV)) ∧ kvs.length < sizeLine ∧ H' = upd H a (.dT (putK kvs k v))
theorem pk.k {H:Hp} {a:Addr} {kvs:List (dh × V)} {k:dh} (e:H a = some (.dK kvs)):pk H a (kV k) (hJ kvs k):=.inl ⟨kvs,k,.inl e,rfl,rfl⟩
theorem pk.t {H:Hp} {a b:Addr} {kvs:List (List dh × V)} {k:List dh} (e:H a = some (.dT kvs)) (eb:H b = some (.tup (k.map kV))):pk H a (.ref b) (hJ kvs k):=.inr ⟨kvs,k,b,.inl e,rfl,eb,rfl⟩
theorem qO.k {H:Hp} {a:Addr} {kvs:List (dh × V)} {k:dh} {v:V} (e:H a = some (.dK kvs)) (hl:kvs.length < sizeLine):qO H a (kV k) v (upd H a (.dK (putK kvs k v))):=.inl ⟨kvs,k,e,rfl,hl,rfl⟩
theorem qO.t {H:Hp} {a b:Addr} {kvs:List (List dh × V)} {k:List dh} {v:V} (e:H a = some (.dT kvs)) (eb:H b = some (.tup (k.map kV))) (hl:kvs.length < sizeLine) :
  qO H a (.ref b) v (upd H a (.dT (putK kvs k v))):=.inr ⟨kvs,k,b,e,rfl,eb,hl,rfl⟩
section
variable {X:Cx} {af:List (Addr × Obj)} {σ:St} {H:Hp} {s:Shared} {a:Addr} {y v:V} {u r:Value} {o:Option V} {A:Around} {E:Value → Shared → Prop}
theorem aS.big (I:aS X af σ H s):sysModules < s.heap.objs.size:=by
 have h:mainGlobals < s.heap.objs.size:=(I.mod.glob.keeps I.bk).lt
 exact Nat.lt_trans (by decide) h
theorem xT {Q:Value → Shared → Prop} (hu:A.units + 1 < cLine) (I:aS X af σ H s) (g:pk H a y (some v)) (ry:bC y u) (h:∀ w' s',aS X af σ H s' → bC v w' → Q w' s') :
  wpAny (model X.prog X.w) A (getItem (.ref a) u) Q E s:=by
 rcases g with ⟨kvs,k,e,ey,l⟩ | ⟨kvs,k,b,e,ey,eb,l⟩
 ·subst ey
  obtain ⟨z,hd,vs,rel,dd⟩:=wy I.b? e
  obtain ⟨w',hw,qF⟩:=nk.some_of (v:=v) (o:=valueAt vs k) (by rw [l]; exact rel.val k)
  exact wpAny_getItem_of (zQ ry) dd.mapOf hw (h w' _ (I.tok _) qF)
 ·subst ey
  cases (show u = Value.ref b from ry)
  obtain ⟨z,hd,xs,rel,dd⟩:=zR I.b? e
  obtain ⟨w',hw,qF⟩:=nk.some_of (v:=v) (o:=(atKey xs k).map (·.2)) (by rw [l]; exact rel.val k)
  obtain ⟨p,hp,RN⟩:=Option.map_eq_some_iff.mp hw
  refine wpAny_getItem_heap (tupleKind_room_in1 hu) (u? I.b? eb) dd hp ?_
  rw [RN]
  exact h w' _ (I.tok _) qF
theorem wz {h':Heap} {t':Nat} {ob:HO} (I:aS X af σ H s) (mu:Jq (H a)) (hs:Heap.SameBut a s.heap h') (he:∃ q,h'.get? a = some q) (new:cL X.prog X.w (upd H a ob) h' a ob) :
  aS X af σ (upd H a ob) { s with heap:=h',toks:=t' } :=
 I.write (x:=a) (e:=a) mu (.inl rfl) (fun b q hb z => (hs.2 b hb).trans z) he new
theorem Gn {P:Program} {w:World} {H':Hp} {h':Heap} {kvs:List (dh × V)} {vs:List (dh × Value)} (z:kvs.length ≤ sizeLine) (hd:(a == sysModules) = false) (rel:KV kvs vs) (dd:h'.DictOf (dD P w) a vs) :
  cL P w H' h' a (.dK kvs):=⟨z,hd,vs,rel,dd⟩
theorem xU {H':Hp} {Q:Unit → Shared → Prop} (hu:A.units + 1 < cLine) (I:aS X af σ H s) (g:qO H a y v H') (ry:bC y u) (rv:bC v r) (h:∀ s',aS X af σ H' s' → Q () s') :
  wpAny (model X.prog X.w) A (setItem (.ref a) u r) Q E s:=by
 rcases g with ⟨kvs,k,e,ey,l,eH⟩ | ⟨kvs,k,b,e,ey,eb,l,eH⟩
 ·subst ey eH
  obtain ⟨z,hd,vs,rel,dd⟩:=J? I.b? e
  have hz:vs.length ≤ sizeLine:=by rw [← rel.length]; exact z
  have hl:(putK kvs k v).length ≤ sizeLine:=by have:=lO kvs k v; lia
  refine wpAny_setItem_pairs (hsz:=hz) (zQ ry) dd fun h' Mh hs => h _ ?_
  have he:∃ q,h'.get? a = some q:=let ⟨q,_,_,hq,_⟩:=Mh; ⟨q,hq⟩
  exact wz I (by rw [e]; exact True.intro) hs he (Gn hl hd (rel.put k rv) Mh)
 ·subst ey eH
  cases (show u = Value.ref b from ry)
  obtain ⟨z,hd,xs,rel,dd⟩:=Ka I.b? e
  have hz:xs.length ≤ sizeLine:=by rw [← Paired.length rel]; exact z
  have hl:(putK kvs k v).length ≤ sizeLine:=by have:=lO kvs k v; lia
  refine wpAny_setItem_heap (hsz:=hz) (tupleKind_room_in1 hu) (u? I.b? eb) dd fun h' Mh hs => h _ ?_
  obtain ⟨q,es,ep,hq,h2,h3,h4,_,h5⟩:=Mh
  refine wz I (by rw [e]; exact True.intro) hs ⟨q,hq⟩ ⟨hl,hd,_,(rel.put k eb rv).keeps fun c ys ec => ?_,q,es,ep,hq,h2,h3,h4,h5⟩
  rw [bq (Jp ec e (fun z => nomatch z))]
  exact ec
end
noncomputable def Gp (i:Expr):Prop:=∀ ov iv,subscripted i false ov iv = operate [ov,iv] (getItem ov iv)
theorem CH {prog:Program} {w:World} {A:Around} {E:Value → Shared → Prop} {s:Shared} {env:Env} {value slice:Expr} {pos:Pos} {T id:String} {Q:Value → Shared → Prop}
  (hl:typeLookup (.type T) "__getitem__" = pure (some (.builtin id))) (hs:Gp slice)
  (h:wpAny (model prog w) A (eval value env) (fun o s₁ => wpAny (model prog w) A (eval slice env) (fun i s₂ => s₂.TypeIs o T ∧ wpAny (model prog w) A (getItem o i) Q E s₂) E s₁) E s) :
  wpAny (model prog w) A (eval (.Subscript value slice pos) env) Q E s:=by
 refine Subscript_ (wpAny_mono h (fun o s₁ h₁ => wpAny_mono h₁ (fun i s₂ h₂ => ?_) fun _ _ x => x) fun _ _ x => x)
 obtain ⟨hT,h₂⟩:=h₂
 unfold subscriptTail
 refine wpAny_bind ?_
 rw [getitemInPython_of_ne hT.not_modules]
 refine wpAny_bind (wpAny_specialOf hT hl ?_)
 have fin:wpAny (model prog w) A (subscripted slice false o i) (fun r s₃ => wpAny (model prog w) A (letTemporaryGo value o r >>= fun _ => pure r) Q E s₃) E s₂:=by
  rw [hs o i]
  exact wpAny_operating (wpAny_mono h₂ (fun r s₃ h₃ => wpAny_bind (wpAny_letTemporaryGo (wpAny_pure h₃))) fun _ _ x => x)
 first
  | exact wpAny_pure (wpAny_bind fin)
  | exact wpAny_bind (wpAny_pure (wpAny_bind fin))
  | exact wpAny_bind fin
theorem sZ {X:Cx} {af:List (Addr × Obj)} {σ:St} {H:Hp} {s:Shared} {a:Addr} {y:V} {o:Option V} (I:aS X af σ H s) (g:pk H a y o):s.TypeIs (.ref a) "dict":=by
 rcases g with ⟨kvs,k,e,_,_⟩ | ⟨kvs,k,b,e,_,_,_⟩
 ·obtain ⟨_,_,vs,_,dd⟩:=wy I.b? e
  exact dd.typeIs
 ·obtain ⟨_,_,xs,_,dd⟩:=zR I.b? e
  exact dd.typeIs
noncomputable def Kb (td ty:TE):TE:=fun σ H Q => td σ H fun x H1 => ty σ H1 fun y H2 => ∃ a v,x = .ref a ∧ pk H2 a y (some v) ∧ Q v H2
noncomputable def Kc (td ty tv:TE):TS:=fun D σ H => tv σ H fun v H1 => td σ H1 fun x H2 => ty σ H2 fun y H3 => ∃ a H4,x = .ref a ∧ qO H3 a y v H4 ∧ D.nx σ H4
section
variable {X:Cx} {o i e value:Expr} {pos pos' jO:Pos} {td ty tv:TE}
theorem CI (hu:X.A.units + 1 < cLine) (ho:PE X o td) (hi:PE X i ty) (hs:Gp i):PE X (.Subscript o i pos) (Kb td ty):=by
 intro af s σ H Q I h
 refine CH PySem.F.slot_dict_getitem.lookup hs (cR (ho af s σ H _ I h) fun u s1 ⟨x,H1,I1,rx,q1⟩ => cR (hi af s1 σ H1 _ I1 q1) fun iv s2 ⟨y,H2,I2,ry,a,v,ex,g,q2⟩ => ?_)
 subst ex
 obtain rfl:u = Value.ref a:=rx
 exact ⟨sZ I2 g,xT hu I2 g ry fun w' s3 I3 qF => ⟨v,H2,I3,qF,q2⟩⟩
theorem CJ (hu:X.A.units + 1 < cLine) (ho:PE X o td) (hi:PE X i ty) (hv:PE X value tv) (hs:swapsWith value (some (.Subscript o i pos')) pos.line X.env = pure false) :
  PS X (.Assign [.Subscript o i pos'] value pos) (Kc td ty tv):=by
 intro af s σ H D I h
 refine wpAny_Assign_Subscript (cR (hv af s σ H _ I h) fun r s1 ⟨v,H1,I1,rv,q1⟩ => cR (ho af s1 σ H1 _ I1 q1) fun u s2 ⟨x,H2,I2,rx,q2⟩ => cR (hi af s2 σ H2 _ I2 q2) fun iv s3 ⟨y,H3,I3,ry,a,H4,ex,g,q3⟩ => ?_) hs
 subst ex
 obtain rfl:u = Value.ref a:=rx
 exact xU hu I3 g ry rv fun s4 I4 => ⟨σ,H4,I4,q3⟩
end
theorem zS {P:Program} {w:World} {H:Hp} (h:Heap) (hb:sysModules < h.objs.size):cL P w H (h.push { cls:=.type "dict",data:=.dict #[] }) h.objs.size (.dK []) :=
 ⟨Nat.zero_le _,beq_eq_false_iff_ne.mpr (Ne.symm (Nat.ne_of_lt hb)),[],.nil,Heap.DictOf.new h⟩
noncomputable def Gq:TE:=fun _ H Q => ∀ p,H p = none → Q (.ref p) (upd H p (.dK []))
section
variable {X:Cx} {pos:Pos}
theorem zT:PE X (.Dict [] [] pos) Gq:=fun af s σ H Q I h =>
 wpAny_Dict_empty ⟨.ref s.heap.objs.size,_,I.laid (a:=s.heap.objs.size) (o:=.dK []) (t':=s.toks) (fun _ _ q => Heap.get?_push_of_some _ q) (Nat.le_refl _) (zS s.heap I.big),rfl,h _ (I.b?.fresh (Nat.le_refl _))⟩
end
noncomputable def RP (H:Hp) (a:Addr):Prop:=(∃ kvs,Rd H a (.dK kvs)) ∨ ∃ kvs,Rd H a (.dT kvs)
end L2
namespace L2
open PySem PySem.Spec PyProof.Rows
theorem kz.upd {H H':Hp} {p:Addr} {o:HO} (e:kz H H') (h:H' p = none):kz H (upd H' p o):=fun b u q => by
 rw [bq (br (e b u q) h)]
 exact e b u q
noncomputable def mm (k:Nat) (i:Int):Prop:=i.natAbs < 2 ^ k
theorem mm.bits {k:Nat} {i:Int} (h:mm k i):Builtin.Int.intBits i ≤ k:=by
 unfold Builtin.Int.intBits
 by_cases hz:(i == 0) = true
 ·rw [if_pos hz]; exact Nat.zero_le _
 ·rw [if_neg hz]
  have h0:i.natAbs ≠ 0:=by
   intro e
   apply hz
   have:i = 0:=Int.natAbs_eq_zero.mp e
   simp [this]
  have:=(Nat.log2_lt h0).mpr h
  lia
theorem mm.le {k:Nat} {i j:Int} (h:mm k j) (e:i.natAbs ≤ j.natAbs):mm k i:=Nat.lt_of_le_of_lt e h
theorem mm.small {k:Nat} {i:Int} (hk:10 ≤ k) (h0:-1000 < i) (h1:i < 1000):mm k i:=by
 show i.natAbs < 2 ^ k
 have:2 ^ 10 ≤ 2 ^ k:=Nat.pow_le_pow_right (by decide) hk
 lia
noncomputable def wA (i j:Int):Prop:=∃ a b,mm a i ∧ mm b j ∧ a ≤ 2 ^ 20 ∧ b ≤ 2 ^ 20
theorem wA.ok {i j:Int} (h:wA i j):IntMulOk i j:=by
 obtain ⟨a,b,h1,h2,h3,h4⟩:=h
 exact IntMulOk.of_bits (Nat.le_trans h1.bits h3) (Nat.le_trans h2.bits h4)
noncomputable def wB (i j:Int):Prop:=j ≠ 0 ∧ mm 9000 j
theorem wB.ok {i j:Int} (h:wB i j):Builtin.divisionGoesByPylong i j = false :=
 PyProof.noPylong_of_log2 ((Nat.log2_lt (by intro e; exact h.1 (Int.natAbs_eq_zero.mp e))).mpr h.2)
section
variable {X:Cx}
theorem CK:d5 X (binaryOp .Mult) (rI wA fun i j => .int (i * j)):=JN fun _ _ _ _ _ _ _ hc q => PyProof.Rows.mul_int q hc.ok
theorem zU:d5 X (binaryOp .FloorDiv) (rI wB fun i j => .int (i.fdiv j)):=JN fun _ _ _ _ _ _ _ hc q => floordiv_int hc.1 q (.inl hc.ok)
end
end L2
namespace L2
open PySem PySem.Spec PyProof.Rows
theorem qP {prog:Program} {w:World} {A:Around} {s:Shared} {elt target iter:Expr} {ifs:List Expr} {scope:Scope} {pos:Pos} {it acc:Value} {env:Env} {R:Result → Shared → Prop} (I:Nat → Shared → Prop)
  (turn:∀ n s,I n s → wpAny (model prog w) A (pyNext it) (fun r s₁ => match r with
   | none => R (.ok .next) s₁
   | some v => wpAny (model prog w) A (letOwnedTupleGo target it v) (fun _ EG => wpAny (model prog w) A (assign target env v) (fun _ s₂ =>
     wpAny (model prog w) A (forIn ifs true fun c r => if r = true then do let ok ← isTrue c env (eval c env); pure (ForInStep.yield ok) else pure (ForInStep.yield r)) (fun ok s₃ =>
      if ok = true then wpAny (model prog w) A (eval elt env) (fun x s₄ =>
       wpAny (model prog w) A (call (.builtin "list.append") [acc,x]) (fun _ s₅ => ∃ m,m < n ∧ I m s₅) (fun _ _ => False) s₄) (fun _ _ => False) s₃
      else ∃ m,m < n ∧ I m s₃) (fun _ _ => False) s₂) (fun _ _ => False) EG) (fun _ _ => False) s₁) (fun _ _ => False) s)
  (n:Nat) (h:I n s):codeAny (model prog w) A (.compLoop (.ListComp elt [⟨target,iter,ifs,0⟩] scope pos) 0 it acc env) R s:=by
 refine codeAny_loop rfl I (fun n s hI => ?_) n h
 show wpAny _ A ((compTurn (.ListComp elt [⟨target,iter,ifs,0⟩] scope pos) 0 it acc env).onRaise (fun x => do noteFrame x env; theTreesLotGoes x)) _ _ s
 refine wpAny_noted ?_
 rw [compTurn_list]
 refine wpAny_bind (wpAny_standAt (wpAny_bind (wpAny_mono (turn n s hI) (fun r s₁ h₁ => ?_) fun _ _ h' => h'.elim)))
 cases r with
 | none => exact wpAny_pure h₁
 | some v =>
  refine wpAny_bind (wpAny_mono h₁ (fun _ EG Kd => ?_) fun _ _ h' => h'.elim)
  refine wpAny_bind (wpAny_mono Kd (fun _ s₂ h₂ => wpAny_bind (wpAny_mono h₂ (fun ok s₃ h₃ => ?_) fun _ _ h' => h'.elim)) fun _ _ h' => h'.elim)
  cases ok with
  | false => exact wpAny_pure ⟨rfl,h₃⟩
  | true => exact wpAny_bind (wpAny_bind (wpAny_mono h₃ (fun x s₄ h₄ => wpAny_bind (wpAny_mono h₄ (fun _ s₅ h₅ => wpAny_pure (wpAny_pure ⟨rfl,h₅⟩)) fun _ _ h' => h'.elim)) fun _ _ h' => h'.elim))
noncomputable def xV (X:Cx) (ifs:List Expr) (t:TT):Prop :=
 ∀ (af:List (Addr × Obj)) (s:Shared) (σ:St) (H:Hp) (Q:Bool → Hp → Prop),aS X af σ H s → t σ H Q →
  wpAny (model X.prog X.w) X.A (forIn ifs true fun c r => if r = true then do let ok ← isTrue c X.env (eval c X.env); pure (ForInStep.yield ok) else pure (ForInStep.yield r)) (TP X af σ Q) X.xe s
noncomputable def Ke:TT:=fun _ H Q => Q true H
theorem CL {X:Cx}:xV X [] Ke:=fun _ _ _ H _ I h => wpAny_tests_nil ⟨H,I,h⟩
theorem CM {X:Cx} {c:Expr} {t:TT} (h:PT X c t):xV X [c] t:=fun af s σ H Q I hw => wpAny_tests_one (h af s σ H Q I hw)
theorem gZ.Kf {P:Program} {w:World} {H:Hp} {h:Heap} {a:Addr} {o:HO} (x:gZ P w H h) (hn:H a = none) (new:cL P w (upd H a o) h a o):gZ P w (upd H a o) h:=fun b u e => by
 by_cases hb:b = a
 ·subst hb; rw [cm] at e; cases e; exact new
 ·rw [bq hb] at e
  exact (x b u e).kq (fun c v _ q => q) (fun c q => by rw [bq (br q hn)]; exact q) fun c xs q => by rw [bq (br q hn)]; exact q
noncomputable def o? (X:Cx) (N:List Str) (scope:Scope) (cl:List (Str × Addr)) (C:Addr) (fp:List Addr) (s:Shared) (H:Hp):Cx :=
 { X with N:=N,s₀:=s,H₀:=H,env:=compEnvC scope cl C X.env,outer:=X.stack,stack:=X.stack,ex:=fp,fn:=fun _ => false,pn:=[],xe:=fun _ _ => False }
noncomputable def mn (k:Nat) (bx:List Nat) (σ:St):St:=List.replicate k none ++ bx.map fun j => (σ[j]?).getD none
structure pq (X:Cx) (N:List Str) (scope:Scope) (cl:List (Str × Addr)) (k:Nat) (bx:List Nat):Prop where
 mq:closureFor scope X.env = pure cl
 sub:∀ x c,cl.lookup x = some c → X.env.cells.lookup x = some c
 has:∀ x,((relabel scope X.env).names.lookup x = some .cell ∨ (relabel scope X.env).names.lookup x = some .free) → ∃ c,cl.lookup x = some c
 fO:∀ x ∈ scope.names,x.2 ≠ .cell
 kind:scope.kind = .function
 names:∀ x ∈ scope.names,x.2 = .local → scope.names.lookup x.1 = some .local
 len:N.length = k + bx.length
 at_:∀ i j x,bx[i]? = some j → N[k + i]? = some x → X.N[j]? = some x ∧ (X.env.kindOf x = some .cell ∨ X.env.kindOf x = some .free) ∧ ((relabel scope X.env).names.lookup x = some .cell ∨ (relabel scope X.env).names.lookup x = some .free)
noncomputable def s_ (J:It) (k:Nat) (bx:List Nat) (g:TG) (tt:TT) (te:TE) (σ:St) (H1:Hp) (Q:VK):Prop :=
 ∃ W:Nat → Nat → List V → St → Hp → Prop,(∃ m,W 0 m [] (mn k bx σ) H1) ∧ ∀ i m ys τ H,W i m ys τ H →
  (J.stop i H ∧ ys.length ≤ sizeLine ∧ ∀ p,H p = none → Q (.ref p) (upd H p (.lst ys))) ∨
  (J.go i H ∧ ys.length < sizeLine ∧ ∀ x H',J.JG i H x H' → g x τ H' fun τ2 H2 => tt τ2 H2 fun b H3 => if b = true then te τ2 H3 fun y H4 => ∃ m',m' < m ∧ W (i + 1) m' (ys ++ [y]) τ2 H4 else ∃ m',m' < m ∧ W (i + 1) m' ys τ2 H3)
@[irreducible] def nH (k:Nat) (bx:List Nat) (wi:TI) (g:TG) (tt:TT) (te:TE):TE:=fun σ H Q => wi σ H fun J H1 => s_ J k bx g tt te σ H1 Q
theorem zV {k:Nat} {bx:List Nat} {wi:TI} {g:TG} {tt:TT} {te:TE} {σ:St} {H:Hp} {Q:VK} (h:wi σ H fun J H1 => s_ J k bx g tt te σ H1 Q):nH k bx wi g tt te σ H Q:=by
 unfold nH
 exact h
theorem pY {k:Nat} {bx:List Nat} {wi:TI} {g:TG} {tt:TT} {te:TE} {σ:St} {H:Hp} {Q:VK} (h:nH k bx wi g tt te σ H Q):wi σ H fun J H1 => s_ J k bx g tt te σ H1 Q:=by
 unfold nH at h
 exact h
section
variable {X:Cx} {af:List (Addr × Obj)} {σ:St} {H:Hp} {s:Shared}
theorem CN {k:Nat} {bx:List Nat} {σ:St} {i:Nat} {v:V} (h:(mn k bx σ)[i]? = some (some v)):∃ j,k ≤ i ∧ bx[i - k]? = some j ∧ σ[j]? = some (some v):=by
 unfold mn at h
 by_cases hi:i < k
 ·rw [List.getElem?_append_left (by simpa using hi),List.getElem?_replicate] at h
  split at h <;> cases h
 ·rw [List.getElem?_append_right (by simpa using Nat.le_of_not_lt hi),List.length_replicate,List.getElem?_map] at h
  cases e:bx[i - k]? with
  | none => rw [e] at h; cases h
  | some j =>
   rw [e] at h
   refine ⟨j,Nat.le_of_not_lt hi,rfl,?_⟩
   have h':(σ[j]?).getD none = some v:=by simpa using h
   cases q:σ[j]? with
   | none => rw [q] at h'; cases h'
   | some o => rw [q] at h'; exact congrArg some h'
theorem aS.block {N:List Str} {scope:Scope} {cl:List (Str × Addr)} {k:Nat} {bx:List Nat} {fp:List Addr} {C:Addr} {h':Heap} {t':Nat} {m':Str → Option Value}
  (I:aS X af σ H s) (B:pq X N scope cl k bx) (hf:∀ b ∈ fp,pe X af H b) (hC:s.heap.objs.size ≤ C) (Kg:∀ b ∈ fp,∃ o,s.heap.get? b = some o)
  (kp:∀ b o,s.heap.get? b = some o → h'.get? b = some o) (ns:h'.Ns C m'):aS (o? X N scope cl C fp s H) [] (mn k bx σ) H { s with heap:=h',toks:=t' }:=by
 have below:∀ {b:Addr} {o:Obj},s.heap.get? b = some o → b ≠ C:=fun e => Nat.ne_of_lt (Nat.lt_of_lt_of_le (Heap.lt_size e) hC)
 have Kh:∀ x c,cl.lookup x = some c → ∃ v,s.heap.IsCell c v:=fun x c e => I.cell x c (B.sub x c e)
 refine ⟨⟨I.ok.mod,?_,I.ok.glob,I.ok.blt,hC,fun x y c h1 h2 => I.ok.inj x y c (B.sub x c h1) (B.sub y c h2),fun x hx => B.has x hx,fun x c h1 _ => ?_,I.ok.hd,I.ok.frames,.inl rfl,fun b hb => ⟨?_,fun x c e => ?_⟩,I.bs,Nat.le_trans I.ok.B0 I.sz,fun b o e hb => ?_,fun b hb => ?_,I.stack,I.qv⟩,
  rfl,I.bare,Un.kept kp,⟨m',ns,fun i x v h1 h2 h3 => ?_⟩,fun x c e => ?_,?_,fun x c e => I.fL x c (B.sub x c e),fun p hp => absurd (show p ∈ ([]:List (Addr × Obj)) from hp) (by simp),I.b?.kept kp,?_⟩
 ·exact B.kind
 ·exact absurd h1 (by simp [o?])
 ·obtain ⟨o,e⟩:=Kg b hb
  exact below e
 ·exact (hf b hb).2.2.2.2.1 x c (B.sub x c e)
 ·obtain ⟨_,_,_,h4,_⟩:=hf b hb
  rcases h4 with z | z
  ·exact I.ok.sO b o e z
  ·exact absurd (Nat.lt_of_lt_of_le (Heap.lt_size (I.ok.bs b o e).1) z) (Nat.lt_irrefl _)
 ·intro z
  rcases List.mem_cons.mp (I.kr b z) with e | e
  ·exact (hf b hb).2.1 e
  ·exact (hf b hb).2.2.1 e
 ·obtain ⟨j,hk,hj,hσ⟩:=CN h2
  have hN:N[k + (i - k)]? = some x:=by rw [Nat.add_sub_cancel' hk]; exact h1
  obtain ⟨a1,a2,a3⟩:=B.at_ (i - k) j x hj hN
  obtain ⟨m,hn,hl⟩:=I.loc
  have Nm:BY X.env.scope x:=by
   rcases a2 with z | z
   ·exact .inr (.inl z)
   ·exact .inr (.inr z)
  obtain ⟨u,r,l⟩:=hl j x v a1 hσ Nm
  refine ⟨u,r,.inr ⟨a3,?_⟩⟩
  rcases l with ⟨z,_⟩ | ⟨_,c,e,cc⟩
  ·rcases a2 with y | y <;> (rw [z] at y; cases y)
  ·obtain ⟨c',e'⟩:=B.has x a3
   have:X.env.cells.lookup x = some c':=B.sub x c' e'
   rw [e] at this
   cases this
   obtain ⟨o,ho,hd⟩:=cc
   exact ⟨c,e',o,kp c o ho,hd⟩
 ·obtain ⟨v,o,ho,hd⟩:=Kh x c e
  exact ⟨v,o,kp c o ho,hd⟩
 ·exact I.b?.fresh hC
 ·show (mn k bx σ).length = N.length
  unfold mn
  rw [List.length_append,List.length_replicate,List.length_map,B.len]
noncomputable def zW (X:Cx) (af:List (Addr × Obj)) (σ:St) (s:Shared) (Q:VK) (acc:Value) (C:Addr) (s':Shared):Prop :=
 ∃ D H',acc = .ref D ∧ s.heap.objs.size ≤ C ∧ aS X af σ H' s' ∧ H' C = none ∧ (∃ m,s'.heap.Ns C m) ∧ Q (.ref D) H'
theorem pZ {tg elt iter:Expr} {ifs:List Expr} {scope:Scope} {pos:Pos} {N:List Str} {cl:List (Str × Addr)} {k:Nat} {bx:List Nat} {g:TG} {tt:TT} {te:TE} {it:Addr} {fp:List Addr} {tn:Nat → Heap → Prop} {J:It} {Q:VK} {RR:Value → Addr → Result → Shared → Prop} {E:Value → Shared → Prop}
  (hc:X.calm = true) (B:pq X N scope cl k bx) (hg:∀ C fp s H,PG (o? X N scope cl C fp s H) tg g) (hi:∀ C fp s H,xV (o? X N scope cl C fp s H) ifs tt) (he:∀ C fp s H,PE (o? X N scope cl C fp s H) elt te)
  (I:aS X af σ H s) (T:Turn X.prog X.w X.K tg J fp it tn) (st:tn 0 s.heap) (hf:∀ b ∈ fp,pe X af H b)
  (h:s_ J k bx g tt te σ H Q)
  (RQ:∀ acc C s',zW X af σ s Q acc C s' → RR acc C (.ok .next) s') :
  wpAny (model X.prog X.w) X.A (newList []) (fun acc s₃ => wpAny (model X.prog X.w) X.A (newFunctionEnv scope X.env.globals cl [] X.env.qual none .none (some X.env)) (fun Ki s₄ =>
   codeAny (model X.prog X.w) X.A (.compStart (.ListComp elt [⟨tg,iter,ifs,0⟩] scope pos) 0 (.ref it) acc { Ki with scope:=relabel scope X.env }) (RR acc Ki.locals) s₄) E s₃) E s:=by
 obtain ⟨W,⟨m0,w0⟩,turn⟩:=h
 refine wpAny_newObj_type (wpAny_newFunctionEnv B.fO (by intro y hy; simp at hy) (fun h₁ vc qQ => ?_) B.kind)
 dsimp only at vc qQ ⊢
 generalize NW:s.heap.push { cls:=.type "list",dict:=none,data:=.seq ([]:List Value).toArray } = H2 at vc qQ ⊢
 have hC:H2.objs.size = s.heap.objs.size + 1:=by rw [← NW,Heap.size_push]
 have Mi:s.heap.objs.size ≤ H2.objs.size:=by rw [hC]; exact Nat.le_succ _
 have Mj:s.heap.objs.size ≠ H2.objs.size:=by rw [hC]; exact Nat.ne_of_lt (Nat.lt_succ_self _)
 have old:∀ b o,s.heap.get? b = some o → h₁.get? b = some o:=fun b o e => qQ.extBut b o (Nat.ne_of_lt (Nat.lt_of_lt_of_le (Heap.lt_size e) Mi)) (Heap.get?_push_of_some _ (NW ▸ Heap.get?_push_of_some _ e))
 have Gr:h₁.get? s.heap.objs.size = some { cls:=.type "list",data:=.seq ([]:List Value).toArray 0 }:=qQ.extBut _ _ Mj (Heap.get?_push_of_some _ (NW ▸ Heap.get?_push_size _ rfl))
 have NX:=T.obj 0 _ st
 have Kg:∀ b ∈ fp,∃ o,s.heap.get? b = some o:=fun b hb => let ⟨o,e,_⟩:=NX b hb; ⟨o,e⟩
 have Qq:∀ b ∈ fp,b ≠ s.heap.objs.size:=fun b hb z => by
  obtain ⟨o,e⟩:=Kg b hb
  exact absurd (Heap.lt_size e) (by rw [z]; exact Nat.lt_irrefl _)
 have RT:H s.heap.objs.size = none:=I.b?.fresh (Nat.le_refl _)
 have EI:tn 0 h₁:=T.keep 0 _ _ st fun b _ o e => old b o e
 have Kj:∀ x c,cl.lookup x = some c → c ≠ s.heap.objs.size:=fun x c e z => by
  obtain ⟨v,o,ho,_⟩:=I.cell x c (B.sub x c e)
  exact absurd (Heap.lt_size ho) (by rw [z]; exact Nat.lt_irrefl _)
 have NY:∀ b ∈ fD X.stack,b ≠ s.heap.objs.size:=fun b hb z => by
  obtain ⟨_,o,ho,_⟩:=I.stack.mem hb
  exact absurd (Heap.lt_size ho) (by rw [z]; exact Nat.lt_irrefl _)
 have loop:∀ s₃:Shared,s₃ = { s with heap:=h₁,toks:=s.toks + ([]:List (Str × Value)).length } →
   codeAny (model X.prog X.w) X.A (.compLoop (.ListComp elt [⟨tg,iter,ifs,0⟩] scope pos) 0 (.ref it) (.ref s.heap.objs.size) (compEnvC scope cl H2.objs.size X.env)) (RR (.ref s.heap.objs.size) H2.objs.size) s₃:=by
  rintro s₃ rfl
  generalize uQ:o? X N scope cl H2.objs.size fp s H = XB
  have eP:XB.prog = X.prog:=by rw [← uQ]; rfl
  have eW:XB.w = X.w:=by rw [← uQ]; rfl
  have eK:XB.K = X.K:=by rw [← uQ]; rfl
  have eA:XB.A = X.A:=by rw [← uQ]; rfl
  have eE:XB.env = compEnvC scope cl H2.objs.size X.env:=by rw [← uQ]; rfl
  have eL:XB.env.locals = H2.objs.size:=by rw [eE]; rfl
  have eF:XB.fs = fD X.stack:=by rw [← uQ]; rfl
  have eX:XB.ex = fp:=by rw [← uQ]; rfl
  have eN:XB.pn = []:=by rw [← uQ]; rfl
  have e0:XB.s₀ = s:=by rw [← uQ]; rfl
  have eC:XB.calm = true:=by rw [← uQ]; exact hc
  have Qr:XB.env.cells = cl:=by rw [eE]; rfl
  have NZ:XB.xe = fun _ _ => False:=by rw [← uQ]; rfl
  have pb:PG XB tg g:=by rw [← uQ]; exact hg _ _ _ _
  have zX:xV XB ifs tt:=by rw [← uQ]; exact hi _ _ _ _
  have RU:PE XB elt te:=by rw [← uQ]; exact he _ _ _ _
  have I0:aS XB [] (mn k bx σ) H { s with heap:=h₁,toks:=s.toks + ([]:List (Str × Value)).length }:=by rw [← uQ]; exact I.block B hf Mi Kg old vc
  -- xy EJ pinned
  have N0:∀ {τ:St} {H':Hp} {s':Shared} {aO:List Value} {nn:Nat},aS XB [] τ H' s' → s'.heap.get? s.heap.objs.size = some { cls:=.type "list",data:=.seq aO.toArray nn } → H' s.heap.objs.size = none →
    aS XB [(s.heap.objs.size,{ cls:=.type "list",data:=.seq aO.toArray nn })] τ H' s':=fun {τ H' s' aO nn} J hd hn => J.mX fun p hp => by
   obtain rfl:p = _:=List.mem_singleton.mp hp
   refine ⟨hd,hn,by rw [eL]; exact Mj,by rw [eF]; exact fun z => NY _ z rfl,fun v z => ?_⟩
   have z':Data.seq aO.toArray nn = Data.cell v:=z
   cases z'
  have uZ:∀ {H':Hp} {o:Obj},(∀ b ∈ fp,H' b = none) → ∀ b ∈ fp,pe XB [(s.heap.objs.size,o)] H' b:=fun {H' o} hn b hb => by
   obtain ⟨_,f1,f2,f3,f4,f5⟩:=hf b hb
   refine ⟨hn b hb,?_,?_,.inl (by rw [eX]; exact hb),fun x c e => f4 x c (B.sub x c (by rw [← Qr]; exact e)),fun p hp => ?_⟩
   ·rw [eL]
    obtain ⟨o,e⟩:=Kg b hb
    exact Nat.ne_of_lt (Nat.lt_of_lt_of_le (Heap.lt_size e) Mi)
   ·rw [eF]
    intro z
    rcases List.mem_cons.mp (I.kr b z) with e | e
    ·exact f1 e
    ·exact f2 e
   ·rw [eN] at hp
    obtain rfl:p = _:=List.mem_singleton.mp (by simpa using hp)
    exact Ne.symm (Qq b hb)
  refine qP (fun n s' => ∃ i ys aO nn τ H',aS XB [] τ H' s' ∧ s'.heap.get? s.heap.objs.size = some { cls:=.type "list",data:=.seq aO.toArray nn } ∧ H' s.heap.objs.size = none ∧ bo ys aO ∧ tn i s'.heap ∧ (∀ b ∈ fp,H' b = none) ∧ W i n ys τ H') ?_ m0
   ⟨0,[],[],0,mn k bx σ,H,I0,Gr,RT,.nil,EI,fun b hb => (hf b hb).1,w0⟩
  rintro n s3 ⟨i,ys,aO,nn,τ,H3,I3,RV,RW,Mk,js,JK,w3⟩
  have Qs:=N0 I3 RV RW
  rcases turn i n ys τ H3 w3 with ⟨stop,hz,qn⟩ | ⟨go,hz,step⟩
  ·have D1:=T.done XB eP eW eK eC i _ s3 τ H3 (fun _ _ => False) Qs (uZ JK) js stop
   rw [eA] at D1
   refine cR D1 fun r s4 ⟨hr,I4⟩ => ?_
   subst hr
   refine RQ _ _ s4 ?_
   obtain ⟨pd,Kk,_⟩:=I4.pin (s.heap.objs.size,{ cls:=.type "list",data:=.seq aO.toArray nn }) (by rw [eN]; exact List.mem_append_right _ (List.mem_singleton.mpr rfl))
   have CO:Un (fD X.stack) fp H H3 s.heap s4.heap:=by
    have:=I4.base
    rw [← uQ] at this
    exact this
   have new:cL X.prog X.w (upd H3 s.heap.objs.size (.lst ys)) s4.heap s.heap.objs.size (.lst ys):=⟨hz,aO,nn,Mk,pd⟩
   have N1:gZ X.prog X.w H3 s4.heap:=by
    have:=I4.b?
    rw [eP,eW] at this
    exact this
   have b?:gZ X.prog X.w (upd H3 s.heap.objs.size (.lst ys)) s4.heap:=N1.Kf Kk new
   have RX:s4.os = s.os:=by
    have:=I4.os
    rw [e0] at this
    exact this
   have un:Un (fD X.stack) fp H (upd H3 s.heap.objs.size (.lst ys)) s.heap s4.heap :=
    ⟨CO.keep,CO.slot,fun b o e n hx => by rw [bq (Nat.ne_of_lt (Heap.lt_size e))]; exact CO.free b o e n hx,CO.there,
     fun b xs e => by rw [bq (br (CO.jC b xs e) Kk)]; exact CO.jC b xs e,fun b o u e => by rw [bq (br (CO.jn b o u e) Kk)]; exact CO.jn b o u e,
     fun b ps e => by
      obtain ⟨more,q⟩:=CO.jM b ps e
      exact ⟨more,by rw [bq (br q Kk)]; exact q⟩⟩
   have I5:aS X af σ (upd H3 s.heap.objs.size (.lst ys)) s4:=I.sP RX un b? I4.bare fun b hb => ⟨(hf b hb).2.2.2.1,(hf b hb).2.1,(hf b hb).2.2.2.2.1,(hf b hb).2.2.2.2.2⟩
   have RY:H3 H2.objs.size = none:=by
    have:=I4.free
    rw [eL] at this
    exact this
   refine ⟨s.heap.objs.size,_,rfl,Mi,I5,by rw [bq (Ne.symm Mj)]; exact RY,?_,qn _ Kk⟩
   obtain ⟨m4,Qt,_⟩:=I4.loc
   rw [eL] at Qt
   exact ⟨m4,Qt⟩
  ·have D1:=T.item XB eP eW eK eC i _ s3 τ H3 (fun _ _ => False) Qs (uZ JK) js go
   rw [eA] at D1
   refine cR D1 fun r s4 ⟨u,hr,h4⟩ => ?_
   subst hr
   refine cR h4 fun _ s5 ⟨x,H5,I5,r5,y5,B3,Nu⟩ => ?_
   have Nv:=I5.pinned (uZ Nu) (T.obj _ _ B3)
   have G:=pb _ s5 τ H5 x u _ Nv r5 (step x H5 y5)
   rw [eP,eW,eA,eE,NZ] at G
   refine cR G fun _ s6 ⟨τ6,H6,I6,q6⟩ => ?_
   have G2:=zX _ s6 τ6 H6 _ I6 q6
   rw [eP,eW,eA,eE,NZ] at G2
   refine cR G2 fun ok s7 ⟨H7,I7,q7⟩ => ?_
   -- Nt xy af give back
   have back:∀ {τ8:St} {H8:Hp} {s8:Shared},aS XB ([(s.heap.objs.size,({ cls:=.type "list",data:=.seq aO.toArray nn }:Obj))] ++ nv fp s5.heap) τ8 H8 s8 →
     aS XB [] τ8 H8 s8 ∧ s8.heap.get? s.heap.objs.size = some { cls:=.type "list",data:=.seq aO.toArray nn } ∧ H8 s.heap.objs.size = none ∧ tn (i + 1) s8.heap ∧ ∀ b ∈ fp,H8 b = none:=fun {τ8 H8 s8} J => by
    obtain ⟨p1,p2,_⟩:=J.pin (s.heap.objs.size,{ cls:=.type "list",data:=.seq aO.toArray nn }) (List.mem_append_right _ (List.mem_append_left _ (List.mem_singleton.mpr rfl)))
    refine ⟨J.mX fun p hp => absurd (show p ∈ ([]:List (Addr × Obj)) from hp) (by simp),p1,p2,T.keep _ _ _ B3 fun b hb o e => (J.pin (b,o) (List.mem_append_right _ (List.mem_append_right _ (g_ hb e)))).1,fun b hb => ?_⟩
    obtain ⟨o,e,d⟩:=T.obj _ _ B3 b hb
    exact (J.pin (b,o) (List.mem_append_right _ (List.mem_append_right _ (g_ hb e)))).2.1
   cases ok with
   | false =>
    rw [if_neg Bool.false_ne_true] at q7 ⊢
    obtain ⟨m',hm,w7⟩:=q7
    obtain ⟨J,a1,a2,a3,a4⟩:=back I7
    exact ⟨m',hm,i + 1,ys,aO,nn,τ6,H7,J,a1,a2,Mk,a3,a4,w7⟩
   | true =>
    rw [if_pos rfl] at q7 ⊢
    have G3:=RU _ s7 τ6 H7 _ I7 q7
    rw [eP,eW,eA,eE,NZ] at G3
    refine cR G3 fun v s8 ⟨y,H8,I8,r8,m',hm,w8⟩ => ?_
    obtain ⟨J,a1,a2,a3,a4⟩:=back I8
    have hlen:=Mk.length
    refine call_meets F.slot_list_append ⟨_,a1,rfl⟩ F.entry_list_append (F.args_list_append_2 _ _) (PySem.list_append s.heap.objs.size aO.toArray nn v (by rw [List.size_toArray]; lia)) ⟨a1,?_⟩
    have q:=PySem.IsL.update a1 (fun z => z.push v)
    have other:∀ b o,b ≠ s.heap.objs.size → s8.heap.get? b = some o → (s8.heap.update s.heap.objs.size (Obj.mapSeq fun z => z.push v)).get? b = some o:=fun b o hb e => (Heap.get?_update_other s8.heap (Obj.mapSeq fun z => z.push v) (Ne.symm hb)).trans e
    have J':aS XB [] τ6 H8 { s8 with heap:=s8.heap.update s.heap.objs.size (Obj.mapSeq fun z => z.push v) } :=
     J.turned (t':=s8.toks) (it:=s.heap.objs.size) other a2 (by rw [eL]; exact Mj) (.inr (by rw [e0]; exact Nat.le_refl _)) (fun x c e => Kj x c (by rw [← Qr]; exact e)) fun p hp => absurd (show p ∈ ([]:List (Addr × Obj)) by rw [eN] at hp; exact hp) (by simp)
    obtain ⟨n2,q2⟩:∃ n2,(s8.heap.update s.heap.objs.size (Obj.mapSeq fun z => z.push v)).get? s.heap.objs.size = some { cls:=.type "list",data:=.seq (aO ++ [v]).toArray n2 }:=by
     have e1:aO.toArray.push v = (aO ++ [v]).toArray:=by simp
     rw [← e1]
     exact ⟨_,q⟩
    exact ⟨m',hm,i + 1,ys ++ [y],aO ++ [v],n2,τ6,H8,J',q2,a2,Mk.append (.cons r8 .nil),T.keep _ _ _ a3 fun b hb o e => other b o (Qq b hb) e,a4,w8⟩
 exact codeAny_compStart_list (loop _ rfl) (T.self X.A 0 _ _ _ EI (loop _ rfl))
end
end L2
namespace L2
open PySem PySem.Spec PyProof.Rows
section
variable {X:Cx} {tg elt iter:Expr} {ifs:List Expr} {scope:Scope} {pos zY:Pos} {N:List Str} {cl:List (Str × Addr)} {k:Nat} {bx:List Nat} {wi:TI} {g:TG} {tt:TT} {te:TE}
theorem aS.p4 {af:List (Addr × Obj)} {σ σ':St} {H H':Hp} {s s':Shared} {C:Addr} {h':Heap} (I:aS X af σ H s) (hC:s.heap.objs.size ≤ C) (I':aS X af σ' H' s') (hn:H' C = none) (sb:Heap.SameBut C s'.heap h') :
  aS X af σ' H' { s' with heap:=h' }:=by
 refine I'.turned (t':=s'.toks) (it:=C) (fun b o hb e => (sb.2 b hb).trans e) hn (Nat.ne_of_gt (Nat.lt_of_lt_of_le I.lt hC)) (.inr (Nat.le_trans I.sz hC)) (fun x c e => ?_) fun p hp => ?_
 ·obtain ⟨v,o,ho,_⟩:=I.cell x c e
  exact Nat.ne_of_lt (Nat.lt_of_lt_of_le (Heap.lt_size ho) hC)
 ·exact Nat.ne_of_lt (Nat.lt_of_lt_of_le (Heap.lt_size (I.pin p hp).1) hC)
theorem CP (hc:X.calm = true) (B:pq X N scope cl k bx) (hi:PI X tg iter wi) (hg:∀ C fp s H,PG (o? X N scope cl C fp s H) tg g) (Gs:∀ C fp s H,xV (o? X N scope cl C fp s H) ifs tt)
  (he:∀ C fp s H,PE (o? X N scope cl C fp s H) elt te) (hs:∀ x,foldedSetIterable iter X.env x = pure x:=by intro _; rfl):PE X (.ListComp elt [⟨tg,iter,ifs,0⟩] scope pos) (nH k bx wi g tt te):=by
 intro af s σ H Q I h
 rw [eval_ListComp]
 refine wpAny_comprehension_free (use:=none) rfl hs B.mq B.kind B.names (cR (hi af s σ H _ I (pY h)) fun xv s₁ h₁ => cR h₁ fun L' s₂ h₂ => ?_)
 obtain ⟨it,fp,tn,J,H2,e,I2,T,bS,f2,hW⟩:=h₂
 subst e
 refine pZ (RR:=fun acc C => compPost (model X.prog X.w) X.A X.xe none (EP X af σ Q) acc C) hc B hg Gs he I2 T bS f2 hW ?_
 rintro acc C s' ⟨D,H',rfl,hC,I',hn,⟨m,ns⟩,q⟩
 exact ⟨m,ns,fun h' sb => ⟨.ref D,H',I2.p4 hC I' hn sb,rfl,q⟩⟩
theorem vd {i:Nat} {y:Str} {py:Pos} (hN:X.N.Nodup) (hy:X.N[i]? = some y) (hx:Loc X.env.scope y) (hc:X.calm = true) (B:pq X N scope cl k bx) (hi:PI X tg iter wi) (hg:∀ C fp s H,PG (o? X N scope cl C fp s H) tg g)
  (Gs:∀ C fp s H,xV (o? X N scope cl C fp s H) ifs tt) (he:∀ C fp s H,PE (o? X N scope cl C fp s H) elt te) (N2:swapsWith (.ListComp elt [⟨tg,iter,ifs,0⟩] scope pos) (some (.Name y py)) zY.line X.env = pure true:=by rfl)
  (hs:∀ x,foldedSetIterable iter X.env x = pure x:=by intro _; rfl) (hf:X.fn y = true ∨ X.env.scope.names.lookup y = some .local:=by first | exact .inl rfl | exact .inr rfl | assumption) :
  PS X (.Assign [.Name y py] (.ListComp elt [⟨tg,iter,ifs,0⟩] scope pos) zY) (Cc (nH k bx wi g tt te) (sQ i)):=by
 intro af s σ H D I h
 rw [exec_Assign_Name_used _ _ _ _ N2]
 refine wpAny_bind (wpAny_standAt (wpAny_bind ?_))
 show wpAny _ X.A (do let _ ← comprehension (.ListComp elt [⟨tg,iter,ifs,0⟩] scope pos) scope X.env _ (newList []) false (eval iter X.env) (some (assign (.Name y py) X.env))) _ _ s
 refine wpAny_bind (wpAny_mono (wpAny_comprehension_free (use:=some (assign (.Name y py) X.env)) (Q:=fun _ s' => SP X af D .next s') rfl hs B.mq B.kind B.names (cR (hi af s σ H _ I (pY h)) fun xv s₁ h₁ => cR h₁ fun L' s₂ h₂ => ?_)) (fun _ s' hq => wpAny_pure (wpAny_pure hq)) fun _ _ e => e)
 obtain ⟨it,fp,tn,J,H2,e,I2,T,bS,f2,hW⟩:=h₂
 subst e
 refine pZ (Q:=fun v H' => sQ i v σ H' D.nx) (RR:=fun acc C => compPost (model X.prog X.w) X.A X.xe (some (assign (.Name y py) X.env)) (fun _ s' => SP X af D .next s') acc C) hc B hg Gs he I2 T bS f2 hW ?_
 rintro acc C s' ⟨D',H',rfl,hC,I',hn,⟨m,ns⟩,q⟩
 show wpAny _ _ (assign (.Name y py) X.env (.ref D')) _ _ s'
 refine wpAny_assign_Name (ku I' hN hy hx (v:=.ref D') rfl (fun Ma RZ ⟨a,sb,ha⟩ => ?_) hf)
 have R3:C ≠ a:=by
  rcases ha with e | e
  ·rw [e]; exact Nat.ne_of_gt (Nat.lt_of_lt_of_le I2.lt hC)
  ·obtain ⟨v,o,ho,_⟩:=I2.cell y a e
   exact Nat.ne_of_gt (Nat.lt_of_lt_of_le (Heap.lt_size ho) hC)
 exact ⟨m,ns.sameBut sb R3,fun h' N3 => ⟨_,H',I2.p4 hC RZ hn N3,q⟩⟩
end
section
variable {K:PySem.W.Frag} {g:TG} {tt:TT} {te:TE} {Q:VK}
theorem CQ {J:It} {k:Nat} {bx:List Nat} {σ:St} {H:Hp} (n:Nat) (hn:n ≤ sizeLine) (Pv:Nat → List V → St → Hp → Prop) (h0:Pv 0 [] (mn k bx σ) H) (R4:∀ i ys τ H,i < n → Pv i ys τ H → J.go i H) (sG:∀ ys τ H,Pv n ys τ H → J.stop n H)
  (hl:∀ i ys τ H,Pv i ys τ H → ys.length ≤ i)
  (hs:∀ i ys τ H x H',i < n → Pv i ys τ H → J.JG i H x H' → ∀ K1:List V → St → Hp → Prop,(∀ ys τ H,Pv (i + 1) ys τ H → K1 ys τ H) → g x τ H' fun τ2 H2 => tt τ2 H2 fun b H3 => if b = true then te τ2 H3 fun y H4 => K1 (ys ++ [y]) τ2 H4 else K1 ys τ2 H3)
  (hd:∀ ys τ H p,Pv n ys τ H → H p = none → Q (.ref p) (upd H p (.lst ys))):s_ J k bx g tt te σ H Q:=by
 refine ⟨fun i m ys τ H => m = n - i ∧ i ≤ n ∧ Pv i ys τ H,⟨n,by simp,Nat.zero_le _,h0⟩,?_⟩
 rintro i m ys τ H ⟨rfl,hi,p⟩
 have hy:=hl i ys τ H p
 by_cases zh:i < n
 ·refine .inr ⟨R4 i ys τ H zh p,by lia,fun x H' y => ?_⟩
  exact hs i ys τ H x H' zh p y (fun ys τ H => ∃ m',m' < n - i ∧ m' = n - (i + 1) ∧ i + 1 ≤ n ∧ Pv (i + 1) ys τ H) fun ys τ H q => ⟨n - (i + 1),by lia,rfl,zh,q⟩
 ·have e:i = n:=by lia
  subst e
  exact .inl ⟨sG ys τ H p,by lia,fun q hq => hd ys τ H q p hq⟩
end
noncomputable def c8 (b:Bool) (h:Heap) (i l:Addr) (k:Nat):Prop:=match b with | true => h.IsListIter i l k | false => h.IsTupleIter i l k
noncomputable def gB (b:Bool) (h:Heap) (l:Addr) (xs:Array Value):Prop:=match b with | true => h.IsList l xs | false => h.IsTuple l xs
theorem c8.keep {b:Bool} {h h':Heap} {i l:Addr} {k:Nat} (x:c8 b h i l k) (e:∀ o,h.get? i = some o → h'.get? i = some o):c8 b h' i l k:=by
 cases b with
 | true => exact Heap.IsListIter.at x e
 | false => exact Heap.IsTupleIter.at x e
theorem gB.keep {b:Bool} {h h':Heap} {l:Addr} {xs:Array Value} (x:gB b h l xs) (e:∀ o,h.get? l = some o → h'.get? l = some o):gB b h' l xs:=by
 cases b with
 | true => exact Heap.IsList.at x e
 | false => obtain ⟨o,ho,r⟩:=(show h.IsTuple l xs from x); exact ⟨o,e _ ho,r⟩
theorem c8.there {b:Bool} {h:Heap} {i l:Addr} {k:Nat} (x:c8 b h i l k):∃ o n vs,h.get? i = some o ∧ o.cls = .type n ∧ o.data = .fields vs:=by
 cases b with
 | true => obtain ⟨o,h1,h2,h3⟩:=(show h.IsListIter i l k from x); exact ⟨o,_,_,h1,h2,h3⟩
 | false => obtain ⟨o,h1,h2,h3⟩:=(show h.IsTupleIter i l k from x); exact ⟨o,_,_,h1,h2,h3⟩
section
variable {prog:Program} {w:World} {A:Around} {E:Value → Shared → Prop} {s:Shared}
theorem nI {it t:Addr} {i:Nat} {items:Array Value} {x:Value} {Q:Value → Shared → Prop} (hit:s.heap.IsTupleIter it t i) (ht:s.heap.IsTuple t items) (hx:items[i]? = some x)
  (hQ:∀ h',h'.IsTupleIter it t (i + 1) → Heap.SameBut it s.heap h' → Q x { s with heap:=h' }):wpAny (model prog w) A (Builtin.SmallTypes.nextOf (.ref it)) Q E s:=by
 obtain ⟨oi,EL,ci,di⟩:=id hit
 obtain ⟨ot,N4,_,nt,dt⟩:=ht
 unfold Builtin.SmallTypes.nextOf
 refine wpAny_bind (wpAny_callSpecial?_slot (name:=Str.ofString "__next__") hit.typeIs F.slot_tuple_iterator_next (wpAny_call_entry F.slot_tuple_iterator_next hit.typeIs F.entry_tuple_iterator_next ?_ (F.args_tuple_iterator_next_1 _)))
 show wpAny _ _ (field (.ref it) 0 >>= _) _ _ s
 refine wpAny_bind (wpAny_field EL di (x:=.ref t) rfl ?_)
 show wpAny _ _ (if (Value.ref t == Value.none) = true then _ else _) _ _ s
 rw [if_neg (show ¬ ((Value.ref t == Value.none) = true) from Bool.false_ne_true)]
 show wpAny _ _ (field (.ref it) 1 >>= _) _ _ s
 refine wpAny_bind (wpAny_field EL di (x:=.int i 0) rfl ?_)
 show wpAny _ _ (seqItems? (.ref t) >>= _) _ _ s
 refine wpAny_bind (wpAny_seqItems N4 dt ?_)
 simp only [Int.toNat_natCast,hx]
 refine wpAny_bind (wpAny_setField EL di (by simp) (wpAny_pure ⟨x,rfl,wpAny_pure (hQ _ ?_ (Heap.SameBut.update ..))⟩))
 exact ⟨_,Heap.get?_update_self _ EL (Obj.isFreed_of_fields (Obj.data_mapFields di _)),(Obj.cls_mapFields ..).trans ci,by rw [Obj.data_mapFields di]; simp [rawInt]⟩
theorem pv {it t:Addr} {i:Nat} {items:Array Value} {Q:Value → Shared → Prop} (hh:A.handled = none) (hit:s.heap.IsTupleIter it t i) (ht:s.heap.IsTuple t items) (hx:items[i]? = none)
  (hE:∀ h' e,Heap.ExtBut it s.heap h' → (∃ o,h'.get? e = some o ∧ o.cls = .type "StopIteration") → E (.ref e) { s with heap:=h' }):wpAny (model prog w) A (Builtin.SmallTypes.nextOf (.ref it)) Q E s:=by
 obtain ⟨oi,EL,ci,di⟩:=id hit
 obtain ⟨ot,N4,_,nt,dt⟩:=ht
 unfold Builtin.SmallTypes.nextOf
 refine wpAny_bind (wpAny_callSpecial?_slot (name:=Str.ofString "__next__") hit.typeIs F.slot_tuple_iterator_next (wpAny_call_entry F.slot_tuple_iterator_next hit.typeIs F.entry_tuple_iterator_next ?_ (F.args_tuple_iterator_next_1 _)))
 show wpAny _ _ (field (.ref it) 0 >>= _) _ _ s
 refine wpAny_bind (wpAny_field EL di (x:=.ref t) rfl ?_)
 show wpAny _ _ (if (Value.ref t == Value.none) = true then _ else _) _ _ s
 rw [if_neg (show ¬ ((Value.ref t == Value.none) = true) from Bool.false_ne_true)]
 show wpAny _ _ (field (.ref it) 1 >>= _) _ _ s
 refine wpAny_bind (wpAny_field EL di (x:=.int i 0) rfl ?_)
 show wpAny _ _ (seqItems? (.ref t) >>= _) _ _ s
 refine wpAny_bind (wpAny_seqItems N4 dt ?_)
 simp only [Int.toNat_natCast,hx]
 refine wpAny_bind (wpAny_rule (wpAny_bind (wpAny_setField EL di (by simp) ?_)))
 show wpAny _ _ (newExc (.type "StopIteration") [] >>= _) _ _ _
 refine wpAny_bind ?_
 simp only [newExc,newTuple]
 refine wpAny_bind (wpAny_newObj_type ?_ (by size_fits))
 refine wpAny_bind (m:=firstArgMember _ _) (wpAny_of_eq (a:=Value.none) (by first | rfl | (simp only [firstArgMember]; rfl)) ?_)
 refine wpAny_newObj_type ?_ (by size_fits)
 simp only [raiseNew]
 refine wpAny_bind (wpAny_handled ?_)
 first | rw [show A.in1.handled = none from hh] | rw [hh]
 refine wpAny_bind (wpAny_pure (wpAny_throw ?_))
 exact hE _ _ (((Heap.SameBut.update ..).extBut.push _).push _) ⟨_,Heap.get?_push_size _ rfl,rfl⟩
theorem h_ {b:Bool} {it t:Addr} {i:Nat} {items:Array Value} {x:Value} {Q:Value → Shared → Prop} (hit:c8 b s.heap it t i) (ht:gB b s.heap t items) (hx:items[i]? = some x)
  (hQ:∀ h',c8 b h' it t (i + 1) → Heap.SameBut it s.heap h' → Q x { s with heap:=h' }):wpAny (model prog w) A (Builtin.SmallTypes.nextOf (.ref it)) Q E s:=by
 cases b with
 | true => exact wpAny_nextOf_list_item hit ht hx hQ
 | false => exact nI hit ht hx hQ
theorem lT {b:Bool} {it t:Addr} {i:Nat} {items:Array Value} {Q:Value → Shared → Prop} (hh:A.handled = none) (hit:c8 b s.heap it t i) (ht:gB b s.heap t items) (hx:items[i]? = none)
  (hE:∀ h' e,Heap.ExtBut it s.heap h' → (∃ o,h'.get? e = some o ∧ o.cls = .type "StopIteration") → E (.ref e) { s with heap:=h' }):wpAny (model prog w) A (Builtin.SmallTypes.nextOf (.ref it)) Q E s:=by
 cases b with
 | true => exact wpAny_nextOf_list_end hh hit ht hx hE
 | false => exact pv hh hit ht hx hE
end
end L2
namespace L2
open PySem PySem.Spec PyProof.Rows
noncomputable abbrev nJ (b:Bool) (l:Addr):Obj:={ cls:=.type (match b with | true => "list_iterator" | false => "tuple_iterator"),data:=.fields #[.ref l,.int 0 0] }
section
variable {prog:Program} {w:World} {A:Around} {E:Value → Shared → Prop} {s:Shared}
theorem c8.new (b:Bool) {h:Heap} {i l:Addr} (e:h.get? i = some (nJ b l)):c8 b h i l 0:=by
 cases b with
 | true => exact ⟨_,e,rfl,rfl⟩
 | false => exact ⟨_,e,rfl,rfl⟩
theorem nK {b:Bool} {l:Addr} {xs:Array Value} {Q:Value → Shared → Prop} (h:gB b s.heap l xs) (hQ:Q (.ref s.heap.objs.size) { s with heap:=s.heap.push (nJ b l) }):wpAny (model prog w) A (pyIter (.ref l)) Q E s:=by
 cases b with
 | true => exact wpAny_pyIter_list h hQ
 | false => exact wpAny_pyIter_tuple h hQ
theorem CS {b1 b2:Bool} {z TI TO i1 i2 l1 l2:Addr} {k1 k2:Nat} {xs ys:Array Value} {x y a b:Value} {Q:Value → Shared → Prop} (D:ZipApart z TI TO i1 i2 l1 l2)
  (hz:IsZip s.heap z TI TO .none) (qR:IsPair s.heap TI (.ref i1) (.ref i2)) (sH:IsPair s.heap TO a b) (h1:c8 b1 s.heap i1 l1 k1) (h2:c8 b2 s.heap i2 l2 k2) (kA:gB b1 s.heap l1 xs) (km:gB b2 s.heap l2 ys) (hx:xs[k1]? = some x) (hy:ys[k2]? = some y)
  (hQ:∀ h',IsZip h' z TI TO (rawInt s.heap.objs.size) → IsPair h' TO x y → c8 b1 h' i1 l1 (k1 + 1) → c8 b2 h' i2 l2 (k2 + 1) → IsPair h' s.heap.objs.size x y →
   (∀ c o,c ≠ z → c ≠ TO → c ≠ i1 → c ≠ i2 → s.heap.get? c = some o → h'.get? c = some o) → Q (.ref s.heap.objs.size) { s with heap:=h' }) :
  wpAny (model prog w) A (Builtin.«zip.__next__» ⟨[.ref z],[]⟩) (fun fin s' => ∃ v,fin = .done (.ret v) ∧ Q v s') E s:=by
 show wpAny _ _ (field (.ref z) 2 >>= _) _ _ _
 refine wpAny_bind (wpAny_field hz rfl (x:=.bool false) rfl ?_)
 show wpAny _ _ (field (.ref z) 3 >>= _) _ _ _
 refine wpAny_bind (wpAny_field hz rfl (x:=.ref TI) rfl (wpAny_bind (wpAny_seqItems qR rfl ?_)))
 show wpAny _ _ (Builtin.SmallTypes.ownedTupleIsFree (.ref z) >>= _) _ _ _
 refine wpAny_bind ?_
 unfold Builtin.SmallTypes.ownedTupleIsFree
 refine wpAny_bind (wpAny_field hz rfl (x:=.none) rfl (wpAny_pure ?_))
 simp only [if_true]
 refine wpAny_bind (wpAny_rule (wpAny_bind (wpAny_field hz rfl (x:=.ref TO) rfl (wpAny_bind (wpAny_setField_rec hz (by simp) fun g₁ lW s₁ => ?_)))))
 replace lW:IsZip g₁ z TI TO .ellipsis:=lW
 refine wpAny_bind ?_
 simp only [List.zipIdx_cons,List.zipIdx_nil,List.forIn_cons,List.forIn_nil]
 refine wpAny_bind (wpAny_bind (wpAny_onRaise ?_))
 show wpAny _ _ (Builtin.SmallTypes.nextOf (.ref i1) >>= _) _ _ _
 refine wpAny_bind (h_ (b:=b1) (h1.keep fun o e => s₁.extBut _ o D.i1z e) (kA.keep fun o e => s₁.extBut _ o D.l1z e) hx fun g₂ q₁ s₂ => wpAny_pure ?_)
 have t₂:IsPair g₂ TO a b:=s₂.extBut _ _ D.TOi1 (s₁.extBut _ _ D.TOz sH)
 refine wpAny_bind (wpAny_seqItems t₂ rfl (wpAny_bind (wpAny_updateSeq_pair t₂ fun g₃ t₃ s₃ => ?_)))
 replace t₃:IsPair g₃ TO x b:=t₃
 refine wpAny_bind (wpAny_letGo (wpAny_pure (wpAny_bind (wpAny_bind (wpAny_onRaise ?_)))))
 show wpAny _ _ (Builtin.SmallTypes.nextOf (.ref i2) >>= _) _ _ _
 refine wpAny_bind (h_ (b:=b2) (h2.keep fun o e => s₃.extBut _ o D.TOi2.symm (s₂.extBut _ o D.i12.symm (s₁.extBut _ o D.i2z e))) (km.keep fun o e => s₃.extBut _ o D.l2TO (s₂.extBut _ o D.l2i1 (s₁.extBut _ o D.l2z e))) hy fun g₄ q₂ s₄ => wpAny_pure ?_)
 have t₄:IsPair g₄ TO x b:=s₄.extBut _ _ D.TOi2 t₃
 refine wpAny_bind (wpAny_seqItems t₄ rfl (wpAny_bind (wpAny_updateSeq_pair t₄ fun g₅ t₅ s₅ => ?_)))
 replace t₅:IsPair g₅ TO x y:=t₅
 refine wpAny_bind (wpAny_letGo (wpAny_pure (wpAny_pure (wpAny_bind (wpAny_seqItems t₅ rfl (wpAny_bind (wpAny_newTuple ?_)))))))
 have sz:g₅.objs.size = s.heap.objs.size:=by rw [s₅.1,s₄.1,s₃.1,s₂.1,s₁.1]
 have z₅:IsZip g₅ z TI TO .ellipsis:=s₅.extBut _ _ D.TOz.symm (s₄.extBut _ _ D.i2z.symm (s₃.extBut _ _ D.TOz.symm (s₂.extBut _ _ D.i1z.symm lW)))
 have kp:∀ c o,c ≠ z → c ≠ TO → c ≠ i1 → c ≠ i2 → s.heap.get? c = some o → g₅.get? c = some o:=fun c o n1 n2 n3 n4 e => s₅.extBut _ _ n2 (s₄.extBut _ _ n4 (s₃.extBut _ _ n2 (s₂.extBut _ _ n3 (s₁.extBut _ _ n1 e))))
 have p₁:c8 b1 g₅ i1 l1 (k1 + 1):=q₁.keep fun o e => s₅.extBut _ o D.TOi1.symm (s₄.extBut _ o D.i12 (s₃.extBut _ o D.TOi1.symm e))
 have p₂:c8 b2 g₅ i2 l2 (k2 + 1):=q₂.keep fun o e => s₅.extBut _ o D.TOi2.symm e
 have Qu:z < g₅.objs.size:=Heap.lt_size z₅
 show wpAny _ _ (Builtin.SmallTypes.ownedTupleHandOut (.ref z) (.ref g₅.objs.size) >>= _) _ _ _
 refine wpAny_bind ?_
 unfold Builtin.SmallTypes.ownedTupleHandOut
 have z₆:IsZip (g₅.push { cls:=.type "tuple",data:=.seq #[x,y] }) z TI TO .ellipsis:=Heap.get?_push_of_some _ z₅
 refine wpAny_bind (wpAny_setField_rec z₆ (by simp) fun g₇ z₇ s₇ => ?_)
 replace z₇:IsZip g₇ z TI TO (rawInt g₅.objs.size):=z₇
 refine wpAny_setField_rec z₇ (by simp) fun g₈ z₈ s₈ => ?_
 replace z₈:IsZip g₈ z TI TO (rawInt g₅.objs.size):=z₈
 have up:∀ c o,c ≠ z → g₅.get? c = some o → g₈.get? c = some o:=fun c o n e => s₈.extBut _ _ n (s₇.extBut _ _ n (Heap.get?_push_of_some _ e))
 have t₈:IsPair g₈ g₅.objs.size x y:=s₈.extBut _ _ (Nat.ne_of_gt Qu) (s₇.extBut _ _ (Nat.ne_of_gt Qu) (Heap.get?_push_size _ rfl))
 rw [sz] at z₈ t₈
 refine wpAny_pure ⟨_,rfl,?_⟩
 show Q (.ref g₅.objs.size) _
 rw [sz]
 exact hQ g₈ z₈ (up _ _ D.TOz t₅) (p₁.keep fun o e => up _ o D.i1z e) (p₂.keep fun o e => up _ o D.i2z e) t₈ fun c o n1 n2 n3 n4 e => up c o n1 (kp c o n1 n2 n3 n4 e)
theorem Gu {b1 b2:Bool} {z TI TO i1 i2 l1 l2:Addr} {k1 k2:Nat} {xs ys:Array Value} {a b:Value} {Q:Fin → Shared → Prop} (hh:A.handled = none) (D:ZipApart z TI TO i1 i2 l1 l2)
  (hz:IsZip s.heap z TI TO .none) (qR:IsPair s.heap TI (.ref i1) (.ref i2)) (sH:IsPair s.heap TO a b) (h1:c8 b1 s.heap i1 l1 k1) (h2:c8 b2 s.heap i2 l2 k2) (kA:gB b1 s.heap l1 xs) (km:gB b2 s.heap l2 ys) (he:xs[k1]? = none ∨ ys[k2]? = none)
  (hE:∀ h' e,(∀ c o,c ≠ z → c ≠ TO → c ≠ i1 → c ≠ i2 → s.heap.get? c = some o → h'.get? c = some o) → (∃ o,h'.get? e = some o ∧ o.cls = .type "StopIteration") → E (.ref e) { s with heap:=h' }) :
  wpAny (model prog w) A (Builtin.«zip.__next__» ⟨[.ref z],[]⟩) Q E s:=by
 show wpAny _ _ (field (.ref z) 2 >>= _) _ _ _
 refine wpAny_bind (wpAny_field hz rfl (x:=.bool false) rfl ?_)
 show wpAny _ _ (field (.ref z) 3 >>= _) _ _ _
 refine wpAny_bind (wpAny_field hz rfl (x:=.ref TI) rfl (wpAny_bind (wpAny_seqItems qR rfl ?_)))
 show wpAny _ _ (Builtin.SmallTypes.ownedTupleIsFree (.ref z) >>= _) _ _ _
 refine wpAny_bind ?_
 unfold Builtin.SmallTypes.ownedTupleIsFree
 refine wpAny_bind (wpAny_field hz rfl (x:=.none) rfl (wpAny_pure ?_))
 simp only [if_true]
 refine wpAny_bind (wpAny_rule (wpAny_bind (wpAny_field hz rfl (x:=.ref TO) rfl (wpAny_bind (wpAny_setField_rec hz (by simp) fun g₁ lW s₁ => ?_)))))
 replace lW:IsZip g₁ z TI TO .ellipsis:=lW
 refine wpAny_bind ?_
 simp only [List.zipIdx_cons,List.zipIdx_nil,List.forIn_cons,List.forIn_nil]
 refine wpAny_bind (wpAny_bind (wpAny_onRaise ?_))
 show wpAny _ _ (Builtin.SmallTypes.nextOf (.ref i1) >>= _) _ _ _
 cases hx:xs[k1]? with
 | none =>
  refine wpAny_bind (lT (b:=b1) hh (h1.keep fun o e => s₁.extBut _ o D.i1z e) (kA.keep fun o e => s₁.extBut _ o D.l1z e) hx fun g₂ e s₂ ⟨oe,CT,ce⟩ => ?_)
  have z₂:IsZip g₂ z TI TO .ellipsis:=s₂ _ _ D.i1z.symm lW
  have N5:e ≠ z:=fun q => by subst q; rw [z₂] at CT; cases CT; simp at ce
  exact wpAny_setField_rec z₂ (by simp) fun g₃ _ s₃ => hE g₃ e (fun c o n1 _ n3 _ q => s₃.extBut _ _ n1 (s₂ _ _ n3 (s₁.extBut _ _ n1 q))) ⟨oe,s₃.extBut _ _ N5 CT,ce⟩
 | some x =>
  have hy:ys[k2]? = none:=by
   rcases he with q | q
   ·rw [hx] at q; cases q
   ·exact q
  refine wpAny_bind (h_ (b:=b1) (h1.keep fun o e => s₁.extBut _ o D.i1z e) (kA.keep fun o e => s₁.extBut _ o D.l1z e) hx fun g₂ q₁ s₂ => wpAny_pure ?_)
  have t₂:IsPair g₂ TO a b:=s₂.extBut _ _ D.TOi1 (s₁.extBut _ _ D.TOz sH)
  refine wpAny_bind (wpAny_seqItems t₂ rfl (wpAny_bind (wpAny_updateSeq_pair t₂ fun g₃ t₃ s₃ => ?_)))
  refine wpAny_bind (wpAny_letGo (wpAny_pure (wpAny_bind (wpAny_bind (wpAny_onRaise ?_)))))
  show wpAny _ _ (Builtin.SmallTypes.nextOf (.ref i2) >>= _) _ _ _
  refine wpAny_bind (lT (b:=b2) hh (h2.keep fun o e => s₃.extBut _ o D.TOi2.symm (s₂.extBut _ o D.i12.symm (s₁.extBut _ o D.i2z e))) (km.keep fun o e => s₃.extBut _ o D.l2TO (s₂.extBut _ o D.l2i1 (s₁.extBut _ o D.l2z e))) hy fun g₄ e s₄ ⟨oe,CT,ce⟩ => ?_)
  have z₄:IsZip g₄ z TI TO .ellipsis:=s₄ _ _ D.i2z.symm (s₃.extBut _ _ D.TOz.symm (s₂.extBut _ _ D.i1z.symm lW))
  have N5:e ≠ z:=fun q => by subst q; rw [z₄] at CT; cases CT; simp at ce
  exact wpAny_setField_rec z₄ (by simp) fun g₅ _ s₅ => hE g₅ e (fun c o n1 n2 n3 n4 q => s₅.extBut _ _ n1 (s₄ _ _ n4 (s₃.extBut _ _ n2 (s₂.extBut _ _ n3 (s₁.extBut _ _ n1 q))))) ⟨oe,s₅.extBut _ _ N5 CT,ce⟩
theorem xW {b1 b2:Bool} {z TI TO i1 i2 l1 l2:Addr} {k1 k2:Nat} {xs ys:Array Value} {x y a b:Value} {Q:Option Value → Shared → Prop} (D:ZipApart z TI TO i1 i2 l1 l2)
  (hz:IsZip s.heap z TI TO .none) (qR:IsPair s.heap TI (.ref i1) (.ref i2)) (sH:IsPair s.heap TO a b) (h1:c8 b1 s.heap i1 l1 k1) (h2:c8 b2 s.heap i2 l2 k2) (kA:gB b1 s.heap l1 xs) (km:gB b2 s.heap l2 ys) (hx:xs[k1]? = some x) (hy:ys[k2]? = some y)
  (hQ:∀ h',IsZip h' z TI TO (rawInt s.heap.objs.size) → IsPair h' TO x y → c8 b1 h' i1 l1 (k1 + 1) → c8 b2 h' i2 l2 (k2 + 1) → IsPair h' s.heap.objs.size x y →
   (∀ c o,c ≠ z → c ≠ TO → c ≠ i1 → c ≠ i2 → s.heap.get? c = some o → h'.get? c = some o) → Q (some (.ref s.heap.objs.size)) { s with heap:=h' }):wpAny (model prog w) A (pyNext (.ref z)) Q E s:=by
 have tz:s.TypeIs (.ref z) "zip":=⟨_,hz,rfl⟩
 unfold pyNext
 exact wpAny_bind (wpAny_attempt (wpAny_callSpecial?_slot (name:=Str.ofString "__next__") tz F.slot_zip_next
  (wpAny_call_entry F.slot_zip_next tz F.entry_zip_next (CS (b1:=b1) (b2:=b2) D hz qR sH h1 h2 kA km hx hy fun h' a1 a2 a3 a4 a5 a6 => wpAny_pure (hQ h' a1 a2 a3 a4 a5 a6)) (F.args_zip_next_1 _))))
theorem zZ {b1 b2:Bool} {z TI TO i1 i2 l1 l2:Addr} {k1 k2:Nat} {xs ys:Array Value} {a b:Value} {Q:Option Value → Shared → Prop} (hh:A.handled = none) (D:ZipApart z TI TO i1 i2 l1 l2)
  (hz:IsZip s.heap z TI TO .none) (qR:IsPair s.heap TI (.ref i1) (.ref i2)) (sH:IsPair s.heap TO a b) (h1:c8 b1 s.heap i1 l1 k1) (h2:c8 b2 s.heap i2 l2 k2) (kA:gB b1 s.heap l1 xs) (km:gB b2 s.heap l2 ys) (he:xs[k1]? = none ∨ ys[k2]? = none)
  (hQ:∀ h',(∀ c o,c ≠ z → c ≠ TO → c ≠ i1 → c ≠ i2 → s.heap.get? c = some o → h'.get? c = some o) → Q none { s with heap:=h' }):wpAny (model prog w) A (pyNext (.ref z)) Q E s:=by
 have tz:s.TypeIs (.ref z) "zip":=⟨_,hz,rfl⟩
 unfold pyNext
 refine wpAny_bind (wpAny_attempt (wpAny_callSpecial?_slot (name:=Str.ofString "__next__") tz F.slot_zip_next
  (wpAny_call_entry F.slot_zip_next tz F.entry_zip_next (Gu (b1:=b1) (b2:=b2) hh D hz qR sH h1 h2 kA km he fun h' e hk he => ?_) (F.args_zip_next_1 _))))
 obtain ⟨o,ho,hc⟩:=he
 exact wpAny_bind (wpAny_isInstance (T:="StopIteration") (b:=true) ⟨o,ho,hc⟩ isSubtype_stop (wpAny_pure (hQ _ hk)))
noncomputable abbrev Ml (b1:Bool) (h:Heap) (l1:Addr):Heap:=h.push (nJ b1 l1)
noncomputable abbrev Mm (b1 b2:Bool) (h:Heap) (l1 l2:Addr):Heap:=(Ml b1 h l1).push (nJ b2 l2)
noncomputable abbrev Mn (b1 b2:Bool) (h:Heap) (l1 l2:Addr):Heap:=(Mm b1 b2 h l1 l2).push { cls:=.type "tuple",data:=.seq #[.ref h.objs.size,.ref (Ml b1 h l1).objs.size] }
noncomputable abbrev Mo (b1 b2:Bool) (h:Heap) (l1 l2:Addr):Heap:=(Mn b1 b2 h l1 l2).push { cls:=.type "tuple",data:=.seq #[.none,.none] }
noncomputable abbrev IU (b1 b2:Bool) (h:Heap) (l1 l2:Addr):Heap:=(Mo b1 b2 h l1 l2).push { cls:=.type "zip",data:=.fields #[.none,.bool false,.bool false,.ref (Mm b1 b2 h l1 l2).objs.size,.ref (Mn b1 b2 h l1 l2).objs.size] }
theorem z5 (b1 b2:Bool) (l1 l2:Addr) (xs ys:Array Value) :
  Meets (Builtin.«zip.__new__» ⟨[.type "zip",.ref l1,.ref l2],[]⟩) (fun _ R s => gB b1 s.heap l1 xs ∧ gB b2 s.heap l2 ys ∧ R (.ok (.ret (.ref (Mo b1 b2 s.heap l1 l2).objs.size))) { s with heap:=IU b1 b2 s.heap l1 l2 }) :=
 .of_wp fun prog w A R s h => by
  obtain ⟨hp,g,d,tk,os⟩:=s
  obtain ⟨q1,q2,h⟩:=h
  have Kl:=sub_zip
  have w1:gB b1 (Shared.heap ⟨hp,g,d,tk,os⟩) l1 xs:=q1
  have w2:gB b2 (Shared.heap ⟨hp.push (nJ b1 l1),g,d,tk,os⟩) l2 ys:=q2.keep fun o e => Heap.get?_push_of_some _ e
  wp_walk using nK w1,nK w2
  exact ⟨_,rfl,h⟩
theorem z8 {b1 b2:Bool} {l1 l2:Addr} {xs ys:Array Value} {Q:Value → Shared → Prop} (kA:gB b1 s.heap l1 xs) (km:gB b2 s.heap l2 ys)
  (h:∀ h',IsZip h' (s.heap.objs.size + 4) (s.heap.objs.size + 2) (s.heap.objs.size + 3) .none → IsPair h' (s.heap.objs.size + 2) (.ref s.heap.objs.size) (.ref (s.heap.objs.size + 1)) → IsPair h' (s.heap.objs.size + 3) .none .none →
   c8 b1 h' s.heap.objs.size l1 0 → c8 b2 h' (s.heap.objs.size + 1) l2 0 → (∀ c o,s.heap.get? c = some o → h'.get? c = some o) → Q (.ref (s.heap.objs.size + 4)) { s with heap:=h' }) :
  wpAny (model prog w) A (call (.type "zip") [.ref l1,.ref l2]) Q E s:=by
 refine callType_new F.called_zip (by decide) (F.typeCall_zip_2 _ _) (F.newCall_zip_2 _ _) (fun obj => F.args_object_init_3 obj _ _) F.entry_zip_new (z5 b1 b2 l1 l2 xs ys) ⟨kA,km,?_⟩
 have z1:(Ml b1 s.heap l1).objs.size = s.heap.objs.size + 1:=Heap.size_push ..
 have z2:(Mm b1 b2 s.heap l1 l2).objs.size = s.heap.objs.size + 2:=by rw [Heap.size_push,z1]
 have z3:(Mn b1 b2 s.heap l1 l2).objs.size = s.heap.objs.size + 3:=by rw [Heap.size_push,z2]
 have z4:(Mo b1 b2 s.heap l1 l2).objs.size = s.heap.objs.size + 4:=by rw [Heap.size_push,z3]
 have g5:(IU b1 b2 s.heap l1 l2).get? (Mo b1 b2 s.heap l1 l2).objs.size = some _:=Heap.get?_push_size _ rfl
 have g4:(IU b1 b2 s.heap l1 l2).get? (Mn b1 b2 s.heap l1 l2).objs.size = some _:=Heap.get?_push_of_some _ (Heap.get?_push_size _ rfl)
 have g3:(IU b1 b2 s.heap l1 l2).get? (Mm b1 b2 s.heap l1 l2).objs.size = some _:=Heap.get?_push_of_some _ (Heap.get?_push_of_some _ (Heap.get?_push_size _ rfl))
 have g2:(IU b1 b2 s.heap l1 l2).get? (Ml b1 s.heap l1).objs.size = some (nJ b2 l2):=Heap.get?_push_of_some _ (Heap.get?_push_of_some _ (Heap.get?_push_of_some _ (Heap.get?_push_size _ rfl)))
 have g1:(IU b1 b2 s.heap l1 l2).get? s.heap.objs.size = some (nJ b1 l1):=Heap.get?_push_of_some _ (Heap.get?_push_of_some _ (Heap.get?_push_of_some _ (Heap.get?_push_of_some _ (Heap.get?_push_size _ rfl))))
 show _ ∧ _
 rw [z2,z3,z4] at g5
 rw [z1,z2] at g3
 rw [z3] at g4
 rw [z1] at g2
 rw [z4]
 exact ⟨⟨_,g5,rfl⟩,h _ g5 g3 g4 (.new b1 g1) (.new b2 g2) fun c o x => Heap.get?_push_of_some _ (Heap.get?_push_of_some _ (Heap.get?_push_of_some _ (Heap.get?_push_of_some _ (Heap.get?_push_of_some _ x))))⟩
end
noncomputable def ve (b:Bool) (K:PySem.W.Frag) (H:Hp) (a:Addr) (xs:List V):Prop:=match b with | true => iG K H a xs | false => jD K H a xs
theorem aS.IV {X:Cx} {af:List (Addr × Obj)} {σ:St} {H:Hp} {s:Shared} {b:Bool} {a:Addr} {xs:List V} (I:aS X af σ H s) (h:ve b X.K H a xs):∃ aO:List Value,bo xs aO ∧ gB b s.heap a aO.toArray ∧ xs.length ≤ sizeLine:=by
 cases b with
 | true => obtain ⟨aO,r,p,z⟩:=I.list h; exact ⟨aO,r,p.isList,z⟩
 | false => obtain ⟨aO,r,p,z⟩:=I.tuple h; exact ⟨aO,r,p,z⟩
theorem aS.wC {X:Cx} {af:List (Addr × Obj)} {σ:St} {H:Hp} {s:Shared} {b:Bool} {a:Addr} {xs ys:List V} (I:aS X af σ H s) (h:ve b X.K H a xs) (h':ve b X.K H a ys):xs = ys:=by
 cases b with
 | true => exact I.iK h h'
 | false => exact I.kx h h'
theorem aS.EM {X:Cx} {af:List (Addr × Obj)} {σ:St} {H:Hp} {s:Shared} {b:Bool} {l c:Addr} {zs:List V} (I:aS X af σ H s) (hs:ve b X.K H l zs) (f:pe X af H c):l ≠ c:=by
 intro q
 have mo:∀ o,X.K.lookup l = some o → False:=fun o hk => by
  have e:=I.mod.Ex l o hk
  rcases f.2.2.2.1 with z | z
  ·exact I.ok.sO l o e (by rw [q]; exact z)
  ·exact absurd (Nat.lt_of_lt_of_le (Heap.lt_size (I.ok.bs l o e).1) (by rw [q]; exact z)) (Nat.lt_irrefl _)
 have tr:∀ o,H l = some o → False:=fun o e => by rw [q,f.1] at e; cases e
 cases b with
 | true =>
  rcases (show iG X.K H l zs from hs) with (r | ⟨o,r⟩) | ⟨o,aO,n,hk,_⟩
  ·exact tr _ r
  ·exact tr _ r
  ·exact mo o hk
 | false =>
  rcases (show jD X.K H l zs from hs) with (r | ⟨o,r⟩) | ⟨o,aO,n,hk,_⟩
  ·exact tr _ r
  ·exact tr _ r
  ·exact mo o hk
noncomputable def Qv (K:PySem.W.Frag) (b1 b2:Bool) (a b:Addr):It :=
 ⟨fun i H => ∃ xs ys x y,ve b1 K H a xs ∧ ve b2 K H b ys ∧ xs[i]? = some x ∧ ys[i]? = some y,
  fun i H v H' => ∃ p x y,v = .ref p ∧ H p = none ∧ H' = upd H p (.tup [x,y]) ∧ (∀ xs,ve b1 K H a xs → xs[i]? = some x) ∧ ∀ ys,ve b2 K H b ys → ys[i]? = some y,
  fun i H => ∃ xs ys,ve b1 K H a xs ∧ ve b2 K H b ys ∧ (xs.length ≤ i ∨ ys.length ≤ i)⟩
theorem z_ {P:Program} {w:World} {K:PySem.W.Frag} {elts:List Expr} {kt:Nat} {tp:Pos} {b1 b2:Bool} {z TI TO i1 i2:Addr} (a b:Addr) (ne:z ≠ TI ∧ z ≠ TO ∧ z ≠ i1 ∧ z ≠ i2 ∧ TI ≠ TO ∧ TI ≠ i1 ∧ TI ≠ i2 ∧ TO ≠ i1 ∧ TO ≠ i2 ∧ i1 ≠ i2) :
  Turn P w K (.Tuple elts kt tp) (Qv K b1 b2 a b) [z,TI,TO,i1,i2] z (fun i h => IsZip h z TI TO .none ∧ IsPair h TI (.ref i1) (.ref i2) ∧ (∃ u v,IsPair h TO u v) ∧ c8 b1 h i1 a i ∧ c8 b2 h i2 b i) where
 mem:=by simp
 obj:=fun i h ⟨hz,qR,⟨u,v,sH⟩,h1,h2⟩ c hc => by
  have c7:c = z ∨ c = TI ∨ c = TO ∨ c = i1 ∨ c = i2:=by simpa using hc
  rcases c7 with rfl | rfl | rfl | rfl | rfl
  ·exact ⟨_,hz,fun v q => by have q':Data.fields _ = Data.cell v:=q; cases q'⟩
  ·exact ⟨_,qR,fun v q => by have q':Data.seq _ _ = Data.cell v:=q; cases q'⟩
  ·exact ⟨_,sH,fun v q => by have q':Data.seq _ _ = Data.cell v:=q; cases q'⟩
  ·obtain ⟨o,n,vs,e,_,d⟩:=h1.there
   exact ⟨o,e,fun v q => by rw [d] at q; cases q⟩
  ·obtain ⟨o,n,vs,e,_,d⟩:=h2.there
   exact ⟨o,e,fun v q => by rw [d] at q; cases q⟩
 keep:=fun i h h' ⟨hz,qR,⟨u,v,sH⟩,h1,h2⟩ k => ⟨k z (by simp) _ hz,k TI (by simp) _ qR,⟨u,v,k TO (by simp) _ sH⟩,h1.keep fun o e => k i1 (by simp) o e,h2.keep fun o e => k i2 (by simp) o e⟩
 item:=by
  intro X hP hw hK hc i af s σ H E I hf st hg
  subst hP hw hK
  obtain ⟨hz,qR,⟨u,v,sH⟩,h1,h2⟩:=st
  obtain ⟨xs,ys,x,y,sx,sy,ex,ey⟩:=hg
  obtain ⟨aO,rv,p,_⟩:=I.IV sx
  obtain ⟨d6,Mp,p2,_⟩:=I.IV sy
  obtain ⟨ux,N6,rx⟩:=rv.get ex
  obtain ⟨uy,R5,ry⟩:=Mp.get ey
  obtain ⟨n1,n2,n3,n4,n5,n6,n7,n8,n9,N7⟩:=ne
  have fz:=hf z (by simp)
  have fm:∀ {b:Bool} {l:Addr} {zs:List V},ve b X.K H l zs → ∀ c ∈ [z,TI,TO,i1,i2],l ≠ c:=fun {b l zs} hs c c7 => I.EM hs (hf c c7)
  have D:ZipApart z TI TO i1 i2 a b:=⟨n1.symm,n2.symm,n3.symm,n4.symm,n5,n6,n7,n8,n9,N7,fm sx z (by simp),fm sx TO (by simp),fm sx i1 (by simp),fm sx i2 (by simp),fm sy z (by simp),fm sy TO (by simp),fm sy i1 (by simp),fm sy i2 (by simp)⟩
  refine xW (b1:=b1) (b2:=b2) D hz qR sH h1 h2 p p2 (x:=ux) (y:=uy) (by simpa using N6) (by simpa using R5) fun h' a1 a2 a3 a4 a5 a6 => ⟨_,rfl,?_⟩
  have hT:H s.heap.objs.size = none:=I.b?.fresh (Nat.le_refl _)
  have Km:∀ c ∈ [z,TO,i1,i2],H c = none:=fun c c7 => (hf c (by simp at c7 ⊢; rcases c7 with q | q | q | q <;> simp [q])).1
  have kp:∀ c o,c ∉ [z,TO,i1,i2] → s.heap.get? c = some o → h'.get? c = some o:=fun c o c7 e => a6 c o (fun q => c7 (by simp [q])) (fun q => c7 (by simp [q])) (fun q => c7 (by simp [q])) (fun q => c7 (by simp [q])) e
  have sN:∀ c o,H c = some o → c ∉ [z,TO,i1,i2]:=fun c o e c7 => by rw [Km c c7] at e; cases e
  have b?:gZ X.prog X.w (upd H s.heap.objs.size (.tup [x,y])) h':=fun c o e => by
   by_cases Kn:c = s.heap.objs.size
   ·subst Kn
    rw [cm] at e
    cases e
    exact ⟨by show 2 ≤ sizeLine; decide,[ux,uy],.cons rx (.cons ry .nil),_,a5,rfl,_,rfl⟩
   ·rw [bq Kn] at e
    refine (I.b? c o e).kq (fun d v hd q => kp d v ?_ q) (fun d q => by rw [bq (br q hT)]; exact q) fun d zs q => by rw [bq (br q hT)]; exact q
    rcases hd with q' | q'
    ·rw [q']; exact sN c o e
    ·exact sN d _ q'
  have un:Un (fD X.stack) [z,TO,i1,i2] H (upd H s.heap.objs.size (.tup [x,y])) s.heap h' :=
   ⟨fun c o e n _ c7 => kp c o c7 e,fun c o e n _ c7 => ⟨o.slots,kp c o c7 e⟩,fun c o e n c7 => by rw [bq (Nat.ne_of_lt (Heap.lt_size e))]; exact n,fun c o e c7 => ⟨o,kp c o c7 e⟩,
    fun c zs e => by rw [bq (br e hT)]; exact e,fun c o u e => by rw [bq (br e hT)]; exact e,fun c ps e => ⟨#[],by rw [bq (br e hT),e]; simp⟩⟩
  have I1:aS X af σ (upd H s.heap.objs.size (.tup [x,y])) { s with heap:=h' }:=I.sP rfl un b? I.bare fun c c7 => by
   obtain ⟨f0,f1,f2,f3,f4,f5⟩:=hf c (by simp at c7 ⊢; rcases c7 with q | q | q | q <;> simp [q])
   exact ⟨f3,f1,f4,f5⟩
  have N8:∀ c ∈ [z,TI,TO,i1,i2],c ≠ s.heap.objs.size:=fun c c7 q => by
   have zh:c < s.heap.objs.size:=by
    have Gv:c = z ∨ c = TI ∨ c = TO ∨ c = i1 ∨ c = i2:=by simpa using c7
    rcases Gv with r | r | r | r | r
    ·rw [r]; exact Heap.lt_size hz
    ·rw [r]; exact Heap.lt_size qR
    ·rw [r]; exact Heap.lt_size sH
    ·obtain ⟨o,_,_,e,_⟩:=h1.there; rw [r]; exact Heap.lt_size e
    ·obtain ⟨o,_,_,e,_⟩:=h2.there; rw [r]; exact Heap.lt_size e
   exact absurd zh (by rw [q]; exact Nat.lt_irrefl _)
  have Ko:∀ c ∈ [z,TI,TO,i1,i2],(upd H s.heap.objs.size (.tup [x,y])) c = none:=fun c c7 => by rw [bq (N8 c c7)]; exact (hf c c7).1
  refine wpAny_letOwnedTupleGo_zip a1 fun CU N9 sb => ?_
  obtain ⟨f0,f1,f2,f3,f4,f5⟩:=fz
  have I2:aS X af σ (upd H s.heap.objs.size (.tup [x,y])) { s with heap:=CU }:=I1.turned (s:={ s with heap:=h' }) (t':=s.toks) (it:=z) (fun c o c7 e => (sb.2 c c7).trans e) (Ko z (by simp)) f1 f3 f4 f5
  refine ⟨.ref s.heap.objs.size,_,I2,rfl,⟨_,x,y,rfl,hT,rfl,fun zs hs => by rw [I.wC hs sx]; exact ex,fun zs hs => by rw [I.wC hs sy]; exact ey⟩,⟨N9,?_,⟨_,_,sb.extBut _ _ n2.symm a2⟩,a3.keep fun o e => sb.extBut _ o n3.symm e,a4.keep fun o e => sb.extBut _ o n4.symm e⟩,Ko⟩
  exact sb.extBut _ _ n1.symm (a6 _ _ n1.symm n5 n6 n7 qR)
 done:=by
  intro X hP hw hK hc i af s σ H E I hf st hg
  subst hP hw hK
  obtain ⟨hz,qR,⟨u,v,sH⟩,h1,h2⟩:=st
  obtain ⟨xs,ys,sx,sy,hl⟩:=hg
  obtain ⟨aO,rv,p,_⟩:=I.IV sx
  obtain ⟨d6,Mp,p2,_⟩:=I.IV sy
  have l1:=rv.length
  have l2:=Mp.length
  obtain ⟨n1,n2,n3,n4,n5,n6,n7,n8,n9,N7⟩:=ne
  have fm:∀ {b:Bool} {l:Addr} {zs:List V},ve b X.K H l zs → ∀ c ∈ [z,TI,TO,i1,i2],l ≠ c:=fun {b l zs} hs c c7 => I.EM hs (hf c c7)
  have D:ZipApart z TI TO i1 i2 a b:=⟨n1.symm,n2.symm,n3.symm,n4.symm,n5,n6,n7,n8,n9,N7,fm sx z (by simp),fm sx TO (by simp),fm sx i1 (by simp),fm sx i2 (by simp),fm sy z (by simp),fm sy TO (by simp),fm sy i1 (by simp),fm sy i2 (by simp)⟩
  refine zZ (b1:=b1) (b2:=b2) (I.ok.hd hc) D hz qR sH h1 h2 p p2 (by rcases hl with q | q; exact .inl (by simp; lia); exact .inr (by simp; lia)) fun h' a6 => ⟨rfl,?_⟩
  have Km:∀ c ∈ [z,TO,i1,i2],H c = none:=fun c c7 => (hf c (by simp at c7 ⊢; rcases c7 with q | q | q | q <;> simp [q])).1
  have kp:∀ c o,c ∉ [z,TO,i1,i2] → s.heap.get? c = some o → h'.get? c = some o:=fun c o c7 e => a6 c o (fun q => c7 (by simp [q])) (fun q => c7 (by simp [q])) (fun q => c7 (by simp [q])) (fun q => c7 (by simp [q])) e
  have sN:∀ c o,H c = some o → c ∉ [z,TO,i1,i2]:=fun c o e c7 => by rw [Km c c7] at e; cases e
  have b?:gZ X.prog X.w H h':=fun c o e => by
   refine (I.b? c o e).kq (fun d v hd q => kp d v ?_ q) (fun d q => q) fun d zs q => q
   rcases hd with q' | q'
   ·rw [q']; exact sN c o e
   ·exact sN d _ q'
  have un:Un (fD X.stack) [z,TO,i1,i2] H H s.heap h' :=
   ⟨fun c o e n _ c7 => kp c o c7 e,fun c o e n _ c7 => ⟨o.slots,kp c o c7 e⟩,fun c o e n c7 => n,fun c o e c7 => ⟨o,kp c o c7 e⟩,fun c zs e => e,fun c o u e => e,fun c ps e => ⟨#[],by rw [e]; simp⟩⟩
  exact I.sP rfl un b? I.bare fun c c7 => by
   obtain ⟨f0,f1,f2,f3,f4,f5⟩:=hf c (by simp at c7 ⊢; rcases c7 with q | q | q | q <;> simp [q])
   exact ⟨f3,f1,f4,f5⟩
 self:=fun _ _ _ _ _ st h => wpAny_pyIter_zip st.1 h
section
variable {X:Cx} {elts:List Expr} {kt:Nat} {tp p pos:Pos}
noncomputable def N_ (K:PySem.W.Frag) (b1 b2:Bool) (ta:TA):TI:=fun σ H R => ta σ H fun vs H1 => ∃ a b,vs = [.ref a,.ref b] ∧ (∃ xs,ve b1 K H1 a xs) ∧ (∃ ys,ve b2 K H1 b ys) ∧ R (Qv K b1 b2 a b) H1
theorem Gw (b1 b2:Bool) {ea eb:Expr} {ta:TA} (hg:Gl X "zip") (hm:X.mg "zip" = none) (ha:PA X [ea,eb] ta) (hs:starEach [ea,eb] X.env = [(false,eval ea X.env),(false,eval eb X.env)]:=by rfl) (gz:starEach [eb] X.env = [(false,eval eb X.env)]:=by rfl) :
  PI X (.Tuple elts kt tp) (.Call (.Name "zip" p) [ea,eb] [] pos) (N_ X.K b1 b2 ta):=by
 intro af s σ H R I h
 refine Call_ (g6 I hg hm boot_zip (PyProof.Rows.callWith_type1 (cR (ha pos af s σ H _ I h) fun us s1 ⟨vs,H1,I1,r1,q1⟩ => ?_) (by rw [hs,gz]) (by rw [gz]; rfl)))
 obtain ⟨a,b,e,⟨xs,sx⟩,⟨ys,sy⟩,q⟩:=q1
 subst e
 obtain ⟨u,u2,rfl,ru,Gx⟩:=vals2 r1
 cases ru
 cases Gx
 obtain ⟨aO,rv,p1,_⟩:=I1.IV sx
 obtain ⟨d6,Mp,p2,_⟩:=I1.IV sy
 refine z8 (b1:=b1) (b2:=b2) p1 p2 fun h' hz qR sH g1 g2 kp => wpAny_pyIter_zip hz ?_
 have I2:aS X af σ H1 { s1 with heap:=h' }:=I1.kept (t':=s1.toks) kp
 refine ⟨_,[s1.heap.objs.size + 4,s1.heap.objs.size + 2,s1.heap.objs.size + 3,s1.heap.objs.size,s1.heap.objs.size + 1],_,_,H1,rfl,I2,z_ (b1:=b1) (b2:=b2) a b ?_,⟨hz,qR,⟨_,_,sH⟩,g1,g2⟩,fun c hc => ?_,q⟩
 ·refine ⟨?_,?_,?_,?_,?_,?_,?_,?_,?_,?_⟩ <;> (intro z; have z':(_:Nat) = _:=z; lia)
 ·have hle:s1.heap.objs.size ≤ c:=by
   have c7:c = s1.heap.objs.size + 4 ∨ c = s1.heap.objs.size + 2 ∨ c = s1.heap.objs.size + 3 ∨ c = s1.heap.objs.size ∨ c = s1.heap.objs.size + 1:=by simpa using hc
   rcases c7 with r | r | r | r | r <;> (rw [r]; first | exact Nat.le_refl _ | exact Nat.le_add_right _ _)
  exact I1.uW hle (I1.b?.fresh hle)
end
end L2
namespace L2
open PySem PySem.Spec PyProof.Rows
theorem cL.there {P:Program} {w:World} {H:Hp} {h:Heap} {a:Addr} {o:HO} (x:cL P w H h a o):∃ ob,h.get? a = some ob:=by
 cases o with
 | lst xs => obtain ⟨_,_,_,_,e⟩:=x; exact ⟨_,e⟩
 | tup xs => obtain ⟨_,_,_,ob,e,_⟩:=x; exact ⟨_,e⟩
 | dK kvs => obtain ⟨_,_,_,_,o,_,_,e,_⟩:=x; exact ⟨_,e⟩
 | dT kvs => obtain ⟨_,_,_,_,o,_,_,e,_⟩:=x; exact ⟨_,e⟩
 | set S n => obtain ⟨o,_,_,_,e,_⟩:=x; exact ⟨_,e⟩
 | ins C dx fs => obtain ⟨_,_,_,e,_⟩:=x; exact ⟨_,e⟩
 | own y => obtain ⟨_,e⟩:=x; exact ⟨_,e⟩
 | xd fs => obtain ⟨_,⟨_,_,_,e,_⟩,_⟩:=x; exact ⟨_,e⟩
 | BW lo hi => obtain ⟨_,_,_,e⟩:=x; exact ⟨_,e⟩
 | jB ob u => obtain ⟨e,_⟩:=x; exact ⟨_,e⟩
 | BX ps => exact ⟨_,(show h.get? a = some _ from x)⟩
 | met f y => exact ⟨_,(show h.get? a = some _ from x)⟩
 | ext φ => obtain ⟨_,e,_⟩:=x; exact e
structure Qw (P:Program) (w:World) (l:List Env) (H H':Hp) (s s':Shared) (ea:Addr) (cls:Value):Prop where
 os:s'.os = s.os
 bare:AllBare s'.gens
 un:Un (fD l) [] H H' s.heap s'.heap
 b?:gZ P w H' s'.heap
 fl:∃ (B:Heap) (t:Addr),Heap.FlyingW B l ea cls (.ref t) s'.heap ∧ (∀ b,H' b ≠ none → ∃ o,B.get? b = some o) ∧ (∀ b o,s.heap.get? b = some o → b ∉ fD l → ∃ o',B.get? b = some o')
noncomputable def jR (P:Program) (w:World):uO:=fun outer H s E e s' => ∃ ea cls H',e = .ref ea ∧ Qw P w outer H H' s s' ea cls ∧ E cls none H'
section
variable {P:Program} {w:World} {K:PySem.W.Frag} {mg:Str → Option Value} {base:Heap} {N:List Str} {qual:Str} {scope:Scope} {f:Addr} {cd:Value} {A:Around} {outer:List Env} {s₀:Shared} {H₀:Hp} {E:XK}
theorem s? {env:Env} {L:Addr} (hf:env.frame = some L) (l:List Env):fD (env :: l) = L :: fD l:=by
 unfold fD
 rw [List.filterMap_cons,hf]
theorem xX {af:List (Addr × Obj)} {σ:St} {H:Hp} {s:Shared} {h':Heap} {e:Addr} {cls:Value} {vs:List Value} (I:aS (gA (jR P w) P w K mg base N qual scope f cd A outer s₀ H₀ E) af σ H s)
  (hx:Heap.MadeExcOf s.heap h' e cls vs) (hE:E cls none H):(gA (jR P w) P w K mg base N qual scope f cd A outer s₀ H₀ E).xe (.ref e) { s with heap:=h' }:=by
 have sG:=I.stack
 have wj:=I.qv
 have Kp:(A.deeper (envOfC qual scope s₀.heap.objs.size f cd)).frames = some (envOfC qual scope s₀.heap.objs.size f cd :: outer):=I.ok.frames
 have Kq:fD (envOfC qual scope s₀.heap.objs.size f cd :: outer) = s₀.heap.objs.size :: fD outer:=s? rfl outer
 have EN:∀ env ∈ (envOfC qual scope s₀.heap.objs.size f cd :: outer),∀ b,env.frame = some b → b ∈ fD (envOfC qual scope s₀.heap.objs.size f cd :: outer):=fun env he b hb => List.mem_filterMap.mpr ⟨env,he,hb⟩
 have EO:∀ b o,s₀.heap.get? b = some o → b ∉ fD outer → b ∉ fD (envOfC qual scope s₀.heap.objs.size f cd :: outer):=fun b o q hb hm => by
  rw [Kq] at hm
  rcases List.mem_cons.mp hm with z | z
  ·exact absurd (Heap.lt_size q) (by rw [z]; exact Nat.lt_irrefl _)
  ·exact hb z
 refine wpAny_leaves_madeW (base:=PySem.W.hideAll s.heap (fD (envOfC qual scope s₀.heap.objs.size f cd :: outer))) (h:=s.heap) Kp rfl (fun b o q => PySem.W.of_hideAll _ q) (PySem.W.funFrames_hide sG EN) hx fun CU t fl _ _ up => ?_
 have stays:∀ b o,s.heap.get? b = some o → b ∉ fD (envOfC qual scope s₀.heap.objs.size f cd :: outer) → CU.get? b = some o:=fun b o q hb => fl.1 b o (PySem.W.hideAll_get _ q hb)
 have sN:∀ b u,H b = some u → b ∉ fD (envOfC qual scope s₀.heap.objs.size f cd :: outer):=fun b u q hb => by rw [wj b hb] at q; cases q
 have slot:∀ b o,s₀.heap.get? b = some o → H₀ b = none → b ∈ fD outer → ∃ sl,CU.get? b = some { o with slots:=sl }:=fun b o q n hb => by
  obtain ⟨sl,e1⟩:=I.base.slot b o q n hb (by intro z; cases z)
  obtain ⟨_,o',uN,CV⟩:=sG.mem (show b ∈ fD (envOfC qual scope s₀.heap.objs.size f cd :: outer) by rw [Kq]; exact List.mem_cons_of_mem _ hb)
  rw [e1] at uN
  cases uN
  obtain ⟨Ez,e2⟩:=up b _ (hx.keeps _ _ e1) CV
  exact ⟨Ez,e2⟩
 have nil:∀ b:Addr,b ∉ (gA (jR P w) P w K mg base N qual scope f cd A outer s₀ H₀ E).ex:=fun b z => by cases z
 refine ⟨e,cls,H,rfl,⟨I.os,I.bare,⟨fun b o q n hb _ => stays b o (I.base.keep b o q n hb (nil b)) (EO b o q hb),fun b o q n hb _ => slot b o q n hb,fun b o q n _ => I.base.free b o q n (nil b),fun b o q _ => ?_,I.base.jC,I.base.jn,I.base.jM⟩,fun b u q => ?_,PySem.W.hideAll s.heap (fD (envOfC qual scope s₀.heap.objs.size f cd :: outer)),t,fl,fun b hb => ?_,fun b o q hb => ?_⟩,hE⟩
 ·by_cases hb:b ∈ fD outer
  ·obtain ⟨sl,e1⟩:=slot b o q (I.ok.zg b hb) hb
   exact ⟨_,e1⟩
  ·obtain ⟨o',e1⟩:=I.base.there b o q (nil b)
   exact ⟨o',stays b o' e1 (EO b o q hb)⟩
 ·refine (I.b? b u q).kq (fun c v hc z => stays c v z ?_) (fun _ z => z) fun _ _ z => z
  rcases hc with z' | z'
  ·rw [z']; exact sN b u q
  ·exact sN c _ z'
 ·cases q:H b with
  | none => exact absurd q hb
  | some u =>
   obtain ⟨o,e1⟩:=(I.b? b u q).there
   exact ⟨o,PySem.W.hideAll_get _ e1 (sN b u q)⟩
 ·obtain ⟨o',e1⟩:=I.base.there b o q (nil b)
  exact ⟨o',PySem.W.hideAll_get _ e1 (EO b o q hb)⟩
theorem z!:Passes (jR P w) (gA (jR P w) P w K mg base N qual scope f cd A outer s₀ H₀ E) E:=by
 rintro af σ H s e s' I ⟨ea,cls,H',rfl,Z,hE⟩
 obtain ⟨B,t,fl,ct,cs⟩:=Z.fl
 have Kp:(A.deeper (envOfC qual scope s₀.heap.objs.size f cd)).frames = some (envOfC qual scope s₀.heap.objs.size f cd :: outer):=I.ok.frames
 have Kq:fD (envOfC qual scope s₀.heap.objs.size f cd :: outer) = s₀.heap.objs.size :: fD outer:=s? rfl outer
 have EO:∀ b o,s₀.heap.get? b = some o → b ∉ fD outer → b ∉ fD (envOfC qual scope s₀.heap.objs.size f cd :: outer):=fun b o q hb hm => by
  rw [Kq] at hm
  rcases List.mem_cons.mp hm with z | z
  ·exact absurd (Heap.lt_size q) (by rw [z]; exact Nat.lt_irrefl _)
  ·exact hb z
 have sub:∀ b,b ∈ fD outer → b ∈ fD (envOfC qual scope s₀.heap.objs.size f cd :: outer):=fun b hb => by rw [Kq]; exact List.mem_cons_of_mem _ hb
 have nil:∀ b:Addr,b ∉ (gA (jR P w) P w K mg base N qual scope f cd A outer s₀ H₀ E).ex:=fun b z => by cases z
 refine wpAny_leaves_onW Kp rfl fl fun CU N! up => ?_
 have xY:∀ b o,s'.heap.get? b = some o → (∃ o',B.get? b = some o') → CU.get? b = some o:=fun b o q ⟨o',z⟩ => by
  have q':=fl.1 b o' z
  rw [q] at q'
  cases q'
  exact N!.1 b o z
 have slot:∀ b o,s₀.heap.get? b = some o → H₀ b = none → b ∈ fD outer → ∃ sl,CU.get? b = some { o with slots:=sl }:=fun b o q n hb => by
  obtain ⟨sl,e1⟩:=I.base.slot b o q n hb (nil b)
  obtain ⟨JW,e2⟩:=Z.un.slot b _ e1 (I.base.free b o q n (nil b)) (sub b hb) (by intro z; cases z)
  obtain ⟨_,o',uN,CV⟩:=fl.2.2.1.mem (sub b hb)
  rw [e2] at uN
  cases uN
  obtain ⟨Ez,e3⟩:=up b _ e2 CV
  exact ⟨Ez,e3⟩
 refine ⟨ea,cls,H',rfl,⟨Z.os.trans I.os,Z.bare,⟨fun b o q n hb _ => ?_,fun b o q n hb _ => slot b o q n hb,fun b o q n _ => ?_,fun b o q _ => ?_,fun b xs q => Z.un.jC b xs (I.base.jC b xs q),fun b o u q => Z.un.jn b o u (I.base.jn b o u q),fun b ps q => ?_⟩,fun b u q => ?_,B,t,N!,ct,fun b o q hb => ?_⟩,hE⟩
 ·have e1:=I.base.keep b o q n hb (nil b)
  have n1:=I.base.free b o q n (nil b)
  have nf:=EO b o q hb
  exact xY b o (Z.un.keep b o e1 n1 nf (by intro z; cases z)) (cs b o e1 nf)
 ·obtain ⟨o',e1⟩:=I.base.there b o q (nil b)
  exact Z.un.free b o' e1 (I.base.free b o q n (nil b)) (by intro z; cases z)
 ·by_cases hb:b ∈ fD outer
  ·obtain ⟨sl,e1⟩:=slot b o q (I.ok.zg b hb) hb
   exact ⟨_,e1⟩
  ·obtain ⟨o',e1⟩:=I.base.there b o q (nil b)
   obtain ⟨o2,e2⟩:=cs b o' e1 (EO b o q hb)
   exact ⟨o2,N!.1 b o2 e2⟩
 ·obtain ⟨m1,e1⟩:=I.base.jM b ps q
  obtain ⟨m2,e2⟩:=Z.un.jM b _ e1
  exact ⟨m1 ++ m2,by rw [e2,Array.append_assoc]⟩
 ·refine (Z.b? b u q).kq (fun c v hc z => xY c v z (ct c ?_)) (fun _ z => z) fun _ _ z => z
  rcases hc with z' | z'
  ·rw [z',q]; simp
  ·rw [z']; simp
 ·obtain ⟨o',e1⟩:=I.base.there b o q (nil b)
  exact cs b o' e1 (EO b o q hb)
theorem B4.R6 {x:Str} {st:Stmt} {fd:FuncData} {ps:List Str} {k:Nat} {sp:Sp} (F:B4 K x qual st f fd) (S:d! N ps (a_ st)) (len:∀ vs H Q E,sp vs H Q E → vs.length = ps.length)
  (sU:∀ (dW:Value) (A:Around) (outer:List Env) (s:Shared) (H:Hp) (vs:List V) (Q:VK) (E:XK),eZ k (A.deeper (envOfC qual (a_ st) s.heap.objs.size f dW)) → sp vs H Q E →
   ∃ t,iJ (gA (jR P w) P w K mg base N qual (a_ st) f dW A outer s H E) (dj st) t ∧ t { nx:=fun _ H' => Q .dA H',rt:=Q } (start N vs) H):iL P w K mg base (jR P w) (k + 1) f fd ps sp:=by
 obtain ⟨oc,od,kV,doc,pm,an,dW,ct,xK,rfl,lk,nr⟩:=F.ex
 exact JV lk nr S len fun A outer s H vs Q E hr EC => sU dW A outer s H vs Q E hr EC
end
theorem xZ {K:PySem.W.Frag} {h:Heap} {mg:Str → Option Value} {x:Str} {C:Addr} {Qx:List Value} {newId:String} (X:K.In h) (hb:mg x = some (.ref C)) (q:PySem.W.excIn K C Qx newId = true):OwnCls x C Qx newId mg h:=by
 refine ⟨hb,?_⟩
 unfold PySem.W.excIn at q
 split at q
 ·rename_i dd cd sl ho
  split at q
  ·rename_i C' bm k0 k1 k2 k3 n k5 hm hs
   simp only [Bool.and_eq_true,beq_iff_eq,Bool.not_eq_true'] at q
   obtain ⟨⟨⟨⟨⟨rfl,rfl⟩,Kr⟩,ht⟩,b?⟩,Mq⟩:=q
   obtain ⟨nm,bs,mro,ns,qn,hd,sn,sub,ab,col,del⟩:=cd
   dsimp only at hm Kr b? Mq
   subst hm Kr
   have Gy:sl = #[k0,k1,k2,k3,some (.builtin n),k5]:=by
    obtain ⟨l⟩:=sl
    simp only at hs
    rw [hs]
   subst Gy
   exact ⟨bm,ns,nm,qn,bs,hd,sn,sub,ab,col,dd,k0,k1,k2,k3,k5,_,X _ _ ho,.of_isNs (PySem.W.isNs_of_in X b?),PySem.W.nsMap_none_of_in X b? Mq,PySem.W.tail_of_in X ht⟩
  ·cases q
 ·cases q
noncomputable def Gz (E:XK) (C:Addr) (t:TA):TS:=fun _ σ H => t σ H fun vs H1 => vs.length ≤ sizeLine ∧ E (.ref C) none H1
noncomputable def Raises (X:Cx) (E:XK):Prop:=∀ (af:List (Addr × Obj)) (σ:St) (H:Hp) (s:Shared) (h':Heap) (e:Addr) (cls:Value) (vs:List Value),aS X af σ H s → Heap.MadeExcOf s.heap h' e cls vs → E cls none H → X.xe (.ref e) { s with heap:=h' }
theorem z? {X:Cx} {E:XK} {x:Str} {C:Addr} {B newId vf:String} {bm:List Value} {np bZ pos:Pos} {e₀:Expr} {rest:List Expr} {t:TA} (hX:Raises X E) (hc:X.calm = true) (hm:X.mg x = some (.ref C)) (hq:PySem.W.excIn X.K C bm newId = true) (FB:ExcBaseFacts B newId vf bm) (hg:Gl X x) (ha:PA X (e₀ :: rest) t)
  (he:starEach (e₀ :: rest) X.env = (false,eval e₀ X.env) :: starEach rest X.env:=by rfl) (iH:(backTo bZ (starEach rest X.env)).any (·.1) = false:=by rfl) (hd:(x == ("__debug__":Str)) = false:=by decide) :
  PS X (.Raise (some (.Call (.Name x np) (e₀ :: rest) [] bZ)) none pos) (Gz E C t):=by
 intro af s σ H D I h
 obtain ⟨tl,NS,nm,q,bs,hdct,sn,sub,ab,col,dd,k0,k1,k2,k3,k5,mN,hC,hN,Mq,T⟩:=(xZ I.mod.Ex hm hq).obj
 refine wpAny_Raise_call_subT (C:=C) (nm:=nm) (q:=q) (N:=NS) (bs:=bs) (bm:=tl) (hdct:=hdct) (sn:=sn) (sub:=sub) (ab:=ab) (col:=col) (dd:=dd) (k0:=k0) (k1:=k1) (k2:=k2) (k3:=k3) (k5:=k5)
  FB (mN:=mN) (T.hasType FB.hasBase) (I.ok.hd hc) (by rw [he]; show (false || (backTo bZ (starEach rest X.env)).any (·.1)) = false; rw [iH]; rfl) Mq (jh I hg hm ⟨rfl,?_⟩ hd)
 have hA:=ha bZ af s σ H _ I h
 rw [he] at hA ⊢
 exact Calls.evalArgs_plain (cR hA fun us s2 ⟨vs,H2,I2,r2,z,q2⟩ => ⟨rfl,by rw [← r2.length]; exact z,I2.bk _ _ hC,hN.keeps I2.bk,T.keeps I2.bk,fun h' e R7 => hX af σ H2 s2 h' e _ _ I2 R7 q2⟩)
end L2
namespace L2
open PySem PySem.Spec PyProof.Rows
structure DefX (X:Cx):Prop where
 fn:∀ y,X.fn y = true
 BZ:X.stack = X.env :: X.outer
 fr:X.env.frame = some X.env.locals
structure tf (X:Cx) (af:List (Addr × Obj)) (σ:St) (H:Hp) (s:Shared) (ea:Addr) (cls:Value):Prop where
 inv:aS X af σ H s
 fl:∃ (B:Heap) (t:Addr),Heap.FlyingW B X.stack ea cls (.ref t) s.heap ∧ (∀ b,H b ≠ none → ∃ o,B.get? b = some o) ∧ (∀ b o,X.s₀.heap.get? b = some o → b ∉ fD X.stack → b ∉ X.ex → ∃ o',B.get? b = some o') ∧ (∀ p ∈ X.pn ++ af,∃ o',B.get? p.1 = some o') ∧ (∀ x c,X.env.cells.lookup x = some c → ∃ o,B.get? c = some o)
section
variable {X:Cx} {af:List (Addr × Obj)} {σ:St} {H H':Hp} {s s':Shared} {ea:Addr} {cls:Value}
theorem aS.CW (I:aS X af σ H s) {b:Addr} (h1:b ≠ X.env.locals) (h2:b ∉ X.fs):b ∉ fD X.stack:=fun z => (List.mem_cons.mp (I.kr b z)).elim h1 h2
theorem aS.slots {B h':Heap} (I:aS X af σ H s) (sB:B.StaysIn s.heap) (c1:∀ b,H b ≠ none → ∃ o,B.get? b = some o) (c2:∀ b o,X.s₀.heap.get? b = some o → b ∉ fD X.stack → b ∉ X.ex → ∃ o',B.get? b = some o') (c3:∀ p ∈ X.pn ++ af,∃ o',B.get? p.1 = some o')
  (c4:∀ x c,X.env.cells.lookup x = some c → ∃ o,B.get? c = some o) (k1:B.StaysIn h') (k2:s.heap.UpToSlots h'):aS X af σ H { s with heap:=h' }:=by
 have xY:∀ b o,s.heap.get? b = some o → (∃ o',B.get? b = some o') → h'.get? b = some o:=fun b o q ⟨o',z⟩ => by
  have q':=sB b o' z
  rw [q] at q'
  cases q'
  exact k1 b o z
 have zt:∀ b o,X.s₀.heap.get? b = some o → b ≠ X.env.locals:=fun b o e => Nat.ne_of_lt (Nat.lt_of_lt_of_le (Heap.lt_size e) I.ok.above)
 have slot:∀ b o,X.s₀.heap.get? b = some o → X.H₀ b = none → b ∈ X.fs → b ∉ X.ex → ∃ sl,h'.get? b = some { o with slots:=sl }:=fun b o q n hb hx => by
  obtain ⟨sl,e1⟩:=I.base.slot b o q n hb hx
  obtain ⟨_,o',uN,CV⟩:=I.iI.mem hb
  rw [e1] at uN
  cases uN
  obtain ⟨Ez,e2⟩:=k2 b _ e1 CV
  exact ⟨Ez,e2⟩
 refine ⟨I.ok,I.os,I.bare,⟨fun b o q n hb hx => ?_,slot,I.base.free,fun b o q hx => ?_,I.base.jC,I.base.jn,I.base.jM⟩,?_,fun x c e => ?_,I.free,I.fL,fun p hp => ?_,fun b u q => ?_,I.len⟩
 ·exact xY b o (I.base.keep b o q n hb hx) (c2 b o q (I.CW (zt b o q) hb) hx)
 ·by_cases hb:b ∈ X.fs
  ·obtain ⟨sl,e1⟩:=slot b o q (I.ok.zg b hb) hb hx
   exact ⟨_,e1⟩
  ·obtain ⟨o',e1⟩:=I.base.there b o q hx
   exact ⟨o',xY b o' e1 (c2 b o q (I.CW (zt b o q) hb) hx)⟩
 ·obtain ⟨m,hn,hl⟩:=I.loc
  refine ⟨m,k2.ns hn,fun i x v e1 e2 e3 => ?_⟩
  obtain ⟨u,r,l⟩:=hl i x v e1 e2 e3
  refine ⟨u,r,?_⟩
  rcases l with l | ⟨k,c,e,o,ho,hd⟩
  ·exact .inl l
  ·exact .inr ⟨k,c,e,o,xY c o ho (c4 x c e),hd⟩
 ·obtain ⟨v,o,ho,hd⟩:=I.cell x c e
  exact ⟨v,o,xY c o ho (c4 x c e),hd⟩
 ·obtain ⟨e,n,ne,nf,d⟩:=I.pin p hp
  exact ⟨xY p.1 p.2 e (c3 p hp),n,ne,nf,d⟩
 ·refine (I.b? b u q).kq (fun c v hc z => xY c v z (c1 c ?_)) (fun _ z => z) fun _ _ z => z
  rcases hc with z' | z'
  ·rw [z',q]; simp
  ·rw [z']; simp
theorem tf.slots (J:tf X af σ H s ea cls):∃ (B:Heap) (t:Addr),Heap.FlyingW B X.stack ea cls (.ref t) s.heap ∧ H ea = none ∧ ∀ h',Heap.FlyingW B X.stack ea cls (.ref t) h' → s.heap.UpToSlots h' → tf X af σ H { s with heap:=h' } ea cls:=by
 obtain ⟨B,t,fl,c1,c2,c3,c4⟩:=J.fl
 refine ⟨B,t,fl,?_,fun h' f2 up => ⟨J.inv.slots fl.1 c1 c2 c3 c4 f2.1 up,B,t,f2,c1,c2,c3,c4⟩⟩
 cases q:H ea with
 | none => rfl
 | some u =>
  obtain ⟨o,e⟩:=c1 ea (by rw [q]; simp)
  rw [fl.2.1] at e
  cases e
theorem aS.flew (I:aS X af σ H s) (zx:∀ y,X.fn y = true) (Z:Qw X.prog X.w X.stack H H' s s' ea cls):tf X af σ H' s' ea cls:=by
 obtain ⟨B,t,fl,ct,cs⟩:=Z.fl
 have cl:∀ x c,X.env.cells.lookup x = some c → c ∉ fD X.stack:=fun x c e => I.CW (I.B1 x c e) fun hb => by
  obtain ⟨_,o,ho,_⟩:=I.ok.iI.mem hb
  exact absurd (Nat.lt_of_lt_of_le (Heap.lt_size ho) (I.ok.Ey x c (zx x) e)) (Nat.lt_irrefl _)
 refine ⟨I.sP Z.os Z.un Z.b? Z.bare fun b z => absurd z (by simp),B,t,fl,ct,fun b o q hb hx => ?_,fun p hp => ?_,fun x c e => ?_⟩
 ·obtain ⟨o',e1⟩:=I.base.there b o q hx
  exact cs b o' e1 hb
 ·obtain ⟨e,n,ne,nf,d⟩:=I.pin p hp
  exact cs p.1 p.2 e (I.CW ne nf)
 ·obtain ⟨v,o,ho,_⟩:=I.cell x c e
  exact cs c o ho (cl x c e)
end
noncomputable abbrev EK:=Value → Addr → St → Hp → Prop
noncomputable abbrev EH:=Value → Addr → Hp → Prop
noncomputable abbrev Ks:=St → Hp → VK → EH → Prop
noncomputable abbrev GA:=Ends → EK → St → Hp → Prop
noncomputable def XP (X:Cx) (af:List (Addr × Obj)) (EX:EK) (e:Value) (s':Shared):Prop:=∃ ea cls σ' H',e = .ref ea ∧ tf X af σ' H' s' ea cls ∧ EX cls ea σ' H'
noncomputable abbrev atS (σ:St) (EX:EH):EK:=fun cls ea σ' H' => σ' = σ ∧ EX cls ea H'
noncomputable def B5 (X:Cx) (e:Expr) (t:Ks):Prop :=
 ∀ (af:List (Addr × Obj)) (s:Shared) (σ:St) (H:Hp) (Q:VK) (EX:EH),aS X af σ H s → t σ H Q EX → wpAny (model X.prog X.w) X.A (eval e X.env) (EP X af σ Q) (XP X af (atS σ EX)) s
noncomputable def CY (X:Cx) (st:Stmt) (t:GA):Prop :=
 ∀ (af:List (Addr × Obj)) (s:Shared) (σ:St) (H:Hp) (D:Ends) (EX:EK),aS X af σ H s → t D EX σ H → wpAny (model X.prog X.w) X.A (exec st X.env) (SP X af D) (XP X af EX) s
noncomputable def x_ (X:Cx) (st:List Stmt) (t:GA):Prop :=
 ∀ (af:List (Addr × Obj)) (s:Shared) (σ:St) (H:Hp) (D:Ends) (EX:EK),aS X af σ H s → t D EX σ H → wpAny (model X.prog X.w) X.A (execs st X.env) (SP X af D) (XP X af EX) s
section
variable {X:Cx}
theorem XP.at {af:List (Addr × Obj)} {σ:St} {EX:EK} {e:Value} {s':Shared} (h:XP X af (atS σ fun cls ea H' => EX cls ea σ H') e s'):XP X af EX e s':=by
 obtain ⟨ea,cls,σ',H',rfl,J,rfl,q⟩:=h
 exact ⟨ea,cls,_,H',rfl,J,q⟩
noncomputable def GB (sp:Sp) (t:TA):Ks:=fun σ H Q EX => t σ H fun vs H1 => sp vs H1 Q fun cls _ H' => ∀ ea,EX cls ea H'
theorem Aa {k:Nat} {f:Addr} {fd:FuncData} {ps:List Str} {sp:Sp} {x:Str} {p pos:Pos} {e:Expr} {es:List Expr} {t:TA} (F:iL X.prog X.w X.K X.mg X.base (jR X.prog X.w) k f fd ps sp) (hr:eZ k X.A) (hg:Gl X x) (hm:X.mg x = some (.ref f)) (hk:PySem.W.keepIn X.K (.ref f) = true) (hb:Binds X.K fd ps []) (zx:∀ y,X.fn y = true)
  (ha:∀ W,PA (X.nu W) (e :: es) t) (pf:(x == ("__debug__":Str)) = false:=by decide) (he:starEach (e :: es) X.env = (false,eval e X.env) :: starEach es X.env:=by rfl) (iH:(backTo pos (starEach es X.env)).any (·.1) = false:=by rfl) :
  B5 X (.Call (.Name x p) (e :: es) [] pos) (GB sp t):=by
 intro af s σ H Q EX I h
 refine wpAny_Call_Name_kw (jh I hg hm ?_ pf)
 refine PySem.W.callWith_K (h₀:=X.base) I.ok.mod.Ex hk (cR (ha (XP X af (atS σ EX)) pos af s σ H _ (I.nu _) h) fun us s1 ⟨vs,H1,I1,r,q⟩ => ⟨I1.qz.lM,?_⟩) he iH
 have I2:=I1.qz
 have hl:(us ++ []).length = ps.length:=by rw [List.append_nil,← r.length]; exact F.len _ _ _ _ q
 have Qy:=hb s1 us I2.lM hl
 rw [List.append_nil] at Qy
 refine wpAny_call (codeAny_mono (F.run X.A X.stack s1 H1 ⟨us,[]⟩ us vs Q _ hr I2.F_ Qy r q) fun r s' hq => ?_)
 cases r with
 | error e =>
  obtain ⟨ea,cls,H',rfl,Z,hE⟩:=hq
  exact ⟨ea,cls,σ,H',rfl,I2.flew zx Z,rfl,hE ea⟩
 | ok fl =>
  cases fl with
  | ret u => exact I2.after hq
  | next => exact False.elim hq
  | brk => exact False.elim hq
  | cont => exact False.elim hq
theorem Ab {e:Expr} {te:Ks} {pos:Pos} (he:B5 X e te) (hs:swapsWith e none pos.line X.env = pure false:=by rfl):CY X (.Expr e pos) (fun D EX σ H => te σ H (fun _ H1 => D.nx σ H1) fun cls ea H' => EX cls ea σ H'):=by
 intro af s σ H D EX I h
 exact wpAny_Expr_any (wpAny_mono (he af s σ H _ _ I h) (fun v s1 ⟨x,H1,I1,r1,q1⟩ => ⟨σ,H1,I1,q1⟩) fun _ _ q => q.at) I.quiet hs
theorem Ac {st:Stmt} {t:GA} (h1:CY X st t):x_ X [st] t:=by
 intro af s σ H D EX I h
 refine wpAny_execs_cons (cR (h1 af s σ H D EX I h) fun f s1 q => ?_)
 cases f with
 | next => exact wpAny_execs_nil q
 | ret v => exact q
 | brk => exact q
 | cont => exact q
noncomputable abbrev CZ:=Ends → EK → Value → Addr → St → Hp → Prop
noncomputable def PH (X:Cx) (hs:List ExceptHandler) (th:CZ):Prop :=
 ∀ (af:List (Addr × Obj)) (s:Shared) (σ:St) (H:Hp) (D:Ends) (EX:EK) (ea:Addr) (cls:Value),tf X af σ H s ea cls → th D EX cls ea σ H → wpAny (model X.prog X.w) X.A (handleBy (.ref ea) X.env hs) (SP X af D) (XP X af EX) s
noncomputable def GC:CZ:=fun _ _ _ _ _ _ => False
theorem GD:PH X [] GC:=fun _ _ _ _ _ _ _ _ _ h => h.elim
theorem C0 {body:List Stmt} {h₀:ExceptHandler} {hs:List ExceptHandler} {tb:GA} {th:CZ} {pos:Pos} (dx:DefX X) (hb:x_ X body tb) (hh:PH X (h₀ :: hs) th):CY X (.Try body (h₀ :: hs) [] [] pos) (fun D EX σ H => tb D (fun cls ea σ' H' => th D EX cls ea σ' H') σ H):=by
 intro af s σ H D EX I h
 refine wpAny_Try_except (wpAny_mono (hb af s σ H D _ I h) (fun f s1 q => ?_) fun e s1 q => ?_)
 ·cases f with
  | next => exact wpAny_execs_nil q
  | ret v => exact q
  | brk => exact q
  | cont => exact q
 ·obtain ⟨ea,cls,σ',H',rfl,J,hE⟩:=q
  obtain ⟨B,t,fl,hn,go⟩:=J.slots
  have Kp:X.A.frames = some (X.env :: X.outer):=by rw [← dx.BZ]; exact J.inv.ok.frames
  refine wpAny_looks_onW Kp dx.fr (by rw [← dx.BZ]; exact fl) fun h4 held R8 => ?_
  refine wpAny_landsW held fun h5 R9 R_ => ?_
  exact hh af _ σ' H' D EX ea cls (go h5 (by rw [dx.BZ]; exact R9) (R8.trans R_)) hE
theorem GF {body:List Stmt} {h₀:ExceptHandler} {hs:List ExceptHandler} {tb:GA} {th:CZ} {pos:Pos} (dx:DefX X) (hb:x_ X body tb) (hh:PH X (h₀ :: hs) th) :
  PS X (.Try body (h₀ :: hs) [] [] pos) (fun D σ H => tb D (fun cls ea σ' H' => th D (fun _ _ _ _ => False) cls ea σ' H') σ H):=by
 intro af s σ H D I h
 exact wpAny_mono (C0 dx hb hh af s σ H D (fun _ _ _ _ => False) I h) (fun _ _ q => q) fun _ _ ⟨_,_,_,_,_,_,z⟩ => z.elim
noncomputable def vg (X:Cx) (ea:Addr) (oe:Obj):Cx:={ X with A:=X.A.mark (some (.ref ea)),calm:=false,pn:=(ea,oe) :: X.pn,xe:=fun _ _ => False }
theorem tf.vg {af:List (Addr × Obj)} {σ:St} {H:Hp} {s:Shared} {ea:Addr} {cls:Value} (J:tf X af σ H s ea cls):∃ oe,s.heap.get? ea = some oe ∧ oe.cls = cls ∧ aS (L2.vg X ea oe) af σ H s:=by
 obtain ⟨B,t,fl,hn,_⟩:=J.slots
 obtain ⟨oe,vs,he,hc,hd,_⟩:=fl.first
 have I:=J.inv
 have EO:∀ b ∈ fD X.stack,ea ≠ b:=fun b hb z => by
  obtain ⟨_,o,ho,CV⟩:=I.stack.mem hb
  rw [← z,he] at ho
  cases ho
  exact CV vs hd
 have zt:ea ≠ X.env.locals:=fun z => by
  obtain ⟨m,⟨o,es,ep,ho,Qz,_⟩,_⟩:=I.loc
  rw [← z,he] at ho
  cases ho
  rw [hd] at Qz
  cases Qz
 have NY:ea ∉ X.fs:=fun hb => by
  obtain ⟨_,o,ho,CV⟩:=I.iI.mem hb
  rw [he] at ho
  cases ho
  exact CV vs hd
 refine ⟨oe,he,hc,⟨⟨I.ok.mod,I.ok.kind,I.ok.glob,I.ok.blt,I.ok.above,I.ok.inj,I.ok.has,I.ok.Ey,fun z => (by cases z),I.ok.frames,I.ok.BZ,I.ok.L_,I.ok.bs,I.ok.B0,I.ok.sO,I.ok.xD,I.ok.iI,I.ok.zg⟩,I.os,I.bare,I.base,I.loc,I.cell,I.free,I.fL,fun p hp => ?_,I.b?,I.len⟩⟩
 rcases List.mem_cons.mp (show p ∈ (ea,oe) :: (X.pn ++ af) from hp) with z | z
 ·rw [z]
  exact ⟨he,hn,zt,NY,fun v q => by rw [hd] at q; cases q⟩
 ·exact I.pin p z
theorem aS.N? {af:List (Addr × Obj)} {σ:St} {H:Hp} {s:Shared} {ea:Addr} {oe:Obj} (ok:X.Ok) (I:aS (L2.vg X ea oe) af σ H s):aS X af σ H s :=
 ⟨ok,I.os,I.bare,I.base,I.loc,I.cell,I.free,I.fL,fun p hp => I.pin p (List.mem_cons_of_mem _ hp),I.b?,I.len⟩
end
theorem x! {M:Model} {A:Around} {E:Value → Shared → Prop} {s:Shared} {K:PySem.W.Frag} {ea C:Addr} {oe:Obj} {b:Bool} {Q:Bool → Shared → Prop} (KX:K.In s.heap) (he:s.heap.get? ea = some oe) (h1:PySem.W.kitCls K oe.cls (.ref C) = some b) (h2:PySem.W.subIn K (.ref C) (.type "BaseException") = some true) (q:Q b s) :
  wpAny M A (excMatches (.ref ea) (.ref C)) Q E s:=by
 obtain ⟨l1,l2,l3⟩:=PySem.W.kit_cls (M:=M) KX h1
 have l4:=PySem.W.looks_subIn (M:=M) KX h2
 obtain ⟨hp,g,d,tk,os⟩:=s
 have lt:PySem.W.Looks M hp (isInstance (.ref C) (.type "tuple")) false:=l1.andThen (.of_pure tc_notTuple)
 have lx:PySem.W.Looks M hp (isExcClass (.ref C)) true:=fun A' Q' E' s' k z => by
  unfold isExcClass
  refine wpAny_bind (l2 A' _ E' s' k ?_)
  rw [if_pos rfl]
  exact l4 A' Q' E' s' k z
 have ly:PySem.W.Looks M hp (typeOf (.ref ea)) oe.cls:=fun A' Q' E' s' k z => by
  unfold typeOf
  exact wpAny_bind (wpAny_loadPart (k _ _ he) (wpAny_pure z))
 unfold excMatches
 refine wpAny_bind (lt.here ?_)
 simp only [Bool.false_eq_true,if_false,pure_bind,List.forIn_cons,List.forIn_nil,bind_assoc]
 refine wpAny_bind (lx.here ?_)
 simp only [Bool.not_true,Bool.false_eq_true,if_false,pure_bind]
 refine wpAny_bind (ly.here ?_)
 refine wpAny_bind (l3.here ?_)
 cases b with
 | true => exact wpAny_pure q
 | false => exact wpAny_pure q
theorem lX {prog:Program} {w:World} {A:Around} {E:Value → Shared → Prop} {s:Shared} {K:PySem.W.Frag} {ea:Addr} {oe:Obj} {c:Value} {Q:Value → Shared → Prop} (KX:K.In s.heap) (he:s.heap.get? ea = some oe) (e:PySem.W.kitOne K oe.cls c = some true) (h:Q (.bool true) s) :
  wpAny (model prog w) A (call (.builtin "isinstance") [.ref ea,c]) Q E s:=by
 have ly:PySem.W.Looks (model prog w) s.heap (typeOf (.ref ea)) oe.cls:=fun A' Q' E' s' k z => by
  unfold typeOf
  exact wpAny_bind (wpAny_loadPart (k _ _ he) (wpAny_pure z))
 refine PyProof.Rows.call_isinstance_of ?_ (by intro z; cases z)
 unfold PySem.W.kitOne at e
 unfold Builtin.«isinstance.nested»
 refine wpAny_bind (ly.here ?_)
 by_cases q:(oe.cls == c) = true
 ·rw [if_pos q]
  first
   | exact wpAny_bind (wpAny_rule h)
   | exact wpAny_bind (wpAny_rule (wpAny_pure h))
   | exact wpAny_pure h
 ·rw [if_neg q] at e
  rw [if_neg q]
  obtain ⟨CB,R!,Kl⟩:=PySem.W.kit_cls (M:=model prog w) KX e
  have LI:PySem.W.Looks (model prog w) s.heap (isInstance (.ref ea) c) true:=ly.andThen Kl
  refine wpAny_bind (CB.here ?_)
  rw [if_pos (by decide)]
  k_delta "plainIsInstance"
  refine wpAny_bind (wpAny_bind (R!.here ?_))
  simp only [Bool.not_true,Bool.false_eq_true,if_false]
  refine wpAny_bind (LI.here ?_)
  first
   | exact wpAny_pure (wpAny_pure h)
   | (simp only [if_true]; first | exact wpAny_pure (wpAny_pure h) | exact wpAny_pure h | exact wpAny_bind (wpAny_pure (wpAny_pure h)))
section
variable {X:Cx}
theorem qT:bU X (.builtin "isinstance") (fun xs H Q => ∃ ea oe c,(xs = [.ref ea,.ref c] ∧ PySem.W.kitOne X.K oe.cls (.ref c) = some true ∨ ∃ n,xs = [.ref ea,.ty n] ∧ PySem.W.kitOne X.K oe.cls (.type n) = some true) ∧ (ea,oe) ∈ X.pn ∧ Q (.bl true) H):=by
 intro af s σ H xs us Q I r h
 obtain ⟨ea,oe,c,hx,hp,q⟩:=h
 have he:=(I.pin (ea,oe) (List.mem_append_left _ hp)).1
 rcases hx with ⟨rfl,e⟩ | ⟨n,rfl,e⟩
 ·obtain ⟨u,u2,rfl,ru,Gx⟩:=vals2 r
  cases ru
  cases Gx
  exact lX I.lM he e ⟨.bl true,H,I,rfl,q⟩
 ·obtain ⟨u,u2,rfl,ru,Gx⟩:=vals2 r
  cases ru
  cases Gx
  exact lX I.lM he e ⟨.bl true,H,I,rfl,q⟩
theorem aS.C1 {af:List (Addr × Obj)} {σ:St} {H:Hp} {s:Shared} {i:Nat} {n:Str} {u:Option Value} {h':Heap} {m:Str → Option Value} (I:aS X af σ H s) (hN:X.N.Nodup) (hi:X.N[i]? = some n) (hx:X.env.kindOf n = some .local) (hn:s.heap.Ns X.env.locals m)
  (hl:∀ (j:Nat) (x:Str) (v:V),X.N[j]? = some x → σ[j]? = some (some v) → BY X.env.scope x → ∃ u,bC v u ∧ Look X.env s.heap m x u)
  (IS:h'.Ns X.env.locals (fun x => if x = n then u else m x)) (sb:Heap.SameBut X.env.locals s.heap h'):aS X af (σ.set i none) H { s with heap:=h' }:=by
 have iσ:i < σ.length:=by rw [I.len]; exact (List.getElem?_eq_some_iff.mp hi).1
 have GG:∀ b o,b ≠ X.env.locals → s.heap.get? b = some o → h'.get? b = some o:=fun b o hb e => (sb.2 b hb).trans e
 have zt:∀ b o,X.s₀.heap.get? b = some o → b ≠ X.env.locals:=fun b o e => Nat.ne_of_lt (Nat.lt_of_lt_of_le (Heap.lt_size e) I.ok.above)
 refine ⟨I.ok,I.os,I.bare,⟨fun b o q nn hb hx => GG b o (zt b o q) (I.base.keep b o q nn hb hx),fun b o q nn hb hx => ?_,I.base.free,fun b o q hx => ?_,I.base.jC,I.base.jn,I.base.jM⟩,⟨_,IS,fun j x v e1 e2 e3 => ?_⟩,fun x c e => ?_,I.free,I.fL,fun p hp => ?_,fun b w q => ?_,by rw [List.length_set]; exact I.len⟩
 ·obtain ⟨sl,e1⟩:=I.base.slot b o q nn hb hx
  exact ⟨sl,GG b _ (zt b o q) e1⟩
 ·obtain ⟨o',e1⟩:=I.base.there b o q hx
  exact ⟨o',GG b o' (zt b o q) e1⟩
 ·by_cases hj:j = i
  ·subst hj
   rw [List.getElem?_set_self iσ] at e2
   cases e2
  ·rw [List.getElem?_set_ne (Ne.symm hj)] at e2
   obtain ⟨u',r,l⟩:=hl j x v e1 e2 e3
   have nx:x ≠ n:=fun z => hj (nq hN e1 (z ▸ hi))
   refine ⟨u',r,?_⟩
   rcases l with ⟨k,e⟩ | ⟨k,c,e,o,ho,hd⟩
   ·exact .inl ⟨k,by simp [nx,e]⟩
   ·exact .inr ⟨k,c,e,o,GG c o (I.B1 x c e) ho,hd⟩
 ·obtain ⟨v,o,ho,hd⟩:=I.cell x c e
  exact ⟨v,o,GG c o (I.B1 x c e) ho,hd⟩
 ·obtain ⟨e,z,ne,nf,d⟩:=I.pin p hp
  exact ⟨GG p.1 p.2 ne e,z,ne,nf,d⟩
 ·refine (I.b? b w q).kq (fun c v hc z => GG c v ?_ z) (fun _ z => z) fun _ _ z => z
  intro z'
  rcases hc with r | r
  ·rw [← r,z',I.free] at q
   cases q
  ·rw [z',I.free] at r
   cases r
noncomputable def N' (K:PySem.W.Frag) (C:Addr) (i:Nat) (ts:Addr → Obj → TS) (tr:CZ):CZ:=fun D EX cls ea σ H => ∃ b,PySem.W.kitCls K cls (.ref C) = some b ∧ if b = true then ∀ oe,oe.cls = cls → ts ea oe { nx:=fun σ' H' => D.nx (σ'.set i none) H',rt:=D.rt,bk:=fun σ' H' => D.bk (σ'.set i none) H',ct:=fun σ' H' => D.ct (σ'.set i none) H' } (σ.set i (some (.ref ea))) H else tr D EX cls ea σ H
theorem Kt {x n:Str} {i:Nat} {C:Addr} {np pos:Pos} {b₀:Stmt} {iy:List Stmt} {rest:List ExceptHandler} {ts:Addr → Obj → TS} {tr:CZ} (hN:X.N.Nodup) (hi:X.N[i]? = some n) (hl:X.env.scope.names.lookup n = some .local) (hg:Gl X x) (hm:X.mg x = some (.ref C)) (hB:PySem.W.subIn X.K (.ref C) (.type "BaseException") = some true) (hs:∀ ea oe,iJ (L2.vg X ea oe) (b₀ :: iy) (ts ea oe)) (hr:PH X rest tr)
  (hd:(x == ("__debug__":Str)) = false:=by decide):PH X (.ExceptHandler (some (.Name x np)) (some n) (b₀ :: iy) pos :: rest) (N' X.K C i ts tr):=by
 intro af s σ H D EX ea cls J h
 obtain ⟨b,hb,h⟩:=h
 obtain ⟨oe,he,hc,I⟩:=J.vg
 refine wpAny_handleBy_cons (codeAny_handlers_test (jh I (show Gl (L2.vg X ea oe) x from hg) (show (L2.vg X ea oe).mg x = some (.ref C) from hm) ?_ hd)) (by intro z; cases z)
 refine x! I.lM he (by rw [hc]; exact hb) hB ?_
 cases b with
 | false => exact hr af s σ H D EX ea cls J (by simpa using h)
 | true =>
  obtain ⟨B,t,fl,hn,go⟩:=J.slots
  have h':∀ oe,oe.cls = cls → ts ea oe { nx:=fun σ' H' => D.nx (σ'.set i none) H',rt:=D.rt,bk:=fun σ' H' => D.bk (σ'.set i none) H',ct:=fun σ' H' => D.ct (σ'.set i none) H' } (σ.set i (some (.ref ea))) H:=by simpa using h
  refine codeAny_handlers_suite_as (lands_againW fl fun h6 R? Sa => ?_)
  have J6:=go h6 R? Sa
  obtain ⟨Mr,T3,Sb,I6⟩:=J6.vg
  refine jN (X:=L2.vg X ea Mr) (v:=.ref ea) I6 hN hi (Or.inl hl) rfl (fun s7 I7 => ?_) (Or.inr hl)
  refine wpAny_mono (hs ea Mr af s7 _ H _ I7 (h' Mr Sb)) (fun f s8 q => ?_) fun _ _ z => z.elim
  -- xy name is let go
  have letGo:∀ {σ8:St} {H8:Hp} {R:Shared → Prop},aS (L2.vg X ea Mr) af σ8 H8 s8 → (∀ s9,aS X af (σ8.set i none) H8 s9 → R s9) →
    wpAny (model X.prog X.w) X.A (do bindName X.env n .none; unbindBehindTheSuite X.env n pos) (fun _ s9 => R s9) (XP X af EX) s8:=fun {σ8 H8 R} I8 k => by
   have I9:=I8.N? J.inv.ok
   refine wpAny_bind (wpAny_bindName (ku I9 hN hi (Or.inl hl) (v:=.dA) rfl (fun s9 Oa ⟨a,sb,ha⟩ => ?_) (Or.inr hl)))
   obtain ⟨m,ns,QA⟩:=Oa.loc
   have iσ:i < σ8.length:=by rw [I9.len]; exact (List.getElem?_eq_some_iff.mp hi).1
   obtain ⟨u,ru,lk⟩:=QA i n .dA hi (List.getElem?_set_self iσ) (Or.inl hl)
   have Sd:m n = some u:=by
    rcases lk with ⟨_,e⟩ | ⟨k',_⟩
    ·exact e
    ·exfalso
     rcases k' with z | z
     ·have z':X.env.scope.names.lookup n = some .cell:=z
      rw [hl] at z'; cases z'
     ·have z':X.env.scope.names.lookup n = some .free:=z
      rw [hl] at z'; cases z'
   unfold unbindBehindTheSuite
   refine wpAny_onRaise (wpAny_unbindName_local hl ns Sd (by rw [Oa.ok.kind]; rfl) fun Ms u' uR N3 => ?_)
   have QB:=Oa.C1 hN hi hl ns QA uR N3
   rw [List.set_set] at QB
   exact k _ QB
  cases f with
  | next =>
   obtain ⟨σ8,H8,I8,q8⟩:=q
   exact letGo I8 fun s9 I9 => ⟨_,H8,I9,q8⟩
  | brk =>
   obtain ⟨σ8,H8,I8,q8⟩:=q
   exact letGo I8 fun s9 I9 => ⟨_,H8,I9,q8⟩
  | cont =>
   obtain ⟨σ8,H8,I8,q8⟩:=q
   exact letGo I8 fun s9 I9 => ⟨_,H8,I9,q8⟩
  | ret v =>
   obtain ⟨x8,σ8,H8,I8,r8,q8⟩:=q
   exact letGo I8 fun s9 I9 => ⟨x8,_,H8,I9,r8,q8⟩
end
end L2
namespace L2
open PySem PySem.Spec PyProof.Rows
noncomputable def Mt (lo:Int) (n:Nat):It:=⟨fun i _ => i < n,fun i H x H' => H' = H ∧ x = .int (lo - i),fun i _ => n ≤ i⟩
theorem x? {P:Program} {w:World} {K:PySem.W.Frag} {tg:Expr} (it:Addr) (lo:Int) (n:Nat):Turn P w K tg (Mt lo n) [it] it (fun i h => IsRangeIter h it (lo + (i:Nat) * (-1)) ((n:Int) - (i:Nat)) (-1)) where
 mem:=by simp
 obj:=fun i h st b hb => by
  have e:b = it:=by simpa using hb
  subst e
  exact ⟨_,st,fun v z => by
   have z':Data.fields _ = Data.cell v:=z
   cases z'⟩
 keep:=fun i h h' st k => k it (by simp) _ st
 item:=by
  intro X hP hw hK hc i af s σ H E I hf st hg
  subst hP hw hK
  obtain ⟨f0,f1,f2,f3,f4,f5⟩:=hf it (by simp)
  have W:=Walks.range (prog:=X.prog) (w:=X.w) (I.ok.hd hc) it lo (-1) n
  refine W.item i s _ _ hg st fun v h' tk hv aC kk => ?_
  obtain ⟨t,rfl⟩:=hv
  have I1:aS X af σ H { s with heap:=h',toks:=tk }:=I.turned (fun b o hb e => kk b o (by simpa using hb) e) f0 f1 f3 f4 f5
  refine ⟨_,rfl,sR (s:={ s with heap:=h',toks:=tk }) (n:="range_iterator") aC rfl rfl (by decide) ⟨.int (lo - i),H,I1,⟨t,?_⟩,⟨rfl,rfl⟩,aC,fun b hb => (hf b hb).1⟩⟩
  rw [show lo + (i:Int) * (-1) = lo - (i:Int) by lia]
 done:=by
  intro X hP hw hK hc i af s σ H E I hf st hg
  subst hP hw hK
  obtain ⟨f0,f1,f2,f3,f4,f5⟩:=hf it (by simp)
  exact wpAny_pyNext_range_end (I.ok.hd hc) st (by have:n ≤ i:=hg; lia) fun h' eb => ⟨rfl,I.turned (t':=s.toks) (fun b o hb e => eb b o hb e) f0 f1 f3 f4 f5⟩
 self:=fun _ _ _ _ _ st h => wpAny_pyIter_rangeiter st h
section
variable {X:Cx} {tg:Expr}
theorem C2 {af:List (Addr × Obj)} {σ:St} {H:Hp} {s:Shared} {R:It → Hp → Prop} {E:Value → Shared → Prop} {lo hi:Int} {t u v:Tok} {tk:Nat} (I:aS X af σ H s) (h1:-(2 ^ 62) ≤ lo) (h2:lo < 2 ^ 62) (h3:-(2 ^ 62) ≤ hi) (h4:hi < 2 ^ 62)
  (q:R (Mt lo (lo - hi).toNat) H):wpAny (model X.prog X.w) X.A (pyIter (.ref s.heap.objs.size)) (Nn X af σ tg R) E { s with heap:=s.heap.push { cls:=.type "range",data:=.fields #[.int lo t,.int hi u,.int (-1) v] },toks:=tk }:=by
 refine wpAny_pyIter_range (IsRange.new ..) (PySem.W.small_down h1 h2 h3 h4) ?_
 have I1:aS X af σ H { s with heap:=s.heap.push { cls:=.type "range",data:=.fields #[.int lo t,.int hi u,.int (-1) v] },toks:=tk }:=I.kept fun b o e => Heap.get?_push_of_some _ e
 refine ⟨(s.heap.push { cls:=.type "range",data:=.fields #[.int lo t,.int hi u,.int (-1) v] }).objs.size,[(s.heap.push { cls:=.type "range",data:=.fields #[.int lo t,.int hi u,.int (-1) v] }).objs.size],_,_,H,rfl,
  I1.kept (t':=tk) fun b o e => Heap.get?_push_of_some _ e,x? _ lo (lo - hi).toNat,?_,fun b hb => ?_,q⟩
 ·have e1:lo + ((0:Nat):Int) * (-1) = lo:=by simp
  have e2:(((lo - hi).toNat:Nat):Int) - ((0:Nat):Int) = Builtin.Range.rangeSize lo hi (-1):=by rw [PySem.W.rangeSize_downNat]; lia
  show IsRangeIter _ _ (lo + ((0:Nat):Int) * (-1)) ((((lo - hi).toNat:Nat):Int) - ((0:Nat):Int)) (-1)
  rw [e1,e2]
  exact Heap.get?_push_size _ rfl
 ·have e:b = (s.heap.push { cls:=.type "range",data:=.fields #[.int lo t,.int hi u,.int (-1) v] }).objs.size:=by simpa using hb
  subst e
  exact I1.uW (Nat.le_refl _) (I1.b?.fresh (Nat.le_refl _))
noncomputable def Ku (ta:TA):TI:=fun σ H R => ta σ H fun vs H1 => ∃ i j:Int,vs = [.int i,.int j,.int (-1)] ∧ (-(2 ^ 62) ≤ i ∧ i < 2 ^ 62 ∧ -(2 ^ 62) ≤ j ∧ j < 2 ^ 62) ∧ R (Mt i (i - j).toNat) H1
theorem C3 {a b c:Expr} {ta:TA} {p pos:Pos} (hg:Gl X "range") (hm:X.mg "range" = none) (ha:PA X [a,b,c] ta) (hs:starEach [a,b,c] X.env = [(false,eval a X.env),(false,eval b X.env),(false,eval c X.env)]:=by rfl) (gz:starEach [b,c] X.env = [(false,eval b X.env),(false,eval c X.env)]:=by rfl) :
  PI X tg (.Call (.Name "range" p) [a,b,c] [] pos) (Ku ta):=by
 intro af s σ H R I h
 refine Call_ (g6 I hg hm boot_range (PyProof.Rows.callWith_type1 (cR (ha pos af s σ H _ I h) fun us s1 ⟨vs,H1,I1,r1,q1⟩ => ?_) (by rw [hs,gz]) (by rw [gz]; rfl)))
 obtain ⟨i,j,e,⟨q1,q2,q3,q4⟩,q⟩:=q1
 subst e
 cases r1 with
 | cons r rr =>
  cases rr with
  | cons r' rr =>
   cases rr with
   | cons Se rr =>
    cases rr
    obtain ⟨t,rfl⟩:=r
    obtain ⟨t',rfl⟩:=r'
    obtain ⟨T4,rfl⟩:=Se
    refine call_range_3 (by decide) (C2 I1 q1 q2 q3 q4 q) (.inl (PyProof.noPylong_of_log2 (by decide +kernel)))
end
noncomputable def QC (K:PySem.W.Frag) (a:Addr) (n:Nat):It :=
 ⟨fun i H => i < n ∧ ∃ xs,iG K H a xs ∧ xs.length = n,fun i H x H' => H' = H ∧ ∀ xs,iG K H a xs → xs[n - 1 - i]? = some x,fun i H => n ≤ i⟩
theorem Ad {P:Program} {w:World} {K:PySem.W.Frag} {tg:Expr} (a it:Addr) (n:Nat):Turn P w K tg (QC K a n) [it] it (fun i h => i ≤ n ∧ h.IsRevIter it a ((n:Int) - 1 - (i:Int))) where
 mem:=by simp
 obj:=fun i h st b hb => by
  have e:b = it:=by simpa using hb
  subst e
  obtain ⟨_,o,e,c,d⟩:=st
  exact ⟨o,e,fun v z => by rw [d] at z; cases z⟩
 keep:=fun i h h' st k => ⟨st.1,st.2.at fun o e => k it (by simp) o e⟩
 item:=by
  intro X hP hw hK hc i af s σ H E I hf st hg
  subst hP hw hK
  obtain ⟨hi,xs,hq,hn⟩:=hg
  obtain ⟨aO,rv,p,hz⟩:=I.list hq
  have hx:xs[n - 1 - i]? = some (xs[n - 1 - i]'(by lia)):=List.getElem?_eq_getElem (by lia)
  obtain ⟨u,hu,ru⟩:=rv.get hx
  obtain ⟨f0,f1,f2,f3,f4,f5⟩:=hf it (by simp)
  have hit:=st.2
  rw [show (n:Int) - 1 - (i:Int) = ((n - 1 - i:Nat):Int) by lia] at hit
  refine wpAny_pyNext_rev_item hit p.isList (x:=u) (by simpa using hu) fun h' aC sb => ?_
  have I1:aS X af σ H { s with heap:=h' }:=I.turned (t':=s.toks) (fun b o hb e => (sb.2 b hb).trans e) f0 f1 f3 f4 f5
  obtain ⟨o,e,c,d⟩:=id aC
  rw [show ((n - 1 - i:Nat):Int) - 1 = (n:Int) - 1 - ((i + 1:Nat):Int) by lia] at aC
  exact ⟨u,rfl,sR (s:={ s with heap:=h' }) e c d (by decide) ⟨_,H,I1,ru,⟨rfl,fun ys hy => by rw [I.iK hy hq]; exact hx⟩,⟨hi,aC⟩,fun b hb => (hf b hb).1⟩⟩
 done:=by
  intro X hP hw hK hc i af s σ H E I hf st hg
  subst hP hw hK
  obtain ⟨f0,f1,f2,f3,f4,f5⟩:=hf it (by simp)
  have hi:n ≤ i:=hg
  have zX:=st.1
  have hit:=st.2
  rw [show (n:Int) - 1 - (i:Int) = -1 by lia] at hit
  exact wpAny_pyNext_rev_end (I.ok.hd hc) hit fun h' eb => ⟨rfl,I.turned (t':=s.toks) (fun b o hb e => eb b o hb e) f0 f1 f3 f4 f5⟩
 self:=fun _ _ _ _ _ st h => wpAny_pyIter_revIter st.2 h
section
variable {X:Cx} {tg:Expr}
noncomputable def Ob (K:PySem.W.Frag) (ta:TA):TI:=fun σ H R => ta σ H fun vs H1 => ∃ a xs,vs = [.ref a] ∧ iG K H1 a xs ∧ R (QC K a xs.length) H1
theorem GH {a:Expr} {ta:TA} {p pos:Pos} (hg:Gl X "reversed") (hm:X.mg "reversed" = none) (hv:bootBuiltins "reversed" = some (.type "reversed")) (ha:PA X [a] ta) (hs:starEach [a] X.env = [(false,eval a X.env)]:=by rfl):PI X tg (.Call (.Name "reversed" p) [a] [] pos) (Ob X.K ta):=by
 intro af s σ H R I h
 refine Call_ (g6 I hg hm hv (PyProof.Rows.callWith_type1 (cR (ha pos af s σ H _ I h) fun us s1 ⟨vs,H1,I1,r1,q1⟩ => ?_) hs rfl))
 obtain ⟨b,xs,e,hq,q⟩:=q1
 subst e
 obtain ⟨u,rfl,ru⟩:=bo.one r1
 cases ru
 obtain ⟨aO,rv,pl,hz⟩:=I1.list hq
 have hl:=rv.length
 refine call_reversed_list pl.isList ?_
 have I2:aS X af σ H1 { s1 with heap:=s1.heap.push (revObj b ((aO.toArray.size:Int) - 1)) }:=I1.kept (t':=s1.toks) fun b o e => Heap.get?_push_of_some _ e
 have hit:(s1.heap.push (revObj b ((aO.toArray.size:Int) - 1))).IsRevIter s1.heap.objs.size b ((xs.length:Int) - 1 - ((0:Nat):Int)):=by
  refine ⟨_,Heap.get?_push_size _ rfl,rfl,?_⟩
  show Data.fields #[.ref b,rawInt ((aO.toArray.size:Int) - 1)] = _
  rw [List.size_toArray,← hl]
  simp
 refine wpAny_pyIter_revIter hit ?_
 refine ⟨s1.heap.objs.size,[s1.heap.objs.size],_,_,H1,rfl,I2,Ad b _ xs.length,⟨Nat.zero_le _,hit⟩,fun c hc => ?_,q⟩
 have e:c = s1.heap.objs.size:=by simpa using hc
 subst e
 exact I1.uW (Nat.le_refl _) (I1.b?.fresh (Nat.le_refl _))
end
noncomputable def QD (K:PySem.W.Frag) (a:Addr):It :=
 ⟨fun i H => ∃ xs x,iG K H a xs ∧ xs[i]? = some x,
  fun i H v H' => ∃ p x,v = .ref p ∧ H p = none ∧ H' = upd H p (.tup [.int i,x]) ∧ ∀ xs,iG K H a xs → xs[i]? = some x,
  fun i H => ∃ xs,iG K H a xs ∧ xs.length ≤ i⟩
theorem ya {P:Program} {w:World} {K:PySem.W.Frag} {elts:List Expr} {kt:Nat} {tp:Pos} {e it:Addr} (a:Addr) (ne:e ≠ it) :
  Turn P w K (.Tuple elts kt tp) (QD K a) [e,it] e (fun i h => (∃ old,IsEnum h e it (i:Int) old) ∧ h.IsListIter it a i) where
 mem:=by simp
 obj:=fun i h ⟨⟨old,he⟩,hi⟩ c hc => by
  have c7:c = e ∨ c = it:=by simpa using hc
  rcases c7 with rfl | rfl
  ·exact ⟨_,he,fun v q => by have q':Data.fields _ = Data.cell v:=q; cases q'⟩
  ·obtain ⟨o,e',c,d⟩:=hi
   exact ⟨o,e',fun v z => by rw [d] at z; cases z⟩
 keep:=fun i h h' ⟨⟨old,he⟩,hi⟩ k => ⟨⟨old,k e (by simp) _ he⟩,hi.at fun o e' => k it (by simp) o e'⟩
 item:=by
  intro X hP hw hK hc i af s σ H E I hf st hg
  subst hP hw hK
  obtain ⟨⟨old,he⟩,hi⟩:=st
  obtain ⟨xs,x,sx,ex⟩:=hg
  obtain ⟨aO,rv,p,_⟩:=I.list sx
  obtain ⟨ux,N6,rx⟩:=rv.get ex
  have fz:=hf e (by simp)
  refine wpAny_pyNext_enum_item he hi p.isList (x:=ux) (by simpa using N6) ne fun h' a1 a2 a3 a4 a5 => ⟨_,rfl,?_⟩
  have hT:H s.heap.objs.size = none:=I.b?.fresh (Nat.le_refl _)
  have Km:∀ c ∈ [e,it],H c = none:=fun c c7 => (hf c c7).1
  have kp:∀ c o,c ∉ [e,it] → s.heap.get? c = some o → h'.get? c = some o:=fun c o c7 q => a5 c o (fun z => c7 (by simp [z])) (fun z => c7 (by simp [z])) q
  have sN:∀ c o,H c = some o → c ∉ [e,it]:=fun c o q c7 => by rw [Km c c7] at q; cases q
  have b?:gZ X.prog X.w (upd H s.heap.objs.size (.tup [.int i,x])) h':=fun c o q => by
   by_cases Kn:c = s.heap.objs.size
   ·subst Kn
    rw [cm] at q
    cases q
    exact ⟨by show 2 ≤ sizeLine; decide,[.int i s.toks,ux],.cons ⟨_,rfl⟩ (.cons rx .nil),_,a3,rfl,_,rfl⟩
   ·rw [bq Kn] at q
    refine (I.b? c o q).kq (fun d v hd z => kp d v ?_ z) (fun d z => by rw [bq (br z hT)]; exact z) fun d zs z => by rw [bq (br z hT)]; exact z
    rcases hd with q' | q'
    ·rw [q']; exact sN c o q
    ·exact sN d _ q'
  have un:Un (fD X.stack) [e,it] H (upd H s.heap.objs.size (.tup [.int i,x])) s.heap h' :=
   ⟨fun c o q n _ c7 => kp c o c7 q,fun c o q n _ c7 => ⟨o.slots,kp c o c7 q⟩,fun c o q n c7 => by rw [bq (Nat.ne_of_lt (Heap.lt_size q))]; exact n,fun c o q c7 => ⟨o,kp c o c7 q⟩,
    fun c zs q => by rw [bq (br q hT)]; exact q,fun c o u q => by rw [bq (br q hT)]; exact q,fun c ps q => ⟨#[],by rw [bq (br q hT),q]; simp⟩⟩
  have I1:aS X af σ (upd H s.heap.objs.size (.tup [.int i,x])) { s with heap:=h',toks:=s.toks + 1 }:=I.sP rfl un b? I.bare fun c c7 => by
   obtain ⟨f0,f1,f2,f3,f4,f5⟩:=hf c c7
   exact ⟨f3,f1,f4,f5⟩
  have N8:∀ c ∈ [e,it],c ≠ s.heap.objs.size:=fun c c7 q => by
   have zh:c < s.heap.objs.size:=by
    have Gv:c = e ∨ c = it:=by simpa using c7
    rcases Gv with r | r
    ·rw [r]; exact Heap.lt_size he
    ·obtain ⟨o,e',_⟩:=hi; rw [r]; exact Heap.lt_size e'
   exact absurd zh (by rw [q]; exact Nat.lt_irrefl _)
  have Ko:∀ c ∈ [e,it],(upd H s.heap.objs.size (.tup [.int i,x])) c = none:=fun c c7 => by rw [bq (N8 c c7)]; exact (hf c c7).1
  refine wpAny_letOwnedTupleGo_enum a1 fun CU Oc sb => ?_
  obtain ⟨f0,f1,f2,f3,f4,f5⟩:=fz
  have I2:aS X af σ (upd H s.heap.objs.size (.tup [.int i,x])) { s with heap:=CU,toks:=s.toks + 1 }:=I1.turned (s:={ s with heap:=h',toks:=s.toks + 1 }) (t':=s.toks + 1) (it:=e) (fun c o c7 q => (sb.2 c c7).trans q) (Ko e (by simp)) f1 f3 f4 f5
  refine ⟨.ref s.heap.objs.size,_,I2,rfl,⟨_,x,rfl,hT,rfl,fun zs hs => by rw [I.iK hs sx]; exact ex⟩,⟨⟨_,Oc⟩,a2.at fun o q => sb.extBut _ o ne.symm q⟩,Ko⟩
 done:=by
  intro X hP hw hK hc i af s σ H E I hf st hg
  subst hP hw hK
  obtain ⟨⟨old,he⟩,hi⟩:=st
  obtain ⟨xs,sx,hl⟩:=hg
  obtain ⟨aO,rv,p,_⟩:=I.list sx
  have l1:=rv.length
  obtain ⟨f0,f1,f2,f3,f4,f5⟩:=hf it (by simp)
  exact wpAny_pyNext_enum_end (I.ok.hd hc) he hi p.isList (by simp; lia) fun h' eb => ⟨rfl,I.turned (t':=s.toks) (fun b o hb q => eb b o hb q) f0 f1 f3 f4 f5⟩
 self:=fun _ _ _ _ _ st h => by
  obtain ⟨⟨old,he⟩,hi⟩:=st
  exact wpAny_pyIter_enum he h
section
variable {X:Cx} {elts:List Expr} {kt:Nat} {tp p pos:Pos}
noncomputable def Kv (K:PySem.W.Frag) (ta:TA):TI:=fun σ H R => ta σ H fun vs H1 => ∃ a xs,vs = [.ref a] ∧ iG K H1 a xs ∧ R (QD K a) H1
theorem C4 {a:Expr} {ta:TA} (hg:Gl X "enumerate") (hm:X.mg "enumerate" = none) (hv:bootBuiltins "enumerate" = some (.type "enumerate")) (ha:PA X [a] ta) (hs:starEach [a] X.env = [(false,eval a X.env)]:=by rfl) :
  PI X (.Tuple elts kt tp) (.Call (.Name "enumerate" p) [a] [] pos) (Kv X.K ta):=by
 intro af s σ H R I h
 refine Call_ (g6 I hg hm hv (PyProof.Rows.callWith_type1 (cR (ha pos af s σ H _ I h) fun us s1 ⟨vs,H1,I1,r1,q1⟩ => ?_) hs rfl))
 obtain ⟨b,xs,e,hq,q⟩:=q1
 subst e
 obtain ⟨u,rfl,ru⟩:=bo.one r1
 cases ru
 obtain ⟨aO,rv,pl,hz⟩:=I1.list hq
 refine call_enumerate_list pl.isList fun h' he hi hsz kp => ?_
 have I2:aS X af σ H1 { s1 with heap:=h' }:=I1.kept (t':=s1.toks) kp
 have ne:s1.heap.objs.size + 1 ≠ s1.heap.objs.size:=by lia
 have T:=ya (P:=X.prog) (w:=X.w) (K:=X.K) (elts:=elts) (kt:=kt) (tp:=tp) (e:=s1.heap.objs.size + 1) (it:=s1.heap.objs.size) b ne
 refine T.self X.A 0 { s1 with heap:=h' } _ _ ⟨⟨_,he⟩,hi⟩ ?_
 refine ⟨s1.heap.objs.size + 1,[s1.heap.objs.size + 1,s1.heap.objs.size],_,_,H1,rfl,I2,T,⟨⟨_,he⟩,hi⟩,fun c hc => ?_,q⟩
 have hle:s1.heap.objs.size ≤ c:=by
  have c7:c = s1.heap.objs.size + 1 ∨ c = s1.heap.objs.size:=by simpa using hc
  rcases c7 with r | r <;> (rw [r]; first | exact Nat.le_refl _ | exact Nat.le_add_right _ _)
 exact I1.uW hle (I1.b?.fresh hle)
end
section
variable {X:Cx}
theorem yb (hh:X.A.handled = none):bU X (.builtin "max") (fun xs H Q => ∃ i j,xs = [.int i,.int j] ∧ Q (.int (if j > i then j else i)) H):=by
 rintro af s σ H xs ws Q I r ⟨i,j,rfl,q⟩
 obtain ⟨u,v,rfl,ru,rv⟩:=bo.two r
 obtain ⟨t,rfl⟩:=ru
 obtain ⟨t',rfl⟩:=rv
 refine max_two_ints hh fun h' tk hk => ?_
 refine ⟨.int (if j > i then j else i),H,I.kept hk,?_,q⟩
 by_cases c:j > i
 ·rw [if_pos c,if_pos c]; exact ⟨_,rfl⟩
 ·rw [if_neg c,if_neg c]; exact ⟨_,rfl⟩
theorem Ae:JF X (J2 X.K):=by
 intro af s σ H o i ov iv Q I ro ri h
 obtain ⟨p,xs,k,z,rfl,rfl,hq,he,q⟩:=h
 cases ro
 obtain ⟨t,rfl⟩:=ri
 obtain ⟨aO,r,pl,hz⟩:=I.list hq
 obtain ⟨j,h1,h2,h3,h4,h5⟩:=mY he
 obtain ⟨w,ew,qF⟩:=r.get h2
 have hl:=r.length
 have hn:=jE
 have fin:EP X af σ Q w s:=⟨z,H,I,qF,q⟩
 by_cases h0:0 ≤ k
 ·have hj:k.toNat = j:=by
   rw [seqIndex_of h0 h5] at h1
   exact Option.some.inj h1
  exact wpAny_getItem_list pl.isList h0 (by lia) (by rw [hj]; simpa using ew) fin
 ·have hj:(k + (aO.toArray.size:Int)).toNat = j:=by
   rw [seqIndex_neg (by lia) h4] at h1
   rw [List.size_toArray,← hl]
   exact Option.some.inj h1
  exact wpAny_getItem_list_neg pl.isList (by lia) (by rw [List.size_toArray] <;> lia) (by lia) (by rw [hj]; simpa using ew) fin
end
end L2
namespace L2
open PySem PySem.Spec PyProof.Rows
structure nM where
 qual:Str
 params:Arguments
 body:Expr
 scope:Scope
 ps:List Str
 x:Str
noncomputable abbrev Fz (H:Hp) (a:Addr) (o:Obj):Prop:=H a = some (.jB o (.own 0))
structure Mu (L:nM) (H:Hp) (f c c':Addr) (v:V):Prop where
 fn:∃ pm Od,Fz H f (PySem.W.kla_obj "<lambda>" L.qual L.params L.body L.scope [(L.x,c)] pm c' Od)
 cd:∃ oc vs t,Fz H c' oc ∧ oc.data = .fields vs ∧ vs[1]? = some (.str L.qual t)
 ce:∃ oc u,Fz H c oc ∧ oc.data = .cell (some u) ∧ bC v u
noncomputable def back (H H':Hp) (c:Addr):Hp:=fun b => if b = c then H b else H' b
end L2
namespace L2
open PySem PySem.Spec PyProof.Rows
noncomputable def Tab (H:Hp) (T:Addr) (line col:Nat) (qual:Str):Prop:=H T = some (.BX #[]) ∨
 ∃ c' oc vs t,H T = some (.BX #[rawInt line,rawInt col,.ref c']) ∧ Fz H c' oc ∧ oc.data = .fields vs ∧ vs[1]? = some (.str qual t)
end L2
namespace L2
open PySem PySem.Spec PyProof.Rows
theorem Mu.mono {L:nM} {H H':Hp} {f c c':Addr} {v:V} (C:Mu L H f c c' v) (k:∀ b o u,H b = some (.jB o u) → H' b = some (.jB o u)):Mu L H' f c c' v:=by
 obtain ⟨⟨pm,Od,h1⟩,⟨oc,vs,t,h2,h3⟩,⟨o2,u,h4,h5⟩⟩:=C
 exact ⟨⟨pm,Od,k _ _ _ h1⟩,⟨oc,vs,t,k _ _ _ h2,h3⟩,⟨o2,u,k _ _ _ h4,h5⟩⟩
end L2
namespace MN
open PySem PySem.Spec L2
open PyProof.Rows hiding St
inductive ah where
 | dA | bl (b:Bool) | int (i:Int) | str (x:Str) | tup (vs:List ah) | loc (n:Nat) | exc (c:Str) | fn (L:nM) (u:ah) | mt (vs:List ah)
inductive aQ where
 | lst (vs:List ah) | GI (vs:List ah) | mod (vs:List ah) | dK (kvs:List (dh × ah)) | dT (kvs:List (List dh × ah)) | tab (x:Str) (line col:Nat) (qual:Str) | ins (c:Str) (fs:List (Str × ah)) | fd (kvs:List (dh × ah))
noncomputable abbrev ag:=List aQ
noncomputable abbrev Env:=List (Option ah)
inductive cn (α:Type) where
 | ok (a:α) (st:ag) | err (c:Str) (st:ag) | bad
inductive bN where
 | nx (μ:Env) (st:ag) | rt (v:ah) (st:ag) | bk (μ:Env) (st:ag) | ct (μ:Env) (st:ag) | er (c:Str) (μ:Env) (st:ag) | bad
@[reducible] def cn.bind {α β:Type} (r:cn α) (k:α → ag → cn β):cn β:=match r with
 | .ok a st => k a st
 | .err c st => .err c st
 | .bad => .bad
structure Wo where
 K:PySem.W.Frag
 mg:Str → Option Value
 pn:List (Addr × Obj)
noncomputable abbrev wo (X:Cx):Wo:=⟨X.K,X.mg,X.pn⟩
mutual
noncomputable def Rl (K:PySem.W.Frag) (ρ:List Addr) (H:Hp):ah → V → Prop
 | .dA,v => v = .dA
 | .bl b,v => v = .bl b
 | .int i,v => v = .int i
 | .str x,v => v = .str x
 | .tup us,v => ∃ a vs,v = .ref a ∧ H a = some (.tup vs) ∧ bt K ρ H us vs
 | .mt us,v => ∃ a vs,v = .ref a ∧ jD K H a vs ∧ bt K ρ H us vs
 | .loc n,v => ∃ a,v = .ref a ∧ ρ[n]? = some a
 | .exc _,_ => False
 | .fn _ _,_ => False
noncomputable def bt (K:PySem.W.Frag) (ρ:List Addr) (H:Hp):List ah → List V → Prop
 | [],vs => vs = []
 | u :: us,vs => ∃ v r,vs = v :: r ∧ Rl K ρ H u v ∧ bt K ρ H us r
end
structure aN (ρ:List Addr) (H:Hp) (ρ':List Addr) (H':Hp):Prop where
 pre:ρ <+: ρ'
 tup:∀ b xs,H b = some (.tup xs) → H' b = some (.tup xs)
 jB:∀ b o u,H b = some (.jB o u) → H' b = some (.jB o u)
theorem aN.refl (ρ:List Addr) (H:Hp):aN ρ H ρ H:=⟨List.prefix_refl ρ,fun _ _ h => h,fun _ _ _ h => h⟩
theorem aN.trans {ρ ρ1 ρ2:List Addr} {H H1 H2:Hp} (a:aN ρ H ρ1 H1) (b:aN ρ1 H1 ρ2 H2):aN ρ H ρ2 H2 :=
 ⟨a.pre.trans b.pre,fun _ _ h => b.tup _ _ (a.tup _ _ h),fun _ _ _ h => b.jB _ _ _ (a.jB _ _ _ h)⟩
theorem aN.same {ρ:List Addr} {H H':Hp} (e:kz H H'):aN ρ H ρ H':=⟨List.prefix_refl ρ,fun _ _ h => e _ _ h,fun _ _ _ h => e _ _ h⟩
theorem aN.snoc {ρ:List Addr} {H H':Hp} (p:Addr) (e:kz H H'):aN ρ H (ρ ++ [p]) H':=⟨List.prefix_append ρ [p],fun _ _ h => e _ _ h,fun _ _ _ h => e _ _ h⟩
theorem aN.at_ {ρ ρ':List Addr} {H H':Hp} (e:aN ρ H ρ' H') {n:Nat} {a:Addr} (h:ρ[n]? = some a):ρ'[n]? = some a:=by
 obtain ⟨t,rfl⟩:=e.pre
 have hl:n < ρ.length:=by
  rcases Nat.lt_or_ge n ρ.length with q | q
  ·exact q
  ·rw [List.getElem?_eq_none q] at h; cases h
 rw [List.getElem?_append_left hl,h]
theorem aN.Oe {K:PySem.W.Frag} {ρ ρ':List Addr} {H H':Hp} (e:aN ρ H ρ' H') {a:Addr} {xs:List V} (h:jD K H a xs):jD K H' a xs:=by
 rcases h with (h | ⟨o,h⟩) | h
 ·exact .inl (.inl (e.tup _ _ h))
 ·exact .inl (.inr ⟨o,e.jB _ _ _ h⟩)
 ·exact .inr h
mutual
theorem Rl.mono {K:PySem.W.Frag} {ρ ρ':List Addr} {H H':Hp} (e:aN ρ H ρ' H'):∀ (u:ah) (v:V),Rl K ρ H u v → Rl K ρ' H' u v
 | .dA,_,h => h
 | .bl _,_,h => h
 | .int _,_,h => h
 | .str _,_,h => h
 | .tup us,v,h => by
  unfold Rl at h ⊢
  obtain ⟨a,vs,h1,h2,h3⟩:=h
  exact ⟨a,vs,h1,e.tup _ _ h2,bt.mono e us vs h3⟩
 | .mt us,v,h => by
  unfold Rl at h ⊢
  obtain ⟨a,vs,h1,h2,h3⟩:=h
  exact ⟨a,vs,h1,e.Oe h2,bt.mono e us vs h3⟩
 | .loc n,v,h => by
  unfold Rl at h ⊢
  obtain ⟨a,h1,h2⟩:=h
  exact ⟨a,h1,e.at_ h2⟩
 | .exc c,v,h => h
 | .fn _ _,_,h => h
theorem bt.mono {K:PySem.W.Frag} {ρ ρ':List Addr} {H H':Hp} (e:aN ρ H ρ' H'):∀ (us:List ah) (vs:List V),bt K ρ H us vs → bt K ρ' H' us vs
 | [],_,h => h
 | u :: us,vs,h => by
  unfold bt at h ⊢
  obtain ⟨v,r,h1,h2,h3⟩:=h
  exact ⟨v,r,h1,Rl.mono e u v h2,bt.mono e us r h3⟩
end
section
variable {K:PySem.W.Frag} {ρ ρ':List Addr} {H H':Hp}
theorem bt.nil:bt K ρ H [] []:=by unfold bt; rfl
theorem bt.cons {u:ah} {us:List ah} {v:V} {vs:List V} (h:Rl K ρ H u v) (hs:bt K ρ H us vs):bt K ρ H (u :: us) (v :: vs):=by
 unfold bt; exact ⟨v,vs,rfl,h,hs⟩
theorem bt.cC {u:ah} {us:List ah} {vs:List V} (h:bt K ρ H (u :: us) vs):∃ v r,vs = v :: r ∧ Rl K ρ H u v ∧ bt K ρ H us r:=by
 unfold bt at h; exact h
theorem bt.eI {vs:List V} (h:bt K ρ H [] vs):vs = []:=by unfold bt at h; exact h
theorem bt.length:∀ {us:List ah} {vs:List V},bt K ρ H us vs → us.length = vs.length
 | [],vs,h => by rw [h.eI]; rfl
 | u :: us,vs,h => by
  obtain ⟨v,r,rfl,_,h3⟩:=h.cC
  rw [List.length_cons,List.length_cons,h3.length]
theorem bt.get:∀ {us:List ah} {vs:List V} {i:Nat} {u:ah},bt K ρ H us vs → us[i]? = some u → ∃ v,vs[i]? = some v ∧ Rl K ρ H u v
 | [],_,_,_,_,e => by cases e
 | w :: us,vs,0,u,h,e => by
  obtain ⟨v,r,rfl,h2,_⟩:=h.cC
  cases e
  exact ⟨v,rfl,h2⟩
 | w :: us,vs,i + 1,u,h,e => by
  obtain ⟨v,r,rfl,_,h3⟩:=h.cC
  exact bt.get (i:=i) h3 e
theorem bt.append:∀ {us ws:List ah} {vs xs:List V},bt K ρ H us vs → bt K ρ H ws xs → bt K ρ H (us ++ ws) (vs ++ xs)
 | [],_,vs,_,h,k => by rw [h.eI]; exact k
 | u :: us,ws,vs,xs,h,k => by
  obtain ⟨v,r,rfl,h2,h3⟩:=h.cC
  exact bt.cons h2 (h3.append k)
theorem bt.drop:∀ (n:Nat) {us:List ah} {vs:List V},bt K ρ H us vs → bt K ρ H (us.drop n) (vs.drop n)
 | 0,_,_,h => h
 | _ + 1,[],vs,h => by rw [h.eI]; exact bt.nil
 | n + 1,u :: us,vs,h => by
  obtain ⟨v,r,rfl,h2,h3⟩:=h.cC
  exact bt.drop n h3
theorem bt.take:∀ (n:Nat) {us:List ah} {vs:List V},bt K ρ H us vs → bt K ρ H (us.take n) (vs.take n)
 | 0,_,_,_ => bt.nil
 | _ + 1,[],vs,h => by rw [h.eI]; exact bt.nil
 | n + 1,u :: us,vs,h => by
  obtain ⟨v,r,rfl,h2,h3⟩:=h.cC
  exact bt.cons h2 (bt.take n h3)
theorem bt.set {u:ah} {v:V} (hu:Rl K ρ H u v):∀ (n:Nat) {us:List ah} {vs:List V},bt K ρ H us vs → bt K ρ H (us.set n u) (vs.set n v)
 | _,[],vs,h => by rw [h.eI]; exact bt.nil
 | 0,w :: us,vs,h => by
  obtain ⟨x,r,rfl,h2,h3⟩:=h.cC
  exact bt.cons hu h3
 | n + 1,w :: us,vs,h => by
  obtain ⟨x,r,rfl,h2,h3⟩:=h.cC
  exact bt.cons h2 (bt.set hu n h3)
theorem bt.one {u:ah} {v:V} (h:Rl K ρ H u v):bt K ρ H [u] [v]:=bt.cons h bt.nil
theorem bt.tj {u:ah} {vs:List V} (h:bt K ρ H [u] vs):∃ v,vs = [v] ∧ Rl K ρ H u v:=by
 obtain ⟨v,r,rfl,h2,h3⟩:=h.cC
 rw [h3.eI]
 exact ⟨v,rfl,h2⟩
theorem bt.Mv {u w:ah} {vs:List V} (h:bt K ρ H [u,w] vs):∃ v x,vs = [v,x] ∧ Rl K ρ H u v ∧ Rl K ρ H w x:=by
 obtain ⟨v,r,rfl,h2,h3⟩:=h.cC
 obtain ⟨x,rfl,h4⟩:=h3.tj
 exact ⟨v,x,rfl,h2,h4⟩
theorem bt.ints:∀ (ns:List Int),bt K ρ H (ns.map ah.int) (ns.map V.int)
 | [] => bt.nil
 | n :: ns => bt.cons (by unfold Rl; rfl) (bt.ints ns)
theorem Rl.b8 {i:Int} {v:V} (h:Rl K ρ H (.int i) v):v = .int i:=by unfold Rl at h; exact h
theorem Rl.sI {b:Bool} {v:V} (h:Rl K ρ H (.bl b) v):v = .bl b:=by unfold Rl at h; exact h
theorem Rl.iO {x:Str} {v:V} (h:Rl K ρ H (.str x) v):v = .str x:=by unfold Rl at h; exact h
theorem Rl.nN {v:V} (h:Rl K ρ H .dA v):v = .dA:=by unfold Rl at h; exact h
theorem Rl.Kw {us:List ah} {v:V} (h:Rl K ρ H (.tup us) v):∃ a vs,v = .ref a ∧ H a = some (.tup vs) ∧ bt K ρ H us vs:=by unfold Rl at h; exact h
theorem Rl.gn {us:List ah} {v:V} (h:Rl K ρ H (.tup us) v):∃ a vs,v = .ref a ∧ jD K H a vs ∧ bt K ρ H us vs:=let ⟨a,vs,h1,h2,h3⟩:=h.Kw; ⟨a,vs,h1,jD.of h2,h3⟩
theorem Rl.QE {us:List ah} {v:V} (h:Rl K ρ H (.mt us) v):∃ a vs,v = .ref a ∧ jD K H a vs ∧ bt K ρ H us vs:=by unfold Rl at h; exact h
theorem Rl.Of {us:List ah} {a:Addr} {vs:List V} (h:jD K H a vs) (r:bt K ρ H us vs):Rl K ρ H (.mt us) (.ref a):=by unfold Rl; exact ⟨a,vs,rfl,h,r⟩
theorem Rl.dF {n:Nat} {v:V} (h:Rl K ρ H (.loc n) v):∃ a,v = .ref a ∧ ρ[n]? = some a:=by unfold Rl at h; exact h
theorem Rl.mkInt (i:Int):Rl K ρ H (.int i) (.int i):=by unfold Rl; rfl
theorem Rl.Af (b:Bool):Rl K ρ H (.bl b) (.bl b):=by unfold Rl; rfl
theorem Rl.mkStr (x:Str):Rl K ρ H (.str x) (.str x):=by unfold Rl; rfl
theorem Rl.wD:Rl K ρ H .dA .dA:=by unfold Rl; rfl
theorem Rl.p5 {us:List ah} {a:Addr} {vs:List V} (h:H a = some (.tup vs)) (r:bt K ρ H us vs):Rl K ρ H (.tup us) (.ref a):=by unfold Rl; exact ⟨a,vs,rfl,h,r⟩
theorem Rl.Ag {n:Nat} {a:Addr} (h:ρ[n]? = some a):Rl K ρ H (.loc n) (.ref a):=by unfold Rl; exact ⟨a,rfl,h⟩
end
noncomputable def gp {κ:Type} (K:PySem.W.Frag) (ρ:List Addr) (H:Hp) (kvs:List (κ × ah)) (dO:List (κ × V)):Prop:=kvs.map (·.1) = dO.map (·.1) ∧ bt K ρ H (kvs.map (·.2)) (dO.map (·.2))
noncomputable def iP:Option aQ → Bool
 | some (.mod _) => true
 | _ => false
noncomputable def Og (K:PySem.W.Frag) (a:Addr) (vs:List V):Prop:=∃ (o:Obj) (aO:Array Value) (n:Nat),K.lookup a = some o ∧ o.cls = .type "list" ∧ o.dict = none ∧ o.data = .seq aO n ∧ aO.size ≤ sizeLine ∧ bo vs aO.toList
noncomputable def fP (K:PySem.W.Frag) (ρ:List Addr) (H:Hp):aQ → Addr → Prop
 | .lst us,a => ∃ vs,H a = some (.lst vs) ∧ bt K ρ H us vs
 | .GI us,a => ∃ o vs,H a = some (.jB o (.lst vs)) ∧ bt K ρ H us vs
 | .mod us,a => ∃ vs,Og K a vs ∧ bt K ρ H us vs
 | .dK kvs,a => ∃ dO,H a = some (.dK dO) ∧ gp K ρ H kvs dO
 | .dT kvs,a => ∃ dO,H a = some (.dT dO) ∧ gp K ρ H kvs dO
 | .fd kvs,a => ∃ o dO,H a = some (.jB o (.dK dO)) ∧ gp K ρ H kvs dO
 | .tab x l c q,a => (∃ cd,PySem.W.tabIn K x = some (cd,a)) ∧ Tab H a l c q
 | .ins c fs,a => ∃ C dx gs,H a = some (.ins C dx gs) ∧ PySem.W.nsIn K mainGlobals c = some (some (.ref C)) ∧ gp K ρ H fs gs
structure SR (K:PySem.W.Frag) (ρ:List Addr) (st:ag) (H:Hp):Prop where
 len:ρ.length = st.length
 nd:∀ (n m:Nat) a,ρ[n]? = some a → ρ[m]? = some a → iP st[n]? = false → iP st[m]? = false → n = m
 cell:∀ (n:Nat) c a,st[n]? = some c → ρ[n]? = some a → fP K ρ H c a
theorem bJ {α:Type} {l:List α} {n:Nat} {x:α} (h:l[n]? = some x):n < l.length:=by
 rcases Nat.lt_or_ge n l.length with q | q
 ·exact q
 ·rw [List.getElem?_eq_none q] at h; cases h
section
variable {K:PySem.W.Frag} {ρ ρ':List Addr} {H H':Hp} {st:ag}
theorem fP.there {c:aQ} {a:Addr} (h:fP K ρ H c a) (hn:iP (some c) = false):∃ o,H a = some o ∧ ∀ xs,o ≠ .tup xs:=by
 cases c with
 | lst us => obtain ⟨vs,h,_⟩:=h; exact ⟨_,h,fun xs e => by cases e⟩
 | GI us => obtain ⟨o,vs,h,_⟩:=h; exact ⟨_,h,fun xs e => by cases e⟩
 | fd us => obtain ⟨o,vs,h,_⟩:=h; exact ⟨_,h,fun xs e => by cases e⟩
 | mod us => cases hn
 | dK kvs => obtain ⟨vs,h,_⟩:=h; exact ⟨_,h,fun xs e => by cases e⟩
 | dT kvs => obtain ⟨vs,h,_⟩:=h; exact ⟨_,h,fun xs e => by cases e⟩
 | tab x l c q => rcases h.2 with h | ⟨_,_,_,_,h,_⟩ <;> exact ⟨_,h,fun xs e => by cases e⟩
 | ins c fs => obtain ⟨_,_,_,h,_⟩:=h; exact ⟨_,h,fun xs e => by cases e⟩
theorem fP.mono {c:aQ} {a:Addr} (h:fP K ρ H c a) (e:aN ρ H ρ' H') (ha:iP (some c) = true ∨ H' a = H a):fP K ρ' H' c a:=by
 cases c with
 | mod us => obtain ⟨vs,h,r⟩:=h; exact ⟨vs,h,bt.mono e _ _ r⟩
 | lst us => rcases ha with ha | ha <;> first | cases ha; done | (obtain ⟨vs,h,r⟩:=h; exact ⟨vs,ha.trans h,bt.mono e _ _ r⟩)
 | GI us => rcases ha with ha | ha <;> first | cases ha; done | (obtain ⟨o,vs,h,r⟩:=h; exact ⟨o,vs,ha.trans h,bt.mono e _ _ r⟩)
 | dK kvs => rcases ha with ha | ha <;> first | cases ha; done | (obtain ⟨vs,h,r⟩:=h; exact ⟨vs,ha.trans h,r.1,bt.mono e _ _ r.2⟩)
 | dT kvs => rcases ha with ha | ha <;> first | cases ha; done | (obtain ⟨vs,h,r⟩:=h; exact ⟨vs,ha.trans h,r.1,bt.mono e _ _ r.2⟩)
 | fd kvs => rcases ha with ha | ha <;> first | cases ha; done | (obtain ⟨o,vs,h,r⟩:=h; exact ⟨o,vs,ha.trans h,r.1,bt.mono e _ _ r.2⟩)
 | ins c fs => rcases ha with ha | ha <;> first | cases ha; done | (obtain ⟨C,dx,gs,h,hn,r⟩:=h; exact ⟨C,dx,gs,ha.trans h,hn,r.1,bt.mono e _ _ r.2⟩)
 | tab x l c q =>
  refine ⟨h.1,?_⟩
  rcases ha with ha | ha
  ·cases ha
  ·rcases h.2 with h | ⟨c',oc,vs,t,h,h2,h3⟩
   ·exact .inl (ha.trans h)
   ·exact .inr ⟨c',oc,vs,t,ha.trans h,e.jB _ _ _ h2,h3⟩
theorem fP.grow {c:aQ} {a:Addr} (h:fP K ρ H c a) (e:aN ρ H ρ' H') (s:kz H H'):fP K ρ' H' c a:=by
 cases z:iP (some c) with
 | true => exact h.mono e (.inl z)
 | false =>
  obtain ⟨o,ho,_⟩:=h.there z
  exact h.mono e (.inr (by rw [ho]; exact s _ _ ho))
theorem SR.there (s:SR K ρ st H) {n:Nat} {a:Addr} (h:ρ[n]? = some a):∃ c,st[n]? = some c ∧ fP K ρ H c a:=by
 have hn:=bJ h
 have IS:n < st.length:=by rw [← s.len]; exact hn
 exact ⟨st[n],List.getElem?_eq_getElem IS,s.cell n _ a (List.getElem?_eq_getElem IS) h⟩
theorem SR.grow (s:SR K ρ st H) (e:kz H H'):SR K ρ st H' :=
 ⟨s.len,s.nd,fun n c a h1 h2 => (s.cell n c a h1 h2).grow (aN.same e) e⟩
theorem SR.ER (s:SR K ρ st H) {p:Addr} (hp:H p = none) {n:Nat} (h:ρ[n]? = some p) (hm:iP st[n]? = false):False:=by
 obtain ⟨c,hc,k⟩:=s.there h
 rw [hc] at hm
 obtain ⟨o,ho,_⟩:=k.there hm
 rw [hp] at ho
 cases ho
theorem c! {p:Addr} {o:HO} (hp:H p = none):kz H (upd H p o):=kz.upd (kz.refl H) hp
theorem SR.alloc (s:SR K ρ st H) {p:Addr} {o:HO} {c:aQ} (hp:H p = none) (k:fP K (ρ ++ [p]) (upd H p o) c p):SR K (ρ ++ [p]) (st ++ [c]) (upd H p o):=by
 have e:kz H (upd H p o):=c! hp
 have at_:∀ (n:Nat) (a:Addr),(ρ ++ [p])[n]? = some a → (n < st.length ∧ ρ[n]? = some a ∧ (st ++ [c])[n]? = st[n]?) ∨ (n = st.length ∧ a = p ∧ (st ++ [c])[n]? = some c):=by
  intro n a h
  rcases Nat.lt_trichotomy n st.length with q | q | q
  ·rw [List.getElem?_append_left (by rw [s.len]; exact q)] at h
   exact .inl ⟨q,h,List.getElem?_append_left q⟩
  ·subst q
   rw [List.getElem?_append_right (by rw [s.len]; exact Nat.le_refl _),s.len,Nat.sub_self] at h
   cases h
   refine .inr ⟨rfl,rfl,?_⟩
   rw [List.getElem?_append_right (Nat.le_refl _),Nat.sub_self]; rfl
  ·rw [List.getElem?_eq_none (by rw [List.length_append,List.length_singleton,s.len]; lia)] at h
   cases h
 refine ⟨by rw [List.length_append,List.length_append,s.len]; rfl,fun n m a h1 h2 m1 m2 => ?_,fun n c' a h1 h2 => ?_⟩
 ·rcases at_ n a h1 with ⟨q1,q2,q3⟩ | ⟨q1,q2,q3⟩ <;> rcases at_ m a h2 with ⟨r1,r2,r3⟩ | ⟨r1,r2,r3⟩
  ·rw [q3] at m1; rw [r3] at m2; exact s.nd n m a q2 r2 m1 m2
  ·subst r2; rw [q3] at m1; exact (s.ER hp q2 m1).elim
  ·subst q2; rw [r3] at m2; exact (s.ER hp r2 m2).elim
  ·rw [q1,r1]
 ·rcases at_ n a h2 with ⟨q1,q2,q3⟩ | ⟨q1,q2,q3⟩
  ·rw [q3] at h1
   exact (s.cell n c' a h1 q2).grow (aN.snoc p e) e
  ·rw [q3] at h1
   cases h1
   subst q2
   exact k
theorem aN.put {a:Addr} {o o':HO} (h:H a = some o) (h1:∀ xs,o ≠ .tup xs) (h2:∀ x u,o ≠ .jB x u):aN ρ H ρ (upd H a o'):=by
 refine ⟨List.prefix_refl ρ,fun b xs e => ?_,fun b x u e => ?_⟩
 ·rw [bq (fun z => ?_)]
  ·exact e
  ·subst z; rw [h] at e; exact h1 _ (Option.some.inj e)
 ·rw [bq (fun z => ?_)]
  ·exact e
  ·subst z; rw [h] at e; exact h2 _ _ (Option.some.inj e)
theorem SR.set (s:SR K ρ st H) {n:Nat} {a:Addr} {o o':HO} {c c':aQ} (h:st[n]? = some c) (hc:iP (some c) = false) (c7:iP (some c') = false) (ha:ρ[n]? = some a) (ho:H a = some o) (h1:∀ xs,o ≠ .tup xs) (h2:∀ x u,o ≠ .jB x u)
  (k:fP K ρ (upd H a o') c' a):SR K ρ (st.set n c') (upd H a o'):=by
 have hn:n < st.length:=bJ h
 have at_:∀ (m:Nat),iP (st.set n c')[m]? = iP st[m]?:=fun m => by
  by_cases z:m = n
  ·subst z; rw [List.getElem?_set_self hn,h,hc,c7]
  ·rw [List.getElem?_set_ne (fun y => z y.symm)]
 refine ⟨by rw [List.length_set]; exact s.len,fun i m b q1 q2 m1 m2 => s.nd i m b q1 q2 (by rw [← at_]; exact m1) (by rw [← at_]; exact m2),fun m d b q1 q2 => ?_⟩
 by_cases z:m = n
 ·subst z
  rw [ha] at q2
  cases q2
  rw [List.getElem?_set_self hn] at q1
  cases q1
  exact k
 ·rw [List.getElem?_set_ne (fun y => z y.symm)] at q1
  have kb:=s.cell m d b q1 q2
  cases zm:iP (some d) with
  | true => exact kb.mono (aN.put ho h1 h2) (.inl zm)
  | false =>
   have hb:b ≠ a:=fun y => z (s.nd m n a (by rw [← y]; exact q2) ha (by rw [q1]; exact zm) (by rw [h]; exact hc))
   exact kb.mono (aN.put ho h1 h2) (.inr (bq hb))
end
noncomputable def wF (W:Wo) (ρ:List Addr) (H:Hp) (u:ah) (v:V):Prop:=match u with
 | .exc c => ∃ a oe C,v = .ref a ∧ (a,oe) ∈ W.pn ∧ W.mg c = some (.ref C) ∧ oe.cls = .ref C
 | .fn L u => ∃ f c c' cv,v = .ref f ∧ Mu L H f c c' cv ∧ Rl W.K ρ H u cv
 | u => Rl W.K ρ H u v
theorem wF.mono {W:Wo} {ρ ρ':List Addr} {H H':Hp} {u:ah} {v:V} (h:wF W ρ H u v) (e:aN ρ H ρ' H'):wF W ρ' H' u v:=by
 cases u with
 | exc c => exact h
 | fn L u => obtain ⟨f,c,c',cv,h1,C,r⟩:=h; exact ⟨f,c,c',cv,h1,C.mono (fun b o u q => e.jB b o u q),Rl.mono e _ _ r⟩
 | _ => exact Rl.mono e _ _ h
theorem wF.of {W:Wo} {ρ:List Addr} {H:Hp} {u:ah} {v:V} (h:Rl W.K ρ H u v):wF W ρ H u v:=by
 cases u with
 | exc c => unfold Rl at h; exact h.elim
 | fn L u => unfold Rl at h; exact h.elim
 | _ => exact h
structure RS (W:Wo) (ρ:List Addr) (H:Hp) (μ:Env) (σ:St):Prop where
 len:μ.length = σ.length
 at_:∀ (i:Nat) u,μ[i]? = some (some u) → ∃ v,σ[i]? = some (some v) ∧ wF W ρ H u v
section
variable {W:Wo} {ρ ρ':List Addr} {H H':Hp} {μ:Env} {σ:St}
theorem RS.mono (r:RS W ρ H μ σ) (e:aN ρ H ρ' H'):RS W ρ' H' μ σ:=⟨r.len,fun i u h => let ⟨v,h1,h2⟩:=r.at_ i u h; ⟨v,h1,h2.mono e⟩⟩
theorem RS.Kx (r:RS W ρ H μ σ) (i:Nat) {u:ah} {v:V} (h:wF W ρ H u v):RS W ρ H (μ.set i (some u)) (σ.set i (some v)):=by
 refine ⟨by rw [List.length_set,List.length_set]; exact r.len,fun j w e => ?_⟩
 by_cases z:j = i
 ·subst z
  have hj:=bJ e
  rw [List.length_set] at hj
  rw [List.getElem?_set_self hj] at e
  cases e
  exact ⟨v,List.getElem?_set_self (by rw [← r.len]; exact hj),h⟩
 ·rw [List.getElem?_set_ne (fun y => z y.symm)] at e ⊢
  exact r.at_ j w e
theorem RS.set (r:RS W ρ H μ σ) (i:Nat) {u:ah} {v:V} (h:Rl W.K ρ H u v):RS W ρ H (μ.set i (some u)) (σ.set i (some v)):=r.Kx i (wF.of h)
end
end MN
namespace MN
open PySem PySem.Spec L2
open PyProof.Rows hiding St
noncomputable abbrev ME:=Env → ag → cn ah
noncomputable abbrev MT:=Env → ag → cn Bool
noncomputable abbrev MA:=Env → ag → cn (List ah)
noncomputable abbrev MB:=Env → ag → bN
noncomputable def wR {α β:Type} (W:Wo) (E:XK) (R:List Addr → Hp → α → β → Prop) (ρ:List Addr) (H:Hp) (Q:β → Hp → Prop):cn α → Prop
 | .ok u aC => ∀ ρ' H' v,aN ρ H ρ' H' → SR W.K ρ' aC H' → R ρ' H' u v → Q v H'
 | .err c aC => ∃ C,W.mg c = some (.ref C) ∧ ∀ ρ' H',aN ρ H ρ' H' → SR W.K ρ' aC H' → E (.ref C) none H'
 | .bad => False
theorem wR.mono {α β:Type} {W:Wo} {E:XK} {R:List Addr → Hp → α → β → Prop} {ρ ρ':List Addr} {H H':Hp} {Q:β → Hp → Prop} {r:cn α} (h:wR W E R ρ H Q r) (e:aN ρ H ρ' H'):wR W E R ρ' H' Q r:=by
 cases r with
 | ok u st => exact fun ρ2 H2 v e2 s r => h ρ2 H2 v (e.trans e2) s r
 | err c st => obtain ⟨C,h1,h2⟩:=h; exact ⟨C,h1,fun ρ2 H2 e2 s => h2 ρ2 H2 (e.trans e2) s⟩
 | bad => exact h
theorem wR.pn {α β:Type} {K:PySem.W.Frag} {mg:Str → Option Value} {pn GJ:List (Addr × Obj)} {E:XK} {R:List Addr → Hp → α → β → Prop} {ρ:List Addr} {H:Hp} {Q:β → Hp → Prop} {r:cn α} (h:wR ⟨K,mg,pn⟩ E R ρ H Q r):wR ⟨K,mg,GJ⟩ E R ρ H Q r:=by
 cases r <;> exact h
noncomputable def tG {α β:Type} (W:Wo) (E:XK) (R:List Addr → Hp → α → β → Prop) (m:Env → ag → cn α):St → Hp → (β → Hp → Prop) → Prop :=
 fun σ H Q => ∃ μ ρ st,RS W ρ H μ σ ∧ SR W.K ρ st H ∧ wR W E R ρ H Q (m μ st)
noncomputable abbrev RB:List Addr → Hp → Bool → Bool → Prop:=fun _ _ b c => c = b
noncomputable abbrev tE (X:Cx) (E:XK) (m:ME):TE:=tG (wo X) E (Rl X.K) m
noncomputable abbrev tT (X:Cx) (E:XK) (m:MT):TT:=tG (wo X) E RB m
noncomputable abbrev tL (X:Cx) (E:XK) (m:MA):TA:=tG (wo X) E (bt X.K) m
theorem go {α β γ δ:Type} {W:Wo} {E:XK} {R1:List Addr → Hp → α → β → Prop} {R2:List Addr → Hp → γ → δ → Prop} {m:Env → ag → cn α} {k:α → ag → cn γ} {σ:St} {H:Hp} {Q:δ → Hp → Prop} {Q':β → Hp → Prop}
  (μ:Env) (ρ:List Addr) (st:ag) (rs:RS W ρ H μ σ) (sr:SR W.K ρ st H) (h:wR W E R2 ρ H Q ((m μ st).bind k))
  (c:∀ u st1 ρ1 H1 x,aN ρ H ρ1 H1 → SR W.K ρ1 st1 H1 → R1 ρ1 H1 u x → wR W E R2 ρ1 H1 Q (k u st1) → Q' x H1):tG W E R1 m σ H Q':=by
 refine ⟨μ,ρ,st,rs,sr,?_⟩
 cases e:m μ st with
 | ok u st1 =>
  rw [e] at h
  intro ρ1 H1 x e1 bT r1
  exact c u st1 ρ1 H1 x e1 bT r1 (wR.mono h e1)
 | err c st1 => rw [e] at h; exact h
 | bad => rw [e] at h; exact h
section
variable {X:Cx}
theorem PE.imp {e:Expr} {t t':TE} (h:PE X e t) (k:∀ σ H Q,t' σ H Q → t σ H Q):PE X e t':=fun af s σ H Q I q => h af s σ H Q I (k σ H Q q)
theorem PT.imp {e:Expr} {t t':TT} (h:PT X e t) (k:∀ σ H Q,t' σ H Q → t σ H Q):PT X e t':=fun af s σ H Q I q => h af s σ H Q I (k σ H Q q)
theorem PW.imp {e:Expr} {t t':TT} (h:PW X e t) (k:∀ σ H Q,t' σ H Q → t σ H Q):PW X e t':=fun w af s σ H Q I q => h w af s σ H Q I (k σ H Q q)
theorem PA.imp {e:List Expr} {t t':TA} (h:PA X e t) (k:∀ σ H Q,t' σ H Q → t σ H Q):PA X e t':=fun p af s σ H Q I q => h p af s σ H Q I (k σ H Q q)
theorem PS.imp {e:Stmt} {t t':TS} (h:PS X e t) (k:∀ D σ H,t' D σ H → t D σ H):PS X e t':=fun af s σ H D I q => h af s σ H D I (k D σ H q)
theorem iJ.imp {e:List Stmt} {t t':TS} (h:iJ X e t) (k:∀ D σ H,t' D σ H → t D σ H):iJ X e t':=fun af s σ H D I q => h af s σ H D I (k D σ H q)
theorem PG.imp {e:Expr} {t t':TG} (h:PG X e t) (k:∀ v σ H Q,t' v σ H Q → t v σ H Q):PG X e t':=fun af s σ H v u Q I r q => h af s σ H v u Q I r (k v σ H Q q)
theorem d5.imp {f:Value → Value → Sem Value} {t t':R2} (h:d5 X f t) (k:∀ x y H Q,t' x y H Q → t x y H Q):d5 X f t':=fun af s σ H x y v u Q I rx ry q => h af s σ H x y v u Q I rx ry (k x y H Q q)
theorem bU.imp {f:Value} {t t':List V → Hp → VK → Prop} (h:bU X f t) (k:∀ xs H Q,t' xs H Q → t xs H Q):bU X f t':=fun af s σ H xs us Q I r q => h af s σ H xs us Q I r (k xs H Q q)
theorem uP.imp {t t':R2} (h:uP X t) (k:∀ x y H Q,t' x y H Q → t x y H Q):uP X t':=fun va sl af s σ H x y v u Q I rx ry q e => h va sl af s σ H x y v u Q I rx ry (k x y H Q q) e
end
noncomputable def Ah:ah → Bool
 | .exc _ => true
 | .fn _ _ => true
 | _ => false
noncomputable def ae (i:Nat):ME:=fun μ st => match μ[i]? with
 | some (some v) => if Ah v = true then .bad else .ok v st
 | _ => .bad
theorem wF.un {W:Wo} {ρ:List Addr} {H:Hp} {u:ah} {v:V} (h:wF W ρ H u v) (n:¬ Ah u = true):Rl W.K ρ H u v:=by
 cases u with
 | exc c => exact absurd rfl n
 | fn L u => exact absurd rfl n
 | _ => exact h
noncomputable def mC (v:ah):ME:=fun _ st => .ok v st
section
variable {X:Cx} {E:XK} {pos:Pos}
theorem GK (i:Nat) {x:Str} (hN:X.N[i]? = some x:=by rfl) (hv:BY X.env.scope x:=by first | exact Or.inl rfl | exact Or.inr (Or.inl rfl) | exact Or.inr (Or.inr rfl)) (hd:(x == ("__debug__":Str)) = false:=by decide)
  (nr:(x == ("__classdict__":Str)) = false:=by decide):PE X (.Name x pos) (tE X E (ae i)):=by
 refine PE.imp (qw hN hv hd nr) ?_
 rintro σ H Q ⟨μ,ρ,st,rs,sr,h⟩
 unfold ae at h
 split at h
 ·rename_i v e
  obtain ⟨w,e',r⟩:=rs.at_ i v e
  split at h
  ·exact h.elim
  ·rename_i n
   exact ⟨w,e',h ρ H w (aN.refl _ _) sr (r.un n)⟩
 ·exact h.elim
theorem tm {e:Expr} {v:V} {c:ah} (h:PE X e (tC v)) (r:∀ ρ H,Rl X.K ρ H c v):PE X e (tE X E (mC c)):=by
 refine PE.imp h ?_
 rintro σ H Q ⟨μ,ρ,st,rs,sr,h⟩
 exact h ρ H v (aN.refl _ _) sr (r ρ H)
theorem GL {i j}:PE X (.Constant (.int i) j pos) (tE X E (mC (.int i))):=tm Fq fun _ _ => Rl.mkInt i
theorem Ky {b j}:PE X (.Constant (.bool b) j pos) (tE X E (mC (.bl b))):=tm Ju fun _ _ => Rl.Af b
theorem GN {j}:PE X (.Constant .none j pos) (tE X E (mC .dA)):=tm Fs fun _ _ => Rl.wD
theorem GO {x j}:PE X (.Constant (.str x) j pos) (tE X E (mC (.str x))):=tm Ft fun _ _ => Rl.mkStr x
structure Glob (K:PySem.W.Frag) (mg:Str → Option Value) (x:Str) (c:ah):Prop where
 at_:∃ (u:Value) (v:V),mg x = some u ∧ bC v u ∧ ∀ ρ H,Rl K ρ H c v
theorem wG {x:Str} {c:ah} (hg:Gl X x) (h:Glob X.K X.mg x c) (hd:(x == ("__debug__":Str)) = false:=by decide):PE X (.Name x pos) (tE X E (mC c)):=by
 obtain ⟨u,v,h1,h2,h3⟩:=h.at_
 exact tm (qy hg h1 h2 hd) h3
end
noncomputable abbrev F2:=ah → ah → ag → cn ah
noncomputable def rM (W:Wo) (E:XK) (f:F2):R2:=fun x y H Q => ∃ ρ st u w,SR W.K ρ st H ∧ Rl W.K ρ H u x ∧ Rl W.K ρ H w y ∧ wR W E (Rl W.K) ρ H Q (f u w st)
noncomputable def ai (f:F2) (a b:ME):ME:=fun μ st => (a μ st).bind fun x st1 => (b μ st1).bind fun y bS => f x y bS
section
variable {X:Cx} {E:XK} {pos:Pos} {a b c:Expr} {ma mb mc:ME} {f g:F2}
theorem jS {σ:St} {H:Hp} {Q:VK} (h:tE X E (ai f ma mb) σ H Q):IT (rM (wo X) E f) (tE X E ma) (tE X E mb) σ H Q:=by
 obtain ⟨μ,ρ,st,rs,sr,h⟩:=h
 refine go μ ρ st rs sr h fun u st1 ρ1 H1 x e1 bT r1 h1 => ?_
 refine go μ ρ1 st1 (rs.mono e1) bT h1 fun w bS ρ2 H2 y e2 lY r2 h2 => ?_
 exact ⟨ρ2,bS,u,w,lY,Rl.mono e2 _ _ r1,r2,h2⟩
theorem kC {op:Operator} (ho:d5 X (binaryOp op) (rM (wo X) E f)) (ha:PE X a (tE X E ma)) (hb:PE X b (tE X E mb)):PE X (.BinOp a op b pos) (tE X E (ai f ma mb)) :=
 PE.imp (JL ho ha hb) fun _ _ _ h => jS h
theorem Ai {op:CmpOp} (ho:d5 X (compareOp op) (rM (wo X) E f)) (ha:PE X a (tE X E ma)) (hb:PE X b (tE X E mb)) (hm:behindInMarks op b = false:=by first | exact zF _ | (with_unfolding_all rfl)):PE X (.Compare a [op] [b] pos) (tE X E (ai f ma mb)) :=
 PE.imp (Co ho ha hb hm) fun _ _ _ h => jS h
noncomputable def bX (m:ME):MT:=fun μ st => (m μ st).bind fun v aC => match v with
 | .bl b => .ok b aC
 | _ => .bad
theorem tq {m:ME} {σ:St} {H:Hp} {Q:Bool → Hp → Prop} (h:tT X E (bX m) σ H Q):tE X E m σ H fun x H' => ∃ k,x = .bl k ∧ Q k H':=by
 obtain ⟨μ,ρ,st,rs,sr,h⟩:=h
 refine go μ ρ st rs sr h fun u st1 ρ1 H1 x e1 bT r1 h1 => ?_
 cases u with
 | bl b => exact ⟨b,r1.sI,h1 ρ1 H1 b (aN.refl _ _) bT rfl⟩
 | _ => exact h1.elim
theorem nO {op:CmpOp} (ho:d5 X (compareOp op) (rM (wo X) E f)) (ha:PE X a (tE X E ma)) (hb:PE X b (tE X E mb)) (hm:behindInMarks op b = false:=by first | exact zF _ | (with_unfolding_all rfl)):PT X (.Compare a [op] [b] pos) (tT X E (bX (ai f ma mb))) :=
 PT.imp (Cp ho ha hb hm) fun σ H Q h => by
  show IT (rM (wo X) E f) (tE X E ma) (tE X E mb) σ H _
  exact jS (tq h)
theorem GP {m:ME} (h:PE X a (tE X E m)) (he:∀ whole,isTrue a X.env whole = (do let v ← whole; standAt a.pos; holding [v] (truthy v)):=by intro _; rfl):PT X a (tT X E (bX m)) :=
 PT.imp (Fu h he) fun σ H Q h => tq h
noncomputable def Oh (f g:F2) (a b c:ME):ME:=fun μ st => (a μ st).bind fun x st1 => (b μ st1).bind fun y bS => (f x y bS).bind fun z js => match z with
 | .bl true => (c μ js).bind fun w jL => g y w jL
 | .bl false => .ok (.bl false) js
 | _ => .bad
noncomputable def vh (a b:ME):ME:=fun μ st => (a μ st).bind fun x st1 => match x with
 | .bl true => b μ st1
 | .bl false => .ok (.bl false) st1
 | _ => .bad
noncomputable def Mw (a b:ME):ME:=fun μ st => (a μ st).bind fun x st1 => match x with
 | .bl true => .ok (.bl true) st1
 | .bl false => b μ st1
 | _ => .bad
noncomputable def GQ (a:ME):ME:=fun μ st => (a μ st).bind fun x st1 => match x with
 | .bl b => .ok (.bl (!b)) st1
 | _ => .bad
noncomputable def dE (a b:MT):MT:=fun μ st => (a μ st).bind fun x st1 => match x with
 | true => b μ st1
 | false => .ok false st1
noncomputable def vi (a b:MT):MT:=fun μ st => (a μ st).bind fun x st1 => match x with
 | true => .ok true st1
 | false => b μ st1
noncomputable def nT (a:MT):MT:=fun μ st => (a μ st).bind fun x st1 => .ok (!x) st1
noncomputable def Kz (t:MT) (a b:ME):ME:=fun μ st => (t μ st).bind fun x st1 => match x with
 | true => a μ st1
 | false => b μ st1
variable {rest:List Expr} {tA B8:MT}
theorem GR {op} {m:ME} (h:PE X a (tE X E m)):PE X (.BoolOp op [a] pos) (tE X E m):=Fy h
theorem GS (ha:PE X a (tE X E ma)) (hb:PE X (.BoolOp .And (b :: rest) pos) (tE X E mb)):PE X (.BoolOp .And (a :: b :: rest) pos) (tE X E (vh ma mb)):=by
 refine PE.imp (FA ha hb) ?_
 rintro σ H Q ⟨μ,ρ,st,rs,sr,h⟩
 refine go μ ρ st rs sr h fun u st1 ρ1 H1 x e1 bT r1 h1 => ?_
 cases u with
 | bl k =>
  refine ⟨k,r1.sI,?_⟩
  cases k with
  | true => rw [if_pos rfl]; exact ⟨μ,ρ1,st1,rs.mono e1,bT,h1⟩
  | false => rw [if_neg Bool.false_ne_true]; exact h1 ρ1 H1 _ (aN.refl _ _) bT (Rl.Af false)
 | _ => exact h1.elim
theorem KA (ha:PE X a (tE X E ma)) (hb:PE X (.BoolOp .Or (b :: rest) pos) (tE X E mb)):PE X (.BoolOp .Or (a :: b :: rest) pos) (tE X E (Mw ma mb)):=by
 refine PE.imp (Jy ha hb) ?_
 rintro σ H Q ⟨μ,ρ,st,rs,sr,h⟩
 refine go μ ρ st rs sr h fun u st1 ρ1 H1 x e1 bT r1 h1 => ?_
 cases u with
 | bl k =>
  refine ⟨k,r1.sI,?_⟩
  cases k with
  | true => rw [if_pos rfl]; exact h1 ρ1 H1 _ (aN.refl _ _) bT (Rl.Af true)
  | false => rw [if_neg Bool.false_ne_true]; exact ⟨μ,ρ1,st1,rs.mono e1,bT,h1⟩
 | _ => exact h1.elim
theorem GU (ha:PE X a (tE X E ma)):PE X (.UnaryOp .Not a pos) (tE X E (GQ ma)):=by
 refine PE.imp (FC ha) ?_
 rintro σ H Q ⟨μ,ρ,st,rs,sr,h⟩
 refine go μ ρ st rs sr h fun u st1 ρ1 H1 x e1 bT r1 h1 => ?_
 cases u with
 | bl k => exact ⟨k,r1.sI,h1 ρ1 H1 _ (aN.refl _ _) bT (Rl.Af _)⟩
 | _ => exact h1.elim
theorem C5 (ha:PT X a (tT X E tA)):PW X (.BoolOp .And [a] pos) (tT X E tA):=B9 ha
theorem GV (ha:PT X a (tT X E tA)):PW X (.BoolOp .Or [a] pos) (tT X E tA):=Fv ha
theorem GW (ha:PT X a (tT X E tA)) (hb:PW X (.BoolOp .And (b :: rest) pos) (tT X E B8)):PW X (.BoolOp .And (a :: b :: rest) pos) (tT X E (dE tA B8)):=by
 refine PW.imp (Fw ha hb) ?_
 rintro σ H Q ⟨μ,ρ,st,rs,sr,h⟩
 refine go (R1:=RB) μ ρ st rs sr h fun u st1 ρ1 H1 x e1 bT r1 h1 => ?_
 cases r1
 cases u with
 | true => rw [if_pos rfl]; exact ⟨μ,ρ1,st1,rs.mono e1,bT,h1⟩
 | false => rw [if_neg Bool.false_ne_true]; exact h1 ρ1 H1 _ (aN.refl _ _) bT rfl
theorem KC (ha:PT X a (tT X E tA)) (hb:PW X (.BoolOp .Or (b :: rest) pos) (tT X E B8)):PW X (.BoolOp .Or (a :: b :: rest) pos) (tT X E (vi tA B8)):=by
 refine PW.imp (Jv ha hb) ?_
 rintro σ H Q ⟨μ,ρ,st,rs,sr,h⟩
 refine go (R1:=RB) μ ρ st rs sr h fun u st1 ρ1 H1 x e1 bT r1 h1 => ?_
 cases r1
 cases u with
 | true => rw [if_pos rfl]; exact h1 ρ1 H1 _ (aN.refl _ _) bT rfl
 | false => rw [if_neg Bool.false_ne_true]; exact ⟨μ,ρ1,st1,rs.mono e1,bT,h1⟩
theorem Oi {e:Expr} {t:MT} (h:PW X e (tT X E t)):PT X e (tT X E t):=h.pt
theorem GX (ha:PT X a (tT X E tA)):PT X (.UnaryOp .Not a pos) (tT X E (nT tA)):=by
 refine PT.imp (Fx ha) ?_
 rintro σ H Q ⟨μ,ρ,st,rs,sr,h⟩
 refine go (R1:=RB) μ ρ st rs sr h fun u st1 ρ1 H1 x e1 bT r1 h1 => ?_
 cases r1
 exact h1 ρ1 H1 _ (aN.refl _ _) bT rfl
theorem KD (hc:PT X c (tT X E tA)) (ha:PE X a (tE X E ma)) (hb:PE X b (tE X E mb)):PE X (.IfExp c a b pos) (tE X E (Kz tA ma mb)):=by
 refine PE.imp (zy hc ha hb) ?_
 rintro σ H Q ⟨μ,ρ,st,rs,sr,h⟩
 refine go (R1:=RB) μ ρ st rs sr h fun u st1 ρ1 H1 x e1 bT r1 h1 => ?_
 cases r1
 cases u with
 | true => rw [if_pos rfl]; exact ⟨μ,ρ1,st1,rs.mono e1,bT,h1⟩
 | false => rw [if_neg Bool.false_ne_true]; exact ⟨μ,ρ1,st1,rs.mono e1,bT,h1⟩
end
noncomputable def aq:MA:=fun _ st => .ok [] st
noncomputable def aa (a:ME) (r:MA):MA:=fun μ st => (a μ st).bind fun x st1 => (r μ st1).bind fun xs bS => .ok (x :: xs) bS
noncomputable def iQ (a:MA):ME:=fun μ st => (a μ st).bind fun xs st1 => if xs.length ≤ sizeLine then .ok (.tup xs) st1 else .bad
noncomputable def cF (a:MA):ME:=fun μ st => (a μ st).bind fun xs st1 => if xs.length ≤ sizeLine then .ok (.loc st1.length) (st1 ++ [.lst xs]) else .bad
noncomputable abbrev FN:=List ah → ag → cn ah
noncomputable def ao (f:FN) (a:MA):ME:=fun μ st => (a μ st).bind fun xs st1 => f xs st1
noncomputable def GY (W:Wo) (f:FN):Sp:=fun vs H Q E => ∃ us ρ st,bt W.K ρ H us vs ∧ SR W.K ρ st H ∧ wR W E (Rl W.K) ρ H Q (f us st)
noncomputable def cM (W:Wo) (E:XK) (f:FN):List V → Hp → VK → Prop:=fun xs H Q => ∃ ρ st us,SR W.K ρ st H ∧ bt W.K ρ H us xs ∧ wR W E (Rl W.K) ρ H Q (f us st)
section
variable {X:Cx} {E:XK} {pos p:Pos} {e:Expr} {es:List Expr} {m:ME} {ms:MA} {f:FN} {x:Str}
theorem GZ:PA X [] (tL X E aq):=PA.imp nC fun σ H Q ⟨μ,ρ,st,rs,sr,h⟩ => h ρ H [] (aN.refl _ _) sr bt.nil
theorem C6 (ha:PE X e (tE X E m)) (hr:PA X es (tL X E ms)) (hs:starEach (e :: es) X.env = (false,eval e X.env) :: starEach es X.env:=by rfl):PA X (e :: es) (tL X E (aa m ms)):=by
 refine PA.imp (gq ha hr hs) ?_
 rintro σ H Q ⟨μ,ρ,st,rs,sr,h⟩
 refine go μ ρ st rs sr h fun u st1 ρ1 H1 x e1 bT r1 h1 => ?_
 refine go (R1:=bt X.K) μ ρ1 st1 (rs.mono e1) bT h1 fun w bS ρ2 H2 y e2 lY r2 h2 => ?_
 exact h2 ρ2 H2 _ (aN.refl _ _) lY (bt.cons (Rl.mono e2 _ _ r1) r2)
theorem G0 {k} (h:PA X es (tL X E ms)):PE X (.Tuple es k pos) (tE X E (iQ ms)):=by
 refine PE.imp (FY h) ?_
 rintro σ H Q ⟨μ,ρ,st,rs,sr,h⟩
 refine go (R1:=bt X.K) μ ρ st rs sr h fun us st1 ρ1 H1 xs e1 bT r1 h1 => ?_
 by_cases hz:us.length ≤ sizeLine
 ·rw [if_pos hz] at h1
  refine ⟨by rw [← r1.length]; exact hz,fun p hp => ?_⟩
  have s:=c! (o:=.tup xs) hp
  exact h1 ρ1 _ _ (aN.same s) (bT.grow s) (Rl.p5 cm (bt.mono (aN.same s) _ _ r1))
 ·rw [if_neg hz] at h1; exact h1.elim
theorem fE {K:PySem.W.Frag} {ρ:List Addr} {st:ag} {H:Hp} {us:List ah} {xs:List V} (sr:SR K ρ st H) (r:bt K ρ H us xs) {p:Addr} (hp:H p = none) :
  aN ρ H (ρ ++ [p]) (upd H p (.lst xs)) ∧ SR K (ρ ++ [p]) (st ++ [.lst us]) (upd H p (.lst xs)) ∧ Rl K (ρ ++ [p]) (upd H p (.lst xs)) (.loc st.length) (.ref p):=by
 have s:=c! (o:=.lst xs) hp
 refine ⟨aN.snoc p s,sr.alloc hp ⟨xs,cm,bt.mono (aN.snoc p s) _ _ r⟩,Rl.Ag ?_⟩
 rw [← sr.len,List.getElem?_append_right (Nat.le_refl _),Nat.sub_self]
 rfl
theorem G1 (h:PA X es (tL X E ms)):PE X (.List es pos) (tE X E (cF ms)):=by
 refine PE.imp (FZ h) ?_
 rintro σ H Q ⟨μ,ρ,st,rs,sr,h⟩
 refine go (R1:=bt X.K) μ ρ st rs sr h fun us st1 ρ1 H1 xs e1 bT r1 h1 => ?_
 by_cases hz:us.length ≤ sizeLine
 ·rw [if_pos hz] at h1
  refine ⟨by rw [← r1.length]; exact hz,fun p hp => ?_⟩
  obtain ⟨a,b,c⟩:=fE bT r1 hp
  exact h1 _ _ _ a b c
 ·rw [if_neg hz] at h1; exact h1.elim
theorem C7 {k:Nat} {fa:Addr} {fd:FuncData} {ps:List Str} {CX:uO} (F:iL X.prog X.w X.K X.mg X.base CX k fa fd ps (GY ⟨X.K,X.mg,[]⟩ f)) (hr:eZ k X.A) (hg:Gl X x) (hm:X.mg x = some (.ref fa)) (hk:PySem.W.keepIn X.K (.ref fa) = true)
  (hb:Binds X.K fd ps []) (hx:Passes CX X E) (ha:PA X (e :: es) (tL X E ms)) (pf:(x == ("__debug__":Str)) = false:=by decide)
  (he:starEach (e :: es) X.env = (false,eval e X.env) :: starEach es X.env:=by rfl) (iH:(backTo pos (starEach es X.env)).any (·.1) = false:=by rfl) :
  PE X (.Call (.Name x p) (e :: es) [] pos) (tE X E (ao f ms)):=by
 refine PE.imp (Cr F hr hg hm hk hb .nil hx ha pf he iH) ?_
 rintro σ H Q ⟨μ,ρ,st,rs,sr,h⟩
 refine go (R1:=bt X.K) μ ρ st rs sr h fun us st1 ρ1 H1 xs e1 bT r1 h1 => ?_
 rw [List.append_nil]
 exact ⟨us,ρ1,st1,r1,bT,wR.pn h1⟩
theorem iR {id:String} (hc:bU X (.builtin id) (cM (wo X) E f)) (hg:Gl X x) (hm:X.mg x = none) (hv:bootBuiltins x = some (.builtin id)) (ha:PA X (e :: es) (tL X E ms)) (hn:x ≠ "__name__":=by decide) (pf:(x == ("__debug__":Str)) = false:=by decide)
  (he:starEach (e :: es) X.env = (false,eval e X.env) :: starEach es X.env:=by rfl) (iH:(backTo pos (starEach es X.env)).any (·.1) = false:=by rfl):PE X (.Call (.Name x p) (e :: es) [] pos) (tE X E (ao f ms)):=by
 refine PE.imp (jP hc hg hm hv ha hn pf he iH) ?_
 rintro σ H Q ⟨μ,ρ,st,rs,sr,h⟩
 exact go (R1:=bt X.K) μ ρ st rs sr h fun us st1 ρ1 H1 xs e1 bT r1 h1 => ⟨ρ1,st1,us,bT,r1,h1⟩
theorem p6 {T:String} (hc:bU X (.type T) (cM (wo X) E f)) (hg:Gl X x) (hm:X.mg x = none) (hv:bootBuiltins x = some (.type T)) (ha:PA X (e :: es) (tL X E ms)) (hn:x ≠ "__name__":=by decide) (pf:(x == ("__debug__":Str)) = false:=by decide)
  (he:starEach (e :: es) X.env = (false,eval e X.env) :: starEach es X.env:=by rfl) (iH:(backTo pos (starEach es X.env)).any (·.1) = false:=by rfl):PE X (.Call (.Name x p) (e :: es) [] pos) (tE X E (ao f ms)):=by
 refine PE.imp (xM hc hg hm hv ha hn pf he iH) ?_
 rintro σ H Q ⟨μ,ρ,st,rs,sr,h⟩
 exact go (R1:=bt X.K) μ ρ st rs sr h fun us st1 ρ1 H1 xs e1 bT r1 h1 => ⟨ρ1,st1,us,bT,r1,h1⟩
end
section
variable {X:Cx} {E:XK} {pos:Pos} {a b:Expr} {ma mb:ME} {f:F2}
theorem KG (hr:uP X (rM (wo X) E f)) (ha:PE X a (tE X E ma)) (hb:PE X b (tE X E mb)) (hs:qE b:=by exact fun _ _ => rfl):PE X (.Subscript a b pos) (tE X E (ai f ma mb)) :=
 PE.imp (J1 hr ha hb hs) fun _ _ _ h => jS h
end
noncomputable def wS (W:Wo) (E:XK) (ρ:List Addr) (H:Hp) (D:Ends):bN → Prop
 | .nx μ st => ∀ ρ' H' σ',aN ρ H ρ' H' → SR W.K ρ' st H' → RS W ρ' H' μ σ' → D.nx σ' H'
 | .rt v st => ∀ ρ' H' x,aN ρ H ρ' H' → SR W.K ρ' st H' → Rl W.K ρ' H' v x → D.rt x H'
 | .bk μ st => ∀ ρ' H' σ',aN ρ H ρ' H' → SR W.K ρ' st H' → RS W ρ' H' μ σ' → D.bk σ' H'
 | .ct μ st => ∀ ρ' H' σ',aN ρ H ρ' H' → SR W.K ρ' st H' → RS W ρ' H' μ σ' → D.ct σ' H'
 | .er c _ st => ∃ C,W.mg c = some (.ref C) ∧ ∀ ρ' H',aN ρ H ρ' H' → SR W.K ρ' st H' → E (.ref C) none H'
 | .bad => False
theorem wS.mono {W:Wo} {E:XK} {ρ ρ':List Addr} {H H':Hp} {D:Ends} {r:bN} (h:wS W E ρ H D r) (e:aN ρ H ρ' H'):wS W E ρ' H' D r:=by
 cases r with
 | nx μ st => exact fun ρ2 H2 σ2 e2 s r => h ρ2 H2 σ2 (e.trans e2) s r
 | rt v st => exact fun ρ2 H2 x e2 s r => h ρ2 H2 x (e.trans e2) s r
 | bk μ st => exact fun ρ2 H2 σ2 e2 s r => h ρ2 H2 σ2 (e.trans e2) s r
 | ct μ st => exact fun ρ2 H2 σ2 e2 s r => h ρ2 H2 σ2 (e.trans e2) s r
 | er c μ st => obtain ⟨C,h1,h2⟩:=h; exact ⟨C,h1,fun ρ2 H2 e2 s => h2 ρ2 H2 (e.trans e2) s⟩
 | bad => exact h
noncomputable def tS (X:Cx) (E:XK) (m:MB):TS:=fun D σ H => ∃ μ ρ st,RS (wo X) ρ H μ σ ∧ SR X.K ρ st H ∧ wS (wo X) E ρ H D (m μ st)
@[reducible] def cn.sb {α:Type} (r:cn α) (μ:Env) (k:α → ag → bN):bN:=match r with
 | .ok a st => k a st
 | .err c st => .er c μ st
 | .bad => .bad
theorem uS {α β:Type} {W:Wo} {E:XK} {R1:List Addr → Hp → α → β → Prop} {m:Env → ag → cn α} {k:α → ag → bN} {σ:St} {H:Hp} {D:Ends} {Q':β → Hp → Prop}
  (μ:Env) (ρ:List Addr) (st:ag) (rs:RS W ρ H μ σ) (sr:SR W.K ρ st H) (h:wS W E ρ H D ((m μ st).sb μ k))
  (c:∀ u st1 ρ1 H1 x,aN ρ H ρ1 H1 → SR W.K ρ1 st1 H1 → R1 ρ1 H1 u x → wS W E ρ1 H1 D (k u st1) → Q' x H1):tG W E R1 m σ H Q':=by
 refine ⟨μ,ρ,st,rs,sr,?_⟩
 cases e:m μ st with
 | ok u st1 =>
  rw [e] at h
  intro ρ1 H1 x e1 bT r1
  exact c u st1 ρ1 H1 x e1 bT r1 (wS.mono h e1)
 | err c st1 => rw [e] at h; exact h
 | bad => rw [e] at h; exact h
noncomputable def bM:MB:=fun μ st => .nx μ st
noncomputable def aK (a b:MB):MB:=fun μ st => match a μ st with
 | .nx μ' aC => b μ' aC
 | r => r
noncomputable def eh (m:ME):MB:=fun μ st => (m μ st).sb μ fun _ aC => .nx μ aC
noncomputable def bD (m:ME):MB:=fun μ st => (m μ st).sb μ fun v aC => .rt v aC
noncomputable def gN (t:MT) (a b:MB):MB:=fun μ st => (t μ st).sb μ fun k aC => match k with
 | true => a μ aC
 | false => b μ aC
noncomputable def aU (i:Nat) (m:ME):MB:=fun μ st => (m μ st).sb μ fun v aC => .nx (μ.set i (some v)) aC
noncomputable def gC (c:Str) (m:MA):MB:=fun μ st => (m μ st).sb μ fun vs aC => if vs.length ≤ sizeLine then .er c μ aC else .bad
section
variable {X:Cx} {E:XK} {pos:Pos} {s1:Stmt} {rest:List Stmt} {e:Expr} {m:ME} {a b:MB}
theorem G4:iJ X [] (tS X E bM):=iJ.imp B_ fun D σ H ⟨μ,ρ,st,rs,sr,h⟩ => h ρ H σ (aN.refl _ _) sr rs
theorem wH (h1:PS X s1 (tS X E a)) (h2:iJ X rest (tS X E b)):iJ X (s1 :: rest) (tS X E (aK a b)):=by
 refine iJ.imp (zA h1 h2) ?_
 rintro D σ H ⟨μ,ρ,st,rs,sr,h⟩
 refine ⟨μ,ρ,st,rs,sr,?_⟩
 unfold aK at h
 cases e:a μ st with
 | nx μ' aC =>
  rw [e] at h
  intro ρ1 H1 σ1 e1 bT IW
  exact ⟨μ',ρ1,aC,IW,bT,wS.mono h e1⟩
 | rt v aC => rw [e] at h; exact h
 | bk μ' aC => rw [e] at h; exact h
 | ct μ' aC => rw [e] at h; exact h
 | er c μ' aC => rw [e] at h; exact h
 | bad => rw [e] at h; exact h
theorem Aj (h1:PS X s1 (tS X E a)):iJ X [s1] (tS X E a):=B! h1
theorem C8 (he:PE X e (tE X E m)) (hs:swapsWith e none pos.line X.env = pure false:=by rfl):PS X (.Expr e pos) (tS X E (eh m)):=by
 refine PS.imp (B? he hs) ?_
 rintro D σ H ⟨μ,ρ,st,rs,sr,h⟩
 exact uS μ ρ st rs sr h fun u st1 ρ1 H1 x e1 bT r1 h1 => h1 ρ1 H1 σ (aN.refl _ _) bT (rs.mono e1)
theorem G5 (he:PE X e (tE X E m)):PS X (.Return (some e) pos) (tS X E (bD m)):=by
 refine PS.imp (FD he) ?_
 rintro D σ H ⟨μ,ρ,st,rs,sr,h⟩
 exact uS μ ρ st rs sr h fun u st1 ρ1 H1 x e1 bT r1 h1 => h1 ρ1 H1 x (aN.refl _ _) bT r1
theorem KH {c:Expr} {sa sb:List Stmt} {t:MT} (hc:PT X c (tT X E t)) (ha:iJ X sa (tS X E a)) (hb:iJ X sb (tS X E b)):PS X (.If c sa sb pos) (tS X E (gN t a b)):=by
 refine PS.imp (JB hc ha hb) ?_
 rintro D σ H ⟨μ,ρ,st,rs,sr,h⟩
 refine uS (R1:=RB) μ ρ st rs sr h fun u st1 ρ1 H1 x e1 bT r1 h1 => ?_
 cases r1
 cases u with
 | true => rw [if_pos rfl]; exact ⟨μ,ρ1,st1,rs.mono e1,bT,h1⟩
 | false => rw [if_neg Bool.false_ne_true]; exact ⟨μ,ρ1,st1,rs.mono e1,bT,h1⟩
theorem tu {i:Nat} {D:Ends} {σ:St} {H:Hp} (h:tS X E (aU i m) D σ H):Cc (tE X E m) (sQ i) D σ H:=by
 obtain ⟨μ,ρ,st,rs,sr,h⟩:=h
 exact uS μ ρ st rs sr h fun u st1 ρ1 H1 x e1 bT r1 h1 => h1 ρ1 H1 _ (aN.refl _ _) bT ((rs.mono e1).set i r1)
theorem G6 (i:Nat) {x:Str} {pos':Pos} (hN:X.N.Nodup) (he:PE X e (tE X E m)) (hi:X.N[i]? = some x:=by rfl) (hx:Loc X.env.scope x:=by first | exact Or.inl rfl | exact Or.inr rfl) (hs:swapsWith e (some (.Name x pos')) pos.line X.env = pure false:=by rfl)
  (hf:X.fn x = true ∨ X.env.scope.names.lookup x = some .local:=by first | exact .inl rfl | exact .inr rfl | assumption):PS X (.Assign [.Name x pos'] e pos) (tS X E (aU i m)) :=
 PS.imp (FI hN hi hx he hs hf) fun _ _ _ h => tu h
theorem Ak {x:Str} {C:Addr} {B newId vf:String} {bm:List Value} {np bZ:Pos} {e₀:Expr} {es:List Expr} {ms:MA} (hX:Raises X E) (hc:X.calm = true) (hm:X.mg x = some (.ref C)) (hq:PySem.W.excIn X.K C bm newId = true) (FB:ExcBaseFacts B newId vf bm) (hg:Gl X x) (ha:PA X (e₀ :: es) (tL X E ms))
  (he:starEach (e₀ :: es) X.env = (false,eval e₀ X.env) :: starEach es X.env:=by rfl) (iH:(backTo bZ (starEach es X.env)).any (·.1) = false:=by rfl) (hd:(x == ("__debug__":Str)) = false:=by decide) :
  PS X (.Raise (some (.Call (.Name x np) (e₀ :: es) [] bZ)) none pos) (tS X E (gC x ms)):=by
 refine PS.imp (z? (E:=E) hX hc hm hq FB hg ha he iH hd) ?_
 rintro D σ H ⟨μ,ρ,st,rs,sr,h⟩
 refine uS (R1:=bt X.K) μ ρ st rs sr h fun us st1 ρ1 H1 xs e1 bT r1 h1 => ?_
 by_cases hz:us.length ≤ sizeLine
 ·rw [if_pos hz] at h1
  obtain ⟨C',q1,q2⟩:=h1
  have e:C' = C:=by
   have:=q1.symm.trans hm
   injection this with this
   injection this
  subst e
  exact ⟨by rw [← r1.length]; exact hz,q2 ρ1 H1 (aN.refl _ _) bT⟩
 ·rw [if_neg hz] at h1; exact h1.elim
end
noncomputable def fB (np n:Nat) (body:MB):FN:=fun us st => if us.length = np then (match body (us.map some ++ List.replicate (n - np) none) st with
 | .nx _ aC => .ok .dA aC
 | .rt v aC => .ok v aC
 | .er c _ aC => .err c aC
 | _ => .bad) else .bad
theorem RS.start {W:Wo} {ρ:List Addr} {H:Hp} {N:List Str} {us:List ah} {vs:List V} (r:bt W.K ρ H us vs):RS W ρ H (us.map some ++ List.replicate (N.length - us.length) none) (L2.start N vs):=by
 have hl:=r.length
 refine ⟨by simp [L2.start,hl],fun i u e => ?_⟩
 rcases Nat.lt_or_ge i us.length with q | q
 ·rw [List.getElem?_append_left (by rw [List.length_map]; exact q),List.getElem?_map] at e
  have e':us[i]? = some u:=by
   cases z:us[i]? with
   | none => rw [z] at e; cases e
   | some w => rw [z] at e; exact congrArg _ (Option.some.inj (Option.some.inj e))
  obtain ⟨v,h1,h2⟩:=r.get e'
  refine ⟨v,?_,wF.of h2⟩
  unfold L2.start
  rw [List.getElem?_append_left (by rw [List.length_map,← hl]; exact q),List.getElem?_map,h1]
  rfl
 ·rw [List.getElem?_append_right (by rw [List.length_map]; exact q)] at e
  rw [List.getElem?_replicate] at e
  split at e
  ·cases e
  ·cases e
section
variable {P:Program} {w:World} {K:PySem.W.Frag} {mg:Str → Option Value} {base:Heap}
theorem Al {x qual:Str} {st:Stmt} {f:Addr} {fd:FuncData} {N ps:List Str} {k:Nat} {body:MB} (F:B4 K x qual st f fd) (S:d! N ps (a_ st))
  (h:∀ (dW:Value) (A:Around) (outer:List PySem.Env) (s:Shared) (H:Hp) (E:XK),eZ k (A.deeper (envOfC qual (a_ st) s.heap.objs.size f dW)) →
   iJ (gA (jR P w) P w K mg base N qual (a_ st) f dW A outer s H E) (dj st) (tS (gA (jR P w) P w K mg base N qual (a_ st) f dW A outer s H E) E body)) :
  iL P w K mg base (jR P w) (k + 1) f fd ps (GY ⟨K,mg,[]⟩ (fB ps.length N.length body)):=by
 refine F.R6 S (fun vs H Q E q => ?_) (fun dW A outer s H vs Q E hr q => ⟨_,h dW A outer s H E hr,?_⟩)
 ·obtain ⟨us,ρ,st,r,sr,q⟩:=q
  by_cases hl:us.length = ps.length
  ·rw [← r.length]; exact hl
  ·unfold fB at q; rw [if_neg hl] at q; exact q.elim
 ·obtain ⟨us,ρ,aC,r,sr,q⟩:=q
  unfold fB at q
  by_cases hl:us.length = ps.length
  ·rw [if_pos hl,← hl] at q
   refine ⟨_,ρ,aC,RS.start r,sr,?_⟩
   revert q
   cases body (us.map some ++ List.replicate (N.length - us.length) none) aC with
   | nx μ bS => exact fun q ρ' H' σ' e s _ => q ρ' H' .dA e s Rl.wD
   | rt v bS => exact fun q => q
   | er c μ bS => exact fun q => q
   | bk μ bS => exact fun q => q.elim
   | ct μ bS => exact fun q => q.elim
   | bad => exact fun q => q.elim
  ·rw [if_neg hl] at q; exact q.elim
end
end MN
namespace MN
open PySem PySem.Spec L2
open PyProof.Rows hiding St
noncomputable def Sz (i:Int):Prop:=i.natAbs.log2 < 1000000
noncomputable instance (i:Int):Decidable (Sz i):=inferInstanceAs (Decidable (_ < _))
theorem Sz.big {i:Int} (h:Sz i):mm 1000001 i:=by
 show _ < _
 have h1:i.natAbs < 2 ^ (i.natAbs.log2 + 1):=Nat.lt_log2_self
 exact Nat.lt_of_lt_of_le h1 (Nat.pow_le_pow_right (by decide) (by have:i.natAbs.log2 < 1000000:=h; lia))
theorem Sz.of {k:Nat} {i:Int} (h:mm k i) (hk:k ≤ 1000000):Sz i:=by
 show i.natAbs.log2 < 1000000
 have h':i.natAbs < 2 ^ k:=h
 by_cases z:i.natAbs = 0
 ·rw [z]; decide
 ·exact Nat.lt_of_lt_of_le ((Nat.log2_lt z).mpr h') hk
theorem Sz.mul {i j:Int} (h:Sz i) (k:Sz j):wA i j:=⟨_,_,h.big,k.big,by decide,by decide⟩
noncomputable def Dz (i:Int):Prop:=i ≠ 0 ∧ i.natAbs.log2 < 8000
noncomputable instance (i:Int):Decidable (Dz i):=inferInstanceAs (Decidable (_ ∧ _))
theorem Dz.ok {i j:Int} (h:Dz j):wB i j:=by
 refine ⟨h.1,?_⟩
 show _ < _
 have h1:j.natAbs < 2 ^ (j.natAbs.log2 + 1):=Nat.lt_log2_self
 exact Nat.lt_of_lt_of_le h1 (Nat.pow_le_pow_right (by decide) (by have:=h.2; lia))
theorem Dz.of {k:Nat} {i:Int} (h0:i ≠ 0) (h:mm k i) (hk:k ≤ 8000):Dz i:=by
 refine ⟨h0,?_⟩
 have h':i.natAbs < 2 ^ k:=h
 exact Nat.lt_of_lt_of_le ((Nat.log2_lt (by lia)).mpr h') hk
noncomputable def MulOk (i j:Int):Prop:=(Sz i ∧ Sz j) ∨ zE i j
noncomputable instance (i j:Int):Decidable (zE i j):=inferInstanceAs (Decidable (_ ∨ _))
noncomputable instance (i j:Int):Decidable (MulOk i j):=inferInstanceAs (Decidable (_ ∨ _))
noncomputable instance (i j:Int):Decidable (xI i j):=inferInstanceAs (Decidable (_ ∧ _ ∧ _))
noncomputable def p7 (k:Nat) (us:List ah):List ah:=(List.replicate k us).flatten
noncomputable def cS:F2
 | .int i,.int j,st => .ok (.int (i + j)) st
 | .str a,.str b,st => if a.length + b.length ≤ sizeLine then .ok (.str (a ++ b)) st else .bad
 | .tup us,.tup ws,st => if us.length + ws.length ≤ sizeLine then .ok (.tup (us ++ ws)) st else .bad
 | .loc n,.loc m,st => match st[n]?,st[m]? with
  | some (.lst us),some (.lst ws) => if us.length + ws.length ≤ sizeLine then .ok (.loc st.length) (st ++ [.lst (us ++ ws)]) else .bad
  | _,_ => .bad
 | _,_,_ => .bad
noncomputable def px (g:Int → Int → ag → cn ah):F2
 | .int i,.int j,st => g i j st
 | _,_,_ => .bad
theorem C9 (g:Int → Int → ag → cn ah) (u w:ah) (st:ag):(∃ i j,u = .int i ∧ w = .int j) ∨ px g u w st = .bad:=by
 cases u with
 | int i =>
  cases w with
  | int j => exact .inl ⟨i,j,rfl,rfl⟩
  | _ => exact .inr rfl
 | _ => exact .inr rfl
theorem gr {g:Int → Int → ag → cn ah} {W:Wo} {E:XK} {ρ:List Addr} {st:ag} {H:Hp} {Q:VK} {u w:ah} (h:wR W E (Rl W.K) ρ H Q (px g u w st)):∃ i j,u = .int i ∧ w = .int j ∧ wR W E (Rl W.K) ρ H Q (g i j st):=by
 rcases C9 g u w st with ⟨i,j,rfl,rfl⟩ | z
 ·exact ⟨i,j,rfl,rfl,h⟩
 ·rw [z] at h; exact h.elim
noncomputable def gD:F2:=px fun i j st => .ok (.int (i - j)) st
noncomputable def b9:F2
 | .int i,.int j,st => if MulOk i j then .ok (.int (i * j)) st else .bad
 | .loc n,.int k,st => match st[n]? with
  | some (.lst us) => if -(2 ^ 63) ≤ k ∧ k < 2 ^ 63 ∧ us.length * k.toNat ≤ sizeLine then .ok (.loc st.length) (st ++ [.lst (p7 k.toNat us)]) else .bad
  | _ => .bad
 | _,_,_ => .bad
noncomputable def gu:F2:=px fun i j st => if Dz j then .ok (.int (i.fdiv j)) st else .bad
noncomputable def cq:F2:=px fun i j st => if j = 0 then .bad else .ok (.int (i.fmod j)) st
noncomputable def yc:F2:=px fun i j st => if xI i j then .ok (.int (i ^ j.toNat)) st else .bad
noncomputable def ltV:F2:=px fun i j st => .ok (.bl (decide (i < j))) st
noncomputable def qV:F2:=px fun i j st => .ok (.bl (decide (j < i))) st
section
variable {X:Cx} {E:XK}
theorem dm {W:Wo} {ρ:List Addr} {st:ag} {H:Hp} {Q:VK} {i:Int} (sr:SR W.K ρ st H) (h:wR W E (Rl W.K) ρ H Q (.ok (.int i) st)):Q (.int i) H:=h ρ H _ (aN.refl _ _) sr (Rl.mkInt i)
theorem iz {W:Wo} {ρ:List Addr} {st:ag} {H:Hp} {Q:VK} {i:Bool} (sr:SR W.K ρ st H) (h:wR W E (Rl W.K) ρ H Q (.ok (.bl i) st)):Q (.bl i) H:=h ρ H _ (aN.refl _ _) sr (Rl.Af i)
theorem bt.KI {K:PySem.W.Frag} {ρ:List Addr} {H:Hp} {us:List ah} {xs:List V} (r:bt K ρ H us xs):∀ k:Nat,bt K ρ H (p7 k us) (List.replicate k xs).flatten
 | 0 => bt.nil
 | k + 1 => by
  unfold p7
  rw [List.replicate_succ,List.replicate_succ,List.flatten_cons,List.flatten_cons]
  exact r.append (bt.KI r k)
theorem Am:d5 X (binaryOp .Add) (fun x y H Q => ∃ a b ys,x = .ref a ∧ y = .ref b ∧ jD X.K H a [] ∧ jD X.K H b ys ∧ Q (.ref b) H):=by
 intro af s σ H x y v u Q I rx ry h
 obtain ⟨a,b,ys,rfl,rfl,ha,hb,q⟩:=h
 cases rx
 cases ry
 obtain ⟨aO,r1,p1,_⟩:=I.tuple ha
 obtain ⟨d6,r2,p2,_⟩:=I.tuple hb
 cases r1
 obtain ⟨⟨cls,dd,data,sl⟩,ho,hc,n,hd⟩:=id p1
 obtain ⟨⟨NC,Mb,data2,JW⟩,F',JX,n2,hd2⟩:=id p2
 simp only at hc hd JX hd2
 subst hc hd JX hd2
 exact concat_meets ⟨_,ho,rfl⟩ ⟨_,F',rfl⟩ noFill_tuple_add seq_tuple_add PySem.F.slot_tuple_add PySem.F.entry_tuple_add (PySem.F.args_tuple_add_2 _ _)
  (tuple_addW0 a b #[] d6.toArray n n2 dd Mb sl JW (by simp)) ⟨ho,F',⟨.ref b,H,I,rfl,q⟩⟩
theorem C_:d5 X (binaryOp .Add) (rM (wo X) E cS):=by
 refine d5.imp (d5.or FR (d5.or u3 (d5.or Gi (d5.or Cy Am)))) ?_
 rintro x y H Q ⟨ρ,st,u,w,sr,r1,r2,h⟩
 cases u <;> cases w <;> try exact h.elim
 case int.int i j => exact .inl ⟨i,j,r1.b8,r2.b8,dm sr h⟩
 case str.str a b =>
  unfold cS at h
  dsimp only at h
  split at h
  ·rename_i hz
   exact .inr (.inl ⟨a,b,r1.iO,r2.iO,hz,h ρ H _ (aN.refl _ _) sr (Rl.mkStr _)⟩)
  ·exact h.elim
 case tup.tup us ws =>
  unfold cS at h
  dsimp only at h
  split at h
  ·rename_i hz
   obtain ⟨a,xs,rfl,ha,ra⟩:=r1.gn
   obtain ⟨b,ys,rfl,hb,rb⟩:=r2.gn
   by_cases hx:xs = []
   ·subst hx
    have hu:us = []:=List.eq_nil_of_length_eq_zero ra.length
    subst hu
    exact .inr (.inr (.inr (.inr ⟨a,b,ys,rfl,rfl,ha,hb,h ρ H _ (aN.refl _ _) sr r2⟩)))
   ·refine .inr (.inr (.inr (.inl ⟨a,b,xs,ys,rfl,rfl,ha,hb,hx,by rw [← ra.length,← rb.length]; exact hz,fun hy => ?_,fun hy p hp => ?_⟩)))
    ·subst hy
     have hw:ws = []:=List.eq_nil_of_length_eq_zero rb.length
     subst hw
     rw [List.append_nil] at h
     exact h ρ H _ (aN.refl _ _) sr r1
    ·have s:=c! (o:=.tup (xs ++ ys)) hp
     exact h ρ _ _ (aN.same s) (sr.grow s) (Rl.p5 cm (bt.mono (aN.same s) _ _ (ra.append rb)))
  ·exact h.elim
 case loc.loc n m =>
  unfold cS at h
  dsimp only at h
  split at h
  ·rename_i us ws e1 e2
   split at h
   ·rename_i hz
    obtain ⟨a,rfl,ha⟩:=r1.dF
    obtain ⟨b,rfl,hb⟩:=r2.dF
    obtain ⟨xs,h1,q1⟩:=sr.cell n _ a e1 ha
    obtain ⟨ys,h2,q2⟩:=sr.cell m _ b e2 hb
    refine .inr (.inr (.inl ⟨a,b,xs,ys,rfl,rfl,h1,h2,by rw [← q1.length,← q2.length]; exact hz,fun p hp => ?_⟩))
    obtain ⟨k1,k2,k3⟩:=fE sr (q1.append q2) hp
    exact h _ _ _ k1 k2 k3
   ·exact h.elim
  ·exact h.elim
theorem C!:d5 X (binaryOp .Sub) (rM (wo X) E gD):=by
 refine d5.imp FT ?_
 rintro x y H Q ⟨ρ,st,u,w,sr,r1,r2,h⟩
 obtain ⟨i,j,rfl,rfl,q⟩:=gr h
 exact ⟨i,j,r1.b8,r2.b8,dm sr q⟩
theorem C?:d5 X (binaryOp .Mult) (rM (wo X) E b9):=by
 refine d5.imp (d5.or CK (d5.or FU Gj)) ?_
 rintro x y H Q ⟨ρ,st,u,w,sr,r1,r2,h⟩
 cases u <;> cases w <;> try exact h.elim
 case int.int i j =>
  unfold b9 at h
  dsimp only at h
  split at h
  ·rename_i hz
   rcases hz with hz | hz
   ·exact .inl ⟨i,j,r1.b8,r2.b8,hz.1.mul hz.2,dm sr h⟩
   ·exact .inr (.inl ⟨i,j,r1.b8,r2.b8,hz,dm sr h⟩)
  ·exact h.elim
 case loc.int n k =>
  unfold b9 at h
  dsimp only at h
  split at h
  ·rename_i us e1
   split at h
   ·rename_i hz
    obtain ⟨a,rfl,ha⟩:=r1.dF
    obtain ⟨xs,h1,q1⟩:=sr.cell n _ a e1 ha
    refine .inr (.inr ⟨a,k,xs,rfl,r2.b8,h1,hz.1,hz.2.1,by rw [← q1.length]; exact hz.2.2,fun p hp => ?_⟩)
    obtain ⟨k1,k2,k3⟩:=fE sr (q1.KI k.toNat) hp
    exact h _ _ _ k1 k2 k3
   ·exact h.elim
  ·exact h.elim
theorem An:d5 X (binaryOp .FloorDiv) (rM (wo X) E gu):=by
 refine d5.imp zU ?_
 rintro x y H Q ⟨ρ,st,u,w,sr,r1,r2,h⟩
 obtain ⟨i,j,rfl,rfl,h0⟩:=gr h
 clear h
 have h:=h0
 clear h0
 ·split at h
  ·rename_i hz
   exact ⟨i,j,r1.b8,r2.b8,hz.ok,dm sr h⟩
  ·exact h.elim
theorem Dc:d5 X (binaryOp .Mod) (rM (wo X) E cq):=by
 refine d5.imp Ck ?_
 rintro x y H Q ⟨ρ,st,u,w,sr,r1,r2,h⟩
 obtain ⟨i,j,rfl,rfl,h0⟩:=gr h
 clear h
 have h:=h0
 clear h0
 ·split at h
  ·exact h.elim
  ·rename_i hz
   exact ⟨i,j,r1.b8,r2.b8,hz,dm sr h⟩
theorem Dd:d5 X (binaryOp .Pow) (rM (wo X) E yc):=by
 refine d5.imp FV ?_
 rintro x y H Q ⟨ρ,st,u,w,sr,r1,r2,h⟩
 obtain ⟨i,j,rfl,rfl,h0⟩:=gr h
 clear h
 have h:=h0
 clear h0
 ·split at h
  ·rename_i hz
   exact ⟨i,j,r1.b8,r2.b8,hz,dm sr h⟩
  ·exact h.elim
theorem G7:d5 X (compareOp .Lt) (rM (wo X) E ltV):=by
 refine d5.imp JP ?_
 rintro x y H Q ⟨ρ,st,u,w,sr,r1,r2,h⟩
 obtain ⟨i,j,rfl,rfl,q⟩:=gr h
 exact ⟨i,j,r1.b8,r2.b8,iz sr q⟩
theorem G8:d5 X (compareOp .Gt) (rM (wo X) E qV):=by
 refine d5.imp JQ ?_
 rintro x y H Q ⟨ρ,st,u,w,sr,r1,r2,h⟩
 obtain ⟨i,j,rfl,rfl,q⟩:=gr h
 exact ⟨i,j,r1.b8,r2.b8,iz sr q⟩
noncomputable def h! (m:ME):ME:=fun μ st => (m μ st).bind fun v aC => match v with
 | .int i => .ok (.int (-i)) aC
 | _ => .bad
theorem G9 {a:Expr} {m:ME} {pos:Pos} (h:PE X a (tE X E m)):PE X (.UnaryOp .USub a pos) (tE X E (h! m)):=by
 refine PE.imp (JM FW h) ?_
 rintro σ H Q ⟨μ,ρ,st,rs,sr,h⟩
 refine go μ ρ st rs sr h fun u st1 ρ1 H1 x e1 bT r1 h1 => ?_
 cases u with
 | int i => exact ⟨i,r1.b8,dm bT h1⟩
 | _ => exact h1.elim
end
noncomputable def flat:ah → Bool
 | .dA => true
 | .bl _ => true
 | .int _ => true
 | .str _ => true
 | _ => false
noncomputable def wI:ah → ah → Bool
 | .dA,.dA => true
 | .bl a,.bl b => a == b
 | .bl a,.int b => (if a then 1 else 0) == b
 | .int a,.bl b => a == (if b then 1 else 0)
 | .int a,.int b => a == b
 | .str a,.str b => a == b
 | _,_ => false
noncomputable def ak (st:ag) (n:Nat):Option (List ah):=match st[n]? with
 | some (.lst us) => some us
 | some (.GI us) => some us
 | some (.mod us) => some us
 | _ => none
inductive Vw where
 | lst (us:List ah) | tup (us:List ah) | mW
noncomputable def vw (st:ag):ah → Option Vw
 | .tup us => some (.tup us)
 | .loc n => (ak st n).map .lst
 | .dA => some .mW
 | .bl _ => some .mW
 | .int _ => some .mW
 | .str _ => some .mW
 | _ => none
noncomputable def jo (f:ah → ah → Option Bool):List ah → List ah → Option Bool
 | [],[] => some true
 | x :: xs,y :: ys => match f x y,jo f xs ys with
  | some a,some b => some (a && b)
  | _,_ => none
 | [],_ :: _ => some false
 | _ :: _,[] => some false
noncomputable def mZ:Nat → ag → ah → ah → Option Bool
 | 0,_,_,_ => none
 | n + 1,st,u,w => match vw st u,vw st w with
  | some (.tup us),some (.tup ws) => jo (mZ n st) us ws
  | some (.lst us),some (.lst ws) => jo (mZ n st) us ws
  | some .mW,some .mW => some (wI u w)
  | some _,some _ => some false
  | _,_ => none
theorem nW {f:ah → ah → Option Bool}:∀ {us ws:List ah} {b:Bool},jo f us ws = some b → us.length ≠ ws.length → b = false
 | [],[],_,_,h => absurd rfl h
 | [],_ :: _,b,e,_ => by injection e with e; exact e.symm
 | _ :: _,[],b,e,_ => by injection e with e; exact e.symm
 | x :: xs,y :: ys,b,e,h => by
  unfold jo at e
  split at e
  ·rename_i a c h1 h2
   injection e with e
   rw [← e,nW h2 (fun z => h (by simp [z])),Bool.and_false]
  ·cases e
theorem wJ {f:ah → ah → Option Bool}:∀ {us ws:List ah} {b:Bool},jo f us ws = some b → ∀ (j:Nat) (u w:ah),us[j]? = some u → ws[j]? = some w → ∃ c,f u w = some c
 | [],_,_,_,j,u,w,h1,_ => by cases h1
 | _ :: _,[],_,_,j,u,w,_,h2 => by cases h2
 | x :: xs,y :: ys,b,e,j,u,w,h1,h2 => by
  unfold jo at e
  split at e
  ·rename_i a c q1 q2
   cases j with
   | zero => cases h1; cases h2; exact ⟨a,q1⟩
   | succ j => exact wJ q2 j u w h1 h2
  ·cases e
noncomputable def Mx (f:ah → ah → Option Bool) (us ws:List ah) (j:Nat):Bool:=match us[j]?,ws[j]? with
 | some u,some w => (f u w).getD true
 | _,_ => true
theorem nX {f:ah → ah → Option Bool}:∀ {us ws:List ah} {b:Bool},jo f us ws = some b → us.length = ws.length → (List.range us.length).all (Mx f us ws) = b
 | [],[],b,e,_ => by injection e
 | [],_ :: _,_,_,h => by simp at h
 | _ :: _,[],_,_,h => by simp at h
 | x :: xs,y :: ys,b,e,h => by
  have h':xs.length = ys.length:=by simpa using h
  unfold jo at e
  split at e
  ·rename_i a c q1 q2
   injection e with e
   rw [List.length_cons,List.range_succ_eq_map,List.all_cons,List.all_map,← e,← nX q2 h']
   congr 1
   show (f x y).getD true = a
   rw [q1]; rfl
  ·cases e
section
variable {X:Cx} {af:List (Addr × Obj)} {σ:St} {H:Hp} {s:Shared} {ρ:List Addr} {st:ag}
theorem bg (sr:SR X.K ρ st H) {n:Nat} {us:List ah} {a:Addr} (h:ak st n = some us) (ha:ρ[n]? = some a):∃ vs,iG X.K H a vs ∧ bt X.K ρ H us vs:=by
 unfold ak at h
 split at h
 ·rename_i ws e
  cases h
  obtain ⟨vs,h1,h2⟩:=sr.cell n _ a e ha
  exact ⟨vs,iG.of h1,h2⟩
 ·rename_i ws e
  cases h
  obtain ⟨o,vs,h1,h2⟩:=sr.cell n _ a e ha
  exact ⟨vs,.inl (.inr ⟨o,h1⟩),h2⟩
 ·rename_i ws e
  cases h
  obtain ⟨vs,h1,h2⟩:=sr.cell n _ a e ha
  exact ⟨vs,.inr h1,h2⟩
 ·cases h
theorem wK (I:aS X af σ H s) (sr:SR X.K ρ st H):∀ (n:Nat) (u w:ah) (x:V) (b:Bool),Rl X.K ρ H u x → Rl X.K ρ H w x → mZ n st u w = some b → b = true
 | 0,_,_,_,_,_,_,e => by cases e
 | n + 1,u,w,x,b,r1,r2,e => by
  have lst:∀ (us ws:List ah) (vs:List V) (b:Bool),bt X.K ρ H us vs → bt X.K ρ H ws vs → jo (mZ n st) us ws = some b → b = true:=by
   intro us
   induction us with
   | nil =>
    intro ws vs b h1 h2 e
    have:=h1.eI
    subst this
    have hw:ws = []:=List.eq_nil_of_length_eq_zero h2.length
    subst hw
    injection e with e; exact e.symm
   | cons u us ih =>
    intro ws vs b h1 h2 e
    obtain ⟨v,r,rfl,q1,q2⟩:=h1.cC
    cases ws with
    | nil => have:=h2.eI; cases this
    | cons w ws =>
     obtain ⟨v',r',e',q3,q4⟩:=h2.cC
     cases e'
     unfold jo at e
     split at e
     ·rename_i a c z1 z2
      injection e with e
      rw [← e,wK I sr n u w v a q1 q3 z1,ih ws r c q2 q4 z2]; rfl
     ·cases e
  unfold mZ at e
  cases u <;> cases w <;> dsimp only [vw] at e <;> try (cases e; done)
  all_goals first
   | (have z1:=Rl.b8 r1; subst z1; have z2:=Rl.b8 r2; cases z2; injection e with e; rw [← e]; exact beq_self_eq_true _)
   | (have z1:=Rl.sI r1; subst z1; have z2:=Rl.sI r2; cases z2; injection e with e; rw [← e]; exact beq_self_eq_true _)
   | (have z1:=Rl.iO r1; subst z1; have z2:=Rl.iO r2; cases z2; injection e with e; rw [← e]; exact beq_self_eq_true _)
   | (have z1:=Rl.nN r1; subst z1; injection e with e; exact e.symm)
   | skip
  case tup.tup us ws =>
   obtain ⟨a,vs,rfl,ha,ra⟩:=r1.gn
   obtain ⟨a',G_,ea,hb,rb⟩:=r2.gn
   cases ea
   have:=I.kx ha hb
   subst this
   exact lst us ws vs b ra rb e
  case loc.loc i j =>
   obtain ⟨a,rfl,ha⟩:=r1.dF
   obtain ⟨a',ea,hb⟩:=r2.dF
   cases ea
   cases z:ak st i with
   | none => rw [z] at e; cases e
   | some us =>
    cases z2:ak st j with
    | none => rw [z,z2] at e; cases e
    | some ws =>
     rw [z,z2] at e
     obtain ⟨vs,s1,rv⟩:=bg sr z ha
     obtain ⟨G_,s2,Sf⟩:=bg sr z2 hb
     have:=I.iK s1 s2
     subst this
     exact lst us ws vs b rv Sf e
  all_goals (exfalso; first
   | (have z1:=Rl.b8 r1; subst z1; first | (have z2:=Rl.sI r2; cases z2; done) | (have z2:=Rl.iO r2; cases z2; done) | (have z2:=Rl.nN r2; cases z2; done) | (obtain ⟨_,_,z2,_⟩:=r2.gn; cases z2; done) | (obtain ⟨_,z2,_⟩:=r2.dF; cases z2; done))
   | (have z1:=Rl.sI r1; subst z1; first | (have z2:=Rl.b8 r2; cases z2; done) | (have z2:=Rl.iO r2; cases z2; done) | (have z2:=Rl.nN r2; cases z2; done) | (obtain ⟨_,_,z2,_⟩:=r2.gn; cases z2; done) | (obtain ⟨_,z2,_⟩:=r2.dF; cases z2; done))
   | (have z1:=Rl.iO r1; subst z1; first | (have z2:=Rl.b8 r2; cases z2; done) | (have z2:=Rl.sI r2; cases z2; done) | (have z2:=Rl.nN r2; cases z2; done) | (obtain ⟨_,_,z2,_⟩:=r2.gn; cases z2; done) | (obtain ⟨_,z2,_⟩:=r2.dF; cases z2; done))
   | (have z1:=Rl.nN r1; subst z1; first | (have z2:=Rl.b8 r2; cases z2; done) | (have z2:=Rl.sI r2; cases z2; done) | (have z2:=Rl.iO r2; cases z2; done) | (obtain ⟨_,_,z2,_⟩:=r2.gn; cases z2; done) | (obtain ⟨_,z2,_⟩:=r2.dF; cases z2; done))
   | (obtain ⟨_,_,z1,_⟩:=r1.gn; subst z1; first | (have z2:=Rl.b8 r2; cases z2; done) | (have z2:=Rl.sI r2; cases z2; done) | (have z2:=Rl.iO r2; cases z2; done) | (have z2:=Rl.nN r2; cases z2; done))
   | (obtain ⟨_,z1,_⟩:=r1.dF; subst z1; first | (have z2:=Rl.b8 r2; cases z2; done) | (have z2:=Rl.sI r2; cases z2; done) | (have z2:=Rl.iO r2; cases z2; done) | (have z2:=Rl.nN r2; cases z2; done))
   | skip)
  case tup.loc us j =>
   obtain ⟨a,vs,rfl,ha,ra⟩:=r1.gn
   obtain ⟨a',ea,hb⟩:=r2.dF
   cases ea
   cases z:ak st j with
   | none => rw [z] at e; cases e
   | some My =>
    obtain ⟨ws,hw,_⟩:=bg sr z hb
    obtain ⟨_,_,p1,_⟩:=I.tuple ha
    obtain ⟨_,_,p2,_⟩:=I.list hw
    exact SeqAt.ne_of_list_tuple p2.isList p1 rfl
  case loc.tup i us =>
   obtain ⟨a,rfl,ha⟩:=r1.dF
   obtain ⟨a',vs,ea,hb,rb⟩:=r2.gn
   cases ea
   cases z:ak st i with
   | none => rw [z] at e; cases e
   | some My =>
    obtain ⟨ws,hw,_⟩:=bg sr z ha
    obtain ⟨_,_,p1,_⟩:=I.tuple hb
    obtain ⟨_,_,p2,_⟩:=I.list hw
    exact SeqAt.ne_of_list_tuple p2.isList p1 rfl
  all_goals (cases z:ak st _ <;> rw [z] at e <;> cases e)
noncomputable def Ao (X:Cx) (ρ:List Addr) (H:Hp) (s:Shared):Vw → ah → Value → Prop
 | .tup us,_,v => ∃ a aO vs,v = .ref a ∧ s.heap.IsTuple a (List.toArray aO) ∧ bo vs aO ∧ bt X.K ρ H us vs
 | .lst us,_,v => ∃ a aO vs,v = .ref a ∧ s.heap.IsList a (List.toArray aO) ∧ bo vs aO ∧ bt X.K ρ H us vs
 | .mW,u,v => (u = .dA ∧ v = .none) ∨ (∃ b,u = .bl b ∧ v = .bool b) ∨ (∃ i t,u = .int i ∧ v = .int i t) ∨ (∃ z t,u = .str z ∧ v = .str z t)
theorem seen (I:aS X af σ H s) (sr:SR X.K ρ st H) {u:ah} {x:V} {v:Value} {k:Vw} (r:Rl X.K ρ H u x) (q:bC x v) (h:vw st u = some k):Ao X ρ H s k u v:=by
 cases u with
 | dA => cases h; have:=r.nN; subst this; exact .inl ⟨rfl,q⟩
 | bl b => cases h; have:=r.sI; subst this; exact .inr (.inl ⟨b,rfl,q⟩)
 | int i => cases h; have:=r.b8; subst this; obtain ⟨t,q⟩:=q; exact .inr (.inr (.inl ⟨i,t,rfl,q⟩))
 | str z => cases h; have:=r.iO; subst this; obtain ⟨t,q⟩:=q; exact .inr (.inr (.inr ⟨z,t,rfl,q⟩))
 | tup us =>
  cases h
  obtain ⟨a,vs,rfl,ha,ra⟩:=r.gn
  obtain ⟨aO,r1,p1,_⟩:=I.tuple ha
  exact ⟨a,aO,vs,q,p1,r1,ra⟩
 | loc n =>
  obtain ⟨a,rfl,ha⟩:=r.dF
  cases z:ak st n with
  | none => simp only [vw,z] at h; cases h
  | some us =>
   simp only [vw,z] at h
   cases h
   obtain ⟨vs,hs,rv⟩:=bg sr z ha
   obtain ⟨aO,r1,p1,_⟩:=I.list hs
   exact ⟨a,aO,vs,q,p1.isList,r1,rv⟩
 | exc c => cases h
 | fn k c => cases h
 | mt us => cases h
theorem Ap {A:Around} {f:ah → ah → Option Bool} {us ws:List ah} {xs ys:List V} {aO d6:List Value} {b:Bool} (e:jo f us ws = some b) (ra:bt X.K ρ H us xs) (rb:bt X.K ρ H ws ys) (va:bo xs aO) (vb:bo ys d6)
  (ih:∀ u w x y vu vw c,Rl X.K ρ H u x → bC x vu → Rl X.K ρ H w y → bC y vw → f u w = some c → SeqAt.EqAt A s vu vw c) :
  ∀ j (h1:j < aO.toArray.size) (h2:j < d6.toArray.size),SeqAt.EqAt A s aO.toArray[j] d6.toArray[j] (Mx f us ws j):=by
 intro j h1 h2
 have l1:=va.length
 have l2:=vb.length
 have l3:=ra.length
 have l4:=rb.length
 simp only [List.size_toArray] at h1 h2
 have e1:us[j]? = some us[j]:=List.getElem?_eq_getElem (by lia)
 have e2:ws[j]? = some ws[j]:=List.getElem?_eq_getElem (by lia)
 obtain ⟨x,hx,rx⟩:=ra.get e1
 obtain ⟨y,hy,ry⟩:=rb.get e2
 obtain ⟨u,hu,ru⟩:=va.get hx
 obtain ⟨v,hv,rv⟩:=vb.get hy
 have q1:aO.toArray[j] = u:=by
  obtain ⟨_,e⟩:=List.getElem?_eq_some_iff.mp hu
  simpa using e
 have q2:d6.toArray[j] = v:=by
  obtain ⟨_,e⟩:=List.getElem?_eq_some_iff.mp hv
  simpa using e
 obtain ⟨c,hc⟩:=wJ e j _ _ e1 e2
 rw [q1,q2]
 unfold Mx
 rw [e1,e2]
 dsimp only
 rw [hc]
 exact ih _ _ _ _ _ _ c rx ru ry rv hc
theorem in1_units (A:Around):A.in1.units = A.units + 1:=by rfl
theorem G! {A:Around} (I:aS X af σ H s) (sr:SR X.K ρ st H) (n:Nat) (ih:∀ u w x y vu vw c,Rl X.K ρ H u x → bC x vu → Rl X.K ρ H w y → bC y vw → mZ n st u w = some c → SeqAt.EqAt A.in1 s vu vw c) (hu:A.units < cLine)
  {u w:ah} {x y:V} {v1 v2:Value} {b:Bool} (r1:Rl X.K ρ H u x) (q1:bC x v1) (r2:Rl X.K ρ H w y) (q2:bC y v2) (e:mZ (n + 1) st u w = some b):SeqAt.RcAt A s v1 v2 b ∧ SeqAt.RcNeAt A s v1 v2 (!b):=by
 unfold mZ at e
 cases z1:vw st u with
 | none => rw [z1] at e; cases e
 | some k1 =>
  cases z2:vw st w with
  | none => rw [z1,z2] at e; cases k1 <;> cases e
  | some k2 =>
   rw [z1,z2] at e
   have s1:=seen I sr r1 q1 z1
   have s2:=seen I sr r2 q2 z2
   cases k1 with
   | tup us =>
    obtain ⟨a,aO,xs,rfl,p1,va,ra⟩:=s1
    cases k2 with
    | tup ws =>
     obtain ⟨a2,d6,ys,rfl,p2,vb,rb⟩:=s2
     have el:=Ap e ra rb va vb ih
     have l1:=va.length
     have l2:=vb.length
     have l3:=ra.length
     have l4:=rb.length
     have hb:((List.range (min aO.toArray.size d6.toArray.size)).all (Mx (mZ n st) us ws) && aO.toArray.size == d6.toArray.size) = b:=by
      by_cases hl:us.length = ws.length
      ·rw [show min aO.toArray.size d6.toArray.size = us.length by simp only [List.size_toArray]; lia,nX e hl,show (aO.toArray.size == d6.toArray.size) = true by simp only [List.size_toArray,beq_iff_eq]; lia,Bool.and_true]
      ·rw [show (aO.toArray.size == d6.toArray.size) = false by simp only [List.size_toArray,beq_eq_false_iff_ne]; lia,Bool.and_false]
       exact (nW e hl).symm
     have g1:=SeqAt.RcAt.tuples p1 p2 hu el
     have g2:=SeqAt.RcNeAt.tuples p1 p2 hu el
     rw [hb] at g1 g2
     exact ⟨g1,g2⟩
    | lst ws =>
     obtain ⟨a2,d6,ys,rfl,p2,vb,rb⟩:=s2
     cases e
     exact ⟨SeqAt.RcAt.tuple_list p1 p2 hu,SeqAt.RcNeAt.tuple_list p1 p2 hu⟩
    | mW =>
     cases e
     rcases s2 with ⟨_,rfl⟩ | ⟨k,_,rfl⟩ | ⟨k,t,_,rfl⟩ | ⟨k,t,_,rfl⟩
     ·exact ⟨SeqAt.RcAt.tuple_none p1 hu,SeqAt.RcNeAt.tuple_none p1 hu⟩
     ·exact ⟨SeqAt.RcAt.tuple_bool _ p1 hu,SeqAt.RcNeAt.tuple_bool _ p1 hu⟩
     ·exact ⟨SeqAt.RcAt.tuple_int _ _ p1 hu,SeqAt.RcNeAt.tuple_int _ _ p1 hu⟩
     ·exact ⟨SeqAt.RcAt.tuple_str _ _ p1 hu,SeqAt.RcNeAt.tuple_str _ _ p1 hu⟩
   | lst us =>
    obtain ⟨a,aO,xs,rfl,p1,va,ra⟩:=s1
    cases k2 with
    | tup ws =>
     obtain ⟨a2,d6,ys,rfl,p2,vb,rb⟩:=s2
     cases e
     exact ⟨SeqAt.RcAt.list_tuple p1 p2 hu,SeqAt.RcNeAt.list_tuple p1 p2 hu⟩
    | lst ws =>
     obtain ⟨a2,d6,ys,rfl,p2,vb,rb⟩:=s2
     have l1:=va.length
     have l2:=vb.length
     have l3:=ra.length
     have l4:=rb.length
     by_cases hl:us.length = ws.length
     ·have hs:aO.toArray.size = d6.toArray.size:=by simp only [List.size_toArray]; lia
      have el:=Ap e ra rb va vb ih
      have g1:=SeqAt.RcAt.lists p1 p2 hs hu el
      have g2:=SeqAt.RcNeAt.lists p1 p2 hs hu el
      rw [show aO.toArray.size = us.length by simp only [List.size_toArray]; lia,nX e hl] at g1 g2
      exact ⟨g1,g2⟩
     ·have hs:(aO.toArray.size != d6.toArray.size) = true:=by simp only [List.size_toArray,bne_iff_ne]; lia
      rw [nW e hl]
      exact ⟨SeqAt.RcAt.lists_lengths p1 p2 hs hu,SeqAt.RcNeAt.lists_lengths p1 p2 hs hu⟩
    | mW =>
     cases e
     rcases s2 with ⟨_,rfl⟩ | ⟨k,_,rfl⟩ | ⟨k,t,_,rfl⟩ | ⟨k,t,_,rfl⟩
     ·exact ⟨SeqAt.RcAt.list_none p1 hu,SeqAt.RcNeAt.list_none p1 hu⟩
     ·exact ⟨SeqAt.RcAt.list_bool _ p1 hu,SeqAt.RcNeAt.list_bool _ p1 hu⟩
     ·exact ⟨SeqAt.RcAt.list_int _ _ p1 hu,SeqAt.RcNeAt.list_int _ _ p1 hu⟩
     ·exact ⟨SeqAt.RcAt.list_str _ _ p1 hu,SeqAt.RcNeAt.list_str _ _ p1 hu⟩
   | mW =>
    cases k2 with
    | tup ws =>
     obtain ⟨a2,d6,ys,rfl,p2,vb,rb⟩:=s2
     cases e
     rcases s1 with ⟨_,rfl⟩ | ⟨k,_,rfl⟩ | ⟨k,t,_,rfl⟩ | ⟨k,t,_,rfl⟩
     ·exact ⟨SeqAt.RcAt.none_tuple p2 hu,SeqAt.RcNeAt.none_tuple p2 hu⟩
     ·exact ⟨SeqAt.RcAt.bool_tuple _ p2 hu,SeqAt.RcNeAt.bool_tuple _ p2 hu⟩
     ·exact ⟨SeqAt.RcAt.int_tuple _ _ p2 hu,SeqAt.RcNeAt.int_tuple _ _ p2 hu⟩
     ·exact ⟨SeqAt.RcAt.str_tuple _ _ p2 hu,SeqAt.RcNeAt.str_tuple _ _ p2 hu⟩
    | lst ws =>
     obtain ⟨a2,d6,ys,rfl,p2,vb,rb⟩:=s2
     cases e
     rcases s1 with ⟨_,rfl⟩ | ⟨k,_,rfl⟩ | ⟨k,t,_,rfl⟩ | ⟨k,t,_,rfl⟩
     ·exact ⟨SeqAt.RcAt.none_list p2 hu,SeqAt.RcNeAt.none_list p2 hu⟩
     ·exact ⟨SeqAt.RcAt.bool_list _ p2 hu,SeqAt.RcNeAt.bool_list _ p2 hu⟩
     ·exact ⟨SeqAt.RcAt.int_list _ _ p2 hu,SeqAt.RcNeAt.int_list _ _ p2 hu⟩
     ·exact ⟨SeqAt.RcAt.str_list _ _ p2 hu,SeqAt.RcNeAt.str_list _ _ p2 hu⟩
    | mW =>
     injection e with e
     subst e
     rcases s1 with ⟨rfl,rfl⟩ | ⟨i,rfl,rfl⟩ | ⟨i,t,rfl,rfl⟩ | ⟨i,t,rfl,rfl⟩ <;> rcases s2 with ⟨rfl,rfl⟩ | ⟨j,rfl,rfl⟩ | ⟨j,t',rfl,rfl⟩ | ⟨j,t',rfl,rfl⟩
     ·exact ⟨SeqAt.RcAt.none_none,SeqAt.RcNeAt.none_none⟩
     ·exact ⟨SeqAt.RcAt.none_bool _,SeqAt.RcNeAt.none_bool _⟩
     ·exact ⟨SeqAt.RcAt.none_int _ _,SeqAt.RcNeAt.none_int _ _⟩
     ·exact ⟨SeqAt.RcAt.none_str _ _,SeqAt.RcNeAt.none_str _ _⟩
     ·exact ⟨SeqAt.RcAt.bool_none _,SeqAt.RcNeAt.bool_none _⟩
     ·exact ⟨SeqAt.RcAt.bool_bool _ _,SeqAt.RcNeAt.bool_bool _ _⟩
     ·exact ⟨SeqAt.RcAt.bool_int _ _ _,SeqAt.RcNeAt.bool_int _ _ _⟩
     ·exact ⟨SeqAt.RcAt.bool_str _ _ _,SeqAt.RcNeAt.bool_str _ _ _⟩
     ·exact ⟨SeqAt.RcAt.int_none _ _,SeqAt.RcNeAt.int_none _ _⟩
     ·exact ⟨SeqAt.RcAt.int_bool _ _ _,SeqAt.RcNeAt.int_bool _ _ _⟩
     ·exact ⟨SeqAt.RcAt.int_int _ _ _ _,SeqAt.RcNeAt.int_int _ _ _ _⟩
     ·exact ⟨SeqAt.RcAt.int_str _ _ _ _,SeqAt.RcNeAt.int_str _ _ _ _⟩
     ·exact ⟨SeqAt.RcAt.str_none _ _,SeqAt.RcNeAt.str_none _ _⟩
     ·exact ⟨SeqAt.RcAt.str_bool _ _ _,SeqAt.RcNeAt.str_bool _ _ _⟩
     ·exact ⟨SeqAt.RcAt.str_int _ _ _ _,SeqAt.RcNeAt.str_int _ _ _ _⟩
     ·exact ⟨SeqAt.RcAt.str_str _ _ _ _,SeqAt.RcNeAt.str_str _ _ _ _⟩
theorem De {A:Around} {u w:ah} {v1 v2:Value} (s1:Ao X ρ H s .mW u v1) (s2:Ao X ρ H s .mW w v2):SeqAt.EqAt A s v1 v2 (wI u w):=by
 rcases s1 with ⟨rfl,rfl⟩ | ⟨i,rfl,rfl⟩ | ⟨i,t,rfl,rfl⟩ | ⟨i,t,rfl,rfl⟩ <;> rcases s2 with ⟨rfl,rfl⟩ | ⟨j,rfl,rfl⟩ | ⟨j,t',rfl,rfl⟩ | ⟨j,t',rfl,rfl⟩
 ·exact SeqAt.EqAt.same _
 ·exact SeqAt.EqAt.none_bool _
 ·exact SeqAt.EqAt.none_int _ _
 ·exact SeqAt.EqAt.none_str _ _
 ·exact SeqAt.EqAt.bool_none _
 ·exact SeqAt.EqAt.bool_bool _ _
 ·exact SeqAt.EqAt.bool_int _ _ _
 ·exact SeqAt.EqAt.bool_str _ _ _
 ·exact SeqAt.EqAt.int_none _ _
 ·exact SeqAt.EqAt.int_bool _ _ _
 ·exact SeqAt.EqAt.int_int _ _ _ _
 ·exact SeqAt.EqAt.int_str _ _ _ _
 ·exact SeqAt.EqAt.str_none _ _
 ·exact SeqAt.EqAt.str_bool _ _ _
 ·exact SeqAt.EqAt.str_int _ _ _ _
 ·exact SeqAt.EqAt.str_str _ _ _ _
theorem vj (I:aS X af σ H s) (sr:SR X.K ρ st H):∀ (n:Nat) (A:Around),A.units + n < cLine → ∀ (u w:ah) (x y:V) (v1 v2:Value) (b:Bool),Rl X.K ρ H u x → bC x v1 → Rl X.K ρ H w y → bC y v2 → mZ n st u w = some b → SeqAt.EqAt A s v1 v2 b
 | 0,_,_,_,_,_,_,_,_,_,_,_,_,_,e => by cases e
 | n + 1,A,hu,u,w,x,y,v1,v2,b,r1,q1,r2,q2,e => by
  have rc:=(G! I sr n (fun u w x y vu vw c a1 a2 a3 a4 a5 => vj I sr n A.in1 (by rw [in1_units]; lia) u w x y vu vw c a1 a2 a3 a4 a5) (by lia) r1 q1 r2 q2 e).1
  have refs:∀ a a2,v1 = .ref a → v2 = .ref a2 → SeqAt.EqAt A s v1 v2 b:=by
   intro a a2 e1 e2
   subst e1 e2
   by_cases hn:a = a2
   ·subst hn
    have hx:x = y:=q1.inj q2
    subst hx
    rw [wK I sr (n + 1) u w x b r1 r2 e]
    exact SeqAt.EqAt.same _
   ·exact SeqAt.EqAt.of_refs hn rc
  cases z1:vw st u with
  | none => unfold mZ at e; rw [z1] at e; cases e
  | some k1 =>
   cases z2:vw st w with
   | none => unfold mZ at e; rw [z1,z2] at e; cases k1 <;> cases e
   | some k2 =>
    have s1:=seen I sr r1 q1 z1
    have s2:=seen I sr r2 q2 z2
    unfold mZ at e
    rw [z1,z2] at e
    cases k1 with
    | tup us =>
     obtain ⟨a,aO,xs,rfl,p1,va,ra⟩:=s1
     cases k2 with
     | tup ws => obtain ⟨a2,d6,ys,rfl,p2,vb,rb⟩:=s2; exact refs a a2 rfl rfl
     | lst ws => obtain ⟨a2,d6,ys,rfl,p2,vb,rb⟩:=s2; exact refs a a2 rfl rfl
     | mW =>
      cases e
      rcases s2 with ⟨_,rfl⟩ | ⟨k,_,rfl⟩ | ⟨k,t,_,rfl⟩ | ⟨k,t,_,rfl⟩
      ·exact SeqAt.EqAt.tuple_none p1 (by lia)
      ·exact SeqAt.EqAt.tuple_bool _ p1 (by lia)
      ·exact SeqAt.EqAt.tuple_int _ _ p1 (by lia)
      ·exact SeqAt.EqAt.tuple_str _ _ p1 (by lia)
    | lst us =>
     obtain ⟨a,aO,xs,rfl,p1,va,ra⟩:=s1
     cases k2 with
     | tup ws => obtain ⟨a2,d6,ys,rfl,p2,vb,rb⟩:=s2; exact refs a a2 rfl rfl
     | lst ws => obtain ⟨a2,d6,ys,rfl,p2,vb,rb⟩:=s2; exact refs a a2 rfl rfl
     | mW =>
      cases e
      rcases s2 with ⟨_,rfl⟩ | ⟨k,_,rfl⟩ | ⟨k,t,_,rfl⟩ | ⟨k,t,_,rfl⟩
      ·exact SeqAt.EqAt.list_none p1 (by lia)
      ·exact SeqAt.EqAt.list_bool _ p1 (by lia)
      ·exact SeqAt.EqAt.list_int _ _ p1 (by lia)
      ·exact SeqAt.EqAt.list_str _ _ p1 (by lia)
    | mW =>
     cases k2 with
     | tup ws =>
      obtain ⟨a2,d6,ys,rfl,p2,vb,rb⟩:=s2
      cases e
      rcases s1 with ⟨_,rfl⟩ | ⟨k,_,rfl⟩ | ⟨k,t,_,rfl⟩ | ⟨k,t,_,rfl⟩
      ·exact SeqAt.EqAt.none_tuple p2 (by lia)
      ·exact SeqAt.EqAt.bool_tuple _ p2 (by lia)
      ·exact SeqAt.EqAt.int_tuple _ _ p2 (by lia)
      ·exact SeqAt.EqAt.str_tuple _ _ p2 (by lia)
     | lst ws =>
      obtain ⟨a2,d6,ys,rfl,p2,vb,rb⟩:=s2
      cases e
      rcases s1 with ⟨_,rfl⟩ | ⟨k,_,rfl⟩ | ⟨k,t,_,rfl⟩ | ⟨k,t,_,rfl⟩
      ·exact SeqAt.EqAt.none_list p2 (by lia)
      ·exact SeqAt.EqAt.bool_list _ p2 (by lia)
      ·exact SeqAt.EqAt.int_list _ _ p2 (by lia)
      ·exact SeqAt.EqAt.str_list _ _ p2 (by lia)
     | mW =>
      injection e with e
      subst e
      exact De s1 s2
noncomputable def dP:F2:=fun u w st => match mZ 16 st u w with
 | some b => .ok (.bl b) st
 | none => .bad
noncomputable def m5:F2:=fun u w st => match mZ 16 st u w with
 | some b => .ok (.bl (!b)) st
 | none => .bad
theorem Aq {E:XK} (hu:X.A.units + 64 < cLine):d5 X (compareOp .Eq) (rM (wo X) E dP):=by
 intro af s σ H x y v u Q I rx ry h
 obtain ⟨ρ,st,u1,w1,sr,r1,r2,h⟩:=h
 unfold dP at h
 split at h
 ·rename_i b e
  exact (G! I sr 15 (vj I sr 15 X.A.in1 (by rw [in1_units]; lia)) (by lia) r1 rx r2 ry e).1 X.prog X.w X.xe (EP X af σ Q) ⟨.bl b,H,I,rfl,iz sr h⟩
 ·exact h.elim
theorem Ar {E:XK} (hu:X.A.units + 64 < cLine):d5 X (compareOp .NotEq) (rM (wo X) E m5):=by
 intro af s σ H x y v u Q I rx ry h
 obtain ⟨ρ,st,u1,w1,sr,r1,r2,h⟩:=h
 unfold m5 at h
 split at h
 ·rename_i b e
  exact (G! I sr 15 (vj I sr 15 X.A.in1 (by rw [in1_units]; lia)) (by lia) r1 rx r2 ry e).2 X.prog X.w X.xe (EP X af σ Q) ⟨.bl (!b),H,I,rfl,iz sr h⟩
 ·exact h.elim
noncomputable def ES (st:ag):ah → Option (List ah)
 | .tup us => some us
 | .mt us => some us
 | .loc n => ak st n
 | _ => none
noncomputable def G? (neg:Bool):F2:=fun u w st => match ES st w with
 | some us => if flat u = true ∧ us.all flat = true then .ok (.bl (if neg then !us.any (fun y => wI y u) else us.any (fun y => wI y u))) st else .bad
 | none => .bad
theorem fQ {K:PySem.W.Frag} {u w:ah} {x y:V} (f1:flat u = true) (f2:flat w = true) (r1:Rl K ρ H u x) (r2:Rl K ρ H w y):fk x = true ∧ fk y = true ∧ qH x y = wI u w:=by
 cases u <;> (try cases f1) <;> cases w <;> (try cases f2) <;>
  (first | (have z1:=Rl.b8 r1; subst z1) | (have z1:=Rl.sI r1; subst z1) | (have z1:=Rl.iO r1; subst z1) | (have z1:=Rl.nN r1; subst z1)) <;>
  (first | (have z2:=Rl.b8 r2; subst z2) | (have z2:=Rl.sI r2; subst z2) | (have z2:=Rl.iO r2; subst z2) | (have z2:=Rl.nN r2; subst z2)) <;> exact ⟨rfl,rfl,rfl⟩
theorem jT {K:PySem.W.Frag} {u:ah} {x:V} (f:flat u = true) (r:Rl K ρ H u x):∀ {us:List ah} {vs:List V},us.all flat = true → bt K ρ H us vs → vs.all fk = true ∧ Md x vs = us.any fun y => wI y u
 | [],vs,_,h => by rw [h.eI]; exact ⟨rfl,rfl⟩
 | w :: us,vs,hf,h => by
  obtain ⟨v,r',rfl,h2,h3⟩:=h.cC
  rw [List.all_cons,Bool.and_eq_true] at hf
  obtain ⟨a,b,c⟩:=fQ hf.1 f h2 r
  obtain ⟨d,e⟩:=jT f r hf.2 h3
  refine ⟨by rw [List.all_cons,a,d]; rfl,?_⟩
  show (qH v x || Md x r') = _
  rw [c,e]; rfl
theorem Df {E:XK} {neg:Bool} {x y:V} {H:Hp} {Q:VK} (h:rM (wo X) E (G? neg) x y H Q):Ql X.K neg x y H Q:=by
 obtain ⟨ρ,st,u,w,sr,r1,r2,h⟩:=h
 unfold G? at h
 split at h
 ·rename_i us e
  split at h
  ·rename_i hz
   cases w with
   | tup ws =>
    cases e
    obtain ⟨a,vs,rfl,ha,ra⟩:=r2.gn
    obtain ⟨q1,q2⟩:=jT hz.1 r1 hz.2 ra
    refine ⟨a,vs,rfl,.inr ha,(fQ hz.1 hz.1 r1 r1).1,q1,?_⟩
    rw [q2]
    exact iz sr h
   | mt ws =>
    cases e
    obtain ⟨a,vs,rfl,ha,ra⟩:=r2.QE
    obtain ⟨q1,q2⟩:=jT hz.1 r1 hz.2 ra
    refine ⟨a,vs,rfl,.inr ha,(fQ hz.1 hz.1 r1 r1).1,q1,?_⟩
    rw [q2]
    exact iz sr h
   | loc n =>
    obtain ⟨a,rfl,ha⟩:=r2.dF
    obtain ⟨vs,hs,ra⟩:=bg sr e ha
    obtain ⟨q1,q2⟩:=jT hz.1 r1 hz.2 ra
    refine ⟨a,vs,rfl,.inl hs,(fQ hz.1 hz.1 r1 r1).1,q1,?_⟩
    rw [q2]
    exact iz sr h
   | _ => cases e
  ·exact h.elim
 ·exact h.elim
theorem G' {E:XK}:d5 X (compareOp .In) (rM (wo X) E (G? false)):=d5.imp xO fun _ _ _ _ h => Df h
end
end MN
namespace MN
open PySem PySem.Spec L2
open PyProof.Rows hiding St
section
variable {X:Cx} {E:XK} {pos:Pos}
noncomputable def dQ:F2
 | .tup us,.int i,st => match g! us i with
  | some v => .ok v st
  | none => .bad
 | .loc n,.int i,st => match ak st n with
  | some us => match g! us i with
   | some v => .ok v st
   | none => .bad
  | none => .bad
 | .str z,.int i,st => if z.length ≤ sizeLine then (match g! z.cps.toList i with
   | some c => .ok (.str ⟨#[c]⟩) st
   | none => .bad) else .bad
 | _,_,_ => .bad
theorem bt.g! {K:PySem.W.Frag} {ρ:List Addr} {H:Hp} {us:List ah} {vs:List V} {i:Int} {u:ah} (r:bt K ρ H us vs) (h:g! us i = some u):∃ v,L2.g! vs i = some v ∧ Rl K ρ H u v:=by
 unfold L2.g! at h ⊢
 rw [← r.length]
 cases z:sV us.length i with
 | none => rw [z] at h; cases h
 | some j =>
  rw [z] at h
  obtain ⟨v,h1,h2⟩:=r.get (show us[j]? = some u from h)
  exact ⟨v,h1,h2⟩
theorem Oj:uP X (rM (wo X) E dQ):=by
 refine uP.imp (uP.or Cz (uP.or cz Gd)) ?_
 rintro x y H Q ⟨ρ,st,u,w,sr,r1,r2,h⟩
 cases u <;> cases w <;> try exact h.elim
 case tup.int us i =>
  unfold dQ at h
  dsimp only at h
  split at h
  ·rename_i v e
   obtain ⟨a,vs,rfl,ha,ra⟩:=r1.gn
   obtain ⟨z,h1,h2⟩:=ra.g! e
   exact .inr (.inl ⟨a,vs,i,z,rfl,r2.b8,ha,h1,h ρ H z (aN.refl _ _) sr h2⟩)
  ·exact h.elim
 case loc.int n i =>
  unfold dQ at h
  dsimp only at h
  split at h
  ·rename_i us e
   split at h
   ·rename_i v e'
    obtain ⟨a,rfl,ha⟩:=r1.dF
    obtain ⟨vs,hs,rv⟩:=bg sr e ha
    obtain ⟨z,h1,h2⟩:=rv.g! e'
    exact .inl ⟨a,vs,i,z,rfl,r2.b8,hs,h1,h ρ H z (aN.refl _ _) sr h2⟩
   ·exact h.elim
  ·exact h.elim
 case str.int z i =>
  unfold dQ at h
  dsimp only at h
  split at h
  ·rename_i hz
   split at h
   ·rename_i c e
    exact .inr (.inr ⟨z,i,c,r1.iO,r2.b8,hz,e,h ρ H _ (aN.refl _ _) sr (Rl.mkStr _)⟩)
   ·exact h.elim
  ·exact h.elim
noncomputable def bY:FN
 | [.tup us],st => .ok (.int us.length) st
 | [.loc n],st => match ak st n with
  | some us => .ok (.int us.length) st
  | none => .bad
 | [.str z],st => if z.length ≤ sizeLine then .ok (.int z.length) st else .bad
 | _,_ => .bad
theorem yd:bU X (.builtin "len") (cM (wo X) E bY):=by
 refine bU.imp (bU.or qK qL) ?_
 rintro xs H Q ⟨ρ,st,us,sr,r,h⟩
 match us,r,h with
 | [],_,h => exact h.elim
 | [.tup ws],r,h =>
  obtain ⟨v,rfl,r1⟩:=r.tj
  obtain ⟨a,vs,rfl,ha,ra⟩:=r1.gn
  refine .inl ⟨a,vs,rfl,.inr ha,?_⟩
  rw [← ra.length]; exact dm sr h
 | [.loc n],r,h =>
  obtain ⟨v,rfl,r1⟩:=r.tj
  obtain ⟨a,rfl,ha⟩:=r1.dF
  unfold bY at h
  dsimp only at h
  split at h
  ·rename_i ws e
   obtain ⟨vs,hs,rv⟩:=bg sr e ha
   refine .inl ⟨a,vs,rfl,.inl hs,?_⟩
   rw [← rv.length]; exact dm sr h
  ·exact h.elim
 | [.str z],r,h =>
  obtain ⟨v,rfl,r1⟩:=r.tj
  unfold bY at h
  dsimp only at h
  split at h
  ·rename_i hz
   exact .inr ⟨z,by rw [r1.iO],hz,dm sr h⟩
  ·exact h.elim
 | [.dA],_,h => exact h.elim
 | [.bl _],_,h => exact h.elim
 | [.int _],_,h => exact h.elim
 | [.exc _],_,h => exact h.elim
 | [.fn _ _],_,h => exact h.elim
 | [.mt _],_,h => exact h.elim
 | x :: y :: r,_,h => cases x <;> exact h.elim
noncomputable def tw:FN
 | [.int i],st => .ok (.int (if i < 0 then -i else i)) st
 | _,_ => .bad
theorem ye:bU X (.builtin "abs") (cM (wo X) E tw):=by
 refine bU.imp zG ?_
 rintro xs H Q ⟨ρ,st,us,sr,r,h⟩
 unfold tw at h
 split at h
 ·rename_i i
  obtain ⟨v,rfl,r1⟩:=r.tj
  exact ⟨i,by rw [r1.b8],dm sr h⟩
 ·exact h.elim
noncomputable def vk:FN
 | [.tup us],st => .ok (.tup us) st
 | [.loc n],st => match ak st n with
  | some us => .ok (.tup us) st
  | none => .bad
 | _,_ => .bad
theorem yf:bU X (.type "tuple") (cM (wo X) E vk):=by
 refine bU.imp pj ?_
 rintro xs H Q ⟨ρ,st,us,sr,r,h⟩
 unfold vk at h
 split at h
 ·rename_i ws
  obtain ⟨v,rfl,r1⟩:=r.tj
  obtain ⟨a,vs,rfl,ha,ra⟩:=r1.gn
  exact ⟨a,vs,rfl,.inr ⟨ha,h ρ H _ (aN.refl _ _) sr r1⟩⟩
 ·rename_i n
  obtain ⟨v,rfl,r1⟩:=r.tj
  obtain ⟨a,rfl,ha⟩:=r1.dF
  split at h
  ·rename_i ws e
   obtain ⟨vs,hs,rv⟩:=bg sr e ha
   refine ⟨a,vs,rfl,.inl ⟨hs,fun l hl => ?_⟩⟩
   have s:=c! (o:=.tup vs) hl
   exact h ρ _ _ (aN.same s) (sr.grow s) (Rl.p5 cm (bt.mono (aN.same s) _ _ rv))
  ·exact h.elim
 ·exact h.elim
noncomputable def iS:FN
 | [.tup us],st => .ok (.loc st.length) (st ++ [.lst us])
 | [.loc n],st => match ak st n with
  | some us => .ok (.loc st.length) (st ++ [.lst us])
  | none => .bad
 | _,_ => .bad
theorem yg:bU X (.type "list") (cM (wo X) E iS):=by
 refine bU.imp qM ?_
 rintro xs H Q ⟨ρ,st,us,sr,r,h⟩
 unfold iS at h
 split at h
 ·rename_i ws
  obtain ⟨v,rfl,r1⟩:=r.tj
  obtain ⟨a,vs,rfl,ha,ra⟩:=r1.gn
  refine ⟨a,vs,rfl,.inr ha,fun l hl => ?_⟩
  obtain ⟨k1,k2,k3⟩:=fE sr ra hl
  exact h _ _ _ k1 k2 k3
 ·rename_i n
  obtain ⟨v,rfl,r1⟩:=r.tj
  obtain ⟨a,rfl,ha⟩:=r1.dF
  split at h
  ·rename_i ws e
   obtain ⟨vs,hs,rv⟩:=bg sr e ha
   refine ⟨a,vs,rfl,.inl hs,fun l hl => ?_⟩
   obtain ⟨k1,k2,k3⟩:=fE sr rv hl
   exact h _ _ _ k1 k2 k3
  ·exact h.elim
 ·exact h.elim
noncomputable def jU:List ah → Option (List Bool)
 | [] => some []
 | .bl b :: r => (jU r).map (b :: ·)
 | _ => none
theorem p8 {K:PySem.W.Frag} {ρ:List Addr} {H:Hp}:∀ {us:List ah} {bs:List Bool} {vs:List V} {aO:List Value},jU us = some bs → bt K ρ H us vs → bo vs aO → LSm.BoolsAre aO bs
 | [],bs,vs,aO,h,r,v => by
  cases h
  have:=r.eI
  subst this
  cases v
  exact .nil
 | u :: us,bs,vs,aO,h,r,v => by
  cases u with
  | bl b =>
   simp only [jU] at h
   cases z:jU us with
   | none => rw [z] at h; cases h
   | some T5 =>
    rw [z] at h
    cases h
    obtain ⟨x,r',rfl,h2,h3⟩:=r.cC
    have:=h2.sI
    subst this
    cases v with
    | cons q1 q2 =>
     cases q1
     exact .cons b (p8 z h3 q2)
  | _ => cases h
theorem nY (hh:X.A.handled = none):bU X (.builtin "all") (fun xs H Q => ∃ a ρ us vs bs,xs = [.ref a] ∧ iG X.K H a vs ∧ bt X.K ρ H us vs ∧ jU us = some bs ∧ Q (.bl (bs.all id)) H):=by
 rintro af s σ H xs ws Q I r ⟨a,ρ,us,vs,bs,rfl,hs,rv,hb,q⟩
 obtain ⟨u,rfl,ru⟩:=vals1 r
 cases ru
 obtain ⟨aO,r1,p1,_⟩:=I.list hs
 have B:=p8 hb rv r1
 have hl:=p1.isList
 have zh:a < s.heap.objs.size:=by obtain ⟨_,e,_⟩:=hl; exact Heap.lt_size e
 refine call_all_walk (wpAny_pyIter_list hl ?_)
 refine ⟨s.heap.objs.size,[s.heap.objs.size,a],[s.heap.objs.size],aO.toArray.size,_,_,fun i => (bs[i]?).getD true,rfl,Walks.list (A:=X.A.in1) hh _ a (Nat.ne_of_lt zh) aO.toArray,
  ⟨⟨_,Heap.get?_push_size _ rfl,rfl,rfl⟩,hl.push _⟩,fun i v s' Q' E' hP hQ => ?_,fun h' tk hk => ?_⟩
 ·obtain ⟨b,e,rfl⟩:=B.get i v (by simpa using hP)
  simp only [e,Option.getD_some] at hQ
  exact wpAny_truthy_bool hQ
 ·have e:((List.range aO.toArray.size).all fun i => (bs[i]?).getD true) = bs.all id:=by
   rw [List.size_toArray,B.length]; exact LSm.range_all bs
  rw [e]
  exact ⟨.bl _,H,I.kept (LSm.kept_iter hk),rfl,q⟩
noncomputable def yh:FN
 | [.loc n],st => match ak st n with
  | some us => match jU us with
   | some bs => .ok (.bl (bs.all id)) st
   | none => .bad
  | none => .bad
 | _,_ => .bad
theorem yi (hh:X.A.handled = none):bU X (.builtin "all") (cM (wo X) E yh):=by
 refine bU.imp (nY hh) ?_
 rintro xs H Q ⟨ρ,st,us,sr,r,h⟩
 unfold yh at h
 split at h
 ·rename_i n
  obtain ⟨v,rfl,r1⟩:=r.tj
  obtain ⟨a,rfl,ha⟩:=r1.dF
  split at h
  ·rename_i ws e
   split at h
   ·rename_i bs hb
    obtain ⟨vs,hs,rv⟩:=bg sr e ha
    exact ⟨a,ρ,ws,vs,bs,rfl,hs,rv,hb,iz sr h⟩
   ·exact h.elim
  ·exact h.elim
 ·exact h.elim
noncomputable def kindOf (st:ag):ah → Option String
 | .dA => some "NoneType"
 | .bl _ => some "bool"
 | .int _ => some "int"
 | .str _ => some "str"
 | .tup _ => some "tuple"
 | .loc n => match st[n]? with
  | some (.lst _) => some "list"
  | some (.GI _) => some "list"
  | some (.mod _) => none
  | some (.dK _) => some "dict"
  | some (.dT _) => some "dict"
  | _ => none
 | _ => none
noncomputable def IX (T:String) (st:ag) (v:ah):Option Bool:=(kindOf st v).map fun k => k == T || (k == "bool" && T == "int")
noncomputable def KJ (T:String) (m:ME):ME:=fun μ st => (m μ st).bind fun v aC => match IX T aC v with
 | some b => .ok (.bl b) aC
 | none => .bad
noncomputable def Ha (K:PySem.W.Frag) (T:String):Prop:=∀ k ∈ ["NoneType","bool","int","str","tuple","list","dict"],PySem.W.kitOne K (.type k) (.type T) = some (k == T || (k == "bool" && T == "int"))
theorem vm {st:ag} {v:ah} {k:String} (h:kindOf st v = some k):k ∈ ["NoneType","bool","int","str","tuple","list","dict"]:=by
 unfold kindOf at h
 split at h
 all_goals first
  | (cases h; decide)
  | (split at h <;> first | (cases h; decide) | cases h)
  | cases h
theorem As {af:List (Addr × Obj)} {σ:St} {H:Hp} {s:Shared} {A:Around} {E:Value → Shared → Prop} {Q:Value → Shared → Prop} {c:Value} {b:Bool} {ρ:List Addr} {st:ag} {u:ah} {x:V} {v:Value} {k:String}
  (I:aS X af σ H s) (sr:SR X.K ρ st H) (r:Rl X.K ρ H u x) (q:bC x v) (hk:kindOf st u = some k) (e:PySem.W.kitOne X.K (.type k) c = some b) (h:∀ tk,Q (.bool b) { s with toks:=tk }) :
  wpAny (model X.prog X.w) A (call (.builtin "isinstance") [v,c]) Q E s:=by
 cases u with
 | dA => cases hk; have:=r.nN; subst this; exact eg I q .dA e h
 | bl y => cases hk; have:=r.sI; subst this; exact eg I q (.bl y) e h
 | int i => cases hk; have:=r.b8; subst this; exact eg I q (.int i) e h
 | str y => cases hk; have:=r.iO; subst this; exact eg I q (.str y) e h
 | tup us =>
  cases hk
  obtain ⟨a,vs,rfl,ha,ra⟩:=r.gn
  cases q
  obtain ⟨aO,r1,⟨o,h1,h2,_⟩,_⟩:=I.tuple ha
  exact PySem.W.kia_one PySem.W.kitx_tuple I.lM ⟨o,h1,h2⟩ e (fun z => nomatch z) h
 | loc n =>
  obtain ⟨a,rfl,ha⟩:=r.dF
  obtain ⟨cl,hc,kc⟩:=sr.there ha
  simp only [kindOf,hc] at hk
  cases cl with
  | lst us => cases hk; obtain ⟨vs,h1,_⟩:=kc; exact eg I q (.lst h1) e h
  | GI us => cases hk; obtain ⟨o,vs,h1,_⟩:=kc; exact eg I q (.jB h1) e h
  | mod us => cases hk
  | dK us => cases hk; obtain ⟨vs,h1,_⟩:=kc; exact eg I q (.dK h1) e h
  | dT us => cases hk; obtain ⟨vs,h1,_⟩:=kc; exact eg I q (.dT h1) e h
  | tab _ _ _ _ => cases hk
  | ins _ _ => cases hk
  | fd _ => cases hk
 | exc c => cases hk
 | fn k c => cases hk
 | mt us => cases hk
theorem Au {T:String} {x:Str} {e:Expr} {m:ME} {p q:Pos} (hK:Ha X.K T) (hg:Gl X "isinstance") (hm:X.mg "isinstance" = none) (Sg:Gl X x) (Sh:X.mg x = none) (Si:bootBuiltins x = some (.type T)) (he:PE X e (tE X E m))
  (hn:x ≠ "__name__":=by decide) (hd:(x == ("__debug__":Str)) = false:=by decide)
  (hs:starEach [e,.Name x q] X.env = (false,eval e X.env) :: starEach [.Name x q] X.env:=by rfl) (gz:starEach [.Name x q] X.env = (false,eval (.Name x q) X.env) :: starEach [] X.env:=by rfl)
  (iH:(backTo pos (starEach [.Name x q] X.env)).any (·.1) = false:=by rfl):PE X (.Call (.Name "isinstance" p) [e,.Name x q] [] pos) (tE X E (KJ T m)):=by
 have hc:bU X (.builtin "isinstance") (fun xs H Q => ∃ y ρ st u k b,xs = [y,.ty T] ∧ SR X.K ρ st H ∧ Rl X.K ρ H u y ∧ kindOf st u = some k ∧ PySem.W.kitOne X.K (.type k) (.type T) = some b ∧ Q (.bl b) H):=by
  rintro af s σ H xs us Q I r ⟨y,ρ,st,u,k,b,rfl,sr,r1,h1,h2,h3⟩
  obtain ⟨v1,v2,rfl,q1,q2⟩:=vals2 r
  cases q2
  exact As I sr r1 q1 h1 h2 fun tk => ⟨.bl b,H,I.tok tk,rfl,h3⟩
 refine PE.imp (jP hc hg hm PyProof.Rows.boot_isinstance (gq he (gq (wm (v:=.ty T) Sg Sh Si rfl hn hd) nC gz) hs) (by decide) (by decide) hs iH) ?_
 rintro σ H Q ⟨μ,ρ,st,rs,sr,h⟩
 refine go μ ρ st rs sr h fun u st1 ρ1 H1 x e1 bT r1 h1 => ?_
 cases z:kindOf st1 u with
 | none => simp only [IX,z] at h1; exact h1.elim
 | some k =>
  simp only [IX,z] at h1
  exact ⟨x,ρ1,st1,u,k,_,rfl,bT,r1,z,hK k (vm z),iz bT h1⟩
end
theorem Av {K:PySem.W.Frag}:Ha K "int":=by
 intro k hk
 simp only [List.mem_cons,List.mem_nil_iff,or_false] at hk
 rcases hk with rfl | rfl | rfl | rfl | rfl | rfl | rfl <;> first | rfl | kernel_rfl
theorem yj {K:PySem.W.Frag}:Ha K "bool":=by
 intro k hk
 simp only [List.mem_cons,List.mem_nil_iff,or_false] at hk
 rcases hk with rfl | rfl | rfl | rfl | rfl | rfl | rfl <;> first | rfl | kernel_rfl
end MN
namespace MN
open PySem PySem.Spec L2
open PyProof.Rows hiding St
noncomputable abbrev AS:=ah → Env → Option Env
noncomputable def bb (i:Nat):AS:=fun v μ => some (μ.set i (some v))
noncomputable def p9:List AS → List ah → Env → Option Env
 | [],[],μ => some μ
 | a :: as,v :: vs,μ => (a v μ).bind fun μ' => p9 as vs μ'
 | _,_,_ => none
noncomputable def iT (l:List AS):AS:=fun v μ => match v with
 | .tup vs => p9 l vs μ
 | _ => none
noncomputable def tA (W:Wo) (a:AS):TG:=fun v σ H Q => ∃ μ ρ u μ',RS W ρ H μ σ ∧ Rl W.K ρ H u v ∧ a u μ = some μ' ∧ ∀ σ',RS W ρ H μ' σ' → Q σ' H
noncomputable def Mz (W:Wo) (l:List AS):B':=fun vs σ H Q => ∃ μ ρ us μ',RS W ρ H μ σ ∧ bt W.K ρ H us vs ∧ p9 l us μ = some μ' ∧ ∀ σ',RS W ρ H μ' σ' → Q σ' H
section
variable {X:Cx} {pos:Pos}
theorem uV.imp {e:List Expr} {t t':B'} (h:uV X e t) (k:∀ v σ H Q,t' v σ H Q → t v σ H Q):uV X e t':=fun af s σ H v u Q I r q => h af s σ H v u Q I r (k v σ H Q q)
theorem Dg (i:Nat) {x:Str} (hN:X.N.Nodup) (hi:X.N[i]? = some x:=by rfl) (hx:Loc X.env.scope x:=by first | exact Or.inl rfl | exact Or.inr rfl) (hf:X.fn x = true ∨ X.env.scope.names.lookup x = some .local:=by first | exact .inl rfl | exact .inr rfl | assumption):PG X (.Name x pos) (tA (wo X) (bb i)):=by
 refine PG.imp (Ca hN hi hx hf) ?_
 rintro v σ H Q ⟨μ,ρ,u,μ',rs,r,e,q⟩
 cases e
 exact q _ (rs.set i r)
theorem Dh:uV X [] (Mz (wo X) []):=by
 refine uV.imp Cb ?_
 rintro vs σ H Q ⟨μ,ρ,us,μ',rs,r,e,q⟩
 cases us with
 | nil => cases e; exact ⟨r.eI,q σ rs⟩
 | cons => cases e
theorem Aw {e:Expr} {es:List Expr} {a:AS} {as:List AS} (h1:PG X e (tA (wo X) a)) (h2:uV X es (Mz (wo X) as)) (hs:(assignEach (e :: es) X.env).map (·.2) = assign e X.env :: (assignEach es X.env).map (·.2):=by rfl):uV X (e :: es) (Mz (wo X) (a :: as)):=by
 refine uV.imp (zC h1 h2 hs) ?_
 rintro vs σ H Q ⟨μ,ρ,us,μ',rs,r,e,q⟩
 cases us with
 | nil => cases e
 | cons u us =>
  obtain ⟨v,r',rfl,ru,rr⟩:=r.cC
  unfold p9 at e
  cases z:a u μ with
  | none => rw [z] at e; cases e
  | some μ1 =>
   rw [z] at e
   exact ⟨v,r',rfl,μ,ρ,u,μ1,rs,ru,z,fun σ1 IW => ⟨μ1,ρ,us,μ',IW,rr,e,q⟩⟩
theorem Hb {es:List Expr} {k:Nat} {l:List AS} (hc:X.calm = true) (h:uV X es (Mz (wo X) l)) (hn:(assignEach es X.env).length = l.length:=by rfl) (sG:(assignEach es X.env).findIdx? (·.1) = none:=by rfl):PG X (.Tuple es k pos) (tA (wo X) (iT l)):=by
 refine PG.imp (FF hc h hn sG) ?_
 rintro v σ H Q ⟨μ,ρ,u,μ',rs,r,e,q⟩
 cases u with
 | tup us =>
  obtain ⟨a,vs,rfl,ha,ra⟩:=r.gn
  have len:∀ (l:List AS) (us:List ah) (μ:Env),p9 l us μ = some μ' → us.length = l.length:=by
   intro l
   induction l with
   | nil => intro us μ e; cases us with | nil => rfl | cons => cases e
   | cons a l ih =>
    intro us μ e
    cases us with
    | nil => cases e
    | cons u us =>
     unfold p9 at e
     cases z:a u μ with
     | none => rw [z] at e; cases e
     | some μ1 => rw [z] at e; rw [List.length_cons,List.length_cons,ih us μ1 e]
  exact ⟨a,vs,rfl,ha,by rw [← ra.length]; exact len _ _ _ e,μ,ρ,us,μ',rs,ra,e,q⟩
 | _ => cases e
noncomputable def Sj (a:AS) (m:ME):MB:=fun μ st => (m μ st).sb μ fun v aC => match a v μ with
 | some μ' => .nx μ' aC
 | none => .bad
end
noncomputable abbrev Itm:=List ah × (ag → Prop)
noncomputable abbrev MI:=Env → ag → cn Itm
noncomputable def Hc (K:PySem.W.Frag) (ρ0:List Addr) (H0:Hp) (p:Itm) (J:It):Prop :=
 ∀ ρ st H,aN ρ0 H0 ρ H → SR K ρ st H → p.2 st → ∀ i:Nat,
  (∀ u,p.1[i]? = some u → J.go i H ∧ ∀ x H',J.JG i H x H' → aN ρ H ρ H' ∧ SR K ρ st H' ∧ Rl K ρ H' u x) ∧ (p.1.length ≤ i → J.stop i H)
noncomputable abbrev tI (X:Cx) (E:XK) (m:MI):TI:=tG (wo X) E (Hc X.K) m
section
variable {X:Cx} {E:XK} {tg:Expr} {pos p:Pos}
theorem PI.imp {it:Expr} {t t':TI} (h:PI X tg it t) (k:∀ σ H Q,t' σ H Q → t σ H Q):PI X tg it t':=fun af s σ H R I q => h af s σ H R I (k σ H R q)
theorem Hd {l:Expr} {tl:TE} (hl:PE X l tl):PI X tg l (fun σ H R => tl σ H fun x H1 => ∃ a,x = .ref a ∧ (((∃ xs,iG X.K H1 a xs) ∧ R (Np X.K a) H1) ∨ ((∃ xs,jD X.K H1 a xs) ∧ R (Nq X.K a) H1))):=by
 intro af s σ H R I h
 refine cR (hl af s σ H _ I h) fun v s1 ⟨x,H1,I1,r1,q1⟩ => ?_
 obtain ⟨a,e,q⟩:=q1
 subst e
 cases r1
 rcases q with ⟨⟨xs,hq⟩,q⟩ | ⟨⟨xs,hq⟩,q⟩
 ·obtain ⟨aO,rv,p,hz⟩:=I1.list hq
  refine wpAny_pyIter_list p.isList ?_
  refine ⟨s1.heap.objs.size,[s1.heap.objs.size],_,_,H1,rfl,I1.kept (t':=s1.toks) fun b o e => Heap.get?_push_of_some _ e,xE a _,⟨_,Heap.get?_push_size _ rfl,rfl,rfl⟩,fun b hb => ?_,q⟩
  have e:b = s1.heap.objs.size:=by simpa using hb
  subst e
  exact I1.uW (Nat.le_refl _) (I1.b?.fresh (Nat.le_refl _))
 ·obtain ⟨aO,rv,p,hz⟩:=I1.tuple hq
  refine wpAny_pyIter_tuple (show s1.heap.IsTuple a aO.toArray from p) ?_
  refine ⟨s1.heap.objs.size,[s1.heap.objs.size],_,_,H1,rfl,I1.kept (t':=s1.toks) fun b o e => Heap.get?_push_of_some _ e,uX a _,⟨_,Heap.get?_push_size _ rfl,rfl,rfl⟩,fun b hb => ?_,q⟩
  have e:b = s1.heap.objs.size:=by simpa using hb
  subst e
  exact I1.uW (Nat.le_refl _) (I1.b?.fresh (Nat.le_refl _))
noncomputable def nZ (st:ag):ah → Option Itm
 | .tup us => some (us,fun _ => True)
 | .mt us => some (us,fun _ => True)
 | .loc n => (ak st n).map fun us => (us,fun aC => ak aC n = some us)
 | _ => none
noncomputable def n_ (m:ME):MI:=fun μ st => (m μ st).bind fun v aC => match nZ aC v with
 | some p => .ok p aC
 | none => .bad
theorem Ax {K:PySem.W.Frag} {ρ:List Addr} {H:Hp} {n:Nat} {us:List ah} {a:Addr} (ha:ρ[n]? = some a) (Ol:∀ {ρ':List Addr} {aC:ag} {H':Hp},SR K ρ' aC H' → ak aC n = some us → ρ'[n]? = some a → ∃ vs,iG K H' a vs ∧ bt K ρ' H' us vs) :
  Hc K ρ H (us,fun aC => ak aC n = some us) (Np K a):=by
 intro ρ' aC H' e sr g i
 obtain ⟨vs,hs,rv⟩:=Ol sr g (e.at_ ha)
 refine ⟨fun u hu => ?_,fun hi => ⟨vs,hs,by rw [← rv.length]; exact hi⟩⟩
 obtain ⟨v,hv,ru⟩:=rv.get hu
 refine ⟨⟨vs,v,hs,hv⟩,fun x IY y => ?_⟩
 obtain ⟨rfl,y⟩:=y
 have e:=(y vs hs).symm.trans hv
 cases e
 exact ⟨aN.refl _ _,sr,ru⟩
theorem wL {K:PySem.W.Frag} {ρ:List Addr} {H:Hp} {us:List ah} {a:Addr} {vs:List V} (ha:jD K H a vs) (ra:bt K ρ H us vs):Hc K ρ H (us,fun _ => True) (Nq K a):=by
 intro ρ' aC H' e sr g i
 have Om:jD K H' a vs:=e.Oe ha
 have rv:=bt.mono e _ _ ra
 refine ⟨fun u hu => ?_,fun hi => ⟨vs,Om,by rw [← rv.length]; exact hi⟩⟩
 obtain ⟨v,hv,ru⟩:=rv.get hu
 refine ⟨⟨vs,v,Om,hv⟩,fun x IY y => ?_⟩
 obtain ⟨rfl,y⟩:=y
 have e:=(y vs Om).symm.trans hv
 cases e
 exact ⟨aN.refl _ _,sr,ru⟩
theorem He {l:Expr} {m:ME} (hl:PE X l (tE X E m)):PI X tg l (tI X E (n_ m)):=by
 refine PI.imp (Hd hl) ?_
 rintro σ H R ⟨μ,ρ,st,rs,sr,h⟩
 refine go μ ρ st rs sr h fun u st1 ρ1 H1 x e1 bT r1 h1 => ?_
 cases u with
 | tup us =>
  obtain ⟨a,vs,rfl,ha,ra⟩:=r1.gn
  exact ⟨a,rfl,.inr ⟨⟨vs,ha⟩,h1 ρ1 H1 _ (aN.refl _ _) bT (wL ha ra)⟩⟩
 | mt us =>
  obtain ⟨a,vs,rfl,ha,ra⟩:=r1.QE
  exact ⟨a,rfl,.inr ⟨⟨vs,ha⟩,h1 ρ1 H1 _ (aN.refl _ _) bT (wL ha ra)⟩⟩
 | loc n =>
  obtain ⟨a,rfl,ha⟩:=r1.dF
  cases z:ak st1 n with
  | none => simp only [nZ,z] at h1; exact h1.elim
  | some us =>
   simp only [nZ,z] at h1
   obtain ⟨vs,hs,rv⟩:=bg bT z ha
   exact ⟨a,rfl,.inl ⟨⟨vs,hs⟩,h1 ρ1 H1 _ (aN.refl _ _) bT (Ax ha fun s g h => bg s g h)⟩⟩
 | _ => exact h1.elim
noncomputable def cT (lo:Int) (n:Nat):List ah:=(List.range n).map fun (i:Nat) => ah.int (lo + (i:Int))
theorem p_ {K:PySem.W.Frag} {ρ:List Addr} {H:Hp} (lo:Int) (n:Nat):Hc K ρ H (cT lo n,fun _ => True) (JH lo n):=by
 intro ρ' aC H' e sr g i
 refine ⟨fun u hu => ?_,fun hi => ?_⟩
 ·have hi:i < n:=by
   have:=bJ hu
   simpa [cT] using this
  refine ⟨hi,fun x IY y => ?_⟩
  obtain ⟨rfl,rfl⟩:=y
  have e:u = ah.int (lo + (i:Int)):=by
   simp only [cT,List.getElem?_map] at hu
   rw [List.getElem?_range hi] at hu
   exact (Option.some.inj hu).symm
  subst e
  exact ⟨aN.refl _ _,sr,Rl.mkInt _⟩
 ·show n ≤ i
  simpa [cT] using hi
noncomputable def m6 (m:MA):MI:=fun μ st => (m μ st).bind fun vs aC => match vs with
 | [.int j] => if -(2 ^ 62) ≤ j ∧ j < 2 ^ 62 then .ok (cT 0 j.toNat,fun _ => True) aC else .bad
 | _ => .bad
noncomputable def eJ (m:MA):MI:=fun μ st => (m μ st).bind fun vs aC => match vs with
 | [.int i,.int j] => if -(2 ^ 62) ≤ i ∧ i < 2 ^ 62 ∧ -(2 ^ 62) ≤ j ∧ j < 2 ^ 62 then .ok (cT i (j - i).toNat,fun _ => True) aC else .bad
 | _ => .bad
theorem yk {a:Expr} {m:MA} (hg:Gl X "range") (hm:X.mg "range" = none) (ha:PA X [a] (tL X E m)) (hs:starEach [a] X.env = [(false,eval a X.env)]:=by rfl):PI X tg (.Call (.Name "range" p) [a] [] pos) (tI X E (m6 m)):=by
 refine PI.imp (xF hg hm ha hs) ?_
 rintro σ H R ⟨μ,ρ,st,rs,sr,h⟩
 refine go (R1:=bt X.K) μ ρ st rs sr h fun us st1 ρ1 H1 xs e1 bT r1 h1 => ?_
 split at h1
 ·rename_i j
  obtain ⟨v,rfl,rv⟩:=r1.tj
  split at h1
  ·rename_i hz
   exact ⟨j,by rw [rv.b8],hz.1,hz.2,h1 ρ1 H1 _ (aN.refl _ _) bT (p_ 0 j.toNat)⟩
  ·exact h1.elim
 ·exact h1.elim
theorem ym {a b:Expr} {m:MA} (hg:Gl X "range") (hm:X.mg "range" = none) (ha:PA X [a,b] (tL X E m)) (hs:starEach [a,b] X.env = [(false,eval a X.env),(false,eval b X.env)]:=by rfl) (gz:starEach [b] X.env = [(false,eval b X.env)]:=by rfl) :
  PI X tg (.Call (.Name "range" p) [a,b] [] pos) (tI X E (eJ m)):=by
 refine PI.imp (xG hg hm ha hs gz) ?_
 rintro σ H R ⟨μ,ρ,st,rs,sr,h⟩
 refine go (R1:=bt X.K) μ ρ st rs sr h fun us st1 ρ1 H1 xs e1 bT r1 h1 => ?_
 split at h1
 ·rename_i i j
  obtain ⟨v,w,rfl,rv,qF⟩:=r1.Mv
  split at h1
  ·rename_i hz
   exact ⟨i,j,by rw [rv.b8,qF.b8],hz,h1 ρ1 H1 _ (aN.refl _ _) bT (p_ i _)⟩
  ·exact h1.elim
 ·exact h1.elim
noncomputable def fR (st:ag):ah → Option (Bool × Itm)
 | .tup us => some (false,us,fun _ => True)
 | .loc n => (ak st n).map fun us => (true,us,fun aC => ak aC n = some us)
 | _ => none
noncomputable def iF:List ah → List ah → List ah
 | x :: xs,y :: ys => .tup [x,y] :: iF xs ys
 | _,_ => []
theorem wM:∀ (us ws:List ah) (i:Nat),(∀ z,(iF us ws)[i]? = some z → ∃ u w,us[i]? = some u ∧ ws[i]? = some w ∧ z = .tup [u,w]) ∧ ((iF us ws).length ≤ i → us.length ≤ i ∨ ws.length ≤ i)
 | [],_,i => ⟨fun z h => (by cases h),fun _ => .inl (Nat.zero_le _)⟩
 | _ :: _,[],i => ⟨fun z h => (by cases h),fun _ => .inr (Nat.zero_le _)⟩
 | u :: us,w :: ws,0 => ⟨fun z h => (by cases h; exact ⟨u,w,rfl,rfl,rfl⟩),fun h => (by simp [iF] at h)⟩
 | u :: us,w :: ws,i + 1 => by
  obtain ⟨a,b⟩:=wM us ws i
  refine ⟨fun z h => a z h,fun h => ?_⟩
  have h':(iF us ws).length ≤ i:=by simpa [iF] using h
  rcases b h' with q | q
  ·exact .inl (by rw [List.length_cons]; lia)
  ·exact .inr (by rw [List.length_cons]; lia)
noncomputable def p! (b1 b2:Bool) (m:MA):MI:=fun μ st => (m μ st).bind fun vs aC => match vs with
 | [u,w] => match fR aC u,fR aC w with
  | some (c1,us,g1),some (c2,ws,g2) => if c1 = b1 ∧ c2 = b2 then .ok (iF us ws,fun bS => g1 bS ∧ g2 bS) aC else .bad
  | _,_ => .bad
 | _ => .bad
theorem wN {K:PySem.W.Frag} {ρ:List Addr} {st:ag} {H:Hp} {u:ah} {x:V} {c:Bool} {us:List ah} {g:ag → Prop} (sr:SR K ρ st H) (r:Rl K ρ H u x) (h:fR st u = some (c,us,g)) (Ol:∀ {ρ':List Addr} {aC:ag} {H':Hp} {n a},SR K ρ' aC H' → ak aC n = some us → ρ'[n]? = some a → ∃ vs,iG K H' a vs ∧ bt K ρ' H' us vs) :
  ∃ a,x = .ref a ∧ ∀ ρ' aC H',aN ρ H ρ' H' → SR K ρ' aC H' → g aC → ∃ vs,ve c K H' a vs ∧ bt K ρ' H' us vs:=by
 cases u with
 | tup ws =>
  cases h
  obtain ⟨a,vs,rfl,ha,ra⟩:=r.gn
  exact ⟨a,rfl,fun ρ' aC H' e _ _ => ⟨vs,e.Oe ha,bt.mono e _ _ ra⟩⟩
 | loc n =>
  obtain ⟨a,rfl,ha⟩:=r.dF
  cases z:ak st n with
  | none => simp only [fR,z] at h; cases h
  | some ws =>
   simp only [fR,z] at h
   cases h
   exact ⟨a,rfl,fun ρ' aC H' e s g => Ol s g (e.at_ ha)⟩
 | _ => cases h
theorem Ay {st:ag} {u:ah} {c:Bool} {us:List ah} {g:ag → Prop} (h:fR st u = some (c,us,g)):g st:=by
 cases u with
 | tup ws => cases h; exact True.intro
 | loc n =>
  cases z:ak st n with
  | none => simp only [fR,z] at h; cases h
  | some ws => simp only [fR,z] at h; cases h; exact z
 | _ => cases h
theorem Hf (b1 b2:Bool) {elts:List Expr} {kt:Nat} {tp:Pos} {ea eb:Expr} {m:MA} (hg:Gl X "zip") (hm:X.mg "zip" = none) (ha:PA X [ea,eb] (tL X E m)) (hs:starEach [ea,eb] X.env = [(false,eval ea X.env),(false,eval eb X.env)]:=by rfl) (gz:starEach [eb] X.env = [(false,eval eb X.env)]:=by rfl) :
  PI X (.Tuple elts kt tp) (.Call (.Name "zip" p) [ea,eb] [] pos) (tI X E (p! b1 b2 m)):=by
 refine PI.imp (Gw b1 b2 hg hm ha hs gz) ?_
 rintro σ H R ⟨μ,ρ,st,rs,sr,h⟩
 refine go (R1:=bt X.K) μ ρ st rs sr h fun us st1 ρ1 H1 xs e1 bT r1 h1 => ?_
 split at h1
 ·rename_i u w
  obtain ⟨x,y,rfl,rx,ry⟩:=r1.Mv
  split at h1
  ·rename_i c1 Sk g1 c2 Sl g2 z1 z2
   split at h1
   ·rename_i hc
    obtain ⟨rfl,rfl⟩:=hc
    obtain ⟨a,rfl,ka⟩:=wN bT rx z1 fun s g h => bg s g h
    obtain ⟨b,rfl,kb⟩:=wN bT ry z2 fun s g h => bg s g h
    obtain ⟨v1,q1,_⟩:=ka ρ1 st1 H1 (aN.refl _ _) bT (Ay z1)
    obtain ⟨v2,q2,_⟩:=kb ρ1 st1 H1 (aN.refl _ _) bT (Ay z2)
    refine ⟨a,b,rfl,⟨v1,q1⟩,⟨v2,q2⟩,h1 ρ1 H1 _ (aN.refl _ _) bT ?_⟩
    intro ρ' aC H' e s g i
    obtain ⟨w1,s1,t1⟩:=ka ρ' aC H' e s g.1
    obtain ⟨w2,s2,t2⟩:=kb ρ' aC H' e s g.2
    obtain ⟨k1,k2⟩:=wM Sk Sl i
    refine ⟨fun z hz => ?_,fun hi => ⟨w1,w2,s1,s2,?_⟩⟩
    ·obtain ⟨u',w',Sn,So,rfl⟩:=k1 z hz
     obtain ⟨p1,p2,p3⟩:=t1.get Sn
     obtain ⟨o1,o2,o3⟩:=t2.get So
     refine ⟨⟨w1,w2,p1,o1,s1,s2,p2,o2⟩,fun x' IY y' => ?_⟩
     obtain ⟨pp,x1,y1,rfl,hp,rfl,f1,f2⟩:=y'
     have c1:=(f1 w1 s1).symm.trans p2
     have c2:=(f2 w2 s2).symm.trans o2
     cases c1
     cases c2
     exact ⟨aN.same (c! hp),s.grow (c! hp),Rl.p5 cm (bt.mono (aN.same (c! hp)) _ _ (bt.cons p3 (bt.one o3)))⟩
    ·rw [← t1.length,← t2.length]; exact k2 hi
   ·exact h1.elim
  ·exact h1.elim
 ·exact h1.elim
end
open Classical in
noncomputable def forL (g:ag → Prop) (a:AS) (body:MB):List ah → MB
 | [],μ,st => if g st then .nx μ st else .bad
 | u :: us,μ,st => if g st then (match a u μ with
  | some μ1 => match body μ1 st with
   | .nx μ' aC => forL g a body us μ' aC
   | .ct μ' aC => forL g a body us μ' aC
   | .bk μ' aC => .nx μ' aC
   | .rt v aC => .rt v aC
   | .er c μ' aC => .er c μ' aC
   | .bad => .bad
  | none => .bad) else .bad
noncomputable def pz (it:MI) (a:AS) (body:MB):MB:=fun μ st => (it μ st).sb μ fun p aC => forL p.2 a body p.1 μ aC
section
variable {X:Cx} {E:XK} {tg:Expr} {pos p:Pos}
theorem Hg {iter:Expr} {sb:List Stmt} {it:MI} {a:AS} {body:MB} (hp:PassesOwn (model X.prog X.w) X.A X.env X.xe) (hc:X.calm = true) (hi:PI X tg iter (tI X E it)) (hg:PG X tg (tA (wo X) a)) (hb:iJ X sb (tS X E body))
  (hs:∀ x,foldedSetIterable iter X.env x = pure x:=by intro _; rfl):PS X (.For tg iter sb [] pos) (tS X E (pz it a body)):=by
 refine PS.imp (FL hp hc hi hg hb hs) ?_
 rintro D σ H ⟨μ,ρ,st,rs,sr,h⟩
 refine uS (R1:=Hc X.K) μ ρ st rs sr h fun pr st1 ρ1 H1 J e1 bT rJ h1 => ?_
 obtain ⟨us,g⟩:=pr
 refine ⟨fun i m σ' H' => m = us.length - i ∧ i ≤ us.length ∧ ∃ μ' ρ' aC,aN ρ1 H1 ρ' H' ∧ RS (wo X) ρ' H' μ' σ' ∧ SR X.K ρ' aC H' ∧ wS (wo X) E ρ' H' D (forL g a body (us.drop i) μ' aC),
  ⟨us.length,by simp,Nat.zero_le _,μ,ρ1,st1,aN.refl _ _,rs.mono e1,bT,h1⟩,?_⟩
 rintro i m σ' H' ⟨rfl,hi,μ',ρ',aC,e',wO,wQ,h'⟩
 by_cases zh:i < us.length
 ·rw [List.drop_eq_getElem_cons zh] at h'
  unfold forL at h'
  by_cases pb:g aC
  ·rw [if_pos pb] at h'
   obtain ⟨k1,k2⟩:=rJ ρ' aC H' e' wQ pb i
   obtain ⟨go',yl⟩:=k1 _ (List.getElem?_eq_getElem zh)
   refine .inr ⟨go',fun σ2 H2 => i + 1 ≤ us.length ∧ ∃ μ2 ρ2 bS,aN ρ1 H1 ρ2 H2 ∧ RS (wo X) ρ2 H2 μ2 σ2 ∧ SR X.K ρ2 bS H2 ∧ wS (wo X) E ρ2 H2 D (forL g a body (us.drop (i + 1)) μ2 bS),fun σ2 H2 n => ⟨us.length - (i + 1),by lia,rfl,n.1,n.2⟩,fun x H2 y => ?_⟩
   obtain ⟨e2,lY,r2⟩:=yl x H2 y
   cases z:a us[i] μ' with
   | none => rw [z] at h'; exact h'.elim
   | some μ1 =>
    rw [z] at h'
    dsimp only at h'
    refine ⟨μ',ρ',us[i],μ1,wO.mono e2,r2,z,fun σ3 IZ => ⟨μ1,ρ',aC,IZ,lY,?_⟩⟩
    cases zb:body μ1 aC with
    | nx μ4 jL =>
     rw [zb] at h'
     intro ρ4 H4 σ4 e4 mr vn
     exact ⟨by lia,μ4,ρ4,jL,(e'.trans e2).trans e4,vn,mr,wS.mono h' (e2.trans e4)⟩
    | ct μ4 jL =>
     rw [zb] at h'
     intro ρ4 H4 σ4 e4 mr vn
     exact ⟨by lia,μ4,ρ4,jL,(e'.trans e2).trans e4,vn,mr,wS.mono h' (e2.trans e4)⟩
    | bk μ4 jL => rw [zb] at h'; exact fun ρ4 H4 σ4 e4 mr vn => h' ρ4 H4 σ4 (e2.trans e4) mr vn
    | rt v jL => rw [zb] at h'; exact fun ρ4 H4 σ4 e4 mr vn => h' ρ4 H4 σ4 (e2.trans e4) mr vn
    | er c μ4 jL => rw [zb] at h'; obtain ⟨C,q1,q2⟩:=h'; exact ⟨C,q1,fun ρ4 H4 e4 mr => q2 ρ4 H4 (e2.trans e4) mr⟩
    | bad => rw [zb] at h'; exact h'
  ·rw [if_neg pb] at h'; exact h'.elim
 ·have zX:i = us.length:=by lia
  subst zX
  rw [List.drop_length] at h'
  unfold forL at h'
  by_cases pb:g aC
  ·rw [if_pos pb] at h'
   exact .inl ⟨(rJ ρ' aC H' e' wQ pb us.length).2 (Nat.le_refl _),h' ρ' H' σ' (aN.refl _ _) wQ wO⟩
  ·rw [if_neg pb] at h'; exact h'.elim
end
noncomputable def e? (t:MT) (body:MB):Nat → Env → ag → Option bN
 | 0,_,_ => none
 | n + 1,μ,st => match t μ st with
  | .ok true st1 => match body μ st1 with
   | .nx μ' aC => e? t body n μ' aC
   | .ct μ' aC => e? t body n μ' aC
   | .bk μ' aC => some (.nx μ' aC)
   | .rt v aC => some (.rt v aC)
   | .er c μ' aC => some (.er c μ' aC)
   | .bad => some .bad
  | .ok false st1 => some (.nx μ st1)
  | .err c st1 => some (.er c μ st1)
  | .bad => some .bad
open Classical in
noncomputable def cb (t:MT) (body:MB):MB:=fun μ st => if h:∃ n r,e? t body n μ st = some r then h.choose_spec.choose else .bad
theorem iU {t:MT} {body:MB}:∀ {n m:Nat} {μ:Env} {st:ag} {r r':bN},e? t body n μ st = some r → e? t body m μ st = some r' → r = r'
 | 0,_,_,_,_,_,h,_ => by cases h
 | _ + 1,0,_,_,_,_,_,h => by cases h
 | n + 1,m + 1,μ,st,r,r',h,h' => by
  unfold e? at h h'
  split at h
  ·rename_i st1 e
   rw [e] at h'
   dsimp only at h'
   split at h
   all_goals (rename_i eb; rw [eb] at h'; dsimp only at h')
   ·exact iU h h'
   ·exact iU h h'
   all_goals (cases h; cases h'; rfl)
  all_goals (rename_i e; rw [e] at h'; dsimp only at h'; cases h; cases h'; rfl)
theorem yn {t:MT} {body:MB} {n:Nat} {μ:Env} {st:ag} {r:bN} (h:e? t body n μ st = some r):cb t body μ st = r:=by
 have hx:∃ n r,e? t body n μ st = some r:=⟨n,r,h⟩
 unfold cb
 rw [dif_pos hx]
 exact iU hx.choose_spec.choose_spec h
section
variable {X:Cx} {E:XK} {pos:Pos}
theorem Az {c:Expr} {sb:List Stmt} {t:MT} {body:MB} (hp:PassesOwn (model X.prog X.w) X.A X.env X.xe) (hc:PT X c (tT X E t)) (hb:iJ X sb (tS X E body)):PS X (.While c sb [] pos) (tS X E (cb t body)):=by
 refine PS.imp (zD hp hc hb) ?_
 rintro D σ H ⟨μ,ρ,st,rs,sr,h⟩
 unfold cb at h
 split at h
 ·rename_i hx
  have hr:=hx.choose_spec.choose_spec
  refine ⟨fun m σ' H' => ∃ μ' ρ' aC r,aN ρ H ρ' H' ∧ RS (wo X) ρ' H' μ' σ' ∧ SR X.K ρ' aC H' ∧ e? t body m μ' aC = some r ∧ wS (wo X) E ρ' H' D r,⟨_,μ,ρ,st,_,aN.refl _ _,rs,sr,hr,h⟩,?_⟩
  rintro m σ' H' ⟨μ',ρ',aC,r,e',wO,wQ,hw,hq⟩
  cases m with
  | zero => cases hw
  | succ m =>
   unfold e? at hw
   refine ⟨μ',ρ',aC,wO,wQ,?_⟩
   cases z:t μ' aC with
   | ok k st1 =>
    rw [z] at hw
    intro ρ1 H1 k' e1 bT ek
    cases ek
    cases k with
    | true =>
     dsimp only at hw
     rw [if_pos rfl]
     refine ⟨fun σ2 H2 => ∃ μ2 ρ2 bS r2,aN ρ H ρ2 H2 ∧ RS (wo X) ρ2 H2 μ2 σ2 ∧ SR X.K ρ2 bS H2 ∧ e? t body m μ2 bS = some r2 ∧ wS (wo X) E ρ2 H2 D r2,fun σ2 H2 n => ⟨m,Nat.lt_succ_self m,n⟩,μ',ρ1,st1,wO.mono e1,bT,?_⟩
     cases zb:body μ' st1 with
     | nx μ4 jL =>
      rw [zb] at hw
      intro ρ4 H4 σ4 e4 mr vn
      exact ⟨μ4,ρ4,jL,r,(e'.trans e1).trans e4,vn,mr,hw,wS.mono hq (e1.trans e4)⟩
     | ct μ4 jL =>
      rw [zb] at hw
      intro ρ4 H4 σ4 e4 mr vn
      exact ⟨μ4,ρ4,jL,r,(e'.trans e1).trans e4,vn,mr,hw,wS.mono hq (e1.trans e4)⟩
     | bk μ4 jL => rw [zb] at hw; cases hw; exact fun ρ4 H4 σ4 e4 mr vn => hq ρ4 H4 σ4 (e1.trans e4) mr vn
     | rt v jL => rw [zb] at hw; cases hw; exact fun ρ4 H4 σ4 e4 mr vn => hq ρ4 H4 σ4 (e1.trans e4) mr vn
     | er c μ4 jL => rw [zb] at hw; cases hw; obtain ⟨C,q1,q2⟩:=hq; exact ⟨C,q1,fun ρ4 H4 e4 mr => q2 ρ4 H4 (e1.trans e4) mr⟩
     | bad => rw [zb] at hw; cases hw; exact hq
    | false =>
     cases hw
     rw [if_neg Bool.false_ne_true]
     exact hq ρ1 H1 σ' e1 bT (wO.mono e1)
   | err c st1 => rw [z] at hw; cases hw; exact hq
   | bad => rw [z] at hw; cases hw; exact hq
 ·exact h.elim
end
end MN
namespace MN
open PySem PySem.Spec L2
open PyProof.Rows hiding St
noncomputable def iV (k:Nat) (bx:List Nat) (μ:Env):Env:=List.replicate k none ++ bx.map fun j => (μ[j]?).getD none
theorem RS.Sq {W:Wo} {ρ:List Addr} {H:Hp} {μ:Env} {σ:L2.St} (r:RS W ρ H μ σ) (k:Nat) (bx:List Nat):RS W ρ H (iV k bx μ) (mn k bx σ):=by
 refine ⟨by simp [iV,mn],fun i u e => ?_⟩
 unfold iV at e
 rcases Nat.lt_or_ge i k with q | q
 ·rw [List.getElem?_append_left (by rw [List.length_replicate]; exact q),List.getElem?_replicate,if_pos q] at e
  cases e
 ·rw [List.getElem?_append_right (by rw [List.length_replicate]; exact q),List.length_replicate,List.getElem?_map] at e
  cases z:bx[i - k]? with
  | none => rw [z] at e; cases e
  | some j =>
   rw [z] at e
   have e':(μ[j]?).getD none = some u:=Option.some.inj e
   have e2:μ[j]? = some (some u):=by
    cases y:μ[j]? with
    | none => rw [y] at e'; cases e'
    | some w => rw [y] at e'; exact congrArg _ e'
   obtain ⟨v,h1,h2⟩:=r.at_ j u e2
   refine ⟨v,?_,h2⟩
   unfold mn
   rw [List.getElem?_append_right (by rw [List.length_replicate]; exact q),List.length_replicate,List.getElem?_map,z]
   show some ((σ[j]?).getD none) = _
   rw [h1]
   rfl
open Classical in
noncomputable def c9 (g:ag → Prop) (a:AS) (c:MT) (e:ME):List ah → Env → ag → List ah → cn (List ah)
 | [],_,st,ys => if g st then .ok ys st else .bad
 | u :: us,τ,st,ys => if g st then (match a u τ with
  | some τ1 => match c τ1 st with
   | .ok true st1 => match e τ1 st1 with
    | .ok y bS => c9 g a c e us τ1 bS (ys ++ [y])
    | .err _ _ => .bad
    | .bad => .bad
   | .ok false st1 => c9 g a c e us τ1 st1 ys
   | .err _ _ => .bad
   | .bad => .bad
  | none => .bad) else .bad
noncomputable def dX (k:Nat) (bx:List Nat) (it:MI) (a:AS) (c:MT) (e:ME):ME:=fun μ st => (it μ st).bind fun p st1 =>
 if p.1.length ≤ sizeLine then (c9 p.2 a c e p.1 (iV k bx μ) st1 []).bind fun ys bS => .ok (.loc bS.length) (bS ++ [.lst ys]) else .bad
noncomputable def cO:MT:=fun _ st => .ok true st
noncomputable abbrev W0 (X:Cx):Wo:=⟨X.K,X.mg,[]⟩
section
variable {X:Cx} {E:XK} {tg elt iter:Expr} {ifs:List Expr} {scope:Scope} {pos zY:Pos} {N:List Str} {cl:List (Str × Addr)} {k:Nat} {bx:List Nat} {it:MI} {a:AS} {c:MT} {e:ME}
theorem p? (ET:X.pn = []) {σ:L2.St} {H:Hp} {Q:VK} (h:tE X E (dX k bx it a c e) σ H Q):nH k bx (tI X E it) (tA (W0 X) a) (tG (W0 X) E0 RB c) (tG (W0 X) E0 (Rl X.K) e) σ H Q:=by
 obtain ⟨μ,ρ,st,rs,sr,h⟩:=h
 refine zV (go (R1:=Hc X.K) μ ρ st rs sr h fun pr st1 ρ1 H1 J e1 bT rJ h1 => ?_)
 obtain ⟨us,g⟩:=pr
 have ew:wo X = W0 X:=by show Wo.mk _ _ _ = _; rw [ET]
 have IW:=rs.mono e1
 rw [ew] at IW h1
 dsimp only at h1
 split at h1
 ·rename_i hz
  refine CQ us.length hz (fun i ys τ H' => ∃ μτ ρ' aC yv,aN ρ1 H1 ρ' H' ∧ RS (W0 X) ρ' H' μτ τ ∧ SR X.K ρ' aC H' ∧ bt X.K ρ' H' yv ys ∧ yv.length ≤ i ∧ wR (W0 X) E (Rl X.K) ρ' H' Q ((c9 g a c e (us.drop i) μτ aC yv).bind fun (zs:List ah) (bS:ag) => cn.ok (ah.loc bS.length) (bS ++ [aQ.lst zs])))
   ⟨iV k bx μ,ρ1,st1,[],aN.refl _ _,IW.Sq k bx,bT,bt.nil,Nat.le_refl _,h1⟩ ?_ ?_ ?_ ?_ ?_
  ·rintro i ys τ H' hi ⟨μτ,ρ',aC,yv,e',wO,wQ,ry,hl,hq⟩
   rw [List.drop_eq_getElem_cons hi] at hq
   unfold c9 at hq
   by_cases pb:g aC
   ·exact ((rJ ρ' aC H' e' wQ pb i).1 _ (List.getElem?_eq_getElem hi)).1
   ·rw [if_neg pb] at hq; exact hq.elim
  ·rintro ys τ H' ⟨μτ,ρ',aC,yv,e',wO,wQ,ry,hl,hq⟩
   rw [List.drop_length] at hq
   unfold c9 at hq
   by_cases pb:g aC
   ·exact (rJ ρ' aC H' e' wQ pb us.length).2 (Nat.le_refl _)
   ·rw [if_neg pb] at hq; exact hq.elim
  ·rintro i ys τ H' ⟨μτ,ρ',aC,yv,e',wO,wQ,ry,hl,hq⟩
   rw [← ry.length]; exact hl
  ·rintro i ys τ H' x H2 hi ⟨μτ,ρ',aC,yv,e',wO,wQ,ry,hl,hq⟩ y K1 hK
   rw [List.drop_eq_getElem_cons hi] at hq
   unfold c9 at hq
   by_cases pb:g aC
   ·rw [if_pos pb] at hq
    obtain ⟨e2,lY,r2⟩:=((rJ ρ' aC H' e' wQ pb i).1 _ (List.getElem?_eq_getElem hi)).2 x H2 y
    cases z:a us[i] μτ with
    | none => rw [z] at hq; exact hq.elim
    | some τ1 =>
     rw [z] at hq
     dsimp only at hq
     refine ⟨μτ,ρ',us[i],τ1,wO.mono e2,r2,z,fun σ3 IZ => ⟨τ1,ρ',aC,IZ,lY,?_⟩⟩
     cases zc:c τ1 aC with
     | ok b js =>
      rw [zc] at hq
      intro ρ3 H3 b' e3 zj eb
      cases eb
      cases b with
      | true =>
       dsimp only at hq
       rw [if_pos rfl]
       refine ⟨τ1,ρ3,js,IZ.mono e3,zj,?_⟩
       cases ze:e τ1 js with
       | ok v jL =>
        rw [ze] at hq
        intro ρ4 H4 y4 e4 mr r4
        exact hK _ _ _ ⟨τ1,ρ4,jL,yv ++ [v],((e'.trans e2).trans e3).trans e4,(IZ.mono e3).mono e4,mr,(bt.mono ((e2.trans e3).trans e4) _ _ ry).append (bt.one r4),by rw [List.length_append,List.length_singleton]; lia,wR.mono hq ((e2.trans e3).trans e4)⟩
       | err c' jL => rw [ze] at hq; exact hq.elim
       | bad => rw [ze] at hq; exact hq.elim
      | false =>
       dsimp only at hq
       rw [if_neg Bool.false_ne_true]
       exact hK _ _ _ ⟨τ1,ρ3,js,yv,(e'.trans e2).trans e3,IZ.mono e3,zj,bt.mono (e2.trans e3) _ _ ry,by lia,wR.mono hq (e2.trans e3)⟩
     | err c' js => rw [zc] at hq; exact hq.elim
     | bad => rw [zc] at hq; exact hq.elim
   ·rw [if_neg pb] at hq; exact hq.elim
  ·rintro ys τ H' p ⟨μτ,ρ',aC,yv,e',wO,wQ,ry,hl,hq⟩ hp
   rw [List.drop_length] at hq
   unfold c9 at hq
   by_cases pb:g aC
   ·rw [if_pos pb] at hq
    obtain ⟨k1,k2,k3⟩:=fE wQ ry hp
    exact hq _ _ _ k1 k2 k3
   ·rw [if_neg pb] at hq; exact hq.elim
 ·exact h1.elim
theorem gv (hc:X.calm = true) (ET:X.pn = []) (B:pq X N scope cl k bx) (hi:PI X tg iter (tI X E it)) (hg:∀ C fp s H,PG (o? X N scope cl C fp s H) tg (tA (W0 X) a)) (Gs:∀ C fp s H,xV (o? X N scope cl C fp s H) ifs (tG (W0 X) E0 RB c))
  (he:∀ C fp s H,PE (o? X N scope cl C fp s H) elt (tG (W0 X) E0 (Rl X.K) e)) (hs:∀ x,foldedSetIterable iter X.env x = pure x:=by intro _; rfl):PE X (.ListComp elt [⟨tg,iter,ifs,0⟩] scope pos) (tE X E (dX k bx it a c e)) :=
 PE.imp (CP hc B hi hg Gs he hs) fun _ _ _ h => p? ET h
theorem n! (i:Nat) {y:Str} {py:Pos} (hN:X.N.Nodup) (hc:X.calm = true) (ET:X.pn = []) (B:pq X N scope cl k bx) (hi:PI X tg iter (tI X E it)) (hg:∀ C fp s H,PG (o? X N scope cl C fp s H) tg (tA (W0 X) a)) (Gs:∀ C fp s H,xV (o? X N scope cl C fp s H) ifs (tG (W0 X) E0 RB c))
  (he:∀ C fp s H,PE (o? X N scope cl C fp s H) elt (tG (W0 X) E0 (Rl X.K) e)) (hy:X.N[i]? = some y:=by rfl) (hx:Loc X.env.scope y:=by first | exact Or.inl rfl | exact Or.inr rfl) (N2:swapsWith (.ListComp elt [⟨tg,iter,ifs,0⟩] scope pos) (some (.Name y py)) zY.line X.env = pure true:=by rfl)
  (hs:∀ x,foldedSetIterable iter X.env x = pure x:=by intro _; rfl) (hf:X.fn y = true ∨ X.env.scope.names.lookup y = some .local:=by first | exact .inl rfl | exact .inr rfl | assumption) :
  PS X (.Assign [.Name y py] (.ListComp elt [⟨tg,iter,ifs,0⟩] scope pos) zY) (tS X E (aU i (dX k bx it a c e))) :=
 PS.imp (L2.vd hN hy hx hc B hi hg Gs he N2 hs hf) fun _ _ _ h => p? ET (tu h)
theorem Di {C fp s H}:xV (o? X N scope cl C fp s H) [] (tG (W0 X) E0 RB cO):=by
 intro af s' σ H' Q I q
 refine CL af s' σ H' Q I ?_
 obtain ⟨μ,ρ,st,rs,sr,h⟩:=q
 exact h ρ H' true (aN.refl _ _) sr rfl
theorem Dj {cc:Expr} {C fp s H} (h:PT (o? X N scope cl C fp s H) cc (tG (W0 X) E0 RB c)):xV (o? X N scope cl C fp s H) [cc] (tG (W0 X) E0 RB c):=CM h
theorem KL {P:Program} {w:World} {C fp s H}:Passes (jR P w) (o? X N scope cl C fp s H) E0:=by
 rintro af σ H' s' e s2 I ⟨ea,cls,H2,_,_,q⟩
 exact q.elim
end
noncomputable abbrev FM:=ah → List ah → ag → cn ah
noncomputable def I_ (W:Wo) (E:XK) (f:FM):V → List V → Hp → VK → Prop:=fun x xs H Q => ∃ ρ st u us,SR W.K ρ st H ∧ Rl W.K ρ H u x ∧ bt W.K ρ H us xs ∧ wR W E (Rl W.K) ρ H Q (f u us st)
noncomputable def lZ (st:ag):ah → Bool
 | .loc n => match st[n]? with
  | some (.lst _) => true
  | _ => false
 | _ => false
noncomputable def kD (f:FM) (o:ME) (a:MA):ME:=fun μ st => (o μ st).bind fun x st1 => if lZ st1 x = true then (a μ st1).bind fun xs bS => f x xs bS else .bad
noncomputable def ic:FM
 | .loc n,[v],st => match st[n]? with
  | some (.lst us) => if us.length < sizeLine then .ok .dA (st.set n (.lst (us ++ [v]))) else .bad
  | _ => .bad
 | _,_,_ => .bad
section
variable {X:Cx} {E:XK} {o e:Expr} {es:List Expr} {mo:ME} {ms:MA} {apos bZ:Pos} {f:FM}
theorem sW.imp {id:String} {r r':V → List V → Hp → VK → Prop} (h:sW X id r) (k:∀ x xs H Q,r' x xs H Q → r x xs H Q):sW X id r':=fun af s σ H x xs v us Q I rx rs q => h af s σ H x xs v us Q I rx rs (k x xs H Q q)
theorem qW {K:PySem.W.Frag} {ρ:List Addr} {st:ag} {H:Hp} {n:Nat} {us My:List ah} {a:Addr} {vs G_:List V} (sr:SR K ρ st H) (h:st[n]? = some (.lst us)) (ha:ρ[n]? = some a) (hH:H a = some (.lst vs)) (r:bt K ρ H My G_) :
  aN ρ H ρ (upd H a (.lst G_)) ∧ SR K ρ (st.set n (.lst My)) (upd H a (.lst G_)):=by
 have e:aN ρ H ρ (upd H a (.lst G_)):=aN.put hH (fun _ z => by cases z) (fun _ _ z => by cases z)
 exact ⟨e,sr.set h rfl rfl ha hH (fun _ z => by cases z) (fun _ _ z => by cases z) ⟨G_,cm,bt.mono e _ _ r⟩⟩
theorem vo:sW X "list.append" (I_ (wo X) E ic):=by
 refine sW.imp xP ?_
 rintro x xs H Q ⟨ρ,st,u,us,sr,r1,r2,h⟩
 unfold ic at h
 split at h
 ·rename_i n v
  obtain ⟨a,rfl,ha⟩:=r1.dF
  obtain ⟨y,rfl,ry⟩:=r2.tj
  split at h
  ·rename_i ws hw
   split at h
   ·rename_i hz
    obtain ⟨vs,hH,rv⟩:=sr.cell n _ a hw ha
    refine ⟨a,vs,y,rfl,rfl,hH,by rw [← rv.length]; exact hz,?_⟩
    obtain ⟨k1,k2⟩:=qW sr hw ha hH (rv.append (bt.one ry))
    exact h ρ _ _ k1 k2 Rl.wD
   ·exact h.elim
  ·exact h.elim
 ·exact h.elim
theorem tD {K:PySem.W.Frag} {ρ:List Addr} {st:ag} {H:Hp} {u:ah} {x:V} (sr:SR K ρ st H) (r:Rl K ρ H u x) (h:lZ st u = true):Me K "list" x H:=by
 cases u with
 | loc n =>
  obtain ⟨a,rfl,ha⟩:=r.dF
  obtain ⟨c,hc,kc⟩:=sr.there ha
  simp only [lZ,hc] at h
  cases c with
  | lst us => obtain ⟨vs,h1,_⟩:=kc; exact .inl ⟨rfl,vs,iG.of h1⟩
  | _ => cases h
 | _ => cases h
theorem vp {name:Str} {id:String} (slot:Slot "list" name id) (CB:typeOf (.builtin id) = pure (.type "method_descriptor")) (hm:sW X id (I_ (wo X) E f)) (ho:PE X o (tE X E mo)) (ha:PA X (e :: es) (tL X E ms))
  (fM:attributeBase o name X.env (eval o X.env) = eval o X.env:=by rfl)
  (qN:((backTo bZ (starEach (e :: es) X.env)).all (fun x => !x.1) && (backToKw bZ (keywordEach [] X.env)).all (fun x => x.1.isSome)
   && decide ((e :: es).length + ([]:List Keyword).length + (if ([]:List Keyword).isEmpty then 0 else 1) < 30)) = true:=by rfl)
  (fN:(apos.endLine == bZ.line) = true:=by rfl) (hs:starEach (e :: es) X.env = (false,eval e X.env) :: starEach es X.env:=by rfl) (g?:(backTo bZ (starEach es X.env)).any (·.1) = false:=by rfl) :
  PE X (.Call (.Attribute o name apos) (e :: es) [] bZ) (tE X E (kD f mo ms)):=by
 refine PE.imp (J3 PySem.F.plainAttrs_list slot CB hm ho ha fM qN fN hs g?) ?_
 rintro σ H Q ⟨μ,ρ,st,rs,sr,h⟩
 refine go μ ρ st rs sr h fun u st1 ρ1 H1 x e1 bT r1 h1 => ?_
 split at h1
 ·rename_i hz
  refine ⟨tD bT r1 hz,?_⟩
  refine go (R1:=bt X.K) μ ρ1 st1 (rs.mono e1) bT h1 fun us bS ρ2 H2 xs e2 lY r2 h2 => ?_
  exact ⟨ρ2,bS,u,us,lY,Rl.mono e2 _ _ r1,r2,h2⟩
 ·exact h1.elim
end
end MN
namespace MN
open PySem PySem.Spec L2
open PyProof.Rows hiding St
noncomputable def I! {α β:Type} (W:Wo) (R:List Addr → Hp → α → β → Prop) (ρ:List Addr) (H:Hp) (Q:β → Hp → Prop) (EX:EH):cn α → Prop
 | .ok u aC => ∀ ρ' H' v,aN ρ H ρ' H' → SR W.K ρ' aC H' → R ρ' H' u v → Q v H'
 | .err c aC => ∃ C,W.mg c = some (.ref C) ∧ ∀ ρ' H' ea,aN ρ H ρ' H' → SR W.K ρ' aC H' → EX (.ref C) ea H'
 | .bad => False
theorem I!.mono {α β:Type} {W:Wo} {R:List Addr → Hp → α → β → Prop} {ρ ρ':List Addr} {H H':Hp} {Q:β → Hp → Prop} {EX:EH} {r:cn α} (h:I! W R ρ H Q EX r) (e:aN ρ H ρ' H'):I! W R ρ' H' Q EX r:=by
 cases r with
 | ok u st => exact fun ρ2 H2 v e2 s r => h ρ2 H2 v (e.trans e2) s r
 | err c st => obtain ⟨C,h1,h2⟩:=h; exact ⟨C,h1,fun ρ2 H2 ea e2 s => h2 ρ2 H2 ea (e.trans e2) s⟩
 | bad => exact h
noncomputable def MC (X:Cx) (m:ME):Ks:=fun σ H Q EX => ∃ μ ρ st,RS (wo X) ρ H μ σ ∧ SR X.K ρ st H ∧ I! (wo X) (Rl X.K) ρ H Q EX (m μ st)
noncomputable def Dk (W:Wo) (ρ:List Addr) (H:Hp) (D:Ends) (EX:EK):bN → Prop
 | .nx μ st => ∀ ρ' H' σ',aN ρ H ρ' H' → SR W.K ρ' st H' → RS W ρ' H' μ σ' → D.nx σ' H'
 | .rt v st => ∀ ρ' H' x,aN ρ H ρ' H' → SR W.K ρ' st H' → Rl W.K ρ' H' v x → D.rt x H'
 | .bk μ st => ∀ ρ' H' σ',aN ρ H ρ' H' → SR W.K ρ' st H' → RS W ρ' H' μ σ' → D.bk σ' H'
 | .ct μ st => ∀ ρ' H' σ',aN ρ H ρ' H' → SR W.K ρ' st H' → RS W ρ' H' μ σ' → D.ct σ' H'
 | .er c μ st => ∃ C,W.mg c = some (.ref C) ∧ ∀ ρ' H' σ' ea,aN ρ H ρ' H' → SR W.K ρ' st H' → RS W ρ' H' μ σ' → EX (.ref C) ea σ' H'
 | .bad => False
theorem Dk.mono {W:Wo} {ρ ρ':List Addr} {H H':Hp} {D:Ends} {EX:EK} {r:bN} (h:Dk W ρ H D EX r) (e:aN ρ H ρ' H'):Dk W ρ' H' D EX r:=by
 cases r with
 | nx μ st => exact fun ρ2 H2 σ2 e2 s r => h ρ2 H2 σ2 (e.trans e2) s r
 | rt v st => exact fun ρ2 H2 x e2 s r => h ρ2 H2 x (e.trans e2) s r
 | bk μ st => exact fun ρ2 H2 σ2 e2 s r => h ρ2 H2 σ2 (e.trans e2) s r
 | ct μ st => exact fun ρ2 H2 σ2 e2 s r => h ρ2 H2 σ2 (e.trans e2) s r
 | er c μ st => obtain ⟨C,h1,h2⟩:=h; exact ⟨C,h1,fun ρ2 H2 σ2 ea e2 s r => h2 ρ2 H2 σ2 ea (e.trans e2) s r⟩
 | bad => exact h
noncomputable def I? (X:Cx) (m:MB):GA:=fun D EX σ H => ∃ μ ρ st,RS (wo X) ρ H μ σ ∧ SR X.K ρ st H ∧ Dk (wo X) ρ H D EX (m μ st)
noncomputable def Ja {α:Type} (m:Env → ag → cn α):Env → ag → cn α:=fun μ st => match m μ st with
 | .ok v aC => .ok v aC
 | .err _ _ => .bad
 | .bad => .bad
section
variable {X:Cx} {pos p:Pos} {e:Expr} {es:List Expr} {m:ME} {ms:MA} {f:FN} {x:Str}
theorem B5.imp {t t':Ks} (h:B5 X e t) (k:∀ σ H Q EX,t' σ H Q EX → t σ H Q EX):B5 X e t':=fun af s σ H Q EX I q => h af s σ H Q EX I (k σ H Q EX q)
theorem CY.imp {st:Stmt} {t t':GA} (h:CY X st t) (k:∀ D EX σ H,t' D EX σ H → t D EX σ H):CY X st t':=fun af s σ H D EX I q => h af s σ H D EX I (k D EX σ H q)
theorem AA {k:Nat} {fa:Addr} {fd:FuncData} {ps:List Str} (F:iL X.prog X.w X.K X.mg X.base (jR X.prog X.w) k fa fd ps (GY ⟨X.K,X.mg,[]⟩ f)) (hr:eZ k X.A) (hg:Gl X x) (hm:X.mg x = some (.ref fa)) (hk:PySem.W.keepIn X.K (.ref fa) = true) (hb:Binds X.K fd ps []) (zx:∀ y,X.fn y = true) (ha:∀ W,PA (X.nu W) (e :: es) (tL X E0 ms))
  (pf:(x == ("__debug__":Str)) = false:=by decide) (he:starEach (e :: es) X.env = (false,eval e X.env) :: starEach es X.env:=by rfl) (iH:(backTo pos (starEach es X.env)).any (·.1) = false:=by rfl) :
  B5 X (.Call (.Name x p) (e :: es) [] pos) (MC X (ao f (Ja ms))):=by
 refine B5.imp (Aa F hr hg hm hk hb zx ha pf he iH) ?_
 rintro σ H Q EX ⟨μ,ρ,st,rs,sr,h⟩
 refine ⟨μ,ρ,st,rs,sr,?_⟩
 unfold ao Ja at h
 cases z:ms μ st with
 | ok us st1 =>
  rw [z] at h
  intro ρ1 H1 vs e1 bT r1
  refine ⟨us,ρ1,st1,r1,bT,?_⟩
  have h':I! (wo X) (Rl X.K) ρ1 H1 Q EX (f us st1):=I!.mono h e1
  revert h'
  cases f us st1 with
  | ok u bS => exact fun q => q
  | err c bS => exact fun ⟨C,q1,q2⟩ => ⟨C,q1,fun ρ2 H2 e2 s2 ea => q2 ρ2 H2 ea e2 s2⟩
  | bad => exact fun q => q
 | err c aC => rw [z] at h; exact h.elim
 | bad => rw [z] at h; exact h
theorem Hh {σ:L2.St} {H:Hp} {D:Ends} {EX:EK} {k:ah → ag → bN} {μ:Env} {ρ:List Addr} {st:ag} (rs:RS (wo X) ρ H μ σ) (sr:SR X.K ρ st H) (h:Dk (wo X) ρ H D EX ((m μ st).sb μ k)) {Q:VK}
  (c:∀ u st1 ρ1 H1 x,aN ρ H ρ1 H1 → SR X.K ρ1 st1 H1 → Rl X.K ρ1 H1 u x → Dk (wo X) ρ1 H1 D EX (k u st1) → Q x H1):MC X m σ H Q fun cls ea H' => EX cls ea σ H':=by
 refine ⟨μ,ρ,st,rs,sr,?_⟩
 cases z:m μ st with
 | ok u st1 => rw [z] at h; exact fun ρ1 H1 x e1 bT r1 => c u st1 ρ1 H1 x e1 bT r1 (Dk.mono h e1)
 | err c' st1 => rw [z] at h; obtain ⟨C,q1,q2⟩:=h; exact ⟨C,q1,fun ρ2 H2 ea e2 s2 => q2 ρ2 H2 σ ea e2 s2 (rs.mono e2)⟩
 | bad => rw [z] at h; exact h
theorem AB (he:B5 X e (MC X m)) (hs:swapsWith e none pos.line X.env = pure false:=by rfl):CY X (.Expr e pos) (I? X (eh m)):=by
 refine CY.imp (Ab he hs) ?_
 rintro D EX σ H ⟨μ,ρ,st,rs,sr,h⟩
 exact Hh rs sr h fun u st1 ρ1 H1 x e1 bT r1 h1 => h1 ρ1 H1 σ (aN.refl _ _) bT (rs.mono e1)
theorem Dl {s1:Stmt} {a:MB} (h:CY X s1 (I? X a)):x_ X [s1] (I? X a):=Ac h
noncomputable abbrev MH:=Str → MB
noncomputable def KN:MH:=fun _ _ _ => .bad
noncomputable def qX:bN → bN
 | .rt v st => .rt v st
 | _ => .bad
noncomputable def QF (sub:Str → Str → Option Bool) (x:Str) (iy:MB) (rest:MH):MH:=fun c μ st => match sub c x with
 | some true => qX (iy μ st)
 | some false => rest c μ st
 | none => .bad
noncomputable def Jb (sub:Str → Str → Option Bool) (x:Str) (i:Nat) (iy:MB) (rest:MH):MH:=fun c μ st => match sub c x with
 | some true => qX (iy (μ.set i (some (.exc c))) st)
 | some false => rest c μ st
 | none => .bad
noncomputable def vq (kn:Str → Bool) (body:MB) (h:MH):MB:=fun μ st => match body μ st with
 | .er c μ' aC => if kn c = true then h c μ' aC else .bad
 | .nx μ' aC => .nx μ' aC
 | .rt v aC => .rt v aC
 | .bk μ' aC => .bk μ' aC
 | .ct μ' aC => .ct μ' aC
 | .bad => .bad
noncomputable def Hi (X:Cx) (h:MH):CZ:=fun D EX cls ea σ H => ∃ c C μ ρ st,X.mg c = some (.ref C) ∧ cls = .ref C ∧ RS (wo X) ρ H μ σ ∧ SR X.K ρ st H ∧ Dk (wo X) ρ H D EX (h c μ st)
theorem PH.imp {hs:List ExceptHandler} {t t':CZ} (h:PH X hs t) (k:∀ D EX cls ea σ H,t' D EX cls ea σ H → t D EX cls ea σ H):PH X hs t':=fun af s σ H D EX ea cls J q => h af s σ H D EX ea cls J (k D EX cls ea σ H q)
theorem Hj:PH X [] (Hi X KN):=PH.imp GD fun D EX cls ea σ H q => by
 obtain ⟨c,C,μ,ρ,st,_,_,_,_,h⟩:=q
 exact h
noncomputable def KO (K:PySem.W.Frag) (mg:Str → Option Value) (sub:Str → Str → Option Bool):Prop:=∀ c x b C D,sub c x = some b → mg c = some (.ref C) → mg x = some (.ref D) → PySem.W.kitCls K (.ref C) (.ref D) = some b
theorem wF.pn {K:PySem.W.Frag} {mg:Str → Option Value} {pn GJ:List (Addr × Obj)} (hp:∀ q ∈ pn,q ∈ GJ) {ρ:List Addr} {H:Hp} {u:ah} {v:V} (h:wF ⟨K,mg,pn⟩ ρ H u v):wF ⟨K,mg,GJ⟩ ρ H u v:=by
 cases u with
 | exc c => obtain ⟨a,oe,C,h1,h2,h3⟩:=h; exact ⟨a,oe,C,h1,hp _ h2,h3⟩
 | _ => exact h
theorem RS.pn {K:PySem.W.Frag} {mg:Str → Option Value} {pn GJ:List (Addr × Obj)} (hp:∀ q ∈ pn,q ∈ GJ) {ρ:List Addr} {H:Hp} {μ:Env} {σ:L2.St} (h:RS ⟨K,mg,pn⟩ ρ H μ σ):RS ⟨K,mg,GJ⟩ ρ H μ σ :=
 ⟨h.len,fun i u e => let ⟨v,h1,h2⟩:=h.at_ i u e; ⟨v,h1,h2.pn hp⟩⟩
theorem KP {n:Str} {i:Nat} {C:Addr} {np:Pos} {b₀:Stmt} {iy:List Stmt} {rest:List ExceptHandler} {sub:Str → Str → Option Bool} {s:MB} {r:MH} (hS:KO X.K X.mg sub) (hN:X.N.Nodup) (hi:X.N[i]? = some n) (hl:X.env.scope.names.lookup n = some .local) (hg:Gl X x) (hm:X.mg x = some (.ref C))
  (hB:PySem.W.subIn X.K (.ref C) (.type "BaseException") = some true) (hs:∀ ea oe,iJ (L2.vg X ea oe) (b₀ :: iy) (tS (L2.vg X ea oe) E0 s)) (hr:PH X rest (Hi X r)) (hd:(x == ("__debug__":Str)) = false:=by decide) :
  PH X (.ExceptHandler (some (.Name x np)) (some n) (b₀ :: iy) pos :: rest) (Hi X (Jb sub x i s r)):=by
 refine PH.imp (Kt hN hi hl hg hm hB hs hr hd) ?_
 rintro D EX cls ea σ H ⟨c,C',μ,ρ,st,h1,rfl,rs,sr,h⟩
 unfold Jb at h
 split at h
 ·rename_i e
  refine ⟨true,hS c x true C' C e h1 hm,?_⟩
  rw [if_pos rfl]
  intro oe CT
  have wO:RS (wo (L2.vg X ea oe)) ρ H (μ.set i (some (.exc c))) (σ.set i (some (.ref ea))) :=
   (RS.pn (fun q hq => List.mem_cons_of_mem _ hq) rs).Kx i ⟨ea,oe,C',rfl,List.mem_cons_self,h1,CT⟩
  refine ⟨_,ρ,st,wO,sr,?_⟩
  revert h
  cases s (μ.set i (some (.exc c))) st with
  | rt v aC => exact fun q => q
  | _ => exact fun q => q.elim
 ·rename_i e
  refine ⟨false,hS c x false C' C e h1 hm,?_⟩
  rw [if_neg Bool.false_ne_true]
  exact ⟨c,C',μ,ρ,st,h1,rfl,rs,sr,h⟩
 ·exact h.elim
noncomputable def Known (mg:Str → Option Value) (kn:Str → Bool):Prop:=∀ c,kn c = true → ∃ C,mg c = some (.ref C)
theorem AD {kn:Str → Bool} {b:MB} {h:MH} (hk:Known X.mg kn) {D:Ends} {EX:EK} {σ:L2.St} {H:Hp} (q:I? X (vq kn b h) D EX σ H):I? X b D (fun cls ea σ' H' => Hi X h D EX cls ea σ' H') σ H:=by
 obtain ⟨μ,ρ,st,rs,sr,q⟩:=q
 refine ⟨μ,ρ,st,rs,sr,?_⟩
 unfold vq at q
 cases z:b μ st with
 | er c μ' aC =>
  rw [z] at q
  dsimp only at q
  split at q
  ·rename_i hc
   obtain ⟨C,hC⟩:=hk c hc
   exact ⟨C,hC,fun ρ' H' σ' ea e s r => ⟨c,C,μ',ρ',aC,hC,rfl,r,s,Dk.mono q e⟩⟩
  ·exact q.elim
 | _ => rw [z] at q; exact q
noncomputable def tF (m:MB):MB:=fun μ st => match m μ st with
 | .er _ _ _ => .bad
 | .nx μ' aC => .nx μ' aC
 | .rt v aC => .rt v aC
 | .bk μ' aC => .bk μ' aC
 | .ct μ' aC => .ct μ' aC
 | .bad => .bad
theorem Hk {E:XK} {kn:Str → Bool} {body:List Stmt} {h₀:ExceptHandler} {hs:List ExceptHandler} {b:MB} {h:MH} (hk:Known X.mg kn) (dx:DefX X) (hb:x_ X body (I? X b)) (hh:PH X (h₀ :: hs) (Hi X h)):PS X (.Try body (h₀ :: hs) [] [] pos) (tS X E (tF (vq kn b h))):=by
 refine PS.imp (GF dx hb hh) ?_
 rintro D σ H ⟨μ,ρ,st,rs,sr,q⟩
 refine AD (EX:=fun _ _ _ _ => False) hk ⟨μ,ρ,st,rs,sr,?_⟩
 unfold tF at q
 revert q
 cases vq kn b h μ st with
 | er c μ' aC => exact fun q => q.elim
 | _ => exact fun q => q
noncomputable def vt (sub:Str → Str → Option Bool) (i:Nat) (x:Str):ME:=fun μ st => match μ[i]? with
 | some (some (.exc c)) => (match sub c x with
  | some true => .ok (.bl true) st
  | _ => .bad)
 | _ => .bad
inductive ClsAt (X:Cx) (x:Str):Value → V → Prop
 | own {C:Addr} (hm:X.mg x = some (.ref C)):ClsAt X x (.ref C) (.ref C)
 | blt {n:String} (hm:X.mg x = none) (hv:bootBuiltins x = some (.type n)) (hn:x ≠ "__name__"):ClsAt X x (.type n) (.ty n)
noncomputable def KQ (K:PySem.W.Frag) (mg:Str → Option Value) (sub:Str → Str → Option Bool) (x:Str) (cv:Value):Prop:=∀ c C,sub c x = some true → mg c = some (.ref C) → PySem.W.kitOne K (.ref C) cv = some true
theorem Hl {E:XK} {sub:Str → Str → Option Bool} {i:Nat} {n:Str} {cv:Value} {v:V} {q1 q2:Pos} (hc:ClsAt X x cv v) (hS:KQ X.K X.mg sub x cv) (hg:Gl X "isinstance") (hm:X.mg "isinstance" = none) (Jc:Gl X x)
  (hN:X.N[i]? = some n) (hv:BY X.env.scope n) (hd:(n == ("__debug__":Str)) = false) (nr:(n == ("__classdict__":Str)) = false) (Jd:(x == ("__debug__":Str)) = false)
  (hs:starEach [.Name n q1,.Name x q2] X.env = (false,eval (.Name n q1) X.env) :: starEach [.Name x q2] X.env:=by rfl) (gz:starEach [.Name x q2] X.env = (false,eval (.Name x q2) X.env) :: starEach [] X.env:=by rfl)
  (iH:(backTo pos (starEach [.Name x q2] X.env)).any (·.1) = false:=by rfl):PE X (.Call (.Name "isinstance" p) [.Name n q1,.Name x q2] [] pos) (tE X E (vt sub i x)):=by
 have hx:PE X (.Name x q2) (tC v):=by
  cases hc with
  | own h => exact qy Jc h rfl Jd
  | blt h1 h2 h3 => exact wm Jc h1 h2 rfl h3 Jd
 refine PE.imp (jP qT hg hm PyProof.Rows.boot_isinstance (gq (qw (i:=i) hN hv hd nr) (gq hx nC gz) hs) (by decide) (by decide) hs iH) ?_
 rintro σ H Q ⟨μ,ρ,st,rs,sr,h⟩
 unfold vt at h
 split at h
 ·rename_i c e
  split at h
  ·rename_i es
   obtain ⟨w,e',a,oe,C,rfl,hp,hC,ho⟩:=rs.at_ i _ e
   have hk:=hS c C es hC
   rw [← ho] at hk
   cases hc with
   | own h' => exact ⟨_,e',a,oe,_,.inl ⟨rfl,hk⟩,hp,iz sr h⟩
   | blt h1 h2 h3 => exact ⟨_,e',a,oe,0,.inr ⟨_,rfl,hk⟩,hp,iz sr h⟩
  ·exact h.elim
 ·exact h.elim
end
end MN
namespace MN
open PySem PySem.Spec L2
open PyProof.Rows hiding St
inductive fb (X:Cx) (scope:Scope):List (Str × Addr) → List Nat → Prop
 | nil:fb X scope [] []
 | cons {y:Str} {c:Addr} {j:Nat} {cl:List (Str × Addr)} {bx:List Nat} (sub:X.env.cells.lookup y = some c) (hX:X.N[j]? = some y) (hk:X.env.kindOf y = some .cell ∨ X.env.kindOf y = some .free)
   (hr:(relabel scope X.env).names.lookup y = some .cell ∨ (relabel scope X.env).names.lookup y = some .free) (r:fb X scope cl bx):fb X scope ((y,c) :: cl) (j :: bx)
theorem fb.sub {X:Cx} {scope:Scope} {cl:List (Str × Addr)} {bx:List Nat} (A:fb X scope cl bx):∀ x c,cl.lookup x = some c → X.env.cells.lookup x = some c:=by
 induction A with
 | nil => intro x c h; cases h
 | @cons y c0 _ _ _ sub _ _ _ _ ih =>
  intro x c h
  rw [List.lookup_cons] at h
  by_cases e:x = y
  ·rw [beq_iff_eq.mpr e] at h
   rw [e]; exact sub.trans h
  ·rw [beq_eq_false_iff_ne.mpr e] at h
   exact ih x c h
theorem fb.at_ {X:Cx} {scope:Scope} {cl:List (Str × Addr)} {bx:List Nat} (A:fb X scope cl bx):∀ (i j:Nat) (x:Str),bx[i]? = some j → (cl.map (·.1))[i]? = some x →
  X.N[j]? = some x ∧ (X.env.kindOf x = some .cell ∨ X.env.kindOf x = some .free) ∧ ((relabel scope X.env).names.lookup x = some .cell ∨ (relabel scope X.env).names.lookup x = some .free):=by
 induction A with
 | nil => intro i j x h; cases h
 | cons _ hX hk hr _ ih =>
  intro i j x h h2
  cases i with
  | zero => cases h; cases h2; exact ⟨hX,hk,hr⟩
  | succ i => exact ih i j x h h2
theorem gE:∀ {cl:List (Str × Addr)} {x:Str},x ∈ cl.map (·.1) → ∃ c,cl.lookup x = some c
 | [],x,h => by simp at h
 | (y,c) :: cl,x,h => by
  by_cases e:x = y
  ·exact ⟨c,by simp [e]⟩
  ·have e':(x == y) = false:=by simpa using e
   rw [List.map_cons,List.mem_cons] at h
   rcases h with h | h
   ·exact absurd h e
   ·obtain ⟨d,hd⟩:=gE h
    exact ⟨d,by simp only [List.lookup_cons,e']; exact hd⟩
theorem KR {X:Cx} {N:List Str} {scope:Scope} {k:Nat} {cl:List (Str × Addr)} {bx:List Nat} (mq:closureFor scope X.env = pure cl) (A:fb X scope cl bx) (has:((relabel scope X.env).names.all fun p => !(p.2 == .cell || p.2 == .free) || (cl.map (·.1)).contains p.1) = true)
  (fO:(scope.names.all fun p => !(p.2 == .cell)) = true) (kind:scope.kind = .function) (names:(scope.names.all fun p => !(p.2 == .local) || scope.names.lookup p.1 == some .local) = true) (len:N.length = k + bx.length) (hN:N.drop k = cl.map (·.1)):pq X N scope cl k bx where
 mq:=mq
 sub:=A.sub
 has:=fun x h => by
  have m:x ∈ cl.map (·.1):=by
   rcases h with h | h <;> (have m:=PySem.mem_of_lookup h; have z:=List.all_eq_true.mp has _ m; simpa using z)
  exact gE m
 fO:=fun x hx h => by
  have z:=List.all_eq_true.mp fO x hx
  simp [h] at z
 kind:=kind
 names:=fun x hx h => by
  have z:=List.all_eq_true.mp names x hx
  simpa [h] using z
 len:=len
 at_:=fun i j x h1 h2 => A.at_ i j x h1 (by rw [← hN,List.getElem?_drop]; exact h2)
noncomputable def FnAt (P:Program) (w:World) (K:PySem.W.Frag) (mg:Str → Option Value) (base:Heap) (x:Str) (k:Nat) (f:FN):Prop :=
 ∃ fa fd ps,iL P w K mg base (jR P w) k fa fd ps (GY ⟨K,mg,[]⟩ f) ∧ mg x = some (.ref fa) ∧ PySem.W.keepIn K (.ref fa) = true ∧ Binds K fd ps []
section
variable {X:Cx} {E:XK} {pos p:Pos} {e:Expr} {es:List Expr} {ms:MA} {f:FN} {x:Str} {k j:Nat}
theorem KS (G:FnAt X.prog X.w X.K X.mg X.base x k f) (hr:eZ j X.A) (hk:k ≤ j) (hg:Gl X x) (hx:Passes (jR X.prog X.w) X E) (ha:PA X (e :: es) (tL X E ms)) (pf:(x == ("__debug__":Str)) = false:=by decide)
  (he:starEach (e :: es) X.env = (false,eval e X.env) :: starEach es X.env:=by rfl) (iH:(backTo pos (starEach es X.env)).any (·.1) = false:=by rfl):PE X (.Call (.Name x p) (e :: es) [] pos) (tE X E (ao f ms)):=by
 obtain ⟨fa,fd,ps,F,hm,kp,b⟩:=G
 exact C7 F (hr.mono hk) hg hm kp b hx ha pf he iH
theorem Hm (G:FnAt X.prog X.w X.K X.mg X.base x k f) (hr:eZ j X.A) (hk:k ≤ j) (hg:Gl X x) (zx:∀ y,X.fn y = true) (ha:∀ W,PA (X.nu W) (e :: es) (tL X E0 ms)) (pf:(x == ("__debug__":Str)) = false:=by decide)
  (he:starEach (e :: es) X.env = (false,eval e X.env) :: starEach es X.env:=by rfl) (iH:(backTo pos (starEach es X.env)).any (·.1) = false:=by rfl):B5 X (.Call (.Name x p) (e :: es) [] pos) (MC X (ao f (Ja ms))):=by
 obtain ⟨fa,fd,ps,F,hm,kp,b⟩:=G
 exact AA F (hr.mono hk) hg hm kp b zx ha pf he iH
end
section
variable {P:Program} {w:World} {K:PySem.W.Frag} {mg:Str → Option Value} {base:Heap}
theorem FnAt.mk {x:Str} {st:Stmt} {f:Addr} {fd:FuncData} {N ps:List Str} {k:Nat} {body:MB} (F:B4 K x x st f fd) (hm:mg x = some (.ref f)) (S:d! N ps (a_ st))
  (hb:∀ (kV doc pm:Value) (an:Option Addr) (dW ct:Value) (us:List Value),us.length = ps.length → bindArgs (PySem.W.fnOf x x (ff st) (dj st) (a_ st) .none kV doc pm an dW ct) ⟨us,[]⟩ = pure (ps.zip us))
  (h:∀ (dW:Value) (A:Around) (outer:List PySem.Env) (s:Shared) (H:Hp) (E:XK),eZ k (A.deeper (envOfC x (a_ st) s.heap.objs.size f dW)) →
   iJ (gA (jR P w) P w K mg base N x (a_ st) f dW A outer s H E) (dj st) (tS (gA (jR P w) P w K mg base N x (a_ st) f dW A outer s H E) E body)):FnAt P w K mg base x (k + 1) (fB ps.length N.length body) :=
 ⟨f,fd,ps,Al F S h,hm,F.kp,F.binds hb⟩
theorem tH {N:List Str} {qual:Str} {scope:Scope} {f:Addr} {cd:Value} {A:Around} {outer:List PySem.Env} {s₀:Shared} {H₀:Hp} {E:XK}:PassesOwn (model P w) (A.deeper (envOfC qual scope s₀.heap.objs.size f cd)) (envOfC qual scope s₀.heap.objs.size f cd) (gA (jR P w) P w K mg base N qual scope f cd A outer s₀ H₀ E).xe :=
 PassesOwn.leaving
theorem vy {N:List Str} {qual:Str} {scope:Scope} {f:Addr} {cd:Value} {A:Around} {outer:List PySem.Env} {s₀:Shared} {H₀:Hp} {E:XK}:Raises (gA (jR P w) P w K mg base N qual scope f cd A outer s₀ H₀ E) E :=
 fun af σ H s h' e cls vs I hx hE => xX I hx hE
theorem Glob.int {x:Str} {i:Int} {t:Tok} (h:mg x = some (.int i t)):Glob K mg x (.int i):=⟨_,.int i,h,⟨t,rfl⟩,fun _ _ => Rl.mkInt i⟩
theorem Glob.ints {x:Str} {a:Addr} {o:Obj} {aO:Array Value} {n:Nat} {ns:List Int} (h:mg x = some (.ref a)) (l:K.lookup a = some o) (hc:o.cls = .type "tuple") (hd:o.data = .seq aO n) (hz:aO.size ≤ sizeLine) (hv:bo (ns.map V.int) aO.toList):Glob K mg x (.mt (ns.map .int)) :=
 ⟨_,.ref a,h,rfl,fun ρ H => Rl.Of (.inr ⟨o,aO,n,l,hc,hd,hz,hv⟩) (bt.ints ns)⟩
noncomputable def wU (K:PySem.W.Frag):Sp:=fun vs H Q _ => ∃ (a:Addr) (ns:List Int),vs = [.ref a] ∧ CF H ∧ iG K H a (ns.map V.int) ∧ ns.length ≤ 63 ∧ ∀ H',Q (.bl true) H'
theorem Hn {H:Hp} {a:Addr} {c:aQ} (k:fP K [a] H c a):SR K [a] [c] H:=by
 refine ⟨rfl,fun n m b h1 h2 _ _ => ?_,fun n c' b h1 h2 => ?_⟩
 ·have p1:=bJ h1
  have p2:=bJ h2
  simp at p1 p2
  lia
 ·have p1:=bJ h1
  simp at p1
  subst p1
  cases h1
  cases h2
  exact k
theorem Ho {f:FN} (hf:∀ (c:aQ) (ns:List Int),ns.length ≤ 63 → ak [c] 0 = some (ns.map ah.int) → ∃ aC,f [.loc 0] [c] = .ok (.bl true) aC) {vs:List V} {H:Hp} {Q:VK} {E:XK} (h:wU K vs H Q E):GY ⟨K,mg,[]⟩ f vs H Q E:=by
 obtain ⟨a,ns,rfl,hO,hS,hl,q⟩:=h
 have fin:∀ c:aQ,fP K [a] H c a → ak [c] 0 = some (ns.map ah.int) → GY ⟨K,mg,[]⟩ f [.ref a] H Q E:=by
  intro c k hi
  obtain ⟨aC,e⟩:=hf c ns hl hi
  refine ⟨[.loc 0],[a],[c],bt.one (Rl.Ag rfl),Hn k,?_⟩
  rw [e]
  intro ρ' H' v _ _ r
  rw [r.sI]
  exact q H'
 rcases hS with (h | ⟨o,h⟩) | h
 ·rcases hO a with z | ⟨o,xs,z⟩ <;> (rw [z] at h; cases h)
 ·exact fin (.GI (ns.map .int)) ⟨o,_,h,bt.ints ns⟩ rfl
 ·exact fin (.mod (ns.map .int)) ⟨_,h,bt.ints ns⟩ rfl
theorem AE {l:PySem.W.OpenLaw} {q:Program} {loose:List Str} {XP:(Str → Option Value) → Heap → Prop} {YP:World → Heap → Prop} {d:DefRec} {K:Params → PySem.W.Frag} {x:Str} {k:Nat} (hn:l.most = some 63) (J8:d.params.defaults = []) (hr:eZ k callerA)
  (hY:∀ (w:World) (h:Heap),YP w h → (K w.params).In h)
  (F:∀ (w:World) (mg:Str → Option Value) (fa:Addr) (h:Heap),(K w.params).In h → h.Ns mainGlobals mg → mg d.name = some (.ref fa) →
   ∃ fd:FuncData,(∀ (s:Shared) (u:Value),BindsTo s fd ⟨[u],[]⟩ [(x,u)]) ∧ ∀ base:Heap,(K w.params).In base → base.Ns mainGlobals mg → iL l.prog w (K w.params) mg base (jR l.prog w) k fa fd [x] (wU (K w.params))) :
  PySem.W.WalkO q loose XP YP l.row.toRowW d [] (fun f vs => PySem.call f vs) :=
 L2.CG (n:=63) (k:=k) (x:=x) (CX:=fun w => jR l.prog w) (sp:=fun w => wU (K w.params)) hn (by decide) J8 hr hY F (fun _ _ a ns hl hO hS => ⟨a,ns,rfl,hO,hS,hl,fun _ => rfl⟩) fun _ _ _ _ _ ⟨_,_,_,_,_,z⟩ => z
end
end MN
namespace MN
open PySem PySem.Spec L2
open PyProof.Rows hiding St
theorem jt:bootBuiltins "ValueError" = some (.type "ValueError"):=by decide +kernel
abbrev QG:List Value:=[.type "ValueError",.type "Exception",.type "BaseException",.type "object"]
noncomputable def AF (K:PySem.W.Frag) (mg:Str → Option Value) (x:Str):Prop:=∃ C,mg x = some (.ref C) ∧ PySem.W.excIn K C QG "ValueError.__new__" = true ∧ PySem.W.subIn K (.ref C) (.type "BaseException") = some true
theorem yo {K:PySem.W.Frag} {D:Addr} {t:Value} {cd:ClassData} {b:Bool} (h1:PySem.W.clsIn K D = some cd) (h2:PySem.W.typeIn K (.ref D) = some (.type "type")) (h3:PySem.W.subIn K t (.ref D) = some b):PySem.W.kitCls K t (.ref D) = some b:=by
 show (if ((PySem.W.clsIn K D).isSome && PySem.W.typeIn K (.ref D) == some (.type "type")) = true then PySem.W.subIn K t (.ref D) else none) = some b
 rw [h1,h2,h3]
 rfl
inductive dY (K:PySem.W.Frag) (mg:Str → Option Value):List (Str × Str × Bool) → Prop
 | nil:dY K mg []
 | own {c x:Str} {b:Bool} {C D:Addr} {r:List (Str × Str × Bool)} (h1:mg c = some (.ref C)) (h2:mg x = some (.ref D)) (h3:PySem.W.kitCls K (.ref C) (.ref D) = some b) (hr:dY K mg r):dY K mg ((c,x,b) :: r)
 | blt {c x:Str} {n:String} {C:Addr} {r:List (Str × Str × Bool)} (h1:mg c = some (.ref C)) (h2:mg x = none) (Dm:bootBuiltins x = some (.type n)) (h3:PySem.W.kitOne K (.ref C) (.type n) = some true) (hr:dY K mg r):dY K mg ((c,x,true) :: r)
noncomputable def dc (tab:List (Str × Str × Bool)) (c x:Str):Option Bool:=match tab with
 | [] => none
 | (c',x',b) :: r => if c' = c ∧ x' = x then some b else dc r c x
section
variable {K:PySem.W.Frag} {mg:Str → Option Value}
theorem dY.KU {tab:List (Str × Str × Bool)} (S:dY K mg tab):KO K mg (dc tab):=by
 induction S with
 | nil => intro c x b C D h; cases h
 | @own c' x' _ _ _ _ h1 h2 h3 _ ih =>
  intro c x b C D h e1 e2
  rw [dc] at h
  by_cases z:c' = c ∧ x' = x
  ·rw [if_pos z] at h
   cases h
   rw [z.1,e1] at h1; cases h1
   rw [z.2,e2] at h2; cases h2
   exact h3
  ·rw [if_neg z] at h
   exact ih c x b C D h e1 e2
 | @blt c' x' _ _ _ h1 h2 _ _ _ ih =>
  intro c x b C D h e1 e2
  rw [dc] at h
  by_cases z:c' = c ∧ x' = x
  ·rw [z.2,e2] at h2; cases h2
  ·rw [if_neg z] at h
   exact ih c x b C D h e1 e2
theorem dY.Oo {tab:List (Str × Str × Bool)} (S:dY K mg tab):∀ (x:Str) (cv:Value),(∃ D,cv = .ref D ∧ mg x = some (.ref D)) ∨ (∃ n,cv = .type n ∧ bootBuiltins x = some (.type n) ∧ mg x = none) → KQ K mg (dc tab) x cv:=by
 induction S with
 | nil => intro x cv _ c C h; cases h
 | @own c' x' _ _ _ _ h1 h2 h3 _ ih =>
  intro x cv hx c C h e1
  rw [dc] at h
  by_cases z:c' = c ∧ x' = x
  ·rw [if_pos z] at h
   cases h
   rw [z.1,e1] at h1; cases h1
   rw [z.2] at h2
   rcases hx with ⟨D,rfl,e2⟩ | ⟨n,rfl,_,e2⟩
   ·rw [h2] at e2; cases e2
    unfold PySem.W.kitOne
    split
    ·rfl
    ·exact h3
   ·rw [h2] at e2; cases e2
  ·rw [if_neg z] at h
   exact ih x cv hx c C h e1
 | @blt c' x' _ _ _ h1 h2 Dm h3 _ ih =>
  intro x cv hx c C h e1
  rw [dc] at h
  by_cases z:c' = c ∧ x' = x
  ·rw [if_pos z] at h
   cases h
   rw [z.1,e1] at h1; cases h1
   rw [z.2] at h2 Dm
   rcases hx with ⟨D,rfl,e2⟩ | ⟨n,rfl,e2,_⟩
   ·rw [h2] at e2; cases e2
   ·rw [Dm] at e2; cases e2; exact h3
  ·rw [if_neg z] at h
   exact ih x cv hx c C h e1
noncomputable def Oq (l:List Str) (c:Str):Bool:=l.contains c
end
section
variable {X:Cx} {E:XK} {pos np bZ p q1 q2:Pos} {x n:Str} {e₀:Expr} {es:List Expr} {ms:MA} {i:Nat} {b₀:Stmt} {iy:List Stmt} {rest:List ExceptHandler} {tab:List (Str × Str × Bool)} {s:MB} {r:MH}
theorem yp (hX:Raises X E) (hc:X.calm = true) (h:AF X.K X.mg x) (hg:Gl X x) (ha:PA X (e₀ :: es) (tL X E ms))
  (he:starEach (e₀ :: es) X.env = (false,eval e₀ X.env) :: starEach es X.env:=by rfl) (iH:(backTo bZ (starEach es X.env)).any (·.1) = false:=by rfl) (hd:(x == ("__debug__":Str)) = false:=by decide) :
  PS X (.Raise (some (.Call (.Name x np) (e₀ :: es) [] bZ)) none pos) (tS X E (gC x ms)):=by
 obtain ⟨C,hm,hq,_⟩:=h
 exact Ak hX hc hm hq PySem.F.excBase_ValueError hg ha he iH hd
theorem Hq (hS:dY X.K X.mg tab) (hN:X.N.Nodup) (h:AF X.K X.mg x) (hg:Gl X x) (hs:∀ ea oe,iJ (L2.vg X ea oe) (b₀ :: iy) (tS (L2.vg X ea oe) E0 s)) (hr:PH X rest (Hi X r)) (hi:X.N[i]? = some n:=by rfl) (hl:X.env.scope.names.lookup n = some .local:=by rfl) (hd:(x == ("__debug__":Str)) = false:=by decide) :
  PH X (.ExceptHandler (some (.Name x np)) (some n) (b₀ :: iy) pos :: rest) (Hi X (Jb (dc tab) x i s r)):=by
 obtain ⟨C,hm,_,hB⟩:=h
 exact KP hS.KU hN hi hl hg hm hB hs hr hd
theorem Dn (i:Nat) {T:String} (hS:dY X.K X.mg tab) (QH:X.mg x = none) (hb:bootBuiltins x = some (.type T)) (hg:Gl X "isinstance") (hm:X.mg "isinstance" = none) (Jc:Gl X x) (hN:X.N[i]? = some n:=by rfl) (hv:BY X.env.scope n:=by first | exact Or.inl rfl | exact Or.inr (Or.inl rfl)) (hn:x ≠ "__name__":=by decide)
  (hd:(n == ("__debug__":Str)) = false:=by decide) (nr:(n == ("__classdict__":Str)) = false:=by decide) (Jd:(x == ("__debug__":Str)) = false:=by decide)
  (hs:starEach [.Name n q1,.Name x q2] X.env = (false,eval (.Name n q1) X.env) :: starEach [.Name x q2] X.env:=by rfl) (gz:starEach [.Name x q2] X.env = (false,eval (.Name x q2) X.env) :: starEach [] X.env:=by rfl)
  (iH:(backTo pos (starEach [.Name x q2] X.env)).any (·.1) = false:=by rfl):PE X (.Call (.Name "isinstance" p) [.Name n q1,.Name x q2] [] pos) (tE X E (vt (dc tab) i x)) :=
 Hl (.blt QH hb hn) (hS.Oo x _ (.inr ⟨T,rfl,hb,QH⟩)) hg hm Jc hN hv hd nr Jd hs gz iH
end
end MN
namespace MN
open PySem PySem.Spec L2
open PyProof.Rows hiding St
section
variable {κ:Type} [DecidableEq κ]
noncomputable def kE (kvs:List (κ × ah)) (k:κ):Option ah:=(kvs.find? fun kv => decide (kv.1 = k)).map (·.2)
noncomputable def n? (kvs:List (κ × ah)) (k:κ) (v:ah):List (κ × ah) :=
 if (kvs.any fun kv => decide (kv.1 = k)) = true then kvs.map (fun kv => if kv.1 = k then (kv.1,v) else kv) else kvs ++ [(k,v)]
variable {K:PySem.W.Frag} {ρ ρ':List Addr} {H H':Hp}
theorem gp.nil:gp K ρ H ([]:List (κ × ah)) []:=⟨rfl,bt.nil⟩
theorem gp.cons {k:κ} {u:ah} {v:V} {kvs:List (κ × ah)} {dO:List (κ × V)} (r:Rl K ρ H u v) (p:gp K ρ H kvs dO):gp K ρ H ((k,u) :: kvs) ((k,v) :: dO) :=
 ⟨by simp only [List.map_cons,p.1],bt.cons r p.2⟩
theorem gp.cC {k:κ} {u:ah} {kvs:List (κ × ah)} {l:List (κ × V)} (p:gp K ρ H ((k,u) :: kvs) l):∃ v dO,l = (k,v) :: dO ∧ Rl K ρ H u v ∧ gp K ρ H kvs dO:=by
 obtain ⟨h1,h2⟩:=p
 cases l with
 | nil => simp at h1
 | cons x l =>
  obtain ⟨k',v⟩:=x
  simp only [List.map_cons,List.cons.injEq] at h1 h2
  obtain ⟨rfl,h1⟩:=h1
  obtain ⟨v',r,e,q1,q2⟩:=h2.cC
  simp only [List.cons.injEq] at e
  obtain ⟨rfl,rfl⟩:=e
  exact ⟨v,l,rfl,q1,h1,q2⟩
theorem gp.eI {l:List (κ × V)} (p:gp K ρ H ([]:List (κ × ah)) l):l = []:=by
 have:=p.1
 cases l with
 | nil => rfl
 | cons => simp at this
theorem gp.mono {kvs:List (κ × ah)} {l:List (κ × V)} (p:gp K ρ H kvs l) (e:aN ρ H ρ' H'):gp K ρ' H' kvs l:=⟨p.1,bt.mono e _ _ p.2⟩
theorem gp.length {kvs:List (κ × ah)} {l:List (κ × V)} (p:gp K ρ H kvs l):kvs.length = l.length:=by
 have:=congrArg List.length p.1
 simpa using this
theorem gp.val (k:κ):∀ {kvs:List (κ × ah)} {l:List (κ × V)},gp K ρ H kvs l → (kE kvs k = none ∧ hJ l k = none) ∨ ∃ u v,kE kvs k = some u ∧ hJ l k = some v ∧ Rl K ρ H u v
 | [],l,p => by rw [p.eI]; exact .inl ⟨rfl,rfl⟩
 | (k',u) :: kvs,l,p => by
  obtain ⟨v,l',rfl,r,p'⟩:=p.cC
  by_cases e:k' = k
  ·exact .inr ⟨u,v,by simp [kE,e],by simp [hJ,e],r⟩
  ·rcases gp.val k p' with ⟨h1,h2⟩ | ⟨u',v',h1,h2,h3⟩
   ·exact .inl ⟨by simpa [kE,e] using h1,by simpa [hJ,e] using h2⟩
   ·exact .inr ⟨u',v',by simpa [kE,e] using h1,by simpa [hJ,e] using h2,h3⟩
theorem gp.any (k:κ):∀ {kvs:List (κ × ah)} {l:List (κ × V)},gp K ρ H kvs l → (kvs.any fun kv => decide (kv.1 = k)) = l.any fun kv => decide (kv.1 = k)
 | [],l,p => by rw [p.eI]; rfl
 | (k',u) :: kvs,l,p => by
  obtain ⟨v,l',rfl,r,p'⟩:=p.cC
  simp only [List.any_cons,gp.any k p']
theorem gp.u! (k:κ) {u:ah} {v:V} (r:Rl K ρ H u v):∀ {kvs:List (κ × ah)} {l:List (κ × V)},gp K ρ H kvs l → gp K ρ H (kvs.map fun kv => if kv.1 = k then (kv.1,u) else kv) (l.map fun kv => if kv.1 = k then (kv.1,v) else kv)
 | [],l,p => by rw [p.eI]; exact gp.nil
 | (k',u') :: kvs,l,p => by
  obtain ⟨v',l',rfl,r',p'⟩:=p.cC
  simp only [List.map_cons]
  by_cases e:k' = k
  ·rw [if_pos e,if_pos e]; exact gp.cons r (gp.u! k r p')
  ·rw [if_neg e,if_neg e]; exact gp.cons r' (gp.u! k r p')
theorem gp.snoc {k:κ} {u:ah} {v:V} (r:Rl K ρ H u v):∀ {kvs:List (κ × ah)} {l:List (κ × V)},gp K ρ H kvs l → gp K ρ H (kvs ++ [(k,u)]) (l ++ [(k,v)])
 | [],l,p => by rw [p.eI]; exact gp.cons r gp.nil
 | (k',u') :: kvs,l,p => by
  obtain ⟨v',l',rfl,r',p'⟩:=p.cC
  exact gp.cons r' (gp.snoc r p')
theorem gp.put (k:κ) {u:ah} {v:V} (r:Rl K ρ H u v) {kvs:List (κ × ah)} {l:List (κ × V)} (p:gp K ρ H kvs l):gp K ρ H (n? kvs k u) (putK l k v):=by
 unfold n? putK
 rw [p.any k]
 split
 ·exact p.u! k r
 ·exact p.snoc r
end
noncomputable def oa:ah → Option dh
 | .int i => some (.inl i)
 | .str x => some (.inr x)
 | _ => none
noncomputable def keysOf:List ah → Option (List dh)
 | [] => some []
 | u :: us => match oa u,keysOf us with
  | some k,some ks => some (k :: ks)
  | _,_ => none
noncomputable def og:ah → Option (List dh)
 | .tup us => keysOf us
 | _ => none
section
variable {K:PySem.W.Frag} {ρ:List Addr} {H:Hp}
theorem qY {u:ah} {v:V} {k:dh} (r:Rl K ρ H u v) (h:oa u = some k):v = kV k:=by
 cases u with
 | int i => cases h; exact r.b8
 | str x => cases h; exact r.iO
 | _ => cases h
theorem tJ:∀ {us:List ah} {vs:List V} {ks:List dh},bt K ρ H us vs → keysOf us = some ks → vs = ks.map kV
 | [],vs,ks,r,h => by cases h; exact r.eI
 | u :: us,vs,ks,r,h => by
  obtain ⟨v,r',rfl,h2,h3⟩:=r.cC
  unfold keysOf at h
  split at h
  ·rename_i k T6 e1 e2
   cases h
   rw [qY h2 e1,tJ h3 e2]; rfl
  ·cases h
theorem tK {u:ah} {v:V} {ks:List dh} (r:Rl K ρ H u v) (h:og u = some ks):∃ b,v = .ref b ∧ H b = some (.tup (ks.map kV)):=by
 cases u with
 | tup us =>
  obtain ⟨b,vs,rfl,hb,rb⟩:=r.Kw
  rw [tJ rb h] at hb
  exact ⟨b,rfl,hb⟩
 | _ => cases h
end
noncomputable def wV (st:ag) (d k:ah):Option (Option ah):=match d with
 | .loc n => match st[n]? with
  | some (.dK kvs) => (oa k).map fun q => kE kvs q
  | some (.dT kvs) => (og k).map fun q => kE kvs q
  | _ => none
 | _ => none
noncomputable def kG (st:ag) (d k v:ah):Option ag:=match d with
 | .loc n => match st[n]? with
  | some (.dK kvs) => if kvs.length < sizeLine then (oa k).map fun q => st.set n (.dK (n? kvs q v)) else none
  | some (.dT kvs) => if kvs.length < sizeLine then (og k).map fun q => st.set n (.dT (n? kvs q v)) else none
  | _ => none
 | _ => none
theorem yq {K:PySem.W.Frag} {ρ:List Addr} {st:ag} {H:Hp} {d k:ah} {x y:V} {o:Option ah} (sr:SR K ρ st H) (rd:Rl K ρ H d x) (rk:Rl K ρ H k y) (h:wV st d k = some o) :
  ∃ a o',x = .ref a ∧ pk H a y o' ∧ RP H a ∧ ((o = none ∧ o' = none) ∨ ∃ u v,o = some u ∧ o' = some v ∧ Rl K ρ H u v):=by
 cases d with
 | loc n =>
  obtain ⟨a,rfl,ha⟩:=rd.dF
  unfold wV at h
  dsimp only at h
  split at h
  ·rename_i kvs e
   obtain ⟨l,hl,p⟩:=sr.cell n _ a e ha
   cases z:oa k with
   | none => rw [z] at h; cases h
   | some q =>
    rw [z] at h
    cases h
    have:=qY rk z
    subst this
    exact ⟨a,hJ l q,rfl,pk.k hl,.inl ⟨l,.inl hl⟩,p.val q⟩
  ·rename_i kvs e
   obtain ⟨l,hl,p⟩:=sr.cell n _ a e ha
   cases z:og k with
   | none => rw [z] at h; cases h
   | some q =>
    rw [z] at h
    cases h
    obtain ⟨b,rfl,hb⟩:=tK rk z
    exact ⟨a,hJ l q,rfl,pk.t hl hb,.inr ⟨l,.inl hl⟩,p.val q⟩
  ·cases h
 | _ => cases h
theorem vz {K:PySem.W.Frag} {ρ:List Addr} {st aC:ag} {H:Hp} {d k v:ah} {x y z:V} (sr:SR K ρ st H) (rd:Rl K ρ H d x) (rk:Rl K ρ H k y) (rv:Rl K ρ H v z) (h:kG st d k v = some aC) :
  ∃ a H',x = .ref a ∧ qO H a y z H' ∧ aN ρ H ρ H' ∧ SR K ρ aC H':=by
 cases d with
 | loc n =>
  obtain ⟨a,rfl,ha⟩:=rd.dF
  unfold kG at h
  dsimp only at h
  split at h
  ·rename_i kvs e
   obtain ⟨l,hl,p⟩:=sr.cell n _ a e ha
   split at h
   ·rename_i hz
    cases zk:oa k with
    | none => rw [zk] at h; cases h
    | some q =>
     rw [zk] at h
     cases h
     have:=qY rk zk
     subst this
     have st1:aN ρ H ρ (upd H a (.dK (putK l q z))):=aN.put hl (fun _ z => by cases z) (fun _ _ z => by cases z)
     exact ⟨a,_,rfl,qO.k hl (by rw [← p.length]; exact hz),st1,sr.set e rfl rfl ha hl (fun _ z => by cases z) (fun _ _ z => by cases z) ⟨_,cm,(p.put q rv).mono st1⟩⟩
   ·cases h
  ·rename_i kvs e
   obtain ⟨l,hl,p⟩:=sr.cell n _ a e ha
   split at h
   ·rename_i hz
    cases zk:og k with
    | none => rw [zk] at h; cases h
    | some q =>
     rw [zk] at h
     cases h
     obtain ⟨b,rfl,hb⟩:=tK rk zk
     have st1:aN ρ H ρ (upd H a (.dT (putK l q z))):=aN.put hl (fun _ z => by cases z) (fun _ _ z => by cases z)
     exact ⟨a,_,rfl,qO.t hl hb (by rw [← p.length]; exact hz),st1,sr.set e rfl rfl ha hl (fun _ z => by cases z) (fun _ _ z => by cases z) ⟨_,cm,(p.put q rv).mono st1⟩⟩
   ·cases h
  ·cases h
 | _ => cases h
noncomputable def qZ:ME:=fun _ st => .ok (.loc st.length) (st ++ [.dK []])
noncomputable def l5:F2:=fun d k st => match wV st d k with
 | some (some v) => .ok v st
 | _ => .bad
noncomputable def q_ (d k v:ME):MB:=fun μ st => (v μ st).sb μ fun vv st1 => (d μ st1).sb μ fun dv bS => (k μ bS).sb μ fun kv js => match kG js dv kv vv with
 | some jL => .nx μ jL
 | none => .bad
section
variable {X:Cx} {E:XK} {pos pos' apos bZ:Pos} {o i e f value:Expr} {md mk mv mx:ME}
theorem AG {K:PySem.W.Frag} {ρ:List Addr} {st:ag} {H:Hp} (sr:SR K ρ st H) {p:Addr} (hp:H p = none) {ob:HO} {c:aQ} (k:fP K (ρ ++ [p]) (upd H p ob) c p) :
  aN ρ H (ρ ++ [p]) (upd H p ob) ∧ SR K (ρ ++ [p]) (st ++ [c]) (upd H p ob) ∧ Rl K (ρ ++ [p]) (upd H p ob) (.loc st.length) (.ref p):=by
 refine ⟨aN.snoc p (c! hp),sr.alloc hp k,Rl.Ag ?_⟩
 rw [← sr.len,List.getElem?_append_right (Nat.le_refl _),Nat.sub_self]
 rfl
theorem AH:PE X (.Dict [] [] pos) (tE X E qZ):=by
 refine PE.imp zT ?_
 rintro σ H Q ⟨μ,ρ,st,rs,sr,h⟩ p hp
 obtain ⟨k1,k2,k3⟩:=AG (c:=.dK []) sr hp ⟨[],cm,gp.nil⟩
 exact h _ _ _ k1 k2 k3
theorem Dp (hu:X.A.units + 64 < cLine) (ho:PE X o (tE X E md)) (hi:PE X i (tE X E mk)) (hs:Gp i:=by exact fun _ _ => rfl):PE X (.Subscript o i pos) (tE X E (ai l5 md mk)):=by
 refine PE.imp (CI (by lia) ho hi hs) ?_
 rintro σ H Q ⟨μ,ρ,st,rs,sr,h⟩
 refine go μ ρ st rs sr h fun d st1 ρ1 H1 x e1 bT r1 h1 => ?_
 refine go μ ρ1 st1 (rs.mono e1) bT h1 fun k bS ρ2 H2 y e2 lY r2 h2 => ?_
 unfold l5 at h2
 split at h2
 ·rename_i u hl
  obtain ⟨a,o',rfl,hd,_,hv⟩:=yq lY (Rl.mono e2 _ _ r1) r2 hl
  rcases hv with ⟨z,_⟩ | ⟨u',v,z,rfl,rv⟩
  ·cases z
  ·cases z
   exact ⟨a,v,rfl,hd,h2 ρ2 H2 v (aN.refl _ _) lY rv⟩
 ·exact h2.elim
theorem Dq (hu:X.A.units + 64 < cLine) (ho:PE X o (tE X E md)) (hi:PE X i (tE X E mk)) (hv:PE X value (tE X E mv)) (hs:swapsWith value (some (.Subscript o i pos')) pos.line X.env = pure false:=by rfl) :
  PS X (.Assign [.Subscript o i pos'] value pos) (tS X E (q_ md mk mv)):=by
 refine PS.imp (CJ (by lia) ho hi hv hs) ?_
 rintro D σ H ⟨μ,ρ,st,rs,sr,h⟩
 refine uS μ ρ st rs sr h fun v st1 ρ1 H1 z e1 bT r1 h1 => ?_
 refine uS μ ρ1 st1 (rs.mono e1) bT h1 fun d bS ρ2 H2 x e2 lY r2 h2 => ?_
 refine uS μ ρ2 bS ((rs.mono e1).mono e2) lY h2 fun k js ρ3 H3 y e3 zj r3 h3 => ?_
 split at h3
 ·rename_i jL sG
  obtain ⟨a,H4,rfl,hd,s4,mr⟩:=vz zj (Rl.mono e3 _ _ r2) r3 (Rl.mono (e2.trans e3) _ _ r1) sG
  exact ⟨a,H4,rfl,hd,h3 ρ3 H4 σ s4 mr ((((rs.mono e1).mono e2).mono e3).mono s4)⟩
 ·exact h3.elim
end
section
variable {X:Cx} {E:XK} {es:List Expr} {ms:MA} {pos:Pos}
theorem Hr {a b:Expr} {ma mb:ME} (ha:PE X a (tE X E ma)) (hb:PE X b (tE X E mb)) (hs:qE b:=by exact fun _ _ => rfl):PE X (.Subscript a b pos) (tE X E (ai dQ ma mb)):=KG Oj ha hb hs
end
end MN
namespace MN
open PySem PySem.Spec L2
open PyProof.Rows hiding St
noncomputable def vA (us:List ah) (lo hi:Option Int):List ah:=(us.drop (HT.eB us.length 0 lo)).take (HT.eB us.length us.length hi - HT.eB us.length 0 lo)
theorem bt.cut {K:PySem.W.Frag} {ρ:List Addr} {H:Hp} {us:List ah} {vs:List V} (r:bt K ρ H us vs) (lo hi:Option Int):bt K ρ H (vA us lo hi) (qC vs lo hi):=by
 unfold vA qC
 rw [r.length]
 exact bt.take _ (bt.drop _ r)
noncomputable abbrev MO:=Env → ag → cn (Option Int)
noncomputable abbrev RO:List Addr → Hp → Option Int → Option Int → Prop:=fun _ _ a b => b = a
noncomputable abbrev MD (X:Cx) (E:XK) (m:MO):TO:=tG (wo X) E RO m
noncomputable def AI:MO:=fun _ st => .ok none st
noncomputable def AJ (m:ME):MO:=fun μ st => (m μ st).bind fun v aC => match v with
 | .int i => .ok (some i) aC
 | _ => .bad
noncomputable def EU (lo hi:Option Int):ah → ag → cn ah
 | .tup us,st => if HT.eB us.length 0 lo = 0 ∧ HT.eB us.length us.length hi = us.length then .bad else .ok (.tup (vA us lo hi)) st
 | .loc n,st => match ak st n with
  | some us => .ok (.loc st.length) (st ++ [.lst (vA us lo hi)])
  | none => .bad
 | _,_ => .bad
noncomputable def MF (a:ME) (lo hi:MO):ME:=fun μ st => (a μ st).bind fun x st1 => (lo μ st1).bind fun l bS => (hi μ bS).bind fun h js => EU l h x js
section
variable {X:Cx} {E:XK} {pos p2:Pos} {e:Expr} {m:ME}
theorem PO.imp {e:Option Expr} {t t':TO} (h:PO X e t) (k:∀ σ H Q,t' σ H Q → t σ H Q):PO X e t':=fun af s σ H Q I q => h af s σ H Q I (k σ H Q q)
theorem Dr:PO X none (MD X E AI):=PO.imp Cv fun σ H Q ⟨μ,ρ,st,rs,sr,h⟩ => h ρ H none (aN.refl _ _) sr rfl
theorem Ds (h:PE X e (tE X E m)):PO X (some e) (MD X E (AJ m)):=by
 refine PO.imp (Cw h) ?_
 rintro σ H Q ⟨μ,ρ,st,rs,sr,h⟩
 refine go μ ρ st rs sr h fun u st1 ρ1 H1 x e1 bT r1 h1 => ?_
 cases u with
 | int i => exact ⟨i,r1.b8,h1 ρ1 H1 (some i) (aN.refl _ _) bT rfl⟩
 | _ => exact h1.elim
theorem KW {lo hi:Option Expr} {ml mh:MO} (he:PE X e (tE X E m)) (hl:PO X lo (MD X E ml)) (hh:PO X hi (MD X E mh)):PE X (.Subscript e (.Slice lo hi none p2) pos) (tE X E (MF m ml mh)):=by
 refine PE.imp (zK (ED.or CA Gb) he hl hh) ?_
 rintro σ H Q ⟨μ,ρ,st,rs,sr,h⟩
 refine go μ ρ st rs sr h fun u st1 ρ1 H1 x e1 bT r1 h1 => ?_
 refine go (R1:=RO) μ ρ1 st1 (rs.mono e1) bT h1 fun l bS ρ2 H2 l' e2 lY r2 h2 => ?_
 cases r2
 refine go (R1:=RO) μ ρ2 bS ((rs.mono e1).mono e2) lY h2 fun k js ρ3 H3 k' e3 zj r3 h3 => ?_
 cases r3
 have ru:=Rl.mono e3 _ _ (Rl.mono e2 _ _ r1)
 cases u with
 | tup us =>
  obtain ⟨a,vs,rfl,ha,ra⟩:=ru.gn
  unfold EU at h3
  dsimp only at h3
  split at h3
  ·exact h3.elim
  ·rename_i hz
   refine .inr ⟨a,vs,rfl,ha,by rw [← ra.length]; exact hz,fun p hp => ?_⟩
   have s:=c! (o:=.tup (qC vs l k)) hp
   exact h3 ρ3 _ _ (aN.same s) (zj.grow s) (Rl.p5 cm (bt.mono (aN.same s) _ _ (ra.cut l k)))
 | loc n =>
  obtain ⟨a,rfl,ha⟩:=ru.dF
  cases z:ak js n with
  | none => simp only [EU,z] at h3; exact h3.elim
  | some us =>
   simp only [EU,z] at h3
   obtain ⟨vs,hs,rv⟩:=bg zj z ha
   refine .inl ⟨a,vs,rfl,hs,fun p hp => ?_⟩
   obtain ⟨k1,k2,k3⟩:=fE zj (rv.cut l k) hp
   exact h3 _ _ _ k1 k2 k3
 | _ => exact h3.elim
end
noncomputable def AK (f:FM) (o:ME):ME:=fun μ st => (o μ st).bind fun x st1 => if lZ st1 x = true then f x [] st1 else .bad
noncomputable def vB:FM
 | .loc n,[],st => match st[n]? with
  | some (.lst us) => match us[us.length - 1]? with
   | some u => .ok u (st.set n (.lst us.dropLast))
   | none => .bad
  | _ => .bad
 | _,_,_ => .bad
noncomputable def MG:FM
 | .loc n,[.loc m],st => match st[n]?,st[m]? with
  | some (.lst us),some (.lst ws) => if us.length + ws.length ≤ sizeLine then .ok .dA (st.set n (.lst (us ++ ws))) else .bad
  | _,_ => .bad
 | _,_,_ => .bad
theorem bt.dropLast {K:PySem.W.Frag} {ρ:List Addr} {H:Hp} {us:List ah} {vs:List V} (r:bt K ρ H us vs):bt K ρ H us.dropLast vs.dropLast:=by
 rw [List.dropLast_eq_take,List.dropLast_eq_take,r.length]
 exact bt.take _ r
section
variable {X:Cx} {E:XK} {o:Expr} {mo:ME} {apos bZ:Pos} {f:FM}
theorem Dt:sW X "list.pop" (I_ (wo X) E vB):=by
 refine sW.imp Gh ?_
 rintro x xs H Q ⟨ρ,st,u,us,sr,r1,r2,h⟩
 unfold vB at h
 split at h
 ·rename_i n
  obtain ⟨a,rfl,ha⟩:=r1.dF
  have hx:=r2.eI
  subst hx
  split at h
  ·rename_i ws hw
   split at h
   ·rename_i y hy
    obtain ⟨vs,hH,rv⟩:=sr.cell n _ a hw ha
    obtain ⟨v,hv,ry⟩:=rv.get hy
    refine ⟨a,vs,v,rfl,rfl,hH,by rw [← rv.length]; exact hv,?_⟩
    obtain ⟨k1,k2⟩:=qW sr hw ha hH rv.dropLast
    exact h ρ _ _ k1 k2 (Rl.mono k1 _ _ ry)
   ·exact h.elim
  ·exact h.elim
 ·exact h.elim
theorem Hs {name:Str} {id:String} (slot:Slot "list" name id) (CB:typeOf (.builtin id) = pure (.type "method_descriptor")) (hm:sW X id (I_ (wo X) E f)) (ho:PE X o (tE X E mo))
  (fM:attributeBase o name X.env (eval o X.env) = eval o X.env:=by rfl) (fN:(apos.endLine == bZ.line) = true:=by rfl) :
  PE X (.Call (.Attribute o name apos) [] [] bZ) (tE X E (AK f mo)):=by
 refine PE.imp (Gg PySem.F.plainAttrs_list slot CB hm ho fM fN) ?_
 rintro σ H Q ⟨μ,ρ,st,rs,sr,h⟩
 refine go μ ρ st rs sr h fun u st1 ρ1 H1 x e1 bT r1 h1 => ?_
 split at h1
 ·rename_i hz
  exact ⟨tD bT r1 hz,ρ1,st1,u,[],bT,r1,bt.nil,h1⟩
 ·exact h1.elim
end
noncomputable def kH (o i v:ah) (st:ag):Option ag:=match o,i with
 | .loc n,.int k => match st[n]? with
  | some (.lst us) => (L2.sV us.length k).map fun j => st.set n (.lst (us.set j v))
  | _ => none
 | _,_ => none
noncomputable def EV (μ:Env):Option ag → bN
 | some st => .nx μ st
 | none => .bad
noncomputable def wW (o i v:ME):MB:=fun μ st => (v μ st).sb μ fun x st1 => (o μ st1).sb μ fun y bS => (i μ bS).sb μ fun z js => EV μ (kH y z x js)
noncomputable def yr:F2:=px fun i j st => .ok (.int (i + j)) st
noncomputable def Du:F2:=px fun i j st => .ok (.int (i - j)) st
noncomputable def EW:F2
 | .loc n,.int i,st => match ak st n with
  | some us => match L2.g! us i with
   | some v => .ok v st
   | none => .bad
  | none => .bad
 | _,_,_ => .bad
noncomputable def qa (f:F2) (o i e:ME):MB:=fun μ st => (o μ st).sb μ fun y st1 => (i μ st1).sb μ fun z bS => (EW y z bS).sb μ fun x js => (e μ js).sb μ fun w jL => (f x w jL).sb μ fun r B3 => EV μ (kH y z r B3)
noncomputable def AL (k:Nat) (f:F2) (e:ME):MB:=fun μ st => (ae k μ st).sb μ fun x st1 => (e μ st1).sb μ fun w bS => (f x w bS).sb μ fun r js => .nx (μ.set k (some r)) js
section
variable {X:Cx} {E:XK} {o i v:Expr} {mo mi mv:ME} {pos jO:Pos} {f:F2}
theorem qb {ρ:List Addr} {st aC:ag} {H:Hp} {u z w:ah} {x y q:V} {Q:Hp → Prop} (sr:SR X.K ρ st H) (ru:Rl X.K ρ H u x) (rz:Rl X.K ρ H z y) (qF:Rl X.K ρ H w q) (h:kH u z w st = some aC)
  (k:∀ H',aN ρ H ρ H' → SR X.K ρ aC H' → Q H'):EE x y q H Q:=by
 unfold kH at h
 split at h
 ·rename_i n j
  split at h
  ·rename_i us hu
   obtain ⟨a,rfl,ha⟩:=ru.dF
   obtain ⟨vs,hH,rv⟩:=sr.cell n _ a hu ha
   cases hj:L2.sV us.length j with
   | none => rw [hj] at h; cases h
   | some jj =>
    rw [hj] at h
    cases h
    refine ⟨a,vs,j,jj,rfl,rz.b8,hH,by rw [← rv.length]; exact hj,?_⟩
    obtain ⟨k1,k2⟩:=qW sr hu ha hH (bt.set qF jj rv)
    exact k _ k1 k2
  ·cases h
 ·cases h
theorem Dv (ho:PE X o (tE X E mo)) (hi:PE X i (tE X E mi)) (hv:PE X v (tE X E mv))
  (ha:∀ u,assign (.Subscript o i jO) X.env u = (do
   let ov ← holding [u] (eval o X.env)
   let iv ← holding [u,ov] (eval i X.env)
   standAt jO
   holding [u,ov,iv] (setItem ov iv u)
   release [u,ov,iv] []):=by intro _; rfl)
  (hs:swapsWithSole [.Subscript o i jO] v pos.line X.env = pure false:=by rfl) (hw:swappedStores [.Subscript o i jO] v X.env = pure none:=by rfl) (h1:(assignEach [.Subscript o i jO] X.env).map (·.2) = [assign (.Subscript o i jO) X.env]:=by rfl) :
  PS X (.Assign [.Subscript o i jO] v pos) (tS X E (wW mo mi mv)):=by
 refine PS.imp (FH hv (FG ho hi set_list ha) hs hw h1) ?_
 rintro D σ H ⟨μ,ρ,st,rs,sr,h⟩
 refine uS μ ρ st rs sr h fun u st1 ρ1 H1 x e1 bT r1 h1 => ?_
 refine uS μ ρ1 st1 (rs.mono e1) bT h1 fun w bS ρ2 H2 y e2 lY r2 h2 => ?_
 refine uS μ ρ2 bS ((rs.mono e1).mono e2) lY h2 fun z js ρ3 H3 q e3 zj r3 h3 => ?_
 cases hz:kH w z u js with
 | none => rw [hz] at h3; exact h3.elim
 | some jL =>
  rw [hz] at h3
  exact qb zj (Rl.mono e3 _ _ r2) r3 (Rl.mono e3 _ _ (Rl.mono e2 _ _ r1)) hz fun H' k1 k2 => h3 ρ3 H' σ k1 k2 ((((rs.mono e1).mono e2).mono e3).mono k1)
theorem wX:d5 X (inplaceOp .Add) (rM (wo X) E yr):=by
 refine d5.imp Cm ?_
 rintro x y H Q ⟨ρ,st,u,w,sr,r1,r2,h⟩
 obtain ⟨i,j,rfl,rfl,h⟩:=gr h
 exact ⟨i,j,r1.b8,r2.b8,dm sr h⟩
theorem Dw:d5 X (inplaceOp .Sub) (rM (wo X) E Du):=by
 refine d5.imp Cn ?_
 rintro x y H Q ⟨ρ,st,u,w,sr,r1,r2,h⟩
 obtain ⟨i,j,rfl,rfl,h⟩:=gr h
 exact ⟨i,j,r1.b8,r2.b8,dm sr h⟩
theorem wY {op:Operator} (hf:d5 X (inplaceOp op) (rM (wo X) E f)) (ho:PE X o (tE X E mo)) (hi:PE X i (tE X E mi)) (hv:PE X v (tE X E mv))
  (ha:∀ ov iv new,augStore i ov iv new = (do holding [new,ov,iv] (setItem ov iv new); release [new,ov,iv] []; pure .next):=by intros; rfl) :
  PS X (.AugAssign (.Subscript o i jO) op v pos) (tS X E (qa f mo mi mv)):=by
 refine PS.imp (Ci ho hi Ae hv (fun af s σ H x y v u Q I rx ry q => hf af s σ H x y v u Q I rx ry q) set_list ha) ?_
 rintro D σ H ⟨μ,ρ,st,rs,sr,h⟩
 refine uS μ ρ st rs sr h fun u st1 ρ1 H1 x e1 bT r1 h1 => ?_
 refine uS μ ρ1 st1 (rs.mono e1) bT h1 fun w bS ρ2 H2 y e2 lY r2 h2 => ?_
 have ru:=Rl.mono e2 _ _ r1
 have QI:=(rs.mono e1).mono e2
 cases u with
 | loc n =>
  cases w with
  | int j =>
   obtain ⟨a,rfl,ha⟩:=ru.dF
   cases z:ak bS n with
   | none => simp only [EW,z] at h2; exact h2.elim
   | some us =>
    cases zi:L2.g! us j with
    | none => simp only [EW,z,zi] at h2; exact h2.elim
    | some g =>
     simp only [EW,z,zi] at h2
     obtain ⟨vs,hs,rv⟩:=bg lY z ha
     obtain ⟨g',hg,rg⟩:=rv.g! zi
     refine ⟨a,vs,j,g',rfl,r2.b8,hs,hg,?_⟩
     refine uS μ ρ2 bS QI lY h2 fun t js ρ3 H3 b e3 zj r3 h3 => ?_
     refine ⟨ρ3,js,g,t,zj,Rl.mono e3 _ _ rg,r3,?_⟩
     cases zf:f g t js with
     | ok c jL =>
      rw [zf] at h3
      intro ρ4 H4 d e4 mr r4
      have h4:wS (wo X) E ρ4 H4 D (EV μ (kH (.loc n) (.int j) c jL)):=wS.mono h3 e4
      cases hz:kH (.loc n) (.int j) c jL with
      | none => rw [hz] at h4; exact h4.elim
      | some B3 =>
       rw [hz] at h4
       exact qb mr (Rl.mono e4 _ _ (Rl.mono e3 _ _ ru)) (Rl.mono e4 _ _ (Rl.mono e3 _ _ r2)) r4 hz fun H' k1 k2 => h4 ρ4 H' σ k1 k2 (((QI.mono e3).mono e4).mono k1)
     | err c jL => rw [zf] at h3; exact h3
     | bad => rw [zf] at h3; exact h3
  | _ => exact h2.elim
 | _ => exact h2.elim
theorem Ht {op:Operator} {k:Nat} {x:Str} (hf:d5 X (inplaceOp op) (rM (wo X) E f)) (hN:X.N.Nodup) (hv:PE X v (tE X E mv)) (hi:X.N[k]? = some x:=by rfl) (hx:Loc X.env.scope x:=by first | exact Or.inl rfl | exact Or.inr rfl)
  (hn:X.fn x = true ∨ X.env.scope.names.lookup x = some .local:=by first | exact .inl rfl | exact .inr rfl | assumption):PS X (.AugAssign (.Name x jO) op v pos) (tS X E (AL k f mv)):=by
 refine PS.imp (FJ hN hi hx hv (fun af s σ H x y v u Q I rx ry q => hf af s σ H x y v u Q I rx ry q) hn) ?_
 rintro D σ H ⟨μ,ρ,st,rs,sr,h⟩
 unfold AL ae at h
 split at h
 ·rename_i g e
  obtain ⟨w,e',r⟩:=rs.at_ k g e
  split at h
  ·exact h.elim
  ·rename_i n
   have rg:=r.un n
   refine ⟨w,e',?_⟩
   refine uS μ ρ st rs sr h fun t st1 ρ1 H1 y e1 bT r1 h1 => ?_
   refine ⟨ρ1,st1,g,t,bT,Rl.mono e1 _ _ rg,r1,?_⟩
   cases zf:f g t st1 with
   | ok c bS =>
    rw [zf] at h1
    intro ρ2 H2 d e2 lY r2
    exact (wS.mono h1 e2) ρ2 H2 _ (aN.refl _ _) lY (((rs.mono e1).mono e2).set k r2)
   | err c bS => rw [zf] at h1; exact h1
   | bad => rw [zf] at h1; exact h1
 ·exact h.elim
end
noncomputable def iA (hi:Int) (n:Nat):List ah:=(List.range n).map fun (i:Nat) => ah.int (hi - (i:Int))
theorem AM {K:PySem.W.Frag} {ρ:List Addr} {H:Hp} (lo:Int) (n:Nat):Hc K ρ H (iA lo n,fun _ => True) (Mt lo n):=by
 intro ρ' aC H' e sr g i
 refine ⟨fun u hu => ?_,fun hi => ?_⟩
 ·have hi:i < n:=by
   have:=bJ hu
   simpa [iA] using this
  refine ⟨hi,fun x IY y => ?_⟩
  obtain ⟨rfl,rfl⟩:=y
  have e:u = ah.int (lo - (i:Int)):=by
   simp only [iA,List.getElem?_map] at hu
   rw [List.getElem?_range hi] at hu
   exact (Option.some.inj hu).symm
  subst e
  exact ⟨aN.refl _ _,sr,Rl.mkInt _⟩
 ·show n ≤ i
  simpa [iA] using hi
noncomputable def AN (vs:List ah) (aC:ag):cn Itm:=match vs with
 | [.int i,.int j,.int k] => if k = -1 ∧ -(2 ^ 62) ≤ i ∧ i < 2 ^ 62 ∧ -(2 ^ 62) ≤ j ∧ j < 2 ^ 62 then .ok (iA i (i - j).toNat,fun _ => True) aC else .bad
 | _ => .bad
noncomputable def q! (m:MA):MI:=fun μ st => (m μ st).bind AN
noncomputable def AO (vs:List ah) (aC:ag):cn Itm:=match vs with
 | [.loc n] => match ak aC n with
  | some us => .ok (us.reverse,fun bS => ak bS n = some us) aC
  | none => .bad
 | _ => .bad
noncomputable def wZ (m:MA):MI:=fun μ st => (m μ st).bind AO
noncomputable def iB:Nat → List ah → List ah
 | _,[] => []
 | i,u :: us => .tup [.int i,u] :: iB (i + 1) us
theorem iW:∀ (us:List ah) (k i:Nat) (z:ah),(iB k us)[i]? = some z → ∃ u,us[i]? = some u ∧ z = .tup [.int ((k + i:Nat):Int),u]
 | [],_,_,_,h => by cases h
 | u :: us,k,0,z,h => by cases h; exact ⟨u,rfl,rfl⟩
 | u :: us,k,i + 1,z,h => by
  obtain ⟨w,h1,h2⟩:=iW us (k + 1) i z h
  exact ⟨w,h1,by rw [h2,show k + 1 + i = k + (i + 1) by lia]⟩
theorem gO:∀ (us:List ah) (k:Nat),(iB k us).length = us.length
 | [],_ => rfl
 | _ :: us,k => by simp only [iB,List.length_cons,gO us]
noncomputable def AQ (vs:List ah) (aC:ag):cn Itm:=match vs with
 | [.loc n] => match ak aC n with
  | some us => .ok (iB 0 us,fun bS => ak bS n = some us) aC
  | none => .bad
 | _ => .bad
noncomputable def iX (m:MA):MI:=fun μ st => (m μ st).bind AQ
section
variable {X:Cx} {E:XK} {tg:Expr} {pos p:Pos}
theorem Dx {a b c:Expr} {m:MA} (hg:Gl X "range") (hm:X.mg "range" = none) (ha:PA X [a,b,c] (tL X E m)) (hs:starEach [a,b,c] X.env = [(false,eval a X.env),(false,eval b X.env),(false,eval c X.env)]:=by rfl) (gz:starEach [b,c] X.env = [(false,eval b X.env),(false,eval c X.env)]:=by rfl) :
  PI X tg (.Call (.Name "range" p) [a,b,c] [] pos) (tI X E (q! m)):=by
 refine PI.imp (C3 hg hm ha hs gz) ?_
 rintro σ H R ⟨μ,ρ,st,rs,sr,h⟩
 refine go (R1:=bt X.K) μ ρ st rs sr h fun us st1 ρ1 H1 xs e1 bT r1 h1 => ?_
 unfold AN at h1
 split at h1
 ·rename_i i j k
  obtain ⟨v,r',rfl,rv,rr⟩:=r1.cC
  obtain ⟨w,z,rfl,qF,rz⟩:=rr.Mv
  split at h1
  ·rename_i hz
   obtain ⟨rfl,hz⟩:=hz
   exact ⟨i,j,by rw [rv.b8,qF.b8,rz.b8],hz,h1 ρ1 H1 _ (aN.refl _ _) bT (AM i _)⟩
  ·exact h1.elim
 ·exact h1.elim
theorem Hu {a:Expr} {m:MA} (hg:Gl X "reversed") (hm:X.mg "reversed" = none) (ha:PA X [a] (tL X E m)) (hs:starEach [a] X.env = [(false,eval a X.env)]:=by rfl):PI X tg (.Call (.Name "reversed" p) [a] [] pos) (tI X E (wZ m)):=by
 refine PI.imp (GH hg hm PyProof.Rows.Boot.«reversed» ha hs) ?_
 rintro σ H R ⟨μ,ρ,st,rs,sr,h⟩
 refine go (R1:=bt X.K) μ ρ st rs sr h fun us st1 ρ1 H1 xs e1 bT r1 h1 => ?_
 unfold AO at h1
 split at h1
 ·rename_i n
  obtain ⟨v,rfl,rv⟩:=r1.tj
  obtain ⟨b,rfl,hb⟩:=rv.dF
  split at h1
  ·rename_i ws hw
   obtain ⟨vs,EY,QJ⟩:=bg bT hw hb
   refine ⟨b,vs,rfl,EY,h1 ρ1 H1 _ (aN.refl _ _) bT ?_⟩
   intro ρ' aC H' e s g i
   obtain ⟨w1,s1,t1⟩:=bg s g (e.at_ hb)
   have hl:=t1.length
   have km:=QJ.length
   refine ⟨fun u hu => ?_,fun hi => ?_⟩
   ·have hi:i < ws.length:=by have:=bJ hu; simpa using this
    have Sr:ws[ws.length - 1 - i]? = some u:=by rw [List.getElem?_reverse hi] at hu; exact hu
    obtain ⟨y,hy,ry⟩:=t1.get Sr
    refine ⟨⟨by lia,w1,s1,by lia⟩,fun x' IY y' => ?_⟩
    obtain ⟨rfl,f1⟩:=y'
    have c1:=f1 w1 s1
    rw [← km,hy] at c1
    cases c1
    exact ⟨aN.refl _ _,s,ry⟩
   ·show vs.length ≤ i
    rw [← km]; simpa using hi
  ·exact h1.elim
 ·exact h1.elim
theorem Dy {elts:List Expr} {kt:Nat} {tp:Pos} {a:Expr} {m:MA} (hg:Gl X "enumerate") (hm:X.mg "enumerate" = none) (ha:PA X [a] (tL X E m)) (hs:starEach [a] X.env = [(false,eval a X.env)]:=by rfl):PI X (.Tuple elts kt tp) (.Call (.Name "enumerate" p) [a] [] pos) (tI X E (iX m)):=by
 refine PI.imp (C4 hg hm PyProof.Rows.Boot.«enumerate» ha hs) ?_
 rintro σ H R ⟨μ,ρ,st,rs,sr,h⟩
 refine go (R1:=bt X.K) μ ρ st rs sr h fun us st1 ρ1 H1 xs e1 bT r1 h1 => ?_
 unfold AQ at h1
 split at h1
 ·rename_i n
  obtain ⟨v,rfl,rv⟩:=r1.tj
  obtain ⟨b,rfl,hb⟩:=rv.dF
  split at h1
  ·rename_i ws hw
   obtain ⟨vs,EY,QJ⟩:=bg bT hw hb
   refine ⟨b,vs,rfl,EY,h1 ρ1 H1 _ (aN.refl _ _) bT ?_⟩
   intro ρ' aC H' e s g i
   obtain ⟨w1,s1,t1⟩:=bg s g (e.at_ hb)
   refine ⟨fun z hz => ?_,fun hi => ⟨w1,s1,?_⟩⟩
   ·obtain ⟨u,hu,rfl⟩:=iW ws 0 i z hz
    obtain ⟨y,hy,ry⟩:=t1.get hu
    refine ⟨⟨w1,y,s1,hy⟩,fun x' IY y' => ?_⟩
    obtain ⟨pp,x1,rfl,hp,rfl,f1⟩:=y'
    have c1:=(f1 w1 s1).symm.trans hy
    cases c1
    rw [Nat.zero_add]
    exact ⟨aN.same (c! hp),s.grow (c! hp),Rl.p5 cm (bt.mono (aN.same (c! hp)) _ _ (bt.cons (Rl.mkInt _) (bt.one ry)))⟩
   ·have zX:(iB 0 ws).length ≤ i:=hi
    rw [gO] at zX
    rw [← t1.length]; exact zX
  ·exact h1.elim
 ·exact h1.elim
end
noncomputable def yt:FN
 | [.int i,.int j],st => .ok (.int (if j > i then j else i)) st
 | _,_ => .bad
section
variable {X:Cx} {E:XK}
theorem yu (hh:X.A.handled = none):bU X (.builtin "max") (cM (wo X) E yt):=by
 refine bU.imp (yb hh) ?_
 rintro xs H Q ⟨ρ,st,us,sr,r,h⟩
 unfold yt at h
 split at h
 ·rename_i i j
  obtain ⟨v,w,rfl,r1,r2⟩:=r.Mv
  exact ⟨i,j,by rw [r1.b8,r2.b8],dm sr h⟩
 ·exact h.elim
end
section
variable {X:Cx} {E:XK} {o e:Expr} {es:List Expr} {mo:ME} {ms:MA} {apos bZ:Pos}
theorem yw (ho:PE X o (tE X E mo)) (ha:PA X (e :: es) (tL X E ms))
  (fM:attributeBase o "append" X.env (eval o X.env) = eval o X.env:=by rfl)
  (qN:((backTo bZ (starEach (e :: es) X.env)).all (fun x => !x.1) && (backToKw bZ (keywordEach [] X.env)).all (fun x => x.1.isSome)
   && decide ((e :: es).length + ([]:List Keyword).length + (if ([]:List Keyword).isEmpty then 0 else 1) < 30)) = true:=by rfl)
  (fN:(apos.endLine == bZ.line) = true:=by rfl) (hs:starEach (e :: es) X.env = (false,eval e X.env) :: starEach es X.env:=by rfl) (g?:(backTo bZ (starEach es X.env)).any (·.1) = false:=by rfl) :
  PE X (.Call (.Attribute o "append" apos) (e :: es) [] bZ) (tE X E (kD ic mo ms)):=vp PySem.F.slot_list_append PySem.F.type_list_append vo ho ha fM qN fN hs g?
theorem DA (ho:PE X o (tE X E mo)) (fM:attributeBase o "pop" X.env (eval o X.env) = eval o X.env:=by rfl) (fN:(apos.endLine == bZ.line) = true:=by rfl) :
  PE X (.Call (.Attribute o "pop" apos) [] [] bZ) (tE X E (AK vB mo)):=Hs PySem.F.slot_list_pop PySem.F.type_list_pop Dt ho fM fN
end
end MN
namespace MN
open PySem PySem.Spec L2
open PyProof.Rows hiding St
theorem KY {X:Cx} {N:List Str} {scope:Scope} {k:Nat} {cl cl':List (Str × Addr)} {bx caps':List Nat} (mq:closureFor scope X.env = pure cl') (A:fb X scope cl bx) (B:fb X scope cl' caps') (has:((relabel scope X.env).names.all fun p => !(p.2 == .cell || p.2 == .free) || (cl'.map (·.1)).contains p.1) = true)
  (fO:(scope.names.all fun p => !(p.2 == .cell)) = true) (kind:scope.kind = .function) (names:(scope.names.all fun p => !(p.2 == .local) || scope.names.lookup p.1 == some .local) = true) (len:N.length = k + bx.length) (hN:N.drop k = cl.map (·.1)):pq X N scope cl' k bx where
 mq:=mq
 sub:=B.sub
 has:=fun x h => by
  have m:x ∈ cl'.map (·.1):=by
   rcases h with h | h <;> (have m:=PySem.mem_of_lookup h; have z:=List.all_eq_true.mp has _ m; simpa using z)
  exact gE m
 fO:=fun x hx h => by
  have z:=List.all_eq_true.mp fO x hx
  simp [h] at z
 kind:=kind
 names:=fun x hx h => by
  have z:=List.all_eq_true.mp names x hx
  simpa [h] using z
 len:=len
 at_:=fun i j x h1 h2 => A.at_ i j x h1 (by rw [← hN,List.getElem?_drop]; exact h2)
theorem len0 {C:List Value → Prop} (h:C []) (us:List Value) (hl:us.length = 0):C us:=by
 rw [List.eq_nil_of_length_eq_zero hl]
 exact h
theorem DB {C:List Value → Prop} {n:Nat} (h:∀ a (r:List Value),r.length = n → C (a :: r)) (us:List Value) (hl:us.length = n + 1):C us:=by
 cases us with
 | nil => cases hl
 | cons a r => exact h a r (Nat.succ.inj hl)
theorem DC {C:List Value → Prop} (h:∀ a,C [a]):∀ us:List Value,us.length = 1 → C us:=DB fun a => len0 (C:=fun r => C (a :: r)) (h a)
theorem KZ {C:List Value → Prop} (h:∀ a b,C [a,b]):∀ us:List Value,us.length = 2 → C us:=DB fun a => DC (C:=fun r => C (a :: r)) (h a)
theorem K0 {C:List Value → Prop} (h:∀ a b c,C [a,b,c]):∀ us:List Value,us.length = 3 → C us:=DB fun a => KZ (C:=fun r => C (a :: r)) (h a)
theorem Hv {C:List Value → Prop} (h:∀ a b c d,C [a,b,c,d]):∀ us:List Value,us.length = 4 → C us:=DB fun a => K0 (C:=fun r => C (a :: r)) (h a)
end MN
namespace L2
open PySem PySem.Spec PyProof.Rows PySem.W Builtin Builtin.ObjectAttr Builtin.Getset_descriptor PySem.Calls
noncomputable def q? (K:PySem.W.Frag) (C:Addr):Bool:=findIn K (.ref C) "__getattribute__" == some (some (.builtin "BaseException.__getattribute__")) && (findIn K (.ref C) "__getattr__" == some none) && (findIn K (.ref C) "__class__" == some (some (.builtin "object.__class__"))) &&
 (mroIn K C (.type "object") == some true) && (mroIn K C (.type "BaseException") == some true) && (specialIn K (.builtin "object.__class__") "__get__" == some (some (.builtin "getset_descriptor.__get__"))) && (takesIn K (.builtin "object.__class__") == some true) && (kitCls K (.ref C) (.ref C) == some true)
structure iY (K:PySem.W.Frag) (C:Addr):Prop where
 ga:findIn K (.ref C) "__getattribute__" = some (some (.builtin "BaseException.__getattribute__"))
 gh:findIn K (.ref C) "__getattr__" = some none
 gc:findIn K (.ref C) "__class__" = some (some (.builtin "object.__class__"))
 mo:mroIn K C (.type "object") = some true
 mb:mroIn K C (.type "BaseException") = some true
 sg:specialIn K (.builtin "object.__class__") "__get__" = some (some (.builtin "getset_descriptor.__get__"))
 tk:takesIn K (.builtin "object.__class__") = some true
 kc:kitCls K (.ref C) (.ref C) = some true
theorem yx {K:PySem.W.Frag} {C:Addr} (h:q? K C = true):iY K C:=by
 unfold q? at h
 simp only [Bool.and_eq_true] at h
 obtain ⟨⟨⟨⟨⟨⟨⟨a,b⟩,c⟩,d⟩,e⟩,f⟩,g⟩,i⟩:=h
 exact ⟨beq_iff_eq.mp a,beq_iff_eq.mp b,beq_iff_eq.mp c,beq_iff_eq.mp d,beq_iff_eq.mp e,beq_iff_eq.mp f,beq_iff_eq.mp g,beq_iff_eq.mp i⟩
section
variable {prog:Program} {w:World} {A:Around} {E:Value → Shared → Prop} {s:Shared} {K:PySem.W.Frag} {x C:Addr} {ox:Obj} {R:Result → Shared → Prop}
theorem w6 {M:Model} {h:Heap} (hx:h.get? x = some ox) (hc:ox.cls = .ref C):Looks M h (typeOf (.ref x)) (.ref C):=hc ▸ (Looks.ld hx).andThen .now
theorem vC {tp:Value} (X:K.In s.heap) (hx:s.heap.get? x = some ox) (hc:ox.cls = .ref C) (hm:mroIn K C (.type "object") = some true)
  (h:R (.ok (.ret (.ref C))) s):codeAny (model prog w) A (.call (.builtin "getset_descriptor.__get__") ⟨[.builtin "object.__class__",.ref x,tp],[]⟩) R s:=by
 obtain ⟨hh,g,dr,t,os⟩:=s
 have L0:=w6 (M:=model prog w) hx hc
 have L1:=looks_mroIn (M:=model prog w) X hm
 refine codeAny_call_builtin KF.slot_gs.plain KF.entry_gs (KF.slot_gs.check _ _ _ _ _ _ _ _ KF.type_class (KF.args_gs _ _ _) ?_)
 unfold Builtin.«getset_descriptor.__get__» descrGet
 rw [dga_obj]
 refine wpAny_bind (wpAny_pure ?_)
 unfold descrGetter descrCheckInstance descrNameAndClass isInstance
 simp only [KF.owner_class]
 repeat lk
 refine ⟨Code.quiet_builtin _ (by decide +kernel),codeAny_builtin KF.entry_class ?_⟩
 unfold Builtin.«object.__class__» shownTypeOf
 repeat lk
 exact h
theorem tM {M:Model} {h:Heap} (X:K.In h) (q:iY K C):Looks M h (find (.ref x) (.ref C) "__class__") (.bind (.builtin "getset_descriptor.__get__") (.builtin "object.__class__")):=by
 have L1:=looks_findIn (M:=M) X q.gc
 have L2:Looks M h (getOf (some (.builtin "object.__class__"))) (some (.builtin "getset_descriptor.__get__")):=looks_specialIn X q.sg
 have L3:=looks_takesIn (M:=M) X q.tk
 refine L1.andThen (L2.andThen ?_)
 exact (show Looks M h (dataDescriptor? (some (.builtin "object.__class__")) (some (.builtin "getset_descriptor.__get__"))) (some (.builtin "getset_descriptor.__get__",.builtin "object.__class__")) from L3.andThen .now).andThen (Looks.tag .now)
theorem tN {tk:Tok} (X:K.In s.heap) (hx:s.heap.get? x = some ox) (hc:ox.cls = .ref C) (q:iY K C) (h:R (.ok (.ret (.ref C))) s) :
  codeAny (model prog w) A (.call (.builtin "BaseException.__getattribute__") ⟨[.ref x,.str "__class__" tk],[]⟩) R s:=by
 obtain ⟨hh,g,dr,t,os⟩:=s
 have L0:=w6 (M:=model prog w) hx hc
 have L1:=looks_mroIn (M:=model prog w) X q.mb
 have L2:=tM (M:=model prog w) (x:=x) X q
 refine codeAny_call_builtin PySem.F.attrBase_ValueError.ga.plain PySem.F.entry_bexc_ga ?_
 have hk:builtinKind "BaseException.__getattribute__" = some .slot:=by decide +kernel
 have Hw:splitId "BaseException.__getattribute__" = some ("BaseException","__getattribute__"):=by decide +kernel
 have ha:=PySem.F.args_bexc_ga (.ref x) (.str "__class__" tk)
 simp only [checkBuiltinCall,hk,Hw]
 refine wpAny_bind ?_
 unfold isInstance
 refine wpAny_bind (L0.at (L1.at ?_))
 simp only [Bool.not_true,Bool.false_eq_true,if_false]
 unfold argsOk at ha
 generalize Manifest.signature? "BaseException.__getattribute__" = sg at ha ⊢
 cases sg
 all_goals (try (dsimp only at ha ⊢; rw [ha]))
 all_goals refine wpAny_pure ?_
 all_goals unfold Builtin.«object.__getattribute__»
 all_goals (refine wpAny_bind (wpAny_pure ?_))
 all_goals (refine wpAny_bind (wpAny_pure ?_))
 all_goals (refine wpAny_bind (L0.at (wpAny_bind (L2.at ?_))))
 all_goals (unfold bindTo)
 all_goals (dsimp only)
 all_goals (refine wpAny_bind (wpAny_holding ?_))
 all_goals (refine wpAny_call (vC X hx hc q.mo ?_))
 all_goals (exact wpAny_pure h)
theorem yy {tk:Tok} {Q:Value → Shared → Prop} (X:K.In s.heap) (hx:s.heap.get? x = some ox) (hc:ox.cls = .ref C) (q:iY K C) (h:Q (.ref C) s):wpAny (model prog w) A (getAttrBy (.ref x) (.str "__class__" tk) false) Q E s:=by
 obtain ⟨hh,g,dr,t,os⟩:=s
 have L0:=w6 (M:=model prog w) hx hc
 have L1:=looks_findIn (M:=model prog w) X q.ga
 have L2:=looks_findIn (M:=model prog w) X q.gh
 unfold getAttrBy
 refine wpAny_holding (wpAny_bind (L0.at (wpAny_bind (L1.at ?_))))
 have Ss:(Value.builtin "BaseException.__getattribute__" == Value.builtin "object.__getattribute__") = false:=by decide +kernel
 have Su:(onTheHeap (Value.ref C) && Value.builtin "BaseException.__getattribute__" == Value.builtin "object.__getattribute__") = false:=by rw [Ss]; rfl
 dsimp only
 rw [if_neg (by rw [Su]; decide)]
 unfold getAttrByItsOwn
 refine wpAny_bind ?_
 have L3:Looks (model prog w) hh (hookBefore (.ref C)) none:=looks_hook X (by rw [if_pos (by rfl)]; exact q.gh)
 refine L3.at (wpAny_bind (wpAny_attempt (wpAny_holding ?_)))
 unfold callGetattribute
 rw [if_neg (by simp)]
 unfold boundAndCalled
 rw [PySem.F.attrBase_ValueError.ga.bind (.ref x)]
 refine wpAny_bind (wpAny_pure ?_)
 refine wpAny_call (tN X hx hc q ?_)
 exact handed_on rfl h
theorem tO {Q:Option Value → Shared → Prop} (X:K.In s.heap) (hx:s.heap.get? x = some ox) (hc:ox.cls = .ref C) (q:iY K C) (h:Q (some (.ref C)) { s with toks:=s.toks + 1 }):wpAny (model prog w) A (getAttr? (.ref x) "__class__") Q E s:=by
 unfold getAttr? getAttrBy?
 refine wpAny_bind (wpAny_mkText (wpAny_bind (wpAny_attempt (yy X hx hc q ?_))))
 exact wpAny_pure h
end
theorem AR {K:PySem.W.Frag} {x C:Addr} {ox:Obj} (hc:ox.cls = .ref C) (q:iY K C):KitX K (.ref x) (.ref C) (fun h => h.get? x = some ox) where
 ty:=fun _ _ _ hx => w6 hx hc
 it:=fun M h X _ => (kit_cls (M:=M) X q.kc).2.1
 ne:=fun h tp dd aO n sl X e => Bool.eq_false_iff.mpr fun z => by
  have z:=beq_iff_eq.mp z
  cases z
  have kc:=q.kc
  unfold kitCls at kc
  dsimp only at kc
  split at kc
  ·rename_i z
   rw [Bool.and_eq_true] at z
   have z0:=z.1
   unfold clsIn at z0
   split at z0
   ·rename_i c' d' T7 Ez ho
    rw [X _ _ ho] at e
    cases e
   ·cases z0
  ·cases kc
 ca:=fun X hx k => tO X hx hc q k
end L2
namespace MN
open PySem PySem.Spec L2
open PyProof.Rows hiding St
inductive pA (K:PySem.W.Frag) (mg:Str → Option Value):List Str → Prop
 | nil:pA K mg []
 | cons {x:Str} {C:Addr} {r:List Str} (hm:mg x = some (.ref C)) (hq:q? K C = true) (hr:pA K mg r):pA K mg (x :: r)
theorem pA.at_ {K:PySem.W.Frag} {mg:Str → Option Value} {c:Str}:∀ {qs:List Str},pA K mg qs → qs.contains c = true → ∃ C,mg c = some (.ref C) ∧ iY K C
 | _,.nil,h => by simp at h
 | _,.cons (x:=x) hm hq hr,h => by
  by_cases e:c = x
  ·subst e; exact ⟨_,hm,yx hq⟩
  ·exact hr.at_ (by simpa [e] using h)
end MN
namespace MN
open PySem PySem.Spec L2
open PyProof.Rows hiding St
noncomputable def Hx:cn ah → cn ah
 | .ok v st => .ok v st
 | _ => .bad
structure K2 where
 S:nM
 own:Str
 line:Nat
 col:Nat
end MN
namespace MN
open PySem PySem.Spec L2
open PyProof.Rows hiding St
end MN
namespace L2
open PySem PySem.Spec PyProof.Rows
end L2
namespace MN
open PySem PySem.Spec L2
open PyProof.Rows hiding St
end MN
namespace MN
open PySem PySem.Spec L2
open PyProof.Rows hiding St
end MN
namespace PM
open PySem PySem.Spec L2 MN
open PyProof.Rows hiding St
noncomputable def eM:ah:=.mt ([2,3,5,7,11,13,17,19,23,29,31].map ah.int)
noncomputable def fS:FN:=fB 1 1 (bD (vh (KJ "int" (ae 0)) (GQ (KJ "bool" (ae 0)))))
noncomputable def bQ:FN:=fB 1 1 (aK (gN (bX (ai (G? false) (ae 0) (mC PM.eM))) (bD (mC (.bl true))) bM) (aK (gN (vi (bX (ai ltV (ae 0) (mC (.int 2)))) (bX (ai qV (ae 0) (mC (.int 997))))) (bD (mC (.bl false))) bM) (bD (ao yh (aa (dX 1 [0] (n_ (mC PM.eM)) (bb 0) cO (ai m5 (ai cq (ae 1) (ae 0)) (mC (.int 0)))) aq)))))
noncomputable def dG:FN:=fB 1 1 (bD (Kz (bX (ai ltV (ae 0) (mC (.int 0)))) (h! (mC (.int 1))) (mC (.int 1))))
noncomputable def gF:FN:=fB 1 1 (aK (gN (bX (ai m5 (ao tw (aa (ae 0) aq)) (mC (.int 1)))) (gC "NoInverse" (aa (mC (.str "only 1 and -1 have an inverse among the whole numbers")) aq)) bM) (bD (ae 0)))
noncomputable def fg:FN:=fB 1 1 (bD (vh (ao PM.fS (aa (ae 0) aq)) (Mw (ai dP (ae 0) (mC (.int 0))) (ao PM.bQ (aa (ae 0) aq)))))
noncomputable def shared:FN:=fB 2 6 (aK (aU 2 (iQ (aa (ao tw (aa (ae 0) aq)) (aa (ao PM.dG (aa (ae 0) aq)) (aa (mC (.int 0)) aq))))) (aK (aU 3 (iQ (aa (ao tw (aa (ae 1) aq)) (aa (mC (.int 0)) (aa (ao PM.dG (aa (ae 1) aq)) aq))))) (aK (cb (bX (ai m5 (ai dQ (ae 3) (mC (.int 0))) (mC (.int 0)))) (aK (aU 4 (ai gu (ai dQ (ae 2) (mC (.int 0))) (ai dQ (ae 3) (mC (.int 0))))) (aK (aU 5 (ao vk (aa (dX 2 [4] (p! false false (aa (ae 2) (aa (ae 3) aq))) (iT [(bb 0),(bb 1)]) cO (ai gD (ae 0) (ai b9 (ae 2) (ae 1)))) aq))) (aK (aU 2 (ae 3)) (aU 3 (ae 5)))))) (bD (ae 2)))))
noncomputable def fT:FN:=fB 1 1 (gN (nT (bX (ao PM.fg (aa (ae 0) aq)))) (gC "NoRing" (aa (mC (.str "a ring is 0 or a prime from 2 to 997")) aq)) bM)
noncomputable def inverse:FN:=fB 2 2 (aK (eh (ao PM.fT (aa (ae 0) aq))) (aK (gN (bX (ai dP (ae 0) (mC (.int 0)))) (bD (ao PM.gF (aa (ae 1) aq))) bM) (aK (gN (bX (ai dP (ai cq (ae 1) (ae 0)) (mC (.int 0)))) (gC "NoInverse" (aa (mC (.str "a multiple of the prime has no inverse")) aq)) bM) (bD (ai cq (ai dQ (ao PM.shared (aa (ai cq (ae 1) (ae 0)) (aa (ae 0) aq))) (mC (.int 1))) (ae 0))))))
end PM
namespace PM
open PySem PySem.Spec L2 MN
open PyProof.Rows hiding St
noncomputable def bO:FN:=fB 2 3 (aK (aU 2 (dX 1 [0] (n_ (ae 1)) (bb 0) cO (ai cq (ae 0) (ae 1)))) (aK (cb (dE (bX (ai qV (ao bY (aa (ae 2) aq)) (mC (.int 0)))) (bX (ai dP (ai dQ (ae 2) (h! (mC (.int 1)))) (mC (.int 0))))) (eh (AK vB (ae 2)))) (bD (ae 2))))
noncomputable def aZ:FN:=fB 2 5 (aK (aU 2 (mC (.int 0))) (aK (gN (bX (ai ltV (ae 1) (ao bY (aa (ae 0) aq)))) (aU 2 (ai dQ (ae 0) (ae 1))) bM) (aK (gN (bX (ai qV (ao tw (aa (ae 2) aq)) (ai yc (mC (.int 10)) (mC (.int 9))))) (bD (ae 2)) bM) (aK (aU 3 (ai cq (ai cS (ai cS (ai cS (ai b9 (ae 2) (mC (.int 48271))) (ai b9 (ai b9 (mC (.int 7919)) (ae 1)) (ae 1))) (ai b9 (mC (.int 104729)) (ae 1))) (mC (.int 11))) (mC (.int 2147483647)))) (aK (aU 4 (ai cq (ai b9 (ai cq (ai b9 (ae 3) (ae 3)) (mC (.int 2147483629))) (mC (.int 69621))) (mC (.int 2147483647)))) (bD (ai cS (ai b9 (ai cq (ai b9 (ae 4) (ae 4)) (mC (.int 2147483587))) (mC (.int 2147483647))) (ae 4))))))))
noncomputable def eO:FN:=fB 1 2 (aK (aU 1 (ai dQ (cF (aa (mC (.int 2)) (aa (mC (.int 3)) (aa (mC (.int 5)) (aa (mC (.int 7)) (aa (mC (.int 11)) (aa (mC (.int 13)) (aa (ai cS (mC (.int 2)) (ai cq (ai gu (ae 0) (mC (.int 8))) (mC (.int 996)))) (aa (ai cS (mC (.int 2)) (ai cq (ai gu (ae 0) (mC (.int 8))) (mC (.int 996)))) aq))))))))) (ai cq (ae 0) (mC (.int 8))))) (aK (cb (bX (ai m5 (dX 1 [1] (eJ (aa (mC (.int 2)) (aa (mC (.int 32)) aq))) (bb 0) (dE (bX (ai ltV (ae 0) (ae 1))) (bX (ai dP (ai cq (ae 1) (ae 0)) (mC (.int 0))))) (ae 0)) (cF aq))) (aU 1 (ai gD (ae 1) (mC (.int 1))))) (bD (ae 1))))
noncomputable def bu:FN:=fB 1 1 (gN (vi (nT (bX (ao PM.fg (aa (ae 0) aq)))) (bX (ai dP (ae 0) (mC (.int 0))))) (gC "NoPrime" (aa (mC (.str "a prime is one from 2 to 997")) aq)) bM)
noncomputable def gP:FN:=fB 2 2 (aK (eh (ao PM.bu (aa (ae 0) aq))) (bD (ao PM.bO (aa (ae 0) (aa (ae 1) aq)))))
noncomputable def fG:FN:=fB 3 5 (aK (eh (ao PM.bu (aa (ae 0) aq))) (aK (aU 3 (mC (.int 0))) (aK (pz (wZ (aa (ae 1) aq)) (bb 4) (aU 3 (ai cq (ai cS (ai b9 (ae 3) (ae 2)) (ae 4)) (ae 0)))) (bD (ae 3)))))
noncomputable def dR:FN:=fB 2 2 (bD (ai cS (ao iS (aa (ae 0) aq)) (ai b9 (cF (aa (mC (.int 0)) aq)) (ai gD (ae 1) (ao bY (aa (ae 0) aq))))))
noncomputable def jV:FN:=fB 1 2 (aK (aU 1 (ao bY (aa (ae 0) aq))) (aK (cb (dE (bX (ai qV (ae 1) (mC (.int 0)))) (bX (ai dP (ai dQ (ae 0) (ai gD (ae 1) (mC (.int 1)))) (mC (.int 0))))) (aU 1 (ai gD (ae 1) (mC (.int 1))))) (bD (MF (ae 0) AI (AJ (ae 1))))))
noncomputable def bF:FN:=fB 4 6 (aK (aU 4 (ao yt (aa (ao bY (aa (ae 1) aq)) (aa (ao bY (aa (ae 2) aq)) aq)))) (aK (aU 5 (ao PM.dR (aa (ae 1) (aa (ae 4) aq)))) (bD (ao PM.bO (aa (ae 0) (aa (dX 2 [3] (p! true true (aa (ae 5) (aa (ao PM.dR (aa (ae 2) (aa (ae 4) aq))) aq))) (iT [(bb 0),(bb 1)]) cO (ai cS (ae 0) (ai b9 (ae 2) (ae 1)))) aq))))))
noncomputable def cN:FN:=fB 3 8 (aK (gN (vi (bX (ai dP (ao bY (aa (ae 1) aq)) (mC (.int 0)))) (bX (ai dP (ao bY (aa (ae 2) aq)) (mC (.int 0))))) (bD (cF aq)) bM) (aK (aU 3 (ai b9 (cF (aa (mC (.int 0)) aq)) (ai gD (ai cS (ao bY (aa (ae 1) aq)) (ao bY (aa (ae 2) aq))) (mC (.int 1))))) (aK (pz (iX (aa (ae 1) aq)) (iT [(bb 4),(bb 5)]) (pz (iX (aa (ae 2) aq)) (iT [(bb 6),(bb 7)]) (qa yr (ae 3) (ai cS (ae 4) (ae 6)) (ai b9 (ae 5) (ae 7))))) (bD (ao PM.bO (aa (ae 0) (aa (ae 3) aq)))))))
noncomputable def b7:FN:=fB 3 3 (bD (ao PM.bO (aa (ae 0) (aa (dX 1 [2] (n_ (ae 1)) (bb 0) cO (ai b9 (ae 0) (ae 1))) aq))))
noncomputable def cW:FN:=fB 2 2 (bD (ao PM.bO (aa (ae 0) (aa (dX 1 [1] (eJ (aa (mC (.int 1)) (aa (ao bY (aa (ae 1) aq)) aq))) (bb 0) cO (ai b9 (ae 0) (ai dQ (ae 1) (ae 0)))) aq))))
noncomputable def fH:FN:=fB 3 6 (aK (aU 3 (cF aq)) (aK (pz (m6 (aa (ae 2) aq)) (bb 4) (aK (aU 5 (ai cq (ai cS (ae 1) (ai b9 (mC (.int 7919)) (ae 4))) (mC (.int 2147483647)))) (aK (aU 5 (ai cq (ai b9 (ai cq (ai b9 (ae 5) (ae 5)) (mC (.int 2147483629))) (mC (.int 48271))) (mC (.int 2147483647)))) (eh (kD ic (ae 3) (aa (ai cq (ai gu (ae 5) (ai cS (mC (.int 1)) (ae 4))) (ae 0)) aq)))))) (bD (ao PM.jV (aa (ae 3) aq)))))
noncomputable def iZ:FN:=fB 3 3 (aK (eh (ao PM.bu (aa (ae 0) aq))) (bD (ao PM.bF (aa (ae 0) (aa (ae 1) (aa (ae 2) (aa (mC (.int 1)) aq)))))))
noncomputable def gQ:FN:=fB 3 3 (aK (eh (ao PM.bu (aa (ae 0) aq))) (bD (ao PM.bF (aa (ae 0) (aa (ae 1) (aa (ae 2) (aa (h! (mC (.int 1))) aq)))))))
noncomputable def gR:FN:=fB 3 3 (aK (eh (ao PM.bu (aa (ae 0) aq))) (bD (ao PM.cN (aa (ae 0) (aa (ae 1) (aa (ae 2) aq))))))
noncomputable def fU:FN:=fB 3 3 (aK (eh (ao PM.bu (aa (ae 0) aq))) (bD (ao PM.b7 (aa (ae 0) (aa (ae 1) (aa (ae 2) aq))))))
noncomputable def gS:FN:=fB 2 2 (aK (eh (ao PM.bu (aa (ae 0) aq))) (bD (ao PM.cW (aa (ae 0) (aa (ae 1) aq)))))
end PM
namespace PM
open PySem PySem.Spec L2 MN
open PyProof.Rows hiding St
noncomputable def parted:FN:=fB 3 11 (aK (aU 3 (ao iS (aa (ae 1) aq))) (aK (aU 4 (ao PM.inverse (aa (ae 0) (aa (ai dQ (ae 2) (h! (mC (.int 1)))) aq)))) (aK (aU 5 (ao yt (aa (mC (.int 0)) (aa (ai cS (ai gD (ao bY (aa (ae 1) aq)) (ao bY (aa (ae 2) aq))) (mC (.int 1))) aq)))) (aK (aU 6 (ai b9 (cF (aa (mC (.int 0)) aq)) (ae 5))) (aK (pz (q! (aa (ai gD (ae 5) (mC (.int 1))) (aa (h! (mC (.int 1))) (aa (h! (mC (.int 1))) aq)))) (bb 7) (aK (aU 8 (ai cq (ai b9 (ai dQ (ae 3) (ai gD (ai cS (ae 7) (ao bY (aa (ae 2) aq))) (mC (.int 1)))) (ae 4)) (ae 0))) (aK (wW (ae 6) (ae 7) (ae 8)) (pz (iX (aa (ae 2) aq)) (iT [(bb 9),(bb 10)]) (qa Du (ae 3) (ai cS (ae 7) (ae 9)) (ai b9 (ae 8) (ae 10))))))) (bD (iQ (aa (ao PM.bO (aa (ae 0) (aa (ae 6) aq))) (aa (ao PM.bO (aa (ae 0) (aa (ae 3) aq))) aq)))))))))
noncomputable def divided:FN:=fB 3 3 (aK (eh (ao PM.bu (aa (ae 0) aq))) (aK (gN (bX (ai dP (ao bY (aa (ae 2) aq)) (mC (.int 0)))) (gC "ByNought" (aa (mC (.str "no row is divided by nought")) aq)) bM) (bD (ao PM.parted (aa (ae 0) (aa (ae 1) (aa (ae 2) aq)))))))
noncomputable def dS:FN:=fB 3 5 (aK (aU 3 (ao PM.parted (aa (ae 0) (aa (ai dQ (ae 1) (mC (.int 0))) (aa (ai dQ (ae 2) (mC (.int 0))) aq))))) (aK (aU 4 (dX 1 [2,3,0] (n_ (iQ (aa (mC (.int 1)) (aa (mC (.int 2)) aq)))) (bb 0) cO (ao PM.cN (aa (ae 3) (aa (ai dQ (ae 2) (mC (.int 0))) (aa (ai dQ (ae 1) (ae 0)) aq)))))) (bD (iQ (aa (ai dQ (ae 3) (mC (.int 1))) (aa (ao PM.bF (aa (ae 0) (aa (ai dQ (ae 1) (mC (.int 1))) (aa (ai dQ (ae 4) (mC (.int 0))) (aa (h! (mC (.int 1))) aq))))) (aa (ao PM.bF (aa (ae 0) (aa (ai dQ (ae 1) (mC (.int 2))) (aa (ai dQ (ae 4) (mC (.int 1))) (aa (h! (mC (.int 1))) aq))))) aq)))))))
noncomputable def met:FN:=fB 3 10 (aK (aU 3 (iQ (aa (ae 1) (aa (cF (aa (mC (.int 1)) aq)) (aa (cF aq) aq))))) (aK (aU 4 (iQ (aa (ae 2) (aa (cF aq) (aa (cF (aa (mC (.int 1)) aq)) aq))))) (aK (cb (bX (ai qV (ao bY (aa (ai dQ (ae 4) (mC (.int 0))) aq)) (mC (.int 0)))) (aK (aU 5 (ao PM.dS (aa (ae 0) (aa (ae 3) (aa (ae 4) aq))))) (aK (aU 3 (ae 4)) (aU 4 (ae 5))))) (aK (aU 6 (ao PM.inverse (aa (ae 0) (aa (ai dQ (ai dQ (ae 3) (mC (.int 0))) (h! (mC (.int 1)))) aq)))) (aK (aU 7 (ao PM.b7 (aa (ae 0) (aa (ai dQ (ae 3) (mC (.int 0))) (aa (ae 6) aq))))) (aK (aU 8 (ai dQ (ao PM.parted (aa (ae 0) (aa (ae 1) (aa (ae 7) aq)))) (mC (.int 0)))) (aK (aU 9 (ai dQ (ao PM.parted (aa (ae 0) (aa (ae 2) (aa (ae 7) aq)))) (mC (.int 0)))) (bD (iQ (aa (ae 7) (aa (ae 8) (aa (ae 9) (aa (ao PM.b7 (aa (ae 0) (aa (ai dQ (ae 3) (mC (.int 1))) (aa (ae 6) aq)))) (aa (ao PM.b7 (aa (ae 0) (aa (ai dQ (ae 3) (mC (.int 2))) (aa (ae 6) aq)))) aq))))))))))))))
noncomputable def meet:FN:=fB 3 3 (aK (eh (ao PM.bu (aa (ae 0) aq))) (aK (gN (dE (bX (ai dP (ao bY (aa (ae 1) aq)) (mC (.int 0)))) (bX (ai dP (ao bY (aa (ae 2) aq)) (mC (.int 0))))) (gC "NoMeet" (aa (mC (.str "two noughts have no greatest divisor")) aq)) bM) (bD (ao PM.met (aa (ae 0) (aa (ae 1) (aa (ae 2) aq)))))))
end PM
namespace MN
open PySem PySem.Spec L2
open PyProof.Rows hiding St
theorem gT {g:ag → Prop} {a:AS} {body:MB} (P:Nat → Env → ag → Prop):∀ (us:List ah) (k:Nat) (μ:Env) (st:ag),
  (∀ (i:Nat) (u:ah) (μ:Env) (st:ag),us[i]? = some u → P (k + i) μ st → g st ∧ ∃ μ1,a u μ = some μ1 ∧ ∃ μ' aC,(body μ1 st = .nx μ' aC ∨ body μ1 st = .ct μ' aC) ∧ P (k + i + 1) μ' aC) →
  (∀ μ st,P (k + us.length) μ st → g st) → P k μ st → ∃ μ' aC,forL g a body us μ st = .nx μ' aC ∧ P (k + us.length) μ' aC
 | [],k,μ,st,_,he,h => by
  refine ⟨μ,st,?_,h⟩
  unfold forL
  rw [if_pos (he μ st h)]
 | u :: us,k,μ,st,hs,he,h => by
  obtain ⟨hg,μ1,ha,μ',aC,hb,hP⟩:=hs 0 u μ st rfl h
  have ih:=gT (a:=a) (body:=body) P us (k + 1) μ' aC (fun i v μ2 bS hv hp => by
   have:=hs (i + 1) v μ2 bS hv (by rw [show k + (i + 1) = k + 1 + i by lia]; exact hp)
   rw [show k + (i + 1) + 1 = k + 1 + i + 1 by lia] at this
   exact this) (fun μ2 bS hp => he μ2 bS (by rw [List.length_cons,show k + (us.length + 1) = k + 1 + us.length by lia]; exact hp)) hP
  obtain ⟨μ2,bS,e2,p2⟩:=ih
  refine ⟨μ2,bS,?_,by rw [List.length_cons,show k + (us.length + 1) = k + 1 + us.length by lia]; exact p2⟩
  unfold forL
  rw [if_pos hg,ha]
  rcases hb with hb | hb <;> (dsimp only; rw [hb]; exact e2)
theorem fV {g:ag → Prop} {a:AS} {c:MT} {e:ME} {st:ag} (hg:g st) (I:Env → Prop) (p:ah → Bool) (f:ah → ah):∀ (us:List ah) (τ:Env) (ys:List ah),I τ →
  (∀ u ∈ us,∀ τ,I τ → ∃ τ1,a u τ = some τ1 ∧ I τ1 ∧ c τ1 st = .ok (p u) st ∧ (p u = true → e τ1 st = .ok (f u) st)) → c9 g a c e us τ st ys = .ok (ys ++ (us.filter p).map f) st
 | [],τ,ys,_,_ => by
  unfold c9
  rw [if_pos hg]; simp
 | u :: us,τ,ys,hI,hs => by
  obtain ⟨τ1,h1,h2,h3,h4⟩:=hs u List.mem_cons_self τ hI
  have EY:=fun v hv => hs v (List.mem_cons_of_mem u hv)
  unfold c9
  rw [if_pos hg,h1]
  dsimp only
  rw [h3]
  cases z:p u with
  | true =>
   dsimp only
   rw [h4 z]
   dsimp only
   rw [fV hg I p f us τ1 _ h2 EY,List.filter_cons_of_pos z]
   simp
  | false =>
   dsimp only
   rw [fV hg I p f us τ1 _ h2 EY,List.filter_cons_of_neg (by rw [z]; simp)]
theorem bw (st:ag) (us:List ah):ak (st ++ [.lst us]) st.length = some us:=by
 unfold ak
 rw [List.getElem?_append_right (Nat.le_refl _),Nat.sub_self]; rfl
theorem a7 {st:ag} {n:Nat} {us:List ah} (h:ak st n = some us) (more:ag):ak (st ++ more) n = some us:=by
 have hn:n < st.length:=by
  rcases Nat.lt_or_ge n st.length with q | q
  ·exact q
  ·unfold ak at h; rw [List.getElem?_eq_none q] at h; cases h
 unfold ak at h ⊢
 rw [List.getElem?_append_left hn]; exact h
theorem oh {t:MT} {body:MB} (P:Env → ag → Prop) (M:Env → ag → Nat) (Q:Env → ag → Prop)
  (hs:∀ μ st,P μ st → (∃ st1,t μ st = .ok false st1 ∧ Q μ st1) ∨ ∃ st1 μ' aC,t μ st = .ok true st1 ∧ (body μ st1 = .nx μ' aC ∨ body μ st1 = .ct μ' aC) ∧ P μ' aC ∧ M μ' aC < M μ st) :
  ∀ (n:Nat) (μ:Env) (st:ag),M μ st < n → P μ st → ∃ μ' aC,e? t body n μ st = some (.nx μ' aC) ∧ Q μ' aC
 | 0,μ,st,h,_ => absurd h (Nat.not_lt_zero _)
 | n + 1,μ,st,h,hp => by
  unfold e?
  rcases hs μ st hp with ⟨st1,e,q⟩ | ⟨st1,μ',aC,e,hb,p',lt⟩
  ·rw [e]; exact ⟨μ,st1,rfl,q⟩
  ·rw [e]
   dsimp only
   obtain ⟨μ2,bS,e2,q2⟩:=oh P M Q hs n μ' aC (by lia) p'
   rcases hb with hb | hb <;> (rw [hb]; exact ⟨μ2,bS,e2,q2⟩)
theorem dH {t:MT} {body:MB} (P:Env → ag → Prop) (M:Env → ag → Nat) (Q:Env → ag → Prop)
  (hs:∀ μ st,P μ st → (∃ st1,t μ st = .ok false st1 ∧ Q μ st1) ∨ ∃ st1 μ' aC,t μ st = .ok true st1 ∧ (body μ st1 = .nx μ' aC ∨ body μ st1 = .ct μ' aC) ∧ P μ' aC ∧ M μ' aC < M μ st)
  (μ:Env) (st:ag) (hp:P μ st):∃ μ' aC,cb t body μ st = .nx μ' aC ∧ Q μ' aC:=by
 obtain ⟨μ',aC,e,q⟩:=oh P M Q hs (M μ st + 1) μ st (Nat.lt_succ_self _) hp
 exact ⟨μ',aC,yn e,q⟩
end MN
namespace MN
open PySem PySem.Spec L2
open PyProof.Rows hiding St
noncomputable def cn.gL {α β:Type} (r:cn α) (k:α → ag → cn β):cn β:=match r with
 | .ok a st => k a st
 | .err c st => .err c st
 | .bad => .bad
noncomputable def cn.ko {α:Type} (r:cn α) (μ:Env) (k:α → ag → bN):bN:=match r with
 | .ok a st => k a st
 | .err c st => .er c μ st
 | .bad => .bad
noncomputable def bN.cR (r:bN) (k:MB):bN:=match r with
 | .nx μ st => k μ st
 | .rt v st => .rt v st
 | .bk μ st => .bk μ st
 | .ct μ st => .ct μ st
 | .er c μ st => .er c μ st
 | .bad => .bad
noncomputable def bN.fin (r:bN):cn ah:=match r with
 | .nx _ aC => .ok .dA aC
 | .rt v aC => .ok v aC
 | .er c _ aC => .err c aC
 | _ => .bad
section
variable {α β:Type} {μ:Env} {st:ag}
theorem aj {a:α} {k:α → ag → cn β}:(cn.ok a st).gL k = k a st:=rfl
theorem av {a:α} {k:α → ag → bN}:(cn.ok a st).ko μ k = k a st:=rfl
theorem c_ {c:Str} {k:α → ag → bN}:(cn.err c st:cn α).ko μ k = .er c μ st:=rfl
theorem aD {k:MB}:(bN.nx μ st).cR k = k μ st:=rfl
theorem dq {v:ah} {k:MB}:(bN.rt v st).cR k = .rt v st:=rfl
theorem dZ {c:Str} {k:MB}:(bN.er c μ st).cR k = .er c μ st:=rfl
theorem AU:(bN.nx μ st).fin = .ok .dA st:=rfl
theorem aY {v:ah}:(bN.rt v st).fin = .ok v st:=rfl
theorem du {c:Str}:(bN.er c μ st).fin = .err c st:=rfl
theorem fW {r:cn α} {k:α → ag → cn β}:r.bind k = r.gL k:=by cases r <;> rfl
variable {a b c:ME} {f g:F2} {t u:MT} {s1 s2:MB} {ms:MA} {i:Nat} {v:ah}
theorem b_ {r:cn α} {k k':α → ag → cn β} (h:∀ a st,k a st = k' a st):r.bind k = r.gL k':=by cases r <;> first | exact h _ _ | rfl
theorem dI {r:cn α} {k k':α → ag → bN} (h:∀ a st,k a st = k' a st):r.sb μ k = r.ko μ k':=by cases r <;> first | exact h _ _ | rfl
noncomputable def AV (f:F2) (x:ah):ah → ag → cn ah:=fun y st => f x y st
noncomputable def K3 (f:F2) (b:ME) (μ:Env):ah → ag → cn ah:=fun x st => (b μ st).gL (AV f x)
theorem aw:ai f a b μ st = (a μ st).gL (K3 f b μ):=b_ fun _ _ => b_ fun _ _ => rfl
theorem aG {x:ah}:K3 f b μ x st = (b μ st).gL (AV f x):=rfl
theorem ax {x y:ah}:AV f x y st = f x y st:=rfl
theorem a8:mC v μ st = .ok v st:=rfl
noncomputable def QK:ah → ag → cn Bool
 | .bl b,st => .ok b st
 | _,_ => .bad
theorem aF {b:Bool}:QK (.bl b) st = .ok b st:=rfl
theorem aE:bX a μ st = (a μ st).gL QK:=b_ fun x _ => by cases x <;> rfl
noncomputable def Hy (b:ME) (μ:Env):ah → ag → cn ah
 | .bl true,st => b μ st
 | .bl false,st => .ok (.bl false) st
 | _,_ => .bad
theorem kI:vh a b μ st = (a μ st).gL (Hy b μ):=b_ fun x _ => by
 cases x <;> try rfl
 rename_i k; cases k <;> rfl
theorem m7:Hy b μ (.bl true) st = b μ st:=rfl
theorem w9:Hy b μ (.bl false) st = .ok (.bl false) st:=rfl
noncomputable def Ot (b:ME) (μ:Env):ah → ag → cn ah
 | .bl true,st => .ok (.bl true) st
 | .bl false,st => b μ st
 | _,_ => .bad
theorem EZ:Mw a b μ st = (a μ st).gL (Ot b μ):=b_ fun x _ => by
 cases x <;> try rfl
 rename_i k; cases k <;> rfl
theorem Hz:Ot b μ (.bl true) st = .ok (.bl true) st:=rfl
theorem HA:Ot b μ (.bl false) st = b μ st:=rfl
noncomputable def K4:ah → ag → cn ah
 | .bl k,st => .ok (.bl (!k)) st
 | _,_ => .bad
theorem HB:GQ a μ st = (a μ st).gL K4:=b_ fun x _ => by cases x <;> rfl
theorem k_not {k:Bool}:K4 (.bl k) st = .ok (.bl (!k)) st:=rfl
noncomputable def AW (u:MT) (μ:Env):Bool → ag → cn Bool
 | true,st => u μ st
 | false,st => .ok false st
theorem cH:dE t u μ st = (t μ st).gL (AW u μ):=b_ fun x _ => by cases x <;> rfl
theorem dB:AW u μ true st = u μ st:=rfl
theorem fX:AW u μ false st = .ok false st:=rfl
noncomputable def HC (u:MT) (μ:Env):Bool → ag → cn Bool
 | true,st => .ok true st
 | false,st => u μ st
theorem gH:vi t u μ st = (t μ st).gL (HC u μ):=b_ fun x _ => by cases x <;> rfl
theorem w_:HC u μ true st = .ok true st:=rfl
theorem ie:HC u μ false st = u μ st:=rfl
noncomputable def E1:Bool → ag → cn Bool:=fun k st => .ok (!k) st
theorem jW:nT t μ st = (t μ st).gL E1:=b_ fun _ _ => rfl
theorem rf {k:Bool}:E1 k st = .ok (!k) st:=rfl
noncomputable def HD (a b:ME) (μ:Env):Bool → ag → cn ah
 | true,st => a μ st
 | false,st => b μ st
theorem w!:Kz t a b μ st = (t μ st).gL (HD a b μ):=b_ fun x _ => by cases x <;> rfl
theorem w?:HD a b μ true st = a μ st:=rfl
theorem xa:HD a b μ false st = b μ st:=rfl
theorem aA:aq μ st = .ok [] st:=rfl
noncomputable def vD (x:ah):List ah → ag → cn (List ah):=fun xs st => .ok (x :: xs) st
noncomputable def E2 (ms:MA) (μ:Env):ah → ag → cn (List ah):=fun x st => (ms μ st).gL (vD x)
theorem ar:aa a ms μ st = (a μ st).gL (E2 ms μ):=b_ fun _ _ => b_ fun _ _ => rfl
theorem az {x:ah}:E2 ms μ x st = (ms μ st).gL (vD x):=rfl
theorem au {x:ah} {xs:List ah}:vD x xs st = .ok (x :: xs) st:=rfl
noncomputable def K5:List ah → ag → cn ah:=fun xs st => if xs.length ≤ sizeLine then .ok (.tup xs) st else .bad
theorem i5:iQ ms μ st = (ms μ st).gL K5:=b_ fun _ _ => rfl
theorem l6 {xs:List ah}:K5 xs st = if xs.length ≤ sizeLine then .ok (.tup xs) st else .bad:=rfl
noncomputable def K6:List ah → ag → cn ah:=fun xs st => if xs.length ≤ sizeLine then .ok (.loc st.length) (st ++ [.lst xs]) else .bad
theorem fY:cF ms μ st = (ms μ st).gL K6:=b_ fun _ _ => rfl
theorem i6 {xs:List ah}:K6 xs st = if xs.length ≤ sizeLine then .ok (.loc st.length) (st ++ [.lst xs]) else .bad:=rfl
theorem ay {h:FN}:ao h ms μ st = (ms μ st).gL h:=b_ fun _ _ => rfl
noncomputable def K7:ah → ag → cn ah
 | .int i,st => .ok (.int (-i)) st
 | _,_ => .bad
theorem fZ {i:Int}:K7 (.int i) st = .ok (.int (-i)) st:=rfl
theorem jF:h! a μ st = (a μ st).gL K7:=b_ fun x _ => by cases x <;> rfl
noncomputable def AX (T:String) (v:ah) (st:ag):cn ah:=match IX T st v with
 | some b => .ok (.bl b) st
 | none => .bad
theorem E3 {T:String}:KJ T a μ st = (a μ st).gL (AX T):=b_ fun _ _ => rfl
theorem aB:aK s1 s2 μ st = (s1 μ st).cR s2:=by
 unfold aK; cases s1 μ st <;> rfl
theorem aP:bM μ st = .nx μ st:=rfl
noncomputable def E4 (μ:Env):ah → ag → bN:=fun _ st => .nx μ st
theorem bA:eh a μ st = (a μ st).ko μ (E4 μ):=dI fun _ _ => rfl
theorem dy:E4 μ v st = .nx μ st:=rfl
noncomputable def K8:ah → ag → bN:=fun v st => .rt v st
theorem aL:bD a μ st = (a μ st).ko μ K8:=dI fun _ _ => rfl
theorem bp:K8 v st = .rt v st:=rfl
noncomputable def Ou (s1 s2:MB) (μ:Env):Bool → ag → bN
 | true,st => s1 μ st
 | false,st => s2 μ st
theorem aM:gN t s1 s2 μ st = (t μ st).ko μ (Ou s1 s2 μ):=dI fun x _ => by cases x <;> rfl
theorem bz:Ou s1 s2 μ true st = s1 μ st:=rfl
theorem a9:Ou s1 s2 μ false st = s2 μ st:=rfl
noncomputable def K9 (i:Nat) (μ:Env):ah → ag → bN:=fun v st => .nx (μ.set i (some v)) st
theorem bB:aU i a μ st = (a μ st).ko μ (K9 i μ):=dI fun _ _ => rfl
theorem bV:K9 i μ v st = .nx (μ.set i (some v)) st:=rfl
noncomputable def AY (x:Str) (μ:Env):List ah → ag → bN:=fun vs st => if vs.length ≤ sizeLine then .er x μ st else .bad
theorem i7 {x:Str}:gC x ms μ st = (ms μ st).ko μ (AY x μ):=dI fun _ _ => rfl
theorem jX {x:Str} {vs:List ah}:AY x μ vs st = if vs.length ≤ sizeLine then .er x μ st else .bad:=rfl
noncomputable def kFor (as:AS) (s1:MB) (μ:Env):Itm → ag → bN:=fun p st => forL p.2 as s1 p.1 μ st
theorem kJ {it:MI} {as:AS}:pz it as s1 μ st = (it μ st).ko μ (kFor as s1 μ):=dI fun _ _ => rfl
theorem qc {as:AS} {us:List ah} {q:ag → Prop}:kFor as s1 μ (us,q) st = forL q as s1 us μ st:=rfl
noncomputable def HE:List ah → ag → cn ah:=fun ys st => .ok (.loc st.length) (st ++ [.lst ys])
theorem ju {ys:List ah}:HE ys st = .ok (.loc st.length) (st ++ [.lst ys]):=rfl
noncomputable def AZ (k:Nat) (bx:List Nat) (as:AS) (t:MT) (a:ME) (μ:Env):Itm → ag → cn ah:=fun p st => if p.1.length ≤ sizeLine then (c9 p.2 as t a p.1 (iV k bx μ) st []).gL HE else .bad
theorem fh {k:Nat} {bx:List Nat} {it:MI} {as:AS}:dX k bx it as t a μ st = (it μ st).gL (AZ k bx as t a μ):=b_ fun p st1 => by
 unfold AZ
 split
 ·exact b_ fun _ _ => rfl
 ·rfl
theorem gI {k:Nat} {bx:List Nat} {as:AS} {us:List ah} {q:ag → Prop}:AZ k bx as t a μ (us,q) st = if us.length ≤ sizeLine then (c9 q as t a us (iV k bx μ) st []).gL HE else .bad:=rfl
theorem aR {np n:Nat} {us:List ah} (h:us.length = np):fB np n s1 us st = (s1 (us.map some ++ List.replicate (n - np) none) st).fin:=by
 unfold fB; rw [if_pos h]; cases s1 (us.map some ++ List.replicate (n - np) none) st <;> rfl
theorem oj (h:μ[i]? = some (some v)) (hx:Ah v = false):ae i μ st = .ok v st:=by
 unfold ae; rw [h]; simp [hx]
theorem A0 {μ:Env} (hx:Ah v = false):ae 0 (some v :: μ) st = .ok v st:=oj rfl hx
theorem aH {x:Option ah} {μ:Env}:ae (i + 1) (x :: μ) st = ae i μ st:=rfl
theorem aJ {μ:Env} {j:Int}:ae 0 (some (.int j) :: μ) st = .ok (.int j) st:=rfl
theorem HF {μ:Env} {j:Str}:ae 0 (some (.str j) :: μ) st = .ok (.str j) st:=rfl
theorem gW {μ:Env} {j:List ah}:ae 0 (some (.tup j) :: μ) st = .ok (.tup j) st:=rfl
theorem aT {μ:Env} {j:Nat}:ae 0 (some (.loc j) :: μ) st = .ok (.loc j) st:=rfl
noncomputable def tP (v:ah) (st:ag):cn Itm:=match nZ st v with
 | some p => .ok p st
 | none => .bad
theorem jY:n_ a μ st = (a μ st).gL tP:=by unfold n_; rw [fW]; rfl
theorem yz {us:List ah}:tP (.tup us) st = .ok (us,fun _ => True) st:=rfl
theorem kK {n:Nat} {us:List ah} (h:ak st n = some us):tP (.loc n) st = .ok (us,fun aC => ak aC n = some us) st:=by
 simp only [tP,nZ,h]; rfl
noncomputable def HG (vs:List ah) (aC:ag):cn Itm:=match vs with
 | [.int j] => if -(2 ^ 62) ≤ j ∧ j < 2 ^ 62 then .ok (cT 0 j.toNat,fun _ => True) aC else .bad
 | _ => .bad
noncomputable def A1 (vs:List ah) (aC:ag):cn Itm:=match vs with
 | [.int i,.int j] => if -(2 ^ 62) ≤ i ∧ i < 2 ^ 62 ∧ -(2 ^ 62) ≤ j ∧ j < 2 ^ 62 then .ok (cT i (j - i).toNat,fun _ => True) aC else .bad
 | _ => .bad
theorem DD:m6 ms μ st = (ms μ st).gL HG:=by unfold m6; rw [fW]; rfl
theorem rh:eJ ms μ st = (ms μ st).gL A1:=by unfold eJ; rw [fW]; rfl
theorem DE {j:Int} (h1:-(2 ^ 62) ≤ j) (h2:j < 2 ^ 62):HG [.int j] st = .ok (cT 0 j.toNat,fun _ => True) st:=by unfold HG; dsimp only; rw [if_pos ⟨h1,h2⟩]
theorem DF {i j:Int} (h1:-(2 ^ 62) ≤ i) (h2:i < 2 ^ 62) (h3:-(2 ^ 62) ≤ j) (h4:j < 2 ^ 62):A1 [.int i,.int j] st = .ok (cT i (j - i).toNat,fun _ => True) st:=by unfold A1; dsimp only; rw [if_pos ⟨h1,h2,h3,h4⟩]
noncomputable def DG (b1 b2:Bool) (vs:List ah) (aC:ag):cn Itm:=match vs with
 | [u,w] => match fR aC u,fR aC w with
  | some (c1,us,g1),some (c2,ws,g2) => if c1 = b1 ∧ c2 = b2 then .ok (iF us ws,fun bS => g1 bS ∧ g2 bS) aC else .bad
  | _,_ => .bad
 | _ => .bad
theorem A2 {b1 b2:Bool}:p! b1 b2 ms μ st = (ms μ st).gL (DG b1 b2):=by unfold p!; rw [fW]; rfl
theorem DH {us ws:List ah}:DG false false [.tup us,.tup ws] st = .ok (iF us ws,fun _ => True ∧ True) st:=rfl
theorem DI {n:Nat} {us:List ah} (h1:ak st n = some us):vk [.loc n] st = .ok (.tup us) st:=by unfold vk; dsimp only; rw [h1]
theorem d? {i j:Int}:cS (.int i) (.int j) st = .ok (.int (i + j)) st:=rfl
theorem f7 {i j:Int}:gD (.int i) (.int j) st = .ok (.int (i - j)) st:=rfl
theorem vE {i j:Int} (h:MulOk i j):b9 (.int i) (.int j) st = .ok (.int (i * j)) st:=by unfold b9; dsimp only; rw [if_pos h]
theorem vF {i j:Int} (h:Sz i ∧ Sz j):b9 (.int i) (.int j) st = .ok (.int (i * j)) st:=vE (.inl h)
theorem gw {i j:Int} (h1:-(2 ^ 64) < i) (h2:i < 2 ^ 64):b9 (.int i) (.int j) st = .ok (.int (i * j)) st:=vE (.inr (.inl ⟨h1,h2⟩))
theorem mul_r {i j:Int} (h1:-(2 ^ 64) < j) (h2:j < 2 ^ 64):b9 (.int i) (.int j) st = .ok (.int (i * j)) st:=vE (.inr (.inr ⟨h1,h2⟩))
theorem div_ii {i j:Int} (h:Dz j):gu (.int i) (.int j) st = .ok (.int (i.fdiv j)) st:=if_pos h
theorem bK {i j:Int} (h:¬ j = 0):cq (.int i) (.int j) st = .ok (.int (i.fmod j)) st:=if_neg h
theorem om {i j:Int} (h:xI i j):yc (.int i) (.int j) st = .ok (.int (i ^ j.toNat)) st:=if_pos h
theorem i8 {i j:Int}:ltV (.int i) (.int j) st = .ok (.bl (decide (i < j))) st:=rfl
theorem e_ {i j:Int}:qV (.int i) (.int j) st = .ok (.bl (decide (j < i))) st:=rfl
theorem bc {i j:Int}:dP (.int i) (.int j) st = .ok (.bl (i == j)) st:=rfl
theorem A3 {i j:Int}:m5 (.int i) (.int j) st = .ok (.bl (!(i == j))) st:=rfl
theorem K_ {i j:Str}:dP (.str i) (.str j) st = .ok (.bl (i == j)) st:=rfl
theorem K! {i j:Str}:m5 (.str i) (.str j) st = .ok (.bl (!(i == j))) st:=rfl
theorem cz {us:List ah} {i:Int} {v:ah} (h:L2.g! us i = some v):dQ (.tup us) (.int i) st = .ok v st:=by unfold dQ; dsimp only; rw [h]
theorem ee {n:Nat} {us:List ah} {i:Int} {v:ah} (h1:ak st n = some us) (h:L2.g! us i = some v):dQ (.loc n) (.int i) st = .ok v st:=by unfold dQ; dsimp only; rw [h1]; dsimp only; rw [h]
theorem bf {n:Nat} {us:List ah} (h1:ak st n = some us):bY [.loc n] st = .ok (.int us.length) st:=by unfold bY; dsimp only; rw [h1]
theorem tQ {i:Int}:tw [.int i] st = .ok (.int (if i < 0 then -i else i)) st:=rfl
theorem xb {n m:Nat} {us:List ah} (h1:ak st n = some us) (h2:ak st m = some []):mZ 16 st (.loc n) (.loc m) = some us.isEmpty:=by
 unfold mZ
 simp only [vw,h1,h2]
 show jo _ us [] = _
 cases us <;> rfl
theorem eq_nil {n m:Nat} {us:List ah} (h1:ak st n = some us) (h2:ak st m = some []):dP (.loc n) (.loc m) st = .ok (.bl us.isEmpty) st:=by unfold dP; rw [xb h1 h2]
theorem ne_nil {n m:Nat} {us:List ah} (h1:ak st n = some us) (h2:ak st m = some []):m5 (.loc n) (.loc m) st = .ok (.bl (!us.isEmpty)) st:=by unfold m5; rw [xb h1 h2]
noncomputable def cn.Ov (r:cn α):cn α:=match r with
 | .ok v aC => .ok v aC
 | .err _ _ => .bad
 | .bad => .bad
theorem A4 {m:Env → ag → cn α}:Ja m μ st = (m μ st).Ov:=by unfold Ja cn.Ov; cases m μ st <;> rfl
theorem A5 {a:α}:(cn.ok a st).Ov = .ok a st:=rfl
noncomputable def bN.DJ (r:bN):bN:=match r with
 | .er _ _ _ => .bad
 | .nx μ' aC => .nx μ' aC
 | .rt v aC => .rt v aC
 | .bk μ' aC => .bk μ' aC
 | .ct μ' aC => .ct μ' aC
 | .bad => .bad
theorem tR:tF s1 μ st = (s1 μ st).DJ:=by unfold tF bN.DJ; cases s1 μ st <;> rfl
theorem DK:(bN.nx μ st).DJ = .nx μ st:=rfl
theorem DM:(bN.rt v st).DJ = .rt v st:=rfl
noncomputable def bN.DN (r:bN) (kn:Str → Bool) (h:MH):bN:=match r with
 | .er c μ' aC => if kn c = true then h c μ' aC else .bad
 | .nx μ' aC => .nx μ' aC
 | .rt v aC => .rt v aC
 | .bk μ' aC => .bk μ' aC
 | .ct μ' aC => .ct μ' aC
 | .bad => .bad
theorem A6 {kn:Str → Bool} {h:MH}:vq kn s1 h μ st = (s1 μ st).DN kn h:=by unfold vq bN.DN; cases s1 μ st <;> rfl
theorem DO {kn:Str → Bool} {h:MH}:(bN.nx μ st).DN kn h = .nx μ st:=rfl
theorem DP {kn:Str → Bool} {h:MH} {c:Str} (hk:kn c = true):(bN.er c μ st).DN kn h = h c μ st:=by
 show (if kn c = true then h c μ st else .bad) = _
 rw [if_pos hk]
theorem K? {sub:Str → Str → Option Bool} {x c:Str} {r:MH} (h:sub c x = some true):Jb sub x i s1 r c μ st = qX (s1 (μ.set i (some (.exc c))) st):=by unfold Jb; rw [h]
theorem yA:qX (.rt v st) = .rt v st:=rfl
end
end MN
namespace MN
open PySem PySem.Spec L2
open PyProof.Rows hiding St kindOf
end MN
namespace MN
open PySem PySem.Spec L2
open PyProof.Rows hiding St kindOf
section
variable {μ:Env} {st:ag} {a b c o:ME} {ms:MA} {f:F2} {g:FM} {v w:ah} {i n m:Nat} {us ws:List ah}
noncomputable def HH (x:ah) (l:Option Int):Option Int → ag → cn ah:=fun h st => EU l h x st
noncomputable def HI (hi:MO) (μ:Env) (x:ah):Option Int → ag → cn ah:=fun l st => (hi μ st).gL (HH x l)
noncomputable def QL (lo hi:MO) (μ:Env):ah → ag → cn ah:=fun x st => (lo μ st).gL (HI hi μ x)
theorem K' {lo hi:MO}:MF a lo hi μ st = (a μ st).gL (QL lo hi μ):=b_ fun x st1 => b_ fun l bS => b_ fun h js => rfl
theorem Ow {lo hi:MO}:QL lo hi μ v st = (lo μ st).gL (HI hi μ v):=rfl
theorem La {hi:MO} {l:Option Int}:HI hi μ v l st = (hi μ st).gL (HH v l):=rfl
theorem Lb {l h:Option Int}:HH v l h st = EU l h v st:=rfl
theorem A7:AI μ st = .ok none st:=rfl
noncomputable def kO:ah → ag → cn (Option Int)
 | .int i,st => .ok (some i) st
 | _,_ => .bad
theorem A8:AJ a μ st = (a μ st).gL kO:=b_ fun x _ => by cases x <;> rfl
theorem Ox {j:Int}:kO (.int j) st = .ok (some j) st:=rfl
theorem HJ {l h:Option Int} (e:ak st n = some us):EU l h (.loc n) st = .ok (.loc st.length) (st ++ [.lst (vA us l h)]):=by
 simp only [EU,e]
noncomputable def HK (g:FM) (x:ah):List ah → ag → cn ah:=fun xs st => g x xs st
noncomputable def DQ (g:FM) (ms:MA) (μ:Env):ah → ag → cn ah:=fun x st => if lZ st x = true then (ms μ st).gL (HK g x) else .bad
theorem vG:kD g o ms μ st = (o μ st).gL (DQ g ms μ):=b_ fun x st1 => by
 unfold DQ
 split
 ·exact b_ fun _ _ => rfl
 ·rfl
theorem A9 (h:st[n]? = some (.lst us)):DQ g ms μ (.loc n) st = (ms μ st).gL (HK g (.loc n)):=by
 unfold DQ
 rw [if_pos (by unfold lZ; dsimp only; rw [h])]
theorem Lc {xs:List ah}:HK g v xs st = g v xs st:=rfl
noncomputable def HL (g:FM):ah → ag → cn ah:=fun x st => if lZ st x = true then g x [] st else .bad
theorem HM:AK g o μ st = (o μ st).gL (HL g):=b_ fun _ _ => rfl
theorem Ld (h:st[n]? = some (.lst us)):HL g (.loc n) st = g (.loc n) [] st:=by
 unfold HL
 rw [if_pos (by unfold lZ; dsimp only; rw [h])]
theorem yB (h:st[n]? = some (.lst us)) (hl:us.length < sizeLine):ic (.loc n) [v] st = .ok .dA (st.set n (.lst (us ++ [v]))):=by
 simp only [ic,h]
 rw [if_pos hl]
theorem HN (h:st[n]? = some (.lst (us ++ [v]))):vB (.loc n) [] st = .ok v (st.set n (.lst us)):=by
 simp only [vB,h]
 have e:(us ++ [v])[(us ++ [v]).length - 1]? = some v:=by
  rw [List.length_append,List.length_singleton,Nat.add_sub_cancel,List.getElem?_append_right (Nat.le_refl _),Nat.sub_self]; rfl
 rw [e,List.dropLast_concat]
noncomputable def HP (μ:Env) (x y:ah):ah → ag → bN:=fun z st => EV μ (kH y z x st)
noncomputable def HQ (b:ME) (μ:Env) (x:ah):ah → ag → bN:=fun y st => (b μ st).ko μ (HP μ x y)
noncomputable def QM (a b:ME) (μ:Env):ah → ag → bN:=fun x st => (a μ st).ko μ (HQ b μ x)
theorem DR:wW a b c μ st = (c μ st).ko μ (QM a b μ):=dI fun _ _ => dI fun _ _ => dI fun _ _ => rfl
theorem Oy:QM a b μ v st = (a μ st).ko μ (HQ b μ v):=rfl
theorem Le:HQ b μ v w st = (b μ st).ko μ (HP μ v w):=rfl
theorem Lf {x:ah}:HP μ v w x st = EV μ (kH w x v st):=rfl
theorem rj {k:Int} {j:Nat} (h:st[n]? = some (.lst us)) (hj:L2.sV us.length k = some j):kH (.loc n) (.int k) v st = some (st.set n (.lst (us.set j v))):=by
 simp only [kH,h,hj]; rfl
theorem oo:EV μ (some st) = .nx μ st:=rfl
noncomputable def HR (μ:Env) (y z:ah):ah → ag → bN:=fun r st => EV μ (kH y z r st)
noncomputable def HS (f:F2) (μ:Env) (y z x:ah):ah → ag → bN:=fun w st => (f x w st).ko μ (HR μ y z)
noncomputable def HU (f:F2) (c:ME) (μ:Env) (y z:ah):ah → ag → bN:=fun x st => (c μ st).ko μ (HS f μ y z x)
noncomputable def HV (f:F2) (c:ME) (μ:Env) (y:ah):ah → ag → bN:=fun z st => (EW y z st).ko μ (HU f c μ y z)
noncomputable def QN (f:F2) (b c:ME) (μ:Env):ah → ag → bN:=fun y st => (b μ st).ko μ (HV f c μ y)
theorem xc:qa f a b c μ st = (a μ st).ko μ (QN f b c μ):=dI fun _ _ => dI fun _ _ => dI fun _ _ => dI fun _ _ => dI fun _ _ => rfl
theorem Lg:QN f b c μ v st = (b μ st).ko μ (HV f c μ v):=rfl
theorem E5:HV f c μ v w st = (EW v w st).ko μ (HU f c μ v w):=rfl
theorem E6 {x:ah}:HU f c μ v w x st = (c μ st).ko μ (HS f μ v w x):=rfl
theorem E7 {x y:ah}:HS f μ v w x y st = (f x y st).ko μ (HR μ v w):=rfl
theorem E8 {x:ah}:HR μ v w x st = EV μ (kH v w x st):=rfl
theorem A_ {k:Int} (e:ak st n = some us) (h:L2.g! us k = some v):EW (.loc n) (.int k) st = .ok v st:=by
 simp only [EW,e,h]
theorem A! {j k:Int}:yr (.int j) (.int k) st = .ok (.int (j + k)) st:=rfl
theorem HW {j k:Int}:Du (.int j) (.int k) st = .ok (.int (j - k)) st:=rfl
noncomputable def HX (k:Nat) (μ:Env):ah → ag → bN:=fun r st => .nx (μ.set k (some r)) st
noncomputable def HY (k:Nat) (f:F2) (μ:Env) (x:ah):ah → ag → bN:=fun w st => (f x w st).ko μ (HX k μ)
noncomputable def QO (k:Nat) (f:F2) (a:ME) (μ:Env):ah → ag → bN:=fun x st => (a μ st).ko μ (HY k f μ x)
theorem HZ {k:Nat}:AL k f a μ st = (ae k μ st).ko μ (QO k f a μ):=dI fun _ _ => dI fun _ _ => dI fun _ _ => rfl
theorem Oz {k:Nat}:QO k f a μ v st = (a μ st).ko μ (HY k f μ v):=rfl
theorem Lh {k:Nat}:HY k f μ v w st = (f v w st).ko μ (HX k μ):=rfl
theorem Li {k:Nat}:HX k μ v st = .nx (μ.set k (some v)) st:=rfl
theorem DS:q! ms μ st = (ms μ st).gL AN:=by unfold q!; rw [fW]
theorem H9:wZ ms μ st = (ms μ st).gL AO:=by unfold wZ; rw [fW]
theorem rm:iX ms μ st = (ms μ st).gL AQ:=by unfold iX; rw [fW]
theorem H_ {j k:Int} (h1:-(2 ^ 62) ≤ j) (h2:j < 2 ^ 62) (h3:-(2 ^ 62) ≤ k) (h4:k < 2 ^ 62):AN [.int j,.int k,.int (-1)] st = .ok (iA j (j - k).toNat,fun _ => True) st:=by
 unfold AN; dsimp only; rw [if_pos ⟨rfl,h1,h2,h3,h4⟩]
theorem H! (e:ak st n = some us):AO [.loc n] st = .ok (us.reverse,fun bS => ak bS n = some us) st:=by
 simp only [AO,e]
theorem vH (e:ak st n = some us):AQ [.loc n] st = .ok (iB 0 us,fun bS => ak bS n = some us) st:=by
 simp only [AQ,e]
theorem H? (e1:ak st n = some us) (e2:ak st m = some ws):DG true true [.loc n,.loc m] st = .ok (iF us ws,fun bS => ak bS n = some us ∧ ak bS m = some ws) st:=by
 unfold DG
 dsimp only
 unfold fR
 dsimp only
 rw [e1,e2]
 rfl
theorem A? {j k:Int}:yt [.int j,.int k] st = .ok (.int (if k > j then k else j)) st:=rfl
theorem jk (e:ak st n = some us):iS [.loc n] st = .ok (.loc st.length) (st ++ [.lst us]):=by
 simp only [iS,e]
theorem Ia (h1:st[n]? = some (.lst us)) (h2:st[m]? = some (.lst ws)) (hl:us.length + ws.length ≤ sizeLine):cS (.loc n) (.loc m) st = .ok (.loc st.length) (st ++ [.lst (us ++ ws)]):=by
 simp only [cS,h1,h2]
 rw [if_pos hl]
theorem vI {k:Int} (h1:st[n]? = some (.lst us)) (h2:-(2 ^ 63) ≤ k) (h3:k < 2 ^ 63) (h4:us.length * k.toNat ≤ sizeLine):b9 (.loc n) (.int k) st = .ok (.loc st.length) (st ++ [.lst (p7 k.toNat us)]):=by
 simp only [b9,h1]
 rw [if_pos ⟨h2,h3,h4⟩]
theorem a! (h:st[n]? = some (.lst us)):ak st n = some us:=by unfold ak; rw [h]
theorem bj (st:ag) (us:List ah):(st ++ [aQ.lst us])[st.length]? = some (.lst us):=by
 rw [List.getElem?_append_right (Nat.le_refl _),Nat.sub_self]; rfl
theorem bE {k:aQ} (h:st[n]? = some k) (g:ag):(st ++ g)[n]? = some k:=by
 rw [List.getElem?_append_left (bJ h)]; exact h
theorem rp {k k':aQ} (h:st[n]? = some k):(st.set n k')[n]? = some k':=List.getElem?_set_self (bJ h)
theorem l7 {k k':aQ} (h:st[n]? = some k) (hn:m ≠ n):(st.set m k')[n]? = some k:=by
 rw [List.getElem?_set_ne hn]; exact h
theorem E9 (h:ak st n = some us):n < st.length:=by
 rcases Nat.lt_or_ge n st.length with q | q
 ·exact q
 ·unfold ak at h; rw [List.getElem?_eq_none q] at h; cases h
theorem oq (st:ag) (k k':aQ):(st ++ [k]).set st.length k' = st ++ [k']:=by
 rw [List.set_append_right _ _ (Nat.le_refl _),Nat.sub_self]; rfl
end
mutual
noncomputable def xf:Nat → ah → Bool
 | _,.dA => true
 | _,.bl _ => true
 | _,.int _ => true
 | _,.str _ => true
 | 0,.tup _ => false
 | n + 1,.tup us => gJ n us
 | _,_ => false
noncomputable def gJ:Nat → List ah → Bool
 | _,[] => true
 | n,u :: us => xf n u && gJ n us
end
mutual
theorem Ba (st:ag):∀ (n:Nat) (v:ah),xf n v = true → mZ (n + 1) st v v = some true
 | _,.dA,_ => rfl
 | _,.bl b,_ => by show some (b == b) = _; rw [beq_self_eq_true]
 | _,.int i,_ => by show some (i == i) = _; rw [beq_self_eq_true]
 | _,.str x,_ => by show some (x == x) = _; rw [beq_self_eq_true]
 | 0,.tup _,h => by cases h
 | n + 1,.tup us,h => by
  show jo (mZ (n + 1) st) us us = some true
  exact kM st n us h
 | n,.loc _,h => by cases n <;> cases h
 | n,.exc _,h => by cases n <;> cases h
 | n,.fn _ _,h => by cases n <;> cases h
 | n,.mt _,h => by cases n <;> cases h
theorem kM (st:ag):∀ (n:Nat) (us:List ah),gJ n us = true → jo (mZ (n + 1) st) us us = some true
 | _,[],_ => rfl
 | n,u :: us,h => by
  have h':xf n u = true ∧ gJ n us = true:=by simpa [gJ] using h
  show (match mZ (n + 1) st u u,jo (mZ (n + 1) st) us us with | some a,some b => some (a && b) | _,_ => none) = _
  rw [Ba st n u h'.1,kM st n us h'.2]; rfl
end
theorem qd {n:Nat}:∀ {us:List ah},(∀ u ∈ us,xf n u = true) → gJ n us = true
 | [],_ => rfl
 | u :: us,h => by
  unfold gJ
  rw [h u List.mem_cons_self,qd fun w hw => h w (List.mem_cons_of_mem u hw)]; rfl
theorem l8 (n:Nat) (ns:List Int):gJ n (ns.map ah.int) = true:=qd fun u hu => by
 obtain ⟨i,_,rfl⟩:=List.mem_map.mp hu
 cases n <;> rfl
section
variable {st:ag} {n m:Nat} {us:List ah}
theorem yC (h1:ak st n = some us) (h2:ak st m = some us) (hp:gJ 14 us = true):mZ 16 st (.loc n) (.loc m) = some true:=by
 unfold mZ
 simp only [vw,h1,h2]
 exact kM st 14 us hp
theorem tU (h1:ak st n = some us) (h2:ak st m = some us) (hp:gJ 14 us = true):dP (.loc n) (.loc m) st = .ok (.bl true) st:=by unfold dP; rw [yC h1 h2 hp]
end
end MN
namespace MN
open PySem PySem.Spec L2
open PyProof.Rows hiding St kindOf
end MN
namespace SO
open PySem PySem.W PyProof.Rows
noncomputable abbrev g (p:Array Nat) (i:Nat):Nat:=p.getD i 0
theorem Bb (p:Array Nat) (i:Nat):g p i = (p[i]?).getD 0:=Array.getD_eq_getD_getElem?
noncomputable def Ok (L:Nat → Nat → Bool) (n:Nat) {α:Type} (P:α → Prop):KasT α → Prop
 | .ret a => P a
 | .ask i j k => i < n ∧ j < n ∧ Ok L n P (k (L i j))
theorem Ok.bind {L:Nat → Nat → Bool} {n:Nat} {α β:Type} {P:α → Prop} {Q:β → Prop} {f:α → KasT β} (hf:∀ a,P a → Ok L n Q (f a)):∀ {t:KasT α},Ok L n P t → Ok L n Q (t.bind f)
 | .ret a,h => hf a h
 | .ask _ _ _,h => ⟨h.1,h.2.1,Ok.bind hf h.2.2⟩
theorem Ok.imp {L:Nat → Nat → Bool} {n:Nat} {α:Type} {P Q:α → Prop} (hf:∀ a,P a → Q a):∀ {t:KasT α},Ok L n P t → Ok L n Q t
 | .ret a,h => hf a h
 | .ask _ _ _,h => ⟨h.1,h.2.1,Ok.imp hf h.2.2⟩
structure Ord (L:Nat → Nat → Bool) (n:Nat):Prop where
 tr:∀ i j k,i < n → j < n → k < n → L i j = true → L j k = true → L i k = true
 QP:∀ i j,i < n → j < n → i ≠ j → L i j = false → L j i = true
 Sv:∀ i j,i < n → j < n → L i j = true → L j i = false
noncomputable def Pm (n:Nat) (p:Array Nat):Prop:=p.Perm (List.toArray (List.range n))
section
variable {n:Nat} {p:Array Nat}
theorem Pm.list (h:Pm n p):p.toList.Perm (List.range n):=Array.perm_iff_toList_perm.mp h
theorem Pm.size (h:Pm n p):p.size = n:=by
 have:=h.list.length_eq
 rw [List.length_range] at this
 exact this
theorem Pm.lt (h:Pm n p) {i:Nat} (hi:i < n):g p i < n:=by
 have hz:i < p.size:=by rw [h.size]; exact hi
 have e:g p i = p.toList[i]'hz:=by rw [Bb,getElem?_pos p i hz]; rfl
 have m:g p i ∈ p.toList:=by rw [e]; exact List.getElem_mem _
 exact List.mem_range.mp (h.list.mem_iff.mp m)
theorem Pm.inj (h:Pm n p) {i j:Nat} (hi:i < n) (hj:j < n) (e:g p i = g p j):i = j:=by
 have hz:i < p.size:=by rw [h.size]; exact hi
 have QQ:j < p.size:=by rw [h.size]; exact hj
 have nd:p.toList.Nodup:=h.list.nodup_iff.mpr List.nodup_range
 have e1:g p i = p.toList[i]'hz:=by rw [Bb,getElem?_pos p i hz]; rfl
 have e2:g p j = p.toList[j]'QQ:=by rw [Bb,getElem?_pos p j QQ]; rfl
 rw [e1,e2] at e
 exact (List.getElem_inj nd).mp e
theorem Pm.rev (h:Pm n p) (i j:Nat):Pm n (kas_rev p i j):=(mirror_perm p i j _).trans h
theorem E_ (h:Pm n p) {m i:Nat} (hm:m ≤ n) (hi:i < m):g (kas_rev p 0 m) i = g p (m - 1 - i):=by
 rw [Bb,Bb]
 unfold kas_rev
 rw [getElem?_mirror_all (by rw [h.size]; exact hm),if_pos ⟨Nat.zero_le _,hi⟩,Nat.zero_add]
end
section
variable {L:Nat → Nat → Bool} {n:Nat} (O:Ord L n)
include O
noncomputable def MJ (L:Nat → Nat → Bool) (p:Array Nat) (m:Nat):Prop:=∀ i,i + 1 < m → L (g p i) (g p (i + 1)) = true
noncomputable def OA (L:Nat → Nat → Bool) (p:Array Nat) (m:Nat):Prop:=∀ i,i + 1 < m → L (g p (i + 1)) (g p i) = true
theorem other {p:Array Nat} (h:Pm n p) {i j:Nat} (hi:i < n) (hj:j < n) (hn:i ≠ j) (e:L (g p i) (g p j) = false):L (g p j) (g p i) = true :=
 O.QP _ _ (h.lt hi) (h.lt hj) (fun z => hn (h.inj hi hj z)) e
theorem Bc {p:Array Nat} (h:Pm n p):∀ (f k:Nat),1 ≤ k → k + f ≤ n → MJ L p k → Ok L n (fun m => k ≤ m ∧ m ≤ k + f ∧ MJ L p m ∧ (m < k + f → L (g p m) (g p (m - 1)) = true)) (kas_asc p f k)
 | 0,k,_,_,a => ⟨Nat.le_refl _,Nat.le_refl _,a,fun z => absurd z (Nat.lt_irrefl _)⟩
 | f + 1,k,h1,hk,a => by
  refine ⟨h.lt (by lia),h.lt (by lia),?_⟩
  show Ok L n _ (if L (g p k) (g p (k - 1)) = true then .ret k else kas_asc p f (k + 1))
  by_cases c:L (g p k) (g p (k - 1)) = true
  ·rw [if_pos c]
   exact ⟨Nat.le_refl _,by lia,a,fun _ => c⟩
  ·rw [if_neg c]
   have c':L (g p k) (g p (k - 1)) = false:=by simpa using c
   have z:=other O h (by lia) (by lia) (by lia) c'
   refine Ok.imp (fun m hm => ?_) (Bc h f (k + 1) (by lia) (by lia) (fun i hi => ?_))
   ·exact ⟨by lia,by lia,hm.2.2.1,fun q => hm.2.2.2 (by lia)⟩
   ·by_cases e:i + 1 < k
    ·exact a i e
    ·have:i = k - 1:=by lia
     subst this
     rw [show k - 1 + 1 = k by lia]; exact z
noncomputable def Part (L:Nat → Nat → Bool) (n:Nat) (r:Nat × Array Nat):Prop:=1 ≤ r.1 ∧ r.1 ≤ n ∧ Pm n r.2 ∧ MJ L r.2 r.1
theorem rq {p:Array Nat} (h:Pm n p) {m:Nat} (h1:1 ≤ m) (hm:m ≤ n) (a:OA L p m):Ok L n (Part L n) (kas_tail3 m n p):=by
 have b:MJ L (kas_rev p 0 m) m:=by
  intro i hi
  rw [E_ h hm (by lia),E_ h hm hi]
  have:=a (m - 1 - (i + 1)) (by lia)
  rwa [show m - 1 - (i + 1) + 1 = m - 1 - i by lia] at this
 refine Ok.bind (fun k hk => ?_) (Bc O (h.rev 0 m) (n - m) m h1 (by lia) b)
 exact ⟨by lia,by lia,h.rev 0 m,hk.2.2.1⟩
end
end SO
namespace SO
open PySem PySem.W PyProof.Rows
noncomputable def jZ (h:Heap) (d:Addr) (es:Array DictEntry) (ep:Nat):Prop:=∃ o,h.get? d = some o ∧ o.cls = .type "dict" ∧ o.data = .dict es ep
section
variable {prog:Program} {w:World} {A:Around} {E:Value → Shared → Prop} {s:Shared} {d it:Addr} {es:Array DictEntry} {ep i:Nat}
theorem jZ.ty (x:jZ s.heap d es ep):s.TypeIs (.ref d) "dict":=by
 obtain ⟨o,ho,hc,_⟩:=x
 exact ⟨o,ho,hc⟩
theorem jZ.lt {h:Heap} (x:jZ h d es ep):d < h.objs.size:=by
 obtain ⟨o,ho,_⟩:=x
 exact Heap.lt_size ho
theorem jZ.to {h h':Heap} (x:jZ h d es ep) (hk:∀ o,h.get? d = some o → h'.get? d = some o):jZ h' d es ep:=by
 obtain ⟨o,ho,r⟩:=x
 exact ⟨o,hk o ho,r⟩
theorem Bd {Q:Value → Shared → Prop} (hd:(d == sysModules) = false) (x:jZ s.heap d es ep)
  (hQ:Q (.ref s.heap.objs.size) { s with heap:=s.heap.push { cls:=.type "dict_keyiterator",data:=.fields #[.ref d,.int 0 0,.int es.size 0,.int ep 0] } }):wpAny (model prog w) A (pyIter (.ref d)) Q E s:=by
 obtain ⟨o,go,gc,gd⟩:=id x
 have T:=x.ty
 refine wpAny_pyIter_slot T PySem.F.slot_dict_iter (wpAny_call_entry PySem.F.slot_dict_iter T PySem.F.entry_dict_iter ?_ (PySem.F.args_dict_iter_1 _))
 unfold Builtin.«dict.__iter__»; refine wpAny_bind ?_
 unfold Builtin.Dict.dictSlotNone; refine wpAny_bind (wpAny_notOrdered_dict T ?_)
 show wpAny _ _ (pure (Value.ref d)) _ _ s; refine wpAny_pure ?_
 show wpAny _ _ (Builtin.Dict.showsAll d >>= _) _ _ s; unfold Builtin.Dict.showsAll
 rw [if_neg (by rw [hd]; exact Bool.false_ne_true)]; refine wpAny_bind (wpAny_pure ?_)
 refine wpAny_bind (wpAny_dictEntries go gd ?_)
 refine wpAny_bind (wpAny_dictEpoch go gd ?_)
 refine wpAny_bind (wpAny_newObj_type (wpAny_pure ⟨_,rfl,"dict_keyiterator",_,⟨_,Heap.get?_push_size _ rfl,rfl⟩,PySem.F.slot_dict_keyiterator_next.lookup,?_⟩))
 simpa [rawInt] using hQ
theorem Be {Q:Option Value → Shared → Prop} (hit:s.heap.IsKeyIter it d i es.size ep) (x:jZ s.heap d es ep) (hi:i < es.size)
  (hQ:∀ h',h'.IsKeyIter it d (i + 1) es.size ep → Heap.SameBut it s.heap h' → Q (some es[i].key) { s with heap:=h' }):wpAny (model prog w) A (pyNext (.ref it)) Q E s:=by
 obtain ⟨o,ho,hc,hf⟩:=id hit
 obtain ⟨od,go,gc,gd⟩:=id x
 have T:=hit.typeIs
 unfold pyNext
 refine wpAny_bind (wpAny_attempt (wpAny_callSpecial?_slot (name:=Str.ofString "__next__") T PySem.F.slot_dict_keyiterator_next (wpAny_call_entry PySem.F.slot_dict_keyiterator_next T PySem.F.entry_dict_keyiterator_next ?_ (PySem.F.args_dict_keyiterator_next_1 _))))
 refine wpAny_bind (wpAny_pure ?_); refine wpAny_bind ?_; refine wpAny_bind ?_
 first | refine wpAny_bind (wpAny_typeNameOfWhole_keyiter T (wpAny_pure ?_)) | refine wpAny_bind (wpAny_typeNameOf_keyiter T (wpAny_pure ?_))
 refine wpAny_bind (wpAny_fieldsOf ho hf ?_)
 have no:Builtin.Dict_items.ownsTuple "dict_keyiterator" = false:=by decide
 simp only [no,Bool.false_eq_true,if_false]
 show wpAny _ _ (if (Value.ref d == Value.none) = true then _ else _) _ _ s; rw [if_neg (show ¬ ((Value.ref d == Value.none) = true) from Bool.false_ne_true)]
 refine wpAny_bind (wpAny_pure ?_); refine wpAny_bind (wpAny_dictEntries go gd ?_)
 rw [if_neg (by simp)]; refine wpAny_bind (wpAny_pure ?_)
 refine wpAny_bind (wpAny_dictEpoch go gd ?_); rw [if_neg (by simp)]; refine wpAny_pure ?_
 simp only [show ¬ ((i:Int) < 0) from by lia,if_false,Int.toNat_natCast,Array.getElem?_eq_getElem hi]; refine wpAny_bind ?_
 first | refine wpAny_bind (wpAny_typeNameOfWhole_keyiter T (wpAny_pure ?_)) | refine wpAny_bind (wpAny_typeNameOf_keyiter T (wpAny_pure ?_))
 refine wpAny_bind (wpAny_isOneOf_keyiter T ?_)
 show wpAny _ _ (setField (.ref it) 1 (rawInt ((i:Int) + 1)) >>= _) _ _ s; refine wpAny_bind (wpAny_setField ho hf (by simp) ?_)
 have go2:(s.heap.update it (Obj.mapFields (·.setIfInBounds 1 (rawInt ((i:Int) + 1))))).IsKeyIter it d (i + 1) es.size ep :=
  ⟨_,Heap.get?_update_self _ ho (Obj.isFreed_of_fields (Obj.data_mapFields hf _)),(Obj.cls_mapFields ..).trans hc,by rw [Obj.data_mapFields hf]; simp [rawInt]⟩
 refine wpAny_bind (wpAny_holding ?_)
 refine wpAny_bind (wpAny_isOneOf_keyiter (s:={ s with heap:=s.heap.update it (Obj.mapFields (·.setIfInBounds 1 (rawInt ((i:Int) + 1)))) }) go2.typeIs ?_)
 show wpAny _ _ (pure es[i].key) _ _ _; exact wpAny_pure (wpAny_pure ⟨_,rfl,wpAny_pure (hQ _ go2 (Heap.SameBut.update ..))⟩)
theorem DT {Q:Option Value → Shared → Prop} (hh:A.handled = none) (hit:s.heap.IsKeyIter it d i es.size ep) (x:jZ s.heap d es ep) (hi:es.size ≤ i)
  (hQ:∀ h',Heap.ExtBut it s.heap h' → Q none { s with heap:=h' }):wpAny (model prog w) A (pyNext (.ref it)) Q E s:=by
 obtain ⟨o,ho,hc,hf⟩:=id hit
 obtain ⟨od,go,gc,gd⟩:=id x
 have T:=hit.typeIs
 unfold pyNext
 refine wpAny_bind (wpAny_attempt (wpAny_callSpecial?_slot (name:=Str.ofString "__next__") T PySem.F.slot_dict_keyiterator_next (wpAny_call_entry PySem.F.slot_dict_keyiterator_next T PySem.F.entry_dict_keyiterator_next ?_ (PySem.F.args_dict_keyiterator_next_1 _))))
 refine wpAny_bind (wpAny_pure ?_); refine wpAny_bind ?_; refine wpAny_bind ?_
 first | refine wpAny_bind (wpAny_typeNameOfWhole_keyiter T (wpAny_pure ?_)) | refine wpAny_bind (wpAny_typeNameOf_keyiter T (wpAny_pure ?_))
 refine wpAny_bind (wpAny_fieldsOf ho hf ?_)
 have no:Builtin.Dict_items.ownsTuple "dict_keyiterator" = false:=by decide
 simp only [no,Bool.false_eq_true,if_false]
 show wpAny _ _ (if (Value.ref d == Value.none) = true then _ else _) _ _ s; rw [if_neg (show ¬ ((Value.ref d == Value.none) = true) from Bool.false_ne_true)]
 refine wpAny_bind (wpAny_pure ?_); refine wpAny_bind (wpAny_dictEntries go gd ?_)
 rw [if_neg (by simp)]; refine wpAny_bind (wpAny_pure ?_)
 refine wpAny_bind (wpAny_dictEpoch go gd ?_); rw [if_neg (by simp)]; refine wpAny_pure ?_
 simp only [show ¬ ((i:Int) < 0) from by lia,if_false,Int.toNat_natCast,Array.getElem?_eq_none hi]; refine wpAny_bind ?_
 first | refine wpAny_bind (wpAny_typeNameOfWhole_keyiter T (wpAny_pure ?_)) | refine wpAny_bind (wpAny_typeNameOf_keyiter T (wpAny_pure ?_))
 show wpAny _ _ (setField (.ref it) 0 .none >>= _) _ _ s; refine wpAny_bind (wpAny_setField ho hf (by simp) ?_)
 show wpAny _ _ (newExc (.type "StopIteration") [] >>= _) _ _ _; refine wpAny_bind ?_; simp only [newExc,newTuple]
 refine wpAny_bind (wpAny_newObj_type ?_ (by size_fits)); refine wpAny_bind (m:=firstArgMember _ _) (wpAny_of_eq (a:=Value.none) (by first | rfl | (simp only [firstArgMember]; rfl)) ?_)
 refine wpAny_newObj_type ?_ (by size_fits); simp only [raiseNew]
 refine wpAny_bind (wpAny_handled ?_); rw [show A.in1.handled = none from hh]; refine wpAny_bind (wpAny_pure (wpAny_throw ?_))
 refine wpAny_bind (wpAny_isInstance (T:="StopIteration") (b:=true) ⟨_,Heap.get?_push_size _ rfl,rfl⟩ isSubtype_stop ?_)
 exact wpAny_pure (hQ _ (((Heap.SameBut.update ..).extBut.push _).push _))
noncomputable def Bf (es:Array DictEntry) (i:Nat) (v:Value):Prop:=∃ h:i < es.size,v = es[i].key
theorem yD (hh:A.handled = none) (I:Addr) (Sw:d ≠ I):Walks prog w A I [I,d] [I] es.size (Bf es) (fun i h => h.IsKeyIter I d i es.size ep ∧ jZ h d es ep) where
 sub:=fun b hb => by
  rw [List.mem_singleton] at hb; rw [hb]; exact List.mem_cons_self
 frame:=fun _ _ _ st hk => ⟨st.1.at fun o e => hk I List.mem_cons_self o e,st.2.to fun o e => hk d (List.mem_cons_of_mem _ List.mem_cons_self) o e⟩
 item:=fun i s Q E hi st hQ => Be st.1 st.2 hi fun h' k1 k2 =>
  hQ _ h' s.toks ⟨hi,rfl⟩ ⟨k1,st.2.to fun o e => k2.extBut d o Sw e⟩ fun b o hb e => k2.extBut b o (fun z => hb (by rw [z]; exact List.mem_singleton_self _)) e
 done:=fun s Q E st hQ => DT hh st.1 st.2 (Nat.le_refl _) fun h' k => hQ h' s.toks fun b o hb e => k b o (fun z => hb (by rw [z]; exact List.mem_singleton_self _)) e
 self:=fun _ _ _ _ st hQ => wpAny_pyIter_keyiter st.1 hQ
theorem DU (lo:(d == sysModules) = false):KdlSrc prog w "dict" d d es.size (Bf es) (fun h => jZ h d es ep) where
 type:=fun _ x => x.ty
 there:=fun _ x => ⟨x.lt,x.lt⟩
 keep:=fun _ _ x hk => x.to fun o e => hk d (.inl rfl) o e
 notList:=by decide
 notTuple:=by decide
 hint:=fun _ _ _ _ x q => kdl_hint_dict x.ty q
 iter:=fun _ _ hh x => ⟨_,_,(fun _ _ q => Bd lo x q),yD hh _ (Nat.ne_of_lt x.lt),⟨⟨_,Heap.get?_push_size _ rfl,rfl,rfl⟩,x.to fun o e => Heap.get?_push_of_some _ e⟩⟩
end
end SO
namespace SO
open PySem PySem.W PyProof.Rows
section
variable {prog:Program} {w:World} {A:Around} {E:Value → Shared → Prop} {s:Shared} {d it:Addr} {es:Array DictEntry} {ep i:Nat}
theorem DV {acc:Array Value} (h:ItemsOf (Bf es) acc es.size):acc.toList = es.toList.map (·.key):=by
 apply List.ext_getElem
 ·rw [Array.length_toList,List.length_map,Array.length_toList]; exact h.1
 ·intro i h1 h2
  have hi:i < acc.size:=by rw [Array.length_toList] at h1; exact h1
  obtain ⟨hz,e⟩:=h.2 i acc[i] (Array.getElem?_eq_getElem hi)
  rw [Array.getElem_toList,List.getElem_map,Array.getElem_toList,e]
theorem tV {Q:List Value → Shared → Prop} (hh:A.handled = none) (lo:(d == sysModules) = false) (x:jZ s.heap d es ep) (hn:es.size ≤ sizeLine)
  (h:∀ h' tk,s.heap.objs.size < h'.objs.size → (∀ b o,s.heap.get? b = some o → h'.get? b = some o) → Q (es.toList.map (·.key)) { s with heap:=h',toks:=tk }):wpAny (model prog w) A (collect (.ref d)) Q E s:=by
 unfold collect
 refine wpAny_bind (wpAny_runValue (codeAny_mono (R:=fun r s' => r = .ok (.ret (.ref s.heap.objs.size)) ∧ wpAny (model prog w) A (do
  let u ← load s.heap.objs.size
  match u.data with
  | .seq xs _ => pure xs.toList
  | _ => unsupported "internal:collect") Q E s') ?_ fun r s' q => ?_))
 ·refine codeAny_builtin entry_proto_collect' ?_
  show wpAny _ _ (do again (.builtin "list.__iadd__" ⟨[← newList [],.ref d],[]⟩)) _ _ s
  refine wpAny_bind (wpAny_newList (wpAny_pure ⟨Code.quiet_builtin _ (by decide +kernel),codeAny_builtin entry_list_iadd' ?_⟩) (Nat.zero_le _))
  have ne:=Nat.ne_of_gt x.lt
  refine kdl_extend (R:=fun r s' => r = .ok (.ret (.ref s.heap.objs.size)) ∧ wpAny (model prog w) A (do
   let u ← load s.heap.objs.size
   match u.data with
   | .seq xs _ => pure xs.toList
   | _ => unsupported "internal:collect") Q E s') (s:={ s with heap:=s.heap.push (seqObj "list" #[] 0) }) (DU (es:=es) (ep:=ep) lo) hh (x.to fun o e => Heap.get?_push_of_some _ e) s.heap.objs.size ne ne (.ref s.heap.objs.size) 0 (Heap.get?_push_size _ rfl) (fun h' tk acc c hk hS Gr => ⟨rfl,?_⟩) hn
  refine wpAny_bind (wpAny_load hS ?_)
  show wpAny _ _ (pure acc.toList) Q E _
  rw [DV Gr]
  exact wpAny_pure (h h' tk (Heap.lt_size hS) fun b o e => hk b o (Nat.ne_of_lt (Heap.lt_size e)) (Heap.get?_push_of_some _ e))
 ·obtain ⟨rfl,q⟩:=q
  exact q
end
noncomputable def lexLt:List Int → List Int → Bool
 | _,[] => false
 | [],_ :: _ => true
 | x :: xs,y :: ys => if x = y then lexLt xs ys else decide (x < y)
end SO
namespace TS
section
variable {α:Type} (r:α → Nat)
noncomputable def Sx (xs:Array α) (i j:Nat):List α:=(xs.toList.drop i).take (j - i)
variable {r} {xs ys:Array α}
end
end TS
namespace TS
open PySem PyProof.Rows
end TS
namespace TS
open PySem PyProof.Rows
end TS
namespace TS
open PySem PyProof.Rows
end TS
namespace TS
open PySem PyProof.Rows
end TS
namespace TS
open PySem PyProof.Rows
end TS
namespace TS
open PySem PyProof.Rows
end TS
namespace SO
open PySem PySem.W PyProof.Rows
section
variable {vs:List Value} {xs:List (List Int)}
noncomputable def Sy:Value → Int
 | .int n _ => n
 | _ => 0
noncomputable def oa (h:Heap):Value → List Int
 | .ref a => match h.get? a with
  | some o => match o.data with
   | .seq aO _ => aO.toList.map Sy
   | _ => []
  | none => []
 | _ => []
end
end SO
namespace L2
open PySem PySem.Spec PyProof.Rows
end L2
namespace SO
open PySem PySem.W PyProof.Rows
end SO
namespace SO
open PySem PySem.W PyProof.Rows
end SO
namespace MN
open PySem PySem.Spec L2
open PyProof.Rows hiding St kindOf
noncomputable def SA (a b:List Int):Bool:=!(SO.lexLt a b)
noncomputable def SD (ks:List (List Int)):List (List Int):=ks.mergeSort SA
end MN
namespace PM
open PySem PySem.Spec L2 MN
open PyProof.Rows hiding St
end PM
namespace PM
open PySem PySem.Spec L2 MN
open PyProof.Rows hiding St
end PM
namespace DL
open PySem
end DL
namespace L2
open PySem PySem.Spec PyProof.Rows
end L2
namespace MN
open PySem PySem.Spec L2
open PyProof.Rows hiding St
end MN
namespace DL
open PySem PyProof.Rows
end DL
namespace L2
open PySem PySem.Spec PyProof.Rows
end L2
namespace MN
open PySem PySem.Spec L2
open PyProof.Rows hiding St
end MN
namespace MN
open PySem PySem.Spec L2
open PyProof.Rows hiding St
end MN
namespace PM
open PySem PySem.Spec L2 MN
open PyProof.Rows hiding St
end PM
namespace PM
open PySem PySem.Spec L2 MN
open PyProof.Rows hiding St
end PM
namespace L2
open PySem PySem.Spec PyProof.Rows
end L2
namespace MN
open PySem PySem.Spec L2
open PyProof.Rows hiding St
end MN
namespace PM
open PySem PySem.Spec L2 MN
open PyProof.Rows hiding St
end PM
namespace SO
open PySem PySem.W PyProof.Rows
end SO
namespace MN
open PySem PySem.Spec L2
open PyProof.Rows hiding St
end MN
namespace L2
open PySem PySem.Spec PyProof.Rows
end L2
namespace L2
open PySem PySem.Spec PyProof.Rows
end L2
namespace MN
open PySem PySem.Spec L2
open PyProof.Rows hiding St
end MN
namespace HT
open PySem PySem.Spec PyProof.Rows
end HT
namespace L2
open PySem PySem.Spec PyProof.Rows
end L2
namespace MN
open PySem PySem.Spec L2
open PyProof.Rows hiding St
end MN
namespace SO
open PySem PySem.W PyProof.Rows
end SO
namespace L2
open PySem PySem.Spec PyProof.Rows
end L2
namespace MN
open PySem PySem.Spec L2
open PyProof.Rows hiding St
end MN
namespace PM
open PySem PySem.Spec L2 MN
open PyProof.Rows hiding St
end PM
namespace L2
open PySem PySem.Spec PyProof.Rows
structure f9 (k:Nat) (A:Around):Prop where
 dp:A.depth + 3 * k + 5 < recursionLimit
 un:A.units + 16 * k + 200 < cLine
theorem f9.room {k:Nat} {A:Around} (r:f9 k A):eZ k { A with handled:=none }:=⟨rfl,r.dp,r.un⟩
theorem f9.mono {j k:Nat} {A:Around} (r:f9 k A) (h:j ≤ k):f9 j A:=⟨by have:=r.dp; lia,by have:=r.un; lia⟩
theorem f9.units {k:Nat} {A:Around} (r:f9 k A):A.units + 64 < cLine:=by have:=r.un; lia
theorem f9.mark {k:Nat} {A:Around} (r:eZ k A) (v:Option Value):f9 k (A.mark v):=⟨r.dp,r.un⟩
structure Lj (ea:Addr) (oe:Obj) (outer:List Env) (H:Hp) (s:Shared):Prop where
 get:s.heap.get? ea = some oe
 no:H ea = none
 out:ea ∉ fD outer
 dat:∀ v,oe.data ≠ .cell v
noncomputable def Je (CX:uO) (P:Program) (w:World) (K:PySem.W.Frag) (mg:Str → Option Value) (base:Heap) (N:List Str) (qual:Str) (scope:Scope) (f:Addr) (cd:Value) (A:Around) (outer:List Env) (s:Shared) (H:Hp) (E:XK) (ea:Addr) (oe:Obj):Cx :=
 { gA CX P w K mg base N qual scope f cd A outer s H E with calm:=false,pn:=[(ea,oe)] }
theorem Ib {CX:uO} {P:Program} {w:World} {K:PySem.W.Frag} {mg:Str → Option Value} {base:Heap} {k:Nat} {f:Addr} {name qual:Str} {params:Arguments} {body:List Stmt} {scope:Scope} {dV kV doc pm dW ct oc:Value} {an od:Option Addr}
  {xK:Array (Option Value)} {N ps:List Str} (lk:K.lookup f = some ⟨oc,od,.func (PySem.W.fnOf name qual params body scope dV kV doc pm an dW ct),xK⟩) (nr:PySem.W.codeIn K dW qual = true) (S:d! N ps scope)
  {A:Around} {outer:List Env} {s:Shared} {H:Hp} {args:Args} {us:List Value} {vs:List V} {Q:VK} {E:XK} {ea:Addr} {oe:Obj} (hr:f9 (k + 1) A) (e0:u4 P w K mg base A outer s H) (hb:BindsTo s (PySem.W.fnOf name qual params body scope dV kV doc pm an dW ct) args (ps.zip us)) (r:bo vs us) (hl:vs.length = ps.length) (hx:Lj ea oe outer H s)
  (sU:∃ t,iJ (Je CX P w K mg base N qual scope f dW A outer s H E ea oe) body t ∧ t { nx:=fun _ H' => Q .dA H',rt:=Q } (start N vs) H) :
  codeAny (model P w) A (.call (.ref f) args) (CR CX outer P w H s Q E) s:=by
 have KX:K.In s.heap:=e0.mod.Ex.keeps fun b o e => (e0.bs b o e).1
 have lim:s.heap.NoLimit:=e0.mod.nolimit.keeps fun b o e => (e0.bs b o e).1
 have zH:∀ y ∈ ps.zip us,scope.names.lookup y.1 = some .local ∨ (scope.names.lookup y.1 = some .cell ∧ ((cellsFrom (s.heap.objs.size + 1) scope.names []).lookup y.1).isSome = true):=fun ⟨n,v⟩ hy => by
  rcases S.par n (List.of_mem_zip hy).1 with q | q
  ·exact .inl q
  ·exact .inr ⟨q,PySem.W.cellsFrom_some _ _ _ (.inl q)⟩
 refine codeAny_call_function (A:=A) (show _ from hr.room.depth) (KX _ _ lk) rfl S.co S.gen rfl (PySem.W.codeRec_of KX nr) (hb _ _ _ _ ?_)
 refine wpAny_newFunctionEnv_cells S.kind zH fun env he s1 x => ?_
 subst he
 refine ⟨lim.keeps x.toInCall.keep,codeAny_func ?_⟩
 obtain ⟨t,ht,hq⟩:=sU
 have e1:u4 P w K mg base { A with handled:=none } outer s H:=⟨e0.frames,e0.mod,e0.bs,e0.B0,e0.iI,e0.zg,e0.b?,e0.bare⟩
 have I0:aS (gA CX P w K mg base N qual scope f dW { A with handled:=none } outer s H E) [] (start N vs) H s1:=pV S rfl e1 hl r x
 have I:aS (Je CX P w K mg base N qual scope f dW A outer s H E ea oe) [] (start N vs) H s1:=by
  refine ⟨⟨I0.ok.mod,I0.ok.kind,I0.ok.glob,I0.ok.blt,I0.ok.above,I0.ok.inj,I0.ok.has,I0.ok.Ey,fun h => (by cases h),I0.ok.frames,I0.ok.BZ,I0.ok.L_,I0.ok.bs,I0.ok.B0,I0.ok.sO,I0.ok.xD,I0.ok.iI,I0.ok.zg⟩,I0.os,I0.bare,I0.base,I0.loc,I0.cell,I0.free,I0.fL,fun p hp => ?_,I0.b?,I0.len⟩
  have OB:p = (ea,oe):=by simpa [Je] using hp
  subst OB
  refine ⟨x.toInCall.keep _ _ hx.get,hx.no,?_,hx.out,hx.dat⟩
  exact Nat.ne_of_lt (Heap.lt_size hx.get)
 refine wpAny_mono (ht [] s1 (start N vs) H _ I hq) (fun fl s' hs => ?_) fun e s' hs => hs
 have fin:∀ {σ':St} {H':Hp} {v:V} {u:Value},aS (Je CX P w K mg base N qual scope f dW A outer s H E ea oe) [] σ' H' s' → bC v u → Q v H' → CE outer P w H s Q u s' :=
  fun {σ' H' v u} J rv q => ⟨v,H',J.os,J.bare,J.base,J.b?,rv,q⟩
 cases fl with
 | ret u =>
  obtain ⟨v,σ',H',J,rv,q⟩:=hs
  exact fin J rv q
 | next =>
  obtain ⟨σ',H',J,q⟩:=hs
  exact fin (v:=V.dA) (u:=Value.none) J rfl q
 | brk =>
  obtain ⟨_,_,_,q⟩:=hs
  exact False.elim q
 | cont =>
  obtain ⟨_,_,_,q⟩:=hs
  exact False.elim q
end L2
namespace MN
open PySem PySem.Spec L2
open PyProof.Rows hiding St
noncomputable def j0 (P:Program) (w:World) (K:PySem.W.Frag) (mg:Str → Option Value) (base:Heap) (x:Str) (k:Nat) (F:Str → ag → cn ah):Prop :=
 ∃ (fa:Addr) (fd:FuncData) (ps:List Str),mg x = some (.ref fa) ∧ PySem.W.keepIn K (.ref fa) = true ∧ Binds K fd ps [] ∧ ps.length = 1 ∧
  ∀ (A:Around) (outer:List PySem.Env) (s:Shared) (H:Hp) (ea:Addr) (oe:Obj) (C:Addr) (c:Str) (Q:VK) (args:Args),f9 k A → u4 P w K mg base A outer s H → BindsTo s fd args (ps.zip [.ref ea]) → Lj ea oe outer H s → mg c = some (.ref C) → oe.cls = .ref C →
   (∃ ρ st,SR K ρ st H ∧ wR ⟨K,mg,[]⟩ E0 (Rl K) ρ H Q (F c st)) → codeAny (model P w) A (.call (.ref fa) args) (CR (jR P w) outer P w H s Q E0) s
noncomputable def MK (n:Nat) (body:MB):Str → ag → cn ah:=fun c st => (body (some (.exc c) :: List.replicate n none) st).fin
section
variable {P:Program} {w:World} {K:PySem.W.Frag} {mg:Str → Option Value} {base:Heap}
theorem j0.mk {x p:Str} {st:Stmt} {f:Addr} {fd:FuncData} {N:List Str} {k:Nat} {body:MB} (F:B4 K x x st f fd) (hm:mg x = some (.ref f)) (S:d! (p :: N) [p] (a_ st))
  (hb:∀ (kV doc pm:Value) (an:Option Addr) (dW ct:Value) (us:List Value),us.length = 1 → bindArgs (PySem.W.fnOf x x (ff st) (dj st) (a_ st) .none kV doc pm an dW ct) ⟨us,[]⟩ = pure ([p].zip us))
  (h:∀ (dW:Value) (A:Around) (outer:List PySem.Env) (s:Shared) (H:Hp) (ea:Addr) (oe:Obj),f9 k (A.deeper (envOfC x (a_ st) s.heap.objs.size f dW)) →
   iJ (Je (jR P w) P w K mg base (p :: N) x (a_ st) f dW A outer s H E0 ea oe) (dj st) (tS (Je (jR P w) P w K mg base (p :: N) x (a_ st) f dW A outer s H E0 ea oe) E0 body)) :
  j0 P w K mg base x (k + 1) (MK N.length body):=by
 refine ⟨f,fd,[p],hm,F.kp,F.binds hb,rfl,fun A outer s H ea oe C c Q args hr e0 SE hx hc zu q => ?_⟩
 obtain ⟨ρ,aC,sr,q⟩:=q
 obtain ⟨oc,od,kV,doc,pm,an,dW,ct,xK,rfl,lk,nr⟩:=F.ex
 have SF:f9 k (A.deeper (envOfC x (a_ st) s.heap.objs.size f dW)):=by
  have:=(hr.room).deeper (envOfC x (a_ st) s.heap.objs.size f dW)
  exact ⟨this.dp,this.un⟩
 refine Ib (vs:=[V.ref ea]) (E:=E0) lk nr S hr e0 SE (.cons rfl .nil) rfl hx ⟨_,h dW A outer s H ea oe SF,some (.exc c) :: List.replicate N.length none,ρ,aC,?_,sr,?_⟩
 ·refine ⟨by simp [L2.start],fun i u e => ?_⟩
  cases i with
  | zero =>
   cases e
   exact ⟨.ref ea,rfl,ea,oe,C,rfl,List.mem_singleton.mpr rfl,hc,zu⟩
  | succ i =>
   rw [List.getElem?_cons_succ,List.getElem?_replicate] at e
   split at e <;> cases e
 ·unfold MK at q
  revert q
  cases body (some (.exc c) :: List.replicate N.length none) aC with
  | nx μ bS => exact fun q ρ' H' σ' e s _ => q ρ' H' .dA e s Rl.wD
  | rt v bS => exact fun q => q
  | er c μ bS => exact fun q => q
  | bk μ bS => exact fun q => q.elim
  | ct μ bS => exact fun q => q.elim
  | bad => exact fun q => q.elim
end
noncomputable def jG (i:Nat) (F:Str → ag → cn ah):ME:=fun μ st => match μ[i]? with
 | some (some (.exc c)) => Hx (F c st)
 | _ => .bad
section
variable {X:Cx} {E:XK} {pos p q1:Pos} {x n:Str} {k j:Nat} {F:Str → ag → cn ah}
theorem tW (i:Nat) (G:j0 X.prog X.w X.K X.mg X.base x k F) (hr:f9 k X.A) (hg:Gl X x) (hN:X.N[i]? = some n:=by rfl) (hv:BY X.env.scope n:=by first | exact Or.inl rfl | exact Or.inr (Or.inl rfl)) (hd:(n == ("__debug__":Str)) = false:=by decide) (nr:(n == ("__classdict__":Str)) = false:=by decide) (pf:(x == ("__debug__":Str)) = false:=by decide)
  (he:starEach [.Name n q1] X.env = (false,eval (.Name n q1) X.env) :: starEach [] X.env:=by rfl) (iH:(backTo pos (starEach [] X.env)).any (·.1) = false:=by rfl) :
  PE X (.Call (.Name x p) [.Name n q1] [] pos) (tE X E (jG i F)):=by
 obtain ⟨fa,fd,ps,hm,hk,hb,SG,run⟩:=G
 intro af s σ H Q I h
 obtain ⟨μ,ρ,st,rs,sr,h⟩:=h
 unfold jG at h
 split at h
 ·rename_i c hμ
  obtain ⟨v,hσ,ea,oe,C,rfl,ET,SH,zu⟩:=rs.at_ i _ hμ
  have pin:=I.pin (ea,oe) (List.mem_append_left _ ET)
  refine wpAny_Call_Name_kw (jh I hg hm ?_ pf)
  refine PySem.W.callWith_K (h₀:=X.base) I.ok.mod.Ex hk (cR ((gq (qw hN hv hd nr) nC he) pos af s σ H (fun vs H1 => vs = [.ref ea] ∧ H1 = H) I ⟨_,hσ,rfl,rfl⟩) fun us s1 ⟨vs,H1,I1,r,e1,e2⟩ => ⟨I1.lM,?_⟩) he iH
  subst e1 e2
  obtain ⟨u,rfl,ru⟩:=vals1 r
  cases ru
  have Bg:=I1.pin (ea,oe) (List.mem_append_left _ ET)
  have QR:=hb s1 [.ref ea] I1.lM (by rw [List.append_nil,SG]; rfl)
  rw [List.append_nil] at QR
  refine wpAny_call (codeAny_mono (run X.A X.stack s1 H1 ea oe C c Q ⟨[.ref ea],[]⟩ hr I1.F_ QR ⟨Bg.1,Bg.2.1,fun hb => (List.mem_cons.mp (I1.kr ea hb)).elim Bg.2.2.1 Bg.2.2.2.1,Bg.2.2.2.2⟩ SH zu ⟨ρ,st,sr,?_⟩) fun r s' hq => ?_)
  ·revert h
   cases F c st with
   | ok y bS => exact fun h => h
   | err c bS => exact fun h => h.elim
   | bad => exact fun h => h.elim
  ·cases r with
   | error e => obtain ⟨_,_,_,_,_,z⟩:=hq; exact z.elim
   | ok fl =>
    cases fl with
    | ret u => exact I1.after hq
    | next => exact False.elim hq
    | brk => exact False.elim hq
    | cont => exact False.elim hq
 ·exact h.elim
end
end MN
namespace L2
open PySem PySem.Spec PyProof.Rows
section
variable {X:Cx}
theorem qe {x:V}:∀ {xs:List V} {us:List Value},bo xs us → xs.all fk = true → us.countP (xN x) = xs.countP fun y => qH y x
 | _,_,.nil,_ => rfl
 | y :: xs,u :: us,.cons r t,f => by
  rw [List.all_cons,Bool.and_eq_true] at f
  rw [List.countP_cons,List.countP_cons,qI r f.1,qe t f.2]
noncomputable def Ic:V → List V → Hp → VK → Prop:=fun x vs H Q => ∃ l xs y,x = .ref l ∧ vs = [y] ∧ H l = some (.lst xs) ∧ fk y = true ∧ xs.all fk = true ∧ Q (.int ((xs.countP fun z => qH z y:Nat):Int)) H
theorem Bh:sW X "list.count" Ic:=by
 intro af s σ H x vs v us Q I rx rv h
 obtain ⟨l,xs,y,rfl,rfl,hH,fy,fs,q⟩:=h
 cases rx
 obtain ⟨u,rfl,ru⟩:=rv.one
 obtain ⟨z,aO,n,r,hl,e⟩:=I.u_ hH
 refine call_meets PySem.F.slot_list_count ⟨_,e,rfl⟩ PySem.F.entry_list_count (PySem.F.args_list_count_2 _ _) (SeqAt.list_countAt l aO.toArray n none #[] u (xN y)) ⟨e,fun w hw => iM ru fy r fs w (by simpa using hw),?_⟩
 refine ⟨.int _,H,I.tok _,⟨_,rfl⟩,?_⟩
 rw [show aO.toArray.toList = aO from rfl,qe r fs]
 exact q
noncomputable def Ie:V → List V → Hp → VK → Prop:=fun x vs H Q => ∃ l xs y j,x = .ref l ∧ vs = [y] ∧ H l = some (.lst xs) ∧ fk y = true ∧ xs.all fk = true ∧ (∃ z,xs[j]? = some z ∧ qH z y = true) ∧ (∀ m z,m < j → xs[m]? = some z → qH z y = false) ∧ Q (.int ((j:Nat):Int)) H
theorem Bi:sW X "list.index" Ie:=by
 intro af s σ H x vs v us Q I rx rv h
 obtain ⟨l,xs,y,j,rfl,rfl,hH,fy,fs,⟨z,hz,ez⟩,ND,q⟩:=h
 cases rx
 obtain ⟨u,rfl,ru⟩:=rv.one
 obtain ⟨hsz,aO,n,r,hl,e⟩:=I.u_ hH
 have at_:∀ (m:Nat) (hm:m < aO.toArray.size),∃ z,xs[m]? = some z ∧ xN y aO.toArray[m] = qH z y:=by
  intro m hm
  have SI:m < aO.length:=by simpa using hm
  obtain ⟨z,hz⟩:∃ z,xs[m]? = some z:=⟨_,List.getElem?_eq_getElem (by lia)⟩
  obtain ⟨w,hw,qF⟩:=r.get hz
  have e1:aO.toArray[m] = w:=by
   have:=List.getElem?_eq_getElem SI
   rw [this] at hw
   simpa using hw
  refine ⟨z,hz,?_⟩
  rw [e1,qI qF (List.all_eq_true.mp fs z (List.mem_of_getElem? hz))]
 have hj:j < aO.toArray.size:=by
  have:=(List.getElem?_eq_some_iff.mp hz).1
  simp; lia
 have OC:(j:Int) < 2 ^ 63 - 1:=by
  have:=(List.getElem?_eq_some_iff.mp hz).1
  rw [sizeLine_eq] at hsz
  lia
 refine call_meets PySem.F.slot_list_index ⟨_,e,rfl⟩ PySem.F.entry_list_index (PySem.F.args_list_index_2 _ _) (SeqAt.list_indexAt l aO.toArray n none #[] u (xN y) j hj OC ?_ ?_) ⟨e,fun w hw => iM ru fy r fs w (by simpa using hw),?_⟩
 ·obtain ⟨z',h1,h2⟩:=at_ j hj
  rw [h2]
  rw [hz] at h1
  cases h1
  exact ez
 ·intro m hm SJ
  obtain ⟨z',h1,h2⟩:=at_ m hm
  rw [h2]
  exact ND m z' SJ h1
 ·exact ⟨.int _,H,I.tok _,⟨_,rfl⟩,q⟩
end
end L2
namespace MN
open PySem PySem.Spec L2
open PyProof.Rows hiding St
noncomputable def i9:FM
 | .loc n,[u],st => match st[n]? with
  | some (.lst us) => if flat u = true ∧ us.all flat = true then .ok (.int ((us.countP fun y => wI y u:Nat):Int)) st else .bad
  | _ => .bad
 | _,_,_ => .bad
noncomputable def i_:FM
 | .loc n,[u],st => match st[n]? with
  | some (.lst us) => if flat u = true ∧ us.all flat = true then (match us.findIdx? (fun y => wI y u) with | some j => .ok (.int ((j:Nat):Int)) st | none => .bad) else .bad
  | _ => .bad
 | _,_,_ => .bad
section
variable {X:Cx} {E:XK}
theorem ou {K:PySem.W.Frag} {ρ:List Addr} {H:Hp} {u:ah} {x:V} (f:flat u = true) (r:Rl K ρ H u x):∀ {us:List ah} {vs:List V},us.all flat = true → bt K ρ H us vs → vs.all fk = true ∧ (vs.map fun y => qH y x) = us.map fun y => wI y u
 | [],vs,_,h => by rw [h.eI]; exact ⟨rfl,rfl⟩
 | w :: us,vs,hf,h => by
  obtain ⟨v,r',rfl,h2,h3⟩:=h.cC
  rw [List.all_cons,Bool.and_eq_true] at hf
  obtain ⟨a,b,c⟩:=fQ hf.1 f h2 r
  obtain ⟨d,e⟩:=ou f r hf.2 h3
  exact ⟨by rw [List.all_cons,a,d]; rfl,by rw [List.map_cons,List.map_cons,c,e]⟩
theorem l9 {α:Type} (f:α → Bool) (l:List α):l.countP f = (l.map f).countP id:=by rw [List.countP_map]; rfl
theorem yE:sW X "list.count" (I_ (wo X) E i9):=by
 refine sW.imp Bh ?_
 rintro x xs H Q ⟨ρ,st,u,us,sr,r1,r2,h⟩
 unfold i9 at h
 split at h
 ·rename_i n v
  obtain ⟨a,rfl,ha⟩:=r1.dF
  obtain ⟨y,rfl,ry⟩:=r2.tj
  split at h
  ·rename_i ws hw
   split at h
   ·rename_i hz
    obtain ⟨vs,hH,rv⟩:=sr.cell n _ a hw ha
    obtain ⟨q1,q2⟩:=ou hz.1 ry hz.2 rv
    refine ⟨a,vs,y,rfl,rfl,hH,(fQ hz.1 hz.1 ry ry).1,q1,?_⟩
    rw [l9 (fun z => qH z y),q2,← l9]
    exact h ρ _ _ (aN.refl _ _) sr (Rl.mkInt _)
   ·exact h.elim
  ·exact h.elim
 ·exact h.elim
theorem yF:sW X "list.index" (I_ (wo X) E i_):=by
 refine sW.imp Bi ?_
 rintro x xs H Q ⟨ρ,st,u,us,sr,r1,r2,h⟩
 unfold i_ at h
 split at h
 ·rename_i n v
  obtain ⟨a,rfl,ha⟩:=r1.dF
  obtain ⟨y,rfl,ry⟩:=r2.tj
  split at h
  ·rename_i ws hw
   split at h
   ·rename_i hz
    obtain ⟨vs,hH,rv⟩:=sr.cell n _ a hw ha
    obtain ⟨q1,q2⟩:=ou hz.1 ry hz.2 rv
    split at h
    ·rename_i j hj
     have at_:∀ (m:Nat) (z:V),vs[m]? = some z → ∃ w,ws[m]? = some w ∧ qH z y = wI w v:=by
      intro m z Jf
      have e:(vs.map fun y' => qH y' y)[m]? = (ws.map fun y' => wI y' v)[m]?:=by rw [q2]
      rw [List.getElem?_map,List.getElem?_map,Jf] at e
      cases E!:ws[m]? with
      | none => rw [E!] at e; cases e
      | some w => rw [E!] at e; exact ⟨w,rfl,Option.some.inj e⟩
     obtain ⟨SK,SM,SN⟩:=List.findIdx?_eq_some_iff_getElem.mp hj
     have hl:=rv.length
     refine ⟨a,vs,y,j,rfl,rfl,hH,(fQ hz.1 hz.1 ry ry).1,q1,?_,?_,h ρ _ _ (aN.refl _ _) sr (Rl.mkInt _)⟩
     ·obtain ⟨z,Jf⟩:∃ z,vs[j]? = some z:=⟨_,List.getElem?_eq_getElem (by lia)⟩
      obtain ⟨w,E!,e⟩:=at_ j z Jf
      refine ⟨z,Jf,?_⟩
      rw [List.getElem?_eq_getElem SK] at E!
      cases E!
      rw [e]; exact SM
     ·intro m z hm Jf
      obtain ⟨w,E!,e⟩:=at_ m z Jf
      rw [List.getElem?_eq_getElem (by lia)] at E!
      cases E!
      rw [e]
      simpa using SN m hm
    ·exact h.elim
   ·exact h.elim
  ·exact h.elim
 ·exact h.elim
variable {o e:Expr} {es:List Expr} {mo:ME} {ms:MA} {apos bZ:Pos}
theorem Bj (ho:PE X o (tE X E mo)) (ha:PA X (e :: es) (tL X E ms))
  (fM:attributeBase o "count" X.env (eval o X.env) = eval o X.env:=by rfl)
  (qN:((backTo bZ (starEach (e :: es) X.env)).all (fun x => !x.1) && (backToKw bZ (keywordEach [] X.env)).all (fun x => x.1.isSome)
   && decide ((e :: es).length + ([]:List Keyword).length + (if ([]:List Keyword).isEmpty then 0 else 1) < 30)) = true:=by rfl)
  (fN:(apos.endLine == bZ.line) = true:=by rfl) (hs:starEach (e :: es) X.env = (false,eval e X.env) :: starEach es X.env:=by rfl) (g?:(backTo bZ (starEach es X.env)).any (·.1) = false:=by rfl) :
  PE X (.Call (.Attribute o "count" apos) (e :: es) [] bZ) (tE X E (kD i9 mo ms)):=vp PySem.F.slot_list_count PySem.F.type_list_count yE ho ha fM qN fN hs g?
theorem Bk (ho:PE X o (tE X E mo)) (ha:PA X (e :: es) (tL X E ms))
  (fM:attributeBase o "index" X.env (eval o X.env) = eval o X.env:=by rfl)
  (qN:((backTo bZ (starEach (e :: es) X.env)).all (fun x => !x.1) && (backToKw bZ (keywordEach [] X.env)).all (fun x => x.1.isSome)
   && decide ((e :: es).length + ([]:List Keyword).length + (if ([]:List Keyword).isEmpty then 0 else 1) < 30)) = true:=by rfl)
  (fN:(apos.endLine == bZ.line) = true:=by rfl) (hs:starEach (e :: es) X.env = (false,eval e X.env) :: starEach es X.env:=by rfl) (g?:(backTo bZ (starEach es X.env)).any (·.1) = false:=by rfl) :
  PE X (.Call (.Attribute o "index" apos) (e :: es) [] bZ) (tE X E (kD i_ mo ms)):=vp PySem.F.slot_list_index PySem.F.type_list_index yF ho ha fM qN fN hs g?
end
end MN
namespace SO
open PySem PySem.W PyProof.Rows
end SO
namespace SO
open PySem PySem.W PyProof.Rows
end SO
namespace SO
open PySem PySem.W PyProof.Rows
end SO
namespace L2
open PySem PySem.Spec PyProof.Rows
end L2
namespace MN
open PySem PySem.Spec L2
open PyProof.Rows hiding St kindOf
end MN
namespace L2
open PySem PySem.Spec PyProof.Rows PySem.W
section
variable {X:Cx}
theorem pB:bU X (.builtin "isinstance") (fun xs H Q => ∃ (ea:Addr) (oe:Obj) (C D:Addr) (b:Bool),xs = [.ref ea,.ref D] ∧ (ea,oe) ∈ X.pn ∧ oe.cls = .ref C ∧ iY X.K C ∧ kitOne X.K (.ref C) (.ref D) = some b ∧ Q (.bl b) H):=by
 intro af s σ H xs us Q I r h
 obtain ⟨ea,oe,C,D,b,rfl,hp,hc,hq,hk,q⟩:=h
 have he:=(I.pin (ea,oe) (List.mem_append_left _ hp)).1
 obtain ⟨u,u2,rfl,ru,Gx⟩:=vals2 r
 cases ru
 cases Gx
 exact kia_one (AR hc hq) I.lM he hk (by intro z; cases z) fun tk => ⟨.bl b,H,I.tok tk,rfl,q⟩
end
end L2
namespace MN
open PySem PySem.Spec L2
open PyProof.Rows hiding St
noncomputable def dC (sub:Str → Str → Option Bool) (qs:List Str) (i:Nat) (x:Str):ME:=fun μ st => match μ[i]? with
 | some (some (.exc c)) => if qs.contains c then (match sub c x with
  | some b => .ok (.bl b) st
  | none => .bad) else .bad
 | _ => .bad
section
variable {X:Cx} {E:XK} {pos p q1 q2:Pos} {n x:Str} {tab:List (Str × Str × Bool)} {qs:List Str}
theorem DW (i:Nat) (hS:dY X.K X.mg tab) (hQ:pA X.K X.mg qs) (h:AF X.K X.mg x) (hg:Gl X "isinstance") (hm:X.mg "isinstance" = none) (Jc:Gl X x) (hN:X.N[i]? = some n:=by rfl) (hv:BY X.env.scope n:=by first | exact Or.inl rfl | exact Or.inr (Or.inl rfl))
  (hd:(n == ("__debug__":Str)) = false:=by decide) (nr:(n == ("__classdict__":Str)) = false:=by decide) (Jd:(x == ("__debug__":Str)) = false:=by decide)
  (hs:starEach [.Name n q1,.Name x q2] X.env = (false,eval (.Name n q1) X.env) :: starEach [.Name x q2] X.env:=by rfl) (gz:starEach [.Name x q2] X.env = (false,eval (.Name x q2) X.env) :: starEach [] X.env:=by rfl)
  (iH:(backTo pos (starEach [.Name x q2] X.env)).any (·.1) = false:=by rfl):PE X (.Call (.Name "isinstance" p) [.Name n q1,.Name x q2] [] pos) (tE X E (dC (dc tab) qs i x)):=by
 obtain ⟨D,hD,_,_⟩:=h
 refine PE.imp (jP pB hg hm PyProof.Rows.boot_isinstance (gq (qw (i:=i) hN hv hd nr) (gq (qy (v:=.ref D) Jc hD rfl Jd) nC gz) hs) (by decide) (by decide) hs iH) ?_
 rintro σ H Q ⟨μ,ρ,st,rs,sr,h⟩
 unfold dC at h
 split at h
 ·rename_i c e
  split at h
  ·rename_i SQ
   split at h
   ·rename_i b eb
    obtain ⟨w,e',a,oe,C,rfl,hp,hC,ho⟩:=rs.at_ i _ e
    obtain ⟨C',QS,hq⟩:=hQ.at_ SQ
    have hC:X.mg c = some (.ref C):=hC
    rw [hC] at QS
    cases QS
    refine ⟨_,e',a,oe,C,D,b,rfl,hp,ho,hq,?_,iz sr h⟩
    have k:=hS.KU c x b C D eb hC hD
    unfold PySem.W.kitOne
    split
    ·rename_i z
     have z:=beq_iff_eq.mp z
     cases z
     rw [hq.kc] at k
     exact k
    ·exact k
   ·exact h.elim
  ·exact h.elim
 ·exact h.elim
end
end MN
namespace PM
open PySem PySem.Spec L2 MN
open PyProof.Rows hiding St
end PM
namespace PM
open PySem PySem.Spec L2 MN
open PyProof.Rows hiding St
end PM
namespace MN
open PySem PySem.Spec L2
open PyProof.Rows hiding St kindOf
end MN
namespace MN
open PySem PySem.Spec L2
open PyProof.Rows hiding St
section
variable {K:PySem.W.Frag} {h:Heap} {mg:Str → Option Value}
noncomputable def cQ (K:PySem.W.Frag) (x:Str) (st:Stmt):Prop:=∃ (f:Addr) (fd:FuncData),B4 K x x st f fd ∧ PySem.W.nsIn K mainGlobals x = some (some (.ref f))
theorem cQ.mk {x:Str} {st:Stmt} {f:Addr} {oc:Value} {od an:Option Addr} {xK:Array (Option Value)} {kV doc pm dW ct:Value} (a:PySem.W.nsIn K mainGlobals x = some (some (.ref f))) (l:K.lookup f = some ⟨oc,od,.func (PySem.W.fnOf x x (ff st) (dj st) (a_ st) .none kV doc pm an dW ct),xK⟩)
  (c:PySem.W.codeIn K dW x = true) (k:PySem.W.keepIn K (.ref f) = true):cQ K x st:=⟨f,_,zP l c k,a⟩
inductive vJ (K:PySem.W.Frag):List Str → Prop
 | nil:vJ K []
 | cons {x:Str} {r:List Str} (a:PySem.W.nsIn K mainGlobals x = some none) (t:vJ K r):vJ K (x :: r)
@[reducible] def DX (mg:Str → Option Value):List Str → Prop
 | [] => True
 | x :: r => mg x = none ∧ DX mg r
theorem vJ.get (X:K.In h) (G:h.Ns mainGlobals mg):∀ {l:List Str},vJ K l → DX mg l
 | _,.nil => trivial
 | _,.cons a t => ⟨PySem.W.mg_none_of X G a,t.get X G⟩
inductive vK (K:PySem.W.Frag):List Str → Prop
 | nil:vK K []
 | cons {x:Str} {r:List Str} {C:Addr} (a:PySem.W.nsIn K mainGlobals x = some (some (.ref C))) (e:PySem.W.excIn K C QG "ValueError.__new__" = true) (s:PySem.W.subIn K (.ref C) (.type "BaseException") = some true) (t:vK K r):vK K (x :: r)
@[reducible] def DY (K:PySem.W.Frag) (mg:Str → Option Value):List Str → Prop
 | [] => True
 | x :: r => AF K mg x ∧ DY K mg r
theorem vK.get (X:K.In h) (G:h.Ns mainGlobals mg):∀ {l:List Str},vK K l → DY K mg l
 | _,.nil => trivial
 | _,.cons a e s t => ⟨⟨_,PySem.W.mg_of X G a,e,s⟩,t.get X G⟩
inductive l_ (K:PySem.W.Frag):List (Str × Str × Bool) → Prop
 | nil:l_ K []
 | cons {c x:Str} {b:Bool} {C D:Addr} {cd:ClassData} {r:List (Str × Str × Bool)} (h1:PySem.W.nsIn K mainGlobals c = some (some (.ref C))) (h2:PySem.W.nsIn K mainGlobals x = some (some (.ref D))) (h3:PySem.W.clsIn K D = some cd) (h4:PySem.W.typeIn K (.ref D) = some (.type "type")) (h5:PySem.W.subIn K (.ref C) (.ref D) = some b) (t:l_ K r):l_ K ((c,x,b) :: r)
inductive ow (K:PySem.W.Frag):List Str → Prop
 | nil:ow K []
 | cons {c:Str} {C:Addr} {r:List Str} (h1:PySem.W.nsIn K mainGlobals c = some (some (.ref C))) (h3:PySem.W.kitOne K (.ref C) (.type "ValueError") = some true) (t:ow K r):ow K (c :: r)
noncomputable def Lk (l:List Str):List (Str × Str × Bool):=l.map fun c => (c,"ValueError",true)
theorem ow.get (X:K.In h) (G:h.Ns mainGlobals mg) (n:PySem.W.nsIn K mainGlobals "ValueError" = some none):∀ {l:List Str},ow K l → dY K mg (Lk l)
 | _,.nil => .nil
 | _,.cons h1 h3 t => .blt (PySem.W.mg_of X G h1) (PySem.W.mg_none_of X G n) jt h3 (t.get X G n)
theorem l_.get (X:K.In h) (G:h.Ns mainGlobals mg) {l':List (Str × Str × Bool)} (S:dY K mg l'):∀ {l:List (Str × Str × Bool)},l_ K l → dY K mg (l ++ l')
 | _,.nil => S
 | _,.cons h1 h2 h3 h4 h5 t => .own (PySem.W.mg_of X G h1) (PySem.W.mg_of X G h2) (yo h3 h4 h5) (t.get X G S)
inductive vL (K:PySem.W.Frag):List Str → Prop
 | nil:vL K []
 | cons {x:Str} {r:List Str} {C:Addr} (a:PySem.W.nsIn K mainGlobals x = some (some (.ref C))) (q:L2.q? K C = true) (t:vL K r):vL K (x :: r)
theorem vL.get (X:K.In h) (G:h.Ns mainGlobals mg):∀ {l:List Str},vL K l → pA K mg l
 | _,.nil => .nil
 | _,.cons a q t => .cons (PySem.W.mg_of X G a) q (t.get X G)
theorem pA.known {l:List Str} (Q:pA K mg l):Known mg (Oq l):=fun c hc => let ⟨C,h,_⟩:=Q.at_ hc; ⟨C,h⟩
end
section
variable {X:Cx} {E:XK} {pos:Pos} {a b:Expr} {ma mb:ME}
theorem Ig (ha:PE X a (tE X E ma)) (hb:PE X b (tE X E mb)):PE X (.BinOp a .Add b pos) (tE X E (ai cS ma mb)):=kC C_ ha hb
theorem Ih (ha:PE X a (tE X E ma)) (hb:PE X b (tE X E mb)):PE X (.BinOp a .Sub b pos) (tE X E (ai gD ma mb)):=kC C! ha hb
theorem Ii (ha:PE X a (tE X E ma)) (hb:PE X b (tE X E mb)):PE X (.BinOp a .Mult b pos) (tE X E (ai b9 ma mb)):=kC C? ha hb
theorem Ij (ha:PE X a (tE X E ma)) (hb:PE X b (tE X E mb)):PE X (.BinOp a .FloorDiv b pos) (tE X E (ai gu ma mb)):=kC An ha hb
theorem Ik (ha:PE X a (tE X E ma)) (hb:PE X b (tE X E mb)):PE X (.BinOp a .Mod b pos) (tE X E (ai cq ma mb)):=kC Dc ha hb
theorem Il (ha:PE X a (tE X E ma)) (hb:PE X b (tE X E mb)):PE X (.BinOp a .Pow b pos) (tE X E (ai yc ma mb)):=kC Dd ha hb
theorem Ll (ha:PE X a (tE X E ma)) (hb:PE X b (tE X E mb)):PT X (.Compare a [.Lt] [b] pos) (tT X E (bX (ai ltV ma mb))):=nO G7 ha hb
theorem Lm (ha:PE X a (tE X E ma)) (hb:PE X b (tE X E mb)):PT X (.Compare a [.Gt] [b] pos) (tT X E (bX (ai qV ma mb))):=nO G8 ha hb
theorem Ln (hu:X.A.units + 64 < cLine) (ha:PE X a (tE X E ma)) (hb:PE X b (tE X E mb)):PT X (.Compare a [.Eq] [b] pos) (tT X E (bX (ai dP ma mb))):=nO (Aq hu) ha hb
theorem Lo (hu:X.A.units + 64 < cLine) (ha:PE X a (tE X E ma)) (hb:PE X b (tE X E mb)):PT X (.Compare a [.NotEq] [b] pos) (tT X E (bX (ai m5 ma mb))):=nO (Ar hu) ha hb
theorem Lp (hu:X.A.units + 64 < cLine) (ha:PE X a (tE X E ma)) (hb:PE X b (tE X E mb)):PE X (.Compare a [.Eq] [b] pos) (tE X E (ai dP ma mb)):=Ai (Aq hu) ha hb
theorem Lq (hu:X.A.units + 64 < cLine) (ha:PE X a (tE X E ma)) (hb:PE X b (tE X E mb)):PE X (.Compare a [.NotEq] [b] pos) (tE X E (ai m5 ma mb)):=Ai (Ar hu) ha hb
end
end MN
namespace MN
open PySem PySem.Spec L2
open PyProof.Rows hiding St kindOf
end MN
namespace SO
open PySem PySem.W PyProof.Rows
end SO
namespace L2
open PySem PySem.Spec PyProof.Rows
end L2
namespace DL
open PySem
section
variable {prog:Program} {w:World} {A:Around} {E:Value → Shared → Prop} {s:Shared}
variable {K:Type} [DecidableEq K] {knd:KeyKind prog w K}
noncomputable def l_ (knd:KeyKind prog w K) (h:Heap) (u:Value) (q:K × Value):Prop :=
 ∃ a o aO n key,u = .ref a ∧ h.get? a = some o ∧ o.cls = .type "tuple" ∧ o.data = .seq aO n ∧ aO.toList = [key,q.2] ∧ knd.is q.1 key = true
end
end DL
namespace L2
open PySem PySem.Spec PyProof.Rows
end L2
namespace L2
open PySem PySem.Spec PyProof.Rows
end L2
namespace L2
open PySem PySem.Spec PyProof.Rows
end L2
namespace MN
open PySem PySem.Spec L2
open PyProof.Rows hiding St kindOf
end MN
namespace MN
open PySem PySem.Spec L2
open PyProof.Rows hiding St kindOf
end MN
namespace L2
open PySem PySem.Spec PyProof.Rows
end L2
namespace SO
open PySem PySem.W PyProof.Rows
end SO
namespace L2
open PySem PySem.Spec PyProof.Rows
end L2
namespace MN
open PySem PySem.Spec L2
open PyProof.Rows hiding St kindOf
noncomputable def Bl (st:ag) (n:Nat):Option (List (dh × ah)):=match st[n]? with
 | some (.dK kvs) => some kvs
 | some (.fd kvs) => some kvs
 | _ => none
theorem DZ {K:PySem.W.Frag} {ρ:List Addr} {st:ag} {H:Hp} {n:Nat} {a:Addr} {kvs:List (dh × ah)} (sr:SR K ρ st H) (h:Bl st n = some kvs) (ha:ρ[n]? = some a):∃ dO,Rd H a (.dK dO) ∧ gp K ρ H kvs dO:=by
 unfold Bl at h
 split at h
 ·rename_i z
  cases h
  obtain ⟨dO,h1,h2⟩:=sr.cell n _ a z ha
  exact ⟨dO,.inl h1,h2⟩
 ·rename_i z
  cases h
  obtain ⟨o,dO,h1,h2⟩:=sr.cell n _ a z ha
  exact ⟨dO,.inr ⟨o,h1⟩,h2⟩
 ·cases h
noncomputable def oy:List dh → Option (List Int)
 | [] => some []
 | .inl i :: r => (oy r).map (i :: ·)
 | .inr _ :: _ => none
theorem yG:∀ {l:List dh} {a:List Int},oy l = some a → l = a.map Sum.inl:=by
 intro l
 induction l with
 | nil => intro a h; cases h; rfl
 | cons x r ih =>
  intro a h
  cases x with
  | inl i =>
   replace h:(oy r).map (i :: ·) = some a:=h
   cases z:oy r with
   | none => rw [z] at h; cases h
   | some b => rw [z] at h; cases h; rw [ih z]; rfl
  | inr x => cases h
end MN
namespace MN
open PySem PySem.Spec L2
end MN
namespace PM
open PySem PySem.Spec L2 MN
open PyProof.Rows hiding St
end PM
namespace SO
open PySem PySem.W PyProof.Rows
section
variable {prog:Program} {w:World} {A:Around} {E:Value → Shared → Prop} {s:Shared} {ns:List Int}
theorem tX {d:Addr} {es:Array DictEntry} {ep:Nat} {Q:Value → Shared → Prop} (hh:A.handled = none) (lo:(d == sysModules) = false) (x:jZ s.heap d es ep) (t:IntsAre (es.toList.map (·.key)) ns) (hz:es.size < 64)
  (h:∀ (h':Heap) (tk:Nat) (l:Addr) (c:Nat) (out:List Value) (uR:List Int),(∀ b o,s.heap.get? b = some o → h'.get? b = some o) → s.heap.objs.size ≤ l → IntsAre out uR → uR.Perm ns → uR.Pairwise (· ≤ ·) →
   h'.get? l = some (seqObj "list" out.toArray c) → Q (.ref l) { s with heap:=h',toks:=tk }) :
  wpAny (model prog w) A (call (.builtin "sorted") [.ref d]) Q E s:=by
 refine Calls.call_function_entry kind_sorted plain_sorted entry_sorted (args_sorted1 _) ?_
 unfold Builtin.«sorted»; refine wpAny_bind (m:=checkCount "sorted" 1 1 _) (wpAny_pure ?_)
 obtain ⟨vs,ev⟩:∃ vs,vs = es.toList.map (·.key):=⟨_,rfl⟩
 have lv:vs.length = es.size:=by rw [ev,List.length_map,Array.length_toList]
 refine wpAny_bind (tV hh lo x (by rw [sizeLine_eq]; lia) fun h1 tk k0 k1 => ?_)
 rw [← ev] at t ⊢
 refine wpAny_bind (wpAny_newList ?_ (by show vs.length ≤ _; rw [sizeLine_eq]; lia))
 have gl:(h1.push (seqObj "list" vs.toArray 0)).get? h1.objs.size = some (seqObj "list" vs.toArray 0):=Heap.get?_push_size _ rfl
 show wpAny _ _ _ _ _ { s with heap:=h1.push (seqObj "list" vs.toArray 0),toks:=tk }
 refine wpAny_bind (wpAny_holding (wpAny_call_entry slot_list_sort ⟨_,gl,rfl⟩ entry_list_sort (list_sort_tree gl t (by lia) fun out uR a1 a2 a3 => ⟨_,rfl,?_⟩) (args_list_sort _)))
 obtain ⟨c,gc⟩:∃ c,(sortedHeap (h1.push (seqObj "list" vs.toArray 0)) h1.objs.size vs out).get? h1.objs.size = some (seqObj "list" out.toList.toArray c) :=
  ⟨_,by unfold sortedHeap; exact get?_update_seq (Heap.get?_push_of_some _ (Heap.get?_push_of_some _ (get?_update_seq gl fun _ => #[]))) fun _ => out.toList.toArray⟩
 refine wpAny_pure ⟨_,rfl,h _ tk h1.objs.size c out.toList uR (fun b o e => ?_) (Nat.le_of_lt k0) a1 a2 a3 gc⟩
 have e1:=k1 b o e
 have ne:h1.objs.size ≠ b:=Nat.ne_of_gt (Heap.lt_size e1)
 unfold sortedHeap
 exact (Heap.get?_update_other _ _ ne).trans (Heap.get?_push_of_some _ (Heap.get?_push_of_some _ ((Heap.get?_update_other _ _ ne).trans (Heap.get?_push_of_some _ e1))))
end
end SO
namespace L2
open PySem PySem.Spec PyProof.Rows
section
variable {X:Cx}
theorem yH {P:Program} {w:World}:∀ {es:List DictEntry} {kvs:List (dh × Value)} {ns:List Int},Pairs (dD P w) es kvs → kvs.map (·.1) = ns.map Sum.inl → IntsAre (es.map (·.key)) ns:=by
 intro es kvs ns p
 induction p generalizing ns with
 | nil =>
  intro e
  cases ns with
  | nil => exact .nil
  | cons => cases e
 | @cons e kv es kvs h1 h2 _ ih =>
  intro q
  cases ns with
  | nil => cases q
  | cons n ns =>
   injection q with q1 q2
   replace q1:kv.1 = Sum.inl n:=q1
   rw [q1] at h1
   rcases cK (k:=.inl n) (v:=e.key) h1 with ⟨i,t,a,b⟩ | ⟨x,t,a,b⟩
   ·injection a with a
    rw [List.map_cons,b,← a]
    exact .cons n t (ih q2)
   ·cases a
theorem yI:∀ {us:List Value} {ns:List Int},IntsAre us ns → bo (ns.map V.int) us:=by
 intro us ns h
 induction h with
 | nil => exact .nil
 | cons n t _ ih => exact .cons ⟨t,rfl⟩ ih
theorem vM (hh:X.A.handled = none):bU X (.builtin "sorted") (fun xs H Q => ∃ (d:Addr) (kvs:List (dh × V)) (ns:List Int),xs = [.ref d] ∧ Rd H d (.dK kvs) ∧ kvs.map (·.1) = ns.map Sum.inl ∧ ns.length < 64 ∧
  ∀ (l:Addr) (uR:List Int),H l = none → uR.Perm ns → uR.Pairwise (· ≤ ·) → Q (.ref l) (upd H l (.lst (uR.map V.int)))):=by
 rintro af s σ H xs ws Q I r ⟨d,kvs,ns,rfl,hd,hk,hn,q⟩
 obtain ⟨u,rfl,ru⟩:=vals1 r
 cases ru
 obtain ⟨z,lo,vs,rel,dd⟩:=wy I.b? hd
 obtain ⟨ep,SS⟩:=dd.dictAt
 have e:vs.map (·.1) = kvs.map (·.1):=by
  have:∀ {a:List (dh × V)} {b:List (dh × Value)},KV a b → b.map (·.1) = a.map (·.1):=by
   intro a b r
   induction r with
   | nil => rfl
   | cons h _ ih => rw [List.map_cons,List.map_cons,ih,h.1]
  exact this rel
 obtain ⟨o,es,h1,h2,h3,h4,h5,h6⟩:=SS
 have ia:=yH h5 (e.trans hk)
 have le:es.size = ns.length:=by
  have:=ia.length
  rw [List.length_map,Array.length_toList] at this
  exact this
 refine SO.tX hh lo ⟨o,h1,h2.1,h3⟩ ia (by lia) fun h' tk l c out uR kp hl io pm pw g => ?_
 have lz:(uR.map V.int).length ≤ sizeLine:=by rw [List.length_map,pm.length_eq,sizeLine_eq]; lia
 exact ⟨.ref l,_,I.laid (t':=tk) kp hl (show cL X.prog X.w _ h' _ (.lst (uR.map V.int)) from ⟨lz,_,c,yI io,g⟩),rfl,q l uR (I.b?.fresh hl) pm pw⟩
noncomputable def eD {α:Type} (xs:List α) (k:Int):List α:=(sliceRange 0 xs.length k).filterMap fun i => xs[i]?
theorem kN:∀ (is:List Nat) {xs:List V} {us:List Value},bo xs us → bo (is.filterMap fun i => xs[i]?) (is.filterMap fun i => us[i]?)
 | [],_,_,_ => .nil
 | i :: is,xs,us,r => by
  cases z:xs[i]? with
  | none =>
   have:us[i]? = none:=by
    rw [List.getElem?_eq_none_iff] at z ⊢
    rw [← r.length]; exact z
   rw [List.filterMap_cons_none z,List.filterMap_cons_none this]
   exact kN is r
  | some x =>
   obtain ⟨u,hu,ru⟩:=r.get z
   rw [List.filterMap_cons_some z,List.filterMap_cons_some hu]
   exact .cons ru (kN is r)
theorem Bm {α:Type} (xs:List α) {k:Int} (hk:0 < k):(eD xs k).length ≤ xs.length:=by
 unfold eD
 refine Nat.le_trans (List.length_filterMap_le _ _) ?_
 have:=sliceRange_len_le 0 (xs.length:Int) k (by lia)
 rw [if_pos hk] at this
 simpa using this
theorem yJ {e es:Expr} {te ts:TE} {pos p2:Pos} (he:PE X e te) (hs:PE X es ts) :
  PE X (.Subscript e (.Slice none none (some es) p2) pos) (fun σ H Q => te σ H fun x H1 => ts σ H1 fun y H2 => ∃ a xs k,x = .ref a ∧ y = .int k ∧ 0 < k ∧ iG X.K H2 a xs ∧ ∀ p,H2 p = none → Q (.ref p) (upd H2 p (.lst (eD xs k)))):=by
 intro af s σ H Q I h
 refine Subscript_ (cR (he af s σ H _ I h) fun v s1 ⟨x,H1,I1,r1,q1⟩ => ?_)
 refine wpAny_Slice ?_
 rw [evalPart_none]
 refine wpAny_pure ?_
 refine wpAny_pure ?_
 rw [evalPart_some]
 refine cR (hs af s1 σ H1 _ I1 q1) fun v3 s3 ⟨y,H2,I3,r3,a,xs,k,e1,e2,hk,hx,q⟩ => ?_
 subst e1 e2
 cases r1
 obtain ⟨tk,rfl⟩:=r3
 have I4:aS X af σ H2 { s3 with heap:=s3.heap.push { cls:=.type "slice",data:=.fields #[.none,.none,.int k tk] } }:=I3.kept (t':=s3.toks) fun b ob q => Heap.get?_push_of_some _ q
 show wpAny (model X.prog X.w) X.A (subscriptTail e (.Slice none none (some es) p2) (.ref a) (.ref s3.heap.objs.size)) (EP X af σ Q) X.xe { s3 with heap:=s3.heap.push { cls:=.type "slice",data:=.fields #[.none,.none,.int k tk] } }
 obtain ⟨aO,r,ht,hz⟩:=I4.list hx
 have hlen:aO.toArray.size = xs.length:=by rw [List.size_toArray]; exact r.length.symm
 refine tail_any (ops:=[.ref a,.ref s3.heap.objs.size]) ht.isList.typeIs slot_list_getitem.lookup ?_ (by with_unfolding_all rfl)
 refine wpAny_getItem_list_slice ht.isList (Heap.IsSliceOf.new ..) .none .none (.int k tk) (by intro z; injection z with z; lia) ?_ (by rw [hlen]; exact hz)
 have ep:slicePick aO.toArray none none (some k) = (eD aO k).toArray:=by
  have b1:(sliceBounds none none (some k) aO.toArray.size).1 = 0:=by show (if k > 0 then (0:Int) else _) = 0; rw [if_pos hk]
  have b2:(sliceBounds none none (some k) aO.toArray.size).2.1 = (aO.length:Int):=by show (if k > 0 then ((aO.toArray.size:Nat):Int) else _) = _; rw [if_pos hk,List.size_toArray]
  have b3:(sliceBounds none none (some k) aO.toArray.size).2.2 = k:=rfl
  unfold slicePick eD
  rw [b1,b2,b3]
  simp only [List.getElem?_toArray]
 rw [ep]
 refine ⟨.ref _,_,I4.laid (t':=s3.toks) (o:=.lst (eD xs k)) (fun b ob q => Heap.get?_push_of_some _ q) (Nat.le_refl _) ?_,rfl,q _ (I4.b?.fresh (Nat.le_refl _))⟩
 refine ⟨Nat.le_trans (Bm xs hk) hz,_,0,?_,Heap.get?_push_size _ rfl⟩
 unfold eD
 rw [show aO.length = xs.length from r.length.symm]
 exact kN _ r
end
end L2
namespace MN
open PySem PySem.Spec L2
open PyProof.Rows hiding St kindOf
noncomputable def pC (ns:List Int):List Int:=ns.mergeSort fun a b => decide (a ≤ b)
theorem kQ (ns:List Int):(pC ns).Perm ns:=List.mergeSort_perm ns _
theorem D0 (ns:List Int):(pC ns).Pairwise (· ≤ ·):=by
 have h:=List.pairwise_mergeSort (le:=fun (a b:Int) => decide (a ≤ b)) (fun a b c h1 h2 => decide_eq_true (by have:=of_decide_eq_true h1; have:=of_decide_eq_true h2; lia)) (fun a b => by
  rw [Bool.or_eq_true,decide_eq_true_eq,decide_eq_true_eq]; lia) ns
 exact h.imp fun h => of_decide_eq_true h
theorem up_eq {a b:List Int} (p:a.Perm b) (ha:a.Pairwise (· ≤ ·)) (hb:b.Pairwise (· ≤ ·)):a = b :=
 List.Perm.eq_of_pairwise (fun x y _ _ h1 h2 => by lia) ha hb p
noncomputable def j4:FN
 | [.loc n],st => match Bl st n with
  | some kvs => match oy (kvs.map (·.1)) with
   | some ns => if ns.length < 64 then .ok (.loc st.length) (st ++ [.lst ((pC ns).map .int)]) else .bad
   | none => .bad
  | none => .bad
 | _,_ => .bad
noncomputable def m8 (v k:ah) (st:ag):cn ah:=match v,k with
 | .loc n,.int k => match ak st n with
  | some us => if 0 < k then .ok (.loc st.length) (st ++ [.lst (eD us k)]) else .bad
  | none => .bad
 | _,_ => .bad
noncomputable def m9 (m mk:ME):ME:=fun μ st => (m μ st).bind fun v st1 => (mk μ st1).bind fun k bS => m8 v k bS
section
variable {X:Cx} {E:XK}
theorem tY (hh:X.A.handled = none):bU X (.builtin "sorted") (cM (wo X) E j4):=by
 refine bU.imp (vM hh) ?_
 rintro xs H Q ⟨ρ,st,us,sr,r,h⟩
 unfold j4 at h
 split at h
 ·rename_i n
  obtain ⟨v,rfl,r1⟩:=r.tj
  obtain ⟨a,rfl,ha⟩:=r1.dF
  split at h
  ·rename_i kvs e
   split at h
   ·rename_i ns z
    split at h
    ·rename_i hn
     obtain ⟨dO,h1,h2⟩:=DZ sr e ha
     refine ⟨a,dO,ns,rfl,h1,by rw [← h2.1]; exact yG z,hn,fun l uR hl pm pw => ?_⟩
     rw [up_eq (pm.trans (kQ ns).symm) pw (D0 ns)]
     obtain ⟨k1,k2,k3⟩:=fE sr (bt.ints (pC ns)) hl
     exact h _ _ _ k1 k2 k3
    ·exact h.elim
   ·exact h.elim
  ·exact h.elim
 ·exact h.elim
theorem oz {K:PySem.W.Frag} {ρ:List Addr} {H:Hp}:∀ (is:List Nat) {us:List ah} {xs:List V},bt K ρ H us xs → bt K ρ H (is.filterMap fun i => us[i]?) (is.filterMap fun i => xs[i]?)
 | [],_,_,_ => bt.nil
 | i :: is,us,xs,r => by
  cases z:us[i]? with
  | none =>
   have:xs[i]? = none:=by
    rw [List.getElem?_eq_none_iff] at z ⊢
    rw [← r.length]; exact z
   rw [List.filterMap_cons_none z,List.filterMap_cons_none this]
   exact oz is r
  | some x =>
   obtain ⟨u,hu,ru⟩:=r.get z
   rw [List.filterMap_cons_some z,List.filterMap_cons_some hu]
   exact bt.cons ru (oz is r)
theorem yK {e es:Expr} {m mk:ME} {pos p2:Pos} (he:PE X e (tE X E m)) (hs:PE X es (tE X E mk)):PE X (.Subscript e (.Slice none none (some es) p2) pos) (tE X E (m9 m mk)):=by
 refine PE.imp (yJ he hs) ?_
 rintro σ H Q ⟨μ,ρ,st,rs,sr,h⟩
 refine go μ ρ st rs sr h fun u st1 ρ1 H1 x e1 bT r1 h1 => ?_
 refine go μ ρ1 st1 (rs.mono e1) bT h1 fun k bS ρ2 H2 z e2 lY r2 h2 => ?_
 have SU:=Rl.mono e2 _ _ r1
 cases u with
 | loc n =>
  cases k with
  | int k =>
   unfold m8 at h2
   dsimp only at h2
   cases hn:ak bS n with
   | none => rw [hn] at h2; exact h2.elim
   | some us =>
    rw [hn] at h2
    dsimp only at h2
    by_cases hk:0 < k
    ·rw [if_pos hk] at h2
     obtain ⟨a,rfl,ha⟩:=SU.dF
     obtain ⟨vs,h3,rv⟩:=bg lY hn ha
     refine ⟨a,vs,k,rfl,by rw [r2.b8],hk,h3,fun p hp => ?_⟩
     have rr:bt X.K ρ2 H2 (eD us k) (eD vs k):=by
      unfold eD
      rw [show us.length = vs.length from rv.length]
      exact oz _ rv
     obtain ⟨k1,k2,k3⟩:=fE lY rr hp
     exact h2 _ _ _ k1 k2 k3
    ·rw [if_neg hk] at h2; exact h2.elim
  | _ => exact h2.elim
 | _ => exact h2.elim
end
end MN
namespace PM
open PySem PySem.Spec L2 MN
open PyProof.Rows hiding St
noncomputable def ej:FN:=fB 1 2 (aK (aU 1 (ai cS (mC (.int 2)) (ai cq (ai gu (ae 0) (mC (.int 2))) (mC (.int 996))))) (aK (gN (bX (ai dP (ai cq (ae 0) (mC (.int 2))) (mC (.int 0)))) (bD (ai b9 (ai cS (mC (.int 2)) (ai cq (ai gu (ae 0) (mC (.int 2))) (mC (.int 30)))) (ai cS (mC (.int 2)) (ai cq (ai gu (ae 0) (mC (.int 60))) (mC (.int 30)))))) bM) (aK (gN (bX (ai m5 (dX 1 [1] (eJ (aa (mC (.int 2)) (aa (mC (.int 32)) aq))) (bb 0) (dE (bX (ai ltV (ae 0) (ae 1))) (bX (ai dP (ai cq (ae 1) (ae 0)) (mC (.int 0))))) (ae 0)) (cF aq))) (bD (ae 1)) bM) (bD (ai b9 (mC (.int 4)) (ai cS (mC (.int 1)) (ai cq (ai gu (ae 0) (mC (.int 2))) (mC (.int 249)))))))))
noncomputable def fc:FN:=fB 1 3 (aK (aU 1 (ai gu (ae 0) (mC (.int 10)))) (aK (aU 2 (cF (aa (mC (.int 0)) (aa (mC (.int 1)) (aa (ai gD (h! (mC (.int 1))) (ai cq (ae 1) (ai yc (mC (.int 10)) (mC (.int 12))))) (aa (ao PM.ej (aa (ae 1) aq)) (aa (mC (.int 1009)) (aa (ai cS (mC (.int 998)) (ai cq (ae 1) (ai yc (mC (.int 10)) (mC (.int 12))))) aq)))))))) (bD (ai dQ (ai cS (ae 2) (cF (aa (mC (.bl true)) (aa (mC .dA) (aa (mC (.str "7")) (aa (iQ (aa (mC (.int 5)) aq)) aq)))))) (ai cq (ae 0) (mC (.int 10)))))))
noncomputable def de:FN:=fB 2 2 (bD (ao PM.b7 (aa (ae 0) (aa (ae 1) (aa (ao PM.inverse (aa (ae 0) (aa (ai dQ (ae 1) (h! (mC (.int 1)))) aq))) aq)))))
noncomputable def cY:FN:=fB 3 6 (aK (aU 3 (ae 1)) (aK (aU 4 (ae 2)) (aK (cb (bX (ai qV (ao bY (aa (ae 4) aq)) (mC (.int 0)))) (aK (aU 5 (ai dQ (ao PM.parted (aa (ae 0) (aa (ae 3) (aa (ae 4) aq)))) (mC (.int 1)))) (aK (aU 3 (ae 4)) (aU 4 (ae 5))))) (bD (ao PM.de (aa (ae 0) (aa (ae 3) aq)))))))
noncomputable def d7:FN:=fB 2 10 (aK (aU 2 qZ) (aK (aU 3 (mC (.int 1))) (aK (aU 4 (ae 1)) (aK (cb (bX (ai qV (ao bY (aa (ae 4) aq)) (mC (.int 1)))) (aK (aU 5 (ao PM.cY (aa (ae 0) (aa (ae 4) (aa (ao PM.cW (aa (ae 0) (aa (ae 4) aq))) aq))))) (aK (aU 6 (ai dQ (ao PM.parted (aa (ae 0) (aa (ae 4) (aa (ae 5) aq)))) (mC (.int 0)))) (aK (aU 7 (ae 3)) (aK (cb (bX (ai qV (ao bY (aa (ae 6) aq)) (mC (.int 1)))) (aK (aU 8 (ao PM.cY (aa (ae 0) (aa (ae 6) (aa (ae 5) aq))))) (aK (aU 9 (ai dQ (ao PM.parted (aa (ae 0) (aa (ae 6) (aa (ae 8) aq)))) (mC (.int 0)))) (aK (gN (bX (ai qV (ao bY (aa (ae 9) aq)) (mC (.int 1)))) (q_ (ae 2) (ae 7) (ae 9)) bM) (aK (aU 6 (ae 8)) (aK (aU 5 (ai dQ (ao PM.parted (aa (ae 0) (aa (ae 5) (aa (ae 8) aq)))) (mC (.int 0)))) (AL 7 yr (ae 3)))))))) (aK (aU 4 (m9 (ae 5) (ae 0))) (aU 3 (ai b9 (ae 3) (ae 0))))))))) (bD (ae 2))))))
noncomputable def dz:FN:=fB 2 3 (aK (gN (bX (ai dP (ao bY (aa (ae 1) aq)) (mC (.int 0)))) (bD (mC .dA)) bM) (aK (aU 2 (ao PM.met (aa (ae 0) (aa (ae 1) (aa (ao PM.cW (aa (ae 0) (aa (ae 1) aq))) aq))))) (bD (Kz (bX (ai dP (ao bY (aa (ai dQ (ae 2) (mC (.int 0))) aq)) (mC (.int 1)))) (iQ (aa (ai dQ (ae 2) (mC (.int 3))) (aa (ai dQ (ae 2) (mC (.int 4))) aq))) (mC .dA)))))
noncomputable def dU:FN:=fB 2 3 (aK (gN (bX (ai dP (ao bY (aa (ae 1) aq)) (mC (.int 0)))) (gC "NoParts" (aa (mC (.str "nought has no parts")) aq)) bM) (aK (aU 2 (ao PM.d7 (aa (ae 0) (aa (ao PM.de (aa (ae 0) (aa (ae 1) aq))) aq)))) (bD (iQ (aa (ai dQ (ae 1) (h! (mC (.int 1)))) (aa (dX 1 [2] (n_ (ao j4 (aa (ae 2) aq))) (bb 0) cO (iQ (aa (ai l5 (ae 1) (ae 0)) (aa (ae 0) aq)))) aq))))))
noncomputable def fI:FN:=fB 2 2 (aK (eh (ao PM.bu (aa (ae 0) aq))) (bD (ao PM.dz (aa (ae 0) (aa (ae 1) aq)))))
noncomputable def parts:FN:=fB 2 2 (aK (eh (ao PM.bu (aa (ae 0) aq))) (bD (ao PM.dU (aa (ae 0) (aa (ae 1) aq)))))
noncomputable def aI:FN:=fB 4 4 (aK (gN (bX (ai dP (ae 0) (mC (.int 0)))) (bD (ao PM.gP (aa (ae 1) (aa (ae 2) aq)))) bM) (aK (gN (bX (ai dP (ae 0) (mC (.int 1)))) (bD (ao PM.iZ (aa (ae 1) (aa (ae 2) (aa (ae 3) aq))))) bM) (aK (gN (bX (ai dP (ae 0) (mC (.int 2)))) (bD (ao PM.gQ (aa (ae 1) (aa (ae 2) (aa (ae 3) aq))))) bM) (aK (gN (bX (ai dP (ae 0) (mC (.int 3)))) (bD (ao PM.gR (aa (ae 1) (aa (ae 2) (aa (ae 3) aq))))) bM) (aK (gN (bX (ai dP (ae 0) (mC (.int 4)))) (bD (ao PM.fU (aa (ae 1) (aa (ae 2) (aa (mC (.int 3)) aq))))) bM) (aK (gN (bX (ai dP (ae 0) (mC (.int 5)))) (bD (ao PM.gS (aa (ae 1) (aa (ae 2) aq)))) bM) (aK (gN (bX (ai dP (ae 0) (mC (.int 6)))) (bD (ao PM.fG (aa (ae 1) (aa (ae 2) (aa (mC (.int 2)) aq))))) bM) (aK (gN (bX (ai dP (ae 0) (mC (.int 7)))) (bD (ao PM.divided (aa (ae 1) (aa (ae 2) (aa (ae 3) aq))))) bM) (aK (gN (bX (ai dP (ae 0) (mC (.int 8)))) (bD (ao PM.meet (aa (ae 1) (aa (ae 2) (aa (ae 3) aq))))) bM) (aK (gN (bX (ai dP (ae 0) (mC (.int 9)))) (bD (ao PM.fI (aa (ae 1) (aa (ae 2) aq)))) bM) (bD (ao PM.parts (aa (ae 1) (aa (ae 2) aq))))))))))))))
end PM
namespace vN
open PySem PySem.Spec L2 MN
open PyProof.Rows hiding St
noncomputable def Lr:List (Str × Str × Bool):=[(("NoInverse":Str),("ByNought":Str),false),(("NoInverse":Str),("NoCount":Str),false),(("NoInverse":Str),("NoInverse":Str),true),(("NoInverse":Str),("NoLead":Str),false),(("NoInverse":Str),("NoMeet":Str),false),(("NoInverse":Str),("NoOrder":Str),false),(("NoInverse":Str),("NoParts":Str),false),(("NoInverse":Str),("NoPrime":Str),false),(("NoInverse":Str),("NoRing":Str),false),(("NoInverse":Str),("NoSums":Str),false),(("NoInverse":Str),("NoTerm":Str),false),(("NoInverse":Str),("NoUnknowns":Str),false),(("NoInverse":Str),("NotPlain":Str),false),(("NoInverse":Str),("NotWhole":Str),false),(("NoInverse":Str),("NotWritten":Str),false),(("NoInverse":Str),("AlgebraError":Str),true),(("NoRing":Str),("ByNought":Str),false),(("NoRing":Str),("NoCount":Str),false),(("NoRing":Str),("NoInverse":Str),false),(("NoRing":Str),("NoLead":Str),false),(("NoRing":Str),("NoMeet":Str),false),(("NoRing":Str),("NoOrder":Str),false),(("NoRing":Str),("NoParts":Str),false),(("NoRing":Str),("NoPrime":Str),false),(("NoRing":Str),("NoRing":Str),true),(("NoRing":Str),("NoSums":Str),false),(("NoRing":Str),("NoTerm":Str),false),(("NoRing":Str),("NoUnknowns":Str),false),(("NoRing":Str),("NotPlain":Str),false),(("NoRing":Str),("NotWhole":Str),false),(("NoRing":Str),("NotWritten":Str),false),(("NoRing":Str),("AlgebraError":Str),true),(("NoPrime":Str),("ByNought":Str),false),(("NoPrime":Str),("NoCount":Str),false),(("NoPrime":Str),("NoInverse":Str),false),(("NoPrime":Str),("NoLead":Str),false),(("NoPrime":Str),("NoMeet":Str),false),(("NoPrime":Str),("NoOrder":Str),false),(("NoPrime":Str),("NoParts":Str),false),(("NoPrime":Str),("NoPrime":Str),true),(("NoPrime":Str),("NoRing":Str),false),(("NoPrime":Str),("NoSums":Str),false),(("NoPrime":Str),("NoTerm":Str),false),(("NoPrime":Str),("NoUnknowns":Str),false),(("NoPrime":Str),("NotPlain":Str),false),(("NoPrime":Str),("NotWhole":Str),false),(("NoPrime":Str),("NotWritten":Str),false),(("NoPrime":Str),("AlgebraError":Str),true),(("ByNought":Str),("ByNought":Str),true),(("ByNought":Str),("NoCount":Str),false),(("ByNought":Str),("NoInverse":Str),false),(("ByNought":Str),("NoLead":Str),false),(("ByNought":Str),("NoMeet":Str),false),(("ByNought":Str),("NoOrder":Str),false),(("ByNought":Str),("NoParts":Str),false),(("ByNought":Str),("NoPrime":Str),false),(("ByNought":Str),("NoRing":Str),false),(("ByNought":Str),("NoSums":Str),false),(("ByNought":Str),("NoTerm":Str),false),(("ByNought":Str),("NoUnknowns":Str),false),(("ByNought":Str),("NotPlain":Str),false),(("ByNought":Str),("NotWhole":Str),false),(("ByNought":Str),("NotWritten":Str),false),(("ByNought":Str),("AlgebraError":Str),true),(("NoMeet":Str),("ByNought":Str),false),(("NoMeet":Str),("NoCount":Str),false),(("NoMeet":Str),("NoInverse":Str),false),(("NoMeet":Str),("NoLead":Str),false),(("NoMeet":Str),("NoMeet":Str),true),(("NoMeet":Str),("NoOrder":Str),false),(("NoMeet":Str),("NoParts":Str),false),(("NoMeet":Str),("NoPrime":Str),false),(("NoMeet":Str),("NoRing":Str),false),(("NoMeet":Str),("NoSums":Str),false),(("NoMeet":Str),("NoTerm":Str),false),(("NoMeet":Str),("NoUnknowns":Str),false),(("NoMeet":Str),("NotPlain":Str),false),(("NoMeet":Str),("NotWhole":Str),false),(("NoMeet":Str),("NotWritten":Str),false),(("NoMeet":Str),("AlgebraError":Str),true),(("NoParts":Str),("ByNought":Str),false),(("NoParts":Str),("NoCount":Str),false),(("NoParts":Str),("NoInverse":Str),false),(("NoParts":Str),("NoLead":Str),false),(("NoParts":Str),("NoMeet":Str),false),(("NoParts":Str),("NoOrder":Str),false),(("NoParts":Str),("NoParts":Str),true),(("NoParts":Str),("NoPrime":Str),false),(("NoParts":Str),("NoRing":Str),false),(("NoParts":Str),("NoSums":Str),false),(("NoParts":Str),("NoTerm":Str),false),(("NoParts":Str),("NoUnknowns":Str),false),(("NoParts":Str),("NotPlain":Str),false),(("NoParts":Str),("NotWhole":Str),false),(("NoParts":Str),("NotWritten":Str),false),(("NoParts":Str),("AlgebraError":Str),true)]
noncomputable def tab:List (Str × Str × Bool):=Lr ++ Lk ["NoInverse","NoRing","NoPrime","ByNought","NoMeet","NoParts"]
noncomputable def kn:List Str:=["NoInverse","NoRing","NoPrime","ByNought","NoMeet","NoParts"]
noncomputable def dJ:Str → ag → cn ah:=MK 1 (aK (aU 1 (cF (aa (dC (dc tab) kn 0 "ByNought") (aa (dC (dc tab) kn 0 "NoCount") (aa (dC (dc tab) kn 0 "NoInverse") (aa (dC (dc tab) kn 0 "NoLead") aq)))))) (aK (aU 1 (ai cS (ae 1) (cF (aa (dC (dc tab) kn 0 "NoMeet") (aa (dC (dc tab) kn 0 "NoOrder") (aa (dC (dc tab) kn 0 "NoParts") (aa (dC (dc tab) kn 0 "NoPrime") aq))))))) (aK (aU 1 (ai cS (ae 1) (cF (aa (dC (dc tab) kn 0 "NoRing") (aa (dC (dc tab) kn 0 "NoSums") (aa (dC (dc tab) kn 0 "NoTerm") (aa (dC (dc tab) kn 0 "NoUnknowns") aq))))))) (bD (ai cS (ae 1) (cF (aa (dC (dc tab) kn 0 "NotPlain") (aa (dC (dc tab) kn 0 "NotWhole") (aa (dC (dc tab) kn 0 "NotWritten") aq)))))))))
noncomputable def b!:Str → ag → cn ah:=MK 2 (aK (aU 1 (jG 0 dJ)) (aK (gN (vi (bX (ai m5 (kD i9 (ae 1) (aa (mC (.bl true)) aq)) (mC (.int 1)))) (nT (bX (vt (dc tab) 0 "ValueError")))) (bD (mC (.str "several"))) bM) (aK (aU 2 (cF (aa (mC (.str "nought")) (aa (mC (.str "count")) (aa (mC (.str "inverse")) (aa (mC (.str "lead")) (aa (mC (.str "meet")) (aa (mC (.str "order")) (aa (mC (.str "parts")) (aa (mC (.str "prime")) (aa (mC (.str "ring")) (aa (mC (.str "sums")) (aa (mC (.str "term")) aq))))))))))))) (bD (ai dQ (ai cS (ae 2) (cF (aa (mC (.str "unknowns")) (aa (mC (.str "plain")) (aa (mC (.str "whole")) (aa (mC (.str "written")) aq)))))) (kD i_ (ae 1) (aa (mC (.bl true)) aq)))))))
noncomputable def cP:FN:=fB 4 5 (aK (tF (vq (Oq kn) (eh (ao PM.aI (Ja (aa (ae 0) (aa (ae 1) (aa (ae 2) (aa (ae 3) aq))))))) (Jb (dc tab) "AlgebraError" 4 (bD (jG 4 b!)) KN))) (bD (mC (.str "told"))))
noncomputable def qf:MB:=(bD (vh (ai dP (ao cP (aa (ae 1) (aa (ae 2) (aa (ae 6) (aa (ae 7) aq))))) (ae 5)) (vh (ai dP (ae 6) (ae 3)) (ai dP (ae 7) (ae 4)))))
noncomputable def qg:MB:=(aK (aU 7 (ao iS (aa (ae 4) aq))) qf)
noncomputable def kR:MB:=(aK (aU 6 (ao iS (aa (ae 3) aq))) qg)
noncomputable def tZ:MB:=(aK (gN (dE (bX (ai dP (ae 1) (mC (.int 10)))) (bX (ai dP (ae 3) (cF aq)))) (aU 5 (mC (.str "parts"))) bM) kR)
noncomputable def t4:MB:=(aK (gN (dE (bX (ai dP (ae 1) (mC (.int 8)))) (dE (bX (ai dP (ae 3) (cF aq))) (bX (ai dP (ae 4) (cF aq))))) (aU 5 (mC (.str "meet"))) bM) tZ)
noncomputable def t5:MB:=(aK (gN (dE (bX (ai dP (ae 1) (mC (.int 7)))) (bX (ai dP (ae 4) (cF aq)))) (aU 5 (mC (.str "nought"))) bM) t4)
noncomputable def t6:MB:=(aK (aU 5 (mC (.str "told"))) t5)
noncomputable def i!:MB:=(aK (gN (bX (ai m5 (ao cP (aa (ae 1) (aa (ao PM.fc (aa (ao PM.aZ (aa (ae 0) (aa (mC (.int 6)) aq))) aq)) (aa (ao iS (aa (ae 3) aq)) (aa (ao iS (aa (ae 4) aq)) aq))))) (mC (.str "prime")))) (bD (mC (.bl false))) bM) t6)
noncomputable def i?:MB:=(aK (gN (bX (ai dP (ai cq (ao PM.aZ (aa (ae 0) (aa (mC (.int 7)) aq))) (mC (.int 6))) (mC (.int 1)))) (aK (aU 3 (cF aq)) (aU 4 (cF aq))) bM) i!)
noncomputable def t7:MB:=(aK (aU 4 (ao PM.fH (aa (ae 2) (aa (ao PM.aZ (aa (ae 0) (aa (mC (.int 4)) aq))) (aa (ai cq (ao PM.aZ (aa (ae 0) (aa (mC (.int 5)) aq))) (mC (.int 5))) aq))))) i?)
noncomputable def t8:MB:=(aK (aU 3 (ao PM.fH (aa (ae 2) (aa (ao PM.aZ (aa (ae 0) (aa (mC (.int 2)) aq))) (aa (ai cq (ao PM.aZ (aa (ae 0) (aa (mC (.int 3)) aq))) (mC (.int 5))) aq))))) t7)
noncomputable def t9:MB:=(aK (aU 2 (ao PM.eO (aa (ao PM.aZ (aa (ae 0) (aa (mC (.int 1)) aq))) aq))) t8)
noncomputable def xg:FN:=fB 1 8 (aK (aU 1 (ai cq (ao PM.aZ (aa (ae 0) (aa (mC (.int 0)) aq))) (mC (.int 11)))) t9)
end vN
namespace PG
open PySem PySem.Spec L2 MN
open PyProof.Rows hiding St kindOf
theorem j5 (i:Int) (st:ag):PM.fS [.int i] st = .ok (.bl true) st:=rfl
noncomputable def FP:List Int:=[2,3,5,7,11,13,17,19,23,29,31]
noncomputable def eQ (n:Int):Bool:=FP.contains n || (decide (2 ≤ n) && decide (n ≤ 997) && FP.all fun p => !(n.fmod p == 0))
theorem any_ints (n:Int) (ns:List Int):(ns.map ah.int).any (fun y => wI y (.int n)) = ns.contains n:=by
 induction ns with
 | nil => rfl
 | cons m ns ih =>
  simp only [List.map_cons,List.any_cons,List.contains_cons]
  rw [ih]
  congr 1
  show (m == n) = (n == m)
  rw [Bool.eq_iff_iff,beq_iff_eq,beq_iff_eq]; exact ⟨Eq.symm,Eq.symm⟩
theorem D2 (n:Int) (ns:List Int) (st:ag):G? false (.int n) (.mt (ns.map ah.int)) st = .ok (.bl (ns.contains n)) st:=by
 have h1:(ns.map ah.int).all flat = true:=by rw [List.all_map]; exact List.all_eq_true.mpr fun _ _ => rfl
 unfold G? ES
 dsimp only
 rw [if_pos ⟨rfl,h1⟩,any_ints]
 rfl
theorem D3 (ns:List Int) (f:Int → Bool):jU ((ns.map ah.int).map fun v => match v with | .int i => .bl (f i) | _ => .dA) = some (ns.map f):=by
 induction ns with
 | nil => rfl
 | cons m ns ih =>
  simp only [List.map_cons,jU] at ih ⊢
  rw [ih]; rfl
theorem jq (n:Int) (st:ag):∃ g,PM.bQ [.int n] st = .ok (.bl (eQ n)) (st ++ g):=by
 have EN:G? false (.int n) PM.eM st = .ok (.bl (FP.contains n)) st:=D2 n FP st
 cases h1:FP.contains n with
 | true =>
  refine ⟨[],?_⟩
  rw [h1] at EN
  simp only [PM.bQ,aR,aj,av,dq,aY,aw,aG,ax,bp,bz,a8,aF,aE,aB,aL,aM,aJ,List.map_cons,List.map_nil,List.replicate_zero,Nat.reduceSub,List.length_cons,List.length_nil,Nat.reduceAdd,EN,List.append_nil,eQ,h1,Bool.true_or]
 | false =>
  rw [h1] at EN
  by_cases h2:n < 2
  ·refine ⟨[],?_⟩
   have e2:decide (n < 2) = true:=decide_eq_true h2
   have e3:decide (2 ≤ n) = false:=decide_eq_false (by lia)
   simp only [PM.bQ,aR,aj,av,aD,dq,aY,aw,aG,ax,w_,bp,bz,a9,a8,aF,aE,gH,aB,aP,aL,aM,i8,aJ,List.map_cons,List.map_nil,List.replicate_zero,Nat.reduceSub,List.length_cons,List.length_nil,Nat.reduceAdd,EN,e2,List.append_nil,eQ,h1,e3,Bool.false_or,Bool.false_and]
  ·have e2:decide (n < 2) = false:=decide_eq_false h2
   have e3:decide (2 ≤ n) = true:=decide_eq_true (by lia)
   by_cases h3:997 < n
   ·refine ⟨[],?_⟩
    have e4:decide (997 < n) = true:=decide_eq_true h3
    have e5:decide (n ≤ 997) = false:=decide_eq_false (by lia)
    simp only [PM.bQ,aR,aj,av,aD,dq,aY,aw,aG,ax,ie,bp,bz,a9,a8,aF,aE,gH,aB,aP,aL,aM,i8,e_,aJ,List.map_cons,List.map_nil,List.replicate_zero,Nat.reduceSub,List.length_cons,List.length_nil,Nat.reduceAdd,EN,e2,e4,List.append_nil,eQ,h1,e3,e5,Bool.false_or,Bool.false_and,Bool.true_and]
   ·have e4:decide (997 < n) = false:=decide_eq_false h3
    have e5:decide (n ≤ 997) = true:=decide_eq_true (by lia)
    let f:ah → ah:=fun v => match v with | .int i => .bl (!(n.fmod i == 0)) | _ => .dA
    have hc:c9 (fun _ => True) (bb 0) cO (ai m5 (ai cq (ae 1) (ae 0)) (mC (ah.int 0))) (FP.map ah.int) (iV 1 [0] [some (ah.int n)]) st [] = .ok ([] ++ ((FP.map ah.int).filter fun _ => true).map f) st:=by
     refine fV trivial (fun τ => ∃ x,τ = [x,some (.int n)]) (fun _ => true) f (FP.map ah.int) _ [] ⟨none,rfl⟩ ?_
     rintro u hu τ ⟨x,rfl⟩
     obtain ⟨i,hi,rfl⟩:=List.mem_map.mp hu
     have SV:¬ i = 0:=by
      intro z; subst z; revert hi; decide
     refine ⟨_,rfl,⟨_,rfl⟩,rfl,fun _ => ?_⟩
     simp only [aj,aw,aG,ax,a8,A3,aJ,aH,List.set_cons_zero,bK SV,f]
    have hb:jU (((FP.map ah.int).filter fun _ => true).map f) = some (FP.map fun i => !(n.fmod i == 0)):=by
     rw [List.filter_eq_self.mpr (fun _ _ => rfl)]
     exact D3 FP fun i => !(n.fmod i == 0)
    refine ⟨[.lst (((FP.map ah.int).filter fun _ => true).map f)],?_⟩
    have ha:yh [.loc st.length] (st ++ [.lst (((FP.map ah.int).filter fun _ => true).map f)]) = .ok (.bl (eQ n)) (st ++ [.lst (((FP.map ah.int).filter fun _ => true).map f)]):=by
     unfold yh
     dsimp only
     rw [bw]
     dsimp only
     rw [hb]
     simp only [eQ,h1,e3,e5,Bool.false_or,Bool.true_and,List.all_map]
     rfl
    have hw:tP PM.eM st = .ok (FP.map ah.int,fun _ => True) st:=rfl
    have hz:(FP.map ah.int).length = 11:=rfl
    rw [List.nil_append] at hc
    simp only [PM.bQ,aR,aj,av,aD,aY,aw,aG,ax,ie,az,au,bp,a9,ju,gI,a8,aF,aE,gH,aA,ar,ay,aB,aP,aL,aM,fh,jY,i8,e_,aJ,List.map_cons,List.map_nil,List.cons_append,List.nil_append,List.replicate_zero,Nat.reduceSub,List.length_cons,List.length_nil,Nat.reduceAdd,sizeLine_eq,Nat.reduceLeDiff,↓reduceIte,EN,e2,e4,hw,hc,ha,hz]
end PG
namespace yL
noncomputable def D4 (u0 u1 g0 g1 M:Int):Prop:=∃ e x0 x1:Int,(e = 1 ∨ e = -1) ∧ 0 ≤ x0 ∧ 0 ≤ x1 ∧ u0 = e * x0 ∧ u1 = -(e * x1) ∧ x1 * g0 + x0 * g1 = M ∧ x0 ≤ M + 1 ∧ x1 ≤ M + 1
theorem oA {x g:Int} (hx:0 ≤ x) (hg:1 ≤ g):x ≤ x * g:=by
 have:=Int.mul_le_mul_of_nonneg_left hg hx
 simpa using this
theorem D4.step {u0 u1 g0 g1 M q:Int} (h:D4 u0 u1 g0 g1 M) (hq:0 ≤ q) (h1:1 ≤ g1) (h2:0 ≤ g0 - q * g1):D4 u1 (u0 - q * u1) g1 (g0 - q * g1) M:=by
 obtain ⟨e,x0,x1,he,p0,p1,r0,r1,hM,b0,b1⟩:=h
 have p2:0 ≤ x0 + q * x1:=by
  have:=Int.mul_nonneg hq p1
  lia
 have eq:(x0 + q * x1) * g1 + x1 * (g0 - q * g1) = M:=by rw [← hM]; grind
 refine ⟨-e,x1,x0 + q * x1,?_,p1,p2,?_,?_,eq,b1,?_⟩
 ·rcases he with rfl | rfl <;> simp
 ·rw [r1]; grind
 ·rw [r0,r1]; grind
 ·have k1:=oA p2 h1
  have k2:=Int.mul_nonneg p1 h2
  lia
theorem D4.bound {u0 u1 g0 g1 M:Int} (h:D4 u0 u1 g0 g1 M):u0.natAbs ≤ (M + 1).natAbs ∧ u1.natAbs ≤ (M + 1).natAbs:=by
 obtain ⟨e,x0,x1,he,p0,p1,r0,r1,hM,b0,b1⟩:=h
 rcases he with rfl | rfl <;> (subst r0 r1; constructor <;> lia)
theorem D4.Ls {u0 u1 g0 g1 M q:Int} (h:D4 u0 u1 g0 g1 M) (hq:0 ≤ q) (h1:1 ≤ g1) (h2:0 ≤ g0 - q * g1):q ≤ g0:=by
 have:=oA hq h1
 lia
structure aS (a b:Int) (g0 u0 v0 g1 u1 v1:Int):Prop where
 n0:0 ≤ g0
 n1:0 ≤ g1
 c0:u0 * a + v0 * b = g0
 c1:u1 * a + v1 * b = g1
 cu:D4 u0 u1 g0 g1 (b.natAbs:Int)
 cv:D4 v0 v1 g0 g1 (a.natAbs:Int)
 m0:g0 ≤ (a.natAbs:Int) + (b.natAbs:Int)
 m1:g1 ≤ (a.natAbs:Int) + (b.natAbs:Int)
 da:∃ p q:Int,a = p * g0 + q * g1
 db:∃ p q:Int,b = p * g0 + q * g1
noncomputable def sgn (n:Int):Int:=if n < 0 then -1 else 1
noncomputable def oB (n:Int):Int:=if n < 0 then -n else n
theorem jl (n:Int):oB n = (n.natAbs:Int):=by unfold oB; split <;> lia
theorem sgn_mul (n:Int):sgn n * n = oB n:=by unfold sgn oB; split <;> lia
theorem xh (n:Int):n = sgn n * oB n:=by unfold sgn oB; split <;> lia
theorem Bn (n:Int):sgn n = 1 ∨ sgn n = -1:=by unfold sgn; split <;> simp
theorem aS.start (a b:Int):aS a b (oB a) (sgn a) 0 (oB b) 0 (sgn b):=by
 refine ⟨by rw [jl]; lia,by rw [jl]; lia,by rw [sgn_mul]; lia,by rw [sgn_mul]; lia,?_,?_,by rw [jl]; lia,by rw [jl]; lia,⟨sgn a,0,?_⟩,⟨0,sgn b,?_⟩⟩
 ·refine ⟨sgn a,1,0,Bn a,by decide,by decide,by simp,by simp,by rw [jl b]; lia,by lia,by lia⟩
 ·refine ⟨-(sgn b),0,1,?_,by decide,by decide,by simp,by simp,by rw [jl a]; lia,by lia,by lia⟩
  rcases Bn b with h | h <;> simp [h]
 ·have:=xh a; lia
 ·have:=xh b; lia
theorem aS.turn {a b g0 u0 v0 g1 u1 v1:Int} (h:aS a b g0 u0 v0 g1 u1 v1) (h1:g1 ≠ 0):aS a b g1 u1 v1 (g0 - g0.fdiv g1 * g1) (u0 - g0.fdiv g1 * u1) (v0 - g0.fdiv g1 * v1) ∧ (g0 - g0.fdiv g1 * g1).toNat < g1.toNat ∧ 0 ≤ g0.fdiv g1 ∧ g0.fdiv g1 ≤ g0:=by
 have p1:1 ≤ g1:=by have:=h.n1; lia
 have ef:g0.fdiv g1 = g0 / g1:=Int.fdiv_eq_ediv_of_nonneg g0 (by lia)
 have em:g0 - g0.fdiv g1 * g1 = g0 % g1:=by
  have:=Int.emod_add_mul_ediv g0 g1
  rw [ef,Int.mul_comm]
  lia
 have q0:0 ≤ g0.fdiv g1:=by rw [ef]; exact Int.ediv_nonneg h.n0 (by lia)
 have r0:0 ≤ g0 - g0.fdiv g1 * g1:=by rw [em]; exact Int.emod_nonneg _ h1
 have r1:g0 - g0.fdiv g1 * g1 < g1:=by rw [em]; exact Int.emod_lt_of_pos _ (by lia)
 generalize hq:g0.fdiv g1 = q at *
 have m1:=h.m1
 obtain ⟨p,r,ea⟩:=h.da
 obtain ⟨p',r',eb⟩:=h.db
 refine ⟨⟨h.n1,r0,h.c1,?_,h.cu.step q0 p1 r0,h.cv.step q0 p1 r0,h.m1,by lia,⟨p * q + r,p,?_⟩,⟨p' * q + r',p',?_⟩⟩,by lia,q0,h.cu.Ls q0 p1 r0⟩
 ·have e0:=h.c0
  have e1:=h.c1
  grind
 ·grind
 ·grind
end yL
namespace PG
open PySem PySem.Spec L2 MN
open PyProof.Rows hiding St kindOf
noncomputable def eR (n:Int):Bool:=n == 0 || eQ n
theorem gy (n:Int) (st:ag):∃ g,PM.fg [.int n] st = .ok (.bl (eR n)) (st ++ g):=by
 cases h:n == 0 with
 | true => exact ⟨[],by simp only [PM.fg,aR,aj,av,aY,aw,aG,ax,m7,Hz,az,au,bp,a8,kI,EZ,aA,ar,ay,aL,bc,aJ,List.map_cons,List.map_nil,List.replicate_zero,Nat.reduceSub,List.length_cons,List.length_nil,Nat.reduceAdd,j5,h,eR,Bool.true_or,List.append_nil]⟩
 | false =>
  obtain ⟨g,e⟩:=jq n st
  exact ⟨g,by simp only [PM.fg,aR,aj,av,aY,aw,aG,ax,m7,HA,az,au,bp,a8,kI,EZ,aA,ar,ay,aL,bc,aJ,List.map_cons,List.map_nil,List.cons_append,List.nil_append,List.replicate_zero,Nat.reduceSub,List.length_cons,List.length_nil,Nat.reduceAdd,j5,h,eR,Bool.false_or,e]⟩
theorem pD {n:Int} (h:eR n = true) (st:ag):∃ g,PM.fT [.int n] st = .ok .dA (st ++ g):=by
 obtain ⟨g,e⟩:=gy n st
 rw [h] at e
 exact ⟨g,by simp only [PM.fT,aR,aj,av,AU,rf,az,au,a9,aF,aE,jW,aA,ar,ay,aP,aM,aJ,List.map_cons,List.map_nil,List.cons_append,List.nil_append,List.replicate_zero,Nat.reduceSub,List.length_cons,List.length_nil,Nat.reduceAdd,Bool.not_true,e]⟩
theorem pE (n:Int) (st:ag):PM.dG [.int n] st = .ok (.int (yL.sgn n)) st:=by
 unfold yL.sgn
 by_cases h:n < 0
 ·have e:decide (n < 0) = true:=decide_eq_true h
  simp only [PM.dG,aR,aj,av,aY,aw,aG,ax,w?,bp,a8,aF,aE,w!,fZ,jF,aL,i8,aJ,List.map_cons,List.map_nil,List.cons_append,List.nil_append,List.replicate_zero,Nat.reduceSub,List.length_cons,List.length_nil,Nat.reduceAdd,e,if_pos h]
 ·have e:decide (n < 0) = false:=decide_eq_false h
  simp only [PM.dG,aR,aj,av,aY,aw,aG,ax,xa,bp,a8,aF,aE,w!,aL,i8,aJ,List.map_cons,List.map_nil,List.cons_append,List.nil_append,List.replicate_zero,Nat.reduceSub,List.length_cons,List.length_nil,Nat.reduceAdd,e,if_neg h]
noncomputable def uT (g u v:Int):ah:=.tup [.int g,.int u,.int v]
theorem bounds {a b g0 u0 v0 g1 u1 v1:Int} (h:yL.aS a b g0 u0 v0 g1 u1 v1) (ha:mm 400 a) (hb:mm 400 b):mm 402 g0 ∧ mm 402 u0 ∧ mm 402 v0 ∧ mm 402 g1 ∧ mm 402 u1 ∧ mm 402 v1:=by
 have e:(2:Nat) ^ 402 = 4 * 2 ^ 400:=by decide +kernel
 have pos:0 < (2:Nat) ^ 400:=by decide +kernel
 have a':a.natAbs < 2 ^ 400:=ha
 have b':b.natAbs < 2 ^ 400:=hb
 obtain ⟨k1,k2⟩:=h.cu.bound
 obtain ⟨k3,k4⟩:=h.cv.bound
 have m0:=h.m0
 have m1:=h.m1
 have n0:=h.n0
 have n1:=h.n1
 refine ⟨?_,?_,?_,?_,?_,?_⟩ <;> (show _ < 2 ^ 402; rw [e]; lia)
noncomputable def SW (μ:MN.Env):Nat:=match (μ[3]?:Option (Option ah)) with
 | some (some (ah.tup (ah.int g :: _))) => g.toNat
 | _ => 0
noncomputable def E? (q:Int) (v:ah):ah:=match v with
 | .tup [.int x,.int y] => .int (x - q * y)
 | _ => .dA
theorem rC {q x y:Int}:E? q (.tup [.int x,.int y]) = .int (x - q * y):=rfl
theorem Lu {q g0 u0 v0 g1 u1 v1:Int} (hq:Sz q) (h1:Sz g1) (h2:Sz u1) (h3:Sz v1) (st:ag) (g:ag → Prop) (hg:g st) (x:Option ah) (y:Option ah) :
  c9 g (iT [bb 0,bb 1]) cO (ai gD (ae 0) (ai b9 (ae 2) (ae 1))) (iF [.int g0,.int u0,.int v0] [.int g1,.int u1,.int v1]) [x,y,some (.int q)] st [] = .ok [.int (g0 - q * g1),.int (u0 - q * u1),.int (v0 - q * v1)] st:=by
 have:=fV (a:=iT [bb 0,bb 1]) (c:=cO) (e:=ai gD (ae 0) (ai b9 (ae 2) (ae 1))) hg (fun τ => ∃ x y,τ = [x,y,some (.int q)]) (fun _ => true) (E? q) (iF [.int g0,.int u0,.int v0] [.int g1,.int u1,.int v1]) [x,y,some (.int q)] [] ⟨x,y,rfl⟩ ?_
 ·exact this
 ·rintro u hu τ ⟨x,y,rfl⟩
  simp only [iF,List.mem_cons,List.not_mem_nil,or_false] at hu
  rcases hu with rfl | rfl | rfl
  ·exact ⟨_,rfl,⟨_,_,rfl⟩,rfl,fun _ => by simp only [aj,aw,aG,ax,f7,aJ,aH,List.set_cons_zero,List.set_cons_succ,vF ⟨hq,h1⟩,rC]⟩
  ·exact ⟨_,rfl,⟨_,_,rfl⟩,rfl,fun _ => by simp only [aj,aw,aG,ax,f7,aJ,aH,List.set_cons_zero,List.set_cons_succ,vF ⟨hq,h2⟩,rC]⟩
  ·exact ⟨_,rfl,⟨_,_,rfl⟩,rfl,fun _ => by simp only [aj,aw,aG,ax,f7,aJ,aH,List.set_cons_zero,List.set_cons_succ,vF ⟨hq,h3⟩,rC]⟩
theorem xi {x:ah} {r:List ah}:L2.g! (x :: r) 0 = some x:=by
 unfold L2.g! sV
 simp
theorem yM {a b:Int} (ha:mm 400 a) (hb:mm 400 b) (st:ag):∃ gs g u v u1 v1,PM.shared [.int a,.int b] st = .ok (uT g u v) (st ++ gs) ∧ yL.aS a b g u v 0 u1 v1:=by
 obtain ⟨μ',aC,e,gs,rfl,g0,u0,v0,g1,u1,v1,o,f,rfl,J,z⟩:=dH (t:=bX (ai m5 (ai dQ (ae 3) (mC (.int 0))) (mC (.int 0))))
  (body:=aK (aU 4 (ai gu (ai dQ (ae 2) (mC (.int 0))) (ai dQ (ae 3) (mC (.int 0))))) (aK (aU 5 (ao vk (aa (dX 2 [4] (p! false false (aa (ae 2) (aa (ae 3) aq))) (iT [(bb 0),(bb 1)]) cO (ai gD (ae 0) (ai b9 (ae 2) (ae 1)))) aq))) (aK (aU 2 (ae 3)) (aU 3 (ae 5)))))
  (fun μ s => ∃ gs,s = st ++ gs ∧ ∃ g0 u0 v0 g1 u1 v1 o f,μ = [some (.int a),some (.int b),some (uT g0 u0 v0),some (uT g1 u1 v1),o,f] ∧ yL.aS a b g0 u0 v0 g1 u1 v1)
  (fun μ _ => SW μ)
  (fun μ s => ∃ gs,s = st ++ gs ∧ ∃ g0 u0 v0 g1 u1 v1 o f,μ = [some (.int a),some (.int b),some (uT g0 u0 v0),some (uT g1 u1 v1),o,f] ∧ yL.aS a b g0 u0 v0 g1 u1 v1 ∧ g1 = 0)
  (by
   rintro μ s ⟨gs,rfl,g0,u0,v0,g1,u1,v1,o,f,rfl,J⟩
   cases hz:g1 == 0 with
   | true =>
    have z:g1 = 0:=by simpa using hz
    refine .inl ⟨st ++ gs,?_,gs,rfl,g0,u0,v0,g1,u1,v1,o,f,rfl,J,z⟩
    simp only [uT,aj,aw,aG,ax,a8,aF,aE,A3,gW,aH,Bool.not_true,cz xi,hz]
   | false =>
    have z:¬ g1 = 0:=by simpa using hz
    obtain ⟨b1,b2,b3,b4,b5,b6⟩:=bounds J ha hb
    obtain ⟨J',lt,q0,q1⟩:=J.turn z
    have n0:=J.n0
    have hD:Dz g1:=Dz.of z b4 (by decide)
    have sq:Sz (g0.fdiv g1):=Sz.of (b1.le (by lia)) (by decide)
    have s4:Sz g1:=Sz.of b4 (by decide)
    have s5:Sz u1:=Sz.of b5 (by decide)
    have s6:Sz v1:=Sz.of b6 (by decide)
    refine .inr ⟨st ++ gs,[some (.int a),some (.int b),some (uT g1 u1 v1),some (uT (g0 - g0.fdiv g1 * g1) (u0 - g0.fdiv g1 * u1) (v0 - g0.fdiv g1 * v1)),some (.int (g0.fdiv g1)),some (uT (g0 - g0.fdiv g1 * g1) (u0 - g0.fdiv g1 * u1) (v0 - g0.fdiv g1 * v1))],st ++ gs ++ [.lst [.int (g0 - g0.fdiv g1 * g1),.int (u0 - g0.fdiv g1 * u1),.int (v0 - g0.fdiv g1 * v1)]],?_,.inl ?_,⟨gs ++ [.lst [.int (g0 - g0.fdiv g1 * g1),.int (u0 - g0.fdiv g1 * u1),.int (v0 - g0.fdiv g1 * v1)]],by rw [List.append_assoc],g1,u1,v1,_,_,_,_,_,rfl,J'⟩,?_⟩
    ·simp only [uT,aj,aw,aG,ax,a8,aF,aE,A3,gW,aH,Bool.not_false,cz xi,hz]
    ·have SX:(iF [ah.int g0,ah.int u0,ah.int v0] [ah.int g1,ah.int u1,ah.int v1]).length = 3:=rfl
     have iN:iV 2 [4] [some (ah.int a),some (ah.int b),some (.tup [.int g0,.int u0,.int v0]),some (.tup [.int g1,.int u1,.int v1]),some (.int (g0.fdiv g1)),f] = [none,none,some (.int (g0.fdiv g1))]:=rfl
     simp only [uT,aj,av,aD,aw,aG,ax,az,au,bV,ju,gI,a8,aA,ar,ay,aB,bB,fh,A2,DH,gW,aH,List.set_cons_zero,List.set_cons_succ,sizeLine_eq,Nat.reduceLeDiff,↓reduceIte,cz xi,div_ii hD,iN,Lu sq s4 s5 s6 _ (fun _ => True ∧ True) ⟨trivial,trivial⟩,SX,DI (bw _ _)]
    ·show (g0 - g0.fdiv g1 * g1).toNat < g1.toNat
     exact lt)
  [some (.int a),some (.int b),some (uT (yL.oB a) (yL.sgn a) 0),some (uT (yL.oB b) 0 (yL.sgn b)),none,none] st
  ⟨[],by rw [List.append_nil],_,_,_,_,_,_,_,_,rfl,yL.aS.start a b⟩
 subst z
 refine ⟨gs,g0,u0,v0,u1,v1,?_,J⟩
 have OD:∀ n:Int,(if n < 0 then -n else n) = yL.oB n:=fun n => rfl
 simp only [uT] at e
 simp only [PM.shared,uT,aR,aj,av,aD,aY,az,au,l6,bp,bV,a8,aA,ar,i5,ay,aB,aL,bB,tQ,aJ,gW,aH,List.map_cons,List.map_nil,List.cons_append,List.nil_append,List.replicate_succ,List.replicate_zero,List.set_cons_zero,List.set_cons_succ,Nat.reduceSub,List.length_cons,List.length_nil,Nat.reduceAdd,sizeLine_eq,Nat.reduceLeDiff,↓reduceIte,pE,OD,e]
end PG
namespace PG
open PySem PySem.Spec L2 MN
open PyProof.Rows hiding St kindOf
theorem yN:∀ k:Fin 998,eQ (k.val:Int) = true → 2 ≤ k.val ∧ ∀ d:Fin 32,2 ≤ d.val → d.val < k.val → k.val % d.val ≠ 0:=by decide +kernel
theorem bh {p:Int} (h:eQ p = true):2 ≤ p ∧ p ≤ 997:=by
 unfold eQ at h
 rw [Bool.or_eq_true] at h
 rcases h with h | h
 ·have:p ∈ FP:=by simpa using h
  simp only [FP,List.mem_cons,List.not_mem_nil,or_false] at this
  omega
 ·simp only [Bool.and_eq_true,decide_eq_true_eq] at h
  omega
theorem yO {p:Int} (h:eQ p = true) {d:Int} (h2:2 ≤ d) (hd:d < p):¬ p % d = 0:=by
 obtain ⟨r1,r2⟩:=bh h
 have key:=(yN ⟨p.toNat,by lia⟩ (by show eQ ((p.toNat:Nat):Int) = true; rw [Int.toNat_of_nonneg (by lia)]; exact h)).2
 have small:∀ e:Int,2 ≤ e → e ≤ 31 → e < p → ¬ p % e = 0:=by
  intro e e2 e3 e4 z
  have:=key ⟨e.toNat,by lia⟩ (by show 2 ≤ e.toNat; lia) (by show e.toNat < p.toNat; lia)
  apply this
  show p.toNat % e.toNat = 0
  have:((p.toNat % e.toNat:Nat):Int) = 0:=by
   rw [Int.natCast_emod,Int.toNat_of_nonneg (by lia),Int.toNat_of_nonneg (by lia)]; exact z
  lia
 intro z
 by_cases hs:d ≤ 31
 ·exact small d h2 hs hd z
 ·obtain ⟨m,hm⟩:=Int.dvd_of_emod_eq_zero z
  have m2:2 ≤ m:=by
   rcases Int.lt_or_le m 2 with q | q
   ·have:d * m ≤ d * 1:=Int.mul_le_mul_of_nonneg_left (by lia) (by lia)
    lia
   ·exact q
  have m3:m ≤ 31:=by
   rcases Int.lt_or_le 31 m with q | q
   ·have:32 * 32 ≤ d * m:=Int.mul_le_mul (by lia) (by lia) (by lia) (by lia)
    lia
   ·exact q
  have m4:m < p:=by
   have:2 * m ≤ d * m:=Int.mul_le_mul_of_nonneg_right h2 (by lia)
   lia
  exact small m m2 m3 m4 (by rw [hm]; exact Int.mul_emod_left _ _)
theorem cy {p:Int} (hp:0 < p) (i:Int):i.fmod p = i % p:=Int.fmod_eq_emod_of_nonneg i (by lia)
theorem qh {i:Int} (h0:0 ≤ i) (h1:i < 1000):mm 400 i:=mm.small (by decide) (by lia) h1
theorem Bo {p:Int} (h:eQ p = true):eR p = true:=by unfold eR; rw [h,Bool.or_true]
theorem Lv {x y:ah} {r:List ah}:L2.g! (x :: y :: r) 1 = some y:=L2.ji (xs:=x :: y :: r) (j:=1) rfl
theorem eT {p n:Int} (h:eQ p = true) (hn:¬ n % p = 0) (st:ag):∃ g t,PM.inverse [.int p,.int n] st = .ok (.int t) (st ++ g) ∧ 0 < t ∧ t < p ∧ (t * n) % p = 1:=by
 obtain ⟨r1,r2⟩:=bh h
 obtain ⟨g1,e⟩:=pD (Bo h) st
 have hp:¬ p = 0:=by lia
 have e0:(p == 0) = false:=by simpa using hp
 have e1:(n.fmod p == 0) = false:=by rw [cy (by lia)]; simpa using hn
 have a0:=Int.emod_nonneg n hp
 have a1:=Int.emod_lt_of_pos n (show 0 < p by lia)
 obtain ⟨g2,g,u,v,u1,v1,es,J⟩:=yM (a:=n % p) (b:=p) (qh a0 (by lia)) (qh (by lia) (by lia)) (st ++ g1)
 have hg:g = 1:=by
  obtain ⟨x,_,ex⟩:=J.da
  obtain ⟨y,_,ey⟩:=J.db
  rw [Int.mul_zero,Int.add_zero] at ex ey
  have n0:=J.n0
  rcases Int.lt_or_le g 2 with q | q
  ·rcases Int.lt_or_le g 1 with q' | q'
   ·have:g = 0:=by lia
    rw [this,Int.mul_zero] at ey
    lia
   ·lia
  ·have gl:g ≤ n % p:=by
    have xp:1 ≤ x:=by
     rcases Int.lt_or_le x 1 with z | z
     ·have:x * g ≤ 0 * g:=Int.mul_le_mul_of_nonneg_right (by lia) (by lia)
      lia
     ·exact z
    have:1 * g ≤ x * g:=Int.mul_le_mul_of_nonneg_right xp (by lia)
    lia
   exact absurd (by rw [ey]; exact Int.mul_emod_left _ _) (yO h q (by lia))
 subst hg
 have t0:=Int.emod_nonneg u hp
 have t1:=Int.emod_lt_of_pos u (show 0 < p by lia)
 have tn:(u % p * n) % p = 1:=by
  have c:=J.c0
  have k1:(u * (n % p)) % p = 1:=by
   have:u * (n % p) = 1 + p * (-v):=by rw [Int.mul_neg,Int.mul_comm p v]; lia
   rw [this,Int.add_mul_emod_self_left]
   exact Int.emod_eq_of_lt (by lia) (by lia)
  rw [Int.mul_emod,Int.emod_emod_of_dvd u (Int.dvd_refl p)]
  rw [Int.mul_emod,Int.emod_emod_of_dvd n (Int.dvd_refl p)] at k1
  exact k1
 refine ⟨g1 ++ g2,u % p,?_,?_,t1,tn⟩
 ·simp only [uT] at es
  rw [← cy (show 0 < p by lia)] at es
  simp only [PM.inverse,aR,aj,av,aD,aY,aw,aG,ax,az,au,dy,bp,a9,a8,aF,aE,aA,ar,ay,aB,aP,bA,aL,aM,bc,aJ,aH,List.map_cons,List.map_nil,List.cons_append,List.nil_append,List.replicate_zero,Nat.reduceSub,List.length_cons,List.length_nil,Nat.reduceAdd,e,e0,bK hp,e1,es,cz Lv,List.append_assoc]
  rw [cy (by lia)]
 ·rcases Int.lt_or_le 0 (u % p) with q | q
  ·exact q
  ·have:u % p = 0:=by lia
   rw [this,Int.zero_mul] at tn
   simp at tn
end PG
namespace PG
open PySem PySem.Spec L2 MN
open PyProof.Rows hiding St kindOf
theorem D5 {ns:List Int} {k:Int} (h0:0 ≤ k) (h1:k < (ns.length:Int)):∃ c:Int,L2.g! (ns.map ah.int) k = some (.int c):=by
 have hk:k.toNat < ns.length:=by lia
 refine ⟨ns[k.toNat],?_⟩
 have e:=L2.ji (xs:=ns.map ah.int) (j:=k.toNat) (v:=.int ns[k.toNat]) (by rw [List.getElem?_map,List.getElem?_eq_getElem hk]; rfl)
 rw [show ((k.toNat:Nat):Int) = k by lia] at e
 exact e
theorem e! {m:Int} (hm:0 < m) (i:Int):0 ≤ i.fmod m ∧ i.fmod m < m:=by
 rw [cy hm]; exact ⟨Int.emod_nonneg _ (by lia),Int.emod_lt_of_pos _ hm⟩
end PG
namespace PG
open PySem PySem.Spec L2 MN
open PyProof.Rows hiding St kindOf
theorem Bp {j:Int} (h:0 < j) (h1:j < 2 ^ 64):Dz j:=by
 refine Dz.of (k:=64) (by lia) ?_ (by decide)
 show j.natAbs < 2 ^ 64
 lia
noncomputable def ML (n:Int) (u:ah):Bool:=match u with
 | .int b => decide (b < n) && (n.fmod b == 0)
 | _ => false
noncomputable def jK (n:Int):List ah:=(cT 2 30).filter (ML n)
theorem Im:∀ k:Fin 998,2 ≤ k.val → (jK (k.val:Int)).isEmpty = true → eQ (k.val:Int) = true:=by decide +kernel
theorem t_ (n:Int) (x:Option ah) (st:ag):c9 (fun _ => True) (bb 0) (dE (bX (ai ltV (ae 0) (ae 1))) (bX (ai dP (ai cq (ae 1) (ae 0)) (mC (.int 0))))) (ae 0) (cT 2 30) [x,some (.int n)] st [] = .ok (jK n) st:=by
 have:=fV (a:=bb 0) (c:=dE (bX (ai ltV (ae 0) (ae 1))) (bX (ai dP (ai cq (ae 1) (ae 0)) (mC (.int 0))))) (e:=ae 0) (g:=fun _ => True) (st:=st) trivial (fun τ => ∃ x,τ = [x,some (.int n)]) (ML n) id (cT 2 30) [x,some (.int n)] [] ⟨x,rfl⟩ ?_
 ·rw [this,List.nil_append,List.map_id]; rfl
 ·rintro u hu τ ⟨x,rfl⟩
  simp only [cT,List.mem_map,List.mem_range] at hu
  obtain ⟨i,hi,rfl⟩:=hu
  have nz:¬ (2 + (i:Int)) = 0:=by lia
  refine ⟨_,rfl,⟨_,rfl⟩,?_,fun _ => rfl⟩
  by_cases hb:2 + (i:Int) < n
  ·have e:decide (2 + (i:Int) < n) = true:=decide_eq_true hb
   simp only [aj,aw,aG,ax,dB,a8,aF,aE,cH,i8,bc,aJ,aH,List.set_cons_zero,e,bK nz,ML,Bool.true_and]
  ·have e:decide (2 + (i:Int) < n) = false:=decide_eq_false hb
   simp only [aj,aw,aG,ax,fX,aF,aE,cH,i8,aJ,aH,List.set_cons_zero,e,ML,Bool.false_and]
end PG
namespace PG
open PySem PySem.Spec L2 MN
open PyProof.Rows hiding St kindOf
theorem eU {n:Nat} {ns:List Int} {k:Int} {st:ag} (h:ak st n = some (ns.map ah.int)) (k0:0 ≤ k) (k1:k ≤ 1000000) :
  ∃ o,PM.aZ [.loc n,.int k] st = .ok (.int o) st:=by
 have len:((List.map ah.int ns).length:Int) = (ns.length:Int):=by rw [List.length_map]
 have cp:xI 10 9:=by decide
 have tn:(10:Int) ^ Int.toNat 9 = 1000000000:=by decide
 have fin:∀ c:Int,((decide (k < ((List.map ah.int ns).length:Int)) = false ∧ c = 0) ∨ (decide (k < ((List.map ah.int ns).length:Int)) = true ∧ L2.g! (ns.map ah.int) k = some (.int c))) → ∃ o,PM.aZ [.loc n,.int k] st = .ok (.int o) st:=by
  intro c hc
  by_cases hb:(1000000000:Int) < (if c < 0 then -c else c)
  ·have e1:decide ((1000000000:Int) < (if c < 0 then -c else c)) = true:=decide_eq_true hb
   refine ⟨c,?_⟩
   rcases hc with ⟨h1,rfl⟩ | ⟨h1,h2⟩
   ·simp only [PM.aZ,aR,aj,av,aD,dq,aY,aw,aG,ax,az,au,bp,bz,a9,bV,a8,aF,aE,aA,ar,ay,aB,aP,aL,aM,bB,i8,e_,tQ,aJ,aT,aH,List.map_cons,List.map_nil,List.cons_append,List.nil_append,List.replicate_succ,List.replicate_zero,List.set_cons_zero,List.set_cons_succ,Nat.reduceSub,List.length_cons,List.length_nil,Nat.reduceAdd,bf h,h1,om cp,tn,e1]
   ·simp only [PM.aZ,aR,aj,av,aD,dq,aY,aw,aG,ax,az,au,bp,bz,bV,a8,aF,aE,aA,ar,ay,aB,aL,aM,bB,i8,e_,tQ,aJ,aT,aH,List.map_cons,List.map_nil,List.cons_append,List.nil_append,List.replicate_succ,List.replicate_zero,List.set_cons_zero,List.set_cons_succ,Nat.reduceSub,List.length_cons,List.length_nil,Nat.reduceAdd,bf h,h1,ee h h2,om cp,tn,e1]
  ·have e1:decide ((1000000000:Int) < (if c < 0 then -c else c)) = false:=decide_eq_false hb
   have q1:=e! (m:=2147483647) (by decide) (c * 48271 + 7919 * k * k + 104729 * k + 11)
   generalize hx:(c * 48271 + 7919 * k * k + 104729 * k + 11).fmod 2147483647 = x at q1
   have q2:=e! (m:=2147483629) (by decide) (x * x)
   have q3:=e! (m:=2147483647) (by decide) ((x * x).fmod 2147483629 * 69621)
   generalize hy:((x * x).fmod 2147483629 * 69621).fmod 2147483647 = y at q3
   refine ⟨(y * y).fmod 2147483587 * 2147483647 + y,?_⟩
   have m1:∀ s,b9 (.int x) (.int x) s = .ok (.int (x * x)) s:=fun s => gw (by lia) (by lia)
   have m2:∀ s,b9 (.int y) (.int y) s = .ok (.int (y * y)) s:=fun s => gw (by lia) (by lia)
   rcases hc with ⟨h1,rfl⟩ | ⟨h1,h2⟩
   ·simp only [PM.aZ,aR,aj,av,aD,aY,aw,aG,ax,az,au,bp,a9,bV,a8,aF,aE,aA,ar,ay,aB,aP,aL,aM,bB,d?,i8,e_,tQ,aJ,aT,aH,List.map_cons,List.map_nil,List.cons_append,List.nil_append,List.replicate_succ,List.replicate_zero,List.set_cons_zero,List.set_cons_succ,Nat.reduceSub,List.length_cons,List.length_nil,Nat.reduceAdd,bf h,h1,om cp,tn,e1,mul_r (j:=48271) (by decide) (by decide),gw (i:=7919) (by decide) (by decide),mul_r (j:=k) (by lia) (by lia),bK (j:=2147483647) (by decide),hx,m1,bK (j:=2147483629) (by decide),mul_r (j:=69621) (by decide) (by decide),hy,m2,bK (j:=2147483587) (by decide),mul_r (j:=2147483647) (by decide) (by decide)]
   ·simp only [PM.aZ,aR,aj,av,aD,aY,aw,aG,ax,az,au,bp,bz,a9,bV,a8,aF,aE,aA,ar,ay,aB,aP,aL,aM,bB,d?,i8,e_,tQ,aJ,aT,aH,List.map_cons,List.map_nil,List.cons_append,List.nil_append,List.replicate_succ,List.replicate_zero,List.set_cons_zero,List.set_cons_succ,Nat.reduceSub,List.length_cons,List.length_nil,Nat.reduceAdd,bf h,h1,ee h h2,om cp,tn,e1,mul_r (j:=48271) (by decide) (by decide),gw (i:=7919) (by decide) (by decide),mul_r (j:=k) (by lia) (by lia),bK (j:=2147483647) (by decide),hx,m1,bK (j:=2147483629) (by decide),mul_r (j:=69621) (by decide) (by decide),hy,m2,bK (j:=2147483587) (by decide),mul_r (j:=2147483647) (by decide) (by decide)]
 by_cases hk:k < (ns.length:Int)
 ·obtain ⟨c,hc⟩:=D5 k0 hk
  exact fin c (.inr ⟨decide_eq_true (by rw [len]; exact hk),hc⟩)
 ·exact fin 0 (.inl ⟨decide_eq_false (by rw [len]; exact hk),rfl⟩)
noncomputable def Fb (μ:MN.Env):Nat:=match (μ[1]?:Option (Option ah)) with
 | some (some (ah.int n)) => n.toNat
 | _ => 0
theorem Lw:(jK 2).isEmpty = true:=by decide +kernel
theorem Bq (c:Int) (st:ag):∃ g p,PM.eO [.int c] st = .ok (.int p) (st ++ g) ∧ eQ p = true:=by
 have d8:Dz 8:=Bp (by decide) (by decide)
 have q:=e! (m:=8) (by decide) c
 have q9:=e! (m:=996) (by decide) (c.fdiv 8)
 have r2:∀ st,A1 [.int 2,.int 32] st = .ok (cT 2 30,fun _ => True) st:=fun _ => rfl
 have rl:(cT 2 30).length = 30:=rfl
 have uU:∀ (n:Int) (s:ag),bX (ai m5 (dX 1 [1] (eJ (aa (mC (.int 2)) (aa (mC (.int 32)) aq))) (bb 0) (dE (bX (ai ltV (ae 0) (ae 1))) (bX (ai dP (ai cq (ae 1) (ae 0)) (mC (.int 0))))) (ae 0)) (cF aq)) [some (.int c),some (.int n)] s = .ok (!(jK n).isEmpty) (s ++ [.lst (jK n)] ++ [.lst []]):=by
  intro n s
  have iN:iV 1 [1] [some (ah.int c),some (ah.int n)] = [none,some (.int n)]:=rfl
  simp only [aj,aw,aG,ax,az,au,i6,ju,gI,a8,aF,aE,aA,ar,fY,fh,rh,List.length_nil,sizeLine_eq,Nat.reduceLeDiff,↓reduceIte,r2,rl,iN,t_,ne_nil (a7 (bw s (jK n)) [.lst []]) (bw (s ++ [.lst (jK n)]) [])]
 have loop:∀ (k:Int) (s:ag),2 ≤ k → k ≤ 997 → ∃ μ' aC,cb (bX (ai m5 (dX 1 [1] (eJ (aa (mC (.int 2)) (aa (mC (.int 32)) aq))) (bb 0) (dE (bX (ai ltV (ae 0) (ae 1))) (bX (ai dP (ai cq (ae 1) (ae 0)) (mC (.int 0))))) (ae 0)) (cF aq))) (aU 1 (ai gD (ae 1) (mC (.int 1)))) [some (.int c),some (.int k)] s = .nx μ' aC ∧ ∃ g,aC = s ++ g ∧ ∃ n:Int,μ' = [some (.int c),some (.int n)] ∧ eQ n = true:=by
  intro k s k0 k1
  obtain ⟨μ',aC,e,g,rfl,n,rfl,n0,n1,em⟩:=dH (t:=bX (ai m5 (dX 1 [1] (eJ (aa (mC (.int 2)) (aa (mC (.int 32)) aq))) (bb 0) (dE (bX (ai ltV (ae 0) (ae 1))) (bX (ai dP (ai cq (ae 1) (ae 0)) (mC (.int 0))))) (ae 0)) (cF aq)))
   (body:=aU 1 (ai gD (ae 1) (mC (.int 1))))
   (fun μ s' => ∃ g,s' = s ++ g ∧ ∃ n:Int,μ = [some (.int c),some (.int n)] ∧ 2 ≤ n ∧ n ≤ 997) (fun μ _ => Fb μ)
   (fun μ s' => ∃ g,s' = s ++ g ∧ ∃ n:Int,μ = [some (.int c),some (.int n)] ∧ 2 ≤ n ∧ n ≤ 997 ∧ (jK n).isEmpty = true)
   (by
    rintro μ s' ⟨g,rfl,n,rfl,n0,n1⟩
    have t:=uU n (s ++ g)
    cases hd:(jK n).isEmpty with
    | true =>
     rw [hd] at t
     exact .inl ⟨_,t,g ++ ([.lst (jK n)] ++ [.lst []]),by simp only [List.append_assoc],n,rfl,n0,n1,hd⟩
    | false =>
     rw [hd] at t
     have n2:n ≠ 2:=fun z => by rw [z,Lw] at hd; cases hd
     refine .inr ⟨_,[some (.int c),some (.int (n - 1))],_,t,.inl (by simp only [aj,av,aw,aG,ax,bV,a8,bB,f7,aJ,aH,List.set_cons_zero,List.set_cons_succ]; rfl),⟨g ++ ([.lst (jK n)] ++ [.lst []]),by simp only [List.append_assoc],n - 1,rfl,by lia,by lia⟩,?_⟩
     show (n - 1).toNat < n.toNat
     lia)
   [some (.int c),some (.int k)] s ⟨[],by rw [List.append_nil],_,rfl,k0,k1⟩
  have hp:=Im ⟨n.toNat,by lia⟩ (by show 2 ≤ n.toNat; lia) (by show (jK ((n.toNat:Nat):Int)).isEmpty = true; rw [Int.toNat_of_nonneg (by lia)]; exact em)
  have OB:eQ n = true:=by
   have:eQ ((n.toNat:Nat):Int) = true:=hp
   rw [Int.toNat_of_nonneg (by lia)] at this; exact this
  exact ⟨_,_,e,g,rfl,n,rfl,OB⟩
 have SY:∀ i:Int,0 ≤ i → i < 8 → ∃ p,L2.g! ([.int 2,.int 3,.int 5,.int 7,.int 11,.int 13,.int (2 + (c.fdiv 8).fmod 996),.int (2 + (c.fdiv 8).fmod 996)]:List ah) i = some (.int p) ∧ 2 ≤ p ∧ p ≤ 997:=by
  intro i i0 i1
  have:i = 0 ∨ i = 1 ∨ i = 2 ∨ i = 3 ∨ i = 4 ∨ i = 5 ∨ i = 6 ∨ i = 7:=by lia
  rcases this with rfl | rfl | rfl | rfl | rfl | rfl | rfl | rfl
  ·exact ⟨2,rfl,by lia,by lia⟩
  ·exact ⟨3,rfl,by lia,by lia⟩
  ·exact ⟨5,rfl,by lia,by lia⟩
  ·exact ⟨7,rfl,by lia,by lia⟩
  ·exact ⟨11,rfl,by lia,by lia⟩
  ·exact ⟨13,rfl,by lia,by lia⟩
  ·exact ⟨_,rfl,by lia,by lia⟩
  ·exact ⟨_,rfl,by lia,by lia⟩
 obtain ⟨k,ek,k0,k1⟩:=SY _ q.1 q.2
 obtain ⟨μ',aC,e,g,rfl,n,rfl,hp⟩:=loop k (st ++ [.lst [.int 2,.int 3,.int 5,.int 7,.int 11,.int 13,.int (2 + (c.fdiv 8).fmod 996),.int (2 + (c.fdiv 8).fmod 996)]]) k0 k1
 refine ⟨[.lst [.int 2,.int 3,.int 5,.int 7,.int 11,.int 13,.int (2 + (c.fdiv 8).fmod 996),.int (2 + (c.fdiv 8).fmod 996)]] ++ g,n,?_,hp⟩
 rw [← List.append_assoc]
 simp only [PM.eO,aR,aj,av,aD,aY,aw,aG,ax,az,au,i6,bp,bV,a8,aA,ar,fY,aB,aL,bB,d?,aJ,aH,List.map_cons,List.map_nil,List.cons_append,List.nil_append,List.replicate_succ,List.replicate_zero,List.set_cons_zero,List.set_cons_succ,Nat.reduceSub,List.length_cons,List.length_nil,Nat.reduceAdd,sizeLine_eq,Nat.reduceLeDiff,↓reduceIte,bK (j:=8) (by decide),div_ii d8,bK (j:=996) (by decide),ee (bw st _) ek,e]
end PG
namespace PG
open PySem PySem.Spec L2 MN
open PyProof.Rows hiding St kindOf
theorem f_ {g:ag → Prop} {a:AS} {e:ME} {st:ag} (hg:g st) (I:MN.Env → Prop) (f:Int → ah):∀ (ns:List Int) (τ:MN.Env) (ys:List ah),I τ →
  (∀ i ∈ ns,∀ τ,I τ → ∃ τ1,a (.int i) τ = some τ1 ∧ I τ1 ∧ e τ1 st = .ok (f i) st) → c9 g a cO e (ns.map ah.int) τ st ys = .ok (ys ++ ns.map f) st
 | [],τ,ys,_,_ => by
  rw [List.map_nil]
  unfold c9
  rw [if_pos hg]; simp
 | n :: ns,τ,ys,hI,hs => by
  obtain ⟨τ1,h1,h2,h3⟩:=hs n List.mem_cons_self τ hI
  have ih:=f_ hg I f ns τ1 (ys ++ [f n]) h2 fun i hi => hs i (List.mem_cons_of_mem n hi)
  rw [List.map_cons]
  unfold c9
  rw [if_pos hg,h1]
  dsimp only [cO]
  rw [h3]
  dsimp only
  rw [ih]
  simp
theorem qi {α:Type} {g:ag → Prop} {a:AS} {body:MB} {st:ag} (hg:g st) (R:α → MN.Env → Prop) (F:α → ah → α):∀ (us:List ah),
  (∀ u ∈ us,∀ x μ,R x μ → ∃ μ1,a u μ = some μ1 ∧ ∃ μ',body μ1 st = .nx μ' st ∧ R (F x u) μ') → ∀ x μ,R x μ → ∃ μ',forL g a body us μ st = .nx μ' st ∧ R (us.foldl F x) μ'
 | [],_,x,μ,h => ⟨μ,by unfold forL; rw [if_pos hg],h⟩
 | u :: us,hs,x,μ,h => by
  obtain ⟨μ1,h1,μ',h2,h3⟩:=hs u List.mem_cons_self x μ h
  obtain ⟨μ2,h4,h5⟩:=qi hg R F us (fun w hw => hs w (List.mem_cons_of_mem u hw)) (F x u) μ' h3
  refine ⟨μ2,?_,h5⟩
  unfold forL
  rw [if_pos hg,h1]
  dsimp only
  rw [h2]
  exact h4
noncomputable def fo (lo:Int) (n:Nat):List Int:=(List.range n).map fun (i:Nat) => lo + (i:Int)
theorem l! (lo:Int) (n:Nat):cT lo n = (fo lo n).map ah.int:=by unfold cT fo; rw [List.map_map]; rfl
theorem t! {lo i:Int} {n:Nat} (h:i ∈ fo lo n):lo ≤ i ∧ i < lo + n:=by
 obtain ⟨j,hj,rfl⟩:=List.mem_map.mp h
 have:=List.mem_range.mp hj
 lia
theorem aV (ns:List Int):(ns.map ah.int).length = ns.length:=List.length_map ..
theorem at_getD {ns:List Int} {i:Int} (h0:0 ≤ i) (h1:i < (ns.length:Int)):L2.g! (ns.map ah.int) i = some (.int (ns.getD i.toNat 0)):=by
 have hk:i.toNat < ns.length:=by lia
 have e:=L2.ji (xs:=ns.map ah.int) (j:=i.toNat) (v:=.int ns[i.toNat]) (by rw [List.getElem?_map,List.getElem?_eq_getElem hk]; rfl)
 rw [show ((i.toNat:Nat):Int) = i by lia] at e
 rw [e,List.getD_eq_getElem?_getD,List.getElem?_eq_getElem hk]; rfl
theorem fq {p:Int} (hp:eQ p = true):¬ p = 0:=by have:=bh hp; lia
theorem bG {p:Int} (hp:eQ p = true) (st:ag):∃ g,PM.bu [.int p] st = .ok .dA (st ++ g):=by
 obtain ⟨g,e⟩:=gy p st
 have hr:eR p = true:=by unfold eR; rw [hp,Bool.or_true]
 rw [hr] at e
 have hz:(p == 0) = false:=by simpa using fq hp
 exact ⟨g,by simp only [PM.bu,aR,aj,av,AU,aw,aG,ax,ie,rf,az,au,a9,a8,aF,aE,gH,jW,aA,ar,ay,aP,aM,bc,aJ,List.map_cons,List.map_nil,List.cons_append,List.nil_append,List.replicate_zero,Nat.reduceSub,List.length_cons,List.length_nil,Nat.reduceAdd,Bool.not_true,e,hz]⟩
noncomputable def bP (ns:List Int):List Int:=(ns.reverse.dropWhile (· == 0)).reverse
theorem f? (ns:List Int):bP (ns ++ [0]) = bP ns:=by simp [bP]
theorem fJ {n:Int} (h:(n == 0) = false) (ns:List Int):bP (ns ++ [n]) = ns ++ [n]:=by
 simp [bP,List.dropWhile_cons,h]
noncomputable def Cut (ns:List Int):Prop:=bP ns = ns
theorem gb (ns:List Int):ns = [] ∨ ∃ ms x,ns = ms ++ [x]:=by
 rcases List.eq_nil_or_concat ns with h | ⟨ms,x,h⟩
 ·exact .inl h
 ·exact .inr ⟨ms,x,by rw [h,List.concat_eq_append]⟩
theorem m_:∀ (k:Nat) (ns:List Int),ns.length = k → (bP ns).length ≤ k ∧ Cut (bP ns) ∧ (∀ P:Int → Prop,(∀ n ∈ ns,P n) → ∀ n ∈ bP ns,P n)
 | 0,ns,h => by
  have:ns = []:=List.eq_nil_of_length_eq_zero h
  subst this
  exact ⟨Nat.le_refl _,rfl,fun P hP => hP⟩
 | k + 1,ns,h => by
  rcases gb ns with rfl | ⟨ms,x,rfl⟩
  ·exact ⟨Nat.zero_le _,rfl,fun P hP => hP⟩
  ·have hm:ms.length = k:=by rw [List.length_append,List.length_singleton] at h; lia
   cases hx:x == 0 with
   | true =>
    have:x = 0:=by simpa using hx
    subst this
    rw [f?]
    obtain ⟨h1,h2,h3⟩:=m_ k ms hm
    exact ⟨by lia,h2,fun P hP => h3 P fun n hn => hP n (List.mem_append_left _ hn)⟩
   | false =>
    rw [fJ hx]
    exact ⟨by lia,by unfold Cut; rw [fJ hx],fun P hP => hP⟩
theorem fi (ns:List Int):(bP ns).length ≤ ns.length:=(m_ _ ns rfl).1
theorem rD (ns:List Int):Cut (bP ns):=(m_ _ ns rfl).2.1
theorem xj {P:Int → Prop} {ns:List Int} (h:∀ n ∈ ns,P n):∀ n ∈ bP ns,P n:=(m_ _ ns rfl).2.2 P h
noncomputable def d9 (L:Nat) (s:ag):Nat:=((ak s L).getD []).length
noncomputable abbrev OE:MT:=dE (bX (ai qV (ao bY (aa (ae 2) aq)) (mC (.int 0)))) (bX (ai dP (ai dQ (ae 2) (h! (mC (.int 1)))) (mC (.int 0))))
noncomputable abbrev QT:MB:=eh (AK vB (ae 2))
theorem D6 (x y:Option ah) (st:ag) (ns:List Int):∃ μ' aC,cb OE QT [x,y,some (.loc st.length)] (st ++ [.lst (ns.map ah.int)]) = .nx μ' aC ∧ μ' = [x,y,some (.loc st.length)] ∧ aC = st ++ [.lst ((bP ns).map ah.int)]:=by
 obtain ⟨μ',aC,e,rfl,ms,rfl,hm⟩:=dH (t:=OE) (body:=QT)
  (fun μ s => μ = [x,y,some (.loc st.length)] ∧ ∃ ms:List Int,s = st ++ [.lst (ms.map ah.int)] ∧ bP ms = bP ns) (fun _ s => d9 st.length s)
  (fun μ s => μ = [x,y,some (.loc st.length)] ∧ ∃ ms:List Int,s = st ++ [.lst (ms.map ah.int)] ∧ ms = bP ns)
  (by
   rintro μ s ⟨rfl,ms,rfl,hm⟩
   rcases gb ms with rfl | ⟨ks,k,rfl⟩
   ·have h0:decide ((0:Int) < (([]:List ah).length:Int)) = false:=rfl
    refine .inl ⟨_,?_,rfl,[],rfl,hm⟩
    simp only [aj,aw,aG,ax,az,au,a8,aF,aE,cH,aA,ar,ay,e_,aT,aH,List.map_nil,List.length_nil,bf (bw st []),h0]
    rfl
   ·have em:(ks ++ [k]).map ah.int = ks.map ah.int ++ [.int k]:=by simp
    rw [em]
    have h0:decide ((0:Int) < ((ks.map ah.int ++ [ah.int k]).length:Int)) = true:=decide_eq_true (by rw [List.length_append,List.length_singleton]; lia)
    have S0:=ee (bw st (ks.map ah.int ++ [.int k])) (L2.zL (ks.map ah.int) (.int k))
    have uU:OE [x,y,some (.loc st.length)] (st ++ [.lst (ks.map ah.int ++ [.int k])]) = .ok (k == 0) (st ++ [.lst (ks.map ah.int ++ [.int k])]):=by
     simp only [aj,aw,aG,ax,dB,az,au,a8,aF,aE,cH,aA,ar,ay,fZ,jF,e_,bc,aT,aH,bf (bw st (ks.map ah.int ++ [.int k])),h0,S0]
    cases hk:k == 0 with
    | false =>
     rw [hk] at uU
     rw [fJ hk] at hm
     exact .inl ⟨_,uU,rfl,ks ++ [k],by rw [em],hm⟩
    | true =>
     rw [hk] at uU
     have S1:k = 0:=by simpa using hk
     subst S1
     rw [f?] at hm
     refine .inr ⟨_,_,st ++ [.lst (ks.map ah.int)],uU,.inl ?_,⟨rfl,ks,rfl,hm⟩,?_⟩
     ·simp only [aj,av,dy,bA,aT,aH,HM,Ld (bj st _),HN (bj st _),oq]
     ·unfold d9
      rw [bw,bw]
      show (ks.map ah.int).length < (ks.map ah.int ++ [ah.int 0]).length
      rw [List.length_append,List.length_singleton]; lia)
  [x,y,some (.loc st.length)] (st ++ [.lst (ns.map ah.int)]) ⟨rfl,ns,rfl,rfl⟩
 exact ⟨_,_,e,rfl,by rw [hm]⟩
theorem cj {p:Int} (hp:¬ p = 0) {n:Nat} {ns:List Int} {st:ag} (h:ak st n = some (ns.map ah.int)) (hl:ns.length ≤ sizeLine) :
  PM.bO [.int p,.loc n] st = .ok (.loc st.length) (st ++ [.lst ((bP (ns.map (·.fmod p))).map ah.int)]):=by
 have hc:=f_ (g:=fun aC => ak aC n = some (ns.map ah.int)) (a:=bb 0) (e:=ai cq (ae 0) (ae 1)) (st:=st) h (fun τ => ∃ z,τ = [z,some (.int p)]) (fun i => .int (i.fmod p)) ns [none,some (.int p)] [] ⟨_,rfl⟩ (by
  rintro i _ τ ⟨z,rfl⟩
  exact ⟨_,rfl,⟨_,rfl⟩,by simp only [aj,aw,aG,ax,aJ,aH,List.set_cons_zero,bK hp]⟩)
 rw [List.nil_append,show (ns.map fun i => ah.int (i.fmod p)) = (ns.map (·.fmod p)).map ah.int from by rw [List.map_map]; rfl] at hc
 have iN:iV 1 [0] [some (ah.int p),some (ah.loc n),none] = [none,some (.int p)]:=rfl
 have hz:(ns.map ah.int).length ≤ sizeLine:=by rw [aV]; exact hl
 rw [sizeLine_eq] at hz
 obtain ⟨μ',aC,e,rfl,rfl⟩:=D6 (some (.int p)) (some (.loc n)) st (ns.map (·.fmod p))
 simp only [PM.bO,aR,aj,av,aD,aY,bp,bV,ju,gI,aB,aL,bB,fh,jY,aT,aH,List.map_cons,List.map_nil,List.cons_append,List.nil_append,List.replicate_succ,List.replicate_zero,List.set_cons_zero,List.set_cons_succ,Nat.reduceSub,List.length_cons,List.length_nil,Nat.reduceAdd,sizeLine_eq,kK h,iN,hc,if_pos hz,e]
theorem t? {p:Int} (hp:eQ p = true) {n:Nat} {ns:List Int} {st:ag} (h:ak st n = some (ns.map ah.int)) (hl:ns.length ≤ sizeLine) :
  ∃ g,PM.gP [.int p,.loc n] st = .ok (.loc (st ++ g).length) (st ++ g ++ [.lst ((bP (ns.map (·.fmod p))).map ah.int)]):=by
 obtain ⟨g,e⟩:=bG hp st
 exact ⟨g,by simp only [PM.gP,aR,aj,av,aD,aY,az,au,dy,bp,aA,ar,ay,aB,bA,aL,aJ,aT,aH,List.map_cons,List.map_nil,List.cons_append,List.nil_append,List.replicate_zero,Nat.reduceSub,List.length_cons,List.length_nil,Nat.reduceAdd,e,cj (fq hp) (a7 h g) hl]⟩
noncomputable def horner (p x:Int) (ns:List Int):Int:=ns.reverse.foldl (fun t c => (t * x + c).fmod p) 0
noncomputable def Fc (p x t:Int) (v:ah):Int:=match v with
 | .int c => (t * x + c).fmod p
 | _ => t
theorem rE {p:Int} (hp:eQ p = true) {n:Nat} {ns:List Int} {st:ag} (x:Int) (h:ak st n = some (ns.map ah.int)) :
  ∃ g,PM.fG [.int p,.loc n,.int x] st = .ok (.int (horner p x ns)) (st ++ g):=by
 obtain ⟨g,e⟩:=bG hp st
 have h':=a7 h g
 have hr:=bh hp
 obtain ⟨μ',e2,y,rfl,_⟩:=qi (g:=fun bS => ak bS n = some (ns.map ah.int)) (a:=bb 4) (body:=aU 3 (ai cq (ai cS (ai b9 (ae 3) (ae 2)) (ae 4)) (ae 0))) (st:=st ++ g) h'
  (fun (t:Int) μ => ∃ y,μ = [some (.int p),some (.loc n),some (.int x),some (.int t),y] ∧ 0 ≤ t ∧ t < p) (Fc p x) (ns.map ah.int).reverse
  (by
   intro u hu t μ ht
   obtain ⟨y,rfl,t0,t1⟩:=ht
   obtain ⟨c,_,rfl⟩:=List.mem_map.mp (List.mem_reverse.mp hu)
   have q:=e! (m:=p) (by lia) (t * x + c)
   exact ⟨_,rfl,_,by simp only [aj,av,aw,aG,ax,bV,bB,d?,aJ,aH,List.set_cons_zero,List.set_cons_succ,gw (i:=t) (by lia) (by lia),bK (fq hp)]; rfl,_,rfl,q.1,q.2⟩)
  0 [some (.int p),some (.loc n),some (.int x),some (.int 0),none] ⟨_,rfl,by lia,by lia⟩
 refine ⟨g,?_⟩
 have hh:(ns.map ah.int).reverse.foldl (Fc p x) 0 = horner p x ns:=by
  unfold horner
  rw [← List.map_reverse,List.foldl_map]; rfl
 rw [hh] at e2
 simp only [PM.fG,aR,aj,av,aD,aY,az,au,dy,bp,bV,qc,a8,aA,ar,ay,aB,bA,aL,bB,kJ,aJ,aT,aH,List.map_cons,List.map_nil,List.cons_append,List.nil_append,List.replicate_succ,List.replicate_zero,List.set_cons_zero,List.set_cons_succ,Nat.reduceSub,List.length_cons,List.length_nil,Nat.reduceAdd,H9,e,H! h',e2]
theorem rF {n j:Nat} (h:j < n):L2.sV n (j:Int) = some j:=by
 unfold L2.sV
 rw [if_pos (by lia),if_pos (by lia)]; simp
end PG
namespace PG
open PySem PySem.Spec L2 MN
open PyProof.Rows hiding St kindOf
noncomputable def Cg (p a b:Int):Prop:=∃ k,a = b + p * k
theorem Cg.refl (p a:Int):Cg p a a:=⟨0,by rw [Int.mul_zero,Int.add_zero]⟩
theorem Cg.symm {p a b:Int} (h:Cg p a b):Cg p b a:=by
 obtain ⟨k,rfl⟩:=h
 exact ⟨-k,by rw [Int.mul_neg]; lia⟩
theorem Cg.trans {p a b c:Int} (h:Cg p a b) (h':Cg p b c):Cg p a c:=by
 obtain ⟨k,rfl⟩:=h
 obtain ⟨l,rfl⟩:=h'
 exact ⟨l + k,by rw [Int.mul_add]; lia⟩
theorem Cg.add {p a b c d:Int} (h:Cg p a b) (h':Cg p c d):Cg p (a + c) (b + d):=by
 obtain ⟨k,rfl⟩:=h
 obtain ⟨l,rfl⟩:=h'
 exact ⟨k + l,by rw [Int.mul_add]; lia⟩
theorem Cg.D7 {p a b:Int} (h:Cg p a b) (c:Int):Cg p (a * c) (b * c):=by
 obtain ⟨k,rfl⟩:=h
 exact ⟨k * c,by rw [Int.add_mul,Int.mul_assoc]⟩
theorem Cg.vO {p a b:Int} (h:Cg p a b) (c:Int):Cg p (c * a) (c * b):=by
 rw [Int.mul_comm c a,Int.mul_comm c b]; exact h.D7 c
theorem Cg.neg {p a b:Int} (h:Cg p a b):Cg p (-a) (-b):=by
 obtain ⟨k,rfl⟩:=h
 exact ⟨-k,by rw [Int.mul_neg]; lia⟩
theorem Cg.mod {p:Int} (hp:0 < p) (a:Int):Cg p (a.fmod p) a:=by
 refine ⟨-(a / p),?_⟩
 rw [cy hp,Int.mul_neg]
 have:=Int.emod_add_mul_ediv a p
 lia
theorem Cg.eq {p a b:Int} (hp:0 < p) (h:Cg p a b):a.fmod p = b.fmod p:=by
 obtain ⟨k,rfl⟩:=h
 rw [cy hp,cy hp,Int.add_mul_emod_self_left]
theorem c5 {p a:Int} (h0:0 ≤ a) (h1:a < p):a.fmod p = a:=by
 rw [cy (by lia)]; exact Int.emod_eq_of_lt h0 h1
noncomputable def D8 (ns:List Int) (lo hi:Option Int):List Int:=(ns.drop (HT.eB ns.length 0 lo)).take (HT.eB ns.length ns.length hi - HT.eB ns.length 0 lo)
theorem yP (ns:List Int) (lo hi:Option Int):vA (ns.map ah.int) lo hi = (D8 ns lo hi).map ah.int:=by
 unfold vA D8
 rw [aV,List.map_take,List.map_drop]
end PG
namespace PG
open PySem PySem.Spec L2 MN
open PyProof.Rows hiding St kindOf
theorem qj {α:Type} {g:ag → Prop} {a:AS} {e:ME} {st:ag} (hg:g st) (I:MN.Env → Prop) (enc f:α → ah):∀ (xs:List α) (τ:MN.Env) (ys:List ah),I τ →
  (∀ x ∈ xs,∀ τ,I τ → ∃ τ1,a (enc x) τ = some τ1 ∧ I τ1 ∧ e τ1 st = .ok (f x) st) → c9 g a cO e (xs.map enc) τ st ys = .ok (ys ++ xs.map f) st
 | [],τ,ys,_,_ => by
  rw [List.map_nil]
  unfold c9
  rw [if_pos hg]; simp
 | n :: ns,τ,ys,hI,hs => by
  obtain ⟨τ1,h1,h2,h3⟩:=hs n List.mem_cons_self τ hI
  have ih:=qj hg I enc f ns τ1 (ys ++ [f n]) h2 fun i hi => hs i (List.mem_cons_of_mem n hi)
  rw [List.map_cons]
  unfold c9
  rw [if_pos hg,h1]
  dsimp only [cO]
  rw [h3]
  dsimp only
  rw [ih]
  simp
noncomputable def pr (q:Int × Int):ah:=.tup [.int q.1,.int q.2]
theorem qk:∀ (as bs:List Int),iF (as.map ah.int) (bs.map ah.int) = (as.zip bs).map pr
 | [],_ => by simp [iF]
 | _ :: _,[] => by simp [iF]
 | a :: as,b :: bs => by
  simp only [List.map_cons,iF,List.zip_cons_cons,qk as bs]; rfl
theorem Br (k:Nat):p7 k [ah.int 0] = (List.replicate k (0:Int)).map ah.int:=by
 unfold p7
 induction k with
 | zero => rfl
 | succ k ih => rw [List.replicate_succ,List.replicate_succ,List.flatten_cons,ih]; rfl
theorem kT (ns:List Int) (k j:Nat):(ns ++ List.replicate k 0).getD j 0 = ns.getD j 0:=by
 rw [List.getD_eq_getElem?_getD,List.getD_eq_getElem?_getD]
 by_cases h:j < ns.length
 ·rw [List.getElem?_append_left h]
 ·rw [List.getElem?_append_right (by lia),List.getElem?_eq_none (l:=ns) (by lia),List.getElem?_replicate]
  split <;> rfl
theorem iC {n:Nat} {ns:List Int} {L:Int} {st:ag} (h:ak st n = some (ns.map ah.int)) (h0:(ns.length:Int) ≤ L) (h1:L ≤ 1000000) :
  ∃ g k,PM.dR [.loc n,.int L] st = .ok (.loc k) (st ++ g) ∧ st.length ≤ k ∧ (st ++ g)[k]? = some (.lst ((ns ++ List.replicate (L - ns.length).toNat 0).map ah.int)):=by
 have c1:=jk h
 have h2:=a7 (a7 h [.lst (ns.map ah.int)]) [.lst [.int 0]]
 have m1:=vI (st:=st ++ [.lst (ns.map ah.int)] ++ [.lst [.int 0]]) (n:=(st ++ [aQ.lst (ns.map ah.int)]).length) (us:=[.int 0]) (k:=L - ns.length) (bj _ _) (by lia) (by lia) (by rw [sizeLine_eq]; simp; lia)
 rw [Br] at m1
 have a1:=Ia (st:=st ++ [aQ.lst (ns.map ah.int)] ++ [aQ.lst [.int 0]] ++ [aQ.lst ((List.replicate (L - ns.length).toNat (0:Int)).map ah.int)]) (n:=st.length) (m:=(st ++ [aQ.lst (ns.map ah.int)] ++ [aQ.lst [.int 0]]).length)
  (us:=ns.map ah.int) (ws:=(List.replicate (L - ns.length).toNat (0:Int)).map ah.int) (bE (bE (bj st (ns.map ah.int)) _) _) (bj _ _) (by rw [aV,aV,List.length_replicate,sizeLine_eq]; lia)
 rw [← List.map_append] at a1
 refine ⟨[.lst (ns.map ah.int)] ++ [.lst [.int 0]] ++ [.lst ((List.replicate (L - ns.length).toNat (0:Int)).map ah.int)] ++ [.lst ((ns ++ List.replicate (L - ns.length).toNat 0).map ah.int)],(st ++ [aQ.lst (ns.map ah.int)] ++ [aQ.lst [.int 0]] ++ [aQ.lst ((List.replicate (L - ns.length).toNat (0:Int)).map ah.int)]).length,?_,by simp only [List.length_append]; lia,?_⟩
 ·simp only [PM.dR,aR,aj,av,aY,aw,aG,ax,az,au,i6,bp,a8,aA,ar,fY,ay,aL,f7,aJ,aT,aH,List.map_cons,List.map_nil,List.cons_append,List.nil_append,List.replicate_zero,Nat.reduceSub,List.length_cons,List.length_nil,Nat.reduceAdd,sizeLine_eq,Nat.reduceLeDiff,↓reduceIte,c1,bf h2,aV,m1,a1]
  simp only [List.append_assoc,List.cons_append,List.nil_append]
 ·simp only [← List.append_assoc]
  exact bj _ _
noncomputable def fF (as bs:List Int) (f:Int):List Int:=(fo 0 (max as.length bs.length)).map fun k => as.getD k.toNat 0 + f * bs.getD k.toNat 0
theorem Io (as bs:List Int) (f:Int) {k l:Nat} (hk:as.length + k = max as.length bs.length) (hl:bs.length + l = max as.length bs.length) :
  ((as ++ List.replicate k 0).zip (bs ++ List.replicate l 0)).map (fun (q:Int × Int) => q.1 + f * q.2) = fF as bs f:=by
 refine List.ext_getElem? fun j => ?_
 unfold fF fo
 rw [List.map_map,List.getElem?_map,List.getElem?_map]
 by_cases hj:j < max as.length bs.length
 ·rw [List.getElem?_range hj]
  have e1:(as ++ List.replicate k 0)[j]? = some ((as ++ List.replicate k 0).getD j 0):=by
   rw [List.getD_eq_getElem?_getD,List.getElem?_eq_getElem (by rw [List.length_append,List.length_replicate]; lia)]; rfl
  have e2:(bs ++ List.replicate l 0)[j]? = some ((bs ++ List.replicate l 0).getD j 0):=by
   rw [List.getD_eq_getElem?_getD,List.getElem?_eq_getElem (by rw [List.length_append,List.length_replicate]; lia)]; rfl
  have e3:((as ++ List.replicate k 0).zip (bs ++ List.replicate l 0))[j]? = some ((as ++ List.replicate k 0).getD j 0,(bs ++ List.replicate l 0).getD j 0):=by
   rw [List.getElem?_zip_eq_some]; exact ⟨e1,e2⟩
  rw [e3,kT,kT]
  show some (as.getD j 0 + f * bs.getD j 0) = some (as.getD (0 + (j:Int)).toNat 0 + f * bs.getD (0 + (j:Int)).toNat 0)
  rw [show (0 + (j:Int)).toNat = j by lia]
 ·rw [List.getElem?_eq_none (l:=List.range _) (by rw [List.length_range]; lia),List.getElem?_eq_none (by rw [List.length_zip,List.length_append,List.length_append,List.length_replicate,List.length_replicate]; lia)]
  rfl
theorem oC (as bs:List Int) (f:Int):(fF as bs f).length = max as.length bs.length:=by unfold fF fo; rw [List.length_map,List.length_map,List.length_range]
theorem dM {p f:Int} (hp:¬ p = 0) {n m:Nat} {as bs:List Int} {st:ag} (h1:ak st n = some (as.map ah.int)) (h2:ak st m = some (bs.map ah.int)) (kA:as.length ≤ 100000) (km:bs.length ≤ 100000) (f0:-(2 ^ 64) < f) (f1:f < 2 ^ 64) :
  ∃ g k,PM.bF [.int p,.loc n,.loc m,.int f] st = .ok (.loc k) (st ++ g) ∧ st.length ≤ k ∧ (st ++ g)[k]? = some (.lst ((bP ((fF as bs f).map (·.fmod p))).map ah.int)):=by
 have mx:(if (bs.length:Int) > (as.length:Int) then (bs.length:Int) else (as.length:Int)) = ((max as.length bs.length:Nat):Int):=by
  split <;> lia
 obtain ⟨g1,k1,e1,o1,q1⟩:=iC (L:=((max as.length bs.length:Nat):Int)) h1 (by lia) (by lia)
 obtain ⟨g2,k2,e2,o2,q2⟩:=iC (L:=((max as.length bs.length:Nat):Int)) (a7 h2 g1) (by lia) (by lia)
 have q1:=bE q1 g2
 revert e2 q1 q2
 generalize gz:st ++ g1 ++ g2 = s2
 intro e2 q2 q1
 have hk:as.length + (((max as.length bs.length:Nat):Int) - as.length).toNat = max as.length bs.length:=by lia
 have hl:bs.length + (((max as.length bs.length:Nat):Int) - bs.length).toNat = max as.length bs.length:=by lia
 have le:=Io as bs f hk hl
 have zz:=H? (a! q1) (a! q2)
 rw [qk] at zz
 generalize (as ++ List.replicate (((max as.length bs.length:Nat):Int) - as.length).toNat 0) = A at q1 q2 zz le
 generalize (bs ++ List.replicate (((max as.length bs.length:Nat):Int) - bs.length).toNat 0) = B at q1 q2 zz le
 have hc:=qj (g:=fun bS => ak bS k1 = some (A.map ah.int) ∧ ak bS k2 = some (B.map ah.int)) (a:=iT [bb 0,bb 1]) (e:=ai cS (ae 0) (ai b9 (ae 2) (ae 1))) (st:=s2) ⟨a! q1,a! q2⟩ (fun τ => ∃ x y,τ = [x,y,some (.int f)]) pr (fun (q:Int × Int) => .int (q.1 + f * q.2)) (A.zip B) [none,none,some (.int f)] [] ⟨_,_,rfl⟩ (by
  rintro ⟨a,b⟩ _ τ ⟨x,y,rfl⟩
  exact ⟨_,rfl,⟨_,_,rfl⟩,by simp only [aj,aw,aG,ax,d?,aJ,aH,List.set_cons_zero,List.set_cons_succ,gw (i:=f) f0 f1]⟩)
 rw [List.nil_append,show ((A.zip B).map fun (q:Int × Int) => ah.int (q.1 + f * q.2)) = ((A.zip B).map fun (q:Int × Int) => q.1 + f * q.2).map ah.int from by rw [List.map_map]; rfl,le] at hc
 have iN:∀ x y z w:Option ah,iV 2 [3] [x,y,z,some (.int f),w,some (.loc k1)] = [none,none,some (.int f)]:=fun _ _ _ _ => rfl
 have hz:((A.zip B).map pr).length ≤ sizeLine:=by
  have e:=congrArg List.length le
  rw [List.length_map,oC] at e
  rw [List.length_map,e,sizeLine_eq]; lia
 rw [sizeLine_eq] at hz
 have rr:=cj hp (st:=s2 ++ [.lst ((fF as bs f).map ah.int)]) (bw s2 _) (by rw [oC,sizeLine_eq]; lia)
 refine ⟨g1 ++ g2 ++ [.lst ((fF as bs f).map ah.int)] ++ [.lst ((bP ((fF as bs f).map (·.fmod p))).map ah.int)],(s2 ++ [aQ.lst ((fF as bs f).map ah.int)]).length,?_,by rw [← gz]; simp only [List.length_append]; lia,?_⟩
 ·rw [show st ++ (g1 ++ g2 ++ [aQ.lst ((fF as bs f).map ah.int)] ++ [.lst ((bP ((fF as bs f).map (·.fmod p))).map ah.int)]) = s2 ++ [aQ.lst ((fF as bs f).map ah.int)] ++ [.lst ((bP ((fF as bs f).map (·.fmod p))).map ah.int)] from by rw [← gz]; simp only [List.append_assoc]]
  simp only [PM.bF,aR,aj,av,aD,aY,az,au,bp,bV,ju,gI,aA,ar,ay,aB,aL,bB,fh,A2,aJ,aT,aH,List.map_cons,List.map_nil,List.cons_append,List.nil_append,List.replicate_succ,List.replicate_zero,List.set_cons_zero,List.set_cons_succ,Nat.reduceSub,List.length_cons,List.length_nil,Nat.reduceAdd,sizeLine_eq,A?,bf h1,bf h2,aV,mx,e1,e2,zz,iN,hc,if_pos hz,rr]
 ·rw [show st ++ (g1 ++ g2 ++ [aQ.lst ((fF as bs f).map ah.int)] ++ [.lst ((bP ((fF as bs f).map (·.fmod p))).map ah.int)]) = s2 ++ [aQ.lst ((fF as bs f).map ah.int)] ++ [.lst ((bP ((fF as bs f).map (·.fmod p))).map ah.int)] from by rw [← gz]; simp only [List.append_assoc]]
  exact bj _ _
end PG
namespace PG
open PySem PySem.Spec L2 MN
open PyProof.Rows hiding St kindOf
noncomputable def jr (as bs:List Int):Nat → Nat → Int
 | 0,_ => 0
 | i + 1,k => jr as bs i k + (if i ≤ k then as.getD i 0 * bs.getD (k - i) 0 else 0)
theorem i' {ns:List Int} {k:Nat} (h:ns.length ≤ k):ns.getD k 0 = 0:=by
 rw [List.getD_eq_getElem?_getD,List.getElem?_eq_none h]; rfl
theorem uc (as bs:List Int) (k:Nat):∀ i,i + bs.length ≤ k + 1 → jr as bs i k = 0
 | 0,_ => rfl
 | i + 1,h => by
  show jr as bs i k + (if i ≤ k then as.getD i 0 * bs.getD (k - i) 0 else 0) = 0
  rw [uc as bs k i (by lia),i' (ns:=bs) (by lia),Int.mul_zero]
  split <;> rfl
theorem ud (bs:List Int) (k:Nat):∀ i,jr [] bs i k = 0
 | 0 => rfl
 | i + 1 => by
  show jr [] bs i k + (if i ≤ k then ([]:List Int).getD i 0 * bs.getD (k - i) 0 else 0) = 0
  rw [ud bs k i,i' (ns:=[]) (Nat.zero_le _),Int.zero_mul]
  split <;> rfl
noncomputable def bR (as bs:List Int):List Int:=(fo 0 (as.length + bs.length - 1)).map fun k => jr as bs as.length k.toNat
theorem ql (as bs:List Int):(bR as bs).length = as.length + bs.length - 1:=by unfold bR fo; rw [List.length_map,List.length_map,List.length_range]
theorem xk {R:List Int} {n:Nat} {f:Nat → Int} (hl:R.length = n) (h:∀ k,k < n → R.getD k 0 = f k):R = (fo 0 n).map fun k => f k.toNat:=by
 refine List.ext_getElem? fun j => ?_
 unfold fo
 rw [List.map_map,List.getElem?_map]
 by_cases hj:j < n
 ·rw [List.getElem?_range hj,List.getElem?_eq_getElem (by lia)]
  have:=h j hj
  rw [List.getD_eq_getElem?_getD,List.getElem?_eq_getElem (by lia)] at this
  show some _ = some (f (0 + (j:Int)).toNat)
  rw [show (0 + (j:Int)).toNat = j by lia,← this]; rfl
 ·rw [List.getElem?_eq_none (by lia),List.getElem?_eq_none (by rw [List.length_range]; lia)]; rfl
theorem oD {R:List Int} {k:Nat} {v:Int} (hk:k < R.length) (j:Nat):(R.set k v).getD j 0 = if j = k then v else R.getD j 0:=by
 rw [List.getD_eq_getElem?_getD,List.getD_eq_getElem?_getD]
 by_cases h:j = k
 ·subst h; rw [List.getElem?_set_self hk,if_pos rfl]; rfl
 ·rw [List.getElem?_set_ne (fun z => h z.symm),if_neg h]
theorem m? {R:List Int} {i:Int} {k:Nat} (hi:i = (k:Int)) (hk:k < R.length):L2.g! (R.map ah.int) i = some (.int (R.getD k 0)):=by
 subst hi
 have:=at_getD (ns:=R) (i:=(k:Int)) (by lia) (by lia)
 rw [Int.toNat_natCast] at this; exact this
noncomputable abbrev xY:MB:=qa yr (ae 3) (ai cS (ae 4) (ae 6)) (ai b9 (ae 5) (ae 7))
theorem vP {p:Int} {n m L:Nat} {bs R0:List Int} {i:Nat} {a:Int} {s:ag} {x6 x7:Option ah} (hm:ak (s ++ [.lst (R0.map ah.int)]) m = some (bs.map ah.int)) (S2:m < s.length) (hL:L = s.length)
  (ha:-(2 ^ 64) < a ∧ a < 2 ^ 64) (hl:i + bs.length ≤ R0.length) :
  ∃ (R:List Int) (S3 S4:Option ah),forL (fun bS => ak bS m = some (bs.map ah.int)) (iT [bb 6,bb 7]) xY (iB 0 (bs.map ah.int)) [some (.int p),some (.loc n),some (.loc m),some (.loc L),some (.int i),some (.int a),x6,x7] (s ++ [.lst (R0.map ah.int)])
   = .nx [some (.int p),some (.loc n),some (.loc m),some (.loc L),some (.int i),some (.int a),S3,S4] (s ++ [.lst (R.map ah.int)]) ∧ R.length = R0.length ∧ ∀ k,R.getD k 0 = R0.getD k 0 + (if i ≤ k then a * bs.getD (k - i) 0 else 0):=by
 subst hL
 have QU:∀ R:List Int,ak (s ++ [.lst (R.map ah.int)]) m = some (bs.map ah.int):=fun R => by
  have h:=hm
  unfold ak at h ⊢
  rw [List.getElem?_append_left S2] at h ⊢
  exact h
 obtain ⟨μ',aC,e,R,rfl,⟨y6,y7,rfl⟩,hR,hv⟩:=gT (g:=fun bS => ak bS m = some (bs.map ah.int)) (a:=iT [bb 6,bb 7]) (body:=xY)
  (fun j μ s' => ∃ R:List Int,s' = s ++ [.lst (R.map ah.int)] ∧ (∃ x6 x7,μ = [some (.int p),some (.loc n),some (.loc m),some (.loc s.length),some (.int i),some (.int a),x6,x7]) ∧ R.length = R0.length ∧ ∀ k,R.getD k 0 = R0.getD k 0 + (if i ≤ k ∧ k < i + j then a * bs.getD (k - i) 0 else 0))
  (iB 0 (bs.map ah.int)) 0 [some (.int p),some (.loc n),some (.loc m),some (.loc s.length),some (.int i),some (.int a),x6,x7] (s ++ [.lst (R0.map ah.int)])
  (by
   rintro j u μ s' hu ⟨R,rfl,⟨x6,x7,rfl⟩,hR,hv⟩
   rw [Nat.zero_add] at hv ⊢
   refine ⟨QU R,?_⟩
   obtain ⟨w,hw,rfl⟩:=iW _ 0 j u hu
   rw [Nat.zero_add]
   have hj:j < bs.length:=by have:=bJ hw; rw [aV] at this; exact this
   have ew:w = .int (bs.getD j 0):=by
    rw [List.getElem?_map,List.getElem?_eq_getElem hj] at hw
    rw [← Option.some.inj hw,List.getD_eq_getElem?_getD,List.getElem?_eq_getElem hj]; rfl
   subst ew
   have hk:i + j < R.length:=by lia
   have gx:=A_ (a! (bj s (R.map ah.int))) (m? (R:=R) (i:=(i:Int) + (j:Int)) (k:=i + j) (by lia) hk)
   have sx:=rj (v:=.int (R.getD (i + j) 0 + a * bs.getD j 0)) (k:=(i:Int) + (j:Int)) (j:=i + j) (bj s (R.map ah.int)) (by rw [aV]; have:=rF hk; rw [show (i:Int) + (j:Int) = ((i + j:Nat):Int) by lia]; exact this)
   rw [oq,← List.map_set] at sx
   refine ⟨[some (.int p),some (.loc n),some (.loc m),some (.loc s.length),some (.int i),some (.int a),some (.int j),some (.int (bs.getD j 0))],rfl,[some (.int p),some (.loc n),some (.loc m),some (.loc s.length),some (.int i),some (.int a),some (.int j),some (.int (bs.getD j 0))],s ++ [.lst ((R.set (i + j) (R.getD (i + j) 0 + a * bs.getD j 0)).map ah.int)],.inl ?_,R.set (i + j) (R.getD (i + j) 0 + a * bs.getD j 0),rfl,⟨_,_,rfl⟩,by rw [List.length_set]; exact hR,fun k => ?_⟩
   ·simp only [aj,av,aw,aG,ax,d?,aJ,aT,aH,oo,xc,Lg,E5,E6,E7,E8,A!,gx,gw (i:=a) ha.1 ha.2,sx]
   ·rw [oD hk]
    by_cases Lx:k = i + j
    ·subst Lx
     rw [if_pos rfl,hv,if_neg (by lia),if_pos (by lia),show i + j - i = j by lia]; lia
    ·rw [if_neg Lx,hv]
     congr 1
     by_cases h1:i ≤ k ∧ k < i + j
     ·rw [if_pos h1,if_pos (by lia)]
     ·rw [if_neg h1,if_neg (by lia)])
  (fun μ s' ⟨R,hs,_⟩ => by rw [hs]; exact QU R)
  ⟨R0,rfl,⟨_,_,rfl⟩,rfl,fun k => by rw [if_neg (by lia),Int.add_zero]⟩
 refine ⟨R,y6,y7,e,hR,fun k => ?_⟩
 rw [hv,Nat.zero_add,gO,aV]
 congr 1
 by_cases h1:i ≤ k
 ·by_cases h2:k < i + bs.length
  ·rw [if_pos ⟨h1,h2⟩,if_pos h1]
  ·rw [if_neg (by lia),if_pos h1,i' (by lia),Int.mul_zero]
 ·rw [if_neg (by lia),if_neg h1]
theorem ja {p:Int} (hp:¬ p = 0) {n m:Nat} {as bs:List Int} {st:ag} (h1:ak st n = some (as.map ah.int)) (h2:ak st m = some (bs.map ah.int)) (kA:as.length ≤ 100000) (km:bs.length ≤ 100000) (ha:∀ a ∈ as,-(2 ^ 64) < a ∧ a < 2 ^ 64) :
  ∃ g k,PM.cN [.int p,.loc n,.loc m] st = .ok (.loc k) (st ++ g) ∧ st.length ≤ k ∧ (st ++ g)[k]? = some (.lst ((if as = [] ∨ bs = [] then [] else bP ((bR as bs).map (·.fmod p))).map ah.int)):=by
 by_cases OF:as = []
 ·subst OF
  refine ⟨[.lst []],st.length,?_,Nat.le_refl _,?_⟩
  ·have z:((([]:List Int).length:Int) == 0) = true:=rfl
   simp only [PM.cN,aR,aj,aw,aG,ax,az,au,a8,aF,aE,gH,aA,ar,ay,aB,aM,bc,aT,aH,List.map_cons,List.map_nil,List.cons_append,List.nil_append,List.replicate_succ,List.replicate_zero,Nat.reduceSub,List.length_cons,List.length_nil,Nat.reduceAdd,bf h1,aV,z]
   rfl
  ·rw [if_pos (.inl rfl)]; exact bj st []
 have S5:0 < as.length:=by
  rcases Nat.eq_zero_or_pos as.length with z | z
  ·exact absurd (List.eq_nil_of_length_eq_zero z) OF
  ·exact z
 have za:((as.length:Int) == 0) = false:=by simp; lia
 by_cases OG:bs = []
 ·subst OG
  refine ⟨[.lst []],st.length,?_,Nat.le_refl _,?_⟩
  ·have z:((([]:List Int).length:Int) == 0) = true:=rfl
   simp only [PM.cN,aR,aj,av,aw,aG,ax,ie,az,au,a8,aF,aE,gH,aA,ar,ay,aB,aM,bc,aT,aH,List.map_cons,List.map_nil,List.cons_append,List.nil_append,List.replicate_succ,List.replicate_zero,Nat.reduceSub,List.length_cons,List.length_nil,Nat.reduceAdd,bf h1,bf h2,aV,za,z]
   rfl
  ·rw [if_pos (.inr rfl)]; exact bj st []
 have D9:0 < bs.length:=by
  rcases Nat.eq_zero_or_pos bs.length with z | z
  ·exact absurd (List.eq_nil_of_length_eq_zero z) OG
  ·exact z
 have zb:((bs.length:Int) == 0) = false:=by simp; lia
 rw [if_neg (by rintro (z | z); exact OF z; exact OG z)]
 have m1:=vI (st:=st ++ [.lst [.int 0]]) (n:=st.length) (us:=[.int 0]) (k:=(as.length:Int) + (bs.length:Int) - 1) (bj _ _) (by lia) (by lia) (by rw [sizeLine_eq]; simp; lia)
 rw [Br,show ((as.length:Int) + (bs.length:Int) - 1).toNat = as.length + bs.length - 1 by lia] at m1
 have Jg:=a7 h1 [.lst [.int 0]]
 have Dm:=a7 h2 [.lst [.int 0]]
 have q1:=E9 Jg
 have q2:=E9 Dm
 have sG:st ++ [aQ.lst [.int 0]] = st ++ [aQ.lst [.int 0]]:=rfl
 revert m1 Jg Dm q1 q2
 generalize hs:st ++ [aQ.lst [.int 0]] = s
 intro m1 Jg Dm q1 q2
 have k1:=bf (a7 h1 [.lst [.int 0]])
 have k2:=bf (a7 h2 [.lst [.int 0]])
 rw [hs] at k1 k2
 obtain ⟨μ',aC,e,R,rfl,⟨y4,y5,y6,y7,rfl⟩,hR,hv⟩:=gT (g:=fun bS => ak bS n = some (as.map ah.int)) (a:=iT [bb 4,bb 5]) (body:=pz (iX (aa (ae 2) aq)) (iT [bb 6,bb 7]) xY)
  (fun i μ s' => ∃ R:List Int,s' = s ++ [.lst (R.map ah.int)] ∧ (∃ x4 x5 x6 x7,μ = [some (.int p),some (.loc n),some (.loc m),some (.loc s.length),x4,x5,x6,x7]) ∧ R.length = as.length + bs.length - 1 ∧ ∀ k,R.getD k 0 = jr as bs i k)
  (iB 0 (as.map ah.int)) 0 [some (.int p),some (.loc n),some (.loc m),some (.loc s.length),none,none,none,none] (s ++ [.lst ((List.replicate (as.length + bs.length - 1) (0:Int)).map ah.int)])
  (by
   rintro i u μ s' hu ⟨R,rfl,⟨x4,x5,x6,x7,rfl⟩,hR,hv⟩
   rw [Nat.zero_add] at hv ⊢
   refine ⟨a7 Jg _,?_⟩
   obtain ⟨w,hw,rfl⟩:=iW _ 0 i u hu
   rw [Nat.zero_add]
   have hi:i < as.length:=by have:=bJ hw; rw [aV] at this; exact this
   have ew:w = .int (as.getD i 0):=by
    rw [List.getElem?_map,List.getElem?_eq_getElem hi] at hw
    rw [← Option.some.inj hw,List.getD_eq_getElem?_getD,List.getElem?_eq_getElem hi]; rfl
   subst ew
   have S6:as.getD i 0 ∈ as:=by rw [List.getD_eq_getElem?_getD,List.getElem?_eq_getElem hi]; exact List.getElem_mem hi
   obtain ⟨R',z6,z7,e',QV,S7⟩:=vP (p:=p) (n:=n) (m:=m) (L:=s.length) (bs:=bs) (R0:=R) (i:=i) (a:=as.getD i 0) (s:=s) (x6:=x6) (x7:=x7) (a7 Dm _) q2 rfl (ha _ S6) (by lia)
   refine ⟨[some (.int p),some (.loc n),some (.loc m),some (.loc s.length),some (.int i),some (.int (as.getD i 0)),x6,x7],rfl,[some (.int p),some (.loc n),some (.loc m),some (.loc s.length),some (.int i),some (.int (as.getD i 0)),z6,z7],s ++ [.lst (R'.map ah.int)],.inl ?_,R',rfl,⟨_,_,_,_,rfl⟩,by lia,fun k => ?_⟩
   ·simp only [aj,av,az,au,qc,aA,ar,kJ,aT,aH,rm,vH (a7 Dm [.lst (R.map ah.int)]),e']
   ·rw [S7,hv]; rfl)
  (fun μ s' ⟨R,EY,_⟩ => by rw [EY]; exact a7 Jg _)
  ⟨List.replicate (as.length + bs.length - 1) 0,rfl,⟨_,_,_,_,rfl⟩,List.length_replicate,fun k => by
   rw [List.getD_eq_getElem?_getD,List.getElem?_replicate]; split <;> rfl⟩
 rw [Nat.zero_add,gO,aV] at hv
 have S8:R = bR as bs:=xk hR fun k _ => hv k
 subst S8
 have rr:=cj hp (st:=s ++ [.lst ((bR as bs).map ah.int)]) (bw s _) (by rw [ql,sizeLine_eq]; lia)
 refine ⟨[.lst [.int 0]] ++ [.lst ((bR as bs).map ah.int)] ++ [.lst ((bP ((bR as bs).map (·.fmod p))).map ah.int)],(s ++ [aQ.lst ((bR as bs).map ah.int)]).length,?_,by rw [← hs]; simp only [List.length_append]; lia,?_⟩
 ·rw [show st ++ ([aQ.lst [.int 0]] ++ [.lst ((bR as bs).map ah.int)] ++ [.lst ((bP ((bR as bs).map (·.fmod p))).map ah.int)]) = s ++ [aQ.lst ((bR as bs).map ah.int)] ++ [.lst ((bP ((bR as bs).map (·.fmod p))).map ah.int)] from by rw [← hs]; simp only [List.append_assoc]]
  simp only [PM.cN,aR,aj,av,aD,aY,aw,aG,ax,ie,az,au,i6,bp,a9,bV,qc,a8,aF,aE,gH,aA,ar,fY,ay,aB,aP,aL,aM,bB,kJ,d?,f7,bc,aJ,aT,aH,List.map_cons,List.map_nil,List.cons_append,List.nil_append,List.replicate_succ,List.replicate_zero,List.set_cons_zero,List.set_cons_succ,Nat.reduceSub,List.length_cons,List.length_nil,Nat.reduceAdd,sizeLine_eq,Nat.reduceLeDiff,↓reduceIte,rm,bf h1,bf h2,aV,za,zb,hs,k1,k2,m1,vH (a7 Jg _),e,rr]
 ·rw [show st ++ ([aQ.lst [.int 0]] ++ [.lst ((bR as bs).map ah.int)] ++ [.lst ((bP ((bR as bs).map (·.fmod p))).map ah.int)]) = s ++ [aQ.lst ((bR as bs).map ah.int)] ++ [.lst ((bP ((bR as bs).map (·.fmod p))).map ah.int)] from by rw [← hs]; simp only [List.append_assoc]]
  exact bj _ _
theorem iD {p f:Int} (hp:¬ p = 0) {n:Nat} {as:List Int} {st:ag} (h:ak st n = some (as.map ah.int)) (hl:as.length ≤ 100000) (ha:∀ a ∈ as,-(2 ^ 64) < a ∧ a < 2 ^ 64) :
  ∃ g k,PM.b7 [.int p,.loc n,.int f] st = .ok (.loc k) (st ++ g) ∧ st.length ≤ k ∧ (st ++ g)[k]? = some (.lst ((bP ((as.map (· * f)).map (·.fmod p))).map ah.int)):=by
 have hc:=f_ (g:=fun aC => ak aC n = some (as.map ah.int)) (a:=bb 0) (e:=ai b9 (ae 0) (ae 1)) (st:=st) h (fun τ => ∃ z,τ = [z,some (.int f)]) (fun i => .int (i * f)) as [none,some (.int f)] [] ⟨_,rfl⟩ (by
  rintro i hi τ ⟨z,rfl⟩
  exact ⟨_,rfl,⟨_,rfl⟩,by simp only [aj,aw,aG,ax,aJ,aH,List.set_cons_zero,gw (i:=i) (ha i hi).1 (ha i hi).2]⟩)
 rw [List.nil_append,show (as.map fun i => ah.int (i * f)) = (as.map (· * f)).map ah.int from by rw [List.map_map]; rfl] at hc
 have iN:iV 1 [2] [some (ah.int p),some (ah.loc n),some (.int f)] = [none,some (.int f)]:=rfl
 have hz:(as.map ah.int).length ≤ sizeLine:=by rw [aV,sizeLine_eq]; lia
 rw [sizeLine_eq] at hz
 have rr:=cj hp (st:=st ++ [.lst ((as.map (· * f)).map ah.int)]) (bw st _) (by rw [List.length_map,sizeLine_eq]; lia)
 refine ⟨[.lst ((as.map (· * f)).map ah.int)] ++ [.lst ((bP ((as.map (· * f)).map (·.fmod p))).map ah.int)],(st ++ [aQ.lst ((as.map (· * f)).map ah.int)]).length,?_,by simp only [List.length_append]; lia,?_⟩
 ·rw [← List.append_assoc]
  simp only [PM.b7,aR,aj,av,aY,az,au,bp,ju,gI,aA,ar,ay,aL,fh,jY,aJ,aT,aH,List.map_cons,List.map_nil,List.cons_append,List.nil_append,List.replicate_zero,Nat.reduceSub,List.length_cons,List.length_nil,Nat.reduceAdd,sizeLine_eq,kK h,iN,hc,if_pos hz,rr]
 ·rw [← List.append_assoc]; exact bj _ _
noncomputable def cI (as:List Int):List Int:=(fo 1 (as.length - 1)).map fun k => k * as.getD k.toNat 0
theorem ft {p:Int} (hp:¬ p = 0) {n:Nat} {as:List Int} {st:ag} (h:ak st n = some (as.map ah.int)) (hl:as.length ≤ 100000) :
  ∃ g k,PM.cW [.int p,.loc n] st = .ok (.loc k) (st ++ g) ∧ st.length ≤ k ∧ (st ++ g)[k]? = some (.lst ((bP ((cI as).map (·.fmod p))).map ah.int)):=by
 have Ly:=DF (st:=st) (i:=1) (j:=(as.length:Int)) (by decide) (by decide) (by lia) (by lia)
 rw [show ((as.length:Int) - 1).toNat = as.length - 1 by lia,l!] at Ly
 have hc:=f_ (g:=fun _ => True) (a:=bb 0) (e:=ai b9 (ae 0) (ai dQ (ae 1) (ae 0))) (st:=st) trivial (fun τ => ∃ z,τ = [z,some (.loc n)]) (fun i => .int (i * as.getD i.toNat 0)) (fo 1 (as.length - 1)) [none,some (.loc n)] [] ⟨_,rfl⟩ (by
  rintro i hi τ ⟨z,rfl⟩
  have hm:=t! hi
  exact ⟨_,rfl,⟨_,rfl⟩,by simp only [aj,aw,aG,ax,aJ,aT,aH,List.set_cons_zero,ee h (at_getD (ns:=as) (i:=i) (by lia) (by lia)),gw (i:=i) (by lia) (by lia)]⟩)
 rw [List.nil_append,show ((fo 1 (as.length - 1)).map fun i => ah.int (i * as.getD i.toNat 0)) = (cI as).map ah.int from by unfold cI; rw [List.map_map]; rfl] at hc
 have kl:=bf h
 rw [aV] at kl
 obtain ⟨L,hL⟩:∃ L:Int,L = (as.length:Int):=⟨_,rfl⟩
 rw [← hL] at kl Ly
 have iN:iV 1 [1] [some (ah.int p),some (ah.loc n)] = [none,some (.loc n)]:=rfl
 have Gy:(cI as).length = as.length - 1:=by unfold cI fo; rw [List.length_map,List.length_map,List.length_range]
 have hz:((fo 1 (as.length - 1)).map ah.int).length ≤ 16777216:=by rw [aV]; unfold fo; rw [List.length_map,List.length_range]; lia
 have rr:=cj hp (st:=st ++ [.lst ((cI as).map ah.int)]) (bw st _) (by rw [Gy,sizeLine_eq]; lia)
 refine ⟨[.lst ((cI as).map ah.int)] ++ [.lst ((bP ((cI as).map (·.fmod p))).map ah.int)],(st ++ [aQ.lst ((cI as).map ah.int)]).length,?_,by simp only [List.length_append]; lia,?_⟩
 ·rw [← List.append_assoc]
  simp only [PM.cW,aR,aj,av,aY,az,au,bp,ju,gI,a8,aA,ar,ay,aL,fh,rh,aJ,aT,aH,List.map_cons,List.map_nil,List.cons_append,List.nil_append,List.replicate_zero,Nat.reduceSub,List.length_cons,List.length_nil,Nat.reduceAdd,sizeLine_eq,kl,Ly,iN,hc,if_pos hz,rr]
 ·rw [← List.append_assoc]; exact bj _ _
end PG
namespace PG
open PySem PySem.Spec L2 MN
open PyProof.Rows hiding St kindOf
noncomputable abbrev Cf:=Nat → Int
noncomputable def cf (as:List Int):Cf:=fun k => as.getD k 0
noncomputable def eY (h:Cf):Cf
 | 0 => 0
 | k + 1 => h k
noncomputable def mF:List Int → Cf → Cf
 | [],_ => fun _ => 0
 | a :: as,g => fun k => a * g k + eY (mF as g) k
theorem jb (k:Nat):cf [] k = 0:=by simp [cf]
theorem ue (a:Int) (as:List Int) (k:Nat):cf (a :: as) (k + 1) = cf as k:=by simp [cf]
theorem rH (f g:Cf) (k:Nat):eY (fun j => f j + g j) k = eY f k + eY g k:=by cases k <;> simp [eY]
theorem xl (c:Int) (f:Cf) (k:Nat):eY (fun j => c * f j) k = c * eY f k:=by cases k <;> simp [eY]
theorem cV {f g:Cf} (h:∀ k,f k = g k) (k:Nat):eY f k = eY g k:=by cases k <;> simp [eY,h]
theorem bW {f g:Cf} (h:∀ k,f k = g k):∀ (as:List Int) (k:Nat),mF as f k = mF as g k
 | [],_ => rfl
 | a :: as,k => by unfold mF; rw [h k,cV (bW h as)]
theorem jH (f g:Cf):∀ (as:List Int) (k:Nat),mF as (fun j => f j + g j) k = mF as f k + mF as g k
 | [],_ => by simp [mF]
 | a :: as,k => by
  unfold mF
  rw [cV (jH f g as),rH,Int.mul_add]; lia
theorem oE (c:Int) (f:Cf):∀ (as:List Int) (k:Nat),mF as (fun j => c * f j) k = c * mF as f k
 | [],_ => by simp [mF]
 | a :: as,k => by
  unfold mF
  rw [cV (oE c f as),xl,Int.mul_add,← Int.mul_assoc,← Int.mul_assoc,Int.mul_comm a c]
theorem Bs (f:Cf):∀ (as:List Int) (k:Nat),mF as (eY f) k = eY (mF as f) k
 | [],k => by cases k <;> simp [mF,eY]
 | a :: as,k => by
  have h:=Bs f as
  cases k with
  | zero => simp [mF,eY]
  | succ k =>
   show a * f k + eY (mF as (eY f)) (k + 1) = a * f k + eY (mF as f) k
   rw [cV h]; rfl
theorem ig (g:Cf):∀ (as bs:List Int) (k:Nat),mF as (mF bs g) k = mF bs (mF as g) k
 | [],bs,k => by
  have h:∀ (bs:List Int) (k:Nat),mF bs (fun _ => 0) k = 0:=fun bs => by
   induction bs with
   | nil => intro k; rfl
   | cons b bs ih =>
    intro k
    unfold mF
    rw [cV ih]
    cases k <;> simp [eY]
  exact (h bs k).symm
 | a :: as,bs,k => by
  show a * mF bs g k + eY (mF as (mF bs g)) k = mF bs (fun k => a * g k + eY (mF as g) k) k
  rw [jH (fun k => a * g k) (eY (mF as g)),oE,Bs,cV (ig g as bs)]
noncomputable def one:Cf:=cf [1]
theorem fe:∀ (as:List Int) (k:Nat),mF as one k = cf as k
 | [],k => (jb k).symm
 | a :: as,k => by
  unfold mF
  rw [cV (fe as)]
  cases k with
  | zero => simp [eY,one,cf]
  | succ k => rw [ue]; simp [eY,one,cf]
theorem cJ (as bs:List Int) (k:Nat):mF as (cf bs) k = mF bs (cf as) k:=by
 rw [← bW (fe bs),← bW (fe as) bs]
 exact ig one as bs k
theorem qm (a:Int) (as bs:List Int) (k:Nat):∀ i,jr (a :: as) bs (i + 1) k = a * bs.getD k 0 + eY (fun j => jr as bs i j) k
 | 0 => by
  show jr (a :: as) bs 0 k + (if 0 ≤ k then _ else _) = _
  rw [if_pos (Nat.zero_le _)]
  cases k <;> simp [jr,eY]
 | i + 1 => by
  show jr (a :: as) bs (i + 1) k + (if i + 1 ≤ k then (a :: as).getD (i + 1) 0 * bs.getD (k - (i + 1)) 0 else 0) = _
  rw [qm a as bs k i,Int.add_assoc]
  congr 1
  cases k with
  | zero => simp [eY]
  | succ k =>
   show jr as bs i k + _ = jr as bs i k + (if i ≤ k then as.getD i 0 * bs.getD (k - i) 0 else 0)
   congr 1
   by_cases h:i ≤ k
   ·rw [if_pos (by lia),if_pos h,show k + 1 - (i + 1) = k - i by lia]; simp
   ·rw [if_neg (by lia),if_neg h]
theorem rK:∀ (as bs:List Int) (k:Nat),jr as bs as.length k = mF as (cf bs) k
 | [],bs,k => ud bs k 0
 | a :: as,bs,k => by
  rw [List.length_cons,qm]
  show _ = a * cf bs k + eY (mF as (cf bs)) k
  rw [cV (rK as bs)]; rfl
theorem xm:∀ (n:Nat) (ns:List Int),ns.length = n → ∀ k,cf (bP ns) k = cf ns k
 | 0,ns,h,k => by rw [List.eq_nil_of_length_eq_zero h]; rfl
 | n + 1,ns,h,k => by
  rcases gb ns with rfl | ⟨ms,x,rfl⟩
  ·rfl
  ·by_cases hx:x = 0
   ·subst hx
    rw [f?]
    have hl:ms.length = n:=by simpa using h
    rw [xm n ms hl]
    unfold cf
    exact (kT ms 1 k).symm
   ·rw [fJ (by simpa using hx)]
theorem vQ (ns:List Int) (k:Nat):cf (bP ns) k = cf ns k:=xm _ ns rfl k
theorem fu {ns:List Int} {k:Nat} (h:ns.length ≤ k):cf ns k = 0:=i' h
theorem uf {ns:List Int} (h:Cut ns) (hn:ns ≠ []):cf ns (ns.length - 1) ≠ 0:=by
 rcases gb ns with rfl | ⟨ms,x,rfl⟩
 ·exact absurd rfl hn
 ·intro z
  have hx:x = 0:=by simpa [cf] using z
  subst hx
  have h':bP (ms ++ [0]) = ms ++ [0]:=h
  rw [f?] at h'
  have:=fi ms
  rw [h',List.length_append,List.length_singleton] at this
  lia
theorem ij {ns:List Int} (h:Cut ns) {n:Nat} (hz:∀ k,n ≤ k → cf ns k = 0):ns.length ≤ n:=by
 rcases Nat.lt_or_ge n ns.length with q | q
 ·exfalso
  refine uf h (fun z => by rw [z] at q; simp at q) (hz _ (by lia))
 ·exact q
theorem D_ {as bs:List Int} (ha:Cut as) (hb:Cut bs) (h:∀ k,cf as k = cf bs k):as = bs:=by
 have h1:=ij ha (n:=bs.length) fun k hk => by rw [h]; exact fu hk
 have h2:=ij hb (n:=as.length) fun k hk => by rw [← h]; exact fu hk
 refine List.ext_getElem (by lia) fun i hi hj => ?_
 have:=h i
 unfold cf at this
 rw [List.getD_eq_getElem?_getD,List.getElem?_eq_getElem hi,List.getD_eq_getElem?_getD,List.getElem?_eq_getElem hj] at this
 exact this
theorem kW (f:Int → Int) (hf:f 0 = 0) (ns:List Int) (k:Nat):cf (ns.map f) k = f (cf ns k):=by
 unfold cf
 rw [List.getD_eq_getElem?_getD,List.getElem?_map,List.getD_eq_getElem?_getD]
 cases ns[k]? with
 | none => exact hf.symm
 | some v => rfl
theorem vR (n:Nat) (f:Nat → Int) (k:Nat):cf ((fo 0 n).map fun k => f k.toNat) k = if k < n then f k else 0:=by
 unfold cf fo
 rw [List.getD_eq_getElem?_getD,List.getElem?_map,List.getElem?_map]
 by_cases h:k < n
 ·rw [if_pos h,List.getElem?_range h]; simp
 ·rw [if_neg h,List.getElem?_eq_none (by rw [List.length_range]; lia)]; rfl
noncomputable def ba (p:Int) (f g:Cf):Prop:=∀ k,Cg p (f k) (g k)
theorem ba.refl (p:Int) (f:Cf):ba p f f:=fun k => Cg.refl p _
theorem ba.symm {p:Int} {f g:Cf} (h:ba p f g):ba p g f:=fun k => (h k).symm
theorem ba.trans {p:Int} {f g e:Cf} (h:ba p f g) (h':ba p g e):ba p f e:=fun k => (h k).trans (h' k)
theorem ba.of_eq {p:Int} {f g:Cf} (h:∀ k,f k = g k):ba p f g:=fun k => by rw [h]; exact Cg.refl p _
theorem ba.add {p:Int} {f g f' g':Cf} (h:ba p f g) (h':ba p f' g'):ba p (fun k => f k + f' k) (fun k => g k + g' k):=fun k => (h k).add (h' k)
theorem ba.eY {p:Int} {f g:Cf} (h:ba p f g):ba p (eY f) (eY g):=fun k => by
 cases k with
 | zero => exact Cg.refl p _
 | succ k => exact h k
theorem ba.mF {p:Int} {f g:Cf} (h:ba p f g):∀ as:List Int,ba p (mF as f) (mF as g)
 | [] => ba.refl p _
 | a :: as => fun k => ((h k).vO a).add ((h.mF as).eY k)
theorem ba.OH {p:Int} {as Jh:List Int} (h:ba p (cf as) (cf Jh)) (bs:List Int):ba p (PG.mF as (cf bs)) (PG.mF Jh (cf bs)) :=
 (ba.of_eq (cJ as bs)).trans ((h.mF bs).trans (ba.of_eq (cJ bs Jh)))
structure Row (p:Int) (as:List Int):Prop where
 cut:Cut as
 BW:∀ a ∈ as,0 ≤ a ∧ a < p
theorem Row.nil (p:Int):Row p []:=⟨rfl,fun a h => by simp at h⟩
theorem Row.B6 {p:Int} {as:List Int} (h:Row p as) (hp:0 < p) (k:Nat):0 ≤ cf as k ∧ cf as k < p:=by
 unfold cf
 rw [List.getD_eq_getElem?_getD]
 cases e:as[k]? with
 | none => exact ⟨Int.le_refl _,hp⟩
 | some v => exact h.BW v (List.mem_of_getElem? e)
theorem Row.of {p:Int} (hp:0 < p) (ns:List Int):Row p (bP (ns.map (·.fmod p))):=⟨rD _,xj (P:=fun a => 0 ≤ a ∧ a < p) fun n hn => by
 obtain ⟨m,_,rfl⟩:=List.mem_map.mp hn
 rw [cy hp]
 exact ⟨Int.emod_nonneg _ (by lia),Int.emod_lt_of_pos _ hp⟩⟩
theorem Row.cg {p:Int} (hp:0 < p) (ns:List Int):ba p (cf (bP (ns.map (·.fmod p)))) (cf ns):=fun k => by
 rw [vQ,kW _ (by rw [cy hp]; exact Int.zero_emod p)]
 exact Cg.mod hp _
theorem Row.ext {p:Int} (hp:0 < p) {as bs:List Int} (ha:Row p as) (hb:Row p bs) (h:ba p (cf as) (cf bs)):as = bs:=D_ ha.cut hb.cut fun k => by
 have:=Cg.eq hp (h k)
 rw [c5 (ha.B6 hp k).1 (ha.B6 hp k).2,c5 (hb.B6 hp k).1 (hb.B6 hp k).2] at this
 exact this
end PG
namespace PG
open PySem PySem.Spec L2 MN
open PyProof.Rows hiding St kindOf
theorem take_snoc {ns:List Int} {k:Nat} (h:k < ns.length):ns.take (k + 1) = ns.take k ++ [ns.getD k 0]:=by
 rw [List.take_succ,List.getElem?_eq_getElem h,List.getD_eq_getElem?_getD,List.getElem?_eq_getElem h]; rfl
theorem yQ {ns:List Int} {k:Nat} (h:k ≤ ns.length):D8 ns none (some (k:Int)) = ns.take k:=by
 unfold D8
 rw [HT.zI,HT.Ct,List.drop_zero,show min k ns.length - 0 = k by lia]
noncomputable abbrev QW:MT:=dE (bX (ai qV (ae 1) (mC (.int 0)))) (bX (ai dP (ai dQ (ae 0) (ai gD (ae 1) (mC (.int 1)))) (mC (.int 0))))
noncomputable abbrev S9:MB:=aU 1 (ai gD (ae 1) (mC (.int 1)))
theorem vS {n:Nat} {ns:List Int} {st:ag} (h:ak st n = some (ns.map ah.int)):PM.jV [.loc n] st = .ok (.loc st.length) (st ++ [.lst ((bP ns).map ah.int)]):=by
 obtain ⟨μ',aC,e,rfl,k,hk,rfl,hc⟩:=dH (t:=QW) (body:=S9)
  (fun μ s => s = st ∧ ∃ k:Nat,k ≤ ns.length ∧ μ = [some (.loc n),some (.int k)] ∧ bP (ns.take k) = bP ns) (fun μ _ => Fb μ)
  (fun μ s => s = st ∧ ∃ k:Nat,k ≤ ns.length ∧ μ = [some (.loc n),some (.int k)] ∧ ns.take k = bP ns)
  (by
   rintro μ s ⟨rfl,k,hk,rfl,hc⟩
   cases k with
   | zero =>
    have z:decide ((0:Int) < ((0:Nat):Int)) = false:=rfl
    refine .inl ⟨s,?_,rfl,0,hk,rfl,?_⟩
    ·simp only [aj,aw,aG,ax,fX,a8,aF,aE,cH,e_,aJ,aH,z]
    ·rw [List.take_zero] at hc ⊢; exact hc
   | succ k =>
    have z:decide ((0:Int) < ((k + 1:Nat):Int)) = true:=decide_eq_true (by lia)
    have hx:=ee (i:=((k + 1:Nat):Int) - 1) h (m? (R:=ns) (k:=k) (by lia) (by lia))
    rw [take_snoc (by lia)] at hc
    have uU:QW [some (.loc n),some (.int ((k + 1:Nat):Int))] s = .ok (ns.getD k 0 == 0) s:=by simp only [aj,aw,aG,ax,dB,a8,aF,aE,cH,f7,e_,bc,aJ,aT,aH,z,hx]
    cases hz:ns.getD k 0 == 0 with
    | true =>
     rw [hz] at uU
     have:ns.getD k 0 = 0:=by simpa using hz
     rw [this,f?] at hc
     refine .inr ⟨s,[some (.loc n),some (.int (k:Int))],s,uU,.inl ?_,⟨rfl,k,by lia,rfl,hc⟩,?_⟩
     ·simp only [aj,av,aw,aG,ax,bV,a8,bB,f7,aJ,aH,List.set_cons_zero,List.set_cons_succ]
      rw [show ((k + 1:Nat):Int) - 1 = (k:Int) by lia]
     ·show ((k:Int)).toNat < (((k + 1:Nat):Int)).toNat
      lia
    | false =>
     rw [hz] at uU
     rw [fJ hz] at hc
     exact .inl ⟨s,uU,rfl,k + 1,hk,rfl,by rw [take_snoc (by lia)]; exact hc⟩)
  [some (.loc n),some (.int ns.length)] st ⟨rfl,ns.length,Nat.le_refl _,rfl,by rw [List.take_length]⟩
 have sl:=HJ (l:=none) (h:=some (k:Int)) h
 rw [yP,yQ hk,hc] at sl
 simp only [PM.jV,aR,aj,av,aD,aY,az,au,bp,bV,aA,ar,ay,aB,aL,bB,aJ,aT,aH,List.map_cons,List.map_nil,List.cons_append,List.nil_append,List.replicate_succ,List.replicate_zero,List.set_cons_zero,List.set_cons_succ,Nat.reduceSub,List.length_cons,List.length_nil,Nat.reduceAdd,K',Ow,La,Lb,A7,A8,Ox,bf h,aV,e,sl]
noncomputable def Sm (ns:List Int):Prop:=∀ n ∈ ns,-(2 ^ 64) < n ∧ n < 2 ^ 64
theorem jv {p:Int} (hp:eQ p = true) (c:Int) {z:Int} (z0:0 ≤ z) (z1:z ≤ 1000) (st:ag) :
  ∃ g k D,PM.fH [.int p,.int c,.int z] st = .ok (.loc k) (st ++ g) ∧ st.length ≤ k ∧ (st ++ g)[k]? = some (.lst (D.map ah.int)) ∧ D.length ≤ z.toNat ∧ (∀ d ∈ D,0 ≤ d ∧ d < p) ∧ Cut D:=by
 have hr:=bh hp
 have Ly:=DE (st:=st ++ [.lst []]) (j:=z) (by lia) (by lia)
 obtain ⟨μ',aC,e,R,rfl,⟨y4,y5,rfl⟩,hR,hb⟩:=gT (g:=fun _ => True) (a:=bb 4) (body:=aK (aU 5 (ai cq (ai cS (ae 1) (ai b9 (mC (.int 7919)) (ae 4))) (mC (.int 2147483647)))) (aK (aU 5 (ai cq (ai b9 (ai cq (ai b9 (ae 5) (ae 5)) (mC (.int 2147483629))) (mC (.int 48271))) (mC (.int 2147483647)))) (eh (kD ic (ae 3) (aa (ai cq (ai gu (ae 5) (ai cS (mC (.int 1)) (ae 4))) (ae 0)) aq)))))
  (fun i μ s' => ∃ R:List Int,s' = st ++ [.lst (R.map ah.int)] ∧ (∃ x4 x5,μ = [some (.int p),some (.int c),some (.int z),some (.loc st.length),x4,x5]) ∧ R.length = i ∧ ∀ d ∈ R,0 ≤ d ∧ d < p)
  (cT 0 z.toNat) 0 [some (.int p),some (.int c),some (.int z),some (.loc st.length),none,none] (st ++ [.lst []])
  (by
   rintro i u μ s' hu ⟨R,rfl,⟨x4,x5,rfl⟩,hR,hb⟩
   rw [Nat.zero_add] at hR ⊢
   refine ⟨trivial,?_⟩
   rw [l!] at hu
   obtain ⟨k,hk,rfl⟩:=List.mem_map.mp (List.mem_of_getElem? hu)
   have hm:=t! hk
   have hi:i < z.toNat:=by have:=bJ hu; rw [List.length_map] at this; unfold fo at this; rw [List.length_map,List.length_range] at this; exact this
   have dk:Dz (1 + k):=Bp (by lia) (by lia)
   have q1:=e! (m:=2147483647) (by decide) (c + 7919 * k)
   generalize hx:(c + 7919 * k).fmod 2147483647 = x at q1
   have q2:=e! (m:=2147483629) (by decide) (x * x)
   generalize hy:((x * x).fmod 2147483629 * 48271).fmod 2147483647 = y
   have q3:=e! (m:=p) (by lia) (y.fdiv (1 + k))
   have ap:=yB (v:=.int ((y.fdiv (1 + k)).fmod p)) (bj st (R.map ah.int)) (by rw [aV,sizeLine_eq]; lia)
   rw [oq,show R.map ah.int ++ [.int ((y.fdiv (1 + k)).fmod p)] = (R ++ [(y.fdiv (1 + k)).fmod p]).map ah.int from by simp] at ap
   refine ⟨[some (.int p),some (.int c),some (.int z),some (.loc st.length),some (.int k),x5],rfl,[some (.int p),some (.int c),some (.int z),some (.loc st.length),some (.int k),some (.int y)],st ++ [.lst ((R ++ [(y.fdiv (1 + k)).fmod p]).map ah.int)],.inl ?_,R ++ [(y.fdiv (1 + k)).fmod p],rfl,⟨_,_,rfl⟩,by rw [List.length_append,hR]; rfl,fun d hd => ?_⟩
   ·simp only [aj,av,aD,aw,aG,ax,az,au,dy,bV,a8,aA,ar,aB,bA,bB,d?,aJ,aT,aH,List.set_cons_zero,List.set_cons_succ,vG,Lc,gw (i:=7919) (by decide) (by decide),bK (j:=2147483647) (by decide),hx,gw (i:=x) (by lia) (by lia),bK (j:=2147483629) (by decide),mul_r (j:=48271) (by decide) (by decide),hy,A9 (bj st (R.map ah.int)),div_ii dk,bK (fq hp),ap]
   ·rcases List.mem_append.mp hd with hd | hd
    ·exact hb d hd
    ·rw [List.mem_singleton.mp hd]; exact q3)
  (fun _ _ _ => trivial) ⟨[],rfl,⟨_,_,rfl⟩,rfl,fun d hd => by cases hd⟩
 have lc:=vS (a! (bj st (R.map ah.int)))
 have QV:R.length ≤ z.toNat:=by
  rw [hR]; unfold cT; rw [List.length_map,List.length_range]; lia
 refine ⟨[.lst (R.map ah.int)] ++ [.lst ((bP R).map ah.int)],(st ++ [aQ.lst (R.map ah.int)]).length,bP R,?_,by simp only [List.length_append]; lia,by rw [← List.append_assoc]; exact bj _ _,Nat.le_trans (fi R) QV,xj hb,rD R⟩
 rw [← List.append_assoc]
 simp only [PM.fH,aR,aj,av,aD,aY,az,au,i6,bp,bV,qc,aA,ar,fY,ay,aB,aL,bB,kJ,DD,aJ,aT,aH,List.map_cons,List.map_nil,List.cons_append,List.nil_append,List.replicate_succ,List.replicate_zero,List.set_cons_zero,List.set_cons_succ,Nat.reduceSub,List.length_cons,List.length_nil,Nat.reduceAdd,sizeLine_eq,Nat.reduceLeDiff,↓reduceIte,Ly,e,lc]
theorem qo {g:ag → Prop} {a:AS} {e:ME} {u y:ah} {us:List ah} {τ τ1:MN.Env} {st st1:ag} {ys:List ah} (hg:g st) (h1:a u τ = some τ1) (h2:e τ1 st = .ok y st1):c9 g a cO e (u :: us) τ st ys = c9 g a cO e us τ1 st1 (ys ++ [y]):=by
 rw [c9]
 rw [if_pos hg,h1]
 dsimp only [cO]
 rw [h2]
theorem yR {g:ag → Prop} {a:AS} {c:MT} {e:ME} {τ:MN.Env} {st:ag} {ys:List ah} (hg:g st):c9 g a c e [] τ st ys = .ok ys st:=by
 rw [c9,if_pos hg]
end PG
namespace PG
open PySem PySem.Spec L2 MN
open PyProof.Rows hiding St kindOf
noncomputable abbrev aW (R:List Int):aQ:=.lst (R.map ah.int)
noncomputable def jI (s:ag) (ls:List Nat) (Rs:List (List Int)):Prop:=ls.length = Rs.length ∧ ∀ (i l:Nat) (R:List Int),ls[i]? = some l → Rs[i]? = some R → s[l]? = some (aW R)
end PG
namespace PG
open PySem PySem.Spec L2 MN
open PyProof.Rows hiding St kindOf
noncomputable def Fr (st s:ag):Prop:=∀ (m:Nat) (c:aQ),st[m]? = some c → s[m]? = some c
theorem Fr.refl (st:ag):Fr st st:=fun _ _ h => h
theorem Fr.trans {a b c:ag} (h:Fr a b) (h':Fr b c):Fr a c:=fun m k q => h' m k (h m k q)
theorem Fr.app (st g:ag):Fr st (st ++ g):=fun _ _ h => bE h g
theorem Fr.more {a b:ag} (h:Fr a b) (g:ag):Fr a (b ++ g):=h.trans (Fr.app b g)
theorem Fr.set {a b:ag} (h:Fr a b) {L:Nat} (hL:a.length ≤ L) (c:aQ):Fr a (b.set L c):=fun m k q => l7 (h m k q) (by have:=bJ q; lia)
theorem Fr.it {a b:ag} (h:Fr a b) {n:Nat} {us:List ah} (hi:ak a n = some us):ak b n = some us:=by
 unfold ak at hi ⊢
 cases z:a[n]? with
 | none => rw [z] at hi; cases hi
 | some c => rw [z] at hi; rw [h n c z]; exact hi
theorem Fr.len {a b:ag} (h:Fr a b):a.length ≤ b.length:=by
 rcases Nat.eq_zero_or_pos a.length with z | z
 ·lia
 ·have:=bJ (h (a.length - 1) _ (List.getElem?_eq_getElem (by lia)))
  lia
open Classical in
noncomputable def D! (p n:Int):Int:=if h:∃ t:Int,0 < t ∧ t < p ∧ (t * n) % p = 1 then h.choose else 0
theorem Bt {p n t u:Int} (hp:0 < p) (h1:0 < t ∧ t < p ∧ (t * n) % p = 1) (h2:0 < u ∧ u < p ∧ (u * n) % p = 1):t = u:=by
 obtain ⟨a1,a2,a3⟩:=h1
 obtain ⟨b1,b2,b3⟩:=h2
 have c1:Cg p (t * n) 1:=⟨t * n / p,by have:=Int.emod_add_mul_ediv (t * n) p; lia⟩
 have c2:Cg p (u * n) 1:=⟨u * n / p,by have:=Int.emod_add_mul_ediv (u * n) p; lia⟩
 have c3:Cg p t u:=by
  have e1:Cg p (t * (u * n)) (t * 1):=c2.vO t
  have e2:Cg p (u * (t * n)) (u * 1):=c1.vO u
  have e3:t * (u * n) = u * (t * n):=by rw [← Int.mul_assoc,← Int.mul_assoc,Int.mul_comm t u]
  rw [e3,Int.mul_one] at e1
  rw [Int.mul_one] at e2
  exact e1.symm.trans e2
 have:=Cg.eq hp c3
 rwa [c5 (by lia) a2,c5 (by lia) b2] at this
theorem xn {p n t:Int} (hp:0 < p) (h:0 < t ∧ t < p ∧ (t * n) % p = 1):D! p n = t:=by
 unfold D!
 rw [dif_pos ⟨t,h⟩]
 exact Bt hp (Exists.choose_spec (p:=fun t:Int => 0 < t ∧ t < p ∧ (t * n) % p = 1) ⟨t,h⟩) h
noncomputable def aX (bs:List Int):Int:=bs.getD (bs.length - 1) 0
noncomputable def jw (bs:List Int) (s:Nat) (o:Int) (R:List Int):List Int:=(fo 0 R.length).map fun k => R.getD k.toNat 0 - (if s ≤ k.toNat then o * bs.getD (k.toNat - s) 0 else 0)
noncomputable def dv (p c:Int) (as bs:List Int) (steps:Nat):Nat → List Int × List Int
 | 0 => (List.replicate steps 0,as)
 | i + 1 => ((dv p c as bs steps i).1.set (steps - 1 - i) (((dv p c as bs steps i).2.getD (steps - 1 - i + bs.length - 1) 0 * c).fmod p),jw bs (steps - 1 - i) (((dv p c as bs steps i).2.getD (steps - 1 - i + bs.length - 1) 0 * c).fmod p) (dv p c as bs steps i).2)
theorem qp (bs:List Int) (s:Nat) (o:Int) (R:List Int):(jw bs s o R).length = R.length:=by unfold jw fo; rw [List.length_map,List.length_map,List.length_range]
theorem Bu (bs:List Int) (s:Nat) (o:Int) (R:List Int) (k:Nat):cf (jw bs s o R) k = if k < R.length then cf R k - (if s ≤ k then o * cf bs (k - s) else 0) else 0:=by
 unfold jw
 rw [vR R.length (fun k => R.getD k 0 - (if s ≤ k then o * bs.getD (k - s) 0 else 0))]
 rfl
theorem rN (p c:Int) (as bs:List Int) (steps:Nat):∀ i,(dv p c as bs steps i).1.length = steps ∧ (dv p c as bs steps i).2.length = as.length
 | 0 => ⟨List.length_replicate,rfl⟩
 | i + 1 => by
  have h:=rN p c as bs steps i
  unfold dv
  exact ⟨by rw [List.length_set]; exact h.1,by rw [qp]; exact h.2⟩
theorem Bv:∀ (Q:List Int) (s:Nat) (o:Int) (g:Cf) (k:Nat),s < Q.length → cf Q s = 0 → mF (Q.set s o) g k = mF Q g k + (if s ≤ k then o * g (k - s) else 0)
 | [],s,_,_,_,h,_ => by simp at h
 | q :: Q,0,o,g,k,_,h0 => by
  have:q = 0:=h0
  subst this
  rw [List.set_cons_zero,if_pos (Nat.zero_le _)]
  show o * g k + eY (mF Q g) k = 0 * g k + eY (mF Q g) k + o * g (k - 0)
  rw [Int.zero_mul,Nat.sub_zero]; lia
 | q :: Q,s + 1,o,g,k,h,h0 => by
  rw [List.set_cons_succ]
  show q * g k + eY (mF (Q.set s o) g) k = q * g k + eY (mF Q g) k + _
  rw [ue] at h0
  have ih:=Bv Q s o g
  cases k with
  | zero => rw [if_neg (by lia)]; simp [eY]
  | succ k =>
   show q * g (k + 1) + mF (Q.set s o) g k = q * g (k + 1) + mF Q g k + _
   rw [ih k (by simpa using h) h0]
   by_cases z:s ≤ k
   ·rw [if_pos z,if_pos (by lia),show k + 1 - (s + 1) = k - s by lia]; lia
   ·rw [if_neg z,if_neg (by lia)]; lia
theorem ug (g:Cf):∀ (n k:Nat),mF (List.replicate n 0) g k = 0
 | 0,_ => rfl
 | n + 1,k => by
  rw [List.replicate_succ]
  unfold mF
  rw [cV (ug g n)]
  cases k <;> simp [eY]
theorem uh (n k:Nat):cf (List.replicate n 0) k = 0:=by
 unfold cf
 rw [List.getD_eq_getElem?_getD,List.getElem?_replicate]; split <;> rfl
theorem Bw {Q:List Int} {s:Nat} (h:s < Q.length) (o:Int) (k:Nat):cf (Q.set s o) k = if k = s then o else cf Q k:=oD h k
structure OI (p:Int) (as bs:List Int) (steps i:Nat) (Q R:List Int):Prop where
 Ip:Q.length = steps
 Iq:R.length = as.length
 zero:∀ s,s < steps - i → cf Q s = 0
 BW:∀ s,0 ≤ cf Q s ∧ cf Q s < p
 eq:∀ k,cf as k = mF Q (cf bs) k + cf R k
 gone:∀ k,steps - i + bs.length - 1 ≤ k → Cg p (cf R k) 0
theorem Fd {p c:Int} (hp:0 < p) {as bs:List Int} (hb:bs ≠ []) (hc:(c * aX bs) % p = 1) {steps:Nat} (hs:steps = as.length + 1 - bs.length):∀ i,i ≤ steps → OI p as bs steps i (dv p c as bs steps i).1 (dv p c as bs steps i).2
 | 0,_ => ⟨List.length_replicate,rfl,fun s _ => uh _ _,fun s => by show 0 ≤ cf (List.replicate steps 0) s ∧ _; rw [show (dv p c as bs steps 0).1 = List.replicate steps 0 from rfl,uh]; exact ⟨Int.le_refl _,hp⟩,fun k => by
   rw [show (dv p c as bs steps 0).1 = List.replicate steps 0 from rfl,ug,Int.zero_add]; rfl,fun k hk => by
   have D9:0 < bs.length:=List.length_pos_iff.mpr hb
   rw [show (dv p c as bs steps 0).2 = as from rfl,fu (by lia)]; exact Cg.refl p _⟩
 | i + 1,hi => by
  have ih:=Fd hp hb hc hs i (by lia)
  obtain ⟨Q,hQ⟩:∃ Q,(dv p c as bs steps i).1 = Q:=⟨_,rfl⟩
  obtain ⟨R,hR⟩:∃ R,(dv p c as bs steps i).2 = R:=⟨_,rfl⟩
  obtain ⟨o,ho⟩:∃ o,(R.getD (steps - 1 - i + bs.length - 1) 0 * c).fmod p = o:=⟨_,rfl⟩
  obtain ⟨s,Ji⟩:∃ s,steps - 1 - i = s:=⟨_,rfl⟩
  rw [hQ,hR] at ih
  have e1:(dv p c as bs steps (i + 1)).1 = Q.set s o:=by unfold dv; rw [hQ,hR,ho,Ji]
  have e2:(dv p c as bs steps (i + 1)).2 = jw bs s o R:=by unfold dv; rw [hR,ho,Ji]
  rw [e1,e2]
  have D9:0 < bs.length:=List.length_pos_iff.mpr hb
  have Gy:s < Q.length:=by rw [ih.Ip]; lia
  have QX:0 ≤ o ∧ o < p:=by rw [← ho,cy hp]; exact ⟨Int.emod_nonneg _ (by lia),Int.emod_lt_of_pos _ hp⟩
  have OJ:∀ k,as.length ≤ k → cf R k = 0:=fun k hk => fu (by rw [ih.Iq]; exact hk)
  have QY:∀ k,cf (jw bs s o R) k = cf R k - (if s ≤ k then o * cf bs (k - s) else 0):=fun k => by
   rw [Bu]
   split
   ·rfl
   ·rename_i q
    rw [ih.Iq] at q
    rw [OJ k (by lia)]
    split
    ·rw [fu (by lia)]; simp
    ·rfl
  refine ⟨by rw [List.length_set]; exact ih.Ip,by rw [qp]; exact ih.Iq,fun t ht => ?_,fun t => ?_,fun k => ?_,fun k hk => ?_⟩
  ·rw [Bw Gy,if_neg (by lia)]; exact ih.zero t (by lia)
  ·rw [Bw Gy]
   split
   ·exact QX
   ·exact ih.BW t
  ·rw [Bv Q s o (cf bs) k Gy (ih.zero s (by lia)),QY,ih.eq k]; lia
  ·rw [QY]
   by_cases S_:k = s + bs.length - 1
   ·subst S_
    rw [if_pos (by lia),show s + bs.length - 1 - s = bs.length - 1 by lia]
    have co:Cg p o (cf R (s + bs.length - 1) * c):=by rw [← ho,Ji]; exact Cg.mod hp _
    have cl:Cg p (c * aX bs) 1:=⟨c * aX bs / p,by have:=Int.emod_add_mul_ediv (c * aX bs) p; lia⟩
    have c1:Cg p (o * cf bs (bs.length - 1)) (cf R (s + bs.length - 1)):=by
     have z:=(co.D7 (aX bs)).trans (by rw [Int.mul_assoc]; exact cl.vO (cf R (s + bs.length - 1)))
     rw [Int.mul_one] at z
     exact z
    have c2:=(Cg.refl p (cf R (s + bs.length - 1))).add c1.neg
    rw [show cf R (s + bs.length - 1) + -cf R (s + bs.length - 1) = 0 by lia] at c2
    rw [show cf R (s + bs.length - 1) - o * cf bs (bs.length - 1) = cf R (s + bs.length - 1) + -(o * cf bs (bs.length - 1)) by lia]
    exact c2
   ·rw [show (if s ≤ k then o * cf bs (k - s) else 0) = 0 from by rw [if_pos (by lia),fu (by lia),Int.mul_zero],Int.sub_zero]
    exact ih.gone k (by lia)
noncomputable def c6 (p:Int) (as bs:List Int):List Int:=bP ((dv p (D! p (aX bs)) as bs (as.length + 1 - bs.length) (as.length + 1 - bs.length)).1.map (·.fmod p))
noncomputable def ik (p:Int) (as bs:List Int):List Int:=bP ((dv p (D! p (aX bs)) as bs (as.length + 1 - bs.length) (as.length + 1 - bs.length)).2.map (·.fmod p))
theorem d_ {p:Int} (hp:eQ p = true) {as bs:List Int} (hb:bs ≠ []) (hl:¬ aX bs % p = 0) :
  Row p (c6 p as bs) ∧ Row p (ik p as bs) ∧ (ik p as bs).length < bs.length ∧ ba p (cf as) (fun k => mF (c6 p as bs) (cf bs) k + cf (ik p as bs) k) ∧ (c6 p as bs).length ≤ as.length + 1 - bs.length:=by
 have hr:=bh hp
 have fC:0 < p:=by lia
 obtain ⟨g,t,_,h1,h2,h3⟩:=eT hp hl []
 have ei:=xn fC ⟨h1,h2,h3⟩
 have D:=Fd (c:=t) fC (as:=as) hb h3 (steps:=as.length + 1 - bs.length) rfl (as.length + 1 - bs.length) (Nat.le_refl _)
 unfold c6 ik
 rw [ei]
 revert D
 generalize (dv p t as bs (as.length + 1 - bs.length) (as.length + 1 - bs.length)).1 = Q
 generalize (dv p t as bs (as.length + 1 - bs.length) (as.length + 1 - bs.length)).2 = R
 intro D
 have D9:0 < bs.length:=List.length_pos_iff.mpr hb
 refine ⟨Row.of fC Q,Row.of fC R,?_,?_,?_⟩
 ·have:=ij (rD (R.map (·.fmod p))) (n:=bs.length - 1) fun k hk => by
   rw [vQ,kW _ (by rw [cy fC]; exact Int.zero_emod p)]
   have z:=Cg.eq fC (D.gone k (by lia))
   rw [z,cy fC]; exact Int.zero_emod p
  lia
 ·refine (ba.of_eq D.eq).trans (ba.add ?_ ?_)
  ·exact (ba.OH (Row.cg fC Q) bs).symm
  ·exact (Row.cg fC R).symm
 ·refine Nat.le_trans (fi _) ?_
  rw [List.length_map,D.Ip]; exact Nat.le_refl _
end PG
namespace PG
open PySem PySem.Spec L2 MN
open PyProof.Rows hiding St kindOf
theorem nc {bs:List Int} (hb:bs ≠ []):L2.g! (bs.map ah.int) (-1) = some (.int (aX bs)):=by
 have D9:0 < bs.length:=List.length_pos_iff.mpr hb
 unfold L2.g! L2.sV
 rw [aV,if_neg (by decide),if_pos (by lia),Option.bind_some,show (-1 + (bs.length:Int)).toNat = bs.length - 1 by lia,List.getElem?_map,List.getElem?_eq_getElem (by lia)]
 unfold aX
 rw [List.getD_eq_getElem?_getD,List.getElem?_eq_getElem (by lia)]; rfl
noncomputable def sJ (a b:Nat) (st s:ag):Prop:=st.length = s.length ∧ ∀ (m:Nat) (c:aQ),m ≠ a → m ≠ b → st[m]? = some c → s[m]? = some c
theorem sJ.refl (a b:Nat) (st:ag):sJ a b st st:=⟨rfl,fun _ _ _ _ h => h⟩
theorem sJ.trans {a b:Nat} {x y z:ag} (h:sJ a b x y) (h':sJ a b y z):sJ a b x z:=⟨h.1.trans h'.1,fun m c h1 h2 h3 => h'.2 m c h1 h2 (h.2 m c h1 h2 h3)⟩
theorem sJ.OK {a b:Nat} {x y:ag} (h:sJ a b x y) (c:aQ):sJ a b x (y.set a c):=⟨by rw [List.length_set]; exact h.1,fun m k h1 h2 h3 => l7 (h.2 m k h1 h2 h3) (fun z => h1 z.symm)⟩
theorem sJ.OL {a b:Nat} {x y:ag} (h:sJ a b x y) (c:aQ):sJ a b x (y.set b c):=⟨by rw [List.length_set]; exact h.1,fun m k h1 h2 h3 => l7 (h.2 m k h1 h2 h3) (fun z => h2 z.symm)⟩
noncomputable abbrev Ir:MB:=qa Du (ae 3) (ai cS (ae 7) (ae 9)) (ai b9 (ae 8) (ae 10))
theorem vT {m L K:Nat} {bs R0:List Int} {s:Nat} {o:Int} {st:ag} {x0 x1 x4 x5 x6 x9 x10:Option ah} (lm:st[m]? = some (aW bs)) (lL:st[L]? = some (aW R0)) (Lz:m ≠ L) (Jj:m ≠ K) (MM:L ≠ K) (ho:-(2 ^ 64) < o ∧ o < 2 ^ 64) (hl:s + bs.length ≤ R0.length) :
  ∃ (aC:ag) (y9 yS:Option ah),forL (fun bS => ak bS m = some (bs.map ah.int)) (iT [bb 9,bb 10]) Ir (iB 0 (bs.map ah.int)) [x0,x1,some (.loc m),some (.loc L),x4,x5,x6,some (.int s),some (.int o),x9,x10] st
   = .nx [x0,x1,some (.loc m),some (.loc L),x4,x5,x6,some (.int s),some (.int o),y9,yS] aC ∧ aC[L]? = some (aW (jw bs s o R0)) ∧ sJ L K st aC ∧ ∀ c,st[K]? = some c → aC[K]? = some c:=by
 obtain ⟨μ',aC,e,R,lR,⟨y9,yS,rfl⟩,hR,hv,hF,hK⟩:=gT (g:=fun bS => ak bS m = some (bs.map ah.int)) (a:=iT [bb 9,bb 10]) (body:=Ir)
  (fun j μ s' => ∃ R:List Int,s'[L]? = some (aW R) ∧ (∃ x9 x10,μ = [x0,x1,some (.loc m),some (.loc L),x4,x5,x6,some (.int s),some (.int o),x9,x10]) ∧ R.length = R0.length ∧ (∀ k,R.getD k 0 = R0.getD k 0 - (if s ≤ k ∧ k < s + j then o * bs.getD (k - s) 0 else 0)) ∧ sJ L K st s' ∧ ∀ c,st[K]? = some c → s'[K]? = some c)
  (iB 0 (bs.map ah.int)) 0 [x0,x1,some (.loc m),some (.loc L),x4,x5,x6,some (.int s),some (.int o),x9,x10] st
  (by
   rintro j u μ s' hu ⟨R,lR,⟨x9,x10,rfl⟩,hR,hv,hF,hK⟩
   rw [Nat.zero_add] at hv ⊢
   refine ⟨a! (hF.2 m _ Lz Jj lm),?_⟩
   obtain ⟨w,hw,rfl⟩:=iW _ 0 j u hu
   rw [Nat.zero_add]
   have hj:j < bs.length:=by have:=bJ hw; rw [aV] at this; exact this
   have ew:w = .int (bs.getD j 0):=by
    rw [List.getElem?_map,List.getElem?_eq_getElem hj] at hw
    rw [← Option.some.inj hw,List.getD_eq_getElem?_getD,List.getElem?_eq_getElem hj]; rfl
   subst ew
   have hk:s + j < R.length:=by lia
   have gx:=A_ (a! lR) (m? (R:=R) (i:=(s:Int) + (j:Int)) (k:=s + j) (by lia) hk)
   have sx:=rj (v:=.int (R.getD (s + j) 0 - o * bs.getD j 0)) (k:=(s:Int) + (j:Int)) (j:=s + j) lR (by rw [aV]; have:=rF hk; rw [show (s:Int) + (j:Int) = ((s + j:Nat):Int) by lia]; exact this)
   rw [← List.map_set] at sx
   refine ⟨[x0,x1,some (.loc m),some (.loc L),x4,x5,x6,some (.int s),some (.int o),some (.int j),some (.int (bs.getD j 0))],rfl,[x0,x1,some (.loc m),some (.loc L),x4,x5,x6,some (.int s),some (.int o),some (.int j),some (.int (bs.getD j 0))],s'.set L (aW (R.set (s + j) (R.getD (s + j) 0 - o * bs.getD j 0))),.inl ?_,R.set (s + j) (R.getD (s + j) 0 - o * bs.getD j 0),rp lR,⟨_,_,rfl⟩,by rw [List.length_set]; exact hR,fun k => ?_,hF.OK _,fun c hc => l7 (hK c hc) MM⟩
   ·simp only [aj,av,aw,aG,ax,d?,aJ,aT,aH,oo,xc,Lg,E5,E6,E7,E8,HW,gx,gw (i:=o) ho.1 ho.2,sx]
   ·rw [oD hk]
    by_cases Lx:k = s + j
    ·subst Lx
     rw [if_pos rfl,hv,if_neg (by lia),if_pos (by lia),show s + j - s = j by lia]; lia
    ·rw [if_neg Lx,hv]
     congr 1
     by_cases h1:s ≤ k ∧ k < s + j
     ·rw [if_pos h1,if_pos (by lia)]
     ·rw [if_neg h1,if_neg (by lia)])
  (fun μ s' ⟨R,_,_,_,_,hF,_⟩ => a! (hF.2 m _ Lz Jj lm))
  ⟨R0,lL,⟨_,_,rfl⟩,rfl,fun k => by rw [if_neg (by lia),Int.sub_zero],sJ.refl _ _ _,fun _ h => h⟩
 refine ⟨aC,y9,yS,e,?_,hF,hK⟩
 have:R = jw bs s o R0:=by
  rw [xk (f:=fun k => R0.getD k 0 - (if s ≤ k then o * bs.getD (k - s) 0 else 0)) hR fun k hk => ?_]
  ·rfl
  ·rw [hv,Nat.zero_add,gO,aV]
   congr 1
   by_cases h1:s ≤ k
   ·by_cases h2:k < s + bs.length
    ·rw [if_pos ⟨h1,h2⟩,if_pos h1]
    ·rw [if_neg (by lia),if_pos h1,i' (by lia),Int.mul_zero]
   ·rw [if_neg (by lia),if_neg h1]
 rw [← this]; exact lR
noncomputable abbrev Fe:MB:=aK (aU 8 (ai cq (ai b9 (ai dQ (ae 3) (ai gD (ai cS (ae 7) (ao bY (aa (ae 2) aq))) (mC (.int 1)))) (ae 4)) (ae 0))) (aK (wW (ae 6) (ae 7) (ae 8)) (pz (iX (aa (ae 2) aq)) (iT [(bb 9),(bb 10)]) Ir))
theorem Bx {hi:Int} {n i:Nat} {u:ah} (h:(iA hi n)[i]? = some u):i < n ∧ u = .int (hi - (i:Int)):=by
 unfold iA at h
 have zX:=bJ h
 rw [List.length_map,List.length_range] at zX
 rw [List.getElem?_map,List.getElem?_range zX] at h
 exact ⟨zX,(Option.some.inj h).symm⟩
theorem yT (hi:Int) (n:Nat):(iA hi n).length = n:=by unfold iA; rw [List.length_map,List.length_range]
theorem vU {p c:Int} (hp:eQ p = true) (hc:0 < c ∧ c < p) {n m L K:Nat} {as bs:List Int} {st:ag} {x5:Option ah} {steps:Nat} (hs:steps = as.length + 1 - bs.length) (hb:bs ≠ []) (lm:st[m]? = some (aW bs)) (lL:st[L]? = some (aW as)) (lK:st[K]? = some (aW (List.replicate steps 0))) (Lz:m ≠ L) (Jj:m ≠ K) (MM:L ≠ K) (kA:as.length ≤ 100000) (km:bs.length ≤ 100000) :
  ∃ (aC:ag) (y7 y8 y9 yS:Option ah),forL (fun _ => True) (bb 7) Fe (iA ((steps:Int) - 1) steps) [some (.int p),some (.loc n),some (.loc m),some (.loc L),some (.int c),x5,some (.loc K),none,none,none,none] st
   = .nx [some (.int p),some (.loc n),some (.loc m),some (.loc L),some (.int c),x5,some (.loc K),y7,y8,y9,yS] aC ∧ sJ L K st aC ∧ aC[K]? = some (aW (dv p c as bs steps steps).1) ∧ aC[L]? = some (aW (dv p c as bs steps steps).2):=by
 have hr:=bh hp
 have hz:=fq hp
 have D9:0 < bs.length:=List.length_pos_iff.mpr hb
 obtain ⟨μ',aC,e,⟨y7,y8,y9,yS,rfl⟩,hF,h1,h2⟩:=gT (g:=fun _ => True) (a:=bb 7) (body:=Fe)
  (fun i μ s' => (∃ y7 y8 y9 yS,μ = [some (.int p),some (.loc n),some (.loc m),some (.loc L),some (.int c),x5,some (.loc K),y7,y8,y9,yS]) ∧ sJ L K st s' ∧ s'[K]? = some (aW (dv p c as bs steps i).1) ∧ s'[L]? = some (aW (dv p c as bs steps i).2))
  (iA ((steps:Int) - 1) steps) 0 [some (.int p),some (.loc n),some (.loc m),some (.loc L),some (.int c),x5,some (.loc K),none,none,none,none] st
  (by
   rintro i u μ s' hu ⟨⟨y7,y8,y9,yS,rfl⟩,hF,lQ,lR⟩
   rw [Nat.zero_add] at lQ lR ⊢
   obtain ⟨hi,rfl⟩:=Bx hu
   refine ⟨trivial,?_⟩
   obtain ⟨lq,lr⟩:=rN p c as bs steps i
   obtain ⟨Q,hQ⟩:∃ Q,(dv p c as bs steps i).1 = Q:=⟨_,rfl⟩
   obtain ⟨R,hR⟩:∃ R,(dv p c as bs steps i).2 = R:=⟨_,rfl⟩
   obtain ⟨s,Ji⟩:∃ s,steps - 1 - i = s:=⟨_,rfl⟩
   obtain ⟨o,ho⟩:∃ o,(R.getD (s + bs.length - 1) 0 * c).fmod p = o:=⟨_,rfl⟩
   have e1:(dv p c as bs steps (i + 1)).1 = Q.set s o:=by unfold dv; rw [hQ,hR,Ji,ho]
   have e2:(dv p c as bs steps (i + 1)).2 = jw bs s o R:=by unfold dv; rw [hR,Ji,ho]
   rw [hQ] at lQ lq
   rw [hR] at lR lr
   rw [e1,e2]
   have es:(steps:Int) - 1 - (i:Int) = (s:Int):=by lia
   rw [es]
   have QX:0 ≤ o ∧ o < p:=by rw [← ho,cy (by lia)]; exact ⟨Int.emod_nonneg _ (by lia),Int.emod_lt_of_pos _ (by lia)⟩
   have QZ:=hF.2 m _ Lz Jj lm
   obtain ⟨LB,Iu⟩:∃ L:Int,L = (bs.length:Int):=⟨_,rfl⟩
   have kl:bY [.loc m] s' = .ok (.int LB) s':=by rw [bf (a! QZ),aV,Iu]
   have gx:=ee (a! lR) (m? (R:=R) (i:=(s:Int) + LB - 1) (k:=s + bs.length - 1) (by lia) (by lia))
   have sx:=rj (v:=.int o) (k:=(s:Int)) (j:=s) lQ (by rw [aV]; exact rF (by lia))
   rw [← List.map_set] at sx
   have Q0:(s'.set K (aW (Q.set s o)))[m]? = some (aW bs):=l7 QZ (fun z => Jj z.symm)
   have S!:(s'.set K (aW (Q.set s o)))[L]? = some (aW R):=l7 lR (fun z => MM z.symm)
   have S?:(s'.set K (aW (Q.set s o)))[K]? = some (aW (Q.set s o)):=rp lQ
   obtain ⟨bS,z9,S',e3,Ta,Tb,Tc⟩:=vT (m:=m) (L:=L) (K:=K) (bs:=bs) (R0:=R) (s:=s) (o:=o) (x0:=some (.int p)) (x1:=some (.loc n)) (x4:=some (.int c)) (x5:=x5) (x6:=some (.loc K)) (x9:=y9) (x10:=yS) Q0 S! Lz Jj MM (by lia) (by lia)
   refine ⟨[some (.int p),some (.loc n),some (.loc m),some (.loc L),some (.int c),x5,some (.loc K),some (.int s),y8,y9,yS],rfl,[some (.int p),some (.loc n),some (.loc m),some (.loc L),some (.int c),x5,some (.loc K),some (.int s),some (.int o),z9,S'],bS,.inl ?_,⟨_,_,_,_,rfl⟩,(hF.OL _).trans Tb,Tc _ S?,Ta⟩
   have en:=vH (a! Q0)
   simp only [aj,av,aD,aw,aG,ax,az,au,bV,qc,a8,aA,ar,ay,aB,bB,kJ,d?,f7,aJ,aT,aH,List.set_cons_zero,List.set_cons_succ,DR,Oy,Le,Lf,oo,rm,kl,gx,mul_r (j:=c) (by lia) (by lia),bK hz,ho,sx,en,e3])
  (fun _ _ _ => trivial)
  ⟨⟨_,_,_,_,rfl⟩,sJ.refl _ _ _,lK,lL⟩
 rw [Nat.zero_add,yT] at h1 h2
 exact ⟨aC,y7,y8,y9,yS,e,hF,h1,h2⟩
end PG
namespace PG
open PySem PySem.Spec L2 MN
open PyProof.Rows hiding St kindOf
theorem eu {p:Int} (hp:eQ p = true) {n m:Nat} {as bs:List Int} {st:ag} (h1:ak st n = some (as.map ah.int)) (lm:st[m]? = some (aW bs)) (hb:bs ≠ []) (hl:¬ aX bs % p = 0) (kA:as.length ≤ 100000) (km:bs.length ≤ 100000) :
  ∃ aC k1 k2,PM.parted [.int p,.loc n,.loc m] st = .ok (.tup [.loc k1,.loc k2]) aC ∧ Fr st aC ∧ st.length ≤ k1 ∧ st.length ≤ k2 ∧ k1 ≠ k2 ∧ aC[k1]? = some (aW (c6 p as bs)) ∧ aC[k2]? = some (aW (ik p as bs)):=by
 have hr:=bh hp
 have hz:=fq hp
 have fC:0 < p:=by lia
 have D9:0 < bs.length:=List.length_pos_iff.mpr hb
 have c1:=jk h1
 have hm:=bJ lm
 obtain ⟨g,t,ei,t1,t2,t3⟩:=eT hp hl (st ++ [aW as])
 have et:=xn fC ⟨t1,t2,t3⟩
 have Td:=bE lm [aW as]
 have gx:=ee (a! Td) (nc hb)
 have F2:Fr st (st ++ [aW as] ++ g):=(Fr.app st _).more g
 have Q1:=bE (bj st (as.map ah.int)) g
 have Te:=F2.len
 have Tf:st.length < (st ++ [aW as] ++ g).length:=by rw [List.length_append,List.length_append]; simp; lia
 obtain ⟨s2,gz⟩:∃ s,st ++ [aW as] ++ g = s:=⟨_,rfl⟩
 rw [gz] at ei F2 Q1 Te Tf
 obtain ⟨LA,MP⟩:∃ L:Int,L = (as.length:Int):=⟨_,rfl⟩
 obtain ⟨LB,Iu⟩:∃ L:Int,L = (bs.length:Int):=⟨_,rfl⟩
 have k1:bY [.loc n] s2 = .ok (.int LA) s2:=by rw [bf (F2.it h1),aV,MP]
 have k2:bY [.loc m] s2 = .ok (.int LB) s2:=by rw [bf (a! (F2 _ _ lm)),aV,Iu]
 obtain ⟨steps,sG⟩:∃ s,s = as.length + 1 - bs.length:=⟨_,rfl⟩
 have Q2:(if LA - LB + 1 > 0 then LA - LB + 1 else 0) = (steps:Int):=by split <;> lia
 obtain ⟨S,hS⟩:∃ S:Int,S = (steps:Int):=⟨_,rfl⟩
 rw [← hS] at Q2
 have m1:=vI (st:=s2 ++ [aQ.lst [.int 0]]) (n:=s2.length) (us:=[.int 0]) (k:=S) (bj _ _) (by lia) (by lia) (by rw [sizeLine_eq]; simp; lia)
 rw [Br,show S.toNat = steps by lia] at m1
 have F3:Fr s2 (s2 ++ [aQ.lst [.int 0]] ++ [aW (List.replicate steps 0)]):=(Fr.app s2 _).more _
 have OM:=bj (s2 ++ [aQ.lst [.int 0]]) ((List.replicate steps 0).map ah.int)
 have Tg:s2.length < (s2 ++ [aQ.lst [.int 0]]).length:=by rw [List.length_append]; simp
 obtain ⟨K,hK⟩:∃ K,(s2 ++ [aQ.lst [.int 0]]).length = K:=⟨_,rfl⟩
 have ON:=F2.trans F3
 have Q3:=ON _ _ lm
 have Q4:=F3 _ _ Q1
 rw [hK] at m1 OM Tg
 obtain ⟨s3,oF⟩:∃ s,s2 ++ [aQ.lst [.int 0]] ++ [aW (List.replicate steps 0)] = s:=⟨_,rfl⟩
 have Th:b9 (.loc s2.length) (.int S) (s2 ++ [aQ.lst [.int 0]]) = .ok (.loc K) s3:=by rw [← oF]; exact m1
 rw [oF] at F3 ON OM Q3 Q4
 obtain ⟨s4,y7,y8,y9,yS,el,Q5,lQ,lR⟩:=vU (n:=n) (x5:=some (.int S)) hp ⟨t1,t2⟩ sG hb Q3 Q4 OM (by lia) (by lia) (by lia) kA km
 have dw:=H_ (st:=s3) (j:=S - 1) (k:=-1) (by lia) (by lia) (by decide) (by decide)
 rw [show (S - 1 - -1).toNat = steps by lia] at dw
 rw [← hS] at el
 obtain ⟨lq,lr⟩:=rN p t as bs steps steps
 have r1:=cj hz (a! lQ) (by rw [lq,sizeLine_eq]; lia)
 have r2:=cj hz (a! (bE lR [aQ.lst ((bP ((dv p t as bs steps steps).1.map (·.fmod p))).map ah.int)])) (by rw [lr,sizeLine_eq]; lia)
 have zl:s2.length ≤ s4.length:=by rw [← Q5.1]; exact F3.len
 refine ⟨s4 ++ [aW (c6 p as bs)] ++ [aW (ik p as bs)],s4.length,(s4 ++ [aQ.lst ((bP ((dv p t as bs steps steps).1.map (·.fmod p))).map ah.int)]).length,?_,?_,by lia,by rw [List.length_append]; lia,by rw [List.length_append]; simp,?_,?_⟩
 ·unfold c6 ik
  rw [et,← sG]
  simp only [PM.parted,aR,aj,av,aD,aY,aw,aG,ax,az,au,l6,i6,bp,bV,qc,a8,aA,ar,i5,fY,ay,fZ,jF,aB,aL,bB,kJ,d?,f7,aJ,aT,aH,List.map_cons,List.map_nil,List.cons_append,List.nil_append,List.replicate_succ,List.replicate_zero,List.set_cons_zero,List.set_cons_succ,Nat.reduceSub,List.length_cons,List.length_nil,Nat.reduceAdd,sizeLine_eq,Nat.reduceLeDiff,↓reduceIte,DS,A?,c1,gx,gz,ei,k1,k2,Q2,Th,dw,el,r1,r2]
 ·intro a c ha
  have:=bJ ha
  exact bE (bE (Q5.2 a c (by lia) (by lia) (ON _ _ ha)) _) _
 ·unfold c6
  rw [et,← sG]
  exact bE (bj _ _) _
 ·unfold c6 ik
  rw [et,← sG]
  exact bj _ _
theorem vV {p:Int} (hp:eQ p = true) {n m:Nat} {as bs:List Int} {st:ag} (h1:ak st n = some (as.map ah.int)) (lm:st[m]? = some (aW bs)) (hb:bs ≠ []) (hl:¬ aX bs % p = 0) (kA:as.length ≤ 100000) (km:bs.length ≤ 100000) :
  ∃ aC k1 k2,PM.divided [.int p,.loc n,.loc m] st = .ok (.tup [.loc k1,.loc k2]) aC ∧ Fr st aC ∧ st.length ≤ k1 ∧ st.length ≤ k2 ∧ k1 ≠ k2 ∧ aC[k1]? = some (aW (c6 p as bs)) ∧ aC[k2]? = some (aW (ik p as bs)):=by
 obtain ⟨g,e⟩:=bG hp st
 have D9:0 < bs.length:=List.length_pos_iff.mpr hb
 obtain ⟨aC,k1,k2,e2,F,o1,o2,o3,l1,l2⟩:=eu hp (a7 h1 g) (bE lm g) hb hl kA km
 obtain ⟨LB,Iu⟩:∃ L:Int,L = (bs.length:Int):=⟨_,rfl⟩
 have kl:bY [.loc m] (st ++ g) = .ok (.int LB) (st ++ g):=by rw [bf (a! (bE lm g)),aV,Iu]
 have z:(LB == 0) = false:=by simp; lia
 refine ⟨aC,k1,k2,?_,(Fr.app st g).trans F,?_,?_,o3,l1,l2⟩
 ·simp only [PM.divided,aR,aj,av,aD,aY,aw,aG,ax,az,au,dy,bp,a9,a8,aF,aE,aA,ar,ay,aB,aP,bA,aL,aM,bc,aJ,aT,aH,List.map_cons,List.map_nil,List.cons_append,List.nil_append,List.replicate_zero,Nat.reduceSub,List.length_cons,List.length_nil,Nat.reduceAdd,e,kl,z,e2]
 ·rw [List.length_append] at o1; lia
 ·rw [List.length_append] at o2; lia
theorem vW {p:Int} (hp:eQ p = true) {v:ah} {m:Nat} {st:ag} (lm:st[m]? = some (aW [])) (hv:Ah v = false):∃ g,PM.divided [.int p,v,.loc m] st = .err "ByNought" (st ++ g):=by
 obtain ⟨g,e⟩:=bG hp st
 have kl:bY [.loc m] (st ++ g) = .ok (.int 0) (st ++ g):=by rw [bf (a! (bE lm g))]; rfl
 have z:((0:Int) == 0) = true:=rfl
 exact ⟨g,by simp only [PM.divided,aR,aj,av,aD,dZ,du,aw,aG,ax,az,au,dy,bz,jX,a8,aF,aE,aA,ar,ay,aB,bA,aM,i7,bc,aJ,aT,aH,List.map_cons,List.map_nil,List.cons_append,List.nil_append,List.replicate_zero,Nat.reduceSub,List.length_cons,List.length_nil,Nat.reduceAdd,sizeLine_eq,Nat.reduceLeDiff,↓reduceIte,e,kl,z]⟩
end PG
namespace PG
open PySem PySem.Spec L2 MN
open PyProof.Rows hiding St kindOf
theorem Row.sm {p:Int} (hp:eQ p = true) {as:List Int} (h:Row p as):Sm as:=fun a ha => by
 have:=h.BW a ha
 have:=bh hp
 lia
theorem rO (as bs:List Int) (f:Int) (k:Nat):cf (fF as bs f) k = cf as k + f * cf bs k:=by
 unfold fF
 rw [vR (max as.length bs.length) (fun k => as.getD k 0 + f * bs.getD k 0)]
 split
 ·rfl
 ·rw [fu (ns:=as) (by lia),fu (ns:=bs) (by lia),Int.mul_zero]; rfl
end PG
namespace PG
open PySem PySem.Spec L2 MN
open PyProof.Rows hiding St kindOf
theorem jI.nil (st:ag):jI st [] []:=⟨rfl,fun i l R h _ => by simp at h⟩
theorem jI.cons {st:ag} {l:Nat} {ls:List Nat} {R:List Int} {Rs:List (List Int)} (h:st[l]? = some (aW R)) (r:jI st ls Rs):jI st (l :: ls) (R :: Rs):=⟨by rw [List.length_cons,List.length_cons,r.1],fun i l' R' h1 h2 => by
 cases i with
 | zero => cases h1; cases h2; exact h
 | succ i => exact r.2 i l' R' h1 h2⟩
end PG
namespace PG
open PySem PySem.Spec L2 MN
open PyProof.Rows hiding St kindOf
theorem By {as bs:List Int} {k:Nat} (h:as.length + bs.length ≤ k + 1):mF as (cf bs) k = 0:=by
 rw [← rK]; exact uc as bs k as.length h
theorem fj (as bs:List Int) (k:Nat):cf (bR as bs) k = mF as (cf bs) k:=by
 unfold bR
 rw [vR (as.length + bs.length - 1) (fun k => jr as bs as.length k),rK]
 split
 ·rfl
 ·rw [By (by lia)]
noncomputable def j6 (p:Int) (as bs:List Int):List Int:=if as = [] ∨ bs = [] then [] else bP ((bR as bs).map (·.fmod p))
theorem il (f:Cf) (k:Nat):mF [] f k = 0:=rfl
theorem xo (as:List Int) (k:Nat):mF as (cf []) k = 0:=by rw [cJ]; rfl
theorem xq {p:Int} (hp:0 < p) (as bs:List Int):ba p (cf (j6 p as bs)) (mF as (cf bs)):=by
 unfold j6
 split
 ·rename_i h
  rcases h with rfl | rfl
  ·exact ba.of_eq fun k => by rw [jb,il]
  ·exact ba.of_eq fun k => by rw [jb,xo]
 ·exact (Row.cg hp _).trans (ba.of_eq (fj as bs))
theorem oG (p:Int) (as bs:List Int):(j6 p as bs).length ≤ as.length + bs.length - 1 ∧ (as = [] → (j6 p as bs).length = 0):=by
 unfold j6
 split
 ·exact ⟨by simp,fun _ => rfl⟩
 ·rename_i h
  refine ⟨?_,fun z => absurd (.inl z) h⟩
  refine Nat.le_trans (fi _) ?_
  rw [List.length_map,ql]; exact Nat.le_refl _
noncomputable def pF (p:Int) (as bs:List Int):List Int:=bP ((fF as bs (-1)).map (·.fmod p))
theorem xr {p:Int} (hp:0 < p) (as bs:List Int):ba p (cf (pF p as bs)) (fun k => cf as k - cf bs k):=(Row.cg hp _).trans (ba.of_eq fun k => by rw [rO]; lia)
theorem Bz (p:Int) (as bs:List Int):(pF p as bs).length ≤ max as.length bs.length:=by
 refine Nat.le_trans (fi _) ?_
 rw [List.length_map,oC]; exact Nat.le_refl _
noncomputable def mulR (p f:Int) (as:List Int):List Int:=bP ((as.map (· * f)).map (·.fmod p))
theorem rP {p:Int} (hp:0 < p) (f:Int) (as:List Int):ba p (cf (mulR p f as)) (fun k => f * cf as k):=(Row.cg hp _).trans (ba.of_eq fun k => by rw [kW (· * f) (Int.zero_mul f),Int.mul_comm])
theorem jc (p f:Int) (as:List Int):(mulR p f as).length ≤ as.length:=by
 refine Nat.le_trans (fi _) ?_
 rw [List.length_map,List.length_map]; exact Nat.le_refl _
theorem ba.sub {p:Int} {f g f' g':Cf} (h:ba p f g) (h':ba p f' g'):ba p (fun k => f k - f' k) (fun k => g k - g' k):=fun k => by
 have:=(h k).add (h' k).neg
 rw [show f k + -f' k = f k - f' k by lia,show g k + -g' k = g k - g' k by lia] at this
 exact this
theorem ba.smul {p:Int} {f g:Cf} (c:Int) (h:ba p f g):ba p (fun k => c * f k) (fun k => c * g k):=fun k => (h k).vO c
theorem vX (f g:Cf) (as:List Int) (k:Nat):mF as (fun j => f j - g j) k = mF as f k - mF as g k:=by
 have h1:=jH f (fun j => -1 * g j) as k
 rw [oE,bW (g:=fun j => f j - g j) (fun j => by show f j + -1 * g j = f j - g j; lia)] at h1
 lia
theorem qq {p:Int} {u u0 q u1:List Int} (h:ba p (cf u) (fun k => cf u0 k - mF q (cf u1) k)) (A:List Int):ba p (mF u (cf A)) (fun k => mF u0 (cf A) k - mF q (mF u1 (cf A)) k):=by
 refine (ba.of_eq (cJ u A)).trans ((h.mF A).trans (ba.of_eq fun k => ?_))
 rw [vX,cJ A u0,ig (cf u1) A q,bW (cJ A u1)]
theorem yU {p:Int} {u u0 u1:List Int} (h:ba p (cf u) (fun k => cf u0 k + cf u1 k)) (A:List Int):ba p (mF u (cf A)) (fun k => mF u0 (cf A) k + mF u1 (cf A) k):=by
 refine (ba.of_eq (cJ u A)).trans ((h.mF A).trans (ba.of_eq fun k => ?_))
 rw [jH,cJ A u0,cJ A u1]
theorem kX {p c:Int} {u u0:List Int} (h:ba p (cf u) (fun k => c * cf u0 k)) (A:List Int):ba p (mF u (cf A)) (fun k => c * mF u0 (cf A) k):=by
 refine (ba.of_eq (cJ u A)).trans ((h.mF A).trans (ba.of_eq fun k => ?_))
 rw [oE,cJ A u0]
theorem dN (x q A:List Int) (k:Nat):mF (bR x q) (cf A) k = mF x (mF q (cf A)) k:=by
 rw [cJ,bW (fj x q),ig (cf q) A x,bW (cJ A q)]
theorem rQ:∀ (as bs:List Int),as ≠ [] → bs ≠ [] → mF as (cf bs) (as.length - 1 + (bs.length - 1)) = aX as * aX bs
 | [],_,h,_ => absurd rfl h
 | [a],bs,_,hb => by
  show a * cf bs (0 + (bs.length - 1)) + eY (fun _ => 0) (0 + (bs.length - 1)) = a * aX bs
  rw [Nat.zero_add]
  have:eY (fun _ => (0:Int)) (bs.length - 1) = 0:=by cases bs.length - 1 <;> rfl
  rw [this,Int.add_zero]; rfl
 | a :: a' :: as,bs,_,hb => by
  have D9:0 < bs.length:=List.length_pos_iff.mpr hb
  have ih:=rQ (a' :: as) bs (by simp) hb
  show a * cf bs ((a :: a' :: as).length - 1 + (bs.length - 1)) + eY (mF (a' :: as) (cf bs)) ((a :: a' :: as).length - 1 + (bs.length - 1)) = _
  rw [show (a :: a' :: as).length - 1 + (bs.length - 1) = ((a' :: as).length - 1 + (bs.length - 1)) + 1 by simp; lia]
  show a * cf bs _ + mF (a' :: as) (cf bs) ((a' :: as).length - 1 + (bs.length - 1)) = _
  rw [ih,fu (by simp; lia),Int.mul_zero,Int.zero_add]
  rfl
theorem Row.last {p:Int} (hp:0 < p) {as:List Int} (h:Row p as) (hn:as ≠ []):0 < aX as ∧ aX as < p:=by
 have h1:=uf h.cut hn
 have h2:=h.B6 hp (as.length - 1)
 have e:aX as = cf as (as.length - 1):=rfl
 rw [e]; lia
theorem l? {p:Int} (hp:0 < p) {r x G:List Int} (hr:Row p r) (hG:G ≠ []) (h1:aX G = 1) (hl:r.length < G.length) (h:ba p (cf r) (mF x (cf G))):r = []:=by
 have T8:0 < G.length:=List.length_pos_iff.mpr hG
 have hX:=Row.of hp x
 have cX:=Row.cg hp x
 have h':ba p (cf r) (mF (bP (x.map (·.fmod p))) (cf G)):=h.trans (ba.OH cX G).symm
 revert hX h'
 generalize bP (x.map (·.fmod p)) = X
 intro hX h'
 by_cases OO:X = []
 ·subst OO
  exact Row.ext hp hr (Row.nil p) (h'.trans (ba.of_eq fun k => by rw [jb,il]))
 ·exfalso
  have t:=rQ X G OO hG
  rw [h1,Int.mul_one] at t
  have q:=h' (X.length - 1 + (G.length - 1))
  rw [t,fu (by lia)] at q
  have e:=Cg.eq hp q
  have l:=hX.last hp OO
  rw [c5 (by lia) l.2,c5 (Int.le_refl _) hp] at e
  lia
structure fv (p:Int) (A B:List Int) (N:Nat) (g0 u0 v0 g1 u1 v1:List Int):Prop where
 r0:Row p g0
 Q6:Row p u0
 Q7:Row p v0
 r1:Row p g1
 Q8:Row p u1
 Q9:Row p v1
 c0:ba p (cf g0) (fun k => mF u0 (cf A) k + mF v0 (cf B) k)
 c1:ba p (cf g1) (fun k => mF u1 (cf A) k + mF v1 (cf B) k)
 ne:g0 ≠ [] ∨ g1 ≠ []
 mA:∃ x0 x1,ba p (cf A) (fun k => mF x0 (cf g0) k + mF x1 (cf g1) k)
 mB:∃ x0 x1,ba p (cf B) (fun k => mF x0 (cf g0) k + mF x1 (cf g1) k)
 Iv:u1.length + g0.length ≤ N
 MQ:v1.length + g0.length ≤ N
 LC:u0.length + g1.length ≤ N
 MR:v0.length + g1.length ≤ N
theorem xt {p:Int} (hp:2 ≤ p):Row p [1]:=⟨rfl,fun a h => by rw [List.mem_singleton.mp h]; lia⟩
theorem fv.start {p:Int} (hp:2 ≤ p) {A B:List Int} (hA:Row p A) (hB:Row p B) (hn:A ≠ [] ∨ B ≠ []):fv p A B (A.length + B.length + 1) A [1] [] B [] [1] where
 r0:=hA
 Q6:=xt hp
 Q7:=Row.nil p
 r1:=hB
 Q8:=Row.nil p
 Q9:=xt hp
 c0:=ba.of_eq fun k => by rw [il,cJ]; show _ = mF A one k + 0; rw [fe]; lia
 c1:=ba.of_eq fun k => by rw [il,cJ]; show _ = 0 + mF B one k; rw [fe]; lia
 ne:=hn
 mA:=⟨[1],[],ba.of_eq fun k => by rw [il,cJ]; show _ = mF A one k + 0; rw [fe]; lia⟩
 mB:=⟨[],[1],ba.of_eq fun k => by rw [il,cJ]; show _ = 0 + mF B one k; rw [fe]; lia⟩
 Iv:=by simp; lia
 MQ:=by simp; lia
 LC:=by simp; lia
 MR:=by simp; lia
theorem comb {p:Int} {C g0 q g1 r x0 x1:List Int} (h:ba p (cf C) (fun k => mF x0 (cf g0) k + mF x1 (cf g1) k)) (hd:ba p (cf g0) (fun k => mF q (cf g1) k + cf r k)):∃ y0 y1,ba p (cf C) (fun k => mF y0 (cf g1) k + mF y1 (cf r) k):=by
 refine ⟨fF (bR x0 q) x1 1,x0,h.trans ?_⟩
 have e1:ba p (mF x0 (cf g0)) (fun k => mF x0 (mF q (cf g1)) k + mF x0 (cf r) k):=(hd.mF x0).trans (ba.of_eq fun k => by rw [jH])
 have e2:ba p (mF (fF (bR x0 q) x1 1) (cf g1)) (fun k => mF (bR x0 q) (cf g1) k + mF x1 (cf g1) k):=yU (ba.of_eq fun k => by rw [rO]; lia) g1
 refine (ba.add e1 (ba.refl p _)).trans ?_
 refine ba.trans ?_ (ba.add e2 (ba.refl p _)).symm
 refine ba.of_eq fun k => ?_
 show mF x0 (mF q (cf g1)) k + mF x0 (cf r) k + mF x1 (cf g1) k = mF (bR x0 q) (cf g1) k + mF x1 (cf g1) k + mF x0 (cf r) k
 rw [dN]; lia
theorem BA (p:Int) (as bs:List Int):(ik p as bs).length ≤ as.length:=by
 unfold ik
 refine Nat.le_trans (fi _) ?_
 rw [List.length_map,(rN _ _ _ _ _ _).2]; exact Nat.le_refl _
theorem fv.step {p:Int} (hp:eQ p = true) {A B:List Int} {N:Nat} {g0 u0 v0 g1 u1 v1:List Int} (h:fv p A B N g0 u0 v0 g1 u1 v1) (hg:g1 ≠ []) :
  fv p A B N g1 u1 v1 (ik p g0 g1) (pF p u0 (j6 p (c6 p g0 g1) u1)) (pF p v0 (j6 p (c6 p g0 g1) v1)):=by
 have hr:=bh hp
 have fC:0 < p:=by lia
 have hl:¬ aX g1 % p = 0:=by
  have:=h.r1.last fC hg
  rw [Int.emod_eq_of_lt (by lia) this.2]; lia
 obtain ⟨sq,sr,slt,sc,sl⟩:=d_ hp (as:=g0) hg hl
 have Ti:=BA p g0 g1
 obtain ⟨Q,hQ⟩:∃ Q,c6 p g0 g1 = Q:=⟨_,rfl⟩
 obtain ⟨R,hR⟩:∃ R,ik p g0 g1 = R:=⟨_,rfl⟩
 rw [hQ] at sq sc sl ⊢
 rw [hR] at sr slt sc Ti ⊢
 have cu:ba p (cf (pF p u0 (j6 p Q u1))) (fun k => cf u0 k - mF Q (cf u1) k):=(xr fC _ _).trans (ba.sub (ba.refl p _) (xq fC Q u1))
 have cv:ba p (cf (pF p v0 (j6 p Q v1))) (fun k => cf v0 k - mF Q (cf v1) k):=(xr fC _ _).trans (ba.sub (ba.refl p _) (xq fC Q v1))
 have len:∀ (w0 w1:List Int),w1.length + g0.length ≤ N → w0.length + g1.length ≤ N → (pF p w0 (j6 p Q w1)).length + g1.length ≤ N:=fun w0 w1 i1 i2 => by
  have a1:=Bz p w0 (j6 p Q w1)
  have a2:=oG p Q w1
  by_cases Q_:Q = []
  ·have:=a2.2 Q_; lia
  ·have:0 < Q.length:=List.length_pos_iff.mpr Q_
   have:=a2.1
   lia
 refine ⟨h.r1,h.Q8,h.Q9,sr,Row.of fC _,Row.of fC _,h.c1,?_,.inl hg,?_,?_,len u0 u1 h.Iv h.LC,len v0 v1 h.MQ h.MR,?_,?_⟩
 ·-- xy rest
  have e:ba p (cf R) (fun k => cf g0 k - mF Q (cf g1) k):=fun k => by
   have:=(sc k).symm.add (Cg.refl p (-(mF Q (cf g1) k)))
   rw [show mF Q (cf g1) k + cf R k + -mF Q (cf g1) k = cf R k by lia,show cf g0 k + -mF Q (cf g1) k = cf g0 k - mF Q (cf g1) k by lia] at this
   exact this
  refine e.trans ((ba.sub h.c0 (h.c1.mF Q)).trans ?_)
  refine ba.trans ?_ (ba.add (qq cu A) (qq cv B)).symm
  refine ba.of_eq fun k => ?_
  show mF u0 (cf A) k + mF v0 (cf B) k - mF Q (fun k => mF u1 (cf A) k + mF v1 (cf B) k) k = mF u0 (cf A) k - mF Q (mF u1 (cf A)) k + (mF v0 (cf B) k - mF Q (mF v1 (cf B)) k)
  rw [jH]; lia
 ·obtain ⟨x0,x1,hx⟩:=h.mA; exact comb hx sc
 ·obtain ⟨x0,x1,hx⟩:=h.mB; exact comb hx sc
 ·have:=h.Iv; lia
 ·have:=h.MQ; lia
theorem ui {p t:Int} (hp:2 ≤ p) {g:List Int} (hg:Row p g) (hn:g ≠ []) (ht:(t * aX g) % p = 1):Row p (mulR p t g) ∧ mulR p t g ≠ [] ∧ aX (mulR p t g) = 1 ∧ (mulR p t g).length = g.length:=by
 have fC:0 < p:=by lia
 have Q!:0 < g.length:=List.length_pos_iff.mpr hn
 have r:=Row.of fC (g.map (· * t))
 have c:cf (mulR p t g) (g.length - 1) = 1:=by
  unfold mulR
  rw [vQ,kW _ (by rw [cy fC]; exact Int.zero_emod p),kW (· * t) (Int.zero_mul t),cy fC,Int.mul_comm]
  exact ht
 have l1:=jc p t g
 have l2:¬ (mulR p t g).length ≤ g.length - 1:=fun z => by rw [fu z] at c; lia
 have l:(mulR p t g).length = g.length:=by lia
 refine ⟨r,fun z => by rw [z] at l; simp at l; lia,?_,l⟩
 show cf (mulR p t g) ((mulR p t g).length - 1) = 1
 rw [l]; exact c
theorem fv.done {p t:Int} (hp:eQ p = true) {A B:List Int} {N:Nat} {g u v u1 v1:List Int} (h:fv p A B N g u v [] u1 v1) (hA:Row p A) (hB:Row p B) (ht:(t * aX g) % p = 1) :
  Row p (mulR p t g) ∧ mulR p t g ≠ [] ∧ aX (mulR p t g) = 1 ∧ ba p (cf A) (mF (c6 p A (mulR p t g)) (cf (mulR p t g))) ∧ ba p (cf B) (mF (c6 p B (mulR p t g)) (cf (mulR p t g))) ∧
   ba p (cf (mulR p t g)) (fun k => mF (mulR p t u) (cf A) k + mF (mulR p t v) (cf B) k):=by
 have hr:=bh hp
 have fC:0 < p:=by lia
 have hg:g ≠ []:=by rcases h.ne with z | z; exact z; exact absurd rfl z
 obtain ⟨rG,nG,lG,T9⟩:=ui hr.1 h.r0 hg ht
 have cG:=rP fC t g
 have hl:¬ aX (mulR p t g) % p = 0:=by rw [lG,Int.emod_eq_of_lt (by lia) (by lia)]; lia
 have one:∀ C:List Int,Row p C → (∃ x0 x1,ba p (cf C) (fun k => mF x0 (cf g) k + mF x1 (cf []) k)) → ba p (cf C) (mF (c6 p C (mulR p t g)) (cf (mulR p t g))):=fun C hC hx => by
  obtain ⟨x0,x1,hx⟩:=hx
  obtain ⟨sq,sr,slt,sc,sl⟩:=d_ hp (as:=C) nG hl
  -- g is a LD of xy plain one
  have cg:ba p (cf g) (fun k => aX g * cf (mulR p t g) k):=fun k => by
   have c1:Cg p (t * aX g) 1:=⟨t * aX g / p,by have:=Int.emod_add_mul_ediv (t * aX g) p; lia⟩
   have c2:=(cG k).vO (aX g)
   have c3:=c1.D7 (cf g k)
   rw [Int.one_mul,show t * aX g * cf g k = aX g * (t * cf g k) by rw [← Int.mul_assoc,Int.mul_comm (aX g) t]] at c3
   exact (c2.trans c3).symm
  have cx:ba p (cf C) (mF (x0.map (aX g * ·)) (cf (mulR p t g))):=by
   refine hx.trans ?_
   have e1:ba p (mF x0 (cf g)) (fun k => aX g * mF x0 (cf (mulR p t g)) k):=(cg.mF x0).trans (ba.of_eq fun k => by rw [oE])
   have e2:ba p (mF (x0.map (aX g * ·)) (cf (mulR p t g))) (fun k => aX g * mF x0 (cf (mulR p t g)) k):=kX (ba.of_eq fun k => by rw [kW (aX g * ·) (Int.mul_zero _)]) _
   refine ba.trans ?_ e2.symm
   refine ba.trans ?_ e1
   exact ba.of_eq fun k => by show mF x0 (cf g) k + mF x1 (cf []) k = _; rw [xo,Int.add_zero]
  have cr:ba p (cf (ik p C (mulR p t g))) (mF (fF (x0.map (aX g * ·)) (c6 p C (mulR p t g)) (-1)) (cf (mulR p t g))):=by
   have e3:ba p (mF (fF (x0.map (aX g * ·)) (c6 p C (mulR p t g)) (-1)) (cf (mulR p t g))) (fun k => mF (x0.map (aX g * ·)) (cf (mulR p t g)) k - mF (c6 p C (mulR p t g)) (cf (mulR p t g)) k):=by
    refine (ba.of_eq (cJ _ _)).trans (ba.of_eq fun k => ?_)
    rw [bW (g:=fun j => cf (x0.map (aX g * ·)) j - cf (c6 p C (mulR p t g)) j) (fun j => by rw [rO]; lia),vX,cJ _ (x0.map _),cJ _ (c6 p C _)]
   refine ba.trans (fun k => ?_) e3.symm
   have:=((sc k).symm.trans (cx k)).add (Cg.refl p (-(mF (c6 p C (mulR p t g)) (cf (mulR p t g)) k)))
   rw [show mF (c6 p C (mulR p t g)) (cf (mulR p t g)) k + cf (ik p C (mulR p t g)) k + -mF (c6 p C (mulR p t g)) (cf (mulR p t g)) k = cf (ik p C (mulR p t g)) k by lia] at this
   show Cg p _ (mF (x0.map (aX g * ·)) (cf (mulR p t g)) k - mF (c6 p C (mulR p t g)) (cf (mulR p t g)) k)
   rw [show mF (x0.map (aX g * ·)) (cf (mulR p t g)) k - mF (c6 p C (mulR p t g)) (cf (mulR p t g)) k = mF (x0.map (aX g * ·)) (cf (mulR p t g)) k + -mF (c6 p C (mulR p t g)) (cf (mulR p t g)) k by lia]
   exact this
  have z:=l? fC sr nG lG slt cr
  rw [z] at sc
  exact sc.trans (ba.of_eq fun k => by show mF _ _ k + cf [] k = _; rw [jb,Int.add_zero])
 refine ⟨rG,nG,lG,one A hA h.mA,one B hB h.mB,?_⟩
 refine cG.trans ((h.c0.smul t).trans ?_)
 refine ba.trans ?_ (ba.add (kX (rP fC t u) A) (kX (rP fC t v) B)).symm
 exact ba.of_eq fun k => by show t * (mF u (cf A) k + mF v (cf B) k) = _; rw [Int.mul_add]
end PG
namespace PG
open PySem PySem.Spec L2 MN
open PyProof.Rows hiding St kindOf
noncomputable def ip (f:Cf):Cf:=fun k => ((k:Int) + 1) * f (k + 1)
theorem Iw (h:Cf) (k:Nat):ip (eY h) k = h k + eY (ip h) k:=by
 unfold ip
 cases k with
 | zero => simp [eY]
 | succ k =>
  show (((k + 1:Nat):Int) + 1) * h (k + 1) = h (k + 1) + ((k:Int) + 1) * h (k + 1)
  rw [Int.add_mul,Int.one_mul]
  push_cast
  lia
noncomputable def rW:List Int → List Int → List Int
 | [],bs => bs
 | a :: as,[] => a :: as
 | a :: as,b :: bs => (a + b) :: rW as bs
theorem iq (g:Cf):∀ (as bs:List Int) (k:Nat),mF (rW as bs) g k = mF as g k + mF bs g k
 | [],bs,k => by show mF bs g k = mF [] g k + mF bs g k; rw [il,Int.zero_add]
 | a :: as,[],k => by show mF (a :: as) g k = mF (a :: as) g k + mF [] g k; rw [il,Int.add_zero]
 | a :: as,b :: bs,k => by
  show (a + b) * g k + eY (mF (rW as bs) g) k = (a * g k + eY (mF as g) k) + (b * g k + eY (mF bs g) k)
  rw [cV (iq g as bs),rH,Int.add_mul]
  lia
theorem nh (g:Cf) (c:Int):∀ (as:List Int) (k:Nat),mF (as.map (c * ·)) g k = c * mF as g k
 | [],k => by show (0:Int) = c * 0; rw [Int.mul_zero]
 | a :: as,k => by
  show (c * a) * g k + eY (mF (as.map (c * ·)) g) k = c * (a * g k + eY (mF as g) k)
  rw [cV (nh g c as),xl,Int.mul_add,Int.mul_assoc]
noncomputable def dL:List Int → List Int
 | [] => []
 | _ :: as => rW as (0 :: dL as)
theorem BB (g:Cf):∀ (as:List Int) (k:Nat),ip (mF as g) k = mF as (ip g) k + mF (dL as) g k
 | [],k => by show ((k:Int) + 1) * 0 = 0 + 0; rw [Int.mul_zero]; rfl
 | a :: as,k => by
  have e1:ip (mF (a :: as) g) k = a * ip g k + ip (eY (mF as g)) k:=by
   show ((k:Int) + 1) * (a * g (k + 1) + eY (mF as g) (k + 1)) = a * (((k:Int) + 1) * g (k + 1)) + ((k:Int) + 1) * eY (mF as g) (k + 1)
   rw [Int.mul_add,← Int.mul_assoc,← Int.mul_assoc,Int.mul_comm _ a]
  rw [e1,Iw,cV (BB g as),rH]
  show a * ip g k + (mF as g k + (eY (mF as (ip g)) k + eY (mF (dL as) g) k)) = (a * ip g k + eY (mF as (ip g)) k) + mF (rW as (0 :: dL as)) g k
  rw [iq]
  show _ = _ + (mF as g k + (0 * g k + eY (mF (dL as) g) k))
  rw [Int.zero_mul]
  lia
theorem Iy (c:Int) (f:Cf) (k:Nat):mF [c] f k = c * f k:=by
 show c * f k + eY (mF [] f) k = _
 cases k <;> simp [eY,mF]
theorem ba.ip {p:Int} {f g:Cf} (h:ba p f g):ba p (PG.ip f) (PG.ip g):=fun k => (h (k + 1)).vO _
theorem oH (as:List Int) (k:Nat):cf (cI as) k = ip (cf as) k:=by
 unfold cI ip cf fo
 rw [List.getD_eq_getElem?_getD,List.getElem?_map,List.getElem?_map]
 by_cases h:k < as.length - 1
 ·rw [List.getElem?_range h]
  show (1 + (k:Int)) * as.getD (1 + (k:Int)).toNat 0 = ((k:Int) + 1) * as.getD (k + 1) 0
  rw [show (1 + (k:Int)).toNat = k + 1 by lia,Int.add_comm]
 ·rw [List.getElem?_eq_none (by rw [List.length_range]; lia)]
  show (0:Int) = ((k:Int) + 1) * as.getD (k + 1) 0
  rw [List.getD_eq_getElem?_getD,List.getElem?_eq_none (by lia)]
  show (0:Int) = ((k:Int) + 1) * 0
  rw [Int.mul_zero]
noncomputable def Dvd (p:Int) (U:List Int) (f:Cf):Prop:=∃ x:List Int,ba p f (mF x (cf U))
section
variable {p:Int} {U:List Int} {f g:Cf}
theorem Dvd.cg (h:Dvd p U f) (e:ba p g f):Dvd p U g:=let ⟨x,hx⟩:=h; ⟨x,e.trans hx⟩
theorem Dvd.add (h:Dvd p U f) (k:Dvd p U g):Dvd p U (fun j => f j + g j):=by
 obtain ⟨x,hx⟩:=h
 obtain ⟨y,hy⟩:=k
 exact ⟨rW x y,(hx.add hy).trans (ba.of_eq fun j => (iq (cf U) x y j).symm)⟩
theorem Dvd.mul (h:Dvd p U f) (y:List Int):Dvd p U (mF y f):=by
 obtain ⟨x,hx⟩:=h
 exact ⟨bR y x,(hx.mF y).trans (ba.of_eq fun j => (dN y x U j).symm)⟩
theorem Dvd.neg (h:Dvd p U f):Dvd p U (fun j => -1 * f j):=by
 obtain ⟨x,hx⟩:=h
 exact ⟨x.map ((-1) * ·),(hx.smul (-1)).trans (ba.of_eq fun j => (nh (cf U) (-1) x j).symm)⟩
theorem Dvd.self (y:List Int):Dvd p U (mF y (cf U)):=⟨y,ba.refl _ _⟩
theorem Dvd.sub (h:Dvd p U (fun j => f j + g j)) (k:Dvd p U g):Dvd p U f:=(h.add k.neg).cg (ba.of_eq fun j => by lia)
end
theorem D? {p:Int} (hp:0 < p) {F z:List Int} (hF:F ≠ []) (h1:aX F = 1) (h:ba p (mF F (cf z)) (fun _ => 0)):ba p (cf z) (fun _ => 0):=by
 obtain ⟨r,hr⟩:∃ r,r = bP (z.map (·.fmod p)):=⟨_,rfl⟩
 have R:Row p r:=by rw [hr]; exact Row.of hp z
 have e:ba p (cf r) (cf z):=by rw [hr]; exact Row.cg hp z
 by_cases hz:r = []
 ·rw [hz] at e
  exact e.symm.trans (ba.of_eq fun k => jb k)
 ·exfalso
  have t:=rQ F r hF hz
  have c:=((e.mF F).trans h) (F.length - 1 + (r.length - 1))
  rw [t,h1,Int.one_mul] at c
  have lr:=R.last hp hz
  obtain ⟨k,hk⟩:=c
  have:k = 0:=by
   rcases Int.lt_trichotomy k 0 with q | q | q
   ·have:=Int.mul_le_mul_of_nonneg_left (show k ≤ -1 by lia) (Int.le_of_lt hp)
    lia
   ·exact q
   ·have:=Int.mul_le_mul_of_nonneg_left (show 1 ≤ k by lia) (Int.le_of_lt hp)
    lia
  rw [this] at hk
  lia
theorem xu {p:Int} (hp:0 < p) {F y z:List Int} (hF:F ≠ []) (h1:aX F = 1) (h:ba p (mF F (cf y)) (mF F (cf z))):ba p (cf y) (cf z):=by
 obtain ⟨w,hw⟩:∃ w,w = rW y (z.map ((-1) * ·)):=⟨_,rfl⟩
 have cw:∀ k,cf w k = cf y k - cf z k:=fun k => by
  have:=iq one y (z.map ((-1) * ·)) k
  rw [nh,fe,fe,fe,← hw] at this
  rw [this]
  lia
 have h0:ba p (mF F (cf w)) (fun _ => 0):=by
  refine (ba.of_eq (bW cw F)).trans ((ba.of_eq fun k => vX (cf y) (cf z) F k).trans ?_)
  exact (h.sub (ba.refl p (mF F (cf z)))).trans (ba.of_eq fun k => by lia)
 have e:=D? hp hF h1 h0
 intro k
 have:=e k
 rw [cw] at this
 obtain ⟨j,hj⟩:=this
 have hj:cf y k - cf z k = 0 + p * j:=hj
 exact ⟨j,by lia⟩
theorem BC {p:Int} {f S W U:List Int} (h1:ba p (cf f) (mF S (cf U))) (h2:ba p (ip (cf f)) (mF W (cf U))):Dvd p U (mF S (ip (cf U))):=by
 have e:ba p (mF W (cf U)) (fun k => mF S (ip (cf U)) k + mF (dL S) (cf U) k):=h2.symm.trans (h1.ip.trans (ba.of_eq fun k => BB (cf U) S k))
 exact Dvd.sub ((Dvd.self W).cg e.symm) (Dvd.self (dL S))
theorem ba.Q? {p:Int} {as Jh:List Int} (h:ba p (cf as) (cf Jh)) (z:List Int):ba p (PG.mF as (cf z)) (PG.mF Jh (cf z)):=h.OH z
theorem Ea {p:Int} (hp:0 < p) {S U F P V a b:List Int} (hF:F ≠ []) (l1:aX F = 1) (hS:ba p (cf S) (mF P (cf F))) (hU:ba p (cf U) (mF V (cf F))) (hB:ba p (cf F) (fun k => mF a (cf S) k + mF b (cf U) k)) (h:Dvd p U (mF S (ip (cf U)))):Dvd p V (mF F (ip (cf V))):=by
 obtain ⟨D,hD⟩:∃ D,D = cI V:=⟨_,rfl⟩
 have cD:∀ k,cf D k = ip (cf V) k:=fun k => by rw [hD]; exact oH V k
 -- U is F times V,and aO LF
 have Ra:ba p (cf U) (mF F (cf V)):=hU.trans (ba.of_eq fun k => cJ V F k)
 have hd:ba p (ip (cf U)) (fun k => mF F (cf D) k + mF (dL F) (cf V) k):=Ra.ip.trans (ba.of_eq fun k => by rw [BB,bW cD])
 obtain ⟨E,hE⟩:∃ E,E = rW (bR F D) (bR (dL F) V):=⟨_,rfl⟩
 have cE:∀ k,cf E k = mF F (cf D) k + mF (dL F) (cf V) k:=fun k => by
  have:=iq one (bR F D) (bR (dL F) V) k
  rw [fe,fe,fe,← hE,fj,fj] at this
  exact this
 have Tj:ba p (ip (cf U)) (cf E):=hd.trans (ba.of_eq fun k => (cE k).symm)
 obtain ⟨x,hx⟩:=h
 -- F times (P times E) is F times (x times V)
 have Tn:ba p (cf S) (cf (bR P F)):=hS.trans (ba.of_eq fun k => (fj P F k).symm)
 have e1:ba p (mF S (ip (cf U))) (mF F (cf (bR P E))):=by
  refine (Tj.mF S).trans ((Tn.Q? E).trans (ba.of_eq fun k => ?_))
  rw [dN P F E,ig (cf E) P F,bW (fun j => (fj P E j).symm) F]
 have e2:ba p (mF x (cf U)) (mF F (cf (bR x V))):=by
  refine (Ra.mF x).trans (ba.of_eq fun k => ?_)
  rw [ig (cf V) x F,bW (fun j => (fj x V j).symm) F]
 have e3:ba p (cf (bR P E)) (cf (bR x V)):=xu hp hF l1 (e1.symm.trans (hx.trans e2))
 -- so V divides P times F times T_ LF
 have e4:ba p (fun k => mF P (mF F (cf D)) k + mF P (mF (dL F) (cf V)) k) (mF x (cf V)):=by
  refine ba.trans (ba.of_eq fun k => ?_) (e3.trans (ba.of_eq fun k => fj x V k))
  rw [fj,bW cE P,jH]
 have d1:Dvd p V (mF P (mF F (cf D))):=Dvd.sub ((Dvd.self x).cg e4) ((Dvd.self (dL F)).mul P)
 -- one of P and V
 have e5:ba p (cf [1]) (cf (rW (bR a P) (bR b V))):=by
  refine xu hp hF l1 ?_
  have q:ba p (cf F) (fun k => mF a (mF P (cf F)) k + mF b (mF V (cf F)) k):=hB.trans ((hS.mF a).add (hU.mF b))
  refine ba.trans (ba.of_eq fun k => cJ F [1] k) (ba.trans (ba.of_eq fun k => ?_) (q.trans (ba.of_eq fun k => ?_)))
  ·rw [Iy,Int.one_mul]
  ·rw [cJ F,iq,dN,dN]
 have e6:ba p (mF F (cf D)) (fun k => mF a (mF P (mF F (cf D))) k + mF b (mF V (mF F (cf D))) k):=by
  obtain ⟨Z,hZ⟩:∃ Z,Z = bR F D:=⟨_,rfl⟩
  have cZ:∀ k,cf Z k = mF F (cf D) k:=fun k => by rw [hZ]; exact fj F D k
  have q:=e5.Q? Z
  refine ba.trans (ba.of_eq fun k => ?_) (q.trans (ba.of_eq fun k => ?_))
  ·rw [← cZ,Iy,Int.one_mul]
  ·rw [iq,dN,dN]
   have c1:∀ (y:List Int) (j:Nat),mF y (cf Z) j = mF y (mF F (cf D)) j:=fun y j => bW cZ y j
   rw [bW (c1 P) a,bW (c1 V) b]
 have d2:Dvd p V (mF V (mF F (cf D))):=by
  refine ⟨bR F D,ba.of_eq fun k => ?_⟩
  rw [dN F D V,ig (cf D) V F]
  exact bW (fun j => cJ V D j) F k
 have d3:=(d1.mul a).add (d2.mul b)
 exact (d3.cg e6).cg (ba.of_eq fun k => (bW cD F k).symm)
theorem Iz {p c:Int} (hp:eQ p = true) {U:List Int} (hU:Row p U) (nU:U ≠ []) (l1:aX U = 1) (hc:¬ c % p = 0) (h:Dvd p U (mF [c] (ip (cf U)))):((U.length:Int) - 1) % p = 0:=by
 have hr:=bh hp
 have fC:0 < p:=by lia
 obtain ⟨_,t,_,_,_,ht⟩:=eT hp hc []
 obtain ⟨r,OP⟩:∃ r,r = bP ((cI U).map (·.fmod p)):=⟨_,rfl⟩
 have R:Row p r:=by rw [OP]; exact Row.of fC _
 have cr:ba p (cf r) (ip (cf U)):=by rw [OP]; exact (Row.cg fC _).trans (ba.of_eq (oH U))
 have lu:0 < U.length:=List.length_pos_iff.mpr nU
 have lr:r.length < U.length:=by
  have h1:=fi ((cI U).map (·.fmod p))
  have h2:(cI U).length = U.length - 1:=by unfold cI fo; rw [List.length_map,List.length_map,List.length_range]
  rw [← OP,List.length_map] at h1
  lia
 obtain ⟨x,hx⟩:=h
 have e1:ba p (fun k => t * (c * ip (cf U) k)) (mF (x.map (t * ·)) (cf U)):=(ba.smul t (ba.trans (ba.of_eq fun k => (Iy c (ip (cf U)) k).symm) hx)).trans (ba.of_eq fun k => (nh (cf U) t x k).symm)
 have e2:ba p (ip (cf U)) (fun k => t * (c * ip (cf U) k)):=fun k => by
  have q:Cg p (t * c) 1:=⟨(t * c) / p,by have:=Int.emod_add_mul_ediv (t * c) p; lia⟩
  have:=q.D7 (ip (cf U) k)
  rw [Int.one_mul,Int.mul_assoc] at this
  exact this.symm
 have rn:=l? fC R nU l1 lr (cr.trans (e2.trans e1))
 rw [rn] at cr
 by_cases To:U.length = 1
 ·rw [To]; rfl
 ·have q:=cr (U.length - 2)
  rw [jb] at q
  have e3:ip (cf U) (U.length - 2) = ((U.length:Int) - 1) * aX U:=by
   show (((U.length - 2:Nat):Int) + 1) * cf U (U.length - 2 + 1) = _
   rw [show U.length - 2 + 1 = U.length - 1 by lia]
   have:cf U (U.length - 1) = aX U:=rfl
   rw [this,show (((U.length - 2:Nat):Int) + 1) = (U.length:Int) - 1 by lia]
  rw [e3,l1,Int.mul_one] at q
  obtain ⟨k,hk⟩:=q
  have:(U.length:Int) - 1 = p * (-k):=by rw [Int.mul_neg]; lia
  rw [this]
  exact Int.mul_emod_right p (-k)
end PG
namespace PG
open PySem PySem.Spec L2 MN
open PyProof.Rows hiding St kindOf
theorem at2 {x y z:ah} {r:List ah}:L2.g! (x :: y :: z :: r) 2 = some z:=L2.ji (xs:=x :: y :: z :: r) (j:=2) rfl
theorem Tp {x y z w:ah} {r:List ah}:L2.g! (x :: y :: z :: w :: r) 3 = some w:=L2.ji (xs:=x :: y :: z :: w :: r) (j:=3) rfl
theorem Tq {x y z w v:ah} {r:List ah}:L2.g! (x :: y :: z :: w :: v :: r) 4 = some v:=L2.ji (xs:=x :: y :: z :: w :: v :: r) (j:=4) rfl
theorem jd {p:Int} (hp:eQ p = true) {n m:Nat} {as bs:List Int} {st:ag} (l1:st[n]? = some (aW as)) (l2:st[m]? = some (aW bs)) (ha:Row p as) (kA:as.length ≤ 100000) (km:bs.length ≤ 100000) :
  ∃ aC k,PM.cN [.int p,.loc n,.loc m] st = .ok (.loc k) aC ∧ Fr st aC ∧ st.length ≤ k ∧ aC[k]? = some (aW (j6 p as bs)):=by
 obtain ⟨g,k,e,o,l⟩:=ja (fq hp) (a! l1) (a! l2) kA km (ha.sm hp)
 exact ⟨st ++ g,k,e,Fr.app _ _,o,l⟩
theorem oI {p:Int} (hp:eQ p = true) {n m:Nat} {as bs:List Int} {st:ag} (l1:st[n]? = some (aW as)) (l2:st[m]? = some (aW bs)) (kA:as.length ≤ 100000) (km:bs.length ≤ 100000) :
  ∃ aC k,PM.bF [.int p,.loc n,.loc m,.int (-1)] st = .ok (.loc k) aC ∧ Fr st aC ∧ st.length ≤ k ∧ aC[k]? = some (aW (pF p as bs)):=by
 obtain ⟨g,k,e,o,l⟩:=dM (f:=-1) (fq hp) (a! l1) (a! l2) kA km (by decide) (by decide)
 exact ⟨st ++ g,k,e,Fr.app _ _,o,l⟩
theorem ir {p:Int} (hp:eQ p = true) (t:Int) {n:Nat} {as:List Int} {st:ag} (l1:st[n]? = some (aW as)) (ha:Row p as) (kA:as.length ≤ 100000) :
  ∃ aC k,PM.b7 [.int p,.loc n,.int t] st = .ok (.loc k) aC ∧ Fr st aC ∧ st.length ≤ k ∧ aC[k]? = some (aW (mulR p t as)):=by
 obtain ⟨g,k,e,o,l⟩:=iD (f:=t) (fq hp) (a! l1) kA (ha.sm hp)
 exact ⟨st ++ g,k,e,Fr.app _ _,o,l⟩
theorem yV {p:Int} (hp:eQ p = true) {A B:List Int} {N:Nat} {g0 u0 v0 g1 u1 v1:List Int} (h:fv p A B N g0 u0 v0 g1 u1 v1) (hN:N ≤ 50000) (hg:g1 ≠ []) {a0 a1 a2 b0 b1 b2:Nat} {st:ag}
  (LG:st[a0]? = some (aW g0)) (Jk:st[a1]? = some (aW u0)) (MS:st[a2]? = some (aW v0)) (Jl:st[b0]? = some (aW g1)) (MU:st[b1]? = some (aW u1)) (MV:st[b2]? = some (aW v1)) :
  ∃ aC c0 c1 c2,PM.dS [.int p,.tup [.loc a0,.loc a1,.loc a2],.tup [.loc b0,.loc b1,.loc b2]] st = .ok (.tup [.loc c0,.loc c1,.loc c2]) aC ∧ Fr st aC ∧
   aC[c0]? = some (aW (ik p g0 g1)) ∧ aC[c1]? = some (aW (pF p u0 (j6 p (c6 p g0 g1) u1))) ∧ aC[c2]? = some (aW (pF p v0 (j6 p (c6 p g0 g1) v1))):=by
 have hr:=bh hp
 have fC:0 < p:=by lia
 have hl:¬ aX g1 % p = 0:=by
  have:=h.r1.last fC hg
  rw [Int.emod_eq_of_lt (by lia) this.2]; lia
 have i1:=h.Iv
 have i2:=h.MQ
 have i3:=h.LC
 have i4:=h.MR
 obtain ⟨s1,k1,k2,e1,F1,_,_,_,m1,m2⟩:=eu hp (a! LG) Jl hg hl (by lia) (by lia)
 obtain ⟨sq,sr,slt,sc,sl⟩:=d_ hp (as:=g0) hg hl
 obtain ⟨s2,t1,e2,F2,_,n1⟩:=jd hp m1 (F1 _ _ MU) sq (by lia) (by lia)
 obtain ⟨s3,t2,e3,F3,_,n2⟩:=jd hp (F2 _ _ m1) (F2 _ _ (F1 _ _ MV)) sq (by lia) (by lia)
 have q1:=(oG p (c6 p g0 g1) u1).1
 have q2:=(oG p (c6 p g0 g1) v1).1
 have hc:c9 (fun _ => True) (bb 0) cO (ao PM.cN (aa (ae 3) (aa (ai dQ (ae 2) (mC (.int 0))) (aa (ai dQ (ae 1) (ae 0)) aq)))) [.int 1,.int 2] [none,some (.tup [.loc b0,.loc b1,.loc b2]),some (.tup [.loc k1,.loc k2]),some (.int p)] s1 [] = .ok [.loc t1,.loc t2] s3:=by
  rw [qo (u:=.int 1) (y:=.loc t1) (τ1:=[some (.int 1),some (.tup [.loc b0,.loc b1,.loc b2]),some (.tup [.loc k1,.loc k2]),some (.int p)]) (st1:=s2) trivial rfl (by simp only [aj,aw,aG,ax,az,au,a8,aA,ar,ay,aJ,gW,aH,cz xi,cz Lv,e2]),
   qo (u:=.int 2) (y:=.loc t2) (τ1:=[some (.int 2),some (.tup [.loc b0,.loc b1,.loc b2]),some (.tup [.loc k1,.loc k2]),some (.int p)]) (st1:=s3) trivial rfl (by simp only [aj,aw,aG,ax,az,au,a8,aA,ar,ay,aJ,gW,aH,cz xi,cz at2,e3]),yR trivial]
  rfl
 have iN:iV 1 [2,3,0] [some (.int p),some (.tup [.loc a0,.loc a1,.loc a2]),some (.tup [.loc b0,.loc b1,.loc b2]),some (.tup [.loc k1,.loc k2]),none] = [none,some (.tup [.loc b0,.loc b1,.loc b2]),some (.tup [.loc k1,.loc k2]),some (.int p)]:=rfl
 have OQ:=F1.trans (F2.trans F3)
 have F4:=Fr.app s3 [aQ.lst [.loc t1,.loc t2]]
 have lt:=bw s3 [.loc t1,.loc t2]
 obtain ⟨s4,zl⟩:∃ s,s3 ++ [aQ.lst [.loc t1,.loc t2]] = s:=⟨_,rfl⟩
 obtain ⟨k4,Rb⟩:∃ k,s3.length = k:=⟨_,rfl⟩
 rw [zl] at F4 lt
 rw [Rb] at lt
 obtain ⟨s5,c1,e5,F5,_,x1⟩:=oI hp (F4 _ _ (OQ _ _ Jk)) (F4 _ _ (F3 _ _ n1)) (by lia) (by lia)
 obtain ⟨s6,c2,e6,F6,_,x2⟩:=oI hp (F5 _ _ (F4 _ _ (OQ _ _ MS))) (F5 _ _ (F4 _ _ n2)) (by lia) (by lia)
 have Tr:=ee lt (xi (x:=.loc t1) (r:=[.loc t2]))
 have Ts:=ee (F5.it lt) (Lv (x:=.loc t1) (y:=.loc t2) (r:=[]))
 refine ⟨s6,k2,c1,c2,?_,OQ.trans (F4.trans (F5.trans F6)),F6 _ _ (F5 _ _ (F4 _ _ (F3 _ _ (F2 _ _ m2)))),F6 _ _ x1,x2⟩
 simp only [PM.dS,aR,aj,av,aD,aY,aw,aG,ax,az,au,l6,bp,bV,ju,gI,a8,aA,ar,i5,ay,fZ,jF,aB,aL,bB,fh,jY,yz,aJ,gW,aT,aH,List.map_cons,List.map_nil,List.cons_append,List.nil_append,List.replicate_succ,List.replicate_zero,List.set_cons_zero,List.set_cons_succ,Nat.reduceSub,List.length_cons,List.length_nil,Nat.reduceAdd,sizeLine_eq,Nat.reduceLeDiff,↓reduceIte,cz xi,cz Lv,cz at2,e1,iN,hc,zl,Rb,Tr,e5,Ts,e6]
end PG
namespace PG
open PySem PySem.Spec L2 MN
open PyProof.Rows hiding St kindOf
noncomputable abbrev IA:MT:=bX (ai qV (ao bY (aa (ai dQ (ae 4) (mC (.int 0))) aq)) (mC (.int 0)))
noncomputable abbrev IB:MB:=aK (aU 5 (ao PM.dS (aa (ae 0) (aa (ae 3) (aa (ae 4) aq))))) (aK (aU 3 (ae 4)) (aU 4 (ae 5)))
noncomputable def kY (a b c:Nat):Option ah:=some (.tup [.loc a,.loc b,.loc c])
noncomputable def OR (μ:MN.Env) (s:ag):Nat:=match (μ[4]?:Option (Option ah)) with
 | some (some (.tup (.loc k :: _))) => d9 k s
 | _ => 0
structure uj (p:Int) (A B:List Int) (N:Nat) (n m:Nat) (st:ag) (μ:MN.Env) (s:ag) (a0 a1 a2 b0 b1 b2:Nat) (g0 u0 v0 g1 u1 v1:List Int):Prop where
 env:∃ x5,μ = [some (.int p),some (.loc n),some (.loc m),kY a0 a1 a2,kY b0 b1 b2,x5,none,none,none,none]
 fr:Fr st s
 inv:fv p A B N g0 u0 v0 g1 u1 v1
 LG:s[a0]? = some (aW g0)
 Jk:s[a1]? = some (aW u0)
 MS:s[a2]? = some (aW v0)
 Jl:s[b0]? = some (aW g1)
 MU:s[b1]? = some (aW u1)
 MV:s[b2]? = some (aW v1)
theorem BD {p:Int} (hp:eQ p = true) {A B:List Int} {N n m:Nat} (hN:N ≤ 50000) {st:ag} {μ:MN.Env} {s:ag} {a0 a1 a2 b0 b1 b2:Nat} {g0 u0 v0 g1 u1 v1:List Int} (h:uj p A B N n m st μ s a0 a1 a2 b0 b1 b2 g0 u0 v0 g1 u1 v1) :
  ∃ μ' s' a0 a1 a2 b0 b1 b2 g u v u1 v1,cb IA IB μ s = .nx μ' s' ∧ uj p A B N n m st μ' s' a0 a1 a2 b0 b1 b2 g u v [] u1 v1:=by
 obtain ⟨μ',s',e,a0,a1,a2,b0,b1,b2,g,u,v,u1,v1,hq⟩:=dH (t:=IA) (body:=IB)
  (fun μ s => ∃ a0 a1 a2 b0 b1 b2 g0 u0 v0 g1 u1 v1,uj p A B N n m st μ s a0 a1 a2 b0 b1 b2 g0 u0 v0 g1 u1 v1) OR
  (fun μ s => ∃ a0 a1 a2 b0 b1 b2 g u v u1 v1,uj p A B N n m st μ s a0 a1 a2 b0 b1 b2 g u v [] u1 v1)
  (by
   rintro μ s ⟨a0,a1,a2,b0,b1,b2,g0,u0,v0,g1,u1,v1,h⟩
   obtain ⟨x5,rfl⟩:=h.env
   obtain ⟨L,hL⟩:∃ L:Int,L = (g1.length:Int):=⟨_,rfl⟩
   have kl:bY [.loc b0] s = .ok (.int L) s:=by rw [bf (a! h.Jl),aV,hL]
   by_cases hg:g1 = []
   ·subst hg
    have h0:decide ((0:Int) < L) = false:=decide_eq_false (by rw [hL]; simp)
    refine .inl ⟨s,?_,a0,a1,a2,b0,b1,b2,g0,u0,v0,u1,v1,h⟩
    simp only [kY,aj,aw,aG,ax,az,au,a8,aF,aE,aA,ar,ay,e_,gW,aH,cz xi,kl,h0]
   ·have Q!:0 < g1.length:=List.length_pos_iff.mpr hg
    have h0:decide ((0:Int) < L) = true:=decide_eq_true (by lia)
    obtain ⟨s',c0,c1,c2,e,F,l0,l1,l2⟩:=yV hp h.inv hN hg h.LG h.Jk h.MS h.Jl h.MU h.MV
    have hl:¬ aX g1 % p = 0:=by
     have:=h.inv.r1.last (by have:=bh hp; lia) hg
     rw [Int.emod_eq_of_lt (by lia) this.2]; lia
    have slt:=(d_ hp (as:=g0) hg hl).2.2.1
    refine .inr ⟨s,[some (.int p),some (.loc n),some (.loc m),kY b0 b1 b2,kY c0 c1 c2,kY c0 c1 c2,none,none,none,none],s',?_,.inl ?_,⟨b0,b1,b2,c0,c1,c2,g1,u1,v1,_,_,_,⟨_,rfl⟩,h.fr.trans F,h.inv.step hp hg,F _ _ h.Jl,F _ _ h.MU,F _ _ h.MV,l0,l1,l2⟩,?_⟩
    ·simp only [kY,aj,aw,aG,ax,az,au,a8,aF,aE,aA,ar,ay,e_,gW,aH,cz xi,kl,h0]
    ·simp only [kY,aj,av,aD,az,au,bV,aA,ar,ay,aB,bB,aJ,gW,aH,List.set_cons_zero,List.set_cons_succ,e]
    ·show d9 c0 s' < d9 b0 s
     unfold d9
     rw [a! l0,a! h.Jl]
     show ((ik p g0 g1).map ah.int).length < (g1.map ah.int).length
     rw [aV,aV]; exact slt)
  μ s ⟨a0,a1,a2,b0,b1,b2,g0,u0,v0,g1,u1,v1,h⟩
 exact ⟨μ',s',a0,a1,a2,b0,b1,b2,g,u,v,u1,v1,e,hq⟩
structure BE (p:Int) (A B G S T U V:List Int):Prop where
 rG:Row p G
 rS:Row p S
 rT:Row p T
 rU:Row p U
 rV:Row p V
 nG:G ≠ []
 lG:aX G = 1
 cA:ba p (cf A) (mF S (cf G))
 cB:ba p (cf B) (mF T (cf G))
 cG:ba p (cf G) (fun k => mF U (cf A) k + mF V (cf B) k)
 Tt:G.length ≤ 50000 ∧ S.length ≤ 50000 ∧ T.length ≤ 50000 ∧ U.length ≤ 50000 ∧ V.length ≤ 50000
theorem BF {p:Int} (hp:eQ p = true) {n m:Nat} {A B:List Int} {st:ag} (ln:st[n]? = some (aW A)) (lm:st[m]? = some (aW B)) (hA:Row p A) (hB:Row p B) (hn:A ≠ [] ∨ B ≠ []) (kA:A.length ≤ 5000) (km:B.length ≤ 5000) :
  ∃ aC k1 k2 k3 k4 k5 G S T U V,PM.met [.int p,.loc n,.loc m] st = .ok (.tup [.loc k1,.loc k2,.loc k3,.loc k4,.loc k5]) aC ∧ Fr st aC ∧ BE p A B G S T U V ∧ jI aC [k1,k2,k3,k4,k5] [G,S,T,U,V] ∧ [k1,k2,k3,k4,k5].Nodup ∧ (∀ k ∈ [k1,k2,k3,k4,k5],st.length ≤ k):=by
 have hr:=bh hp
 have fC:0 < p:=by lia
 have l1:=bE (bE (bE (bj st [.int 1]) [aQ.lst []]) [aQ.lst []]) [aQ.lst [.int 1]]
 have l2:=bE (bE (bj (st ++ [aQ.lst [.int 1]]) []) [aQ.lst []]) [aQ.lst [.int 1]]
 have l3:=bE (bj (st ++ [aQ.lst [.int 1]] ++ [aQ.lst []]) []) [aQ.lst [.int 1]]
 have l4:=bj (st ++ [aQ.lst [.int 1]] ++ [aQ.lst []] ++ [aQ.lst []]) [.int 1]
 have F0:Fr st (st ++ [aQ.lst [.int 1]] ++ [aQ.lst []] ++ [aQ.lst []] ++ [aQ.lst [.int 1]]):=(((Fr.app st _).more _).more _).more _
 obtain ⟨i1,Jm⟩:∃ i,st.length = i:=⟨_,rfl⟩
 obtain ⟨i2,Jn⟩:∃ i,(st ++ [aQ.lst [.int 1]]).length = i:=⟨_,rfl⟩
 obtain ⟨i3,IC⟩:∃ i,(st ++ [aQ.lst [.int 1]] ++ [aQ.lst []]).length = i:=⟨_,rfl⟩
 obtain ⟨i4,Rc⟩:∃ i,(st ++ [aQ.lst [.int 1]] ++ [aQ.lst []] ++ [aQ.lst []]).length = i:=⟨_,rfl⟩
 obtain ⟨s0,Jo⟩:∃ s,st ++ [aQ.lst [.int 1]] ++ [aQ.lst []] ++ [aQ.lst []] ++ [aQ.lst [.int 1]] = s:=⟨_,rfl⟩
 rw [Jm,Jo] at l1
 rw [Jn,Jo] at l2
 rw [IC,Jo] at l3
 rw [Rc,Jo] at l4
 rw [Jo] at F0
 have start:uj p A B (A.length + B.length + 1) n m s0 [some (.int p),some (.loc n),some (.loc m),kY n i1 i2,kY m i3 i4,none,none,none,none,none] s0 n i1 i2 m i3 i4 A [1] [] B [] [1] :=
  ⟨⟨_,rfl⟩,Fr.refl _,fv.start hr.1 hA hB hn,F0 _ _ ln,l1,l2,F0 _ _ lm,l3,l4⟩
 obtain ⟨μ',s1,a0,a1,a2,b0,b1,b2,g,u,v,u1,v1,ew,hq⟩:=BD hp (by lia) start
 obtain ⟨x5,rfl⟩:=hq.env
 have hg:g ≠ []:=by rcases hq.inv.ne with z | z; exact z; exact absurd rfl z
 have Tu:=hq.inv.r0.last fC hg
 obtain ⟨gi,t,ei,t1,t2,t3⟩:=eT hp (n:=aX g) (by rw [Int.emod_eq_of_lt (by lia) Tu.2]; lia) s1
 obtain ⟨rG,nG,lG,cA,cB,cG⟩:=hq.inv.done hp hA hB t3
 have F2:=Fr.app s1 gi
 obtain ⟨s2,gz⟩:∃ s,s1 ++ gi = s:=⟨_,rfl⟩
 rw [gz] at ei F2
 have j1:=hq.inv.Iv
 have j2:=hq.inv.LC
 have j3:=hq.inv.MR
 have gx:=ee (a! hq.LG) (nc hg)
 obtain ⟨s3,k1,e3,F3,o1,y1⟩:=ir hp t (F2 _ _ hq.LG) hq.inv.r0 (by lia)
 have T!:=jc p t g
 have zo:¬ aX (mulR p t g) % p = 0:=by rw [lG,Int.emod_eq_of_lt (by lia) (by lia)]; lia
 have OS:=F0.trans (hq.fr.trans (F2.trans F3))
 obtain ⟨s4,k2,z2,e4,F4,o2,_,_,y2,_⟩:=eu hp (a! (OS _ _ ln)) y1 nG zo (by lia) (by lia)
 obtain ⟨s5,k3,z3,e5,F5,o3,_,_,y3,_⟩:=eu hp (a! (F4 _ _ (OS _ _ lm))) (F4 _ _ y1) nG zo (by lia) (by lia)
 have Rf:=F2.trans (F3.trans (F4.trans F5))
 obtain ⟨s6,k4,e6,F6,o4,y4⟩:=ir hp t (Rf _ _ hq.Jk) hq.inv.Q6 (by lia)
 obtain ⟨s7,k5,e7,F7,o5,y5⟩:=ir hp t (F6 _ _ (Rf _ _ hq.MS)) hq.inv.Q7 (by lia)
 have Rg:=F4.trans (F5.trans (F6.trans F7))
 have Tv:=OS.trans Rg
 obtain ⟨qA,_,_,_,T?⟩:=d_ hp (as:=A) nG zo
 obtain ⟨qB,_,_,_,Ua⟩:=d_ hp (as:=B) nG zo
 have lu:=jc p t u
 have lv:=jc p t v
 have w1:=bJ y1
 have w2:=bJ y2
 have w3:=bJ y3
 have w4:=bJ y4
 have w5:=bJ y5
 have n3:st.length ≤ s2.length:=(F0.trans (hq.fr.trans F2)).len
 have f4:=F4.len
 have f5:=F5.len
 have f6:=F6.len
 have f3:=F3.len
 refine ⟨s7,k1,k2,k3,k4,k5,mulR p t g,c6 p A (mulR p t g),c6 p B (mulR p t g),mulR p t u,mulR p t v,?_,Tv,⟨rG,qA,qB,Row.of fC _,Row.of fC _,nG,lG,cA,cB,cG,by lia⟩,?_,?_,?_⟩
 ·have MW:cb IA IB [some (.int p),some (.loc n),some (.loc m),some (.tup [.loc n,.loc i1,.loc i2]),some (.tup [.loc m,.loc i3,.loc i4]),none,none,none,none,none] s0 = .nx [some (.int p),some (.loc n),some (.loc m),kY a0 a1 a2,kY b0 b1 b2,x5,none,none,none,none] s1:=ew
  simp only [PM.met,aR,aj,av,aD,aY,aw,aG,ax,az,au,l6,i6,bp,bV,a8,aA,ar,i5,fY,ay,fZ,jF,aB,aL,bB,aJ,gW,aT,aH,List.map_cons,List.map_nil,List.cons_append,List.nil_append,List.replicate_succ,List.replicate_zero,List.set_cons_zero,List.set_cons_succ,Nat.reduceSub,List.length_cons,List.length_nil,Nat.reduceAdd,sizeLine_eq,Nat.reduceLeDiff,↓reduceIte,Jm,Jn,IC,Rc,Jo,MW,kY,cz xi,cz Lv,cz at2,gx,ei,e3,e4,e5,e6,e7]
 ·exact .cons (Rg _ _ y1) (.cons ((F5.trans (F6.trans F7)) _ _ y2) (.cons ((F6.trans F7) _ _ y3) (.cons (F7 _ _ y4) (.cons y5 (.nil _)))))
 ·simp only [List.nodup_cons,List.mem_cons,List.not_mem_nil,or_false,not_or,List.nodup_nil,and_true,not_false_eq_true]
  lia
 ·intro k hk
  simp only [List.mem_cons,List.not_mem_nil,or_false] at hk
  lia
theorem Eb {p:Int} (hp:eQ p = true) {n m:Nat} {A B:List Int} {st:ag} (ln:st[n]? = some (aW A)) (lm:st[m]? = some (aW B)) (hA:Row p A) (hB:Row p B) (hn:A ≠ [] ∨ B ≠ []) (kA:A.length ≤ 5000) (km:B.length ≤ 5000) :
  ∃ aC k1 k2 k3 k4 k5 G S T U V,PM.meet [.int p,.loc n,.loc m] st = .ok (.tup [.loc k1,.loc k2,.loc k3,.loc k4,.loc k5]) aC ∧ Fr st aC ∧ BE p A B G S T U V ∧ jI aC [k1,k2,k3,k4,k5] [G,S,T,U,V] ∧ [k1,k2,k3,k4,k5].Nodup ∧ (∀ k ∈ [k1,k2,k3,k4,k5],st.length ≤ k):=by
 obtain ⟨g,e⟩:=bG hp st
 obtain ⟨aC,k1,k2,k3,k4,k5,G,S,T,U,V,em,F,ho,hr,nd,hk⟩:=BF hp (bE ln g) (bE lm g) hA hB hn kA km
 obtain ⟨LA,MP⟩:∃ L:Int,L = (A.length:Int):=⟨_,rfl⟩
 obtain ⟨LB,Iu⟩:∃ L:Int,L = (B.length:Int):=⟨_,rfl⟩
 have ka:bY [.loc n] (st ++ g) = .ok (.int LA) (st ++ g):=by rw [bf (a! (bE ln g)),aV,MP]
 have kb:bY [.loc m] (st ++ g) = .ok (.int LB) (st ++ g):=by rw [bf (a! (bE lm g)),aV,Iu]
 refine ⟨aC,k1,k2,k3,k4,k5,G,S,T,U,V,?_,(Fr.app st g).trans F,ho,hr,nd,fun k z => by have:=hk k z; rw [List.length_append] at this; lia⟩
 by_cases za:A = []
 ·have hb:B ≠ []:=by rcases hn with z | z; exact absurd za z; exact z
  have D9:0 < B.length:=List.length_pos_iff.mpr hb
  have h1:(LA == 0) = true:=by rw [MP,za]; rfl
  have h2:(LB == 0) = false:=by simp; lia
  simp only [PM.meet,aR,aj,av,aD,aY,aw,aG,ax,dB,az,au,dy,bp,a9,a8,aF,aE,cH,aA,ar,ay,aB,aP,bA,aL,aM,bc,aJ,aT,aH,List.map_cons,List.map_nil,List.cons_append,List.nil_append,List.replicate_zero,Nat.reduceSub,List.length_cons,List.length_nil,Nat.reduceAdd,e,ka,kb,h1,h2,em]
 ·have S5:0 < A.length:=List.length_pos_iff.mpr za
  have h1:(LA == 0) = false:=by simp; lia
  simp only [PM.meet,aR,aj,av,aD,aY,aw,aG,ax,fX,az,au,dy,bp,a9,a8,aF,aE,cH,aA,ar,ay,aB,aP,bA,aL,aM,bc,aJ,aT,aH,List.map_cons,List.map_nil,List.cons_append,List.nil_append,List.replicate_zero,Nat.reduceSub,List.length_cons,List.length_nil,Nat.reduceAdd,e,ka,h1,em]
theorem Ec {p:Int} (hp:eQ p = true) {n m:Nat} {st:ag} (ln:st[n]? = some (aW [])) (lm:st[m]? = some (aW [])):∃ g,PM.meet [.int p,.loc n,.loc m] st = .err "NoMeet" (st ++ g):=by
 obtain ⟨g,e⟩:=bG hp st
 have ka:bY [.loc n] (st ++ g) = .ok (.int 0) (st ++ g):=by rw [bf (a! (bE ln g))]; rfl
 have kb:bY [.loc m] (st ++ g) = .ok (.int 0) (st ++ g):=by rw [bf (a! (bE lm g))]; rfl
 have z:((0:Int) == 0) = true:=rfl
 exact ⟨g,by simp only [PM.meet,aR,aj,av,aD,dZ,du,aw,aG,ax,dB,az,au,dy,bz,jX,a8,aF,aE,cH,aA,ar,ay,aB,bA,aM,i7,bc,aJ,aT,aH,List.map_cons,List.map_nil,List.cons_append,List.nil_append,List.replicate_zero,Nat.reduceSub,List.length_cons,List.length_nil,Nat.reduceAdd,sizeLine_eq,Nat.reduceLeDiff,↓reduceIte,e,ka,kb,z]⟩
end PG
namespace PG
open PySem PySem.Spec L2 MN
open PyProof.Rows hiding St kindOf
end PG
namespace PG
open PySem PySem.Spec L2 MN
open PyProof.Rows hiding St kindOf
noncomputable abbrev OT:=List Int × Int
noncomputable def LH (A:List OT) (k:List Int):Int:=((A.find? fun p => decide (p.1 = k)).map (·.2)).getD 0
end PG
namespace PG
open PySem PySem.Spec L2 MN
open PyProof.Rows hiding St kindOf
noncomputable def told (A:List OT):List OT:=((SD (A.map (·.1))).filter fun k => LH A k != 0).map fun k => (k,LH A k)
end PG
namespace PG
open PySem PySem.Spec L2 MN
open PyProof.Rows hiding St kindOf
end PG
namespace PG
open PySem PySem.Spec L2 MN
open PyProof.Rows hiding St kindOf
end PG
namespace PG
open PySem PySem.Spec L2 MN
open PyProof.Rows hiding St kindOf
end PG
namespace PG
open PySem PySem.Spec L2 MN
open PyProof.Rows hiding St kindOf
end PG
namespace PG
open PySem PySem.Spec L2 MN
open PyProof.Rows hiding St kindOf
end PG
namespace PG
open PySem PySem.Spec L2 MN
open PyProof.Rows hiding St kindOf
end PG
namespace PG
open PySem PySem.Spec L2 MN
open PyProof.Rows hiding St kindOf
end PG
namespace PG
open PySem PySem.Spec L2 MN
open PyProof.Rows hiding St kindOf
end PG
namespace PG
open PySem PySem.Spec L2 MN
open PyProof.Rows hiding St kindOf
section
variable {μ:MN.Env} {s s1 s2:ag} {a b:ME} {f:F2} {x y:ah} {r:cn ah} {t u:MT} {c:Bool} {B:MB}
theorem iu (h1:a μ s = .ok x s1) (h2:b μ s1 = .ok y s2):ai f a b μ s = f x y s2:=by
 show (a μ s).bind _ = _
 rw [h1]
 show (b μ s1).bind _ = _
 rw [h2]
theorem rX (h:a μ s = .ok (.bl c) s1):bX a μ s = .ok c s1:=by rw [aE,h]; rfl
theorem LJ (h1:t μ s = .ok false s1) (h2:u μ s1 = .ok false s2):vi t u μ s = .ok false s2:=by rw [gH,h1,aj,ie,h2]
theorem LK (h:t μ s = .ok true s1):nT t μ s = .ok false s1:=by rw [jW,h]; rfl
theorem LL (h:t μ s = .ok false s1):gN t B bM μ s = .nx μ s1:=by rw [aM,h,av,a9]; rfl
end
theorem kZ {s:ag} {n:Nat} {c:aQ} (h:s[n]? = some c) (more:ag):(s ++ more)[n]? = some c:=by
 have:n < s.length:=by
  rcases Nat.lt_or_ge n s.length with q | q
  ·exact q
  ·rw [List.getElem?_eq_none q] at h; cases h
 rw [List.getElem?_append_left this]; exact h
end PG
namespace PG
open PySem PySem.Spec L2 MN
open PyProof.Rows hiding St kindOf
end PG
namespace PG
open PySem PySem.Spec L2 MN
open PyProof.Rows hiding St kindOf
end PG
namespace PG
open PySem PySem.Spec L2 MN
open PyProof.Rows hiding St kindOf
end PG
namespace PG
open PySem PySem.Spec L2 MN
open PyProof.Rows hiding St kindOf
end PG
namespace PG
open PySem PySem.Spec L2 MN
open PyProof.Rows hiding St kindOf
end PG
namespace PG
open PySem PySem.Spec L2 MN
open PyProof.Rows hiding St kindOf
end PG
namespace PG
open PySem PySem.Spec L2 MN
open PyProof.Rows hiding St kindOf
end PG
namespace PG
open PySem PySem.Spec L2 MN
open PyProof.Rows hiding St kindOf
section
variable {μ:MN.Env} {s s1 s2:ag} {m:ME} {o j:Int} {t:MT} {B:MB}
theorem gf {i:Nat} {v:ah} (h:m μ s = .ok v s1):aU i m μ s = .nx (μ.set i (some v)) s1:=by
 rw [bB,h,av]; rfl
theorem ID {v:ah} (h:m μ s = .ok v s1):aa m aq μ s = .ok [v] s1:=by rw [ar,h,aj,az,aA,aj,au]
theorem IE {m2:ME} {v w:ah} (h:m μ s = .ok v s1) (h2:m2 μ s1 = .ok w s2):aa m (aa m2 aq) μ s = .ok [v,w] s2:=by rw [ar,h,aj,az,ID h2,aj,au]
theorem BG {m2:MA} {v:ah} {ws:List ah} (h:m μ s = .ok v s1) (h2:m2 μ s1 = .ok ws s2):aa m m2 μ s = .ok (v :: ws) s2:=by rw [ar,h,aj,az,h2,aj,au]
theorem jm {f:FN} {a:MA} {vs:List ah} (h:a μ s = .ok vs s1):ao f a μ s = f vs s1:=by rw [ay,h,aj]
theorem oJ {a:MA} {vs:List ah} (h:a μ s = .ok vs s1) (hl:vs.length ≤ 1000):cF a μ s = .ok (.loc s1.length) (s1 ++ [.lst vs]):=by
 rw [fY,h,aj,i6]
 exact if_pos (by rw [sizeLine_eq]; lia)
end
end PG
namespace PG
open PySem PySem.Spec L2 MN
open PyProof.Rows hiding St kindOf
section
variable {p:Int} {n m:Nat} {A B:List Int} {st:ag}
theorem uk (hp:eQ p = true) (ln:st[n]? = some (aW A)) (hA:Row p A) (nA:A ≠ []) (hl:A.length ≤ 100000) :
  ∃ aC k t,PM.de [.int p,.loc n] st = .ok (.loc k) aC ∧ Fr st aC ∧ st.length ≤ k ∧ aC[k]? = some (aW (mulR p t A)) ∧ (t * aX A) % p = 1:=by
 have hr:=bh hp
 have la:=hA.last (by lia) nA
 have nz:¬ aX A % p = 0:=by rw [Int.emod_eq_of_lt (by lia) la.2]; lia
 obtain ⟨g,t,e1,_,_,t3⟩:=eT hp nz st
 obtain ⟨s',k,e2,F,lk,ck⟩:=ir hp t (show (st ++ g)[n]? = some (aW A) from Fr.app st g _ _ ln) hA hl
 refine ⟨s',k,t,?_,(Fr.app st g).trans F,by have:=lk; rw [List.length_append] at this; lia,ck,t3⟩
 have ix:ai dQ (ae 1) (h! (mC (.int 1))) [some (.int p),some (.loc n)] st = .ok (.int (aX A)) st:=by
  rw [iu (x:=.loc n) (s1:=st) rfl (y:=.int (-1)) (s2:=st) rfl]
  exact ee (a! ln) (nc nA)
 unfold PM.de
 rw [aR (np:=2) (us:=[ah.int p,.loc n]) rfl]
 show (bD _ [some (.int p),some (.loc n)] st).fin = _
 rw [aL,jm (BG (v:=.int p) (s1:=st) rfl (IE (v:=.loc n) (s1:=st) rfl (w:=.int t) (s2:=st ++ g) (by rw [jm (IE (v:=.int p) (s1:=st) rfl ix),e1]))),e2,av]
 rfl
structure Tw (p:Int) (A B G:List Int):Prop where
 r:Row p G
 n:G ≠ []
 l:aX G = 1
 a:ba p (cf A) (mF (c6 p A G) (cf G))
 b:ba p (cf B) (mF (c6 p B G) (cf G))
 c:∃ u v,ba p (cf G) (fun k => mF u (cf A) k + mF v (cf B) k)
noncomputable def OU (μ:MN.Env) (s:ag):Nat:=match (μ[4]?:Option (Option ah)) with
 | some (some (.loc k)) => d9 k s
 | _ => 0
structure xw (p:Int) (A B:List Int) (N:Nat) (st:ag) (x1 x2:Option ah) (μ:MN.Env) (s:ag) (a b:Nat) (g0 u0 v0 g1 u1 v1:List Int):Prop where
 env:∃ x5,μ = [some (.int p),x1,x2,some (.loc a),some (.loc b),x5]
 fr:Fr st s
 inv:fv p A B N g0 u0 v0 g1 u1 v1
 la:s[a]? = some (aW g0)
 lb:s[b]? = some (aW g1)
noncomputable abbrev LM:MT:=bX (ai qV (ao bY (aa (ae 4) aq)) (mC (.int 0)))
noncomputable abbrev MX:MB:=aK (aU 5 (ai dQ (ao PM.parted (aa (ae 0) (aa (ae 3) (aa (ae 4) aq)))) (mC (.int 1)))) (aK (aU 3 (ae 4)) (aU 4 (ae 5)))
theorem Ed (hp:eQ p = true) {N:Nat} (hN:N ≤ 50000) {x1 x2:Option ah} {μ:MN.Env} {s:ag} {a b:Nat} {g0 u0 v0 g1 u1 v1:List Int} (h:xw p A B N st x1 x2 μ s a b g0 u0 v0 g1 u1 v1) :
  ∃ μ' s',cb LM MX μ s = .nx μ' s' ∧ ∃ a b g u v u1 v1,xw p A B N st x1 x2 μ' s' a b g u v [] u1 v1:=by
 refine dH (t:=LM) (body:=MX) (fun μ s => ∃ a b g0 u0 v0 g1 u1 v1,xw p A B N st x1 x2 μ s a b g0 u0 v0 g1 u1 v1) OU (fun μ s => ∃ a b g u v u1 v1,xw p A B N st x1 x2 μ s a b g u v [] u1 v1) ?_ μ s ⟨a,b,g0,u0,v0,g1,u1,v1,h⟩
 rintro μ s ⟨a,b,g0,u0,v0,g1,u1,v1,h⟩
 obtain ⟨x5,rfl⟩:=h.env
 have uU:LM [some (.int p),x1,x2,some (.loc a),some (.loc b),x5] s = .ok (decide ((0:Int) < (g1.length:Int))) s:=by
  refine rX ?_
  rw [iu (x:=.int ((g1.map ah.int).length:Int)) (s1:=s) (by rw [jm (ID (v:=.loc b) (s1:=s) rfl),bf (a! h.lb)]) (y:=.int 0) (s2:=s) rfl,List.length_map]
  rfl
 by_cases hg:g1 = []
 ·subst hg
  exact .inl ⟨s,by rw [uU]; rfl,a,b,g0,u0,v0,u1,v1,h⟩
 ·have Q!:0 < g1.length:=List.length_pos_iff.mpr hg
  have hr:=bh hp
  have Jk:=h.inv.r1.last (by lia) hg
  have nz:¬ aX g1 % p = 0:=by rw [Int.emod_eq_of_lt (by lia) Jk.2]; lia
  have l0:=h.inv.Iv
  have l1:=h.inv.LC
  obtain ⟨s',k1,k2,e,F,_,_,_,c1,c2⟩:=eu hp (a! h.la) h.lb hg nz (by lia) (by lia)
  refine .inr ⟨s,[some (.int p),x1,x2,some (.loc b),some (.loc k2),some (.loc k2)],s',by rw [uU,decide_eq_true (by lia)],.inl ?_,⟨b,k2,g1,u1,v1,_,_,_,⟨_,rfl⟩,h.fr.trans F,h.inv.step hp hg,F _ _ h.lb,c2⟩,?_⟩
  ·show aK _ _ _ s = _
   rw [aB,gf (v:=.loc k2) (s1:=s') (by rw [iu (x:=.tup [.loc k1,.loc k2]) (s1:=s') (by rw [jm (vs:=[.int p,.loc a,.loc b]) (s1:=s) rfl,e]) (y:=.int 1) (s2:=s') rfl]; rfl),aD]
   rfl
  ·show d9 k2 s' < d9 b s
   unfold d9
   rw [a! c2,a! h.lb]
   show ((ik p g0 g1).map ah.int).length < (g1.map ah.int).length
   rw [List.length_map,List.length_map]
   exact (d_ hp (as:=g0) hg nz).2.2.1
theorem BH (hp:eQ p = true) (ln:st[n]? = some (aW A)) (lm:st[m]? = some (aW B)) (hA:Row p A) (hB:Row p B) (hn:A ≠ [] ∨ B ≠ []) (kA:A.length ≤ 5000) (km:B.length ≤ 5000) :
  ∃ aC k G,PM.cY [.int p,.loc n,.loc m] st = .ok (.loc k) aC ∧ Fr st aC ∧ st.length ≤ k ∧ aC[k]? = some (aW G) ∧ Tw p A B G ∧ G.length ≤ 20000:=by
 have hr:=bh hp
 obtain ⟨μ',s',ew,a,b,g,u,v,u1,v1,H⟩:=Ed (A:=A) (B:=B) (st:=st) hp (N:=A.length + B.length + 1) (by lia) (x1:=some (.loc n)) (x2:=some (.loc m)) (μ:=[some (.int p),some (.loc n),some (.loc m),some (.loc n),some (.loc m),none]) (s:=st) (a:=n) (b:=m) ⟨⟨_,rfl⟩,Fr.refl st,fv.start (by lia) hA hB hn,ln,lm⟩
 obtain ⟨x5,rfl⟩:=H.env
 have ng:g ≠ []:=by rcases H.inv.ne with z | z; exact z; exact absurd rfl z
 have lg:=H.inv.Iv
 obtain ⟨s2,k,t,e2,F2,lk,ck,ht⟩:=uk hp H.la H.inv.r0 ng (by lia)
 obtain ⟨rG,nG,lG,cA,cB,cG⟩:=H.inv.done hp hA hB ht
 refine ⟨s2,k,mulR p t g,?_,H.fr.trans F2,by have:=H.fr.len; lia,ck,⟨rG,nG,lG,cA,cB,_,_,cG⟩,by have:=jc p t g; lia⟩
 unfold PM.cY
 rw [aR (np:=3) (us:=[ah.int p,.loc n,.loc m]) rfl]
 show (aK (aU 3 (ae 1)) (aK (aU 4 (ae 2)) (aK (cb LM MX) (bD _))) [some (.int p),some (.loc n),some (.loc m),none,none,none] st).fin = _
 rw [aB,gf (v:=.loc n) (s1:=st) rfl,aD,aB,gf (v:=.loc m) (s1:=st) rfl,aD]
 show (aK (cb LM MX) (bD _) [some (.int p),some (.loc n),some (.loc m),some (.loc n),some (.loc m),none] st).fin = _
 rw [aB,ew,aD,aL,jm (vs:=[.int p,.loc a]) (s1:=s') rfl,e2,av]
 rfl
end
end PG
namespace PG
open PySem PySem.Spec L2 MN
open PyProof.Rows hiding St kindOf
theorem rY {p:Int} (hp:0 < p) {A Q G:List Int} (hA:Row p A) (nA:A ≠ []) (hQ:Row p Q) (nG:G ≠ []) (lG:aX G = 1) (h:ba p (cf A) (mF Q (cf G))):Q ≠ [] ∧ A.length + 1 = Q.length + G.length ∧ aX A = aX Q:=by
 have nQ:Q ≠ []:=by
  intro z
  rw [z] at h
  exact nA (Row.ext hp hA (Row.nil p) (h.trans (ba.of_eq fun k => by rw [il,jb])))
 have lq:=hQ.last hp nQ
 have q0:0 < Q.length:=List.length_pos_iff.mpr nQ
 have g0:0 < G.length:=List.length_pos_iff.mpr nG
 obtain ⟨N,hN⟩:∃ N,N = Q.length - 1 + (G.length - 1):=⟨_,rfl⟩
 have t:=rQ Q G nQ nG
 rw [← hN,lG,Int.mul_one] at t
 have c:=Cg.eq hp (h N)
 rw [t,c5 (hA.B6 hp N).1 (hA.B6 hp N).2,c5 (by lia) lq.2] at c
 have l1:A.length ≤ N + 1:=ij hA.cut fun k hk => by
  have c:=Cg.eq hp (h k)
  rw [By (as:=Q) (bs:=G) (by lia),c5 (hA.B6 hp k).1 (hA.B6 hp k).2,c5 (Int.le_refl 0) hp] at c
  exact c
 have l2:N < A.length:=by
  rcases Nat.lt_or_ge N A.length with z | z
  ·exact z
  ·rw [fu z] at c; lia
 refine ⟨nQ,by lia,?_⟩
 rw [← c]
 show cf A (A.length - 1) = _
 rw [show A.length - 1 = N by lia]
theorem Ee {U:List Int} {p:Int} {m:Nat} (hp:0 < p) (h:(U.length:Int) = p * m + 1):eD U p = (List.range (m + 1)).map fun j => U.getD (p.toNat * j) 0:=by
 have cnt:(if p > 0 then (if (0:Int) < (U.length:Int) then ((U.length:Int) - 0 + p - 1) / p else 0) else (if (0:Int) > (U.length:Int) then (0 - (U.length:Int) - p - 1) / (-p) else 0)).toNat = m + 1:=by
  rw [if_pos hp,h]
  have m0:0 ≤ p * (m:Int):=Int.mul_nonneg (by lia) (by lia)
  rw [if_pos (by lia),show p * (m:Int) + 1 - 0 + p - 1 = p * ((m:Int) + 1) by rw [Int.mul_add,Int.mul_one]; lia,Int.mul_ediv_cancel_left _ (by lia)]
  lia
 unfold eD sliceRange
 simp only []
 rw [cnt,List.filterMap_map]
 have:∀ l:List Nat,(∀ j ∈ l,j ≤ m) → l.filterMap ((fun i => U[i]?) ∘ fun k:Nat => (0 + p * (k:Int)).toNat) = l.map fun j => U.getD (p.toNat * j) 0:=by
  intro l
  induction l with
  | nil => intro _; rfl
  | cons j l ih =>
   intro hj
   have e:(0 + p * (j:Int)).toNat = p.toNat * j:=by
    have:((p.toNat * j:Nat):Int) = p * (j:Int):=by rw [Int.natCast_mul,Int.toNat_of_nonneg (by lia)]
    lia
   have lt:p.toNat * j < U.length:=by
    have h1:p.toNat * j ≤ p.toNat * m:=Nat.mul_le_mul_left _ (hj j (List.mem_cons_self ..))
    have h2:((p.toNat * m:Nat):Int) = p * (m:Int):=by rw [Int.natCast_mul,Int.toNat_of_nonneg (by lia)]
    lia
   rw [List.map_cons,← ih fun i hi => hj i (List.mem_cons_of_mem _ hi),List.filterMap_cons_some (b:=U.getD (p.toNat * j) 0)]
   show U[(0 + p * (j:Int)).toNat]? = _
   rw [e,List.getElem?_eq_getElem lt,List.getD_eq_getElem?_getD,List.getElem?_eq_getElem lt]
   rfl
 exact this _ fun j hj => by have:=List.mem_range.mp hj; lia
theorem BI {α β:Type} (f:α → β) (xs:List α) (k:Int):eD (xs.map f) k = (eD xs k).map f:=by
 unfold eD
 rw [List.length_map,List.map_filterMap]
 congr 1
 funext i
 rw [List.getElem?_map]
theorem Ef {p:Int} (hp:2 ≤ p) {U:List Int} (hU:Row p U) (nU:U ≠ []) (l1:aX U = 1) (hm:((U.length:Int) - 1) % p = 0) :
  Row p (eD U p) ∧ eD U p ≠ [] ∧ aX (eD U p) = 1 ∧ (eD U p).length ≤ U.length ∧ (1 < U.length → (eD U p).length < U.length):=by
 have u0:0 < U.length:=List.length_pos_iff.mpr nU
 obtain ⟨m,h⟩:∃ m:Nat,(U.length:Int) = p * m + 1:=by
  have h1:=Int.emod_add_mul_ediv ((U.length:Int) - 1) p
  have h2:0 ≤ ((U.length:Int) - 1) / p:=Int.ediv_nonneg (by lia) (by lia)
  refine ⟨(((U.length:Int) - 1) / p).toNat,?_⟩
  rw [Int.toNat_of_nonneg h2]
  lia
 have e:=Ee (by lia) h
 have len:(eD U p).length = m + 1:=by rw [e,List.length_map,List.length_range]
 have Ub:((p.toNat * m:Nat):Int) = p * (m:Int):=by rw [Int.natCast_mul,Int.toNat_of_nonneg (by lia)]
 have la:aX (eD U p) = 1:=by
  unfold aX at l1 ⊢
  rw [len,e,show m + 1 - 1 = m by lia,List.getD_eq_getElem?_getD,List.getElem?_map,List.getElem?_range (by lia)]
  show U.getD (p.toNat * m) 0 = 1
  rw [show p.toNat * m = U.length - 1 by lia]
  exact l1
 have ne:eD U p ≠ []:=fun z => by rw [z] at len; simp at len
 have Uc:2 * (m:Int) ≤ p * m:=Int.mul_le_mul_of_nonneg_right hp (by lia)
 refine ⟨⟨?_,?_⟩,ne,la,by lia,fun h1 => by lia⟩
 ·rcases gb (eD U p) with z | ⟨ms,x,z⟩
  ·exact absurd z ne
  ·unfold Cut
   rw [z]
   refine fJ ?_ ms
   have:aX (eD U p) = x:=by rw [z]; unfold aX; simp
   rw [la] at this
   rw [← this]; rfl
 ·intro a ha
  rw [e] at ha
  obtain ⟨j,_,rfl⟩:=List.mem_map.mp ha
  exact hU.B6 (by lia) (p.toNat * j)
end PG
namespace PG
open PySem PySem.Spec L2 MN
open PyProof.Rows hiding St kindOf
noncomputable def Ent (kv:dh × ah):Prop:=∃ (i:Int) (k:Nat),kv = (.inl i,.loc k)
theorem BJ {κ:Type} [DecidableEq κ] (kvs:List (κ × ah)) (k:κ) (v:ah):(n? kvs k v).length ≤ kvs.length + 1:=by
 unfold n?
 split
 ·rw [List.length_map]; lia
 ·rw [List.length_append]; simp
theorem BK {kvs:List (dh × ah)} (h:∀ kv ∈ kvs,Ent kv) (i:Int) (k:Nat):∀ kv ∈ n? kvs (.inl i) (.loc k),Ent kv:=by
 intro kv hk
 unfold n? at hk
 split at hk
 ·obtain ⟨q,hq,rfl⟩:=List.mem_map.mp hk
  split
  ·rename_i e
   rw [e]
   exact ⟨i,k,rfl⟩
  ·exact h q hq
 ·rcases List.mem_append.mp hk with z | z
  ·exact h kv z
  ·exact ⟨i,k,List.mem_singleton.mp z⟩
noncomputable abbrev OV:MT:=bX (ai qV (ao bY (aa (ae 6) aq)) (mC (.int 1)))
noncomputable abbrev OW:MB:=gN (bX (ai qV (ao bY (aa (ae 9) aq)) (mC (.int 1)))) (q_ (ae 2) (ae 7) (ae 9)) bM
noncomputable abbrev MY:MB:=aK (aU 8 (ao PM.cY (aa (ae 0) (aa (ae 6) (aa (ae 5) aq))))) (aK (aU 9 (ai dQ (ao PM.parted (aa (ae 0) (aa (ae 6) (aa (ae 8) aq)))) (mC (.int 0)))) (aK OW (aK (aU 6 (ae 8)) (aK (aU 5 (ai dQ (ao PM.parted (aa (ae 0) (aa (ae 5) (aa (ae 8) aq)))) (mC (.int 0)))) (AL 7 yr (ae 3))))))
structure Eg (p:Int) (D:Nat) (st:ag) (d:Nat) (x1 x4:Option ah) (stp:Int) (μ:MN.Env) (s:ag) (kS kU:Nat) (S U:List Int) (kvs:List (dh × ah)):Prop where
 env:∃ j7 x8 x9,μ = [some (.int p),x1,some (.loc d),some (.int stp),x4,some (.loc kU),some (.loc kS),some (.int j7),x8,x9]
 fr:Fr st s
 hd:st.length ≤ d
 dk:s[d]? = some (.dK kvs)
 en:∀ kv ∈ kvs,Ent kv
 ct:kvs.length + (S.length - 1) + (U.length - 1) ≤ D
 lS:s[kS]? = some (aW S)
 lU:s[kU]? = some (aW U)
 rS:Row p S
 nS:S ≠ []
 rU:Row p U
 nU:U ≠ []
 l1:aX U = 1
 dv:Dvd p U (mF S (ip (cf U)))
theorem me {s:ag} {n d:Nat} {us:List ah} {kvs:List (dh × ah)} (h1:s[n]? = some (.lst us)) (h2:s[d]? = some (.dK kvs)):d ≠ n:=by
 intro z
 rw [z,h1] at h2
 cases h2
noncomputable def OX (μ:MN.Env) (s:ag):Nat:=match (μ[5]?:Option (Option ah)),(μ[6]?:Option (Option ah)) with
 | some (some (.loc k)),some (some (.loc j)) => d9 k s + d9 j s
 | _,_ => 0
theorem fK {s:ag} {k:Nat} {A:List Int} (h:s[k]? = some (aW A)):d9 k s = A.length:=by
 unfold d9
 rw [a! h]
 exact aV A
section
variable {p:Int} {D d:Nat} {st:ag} {x1 x4:Option ah} {stp:Int}
theorem Eh (hp:eQ p = true) (hD:D ≤ 2000) {μ:MN.Env} {s:ag} {kS kU:Nat} {S U:List Int} {kvs:List (dh × ah)} (h:Eg p D st d x1 x4 stp μ s kS kU S U kvs) :
  ∃ μ' s',cb OV MY μ s = .nx μ' s' ∧ ∃ kS kU c U' kvs,U'.length ≤ U.length ∧ Eg p D st d x1 x4 stp μ' s' kS kU [c] U' kvs:=by
 have hr:=bh hp
 have fC:0 < p:=by lia
 refine dH (t:=OV) (body:=MY) (fun μ s => ∃ kS kU S U' kvs,U'.length ≤ U.length ∧ Eg p D st d x1 x4 stp μ s kS kU S U' kvs) OX (fun μ s => ∃ kS kU c U' kvs,U'.length ≤ U.length ∧ Eg p D st d x1 x4 stp μ s kS kU [c] U' kvs) ?_ μ s ⟨kS,kU,S,U,kvs,Nat.le_refl _,h⟩
 clear h
 obtain ⟨LU,Rh⟩:∃ L,L = U.length:=⟨_,rfl⟩
 rw [← Rh]
 clear Rh
 rintro μ s ⟨kS,kU,S,U,kvs,hle,h⟩
 obtain ⟨j7,x8,x9,rfl⟩:=h.env
 obtain ⟨L,hL⟩:∃ L:Int,L = (S.length:Int):=⟨_,rfl⟩
 have kl:bY [.loc kS] s = .ok (.int L) s:=by rw [bf (a! h.lS),aV,hL]
 have s0:0 < S.length:=List.length_pos_iff.mpr h.nS
 have u0:0 < U.length:=List.length_pos_iff.mpr h.nU
 have ct:=h.ct
 by_cases h1:S.length = 1
 ·obtain ⟨c,rfl⟩:∃ c,S = [c]:=by
   match S,h1 with
   | [c],_ => exact ⟨c,rfl⟩
  have h0:decide ((1:Int) < L) = false:=decide_eq_false (by rw [hL]; simp)
  exact .inl ⟨s,by simp only [aj,aw,aG,ax,az,au,a8,aF,aE,aA,ar,ay,e_,aT,aH,kl,h0],kS,kU,c,U,kvs,hle,h⟩
 ·have h0:decide ((1:Int) < L) = true:=decide_eq_true (by lia)
  obtain ⟨s1,kF,G,e1,F1,_,lF,gG,_⟩:=BH hp h.lS h.lU h.rS h.rU (.inl h.nS) (by lia) (by lia)
  have zo:¬ aX G % p = 0:=by rw [gG.l,Int.emod_eq_of_lt (by lia) (by lia)]; lia
  obtain ⟨qS,_,_,_,Ud⟩:=d_ hp (as:=S) gG.n zo
  obtain ⟨qU,_,_,_,Ue⟩:=d_ hp (as:=U) gG.n zo
  obtain ⟨nP,eP,_⟩:=rY fC h.rS h.nS qS gG.n gG.l gG.a
  obtain ⟨nV,eV,lV⟩:=rY fC h.rU h.nU qU gG.n gG.l gG.b
  have g0:0 < G.length:=List.length_pos_iff.mpr gG.n
  have p0:0 < (c6 p S G).length:=List.length_pos_iff.mpr nP
  have v0:0 < (c6 p U G).length:=List.length_pos_iff.mpr nV
  obtain ⟨s2,kP,z2,e2,F2,_,_,_,lP,_⟩:=eu hp (a! (F1 _ _ h.lS)) lF gG.n zo (by lia) (by lia)
  have Ei:=F1.trans F2
  have LN:=Ei _ _ h.dk
  obtain ⟨LP,Tx⟩:∃ L:Int,L = ((c6 p S G).length:Int):=⟨_,rfl⟩
  have kp:bY [.loc kP] s2 = .ok (.int LP) s2:=by rw [bf (a! lP),aV,Tx]
  -- xy step of xy dict
  obtain ⟨s3,dO,ei,OY,F3,Tz,c3,OZ,TB⟩:∃ s3 dO,OW [some (.int p),x1,some (.loc d),some (.int stp),x4,some (.loc kU),some (.loc kS),some (.int j7),some (.loc kF),some (.loc kP)] s2 = .nx [some (.int p),x1,some (.loc d),some (.int stp),x4,some (.loc kU),some (.loc kS),some (.int j7),some (.loc kF),some (.loc kP)] s3 ∧ s3[d]? = some (.dK dO) ∧ Fr st s3 ∧ (∀ kv ∈ dO,Ent kv) ∧ dO.length + 1 ≤ kvs.length + (c6 p S G).length ∧ s3[kF]? = some (aW G) ∧ s3[kU]? = some (aW U):=by
   by_cases hq:1 < (c6 p S G).length
   ·have O0:decide ((1:Int) < LP) = true:=decide_eq_true (by lia)
    refine ⟨s2.set d (.dK (n? kvs (.inl j7) (.loc kP))),_,?_,rp LN,(h.fr.trans Ei).set h.hd _,BK h.en j7 kP,?_,l7 (F2 _ _ lF) (me (F2 _ _ lF) LN),l7 (Ei _ _ h.lU) (me (Ei _ _ h.lU) LN)⟩
    ·have ep:q_ (ae 2) (ae 7) (ae 9) [some (.int p),x1,some (.loc d),some (.int stp),x4,some (.loc kU),some (.loc kS),some (.int j7),some (.loc kF),some (.loc kP)] s2 = .nx [some (.int p),x1,some (.loc d),some (.int stp),x4,some (.loc kU),some (.loc kS),some (.int j7),some (.loc kF),some (.loc kP)] (s2.set d (.dK (n? kvs (.inl j7) (.loc kP)))):=by
      have es:kG s2 (.loc d) (.int j7) (.loc kP) = some (s2.set d (.dK (n? kvs (.inl j7) (.loc kP)))):=by
       unfold kG
       dsimp only
       rw [LN]
       dsimp only
       rw [if_pos (by rw [sizeLine_eq]; lia)]
       rfl
      show (match kG s2 (.loc d) (.int j7) (.loc kP) with
       | some jL => bN.nx _ jL
       | none => .bad) = _
      rw [es]
     simp only [aj,av,aw,aG,ax,az,au,bz,a8,aF,aE,aA,ar,ay,aM,e_,aT,aH,kp,O0,ep]
    ·have:=BJ kvs (.inl j7) (.loc kP); lia
   ·have O0:decide ((1:Int) < LP) = false:=decide_eq_false (by lia)
    exact ⟨s2,kvs,by simp only [aj,av,aw,aG,ax,az,au,a9,a8,aF,aE,aA,ar,ay,aP,aM,e_,aT,aH,kp,O0],LN,h.fr.trans Ei,h.en,by lia,F2 _ _ lF,Ei _ _ h.lU⟩
  obtain ⟨s4,kV,z4,e4,F4,_,_,_,Ri,_⟩:=eu hp (a! TB) OZ gG.n zo (by lia) (by lia)
  obtain ⟨a,b,hB⟩:=gG.c
  refine .inr ⟨s,[some (.int p),x1,some (.loc d),some (.int stp),x4,some (.loc kV),some (.loc kF),some (.int (j7 + stp)),some (.loc kF),some (.loc kP)],s4,?_,.inl ?_,⟨kF,kV,G,c6 p U G,dO,by lia,⟨_,_,_,rfl⟩,F3.trans F4,h.hd,F4 _ _ OY,Tz,by lia,F4 _ _ OZ,Ri,gG.r,gG.n,qU,nV,by rw [← lV]; exact h.l1,Ea fC gG.n gG.l gG.a gG.b hB h.dv⟩,?_⟩
  ·simp only [aj,aw,aG,ax,az,au,a8,aF,aE,aA,ar,ay,e_,aT,aH,kl,h0]
  ·rw [MY]
   generalize OW = I at ei ⊢
   simp only [aj,av,aD,aw,aG,ax,az,au,bV,a8,aA,ar,ay,aB,bB,aJ,aT,aH,List.set_cons_zero,List.set_cons_succ,A!,HZ,Oz,Lh,Li,e1,e2,cz xi,ei,e4]
  ·show d9 kV s4 + d9 kF s4 < d9 kU s + d9 kS s
   rw [fK Ri,fK (F4 _ _ OZ),fK h.lU,fK h.lS]
   lia
end
end PG
namespace PG
open PySem PySem.Spec L2 MN
open PyProof.Rows hiding St kindOf
noncomputable abbrev MZ:MT:=bX (ai qV (ao bY (aa (ae 4) aq)) (mC (.int 1)))
noncomputable abbrev O1:MB:=cb OV MY
noncomputable abbrev O2:ME:=m9 (ae 5) (ae 0)
noncomputable abbrev LO:MB:=aK (aU 5 (ao PM.cY (aa (ae 0) (aa (ae 4) (aa (ao PM.cW (aa (ae 0) (aa (ae 4) aq))) aq))))) (aK (aU 6 (ai dQ (ao PM.parted (aa (ae 0) (aa (ae 4) (aa (ae 5) aq)))) (mC (.int 0)))) (aK (aU 7 (ae 3)) (aK O1 (aK (aU 4 O2) (aU 3 (ai b9 (ae 3) (ae 0)))))))
structure Ej (p:Int) (D:Nat) (st:ag) (d:Nat) (x1:Option ah) (μ:MN.Env) (s:ag) (kL:Nat) (L:List Int) (kvs:List (dh × ah)):Prop where
 env:∃ stp x5 x6 x7 x8 x9,μ = [some (.int p),x1,some (.loc d),some (.int stp),some (.loc kL),x5,x6,x7,x8,x9]
 fr:Fr st s
 hd:st.length ≤ d
 dk:s[d]? = some (.dK kvs)
 en:∀ kv ∈ kvs,Ent kv
 ct:kvs.length + (L.length - 1) ≤ D
 lL:s[kL]? = some (aW L)
 rL:Row p L
 nL:L ≠ []
 l1:aX L = 1
noncomputable def O3 (μ:MN.Env) (s:ag):Nat:=match (μ[4]?:Option (Option ah)) with
 | some (some (.loc k)) => d9 k s
 | _ => 0
section
variable {p:Int} {D d:Nat} {st:ag} {x1:Option ah}
theorem Ek (hp:eQ p = true) (hD:D ≤ 2000) {μ:MN.Env} {s:ag} {kL:Nat} {L:List Int} {kvs:List (dh × ah)} (h:Ej p D st d x1 μ s kL L kvs) :
  ∃ μ' s',cb MZ LO μ s = .nx μ' s' ∧ ∃ kL L kvs,Ej p D st d x1 μ' s' kL L kvs:=by
 have hr:=bh hp
 have fC:0 < p:=by lia
 refine dH (t:=MZ) (body:=LO) (fun μ s => ∃ kL L kvs,Ej p D st d x1 μ s kL L kvs) O3 (fun μ s => ∃ kL L kvs,Ej p D st d x1 μ s kL L kvs) ?_ μ s ⟨kL,L,kvs,h⟩
 clear h
 rintro μ s ⟨kL,L,kvs,h⟩
 obtain ⟨stp,x5,x6,x7,x8,x9,rfl⟩:=h.env
 obtain ⟨N,hN⟩:∃ N:Int,N = (L.length:Int):=⟨_,rfl⟩
 have kl:bY [.loc kL] s = .ok (.int N) s:=by rw [bf (a! h.lL),aV,hN]
 have s0:0 < L.length:=List.length_pos_iff.mpr h.nL
 have ct:=h.ct
 by_cases h1:L.length = 1
 ·have h0:decide ((1:Int) < N) = false:=decide_eq_false (by rw [hN,h1]; decide)
  exact .inl ⟨s,by simp only [aj,aw,aG,ax,az,au,a8,aF,aE,aA,ar,ay,e_,aT,aH,kl,h0],kL,L,kvs,h⟩
 ·have h0:decide ((1:Int) < N) = true:=decide_eq_true (by lia)
  obtain ⟨g,kB,e0,_,lB⟩:=ft (fq hp) (a! h.lL) (by lia)
  have F0:=Fr.app s g
  obtain ⟨B,hB⟩:∃ B,B = bP ((cI L).map (·.fmod p)):=⟨_,rfl⟩
  rw [← hB] at lB
  have rB:Row p B:=by rw [hB]; exact Row.of fC _
  have cB:ba p (cf B) (ip (cf L)):=by rw [hB]; exact (Row.cg fC _).trans (ba.of_eq (oH L))
  have bL:B.length ≤ L.length:=by
   have h1:=fi ((cI L).map (·.fmod p))
   have h2:(cI L).length = L.length - 1:=by unfold cI fo; rw [List.length_map,List.length_map,List.length_range]
   rw [← hB,List.length_map] at h1
   lia
  obtain ⟨s1,kU,U,e1,F1,_,lU,gU,_⟩:=BH hp (F0 _ _ h.lL) lB h.rL rB (.inl h.nL) (by lia) (by lia)
  have zo:¬ aX U % p = 0:=by rw [gU.l,Int.emod_eq_of_lt (by lia) (by lia)]; lia
  obtain ⟨qS,_,_,_,_⟩:=d_ hp (as:=L) gU.n zo
  obtain ⟨nS,eS,_⟩:=rY fC h.rL h.nL qS gU.n gU.l gU.a
  have u0:0 < U.length:=List.length_pos_iff.mpr gU.n
  have q0:0 < (c6 p L U).length:=List.length_pos_iff.mpr nS
  obtain ⟨s2,kS,z2,e2,F2,_,_,_,lS,_⟩:=eu hp (a! (F1 _ _ (F0 _ _ h.lL))) lU gU.n zo (by lia) (by lia)
  have Ei:=F0.trans (F1.trans F2)
  have dv:Dvd p U (mF (c6 p L U) (ip (cf U))):=BC gU.a (cB.symm.trans gU.b)
  obtain ⟨μ',s3,ew,Rj,O4,c,U',dO,hle,H⟩:=Eh (D:=D) (st:=st) (d:=d) (x1:=x1) (x4:=some (.loc kL)) (stp:=stp) hp hD ⟨⟨stp,x8,x9,rfl⟩,h.fr.trans Ei,h.hd,Ei _ _ h.dk,h.en,by lia,lS,F2 _ _ lU,qS,nS,gU.r,gU.n,gU.l,dv⟩
  obtain ⟨Ff,y8,y9,rfl⟩:=H.env
  have hc:¬ c % p = 0:=by
   have:=H.rS.last fC H.nS
   rw [show aX [c] = c from rfl] at this
   rw [Int.emod_eq_of_lt (by lia) this.2]; lia
  have hm:=Iz hp H.rU H.nU H.l1 hc H.dv
  obtain ⟨rR,nR,lR,Ug,TC⟩:=Ef hr.1 H.rU H.nU H.l1 hm
  have u1:0 < U'.length:=List.length_pos_iff.mpr H.nU
  have ex:O2 [some (.int p),x1,some (.loc d),some (.int stp),some (.loc kL),some (.loc O4),some (.loc Rj),some (.int Ff),y8,y9] s3 = .ok (.loc s3.length) (s3 ++ [aW (eD U' p)]):=by
   show m8 (.loc O4) (.int p) s3 = _
   unfold m8
   dsimp only
   rw [a! H.lU]
   dsimp only
   rw [if_pos fC,BI]
  have TF:=H.ct
  rw [show ([c]:List Int).length = 1 from rfl] at TF
  refine .inr ⟨s,[some (.int p),x1,some (.loc d),some (.int (stp * p)),some (.loc s3.length),some (.loc O4),some (.loc Rj),some (.int Ff),y8,y9],s3 ++ [aW (eD U' p)],?_,.inl ?_,⟨s3.length,eD U' p,dO,⟨_,_,_,_,_,_,rfl⟩,H.fr.more _,H.hd,bE H.dk _,H.en,by lia,bj _ _,rR,nR,lR⟩,?_⟩
  ·simp only [aj,aw,aG,ax,az,au,a8,aF,aE,aA,ar,ay,e_,aT,aH,kl,h0]
  ·rw [LO]
   generalize O2 = Z at ex ⊢
   have MW:O1 [some (.int p),x1,some (.loc d),some (.int stp),some (.loc kL),some (.loc kU),some (.loc kS),some (.int stp),x8,x9] s2 = _:=ew
   generalize O1 = W at MW ⊢
   simp only [aj,av,aD,aw,aG,ax,az,au,bV,a8,aA,ar,ay,aB,bB,aJ,aT,aH,List.set_cons_zero,List.set_cons_succ,e0,e1,e2,cz xi,MW,ex,mul_r (i:=stp) (j:=p) (by lia) (by lia)]
  ·show d9 s3.length _ < d9 kL s
   rw [fK (bj s3 ((eD U' p).map ah.int)),fK h.lL]
   by_cases hu:1 < U'.length
   ·have:=TC hu; lia
   ·lia
theorem k6 (hp:eQ p = true) {n:Nat} {A:List Int} (ln:st[n]? = some (aW A)) (hA:Row p A) (nA:A ≠ []) (l1:aX A = 1) (hl:A.length ≤ 60) :
  ∃ aC d kvs,PM.d7 [.int p,.loc n] st = .ok (.loc d) aC ∧ Fr st aC ∧ st.length ≤ d ∧ aC[d]? = some (.dK kvs) ∧ (∀ kv ∈ kvs,Ent kv) ∧ kvs.length < 60:=by
 have a0:0 < A.length:=List.length_pos_iff.mpr nA
 have dn:(st ++ [aQ.dK []])[st.length]? = some (.dK []):=by rw [List.getElem?_append_right (Nat.le_refl _),Nat.sub_self]; rfl
 obtain ⟨μ',s',ew,kL,L,kvs,H⟩:=Ek (D:=59) (st:=st) (d:=st.length) (x1:=some (.loc n)) hp (by lia) (μ:=[some (.int p),some (.loc n),some (.loc st.length),some (.int 1),some (.loc n),none,none,none,none,none]) (s:=st ++ [aQ.dK []]) (kL:=n) (L:=A) (kvs:=[]) ⟨⟨_,_,_,_,_,_,rfl⟩,Fr.app _ _,Nat.le_refl _,dn,fun _ h => (by cases h),(by show 0 + (A.length - 1) ≤ 59; lia),bE ln _,hA,nA,l1⟩
 obtain ⟨stp,x5,x6,x7,x8,x9,rfl⟩:=H.env
 refine ⟨s',st.length,kvs,?_,H.fr,Nat.le_refl _,H.dk,H.en,by have:=H.ct; lia⟩
 unfold PM.d7
 rw [aR (np:=2) (us:=[ah.int p,.loc n]) rfl]
 show (aK (aU 2 qZ) (aK (aU 3 (mC (.int 1))) (aK (aU 4 (ae 1)) (aK (cb MZ LO) (bD (ae 2))))) [some (.int p),some (.loc n),none,none,none,none,none,none,none,none] st).fin = _
 rw [aB,gf (v:=.loc st.length) (s1:=st ++ [aQ.dK []]) rfl,aD,aB,gf (v:=.int 1) (s1:=st ++ [aQ.dK []]) rfl,aD,aB,gf (v:=.loc n) (s1:=st ++ [aQ.dK []]) rfl,aD]
 show (aK (cb MZ LO) (bD (ae 2)) [some (.int p),some (.loc n),some (.loc st.length),some (.int 1),some (.loc n),none,none,none,none,none] (st ++ [aQ.dK []])).fin = _
 rw [aB,ew,aD]
 rfl
end
end PG
namespace PG
open PySem PySem.Spec L2 MN
open PyProof.Rows hiding St kindOf
theorem um:∀ {kvs:List (dh × ah)},(∀ kv ∈ kvs,Ent kv) → ∃ ns:List Int,oy (kvs.map (·.1)) = some ns ∧ ns.length = kvs.length ∧ ∀ i ∈ ns,∃ k,kE kvs (.inl i) = some (.loc k)
 | [],_ => ⟨[],rfl,rfl,fun _ h => by cases h⟩
 | kv :: kvs,h => by
  obtain ⟨i,k,rfl⟩:=h kv (List.mem_cons_self ..)
  obtain ⟨ns,e,l,v⟩:=um fun q hq => h q (List.mem_cons_of_mem _ hq)
  refine ⟨i :: ns,?_,by simp [l],?_⟩
  ·show (oy (kvs.map (·.1))).map (i :: ·) = _
   rw [e]; rfl
  ·intro j hj
   by_cases z:i = j
   ·exact ⟨k,by unfold kE; rw [List.find?_cons_of_pos (by simp [z])]; rfl⟩
   ·rcases List.mem_cons.mp hj with q | q
    ·exact absurd q.symm z
    ·obtain ⟨k',Rk⟩:=v j q
     refine ⟨k',?_⟩
     unfold kE at Rk ⊢
     rw [List.find?_cons_of_neg (by simp [z])]
     exact Rk
section
variable {p:Int} {n:Nat} {A:List Int} {st:ag}
noncomputable abbrev M0:ME:=iQ (aa (ai l5 (ae 1) (ae 0)) (aa (ae 0) aq))
noncomputable abbrev O5:ME:=dX 1 [2] (n_ (ao j4 (aa (ae 2) aq))) (bb 0) cO M0
theorem mw (hp:eQ p = true) (ln:st[n]? = some (aW A)) (hA:Row p A) (nA:A ≠ []) (hl:A.length ≤ 60) :
  ∃ aC v,PM.dU [.int p,.loc n] st = .ok v aC ∧ Fr st aC:=by
 have hr:=bh hp
 have a0:0 < A.length:=List.length_pos_iff.mpr nA
 obtain ⟨s1,k1,t,e1,F1,_,l1,ht⟩:=uk hp ln hA nA (by lia)
 obtain ⟨rG,nG,lG,eG⟩:=ui hr.1 hA nA ht
 obtain ⟨s2,d,kvs,e2,F2,_,dk,en,hc⟩:=k6 hp l1 rG nG lG (by lia)
 obtain ⟨ns,ek,el,ev⟩:=um en
 obtain ⟨s3,oF⟩:∃ s3,s3 = s2 ++ [aQ.lst ((pC ns).map ah.int)]:=⟨_,rfl⟩
 have es:j4 [.loc d] s2 = .ok (.loc s2.length) s3:=by
  have ed:Bl s2 d = some kvs:=by unfold Bl; rw [dk]
  unfold j4
  dsimp only
  rw [ed]
  dsimp only
  rw [ek]
  dsimp only
  rw [if_pos (by lia),oF]
 have hit:ak s3 s2.length = some ((pC ns).map ah.int):=by rw [oF]; exact a! (bj _ _)
 have OY:s3[d]? = some (.dK kvs):=by rw [oF]; exact bE dk _
 have cp:=f_ (a:=bb 0) (e:=M0) (g:=fun aC => ak aC s2.length = some ((pC ns).map ah.int)) (st:=s3) hit (fun τ => ∃ x,τ = [x,some (.loc d)]) (fun i => .tup [(kE kvs (.inl i)).getD .dA,.int i]) (pC ns) [none,some (.loc d)] [] ⟨_,rfl⟩ (by
  rintro i hi τ ⟨x,rfl⟩
  obtain ⟨k,hk⟩:=ev i ((kQ ns).mem_iff.mp hi)
  refine ⟨[some (.int i),some (.loc d)],rfl,⟨_,rfl⟩,?_⟩
  have e0:ae 0 [some (.int i),some (.loc d)] s3 = .ok (.int i) s3:=rfl
  have e1:ai l5 (ae 1) (ae 0) [some (.int i),some (.loc d)] s3 = .ok (.loc k) s3:=by
   show l5 (.loc d) (.int i) s3 = _
   unfold l5 wV
   dsimp only
   rw [OY]
   show (match (some (kE kvs (.inl i)):Option (Option ah)) with
    | some (some v) => cn.ok v s3
    | _ => .bad) = _
   rw [hk]
  rw [hk]
  unfold M0
  rw [i5,ar,e1,aj,az,ar,e0,aj,az,aA,aj,au,aj,au,aj,l6]
  exact if_pos (by rw [sizeLine_eq]; show 2 ≤ 16777216; decide))
 obtain ⟨vs,TH⟩:∃ vs,vs = (pC ns).map fun i => ah.tup [(kE kvs (.inl i)).getD .dA,.int i]:=⟨_,rfl⟩
 rw [List.nil_append,← TH] at cp
 have lk:(pC ns).length = ns.length:=(kQ ns).length_eq
 have comp:O5 [some (.int p),some (.loc n),some (.loc d)] s2 = .ok (.loc s3.length) (s3 ++ [aQ.lst vs]):=by
  show dX 1 [2] (n_ (ao j4 (aa (ae 2) aq))) (bb 0) cO M0 [some (.int p),some (.loc n),some (.loc d)] s2 = _
  have e0:ao j4 (aa (ae 2) aq) [some (.int p),some (.loc n),some (.loc d)] s2 = .ok (.loc s2.length) s3:=by rw [jm (ID (v:=.loc d) (s1:=s2) rfl),es]
  rw [fh,jY,e0,aj,kK hit,aj,gI,if_pos (by rw [List.length_map,lk,sizeLine_eq]; lia),show iV 1 [2] [some (.int p),some (.loc n),some (.loc d)] = [none,some (.loc d)] from rfl,cp,aj,ju]
 have F3:Fr st (s3 ++ [aQ.lst vs]):=(F1.trans F2).trans (by rw [oF]; exact (Fr.app s2 _).more _)
 have gx:ai dQ (ae 1) (h! (mC (.int 1))) [some (.int p),some (.loc n),some (.loc d)] s2 = .ok (.int (aX A)) s2:=by
  rw [iu (x:=.loc n) (s1:=s2) rfl (y:=.int (-1)) (s2:=s2) rfl]
  exact ee (a! (F2 _ _ (F1 _ _ ln))) (nc nA)
 refine ⟨s3 ++ [aQ.lst vs],.tup [.int (aX A),.loc s3.length],?_,F3⟩
 obtain ⟨L,hL⟩:∃ L:Int,L = (A.length:Int):=⟨_,rfl⟩
 have kl:bY [.loc n] st = .ok (.int L) st:=by rw [bf (a! ln),aV,hL]
 have z:(L == 0) = false:=by simp; lia
 unfold PM.dU
 rw [aR (np:=2) (us:=[ah.int p,.loc n]) rfl]
 show (aK _ (aK _ (bD (iQ (aa (ai dQ (ae 1) (h! (mC (.int 1)))) (aa O5 aq))))) [some (.int p),some (.loc n),none] st).fin = _
 generalize O5 = C at comp ⊢
 generalize ai dQ (ae 1) (h! (mC (.int 1))) = X at gx ⊢
 simp only [aj,av,aD,aY,aw,aG,ax,az,au,l6,bp,a9,bV,a8,aF,aE,aA,ar,i5,ay,aB,aP,aL,aM,bB,bc,aJ,aT,aH,List.set_cons_zero,List.set_cons_succ,List.length_cons,List.length_nil,Nat.reduceAdd,sizeLine_eq,Nat.reduceLeDiff,↓reduceIte,kl,z,e1,e2,gx,comp]
theorem BL (hp:eQ p = true) (ln:st[n]? = some (aW A)) (hA:Row p A) (nA:A ≠ []) (hl:A.length ≤ 60) :
  ∃ aC v,PM.parts [.int p,.loc n] st = .ok v aC ∧ Fr st aC:=by
 obtain ⟨g,e⟩:=bG hp st
 obtain ⟨aC,v,e2,F⟩:=mw hp (bE ln g) hA nA hl
 exact ⟨aC,v,by simp only [PM.parts,aR,aj,av,aD,aY,az,au,dy,bp,aA,ar,ay,aB,bA,aL,aJ,aT,aH,List.map_cons,List.map_nil,List.cons_append,List.nil_append,List.replicate_zero,Nat.reduceSub,List.length_cons,List.length_nil,Nat.reduceAdd,e,e2],(Fr.app st g).trans F⟩
theorem BM (hp:eQ p = true) (ln:st[n]? = some (aW [])):∃ g,PM.parts [.int p,.loc n] st = .err "NoParts" (st ++ g):=by
 obtain ⟨g,e⟩:=bG hp st
 have ka:bY [.loc n] (st ++ g) = .ok (.int 0) (st ++ g):=by rw [bf (a! (bE ln g))]; rfl
 have z:((0:Int) == 0) = true:=rfl
 exact ⟨g,by simp only [PM.parts,PM.dU,aR,aj,av,c_,aD,dZ,du,aw,aG,ax,az,au,dy,bz,jX,a8,aF,aE,aA,ar,ay,aB,bA,aL,aM,i7,bc,aJ,aT,aH,List.map_cons,List.map_nil,List.cons_append,List.nil_append,List.replicate_succ,List.replicate_zero,Nat.reduceSub,List.length_cons,List.length_nil,Nat.reduceAdd,sizeLine_eq,Nat.reduceLeDiff,↓reduceIte,e,ka,z]⟩
theorem BN (hp:eQ p = true) (ln:st[n]? = some (aW A)) (hA:Row p A) (hl:A.length ≤ 4000) :
  ∃ aC v,PM.dz [.int p,.loc n] st = .ok v aC ∧ Fr st aC:=by
 have hr:=bh hp
 have fC:0 < p:=by lia
 obtain ⟨L,hL⟩:∃ L:Int,L = (A.length:Int):=⟨_,rfl⟩
 have kl:bY [.loc n] st = .ok (.int L) st:=by rw [bf (a! ln),aV,hL]
 by_cases nA:A = []
 ·have z:(L == 0) = true:=by rw [hL,nA]; rfl
  exact ⟨st,.dA,by simp only [PM.dz,aR,aj,av,dq,aY,aw,aG,ax,az,au,bp,bz,a8,aF,aE,aA,ar,ay,aB,aL,aM,bc,aT,aH,List.map_cons,List.map_nil,List.cons_append,List.nil_append,List.replicate_succ,List.replicate_zero,Nat.reduceSub,List.length_cons,List.length_nil,Nat.reduceAdd,kl,z],Fr.refl st⟩
 ·have a0:0 < A.length:=List.length_pos_iff.mpr nA
  have z:(L == 0) = false:=by simp; lia
  obtain ⟨g,kB,e0,_,lB⟩:=ft (fq hp) (a! ln) (by lia)
  have bL:(bP ((cI A).map (·.fmod p))).length ≤ A.length:=by
   have h1:=fi ((cI A).map (·.fmod p))
   have h2:(cI A).length = A.length - 1:=by unfold cI fo; rw [List.length_map,List.length_map,List.length_range]
   rw [List.length_map] at h1
   lia
  obtain ⟨s',k1,k2,k3,k4,k5,G,S,T,U,V,e1,F,ho,O6,_,_⟩:=BF hp (bE ln g) lB hA (Row.of fC _) (.inl nA) (by lia) (by lia)
  have lG:s'[k1]? = some (aW G):=O6.2 0 k1 G rfl rfl
  obtain ⟨N,hN⟩:∃ N:Int,N = (G.length:Int):=⟨_,rfl⟩
  have kg:bY [.loc k1] s' = .ok (.int N) s':=by rw [bf (a! lG),aV,hN]
  cases q:(N == 1) with
  | true => exact ⟨s',.tup [.loc k4,.loc k5],by simp only [PM.dz,aR,aj,av,aD,aY,aw,aG,ax,w?,az,au,l6,bp,a9,bV,a8,aF,aE,w!,aA,ar,i5,ay,aB,aP,aL,aM,bB,bc,aJ,gW,aT,aH,List.map_cons,List.map_nil,List.cons_append,List.nil_append,List.replicate_succ,List.replicate_zero,List.set_cons_zero,List.set_cons_succ,Nat.reduceSub,List.length_cons,List.length_nil,Nat.reduceAdd,sizeLine_eq,Nat.reduceLeDiff,↓reduceIte,kl,z,e0,e1,cz xi,cz Tp,cz Tq,kg,q],(Fr.app st g).trans F⟩
  | false => exact ⟨s',.dA,by simp only [PM.dz,aR,aj,av,aD,aY,aw,aG,ax,xa,az,au,bp,a9,bV,a8,aF,aE,w!,aA,ar,ay,aB,aP,aL,aM,bB,bc,aJ,gW,aT,aH,List.map_cons,List.map_nil,List.cons_append,List.nil_append,List.replicate_succ,List.replicate_zero,List.set_cons_zero,List.set_cons_succ,Nat.reduceSub,List.length_cons,List.length_nil,Nat.reduceAdd,kl,z,e0,e1,cz xi,kg,q],(Fr.app st g).trans F⟩
theorem rZ (hp:eQ p = true) (ln:st[n]? = some (aW A)) (hA:Row p A) (hl:A.length ≤ 4000) :
  ∃ aC v,PM.fI [.int p,.loc n] st = .ok v aC ∧ Fr st aC:=by
 obtain ⟨g,e⟩:=bG hp st
 obtain ⟨aC,v,e2,F⟩:=BN hp (bE ln g) hA hl
 exact ⟨aC,v,by simp only [PM.fI,aR,aj,av,aD,aY,az,au,dy,bp,aA,ar,ay,aB,bA,aL,aJ,aT,aH,List.map_cons,List.map_nil,List.cons_append,List.nil_append,List.replicate_zero,Nat.reduceSub,List.length_cons,List.length_nil,Nat.reduceAdd,e,e2],(Fr.app st g).trans F⟩
end
end PG
namespace PG
open PySem PySem.Spec L2 MN
open PyProof.Rows hiding St kindOf
end PG
namespace PG
open PySem PySem.Spec L2 MN
open PyProof.Rows hiding St kindOf
noncomputable def BO (v:ah) (st:ag):Prop:=Ah v = false ∧ ∃ k,kindOf st v = some k ∧ (k == "int" || (k == "bool")) = (k == "bool")
theorem vY {st:ag} {v:ah} {k:String} (h:kindOf st v = some k) (g:ag):kindOf (st ++ g) v = some k:=by
 cases v with
 | loc n =>
  rcases Nat.lt_or_ge n st.length with q | q
  ·unfold kindOf at h ⊢
   dsimp only at h ⊢
   rw [List.getElem?_append_left q]; exact h
  ·unfold kindOf at h
   dsimp only at h
   rw [List.getElem?_eq_none q] at h; cases h
 | _ => exact h
theorem BO.old {v:ah} {st:ag} (h:BO v st) (g:ag):BO v (st ++ g):=⟨h.1,h.2.choose,vY h.2.choose_spec.1 g,h.2.choose_spec.2⟩
theorem r6 {v:ah} {st:ag} (h:BO v st):PM.fS [v] st = .ok (.bl false) st:=by
 obtain ⟨hx,k,hk,hb⟩:=h
 have vx:ae 0 [some v] st = .ok v st:=A0 hx
 have e1:AX "int" v st = .ok (.bl (k == "bool")) st:=by
  unfold AX IX; rw [hk]
  have O7:(k == "int" || (k == "bool" && ("int" == "int"))) = (k == "bool"):=by rw [show (("int":String) == "int") = true from rfl,Bool.and_true]; exact hb
  simp only [Option.map_some,O7]
 have e2:AX "bool" v st = .ok (.bl (k == "bool")) st:=by
  unfold AX IX; rw [hk]
  have O7:(k == "bool" || (k == "bool" && (("bool":String) == "int"))) = (k == "bool"):=by rw [show (("bool":String) == "int") = false by decide,Bool.and_false,Bool.or_false]
  simp only [Option.map_some,O7]
 cases Rm:k == "bool" with
 | true => rw [Rm] at e1 e2; simp only [PM.fS,aR,aj,av,aY,m7,k_not,bp,kI,HB,E3,aL,List.map_cons,List.map_nil,List.cons_append,List.nil_append,List.replicate_zero,Nat.reduceSub,List.length_cons,List.length_nil,Nat.reduceAdd,Bool.not_true,vx,e1,e2]
 | false => rw [Rm] at e1 e2; simp only [PM.fS,aR,aj,av,aY,w9,bp,kI,E3,aL,List.map_cons,List.map_nil,List.cons_append,List.nil_append,List.replicate_zero,Nat.reduceSub,List.length_cons,List.length_nil,Nat.reduceAdd,vx,e1,e2]
noncomputable def El (v:ah) (st:ag):Prop:=Ah v = false ∧ ∀ g,∃ g',PM.fg [v] (st ++ g) = .ok (.bl false) (st ++ g ++ g')
theorem El.odd {v:ah} {st:ag} (h:BO v st):El v st:=⟨h.1,fun g => by
 have vx:ae 0 [some v] (st ++ g) = .ok v (st ++ g):=A0 h.1
 exact ⟨[],by simp only [PM.fg,aR,aj,av,aY,w9,az,au,bp,kI,aA,ar,ay,aL,List.map_cons,List.map_nil,List.replicate_zero,Nat.reduceSub,List.length_cons,List.length_nil,Nat.reduceAdd,vx,r6 (h.old g),List.append_nil]⟩⟩
theorem El.int {n:Int} (h:eR n = false) (st:ag):El (.int n) st:=⟨rfl,fun g => by
 obtain ⟨g',e⟩:=gy n (st ++ g)
 rw [h] at e
 exact ⟨g',e⟩⟩
theorem El.is {v:ah} {st:ag} (h:El v st):∃ g',PM.fg [v] st = .ok (.bl false) (st ++ g'):=by
 obtain ⟨g',e⟩:=h.2 []
 rw [List.append_nil] at e
 exact ⟨g',e⟩
end PG
namespace vN
open PySem PySem.Spec L2 MN PG
open PyProof.Rows hiding St kindOf
noncomputable def Em (v:ah):Prop:=Ah v = false ∧ ∀ st,∃ g,PM.bu [v] st = .err "NoPrime" (st ++ g)
theorem Fg {v:ah} (h:∀ st,El v st):Em v:=by
 refine ⟨(h []).1,fun st => ?_⟩
 obtain ⟨g,e⟩:=(h st).is
 have vx:ae 0 [some v] st = .ok v st:=A0 (h st).1
 exact ⟨g,by simp only [PM.bu,aR,aj,av,du,w_,rf,az,au,bz,jX,a8,aF,aE,gH,jW,aA,ar,ay,aM,i7,List.map_cons,List.map_nil,List.cons_append,List.nil_append,List.replicate_zero,Nat.reduceSub,List.length_cons,List.length_nil,Nat.reduceAdd,Bool.not_false,sizeLine_eq,Nat.reduceLeDiff,↓reduceIte,vx,e]⟩
theorem LQ:Em (.int 0):=by
 refine ⟨rfl,fun st => ?_⟩
 obtain ⟨g,e⟩:=gy 0 st
 have z:((0:Int) == 0) = true:=rfl
 have r:eR 0 = true:=rfl
 rw [r] at e
 exact ⟨g,by simp only [PM.bu,aR,aj,av,du,aw,aG,ax,ie,rf,az,au,bz,jX,a8,aF,aE,gH,jW,aA,ar,ay,aM,i7,bc,aJ,List.map_cons,List.map_nil,List.cons_append,List.nil_append,List.replicate_zero,Nat.reduceSub,List.length_cons,List.length_nil,Nat.reduceAdd,Bool.not_true,sizeLine_eq,Nat.reduceLeDiff,↓reduceIte,e,z]⟩
theorem xx {n:Int} (h:eR n = false):Em (.int n):=Fg fun st => El.int h st
theorem j8 {n:Int} (h:n < 2 ∨ 997 < n):Em (.int n):=by
 by_cases z:n = 0
 ·rw [z]; exact LQ
 ·refine xx ?_
  unfold eR
  cases q:eQ n with
  | true => have:=bh q; lia
  | false => simp [z]
section
variable {v:ah} {a b:Nat} {s:ag}
theorem yW (h:Em v) {way:Int} (h0:0 ≤ way) (h1:way < 11):∃ g,PM.aI [.int way,v,.loc a,.loc b] s = .err "NoPrime" (s ++ g):=by
 obtain ⟨g,e⟩:=h.2 s
 refine ⟨g,?_⟩
 have v1:∀ x0 r,ae 1 (x0 :: some v :: r) s = .ok v s:=fun x0 r => oj rfl h.1
 have v0:∀ r,ae 0 (some v :: r) s = .ok v s:=fun r => oj rfl h.1
 have hw:way = 0 ∨ way = 1 ∨ way = 2 ∨ way = 3 ∨ way = 4 ∨ way = 5 ∨ way = 6 ∨ way = 7 ∨ way = 8 ∨ way = 9 ∨ way = 10:=by lia
 have b:∀ i j:Int,(i == j) = decide (i = j):=fun i j => rfl
 rcases hw with rfl | rfl | rfl | rfl | rfl | rfl | rfl | rfl | rfl | rfl | rfl
 ·simp only [PM.aI,PM.gP,aR,aj,av,c_,dZ,du,aw,aG,ax,az,au,bz,a8,aF,aE,aA,ar,ay,aB,bA,aL,aM,bc,aJ,aT,aH,List.map_cons,List.map_nil,List.cons_append,List.nil_append,List.replicate_zero,Nat.reduceSub,List.length_cons,List.length_nil,Nat.reduceAdd,v0,v1,e,b,Int.reduceEq,decide_true,decide_false]
 ·simp only [PM.aI,PM.iZ,aR,aj,av,c_,aD,dZ,du,aw,aG,ax,az,au,bz,a9,a8,aF,aE,aA,ar,ay,aB,aP,bA,aL,aM,bc,aJ,aT,aH,List.map_cons,List.map_nil,List.cons_append,List.nil_append,List.replicate_zero,Nat.reduceSub,List.length_cons,List.length_nil,Nat.reduceAdd,v0,v1,e,b,Int.reduceEq,decide_true,decide_false]
 ·simp only [PM.aI,PM.gQ,aR,aj,av,c_,aD,dZ,du,aw,aG,ax,az,au,bz,a9,a8,aF,aE,aA,ar,ay,aB,aP,bA,aL,aM,bc,aJ,aT,aH,List.map_cons,List.map_nil,List.cons_append,List.nil_append,List.replicate_zero,Nat.reduceSub,List.length_cons,List.length_nil,Nat.reduceAdd,v0,v1,e,b,Int.reduceEq,decide_true,decide_false]
 ·simp only [PM.aI,PM.gR,aR,aj,av,c_,aD,dZ,du,aw,aG,ax,az,au,bz,a9,a8,aF,aE,aA,ar,ay,aB,aP,bA,aL,aM,bc,aJ,aT,aH,List.map_cons,List.map_nil,List.cons_append,List.nil_append,List.replicate_zero,Nat.reduceSub,List.length_cons,List.length_nil,Nat.reduceAdd,v0,v1,e,b,Int.reduceEq,decide_true,decide_false]
 ·simp only [PM.aI,PM.fU,aR,aj,av,c_,aD,dZ,du,aw,aG,ax,az,au,bz,a9,a8,aF,aE,aA,ar,ay,aB,aP,bA,aL,aM,bc,aJ,aT,aH,List.map_cons,List.map_nil,List.cons_append,List.nil_append,List.replicate_zero,Nat.reduceSub,List.length_cons,List.length_nil,Nat.reduceAdd,v0,v1,e,b,Int.reduceEq,decide_true,decide_false]
 ·simp only [PM.aI,PM.gS,aR,aj,av,c_,aD,dZ,du,aw,aG,ax,az,au,bz,a9,a8,aF,aE,aA,ar,ay,aB,aP,bA,aL,aM,bc,aJ,aT,aH,List.map_cons,List.map_nil,List.cons_append,List.nil_append,List.replicate_zero,Nat.reduceSub,List.length_cons,List.length_nil,Nat.reduceAdd,v0,v1,e,b,Int.reduceEq,decide_true,decide_false]
 ·simp only [PM.aI,PM.fG,aR,aj,av,c_,aD,dZ,du,aw,aG,ax,az,au,bz,a9,a8,aF,aE,aA,ar,ay,aB,aP,bA,aL,aM,bc,aJ,aT,aH,List.map_cons,List.map_nil,List.cons_append,List.nil_append,List.replicate_succ,List.replicate_zero,Nat.reduceSub,List.length_cons,List.length_nil,Nat.reduceAdd,v0,v1,e,b,Int.reduceEq,decide_true,decide_false]
 ·simp only [PM.aI,PM.divided,aR,aj,av,c_,aD,dZ,du,aw,aG,ax,az,au,bz,a9,a8,aF,aE,aA,ar,ay,aB,aP,bA,aL,aM,bc,aJ,aT,aH,List.map_cons,List.map_nil,List.cons_append,List.nil_append,List.replicate_zero,Nat.reduceSub,List.length_cons,List.length_nil,Nat.reduceAdd,v0,v1,e,b,Int.reduceEq,decide_true,decide_false]
 ·simp only [PM.aI,PM.meet,aR,aj,av,c_,aD,dZ,du,aw,aG,ax,az,au,bz,a9,a8,aF,aE,aA,ar,ay,aB,aP,bA,aL,aM,bc,aJ,aT,aH,List.map_cons,List.map_nil,List.cons_append,List.nil_append,List.replicate_zero,Nat.reduceSub,List.length_cons,List.length_nil,Nat.reduceAdd,v0,v1,e,b,Int.reduceEq,decide_true,decide_false]
 ·simp only [PM.aI,PM.fI,aR,aj,av,c_,aD,dZ,du,aw,aG,ax,az,au,bz,a9,a8,aF,aE,aA,ar,ay,aB,aP,bA,aL,aM,bc,aJ,aT,aH,List.map_cons,List.map_nil,List.cons_append,List.nil_append,List.replicate_zero,Nat.reduceSub,List.length_cons,List.length_nil,Nat.reduceAdd,v0,v1,e,b,Int.reduceEq,decide_true,decide_false]
 ·simp only [PM.aI,PM.parts,aR,aj,av,c_,aD,dZ,du,aw,aG,ax,az,au,a9,a8,aF,aE,aA,ar,ay,aB,aP,bA,aL,aM,bc,aJ,aT,aH,List.map_cons,List.map_nil,List.cons_append,List.nil_append,List.replicate_zero,Nat.reduceSub,List.length_cons,List.length_nil,Nat.reduceAdd,v0,v1,e,b,Int.reduceEq,decide_true,decide_false]
end
end vN
namespace vN
open PySem PySem.Spec L2 MN PG
open PyProof.Rows hiding St kindOf
theorem TJ {μ:MN.Env} {s:ag} {c x:Str} {b:Bool} (h:μ[0]? = some (some (.exc c))) (hk:kn.contains c = true) (hs:dc tab c x = some b):dC (dc tab) kn 0 x μ s = .ok (.bl b) s:=by
 unfold dC
 rw [h]
 dsimp only
 rw [if_pos hk,hs]
theorem add_lists {e:Option ah} {s:ag} {n:Nat} {us vs:List ah} {a:MA} {r:MN.Env} (h:s[n]? = some (.lst us)) (ha:a (e :: some (.loc n) :: r) s = .ok vs s) (hl:us.length ≤ 100) (hv:vs.length ≤ 100) :
  ∃ m s',ai cS (ae 1) (cF a) (e :: some (.loc n) :: r) s = .ok (.loc m) s' ∧ (∃ g,s' = s ++ g) ∧ s'[m]? = some (.lst (us ++ vs)):=by
 obtain ⟨s1,uo⟩:∃ s1,s1 = s ++ [aQ.lst vs]:=⟨_,rfl⟩
 have h1:s1[n]? = some (.lst us):=by rw [uo]; exact kZ h _
 have h2:s1[s.length]? = some (.lst vs):=by rw [uo]; exact bj s _
 refine ⟨s1.length,s1 ++ [.lst (us ++ vs)],?_,⟨[.lst vs,.lst (us ++ vs)],by rw [uo,List.append_assoc]; rfl⟩,bj s1 _⟩
 rw [iu (x:=.loc n) (s1:=s) rfl (oJ ha (by lia)),← uo]
 show (match s1[n]?,s1[s.length]? with | some (.lst us),some (.lst ws) => if us.length + ws.length ≤ sizeLine then cn.ok (ah.loc s1.length) (s1 ++ [aQ.lst (us ++ ws)]) else .bad | _,_ => .bad) = _
 rw [h1,h2]
 dsimp only
 rw [if_pos (by rw [sizeLine_eq]; lia)]
theorem LR {μ:MN.Env} {s:ag} {m1 m2 m3:ME} {u v w:ah} (h1:m1 μ s = .ok u s) (h2:m2 μ s = .ok v s) (h3:m3 μ s = .ok w s):aa m1 (aa m2 (aa m3 aq)) μ s = .ok [u,v,w] s:=BG h1 (IE h2 h3)
theorem IF {μ:MN.Env} {s:ag} {m1 m2 m3 m4:ME} {u v w x:ah} (h1:m1 μ s = .ok u s) (h2:m2 μ s = .ok v s) (h3:m3 μ s = .ok w s) (h4:m4 μ s = .ok x s):aa m1 (aa m2 (aa m3 (aa m4 aq))) μ s = .ok [u,v,w,x] s:=BG h1 (LR h2 h3 h4)
noncomputable def M1:List Str:=["ByNought","NoCount","NoInverse","NoLead","NoMeet","NoOrder","NoParts","NoPrime","NoRing","NoSums","NoTerm","NoUnknowns","NotPlain","NotWhole","NotWritten"]
noncomputable def LS (c:Str):List ah:=M1.map fun x => .bl (x == c)
theorem BP {c:Str} (hk:kn.contains c = true) (h:∀ x ∈ M1,dc tab c x = some (x == c)) (st:ag):∃ g m,dJ c st = .ok (.loc m) (st ++ g) ∧ (st ++ g)[m]? = some (.lst (LS c)):=by
 have q:∀ {x:Str} {y:Option ah} {s:ag},x ∈ M1 → dC (dc tab) kn 0 x [some (.exc c),y] s = .ok (.bl (x == c)) s:=fun {x y s} hx => TJ rfl hk (h x hx)
 obtain ⟨s1,uo⟩:∃ s1,s1 = st ++ [aQ.lst [ah.bl ("ByNought" == c),.bl ("NoCount" == c),.bl ("NoInverse" == c),.bl ("NoLead" == c)]]:=⟨_,rfl⟩
 have f1:aU 1 (cF (aa (dC (dc tab) kn 0 "ByNought") (aa (dC (dc tab) kn 0 "NoCount") (aa (dC (dc tab) kn 0 "NoInverse") (aa (dC (dc tab) kn 0 "NoLead") aq))))) [some (.exc c),none] st = .nx [some (.exc c),some (.loc st.length)] s1:=by
  rw [gf (oJ (IF (q (by decide)) (q (by decide)) (q (by decide)) (q (by decide))) (by show 4 ≤ 1000; decide)),uo]; rfl
 have a1:s1[st.length]? = some (.lst [ah.bl ("ByNought" == c),.bl ("NoCount" == c),.bl ("NoInverse" == c),.bl ("NoLead" == c)]):=by rw [uo]; exact bj st _
 obtain ⟨m2,s2,f2,⟨g2,e2⟩,a2⟩:=add_lists (e:=some (.exc c)) (r:=[]) a1 (IF (q (x:="NoMeet") (by decide)) (q (x:="NoOrder") (by decide)) (q (x:="NoParts") (by decide)) (q (x:="NoPrime") (by decide))) (by show 4 ≤ 100; decide) (by show 4 ≤ 100; decide)
 obtain ⟨m3,s3,f3,⟨g3,e3⟩,a3⟩:=add_lists (e:=some (.exc c)) (r:=[]) a2 (IF (q (x:="NoRing") (by decide)) (q (x:="NoSums") (by decide)) (q (x:="NoTerm") (by decide)) (q (x:="NoUnknowns") (by decide))) (by show 8 ≤ 100; decide) (by show 4 ≤ 100; decide)
 obtain ⟨m4,s4,f4,⟨g4,e4⟩,a4⟩:=add_lists (e:=some (.exc c)) (r:=[]) a3 (LR (q (x:="NotPlain") (by decide)) (q (x:="NotWhole") (by decide)) (q (x:="NotWritten") (by decide))) (by show 12 ≤ 100; decide) (by show 3 ≤ 100; decide)
 refine ⟨[aQ.lst [ah.bl ("ByNought" == c),.bl ("NoCount" == c),.bl ("NoInverse" == c),.bl ("NoLead" == c)]] ++ g2 ++ g3 ++ g4,m4,?_,?_⟩
 ·have es:st ++ ([aQ.lst [ah.bl ("ByNought" == c),.bl ("NoCount" == c),.bl ("NoInverse" == c),.bl ("NoLead" == c)]] ++ g2 ++ g3 ++ g4) = s4:=by
   rw [e4,e3,e2,uo]; simp only [List.append_assoc]
  rw [es]
  show (aK _ _ [some (.exc c),none] st).fin = _
  rw [aB,f1,aD,aB,gf f2,aD]
  show (aK _ _ [some (.exc c),some (.loc m2)] s2).fin = _
  rw [aB,gf f3,aD]
  show (bD _ [some (.exc c),some (.loc m3)] s3).fin = _
  rw [aL,f4,av]
  rfl
 ·have es:st ++ ([aQ.lst [ah.bl ("ByNought" == c),.bl ("NoCount" == c),.bl ("NoInverse" == c),.bl ("NoLead" == c)]] ++ g2 ++ g3 ++ g4) = s4:=by
   rw [e4,e3,e2,uo]; simp only [List.append_assoc]
  rw [es]
  exact a4
noncomputable def LV:List ah:=[.str "nought",.str "count",.str "inverse",.str "lead",.str "meet",.str "order",.str "parts",.str "prime",.str "ring",.str "sums",.str "term",.str "unknowns",.str "plain",.str "whole",.str "written"]
theorem j9 {c w:Str} {j:Nat} (hk:kn.contains c = true) (h:∀ x ∈ M1,dc tab c x = some (x == c)) (hV:dc tab c "ValueError" = some true) (hc:(LS c).countP (fun y => wI y (.bl true)) = 1) (hj:(LS c).findIdx? (fun y => wI y (.bl true)) = some j) (hw:L2.g! LV (j:Int) = some (.str w)) (st:ag) :
  ∃ g,b! c st = .ok (.str w) (st ++ g):=by
 obtain ⟨g1,m,e1,a1⟩:=BP hk h st
 obtain ⟨s1,uo⟩:∃ s1,s1 = st ++ g1:=⟨_,rfl⟩
 rw [← uo] at e1 a1
 have fl:(LS c).all flat = true:=List.all_eq_true.mpr fun x hx => by
  obtain ⟨b,_,rfl⟩:=List.mem_map.mp hx
  rfl
 have f1:aU 1 (jG 0 dJ) [some (.exc c),none,none] st = .nx [some (.exc c),some (.loc m),none] s1:=by
  have:jG 0 dJ [some (.exc c),none,none] st = .ok (.loc m) s1:=by
   show Hx (dJ c st) = _
   rw [e1]; rfl
  rw [gf this]; rfl
 have v1:∀ x s,ae 1 [some (.exc c),some (.loc m),x] s = .ok (.loc m) s:=fun _ _ => rfl
 have cnt:kD i9 (ae 1) (aa (mC (.bl true)) aq) [some (.exc c),some (.loc m),none] s1 = .ok (.int 1) s1:=by
  rw [vG,v1,aj,A9 a1]
  show i9 (.loc m) [.bl true] s1 = _
  unfold i9
  dsimp only
  rw [a1]
  dsimp only
  rw [if_pos ⟨rfl,fl⟩,hc]; rfl
 have tC:bX (ai m5 (kD i9 (ae 1) (aa (mC (.bl true)) aq)) (mC (.int 1))) [some (.exc c),some (.loc m),none] s1 = .ok false s1:=by
  refine rX ?_
  rw [iu cnt (y:=.int 1) (s2:=s1) rfl]; rfl
 have O8:vt (dc tab) 0 "ValueError" [some (.exc c),some (.loc m),none] s1 = .ok (.bl true) s1:=by
  show (match dc tab c "ValueError" with | some true => cn.ok (ah.bl true) s1 | _ => .bad) = _
  rw [hV]
 have TK:nT (bX (vt (dc tab) 0 "ValueError")) [some (.exc c),some (.loc m),none] s1 = .ok false s1:=LK (rX O8)
 have f2:=LL (B:=bD (mC (.str "several"))) (LJ tC TK)
 -- xy words
 obtain ⟨W1,M3⟩:∃ W:List ah,W = [.str "nought",.str "count",.str "inverse",.str "lead",.str "meet",.str "order",.str "parts",.str "prime",.str "ring",.str "sums",.str "term"]:=⟨_,rfl⟩
 obtain ⟨s2,gz⟩:∃ s2,s2 = s1 ++ [aQ.lst W1]:=⟨_,rfl⟩
 obtain ⟨s3,oF⟩:∃ s3,s3 = s2 ++ [aQ.lst [ah.str "unknowns",.str "plain",.str "whole",.str "written"]]:=⟨_,rfl⟩
 have l2:s3[s1.length]? = some (.lst W1):=by rw [oF,gz]; exact kZ (bj _ _) _
 have l3:s3[s2.length]? = some (.lst [ah.str "unknowns",.str "plain",.str "whole",.str "written"]):=by rw [oF]; exact bj _ _
 obtain ⟨s4,zl⟩:∃ s4,s4 = s3 ++ [aQ.lst LV]:=⟨_,rfl⟩
 have a4:s4[m]? = some (.lst (LS c)):=by rw [zl,oF,gz]; exact kZ (kZ (kZ a1 _) _) _
 have w4:s4[s3.length]? = some (.lst LV):=by rw [zl]; exact bj _ _
 have f3:aU 2 (cF (aa (mC (.str "nought")) (aa (mC (.str "count")) (aa (mC (.str "inverse")) (aa (mC (.str "lead")) (aa (mC (.str "meet")) (aa (mC (.str "order")) (aa (mC (.str "parts")) (aa (mC (.str "prime")) (aa (mC (.str "ring")) (aa (mC (.str "sums")) (aa (mC (.str "term")) aq)))))))))))) [some (.exc c),some (.loc m),none] s1 = .nx [some (.exc c),some (.loc m),some (.loc s1.length)] s2:=by
  rw [gf (oJ (vs:=W1) (s1:=s1) (by rw [M3]; rfl) (by rw [M3]; show 11 ≤ 1000; decide)),gz]; rfl
 have ad:ai cS (ae 2) (cF (aa (mC (.str "unknowns")) (aa (mC (.str "plain")) (aa (mC (.str "whole")) (aa (mC (.str "written")) aq))))) [some (.exc c),some (.loc m),some (.loc s1.length)] s2 = .ok (.loc s3.length) s4:=by
  rw [iu (x:=.loc s1.length) (s1:=s2) rfl (oJ (vs:=[ah.str "unknowns",.str "plain",.str "whole",.str "written"]) (s1:=s2) rfl (by decide)),← oF]
  show (match s3[s1.length]?,s3[s2.length]? with | some (.lst us),some (.lst ws) => if us.length + ws.length ≤ sizeLine then cn.ok (ah.loc s3.length) (s3 ++ [aQ.lst (us ++ ws)]) else .bad | _,_ => .bad) = _
  rw [l2,l3]
  dsimp only
  rw [if_pos (by rw [sizeLine_eq,M3]; show 15 ≤ 16777216; decide),zl,M3]
  rfl
 have idx:kD i_ (ae 1) (aa (mC (.bl true)) aq) [some (.exc c),some (.loc m),some (.loc s1.length)] s4 = .ok (.int (j:Int)) s4:=by
  rw [vG,v1,aj,A9 a4]
  show i_ (.loc m) [.bl true] s4 = _
  unfold i_
  dsimp only
  rw [a4]
  dsimp only
  rw [if_pos ⟨rfl,fl⟩,hj]
 have fin:ai dQ (ai cS (ae 2) (cF (aa (mC (.str "unknowns")) (aa (mC (.str "plain")) (aa (mC (.str "whole")) (aa (mC (.str "written")) aq)))))) (kD i_ (ae 1) (aa (mC (.bl true)) aq)) [some (.exc c),some (.loc m),some (.loc s1.length)] s2 = .ok (.str w) s4:=by
  rw [iu ad idx]
  exact ee (a! w4) hw
 refine ⟨g1 ++ [aQ.lst W1] ++ [aQ.lst [ah.str "unknowns",.str "plain",.str "whole",.str "written"]] ++ [aQ.lst LV],?_⟩
 have es:st ++ (g1 ++ [aQ.lst W1] ++ [aQ.lst [ah.str "unknowns",.str "plain",.str "whole",.str "written"]] ++ [aQ.lst LV]) = s4:=by
  rw [zl,oF,gz,uo]; simp only [List.append_assoc]
 rw [es]
 show (aK _ _ [some (.exc c),none,none] st).fin = _
 rw [aB,f1,aD,aB,f2,aD,aB,f3,aD,aL,fin,av]
 rfl
theorem uq (st:ag):∃ g,b! "NoPrime" st = .ok (.str "prime") (st ++ g):=j9 (j:=7) (by decide +kernel) (by decide +kernel) (by decide +kernel) (by decide +kernel) (by decide +kernel) rfl st
theorem r9 (st:ag):∃ g,b! "ByNought" st = .ok (.str "nought") (st ++ g):=j9 (j:=0) (by decide +kernel) (by decide +kernel) (by decide +kernel) (by decide +kernel) (by decide +kernel) rfl st
theorem vZ (st:ag):∃ g,b! "NoMeet" st = .ok (.str "meet") (st ++ g):=j9 (j:=4) (by decide +kernel) (by decide +kernel) (by decide +kernel) (by decide +kernel) (by decide +kernel) rfl st
theorem ur (st:ag):∃ g,b! "NoParts" st = .ok (.str "parts") (st ++ g):=j9 (j:=6) (by decide +kernel) (by decide +kernel) (by decide +kernel) (by decide +kernel) (by decide +kernel) rfl st
end vN
namespace vN
open PySem PySem.Spec L2 MN PG
open PyProof.Rows hiding St kindOf
noncomputable def En (way:Int) (A B:List Int):Option Str:=if way = 7 ∧ B = [] then some "ByNought" else if way = 8 ∧ A = [] ∧ B = [] then some "NoMeet" else if way = 10 ∧ A = [] then some "NoParts" else none
section
variable {p:Int} {a b:Nat} {A B:List Int} {s:ag}
theorem Row.Rn (hp:eQ p = true) (h:Row p A):∀ x ∈ A,-(2 ^ 64) < x ∧ x < 2 ^ 64:=fun x hx => by
 have:=h.BW x hx
 have:=bh hp
 lia
theorem v5 (hp:eQ p = true) (la:s[a]? = some (aW A)) (lb:s[b]? = some (aW B)) (hA:Row p A) (hB:Row p B) (lA:A.length ≤ 50) (lB:B.length ≤ 50) {way:Int} (h0:0 ≤ way) (h1:way < 11) (hd:En way A B = none) :
  ∃ v s',PM.aI [.int way,.int p,.loc a,.loc b] s = .ok v s' ∧ Fr s s':=by
 have hz:=fq hp
 have hr:=bh hp
 have ia:=a! la
 have ib:=a! lb
 obtain ⟨g,e⟩:=bG hp s
 have LW:=a7 ia g
 have O9:=a7 ib g
 have F:=Fr.app s g
 have q:∀ i j:Int,(i == j) = decide (i = j):=fun i j => rfl
 have hw:way = 0 ∨ way = 1 ∨ way = 2 ∨ way = 3 ∨ way = 4 ∨ way = 5 ∨ way = 6 ∨ way = 7 ∨ way = 8 ∨ way = 9 ∨ way = 10:=by lia
 rcases hw with rfl | rfl | rfl | rfl | rfl | rfl | rfl | rfl | rfl | rfl | rfl
 ·obtain ⟨g1,e1⟩:=t? hp ia (by rw [sizeLine_eq]; lia)
  exact ⟨_,_,by simp only [PM.aI,aR,aj,av,dq,aY,aw,aG,ax,az,au,bp,bz,a8,aF,aE,aA,ar,ay,aB,aL,aM,bc,aJ,aT,aH,List.map_cons,List.map_nil,List.cons_append,List.nil_append,List.replicate_zero,Nat.reduceSub,List.length_cons,List.length_nil,Nat.reduceAdd,e1,q,Int.reduceEq,decide_true,decide_false]; rfl,(Fr.app s g1).more _⟩
 ·obtain ⟨g1,k,e1,_⟩:=dM (f:=1) hz LW O9 (by lia) (by lia) (by decide) (by decide)
  exact ⟨_,_,by simp only [PM.aI,PM.iZ,aR,aj,av,aD,dq,aY,aw,aG,ax,az,au,dy,bp,bz,a9,a8,aF,aE,aA,ar,ay,aB,aP,bA,aL,aM,bc,aJ,aT,aH,List.map_cons,List.map_nil,List.cons_append,List.nil_append,List.replicate_zero,Nat.reduceSub,List.length_cons,List.length_nil,Nat.reduceAdd,e,e1,q,Int.reduceEq,decide_true,decide_false]; rfl,F.more _⟩
 ·obtain ⟨g1,k,e1,_⟩:=dM (f:=-1) hz LW O9 (by lia) (by lia) (by decide) (by decide)
  exact ⟨_,_,by simp only [PM.aI,PM.gQ,aR,aj,av,aD,dq,aY,aw,aG,ax,az,au,dy,bp,bz,a9,a8,aF,aE,aA,ar,ay,fZ,jF,aB,aP,bA,aL,aM,bc,aJ,aT,aH,List.map_cons,List.map_nil,List.cons_append,List.nil_append,List.replicate_zero,Nat.reduceSub,List.length_cons,List.length_nil,Nat.reduceAdd,e,e1,q,Int.reduceEq,Int.reduceNeg,decide_true,decide_false]; rfl,F.more _⟩
 ·obtain ⟨g1,k,e1,_⟩:=ja hz LW O9 (by lia) (by lia) (Row.Rn hp hA)
  exact ⟨_,_,by simp only [PM.aI,PM.gR,aR,aj,av,aD,dq,aY,aw,aG,ax,az,au,dy,bp,bz,a9,a8,aF,aE,aA,ar,ay,aB,aP,bA,aL,aM,bc,aJ,aT,aH,List.map_cons,List.map_nil,List.cons_append,List.nil_append,List.replicate_zero,Nat.reduceSub,List.length_cons,List.length_nil,Nat.reduceAdd,e,e1,q,Int.reduceEq,decide_true,decide_false]; rfl,F.more _⟩
 ·obtain ⟨g1,k,e1,_⟩:=iD (f:=3) hz LW (by lia) (Row.Rn hp hA)
  exact ⟨_,_,by simp only [PM.aI,PM.fU,aR,aj,av,aD,dq,aY,aw,aG,ax,az,au,dy,bp,bz,a9,a8,aF,aE,aA,ar,ay,aB,aP,bA,aL,aM,bc,aJ,aT,aH,List.map_cons,List.map_nil,List.cons_append,List.nil_append,List.replicate_zero,Nat.reduceSub,List.length_cons,List.length_nil,Nat.reduceAdd,e,e1,q,Int.reduceEq,decide_true,decide_false]; rfl,F.more _⟩
 ·obtain ⟨g1,k,e1,_⟩:=ft hz LW (by lia)
  exact ⟨_,_,by simp only [PM.aI,PM.gS,aR,aj,av,aD,dq,aY,aw,aG,ax,az,au,dy,bp,bz,a9,a8,aF,aE,aA,ar,ay,aB,aP,bA,aL,aM,bc,aJ,aT,aH,List.map_cons,List.map_nil,List.cons_append,List.nil_append,List.replicate_zero,Nat.reduceSub,List.length_cons,List.length_nil,Nat.reduceAdd,e,e1,q,Int.reduceEq,decide_true,decide_false]; rfl,F.more _⟩
 ·obtain ⟨g1,e1⟩:=rE hp 2 ia
  exact ⟨_,_,by simp only [PM.aI,aR,aj,av,aD,dq,aY,aw,aG,ax,az,au,bp,bz,a9,a8,aF,aE,aA,ar,ay,aB,aP,aL,aM,bc,aJ,aT,aH,List.map_cons,List.map_nil,List.cons_append,List.nil_append,List.replicate_zero,Nat.reduceSub,List.length_cons,List.length_nil,Nat.reduceAdd,e1,q,Int.reduceEq,decide_true,decide_false]; rfl,Fr.app s g1⟩
 ·have nB:B ≠ []:=fun z => by unfold En at hd; rw [if_pos ⟨rfl,z⟩] at hd; cases hd
  have TL:=hB.last (by lia) nB
  obtain ⟨s',k1,k2,e1,F1,_⟩:=vV hp ia lb nB (by rw [Int.emod_eq_of_lt (by lia) TL.2]; lia) (by lia) (by lia)
  exact ⟨_,_,by simp only [PM.aI,aR,aj,av,aD,dq,aY,aw,aG,ax,az,au,bp,bz,a9,a8,aF,aE,aA,ar,ay,aB,aP,aL,aM,bc,aJ,aT,aH,List.map_cons,List.map_nil,List.cons_append,List.nil_append,List.replicate_zero,Nat.reduceSub,List.length_cons,List.length_nil,Nat.reduceAdd,e1,q,Int.reduceEq,decide_true,decide_false]; rfl,F1⟩
 ·have hn:A ≠ [] ∨ B ≠ []:=by
   by_cases z:A = []
   ·by_cases y:B = []
    ·unfold En at hd
     rw [if_neg (fun w => by lia),if_pos ⟨rfl,z,y⟩] at hd
     cases hd
    ·exact .inr y
   ·exact .inl z
  obtain ⟨s',k1,k2,k3,k4,k5,G,S,T,U,V,e1,F1,_⟩:=Eb hp la lb hA hB hn (by lia) (by lia)
  exact ⟨_,_,by simp only [PM.aI,aR,aj,av,aD,dq,aY,aw,aG,ax,az,au,bp,bz,a9,a8,aF,aE,aA,ar,ay,aB,aP,aL,aM,bc,aJ,aT,aH,List.map_cons,List.map_nil,List.cons_append,List.nil_append,List.replicate_zero,Nat.reduceSub,List.length_cons,List.length_nil,Nat.reduceAdd,e1,q,Int.reduceEq,decide_true,decide_false]; rfl,F1⟩
 ·obtain ⟨s',v,e1,F1⟩:=rZ hp la hA (by lia)
  exact ⟨_,_,by simp only [PM.aI,aR,aj,av,aD,dq,aY,aw,aG,ax,az,au,bp,bz,a9,a8,aF,aE,aA,ar,ay,aB,aP,aL,aM,bc,aJ,aT,aH,List.map_cons,List.map_nil,List.cons_append,List.nil_append,List.replicate_zero,Nat.reduceSub,List.length_cons,List.length_nil,Nat.reduceAdd,e1,q,Int.reduceEq,decide_true,decide_false]; rfl,F1⟩
 ·have nA:A ≠ []:=fun z => by
   unfold En at hd
   rw [if_neg (fun w => by lia),if_neg (fun w => by lia),if_pos ⟨rfl,z⟩] at hd
   cases hd
  obtain ⟨s',v,e1,F1⟩:=BL hp la hA nA (by lia)
  exact ⟨_,_,by simp only [PM.aI,aR,aj,av,aD,aY,aw,aG,ax,az,au,bp,a9,a8,aF,aE,aA,ar,ay,aB,aP,aL,aM,bc,aJ,aT,aH,List.map_cons,List.map_nil,List.cons_append,List.nil_append,List.replicate_zero,Nat.reduceSub,List.length_cons,List.length_nil,Nat.reduceAdd,e1,q,Int.reduceEq,decide_true,decide_false]; rfl,F1⟩
theorem yX (hp:eQ p = true) (la:s[a]? = some (aW A)) (lb:s[b]? = some (aW B)) {way:Int} {c:Str} (hd:En way A B = some c) :
  ∃ g,PM.aI [.int way,.int p,.loc a,.loc b] s = .err c (s ++ g):=by
 have q:∀ i j:Int,(i == j) = decide (i = j):=fun i j => rfl
 unfold En at hd
 split at hd
 ·rename_i h
  obtain ⟨rfl,rfl⟩:=h
  cases hd
  obtain ⟨g,e⟩:=vW (v:=.loc a) hp lb rfl
  exact ⟨g,by simp only [PM.aI,aR,aj,av,c_,aD,dZ,du,aw,aG,ax,az,au,bz,a9,a8,aF,aE,aA,ar,ay,aB,aP,aL,aM,bc,aJ,aT,aH,List.map_cons,List.map_nil,List.cons_append,List.nil_append,List.replicate_zero,Nat.reduceSub,List.length_cons,List.length_nil,Nat.reduceAdd,e,q,Int.reduceEq,decide_true,decide_false]⟩
 ·split at hd
  ·rename_i h
   obtain ⟨rfl,rfl,rfl⟩:=h
   cases hd
   obtain ⟨g,e⟩:=Ec hp la lb
   exact ⟨g,by simp only [PM.aI,aR,aj,av,c_,aD,dZ,du,aw,aG,ax,az,au,bz,a9,a8,aF,aE,aA,ar,ay,aB,aP,aL,aM,bc,aJ,aT,aH,List.map_cons,List.map_nil,List.cons_append,List.nil_append,List.replicate_zero,Nat.reduceSub,List.length_cons,List.length_nil,Nat.reduceAdd,e,q,Int.reduceEq,decide_true,decide_false]⟩
  ·split at hd
   ·rename_i h
    obtain ⟨rfl,rfl⟩:=h
    cases hd
    obtain ⟨g,e⟩:=BM hp la
    exact ⟨g,by simp only [PM.aI,aR,aj,av,c_,aD,du,aw,aG,ax,az,au,a9,a8,aF,aE,aA,ar,ay,aB,aP,aL,aM,bc,aJ,aT,aH,List.map_cons,List.map_nil,List.cons_append,List.nil_append,List.replicate_zero,Nat.reduceSub,List.length_cons,List.length_nil,Nat.reduceAdd,e,q,Int.reduceEq,decide_true,decide_false]⟩
   ·cases hd
end
section
variable {way:Int} {v:ah} {a b:Nat} {s:ag}
theorem Eo {u:ah} {s':ag} (hv:Ah v = false) (h:PM.aI [.int way,v,.loc a,.loc b] s = .ok u s'):cP [.int way,v,.loc a,.loc b] s = .ok (.str "told") s':=by
 have v1:∀ x0 r,ae 1 (x0 :: some v :: r) s = .ok v s:=fun x0 r => oj rfl hv
 simp only [cP,aR,aj,av,aD,aY,az,au,dy,bp,a8,aA,ar,ay,aB,bA,aL,A4,A5,tR,DK,A6,DO,aJ,aT,aH,List.map_cons,List.map_nil,List.cons_append,List.nil_append,List.replicate_succ,List.replicate_zero,Nat.reduceSub,List.length_cons,List.length_nil,Nat.reduceAdd,v1,h]
theorem j_ {c w:Str} {s':ag} (hv:Ah v = false) (hk:Oq kn c = true) (hA:dc tab c "AlgebraError" = some true) (h:PM.aI [.int way,v,.loc a,.loc b] s = .err c s') (hn:∀ st,∃ g,b! c st = .ok (.str w) (st ++ g)):∃ g,cP [.int way,v,.loc a,.loc b] s = .ok (.str w) (s' ++ g):=by
 obtain ⟨g,e⟩:=hn s'
 refine ⟨g,?_⟩
 have v1:∀ x0 r,ae 1 (x0 :: some v :: r) s = .ok v s:=fun x0 r => oj rfl hv
 have cx:∀ x0 x1 x2 x3,jG 4 b! [x0,x1,x2,x3,some (.exc c)] s' = .ok (.str w) (s' ++ g):=fun x0 x1 x2 x3 => by
  show Hx (b! c s') = _
  rw [e]; rfl
 simp only [cP,aR,aj,av,c_,dq,aY,az,au,bp,aA,ar,ay,aB,bA,aL,A4,A5,tR,DM,A6,yA,aJ,aT,aH,List.map_cons,List.map_nil,List.cons_append,List.nil_append,List.replicate_succ,List.replicate_zero,List.set_cons_zero,List.set_cons_succ,Nat.reduceSub,List.length_cons,List.length_nil,Nat.reduceAdd,v1,h,DP hk,K? hA,cx]
end
end vN
namespace vN
open PySem PySem.Spec L2 MN PG
open PyProof.Rows hiding St kindOf
theorem IG:∀ a b:Fin 30,eR ((2 + (a.val:Int)) * (2 + (b.val:Int))) = false:=by decide +kernel
theorem IH:∀ n:Fin 996,(jK (2 + (n.val:Int))).isEmpty = false → eR (2 + (n.val:Int)) = false:=by decide +kernel
theorem Ep:∀ n:Fin 249,eR (4 * (1 + (n.val:Int))) = false:=by decide +kernel
theorem r_ {P:Int → Prop} {m:Nat} (h:∀ a:Fin m,P (a.val:Int)) {i:Int} (h0:0 ≤ i) (h1:i < (m:Int)):P i:=by
 have:=h ⟨i.toNat,by lia⟩
 rwa [show ((i.toNat:Nat):Int) = i by lia] at this
theorem v7 (oK:Int) (st:ag):∃ g n,PM.ej [.int oK] st = .ok (.int n) (st ++ g) ∧ Em (.int n):=by
 have d2:Dz 2:=Bp (by decide) (by decide)
 have TM:Dz 60:=Bp (by decide) (by decide)
 have q1:=e! (m:=996) (by decide) (oK.fdiv 2)
 have q2:=e! (m:=30) (by decide) (oK.fdiv 2)
 have q3:=e! (m:=30) (by decide) (oK.fdiv 60)
 have q4:=e! (m:=249) (by decide) (oK.fdiv 2)
 have r2:∀ st,A1 [.int 2,.int 32] st = .ok (cT 2 30,fun _ => True) st:=fun _ => rfl
 have rl:(cT 2 30).length = 30:=rfl
 have uU:∀ (n:Int) (s:ag),bX (ai m5 (dX 1 [1] (eJ (aa (mC (.int 2)) (aa (mC (.int 32)) aq))) (bb 0) (dE (bX (ai ltV (ae 0) (ae 1))) (bX (ai dP (ai cq (ae 1) (ae 0)) (mC (.int 0))))) (ae 0)) (cF aq)) [some (.int oK),some (.int n)] s = .ok (!(jK n).isEmpty) (s ++ [.lst (jK n)] ++ [.lst []]):=by
  intro n s
  have iN:iV 1 [1] [some (ah.int oK),some (ah.int n)] = [none,some (.int n)]:=rfl
  simp only [aj,aw,aG,ax,az,au,i6,ju,gI,a8,aF,aE,aA,ar,fY,fh,rh,List.length_nil,sizeLine_eq,Nat.reduceLeDiff,↓reduceIte,r2,rl,iN,t_,ne_nil (a7 (bw s (jK n)) [.lst []]) (bw (s ++ [.lst (jK n)]) [])]
 cases e:(oK.fmod 2 == 0) with
 | true =>
  refine ⟨[],(2 + (oK.fdiv 2).fmod 30) * (2 + (oK.fdiv 60).fmod 30),?_,xx (r_ (P:=fun i => eR ((2 + i) * (2 + (oK.fdiv 60).fmod 30)) = false) (fun a => r_ (P:=fun j => eR ((2 + (a.val:Int)) * (2 + j)) = false) (IG a) q3.1 q3.2) q2.1 q2.2)⟩
  rw [List.append_nil]
  simp only [PM.ej,aR,aj,av,aD,dq,aY,aw,aG,ax,bp,bz,bV,a8,aF,aE,aB,aL,aM,bB,d?,bc,aJ,List.map_cons,List.map_nil,List.cons_append,List.nil_append,List.replicate_succ,List.replicate_zero,List.set_cons_zero,List.set_cons_succ,Nat.reduceSub,List.length_cons,List.length_nil,Nat.reduceAdd,div_ii d2,div_ii TM,bK (j:=996) (by decide),bK (j:=2) (by decide),bK (j:=30) (by decide),e,gw (i:=2 + (oK.fdiv 2).fmod 30) (by lia) (by lia)]
 | false =>
  have t:=uU (2 + (oK.fdiv 2).fmod 996) st
  unfold PM.ej
  generalize bX (ai m5 (dX 1 [1] (eJ (aa (mC (.int 2)) (aa (mC (.int 32)) aq))) (bb 0) (dE (bX (ai ltV (ae 0) (ae 1))) (bX (ai dP (ai cq (ae 1) (ae 0)) (mC (.int 0))))) (ae 0)) (cF aq)) = T at t ⊢
  cases z:(jK (2 + (oK.fdiv 2).fmod 996)).isEmpty with
  | true =>
   rw [z] at t
   refine ⟨[.lst (jK (2 + (oK.fdiv 2).fmod 996))] ++ [.lst []],4 * (1 + (oK.fdiv 2).fmod 249),?_,xx (r_ (P:=fun i => eR (4 * (1 + i)) = false) Ep q4.1 q4.2)⟩
   rw [← List.append_assoc]
   simp only [aR,aj,av,aD,aY,aw,aG,ax,bp,a9,bV,a8,aF,aE,aB,aP,aL,aM,bB,d?,bc,aJ,List.map_cons,List.map_nil,List.cons_append,List.nil_append,List.replicate_succ,List.replicate_zero,List.set_cons_zero,List.set_cons_succ,Nat.reduceSub,List.length_cons,List.length_nil,Nat.reduceAdd,Bool.not_true,div_ii d2,bK (j:=996) (by decide),bK (j:=2) (by decide),bK (j:=249) (by decide),e,t,gw (i:=4) (by decide) (by decide)]
  | false =>
   rw [z] at t
   refine ⟨[.lst (jK (2 + (oK.fdiv 2).fmod 996))] ++ [.lst []],2 + (oK.fdiv 2).fmod 996,?_,xx (r_ (P:=fun i => (jK (2 + i)).isEmpty = false → eR (2 + i) = false) IH q1.1 q1.2 z)⟩
   rw [← List.append_assoc]
   simp only [aR,aj,av,aD,dq,aY,aw,aG,ax,bp,bz,a9,bV,a8,aF,aE,aB,aP,aL,aM,bB,d?,bc,aJ,aH,List.map_cons,List.map_nil,List.cons_append,List.nil_append,List.replicate_succ,List.replicate_zero,List.set_cons_zero,List.set_cons_succ,Nat.reduceSub,List.length_cons,List.length_nil,Nat.reduceAdd,Bool.not_false,div_ii d2,bK (j:=996) (by decide),bK (j:=2) (by decide),e,t]
theorem ni {v:ah} {k:String} (h1:Ah v = false) (h2:∀ st,kindOf st v = some k) (h3:(k == "int" || (k == "bool")) = (k == "bool")):Em v:=Fg fun st => El.odd ⟨h1,k,h2 st,h3⟩
theorem yY (c:Int) (st:ag):∃ g v,PM.fc [.int c] st = .ok v (st ++ g) ∧ Em v:=by
 have TN:Dz 10:=Bp (by decide) (by decide)
 have cp:xI 10 12:=by decide
 have tn:(10:Int) ^ Int.toNat 12 = 1000000000000:=by decide
 obtain ⟨oK,hf⟩:∃ f,f = c.fdiv 10:=⟨_,rfl⟩
 have q:=e! (m:=1000000000000) (by decide) oK
 have w:=e! (m:=10) (by decide) c
 obtain ⟨g1,n,e1,hn⟩:=v7 oK st
 obtain ⟨W,hW⟩:∃ W:List ah,W = [.int 0,.int 1,.int (-1 - oK.fmod 1000000000000),.int n,.int 1009,.int (998 + oK.fmod 1000000000000)]:=⟨_,rfl⟩
 obtain ⟨s1,uo⟩:∃ s1,s1 = st ++ g1:=⟨_,rfl⟩
 rw [← uo] at e1
 obtain ⟨s2,gz⟩:∃ s2,s2 = s1 ++ [aQ.lst W]:=⟨_,rfl⟩
 obtain ⟨s3,oF⟩:∃ s3,s3 = s2 ++ [aQ.lst [ah.bl true,.dA,.str "7",.tup [.int 5]]]:=⟨_,rfl⟩
 obtain ⟨s4,zl⟩:∃ s4,s4 = s3 ++ [aQ.lst (W ++ [ah.bl true,.dA,.str "7",.tup [.int 5]])]:=⟨_,rfl⟩
 have l2:s3[s1.length]? = some (.lst W):=by rw [oF,gz]; exact kZ (bj _ _) _
 have l3:s3[s2.length]? = some (.lst [ah.bl true,.dA,.str "7",.tup [.int 5]]):=by rw [oF]; exact bj _ _
 have l4:s4[s3.length]? = some (.lst (W ++ [ah.bl true,.dA,.str "7",.tup [.int 5]])):=by rw [zl]; exact bj _ _
 have ad:cS (.loc s1.length) (.loc s2.length) s3 = .ok (.loc s3.length) s4:=by
  show (match s3[s1.length]?,s3[s2.length]? with | some (.lst us),some (.lst ws) => if us.length + ws.length ≤ sizeLine then cn.ok (ah.loc s3.length) (s3 ++ [aQ.lst (us ++ ws)]) else .bad | _,_ => .bad) = _
  rw [l2,l3]
  dsimp only
  rw [if_pos (by rw [sizeLine_eq,hW]; show 10 ≤ 16777216; decide),zl]
 have TQ:W.length ≤ 16777216:=by rw [hW]; show 6 ≤ 16777216; decide
 have O_:∀ i:Int,0 ≤ i → i < 10 → ∃ v,L2.g! (W ++ [ah.bl true,.dA,.str "7",.tup [.int 5]]) i = some v ∧ Em v:=by
  intro i i0 i1
  rw [hW]
  have:i = 0 ∨ i = 1 ∨ i = 2 ∨ i = 3 ∨ i = 4 ∨ i = 5 ∨ i = 6 ∨ i = 7 ∨ i = 8 ∨ i = 9:=by lia
  rcases this with rfl | rfl | rfl | rfl | rfl | rfl | rfl | rfl | rfl | rfl
  ·exact ⟨_,rfl,j8 (by lia)⟩
  ·exact ⟨_,rfl,j8 (by lia)⟩
  ·exact ⟨_,rfl,j8 (by lia)⟩
  ·exact ⟨_,rfl,hn⟩
  ·exact ⟨_,rfl,j8 (by lia)⟩
  ·exact ⟨_,rfl,j8 (by lia)⟩
  ·exact ⟨_,rfl,ni (k:="bool") rfl (fun _ => rfl) (by decide)⟩
  ·exact ⟨_,rfl,ni (k:="NoneType") rfl (fun _ => rfl) (by decide)⟩
  ·exact ⟨_,rfl,ni (k:="str") rfl (fun _ => rfl) (by decide)⟩
  ·exact ⟨_,rfl,ni (k:="tuple") rfl (fun _ => rfl) (by decide)⟩
 obtain ⟨v,ev,hv⟩:=O_ _ w.1 w.2
 have ix:dQ (.loc s3.length) (.int (c.fmod 10)) s4 = .ok v s4:=ee (a! l4) ev
 refine ⟨g1 ++ [aQ.lst W] ++ [aQ.lst [ah.bl true,.dA,.str "7",.tup [.int 5]]] ++ [aQ.lst (W ++ [ah.bl true,.dA,.str "7",.tup [.int 5]])],v,?_,hv⟩
 have es:st ++ (g1 ++ [aQ.lst W] ++ [aQ.lst [ah.bl true,.dA,.str "7",.tup [.int 5]]] ++ [aQ.lst (W ++ [ah.bl true,.dA,.str "7",.tup [.int 5]])]) = s4:=by
  rw [zl,oF,gz,uo]; simp only [List.append_assoc]
 rw [es]
 simp only [PM.fc,aR,aj,av,aD,aY,aw,aG,ax,az,au,l6,i6,bp,bV,a8,aA,ar,i5,fY,ay,fZ,jF,aB,aL,bB,d?,f7,aJ,aT,aH,List.map_cons,List.map_nil,List.cons_append,List.nil_append,List.replicate_succ,List.replicate_zero,List.set_cons_zero,List.set_cons_succ,Nat.reduceSub,List.length_cons,List.length_nil,Nat.reduceAdd,sizeLine_eq,Nat.reduceLeDiff,↓reduceIte,div_ii TN,← hf,om cp,tn,bK (j:=1000000000000) (by decide),e1,← hW,TQ,← gz,← oF,ad,bK (j:=10) (by decide),ix]
end vN
namespace MN
open PySem PySem.Spec L2
open PyProof.Rows hiding St kindOf
theorem cU {N P:List Str} {sc:Scope} (a:sc.kind = .function:=by rfl) (b:sc.isCoroutine = false:=by rfl) (c:sc.isGenerator = false:=by rfl) (d:N.Nodup:=by decide +kernel) (e:N.take P.length = P:=by rfl)
  (f:∀ x ∈ P,sc.names.lookup x = some .local ∨ sc.names.lookup x = some .cell:=by decide +kernel) (g:∀ y ∈ sc.names,y.2 ≠ .free:=by decide +kernel):d! N P sc:=⟨a,b,c,d,e,f,g⟩
theorem j! {X:Cx} {N:List Str} {scope:Scope} {k:Nat} {cl:List (Str × Addr)} {bx:List Nat} (mq:closureFor scope X.env = pure cl:=by rfl) (A:fb X scope cl bx:=by repeat first | exact .nil | refine .cons (by rfl) (by rfl) (by first | exact Or.inl rfl | exact Or.inr rfl) (by first | exact Or.inl rfl | exact Or.inr rfl) ?_)
  (has:((relabel scope X.env).names.all fun p => !(p.2 == .cell || p.2 == .free) || (cl.map (·.1)).contains p.1) = true:=by rfl) (fO:(scope.names.all fun p => !(p.2 == .cell)) = true:=by rfl) (kind:scope.kind = .function:=by rfl)
  (names:(scope.names.all fun p => !(p.2 == .local) || scope.names.lookup p.1 == some .local) = true:=by rfl) (len:N.length = k + bx.length:=by rfl) (hN:N.drop k = cl.map (·.1):=by rfl):pq X N scope cl k bx:=KR mq A has fO kind names len hN
theorem LX {X:Cx} {N:List Str} {scope:Scope} {k:Nat} {cl cl':List (Str × Addr)} {bx caps':List Nat} (mq:closureFor scope X.env = pure cl':=by rfl) (A:fb X scope cl bx:=by repeat first | exact .nil | refine .cons (by rfl) (by rfl) (by first | exact Or.inl rfl | exact Or.inr rfl) (by first | exact Or.inl rfl | exact Or.inr rfl) ?_)
  (B:fb X scope cl' caps':=by repeat first | exact .nil | refine .cons (by rfl) (by rfl) (by first | exact Or.inl rfl | exact Or.inr rfl) (by first | exact Or.inl rfl | exact Or.inr rfl) ?_)
  (has:((relabel scope X.env).names.all fun p => !(p.2 == .cell || p.2 == .free) || (cl'.map (·.1)).contains p.1) = true:=by rfl) (fO:(scope.names.all fun p => !(p.2 == .cell)) = true:=by rfl) (kind:scope.kind = .function:=by rfl)
  (names:(scope.names.all fun p => !(p.2 == .local) || scope.names.lookup p.1 == some .local) = true:=by rfl) (len:N.length = k + bx.length:=by rfl) (hN:N.drop k = cl.map (·.1):=by rfl):pq X N scope cl' k bx:=KY mq A B has fO kind names len hN
section
variable {P:Program} {w:World} {K:PySem.W.Frag} {mg:Str → Option Value} {base:Heap}
noncomputable def Ro (K:PySem.W.Frag) (mg:Str → Option Value):Prop:=∀ x f,PySem.W.nsIn K mainGlobals x = some (some (.ref f)) → mg x = some (.ref f)
theorem gK {x:Str}:∀ {l:List Str},DX mg l → x ∈ l → mg x = none
 | y :: l,h,hx => by
  rcases List.mem_cons.mp hx with e | e
  ·rw [e]; exact h.1
  ·exact gK h.2 e
theorem II {x:Str}:∀ {l:List Str},DY K mg l → x ∈ l → AF K mg x
 | y :: l,h,hx => by
  rcases List.mem_cons.mp hx with e | e
  ·rw [e]; exact h.1
  ·exact II h.2 e
theorem FnAt.gM {x:Str} {st:Stmt} {N ps:List Str} {k:Nat} {body:MB} (F:cQ K x st) (hm:Ro K mg) (S:d! N ps (a_ st))
  (h:∀ (f:Addr) (dW:Value) (A:Around) (outer:List PySem.Env) (s:Shared) (H:Hp) (E:XK),N.Nodup → eZ k (A.deeper (envOfC x (a_ st) s.heap.objs.size f dW)) →
   iJ (gA (jR P w) P w K mg base N x (a_ st) f dW A outer s H E) (dj st) (tS (gA (jR P w) P w K mg base N x (a_ st) f dW A outer s H E) E body))
  (hb:∀ (kV doc pm:Value) (an:Option Addr) (dW ct:Value) (us:List Value),us.length = ps.length → bindArgs (PySem.W.fnOf x x (ff st) (dj st) (a_ st) .none kV doc pm an dW ct) ⟨us,[]⟩ = pure (ps.zip us):=by
   first | exact fun _ _ _ _ _ _ => DC fun _ => rfl | exact fun _ _ _ _ _ _ => KZ fun _ _ => rfl | exact fun _ _ _ _ _ _ => K0 fun _ _ _ => rfl | exact fun _ _ _ _ _ _ => len0 rfl):FnAt P w K mg base x (k + 1) (fB ps.length N.length body):=by
 obtain ⟨f,fd,F,a⟩:=F
 exact FnAt.mk F (hm _ _ a) S hb fun dW A outer s H E => h f dW A outer s H E S.nd
end
end MN
namespace vN
open PySem PySem.Spec L2 MN PG
open PyProof.Rows hiding St kindOf
section
variable {x0:Option ah} {way p:Int} {a b:Nat} {A B:List Int} {s:ag}
theorem emp {A:List Int}:(A.map ah.int).isEmpty = decide (A = []):=by cases A <;> rfl
theorem nj {μ:MN.Env} {i n:Nat} {N:List Int} (hv:∀ s,ae i μ s = .ok (.loc n) s) (hn:s[n]? = some (aW N)):bX (ai dP (ae i) (cF aq)) μ s = .ok (decide (N = [])) (s ++ [.lst []]):=by
 refine rX ?_
 rw [iu (hv s) (oJ (vs:=[]) (s1:=s) rfl (by decide)),eq_nil (a! (bE hn _)) (bw s []),emp]
theorem LY {w:Str} (lb:s[b]? = some (aW B)):∃ g,gN (dE (bX (ai dP (ae 1) (mC (.int 7)))) (bX (ai dP (ae 4) (cF aq)))) (aU 5 (mC (.str "nought"))) bM [x0,some (.int way),some (.int p),some (.loc a),some (.loc b),some (.str w),none,none] s = .nx [x0,some (.int way),some (.int p),some (.loc a),some (.loc b),some (.str (if way = 7 ∧ B = [] then "nought" else w)),none,none] (s ++ g):=by
 have t:=nj (μ:=[x0,some (.int way),some (.int p),some (.loc a),some (.loc b),some (.str w),none,none]) (i:=4) (fun _ => rfl) lb
 generalize bX (ai dP (ae 4) (cF aq)) = T at t ⊢
 by_cases h:way = 7
 ·have q:(way == 7) = true:=by rw [h]; rfl
  refine ⟨[.lst []],?_⟩
  by_cases hb:B = []
  ·rw [decide_eq_true hb] at t
   rw [if_pos ⟨h,hb⟩]
   simp only [aj,av,aw,aG,ax,dB,bz,bV,a8,aF,aE,cH,aM,bB,bc,aJ,aH,List.set_cons_zero,List.set_cons_succ,q,t]
  ·rw [decide_eq_false hb] at t
   rw [if_neg fun z => hb z.2]
   simp only [aj,av,aw,aG,ax,dB,a9,a8,aF,aE,cH,aP,aM,bc,aJ,aH,q,t]
 ·have q:(way == 7) = false:=beq_false_of_ne h
  refine ⟨[],?_⟩
  rw [if_neg (fun z => h z.1),List.append_nil]
  simp only [aj,av,aw,aG,ax,fX,a9,a8,aF,aE,cH,aP,aM,bc,aJ,aH,q]
theorem LZ {w:Str} (la:s[a]? = some (aW A)):∃ g,gN (dE (bX (ai dP (ae 1) (mC (.int 10)))) (bX (ai dP (ae 3) (cF aq)))) (aU 5 (mC (.str "parts"))) bM [x0,some (.int way),some (.int p),some (.loc a),some (.loc b),some (.str w),none,none] s = .nx [x0,some (.int way),some (.int p),some (.loc a),some (.loc b),some (.str (if way = 10 ∧ A = [] then "parts" else w)),none,none] (s ++ g):=by
 have t:=nj (μ:=[x0,some (.int way),some (.int p),some (.loc a),some (.loc b),some (.str w),none,none]) (i:=3) (fun _ => rfl) la
 generalize bX (ai dP (ae 3) (cF aq)) = T at t ⊢
 by_cases h:way = 10
 ·have q:(way == 10) = true:=by rw [h]; rfl
  refine ⟨[.lst []],?_⟩
  by_cases hb:A = []
  ·rw [decide_eq_true hb] at t
   rw [if_pos ⟨h,hb⟩]
   simp only [aj,av,aw,aG,ax,dB,bz,bV,a8,aF,aE,cH,aM,bB,bc,aJ,aH,List.set_cons_zero,List.set_cons_succ,q,t]
  ·rw [decide_eq_false hb] at t
   rw [if_neg fun z => hb z.2]
   simp only [aj,av,aw,aG,ax,dB,a9,a8,aF,aE,cH,aP,aM,bc,aJ,aH,q,t]
 ·have q:(way == 10) = false:=beq_false_of_ne h
  refine ⟨[],?_⟩
  rw [if_neg (fun z => h z.1),List.append_nil]
  simp only [aj,av,aw,aG,ax,fX,a9,a8,aF,aE,cH,aP,aM,bc,aJ,aH,q]
theorem L4 {w:Str} (la:s[a]? = some (aW A)) (lb:s[b]? = some (aW B)):∃ g,gN (dE (bX (ai dP (ae 1) (mC (.int 8)))) (dE (bX (ai dP (ae 3) (cF aq))) (bX (ai dP (ae 4) (cF aq))))) (aU 5 (mC (.str "meet"))) bM [x0,some (.int way),some (.int p),some (.loc a),some (.loc b),some (.str w),none,none] s = .nx [x0,some (.int way),some (.int p),some (.loc a),some (.loc b),some (.str (if way = 8 ∧ A = [] ∧ B = [] then "meet" else w)),none,none] (s ++ g):=by
 have t:=nj (μ:=[x0,some (.int way),some (.int p),some (.loc a),some (.loc b),some (.str w),none,none]) (i:=3) (fun _ => rfl) la
 have t':=nj (s:=s ++ [.lst []]) (μ:=[x0,some (.int way),some (.int p),some (.loc a),some (.loc b),some (.str w),none,none]) (i:=4) (fun _ => rfl) (bE lb _)
 generalize bX (ai dP (ae 3) (cF aq)) = T at t ⊢
 generalize bX (ai dP (ae 4) (cF aq)) = T' at t' ⊢
 by_cases h:way = 8
 ·have q:(way == 8) = true:=by rw [h]; rfl
  by_cases ha:A = []
  ·rw [decide_eq_true ha] at t
   refine ⟨[.lst []] ++ [.lst []],?_⟩
   rw [← List.append_assoc]
   by_cases hb:B = []
   ·rw [decide_eq_true hb] at t'
    rw [if_pos ⟨h,ha,hb⟩]
    simp only [aj,av,aw,aG,ax,dB,bz,bV,a8,aF,aE,cH,aM,bB,bc,aJ,aH,List.set_cons_zero,List.set_cons_succ,q,t,t']
   ·rw [decide_eq_false hb] at t'
    rw [if_neg fun z => hb z.2.2]
    simp only [aj,av,aw,aG,ax,dB,a9,a8,aF,aE,cH,aP,aM,bc,aJ,aH,q,t,t']
  ·rw [decide_eq_false ha] at t
   refine ⟨[.lst []],?_⟩
   rw [if_neg fun z => ha z.2.1]
   simp only [aj,av,aw,aG,ax,dB,fX,a9,a8,aF,aE,cH,aP,aM,bc,aJ,aH,q,t]
 ·have q:(way == 8) = false:=beq_false_of_ne h
  refine ⟨[],?_⟩
  rw [if_neg (fun z => h z.1),List.append_nil]
  simp only [aj,av,aw,aG,ax,fX,a9,a8,aF,aE,cH,aP,aM,bc,aJ,aH,q]
noncomputable def j? (way:Int) (A B:List Int):Str:=if way = 10 ∧ A = [] then "parts" else if way = 8 ∧ A = [] ∧ B = [] then "meet" else if way = 7 ∧ B = [] then "nought" else "told"
theorem yZ (hp:eQ p = true) (la:s[a]? = some (aW A)) (lb:s[b]? = some (aW B)) (hA:Row p A) (hB:Row p B) (lA:A.length ≤ 50) (lB:B.length ≤ 50) (h0:0 ≤ way) (h1:way < 11):∃ s',cP [.int way,.int p,.loc a,.loc b] s = .ok (.str (j? way A B)) s' ∧ Fr s s':=by
 cases hd:En way A B with
 | none =>
  obtain ⟨v,s',e,F⟩:=v5 hp la lb hA hB lA lB h0 h1 hd
  refine ⟨s',?_,F⟩
  have:j? way A B = "told":=by
   unfold En at hd
   unfold j?
   split at hd
   ·cases hd
   ·rename_i z1
    split at hd
    ·cases hd
    ·rename_i z2
     split at hd
     ·cases hd
     ·rename_i z3
      rw [if_neg z3,if_neg z2,if_neg z1]
  rw [this]
  exact Eo rfl e
 | some c =>
  obtain ⟨g,e⟩:=yX hp la lb hd
  have fin:∃ g',cP [.int way,.int p,.loc a,.loc b] s = .ok (.str (j? way A B)) (s ++ g ++ g'):=by
   unfold En at hd
   split at hd
   ·rename_i z
    cases hd
    have:j? way A B = "nought":=by
     unfold j?
     rw [if_neg (fun y => by lia),if_neg (fun y => by lia),if_pos z]
    rw [this]
    exact j_ rfl (by decide +kernel) (by decide +kernel) e r9
   ·split at hd
    ·rename_i z
     cases hd
     have:j? way A B = "meet":=by
      unfold j?
      rw [if_neg (fun y => by lia),if_pos z]
     rw [this]
     exact j_ rfl (by decide +kernel) (by decide +kernel) e vZ
    ·split at hd
     ·rename_i z
      cases hd
      have:j? way A B = "parts":=by
       unfold j?
       rw [if_pos z]
      rw [this]
      exact j_ rfl (by decide +kernel) (by decide +kernel) e ur
     ·cases hd
  obtain ⟨g',e'⟩:=fin
  exact ⟨_,e',(Fr.app s g).more g'⟩
theorem Er (hp:eQ p = true) (la:s[a]? = some (aW A)) (lb:s[b]? = some (aW B)) (hA:Row p A) (hB:Row p B) (lA:A.length ≤ 50) (lB:B.length ≤ 50) (h0:0 ≤ way) (h1:way < 11) :
  ∃ s',kR [x0,some (.int way),some (.int p),some (.loc a),some (.loc b),some (.str (j? way A B)),none,none] s = .rt (.bl true) s':=by
 have c1:=jk (a! la)
 have F1:=Fr.app s [aW A]
 have c2:=jk (a! (F1 _ _ lb))
 have F2:Fr s (s ++ [aW A] ++ [aW B]):=F1.more _
 have l3:=bE (bj s (A.map ah.int)) [aW B]
 have l4:=bj (s ++ [aW A]) (B.map ah.int)
 obtain ⟨n3,h3⟩:∃ n,s.length = n:=⟨_,rfl⟩
 obtain ⟨n4,h4⟩:∃ n,(s ++ [aW A]).length = n:=⟨_,rfl⟩
 obtain ⟨s2,gz⟩:∃ t,s ++ [aW A] ++ [aW B] = t:=⟨_,rfl⟩
 have O!:iS [.loc a] s = .ok (.loc n3) (s ++ [aW A]):=by rw [← h3]; exact c1
 have O?:iS [.loc b] (s ++ [aW A]) = .ok (.loc n4) s2:=by rw [← h4,← gz]; exact c2
 rw [h3] at l3
 rw [h4] at l4
 rw [gz] at l3 l4 F2
 obtain ⟨s',e,F⟩:=yZ (way:=way) hp l3 l4 hA hB lA lB h0 h1
 have E:=F2.trans F
 have q1:=tU (a! (F _ _ l3)) (a! (E _ _ la)) (l8 _ A)
 have q2:=tU (a! (F _ _ l4)) (a! (E _ _ lb)) (l8 _ B)
 have q0:(j? way A B == j? way A B) = true:=beq_self_eq_true _
 refine ⟨s',?_⟩
 generalize j? way A B = W at e q0 ⊢
 simp only [kR,qg,qf,aj,av,aD,aw,aG,ax,m7,az,au,bp,bV,kI,aA,ar,ay,aB,aL,bB,K_,aJ,HF,aT,aH,List.set_cons_zero,List.set_cons_succ,O!,O?,e,q0,q1,q2]
theorem rq (hs:∃ o,PM.aZ [.loc 0,.int 6] s = .ok (.int o) s) (hp:eQ p = true) (la:s[a]? = some (aW A)) (lb:s[b]? = some (aW B)) (hA:Row p A) (hB:Row p B) (lA:A.length ≤ 50) (lB:B.length ≤ 50) (h0:0 ≤ way) (h1:way < 11) :
  ∃ s',i! [some (.loc 0),some (.int way),some (.int p),some (.loc a),some (.loc b),none,none,none] s = .rt (.bl true) s':=by
 obtain ⟨o,eo⟩:=hs
 obtain ⟨g1,v,e1,hv⟩:=yY o s
 have F1:=Fr.app s g1
 obtain ⟨s1,uo⟩:∃ t,s ++ g1 = t:=⟨_,rfl⟩
 rw [uo] at e1 F1
 have c1:=jk (a! (F1 _ _ la))
 have F2:=F1.more [aW A]
 have c2:=jk (a! (F2 _ _ lb))
 have F3:=F2.more [aW B]
 obtain ⟨n3,h3⟩:∃ n,s1.length = n:=⟨_,rfl⟩
 obtain ⟨n4,h4⟩:∃ n,(s1 ++ [aW A]).length = n:=⟨_,rfl⟩
 obtain ⟨s3,oF⟩:∃ t,s1 ++ [aW A] ++ [aW B] = t:=⟨_,rfl⟩
 have O!:iS [.loc a] s1 = .ok (.loc n3) (s1 ++ [aW A]):=by rw [← h3]; exact c1
 have O?:iS [.loc b] (s1 ++ [aW A]) = .ok (.loc n4) s3:=by rw [← h4,← oF]; exact c2
 rw [oF] at F3
 obtain ⟨g4,e4⟩:=yW (a:=n3) (b:=n4) (s:=s3) hv h0 h1
 obtain ⟨g5,e5⟩:=j_ hv.1 (by decide +kernel) (by decide +kernel) e4 uq
 have F5:=(F3.more g4).more g5
 obtain ⟨s5,TR⟩:∃ t,s3 ++ g4 ++ g5 = t:=⟨_,rfl⟩
 rw [TR] at e5 F5
 obtain ⟨g7,e7⟩:=LY (x0:=some (.loc 0)) (way:=way) (p:=p) (a:=a) (w:="told") (F5 _ _ lb)
 have F7:=F5.more g7
 obtain ⟨s7,TU⟩:∃ t,s5 ++ g7 = t:=⟨_,rfl⟩
 rw [TU] at e7 F7
 obtain ⟨g8,e8⟩:=L4 (x0:=some (.loc 0)) (way:=way) (p:=p) (w:=if way = 7 ∧ B = [] then "nought" else "told") (F7 _ _ la) (F7 _ _ lb)
 have F8:=F7.more g8
 obtain ⟨s8,TV⟩:∃ t,s7 ++ g8 = t:=⟨_,rfl⟩
 rw [TV] at e8 F8
 obtain ⟨g9,e9⟩:=LZ (x0:=some (.loc 0)) (way:=way) (p:=p) (b:=b) (w:=if way = 8 ∧ A = [] ∧ B = [] then "meet" else if way = 7 ∧ B = [] then "nought" else "told") (F8 _ _ la)
 have F9:=F8.more g9
 obtain ⟨s9,TX⟩:∃ t,s8 ++ g9 = t:=⟨_,rfl⟩
 rw [TX] at e9 F9
 obtain ⟨s',ef⟩:=Er (x0:=some (.loc 0)) (way:=way) hp (F9 _ _ la) (F9 _ _ lb) hA hB lA lB h0 h1
 refine ⟨s',?_⟩
 have ns:(("prime":Str) == "prime") = true:=by decide
 have f5:gN (bX (ai m5 (ao cP (aa (ae 1) (aa (ao PM.fc (aa (ao PM.aZ (aa (ae 0) (aa (mC (.int 6)) aq))) aq)) (aa (ao iS (aa (ae 3) aq)) (aa (ao iS (aa (ae 4) aq)) aq))))) (mC (.str "prime")))) (bD (mC (.bl false))) bM [some (.loc 0),some (.int way),some (.int p),some (.loc a),some (.loc b),none,none,none] s = .nx [some (.loc 0),some (.int way),some (.int p),some (.loc a),some (.loc b),none,none,none] s5:=by
  simp only [aj,av,aw,aG,ax,az,au,a9,a8,aF,aE,aA,ar,ay,aP,aM,K!,aJ,aT,aH,Bool.not_true,eo,e1,O!,O?,e5,ns]
 have f6:aU 5 (mC (.str "told")) [some (.loc 0),some (.int way),some (.int p),some (.loc a),some (.loc b),none,none,none] s5 = .nx [some (.loc 0),some (.int way),some (.int p),some (.loc a),some (.loc b),some (.str "told"),none,none] s5:=rfl
 unfold i!
 rw [aB,f5,aD]
 unfold t6
 rw [aB,f6,aD]
 unfold t5
 rw [aB,e7,aD]
 unfold t4
 rw [aB,e8,aD]
 unfold tZ
 rw [aB,e9,aD]
 exact ef
end
theorem BQ:∀ (c:aQ) (ns:List Int),ns.length ≤ 63 → ak [c] 0 = some (ns.map ah.int) → ∃ aC,xg [.loc 0] [c] = .ok (.bl true) aC:=by
 intro c ns hl hi
 obtain ⟨st,sG⟩:∃ st,[c] = st:=⟨_,rfl⟩
 rw [sG] at hi ⊢
 obtain ⟨o0,e0⟩:=eU (k:=0) hi (by decide) (by decide)
 obtain ⟨o1,e1⟩:=eU (k:=1) hi (by decide) (by decide)
 have w:=e! (m:=11) (by decide) o0
 obtain ⟨g1,p,ep,hp⟩:=Bq o1 st
 have Jm:=a7 hi g1
 obtain ⟨o2,e2⟩:=eU (k:=2) Jm (by decide) (by decide)
 obtain ⟨o3,e3⟩:=eU (k:=3) Jm (by decide) (by decide)
 have w3:=e! (m:=5) (by decide) o3
 obtain ⟨g2,a,A,ea,_,la,lA,rA,cA⟩:=jv hp o2 (z:=o3.fmod 5) w3.1 (by lia) (st ++ g1)
 have Jn:=a7 Jm g2
 obtain ⟨o4,e4⟩:=eU (k:=4) Jn (by decide) (by decide)
 obtain ⟨o5,e5⟩:=eU (k:=5) Jn (by decide) (by decide)
 have w5:=e! (m:=5) (by decide) o5
 obtain ⟨g3,b,B,eb,_,lb,lB,rB,cB⟩:=jv hp o4 (z:=o5.fmod 5) w5.1 (by lia) (st ++ g1 ++ g2)
 have IC:=a7 Jn g3
 obtain ⟨s3,oF⟩:∃ t,st ++ g1 ++ g2 ++ g3 = t:=⟨_,rfl⟩
 have Rp:=bE la g3
 rw [oF] at eb IC lb Rp
 obtain ⟨o7,e7⟩:=eU (k:=7) IC (by decide) (by decide)
 have RA:Row p A:=⟨cA,rA⟩
 have RB:Row p B:=⟨cB,rB⟩
 have head:∀ r,i? [some (.loc 0),some (.int (o0.fmod 11)),some (.int p),some (.loc a),some (.loc b),none,none,none] s3 = r → xg [.loc 0] st = r.fin:=fun r er => by
  rw [← er]
  generalize hT:i? = T
  simp only [xg,t9,t8,t7,aR,aj,av,aD,aw,aG,ax,az,au,bV,a8,aA,ar,ay,aB,bB,aJ,aT,aH,List.map_cons,List.map_nil,List.cons_append,List.nil_append,List.replicate_succ,List.replicate_zero,List.set_cons_zero,List.set_cons_succ,Nat.reduceSub,List.length_cons,List.length_nil,Nat.reduceAdd,hT,e0,bK (j:=11) (by decide),e1,ep,e2,e3,bK (j:=5) (by decide),ea,e4,e5,eb]
 cases q:(o7.fmod 6 == 1) with
 | true =>
  obtain ⟨s',e'⟩:=rq (s:=s3 ++ [aQ.lst []] ++ [aQ.lst []]) (a:=s3.length) (b:=(s3 ++ [aQ.lst []]).length) (A:=[]) (B:=[]) (way:=o0.fmod 11) (eU (k:=6) (a7 (a7 IC _) _) (by decide) (by decide)) hp (bE (bj s3 []) _) (bj _ []) (Row.nil p) (Row.nil p) (by decide) (by decide) w.1 w.2
  refine ⟨s',?_⟩
  rw [head (.rt (.bl true) s')]
  ·rfl
  ·rw [← e']
   generalize hT:i! = T
   simp only [i?,aj,av,aD,aw,aG,ax,az,au,i6,bz,bV,a8,aF,aE,aA,ar,fY,ay,aB,aM,bB,bc,aT,List.set_cons_zero,List.set_cons_succ,List.length_nil,sizeLine_eq,Nat.reduceLeDiff,↓reduceIte,hT,e7,bK (j:=6) (by decide),q]
 | false =>
  obtain ⟨s',e'⟩:=rq (s:=s3) (way:=o0.fmod 11) (eU (k:=6) IC (by decide) (by decide)) hp Rp lb RA RB (by lia) (by lia) w.1 w.2
  refine ⟨s',?_⟩
  rw [head (.rt (.bl true) s')]
  ·rfl
  ·rw [← e']
   generalize hT:i! = T
   simp only [i?,aj,av,aD,aw,aG,ax,az,au,a9,a8,aF,aE,aA,ar,ay,aB,aP,aM,bc,aT,hT,e7,bK (j:=6) (by decide),q]
end vN
namespace vN
open PySem PySem.Spec L2 MN
open PyProof.Rows hiding St
noncomputable def top (i:Nat):Stmt:=PySem.Challenge.pw_polyring_k17_primes_refused.main.body.getD i (.Pass ⟨0,0,0,0⟩)
structure Txt (P:Program) (w:World) (K:PySem.W.Frag) (mg:Str → Option Value) (base:Heap):Prop where
 gl:Ro K mg
 b:DX mg ["ValueError","abs","all","bool","enumerate","int","isinstance","len","list","max","range","reversed","sorted","tuple","zip"]
 c:DY K mg ["AlgebraError","NoRing","NoPrime","NoInverse","NotWhole","NoUnknowns","NoTerm","NoCount","NoLead","NoOrder","NotWritten","ByNought","NoMeet","NoParts","NotPlain","NoSums"]
 uu:Glob K mg "MOST_RING" (.int 997)
 oM:Glob K mg "FIRST_PRIMES" PM.eM
 sub:dY K mg tab
 qx:pA K mg vN.kn
theorem Es {X:Cx} {E:XK} {e:Expr} {m:ME} {i:Nat} {x:Str} {pos pos':Pos} (hN:X.N.Nodup) (he:PE X e (tE X E m)) (hi:X.N[i]? = some x:=by rfl) (hx:Loc X.env.scope x:=by first | exact Or.inl rfl | exact Or.inr rfl) (hs:swapsWith e (some (.Name x pos')) pos.line X.env = pure false:=by rfl) (hf:X.fn x = true ∨ X.env.scope.names.lookup x = some .local:=by first | exact .inl rfl | exact .inr rfl | assumption):PS X (.Assign [.Name x pos'] e pos) (tS X E (aU i m)):=G6 i hN he hi hx hs hf
section
variable {P:Program} {w:World} {K:PySem.W.Frag} {mg:Str → Option Value} {base:Heap} (T:Txt P w K mg base)
theorem jx:d! ["_law_e","_law_marks_here"] ["_law_e"] (a_ (top 65)):=cU
theorem jy:d! ["_law_e","_law_marks_here","_law_names"] ["_law_e"] (a_ (top 66)):=cU
theorem BR:d! ["_law_script","_law_way","_law_prime","_law_ones","_law_others","_law_due","_law_first","_law_second"] ["_law_script"] (a_ (top 68)):=cU
seal L2.PE L2.PT L2.PA L2.PS L2.iJ L2.PG L2.uV L2.PI L2.xV L2.B5 L2.x_ L2.PH
set_option hygiene false
local macro_rules|`(tactic|trivial)=>`(tactic|repeat' first|((with_reducible show PA _ (_::_) _);refine C6 ?_ ?_)|with_reducible exact GZ|((with_reducible show PE _ (.Name ..) _);first|exact GK _|exact wG (by rfl) T.uu|exact wG (by rfl) T.oM)|((with_reducible show PE _ (.Constant ..) _);first|exact GL|exact Ky|exact GN|exact GO)|((with_reducible show PE _ _ (tG _ _ _ (ao yh _)));refine iR (yi hr.hd) (by rfl) (gK T.b (by decide +kernel)) PyProof.Rows.boot_all ?_)|((with_reducible show PE _ _ (tG _ _ _ (ao tw _)));refine iR ye (by rfl) (gK T.b (by decide +kernel)) PyProof.Rows.boot_abs ?_)|((with_reducible show PE _ _ (tG _ _ _ (ao bY _)));refine iR yd (by rfl) (gK T.b (by decide +kernel)) PySem.boot_len ?_)|((with_reducible show PE _ _ (tG _ _ _ (ao iS _)));refine p6 yg (by rfl) (gK T.b (by decide +kernel)) PyProof.Rows.boot_list ?_)|((with_reducible show PE _ _ (tG _ _ _ (ao vk _)));refine p6 yf (by rfl) (gK T.b (by decide +kernel)) PyProof.Rows.boot_tuple ?_)|((with_reducible show PE _ _ (tG _ _ _ (ao yt _)));refine iR (yu hr.hd) (by rfl) (gK T.b (by decide +kernel)) PyProof.Rows.Boot.«max» ?_)|((with_reducible show PE _ _ (tG _ _ _ (ao j4 _)));refine iR (tY hr.hd) (by rfl) (gK T.b (by decide +kernel)) PyProof.Rows.Boot.«sorted» ?_)|((with_reducible show PE _ _ (tG _ _ _ (ao _ _)));refine KS (by assumption) hr (by decide) (by rfl) (by first|exact z!|exact KL) ?_)|((with_reducible show PE _ _ (tG _ _ _ (ai dQ _ _)));refine Hr ?_ ?_)|((with_reducible show PE _ _ (tG _ _ _ (ai l5 _ _)));refine Dp hr.units ?_ ?_)|((with_reducible show PE _ _ (tG _ _ _ (vh _ _)));refine GS ?_ ?_)|((with_reducible show PE _ _ (tG _ _ _ (Mw _ _)));refine KA ?_ ?_)|((with_reducible show PE _ _ (tG _ _ _ (Kz _ _ _)));refine KD ?_ ?_ ?_)|((with_reducible show PE _ _ (tG _ _ _ (iQ _)));refine G0 ?_)|((with_reducible show PE _ _ (tG _ _ _ (cF _)));refine G1 ?_)|((with_reducible show PE _ _ (tG _ _ _ (MF _ _ _)));refine KW ?_ ?_ ?_)|((with_reducible show PE _ _ (tG _ _ _ (m9 _ _)));refine yK ?_ ?_)|((with_reducible show PE _ _ (tG _ _ _ (qZ)));refine AH)|((with_reducible show PE _ (.BinOp ..) _);first|refine Ik ?_ ?_|refine Ij ?_ ?_|refine Ig ?_ ?_|refine Ih ?_ ?_|refine Ii ?_ ?_|refine Il ?_ ?_)|((with_reducible show PE _ (.Compare ..) _);first|refine Lp hr.units ?_ ?_|refine Lq hr.units ?_ ?_)|((with_reducible show PE _ (.UnaryOp ..) _);first|refine G9 ?_|refine GU ?_)|((with_reducible show PE _ (.Call (.Attribute ..) ..) _);first|refine yw ?_ ?_|refine Bj ?_ ?_|refine Bk ?_ ?_|refine DA ?_)|((with_reducible show PE _ _ (tG _ _ _ (KJ _ _)));first|refine Au Av (by rfl) (gK T.b (by decide +kernel)) (by rfl) (gK T.b (by decide +kernel)) PyProof.Rows.boot_int ?_|refine Au yj (by rfl) (gK T.b (by decide +kernel)) (by rfl) (gK T.b (by decide +kernel)) PyProof.Rows.boot_bool ?_)|((with_reducible show PE _ _ (tG _ _ _ (dC _ _ _ _)));refine DW _ T.sub T.qx (II T.c (by decide +kernel)) (by rfl) (gK T.b (by decide +kernel)) (by rfl))|((with_reducible show PE _ _ (tG _ _ _ (vt _ _ _)));exact Dn _ T.sub (gK T.b (by decide +kernel)) jt (by rfl) (gK T.b (by decide +kernel)) (by rfl))|((with_reducible show iJ _ [_] _);refine Aj ?_)|((with_reducible show iJ _ (_::_) _);refine wH ?_ ?_)|with_reducible exact G4|((with_reducible show PS _ (.Assign [.Name ..] ..) _);refine Es (by assumption) ?_)|((with_reducible show PS _ (.Assign [.Subscript ..] ..) _);first|refine Dq hr.units ?_ ?_ ?_|refine Dv ?_ ?_ ?_)|((with_reducible show PS _ (.Return ..) _);refine G5 ?_)|((with_reducible show PS _ (.If ..) _);refine KH ?_ ?_ ?_)|((with_reducible show PS _ (.Expr ..) _);refine C8 ?_)|((with_reducible show PS _ (.While ..) _);refine Az tH ?_ ?_)|((with_reducible show PS _ (.For ..) _);refine Hg tH rfl ?_ ?_ ?_)|((with_reducible show PS _ (.Raise ..) _);refine yp vy rfl (II T.c (by decide +kernel)) (by rfl) ?_)|((with_reducible show PI _ _ _ (tG _ _ _ (n_ _)));refine He ?_)|((with_reducible show PI _ _ (.Call ..) _);first|refine yk (by rfl) (gK T.b (by decide +kernel)) ?_|refine ym (by rfl) (gK T.b (by decide +kernel)) ?_|refine Dx (by rfl) (gK T.b (by decide +kernel)) ?_|refine Hf _ _ (by rfl) (gK T.b (by decide +kernel)) ?_|refine Dy (by rfl) (gK T.b (by decide +kernel)) ?_|refine Hu (by rfl) (gK T.b (by decide +kernel)) ?_)|((with_reducible show PG _ (.Name ..) _);exact Dg _ (by assumption))|((with_reducible show PG _ (.Tuple ..) _);refine Hb rfl ?_)|((with_reducible show uV _ (_::_) _);refine Aw ?_ ?_)|with_reducible exact Dh|((with_reducible show xV _ [] _);exact Di)|((with_reducible show xV _ [_] _);refine Dj ?_)|((with_reducible show PT _ (.Compare ..) _);first|refine Ln hr.units ?_ ?_|refine Lo hr.units ?_ ?_|refine Ll ?_ ?_|refine Lm ?_ ?_|refine nO G' ?_ ?_)|((with_reducible show PT _ (.UnaryOp ..) _);refine GX ?_)|((with_reducible show PT _ (.BoolOp ..) _);refine Oi ?_)|((with_reducible show PT _ _ (tG _ _ _ (bX _)));refine GP ?_)|refine Ds ?_|exact Dr|refine KC ?_ ?_|refine GV ?_|refine GW ?_ ?_|refine C5 ?_|refine GR ?_|((with_reducible show iJ _ _ _);first|refine Aj ?_|refine wH ?_ ?_))
include T
theorem uv (F:cQ K "is_whole" (top 20)):FnAt P w K mg base "is_whole" 1 PM.fS :=
 FnAt.gM F T.gl (cU (N:=["thing"]) (P:=["thing"])) (fun _ _ _ _ s _ _ nd hr => by
 trivial)
variable (v8:FnAt P w K mg base "is_whole" 1 PM.fS)
theorem jJ (F:cQ K "is_prime_within" (top 21)):FnAt P w K mg base "is_prime_within" 1 PM.bQ :=
 FnAt.gM F T.gl (cU (N:=["number"]) (P:=["number"])) (fun _ _ _ _ s _ _ nd hr => by
 have:(["prime","number"]:List Str).Nodup:=by decide +kernel
 trivial
 ·refine gv (N:=["prime","number"]) (k:=1) rfl rfl (j! (cl:=[("number",s.heap.objs.size + 1)])) ?_ (fun _ _ _ _ => ?_) (fun _ _ _ _ => ?_) (fun _ _ _ _ => ?_)<;>trivial)
variable (j':FnAt P w K mg base "is_prime_within" 1 PM.bQ)
theorem oN (F:cQ K "signed_unit" (top 25)):FnAt P w K mg base "signed_unit" 1 PM.dG :=
 FnAt.gM F T.gl (cU (N:=["number"]) (P:=["number"])) (fun _ _ _ _ s _ _ nd hr => by
 trivial)
variable (pG:FnAt P w K mg base "signed_unit" 1 PM.dG)
theorem k7 (F:cQ K "whole_inverse" (top 28)):FnAt P w K mg base "whole_inverse" 1 PM.gF :=
 FnAt.gM F T.gl (cU (N:=["number"]) (P:=["number"])) (fun _ _ _ _ s _ _ nd hr => by
 trivial)
variable (my:FnAt P w K mg base "whole_inverse" 1 PM.gF)
theorem mz (F:cQ K "row_of_rests" (top 30)):FnAt P w K mg base "row_of_rests" 1 PM.bO :=
 FnAt.gM F T.gl (cU (N:=["prime","numbers","row"]) (P:=["prime","numbers"])) (fun _ _ _ _ s _ _ nd hr => by
 have:(["number","prime"]:List Str).Nodup:=by decide +kernel
 trivial
 ·refine MN.n! 2 (N:=["number","prime"]) (k:=1) nd rfl rfl (j! (cl:=[("prime",s.heap.objs.size + 1)])) ?_ (fun _ _ _ _ => ?_) (fun _ _ _ _ => ?_) (fun _ _ _ _ => ?_)<;>trivial)
variable (df:FnAt P w K mg base "row_of_rests" 1 PM.bO)
theorem mD (F:cQ K "with_noughts" (top 32)):FnAt P w K mg base "with_noughts" 1 PM.dR :=
 FnAt.gM F T.gl (cU (N:=["row","length"]) (P:=["row","length"])) (fun _ _ _ _ s _ _ nd hr => by
 trivial)
variable (oO:FnAt P w K mg base "with_noughts" 1 PM.dR)
theorem mE (F:cQ K "_law_cell_at" (top 58)):FnAt P w K mg base "_law_cell_at" 1 PM.aZ :=
 FnAt.gM F T.gl (cU (N:=["_law_script","_law_k","_law_cell","_law_one","_law_two"]) (P:=["_law_script","_law_k"])) (fun _ _ _ _ s _ _ nd hr => by
 trivial)
variable (oP:FnAt P w K mg base "_law_cell_at" 1 PM.aZ)
theorem k8 (F:cQ K "_law_prime_by" (top 59)):FnAt P w K mg base "_law_prime_by" 1 PM.eO :=
 FnAt.gM F T.gl (cU (N:=["_law_cell","_law_number"]) (P:=["_law_cell"])) (fun _ _ _ _ s _ _ nd hr => by
 have:(["_law_k","_law_number"]:List Str).Nodup:=by decide +kernel
 trivial
 ·refine gv (N:=["_law_k","_law_number"]) (k:=1) rfl rfl (j! (cl:=[("_law_number",s.heap.objs.size + 1)])) ?_ (fun _ _ _ _ => ?_) (fun _ _ _ _ => ?_) (fun _ _ _ _ => ?_)<;>trivial)
variable (mG:FnAt P w K mg base "_law_prime_by" 1 PM.eO)
theorem uw (F:cQ K "_law_cut" (top 60)):FnAt P w K mg base "_law_cut" 1 PM.jV :=
 FnAt.gM F T.gl (cU (N:=["_law_numbers","_law_many"]) (P:=["_law_numbers"])) (fun _ _ _ _ s _ _ nd hr => by
 trivial)
variable (v9:FnAt P w K mg base "_law_cut" 1 PM.jV)
theorem mH (F:cQ K "_law_product" (top 62)):FnAt P w K mg base "_law_product" 1 PM.ej :=
 FnAt.gM F T.gl (cU (N:=["_law_far","_law_number"]) (P:=["_law_far"])) (fun _ _ _ _ s _ _ nd hr => by
 have:(["_law_k","_law_number"]:List Str).Nodup:=by decide +kernel
 trivial
 ·refine gv (N:=["_law_k","_law_number"]) (k:=1) rfl rfl (j! (cl:=[("_law_number",s.heap.objs.size + 1)])) ?_ (fun _ _ _ _ => ?_) (fun _ _ _ _ => ?_) (fun _ _ _ _ => ?_)<;>trivial)
variable (oQ:FnAt P w K mg base "_law_product" 1 PM.ej)
theorem pH (F:cQ K "_law_marks" (top 65)):j0 P w K mg base "_law_marks" 1 dJ:=let ⟨_,_,F,a⟩:=F
 j0.mk F (T.gl _ _ a) jx (fun _ _ _ _ _ _ => DC fun _ => rfl) fun dW A outer s H ea oe hr => by
 have:=jx.nd
 trivial
variable (kd:j0 P w K mg base "_law_marks" 1 dJ)
include v8 j' in
theorem v_ (F:cQ K "is_ring" (top 22)):FnAt P w K mg base "is_ring" 2 PM.fg :=
 FnAt.gM F T.gl (cU (N:=["thing"]) (P:=["thing"])) (fun _ _ _ _ s _ _ nd hr => by
 trivial)
variable (qr:FnAt P w K mg base "is_ring" 2 PM.fg)
include pG in
theorem y_ (F:cQ K "shared" (top 26)):FnAt P w K mg base "shared" 2 PM.shared :=
 FnAt.gM F T.gl (cU (N:=["one","other","upper","lower","often","following"]) (P:=["one","other"])) (fun _ _ _ _ s _ _ nd hr => by
 have:(["high","low","often"]:List Str).Nodup:=by decide +kernel
 trivial
 ·refine gv (N:=["high","low","often"]) (k:=2) rfl rfl (j! (cl:=[("often",s.heap.objs.size + 1)])) ?_ (fun _ _ _ _ => ?_) (fun _ _ _ _ => ?_) (fun _ _ _ _ => ?_)<;>trivial)
variable (BS:FnAt P w K mg base "shared" 2 PM.shared)
include df oO in
theorem je (F:cQ K "row_with_multiple" (top 31)):FnAt P w K mg base "row_with_multiple" 2 PM.bF :=
 FnAt.gM F T.gl (cU (N:=["prime","ones","others","factor","length","longer"]) (P:=["prime","ones","others","factor"])) (fun _ _ _ _ s _ _ nd hr => by
 have:(["one","other","factor"]:List Str).Nodup:=by decide +kernel
 trivial
 ·refine gv (N:=["one","other","factor"]) (k:=2) rfl rfl (j! (cl:=[("factor",s.heap.objs.size + 1)])) ?_ (fun _ _ _ _ => ?_) (fun _ _ _ _ => ?_) (fun _ _ _ _ => ?_)<;>trivial) (fun _ _ _ _ _ _ => Hv fun _ _ _ _ => rfl)
variable (d0:FnAt P w K mg base "row_with_multiple" 2 PM.bF)
include df in
theorem oR (F:cQ K "row_product" (top 33)):FnAt P w K mg base "row_product" 2 PM.cN :=
 FnAt.gM F T.gl (cU (N:=["prime","ones","others","numbers","power","number","more","other"]) (P:=["prime","ones","others"])) (fun _ _ _ _ s _ _ nd hr => by
 trivial
 ·refine wY wX ?_ ?_ ?_<;>trivial)
variable (jz:FnAt P w K mg base "row_product" 2 PM.cN)
include df in
theorem mI (F:cQ K "row_multiple" (top 34)):FnAt P w K mg base "row_multiple" 2 PM.b7 :=
 FnAt.gM F T.gl (cU (N:=["prime","row","factor"]) (P:=["prime","row","factor"])) (fun _ _ _ _ s _ _ nd hr => by
 have:(["number","factor"]:List Str).Nodup:=by decide +kernel
 trivial
 ·refine gv (N:=["number","factor"]) (k:=1) rfl rfl (j! (cl:=[("factor",s.heap.objs.size + 1)])) ?_ (fun _ _ _ _ => ?_) (fun _ _ _ _ => ?_) (fun _ _ _ _ => ?_)<;>trivial)
variable (gg:FnAt P w K mg base "row_multiple" 2 PM.b7)
include df in
theorem mJ (F:cQ K "slope_of_row" (top 35)):FnAt P w K mg base "slope_of_row" 2 PM.cW :=
 FnAt.gM F T.gl (cU (N:=["prime","row"]) (P:=["prime","row"])) (fun _ _ _ _ s _ _ nd hr => by
 have:(["power","row"]:List Str).Nodup:=by decide +kernel
 trivial
 ·refine gv (N:=["power","row"]) (k:=1) rfl rfl (j! (cl:=[("row",s.heap.objs.size + 1)])) ?_ (fun _ _ _ _ => ?_) (fun _ _ _ _ => ?_) (fun _ _ _ _ => ?_)<;>trivial)
variable (gj:FnAt P w K mg base "slope_of_row" 2 PM.cW)
include v9 in
theorem pI (F:cQ K "_law_drawn" (top 61)):FnAt P w K mg base "_law_drawn" 2 PM.fH :=
 FnAt.gM F T.gl (cU (N:=["_law_prime","_law_cell","_law_size","_law_numbers","_law_k","_law_mixed"]) (P:=["_law_prime","_law_cell","_law_size"])) (fun _ _ _ _ s _ _ nd hr => by
 trivial)
variable (r!:FnAt P w K mg base "_law_drawn" 2 PM.fH)
include oQ in
theorem oS (F:cQ K "_law_bad_by" (top 63)):FnAt P w K mg base "_law_bad_by" 2 PM.fc :=
 FnAt.gM F T.gl (cU (N:=["_law_cell","_law_far","_law_some"]) (P:=["_law_cell"])) (fun _ _ _ _ s _ _ nd hr => by
 trivial)
variable (pJ:FnAt P w K mg base "_law_bad_by" 2 PM.fc)
include kd in
theorem pK (F:cQ K "_law_named" (top 66)):j0 P w K mg base "_law_named" 2 b!:=let ⟨_,_,F,a⟩:=F
 j0.mk F (T.gl _ _ a) jy (fun _ _ _ _ _ _ => DC fun _ => rfl) fun dW A outer s H ea oe hr => by
 have:=jy.nd
 trivial
 ·exact (tW 0 kd (hr.mono (by decide)) (by rfl))
variable (ke:j0 P w K mg base "_law_named" 2 b!)
include qr in
theorem pL (F:cQ K "check_ring" (top 23)):FnAt P w K mg base "check_ring" 3 PM.fT :=
 FnAt.gM F T.gl (cU (N:=["ring"]) (P:=["ring"])) (fun _ _ _ _ s _ _ nd hr => by
 trivial)
variable (r?:FnAt P w K mg base "check_ring" 3 PM.fT)
include qr in
theorem oT (F:cQ K "check_prime" (top 24)):FnAt P w K mg base "check_prime" 3 PM.bu :=
 FnAt.gM F T.gl (cU (N:=["prime"]) (P:=["prime"])) (fun _ _ _ _ s _ _ nd hr => by
 trivial)
variable (bH:FnAt P w K mg base "check_prime" 3 PM.bu)
include my BS r? in
theorem v! (F:cQ K "inverse" (top 27)):FnAt P w K mg base "inverse" 4 PM.inverse :=
 FnAt.gM F T.gl (cU (N:=["ring","number"]) (P:=["ring","number"])) (fun _ _ _ _ s _ _ nd hr => by
 trivial)
variable (k9:FnAt P w K mg base "inverse" 4 PM.inverse)
include df bH in
theorem uz (F:cQ K "row_made" (top 36)):FnAt P w K mg base "row_made" 4 PM.gP :=
 FnAt.gM F T.gl (cU (N:=["prime","numbers"]) (P:=["prime","numbers"])) (fun _ _ _ _ s _ _ nd hr => by
 trivial)
variable (v?:FnAt P w K mg base "row_made" 4 PM.gP)
include d0 bH in
theorem uA (F:cQ K "row_plus" (top 37)):FnAt P w K mg base "row_plus" 4 PM.iZ :=
 FnAt.gM F T.gl (cU (N:=["prime","ones","others"]) (P:=["prime","ones","others"])) (fun _ _ _ _ s _ _ nd hr => by
 trivial)
variable (wa:FnAt P w K mg base "row_plus" 4 PM.iZ)
include d0 bH in
theorem sd (F:cQ K "row_minus" (top 38)):FnAt P w K mg base "row_minus" 4 PM.gQ :=
 FnAt.gM F T.gl (cU (N:=["prime","ones","others"]) (P:=["prime","ones","others"])) (fun _ _ _ _ s _ _ nd hr => by
 trivial)
variable (uB:FnAt P w K mg base "row_minus" 4 PM.gQ)
include jz bH in
theorem se (F:cQ K "row_times" (top 39)):FnAt P w K mg base "row_times" 4 PM.gR :=
 FnAt.gM F T.gl (cU (N:=["prime","ones","others"]) (P:=["prime","ones","others"])) (fun _ _ _ _ s _ _ nd hr => by
 trivial)
variable (uC:FnAt P w K mg base "row_times" 4 PM.gR)
include gg bH in
theorem pM (F:cQ K "row_scaled" (top 40)):FnAt P w K mg base "row_scaled" 4 PM.fU :=
 FnAt.gM F T.gl (cU (N:=["prime","row","number"]) (P:=["prime","row","number"])) (fun _ _ _ _ s _ _ nd hr => by
 trivial)
variable (sf:FnAt P w K mg base "row_scaled" 4 PM.fU)
include bH in
theorem sh (F:cQ K "row_value" (top 41)):FnAt P w K mg base "row_value" 4 PM.fG :=
 FnAt.gM F T.gl (cU (N:=["prime","row","place","total","number"]) (P:=["prime","row","place"])) (fun _ _ _ _ s _ _ nd hr => by
 trivial)
variable (uD:FnAt P w K mg base "row_value" 4 PM.fG)
include gj bH in
theorem si (F:cQ K "row_slope" (top 42)):FnAt P w K mg base "row_slope" 4 PM.gS :=
 FnAt.gM F T.gl (cU (N:=["prime","row"]) (P:=["prime","row"])) (fun _ _ _ _ s _ _ nd hr => by
 trivial)
variable (uE:FnAt P w K mg base "row_slope" 4 PM.gS)
include df k9 in
theorem y! (F:cQ K "parted" (top 45)):FnAt P w K mg base "parted" 5 PM.parted :=
 FnAt.gM F T.gl (cU (N:=["prime","row","by","rest","back","steps","numbers","shift","often","power","number"]) (P:=["prime","row","by"])) (fun _ _ _ _ s _ _ nd hr => by
 trivial
 ·refine wY Dw ?_ ?_ ?_<;>trivial)
variable (jf:FnAt P w K mg base "parted" 5 PM.parted)
include gg k9 in
theorem kf (F:cQ K "plain_multiple" (top 46)):FnAt P w K mg base "plain_multiple" 5 PM.de :=
 FnAt.gM F T.gl (cU (N:=["prime","row"]) (P:=["prime","row"])) (fun _ _ _ _ s _ _ nd hr => by
 trivial)
variable (gX:FnAt P w K mg base "plain_multiple" 5 PM.de)
include bH jf in
theorem wb (F:cQ K "divided" (top 44)):FnAt P w K mg base "divided" 6 PM.divided :=
 FnAt.gM F T.gl (cU (N:=["prime","row","by"]) (P:=["prime","row","by"])) (fun _ _ _ _ s _ _ nd hr => by
 trivial)
variable (y?:FnAt P w K mg base "divided" 6 PM.divided)
include jf gX in
theorem mK (F:cQ K "greatest_row" (top 47)):FnAt P w K mg base "greatest_row" 6 PM.cY :=
 FnAt.gM F T.gl (cU (N:=["prime","ones","others","upper","lower","rest"]) (P:=["prime","ones","others"])) (fun _ _ _ _ s _ _ nd hr => by
 trivial)
variable (oU:FnAt P w K mg base "greatest_row" 6 PM.cY)
include d0 jz jf in
theorem mL (F:cQ K "triple_below" (top 50)):FnAt P w K mg base "triple_below" 6 PM.dS :=
 FnAt.gM F T.gl (cU (N:=["prime","upper","lower","pair","taken"]) (P:=["prime","upper","lower"])) (fun _ _ _ _ s _ _ nd hr => by
 have:(["place","lower","pair","prime"]:List Str).Nodup:=by decide +kernel
 trivial
 ·refine MN.n! 4 (N:=["place","lower","pair","prime"]) (k:=1) nd rfl rfl (LX (cl:=[("lower",s.heap.objs.size + 2),("pair",s.heap.objs.size + 3),("prime",s.heap.objs.size + 1)]) (cl':=[("prime",s.heap.objs.size + 1),("pair",s.heap.objs.size + 3),("lower",s.heap.objs.size + 2)]) (caps':=[0,3,2])) ?_ (fun _ _ _ _ => ?_) (fun _ _ _ _ => ?_) (fun _ _ _ _ => ?_)<;>trivial)
variable (oV:FnAt P w K mg base "triple_below" 6 PM.dS)
include gg k9 jf oV in
theorem IJ (F:cQ K "met" (top 49)):FnAt P w K mg base "met" 7 PM.met :=
 FnAt.gM F T.gl (cU (N:=["prime","ones","others","upper","lower","following","back","greatest","one_part","other_part"]) (P:=["prime","ones","others"])) (fun _ _ _ _ s _ _ nd hr => by
 trivial)
variable (Fh:FnAt P w K mg base "met" 7 PM.met)
include gj jf oU in
theorem k_ (F:cQ K "parts_by_many" (top 56)):FnAt P w K mg base "parts_by_many" 7 PM.d7 :=
 FnAt.gM F T.gl (cU (N:=["prime","row","found","step","left","unseen","seen","many","further","part"]) (P:=["prime","row"])) (fun _ _ _ _ s _ _ nd hr => by
 trivial
 ·refine Ht wX nd ?_<;>trivial)
variable (mM:FnAt P w K mg base "parts_by_many" 7 PM.d7)
include bH Fh in
theorem Et (F:cQ K "meet" (top 48)):FnAt P w K mg base "meet" 8 PM.meet :=
 FnAt.gM F T.gl (cU (N:=["prime","ones","others"]) (P:=["prime","ones","others"])) (fun _ _ _ _ s _ _ nd hr => by
 trivial)
variable (IK:FnAt P w K mg base "meet" 8 PM.meet)
include gj Fh in
theorem mO (F:cQ K "paper_of_row" (top 53)):FnAt P w K mg base "paper_of_row" 8 PM.dz :=
 FnAt.gM F T.gl (cU (N:=["prime","row","found"]) (P:=["prime","row"])) (fun _ _ _ _ s _ _ nd hr => by
 trivial)
variable (oW:FnAt P w K mg base "paper_of_row" 8 PM.dz)
include gX mM in
theorem mP (F:cQ K "parts_of_row" (top 55)):FnAt P w K mg base "parts_of_row" 8 PM.dU :=
 FnAt.gM F T.gl (cU (N:=["prime","row","found"]) (P:=["prime","row"])) (fun _ _ _ _ s _ _ nd hr => by
 have:(["many","found"]:List Str).Nodup:=by decide +kernel
 trivial
 ·refine gv (N:=["many","found"]) (k:=1) rfl rfl (j! (cl:=[("found",s.heap.objs.size + 1)])) ?_ (fun _ _ _ _ => ?_) (fun _ _ _ _ => ?_) (fun _ _ _ _ => ?_)<;>trivial)
variable (oX:FnAt P w K mg base "parts_of_row" 8 PM.dU)
include bH oW in
theorem sj (F:cQ K "no_square" (top 52)):FnAt P w K mg base "no_square" 9 PM.fI :=
 FnAt.gM F T.gl (cU (N:=["prime","row"]) (P:=["prime","row"])) (fun _ _ _ _ s _ _ nd hr => by
 trivial)
variable (uF:FnAt P w K mg base "no_square" 9 PM.fI)
include bH oX in
theorem BU (F:cQ K "parts" (top 54)):FnAt P w K mg base "parts" 9 PM.parts :=
 FnAt.gM F T.gl (cU (N:=["prime","row"]) (P:=["prime","row"])) (fun _ _ _ _ s _ _ nd hr => by
 trivial)
variable (Eu:FnAt P w K mg base "parts" 9 PM.parts)
include v? wa uB uC sf uD uE y? IK uF Eu in
theorem pN (F:cQ K "_law_asked" (top 64)):FnAt P w K mg base "_law_asked" 10 PM.aI :=
 FnAt.gM F T.gl (cU (N:=["_law_way","_law_prime","_law_ones","_law_others"]) (P:=["_law_way","_law_prime","_law_ones","_law_others"])) (fun _ _ _ _ s _ _ nd hr => by
 trivial) (fun _ _ _ _ _ _ => Hv fun _ _ _ _ => rfl)
variable (kh:FnAt P w K mg base "_law_asked" 10 PM.aI)
include ke kh in
theorem sk (F:cQ K "_law_word" (top 67)):FnAt P w K mg base "_law_word" 11 cP :=
 FnAt.gM F T.gl (cU (N:=["_law_way","_law_prime","_law_ones","_law_others","_law_e"]) (P:=["_law_way","_law_prime","_law_ones","_law_others"])) (fun _ _ _ _ s _ _ nd hr => by
 trivial
 ·refine Hk T.qx.known ⟨fun _ => rfl,rfl,rfl⟩ ?_ ?_
  ·refine Dl ?_
   ·refine AB ?_
    ·refine Hm kh hr (by decide) (by rfl) (fun _ => rfl) (fun _ => ?_)<;>trivial
  ·refine Hq (i:=4) T.sub nd T.c.1 (by rfl) (fun _ _ => ?_) ?_
   ·trivial
    ·exact (tW 4 ke ((f9.mark hr _).mono (by decide)) (by rfl))
   ·exact Hj) (fun _ _ _ _ _ _ => Hv fun _ _ _ _ => rfl)
variable (uG:FnAt P w K mg base "_law_word" 11 cP)
include oP mG r! pJ uG in
theorem IL {f:Addr} {fd:FuncData} (F:B4 K "law" "law" (top 68) f fd):iL P w K mg base (jR P w) 12 f fd ["_law_script"] (GY ⟨K,mg,[]⟩ xg) :=
 Al F BR fun dW A outer s H E hr => by
 have:=BR.nd
 trivial
end
theorem all_mk {l:PySem.W.OpenLaw} {w:World} {K:PySem.W.Frag} {h:Heap} {mg:Str → Option Value} {fa:Addr} (X:K.In h) (G:h.Ns mainGlobals mg) (TY:mg "law" = some (.ref fa))
  {O':Addr} {Pa L5:Option Addr} {Pb:Array (Option Value)} {Pc L6 L7 L8 IM L9:Value}
  {su:Tok}
  {iE:Addr} {mQ:Option Addr} {mR:Nat} {mS:Array (Option Value)} {k! k? lh lj ll lC lD lE lH lI ki:Tok}
  (h0:cQ K "is_whole" (top 20))
  (h1:cQ K "is_prime_within" (top 21))
  (h2:cQ K "signed_unit" (top 25))
  (h3:cQ K "whole_inverse" (top 28))
  (h4:cQ K "row_of_rests" (top 30))
  (h5:cQ K "with_noughts" (top 32))
  (h6:cQ K "_law_cell_at" (top 58))
  (h7:cQ K "_law_prime_by" (top 59))
  (h8:cQ K "_law_cut" (top 60))
  (h9:cQ K "_law_product" (top 62))
  (Pd:cQ K "_law_marks" (top 65))
  (Ms:cQ K "is_ring" (top 22))
  (Pe:cQ K "shared" (top 26))
  (Pf:cQ K "row_with_multiple" (top 31))
  (Pg:cQ K "row_product" (top 33))
  (Ph:cQ K "row_multiple" (top 34))
  (Pj:cQ K "slope_of_row" (top 35))
  (Pk:cQ K "_law_drawn" (top 61))
  (Pl:cQ K "_law_bad_by" (top 63))
  (Pn:cQ K "_law_named" (top 66))
  (Po:cQ K "check_ring" (top 23))
  (Pp:cQ K "check_prime" (top 24))
  (Pq:cQ K "inverse" (top 27))
  (Pr:cQ K "row_made" (top 36))
  (Pt:cQ K "row_plus" (top 37))
  (Pu:cQ K "row_minus" (top 38))
  (Pw:cQ K "row_times" (top 39))
  (Px:cQ K "row_scaled" (top 40))
  (Py:cQ K "row_value" (top 41))
  (Pz:cQ K "row_slope" (top 42))
  (PB:cQ K "parted" (top 45))
  (PD:cQ K "plain_multiple" (top 46))
  (PF:cQ K "divided" (top 44))
  (PJ:cQ K "greatest_row" (top 47))
  (PK:cQ K "triple_below" (top 50))
  (PL:cQ K "met" (top 49))
  (PN:cQ K "parts_by_many" (top 56))
  (PQ:cQ K "meet" (top 48))
  (PR:cQ K "paper_of_row" (top 53))
  (PU:cQ K "parts_of_row" (top 55))
  (PV:cQ K "no_square" (top 52))
  (PX:cQ K "parts" (top 54))
  (PY:cQ K "_law_asked" (top 64))
  (PZ:cQ K "_law_word" (top 67))
  (P0:PySem.W.nsIn K mainGlobals "law" = some (some (.ref O'))) (P_:K.lookup O' = some ⟨Pc,Pa,.func (PySem.W.fnOf "law" "law" (ff (top 68)) (dj (top 68)) (a_ (top 68)) .none L6 L7 L8 L5 IM L9),Pb⟩) (P!:PySem.W.codeIn K IM "law" = true) (P?:PySem.W.keepIn K (.ref O') = true)
  (zb:vJ K ["ValueError","abs","all","bool","enumerate","int","isinstance","len","list","max","range","reversed","sorted","tuple","zip"])
  (zc:vK K ["AlgebraError","NoRing","NoPrime","NoInverse","NotWhole","NoUnknowns","NoTerm","NoCount","NoLead","NoOrder","NotWritten","ByNought","NoMeet","NoParts","NotPlain","NoSums"])
  (iw:PySem.W.nsIn K mainGlobals "MOST_RING" = some (some (.int 997 su)))
  (fw:PySem.W.nsIn K mainGlobals "FIRST_PRIMES" = some (some (.ref iE))) (fA:K.lookup iE = some ⟨.type "tuple",mQ,.seq #[.int 2 k!,.int 3 k?,.int 5 lh,.int 7 lj,.int 11 ll,.int 13 lC,.int 17 lD,.int 19 lE,.int 23 lH,.int 29 lI,.int 31 ki] mR,mS⟩)
  (zp:l_ K Lr) (zv:ow K ["NoInverse","NoRing","NoPrime","ByNought","NoMeet","NoParts"]) (zw:PySem.W.nsIn K mainGlobals "ValueError" = some none) (zq:vL K kn) :
  ∃ fd:FuncData,(∀ (s:Shared) (v:Value),BindsTo s fd ⟨[v],[]⟩ [("_law_script",v)]) ∧ ∀ base:Heap,K.In base → base.Ns mainGlobals mg → iL l.prog w K mg base (jR l.prog w) 12 fa fd ["_law_script"] (wU K):=by
 have e:=TY.symm.trans (PySem.W.mg_of X G P0)
 cases e
 refine ⟨PySem.W.fnOf "law" "law" (ff (top 68)) (dj (top 68)) (a_ (top 68)) .none L6 L7 L8 L5 IM L9,fun s v => .of_eq rfl,fun base _ _ => ?_⟩
 have T:Txt l.prog w K mg base:=⟨fun _ _ h => PySem.W.mg_of X G h,zb.get X G,zc.get X G,Glob.int (PySem.W.mg_of X G iw),Glob.ints (ns:=[2,3,5,7,11,13,17,19,23,29,31]) (PySem.W.mg_of X G fw) fA rfl rfl (by simp [sizeLine_eq]) (.cons ⟨_,rfl⟩ (.cons ⟨_,rfl⟩ (.cons ⟨_,rfl⟩ (.cons ⟨_,rfl⟩ (.cons ⟨_,rfl⟩ (.cons ⟨_,rfl⟩ (.cons ⟨_,rfl⟩ (.cons ⟨_,rfl⟩ (.cons ⟨_,rfl⟩ (.cons ⟨_,rfl⟩ (.cons ⟨_,rfl⟩ (.nil)))))))))))),zp.get X G (zv.get X G zw),zq.get X G⟩
 have wc:=uv T  h0
 have kj:=jJ T  h1
 have pO:=oN T  h2
 have mT:=k7 T  h3
 have dg:=mz T  h4
 have oY:=mD T  h5
 have oZ:=mE T  h6
 have mU:=k8 T  h7
 have wd:=uw T  h8
 have o6:=mH T  h9
 have sv:=pH T  Pd
 have qt:=v_ T wc kj Ms
 have BV:=y_ T pO Pe
 have d4:=je T dg oY Pf
 have jA:=oR T dg Pg
 have gk:=mI T dg Ph
 have gm:=mJ T dg Pj
 have sA:=pI T wd Pk
 have pP:=oS T o6 Pl
 have sC:=pK T sv Pn
 have sD:=pL T qt Po
 have bI:=oT T qt Pp
 have lJ:=v! T mT BV sD Pq
 have we:=uz T dg bI Pr
 have wg:=uA T d4 bI Pt
 have uH:=sd T d4 bI Pu
 have uI:=se T jA bI Pw
 have sE:=pM T gk bI Px
 have uJ:=sh T bI Py
 have uK:=si T gm bI Pz
 have jg:=y! T dg lJ PB
 have gY:=kf T gk lJ PD
 have zd:=wb T bI jg PF
 have o8:=mK T jg gY PJ
 have o9:=mL T d4 jA jg PK
 have Fi:=IJ T gk lJ jg o9 PL
 have mV:=k_ T gm jg o8 PN
 have IP:=Et T bI Fi PQ
 have o_:=mO T gm Fi PR
 have o!:=mP T gY mV PU
 have uL:=sj T bI o_ PV
 have Ew:=BU T bI o! PX
 have sF:=pN T we wg uH uI sE uJ uK zd IP uL Ew PY
 have uM:=sk T sC sF PZ
 exact (IL T oZ mU sA pP uM (zP (st:=top 68) P_ P! P?)).imp fun _ _ _ _ h => Ho BQ h
end vN
namespace PySem.W.Fast
def tw7918204714596062984:=()
def tw12344495563344988128:=()
def tw13085593086361344291:=()
def tw4512998462343292679:=()
def tw12429258290707280603:=()
def tw12376806376971511587:=()
def tw15921314788763070754:=()
def tw3522705291408047540:=()
def tw15596842868370965157:=()
def tw16500645259982612383:=()
def tw3908868847547702890:=()
def tw8146216007837998952:=()
def tw8739919278983329269:=()
def tw4249959766347915543:=()
def tw11060603885732174381:=()
def tw14309670217970079444:=()
def tw11337760657765200599:=()
def tw1925960774135112692:=()
def tw13597127253689083741:=()
def tw13071241568091270071:=()
def tw13020128476764944989:=()
def tw18298433850628204241:=()
def tw12106776806518119044:=()
def tw5382777356207973927:=()
def tw15201251356439499366:=()
def tw16751280785753912097:=()
def tw5507991348095687395:=()
def tw6876103300558278283:=()
def tw9289012746871538735:=()
def tw1115434984609414064:=()
def tw5029261910458147739:=()
def tw2527021528415872460:=()
def tw454370684535412287:=()
def tw16029136383663630940:=()
def tw12741749820593905983:=()
def tw6262413493827245227:=()
def tw6857444706690415479:=()
end PySem.W.Fast
open PySem PySem.W PyProof.Rows
set_option maxRecDepth 100000 in
set_option maxHeartbeats 0 in
theorem PySem.Challenge.cw_polyring_k17_primes_refused_holds : PySem.Challenge.rw_polyring_k17_primes_refused.Holds := by
 w_on; o_law; k_head; (case hw => w_witness2)
 k_fill
 refine MN.AE (l:=PySem.Challenge.rw_polyring_k17_primes_refused) (k:=12) (x:="_law_script") rfl rfl ⟨rfl,by decide,by decide⟩ (fun w h Y => PySem.W.kIn_of Y) ?F
 case F =>
  intro w mg fa h KX G J9
  refine' vN.all_mk KX G J9 ?h0 ?h1 ?h2 ?h3 ?h4 ?h5 ?h6 ?h7 ?h8 ?h9 ?Pd ?Ms ?Pe ?Pf ?Pg ?Ph ?Pj ?Pk ?Pl ?Pn ?Po ?Pp ?Pq ?Pr ?Pt ?Pu ?Pw ?Px ?Py ?Pz ?PB ?PD ?PF ?PJ ?PK ?PL ?PN ?PQ ?PR ?PU ?PV ?PX ?PY ?PZ ?P0 ?P_ ?P! ?P? ?zb ?zc ?iw ?fw ?fA ?zp ?zv ?zw ?zq
  (case h0 | h1 | h2 | h3 | h4 | h5 | h6 | h7 | h8 | h9 | Pd | Ms | Pe | Pf | Pg | Ph | Pj | Pk | Pl | Pn | Po | Pp | Pq | Pr | Pt | Pu | Pw | Px | Py | Pz | PB | PD | PF | PJ | PK | PL | PN | PQ | PR | PU | PV | PX | PY | PZ => refine' MN.cQ.mk ?a ?l ?c ?k; (case a => k_is); (case l => k_is); (case c => k_is); (case k => k_is); skip)
  (case P0 => k_is)
  (case P_ => k_is)
  (case P! => k_is)
  (case P? => k_is)
  case zb =>
   repeat (refine' MN.vJ.cons ?a ?_; (case a => k_is); skip)
   exact .nil
  case zc =>
   repeat (refine' MN.vK.cons ?a ?e ?s ?_; (case a => k_is); (case e => k_exc); (case s => k_is); skip)
   exact .nil
  (case iw => k_is)
  (case fw => k_is)
  (case fA => k_is)
  case zp =>
   repeat (refine' MN.l_.cons ?a ?b ?c ?d ?e ?_; (case a => k_is); (case b => k_is); (case c => k_is); (case d => k_is); (case e => first | k_is | kit_is); skip)
   exact .nil
  case zv =>
   repeat (refine' MN.ow.cons ?a ?e ?_; (case a => k_is); (case e => first | k_is | kit_is); skip)
   exact .nil
  (case zw => k_is)
  case zq =>
   repeat (refine' MN.vL.cons ?a ?e ?_; (case a => k_is); (case e => first | k_is | kit_is | rfl | decide +kernel); skip)
   exact .nil
