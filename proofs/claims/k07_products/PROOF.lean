import PyProof.Rows.All
import Wide.All
import OpenK.AllK
import Wide.FinOn
import Lean
import PyProof.EqAt
import PyProof.EqKinds
import PyProof.TupleCall
import PyProof.NeKinds
import PyProof.ZipIter
import PyProof.FitsBits
import KE.KRevIter
import KE.KStateDown
import PyProof.Rows.Range3
import PyProof.EnumFor
import PyProof.EnumMake
import PyProof.EnumStmt
import PyProof.Rows.SumAny
import PyProof.ListIndex
import PyProof.ListIndexNeg
import PyProof.WalkInts
import PyProof.Conv_int_bool
import PyProof.SumAny
import KE.KLam
import PyProof.Rows.FactsN_abs
import PyProof.ExcBaseAll.ValueError
import KE.KIsAll
import PyProof.ExcAttrAll.ValueError
import PyProof.Rows.SortRuns
import KE.KSortTup
import KE.KDictList
import KE.KDictOf
import PyProof.AttrMissHeap
import PyProof.DictRoadsH
import PyProof.Seq
import PySem.Challenge.RW_polyring_k07_products
set_option Elab.async false
set_option linter.all false
set_option maxRecDepth 100000
set_option maxHeartbeats 4000000
set_option compiler.extract_closed false
set_option genSizeOf false
-- Mz: Uh SK module here,as IE last of SM rows
namespace L2
open PySem PySem.Spec PyProof.Rows
noncomputable abbrev Key:=Sum Int Str
noncomputable def qp:Key → Value → Bool
 | .inl k,v => Value.isInt k v
 | .inr x,v => Value.isStrOf x v
noncomputable def MC (w:World):Key → Int
 | .inl k => hashInt k
 | .inr x => hashStr w x
theorem cN:∀ {k:Key} {v:Value},qp k v = true → (∃ i t,k = Sum.inl i ∧ v = Value.int i t) ∨ (∃ x t,k = Sum.inr x ∧ v = Value.str x t)
 | .inl i,v,h => by
  obtain ⟨t,e⟩:=Value.isInt_shape (k:=i) (v:=v) h
  exact .inl ⟨i,t,rfl,e⟩
 | .inr x,v,h => by
  obtain ⟨t,e⟩:=Value.isStrOf_shape (x:=x) (v:=v) h
  exact .inr ⟨x,t,rfl,e⟩
theorem xW (i:Int) (t:Tok):qp (.inl i) (.int i t) = true:=by simp [qp,Value.isInt]
theorem xX (x:Str) (t:Tok):qp (.inr x) (.str x t) = true:=by simp [qp,Value.isStrOf]
theorem FE (a b:Int):decide ((Sum.inl a:Key) = Sum.inl b) = (a == b):=by
 by_cases e:a = b
 ·subst e; simp
 ·have h:¬ (Sum.inl a:Key) = Sum.inl b:=fun q => e (Sum.inl.inj q)
  rw [decide_eq_false h]
  exact (beq_eq_false_iff_ne.mpr e).symm
theorem FF (a b:Str):decide ((Sum.inr a:Key) = Sum.inr b) = decide (a = b):=by
 by_cases e:a = b
 ·subst e; simp
 ·have h:¬ (Sum.inr a:Key) = Sum.inr b:=fun q => e (Sum.inr.inj q)
  rw [decide_eq_false h,decide_eq_false e]
theorem FG (a:Int) (b:Str):decide ((Sum.inl a:Key) = Sum.inr b) = false:=decide_eq_false (fun q => nomatch q)
theorem FH (a:Str) (b:Int):decide ((Sum.inr a:Key) = Sum.inl b) = false:=decide_eq_false (fun q => nomatch q)
noncomputable def dr (prog:Program) (w:World):PySem.KeyKind prog w Key where
 is:=qp
 hash:=MC w
 inj:=fun v a b ha hb => by
  rcases cN ha with ⟨i,t,rfl,rfl⟩ | ⟨x,t,rfl,rfl⟩
  ·rcases cN hb with ⟨j,u,rfl,e⟩ | ⟨y,u,rfl,e⟩
   ·injection e with e1 _; rw [e1]
   ·exact nomatch e
  ·rcases cN hb with ⟨j,u,rfl,e⟩ | ⟨y,u,rfl,e⟩
   ·exact nomatch e
   ·injection e with e1 _; rw [e1]
 byValue:=fun k v h => by
  rcases cN h with ⟨i,t,rfl,rfl⟩ | ⟨x,t,rfl,rfl⟩ <;> rfl
 pyHash:=fun hv h => by
  rcases cN hv with ⟨i,t,rfl,rfl⟩ | ⟨x,t,rfl,rfl⟩
  ·exact wpAny_pyHash_int h
  ·exact wpAny_pyHash_str h
 eqBool:=fun hu hv h => by
  rcases cN hu with ⟨i,t,rfl,rfl⟩ | ⟨x,t,rfl,rfl⟩
  ·rcases cN hv with ⟨j,u,rfl,rfl⟩ | ⟨y,u,rfl,rfl⟩
   ·rw [FE] at h; exact wpAny_eqBool_int h
   ·rw [FG] at h; exact SeqAt.EqAt.int_str i t y u _ _ _ _ h
  ·rcases cN hv with ⟨j,u,rfl,rfl⟩ | ⟨y,u,rfl,rfl⟩
   ·rw [FH] at h; exact SeqAt.EqAt.str_int x t j u _ _ _ _ h
   ·rw [FF] at h; exact wpAny_eqBool_str h
 «strs»:=fun k x t v h => by
  rcases cN h with ⟨i,u,rfl,e⟩ | ⟨y,u,rfl,e⟩
  ·exact nomatch e
  ·injection e with e1 _
   subst e1
   cases v <;> rfl
theorem tH (prog:Program) (w:World) (i:Int) (t:Tok):(dr prog w).is (.inl i) (.int i t) = true:=xW i t
theorem tJ (prog:Program) (w:World) (x:Str) (t:Tok):(dr prog w).is (.inr x) (.str x t) = true:=xX x t
end L2
namespace L2
open PySem PySem.Spec PyProof.Rows
inductive V where
 | eR | bl (b:Bool) | int (i:Int) | str (x:Str) | MD (b:Array UInt8) | nQ (b:UInt64) | ref (a:Addr) | ty (n:String)
 deriving DecidableEq
noncomputable def RelV:V → Value → Prop
 | .eR,u => u = Value.none
 | .bl b,u => u = Value.bool b
 | .int i,u => ∃ t,u = Value.int i t
 | .str x,u => ∃ t,u = Value.str x t
 | .MD b,u => ∃ t,u = Value.bytes b t
 | .nQ b,u => ∃ t,u = Value.float b t
 | .ref a,u => u = Value.ref a
 | .ty n,u => u = Value.type n
noncomputable abbrev Vals:List V → List Value → Prop:=Paired RelV
theorem Vals.length {xs:List V} {us:List Value} (r:Vals xs us):xs.length = us.length:=Paired.length r
theorem Vals.get:∀ {xs:List V} {us:List Value} {i:Nat} {x:V},Vals xs us → xs[i]? = some x → ∃ u,us[i]? = some u ∧ RelV x u
 | _,_,_,_,.nil,e => by simp at e
 | _,_,0,_,.cons r _,e => by simp at e; subst e; exact ⟨_,rfl,r⟩
 | _,_,i + 1,x,.cons _ t,e => by
  obtain ⟨u,h1,h2⟩:=Vals.get (i:=i) (x:=x) t (by simpa using e)
  exact ⟨u,by simpa using h1,h2⟩
theorem Vals.append:∀ {xs ys:List V} {us ws:List Value},Vals xs us → Vals ys ws → Vals (xs ++ ys) (us ++ ws)
 | _,_,_,_,.nil,s => s
 | _,_,_,_,.cons r t,s => .cons r (Vals.append t s)
theorem Vals.take:∀ {xs:List V} {us:List Value} (n:Nat),Vals xs us → Vals (xs.take n) (us.take n)
 | _,_,0,_ => .nil
 | _,_,_ + 1,.nil => .nil
 | _,_,n + 1,.cons r t => .cons r (Vals.take n t)
theorem Vals.drop:∀ {xs:List V} {us:List Value} (n:Nat),Vals xs us → Vals (xs.drop n) (us.drop n)
 | _,_,0,r => r
 | _,_,_ + 1,.nil => .nil
 | _,_,n + 1,.cons _ t => Vals.drop n t
noncomputable def lB:Option V → Option Value → Prop
 | some v,some u => RelV v u
 | none,none => True
 | _,_ => False
noncomputable def KV {κ:Type}:List (κ × V) → List (κ × Value) → Prop:=Paired fun (p:κ × V) (q:κ × Value) => p.1 = q.1 ∧ RelV p.2 q.2
noncomputable def kV:Key → V
 | .inl i => .int i
 | .inr x => .str x
inductive HO where
  | lst (xs:List V)
  | tup (xs:List V)
  | dK (aI:List (Key × V)) | dT (aI:List (List Key × V))
  | set (S:Int → Bool) (n:Nat)
  | ins (C dx:Addr) (fs:List (Str × V))
  | own (x:Addr)
  | xd (fs:List (Str × V))
  | met (f x:Addr)
  | LK (lo hi:Int)
  | fQ (o:Obj) (u:HO)
  | p5 (ps:Array Value)
  | ext (φ:Heap → Prop)
noncomputable abbrev Hp:=Addr → Option HO
noncomputable def upd (H:Hp) (a:Addr) (o:HO):Hp:=fun b => if b = a then some o else H b
theorem bw {H:Hp} {a:Addr} {o:HO}:upd H a o a = some o:=by unfold upd; rw [if_pos rfl]
theorem aE {H:Hp} {a b:Addr} {o:HO} (h:b ≠ a):upd H a o b = H b:=by unfold upd; rw [if_neg h]
theorem Ja {H:Hp} {a b:Addr} {o u:HO} (h:H a = some o) (h':H b = some u) (d:o ≠ u):a ≠ b:=by
 intro e; subst e; rw [h] at h'; exact d (Option.some.inj h')
theorem bu {H:Hp} {a b:Addr} {o:HO} (h:H a = some o) (h':H b = none):a ≠ b:=by
 intro e; subst e; rw [h] at h'; cases h'
section
variable (P:Program) (w:World)
noncomputable def bW (H:Hp) (h:Heap) (a:Addr):HO → Prop
 | .lst xs => xs.length ≤ sizeLine ∧ ∃ (aN:List Value) (n:Nat),Vals xs aN ∧ h.get? a = some { cls:=.type "list",data:=.seq aN.toArray n }
 | .tup xs => xs.length ≤ sizeLine ∧ ∃ aN:List Value,Vals xs aN ∧ IsTup h a aN.toArray
 | .dK aI => aI.length ≤ sizeLine ∧ (a == sysModules) = false ∧ ∃ vs,KV aI vs ∧ h.DictOf (dr P w) a vs
 | .dT aI => aI.length ≤ sizeLine ∧ (a == sysModules) = false ∧ ∃ xs:List (List Key × Addr × Value),
   Paired (fun (p:List Key × V) (q:List Key × Addr × Value) => p.1 = q.1 ∧ H q.2.1 = some (.tup (p.1.map kV)) ∧ RelV p.2 q.2.2) aI xs ∧
   ∃ o es ep,h.get? a = some o ∧ o.ExactDict ∧ o.data = .dict es ep ∧ es.toList = xs.map (entryOfKey (tupleKind (dr P w))) ∧ (xs.map (·.1)).Nodup
 | .set S n => h.SetOf (intKind P w) a S n
 | .ins C dx fs => H dx = some (.own a) ∧ fs.length ≤ 1000 ∧ dx ≠ a ∧ h.get? a = some (PySem.W.instObj C dx) ∧
   ∃ mA,h.Ns1 dx mA ∧ (∀ f,lB (fs.lookup f) (mA f)) ∧ PySem.Within mA (fs.map (·.1))
 | .own _ => ∃ o,h.get? a = some o
 | .xd fs => ∃ mA,h.Ns1 a mA ∧ ∀ f,lB (fs.lookup f) (mA f)
 | .LK lo hi => ∃ t u v,h.get? a = some { cls:=.type "range",data:=.fields #[.int lo t,.int hi u,.int 1 v] }
 | .fQ o u => h.get? a = some o ∧ bW H h a u
 | .p5 ps => h.get? a = some { cls:=.none,data:=.fields ps }
 | .met f x => h.get? a = some (PySem.W.methodObj (.ref f) (.ref x))
 | .ext φ => φ h ∧ (∃ o,h.get? a = some o) ∧ ∀ h1 h2:Heap,φ h1 → (∀ o,h1.get? a = some o → h2.get? a = some o) → φ h2
noncomputable def gG (H:Hp) (h:Heap):Prop:=∀ a o,H a = some o → bW P w H h a o
end
section
variable {P:Program} {w:World} {H H':Hp} {h h':Heap} {a:Addr} {o:HO}
theorem bW.lt (x:bW P w H h a o):a < h.objs.size:=by
 cases o with
 | lst xs => obtain ⟨_,_,_,_,e⟩:=x; exact Heap.lt_size e
 | tup xs => obtain ⟨_,_,_,p⟩:=x; exact p.lt
 | dK aI => obtain ⟨_,_,_,_,o,_,_,e,_⟩:=x; exact Heap.lt_size e
 | dT aI => obtain ⟨_,_,_,_,o,_,_,e,_⟩:=x; exact Heap.lt_size e
 | set S n => obtain ⟨o,_,_,_,e,_⟩:=x; exact Heap.lt_size e
 | ins C dx fs => obtain ⟨_,_,_,e,_⟩:=x; exact Heap.lt_size e
 | own y => obtain ⟨_,e⟩:=x; exact Heap.lt_size e
 | xd fs => obtain ⟨_,⟨_,_,_,e,_⟩,_⟩:=x; exact Heap.lt_size e
 | LK lo hi => obtain ⟨_,_,_,e⟩:=x; exact Heap.lt_size e
 | fQ ob u => obtain ⟨e,_⟩:=x; exact Heap.lt_size e
 | p5 ps => exact Heap.lt_size (show h.get? a = some _ from x)
 | met f y => exact Heap.lt_size (show h.get? a = some _ from x)
 | ext φ => obtain ⟨_,⟨_,e⟩,_⟩:=x; exact Heap.lt_size e
theorem Paired.FI {α β:Type} {F G:α → β → Prop}:∀ {l₁:List α} {l₂:List β},Paired F l₁ l₂ → (∀ a b,F a b → G a b) → Paired G l₁ l₂
 | _,_,.nil,_ => .nil
 | _,_,.cons r t,f => .cons (f _ _ r) (Paired.FI t f)
theorem bW.jJ (x:bW P w H h a o) (k:∀ b u,(b = a ∨ H b = some (.own a)) → h.get? b = some u → h'.get? b = some u)
  (ho:∀ b,H b = some (.own a) → H' b = some (.own a)) (ht:∀ b xs,H b = some (.tup xs) → H' b = some (.tup xs)):bW P w H' h' a o:=by
 induction o with
 | lst xs => obtain ⟨z,aN,n,r,e⟩:=x; exact ⟨z,aN,n,r,k _ _ (.inl rfl) e⟩
 | tup xs => obtain ⟨z,aN,r,ob,e,c⟩:=x; exact ⟨z,aN,r,ob,k _ _ (.inl rfl) e,c⟩
 | dK aI => obtain ⟨z,y,vs,r,ob,es,ep,e,c⟩:=x; exact ⟨z,y,vs,r,ob,es,ep,k _ _ (.inl rfl) e,c⟩
 | dT aI =>
  obtain ⟨z,y,xs,r,ob,es,ep,e,c⟩:=x
  exact ⟨z,y,xs,Paired.FI r fun p q z => ⟨z.1,ht _ _ z.2.1,z.2.2⟩,ob,es,ep,k _ _ (.inl rfl) e,c⟩
 | set S n => obtain ⟨ob,es,ep,t,e,c⟩:=x; exact ⟨ob,es,ep,t,k _ _ (.inl rfl) e,c⟩
 | ins C dx fs =>
  obtain ⟨d,z,ne,e,mA,⟨od,es,ep,e2,c⟩,r⟩:=x
  exact ⟨ho _ d,z,ne,k _ _ (.inl rfl) e,mA,⟨od,es,ep,k _ _ (.inr d) e2,c⟩,r⟩
 | own y => obtain ⟨ob,e⟩:=x; exact ⟨ob,k _ _ (.inl rfl) e⟩
 | xd fs => obtain ⟨mA,⟨od,es,ep,e,c⟩,r⟩:=x; exact ⟨mA,⟨od,es,ep,k _ _ (.inl rfl) e,c⟩,r⟩
 | LK lo hi => obtain ⟨t,u,v,e⟩:=x; exact ⟨t,u,v,k _ _ (.inl rfl) e⟩
 | fQ ob u ih => obtain ⟨e,q⟩:=x; exact ⟨k _ _ (.inl rfl) e,ih q⟩
 | p5 ps =>
  have e:h.get? a = some { cls:=.none,data:=.fields ps }:=x
  show h'.get? a = some { cls:=.none,data:=.fields ps }
  exact k a _ (.inl rfl) e
 | met f y =>
  have e:h.get? a = some (PySem.W.methodObj (.ref f) (.ref y)):=x
  show h'.get? a = some (PySem.W.methodObj (.ref f) (.ref y))
  exact k a _ (.inl rfl) e
 | ext φ => obtain ⟨p,⟨o,e⟩,st⟩:=x; exact ⟨st _ _ p fun o q => k _ _ (.inl rfl) q,⟨o,k _ _ (.inl rfl) e⟩,st⟩
theorem gG.lt (x:gG P w H h) (e:H a = some o):a < h.objs.size:=(x a o e).lt
theorem gG.fresh (x:gG P w H h) (e:h.objs.size ≤ a):H a = none:=by
 cases q:H a with
 | none => rfl
 | some u => exact absurd (Nat.lt_of_lt_of_le (x.lt q) e) (Nat.lt_irrefl _)
theorem gG.kept (x:gG P w H h) (k:∀ b u,h.get? b = some u → h'.get? b = some u):gG P w H h':=fun a o e =>
 (x a o e).jJ (fun b u _ q => k b u q) (fun _ q => q) fun _ _ q => q
theorem gG.laid (x:gG P w H h) (k:∀ b u,h.get? b = some u → h'.get? b = some u) (hp:h.objs.size ≤ a) (new:bW P w (upd H a o) h' a o):gG P w (upd H a o) h':=fun b u e => by
 have hn:=x.fresh hp
 by_cases hb:b = a
 ·subst hb; rw [bw] at e; cases e; exact new
 ·rw [aE hb] at e
  exact (x b u e).jJ (fun c v _ q => k c v q) (fun c q => by rw [aE (bu q hn)]; exact q) fun c xs q => by rw [aE (bu q hn)]; exact q
end
noncomputable def Rd (H:Hp) (a:Addr) (u:HO):Prop:=H a = some u ∨ ∃ o,H a = some (.fQ o u)
theorem Rd.ok {P:Program} {w:World} {H:Hp} {h:Heap} {a:Addr} {u:HO} (r:Rd H a u) (x:gG P w H h):bW P w H h a u:=by
 rcases r with r | ⟨o,r⟩
 ·exact x a u r
 ·obtain ⟨_,q⟩:=x a _ r
  exact q
noncomputable def Jb:Option HO → Prop
 | some (.lst _) => True
 | some (.dK _) => True
 | some (.dT _) => True
 | some (.set _ _) => True
 | some (.ins _ _ _) => True
 | some (.ext _) => True
 | _ => False
section
variable {P:Program} {w:World} {H:Hp} {h h':Heap} {x e:Addr} {o':HO}
theorem gG.write (ok:gG P w H h) (mu:Jb (H x)) (he:e = x ∨ H e = some (.own x)) (k:∀ b u,b ≠ e → h.get? b = some u → h'.get? b = some u) (IF:∃ u,h'.get? e = some u)
  (new:bW P w (upd H x o') h' x o'):gG P w (upd H x o') h':=fun b u q => by
 have Jc:∀ c y,H c = some (.own y) → c ≠ x:=fun c y r z => by subst z; rw [r] at mu; exact mu
 have MF:∀ c xs,H c = some (.tup xs) → c ≠ x:=fun c xs r z => by subst z; rw [r] at mu; exact mu
 by_cases hb:b = x
 ·subst hb; rw [bw] at q; cases q; exact new
 ·rw [aE hb] at q
  by_cases FJ:b = e
  ·have q':H b = some (.own x):=by
    rcases he with z | z
    ·exact absurd (FJ.trans z) hb
    ·rw [FJ]; exact z
   rw [q] at q'; cases q'
   obtain ⟨v,hv⟩:=IF
   exact ⟨v,by rw [FJ]; exact hv⟩
  ·refine (ok b u q).jJ (fun c v hc r => k c v ?_ r) (fun c r => by rw [aE (Jc c b r)]; exact r) fun c xs r => by rw [aE (MF c xs r)]; exact r
   rcases hc with rfl | hc
   ·exact FJ
   ·rintro rfl
    rcases he with z | z
    ·exact Jc c b hc z
    ·rw [hc] at z; cases z; exact hb rfl
end
structure Un (fs ex:List Addr) (H H':Hp) (h h':Heap):Prop where
 keep:∀ b o,h.get? b = some o → H b = none → b ∉ fs → b ∉ ex → h'.get? b = some o
 slot:∀ b o,h.get? b = some o → H b = none → b ∈ fs → b ∉ ex → ∃ sl,h'.get? b = some { o with slots:=sl }
 free:∀ b o,h.get? b = some o → H b = none → b ∉ ex → H' b = none
 there:∀ b o,h.get? b = some o → b ∉ ex → ∃ o',h'.get? b = some o'
 i8:∀ b xs,H b = some (.tup xs) → H' b = some (.tup xs)
 ix:∀ b o u,H b = some (.fQ o u) → H' b = some (.fQ o u)
 i9:∀ b ps,H b = some (.p5 ps) → ∃ more,H' b = some (.p5 (ps ++ more))
section
variable {fs Ui ex Xx:List Addr} {H H1 H2:Hp} {h h1 h2 h':Heap} {a x e:Addr} {o:HO}
theorem Un.any (u:Un fs ex H H1 h h1) {b:Addr} {ob:Obj} (q:h.get? b = some ob) (n:H b = none) (hx:b ∉ ex):∃ sl,h1.get? b = some { ob with slots:=sl }:=by
 by_cases hb:b ∈ fs
 ·exact u.slot b ob q n hb hx
 ·exact ⟨ob.slots,u.keep b ob q n hb hx⟩
theorem Un.kept (k:∀ b u,h.get? b = some u → h'.get? b = some u):Un fs ex H H h h' :=
 ⟨fun b ob q _ _ _ => k b ob q,fun b ob q _ _ _ => ⟨ob.slots,k b ob q⟩,fun _ _ _ n _ => n,fun b ob q _ => ⟨ob,k b ob q⟩,fun _ _ q => q,fun _ _ _ q => q,fun _ ps q => ⟨#[],by rw [q]; simp⟩⟩
theorem Un.refl:Un fs ex H H h h:=Un.kept fun _ _ q => q
theorem Un.laid (k:∀ b u,h.get? b = some u → h'.get? b = some u) (hp:h.objs.size ≤ a) (hn:H a = none):Un fs ex H (upd H a o) h h' where
 keep:=fun b u q _ _ _ => k b u q
 slot:=fun b u q _ _ _ => ⟨u.slots,k b u q⟩
 free:=fun b u q n _ => by rw [aE (Nat.ne_of_lt (Nat.lt_of_lt_of_le (Heap.lt_size q) hp))]; exact n
 there:=fun b u q _ => ⟨u,k b u q⟩
 i8:=fun b xs q => by rw [aE (bu q hn)]; exact q
 ix:=fun b u xs q => by rw [aE (bu q hn)]; exact q
 i9:=fun b ps q => ⟨#[],by rw [aE (bu q hn),q]; simp⟩
theorem Un.write (mu:Jb (H x)) (he:e = x ∨ H e = some (.own x)) (k:∀ b u,b ≠ e → h.get? b = some u → h'.get? b = some u) (IF:∃ u,h'.get? e = some u):Un fs ex H (upd H x o) h h':=by
 have hx:∀ b,H b = none → b ≠ x:=fun b n z => by subst z; rw [n] at mu; exact mu
 have hb:∀ b,H b = none → b ≠ e:=fun b n z => by
  subst z
  rcases he with r | r
  ·exact hx b n r
  ·rw [n] at r; cases r
 have hm:∀ b u,H b = some u → ¬ Jb (some u) → b ≠ x:=fun b u q nm z => by subst z; rw [q] at mu; exact nm mu
 refine ⟨fun b u q n _ _ => k b u (hb b n) q,fun b u q n _ _ => ⟨u.slots,k b u (hb b n) q⟩,fun b u q n _ => by rw [aE (hx b n)]; exact n,fun b u q _ => ?_,
  fun b xs q => by rw [aE (hm b _ q fun z => z)]; exact q,fun b u xs q => by rw [aE (hm b _ q fun z => z)]; exact q,fun b ps q => ⟨#[],by rw [aE (hm b _ q fun z => z),q]; simp⟩⟩
 by_cases FJ:b = e
 ·subst FJ; exact IF
 ·exact ⟨u,k b u FJ q⟩
end
noncomputable def wJ (h:Heap) (H:Hp):List Addr:=(List.range h.objs.size).filter fun a => (H a).isSome
noncomputable def p6 (h:Heap) (H:Hp):Heap:=PySem.W.hideAll h (wJ h H)
theorem xY (h:Heap) (H:Hp):(p6 h H).objs.size = h.objs.size:=PySem.W.hideAll_size _ _
theorem zD {h:Heap} {H:Hp} {b:Addr} {o:Obj} (e:h.get? b = some o) (n:H b = none):(p6 h H).get? b = some o :=
 PySem.W.hideAll_get _ e fun hm => by
  have q:(H b).isSome = true:=(List.mem_filter.mp hm).2
  rw [n] at q; simp at q
theorem CC {h:Heap} {H:Hp} {b:Addr} {o:Obj} (e:(p6 h H).get? b = some o):h.get? b = some o ∧ H b = none:=by
 have e':h.get? b = some o:=PySem.W.of_hideAll (wJ h H) e
 refine ⟨e',?_⟩
 cases q:H b with
 | none => rfl
 | some x =>
  have hm:b ∈ wJ h H:=List.mem_filter.mpr ⟨List.mem_range.mpr (Heap.lt_size e'),by simp [q]⟩
  have z:(p6 h H).get? b = none:=PySem.W.hideAll_none (wJ h H) hm
  rw [z] at e; cases e
end L2
namespace L2
open PySem PySem.Spec PyProof.Rows
structure Mod (K:PySem.W.Frag) (mg:Str → Option Value) (base:Heap):Prop where
 FK:K.In base
 glob:base.Ns mainGlobals mg
 blt:∃ mb,base.Ns builtinsNs mb ∧ ∀ x:Str,x ≠ "__name__" → mb x = bootBuiltins x
 nolimit:base.NoLimit
structure Cx where
 prog:Program
 w:World
 K:PySem.W.Frag
 mg:Str → Option Value
 base:Heap
 A:Around
 N:List Str
 s₀:Shared
 H₀:Hp
 env:Env
 outer:List Env
 stack:List Env
 ex:List Addr
 fn:Str → Bool
 calm:Bool
 pn:List (Addr × Obj)
 xe:Value → Shared → Prop
noncomputable def fY (l:List Env):List Addr:=l.filterMap (·.frame)
noncomputable abbrev Cx.fs (X:Cx):List Addr:=fY X.outer
noncomputable def FL (sc:Scope) (x:Str):Prop:=sc.names.lookup x = some .local ∨ sc.names.lookup x = some .cell ∨ sc.names.lookup x = some .free
noncomputable def Loc (sc:Scope) (x:Str):Prop:=sc.names.lookup x = some .local ∨ sc.names.lookup x = some .cell
noncomputable def Look (env:Env) (h:Heap) (m:Str → Option Value) (x:Str) (u:Value):Prop :=
 (env.kindOf x = some .local ∧ m x = some u) ∨ ((env.kindOf x = some .cell ∨ env.kindOf x = some .free) ∧ ∃ c,env.cells.lookup x = some c ∧ h.IsCell c (some u))
structure Cx.Ok (X:Cx):Prop where
 mod:Mod X.K X.mg X.base
 kind:X.env.scope.kind = .function
 glob:X.env.globals = mainGlobals
 blt:X.env.builtins = builtinsNs
 above:X.s₀.heap.objs.size ≤ X.env.locals
 inj:∀ x y c,X.env.cells.lookup x = some c → X.env.cells.lookup y = some c → x = y
 has:∀ x,(X.env.kindOf x = some .cell ∨ X.env.kindOf x = some .free) → ∃ c,X.env.cells.lookup x = some c
 zE:∀ x c,X.fn x = true → X.env.cells.lookup x = some c → X.s₀.heap.objs.size ≤ c
 hd:X.calm = true → X.A.handled = none
 frames:X.A.frames = some X.stack
 CD:X.stack = X.outer ∨ (X.stack = X.env :: X.outer ∧ X.env.frame = some X.env.locals)
 MG:∀ b ∈ X.ex,b ≠ X.env.locals ∧ ∀ x c,X.env.cells.lookup x = some c → c ≠ b
 bs:∀ b o,X.base.get? b = some o → X.s₀.heap.get? b = some o ∧ X.H₀ b = none
 zF:X.base.objs.size ≤ X.s₀.heap.objs.size
 vA:∀ b o,X.base.get? b = some o → b ∉ X.ex
 zG:∀ b ∈ X.ex,b ∉ X.fs
 iX:X.s₀.heap.FunFrames X.base X.outer
 xZ:∀ b ∈ X.fs,X.H₀ b = none
structure Inv (X:Cx) (pins:List (Addr × Obj)) (σ:List (Option V)) (H:Hp) (s:Shared):Prop where
 ok:X.Ok
 os:s.os = X.s₀.os
 bare:AllBare s.gens
 base:Un X.fs X.ex X.H₀ H X.s₀.heap s.heap
 loc:∃ m,s.heap.Ns X.env.locals m ∧ ∀ (i:Nat) (x:Str) (v:V),X.N[i]? = some x → σ[i]? = some (some v) → FL X.env.scope x → ∃ u,RelV v u ∧ Look X.env s.heap m x u
 cell:∀ x c,X.env.cells.lookup x = some c → ∃ v,s.heap.IsCell c v
 free:H X.env.locals = none
 gn:∀ x c,X.env.cells.lookup x = some c → H c = none
 pin:∀ p ∈ X.pn ++ pins,s.heap.get? p.1 = some p.2 ∧ H p.1 = none ∧ p.1 ≠ X.env.locals ∧ p.1 ∉ X.fs ∧ ∀ v,p.2.data ≠ .cell v
 bK:gG X.prog X.w H s.heap
 len:σ.length = X.N.length
section
variable {X:Cx} {pins:List (Addr × Obj)} {σ:List (Option V)} {H H':Hp} {s:Shared} {h':Heap}
theorem Cx.Ok.MJ (ok:X.Ok) {b:Addr} {o:Obj} (e:X.base.get? b = some o):b ∉ X.fs:=fun hb => by
 have:=(ok.iX.mem hb).1
 rw [e] at this; cases this
theorem Inv.bs (I:Inv X pins σ H s):∀ b o,X.base.get? b = some o → s.heap.get? b = some o ∧ H b = none:=fun b o e =>
 ⟨I.base.keep b o (I.ok.bs b o e).1 (I.ok.bs b o e).2 (I.ok.MJ e) (I.ok.vA b o e),I.base.free b o (I.ok.bs b o e).1 (I.ok.bs b o e).2 (I.ok.vA b o e)⟩
theorem Inv.bk (I:Inv X pins σ H s):∀ b o,X.base.get? b = some o → s.heap.get? b = some o:=fun b o e => (I.bs b o e).1
theorem Inv.mod (I:Inv X pins σ H s):Mod X.K X.mg X.base:=I.ok.mod
theorem Inv.mS (I:Inv X pins σ H s):X.K.In s.heap:=I.ok.mod.FK.keeps I.bk
theorem Inv.lt (I:Inv X pins σ H s):X.env.locals < s.heap.objs.size:=let ⟨_,hn,_⟩:=I.loc; hn.lt
theorem Inv.sz (I:Inv X pins σ H s):X.s₀.heap.objs.size ≤ s.heap.objs.size:=Nat.le_trans I.ok.above (Nat.le_of_lt I.lt)
theorem Inv.MK (I:Inv X pins σ H s) {a:Addr} (h:s.heap.objs.size ≤ a):a ∉ X.fs:=fun hb => by
 obtain ⟨_,o,ho,_⟩:=I.ok.iX.mem hb
 exact absurd (Nat.lt_of_lt_of_le (Heap.lt_size ho) (Nat.le_trans I.sz h)) (Nat.lt_irrefl _)
theorem Inv.zH (I:Inv X pins σ H s):∀ x c,X.env.cells.lookup x = some c → c ≠ X.env.locals:=fun x c e z => by
 obtain ⟨v,o,ho,hd⟩:=I.cell x c e
 obtain ⟨m,⟨o',es,ep,mT,ML,_⟩,_⟩:=I.loc
 rw [z,mT] at ho; cases ho; rw [ML] at hd; cases hd
theorem Inv.iX (I:Inv X pins σ H s):s.heap.FunFrames X.base X.outer:=by
 have all:∀ (l:List Env),(∀ b ∈ fY l,b ∈ X.fs) → X.s₀.heap.FunFrames X.base l → s.heap.FunFrames X.base l:=by
  intro l
  induction l with
  | nil => intro _ _; trivial
  | cons env r ih =>
   intro hs hl
   obtain ⟨hk,⟨L,o,hf,hn,ho,hd⟩,hr⟩:=hl
   have hL:L ∈ X.fs:=hs L (by unfold fY; rw [List.filterMap_cons,hf]; exact List.mem_cons_self)
   obtain ⟨sl,e⟩:=I.base.slot L o ho (I.ok.xZ L hL) hL fun z => I.ok.zG L z hL
   exact ⟨hk,⟨L,_,hf,hn,e,hd⟩,ih (fun b hb => hs b (by unfold fY; rw [List.filterMap_cons,hf]; exact List.mem_cons_of_mem _ hb)) hr⟩
 exact all X.outer (fun _ hb => hb) I.ok.iX
theorem Inv.stack (I:Inv X pins σ H s):s.heap.FunFrames X.base X.stack:=by
 rcases I.ok.CD with e | ⟨e,hf⟩
 ·rw [e]; exact I.iX
 ·rw [e]
  obtain ⟨m,hn,_⟩:=I.loc
  refine .cons (by rw [I.ok.kind]; decide) hf hn ?_ I.iX
  exact Heap.get?_none_of_le (Nat.le_trans I.ok.zF I.ok.above)
theorem Inv.lC (I:Inv X pins σ H s):∀ b ∈ fY X.stack,b ∈ X.env.locals :: X.fs:=fun b hb => by
 rcases I.ok.CD with e | ⟨e,hf⟩
 ·rw [e] at hb; exact List.mem_cons_of_mem _ hb
 ·rw [e] at hb
  unfold fY at hb
  rw [List.filterMap_cons,hf] at hb
  exact hb
theorem Inv.rG (I:Inv X pins σ H s):∀ b ∈ fY X.stack,H b = none:=fun b hb => by
 rcases List.mem_cons.mp (I.lC b hb) with e | hb
 ·rw [e]; exact I.free
 ·obtain ⟨_,o,ho,_⟩:=I.ok.iX.mem hb
  exact I.base.free b o ho (I.ok.xZ b hb) fun z => I.ok.zG b z hb
theorem Inv.step {g':Array GenState} {t':Nat} {d':Drawn} {ch:List Addr} (I:Inv X pins σ H s)
  (Cs:∀ b ∈ ch,(b ∈ X.ex ∨ X.s₀.heap.objs.size ≤ b) ∧ b ≠ X.env.locals ∧ (∀ x c,X.env.cells.lookup x = some c → c ≠ b) ∧ ∀ p ∈ X.pn ++ pins,p.1 ≠ b)
  (keep:∀ b o,b ≠ X.env.locals → b ∉ X.fs → b ∉ ch → s.heap.get? b = some o → H b = none → h'.get? b = some o)
  (slot:∀ b o,b ≠ X.env.locals → b ∈ X.fs → b ∉ ch → s.heap.get? b = some o → H b = none → ∃ sl,h'.get? b = some { o with slots:=sl }) (free:∀ b o,b ∉ ch → s.heap.get? b = some o → H b = none → H' b = none)
  (there:∀ b o,b ∉ ch → s.heap.get? b = some o → ∃ o',h'.get? b = some o')
  (i8:∀ b xs,H b = some (.tup xs) → H' b = some (.tup xs)) (ix:∀ b o u,H b = some (.fQ o u) → H' b = some (.fQ o u)) (i9:∀ b ps,H b = some (.p5 ps) → ∃ more,H' b = some (.p5 (ps ++ more)))
  (ns:∀ m,s.heap.Ns X.env.locals m → h'.Ns X.env.locals m) (bK:gG X.prog X.w H' h') (hg:AllBare g') :
  Inv X pins σ H' { s with heap:=h',gens:=g',drawn:=d',toks:=t' }:=by
 have zI:∀ b o,X.s₀.heap.get? b = some o → b ≠ X.env.locals:=fun b o e => Nat.ne_of_lt (Nat.lt_of_lt_of_le (Heap.lt_size e) I.ok.above)
 have LL:∀ b o,X.s₀.heap.get? b = some o → b ∉ X.ex → b ∉ ch:=fun b o e hx hb => by
  rcases (Cs b hb).1 with z | z
  ·exact hx z
  ·exact absurd (Nat.lt_of_lt_of_le (Heap.lt_size e) z) (Nat.lt_irrefl _)
 have cellK:∀ x c,X.env.cells.lookup x = some c → ∀ v,s.heap.IsCell c v → h'.IsCell c v:=fun x c e v ⟨o,ho,hd⟩ => by
  have Jd:c ∉ ch:=fun z => (Cs c z).2.2.1 x c e rfl
  by_cases hc:c ∈ X.fs
  ·obtain ⟨sl,q⟩:=slot c o (I.zH x c e) hc Jd ho (I.gn x c e)
   exact ⟨_,q,hd⟩
  ·exact ⟨o,keep c o (I.zH x c e) hc Jd ho (I.gn x c e),hd⟩
 refine ⟨I.ok,I.os,hg,⟨fun b o e n hb hx => ?_,fun b o e n hb hx => ?_,fun b o e n hx => ?_,fun b o e hx => ?_,fun b xs e => i8 b xs (I.base.i8 b xs e),fun b o xs e => ix b o xs (I.base.ix b o xs e),fun b ps e => ?_⟩,?_,fun x c e => ?_,?_,fun x c e => ?_,fun p hp => ?_,bK,I.len⟩
 ·exact keep b o (zI b o e) hb (LL b o e hx) (I.base.keep b o e n hb hx) (I.base.free b o e n hx)
 ·obtain ⟨sl,e1⟩:=I.base.slot b o e n hb hx
  obtain ⟨FO,e2⟩:=slot b _ (zI b o e) hb (LL b o e hx) e1 (I.base.free b o e n hx)
  exact ⟨FO,e2⟩
 ·obtain ⟨o',e1⟩:=I.base.there b o e hx
  exact free b o' (LL b o e hx) e1 (I.base.free b o e n hx)
 ·obtain ⟨o',e1⟩:=I.base.there b o e hx
  exact there b o' (LL b o e hx) e1
 ·obtain ⟨m1,e1⟩:=I.base.i9 b ps e
  obtain ⟨m2,e2⟩:=i9 b _ e1
  exact ⟨m1 ++ m2,by rw [e2,Array.append_assoc]⟩
 ·obtain ⟨m,hn,hl⟩:=I.loc
  refine ⟨m,ns m hn,fun i x v e1 e2 e3 => ?_⟩
  obtain ⟨u,r,l⟩:=hl i x v e1 e2 e3
  refine ⟨u,r,?_⟩
  rcases l with l | ⟨k,c,e,z⟩
  ·exact .inl l
  ·exact .inr ⟨k,c,e,cellK x c e _ z⟩
 ·obtain ⟨v,z⟩:=I.cell x c e
  exact ⟨v,cellK x c e v z⟩
 ·obtain ⟨m,⟨o,_,_,ho,_⟩,_⟩:=I.loc
  exact free _ o (fun z => (Cs _ z).2.1 rfl) ho I.free
 ·obtain ⟨v,o,ho,hd⟩:=I.cell x c e
  exact free c o (fun z => (Cs c z).2.2.1 x c e rfl) ho (I.gn x c e)
 ·obtain ⟨e,n,ne,nf,d⟩:=I.pin p hp
  have Jd:p.1 ∉ ch:=fun z => (Cs p.1 z).2.2.2 p hp rfl
  exact ⟨keep p.1 p.2 ne nf Jd e n,free p.1 p.2 Jd e n,ne,nf,d⟩
theorem Inv.un {t':Nat} (I:Inv X pins σ H s) (u:Un X.fs [] H H' s.heap h') (bK:gG X.prog X.w H' h'):Inv X pins σ H' { s with heap:=h',toks:=t' }:=by
 obtain ⟨m,⟨o,es,ep,ho,r⟩,_⟩:=id I.loc
 obtain ⟨sl,hL⟩:=u.any ho I.free (by simp)
 exact I.step (g':=s.gens) (d':=s.drawn) (ch:=[]) (fun _ z => nomatch z) (fun b o _ hb _ e n => u.keep b o e n hb (by simp)) (fun b o _ hb _ e n => u.slot b o e n hb (by simp)) (fun b o _ e n => u.free b o e n (by simp)) (fun b o _ e => u.there b o e (by simp)) u.i8 u.ix u.i9 (fun m' hm => by
  obtain ⟨o',MM,MP,mT,r'⟩:=hm
  rw [ho] at mT; cases mT
  exact ⟨_,MM,MP,hL,r'⟩) bK I.bare
theorem Inv.call {g':Array GenState} {t':Nat} {d':Drawn} {ch:List Addr} (I:Inv X pins σ H s) (u:Un (fY X.stack) ch H H' s.heap h') (bK:gG X.prog X.w H' h') (hg:AllBare g')
  (Cs:∀ b ∈ ch,(b ∈ X.ex ∨ X.s₀.heap.objs.size ≤ b) ∧ b ≠ X.env.locals ∧ (∀ x c,X.env.cells.lookup x = some c → c ≠ b) ∧ ∀ p ∈ X.pn ++ pins,p.1 ≠ b) :
  Inv X pins σ H' { s with heap:=h',gens:=g',drawn:=d',toks:=t' }:=by
 obtain ⟨m,⟨o,es,ep,ho,r⟩,_⟩:=id I.loc
 obtain ⟨sl,hL⟩:=u.any ho I.free fun z => (Cs _ z).2.1 rfl
 exact I.step (ch:=ch) Cs (fun b o hL hb hc e n => u.keep b o e n (fun z => (List.mem_cons.mp (I.lC b z)).elim hL hb) hc) (fun b o _ _ hc e n => u.any e n hc) (fun b o hc e n => u.free b o e n hc) (fun b o hc e => u.there b o e hc) u.i8 u.ix u.i9 (fun m' hm => by
  obtain ⟨o',MM,MP,mT,r'⟩:=hm
  rw [ho] at mT; cases mT
  exact ⟨_,MM,MP,hL,r'⟩) bK hg
theorem Inv.turned {t':Nat} {it:Addr} (I:Inv X pins σ H s) (k:∀ b o,b ≠ it → s.heap.get? b = some o → h'.get? b = some o) (hn:H it = none) (hL:it ≠ X.env.locals)
  (h1:it ∈ X.ex ∨ X.s₀.heap.objs.size ≤ it) (h2:∀ x c,X.env.cells.lookup x = some c → c ≠ it) (h3:∀ p ∈ X.pn ++ pins,p.1 ≠ it):Inv X pins σ H { s with heap:=h',toks:=t' }:=by
 have SN:∀ b u,H b = some u → b ≠ it:=fun b u e z => by rw [z,hn] at e; cases e
 refine I.step (g':=s.gens) (d':=s.drawn) (ch:=[it]) (fun b hb => ?_) (fun b o _ _ hc e _ => k b o (fun z => hc (by simp [z])) e) (fun b o _ _ hc e _ => ⟨o.slots,k b o (fun z => hc (by simp [z])) e⟩) (fun _ _ _ _ n => n)
  (fun b o hc e => ⟨o,k b o (fun z => hc (by simp [z])) e⟩) (fun _ _ e => e) (fun _ _ _ e => e) (fun b ps e => ⟨#[],by rw [e]; simp⟩) (fun m hm => ?_) (fun b u e => ?_) I.bare
 ·have e:b = it:=by simpa using hb
  subst e
  exact ⟨h1,hL,h2,h3⟩
 ·obtain ⟨o,es,ep,ho,r⟩:=hm
  exact ⟨o,es,ep,k _ o (Ne.symm hL) ho,r⟩
 ·refine (I.bK b u e).jJ (fun c v hc q => k c v ?_ q) (fun _ q => q) fun _ _ q => q
  rcases hc with z | z
  ·rw [z]; exact SN b u e
  ·exact SN c _ z
theorem Inv.tok (I:Inv X pins σ H s) (t:Nat):Inv X pins σ H { s with toks:=t }:=I.un (h':=s.heap) (t':=t) Un.refl I.bK
theorem Inv.kept {t':Nat} (I:Inv X pins σ H s) (k:∀ b u,s.heap.get? b = some u → h'.get? b = some u):Inv X pins σ H { s with heap:=h',toks:=t' }:=I.un (Un.kept k) (I.bK.kept k)
theorem Inv.laid {a:Addr} {o:HO} {t':Nat} (I:Inv X pins σ H s) (k:∀ b u,s.heap.get? b = some u → h'.get? b = some u) (hp:s.heap.objs.size ≤ a) (new:bW X.prog X.w (upd H a o) h' a o) :
  Inv X pins σ (upd H a o) { s with heap:=h',toks:=t' }:=I.un (Un.laid k hp (I.bK.fresh hp)) (I.bK.laid k hp new)
theorem Inv.write {x e:Addr} {o:HO} {t':Nat} (I:Inv X pins σ H s) (mu:Jb (H x)) (he:e = x ∨ H e = some (.own x)) (k:∀ b u,b ≠ e → s.heap.get? b = some u → h'.get? b = some u) (IF:∃ u,h'.get? e = some u)
  (new:bW X.prog X.w (upd H x o) h' x o):Inv X pins σ (upd H x o) { s with heap:=h',toks:=t' }:=I.un (Un.write mu he k IF) (I.bK.write mu he k IF new)
theorem Inv.nR {ER:List (Addr × Obj)} (I:Inv X pins σ H s) (h:∀ p ∈ ER,s.heap.get? p.1 = some p.2 ∧ H p.1 = none ∧ p.1 ≠ X.env.locals ∧ p.1 ∉ X.fs ∧ ∀ v,p.2.data ≠ .cell v):Inv X ER σ H s :=
 ⟨I.ok,I.os,I.bare,I.base,I.loc,I.cell,I.free,I.gn,fun p hp => (List.mem_append.mp hp).elim (fun z => I.pin p (List.mem_append_left _ z)) (h p),I.bK,I.len⟩
theorem om {N:List Str} (hN:N.Nodup) {i j:Nat} {x:Str} (a:N[i]? = some x) (b:N[j]? = some x):i = j:=by
 obtain ⟨h1,e1⟩:=List.getElem?_eq_some_iff.mp a
 obtain ⟨h2,e2⟩:=List.getElem?_eq_some_iff.mp b
 exact (List.getElem_inj hN).mp (e1.trans e2.symm)
theorem lD {M:Model} {A:Around} {E:Value → Shared → Prop} {i:Nat} {x:Str} {v:V} {u:Value} {Q:Unit → Shared → Prop} (I:Inv X pins σ H s) (hN:X.N.Nodup) (hi:X.N[i]? = some x) (hx:Loc X.env.scope x) (r:RelV v u)
  (h:∀ s',Inv X pins (σ.set i (some v)) H s' → (∃ a,Heap.SameBut a s.heap s'.heap ∧ (a = X.env.locals ∨ X.env.cells.lookup x = some a)) → Q () s') (hf:X.fn x = true ∨ X.env.scope.names.lookup x = some .local:=by first | exact .inl rfl | exact .inr rfl | assumption):wpAny M A (storeName X.env x u) Q E s:=by
 obtain ⟨m,hn,hl⟩:=id I.loc
 have MQ:(X.env.scope.kind == .class || (X.env.scope.kind == .module && X.env.locals != X.env.globals)) = false:=by rw [I.ok.kind]; rfl
 have Je:i < σ.length:=by rw [I.len]; exact (List.getElem?_eq_some_iff.mp hi).1
 have zH:=I.zH
 have tracked:∀ {a:Addr} {h':Heap},(∃ o,s.heap.get? a = some o ∧ H a = none) → Heap.SameBut a s.heap h' → gG X.prog X.w H h':=fun {a h'} ha hs b ob e => by
  obtain ⟨_,_,wK⟩:=ha
  refine (I.bK b ob e).jJ (fun c w' hc q => (hs.2 c ?_).trans q) (fun _ q => q) fun _ _ q => q
  rintro rfl
  rcases hc with rfl | hc
  ·rw [wK] at e; cases e
  ·rw [wK] at hc; cases hc
 rcases hx with hk | hk
 ·refine wpAny_storeName_local hk hn (fun h' CF hs => ?_) MQ
  obtain ⟨oL,_,_,Uj,_⟩:=id hn
  refine h _ ⟨I.ok,I.os,I.bare,⟨fun b o e n hb hx => ?_,fun b o e n hb hx => ?_,I.base.free,fun b o e hx => ?_,I.base.i8,I.base.ix,I.base.i9⟩,⟨_,CF,fun j y v' e1 e2 e3 => ?_⟩,fun y c e => ?_,I.free,I.gn,fun p hp => ?_,tracked ⟨oL,Uj,I.free⟩ hs,by simpa using I.len⟩ ⟨_,hs,.inl rfl⟩
  ·exact (hs.2 b (Nat.ne_of_lt (Nat.lt_of_lt_of_le (Heap.lt_size e) I.ok.above))).trans (I.base.keep b o e n hb hx)
  ·obtain ⟨sl,e1⟩:=I.base.slot b o e n hb hx
   exact ⟨sl,(hs.2 b (Nat.ne_of_lt (Nat.lt_of_lt_of_le (Heap.lt_size e) I.ok.above))).trans e1⟩
  ·obtain ⟨o',e1⟩:=I.base.there b o e hx
   exact ⟨o',(hs.2 b (Nat.ne_of_lt (Nat.lt_of_lt_of_le (Heap.lt_size e) I.ok.above))).trans e1⟩
  ·by_cases hj:j = i
   ·subst hj
    rw [hi] at e1; cases e1
    rw [List.getElem?_set_self Je] at e2
    cases e2
    exact ⟨u,r,.inl ⟨hk,by simp⟩⟩
   ·rw [List.getElem?_set_ne (Ne.symm hj)] at e2
    obtain ⟨u',r',q⟩:=hl j y v' e1 e2 e3
    refine ⟨u',r',?_⟩
    rcases q with ⟨k,e⟩ | ⟨k,c,e,z⟩
    ·refine .inl ⟨k,?_⟩
     have:y ≠ x:=fun e => hj (om hN e1 (e ▸ hi))
     simp [this,e]
    ·exact .inr ⟨k,c,e,z.sameBut hs (zH y c e)⟩
  ·obtain ⟨w',z⟩:=I.cell y c e
   exact ⟨w',z.sameBut hs (zH y c e)⟩
  ·obtain ⟨e,n,ne,nf,d⟩:=I.pin p hp
   exact ⟨(hs.2 p.1 ne).trans e,n,ne,nf,d⟩
 ·have vB:X.fn x = true:=by
   rcases hf with z | z
   ·exact z
   ·rw [z] at hk; cases hk
  obtain ⟨c,hc⟩:=I.ok.has x (.inl hk)
  obtain ⟨w',z⟩:=I.cell x c hc
  refine wpAny_storeName_cell I.ok.kind hk hc z (fun h' eO hs => ?_)
  obtain ⟨oc,Jf,MR⟩:=id z
  refine h { s with heap:=h' } ⟨I.ok,I.os,I.bare,⟨fun b o e n hb hx => ?_,fun b o e n hb hx => ?_,I.base.free,fun b o e hx => ?_,I.base.i8,I.base.ix,I.base.i9⟩,⟨m,hn.sameBut hs (Ne.symm (zH x c hc)),fun j y v' e1 e2 e3 => ?_⟩,fun y c' e => ?_,I.free,I.gn,fun p hp => ?_,tracked ⟨oc,Jf,I.gn x c hc⟩ hs,by simpa using I.len⟩ ⟨c,hs,.inr hc⟩
  ·exact (hs.2 b (Nat.ne_of_lt (Nat.lt_of_lt_of_le (Heap.lt_size e) (I.ok.zE x c vB hc)))).trans (I.base.keep b o e n hb hx)
  ·obtain ⟨sl,e1⟩:=I.base.slot b o e n hb hx
   exact ⟨sl,(hs.2 b (Nat.ne_of_lt (Nat.lt_of_lt_of_le (Heap.lt_size e) (I.ok.zE x c vB hc)))).trans e1⟩
  ·obtain ⟨o',e1⟩:=I.base.there b o e hx
   exact ⟨o',(hs.2 b (Nat.ne_of_lt (Nat.lt_of_lt_of_le (Heap.lt_size e) (I.ok.zE x c vB hc)))).trans e1⟩
  ·by_cases hj:j = i
   ·subst hj
    rw [hi] at e1; cases e1
    rw [List.getElem?_set_self Je] at e2
    cases e2
    exact ⟨u,r,.inr ⟨.inl hk,c,hc,eO⟩⟩
   ·rw [List.getElem?_set_ne (Ne.symm hj)] at e2
    obtain ⟨u',r',q⟩:=hl j y v' e1 e2 e3
    refine ⟨u',r',?_⟩
    rcases q with q | ⟨k,c',e,z'⟩
    ·exact .inl q
    ·refine .inr ⟨k,c',e,z'.sameBut hs ?_⟩
     rintro rfl
     exact hj (om hN e1 (I.ok.inj _ _ _ e hc ▸ hi))
  ·by_cases SQ:c' = c
   ·subst SQ; exact ⟨_,eO⟩
   ·obtain ⟨w2,z2⟩:=I.cell y c' e
    exact ⟨w2,z2.sameBut hs SQ⟩
  ·obtain ⟨e,n,ne,nf,d⟩:=I.pin p hp
   refine ⟨(hs.2 p.1 ?_).trans e,n,ne,nf,d⟩
   intro q
   rw [q,Jf] at e
   have q':oc = p.2:=Option.some.inj e
   exact d w' (by rw [← q']; exact MR)
theorem i_ {M:Model} {A:Around} {E:Value → Shared → Prop} {i:Nat} {x:Str} {v:V} {u:Value} {Q:Unit → Shared → Prop} (I:Inv X pins σ H s) (hN:X.N.Nodup) (hi:X.N[i]? = some x) (hx:Loc X.env.scope x) (r:RelV v u)
  (h:∀ s',Inv X pins (σ.set i (some v)) H s' → Q () s') (hf:X.fn x = true ∨ X.env.scope.names.lookup x = some .local:=by first | exact .inl rfl | exact .inr rfl | assumption):wpAny M A (storeName X.env x u) Q E s :=
 lD I hN hi hx r (fun s' I' _ => h s' I') hf
theorem Inv.wL {s':Shared} {ch:List Addr} (I:Inv X pins σ H s) (ho:s'.os = s.os) (u:Un (fY X.stack) ch H H' s.heap s'.heap) (bK:gG X.prog X.w H' s'.heap) (hg:AllBare s'.gens)
  (Cs:∀ b ∈ ch,(b ∈ X.ex ∨ X.s₀.heap.objs.size ≤ b) ∧ b ≠ X.env.locals ∧ (∀ x c,X.env.cells.lookup x = some c → c ≠ b) ∧ ∀ p ∈ X.pn ++ pins,p.1 ≠ b):Inv X pins σ H' s':=by
 obtain ⟨h',g',d',t',o'⟩:=s'
 have e:o' = s.os:=ho
 subst e
 exact I.call (g':=g') (t':=t') (d':=d') u bK hg Cs
end
noncomputable abbrev XK:=Value → Option Addr → Hp → Prop
noncomputable abbrev St:=List (Option V)
noncomputable abbrev VK:=V → Hp → Prop
noncomputable abbrev TE:=St → Hp → VK → Prop
noncomputable abbrev TT:=St → Hp → (Bool → Hp → Prop) → Prop
noncomputable abbrev TA:=St → Hp → (List V → Hp → Prop) → Prop
structure Ends where
 nx:St → Hp → Prop
 rt:VK
 bk:St → Hp → Prop:=fun _ _ => False
 ct:St → Hp → Prop:=fun _ _ => False
noncomputable abbrev TS:=Ends → St → Hp → Prop
noncomputable def EP (X:Cx) (pins:List (Addr × Obj)) (σ:St) (Q:VK) (u:Value) (s':Shared):Prop:=∃ v H',Inv X pins σ H' s' ∧ RelV v u ∧ Q v H'
noncomputable def TP (X:Cx) (pins:List (Addr × Obj)) (σ:St) (Q:Bool → Hp → Prop) (b:Bool) (s':Shared):Prop:=∃ H',Inv X pins σ H' s' ∧ Q b H'
noncomputable def AP (X:Cx) (pins:List (Addr × Obj)) (σ:St) (Q:List V → Hp → Prop) (us:List Value) (s':Shared):Prop:=∃ vs H',Inv X pins σ H' s' ∧ Vals vs us ∧ Q vs H'
noncomputable def SP (X:Cx) (pins:List (Addr × Obj)) (D:Ends) (f:Flow) (s':Shared):Prop :=
 match f with
 | .next => ∃ σ' H',Inv X pins σ' H' s' ∧ D.nx σ' H'
 | .brk => ∃ σ' H',Inv X pins σ' H' s' ∧ D.bk σ' H'
 | .cont => ∃ σ' H',Inv X pins σ' H' s' ∧ D.ct σ' H'
 | .ret u => ∃ v σ' H',Inv X pins σ' H' s' ∧ RelV v u ∧ D.rt v H'
noncomputable def PE (X:Cx) (e:Expr) (t:TE):Prop :=
 ∀ (pins:List (Addr × Obj)) (s:Shared) (σ:St) (H:Hp) (Q:VK),Inv X pins σ H s → t σ H Q → wpAny (model X.prog X.w) X.A (eval e X.env) (EP X pins σ Q) X.xe s
noncomputable def PT (X:Cx) (e:Expr) (t:TT):Prop :=
 ∀ (pins:List (Addr × Obj)) (s:Shared) (σ:St) (H:Hp) (Q:Bool → Hp → Prop),Inv X pins σ H s → t σ H Q → wpAny (model X.prog X.w) X.A (isTrue e X.env (eval e X.env)) (TP X pins σ Q) X.xe s
noncomputable def PW (X:Cx) (e:Expr) (t:TT):Prop :=
 ∀ (whole:Sem Value) (pins:List (Addr × Obj)) (s:Shared) (σ:St) (H:Hp) (Q:Bool → Hp → Prop),Inv X pins σ H s → t σ H Q → wpAny (model X.prog X.w) X.A (isTrue e X.env whole) (TP X pins σ Q) X.xe s
theorem PW.pt {X:Cx} {e:Expr} {t:TT} (h:PW X e t):PT X e t:=h _
noncomputable def PA (X:Cx) (es:List Expr) (t:TA):Prop :=
 ∀ (pos:Pos) (pins:List (Addr × Obj)) (s:Shared) (σ:St) (H:Hp) (Q:List V → Hp → Prop),Inv X pins σ H s → t σ H Q → wpAny (model X.prog X.w) X.A (spliced (backTo pos (starEach es X.env))) (AP X pins σ Q) X.xe s
noncomputable def PS (X:Cx) (st:Stmt) (t:TS):Prop :=
 ∀ (pins:List (Addr × Obj)) (s:Shared) (σ:St) (H:Hp) (D:Ends),Inv X pins σ H s → t D σ H → wpAny (model X.prog X.w) X.A (exec st X.env) (SP X pins D) X.xe s
noncomputable def ja (X:Cx) (st:List Stmt) (t:TS):Prop :=
 ∀ (pins:List (Addr × Obj)) (s:Shared) (σ:St) (H:Hp) (D:Ends),Inv X pins σ H s → t D σ H → wpAny (model X.prog X.w) X.A (execs st X.env) (SP X pins D) X.xe s
theorem c_ {α:Type} {t:Sem α} {Q Q':α → Shared → Prop} {M:Model} {A:Around} {E:Value → Shared → Prop} {s:Shared} (h:wpAny M A t Q E s) (hQ:∀ a s,Q a s → Q' a s):wpAny M A t Q' E s:=wpAny_mono h hQ fun _ _ x => x
end L2
namespace L2
open PySem PySem.Spec PyProof.Rows
section
variable {X:Cx}
noncomputable def MS (i:Nat):TE:=fun σ H Q => ∃ v,σ[i]? = some (some v) ∧ Q v H
noncomputable def tC (v:V):TE:=fun _ H Q => Q v H
theorem zJ {i:Nat} {x:Str} {pos:Pos} (hN:X.N[i]? = some x) (hv:FL X.env.scope x) (hd:(x == ("__debug__":Str)) = false:=by decide) (mU:(x == ("__classdict__":Str)) = false:=by decide):PE X (.Name x pos) (MS i):=by
 intro pins s σ H Q I h
 obtain ⟨v,e,h⟩:=h
 obtain ⟨m,hn,hl⟩:=I.loc
 obtain ⟨u,r,l⟩:=hl i x v hN e hv
 have fin:EP X pins σ Q u s:=⟨v,H,I,r,h⟩
 rcases l with ⟨hk,hm⟩ | ⟨hk,c,hc,wM⟩
 ·exact wpAny_Name (wpAny_loadName_local I.ok.kind hk hn hm fin) hd
 ·rcases hk with hk | hk
  ·exact wpAny_Name (wpAny_loadName_cell I.ok.kind hk hc wM fin) hd
  ·exact wpAny_Name (wpAny_loadName_free I.ok.kind hk hc wM fin mU) hd
theorem FQ {i j pos}:PE X (.Constant (.int i) j pos) (tC (.int i)):=fun _ _ _ H _ I h => wpAny_Constant_int ⟨.int i,H,I.tok _,⟨_,rfl⟩,h⟩
theorem ES {b j pos}:PE X (.Constant (.bool b) j pos) (tC (.bl b)):=fun _ _ _ H _ I h => Constant_bool ⟨.bl b,H,I,rfl,h⟩
theorem FR {x j pos}:PE X (.Constant (.str x) j pos) (tC (.str x)):=fun _ _ _ H _ I h => Calls.Constant_str ⟨.str x,H,I.tok _,⟨_,rfl⟩,h⟩
noncomputable def Gl (X:Cx) (x:Str):Prop:=X.env.kindOf x = some .globalImplicit
theorem iy {E:Value → Shared → Prop} {pins:List (Addr × Obj)} {s:Shared} {σ:St} {H:Hp} {x:Str} {u:Value} {pos:Pos} {Q:Value → Shared → Prop} (I:Inv X pins σ H s) (hg:Gl X x) (hm:X.mg x = some u) (h:Q u s)
  (hd:(x == ("__debug__":Str)) = false:=by decide):wpAny (model X.prog X.w) X.A (eval (.Name x pos) X.env) Q E s :=
 Calls.Name_function_global I.ok.kind hg (Calls.loadGlobal_global (by rw [I.ok.glob]; exact I.mod.glob.keeps I.bk) hm h) hd
theorem jb {E:Value → Shared → Prop} {pins:List (Addr × Obj)} {s:Shared} {σ:St} {H:Hp} {x:Str} {u:Value} {pos:Pos} {Q:Value → Shared → Prop} (I:Inv X pins σ H s) (hg:Gl X x) (hm:X.mg x = none) (hv:bootBuiltins x = some u) (h:Q u s)
  (hn:x ≠ "__name__":=by decide) (hd:(x == ("__debug__":Str)) = false:=by decide):wpAny (model X.prog X.w) X.A (eval (.Name x pos) X.env) Q E s:=by
 obtain ⟨mb,h1,h2⟩:=I.mod.blt
 exact Calls.Name_function_global I.ok.kind hg (Calls.loadGlobal_builtin (by rw [I.ok.glob]; exact I.mod.glob.keeps I.bk) hm (by rw [I.ok.blt]; exact h1.keeps I.bk) ((h2 x hn).trans hv) h) hd
theorem wN {x:Str} {v:V} {u:Value} {pos:Pos} (hg:Gl X x) (hm:X.mg x = some u) (r:RelV v u) (hd:(x == ("__debug__":Str)) = false:=by decide):PE X (.Name x pos) (tC v) :=
 fun _ _ _ H _ I h => iy I hg hm ⟨v,H,I,r,h⟩ hd
theorem wO {x:Str} {v:V} {u:Value} {pos:Pos} (hg:Gl X x) (hm:X.mg x = none) (hv:bootBuiltins x = some u) (r:RelV v u) (hn:x ≠ "__name__":=by decide) (hd:(x == ("__debug__":Str)) = false:=by decide):PE X (.Name x pos) (tC v) :=
 fun _ _ _ H _ I h => jb I hg hm hv ⟨v,H,I,r,h⟩ hn hd
variable {a b:Expr} {ta tb:TE} {pos:Pos}
noncomputable def PC (X:Cx) (op:CmpOp) (a b:Expr) (t:TE):Prop :=
 ∀ (pins:List (Addr × Obj)) (s:Shared) (σ:St) (H:Hp) (Q:VK),Inv X pins σ H s → t σ H Q →
  wpAny (model X.prog X.w) X.A (eval a X.env) (fun v s₁ => wpAny (model X.prog X.w) X.A (eval b X.env) (fun u s₂ => wpAny (model X.prog X.w) X.A (compareOp op v u) (EP X pins σ Q) X.xe s₂) X.xe s₁) X.xe s
noncomputable def tB (t:TE):TT:=fun σ H Q => t σ H fun x H1 => ∃ c,x = .bl c ∧ Q c H1
theorem FT {e:Expr} {t:TE} (h:PE X e t) (he:∀ whole,isTrue e X.env whole = (do let v ← whole; standAt e.pos; holding [v] (truthy v)):=by intro _; rfl):PT X e (tB t):=by
 intro pins s σ H Q I hw
 refine isTrue_plain (c_ (h pins s σ H _ I hw) fun v s1 ⟨x,H1,I1,r1,q1⟩ => ?_) (he _)
 obtain ⟨d,rfl,q⟩:=q1
 cases r1
 exact wpAny_truthy_bool ⟨H1,I1,q⟩
variable {tA CG:TT} {rest:List Expr}
noncomputable def MU (t u:TT):TT:=fun σ H Q => t σ H fun c H1 => if c = true then u σ H1 Q else Q false H1
noncomputable def Uk (t u:TT):TT:=fun σ H Q => t σ H fun c H1 => if c = true then Q true H1 else u σ H1 Q
noncomputable def MV (t:TT):TT:=fun σ H Q => t σ H fun c H1 => Q (!c) H1
theorem CH (ha:PT X a tA):PW X (.BoolOp .And [a] pos) tA:=by
 intro wh pins s σ H Q I h
 refine isTrue_and (c_ (ha pins s σ H Q I h) fun c s1 e => ?_)
 cases c with
 | true => exact isTrue_and_nil e
 | false => exact e
theorem FU (ha:PT X a tA):PW X (.BoolOp .Or [a] pos) tA:=by
 intro wh pins s σ H Q I h
 refine isTrue_or (c_ (ha pins s σ H Q I h) fun c s1 e => ?_)
 cases c with
 | false => exact isTrue_or_nil e
 | true => exact e
theorem FV (ha:PT X a tA) (hb:PW X (.BoolOp .And (b :: rest) pos) CG):PW X (.BoolOp .And (a :: b :: rest) pos) (MU tA CG):=by
 intro wh pins s σ H Q I h
 refine isTrue_and (c_ (ha pins s σ H _ I h) fun c s1 ⟨H1,I1,q1⟩ => ?_)
 cases c with
 | true => exact hb wh pins s1 σ H1 Q I1 q1
 | false => exact ⟨H1,I1,q1⟩
theorem Jg (ha:PT X a tA) (hb:PW X (.BoolOp .Or (b :: rest) pos) CG):PW X (.BoolOp .Or (a :: b :: rest) pos) (Uk tA CG):=by
 intro wh pins s σ H Q I h
 refine isTrue_or (c_ (ha pins s σ H _ I h) fun c s1 ⟨H1,I1,q1⟩ => ?_)
 cases c with
 | true => exact ⟨H1,I1,q1⟩
 | false => exact hb wh pins s1 σ H1 Q I1 q1
theorem FW (ha:PT X a tA):PT X (.UnaryOp .Not a pos) (MV tA):=by
 intro pins s σ H Q I h
 exact isTrue_not (ha pins s σ H (fun c H1 => Q (!c) H1) I h)
noncomputable def Jh (ta tb:TE):TE:=fun σ H Q => ta σ H fun x H1 => ∃ c,x = .bl c ∧ if c = true then tb σ H1 Q else Q (.bl false) H1
noncomputable def MW (ta tb:TE):TE:=fun σ H Q => ta σ H fun x H1 => ∃ c,x = .bl c ∧ if c = true then Q (.bl true) H1 else tb σ H1 Q
noncomputable def Ji (ta:TE):TE:=fun σ H Q => ta σ H fun x H1 => ∃ c,x = .bl c ∧ Q (.bl (!c)) H1
theorem FX {op} {t:TE} (h:PE X a t):PE X (.BoolOp op [a] pos) t:=fun pins s σ H Q I hw => BoolOp_one (h pins s σ H Q I hw)
theorem FY (ha:PE X a ta) (hb:PE X (.BoolOp .And (b :: rest) pos) tb):PE X (.BoolOp .And (a :: b :: rest) pos) (Jh ta tb):=by
 intro pins s σ H Q I h
 refine BoolOp_and (c_ (ha pins s σ H _ I h) fun v s1 ⟨x,H1,I1,r1,q1⟩ => ?_)
 obtain ⟨c,rfl,q1⟩:=q1
 cases r1
 refine wpAny_truthy_bool ?_
 cases c with
 | true => exact hb pins s1 σ H1 Q I1 q1
 | false => exact ⟨.bl false,H1,I1,rfl,q1⟩
theorem Jj (ha:PE X a ta) (hb:PE X (.BoolOp .Or (b :: rest) pos) tb):PE X (.BoolOp .Or (a :: b :: rest) pos) (MW ta tb):=by
 intro pins s σ H Q I h
 refine BoolOp_or (c_ (ha pins s σ H _ I h) fun v s1 ⟨x,H1,I1,r1,q1⟩ => ?_)
 obtain ⟨c,rfl,q1⟩:=q1
 cases r1
 refine wpAny_truthy_bool ?_
 cases c with
 | false => exact hb pins s1 σ H1 Q I1 q1
 | true => exact ⟨.bl true,H1,I1,rfl,q1⟩
theorem FZ (ha:PE X a ta):PE X (.UnaryOp .Not a pos) (Ji ta):=by
 intro pins s σ H Q I h
 refine UnaryOp_ (c_ (ha pins s σ H _ I h) fun v s1 ⟨x,H1,I1,r1,q1⟩ => ?_)
 obtain ⟨c,rfl,q1⟩:=q1
 cases r1
 exact not_of (wpAny_truthy_bool ⟨.bl (!c),H1,I1,rfl,q1⟩)
noncomputable def Ul (t:TT) (ta tb:TE):TE:=fun σ H Q => t σ H fun c H1 => if c = true then ta σ H1 Q else tb σ H1 Q
theorem zK {c:Expr} (hc:PT X c tA) (ha:PE X a ta) (hb:PE X b tb):PE X (.IfExp c a b pos) (Ul tA ta tb):=by
 intro pins s σ H Q I h
 refine wpAny_IfExp (c_ (hc pins s σ H _ I h) fun d s1 ⟨H1,I1,q1⟩ => ?_)
 cases d with
 | true => exact ha pins s1 σ H1 Q I1 q1
 | false => exact hb pins s1 σ H1 Q I1 q1
end
end L2
namespace L2
open PySem PySem.Spec PyProof.Rows
noncomputable def mV (K:PySem.W.Frag) (H:Hp) (a:Addr) (xs:List V):Prop :=
 Rd H a (.lst xs) ∨
  ∃ (o:Obj) (aN:Array Value) (n:Nat),K.lookup a = some o ∧ o.cls = .type "list" ∧ o.dict = none ∧ o.data = .seq aN n ∧ aN.size ≤ sizeLine ∧ Vals xs aN.toList
noncomputable def jQ (K:PySem.W.Frag) (H:Hp) (a:Addr) (xs:List V):Prop :=
 Rd H a (.tup xs) ∨
  ∃ (o:Obj) (aN:Array Value) (n:Nat),K.lookup a = some o ∧ o.cls = .type "tuple" ∧ o.data = .seq aN n ∧ aN.size ≤ sizeLine ∧ Vals xs aN.toList
noncomputable def MX:Value → Option V
 | .none => some .eR
 | .bool b => some (.bl b)
 | .int i _ => some (.int i)
 | .str x _ => some (.str x)
 | .bytes b _ => some (.MD b)
 | .float b _ => some (.nQ b)
 | .ref a => some (.ref a)
 | .type n => some (.ty n)
 | _ => none
theorem RelV.abs {x:V} {u:Value} (r:RelV x u):MX u = some x:=by
 cases x with
 | eR => cases r; rfl
 | bl _ => cases r; rfl
 | int _ => obtain ⟨t,rfl⟩:=r; rfl
 | str _ => obtain ⟨t,rfl⟩:=r; rfl
 | MD _ => obtain ⟨t,rfl⟩:=r; rfl
 | nQ _ => obtain ⟨t,rfl⟩:=r; rfl
 | ref _ => cases r; rfl
 | ty _ => cases r; rfl
theorem RelV.inj {x y:V} {u:Value} (r:RelV x u) (q:RelV y u):x = y:=Option.some.inj (r.abs.symm.trans q.abs)
theorem Vals.inj {xs ys:List V} {us:List Value} (p:Vals xs us) (q:Vals ys us):xs = ys:=by
 induction p generalizing ys with
 | nil => cases q; rfl
 | cons r t ih =>
  cases q with
  | cons r' t' => rw [r.inj r',ih t']
section
variable {X:Cx} {pins:List (Addr × Obj)} {σ:St} {H:Hp} {s:Shared} {a:Addr} {xs ys:List V}
theorem mV.of {K:PySem.W.Frag} (h:H a = some (.lst xs)):mV K H a xs:=.inl (.inl h)
theorem jQ.of {K:PySem.W.Frag} (h:H a = some (.tup xs)):jQ K H a xs:=.inl (.inl h)
theorem Inv.list (I:Inv X pins σ H s) (h:mV X.K H a xs):∃ aN:List Value,Vals xs aN ∧ PlainL s.heap a aN.toArray ∧ xs.length ≤ sizeLine:=by
 rcases h with h | ⟨o,aN,n,hk,hc,hd,hs,hz,r⟩
 ·obtain ⟨z,aN,n,r,e⟩:=h.ok I.bK
  exact ⟨aN,r,⟨_,n,e,rfl,rfl,rfl⟩,z⟩
 ·refine ⟨aN.toList,r,⟨o,n,I.mS a o hk,hc,hd,by simpa using hs⟩,?_⟩
  have e:=r.length
  simp only [Array.length_toList] at e
  lia
theorem Inv.tuple (I:Inv X pins σ H s) (h:jQ X.K H a xs):∃ aN:List Value,Vals xs aN ∧ IsTup s.heap a aN.toArray ∧ xs.length ≤ sizeLine:=by
 rcases h with h | ⟨o,aN,n,hk,hc,hs,hz,r⟩
 ·obtain ⟨z,aN,r,p⟩:=h.ok I.bK
  exact ⟨aN,r,p,z⟩
 ·refine ⟨aN.toList,r,⟨o,I.mS a o hk,hc,n,by simpa using hs⟩,?_⟩
  have e:=r.length
  simp only [Array.length_toList] at e
  lia
theorem Inv.oo (I:Inv X pins σ H s) (h:mV X.K H a xs) (h':mV X.K H a ys):xs = ys:=by
 obtain ⟨aN,r,⟨o,n,e,_,_,d⟩,_⟩:=I.list h
 obtain ⟨its',r',⟨o',n',e',_,_,d'⟩,_⟩:=I.list h'
 rw [e] at e'; cases e'
 rw [d] at d'
 injection d' with d1 _
 have:aN = its':=by simpa using congrArg Array.toList d1
 subst this
 exact r.inj r'
theorem Inv.lE (I:Inv X pins σ H s) (h:jQ X.K H a xs) (h':jQ X.K H a ys):xs = ys:=by
 obtain ⟨aN,r,⟨o,e,_,n,d⟩,_⟩:=I.tuple h
 obtain ⟨its',r',⟨o',e',_,n',d'⟩,_⟩:=I.tuple h'
 rw [e] at e'; cases e'
 rw [d] at d'
 injection d' with d1 _
 have:aN = its':=by simpa using congrArg Array.toList d1
 subst this
 exact r.inj r'
end
noncomputable abbrev Cx.km (X:Cx) (E:Value → Shared → Prop):Cx:={ X with xe:=E }
theorem Cx.Ok.km {X:Cx} (ok:X.Ok) (E:Value → Shared → Prop):(X.km E).Ok :=
 ⟨ok.mod,ok.kind,ok.glob,ok.blt,ok.above,ok.inj,ok.has,ok.zE,ok.hd,ok.frames,ok.CD,ok.MG,ok.bs,ok.zF,ok.vA,ok.zG,ok.iX,ok.xZ⟩
theorem Cx.Ok.lF {X:Cx} {E:Value → Shared → Prop} (ok:(X.km E).Ok):X.Ok :=
 ⟨ok.mod,ok.kind,ok.glob,ok.blt,ok.above,ok.inj,ok.has,ok.zE,ok.hd,ok.frames,ok.CD,ok.MG,ok.bs,ok.zF,ok.vA,ok.zG,ok.iX,ok.xZ⟩
section
variable {X:Cx} {pins:List (Addr × Obj)} {σ:St} {H:Hp} {s:Shared} {E:Value → Shared → Prop}
theorem Inv.km (I:Inv X pins σ H s) (E:Value → Shared → Prop):Inv (X.km E) pins σ H s:=⟨I.ok.km E,I.os,I.bare,I.base,I.loc,I.cell,I.free,I.gn,I.pin,I.bK,I.len⟩
theorem Inv.lF (I:Inv (X.km E) pins σ H s):Inv X pins σ H s:=⟨I.ok.lF,I.os,I.bare,I.base,I.loc,I.cell,I.free,I.gn,I.pin,I.bK,I.len⟩
end
section
variable {X:Cx} {st:Stmt} {rest:List Stmt} {t u:TS} {e:Expr} {te:TE} {pos:Pos}
noncomputable def Jk:TS:=fun D σ H => D.nx σ H
noncomputable def MY (t u:TS):TS:=fun D σ H => t { D with nx:=u D } σ H
theorem CI:ja X [] Jk:=fun _ _ σ H _ I h => wpAny_execs_nil ⟨σ,H,I,h⟩
theorem zL (h1:PS X st t) (h2:ja X rest u):ja X (st :: rest) (MY t u):=by
 intro pins s σ H D I h
 refine wpAny_execs_cons (c_ (h1 pins s σ H { D with nx:=u D } I h) fun f s1 q => ?_)
 cases f with
 | next =>
  obtain ⟨σ',H',I',q⟩:=q
  exact h2 pins s1 σ' H' D I' q
 | ret v => exact q
 | brk => exact q
 | cont => exact q
theorem CJ (h1:PS X st t):ja X [st] t:=by
 intro pins s σ H D I h
 refine wpAny_execs_cons (c_ (h1 pins s σ H D I h) fun f s1 q => ?_)
 cases f with
 | next => exact wpAny_execs_nil q
 | ret v => exact q
 | brk => exact q
 | cont => exact q
theorem Inv.quiet {pins:List (Addr × Obj)} {σ:St} {H:Hp} {s:Shared} (I:Inv X pins σ H s):interactive X.env = false:=by simp [interactive,I.ok.kind]
noncomputable def Jl (te:TE):TS:=fun D σ H => te σ H fun _ H1 => D.nx σ H1
theorem CK (he:PE X e te) (hs:swapsWith e none pos.line X.env = pure false:=by rfl):PS X (.Expr e pos) (Jl te):=by
 intro pins s σ H D I h
 exact wpAny_Expr_any (c_ (he pins s σ H _ I h) fun v s1 ⟨x,H1,I1,r1,q1⟩ => ⟨σ,H1,I1,q1⟩) I.quiet hs
noncomputable def MZ (te:TE):TS:=fun D σ H => te σ H D.rt
theorem F0 (he:PE X e te):PS X (.Return (some e) pos) (MZ te):=by
 intro pins s σ H D I h
 exact wpAny_Return_some (c_ (he pins s σ H _ I h) fun v s1 ⟨x,H1,I1,r1,q1⟩ => ⟨x,σ,H1,I1,r1,q1⟩)
noncomputable def M3 (c:TT) (t u:TS):TS:=fun D σ H => c σ H fun b H1 => if b = true then t D σ H1 else u D σ H1
theorem Jm {c:Expr} {a b:List Stmt} {tc:TT} (hc:PT X c tc) (ha:ja X a t) (hb:ja X b u):PS X (.If c a b pos) (M3 tc t u):=by
 intro pins s σ H D I h
 refine wpAny_If (c_ (hc pins s σ H _ I h) fun d s1 ⟨H1,I1,q1⟩ => ?_)
 cases d with
 | true => exact ha pins s1 σ H1 D I1 q1
 | false => exact hb pins s1 σ H1 D I1 q1
end
noncomputable abbrev TG:=V → St → Hp → (St → Hp → Prop) → Prop
noncomputable abbrev CL:=List V → St → Hp → (St → Hp → Prop) → Prop
noncomputable def PG (X:Cx) (target:Expr) (t:TG):Prop :=
 ∀ (pins:List (Addr × Obj)) (s:Shared) (σ:St) (H:Hp) (v:V) (u:Value) (Q:St → Hp → Prop),Inv X pins σ H s → RelV v u → t v σ H Q →
  wpAny (model X.prog X.w) X.A (assign target X.env u) (fun _ s' => ∃ σ' H',Inv X pins σ' H' s' ∧ Q σ' H') X.xe s
noncomputable def x9 (X:Cx) (ts:List Expr) (t:CL):Prop :=
 ∀ (pins:List (Addr × Obj)) (s:Shared) (σ:St) (H:Hp) (vs:List V) (us:List Value) (Q:St → Hp → Prop),Inv X pins σ H s → Vals vs us → t vs σ H Q →
  wpAny (model X.prog X.w) X.A (assignInOrder ((assignEach ts X.env).map (·.2)) us) (fun _ s' => ∃ σ' H',Inv X pins σ' H' s' ∧ Q σ' H') X.xe s
section
variable {X:Cx} {pos:Pos}
noncomputable def tK (i:Nat):TG:=fun v σ H Q => Q (σ.set i (some v)) H
theorem CM {i:Nat} {x:Str} (hN:X.N.Nodup) (hi:X.N[i]? = some x) (hx:Loc X.env.scope x) (hf:X.fn x = true ∨ X.env.scope.names.lookup x = some .local:=by first | exact .inl rfl | exact .inr rfl | assumption):PG X (.Name x pos) (tK i):=by
 intro pins s σ H v u Q I r h
 exact wpAny_assign_Name (i_ I hN hi hx r (fun s' I' => ⟨_,H,I',h⟩) hf)
noncomputable def M4:CL:=fun vs σ H Q => vs = [] ∧ Q σ H
noncomputable def Jn (t:TG) (u:CL):CL:=fun vs σ H Q => ∃ v r,vs = v :: r ∧ t v σ H fun σ' H' => u r σ' H' Q
theorem CN:x9 X [] M4:=by
 intro pins s σ H vs us Q I r h
 obtain ⟨e,h⟩:=h
 subst e
 cases r
 exact assignInOrder_nil ⟨σ,H,I,h⟩
theorem zM {e:Expr} {es:List Expr} {t:TG} {u:CL} (h1:PG X e t) (h2:x9 X es u)
  (hs:(assignEach (e :: es) X.env).map (·.2) = assign e X.env :: (assignEach es X.env).map (·.2):=by rfl):x9 X (e :: es) (Jn t u):=by
 intro pins s σ H vs us Q I r h
 obtain ⟨v,vr,e1,h⟩:=h
 subst e1
 cases r with
 | cons r rr =>
  rw [hs]
  refine assignInOrder_cons (c_ (h1 pins s σ H _ _ _ I r h) fun _ s1 ⟨σ1,H1,I1,q1⟩ => ?_)
  exact h2 pins s1 σ1 H1 _ _ Q I1 rr q1
noncomputable def M5 (K:PySem.W.Frag) (n:Nat) (t:CL):TG:=fun v σ H Q => ∃ a xs,v = .ref a ∧ jQ K H a xs ∧ xs.length = n ∧ t xs σ H Q
theorem F1 {es:List Expr} {k:Nat} {t:CL} {n:Nat} (hc:X.calm = true) (h:x9 X es t)
  (hn:(assignEach es X.env).length = n:=by rfl) (zz:(assignEach es X.env).findIdx? (·.1) = none:=by rfl):PG X (.Tuple es k pos) (M5 X.K n t):=by
 intro pins s σ H v u Q I r hw
 obtain ⟨a,xs,e1,hq,hl,hw⟩:=hw
 subst e1
 cases r
 obtain ⟨aN,rv,ht,hz⟩:=I.tuple hq
 refine assign_Tuple_tuple (I.ok.hd hc) ht (by simp [hn,← hl,rv.length]) zz fun h' hx => ?_
 have I1:Inv X pins σ H { s with heap:=h' }:=I.kept (t':=s.toks) fun b o e => hx b o (Nat.ne_of_lt (Heap.lt_size e)) e
 exact h pins _ σ H xs _ Q I1 (by simpa using rv) hw
noncomputable def F3 (te:TE) (g:TG):TS:=fun D σ H => te σ H fun x H1 => g x σ H1 D.nx
theorem F4 {i:Nat} {x:Str} {e:Expr} {te:TE} {pos':Pos} (hN:X.N.Nodup) (hi:X.N[i]? = some x) (hx:Loc X.env.scope x) (he:PE X e te) (hs:swapsWith e (some (.Name x pos')) pos.line X.env = pure false:=by rfl) (hf:X.fn x = true ∨ X.env.scope.names.lookup x = some .local:=by first | exact .inl rfl | exact .inr rfl | assumption) :
  PS X (.Assign [.Name x pos'] e pos) (F3 te (tK i)):=by
 intro pins s σ H D I h
 refine wpAny_Assign_Name (c_ (he pins s σ H _ I h) fun v s1 ⟨y,H1,I1,r1,q1⟩ => ?_) hs
 exact i_ I1 hN hi hx r1 (fun s2 I2 => ⟨_,H1,I2,q1⟩) hf
noncomputable def M6 (i j:Nat) (ta:TA):TS:=fun D σ H => ta σ H fun vs H1 => ∃ v w,vs = [v,w] ∧ D.nx ((σ.set i (some v)).set j (some w)) H1
theorem F5 {i j:Nat} {x y:Str} {a b:Expr} {ta:TA} {px py pt:Pos} {kt k2 F6} (hc:X.calm = true) (hN:X.N.Nodup) (hi:X.N[i]? = some x) (hj:X.N[j]? = some y) (F7:i ≠ j)
  (hx:X.env.scope.names.lookup x = some .local) (hy:X.env.scope.names.lookup y = some .local) (ha:PA X [a,b] ta)
  (hw:swappedStores [.Tuple [.Name x px,.Name y py] kt pt] (.Tuple [a,b] k2 F6) X.env = pure (some [x,y]))
  (hs:swapsWithSole [.Tuple [.Name x px,.Name y py] kt pt] (.Tuple [a,b] k2 F6) pos.line X.env = pure false:=by rfl) :
  PS X (.Assign [.Tuple [.Name x px,.Name y py] kt pt] (.Tuple [a,b] k2 F6) pos) (M6 i j ta):=by
 intro pins s σ H D I h
 rw [exec_Assign_arm]
 refine wpAny_bind (wpAny_standAt ?_)
 rw [hs]
 refine wpAny_bind (wpAny_pure ?_)
 rw [if_neg (by decide)]
 refine wpAny_bind (Tuple_ (c_ (ha _ pins s σ H _ I h) fun us s1 ⟨vs,H1,I1,r1,q1⟩ => ?_))
 obtain ⟨v,w,e1,q1⟩:=q1
 subst e1
 obtain ⟨u1,u2,rfl,rv,tM⟩:∃ u1 u2,us = [u1,u2] ∧ RelV v u1 ∧ RelV w u2:=by
  cases r1 with
  | cons p q =>
   cases q with
   | cons p' q' =>
    cases q'
    exact ⟨_,_,rfl,p,p'⟩
 refine wpAny_newObj_type ?_ (by show 2 ≤ sizeLine; decide)
 have I2:Inv X pins σ H1 { s1 with heap:=s1.heap.push { cls:=.type "tuple",data:=.seq [u1,u2].toArray } }:=I1.kept (t':=s1.toks) fun b o e => Heap.get?_push_of_some _ e
 rw [hw]
 refine wpAny_bind (wpAny_pure ?_)
 show wpAny (model X.prog X.w) X.A (do rule "assign.swapped-stores"; let items ← unpackItems (.ref s1.heap.objs.size) 2 none; assignInOrder [fun v => bindName X.env y v,fun v => bindName X.env x v] items.reverse; pure Flow.next) _ _ _
 refine wpAny_bind (wpAny_rule (wpAny_bind (unpackItems_tuple (items:=#[u1,u2]) (I.ok.hd hc) (IsTup.new s1.heap _) fun h' Jo => ?_)))
 have I3:=I2.kept (h':=h') (t':=s1.toks) fun b o e => Jo b o (Nat.ne_of_lt (Heap.lt_size e)) e
 show wpAny _ _ (assignInOrder [fun v => bindName X.env y v,fun v => bindName X.env x v] [u2,u1] >>= fun _ => pure Flow.next) _ _ _
 refine wpAny_bind (assignInOrder_cons (wpAny_bindName (i_ I3 hN hj (.inl hy) tM (fun s2 I4 => ?_) (.inr hy))))
 refine assignInOrder_cons (wpAny_bindName (i_ I4 hN hi (.inl hx) rv (fun s3 I5 => assignInOrder_nil (wpAny_pure ?_)) (.inr hx)))
 rw [List.set_comm _ _ (Ne.symm F7)] at I5
 exact ⟨_,H1,I5,q1⟩
end
section
variable {X:Cx} {pos:Pos}
noncomputable def F8 (c:TT) (tb:TS):TS:=fun D σ H => ∃ W:Nat → St → Hp → Prop,(∃ m,W m σ H) ∧ ∀ m σ H,W m σ H →
 c σ H fun b H1 => if b = true then ∃ N:St → Hp → Prop,(∀ σ' H',N σ' H' → ∃ m',m' < m ∧ W m' σ' H') ∧ tb { D with nx:=N,ct:=N,bk:=D.nx } σ H1 else D.nx σ H1
theorem zN {c:Expr} {body:List Stmt} {tc:TT} {tb:TS} (hp:PassesOwn (model X.prog X.w) X.A X.env X.xe) (hc:PT X c tc) (hb:ja X body tb):PS X (.While c body [] pos) (F8 tc tb):=by
 intro pins s σ H D I h
 obtain ⟨W,⟨m0,w0⟩,turn⟩:=h
 refine wpAny_While (codeAny_whileLoop (fun n s' => ∃ σ' H',Inv X pins σ' H' s' ∧ W n σ' H') ?_ m0 ⟨σ,H,I,w0⟩)
 rintro n s1 ⟨σ1,H1,I1,w1⟩
 refine wpAny_passesOwn hp (c_ (hc pins s1 σ1 H1 _ I1 (turn n σ1 H1 w1)) fun b s2 ⟨H2,I2,q2⟩ => ?_)
 cases b with
 | true =>
  obtain ⟨N,hN,q2⟩:=q2
  rw [if_pos rfl]
  refine wpAny_passesOwn hp (c_ (hb pins s2 σ1 H2 _ I2 q2) fun f s3 q3 => ?_)
  cases f with
  | next =>
   obtain ⟨σ3,H3,I3,n3⟩:=q3
   obtain ⟨m',hm,w3⟩:=hN σ3 H3 n3
   exact ⟨m',hm,σ3,H3,I3,w3⟩
  | cont =>
   obtain ⟨σ3,H3,I3,n3⟩:=q3
   obtain ⟨m',hm,w3⟩:=hN σ3 H3 n3
   exact ⟨m',hm,σ3,H3,I3,w3⟩
  | brk => exact q3
  | ret v => exact q3
 | false =>
  rw [if_neg Bool.false_ne_true]
  exact wpAny_execs_nil ⟨σ1,H2,I2,q2⟩
end
structure It where
 go:Nat → Hp → Prop
 Jp:Nat → Hp → V → Hp → Prop
 stop:Nat → Hp → Prop
noncomputable def p7 (X:Cx) (pins:List (Addr × Obj)) (H:Hp) (b:Addr):Prop :=
 H b = none ∧ b ≠ X.env.locals ∧ b ∉ X.fs ∧ (b ∈ X.ex ∨ X.s₀.heap.objs.size ≤ b) ∧ (∀ x c,X.env.cells.lookup x = some c → c ≠ b) ∧ ∀ p ∈ X.pn ++ pins,p.1 ≠ b
theorem Inv.zO {X:Cx} {pins:List (Addr × Obj)} {σ:St} {H H':Hp} {s:Shared} {b:Addr} (I:Inv X pins σ H s) (hb:s.heap.objs.size ≤ b) (hn:H' b = none):p7 X pins H' b:=by
 refine ⟨hn,Nat.ne_of_gt (Nat.lt_of_lt_of_le I.lt hb),I.MK hb,.inr (Nat.le_trans I.sz hb),fun x c e z => ?_,fun p hp z => ?_⟩
 ·obtain ⟨v,q⟩:=I.cell x c e
  exact absurd (Nat.lt_of_lt_of_le q.lt (by rw [z]; exact hb)) (Nat.lt_irrefl _)
 ·exact absurd (Nat.lt_of_lt_of_le (Heap.lt_size (I.pin p hp).1) (by rw [z]; exact hb)) (Nat.lt_irrefl _)
structure Turn (P:Program) (w:World) (K:PySem.W.Frag) (tg:Expr) (J:It) (fp:List Addr) (it:Addr) (tn:Nat → Heap → Prop):Prop where
 mem:it ∈ fp
 obj:∀ i h,tn i h → ∀ b ∈ fp,∃ o,h.get? b = some o ∧ ∀ v,o.data ≠ .cell v
 keep:∀ i h h',tn i h → (∀ b ∈ fp,∀ o,h.get? b = some o → h'.get? b = some o) → tn i h'
 item:∀ (X:Cx),X.prog = P → X.w = w → X.K = K → X.calm = true → ∀ (i:Nat) (pins:List (Addr × Obj)) (s:Shared) (σ:St) (H:Hp) (E:Value → Shared → Prop),Inv X pins σ H s → (∀ b ∈ fp,p7 X pins H b) → tn i s.heap → J.go i H →
  wpAny (model P w) X.A (pyNext (.ref it)) (fun r s1 => ∃ u,r = some u ∧
   wpAny (model P w) X.A (letOwnedTupleGo tg (.ref it) u) (fun _ s2 => ∃ x H',Inv X pins σ H' s2 ∧ RelV x u ∧ J.Jp i H x H' ∧ tn (i + 1) s2.heap ∧ ∀ b ∈ fp,H' b = none) E s1) E s
 done:∀ (X:Cx),X.prog = P → X.w = w → X.K = K → X.calm = true → ∀ (i:Nat) (pins:List (Addr × Obj)) (s:Shared) (σ:St) (H:Hp) (E:Value → Shared → Prop),Inv X pins σ H s → (∀ b ∈ fp,p7 X pins H b) → tn i s.heap → J.stop i H →
  wpAny (model P w) X.A (pyNext (.ref it)) (fun r s1 => r = none ∧ Inv X pins σ H s1) E s
 self:∀ (A:Around) (i:Nat) (s:Shared) (Q:Value → Shared → Prop) (E:Value → Shared → Prop),tn i s.heap → Q (.ref it) s → wpAny (model P w) A (pyIter (.ref it)) Q E s
noncomputable abbrev TI:=St → Hp → (It → Hp → Prop) → Prop
noncomputable def M7 (X:Cx) (pins:List (Addr × Obj)) (σ:St) (tg:Expr) (R:It → Hp → Prop) (LM:Value) (s2:Shared):Prop :=
 ∃ (it:Addr) (fp:List Addr) (tn:Nat → Heap → Prop) (J:It) (H':Hp),LM = .ref it ∧ Inv X pins σ H' s2 ∧ Turn X.prog X.w X.K tg J fp it tn ∧ tn 0 s2.heap ∧ (∀ b ∈ fp,p7 X pins H' b) ∧ R J H'
noncomputable def PI (X:Cx) (tg iter:Expr) (wi:TI):Prop :=
 ∀ (pins:List (Addr × Obj)) (s:Shared) (σ:St) (H:Hp) (R:It → Hp → Prop),Inv X pins σ H s → wi σ H R →
  wpAny (model X.prog X.w) X.A (eval iter X.env) (fun v s1 => wpAny (model X.prog X.w) X.A (pyIter v) (M7 X pins σ tg R) X.xe s1) X.xe s
theorem wQ {M:Model} {A:Around} {E:Value → Shared → Prop} {s:Shared} {tg:Expr} {it:Addr} {u:Value} {o:Obj} {n:String} {vs:Array Value} {Q:Unit → Shared → Prop} (ho:s.heap.get? it = some o) (hc:o.cls = .type n) (hd:o.data = .fields vs)
    (hn:["enumerate","zip","dict_itemiterator","dict_reverseitemiterator","odict_iterator","itertools.zip_longest","itertools.pairwise"].contains n = false) (hQ:Q () s):wpAny M A (letOwnedTupleGo tg (.ref it) u) Q E s:=by
  unfold letOwnedTupleGo
  cases tg <;> first
    | exact wpAny_pure hQ
    | (cases u <;> first
        | exact wpAny_pure hQ
        | (refine wpAny_bind (wpAny_load ho ?_)
           rw [hc,hd]
           show wpAny M A (if (["enumerate","zip","dict_itemiterator","dict_reverseitemiterator","odict_iterator","itertools.zip_longest","itertools.pairwise"].contains n && vs[0]? == some (rawInt _)) = true then _ else _) Q E s
           rw [if_neg (by intro h; rw [hn,Bool.false_and] at h; cases h)]
           exact wpAny_pure hQ))
noncomputable def M8 (K:PySem.W.Frag) (a:Addr):It :=
 ⟨fun i H => ∃ xs x,mV K H a xs ∧ xs[i]? = some x,fun i H x H' => H' = H ∧ ∀ xs,mV K H a xs → xs[i]? = some x,fun i H => ∃ xs,mV K H a xs ∧ xs.length ≤ i⟩
noncomputable def M9 (K:PySem.W.Frag) (a:Addr):It :=
 ⟨fun i H => ∃ xs x,jQ K H a xs ∧ xs[i]? = some x,fun i H x H' => H' = H ∧ ∀ xs,jQ K H a xs → xs[i]? = some x,fun i H => ∃ xs,jQ K H a xs ∧ xs.length ≤ i⟩
noncomputable def Jq (lo:Int) (n:Nat):It:=⟨fun i _ => i < n,fun i H x H' => H' = H ∧ x = .int (lo + i),fun i _ => n ≤ i⟩
theorem x_ {P:Program} {w:World} {K:PySem.W.Frag} {tg:Expr} (a it:Addr):Turn P w K tg (M8 K a) [it] it (fun i h => h.IsListIter it a i) where
 mem:=by simp
 obj:=fun i h st b hb => by
  have e:b = it:=by simpa using hb
  subst e
  obtain ⟨o,e,c,d⟩:=st
  exact ⟨o,e,fun v z => by rw [d] at z; cases z⟩
 keep:=fun i h h' st k => st.at fun o e => k it (by simp) o e
 item:=by
  intro X hP hw hK hc i pins s σ H E I hf st hg
  subst hP hw hK
  obtain ⟨xs,x,hq,hx⟩:=hg
  obtain ⟨aN,rv,p,hz⟩:=I.list hq
  obtain ⟨u,hu,ru⟩:=rv.get hx
  obtain ⟨f0,f1,f2,f3,f4,f5⟩:=hf it (by simp)
  refine wpAny_pyNext_list_item st p.isList (x:=u) (by simpa using hu) fun h' av sb => ?_
  have I1:Inv X pins σ H { s with heap:=h' }:=I.turned (t':=s.toks) (fun b o hb e => (sb.2 b hb).trans e) f0 f1 f3 f4 f5
  obtain ⟨o,e,c,d⟩:=id av
  exact ⟨u,rfl,wQ (s:={ s with heap:=h' }) e c d (by decide) ⟨x,H,I1,ru,⟨rfl,fun ys hy => by rw [I.oo hy hq]; exact hx⟩,av,fun b hb => (hf b hb).1⟩⟩
 done:=by
  intro X hP hw hK hc i pins s σ H E I hf st hg
  subst hP hw hK
  obtain ⟨xs,hq,hx⟩:=hg
  obtain ⟨aN,rv,p,hz⟩:=I.list hq
  obtain ⟨f0,f1,f2,f3,f4,f5⟩:=hf it (by simp)
  have hl:=rv.length
  exact wpAny_pyNext_list_end (I.ok.hd hc) st p.isList (by simp; lia) fun h' eb => ⟨rfl,I.turned (t':=s.toks) (fun b o hb e => eb b o hb e) f0 f1 f3 f4 f5⟩
 self:=fun _ _ _ _ _ st h => wpAny_pyIter_listiter st h
theorem vC {P:Program} {w:World} {K:PySem.W.Frag} {tg:Expr} (a it:Addr):Turn P w K tg (M9 K a) [it] it (fun i h => h.IsTupleIter it a i) where
 mem:=by simp
 obj:=fun i h st b hb => by
  have e:b = it:=by simpa using hb
  subst e
  obtain ⟨o,e,c,d⟩:=st
  exact ⟨o,e,fun v z => by rw [d] at z; cases z⟩
 keep:=fun i h h' st k => st.at fun o e => k it (by simp) o e
 item:=by
  intro X hP hw hK hc i pins s σ H E I hf st hg
  subst hP hw hK
  obtain ⟨xs,x,hq,hx⟩:=hg
  obtain ⟨aN,rv,p,hz⟩:=I.tuple hq
  obtain ⟨u,hu,ru⟩:=rv.get hx
  obtain ⟨f0,f1,f2,f3,f4,f5⟩:=hf it (by simp)
  refine wpAny_pyNext_tuple_item st (show s.heap.IsTuple a aN.toArray from p) (x:=u) (by simpa using hu) fun h' av sb => ?_
  have I1:Inv X pins σ H { s with heap:=h' }:=I.turned (t':=s.toks) (fun b o hb e => (sb.2 b hb).trans e) f0 f1 f3 f4 f5
  obtain ⟨o,e,c,d⟩:=id av
  exact ⟨u,rfl,wQ (s:={ s with heap:=h' }) e c d (by decide) ⟨x,H,I1,ru,⟨rfl,fun ys hy => by rw [I.lE hy hq]; exact hx⟩,av,fun b hb => (hf b hb).1⟩⟩
 done:=by
  intro X hP hw hK hc i pins s σ H E I hf st hg
  subst hP hw hK
  obtain ⟨xs,hq,hx⟩:=hg
  obtain ⟨aN,rv,p,hz⟩:=I.tuple hq
  obtain ⟨f0,f1,f2,f3,f4,f5⟩:=hf it (by simp)
  have hl:=rv.length
  exact wpAny_pyNext_tuple_end (I.ok.hd hc) st (show s.heap.IsTuple a aN.toArray from p) (by simp; lia) fun h' eb => ⟨rfl,I.turned (t':=s.toks) (fun b o hb e => eb b o hb e) f0 f1 f3 f4 f5⟩
 self:=fun _ _ _ _ _ st h => wpAny_pyIter_tupleiter st h
theorem vD {P:Program} {w:World} {K:PySem.W.Frag} {tg:Expr} (it:Addr) (lo:Int) (n:Nat):Turn P w K tg (Jq lo n) [it] it (fun i h => IsRangeIter h it (lo + (i:Nat) * 1) ((n:Int) - (i:Nat)) 1) where
 mem:=by simp
 obj:=fun i h st b hb => by
  have e:b = it:=by simpa using hb
  subst e
  exact ⟨_,st,fun v z => by
   have z':Data.fields _ = Data.cell v:=z
   cases z'⟩
 keep:=fun i h h' st k => k it (by simp) _ st
 item:=by
  intro X hP hw hK hc i pins s σ H E I hf st hg
  subst hP hw hK
  obtain ⟨f0,f1,f2,f3,f4,f5⟩:=hf it (by simp)
  have W:=Walks.range (prog:=X.prog) (w:=X.w) (I.ok.hd hc) it lo 1 n
  refine W.item i s _ _ hg st fun v h' tk hv av kk => ?_
  obtain ⟨t,rfl⟩:=hv
  have I1:Inv X pins σ H { s with heap:=h',toks:=tk }:=I.turned (fun b o hb e => kk b o (by simpa using hb) e) f0 f1 f3 f4 f5
  refine ⟨_,rfl,wQ (s:={ s with heap:=h',toks:=tk }) (n:="range_iterator") av rfl rfl (by decide) ⟨.int (lo + i),H,I1,⟨t,?_⟩,⟨rfl,rfl⟩,av,fun b hb => (hf b hb).1⟩⟩
  rw [Int.mul_one]
 done:=by
  intro X hP hw hK hc i pins s σ H E I hf st hg
  subst hP hw hK
  obtain ⟨f0,f1,f2,f3,f4,f5⟩:=hf it (by simp)
  exact wpAny_pyNext_range_end (I.ok.hd hc) st (by have:n ≤ i:=hg; lia) fun h' eb => ⟨rfl,I.turned (t':=s.toks) (fun b o hb e => eb b o hb e) f0 f1 f3 f4 f5⟩
 self:=fun _ _ _ _ _ st h => wpAny_pyIter_rangeiter st h
end L2
namespace L2
open PySem PySem.Spec PyProof.Rows
section
variable {X:Cx} {tg:Expr}
theorem tN {pins:List (Addr × Obj)} {σ:St} {H:Hp} {s:Shared} {R:It → Hp → Prop} {E:Value → Shared → Prop} {lo hi:Int} {t u v:Tok} {tk:Nat} (I:Inv X pins σ H s) (h1:-(2 ^ 62) ≤ lo) (h2:lo < 2 ^ 62) (h3:-(2 ^ 62) ≤ hi) (h4:hi < 2 ^ 62)
  (q:R (Jq lo (hi - lo).toNat) H):wpAny (model X.prog X.w) X.A (pyIter (.ref s.heap.objs.size)) (M7 X pins σ tg R) E { s with heap:=s.heap.push { cls:=.type "range",data:=.fields #[.int lo t,.int hi u,.int 1 v] },toks:=tk }:=by
 refine wpAny_pyIter_range (IsRange.new ..) (small_one h1 h2 h3 h4) ?_
 have I1:Inv X pins σ H { s with heap:=s.heap.push { cls:=.type "range",data:=.fields #[.int lo t,.int hi u,.int 1 v] },toks:=tk }:=I.kept fun b o e => Heap.get?_push_of_some _ e
 refine ⟨(s.heap.push { cls:=.type "range",data:=.fields #[.int lo t,.int hi u,.int 1 v] }).objs.size,[(s.heap.push { cls:=.type "range",data:=.fields #[.int lo t,.int hi u,.int 1 v] }).objs.size],_,_,H,rfl,
  I1.kept (t':=tk) fun b o e => Heap.get?_push_of_some _ e,vD _ lo (hi - lo).toNat,?_,fun b hb => ?_,q⟩
 ·have e1:lo + ((0:Nat):Int) * 1 = lo:=by simp
  have e2:(((hi - lo).toNat:Nat):Int) - ((0:Nat):Int) = Builtin.Range.rangeSize lo hi 1:=by rw [rangeSize_one]; split <;> lia
  show IsRangeIter _ _ (lo + ((0:Nat):Int) * 1) ((((hi - lo).toNat:Nat):Int) - ((0:Nat):Int)) 1
  rw [e1,e2]
  exact Heap.get?_push_size _ rfl
 ·have e:b = (s.heap.push { cls:=.type "range",data:=.fields #[.int lo t,.int hi u,.int 1 v] }).objs.size:=by simpa using hb
  subst e
  exact I1.zO (Nat.le_refl _) (I1.bK.fresh (Nat.le_refl _))
noncomputable def Jr (ta:TA):TI:=fun σ H R => ta σ H fun vs H1 => ∃ j:Int,vs = [.int j] ∧ -(2 ^ 62) ≤ j ∧ j < 2 ^ 62 ∧ R (Jq 0 j.toNat) H1
noncomputable def Js (ta:TA):TI:=fun σ H R => ta σ H fun vs H1 => ∃ i j:Int,vs = [.int i,.int j] ∧ (-(2 ^ 62) ≤ i ∧ i < 2 ^ 62 ∧ -(2 ^ 62) ≤ j ∧ j < 2 ^ 62) ∧ R (Jq i (j - i).toNat) H1
theorem ya {a:Expr} {ta:TA} {p pos:Pos} (hg:Gl X "range") (hm:X.mg "range" = none) (ha:PA X [a] ta) (hs:starEach [a] X.env = [(false,eval a X.env)]:=by rfl):PI X tg (.Call (.Name "range" p) [a] [] pos) (Jr ta):=by
 intro pins s σ H R I h
 refine Call_ (jb I hg hm boot_range (PyProof.Rows.callWith_type1 (c_ (ha pos pins s σ H _ I h) fun us s1 ⟨vs,H1,I1,r1,q1⟩ => ?_) hs rfl))
 obtain ⟨j,e,q1,q2,q⟩:=q1
 subst e
 cases r1 with
 | cons r rr =>
  cases rr
  obtain ⟨t,rfl⟩:=r
  exact call_range_1 (tN I1 (by lia) (by lia) q1 q2 (by simpa using q))
theorem yb {a b:Expr} {ta:TA} {p pos:Pos} (hg:Gl X "range") (hm:X.mg "range" = none) (ha:PA X [a,b] ta) (hs:starEach [a,b] X.env = [(false,eval a X.env),(false,eval b X.env)]:=by rfl) (hR:starEach [b] X.env = [(false,eval b X.env)]:=by rfl) :
  PI X tg (.Call (.Name "range" p) [a,b] [] pos) (Js ta):=by
 intro pins s σ H R I h
 refine Call_ (jb I hg hm boot_range (PyProof.Rows.callWith_type1 (c_ (ha pos pins s σ H _ I h) fun us s1 ⟨vs,H1,I1,r1,q1⟩ => ?_) (by rw [hs,hR]) (by rw [hR]; rfl)))
 obtain ⟨i,j,e,⟨q1,q2,q3,q4⟩,q⟩:=q1
 subst e
 cases r1 with
 | cons r rr =>
  cases rr with
  | cons r' rr =>
   cases rr
   obtain ⟨t,rfl⟩:=r
   obtain ⟨t',rfl⟩:=r'
   exact call_range_2 (tN I1 q1 q2 q3 q4 q)
noncomputable def M_ (wi:TI) (g:TG) (tb:TS):TS:=fun D σ H => wi σ H fun J H1 => ∃ W:Nat → Nat → St → Hp → Prop,(∃ m,W 0 m σ H1) ∧ ∀ i m σ H,W i m σ H →
 (J.stop i H ∧ D.nx σ H) ∨ (J.go i H ∧ ∃ N:St → Hp → Prop,(∀ σ' H',N σ' H' → ∃ m',m' < m ∧ W (i + 1) m' σ' H') ∧ ∀ x H',J.Jp i H x H' → g x σ H' fun σ2 H2 => tb { D with nx:=N,ct:=N,bk:=D.nx } σ2 H2)
noncomputable def oq (fp:List Addr) (h:Heap):List (Addr × Obj):=fp.filterMap fun b => (h.get? b).map fun o => (b,o)
theorem iz {fp:List Addr} {h:Heap} {b:Addr} {o:Obj} (hb:b ∈ fp) (e:h.get? b = some o):(b,o) ∈ oq fp h:=List.mem_filterMap.mpr ⟨b,hb,by rw [e]; rfl⟩
theorem yc {fp:List Addr} {h:Heap} {p:Addr × Obj} (hp:p ∈ oq fp h):p.1 ∈ fp ∧ h.get? p.1 = some p.2:=by
 obtain ⟨b,hb,e⟩:=List.mem_filterMap.mp hp
 cases q:h.get? b with
 | none => rw [q] at e; cases e
 | some o =>
  rw [q] at e
  have e':(b,o) = p:=Option.some.inj e
  subst e'
  exact ⟨hb,q⟩
theorem Inv.pinned {pins:List (Addr × Obj)} {σ:St} {H:Hp} {s:Shared} {fp:List Addr} (I:Inv X pins σ H s) (hf:∀ b ∈ fp,p7 X pins H b) (ho:∀ b ∈ fp,∃ o,s.heap.get? b = some o ∧ ∀ v,o.data ≠ .cell v):Inv X (pins ++ oq fp s.heap) σ H s :=
 I.nR fun p hp => (List.mem_append.mp hp).elim (fun z => I.pin p (List.mem_append_right _ z)) fun z => by
  obtain ⟨hb,e⟩:=yc z
  obtain ⟨f0,f1,f2,_⟩:=hf p.1 hb
  obtain ⟨o,e',d⟩:=ho p.1 hb
  rw [e] at e'; cases e'
  exact ⟨e,f0,f1,f2,d⟩
theorem Inv.ou {pins pl:List (Addr × Obj)} {σ:St} {H:Hp} {s:Shared} (I:Inv X (pins ++ pl) σ H s):Inv X pins σ H s:=I.nR fun p hp => I.pin p (List.mem_append_right _ (List.mem_append_left _ hp))
theorem F9 {iter:Expr} {body:List Stmt} {wi:TI} {g:TG} {tb:TS} {pos:Pos} (hp:PassesOwn (model X.prog X.w) X.A X.env X.xe) (hc:X.calm = true) (hi:PI X tg iter wi) (hg:PG X tg g) (hb:ja X body tb)
  (hs:∀ x,foldedSetIterable iter X.env x = pure x:=by intro _; rfl):PS X (.For tg iter body [] pos) (M_ wi g tb):=by
 intro pins s σ H D I h
 refine wpAny_For (c_ (hi pins s σ H _ I h) fun v s1 h1 => c_ h1 fun LM s2 h2 => ?_) hs
 obtain ⟨it,fp,tn,J,H2,e,I2,T,cI,f2,W,⟨m0,w0⟩,turn⟩:=h2
 subst e
 -- Jt stays true of IE F_ objects through IE loop
 have vE:∀ {H':Hp},(∀ b ∈ fp,H' b = none) → ∀ b ∈ fp,p7 X pins H' b:=fun hn b hb => ⟨hn b hb,(f2 b hb).2⟩
 refine codeAny_forLoop_any (fun n s' => ∃ i σ' H',Inv X pins σ' H' s' ∧ tn i s'.heap ∧ (∀ b ∈ fp,H' b = none) ∧ W i n σ' H') ?_ m0 ⟨0,σ,H2,I2,cI,fun b hb => (f2 b hb).1,w0⟩
 rintro n s3 ⟨i,σ3,H3,I3,lu,Ju,w3⟩
 rcases turn i n σ3 H3 w3 with ⟨stop,qn⟩ | ⟨go,N,hN,step⟩
 ·refine wpAny_passesOwn hp (c_ (T.done X rfl rfl rfl hc i pins s3 σ3 H3 X.xe I3 (vE Ju) lu stop) fun r s4 ⟨hr,I4⟩ => ?_)
  subst hr
  exact wpAny_execs_nil ⟨σ3,H3,I4,qn⟩
 ·refine wpAny_passesOwn hp (c_ (T.item X rfl rfl rfl hc i pins s3 σ3 H3 X.xe I3 (vE Ju) lu go) fun r s4 ⟨u,hr,h4⟩ => ?_)
  subst hr
  refine wpAny_passesOwn hp (c_ h4 fun _ s5 ⟨x,H5,I5,r5,y5,Ga,Na⟩ => ?_)
  have Nb:=I5.pinned (vE Na) (T.obj _ _ Ga)
  refine wpAny_passesOwn hp (c_ (hg _ s5 σ3 H5 x u _ Nb r5 (step x H5 y5)) fun _ s6 ⟨σ6,H6,I6,q6⟩ => ?_)
  refine wpAny_passesOwn hp (c_ (hb _ s6 σ6 H6 _ I6 q6) fun f s7 q7 => ?_)
  have again:∀ {σ7:St} {H7:Hp},Inv X (pins ++ oq fp s5.heap) σ7 H7 s7 → N σ7 H7 → ∃ m,m < n ∧ ∃ i σ' H',Inv X pins σ' H' s7 ∧ tn i s7.heap ∧ (∀ b ∈ fp,H' b = none) ∧ W i m σ' H':=fun {σ7 H7} I7 n7 => by
   obtain ⟨m',hm,w7⟩:=hN σ7 H7 n7
   refine ⟨m',hm,i + 1,σ7,H7,I7.ou,T.keep _ _ _ Ga fun b hb o e => (I7.pin (b,o) (List.mem_append_right _ (List.mem_append_right _ (iz hb e)))).1,fun b hb => ?_,w7⟩
   obtain ⟨o,e,d⟩:=T.obj _ _ Ga b hb
   exact (I7.pin (b,o) (List.mem_append_right _ (List.mem_append_right _ (iz hb e)))).2.1
  cases f with
  | next => obtain ⟨σ7,H7,I7,n7⟩:=q7; exact again I7 n7
  | cont => obtain ⟨σ7,H7,I7,n7⟩:=q7; exact again I7 n7
  | brk => obtain ⟨σ7,H7,I7,q7⟩:=q7; exact ⟨σ7,H7,I7.ou,q7⟩
  | ret v => obtain ⟨x7,σ7,H7,I7,r7,q7⟩:=q7; exact ⟨x7,σ7,H7,I7.ou,r7,q7⟩
end
end L2
namespace L2
open PySem PySem.Spec PyProof.Rows
noncomputable abbrev R2:=V → V → Hp → VK → Prop
noncomputable def eQ (X:Cx) (f:Value → Value → Sem Value) (r:R2):Prop :=
 ∀ (pins:List (Addr × Obj)) (s:Shared) (σ:St) (H:Hp) (x y:V) (v u:Value) (Q:VK),Inv X pins σ H s → RelV x v → RelV y u → r x y H Q →
  wpAny (model X.prog X.w) X.A (f v u) (EP X pins σ Q) X.xe s
noncomputable def Nc (X:Cx) (f:Value → Sem Value) (r:V → Hp → VK → Prop):Prop :=
 ∀ (pins:List (Addr × Obj)) (s:Shared) (σ:St) (H:Hp) (x:V) (v:Value) (Q:VK),Inv X pins σ H s → RelV x v → r x H Q →
  wpAny (model X.prog X.w) X.A (f v) (EP X pins σ Q) X.xe s
noncomputable def cJ (X:Cx) (f:Value) (r:List V → Hp → VK → Prop):Prop :=
 ∀ (pins:List (Addr × Obj)) (s:Shared) (σ:St) (H:Hp) (xs:List V) (us:List Value) (Q:VK),Inv X pins σ H s → Vals xs us → r xs H Q →
  wpAny (model X.prog X.w) X.A (call f us) (EP X pins σ Q) X.xe s
noncomputable def IG (r:R2) (ta tb:TE):TE:=fun σ H Q => ta σ H fun x H1 => tb σ H1 fun y H2 => r x y H2 Q
noncomputable def Um (r:V → Hp → VK → Prop) (ta:TE):TE:=fun σ H Q => ta σ H fun x H1 => r x H1 Q
noncomputable def rI (C:Int → Int → Prop) (g:Int → Int → V):R2:=fun x y H Q => ∃ i j,x = .int i ∧ y = .int j ∧ C i j ∧ Q (g i j) H
noncomputable def Gb (g:Int → Int → V):R2:=fun x y H Q => ∃ i j,x = .int i ∧ y = .int j ∧ Q (g i j) H
noncomputable def rU (g:Int → V):V → Hp → VK → Prop:=fun x H Q => ∃ i,x = .int i ∧ Q (g i) H
section
variable {X:Cx} {a b c:Expr} {ta tb tc:TE} {pos:Pos}
theorem Gd (ha:PE X a ta) (hb:PE X b tb) {pins:List (Addr × Obj)} {s:Shared} {σ:St} {H:Hp} {R:V → V → Hp → Prop} (I:Inv X pins σ H s)
  (h:ta σ H fun x H1 => tb σ H1 fun y H2 => R x y H2) {Q:Value → Shared → Prop} {f:Value → Value → Sem Value}
  (hf:∀ v u s2 x y H2,Inv X pins σ H2 s2 → RelV x v → RelV y u → R x y H2 → wpAny (model X.prog X.w) X.A (f v u) Q X.xe s2) :
  wpAny (model X.prog X.w) X.A (eval a X.env) (fun v s₁ => wpAny (model X.prog X.w) X.A (eval b X.env) (fun u s₂ => wpAny (model X.prog X.w) X.A (f v u) Q X.xe s₂) X.xe s₁) X.xe s:=by
 refine c_ (ha pins s σ H _ I h) fun v s1 ⟨x,H1,I1,r1,q1⟩ => ?_
 refine c_ (hb pins s1 σ H1 _ I1 q1) fun u s2 ⟨y,H2,I2,r2,q2⟩ => ?_
 exact hf v u s2 x y H2 I2 r1 r2 q2
theorem Jv {op:Operator} {r:R2} (ho:eQ X (binaryOp op) r) (ha:PE X a ta) (hb:PE X b tb):PE X (.BinOp a op b pos) (IG r ta tb):=by
 intro pins s σ H Q I h
 exact wpAny_BinOp (Gd ha hb I h fun v u s2 x y H2 I2 rx ry q => ho pins s2 σ H2 x y v u Q I2 rx ry q)
theorem Jw {op:UnaryOp} {r:V → Hp → VK → Prop} (ho:Nc X (unaryOp op) r) (ha:PE X a ta):PE X (.UnaryOp op a pos) (Um r ta):=by
 intro pins s σ H Q I h
 exact UnaryOp_ (c_ (ha pins s σ H _ I h) fun v s1 ⟨x,H1,I1,r1,q1⟩ => ho pins s1 σ H1 x v Q I1 r1 q1)
theorem IH {f:Value → Value → Sem Value} {C:Int → Int → Prop} {g:Int → Int → Int}
  (rule:∀ (i j:Int) (t u:Tok) (s:Shared) (Q:Value → Shared → Prop) (E:Value → Shared → Prop),C i j → Q (.int (g i j) s.toks) { s with toks:=s.toks + 1 } → wpAny (model X.prog X.w) X.A (f (.int i t) (.int j u)) Q E s) :
  eQ X f (rI C fun i j => .int (g i j)):=by
 intro pins s σ H x y v u Q I rx ry h
 obtain ⟨i,j,rfl,rfl,hc,q⟩:=h
 obtain ⟨t,rfl⟩:=rx
 obtain ⟨t',rfl⟩:=ry
 exact rule i j t t' s _ _ hc ⟨.int (g i j),H,I.tok _,⟨_,rfl⟩,q⟩
theorem Ge {f:Value → Value → Sem Value} {g:Int → Int → Int}
  (rule:∀ (i j:Int) (t u:Tok) (s:Shared) (Q:Value → Shared → Prop) (E:Value → Shared → Prop),Q (.int (g i j) s.toks) { s with toks:=s.toks + 1 } → wpAny (model X.prog X.w) X.A (f (.int i t) (.int j u)) Q E s) :
  eQ X f (Gb fun i j => .int (g i j)):=by
 intro pins s σ H x y v u Q I rx ry h
 obtain ⟨i,j,rfl,rfl,q⟩:=h
 obtain ⟨t,rfl⟩:=rx
 obtain ⟨t',rfl⟩:=ry
 exact rule i j t t' s _ _ ⟨.int (g i j),H,I.tok _,⟨_,rfl⟩,q⟩
theorem Jx {f:Value → Value → Sem Value} {g:Int → Int → Bool}
  (rule:∀ (i j:Int) (t u:Tok) (s:Shared) (Q:Value → Shared → Prop) (E:Value → Shared → Prop),Q (.bool (g i j)) s → wpAny (model X.prog X.w) X.A (f (.int i t) (.int j u)) Q E s) :
  eQ X f (Gb fun i j => .bl (g i j)):=by
 intro pins s σ H x y v u Q I rx ry h
 obtain ⟨i,j,rfl,rfl,q⟩:=h
 obtain ⟨t,rfl⟩:=rx
 obtain ⟨t',rfl⟩:=ry
 exact rule i j t t' s _ _ ⟨.bl (g i j),H,I,rfl,q⟩
noncomputable def zP (i j:Int):Prop:=0 ≤ j ∧ j ≤ 1000000 ∧ i.natAbs < 2 ^ 64
noncomputable def zQ (i j:Int):Prop:=(-(2 ^ 64) < i ∧ i < 2 ^ 64) ∨ (-(2 ^ 64) < j ∧ j < 2 ^ 64)
theorem zQ.ok {i j:Int} (h:zQ i j):IntMulOk i j:=by
 rcases h with ⟨h1,h2⟩ | ⟨h1,h2⟩
 ·exact .of_left (intBits_le_64 h1 h2)
 ·exact .of_right (intBits_le_64 h1 h2)
theorem vF (k:Nat):(0:Int) ≤ 2 ^ k:=by
 rw [two_pow_cast]
 exact Int.natCast_nonneg _
theorem Gf:eQ X (binaryOp .Add) (Gb fun i j => .int (i + j)):=Ge fun _ _ _ _ _ _ _ q => add_int q
theorem Gg:eQ X (binaryOp .Sub) (Gb fun i j => .int (i - j)):=Ge fun _ _ _ _ _ _ _ q => sub_int q
theorem Gh:eQ X (binaryOp .Mult) (rI zQ fun i j => .int (i * j)):=IH fun _ _ _ _ _ _ _ hc q => mul_int q hc.ok
theorem CO:eQ X (binaryOp .Mod) (rI (fun _ j => j ≠ 0) fun i j => .int (i.fmod j)):=IH fun _ _ _ _ _ _ _ hc q => mod_int' hc q
theorem Gi:eQ X (binaryOp .Pow) (rI zP fun i j => .int (i ^ j.toNat)):=IH fun _ _ _ _ _ _ _ hc q => pow_int_small hc.1 hc.2.1 hc.2.2 q
theorem Gj:eQ X (binaryOp .RShift) (rI (fun _ j => 0 ≤ j) fun i j => .int (i / 2 ^ j.toNat)):=IH fun i j _ _ _ _ _ hc q =>
 rshift_int hc (by rw [Int.fdiv_eq_ediv_of_nonneg i (vF _)]; exact q)
theorem Gk:eQ X (binaryOp .BitAnd) (Gb fun i j => .int (Builtin.bitAnd i j)):=Ge fun _ _ _ _ _ _ _ q => and_int q
theorem Uo {f:Value → Sem Value} {g:Int → Int}
  (rule:∀ (i:Int) (t:Tok) (s:Shared) (Q:Value → Shared → Prop) (E:Value → Shared → Prop),Q (.int (g i) s.toks) { s with toks:=s.toks + 1 } → wpAny (model X.prog X.w) X.A (f (.int i t)) Q E s) :
  Nc X f (rU fun i => .int (g i)):=by
 intro pins s σ H x v Q I rx h
 obtain ⟨i,rfl,q⟩:=h
 obtain ⟨t,rfl⟩:=rx
 exact rule i t s _ _ ⟨.int (g i),H,I.tok _,⟨_,rfl⟩,q⟩
theorem Gm:Nc X (unaryOp .USub) (rU fun i => .int (-i)):=Uo fun _ _ _ _ _ q => neg_int q
end
section
variable {X:Cx} {a b c:Expr} {ta tb tc:TE} {pos:Pos}
theorem Jy:eQ X (compareOp .Lt) (Gb fun i j => .bl (decide (i < j))):=Jx fun _ _ _ _ _ _ _ q => lt_int q
theorem Jz:eQ X (compareOp .Gt) (Gb fun i j => .bl (decide (j < i))):=Jx fun _ _ _ _ _ _ _ q => gt_int q
theorem eQ.or {f:Value → Value → Sem Value} {r r':R2} (h:eQ X f r) (h':eQ X f r'):eQ X f (fun x y H Q => r x y H Q ∨ r' x y H Q):=by
 intro pins s σ H x y v u Q I rx ry q
 rcases q with q | q
 ·exact h pins s σ H x y v u Q I rx ry q
 ·exact h' pins s σ H x y v u Q I rx ry q
theorem zR (b:Expr) {op:CmpOp} (h:op ≠ .In:=by decide) (h2:op ≠ .NotIn:=by decide):behindInMarks op b = false:=by
 have e1:(op == CmpOp.In) = false:=by cases op <;> first | rfl | exact absurd rfl h
 have e2:(op == CmpOp.NotIn) = false:=by cases op <;> first | rfl | exact absurd rfl h2
 cases b <;> simp [behindInMarks,e1,e2]
theorem CP {op:CmpOp} {r:R2} (ho:eQ X (compareOp op) r) (ha:PE X a ta) (hb:PE X b tb) (hm:behindInMarks op b = false):PE X (.Compare a [op] [b] pos) (IG r ta tb):=by
 intro pins s σ H Q I h
 exact wpAny_Compare1 (Gd ha hb I h fun v u s2 x y H2 I2 rx ry q => ho pins s2 σ H2 x y v u Q I2 rx ry q) hm
noncomputable def JA (t:TE):TT:=fun σ H Q => t σ H fun x H' => ∃ k,x = .bl k ∧ Q k H'
theorem CQ {op:CmpOp} {r:R2} (ho:eQ X (compareOp op) r) (ha:PE X a ta) (hb:PE X b tb) (hm:behindInMarks op b = false):PT X (.Compare a [op] [b] pos) (JA (IG r ta tb)):=by
 intro pins s σ H Q I h
 refine wpAny_isTrue_Compare1 (c_ (ha pins s σ H _ I h) fun v s1 ⟨x,H1,I1,r1,q1⟩ => c_ (hb pins s1 σ H1 _ I1 q1) fun u s2 ⟨y,H2,I2,r2,q2⟩ =>
  c_ (ho pins s2 σ H2 x y v u _ I2 r1 r2 q2) fun c s3 ⟨z,H3,I3,r3,k,e,q3⟩ => ?_) hm
 subst e
 cases r3
 exact wpAny_truthy_bool ⟨H3,I3,q3⟩
theorem ow:(sizeLine:Nat) < 2 ^ 63:=by rw [sizeLine_eq]; decide
theorem vG:eQ X (binaryOp .Add) (fun x y H Q => ∃ i j,x = .str i ∧ y = .str j ∧ i.length + j.length ≤ sizeLine ∧ Q (.str (i ++ j)) H):=by
 intro pins s σ H x y v u Q I rx ry h
 obtain ⟨i,j,rfl,rfl,hz,q⟩:=h
 obtain ⟨t,rfl⟩:=rx
 obtain ⟨t',rfl⟩:=ry
 exact add_str (fun t' tk => ⟨.str (i ++ j),H,I.tok _,⟨_,rfl⟩,q⟩) hz
theorem vals1 {x:V} {us:List Value} (r:Vals [x] us):∃ u,us = [u] ∧ RelV x u:=by
 cases r with
 | cons r1 r2 => cases r2; exact ⟨_,rfl,r1⟩
theorem vals2 {x y:V} {us:List Value} (r:Vals [x,y] us):∃ u w',us = [u,w'] ∧ RelV x u ∧ RelV y w':=by
 cases r with
 | cons r1 r2 =>
  cases r2 with
  | cons r3 r4 => cases r4; exact ⟨_,_,rfl,r1,r3⟩
end
end L2
namespace L2
open PySem PySem.Spec PyProof.Rows
structure Gn (h:Heap) (x dx C:Addr) (mA:Str → Option Value):Prop where
 obj:h.get? x = some (PySem.W.instObj C dx)
 ns:h.Ns1 dx mA
 ne:dx ≠ x
theorem yd {h:Heap} {dx:Addr} {mA:Str → Option Value} (n:h.Ns1 dx mA):∃ od,h.get? dx = some od ∧ ∀ name,PySem.W.lookIn name od = some (mA name):=by
 obtain ⟨o,es,ep,ho,hd,hk,_,hm⟩:=n
 refine ⟨o,ho,fun name => ?_⟩
 have e:=hm name
 unfold nsFind findBy at e
 rw [← Array.find?_toList] at e
 unfold PySem.W.lookIn
 rw [hd]
 dsimp only
 split
 ·rename_i y q
  rw [q] at e
  exact congrArg some e
 ·rename_i q
  rw [q] at e
  have a:es.toList.any (·.refKey) = false:=by
   rw [List.any_eq_false]
   intro y hy
   obtain ⟨z,t,Nd⟩:=hk y (Array.mem_toList_iff.mp hy)
   simp [DictEntry.refKey,Nd]
  have a':¬ es.toList.any (·.refKey) = true:=by rw [a]; exact Bool.false_ne_true
  rw [if_neg a']
  exact congrArg some e
theorem Gn.look {h:Heap} {x dx C:Addr} {mA:Str → Option Value} (I:Gn h x dx C mA):∃ od,PySem.W.InstAt h x (PySem.W.instObj C dx) C (some od) ∧ ∀ name,PySem.W.lookIn name od = some (mA name) :=
 let ⟨od,ho,hl⟩:=yd I.ns
 ⟨od,⟨I.obj,rfl,rfl,ho⟩,hl⟩
section
variable {prog:Program} {w:World} {A:Around} {E:Value → Shared → Prop} {s:Shared} {K:PySem.W.Frag} {x dx C f:Addr} {mA:Str → Option Value} {name:Str} {v:Value}
end
theorem lB.some_of {v:V} {o:Option Value} (r:lB (some v) o):∃ u,o = some u ∧ RelV v u:=by
 cases o with
 | none => exact (show False from r).elim
 | some u => exact ⟨u,rfl,r⟩
section
variable {P:Program} {w:World} {H H':Hp} {h h':Heap} {a C dx:Addr} {fs Ui:List (Str × V)}
theorem CS (bK:gG P w H h) (e:H a = some (.ins C dx fs)):∃ mA,Gn h a dx C mA ∧ (∀ f,lB (fs.lookup f) (mA f)) ∧ PySem.Within mA (fs.map (·.1)) ∧ fs.length ≤ 1000 ∧ H dx = some (.own a):=by
 obtain ⟨d,z,ne,ob,mA,n,r,q⟩:=(show bW P w H h a (.ins C dx fs) from bK a _ e)
 exact ⟨mA,⟨ob,n,ne⟩,r,q,z,d⟩
end
structure Nf (K:PySem.W.Frag) (C:Addr):Prop where
 pg:PySem.W.plainGet K C Str.empty = true
 hd:PySem.W.hasDictIn K C = true
 po:PySem.W.plainOver K C = true
 sa:PySem.W.findIn K (.ref C) "__setattr__" = some (some (.builtin "object.__setattr__"))
theorem Nf.get {K:PySem.W.Frag} {C:Addr} (c:Nf K C) (f:Str):PySem.W.plainGet K C f = true:=c.pg
section
variable {X:Cx} {pins:List (Addr × Obj)} {σ:St} {H:Hp} {s:Shared} {a C dx:Addr} {fs:List (Str × V)} {f:Str} {v:V} {A:Around} {E:Value → Shared → Prop}
end
section
variable {X:Cx} {o e value:Expr} {f:Str} {pos pos' Gp:Pos} {ta tv:TE}
end
section
variable {X:Cx} {pins:List (Addr × Obj)} {σ:St} {H:Hp} {s:Shared} {A:Around} {E:Value → Shared → Prop} {Q:Value → Shared → Prop} {c:Value} {b:Bool}
inductive ng (K:PySem.W.Frag) (H:Hp):V → Value → Prop where
 | eR:ng K H .eR (.type "NoneType")
 | bl (x:Bool):ng K H (.bl x) (.type "bool")
 | int (i:Int):ng K H (.int i) (.type "int")
 | str (x:Str):ng K H (.str x) (.type "str")
 | nQ (x:UInt64):ng K H (.nQ x) (.type "float")
 | lst {a:Addr} {xs:List V} (e:H a = some (.lst xs)):ng K H (.ref a) (.type "list")
 | fQ {a:Addr} {o:Obj} {xs:List V} (e:H a = some (.fQ o (.lst xs))):ng K H (.ref a) (.type "list")
 | tup {a:Addr} {xs:List V} (e:H a = some (.tup xs)):ng K H (.ref a) (.type "tuple")
 | dK {a:Addr} {aI:List (Key × V)} (e:H a = some (.dK aI)):ng K H (.ref a) (.type "dict")
 | dT {a:Addr} {aI:List (List Key × V)} (e:H a = some (.dT aI)):ng K H (.ref a) (.type "dict")
 | ins {a C dx:Addr} {fs:List (Str × V)} (e:H a = some (.ins C dx fs)) (cl:Nf K C) (ha:PySem.W.findIn K (.ref C) "__class__" = some (some (.builtin "object.__class__")))
   (hn:PySem.W.specialIn K (.builtin "object.__class__") "__get__" = some (some (.builtin "getset_descriptor.__get__"))) (SS:PySem.W.takesIn K (.builtin "object.__class__") = some true)
   (hm:PySem.W.mroIn K C (.type "object") = some true):ng K H (.ref a) (.ref C)
theorem eS {x:V} {u t:Value} (I:Inv X pins σ H s) (rx:RelV x u) (ty:ng X.K H x t) (e:PySem.W.kitOne X.K t c = some b) (h:∀ tk,Q (.bool b) { s with toks:=tk }) :
  wpAny (model X.prog X.w) A (call (.builtin "isinstance") [u,c]) Q E s:=by
 cases ty with
 | eR => cases (show u = Value.none from rx); exact PySem.W.kia_one PySem.W.kitx_none I.mS True.intro e (fun z => nomatch z) h
 | bl y => cases (show u = Value.bool y from rx); exact PySem.W.kia_one PySem.W.kitx_bool I.mS True.intro e (fun z => nomatch z) h
 | int i => obtain ⟨t,q⟩:=(show ∃ t,u = Value.int i t from rx); cases q; exact PySem.W.kia_one PySem.W.kitx_int I.mS True.intro e (fun z => nomatch z) h
 | str y => obtain ⟨t,q⟩:=(show ∃ t,u = Value.str y t from rx); cases q; exact PySem.W.kia_one PySem.W.kitx_str I.mS True.intro e (fun z => nomatch z) h
 | nQ y => obtain ⟨t,q⟩:=(show ∃ t,u = Value.float y t from rx); cases q; exact PySem.W.kia_one PySem.W.kitx_float I.mS True.intro e (fun z => nomatch z) h
 | @lst a xs ea =>
  cases (show u = Value.ref a from rx)
  obtain ⟨_,_,n,_,h1⟩:=(show bW X.prog X.w H s.heap a (.lst xs) from I.bK a _ ea)
  exact PySem.W.kia_one PySem.W.kitx_list I.mS ⟨_,h1,rfl⟩ e (fun z => nomatch z) h
 | @fQ a ob xs ea =>
  cases (show u = Value.ref a from rx)
  obtain ⟨_,_,_,n,_,h1⟩:=(show bW X.prog X.w H s.heap a (.fQ ob (.lst xs)) from I.bK a _ ea)
  exact PySem.W.kia_one PySem.W.kitx_list I.mS ⟨_,h1,rfl⟩ e (fun z => nomatch z) h
 | @tup a xs ea =>
  cases (show u = Value.ref a from rx)
  obtain ⟨_,_,_,p⟩:=(show bW X.prog X.w H s.heap a (.tup xs) from I.bK a _ ea)
  obtain ⟨o,h1,h2,_⟩:=p
  exact PySem.W.kia_one PySem.W.kitx_tuple I.mS ⟨o,h1,h2⟩ e (fun z => nomatch z) h
 | @dK a aI ea =>
  cases (show u = Value.ref a from rx)
  obtain ⟨_,_,vs,_,p⟩:=(show bW X.prog X.w H s.heap a (.dK aI) from I.bK a _ ea)
  obtain ⟨o,es,ep,h1,h2,_⟩:=p
  exact PySem.W.kia_one PySem.W.kitx_dict I.mS ⟨o,h1,h2.1⟩ e (fun z => nomatch z) h
 | @dT a aI ea =>
  cases (show u = Value.ref a from rx)
  obtain ⟨_,_,xs,_,o,es,ep,h1,h2,_⟩:=(show bW X.prog X.w H s.heap a (.dT aI) from I.bK a _ ea)
  exact PySem.W.kia_one PySem.W.kitx_dict I.mS ⟨o,h1,h2.1⟩ e (fun z => nomatch z) h
 | @ins a C dx fs ea cl ha hn SS hm =>
  cases (show u = Value.ref a from rx)
  obtain ⟨mA,O,_⟩:=CS I.bK ea
  obtain ⟨od,J,_⟩:=O.look
  exact PySem.W.kia_one (PySem.W.kitx_own (cl.get _) cl.hd ha hn SS hm) I.mS J e (fun z => nomatch z) h
end
end L2
namespace L2
open PySem PySem.Spec PyProof.Rows
structure dR (k:Nat) (A:Around):Prop where
 hd:A.handled = none
 dp:A.depth + 3 * k + 5 < recursionLimit
 un:A.units + 16 * k + 200 < cLine
theorem dR.mono {j k:Nat} {A:Around} (r:dR k A) (h:j ≤ k):dR j A:=⟨r.hd,by have:=r.dp; lia,by have:=r.un; lia⟩
theorem dR.deeper {k:Nat} {A:Around} (r:dR (k + 1) A) (env:Env):dR k (A.deeper env) :=
 ⟨r.hd,by have:=r.dp; show A.depth + 1 + 3 * k + 5 < _; lia,by have:=r.un; show A.units + 3 + 16 * k + 200 < _; lia⟩
theorem dR.depth {k:Nat} {A:Around} (r:dR k A):A.depth < recursionLimit:=by have:=r.dp; lia
theorem dR.units {k:Nat} {A:Around} (r:dR k A):A.units + 64 < cLine:=by have:=r.un; lia
noncomputable def JB:TA:=fun _ H Q => Q [] H
noncomputable def ET (ta:TE) (tr:TA):TA:=fun σ H Q => ta σ H fun x H1 => tr σ H1 fun xs H2 => Q (x :: xs) H2
section
variable {X:Cx} {e:Expr} {es:List Expr} {te:TE} {t:TA} {pos:Pos}
theorem rH:PA X [] JB:=fun _ _ _ _ H Q I h => Calls.spliced_nil ⟨[],H,I,.nil,h⟩
theorem iA (ha:PE X e te) (hr:PA X es t) (hs:starEach (e :: es) X.env = (false,eval e X.env) :: starEach es X.env:=by rfl):PA X (e :: es) (ET te t):=by
 intro pos pins s σ H Q I h
 rw [hs]
 show wpAny _ _ (spliced ((false,eval e X.env) :: backTo pos (starEach es X.env))) _ _ s
 refine Calls.spliced_cons (c_ (ha pins s σ H _ I h) fun u s1 ⟨x,H1,I1,r1,q1⟩ => ?_)
 exact c_ (hr pos pins s1 σ H1 _ I1 q1) fun us s2 ⟨xs,H2,I2,r2,q2⟩ => ⟨x :: xs,H2,I2,.cons r1 r2,q2⟩
noncomputable def Ng (t:TA):TE:=fun σ H Q => t σ H fun xs H1 => xs.length ≤ sizeLine ∧ ∀ p,H1 p = none → Q (.ref p) (upd H1 p (.tup xs))
noncomputable def Nh (t:TA):TE:=fun σ H Q => t σ H fun xs H1 => xs.length ≤ sizeLine ∧ ∀ p,H1 p = none → Q (.ref p) (upd H1 p (.lst xs))
theorem Gq {x1} (h:PA X es t):PE X (.Tuple es x1 pos) (Ng t):=by
 intro pins s σ H Q I hq
 refine wpAny_Tuple_spliced (c_ (h pos pins s σ H _ I hq) fun us s1 ⟨xs,H1,I1,r,z,q⟩ => ⟨by rw [← r.length]; exact z,?_⟩)
 have hf:H1 s1.heap.objs.size = none:=I1.bK.fresh (Nat.le_refl _)
 refine ⟨.ref s1.heap.objs.size,upd H1 s1.heap.objs.size (.tup xs),I1.laid (t':=s1.toks) (fun b u e => Heap.get?_push_of_some _ e) (Nat.le_refl _) ?_,rfl,q _ hf⟩
 exact ⟨z,us,r,⟨_,Heap.get?_push_size _ rfl,rfl,_,rfl⟩⟩
theorem Gr (h:PA X es t):PE X (.List es pos) (Nh t):=by
 intro pins s σ H Q I hq
 refine wpAny_List_spliced (c_ (h pos pins s σ H _ I hq) fun us s1 ⟨xs,H1,I1,r,z,q⟩ => ⟨by rw [← r.length]; exact z,?_⟩)
 have hf:H1 s1.heap.objs.size = none:=I1.bK.fresh (Nat.le_refl _)
 refine ⟨.ref s1.heap.objs.size,upd H1 s1.heap.objs.size (.lst xs),I1.laid (t':=s1.toks) (fun b u e => Heap.get?_push_of_some _ e) (Nat.le_refl _) ?_,rfl,q _ hf⟩
 exact ⟨z,us,0,r,Heap.get?_push_size _ rfl⟩
end
noncomputable abbrev Sp:=List V → Hp → VK → XK → Prop
noncomputable abbrev zS:=List Env → Hp → Shared → XK → Value → Shared → Prop
structure vH (P:Program) (w:World) (K:PySem.W.Frag) (mg:Str → Option Value) (base:Heap) (A:Around) (outer:List Env) (s:Shared) (H:Hp):Prop where
 frames:A.frames = some outer
 mod:Mod K mg base
 bs:∀ b o,base.get? b = some o → s.heap.get? b = some o ∧ H b = none
 zF:base.objs.size ≤ s.heap.objs.size
 iX:s.heap.FunFrames base outer
 xZ:∀ b ∈ fY outer,H b = none
 bK:gG P w H s.heap
 bare:AllBare s.gens
noncomputable def CE (outer:List Env) (P:Program) (w:World) (H:Hp) (s:Shared) (Q:VK) (u:Value) (s':Shared):Prop :=
 ∃ v H',s'.os = s.os ∧ AllBare s'.gens ∧ Un (fY outer) [] H H' s.heap s'.heap ∧ gG P w H' s'.heap ∧ RelV v u ∧ Q v H'
noncomputable def CR (CX:zS) (outer:List Env) (P:Program) (w:World) (H:Hp) (s:Shared) (Q:VK) (E:XK) (r:Result) (s':Shared):Prop :=
 match r with
 | .ok (.ret u) => CE outer P w H s Q u s'
 | .ok _ => False
 | .error e => CX outer H s E e s'
structure jK (P:Program) (w:World) (K:PySem.W.Frag) (mg:Str → Option Value) (base:Heap) (CX:zS) (k:Nat) (f:Addr) (fd:FuncData) (ps:List Str) (sp:Sp):Prop where
 len:∀ vs H Q E,sp vs H Q E → vs.length = ps.length
 run:∀ (A:Around) (outer:List Env) (s:Shared) (H:Hp) (args:Args) (us:List Value) (vs:List V) (Q:VK) (E:XK),dR k A → vH P w K mg base A outer s H → BindsTo s fd args (ps.zip us) → Vals vs us → sp vs H Q E →
  codeAny (model P w) A (.call (.ref f) args) (CR CX outer P w H s Q E) s
section
variable {X:Cx} {pins:List (Addr × Obj)} {σ:St} {H:Hp} {s s':Shared}
theorem Inv.CT (I:Inv X pins σ H s):vH X.prog X.w X.K X.mg X.base X.A X.stack s H :=
 ⟨I.ok.frames,I.ok.mod,I.bs,Nat.le_trans I.ok.zF I.sz,I.stack,I.rG,I.bK,I.bare⟩
theorem Inv.after {Q:VK} {u:Value} (I:Inv X pins σ H s) (h:CE X.stack X.prog X.w H s Q u s'):EP X pins σ Q u s':=by
 obtain ⟨v,H',os,bare,un,bK,r,q⟩:=h
 obtain ⟨hh,g,d,t,Uq⟩:=s'
 obtain rfl:Uq = s.os:=os
 exact ⟨v,H',I.call (h':=hh) (g':=g) (d':=d) (t':=t) (ch:=[]) un bK bare (fun b z => absurd z (by simp)),r,q⟩
end
noncomputable def JC (sp:Sp) (p8:List V) (E:XK) (t:TA):TE:=fun σ H Q => t σ H fun vs H1 => sp (vs ++ p8) H1 Q E
noncomputable def Binds (K:PySem.W.Frag) (fd:FuncData) (ps:List Str) (ds:List Value):Prop :=
 ∀ (s:Shared) (us:List Value),K.In s.heap → (us ++ ds).length = ps.length → BindsTo s fd ⟨us,[]⟩ (ps.zip (us ++ ds))
theorem Binds.all {K:PySem.W.Frag} {fd:FuncData} {ps:List Str} (h:∀ us:List Value,us.length = ps.length → bindArgs fd ⟨us,[]⟩ = pure (ps.zip us)):Binds K fd ps []:=fun s us _ hl => by
 rw [List.append_nil] at hl ⊢
 exact .of_eq (h us hl)
noncomputable def Passes (CX:zS) (X:Cx) (E:XK):Prop:=∀ (pins:List (Addr × Obj)) (σ:St) (H:Hp) (s:Shared) (e:Value) (s':Shared),Inv X pins σ H s → CX X.stack H s E e s' → X.xe e s'
section
variable {X:Cx} {CX:zS} {k:Nat} {f C:Addr} {fd:FuncData} {ps:List Str} {sp:Sp} {p8:List V} {ds:List Value} {E:XK} {x m:Str} {p pos apos:Pos} {e o:Expr} {es:List Expr} {ta:TE} {t:TA}
theorem Gu {pins:List (Addr × Obj)} {σ:St} {H:Hp} {s:Shared} {Q:VK} {us:List Value} {vs:List V} (F:jK X.prog X.w X.K X.mg X.base CX k f fd ps sp) (hr:dR k X.A) (hb:Binds X.K fd ps ds) (hd:Vals p8 ds) (hx:Passes CX X E)
  (I:Inv X pins σ H s) (r:Vals vs us) (h:sp (vs ++ p8) H Q E):wpAny (model X.prog X.w) X.A (call (.ref f) us) (EP X pins σ Q) X.xe s:=by
 have r2:Vals (vs ++ p8) (us ++ ds):=r.append hd
 have hl:(us ++ ds).length = ps.length:=by rw [← r2.length]; exact F.len _ _ _ _ h
 refine wpAny_call (codeAny_mono (F.run X.A X.stack s H ⟨us,[]⟩ (us ++ ds) (vs ++ p8) Q E hr I.CT (hb s us I.mS hl) r2 h) fun r s' hq => ?_)
 cases r with
 | error e => exact hx pins σ H s e s' I hq
 | ok fl =>
  cases fl with
  | ret u => exact I.after hq
  | next => exact False.elim hq
  | brk => exact False.elim hq
  | cont => exact False.elim hq
theorem CU (F:jK X.prog X.w X.K X.mg X.base CX k f fd ps sp) (hr:dR k X.A) (hg:Gl X x) (hm:X.mg x = some (.ref f)) (hk:PySem.W.keepIn X.K (.ref f) = true) (hb:Binds X.K fd ps ds) (hd:Vals p8 ds) (hx:Passes CX X E)
  (ha:PA X (e :: es) t) (jV:(x == ("__debug__":Str)) = false:=by decide) (he:starEach (e :: es) X.env = (false,eval e X.env) :: starEach es X.env:=by rfl) (hU:(backTo pos (starEach es X.env)).any (·.1) = false:=by rfl) :
  PE X (.Call (.Name x p) (e :: es) [] pos) (JC sp p8 E t):=by
 intro pins s σ H Q I h
 refine wpAny_Call_Name_kw (iy I hg hm ?_ jV)
 refine PySem.W.callWith_K (h₀:=X.base) I.ok.mod.FK hk (c_ (ha pos pins s σ H _ I h) fun us s1 ⟨vs,H1,I1,r,q⟩ => ⟨I1.mS,?_⟩) he hU
 exact Gu F hr hb hd hx I1 r q
end
noncomputable def PK (X:Cx) (zT:List Keyword) (t:TA):Prop :=
 ∀ (pos:Pos) (pins:List (Addr × Obj)) (s:Shared) (σ:St) (H:Hp) (Q:List V → Hp → Prop),Inv X pins σ H s → t σ H Q → wpAny (model X.prog X.w) X.A (evalAll ((backToKw pos (keywordEach zT X.env)).map (·.2))) (AP X pins σ Q) X.xe s
section
variable {X:Cx} {CX:zS} {k:Nat} {f C:Addr} {fd:FuncData} {ps ks:List Str} {sp:Sp} {E:XK} {x m:Str} {p pos apos Ni:Pos} {e o:Expr} {es:List Expr} {zT:List Keyword} {te ta:TE} {t tk:TA} {nm:Option Str}
theorem Gv:PK X [] JB:=fun _ _ _ _ H Q I h => wpAny_evalAll_nil ⟨[],H,I,.nil,h⟩
theorem CV (ha:PE X e te) (hr:PK X zT t):PK X (⟨nm,e,Ni⟩ :: zT) (ET te t):=by
 intro pos pins s σ H Q I h
 show wpAny _ _ (evalAll ((do let v ← eval e X.env; standAt pos; pure v) :: (backToKw pos (keywordEach zT X.env)).map (·.2))) _ _ s
 refine wpAny_evalAll_cons (wpAny_bind (c_ (ha pins s σ H _ I h) fun u s1 ⟨x,H1,I1,r1,q1⟩ => wpAny_bind (wpAny_standAt (wpAny_pure ?_))))
 exact c_ (hr pos pins s1 σ H1 _ I1 q1) fun us s2 ⟨xs,H2,I2,r2,q2⟩ => ⟨x :: xs,H2,I2,.cons r1 r2,q2⟩
variable {g:List Value → List Value → List Value} {gV:List V → List V → List V}
end
structure aR (N P:List Str) (sc:Scope):Prop where
 kind:sc.kind = .function
 co:sc.isCoroutine = false
 gen:sc.isGenerator = false
 nd:N.Nodup
 pre:N.take P.length = P
 par:∀ x ∈ P,sc.names.lookup x = some .local ∨ sc.names.lookup x = some .cell
 Gw:∀ y ∈ sc.names,y.2 ≠ .free
theorem qq {kindOf:Str → Option NameKind} {x:Str}:∀ {binds:List (Str × Value)} {m:Str → Option Value},(∀ v,(x,v) ∉ binds) → bindL kindOf binds m x = m x
 | [],_,_ => rfl
 | (n,v) :: r,m,h => by
  unfold bindL
  rw [qq fun w hw => h w (List.mem_cons_of_mem _ hw)]
  split
  ·have:x ≠ n:=by rintro rfl; exact h v List.mem_cons_self
   simp [this]
  ·rfl
theorem qr {kindOf:Str → Option NameKind} {x:Str}:∀ {binds:List (Str × Value)} {m:Str → Option Value},(∀ v,(x,v) ∉ binds) → bindC kindOf binds m x = m x
 | [],_,_ => rfl
 | (n,v) :: r,m,h => by
  unfold bindC
  rw [qr fun w hw => h w (List.mem_cons_of_mem _ hw)]
  split
  ·rfl
  ·have:x ≠ n:=by rintro rfl; exact h v List.mem_cons_self
   simp [this]
theorem qt {kindOf:Str → Option NameKind} {x:Str} {v:Value}:∀ {P:List Str} {vs:List Value} {i:Nat} {m:Str → Option Value},P.Nodup → P[i]? = some x → vs[i]? = some v → kindOf x = some .local →
  bindL kindOf (P.zip vs) m x = some v
 | [],_,_,_,_,h,_,_ => by simp at h
 | _ :: _,[],_,_,_,_,h,_ => by simp at h
 | p :: P,w :: vs,0,m,nd,h1,h2,hk => by
  simp at h1 h2; subst h1; subst h2
  show bindL kindOf ((p,w) :: P.zip vs) m p = _
  unfold bindL
  rw [qq fun v hv => (List.nodup_cons.mp nd).1 (List.of_mem_zip hv).1,if_pos hk]
  simp
 | p :: P,w :: vs,i + 1,m,nd,h1,h2,hk => by
  show bindL kindOf ((p,w) :: P.zip vs) m x = _
  unfold bindL
  exact qt (i:=i) (List.nodup_cons.mp nd).2 (by simpa using h1) (by simpa using h2) hk
theorem qu {kindOf:Str → Option NameKind} {x:Str} {v:Value}:∀ {P:List Str} {vs:List Value} {i:Nat} {m:Str → Option Value},P.Nodup → P[i]? = some x → vs[i]? = some v → kindOf x ≠ some .local →
  bindC kindOf (P.zip vs) m x = some v
 | [],_,_,_,_,h,_,_ => by simp at h
 | _ :: _,[],_,_,_,_,h,_ => by simp at h
 | p :: P,w :: vs,0,m,nd,h1,h2,hk => by
  simp at h1 h2; subst h1; subst h2
  show bindC kindOf ((p,w) :: P.zip vs) m p = _
  unfold bindC
  rw [qr fun v hv => (List.nodup_cons.mp nd).1 (List.of_mem_zip hv).1,if_neg hk]
  simp
 | p :: P,w :: vs,i + 1,m,nd,h1,h2,hk => by
  show bindC kindOf ((p,w) :: P.zip vs) m x = _
  unfold bindC
  exact qu (i:=i) (List.nodup_cons.mp nd).2 (by simpa using h1) (by simpa using h2) hk
noncomputable def start (N:List Str) (vs:List V):St:=vs.map some ++ List.replicate (N.length - vs.length) none
noncomputable def fR (CX:zS) (P:Program) (w:World) (K:PySem.W.Frag) (mg:Str → Option Value) (base:Heap) (N:List Str) (qual:Str) (scope:Scope) (f:Addr) (cd:Value) (A:Around) (outer:List Env) (s:Shared) (H:Hp) (E:XK):Cx where
 prog:=P
 w:=w
 K:=K
 mg:=mg
 base:=base
 A:=A.deeper (envOfC qual scope s.heap.objs.size f cd)
 N:=N
 s₀:=s
 H₀:=H
 env:=envOfC qual scope s.heap.objs.size f cd
 outer:=outer
 stack:=envOfC qual scope s.heap.objs.size f cd :: outer
 ex:=[]
 calm:=true
 fn:=fun _ => true
 pn:=[]
 xe:=fun e s' => wpAny (model P w) (A.deeper (envOfC qual scope s.heap.objs.size f cd)) (leaving (envOfC qual scope s.heap.objs.size f cd) e) (fun _ LN => CX outer H s E e LN) (fun e' LN => CX outer H s E e' LN) s'
theorem tO {sc:Scope} {n:Nat} {x:Str} (h:sc.names.lookup x = some .cell):∃ c,(cellsFrom n sc.names []).lookup x = some c:=by
 have q:=PySem.W.cellsFrom_some sc.names n [] (.inl h)
 exact Option.isSome_iff_exists.mp q
theorem ye {CX:zS} {P:Program} {w:World} {K:PySem.W.Frag} {mg:Str → Option Value} {base:Heap} {N ps:List Str} {qual:Str} {scope:Scope} {f:Addr} {cd:Value} {A:Around} {outer:List Env} {s s1:Shared} {H:Hp} {E:XK} {us:List Value} {vs:List V}
  (S:aR N ps scope) (hd:A.handled = none) (e0:vH P w K mg base A outer s H) (hl:vs.length = ps.length) (r:Vals vs us)
  (x:InCallC s s.heap.objs.size (bindL (envOfC qual scope s.heap.objs.size f cd).kindOf (ps.zip us) fun _ => none) (cellsFrom (s.heap.objs.size + 1) scope.names []) (bindC (envOfC qual scope s.heap.objs.size f cd).kindOf (ps.zip us) fun _ => none) s1) :
  Inv (fR CX P w K mg base N qual scope f cd A outer s H E) [] (start N vs) H s1:=by
 have hU:ps.length ≤ N.length:=by have:=congrArg List.length S.pre; rw [List.length_take] at this; lia
 obtain ⟨h1,tk,rfl,hk⟩:=x.done
 have II:∀ b:Addr,b ∉ (fR CX P w K mg base N qual scope f cd A outer s H E).ex:=fun b z => absurd (show b ∈ ([]:List Addr) from z) (by simp)
 refine ⟨⟨e0.mod,S.kind,rfl,rfl,Nat.le_refl _,fun y z c h1 h2 => ?_,fun y hy => ?_,fun y c _ h => ?_,fun _ => hd,Around.frames_deeper e0.frames,.inr ⟨rfl,rfl⟩,fun b z => absurd z (II b),e0.bs,e0.zF,fun b _ _ => II b,fun b z => absurd z (II b),e0.iX,e0.xZ⟩,
  rfl,e0.bare,Un.kept hk,⟨_,x.toInCall.ns,fun i y v h1 h2 h3 => ?_⟩,fun y c h => ⟨_,x.cell y c h⟩,e0.bK.fresh (Nat.le_refl _),fun y c h => ?_,fun p hp => absurd (show p ∈ ([]:List (Addr × Obj)) from hp) (by simp),e0.bK.kept hk,?_⟩
 ·exact name_of_addr x.apart (PySem.mem_of_lookup h1) (PySem.mem_of_lookup h2)
 ·have hy:scope.names.lookup y = some .cell ∨ scope.names.lookup y = some .free:=hy
  rcases hy with hy | hy
  ·exact tO hy
  ·exact absurd rfl (S.Gw _ (PySem.mem_of_lookup hy))
 ·exact Nat.le_of_lt (x.above y c (PySem.mem_of_lookup h))
 ·have hi:i < vs.length:=by
   unfold start at h2
   by_cases hi:i < vs.length
   ·exact hi
   ·rw [List.getElem?_append_right (by simpa using hi)] at h2
    rw [List.getElem?_replicate] at h2
    split at h2 <;> cases h2
  have ha:vs[i]? = some v:=by
   unfold start at h2
   rw [List.getElem?_append_left (by simpa using hi),List.getElem?_map] at h2
   cases e:vs[i]? with
   | none => rw [e] at h2; cases h2
   | some a => rw [e] at h2; cases h2; rfl
  obtain ⟨u,hu,rv⟩:=r.get ha
  have hp:ps[i]? = some y:=by
   rw [← S.pre,List.getElem?_take_of_lt (by lia)]; exact h1
  have LP:ps.Nodup:=by rw [← S.pre]; exact S.nd.sublist (List.take_sublist _ _)
  refine ⟨u,rv,?_⟩
  rcases S.par y (List.mem_of_getElem? hp) with k | k
  ·exact .inl ⟨k,qt LP hp hu k⟩
  ·obtain ⟨c,e⟩:=tO (n:=s.heap.objs.size + 1) k
   refine .inr ⟨.inl k,c,e,?_⟩
   have q:=x.cell y c e
   rw [qu LP hp hu (by show scope.names.lookup y ≠ _; rw [k]; decide)] at q
   exact q
 ·exact e0.bK.fresh (Nat.le_of_lt (x.above y c (PySem.mem_of_lookup h)))
 ·unfold start
  show _ = N.length
  rw [List.length_append,List.length_map,List.length_replicate]
  lia
theorem EU {CX:zS} {P:Program} {w:World} {K:PySem.W.Frag} {mg:Str → Option Value} {base:Heap} {k:Nat} {f:Addr} {name qual:Str} {params:Arguments} {body:List Stmt} {scope:Scope} {dV kV doc pm da ct oc:Value} {an od:Option Addr}
  {CW:Array (Option Value)} {N ps:List Str} {sp:Sp} (lk:K.lookup f = some ⟨oc,od,.func (PySem.W.fnOf name qual params body scope dV kV doc pm an da ct),CW⟩) (mU:PySem.W.codeIn K da qual = true) (S:aR N ps scope)
  (len:∀ vs H Q E,sp vs H Q E → vs.length = ps.length)
  (zU:∀ (A:Around) (outer:List Env) (s:Shared) (H:Hp) (vs:List V) (Q:VK) (E:XK),dR k (A.deeper (envOfC qual scope s.heap.objs.size f da)) → sp vs H Q E →
   ∃ t,ja (fR CX P w K mg base N qual scope f da A outer s H E) body t ∧ t { nx:=fun _ H' => Q .eR H',rt:=Q } (start N vs) H) :
  jK P w K mg base CX (k + 1) f (PySem.W.fnOf name qual params body scope dV kV doc pm an da ct) ps sp:=by
 refine ⟨len,fun A outer s H args us vs Q E hr e0 hb r IJ => ?_⟩
 have hl:=len _ _ _ _ IJ
 have KX:K.In s.heap:=e0.mod.FK.keeps fun b o e => (e0.bs b o e).1
 have lim:s.heap.NoLimit:=e0.mod.nolimit.keeps fun b o e => (e0.bs b o e).1
 have JD:∀ y ∈ ps.zip us,scope.names.lookup y.1 = some .local ∨ (scope.names.lookup y.1 = some .cell ∧ ((cellsFrom (s.heap.objs.size + 1) scope.names []).lookup y.1).isSome = true):=fun ⟨n,v⟩ hy => by
  rcases S.par n (List.of_mem_zip hy).1 with q | q
  ·exact .inl q
  ·exact .inr ⟨q,PySem.W.cellsFrom_some _ _ _ (.inl q)⟩
 refine codeAny_call_function hr.depth (KX _ _ lk) rfl S.co S.gen rfl (PySem.W.codeRec_of KX mU) (hb _ _ _ _ ?_)
 refine wpAny_newFunctionEnv_cells S.kind JD fun env he s1 x => ?_
 subst he
 refine ⟨lim.keeps x.toInCall.keep,codeAny_func ?_⟩
 obtain ⟨t,ht,hq⟩:=zU A outer s H vs Q E (hr.deeper _) IJ
 have I:Inv (fR CX P w K mg base N qual scope f da A outer s H E) [] (start N vs) H s1:=ye S hr.hd e0 hl r x
 refine wpAny_mono (ht [] s1 (start N vs) H _ I hq) (fun fl s' hs => ?_) fun e s' hs => hs
 have fin:∀ {σ':St} {H':Hp} {v:V} {u:Value},Inv (fR CX P w K mg base N qual scope f da A outer s H E) [] σ' H' s' → RelV v u → Q v H' → CE outer P w H s Q u s' :=
  fun {σ' H' v u} J rv q => ⟨v,H',J.os,J.bare,J.base,J.bK,rv,q⟩
 cases fl with
 | ret u =>
  obtain ⟨v,σ',H',J,rv,q⟩:=hs
  exact fin J rv q
 | next =>
  obtain ⟨σ',H',J,q⟩:=hs
  exact fin (v:=V.eR) (u:=Value.none) J rfl q
 | brk =>
  obtain ⟨_,_,_,q⟩:=hs
  exact False.elim q
 | cont =>
  obtain ⟨_,_,_,q⟩:=hs
  exact False.elim q
end L2
namespace L2
open PySem PySem.Spec PyProof.Rows
section
variable {X:Cx} {x:Str} {p pos:Pos} {e:Expr} {es:List Expr} {t:TA} {id T:String} {r:List V → Hp → VK → Prop}
noncomputable def SU (r:List V → Hp → VK → Prop) (t:TA):TE:=fun σ H Q => t σ H fun vs H1 => r vs H1 Q
theorem oy (hc:cJ X (.builtin id) r) (hg:Gl X x) (hm:X.mg x = none) (hv:bootBuiltins x = some (.builtin id)) (ha:PA X (e :: es) t) (hn:x ≠ "__name__":=by decide) (jV:(x == ("__debug__":Str)) = false:=by decide)
  (he:starEach (e :: es) X.env = (false,eval e X.env) :: starEach es X.env:=by rfl) (hU:(backTo pos (starEach es X.env)).any (·.1) = false:=by rfl):PE X (.Call (.Name x p) (e :: es) [] pos) (SU r t):=by
 intro pins s σ H Q I h
 refine wpAny_Call_Name_kw (jb I hg hm hv ?_ hn jV)
 exact PyProof.Rows.callWith_builtin1 (c_ (ha pos pins s σ H _ I h) fun us s1 ⟨vs,H1,I1,r1,q1⟩ => hc pins s1 σ H1 vs us Q I1 r1 q1) he hU
theorem yf (hc:cJ X (.type T) r) (hg:Gl X x) (hm:X.mg x = none) (hv:bootBuiltins x = some (.type T)) (ha:PA X (e :: es) t) (hn:x ≠ "__name__":=by decide) (jV:(x == ("__debug__":Str)) = false:=by decide)
  (he:starEach (e :: es) X.env = (false,eval e X.env) :: starEach es X.env:=by rfl) (hU:(backTo pos (starEach es X.env)).any (·.1) = false:=by rfl):PE X (.Call (.Name x p) (e :: es) [] pos) (SU r t):=by
 intro pins s σ H Q I h
 refine wpAny_Call_Name_kw (jb I hg hm hv ?_ hn jV)
 exact PyProof.Rows.callWith_type1 (c_ (ha pos pins s σ H _ I h) fun us s1 ⟨vs,H1,I1,r1,q1⟩ => hc pins s1 σ H1 vs us Q I1 r1 q1) he hU
end
end L2
namespace HT
open PySem PyProof.Rows
section
open PySem.SeqAt
open PySem.AutoSeq1 (wpAny_loadPart')
open PySem.MeetsSeq PySem.MeetsSeq2 PySem.MeetsSeq3
end
section
variable {prog:Program} {w:World} {A:Around} {E:Value → Shared → Prop} {s:Shared}
theorem CY {t b:Addr} {vs ws:List Value} {Q:Value → Shared → Prop} (ht:IsTup s.heap t vs.toArray) (hb:IsTup s.heap b ws.toArray) (hv:vs ≠ [])
  (h1:ws = [] → Q (.ref t) s) (h2:ws ≠ [] → Q (.ref s.heap.objs.size) { s with heap:=s.heap.push { cls:=.type "tuple",data:=.seq (vs ++ ws).toArray } })
  (hsz:vs.length + ws.length ≤ sizeLine):wpAny (model prog w) A (binaryOp .Add (.ref t) (.ref b)) Q E s:=by
 obtain ⟨⟨cls,dd,data,sl⟩,ho,hc,n,hd⟩:=id ht
 obtain ⟨⟨Nj,LQ,data2,Gx⟩,zV,yg,n2,hd2⟩:=id hb
 simp only at hc hd yg hd2
 subst hc hd yg hd2
 have e:vs.toArray ++ ws.toArray = (vs ++ ws).toArray:=by simp
 by_cases hw:ws = []
 ·exact concat_meets ⟨_,ho,rfl⟩ ⟨_,zV,rfl⟩ noFill_tuple_add seq_tuple_add PySem.F.slot_tuple_add PySem.F.entry_tuple_add (PySem.F.args_tuple_add_2 _ _)
   (tuple_addW1 t b vs.toArray ws.toArray n n2 dd LQ sl Gx (by simpa using hv) (by simp [hw])) ⟨ho,zV,h1 hw⟩
 ·refine concat_meets ⟨_,ho,rfl⟩ ⟨_,zV,rfl⟩ noFill_tuple_add seq_tuple_add PySem.F.slot_tuple_add PySem.F.entry_tuple_add (PySem.F.args_tuple_add_2 _ _)
   (tuple_addW2 t b vs.toArray ws.toArray n n2 dd LQ sl Gx (by simpa using hv) (by simpa using hw) (by rw [List.size_toArray,List.size_toArray]; exact hsz)) ⟨ho,zV,?_⟩
  rw [e]
  exact h2 hw
noncomputable def Nk (n d:Nat):Option Int → Nat
 | none => d
 | some v => if v < 0 then (v + (n:Int)).toNat else min v.toNat n
end
end HT
namespace L2
open PySem PySem.Spec PyProof.Rows
section
variable {X:Cx} {e:Expr} {te:TE} {lo hi:Option Expr} {tl th:TO} {pos p2:Pos}
noncomputable def Xy (X:Cx) (r:V → Option Int → Option Int → Hp → VK → Prop):Prop :=
 ∀ (pins:List (Addr × Obj)) (s:Shared) (σ:St) (H:Hp) (x:V) (v vl vu:Value) (lo hi:Option Int) (sl:Addr) (Q:VK),Inv X pins σ H s → RelV x v → s.heap.IsSliceOf sl vl vu .none → IsPart vl lo → IsPart vu hi → r x lo hi H Q →
  ∃ T id,typeLookup (.type T) "__getitem__" = pure (some (.builtin id)) ∧ s.TypeIs v T ∧ wpAny (model X.prog X.w) X.A (getItem v (.ref sl)) (EP X pins σ Q) X.xe s
noncomputable def Nl (xs:List V) (lo hi:Option Int):List V:=(xs.drop (HT.Nk xs.length 0 lo)).take (HT.Nk xs.length xs.length hi - HT.Nk xs.length 0 lo)
noncomputable def JE (K:PySem.W.Frag):R2:=fun x y H Q => ∃ a b xs ys,x = .ref a ∧ y = .ref b ∧ jQ K H a xs ∧ jQ K H b ys ∧ xs ≠ [] ∧ xs.length + ys.length ≤ sizeLine ∧
 (ys = [] → Q (.ref a) H) ∧ (ys ≠ [] → ∀ p,H p = none → Q (.ref p) (upd H p (.tup (xs ++ ys))))
theorem Vals.rK {xs:List V} {us:List Value} (r:Vals xs us):us = [] ↔ xs = []:=by
 cases r with
 | nil => simp
 | cons _ _ => simp
theorem CZ:eQ X (binaryOp .Add) (JE X.K):=by
 intro pins s σ H x y v u Q I rx ry h
 obtain ⟨a,b,xs,ys,rfl,rfl,ha,hb,hx,hz,q1,q2⟩:=h
 cases rx
 cases ry
 obtain ⟨aN,r1,p1,_⟩:=I.tuple ha
 obtain ⟨d0,r2,p2,_⟩:=I.tuple hb
 refine HT.CY p1 p2 (fun z => hx (r1.rK.mp z)) (fun z => ⟨.ref a,H,I,rfl,q1 (r2.rK.mp z)⟩) (fun z => ?_) (by rw [← r1.length,← r2.length]; exact hz)
 refine ⟨.ref s.heap.objs.size,_,I.laid (t':=s.toks) (o:=.tup (xs ++ ys)) (fun b ob q => Heap.get?_push_of_some _ q) (Nat.le_refl _) ?_,rfl,q2 (fun w => z (r2.rK.mpr w)) _ (I.bK.fresh (Nat.le_refl _))⟩
 exact ⟨by rw [List.length_append]; exact hz,_,r1.append r2,IsTup.new _ _⟩
end
end L2
namespace L2
open PySem PySem.Spec PyProof.Rows
noncomputable def Gy (n:Nat) (i:Int):Option Nat:=if 0 ≤ i then (if i < n then some i.toNat else none) else if -(n:Int) ≤ i then some (i + n).toNat else none
noncomputable def oz {α:Type} (xs:List α) (i:Int):Option α:=(Gy xs.length i).bind fun j => xs[j]?
theorem C0 {n:Nat} {i:Int} {j:Nat} (h:Gy n i = some j):seqIndex? i n = some j ∧ j < n ∧ -(n:Int) ≤ i ∧ i < n:=by
 unfold Gy at h
 by_cases h0:0 ≤ i
 ·rw [if_pos h0] at h
  by_cases h1:i < n
  ·rw [if_pos h1] at h
   have e:i.toNat = j:=Option.some.inj h
   exact ⟨by rw [seqIndex_of h0 h1,e],by lia,by lia,h1⟩
  ·rw [if_neg h1] at h; cases h
 ·rw [if_neg h0] at h
  by_cases h1:-(n:Int) ≤ i
  ·rw [if_pos h1] at h
   have e:(i + n).toNat = j:=Option.some.inj h
   exact ⟨by rw [seqIndex_neg (by lia) h1,e],by lia,h1,by lia⟩
  ·rw [if_neg h1] at h; cases h
theorem rL {α:Type} {xs:List α} {i:Int} {v:α} (h:oz xs i = some v):∃ j,seqIndex? i xs.length = some j ∧ xs[j]? = some v ∧ j < xs.length ∧ -(xs.length:Int) ≤ i ∧ i < xs.length:=by
 unfold oz at h
 cases e:Gy xs.length i with
 | none => rw [e] at h; cases h
 | some j =>
  rw [e] at h
  obtain ⟨h1,h2,h3,h4⟩:=C0 e
  exact ⟨j,h1,h,h2,h3,h4⟩
theorem rN {α:Type} {xs:List α} {j:Nat} {v:α} (h:xs[j]? = some v):oz xs (j:Int) = some v:=by
 have hj:j < xs.length:=(List.getElem?_eq_some_iff.mp h).1
 have e:Gy xs.length (j:Int) = some j:=by
  unfold Gy
  rw [if_pos (by lia),if_pos (by lia)]; simp
 unfold oz; rw [e]; exact h
noncomputable def rO (b:Expr):Prop:=∀ o i,subscripted b false o i = operate [o,i] (getItem o i)
noncomputable def vq (X:Cx) (r:R2):Prop :=
 ∀ (value slice:Expr) (pins:List (Addr × Obj)) (s:Shared) (σ:St) (H:Hp) (x y:V) (v u:Value) (Q:VK),Inv X pins σ H s → RelV x v → RelV y u → r x y H Q →
  subscripted slice false v u = operate [v,u] (getItem v u) → wpAny (model X.prog X.w) X.A (subscriptTail value slice v u) (EP X pins σ Q) X.xe s
noncomputable def SV (X:Cx) (id:String) (r:V → List V → Hp → VK → Prop):Prop :=
 ∀ (pins:List (Addr × Obj)) (s:Shared) (σ:St) (H:Hp) (x:V) (xs:List V) (v:Value) (us:List Value) (Q:VK),Inv X pins σ H s → RelV x v → Vals xs us → r x xs H Q →
  wpAny (model X.prog X.w) X.A (call (.builtin id) (v :: us)) (EP X pins σ Q) X.xe s
section
variable {X:Cx} {a b:Expr} {ta tb:TE} {pos:Pos}
theorem vq.or {r r':R2} (h:vq X r) (h':vq X r'):vq X (fun x y H Q => r x y H Q ∨ r' x y H Q):=by
 intro value slice pins s σ H x y v u Q I rx ry q hs
 rcases q with q | q
 ·exact h value slice pins s σ H x y v u Q I rx ry q hs
 ·exact h' value slice pins s σ H x y v u Q I rx ry q hs
theorem JF {r:R2} (hr:vq X r) (ha:PE X a ta) (hb:PE X b tb) (hs:rO b):PE X (.Subscript a b pos) (IG r ta tb):=by
 intro pins s σ H Q I h
 exact Subscript_ (Gd ha hb I h fun v u s2 x y H2 I2 rx ry q => hr a b pins s2 σ H2 x y v u Q I2 rx ry q (hs _ _))
noncomputable def Nm (K:PySem.W.Frag):R2:=fun x y H Q => ∃ p xs i v,x = .ref p ∧ y = .int i ∧ mV K H p xs ∧ oz xs i = some v ∧ Q v H
noncomputable def Nn (K:PySem.W.Frag):R2:=fun x y H Q => ∃ p xs i v,x = .ref p ∧ y = .int i ∧ jQ K H p xs ∧ oz xs i = some v ∧ Q v H
noncomputable def Np:R2:=fun x y H Q => ∃ z i c,x = .str z ∧ y = .int i ∧ z.length ≤ sizeLine ∧ oz z.cps.toList i = some c ∧ Q (.str ⟨#[c]⟩) H
theorem C2:vq X (Nm X.K):=by
 intro value slice pins s σ H x y v u Q I rx ry h hs
 obtain ⟨p,xs,i,z,rfl,rfl,hq,he,q⟩:=h
 cases rx
 obtain ⟨t,rfl⟩:=ry
 obtain ⟨aN,r,pl,hz⟩:=I.list hq
 obtain ⟨j,h1,h2,h3,h4,h5⟩:=rL he
 obtain ⟨w,ew,tM⟩:=r.get h2
 have hl:=r.length
 have hn:=ow
 have fin:EP X pins σ Q w s:=⟨z,H,I,tM,q⟩
 by_cases h0:0 ≤ i
 ·have hj:i.toNat = j:=by
   rw [seqIndex_of h0 h5] at h1
   exact Option.some.inj h1
  exact item_listR pl.isList h0 (by lia) (by rw [hj]; simpa using ew) fin hs
 ·have hj:(i + (aN.toArray.size:Int)).toNat = j:=by
   rw [seqIndex_neg (by lia) h4] at h1
   rw [List.size_toArray,← hl]
   exact Option.some.inj h1
  exact subscriptTail_builtinR (x:=w) pl.isList.typeIs slot_list_getitem.lookup
   (wpAny_getItem_list_neg (Q:=fun r s' => r = w ∧ EP X pins σ Q r s') pl.isList (by lia) (by rw [List.size_toArray] <;> lia) (by lia) (by rw [hj]; simpa using ew) ⟨rfl,fin⟩) hs
theorem vI:vq X (Nn X.K):=by
 intro value slice pins s σ H x y v u Q I rx ry h hs
 obtain ⟨p,xs,i,z,rfl,rfl,hq,he,q⟩:=h
 cases rx
 obtain ⟨t,rfl⟩:=ry
 obtain ⟨aN,r,pl,hz⟩:=I.tuple hq
 obtain ⟨j,h1,h2,h3,h4,h5⟩:=rL he
 obtain ⟨w,ew,tM⟩:=r.get h2
 have hl:=r.length
 have hn:=ow
 have fin:EP X pins σ Q w s:=⟨z,H,I,tM,q⟩
 exact subscriptTail_builtinR (x:=w) pl.typeIs slot_tuple_getitem.lookup
  (getItem_tuple (j:=j) (Q:=fun r s' => r = w ∧ EP X pins σ Q r s') pl (by lia) (by lia) (by rw [List.size_toArray,← hl]; exact h1) (by simpa using ew) ⟨rfl,fin⟩) hs
theorem Gz:vq X Np:=by
 intro value slice pins s σ H x y v u Q I rx ry h hs
 obtain ⟨z,i,c,rfl,rfl,hz,he,q⟩:=h
 obtain ⟨t,rfl⟩:=rx
 obtain ⟨t',rfl⟩:=ry
 obtain ⟨j,h1,h2,h3,h4,h5⟩:=rL he
 have hl:z.cps.toList.length = z.length:=by simp [Str.length]
 rw [hl] at h1 h4 h5
 have hn:=ow
 exact tail_any (typeIs_str s z t) slot_str_getitem.lookup (getItem_str (c:=c) (by
  have e1:decide (i < -(2 ^ 63:Int)) = false:=decide_eq_false (by lia)
  have e2:decide (i ≥ 2 ^ 63) = false:=decide_eq_false (by lia)
  rw [e1,e2,Bool.or_false]) (by rw [h1]; simpa using h2) ⟨.str ⟨#[c]⟩,H,I.tok _,⟨_,rfl⟩,q⟩) hs
noncomputable def Ur (K:PySem.W.Frag):V → Option Int → Option Int → Hp → VK → Prop:=fun x lo hi H Q => ∃ a xs,x = .ref a ∧ mV K H a xs ∧ ∀ p,H p = none → Q (.ref p) (upd H p (.lst (Nl xs lo hi)))
noncomputable def jc:V → Bool
 | .eR => true
 | .bl _ => true
 | .int _ => true
 | .str _ => true
 | _ => false
noncomputable def Ct:V → V → Bool
 | .eR,.eR => true
 | .bl a,.bl b => a == b
 | .bl a,.int b => (if a then 1 else 0) == b
 | .int a,.bl b => a == (if b then 1 else 0)
 | .int a,.int b => a == b
 | .str a,.str b => a == b
 | _,_ => false
theorem GA {A:Around} {s:Shared} {y x:V} {u v:Value} (ry:RelV y u) (rx:RelV x v) (fy:jc y = true) (fx:jc x = true):SeqAt.EqAt A s u v (Ct y x):=by
 cases y with
 | eR =>
  cases ry
  cases x with
  | eR => cases rx; exact SeqAt.EqAt.same _
  | bl b => cases rx; exact SeqAt.EqAt.none_bool b
  | int b => obtain ⟨t,rfl⟩:=rx; exact SeqAt.EqAt.none_int b t
  | str b => obtain ⟨t,rfl⟩:=rx; exact SeqAt.EqAt.none_str b t
  | _ => exact absurd (show false = true from fx) Bool.false_ne_true
 | bl a =>
  cases ry
  cases x with
  | eR => cases rx; exact SeqAt.EqAt.bool_none a
  | bl b => cases rx; exact SeqAt.EqAt.bool_bool a b
  | int b => obtain ⟨t,rfl⟩:=rx; exact SeqAt.EqAt.bool_int a b t
  | str b => obtain ⟨t,rfl⟩:=rx; exact SeqAt.EqAt.bool_str a b t
  | _ => exact absurd (show false = true from fx) Bool.false_ne_true
 | int a =>
  obtain ⟨t',rfl⟩:=ry
  cases x with
  | eR => cases rx; exact SeqAt.EqAt.int_none a t'
  | bl b => cases rx; exact SeqAt.EqAt.int_bool a t' b
  | int b => obtain ⟨t,rfl⟩:=rx; exact SeqAt.EqAt.int_int a t' b t
  | str b => obtain ⟨t,rfl⟩:=rx; exact SeqAt.EqAt.int_str a t' b t
  | _ => exact absurd (show false = true from fx) Bool.false_ne_true
 | str a =>
  obtain ⟨t',rfl⟩:=ry
  cases x with
  | eR => cases rx; exact SeqAt.EqAt.str_none a t'
  | bl b => cases rx; exact SeqAt.EqAt.str_bool a t' b
  | int b => obtain ⟨t,rfl⟩:=rx; exact SeqAt.EqAt.str_int a t' b t
  | str b => obtain ⟨t,rfl⟩:=rx; exact SeqAt.EqAt.str_str a t' b t
  | _ => exact absurd (show false = true from fx) Bool.false_ne_true
 | _ => exact absurd (show false = true from fy) Bool.false_ne_true
noncomputable def C3 (x:V) (u:Value):Bool:=match u with
 | .none => Ct .eR x
 | .bool b => Ct (.bl b) x
 | .int i _ => Ct (.int i) x
 | .str z _ => Ct (.str z) x
 | _ => false
theorem zW {x y:V} {u:Value} (r:RelV y u) (f:jc y = true):C3 x u = Ct y x:=by
 cases y with
 | eR => cases r; rfl
 | bl b => cases r; rfl
 | int i => obtain ⟨t,rfl⟩:=r; rfl
 | str z => obtain ⟨t,rfl⟩:=r; rfl
 | _ => exact absurd (show false = true from f) Bool.false_ne_true
theorem rP {x:V}:∀ {xs:List V} {us:List Value},Vals xs us → xs.all jc = true → us.any (C3 x) = xs.any fun y => Ct y x
 | _,_,.nil,_ => rfl
 | y :: xs,u :: us,.cons r t,f => by
  rw [List.all_cons,Bool.and_eq_true] at f
  rw [List.any_cons,List.any_cons,zW r f.1,rP t f.2]
theorem oA {A:Around} {s:Shared} {x:V} {v:Value} (rx:RelV x v) (fx:jc x = true):∀ {xs:List V} {us:List Value},Vals xs us → xs.all jc = true → ∀ u ∈ us,SeqAt.EqAt A s u v (C3 x u)
 | _,_,.nil,_ => fun u hu => by cases hu
 | y :: xs,u :: us,.cons r t,f => fun u' hu => by
  rw [List.all_cons,Bool.and_eq_true] at f
  rcases List.mem_cons.mp hu with rfl | hu
  ·rw [zW r f.1]; exact GA r rx f.1 fx
  ·exact oA rx fx t f.2 u' hu
noncomputable def LR (x:V) (xs:List V):Bool:=xs.any fun y => Ct y x
noncomputable def SW (K:PySem.W.Frag) (neg:Bool):R2:=fun x y H Q => ∃ p xs,y = .ref p ∧ (mV K H p xs ∨ jQ K H p xs) ∧ jc x = true ∧ xs.all jc = true ∧ Q (.bl (if neg then !LR x xs else LR x xs)) H
theorem yh:eQ X (compareOp .In) (SW X.K false):=by
 intro pins s σ H x y v u Q I rx ry h
 obtain ⟨p,xs,rfl,hq,fx,fs,q⟩:=h
 cases ry
 rcases hq with hq | hq
 ·obtain ⟨aN,r,pl,hz⟩:=I.list hq
  refine SeqAt.in_listAt (C3 x) pl.isList (fun w hw => oA rx fx r fs w (by simpa using hw)) ⟨.bl _,H,I,rfl,?_⟩
  rw [show aN.toArray.any (C3 x) = aN.any (C3 x) by simp,rP r fs]
  exact q
 ·obtain ⟨aN,r,pl,hz⟩:=I.tuple hq
  refine SeqAt.in_tupleAt (C3 x) pl (fun w hw => oA rx fx r fs w (by simpa using hw)) ⟨.bl _,H,I,rfl,?_⟩
  rw [show aN.toArray.any (C3 x) = aN.any (C3 x) by simp,rP r fs]
  exact q
theorem rQ:cJ X (.builtin "len") (fun xs H Q => ∃ p ys,xs = [.ref p] ∧ (mV X.K H p ys ∨ jQ X.K H p ys) ∧ Q (.int ys.length) H):=by
 intro pins s σ H xs us Q I r h
 obtain ⟨p,ys,rfl,hq,q⟩:=h
 obtain ⟨u,rfl,rx⟩:=vals1 r
 cases rx
 have hn:=ow
 rcases hq with hq | hq
 ·obtain ⟨aN,r',pl,hz⟩:=I.list hq
  have hlen:=r'.length
  exact Calls.call_len_list pl.isList (by simp only [List.size_toArray] <;> lia) ⟨.int ys.length,H,I.tok _,⟨s.toks + 1,by rw [List.size_toArray,hlen]⟩,q⟩
 ·obtain ⟨aN,r',pl,hz⟩:=I.tuple hq
  have hlen:=r'.length
  exact len_tuple pl (by simp only [List.size_toArray] <;> lia) ⟨.int ys.length,H,I.tok _,⟨s.toks + 1,by rw [List.size_toArray,hlen]⟩,q⟩
theorem rR:cJ X (.builtin "len") (fun xs H Q => ∃ z,xs = [.str z] ∧ z.length ≤ sizeLine ∧ Q (.int z.length) H):=by
 intro pins s σ H xs us Q I r h
 obtain ⟨z,rfl,hz,q⟩:=h
 obtain ⟨u,rfl,t,rfl⟩:=vals1 r
 have hn:=ow
 exact len_str (by lia) ⟨.int z.length,H,I.tok _,⟨_,rfl⟩,q⟩
theorem cJ.or {f:Value} {r r':List V → Hp → VK → Prop} (h:cJ X f r) (h':cJ X f r'):cJ X f (fun xs H Q => r xs H Q ∨ r' xs H Q):=by
 intro pins s σ H xs us Q I rs q
 rcases q with q | q
 ·exact h pins s σ H xs us Q I rs q
 ·exact h' pins s σ H xs us Q I rs q
theorem rS:cJ X (.type "list") (fun xs H Q => ∃ p ys,xs = [.ref p] ∧ (mV X.K H p ys ∨ jQ X.K H p ys) ∧ ∀ l,H l = none → Q (.ref l) (upd H l (.lst ys))):=by
 intro pins s σ H xs us Q I r h
 obtain ⟨p,ys,rfl,hq,q⟩:=h
 obtain ⟨u,rfl,rx⟩:=vals1 r
 cases rx
 have fin:∀ (aN:List Value),Vals ys aN → ys.length ≤ sizeLine → ∀ (h':Heap) (c':Nat),(∀ b o',s.heap.get? b = some o' → h'.get? b = some o') →
   h'.get? s.heap.objs.size = some { cls:=.type "list",dict:=none,data:=.seq aN.toArray c',slots:=#[] } → EP X pins σ Q (.ref s.heap.objs.size) { s with heap:=h' }:=fun aN r' hz h' c' kp e =>
  ⟨.ref s.heap.objs.size,_,I.laid (t':=s.toks) kp (Nat.le_refl _) (show bW X.prog X.w _ h' _ (.lst ys) from ⟨hz,aN,c',r',e⟩),rfl,q _ (I.bK.fresh (Nat.le_refl _))⟩
 rcases hq with hq | hq
 ·obtain ⟨aN,r',pl,hz⟩:=I.list hq
  have hlen:=r'.length
  obtain ⟨o,ho,hc,n,hd⟩:=pl.isList
  exact call_list_seq p (.inl rfl) ho hc hd (fun h' c' kp e => fin aN r' hz h' c' kp e) (by simp only [List.size_toArray] <;> lia)
 ·obtain ⟨aN,r',pl,hz⟩:=I.tuple hq
  have hlen:=r'.length
  obtain ⟨o,ho,hc,n,hd⟩:=pl
  exact call_list_seq p (.inr rfl) ho hc hd (fun h' c' kp e => fin aN r' hz h' c' kp e) (by simp only [List.size_toArray] <;> lia)
theorem p9:cJ X (.type "tuple") (fun xs H Q => ∃ p ys,xs = [.ref p] ∧ ((mV X.K H p ys ∧ ∀ l,H l = none → Q (.ref l) (upd H l (.tup ys))) ∨ (jQ X.K H p ys ∧ Q (.ref p) H))):=by
 intro pins s σ H xs us Q I r h
 obtain ⟨p,ys,rfl,h⟩:=h
 obtain ⟨u,rfl,rx⟩:=vals1 r
 cases rx
 rcases h with ⟨hq,q⟩ | ⟨hq,q⟩
 ·obtain ⟨aN,r',pl,hz⟩:=I.list hq
  have hlen:=r'.length
  refine call_tuple_list pl.isList (fun h' kp => ?_) (by simp only [List.size_toArray] <;> lia)
  have I1:Inv X pins σ H { s with heap:=h' }:=I.kept (t':=s.toks) kp
  have I2:Inv X pins σ (upd H h'.objs.size (.tup ys)) { s with heap:=h'.push { cls:=.type "tuple",data:=.seq aN.toArray } } :=
   I1.laid (t':=s.toks) (fun b o e => Heap.get?_push_of_some _ e) (Nat.le_refl _) (show bW X.prog X.w _ _ _ (.tup ys) from ⟨hz,aN,r',IsTup.new _ _⟩)
  exact ⟨.ref h'.objs.size,_,I2,rfl,q _ (I1.bK.fresh (Nat.le_refl _))⟩
 ·obtain ⟨aN,r',pl,hz⟩:=I.tuple hq
  exact call_tuple_same pl ⟨.ref p,H,I,rfl,q⟩
noncomputable def LS (K:PySem.W.Frag) (T:String) (x:V) (H:Hp):Prop:=match x with
 | .str _ => T = "str"
 | .int _ => T = "int"
 | .ref p => (T = "list" ∧ ∃ xs,mV K H p xs) ∨ (T = "tuple" ∧ ∃ o,K.lookup p = some o ∧ o.cls = .type "tuple" ∧ o.dict = none) ∨
   (T = "dict" ∧ ((∃ aI,H p = some (.dK aI)) ∨ ∃ aI,H p = some (.dT aI))) ∨ (T = "set" ∧ ∃ S n,H p = some (.set S n))
 | _ => False
theorem zZ {pins:List (Addr × Obj)} {σ:St} {H:Hp} {s:Shared} {T:String} {x:V} {v:Value} (I:Inv X pins σ H s) (r:RelV x v) (ty:LS X.K T x H) :
  s.TypeIs v T ∧ ∀ a,v = .ref a → ∃ ob,s.heap.get? a = some ob ∧ ob.dict = none:=by
 cases x with
 | str z =>
  obtain ⟨t,rfl⟩:=r
  cases (show T = "str" from ty)
  exact ⟨typeIs_str s z t,fun _ e => nomatch e⟩
 | int i =>
  obtain ⟨t,rfl⟩:=r
  cases (show T = "int" from ty)
  exact ⟨typeIs_int s i t,fun _ e => nomatch e⟩
 | ref p =>
  cases r
  rcases ty with ⟨rfl,xs,hq⟩ | ⟨rfl,o,hk,hc,hd⟩ | ⟨rfl,hk⟩ | ⟨rfl,S,n,hk⟩
  ·obtain ⟨aN,_,pl,_⟩:=I.list hq
   refine ⟨pl.isList.typeIs,fun a e => ?_⟩
   cases e
   obtain ⟨o,n,e,c,hd,_⟩:=pl
   exact ⟨o,e,hd⟩
  ·refine ⟨⟨o,I.mS p o hk,hc⟩,fun a e => ?_⟩
   cases e
   exact ⟨o,I.mS _ o hk,hd⟩
  ·have z:∃ o,s.heap.get? p = some o ∧ o.ExactDict:=by
    rcases hk with ⟨aI,hk⟩ | ⟨aI,hk⟩
    ·obtain ⟨_,_,_,_,o,_,_,e,ex,_⟩:=I.bK p _ hk
     exact ⟨o,e,ex⟩
    ·obtain ⟨_,_,_,_,o,_,_,e,ex,_⟩:=I.bK p _ hk
     exact ⟨o,e,ex⟩
   obtain ⟨o,e,ex⟩:=z
   refine ⟨⟨o,e,ex.1⟩,fun a e2 => ?_⟩
   cases e2
   exact ⟨o,e,ex.2.1⟩
  ·obtain ⟨o,_,_,_,e,ex,_⟩:=I.bK p _ hk
   refine ⟨⟨o,e,ex.1⟩,fun a e2 => ?_⟩
   cases e2
   exact ⟨o,e,ex.2.1⟩
 | _ => exact False.elim ty
noncomputable def Nq (K:PySem.W.Frag) (T:String) (r:V → List V → Hp → VK → Prop) (to:TE):TE:=fun σ H Q => to σ H fun x H1 => LS K T x H1 ∧ r x [] H1 Q
noncomputable def Us (K:PySem.W.Frag) (T:String) (r:V → List V → Hp → VK → Prop) (to:TE) (t:TA):TE:=fun σ H Q => to σ H fun x H1 => LS K T x H1 ∧ t σ H1 fun xs H2 => r x xs H2 Q
variable {o e:Expr} {es:List Expr} {to:TE} {t:TA} {name:Str} {apos cC:Pos} {T id:String} {r:V → List V → Hp → VK → Prop}
theorem GB (pa:PlainAttrs T) (slot:Slot T name id) (GC:typeOf (.builtin id) = pure (.type "method_descriptor")) (hm:SV X id r) (ho:PE X o to)
  (ko:attributeBase o name X.env (eval o X.env) = eval o X.env:=by rfl) (kq:(apos.endLine == cC.line) = true:=by rfl):PE X (.Call (.Attribute o name apos) [] [] cC) (Nq X.K T r to):=by
 intro pins s σ H Q I h
 refine wpAny_Call_method0_late ko kq (c_ (ho pins s σ H _ I h) fun v s1 ⟨x,H1,I1,r1,ty,q1⟩ => ?_)
 obtain ⟨h1,h2⟩:=zZ I1 r1 ty
 exact ⟨T,id,pa,slot,GC,h1,h2,Calls.callWith_builtin rfl (PySem.evalArgs_none (hm pins s1 σ H1 x [] v [] Q I1 r1 .nil q1))⟩
theorem JG (pa:PlainAttrs T) (slot:Slot T name id) (GC:typeOf (.builtin id) = pure (.type "method_descriptor")) (hm:SV X id r) (ho:PE X o to) (ha:PA X (e :: es) t)
  (ko:attributeBase o name X.env (eval o X.env) = eval o X.env:=by rfl)
  (z8:((backTo cC (starEach (e :: es) X.env)).all (fun x => !x.1) && (backToKw cC (keywordEach [] X.env)).all (fun x => x.1.isSome)
   && decide ((e :: es).length + ([]:List Keyword).length + (if ([]:List Keyword).isEmpty then 0 else 1) < 30)) = true:=by rfl)
  (kq:(apos.endLine == cC.line) = true:=by rfl) (hs:starEach (e :: es) X.env = (false,eval e X.env) :: starEach es X.env:=by rfl) (oB:(backTo cC (starEach es X.env)).any (·.1) = false:=by rfl) :
  PE X (.Call (.Attribute o name apos) (e :: es) [] cC) (Us X.K T r to t):=by
 intro pins s σ H Q I h
 refine wpAny_Call_method_late ko z8 kq rfl (c_ (ho pins s σ H _ I h) fun v s1 ⟨x,H1,I1,r1,ty,q1⟩ => ?_)
 obtain ⟨h1,h2⟩:=zZ I1 r1 ty
 refine ⟨T,id,pa,slot,GC,h1,h2,?_⟩
 have hA:=ha cC pins s1 σ H1 _ I1 q1
 rw [hs] at hA ⊢
 refine Calls.callWith_builtin (by show (false || (backTo cC (starEach es X.env)).any (·.1)) = false; rw [oB] <;> rfl) (Calls.evalArgs_plain ?_)
 exact c_ hA fun us s2 ⟨vs,H2,I2,r2,q2⟩ => hm pins s2 σ H2 x vs v us Q I2 r1 r2 q2
end
end L2
namespace L2
open PySem PySem.Spec PyProof.Rows
noncomputable def EV (X:Cx) (id:String) (r:V → List V → Hp → VK → Prop):Prop :=
 ∀ (pins:List (Addr × Obj)) (s:Shared) (σ:St) (H:Hp) (x:V) (xs:List V) (v:Value) (us:List Value) (Q:VK),Inv X pins σ H s → RelV x v → Vals xs us → r x xs H Q →
  wpAny (model X.prog X.w) X.A (call (.builtin id) (v :: us)) (EP X pins σ Q) X.xe s
theorem Vals.one {x:V} {us:List Value} (p:Vals [x] us):∃ u,us = [u] ∧ RelV x u:=by
 cases p with
 | cons r t => cases t; exact ⟨_,rfl,r⟩
theorem Vals.two {x y:V} {us:List Value} (p:Vals [x,y] us):∃ u v,us = [u,v] ∧ RelV x u ∧ RelV y v:=by
 cases p with
 | cons r t =>
  obtain ⟨v,z,q⟩:=Vals.one t
  rw [z]
  exact ⟨_,v,rfl,r,q⟩
theorem Vals.zero:∀ {us:List Value},Vals [] us → us = []
 | _,.nil => rfl
theorem Vals.rep {xs:List V} {us:List Value} (h:Vals xs us):∀ k:Nat,Vals (List.replicate k xs).flatten (List.replicate k us).flatten
 | 0 => .nil
 | k + 1 => by
  rw [List.replicate_succ,List.replicate_succ,List.flatten_cons,List.flatten_cons]
  exact Vals.append h (Vals.rep h k)
theorem foldl_rep (aN:List Value):∀ (k:Nat) (acc:List Value),
  List.foldl (fun x1 x2 => x1 ++ x2) acc.toArray (List.replicate k aN.toArray) = (acc ++ (List.replicate k aN).flatten).toArray
 | 0,acc => by simp
 | k + 1,acc => by
  have e:acc.toArray ++ aN.toArray = (acc ++ aN).toArray:=by simp
  have e2:(acc ++ aN) ++ (List.replicate k aN).flatten = acc ++ (List.replicate (k + 1) aN).flatten:=by
   rw [List.replicate_succ,List.flatten_cons,List.append_assoc]
  rw [← e2,← foldl_rep aN k (acc ++ aN),← e,List.replicate_succ,List.foldl_cons]
section
variable {X:Cx} {pins:List (Addr × Obj)} {σ:St} {H:Hp} {s:Shared} {l b:Addr} {xs ys zs:List V}
theorem Inv.Nr {aN its':List Value} {n:Nat} {f:Array Value → Array Value} {t':Nat} (I:Inv X pins σ H s) (hH:H l = some (.lst xs))
  (e:s.heap.get? l = some { cls:=.type "list",data:=.seq aN.toArray n }) (hf:f aN.toArray = its'.toArray) (hv:Vals ys its') (hz:ys.length ≤ sizeLine) :
  Inv X pins σ (upd H l (.lst ys)) { s with heap:=s.heap.update l (Obj.mapSeq f),toks:=t' }:=by
 have q:=PySem.IsL.update e f
 rw [hf] at q
 refine I.write (x:=l) (e:=l) (by rw [hH]; exact trivial) (.inl rfl) (fun b' u hb hu => (Heap.get?_update_other s.heap (Obj.mapSeq f) (Ne.symm hb)).trans hu) ⟨_,q⟩ ?_
 exact ⟨hz,its',_,hv,q⟩
theorem Inv.JH {aN:List Value} {t':Nat} (I:Inv X pins σ H s) (hv:Vals ys aN) (hz:ys.length ≤ sizeLine) :
  Inv X pins σ (upd H s.heap.objs.size (.lst ys)) { s with heap:=s.heap.push { cls:=.type "list",data:=.seq aN.toArray },toks:=t' } :=
 I.laid (fun _ _ q => Heap.get?_push_of_some _ q) (Nat.le_refl _) ⟨hz,aN,0,hv,Heap.get?_push_size _ rfl⟩
theorem Inv.fresh (I:Inv X pins σ H s):H s.heap.objs.size = none:=I.bK.fresh (Nat.le_refl _)
theorem Inv.C4 (I:Inv X pins σ H s) (hH:H l = some (.lst xs)):xs.length ≤ sizeLine ∧ ∃ (aN:List Value) (n:Nat),Vals xs aN ∧ xs.length = aN.length ∧ s.heap.get? l = some { cls:=.type "list",data:=.seq aN.toArray n }:=by
 obtain ⟨z,aN,n,r,e⟩:=I.bK l _ hH
 exact ⟨z,aN,n,r,r.length,e⟩
theorem z9 {n:Nat} (h:n ≤ sizeLine):Builtin.List.listTooLong n = false:=by
 unfold Builtin.List.listTooLong
 exact decide_eq_false (by lia)
end
section
variable {X:Cx}
noncomputable def C5:V → List V → Hp → VK → Prop:=fun x vs H Q => ∃ l xs y,x = .ref l ∧ vs = [y] ∧ H l = some (.lst xs) ∧ xs.length < sizeLine ∧ Q .eR (upd H l (.lst (xs ++ [y])))
theorem yi:EV X "list.append" C5:=by
 intro pins s σ H x vs v us Q I rx rv h
 obtain ⟨l,xs,y,rfl,rfl,hH,hz,q⟩:=h
 cases rx
 obtain ⟨u,rfl,ru⟩:=rv.one
 obtain ⟨z,aN,n,r,hl,e⟩:=I.C4 hH
 refine call_meets F.slot_list_append ⟨_,e,rfl⟩ F.entry_list_append (F.args_list_append_2 _ _) (PySem.list_append l aN.toArray n u (by rw [List.size_toArray]; lia)) ⟨e,?_⟩
 refine ⟨.eR,_,I.Nr (its':=aN ++ [u]) hH e (by simp) (r.append (.cons ru .nil)) ?_,rfl,q⟩
 rw [List.length_append,List.length_singleton]
 lia
noncomputable def LU:V → List V → Hp → VK → Prop:=fun x vs H Q => ∃ l b xs zs,x = .ref l ∧ vs = [.ref b] ∧ H l = some (.lst xs) ∧ H b = some (.lst zs) ∧ xs.length + zs.length ≤ sizeLine ∧ Q .eR (upd H l (.lst (xs ++ zs)))
noncomputable def Nt:R2:=fun x y H Q => ∃ l b xs zs,x = .ref l ∧ y = .ref b ∧ H l = some (.lst xs) ∧ H b = some (.lst zs) ∧ xs.length + zs.length ≤ sizeLine ∧ ∀ p,H p = none → Q (.ref p) (upd H p (.lst (xs ++ zs)))
theorem GD:eQ X (binaryOp .Add) Nt:=by
 intro pins s σ H x y v u Q I rx ry h
 obtain ⟨l,b,xs,zs,rfl,rfl,hH,hB,hz,q⟩:=h
 cases rx
 cases ry
 obtain ⟨z,aN,n,r,hl,e⟩:=I.C4 hH
 obtain ⟨z2,d0,n2,r2,wU,e2⟩:=I.C4 hB
 refine PySem.P.add_list e e2 ?_ (by rw [List.size_toArray,List.size_toArray]; lia)
 have ea:aN.toArray ++ d0.toArray = (aN ++ d0).toArray:=by simp
 rw [ea]
 exact ⟨.ref _,_,I.JH (t':=s.toks) (r.append r2) (by rw [List.length_append]; lia),rfl,q _ I.fresh⟩
noncomputable def Nu:R2:=fun x y H Q => ∃ l k xs,x = .ref l ∧ y = .int k ∧ H l = some (.lst xs) ∧ -(2 ^ 63) ≤ k ∧ k < 2 ^ 63 ∧ xs.length * k.toNat ≤ sizeLine ∧
 ∀ p,H p = none → Q (.ref p) (upd H p (.lst (List.replicate k.toNat xs).flatten))
theorem len_rep {α:Type} (xs:List α) (k:Nat):(List.replicate k xs).flatten.length = k * xs.length:=by
 induction k with
 | zero => simp
 | succ k ih => rw [List.replicate_succ,List.flatten_cons,List.length_append,ih,Nat.succ_mul,Nat.add_comm]
theorem GF:eQ X (binaryOp .Mult) Nu:=by
 intro pins s σ H x y v u Q I rx ry h
 obtain ⟨l,k,xs,rfl,rfl,hH,h1,h2,hz,q⟩:=h
 cases rx
 obtain ⟨t,rfl⟩:=ry
 obtain ⟨z,aN,n,r,hl,e⟩:=I.C4 hH
 have hlen:aN.toArray.size * k.toNat ≤ sizeLine:=by rw [List.size_toArray,← hl]; exact hz
 have GG:¬ aN.toArray.size * k.toNat > (2 ^ 63 - 1) / 8:=by
  have:(sizeLine:Nat) ≤ (2 ^ 63 - 1) / 8:=by decide
  lia
 have Nv:¬ (!Builtin.List.listFitsIndex k) = true:=by
  rw [fitsIndex_both h1 h2]
  exact Bool.false_ne_true
 have JI:¬ Builtin.List.listTooLong (aN.toArray.size * k.toNat) = true:=by
  rw [z9 hlen]
  exact Bool.false_ne_true
 have Nw:List.foldl (fun x1 x2 => x1 ++ x2) #[] (List.replicate (if aN.toArray.isEmpty = true then 0 else k.toNat) aN.toArray) = (List.replicate k.toNat aN).flatten.toArray:=by
  have f0:∀ m:Nat,List.foldl (fun x1 x2 => x1 ++ x2) #[] (List.replicate m aN.toArray) = (List.replicate m aN).flatten.toArray:=fun m => by
   have:=foldl_rep aN m []
   rw [List.nil_append] at this
   exact this
  rw [f0]
  cases aN with
  | nil => simp
  | cons a r' => rw [if_neg (by simp)]
 refine wpAny_binaryOp_repeat_ref (T:="list") (U:="int") (by decide) ⟨_,e,rfl⟩ (fun s' => typeIs_int s' k t) noFill_list_mul F.fills_int_mul F.slot_int_rmul repeat_list F.slot_int_index.lookup
  (call_meets F.slot_int_rmul (typeIs_int s k t) F.entry_int_rmul (F.args_int_rmul_2 _ _) (int___rmul___int_list k t l aN.toArray n)
   ⟨e,rfl,⟨_,e,rfl⟩,call_meets F.slot_list_mul ⟨_,e,rfl⟩ F.entry_list_mul (F.args_list_mul_2 _ _) (AutoListH.list___mul___list_int_3 l aN.toArray n k t Nv GG JI) ⟨e,?_⟩⟩)
 rw [Nw]
 exact ⟨.ref _,_,I.JH (t':=s.toks) (r.rep k.toNat) (by rw [len_rep,Nat.mul_comm]; exact hz),rfl,q _ I.fresh⟩
end
section
variable {prog:Program} {w:World} {A:Around} {E:Value → Shared → Prop} {s:Shared}
set_option maxRecDepth 100000 in
end
section
variable {X:Cx}
end
end L2
namespace SX
open PySem PySem.W PySem.Calls PyProof.Rows
theorem nh {P:Params} {h:Heap}:∀ (ns:List Int) (vs:List Value),WellAll P h vs (ns.map WData.int) → IntsAre vs ns:=by
 intro ns
 induction ns with
 | nil =>
  intro vs w
  rw [List.map_nil] at w
  cases w
  exact .nil
 | cons n ns ih =>
  intro vs w
  rw [List.map_cons] at w
  cases w with
  | cons a b =>
   cases a
   exact .cons _ _ (ih _ b)
theorem yj {l:OpenLaw} {n:Nat} (hn:l.most = some n) {P:Params} {h:Heap} {args:List WData} {vals:List Value}
  (C6:l.row.toRowW.claim.pre args = true) (Nx:WellAll P h vals args) :
  ∃ a vs ns,vals = [Value.ref a] ∧ args = [WData.list (ns.map WData.int)] ∧ h.get? a = some { cls:=.type "list",data:=.seq vs.toArray } ∧ IntsAre vs ns ∧ ns.length ≤ n:=by
 have Ut:WShape.hasAll [] args [.list .int] = true:=(pre_splitW C6).1
 have hc:l.pre.holds [] { args:=args } = true:=(pre_splitW C6).2
 obtain ⟨d,r,rfl,h1,h2⟩:=hasAllW_cons Ut
 obtain rfl:=hasAllW_nil h2
 obtain ⟨xs,rfl,h3⟩:=hasW_list h1
 obtain ⟨ns,rfl⟩:=items_int h3
 have hlen:ns.length ≤ n:=by
  unfold OpenLaw.pre at hc
  have h4:(WTm.not (.lt (.lit (.int (n:Int))) (.len (.arg 0)))).holds [] { args:=[.list (ns.map .int)] } = true:=by
   have h4:=(holds_andW hc).1
   rw [hn] at h4
   exact h4
  have h5:=condW_of h4 (w_not (w_lt w_lit (w_len_list (w_arg rfl))))
  rw [List.length_map] at h5
  refine Nat.le_of_not_lt fun q => ?_
  have q':(n:Int) < ((ns.length:Nat):Int):=by lia
  first
   | (rw [decide_eq_true q'] at h5; exact absurd h5 (by decide))
   | (simp at h5; lia)
 cases Nx with
 | cons w1 w2 =>
  cases w2
  cases w1 with
  | list ho GH => exact ⟨_,_,ns,rfl,rfl,ho,nh ns _ GH,hlen⟩
theorem yk (l:OpenLaw) (args:List WData):l.row.toRowW.claim.post args (.bool true) args = true :=
 postW_of (r:=l.row.toRowW) (X:=(true == true))
  (show WShape.has [] (.bool true) .bool = true by first | rfl | decide | simp [WShape.has,WShape.arms,WShape.armsAll])
  (show (WTm.eq .res (.lit (.bool true))).value [] { args:=args,res:=some (.bool true),after:=args } = some (.bool (true == true)) from w_eq_bool (w_res rfl) w_lit) rfl
theorem tP {l:OpenLaw} {n:Nat} {q:Program} {loose:List Str} {XP:(Str → Option Value) → Heap → Prop} {YP:World → Heap → Prop} {d:DefRec}
  (hn:l.most = some n) (JJ:d.params.defaults = [])
  (call:∀ (w:World) (s₀ s₁:Shared) (mg mb:Str → Option Value) (fa:Addr) (o:Obj) (pm cd doc:Value) (a:Addr) (vs:List Value) (ns:List Int),
   Ground q loose [] XP w s₀ mg mb s₁.heap → YP w s₁.heap →
   s₁.heap.get? fa = some o → o.data = .func (docDef d.name d.params d.body d.scope pm cd doc) → s₁.heap.CodeRec cd d.name → mg d.name = some (.ref fa) →
   s₁.heap.get? a = some { cls:=.type "list",data:=.seq vs.toArray } → IntsAre vs ns → ns.length ≤ n → s₁.gens = #[] →
   codeAny (model l.prog w) callerA (.call (.ref fa) ⟨[.ref a],[]⟩) (fun r s' => r = .ok (.ret (.bool true)) ∧ OldK s₁.heap s'.heap ∧ s'.os = s₁.os ∧ AllBare s'.gens) s₁) :
  WalkO q loose XP YP l.row.toRowW d [] (fun f vs => PySem.call f vs):=by
 intro w s₀ s₁ mg mb G Y fa o pm cd doc dV kV ho hd mU hD JK hg args vals as C6 Uu Xz Nx IK
 obtain rfl:dV = .none:=Dflts.none hD JJ
 obtain rfl:kV = .none:=Dflts.noKw hD
 obtain ⟨a,vs,ns,rfl,rfl,GI,hints,hlen⟩:=yj hn C6 Nx
 refine enter_call (codeAny_mono (call w s₀ s₁ mg mb fa o pm cd doc a vs ns G Y ho (fd_plain hd) mU JK GI hints hlen hg) fun r s' hq => ?_)
 obtain ⟨rfl,h2,h3,h4⟩:=hq
 exact ⟨.inl ⟨.bool true,.bool true,[],rfl,fun _ => rfl,.bool true,yk l _,fun _ => ⟨List.Pairwise.nil,fun _ hm => (nomatch hm)⟩⟩,h2,h3,h4⟩
section
variable {prog:Program} {w:World} {A:Around} {E:Value → Shared → Prop} {s:Shared} {K:Frag}
end
end SX
namespace L2
open PySem PySem.Spec PyProof.Rows
theorem qw:∀ {vs:List Value} {ns:List Int},IntsAre vs ns → Vals (ns.map V.int) vs
 | _,_,.nil => .nil
 | _,_,.cons n t h => .cons ⟨t,rfl⟩ (qw h)
end L2
namespace L2
open PySem PySem.Spec PyProof.Rows
end L2
namespace L2
open PySem PySem.Spec PyProof.Rows
noncomputable def aS (s:Stmt):Arguments:=match s with
 | .FunctionDef _ a _ _ _ _ _ _ _ _ => a
 | _ => { posonlyargs:=[],args:=[],vararg:=none,kwonlyargs:=[],kw_defaults:=[],kwarg:=none,defaults:=[] }
noncomputable def aM (s:Stmt):List Stmt:=match s with
 | .FunctionDef _ _ b _ _ _ _ _ _ _ => b
 | _ => []
noncomputable def ao (s:Stmt):Scope:=match s with
 | .FunctionDef _ _ _ _ _ _ sc _ _ _ => sc
 | _ => { kind:=.function,names:=[],isGenerator:=false,isCoroutine:=false }
noncomputable abbrev E0:XK:=fun _ _ _ => False
structure i5 (K:PySem.W.Frag) (x qual:Str) (st:Stmt) (f:Addr) (fd:FuncData):Prop where
 ex:∃ (oc:Value) (od:Option Addr) (kV doc pm:Value) (an:Option Addr) (da ct:Value) (CW:Array (Option Value)),
  fd = PySem.W.fnOf x qual (aS st) (aM st) (ao st) .none kV doc pm an da ct ∧ K.lookup f = some ⟨oc,od,.func fd,CW⟩ ∧ PySem.W.codeIn K da qual = true
 kp:PySem.W.keepIn K (.ref f) = true
section
variable {P:Program} {w:World} {K:PySem.W.Frag} {mg:Str → Option Value} {base:Heap}
theorem i5.binds {x qual:Str} {st:Stmt} {f:Addr} {fd:FuncData} {ps:List Str} (F:i5 K x qual st f fd)
  (h:∀ (kV doc pm:Value) (an:Option Addr) (da ct:Value) (us:List Value),us.length = ps.length → bindArgs (PySem.W.fnOf x qual (aS st) (aM st) (ao st) .none kV doc pm an da ct) ⟨us,[]⟩ = pure (ps.zip us)):Binds K fd ps []:=by
 obtain ⟨oc,od,kV,doc,pm,an,da,ct,CW,rfl,lk,mU⟩:=F.ex
 exact .all (h kV doc pm an da ct)
theorem bX {x qual:Str} {st:Stmt} {f:Addr} {oc:Value} {od an:Option Addr} {CW:Array (Option Value)} {kV doc pm da ct:Value} (l:K.lookup f = some ⟨oc,od,.func (PySem.W.fnOf x qual (aS st) (aM st) (ao st) .none kV doc pm an da ct),CW⟩)
  (c:PySem.W.codeIn K da qual = true) (k:PySem.W.keepIn K (.ref f) = true):i5 K x qual st f (PySem.W.fnOf x qual (aS st) (aM st) (ao st) .none kV doc pm an da ct):=⟨⟨oc,od,kV,doc,pm,an,da,ct,CW,rfl,l,c⟩,k⟩
end
section
variable {X:Cx}
end
noncomputable def jW (H H':Hp):Prop:=∀ b o,H b = some o → H' b = some o
theorem jW.refl (H:Hp):jW H H:=fun _ _ h => h
end L2
namespace L2
open PySem PySem.Spec PyProof.Rows
section
variable {κ:Type} [DecidableEq κ]
noncomputable def iB (aI:List (κ × V)) (k:κ):Option V:=(aI.find? fun kv => decide (kv.1 = k)).map (·.2)
noncomputable def putK (aI:List (κ × V)) (k:κ) (v:V):List (κ × V) :=
 if (aI.any fun kv => decide (kv.1 = k)) = true then aI.map (fun kv => if kv.1 = k then (kv.1,v) else kv) else aI ++ [(k,v)]
theorem oC {p:κ × V} {r:List (κ × V)} {k:κ} (e:p.1 = k):iB (p :: r) k = some p.2:=by simp [iB,List.find?_cons,e]
theorem oD {p:κ × V} {r:List (κ × V)} {k:κ} (e:¬ p.1 = k):iB (p :: r) k = iB r k:=by simp [iB,List.find?_cons,e]
theorem tQ (k:κ):∀ aI:List (κ × V),(aI.any fun kv => decide (kv.1 = k)) = (iB aI k).isSome
 | [] => rfl
 | p :: r => by
  rw [List.any_cons]
  by_cases e:p.1 = k
  ·simp only [oC e,decide_eq_true e,Bool.true_or,Option.isSome_some]
  ·rw [oD e,decide_eq_false e,Bool.false_or]; exact tQ k r
theorem mW (aI:List (κ × V)) (k:κ) (v:V):(putK aI k v).length ≤ aI.length + 1:=by
 unfold putK
 split
 ·rw [List.length_map]; lia
 ·rw [List.length_append,List.length_cons,List.length_nil]; lia
theorem lB.ym {o:Option V} {u:Option Value} (r:lB o u):o.isSome = u.isSome:=by
 cases o with
 | none => cases u with
  | none => rfl
  | some _ => exact (show False from r).elim
 | some _ => cases u with
  | none => exact (show False from r).elim
  | some _ => rfl
theorem lB.getD {o:Option V} {u:Option Value} {d:V} {d':Value} (r:lB o u) (rd:RelV d d'):RelV (o.getD d) (u.getD d'):=by
 cases o with
 | none => cases u with
  | none => exact rd
  | some _ => exact (show False from r).elim
 | some _ => cases u with
  | none => exact (show False from r).elim
  | some _ => exact r
theorem KV.val {aI:List (κ × V)} {vs:List (κ × Value)} (r:KV aI vs) (k:κ):lB (iB aI k) (valueAt vs k):=by
 unfold KV at r
 induction r with
 | nil => exact True.intro
 | @cons p q ps qs h t ih =>
  obtain ⟨h1,h2⟩:=h
  by_cases e:p.1 = k
  ·have e':q.1 = k:=h1.symm.trans e
   have b:valueAt (q :: qs) k = some q.2:=by simp [valueAt,List.find?_cons,e']
   rw [oC e,b]; exact h2
  ·have e':¬ q.1 = k:=fun z => e (h1.trans z)
   have b:valueAt (q :: qs) k = valueAt qs k:=by simp [valueAt,List.find?_cons,e']
   rw [oD e,b]; exact ih
theorem KV.any {aI:List (κ × V)} {vs:List (κ × Value)} (r:KV aI vs) (k:κ):(aI.any fun kv => decide (kv.1 = k)) = vs.any fun kv => decide (kv.1 = k):=by
 unfold KV at r
 induction r with
 | nil => rfl
 | cons h t ih => rw [List.any_cons,List.any_cons,ih,h.1]
theorem KV.rT {aI:List (κ × V)} {vs:List (κ × Value)} (r:KV aI vs) (k:κ) {y:V} {u:Value} (ry:RelV y u) :
  KV (aI.map fun kv => if kv.1 = k then (kv.1,y) else kv) (vs.map fun kv => if kv.1 = k then (kv.1,u) else kv):=by
 unfold KV at r ⊢
 induction r with
 | nil => exact .nil
 | @cons p q ps qs h t ih =>
  rw [List.map_cons,List.map_cons]
  refine .cons ?_ ih
  obtain ⟨h1,h2⟩:=h
  by_cases e:p.1 = k
  ·rw [if_pos e,if_pos (h1.symm.trans e)]; exact ⟨h1,ry⟩
  ·rw [if_neg e,if_neg (fun z => e (h1.trans z))]; exact ⟨h1,h2⟩
theorem KV.put {aI:List (κ × V)} {vs:List (κ × Value)} (r:KV aI vs) (k:κ) {y:V} {u:Value} (ry:RelV y u):KV (putK aI k y) (stored vs k u):=by
 unfold putK stored
 rw [r.any k]
 by_cases e:(vs.any fun kv => decide (kv.1 = k)) = true
 ·rw [if_pos e,if_pos e]; exact r.rT k ry
 ·rw [if_neg e,if_neg e]; exact Paired.snoc r ⟨rfl,ry⟩
theorem KV.length {aI:List (κ × V)} {vs:List (κ × Value)} (r:KV aI vs):aI.length = vs.length:=Paired.length r
end
theorem wV {P:Program} {w:World} {k:Key} {u:Value} (r:RelV (kV k) u):(dr P w).is k u = true:=by
 cases k with
 | inl i => obtain ⟨t,e⟩:=(show ∃ t,u = Value.int i t from r); subst e; exact tH P w i t
 | inr x => obtain ⟨t,e⟩:=(show ∃ t,u = Value.str x t from r); subst e; exact tJ P w x t
theorem qx {P:Program} {w:World}:∀ {ks:List Key} {us:List Value},Vals (ks.map kV) us → ItemsAre (dr P w) ks us
 | [],_,r => by rw [List.map_nil] at r; cases r; exact .nil
 | k :: ks,_,r => by
  rw [List.map_cons] at r
  cases r with
  | cons h t => exact .cons (wV h) (qx t)
noncomputable abbrev KT (H:Hp):List (List Key × V) → List (List Key × Addr × Value) → Prop:=Paired fun p q => p.1 = q.1 ∧ H q.2.1 = some (.tup (p.1.map kV)) ∧ RelV p.2 q.2.2
theorem KT.val {H:Hp} {aI:List (List Key × V)} {xs:List (List Key × Addr × Value)} (r:KT H aI xs) (k:List Key):lB (iB aI k) ((atKey xs k).map (·.2)):=by
 induction r with
 | nil => exact True.intro
 | @cons p q ps qs h t ih =>
  obtain ⟨h1,_,h2⟩:=h
  by_cases e:p.1 = k
  ·have e':q.1 = k:=h1.symm.trans e
   have b:atKey (q :: qs) k = some q.2:=by simp [atKey,List.find?_cons,e']
   rw [oC e,b]; exact h2
  ·have e':¬ q.1 = k:=fun z => e (h1.trans z)
   have b:atKey (q :: qs) k = atKey qs k:=by simp [atKey,List.find?_cons,e']
   rw [oD e,b]; exact ih
theorem KT.rT {H:Hp} {aI:List (List Key × V)} {xs:List (List Key × Addr × Value)} (r:KT H aI xs) (k:List Key) {y:V} {u:Value} (ry:RelV y u) :
  KT H (aI.map fun kv => if kv.1 = k then (kv.1,y) else kv) (xs.map (putAt k u)):=by
 induction r with
 | nil => exact .nil
 | @cons p q ps qs h t ih =>
  rw [List.map_cons,List.map_cons]
  refine .cons ?_ ih
  obtain ⟨h1,h2,h3⟩:=h
  unfold putAt
  by_cases e:p.1 = k
  ·rw [if_pos e,if_pos (h1.symm.trans e)]; exact ⟨h1,h2,ry⟩
  ·rw [if_neg e,if_neg (fun z => e (h1.trans z))]; exact ⟨h1,h2,h3⟩
theorem KT.put {H:Hp} {aI:List (List Key × V)} {xs:List (List Key × Addr × Value)} (r:KT H aI xs) (k:List Key) {b:Addr} {y:V} {u:Value} (hb:H b = some (.tup (k.map kV))) (ry:RelV y u) :
  KT H (putK aI k y) (storedH xs k b u):=by
 have e:(aI.any fun kv => decide (kv.1 = k)) = (atKey xs k).isSome:=by
  rw [tQ,(r.val k).ym,Option.isSome_map]
 unfold putK storedH
 rw [e]
 by_cases q:(atKey xs k).isSome = true
 ·rw [if_pos q,if_pos q]; exact r.rT k ry
 ·rw [if_neg q,if_neg q]; exact Paired.snoc r ⟨rfl,hb,ry⟩
theorem KT.keeps {H H':Hp} {aI:List (List Key × V)} {xs:List (List Key × Addr × Value)} (r:KT H aI xs) (ht:∀ b ys,H b = some (.tup ys) → H' b = some (.tup ys)):KT H' aI xs :=
 Paired.FI r fun _ _ z => ⟨z.1,ht _ _ z.2.1,z.2.2⟩
section
variable {P:Program} {w:World} {H:Hp} {h:Heap} {a:Addr}
theorem EW {u:HO} (ok:gG P w H h) (e:Rd H a u):bW P w H h a u:=e.ok ok
theorem tR {aI:List (Key × V)} (ok:gG P w H h) (e:Rd H a (.dK aI)):aI.length ≤ sizeLine ∧ (a == sysModules) = false ∧ ∃ vs,KV aI vs ∧ h.DictOf (dr P w) a vs :=
 show bW P w H h a (.dK aI) from EW ok e
theorem JL {aI:List (Key × V)} (ok:gG P w H h) (e:H a = some (.dK aI)):aI.length ≤ sizeLine ∧ (a == sysModules) = false ∧ ∃ vs,KV aI vs ∧ h.DictOf (dr P w) a vs:=tR ok (.inl e)
theorem rV {ks:List Key} (ok:gG P w H h) (e:H a = some (.tup (ks.map kV))):(tupleKind (dr P w)).is h ks a:=by
 obtain ⟨_,aN,r,o,h1,h2,n,h3⟩:=(show bW P w H h a (.tup (ks.map kV)) from ok a _ e)
 exact ⟨o,aN.toArray,n,h1,h2,h3,by simpa using qx r⟩
theorem tU {aI:List (List Key × V)} (ok:gG P w H h) (e:Rd H a (.dT aI)):aI.length ≤ sizeLine ∧ (a == sysModules) = false ∧
  ∃ xs,KT H aI xs ∧ h.DictOfH (tupleKind (dr P w)) a xs:=by
 obtain ⟨z,y,xs,r,o,es,ep,h1,h2,h3,h4,h5⟩:=(show bW P w H h a (.dT aI) from EW ok e)
 refine ⟨z,y,xs,r,o,es,ep,h1,h2,h3,h4,fun x hx => ?_,h5⟩
 have all:∀ {l:List (List Key × V)} {m:List (List Key × Addr × Value)},KT H l m → ∀ x ∈ m,(tupleKind (dr P w)).is h x.1 x.2.1:=by
  intro l m q
  induction q with
  | nil => intro x hx; exact nomatch hx
  | @cons p q ps qs hq t ih =>
   intro x hx
   rcases List.mem_cons.mp hx with e | hx
   ·subst e
    exact rV ok (by rw [← hq.1]; exact hq.2.1)
   ·exact ih x hx
 exact all r x hx
theorem JM {aI:List (List Key × V)} (ok:gG P w H h) (e:H a = some (.dT aI)):aI.length ≤ sizeLine ∧ (a == sysModules) = false ∧
  ∃ xs,KT H aI xs ∧ h.DictOfH (tupleKind (dr P w)) a xs:=tU ok (.inl e)
end
noncomputable def ni (H:Hp) (a:Addr) (y:V) (r:Option V):Prop :=
 (∃ aI k,Rd H a (.dK aI) ∧ y = kV k ∧ r = iB aI k) ∨ ∃ aI k b,Rd H a (.dT aI) ∧ y = .ref b ∧ H b = some (.tup (k.map kV)) ∧ r = iB aI k
noncomputable def rW (H:Hp) (a:Addr) (y v:V) (H':Hp):Prop :=
 (∃ aI k,H a = some (.dK aI) ∧ y = kV k ∧ aI.length < sizeLine ∧ H' = upd H a (.dK (putK aI k v))) ∨
 ∃ aI k b,H a = some (.dT aI) ∧ y = .ref b ∧ H b = some (.tup (k.map kV)) ∧ aI.length < sizeLine ∧ H' = upd H a (.dT (putK aI k v))
theorem ni.k {H:Hp} {a:Addr} {aI:List (Key × V)} {k:Key} (e:H a = some (.dK aI)):ni H a (kV k) (iB aI k):=.inl ⟨aI,k,.inl e,rfl,rfl⟩
theorem ni.t {H:Hp} {a b:Addr} {aI:List (List Key × V)} {k:List Key} (e:H a = some (.dT aI)) (eb:H b = some (.tup (k.map kV))):ni H a (.ref b) (iB aI k):=.inr ⟨aI,k,b,.inl e,rfl,eb,rfl⟩
theorem rW.k {H:Hp} {a:Addr} {aI:List (Key × V)} {k:Key} {v:V} (e:H a = some (.dK aI)) (hl:aI.length < sizeLine):rW H a (kV k) v (upd H a (.dK (putK aI k v))):=.inl ⟨aI,k,e,rfl,hl,rfl⟩
theorem rW.t {H:Hp} {a b:Addr} {aI:List (List Key × V)} {k:List Key} {v:V} (e:H a = some (.dT aI)) (eb:H b = some (.tup (k.map kV))) (hl:aI.length < sizeLine) :
  rW H a (.ref b) v (upd H a (.dT (putK aI k v))):=.inr ⟨aI,k,b,e,rfl,eb,hl,rfl⟩
section
variable {X:Cx} {pins:List (Addr × Obj)} {σ:St} {H:Hp} {s:Shared} {a:Addr} {y v:V} {u r:Value} {o:Option V} {A:Around} {E:Value → Shared → Prop}
theorem Inv.big (I:Inv X pins σ H s):sysModules < s.heap.objs.size:=by
 have h:mainGlobals < s.heap.objs.size:=(I.mod.glob.keeps I.bk).lt
 exact Nat.lt_trans (by decide) h
theorem yn {Q:Value → Shared → Prop} (hu:A.units + 1 < cLine) (I:Inv X pins σ H s) (g:ni H a y (some v)) (ry:RelV y u) (h:∀ w' s',Inv X pins σ H s' → RelV v w' → Q w' s') :
  wpAny (model X.prog X.w) A (getItem (.ref a) u) Q E s:=by
 rcases g with ⟨aI,k,e,ey,l⟩ | ⟨aI,k,b,e,ey,eb,l⟩
 ·subst ey
  obtain ⟨z,hd,vs,rel,dd⟩:=tR I.bK e
  obtain ⟨w',hw,tM⟩:=lB.some_of (v:=v) (o:=valueAt vs k) (by rw [l]; exact rel.val k)
  exact wpAny_getItem_of (wV ry) dd.mapOf hw (h w' _ (I.tok _) tM)
 ·subst ey
  cases (show u = Value.ref b from ry)
  obtain ⟨z,hd,xs,rel,dd⟩:=tU I.bK e
  obtain ⟨w',hw,tM⟩:=lB.some_of (v:=v) (o:=(atKey xs k).map (·.2)) (by rw [l]; exact rel.val k)
  obtain ⟨p,hp,Uv⟩:=Option.map_eq_some_iff.mp hw
  refine wpAny_getItem_heap (tupleKind_room_in1 hu) (rV I.bK eb) dd hp ?_
  rw [Uv]
  exact h w' _ (I.tok _) tM
theorem wW {h':Heap} {t':Nat} {ob:HO} (I:Inv X pins σ H s) (mu:Jb (H a)) (hs:Heap.SameBut a s.heap h') (he:∃ q,h'.get? a = some q) (new:bW X.prog X.w (upd H a ob) h' a ob) :
  Inv X pins σ (upd H a ob) { s with heap:=h',toks:=t' } :=
 I.write (x:=a) (e:=a) mu (.inl rfl) (fun b q hb z => (hs.2 b hb).trans z) he new
theorem GJ {P:Program} {w:World} {H':Hp} {h':Heap} {aI:List (Key × V)} {vs:List (Key × Value)} (z:aI.length ≤ sizeLine) (hd:(a == sysModules) = false) (rel:KV aI vs) (dd:h'.DictOf (dr P w) a vs) :
  bW P w H' h' a (.dK aI):=⟨z,hd,vs,rel,dd⟩
theorem yo {H':Hp} {Q:Unit → Shared → Prop} (hu:A.units + 1 < cLine) (I:Inv X pins σ H s) (g:rW H a y v H') (ry:RelV y u) (rv:RelV v r) (h:∀ s',Inv X pins σ H' s' → Q () s') :
  wpAny (model X.prog X.w) A (setItem (.ref a) u r) Q E s:=by
 rcases g with ⟨aI,k,e,ey,l,eH⟩ | ⟨aI,k,b,e,ey,eb,l,eH⟩
 ·subst ey eH
  obtain ⟨z,hd,vs,rel,dd⟩:=JL I.bK e
  have hz:vs.length ≤ sizeLine:=by rw [← rel.length]; exact z
  have hl:(putK aI k v).length ≤ sizeLine:=by have:=mW aI k v; lia
  refine wpAny_setItem_pairs (hsz:=hz) (wV ry) dd fun h' LV hs => h _ ?_
  have he:∃ q,h'.get? a = some q:=let ⟨q,_,_,hq,_⟩:=LV; ⟨q,hq⟩
  exact wW I (by rw [e]; exact True.intro) hs he (GJ hl hd (rel.put k rv) LV)
 ·subst ey eH
  cases (show u = Value.ref b from ry)
  obtain ⟨z,hd,xs,rel,dd⟩:=JM I.bK e
  have hz:xs.length ≤ sizeLine:=by rw [← Paired.length rel]; exact z
  have hl:(putK aI k v).length ≤ sizeLine:=by have:=mW aI k v; lia
  refine wpAny_setItem_heap (hsz:=hz) (tupleKind_room_in1 hu) (rV I.bK eb) dd fun h' LV hs => h _ ?_
  obtain ⟨q,es,ep,hq,h2,h3,h4,_,h5⟩:=LV
  refine wW I (by rw [e]; exact True.intro) hs ⟨q,hq⟩ ⟨hl,hd,_,(rel.put k eb rv).keeps fun c ys ec => ?_,q,es,ep,hq,h2,h3,h4,h5⟩
  rw [aE (Ja ec e (fun z => nomatch z))]
  exact ec
end
section
variable {X:Cx} {pins:List (Addr × Obj)} {σ:St} {H:Hp} {s:Shared} {a:Addr} {aI:List (Key × V)} {k:Key} {u:Value} {A:Around} {E:Value → Shared → Prop}
end
noncomputable def GK (i:Expr):Prop:=∀ ov iv,subscripted i false ov iv = operate [ov,iv] (getItem ov iv)
theorem C7 {prog:Program} {w:World} {A:Around} {E:Value → Shared → Prop} {s:Shared} {env:Env} {value slice:Expr} {pos:Pos} {T id:String} {Q:Value → Shared → Prop}
  (hl:typeLookup (.type T) "__getitem__" = pure (some (.builtin id))) (hs:GK slice)
  (h:wpAny (model prog w) A (eval value env) (fun o s₁ => wpAny (model prog w) A (eval slice env) (fun i s₂ => s₂.TypeIs o T ∧ wpAny (model prog w) A (getItem o i) Q E s₂) E s₁) E s) :
  wpAny (model prog w) A (eval (.Subscript value slice pos) env) Q E s:=by
 refine Subscript_ (wpAny_mono h (fun o s₁ h₁ => wpAny_mono h₁ (fun i s₂ h₂ => ?_) fun _ _ x => x) fun _ _ x => x)
 obtain ⟨hT,h₂⟩:=h₂
 unfold subscriptTail
 refine wpAny_bind ?_
 rw [getitemInPython_of_ne hT.not_modules]
 refine wpAny_bind (wpAny_specialOf hT hl ?_)
 have fin:wpAny (model prog w) A (subscripted slice false o i) (fun r s₃ => wpAny (model prog w) A (letTemporaryGo value o r >>= fun _ => pure r) Q E s₃) E s₂:=by
  rw [hs o i]
  exact wpAny_operating (wpAny_mono h₂ (fun r s₃ h₃ => wpAny_bind (wpAny_letTemporaryGo (wpAny_pure h₃))) fun _ _ x => x)
 first
  | exact wpAny_pure (wpAny_bind fin)
  | exact wpAny_bind (wpAny_pure (wpAny_bind fin))
  | exact wpAny_bind fin
theorem tW {X:Cx} {pins:List (Addr × Obj)} {σ:St} {H:Hp} {s:Shared} {a:Addr} {y:V} {o:Option V} (I:Inv X pins σ H s) (g:ni H a y o):s.TypeIs (.ref a) "dict":=by
 rcases g with ⟨aI,k,e,_,_⟩ | ⟨aI,k,b,e,_,_,_⟩
 ·obtain ⟨_,_,vs,_,dd⟩:=tR I.bK e
  exact dd.typeIs
 ·obtain ⟨_,_,xs,_,dd⟩:=tU I.bK e
  exact dd.typeIs
noncomputable def JN (td ty:TE):TE:=fun σ H Q => td σ H fun x H1 => ty σ H1 fun y H2 => ∃ a v,x = .ref a ∧ ni H2 a y (some v) ∧ Q v H2
noncomputable def JO (td ty tv:TE):TS:=fun D σ H => tv σ H fun v H1 => td σ H1 fun x H2 => ty σ H2 fun y H3 => ∃ a H4,x = .ref a ∧ rW H3 a y v H4 ∧ D.nx σ H4
section
variable {X:Cx} {o i e value:Expr} {pos pos' Gp:Pos} {td ty tv:TE}
theorem C8 (hu:X.A.units + 1 < cLine) (ho:PE X o td) (hi:PE X i ty) (hs:GK i):PE X (.Subscript o i pos) (JN td ty):=by
 intro pins s σ H Q I h
 refine C7 PySem.F.slot_dict_getitem.lookup hs (c_ (ho pins s σ H _ I h) fun u s1 ⟨x,H1,I1,rx,q1⟩ => c_ (hi pins s1 σ H1 _ I1 q1) fun iv s2 ⟨y,H2,I2,ry,a,v,ex,g,q2⟩ => ?_)
 subst ex
 obtain rfl:u = Value.ref a:=rx
 exact ⟨tW I2 g,yn hu I2 g ry fun w' s3 I3 tM => ⟨v,H2,I3,tM,q2⟩⟩
theorem C9 (hu:X.A.units + 1 < cLine) (ho:PE X o td) (hi:PE X i ty) (hv:PE X value tv) (hs:swapsWith value (some (.Subscript o i pos')) pos.line X.env = pure false) :
  PS X (.Assign [.Subscript o i pos'] value pos) (JO td ty tv):=by
 intro pins s σ H D I h
 refine wpAny_Assign_Subscript (c_ (hv pins s σ H _ I h) fun r s1 ⟨v,H1,I1,rv,q1⟩ => c_ (ho pins s1 σ H1 _ I1 q1) fun u s2 ⟨x,H2,I2,rx,q2⟩ => c_ (hi pins s2 σ H2 _ I2 q2) fun iv s3 ⟨y,H3,I3,ry,a,H4,ex,g,q3⟩ => ?_) hs
 subst ex
 obtain rfl:u = Value.ref a:=rx
 exact yo hu I3 g ry rv fun s4 I4 => ⟨σ,H4,I4,q3⟩
end
theorem z_ {P:Program} {w:World} {H:Hp} (h:Heap) (hb:sysModules < h.objs.size):bW P w H (h.push { cls:=.type "dict",data:=.dict #[] }) h.objs.size (.dT []) :=
 ⟨Nat.zero_le _,beq_eq_false_iff_ne.mpr (Ne.symm (Nat.ne_of_lt hb)),[],.nil,_,#[],0,Heap.get?_push_size _ rfl,⟨rfl,rfl,rfl⟩,rfl,rfl,List.nodup_nil⟩
noncomputable def GL:TE:=fun _ H Q => ∀ p,H p = none → Q (.ref p) (upd H p (.dT []))
section
variable {X:Cx} {pos:Pos}
theorem Aa:PE X (.Dict [] [] pos) GL:=fun pins s σ H Q I h =>
 wpAny_Dict_empty ⟨.ref s.heap.objs.size,_,I.laid (a:=s.heap.objs.size) (o:=.dT []) (t':=s.toks) (fun _ _ q => Heap.get?_push_of_some _ q) (Nat.le_refl _) (z_ s.heap I.big),rfl,h _ (I.bK.fresh (Nat.le_refl _))⟩
end
structure M2 (X:Cx) (o:Expr) (m:Str) (apos:Pos) (e f:Expr) (cC:Pos):Prop where
 base:attributeBase o m X.env (eval o X.env) = eval o X.env
 Ab:((backTo cC (starEach [e,f] X.env)).all (fun x => !x.1) && (backToKw cC (keywordEach [] X.env)).all (fun x => x.1.isSome)
  && decide (([e,f]:List Expr).length + ([]:List Keyword).length + (if ([]:List Keyword).isEmpty then 0 else 1) < 30)) = true
 line:(apos.endLine == cC.line) = true
 trees:backTo cC (starEach [e,f] X.env) = [(false,eval e X.env),(false,eval f X.env)]
noncomputable def LW (H:Hp) (a:Addr):Prop:=(∃ aI,Rd H a (.dK aI)) ∨ ∃ aI,Rd H a (.dT aI)
theorem GN {X:Cx} {pins:List (Addr × Obj)} {σ:St} {H:Hp} {s:Shared} {a:Addr} (I:Inv X pins σ H s) (d:LW H a) :
  s.TypeIs (.ref a) "dict" ∧ (∀ b,Value.ref a = .ref b → ∃ ob,s.heap.get? b = some ob ∧ ob.dict = none) ∧ (a == sysModules) = false:=by
 rcases d with ⟨aI,e⟩ | ⟨aI,e⟩
 ·obtain ⟨_,hd,vs,_,dd⟩:=tR I.bK e
  refine ⟨dd.typeIs,fun b q => ?_,hd⟩
  cases q
  obtain ⟨ob,_,_,h1,h2,_⟩:=dd
  exact ⟨ob,h1,h2.2.1⟩
 ·obtain ⟨_,hd,xs,_,dd⟩:=tU I.bK e
  refine ⟨dd.typeIs,fun b q => ?_,hd⟩
  cases q
  obtain ⟨ob,_,_,h1,h2,_⟩:=dd
  exact ⟨ob,h1,h2.2.1⟩
section
variable {X:Cx} {pins:List (Addr × Obj)} {σ:St} {H:Hp} {s:Shared} {a:Addr} {y d:V} {u r:Value} {o:Option V} {A:Around} {E:Value → Shared → Prop}
theorem GO {Q:Value → Shared → Prop} (hu:A.units + 1 < cLine) (I:Inv X pins σ H s) (g:ni H a y o) (ry:RelV y u) (rd:RelV d r) (h:∀ w' s',Inv X pins σ H s' → RelV (o.getD d) w' → Q w' s') :
  wpAny (model X.prog X.w) A (call (.builtin "dict.get") [.ref a,u,r]) Q E s:=by
 rcases g with ⟨aI,k,e,ey,l⟩ | ⟨aI,k,b,e,ey,eb,l⟩
 ·subst ey
  obtain ⟨z,hd,vs,rel,dd⟩:=tR I.bK e
  refine call_meetsIn PySem.F.slot_dict_get dd.typeIs PySem.F.entry_dict_get (PySem.F.args_dict_get_3 _ _ _) (meets_dict_get_default (dr X.prog X.w) a (wV ry) hd r) ⟨_,dd.mapOf,h _ _ (I.tok _) ?_⟩
  rw [l]
  exact (rel.val k).getD rd
 ·subst ey
  cases (show u = Value.ref b from ry)
  obtain ⟨z,hd,xs,rel,dd⟩:=tU I.bK e
  refine call_meetsIn PySem.F.slot_dict_get dd.typeIs PySem.F.entry_dict_get (PySem.F.args_dict_get_3 _ _ _) (meetsH_dict_get_default (tupleKind (dr X.prog X.w)) a b hd r) ⟨tupleKind_room_in1 hu,k,xs,rV I.bK eb,dd,h _ _ (I.tok _) ?_⟩
  rw [l]
  exact (rel.val k).getD rd
end
noncomputable def GP (td ty tx:TE):TE:=fun σ H Q => td σ H fun x H1 => ∃ a,x = .ref a ∧ LW H1 a ∧ ty σ H1 fun y H2 => tx σ H2 fun z H3 => ∃ o,ni H3 a y o ∧ Q (o.getD z) H3
section
variable {X:Cx} {o e f:Expr} {apos cC:Pos} {td ty tx:TE}
theorem Ac (hu:X.A.units + 1 < cLine) (ho:PE X o td) (he:PE X e ty) (hf:PE X f tx) (m:M2 X o "get" apos e f cC):PE X (.Call (.Attribute o "get" apos) [e,f] [] cC) (GP td ty tx):=by
 intro pins s σ H Q I h
 refine wpAny_Call_method m.base m.Ab m.line PySem.F.plainAttrs_dict PySem.F.slot_dict_get PySem.F.type_dict_get (c_ (ho pins s σ H _ I h) fun u s1 ⟨x,H1,I1,rx,a,ex,d,q1⟩ => ?_)
 subst ex
 obtain rfl:u = Value.ref a:=rx
 obtain ⟨t1,t2,_⟩:=GN I1 d
 refine ⟨t1,t2,?_⟩
 rw [m.trees]
 refine Calls.callWith_builtin rfl (Calls.evalArgs_plain (Calls.spliced_cons (c_ (he pins s1 σ H1 _ I1 q1) fun iv s2 ⟨y,H2,I2,ry,q2⟩ =>
  Calls.spliced_cons (c_ (hf pins s2 σ H2 _ I2 q2) fun fv s3 ⟨z,H3,I3,rz,ov,g,q3⟩ => Calls.spliced_nil ?_))))
 exact GO hu I3 g ry rz fun w' s4 I4 tM => ⟨_,H3,I4,tM,q3⟩
end
section
variable {X:Cx} {pins:List (Addr × Obj)} {σ:St} {H:Hp} {s:Shared} {a:Addr} {aI:List (Key × V)} {A:Around} {E:Value → Shared → Prop}
end
section
variable {X:Cx} {pins:List (Addr × Obj)} {σ:St} {H:Hp} {s:Shared} {a:Addr} {y:V} {u:Value} {A:Around} {E:Value → Shared → Prop}
end
section
variable {κ:Type} [DecidableEq κ]
end
end L2
namespace L2
open PySem PySem.Spec PyProof.Rows
theorem jW.upd {H H':Hp} {p:Addr} {o:HO} (e:jW H H') (h:H' p = none):jW H (upd H' p o):=fun b u q => by
 rw [aE (bu (e b u q) h)]
 exact e b u q
noncomputable def jw (k:Nat) (i:Int):Prop:=i.natAbs < 2 ^ k
theorem jw.bits {k:Nat} {i:Int} (h:jw k i):Builtin.Int.intBits i ≤ k:=by
 unfold Builtin.Int.intBits
 by_cases hz:(i == 0) = true
 ·rw [if_pos hz]; exact Nat.zero_le _
 ·rw [if_neg hz]
  have h0:i.natAbs ≠ 0:=by
   intro e
   apply hz
   have:i = 0:=Int.natAbs_eq_zero.mp e
   simp [this]
  have:=(Nat.log2_lt h0).mpr h
  lia
theorem jw.mono {j k:Nat} {i:Int} (h:jw j i) (hk:j ≤ k):jw k i:=Nat.lt_of_lt_of_le h (Nat.pow_le_pow_right (by decide) hk)
theorem jw.mul {j k:Nat} {x y:Int} (h1:jw j x) (h2:jw k y):jw (j + k) (x * y):=by
 show (x * y).natAbs < 2 ^ (j + k)
 rw [Int.natAbs_mul,Nat.pow_add]
 exact Nat.mul_lt_mul'' h1 h2
theorem jw.small {k:Nat} {i:Int} (hk:10 ≤ k) (h0:-1000 < i) (h1:i < 1000):jw k i:=by
 show i.natAbs < 2 ^ k
 have:2 ^ 10 ≤ 2 ^ k:=Nat.pow_le_pow_right (by decide) hk
 lia
noncomputable def wX (i j:Int):Prop:=∃ a b,jw a i ∧ jw b j ∧ a ≤ 2 ^ 20 ∧ b ≤ 2 ^ 20
theorem wX.ok {i j:Int} (h:wX i j):IntMulOk i j:=by
 obtain ⟨a,b,h1,h2,h3,h4⟩:=h
 exact IntMulOk.of_bits (Nat.le_trans h1.bits h3) (Nat.le_trans h2.bits h4)
noncomputable def wY (i j:Int):Prop:=j ≠ 0 ∧ jw 9000 j
theorem wY.ok {i j:Int} (h:wY i j):Builtin.divisionGoesByPylong i j = false :=
 PyProof.noPylong_of_log2 ((Nat.log2_lt (by intro e; exact h.1 (Int.natAbs_eq_zero.mp e))).mpr h.2)
section
variable {X:Cx}
theorem C_:eQ X (binaryOp .Mult) (rI wX fun i j => .int (i * j)):=IH fun _ _ _ _ _ _ _ hc q => PyProof.Rows.mul_int q hc.ok
theorem Ad:eQ X (binaryOp .FloorDiv) (rI wY fun i j => .int (i.fdiv j)):=IH fun _ _ _ _ _ _ _ hc q => floordiv_int hc.1 q (.inl hc.ok)
end
end L2
namespace L2
open PySem PySem.Spec PyProof.Rows
theorem rX {prog:Program} {w:World} {A:Around} {s:Shared} {elt target iter:Expr} {ifs:List Expr} {scope:Scope} {pos:Pos} {it acc:Value} {env:Env} {R:Result → Shared → Prop} (I:Nat → Shared → Prop)
  (turn:∀ n s,I n s → wpAny (model prog w) A (pyNext it) (fun r s₁ => match r with
   | none => R (.ok .next) s₁
   | some v => wpAny (model prog w) A (letOwnedTupleGo target it v) (fun _ EY => wpAny (model prog w) A (assign target env v) (fun _ s₂ =>
     wpAny (model prog w) A (forIn ifs true fun c r => if r = true then do let ok ← isTrue c env (eval c env); pure (ForInStep.yield ok) else pure (ForInStep.yield r)) (fun ok s₃ =>
      if ok = true then wpAny (model prog w) A (eval elt env) (fun x s₄ =>
       wpAny (model prog w) A (call (.builtin "list.append") [acc,x]) (fun _ s₅ => ∃ m,m < n ∧ I m s₅) (fun _ _ => False) s₄) (fun _ _ => False) s₃
      else ∃ m,m < n ∧ I m s₃) (fun _ _ => False) s₂) (fun _ _ => False) EY) (fun _ _ => False) s₁) (fun _ _ => False) s)
  (n:Nat) (h:I n s):codeAny (model prog w) A (.compLoop (.ListComp elt [⟨target,iter,ifs,0⟩] scope pos) 0 it acc env) R s:=by
 refine codeAny_loop rfl I (fun n s hI => ?_) n h
 show wpAny _ A ((compTurn (.ListComp elt [⟨target,iter,ifs,0⟩] scope pos) 0 it acc env).onRaise (fun x => do noteFrame x env; theTreesLotGoes x)) _ _ s
 refine wpAny_noted ?_
 rw [compTurn_list]
 refine wpAny_bind (wpAny_standAt (wpAny_bind (wpAny_mono (turn n s hI) (fun r s₁ h₁ => ?_) fun _ _ h' => h'.elim)))
 cases r with
 | none => exact wpAny_pure h₁
 | some v =>
  refine wpAny_bind (wpAny_mono h₁ (fun _ EY JP => ?_) fun _ _ h' => h'.elim)
  refine wpAny_bind (wpAny_mono JP (fun _ s₂ h₂ => wpAny_bind (wpAny_mono h₂ (fun ok s₃ h₃ => ?_) fun _ _ h' => h'.elim)) fun _ _ h' => h'.elim)
  cases ok with
  | false => exact wpAny_pure ⟨rfl,h₃⟩
  | true => exact wpAny_bind (wpAny_bind (wpAny_mono h₃ (fun x s₄ h₄ => wpAny_bind (wpAny_mono h₄ (fun _ s₅ h₅ => wpAny_pure (wpAny_pure ⟨rfl,h₅⟩)) fun _ _ h' => h'.elim)) fun _ _ h' => h'.elim))
noncomputable def Cu (X:Cx) (ifs:List Expr) (t:TT):Prop :=
 ∀ (pins:List (Addr × Obj)) (s:Shared) (σ:St) (H:Hp) (Q:Bool → Hp → Prop),Inv X pins σ H s → t σ H Q →
  wpAny (model X.prog X.w) X.A (forIn ifs true fun c r => if r = true then do let ok ← isTrue c X.env (eval c X.env); pure (ForInStep.yield ok) else pure (ForInStep.yield r)) (TP X pins σ Q) X.xe s
noncomputable def JQ:TT:=fun _ H Q => Q true H
theorem Dc {X:Cx}:Cu X [] JQ:=fun _ _ _ H _ I h => wpAny_tests_nil ⟨H,I,h⟩
theorem Dd {X:Cx} {c:Expr} {t:TT} (h:PT X c t):Cu X [c] t:=fun pins s σ H Q I hw => wpAny_tests_one (h pins s σ H Q I hw)
theorem gG.JR {P:Program} {w:World} {H:Hp} {h:Heap} {a:Addr} {o:HO} (x:gG P w H h) (hn:H a = none) (new:bW P w (upd H a o) h a o):gG P w (upd H a o) h:=fun b u e => by
 by_cases hb:b = a
 ·subst hb; rw [bw] at e; cases e; exact new
 ·rw [aE hb] at e
  exact (x b u e).jJ (fun c v _ q => q) (fun c q => by rw [aE (bu q hn)]; exact q) fun c xs q => by rw [aE (bu q hn)]; exact q
noncomputable def pV (X:Cx) (N:List Str) (scope:Scope) (cl:List (Str × Addr)) (C:Addr) (fp:List Addr) (s:Shared) (H:Hp):Cx :=
 { X with N:=N,s₀:=s,H₀:=H,env:=compEnvC scope cl C X.env,outer:=X.stack,stack:=X.stack,ex:=fp,fn:=fun _ => false,pn:=[],xe:=fun _ _ => False }
noncomputable def nk (k:Nat) (caps:List Nat) (σ:St):St:=List.replicate k none ++ caps.map fun j => (σ[j]?).getD none
structure tX (X:Cx) (N:List Str) (scope:Scope) (cl:List (Str × Addr)) (k:Nat) (caps:List Nat):Prop where
 tY:closureFor scope X.env = pure cl
 sub:∀ x c,cl.lookup x = some c → X.env.cells.lookup x = some c
 has:∀ x,((relabel scope X.env).names.lookup x = some .cell ∨ (relabel scope X.env).names.lookup x = some .free) → ∃ c,cl.lookup x = some c
 gr:∀ x ∈ scope.names,x.2 ≠ .cell
 kind:scope.kind = .function
 names:∀ x ∈ scope.names,x.2 = .local → scope.names.lookup x.1 = some .local
 len:N.length = k + caps.length
 at_:∀ i j x,caps[i]? = some j → N[k + i]? = some x → X.N[j]? = some x ∧ (X.env.kindOf x = some .cell ∨ X.env.kindOf x = some .free) ∧ ((relabel scope X.env).names.lookup x = some .cell ∨ (relabel scope X.env).names.lookup x = some .free)
noncomputable def tZ (J:It) (k:Nat) (caps:List Nat) (g:TG) (tt:TT) (te:TE) (σ:St) (H1:Hp) (Q:VK):Prop :=
 ∃ W:Nat → Nat → List V → St → Hp → Prop,(∃ m,W 0 m [] (nk k caps σ) H1) ∧ ∀ i m ys τ H,W i m ys τ H →
  (J.stop i H ∧ ys.length ≤ sizeLine ∧ ∀ p,H p = none → Q (.ref p) (upd H p (.lst ys))) ∨
  (J.go i H ∧ ys.length < sizeLine ∧ ∀ x H',J.Jp i H x H' → g x τ H' fun τ2 H2 => tt τ2 H2 fun b H3 => if b = true then te τ2 H3 fun y H4 => ∃ m',m' < m ∧ W (i + 1) m' (ys ++ [y]) τ2 H4 else ∃ m',m' < m ∧ W (i + 1) m' ys τ2 H3)
@[irreducible] def oE (k:Nat) (caps:List Nat) (wi:TI) (g:TG) (tt:TT) (te:TE):TE:=fun σ H Q => wi σ H fun J H1 => tZ J k caps g tt te σ H1 Q
theorem Ae {k:Nat} {caps:List Nat} {wi:TI} {g:TG} {tt:TT} {te:TE} {σ:St} {H:Hp} {Q:VK} (h:wi σ H fun J H1 => tZ J k caps g tt te σ H1 Q):oE k caps wi g tt te σ H Q:=by
 unfold oE
 exact h
theorem qz {k:Nat} {caps:List Nat} {wi:TI} {g:TG} {tt:TT} {te:TE} {σ:St} {H:Hp} {Q:VK} (h:oE k caps wi g tt te σ H Q):wi σ H fun J H1 => tZ J k caps g tt te σ H1 Q:=by
 unfold oE at h
 exact h
section
variable {X:Cx} {pins:List (Addr × Obj)} {σ:St} {H:Hp} {s:Shared}
theorem De {k:Nat} {caps:List Nat} {σ:St} {i:Nat} {v:V} (h:(nk k caps σ)[i]? = some (some v)):∃ j,k ≤ i ∧ caps[i - k]? = some j ∧ σ[j]? = some (some v):=by
 unfold nk at h
 by_cases hi:i < k
 ·rw [List.getElem?_append_left (by simpa using hi),List.getElem?_replicate] at h
  split at h <;> cases h
 ·rw [List.getElem?_append_right (by simpa using Nat.le_of_not_lt hi),List.length_replicate,List.getElem?_map] at h
  cases e:caps[i - k]? with
  | none => rw [e] at h; cases h
  | some j =>
   rw [e] at h
   refine ⟨j,Nat.le_of_not_lt hi,rfl,?_⟩
   have h':(σ[j]?).getD none = some v:=by simpa using h
   cases q:σ[j]? with
   | none => rw [q] at h'; cases h'
   | some o => rw [q] at h'; exact congrArg some h'
theorem Inv.block {N:List Str} {scope:Scope} {cl:List (Str × Addr)} {k:Nat} {caps:List Nat} {fp:List Addr} {C:Addr} {h':Heap} {t':Nat} {m':Str → Option Value}
  (I:Inv X pins σ H s) (B:tX X N scope cl k caps) (hf:∀ b ∈ fp,p7 X pins H b) (hC:s.heap.objs.size ≤ C) (JS:∀ b ∈ fp,∃ o,s.heap.get? b = some o)
  (kp:∀ b o,s.heap.get? b = some o → h'.get? b = some o) (ns:h'.Ns C m'):Inv (pV X N scope cl C fp s H) [] (nk k caps σ) H { s with heap:=h',toks:=t' }:=by
 have below:∀ {b:Addr} {o:Obj},s.heap.get? b = some o → b ≠ C:=fun e => Nat.ne_of_lt (Nat.lt_of_lt_of_le (Heap.lt_size e) hC)
 have JT:∀ x c,cl.lookup x = some c → ∃ v,s.heap.IsCell c v:=fun x c e => I.cell x c (B.sub x c e)
 refine ⟨⟨I.ok.mod,?_,I.ok.glob,I.ok.blt,hC,fun x y c h1 h2 => I.ok.inj x y c (B.sub x c h1) (B.sub y c h2),fun x hx => B.has x hx,fun x c h1 _ => ?_,I.ok.hd,I.ok.frames,.inl rfl,fun b hb => ⟨?_,fun x c e => ?_⟩,I.bs,Nat.le_trans I.ok.zF I.sz,fun b o e hb => ?_,fun b hb => ?_,I.stack,I.rG⟩,
  rfl,I.bare,Un.kept kp,⟨m',ns,fun i x v h1 h2 h3 => ?_⟩,fun x c e => ?_,?_,fun x c e => I.gn x c (B.sub x c e),fun p hp => absurd (show p ∈ ([]:List (Addr × Obj)) from hp) (by simp),I.bK.kept kp,?_⟩
 ·exact B.kind
 ·exact absurd h1 (by simp [pV])
 ·obtain ⟨o,e⟩:=JS b hb
  exact below e
 ·exact (hf b hb).2.2.2.2.1 x c (B.sub x c e)
 ·obtain ⟨_,_,_,h4,_⟩:=hf b hb
  rcases h4 with z | z
  ·exact I.ok.vA b o e z
  ·exact absurd (Nat.lt_of_lt_of_le (Heap.lt_size (I.ok.bs b o e).1) z) (Nat.lt_irrefl _)
 ·intro z
  rcases List.mem_cons.mp (I.lC b z) with e | e
  ·exact (hf b hb).2.1 e
  ·exact (hf b hb).2.2.1 e
 ·obtain ⟨j,hk,hj,hσ⟩:=De h2
  have hN:N[k + (i - k)]? = some x:=by rw [Nat.add_sub_cancel' hk]; exact h1
  obtain ⟨a1,a2,a3⟩:=B.at_ (i - k) j x hj hN
  obtain ⟨m,hn,hl⟩:=I.loc
  have Uw:FL X.env.scope x:=by
   rcases a2 with z | z
   ·exact .inr (.inl z)
   ·exact .inr (.inr z)
  obtain ⟨u,r,l⟩:=hl j x v a1 hσ Uw
  refine ⟨u,r,.inr ⟨a3,?_⟩⟩
  rcases l with ⟨z,_⟩ | ⟨_,c,e,cc⟩
  ·rcases a2 with y | y <;> (rw [z] at y; cases y)
  ·obtain ⟨c',e'⟩:=B.has x a3
   have:X.env.cells.lookup x = some c':=B.sub x c' e'
   rw [e] at this
   cases this
   obtain ⟨o,ho,hd⟩:=cc
   exact ⟨c,e',o,kp c o ho,hd⟩
 ·obtain ⟨v,o,ho,hd⟩:=JT x c e
  exact ⟨v,o,kp c o ho,hd⟩
 ·exact I.bK.fresh hC
 ·show (nk k caps σ).length = N.length
  unfold nk
  rw [List.length_append,List.length_replicate,List.length_map,B.len]
noncomputable def Af (X:Cx) (pins:List (Addr × Obj)) (σ:St) (s:Shared) (Q:VK) (acc:Value) (C:Addr) (s':Shared):Prop :=
 ∃ D H',acc = .ref D ∧ s.heap.objs.size ≤ C ∧ Inv X pins σ H' s' ∧ H' C = none ∧ (∃ m,s'.heap.Ns C m) ∧ Q (.ref D) H'
theorem qA {tg elt iter:Expr} {ifs:List Expr} {scope:Scope} {pos:Pos} {N:List Str} {cl:List (Str × Addr)} {k:Nat} {caps:List Nat} {g:TG} {tt:TT} {te:TE} {it:Addr} {fp:List Addr} {tn:Nat → Heap → Prop} {J:It} {Q:VK} {RR:Value → Addr → Result → Shared → Prop} {E:Value → Shared → Prop}
  (hc:X.calm = true) (B:tX X N scope cl k caps) (hg:∀ C fp s H,PG (pV X N scope cl C fp s H) tg g) (hi:∀ C fp s H,Cu (pV X N scope cl C fp s H) ifs tt) (he:∀ C fp s H,PE (pV X N scope cl C fp s H) elt te)
  (I:Inv X pins σ H s) (T:Turn X.prog X.w X.K tg J fp it tn) (st:tn 0 s.heap) (hf:∀ b ∈ fp,p7 X pins H b)
  (h:tZ J k caps g tt te σ H Q)
  (Ux:∀ acc C s',Af X pins σ s Q acc C s' → RR acc C (.ok .next) s') :
  wpAny (model X.prog X.w) X.A (newList []) (fun acc s₃ => wpAny (model X.prog X.w) X.A (newFunctionEnv scope X.env.globals cl [] X.env.qual none .none (some X.env)) (fun JU s₄ =>
   codeAny (model X.prog X.w) X.A (.compStart (.ListComp elt [⟨tg,iter,ifs,0⟩] scope pos) 0 (.ref it) acc { JU with scope:=relabel scope X.env }) (RR acc JU.locals) s₄) E s₃) E s:=by
 obtain ⟨W,⟨m0,w0⟩,turn⟩:=h
 refine wpAny_newObj_type (wpAny_newFunctionEnv B.gr (by intro y hy; simp at hy) (fun h₁ vJ rY => ?_) B.kind)
 dsimp only at vJ rY ⊢
 generalize Ny:s.heap.push { cls:=.type "list",dict:=none,data:=.seq ([]:List Value).toArray } = H2 at vJ rY ⊢
 have hC:H2.objs.size = s.heap.objs.size + 1:=by rw [← Ny,Heap.size_push]
 have LX:s.heap.objs.size ≤ H2.objs.size:=by rw [hC]; exact Nat.le_succ _
 have LY:s.heap.objs.size ≠ H2.objs.size:=by rw [hC]; exact Nat.ne_of_lt (Nat.lt_succ_self _)
 have old:∀ b o,s.heap.get? b = some o → h₁.get? b = some o:=fun b o e => rY.extBut b o (Nat.ne_of_lt (Nat.lt_of_lt_of_le (Heap.lt_size e) LX)) (Heap.get?_push_of_some _ (Ny ▸ Heap.get?_push_of_some _ e))
 have GQ:h₁.get? s.heap.objs.size = some { cls:=.type "list",data:=.seq ([]:List Value).toArray 0 }:=rY.extBut _ _ LY (Heap.get?_push_of_some _ (Ny ▸ Heap.get?_push_size _ rfl))
 have Nz:=T.obj 0 _ st
 have JS:∀ b ∈ fp,∃ o,s.heap.get? b = some o:=fun b hb => let ⟨o,e,_⟩:=Nz b hb; ⟨o,e⟩
 have SY:∀ b ∈ fp,b ≠ s.heap.objs.size:=fun b hb z => by
  obtain ⟨o,e⟩:=JS b hb
  exact absurd (Heap.lt_size e) (by rw [z]; exact Nat.lt_irrefl _)
 have Uy:H s.heap.objs.size = none:=I.bK.fresh (Nat.le_refl _)
 have EZ:tn 0 h₁:=T.keep 0 _ _ st fun b _ o e => old b o e
 have JV:∀ x c,cl.lookup x = some c → c ≠ s.heap.objs.size:=fun x c e z => by
  obtain ⟨v,o,ho,_⟩:=I.cell x c (B.sub x c e)
  exact absurd (Heap.lt_size ho) (by rw [z]; exact Nat.lt_irrefl _)
 have NA:∀ b ∈ fY X.stack,b ≠ s.heap.objs.size:=fun b hb z => by
  obtain ⟨_,o,ho,_⟩:=I.stack.mem hb
  exact absurd (Heap.lt_size ho) (by rw [z]; exact Nat.lt_irrefl _)
 have loop:∀ s₃:Shared,s₃ = { s with heap:=h₁,toks:=s.toks + ([]:List (Str × Value)).length } →
   codeAny (model X.prog X.w) X.A (.compLoop (.ListComp elt [⟨tg,iter,ifs,0⟩] scope pos) 0 (.ref it) (.ref s.heap.objs.size) (compEnvC scope cl H2.objs.size X.env)) (RR (.ref s.heap.objs.size) H2.objs.size) s₃:=by
  rintro s₃ rfl
  generalize vt:pV X N scope cl H2.objs.size fp s H = XB
  have eP:XB.prog = X.prog:=by rw [← vt]; rfl
  have eW:XB.w = X.w:=by rw [← vt]; rfl
  have eK:XB.K = X.K:=by rw [← vt]; rfl
  have eA:XB.A = X.A:=by rw [← vt]; rfl
  have eE:XB.env = compEnvC scope cl H2.objs.size X.env:=by rw [← vt]; rfl
  have eL:XB.env.locals = H2.objs.size:=by rw [eE]; rfl
  have eF:XB.fs = fY X.stack:=by rw [← vt]; rfl
  have eX:XB.ex = fp:=by rw [← vt]; rfl
  have eN:XB.pn = []:=by rw [← vt]; rfl
  have e0:XB.s₀ = s:=by rw [← vt]; rfl
  have eC:XB.calm = true:=by rw [← vt]; exact hc
  have S0:XB.env.cells = cl:=by rw [eE]; rfl
  have NB:XB.xe = fun _ _ => False:=by rw [← vt]; rfl
  have pW:PG XB tg g:=by rw [← vt]; exact hg _ _ _ _
  have wZ:Cu XB ifs tt:=by rw [← vt]; exact hi _ _ _ _
  have Uz:PE XB elt te:=by rw [← vt]; exact he _ _ _ _
  have I0:Inv XB [] (nk k caps σ) H { s with heap:=h₁,toks:=s.toks + ([]:List (Str × Value)).length }:=by rw [← vt]; exact I.block B hf LX JS old vJ
  -- IE E1 pinned
  have NC:∀ {τ:St} {H':Hp} {s':Shared} {aN:List Value} {nn:Nat},Inv XB [] τ H' s' → s'.heap.get? s.heap.objs.size = some { cls:=.type "list",data:=.seq aN.toArray nn } → H' s.heap.objs.size = none →
    Inv XB [(s.heap.objs.size,{ cls:=.type "list",data:=.seq aN.toArray nn })] τ H' s':=fun {τ H' s' aN nn} J hd hn => J.nR fun p hp => by
   obtain rfl:p = _:=List.mem_singleton.mp hp
   refine ⟨hd,hn,by rw [eL]; exact LY,by rw [eF]; exact fun z => NA _ z rfl,fun v z => ?_⟩
   have z':Data.seq aN.toArray nn = Data.cell v:=z
   cases z'
  have vE:∀ {H':Hp} {o:Obj},(∀ b ∈ fp,H' b = none) → ∀ b ∈ fp,p7 XB [(s.heap.objs.size,o)] H' b:=fun {H' o} hn b hb => by
   obtain ⟨_,f1,f2,f3,f4,f5⟩:=hf b hb
   refine ⟨hn b hb,?_,?_,.inl (by rw [eX]; exact hb),fun x c e => f4 x c (B.sub x c (by rw [← S0]; exact e)),fun p hp => ?_⟩
   ·rw [eL]
    obtain ⟨o,e⟩:=JS b hb
    exact Nat.ne_of_lt (Nat.lt_of_lt_of_le (Heap.lt_size e) LX)
   ·rw [eF]
    intro z
    rcases List.mem_cons.mp (I.lC b z) with e | e
    ·exact f1 e
    ·exact f2 e
   ·rw [eN] at hp
    obtain rfl:p = _:=List.mem_singleton.mp (by simpa using hp)
    exact Ne.symm (SY b hb)
  refine rX (fun n s' => ∃ i ys aN nn τ H',Inv XB [] τ H' s' ∧ s'.heap.get? s.heap.objs.size = some { cls:=.type "list",data:=.seq aN.toArray nn } ∧ H' s.heap.objs.size = none ∧ Vals ys aN ∧ tn i s'.heap ∧ (∀ b ∈ fp,H' b = none) ∧ W i n ys τ H') ?_ m0
   ⟨0,[],[],0,nk k caps σ,H,I0,GQ,Uy,.nil,EZ,fun b hb => (hf b hb).1,w0⟩
  rintro n s3 ⟨i,ys,aN,nn,τ,H3,I3,UA,UB,LZ,lu,Ju,w3⟩
  have S1:=NC I3 UA UB
  rcases turn i n ys τ H3 w3 with ⟨stop,hz,qn⟩ | ⟨go,hz,step⟩
  ·have D1:=T.done XB eP eW eK eC i _ s3 τ H3 (fun _ _ => False) S1 (vE Ju) lu stop
   rw [eA] at D1
   refine c_ D1 fun r s4 ⟨hr,I4⟩ => ?_
   subst hr
   refine Ux _ _ s4 ?_
   obtain ⟨pd,JW,_⟩:=I4.pin (s.heap.objs.size,{ cls:=.type "list",data:=.seq aN.toArray nn }) (by rw [eN]; exact List.mem_append_right _ (List.mem_singleton.mpr rfl))
   have Df:Un (fY X.stack) fp H H3 s.heap s4.heap:=by
    have:=I4.base
    rw [← vt] at this
    exact this
   have new:bW X.prog X.w (upd H3 s.heap.objs.size (.lst ys)) s4.heap s.heap.objs.size (.lst ys):=⟨hz,aN,nn,LZ,pd⟩
   have ND:gG X.prog X.w H3 s4.heap:=by
    have:=I4.bK
    rw [eP,eW] at this
    exact this
   have bK:gG X.prog X.w (upd H3 s.heap.objs.size (.lst ys)) s4.heap:=ND.JR JW new
   have UC:s4.os = s.os:=by
    have:=I4.os
    rw [e0] at this
    exact this
   have un:Un (fY X.stack) fp H (upd H3 s.heap.objs.size (.lst ys)) s.heap s4.heap :=
    ⟨Df.keep,Df.slot,fun b o e n hx => by rw [aE (Nat.ne_of_lt (Heap.lt_size e))]; exact Df.free b o e n hx,Df.there,
     fun b xs e => by rw [aE (bu (Df.i8 b xs e) JW)]; exact Df.i8 b xs e,fun b o u e => by rw [aE (bu (Df.ix b o u e) JW)]; exact Df.ix b o u e,
     fun b ps e => by
      obtain ⟨more,q⟩:=Df.i9 b ps e
      exact ⟨more,by rw [aE (bu q JW)]; exact q⟩⟩
   have I5:Inv X pins σ (upd H3 s.heap.objs.size (.lst ys)) s4:=I.wL UC un bK I4.bare fun b hb => ⟨(hf b hb).2.2.2.1,(hf b hb).2.1,(hf b hb).2.2.2.2.1,(hf b hb).2.2.2.2.2⟩
   have UD:H3 H2.objs.size = none:=by
    have:=I4.free
    rw [eL] at this
    exact this
   refine ⟨s.heap.objs.size,_,rfl,LX,I5,by rw [aE (Ne.symm LY)]; exact UD,?_,qn _ JW⟩
   obtain ⟨m4,S2,_⟩:=I4.loc
   rw [eL] at S2
   exact ⟨m4,S2⟩
  ·have D1:=T.item XB eP eW eK eC i _ s3 τ H3 (fun _ _ => False) S1 (vE Ju) lu go
   rw [eA] at D1
   refine c_ D1 fun r s4 ⟨u,hr,h4⟩ => ?_
   subst hr
   refine c_ h4 fun _ s5 ⟨x,H5,I5,r5,y5,Ga,Na⟩ => ?_
   have Nb:=I5.pinned (vE Na) (T.obj _ _ Ga)
   have G:=pW _ s5 τ H5 x u _ Nb r5 (step x H5 y5)
   rw [eP,eW,eA,eE,NB] at G
   refine c_ G fun _ s6 ⟨τ6,H6,I6,q6⟩ => ?_
   have G2:=wZ _ s6 τ6 H6 _ I6 q6
   rw [eP,eW,eA,eE,NB] at G2
   refine c_ G2 fun ok s7 ⟨H7,I7,q7⟩ => ?_
   -- Jt IE pins give back
   have back:∀ {τ8:St} {H8:Hp} {s8:Shared},Inv XB ([(s.heap.objs.size,({ cls:=.type "list",data:=.seq aN.toArray nn }:Obj))] ++ oq fp s5.heap) τ8 H8 s8 →
     Inv XB [] τ8 H8 s8 ∧ s8.heap.get? s.heap.objs.size = some { cls:=.type "list",data:=.seq aN.toArray nn } ∧ H8 s.heap.objs.size = none ∧ tn (i + 1) s8.heap ∧ ∀ b ∈ fp,H8 b = none:=fun {τ8 H8 s8} J => by
    obtain ⟨p1,p2,_⟩:=J.pin (s.heap.objs.size,{ cls:=.type "list",data:=.seq aN.toArray nn }) (List.mem_append_right _ (List.mem_append_left _ (List.mem_singleton.mpr rfl)))
    refine ⟨J.nR fun p hp => absurd (show p ∈ ([]:List (Addr × Obj)) from hp) (by simp),p1,p2,T.keep _ _ _ Ga fun b hb o e => (J.pin (b,o) (List.mem_append_right _ (List.mem_append_right _ (iz hb e)))).1,fun b hb => ?_⟩
    obtain ⟨o,e,d⟩:=T.obj _ _ Ga b hb
    exact (J.pin (b,o) (List.mem_append_right _ (List.mem_append_right _ (iz hb e)))).2.1
   cases ok with
   | false =>
    rw [if_neg Bool.false_ne_true] at q7 ⊢
    obtain ⟨m',hm,w7⟩:=q7
    obtain ⟨J,a1,a2,a3,a4⟩:=back I7
    exact ⟨m',hm,i + 1,ys,aN,nn,τ6,H7,J,a1,a2,LZ,a3,a4,w7⟩
   | true =>
    rw [if_pos rfl] at q7 ⊢
    have G3:=Uz _ s7 τ6 H7 _ I7 q7
    rw [eP,eW,eA,eE,NB] at G3
    refine c_ G3 fun v s8 ⟨y,H8,I8,r8,m',hm,w8⟩ => ?_
    obtain ⟨J,a1,a2,a3,a4⟩:=back I8
    have hlen:=LZ.length
    refine call_meets F.slot_list_append ⟨_,a1,rfl⟩ F.entry_list_append (F.args_list_append_2 _ _) (PySem.list_append s.heap.objs.size aN.toArray nn v (by rw [List.size_toArray]; lia)) ⟨a1,?_⟩
    have q:=PySem.IsL.update a1 (fun z => z.push v)
    have other:∀ b o,b ≠ s.heap.objs.size → s8.heap.get? b = some o → (s8.heap.update s.heap.objs.size (Obj.mapSeq fun z => z.push v)).get? b = some o:=fun b o hb e => (Heap.get?_update_other s8.heap (Obj.mapSeq fun z => z.push v) (Ne.symm hb)).trans e
    have J':Inv XB [] τ6 H8 { s8 with heap:=s8.heap.update s.heap.objs.size (Obj.mapSeq fun z => z.push v) } :=
     J.turned (t':=s8.toks) (it:=s.heap.objs.size) other a2 (by rw [eL]; exact LY) (.inr (by rw [e0]; exact Nat.le_refl _)) (fun x c e => JV x c (by rw [← S0]; exact e)) fun p hp => absurd (show p ∈ ([]:List (Addr × Obj)) by rw [eN] at hp; exact hp) (by simp)
    obtain ⟨n2,q2⟩:∃ n2,(s8.heap.update s.heap.objs.size (Obj.mapSeq fun z => z.push v)).get? s.heap.objs.size = some { cls:=.type "list",data:=.seq (aN ++ [v]).toArray n2 }:=by
     have e1:aN.toArray.push v = (aN ++ [v]).toArray:=by simp
     rw [← e1]
     exact ⟨_,q⟩
    exact ⟨m',hm,i + 1,ys ++ [y],aN ++ [v],n2,τ6,H8,J',q2,a2,LZ.append (.cons r8 .nil),T.keep _ _ _ a3 fun b hb o e => other b o (SY b hb) e,a4,w8⟩
 exact codeAny_compStart_list (loop _ rfl) (T.self X.A 0 _ _ _ EZ (loop _ rfl))
end
end L2
namespace L2
open PySem PySem.Spec PyProof.Rows
section
variable {X:Cx} {tg elt iter:Expr} {ifs:List Expr} {scope:Scope} {pos Ag:Pos} {N:List Str} {cl:List (Str × Addr)} {k:Nat} {caps:List Nat} {wi:TI} {g:TG} {tt:TT} {te:TE}
theorem Inv.qB {pins:List (Addr × Obj)} {σ σ':St} {H H':Hp} {s s':Shared} {C:Addr} {h':Heap} (I:Inv X pins σ H s) (hC:s.heap.objs.size ≤ C) (I':Inv X pins σ' H' s') (hn:H' C = none) (sb:Heap.SameBut C s'.heap h') :
  Inv X pins σ' H' { s' with heap:=h' }:=by
 refine I'.turned (t':=s'.toks) (it:=C) (fun b o hb e => (sb.2 b hb).trans e) hn (Nat.ne_of_gt (Nat.lt_of_lt_of_le I.lt hC)) (.inr (Nat.le_trans I.sz hC)) (fun x c e => ?_) fun p hp => ?_
 ·obtain ⟨v,o,ho,_⟩:=I.cell x c e
  exact Nat.ne_of_lt (Nat.lt_of_lt_of_le (Heap.lt_size ho) hC)
 ·exact Nat.ne_of_lt (Nat.lt_of_lt_of_le (Heap.lt_size (I.pin p hp).1) hC)
theorem Dg (hc:X.calm = true) (B:tX X N scope cl k caps) (hi:PI X tg iter wi) (hg:∀ C fp s H,PG (pV X N scope cl C fp s H) tg g) (GR:∀ C fp s H,Cu (pV X N scope cl C fp s H) ifs tt)
  (he:∀ C fp s H,PE (pV X N scope cl C fp s H) elt te) (hs:∀ x,foldedSetIterable iter X.env x = pure x:=by intro _; rfl):PE X (.ListComp elt [⟨tg,iter,ifs,0⟩] scope pos) (oE k caps wi g tt te):=by
 intro pins s σ H Q I h
 rw [eval_ListComp]
 refine wpAny_comprehension_free (use:=none) rfl hs B.tY B.kind B.names (c_ (hi pins s σ H _ I (qz h)) fun xv s₁ h₁ => c_ h₁ fun LM s₂ h₂ => ?_)
 obtain ⟨it,fp,tn,J,H2,e,I2,T,cI,f2,hW⟩:=h₂
 subst e
 refine qA (RR:=fun acc C => compPost (model X.prog X.w) X.A X.xe none (EP X pins σ Q) acc C) hc B hg GR he I2 T cI f2 hW ?_
 rintro acc C s' ⟨D,H',rfl,hC,I',hn,⟨m,ns⟩,q⟩
 exact ⟨m,ns,fun h' sb => ⟨.ref D,H',I2.qB hC I' hn sb,rfl,q⟩⟩
theorem vK {i:Nat} {y:Str} {py:Pos} (hN:X.N.Nodup) (hy:X.N[i]? = some y) (hx:Loc X.env.scope y) (hc:X.calm = true) (B:tX X N scope cl k caps) (hi:PI X tg iter wi) (hg:∀ C fp s H,PG (pV X N scope cl C fp s H) tg g)
  (GR:∀ C fp s H,Cu (pV X N scope cl C fp s H) ifs tt) (he:∀ C fp s H,PE (pV X N scope cl C fp s H) elt te) (NF:swapsWith (.ListComp elt [⟨tg,iter,ifs,0⟩] scope pos) (some (.Name y py)) Ag.line X.env = pure true:=by rfl)
  (hs:∀ x,foldedSetIterable iter X.env x = pure x:=by intro _; rfl) (hf:X.fn y = true ∨ X.env.scope.names.lookup y = some .local:=by first | exact .inl rfl | exact .inr rfl | assumption) :
  PS X (.Assign [.Name y py] (.ListComp elt [⟨tg,iter,ifs,0⟩] scope pos) Ag) (F3 (oE k caps wi g tt te) (tK i)):=by
 intro pins s σ H D I h
 rw [exec_Assign_Name_used _ _ _ _ NF]
 refine wpAny_bind (wpAny_standAt (wpAny_bind ?_))
 show wpAny _ X.A (do let _ ← comprehension (.ListComp elt [⟨tg,iter,ifs,0⟩] scope pos) scope X.env _ (newList []) false (eval iter X.env) (some (assign (.Name y py) X.env))) _ _ s
 refine wpAny_bind (wpAny_mono (wpAny_comprehension_free (use:=some (assign (.Name y py) X.env)) (Q:=fun _ s' => SP X pins D .next s') rfl hs B.tY B.kind B.names (c_ (hi pins s σ H _ I (qz h)) fun xv s₁ h₁ => c_ h₁ fun LM s₂ h₂ => ?_)) (fun _ s' hq => wpAny_pure (wpAny_pure hq)) fun _ _ e => e)
 obtain ⟨it,fp,tn,J,H2,e,I2,T,cI,f2,hW⟩:=h₂
 subst e
 refine qA (Q:=fun v H' => tK i v σ H' D.nx) (RR:=fun acc C => compPost (model X.prog X.w) X.A X.xe (some (assign (.Name y py) X.env)) (fun _ s' => SP X pins D .next s') acc C) hc B hg GR he I2 T cI f2 hW ?_
 rintro acc C s' ⟨D',H',rfl,hC,I',hn,⟨m,ns⟩,q⟩
 show wpAny _ _ (assign (.Name y py) X.env (.ref D')) _ _ s'
 refine wpAny_assign_Name (lD I' hN hy hx (v:=.ref D') rfl (fun LN UE ⟨a,sb,ha⟩ => ?_) hf)
 have UG:C ≠ a:=by
  rcases ha with e | e
  ·rw [e]; exact Nat.ne_of_gt (Nat.lt_of_lt_of_le I2.lt hC)
  ·obtain ⟨v,o,ho,_⟩:=I2.cell y a e
   exact Nat.ne_of_gt (Nat.lt_of_lt_of_le (Heap.lt_size ho) hC)
 exact ⟨m,ns.sameBut sb UG,fun h' NG => ⟨_,H',I2.qB hC UE hn NG,q⟩⟩
end
section
variable {K:PySem.W.Frag} {g:TG} {tt:TT} {te:TE} {Q:VK}
theorem Dh {J:It} {k:Nat} {caps:List Nat} {σ:St} {H:Hp} (n:Nat) (hn:n ≤ sizeLine) (Pv:Nat → List V → St → Hp → Prop) (h0:Pv 0 [] (nk k caps σ) H) (UH:∀ i ys τ H,i < n → Pv i ys τ H → J.go i H) (zz:∀ ys τ H,Pv n ys τ H → J.stop n H)
  (hl:∀ i ys τ H,Pv i ys τ H → ys.length ≤ i)
  (hs:∀ i ys τ H x H',i < n → Pv i ys τ H → J.Jp i H x H' → ∀ K1:List V → St → Hp → Prop,(∀ ys τ H,Pv (i + 1) ys τ H → K1 ys τ H) → g x τ H' fun τ2 H2 => tt τ2 H2 fun b H3 => if b = true then te τ2 H3 fun y H4 => K1 (ys ++ [y]) τ2 H4 else K1 ys τ2 H3)
  (hd:∀ ys τ H p,Pv n ys τ H → H p = none → Q (.ref p) (upd H p (.lst ys))):tZ J k caps g tt te σ H Q:=by
 refine ⟨fun i m ys τ H => m = n - i ∧ i ≤ n ∧ Pv i ys τ H,⟨n,by simp,Nat.zero_le _,h0⟩,?_⟩
 rintro i m ys τ H ⟨rfl,hi,p⟩
 have hy:=hl i ys τ H p
 by_cases vx:i < n
 ·refine .inr ⟨UH i ys τ H vx p,by lia,fun x H' y => ?_⟩
  exact hs i ys τ H x H' vx p y (fun ys τ H => ∃ m',m' < n - i ∧ m' = n - (i + 1) ∧ i + 1 ≤ n ∧ Pv (i + 1) ys τ H) fun ys τ H q => ⟨n - (i + 1),by lia,rfl,vx,q⟩
 ·have e:i = n:=by lia
  subst e
  exact .inl ⟨zz ys τ H p,by lia,fun q hq => hd ys τ H q p hq⟩
end
noncomputable def cZ (b:Bool) (h:Heap) (i l:Addr) (k:Nat):Prop:=match b with | true => h.IsListIter i l k | false => h.IsTupleIter i l k
noncomputable def gQ (b:Bool) (h:Heap) (l:Addr) (xs:Array Value):Prop:=match b with | true => h.IsList l xs | false => h.IsTuple l xs
theorem cZ.keep {b:Bool} {h h':Heap} {i l:Addr} {k:Nat} (x:cZ b h i l k) (e:∀ o,h.get? i = some o → h'.get? i = some o):cZ b h' i l k:=by
 cases b with
 | true => exact Heap.IsListIter.at x e
 | false => exact Heap.IsTupleIter.at x e
theorem gQ.keep {b:Bool} {h h':Heap} {l:Addr} {xs:Array Value} (x:gQ b h l xs) (e:∀ o,h.get? l = some o → h'.get? l = some o):gQ b h' l xs:=by
 cases b with
 | true => exact Heap.IsList.at x e
 | false => obtain ⟨o,ho,r⟩:=(show h.IsTuple l xs from x); exact ⟨o,e _ ho,r⟩
theorem cZ.there {b:Bool} {h:Heap} {i l:Addr} {k:Nat} (x:cZ b h i l k):∃ o n vs,h.get? i = some o ∧ o.cls = .type n ∧ o.data = .fields vs:=by
 cases b with
 | true => obtain ⟨o,h1,h2,h3⟩:=(show h.IsListIter i l k from x); exact ⟨o,_,_,h1,h2,h3⟩
 | false => obtain ⟨o,h1,h2,h3⟩:=(show h.IsTupleIter i l k from x); exact ⟨o,_,_,h1,h2,h3⟩
section
variable {prog:Program} {w:World} {A:Around} {E:Value → Shared → Prop} {s:Shared}
theorem oF {it t:Addr} {i:Nat} {items:Array Value} {x:Value} {Q:Value → Shared → Prop} (hit:s.heap.IsTupleIter it t i) (ht:s.heap.IsTuple t items) (hx:items[i]? = some x)
  (hQ:∀ h',h'.IsTupleIter it t (i + 1) → Heap.SameBut it s.heap h' → Q x { s with heap:=h' }):wpAny (model prog w) A (Builtin.SmallTypes.nextOf (.ref it)) Q E s:=by
 obtain ⟨oi,E2,ci,di⟩:=id hit
 obtain ⟨ot,NH,_,nt,dt⟩:=ht
 unfold Builtin.SmallTypes.nextOf
 refine wpAny_bind (wpAny_callSpecial?_slot (name:=Str.ofString "__next__") hit.typeIs F.slot_tuple_iterator_next (wpAny_call_entry F.slot_tuple_iterator_next hit.typeIs F.entry_tuple_iterator_next ?_ (F.args_tuple_iterator_next_1 _)))
 show wpAny _ _ (field (.ref it) 0 >>= _) _ _ s
 refine wpAny_bind (wpAny_field E2 di (x:=.ref t) rfl ?_)
 show wpAny _ _ (if (Value.ref t == Value.none) = true then _ else _) _ _ s
 rw [if_neg (show ¬ ((Value.ref t == Value.none) = true) from Bool.false_ne_true)]
 show wpAny _ _ (field (.ref it) 1 >>= _) _ _ s
 refine wpAny_bind (wpAny_field E2 di (x:=.int i 0) rfl ?_)
 show wpAny _ _ (seqItems? (.ref t) >>= _) _ _ s
 refine wpAny_bind (wpAny_seqItems NH dt ?_)
 simp only [Int.toNat_natCast,hx]
 refine wpAny_bind (wpAny_setField E2 di (by simp) (wpAny_pure ⟨x,rfl,wpAny_pure (hQ _ ?_ (Heap.SameBut.update ..))⟩))
 exact ⟨_,Heap.get?_update_self _ E2 (Obj.isFreed_of_fields (Obj.data_mapFields di _)),(Obj.cls_mapFields ..).trans ci,by rw [Obj.data_mapFields di]; simp [rawInt]⟩
theorem p_ {it t:Addr} {i:Nat} {items:Array Value} {Q:Value → Shared → Prop} (hh:A.handled = none) (hit:s.heap.IsTupleIter it t i) (ht:s.heap.IsTuple t items) (hx:items[i]? = none)
  (hE:∀ h' e,Heap.ExtBut it s.heap h' → (∃ o,h'.get? e = some o ∧ o.cls = .type "StopIteration") → E (.ref e) { s with heap:=h' }):wpAny (model prog w) A (Builtin.SmallTypes.nextOf (.ref it)) Q E s:=by
 obtain ⟨oi,E2,ci,di⟩:=id hit
 obtain ⟨ot,NH,_,nt,dt⟩:=ht
 unfold Builtin.SmallTypes.nextOf
 refine wpAny_bind (wpAny_callSpecial?_slot (name:=Str.ofString "__next__") hit.typeIs F.slot_tuple_iterator_next (wpAny_call_entry F.slot_tuple_iterator_next hit.typeIs F.entry_tuple_iterator_next ?_ (F.args_tuple_iterator_next_1 _)))
 show wpAny _ _ (field (.ref it) 0 >>= _) _ _ s
 refine wpAny_bind (wpAny_field E2 di (x:=.ref t) rfl ?_)
 show wpAny _ _ (if (Value.ref t == Value.none) = true then _ else _) _ _ s
 rw [if_neg (show ¬ ((Value.ref t == Value.none) = true) from Bool.false_ne_true)]
 show wpAny _ _ (field (.ref it) 1 >>= _) _ _ s
 refine wpAny_bind (wpAny_field E2 di (x:=.int i 0) rfl ?_)
 show wpAny _ _ (seqItems? (.ref t) >>= _) _ _ s
 refine wpAny_bind (wpAny_seqItems NH dt ?_)
 simp only [Int.toNat_natCast,hx]
 refine wpAny_bind (wpAny_rule (wpAny_bind (wpAny_setField E2 di (by simp) ?_)))
 show wpAny _ _ (newExc (.type "StopIteration") [] >>= _) _ _ _
 refine wpAny_bind ?_
 simp only [newExc,newTuple]
 refine wpAny_bind (wpAny_newObj_type ?_ (by size_fits))
 refine wpAny_bind (m:=firstArgMember _ _) (wpAny_of_eq (a:=Value.none) (by first | rfl | (simp only [firstArgMember]; rfl)) ?_)
 refine wpAny_newObj_type ?_ (by size_fits)
 simp only [raiseNew]
 refine wpAny_bind (wpAny_handled ?_)
 first | rw [show A.in1.handled = none from hh] | rw [hh]
 refine wpAny_bind (wpAny_pure (wpAny_throw ?_))
 exact hE _ _ (((Heap.SameBut.update ..).extBut.push _).push _) ⟨_,Heap.get?_push_size _ rfl,rfl⟩
theorem iC {b:Bool} {it t:Addr} {i:Nat} {items:Array Value} {x:Value} {Q:Value → Shared → Prop} (hit:cZ b s.heap it t i) (ht:gQ b s.heap t items) (hx:items[i]? = some x)
  (hQ:∀ h',cZ b h' it t (i + 1) → Heap.SameBut it s.heap h' → Q x { s with heap:=h' }):wpAny (model prog w) A (Builtin.SmallTypes.nextOf (.ref it)) Q E s:=by
 cases b with
 | true => exact wpAny_nextOf_list_item hit ht hx hQ
 | false => exact oF hit ht hx hQ
theorem mX {b:Bool} {it t:Addr} {i:Nat} {items:Array Value} {Q:Value → Shared → Prop} (hh:A.handled = none) (hit:cZ b s.heap it t i) (ht:gQ b s.heap t items) (hx:items[i]? = none)
  (hE:∀ h' e,Heap.ExtBut it s.heap h' → (∃ o,h'.get? e = some o ∧ o.cls = .type "StopIteration") → E (.ref e) { s with heap:=h' }):wpAny (model prog w) A (Builtin.SmallTypes.nextOf (.ref it)) Q E s:=by
 cases b with
 | true => exact wpAny_nextOf_list_end hh hit ht hx hE
 | false => exact p_ hh hit ht hx hE
end
end L2
namespace L2
open PySem PySem.Spec PyProof.Rows
noncomputable abbrev oG (b:Bool) (l:Addr):Obj:={ cls:=.type (match b with | true => "list_iterator" | false => "tuple_iterator"),data:=.fields #[.ref l,.int 0 0] }
section
variable {prog:Program} {w:World} {A:Around} {E:Value → Shared → Prop} {s:Shared}
theorem cZ.new (b:Bool) {h:Heap} {i l:Addr} (e:h.get? i = some (oG b l)):cZ b h i l 0:=by
 cases b with
 | true => exact ⟨_,e,rfl,rfl⟩
 | false => exact ⟨_,e,rfl,rfl⟩
theorem oH {b:Bool} {l:Addr} {xs:Array Value} {Q:Value → Shared → Prop} (h:gQ b s.heap l xs) (hQ:Q (.ref s.heap.objs.size) { s with heap:=s.heap.push (oG b l) }):wpAny (model prog w) A (pyIter (.ref l)) Q E s:=by
 cases b with
 | true => exact wpAny_pyIter_list h hQ
 | false => exact wpAny_pyIter_tuple h hQ
theorem Dj {b1 b2:Bool} {z TI TO i1 i2 l1 l2:Addr} {k1 k2:Nat} {xs ys:Array Value} {x y a b:Value} {Q:Value → Shared → Prop} (D:ZipApart z TI TO i1 i2 l1 l2)
  (hz:IsZip s.heap z TI TO .none) (rZ:IsPair s.heap TI (.ref i1) (.ref i2)) (tu:IsPair s.heap TO a b) (h1:cZ b1 s.heap i1 l1 k1) (h2:cZ b2 s.heap i2 l2 k2) (w4:gQ b1 s.heap l1 xs) (wU:gQ b2 s.heap l2 ys) (hx:xs[k1]? = some x) (hy:ys[k2]? = some y)
  (hQ:∀ h',IsZip h' z TI TO (rawInt s.heap.objs.size) → IsPair h' TO x y → cZ b1 h' i1 l1 (k1 + 1) → cZ b2 h' i2 l2 (k2 + 1) → IsPair h' s.heap.objs.size x y →
   (∀ c o,c ≠ z → c ≠ TO → c ≠ i1 → c ≠ i2 → s.heap.get? c = some o → h'.get? c = some o) → Q (.ref s.heap.objs.size) { s with heap:=h' }) :
  wpAny (model prog w) A (Builtin.«zip.__next__» ⟨[.ref z],[]⟩) (fun fin s' => ∃ v,fin = .done (.ret v) ∧ Q v s') E s:=by
 show wpAny _ _ (field (.ref z) 2 >>= _) _ _ _
 refine wpAny_bind (wpAny_field hz rfl (x:=.bool false) rfl ?_)
 show wpAny _ _ (field (.ref z) 3 >>= _) _ _ _
 refine wpAny_bind (wpAny_field hz rfl (x:=.ref TI) rfl (wpAny_bind (wpAny_seqItems rZ rfl ?_)))
 show wpAny _ _ (Builtin.SmallTypes.ownedTupleIsFree (.ref z) >>= _) _ _ _
 refine wpAny_bind ?_
 unfold Builtin.SmallTypes.ownedTupleIsFree
 refine wpAny_bind (wpAny_field hz rfl (x:=.none) rfl (wpAny_pure ?_))
 simp only [if_true]
 refine wpAny_bind (wpAny_rule (wpAny_bind (wpAny_field hz rfl (x:=.ref TO) rfl (wpAny_bind (wpAny_setField_rec hz (by simp) fun g₁ mY s₁ => ?_)))))
 replace mY:IsZip g₁ z TI TO .ellipsis:=mY
 refine wpAny_bind ?_
 simp only [List.zipIdx_cons,List.zipIdx_nil,List.forIn_cons,List.forIn_nil]
 refine wpAny_bind (wpAny_bind (wpAny_onRaise ?_))
 show wpAny _ _ (Builtin.SmallTypes.nextOf (.ref i1) >>= _) _ _ _
 refine wpAny_bind (iC (b:=b1) (h1.keep fun o e => s₁.extBut _ o D.i1z e) (w4.keep fun o e => s₁.extBut _ o D.l1z e) hx fun g₂ q₁ s₂ => wpAny_pure ?_)
 have t₂:IsPair g₂ TO a b:=s₂.extBut _ _ D.TOi1 (s₁.extBut _ _ D.TOz tu)
 refine wpAny_bind (wpAny_seqItems t₂ rfl (wpAny_bind (wpAny_updateSeq_pair t₂ fun g₃ t₃ s₃ => ?_)))
 replace t₃:IsPair g₃ TO x b:=t₃
 refine wpAny_bind (wpAny_letGo (wpAny_pure (wpAny_bind (wpAny_bind (wpAny_onRaise ?_)))))
 show wpAny _ _ (Builtin.SmallTypes.nextOf (.ref i2) >>= _) _ _ _
 refine wpAny_bind (iC (b:=b2) (h2.keep fun o e => s₃.extBut _ o D.TOi2.symm (s₂.extBut _ o D.i12.symm (s₁.extBut _ o D.i2z e))) (wU.keep fun o e => s₃.extBut _ o D.l2TO (s₂.extBut _ o D.l2i1 (s₁.extBut _ o D.l2z e))) hy fun g₄ q₂ s₄ => wpAny_pure ?_)
 have t₄:IsPair g₄ TO x b:=s₄.extBut _ _ D.TOi2 t₃
 refine wpAny_bind (wpAny_seqItems t₄ rfl (wpAny_bind (wpAny_updateSeq_pair t₄ fun g₅ t₅ s₅ => ?_)))
 replace t₅:IsPair g₅ TO x y:=t₅
 refine wpAny_bind (wpAny_letGo (wpAny_pure (wpAny_pure (wpAny_bind (wpAny_seqItems t₅ rfl (wpAny_bind (wpAny_newTuple ?_)))))))
 have sz:g₅.objs.size = s.heap.objs.size:=by rw [s₅.1,s₄.1,s₃.1,s₂.1,s₁.1]
 have z₅:IsZip g₅ z TI TO .ellipsis:=s₅.extBut _ _ D.TOz.symm (s₄.extBut _ _ D.i2z.symm (s₃.extBut _ _ D.TOz.symm (s₂.extBut _ _ D.i1z.symm mY)))
 have kp:∀ c o,c ≠ z → c ≠ TO → c ≠ i1 → c ≠ i2 → s.heap.get? c = some o → g₅.get? c = some o:=fun c o n1 n2 n3 n4 e => s₅.extBut _ _ n2 (s₄.extBut _ _ n4 (s₃.extBut _ _ n2 (s₂.extBut _ _ n3 (s₁.extBut _ _ n1 e))))
 have p₁:cZ b1 g₅ i1 l1 (k1 + 1):=q₁.keep fun o e => s₅.extBut _ o D.TOi1.symm (s₄.extBut _ o D.i12 (s₃.extBut _ o D.TOi1.symm e))
 have p₂:cZ b2 g₅ i2 l2 (k2 + 1):=q₂.keep fun o e => s₅.extBut _ o D.TOi2.symm e
 have S3:z < g₅.objs.size:=Heap.lt_size z₅
 show wpAny _ _ (Builtin.SmallTypes.ownedTupleHandOut (.ref z) (.ref g₅.objs.size) >>= _) _ _ _
 refine wpAny_bind ?_
 unfold Builtin.SmallTypes.ownedTupleHandOut
 have z₆:IsZip (g₅.push { cls:=.type "tuple",data:=.seq #[x,y] }) z TI TO .ellipsis:=Heap.get?_push_of_some _ z₅
 refine wpAny_bind (wpAny_setField_rec z₆ (by simp) fun g₇ z₇ s₇ => ?_)
 replace z₇:IsZip g₇ z TI TO (rawInt g₅.objs.size):=z₇
 refine wpAny_setField_rec z₇ (by simp) fun g₈ z₈ s₈ => ?_
 replace z₈:IsZip g₈ z TI TO (rawInt g₅.objs.size):=z₈
 have up:∀ c o,c ≠ z → g₅.get? c = some o → g₈.get? c = some o:=fun c o n e => s₈.extBut _ _ n (s₇.extBut _ _ n (Heap.get?_push_of_some _ e))
 have t₈:IsPair g₈ g₅.objs.size x y:=s₈.extBut _ _ (Nat.ne_of_gt S3) (s₇.extBut _ _ (Nat.ne_of_gt S3) (Heap.get?_push_size _ rfl))
 rw [sz] at z₈ t₈
 refine wpAny_pure ⟨_,rfl,?_⟩
 show Q (.ref g₅.objs.size) _
 rw [sz]
 exact hQ g₈ z₈ (up _ _ D.TOz t₅) (p₁.keep fun o e => up _ o D.i1z e) (p₂.keep fun o e => up _ o D.i2z e) t₈ fun c o n1 n2 n3 n4 e => up c o n1 (kp c o n1 n2 n3 n4 e)
theorem GS {b1 b2:Bool} {z TI TO i1 i2 l1 l2:Addr} {k1 k2:Nat} {xs ys:Array Value} {a b:Value} {Q:Fin → Shared → Prop} (hh:A.handled = none) (D:ZipApart z TI TO i1 i2 l1 l2)
  (hz:IsZip s.heap z TI TO .none) (rZ:IsPair s.heap TI (.ref i1) (.ref i2)) (tu:IsPair s.heap TO a b) (h1:cZ b1 s.heap i1 l1 k1) (h2:cZ b2 s.heap i2 l2 k2) (w4:gQ b1 s.heap l1 xs) (wU:gQ b2 s.heap l2 ys) (he:xs[k1]? = none ∨ ys[k2]? = none)
  (hE:∀ h' e,(∀ c o,c ≠ z → c ≠ TO → c ≠ i1 → c ≠ i2 → s.heap.get? c = some o → h'.get? c = some o) → (∃ o,h'.get? e = some o ∧ o.cls = .type "StopIteration") → E (.ref e) { s with heap:=h' }) :
  wpAny (model prog w) A (Builtin.«zip.__next__» ⟨[.ref z],[]⟩) Q E s:=by
 show wpAny _ _ (field (.ref z) 2 >>= _) _ _ _
 refine wpAny_bind (wpAny_field hz rfl (x:=.bool false) rfl ?_)
 show wpAny _ _ (field (.ref z) 3 >>= _) _ _ _
 refine wpAny_bind (wpAny_field hz rfl (x:=.ref TI) rfl (wpAny_bind (wpAny_seqItems rZ rfl ?_)))
 show wpAny _ _ (Builtin.SmallTypes.ownedTupleIsFree (.ref z) >>= _) _ _ _
 refine wpAny_bind ?_
 unfold Builtin.SmallTypes.ownedTupleIsFree
 refine wpAny_bind (wpAny_field hz rfl (x:=.none) rfl (wpAny_pure ?_))
 simp only [if_true]
 refine wpAny_bind (wpAny_rule (wpAny_bind (wpAny_field hz rfl (x:=.ref TO) rfl (wpAny_bind (wpAny_setField_rec hz (by simp) fun g₁ mY s₁ => ?_)))))
 replace mY:IsZip g₁ z TI TO .ellipsis:=mY
 refine wpAny_bind ?_
 simp only [List.zipIdx_cons,List.zipIdx_nil,List.forIn_cons,List.forIn_nil]
 refine wpAny_bind (wpAny_bind (wpAny_onRaise ?_))
 show wpAny _ _ (Builtin.SmallTypes.nextOf (.ref i1) >>= _) _ _ _
 cases hx:xs[k1]? with
 | none =>
  refine wpAny_bind (mX (b:=b1) hh (h1.keep fun o e => s₁.extBut _ o D.i1z e) (w4.keep fun o e => s₁.extBut _ o D.l1z e) hx fun g₂ e s₂ ⟨oe,Cv,ce⟩ => ?_)
  have z₂:IsZip g₂ z TI TO .ellipsis:=s₂ _ _ D.i1z.symm mY
  have NI:e ≠ z:=fun q => by subst q; rw [z₂] at Cv; cases Cv; simp at ce
  exact wpAny_setField_rec z₂ (by simp) fun g₃ _ s₃ => hE g₃ e (fun c o n1 _ n3 _ q => s₃.extBut _ _ n1 (s₂ _ _ n3 (s₁.extBut _ _ n1 q))) ⟨oe,s₃.extBut _ _ NI Cv,ce⟩
 | some x =>
  have hy:ys[k2]? = none:=by
   rcases he with q | q
   ·rw [hx] at q; cases q
   ·exact q
  refine wpAny_bind (iC (b:=b1) (h1.keep fun o e => s₁.extBut _ o D.i1z e) (w4.keep fun o e => s₁.extBut _ o D.l1z e) hx fun g₂ q₁ s₂ => wpAny_pure ?_)
  have t₂:IsPair g₂ TO a b:=s₂.extBut _ _ D.TOi1 (s₁.extBut _ _ D.TOz tu)
  refine wpAny_bind (wpAny_seqItems t₂ rfl (wpAny_bind (wpAny_updateSeq_pair t₂ fun g₃ t₃ s₃ => ?_)))
  refine wpAny_bind (wpAny_letGo (wpAny_pure (wpAny_bind (wpAny_bind (wpAny_onRaise ?_)))))
  show wpAny _ _ (Builtin.SmallTypes.nextOf (.ref i2) >>= _) _ _ _
  refine wpAny_bind (mX (b:=b2) hh (h2.keep fun o e => s₃.extBut _ o D.TOi2.symm (s₂.extBut _ o D.i12.symm (s₁.extBut _ o D.i2z e))) (wU.keep fun o e => s₃.extBut _ o D.l2TO (s₂.extBut _ o D.l2i1 (s₁.extBut _ o D.l2z e))) hy fun g₄ e s₄ ⟨oe,Cv,ce⟩ => ?_)
  have z₄:IsZip g₄ z TI TO .ellipsis:=s₄ _ _ D.i2z.symm (s₃.extBut _ _ D.TOz.symm (s₂.extBut _ _ D.i1z.symm mY))
  have NI:e ≠ z:=fun q => by subst q; rw [z₄] at Cv; cases Cv; simp at ce
  exact wpAny_setField_rec z₄ (by simp) fun g₅ _ s₅ => hE g₅ e (fun c o n1 n2 n3 n4 q => s₅.extBut _ _ n1 (s₄ _ _ n4 (s₃.extBut _ _ n2 (s₂.extBut _ _ n3 (s₁.extBut _ _ n1 q))))) ⟨oe,s₅.extBut _ _ NI Cv,ce⟩
theorem yp {b1 b2:Bool} {z TI TO i1 i2 l1 l2:Addr} {k1 k2:Nat} {xs ys:Array Value} {x y a b:Value} {Q:Option Value → Shared → Prop} (D:ZipApart z TI TO i1 i2 l1 l2)
  (hz:IsZip s.heap z TI TO .none) (rZ:IsPair s.heap TI (.ref i1) (.ref i2)) (tu:IsPair s.heap TO a b) (h1:cZ b1 s.heap i1 l1 k1) (h2:cZ b2 s.heap i2 l2 k2) (w4:gQ b1 s.heap l1 xs) (wU:gQ b2 s.heap l2 ys) (hx:xs[k1]? = some x) (hy:ys[k2]? = some y)
  (hQ:∀ h',IsZip h' z TI TO (rawInt s.heap.objs.size) → IsPair h' TO x y → cZ b1 h' i1 l1 (k1 + 1) → cZ b2 h' i2 l2 (k2 + 1) → IsPair h' s.heap.objs.size x y →
   (∀ c o,c ≠ z → c ≠ TO → c ≠ i1 → c ≠ i2 → s.heap.get? c = some o → h'.get? c = some o) → Q (some (.ref s.heap.objs.size)) { s with heap:=h' }):wpAny (model prog w) A (pyNext (.ref z)) Q E s:=by
 have tz:s.TypeIs (.ref z) "zip":=⟨_,hz,rfl⟩
 unfold pyNext
 exact wpAny_bind (wpAny_attempt (wpAny_callSpecial?_slot (name:=Str.ofString "__next__") tz F.slot_zip_next
  (wpAny_call_entry F.slot_zip_next tz F.entry_zip_next (Dj (b1:=b1) (b2:=b2) D hz rZ tu h1 h2 w4 wU hx hy fun h' a1 a2 a3 a4 a5 a6 => wpAny_pure (hQ h' a1 a2 a3 a4 a5 a6)) (F.args_zip_next_1 _))))
theorem Ah {b1 b2:Bool} {z TI TO i1 i2 l1 l2:Addr} {k1 k2:Nat} {xs ys:Array Value} {a b:Value} {Q:Option Value → Shared → Prop} (hh:A.handled = none) (D:ZipApart z TI TO i1 i2 l1 l2)
  (hz:IsZip s.heap z TI TO .none) (rZ:IsPair s.heap TI (.ref i1) (.ref i2)) (tu:IsPair s.heap TO a b) (h1:cZ b1 s.heap i1 l1 k1) (h2:cZ b2 s.heap i2 l2 k2) (w4:gQ b1 s.heap l1 xs) (wU:gQ b2 s.heap l2 ys) (he:xs[k1]? = none ∨ ys[k2]? = none)
  (hQ:∀ h',(∀ c o,c ≠ z → c ≠ TO → c ≠ i1 → c ≠ i2 → s.heap.get? c = some o → h'.get? c = some o) → Q none { s with heap:=h' }):wpAny (model prog w) A (pyNext (.ref z)) Q E s:=by
 have tz:s.TypeIs (.ref z) "zip":=⟨_,hz,rfl⟩
 unfold pyNext
 refine wpAny_bind (wpAny_attempt (wpAny_callSpecial?_slot (name:=Str.ofString "__next__") tz F.slot_zip_next
  (wpAny_call_entry F.slot_zip_next tz F.entry_zip_next (GS (b1:=b1) (b2:=b2) hh D hz rZ tu h1 h2 w4 wU he fun h' e hk he => ?_) (F.args_zip_next_1 _))))
 obtain ⟨o,ho,hc⟩:=he
 exact wpAny_bind (wpAny_isInstance (T:="StopIteration") (b:=true) ⟨o,ho,hc⟩ isSubtype_stop (wpAny_pure (hQ _ hk)))
noncomputable abbrev L3 (b1:Bool) (h:Heap) (l1:Addr):Heap:=h.push (oG b1 l1)
noncomputable abbrev L4 (b1 b2:Bool) (h:Heap) (l1 l2:Addr):Heap:=(L3 b1 h l1).push (oG b2 l2)
noncomputable abbrev L5 (b1 b2:Bool) (h:Heap) (l1 l2:Addr):Heap:=(L4 b1 b2 h l1 l2).push { cls:=.type "tuple",data:=.seq #[.ref h.objs.size,.ref (L3 b1 h l1).objs.size] }
noncomputable abbrev L6 (b1 b2:Bool) (h:Heap) (l1 l2:Addr):Heap:=(L5 b1 b2 h l1 l2).push { cls:=.type "tuple",data:=.seq #[.none,.none] }
noncomputable abbrev IL (b1 b2:Bool) (h:Heap) (l1 l2:Addr):Heap:=(L6 b1 b2 h l1 l2).push { cls:=.type "zip",data:=.fields #[.none,.bool false,.bool false,.ref (L4 b1 b2 h l1 l2).objs.size,.ref (L5 b1 b2 h l1 l2).objs.size] }
theorem Ai (b1 b2:Bool) (l1 l2:Addr) (xs ys:Array Value) :
  Meets (Builtin.«zip.__new__» ⟨[.type "zip",.ref l1,.ref l2],[]⟩) (fun _ R s => gQ b1 s.heap l1 xs ∧ gQ b2 s.heap l2 ys ∧ R (.ok (.ret (.ref (L6 b1 b2 s.heap l1 l2).objs.size))) { s with heap:=IL b1 b2 s.heap l1 l2 }) :=
 .of_wp fun prog w A R s h => by
  obtain ⟨hp,g,d,tk,os⟩:=s
  obtain ⟨q1,q2,h⟩:=h
  have JX:=sub_zip
  have w1:gQ b1 (Shared.heap ⟨hp,g,d,tk,os⟩) l1 xs:=q1
  have w2:gQ b2 (Shared.heap ⟨hp.push (oG b1 l1),g,d,tk,os⟩) l2 ys:=q2.keep fun o e => Heap.get?_push_of_some _ e
  wp_walk using oH w1,oH w2
  exact ⟨_,rfl,h⟩
theorem Aj {b1 b2:Bool} {l1 l2:Addr} {xs ys:Array Value} {Q:Value → Shared → Prop} (w4:gQ b1 s.heap l1 xs) (wU:gQ b2 s.heap l2 ys)
  (h:∀ h',IsZip h' (s.heap.objs.size + 4) (s.heap.objs.size + 2) (s.heap.objs.size + 3) .none → IsPair h' (s.heap.objs.size + 2) (.ref s.heap.objs.size) (.ref (s.heap.objs.size + 1)) → IsPair h' (s.heap.objs.size + 3) .none .none →
   cZ b1 h' s.heap.objs.size l1 0 → cZ b2 h' (s.heap.objs.size + 1) l2 0 → (∀ c o,s.heap.get? c = some o → h'.get? c = some o) → Q (.ref (s.heap.objs.size + 4)) { s with heap:=h' }) :
  wpAny (model prog w) A (call (.type "zip") [.ref l1,.ref l2]) Q E s:=by
 refine callType_new F.called_zip (by decide) (F.typeCall_zip_2 _ _) (F.newCall_zip_2 _ _) (fun obj => F.args_object_init_3 obj _ _) F.entry_zip_new (Ai b1 b2 l1 l2 xs ys) ⟨w4,wU,?_⟩
 have z1:(L3 b1 s.heap l1).objs.size = s.heap.objs.size + 1:=Heap.size_push ..
 have z2:(L4 b1 b2 s.heap l1 l2).objs.size = s.heap.objs.size + 2:=by rw [Heap.size_push,z1]
 have z3:(L5 b1 b2 s.heap l1 l2).objs.size = s.heap.objs.size + 3:=by rw [Heap.size_push,z2]
 have z4:(L6 b1 b2 s.heap l1 l2).objs.size = s.heap.objs.size + 4:=by rw [Heap.size_push,z3]
 have g5:(IL b1 b2 s.heap l1 l2).get? (L6 b1 b2 s.heap l1 l2).objs.size = some _:=Heap.get?_push_size _ rfl
 have g4:(IL b1 b2 s.heap l1 l2).get? (L5 b1 b2 s.heap l1 l2).objs.size = some _:=Heap.get?_push_of_some _ (Heap.get?_push_size _ rfl)
 have g3:(IL b1 b2 s.heap l1 l2).get? (L4 b1 b2 s.heap l1 l2).objs.size = some _:=Heap.get?_push_of_some _ (Heap.get?_push_of_some _ (Heap.get?_push_size _ rfl))
 have g2:(IL b1 b2 s.heap l1 l2).get? (L3 b1 s.heap l1).objs.size = some (oG b2 l2):=Heap.get?_push_of_some _ (Heap.get?_push_of_some _ (Heap.get?_push_of_some _ (Heap.get?_push_size _ rfl)))
 have g1:(IL b1 b2 s.heap l1 l2).get? s.heap.objs.size = some (oG b1 l1):=Heap.get?_push_of_some _ (Heap.get?_push_of_some _ (Heap.get?_push_of_some _ (Heap.get?_push_of_some _ (Heap.get?_push_size _ rfl))))
 show _ ∧ _
 rw [z2,z3,z4] at g5
 rw [z1,z2] at g3
 rw [z3] at g4
 rw [z1] at g2
 rw [z4]
 exact ⟨⟨_,g5,rfl⟩,h _ g5 g3 g4 (.new b1 g1) (.new b2 g2) fun c o x => Heap.get?_push_of_some _ (Heap.get?_push_of_some _ (Heap.get?_push_of_some _ (Heap.get?_push_of_some _ (Heap.get?_push_of_some _ x))))⟩
end
noncomputable def vL (b:Bool) (K:PySem.W.Frag) (H:Hp) (a:Addr) (xs:List V):Prop:=match b with | true => mV K H a xs | false => jQ K H a xs
theorem Inv.IM {X:Cx} {pins:List (Addr × Obj)} {σ:St} {H:Hp} {s:Shared} {b:Bool} {a:Addr} {xs:List V} (I:Inv X pins σ H s) (h:vL b X.K H a xs):∃ aN:List Value,Vals xs aN ∧ gQ b s.heap a aN.toArray ∧ xs.length ≤ sizeLine:=by
 cases b with
 | true => obtain ⟨aN,r,p,z⟩:=I.list h; exact ⟨aN,r,p.isList,z⟩
 | false => obtain ⟨aN,r,p,z⟩:=I.tuple h; exact ⟨aN,r,p,z⟩
theorem Inv.w6 {X:Cx} {pins:List (Addr × Obj)} {σ:St} {H:Hp} {s:Shared} {b:Bool} {a:Addr} {xs ys:List V} (I:Inv X pins σ H s) (h:vL b X.K H a xs) (h':vL b X.K H a ys):xs = ys:=by
 cases b with
 | true => exact I.oo h h'
 | false => exact I.lE h h'
theorem Inv.E3 {X:Cx} {pins:List (Addr × Obj)} {σ:St} {H:Hp} {s:Shared} {b:Bool} {l c:Addr} {zs:List V} (I:Inv X pins σ H s) (hs:vL b X.K H l zs) (f:p7 X pins H c):l ≠ c:=by
 intro q
 have mo:∀ o,X.K.lookup l = some o → False:=fun o hk => by
  have e:=I.mod.FK l o hk
  rcases f.2.2.2.1 with z | z
  ·exact I.ok.vA l o e (by rw [q]; exact z)
  ·exact absurd (Nat.lt_of_lt_of_le (Heap.lt_size (I.ok.bs l o e).1) (by rw [q]; exact z)) (Nat.lt_irrefl _)
 have tr:∀ o,H l = some o → False:=fun o e => by rw [q,f.1] at e; cases e
 cases b with
 | true =>
  rcases (show mV X.K H l zs from hs) with (r | ⟨o,r⟩) | ⟨o,aN,n,hk,_⟩
  ·exact tr _ r
  ·exact tr _ r
  ·exact mo o hk
 | false =>
  rcases (show jQ X.K H l zs from hs) with (r | ⟨o,r⟩) | ⟨o,aN,n,hk,_⟩
  ·exact tr _ r
  ·exact tr _ r
  ·exact mo o hk
noncomputable def S4 (K:PySem.W.Frag) (b1 b2:Bool) (a b:Addr):It :=
 ⟨fun i H => ∃ xs ys x y,vL b1 K H a xs ∧ vL b2 K H b ys ∧ xs[i]? = some x ∧ ys[i]? = some y,
  fun i H v H' => ∃ p x y,v = .ref p ∧ H p = none ∧ H' = upd H p (.tup [x,y]) ∧ (∀ xs,vL b1 K H a xs → xs[i]? = some x) ∧ ∀ ys,vL b2 K H b ys → ys[i]? = some y,
  fun i H => ∃ xs ys,vL b1 K H a xs ∧ vL b2 K H b ys ∧ (xs.length ≤ i ∨ ys.length ≤ i)⟩
theorem Ak {P:Program} {w:World} {K:PySem.W.Frag} {elts:List Expr} {kt:Nat} {tp:Pos} {b1 b2:Bool} {z TI TO i1 i2:Addr} (a b:Addr) (ne:z ≠ TI ∧ z ≠ TO ∧ z ≠ i1 ∧ z ≠ i2 ∧ TI ≠ TO ∧ TI ≠ i1 ∧ TI ≠ i2 ∧ TO ≠ i1 ∧ TO ≠ i2 ∧ i1 ≠ i2) :
  Turn P w K (.Tuple elts kt tp) (S4 K b1 b2 a b) [z,TI,TO,i1,i2] z (fun i h => IsZip h z TI TO .none ∧ IsPair h TI (.ref i1) (.ref i2) ∧ (∃ u v,IsPair h TO u v) ∧ cZ b1 h i1 a i ∧ cZ b2 h i2 b i) where
 mem:=by simp
 obj:=fun i h ⟨hz,rZ,⟨u,v,tu⟩,h1,h2⟩ c hc => by
  have eO:c = z ∨ c = TI ∨ c = TO ∨ c = i1 ∨ c = i2:=by simpa using hc
  rcases eO with rfl | rfl | rfl | rfl | rfl
  ·exact ⟨_,hz,fun v q => by have q':Data.fields _ = Data.cell v:=q; cases q'⟩
  ·exact ⟨_,rZ,fun v q => by have q':Data.seq _ _ = Data.cell v:=q; cases q'⟩
  ·exact ⟨_,tu,fun v q => by have q':Data.seq _ _ = Data.cell v:=q; cases q'⟩
  ·obtain ⟨o,n,vs,e,_,d⟩:=h1.there
   exact ⟨o,e,fun v q => by rw [d] at q; cases q⟩
  ·obtain ⟨o,n,vs,e,_,d⟩:=h2.there
   exact ⟨o,e,fun v q => by rw [d] at q; cases q⟩
 keep:=fun i h h' ⟨hz,rZ,⟨u,v,tu⟩,h1,h2⟩ k => ⟨k z (by simp) _ hz,k TI (by simp) _ rZ,⟨u,v,k TO (by simp) _ tu⟩,h1.keep fun o e => k i1 (by simp) o e,h2.keep fun o e => k i2 (by simp) o e⟩
 item:=by
  intro X hP hw hK hc i pins s σ H E I hf st hg
  subst hP hw hK
  obtain ⟨hz,rZ,⟨u,v,tu⟩,h1,h2⟩:=st
  obtain ⟨xs,ys,x,y,sx,sy,ex,ey⟩:=hg
  obtain ⟨aN,rv,p,_⟩:=I.IM sx
  obtain ⟨d0,L7,p2,_⟩:=I.IM sy
  obtain ⟨ux,UI,rx⟩:=rv.get ex
  obtain ⟨uy,UJ,ry⟩:=L7.get ey
  obtain ⟨n1,n2,n3,n4,n5,n6,n7,n8,n9,NJ⟩:=ne
  have fz:=hf z (by simp)
  have fJ:∀ {b:Bool} {l:Addr} {zs:List V},vL b X.K H l zs → ∀ c ∈ [z,TI,TO,i1,i2],l ≠ c:=fun {b l zs} hs c eO => I.E3 hs (hf c eO)
  have D:ZipApart z TI TO i1 i2 a b:=⟨n1.symm,n2.symm,n3.symm,n4.symm,n5,n6,n7,n8,n9,NJ,fJ sx z (by simp),fJ sx TO (by simp),fJ sx i1 (by simp),fJ sx i2 (by simp),fJ sy z (by simp),fJ sy TO (by simp),fJ sy i1 (by simp),fJ sy i2 (by simp)⟩
  refine yp (b1:=b1) (b2:=b2) D hz rZ tu h1 h2 p p2 (x:=ux) (y:=uy) (by simpa using UI) (by simpa using UJ) fun h' a1 a2 a3 a4 a5 a6 => ⟨_,rfl,?_⟩
  have hT:H s.heap.objs.size = none:=I.bK.fresh (Nat.le_refl _)
  have NK:∀ c ∈ [z,TO,i1,i2],H c = none:=fun c eO => (hf c (by simp at eO ⊢; rcases eO with q | q | q | q <;> simp [q])).1
  have kp:∀ c o,c ∉ [z,TO,i1,i2] → s.heap.get? c = some o → h'.get? c = some o:=fun c o eO e => a6 c o (fun q => eO (by simp [q])) (fun q => eO (by simp [q])) (fun q => eO (by simp [q])) (fun q => eO (by simp [q])) e
  have wJ:∀ c o,H c = some o → c ∉ [z,TO,i1,i2]:=fun c o e eO => by rw [NK c eO] at e; cases e
  have bK:gG X.prog X.w (upd H s.heap.objs.size (.tup [x,y])) h':=fun c o e => by
   by_cases S5:c = s.heap.objs.size
   ·subst S5
    rw [bw] at e
    cases e
    exact ⟨by show 2 ≤ sizeLine; decide,[ux,uy],.cons rx (.cons ry .nil),_,a5,rfl,_,rfl⟩
   ·rw [aE S5] at e
    refine (I.bK c o e).jJ (fun d v hd q => kp d v ?_ q) (fun d q => by rw [aE (bu q hT)]; exact q) fun d zs q => by rw [aE (bu q hT)]; exact q
    rcases hd with q' | q'
    ·rw [q']; exact wJ c o e
    ·exact wJ d _ q'
  have un:Un (fY X.stack) [z,TO,i1,i2] H (upd H s.heap.objs.size (.tup [x,y])) s.heap h' :=
   ⟨fun c o e n _ eO => kp c o eO e,fun c o e n _ eO => ⟨o.slots,kp c o eO e⟩,fun c o e n eO => by rw [aE (Nat.ne_of_lt (Heap.lt_size e))]; exact n,fun c o e eO => ⟨o,kp c o eO e⟩,
    fun c zs e => by rw [aE (bu e hT)]; exact e,fun c o u e => by rw [aE (bu e hT)]; exact e,fun c ps e => ⟨#[],by rw [aE (bu e hT),e]; simp⟩⟩
  have I1:Inv X pins σ (upd H s.heap.objs.size (.tup [x,y])) { s with heap:=h' }:=I.wL rfl un bK I.bare fun c eO => by
   obtain ⟨f0,f1,f2,f3,f4,f5⟩:=hf c (by simp at eO ⊢; rcases eO with q | q | q | q <;> simp [q])
   exact ⟨f3,f1,f4,f5⟩
  have UK:∀ c ∈ [z,TI,TO,i1,i2],c ≠ s.heap.objs.size:=fun c eO q => by
   have vx:c < s.heap.objs.size:=by
    have NL:c = z ∨ c = TI ∨ c = TO ∨ c = i1 ∨ c = i2:=by simpa using eO
    rcases NL with r | r | r | r | r
    ·rw [r]; exact Heap.lt_size hz
    ·rw [r]; exact Heap.lt_size rZ
    ·rw [r]; exact Heap.lt_size tu
    ·obtain ⟨o,_,_,e,_⟩:=h1.there; rw [r]; exact Heap.lt_size e
    ·obtain ⟨o,_,_,e,_⟩:=h2.there; rw [r]; exact Heap.lt_size e
   exact absurd vx (by rw [q]; exact Nat.lt_irrefl _)
  have S6:∀ c ∈ [z,TI,TO,i1,i2],(upd H s.heap.objs.size (.tup [x,y])) c = none:=fun c eO => by rw [aE (UK c eO)]; exact (hf c eO).1
  refine wpAny_letOwnedTupleGo_zip a1 fun GU NM sb => ?_
  obtain ⟨f0,f1,f2,f3,f4,f5⟩:=fz
  have I2:Inv X pins σ (upd H s.heap.objs.size (.tup [x,y])) { s with heap:=GU }:=I1.turned (s:={ s with heap:=h' }) (t':=s.toks) (it:=z) (fun c o eO e => (sb.2 c eO).trans e) (S6 z (by simp)) f1 f3 f4 f5
  refine ⟨.ref s.heap.objs.size,_,I2,rfl,⟨_,x,y,rfl,hT,rfl,fun zs hs => by rw [I.w6 hs sx]; exact ex,fun zs hs => by rw [I.w6 hs sy]; exact ey⟩,⟨NM,?_,⟨_,_,sb.extBut _ _ n2.symm a2⟩,a3.keep fun o e => sb.extBut _ o n3.symm e,a4.keep fun o e => sb.extBut _ o n4.symm e⟩,S6⟩
  exact sb.extBut _ _ n1.symm (a6 _ _ n1.symm n5 n6 n7 rZ)
 done:=by
  intro X hP hw hK hc i pins s σ H E I hf st hg
  subst hP hw hK
  obtain ⟨hz,rZ,⟨u,v,tu⟩,h1,h2⟩:=st
  obtain ⟨xs,ys,sx,sy,hl⟩:=hg
  obtain ⟨aN,rv,p,_⟩:=I.IM sx
  obtain ⟨d0,L7,p2,_⟩:=I.IM sy
  have l1:=rv.length
  have l2:=L7.length
  obtain ⟨n1,n2,n3,n4,n5,n6,n7,n8,n9,NJ⟩:=ne
  have fJ:∀ {b:Bool} {l:Addr} {zs:List V},vL b X.K H l zs → ∀ c ∈ [z,TI,TO,i1,i2],l ≠ c:=fun {b l zs} hs c eO => I.E3 hs (hf c eO)
  have D:ZipApart z TI TO i1 i2 a b:=⟨n1.symm,n2.symm,n3.symm,n4.symm,n5,n6,n7,n8,n9,NJ,fJ sx z (by simp),fJ sx TO (by simp),fJ sx i1 (by simp),fJ sx i2 (by simp),fJ sy z (by simp),fJ sy TO (by simp),fJ sy i1 (by simp),fJ sy i2 (by simp)⟩
  refine Ah (b1:=b1) (b2:=b2) (I.ok.hd hc) D hz rZ tu h1 h2 p p2 (by rcases hl with q | q; exact .inl (by simp; lia); exact .inr (by simp; lia)) fun h' a6 => ⟨rfl,?_⟩
  have NK:∀ c ∈ [z,TO,i1,i2],H c = none:=fun c eO => (hf c (by simp at eO ⊢; rcases eO with q | q | q | q <;> simp [q])).1
  have kp:∀ c o,c ∉ [z,TO,i1,i2] → s.heap.get? c = some o → h'.get? c = some o:=fun c o eO e => a6 c o (fun q => eO (by simp [q])) (fun q => eO (by simp [q])) (fun q => eO (by simp [q])) (fun q => eO (by simp [q])) e
  have wJ:∀ c o,H c = some o → c ∉ [z,TO,i1,i2]:=fun c o e eO => by rw [NK c eO] at e; cases e
  have bK:gG X.prog X.w H h':=fun c o e => by
   refine (I.bK c o e).jJ (fun d v hd q => kp d v ?_ q) (fun d q => q) fun d zs q => q
   rcases hd with q' | q'
   ·rw [q']; exact wJ c o e
   ·exact wJ d _ q'
  have un:Un (fY X.stack) [z,TO,i1,i2] H H s.heap h' :=
   ⟨fun c o e n _ eO => kp c o eO e,fun c o e n _ eO => ⟨o.slots,kp c o eO e⟩,fun c o e n eO => n,fun c o e eO => ⟨o,kp c o eO e⟩,fun c zs e => e,fun c o u e => e,fun c ps e => ⟨#[],by rw [e]; simp⟩⟩
  exact I.wL rfl un bK I.bare fun c eO => by
   obtain ⟨f0,f1,f2,f3,f4,f5⟩:=hf c (by simp at eO ⊢; rcases eO with q | q | q | q <;> simp [q])
   exact ⟨f3,f1,f4,f5⟩
 self:=fun _ _ _ _ _ st h => wpAny_pyIter_zip st.1 h
section
variable {X:Cx} {elts:List Expr} {kt:Nat} {tp p pos:Pos}
noncomputable def NN (K:PySem.W.Frag) (b1 b2:Bool) (ta:TA):TI:=fun σ H R => ta σ H fun vs H1 => ∃ a b,vs = [.ref a,.ref b] ∧ (∃ xs,vL b1 K H1 a xs) ∧ (∃ ys,vL b2 K H1 b ys) ∧ R (S4 K b1 b2 a b) H1
theorem GV (b1 b2:Bool) {ea eb:Expr} {ta:TA} (hg:Gl X "zip") (hm:X.mg "zip" = none) (ha:PA X [ea,eb] ta) (hs:starEach [ea,eb] X.env = [(false,eval ea X.env),(false,eval eb X.env)]:=by rfl) (hR:starEach [eb] X.env = [(false,eval eb X.env)]:=by rfl) :
  PI X (.Tuple elts kt tp) (.Call (.Name "zip" p) [ea,eb] [] pos) (NN X.K b1 b2 ta):=by
 intro pins s σ H R I h
 refine Call_ (jb I hg hm boot_zip (PyProof.Rows.callWith_type1 (c_ (ha pos pins s σ H _ I h) fun us s1 ⟨vs,H1,I1,r1,q1⟩ => ?_) (by rw [hs,hR]) (by rw [hR]; rfl)))
 obtain ⟨a,b,e,⟨xs,sx⟩,⟨ys,sy⟩,q⟩:=q1
 subst e
 obtain ⟨u,u2,rfl,ru,JY⟩:=vals2 r1
 cases ru
 cases JY
 obtain ⟨aN,rv,p1,_⟩:=I1.IM sx
 obtain ⟨d0,L7,p2,_⟩:=I1.IM sy
 refine Aj (b1:=b1) (b2:=b2) p1 p2 fun h' hz rZ tu g1 g2 kp => wpAny_pyIter_zip hz ?_
 have I2:Inv X pins σ H1 { s1 with heap:=h' }:=I1.kept (t':=s1.toks) kp
 refine ⟨_,[s1.heap.objs.size + 4,s1.heap.objs.size + 2,s1.heap.objs.size + 3,s1.heap.objs.size,s1.heap.objs.size + 1],_,_,H1,rfl,I2,Ak (b1:=b1) (b2:=b2) a b ?_,⟨hz,rZ,⟨_,_,tu⟩,g1,g2⟩,fun c hc => ?_,q⟩
 ·refine ⟨?_,?_,?_,?_,?_,?_,?_,?_,?_,?_⟩ <;> (intro z; have z':(_:Nat) = _:=z; lia)
 ·have hle:s1.heap.objs.size ≤ c:=by
   have eO:c = s1.heap.objs.size + 4 ∨ c = s1.heap.objs.size + 2 ∨ c = s1.heap.objs.size + 3 ∨ c = s1.heap.objs.size ∨ c = s1.heap.objs.size + 1:=by simpa using hc
   rcases eO with r | r | r | r | r <;> (rw [r]; first | exact Nat.le_refl _ | exact Nat.le_add_right _ _)
  exact I1.zO hle (I1.bK.fresh hle)
end
end L2
namespace L2
open PySem PySem.Spec PyProof.Rows
theorem bW.there {P:Program} {w:World} {H:Hp} {h:Heap} {a:Addr} {o:HO} (x:bW P w H h a o):∃ ob,h.get? a = some ob:=by
 cases o with
 | lst xs => obtain ⟨_,_,_,_,e⟩:=x; exact ⟨_,e⟩
 | tup xs => obtain ⟨_,_,_,ob,e,_⟩:=x; exact ⟨_,e⟩
 | dK aI => obtain ⟨_,_,_,_,o,_,_,e,_⟩:=x; exact ⟨_,e⟩
 | dT aI => obtain ⟨_,_,_,_,o,_,_,e,_⟩:=x; exact ⟨_,e⟩
 | set S n => obtain ⟨o,_,_,_,e,_⟩:=x; exact ⟨_,e⟩
 | ins C dx fs => obtain ⟨_,_,_,e,_⟩:=x; exact ⟨_,e⟩
 | own y => obtain ⟨_,e⟩:=x; exact ⟨_,e⟩
 | xd fs => obtain ⟨_,⟨_,_,_,e,_⟩,_⟩:=x; exact ⟨_,e⟩
 | LK lo hi => obtain ⟨_,_,_,e⟩:=x; exact ⟨_,e⟩
 | fQ ob u => obtain ⟨e,_⟩:=x; exact ⟨_,e⟩
 | p5 ps => exact ⟨_,(show h.get? a = some _ from x)⟩
 | met f y => exact ⟨_,(show h.get? a = some _ from x)⟩
 | ext φ => obtain ⟨_,e,_⟩:=x; exact e
structure S7 (P:Program) (w:World) (l:List Env) (H H':Hp) (s s':Shared) (ea:Addr) (cls:Value):Prop where
 os:s'.os = s.os
 bare:AllBare s'.gens
 un:Un (fY l) [] H H' s.heap s'.heap
 bK:gG P w H' s'.heap
 fl:∃ (B:Heap) (t:Addr),Heap.FlyingW B l ea cls (.ref t) s'.heap ∧ (∀ b,H' b ≠ none → ∃ o,B.get? b = some o) ∧ (∀ b o,s.heap.get? b = some o → b ∉ fY l → ∃ o',B.get? b = some o')
noncomputable def iY (P:Program) (w:World):zS:=fun outer H s E e s' => ∃ ea cls H',e = .ref ea ∧ S7 P w outer H H' s s' ea cls ∧ E cls none H'
section
variable {P:Program} {w:World} {K:PySem.W.Frag} {mg:Str → Option Value} {base:Heap} {N:List Str} {qual:Str} {scope:Scope} {f:Addr} {cd:Value} {A:Around} {outer:List Env} {s₀:Shared} {H₀:Hp} {E:XK}
theorem t4 {env:Env} {L:Addr} (hf:env.frame = some L) (l:List Env):fY (env :: l) = L :: fY l:=by
 unfold fY
 rw [List.filterMap_cons,hf]
theorem yq {pins:List (Addr × Obj)} {σ:St} {H:Hp} {s:Shared} {h':Heap} {e:Addr} {cls:Value} {vs:List Value} (I:Inv (fR (iY P w) P w K mg base N qual scope f cd A outer s₀ H₀ E) pins σ H s)
  (hx:Heap.MadeExcOf s.heap h' e cls vs) (hE:E cls none H):(fR (iY P w) P w K mg base N qual scope f cd A outer s₀ H₀ E).xe (.ref e) { s with heap:=h' }:=by
 have zz:=I.stack
 have wK:=I.rG
 have JZ:(A.deeper (envOfC qual scope s₀.heap.objs.size f cd)).frames = some (envOfC qual scope s₀.heap.objs.size f cd :: outer):=I.ok.frames
 have J0:fY (envOfC qual scope s₀.heap.objs.size f cd :: outer) = s₀.heap.objs.size :: fY outer:=t4 rfl outer
 have E4:∀ env ∈ (envOfC qual scope s₀.heap.objs.size f cd :: outer),∀ b,env.frame = some b → b ∈ fY (envOfC qual scope s₀.heap.objs.size f cd :: outer):=fun env he b hb => List.mem_filterMap.mpr ⟨env,he,hb⟩
 have E5:∀ b o,s₀.heap.get? b = some o → b ∉ fY outer → b ∉ fY (envOfC qual scope s₀.heap.objs.size f cd :: outer):=fun b o q hb hm => by
  rw [J0] at hm
  rcases List.mem_cons.mp hm with z | z
  ·exact absurd (Heap.lt_size q) (by rw [z]; exact Nat.lt_irrefl _)
  ·exact hb z
 refine wpAny_leaves_madeW (base:=PySem.W.hideAll s.heap (fY (envOfC qual scope s₀.heap.objs.size f cd :: outer))) (h:=s.heap) JZ rfl (fun b o q => PySem.W.of_hideAll _ q) (PySem.W.funFrames_hide zz E4) hx fun GU t fl _ _ up => ?_
 have stays:∀ b o,s.heap.get? b = some o → b ∉ fY (envOfC qual scope s₀.heap.objs.size f cd :: outer) → GU.get? b = some o:=fun b o q hb => fl.1 b o (PySem.W.hideAll_get _ q hb)
 have wJ:∀ b u,H b = some u → b ∉ fY (envOfC qual scope s₀.heap.objs.size f cd :: outer):=fun b u q hb => by rw [wK b hb] at q; cases q
 have slot:∀ b o,s₀.heap.get? b = some o → H₀ b = none → b ∈ fY outer → ∃ sl,GU.get? b = some { o with slots:=sl }:=fun b o q n hb => by
  obtain ⟨sl,e1⟩:=I.base.slot b o q n hb (by intro z; cases z)
  obtain ⟨_,o',mT,Dk⟩:=zz.mem (show b ∈ fY (envOfC qual scope s₀.heap.objs.size f cd :: outer) by rw [J0]; exact List.mem_cons_of_mem _ hb)
  rw [e1] at mT
  cases mT
  obtain ⟨FO,e2⟩:=up b _ (hx.keeps _ _ e1) Dk
  exact ⟨FO,e2⟩
 have nil:∀ b:Addr,b ∉ (fR (iY P w) P w K mg base N qual scope f cd A outer s₀ H₀ E).ex:=fun b z => by cases z
 refine ⟨e,cls,H,rfl,⟨I.os,I.bare,⟨fun b o q n hb _ => stays b o (I.base.keep b o q n hb (nil b)) (E5 b o q hb),fun b o q n hb _ => slot b o q n hb,fun b o q n _ => I.base.free b o q n (nil b),fun b o q _ => ?_,I.base.i8,I.base.ix,I.base.i9⟩,fun b u q => ?_,PySem.W.hideAll s.heap (fY (envOfC qual scope s₀.heap.objs.size f cd :: outer)),t,fl,fun b hb => ?_,fun b o q hb => ?_⟩,hE⟩
 ·by_cases hb:b ∈ fY outer
  ·obtain ⟨sl,e1⟩:=slot b o q (I.ok.xZ b hb) hb
   exact ⟨_,e1⟩
  ·obtain ⟨o',e1⟩:=I.base.there b o q (nil b)
   exact ⟨o',stays b o' e1 (E5 b o q hb)⟩
 ·refine (I.bK b u q).jJ (fun c v hc z => stays c v z ?_) (fun _ z => z) fun _ _ z => z
  rcases hc with z' | z'
  ·rw [z']; exact wJ b u q
  ·exact wJ c _ z'
 ·cases q:H b with
  | none => exact absurd q hb
  | some u =>
   obtain ⟨o,e1⟩:=(I.bK b u q).there
   exact ⟨o,PySem.W.hideAll_get _ e1 (wJ b u q)⟩
 ·obtain ⟨o',e1⟩:=I.base.there b o q (nil b)
  exact ⟨o',PySem.W.hideAll_get _ e1 (E5 b o q hb)⟩
theorem aD:Passes (iY P w) (fR (iY P w) P w K mg base N qual scope f cd A outer s₀ H₀ E) E:=by
 rintro pins σ H s e s' I ⟨ea,cls,H',rfl,Z,hE⟩
 obtain ⟨B,t,fl,ct,cs⟩:=Z.fl
 have JZ:(A.deeper (envOfC qual scope s₀.heap.objs.size f cd)).frames = some (envOfC qual scope s₀.heap.objs.size f cd :: outer):=I.ok.frames
 have J0:fY (envOfC qual scope s₀.heap.objs.size f cd :: outer) = s₀.heap.objs.size :: fY outer:=t4 rfl outer
 have E5:∀ b o,s₀.heap.get? b = some o → b ∉ fY outer → b ∉ fY (envOfC qual scope s₀.heap.objs.size f cd :: outer):=fun b o q hb hm => by
  rw [J0] at hm
  rcases List.mem_cons.mp hm with z | z
  ·exact absurd (Heap.lt_size q) (by rw [z]; exact Nat.lt_irrefl _)
  ·exact hb z
 have sub:∀ b,b ∈ fY outer → b ∈ fY (envOfC qual scope s₀.heap.objs.size f cd :: outer):=fun b hb => by rw [J0]; exact List.mem_cons_of_mem _ hb
 have nil:∀ b:Addr,b ∉ (fR (iY P w) P w K mg base N qual scope f cd A outer s₀ H₀ E).ex:=fun b z => by cases z
 refine wpAny_leaves_onW JZ rfl fl fun GU NO up => ?_
 have Dl:∀ b o,s'.heap.get? b = some o → (∃ o',B.get? b = some o') → GU.get? b = some o:=fun b o q ⟨o',z⟩ => by
  have q':=fl.1 b o' z
  rw [q] at q'
  cases q'
  exact NO.1 b o z
 have slot:∀ b o,s₀.heap.get? b = some o → H₀ b = none → b ∈ fY outer → ∃ sl,GU.get? b = some { o with slots:=sl }:=fun b o q n hb => by
  obtain ⟨sl,e1⟩:=I.base.slot b o q n hb (nil b)
  obtain ⟨Gx,e2⟩:=Z.un.slot b _ e1 (I.base.free b o q n (nil b)) (sub b hb) (by intro z; cases z)
  obtain ⟨_,o',mT,Dk⟩:=fl.2.2.1.mem (sub b hb)
  rw [e2] at mT
  cases mT
  obtain ⟨FO,e3⟩:=up b _ e2 Dk
  exact ⟨FO,e3⟩
 refine ⟨ea,cls,H',rfl,⟨Z.os.trans I.os,Z.bare,⟨fun b o q n hb _ => ?_,fun b o q n hb _ => slot b o q n hb,fun b o q n _ => ?_,fun b o q _ => ?_,fun b xs q => Z.un.i8 b xs (I.base.i8 b xs q),fun b o u q => Z.un.ix b o u (I.base.ix b o u q),fun b ps q => ?_⟩,fun b u q => ?_,B,t,NO,ct,fun b o q hb => ?_⟩,hE⟩
 ·have e1:=I.base.keep b o q n hb (nil b)
  have n1:=I.base.free b o q n (nil b)
  have nf:=E5 b o q hb
  exact Dl b o (Z.un.keep b o e1 n1 nf (by intro z; cases z)) (cs b o e1 nf)
 ·obtain ⟨o',e1⟩:=I.base.there b o q (nil b)
  exact Z.un.free b o' e1 (I.base.free b o q n (nil b)) (by intro z; cases z)
 ·by_cases hb:b ∈ fY outer
  ·obtain ⟨sl,e1⟩:=slot b o q (I.ok.xZ b hb) hb
   exact ⟨_,e1⟩
  ·obtain ⟨o',e1⟩:=I.base.there b o q (nil b)
   obtain ⟨o2,e2⟩:=cs b o' e1 (E5 b o q hb)
   exact ⟨o2,NO.1 b o2 e2⟩
 ·obtain ⟨m1,e1⟩:=I.base.i9 b ps q
  obtain ⟨m2,e2⟩:=Z.un.i9 b _ e1
  exact ⟨m1 ++ m2,by rw [e2,Array.append_assoc]⟩
 ·refine (Z.bK b u q).jJ (fun c v hc z => Dl c v z (ct c ?_)) (fun _ z => z) fun _ _ z => z
  rcases hc with z' | z'
  ·rw [z',q]; simp
  ·rw [z']; simp
 ·obtain ⟨o',e1⟩:=I.base.there b o q (nil b)
  exact cs b o' e1 (E5 b o q hb)
theorem i5.S8 {x:Str} {st:Stmt} {fd:FuncData} {ps:List Str} {k:Nat} {sp:Sp} (F:i5 K x qual st f fd) (S:aR N ps (ao st)) (len:∀ vs H Q E,sp vs H Q E → vs.length = ps.length)
  (zU:∀ (da:Value) (A:Around) (outer:List Env) (s:Shared) (H:Hp) (vs:List V) (Q:VK) (E:XK),dR k (A.deeper (envOfC qual (ao st) s.heap.objs.size f da)) → sp vs H Q E →
   ∃ t,ja (fR (iY P w) P w K mg base N qual (ao st) f da A outer s H E) (aM st) t ∧ t { nx:=fun _ H' => Q .eR H',rt:=Q } (start N vs) H):jK P w K mg base (iY P w) (k + 1) f fd ps sp:=by
 obtain ⟨oc,od,kV,doc,pm,an,da,ct,CW,rfl,lk,mU⟩:=F.ex
 exact EU lk mU S len fun A outer s H vs Q E hr IJ => zU da A outer s H vs Q E hr IJ
end
theorem yr {K:PySem.W.Frag} {h:Heap} {mg:Str → Option Value} {x:Str} {C:Addr} {S9:List Value} {newId:String} (X:K.In h) (hb:mg x = some (.ref C)) (q:PySem.W.excIn K C S9 newId = true):OwnCls x C S9 newId mg h:=by
 refine ⟨hb,?_⟩
 unfold PySem.W.excIn at q
 split at q
 ·rename_i dd cd sl ho
  split at q
  ·rename_i C' bm k0 k1 k2 k3 n k5 hm hs
   simp only [Bool.and_eq_true,beq_iff_eq,Bool.not_eq_true'] at q
   obtain ⟨⟨⟨⟨⟨rfl,rfl⟩,J1⟩,ht⟩,bK⟩,L8⟩:=q
   obtain ⟨nm,bs,mro,ns,qn,hd,sn,sub,ab,col,del⟩:=cd
   dsimp only at hm J1 bK L8
   subst hm J1
   have UL:sl = #[k0,k1,k2,k3,some (.builtin n),k5]:=by
    obtain ⟨l⟩:=sl
    simp only at hs
    rw [hs]
   subst UL
   exact ⟨bm,ns,nm,qn,bs,hd,sn,sub,ab,col,dd,k0,k1,k2,k3,k5,_,X _ _ ho,.of_isNs (PySem.W.isNs_of_in X bK),PySem.W.nsMap_none_of_in X bK L8,PySem.W.tail_of_in X ht⟩
  ·cases q
 ·cases q
noncomputable def GW (E:XK) (C:Addr) (t:TA):TS:=fun _ σ H => t σ H fun vs H1 => vs.length ≤ sizeLine ∧ E (.ref C) none H1
noncomputable def Raises (X:Cx) (E:XK):Prop:=∀ (pins:List (Addr × Obj)) (σ:St) (H:Hp) (s:Shared) (h':Heap) (e:Addr) (cls:Value) (vs:List Value),Inv X pins σ H s → Heap.MadeExcOf s.heap h' e cls vs → E cls none H → X.xe (.ref e) { s with heap:=h' }
theorem Al {X:Cx} {E:XK} {x:Str} {C:Addr} {B newId vM:String} {bm:List Value} {np cC pos:Pos} {e₀:Expr} {rest:List Expr} {t:TA} (hX:Raises X E) (hc:X.calm = true) (hm:X.mg x = some (.ref C)) (hq:PySem.W.excIn X.K C bm newId = true) (FB:ExcBaseFacts B newId vM bm) (hg:Gl X x) (ha:PA X (e₀ :: rest) t)
  (he:starEach (e₀ :: rest) X.env = (false,eval e₀ X.env) :: starEach rest X.env:=by rfl) (hU:(backTo cC (starEach rest X.env)).any (·.1) = false:=by rfl) (hd:(x == ("__debug__":Str)) = false:=by decide) :
  PS X (.Raise (some (.Call (.Name x np) (e₀ :: rest) [] cC)) none pos) (GW E C t):=by
 intro pins s σ H D I h
 obtain ⟨tl,NS,nm,q,bs,hdct,sn,sub,ab,col,dd,k0,k1,k2,k3,k5,mN,hC,hN,L8,T⟩:=(yr I.mod.FK hm hq).obj
 refine wpAny_Raise_call_subT (C:=C) (nm:=nm) (q:=q) (N:=NS) (bs:=bs) (bm:=tl) (hdct:=hdct) (sn:=sn) (sub:=sub) (ab:=ab) (col:=col) (dd:=dd) (k0:=k0) (k1:=k1) (k2:=k2) (k3:=k3) (k5:=k5)
  FB (mN:=mN) (T.hasType FB.hasBase) (I.ok.hd hc) (by rw [he]; show (false || (backTo cC (starEach rest X.env)).any (·.1)) = false; rw [hU]; rfl) L8 (iy I hg hm ⟨rfl,?_⟩ hd)
 have hA:=ha cC pins s σ H _ I h
 rw [he] at hA ⊢
 exact Calls.evalArgs_plain (c_ hA fun us s2 ⟨vs,H2,I2,r2,z,q2⟩ => ⟨rfl,by rw [← r2.length]; exact z,I2.bk _ _ hC,hN.keeps I2.bk,T.keeps I2.bk,fun h' e UM => hX pins σ H2 s2 h' e _ _ I2 UM q2⟩)
end L2
namespace L2
open PySem PySem.Spec PyProof.Rows
structure DefX (X:Cx):Prop where
 fn:∀ y,X.fn y = true
 CD:X.stack = X.env :: X.outer
 fr:X.env.frame = some X.env.locals
structure t7 (X:Cx) (pins:List (Addr × Obj)) (σ:St) (H:Hp) (s:Shared) (ea:Addr) (cls:Value):Prop where
 inv:Inv X pins σ H s
 fl:∃ (B:Heap) (t:Addr),Heap.FlyingW B X.stack ea cls (.ref t) s.heap ∧ (∀ b,H b ≠ none → ∃ o,B.get? b = some o) ∧ (∀ b o,X.s₀.heap.get? b = some o → b ∉ fY X.stack → b ∉ X.ex → ∃ o',B.get? b = some o') ∧ (∀ p ∈ X.pn ++ pins,∃ o',B.get? p.1 = some o') ∧ (∀ x c,X.env.cells.lookup x = some c → ∃ o,B.get? c = some o)
section
variable {X:Cx} {pins:List (Addr × Obj)} {σ:St} {H H':Hp} {s s':Shared} {ea:Addr} {cls:Value}
theorem Inv.Dm (I:Inv X pins σ H s) {b:Addr} (h1:b ≠ X.env.locals) (h2:b ∉ X.fs):b ∉ fY X.stack:=fun z => (List.mem_cons.mp (I.lC b z)).elim h1 h2
theorem Inv.slots {B h':Heap} (I:Inv X pins σ H s) (sB:B.StaysIn s.heap) (c1:∀ b,H b ≠ none → ∃ o,B.get? b = some o) (c2:∀ b o,X.s₀.heap.get? b = some o → b ∉ fY X.stack → b ∉ X.ex → ∃ o',B.get? b = some o') (c3:∀ p ∈ X.pn ++ pins,∃ o',B.get? p.1 = some o')
  (c4:∀ x c,X.env.cells.lookup x = some c → ∃ o,B.get? c = some o) (k1:B.StaysIn h') (k2:s.heap.UpToSlots h'):Inv X pins σ H { s with heap:=h' }:=by
 have Dl:∀ b o,s.heap.get? b = some o → (∃ o',B.get? b = some o') → h'.get? b = some o:=fun b o q ⟨o',z⟩ => by
  have q':=sB b o' z
  rw [q] at q'
  cases q'
  exact k1 b o z
 have zI:∀ b o,X.s₀.heap.get? b = some o → b ≠ X.env.locals:=fun b o e => Nat.ne_of_lt (Nat.lt_of_lt_of_le (Heap.lt_size e) I.ok.above)
 have slot:∀ b o,X.s₀.heap.get? b = some o → X.H₀ b = none → b ∈ X.fs → b ∉ X.ex → ∃ sl,h'.get? b = some { o with slots:=sl }:=fun b o q n hb hx => by
  obtain ⟨sl,e1⟩:=I.base.slot b o q n hb hx
  obtain ⟨_,o',mT,Dk⟩:=I.iX.mem hb
  rw [e1] at mT
  cases mT
  obtain ⟨FO,e2⟩:=k2 b _ e1 Dk
  exact ⟨FO,e2⟩
 refine ⟨I.ok,I.os,I.bare,⟨fun b o q n hb hx => ?_,slot,I.base.free,fun b o q hx => ?_,I.base.i8,I.base.ix,I.base.i9⟩,?_,fun x c e => ?_,I.free,I.gn,fun p hp => ?_,fun b u q => ?_,I.len⟩
 ·exact Dl b o (I.base.keep b o q n hb hx) (c2 b o q (I.Dm (zI b o q) hb) hx)
 ·by_cases hb:b ∈ X.fs
  ·obtain ⟨sl,e1⟩:=slot b o q (I.ok.xZ b hb) hb hx
   exact ⟨_,e1⟩
  ·obtain ⟨o',e1⟩:=I.base.there b o q hx
   exact ⟨o',Dl b o' e1 (c2 b o q (I.Dm (zI b o q) hb) hx)⟩
 ·obtain ⟨m,hn,hl⟩:=I.loc
  refine ⟨m,k2.ns hn,fun i x v e1 e2 e3 => ?_⟩
  obtain ⟨u,r,l⟩:=hl i x v e1 e2 e3
  refine ⟨u,r,?_⟩
  rcases l with l | ⟨k,c,e,o,ho,hd⟩
  ·exact .inl l
  ·exact .inr ⟨k,c,e,o,Dl c o ho (c4 x c e),hd⟩
 ·obtain ⟨v,o,ho,hd⟩:=I.cell x c e
  exact ⟨v,o,Dl c o ho (c4 x c e),hd⟩
 ·obtain ⟨e,n,ne,nf,d⟩:=I.pin p hp
  exact ⟨Dl p.1 p.2 e (c3 p hp),n,ne,nf,d⟩
 ·refine (I.bK b u q).jJ (fun c v hc z => Dl c v z (c1 c ?_)) (fun _ z => z) fun _ _ z => z
  rcases hc with z' | z'
  ·rw [z',q]; simp
  ·rw [z']; simp
theorem t7.slots (J:t7 X pins σ H s ea cls):∃ (B:Heap) (t:Addr),Heap.FlyingW B X.stack ea cls (.ref t) s.heap ∧ H ea = none ∧ ∀ h',Heap.FlyingW B X.stack ea cls (.ref t) h' → s.heap.UpToSlots h' → t7 X pins σ H { s with heap:=h' } ea cls:=by
 obtain ⟨B,t,fl,c1,c2,c3,c4⟩:=J.fl
 refine ⟨B,t,fl,?_,fun h' f2 up => ⟨J.inv.slots fl.1 c1 c2 c3 c4 f2.1 up,B,t,f2,c1,c2,c3,c4⟩⟩
 cases q:H ea with
 | none => rfl
 | some u =>
  obtain ⟨o,e⟩:=c1 ea (by rw [q]; simp)
  rw [fl.2.1] at e
  cases e
theorem Inv.flew (I:Inv X pins σ H s) (vB:∀ y,X.fn y = true) (Z:S7 X.prog X.w X.stack H H' s s' ea cls):t7 X pins σ H' s' ea cls:=by
 obtain ⟨B,t,fl,ct,cs⟩:=Z.fl
 have cl:∀ x c,X.env.cells.lookup x = some c → c ∉ fY X.stack:=fun x c e => I.Dm (I.zH x c e) fun hb => by
  obtain ⟨_,o,ho,_⟩:=I.ok.iX.mem hb
  exact absurd (Nat.lt_of_lt_of_le (Heap.lt_size ho) (I.ok.zE x c (vB x) e)) (Nat.lt_irrefl _)
 refine ⟨I.wL Z.os Z.un Z.bK Z.bare fun b z => absurd z (by simp),B,t,fl,ct,fun b o q hb hx => ?_,fun p hp => ?_,fun x c e => ?_⟩
 ·obtain ⟨o',e1⟩:=I.base.there b o q hx
  exact cs b o' e1 hb
 ·obtain ⟨e,n,ne,nf,d⟩:=I.pin p hp
  exact cs p.1 p.2 e (I.Dm ne nf)
 ·obtain ⟨v,o,ho,_⟩:=I.cell x c e
  exact cs c o ho (cl x c e)
end
noncomputable abbrev EK:=Value → Addr → St → Hp → Prop
noncomputable abbrev EH:=Value → Addr → Hp → Prop
noncomputable abbrev J2:=St → Hp → VK → EH → Prop
noncomputable abbrev E6:=Ends → EK → St → Hp → Prop
noncomputable def XP (X:Cx) (pins:List (Addr × Obj)) (EX:EK) (e:Value) (s':Shared):Prop:=∃ ea cls σ' H',e = .ref ea ∧ t7 X pins σ' H' s' ea cls ∧ EX cls ea σ' H'
noncomputable abbrev atS (σ:St) (EX:EH):EK:=fun cls ea σ' H' => σ' = σ ∧ EX cls ea H'
noncomputable def Dp (X:Cx) (e:Expr) (t:J2):Prop :=
 ∀ (pins:List (Addr × Obj)) (s:Shared) (σ:St) (H:Hp) (Q:VK) (EX:EH),Inv X pins σ H s → t σ H Q EX → wpAny (model X.prog X.w) X.A (eval e X.env) (EP X pins σ Q) (XP X pins (atS σ EX)) s
noncomputable def w9 (X:Cx) (st:Stmt) (t:E6):Prop :=
 ∀ (pins:List (Addr × Obj)) (s:Shared) (σ:St) (H:Hp) (D:Ends) (EX:EK),Inv X pins σ H s → t D EX σ H → wpAny (model X.prog X.w) X.A (exec st X.env) (SP X pins D) (XP X pins EX) s
noncomputable def qa (X:Cx) (st:List Stmt) (t:E6):Prop :=
 ∀ (pins:List (Addr × Obj)) (s:Shared) (σ:St) (H:Hp) (D:Ends) (EX:EK),Inv X pins σ H s → t D EX σ H → wpAny (model X.prog X.w) X.A (execs st X.env) (SP X pins D) (XP X pins EX) s
section
variable {X:Cx}
theorem XP.at {pins:List (Addr × Obj)} {σ:St} {EX:EK} {e:Value} {s':Shared} (h:XP X pins (atS σ fun cls ea H' => EX cls ea σ H') e s'):XP X pins EX e s':=by
 obtain ⟨ea,cls,σ',H',rfl,J,rfl,q⟩:=h
 exact ⟨ea,cls,_,H',rfl,J,q⟩
noncomputable def GX (sp:Sp) (t:TA):J2:=fun σ H Q EX => t σ H fun vs H1 => sp vs H1 Q fun cls _ H' => ∀ ea,EX cls ea H'
theorem Am {k:Nat} {f:Addr} {fd:FuncData} {ps:List Str} {sp:Sp} {x:Str} {p pos:Pos} {e:Expr} {es:List Expr} {t:TA} (F:jK X.prog X.w X.K X.mg X.base (iY X.prog X.w) k f fd ps sp) (hr:dR k X.A) (hg:Gl X x) (hm:X.mg x = some (.ref f)) (hk:PySem.W.keepIn X.K (.ref f) = true) (hb:Binds X.K fd ps []) (vB:∀ y,X.fn y = true)
  (ha:∀ W,PA (X.km W) (e :: es) t) (jV:(x == ("__debug__":Str)) = false:=by decide) (he:starEach (e :: es) X.env = (false,eval e X.env) :: starEach es X.env:=by rfl) (hU:(backTo pos (starEach es X.env)).any (·.1) = false:=by rfl) :
  Dp X (.Call (.Name x p) (e :: es) [] pos) (GX sp t):=by
 intro pins s σ H Q EX I h
 refine wpAny_Call_Name_kw (iy I hg hm ?_ jV)
 refine PySem.W.callWith_K (h₀:=X.base) I.ok.mod.FK hk (c_ (ha (XP X pins (atS σ EX)) pos pins s σ H _ (I.km _) h) fun us s1 ⟨vs,H1,I1,r,q⟩ => ⟨I1.lF.mS,?_⟩) he hU
 have I2:=I1.lF
 have hl:(us ++ []).length = ps.length:=by rw [List.append_nil,← r.length]; exact F.len _ _ _ _ q
 have S_:=hb s1 us I2.mS hl
 rw [List.append_nil] at S_
 refine wpAny_call (codeAny_mono (F.run X.A X.stack s1 H1 ⟨us,[]⟩ us vs Q _ hr I2.CT S_ r q) fun r s' hq => ?_)
 cases r with
 | error e =>
  obtain ⟨ea,cls,H',rfl,Z,hE⟩:=hq
  exact ⟨ea,cls,σ,H',rfl,I2.flew vB Z,rfl,hE ea⟩
 | ok fl =>
  cases fl with
  | ret u => exact I2.after hq
  | next => exact False.elim hq
  | brk => exact False.elim hq
  | cont => exact False.elim hq
theorem An {e:Expr} {te:J2} {pos:Pos} (he:Dp X e te) (hs:swapsWith e none pos.line X.env = pure false:=by rfl):w9 X (.Expr e pos) (fun D EX σ H => te σ H (fun _ H1 => D.nx σ H1) fun cls ea H' => EX cls ea σ H'):=by
 intro pins s σ H D EX I h
 exact wpAny_Expr_any (wpAny_mono (he pins s σ H _ _ I h) (fun v s1 ⟨x,H1,I1,r1,q1⟩ => ⟨σ,H1,I1,q1⟩) fun _ _ q => q.at) I.quiet hs
theorem Ao {st:Stmt} {t:E6} (h1:w9 X st t):qa X [st] t:=by
 intro pins s σ H D EX I h
 refine wpAny_execs_cons (c_ (h1 pins s σ H D EX I h) fun f s1 q => ?_)
 cases f with
 | next => exact wpAny_execs_nil q
 | ret v => exact q
 | brk => exact q
 | cont => exact q
theorem GY {c:Expr} {a b:List Stmt} {tc:TT} {t u:E6} {pos:Pos} (hc:∀ W,PT (X.km W) c tc) (ha:qa X a t) (hb:qa X b u):w9 X (.If c a b pos) (fun D EX σ H => tc σ H fun k H1 => if k = true then t D EX σ H1 else u D EX σ H1):=by
 intro pins s σ H D EX I h
 refine wpAny_If (c_ (hc (XP X pins EX) pins s σ H _ (I.km _) h) fun d s1 ⟨H1,I1,q1⟩ => ?_)
 cases d with
 | true => exact ha pins s1 σ H1 D EX I1.lF q1
 | false => exact hb pins s1 σ H1 D EX I1.lF q1
noncomputable abbrev zA:=Ends → EK → Value → Addr → St → Hp → Prop
noncomputable def PH (X:Cx) (hs:List ExceptHandler) (th:zA):Prop :=
 ∀ (pins:List (Addr × Obj)) (s:Shared) (σ:St) (H:Hp) (D:Ends) (EX:EK) (ea:Addr) (cls:Value),t7 X pins σ H s ea cls → th D EX cls ea σ H → wpAny (model X.prog X.w) X.A (handleBy (.ref ea) X.env hs) (SP X pins D) (XP X pins EX) s
noncomputable def GZ:zA:=fun _ _ _ _ _ _ => False
theorem G0:PH X [] GZ:=fun _ _ _ _ _ _ _ _ _ h => h.elim
theorem w_ {body:List Stmt} {h₀:ExceptHandler} {hs:List ExceptHandler} {tb:E6} {th:zA} {pos:Pos} (dx:DefX X) (hb:qa X body tb) (hh:PH X (h₀ :: hs) th):w9 X (.Try body (h₀ :: hs) [] [] pos) (fun D EX σ H => tb D (fun cls ea σ' H' => th D EX cls ea σ' H') σ H):=by
 intro pins s σ H D EX I h
 refine wpAny_Try_except (wpAny_mono (hb pins s σ H D _ I h) (fun f s1 q => ?_) fun e s1 q => ?_)
 ·cases f with
  | next => exact wpAny_execs_nil q
  | ret v => exact q
  | brk => exact q
  | cont => exact q
 ·obtain ⟨ea,cls,σ',H',rfl,J,hE⟩:=q
  obtain ⟨B,t,fl,hn,go⟩:=J.slots
  have JZ:X.A.frames = some (X.env :: X.outer):=by rw [← dx.CD]; exact J.inv.ok.frames
  refine wpAny_looks_onW JZ dx.fr (by rw [← dx.CD]; exact fl) fun h4 held UN => ?_
  refine wpAny_landsW held fun h5 UO UP => ?_
  exact hh pins _ σ' H' D EX ea cls (go h5 (by rw [dx.CD]; exact UO) (UN.trans UP)) hE
theorem G1 {body:List Stmt} {h₀:ExceptHandler} {hs:List ExceptHandler} {tb:E6} {th:zA} {pos:Pos} (dx:DefX X) (hb:qa X body tb) (hh:PH X (h₀ :: hs) th) :
  PS X (.Try body (h₀ :: hs) [] [] pos) (fun D σ H => tb D (fun cls ea σ' H' => th D (fun _ _ _ _ => False) cls ea σ' H') σ H):=by
 intro pins s σ H D I h
 exact wpAny_mono (w_ dx hb hh pins s σ H D (fun _ _ _ _ => False) I h) (fun _ _ q => q) fun _ _ ⟨_,_,_,_,_,_,z⟩ => z.elim
noncomputable def nq (X:Cx) (ea:Addr) (oe:Obj):Cx:={ X with A:=X.A.mark (some (.ref ea)),calm:=false,pn:=(ea,oe) :: X.pn,xe:=fun _ _ => False }
theorem t7.nq {pins:List (Addr × Obj)} {σ:St} {H:Hp} {s:Shared} {ea:Addr} {cls:Value} (J:t7 X pins σ H s ea cls):∃ oe,s.heap.get? ea = some oe ∧ oe.cls = cls ∧ Inv (L2.nq X ea oe) pins σ H s:=by
 obtain ⟨B,t,fl,hn,_⟩:=J.slots
 obtain ⟨oe,vs,he,hc,hd,_⟩:=fl.first
 have I:=J.inv
 have E5:∀ b ∈ fY X.stack,ea ≠ b:=fun b hb z => by
  obtain ⟨_,o,ho,Dk⟩:=I.stack.mem hb
  rw [← z,he] at ho
  cases ho
  exact Dk vs hd
 have zI:ea ≠ X.env.locals:=fun z => by
  obtain ⟨m,⟨o,es,ep,ho,Ta,_⟩,_⟩:=I.loc
  rw [← z,he] at ho
  cases ho
  rw [hd] at Ta
  cases Ta
 have NA:ea ∉ X.fs:=fun hb => by
  obtain ⟨_,o,ho,Dk⟩:=I.iX.mem hb
  rw [he] at ho
  cases ho
  exact Dk vs hd
 refine ⟨oe,he,hc,⟨⟨I.ok.mod,I.ok.kind,I.ok.glob,I.ok.blt,I.ok.above,I.ok.inj,I.ok.has,I.ok.zE,fun z => (by cases z),I.ok.frames,I.ok.CD,I.ok.MG,I.ok.bs,I.ok.zF,I.ok.vA,I.ok.zG,I.ok.iX,I.ok.xZ⟩,I.os,I.bare,I.base,I.loc,I.cell,I.free,I.gn,fun p hp => ?_,I.bK,I.len⟩⟩
 rcases List.mem_cons.mp (show p ∈ (ea,oe) :: (X.pn ++ pins) from hp) with z | z
 ·rw [z]
  exact ⟨he,hn,zI,NA,fun v q => by rw [hd] at q; cases q⟩
 ·exact I.pin p z
theorem Inv.vN {pins:List (Addr × Obj)} {σ:St} {H:Hp} {s:Shared} {ea:Addr} {oe:Obj} (ok:X.Ok) (I:Inv (L2.nq X ea oe) pins σ H s):Inv X pins σ H s :=
 ⟨ok,I.os,I.bare,I.base,I.loc,I.cell,I.free,I.gn,fun p hp => I.pin p (List.mem_cons_of_mem _ hp),I.bK,I.len⟩
theorem SP.vN {pins:List (Addr × Obj)} {ea:Addr} {oe:Obj} {D:Ends} {f:Flow} {s':Shared} (ok:X.Ok) (h:SP (L2.nq X ea oe) pins D f s'):SP X pins D f s':=by
 cases f with
 | next => obtain ⟨σ',H',I,q⟩:=h; exact ⟨σ',H',I.vN ok,q⟩
 | brk => obtain ⟨σ',H',I,q⟩:=h; exact ⟨σ',H',I.vN ok,q⟩
 | cont => obtain ⟨σ',H',I,q⟩:=h; exact ⟨σ',H',I.vN ok,q⟩
 | ret u => obtain ⟨v,σ',H',I,r,q⟩:=h; exact ⟨v,σ',H',I.vN ok,r,q⟩
end
theorem qC {M:Model} {A:Around} {E:Value → Shared → Prop} {s:Shared} {K:PySem.W.Frag} {ea C:Addr} {oe:Obj} {b:Bool} {Q:Bool → Shared → Prop} (KX:K.In s.heap) (he:s.heap.get? ea = some oe) (h1:PySem.W.kitCls K oe.cls (.ref C) = some b) (h2:PySem.W.subIn K (.ref C) (.type "BaseException") = some true) (q:Q b s) :
  wpAny M A (excMatches (.ref ea) (.ref C)) Q E s:=by
 obtain ⟨l1,l2,l3⟩:=PySem.W.kit_cls (M:=M) KX h1
 have l4:=PySem.W.looks_subIn (M:=M) KX h2
 obtain ⟨hp,g,d,tk,os⟩:=s
 have lt:PySem.W.Looks M hp (isInstance (.ref C) (.type "tuple")) false:=l1.andThen (.of_pure tc_notTuple)
 have lx:PySem.W.Looks M hp (isExcClass (.ref C)) true:=fun A' Q' E' s' k z => by
  unfold isExcClass
  refine wpAny_bind (l2 A' _ E' s' k ?_)
  rw [if_pos rfl]
  exact l4 A' Q' E' s' k z
 have ly:PySem.W.Looks M hp (typeOf (.ref ea)) oe.cls:=fun A' Q' E' s' k z => by
  unfold typeOf
  exact wpAny_bind (wpAny_loadPart (k _ _ he) (wpAny_pure z))
 unfold excMatches
 refine wpAny_bind (lt.here ?_)
 simp only [Bool.false_eq_true,if_false,pure_bind,List.forIn_cons,List.forIn_nil,bind_assoc]
 refine wpAny_bind (lx.here ?_)
 simp only [Bool.not_true,Bool.false_eq_true,if_false,pure_bind]
 refine wpAny_bind (ly.here ?_)
 refine wpAny_bind (l3.here ?_)
 cases b with
 | true => exact wpAny_pure q
 | false => exact wpAny_pure q
theorem mZ {prog:Program} {w:World} {A:Around} {E:Value → Shared → Prop} {s:Shared} {K:PySem.W.Frag} {ea:Addr} {oe:Obj} {c:Value} {Q:Value → Shared → Prop} (KX:K.In s.heap) (he:s.heap.get? ea = some oe) (e:PySem.W.kitOne K oe.cls c = some true) (h:Q (.bool true) s) :
  wpAny (model prog w) A (call (.builtin "isinstance") [.ref ea,c]) Q E s:=by
 have ly:PySem.W.Looks (model prog w) s.heap (typeOf (.ref ea)) oe.cls:=fun A' Q' E' s' k z => by
  unfold typeOf
  exact wpAny_bind (wpAny_loadPart (k _ _ he) (wpAny_pure z))
 refine PyProof.Rows.call_isinstance_of ?_ (by intro z; cases z)
 unfold PySem.W.kitOne at e
 unfold Builtin.«isinstance.nested»
 refine wpAny_bind (ly.here ?_)
 by_cases q:(oe.cls == c) = true
 ·rw [if_pos q]
  first
   | exact wpAny_bind (wpAny_rule h)
   | exact wpAny_bind (wpAny_rule (wpAny_pure h))
   | exact wpAny_pure h
 ·rw [if_neg q] at e
  rw [if_neg q]
  obtain ⟨GC,UQ,JX⟩:=PySem.W.kit_cls (M:=model prog w) KX e
  have LI:PySem.W.Looks (model prog w) s.heap (isInstance (.ref ea) c) true:=ly.andThen JX
  refine wpAny_bind (GC.here ?_)
  rw [if_pos (by decide)]
  k_delta "plainIsInstance"
  refine wpAny_bind (wpAny_bind (UQ.here ?_))
  simp only [Bool.not_true,Bool.false_eq_true,if_false]
  refine wpAny_bind (LI.here ?_)
  first
   | exact wpAny_pure (wpAny_pure h)
   | (simp only [if_true]; first | exact wpAny_pure (wpAny_pure h) | exact wpAny_pure h | exact wpAny_bind (wpAny_pure (wpAny_pure h)))
section
variable {X:Cx}
theorem r9:cJ X (.builtin "isinstance") (fun xs H Q => ∃ ea oe c,(xs = [.ref ea,.ref c] ∧ PySem.W.kitOne X.K oe.cls (.ref c) = some true ∨ ∃ n,xs = [.ref ea,.ty n] ∧ PySem.W.kitOne X.K oe.cls (.type n) = some true) ∧ (ea,oe) ∈ X.pn ∧ Q (.bl true) H):=by
 intro pins s σ H xs us Q I r h
 obtain ⟨ea,oe,c,hx,hp,q⟩:=h
 have he:=(I.pin (ea,oe) (List.mem_append_left _ hp)).1
 rcases hx with ⟨rfl,e⟩ | ⟨n,rfl,e⟩
 ·obtain ⟨u,u2,rfl,ru,JY⟩:=vals2 r
  cases ru
  cases JY
  exact mZ I.mS he e ⟨.bl true,H,I,rfl,q⟩
 ·obtain ⟨u,u2,rfl,ru,JY⟩:=vals2 r
  cases ru
  cases JY
  exact mZ I.mS he e ⟨.bl true,H,I,rfl,q⟩
noncomputable def G4 (K:PySem.W.Frag) (C:Addr) (ts:Addr → Obj → TS) (tr:zA):zA:=fun D EX cls ea σ H => ∃ b,PySem.W.kitCls K cls (.ref C) = some b ∧ if b = true then ∀ oe,oe.cls = cls → ts ea oe D σ H else tr D EX cls ea σ H
theorem Dq {x:Str} {C:Addr} {np pos:Pos} {b₀:Stmt} {eU:List Stmt} {rest:List ExceptHandler} {ts:Addr → Obj → TS} {tr:zA} (hg:Gl X x) (hm:X.mg x = some (.ref C)) (hB:PySem.W.subIn X.K (.ref C) (.type "BaseException") = some true) (hs:∀ ea oe,ja (L2.nq X ea oe) (b₀ :: eU) (ts ea oe)) (hr:PH X rest tr)
  (hd:(x == ("__debug__":Str)) = false:=by decide):PH X (.ExceptHandler (some (.Name x np)) none (b₀ :: eU) pos :: rest) (G4 X.K C ts tr):=by
 intro pins s σ H D EX ea cls J h
 obtain ⟨b,hb,h⟩:=h
 obtain ⟨oe,he,hc,I⟩:=J.nq
 refine wpAny_handleBy_cons (codeAny_handlers_test (iy I (show Gl (L2.nq X ea oe) x from hg) (show (L2.nq X ea oe).mg x = some (.ref C) from hm) ?_ hd)) (by intro z; cases z)
 refine qC I.mS he (by rw [hc]; exact hb) hB ?_
 cases b with
 | false => exact hr pins s σ H D EX ea cls J (by simpa using h)
 | true =>
  obtain ⟨B,t,fl,hn,go⟩:=J.slots
  refine codeAny_handlers_suite (lands_againW fl fun h6 NP NQ => ?_)
  have J6:=go h6 NP NQ
  obtain ⟨G5,UR,NR,I6⟩:=J6.nq
  have h':∀ oe,oe.cls = cls → ts ea oe D σ H:=by simpa using h
  exact wpAny_mono (hs ea G5 pins _ σ H D I6 (h' G5 NR)) (fun f s2 q => q.vN J.inv.ok) fun _ _ z => z.elim
theorem Inv.Ds {pins:List (Addr × Obj)} {σ:St} {H:Hp} {s:Shared} {i:Nat} {n:Str} {u:Option Value} {h':Heap} {m:Str → Option Value} (I:Inv X pins σ H s) (hN:X.N.Nodup) (hi:X.N[i]? = some n) (hx:X.env.kindOf n = some .local) (hn:s.heap.Ns X.env.locals m)
  (hl:∀ (j:Nat) (x:Str) (v:V),X.N[j]? = some x → σ[j]? = some (some v) → FL X.env.scope x → ∃ u,RelV v u ∧ Look X.env s.heap m x u)
  (CF:h'.Ns X.env.locals (fun x => if x = n then u else m x)) (sb:Heap.SameBut X.env.locals s.heap h'):Inv X pins (σ.set i none) H { s with heap:=h' }:=by
 have iσ:i < σ.length:=by rw [I.len]; exact (List.getElem?_eq_some_iff.mp hi).1
 have G6:∀ b o,b ≠ X.env.locals → s.heap.get? b = some o → h'.get? b = some o:=fun b o hb e => (sb.2 b hb).trans e
 have zI:∀ b o,X.s₀.heap.get? b = some o → b ≠ X.env.locals:=fun b o e => Nat.ne_of_lt (Nat.lt_of_lt_of_le (Heap.lt_size e) I.ok.above)
 refine ⟨I.ok,I.os,I.bare,⟨fun b o q nn hb hx => G6 b o (zI b o q) (I.base.keep b o q nn hb hx),fun b o q nn hb hx => ?_,I.base.free,fun b o q hx => ?_,I.base.i8,I.base.ix,I.base.i9⟩,⟨_,CF,fun j x v e1 e2 e3 => ?_⟩,fun x c e => ?_,I.free,I.gn,fun p hp => ?_,fun b w q => ?_,by rw [List.length_set]; exact I.len⟩
 ·obtain ⟨sl,e1⟩:=I.base.slot b o q nn hb hx
  exact ⟨sl,G6 b _ (zI b o q) e1⟩
 ·obtain ⟨o',e1⟩:=I.base.there b o q hx
  exact ⟨o',G6 b o' (zI b o q) e1⟩
 ·by_cases hj:j = i
  ·subst hj
   rw [List.getElem?_set_self iσ] at e2
   cases e2
  ·rw [List.getElem?_set_ne (Ne.symm hj)] at e2
   obtain ⟨u',r,l⟩:=hl j x v e1 e2 e3
   have nx:x ≠ n:=fun z => hj (om hN e1 (z ▸ hi))
   refine ⟨u',r,?_⟩
   rcases l with ⟨k,e⟩ | ⟨k,c,e,o,ho,hd⟩
   ·exact .inl ⟨k,by simp [nx,e]⟩
   ·exact .inr ⟨k,c,e,o,G6 c o (I.zH x c e) ho,hd⟩
 ·obtain ⟨v,o,ho,hd⟩:=I.cell x c e
  exact ⟨v,o,G6 c o (I.zH x c e) ho,hd⟩
 ·obtain ⟨e,z,ne,nf,d⟩:=I.pin p hp
  exact ⟨G6 p.1 p.2 ne e,z,ne,nf,d⟩
 ·refine (I.bK b w q).jJ (fun c v hc z => G6 c v ?_ z) (fun _ z => z) fun _ _ z => z
  intro z'
  rcases hc with r | r
  ·rw [← r,z',I.free] at q
   cases q
  ·rw [z',I.free] at r
   cases r
noncomputable def NT (K:PySem.W.Frag) (C:Addr) (i:Nat) (ts:Addr → Obj → TS) (tr:zA):zA:=fun D EX cls ea σ H => ∃ b,PySem.W.kitCls K cls (.ref C) = some b ∧ if b = true then ∀ oe,oe.cls = cls → ts ea oe { nx:=fun σ' H' => D.nx (σ'.set i none) H',rt:=D.rt,bk:=fun σ' H' => D.bk (σ'.set i none) H',ct:=fun σ' H' => D.ct (σ'.set i none) H' } (σ.set i (some (.ref ea))) H else tr D EX cls ea σ H
theorem J3 {x n:Str} {i:Nat} {C:Addr} {np pos:Pos} {b₀:Stmt} {eU:List Stmt} {rest:List ExceptHandler} {ts:Addr → Obj → TS} {tr:zA} (hN:X.N.Nodup) (hi:X.N[i]? = some n) (hl:X.env.scope.names.lookup n = some .local) (hg:Gl X x) (hm:X.mg x = some (.ref C)) (hB:PySem.W.subIn X.K (.ref C) (.type "BaseException") = some true) (hs:∀ ea oe,ja (L2.nq X ea oe) (b₀ :: eU) (ts ea oe)) (hr:PH X rest tr)
  (hd:(x == ("__debug__":Str)) = false:=by decide):PH X (.ExceptHandler (some (.Name x np)) (some n) (b₀ :: eU) pos :: rest) (NT X.K C i ts tr):=by
 intro pins s σ H D EX ea cls J h
 obtain ⟨b,hb,h⟩:=h
 obtain ⟨oe,he,hc,I⟩:=J.nq
 refine wpAny_handleBy_cons (codeAny_handlers_test (iy I (show Gl (L2.nq X ea oe) x from hg) (show (L2.nq X ea oe).mg x = some (.ref C) from hm) ?_ hd)) (by intro z; cases z)
 refine qC I.mS he (by rw [hc]; exact hb) hB ?_
 cases b with
 | false => exact hr pins s σ H D EX ea cls J (by simpa using h)
 | true =>
  obtain ⟨B,t,fl,hn,go⟩:=J.slots
  have h':∀ oe,oe.cls = cls → ts ea oe { nx:=fun σ' H' => D.nx (σ'.set i none) H',rt:=D.rt,bk:=fun σ' H' => D.bk (σ'.set i none) H',ct:=fun σ' H' => D.ct (σ'.set i none) H' } (σ.set i (some (.ref ea))) H:=by simpa using h
  refine codeAny_handlers_suite_as (lands_againW fl fun h6 NP NQ => ?_)
  have J6:=go h6 NP NQ
  obtain ⟨G5,UR,NR,I6⟩:=J6.nq
  refine i_ (X:=L2.nq X ea G5) (v:=.ref ea) I6 hN hi (Or.inl hl) rfl (fun s7 I7 => ?_) (Or.inr hl)
  refine wpAny_mono (hs ea G5 pins s7 _ H _ I7 (h' G5 NR)) (fun f s8 q => ?_) fun _ _ z => z.elim
  -- IE name is let go
  have letGo:∀ {σ8:St} {H8:Hp} {R:Shared → Prop},Inv (L2.nq X ea G5) pins σ8 H8 s8 → (∀ s9,Inv X pins (σ8.set i none) H8 s9 → R s9) →
    wpAny (model X.prog X.w) X.A (do bindName X.env n .none; unbindBehindTheSuite X.env n pos) (fun _ s9 => R s9) (XP X pins EX) s8:=fun {σ8 H8 R} I8 k => by
   have I9:=I8.vN J.inv.ok
   refine wpAny_bind (wpAny_bindName (lD I9 hN hi (Or.inl hl) (v:=.eR) rfl (fun s9 NU ⟨a,sb,ha⟩ => ?_) (Or.inr hl)))
   obtain ⟨m,ns,Tb⟩:=NU.loc
   have iσ:i < σ8.length:=by rw [I9.len]; exact (List.getElem?_eq_some_iff.mp hi).1
   obtain ⟨u,ru,lk⟩:=Tb i n .eR hi (List.getElem?_set_self iσ) (Or.inl hl)
   have US:m n = some u:=by
    rcases lk with ⟨_,e⟩ | ⟨k',_⟩
    ·exact e
    ·exfalso
     rcases k' with z | z
     ·have z':X.env.scope.names.lookup n = some .cell:=z
      rw [hl] at z'; cases z'
     ·have z':X.env.scope.names.lookup n = some .free:=z
      rw [hl] at z'; cases z'
   unfold unbindBehindTheSuite
   refine wpAny_onRaise (wpAny_unbindName_local hl ns US (by rw [NU.ok.kind]; rfl) fun XA u' UT NG => ?_)
   have Tc:=NU.Ds hN hi hl ns Tb UT NG
   rw [List.set_set] at Tc
   exact k _ Tc
  cases f with
  | next =>
   obtain ⟨σ8,H8,I8,q8⟩:=q
   exact letGo I8 fun s9 I9 => ⟨_,H8,I9,q8⟩
  | brk =>
   obtain ⟨σ8,H8,I8,q8⟩:=q
   exact letGo I8 fun s9 I9 => ⟨_,H8,I9,q8⟩
  | cont =>
   obtain ⟨σ8,H8,I8,q8⟩:=q
   exact letGo I8 fun s9 I9 => ⟨_,H8,I9,q8⟩
  | ret v =>
   obtain ⟨x8,σ8,H8,I8,r8,q8⟩:=q
   exact letGo I8 fun s9 I9 => ⟨x8,_,H8,I9,r8,q8⟩
end
end L2
namespace L2
open PySem PySem.Spec PyProof.Rows
noncomputable def L9 (lo:Int) (n:Nat):It:=⟨fun i _ => i < n,fun i H x H' => H' = H ∧ x = .int (lo - i),fun i _ => n ≤ i⟩
theorem yt {P:Program} {w:World} {K:PySem.W.Frag} {tg:Expr} (it:Addr) (lo:Int) (n:Nat):Turn P w K tg (L9 lo n) [it] it (fun i h => IsRangeIter h it (lo + (i:Nat) * (-1)) ((n:Int) - (i:Nat)) (-1)) where
 mem:=by simp
 obj:=fun i h st b hb => by
  have e:b = it:=by simpa using hb
  subst e
  exact ⟨_,st,fun v z => by
   have z':Data.fields _ = Data.cell v:=z
   cases z'⟩
 keep:=fun i h h' st k => k it (by simp) _ st
 item:=by
  intro X hP hw hK hc i pins s σ H E I hf st hg
  subst hP hw hK
  obtain ⟨f0,f1,f2,f3,f4,f5⟩:=hf it (by simp)
  have W:=Walks.range (prog:=X.prog) (w:=X.w) (I.ok.hd hc) it lo (-1) n
  refine W.item i s _ _ hg st fun v h' tk hv av kk => ?_
  obtain ⟨t,rfl⟩:=hv
  have I1:Inv X pins σ H { s with heap:=h',toks:=tk }:=I.turned (fun b o hb e => kk b o (by simpa using hb) e) f0 f1 f3 f4 f5
  refine ⟨_,rfl,wQ (s:={ s with heap:=h',toks:=tk }) (n:="range_iterator") av rfl rfl (by decide) ⟨.int (lo - i),H,I1,⟨t,?_⟩,⟨rfl,rfl⟩,av,fun b hb => (hf b hb).1⟩⟩
  rw [show lo + (i:Int) * (-1) = lo - (i:Int) by lia]
 done:=by
  intro X hP hw hK hc i pins s σ H E I hf st hg
  subst hP hw hK
  obtain ⟨f0,f1,f2,f3,f4,f5⟩:=hf it (by simp)
  exact wpAny_pyNext_range_end (I.ok.hd hc) st (by have:n ≤ i:=hg; lia) fun h' eb => ⟨rfl,I.turned (t':=s.toks) (fun b o hb e => eb b o hb e) f0 f1 f3 f4 f5⟩
 self:=fun _ _ _ _ _ st h => wpAny_pyIter_rangeiter st h
section
variable {X:Cx} {tg:Expr}
theorem Dt {pins:List (Addr × Obj)} {σ:St} {H:Hp} {s:Shared} {R:It → Hp → Prop} {E:Value → Shared → Prop} {lo hi:Int} {t u v:Tok} {tk:Nat} (I:Inv X pins σ H s) (h1:-(2 ^ 62) ≤ lo) (h2:lo < 2 ^ 62) (h3:-(2 ^ 62) ≤ hi) (h4:hi < 2 ^ 62)
  (q:R (L9 lo (lo - hi).toNat) H):wpAny (model X.prog X.w) X.A (pyIter (.ref s.heap.objs.size)) (M7 X pins σ tg R) E { s with heap:=s.heap.push { cls:=.type "range",data:=.fields #[.int lo t,.int hi u,.int (-1) v] },toks:=tk }:=by
 refine wpAny_pyIter_range (IsRange.new ..) (PySem.W.small_down h1 h2 h3 h4) ?_
 have I1:Inv X pins σ H { s with heap:=s.heap.push { cls:=.type "range",data:=.fields #[.int lo t,.int hi u,.int (-1) v] },toks:=tk }:=I.kept fun b o e => Heap.get?_push_of_some _ e
 refine ⟨(s.heap.push { cls:=.type "range",data:=.fields #[.int lo t,.int hi u,.int (-1) v] }).objs.size,[(s.heap.push { cls:=.type "range",data:=.fields #[.int lo t,.int hi u,.int (-1) v] }).objs.size],_,_,H,rfl,
  I1.kept (t':=tk) fun b o e => Heap.get?_push_of_some _ e,yt _ lo (lo - hi).toNat,?_,fun b hb => ?_,q⟩
 ·have e1:lo + ((0:Nat):Int) * (-1) = lo:=by simp
  have e2:(((lo - hi).toNat:Nat):Int) - ((0:Nat):Int) = Builtin.Range.rangeSize lo hi (-1):=by rw [PySem.W.rangeSize_downNat]; lia
  show IsRangeIter _ _ (lo + ((0:Nat):Int) * (-1)) ((((lo - hi).toNat:Nat):Int) - ((0:Nat):Int)) (-1)
  rw [e1,e2]
  exact Heap.get?_push_size _ rfl
 ·have e:b = (s.heap.push { cls:=.type "range",data:=.fields #[.int lo t,.int hi u,.int (-1) v] }).objs.size:=by simpa using hb
  subst e
  exact I1.zO (Nat.le_refl _) (I1.bK.fresh (Nat.le_refl _))
noncomputable def J4 (ta:TA):TI:=fun σ H R => ta σ H fun vs H1 => ∃ i j:Int,vs = [.int i,.int j,.int (-1)] ∧ (-(2 ^ 62) ≤ i ∧ i < 2 ^ 62 ∧ -(2 ^ 62) ≤ j ∧ j < 2 ^ 62) ∧ R (L9 i (i - j).toNat) H1
theorem Du {a b c:Expr} {ta:TA} {p pos:Pos} (hg:Gl X "range") (hm:X.mg "range" = none) (ha:PA X [a,b,c] ta) (hs:starEach [a,b,c] X.env = [(false,eval a X.env),(false,eval b X.env),(false,eval c X.env)]:=by rfl) (hR:starEach [b,c] X.env = [(false,eval b X.env),(false,eval c X.env)]:=by rfl) :
  PI X tg (.Call (.Name "range" p) [a,b,c] [] pos) (J4 ta):=by
 intro pins s σ H R I h
 refine Call_ (jb I hg hm boot_range (PyProof.Rows.callWith_type1 (c_ (ha pos pins s σ H _ I h) fun us s1 ⟨vs,H1,I1,r1,q1⟩ => ?_) (by rw [hs,hR]) (by rw [hR]; rfl)))
 obtain ⟨i,j,e,⟨q1,q2,q3,q4⟩,q⟩:=q1
 subst e
 cases r1 with
 | cons r rr =>
  cases rr with
  | cons r' rr =>
   cases rr with
   | cons UU rr =>
    cases rr
    obtain ⟨t,rfl⟩:=r
    obtain ⟨t',rfl⟩:=r'
    obtain ⟨XC,rfl⟩:=UU
    refine call_range_3 (by decide) (Dt I1 q1 q2 q3 q4 q) (.inl (PyProof.noPylong_of_log2 (by decide +kernel)))
end
section
variable {X:Cx} {tg:Expr}
end
section
variable {X:Cx} {elts:List Expr} {kt:Nat} {tp p pos:Pos}
end
section
variable {X:Cx}
end
end L2
namespace L2
open PySem PySem.Spec PyProof.Rows
structure dS where
 qual:Str
 params:Arguments
 body:Expr
 scope:Scope
 ps:List Str
 x:Str
structure dS.Ok (L:dS):Prop where
 kind:L.scope.kind = .function
 co:L.scope.isCoroutine = false
 gen:L.scope.isGenerator = false
 gr:∀ y ∈ L.scope.names,y.2 ≠ .cell
 par:∀ p ∈ L.ps,L.scope.names.lookup p = some .local
 fr:L.scope.names.lookup L.x = some .free
 free:∀ y,L.scope.names.lookup y = some .free → y = L.x
 nd:(L.ps ++ [L.x]).Nodup
 bind:∀ (pm cd ct:Value) (cl:List (Str × Addr)) (us:List Value),us.length = L.ps.length → bindArgs (PySem.W.kla_fn "<lambda>" L.qual L.params L.body L.scope cl pm cd ct) ⟨us,[]⟩ = pure (L.ps.zip us)
noncomputable abbrev Fz (H:Hp) (a:Addr) (o:Obj):Prop:=H a = some (.fQ o (.own 0))
structure yu (L:dS) (H:Hp) (f c c':Addr) (v:V):Prop where
 fn:∃ pm vO,Fz H f (PySem.W.kla_obj "<lambda>" L.qual L.params L.body L.scope [(L.x,c)] pm c' vO)
 cd:∃ oc vs t,Fz H c' oc ∧ oc.data = .fields vs ∧ vs[1]? = some (.str L.qual t)
 ce:∃ oc u,Fz H c oc ∧ oc.data = .cell (some u) ∧ RelV v u
noncomputable def hide (H:Hp) (c:Addr):Hp:=fun b => if b = c then none else H b
noncomputable def back (H H':Hp) (c:Addr):Hp:=fun b => if b = c then H b else H' b
theorem hide_ne {H:Hp} {b c:Addr} (h:b ≠ c):hide H c b = H b:=if_neg h
theorem hide_self {H:Hp} {c:Addr}:hide H c c = none:=if_pos rfl
theorem fZ {H H':Hp} {b c:Addr} (h:b ≠ c):back H H' c b = H' b:=if_neg h
theorem lG {H H':Hp} {c:Addr}:back H H' c c = H c:=if_pos rfl
noncomputable def qD (P:Program) (w:World) (K:PySem.W.Frag) (mg:Str → Option Value) (base:Heap) (L:dS) (f c c':Addr) (A:Around) (outer:List Env) (s:Shared) (H:Hp):Cx where
 prog:=P
 w:=w
 K:=K
 mg:=mg
 base:=base
 A:=A.deeper (PySem.W.envX L.qual L.scope s.heap.objs.size f (.ref c') [(L.x,c)])
 N:=L.ps ++ [L.x]
 s₀:=s
 H₀:=hide H c
 env:=PySem.W.envX L.qual L.scope s.heap.objs.size f (.ref c') [(L.x,c)]
 outer:=outer
 stack:=PySem.W.envX L.qual L.scope s.heap.objs.size f (.ref c') [(L.x,c)] :: outer
 ex:=[]
 calm:=true
 fn:=fun y => !(y == L.x)
 pn:=[]
 xe:=fun _ _ => False
theorem xa:∀ {ps:List Str} {us:List Value} {i:Nat} {y:Str} {u:Value},ps.Nodup → ps[i]? = some y → us[i]? = some u → (ps.zip us).reverse.lookup y = some u
 | [],_,_,_,_,_,h,_ => by cases h
 | _ :: _,[],_,_,_,_,_,h => by cases h
 | p :: ps,w :: us,i,y,u,nd,h1,h2 => by
  have n:=List.nodup_cons.mp nd
  rw [List.zip_cons_cons,List.reverse_cons,List.lookup_append]
  cases i with
  | zero =>
   cases h1
   cases h2
   have:(ps.zip us).reverse.lookup p = none:=by
    rw [List.lookup_eq_none_iff]
    intro q hq
    have:=(List.of_mem_zip (List.mem_reverse.mp hq)).1
    have ne:p ≠ q.1:=by
     intro z
     apply n.1
     rw [z]; exact this
    first | exact beq_eq_false_iff_ne.mpr ne | exact beq_eq_false_iff_ne.mpr (Ne.symm ne) | simpa using ne | simpa using (Ne.symm ne)
   rw [this]
   simp
  | succ i =>
   rw [xa n.2 (show ps[i]? = some y from h1) (show us[i]? = some u from h2)]
   rfl
section
variable {P:Program} {w:World} {K:PySem.W.Frag} {mg:Str → Option Value} {base:Heap} {L:dS} {f c c':Addr} {A:Around} {outer:List Env} {s s1:Shared} {H:Hp} {us:List Value} {vs:List V} {v:V}
theorem t8 {h h':Heap} {o:Obj} (x:gG P w H h) (hc:Fz H c o) (k:∀ b u,h.get? b = some u → h'.get? b = some u):gG P w (hide H c) h':=fun a ob e => by
 have ne:a ≠ c:=fun z => by rw [z,hide_self] at e; cases e
 rw [hide_ne ne] at e
 refine (x a ob e).jJ (fun b u _ q => k b u q) (fun b q => ?_) fun b xs q => ?_
 ·have n2:b ≠ c:=by
   intro z
   rw [z,hc] at q
   cases q
  rw [hide_ne n2]; exact q
 ·have n2:b ≠ c:=by
   intro z
   rw [z,hc] at q
   cases q
  rw [hide_ne n2]; exact q
theorem yw (LO:L.Ok) (C:yu L H f c c' v) (hd:A.handled = none) (e0:vH P w K mg base A outer s H) (hl:vs.length = L.ps.length) (r:Vals vs us) {h1:Heap} {tk:Nat}
  (E7:h1.Ns s.heap.objs.size (fun y => (L.ps.zip us).reverse.lookup y)) (hk:∀ b o,s.heap.get? b = some o → h1.get? b = some o) :
  Inv (qD P w K mg base L f c c' A outer s H) [] (vs.map some ++ [some v]) (hide H c) { s with heap:=h1,toks:=tk }:=by
 obtain ⟨oc,u,hc,mU,rv⟩:=C.ce
 have gc:s.heap.get? c = some oc:=(e0.bK c _ hc).1
 have ic:h1.IsCell c (some u):=⟨oc,hk _ _ gc,mU⟩
 have t9:∀ y z,([(L.x,c)]:List (Str × Addr)).lookup y = some z → y = L.x ∧ z = c:=fun y z h => by
  rw [List.lookup_cons] at h
  split at h
  ·rename_i e
   exact ⟨by simpa using e,(Option.some.inj h).symm⟩
  ·cases h
 have E8:([(L.x,c)]:List (Str × Addr)).lookup L.x = some c:=by
  rw [List.lookup_cons,beq_self_eq_true]
 have NV:∀ b,H b = none → hide H c b = none:=fun b h => by
  unfold hide
  split
  ·rfl
  ·exact h
 have LP:L.ps.Nodup:=(List.nodup_append.mp LO.nd).1
 refine ⟨⟨e0.mod,LO.kind,rfl,rfl,Nat.le_refl _,fun y z a h1 h2 => (t9 y a h1).1.trans (t9 z a h2).1.symm,fun y hy => ?_,fun y a h1 h2 => ?_,fun _ => hd,Around.frames_deeper e0.frames,.inr ⟨rfl,rfl⟩,(fun b z => by cases z),fun b o e => ⟨(e0.bs b o e).1,NV b (e0.bs b o e).2⟩,e0.zF,(fun b _ _ z => by cases z),(fun b z => by cases z),e0.iX,fun b hb => NV b (e0.xZ b hb)⟩,
  rfl,e0.bare,Un.kept hk,⟨_,E7,fun i y v' h1 h2 h3 => ?_⟩,(fun y a h => ⟨some u,by rw [(t9 y a h).2]; exact ic⟩),NV _ (e0.bK.fresh (Nat.le_refl _)),(fun y a h => by rw [(t9 y a h).2]; exact hide_self),(fun q hq => by cases hq),t8 e0.bK hc hk,?_⟩
 ·have hy:L.scope.names.lookup y = some .cell ∨ L.scope.names.lookup y = some .free:=hy
  rcases hy with hy | hy
  ·exact absurd rfl (LO.gr _ (PySem.mem_of_lookup hy))
  ·exact ⟨c,by rw [LO.free y hy]; exact E8⟩
 ·have:=(t9 y a h2).1
  subst this
  have h1:(!(L.x == L.x)) = true:=h1
  rw [beq_self_eq_true] at h1
  cases h1
 ·have h1:(L.ps ++ [L.x])[i]? = some y:=h1
  rcases Nat.lt_or_ge i L.ps.length with q | q
  ·rw [List.getElem?_append_left q] at h1
   rw [List.getElem?_append_left (by rw [List.length_map,hl]; exact q),List.getElem?_map] at h2
   have ha:vs[i]? = some v':=by
    cases e:vs[i]? with
    | none => rw [e] at h2; cases h2
    | some a => rw [e] at h2; cases h2; rfl
   obtain ⟨u',hu,NW⟩:=r.get ha
   exact ⟨u',NW,.inl ⟨LO.par y (List.mem_of_getElem? h1),xa LP h1 hu⟩⟩
  ·rw [List.getElem?_append_right q] at h1
   rw [List.getElem?_append_right (by rw [List.length_map,hl]; exact q),List.length_map,hl] at h2
   cases z:i - L.ps.length with
   | zero =>
    rw [z] at h1 h2
    cases h1
    cases h2
    exact ⟨u,rv,.inr ⟨.inr LO.fr,c,E8,ic⟩⟩
   | succ k => rw [z] at h1; cases h1
 ·show (vs.map some ++ [some v]).length = (L.ps ++ [L.x]).length
  rw [List.length_append,List.length_append,List.length_map,hl]; rfl
theorem Dv {H':Hp} {o:Obj} {fs:List Addr} {h h':Heap} (hc:Fz H c o) (NX:c ∉ fs) (ok:gG P w H h) (u:Un fs [] (hide H c) H' h h') (L_:gG P w H' h'):Un fs [] H (back H H' c) h h' ∧ gG P w (back H H' c) h':=by
 have gc:h.get? c = some o:=(ok c _ hc).1
 have J5:h'.get? c = some o:=u.keep c o gc hide_self NX (by simp)
 have fc:H' c = none:=u.free c o gc hide_self (by simp)
 have nc:∀ b x,H b = some x → (∀ o u,x ≠ .fQ o u) → b ≠ c:=fun b x q z e => by
  rw [e,hc] at q
  exact z _ _ (Option.some.inj q).symm
 have n0:∀ b,H b = none → b ≠ c:=fun b q e => by
  rw [e,hc] at q
  cases q
 refine ⟨⟨fun b ob q n hb _ => u.keep b ob q (by rw [hide_ne (n0 b n)]; exact n) hb (by simp),fun b ob q n hb _ => u.slot b ob q (by rw [hide_ne (n0 b n)]; exact n) hb (by simp),fun b ob q n _ => ?_,fun b ob q _ => u.there b ob q (by simp),fun b xs q => ?_,fun b ob x q => ?_,fun b ps q => ?_⟩,fun b x q => ?_⟩
 ·rw [fZ (n0 b n)]
  exact u.free b ob q (by rw [hide_ne (n0 b n)]; exact n) (by simp)
 ·have ne:=nc b _ q fun _ _ z => by cases z
  rw [fZ ne]
  exact u.i8 b xs (by rw [hide_ne ne]; exact q)
 ·by_cases ne:b = c
  ·rw [ne,lG,← ne]; exact q
  ·rw [fZ ne]
   exact u.ix b ob x (by rw [hide_ne ne]; exact q)
 ·have ne:=nc b _ q fun _ _ z => by cases z
  rw [fZ ne]
  exact u.i9 b ps (by rw [hide_ne ne]; exact q)
 ·by_cases ne:b = c
  ·rw [ne,lG,hc] at q
   cases q
   rw [ne]
   exact ⟨J5,o,J5⟩
  ·rw [fZ ne] at q
   have up:∀ a y,H' a = some y → back H H' c a = some y:=fun a y z => by
    rw [fZ (fun e => by rw [e,fc] at z; cases z)]; exact z
   exact (L_ b x q).jJ (fun _ _ _ z => z) (fun a z => up a _ z) fun a xs z => up a _ z
theorem Dw {k:Nat} {Q:VK} {E:XK} (LO:L.Ok) (C:yu L H f c c' v) (hr:dR (k + 1) A) (e0:vH P w K mg base A outer s H) (hl:vs.length = L.ps.length) (r:Vals vs us)
  (h:∃ t,PE (qD P w K mg base L f c c' A outer s H) L.body t ∧ t (vs.map some ++ [some v]) (hide H c) fun y H' => H' c = none → Q y (back H H' c)) :
  codeAny (model P w) A (.call (.ref f) ⟨us,[]⟩) (CR (iY P w) outer P w H s Q E) s:=by
 obtain ⟨pm,vO,hf⟩:=C.fn
 obtain ⟨oc,ws,t,mU,hd,hq⟩:=C.cd
 obtain ⟨XD,u0,NY,_⟩:=C.ce
 have UW:us.length = L.ps.length:=by rw [← r.length]; exact hl
 have lim:s.heap.NoLimit:=e0.mod.nolimit.keeps fun b o e => (e0.bs b o e).1
 refine PySem.W.kla_callFunE hr.depth (e0.bK f _ hf).1 rfl LO.co LO.gen rfl ⟨c',oc,ws,t,rfl,(e0.bK c' _ mU).1,hd,hq⟩ ?_
 rw [LO.bind _ _ _ _ us UW]
 refine wpAny_pure (wpAny_newFunctionEnv LO.gr (fun y hy => LO.par y.1 (List.of_mem_zip (show (y.1,y.2) ∈ L.ps.zip us from hy)).1) (fun h1 E7 UX => ?_) LO.kind)
 have hk:∀ b o,s.heap.get? b = some o → h1.get? b = some o:=fun b o e => UX.extBut b o (Nat.ne_of_lt (Heap.lt_size e)) (Heap.get?_push_of_some _ e)
 refine ⟨lim.keeps hk,?_⟩
 show codeAny _ _ (.expr L.body (PySem.W.envX L.qual L.scope s.heap.objs.size f (.ref c') [(L.x,c)])) _ _
 obtain ⟨tr,pe,ht⟩:=h
 have I:=yw (tk:=s.toks + (L.ps.zip us).length) LO C hr.hd e0 hl r E7 hk
 refine PySem.W.kla_codeExpr (wpAny_mono (pe [] _ _ _ _ I ht) (fun y s' hy => ?_) fun _ _ z => z.elim)
 obtain ⟨y',H',J,ry,qy⟩:=hy
 have NX:c ∉ fY outer:=fun z => by
  have:=e0.xZ c z
  rw [NY] at this
  cases this
 obtain ⟨un,ok⟩:=Dv NY NX e0.bK J.base J.bK
 exact ⟨y',back H H' c,J.os,J.bare,un,ok,ry,qy (J.base.free c _ (e0.bK c _ NY).1 hide_self (by simp [qD]))⟩
end
end L2
namespace L2
open PySem PySem.Spec PyProof.Rows
noncomputable def Tab (H:Hp) (T:Addr) (line col:Nat) (qual:Str):Prop:=H T = some (.p5 #[]) ∨
 ∃ c' oc vs t,H T = some (.p5 #[rawInt line,rawInt col,.ref c']) ∧ Fz H c' oc ∧ oc.data = .fields vs ∧ vs[1]? = some (.str qual t)
structure E_ (X:Cx) (L:dS) (pos:Pos) (cd T c:Addr):Prop where
 code:X.env.code = .ref cd
 hd:PySem.W.CodeHd X.base cd T
 cl:closureFor L.scope X.env = pure [(L.x,c)]
 qual:L.qual = X.env.qual ++ "<lambda>"
 dflt:defaultsOf L.params X.env = ([],[])
 blt:X.base.BuiltinsAt X.mg T
 gT:mainGlobals ≠ T
structure Ap (L:dS) (H H':Hp) (T c f c':Addr) (pos:Pos):Prop where
 fn:∃ pm vO,Fz H' f (PySem.W.kla_obj "<lambda>" L.qual L.params L.body L.scope [(L.x,c)] pm c' vO)
 cd:∃ oc vs t,Fz H' c' oc ∧ oc.data = .fields vs ∧ vs[1]? = some (.str L.qual t)
 tab:Tab H' T pos.line pos.col L.qual
 old:∀ b o,b ≠ T → H b = some o → H' b = some o
noncomputable def NZ (L:dS) (T c:Addr) (pos:Pos):TE:=fun _ H Q => Tab H T pos.line pos.col L.qual ∧ ∀ f c' H',Ap L H H' T c f c' pos → Q (.ref f) H'
theorem yy {pos:Pos}:codeAmong pos (#[]:Array Value).toList = none:=rfl
section
variable {X:Cx} {L:dS} {pos:Pos} {cd T c:Addr}
theorem G7 (A:E_ X L pos cd T c):PE X (.Lambda L.params L.body L.scope pos) (NZ L T c pos):=by
 intro pins s σ H Q I h
 obtain ⟨tb,q⟩:=h
 have C:PySem.W.CodeHd s.heap cd T:=A.hd.keeps I.bk
 have G:s.heap.Ns mainGlobals X.mg:=I.ok.mod.glob.keeps I.bk
 have B:s.heap.BuiltinsAt X.mg T:=by
  obtain ⟨bm,o,h1,h2,h3,h4,h5,h6⟩:=A.blt
  exact ⟨bm,o,h1,h2,h3,h4,I.bk _ _ h5,h6⟩
 refine PySem.W.kla_eval A.dflt ?_
 rw [← A.qual]
 rcases tb with tb | ⟨c',oc,vs,t,tb,hc,hd,hv⟩
 ·have hT:s.heap.get? T = some (PySem.W.tabObj #[]):=I.bK T _ tb
  refine PySem.W.kla_makeFunction (ps:=#[]) A.cl I.ok.glob G A.code C hT trivial yy A.gT B fun c' vO h' tk hx J7 vx N0 UY => ?_
  obtain ⟨c2,oc,vs,t,e2,Jf,hd,hv⟩:=N0
  cases e2
  obtain ⟨ob,eo⟩:∃ ob,ob = PySem.W.kla_obj "<lambda>" L.qual L.params L.body L.scope [(L.x,c)] ((X.mg "__name__").getD .none) c' vO:=⟨_,rfl⟩
  obtain ⟨ps,Td⟩:∃ ps:Array Value,ps = #[rawInt pos.line,rawInt pos.col,.ref c']:=⟨_,rfl⟩
  have J8:h'.get? T = some (PySem.W.tabObj ps):=by rw [UY,Td]; rfl
  rw [← eo]
  have lT:T < s.heap.objs.size:=Heap.lt_size hT
  have nc:H c' = none:=I.bK.fresh J7
  have nf:H h'.objs.size = none:=I.bK.fresh (by lia)
  have tr:∀ b x,H b = some x → b < s.heap.objs.size:=fun b x q => by
   obtain ⟨o,e⟩:=(I.bK b x q).there
   exact Heap.lt_size e
  obtain ⟨H',eH⟩:∃ H',H' = upd (upd (upd H T (.p5 ps)) c' (.fQ oc (.own 0))) h'.objs.size (.fQ ob (.own 0)):=⟨_,rfl⟩
  have Te:H' h'.objs.size = some (.fQ ob (.own 0)):=by rw [eH]; exact bw
  have eO:H' c' = some (.fQ oc (.own 0)):=by rw [eH,aE (Nat.ne_of_lt vx)]; exact bw
  have J9:H' T = some (.p5 ps):=by rw [eH,aE (Nat.ne_of_lt (Nat.lt_trans lT (Nat.lt_of_le_of_lt J7 vx))),aE (Nat.ne_of_lt (Nat.lt_of_lt_of_le lT J7))]; exact bw
  have mT:∀ b,b ≠ T → b < s.heap.objs.size → H' b = H b:=fun b h1 h2 => by rw [eH,aE (Nat.ne_of_lt (Nat.lt_trans h2 (Nat.lt_of_le_of_lt J7 vx))),aE (Nat.ne_of_lt (Nat.lt_of_lt_of_le h2 J7)),aE h1]
  have nT:∀ b x,H b = some x → (∀ ps,x ≠ .p5 ps) → b ≠ T:=fun b x q z e => by
   rw [e,tb] at q
   exact z _ (Option.some.inj q).symm
  have n0:∀ b,H b = none → b ≠ T:=fun b q e => by
   rw [e,tb] at q
   cases q
  have kp:∀ b o,b ≠ T → s.heap.get? b = some o → (h'.push ob).get? b = some o:=fun b o h1 h2 => Heap.get?_push_of_some _ (hx b o h1 h2)
  have un:Un X.fs [] H H' s.heap (h'.push ob):=by
   refine ⟨fun b o q n _ _ => kp b o (n0 b n) q,fun b o q n _ _ => ⟨o.slots,kp b o (n0 b n) q⟩,fun b o q n _ => ?_,fun b o q _ => ?_,fun b xs q => ?_,fun b o u q => ?_,fun b XE q => ?_⟩
   ·rw [mT b (n0 b n) (Heap.lt_size q)]; exact n
   ·by_cases e:b = T
    ·rw [e]; exact ⟨_,Heap.get?_push_of_some _ J8⟩
    ·exact ⟨o,kp b o e q⟩
   ·rw [mT b (nT b _ q fun _ z => by cases z) (tr b _ q)]; exact q
   ·rw [mT b (nT b _ q fun _ z => by cases z) (tr b _ q)]; exact q
   ·by_cases e:b = T
    ·rw [e,tb] at q
     cases q
     exact ⟨ps,by rw [e,J9]; simp⟩
    ·exact ⟨#[],by rw [mT b e (tr b _ q),q]; simp⟩
  have ok:gG X.prog X.w H' (h'.push ob):=fun b x q => by
   by_cases e1:b = h'.objs.size
   ·rw [e1,Te] at q
    cases q
    rw [e1]
    have g:(h'.push ob).get? h'.objs.size = some ob:=Heap.get?_push_size _ (by rw [eo]; rfl)
    exact ⟨g,ob,g⟩
   ·by_cases e2:b = c'
    ·rw [e2,eO] at q
     cases q
     rw [e2]
     exact ⟨Heap.get?_push_of_some _ Jf,oc,Heap.get?_push_of_some _ Jf⟩
    ·by_cases e3:b = T
     ·rw [e3,J9] at q
      cases q
      rw [e3]
      exact Heap.get?_push_of_some _ J8
     ·rw [eH,aE e1,aE e2,aE e3] at q
      refine (I.bK b x q).jJ (fun a u ha z => kp a u ?_ z) (fun a z => ?_) fun a xs z => ?_
      ·rcases ha with rfl | ha
       ·exact e3
       ·exact nT a _ ha fun _ z => by cases z
      ·rw [mT a (nT a _ z fun _ z => by cases z) (tr a _ z)]; exact z
      ·rw [mT a (nT a _ z fun _ z => by cases z) (tr a _ z)]; exact z
  refine ⟨.ref h'.objs.size,H',I.un (t':=tk) un ok,rfl,q h'.objs.size c' H' ⟨⟨(X.mg "__name__").getD .none,vO,by show H' _ = some _; rw [Te,eo]⟩,⟨oc,vs,t,eO,hd,hv⟩,.inr ⟨c',oc,vs,t,by rw [J9,Td],eO,hd,hv⟩,fun b o h1 h2 => ?_⟩⟩
  rw [mT b h1 (tr b _ h2)]; exact h2
 ·have hT:s.heap.get? T = some (PySem.W.tabObj #[rawInt pos.line,rawInt pos.col,.ref c']):=I.bK T _ tb
  refine PySem.W.kla_makeFunctionHit (cv:=.ref c') A.cl I.ok.glob G A.code C hT trivial ?_ B fun vO h' tk hk hsz => ?_
  ·show codeAmong pos [rawInt pos.line,rawInt pos.col,.ref c'] = _
   unfold rawInt codeAmong
   rw [if_pos (by simp)]
  ·obtain ⟨ob,eo⟩:∃ ob,ob = PySem.W.kla_obj "<lambda>" L.qual L.params L.body L.scope [(L.x,c)] ((X.mg "__name__").getD .none) c' vO:=⟨_,rfl⟩
   have g:(h'.push ob).get? h'.objs.size = some ob:=Heap.get?_push_size _ (by rw [eo]; rfl)
   have nf:H h'.objs.size = none:=I.bK.fresh hsz
   have yg:H c' = some (.fQ oc (.own 0)):=hc
   have e1:c' ≠ h'.objs.size:=fun z => by rw [z,nf] at yg; cases yg
   have Tf:∀ o,upd H h'.objs.size o c' = some (.fQ oc (.own 0)):=fun o => by rw [aE e1]; exact yg
   have e2:T ≠ h'.objs.size:=fun z => by rw [z,nf] at tb; cases tb
   have J:=I.laid (a:=h'.objs.size) (o:=.fQ ob (.own 0)) (t':=tk) (h':=h'.push ob) (fun b u e => Heap.get?_push_of_some _ (hk b u e)) hsz ⟨g,ob,g⟩
   rw [eo] at J
   refine ⟨.ref h'.objs.size,_,J,rfl,q _ c' _ ⟨⟨_,vO,bw⟩,⟨oc,vs,t,Tf _,hd,hv⟩,.inr ⟨c',oc,vs,t,by rw [aE e2]; exact tb,Tf _,hd,hv⟩,fun b o h1 h2 => ?_⟩⟩
   rw [aE (fun z => by rw [z,nf] at h2; cases h2)]; exact h2
end
end L2
namespace L2
open PySem PySem.Spec PyProof.Rows
theorem yu.mono {L:dS} {H H':Hp} {f c c':Addr} {v:V} (C:yu L H f c c' v) (k:∀ b o u,H b = some (.fQ o u) → H' b = some (.fQ o u)):yu L H' f c c' v:=by
 obtain ⟨⟨pm,vO,h1⟩,⟨oc,vs,t,h2,h3⟩,⟨o2,u,h4,h5⟩⟩:=C
 exact ⟨⟨pm,vO,k _ _ _ h1⟩,⟨oc,vs,t,k _ _ _ h2,h3⟩,⟨o2,u,k _ _ _ h4,h5⟩⟩
noncomputable def XF:XK:=fun _ _ _ => False
section
variable {X:Cx} {L:dS} {i:Nat} {x:Str} {f c c':Addr} {v:V} {k:Nat} {e:Expr} {es:List Expr} {t:TA} {p pos:Pos}
noncomputable def Fb (X:Cx) (L:dS) (f c c':Addr) (v:V) (vs:List V) (H:Hp) (Q:VK):Prop:=vs.length = L.ps.length ∧ ∀ s:Shared,∃ t',PE (qD X.prog X.w X.K X.mg X.base L f c c' X.A X.stack s H) L.body t' ∧ t' (vs.map some ++ [some v]) (hide H c) fun y H' => H' c = none → Q y (back H H' c)
theorem Aq (LO:L.Ok) (hr:dR (k + 1) X.A) (hN:X.N[i]? = some x) (hk:X.env.scope.names.lookup x = some .local) (ha:PA X (e :: es) t) (jV:(x == ("__debug__":Str)) = false:=by decide)
  (he:starEach (e :: es) X.env = (false,eval e X.env) :: starEach es X.env:=by rfl) (hU:(backTo pos (starEach es X.env)).any (·.1) = false:=by rfl) :
  PE X (.Call (.Name x p) (e :: es) [] pos) (fun σ H Q => ∃ f c c' v,σ[i]? = some (some (.ref f)) ∧ yu L H f c c' v ∧ t σ H fun vs H1 => yu L H1 f c c' v ∧ Fb X L f c c' v vs H1 Q):=by
 intro pins s σ H Q I h
 obtain ⟨f,c,c',v,h0,hC,h⟩:=h
 have J_:∀ {pins:List (Addr × Obj)} {σ:St} {H:Hp} {s:Shared},Inv X pins σ H s → yu L H f c c' v → PySem.W.FnAt f s.heap:=fun J C => by
  obtain ⟨pm,vO,hf⟩:=C.fn
  exact ⟨_,_,_,_,(J.bK f _ hf).1⟩
 refine wpAny_Call_Name_kw ?_
 obtain ⟨m,hn,hl⟩:=I.loc
 obtain ⟨u,ru,l⟩:=hl i x _ hN h0 (.inl hk)
 cases ru
 rcases l with ⟨IP,hm⟩ | ⟨IP,_⟩
 ·refine wpAny_Name (wpAny_loadName_local I.ok.kind IP hn hm ?_) jV
  refine PySem.W.callWith_F (J_ I hC) (c_ (ha pos pins s σ H _ I h) fun us s1 q1 => ?_) he hU
  obtain ⟨vs,H1,I1,r,Tg,w4,q⟩:=q1
  refine ⟨J_ I1 Tg,?_⟩
  refine wpAny_call (codeAny_mono (Dw (E:=XF) (Q:=Q) LO Tg hr I1.CT w4 r (q s1)) fun r s' hq => ?_)
  cases r with
  | error e => obtain ⟨_,_,_,_,_,z⟩:=hq; exact z.elim
  | ok fl =>
   cases fl with
   | ret u => exact I1.after hq
   | next => exact False.elim hq
   | brk => exact False.elim hq
   | cont => exact False.elim hq
 ·have:X.env.kindOf x = some .local:=hk
  rw [this] at IP
  rcases IP with z | z <;> cases z
end
section
variable {P:Program} {w:World} {H H':Hp} {c:Addr} {o:Obj} {fs:List Addr} {h h':Heap}
theorem Dx (hn:H c = none) (gc:h.get? c = some o) (u:Un fs [] (upd H c (.fQ o (.own 0))) H' h h') (L_:gG P w H' h'):Un fs [] H (hide H' c) h h' ∧ gG P w (hide H' c) h':=by
 have fc:H' c = some (.fQ o (.own 0)):=u.ix c o _ bw
 have J5:h'.get? c = some o:=(L_ c _ fc).1
 have ne:∀ b x,H b = some x → b ≠ c:=fun b x q e => by rw [e,hn] at q; cases q
 refine ⟨⟨fun b ob q n hb _ => ?_,fun b ob q n hb _ => ?_,fun b ob q n _ => ?_,fun b ob q _ => u.there b ob q (by simp),fun b xs q => ?_,fun b ob x q => ?_,fun b ps q => ?_⟩,t8 L_ fc fun _ _ z => z⟩
 ·by_cases e:b = c
  ·rw [e] at q ⊢
   rw [gc] at q
   cases q
   exact J5
  ·exact u.keep b ob q (by rw [aE e]; exact n) hb (by simp)
 ·by_cases e:b = c
  ·rw [e] at q ⊢
   rw [gc] at q
   cases q
   exact ⟨o.slots,J5⟩
  ·exact u.slot b ob q (by rw [aE e]; exact n) hb (by simp)
 ·by_cases e:b = c
  ·rw [e]; exact hide_self
  ·rw [hide_ne e]
   exact u.free b ob q (by rw [aE e]; exact n) (by simp)
 ·rw [hide_ne (ne b _ q)]
  exact u.i8 b xs (by rw [aE (ne b _ q)]; exact q)
 ·rw [hide_ne (ne b _ q)]
  exact u.ix b ob x (by rw [aE (ne b _ q)]; exact q)
 ·rw [hide_ne (ne b _ q)]
  exact u.i9 b ps (by rw [aE (ne b _ q)]; exact q)
end
section
variable {X:Cx} {CX:zS} {k:Nat} {f:Addr} {fd:FuncData} {ps:List Str} {sp:Sp} {x y:Str} {i:Nat} {c:Addr} {p pos:Pos} {e:Expr} {es:List Expr} {t:TA}
theorem Ar (F:jK X.prog X.w X.K X.mg X.base (iY X.prog X.w) k f fd ps sp) (hr:dR k X.A) (hg:Gl X x) (hm:X.mg x = some (.ref f)) (hk:PySem.W.keepIn X.K (.ref f) = true) (hb:Binds X.K fd ps [])
  (hN:X.N[i]? = some y) (hy:X.env.scope.names.lookup y = some .cell) (hc:X.env.cells.lookup y = some c) (vB:X.fn y = true)
  (ha:PA X (e :: es) t) (jV:(x == ("__debug__":Str)) = false:=by decide) (he:starEach (e :: es) X.env = (false,eval e X.env) :: starEach es X.env:=by rfl) (hU:(backTo pos (starEach es X.env)).any (·.1) = false:=by rfl) :
  PE X (.Call (.Name x p) (e :: es) [] pos) (fun σ H Q => t σ H fun vs H1 => ∃ v,σ[i]? = some (some v) ∧ ∀ oc u,oc.data = .cell (some u) → RelV v u → H1 c = none → sp vs (upd H1 c (.fQ oc (.own 0))) (fun z H2 => Q z (hide H2 c)) XF):=by
 intro pins s σ H Q I h
 refine wpAny_Call_Name_kw (iy I hg hm ?_ jV)
 refine PySem.W.callWith_K (h₀:=X.base) I.ok.mod.FK hk (c_ (ha pos pins s σ H _ I h) fun us s1 q1 => ?_) he hU
 obtain ⟨vs,H1,I1,r,v,hv,q⟩:=q1
 refine ⟨I1.mS,?_⟩
 obtain ⟨m,hn,hl⟩:=I1.loc
 obtain ⟨u,ru,l⟩:=hl i y v hN hv (.inr (.inl hy))
 have UZ:X.env.kindOf y = some .cell:=hy
 rcases l with ⟨z,_⟩ | ⟨_,c2,yg,wM⟩
 ·rw [UZ] at z; cases z
 rw [hc] at yg
 cases yg
 obtain ⟨oc,go,od⟩:=wM
 have nH:H1 c = none:=I1.gn y c hc
 have zE:X.s₀.heap.objs.size ≤ c:=I1.ok.zE y c vB hc
 have e0:=I1.CT
 have nb:∀ b o,X.base.get? b = some o → b ≠ c:=fun b o e z => by
  have:=Heap.lt_size e
  have h2:=I1.ok.zF
  rw [z] at this
  exact absurd (Nat.lt_of_lt_of_le this h2) (Nat.not_lt.mpr zE)
 have nf:∀ b ∈ fY X.stack,b ≠ c:=fun b hb z => by
  rcases List.mem_cons.mp (I1.lC b hb) with q | q
  ·exact I1.zH y c hc (z.symm.trans q)
  ·have h2:=I1.ok.iX.mem q
   obtain ⟨_,o',mT,_⟩:=h2
   have h3:=Heap.lt_size mT
   rw [z] at h3
   exact absurd h3 (Nat.not_lt.mpr zE)
 have e1:vH X.prog X.w X.K X.mg X.base X.A X.stack s1 (upd H1 c (.fQ oc (.own 0))):=by
  refine ⟨e0.frames,e0.mod,fun b o e => ⟨(e0.bs b o e).1,by rw [aE (nb b o e)]; exact (e0.bs b o e).2⟩,e0.zF,e0.iX,fun b hb => by rw [aE (nf b hb)]; exact e0.xZ b hb,fun b x q => ?_,e0.bare⟩
  by_cases z:b = c
  ·rw [z,bw] at q
   cases q
   rw [z]
   exact ⟨go,oc,go⟩
  ·rw [aE z] at q
   have nn:∀ a x,H1 a = some x → a ≠ c:=fun a x w e => by rw [e,nH] at w; cases w
   exact (e0.bK b x q).jJ (fun _ _ _ w => w) (fun a w => by rw [aE (nn a _ w)]; exact w) fun a xs w => by rw [aE (nn a _ w)]; exact w
 have hs:=q oc u od ru nH
 have wU:us.length = ps.length:=by rw [← r.length]; exact F.len _ _ _ _ hs
 have Th:=hb s1 us I1.mS (by rw [List.append_nil]; exact wU)
 rw [List.append_nil] at Th
 refine wpAny_call (codeAny_mono (F.run X.A X.stack s1 _ ⟨us,[]⟩ us vs _ XF hr e1 Th r hs) fun r s' hq => ?_)
 cases r with
 | error e => obtain ⟨_,_,_,_,_,z⟩:=hq; exact z.elim
 | ok fl =>
  cases fl with
  | ret u =>
   obtain ⟨v',H',os,bare,un,bK,rv,qv⟩:=hq
   obtain ⟨G8,U0⟩:=Dx nH go un bK
   exact I1.after ⟨v',hide H' c,os,bare,G8,U0,rv,qv⟩
  | next => exact False.elim hq
  | brk => exact False.elim hq
  | cont => exact False.elim hq
end
end L2
namespace MN
open PySem PySem.Spec L2
open PyProof.Rows hiding St
inductive Val where
 | eR | bl (b:Bool) | int (i:Int) | str (x:Str) | tup (vs:List Val) | loc (n:Nat) | exc (c:Str) | fn (L:dS) (u:Val) | mt (vs:List Val)
inductive Cell where
 | lst (vs:List Val) | Fc (vs:List Val) | mod (vs:List Val) | dK (aI:List (Key × Val)) | dT (aI:List (List Key × Val)) | tab (x:Str) (line col:Nat) (qual:Str)
noncomputable abbrev ah:=List Cell
noncomputable abbrev Env:=List (Option Val)
inductive Res (α:Type) where
 | ok (a:α) (st:ah) | err (c:Str) (st:ah) | bad
inductive bB where
 | nx (μ:Env) (st:ah) | rt (v:Val) (st:ah) | bk (μ:Env) (st:ah) | ct (μ:Env) (st:ah) | er (c:Str) (μ:Env) (st:ah) | bad
@[reducible] def Res.bind {α β:Type} (r:Res α) (k:α → ah → Res β):Res β:=match r with
 | .ok a st => k a st
 | .err c st => .err c st
 | .bad => .bad
structure Wo where
 K:PySem.W.Frag
 mg:Str → Option Value
 pn:List (Addr × Obj)
noncomputable abbrev wo (X:Cx):Wo:=⟨X.K,X.mg,X.pn⟩
mutual
noncomputable def Rl (K:PySem.W.Frag) (ρ:List Addr) (H:Hp):Val → V → Prop
 | .eR,v => v = .eR
 | .bl b,v => v = .bl b
 | .int i,v => v = .int i
 | .str x,v => v = .str x
 | .tup us,v => ∃ a vs,v = .ref a ∧ H a = some (.tup vs) ∧ aZ K ρ H us vs
 | .mt us,v => ∃ a vs,v = .ref a ∧ jQ K H a vs ∧ aZ K ρ H us vs
 | .loc n,v => ∃ a,v = .ref a ∧ ρ[n]? = some a
 | .exc _,_ => False
 | .fn _ _,_ => False
noncomputable def aZ (K:PySem.W.Frag) (ρ:List Addr) (H:Hp):List Val → List V → Prop
 | [],vs => vs = []
 | u :: us,vs => ∃ v r,vs = v :: r ∧ Rl K ρ H u v ∧ aZ K ρ H us r
end
structure Step (ρ:List Addr) (H:Hp) (ρ':List Addr) (H':Hp):Prop where
 pre:ρ <+: ρ'
 tup:∀ b xs,H b = some (.tup xs) → H' b = some (.tup xs)
 fQ:∀ b o u,H b = some (.fQ o u) → H' b = some (.fQ o u)
theorem Step.refl (ρ:List Addr) (H:Hp):Step ρ H ρ H:=⟨List.prefix_refl ρ,fun _ _ h => h,fun _ _ _ h => h⟩
theorem Step.trans {ρ ρ1 ρ2:List Addr} {H H1 H2:Hp} (a:Step ρ H ρ1 H1) (b:Step ρ1 H1 ρ2 H2):Step ρ H ρ2 H2 :=
 ⟨a.pre.trans b.pre,fun _ _ h => b.tup _ _ (a.tup _ _ h),fun _ _ _ h => b.fQ _ _ _ (a.fQ _ _ _ h)⟩
theorem Step.same {ρ:List Addr} {H H':Hp} (e:jW H H'):Step ρ H ρ H':=⟨List.prefix_refl ρ,fun _ _ h => e _ _ h,fun _ _ _ h => e _ _ h⟩
theorem Step.snoc {ρ:List Addr} {H H':Hp} (p:Addr) (e:jW H H'):Step ρ H (ρ ++ [p]) H':=⟨List.prefix_append ρ [p],fun _ _ h => e _ _ h,fun _ _ _ h => e _ _ h⟩
theorem Step.at_ {ρ ρ':List Addr} {H H':Hp} (e:Step ρ H ρ' H') {n:Nat} {a:Addr} (h:ρ[n]? = some a):ρ'[n]? = some a:=by
 obtain ⟨t,rfl⟩:=e.pre
 have hl:n < ρ.length:=by
  rcases Nat.lt_or_ge n ρ.length with q | q
  ·exact q
  ·rw [List.getElem?_eq_none q] at h; cases h
 rw [List.getElem?_append_left hl,h]
theorem Step.N1 {K:PySem.W.Frag} {ρ ρ':List Addr} {H H':Hp} (e:Step ρ H ρ' H') {a:Addr} {xs:List V} (h:jQ K H a xs):jQ K H' a xs:=by
 rcases h with (h | ⟨o,h⟩) | h
 ·exact .inl (.inl (e.tup _ _ h))
 ·exact .inl (.inr ⟨o,e.fQ _ _ _ h⟩)
 ·exact .inr h
mutual
theorem Rl.mono {K:PySem.W.Frag} {ρ ρ':List Addr} {H H':Hp} (e:Step ρ H ρ' H'):∀ (u:Val) (v:V),Rl K ρ H u v → Rl K ρ' H' u v
 | .eR,_,h => h
 | .bl _,_,h => h
 | .int _,_,h => h
 | .str _,_,h => h
 | .tup us,v,h => by
  unfold Rl at h ⊢
  obtain ⟨a,vs,h1,h2,h3⟩:=h
  exact ⟨a,vs,h1,e.tup _ _ h2,aZ.mono e us vs h3⟩
 | .mt us,v,h => by
  unfold Rl at h ⊢
  obtain ⟨a,vs,h1,h2,h3⟩:=h
  exact ⟨a,vs,h1,e.N1 h2,aZ.mono e us vs h3⟩
 | .loc n,v,h => by
  unfold Rl at h ⊢
  obtain ⟨a,h1,h2⟩:=h
  exact ⟨a,h1,e.at_ h2⟩
 | .exc c,v,h => h
 | .fn _ _,_,h => h
theorem aZ.mono {K:PySem.W.Frag} {ρ ρ':List Addr} {H H':Hp} (e:Step ρ H ρ' H'):∀ (us:List Val) (vs:List V),aZ K ρ H us vs → aZ K ρ' H' us vs
 | [],_,h => h
 | u :: us,vs,h => by
  unfold aZ at h ⊢
  obtain ⟨v,r,h1,h2,h3⟩:=h
  exact ⟨v,r,h1,Rl.mono e u v h2,aZ.mono e us r h3⟩
end
section
variable {K:PySem.W.Frag} {ρ ρ':List Addr} {H H':Hp}
theorem aZ.nil:aZ K ρ H [] []:=by unfold aZ; rfl
theorem aZ.cons {u:Val} {us:List Val} {v:V} {vs:List V} (h:Rl K ρ H u v) (hs:aZ K ρ H us vs):aZ K ρ H (u :: us) (v :: vs):=by
 unfold aZ; exact ⟨v,vs,rfl,h,hs⟩
theorem aZ.du {u:Val} {us:List Val} {vs:List V} (h:aZ K ρ H (u :: us) vs):∃ v r,vs = v :: r ∧ Rl K ρ H u v ∧ aZ K ρ H us r:=by
 unfold aZ at h; exact h
theorem aZ.gJ {vs:List V} (h:aZ K ρ H [] vs):vs = []:=by unfold aZ at h; exact h
theorem aZ.length:∀ {us:List Val} {vs:List V},aZ K ρ H us vs → us.length = vs.length
 | [],vs,h => by rw [h.gJ]; rfl
 | u :: us,vs,h => by
  obtain ⟨v,r,rfl,_,h3⟩:=h.du
  rw [List.length_cons,List.length_cons,h3.length]
theorem aZ.get:∀ {us:List Val} {vs:List V} {i:Nat} {u:Val},aZ K ρ H us vs → us[i]? = some u → ∃ v,vs[i]? = some v ∧ Rl K ρ H u v
 | [],_,_,_,_,e => by cases e
 | w :: us,vs,0,u,h,e => by
  obtain ⟨v,r,rfl,h2,_⟩:=h.du
  cases e
  exact ⟨v,rfl,h2⟩
 | w :: us,vs,i + 1,u,h,e => by
  obtain ⟨v,r,rfl,_,h3⟩:=h.du
  exact aZ.get (i:=i) h3 e
theorem aZ.append:∀ {us ws:List Val} {vs xs:List V},aZ K ρ H us vs → aZ K ρ H ws xs → aZ K ρ H (us ++ ws) (vs ++ xs)
 | [],_,vs,_,h,k => by rw [h.gJ]; exact k
 | u :: us,ws,vs,xs,h,k => by
  obtain ⟨v,r,rfl,h2,h3⟩:=h.du
  exact aZ.cons h2 (h3.append k)
theorem aZ.one {u:Val} {v:V} (h:Rl K ρ H u v):aZ K ρ H [u] [v]:=aZ.cons h aZ.nil
theorem aZ.As {u:Val} {vs:List V} (h:aZ K ρ H [u] vs):∃ v,vs = [v] ∧ Rl K ρ H u v:=by
 obtain ⟨v,r,rfl,h2,h3⟩:=h.du
 rw [h3.gJ]
 exact ⟨v,rfl,h2⟩
theorem aZ.G8 {u w:Val} {vs:List V} (h:aZ K ρ H [u,w] vs):∃ v x,vs = [v,x] ∧ Rl K ρ H u v ∧ Rl K ρ H w x:=by
 obtain ⟨v,r,rfl,h2,h3⟩:=h.du
 obtain ⟨x,rfl,h4⟩:=h3.As
 exact ⟨v,x,rfl,h2,h4⟩
theorem aZ.ints:∀ (ns:List Int),aZ K ρ H (ns.map Val.int) (ns.map V.int)
 | [] => aZ.nil
 | n :: ns => aZ.cons (by unfold Rl; rfl) (aZ.ints ns)
theorem Rl.cn {i:Int} {v:V} (h:Rl K ρ H (.int i) v):v = .int i:=by unfold Rl at h; exact h
theorem Rl.tw {b:Bool} {v:V} (h:Rl K ρ H (.bl b) v):v = .bl b:=by unfold Rl at h; exact h
theorem Rl.jd {x:Str} {v:V} (h:Rl K ρ H (.str x) v):v = .str x:=by unfold Rl at h; exact h
theorem Rl.oI {v:V} (h:Rl K ρ H .eR v):v = .eR:=by unfold Rl at h; exact h
theorem Rl.Kc {us:List Val} {v:V} (h:Rl K ρ H (.tup us) v):∃ a vs,v = .ref a ∧ H a = some (.tup vs) ∧ aZ K ρ H us vs:=by unfold Rl at h; exact h
theorem Rl.gR {us:List Val} {v:V} (h:Rl K ρ H (.tup us) v):∃ a vs,v = .ref a ∧ jQ K H a vs ∧ aZ K ρ H us vs:=let ⟨a,vs,h1,h2,h3⟩:=h.Kc; ⟨a,vs,h1,jQ.of h2,h3⟩
theorem Rl.Ti {us:List Val} {v:V} (h:Rl K ρ H (.mt us) v):∃ a vs,v = .ref a ∧ jQ K H a vs ∧ aZ K ρ H us vs:=by unfold Rl at h; exact h
theorem Rl.N2 {us:List Val} {a:Addr} {vs:List V} (h:jQ K H a vs) (r:aZ K ρ H us vs):Rl K ρ H (.mt us) (.ref a):=by unfold Rl; exact ⟨a,vs,rfl,h,r⟩
theorem Rl.fA {n:Nat} {v:V} (h:Rl K ρ H (.loc n) v):∃ a,v = .ref a ∧ ρ[n]? = some a:=by unfold Rl at h; exact h
theorem Rl.mkInt (i:Int):Rl K ρ H (.int i) (.int i):=by unfold Rl; rfl
theorem Rl.Au (b:Bool):Rl K ρ H (.bl b) (.bl b):=by unfold Rl; rfl
theorem Rl.mkStr (x:Str):Rl K ρ H (.str x) (.str x):=by unfold Rl; rfl
theorem Rl.xb:Rl K ρ H .eR .eR:=by unfold Rl; rfl
theorem Rl.t_ {us:List Val} {a:Addr} {vs:List V} (h:H a = some (.tup vs)) (r:aZ K ρ H us vs):Rl K ρ H (.tup us) (.ref a):=by unfold Rl; exact ⟨a,vs,rfl,h,r⟩
theorem Rl.Av {n:Nat} {a:Addr} (h:ρ[n]? = some a):Rl K ρ H (.loc n) (.ref a):=by unfold Rl; exact ⟨a,rfl,h⟩
end
noncomputable def hV {κ:Type} (K:PySem.W.Frag) (ρ:List Addr) (H:Hp) (aI:List (κ × Val)) (jL:List (κ × V)):Prop:=aI.map (·.1) = jL.map (·.1) ∧ aZ K ρ H (aI.map (·.2)) (jL.map (·.2))
noncomputable def iR:Option Cell → Bool
 | some (.mod _) => true
 | _ => false
noncomputable def N3 (K:PySem.W.Frag) (a:Addr) (vs:List V):Prop:=∃ (o:Obj) (aN:Array Value) (n:Nat),K.lookup a = some o ∧ o.cls = .type "list" ∧ o.dict = none ∧ o.data = .seq aN n ∧ aN.size ≤ sizeLine ∧ Vals vs aN.toList
noncomputable def eV (K:PySem.W.Frag) (ρ:List Addr) (H:Hp):Cell → Addr → Prop
 | .lst us,a => ∃ vs,H a = some (.lst vs) ∧ aZ K ρ H us vs
 | .Fc us,a => ∃ o vs,H a = some (.fQ o (.lst vs)) ∧ aZ K ρ H us vs
 | .mod us,a => ∃ vs,N3 K a vs ∧ aZ K ρ H us vs
 | .dK aI,a => ∃ jL,H a = some (.dK jL) ∧ hV K ρ H aI jL
 | .dT aI,a => ∃ jL,H a = some (.dT jL) ∧ hV K ρ H aI jL
 | .tab x l c q,a => (∃ cd,PySem.W.tabIn K x = some (cd,a)) ∧ Tab H a l c q
structure SR (K:PySem.W.Frag) (ρ:List Addr) (st:ah) (H:Hp):Prop where
 len:ρ.length = st.length
 nd:∀ (n m:Nat) a,ρ[n]? = some a → ρ[m]? = some a → iR st[n]? = false → iR st[m]? = false → n = m
 cell:∀ (n:Nat) c a,st[n]? = some c → ρ[n]? = some a → eV K ρ H c a
theorem ff {α:Type} {l:List α} {n:Nat} {x:α} (h:l[n]? = some x):n < l.length:=by
 rcases Nat.lt_or_ge n l.length with q | q
 ·exact q
 ·rw [List.getElem?_eq_none q] at h; cases h
section
variable {K:PySem.W.Frag} {ρ ρ':List Addr} {H H':Hp} {st:ah}
theorem eV.there {c:Cell} {a:Addr} (h:eV K ρ H c a) (hn:iR (some c) = false):∃ o,H a = some o ∧ ∀ xs,o ≠ .tup xs:=by
 cases c with
 | lst us => obtain ⟨vs,h,_⟩:=h; exact ⟨_,h,fun xs e => by cases e⟩
 | Fc us => obtain ⟨o,vs,h,_⟩:=h; exact ⟨_,h,fun xs e => by cases e⟩
 | mod us => cases hn
 | dK aI => obtain ⟨vs,h,_⟩:=h; exact ⟨_,h,fun xs e => by cases e⟩
 | dT aI => obtain ⟨vs,h,_⟩:=h; exact ⟨_,h,fun xs e => by cases e⟩
 | tab x l c q => rcases h.2 with h | ⟨_,_,_,_,h,_⟩ <;> exact ⟨_,h,fun xs e => by cases e⟩
theorem eV.mono {c:Cell} {a:Addr} (h:eV K ρ H c a) (e:Step ρ H ρ' H') (ha:iR (some c) = true ∨ H' a = H a):eV K ρ' H' c a:=by
 cases c with
 | mod us => obtain ⟨vs,h,r⟩:=h; exact ⟨vs,h,aZ.mono e _ _ r⟩
 | lst us => rcases ha with ha | ha <;> first | cases ha; done | (obtain ⟨vs,h,r⟩:=h; exact ⟨vs,ha.trans h,aZ.mono e _ _ r⟩)
 | Fc us => rcases ha with ha | ha <;> first | cases ha; done | (obtain ⟨o,vs,h,r⟩:=h; exact ⟨o,vs,ha.trans h,aZ.mono e _ _ r⟩)
 | dK aI => rcases ha with ha | ha <;> first | cases ha; done | (obtain ⟨vs,h,r⟩:=h; exact ⟨vs,ha.trans h,r.1,aZ.mono e _ _ r.2⟩)
 | dT aI => rcases ha with ha | ha <;> first | cases ha; done | (obtain ⟨vs,h,r⟩:=h; exact ⟨vs,ha.trans h,r.1,aZ.mono e _ _ r.2⟩)
 | tab x l c q =>
  refine ⟨h.1,?_⟩
  rcases ha with ha | ha
  ·cases ha
  ·rcases h.2 with h | ⟨c',oc,vs,t,h,h2,h3⟩
   ·exact .inl (ha.trans h)
   ·exact .inr ⟨c',oc,vs,t,ha.trans h,e.fQ _ _ _ h2,h3⟩
theorem eV.grow {c:Cell} {a:Addr} (h:eV K ρ H c a) (e:Step ρ H ρ' H') (s:jW H H'):eV K ρ' H' c a:=by
 cases z:iR (some c) with
 | true => exact h.mono e (.inl z)
 | false =>
  obtain ⟨o,ho,_⟩:=h.there z
  exact h.mono e (.inr (by rw [ho]; exact s _ _ ho))
theorem SR.there (s:SR K ρ st H) {n:Nat} {a:Addr} (h:ρ[n]? = some a):∃ c,st[n]? = some c ∧ eV K ρ H c a:=by
 have hn:=ff h
 have CF:n < st.length:=by rw [← s.len]; exact hn
 exact ⟨st[n],List.getElem?_eq_getElem CF,s.cell n _ a (List.getElem?_eq_getElem CF) h⟩
theorem SR.addr (s:SR K ρ st H) {n:Nat} {c:Cell} (h:st[n]? = some c):∃ a,ρ[n]? = some a ∧ eV K ρ H c a:=by
 have hn:=ff h
 have CF:n < ρ.length:=by rw [s.len]; exact hn
 exact ⟨ρ[n],List.getElem?_eq_getElem CF,s.cell n c _ h (List.getElem?_eq_getElem CF)⟩
theorem SR.grow (s:SR K ρ st H) (e:jW H H'):SR K ρ st H' :=
 ⟨s.len,s.nd,fun n c a h1 h2 => (s.cell n c a h1 h2).grow (Step.same e) e⟩
theorem SR.Fd (s:SR K ρ st H) {p:Addr} (hp:H p = none) {n:Nat} (h:ρ[n]? = some p) (hm:iR st[n]? = false):False:=by
 obtain ⟨c,hc,k⟩:=s.there h
 rw [hc] at hm
 obtain ⟨o,ho,_⟩:=k.there hm
 rw [hp] at ho
 cases ho
theorem d6 {p:Addr} {o:HO} (hp:H p = none):jW H (upd H p o):=jW.upd (jW.refl H) hp
theorem SR.alloc (s:SR K ρ st H) {p:Addr} {o:HO} {c:Cell} (hp:H p = none) (k:eV K (ρ ++ [p]) (upd H p o) c p):SR K (ρ ++ [p]) (st ++ [c]) (upd H p o):=by
 have e:jW H (upd H p o):=d6 hp
 have at_:∀ (n:Nat) (a:Addr),(ρ ++ [p])[n]? = some a → (n < st.length ∧ ρ[n]? = some a ∧ (st ++ [c])[n]? = st[n]?) ∨ (n = st.length ∧ a = p ∧ (st ++ [c])[n]? = some c):=by
  intro n a h
  rcases Nat.lt_trichotomy n st.length with q | q | q
  ·rw [List.getElem?_append_left (by rw [s.len]; exact q)] at h
   exact .inl ⟨q,h,List.getElem?_append_left q⟩
  ·subst q
   rw [List.getElem?_append_right (by rw [s.len]; exact Nat.le_refl _),s.len,Nat.sub_self] at h
   cases h
   refine .inr ⟨rfl,rfl,?_⟩
   rw [List.getElem?_append_right (Nat.le_refl _),Nat.sub_self]; rfl
  ·rw [List.getElem?_eq_none (by rw [List.length_append,List.length_singleton,s.len]; lia)] at h
   cases h
 refine ⟨by rw [List.length_append,List.length_append,s.len]; rfl,fun n m a h1 h2 m1 m2 => ?_,fun n c' a h1 h2 => ?_⟩
 ·rcases at_ n a h1 with ⟨q1,q2,q3⟩ | ⟨q1,q2,q3⟩ <;> rcases at_ m a h2 with ⟨r1,r2,r3⟩ | ⟨r1,r2,r3⟩
  ·rw [q3] at m1; rw [r3] at m2; exact s.nd n m a q2 r2 m1 m2
  ·subst r2; rw [q3] at m1; exact (s.Fd hp q2 m1).elim
  ·subst q2; rw [r3] at m2; exact (s.Fd hp r2 m2).elim
  ·rw [q1,r1]
 ·rcases at_ n a h2 with ⟨q1,q2,q3⟩ | ⟨q1,q2,q3⟩
  ·rw [q3] at h1
   exact (s.cell n c' a h1 q2).grow (Step.snoc p e) e
  ·rw [q3] at h1
   cases h1
   subst q2
   exact k
theorem Step.put {a:Addr} {o o':HO} (h:H a = some o) (h1:∀ xs,o ≠ .tup xs) (h2:∀ x u,o ≠ .fQ x u):Step ρ H ρ (upd H a o'):=by
 refine ⟨List.prefix_refl ρ,fun b xs e => ?_,fun b x u e => ?_⟩
 ·rw [aE (fun z => ?_)]
  ·exact e
  ·subst z; rw [h] at e; exact h1 _ (Option.some.inj e)
 ·rw [aE (fun z => ?_)]
  ·exact e
  ·subst z; rw [h] at e; exact h2 _ _ (Option.some.inj e)
theorem SR.set (s:SR K ρ st H) {n:Nat} {a:Addr} {o o':HO} {c c':Cell} (h:st[n]? = some c) (hc:iR (some c) = false) (eO:iR (some c') = false) (ha:ρ[n]? = some a) (ho:H a = some o) (h1:∀ xs,o ≠ .tup xs) (h2:∀ x u,o ≠ .fQ x u)
  (k:eV K ρ (upd H a o') c' a):SR K ρ (st.set n c') (upd H a o'):=by
 have hn:n < st.length:=ff h
 have at_:∀ (m:Nat),iR (st.set n c')[m]? = iR st[m]?:=fun m => by
  by_cases z:m = n
  ·subst z; rw [List.getElem?_set_self hn,h,hc,eO]
  ·rw [List.getElem?_set_ne (fun y => z y.symm)]
 refine ⟨by rw [List.length_set]; exact s.len,fun i m b q1 q2 m1 m2 => s.nd i m b q1 q2 (by rw [← at_]; exact m1) (by rw [← at_]; exact m2),fun m d b q1 q2 => ?_⟩
 by_cases z:m = n
 ·subst z
  rw [ha] at q2
  cases q2
  rw [List.getElem?_set_self hn] at q1
  cases q1
  exact k
 ·rw [List.getElem?_set_ne (fun y => z y.symm)] at q1
  have kb:=s.cell m d b q1 q2
  cases zm:iR (some d) with
  | true => exact kb.mono (Step.put ho h1 h2) (.inl zm)
  | false =>
   have hb:b ≠ a:=fun y => z (s.nd m n a (by rw [← y]; exact q2) ha (by rw [q1]; exact zm) (by rw [h]; exact hc))
   exact kb.mono (Step.put ho h1 h2) (.inr (aE hb))
end
noncomputable def ud (W:Wo) (ρ:List Addr) (H:Hp) (u:Val) (v:V):Prop:=match u with
 | .exc c => ∃ a oe C,v = .ref a ∧ (a,oe) ∈ W.pn ∧ W.mg c = some (.ref C) ∧ oe.cls = .ref C
 | .fn L u => ∃ f c c' cv,v = .ref f ∧ yu L H f c c' cv ∧ Rl W.K ρ H u cv
 | u => Rl W.K ρ H u v
theorem ud.mono {W:Wo} {ρ ρ':List Addr} {H H':Hp} {u:Val} {v:V} (h:ud W ρ H u v) (e:Step ρ H ρ' H'):ud W ρ' H' u v:=by
 cases u with
 | exc c => exact h
 | fn L u => obtain ⟨f,c,c',cv,h1,C,r⟩:=h; exact ⟨f,c,c',cv,h1,C.mono (fun b o u q => e.fQ b o u q),Rl.mono e _ _ r⟩
 | _ => exact Rl.mono e _ _ h
theorem ud.of {W:Wo} {ρ:List Addr} {H:Hp} {u:Val} {v:V} (h:Rl W.K ρ H u v):ud W ρ H u v:=by
 cases u with
 | exc c => unfold Rl at h; exact h.elim
 | fn L u => unfold Rl at h; exact h.elim
 | _ => exact h
structure RS (W:Wo) (ρ:List Addr) (H:Hp) (μ:Env) (σ:St):Prop where
 len:μ.length = σ.length
 at_:∀ (i:Nat) u,μ[i]? = some (some u) → ∃ v,σ[i]? = some (some v) ∧ ud W ρ H u v
section
variable {W:Wo} {ρ ρ':List Addr} {H H':Hp} {μ:Env} {σ:St}
theorem RS.mono (r:RS W ρ H μ σ) (e:Step ρ H ρ' H'):RS W ρ' H' μ σ:=⟨r.len,fun i u h => let ⟨v,h1,h2⟩:=r.at_ i u h; ⟨v,h1,h2.mono e⟩⟩
theorem RS.Kd (r:RS W ρ H μ σ) (i:Nat) {u:Val} {v:V} (h:ud W ρ H u v):RS W ρ H (μ.set i (some u)) (σ.set i (some v)):=by
 refine ⟨by rw [List.length_set,List.length_set]; exact r.len,fun j w e => ?_⟩
 by_cases z:j = i
 ·subst z
  have hj:=ff e
  rw [List.length_set] at hj
  rw [List.getElem?_set_self hj] at e
  cases e
  exact ⟨v,List.getElem?_set_self (by rw [← r.len]; exact hj),h⟩
 ·rw [List.getElem?_set_ne (fun y => z y.symm)] at e ⊢
  exact r.at_ j w e
theorem RS.set (r:RS W ρ H μ σ) (i:Nat) {u:Val} {v:V} (h:Rl W.K ρ H u v):RS W ρ H (μ.set i (some u)) (σ.set i (some v)):=r.Kd i (ud.of h)
end
end MN
namespace MN
open PySem PySem.Spec L2
open PyProof.Rows hiding St
noncomputable abbrev ME:=Env → ah → Res Val
noncomputable abbrev MT:=Env → ah → Res Bool
noncomputable abbrev MA:=Env → ah → Res (List Val)
noncomputable abbrev MB:=Env → ah → bB
noncomputable def wR {α β:Type} (W:Wo) (E:XK) (R:List Addr → Hp → α → β → Prop) (ρ:List Addr) (H:Hp) (Q:β → Hp → Prop):Res α → Prop
 | .ok u av => ∀ ρ' H' v,Step ρ H ρ' H' → SR W.K ρ' av H' → R ρ' H' u v → Q v H'
 | .err c av => ∃ C,W.mg c = some (.ref C) ∧ ∀ ρ' H',Step ρ H ρ' H' → SR W.K ρ' av H' → E (.ref C) none H'
 | .bad => False
theorem wR.mono {α β:Type} {W:Wo} {E:XK} {R:List Addr → Hp → α → β → Prop} {ρ ρ':List Addr} {H H':Hp} {Q:β → Hp → Prop} {r:Res α} (h:wR W E R ρ H Q r) (e:Step ρ H ρ' H'):wR W E R ρ' H' Q r:=by
 cases r with
 | ok u st => exact fun ρ2 H2 v e2 s r => h ρ2 H2 v (e.trans e2) s r
 | err c st => obtain ⟨C,h1,h2⟩:=h; exact ⟨C,h1,fun ρ2 H2 e2 s => h2 ρ2 H2 (e.trans e2) s⟩
 | bad => exact h
theorem wR.pn {α β:Type} {K:PySem.W.Frag} {mg:Str → Option Value} {pn G9:List (Addr × Obj)} {E:XK} {R:List Addr → Hp → α → β → Prop} {ρ:List Addr} {H:Hp} {Q:β → Hp → Prop} {r:Res α} (h:wR ⟨K,mg,pn⟩ E R ρ H Q r):wR ⟨K,mg,G9⟩ E R ρ H Q r:=by
 cases r <;> exact h
noncomputable def tG {α β:Type} (W:Wo) (E:XK) (R:List Addr → Hp → α → β → Prop) (m:Env → ah → Res α):St → Hp → (β → Hp → Prop) → Prop :=
 fun σ H Q => ∃ μ ρ st,RS W ρ H μ σ ∧ SR W.K ρ st H ∧ wR W E R ρ H Q (m μ st)
noncomputable abbrev RB:List Addr → Hp → Bool → Bool → Prop:=fun _ _ b c => c = b
noncomputable abbrev tE (X:Cx) (E:XK) (m:ME):TE:=tG (wo X) E (Rl X.K) m
noncomputable abbrev tT (X:Cx) (E:XK) (m:MT):TT:=tG (wo X) E RB m
noncomputable abbrev tL (X:Cx) (E:XK) (m:MA):TA:=tG (wo X) E (aZ X.K) m
theorem go {α β γ δ:Type} {W:Wo} {E:XK} {R1:List Addr → Hp → α → β → Prop} {R2:List Addr → Hp → γ → δ → Prop} {m:Env → ah → Res α} {k:α → ah → Res γ} {σ:St} {H:Hp} {Q:δ → Hp → Prop} {Q':β → Hp → Prop}
  (μ:Env) (ρ:List Addr) (st:ah) (rs:RS W ρ H μ σ) (sr:SR W.K ρ st H) (h:wR W E R2 ρ H Q ((m μ st).bind k))
  (c:∀ u aQ ρ1 H1 x,Step ρ H ρ1 H1 → SR W.K ρ1 aQ H1 → R1 ρ1 H1 u x → wR W E R2 ρ1 H1 Q (k u aQ) → Q' x H1):tG W E R1 m σ H Q':=by
 refine ⟨μ,ρ,st,rs,sr,?_⟩
 cases e:m μ st with
 | ok u aQ =>
  rw [e] at h
  intro ρ1 H1 x e1 bU r1
  exact c u aQ ρ1 H1 x e1 bU r1 (wR.mono h e1)
 | err c aQ => rw [e] at h; exact h
 | bad => rw [e] at h; exact h
section
variable {X:Cx}
theorem PE.imp {e:Expr} {t t':TE} (h:PE X e t) (k:∀ σ H Q,t' σ H Q → t σ H Q):PE X e t':=fun pins s σ H Q I q => h pins s σ H Q I (k σ H Q q)
theorem PT.imp {e:Expr} {t t':TT} (h:PT X e t) (k:∀ σ H Q,t' σ H Q → t σ H Q):PT X e t':=fun pins s σ H Q I q => h pins s σ H Q I (k σ H Q q)
theorem PW.imp {e:Expr} {t t':TT} (h:PW X e t) (k:∀ σ H Q,t' σ H Q → t σ H Q):PW X e t':=fun w pins s σ H Q I q => h w pins s σ H Q I (k σ H Q q)
theorem PA.imp {e:List Expr} {t t':TA} (h:PA X e t) (k:∀ σ H Q,t' σ H Q → t σ H Q):PA X e t':=fun p pins s σ H Q I q => h p pins s σ H Q I (k σ H Q q)
theorem PS.imp {e:Stmt} {t t':TS} (h:PS X e t) (k:∀ D σ H,t' D σ H → t D σ H):PS X e t':=fun pins s σ H D I q => h pins s σ H D I (k D σ H q)
theorem ja.imp {e:List Stmt} {t t':TS} (h:ja X e t) (k:∀ D σ H,t' D σ H → t D σ H):ja X e t':=fun pins s σ H D I q => h pins s σ H D I (k D σ H q)
theorem PG.imp {e:Expr} {t t':TG} (h:PG X e t) (k:∀ v σ H Q,t' v σ H Q → t v σ H Q):PG X e t':=fun pins s σ H v u Q I r q => h pins s σ H v u Q I r (k v σ H Q q)
theorem eQ.imp {f:Value → Value → Sem Value} {t t':R2} (h:eQ X f t) (k:∀ x y H Q,t' x y H Q → t x y H Q):eQ X f t':=fun pins s σ H x y v u Q I rx ry q => h pins s σ H x y v u Q I rx ry (k x y H Q q)
theorem cJ.imp {f:Value} {t t':List V → Hp → VK → Prop} (h:cJ X f t) (k:∀ xs H Q,t' xs H Q → t xs H Q):cJ X f t':=fun pins s σ H xs us Q I r q => h pins s σ H xs us Q I r (k xs H Q q)
theorem vq.imp {t t':R2} (h:vq X t) (k:∀ x y H Q,t' x y H Q → t x y H Q):vq X t':=fun va sl pins s σ H x y v u Q I rx ry q e => h va sl pins s σ H x y v u Q I rx ry (k x y H Q q) e
end
noncomputable def Ke:Val → Bool
 | .exc _ => true
 | .fn _ _ => true
 | _ => false
noncomputable def aa (i:Nat):ME:=fun μ st => match μ[i]? with
 | some (some v) => if Ke v = true then .bad else .ok v st
 | _ => .bad
theorem ud.un {W:Wo} {ρ:List Addr} {H:Hp} {u:Val} {v:V} (h:ud W ρ H u v) (n:¬ Ke u = true):Rl W.K ρ H u v:=by
 cases u with
 | exc c => exact absurd rfl n
 | fn L u => exact absurd rfl n
 | _ => exact h
noncomputable def mC (v:Val):ME:=fun _ st => .ok v st
section
variable {X:Cx} {E:XK} {pos:Pos}
theorem af (i:Nat) {x:Str} (hN:X.N[i]? = some x:=by rfl) (hv:FL X.env.scope x:=by first | exact Or.inl rfl | exact Or.inr (Or.inl rfl) | exact Or.inr (Or.inr rfl)) (hd:(x == ("__debug__":Str)) = false:=by decide)
  (mU:(x == ("__classdict__":Str)) = false:=by decide):PE X (.Name x pos) (tE X E (aa i)):=by
 refine PE.imp (zJ hN hv hd mU) ?_
 rintro σ H Q ⟨μ,ρ,st,rs,sr,h⟩
 unfold aa at h
 split at h
 ·rename_i v e
  obtain ⟨w,e',r⟩:=rs.at_ i v e
  split at h
  ·exact h.elim
  ·rename_i n
   exact ⟨w,e',h ρ H w (Step.refl _ _) sr (r.un n)⟩
 ·exact h.elim
theorem xc {e:Expr} {v:V} {c:Val} (h:PE X e (tC v)) (r:∀ ρ H,Rl X.K ρ H c v):PE X e (tE X E (mC c)):=by
 refine PE.imp h ?_
 rintro σ H Q ⟨μ,ρ,st,rs,sr,h⟩
 exact h ρ H v (Step.refl _ _) sr (r ρ H)
theorem au {i j}:PE X (.Constant (.int i) j pos) (tE X E (mC (.int i))):=xc FQ fun _ _ => Rl.mkInt i
theorem kr {b j}:PE X (.Constant (.bool b) j pos) (tE X E (mC (.bl b))):=xc ES fun _ _ => Rl.Au b
theorem G_ {x j}:PE X (.Constant (.str x) j pos) (tE X E (mC (.str x))):=xc FR fun _ _ => Rl.mkStr x
structure Glob (K:PySem.W.Frag) (mg:Str → Option Value) (x:Str) (c:Val):Prop where
 at_:∃ (u:Value) (v:V),mg x = some u ∧ RelV v u ∧ ∀ ρ H,Rl K ρ H c v
theorem r_ {x:Str} {c:Val} (hg:Gl X x) (h:Glob X.K X.mg x c) (hd:(x == ("__debug__":Str)) = false:=by decide):PE X (.Name x pos) (tE X E (mC c)):=by
 obtain ⟨u,v,h1,h2,h3⟩:=h.at_
 exact xc (wN hg h1 h2 hd) h3
end
noncomputable abbrev F2:=Val → Val → ah → Res Val
noncomputable def rM (W:Wo) (E:XK) (f:F2):R2:=fun x y H Q => ∃ ρ st u w,SR W.K ρ st H ∧ Rl W.K ρ H u x ∧ Rl W.K ρ H w y ∧ wR W E (Rl W.K) ρ H Q (f u w st)
noncomputable def ai (f:F2) (a b:ME):ME:=fun μ st => (a μ st).bind fun x aQ => (b μ aQ).bind fun y cI => f x y cI
section
variable {X:Cx} {E:XK} {pos:Pos} {a b c:Expr} {ma mb mc:ME} {f g:F2}
theorem ku {σ:St} {H:Hp} {Q:VK} (h:tE X E (ai f ma mb) σ H Q):IG (rM (wo X) E f) (tE X E ma) (tE X E mb) σ H Q:=by
 obtain ⟨μ,ρ,st,rs,sr,h⟩:=h
 refine go μ ρ st rs sr h fun u aQ ρ1 H1 x e1 bU r1 h1 => ?_
 refine go μ ρ1 aQ (rs.mono e1) bU h1 fun w cI ρ2 H2 y e2 qE r2 h2 => ?_
 exact ⟨ρ2,cI,u,w,qE,Rl.mono e2 _ _ r1,r2,h2⟩
theorem ay {op:Operator} (ho:eQ X (binaryOp op) (rM (wo X) E f)) (ha:PE X a (tE X E ma)) (hb:PE X b (tE X E mb)):PE X (.BinOp a op b pos) (tE X E (ai f ma mb)) :=
 PE.imp (Jv ho ha hb) fun _ _ _ h => ku h
theorem vP {op:CmpOp} (ho:eQ X (compareOp op) (rM (wo X) E f)) (ha:PE X a (tE X E ma)) (hb:PE X b (tE X E mb)) (hm:behindInMarks op b = false:=by first | exact zR _ | (with_unfolding_all rfl)):PE X (.Compare a [op] [b] pos) (tE X E (ai f ma mb)) :=
 PE.imp (CP ho ha hb hm) fun _ _ _ h => ku h
noncomputable def b_ (m:ME):MT:=fun μ st => (m μ st).bind fun v av => match v with
 | .bl b => .ok b av
 | _ => .bad
theorem uf {m:ME} {σ:St} {H:Hp} {Q:Bool → Hp → Prop} (h:tT X E (b_ m) σ H Q):tE X E m σ H fun x H' => ∃ k,x = .bl k ∧ Q k H':=by
 obtain ⟨μ,ρ,st,rs,sr,h⟩:=h
 refine go μ ρ st rs sr h fun u aQ ρ1 H1 x e1 bU r1 h1 => ?_
 cases u with
 | bl b => exact ⟨b,r1.tw,h1 ρ1 H1 b (Step.refl _ _) bU rfl⟩
 | _ => exact h1.elim
theorem bE {op:CmpOp} (ho:eQ X (compareOp op) (rM (wo X) E f)) (ha:PE X a (tE X E ma)) (hb:PE X b (tE X E mb)) (hm:behindInMarks op b = false:=by first | exact zR _ | (with_unfolding_all rfl)):PT X (.Compare a [op] [b] pos) (tT X E (b_ (ai f ma mb))) :=
 PT.imp (CQ ho ha hb hm) fun σ H Q h => by
  show IG (rM (wo X) E f) (tE X E ma) (tE X E mb) σ H _
  exact ku (uf h)
theorem gS {m:ME} (h:PE X a (tE X E m)) (he:∀ whole,isTrue a X.env whole = (do let v ← whole; standAt a.pos; holding [v] (truthy v)):=by intro _; rfl):PT X a (tT X E (b_ m)) :=
 PT.imp (FT h he) fun σ H Q h => uf h
noncomputable def N4 (f g:F2) (a b c:ME):ME:=fun μ st => (a μ st).bind fun x aQ => (b μ aQ).bind fun y cI => (f x y cI).bind fun z lu => match z with
 | .bl true => (c μ lu).bind fun w lH => g y w lH
 | .bl false => .ok (.bl false) lu
 | _ => .bad
noncomputable def ug (a b:ME):ME:=fun μ st => (a μ st).bind fun x aQ => match x with
 | .bl true => b μ aQ
 | .bl false => .ok (.bl false) aQ
 | _ => .bad
noncomputable def N5 (a b:ME):ME:=fun μ st => (a μ st).bind fun x aQ => match x with
 | .bl true => .ok (.bl true) aQ
 | .bl false => b μ aQ
 | _ => .bad
noncomputable def Aw (a:ME):ME:=fun μ st => (a μ st).bind fun x aQ => match x with
 | .bl b => .ok (.bl (!b)) aQ
 | _ => .bad
noncomputable def gK (a b:MT):MT:=fun μ st => (a μ st).bind fun x aQ => match x with
 | true => b μ aQ
 | false => .ok false aQ
noncomputable def iZ (a b:MT):MT:=fun μ st => (a μ st).bind fun x aQ => match x with
 | true => .ok true aQ
 | false => b μ aQ
noncomputable def dB (a:MT):MT:=fun μ st => (a μ st).bind fun x aQ => .ok (!x) aQ
noncomputable def N6 (t:MT) (a b:ME):ME:=fun μ st => (t μ st).bind fun x aQ => match x with
 | true => a μ aQ
 | false => b μ aQ
variable {rest:List Expr} {tA CG:MT}
theorem lI {op} {m:ME} (h:PE X a (tE X E m)):PE X (.BoolOp op [a] pos) (tE X E m):=FX h
theorem oJ (ha:PE X a (tE X E ma)) (hb:PE X (.BoolOp .And (b :: rest) pos) (tE X E mb)):PE X (.BoolOp .And (a :: b :: rest) pos) (tE X E (ug ma mb)):=by
 refine PE.imp (FY ha hb) ?_
 rintro σ H Q ⟨μ,ρ,st,rs,sr,h⟩
 refine go μ ρ st rs sr h fun u aQ ρ1 H1 x e1 bU r1 h1 => ?_
 cases u with
 | bl k =>
  refine ⟨k,r1.tw,?_⟩
  cases k with
  | true => rw [if_pos rfl]; exact ⟨μ,ρ1,aQ,rs.mono e1,bU,h1⟩
  | false => rw [if_neg Bool.false_ne_true]; exact h1 ρ1 H1 _ (Step.refl _ _) bU (Rl.Au false)
 | _ => exact h1.elim
theorem Kf (ha:PE X a (tE X E ma)) (hb:PE X (.BoolOp .Or (b :: rest) pos) (tE X E mb)):PE X (.BoolOp .Or (a :: b :: rest) pos) (tE X E (N5 ma mb)):=by
 refine PE.imp (Jj ha hb) ?_
 rintro σ H Q ⟨μ,ρ,st,rs,sr,h⟩
 refine go μ ρ st rs sr h fun u aQ ρ1 H1 x e1 bU r1 h1 => ?_
 cases u with
 | bl k =>
  refine ⟨k,r1.tw,?_⟩
  cases k with
  | true => rw [if_pos rfl]; exact h1 ρ1 H1 _ (Step.refl _ _) bU (Rl.Au true)
  | false => rw [if_neg Bool.false_ne_true]; exact ⟨μ,ρ1,aQ,rs.mono e1,bU,h1⟩
 | _ => exact h1.elim
theorem vQ (ha:PE X a (tE X E ma)):PE X (.UnaryOp .Not a pos) (tE X E (Aw ma)):=by
 refine PE.imp (FZ ha) ?_
 rintro σ H Q ⟨μ,ρ,st,rs,sr,h⟩
 refine go μ ρ st rs sr h fun u aQ ρ1 H1 x e1 bU r1 h1 => ?_
 cases u with
 | bl k => exact ⟨k,r1.tw,h1 ρ1 H1 _ (Step.refl _ _) bU (Rl.Au _)⟩
 | _ => exact h1.elim
theorem nS (ha:PT X a (tT X E tA)):PW X (.BoolOp .And [a] pos) (tT X E tA):=CH ha
theorem oK (ha:PT X a (tT X E tA)):PW X (.BoolOp .Or [a] pos) (tT X E tA):=FU ha
theorem sd (ha:PT X a (tT X E tA)) (hb:PW X (.BoolOp .And (b :: rest) pos) (tT X E CG)):PW X (.BoolOp .And (a :: b :: rest) pos) (tT X E (gK tA CG)):=by
 refine PW.imp (FV ha hb) ?_
 rintro σ H Q ⟨μ,ρ,st,rs,sr,h⟩
 refine go (R1:=RB) μ ρ st rs sr h fun u aQ ρ1 H1 x e1 bU r1 h1 => ?_
 cases r1
 cases u with
 | true => rw [if_pos rfl]; exact ⟨μ,ρ1,aQ,rs.mono e1,bU,h1⟩
 | false => rw [if_neg Bool.false_ne_true]; exact h1 ρ1 H1 _ (Step.refl _ _) bU rfl
theorem qF (ha:PT X a (tT X E tA)) (hb:PW X (.BoolOp .Or (b :: rest) pos) (tT X E CG)):PW X (.BoolOp .Or (a :: b :: rest) pos) (tT X E (iZ tA CG)):=by
 refine PW.imp (Jg ha hb) ?_
 rintro σ H Q ⟨μ,ρ,st,rs,sr,h⟩
 refine go (R1:=RB) μ ρ st rs sr h fun u aQ ρ1 H1 x e1 bU r1 h1 => ?_
 cases r1
 cases u with
 | true => rw [if_pos rfl]; exact h1 ρ1 H1 _ (Step.refl _ _) bU rfl
 | false => rw [if_neg Bool.false_ne_true]; exact ⟨μ,ρ1,aQ,rs.mono e1,bU,h1⟩
theorem sf {e:Expr} {t:MT} (h:PW X e (tT X E t)):PT X e (tT X E t):=h.pt
theorem iD (ha:PT X a (tT X E tA)):PT X (.UnaryOp .Not a pos) (tT X E (dB tA)):=by
 refine PT.imp (FW ha) ?_
 rintro σ H Q ⟨μ,ρ,st,rs,sr,h⟩
 refine go (R1:=RB) μ ρ st rs sr h fun u aQ ρ1 H1 x e1 bU r1 h1 => ?_
 cases r1
 exact h1 ρ1 H1 _ (Step.refl _ _) bU rfl
theorem Kg (hc:PT X c (tT X E tA)) (ha:PE X a (tE X E ma)) (hb:PE X b (tE X E mb)):PE X (.IfExp c a b pos) (tE X E (N6 tA ma mb)):=by
 refine PE.imp (zK hc ha hb) ?_
 rintro σ H Q ⟨μ,ρ,st,rs,sr,h⟩
 refine go (R1:=RB) μ ρ st rs sr h fun u aQ ρ1 H1 x e1 bU r1 h1 => ?_
 cases r1
 cases u with
 | true => rw [if_pos rfl]; exact ⟨μ,ρ1,aQ,rs.mono e1,bU,h1⟩
 | false => rw [if_neg Bool.false_ne_true]; exact ⟨μ,ρ1,aQ,rs.mono e1,bU,h1⟩
end
noncomputable def ak:MA:=fun _ st => .ok [] st
noncomputable def ae (a:ME) (r:MA):MA:=fun μ st => (a μ st).bind fun x aQ => (r μ aQ).bind fun xs cI => .ok (x :: xs) cI
noncomputable def gH (a:MA):ME:=fun μ st => (a μ st).bind fun xs aQ => if xs.length ≤ sizeLine then .ok (.tup xs) aQ else .bad
noncomputable def fK (a:MA):ME:=fun μ st => (a μ st).bind fun xs aQ => if xs.length ≤ sizeLine then .ok (.loc aQ.length) (aQ ++ [.lst xs]) else .bad
noncomputable abbrev FN:=List Val → ah → Res Val
noncomputable def aq (f:FN) (a:MA):ME:=fun μ st => (a μ st).bind fun xs aQ => f xs aQ
noncomputable def Fe (W:Wo) (f:FN):Sp:=fun vs H Q E => ∃ us ρ st,aZ W.K ρ H us vs ∧ SR W.K ρ st H ∧ wR W E (Rl W.K) ρ H Q (f us st)
noncomputable def cM (W:Wo) (E:XK) (f:FN):List V → Hp → VK → Prop:=fun xs H Q => ∃ ρ st us,SR W.K ρ st H ∧ aZ W.K ρ H us xs ∧ wR W E (Rl W.K) ρ H Q (f us st)
section
variable {X:Cx} {E:XK} {pos p:Pos} {e:Expr} {es:List Expr} {m:ME} {ms:MA} {f:FN} {x:Str}
theorem ax:PA X [] (tL X E ak):=PA.imp rH fun σ H Q ⟨μ,ρ,st,rs,sr,h⟩ => h ρ H [] (Step.refl _ _) sr aZ.nil
theorem aj (ha:PE X e (tE X E m)) (hr:PA X es (tL X E ms)) (hs:starEach (e :: es) X.env = (false,eval e X.env) :: starEach es X.env:=by rfl):PA X (e :: es) (tL X E (ae m ms)):=by
 refine PA.imp (iA ha hr hs) ?_
 rintro σ H Q ⟨μ,ρ,st,rs,sr,h⟩
 refine go μ ρ st rs sr h fun u aQ ρ1 H1 x e1 bU r1 h1 => ?_
 refine go (R1:=aZ X.K) μ ρ1 aQ (rs.mono e1) bU h1 fun w cI ρ2 H2 y e2 qE r2 h2 => ?_
 exact h2 ρ2 H2 _ (Step.refl _ _) qE (aZ.cons (Rl.mono e2 _ _ r1) r2)
theorem lJ {k} (h:PA X es (tL X E ms)):PE X (.Tuple es k pos) (tE X E (gH ms)):=by
 refine PE.imp (Gq h) ?_
 rintro σ H Q ⟨μ,ρ,st,rs,sr,h⟩
 refine go (R1:=aZ X.K) μ ρ st rs sr h fun us aQ ρ1 H1 xs e1 bU r1 h1 => ?_
 by_cases hz:us.length ≤ sizeLine
 ·rw [if_pos hz] at h1
  refine ⟨by rw [← r1.length]; exact hz,fun p hp => ?_⟩
  have s:=d6 (o:=.tup xs) hp
  exact h1 ρ1 _ _ (Step.same s) (bU.grow s) (Rl.t_ bw (aZ.mono (Step.same s) _ _ r1))
 ·rw [if_neg hz] at h1; exact h1.elim
theorem iE {K:PySem.W.Frag} {ρ:List Addr} {st:ah} {H:Hp} {us:List Val} {xs:List V} (sr:SR K ρ st H) (r:aZ K ρ H us xs) {p:Addr} (hp:H p = none) :
  Step ρ H (ρ ++ [p]) (upd H p (.lst xs)) ∧ SR K (ρ ++ [p]) (st ++ [.lst us]) (upd H p (.lst xs)) ∧ Rl K (ρ ++ [p]) (upd H p (.lst xs)) (.loc st.length) (.ref p):=by
 have s:=d6 (o:=.lst xs) hp
 refine ⟨Step.snoc p s,sr.alloc hp ⟨xs,bw,aZ.mono (Step.snoc p s) _ _ r⟩,Rl.Av ?_⟩
 rw [← sr.len,List.getElem?_append_right (Nat.le_refl _),Nat.sub_self]
 rfl
theorem je (h:PA X es (tL X E ms)):PE X (.List es pos) (tE X E (fK ms)):=by
 refine PE.imp (Gr h) ?_
 rintro σ H Q ⟨μ,ρ,st,rs,sr,h⟩
 refine go (R1:=aZ X.K) μ ρ st rs sr h fun us aQ ρ1 H1 xs e1 bU r1 h1 => ?_
 by_cases hz:us.length ≤ sizeLine
 ·rw [if_pos hz] at h1
  refine ⟨by rw [← r1.length]; exact hz,fun p hp => ?_⟩
  obtain ⟨a,b,c⟩:=iE bU r1 hp
  exact h1 _ _ _ a b c
 ·rw [if_neg hz] at h1; exact h1.elim
theorem Dy {k:Nat} {fa:Addr} {fd:FuncData} {ps:List Str} {CX:zS} (F:jK X.prog X.w X.K X.mg X.base CX k fa fd ps (Fe ⟨X.K,X.mg,[]⟩ f)) (hr:dR k X.A) (hg:Gl X x) (hm:X.mg x = some (.ref fa)) (hk:PySem.W.keepIn X.K (.ref fa) = true)
  (hb:Binds X.K fd ps []) (hx:Passes CX X E) (ha:PA X (e :: es) (tL X E ms)) (jV:(x == ("__debug__":Str)) = false:=by decide)
  (he:starEach (e :: es) X.env = (false,eval e X.env) :: starEach es X.env:=by rfl) (hU:(backTo pos (starEach es X.env)).any (·.1) = false:=by rfl) :
  PE X (.Call (.Name x p) (e :: es) [] pos) (tE X E (aq f ms)):=by
 refine PE.imp (CU F hr hg hm hk hb .nil hx ha jV he hU) ?_
 rintro σ H Q ⟨μ,ρ,st,rs,sr,h⟩
 refine go (R1:=aZ X.K) μ ρ st rs sr h fun us aQ ρ1 H1 xs e1 bU r1 h1 => ?_
 rw [List.append_nil]
 exact ⟨us,ρ1,aQ,r1,bU,wR.pn h1⟩
theorem dP {id:String} (hc:cJ X (.builtin id) (cM (wo X) E f)) (hg:Gl X x) (hm:X.mg x = none) (hv:bootBuiltins x = some (.builtin id)) (ha:PA X (e :: es) (tL X E ms)) (hn:x ≠ "__name__":=by decide) (jV:(x == ("__debug__":Str)) = false:=by decide)
  (he:starEach (e :: es) X.env = (false,eval e X.env) :: starEach es X.env:=by rfl) (hU:(backTo pos (starEach es X.env)).any (·.1) = false:=by rfl):PE X (.Call (.Name x p) (e :: es) [] pos) (tE X E (aq f ms)):=by
 refine PE.imp (oy hc hg hm hv ha hn jV he hU) ?_
 rintro σ H Q ⟨μ,ρ,st,rs,sr,h⟩
 exact go (R1:=aZ X.K) μ ρ st rs sr h fun us aQ ρ1 H1 xs e1 bU r1 h1 => ⟨ρ1,aQ,us,bU,r1,h1⟩
theorem gi {T:String} (hc:cJ X (.type T) (cM (wo X) E f)) (hg:Gl X x) (hm:X.mg x = none) (hv:bootBuiltins x = some (.type T)) (ha:PA X (e :: es) (tL X E ms)) (hn:x ≠ "__name__":=by decide) (jV:(x == ("__debug__":Str)) = false:=by decide)
  (he:starEach (e :: es) X.env = (false,eval e X.env) :: starEach es X.env:=by rfl) (hU:(backTo pos (starEach es X.env)).any (·.1) = false:=by rfl):PE X (.Call (.Name x p) (e :: es) [] pos) (tE X E (aq f ms)):=by
 refine PE.imp (yf hc hg hm hv ha hn jV he hU) ?_
 rintro σ H Q ⟨μ,ρ,st,rs,sr,h⟩
 exact go (R1:=aZ X.K) μ ρ st rs sr h fun us aQ ρ1 H1 xs e1 bU r1 h1 => ⟨ρ1,aQ,us,bU,r1,h1⟩
end
section
variable {X:Cx} {E:XK} {pos:Pos} {a b:Expr} {ma mb:ME} {f:F2}
theorem Kh (hr:vq X (rM (wo X) E f)) (ha:PE X a (tE X E ma)) (hb:PE X b (tE X E mb)) (hs:rO b:=by exact fun _ _ => rfl):PE X (.Subscript a b pos) (tE X E (ai f ma mb)) :=
 PE.imp (JF hr ha hb hs) fun _ _ _ h => ku h
end
noncomputable def wS (W:Wo) (E:XK) (ρ:List Addr) (H:Hp) (D:Ends):bB → Prop
 | .nx μ st => ∀ ρ' H' σ',Step ρ H ρ' H' → SR W.K ρ' st H' → RS W ρ' H' μ σ' → D.nx σ' H'
 | .rt v st => ∀ ρ' H' x,Step ρ H ρ' H' → SR W.K ρ' st H' → Rl W.K ρ' H' v x → D.rt x H'
 | .bk μ st => ∀ ρ' H' σ',Step ρ H ρ' H' → SR W.K ρ' st H' → RS W ρ' H' μ σ' → D.bk σ' H'
 | .ct μ st => ∀ ρ' H' σ',Step ρ H ρ' H' → SR W.K ρ' st H' → RS W ρ' H' μ σ' → D.ct σ' H'
 | .er c _ st => ∃ C,W.mg c = some (.ref C) ∧ ∀ ρ' H',Step ρ H ρ' H' → SR W.K ρ' st H' → E (.ref C) none H'
 | .bad => False
theorem wS.mono {W:Wo} {E:XK} {ρ ρ':List Addr} {H H':Hp} {D:Ends} {r:bB} (h:wS W E ρ H D r) (e:Step ρ H ρ' H'):wS W E ρ' H' D r:=by
 cases r with
 | nx μ st => exact fun ρ2 H2 σ2 e2 s r => h ρ2 H2 σ2 (e.trans e2) s r
 | rt v st => exact fun ρ2 H2 x e2 s r => h ρ2 H2 x (e.trans e2) s r
 | bk μ st => exact fun ρ2 H2 σ2 e2 s r => h ρ2 H2 σ2 (e.trans e2) s r
 | ct μ st => exact fun ρ2 H2 σ2 e2 s r => h ρ2 H2 σ2 (e.trans e2) s r
 | er c μ st => obtain ⟨C,h1,h2⟩:=h; exact ⟨C,h1,fun ρ2 H2 e2 s => h2 ρ2 H2 (e.trans e2) s⟩
 | bad => exact h
noncomputable def tS (X:Cx) (E:XK) (m:MB):TS:=fun D σ H => ∃ μ ρ st,RS (wo X) ρ H μ σ ∧ SR X.K ρ st H ∧ wS (wo X) E ρ H D (m μ st)
@[reducible] def Res.sb {α:Type} (r:Res α) (μ:Env) (k:α → ah → bB):bB:=match r with
 | .ok a st => k a st
 | .err c st => .er c μ st
 | .bad => .bad
theorem Cw {α β:Type} {W:Wo} {E:XK} {R1:List Addr → Hp → α → β → Prop} {m:Env → ah → Res α} {k:α → ah → bB} {σ:St} {H:Hp} {D:Ends} {Q':β → Hp → Prop}
  (μ:Env) (ρ:List Addr) (st:ah) (rs:RS W ρ H μ σ) (sr:SR W.K ρ st H) (h:wS W E ρ H D ((m μ st).sb μ k))
  (c:∀ u aQ ρ1 H1 x,Step ρ H ρ1 H1 → SR W.K ρ1 aQ H1 → R1 ρ1 H1 u x → wS W E ρ1 H1 D (k u aQ) → Q' x H1):tG W E R1 m σ H Q':=by
 refine ⟨μ,ρ,st,rs,sr,?_⟩
 cases e:m μ st with
 | ok u aQ =>
  rw [e] at h
  intro ρ1 H1 x e1 bU r1
  exact c u aQ ρ1 H1 x e1 bU r1 (wS.mono h e1)
 | err c aQ => rw [e] at h; exact h
 | bad => rw [e] at h; exact h
noncomputable def bG:MB:=fun μ st => .nx μ st
noncomputable def aF (a b:MB):MB:=fun μ st => match a μ st with
 | .nx μ' av => b μ' av
 | r => r
noncomputable def dc (m:ME):MB:=fun μ st => (m μ st).sb μ fun _ av => .nx μ av
noncomputable def bO (m:ME):MB:=fun μ st => (m μ st).sb μ fun v av => .rt v av
noncomputable def gI (t:MT) (a b:MB):MB:=fun μ st => (t μ st).sb μ fun k av => match k with
 | true => a μ av
 | false => b μ av
noncomputable def aK (i:Nat) (m:ME):MB:=fun μ st => (m μ st).sb μ fun v av => .nx (μ.set i (some v)) av
noncomputable def lK (c:Str) (m:MA):MB:=fun μ st => (m μ st).sb μ fun vs av => if vs.length ≤ sizeLine then .er c μ av else .bad
section
variable {X:Cx} {E:XK} {pos:Pos} {s1:Stmt} {rest:List Stmt} {e:Expr} {m:ME} {a b:MB}
theorem cq:ja X [] (tS X E bG):=ja.imp CI fun D σ H ⟨μ,ρ,st,rs,sr,h⟩ => h ρ H σ (Step.refl _ _) sr rs
theorem az (h1:PS X s1 (tS X E a)) (h2:ja X rest (tS X E b)):ja X (s1 :: rest) (tS X E (aF a b)):=by
 refine ja.imp (zL h1 h2) ?_
 rintro D σ H ⟨μ,ρ,st,rs,sr,h⟩
 refine ⟨μ,ρ,st,rs,sr,?_⟩
 unfold aF at h
 cases e:a μ st with
 | nx μ' av =>
  rw [e] at h
  intro ρ1 H1 σ1 e1 bU IQ
  exact ⟨μ',ρ1,av,IQ,bU,wS.mono h e1⟩
 | rt v av => rw [e] at h; exact h
 | bk μ' av => rw [e] at h; exact h
 | ct μ' av => rw [e] at h; exact h
 | er c μ' av => rw [e] at h; exact h
 | bad => rw [e] at h; exact h
theorem aC (h1:PS X s1 (tS X E a)):ja X [s1] (tS X E a):=CJ h1
theorem f_ (he:PE X e (tE X E m)) (hs:swapsWith e none pos.line X.env = pure false:=by rfl):PS X (.Expr e pos) (tS X E (dc m)):=by
 refine PS.imp (CK he hs) ?_
 rintro D σ H ⟨μ,ρ,st,rs,sr,h⟩
 exact Cw μ ρ st rs sr h fun u aQ ρ1 H1 x e1 bU r1 h1 => h1 ρ1 H1 σ (Step.refl _ _) bU (rs.mono e1)
theorem aX (he:PE X e (tE X E m)):PS X (.Return (some e) pos) (tS X E (bO m)):=by
 refine PS.imp (F0 he) ?_
 rintro D σ H ⟨μ,ρ,st,rs,sr,h⟩
 exact Cw μ ρ st rs sr h fun u aQ ρ1 H1 x e1 bU r1 h1 => h1 ρ1 H1 x (Step.refl _ _) bU r1
theorem dM {c:Expr} {sa sb:List Stmt} {t:MT} (hc:PT X c (tT X E t)) (ha:ja X sa (tS X E a)) (hb:ja X sb (tS X E b)):PS X (.If c sa sb pos) (tS X E (gI t a b)):=by
 refine PS.imp (Jm hc ha hb) ?_
 rintro D σ H ⟨μ,ρ,st,rs,sr,h⟩
 refine Cw (R1:=RB) μ ρ st rs sr h fun u aQ ρ1 H1 x e1 bU r1 h1 => ?_
 cases r1
 cases u with
 | true => rw [if_pos rfl]; exact ⟨μ,ρ1,aQ,rs.mono e1,bU,h1⟩
 | false => rw [if_neg Bool.false_ne_true]; exact ⟨μ,ρ1,aQ,rs.mono e1,bU,h1⟩
theorem uh {i:Nat} {D:Ends} {σ:St} {H:Hp} (h:tS X E (aK i m) D σ H):F3 (tE X E m) (tK i) D σ H:=by
 obtain ⟨μ,ρ,st,rs,sr,h⟩:=h
 exact Cw μ ρ st rs sr h fun u aQ ρ1 H1 x e1 bU r1 h1 => h1 ρ1 H1 _ (Step.refl _ _) bU ((rs.mono e1).set i r1)
theorem Ha (i:Nat) {x:Str} {pos':Pos} (hN:X.N.Nodup) (he:PE X e (tE X E m)) (hi:X.N[i]? = some x:=by rfl) (hx:Loc X.env.scope x:=by first | exact Or.inl rfl | exact Or.inr rfl) (hs:swapsWith e (some (.Name x pos')) pos.line X.env = pure false:=by rfl)
  (hf:X.fn x = true ∨ X.env.scope.names.lookup x = some .local:=by first | exact .inl rfl | exact .inr rfl | assumption):PS X (.Assign [.Name x pos'] e pos) (tS X E (aK i m)) :=
 PS.imp (F4 hN hi hx he hs hf) fun _ _ _ h => uh h
theorem Ax {x:Str} {C:Addr} {B newId vM:String} {bm:List Value} {np cC:Pos} {e₀:Expr} {es:List Expr} {ms:MA} (hX:Raises X E) (hc:X.calm = true) (hm:X.mg x = some (.ref C)) (hq:PySem.W.excIn X.K C bm newId = true) (FB:ExcBaseFacts B newId vM bm) (hg:Gl X x) (ha:PA X (e₀ :: es) (tL X E ms))
  (he:starEach (e₀ :: es) X.env = (false,eval e₀ X.env) :: starEach es X.env:=by rfl) (hU:(backTo cC (starEach es X.env)).any (·.1) = false:=by rfl) (hd:(x == ("__debug__":Str)) = false:=by decide) :
  PS X (.Raise (some (.Call (.Name x np) (e₀ :: es) [] cC)) none pos) (tS X E (lK x ms)):=by
 refine PS.imp (Al (E:=E) hX hc hm hq FB hg ha he hU hd) ?_
 rintro D σ H ⟨μ,ρ,st,rs,sr,h⟩
 refine Cw (R1:=aZ X.K) μ ρ st rs sr h fun us aQ ρ1 H1 xs e1 bU r1 h1 => ?_
 by_cases hz:us.length ≤ sizeLine
 ·rw [if_pos hz] at h1
  obtain ⟨C',q1,q2⟩:=h1
  have e:C' = C:=by
   have:=q1.symm.trans hm
   injection this with this
   injection this
  subst e
  exact ⟨by rw [← r1.length]; exact hz,q2 ρ1 H1 (Step.refl _ _) bU⟩
 ·rw [if_neg hz] at h1; exact h1.elim
end
noncomputable def jx (np n:Nat) (body:MB):FN:=fun us st => if us.length = np then (match body (us.map some ++ List.replicate (n - np) none) st with
 | .nx _ av => .ok .eR av
 | .rt v av => .ok v av
 | .er c _ av => .err c av
 | _ => .bad) else .bad
theorem RS.start {W:Wo} {ρ:List Addr} {H:Hp} {N:List Str} {us:List Val} {vs:List V} (r:aZ W.K ρ H us vs):RS W ρ H (us.map some ++ List.replicate (N.length - us.length) none) (L2.start N vs):=by
 have hl:=r.length
 refine ⟨by simp [L2.start,hl],fun i u e => ?_⟩
 rcases Nat.lt_or_ge i us.length with q | q
 ·rw [List.getElem?_append_left (by rw [List.length_map]; exact q),List.getElem?_map] at e
  have e':us[i]? = some u:=by
   cases z:us[i]? with
   | none => rw [z] at e; cases e
   | some w => rw [z] at e; exact congrArg _ (Option.some.inj (Option.some.inj e))
  obtain ⟨v,h1,h2⟩:=r.get e'
  refine ⟨v,?_,ud.of h2⟩
  unfold L2.start
  rw [List.getElem?_append_left (by rw [List.length_map,← hl]; exact q),List.getElem?_map,h1]
  rfl
 ·rw [List.getElem?_append_right (by rw [List.length_map]; exact q)] at e
  rw [List.getElem?_replicate] at e
  split at e
  ·cases e
  ·cases e
section
variable {P:Program} {w:World} {K:PySem.W.Frag} {mg:Str → Option Value} {base:Heap}
theorem Ay {x qual:Str} {st:Stmt} {f:Addr} {fd:FuncData} {N ps:List Str} {k:Nat} {body:MB} (F:i5 K x qual st f fd) (S:aR N ps (ao st))
  (h:∀ (da:Value) (A:Around) (outer:List PySem.Env) (s:Shared) (H:Hp) (E:XK),dR k (A.deeper (envOfC qual (ao st) s.heap.objs.size f da)) →
   ja (fR (iY P w) P w K mg base N qual (ao st) f da A outer s H E) (aM st) (tS (fR (iY P w) P w K mg base N qual (ao st) f da A outer s H E) E body)) :
  jK P w K mg base (iY P w) (k + 1) f fd ps (Fe ⟨K,mg,[]⟩ (jx ps.length N.length body)):=by
 refine F.S8 S (fun vs H Q E q => ?_) (fun da A outer s H vs Q E hr q => ⟨_,h da A outer s H E hr,?_⟩)
 ·obtain ⟨us,ρ,st,r,sr,q⟩:=q
  by_cases hl:us.length = ps.length
  ·rw [← r.length]; exact hl
  ·unfold jx at q; rw [if_neg hl] at q; exact q.elim
 ·obtain ⟨us,ρ,av,r,sr,q⟩:=q
  unfold jx at q
  by_cases hl:us.length = ps.length
  ·rw [if_pos hl,← hl] at q
   refine ⟨_,ρ,av,RS.start r,sr,?_⟩
   revert q
   cases body (us.map some ++ List.replicate (N.length - us.length) none) av with
   | nx μ cI => exact fun q ρ' H' σ' e s _ => q ρ' H' .eR e s Rl.xb
   | rt v cI => exact fun q => q
   | er c μ cI => exact fun q => q
   | bk μ cI => exact fun q => q.elim
   | ct μ cI => exact fun q => q.elim
   | bad => exact fun q => q.elim
  ·rw [if_neg hl] at q; exact q.elim
end
end MN
namespace MN
open PySem PySem.Spec L2
open PyProof.Rows hiding St
noncomputable def Sz (i:Int):Prop:=i.natAbs.log2 < 1000000
noncomputable instance (i:Int):Decidable (Sz i):=inferInstanceAs (Decidable (_ < _))
theorem Sz.big {i:Int} (h:Sz i):jw 1000001 i:=by
 show _ < _
 have h1:i.natAbs < 2 ^ (i.natAbs.log2 + 1):=Nat.lt_log2_self
 exact Nat.lt_of_lt_of_le h1 (Nat.pow_le_pow_right (by decide) (by have:i.natAbs.log2 < 1000000:=h; lia))
theorem Sz.of {k:Nat} {i:Int} (h:jw k i) (hk:k ≤ 1000000):Sz i:=by
 show i.natAbs.log2 < 1000000
 have h':i.natAbs < 2 ^ k:=h
 by_cases z:i.natAbs = 0
 ·rw [z]; decide
 ·exact Nat.lt_of_lt_of_le ((Nat.log2_lt z).mpr h') hk
theorem Sz.mul {i j:Int} (h:Sz i) (k:Sz j):wX i j:=⟨_,_,h.big,k.big,by decide,by decide⟩
noncomputable def Dz (i:Int):Prop:=i ≠ 0 ∧ i.natAbs.log2 < 8000
noncomputable instance (i:Int):Decidable (Dz i):=inferInstanceAs (Decidable (_ ∧ _))
theorem Dz.ok {i j:Int} (h:Dz j):wY i j:=by
 refine ⟨h.1,?_⟩
 show _ < _
 have h1:j.natAbs < 2 ^ (j.natAbs.log2 + 1):=Nat.lt_log2_self
 exact Nat.lt_of_lt_of_le h1 (Nat.pow_le_pow_right (by decide) (by have:=h.2; lia))
theorem Dz.of {k:Nat} {i:Int} (h0:i ≠ 0) (h:jw k i) (hk:k ≤ 8000):Dz i:=by
 refine ⟨h0,?_⟩
 have h':i.natAbs < 2 ^ k:=h
 exact Nat.lt_of_lt_of_le ((Nat.log2_lt (by lia)).mpr h') hk
noncomputable def MulOk (i j:Int):Prop:=(Sz i ∧ Sz j) ∨ zQ i j
noncomputable instance (i j:Int):Decidable (zQ i j):=inferInstanceAs (Decidable (_ ∨ _))
noncomputable instance (i j:Int):Decidable (MulOk i j):=inferInstanceAs (Decidable (_ ∨ _))
noncomputable instance (i j:Int):Decidable (zP i j):=inferInstanceAs (Decidable (_ ∧ _ ∧ _))
noncomputable def Az (k:Nat) (us:List Val):List Val:=(List.replicate k us).flatten
noncomputable def cg:F2
 | .int i,.int j,st => .ok (.int (i + j)) st
 | .str a,.str b,st => if a.length + b.length ≤ sizeLine then .ok (.str (a ++ b)) st else .bad
 | .tup us,.tup ws,st => if us.length + ws.length ≤ sizeLine then .ok (.tup (us ++ ws)) st else .bad
 | .loc n,.loc m,st => match st[n]?,st[m]? with
  | some (.lst us),some (.lst ws) => if us.length + ws.length ≤ sizeLine then .ok (.loc st.length) (st ++ [.lst (us ++ ws)]) else .bad
  | _,_ => .bad
 | _,_,_ => .bad
noncomputable def qb (g:Int → Int → ah → Res Val):F2
 | .int i,.int j,st => g i j st
 | _,_,_ => .bad
theorem DA (g:Int → Int → ah → Res Val) (u w:Val) (st:ah):(∃ i j,u = .int i ∧ w = .int j) ∨ qb g u w st = .bad:=by
 cases u with
 | int i =>
  cases w with
  | int j => exact .inl ⟨i,j,rfl,rfl⟩
  | _ => exact .inr rfl
 | _ => exact .inr rfl
theorem gL {g:Int → Int → ah → Res Val} {W:Wo} {E:XK} {ρ:List Addr} {st:ah} {H:Hp} {Q:VK} {u w:Val} (h:wR W E (Rl W.K) ρ H Q (qb g u w st)):∃ i j,u = .int i ∧ w = .int j ∧ wR W E (Rl W.K) ρ H Q (g i j st):=by
 rcases DA g u w st with ⟨i,j,rfl,rfl⟩ | z
 ·exact ⟨i,j,rfl,rfl,h⟩
 ·rw [z] at h; exact h.elim
noncomputable def qc:F2:=qb fun i j st => .ok (.int (i - j)) st
noncomputable def cU:F2
 | .int i,.int j,st => if MulOk i j then .ok (.int (i * j)) st else .bad
 | .loc n,.int k,st => match st[n]? with
  | some (.lst us) => if -(2 ^ 63) ≤ k ∧ k < 2 ^ 63 ∧ us.length * k.toNat ≤ sizeLine then .ok (.loc st.length) (st ++ [.lst (Az k.toNat us)]) else .bad
  | _ => .bad
 | _,_,_ => .bad
noncomputable def bh:F2:=qb fun i j st => if Dz j then .ok (.int (i.fdiv j)) st else .bad
noncomputable def bx:F2:=qb fun i j st => if j = 0 then .bad else .ok (.int (i.fmod j)) st
noncomputable def Hb:F2:=qb fun i j st => if zP i j then .ok (.int (i ^ j.toNat)) st else .bad
noncomputable def ltV:F2:=qb fun i j st => .ok (.bl (decide (i < j))) st
noncomputable def IS:F2:=qb fun i j st => .ok (.bl (decide (j < i))) st
section
variable {X:Cx} {E:XK}
theorem dw {W:Wo} {ρ:List Addr} {st:ah} {H:Hp} {Q:VK} {i:Int} (sr:SR W.K ρ st H) (h:wR W E (Rl W.K) ρ H Q (.ok (.int i) st)):Q (.int i) H:=h ρ H _ (Step.refl _ _) sr (Rl.mkInt i)
theorem jf {W:Wo} {ρ:List Addr} {st:ah} {H:Hp} {Q:VK} {i:Bool} (sr:SR W.K ρ st H) (h:wR W E (Rl W.K) ρ H Q (.ok (.bl i) st)):Q (.bl i) H:=h ρ H _ (Step.refl _ _) sr (Rl.Au i)
theorem aZ.Ki {K:PySem.W.Frag} {ρ:List Addr} {H:Hp} {us:List Val} {xs:List V} (r:aZ K ρ H us xs):∀ k:Nat,aZ K ρ H (Az k us) (List.replicate k xs).flatten
 | 0 => aZ.nil
 | k + 1 => by
  unfold Az
  rw [List.replicate_succ,List.replicate_succ,List.flatten_cons,List.flatten_cons]
  exact r.append (aZ.Ki r k)
theorem AA:eQ X (binaryOp .Add) (fun x y H Q => ∃ a b ys,x = .ref a ∧ y = .ref b ∧ jQ X.K H a [] ∧ jQ X.K H b ys ∧ Q (.ref b) H):=by
 intro pins s σ H x y v u Q I rx ry h
 obtain ⟨a,b,ys,rfl,rfl,ha,hb,q⟩:=h
 cases rx
 cases ry
 obtain ⟨aN,r1,p1,_⟩:=I.tuple ha
 obtain ⟨d0,r2,p2,_⟩:=I.tuple hb
 cases r1
 obtain ⟨⟨cls,dd,data,sl⟩,ho,hc,n,hd⟩:=id p1
 obtain ⟨⟨Nj,LQ,data2,Gx⟩,zV,yg,n2,hd2⟩:=id p2
 simp only at hc hd yg hd2
 subst hc hd yg hd2
 exact concat_meets ⟨_,ho,rfl⟩ ⟨_,zV,rfl⟩ noFill_tuple_add seq_tuple_add PySem.F.slot_tuple_add PySem.F.entry_tuple_add (PySem.F.args_tuple_add_2 _ _)
  (tuple_addW0 a b #[] d0.toArray n n2 dd LQ sl Gx (by simp)) ⟨ho,zV,⟨.ref b,H,I,rfl,q⟩⟩
theorem cu:eQ X (binaryOp .Add) (rM (wo X) E cg):=by
 refine eQ.imp (eQ.or Gf (eQ.or vG (eQ.or GD (eQ.or CZ AA)))) ?_
 rintro x y H Q ⟨ρ,st,u,w,sr,r1,r2,h⟩
 cases u <;> cases w <;> try exact h.elim
 case int.int i j => exact .inl ⟨i,j,r1.cn,r2.cn,dw sr h⟩
 case str.str a b =>
  unfold cg at h
  dsimp only at h
  split at h
  ·rename_i hz
   exact .inr (.inl ⟨a,b,r1.jd,r2.jd,hz,h ρ H _ (Step.refl _ _) sr (Rl.mkStr _)⟩)
  ·exact h.elim
 case tup.tup us ws =>
  unfold cg at h
  dsimp only at h
  split at h
  ·rename_i hz
   obtain ⟨a,xs,rfl,ha,ra⟩:=r1.gR
   obtain ⟨b,ys,rfl,hb,rb⟩:=r2.gR
   by_cases hx:xs = []
   ·subst hx
    have hu:us = []:=List.eq_nil_of_length_eq_zero ra.length
    subst hu
    exact .inr (.inr (.inr (.inr ⟨a,b,ys,rfl,rfl,ha,hb,h ρ H _ (Step.refl _ _) sr r2⟩)))
   ·refine .inr (.inr (.inr (.inl ⟨a,b,xs,ys,rfl,rfl,ha,hb,hx,by rw [← ra.length,← rb.length]; exact hz,fun hy => ?_,fun hy p hp => ?_⟩)))
    ·subst hy
     have hw:ws = []:=List.eq_nil_of_length_eq_zero rb.length
     subst hw
     rw [List.append_nil] at h
     exact h ρ H _ (Step.refl _ _) sr r1
    ·have s:=d6 (o:=.tup (xs ++ ys)) hp
     exact h ρ _ _ (Step.same s) (sr.grow s) (Rl.t_ bw (aZ.mono (Step.same s) _ _ (ra.append rb)))
  ·exact h.elim
 case loc.loc n m =>
  unfold cg at h
  dsimp only at h
  split at h
  ·rename_i us ws e1 e2
   split at h
   ·rename_i hz
    obtain ⟨a,rfl,ha⟩:=r1.fA
    obtain ⟨b,rfl,hb⟩:=r2.fA
    obtain ⟨xs,h1,q1⟩:=sr.cell n _ a e1 ha
    obtain ⟨ys,h2,q2⟩:=sr.cell m _ b e2 hb
    refine .inr (.inr (.inl ⟨a,b,xs,ys,rfl,rfl,h1,h2,by rw [← q1.length,← q2.length]; exact hz,fun p hp => ?_⟩))
    obtain ⟨k1,k2,k3⟩:=iE sr (q1.append q2) hp
    exact h _ _ _ k1 k2 k3
   ·exact h.elim
  ·exact h.elim
theorem nU:eQ X (binaryOp .Sub) (rM (wo X) E qc):=by
 refine eQ.imp Gg ?_
 rintro x y H Q ⟨ρ,st,u,w,sr,r1,r2,h⟩
 obtain ⟨i,j,rfl,rfl,q⟩:=gL h
 exact ⟨i,j,r1.cn,r2.cn,dw sr q⟩
theorem dy:eQ X (binaryOp .Mult) (rM (wo X) E cU):=by
 refine eQ.imp (eQ.or C_ (eQ.or Gh GF)) ?_
 rintro x y H Q ⟨ρ,st,u,w,sr,r1,r2,h⟩
 cases u <;> cases w <;> try exact h.elim
 case int.int i j =>
  unfold cU at h
  dsimp only at h
  split at h
  ·rename_i hz
   rcases hz with hz | hz
   ·exact .inl ⟨i,j,r1.cn,r2.cn,hz.1.mul hz.2,dw sr h⟩
   ·exact .inr (.inl ⟨i,j,r1.cn,r2.cn,hz,dw sr h⟩)
  ·exact h.elim
 case loc.int n k =>
  unfold cU at h
  dsimp only at h
  split at h
  ·rename_i us e1
   split at h
   ·rename_i hz
    obtain ⟨a,rfl,ha⟩:=r1.fA
    obtain ⟨xs,h1,q1⟩:=sr.cell n _ a e1 ha
    refine .inr (.inr ⟨a,k,xs,rfl,r2.cn,h1,hz.1,hz.2.1,by rw [← q1.length]; exact hz.2.2,fun p hp => ?_⟩)
    obtain ⟨k1,k2,k3⟩:=iE sr (q1.Ki k.toNat) hp
    exact h _ _ _ k1 k2 k3
   ·exact h.elim
  ·exact h.elim
theorem bI:eQ X (binaryOp .FloorDiv) (rM (wo X) E bh):=by
 refine eQ.imp Ad ?_
 rintro x y H Q ⟨ρ,st,u,w,sr,r1,r2,h⟩
 obtain ⟨i,j,rfl,rfl,h0⟩:=gL h
 clear h
 have h:=h0
 clear h0
 ·split at h
  ·rename_i hz
   exact ⟨i,j,r1.cn,r2.cn,hz.ok,dw sr h⟩
  ·exact h.elim
theorem aY:eQ X (binaryOp .Mod) (rM (wo X) E bx):=by
 refine eQ.imp CO ?_
 rintro x y H Q ⟨ρ,st,u,w,sr,r1,r2,h⟩
 obtain ⟨i,j,rfl,rfl,h0⟩:=gL h
 clear h
 have h:=h0
 clear h0
 ·split at h
  ·exact h.elim
  ·rename_i hz
   exact ⟨i,j,r1.cn,r2.cn,hz,dw sr h⟩
theorem DB:eQ X (binaryOp .Pow) (rM (wo X) E Hb):=by
 refine eQ.imp Gi ?_
 rintro x y H Q ⟨ρ,st,u,w,sr,r1,r2,h⟩
 obtain ⟨i,j,rfl,rfl,h0⟩:=gL h
 clear h
 have h:=h0
 clear h0
 ·split at h
  ·rename_i hz
   exact ⟨i,j,r1.cn,r2.cn,hz,dw sr h⟩
  ·exact h.elim
theorem jX:eQ X (compareOp .Lt) (rM (wo X) E ltV):=by
 refine eQ.imp Jy ?_
 rintro x y H Q ⟨ρ,st,u,w,sr,r1,r2,h⟩
 obtain ⟨i,j,rfl,rfl,q⟩:=gL h
 exact ⟨i,j,r1.cn,r2.cn,jf sr q⟩
theorem AB:eQ X (compareOp .Gt) (rM (wo X) E IS):=by
 refine eQ.imp Jz ?_
 rintro x y H Q ⟨ρ,st,u,w,sr,r1,r2,h⟩
 obtain ⟨i,j,rfl,rfl,q⟩:=gL h
 exact ⟨i,j,r1.cn,r2.cn,jf sr q⟩
noncomputable def ui (m:ME):ME:=fun μ st => (m μ st).bind fun v av => match v with
 | .int i => .ok (.int (-i)) av
 | _ => .bad
theorem AD {a:Expr} {m:ME} {pos:Pos} (h:PE X a (tE X E m)):PE X (.UnaryOp .USub a pos) (tE X E (ui m)):=by
 refine PE.imp (Jw Gm h) ?_
 rintro σ H Q ⟨μ,ρ,st,rs,sr,h⟩
 refine go μ ρ st rs sr h fun u aQ ρ1 H1 x e1 bU r1 h1 => ?_
 cases u with
 | int i => exact ⟨i,r1.cn,dw bU h1⟩
 | _ => exact h1.elim
end
noncomputable def flat:Val → Bool
 | .eR => true
 | .bl _ => true
 | .int _ => true
 | .str _ => true
 | _ => false
noncomputable def Hc:Val → Val → Bool
 | .eR,.eR => true
 | .bl a,.bl b => a == b
 | .bl a,.int b => (if a then 1 else 0) == b
 | .int a,.bl b => a == (if b then 1 else 0)
 | .int a,.int b => a == b
 | .str a,.str b => a == b
 | _,_ => false
noncomputable def itemsOf (st:ah) (n:Nat):Option (List Val):=match st[n]? with
 | some (.lst us) => some us
 | some (.Fc us) => some us
 | some (.mod us) => some us
 | _ => none
inductive Vw where
 | lst (us:List Val) | tup (us:List Val) | nQ
noncomputable def vw (st:ah):Val → Option Vw
 | .tup us => some (.tup us)
 | .loc n => (itemsOf st n).map .lst
 | .eR => some .nQ
 | .bl _ => some .nQ
 | .int _ => some .nQ
 | .str _ => some .nQ
 | _ => none
noncomputable def jM (f:Val → Val → Option Bool):List Val → List Val → Option Bool
 | [],[] => some true
 | x :: xs,y :: ys => match f x y,jM f xs ys with
  | some a,some b => some (a && b)
  | _,_ => none
 | [],_ :: _ => some false
 | _ :: _,[] => some false
noncomputable def nV:Nat → ah → Val → Val → Option Bool
 | 0,_,_,_ => none
 | n + 1,st,u,w => match vw st u,vw st w with
  | some (.tup us),some (.tup ws) => jM (nV n st) us ws
  | some (.lst us),some (.lst ws) => jM (nV n st) us ws
  | some .nQ,some .nQ => some (Hc u w)
  | some _,some _ => some false
  | _,_ => none
theorem oM {f:Val → Val → Option Bool}:∀ {us ws:List Val} {b:Bool},jM f us ws = some b → us.length ≠ ws.length → b = false
 | [],[],_,_,h => absurd rfl h
 | [],_ :: _,b,e,_ => by injection e with e; exact e.symm
 | _ :: _,[],b,e,_ => by injection e with e; exact e.symm
 | x :: xs,y :: ys,b,e,h => by
  unfold jM at e
  split at e
  ·rename_i a c h1 h2
   injection e with e
   rw [← e,oM h2 (fun z => h (by simp [z])),Bool.and_false]
  ·cases e
theorem xf {f:Val → Val → Option Bool}:∀ {us ws:List Val} {b:Bool},jM f us ws = some b → ∀ (j:Nat) (u w:Val),us[j]? = some u → ws[j]? = some w → ∃ c,f u w = some c
 | [],_,_,_,j,u,w,h1,_ => by cases h1
 | _ :: _,[],_,_,j,u,w,_,h2 => by cases h2
 | x :: xs,y :: ys,b,e,j,u,w,h1,h2 => by
  unfold jM at e
  split at e
  ·rename_i a c q1 q2
   cases j with
   | zero => cases h1; cases h2; exact ⟨a,q1⟩
   | succ j => exact xf q2 j u w h1 h2
  ·cases e
noncomputable def Ma (f:Val → Val → Option Bool) (us ws:List Val) (j:Nat):Bool:=match us[j]?,ws[j]? with
 | some u,some w => (f u w).getD true
 | _,_ => true
theorem oN {f:Val → Val → Option Bool}:∀ {us ws:List Val} {b:Bool},jM f us ws = some b → us.length = ws.length → (List.range us.length).all (Ma f us ws) = b
 | [],[],b,e,_ => by injection e
 | [],_ :: _,_,_,h => by simp at h
 | _ :: _,[],_,_,h => by simp at h
 | x :: xs,y :: ys,b,e,h => by
  have h':xs.length = ys.length:=by simpa using h
  unfold jM at e
  split at e
  ·rename_i a c q1 q2
   injection e with e
   rw [List.length_cons,List.range_succ_eq_map,List.all_cons,List.all_map,← e,← oN q2 h']
   congr 1
   show (f x y).getD true = a
   rw [q1]; rfl
  ·cases e
section
variable {X:Cx} {pins:List (Addr × Obj)} {σ:St} {H:Hp} {s:Shared} {ρ:List Addr} {st:ah}
theorem bD (sr:SR X.K ρ st H) {n:Nat} {us:List Val} {a:Addr} (h:itemsOf st n = some us) (ha:ρ[n]? = some a):∃ vs,mV X.K H a vs ∧ aZ X.K ρ H us vs:=by
 unfold itemsOf at h
 split at h
 ·rename_i ws e
  cases h
  obtain ⟨vs,h1,h2⟩:=sr.cell n _ a e ha
  exact ⟨vs,mV.of h1,h2⟩
 ·rename_i ws e
  cases h
  obtain ⟨o,vs,h1,h2⟩:=sr.cell n _ a e ha
  exact ⟨vs,.inl (.inr ⟨o,h1⟩),h2⟩
 ·rename_i ws e
  cases h
  obtain ⟨vs,h1,h2⟩:=sr.cell n _ a e ha
  exact ⟨vs,.inr h1,h2⟩
 ·cases h
theorem xg (I:Inv X pins σ H s) (sr:SR X.K ρ st H):∀ (n:Nat) (u w:Val) (x:V) (b:Bool),Rl X.K ρ H u x → Rl X.K ρ H w x → nV n st u w = some b → b = true
 | 0,_,_,_,_,_,_,e => by cases e
 | n + 1,u,w,x,b,r1,r2,e => by
  have lst:∀ (us ws:List Val) (vs:List V) (b:Bool),aZ X.K ρ H us vs → aZ X.K ρ H ws vs → jM (nV n st) us ws = some b → b = true:=by
   intro us
   induction us with
   | nil =>
    intro ws vs b h1 h2 e
    have:=h1.gJ
    subst this
    have hw:ws = []:=List.eq_nil_of_length_eq_zero h2.length
    subst hw
    injection e with e; exact e.symm
   | cons u us ih =>
    intro ws vs b h1 h2 e
    obtain ⟨v,r,rfl,q1,q2⟩:=h1.du
    cases ws with
    | nil => have:=h2.gJ; cases this
    | cons w ws =>
     obtain ⟨v',r',e',q3,q4⟩:=h2.du
     cases e'
     unfold jM at e
     split at e
     ·rename_i a c z1 z2
      injection e with e
      rw [← e,xg I sr n u w v a q1 q3 z1,ih ws r c q2 q4 z2]; rfl
     ·cases e
  unfold nV at e
  cases u <;> cases w <;> dsimp only [vw] at e <;> try (cases e; done)
  all_goals first
   | (have z1:=Rl.cn r1; subst z1; have z2:=Rl.cn r2; cases z2; injection e with e; rw [← e]; exact beq_self_eq_true _)
   | (have z1:=Rl.tw r1; subst z1; have z2:=Rl.tw r2; cases z2; injection e with e; rw [← e]; exact beq_self_eq_true _)
   | (have z1:=Rl.jd r1; subst z1; have z2:=Rl.jd r2; cases z2; injection e with e; rw [← e]; exact beq_self_eq_true _)
   | (have z1:=Rl.oI r1; subst z1; injection e with e; exact e.symm)
   | skip
  case tup.tup us ws =>
   obtain ⟨a,vs,rfl,ha,ra⟩:=r1.gR
   obtain ⟨a',Ff,ea,hb,rb⟩:=r2.gR
   cases ea
   have:=I.lE ha hb
   subst this
   exact lst us ws vs b ra rb e
  case loc.loc i j =>
   obtain ⟨a,rfl,ha⟩:=r1.fA
   obtain ⟨a',ea,hb⟩:=r2.fA
   cases ea
   cases z:itemsOf st i with
   | none => rw [z] at e; cases e
   | some us =>
    cases z2:itemsOf st j with
    | none => rw [z,z2] at e; cases e
    | some ws =>
     rw [z,z2] at e
     obtain ⟨vs,s1,rv⟩:=bD sr z ha
     obtain ⟨Ff,s2,NW⟩:=bD sr z2 hb
     have:=I.oo s1 s2
     subst this
     exact lst us ws vs b rv NW e
  all_goals (exfalso; first
   | (have z1:=Rl.cn r1; subst z1; first | (have z2:=Rl.tw r2; cases z2; done) | (have z2:=Rl.jd r2; cases z2; done) | (have z2:=Rl.oI r2; cases z2; done) | (obtain ⟨_,_,z2,_⟩:=r2.gR; cases z2; done) | (obtain ⟨_,z2,_⟩:=r2.fA; cases z2; done))
   | (have z1:=Rl.tw r1; subst z1; first | (have z2:=Rl.cn r2; cases z2; done) | (have z2:=Rl.jd r2; cases z2; done) | (have z2:=Rl.oI r2; cases z2; done) | (obtain ⟨_,_,z2,_⟩:=r2.gR; cases z2; done) | (obtain ⟨_,z2,_⟩:=r2.fA; cases z2; done))
   | (have z1:=Rl.jd r1; subst z1; first | (have z2:=Rl.cn r2; cases z2; done) | (have z2:=Rl.tw r2; cases z2; done) | (have z2:=Rl.oI r2; cases z2; done) | (obtain ⟨_,_,z2,_⟩:=r2.gR; cases z2; done) | (obtain ⟨_,z2,_⟩:=r2.fA; cases z2; done))
   | (have z1:=Rl.oI r1; subst z1; first | (have z2:=Rl.cn r2; cases z2; done) | (have z2:=Rl.tw r2; cases z2; done) | (have z2:=Rl.jd r2; cases z2; done) | (obtain ⟨_,_,z2,_⟩:=r2.gR; cases z2; done) | (obtain ⟨_,z2,_⟩:=r2.fA; cases z2; done))
   | (obtain ⟨_,_,z1,_⟩:=r1.gR; subst z1; first | (have z2:=Rl.cn r2; cases z2; done) | (have z2:=Rl.tw r2; cases z2; done) | (have z2:=Rl.jd r2; cases z2; done) | (have z2:=Rl.oI r2; cases z2; done))
   | (obtain ⟨_,z1,_⟩:=r1.fA; subst z1; first | (have z2:=Rl.cn r2; cases z2; done) | (have z2:=Rl.tw r2; cases z2; done) | (have z2:=Rl.jd r2; cases z2; done) | (have z2:=Rl.oI r2; cases z2; done))
   | skip)
  case tup.loc us j =>
   obtain ⟨a,vs,rfl,ha,ra⟩:=r1.gR
   obtain ⟨a',ea,hb⟩:=r2.fA
   cases ea
   cases z:itemsOf st j with
   | none => rw [z] at e; cases e
   | some Kj =>
    obtain ⟨ws,hw,_⟩:=bD sr z hb
    obtain ⟨_,_,p1,_⟩:=I.tuple ha
    obtain ⟨_,_,p2,_⟩:=I.list hw
    exact SeqAt.ne_of_list_tuple p2.isList p1 rfl
  case loc.tup i us =>
   obtain ⟨a,rfl,ha⟩:=r1.fA
   obtain ⟨a',vs,ea,hb,rb⟩:=r2.gR
   cases ea
   cases z:itemsOf st i with
   | none => rw [z] at e; cases e
   | some Kj =>
    obtain ⟨ws,hw,_⟩:=bD sr z ha
    obtain ⟨_,_,p1,_⟩:=I.tuple hb
    obtain ⟨_,_,p2,_⟩:=I.list hw
    exact SeqAt.ne_of_list_tuple p2.isList p1 rfl
  all_goals (cases z:itemsOf st _ <;> rw [z] at e <;> cases e)
noncomputable def AE (X:Cx) (ρ:List Addr) (H:Hp) (s:Shared):Vw → Val → Value → Prop
 | .tup us,_,v => ∃ a aN vs,v = .ref a ∧ s.heap.IsTuple a (List.toArray aN) ∧ Vals vs aN ∧ aZ X.K ρ H us vs
 | .lst us,_,v => ∃ a aN vs,v = .ref a ∧ s.heap.IsList a (List.toArray aN) ∧ Vals vs aN ∧ aZ X.K ρ H us vs
 | .nQ,u,v => (u = .eR ∧ v = .none) ∨ (∃ b,u = .bl b ∧ v = .bool b) ∨ (∃ i t,u = .int i ∧ v = .int i t) ∨ (∃ z t,u = .str z ∧ v = .str z t)
theorem seen (I:Inv X pins σ H s) (sr:SR X.K ρ st H) {u:Val} {x:V} {v:Value} {k:Vw} (r:Rl X.K ρ H u x) (q:RelV x v) (h:vw st u = some k):AE X ρ H s k u v:=by
 cases u with
 | eR => cases h; have:=r.oI; subst this; exact .inl ⟨rfl,q⟩
 | bl b => cases h; have:=r.tw; subst this; exact .inr (.inl ⟨b,rfl,q⟩)
 | int i => cases h; have:=r.cn; subst this; obtain ⟨t,q⟩:=q; exact .inr (.inr (.inl ⟨i,t,rfl,q⟩))
 | str z => cases h; have:=r.jd; subst this; obtain ⟨t,q⟩:=q; exact .inr (.inr (.inr ⟨z,t,rfl,q⟩))
 | tup us =>
  cases h
  obtain ⟨a,vs,rfl,ha,ra⟩:=r.gR
  obtain ⟨aN,r1,p1,_⟩:=I.tuple ha
  exact ⟨a,aN,vs,q,p1,r1,ra⟩
 | loc n =>
  obtain ⟨a,rfl,ha⟩:=r.fA
  cases z:itemsOf st n with
  | none => simp only [vw,z] at h; cases h
  | some us =>
   simp only [vw,z] at h
   cases h
   obtain ⟨vs,hs,rv⟩:=bD sr z ha
   obtain ⟨aN,r1,p1,_⟩:=I.list hs
   exact ⟨a,aN,vs,q,p1.isList,r1,rv⟩
 | exc c => cases h
 | fn k c => cases h
 | mt us => cases h
theorem AF {A:Around} {f:Val → Val → Option Bool} {us ws:List Val} {xs ys:List V} {aN d0:List Value} {b:Bool} (e:jM f us ws = some b) (ra:aZ X.K ρ H us xs) (rb:aZ X.K ρ H ws ys) (va:Vals xs aN) (vb:Vals ys d0)
  (ih:∀ u w x y vu vw c,Rl X.K ρ H u x → RelV x vu → Rl X.K ρ H w y → RelV y vw → f u w = some c → SeqAt.EqAt A s vu vw c) :
  ∀ j (h1:j < aN.toArray.size) (h2:j < d0.toArray.size),SeqAt.EqAt A s aN.toArray[j] d0.toArray[j] (Ma f us ws j):=by
 intro j h1 h2
 have l1:=va.length
 have l2:=vb.length
 have l3:=ra.length
 have l4:=rb.length
 simp only [List.size_toArray] at h1 h2
 have e1:us[j]? = some us[j]:=List.getElem?_eq_getElem (by lia)
 have e2:ws[j]? = some ws[j]:=List.getElem?_eq_getElem (by lia)
 obtain ⟨x,hx,rx⟩:=ra.get e1
 obtain ⟨y,hy,ry⟩:=rb.get e2
 obtain ⟨u,hu,ru⟩:=va.get hx
 obtain ⟨v,hv,rv⟩:=vb.get hy
 have q1:aN.toArray[j] = u:=by
  obtain ⟨_,e⟩:=List.getElem?_eq_some_iff.mp hu
  simpa using e
 have q2:d0.toArray[j] = v:=by
  obtain ⟨_,e⟩:=List.getElem?_eq_some_iff.mp hv
  simpa using e
 obtain ⟨c,hc⟩:=xf e j _ _ e1 e2
 rw [q1,q2]
 unfold Ma
 rw [e1,e2]
 dsimp only
 rw [hc]
 exact ih _ _ _ _ _ _ c rx ru ry rv hc
theorem in1_units (A:Around):A.in1.units = A.units + 1:=by rfl
theorem He {A:Around} (I:Inv X pins σ H s) (sr:SR X.K ρ st H) (n:Nat) (ih:∀ u w x y vu vw c,Rl X.K ρ H u x → RelV x vu → Rl X.K ρ H w y → RelV y vw → nV n st u w = some c → SeqAt.EqAt A.in1 s vu vw c) (hu:A.units < cLine)
  {u w:Val} {x y:V} {v1 v2:Value} {b:Bool} (r1:Rl X.K ρ H u x) (q1:RelV x v1) (r2:Rl X.K ρ H w y) (q2:RelV y v2) (e:nV (n + 1) st u w = some b):SeqAt.RcAt A s v1 v2 b ∧ SeqAt.RcNeAt A s v1 v2 (!b):=by
 unfold nV at e
 cases z1:vw st u with
 | none => rw [z1] at e; cases e
 | some k1 =>
  cases z2:vw st w with
  | none => rw [z1,z2] at e; cases k1 <;> cases e
  | some k2 =>
   rw [z1,z2] at e
   have s1:=seen I sr r1 q1 z1
   have s2:=seen I sr r2 q2 z2
   cases k1 with
   | tup us =>
    obtain ⟨a,aN,xs,rfl,p1,va,ra⟩:=s1
    cases k2 with
    | tup ws =>
     obtain ⟨a2,d0,ys,rfl,p2,vb,rb⟩:=s2
     have el:=AF e ra rb va vb ih
     have l1:=va.length
     have l2:=vb.length
     have l3:=ra.length
     have l4:=rb.length
     have hb:((List.range (min aN.toArray.size d0.toArray.size)).all (Ma (nV n st) us ws) && aN.toArray.size == d0.toArray.size) = b:=by
      by_cases hl:us.length = ws.length
      ·rw [show min aN.toArray.size d0.toArray.size = us.length by simp only [List.size_toArray]; lia,oN e hl,show (aN.toArray.size == d0.toArray.size) = true by simp only [List.size_toArray,beq_iff_eq]; lia,Bool.and_true]
      ·rw [show (aN.toArray.size == d0.toArray.size) = false by simp only [List.size_toArray,beq_eq_false_iff_ne]; lia,Bool.and_false]
       exact (oM e hl).symm
     have g1:=SeqAt.RcAt.tuples p1 p2 hu el
     have g2:=SeqAt.RcNeAt.tuples p1 p2 hu el
     rw [hb] at g1 g2
     exact ⟨g1,g2⟩
    | lst ws =>
     obtain ⟨a2,d0,ys,rfl,p2,vb,rb⟩:=s2
     cases e
     exact ⟨SeqAt.RcAt.tuple_list p1 p2 hu,SeqAt.RcNeAt.tuple_list p1 p2 hu⟩
    | nQ =>
     cases e
     rcases s2 with ⟨_,rfl⟩ | ⟨k,_,rfl⟩ | ⟨k,t,_,rfl⟩ | ⟨k,t,_,rfl⟩
     ·exact ⟨SeqAt.RcAt.tuple_none p1 hu,SeqAt.RcNeAt.tuple_none p1 hu⟩
     ·exact ⟨SeqAt.RcAt.tuple_bool _ p1 hu,SeqAt.RcNeAt.tuple_bool _ p1 hu⟩
     ·exact ⟨SeqAt.RcAt.tuple_int _ _ p1 hu,SeqAt.RcNeAt.tuple_int _ _ p1 hu⟩
     ·exact ⟨SeqAt.RcAt.tuple_str _ _ p1 hu,SeqAt.RcNeAt.tuple_str _ _ p1 hu⟩
   | lst us =>
    obtain ⟨a,aN,xs,rfl,p1,va,ra⟩:=s1
    cases k2 with
    | tup ws =>
     obtain ⟨a2,d0,ys,rfl,p2,vb,rb⟩:=s2
     cases e
     exact ⟨SeqAt.RcAt.list_tuple p1 p2 hu,SeqAt.RcNeAt.list_tuple p1 p2 hu⟩
    | lst ws =>
     obtain ⟨a2,d0,ys,rfl,p2,vb,rb⟩:=s2
     have l1:=va.length
     have l2:=vb.length
     have l3:=ra.length
     have l4:=rb.length
     by_cases hl:us.length = ws.length
     ·have hs:aN.toArray.size = d0.toArray.size:=by simp only [List.size_toArray]; lia
      have el:=AF e ra rb va vb ih
      have g1:=SeqAt.RcAt.lists p1 p2 hs hu el
      have g2:=SeqAt.RcNeAt.lists p1 p2 hs hu el
      rw [show aN.toArray.size = us.length by simp only [List.size_toArray]; lia,oN e hl] at g1 g2
      exact ⟨g1,g2⟩
     ·have hs:(aN.toArray.size != d0.toArray.size) = true:=by simp only [List.size_toArray,bne_iff_ne]; lia
      rw [oM e hl]
      exact ⟨SeqAt.RcAt.lists_lengths p1 p2 hs hu,SeqAt.RcNeAt.lists_lengths p1 p2 hs hu⟩
    | nQ =>
     cases e
     rcases s2 with ⟨_,rfl⟩ | ⟨k,_,rfl⟩ | ⟨k,t,_,rfl⟩ | ⟨k,t,_,rfl⟩
     ·exact ⟨SeqAt.RcAt.list_none p1 hu,SeqAt.RcNeAt.list_none p1 hu⟩
     ·exact ⟨SeqAt.RcAt.list_bool _ p1 hu,SeqAt.RcNeAt.list_bool _ p1 hu⟩
     ·exact ⟨SeqAt.RcAt.list_int _ _ p1 hu,SeqAt.RcNeAt.list_int _ _ p1 hu⟩
     ·exact ⟨SeqAt.RcAt.list_str _ _ p1 hu,SeqAt.RcNeAt.list_str _ _ p1 hu⟩
   | nQ =>
    cases k2 with
    | tup ws =>
     obtain ⟨a2,d0,ys,rfl,p2,vb,rb⟩:=s2
     cases e
     rcases s1 with ⟨_,rfl⟩ | ⟨k,_,rfl⟩ | ⟨k,t,_,rfl⟩ | ⟨k,t,_,rfl⟩
     ·exact ⟨SeqAt.RcAt.none_tuple p2 hu,SeqAt.RcNeAt.none_tuple p2 hu⟩
     ·exact ⟨SeqAt.RcAt.bool_tuple _ p2 hu,SeqAt.RcNeAt.bool_tuple _ p2 hu⟩
     ·exact ⟨SeqAt.RcAt.int_tuple _ _ p2 hu,SeqAt.RcNeAt.int_tuple _ _ p2 hu⟩
     ·exact ⟨SeqAt.RcAt.str_tuple _ _ p2 hu,SeqAt.RcNeAt.str_tuple _ _ p2 hu⟩
    | lst ws =>
     obtain ⟨a2,d0,ys,rfl,p2,vb,rb⟩:=s2
     cases e
     rcases s1 with ⟨_,rfl⟩ | ⟨k,_,rfl⟩ | ⟨k,t,_,rfl⟩ | ⟨k,t,_,rfl⟩
     ·exact ⟨SeqAt.RcAt.none_list p2 hu,SeqAt.RcNeAt.none_list p2 hu⟩
     ·exact ⟨SeqAt.RcAt.bool_list _ p2 hu,SeqAt.RcNeAt.bool_list _ p2 hu⟩
     ·exact ⟨SeqAt.RcAt.int_list _ _ p2 hu,SeqAt.RcNeAt.int_list _ _ p2 hu⟩
     ·exact ⟨SeqAt.RcAt.str_list _ _ p2 hu,SeqAt.RcNeAt.str_list _ _ p2 hu⟩
    | nQ =>
     injection e with e
     subst e
     rcases s1 with ⟨rfl,rfl⟩ | ⟨i,rfl,rfl⟩ | ⟨i,t,rfl,rfl⟩ | ⟨i,t,rfl,rfl⟩ <;> rcases s2 with ⟨rfl,rfl⟩ | ⟨j,rfl,rfl⟩ | ⟨j,t',rfl,rfl⟩ | ⟨j,t',rfl,rfl⟩
     ·exact ⟨SeqAt.RcAt.none_none,SeqAt.RcNeAt.none_none⟩
     ·exact ⟨SeqAt.RcAt.none_bool _,SeqAt.RcNeAt.none_bool _⟩
     ·exact ⟨SeqAt.RcAt.none_int _ _,SeqAt.RcNeAt.none_int _ _⟩
     ·exact ⟨SeqAt.RcAt.none_str _ _,SeqAt.RcNeAt.none_str _ _⟩
     ·exact ⟨SeqAt.RcAt.bool_none _,SeqAt.RcNeAt.bool_none _⟩
     ·exact ⟨SeqAt.RcAt.bool_bool _ _,SeqAt.RcNeAt.bool_bool _ _⟩
     ·exact ⟨SeqAt.RcAt.bool_int _ _ _,SeqAt.RcNeAt.bool_int _ _ _⟩
     ·exact ⟨SeqAt.RcAt.bool_str _ _ _,SeqAt.RcNeAt.bool_str _ _ _⟩
     ·exact ⟨SeqAt.RcAt.int_none _ _,SeqAt.RcNeAt.int_none _ _⟩
     ·exact ⟨SeqAt.RcAt.int_bool _ _ _,SeqAt.RcNeAt.int_bool _ _ _⟩
     ·exact ⟨SeqAt.RcAt.int_int _ _ _ _,SeqAt.RcNeAt.int_int _ _ _ _⟩
     ·exact ⟨SeqAt.RcAt.int_str _ _ _ _,SeqAt.RcNeAt.int_str _ _ _ _⟩
     ·exact ⟨SeqAt.RcAt.str_none _ _,SeqAt.RcNeAt.str_none _ _⟩
     ·exact ⟨SeqAt.RcAt.str_bool _ _ _,SeqAt.RcNeAt.str_bool _ _ _⟩
     ·exact ⟨SeqAt.RcAt.str_int _ _ _ _,SeqAt.RcNeAt.str_int _ _ _ _⟩
     ·exact ⟨SeqAt.RcAt.str_str _ _ _ _,SeqAt.RcNeAt.str_str _ _ _ _⟩
theorem DC {A:Around} {u w:Val} {v1 v2:Value} (s1:AE X ρ H s .nQ u v1) (s2:AE X ρ H s .nQ w v2):SeqAt.EqAt A s v1 v2 (Hc u w):=by
 rcases s1 with ⟨rfl,rfl⟩ | ⟨i,rfl,rfl⟩ | ⟨i,t,rfl,rfl⟩ | ⟨i,t,rfl,rfl⟩ <;> rcases s2 with ⟨rfl,rfl⟩ | ⟨j,rfl,rfl⟩ | ⟨j,t',rfl,rfl⟩ | ⟨j,t',rfl,rfl⟩
 ·exact SeqAt.EqAt.same _
 ·exact SeqAt.EqAt.none_bool _
 ·exact SeqAt.EqAt.none_int _ _
 ·exact SeqAt.EqAt.none_str _ _
 ·exact SeqAt.EqAt.bool_none _
 ·exact SeqAt.EqAt.bool_bool _ _
 ·exact SeqAt.EqAt.bool_int _ _ _
 ·exact SeqAt.EqAt.bool_str _ _ _
 ·exact SeqAt.EqAt.int_none _ _
 ·exact SeqAt.EqAt.int_bool _ _ _
 ·exact SeqAt.EqAt.int_int _ _ _ _
 ·exact SeqAt.EqAt.int_str _ _ _ _
 ·exact SeqAt.EqAt.str_none _ _
 ·exact SeqAt.EqAt.str_bool _ _ _
 ·exact SeqAt.EqAt.str_int _ _ _ _
 ·exact SeqAt.EqAt.str_str _ _ _ _
theorem vR (I:Inv X pins σ H s) (sr:SR X.K ρ st H):∀ (n:Nat) (A:Around),A.units + n < cLine → ∀ (u w:Val) (x y:V) (v1 v2:Value) (b:Bool),Rl X.K ρ H u x → RelV x v1 → Rl X.K ρ H w y → RelV y v2 → nV n st u w = some b → SeqAt.EqAt A s v1 v2 b
 | 0,_,_,_,_,_,_,_,_,_,_,_,_,_,e => by cases e
 | n + 1,A,hu,u,w,x,y,v1,v2,b,r1,q1,r2,q2,e => by
  have rc:=(He I sr n (fun u w x y vu vw c a1 a2 a3 a4 a5 => vR I sr n A.in1 (by rw [in1_units]; lia) u w x y vu vw c a1 a2 a3 a4 a5) (by lia) r1 q1 r2 q2 e).1
  have refs:∀ a a2,v1 = .ref a → v2 = .ref a2 → SeqAt.EqAt A s v1 v2 b:=by
   intro a a2 e1 e2
   subst e1 e2
   by_cases hn:a = a2
   ·subst hn
    have hx:x = y:=q1.inj q2
    subst hx
    rw [xg I sr (n + 1) u w x b r1 r2 e]
    exact SeqAt.EqAt.same _
   ·exact SeqAt.EqAt.of_refs hn rc
  cases z1:vw st u with
  | none => unfold nV at e; rw [z1] at e; cases e
  | some k1 =>
   cases z2:vw st w with
   | none => unfold nV at e; rw [z1,z2] at e; cases k1 <;> cases e
   | some k2 =>
    have s1:=seen I sr r1 q1 z1
    have s2:=seen I sr r2 q2 z2
    unfold nV at e
    rw [z1,z2] at e
    cases k1 with
    | tup us =>
     obtain ⟨a,aN,xs,rfl,p1,va,ra⟩:=s1
     cases k2 with
     | tup ws => obtain ⟨a2,d0,ys,rfl,p2,vb,rb⟩:=s2; exact refs a a2 rfl rfl
     | lst ws => obtain ⟨a2,d0,ys,rfl,p2,vb,rb⟩:=s2; exact refs a a2 rfl rfl
     | nQ =>
      cases e
      rcases s2 with ⟨_,rfl⟩ | ⟨k,_,rfl⟩ | ⟨k,t,_,rfl⟩ | ⟨k,t,_,rfl⟩
      ·exact SeqAt.EqAt.tuple_none p1 (by lia)
      ·exact SeqAt.EqAt.tuple_bool _ p1 (by lia)
      ·exact SeqAt.EqAt.tuple_int _ _ p1 (by lia)
      ·exact SeqAt.EqAt.tuple_str _ _ p1 (by lia)
    | lst us =>
     obtain ⟨a,aN,xs,rfl,p1,va,ra⟩:=s1
     cases k2 with
     | tup ws => obtain ⟨a2,d0,ys,rfl,p2,vb,rb⟩:=s2; exact refs a a2 rfl rfl
     | lst ws => obtain ⟨a2,d0,ys,rfl,p2,vb,rb⟩:=s2; exact refs a a2 rfl rfl
     | nQ =>
      cases e
      rcases s2 with ⟨_,rfl⟩ | ⟨k,_,rfl⟩ | ⟨k,t,_,rfl⟩ | ⟨k,t,_,rfl⟩
      ·exact SeqAt.EqAt.list_none p1 (by lia)
      ·exact SeqAt.EqAt.list_bool _ p1 (by lia)
      ·exact SeqAt.EqAt.list_int _ _ p1 (by lia)
      ·exact SeqAt.EqAt.list_str _ _ p1 (by lia)
    | nQ =>
     cases k2 with
     | tup ws =>
      obtain ⟨a2,d0,ys,rfl,p2,vb,rb⟩:=s2
      cases e
      rcases s1 with ⟨_,rfl⟩ | ⟨k,_,rfl⟩ | ⟨k,t,_,rfl⟩ | ⟨k,t,_,rfl⟩
      ·exact SeqAt.EqAt.none_tuple p2 (by lia)
      ·exact SeqAt.EqAt.bool_tuple _ p2 (by lia)
      ·exact SeqAt.EqAt.int_tuple _ _ p2 (by lia)
      ·exact SeqAt.EqAt.str_tuple _ _ p2 (by lia)
     | lst ws =>
      obtain ⟨a2,d0,ys,rfl,p2,vb,rb⟩:=s2
      cases e
      rcases s1 with ⟨_,rfl⟩ | ⟨k,_,rfl⟩ | ⟨k,t,_,rfl⟩ | ⟨k,t,_,rfl⟩
      ·exact SeqAt.EqAt.none_list p2 (by lia)
      ·exact SeqAt.EqAt.bool_list _ p2 (by lia)
      ·exact SeqAt.EqAt.int_list _ _ p2 (by lia)
      ·exact SeqAt.EqAt.str_list _ _ p2 (by lia)
     | nQ =>
      injection e with e
      subst e
      exact DC s1 s2
noncomputable def hZ:F2:=fun u w st => match nV 16 st u w with
 | some b => .ok (.bl b) st
 | none => .bad
noncomputable def m5:F2:=fun u w st => match nV 16 st u w with
 | some b => .ok (.bl (!b)) st
 | none => .bad
theorem d4 {E:XK} (hu:X.A.units + 64 < cLine):eQ X (compareOp .Eq) (rM (wo X) E hZ):=by
 intro pins s σ H x y v u Q I rx ry h
 obtain ⟨ρ,st,u1,w1,sr,r1,r2,h⟩:=h
 unfold hZ at h
 split at h
 ·rename_i b e
  exact (He I sr 15 (vR I sr 15 X.A.in1 (by rw [in1_units]; lia)) (by lia) r1 rx r2 ry e).1 X.prog X.w X.xe (EP X pins σ Q) ⟨.bl b,H,I,rfl,jf sr h⟩
 ·exact h.elim
theorem jY {E:XK} (hu:X.A.units + 64 < cLine):eQ X (compareOp .NotEq) (rM (wo X) E m5):=by
 intro pins s σ H x y v u Q I rx ry h
 obtain ⟨ρ,st,u1,w1,sr,r1,r2,h⟩:=h
 unfold m5 at h
 split at h
 ·rename_i b e
  exact (He I sr 15 (vR I sr 15 X.A.in1 (by rw [in1_units]; lia)) (by lia) r1 rx r2 ry e).2 X.prog X.w X.xe (EP X pins σ Q) ⟨.bl (!b),H,I,rfl,jf sr h⟩
 ·exact h.elim
noncomputable def Fg (st:ah):Val → Option (List Val)
 | .tup us => some us
 | .mt us => some us
 | .loc n => itemsOf st n
 | _ => none
noncomputable def Hf (neg:Bool):F2:=fun u w st => match Fg st w with
 | some us => if flat u = true ∧ us.all flat = true then .ok (.bl (if neg then !us.any (fun y => Hc y u) else us.any (fun y => Hc y u))) st else .bad
 | none => .bad
theorem kA {K:PySem.W.Frag} {u w:Val} {x y:V} (f1:flat u = true) (f2:flat w = true) (r1:Rl K ρ H u x) (r2:Rl K ρ H w y):jc x = true ∧ jc y = true ∧ Ct x y = Hc u w:=by
 cases u <;> (try cases f1) <;> cases w <;> (try cases f2) <;>
  (first | (have z1:=Rl.cn r1; subst z1) | (have z1:=Rl.tw r1; subst z1) | (have z1:=Rl.jd r1; subst z1) | (have z1:=Rl.oI r1; subst z1)) <;>
  (first | (have z2:=Rl.cn r2; subst z2) | (have z2:=Rl.tw r2; subst z2) | (have z2:=Rl.jd r2; subst z2) | (have z2:=Rl.oI r2; subst z2)) <;> exact ⟨rfl,rfl,rfl⟩
theorem kB {K:PySem.W.Frag} {u:Val} {x:V} (f:flat u = true) (r:Rl K ρ H u x):∀ {us:List Val} {vs:List V},us.all flat = true → aZ K ρ H us vs → vs.all jc = true ∧ LR x vs = us.any fun y => Hc y u
 | [],vs,_,h => by rw [h.gJ]; exact ⟨rfl,rfl⟩
 | w :: us,vs,hf,h => by
  obtain ⟨v,r',rfl,h2,h3⟩:=h.du
  rw [List.all_cons,Bool.and_eq_true] at hf
  obtain ⟨a,b,c⟩:=kA hf.1 f h2 r
  obtain ⟨d,e⟩:=kB f r hf.2 h3
  refine ⟨by rw [List.all_cons,a,d]; rfl,?_⟩
  show (Ct v x || LR x r') = _
  rw [c,e]; rfl
theorem DD {E:XK} {neg:Bool} {x y:V} {H:Hp} {Q:VK} (h:rM (wo X) E (Hf neg) x y H Q):SW X.K neg x y H Q:=by
 obtain ⟨ρ,st,u,w,sr,r1,r2,h⟩:=h
 unfold Hf at h
 split at h
 ·rename_i us e
  split at h
  ·rename_i hz
   cases w with
   | tup ws =>
    cases e
    obtain ⟨a,vs,rfl,ha,ra⟩:=r2.gR
    obtain ⟨q1,q2⟩:=kB hz.1 r1 hz.2 ra
    refine ⟨a,vs,rfl,.inr ha,(kA hz.1 hz.1 r1 r1).1,q1,?_⟩
    rw [q2]
    exact jf sr h
   | mt ws =>
    cases e
    obtain ⟨a,vs,rfl,ha,ra⟩:=r2.Ti
    obtain ⟨q1,q2⟩:=kB hz.1 r1 hz.2 ra
    refine ⟨a,vs,rfl,.inr ha,(kA hz.1 hz.1 r1 r1).1,q1,?_⟩
    rw [q2]
    exact jf sr h
   | loc n =>
    obtain ⟨a,rfl,ha⟩:=r2.fA
    obtain ⟨vs,hs,ra⟩:=bD sr e ha
    obtain ⟨q1,q2⟩:=kB hz.1 r1 hz.2 ra
    refine ⟨a,vs,rfl,.inl hs,(kA hz.1 hz.1 r1 r1).1,q1,?_⟩
    rw [q2]
    exact jf sr h
   | _ => cases e
  ·exact h.elim
 ·exact h.elim
theorem Hg {E:XK}:eQ X (compareOp .In) (rM (wo X) E (Hf false)):=eQ.imp yh fun _ _ _ _ h => DD h
end
end MN
namespace MN
open PySem PySem.Spec L2
open PyProof.Rows hiding St
section
variable {X:Cx} {E:XK} {pos:Pos}
noncomputable def de:F2
 | .tup us,.int i,st => match oz us i with
  | some v => .ok v st
  | none => .bad
 | .loc n,.int i,st => match itemsOf st n with
  | some us => match oz us i with
   | some v => .ok v st
   | none => .bad
  | none => .bad
 | .str z,.int i,st => if z.length ≤ sizeLine then (match oz z.cps.toList i with
   | some c => .ok (.str ⟨#[c]⟩) st
   | none => .bad) else .bad
 | _,_,_ => .bad
theorem aZ.oz {K:PySem.W.Frag} {ρ:List Addr} {H:Hp} {us:List Val} {vs:List V} {i:Int} {u:Val} (r:aZ K ρ H us vs) (h:oz us i = some u):∃ v,L2.oz vs i = some v ∧ Rl K ρ H u v:=by
 unfold L2.oz at h ⊢
 rw [← r.length]
 cases z:Gy us.length i with
 | none => rw [z] at h; cases h
 | some j =>
  rw [z] at h
  obtain ⟨v,h1,h2⟩:=r.get (show us[j]? = some u from h)
  exact ⟨v,h1,h2⟩
theorem N7:vq X (rM (wo X) E de):=by
 refine vq.imp (vq.or C2 (vq.or vI Gz)) ?_
 rintro x y H Q ⟨ρ,st,u,w,sr,r1,r2,h⟩
 cases u <;> cases w <;> try exact h.elim
 case tup.int us i =>
  unfold de at h
  dsimp only at h
  split at h
  ·rename_i v e
   obtain ⟨a,vs,rfl,ha,ra⟩:=r1.gR
   obtain ⟨z,h1,h2⟩:=ra.oz e
   exact .inr (.inl ⟨a,vs,i,z,rfl,r2.cn,ha,h1,h ρ H z (Step.refl _ _) sr h2⟩)
  ·exact h.elim
 case loc.int n i =>
  unfold de at h
  dsimp only at h
  split at h
  ·rename_i us e
   split at h
   ·rename_i v e'
    obtain ⟨a,rfl,ha⟩:=r1.fA
    obtain ⟨vs,hs,rv⟩:=bD sr e ha
    obtain ⟨z,h1,h2⟩:=rv.oz e'
    exact .inl ⟨a,vs,i,z,rfl,r2.cn,hs,h1,h ρ H z (Step.refl _ _) sr h2⟩
   ·exact h.elim
  ·exact h.elim
 case str.int z i =>
  unfold de at h
  dsimp only at h
  split at h
  ·rename_i hz
   split at h
   ·rename_i c e
    exact .inr (.inr ⟨z,i,c,r1.jd,r2.cn,hz,e,h ρ H _ (Step.refl _ _) sr (Rl.mkStr _)⟩)
   ·exact h.elim
  ·exact h.elim
noncomputable def d8:FN
 | [.tup us],st => .ok (.int us.length) st
 | [.loc n],st => match itemsOf st n with
  | some us => .ok (.int us.length) st
  | none => .bad
 | [.str z],st => if z.length ≤ sizeLine then .ok (.int z.length) st else .bad
 | _,_ => .bad
theorem dU:cJ X (.builtin "len") (cM (wo X) E d8):=by
 refine cJ.imp (cJ.or rQ rR) ?_
 rintro xs H Q ⟨ρ,st,us,sr,r,h⟩
 match us,r,h with
 | [],_,h => exact h.elim
 | [.tup ws],r,h =>
  obtain ⟨v,rfl,r1⟩:=r.As
  obtain ⟨a,vs,rfl,ha,ra⟩:=r1.gR
  refine .inl ⟨a,vs,rfl,.inr ha,?_⟩
  rw [← ra.length]; exact dw sr h
 | [.loc n],r,h =>
  obtain ⟨v,rfl,r1⟩:=r.As
  obtain ⟨a,rfl,ha⟩:=r1.fA
  unfold d8 at h
  dsimp only at h
  split at h
  ·rename_i ws e
   obtain ⟨vs,hs,rv⟩:=bD sr e ha
   refine .inl ⟨a,vs,rfl,.inl hs,?_⟩
   rw [← rv.length]; exact dw sr h
  ·exact h.elim
 | [.str z],r,h =>
  obtain ⟨v,rfl,r1⟩:=r.As
  unfold d8 at h
  dsimp only at h
  split at h
  ·rename_i hz
   exact .inr ⟨z,by rw [r1.jd],hz,dw sr h⟩
  ·exact h.elim
 | [.eR],_,h => exact h.elim
 | [.bl _],_,h => exact h.elim
 | [.int _],_,h => exact h.elim
 | [.exc _],_,h => exact h.elim
 | [.fn _ _],_,h => exact h.elim
 | [.mt _],_,h => exact h.elim
 | x :: y :: r,_,h => cases x <;> exact h.elim
noncomputable def oO:FN
 | [.tup us],st => .ok (.tup us) st
 | [.loc n],st => match itemsOf st n with
  | some us => .ok (.tup us) st
  | none => .bad
 | _,_ => .bad
theorem lM:cJ X (.type "tuple") (cM (wo X) E oO):=by
 refine cJ.imp p9 ?_
 rintro xs H Q ⟨ρ,st,us,sr,r,h⟩
 unfold oO at h
 split at h
 ·rename_i ws
  obtain ⟨v,rfl,r1⟩:=r.As
  obtain ⟨a,vs,rfl,ha,ra⟩:=r1.gR
  exact ⟨a,vs,rfl,.inr ⟨ha,h ρ H _ (Step.refl _ _) sr r1⟩⟩
 ·rename_i n
  obtain ⟨v,rfl,r1⟩:=r.As
  obtain ⟨a,rfl,ha⟩:=r1.fA
  split at h
  ·rename_i ws e
   obtain ⟨vs,hs,rv⟩:=bD sr e ha
   refine ⟨a,vs,rfl,.inl ⟨hs,fun l hl => ?_⟩⟩
   have s:=d6 (o:=.tup vs) hl
   exact h ρ _ _ (Step.same s) (sr.grow s) (Rl.t_ bw (aZ.mono (Step.same s) _ _ rv))
  ·exact h.elim
 ·exact h.elim
noncomputable def jZ:FN
 | [.tup us],st => .ok (.loc st.length) (st ++ [.lst us])
 | [.loc n],st => match itemsOf st n with
  | some us => .ok (.loc st.length) (st ++ [.lst us])
  | none => .bad
 | _,_ => .bad
theorem lN:cJ X (.type "list") (cM (wo X) E jZ):=by
 refine cJ.imp rS ?_
 rintro xs H Q ⟨ρ,st,us,sr,r,h⟩
 unfold jZ at h
 split at h
 ·rename_i ws
  obtain ⟨v,rfl,r1⟩:=r.As
  obtain ⟨a,vs,rfl,ha,ra⟩:=r1.gR
  refine ⟨a,vs,rfl,.inr ha,fun l hl => ?_⟩
  obtain ⟨k1,k2,k3⟩:=iE sr ra hl
  exact h _ _ _ k1 k2 k3
 ·rename_i n
  obtain ⟨v,rfl,r1⟩:=r.As
  obtain ⟨a,rfl,ha⟩:=r1.fA
  split at h
  ·rename_i ws e
   obtain ⟨vs,hs,rv⟩:=bD sr e ha
   refine ⟨a,vs,rfl,.inl hs,fun l hl => ?_⟩
   obtain ⟨k1,k2,k3⟩:=iE sr rv hl
   exact h _ _ _ k1 k2 k3
  ·exact h.elim
 ·exact h.elim
noncomputable def kC:List Val → Option (List Bool)
 | [] => some []
 | .bl b :: r => (kC r).map (b :: ·)
 | _ => none
theorem qG {K:PySem.W.Frag} {ρ:List Addr} {H:Hp}:∀ {us:List Val} {bs:List Bool} {vs:List V} {aN:List Value},kC us = some bs → aZ K ρ H us vs → Vals vs aN → LSm.BoolsAre aN bs
 | [],bs,vs,aN,h,r,v => by
  cases h
  have:=r.gJ
  subst this
  cases v
  exact .nil
 | u :: us,bs,vs,aN,h,r,v => by
  cases u with
  | bl b =>
   simp only [kC] at h
   cases z:kC us with
   | none => rw [z] at h; cases h
   | some XG =>
    rw [z] at h
    cases h
    obtain ⟨x,r',rfl,h2,h3⟩:=r.du
    have:=h2.tw
    subst this
    cases v with
    | cons q1 q2 =>
     cases q1
     exact .cons b (qG z h3 q2)
  | _ => cases h
theorem oP (hh:X.A.handled = none):cJ X (.builtin "all") (fun xs H Q => ∃ a ρ us vs bs,xs = [.ref a] ∧ mV X.K H a vs ∧ aZ X.K ρ H us vs ∧ kC us = some bs ∧ Q (.bl (bs.all id)) H):=by
 rintro pins s σ H xs ws Q I r ⟨a,ρ,us,vs,bs,rfl,hs,rv,hb,q⟩
 obtain ⟨u,rfl,ru⟩:=vals1 r
 cases ru
 obtain ⟨aN,r1,p1,_⟩:=I.list hs
 have B:=qG hb rv r1
 have hl:=p1.isList
 have vx:a < s.heap.objs.size:=by obtain ⟨_,e,_⟩:=hl; exact Heap.lt_size e
 refine call_all_walk (wpAny_pyIter_list hl ?_)
 refine ⟨s.heap.objs.size,[s.heap.objs.size,a],[s.heap.objs.size],aN.toArray.size,_,_,fun i => (bs[i]?).getD true,rfl,Walks.list (A:=X.A.in1) hh _ a (Nat.ne_of_lt vx) aN.toArray,
  ⟨⟨_,Heap.get?_push_size _ rfl,rfl,rfl⟩,hl.push _⟩,fun i v s' Q' E' hP hQ => ?_,fun h' tk hk => ?_⟩
 ·obtain ⟨b,e,rfl⟩:=B.get i v (by simpa using hP)
  simp only [e,Option.getD_some] at hQ
  exact wpAny_truthy_bool hQ
 ·have e:((List.range aN.toArray.size).all fun i => (bs[i]?).getD true) = bs.all id:=by
   rw [List.size_toArray,B.length]; exact LSm.range_all bs
  rw [e]
  exact ⟨.bl _,H,I.kept (LSm.kept_iter hk),rfl,q⟩
noncomputable def AG:FN
 | [.loc n],st => match itemsOf st n with
  | some us => match kC us with
   | some bs => .ok (.bl (bs.all id)) st
   | none => .bad
  | none => .bad
 | _,_ => .bad
theorem yz (hh:X.A.handled = none):cJ X (.builtin "all") (cM (wo X) E AG):=by
 refine cJ.imp (oP hh) ?_
 rintro xs H Q ⟨ρ,st,us,sr,r,h⟩
 unfold AG at h
 split at h
 ·rename_i n
  obtain ⟨v,rfl,r1⟩:=r.As
  obtain ⟨a,rfl,ha⟩:=r1.fA
  split at h
  ·rename_i ws e
   split at h
   ·rename_i bs hb
    obtain ⟨vs,hs,rv⟩:=bD sr e ha
    exact ⟨a,ρ,ws,vs,bs,rfl,hs,rv,hb,jf sr h⟩
   ·exact h.elim
  ·exact h.elim
 ·exact h.elim
noncomputable def kindOf (st:ah):Val → Option String
 | .eR => some "NoneType"
 | .bl _ => some "bool"
 | .int _ => some "int"
 | .str _ => some "str"
 | .tup _ => some "tuple"
 | .loc n => match st[n]? with
  | some (.lst _) => some "list"
  | some (.Fc _) => some "list"
  | some (.mod _) => none
  | some (.dK _) => some "dict"
  | some (.dT _) => some "dict"
  | _ => none
 | _ => none
noncomputable def Kk (T:String) (st:ah) (v:Val):Option Bool:=(kindOf st v).map fun k => k == T || (k == "bool" && T == "int")
noncomputable def vS (T:String) (m:ME):ME:=fun μ st => (m μ st).bind fun v av => match Kk T av v with
 | some b => .ok (.bl b) av
 | none => .bad
noncomputable def AH (K:PySem.W.Frag) (T:String):Prop:=∀ k ∈ ["NoneType","bool","int","str","tuple","list","dict"],PySem.W.kitOne K (.type k) (.type T) = some (k == T || (k == "bool" && T == "int"))
theorem vT {st:ah} {v:Val} {k:String} (h:kindOf st v = some k):k ∈ ["NoneType","bool","int","str","tuple","list","dict"]:=by
 unfold kindOf at h
 split at h
 all_goals first
  | (cases h; decide)
  | (split at h <;> first | (cases h; decide) | cases h)
  | cases h
theorem AI {pins:List (Addr × Obj)} {σ:St} {H:Hp} {s:Shared} {A:Around} {E:Value → Shared → Prop} {Q:Value → Shared → Prop} {c:Value} {b:Bool} {ρ:List Addr} {st:ah} {u:Val} {x:V} {v:Value} {k:String}
  (I:Inv X pins σ H s) (sr:SR X.K ρ st H) (r:Rl X.K ρ H u x) (q:RelV x v) (hk:kindOf st u = some k) (e:PySem.W.kitOne X.K (.type k) c = some b) (h:∀ tk,Q (.bool b) { s with toks:=tk }) :
  wpAny (model X.prog X.w) A (call (.builtin "isinstance") [v,c]) Q E s:=by
 cases u with
 | eR => cases hk; have:=r.oI; subst this; exact eS I q .eR e h
 | bl y => cases hk; have:=r.tw; subst this; exact eS I q (.bl y) e h
 | int i => cases hk; have:=r.cn; subst this; exact eS I q (.int i) e h
 | str y => cases hk; have:=r.jd; subst this; exact eS I q (.str y) e h
 | tup us =>
  cases hk
  obtain ⟨a,vs,rfl,ha,ra⟩:=r.gR
  cases q
  obtain ⟨aN,r1,⟨o,h1,h2,_⟩,_⟩:=I.tuple ha
  exact PySem.W.kia_one PySem.W.kitx_tuple I.mS ⟨o,h1,h2⟩ e (fun z => nomatch z) h
 | loc n =>
  obtain ⟨a,rfl,ha⟩:=r.fA
  obtain ⟨cl,hc,kc⟩:=sr.there ha
  simp only [kindOf,hc] at hk
  cases cl with
  | lst us => cases hk; obtain ⟨vs,h1,_⟩:=kc; exact eS I q (.lst h1) e h
  | Fc us => cases hk; obtain ⟨o,vs,h1,_⟩:=kc; exact eS I q (.fQ h1) e h
  | mod us => cases hk
  | dK us => cases hk; obtain ⟨vs,h1,_⟩:=kc; exact eS I q (.dK h1) e h
  | dT us => cases hk; obtain ⟨vs,h1,_⟩:=kc; exact eS I q (.dT h1) e h
  | tab _ _ _ _ => cases hk
 | exc c => cases hk
 | fn k c => cases hk
 | mt us => cases hk
theorem j4 {T:String} {x:Str} {e:Expr} {m:ME} {p q:Pos} (hK:AH X.K T) (hg:Gl X "isinstance") (hm:X.mg "isinstance" = none) (U1:Gl X x) (U2:X.mg x = none) (U3:bootBuiltins x = some (.type T)) (he:PE X e (tE X E m))
  (hn:x ≠ "__name__":=by decide) (hd:(x == ("__debug__":Str)) = false:=by decide)
  (hs:starEach [e,.Name x q] X.env = (false,eval e X.env) :: starEach [.Name x q] X.env:=by rfl) (hR:starEach [.Name x q] X.env = (false,eval (.Name x q) X.env) :: starEach [] X.env:=by rfl)
  (hU:(backTo pos (starEach [.Name x q] X.env)).any (·.1) = false:=by rfl):PE X (.Call (.Name "isinstance" p) [e,.Name x q] [] pos) (tE X E (vS T m)):=by
 have hc:cJ X (.builtin "isinstance") (fun xs H Q => ∃ y ρ st u k b,xs = [y,.ty T] ∧ SR X.K ρ st H ∧ Rl X.K ρ H u y ∧ kindOf st u = some k ∧ PySem.W.kitOne X.K (.type k) (.type T) = some b ∧ Q (.bl b) H):=by
  rintro pins s σ H xs us Q I r ⟨y,ρ,st,u,k,b,rfl,sr,r1,h1,h2,h3⟩
  obtain ⟨v1,v2,rfl,q1,q2⟩:=vals2 r
  cases q2
  exact AI I sr r1 q1 h1 h2 fun tk => ⟨.bl b,H,I.tok tk,rfl,h3⟩
 refine PE.imp (oy hc hg hm PyProof.Rows.boot_isinstance (iA he (iA (wO (v:=.ty T) U1 U2 U3 rfl hn hd) rH hR) hs) (by decide) (by decide) hs hU) ?_
 rintro σ H Q ⟨μ,ρ,st,rs,sr,h⟩
 refine go μ ρ st rs sr h fun u aQ ρ1 H1 x e1 bU r1 h1 => ?_
 cases z:kindOf aQ u with
 | none => simp only [Kk,z] at h1; exact h1.elim
 | some k =>
  simp only [Kk,z] at h1
  exact ⟨x,ρ1,aQ,u,k,_,rfl,bU,r1,z,hK k (vT z),jf bU h1⟩
end
theorem uj {K:PySem.W.Frag}:AH K "int":=by
 intro k hk
 simp only [List.mem_cons,List.mem_nil_iff,or_false] at hk
 rcases hk with rfl | rfl | rfl | rfl | rfl | rfl | rfl <;> first | rfl | kernel_rfl
theorem qH {K:PySem.W.Frag}:AH K "bool":=by
 intro k hk
 simp only [List.mem_cons,List.mem_nil_iff,or_false] at hk
 rcases hk with rfl | rfl | rfl | rfl | rfl | rfl | rfl <;> first | rfl | kernel_rfl
theorem oQ {K:PySem.W.Frag}:AH K "tuple":=by
 intro k hk
 simp only [List.mem_cons,List.mem_nil_iff,or_false] at hk
 rcases hk with rfl | rfl | rfl | rfl | rfl | rfl | rfl <;> first | rfl | kernel_rfl
theorem yA {K:PySem.W.Frag}:AH K "list":=by
 intro k hk
 simp only [List.mem_cons,List.mem_nil_iff,or_false] at hk
 rcases hk with rfl | rfl | rfl | rfl | rfl | rfl | rfl <;> first | rfl | kernel_rfl
end MN
namespace MN
open PySem PySem.Spec L2
open PyProof.Rows hiding St
noncomputable abbrev AS:=Val → Env → Option Env
noncomputable def aName (i:Nat):AS:=fun v μ => some (μ.set i (some v))
noncomputable def qI:List AS → List Val → Env → Option Env
 | [],[],μ => some μ
 | a :: as,v :: vs,μ => (a v μ).bind fun μ' => qI as vs μ'
 | _,_,_ => none
noncomputable def i4 (l:List AS):AS:=fun v μ => match v with
 | .tup vs => qI l vs μ
 | _ => none
noncomputable def tA (W:Wo) (a:AS):TG:=fun v σ H Q => ∃ μ ρ u μ',RS W ρ H μ σ ∧ Rl W.K ρ H u v ∧ a u μ = some μ' ∧ ∀ σ',RS W ρ H μ' σ' → Q σ' H
noncomputable def Mb (W:Wo) (l:List AS):CL:=fun vs σ H Q => ∃ μ ρ us μ',RS W ρ H μ σ ∧ aZ W.K ρ H us vs ∧ qI l us μ = some μ' ∧ ∀ σ',RS W ρ H μ' σ' → Q σ' H
section
variable {X:Cx} {pos:Pos}
theorem x9.imp {e:List Expr} {t t':CL} (h:x9 X e t) (k:∀ v σ H Q,t' v σ H Q → t v σ H Q):x9 X e t':=fun pins s σ H v u Q I r q => h pins s σ H v u Q I r (k v σ H Q q)
theorem bj (i:Nat) {x:Str} (hN:X.N.Nodup) (hi:X.N[i]? = some x:=by rfl) (hx:Loc X.env.scope x:=by first | exact Or.inl rfl | exact Or.inr rfl) (hf:X.fn x = true ∨ X.env.scope.names.lookup x = some .local:=by first | exact .inl rfl | exact .inr rfl | assumption):PG X (.Name x pos) (tA (wo X) (aName i)):=by
 refine PG.imp (CM hN hi hx hf) ?_
 rintro v σ H Q ⟨μ,ρ,u,μ',rs,r,e,q⟩
 cases e
 exact q _ (rs.set i r)
theorem nW:x9 X [] (Mb (wo X) []):=by
 refine x9.imp CN ?_
 rintro vs σ H Q ⟨μ,ρ,us,μ',rs,r,e,q⟩
 cases us with
 | nil => cases e; exact ⟨r.gJ,q σ rs⟩
 | cons => cases e
theorem fL {e:Expr} {es:List Expr} {a:AS} {as:List AS} (h1:PG X e (tA (wo X) a)) (h2:x9 X es (Mb (wo X) as)) (hs:(assignEach (e :: es) X.env).map (·.2) = assign e X.env :: (assignEach es X.env).map (·.2):=by rfl):x9 X (e :: es) (Mb (wo X) (a :: as)):=by
 refine x9.imp (zM h1 h2 hs) ?_
 rintro vs σ H Q ⟨μ,ρ,us,μ',rs,r,e,q⟩
 cases us with
 | nil => cases e
 | cons u us =>
  obtain ⟨v,r',rfl,ru,rr⟩:=r.du
  unfold qI at e
  cases z:a u μ with
  | none => rw [z] at e; cases e
  | some μ1 =>
   rw [z] at e
   exact ⟨v,r',rfl,μ,ρ,u,μ1,rs,ru,z,fun σ1 IQ => ⟨μ1,ρ,us,μ',IQ,rr,e,q⟩⟩
theorem sg {es:List Expr} {k:Nat} {l:List AS} (hc:X.calm = true) (h:x9 X es (Mb (wo X) l)) (hn:(assignEach es X.env).length = l.length:=by rfl) (zz:(assignEach es X.env).findIdx? (·.1) = none:=by rfl):PG X (.Tuple es k pos) (tA (wo X) (i4 l)):=by
 refine PG.imp (F1 hc h hn zz) ?_
 rintro v σ H Q ⟨μ,ρ,u,μ',rs,r,e,q⟩
 cases u with
 | tup us =>
  obtain ⟨a,vs,rfl,ha,ra⟩:=r.gR
  have len:∀ (l:List AS) (us:List Val) (μ:Env),qI l us μ = some μ' → us.length = l.length:=by
   intro l
   induction l with
   | nil => intro us μ e; cases us with | nil => rfl | cons => cases e
   | cons a l ih =>
    intro us μ e
    cases us with
    | nil => cases e
    | cons u us =>
     unfold qI at e
     cases z:a u μ with
     | none => rw [z] at e; cases e
     | some μ1 => rw [z] at e; rw [List.length_cons,List.length_cons,ih us μ1 e]
  exact ⟨a,vs,rfl,ha,by rw [← ra.length]; exact len _ _ _ e,μ,ρ,us,μ',rs,ra,e,q⟩
 | _ => cases e
noncomputable def U4 (a:AS) (m:ME):MB:=fun μ st => (m μ st).sb μ fun v av => match a v μ with
 | some μ' => .nx μ' av
 | none => .bad
end
noncomputable abbrev Itm:=List Val × (ah → Prop)
noncomputable abbrev MI:=Env → ah → Res Itm
noncomputable def Hh (K:PySem.W.Frag) (ρ0:List Addr) (H0:Hp) (p:Itm) (J:It):Prop :=
 ∀ ρ st H,Step ρ0 H0 ρ H → SR K ρ st H → p.2 st → ∀ i:Nat,
  (∀ u,p.1[i]? = some u → J.go i H ∧ ∀ x H',J.Jp i H x H' → Step ρ H ρ H' ∧ SR K ρ st H' ∧ Rl K ρ H' u x) ∧ (p.1.length ≤ i → J.stop i H)
noncomputable abbrev tI (X:Cx) (E:XK) (m:MI):TI:=tG (wo X) E (Hh X.K) m
section
variable {X:Cx} {E:XK} {tg:Expr} {pos p:Pos}
theorem PI.imp {it:Expr} {t t':TI} (h:PI X tg it t) (k:∀ σ H Q,t' σ H Q → t σ H Q):PI X tg it t':=fun pins s σ H R I q => h pins s σ H R I (k σ H R q)
theorem Hi {l:Expr} {tl:TE} (hl:PE X l tl):PI X tg l (fun σ H R => tl σ H fun x H1 => ∃ a,x = .ref a ∧ (((∃ xs,mV X.K H1 a xs) ∧ R (M8 X.K a) H1) ∨ ((∃ xs,jQ X.K H1 a xs) ∧ R (M9 X.K a) H1))):=by
 intro pins s σ H R I h
 refine c_ (hl pins s σ H _ I h) fun v s1 ⟨x,H1,I1,r1,q1⟩ => ?_
 obtain ⟨a,e,q⟩:=q1
 subst e
 cases r1
 rcases q with ⟨⟨xs,hq⟩,q⟩ | ⟨⟨xs,hq⟩,q⟩
 ·obtain ⟨aN,rv,p,hz⟩:=I1.list hq
  refine wpAny_pyIter_list p.isList ?_
  refine ⟨s1.heap.objs.size,[s1.heap.objs.size],_,_,H1,rfl,I1.kept (t':=s1.toks) fun b o e => Heap.get?_push_of_some _ e,x_ a _,⟨_,Heap.get?_push_size _ rfl,rfl,rfl⟩,fun b hb => ?_,q⟩
  have e:b = s1.heap.objs.size:=by simpa using hb
  subst e
  exact I1.zO (Nat.le_refl _) (I1.bK.fresh (Nat.le_refl _))
 ·obtain ⟨aN,rv,p,hz⟩:=I1.tuple hq
  refine wpAny_pyIter_tuple (show s1.heap.IsTuple a aN.toArray from p) ?_
  refine ⟨s1.heap.objs.size,[s1.heap.objs.size],_,_,H1,rfl,I1.kept (t':=s1.toks) fun b o e => Heap.get?_push_of_some _ e,vC a _,⟨_,Heap.get?_push_size _ rfl,rfl,rfl⟩,fun b hb => ?_,q⟩
  have e:b = s1.heap.objs.size:=by simpa using hb
  subst e
  exact I1.zO (Nat.le_refl _) (I1.bK.fresh (Nat.le_refl _))
noncomputable def oR (st:ah):Val → Option Itm
 | .tup us => some (us,fun _ => True)
 | .mt us => some (us,fun _ => True)
 | .loc n => (itemsOf st n).map fun us => (us,fun av => itemsOf av n = some us)
 | _ => none
noncomputable def fe (m:ME):MI:=fun μ st => (m μ st).bind fun v av => match oR av v with
 | some p => .ok p av
 | none => .bad
theorem AJ {K:PySem.W.Frag} {ρ:List Addr} {H:Hp} {n:Nat} {us:List Val} {a:Addr} (ha:ρ[n]? = some a) (N8:∀ {ρ':List Addr} {av:ah} {H':Hp},SR K ρ' av H' → itemsOf av n = some us → ρ'[n]? = some a → ∃ vs,mV K H' a vs ∧ aZ K ρ' H' us vs) :
  Hh K ρ H (us,fun av => itemsOf av n = some us) (M8 K a):=by
 intro ρ' av H' e sr g i
 obtain ⟨vs,hs,rv⟩:=N8 sr g (e.at_ ha)
 refine ⟨fun u hu => ?_,fun hi => ⟨vs,hs,by rw [← rv.length]; exact hi⟩⟩
 obtain ⟨v,hv,ru⟩:=rv.get hu
 refine ⟨⟨vs,v,hs,hv⟩,fun x Mc y => ?_⟩
 obtain ⟨rfl,y⟩:=y
 have e:=(y vs hs).symm.trans hv
 cases e
 exact ⟨Step.refl _ _,sr,ru⟩
theorem xh {K:PySem.W.Frag} {ρ:List Addr} {H:Hp} {us:List Val} {a:Addr} {vs:List V} (ha:jQ K H a vs) (ra:aZ K ρ H us vs):Hh K ρ H (us,fun _ => True) (M9 K a):=by
 intro ρ' av H' e sr g i
 have N9:jQ K H' a vs:=e.N1 ha
 have rv:=aZ.mono e _ _ ra
 refine ⟨fun u hu => ?_,fun hi => ⟨vs,N9,by rw [← rv.length]; exact hi⟩⟩
 obtain ⟨v,hv,ru⟩:=rv.get hu
 refine ⟨⟨vs,v,N9,hv⟩,fun x Mc y => ?_⟩
 obtain ⟨rfl,y⟩:=y
 have e:=(y vs N9).symm.trans hv
 cases e
 exact ⟨Step.refl _ _,sr,ru⟩
theorem gs {l:Expr} {m:ME} (hl:PE X l (tE X E m)):PI X tg l (tI X E (fe m)):=by
 refine PI.imp (Hi hl) ?_
 rintro σ H R ⟨μ,ρ,st,rs,sr,h⟩
 refine go μ ρ st rs sr h fun u aQ ρ1 H1 x e1 bU r1 h1 => ?_
 cases u with
 | tup us =>
  obtain ⟨a,vs,rfl,ha,ra⟩:=r1.gR
  exact ⟨a,rfl,.inr ⟨⟨vs,ha⟩,h1 ρ1 H1 _ (Step.refl _ _) bU (xh ha ra)⟩⟩
 | mt us =>
  obtain ⟨a,vs,rfl,ha,ra⟩:=r1.Ti
  exact ⟨a,rfl,.inr ⟨⟨vs,ha⟩,h1 ρ1 H1 _ (Step.refl _ _) bU (xh ha ra)⟩⟩
 | loc n =>
  obtain ⟨a,rfl,ha⟩:=r1.fA
  cases z:itemsOf aQ n with
  | none => simp only [oR,z] at h1; exact h1.elim
  | some us =>
   simp only [oR,z] at h1
   obtain ⟨vs,hs,rv⟩:=bD bU z ha
   exact ⟨a,rfl,.inl ⟨⟨vs,hs⟩,h1 ρ1 H1 _ (Step.refl _ _) bU (AJ ha fun s g h => bD s g h)⟩⟩
 | _ => exact h1.elim
noncomputable def aP (lo:Int) (n:Nat):List Val:=(List.range n).map fun (i:Nat) => Val.int (lo + (i:Int))
theorem qJ {K:PySem.W.Frag} {ρ:List Addr} {H:Hp} (lo:Int) (n:Nat):Hh K ρ H (aP lo n,fun _ => True) (Jq lo n):=by
 intro ρ' av H' e sr g i
 refine ⟨fun u hu => ?_,fun hi => ?_⟩
 ·have hi:i < n:=by
   have:=ff hu
   simpa [aP] using this
  refine ⟨hi,fun x Mc y => ?_⟩
  obtain ⟨rfl,rfl⟩:=y
  have e:u = Val.int (lo + (i:Int)):=by
   simp only [aP,List.getElem?_map] at hu
   rw [List.getElem?_range hi] at hu
   exact (Option.some.inj hu).symm
  subst e
  exact ⟨Step.refl _ _,sr,Rl.mkInt _⟩
 ·show n ≤ i
  simpa [aP] using hi
noncomputable def bJ (m:MA):MI:=fun μ st => (m μ st).bind fun vs av => match vs with
 | [.int j] => if -(2 ^ 62) ≤ j ∧ j < 2 ^ 62 then .ok (aP 0 j.toNat,fun _ => True) av else .bad
 | _ => .bad
noncomputable def gM (m:MA):MI:=fun μ st => (m μ st).bind fun vs av => match vs with
 | [.int i,.int j] => if -(2 ^ 62) ≤ i ∧ i < 2 ^ 62 ∧ -(2 ^ 62) ≤ j ∧ j < 2 ^ 62 then .ok (aP i (j - i).toNat,fun _ => True) av else .bad
 | _ => .bad
theorem eZ {a:Expr} {m:MA} (hg:Gl X "range") (hm:X.mg "range" = none) (ha:PA X [a] (tL X E m)) (hs:starEach [a] X.env = [(false,eval a X.env)]:=by rfl):PI X tg (.Call (.Name "range" p) [a] [] pos) (tI X E (bJ m)):=by
 refine PI.imp (ya hg hm ha hs) ?_
 rintro σ H R ⟨μ,ρ,st,rs,sr,h⟩
 refine go (R1:=aZ X.K) μ ρ st rs sr h fun us aQ ρ1 H1 xs e1 bU r1 h1 => ?_
 split at h1
 ·rename_i j
  obtain ⟨v,rfl,rv⟩:=r1.As
  split at h1
  ·rename_i hz
   exact ⟨j,by rw [rv.cn],hz.1,hz.2,h1 ρ1 H1 _ (Step.refl _ _) bU (qJ 0 j.toNat)⟩
  ·exact h1.elim
 ·exact h1.elim
theorem qK {a b:Expr} {m:MA} (hg:Gl X "range") (hm:X.mg "range" = none) (ha:PA X [a,b] (tL X E m)) (hs:starEach [a,b] X.env = [(false,eval a X.env),(false,eval b X.env)]:=by rfl) (hR:starEach [b] X.env = [(false,eval b X.env)]:=by rfl) :
  PI X tg (.Call (.Name "range" p) [a,b] [] pos) (tI X E (gM m)):=by
 refine PI.imp (yb hg hm ha hs hR) ?_
 rintro σ H R ⟨μ,ρ,st,rs,sr,h⟩
 refine go (R1:=aZ X.K) μ ρ st rs sr h fun us aQ ρ1 H1 xs e1 bU r1 h1 => ?_
 split at h1
 ·rename_i i j
  obtain ⟨v,w,rfl,rv,tM⟩:=r1.G8
  split at h1
  ·rename_i hz
   exact ⟨i,j,by rw [rv.cn,tM.cn],hz,h1 ρ1 H1 _ (Step.refl _ _) bU (qJ i _)⟩
  ·exact h1.elim
 ·exact h1.elim
noncomputable def gU (st:ah):Val → Option (Bool × Itm)
 | .tup us => some (false,us,fun _ => True)
 | .loc n => (itemsOf st n).map fun us => (true,us,fun av => itemsOf av n = some us)
 | _ => none
noncomputable def kD:List Val → List Val → List Val
 | x :: xs,y :: ys => .tup [x,y] :: kD xs ys
 | _,_ => []
theorem xi:∀ (us ws:List Val) (i:Nat),(∀ z,(kD us ws)[i]? = some z → ∃ u w,us[i]? = some u ∧ ws[i]? = some w ∧ z = .tup [u,w]) ∧ ((kD us ws).length ≤ i → us.length ≤ i ∨ ws.length ≤ i)
 | [],_,i => ⟨fun z h => (by cases h),fun _ => .inl (Nat.zero_le _)⟩
 | _ :: _,[],i => ⟨fun z h => (by cases h),fun _ => .inr (Nat.zero_le _)⟩
 | u :: us,w :: ws,0 => ⟨fun z h => (by cases h; exact ⟨u,w,rfl,rfl,rfl⟩),fun h => (by simp [kD] at h)⟩
 | u :: us,w :: ws,i + 1 => by
  obtain ⟨a,b⟩:=xi us ws i
  refine ⟨fun z h => a z h,fun h => ?_⟩
  have h':(kD us ws).length ≤ i:=by simpa [kD] using h
  rcases b h' with q | q
  ·exact .inl (by rw [List.length_cons]; lia)
  ·exact .inr (by rw [List.length_cons]; lia)
noncomputable def qL (b1 b2:Bool) (m:MA):MI:=fun μ st => (m μ st).bind fun vs av => match vs with
 | [u,w] => match gU av u,gU av w with
  | some (c1,us,g1),some (c2,ws,g2) => if c1 = b1 ∧ c2 = b2 then .ok (kD us ws,fun cI => g1 cI ∧ g2 cI) av else .bad
  | _,_ => .bad
 | _ => .bad
theorem xj {K:PySem.W.Frag} {ρ:List Addr} {st:ah} {H:Hp} {u:Val} {x:V} {c:Bool} {us:List Val} {g:ah → Prop} (sr:SR K ρ st H) (r:Rl K ρ H u x) (h:gU st u = some (c,us,g)) (N8:∀ {ρ':List Addr} {av:ah} {H':Hp} {n a},SR K ρ' av H' → itemsOf av n = some us → ρ'[n]? = some a → ∃ vs,mV K H' a vs ∧ aZ K ρ' H' us vs) :
  ∃ a,x = .ref a ∧ ∀ ρ' av H',Step ρ H ρ' H' → SR K ρ' av H' → g av → ∃ vs,vL c K H' a vs ∧ aZ K ρ' H' us vs:=by
 cases u with
 | tup ws =>
  cases h
  obtain ⟨a,vs,rfl,ha,ra⟩:=r.gR
  exact ⟨a,rfl,fun ρ' av H' e _ _ => ⟨vs,e.N1 ha,aZ.mono e _ _ ra⟩⟩
 | loc n =>
  obtain ⟨a,rfl,ha⟩:=r.fA
  cases z:itemsOf st n with
  | none => simp only [gU,z] at h; cases h
  | some ws =>
   simp only [gU,z] at h
   cases h
   exact ⟨a,rfl,fun ρ' av H' e s g => N8 s g (e.at_ ha)⟩
 | _ => cases h
theorem AK {st:ah} {u:Val} {c:Bool} {us:List Val} {g:ah → Prop} (h:gU st u = some (c,us,g)):g st:=by
 cases u with
 | tup ws => cases h; exact True.intro
 | loc n =>
  cases z:itemsOf st n with
  | none => simp only [gU,z] at h; cases h
  | some ws => simp only [gU,z] at h; cases h; exact z
 | _ => cases h
theorem Hj (b1 b2:Bool) {elts:List Expr} {kt:Nat} {tp:Pos} {ea eb:Expr} {m:MA} (hg:Gl X "zip") (hm:X.mg "zip" = none) (ha:PA X [ea,eb] (tL X E m)) (hs:starEach [ea,eb] X.env = [(false,eval ea X.env),(false,eval eb X.env)]:=by rfl) (hR:starEach [eb] X.env = [(false,eval eb X.env)]:=by rfl) :
  PI X (.Tuple elts kt tp) (.Call (.Name "zip" p) [ea,eb] [] pos) (tI X E (qL b1 b2 m)):=by
 refine PI.imp (GV b1 b2 hg hm ha hs hR) ?_
 rintro σ H R ⟨μ,ρ,st,rs,sr,h⟩
 refine go (R1:=aZ X.K) μ ρ st rs sr h fun us aQ ρ1 H1 xs e1 bU r1 h1 => ?_
 split at h1
 ·rename_i u w
  obtain ⟨x,y,rfl,rx,ry⟩:=r1.G8
  split at h1
  ·rename_i c1 U5 g1 c2 U6 g2 z1 z2
   split at h1
   ·rename_i hc
    obtain ⟨rfl,rfl⟩:=hc
    obtain ⟨a,rfl,ka⟩:=xj bU rx z1 fun s g h => bD s g h
    obtain ⟨b,rfl,kb⟩:=xj bU ry z2 fun s g h => bD s g h
    obtain ⟨v1,q1,_⟩:=ka ρ1 aQ H1 (Step.refl _ _) bU (AK z1)
    obtain ⟨v2,q2,_⟩:=kb ρ1 aQ H1 (Step.refl _ _) bU (AK z2)
    refine ⟨a,b,rfl,⟨v1,q1⟩,⟨v2,q2⟩,h1 ρ1 H1 _ (Step.refl _ _) bU ?_⟩
    intro ρ' av H' e s g i
    obtain ⟨w1,s1,t1⟩:=ka ρ' av H' e s g.1
    obtain ⟨w2,s2,t2⟩:=kb ρ' av H' e s g.2
    obtain ⟨k1,k2⟩:=xi U5 U6 i
    refine ⟨fun z hz => ?_,fun hi => ⟨w1,w2,s1,s2,?_⟩⟩
    ·obtain ⟨u',w',U7,U8,rfl⟩:=k1 z hz
     obtain ⟨p1,p2,p3⟩:=t1.get U7
     obtain ⟨o1,o2,o3⟩:=t2.get U8
     refine ⟨⟨w1,w2,p1,o1,s1,s2,p2,o2⟩,fun x' Mc y' => ?_⟩
     obtain ⟨pp,x1,y1,rfl,hp,rfl,f1,f2⟩:=y'
     have c1:=(f1 w1 s1).symm.trans p2
     have c2:=(f2 w2 s2).symm.trans o2
     cases c1
     cases c2
     exact ⟨Step.same (d6 hp),s.grow (d6 hp),Rl.t_ bw (aZ.mono (Step.same (d6 hp)) _ _ (aZ.cons p3 (aZ.one o3)))⟩
    ·rw [← t1.length,← t2.length]; exact k2 hi
   ·exact h1.elim
  ·exact h1.elim
 ·exact h1.elim
end
open Classical in
noncomputable def forL (g:ah → Prop) (a:AS) (body:MB):List Val → MB
 | [],μ,st => if g st then .nx μ st else .bad
 | u :: us,μ,st => if g st then (match a u μ with
  | some μ1 => match body μ1 st with
   | .nx μ' av => forL g a body us μ' av
   | .ct μ' av => forL g a body us μ' av
   | .bk μ' av => .nx μ' av
   | .rt v av => .rt v av
   | .er c μ' av => .er c μ' av
   | .bad => .bad
  | none => .bad) else .bad
noncomputable def d9 (it:MI) (a:AS) (body:MB):MB:=fun μ st => (it μ st).sb μ fun p av => forL p.2 a body p.1 μ av
section
variable {X:Cx} {E:XK} {tg:Expr} {pos p:Pos}
theorem fg {iter:Expr} {sb:List Stmt} {it:MI} {a:AS} {body:MB} (hp:PassesOwn (model X.prog X.w) X.A X.env X.xe) (hc:X.calm = true) (hi:PI X tg iter (tI X E it)) (hg:PG X tg (tA (wo X) a)) (hb:ja X sb (tS X E body))
  (hs:∀ x,foldedSetIterable iter X.env x = pure x:=by intro _; rfl):PS X (.For tg iter sb [] pos) (tS X E (d9 it a body)):=by
 refine PS.imp (F9 hp hc hi hg hb hs) ?_
 rintro D σ H ⟨μ,ρ,st,rs,sr,h⟩
 refine Cw (R1:=Hh X.K) μ ρ st rs sr h fun pr aQ ρ1 H1 J e1 bU rJ h1 => ?_
 obtain ⟨us,g⟩:=pr
 refine ⟨fun i m σ' H' => m = us.length - i ∧ i ≤ us.length ∧ ∃ μ' ρ' av,Step ρ1 H1 ρ' H' ∧ RS (wo X) ρ' H' μ' σ' ∧ SR X.K ρ' av H' ∧ wS (wo X) E ρ' H' D (forL g a body (us.drop i) μ' av),
  ⟨us.length,by simp,Nat.zero_le _,μ,ρ1,aQ,Step.refl _ _,rs.mono e1,bU,h1⟩,?_⟩
 rintro i m σ' H' ⟨rfl,hi,μ',ρ',av,e',xk,xn,h'⟩
 by_cases vx:i < us.length
 ·rw [List.drop_eq_getElem_cons vx] at h'
  unfold forL at h'
  by_cases pW:g av
  ·rw [if_pos pW] at h'
   obtain ⟨k1,k2⟩:=rJ ρ' av H' e' xn pW i
   obtain ⟨go',yl⟩:=k1 _ (List.getElem?_eq_getElem vx)
   refine .inr ⟨go',fun σ2 H2 => i + 1 ≤ us.length ∧ ∃ μ2 ρ2 cI,Step ρ1 H1 ρ2 H2 ∧ RS (wo X) ρ2 H2 μ2 σ2 ∧ SR X.K ρ2 cI H2 ∧ wS (wo X) E ρ2 H2 D (forL g a body (us.drop (i + 1)) μ2 cI),fun σ2 H2 n => ⟨us.length - (i + 1),by lia,rfl,n.1,n.2⟩,fun x H2 y => ?_⟩
   obtain ⟨e2,qE,r2⟩:=yl x H2 y
   cases z:a us[i] μ' with
   | none => rw [z] at h'; exact h'.elim
   | some μ1 =>
    rw [z] at h'
    dsimp only at h'
    refine ⟨μ',ρ',us[i],μ1,xk.mono e2,r2,z,fun σ3 IT => ⟨μ1,ρ',av,IT,qE,?_⟩⟩
    cases zb:body μ1 av with
    | nx μ4 lH =>
     rw [zb] at h'
     intro ρ4 H4 σ4 e4 nr vU
     exact ⟨by lia,μ4,ρ4,lH,(e'.trans e2).trans e4,vU,nr,wS.mono h' (e2.trans e4)⟩
    | ct μ4 lH =>
     rw [zb] at h'
     intro ρ4 H4 σ4 e4 nr vU
     exact ⟨by lia,μ4,ρ4,lH,(e'.trans e2).trans e4,vU,nr,wS.mono h' (e2.trans e4)⟩
    | bk μ4 lH => rw [zb] at h'; exact fun ρ4 H4 σ4 e4 nr vU => h' ρ4 H4 σ4 (e2.trans e4) nr vU
    | rt v lH => rw [zb] at h'; exact fun ρ4 H4 σ4 e4 nr vU => h' ρ4 H4 σ4 (e2.trans e4) nr vU
    | er c μ4 lH => rw [zb] at h'; obtain ⟨C,q1,q2⟩:=h'; exact ⟨C,q1,fun ρ4 H4 e4 nr => q2 ρ4 H4 (e2.trans e4) nr⟩
    | bad => rw [zb] at h'; exact h'
  ·rw [if_neg pW] at h'; exact h'.elim
 ·have wZ:i = us.length:=by lia
  subst wZ
  rw [List.drop_length] at h'
  unfold forL at h'
  by_cases pW:g av
  ·rw [if_pos pW] at h'
   exact .inl ⟨(rJ ρ' av H' e' xn pW us.length).2 (Nat.le_refl _),h' ρ' H' σ' (Step.refl _ _) xn xk⟩
  ·rw [if_neg pW] at h'; exact h'.elim
end
noncomputable def fB (t:MT) (body:MB):Nat → Env → ah → Option bB
 | 0,_,_ => none
 | n + 1,μ,st => match t μ st with
  | .ok true aQ => match body μ aQ with
   | .nx μ' av => fB t body n μ' av
   | .ct μ' av => fB t body n μ' av
   | .bk μ' av => some (.nx μ' av)
   | .rt v av => some (.rt v av)
   | .er c μ' av => some (.er c μ' av)
   | .bad => some .bad
  | .ok false aQ => some (.nx μ aQ)
  | .err c aQ => some (.er c μ aQ)
  | .bad => some .bad
open Classical in
noncomputable def lO (t:MT) (body:MB):MB:=fun μ st => if h:∃ n r,fB t body n μ st = some r then h.choose_spec.choose else .bad
theorem jg {t:MT} {body:MB}:∀ {n m:Nat} {μ:Env} {st:ah} {r r':bB},fB t body n μ st = some r → fB t body m μ st = some r' → r = r'
 | 0,_,_,_,_,_,h,_ => by cases h
 | _ + 1,0,_,_,_,_,_,h => by cases h
 | n + 1,m + 1,μ,st,r,r',h,h' => by
  unfold fB at h h'
  split at h
  ·rename_i aQ e
   rw [e] at h'
   dsimp only at h'
   split at h
   all_goals (rename_i eb; rw [eb] at h'; dsimp only at h')
   ·exact jg h h'
   ·exact jg h h'
   all_goals (cases h; cases h'; rfl)
  all_goals (rename_i e; rw [e] at h'; dsimp only at h'; cases h; cases h'; rfl)
theorem yB {t:MT} {body:MB} {n:Nat} {μ:Env} {st:ah} {r:bB} (h:fB t body n μ st = some r):lO t body μ st = r:=by
 have hx:∃ n r,fB t body n μ st = some r:=⟨n,r,h⟩
 unfold lO
 rw [dif_pos hx]
 exact jg hx.choose_spec.choose_spec h
section
variable {X:Cx} {E:XK} {pos:Pos}
theorem AL {c:Expr} {sb:List Stmt} {t:MT} {body:MB} (hp:PassesOwn (model X.prog X.w) X.A X.env X.xe) (hc:PT X c (tT X E t)) (hb:ja X sb (tS X E body)):PS X (.While c sb [] pos) (tS X E (lO t body)):=by
 refine PS.imp (zN hp hc hb) ?_
 rintro D σ H ⟨μ,ρ,st,rs,sr,h⟩
 unfold lO at h
 split at h
 ·rename_i hx
  have hr:=hx.choose_spec.choose_spec
  refine ⟨fun m σ' H' => ∃ μ' ρ' av r,Step ρ H ρ' H' ∧ RS (wo X) ρ' H' μ' σ' ∧ SR X.K ρ' av H' ∧ fB t body m μ' av = some r ∧ wS (wo X) E ρ' H' D r,⟨_,μ,ρ,st,_,Step.refl _ _,rs,sr,hr,h⟩,?_⟩
  rintro m σ' H' ⟨μ',ρ',av,r,e',xk,xn,hw,hq⟩
  cases m with
  | zero => cases hw
  | succ m =>
   unfold fB at hw
   refine ⟨μ',ρ',av,xk,xn,?_⟩
   cases z:t μ' av with
   | ok k aQ =>
    rw [z] at hw
    intro ρ1 H1 k' e1 bU ek
    cases ek
    cases k with
    | true =>
     dsimp only at hw
     rw [if_pos rfl]
     refine ⟨fun σ2 H2 => ∃ μ2 ρ2 cI r2,Step ρ H ρ2 H2 ∧ RS (wo X) ρ2 H2 μ2 σ2 ∧ SR X.K ρ2 cI H2 ∧ fB t body m μ2 cI = some r2 ∧ wS (wo X) E ρ2 H2 D r2,fun σ2 H2 n => ⟨m,Nat.lt_succ_self m,n⟩,μ',ρ1,aQ,xk.mono e1,bU,?_⟩
     cases zb:body μ' aQ with
     | nx μ4 lH =>
      rw [zb] at hw
      intro ρ4 H4 σ4 e4 nr vU
      exact ⟨μ4,ρ4,lH,r,(e'.trans e1).trans e4,vU,nr,hw,wS.mono hq (e1.trans e4)⟩
     | ct μ4 lH =>
      rw [zb] at hw
      intro ρ4 H4 σ4 e4 nr vU
      exact ⟨μ4,ρ4,lH,r,(e'.trans e1).trans e4,vU,nr,hw,wS.mono hq (e1.trans e4)⟩
     | bk μ4 lH => rw [zb] at hw; cases hw; exact fun ρ4 H4 σ4 e4 nr vU => hq ρ4 H4 σ4 (e1.trans e4) nr vU
     | rt v lH => rw [zb] at hw; cases hw; exact fun ρ4 H4 σ4 e4 nr vU => hq ρ4 H4 σ4 (e1.trans e4) nr vU
     | er c μ4 lH => rw [zb] at hw; cases hw; obtain ⟨C,q1,q2⟩:=hq; exact ⟨C,q1,fun ρ4 H4 e4 nr => q2 ρ4 H4 (e1.trans e4) nr⟩
     | bad => rw [zb] at hw; cases hw; exact hq
    | false =>
     cases hw
     rw [if_neg Bool.false_ne_true]
     exact hq ρ1 H1 σ' e1 bU (xk.mono e1)
   | err c aQ => rw [z] at hw; cases hw; exact hq
   | bad => rw [z] at hw; cases hw; exact hq
 ·exact h.elim
end
end MN
namespace MN
open PySem PySem.Spec L2
open PyProof.Rows hiding St
noncomputable def j5 (k:Nat) (caps:List Nat) (μ:Env):Env:=List.replicate k none ++ caps.map fun j => (μ[j]?).getD none
theorem RS.Hk {W:Wo} {ρ:List Addr} {H:Hp} {μ:Env} {σ:L2.St} (r:RS W ρ H μ σ) (k:Nat) (caps:List Nat):RS W ρ H (j5 k caps μ) (nk k caps σ):=by
 refine ⟨by simp [j5,nk],fun i u e => ?_⟩
 unfold j5 at e
 rcases Nat.lt_or_ge i k with q | q
 ·rw [List.getElem?_append_left (by rw [List.length_replicate]; exact q),List.getElem?_replicate,if_pos q] at e
  cases e
 ·rw [List.getElem?_append_right (by rw [List.length_replicate]; exact q),List.length_replicate,List.getElem?_map] at e
  cases z:caps[i - k]? with
  | none => rw [z] at e; cases e
  | some j =>
   rw [z] at e
   have e':(μ[j]?).getD none = some u:=Option.some.inj e
   have e2:μ[j]? = some (some u):=by
    cases y:μ[j]? with
    | none => rw [y] at e'; cases e'
    | some w => rw [y] at e'; exact congrArg _ e'
   obtain ⟨v,h1,h2⟩:=r.at_ j u e2
   refine ⟨v,?_,h2⟩
   unfold nk
   rw [List.getElem?_append_right (by rw [List.length_replicate]; exact q),List.length_replicate,List.getElem?_map,z]
   show some ((σ[j]?).getD none) = _
   rw [h1]
   rfl
open Classical in
noncomputable def e8 (g:ah → Prop) (a:AS) (c:MT) (e:ME):List Val → Env → ah → List Val → Res (List Val)
 | [],_,st,ys => if g st then .ok ys st else .bad
 | u :: us,τ,st,ys => if g st then (match a u τ with
  | some τ1 => match c τ1 st with
   | .ok true aQ => match e τ1 aQ with
    | .ok y cI => e8 g a c e us τ1 cI (ys ++ [y])
    | .err _ _ => .bad
    | .bad => .bad
   | .ok false aQ => e8 g a c e us τ1 aQ ys
   | .err _ _ => .bad
   | .bad => .bad
  | none => .bad) else .bad
noncomputable def cO (k:Nat) (caps:List Nat) (it:MI) (a:AS) (c:MT) (e:ME):ME:=fun μ st => (it μ st).bind fun p aQ =>
 if p.1.length ≤ sizeLine then (e8 p.2 a c e p.1 (j5 k caps μ) aQ []).bind fun ys cI => .ok (.loc cI.length) (cI ++ [.lst ys]) else .bad
noncomputable def cj:MT:=fun _ st => .ok true st
noncomputable abbrev W0 (X:Cx):Wo:=⟨X.K,X.mg,[]⟩
section
variable {X:Cx} {E:XK} {tg elt iter:Expr} {ifs:List Expr} {scope:Scope} {pos Ag:Pos} {N:List Str} {cl:List (Str × Addr)} {k:Nat} {caps:List Nat} {it:MI} {a:AS} {c:MT} {e:ME}
theorem qM (Kl:X.pn = []) {σ:L2.St} {H:Hp} {Q:VK} (h:tE X E (cO k caps it a c e) σ H Q):oE k caps (tI X E it) (tA (W0 X) a) (tG (W0 X) E0 RB c) (tG (W0 X) E0 (Rl X.K) e) σ H Q:=by
 obtain ⟨μ,ρ,st,rs,sr,h⟩:=h
 refine Ae (go (R1:=Hh X.K) μ ρ st rs sr h fun pr aQ ρ1 H1 J e1 bU rJ h1 => ?_)
 obtain ⟨us,g⟩:=pr
 have ew:wo X = W0 X:=by show Wo.mk _ _ _ = _; rw [Kl]
 have IQ:=rs.mono e1
 rw [ew] at IQ h1
 dsimp only at h1
 split at h1
 ·rename_i hz
  refine Dh us.length hz (fun i ys τ H' => ∃ μτ ρ' av yv,Step ρ1 H1 ρ' H' ∧ RS (W0 X) ρ' H' μτ τ ∧ SR X.K ρ' av H' ∧ aZ X.K ρ' H' yv ys ∧ yv.length ≤ i ∧ wR (W0 X) E (Rl X.K) ρ' H' Q ((e8 g a c e (us.drop i) μτ av yv).bind fun (zs:List Val) (cI:ah) => Res.ok (Val.loc cI.length) (cI ++ [Cell.lst zs])))
   ⟨j5 k caps μ,ρ1,aQ,[],Step.refl _ _,IQ.Hk k caps,bU,aZ.nil,Nat.le_refl _,h1⟩ ?_ ?_ ?_ ?_ ?_
  ·rintro i ys τ H' hi ⟨μτ,ρ',av,yv,e',xk,xn,ry,hl,hq⟩
   rw [List.drop_eq_getElem_cons hi] at hq
   unfold e8 at hq
   by_cases pW:g av
   ·exact ((rJ ρ' av H' e' xn pW i).1 _ (List.getElem?_eq_getElem hi)).1
   ·rw [if_neg pW] at hq; exact hq.elim
  ·rintro ys τ H' ⟨μτ,ρ',av,yv,e',xk,xn,ry,hl,hq⟩
   rw [List.drop_length] at hq
   unfold e8 at hq
   by_cases pW:g av
   ·exact (rJ ρ' av H' e' xn pW us.length).2 (Nat.le_refl _)
   ·rw [if_neg pW] at hq; exact hq.elim
  ·rintro i ys τ H' ⟨μτ,ρ',av,yv,e',xk,xn,ry,hl,hq⟩
   rw [← ry.length]; exact hl
  ·rintro i ys τ H' x H2 hi ⟨μτ,ρ',av,yv,e',xk,xn,ry,hl,hq⟩ y K1 hK
   rw [List.drop_eq_getElem_cons hi] at hq
   unfold e8 at hq
   by_cases pW:g av
   ·rw [if_pos pW] at hq
    obtain ⟨e2,qE,r2⟩:=((rJ ρ' av H' e' xn pW i).1 _ (List.getElem?_eq_getElem hi)).2 x H2 y
    cases z:a us[i] μτ with
    | none => rw [z] at hq; exact hq.elim
    | some τ1 =>
     rw [z] at hq
     dsimp only at hq
     refine ⟨μτ,ρ',us[i],τ1,xk.mono e2,r2,z,fun σ3 IT => ⟨τ1,ρ',av,IT,qE,?_⟩⟩
     cases zc:c τ1 av with
     | ok b lu =>
      rw [zc] at hq
      intro ρ3 H3 b' e3 Fh eb
      cases eb
      cases b with
      | true =>
       dsimp only at hq
       rw [if_pos rfl]
       refine ⟨τ1,ρ3,lu,IT.mono e3,Fh,?_⟩
       cases ze:e τ1 lu with
       | ok v lH =>
        rw [ze] at hq
        intro ρ4 H4 y4 e4 nr r4
        exact hK _ _ _ ⟨τ1,ρ4,lH,yv ++ [v],((e'.trans e2).trans e3).trans e4,(IT.mono e3).mono e4,nr,(aZ.mono ((e2.trans e3).trans e4) _ _ ry).append (aZ.one r4),by rw [List.length_append,List.length_singleton]; lia,wR.mono hq ((e2.trans e3).trans e4)⟩
       | err c' lH => rw [ze] at hq; exact hq.elim
       | bad => rw [ze] at hq; exact hq.elim
      | false =>
       dsimp only at hq
       rw [if_neg Bool.false_ne_true]
       exact hK _ _ _ ⟨τ1,ρ3,lu,yv,(e'.trans e2).trans e3,IT.mono e3,Fh,aZ.mono (e2.trans e3) _ _ ry,by lia,wR.mono hq (e2.trans e3)⟩
     | err c' lu => rw [zc] at hq; exact hq.elim
     | bad => rw [zc] at hq; exact hq.elim
   ·rw [if_neg pW] at hq; exact hq.elim
  ·rintro ys τ H' p ⟨μτ,ρ',av,yv,e',xk,xn,ry,hl,hq⟩ hp
   rw [List.drop_length] at hq
   unfold e8 at hq
   by_cases pW:g av
   ·rw [if_pos pW] at hq
    obtain ⟨k1,k2,k3⟩:=iE xn ry hp
    exact hq _ _ _ k1 k2 k3
   ·rw [if_neg pW] at hq; exact hq.elim
 ·exact h1.elim
theorem iF (hc:X.calm = true) (Kl:X.pn = []) (B:tX X N scope cl k caps) (hi:PI X tg iter (tI X E it)) (hg:∀ C fp s H,PG (pV X N scope cl C fp s H) tg (tA (W0 X) a)) (GR:∀ C fp s H,Cu (pV X N scope cl C fp s H) ifs (tG (W0 X) E0 RB c))
  (he:∀ C fp s H,PE (pV X N scope cl C fp s H) elt (tG (W0 X) E0 (Rl X.K) e)) (hs:∀ x,foldedSetIterable iter X.env x = pure x:=by intro _; rfl):PE X (.ListComp elt [⟨tg,iter,ifs,0⟩] scope pos) (tE X E (cO k caps it a c e)) :=
 PE.imp (Dg hc B hi hg GR he hs) fun _ _ _ h => qM Kl h
theorem oS (i:Nat) {y:Str} {py:Pos} (hN:X.N.Nodup) (hc:X.calm = true) (Kl:X.pn = []) (B:tX X N scope cl k caps) (hi:PI X tg iter (tI X E it)) (hg:∀ C fp s H,PG (pV X N scope cl C fp s H) tg (tA (W0 X) a)) (GR:∀ C fp s H,Cu (pV X N scope cl C fp s H) ifs (tG (W0 X) E0 RB c))
  (he:∀ C fp s H,PE (pV X N scope cl C fp s H) elt (tG (W0 X) E0 (Rl X.K) e)) (hy:X.N[i]? = some y:=by rfl) (hx:Loc X.env.scope y:=by first | exact Or.inl rfl | exact Or.inr rfl) (NF:swapsWith (.ListComp elt [⟨tg,iter,ifs,0⟩] scope pos) (some (.Name y py)) Ag.line X.env = pure true:=by rfl)
  (hs:∀ x,foldedSetIterable iter X.env x = pure x:=by intro _; rfl) (hf:X.fn y = true ∨ X.env.scope.names.lookup y = some .local:=by first | exact .inl rfl | exact .inr rfl | assumption) :
  PS X (.Assign [.Name y py] (.ListComp elt [⟨tg,iter,ifs,0⟩] scope pos) Ag) (tS X E (aK i (cO k caps it a c e))) :=
 PS.imp (L2.vK hN hy hx hc B hi hg GR he NF hs hf) fun _ _ _ h => qM Kl (uh h)
theorem jy {C fp s H}:Cu (pV X N scope cl C fp s H) [] (tG (W0 X) E0 RB cj):=by
 intro pins s' σ H' Q I q
 refine Dc pins s' σ H' Q I ?_
 obtain ⟨μ,ρ,st,rs,sr,h⟩:=q
 exact h ρ H' true (Step.refl _ _) sr rfl
theorem sh {cc:Expr} {C fp s H} (h:PT (pV X N scope cl C fp s H) cc (tG (W0 X) E0 RB c)):Cu (pV X N scope cl C fp s H) [cc] (tG (W0 X) E0 RB c):=Dd h
theorem xo {P:Program} {w:World} {C fp s H}:Passes (iY P w) (pV X N scope cl C fp s H) E0:=by
 rintro pins σ H' s' e s2 I ⟨ea,cls,H2,_,_,q⟩
 exact q.elim
end
noncomputable abbrev FM:=Val → List Val → ah → Res Val
noncomputable def Tj (W:Wo) (E:XK) (f:FM):V → List V → Hp → VK → Prop:=fun x xs H Q => ∃ ρ st u us,SR W.K ρ st H ∧ Rl W.K ρ H u x ∧ aZ W.K ρ H us xs ∧ wR W E (Rl W.K) ρ H Q (f u us st)
noncomputable def uk (st:ah):Val → Bool
 | .loc n => match st[n]? with
  | some (.lst _) => true
  | _ => false
 | _ => false
noncomputable def jh (f:FM) (o:ME) (a:MA):ME:=fun μ st => (o μ st).bind fun x aQ => if uk aQ x = true then (a μ aQ).bind fun xs cI => f x xs cI else .bad
noncomputable def cw:FM
 | .loc n,[v],st => match st[n]? with
  | some (.lst us) => if us.length < sizeLine then .ok .eR (st.set n (.lst (us ++ [v]))) else .bad
  | _ => .bad
 | _,_,_ => .bad
section
variable {X:Cx} {E:XK} {o e:Expr} {es:List Expr} {mo:ME} {ms:MA} {apos cC:Pos} {f:FM}
theorem EV.imp {id:String} {r r':V → List V → Hp → VK → Prop} (h:EV X id r) (k:∀ x xs H Q,r' x xs H Q → r x xs H Q):EV X id r':=fun pins s σ H x xs v us Q I rx rs q => h pins s σ H x xs v us Q I rx rs (k x xs H Q q)
theorem DE {K:PySem.W.Frag} {ρ:List Addr} {st:ah} {H:Hp} {n:Nat} {us Kj:List Val} {a:Addr} {vs Ff:List V} (sr:SR K ρ st H) (h:st[n]? = some (.lst us)) (ha:ρ[n]? = some a) (hH:H a = some (.lst vs)) (r:aZ K ρ H Kj Ff) :
  Step ρ H ρ (upd H a (.lst Ff)) ∧ SR K ρ (st.set n (.lst Kj)) (upd H a (.lst Ff)):=by
 have e:Step ρ H ρ (upd H a (.lst Ff)):=Step.put hH (fun _ z => by cases z) (fun _ _ z => by cases z)
 exact ⟨e,sr.set h rfl rfl ha hH (fun _ z => by cases z) (fun _ _ z => by cases z) ⟨Ff,bw,aZ.mono e _ _ r⟩⟩
theorem vV:EV X "list.append" (Tj (wo X) E cw):=by
 refine EV.imp yi ?_
 rintro x xs H Q ⟨ρ,st,u,us,sr,r1,r2,h⟩
 unfold cw at h
 split at h
 ·rename_i n v
  obtain ⟨a,rfl,ha⟩:=r1.fA
  obtain ⟨y,rfl,ry⟩:=r2.As
  split at h
  ·rename_i ws hw
   split at h
   ·rename_i hz
    obtain ⟨vs,hH,rv⟩:=sr.cell n _ a hw ha
    refine ⟨a,vs,y,rfl,rfl,hH,by rw [← rv.length]; exact hz,?_⟩
    obtain ⟨k1,k2⟩:=DE sr hw ha hH (rv.append (aZ.one ry))
    exact h ρ _ _ k1 k2 Rl.xb
   ·exact h.elim
  ·exact h.elim
 ·exact h.elim
theorem AM {K:PySem.W.Frag} {ρ:List Addr} {st:ah} {H:Hp} {u:Val} {x:V} (sr:SR K ρ st H) (r:Rl K ρ H u x) (h:uk st u = true):LS K "list" x H:=by
 cases u with
 | loc n =>
  obtain ⟨a,rfl,ha⟩:=r.fA
  obtain ⟨c,hc,kc⟩:=sr.there ha
  simp only [uk,hc] at h
  cases c with
  | lst us => obtain ⟨vs,h1,_⟩:=kc; exact .inl ⟨rfl,vs,mV.of h1⟩
  | _ => cases h
 | _ => cases h
theorem Hl {name:Str} {id:String} (slot:Slot "list" name id) (GC:typeOf (.builtin id) = pure (.type "method_descriptor")) (hm:EV X id (Tj (wo X) E f)) (ho:PE X o (tE X E mo)) (ha:PA X (e :: es) (tL X E ms))
  (ko:attributeBase o name X.env (eval o X.env) = eval o X.env:=by rfl)
  (z8:((backTo cC (starEach (e :: es) X.env)).all (fun x => !x.1) && (backToKw cC (keywordEach [] X.env)).all (fun x => x.1.isSome)
   && decide ((e :: es).length + ([]:List Keyword).length + (if ([]:List Keyword).isEmpty then 0 else 1) < 30)) = true:=by rfl)
  (kq:(apos.endLine == cC.line) = true:=by rfl) (hs:starEach (e :: es) X.env = (false,eval e X.env) :: starEach es X.env:=by rfl) (oB:(backTo cC (starEach es X.env)).any (·.1) = false:=by rfl) :
  PE X (.Call (.Attribute o name apos) (e :: es) [] cC) (tE X E (jh f mo ms)):=by
 refine PE.imp (JG PySem.F.plainAttrs_list slot GC hm ho ha ko z8 kq hs oB) ?_
 rintro σ H Q ⟨μ,ρ,st,rs,sr,h⟩
 refine go μ ρ st rs sr h fun u aQ ρ1 H1 x e1 bU r1 h1 => ?_
 split at h1
 ·rename_i hz
  refine ⟨AM bU r1 hz,?_⟩
  refine go (R1:=aZ X.K) μ ρ1 aQ (rs.mono e1) bU h1 fun us cI ρ2 H2 xs e2 qE r2 h2 => ?_
  exact ⟨ρ2,cI,u,us,qE,Rl.mono e2 _ _ r1,r2,h2⟩
 ·exact h1.elim
end
end MN
namespace MN
open PySem PySem.Spec L2
open PyProof.Rows hiding St
noncomputable def IU {α β:Type} (W:Wo) (R:List Addr → Hp → α → β → Prop) (ρ:List Addr) (H:Hp) (Q:β → Hp → Prop) (EX:EH):Res α → Prop
 | .ok u av => ∀ ρ' H' v,Step ρ H ρ' H' → SR W.K ρ' av H' → R ρ' H' u v → Q v H'
 | .err c av => ∃ C,W.mg c = some (.ref C) ∧ ∀ ρ' H' ea,Step ρ H ρ' H' → SR W.K ρ' av H' → EX (.ref C) ea H'
 | .bad => False
theorem IU.mono {α β:Type} {W:Wo} {R:List Addr → Hp → α → β → Prop} {ρ ρ':List Addr} {H H':Hp} {Q:β → Hp → Prop} {EX:EH} {r:Res α} (h:IU W R ρ H Q EX r) (e:Step ρ H ρ' H'):IU W R ρ' H' Q EX r:=by
 cases r with
 | ok u st => exact fun ρ2 H2 v e2 s r => h ρ2 H2 v (e.trans e2) s r
 | err c st => obtain ⟨C,h1,h2⟩:=h; exact ⟨C,h1,fun ρ2 H2 ea e2 s => h2 ρ2 H2 ea (e.trans e2) s⟩
 | bad => exact h
noncomputable def Md (X:Cx) (m:ME):J2:=fun σ H Q EX => ∃ μ ρ st,RS (wo X) ρ H μ σ ∧ SR X.K ρ st H ∧ IU (wo X) (Rl X.K) ρ H Q EX (m μ st)
noncomputable def Cy (W:Wo) (ρ:List Addr) (H:Hp) (D:Ends) (EX:EK):bB → Prop
 | .nx μ st => ∀ ρ' H' σ',Step ρ H ρ' H' → SR W.K ρ' st H' → RS W ρ' H' μ σ' → D.nx σ' H'
 | .rt v st => ∀ ρ' H' x,Step ρ H ρ' H' → SR W.K ρ' st H' → Rl W.K ρ' H' v x → D.rt x H'
 | .bk μ st => ∀ ρ' H' σ',Step ρ H ρ' H' → SR W.K ρ' st H' → RS W ρ' H' μ σ' → D.bk σ' H'
 | .ct μ st => ∀ ρ' H' σ',Step ρ H ρ' H' → SR W.K ρ' st H' → RS W ρ' H' μ σ' → D.ct σ' H'
 | .er c μ st => ∃ C,W.mg c = some (.ref C) ∧ ∀ ρ' H' σ' ea,Step ρ H ρ' H' → SR W.K ρ' st H' → RS W ρ' H' μ σ' → EX (.ref C) ea σ' H'
 | .bad => False
theorem Cy.mono {W:Wo} {ρ ρ':List Addr} {H H':Hp} {D:Ends} {EX:EK} {r:bB} (h:Cy W ρ H D EX r) (e:Step ρ H ρ' H'):Cy W ρ' H' D EX r:=by
 cases r with
 | nx μ st => exact fun ρ2 H2 σ2 e2 s r => h ρ2 H2 σ2 (e.trans e2) s r
 | rt v st => exact fun ρ2 H2 x e2 s r => h ρ2 H2 x (e.trans e2) s r
 | bk μ st => exact fun ρ2 H2 σ2 e2 s r => h ρ2 H2 σ2 (e.trans e2) s r
 | ct μ st => exact fun ρ2 H2 σ2 e2 s r => h ρ2 H2 σ2 (e.trans e2) s r
 | er c μ st => obtain ⟨C,h1,h2⟩:=h; exact ⟨C,h1,fun ρ2 H2 σ2 ea e2 s r => h2 ρ2 H2 σ2 ea (e.trans e2) s r⟩
 | bad => exact h
noncomputable def AN (X:Cx) (m:MB):E6:=fun D EX σ H => ∃ μ ρ st,RS (wo X) ρ H μ σ ∧ SR X.K ρ st H ∧ Cy (wo X) ρ H D EX (m μ st)
noncomputable def vW {α:Type} (m:Env → ah → Res α):Env → ah → Res α:=fun μ st => match m μ st with
 | .ok v av => .ok v av
 | .err _ _ => .bad
 | .bad => .bad
section
variable {X:Cx} {pos p:Pos} {e:Expr} {es:List Expr} {m:ME} {ms:MA} {f:FN} {x:Str}
theorem Dp.imp {t t':J2} (h:Dp X e t) (k:∀ σ H Q EX,t' σ H Q EX → t σ H Q EX):Dp X e t':=fun pins s σ H Q EX I q => h pins s σ H Q EX I (k σ H Q EX q)
theorem w9.imp {st:Stmt} {t t':E6} (h:w9 X st t) (k:∀ D EX σ H,t' D EX σ H → t D EX σ H):w9 X st t':=fun pins s σ H D EX I q => h pins s σ H D EX I (k D EX σ H q)
theorem AO {k:Nat} {fa:Addr} {fd:FuncData} {ps:List Str} (F:jK X.prog X.w X.K X.mg X.base (iY X.prog X.w) k fa fd ps (Fe ⟨X.K,X.mg,[]⟩ f)) (hr:dR k X.A) (hg:Gl X x) (hm:X.mg x = some (.ref fa)) (hk:PySem.W.keepIn X.K (.ref fa) = true) (hb:Binds X.K fd ps []) (vB:∀ y,X.fn y = true) (ha:∀ W,PA (X.km W) (e :: es) (tL X E0 ms))
  (jV:(x == ("__debug__":Str)) = false:=by decide) (he:starEach (e :: es) X.env = (false,eval e X.env) :: starEach es X.env:=by rfl) (hU:(backTo pos (starEach es X.env)).any (·.1) = false:=by rfl) :
  Dp X (.Call (.Name x p) (e :: es) [] pos) (Md X (aq f (vW ms))):=by
 refine Dp.imp (Am F hr hg hm hk hb vB ha jV he hU) ?_
 rintro σ H Q EX ⟨μ,ρ,st,rs,sr,h⟩
 refine ⟨μ,ρ,st,rs,sr,?_⟩
 unfold aq vW at h
 cases z:ms μ st with
 | ok us aQ =>
  rw [z] at h
  intro ρ1 H1 vs e1 bU r1
  refine ⟨us,ρ1,aQ,r1,bU,?_⟩
  have h':IU (wo X) (Rl X.K) ρ1 H1 Q EX (f us aQ):=IU.mono h e1
  revert h'
  cases f us aQ with
  | ok u cI => exact fun q => q
  | err c cI => exact fun ⟨C,q1,q2⟩ => ⟨C,q1,fun ρ2 H2 e2 s2 ea => q2 ρ2 H2 ea e2 s2⟩
  | bad => exact fun q => q
 | err c av => rw [z] at h; exact h.elim
 | bad => rw [z] at h; exact h
theorem Hm {σ:L2.St} {H:Hp} {D:Ends} {EX:EK} {k:Val → ah → bB} {μ:Env} {ρ:List Addr} {st:ah} (rs:RS (wo X) ρ H μ σ) (sr:SR X.K ρ st H) (h:Cy (wo X) ρ H D EX ((m μ st).sb μ k)) {Q:VK}
  (c:∀ u aQ ρ1 H1 x,Step ρ H ρ1 H1 → SR X.K ρ1 aQ H1 → Rl X.K ρ1 H1 u x → Cy (wo X) ρ1 H1 D EX (k u aQ) → Q x H1):Md X m σ H Q fun cls ea H' => EX cls ea σ H':=by
 refine ⟨μ,ρ,st,rs,sr,?_⟩
 cases z:m μ st with
 | ok u aQ => rw [z] at h; exact fun ρ1 H1 x e1 bU r1 => c u aQ ρ1 H1 x e1 bU r1 (Cy.mono h e1)
 | err c' aQ => rw [z] at h; obtain ⟨C,q1,q2⟩:=h; exact ⟨C,q1,fun ρ2 H2 ea e2 s2 => q2 ρ2 H2 σ ea e2 s2 (rs.mono e2)⟩
 | bad => rw [z] at h; exact h
theorem um (he:Dp X e (Md X m)) (hs:swapsWith e none pos.line X.env = pure false:=by rfl):w9 X (.Expr e pos) (AN X (dc m)):=by
 refine w9.imp (An he hs) ?_
 rintro D EX σ H ⟨μ,ρ,st,rs,sr,h⟩
 exact Hm rs sr h fun u aQ ρ1 H1 x e1 bU r1 h1 => h1 ρ1 H1 σ (Step.refl _ _) bU (rs.mono e1)
theorem nX {s1:Stmt} {a:MB} (h:w9 X s1 (AN X a)):qa X [s1] (AN X a):=Ao h
theorem Hn {c:Expr} {sa sb:List Stmt} {t:MT} {a b:MB} (hc:∀ W,PT (X.km W) c (tT X E0 t)) (ha:qa X sa (AN X a)) (hb:qa X sb (AN X b)):w9 X (.If c sa sb pos) (AN X (gI (vW t) a b)):=by
 refine w9.imp (GY hc ha hb) ?_
 rintro D EX σ H ⟨μ,ρ,st,rs,sr,h⟩
 refine ⟨μ,ρ,st,rs,sr,?_⟩
 unfold gI vW at h
 cases z:t μ st with
 | ok k aQ =>
  rw [z] at h
  intro ρ1 H1 k' e1 bU ek
  cases ek
  have h':=Cy.mono h e1
  cases k with
  | true => rw [if_pos rfl]; exact ⟨μ,ρ1,aQ,rs.mono e1,bU,h'⟩
  | false => rw [if_neg Bool.false_ne_true]; exact ⟨μ,ρ1,aQ,rs.mono e1,bU,h'⟩
 | err c av => rw [z] at h; exact h.elim
 | bad => rw [z] at h; exact h
noncomputable abbrev MH:=Str → MB
noncomputable def Ho:MH:=fun _ _ _ => .bad
noncomputable def oT:bB → bB
 | .rt v st => .rt v st
 | _ => .bad
noncomputable def qN (sub:Str → Str → Option Bool) (x:Str) (eU:MB) (rest:MH):MH:=fun c μ st => match sub c x with
 | some true => oT (eU μ st)
 | some false => rest c μ st
 | none => .bad
noncomputable def IV (sub:Str → Str → Option Bool) (x:Str) (i:Nat) (eU:MB) (rest:MH):MH:=fun c μ st => match sub c x with
 | some true => oT (eU (μ.set i (some (.exc c))) st)
 | some false => rest c μ st
 | none => .bad
noncomputable def si (kn:Str → Bool) (body:MB) (h:MH):MB:=fun μ st => match body μ st with
 | .er c μ' av => if kn c = true then h c μ' av else .bad
 | .nx μ' av => .nx μ' av
 | .rt v av => .rt v av
 | .bk μ' av => .bk μ' av
 | .ct μ' av => .ct μ' av
 | .bad => .bad
noncomputable def zB (X:Cx) (h:MH):zA:=fun D EX cls ea σ H => ∃ c C μ ρ st,X.mg c = some (.ref C) ∧ cls = .ref C ∧ RS (wo X) ρ H μ σ ∧ SR X.K ρ st H ∧ Cy (wo X) ρ H D EX (h c μ st)
theorem PH.imp {hs:List ExceptHandler} {t t':zA} (h:PH X hs t) (k:∀ D EX cls ea σ H,t' D EX cls ea σ H → t D EX cls ea σ H):PH X hs t':=fun pins s σ H D EX ea cls J q => h pins s σ H D EX ea cls J (k D EX cls ea σ H q)
theorem AQ:PH X [] (zB X Ho):=PH.imp G0 fun D EX cls ea σ H q => by
 obtain ⟨c,C,μ,ρ,st,_,_,_,_,h⟩:=q
 exact h
noncomputable def Hq (K:PySem.W.Frag) (mg:Str → Option Value) (sub:Str → Str → Option Bool):Prop:=∀ c x b C D,sub c x = some b → mg c = some (.ref C) → mg x = some (.ref D) → PySem.W.kitCls K (.ref C) (.ref D) = some b
theorem ud.pn {K:PySem.W.Frag} {mg:Str → Option Value} {pn G9:List (Addr × Obj)} (hp:∀ q ∈ pn,q ∈ G9) {ρ:List Addr} {H:Hp} {u:Val} {v:V} (h:ud ⟨K,mg,pn⟩ ρ H u v):ud ⟨K,mg,G9⟩ ρ H u v:=by
 cases u with
 | exc c => obtain ⟨a,oe,C,h1,h2,h3⟩:=h; exact ⟨a,oe,C,h1,hp _ h2,h3⟩
 | _ => exact h
theorem RS.pn {K:PySem.W.Frag} {mg:Str → Option Value} {pn G9:List (Addr × Obj)} (hp:∀ q ∈ pn,q ∈ G9) {ρ:List Addr} {H:Hp} {μ:Env} {σ:L2.St} (h:RS ⟨K,mg,pn⟩ ρ H μ σ):RS ⟨K,mg,G9⟩ ρ H μ σ :=
 ⟨h.len,fun i u e => let ⟨v,h1,h2⟩:=h.at_ i u e; ⟨v,h1,h2.pn hp⟩⟩
theorem DF {C:Addr} {np:Pos} {b₀:Stmt} {eU:List Stmt} {rest:List ExceptHandler} {sub:Str → Str → Option Bool} {s:MB} {r:MH} (hS:Hq X.K X.mg sub) (hg:Gl X x) (hm:X.mg x = some (.ref C)) (hB:PySem.W.subIn X.K (.ref C) (.type "BaseException") = some true)
  (hs:∀ ea oe,ja (L2.nq X ea oe) (b₀ :: eU) (tS (L2.nq X ea oe) E0 s)) (hr:PH X rest (zB X r)) (hd:(x == ("__debug__":Str)) = false:=by decide):PH X (.ExceptHandler (some (.Name x np)) none (b₀ :: eU) pos :: rest) (zB X (qN sub x s r)):=by
 refine PH.imp (Dq hg hm hB hs hr hd) ?_
 rintro D EX cls ea σ H ⟨c,C',μ,ρ,st,h1,rfl,rs,sr,h⟩
 unfold qN at h
 split at h
 ·rename_i e
  refine ⟨true,hS c x true C' C e h1 hm,?_⟩
  rw [if_pos rfl]
  intro oe Cv
  refine ⟨μ,ρ,st,RS.pn (fun q hq => List.mem_cons_of_mem _ hq) rs,sr,?_⟩
  revert h
  cases s μ st with
  | rt v av => exact fun q => q
  | _ => exact fun q => q.elim
 ·rename_i e
  refine ⟨false,hS c x false C' C e h1 hm,?_⟩
  rw [if_neg Bool.false_ne_true]
  exact ⟨c,C',μ,ρ,st,h1,rfl,rs,sr,h⟩
 ·exact h.elim
theorem Km {n:Str} {i:Nat} {C:Addr} {np:Pos} {b₀:Stmt} {eU:List Stmt} {rest:List ExceptHandler} {sub:Str → Str → Option Bool} {s:MB} {r:MH} (hS:Hq X.K X.mg sub) (hN:X.N.Nodup) (hi:X.N[i]? = some n) (hl:X.env.scope.names.lookup n = some .local) (hg:Gl X x) (hm:X.mg x = some (.ref C))
  (hB:PySem.W.subIn X.K (.ref C) (.type "BaseException") = some true) (hs:∀ ea oe,ja (L2.nq X ea oe) (b₀ :: eU) (tS (L2.nq X ea oe) E0 s)) (hr:PH X rest (zB X r)) (hd:(x == ("__debug__":Str)) = false:=by decide) :
  PH X (.ExceptHandler (some (.Name x np)) (some n) (b₀ :: eU) pos :: rest) (zB X (IV sub x i s r)):=by
 refine PH.imp (J3 hN hi hl hg hm hB hs hr hd) ?_
 rintro D EX cls ea σ H ⟨c,C',μ,ρ,st,h1,rfl,rs,sr,h⟩
 unfold IV at h
 split at h
 ·rename_i e
  refine ⟨true,hS c x true C' C e h1 hm,?_⟩
  rw [if_pos rfl]
  intro oe Cv
  have xk:RS (wo (L2.nq X ea oe)) ρ H (μ.set i (some (.exc c))) (σ.set i (some (.ref ea))) :=
   (RS.pn (fun q hq => List.mem_cons_of_mem _ hq) rs).Kd i ⟨ea,oe,C',rfl,List.mem_cons_self,h1,Cv⟩
  refine ⟨_,ρ,st,xk,sr,?_⟩
  revert h
  cases s (μ.set i (some (.exc c))) st with
  | rt v av => exact fun q => q
  | _ => exact fun q => q.elim
 ·rename_i e
  refine ⟨false,hS c x false C' C e h1 hm,?_⟩
  rw [if_neg Bool.false_ne_true]
  exact ⟨c,C',μ,ρ,st,h1,rfl,rs,sr,h⟩
 ·exact h.elim
noncomputable def Known (mg:Str → Option Value) (kn:Str → Bool):Prop:=∀ c,kn c = true → ∃ C,mg c = some (.ref C)
theorem uo {kn:Str → Bool} {b:MB} {h:MH} (hk:Known X.mg kn) {D:Ends} {EX:EK} {σ:L2.St} {H:Hp} (q:AN X (si kn b h) D EX σ H):AN X b D (fun cls ea σ' H' => zB X h D EX cls ea σ' H') σ H:=by
 obtain ⟨μ,ρ,st,rs,sr,q⟩:=q
 refine ⟨μ,ρ,st,rs,sr,?_⟩
 unfold si at q
 cases z:b μ st with
 | er c μ' av =>
  rw [z] at q
  dsimp only at q
  split at q
  ·rename_i hc
   obtain ⟨C,hC⟩:=hk c hc
   exact ⟨C,hC,fun ρ' H' σ' ea e s r => ⟨c,C,μ',ρ',av,hC,rfl,r,s,Cy.mono q e⟩⟩
  ·exact q.elim
 | _ => rw [z] at q; exact q
theorem DG {kn:Str → Bool} {body:List Stmt} {h₀:ExceptHandler} {hs:List ExceptHandler} {b:MB} {h:MH} (hk:Known X.mg kn) (dx:DefX X) (hb:qa X body (AN X b)) (hh:PH X (h₀ :: hs) (zB X h)):w9 X (.Try body (h₀ :: hs) [] [] pos) (AN X (si kn b h)) :=
 w9.imp (w_ dx hb hh) fun _ _ _ _ q => uo hk q
noncomputable def uq (m:MB):MB:=fun μ st => match m μ st with
 | .er _ _ _ => .bad
 | .nx μ' av => .nx μ' av
 | .rt v av => .rt v av
 | .bk μ' av => .bk μ' av
 | .ct μ' av => .ct μ' av
 | .bad => .bad
theorem Hr {E:XK} {kn:Str → Bool} {body:List Stmt} {h₀:ExceptHandler} {hs:List ExceptHandler} {b:MB} {h:MH} (hk:Known X.mg kn) (dx:DefX X) (hb:qa X body (AN X b)) (hh:PH X (h₀ :: hs) (zB X h)):PS X (.Try body (h₀ :: hs) [] [] pos) (tS X E (uq (si kn b h))):=by
 refine PS.imp (G1 dx hb hh) ?_
 rintro D σ H ⟨μ,ρ,st,rs,sr,q⟩
 refine uo (EX:=fun _ _ _ _ => False) hk ⟨μ,ρ,st,rs,sr,?_⟩
 unfold uq at q
 revert q
 cases si kn b h μ st with
 | er c μ' av => exact fun q => q.elim
 | _ => exact fun q => q
noncomputable def yC (sub:Str → Str → Option Bool) (i:Nat) (x:Str):ME:=fun μ st => match μ[i]? with
 | some (some (.exc c)) => (match sub c x with
  | some true => .ok (.bl true) st
  | _ => .bad)
 | _ => .bad
inductive ClsAt (X:Cx) (x:Str):Value → V → Prop
 | own {C:Addr} (hm:X.mg x = some (.ref C)):ClsAt X x (.ref C) (.ref C)
 | blt {n:String} (hm:X.mg x = none) (hv:bootBuiltins x = some (.type n)) (hn:x ≠ "__name__"):ClsAt X x (.type n) (.ty n)
noncomputable def Kn (K:PySem.W.Frag) (mg:Str → Option Value) (sub:Str → Str → Option Bool) (x:Str) (cv:Value):Prop:=∀ c C,sub c x = some true → mg c = some (.ref C) → PySem.W.kitOne K (.ref C) cv = some true
theorem Hs {E:XK} {sub:Str → Str → Option Bool} {i:Nat} {n:Str} {cv:Value} {v:V} {q1 q2:Pos} (hc:ClsAt X x cv v) (hS:Kn X.K X.mg sub x cv) (hg:Gl X "isinstance") (hm:X.mg "isinstance" = none) (Me:Gl X x)
  (hN:X.N[i]? = some n) (hv:FL X.env.scope n) (hd:(n == ("__debug__":Str)) = false) (mU:(n == ("__classdict__":Str)) = false) (Mf:(x == ("__debug__":Str)) = false)
  (hs:starEach [.Name n q1,.Name x q2] X.env = (false,eval (.Name n q1) X.env) :: starEach [.Name x q2] X.env:=by rfl) (hR:starEach [.Name x q2] X.env = (false,eval (.Name x q2) X.env) :: starEach [] X.env:=by rfl)
  (hU:(backTo pos (starEach [.Name x q2] X.env)).any (·.1) = false:=by rfl):PE X (.Call (.Name "isinstance" p) [.Name n q1,.Name x q2] [] pos) (tE X E (yC sub i x)):=by
 have hx:PE X (.Name x q2) (tC v):=by
  cases hc with
  | own h => exact wN Me h rfl Mf
  | blt h1 h2 h3 => exact wO Me h1 h2 rfl h3 Mf
 refine PE.imp (oy r9 hg hm PyProof.Rows.boot_isinstance (iA (zJ (i:=i) hN hv hd mU) (iA hx rH hR) hs) (by decide) (by decide) hs hU) ?_
 rintro σ H Q ⟨μ,ρ,st,rs,sr,h⟩
 unfold yC at h
 split at h
 ·rename_i c e
  split at h
  ·rename_i es
   obtain ⟨w,e',a,oe,C,rfl,hp,hC,ho⟩:=rs.at_ i _ e
   have hk:=hS c C es hC
   rw [← ho] at hk
   cases hc with
   | own h' => exact ⟨_,e',a,oe,_,.inl ⟨rfl,hk⟩,hp,jf sr h⟩
   | blt h1 h2 h3 => exact ⟨_,e',a,oe,0,.inr ⟨_,rfl,hk⟩,hp,jf sr h⟩
  ·exact h.elim
 ·exact h.elim
end
end MN
namespace MN
open PySem PySem.Spec L2
open PyProof.Rows hiding St
inductive gW (X:Cx) (scope:Scope):List (Str × Addr) → List Nat → Prop
 | nil:gW X scope [] []
 | cons {y:Str} {c:Addr} {j:Nat} {cl:List (Str × Addr)} {caps:List Nat} (sub:X.env.cells.lookup y = some c) (hX:X.N[j]? = some y) (hk:X.env.kindOf y = some .cell ∨ X.env.kindOf y = some .free)
   (hr:(relabel scope X.env).names.lookup y = some .cell ∨ (relabel scope X.env).names.lookup y = some .free) (r:gW X scope cl caps):gW X scope ((y,c) :: cl) (j :: caps)
theorem gW.sub {X:Cx} {scope:Scope} {cl:List (Str × Addr)} {caps:List Nat} (A:gW X scope cl caps):∀ x c,cl.lookup x = some c → X.env.cells.lookup x = some c:=by
 induction A with
 | nil => intro x c h; cases h
 | @cons y c0 _ _ _ sub _ _ _ _ ih =>
  intro x c h
  rw [List.lookup_cons] at h
  by_cases e:x = y
  ·rw [beq_iff_eq.mpr e] at h
   rw [e]; exact sub.trans h
  ·rw [beq_eq_false_iff_ne.mpr e] at h
   exact ih x c h
theorem gW.at_ {X:Cx} {scope:Scope} {cl:List (Str × Addr)} {caps:List Nat} (A:gW X scope cl caps):∀ (i j:Nat) (x:Str),caps[i]? = some j → (cl.map (·.1))[i]? = some x →
  X.N[j]? = some x ∧ (X.env.kindOf x = some .cell ∨ X.env.kindOf x = some .free) ∧ ((relabel scope X.env).names.lookup x = some .cell ∨ (relabel scope X.env).names.lookup x = some .free):=by
 induction A with
 | nil => intro i j x h; cases h
 | cons _ hX hk hr _ ih =>
  intro i j x h h2
  cases i with
  | zero => cases h; cases h2; exact ⟨hX,hk,hr⟩
  | succ i => exact ih i j x h h2
theorem gX:∀ {cl:List (Str × Addr)} {x:Str},x ∈ cl.map (·.1) → ∃ c,cl.lookup x = some c
 | [],x,h => by simp at h
 | (y,c) :: cl,x,h => by
  by_cases e:x = y
  ·exact ⟨c,by simp [e]⟩
  ·have e':(x == y) = false:=by simpa using e
   rw [List.map_cons,List.mem_cons] at h
   rcases h with h | h
   ·exact absurd h e
   ·obtain ⟨d,hd⟩:=gX h
    exact ⟨d,by simp only [List.lookup_cons,e']; exact hd⟩
theorem oU {X:Cx} {N:List Str} {scope:Scope} {k:Nat} {cl:List (Str × Addr)} {caps:List Nat} (tY:closureFor scope X.env = pure cl) (A:gW X scope cl caps) (has:((relabel scope X.env).names.all fun p => !(p.2 == .cell || p.2 == .free) || (cl.map (·.1)).contains p.1) = true)
  (gr:(scope.names.all fun p => !(p.2 == .cell)) = true) (kind:scope.kind = .function) (names:(scope.names.all fun p => !(p.2 == .local) || scope.names.lookup p.1 == some .local) = true) (len:N.length = k + caps.length) (hN:N.drop k = cl.map (·.1)):tX X N scope cl k caps where
 tY:=tY
 sub:=A.sub
 has:=fun x h => by
  have m:x ∈ cl.map (·.1):=by
   rcases h with h | h <;> (have m:=PySem.mem_of_lookup h; have z:=List.all_eq_true.mp has _ m; simpa using z)
  exact gX m
 gr:=fun x hx h => by
  have z:=List.all_eq_true.mp gr x hx
  simp [h] at z
 kind:=kind
 names:=fun x hx h => by
  have z:=List.all_eq_true.mp names x hx
  simpa [h] using z
 len:=len
 at_:=fun i j x h1 h2 => A.at_ i j x h1 (by rw [← hN,List.getElem?_drop]; exact h2)
noncomputable def FnAt (P:Program) (w:World) (K:PySem.W.Frag) (mg:Str → Option Value) (base:Heap) (x:Str) (k:Nat) (f:FN):Prop :=
 ∃ fa fd ps,jK P w K mg base (iY P w) k fa fd ps (Fe ⟨K,mg,[]⟩ f) ∧ mg x = some (.ref fa) ∧ PySem.W.keepIn K (.ref fa) = true ∧ Binds K fd ps []
section
variable {X:Cx} {E:XK} {pos p:Pos} {e:Expr} {es:List Expr} {ms:MA} {f:FN} {x:Str} {k j:Nat}
theorem bp (G:FnAt X.prog X.w X.K X.mg X.base x k f) (hr:dR j X.A) (hk:k ≤ j) (hg:Gl X x) (hx:Passes (iY X.prog X.w) X E) (ha:PA X (e :: es) (tL X E ms)) (jV:(x == ("__debug__":Str)) = false:=by decide)
  (he:starEach (e :: es) X.env = (false,eval e X.env) :: starEach es X.env:=by rfl) (hU:(backTo pos (starEach es X.env)).any (·.1) = false:=by rfl):PE X (.Call (.Name x p) (e :: es) [] pos) (tE X E (aq f ms)):=by
 obtain ⟨fa,fd,ps,F,hm,kp,b⟩:=G
 exact Dy F (hr.mono hk) hg hm kp b hx ha jV he hU
theorem AR (G:FnAt X.prog X.w X.K X.mg X.base x k f) (hr:dR j X.A) (hk:k ≤ j) (hg:Gl X x) (vB:∀ y,X.fn y = true) (ha:∀ W,PA (X.km W) (e :: es) (tL X E0 ms)) (jV:(x == ("__debug__":Str)) = false:=by decide)
  (he:starEach (e :: es) X.env = (false,eval e X.env) :: starEach es X.env:=by rfl) (hU:(backTo pos (starEach es X.env)).any (·.1) = false:=by rfl):Dp X (.Call (.Name x p) (e :: es) [] pos) (Md X (aq f (vW ms))):=by
 obtain ⟨fa,fd,ps,F,hm,kp,b⟩:=G
 exact AO F (hr.mono hk) hg hm kp b vB ha jV he hU
end
section
variable {P:Program} {w:World} {K:PySem.W.Frag} {mg:Str → Option Value} {base:Heap}
theorem FnAt.mk {x:Str} {st:Stmt} {f:Addr} {fd:FuncData} {N ps:List Str} {k:Nat} {body:MB} (F:i5 K x x st f fd) (hm:mg x = some (.ref f)) (S:aR N ps (ao st))
  (hb:∀ (kV doc pm:Value) (an:Option Addr) (da ct:Value) (us:List Value),us.length = ps.length → bindArgs (PySem.W.fnOf x x (aS st) (aM st) (ao st) .none kV doc pm an da ct) ⟨us,[]⟩ = pure (ps.zip us))
  (h:∀ (da:Value) (A:Around) (outer:List PySem.Env) (s:Shared) (H:Hp) (E:XK),dR k (A.deeper (envOfC x (ao st) s.heap.objs.size f da)) →
   ja (fR (iY P w) P w K mg base N x (ao st) f da A outer s H E) (aM st) (tS (fR (iY P w) P w K mg base N x (ao st) f da A outer s H E) E body)):FnAt P w K mg base x (k + 1) (jx ps.length N.length body) :=
 ⟨f,fd,ps,Ay F S h,hm,F.kp,F.binds hb⟩
theorem cD {N:List Str} {qual:Str} {scope:Scope} {f:Addr} {cd:Value} {A:Around} {outer:List PySem.Env} {s₀:Shared} {H₀:Hp} {E:XK}:PassesOwn (model P w) (A.deeper (envOfC qual scope s₀.heap.objs.size f cd)) (envOfC qual scope s₀.heap.objs.size f cd) (fR (iY P w) P w K mg base N qual scope f cd A outer s₀ H₀ E).xe :=
 PassesOwn.leaving
theorem oV {N:List Str} {qual:Str} {scope:Scope} {f:Addr} {cd:Value} {A:Around} {outer:List PySem.Env} {s₀:Shared} {H₀:Hp} {E:XK}:Raises (fR (iY P w) P w K mg base N qual scope f cd A outer s₀ H₀ E) E :=
 fun pins σ H s h' e cls vs I hx hE => yq I hx hE
theorem Glob.int {x:Str} {i:Int} {t:Tok} (h:mg x = some (.int i t)):Glob K mg x (.int i):=⟨_,.int i,h,⟨t,rfl⟩,fun _ _ => Rl.mkInt i⟩
theorem Glob.ints {x:Str} {a:Addr} {o:Obj} {aN:Array Value} {n:Nat} {ns:List Int} (h:mg x = some (.ref a)) (l:K.lookup a = some o) (hc:o.cls = .type "tuple") (hd:o.data = .seq aN n) (hz:aN.size ≤ sizeLine) (hv:Vals (ns.map V.int) aN.toList):Glob K mg x (.mt (ns.map .int)) :=
 ⟨_,.ref a,h,rfl,fun ρ H => Rl.N2 (.inr ⟨o,aN,n,l,hc,hd,hz,hv⟩) (aZ.ints ns)⟩
end
end MN
namespace MN
open PySem PySem.Spec L2
open PyProof.Rows hiding St
theorem gY:bootBuiltins "ValueError" = some (.type "ValueError"):=by decide +kernel
abbrev Mg:List Value:=[.type "ValueError",.type "Exception",.type "BaseException",.type "object"]
noncomputable def vX (K:PySem.W.Frag) (mg:Str → Option Value) (x:Str):Prop:=∃ C,mg x = some (.ref C) ∧ PySem.W.excIn K C Mg "ValueError.__new__" = true ∧ PySem.W.subIn K (.ref C) (.type "BaseException") = some true
theorem jz {K:PySem.W.Frag} {D:Addr} {t:Value} {cd:ClassData} {b:Bool} (h1:PySem.W.clsIn K D = some cd) (h2:PySem.W.typeIn K (.ref D) = some (.type "type")) (h3:PySem.W.subIn K t (.ref D) = some b):PySem.W.kitCls K t (.ref D) = some b:=by
 show (if ((PySem.W.clsIn K D).isSome && PySem.W.typeIn K (.ref D) == some (.type "type")) = true then PySem.W.subIn K t (.ref D) else none) = some b
 rw [h1,h2,h3]
 rfl
inductive fC (K:PySem.W.Frag) (mg:Str → Option Value):List (Str × Str × Bool) → Prop
 | nil:fC K mg []
 | own {c x:Str} {b:Bool} {C D:Addr} {r:List (Str × Str × Bool)} (h1:mg c = some (.ref C)) (h2:mg x = some (.ref D)) (h3:PySem.W.kitCls K (.ref C) (.ref D) = some b) (hr:fC K mg r):fC K mg ((c,x,b) :: r)
 | blt {c x:Str} {n:String} {C:Addr} {r:List (Str × Str × Bool)} (h1:mg c = some (.ref C)) (h2:mg x = none) (Mi:bootBuiltins x = some (.type n)) (h3:PySem.W.kitOne K (.ref C) (.type n) = some true) (hr:fC K mg r):fC K mg ((c,x,true) :: r)
noncomputable def jN (tab:List (Str × Str × Bool)) (c x:Str):Option Bool:=match tab with
 | [] => none
 | (c',x',b) :: r => if c' = c ∧ x' = x then some b else jN r c x
section
variable {K:PySem.W.Frag} {mg:Str → Option Value}
theorem fC.Ko {tab:List (Str × Str × Bool)} (S:fC K mg tab):Hq K mg (jN tab):=by
 induction S with
 | nil => intro c x b C D h; cases h
 | @own c' x' _ _ _ _ h1 h2 h3 _ ih =>
  intro c x b C D h e1 e2
  rw [jN] at h
  by_cases z:c' = c ∧ x' = x
  ·rw [if_pos z] at h
   cases h
   rw [z.1,e1] at h1; cases h1
   rw [z.2,e2] at h2; cases h2
   exact h3
  ·rw [if_neg z] at h
   exact ih c x b C D h e1 e2
 | @blt c' x' _ _ _ h1 h2 _ _ _ ih =>
  intro c x b C D h e1 e2
  rw [jN] at h
  by_cases z:c' = c ∧ x' = x
  ·rw [z.2,e2] at h2; cases h2
  ·rw [if_neg z] at h
   exact ih c x b C D h e1 e2
theorem fC.N_ {tab:List (Str × Str × Bool)} (S:fC K mg tab):∀ (x:Str) (cv:Value),(∃ D,cv = .ref D ∧ mg x = some (.ref D)) ∨ (∃ n,cv = .type n ∧ bootBuiltins x = some (.type n) ∧ mg x = none) → Kn K mg (jN tab) x cv:=by
 induction S with
 | nil => intro x cv _ c C h; cases h
 | @own c' x' _ _ _ _ h1 h2 h3 _ ih =>
  intro x cv hx c C h e1
  rw [jN] at h
  by_cases z:c' = c ∧ x' = x
  ·rw [if_pos z] at h
   cases h
   rw [z.1,e1] at h1; cases h1
   rw [z.2] at h2
   rcases hx with ⟨D,rfl,e2⟩ | ⟨n,rfl,_,e2⟩
   ·rw [h2] at e2; cases e2
    unfold PySem.W.kitOne
    split
    ·rfl
    ·exact h3
   ·rw [h2] at e2; cases e2
  ·rw [if_neg z] at h
   exact ih x cv hx c C h e1
 | @blt c' x' _ _ _ h1 h2 Mi h3 _ ih =>
  intro x cv hx c C h e1
  rw [jN] at h
  by_cases z:c' = c ∧ x' = x
  ·rw [if_pos z] at h
   cases h
   rw [z.1,e1] at h1; cases h1
   rw [z.2] at h2 Mi
   rcases hx with ⟨D,rfl,e2⟩ | ⟨n,rfl,e2,_⟩
   ·rw [h2] at e2; cases e2
   ·rw [Mi] at e2; cases e2; exact h3
  ·rw [if_neg z] at h
   exact ih x cv hx c C h e1
noncomputable def IW (l:List Str) (c:Str):Bool:=l.contains c
theorem AU {l:List Str} (h:∀ c ∈ l,vX K mg c):Known mg (IW l):=fun c hc => by
 have:c ∈ l:=by simpa [IW] using hc
 obtain ⟨C,h1,_⟩:=h c this
 exact ⟨C,h1⟩
end
section
variable {X:Cx} {E:XK} {pos np cC p q1 q2:Pos} {x n:Str} {e₀:Expr} {es:List Expr} {ms:MA} {i:Nat} {b₀:Stmt} {eU:List Stmt} {rest:List ExceptHandler} {tab:List (Str × Str × Bool)} {s:MB} {r:MH}
theorem qO (hX:Raises X E) (hc:X.calm = true) (h:vX X.K X.mg x) (hg:Gl X x) (ha:PA X (e₀ :: es) (tL X E ms))
  (he:starEach (e₀ :: es) X.env = (false,eval e₀ X.env) :: starEach es X.env:=by rfl) (hU:(backTo cC (starEach es X.env)).any (·.1) = false:=by rfl) (hd:(x == ("__debug__":Str)) = false:=by decide) :
  PS X (.Raise (some (.Call (.Name x np) (e₀ :: es) [] cC)) none pos) (tS X E (lK x ms)):=by
 obtain ⟨C,hm,hq,_⟩:=h
 exact Ax hX hc hm hq PySem.F.excBase_ValueError hg ha he hU hd
theorem AV (hS:fC X.K X.mg tab) (h:vX X.K X.mg x) (hg:Gl X x) (hs:∀ ea oe,ja (L2.nq X ea oe) (b₀ :: eU) (tS (L2.nq X ea oe) E0 s)) (hr:PH X rest (zB X r)) (hd:(x == ("__debug__":Str)) = false:=by decide) :
  PH X (.ExceptHandler (some (.Name x np)) none (b₀ :: eU) pos :: rest) (zB X (qN (jN tab) x s r)):=by
 obtain ⟨C,hm,_,hB⟩:=h
 exact DF hS.Ko hg hm hB hs hr hd
theorem Ht (hS:fC X.K X.mg tab) (hN:X.N.Nodup) (h:vX X.K X.mg x) (hg:Gl X x) (hs:∀ ea oe,ja (L2.nq X ea oe) (b₀ :: eU) (tS (L2.nq X ea oe) E0 s)) (hr:PH X rest (zB X r)) (hi:X.N[i]? = some n:=by rfl) (hl:X.env.scope.names.lookup n = some .local:=by rfl) (hd:(x == ("__debug__":Str)) = false:=by decide) :
  PH X (.ExceptHandler (some (.Name x np)) (some n) (b₀ :: eU) pos :: rest) (zB X (IV (jN tab) x i s r)):=by
 obtain ⟨C,hm,_,hB⟩:=h
 exact Km hS.Ko hN hi hl hg hm hB hs hr hd
theorem DH (i:Nat) {T:String} (hS:fC X.K X.mg tab) (Tn:X.mg x = none) (hb:bootBuiltins x = some (.type T)) (hg:Gl X "isinstance") (hm:X.mg "isinstance" = none) (Me:Gl X x) (hN:X.N[i]? = some n:=by rfl) (hv:FL X.env.scope n:=by first | exact Or.inl rfl | exact Or.inr (Or.inl rfl)) (hn:x ≠ "__name__":=by decide)
  (hd:(n == ("__debug__":Str)) = false:=by decide) (mU:(n == ("__classdict__":Str)) = false:=by decide) (Mf:(x == ("__debug__":Str)) = false:=by decide)
  (hs:starEach [.Name n q1,.Name x q2] X.env = (false,eval (.Name n q1) X.env) :: starEach [.Name x q2] X.env:=by rfl) (hR:starEach [.Name x q2] X.env = (false,eval (.Name x q2) X.env) :: starEach [] X.env:=by rfl)
  (hU:(backTo pos (starEach [.Name x q2] X.env)).any (·.1) = false:=by rfl):PE X (.Call (.Name "isinstance" p) [.Name n q1,.Name x q2] [] pos) (tE X E (yC (jN tab) i x)) :=
 Hs (.blt Tn hb hn) (hS.N_ x _ (.inr ⟨T,rfl,hb,Tn⟩)) hg hm Me hN hv hd mU Mf hs hR hU
end
end MN
namespace MN
open PySem PySem.Spec L2
open PyProof.Rows hiding St
section
variable {κ:Type} [DecidableEq κ]
noncomputable def sj (aI:List (κ × Val)) (k:κ):Option Val:=(aI.find? fun kv => decide (kv.1 = k)).map (·.2)
noncomputable def yD (aI:List (κ × Val)) (k:κ) (v:Val):List (κ × Val) :=
 if (aI.any fun kv => decide (kv.1 = k)) = true then aI.map (fun kv => if kv.1 = k then (kv.1,v) else kv) else aI ++ [(k,v)]
variable {K:PySem.W.Frag} {ρ ρ':List Addr} {H H':Hp}
theorem hV.nil:hV K ρ H ([]:List (κ × Val)) []:=⟨rfl,aZ.nil⟩
theorem hV.cons {k:κ} {u:Val} {v:V} {aI:List (κ × Val)} {jL:List (κ × V)} (r:Rl K ρ H u v) (p:hV K ρ H aI jL):hV K ρ H ((k,u) :: aI) ((k,v) :: jL) :=
 ⟨by simp only [List.map_cons,p.1],aZ.cons r p.2⟩
theorem hV.du {k:κ} {u:Val} {aI:List (κ × Val)} {l:List (κ × V)} (p:hV K ρ H ((k,u) :: aI) l):∃ v jL,l = (k,v) :: jL ∧ Rl K ρ H u v ∧ hV K ρ H aI jL:=by
 obtain ⟨h1,h2⟩:=p
 cases l with
 | nil => simp at h1
 | cons x l =>
  obtain ⟨k',v⟩:=x
  simp only [List.map_cons,List.cons.injEq] at h1 h2
  obtain ⟨rfl,h1⟩:=h1
  obtain ⟨v',r,e,q1,q2⟩:=h2.du
  simp only [List.cons.injEq] at e
  obtain ⟨rfl,rfl⟩:=e
  exact ⟨v,l,rfl,q1,h1,q2⟩
theorem hV.gJ {l:List (κ × V)} (p:hV K ρ H ([]:List (κ × Val)) l):l = []:=by
 have:=p.1
 cases l with
 | nil => rfl
 | cons => simp at this
theorem hV.mono {aI:List (κ × Val)} {l:List (κ × V)} (p:hV K ρ H aI l) (e:Step ρ H ρ' H'):hV K ρ' H' aI l:=⟨p.1,aZ.mono e _ _ p.2⟩
theorem hV.length {aI:List (κ × Val)} {l:List (κ × V)} (p:hV K ρ H aI l):aI.length = l.length:=by
 have:=congrArg List.length p.1
 simpa using this
theorem hV.val (k:κ):∀ {aI:List (κ × Val)} {l:List (κ × V)},hV K ρ H aI l → (sj aI k = none ∧ iB l k = none) ∨ ∃ u v,sj aI k = some u ∧ iB l k = some v ∧ Rl K ρ H u v
 | [],l,p => by rw [p.gJ]; exact .inl ⟨rfl,rfl⟩
 | (k',u) :: aI,l,p => by
  obtain ⟨v,l',rfl,r,p'⟩:=p.du
  by_cases e:k' = k
  ·exact .inr ⟨u,v,by simp [sj,e],by simp [iB,e],r⟩
  ·rcases hV.val k p' with ⟨h1,h2⟩ | ⟨u',v',h1,h2,h3⟩
   ·exact .inl ⟨by simpa [sj,e] using h1,by simpa [iB,e] using h2⟩
   ·exact .inr ⟨u',v',by simpa [sj,e] using h1,by simpa [iB,e] using h2,h3⟩
theorem hV.any (k:κ):∀ {aI:List (κ × Val)} {l:List (κ × V)},hV K ρ H aI l → (aI.any fun kv => decide (kv.1 = k)) = l.any fun kv => decide (kv.1 = k)
 | [],l,p => by rw [p.gJ]; rfl
 | (k',u) :: aI,l,p => by
  obtain ⟨v,l',rfl,r,p'⟩:=p.du
  simp only [List.any_cons,hV.any k p']
theorem hV.rT (k:κ) {u:Val} {v:V} (r:Rl K ρ H u v):∀ {aI:List (κ × Val)} {l:List (κ × V)},hV K ρ H aI l → hV K ρ H (aI.map fun kv => if kv.1 = k then (kv.1,u) else kv) (l.map fun kv => if kv.1 = k then (kv.1,v) else kv)
 | [],l,p => by rw [p.gJ]; exact hV.nil
 | (k',u') :: aI,l,p => by
  obtain ⟨v',l',rfl,r',p'⟩:=p.du
  simp only [List.map_cons]
  by_cases e:k' = k
  ·rw [if_pos e,if_pos e]; exact hV.cons r (hV.rT k r p')
  ·rw [if_neg e,if_neg e]; exact hV.cons r' (hV.rT k r p')
theorem hV.snoc {k:κ} {u:Val} {v:V} (r:Rl K ρ H u v):∀ {aI:List (κ × Val)} {l:List (κ × V)},hV K ρ H aI l → hV K ρ H (aI ++ [(k,u)]) (l ++ [(k,v)])
 | [],l,p => by rw [p.gJ]; exact hV.cons r hV.nil
 | (k',u') :: aI,l,p => by
  obtain ⟨v',l',rfl,r',p'⟩:=p.du
  exact hV.cons r' (hV.snoc r p')
theorem hV.put (k:κ) {u:Val} {v:V} (r:Rl K ρ H u v) {aI:List (κ × Val)} {l:List (κ × V)} (p:hV K ρ H aI l):hV K ρ H (yD aI k u) (putK l k v):=by
 unfold yD putK
 rw [p.any k]
 split
 ·exact p.rT k r
 ·exact p.snoc r
end
noncomputable def keyOf:Val → Option Key
 | .int i => some (.inl i)
 | .str x => some (.inr x)
 | _ => none
noncomputable def keysOf:List Val → Option (List Key)
 | [] => some []
 | u :: us => match keyOf u,keysOf us with
  | some k,some ks => some (k :: ks)
  | _,_ => none
noncomputable def lQ:Val → Option (List Key)
 | .tup us => keysOf us
 | _ => none
section
variable {K:PySem.W.Frag} {ρ:List Addr} {H:Hp}
theorem sk {u:Val} {v:V} {k:Key} (r:Rl K ρ H u v) (h:keyOf u = some k):v = kV k:=by
 cases u with
 | int i => cases h; exact r.cn
 | str x => cases h; exact r.jd
 | _ => cases h
theorem ur:∀ {us:List Val} {vs:List V} {ks:List Key},aZ K ρ H us vs → keysOf us = some ks → vs = ks.map kV
 | [],vs,ks,r,h => by cases h; exact r.gJ
 | u :: us,vs,ks,r,h => by
  obtain ⟨v,r',rfl,h2,h3⟩:=r.du
  unfold keysOf at h
  split at h
  ·rename_i k XH e1 e2
   cases h
   rw [sk h2 e1,ur h3 e2]; rfl
  ·cases h
theorem uu {u:Val} {v:V} {ks:List Key} (r:Rl K ρ H u v) (h:lQ u = some ks):∃ b,v = .ref b ∧ H b = some (.tup (ks.map kV)):=by
 cases u with
 | tup us =>
  obtain ⟨b,vs,rfl,hb,rb⟩:=r.Kc
  rw [ur rb h] at hb
  exact ⟨b,rfl,hb⟩
 | _ => cases h
end
noncomputable def kE (st:ah) (d k:Val):Option (Option Val):=match d with
 | .loc n => match st[n]? with
  | some (.dK aI) => (keyOf k).map fun q => sj aI q
  | some (.dT aI) => (lQ k).map fun q => sj aI q
  | _ => none
 | _ => none
noncomputable def j6 (st:ah) (d k v:Val):Option ah:=match d with
 | .loc n => match st[n]? with
  | some (.dK aI) => if aI.length < sizeLine then (keyOf k).map fun q => st.set n (.dK (yD aI q v)) else none
  | some (.dT aI) => if aI.length < sizeLine then (lQ k).map fun q => st.set n (.dT (yD aI q v)) else none
  | _ => none
 | _ => none
theorem qP {K:PySem.W.Frag} {ρ:List Addr} {st:ah} {H:Hp} {d k:Val} {x y:V} {o:Option Val} (sr:SR K ρ st H) (rd:Rl K ρ H d x) (rk:Rl K ρ H k y) (h:kE st d k = some o) :
  ∃ a o',x = .ref a ∧ ni H a y o' ∧ LW H a ∧ ((o = none ∧ o' = none) ∨ ∃ u v,o = some u ∧ o' = some v ∧ Rl K ρ H u v):=by
 cases d with
 | loc n =>
  obtain ⟨a,rfl,ha⟩:=rd.fA
  unfold kE at h
  dsimp only at h
  split at h
  ·rename_i aI e
   obtain ⟨l,hl,p⟩:=sr.cell n _ a e ha
   cases z:keyOf k with
   | none => rw [z] at h; cases h
   | some q =>
    rw [z] at h
    cases h
    have:=sk rk z
    subst this
    exact ⟨a,iB l q,rfl,ni.k hl,.inl ⟨l,.inl hl⟩,p.val q⟩
  ·rename_i aI e
   obtain ⟨l,hl,p⟩:=sr.cell n _ a e ha
   cases z:lQ k with
   | none => rw [z] at h; cases h
   | some q =>
    rw [z] at h
    cases h
    obtain ⟨b,rfl,hb⟩:=uu rk z
    exact ⟨a,iB l q,rfl,ni.t hl hb,.inr ⟨l,.inl hl⟩,p.val q⟩
  ·cases h
 | _ => cases h
theorem vY {K:PySem.W.Frag} {ρ:List Addr} {st av:ah} {H:Hp} {d k v:Val} {x y z:V} (sr:SR K ρ st H) (rd:Rl K ρ H d x) (rk:Rl K ρ H k y) (rv:Rl K ρ H v z) (h:j6 st d k v = some av) :
  ∃ a H',x = .ref a ∧ rW H a y z H' ∧ Step ρ H ρ H' ∧ SR K ρ av H':=by
 cases d with
 | loc n =>
  obtain ⟨a,rfl,ha⟩:=rd.fA
  unfold j6 at h
  dsimp only at h
  split at h
  ·rename_i aI e
   obtain ⟨l,hl,p⟩:=sr.cell n _ a e ha
   split at h
   ·rename_i hz
    cases zk:keyOf k with
    | none => rw [zk] at h; cases h
    | some q =>
     rw [zk] at h
     cases h
     have:=sk rk zk
     subst this
     have aQ:Step ρ H ρ (upd H a (.dK (putK l q z))):=Step.put hl (fun _ z => by cases z) (fun _ _ z => by cases z)
     exact ⟨a,_,rfl,rW.k hl (by rw [← p.length]; exact hz),aQ,sr.set e rfl rfl ha hl (fun _ z => by cases z) (fun _ _ z => by cases z) ⟨_,bw,(p.put q rv).mono aQ⟩⟩
   ·cases h
  ·rename_i aI e
   obtain ⟨l,hl,p⟩:=sr.cell n _ a e ha
   split at h
   ·rename_i hz
    cases zk:lQ k with
    | none => rw [zk] at h; cases h
    | some q =>
     rw [zk] at h
     cases h
     obtain ⟨b,rfl,hb⟩:=uu rk zk
     have aQ:Step ρ H ρ (upd H a (.dT (putK l q z))):=Step.put hl (fun _ z => by cases z) (fun _ _ z => by cases z)
     exact ⟨a,_,rfl,rW.t hl hb (by rw [← p.length]; exact hz),aQ,sr.set e rfl rfl ha hl (fun _ z => by cases z) (fun _ _ z => by cases z) ⟨_,bw,(p.put q rv).mono aQ⟩⟩
   ·cases h
  ·cases h
 | _ => cases h
noncomputable def j7:ME:=fun _ st => .ok (.loc st.length) (st ++ [.dT []])
noncomputable def ie:F2:=fun d k st => match kE st d k with
 | some (some v) => .ok v st
 | _ => .bad
noncomputable def U9 (neg:Bool):F2:=fun k d st => match kE st d k with
 | some o => .ok (.bl (if neg then !o.isSome else o.isSome)) st
 | none => .bad
noncomputable def sm (st:ah):Val → Bool
 | .loc n => match st[n]? with
  | some (.dK _) => true
  | some (.dT _) => true
  | _ => false
 | _ => false
noncomputable def iG (d k x:ME):ME:=fun μ st => (d μ st).bind fun dv aQ => if sm aQ dv = true then (k μ aQ).bind fun kv cI => (x μ cI).bind fun xv lu => match kE lu dv kv with
 | some o => .ok (o.getD xv) lu
 | none => .bad else .bad
noncomputable def j8 (d k v:ME):MB:=fun μ st => (v μ st).sb μ fun vv aQ => (d μ aQ).sb μ fun dv cI => (k μ cI).sb μ fun kv lu => match j6 lu dv kv vv with
 | some lH => .nx μ lH
 | none => .bad
section
variable {X:Cx} {E:XK} {pos pos' apos cC:Pos} {o i e f value:Expr} {md mk mv mx:ME}
theorem AW {K:PySem.W.Frag} {ρ:List Addr} {st:ah} {H:Hp} (sr:SR K ρ st H) {p:Addr} (hp:H p = none) {ob:HO} {c:Cell} (k:eV K (ρ ++ [p]) (upd H p ob) c p) :
  Step ρ H (ρ ++ [p]) (upd H p ob) ∧ SR K (ρ ++ [p]) (st ++ [c]) (upd H p ob) ∧ Rl K (ρ ++ [p]) (upd H p ob) (.loc st.length) (.ref p):=by
 refine ⟨Step.snoc p (d6 hp),sr.alloc hp k,Rl.Av ?_⟩
 rw [← sr.len,List.getElem?_append_right (Nat.le_refl _),Nat.sub_self]
 rfl
theorem uw:PE X (.Dict [] [] pos) (tE X E j7):=by
 refine PE.imp Aa ?_
 rintro σ H Q ⟨μ,ρ,st,rs,sr,h⟩ p hp
 obtain ⟨k1,k2,k3⟩:=AW (c:=.dT []) sr hp ⟨[],bw,hV.nil⟩
 exact h _ _ _ k1 k2 k3
theorem sq (hu:X.A.units + 64 < cLine) (ho:PE X o (tE X E md)) (hi:PE X i (tE X E mk)) (hs:GK i:=by exact fun _ _ => rfl):PE X (.Subscript o i pos) (tE X E (ai ie md mk)):=by
 refine PE.imp (C8 (by lia) ho hi hs) ?_
 rintro σ H Q ⟨μ,ρ,st,rs,sr,h⟩
 refine go μ ρ st rs sr h fun d aQ ρ1 H1 x e1 bU r1 h1 => ?_
 refine go μ ρ1 aQ (rs.mono e1) bU h1 fun k cI ρ2 H2 y e2 qE r2 h2 => ?_
 unfold ie at h2
 split at h2
 ·rename_i u hl
  obtain ⟨a,o',rfl,hd,_,hv⟩:=qP qE (Rl.mono e2 _ _ r1) r2 hl
  rcases hv with ⟨z,_⟩ | ⟨u',v,z,rfl,rv⟩
  ·cases z
  ·cases z
   exact ⟨a,v,rfl,hd,h2 ρ2 H2 v (Step.refl _ _) qE rv⟩
 ·exact h2.elim
theorem DI {K:PySem.W.Frag} {ρ:List Addr} {st:ah} {H:Hp} {d:Val} {x:V} (sr:SR K ρ st H) (r:Rl K ρ H d x) (h:sm st d = true):∃ a,x = .ref a ∧ LW H a:=by
 cases d with
 | loc n =>
  obtain ⟨a,rfl,ha⟩:=r.fA
  obtain ⟨c,hc,kc⟩:=sr.there ha
  simp only [sm,hc] at h
  cases c with
  | dK aI => obtain ⟨l,hl,_⟩:=kc; exact ⟨a,rfl,.inl ⟨l,.inl hl⟩⟩
  | dT aI => obtain ⟨l,hl,_⟩:=kc; exact ⟨a,rfl,.inr ⟨l,.inl hl⟩⟩
  | _ => cases h
 | _ => cases h
theorem uz (hu:X.A.units + 64 < cLine) (ho:PE X o (tE X E md)) (he:PE X e (tE X E mk)) (hf:PE X f (tE X E mx)) (m:M2 X o "get" apos e f cC:=by exact ⟨rfl,rfl,rfl,rfl⟩):PE X (.Call (.Attribute o "get" apos) [e,f] [] cC) (tE X E (iG md mk mx)):=by
 refine PE.imp (Ac (by lia) ho he hf m) ?_
 rintro σ H Q ⟨μ,ρ,st,rs,sr,h⟩
 refine go μ ρ st rs sr h fun d aQ ρ1 H1 x e1 bU r1 h1 => ?_
 split at h1
 ·rename_i hd
  obtain ⟨a,rfl,ia⟩:=DI bU r1 hd
  refine ⟨a,rfl,ia,?_⟩
  refine go μ ρ1 aQ (rs.mono e1) bU h1 fun k cI ρ2 H2 y e2 qE r2 h2 => ?_
  refine go μ ρ2 cI ((rs.mono e1).mono e2) qE h2 fun xv lu ρ3 H3 z e3 Fh r3 h3 => ?_
  split at h3
  ·rename_i ov hl
   obtain ⟨a',o',ea,ML,_,hv⟩:=qP Fh (Rl.mono (e2.trans e3) _ _ r1) (Rl.mono e3 _ _ r2) hl
   cases ea
   refine ⟨o',ML,?_⟩
   rcases hv with ⟨rfl,rfl⟩ | ⟨u,v,rfl,rfl,rv⟩
   ·exact h3 ρ3 H3 z (Step.refl _ _) Fh r3
   ·exact h3 ρ3 H3 v (Step.refl _ _) Fh rv
  ·exact h3.elim
 ·exact h1.elim
theorem xp (hu:X.A.units + 64 < cLine) (ho:PE X o (tE X E md)) (hi:PE X i (tE X E mk)) (hv:PE X value (tE X E mv)) (hs:swapsWith value (some (.Subscript o i pos')) pos.line X.env = pure false:=by rfl) :
  PS X (.Assign [.Subscript o i pos'] value pos) (tS X E (j8 md mk mv)):=by
 refine PS.imp (C9 (by lia) ho hi hv hs) ?_
 rintro D σ H ⟨μ,ρ,st,rs,sr,h⟩
 refine Cw μ ρ st rs sr h fun v aQ ρ1 H1 z e1 bU r1 h1 => ?_
 refine Cw μ ρ1 aQ (rs.mono e1) bU h1 fun d cI ρ2 H2 x e2 qE r2 h2 => ?_
 refine Cw μ ρ2 cI ((rs.mono e1).mono e2) qE h2 fun k lu ρ3 H3 y e3 Fh r3 h3 => ?_
 split at h3
 ·rename_i lH zz
  obtain ⟨a,H4,rfl,hd,s4,nr⟩:=vY Fh (Rl.mono e3 _ _ r2) r3 (Rl.mono (e2.trans e3) _ _ r1) zz
  exact ⟨a,H4,rfl,hd,h3 ρ3 H4 σ s4 nr ((((rs.mono e1).mono e2).mono e3).mono s4)⟩
 ·exact h3.elim
end
section
variable {X:Cx} {E:XK} {es:List Expr} {ms:MA} {pos:Pos}
theorem cV {i j} (hr:PA X es (tL X E ms)):PA X (.Constant (.int i) j pos :: es) (tL X E (ae (mC (.int i)) ms)):=aj au hr
theorem Fi {b j} (hr:PA X es (tL X E ms)):PA X (.Constant (.bool b) j pos :: es) (tL X E (ae (mC (.bl b)) ms)):=aj kr hr
theorem AX {x j} (hr:PA X es (tL X E ms)):PA X (.Constant (.str x) j pos :: es) (tL X E (ae (mC (.str x)) ms)):=aj G_ hr
theorem bP {a b:Expr} {ma mb:ME} (ha:PE X a (tE X E ma)) (hb:PE X b (tE X E mb)) (hs:rO b:=by exact fun _ _ => rfl):PE X (.Subscript a b pos) (tE X E (ai de ma mb)):=Kh N7 ha hb hs
end
end MN
namespace MN
open PySem PySem.Spec L2
open PyProof.Rows hiding St
noncomputable abbrev MO:=Env → ah → Res (Option Int)
noncomputable def To (m:ME):MO:=fun μ st => (m μ st).bind fun v av => match v with
 | .int i => .ok (some i) av
 | _ => .bad
section
variable {X:Cx} {E:XK} {pos p2:Pos} {e:Expr} {m:ME}
end
noncomputable def U_:FM
 | .loc n,[],st => match st[n]? with
  | some (.lst us) => match us[us.length - 1]? with
   | some u => .ok u (st.set n (.lst us.dropLast))
   | none => .bad
  | _ => .bad
 | _,_,_ => .bad
noncomputable def Mj:FM
 | .loc n,[.loc m],st => match st[n]?,st[m]? with
  | some (.lst us),some (.lst ws) => if us.length + ws.length ≤ sizeLine then .ok .eR (st.set n (.lst (us ++ ws))) else .bad
  | _,_ => .bad
 | _,_,_ => .bad
section
variable {X:Cx} {E:XK} {o:Expr} {mo:ME} {apos cC:Pos} {f:FM}
end
section
variable {X:Cx} {E:XK} {o i v:Expr} {mo mi mv:ME} {pos Gp:Pos} {f:F2}
end
noncomputable def iS (hi:Int) (n:Nat):List Val:=(List.range n).map fun (i:Nat) => Val.int (hi - (i:Int))
theorem AY {K:PySem.W.Frag} {ρ:List Addr} {H:Hp} (lo:Int) (n:Nat):Hh K ρ H (iS lo n,fun _ => True) (L9 lo n):=by
 intro ρ' av H' e sr g i
 refine ⟨fun u hu => ?_,fun hi => ?_⟩
 ·have hi:i < n:=by
   have:=ff hu
   simpa [iS] using this
  refine ⟨hi,fun x Mc y => ?_⟩
  obtain ⟨rfl,rfl⟩:=y
  have e:u = Val.int (lo - (i:Int)):=by
   simp only [iS,List.getElem?_map] at hu
   rw [List.getElem?_range hi] at hu
   exact (Option.some.inj hu).symm
  subst e
  exact ⟨Step.refl _ _,sr,Rl.mkInt _⟩
 ·show n ≤ i
  simpa [iS] using hi
noncomputable def AZ (vs:List Val) (av:ah):Res Itm:=match vs with
 | [.int i,.int j,.int k] => if k = -1 ∧ -(2 ^ 62) ≤ i ∧ i < 2 ^ 62 ∧ -(2 ^ 62) ≤ j ∧ j < 2 ^ 62 then .ok (iS i (i - j).toNat,fun _ => True) av else .bad
 | _ => .bad
noncomputable def lR (m:MA):MI:=fun μ st => (m μ st).bind AZ
section
variable {X:Cx} {E:XK} {tg:Expr} {pos p:Pos}
theorem DJ {a b c:Expr} {m:MA} (hg:Gl X "range") (hm:X.mg "range" = none) (ha:PA X [a,b,c] (tL X E m)) (hs:starEach [a,b,c] X.env = [(false,eval a X.env),(false,eval b X.env),(false,eval c X.env)]:=by rfl) (hR:starEach [b,c] X.env = [(false,eval b X.env),(false,eval c X.env)]:=by rfl) :
  PI X tg (.Call (.Name "range" p) [a,b,c] [] pos) (tI X E (lR m)):=by
 refine PI.imp (Du hg hm ha hs hR) ?_
 rintro σ H R ⟨μ,ρ,st,rs,sr,h⟩
 refine go (R1:=aZ X.K) μ ρ st rs sr h fun us aQ ρ1 H1 xs e1 bU r1 h1 => ?_
 unfold AZ at h1
 split at h1
 ·rename_i i j k
  obtain ⟨v,r',rfl,rv,rr⟩:=r1.du
  obtain ⟨w,z,rfl,tM,rz⟩:=rr.G8
  split at h1
  ·rename_i hz
   obtain ⟨rfl,hz⟩:=hz
   exact ⟨i,j,by rw [rv.cn,tM.cn,rz.cn],hz,h1 ρ1 H1 _ (Step.refl _ _) bU (AY i _)⟩
  ·exact h1.elim
 ·exact h1.elim
end
section
variable {X:Cx} {E:XK}
end
section
variable {X:Cx} {E:XK} {o e:Expr} {es:List Expr} {mo:ME} {ms:MA} {apos cC:Pos}
theorem gj (ho:PE X o (tE X E mo)) (ha:PA X (e :: es) (tL X E ms))
  (ko:attributeBase o "append" X.env (eval o X.env) = eval o X.env:=by rfl)
  (z8:((backTo cC (starEach (e :: es) X.env)).all (fun x => !x.1) && (backToKw cC (keywordEach [] X.env)).all (fun x => x.1.isSome)
   && decide ((e :: es).length + ([]:List Keyword).length + (if ([]:List Keyword).isEmpty then 0 else 1) < 30)) = true:=by rfl)
  (kq:(apos.endLine == cC.line) = true:=by rfl) (hs:starEach (e :: es) X.env = (false,eval e X.env) :: starEach es X.env:=by rfl) (oB:(backTo cC (starEach es X.env)).any (·.1) = false:=by rfl) :
  PE X (.Call (.Attribute o "append" apos) (e :: es) [] cC) (tE X E (jh cw mo ms)):=Hl PySem.F.slot_list_append PySem.F.type_list_append vV ho ha ko z8 kq hs oB
end
end MN
namespace MN
open PySem PySem.Spec L2
open PyProof.Rows hiding St
theorem Fj {X:Cx} {N:List Str} {scope:Scope} {k:Nat} {cl cl':List (Str × Addr)} {caps caps':List Nat} (tY:closureFor scope X.env = pure cl') (A:gW X scope cl caps) (B:gW X scope cl' caps') (has:((relabel scope X.env).names.all fun p => !(p.2 == .cell || p.2 == .free) || (cl'.map (·.1)).contains p.1) = true)
  (gr:(scope.names.all fun p => !(p.2 == .cell)) = true) (kind:scope.kind = .function) (names:(scope.names.all fun p => !(p.2 == .local) || scope.names.lookup p.1 == some .local) = true) (len:N.length = k + caps.length) (hN:N.drop k = cl.map (·.1)):tX X N scope cl' k caps where
 tY:=tY
 sub:=B.sub
 has:=fun x h => by
  have m:x ∈ cl'.map (·.1):=by
   rcases h with h | h <;> (have m:=PySem.mem_of_lookup h; have z:=List.all_eq_true.mp has _ m; simpa using z)
  exact gX m
 gr:=fun x hx h => by
  have z:=List.all_eq_true.mp gr x hx
  simp [h] at z
 kind:=kind
 names:=fun x hx h => by
  have z:=List.all_eq_true.mp names x hx
  simpa [h] using z
 len:=len
 at_:=fun i j x h1 h2 => A.at_ i j x h1 (by rw [← hN,List.getElem?_drop]; exact h2)
theorem len0 {C:List Value → Prop} (h:C []) (us:List Value) (hl:us.length = 0):C us:=by
 rw [List.eq_nil_of_length_eq_zero hl]
 exact h
theorem DK {C:List Value → Prop} {n:Nat} (h:∀ a (r:List Value),r.length = n → C (a :: r)) (us:List Value) (hl:us.length = n + 1):C us:=by
 cases us with
 | nil => cases hl
 | cons a r => exact h a r (Nat.succ.inj hl)
theorem su {C:List Value → Prop} (h:∀ a,C [a]):∀ us:List Value,us.length = 1 → C us:=DK fun a => len0 (C:=fun r => C (a :: r)) (h a)
theorem oW {C:List Value → Prop} (h:∀ a b,C [a,b]):∀ us:List Value,us.length = 2 → C us:=DK fun a => su (C:=fun r => C (a :: r)) (h a)
theorem vZ {C:List Value → Prop} (h:∀ a b c,C [a,b,c]):∀ us:List Value,us.length = 3 → C us:=DK fun a => oW (C:=fun r => C (a :: r)) (h a)
theorem Kp {C:List Value → Prop} (h:∀ a b c d,C [a,b,c,d]):∀ us:List Value,us.length = 4 → C us:=DK fun a => vZ (C:=fun r => C (a :: r)) (h a)
end MN
namespace L2
open PySem PySem.Spec PyProof.Rows PySem.W Builtin Builtin.ObjectAttr Builtin.Getset_descriptor PySem.Calls
section
variable {prog:Program} {w:World} {A:Around} {E:Value → Shared → Prop} {s:Shared} {K:PySem.W.Frag} {x C:Addr} {ox:Obj} {R:Result → Shared → Prop}
end
section
variable {X:Cx}
end
end L2
namespace MN
open PySem PySem.Spec L2
open PyProof.Rows hiding St
section
variable {X:Cx} {E:XK} {pos p q1 Gp:Pos} {n:Str} {i:Nat} {tab:List (Str × Str × Bool)} {qs xs:List Str} {es:List Expr} {cx:Nat}
end
end MN
namespace MN
open PySem PySem.Spec L2
open PyProof.Rows hiding St
section
variable {K:PySem.W.Frag} {ρ ρ':List Addr} {H H':Hp} {c:Addr} {o:Obj}
theorem A0 (hc:Fz H c o) {a:Addr} {vs:List V} (h:jQ K H a vs):jQ K (hide H c) a vs:=by
 rcases h with (h | ⟨o',h⟩) | h
 ·exact .inl (.inl (by rw [hide_ne (fun z => by rw [z,hc] at h; cases h)]; exact h))
 ·exact .inl (.inr ⟨o',by rw [hide_ne (fun z => by rw [z,hc] at h; cases h)]; exact h⟩)
 ·exact .inr h
mutual
theorem Rl.hide (hc:Fz H c o):∀ (u:Val) (v:V),Rl K ρ H u v → Rl K ρ (hide H c) u v
 | .eR,_,h => h
 | .bl _,_,h => h
 | .int _,_,h => h
 | .str _,_,h => h
 | .tup us,v,h => by
  unfold Rl at h ⊢
  obtain ⟨a,vs,h1,h2,h3⟩:=h
  exact ⟨a,vs,h1,by rw [hide_ne (fun z => by rw [z,hc] at h2; cases h2)]; exact h2,aZ.hide hc us vs h3⟩
 | .mt us,v,h => by
  unfold Rl at h ⊢
  obtain ⟨a,vs,h1,h2,h3⟩:=h
  exact ⟨a,vs,h1,A0 hc h2,aZ.hide hc us vs h3⟩
 | .loc n,v,h => by
  unfold Rl at h ⊢
  exact h
 | .exc c,v,h => h
 | .fn _ _,_,h => h
theorem aZ.hide (hc:Fz H c o):∀ (us:List Val) (vs:List V),aZ K ρ H us vs → aZ K ρ (hide H c) us vs
 | [],_,h => h
 | u :: us,vs,h => by
  unfold aZ at h ⊢
  obtain ⟨v,r,h1,h2,h3⟩:=h
  exact ⟨v,r,h1,Rl.hide hc u v h2,aZ.hide hc us r h3⟩
end
theorem eV.hide (hc:Fz H c o) (hd:∃ x,o.data = .cell x) {k:Cell} {a:Addr} (h:eV K ρ H k a):eV K ρ (hide H c) k a:=by
 have ne:∀ {b:Addr} {x:HO},H b = some x → (∀ o,x ≠ .fQ o (.own 0)) → L2.hide H c b = some x:=fun {b x} q z => by
  rw [hide_ne (fun e => by rw [e,hc] at q; exact z _ (Option.some.inj q).symm)]; exact q
 cases k with
 | lst us => obtain ⟨vs,h,r⟩:=h; exact ⟨vs,ne h (fun _ z => by cases z),aZ.hide hc _ _ r⟩
 | Fc us => obtain ⟨x,vs,h,r⟩:=h; exact ⟨x,vs,ne h (fun _ z => by cases z),aZ.hide hc _ _ r⟩
 | mod us => obtain ⟨vs,h,r⟩:=h; exact ⟨vs,h,aZ.hide hc _ _ r⟩
 | dK us => obtain ⟨vs,h,r1,r2⟩:=h; exact ⟨vs,ne h (fun _ z => by cases z),r1,aZ.hide hc _ _ r2⟩
 | dT us => obtain ⟨vs,h,r1,r2⟩:=h; exact ⟨vs,ne h (fun _ z => by cases z),r1,aZ.hide hc _ _ r2⟩
 | tab x l cl q =>
  refine ⟨h.1,?_⟩
  rcases h.2 with h | ⟨c',oc,vs,t,h,h2,h3,h4⟩
  ·exact .inl (ne h (fun _ z => by cases z))
  ·refine .inr ⟨c',oc,vs,t,ne h (fun _ z => by cases z),?_,h3,h4⟩
   have n2:c' ≠ c:=fun z => by
    have h2:H c' = _:=h2
    rw [z,hc] at h2
    cases h2
    obtain ⟨x,hx⟩:=hd
    rw [hx] at h3
    cases h3
   show L2.hide H c c' = _
   rw [hide_ne n2]; exact h2
theorem SR.hide {st:ah} (hc:Fz H c o) (hd:∃ x,o.data = .cell x) (s:SR K ρ st H):SR K ρ st (hide H c) :=
 ⟨s.len,s.nd,fun n k a h1 h2 => (s.cell n k a h1 h2).hide hc hd⟩
theorem Step.Oa (hn:H c = none) (e:Step ρ (upd H c (.fQ o (.own 0))) ρ' H'):Step ρ H ρ' (hide H' c):=by
 have ne:∀ {b:Addr} {x:HO},H b = some x → b ≠ c:=fun {b x} q z => by rw [z,hn] at q; cases q
 refine ⟨e.pre,fun b xs h => ?_,fun b x u h => ?_⟩
 ·rw [hide_ne (ne h)]; exact e.tup b xs (by rw [aE (ne h)]; exact h)
 ·rw [hide_ne (ne h)]; exact e.fQ b x u (by rw [aE (ne h)]; exact h)
theorem Step.back (hc:Fz H c o) (e:Step ρ (hide H c) ρ' H'):Step ρ H ρ' (back H H' c):=by
 refine ⟨e.pre,fun b xs h => ?_,fun b x u h => ?_⟩
 ·have n:b ≠ c:=fun z => by rw [z,hc] at h; cases h
  rw [fZ n]; exact e.tup b xs (by rw [hide_ne n]; exact h)
 ·by_cases n:b = c
  ·rw [n,lG,← n]; exact h
  ·rw [fZ n]; exact e.fQ b x u (by rw [hide_ne n]; exact h)
theorem qQ (h:H' c = none):jW H' (back H H' c):=fun b x q => by
 rw [fZ (fun z => by rw [z,h] at q; cases q)]; exact q
theorem SR.Hu {st:ah} {L:dS} {H':Hp} {T c f c':Addr} {pos:Pos} {x:Str} {j:Nat} (s:SR K ρ st H) (hj:st[j]? = some (.tab x pos.line pos.col L.qual)) (hT:ρ[j]? = some T) (N:Ap L H H' T c f c' pos):SR K ρ st H' ∧ Step ρ H ρ H':=by
 have k:=s.cell j _ T hj hT
 have tT:∃ ps,H T = some (.p5 ps):=by
  rcases k.2 with h | ⟨_,_,_,_,h,_⟩ <;> exact ⟨_,h⟩
 obtain ⟨ps,tT⟩:=tT
 have av:Step ρ H ρ H':=by
  refine ⟨List.prefix_refl ρ,fun b xs h => N.old b _ (fun z => ?_) h,fun b x u h => N.old b _ (fun z => ?_) h⟩ <;> (rw [z,tT] at h; cases h)
 refine ⟨⟨s.len,s.nd,fun n d a h1 h2 => ?_⟩,av⟩
 by_cases z:n = j
 ·subst z
  rw [hj] at h1
  rw [hT] at h2
  cases h1
  cases h2
  exact ⟨k.1,N.tab⟩
 ·have kb:=s.cell n d a h1 h2
  cases zm:iR (some d) with
  | true => exact kb.mono av (.inl zm)
  | false =>
   have hb:a ≠ T:=fun y => z (s.nd n j T (by rw [← y]; exact h2) hT (by rw [h1]; exact zm) (by rw [hj]; rfl))
   obtain ⟨o,ho,_⟩:=kb.there zm
   exact kb.mono av (.inr (by rw [ho]; exact N.old a _ hb ho))
end
theorem Kq {P:Program} {w:World} {X:Cx}:Passes (iY P w) X E0:=by
 rintro pins σ H s e s' I ⟨_,_,_,_,_,z⟩
 exact z.elim
noncomputable def v3 (P:Program) (w:World) (K:PySem.W.Frag) (mg:Str → Option Value) (base:Heap) (L:dS) (k:Nat) (mb:ME):Prop :=
 L.Ok ∧ ∀ (f c c':Addr) (A:Around) (outer:List PySem.Env) (s:Shared) (H:Hp),dR k (A.deeper (PySem.W.envX L.qual L.scope s.heap.objs.size f (.ref c') [(L.x,c)])) →
  PE (qD P w K mg base L f c c' A outer s H) L.body (tE (qD P w K mg base L f c c' A outer s H) E0 mb)
open Classical in
noncomputable def gZ (i:Nat) (L:dS) (mb:ME) (ms:MA):ME:=fun μ st => match μ[i]? with
 | some (some (.fn L' u)) => if L' = L then (ms μ st).bind fun us aQ => if us.length = L.ps.length then vW mb (us.map some ++ [some u]) aQ else .bad else .bad
 | _ => .bad
section
variable {X:Cx} {E:XK} {pos p:Pos} {e:Expr} {es:List Expr} {ms:MA} {x:Str} {L:dS} {k:Nat} {mb:ME}
theorem RS.lam {W:Wo} {ρ:List Addr} {H:Hp} {us:List Val} {vs:List V} {u:Val} {v:V} (r:aZ W.K ρ H us vs) (h:Rl W.K ρ H u v):RS W ρ H (us.map some ++ [some u]) (vs.map some ++ [some v]):=by
 have hl:=r.length
 refine ⟨by simp [hl],fun i w e => ?_⟩
 rcases Nat.lt_or_ge i us.length with q | q
 ·rw [List.getElem?_append_left (by rw [List.length_map]; exact q),List.getElem?_map] at e
  have e':us[i]? = some w:=by
   cases z:us[i]? with
   | none => rw [z] at e; cases e
   | some w => rw [z] at e; exact congrArg _ (Option.some.inj (Option.some.inj e))
  obtain ⟨v,h1,h2⟩:=r.get e'
  refine ⟨v,?_,ud.of h2⟩
  rw [List.getElem?_append_left (by rw [List.length_map,← hl]; exact q),List.getElem?_map,h1]
  rfl
 ·rw [List.getElem?_append_right (by rw [List.length_map]; exact q),List.length_map] at e
  cases z:i - us.length with
  | zero =>
   rw [z] at e
   cases e
   refine ⟨v,?_,ud.of h⟩
   rw [List.getElem?_append_right (by rw [List.length_map,← hl]; exact q),List.length_map,← hl,z]
   rfl
  | succ n => rw [z] at e; cases e
theorem uA (S:v3 X.prog X.w X.K X.mg X.base L k mb) (i:Nat) (hr:dR (k + 1) X.A) (ha:PA X (e :: es) (tL X E ms)) (hN:X.N[i]? = some x:=by rfl) (hk:X.env.scope.names.lookup x = some .local:=by rfl) (jV:(x == ("__debug__":Str)) = false:=by decide)
  (he:starEach (e :: es) X.env = (false,eval e X.env) :: starEach es X.env:=by rfl) (hU:(backTo pos (starEach es X.env)).any (·.1) = false:=by rfl) :
  PE X (.Call (.Name x p) (e :: es) [] pos) (tE X E (gZ i L mb ms)):=by
 refine PE.imp (Aq S.1 hr hN hk ha jV he hU) ?_
 rintro σ H Q ⟨μ,ρ,st,rs,sr,h⟩
 unfold gZ at h
 have key:∀ u,μ[i]? = some (some (.fn L u)) → wR (wo X) E (Rl X.K) ρ H Q ((ms μ st).bind fun us aQ => if us.length = L.ps.length then vW mb (us.map some ++ [some u]) aQ else .bad) →
   ∃ f c c' v,σ[i]? = some (some (.ref f)) ∧ yu L H f c c' v ∧ tL X E ms σ H fun vs H1 => yu L H1 f c c' v ∧ Fb X L f c c' v vs H1 Q:=by
  intro u hμ h
  obtain ⟨vf,hσ,f,c,c',cv,e0,C,r⟩:=rs.at_ i _ hμ
  subst e0
  refine ⟨f,c,c',cv,hσ,C,go (R1:=aZ X.K) μ ρ st rs sr h fun us aQ ρ1 H1 xs e1 bU r1 h1 => ?_⟩
  have C1:=C.mono (fun b o u q => e1.fQ b o u q)
  refine ⟨C1,?_⟩
  by_cases hl:us.length = L.ps.length
  ·rw [if_pos hl] at h1
   obtain ⟨oc,uc,hc,mU,_⟩:=C1.ce
   refine ⟨by rw [← r1.length]; exact hl,fun s => ⟨_,S.2 f c c' X.A X.stack s H1 (hr.deeper _),us.map some ++ [some u],ρ1,aQ,RS.lam (aZ.hide hc _ _ r1) (Rl.hide hc _ _ (Rl.mono e1 _ _ r)),bU.hide hc ⟨_,mU⟩,?_⟩⟩
   unfold vW at h1
   revert h1
   cases hb:mb (us.map some ++ [some u]) aQ with
   | ok y cI =>
    intro h1 ρ2 H2 vy e2 qE ry hn
    exact h1 ρ2 (back H1 H2 c) vy (Step.back hc e2) (qE.grow (qQ hn)) (Rl.mono (Step.same (qQ hn)) _ _ ry)
   | err c cI => exact fun h => h.elim
   | bad => exact fun h => h.elim
  ·rw [if_neg hl] at h1; exact h1.elim
 split at h
 ·rename_i L' u hμ
  split at h
  ·rename_i e
   subst e
   exact key u hμ h
  ·exact h.elim
 ·exact h.elim
end
noncomputable def Hv (np n:Nat) (L:dS) (body:MB):Val → FN:=fun u us st => if us.length + 1 = np then (match body (some (.fn L u) :: us.map some ++ List.replicate (n - np) none) st with
 | .nx _ av => .ok .eR av
 | .rt v av => .ok v av
 | .er c _ av => .err c av
 | _ => .bad) else .bad
noncomputable def Tp (W:Wo) (L:dS) (F:Val → FN):Sp:=fun vs H Q E => ∃ f c c' cv u us xs ρ st,vs = .ref f :: xs ∧ yu L H f c c' cv ∧ Rl W.K ρ H u cv ∧ aZ W.K ρ H us xs ∧ SR W.K ρ st H ∧ wR W E (Rl W.K) ρ H Q (F u us st)
theorem RS.Hw {W:Wo} {ρ:List Addr} {H:Hp} {N:List Str} {us:List Val} {vs:List V} {L:dS} {u:Val} {f c c':Addr} {cv:V} (C:yu L H f c c' cv) (ru:Rl W.K ρ H u cv) (r:aZ W.K ρ H us vs) :
  RS W ρ H (some (.fn L u) :: us.map some ++ List.replicate (N.length - (us.length + 1)) none) (L2.start N (.ref f :: vs)):=by
 have hl:=r.length
 refine ⟨by simp [L2.start,hl],fun i w e => ?_⟩
 cases i with
 | zero =>
  cases e
  exact ⟨.ref f,rfl,f,c,c',cv,rfl,C,ru⟩
 | succ i =>
  rw [List.cons_append,List.getElem?_cons_succ] at e
  rcases Nat.lt_or_ge i us.length with q | q
  ·rw [List.getElem?_append_left (by rw [List.length_map]; exact q),List.getElem?_map] at e
   have e':us[i]? = some w:=by
    cases z:us[i]? with
    | none => rw [z] at e; cases e
    | some w => rw [z] at e; exact congrArg _ (Option.some.inj (Option.some.inj e))
   obtain ⟨v,h1,h2⟩:=r.get e'
   refine ⟨v,?_,ud.of h2⟩
   unfold L2.start
   rw [List.map_cons,List.cons_append,List.getElem?_cons_succ,List.getElem?_append_left (by rw [List.length_map,← hl]; exact q),List.getElem?_map,h1]
   rfl
  ·rw [List.getElem?_append_right (by rw [List.length_map]; exact q)] at e
   rw [List.getElem?_replicate] at e
   split at e
   ·cases e
   ·cases e
section
variable {P:Program} {w:World} {K:PySem.W.Frag} {mg:Str → Option Value} {base:Heap}
noncomputable def qR (P:Program) (w:World) (K:PySem.W.Frag) (mg:Str → Option Value) (base:Heap) (x:Str) (k:Nat) (L:dS) (f:Val → FN):Prop :=
 ∃ fa fd ps,jK P w K mg base (iY P w) k fa fd ps (Tp ⟨K,mg,[]⟩ L f) ∧ mg x = some (.ref fa) ∧ PySem.W.keepIn K (.ref fa) = true ∧ Binds K fd ps []
theorem Hx {x qual:Str} {st:Stmt} {f:Addr} {fd:FuncData} {N ps:List Str} {k:Nat} {L:dS} {body:MB} (F:i5 K x qual st f fd) (S:aR N ps (ao st))
  (h:∀ (da:Value) (A:Around) (outer:List PySem.Env) (s:Shared) (H:Hp) (E:XK),dR k (A.deeper (envOfC qual (ao st) s.heap.objs.size f da)) →
   ja (fR (iY P w) P w K mg base N qual (ao st) f da A outer s H E) (aM st) (tS (fR (iY P w) P w K mg base N qual (ao st) f da A outer s H E) E body)) :
  jK P w K mg base (iY P w) (k + 1) f fd ps (Tp ⟨K,mg,[]⟩ L (Hv ps.length N.length L body)):=by
 refine F.S8 S (fun vs H Q E q => ?_) (fun da A outer s H vs Q E hr q => ⟨_,h da A outer s H E hr,?_⟩)
 ·obtain ⟨f,c,c',cv,u,us,xs,ρ,st,rfl,C,ru,r,sr,q⟩:=q
  by_cases hl:us.length + 1 = ps.length
  ·rw [List.length_cons,← r.length]; exact hl
  ·unfold Hv at q; rw [if_neg hl] at q; exact q.elim
 ·obtain ⟨f,c,c',cv,u,us,xs,ρ,av,rfl,C,ru,r,sr,q⟩:=q
  unfold Hv at q
  by_cases hl:us.length + 1 = ps.length
  ·rw [if_pos hl,← hl] at q
   refine ⟨_,ρ,av,RS.Hw C ru r,sr,?_⟩
   revert q
   cases body (some (.fn L u) :: us.map some ++ List.replicate (N.length - (us.length + 1)) none) av with
   | nx μ cI => exact fun q ρ' H' σ' e s _ => q ρ' H' .eR e s Rl.xb
   | rt v cI => exact fun q => q
   | er c μ cI => exact fun q => q
   | bk μ cI => exact fun q => q.elim
   | ct μ cI => exact fun q => q.elim
   | bad => exact fun q => q.elim
  ·rw [if_neg hl] at q; exact q.elim
theorem qR.mk {x:Str} {st:Stmt} {f:Addr} {fd:FuncData} {N ps:List Str} {k:Nat} {L:dS} {body:MB} (F:i5 K x x st f fd) (hm:mg x = some (.ref f)) (S:aR N ps (ao st))
  (hb:∀ (kV doc pm:Value) (an:Option Addr) (da ct:Value) (us:List Value),us.length = ps.length → bindArgs (PySem.W.fnOf x x (aS st) (aM st) (ao st) .none kV doc pm an da ct) ⟨us,[]⟩ = pure (ps.zip us))
  (h:∀ (da:Value) (A:Around) (outer:List PySem.Env) (s:Shared) (H:Hp) (E:XK),dR k (A.deeper (envOfC x (ao st) s.heap.objs.size f da)) →
   ja (fR (iY P w) P w K mg base N x (ao st) f da A outer s H E) (aM st) (tS (fR (iY P w) P w K mg base N x (ao st) f da A outer s H E) E body)):qR P w K mg base x (k + 1) L (Hv ps.length N.length L body) :=
 ⟨f,fd,ps,Hx F S h,hm,F.kp,F.binds hb⟩
structure Hy (K:PySem.W.Frag) (mg:Str → Option Value) (base:Heap) (x:Str) (cd T:Addr):Prop where
 tab:PySem.W.tabIn K x = some (cd,T)
 hd:PySem.W.CodeHd base cd T
 blt:base.BuiltinsAt mg T
 gT:mainGlobals ≠ T
theorem FnAt.Va {x:Str} {st:Stmt} {f:Addr} {fd:FuncData} {N ps:List Str} {k:Nat} {body:MB} {cd T:Addr} (B:Hy K mg base x cd T) (F:i5 K x x st f fd) (hn:PySem.W.nsIn K mainGlobals x = some (some (.ref f))) (hm:mg x = some (.ref f)) (S:aR N ps (ao st))
  (hb:∀ (kV doc pm:Value) (an:Option Addr) (da ct:Value) (us:List Value),us.length = ps.length → bindArgs (PySem.W.fnOf x x (aS st) (aM st) (ao st) .none kV doc pm an da ct) ⟨us,[]⟩ = pure (ps.zip us))
  (h:∀ (A:Around) (outer:List PySem.Env) (s:Shared) (H:Hp) (E:XK),dR k (A.deeper (envOfC x (ao st) s.heap.objs.size f (.ref cd))) →
   ja (fR (iY P w) P w K mg base N x (ao st) f (.ref cd) A outer s H E) (aM st) (tS (fR (iY P w) P w K mg base N x (ao st) f (.ref cd) A outer s H E) E body)):FnAt P w K mg base x (k + 1) (jx ps.length N.length body):=by
 refine ⟨f,fd,ps,?_,hm,F.kp,F.binds hb⟩
 obtain ⟨oc,od,kV,doc,pm,an,da,ct,CW,e,lk,mU⟩:=F.ex
 have ec:da = .ref cd:=by
  have t:=B.tab
  unfold PySem.W.tabIn at t
  rw [hn] at t
  simp only [lk] at t
  rw [e] at t
  simp only [PySem.W.fnOf] at t
  split at t
  ·rename_i c hc
   split at t
   ·split at t
    ·cases t; rfl
    ·cases t
   ·cases t
  ·cases t
 subst ec
 have h':∀ (da:Value) (A:Around) (outer:List PySem.Env) (s:Shared) (H:Hp) (E:XK),da = .ref cd → dR k (A.deeper (envOfC x (ao st) s.heap.objs.size f da)) →
   ja (fR (iY P w) P w K mg base N x (ao st) f da A outer s H E) (aM st) (tS (fR (iY P w) P w K mg base N x (ao st) f da A outer s H E) E body):=fun da A outer s H E e => by subst e; exact h A outer s H E
 subst e
 refine EU lk mU S (fun vs H Q E q => ?_) fun A outer s H vs Q E hr q => ⟨_,h A outer s H E hr,?_⟩
 ·obtain ⟨us,ρ,st,r,sr,q⟩:=q
  by_cases hl:us.length = ps.length
  ·rw [← r.length]; exact hl
  ·unfold jx at q; rw [if_neg hl] at q; exact q.elim
 ·obtain ⟨us,ρ,av,r,sr,q⟩:=q
  unfold jx at q
  by_cases hl:us.length = ps.length
  ·rw [if_pos hl,← hl] at q
   refine ⟨_,ρ,av,RS.start r,sr,?_⟩
   revert q
   cases body (us.map some ++ List.replicate (N.length - us.length) none) av with
   | nx μ cI => exact fun q ρ' H' σ' e s _ => q ρ' H' .eR e s Rl.xb
   | rt v cI => exact fun q => q
   | er c μ cI => exact fun q => q
   | bk μ cI => exact fun q => q.elim
   | ct μ cI => exact fun q => q.elim
   | bad => exact fun q => q.elim
  ·rw [if_neg hl] at q; exact q.elim
end
noncomputable def Kr:Res Val → Res Val
 | .ok v st => .ok v st
 | _ => .bad
noncomputable def fh (st:ah) (x:Str) (l c:Nat) (q:Str):Prop:=∃ j:Nat,st[j]? = some (.tab x l c q)
structure dC where
 S:dS
 own:Str
 line:Nat
 col:Nat
open Classical in
noncomputable def lS (L:dC) (i:Nat) (F:Val → FN) (ms:MA):ME:=fun μ st => match μ[i]? with
 | some (some u) => if Ke u = false ∧ fh st L.own L.line L.col L.S.qual then (ms μ st).bind fun us aQ => Kr (F u us aQ) else .bad
 | _ => .bad
section
variable {X:Cx} {E:XK} {pos p lp:Pos} {e:Expr} {es:List Expr} {ms:MA} {x y:Str} {L:dC} {k j:Nat} {f:Val → FN} {c cd T:Addr}
theorem A3 (G:qR X.prog X.w X.K X.mg X.base x k L.S f) (B:Hy X.K X.mg X.base L.own cd T) (hr:dR j X.A) (Vb:k ≤ j) (hg:Gl X x) (i:Nat) (vB:X.fn y = true) (ha:PA X es (tL X E ms)) (Ks:X.env.code = .ref cd:=by rfl) (Vc:closureFor L.S.scope X.env = pure [(L.S.x,c)]:=by rfl) (hq:L.S.qual = X.env.qual ++ "<lambda>":=by rfl)
  (JJ:defaultsOf L.S.params X.env = ([],[]):=by rfl) (w4:lp.line = L.line:=by rfl) (wU:lp.col = L.col:=by rfl) (hN:X.N[i]? = some y:=by rfl) (hy:X.env.scope.names.lookup y = some .cell:=by rfl) (hc:X.env.cells.lookup y = some c:=by rfl) (jV:(x == ("__debug__":Str)) = false:=by decide)
  (he:starEach (.Lambda L.S.params L.S.body L.S.scope lp :: es) X.env = (false,eval (.Lambda L.S.params L.S.body L.S.scope lp) X.env) :: starEach es X.env:=by rfl) (hU:(backTo pos (starEach es X.env)).any (·.1) = false:=by rfl) :
  PE X (.Call (.Name x p) (.Lambda L.S.params L.S.body L.S.scope lp :: es) [] pos) (tE X E (lS L i f ms)):=by
 obtain ⟨fa,fd,ps,F,hm,kp,b⟩:=G
 have A:E_ X L.S lp cd T c:=⟨Ks,B.hd,Vc,hq,JJ,B.blt,B.gT⟩
 refine PE.imp (Ar F (hr.mono Vb) hg hm kp b hN hy hc vB (iA (G7 A) ha he) jV he hU) ?_
 rintro σ H Q ⟨μ,ρ,st,rs,sr,h⟩
 unfold lS at h
 split at h
 ·rename_i u hu
  split at h
  ·rename_i hh
   obtain ⟨hx,jt,hj⟩:=hh
   rw [← w4,← wU] at hj
   obtain ⟨T',J9,kT⟩:=sr.addr hj
   have eT:T' = T:=by
    obtain ⟨XI,h1⟩:=kT.1
    have:=h1.symm.trans B.tab
    cases this
    rfl
   subst eT
   refine ⟨kT.2,fun Vd c' H1 N => ?_⟩
   obtain ⟨bU,e1⟩:=sr.Hu hj J9 N
   refine go (R1:=aZ X.K) μ ρ st (rs.mono e1) bU (wR.mono h e1) fun us cI ρ2 H2 xs e2 qE r2 h2 => ?_
   obtain ⟨v,hv,rv⟩:=rs.at_ i u hu
   have Ve:Rl X.K ρ H u v:=rv.un (by rw [hx]; exact Bool.false_ne_true)
   refine ⟨v,hv,fun oc uv mU Vf hn => ?_⟩
   have s3:jW H2 (upd H2 c (.fQ oc (.own 0))):=d6 hn
   have e3:Step ρ2 H2 ρ2 (upd H2 c (.fQ oc (.own 0))):=Step.same s3
   have Ob:=e2.trans e3
   refine ⟨Vd,c,c',v,u,us,xs,ρ2,cI,rfl,⟨?_,?_,oc,uv,bw,mU,Vf⟩,Rl.mono (e1.trans Ob) _ _ Ve,aZ.mono e3 _ _ r2,qE.grow s3,?_⟩
   ·obtain ⟨pm,vO,hf⟩:=N.fn
    exact ⟨pm,vO,Ob.fQ _ _ _ hf⟩
   ·obtain ⟨o2,vs,t,h4,h5⟩:=N.cd
    exact ⟨o2,vs,t,Ob.fQ _ _ _ h4,h5⟩
   ·revert h2
    cases f u us cI with
    | ok y lH =>
     intro h2 ρ4 H4 vy e4 nr ry
     have Tq:Fz H4 c oc:=e4.fQ _ _ _ bw
     exact h2 ρ4 (hide H4 c) vy (Step.Oa hn e4) (nr.hide Tq ⟨_,mU⟩) (Rl.hide Tq _ _ ry)
    | err c lH => exact fun h => h.elim
    | bad => exact fun h => h.elim
  ·exact h.elim
 ·exact h.elim
end
end MN
namespace MN
open PySem PySem.Spec L2
open PyProof.Rows hiding St
noncomputable abbrev cP (mg:Str → Option Value) (base:Heap) (ts:List (Addr × Addr)):Prop:=∀ q ∈ ts,PySem.W.CodeHd base q.1 q.2 ∧ base.BuiltinsAt mg q.2 ∧ mainGlobals ≠ q.2
noncomputable def jO (a:Addr) (o:Option HO) (ts:List (Addr × Addr)):Hp:=fun b => if b ∈ ts.map (·.2) then some (.p5 #[]) else if b = a then o else none
theorem yE {P:Program} {w:World} {K:PySem.W.Frag} {mg mb:Str → Option Value} {k:Nat} {fa a:Addr} {fd:FuncData} {x:Str} {sp:Sp} {s₁:Shared} {vs:List Value} {ns:List Int} {ts:List (Addr × Addr)}
  (KX:K.In s₁.heap) (E7:s₁.heap.Ns mainGlobals mg) (hb:s₁.heap.Ns builtinsNs mb) (Vg:∀ x:Str,x ≠ "__name__" → mb x = bootBuiltins x) (Oc:s₁.heap.NoLimit) (hg:s₁.gens = #[])
  (Vh:∃ bm ob,mg "__builtins__" = some (.ref bm) ∧ bm ≠ builtinsNs ∧ s₁.heap.get? bm = some ob ∧ ob.cls = .type "module" ∧ ob.dict = some builtinsNs ∧ ob.data = .plain)
  (hT:PySem.W.TabsAt ts s₁.heap) (Vi:PySem.W.noTabs K = true)
  (ha:s₁.heap.get? a = some { cls:=.type "list",data:=.seq vs.toArray }) (hi:IntsAre vs ns) (hl:ns.length ≤ sizeLine) (hr:dR k callerA)
  (F:∀ base:Heap,K.In base → base.Ns mainGlobals mg → cP mg base ts → jK P w K mg base (iY P w) k fa fd [x] sp) (Kt:∀ (s:Shared) (u:Value),BindsTo s fd ⟨[u],[]⟩ [(x,u)])
  (IJ:∀ H:Hp,(∀ b xs,H b ≠ some (.lst xs)) → mV K H a (ns.map V.int) → (∀ q ∈ ts,H q.2 = some (.p5 #[])) → a ∉ ts.map (·.2) → sp [.ref a] H (fun v _ => v = .bl true) fun _ _ _ => False) :
  codeAny (model P w) callerA (.call (.ref fa) ⟨[.ref a],[]⟩) (fun r s' => r = .ok (.ret (.bool true)) ∧ OldK s₁.heap s'.heap ∧ s'.os = s₁.os ∧ AllBare s'.gens) s₁:=by
 have rv:=qw hi
 have Od:=hi.length
 have tabs:∀ b,b ∈ ts.map (·.2) → s₁.heap.get? b = some (PySem.W.tabObj #[]):=fun b hb => by
  obtain ⟨q,hq,rfl⟩:=List.mem_map.mp hb
  exact (hT q hq).2
 have aT:a ∉ ts.map (·.2):=fun z => by
  have:=tabs a z
  rw [ha] at this
  cases this
 have core:∀ o:Option HO,(∀ x,o = some x → ∃ ob xs,x = .fQ ob (.lst xs)) → mV K (jO a o ts) a (ns.map V.int) → gG P w (jO a o ts) s₁.heap → (o ≠ none → K.lookup a = none) →
   codeAny (model P w) callerA (.call (.ref fa) ⟨[.ref a],[]⟩) (fun r s' => r = .ok (.ret (.bool true)) ∧ OldK s₁.heap s'.heap ∧ s'.os = s₁.os ∧ AllBare s'.gens) s₁:=by
  intro o hO hS bK hK
  have Oe:∀ b,b ∈ ts.map (·.2) → jO a o ts b = some (.p5 #[]):=fun b hb => if_pos hb
  have Tr:jO a o ts a = o:=by unfold jO; rw [if_neg aT,if_pos rfl]
  have IX:∀ b,jO a o ts b = none ∨ (b = a ∧ jO a o ts b = o) ∨ (b ∈ ts.map (·.2) ∧ jO a o ts b = some (.p5 #[])):=fun b => by
   by_cases h1:b ∈ ts.map (·.2)
   ·exact .inr (.inr ⟨h1,Oe b h1⟩)
   ·by_cases h2:b = a
    ·subst h2; exact .inr (.inl ⟨rfl,Tr⟩)
    ·exact .inl (by unfold jO; rw [if_neg h1,if_neg h2])
  obtain ⟨H,eH⟩:∃ H,H = jO a o ts:=⟨_,rfl⟩
  rw [← eH] at hS bK Oe Tr IX
  have nY:∀ {b:Addr} {ob:Obj},s₁.heap.get? b = some ob → H b = none → (p6 s₁.heap H).get? b = some ob:=fun e n => zD e n
  have II:∀ {b:Addr} {ob:Obj},s₁.heap.get? b = some ob → ob.cls ≠ .type "list" → ob.cls ≠ .none → H b = none:=fun {b ob} e d d2 => by
   rcases IX b with h | ⟨h,_⟩ | ⟨h,_⟩
   ·exact h
   ·subst h; rw [ha] at e; cases e; exact absurd rfl d
   ·rw [tabs b h] at e; cases e; exact absurd rfl d2
  have Vj:∀ {b:Addr} {ob:Obj} {es:Array DictEntry} {ep:Nat},s₁.heap.get? b = some ob → ob.data = .dict es ep → H b = none:=fun {b ob es ep} e d => by
   rcases IX b with h | ⟨h,_⟩ | ⟨h,_⟩
   ·exact h
   ·subst h; rw [ha] at e; cases e; have d':Data.seq vs.toArray _ = Data.dict es ep:=d; cases d'
   ·rw [tabs b h] at e; cases e; cases d
  have Mk:∀ {b:Addr} {m:Str → Option Value},s₁.heap.Ns b m → (p6 s₁.heap H).Ns b m:=fun {b m} ⟨ob,es,ep,e,d,r⟩ => ⟨ob,es,ep,nY e (Vj e d),d,r⟩
  have Ts:K.In (p6 s₁.heap H):=fun b ob e => nY (KX b ob e) (by
   rcases IX b with h | ⟨h,h2⟩ | ⟨h,_⟩
   ·exact h
   ·subst h
    cases q:o with
    | none => rw [h2,q]
    | some u => rw [hK (by rw [q]; simp)] at e; cases e
   ·have h1:=KX b ob e
    rw [tabs b h] at h1
    cases h1
    have h2:=List.all_eq_true.mp Vi _ (PySem.W.mem_of_lookupK e)
    exact absurd (show false = true from h2) Bool.false_ne_true)
  have hM:Mod K mg (p6 s₁.heap H):=⟨Ts,Mk E7,⟨mb,Mk hb,Vg⟩,let ⟨mc,h1,h2⟩:=Oc; ⟨mc,Mk h1,h2⟩⟩
  have e0:vH P w K mg (p6 s₁.heap H) callerA [] s₁ H:=⟨rfl,hM,fun b o e => CC e,Nat.le_of_eq (xY _ _),trivial,fun b hb => absurd (show b ∈ ([]:List Addr) from hb) (by simp),bK,.of_eq hg⟩
  have Vk:cP mg (p6 s₁.heap H) ts:=by
   intro q hq
   obtain ⟨h1,h2⟩:=hT q hq
   refine ⟨?_,?_,?_⟩
   ·obtain ⟨oc,ws,file,tf,flags,tg,Vl,text,tt,e1,r1,r⟩:=h1
    exact ⟨oc,ws,file,tf,flags,tg,Vl,text,tt,nY e1 (II e1 (by rw [r1]; decide) (by rw [r1]; intro z; cases z)),r1,r⟩
   ·obtain ⟨bm,ob,b1,b2,b3,b4,b5,b6⟩:=Vh
    refine ⟨bm,ob,b1,b2,fun z => ?_,fun z => ?_,nY b3 (II b3 (by rw [b4]; decide) (by rw [b4]; intro z; cases z)),b4,b5,b6⟩
    ·obtain ⟨o',es,ep,e,hd,_⟩:=E7
     rw [z,e] at b3
     cases b3
     rw [hd] at b6; cases b6
    ·rw [z,h2] at b3
     cases b3
     cases b4
   ·intro z
    obtain ⟨o',es,ep,e,hd,_⟩:=E7
    rw [z,h2] at e
    cases e
    cases hd
  refine codeAny_mono ((F _ Ts (Mk E7) Vk).run callerA [] s₁ H ⟨[.ref a],[]⟩ [.ref a] [.ref a] _ _ hr e0 (Kt s₁ (.ref a)) (.cons rfl .nil) (IJ H (fun b xs z => ?_) hS (fun q hq => Oe _ (List.mem_map_of_mem hq)) aT)) fun r s' h => ?_
  ·rcases IX b with h | ⟨_,h2⟩ | ⟨_,h2⟩
   ·rw [h] at z; cases z
   ·rw [h2] at z
    obtain ⟨_,_,e⟩:=hO _ z
    cases e
   ·rw [h2] at z; cases z
  cases r with
  | error e => obtain ⟨_,_,_,_,_,z⟩:=h; exact z.elim
  | ok fl =>
   cases fl with
   | next => exact False.elim h
   | brk => exact False.elim h
   | cont => exact False.elim h
   | ret u =>
    obtain ⟨v,H',os,bare,un,Ku,r',q⟩:=h
    have q':v = .bl true:=q
    subst q'
    obtain rfl:u = Value.bool true:=r'
    have there:∀ b ob,s₁.heap.get? b = some ob → (s'.heap.get? b = some ob) ∨ (isCodeTable s₁.heap b ∧ ob = PySem.W.tabObj #[] ∧ ∃ ps,s'.heap.get? b = some (PySem.W.tabObj ps)):=fun b ob e => by
     rcases IX b with h | ⟨h,h2⟩ | ⟨h,h2⟩
     ·exact .inl (un.keep b ob e h (by intro z; exact absurd (show b ∈ ([]:List Addr) from z) (by simp)) (by simp))
     ·cases q:o with
      | none => rw [q] at h2; exact .inl (un.keep b ob e h2 (by intro z; exact absurd (show b ∈ ([]:List Addr) from z) (by simp)) (by simp))
      | some u =>
       obtain ⟨o2,xs,eu⟩:=hO u q
       rw [q,eu] at h2
       have z2:=un.ix b o2 _ h2
       obtain ⟨e1,_⟩:=bK b _ h2
       obtain ⟨e2,_⟩:=Ku b _ z2
       rw [e] at e1; cases e1
       exact .inl e2
     ·obtain ⟨m,hm⟩:=un.i9 b _ h2
      obtain ⟨q,hq,rfl⟩:=List.mem_map.mp h
      have e1:=tabs _ h
      rw [e] at e1
      exact .inr ⟨((hT q hq).1.tab (hT q hq).2).isCodeTable,Option.some.inj e1,_,Ku _ _ hm⟩
    refine ⟨rfl,⟨fun b ob e => ?_,fun b ob e => ?_⟩,os,bare⟩
    ·rcases there b ob e with h | ⟨ht,rfl,ps,hP⟩
     ·exact .inl h
     ·exact .inr (.inl ⟨ht,rfl,#[],ps,rfl,by rw [Array.empty_append]; exact hP⟩)
    ·rcases there b ob e with h | ⟨ht,rfl,ps,hP⟩
     ·exact ⟨_,h⟩
     ·exact ⟨_,hP⟩
 have Kv:∀ (o:Option HO) b,b ∈ ts.map (·.2) → ∀ u,jO a o ts b = some u → bW P w (jO a o ts) s₁.heap b u:=fun o b hb u z => by
  rw [show jO a o ts b = some (.p5 #[]) from if_pos hb] at z
  cases z
  exact tabs b hb
 cases hk:K.lookup a with
 | some o =>
  have e:=KX a o hk
  rw [ha] at e
  cases e
  refine core none (fun _ z => by cases z) (.inr ⟨_,vs.toArray,_,hk,rfl,rfl,rfl,by rw [List.size_toArray,Od]; exact hl,by simpa using rv⟩) (fun b u z => ?_) fun z => absurd rfl z
  by_cases hb:b ∈ ts.map (·.2)
  ·exact Kv _ b hb u z
  ·unfold jO at z; rw [if_neg hb] at z; split at z <;> cases z
 | none =>
  refine core (some (.fQ { cls:=.type "list",data:=.seq vs.toArray } (.lst (ns.map V.int)))) (fun x z => by cases z; exact ⟨_,_,rfl⟩) (.inl (.inr ⟨{ cls:=.type "list",data:=.seq vs.toArray },?_⟩)) (fun b u z => ?_) fun _ => hk
  ·unfold jO; rw [if_neg aT,if_pos rfl]
  ·by_cases hb:b ∈ ts.map (·.2)
   ·exact Kv _ b hb u z
   ·have z0:=z
    unfold jO at z
    rw [if_neg hb] at z
    split at z
    ·rename_i Vm
     cases z
     subst Vm
     exact ⟨ha,by rw [List.length_map]; exact hl,vs,_,rv,ha⟩
    ·cases z
inductive nu (q:Program) (K:PySem.W.Frag):List Cell → List (Addr × Addr) → Prop
 | nil:nu q K [] []
 | cons {x qn:Str} {l c:Nat} {cs:List Cell} {cd T:Addr} {ts:List (Addr × Addr)} {d:DefRec} (hd:(recsOf q).find? (fun e => e.name == x) = some d) (ht:PySem.W.tabIn K x = some (cd,T)) (r:nu q K cs ts):nu q K (.tab x l c qn :: cs) ((cd,T) :: ts)
theorem nu.at_ {q:Program} {K:PySem.W.Frag} {loose:List Str} {Of:ExcName → Option Value} {mg mb:Str → Option Value} {h:Heap} (T:Top q loose Of mg mb h) (X:K.In h):∀ {cs:List Cell} {ts:List (Addr × Addr)},nu q K cs ts → PySem.W.TabsAt ts h
 | _,_,.nil => fun _ z => nomatch z
 | _,_,.cons hd ht r => List.forall_mem_cons.mpr ⟨PySem.W.tab_of T X hd ht,r.at_ T X⟩
theorem nu.len {q:Program} {K:PySem.W.Frag}:∀ {cs:List Cell} {ts:List (Addr × Addr)},nu q K cs ts → ts.length = cs.length
 | _,_,.nil => rfl
 | _,_,.cons _ _ r => by rw [List.length_cons,List.length_cons,r.len]
theorem nu.cell {q:Program} {K:PySem.W.Frag} {ρ:List Addr} {H:Hp}:∀ {cs:List Cell} {ts:List (Addr × Addr)},nu q K cs ts → (∀ p ∈ ts,H p.2 = some (.p5 #[])) → ∀ (n:Nat) (c:Cell) (a:Addr),cs[n]? = some c → (ts.map (·.2))[n]? = some a → eV K ρ H c a
 | _,_,.nil,_,n,c,a,h,_ => by simp at h
 | _,_,.cons (cd:=cd) hd ht r,k,0,c,a,h1,h2 => by
  cases h1
  cases h2
  exact ⟨⟨cd,ht⟩,.inl (k _ (.head _))⟩
 | _,_,.cons hd ht r,k,n + 1,c,a,h1,h2 => r.cell (fun p hp => k p (.tail _ hp)) n c a h1 h2
theorem DM {q:Program} {K:PySem.W.Frag} {H:Hp} {a:Addr} {c:Cell} {cs:List Cell} {ts:List (Addr × Addr)} (L:nu q K cs ts) (nd:(ts.map (·.2)).Nodup) (na:a ∉ ts.map (·.2)) (hH:∀ p ∈ ts,H p.2 = some (.p5 #[])) (k:eV K (a :: ts.map (·.2)) H c a):SR K (a :: ts.map (·.2)) (c :: cs) H:=by
 refine ⟨by rw [List.length_cons,List.length_cons,List.length_map,L.len],fun n m b h1 h2 _ _ => ?_,fun n d b h1 h2 => ?_⟩
 ·have N:(a :: ts.map (·.2)).Nodup:=List.nodup_cons.mpr ⟨na,nd⟩
  have l1:=ff h1
  have l2:=ff h2
  rw [List.getElem?_eq_getElem l1] at h1
  rw [List.getElem?_eq_getElem l2] at h2
  have e:=Option.some.inj (h1.trans h2.symm)
  rcases Nat.lt_trichotomy n m with z | z | z
  ·exact absurd e (List.pairwise_iff_getElem.mp N n m l1 l2 z)
  ·exact z
  ·exact absurd e.symm (List.pairwise_iff_getElem.mp N m n l2 l1 z)
 ·cases n with
  | zero => cases h1; cases h2; exact k
  | succ n => exact L.cell hH n d b h1 h2
theorem yF {l:PySem.W.OpenLaw} {q:Program} {loose:List Str} {XP:(Str → Option Value) → Heap → Prop} {YP:World → Heap → Prop} {d:DefRec} {K:Params → PySem.W.Frag} {x:Str} {k:Nat} {cs:List Cell} {f:FN} (hn:l.most = some 63) (JJ:d.params.defaults = []) (hr:dR k callerA)
  (hf:∀ (c:Cell) (ns:List Int),ns.length ≤ 63 → itemsOf (c :: cs) 0 = some (ns.map Val.int) → ∃ av,f [.loc 0] (c :: cs) = .ok (.bl true) av)
  (hY:∀ (w:World) (h:Heap),YP w h → (K w.params).In h)
  (F:∀ (w:World) (mg:Str → Option Value) (fa:Addr) (h:Heap),(K w.params).In h → h.Ns mainGlobals mg → mg d.name = some (.ref fa) →
   ∃ (fd:FuncData) (ts:List (Addr × Addr)),nu q (K w.params) cs ts ∧ (ts.map (·.2)).Nodup ∧ PySem.W.noTabs (K w.params) = true ∧ (∀ (s:Shared) (u:Value),BindsTo s fd ⟨[u],[]⟩ [(x,u)]) ∧
    ∀ base:Heap,(K w.params).In base → base.Ns mainGlobals mg → cP mg base ts → jK l.prog w (K w.params) mg base (iY l.prog w) k fa fd [x] (Fe ⟨K w.params,mg,[]⟩ f)) :
  PySem.W.WalkO q loose XP YP l.row.toRowW d [] (fun f vs => PySem.call f vs):=by
 refine SX.tP hn JJ fun w s₀ s₁ mg mb fa o pm cd doc a vs ns G Y ho hd mU JK GI hints hlen hg => ?_
 have KX:=hY w _ Y
 obtain ⟨fd,ts,L,nd,nt,hb,hF⟩:=F w mg fa _ KX G.T.g JK
 refine yE KX G.T.g G.T.b G.T.builtins G.T.nolimit hg G.T.bmain (L.at_ G.T KX) nt GI hints (Nat.le_trans hlen (by decide)) hr hF hb fun H hO hS hH na => ?_
 have fin:∀ c:Cell,eV (K w.params) (a :: ts.map (·.2)) H c a → itemsOf (c :: cs) 0 = some (ns.map Val.int) → Fe ⟨K w.params,mg,[]⟩ f [.ref a] H (fun v _ => v = .bl true) fun _ _ _ => False:=by
  intro c k hi
  obtain ⟨av,e⟩:=hf c ns hlen hi
  refine ⟨[.loc 0],a :: ts.map (·.2),c :: cs,aZ.one (Rl.Av rfl),DM L nd na hH k,?_⟩
  rw [e]
  intro ρ' H' v _ _ r
  exact r.tw
 rcases hS with (h | ⟨o,h⟩) | h
 ·exact absurd h (hO a _)
 ·exact fin (.Fc (ns.map .int)) ⟨o,_,h,aZ.ints ns⟩ rfl
 ·exact fin (.mod (ns.map .int)) ⟨_,h,aZ.ints ns⟩ rfl
end MN
namespace L2
open PySem PySem.Spec PyProof.Rows
section
variable {X:Cx}
noncomputable def Kw:V → List V → Hp → VK → Prop:=fun x vs H Q => ∃ i,x = .int i ∧ vs = [] ∧ Q (.int ((Builtin.Int.intBits i:Nat):Int)) H
theorem DN:EV X "int.bit_length" Kw:=by
 intro pins s σ H x vs v us Q I rx rv h
 obtain ⟨i,rfl,rfl,q⟩:=h
 obtain ⟨t,rfl⟩:=rx
 have Vn:=rv.zero
 subst Vn
 exact call_gives F.slot_int_bit_length (typeIs_int s i t) F.entry_int_bit_length (F.args_int_bit_length_1 _) (AutoIntG2.int_bit_length_int_0 i t) ⟨.int ((Builtin.Int.intBits i:Nat):Int),H,I.tok _,⟨_,rfl⟩,q⟩
end
end L2
namespace MN
open PySem PySem.Spec L2
open PyProof.Rows hiding St
noncomputable def A4:F2:=qb fun i j st => if 0 ≤ j then .ok (.int (i / 2 ^ j.toNat)) st else .bad
noncomputable def DO:F2:=qb fun i j st => .ok (.int (Builtin.bitAnd i j)) st
noncomputable def Kx:Val → ah → Res Val
 | .int i,st => .ok (.int ((Builtin.Int.intBits i:Nat):Int)) st
 | _,_ => .bad
noncomputable def uB (m:ME):ME:=fun μ st => (m μ st).bind Kx
section
variable {X:Cx} {E:XK} {o:Expr} {mo:ME} {apos cC:Pos}
theorem DP:eQ X (binaryOp .RShift) (rM (wo X) E A4):=by
 refine eQ.imp Gj ?_
 rintro x y H Q ⟨ρ,st,u,w,sr,r1,r2,h⟩
 obtain ⟨i,j,rfl,rfl,h0⟩:=gL h
 by_cases hj:0 ≤ j
 ·rw [if_pos hj] at h0
  exact ⟨i,j,r1.cn,r2.cn,hj,dw sr h0⟩
 ·rw [if_neg hj] at h0; exact h0.elim
theorem DQ:eQ X (binaryOp .BitAnd) (rM (wo X) E DO):=by
 refine eQ.imp Gk ?_
 rintro x y H Q ⟨ρ,st,u,w,sr,r1,r2,h⟩
 obtain ⟨i,j,rfl,rfl,q⟩:=gL h
 exact ⟨i,j,r1.cn,r2.cn,dw sr q⟩
theorem DR (ho:PE X o (tE X E mo)) (ko:attributeBase o "bit_length" X.env (eval o X.env) = eval o X.env:=by rfl) (kq:(apos.endLine == cC.line) = true:=by rfl) :
  PE X (.Call (.Attribute o "bit_length" apos) [] [] cC) (tE X E (uB mo)):=by
 refine PE.imp (GB PySem.F.plainAttrs_int PySem.F.slot_int_bit_length PySem.F.type_int_bit_length DN ho ko kq) ?_
 rintro σ H Q ⟨μ,ρ,st,rs,sr,h⟩
 refine go μ ρ st rs sr h fun u aQ ρ1 H1 x e1 bU r1 h1 => ?_
 cases u with
 | int i => rw [r1.cn]; exact ⟨rfl,i,rfl,rfl,dw bU h1⟩
 | _ => exact h1.elim
end
end MN
namespace MN
open PySem PySem.Spec L2
open PyProof.Rows hiding St
noncomputable def Fl:List Stmt → Option Expr
 | [] => none
 | [.Return (some (.Call _ (e :: _) _ _)) _] => some e
 | _ :: r => Fl r
noncomputable def Ky (e:Option Expr) (qual:Str) (ps:List Str) (x:Str):dS:=match e with
 | some (.Lambda params body scope _) => ⟨qual,params,body,scope,ps,x⟩
 | _ => ⟨qual,{ posonlyargs:=[],args:=[],vararg:=none,kwonlyargs:=[],kw_defaults:=[],kwarg:=none,defaults:=[] },.Constant .none 0 ⟨0,0,0,0⟩,{ kind:=.function,names:=[],isGenerator:=false,isCoroutine:=false },ps,x⟩
theorem dS.Vo {L:dS} (h1:L.scope.kind = .function) (h2:L.scope.isCoroutine = false) (h3:L.scope.isGenerator = false) (h4:(L.scope.names.all fun p => !(p.2 == .cell)) = true) (h5:(L.ps.all fun p => L.scope.names.lookup p == some .local) = true)
  (h6:L.scope.names.lookup L.x = some .free) (h7:(L.scope.names.all fun p => !(p.2 == .free) || p.1 == L.x) = true) (h8:(L.ps ++ [L.x]).Nodup)
  (h9:∀ (pm cd ct:Value) (cl:List (Str × Addr)) (us:List Value),us.length = L.ps.length → bindArgs (PySem.W.kla_fn "<lambda>" L.qual L.params L.body L.scope cl pm cd ct) ⟨us,[]⟩ = pure (L.ps.zip us)):L.Ok where
 kind:=h1
 co:=h2
 gen:=h3
 gr:=fun y hy h => by
  have z:=List.all_eq_true.mp h4 y hy
  simp [h] at z
 par:=fun p hp => by
  have z:=List.all_eq_true.mp h5 p hp
  simpa using z
 fr:=h6
 free:=fun y h => by
  have z:=List.all_eq_true.mp h7 _ (PySem.mem_of_lookup h)
  simpa using z
 nd:=h8
 bind:=h9
theorem Hz {K:PySem.W.Frag} {x:Str} {f cd T:Addr} {oc o2:Value} {od d2:Option Addr} {sl s2:Array (Option Value)} {fd:FuncData} {vs:Array Value} (a:PySem.W.nsIn K mainGlobals x = some (some (.ref f))) (l:K.lookup f = some ⟨oc,od,.func fd,sl⟩) (hc:fd.code = .ref cd)
  (lc:K.lookup cd = some ⟨o2,d2,.fields vs,s2⟩) (hv:(vs[11]?:Option Value) = some (.ref T)):PySem.W.tabIn K x = some (cd,T):=by
 unfold PySem.W.tabIn
 simp only [a,l,hc,lc,hv]
end MN
namespace PM
open PySem PySem.Spec L2 MN
open PyProof.Rows hiding St
noncomputable def fi:Val:=.mt ([2,3,5,7,11,13,17,19,23,29,31].map Val.int)
noncomputable def dD:FN:=jx 1 1 (bO (ug (vS "int" (aa 0)) (Aw (vS "bool" (aa 0)))))
noncomputable def bL:FN:=jx 1 1 (aF (gI (b_ (ai (Hf false) (aa 0) (mC PM.fi))) (bO (mC (.bl true))) bG) (aF (gI (iZ (b_ (ai ltV (aa 0) (mC (.int 2)))) (b_ (ai IS (aa 0) (mC (.int 997))))) (bO (mC (.bl false))) bG) (bO (aq AG (ae (cO 1 [0] (fe (mC PM.fi)) (aName 0) cj (ai m5 (ai bx (aa 1) (aa 0)) (mC (.int 0)))) ak)))))
noncomputable def bC:FN:=jx 2 2 (bO (N6 (b_ (ai hZ (aa 0) (mC (.int 0)))) (aa 1) (ai bx (aa 1) (aa 0))))
noncomputable def aL:FN:=jx 2 6 (aF (aK 2 (mC (.int 0))) (aF (gI (b_ (ai ltV (aa 1) (aq d8 (ae (aa 0) ak)))) (aK 2 (ai de (aa 0) (aa 1))) bG) (aF (aK 3 (ai bx (ai cg (ai cg (ai cg (ai cU (aa 2) (mC (.int 48271))) (ai cU (ai cU (mC (.int 7919)) (aa 1)) (aa 1))) (ai cU (mC (.int 104729)) (aa 1))) (mC (.int 11))) (mC (.int 2147483647)))) (aF (aK 4 (mC (.int 0))) (aF (d9 (bJ (ae (mC (.int 6)) ak)) (aName 5) (aF (aK 3 (ai bx (ai cg (ai cU (ai bx (ai cU (aa 3) (aa 3)) (mC (.int 2147483629))) (mC (.int 69621))) (aa 5)) (mC (.int 2147483647)))) (aK 4 (ai cg (ai cU (aa 4) (mC (.int 2147483647))) (aa 3))))) (bO (aa 4)))))))
noncomputable def jA:FN:=jx 1 1 (bO (ug (aq PM.dD (ae (aa 0) ak)) (N5 (ai hZ (aa 0) (mC (.int 0))) (aq PM.bL (ae (aa 0) ak)))))
noncomputable def bR:FN:=jx 1 1 (gI (dB (b_ (aq PM.jA (ae (aa 0) ak)))) (lK "NoRing" (ae (mC (.str "a ring is 0 or a prime from 2 to 997")) ak)) bG)
noncomputable def e9:FN:=jx 1 1 (bO (ug (vS "int" (aa 0)) (Aw (vS "bool" (aa 0)))))
noncomputable def gk:FN:=jx 1 2 (aF (gI (b_ (ai hZ (ai bx (aa 0) (mC (.int 2))) (mC (.int 0)))) (bO (ai de (fK (ae (mC (.int 2)) (ae (mC (.int 3)) (ae (mC (.int 5)) (ae (mC (.int 7)) (ae (mC (.int 11)) (ae (mC (.int 13)) ak))))))) (ai bx (ai bh (aa 0) (mC (.int 2))) (mC (.int 6))))) bG) (aF (aK 1 (ai cg (mC (.int 2)) (ai bx (ai bh (aa 0) (mC (.int 2))) (mC (.int 996))))) (aF (lO (b_ (ai m5 (cO 1 [1] (gM (ae (mC (.int 2)) (ae (mC (.int 32)) ak))) (aName 0) (gK (b_ (ai ltV (aa 0) (aa 1))) (b_ (ai hZ (ai bx (aa 1) (aa 0)) (mC (.int 0))))) (aa 0)) (fK ak))) (aK 1 (ai cg (aa 1) (mC (.int 1))))) (bO (aa 1)))))
noncomputable def bS:FN:=jx 1 1 (aF (gI (b_ (ai hZ (ai bx (aa 0) (mC (.int 7))) (mC (.int 0)))) (bO (ai cU (ai qc (mC (.int 1)) (ai cU (ai bx (ai bh (aa 0) (mC (.int 7))) (mC (.int 2))) (mC (.int 2)))) (ai bx (ai bh (aa 0) (mC (.int 14))) (ai Hb (mC (.int 10)) (mC (.int 40)))))) bG) (bO (ai qc (ai bx (ai bh (aa 0) (mC (.int 7))) (mC (.int 19))) (mC (.int 9)))))
noncomputable def gu:FN:=jx 1 1 (aF (gI (b_ (ai hZ (ai bx (aa 0) (mC (.int 3))) (mC (.int 0)))) (bO (mC (.int 0))) bG) (bO (aq PM.gk (ae (ai bh (aa 0) (mC (.int 3))) ak))))
end PM
namespace PM
open PySem PySem.Spec L2 MN
open PyProof.Rows hiding St
end PM
namespace PM
open PySem PySem.Spec L2 MN
open PyProof.Rows hiding St
end PM
namespace MN
open PySem PySem.Spec L2
open PyProof.Rows hiding St
theorem cQ {g:ah → Prop} {a:AS} {body:MB} (P:Nat → Env → ah → Prop):∀ (us:List Val) (k:Nat) (μ:Env) (st:ah),
  (∀ (i:Nat) (u:Val) (μ:Env) (st:ah),us[i]? = some u → P (k + i) μ st → g st ∧ ∃ μ1,a u μ = some μ1 ∧ ∃ μ' av,(body μ1 st = .nx μ' av ∨ body μ1 st = .ct μ' av) ∧ P (k + i + 1) μ' av) →
  (∀ μ st,P (k + us.length) μ st → g st) → P k μ st → ∃ μ' av,forL g a body us μ st = .nx μ' av ∧ P (k + us.length) μ' av
 | [],k,μ,st,_,he,h => by
  refine ⟨μ,st,?_,h⟩
  unfold forL
  rw [if_pos (he μ st h)]
 | u :: us,k,μ,st,hs,he,h => by
  obtain ⟨hg,μ1,ha,μ',av,hb,hP⟩:=hs 0 u μ st rfl h
  have ih:=cQ (a:=a) (body:=body) P us (k + 1) μ' av (fun i v μ2 cI hv hp => by
   have:=hs (i + 1) v μ2 cI hv (by rw [show k + (i + 1) = k + 1 + i by lia]; exact hp)
   rw [show k + (i + 1) + 1 = k + 1 + i + 1 by lia] at this
   exact this) (fun μ2 cI hp => he μ2 cI (by rw [List.length_cons,show k + (us.length + 1) = k + 1 + us.length by lia]; exact hp)) hP
  obtain ⟨μ2,cI,e2,p2⟩:=ih
  refine ⟨μ2,cI,?_,by rw [List.length_cons,show k + (us.length + 1) = k + 1 + us.length by lia]; exact p2⟩
  unfold forL
  rw [if_pos hg,ha]
  rcases hb with hb | hb <;> (dsimp only; rw [hb]; exact e2)
theorem cW {g:ah → Prop} {a:AS} {c:MT} {e:ME} {st:ah} (hg:g st) (I:Env → Prop) (p:Val → Bool) (f:Val → Val):∀ (us:List Val) (τ:Env) (ys:List Val),I τ →
  (∀ u ∈ us,∀ τ,I τ → ∃ τ1,a u τ = some τ1 ∧ I τ1 ∧ c τ1 st = .ok (p u) st ∧ (p u = true → e τ1 st = .ok (f u) st)) → e8 g a c e us τ st ys = .ok (ys ++ (us.filter p).map f) st
 | [],τ,ys,_,_ => by
  unfold e8
  rw [if_pos hg]; simp
 | u :: us,τ,ys,hI,hs => by
  obtain ⟨τ1,h1,h2,h3,h4⟩:=hs u List.mem_cons_self τ hI
  have Tt:=fun v hv => hs v (List.mem_cons_of_mem u hv)
  unfold e8
  rw [if_pos hg,h1]
  dsimp only
  rw [h3]
  cases z:p u with
  | true =>
   dsimp only
   rw [h4 z]
   dsimp only
   rw [cW hg I p f us τ1 _ h2 Tt,List.filter_cons_of_pos z]
   simp
  | false =>
   dsimp only
   rw [cW hg I p f us τ1 _ h2 Tt,List.filter_cons_of_neg (by rw [z]; simp)]
theorem bM (st:ah) (us:List Val):itemsOf (st ++ [.lst us]) st.length = some us:=by
 unfold itemsOf
 rw [List.getElem?_append_right (Nat.le_refl _),Nat.sub_self]; rfl
theorem aO {st:ah} {n:Nat} {us:List Val} (h:itemsOf st n = some us) (more:ah):itemsOf (st ++ more) n = some us:=by
 have hn:n < st.length:=by
  rcases Nat.lt_or_ge n st.length with q | q
  ·exact q
  ·unfold itemsOf at h; rw [List.getElem?_eq_none q] at h; cases h
 unfold itemsOf at h ⊢
 rw [List.getElem?_append_left hn]; exact h
theorem oX {t:MT} {body:MB} (P:Env → ah → Prop) (M:Env → ah → Nat) (Q:Env → ah → Prop)
  (hs:∀ μ st,P μ st → (∃ aQ,t μ st = .ok false aQ ∧ Q μ aQ) ∨ ∃ aQ μ' av,t μ st = .ok true aQ ∧ (body μ aQ = .nx μ' av ∨ body μ aQ = .ct μ' av) ∧ P μ' av ∧ M μ' av < M μ st) :
  ∀ (n:Nat) (μ:Env) (st:ah),M μ st < n → P μ st → ∃ μ' av,fB t body n μ st = some (.nx μ' av) ∧ Q μ' av
 | 0,μ,st,h,_ => absurd h (Nat.not_lt_zero _)
 | n + 1,μ,st,h,hp => by
  unfold fB
  rcases hs μ st hp with ⟨aQ,e,q⟩ | ⟨aQ,μ',av,e,hb,p',lt⟩
  ·rw [e]; exact ⟨μ,aQ,rfl,q⟩
  ·rw [e]
   dsimp only
   obtain ⟨μ2,cI,e2,q2⟩:=oX P M Q hs n μ' av (by lia) p'
   rcases hb with hb | hb <;> (rw [hb]; exact ⟨μ2,cI,e2,q2⟩)
theorem v7 {t:MT} {body:MB} (P:Env → ah → Prop) (M:Env → ah → Nat) (Q:Env → ah → Prop)
  (hs:∀ μ st,P μ st → (∃ aQ,t μ st = .ok false aQ ∧ Q μ aQ) ∨ ∃ aQ μ' av,t μ st = .ok true aQ ∧ (body μ aQ = .nx μ' av ∨ body μ aQ = .ct μ' av) ∧ P μ' av ∧ M μ' av < M μ st)
  (μ:Env) (st:ah) (hp:P μ st):∃ μ' av,lO t body μ st = .nx μ' av ∧ Q μ' av:=by
 obtain ⟨μ',av,e,q⟩:=oX P M Q hs (M μ st + 1) μ st (Nat.lt_succ_self _) hp
 exact ⟨μ',av,yB e,q⟩
end MN
namespace MN
open PySem PySem.Spec L2
open PyProof.Rows hiding St
noncomputable def Res.i7 {α β:Type} (r:Res α) (k:α → ah → Res β):Res β:=match r with
 | .ok a st => k a st
 | .err c st => .err c st
 | .bad => .bad
noncomputable def Res.Cz {α:Type} (r:Res α) (μ:Env) (k:α → ah → bB):bB:=match r with
 | .ok a st => k a st
 | .err c st => .er c μ st
 | .bad => .bad
noncomputable def bB.c_ (r:bB) (k:MB):bB:=match r with
 | .nx μ st => k μ st
 | .rt v st => .rt v st
 | .bk μ st => .bk μ st
 | .ct μ st => .ct μ st
 | .er c μ st => .er c μ st
 | .bad => .bad
noncomputable def bB.fin (r:bB):Res Val:=match r with
 | .nx _ av => .ok .eR av
 | .rt v av => .ok v av
 | .er c _ av => .err c av
 | _ => .bad
section
variable {α β:Type} {μ:Env} {st:ah}
theorem aw {a:α} {k:α → ah → Res β}:(Res.ok a st).i7 k = k a st:=rfl
theorem aG {a:α} {k:α → ah → bB}:(Res.ok a st).Cz μ k = k a st:=rfl
theorem xq {c:Str} {k:α → ah → bB}:(Res.err c st:Res α).Cz μ k = .er c μ st:=rfl
theorem aB {k:MB}:(bB.nx μ st).c_ k = k μ st:=rfl
theorem iH {v:Val} {k:MB}:(bB.rt v st).c_ k = .rt v st:=rfl
theorem HA:(bB.nx μ st).fin = .ok .eR st:=rfl
theorem df {v:Val}:(bB.rt v st).fin = .ok v st:=rfl
theorem ig {r:Res α} {k:α → ah → Res β}:r.bind k = r.i7 k:=by cases r <;> rfl
variable {a b c:ME} {f g:F2} {t u:MT} {s1 s2:MB} {ms:MA} {i:Nat} {v:Val}
theorem dh {r:Res α} {k k':α → ah → Res β} (h:∀ a st,k a st = k' a st):r.bind k = r.i7 k':=by cases r <;> first | exact h _ _ | rfl
theorem lU {r:Res α} {k k':α → ah → bB} (h:∀ a st,k a st = k' a st):r.sb μ k = r.Cz μ k':=by cases r <;> first | exact h _ _ | rfl
noncomputable def A5 (f:F2) (x:Val):Val → ah → Res Val:=fun y st => f x y st
noncomputable def Kz (f:F2) (b:ME) (μ:Env):Val → ah → Res Val:=fun x st => (b μ st).i7 (A5 f x)
theorem cy:ai f a b μ st = (a μ st).i7 (Kz f b μ):=dh fun _ _ => dh fun _ _ => rfl
theorem dN {x:Val}:Kz f b μ x st = (b μ st).i7 (A5 f x):=rfl
theorem cz {x y:Val}:A5 f x y st = f x y st:=rfl
theorem gv:mC v μ st = .ok v st:=rfl
noncomputable def Tu:Val → ah → Res Bool
 | .bl b,st => .ok b st
 | _,_ => .bad
theorem cK {b:Bool}:Tu (.bl b) st = .ok b st:=rfl
theorem cE:b_ a μ st = (a μ st).i7 Tu:=dh fun x _ => by cases x <;> rfl
noncomputable def KA (b:ME) (μ:Env):Val → ah → Res Val
 | .bl true,st => b μ st
 | .bl false,st => .ok (.bl false) st
 | _,_ => .bad
theorem v8:ug a b μ st = (a μ st).i7 (KA b μ):=dh fun x _ => by
 cases x <;> try rfl
 rename_i k; cases k <;> rfl
theorem sv:KA b μ (.bl true) st = b μ st:=rfl
noncomputable def Og (b:ME) (μ:Env):Val → ah → Res Val
 | .bl true,st => .ok (.bl true) st
 | .bl false,st => b μ st
 | _,_ => .bad
theorem Fm:N5 a b μ st = (a μ st).i7 (Og b μ):=dh fun x _ => by
 cases x <;> try rfl
 rename_i k; cases k <;> rfl
theorem HB:Og b μ (.bl true) st = .ok (.bl true) st:=rfl
theorem HC:Og b μ (.bl false) st = b μ st:=rfl
noncomputable def KC:Val → ah → Res Val
 | .bl k,st => .ok (.bl (!k)) st
 | _,_ => .bad
theorem HD:Aw a μ st = (a μ st).i7 KC:=dh fun x _ => by cases x <;> rfl
theorem k_not {k:Bool}:KC (.bl k) st = .ok (.bl (!k)) st:=rfl
noncomputable def A6 (u:MT) (μ:Env):Bool → ah → Res Bool
 | true,st => u μ st
 | false,st => .ok false st
theorem nZ:gK t u μ st = (t μ st).i7 (A6 u μ):=dh fun x _ => by cases x <;> rfl
theorem oY:A6 u μ true st = u μ st:=rfl
theorem oZ:A6 u μ false st = .ok false st:=rfl
noncomputable def HE (u:MT) (μ:Env):Bool → ah → Res Bool
 | true,st => .ok true st
 | false,st => u μ st
theorem o4:iZ t u μ st = (t μ st).i7 (HE u μ):=dh fun x _ => by cases x <;> rfl
theorem DS:HE u μ true st = .ok true st:=rfl
theorem n_:HE u μ false st = u μ st:=rfl
noncomputable def Fn:Bool → ah → Res Bool:=fun k st => .ok (!k) st
theorem xr:dB t μ st = (t μ st).i7 Fn:=dh fun _ _ => rfl
theorem HF {k:Bool}:Fn k st = .ok (!k) st:=rfl
noncomputable def HG (a b:ME) (μ:Env):Bool → ah → Res Val
 | true,st => a μ st
 | false,st => b μ st
theorem Fo:N6 t a b μ st = (t μ st).i7 (HG a b μ):=dh fun x _ => by cases x <;> rfl
theorem DT:HG a b μ true st = a μ st:=rfl
theorem DU:HG a b μ false st = b μ st:=rfl
theorem cF:ak μ st = .ok [] st:=rfl
noncomputable def v9 (x:Val):List Val → ah → Res (List Val):=fun xs st => .ok (x :: xs) st
noncomputable def Fp (ms:MA) (μ:Env):Val → ah → Res (List Val):=fun x st => (ms μ st).i7 (v9 x)
theorem bf:ae a ms μ st = (a μ st).i7 (Fp ms μ):=dh fun _ _ => dh fun _ _ => rfl
theorem bQ {x:Val}:Fp ms μ x st = (ms μ st).i7 (v9 x):=rfl
theorem bg {x:Val} {xs:List Val}:v9 x xs st = .ok (x :: xs) st:=rfl
noncomputable def KD:List Val → ah → Res Val:=fun xs st => if xs.length ≤ sizeLine then .ok (.tup xs) st else .bad
theorem sA:gH ms μ st = (ms μ st).i7 KD:=dh fun _ _ => rfl
theorem xt {xs:List Val}:KD xs st = if xs.length ≤ sizeLine then .ok (.tup xs) st else .bad:=rfl
noncomputable def KG:List Val → ah → Res Val:=fun xs st => if xs.length ≤ sizeLine then .ok (.loc st.length) (st ++ [.lst xs]) else .bad
theorem o5:fK ms μ st = (ms μ st).i7 KG:=dh fun _ _ => rfl
theorem uC {xs:List Val}:KG xs st = if xs.length ≤ sizeLine then .ok (.loc st.length) (st ++ [.lst xs]) else .bad:=rfl
theorem dz {h:FN}:aq h ms μ st = (ms μ st).i7 h:=dh fun _ _ => rfl
noncomputable def Vp:Val → ah → Res Val
 | .int i,st => .ok (.int (-i)) st
 | _,_ => .bad
noncomputable def HH (T:String) (v:Val) (st:ah):Res Val:=match Kk T st v with
 | some b => .ok (.bl b) st
 | none => .bad
theorem A7 {T:String}:vS T a μ st = (a μ st).i7 (HH T):=dh fun _ _ => rfl
theorem aA:aF s1 s2 μ st = (s1 μ st).c_ s2:=by
 unfold aF; cases s1 μ st <;> rfl
theorem gb:bG μ st = .nx μ st:=rfl
noncomputable def KH (μ:Env):Val → ah → bB:=fun _ st => .nx μ st
theorem fH:dc a μ st = (a μ st).Cz μ (KH μ):=lU fun _ _ => rfl
noncomputable def KI:Val → ah → bB:=fun v st => .rt v st
theorem bz:bO a μ st = (a μ st).Cz μ KI:=lU fun _ _ => rfl
theorem e_:KI v st = .rt v st:=rfl
noncomputable def Oh (s1 s2:MB) (μ:Env):Bool → ah → bB
 | true,st => s1 μ st
 | false,st => s2 μ st
theorem dj:gI t s1 s2 μ st = (t μ st).Cz μ (Oh s1 s2 μ):=lU fun x _ => by cases x <;> rfl
theorem gw:Oh s1 s2 μ true st = s1 μ st:=rfl
theorem fS:Oh s1 s2 μ false st = s2 μ st:=rfl
noncomputable def KJ (i:Nat) (μ:Env):Val → ah → bB:=fun v st => .nx (μ.set i (some v)) st
theorem ji:aK i a μ st = (a μ st).Cz μ (KJ i μ):=lU fun _ _ => rfl
theorem uD:KJ i μ v st = .nx (μ.set i (some v)) st:=rfl
noncomputable def A8 (x:Str) (μ:Env):List Val → ah → bB:=fun vs st => if vs.length ≤ sizeLine then .er x μ st else .bad
theorem A9 {x:Str}:lK x ms μ st = (ms μ st).Cz μ (A8 x μ):=lU fun _ _ => rfl
theorem DV {x:Str} {vs:List Val}:A8 x μ vs st = if vs.length ≤ sizeLine then .er x μ st else .bad:=rfl
noncomputable def kFor (as:AS) (s1:MB) (μ:Env):Itm → ah → bB:=fun p st => forL p.2 as s1 p.1 μ st
theorem fj {it:MI} {as:AS}:d9 it as s1 μ st = (it μ st).Cz μ (kFor as s1 μ):=lU fun _ _ => rfl
theorem gN {as:AS} {us:List Val} {q:ah → Prop}:kFor as s1 μ (us,q) st = forL q as s1 us μ st:=rfl
noncomputable def DW:List Val → ah → Res Val:=fun ys st => .ok (.loc st.length) (st ++ [.lst ys])
theorem kF {ys:List Val}:DW ys st = .ok (.loc st.length) (st ++ [.lst ys]):=rfl
noncomputable def A_ (k:Nat) (caps:List Nat) (as:AS) (t:MT) (a:ME) (μ:Env):Itm → ah → Res Val:=fun p st => if p.1.length ≤ sizeLine then (e8 p.2 as t a p.1 (j5 k caps μ) st []).i7 DW else .bad
theorem gf {k:Nat} {caps:List Nat} {it:MI} {as:AS}:cO k caps it as t a μ st = (it μ st).i7 (A_ k caps as t a μ):=dh fun p aQ => by
 unfold A_
 split
 ·exact dh fun _ _ => rfl
 ·rfl
theorem iI {k:Nat} {caps:List Nat} {as:AS} {us:List Val} {q:ah → Prop}:A_ k caps as t a μ (us,q) st = if us.length ≤ sizeLine then (e8 q as t a us (j5 k caps μ) st []).i7 DW else .bad:=rfl
theorem bZ {np n:Nat} {us:List Val} (h:us.length = np):jx np n s1 us st = (s1 (us.map some ++ List.replicate (n - np) none) st).fin:=by
 unfold jx; rw [if_pos h]; cases s1 (us.map some ++ List.replicate (n - np) none) st <;> rfl
theorem lV (h:μ[i]? = some (some v)) (hx:Ke v = false):aa i μ st = .ok v st:=by
 unfold aa; rw [h]; simp [hx]
theorem gx {x:Option Val} {μ:Env}:aa (i + 1) (x :: μ) st = aa i μ st:=rfl
theorem dm {μ:Env} {j:Int}:aa 0 (some (.int j) :: μ) st = .ok (.int j) st:=rfl
theorem Fq {μ:Env} {j:Bool}:aa 0 (some (.bl j) :: μ) st = .ok (.bl j) st:=rfl
theorem qS {μ:Env} {j:Nat}:aa 0 (some (.loc j) :: μ) st = .ok (.loc j) st:=rfl
noncomputable def o6 (v:Val) (st:ah):Res Itm:=match oR st v with
 | some p => .ok p st
 | none => .bad
theorem fm:fe a μ st = (a μ st).i7 o6:=by unfold fe; rw [ig]; rfl
theorem yG {us:List Val}:o6 (.tup us) st = .ok (us,fun _ => True) st:=rfl
theorem dY {n:Nat} {us:List Val} (h:itemsOf st n = some us):o6 (.loc n) st = .ok (us,fun av => itemsOf av n = some us) st:=by
 simp only [o6,oR,h]; rfl
noncomputable def DX (vs:List Val) (av:ah):Res Itm:=match vs with
 | [.int j] => if -(2 ^ 62) ≤ j ∧ j < 2 ^ 62 then .ok (aP 0 j.toNat,fun _ => True) av else .bad
 | _ => .bad
noncomputable def DY (vs:List Val) (av:ah):Res Itm:=match vs with
 | [.int i,.int j] => if -(2 ^ 62) ≤ i ∧ i < 2 ^ 62 ∧ -(2 ^ 62) ≤ j ∧ j < 2 ^ 62 then .ok (aP i (j - i).toNat,fun _ => True) av else .bad
 | _ => .bad
theorem og:bJ ms μ st = (ms μ st).i7 DX:=by unfold bJ; rw [ig]; rfl
theorem xu:gM ms μ st = (ms μ st).i7 DY:=by unfold gM; rw [ig]; rfl
theorem xw {j:Int} (h1:-(2 ^ 62) ≤ j) (h2:j < 2 ^ 62):DX [.int j] st = .ok (aP 0 j.toNat,fun _ => True) st:=by unfold DX; dsimp only; rw [if_pos ⟨h1,h2⟩]
theorem DZ {i j:Int} (h1:-(2 ^ 62) ≤ i) (h2:i < 2 ^ 62) (h3:-(2 ^ 62) ≤ j) (h4:j < 2 ^ 62):DY [.int i,.int j] st = .ok (aP i (j - i).toNat,fun _ => True) st:=by unfold DY; dsimp only; rw [if_pos ⟨h1,h2,h3,h4⟩]
noncomputable def HI (b1 b2:Bool) (vs:List Val) (av:ah):Res Itm:=match vs with
 | [u,w] => match gU av u,gU av w with
  | some (c1,us,g1),some (c2,ws,g2) => if c1 = b1 ∧ c2 = b2 then .ok (kD us ws,fun cI => g1 cI ∧ g2 cI) av else .bad
  | _,_ => .bad
 | _ => .bad
theorem HJ {b1 b2:Bool}:qL b1 b2 ms μ st = (ms μ st).i7 (HI b1 b2):=by unfold qL; rw [ig]; rfl
theorem D0 {us ws:List Val}:HI false false [.tup us,.tup ws] st = .ok (kD us ws,fun _ => True ∧ True) st:=rfl
theorem sC {n:Nat} {us:List Val} (h1:itemsOf st n = some us):oO [.loc n] st = .ok (.tup us) st:=by unfold oO; dsimp only; rw [h1]
theorem j9 {i j:Int}:cg (.int i) (.int j) st = .ok (.int (i + j)) st:=rfl
theorem v_ {i j:Int}:qc (.int i) (.int j) st = .ok (.int (i - j)) st:=rfl
theorem sD {i j:Int} (h:MulOk i j):cU (.int i) (.int j) st = .ok (.int (i * j)) st:=by unfold cU; dsimp only; rw [if_pos h]
theorem o7 {i j:Int} (h1:-(2 ^ 64) < i) (h2:i < 2 ^ 64):cU (.int i) (.int j) st = .ok (.int (i * j)) st:=sD (.inr (.inl ⟨h1,h2⟩))
theorem mul_r {i j:Int} (h1:-(2 ^ 64) < j) (h2:j < 2 ^ 64):cU (.int i) (.int j) st = .ok (.int (i * j)) st:=sD (.inr (.inr ⟨h1,h2⟩))
theorem div_ii {i j:Int} (h:Dz j):bh (.int i) (.int j) st = .ok (.int (i.fdiv j)) st:=if_pos h
theorem cX {i j:Int} (h:¬ j = 0):bx (.int i) (.int j) st = .ok (.int (i.fmod j)) st:=if_neg h
theorem HK {i j:Int} (h:zP i j):Hb (.int i) (.int j) st = .ok (.int (i ^ j.toNat)) st:=if_pos h
theorem jR {i j:Int}:ltV (.int i) (.int j) st = .ok (.bl (decide (i < j))) st:=rfl
theorem Ba {i j:Int}:IS (.int i) (.int j) st = .ok (.bl (decide (j < i))) st:=rfl
theorem gy {i j:Int}:hZ (.int i) (.int j) st = .ok (.bl (i == j)) st:=rfl
theorem xx {i j:Int}:m5 (.int i) (.int j) st = .ok (.bl (!(i == j))) st:=rfl
theorem vI {us:List Val} {i:Int} {v:Val} (h:L2.oz us i = some v):de (.tup us) (.int i) st = .ok v st:=by unfold de; dsimp only; rw [h]
theorem o8 {n:Nat} {us:List Val} {i:Int} {v:Val} (h1:itemsOf st n = some us) (h:L2.oz us i = some v):de (.loc n) (.int i) st = .ok v st:=by unfold de; dsimp only; rw [h1]; dsimp only; rw [h]
theorem kG {n:Nat} {us:List Val} (h1:itemsOf st n = some us):d8 [.loc n] st = .ok (.int us.length) st:=by unfold d8; dsimp only; rw [h1]
theorem D2 {us:List Val}:d8 [.tup us] st = .ok (.int us.length) st:=rfl
theorem D3 {n m:Nat} {us:List Val} (h1:itemsOf st n = some us) (h2:itemsOf st m = some []):nV 16 st (.loc n) (.loc m) = some us.isEmpty:=by
 unfold nV
 simp only [vw,h1,h2]
 show jM _ us [] = _
 cases us <;> rfl
theorem ne_nil {n m:Nat} {us:List Val} (h1:itemsOf st n = some us) (h2:itemsOf st m = some []):m5 (.loc n) (.loc m) st = .ok (.bl (!us.isEmpty)) st:=by unfold m5; rw [D3 h1 h2]
noncomputable def Res.Oi (r:Res α):Res α:=match r with
 | .ok v av => .ok v av
 | .err _ _ => .bad
 | .bad => .bad
theorem Bb {m:Env → ah → Res α}:vW m μ st = (m μ st).Oi:=by unfold vW Res.Oi; cases m μ st <;> rfl
theorem Bc {a:α}:(Res.ok a st).Oi = .ok a st:=rfl
noncomputable def bB.HL (r:bB):bB:=match r with
 | .er _ _ _ => .bad
 | .nx μ' av => .nx μ' av
 | .rt v av => .rt v av
 | .bk μ' av => .bk μ' av
 | .ct μ' av => .ct μ' av
 | .bad => .bad
theorem uE:uq s1 μ st = (s1 μ st).HL:=by unfold uq bB.HL; cases s1 μ st <;> rfl
theorem xy:(bB.rt v st).HL = .rt v st:=rfl
noncomputable def bB.D4 (r:bB) (kn:Str → Bool) (h:MH):bB:=match r with
 | .er c μ' av => if kn c = true then h c μ' av else .bad
 | .nx μ' av => .nx μ' av
 | .rt v av => .rt v av
 | .bk μ' av => .bk μ' av
 | .ct μ' av => .ct μ' av
 | .bad => .bad
theorem Bd {kn:Str → Bool} {h:MH}:si kn s1 h μ st = (s1 μ st).D4 kn h:=by unfold si bB.D4; cases s1 μ st <;> rfl
theorem D5 {kn:Str → Bool} {h:MH}:(bB.rt v st).D4 kn h = .rt v st:=rfl
theorem xA {kn:Str → Bool} {h:MH} {c:Str} (hk:kn c = true):(bB.er c μ st).D4 kn h = h c μ st:=by
 show (if kn c = true then h c μ st else .bad) = _
 rw [if_pos hk]
theorem D6 {sub:Str → Str → Option Bool} {x c:Str} {r:MH} (h:sub c x = some true):qN sub x s1 r c μ st = oT (s1 μ st):=by unfold qN; rw [h]
theorem KL {sub:Str → Str → Option Bool} {x c:Str} {r:MH} (h:sub c x = some true):IV sub x i s1 r c μ st = oT (s1 (μ.set i (some (.exc c))) st):=by unfold IV; rw [h]
theorem qT:oT (.rt v st) = .rt v st:=rfl
end
end MN
namespace MN
open PySem PySem.Spec L2
open PyProof.Rows hiding St kindOf
end MN
namespace MN
open PySem PySem.Spec L2
open PyProof.Rows hiding St kindOf
section
variable {μ:Env} {st:ah} {a b c o:ME} {ms:MA} {f:F2} {g:FM} {v w:Val} {i n m:Nat} {us ws:List Val}
noncomputable def HM (g:FM) (x:Val):List Val → ah → Res Val:=fun xs st => g x xs st
noncomputable def D7 (g:FM) (ms:MA) (μ:Env):Val → ah → Res Val:=fun x st => if uk st x = true then (ms μ st).i7 (HM g x) else .bad
theorem sE:jh g o ms μ st = (o μ st).i7 (D7 g ms μ):=dh fun x aQ => by
 unfold D7
 split
 ·exact dh fun _ _ => rfl
 ·rfl
theorem xB (h:st[n]? = some (.lst us)):D7 g ms μ (.loc n) st = (ms μ st).i7 (HM g (.loc n)):=by
 unfold D7
 rw [if_pos (by unfold uk; dsimp only; rw [h])]
theorem xC {xs:List Val}:HM g v xs st = g v xs st:=rfl
theorem jB (h:st[n]? = some (.lst us)) (hl:us.length < sizeLine):cw (.loc n) [v] st = .ok .eR (st.set n (.lst (us ++ [v]))):=by
 simp only [cw,h]
 rw [if_pos hl]
theorem D8:lR ms μ st = (ms μ st).i7 AZ:=by unfold lR; rw [ig]
theorem HN {j k:Int} (h1:-(2 ^ 62) ≤ j) (h2:j < 2 ^ 62) (h3:-(2 ^ 62) ≤ k) (h4:k < 2 ^ 62):AZ [.int j,.int k,.int (-1)] st = .ok (iS j (j - k).toNat,fun _ => True) st:=by
 unfold AZ; dsimp only; rw [if_pos ⟨rfl,h1,h2,h3,h4⟩]
theorem sF (e:itemsOf st n = some us):jZ [.loc n] st = .ok (.loc st.length) (st ++ [.lst us]):=by
 simp only [jZ,e]
theorem m6 (h:st[n]? = some (.lst us)):itemsOf st n = some us:=by unfold itemsOf; rw [h]
theorem Be (st:ah) (us:List Val):(st ++ [Cell.lst us])[st.length]? = some (.lst us):=by
 rw [List.getElem?_append_right (Nat.le_refl _),Nat.sub_self]; rfl
theorem is_list (h:st[n]? = some (.lst us)):HH "list" (.loc n) st = .ok (.bl true) st:=by
 unfold HH Kk kindOf; dsimp only; rw [h]; rfl
theorem uF (st:ah) (k k':Cell):(st ++ [k]).set st.length k' = st ++ [k']:=by
 rw [List.set_append_right _ _ (Nat.le_refl _),Nat.sub_self]; rfl
theorem oh (st:ah) (k k':Cell) (g:ah):(st ++ k :: g).set st.length k' = st ++ k' :: g:=by
 rw [List.set_append_right _ _ (Nat.le_refl _),Nat.sub_self]; rfl
theorem HP (st:ah) (k:Cell) (g:ah):(st ++ k :: g)[st.length]? = some k:=by
 rw [List.getElem?_append_right (Nat.le_refl _),Nat.sub_self]; rfl
end
mutual
noncomputable def uG:Nat → Val → Bool
 | _,.eR => true
 | _,.bl _ => true
 | _,.int _ => true
 | _,.str _ => true
 | 0,.tup _ => false
 | n + 1,.tup us => fT n us
 | _,_ => false
noncomputable def fT:Nat → List Val → Bool
 | _,[] => true
 | n,u :: us => uG n u && fT n us
end
mutual
theorem Bf (st:ah):∀ (n:Nat) (v:Val),uG n v = true → nV (n + 1) st v v = some true
 | _,.eR,_ => rfl
 | _,.bl b,_ => by show some (b == b) = _; rw [beq_self_eq_true]
 | _,.int i,_ => by show some (i == i) = _; rw [beq_self_eq_true]
 | _,.str x,_ => by show some (x == x) = _; rw [beq_self_eq_true]
 | 0,.tup _,h => by cases h
 | n + 1,.tup us,h => by
  show jM (nV (n + 1) st) us us = some true
  exact lW st n us h
 | n,.loc _,h => by cases n <;> cases h
 | n,.exc _,h => by cases n <;> cases h
 | n,.fn _ _,h => by cases n <;> cases h
 | n,.mt _,h => by cases n <;> cases h
theorem lW (st:ah):∀ (n:Nat) (us:List Val),fT n us = true → jM (nV (n + 1) st) us us = some true
 | _,[],_ => rfl
 | n,u :: us,h => by
  have h':uG n u = true ∧ fT n us = true:=by simpa [fT] using h
  show (match nV (n + 1) st u u,jM (nV (n + 1) st) us us with | some a,some b => some (a && b) | _,_ => none) = _
  rw [Bf st n u h'.1,lW st n us h'.2]; rfl
end
theorem lX {n:Nat}:∀ {us:List Val},(∀ u ∈ us,uG n u = true) → fT n us = true
 | [],_ => rfl
 | u :: us,h => by
  unfold fT
  rw [h u List.mem_cons_self,lX fun w hw => h w (List.mem_cons_of_mem u hw)]; rfl
theorem uH (n:Nat) (ns:List Int):fT n (ns.map Val.int) = true:=lX fun u hu => by
 obtain ⟨i,_,rfl⟩:=List.mem_map.mp hu
 cases n <;> rfl
section
variable {st:ah} {n m:Nat} {us:List Val}
theorem yH (h1:itemsOf st n = some us) (h2:itemsOf st m = some us) (hp:fT 14 us = true):nV 16 st (.loc n) (.loc m) = some true:=by
 unfold nV
 simp only [vw,h1,h2]
 exact lW st 14 us hp
theorem Bg (h1:itemsOf st n = some us) (h2:itemsOf st m = some us) (hp:fT 14 us = true):hZ (.loc n) (.loc m) st = .ok (.bl true) st:=by unfold hZ; rw [yH h1 h2 hp]
end
end MN
namespace MN
open PySem PySem.Spec L2
open PyProof.Rows hiding St kindOf
end MN
namespace PG
open PySem PySem.Spec L2 MN
open PyProof.Rows hiding St kindOf
theorem gg (i:Int) (st:ah):PM.dD [.int i] st = .ok (.bl true) st:=rfl
noncomputable def FP:List Int:=[2,3,5,7,11,13,17,19,23,29,31]
noncomputable def vz (n:Int):Bool:=FP.contains n || (decide (2 ≤ n) && decide (n ≤ 997) && FP.all fun p => !(n.fmod p == 0))
theorem any_ints (n:Int) (ns:List Int):(ns.map Val.int).any (fun y => Hc y (.int n)) = ns.contains n:=by
 induction ns with
 | nil => rfl
 | cons m ns ih =>
  simp only [List.map_cons,List.any_cons,List.contains_cons]
  rw [ih]
  congr 1
  show (m == n) = (n == m)
  rw [Bool.eq_iff_iff,beq_iff_eq,beq_iff_eq]; exact ⟨Eq.symm,Eq.symm⟩
theorem D9 (n:Int) (ns:List Int) (st:ah):Hf false (.int n) (.mt (ns.map Val.int)) st = .ok (.bl (ns.contains n)) st:=by
 have h1:(ns.map Val.int).all flat = true:=by rw [List.all_map]; exact List.all_eq_true.mpr fun _ _ => rfl
 unfold Hf Fg
 dsimp only
 rw [if_pos ⟨rfl,h1⟩,any_ints]
 rfl
theorem D_ (ns:List Int) (f:Int → Bool):kC ((ns.map Val.int).map fun v => match v with | .int i => .bl (f i) | _ => .eR) = some (ns.map f):=by
 induction ns with
 | nil => rfl
 | cons m ns ih =>
  simp only [List.map_cons,kC] at ih ⊢
  rw [ih]; rfl
theorem jP (n:Int) (st:ah):∃ g,PM.bL [.int n] st = .ok (.bl (vz n)) (st ++ g):=by
 have E4:Hf false (.int n) PM.fi st = .ok (.bl (FP.contains n)) st:=D9 n FP st
 cases h1:FP.contains n with
 | true =>
  refine ⟨[],?_⟩
  rw [h1] at E4
  simp only [PM.bL,bZ,aw,aG,iH,df,cy,dN,cz,e_,gw,gv,cK,cE,aA,bz,dj,dm,List.map_cons,List.map_nil,List.replicate_zero,Nat.reduceSub,List.length_cons,List.length_nil,Nat.reduceAdd,E4,List.append_nil,vz,h1,Bool.true_or]
 | false =>
  rw [h1] at E4
  by_cases h2:n < 2
  ·refine ⟨[],?_⟩
   have e2:decide (n < 2) = true:=decide_eq_true h2
   have e3:decide (2 ≤ n) = false:=decide_eq_false (by lia)
   simp only [PM.bL,bZ,aw,aG,aB,iH,df,cy,dN,cz,DS,e_,gw,fS,gv,cK,cE,o4,aA,gb,bz,dj,jR,dm,List.map_cons,List.map_nil,List.replicate_zero,Nat.reduceSub,List.length_cons,List.length_nil,Nat.reduceAdd,E4,e2,List.append_nil,vz,h1,e3,Bool.false_or,Bool.false_and]
  ·have e2:decide (n < 2) = false:=decide_eq_false h2
   have e3:decide (2 ≤ n) = true:=decide_eq_true (by lia)
   by_cases h3:997 < n
   ·refine ⟨[],?_⟩
    have e4:decide (997 < n) = true:=decide_eq_true h3
    have e5:decide (n ≤ 997) = false:=decide_eq_false (by lia)
    simp only [PM.bL,bZ,aw,aG,aB,iH,df,cy,dN,cz,n_,e_,gw,fS,gv,cK,cE,o4,aA,gb,bz,dj,jR,Ba,dm,List.map_cons,List.map_nil,List.replicate_zero,Nat.reduceSub,List.length_cons,List.length_nil,Nat.reduceAdd,E4,e2,e4,List.append_nil,vz,h1,e3,e5,Bool.false_or,Bool.false_and,Bool.true_and]
   ·have e4:decide (997 < n) = false:=decide_eq_false h3
    have e5:decide (n ≤ 997) = true:=decide_eq_true (by lia)
    let f:Val → Val:=fun v => match v with | .int i => .bl (!(n.fmod i == 0)) | _ => .eR
    have hc:e8 (fun _ => True) (aName 0) cj (ai m5 (ai bx (aa 1) (aa 0)) (mC (Val.int 0))) (FP.map Val.int) (j5 1 [0] [some (Val.int n)]) st [] = .ok ([] ++ ((FP.map Val.int).filter fun _ => true).map f) st:=by
     refine cW trivial (fun τ => ∃ x,τ = [x,some (.int n)]) (fun _ => true) f (FP.map Val.int) _ [] ⟨none,rfl⟩ ?_
     rintro u hu τ ⟨x,rfl⟩
     obtain ⟨i,hi,rfl⟩:=List.mem_map.mp hu
     have Oj:¬ i = 0:=by
      intro z; subst z; revert hi; decide
     refine ⟨_,rfl,⟨_,rfl⟩,rfl,fun _ => ?_⟩
     simp only [aw,cy,dN,cz,gv,xx,dm,gx,List.set_cons_zero,cX Oj,f]
    have hb:kC (((FP.map Val.int).filter fun _ => true).map f) = some (FP.map fun i => !(n.fmod i == 0)):=by
     rw [List.filter_eq_self.mpr (fun _ _ => rfl)]
     exact D_ FP fun i => !(n.fmod i == 0)
    refine ⟨[.lst (((FP.map Val.int).filter fun _ => true).map f)],?_⟩
    have ha:AG [.loc st.length] (st ++ [.lst (((FP.map Val.int).filter fun _ => true).map f)]) = .ok (.bl (vz n)) (st ++ [.lst (((FP.map Val.int).filter fun _ => true).map f)]):=by
     unfold AG
     dsimp only
     rw [bM]
     dsimp only
     rw [hb]
     simp only [vz,h1,e3,e5,Bool.false_or,Bool.true_and,List.all_map]
     rfl
    have hw:o6 PM.fi st = .ok (FP.map Val.int,fun _ => True) st:=rfl
    have hz:(FP.map Val.int).length = 11:=rfl
    rw [List.nil_append] at hc
    simp only [PM.bL,bZ,aw,aG,aB,df,cy,dN,cz,n_,bQ,bg,e_,fS,kF,iI,gv,cK,cE,o4,cF,bf,dz,aA,gb,bz,dj,gf,fm,jR,Ba,dm,List.map_cons,List.map_nil,List.cons_append,List.nil_append,List.replicate_zero,Nat.reduceSub,List.length_cons,List.length_nil,Nat.reduceAdd,sizeLine_eq,Nat.reduceLeDiff,↓reduceIte,E4,e2,e4,hw,hc,ha,hz]
end PG
namespace Vq
end Vq
namespace PG
open PySem PySem.Spec L2 MN
open PyProof.Rows hiding St kindOf
noncomputable def cf (n:Int):Bool:=n == 0 || vz n
theorem uI (n:Int) (st:ah):∃ g,PM.jA [.int n] st = .ok (.bl (cf n)) (st ++ g):=by
 cases h:n == 0 with
 | true => exact ⟨[],by simp only [PM.jA,bZ,aw,aG,df,cy,dN,cz,sv,HB,bQ,bg,e_,gv,v8,Fm,cF,bf,dz,bz,gy,dm,List.map_cons,List.map_nil,List.replicate_zero,Nat.reduceSub,List.length_cons,List.length_nil,Nat.reduceAdd,gg,h,cf,Bool.true_or,List.append_nil]⟩
 | false =>
  obtain ⟨g,e⟩:=jP n st
  exact ⟨g,by simp only [PM.jA,bZ,aw,aG,df,cy,dN,cz,sv,HC,bQ,bg,e_,gv,v8,Fm,cF,bf,dz,bz,gy,dm,List.map_cons,List.map_nil,List.cons_append,List.nil_append,List.replicate_zero,Nat.reduceSub,List.length_cons,List.length_nil,Nat.reduceAdd,gg,h,cf,Bool.false_or,e]⟩
theorem g8 {n:Int} (h:cf n = true) (st:ah):∃ g,PM.bR [.int n] st = .ok .eR (st ++ g):=by
 obtain ⟨g,e⟩:=uI n st
 rw [h] at e
 exact ⟨g,by simp only [PM.bR,bZ,aw,aG,HA,HF,bQ,bg,fS,cK,cE,xr,cF,bf,dz,gb,dj,dm,List.map_cons,List.map_nil,List.cons_append,List.nil_append,List.replicate_zero,Nat.reduceSub,List.length_cons,List.length_nil,Nat.reduceAdd,Bool.not_true,e]⟩
end PG
namespace PG
open PySem PySem.Spec L2 MN
open PyProof.Rows hiding St kindOf
theorem yI {p:Int} (h:vz p = true):2 ≤ p ∧ p ≤ 997:=by
 unfold vz at h
 rw [Bool.or_eq_true] at h
 rcases h with h | h
 ·have:p ∈ FP:=by simpa using h
  simp only [FP,List.mem_cons,List.not_mem_nil,or_false] at this
  omega
 ·simp only [Bool.and_eq_true,decide_eq_true_eq] at h
  omega
theorem Bh {p:Int} (hp:0 < p) (i:Int):i.fmod p = i % p:=Int.fmod_eq_emod_of_nonneg i (by lia)
theorem Bi {p:Int} (h:vz p = true):cf p = true:=by unfold cf; rw [h,Bool.or_true]
end PG
namespace PG
open PySem PySem.Spec L2 MN
open PyProof.Rows hiding St kindOf
theorem wa {i:Nat} {f o:Int} (h0:0 ≤ f) (h1:f < 2 ^ (31 * i)) (o0:0 ≤ o) (o1:o < 2147483647):0 ≤ f * 2147483647 + o ∧ f * 2147483647 + o < 2 ^ (31 * (i + 1)):=by
 have e:(2:Int) ^ (31 * (i + 1)) = 2 ^ (31 * i) * 2147483648:=by rw [Nat.mul_succ,Int.pow_add]; rfl
 rw [e]
 lia
theorem Ea {ns:List Int} {k:Int} (h0:0 ≤ k) (h1:k < (ns.length:Int)):∃ c:Int,L2.oz (ns.map Val.int) k = some (.int c):=by
 have hk:k.toNat < ns.length:=by lia
 refine ⟨ns[k.toNat],?_⟩
 have e:=L2.rN (xs:=ns.map Val.int) (j:=k.toNat) (v:=.int ns[k.toNat]) (by rw [List.getElem?_map,List.getElem?_eq_getElem hk]; rfl)
 rw [show ((k.toNat:Nat):Int) = k by lia] at e
 exact e
theorem fM {m:Int} (hm:0 < m) (i:Int):0 ≤ i.fmod m ∧ i.fmod m < m:=by
 rw [Bh hm]; exact ⟨Int.emod_nonneg _ (by lia),Int.emod_lt_of_pos _ hm⟩
theorem sG {n:Nat} {ns:List Int} {k:Int} {st:ah} (h:itemsOf st n = some (ns.map Val.int)) (k0:0 ≤ k) (k1:k ≤ 1000000) :
  ∃ o,PM.aL [.loc n,.int k] st = .ok (.int o) st ∧ 0 ≤ o ∧ o < 2 ^ 186:=by
 have len:((List.map Val.int ns).length:Int) = (ns.length:Int):=by rw [List.length_map]
 have loop:∀ (c x:Int),0 ≤ x → x < 2147483647 → ∃ μ' av o,forL (fun _ => True) (aName 5) (aF (aK 3 (ai bx (ai cg (ai cU (ai bx (ai cU (aa 3) (aa 3)) (mC (.int 2147483629))) (mC (.int 69621))) (aa 5)) (mC (.int 2147483647)))) (aK 4 (ai cg (ai cU (aa 4) (mC (.int 2147483647))) (aa 3)))) (aP 0 6) [some (.loc n),some (.int k),some (.int c),some (.int x),some (.int 0),none] st = .nx μ' av ∧ av = st ∧ (∃ y t,μ' = [some (.loc n),some (.int k),some (.int c),y,some (.int o),t]) ∧ 0 ≤ o ∧ o < 2 ^ 186:=by
  intro c x x0 x1
  obtain ⟨μ',av,e,rfl,o,f,t,rfl,o0,o1,f0,f1⟩:=cQ (g:=fun _ => True) (a:=aName 5) (body:=aF (aK 3 (ai bx (ai cg (ai cU (ai bx (ai cU (aa 3) (aa 3)) (mC (.int 2147483629))) (mC (.int 69621))) (aa 5)) (mC (.int 2147483647)))) (aK 4 (ai cg (ai cU (aa 4) (mC (.int 2147483647))) (aa 3))))
   (fun i μ s => s = st ∧ ∃ (o f:Int) (t:Option Val),μ = [some (.loc n),some (.int k),some (.int c),some (.int o),some (.int f),t] ∧ 0 ≤ o ∧ o < 2147483647 ∧ 0 ≤ f ∧ f < 2 ^ (31 * i))
   (aP 0 6) 0 [some (.loc n),some (.int k),some (.int c),some (.int x),some (.int 0),none] st
   (by
    rintro i u μ s hu ⟨rfl,o,f,t,rfl,o0,o1,f0,f1⟩
    refine ⟨trivial,?_⟩
    have hi:i < 6:=by have:=ff hu; simpa [aP] using this
    have eu:u = .int (0 + (i:Int)):=by
     simp only [aP,List.getElem?_map] at hu
     rw [List.getElem?_range hi] at hu
     exact (Option.some.inj hu).symm
    subst eu
    have q1:=fM (m:=2147483629) (by decide) (o * o)
    have q2:=fM (m:=2147483647) (by decide) ((o * o).fmod 2147483629 * 69621 + (0 + (i:Int)))
    refine ⟨_,rfl,[some (.loc n),some (.int k),some (.int c),some (.int (((o * o).fmod 2147483629 * 69621 + (0 + (i:Int))).fmod 2147483647)),some (.int (f * 2147483647 + ((o * o).fmod 2147483629 * 69621 + (0 + (i:Int))).fmod 2147483647)),some (.int (0 + (i:Int)))],s,.inl ?_,rfl,_,_,_,rfl,q2.1,q2.2,?_⟩
    ·simp only [aw,aG,aB,cy,dN,cz,uD,gv,aA,ji,j9,dm,gx,List.set_cons_zero,List.set_cons_succ,o7 (i:=o) (by lia) (by lia),cX (j:=2147483629) (by decide),mul_r (j:=69621) (by decide) (by decide),cX (j:=2147483647) (by decide),mul_r (j:=2147483647) (by decide) (by decide)]
    ·rw [Nat.zero_add] at f1 ⊢
     exact wa f0 f1 q2.1 q2.2) (fun _ _ _ => trivial)
   ⟨rfl,x,0,none,rfl,x0,x1,by decide,by decide⟩
  refine ⟨_,_,f,e,rfl,⟨_,_,rfl⟩,f0,?_⟩
  have:(aP 0 6).length = 6:=rfl
  rw [this] at f1
  exact f1
 have fin:∀ c:Int,((decide (k < ((List.map Val.int ns).length:Int)) = false ∧ c = 0) ∨ (decide (k < ((List.map Val.int ns).length:Int)) = true ∧ L2.oz (ns.map Val.int) k = some (.int c))) → ∃ o,PM.aL [.loc n,.int k] st = .ok (.int o) st ∧ 0 ≤ o ∧ o < 2 ^ 186:=by
  intro c hc
  have q:=fM (m:=2147483647) (by decide) (c * 48271 + 7919 * k * k + 104729 * k + 11)
  obtain ⟨μ',av,o,e,rfl,⟨y,t,rfl⟩,o0,o1⟩:=loop c _ q.1 q.2
  refine ⟨o,?_,o0,o1⟩
  have r6:DX [.int 6] av = .ok (aP 0 6,fun _ => True) av:=rfl
  rcases hc with ⟨h1,rfl⟩ | ⟨h1,h2⟩
  ·simp only [PM.aL,bZ,aw,aG,aB,df,cy,dN,cz,bQ,bg,e_,fS,uD,gN,gv,cK,cE,cF,bf,dz,aA,gb,bz,dj,ji,fj,og,j9,jR,dm,qS,gx,List.map_cons,List.map_nil,List.cons_append,List.nil_append,List.replicate_succ,List.replicate_zero,List.set_cons_zero,List.set_cons_succ,Nat.reduceSub,List.length_cons,List.length_nil,Nat.reduceAdd,kG h,h1,mul_r (j:=48271) (by decide) (by decide),o7 (i:=7919) (by decide) (by decide),mul_r (j:=k) (by lia) (by lia),cX (j:=2147483647) (by decide),r6,e]
  ·simp only [PM.aL,bZ,aw,aG,aB,df,cy,dN,cz,bQ,bg,e_,gw,uD,gN,gv,cK,cE,cF,bf,dz,aA,bz,dj,ji,fj,og,j9,jR,dm,qS,gx,List.map_cons,List.map_nil,List.cons_append,List.nil_append,List.replicate_succ,List.replicate_zero,List.set_cons_zero,List.set_cons_succ,Nat.reduceSub,List.length_cons,List.length_nil,Nat.reduceAdd,kG h,h1,o8 h h2,mul_r (j:=48271) (by decide) (by decide),o7 (i:=7919) (by decide) (by decide),mul_r (j:=k) (by lia) (by lia),cX (j:=2147483647) (by decide),r6,e]
 by_cases hk:k < (ns.length:Int)
 ·obtain ⟨c,hc⟩:=Ea k0 hk
  exact fin c (.inr ⟨decide_eq_true (by rw [len]; exact hk),hc⟩)
 ·exact fin 0 (.inl ⟨decide_eq_false (by rw [len]; exact hk),rfl⟩)
end PG
namespace PG
open PySem PySem.Spec L2 MN
open PyProof.Rows hiding St kindOf
theorem jj {j:Int} (h:0 < j) (h1:j < 2 ^ 64):Dz j:=by
 refine Dz.of (k:=64) (by lia) ?_ (by decide)
 show j.natAbs < 2 ^ 64
 lia
theorem HQ {m:Int} (hm:0 < m) (i:Int):i.fdiv m = i / m:=Int.fdiv_eq_ediv_of_nonneg i (by lia)
theorem Bj {s x:Int} (hs:s = 1 ∨ s = -1) (h0:0 ≤ x) (h1:x < (10:Int) ^ 40):jw 134 (s * x):=by
 show (s * x).natAbs < 2 ^ 134
 have e:(10:Int) ^ 40 = 10000000000000000000000000000000000000000:=by decide
 rw [e] at h1
 rcases hs with rfl | rfl
 ·rw [Int.one_mul]; lia
 ·rw [Int.neg_one_mul]; lia
theorem uJ {c:Int} (h:0 ≤ c) (st:ah):∃ r,PM.bS [.int c] st = .ok (.int r) st ∧ jw 134 r:=by
 have d7:Dz 7:=jj (by decide) (by decide)
 have Vr:Dz 14:=jj (by decide) (by decide)
 have cp:zP 10 40:=by decide
 have tn:Int.toNat 40 = 40:=rfl
 cases hz:c.fmod 7 == 0 with
 | true =>
  have q:=fM (m:=2) (by decide) (c.fdiv 7)
  have q2:=fM (m:=10 ^ 40) (by decide) (c.fdiv 14)
  refine ⟨(1 - (c.fdiv 7).fmod 2 * 2) * (c.fdiv 14).fmod (10 ^ 40),?_,Bj (by lia) q2.1 q2.2⟩
  have nz:¬ (10:Int) ^ 40 = 0:=by decide
  simp only [PM.bS,bZ,aw,aG,iH,df,cy,dN,cz,e_,gw,gv,cK,cE,aA,bz,dj,v_,gy,dm,List.map_cons,List.map_nil,List.cons_append,List.nil_append,List.replicate_zero,Nat.reduceSub,List.length_cons,List.length_nil,Nat.reduceAdd,cX (j:=7) (by decide),hz,div_ii d7,div_ii Vr,cX (j:=2) (by decide),mul_r (j:=2) (by decide) (by decide),HK cp,tn,cX nz,o7 (i:=1 - (c.fdiv 7).fmod 2 * 2) (by lia) (by lia)]
 | false =>
  have q:=fM (m:=19) (by decide) (c.fdiv 7)
  refine ⟨(c.fdiv 7).fmod 19 - 9,?_,jw.small (by decide) (by lia) (by lia)⟩
  simp only [PM.bS,bZ,aw,aG,aB,df,cy,dN,cz,e_,fS,gv,cK,cE,aA,gb,bz,dj,v_,gy,dm,List.map_cons,List.map_nil,List.cons_append,List.nil_append,List.replicate_zero,Nat.reduceSub,List.length_cons,List.length_nil,Nat.reduceAdd,cX (j:=7) (by decide),hz,div_ii d7,cX (j:=19) (by decide)]
noncomputable def Ml (n:Int) (u:Val):Bool:=match u with
 | .int b => decide (b < n) && (n.fmod b == 0)
 | _ => false
noncomputable def p8 (n:Int):List Val:=(aP 2 30).filter (Ml n)
theorem HR:∀ k:Fin 998,2 ≤ k.val → (p8 (k.val:Int)).isEmpty = true → vz (k.val:Int) = true:=by decide +kernel
theorem Eb:(p8 997).isEmpty = true:=by decide +kernel
theorem Bk (n:Int) (x:Option Val) (st:ah):e8 (fun _ => True) (aName 0) (gK (b_ (ai ltV (aa 0) (aa 1))) (b_ (ai hZ (ai bx (aa 1) (aa 0)) (mC (.int 0))))) (aa 0) (aP 2 30) [x,some (.int n)] st [] = .ok (p8 n) st:=by
 have:=cW (a:=aName 0) (c:=gK (b_ (ai ltV (aa 0) (aa 1))) (b_ (ai hZ (ai bx (aa 1) (aa 0)) (mC (.int 0))))) (e:=aa 0) (g:=fun _ => True) (st:=st) trivial (fun τ => ∃ x,τ = [x,some (.int n)]) (Ml n) id (aP 2 30) [x,some (.int n)] [] ⟨x,rfl⟩ ?_
 ·rw [this,List.nil_append,List.map_id]; rfl
 ·rintro u hu τ ⟨x,rfl⟩
  simp only [aP,List.mem_map,List.mem_range] at hu
  obtain ⟨i,hi,rfl⟩:=hu
  have nz:¬ (2 + (i:Int)) = 0:=by lia
  refine ⟨_,rfl,⟨_,rfl⟩,?_,fun _ => rfl⟩
  by_cases hb:2 + (i:Int) < n
  ·have e:decide (2 + (i:Int) < n) = true:=decide_eq_true hb
   simp only [aw,cy,dN,cz,oY,gv,cK,cE,nZ,jR,gy,dm,gx,List.set_cons_zero,e,cX nz,Ml,Bool.true_and]
  ·have e:decide (2 + (i:Int) < n) = false:=decide_eq_false hb
   simp only [aw,cy,dN,cz,oZ,cK,cE,nZ,jR,dm,gx,List.set_cons_zero,e,Ml,Bool.false_and]
noncomputable def Ol (μ:MN.Env):Nat:=match (μ[1]?:Option (Option Val)) with
 | some (some (Val.int n)) => (997 - n).toNat
 | _ => 0
theorem Ec {c:Int} (h:0 ≤ c) (st:ah):∃ g p,PM.gk [.int c] st = .ok (.int p) (st ++ g) ∧ vz p = true:=by
 have d2:Dz 2:=jj (by decide) (by decide)
 cases hz:c.fmod 2 == 0 with
 | true =>
  have q:=fM (m:=6) (by decide) (c.fdiv 2)
  have Vs:∀ i:Int,0 ≤ i → i < 6 → ∃ p,L2.oz ([.int 2,.int 3,.int 5,.int 7,.int 11,.int 13]:List Val) i = some (.int p) ∧ vz p = true:=by
   intro i i0 i1
   have:i = 0 ∨ i = 1 ∨ i = 2 ∨ i = 3 ∨ i = 4 ∨ i = 5:=by lia
   rcases this with rfl | rfl | rfl | rfl | rfl | rfl
   ·exact ⟨2,rfl,by decide⟩
   ·exact ⟨3,rfl,by decide⟩
   ·exact ⟨5,rfl,by decide⟩
   ·exact ⟨7,rfl,by decide⟩
   ·exact ⟨11,rfl,by decide⟩
   ·exact ⟨13,rfl,by decide⟩
  obtain ⟨p,ep,hp⟩:=Vs _ q.1 q.2
  refine ⟨[.lst [.int 2,.int 3,.int 5,.int 7,.int 11,.int 13]],p,?_,hp⟩
  simp only [PM.gk,bZ,aw,aG,iH,df,cy,dN,cz,bQ,bg,uC,e_,gw,gv,cK,cE,cF,bf,o5,aA,bz,dj,gy,dm,List.map_cons,List.map_nil,List.cons_append,List.nil_append,List.replicate_succ,List.replicate_zero,Nat.reduceSub,List.length_cons,List.length_nil,Nat.reduceAdd,sizeLine_eq,Nat.reduceLeDiff,↓reduceIte,cX (j:=2) (by decide),hz,div_ii d2,cX (j:=6) (by decide),o8 (bM st [.int 2,.int 3,.int 5,.int 7,.int 11,.int 13]) ep]
 | false =>
  have q:=fM (m:=996) (by decide) (c.fdiv 2)
  have r2:∀ st,DY [.int 2,.int 32] st = .ok (aP 2 30,fun _ => True) st:=fun _ => rfl
  have rl:(aP 2 30).length = 30:=rfl
  have wb:∀ (n:Int) (s:ah),b_ (ai m5 (cO 1 [1] (gM (ae (mC (.int 2)) (ae (mC (.int 32)) ak))) (aName 0) (gK (b_ (ai ltV (aa 0) (aa 1))) (b_ (ai hZ (ai bx (aa 1) (aa 0)) (mC (.int 0))))) (aa 0)) (fK ak)) [some (.int c),some (.int n)] s = .ok (!(p8 n).isEmpty) (s ++ [.lst (p8 n)] ++ [.lst []]):=by
   intro n s
   have GG:j5 1 [1] [some (Val.int c),some (Val.int n)] = [none,some (.int n)]:=rfl
   simp only [aw,cy,dN,cz,bQ,bg,uC,kF,iI,gv,cK,cE,cF,bf,o5,gf,xu,List.length_nil,sizeLine_eq,Nat.reduceLeDiff,↓reduceIte,r2,rl,GG,Bk,ne_nil (aO (bM s (p8 n)) [.lst []]) (bM (s ++ [.lst (p8 n)]) [])]
  obtain ⟨μ',av,e,g,rfl,n,rfl,n0,n1,em⟩:=v7 (t:=b_ (ai m5 (cO 1 [1] (gM (ae (mC (.int 2)) (ae (mC (.int 32)) ak))) (aName 0) (gK (b_ (ai ltV (aa 0) (aa 1))) (b_ (ai hZ (ai bx (aa 1) (aa 0)) (mC (.int 0))))) (aa 0)) (fK ak)))
   (body:=aK 1 (ai cg (aa 1) (mC (.int 1))))
   (fun μ s => ∃ g,s = st ++ g ∧ ∃ n:Int,μ = [some (.int c),some (.int n)] ∧ 2 ≤ n ∧ n ≤ 997) (fun μ _ => Ol μ)
   (fun μ s => ∃ g,s = st ++ g ∧ ∃ n:Int,μ = [some (.int c),some (.int n)] ∧ 2 ≤ n ∧ n ≤ 997 ∧ (p8 n).isEmpty = true)
   (by
    rintro μ s ⟨g,rfl,n,rfl,n0,n1⟩
    have t:=wb n (st ++ g)
    cases hd:(p8 n).isEmpty with
    | true =>
     rw [hd] at t
     exact .inl ⟨_,t,g ++ ([.lst (p8 n)] ++ [.lst []]),by simp only [List.append_assoc],n,rfl,n0,n1,hd⟩
    | false =>
     rw [hd] at t
     have n2:n ≠ 997:=fun z => by rw [z,Eb] at hd; cases hd
     refine .inr ⟨_,[some (.int c),some (.int (n + 1))],_,t,.inl (by simp only [aw,aG,cy,dN,cz,uD,gv,ji,j9,dm,gx,List.set_cons_zero,List.set_cons_succ]; rfl),⟨g ++ ([.lst (p8 n)] ++ [.lst []]),by simp only [List.append_assoc],n + 1,rfl,by lia,by lia⟩,?_⟩
     show (997 - (n + 1)).toNat < (997 - n).toNat
     lia)
   [some (.int c),some (.int (2 + (c.fdiv 2).fmod 996))] st ⟨[],by rw [List.append_nil],_,rfl,by lia,by lia⟩
  have hp:=HR ⟨n.toNat,by lia⟩ (by show 2 ≤ n.toNat; lia) (by show (p8 ((n.toNat:Nat):Int)).isEmpty = true; rw [Int.toNat_of_nonneg (by lia)]; exact em)
  have Vt:vz n = true:=by
   have:vz ((n.toNat:Nat):Int) = true:=hp
   rw [Int.toNat_of_nonneg (by lia)] at this; exact this
  refine ⟨g,n,?_,Vt⟩
  simp only [PM.gk,bZ,aw,aG,aB,df,cy,dN,cz,e_,fS,uD,gv,cK,cE,aA,gb,bz,dj,ji,j9,gy,dm,gx,List.map_cons,List.map_nil,List.cons_append,List.nil_append,List.replicate_succ,List.replicate_zero,List.set_cons_zero,List.set_cons_succ,Nat.reduceSub,List.length_cons,List.length_nil,Nat.reduceAdd,cX (j:=2) (by decide),hz,div_ii d2,cX (j:=996) (by decide),e]
theorem HS {c:Int} (h:0 ≤ c) (st:ah):∃ g p,PM.gu [.int c] st = .ok (.int p) (st ++ g) ∧ (p = 0 ∨ vz p = true):=by
 have d3:Dz 3:=jj (by decide) (by decide)
 cases hz:c.fmod 3 == 0 with
 | true => exact ⟨[],0,by simp only [PM.gu,bZ,aw,aG,iH,df,cy,dN,cz,e_,gw,gv,cK,cE,aA,bz,dj,gy,dm,List.map_cons,List.map_nil,List.replicate_zero,Nat.reduceSub,List.length_cons,List.length_nil,Nat.reduceAdd,cX (j:=3) (by decide),hz,List.append_nil],.inl rfl⟩
 | false =>
  obtain ⟨g,p,e,hp⟩:=Ec (c:=c.fdiv 3) (by rw [HQ (by decide)]; exact Int.ediv_nonneg h (by decide)) st
  exact ⟨g,p,by simp only [PM.gu,bZ,aw,aG,aB,df,cy,dN,cz,bQ,bg,e_,fS,gv,cK,cE,cF,bf,dz,aA,gb,bz,dj,gy,dm,List.map_cons,List.map_nil,List.cons_append,List.nil_append,List.replicate_zero,Nat.reduceSub,List.length_cons,List.length_nil,Nat.reduceAdd,cX (j:=3) (by decide),hz,div_ii d3,e],.inr hp⟩
end PG
namespace PG
open PySem PySem.Spec L2 MN
open PyProof.Rows hiding St kindOf
end PG
namespace PG
open PySem PySem.Spec L2 MN
open PyProof.Rows hiding St kindOf
theorem at_getD {ns:List Int} {i:Int} (h0:0 ≤ i) (h1:i < (ns.length:Int)):L2.oz (ns.map Val.int) i = some (.int (ns.getD i.toNat 0)):=by
 have hk:i.toNat < ns.length:=by lia
 have e:=L2.rN (xs:=ns.map Val.int) (j:=i.toNat) (v:=.int ns[i.toNat]) (by rw [List.getElem?_map,List.getElem?_eq_getElem hk]; rfl)
 rw [show ((i.toNat:Nat):Int) = i by lia] at e
 rw [e,List.getD_eq_getElem?_getD,List.getElem?_eq_getElem hk]; rfl
end PG
namespace PG
open PySem PySem.Spec L2 MN
open PyProof.Rows hiding St kindOf
end PG
namespace PG
open PySem PySem.Spec L2 MN
open PyProof.Rows hiding St kindOf
end PG
namespace PG
open PySem PySem.Spec L2 MN
open PyProof.Rows hiding St kindOf
end PG
namespace PG
open PySem PySem.Spec L2 MN
open PyProof.Rows hiding St kindOf
end PG
namespace TS
section
variable {α:Type} (le:α → α → Prop)
noncomputable def CA (l:List α):Prop:=l.Pairwise le
structure yJ (Bl out A B:List α):Prop where
 pm:(out ++ (A ++ B)).Perm Bl
 so:CA le out
 sa:CA le A
 sb:CA le B
 oa:∀ x ∈ out,∀ y ∈ A,le x y
 ob:∀ x ∈ out,∀ y ∈ B,le x y
variable {le} {Bl out A B:List α}
theorem yJ.swap (h:yJ le Bl out A B):yJ le Bl out B A :=
 ⟨(List.Perm.append_left _ List.perm_append_comm).trans h.pm,h.so,h.sb,h.sa,h.ob,h.oa⟩
theorem yJ.a {A1 A2:List α} (h:yJ le Bl out (A1 ++ A2) B) (l:∀ x ∈ A1,∀ y ∈ B,le x y):yJ le Bl (out ++ A1) A2 B:=by
 have sa:=List.pairwise_append.mp h.sa
 refine ⟨?_,List.pairwise_append.mpr ⟨h.so,sa.1,fun x hx y hy => h.oa x hx y (List.mem_append_left _ hy)⟩,sa.2.1,h.sb,fun x hx y hy => ?_,fun x hx y hy => ?_⟩
 ·have:=h.pm
  rwa [List.append_assoc,← List.append_assoc out A1] at this
 ·rcases List.mem_append.mp hx with hx | hx
  ·exact h.oa x hx y (List.mem_append_right _ hy)
  ·exact sa.2.2 x hx y hy
 ·rcases List.mem_append.mp hx with hx | hx
  ·exact h.ob x hx y hy
  ·exact l x hx y hy
theorem yJ.b {B1 B2:List α} (h:yJ le Bl out A (B1 ++ B2)) (l:∀ x ∈ B1,∀ y ∈ A,le x y):yJ le Bl (out ++ B1) A B2:=(h.swap.a l).swap
theorem yJ.fin (h:yJ le Bl out A B) (l:∀ x ∈ A,∀ y ∈ B,le x y):(out ++ A ++ B).Perm Bl ∧ CA le (out ++ A ++ B):=by
 refine ⟨by rw [List.append_assoc]; exact h.pm,?_⟩
 rw [List.append_assoc]
 refine List.pairwise_append.mpr ⟨h.so,List.pairwise_append.mpr ⟨h.sa,h.sb,l⟩,fun x hx y hy => ?_⟩
 rcases List.mem_append.mp hy with hy | hy
 ·exact h.oa x hx y hy
 ·exact h.ob x hx y hy
end
section
variable {α:Type} (r:α → Nat)
noncomputable def K (xs:Array α) (i:Nat):Nat:=(xs[i]?).elim 0 r
noncomputable def Up (xs:Array α) (lo hi:Nat):Prop:=∀ i j,lo ≤ i → i < j → j < hi → K r xs i ≤ K r xs j
noncomputable def Dn (xs:Array α) (lo hi:Nat):Prop:=∀ i j,lo ≤ i → i < j → j < hi → K r xs j ≤ K r xs i
noncomputable abbrev Mn:α → α → Prop:=fun x y => r x ≤ r y
noncomputable abbrev Tv:α → α → Prop:=fun x y => r y ≤ r x
noncomputable def part (xs:Array α) (i j:Nat):List α:=(xs.toList.drop i).take (j - i)
variable {r} {xs ys:Array α}
theorem fD {i:Nat} {x:α} (h:xs[i]? = some x):K r xs i = r x:=by unfold K; rw [h]; rfl
theorem jk {i j:Nat} (hj:j ≤ xs.size):(part xs i j).length = j - i:=by
 unfold part; rw [List.length_take,List.length_drop,Array.length_toList]; lia
theorem fN {i j k:Nat}:(part xs i j)[k]? = if k < j - i then xs[i + k]? else none:=by
 unfold part; rw [List.getElem?_take,List.getElem?_drop,Array.getElem?_toList]
theorem bq {i j:Nat} {x:α} (h:x ∈ part xs i j):∃ k,i ≤ k ∧ k < j ∧ xs[k]? = some x:=by
 obtain ⟨k,hk⟩:=List.getElem?_of_mem h
 rw [fN] at hk
 split at hk
 ·exact ⟨i + k,by lia,by lia,hk⟩
 ·cases hk
theorem ck {i j k:Nat} (h1:i ≤ j) (h2:j ≤ k) (hk:k ≤ xs.size):part xs i k = part xs i j ++ part xs j k:=by
 apply List.ext_getElem?
 intro n
 rw [List.getElem?_append,jk (by lia),fN,fN,fN]
 by_cases c:n < j - i
 ·rw [if_pos c,if_pos (by lia),if_pos c]
 ·rw [if_neg c]
  by_cases d:n < k - i
  ·rw [if_pos d,if_pos (by lia)]; congr 1; lia
  ·rw [if_neg d,if_neg (by lia)]
theorem kH {i:Nat} {x:α} (h:xs[i]? = some x):part xs i (i + 1) = [x]:=by
 apply List.ext_getElem?
 intro n
 rw [fN]
 cases n with
 | zero => rw [if_pos (by lia)]; exact h
 | succ n => rw [if_neg (by lia)]; rfl
theorem uK {i j:Nat} (h:j ≤ i):part xs i j = []:=by unfold part; rw [show j - i = 0 by lia]; rfl
theorem d_:part xs 0 xs.size = xs.toList:=by
 unfold part; rw [List.drop_zero,Nat.sub_zero,← Array.length_toList,List.take_length]
theorem aH {i j:Nat}:(xs.extract i j).toList = part xs i j:=by
 rw [Array.toList_extract]
 unfold part
 rw [List.extract_eq_take_drop]
theorem Up.h_ {lo hi:Nat} (h:Up r xs lo hi):CA (Mn r) (part xs lo hi):=by
 unfold CA
 rw [List.pairwise_iff_getElem]
 intro i j h1 h2 F7
 have e1:=List.getElem?_eq_getElem h1
 have e2:=List.getElem?_eq_getElem h2
 rw [fN] at e1 e2
 split at e1
 ·split at e2
  ·have:=h (lo + i) (lo + j) (by lia) (by lia) (by lia)
   rw [fD e1,fD e2] at this
   exact this
  ·cases e2
 ·cases e1
theorem HU {lo hi:Nat} (h:CA (Mn r) (part xs lo hi)) (hz:hi ≤ xs.size):Up r xs lo hi:=by
 intro i j h1 h2 h3
 have q1:i - lo < (part xs lo hi).length:=by rw [jk hz]; lia
 have q2:j - lo < (part xs lo hi).length:=by rw [jk hz]; lia
 have:=(List.pairwise_iff_getElem.mp h) (i - lo) (j - lo) q1 q2 (by lia)
 have e1:=List.getElem?_eq_getElem q1
 have e2:=List.getElem?_eq_getElem q2
 rw [fN,if_pos (by lia),show lo + (i - lo) = i by lia] at e1
 rw [fN,if_pos (by lia),show lo + (j - lo) = j by lia] at e2
 rw [fD e1,fD e2]
 exact this
theorem Up.le {lo hi i j:Nat} (h:Up r xs lo hi) (h1:lo ≤ i) (h2:i ≤ j) (h3:j < hi):K r xs i ≤ K r xs j:=by
 rcases Nat.lt_or_ge i j with q | q
 ·exact h i j h1 q h3
 ·rw [show i = j by lia]; exact Nat.le_refl _
theorem Up.sub {lo hi Tw wZ:Nat} (h:Up r xs lo hi) (h1:lo ≤ Tw) (h2:wZ ≤ hi):Up r xs Tw wZ:=fun i j a b c => h i j (by lia) b (by lia)
theorem Up.rev {lo hi:Nat} (h:Up r xs lo hi):CA (Tv r) (part xs lo hi).reverse:=List.pairwise_reverse.mpr h.h_
theorem uL:∀ (m:List α) (k sa:Nat) (xs:Array α),sa + k + m.length ≤ xs.size →
  ((m.zipIdx k).foldl (fun a (q:α × Nat) => a.setIfInBounds (sa + q.2) q.1) xs).toList = xs.toList.take (sa + k) ++ m ++ xs.toList.drop (sa + k + m.length)
 | [],k,sa,xs,_ => by
  show xs.toList = _
  rw [List.append_nil]; exact (List.take_append_drop _ _).symm
 | x :: m,k,sa,xs,h => by
  rw [List.zipIdx_cons,List.foldl_cons,uL m (k + 1) sa _ (by rw [Array.size_setIfInBounds]; simp only [List.length_cons] at h; lia)]
  simp only [List.length_cons] at h ⊢
  rw [Array.toList_setIfInBounds,← Nat.add_assoc,List.take_set,List.drop_set_of_lt (by lia)]
  have hl:sa + k < xs.toList.length:=by rw [Array.length_toList]; lia
  rw [List.take_succ_eq_append_getElem hl]
  have e:(xs.toList.take (sa + k)).length = sa + k:=by rw [List.length_take]; lia
  rw [List.set_append_right _ _ (by lia),e,Nat.sub_self]
  simp only [List.set_cons_zero,List.append_assoc,List.singleton_append,List.cons_append,List.nil_append]
  rw [show sa + k + 1 + m.length = sa + k + (m.length + 1) by lia]
theorem Bm {m:List α} {sa:Nat} {xs:Array α} (h:sa + m.length ≤ xs.size) :
  ((m.zipIdx).foldl (fun a (q:α × Nat) => a.setIfInBounds (sa + q.2) q.1) xs).toList = xs.toList.take sa ++ m ++ xs.toList.drop (sa + m.length):=uL m 0 sa xs h
theorem yK {i:Nat}:xs.toList.take i = part xs 0 i:=by unfold part; rw [List.drop_zero,Nat.sub_zero]
theorem yL {i:Nat}:xs.toList.drop i = part xs i xs.size:=by
 unfold part
 rw [List.take_of_length_le]
 rw [List.length_drop,Array.length_toList]; exact Nat.le_refl _
end
end TS
namespace TS
open PySem PyProof.Rows
noncomputable def xD:Bool → Keyed → Array Keyed → Nat → Nat → Nat → StateT SortSt Sem (Option Nat):=sortPriv% PySem.Builtin.gallop
noncomputable def uM:Array Keyed → Array Keyed → StateT SortSt Sem (Array Keyed):=sortPriv% PySem.Builtin.mergeLo
noncomputable def uN:Array Keyed → Array Keyed → StateT SortSt Sem (Array Keyed):=sortPriv% PySem.Builtin.mergeHi
section
variable {prog:Program} {w:World} {A:Around} {E:Value → Shared → Prop} {s:Shared} {κ:SortKind} {S:Keyed → Prop} {r:Keyed → Nat} {st:SortSt}
noncomputable def yM (prog:Program) (w:World) (A:Around) (s:Shared) (κ:SortKind) (S:Keyed → Prop) (r:Keyed → Nat):Prop :=
 ∀ (x y:Keyed) (Q:Bool → Shared → Prop),S x → S y → Q (decide (r x < r y)) s → wpAny (model prog w) A (keyLt' κ x.1 y.1) Q (fun _ _ => False) s
theorem KN (C:yM prog w A s κ S r) {x y:Keyed} {Q:Option Bool → SortSt → Prop} (hk:kindOf st = κ) (hx:S x) (hy:S y) (h:Q (some (decide (r x < r y))) st) :
  wpS (model prog w) A E s (lt' x y) Q st:=by
 rw [lt'_eq]
 refine wpS_bind (wpS_get ?_)
 rw [hk]
 refine wpS_bind (wpS_lift (wpAny_attempt (wpAny_mono (C x y (fun c s' => c = decide (r x < r y) ∧ s' = s) hx hy ⟨rfl,rfl⟩) (fun c s' q => ⟨q.2,?_⟩) fun _ _ q => q.elim)))
 rw [q.1]
 exact wpS_pure h
theorem dQ {xs:Array Keyed} {i:Nat} {x:Keyed} {Q:Keyed → SortSt → Prop} (e:xs[i]? = some x) (h:Q x st):wpS (model prog w) A E s (elem' xs i) Q st:=by
 rw [elem'_eq,e]
 exact wpS_pure h
theorem KO (C:yM prog w A s κ S r) {i j:Nat} {x y:Keyed} {Q:Option Bool → SortSt → Prop} (hk:kindOf st = κ) (e1:(arrOf st)[i]? = some x) (e2:(arrOf st)[j]? = some y) (hx:S x) (hy:S y) (h:Q (some (decide (r x < r y))) st) :
  wpS (model prog w) A E s (ltAt' i j) Q st:=by
 rw [ltAt'_eq]
 exact wpS_bind (wpS_get (wpS_bind (dQ e1 (wpS_bind (dQ e2 (KN C hk hx hy h))))))
noncomputable def pX (left:Bool) (k n:Nat):Bool:=if left then decide (n < k) else !(decide (k < n))
theorem Bn {left:Bool} {k n m:Nat} (h:n ≤ m) (hb:pX left k m = true):pX left k n = true:=by
 unfold pX at *
 cases left
 ·simp at hb ⊢; lia
 ·simp at hb ⊢; lia
theorem HV {left:Bool} {k n m:Nat} (h:n ≤ m) (hb:pX left k n = false):pX left k m = false:=by
 cases z:pX left k m with
 | false => rfl
 | true => rw [Bn h z] at hb; cases hb
theorem at_of {xs:Array Keyed} {i:Nat} (h:i < xs.size):∃ x,xs[i]? = some x ∧ x ∈ xs ∧ K r xs i = r x:=⟨xs[i],getElem?_pos xs i h,Array.getElem_mem h,fD (getElem?_pos xs i h)⟩
theorem Om (C:yM prog w A s κ S r) {left:Bool} {key:Keyed} {xs:Array Keyed} {i:Nat} {Q:Option Bool → SortSt → Prop} (hk:kindOf st = κ) (hS:∀ x ∈ xs,S x) (hy:S key) (hi:i < xs.size) (h:Q (some (pX left (r key) (K r xs i))) st) :
  wpS (model prog w) A E s (elem' xs i >>= fun y => if left = true then lt' y key else lt' key y >>= fun c => pure (c.map (!·))) Q st:=by
 obtain ⟨x,e,m,ek⟩:=at_of (r:=r) hi
 rw [ek] at h
 refine wpS_bind (dQ e ?_)
 cases left with
 | true => exact KN C hk (hS x m) hy h
 | false => exact wpS_bind (KN C hk hy (hS x m) (wpS_pure h))
theorem jC (C:yM prog w A s κ S r) {left:Bool} {key:Keyed} {xs:Array Keyed} {base n hint:Nat} {Q:Option Nat → SortSt → Prop} (hk:kindOf st = κ) (hS:∀ x ∈ xs,S x) (hy:S key) (hz:base + n ≤ xs.size) (hh:hint < n) (up:Up r xs base (base + n))
  (h:∀ k,k ≤ n → (∀ i,i < k → pX left (r key) (K r xs (base + i)) = true) → (∀ i,k ≤ i → i < n → pX left (r key) (K r xs (base + i)) = false) → Q (some k) st) :
  wpS (model prog w) A E s (xD left key xs base n hint) Q st:=by
 obtain ⟨b,eb⟩:∃ b:Nat → Bool,∀ i,b i = pX left (r key) (K r xs (base + i)):=⟨_,fun _ => rfl⟩
 have Mo:∀ i j,i ≤ j → j < n → b j = true → b i = true:=fun i j a c d => by
  rw [eb] at d ⊢
  exact Bn (up.le (by lia) (by lia) (by lia)) d
 have Mp:∀ i j,i ≤ j → j < n → b i = false → b j = false:=fun i j a c d => by
  rw [eb] at d ⊢
  exact HV (up.le (by lia) (by lia) (by lia)) d
 have ask:∀ {i:Nat} {Q:Option Bool → SortSt → Prop},i < n → Q (some (b i)) st → wpS (model prog w) A E s (elem' xs (base + i) >>= fun y => if left = true then lt' y key else lt' key y >>= fun c => pure (c.map (!·))) Q st:=by
  intro i Q hi q
  rw [eb] at q
  exact Om C hk hS hy (by lia) q
 simp only [← eb] at h
 unfold xD
 refine wpS_bind (ask hh ?_)
 dsimp only
 cases c:b hint with
 | true =>
  rw [if_pos rfl]
  refine wpS_bind (wpS_mono (wpS_forRange (I:=fun x z av => av = st ∧ ∃ l o,z = (none,l,o) ∧ x + 1 ≤ o ∧ l < o ∧ hint + l < n ∧ b (hint + l) = true) (Q:=fun z av => av = st ∧ ∃ l o,z = (none,l,o) ∧ l < o ∧ hint + l < n ∧ b (hint + l) = true ∧ (o < n - hint → b (hint + o) = false)) ?_ ?_ ⟨rfl,0,1,rfl,by lia,by lia,by lia,c⟩) ?_)
  ·rintro x z av _ hx ⟨e,l,o,rfl,h1,h2,h3,h4⟩
   rw [e]
   dsimp only
   by_cases q:o ≥ n - hint
   ·rw [if_pos q]
    exact wpS_pure ⟨rfl,l,o,rfl,h2,h3,h4,fun z => absurd z (by lia)⟩
   ·rw [if_neg q]
    refine wpS_bind (ask (by lia) ?_)
    dsimp only
    cases d:b (hint + o) with
    | true => exact wpS_pure ⟨rfl,o,2 * o + 1,rfl,by lia,by lia,by lia,d⟩
    | false => exact wpS_pure ⟨rfl,l,o,rfl,h2,h3,h4,fun _ => d⟩
  ·rintro z av ⟨e,l,o,rfl,h1,h2,h3,h4⟩
   exact ⟨e,l,o,rfl,h2,h3,h4,fun z => absurd z (by lia)⟩
  ·rintro z av ⟨e,l,o,rfl,h2,h3,h4,h5⟩
   rw [e]
   dsimp only
   obtain ⟨lo,IK⟩:∃ lo,lo = hint + l + 1:=⟨_,rfl⟩
   obtain ⟨hi,KP⟩:∃ hi,hi = hint + min o (n - hint):=⟨_,rfl⟩
   rw [← IK,← KP]
   have g1:lo ≤ hi:=by lia
   have g2:hi ≤ n:=by lia
   have g3:∀ i,i < lo → b i = true:=fun i q => Mo i (hint + l) (by lia) h3 h4
   have g4:∀ i,hi ≤ i → i < n → b i = false:=fun i q q2 => Mp (hint + o) i (by lia) q2 (h5 (by lia))
   clear IK KP
   refine wpS_bind (wpS_mono (wpS_forRange (I:=fun x z av => av = st ∧ ∃ lo hi,z = (none,lo,hi) ∧ lo ≤ hi ∧ hi ≤ n ∧ hi - lo + x ≤ n ∧ (∀ i,i < lo → b i = true) ∧ ∀ i,hi ≤ i → i < n → b i = false) (Q:=fun z av => av = st ∧ ∃ k,z = (none,k,k) ∧ k ≤ n ∧ (∀ i,i < k → b i = true) ∧ ∀ i,k ≤ i → i < n → b i = false) ?_ ?_ ⟨rfl,lo,hi,rfl,g1,g2,by lia,g3,g4⟩) ?_)
   ·rintro x z av _ hx ⟨e,lo,hi,rfl,h1,h2,h3,h4,h5⟩
    rw [e]
    dsimp only
    by_cases q:lo ≥ hi
    ·rw [if_pos q]
     have:lo = hi:=by lia
     subst this
     exact wpS_pure ⟨rfl,lo,rfl,h2,h4,h5⟩
    ·rw [if_neg q]
     refine wpS_bind (ask (by lia) ?_)
     dsimp only
     cases d:b (lo + (hi - lo) / 2) with
     | true => exact wpS_pure ⟨rfl,_,hi,rfl,by lia,h2,by lia,fun i q => Mo i _ (by lia) (by lia) d,h5⟩
     | false => exact wpS_pure ⟨rfl,lo,_,rfl,by lia,by lia,by lia,h4,fun i q q2 => Mp _ i q q2 d⟩
   ·rintro z av ⟨e,lo,hi,rfl,h1,h2,h3,h4,h5⟩
    have:lo = hi:=by lia
    subst this
    exact ⟨e,lo,rfl,h2,h4,h5⟩
   ·rintro z av ⟨e,k,rfl,h1,h2,h3⟩
    rw [e]
    exact wpS_pure (h k h1 h2 h3)
 | false =>
  rw [if_neg Bool.false_ne_true]
  refine wpS_bind (wpS_mono (wpS_forRange (I:=fun x z av => av = st ∧ ∃ l o,z = (none,l,o) ∧ x + 1 ≤ o ∧ l < o ∧ l ≤ hint ∧ b (hint - l) = false) (Q:=fun z av => av = st ∧ ∃ l o,z = (none,l,o) ∧ l < o ∧ l ≤ hint ∧ b (hint - l) = false ∧ (o < hint + 1 → b (hint - o) = true)) ?_ ?_ ⟨rfl,0,1,rfl,by lia,by lia,by lia,c⟩) ?_)
  ·rintro x z av _ hx ⟨e,l,o,rfl,h1,h2,h3,h4⟩
   rw [e]
   dsimp only
   by_cases q:o ≥ hint + 1
   ·rw [if_pos q]
    exact wpS_pure ⟨rfl,l,o,rfl,h2,h3,h4,fun z => absurd z (by lia)⟩
   ·rw [if_neg q]
    refine wpS_bind (ask (by lia) ?_)
    dsimp only
    cases d:b (hint - o) with
    | true => exact wpS_pure ⟨rfl,l,o,rfl,h2,h3,h4,fun _ => d⟩
    | false => exact wpS_pure ⟨rfl,o,2 * o + 1,rfl,by lia,by lia,by lia,d⟩
  ·rintro z av ⟨e,l,o,rfl,h1,h2,h3,h4⟩
   exact ⟨e,l,o,rfl,h2,h3,h4,fun z => absurd z (by lia)⟩
  ·rintro z av ⟨e,l,o,rfl,h2,h3,h4,h5⟩
   rw [e]
   dsimp only
   obtain ⟨lo,IK⟩:∃ lo,lo = hint + 1 - min o (hint + 1):=⟨_,rfl⟩
   obtain ⟨hi,KP⟩:∃ hi,hi = hint - l:=⟨_,rfl⟩
   rw [← IK,← KP]
   have g1:lo ≤ hi:=by lia
   have g2:hi ≤ n:=by lia
   have g3:∀ i,i < lo → b i = true:=fun i q => Mo i (hint - o) (by lia) (by lia) (h5 (by lia))
   have g4:∀ i,hi ≤ i → i < n → b i = false:=fun i q q2 => Mp (hint - l) i (by lia) q2 h4
   clear IK KP
   refine wpS_bind (wpS_mono (wpS_forRange (I:=fun x z av => av = st ∧ ∃ lo hi,z = (none,lo,hi) ∧ lo ≤ hi ∧ hi ≤ n ∧ hi - lo + x ≤ n ∧ (∀ i,i < lo → b i = true) ∧ ∀ i,hi ≤ i → i < n → b i = false) (Q:=fun z av => av = st ∧ ∃ k,z = (none,k,k) ∧ k ≤ n ∧ (∀ i,i < k → b i = true) ∧ ∀ i,k ≤ i → i < n → b i = false) ?_ ?_ ⟨rfl,lo,hi,rfl,g1,g2,by lia,g3,g4⟩) ?_)
   ·rintro x z av _ hx ⟨e,lo,hi,rfl,h1,h2,h3,h4,h5⟩
    rw [e]
    dsimp only
    by_cases q:lo ≥ hi
    ·rw [if_pos q]
     have:lo = hi:=by lia
     subst this
     exact wpS_pure ⟨rfl,lo,rfl,h2,h4,h5⟩
    ·rw [if_neg q]
     refine wpS_bind (ask (by lia) ?_)
     dsimp only
     cases d:b (lo + (hi - lo) / 2) with
     | true => exact wpS_pure ⟨rfl,_,hi,rfl,by lia,h2,by lia,fun i q => Mo i _ (by lia) (by lia) d,h5⟩
     | false => exact wpS_pure ⟨rfl,lo,_,rfl,by lia,by lia,by lia,h4,fun i q q2 => Mp _ i q q2 d⟩
   ·rintro z av ⟨e,lo,hi,rfl,h1,h2,h3,h4,h5⟩
    have:lo = hi:=by lia
    subst this
    exact ⟨e,lo,rfl,h2,h4,h5⟩
   ·rintro z av ⟨e,k,rfl,h1,h2,h3⟩
    rw [e]
    exact wpS_pure (h k h1 h2 h3)
end
end TS
namespace TS
open PySem PyProof.Rows
section
variable {prog:Program} {w:World} {A:Around} {E:Value → Shared → Prop} {s:Shared} {κ:SortKind} {S:Keyed → Prop} {r:Keyed → Nat} {st:SortSt}
noncomputable abbrev Gs (st:SortSt) (g:Nat):SortSt:=SortSt.mk' (kindOf st) (arrOf st) (pendingOf st) g (failedOf st)
theorem b7 {α:Type} {c:Prop} [Decidable c] {m1 m2:StateT SortSt Sem α} {Q:α → SortSt → Prop} {M:Model} (h1:c → wpS M A E s m1 Q st) (h2:¬c → wpS M A E s m2 Q st):wpS M A E s (if c then m1 else m2) Q st:=by
 by_cases q:c
 ·rw [if_pos q]; exact h1 q
 ·rw [if_neg q]; exact h2 q
theorem bV {α:Type} {x y:Nat} {m1 m2:StateT SortSt Sem α} {Q:α → SortSt → Prop} {M:Model} (h1:x = y → wpS M A E s m1 Q st) (h2:x ≠ y → wpS M A E s m2 Q st):wpS M A E s (if (x == y) = true then m1 else m2) Q st :=
 b7 (fun q => h1 (beq_iff_eq.mp q)) fun q => h2 fun z => q (beq_iff_eq.mpr z)
noncomputable def Good (r:Keyed → Nat) (a b m:Array Keyed):Prop:=m.toList.Perm (a.toList ++ b.toList) ∧ CA (Mn r) m.toList
structure Mm (r:Keyed → Nat) (a b out:Array Keyed) (ia ib:Nat):Prop where
 la:ia ≤ a.size
 lb:ib ≤ b.size
 me:yJ (Mn r) (a.toList ++ b.toList) out.toList (part a ia a.size) (part b ib b.size)
section
variable {a b out:Array Keyed} {ia ib:Nat} (ua:Up r a 0 a.size) (ub:Up r b 0 b.size)
include ua ub
theorem Mm.KQ (h:Mm r a b out ia ib) (k:Nat) (hk:ia + k ≤ a.size) (l:ib < b.size → ∀ i,i < k → K r a (ia + i) ≤ K r b ib):Mm r a b (out ++ a.extract ia (ia + k)) (ia + k) ib:=by
 refine ⟨hk,h.lb,?_⟩
 have m:=h.me
 rw [ck (i:=ia) (j:=ia + k) (by lia) hk (Nat.le_refl _)] at m
 rw [Array.toList_append,aH]
 refine m.a fun x hx y hy => ?_
 obtain ⟨i,i1,i2,i3⟩:=bq hx
 obtain ⟨j,j1,j2,j3⟩:=bq hy
 show r x ≤ r y
 rw [← fD (r:=r) i3,← fD (r:=r) j3]
 have:=l (by lia) (i - ia) (by lia)
 rw [show ia + (i - ia) = i by lia] at this
 exact Nat.le_trans this (ub.le (Nat.zero_le _) j1 j2)
theorem Mm.KR (h:Mm r a b out ia ib) (k:Nat) (hk:ib + k ≤ b.size) (l:ia < a.size → ∀ i,i < k → K r b (ib + i) ≤ K r a ia):Mm r a b (out ++ b.extract ib (ib + k)) ia (ib + k):=by
 refine ⟨h.la,hk,?_⟩
 have m:=h.me
 rw [ck (i:=ib) (j:=ib + k) (by lia) hk (Nat.le_refl _)] at m
 rw [Array.toList_append,aH]
 refine m.b fun x hx y hy => ?_
 obtain ⟨i,i1,i2,i3⟩:=bq hx
 obtain ⟨j,j1,j2,j3⟩:=bq hy
 show r x ≤ r y
 rw [← fD (r:=r) i3,← fD (r:=r) j3]
 have:=l (by lia) (i - ib) (by lia)
 rw [show ib + (i - ib) = i by lia] at this
 exact Nat.le_trans this (ua.le (Nat.zero_le _) j1 j2)
theorem Mm.a1 (h:Mm r a b out ia ib) {x:Keyed} (e:a[ia]? = some x) (l:ib < b.size → r x ≤ K r b ib):Mm r a b (out.push x) (ia + 1) ib:=by
 have hz:ia < a.size:=(Array.getElem?_eq_some_iff.mp e).1
 have q:=h.KQ ua ub 1 hz fun z i hi => by
  rw [show ia + i = ia by lia,fD e]; exact l z
 have:(out ++ a.extract ia (ia + 1)) = out.push x:=by
  apply Array.toList_inj.mp
  rw [Array.toList_append,aH,kH e,Array.toList_push]
 rwa [this] at q
theorem Mm.b1 (h:Mm r a b out ia ib) {x:Keyed} (e:b[ib]? = some x) (l:ia < a.size → r x ≤ K r a ia):Mm r a b (out.push x) ia (ib + 1):=by
 have hz:ib < b.size:=(Array.getElem?_eq_some_iff.mp e).1
 have q:=h.KR ua ub 1 hz fun z i hi => by
  rw [show ib + i = ib by lia,fD e]; exact l z
 have:(out ++ b.extract ib (ib + 1)) = out.push x:=by
  apply Array.toList_inj.mp
  rw [Array.toList_append,aH,kH e,Array.toList_push]
 rwa [this] at q
omit ua ub in
theorem Mm.done (h:Mm r a b out ia ib) (l:ia = a.size ∨ ib = b.size):Good r a b (out ++ a.extract ia ++ b.extract ib):=by
 unfold Good
 rw [Array.toList_append,Array.toList_append,aH,aH]
 refine h.me.fin fun x hx y hy => ?_
 obtain ⟨i,i1,i2,i3⟩:=bq hx
 obtain ⟨j,j1,j2,j3⟩:=bq hy
 lia
omit ua in
theorem Mm.last (h:Mm r a b out ia ib) (l:ia + 1 = a.size) (hl:K r b (b.size - 1) ≤ K r a (a.size - 1)):Good r a b (out ++ b.extract ib ++ a.extract ia):=by
 unfold Good
 rw [Array.toList_append,Array.toList_append,aH,aH]
 refine h.me.swap.fin fun x hx y hy => ?_
 obtain ⟨i,i1,i2,i3⟩:=bq hx
 obtain ⟨j,j1,j2,j3⟩:=bq hy
 show r x ≤ r y
 rw [← fD (r:=r) i3,← fD (r:=r) j3,show j = a.size - 1 by lia]
 exact Nat.le_trans (ub.le (Nat.zero_le _) (by lia) (by lia)) hl
end
theorem Bo (C:yM prog w A s κ S r) {a b:Array Keyed} {Q:Array Keyed → SortSt → Prop} (hk:kindOf st = κ) (HW:∀ x ∈ a,S x) (HX:∀ x ∈ b,S x) (ua:Up r a 0 a.size) (ub:Up r b 0 b.size) (ha:1 ≤ a.size) (hb:1 ≤ b.size)
  (h0:K r b 0 ≤ K r a 0) (hl:K r b (b.size - 1) ≤ K r a (a.size - 1)) (h:∀ m g,Good r a b m → Q m (Gs st g)) :
  wpS (model prog w) A E s (uM a b) Q st:=by
 unfold uM
 refine wpS_bind (wpS_lift (wpAny_rule ⟨rfl,?_⟩))
 obtain ⟨y0,e0,m0,k0⟩:=at_of (r:=r) (xs:=b) (i:=0) (by lia)
 refine wpS_bind (dQ e0 ?_)
 dsimp only
 have M0:Mm r a b #[] 0 0:=⟨Nat.zero_le _,Nat.zero_le _,by
  rw [d_,d_]
  exact ⟨List.Perm.refl _,List.Pairwise.nil,by rw [← d_]; exact ua.h_,by rw [← d_]; exact ub.h_,(by intro _ m; cases m),(by intro _ m; cases m)⟩⟩
 have M1:Mm r a b #[y0] 0 1:=M0.b1 ua ub e0 fun _ => by rw [← k0]; exact h0
 refine bV (fun q => wpS_pure (h _ (gallopOf st) (M1.done (.inr q)))) fun q1 => ?_
 refine bV (fun q => wpS_pure (h _ (gallopOf st) (M1.last ub q hl))) fun q2 => ?_
 refine wpS_bind (wpS_get ?_)
 refine wpS_bind (wpS_mono (wpS_forRange (I:=fun x z av => (∃ g,av = Gs st g) ∧ ∃ out ia ib mg,z = (none,out,ia,ib,mg) ∧ Mm r a b out ia ib ∧ ia + 1 < a.size ∧ ib < b.size ∧ x < ia + ib)
  (Q:=fun z av => (∃ g,av = Gs st g) ∧ ∃ m y,z = (some m,y) ∧ Good r a b m) ?_ ?_ ⟨⟨gallopOf st,rfl⟩,_,0,1,_,rfl,M1,by lia,by lia,by lia⟩) ?_)
 ·rintro x z av _ hx ⟨⟨g,e⟩,out,ia,ib,mg,rfl,m,l1,l2,l3⟩
  dsimp only
  refine wpS_bind (wpS_mono (wpS_forRange (I:=fun x' z av => (∃ g,av = Gs st g) ∧ ∃ out nv oj c1 c2,z = (none,out,nv,oj,c1,c2) ∧ Mm r a b out nv oj ∧ nv + 1 < a.size ∧ oj < b.size ∧ ia + ib + x' ≤ nv + oj)
   (Q:=fun z av => (∃ g,av = Gs st g) ∧ ((∃ m y,z = (some m,y) ∧ Good r a b m) ∨ ∃ out nv oj c1 c2,z = (none,out,nv,oj,c1,c2) ∧ Mm r a b out nv oj ∧ nv + 1 < a.size ∧ oj < b.size ∧ ia + ib + 1 ≤ nv + oj)) ?_ ?_ ⟨⟨g,e⟩,out,ia,ib,0,0,rfl,m,l1,l2,by lia⟩) ?_)
  ·rintro x' z cI _ Jo ⟨⟨g,e⟩,out,nv,oj,c1,c2,rfl,m,l1,l2,l3⟩
   dsimp only
   obtain ⟨y,ey,my,ky⟩:=at_of (r:=r) l2
   obtain ⟨z,ez,mz,kz⟩:=at_of (r:=r) (xs:=a) (i:=nv) (by lia)
   have Oo:kindOf cI = κ:=by rw [e]; exact hk
   refine wpS_bind (dQ ey (wpS_bind (dQ ez (wpS_bind (KN C Oo (HX y my) (HW z mz) ?_)))))
   dsimp only
   refine b7 (fun q => ?_) fun q => ?_
   ·have m2:=m.b1 ua ub ey fun _ => by rw [kz]; have:=of_decide_eq_true q; lia
    refine wpS_bind (dQ ey ?_)
    refine bV (fun q => wpS_pure ⟨⟨g,e⟩,.inl ⟨_,_,rfl,m2.done (.inr q)⟩⟩) fun q3 => ?_
    exact b7 (fun q => wpS_pure ⟨⟨g,e⟩,.inr ⟨_,_,_,_,_,rfl,m2,l1,by lia,by lia⟩⟩) fun q => wpS_pure ⟨⟨g,e⟩,_,_,_,_,_,rfl,m2,l1,by lia,by lia⟩
   ·have m2:=m.a1 ua ub ez fun _ => by rw [ky]; have:=of_decide_eq_false (by simpa using q:decide (r y < r z) = false); lia
    refine wpS_bind (dQ ez ?_)
    refine bV (fun q => wpS_pure ⟨⟨g,e⟩,.inl ⟨_,_,rfl,m2.last ub q hl⟩⟩) fun q3 => ?_
    exact b7 (fun q => wpS_pure ⟨⟨g,e⟩,.inr ⟨_,_,_,_,_,rfl,m2,by lia,l2,by lia⟩⟩) fun q => wpS_pure ⟨⟨g,e⟩,_,_,_,_,_,rfl,m2,by lia,l2,by lia⟩
  ·rintro z cI ⟨e,out,nv,oj,c1,c2,rfl,m,l1,l2,l3⟩
   exact ⟨e,.inr ⟨out,nv,oj,c1,c2,rfl,m,l1,l2,by lia⟩⟩
  ·rintro z cI ⟨e,⟨m,y,rfl,gd⟩ | ⟨out,HY,Tx,c1,c2,rfl,m,l1,l2,l4⟩⟩
   ·exact wpS_pure ⟨e,_,_,rfl,gd⟩
   ·dsimp only
    refine wpS_bind (wpS_lift (wpAny_rule ⟨rfl,?_⟩))
    refine wpS_bind (wpS_mono (wpS_forRange (I:=fun x' z av => (∃ g,av = Gs st g) ∧ ∃ out nv oj mg c1 c2,z = (none,out,nv,oj,mg,c1,c2) ∧ Mm r a b out nv oj ∧ nv + 1 < a.size ∧ oj < b.size ∧ ia + ib + 1 ≤ nv + oj)
     (Q:=fun z av => (∃ g,av = Gs st g) ∧ ((∃ m y,z = (some m,y) ∧ Good r a b m) ∨ ∃ out nv oj mg c1 c2,z = (none,out,nv,oj,mg,c1,c2) ∧ Mm r a b out nv oj ∧ nv + 1 < a.size ∧ oj < b.size ∧ ia + ib + 1 ≤ nv + oj)) ?_ ?_ ⟨e,out,HY,Tx,_,c1,c2,rfl,m,l1,l2,by lia⟩) ?_)
    ·rintro x' z lu _ Jo ⟨⟨g,e⟩,out,ia,ib,mg,c1,c2,rfl,m,l1,l2,l3⟩
     dsimp only
     obtain ⟨y,ey,my,ky⟩:=at_of (r:=r) l2
     have HZ:∀ (mg:Nat) {Q:PUnit → SortSt → Prop},Q ⟨⟩ (Gs st mg) → wpS (model prog w) A E s (modify fun s:SortSt => Gs s mg) Q lu:=by
      intro mg Q q
      refine wpS_modify ?_
      rw [e]; exact q
     refine b7 (fun qg => ?_) fun qg => ?_
     all_goals
      refine wpS_bind (HZ _ ?_)
      refine wpS_bind (dQ ey (wpS_bind (jC C hk HW (HX y my) (by lia) (by lia) (ua.sub (by lia) (by lia)) fun k k1 k2 k3 => ?_)))
      dsimp only
      have mk:=m.KQ ua ub k (by lia) fun _ i hi => by
       have:=k2 i hi
       unfold pX at this
       simp only [Bool.false_eq_true,if_false,Bool.not_eq_true',decide_eq_false_iff_not] at this
       lia
      have nx:ia + k < a.size → r y ≤ K r a (ia + k):=fun z => by
       have:=k3 k (Nat.le_refl _) (by lia)
       unfold pX at this
       simp only [Bool.false_eq_true,if_false,Bool.not_eq_false',decide_eq_true_eq] at this
       lia
      refine b7 (fun qk => bV (fun q => wpS_pure ⟨⟨_,rfl⟩,.inl ⟨_,_,rfl,mk.last ub q hl⟩⟩) fun q1 => bV (fun q => wpS_pure ⟨⟨_,rfl⟩,.inl ⟨_,_,rfl,mk.done (.inl q)⟩⟩) fun q2 => ?_) fun qk => ?_
      obtain ⟨H9,eo⟩:∃ z,z = out ++ a.extract ia (ia + k):=⟨_,rfl⟩
      obtain ⟨HY,ei⟩:∃ z,z = ia + k:=⟨_,rfl⟩
      rw [← eo,← ei]
      rw [← eo,← ei] at mk
      rw [← ei] at nx
      have l4:HY + 1 < a.size:=by lia
      rotate_left
      have k0:k = 0:=by lia
      subst k0
      obtain ⟨H9,eo⟩:∃ z,z = out:=⟨_,rfl⟩
      obtain ⟨HY,ei⟩:∃ z,z = ia:=⟨_,rfl⟩
      replace mk:Mm r a b out ia ib:=m
      rw [Nat.add_zero,← ei] at nx
      rw [← eo,← ei] at mk ⊢
      have l4:HY + 1 < a.size:=by lia
      all_goals
       have m2:=mk.b1 ua ub ey nx
       refine wpS_bind (dQ ey ?_)
       refine bV (fun q => wpS_pure ⟨⟨_,rfl⟩,.inl ⟨_,_,rfl,m2.done (.inr q)⟩⟩) fun q3 => ?_
       obtain ⟨x1,ex,mx,kx⟩:=at_of (r:=r) (xs:=a) (i:=HY) (by lia)
       refine wpS_bind (dQ ex (wpS_bind (jC C hk HX (HW x1 mx) (by lia) (by lia) (ub.sub (by lia) (by lia)) fun j j1 j2 j3 => ?_)))
       dsimp only
       have mj:=m2.KR ua ub j (by lia) fun _ i hi => by
        have:=j2 i hi
        unfold pX at this
        simp only [if_true,decide_eq_true_eq] at this
        lia
       have nj:ib + 1 + j < b.size → r x1 ≤ K r b (ib + 1 + j):=fun z => by
        have:=j3 j (Nat.le_refl _) (by lia)
        unfold pX at this
        simp only [if_true,decide_eq_false_iff_not] at this
        lia
       refine b7 (fun qj => bV (fun q => wpS_pure ⟨⟨_,rfl⟩,.inl ⟨_,_,rfl,mj.done (.inr q)⟩⟩) fun q4 => ?_) fun qj => ?_
       obtain ⟨Oq,ej⟩:∃ z,z = ib + 1 + j:=⟨_,rfl⟩
       rw [← ej] at mj nj ⊢
       have l5:Oq < b.size:=by lia
       rotate_left
       have j0:j = 0:=by lia
       subst j0
       replace mj:=m2
       obtain ⟨Oq,ej⟩:∃ z,z = ib + 1:=⟨_,rfl⟩
       rw [Nat.add_zero,← ej] at nj
       rw [← ej] at mj ⊢
       have l5:Oq < b.size:=by lia
       all_goals
        have m3:=mj.a1 ua ub ex nj
        refine wpS_bind (dQ ex ?_)
        refine bV (fun q => wpS_pure ⟨⟨_,rfl⟩,.inl ⟨_,_,rfl,m3.last ub q hl⟩⟩) fun q5 => ?_
        exact b7 (fun q => wpS_pure ⟨⟨_,rfl⟩,.inr ⟨_,_,_,_,_,_,rfl,m3,by lia,by lia,by lia⟩⟩) fun q => wpS_pure ⟨⟨_,rfl⟩,_,_,_,_,_,_,rfl,m3,by lia,by lia,by lia⟩
    ·rintro z lu ⟨e,out,nv,oj,mg,c1,c2,rfl,m,l1,l2,l3⟩
     exact ⟨e,.inr ⟨out,nv,oj,mg,c1,c2,rfl,m,l1,l2,l3⟩⟩
    ·rintro z lu ⟨⟨g,e⟩,⟨m,y,rfl,gd⟩ | ⟨out,HY,Tx,mg,c1,c2,rfl,m,l1,l2,l4⟩⟩
     ·exact wpS_pure ⟨⟨g,e⟩,_,_,rfl,gd⟩
     ·dsimp only
      refine wpS_bind (wpS_modify (wpS_pure ⟨⟨mg + 1,?_⟩,_,_,_,_,rfl,m,l1,l2,by lia⟩))
      rw [e]
 ·rintro z av ⟨e,out,ia,ib,mg,rfl,m,l1,l2,l3⟩
  lia
 ·rintro z av ⟨⟨g,e⟩,m,y,rfl,gd⟩
  rw [e]
  exact wpS_pure (h m g gd)
end
end TS
namespace TS
open PySem PyProof.Rows
section
variable {prog:Program} {w:World} {A:Around} {E:Value → Shared → Prop} {s:Shared} {κ:SortKind} {S:Keyed → Prop} {r:Keyed → Nat} {st:SortSt}
structure Mh (r:Keyed → Nat) (a b out:Array Keyed) (na nb:Nat):Prop where
 la:na ≤ a.size
 lb:nb ≤ b.size
 me:yJ (Tv r) (a.toList ++ b.toList) out.toList (part a 0 na).reverse (part b 0 nb).reverse
section
variable {a b out:Array Keyed} {na nb:Nat} (ua:Up r a 0 a.size) (ub:Up r b 0 b.size)
include ua ub
theorem Mh.KQ (h:Mh r a b out na nb) {k:Nat} (hk:k ≤ na) (l:0 < nb → ∀ i,k ≤ i → i < na → K r b (nb - 1) ≤ K r a i):Mh r a b (out ++ (a.extract k na).reverse) k nb:=by
 have la:=h.la
 have lb:=h.lb
 refine ⟨by lia,h.lb,?_⟩
 have m:=h.me
 rw [ck (i:=0) (j:=k) (by lia) hk h.la,List.reverse_append] at m
 rw [Array.toList_append,Array.toList_reverse,aH]
 refine m.a fun x hx y hy => ?_
 obtain ⟨i,i1,i2,i3⟩:=bq (List.mem_reverse.mp hx)
 obtain ⟨j,j1,j2,j3⟩:=bq (List.mem_reverse.mp hy)
 show r y ≤ r x
 rw [← fD (r:=r) i3,← fD (r:=r) j3]
 exact Nat.le_trans (ub.le (Nat.zero_le _) (by lia) (by lia)) (l (by lia) i i1 i2)
theorem Mh.KR (h:Mh r a b out na nb) {k:Nat} (hk:k ≤ nb) (l:0 < na → ∀ i,k ≤ i → i < nb → K r a (na - 1) ≤ K r b i):Mh r a b (out ++ (b.extract k nb).reverse) na k:=by
 have la:=h.la
 have lb:=h.lb
 refine ⟨h.la,by lia,?_⟩
 have m:=h.me
 rw [ck (i:=0) (j:=k) (by lia) hk h.lb,List.reverse_append] at m
 rw [Array.toList_append,Array.toList_reverse,aH]
 refine m.b fun x hx y hy => ?_
 obtain ⟨i,i1,i2,i3⟩:=bq (List.mem_reverse.mp hx)
 obtain ⟨j,j1,j2,j3⟩:=bq (List.mem_reverse.mp hy)
 show r y ≤ r x
 rw [← fD (r:=r) i3,← fD (r:=r) j3]
 exact Nat.le_trans (ua.le (Nat.zero_le _) (by lia) (by lia)) (l (by lia) i i1 i2)
theorem Mh.a1 (h:Mh r a b out na nb) (hn:0 < na) {x:Keyed} (e:a[na - 1]? = some x) (l:0 < nb → K r b (nb - 1) ≤ r x):Mh r a b (out.push x) (na - 1) nb:=by
 have q:=h.KQ ua ub (k:=na - 1) (by lia) fun z i i1 i2 => by
  rw [show i = na - 1 by lia,fD e]; exact l z
 have:(out ++ (a.extract (na - 1) na).reverse) = out.push x:=by
  apply Array.toList_inj.mp
  have e2:=kH e
  rw [show na - 1 + 1 = na by lia] at e2
  rw [Array.toList_append,Array.toList_reverse,aH,e2,Array.toList_push,List.reverse_singleton]
 rwa [this] at q
theorem Mh.b1 (h:Mh r a b out na nb) (hn:0 < nb) {x:Keyed} (e:b[nb - 1]? = some x) (l:0 < na → K r a (na - 1) ≤ r x):Mh r a b (out.push x) na (nb - 1):=by
 have q:=h.KR ua ub (k:=nb - 1) (by lia) fun z i i1 i2 => by
  rw [show i = nb - 1 by lia,fD e]; exact l z
 have:(out ++ (b.extract (nb - 1) nb).reverse) = out.push x:=by
  apply Array.toList_inj.mp
  have e2:=kH e
  rw [show nb - 1 + 1 = nb by lia] at e2
  rw [Array.toList_append,Array.toList_reverse,aH,e2,Array.toList_push,List.reverse_singleton]
 rwa [this] at q
omit ua ub in
theorem Mh.done (h:Mh r a b out na nb) (l:na = 0 ∨ nb = 0):Good r a b (a.extract 0 na ++ b.extract 0 nb ++ out.reverse):=by
 unfold Good
 rw [Array.toList_append,Array.toList_append,Array.toList_reverse,aH,aH]
 have f:=h.me.fin fun x hx y hy => by
  obtain ⟨i,i1,i2,i3⟩:=bq (List.mem_reverse.mp hx)
  obtain ⟨j,j1,j2,j3⟩:=bq (List.mem_reverse.mp hy)
  lia
 have e:part a 0 na ++ part b 0 nb ++ out.toList.reverse = (out.toList ++ (part a 0 na).reverse ++ (part b 0 nb).reverse).reverse:=by
  rw [List.reverse_append,List.reverse_append,List.reverse_reverse,List.reverse_reverse,← List.append_assoc]
  rcases l with z | z
  ·rw [z,uK (Nat.le_refl _),List.append_nil,List.nil_append]
  ·rw [z,uK (Nat.le_refl _),List.append_nil,List.nil_append]
 rw [e]
 exact ⟨(List.reverse_perm _).trans f.1,List.pairwise_reverse.mpr f.2⟩
omit ub in
theorem Mh.first (h:Mh r a b out na nb) (l:nb = 1) (h0:K r b 0 ≤ K r a 0):Good r a b (b.extract 0 nb ++ a.extract 0 na ++ out.reverse):=by
 have la:=h.la
 unfold Good
 rw [Array.toList_append,Array.toList_append,Array.toList_reverse,aH,aH]
 have f:=h.me.fin fun x hx y hy => by
  obtain ⟨i,i1,i2,i3⟩:=bq (List.mem_reverse.mp hx)
  obtain ⟨j,j1,j2,j3⟩:=bq (List.mem_reverse.mp hy)
  show r y ≤ r x
  rw [← fD (r:=r) i3,← fD (r:=r) j3,show j = 0 by lia]
  exact Nat.le_trans h0 (ua.le (Nat.le_refl _) (Nat.zero_le _) (by lia))
 have e:part b 0 nb ++ part a 0 na ++ out.toList.reverse = (out.toList ++ (part a 0 na).reverse ++ (part b 0 nb).reverse).reverse:=by
  rw [List.reverse_append,List.reverse_append,List.reverse_reverse,List.reverse_reverse,← List.append_assoc]
 rw [e]
 exact ⟨(List.reverse_perm _).trans f.1,List.pairwise_reverse.mpr f.2⟩
end
theorem Bp (C:yM prog w A s κ S r) {a b:Array Keyed} {Q:Array Keyed → SortSt → Prop} (hk:kindOf st = κ) (HW:∀ x ∈ a,S x) (HX:∀ x ∈ b,S x) (ua:Up r a 0 a.size) (ub:Up r b 0 b.size) (ha:1 ≤ a.size) (hb:1 ≤ b.size)
  (h0:K r b 0 ≤ K r a 0) (hl:K r b (b.size - 1) ≤ K r a (a.size - 1)) (h:∀ m g,Good r a b m → Q m (Gs st g)) :
  wpS (model prog w) A E s (uN a b) Q st:=by
 unfold uN
 refine wpS_bind (wpS_lift (wpAny_rule ⟨rfl,?_⟩))
 obtain ⟨y0,e0,m0,k0⟩:=at_of (r:=r) (xs:=a) (i:=a.size - 1) (by lia)
 refine wpS_bind (dQ e0 ?_)
 dsimp only
 have M0:Mh r a b #[] a.size b.size:=⟨Nat.le_refl _,Nat.le_refl _,by
  rw [d_,d_]
  exact ⟨(List.reverse_perm _).append (List.reverse_perm _),List.Pairwise.nil,by rw [← d_]; exact ua.rev,by rw [← d_]; exact ub.rev,(by intro _ m; cases m),(by intro _ m; cases m)⟩⟩
 have M1:Mh r a b #[y0] (a.size - 1) b.size:=M0.a1 ua ub (by lia) e0 fun _ => by rw [← k0]; exact hl
 refine bV (fun q => wpS_pure (h _ (gallopOf st) (M1.done (.inl q)))) fun q1 => ?_
 refine bV (fun q => wpS_pure (h _ (gallopOf st) (M1.first ua q h0))) fun q2 => ?_
 refine wpS_bind (wpS_get ?_)
 refine wpS_bind (wpS_mono (wpS_forRange (I:=fun x z av => (∃ g,av = Gs st g) ∧ ∃ na nb out mg,z = (none,na,nb,out,mg) ∧ Mh r a b out na nb ∧ 0 < na ∧ 1 < nb ∧ x + na + nb < a.size + b.size)
  (Q:=fun z av => (∃ g,av = Gs st g) ∧ ∃ m y,z = (some m,y) ∧ Good r a b m) ?_ ?_ ⟨⟨gallopOf st,rfl⟩,_,_,_,_,rfl,M1,by lia,by lia,by lia⟩) ?_)
 ·rintro x z av _ hx ⟨⟨g,e⟩,na,nb,out,mg,rfl,m,l1,l2,l3⟩
  dsimp only
  refine wpS_bind (wpS_mono (wpS_forRange (I:=fun x' z av => (∃ g,av = Gs st g) ∧ ∃ ny nA out c1 c2,z = (none,ny,nA,out,c1,c2) ∧ Mh r a b out ny nA ∧ 0 < ny ∧ 1 < nA ∧ ny + nA + x' ≤ na + nb)
   (Q:=fun z av => (∃ g,av = Gs st g) ∧ ((∃ m y,z = (some m,y) ∧ Good r a b m) ∨ ∃ ny nA out c1 c2,z = (none,ny,nA,out,c1,c2) ∧ Mh r a b out ny nA ∧ 0 < ny ∧ 1 < nA ∧ ny + nA + 1 ≤ na + nb)) ?_ ?_ ⟨⟨g,e⟩,na,nb,out,0,0,rfl,m,l1,l2,by lia⟩) ?_)
  ·rintro x' z cI _ Jo ⟨⟨g,e⟩,ny,nA,out,c1,c2,rfl,m,l1,l2,l3⟩
   dsimp only
   have ma:=m.la
   have mb:=m.lb
   obtain ⟨y,ey,my,ky⟩:=at_of (r:=r) (xs:=b) (i:=nA - 1) (by lia)
   obtain ⟨z,ez,mz,kz⟩:=at_of (r:=r) (xs:=a) (i:=ny - 1) (by lia)
   have Oo:kindOf cI = κ:=by rw [e]; exact hk
   refine wpS_bind (dQ ey (wpS_bind (dQ ez (wpS_bind (KN C Oo (HX y my) (HW z mz) ?_)))))
   dsimp only
   refine b7 (fun q => ?_) fun q => ?_
   ·have m2:=m.a1 ua ub l1 ez fun _ => by rw [ky]; have:=of_decide_eq_true q; lia
    refine wpS_bind (dQ ez ?_)
    refine bV (fun q => wpS_pure ⟨⟨g,e⟩,.inl ⟨_,_,rfl,m2.done (.inl q)⟩⟩) fun q3 => ?_
    exact b7 (fun q => wpS_pure ⟨⟨g,e⟩,.inr ⟨_,_,_,_,_,rfl,m2,by lia,l2,by lia⟩⟩) fun q => wpS_pure ⟨⟨g,e⟩,_,_,_,_,_,rfl,m2,by lia,l2,by lia⟩
   ·have m2:=m.b1 ua ub (by lia) ey fun _ => by rw [kz]; have:=of_decide_eq_false (by simpa using q:decide (r y < r z) = false); lia
    refine wpS_bind (dQ ey ?_)
    refine bV (fun q => wpS_pure ⟨⟨g,e⟩,.inl ⟨_,_,rfl,m2.first ua q h0⟩⟩) fun q3 => ?_
    exact b7 (fun q => wpS_pure ⟨⟨g,e⟩,.inr ⟨_,_,_,_,_,rfl,m2,l1,by lia,by lia⟩⟩) fun q => wpS_pure ⟨⟨g,e⟩,_,_,_,_,_,rfl,m2,l1,by lia,by lia⟩
  ·rintro z cI ⟨e,ny,nA,out,c1,c2,rfl,m,l1,l2,l3⟩
   exact ⟨e,.inr ⟨ny,nA,out,c1,c2,rfl,m,l1,l2,by lia⟩⟩
  ·rintro z cI ⟨e,⟨m,y,rfl,gd⟩ | ⟨Tz,TB,out,c1,c2,rfl,m,l1,l2,l4⟩⟩
   ·exact wpS_pure ⟨e,_,_,rfl,gd⟩
   ·dsimp only
    refine wpS_bind (wpS_lift (wpAny_rule ⟨rfl,?_⟩))
    refine wpS_bind (wpS_mono (wpS_forRange (I:=fun x' z av => (∃ g,av = Gs st g) ∧ ∃ ny nA out mg c1 c2,z = (none,ny,nA,out,mg,c1,c2) ∧ Mh r a b out ny nA ∧ 0 < ny ∧ 1 < nA ∧ ny + nA + 1 ≤ na + nb)
     (Q:=fun z av => (∃ g,av = Gs st g) ∧ ((∃ m y,z = (some m,y) ∧ Good r a b m) ∨ ∃ ny nA out mg c1 c2,z = (none,ny,nA,out,mg,c1,c2) ∧ Mh r a b out ny nA ∧ 0 < ny ∧ 1 < nA ∧ ny + nA + 1 ≤ na + nb)) ?_ ?_ ⟨e,Tz,TB,out,_,c1,c2,rfl,m,l1,l2,by lia⟩) ?_)
    ·rintro x' z lu _ Jo ⟨⟨g,e⟩,na,nb,out,mg,c1,c2,rfl,m,l1,l2,l3⟩
     dsimp only
     have ma:=m.la
     have mb:=m.lb
     obtain ⟨y,ey,my,ky⟩:=at_of (r:=r) (xs:=b) (i:=nb - 1) (by lia)
     have HZ:∀ (mg:Nat) {Q:PUnit → SortSt → Prop},Q ⟨⟩ (Gs st mg) → wpS (model prog w) A E s (modify fun s:SortSt => Gs s mg) Q lu:=by
      intro mg Q q
      refine wpS_modify ?_
      rw [e]; exact q
     refine b7 (fun qg => ?_) fun qg => ?_
     all_goals
      refine wpS_bind (HZ _ ?_)
      refine wpS_bind (dQ ey (wpS_bind (jC C hk HW (HX y my) (by lia) (by lia) (ua.sub (by lia) (by lia)) fun k k1 k2 k3 => ?_)))
      dsimp only
      simp only [Nat.zero_add] at k2 k3
      have mk:=m.KQ ua ub k1 fun _ i i1 i2 => by
       have:=k3 i i1 i2
       unfold pX at this
       simp only [Bool.false_eq_true,if_false,Bool.not_eq_false',decide_eq_true_eq] at this
       lia
      have nx:0 < k → K r a (k - 1) ≤ r y:=fun z => by
       have:=k2 (k - 1) (by lia)
       unfold pX at this
       simp only [Bool.false_eq_true,if_false,Bool.not_eq_true',decide_eq_false_iff_not] at this
       lia
      refine b7 (fun qk => bV (fun q => wpS_pure ⟨⟨_,rfl⟩,.inl ⟨_,_,rfl,mk.done (.inl q)⟩⟩) fun q2 => ?_) fun qk => ?_
      obtain ⟨H9,eo⟩:∃ z,z = out ++ (a.extract k na).reverse:=⟨_,rfl⟩
      rw [← eo] at mk ⊢
      rotate_left
      have k0:k = na:=by lia
      subst k0
      obtain ⟨H9,eo⟩:∃ z,z = out:=⟨_,rfl⟩
      replace mk:=m
      rw [← eo] at mk ⊢
      all_goals
       have kp:0 < k:=by lia
       have m2:=mk.b1 ua ub (by lia) ey nx
       refine wpS_bind (dQ ey ?_)
       refine bV (fun q => wpS_pure ⟨⟨_,rfl⟩,.inl ⟨_,_,rfl,m2.first ua q h0⟩⟩) fun q3 => ?_
       obtain ⟨x1,ex,mx,kx⟩:=at_of (r:=r) (xs:=a) (i:=k - 1) (by lia)
       refine wpS_bind (dQ ex (wpS_bind (jC C hk HX (HW x1 mx) (by lia) (by lia) (ub.sub (by lia) (by lia)) fun j j1 j2 j3 => ?_)))
       dsimp only
       simp only [Nat.zero_add] at j2 j3
       have mj:=m2.KR ua ub j1 fun _ i i1 i2 => by
        have:=j3 i i1 i2
        unfold pX at this
        simp only [if_true,decide_eq_false_iff_not] at this
        lia
       have nj:0 < j → K r b (j - 1) ≤ r x1:=fun z => by
        have:=j2 (j - 1) (by lia)
        unfold pX at this
        simp only [if_true,decide_eq_true_eq] at this
        lia
       refine b7 (fun qj => bV (fun q => wpS_pure ⟨⟨_,rfl⟩,.inl ⟨_,_,rfl,mj.first ua q h0⟩⟩) fun q4 => bV (fun q => wpS_pure ⟨⟨_,rfl⟩,.inl ⟨_,_,rfl,mj.done (.inr q)⟩⟩) fun q5 => ?_) fun qj => ?_
       rotate_left
       have j0:j = nb - 1:=by lia
       subst j0
       replace mj:=m2
       all_goals
        have m3:=mj.a1 ua ub kp ex nj
        refine wpS_bind (dQ ex ?_)
        refine bV (fun q => wpS_pure ⟨⟨_,rfl⟩,.inl ⟨_,_,rfl,m3.done (.inl q)⟩⟩) fun q5 => ?_
        exact b7 (fun q => wpS_pure ⟨⟨_,rfl⟩,.inr ⟨_,_,_,_,_,_,rfl,m3,by lia,by lia,by lia⟩⟩) fun q => wpS_pure ⟨⟨_,rfl⟩,_,_,_,_,_,_,rfl,m3,by lia,by lia,by lia⟩
    ·rintro z lu ⟨e,ny,nA,out,mg,c1,c2,rfl,m,l1,l2,l3⟩
     exact ⟨e,.inr ⟨ny,nA,out,mg,c1,c2,rfl,m,l1,l2,l3⟩⟩
    ·rintro z lu ⟨⟨g,e⟩,⟨m,y,rfl,gd⟩ | ⟨Tz,TB,out,mg,c1,c2,rfl,m,l1,l2,l4⟩⟩
     ·exact wpS_pure ⟨⟨g,e⟩,_,_,rfl,gd⟩
     ·dsimp only
      refine wpS_bind (wpS_modify (wpS_pure ⟨⟨mg + 1,?_⟩,_,_,_,_,rfl,m,l1,l2,by lia⟩))
      rw [e]
 ·rintro z av ⟨e,na,nb,out,mg,rfl,m,l1,l2,l3⟩
  lia
 ·rintro z av ⟨⟨g,e⟩,m,y,rfl,gd⟩
  rw [e]
  exact wpS_pure (h m g gd)
end
end TS
namespace TS
open PySem PyProof.Rows
theorem rT {α:Type} {X Y:Array α} {L M M' R:List α} (h1:X.toList = L ++ M ++ R) (h2:Y.toList = L ++ M' ++ R) (hl:M'.length = M.length) :
  Y.size = X.size ∧ (∀ j,j < L.length ∨ L.length + M.length ≤ j → Y[j]? = X[j]?) ∧ part Y L.length (L.length + M.length) = M':=by
 refine ⟨?_,fun j hj => ?_,?_⟩
 ·rw [← Array.length_toList,← Array.length_toList,h1,h2]; simp only [List.length_append,hl]
 ·rw [← Array.getElem?_toList,← Array.getElem?_toList,h1,h2]
  rcases hj with hj | hj
  ·rw [List.append_assoc,List.append_assoc,List.getElem?_append_left hj,List.getElem?_append_left hj]
  ·rw [List.getElem?_append_right (by rw [List.length_append]; lia),List.getElem?_append_right (by rw [List.length_append]; lia),List.length_append,List.length_append,hl]
 ·unfold part
  rw [h2,List.append_assoc,List.drop_left,Nat.add_sub_cancel_left,← hl,List.take_left]
section
variable {prog:Program} {w:World} {A:Around} {E:Value → Shared → Prop} {s:Shared} {κ:SortKind} {S:Keyed → Prop} {r:Keyed → Nat} {st:SortSt}
theorem Ed {σ:Type} {M:Model} {st av:σ} {Q:PUnit → σ → Prop} (h:Q ⟨⟩ av):wpS M A E s (set av:StateT σ Sem PUnit) Q st:=by
 unfold wpS; rw [StateT.run_set]; exact wpAny_pure ⟨rfl,h⟩
theorem Bq (C:yM prog w A s κ S r) {X:Array Keyed} {pend:Array (Nat × Nat × Nat)} {mg i sa na p nb q:Nat} {L1 L2:List (Nat × Nat × Nat)} {Q:Bool → SortSt → Prop} (hS:∀ x ∈ X,S x)
  (hp:pend.toList = L1 ++ (sa,na,p) :: (sa + na,nb,q) :: L2) (hi:i = L1.length) (h1:0 < na) (h2:0 < nb) (hz:sa + na + nb ≤ X.size) (u1:Up r X sa (sa + na)) (u2:Up r X (sa + na) (sa + na + nb))
  (h:∀ Y pd g,Y.toList.Perm X.toList → (∀ j,j < sa ∨ sa + na + nb ≤ j → Y[j]? = X[j]?) → Up r Y sa (sa + na + nb) → pd.toList = L1 ++ (sa,na + nb,p) :: L2 → Q true (SortSt.mk' κ Y pd g none)) :
  wpS (model prog w) A E s (mergeAt' i) Q (SortSt.mk' κ X pend mg none):=by
 have p1:pend[i]? = some (sa,na,p):=by
  rw [← Array.getElem?_toList,hp,hi,List.getElem?_append_right (Nat.le_refl _),Nat.sub_self]; rfl
 have p2:pend[i + 1]? = some (sa + na,nb,q):=by
  rw [← Array.getElem?_toList,hp,hi,List.getElem?_append_right (by lia),show L1.length + 1 - L1.length = 1 by lia]; rfl
 obtain ⟨pd,TC⟩:∃ pd,pd = (pend.setIfInBounds i (sa,na + nb,p)).eraseIdxIfInBounds (i + 1):=⟨_,rfl⟩
 have Ot:pd.toList = L1 ++ (sa,na + nb,p) :: L2:=by
  rw [TC,Array.toList_eraseIdxIfInBounds,Array.toList_setIfInBounds,hp,hi,List.set_append_right _ _ (Nat.le_refl _),Nat.sub_self,List.set_cons_zero,List.eraseIdx_append_of_length_le (by lia),show L1.length + 1 - L1.length = 1 by lia]
  rfl
 unfold mergeAt'
 refine wpS_bind (wpS_get ?_)
 dsimp only
 rw [p1,p2]
 dsimp only
 refine wpS_bind (Ed ?_)
 rw [← TC]
 obtain ⟨y,ey,my,ky⟩:=at_of (r:=r) (xs:=X) (i:=sa + na) (by lia)
 refine wpS_bind (dQ ey ?_)
 refine wpS_bind (jC C rfl hS (hS y my) (by lia) h1 u1 fun k k1 k2 k3 => ?_)
 dsimp only
 have lo:∀ i,sa ≤ i → i < sa + k → K r X i ≤ K r X (sa + na):=fun i i1 i2 => by
  have:=k2 (i - sa) (by lia)
  rw [show sa + (i - sa) = i by lia] at this
  unfold pX at this
  simp only [Bool.false_eq_true,if_false,Bool.not_eq_true',decide_eq_false_iff_not] at this
  lia
 refine bV (fun z => wpS_pure (h X pd mg (List.Perm.refl _) (fun _ _ => rfl) (fun i j a1 a2 a3 => ?_) Ot)) fun z => ?_
 ·rcases Nat.lt_or_ge j (sa + na) with c | c
  ·exact u1 i j a1 a2 c
  ·rcases Nat.lt_or_ge i (sa + na) with d | d
   ·exact Nat.le_trans (lo i a1 (by lia)) (u2.le (Nat.le_refl _) c a3)
   ·exact u2 i j d a2 a3
 obtain ⟨x,ex,mx,kx⟩:=at_of (r:=r) (xs:=X) (i:=sa + na - 1) (by lia)
 have em:sa + k + (na - k) - 1 = sa + na - 1:=by lia
 rw [em]
 refine wpS_bind (dQ ex ?_)
 refine wpS_bind (jC C rfl hS (hS x mx) (by lia) (by lia) u2 fun m m1 m2 m3 => ?_)
 dsimp only
 have up:∀ i,sa + na + m ≤ i → i < sa + na + nb → K r X (sa + na - 1) ≤ K r X i:=fun i i1 i2 => by
  have:=m3 (i - (sa + na)) (by lia) (by lia)
  rw [show sa + na + (i - (sa + na)) = i by lia] at this
  unfold pX at this
  simp only [if_true,decide_eq_false_iff_not] at this
  lia
 refine bV (fun z => wpS_pure (h X pd mg (List.Perm.refl _) (fun _ _ => rfl) (fun i j a1 a2 a3 => ?_) Ot)) fun z2 => ?_
 ·rcases Nat.lt_or_ge j (sa + na) with c | c
  ·exact u1 i j a1 a2 c
  ·rcases Nat.lt_or_ge i (sa + na) with d | d
   ·exact Nat.le_trans (u1.le a1 (by lia) (by lia)) (up j (by lia) a3)
   ·exact u2 i j d a2 a3
 obtain ⟨a,ea⟩:∃ a,a = X.extract (sa + k) (sa + na):=⟨_,rfl⟩
 obtain ⟨b,eb⟩:∃ b,b = X.extract (sa + na) (sa + na + m):=⟨_,rfl⟩
 rw [← ea,← eb]
 have za:a.size = na - k:=by rw [ea,Array.size_extract]; lia
 have zb:b.size = m:=by rw [eb,Array.size_extract]; lia
 have Ka:∀ i,i < a.size → K r a i = K r X (sa + k + i):=fun i hi => by
  unfold K
  rw [ea,Array.getElem?_extract_of_lt (by lia),getElem?_pos X _ (by lia)]
 have Kb:∀ i,i < b.size → K r b i = K r X (sa + na + i):=fun i hi => by
  unfold K
  rw [eb,Array.getElem?_extract_of_lt (by lia),getElem?_pos X _ (by lia)]
 have ua:Up r a 0 a.size:=fun i j _ a2 a3 => by rw [Ka i (by lia),Ka j a3]; exact u1 _ _ (by lia) (by lia) (by lia)
 have ub:Up r b 0 b.size:=fun i j _ a2 a3 => by rw [Kb i (by lia),Kb j a3]; exact u2 _ _ (by lia) (by lia) (by lia)
 have TF:∀ x ∈ a,S x:=fun x hx => by
  rw [ea,← Array.mem_toList_iff,aH] at hx
  obtain ⟨j,_,_,j3⟩:=bq hx
  exact hS x (Array.mem_of_getElem? j3)
 have TH:∀ x ∈ b,S x:=fun x hx => by
  rw [eb,← Array.mem_toList_iff,aH] at hx
  obtain ⟨j,_,_,j3⟩:=bq hx
  exact hS x (Array.mem_of_getElem? j3)
 have h0:K r b 0 ≤ K r a 0:=by
  rw [Ka 0 (by lia),Kb 0 (by lia)]
  have:=k3 k (Nat.le_refl _) (by lia)
  unfold pX at this
  simp only [Bool.false_eq_true,if_false,Bool.not_eq_false',decide_eq_true_eq] at this
  rw [Nat.add_zero,Nat.add_zero]
  lia
 have hl:K r b (b.size - 1) ≤ K r a (a.size - 1):=by
  rw [Ka _ (by lia),Kb _ (by lia)]
  have:=m2 (b.size - 1) (by lia)
  unfold pX at this
  simp only [if_true,decide_eq_true_eq] at this
  rw [show sa + k + (a.size - 1) = sa + na - 1 by lia]
  lia
 have fin:∀ (yN:Array Keyed) (g:Nat),Good r a b yN → Q true (SortSt.mk' κ (yN.toList.zipIdx.foldl (fun a (q:Keyed × Nat) => a.setIfInBounds (sa + k + q.2) q.1) X) pd g none):=by
  intro yN g gd
  obtain ⟨g1,g2⟩:=gd
  have ll:yN.toList.length = na - k + m:=by
   have:=g1.length_eq
   rw [List.length_append,Array.length_toList (xs:=a),Array.length_toList (xs:=b)] at this
   lia
  obtain ⟨Y,eY⟩:∃ Y,Y = yN.toList.zipIdx.foldl (fun a (q:Keyed × Nat) => a.setIfInBounds (sa + k + q.2) q.1) X:=⟨_,rfl⟩
  rw [← eY]
  have yl:=Bm (m:=yN.toList) (sa:=sa + k) (xs:=X) (by lia)
  rw [← eY,yK,yL,ll,show sa + k + (na - k + m) = sa + na + m by lia] at yl
  rw [ck (i:=0) (j:=sa) (k:=sa + k) (by lia) (by lia) (by lia),ck (i:=sa + na + m) (j:=sa + na + nb) (k:=X.size) (by lia) (by lia) (by lia)] at yl
  have xl:X.toList = part X 0 sa ++ part X sa (sa + na + nb) ++ part X (sa + na + nb) X.size:=by
   rw [← ck (by lia) (by lia) (by lia),← ck (by lia) (by lia) (by lia),d_]
  have xm:part X sa (sa + na + nb) = part X sa (sa + k) ++ (a.toList ++ b.toList) ++ part X (sa + na + m) (sa + na + nb):=by
   rw [ea,eb,aH,aH,← ck (by lia) (by lia) (by lia),← ck (by lia) (by lia) (by lia),← ck (by lia) (by lia) (by lia)]
  have TJ:Y.toList = part X 0 sa ++ (part X sa (sa + k) ++ yN.toList ++ part X (sa + na + m) (sa + na + nb)) ++ part X (sa + na + nb) X.size:=by
   rw [yl]; simp only [List.append_assoc]
  have pm:(part X sa (sa + k) ++ yN.toList ++ part X (sa + na + m) (sa + na + nb)).Perm (part X sa (sa + na + nb)):=by
   rw [xm]
   exact (List.Perm.append_left _ g1).append_right _
  obtain ⟨r1,r2,r3⟩:=rT xl TJ pm.length_eq
  rw [jk (by lia),jk (by lia),Nat.sub_zero,show sa + (sa + na + nb - sa) = sa + na + nb by lia] at r2 r3
  refine h Y pd g ?_ r2 (HU ?_ (by lia)) Ot
  ·rw [xl,TJ]
   exact (List.Perm.append_left _ pm).append_right _
  ·rw [r3]
   unfold CA
   have mem:∀ x ∈ yN.toList,∃ j,sa + k ≤ j ∧ j < sa + na + m ∧ X[j]? = some x:=fun x hx => by
    have:=g1.mem_iff.mp hx
    rw [ea,eb,aH,aH,← ck (by lia) (by lia) (by lia)] at this
    exact bq this
   rw [List.append_assoc]
   refine List.pairwise_append.mpr ⟨(u1.sub (Nat.le_refl _) (by lia)).h_,List.pairwise_append.mpr ⟨g2,(u2.sub (by lia) (Nat.le_refl _)).h_,fun x hx y hy => ?_⟩,fun x hx y hy => ?_⟩
   ·obtain ⟨i,i1,i2,i3⟩:=mem x hx
    obtain ⟨j,j1,j2,j3⟩:=bq hy
    show r x ≤ r y
    rw [← fD (r:=r) i3,← fD (r:=r) j3]
    rcases Nat.lt_or_ge i (sa + na) with d | d
    ·exact Nat.le_trans (u1.le (by lia) (by lia) (by lia)) (up j j1 j2)
    ·exact u2.le d (by lia) j2
   ·obtain ⟨i,i1,i2,i3⟩:=bq hx
    have:∃ j,sa + k ≤ j ∧ j < sa + na + nb ∧ X[j]? = some y:=by
     rcases List.mem_append.mp hy with hy | hy
     ·obtain ⟨j,j1,j2,j3⟩:=mem y hy
      exact ⟨j,j1,by lia,j3⟩
     ·obtain ⟨j,j1,j2,j3⟩:=bq hy
      exact ⟨j,by lia,by lia,j3⟩
    obtain ⟨j,j1,j2,j3⟩:=this
    show r x ≤ r y
    rw [← fD (r:=r) i3,← fD (r:=r) j3]
    rcases Nat.lt_or_ge j (sa + na) with d | d
    ·exact u1.le i1 (by lia) d
    ·exact Nat.le_trans (lo i i1 i2) (u2.le (Nat.le_refl _) d j2)
 refine b7 (fun _ => ?_) fun _ => ?_
 ·exact wpS_bind (Bo C rfl TF TH ua ub (by lia) (by lia) h0 hl fun yN g gd => wpS_bind (wpS_modify (wpS_bind (wpS_get (wpS_pure (fin yN g gd))))))
 ·exact wpS_bind (Bp C rfl TF TH ua ub (by lia) (by lia) h0 hl fun yN g gd => wpS_bind (wpS_modify (wpS_bind (wpS_get (wpS_pure (fin yN g gd))))))
end
end TS
namespace TS
open PySem PyProof.Rows
noncomputable def Di (r:Keyed → Nat) (xs:Array Keyed):Prop:=(xs.toList.map r).Nodup
section
variable {r:Keyed → Nat} {X Y:Array Keyed}
theorem Di.to (h:Di r X) (p:Y.toList.Perm X.toList):Di r Y:=(p.map r).nodup_iff.mpr h
theorem Di.ne (h:Di r X) {i j:Nat} (hi:i < X.size) (hj:j < X.size) (e:i ≠ j):K r X i ≠ K r X j:=by
 rw [fD (getElem?_pos X i hi),fD (getElem?_pos X j hj)]
 intro z
 have li:i < (X.toList.map r).length:=by rw [List.length_map,Array.length_toList]; exact hi
 have lj:j < (X.toList.map r).length:=by rw [List.length_map,Array.length_toList]; exact hj
 refine e ((List.getElem_inj (h₀:=li) (h₁:=lj) h).mp ?_)
 rw [List.getElem_map,List.getElem_map,Array.getElem_toList,Array.getElem_toList]
 exact z
theorem Fs {i j k:Nat} (hj:j ≤ X.size):K r (mirror X i j ((j - i) / 2)) k = if i ≤ k ∧ k < j then K r X (i + j - 1 - k) else K r X k:=by
 unfold K
 rw [getElem?_mirror_all hj]
 split <;> rfl
theorem Ft {src d k:Nat} (hs:src < X.size) (hd:d ≤ src):K r (bubble X src d) k = if k = src - d then K r X src else if src - d < k ∧ k ≤ src then K r X (k - 1) else K r X k:=by
 unfold K
 rw [getElem?_bubble hs d hd]
 split
 ·rfl
 ·split <;> rfl
theorem Up.more {lo n:Nat} (h1:1 ≤ n) (h:Up r X lo (lo + n)) (l:K r X (lo + n - 1) ≤ K r X (lo + n)):Up r X lo (lo + (n + 1)):=fun i j a b c => by
 rcases Nat.lt_or_ge j (lo + n) with q | q
 ·exact h i j a b q
 ·rw [show j = lo + n by lia]
  exact Nat.le_trans (h.le a (show i ≤ lo + n - 1 by lia) (by lia)) l
theorem Dn.more {lo n:Nat} (h1:1 ≤ n) (h:Dn r X lo (lo + n)) (l:K r X (lo + n) ≤ K r X (lo + n - 1)):Dn r X lo (lo + (n + 1)):=fun i j a b c => by
 rcases Nat.lt_or_ge j (lo + n) with q | q
 ·exact h i j a b q
 ·rw [show j = lo + n by lia]
  rcases Nat.lt_or_ge i (lo + n - 1) with z | z
  ·exact Nat.le_trans l (h i (lo + n - 1) a z (by lia))
  ·rw [show i = lo + n - 1 by lia]; exact l
theorem Up.one {lo:Nat}:Up r X lo (lo + 1):=fun i j a b c => by lia
end
section
variable {prog:Program} {w:World} {A:Around} {E:Value → Shared → Prop} {s:Shared} {κ:SortKind} {S:Keyed → Prop} {r:Keyed → Nat} {pend:Array (Nat × Nat × Nat)} {mg:Nat} {X:Array Keyed}
theorem yO (C:yM prog w A s κ S r) {i j:Nat} {Q:Option Bool → SortSt → Prop} (hS:∀ x ∈ X,S x) (hi:i < X.size) (hj:j < X.size) (h:Q (some (decide (K r X i < K r X j))) (SortSt.mk' κ X pend mg none)) :
  wpS (model prog w) A E s (ltAt' i j) Q (SortSt.mk' κ X pend mg none):=by
 obtain ⟨x,ex,mx,kx⟩:=at_of (r:=r) hi
 obtain ⟨y,ey,my,ky⟩:=at_of (r:=r) hj
 rw [kx,ky] at h
 exact KO C rfl ex ey (hS x mx) (hS y my) h
theorem H_ (C:yM prog w A s κ S r) {lo jl:Nat} {Q:Option Nat → SortSt → Prop} (h1:1 ≤ jl) (hz:lo + jl ≤ X.size) (hS:∀ x ∈ X,S x) (hd:Di r X)
  (h:∀ n Y,1 ≤ n → n ≤ jl → Y.toList.Perm X.toList → (∀ j,j < lo → Y[j]? = X[j]?) → Up r Y lo (lo + n) → Q (some n) (SortSt.mk' κ Y pend mg none)) :
  wpS (model prog w) A E s (countRun' lo jl) Q (SortSt.mk' κ X pend mg none):=by
 unfold countRun'
 refine wpS_bind (wpS_mono (wpS_forRange (I:=fun x z av => av = SortSt.mk' κ X pend mg none ∧ z = (none,x) ∧ Up r X lo (lo + x))
  (Q:=fun z av => av = SortSt.mk' κ X pend mg none ∧ ∃ n,z = (none,n) ∧ 1 ≤ n ∧ n ≤ jl ∧ Up r X lo (lo + n) ∧ (n < jl → K r X (lo + n) < K r X (lo + n - 1))) ?_ ?_ ⟨rfl,rfl,Up.one⟩) ?_)
 ·rintro x z av x1 hx ⟨e,rfl,u⟩
  rw [e]
  refine wpS_bind (yO C hS (by lia) (by lia) ?_)
  dsimp only
  refine b7 (fun q => wpS_pure ⟨rfl,x,rfl,x1,by lia,u,fun _ => of_decide_eq_true q⟩) fun q => wpS_pure ⟨rfl,rfl,u.more x1 ?_⟩
  have:=of_decide_eq_false (by simpa using q:decide (K r X (lo + x) < K r X (lo + x - 1)) = false)
  lia
 ·rintro z av ⟨e,rfl,u⟩
  rw [show max 1 jl = jl by lia] at u ⊢
  exact ⟨e,jl,rfl,h1,Nat.le_refl _,u,fun q => absurd q (Nat.lt_irrefl _)⟩
 ·rintro z av ⟨e,n,rfl,n1,n2,u,f⟩
  rw [e]
  dsimp only
  refine bV (fun q => wpS_pure (h n X n1 n2 (List.Perm.refl _) (fun _ _ => rfl) u)) fun q => ?_
  have f':=f (by lia)
  refine b7 (fun g => ?_) fun g => ?_
  ·refine wpS_bind (yO C hS (by lia) (by lia) ?_)
   dsimp only
   have ne:=hd.ne (i:=lo) (j:=lo + n - 1) (by lia) (by lia) (by lia)
   have le:=u.le (Nat.le_refl _) (show lo ≤ lo + n - 1 by lia) (by lia)
   rw [if_pos (decide_eq_true (by lia))]
   exact wpS_pure (h n X n1 n2 (List.Perm.refl _) (fun _ _ => rfl) u)
  ·have:n = 1:=by lia
   subst this
   refine wpS_bind (wpS_lift (wpAny_rule ⟨rfl,?_⟩))
   refine wpS_bind (wpS_mono (wpS_forRange (I:=fun x z av => av = SortSt.mk' κ X pend mg none ∧ z = (none,x,0) ∧ Dn r X lo (lo + x))
    (Q:=fun z av => av = SortSt.mk' κ X pend mg none ∧ ∃ n,z = (none,n,0) ∧ 2 ≤ n ∧ n ≤ jl ∧ Dn r X lo (lo + n)) ?_ ?_ ⟨rfl,rfl,?_⟩) ?_)
   ·rintro x z av x1 hx ⟨e,rfl,u⟩
    rw [e]
    dsimp only
    refine wpS_bind (yO C hS (by lia) (by lia) ?_)
    dsimp only
    refine b7 (fun q => ?_) fun q => ?_
    ·rw [if_neg (Nat.lt_irrefl _)]
     have:=of_decide_eq_true q
     exact wpS_pure ⟨rfl,rfl,u.more (by lia) (by lia)⟩
    ·refine wpS_bind (yO C hS (by lia) (by lia) ?_)
     dsimp only
     have ne:=hd.ne (i:=lo + x) (j:=lo + x - 1) (by lia) (by lia) (by lia)
     have:=of_decide_eq_false (by simpa using q:decide (K r X (lo + x) < K r X (lo + x - 1)) = false)
     rw [if_pos (decide_eq_true (by lia))]
     exact wpS_pure ⟨rfl,x,rfl,by lia,by lia,u⟩
   ·rintro z av ⟨e,rfl,u⟩
    rw [show max (1 + 1) jl = jl by lia] at u ⊢
    exact ⟨e,jl,rfl,by lia,Nat.le_refl _,u⟩
   ·intro i j a b c
    rw [show i = lo + 1 - 1 by lia,show j = lo + 1 by lia]
    lia
   ·rintro z av ⟨e,n,rfl,n1,n2,dn⟩
    rw [e]
    dsimp only
    rw [if_neg (Nat.lt_irrefl _)]
    obtain ⟨Y,eY⟩:∃ Y,Y = mirror X lo (lo + n) ((lo + n - lo) / 2):=⟨_,rfl⟩
    have zY:Y.size = X.size:=by rw [eY]; exact mirror_size _ _ _ _
    have pY:Y.toList.Perm X.toList:=by rw [eY]; exact Array.perm_iff_toList_perm.mp (mirror_perm _ _ _ _)
    have sY:∀ x ∈ Y,S x:=fun x hx => hS x (Array.mem_toList_iff.mp (pY.mem_iff.mp (Array.mem_toList_iff.mpr hx)))
    have bY:∀ j,j < lo → Y[j]? = X[j]?:=fun j hj => by
     rw [eY,getElem?_mirror_all (by lia),if_neg (by lia)]
    have uY:Up r Y lo (lo + n):=fun i j a b c => by
     rw [eY,Fs (by lia),Fs (by lia),if_pos (by lia),if_pos (by lia)]
     exact dn _ _ (by lia) (by lia) (by lia)
    refine wpS_bind (wpS_modify ?_)
    show wpS _ _ _ _ _ _ (SortSt.mk' κ (mirror X lo (lo + n) ((lo + n - lo) / 2)) pend mg none)
    rw [← eY]
    refine wpS_bind (wpS_mono (wpS_forRange (I:=fun x z av => av = SortSt.mk' κ Y pend mg none ∧ z = (none,x) ∧ Up r Y lo (lo + x))
     (Q:=fun z av => av = SortSt.mk' κ Y pend mg none ∧ ∃ n,z = (none,n) ∧ 1 ≤ n ∧ n ≤ jl ∧ Up r Y lo (lo + n)) ?_ ?_ ⟨rfl,rfl,uY⟩) ?_)
    ·rintro x z av x1 hx ⟨e,rfl,u⟩
     rw [e]
     refine wpS_bind (yO C sY (by lia) (by lia) ?_)
     dsimp only
     refine b7 (fun q => wpS_pure ⟨rfl,x,rfl,by lia,by lia,u⟩) fun q => wpS_pure ⟨rfl,rfl,u.more (by lia) ?_⟩
     have:=of_decide_eq_false (by simpa using q:decide (K r Y (lo + x) < K r Y (lo + x - 1)) = false)
     lia
    ·rintro z av ⟨e,rfl,u⟩
     rw [show max n jl = jl by lia] at u ⊢
     exact ⟨e,jl,rfl,h1,Nat.le_refl _,u⟩
    ·rintro z av ⟨e,n,rfl,n1,n2,u⟩
     rw [e]
     exact wpS_pure (h n Y n1 n2 pY bY u)
theorem Ou (C:yM prog w A s κ S r) {lo n ok:Nat} {Q:Bool → SortSt → Prop} (h1:1 ≤ ok) (hz:lo + n ≤ X.size) (hS:∀ x ∈ X,S x) (u:Up r X lo (lo + ok))
  (h:∀ Y,Y.toList.Perm X.toList → (∀ j,j < lo → Y[j]? = X[j]?) → Up r Y lo (lo + n) → Q true (SortSt.mk' κ Y pend mg none)) :
  wpS (model prog w) A E s (binarySort' lo n ok) Q (SortSt.mk' κ X pend mg none):=by
 unfold binarySort'
 refine wpS_bind (wpS_mono (wpS_forRange (I:=fun k z av => z = (none,()) ∧ ∃ Y,av = SortSt.mk' κ Y pend mg none ∧ Y.toList.Perm X.toList ∧ (∀ j,j < lo → Y[j]? = X[j]?) ∧ Up r Y lo (lo + k))
  (Q:=fun z av => z = (none,()) ∧ ∃ Y,av = SortSt.mk' κ Y pend mg none ∧ Y.toList.Perm X.toList ∧ (∀ j,j < lo → Y[j]? = X[j]?) ∧ Up r Y lo (lo + n)) ?_ ?_ ⟨rfl,X,rfl,List.Perm.refl _,fun _ _ => rfl,by rw [show max ok 1 = ok by lia]; exact u⟩) ?_)
 ·rintro k z av k1 hk ⟨rfl,Y,e,pY,bY,uY⟩
  rw [e]
  have zY:Y.size = X.size:=by rw [← Array.length_toList,pY.length_eq,Array.length_toList]
  have sY:∀ x ∈ Y,S x:=fun x hx => hS x (Array.mem_toList_iff.mp (pY.mem_iff.mp (Array.mem_toList_iff.mpr hx)))
  refine wpS_bind (wpS_mono (wpS_forRange (I:=fun x z av => av = SortSt.mk' κ Y pend mg none ∧ ∃ l m,z = (none,l,m) ∧ l ≤ m ∧ m ≤ k ∧ m - l + x ≤ k ∧ (∀ i,i < l → K r Y (lo + i) ≤ K r Y (lo + k)) ∧ ∀ i,m ≤ i → i < k → K r Y (lo + k) ≤ K r Y (lo + i))
   (Q:=fun z av => av = SortSt.mk' κ Y pend mg none ∧ ∃ l,z = (none,l,l) ∧ l ≤ k ∧ (∀ i,i < l → K r Y (lo + i) ≤ K r Y (lo + k)) ∧ ∀ i,l ≤ i → i < k → K r Y (lo + k) ≤ K r Y (lo + i)) ?_ ?_ ⟨rfl,0,k,rfl,Nat.zero_le _,Nat.le_refl _,by lia,fun i q => absurd q (Nat.not_lt_zero _),fun i q1 q2 => absurd q1 (by lia)⟩) ?_)
  ·rintro x z av _ hx ⟨e,l,m,rfl,g1,g2,g3,g4,g5⟩
   rw [e]
   dsimp only
   refine b7 (fun q => ?_) fun q => ?_
   ·have:l = m:=by lia
    subst this
    exact wpS_pure ⟨rfl,l,rfl,g2,g4,g5⟩
   ·refine wpS_bind (yO C sY (by lia) (by lia) ?_)
    dsimp only
    refine b7 (fun q => ?_) fun q => ?_
    ·have:=of_decide_eq_true q
     exact wpS_pure ⟨rfl,l,(l + m) / 2,rfl,by lia,by lia,by lia,g4,fun i i1 i2 => Nat.le_trans (Nat.le_of_lt this) (uY.le (by lia) (by lia) (by lia))⟩
    ·have:=of_decide_eq_false (by simpa using q:decide (K r Y (lo + k) < K r Y (lo + (l + m) / 2)) = false)
     exact wpS_pure ⟨rfl,(l + m) / 2 + 1,m,rfl,by lia,by lia,by lia,fun i i1 => Nat.le_trans (uY.le (by lia) (show lo + i ≤ lo + (l + m) / 2 by lia) (by lia)) (by lia),g5⟩
  ·rintro z av ⟨e,l,m,rfl,g1,g2,g3,g4,g5⟩
   have:l = m:=by lia
   subst this
   exact ⟨e,l,rfl,g2,g4,g5⟩
  ·rintro z av ⟨e,l,rfl,g2,g4,g5⟩
   rw [e]
   dsimp only
   refine wpS_bind (wpS_modify (wpS_pure ⟨rfl,bubble Y (lo + k) (lo + k - (lo + l)),rfl,?_,fun j hj => ?_,?_⟩))
   ·exact (Array.perm_iff_toList_perm.mp (bubble_perm _ _ _)).trans pY
   ·rw [getElem?_bubble (by lia) _ (by lia),if_neg (by lia),if_neg (by lia)]
    exact bY j hj
   ·intro i j a b c
    rw [Ft (by lia) (by lia),Ft (by lia) (by lia),show lo + k - (lo + k - (lo + l)) = lo + l by lia]
    by_cases c1:i = lo + l
    ·rw [if_pos c1,if_neg (by lia),if_pos (by lia)]
     have:=g5 (j - 1 - lo) (by lia) (by lia)
     rwa [show lo + (j - 1 - lo) = j - 1 by lia] at this
    ·rw [if_neg c1]
     by_cases c2:j = lo + l
     ·rw [if_pos c2,if_neg (by lia)]
      have:=g4 (i - lo) (by lia)
      rwa [show lo + (i - lo) = i by lia] at this
     ·rw [if_neg c2]
      by_cases c3:lo + l < i
      ·rw [if_pos (by lia),if_pos (by lia)]
       exact uY.le (by lia) (by lia) (by lia)
      ·rw [if_neg (by lia)]
       by_cases c4:lo + l < j
       ·rw [if_pos (by lia)]
        exact uY.le a (by lia) (by lia)
       ·rw [if_neg (by lia)]
        exact uY.le a (by lia) (by lia)
 ·rintro z av ⟨rfl,Y,e,pY,bY,uY⟩
  exact ⟨rfl,Y,e,pY,bY,uY.sub (Nat.le_refl _) (by lia)⟩
 ·rintro z av ⟨rfl,Y,e,pY,bY,uY⟩
  rw [e]
  exact wpS_pure (h Y pY bY uY)
end
end TS
namespace TS
open PySem PyProof.Rows
section
variable {r:Keyed → Nat} {X Y:Array Keyed}
noncomputable def Runs (r:Keyed → Nat) (X:Array Keyed):List (Nat × Nat × Nat) → Nat → Nat → Prop
 | [],lo,hi => lo = hi
 | q :: t,lo,hi => q.1 = lo ∧ 0 < q.2.1 ∧ Up r X lo (lo + q.2.1) ∧ Runs r X t (lo + q.2.1) hi
theorem ij:∀ {L1 L2:List (Nat × Nat × Nat)} {lo hi:Nat},Runs r X (L1 ++ L2) lo hi ↔ ∃ m,Runs r X L1 lo m ∧ Runs r X L2 m hi
 | [],L2,lo,hi => ⟨fun h => ⟨lo,rfl,h⟩,fun ⟨m,e,h⟩ => by cases e; exact h⟩
 | q :: L1,L2,lo,hi => by
  constructor
  ·rintro ⟨a,b,c,d⟩
   obtain ⟨m,h1,h2⟩:=ij.mp d
   exact ⟨m,⟨a,b,c,h1⟩,h2⟩
  ·rintro ⟨m,⟨a,b,c,d⟩,h2⟩
   exact ⟨a,b,c,ij.mpr ⟨m,d,h2⟩⟩
theorem Runs.len:∀ {L:List (Nat × Nat × Nat)} {lo hi:Nat},Runs r X L lo hi → lo + L.length ≤ hi
 | [],lo,hi,h => by cases h; exact Nat.le_refl _
 | q :: L,lo,hi,⟨a,b,c,d⟩ => by
  have:=d.len
  rw [List.length_cons]
  lia
theorem Runs.to:∀ {L:List (Nat × Nat × Nat)} {lo hi:Nat},Runs r X L lo hi → (∀ j,lo ≤ j → j < hi → Y[j]? = X[j]?) → Runs r Y L lo hi
 | [],lo,hi,h,_ => h
 | q :: L,lo,hi,⟨a,b,c,d⟩,e => by
  have l:=d.len
  refine ⟨a,b,fun i j h1 h2 h3 => ?_,d.to fun j h1 h2 => e j (by lia) h2⟩
  unfold K
  rw [e i h1 (by lia),e j (by lia) (by lia)]
  exact c i j h1 h2 h3
theorem Up.to {lo hi:Nat} (h:Up r X lo hi) (e:∀ j,lo ≤ j → Y[j]? = X[j]?):Up r Y lo hi:=fun i j a b c => by
 unfold K
 rw [e i a,e j (by lia)]
 exact h i j a b c
theorem Runs.pw:∀ {L L':List (Nat × Nat × Nat)} {lo hi:Nat},Runs r X L lo hi → L'.map (fun q => (q.1,q.2.1)) = L.map (fun q => (q.1,q.2.1)) → Runs r X L' lo hi
 | [],[],lo,hi,h,_ => h
 | [],_ :: _,_,_,_,e => by cases e
 | _ :: _,[],_,_,_,e => by cases e
 | q :: L,q' :: L',lo,hi,⟨a,b,c,d⟩,e => by
  injection e with e1 e2
  injection e1 with e3 e4
  exact ⟨e3.trans a,by rw [e4]; exact b,by rw [e4]; exact c,by rw [e4]; exact d.pw e2⟩
theorem wc {L:Array (Nat × Nat × Nat)} {i v:Nat}:(L.modify i fun q => (q.1,q.2.1,v)).toList.map (fun q => (q.1,q.2.1)) = L.toList.map (fun q => (q.1,q.2.1)):=by
 apply List.ext_getElem?
 intro j
 rw [List.getElem?_map,List.getElem?_map,Array.getElem?_toList,Array.getElem?_toList,Array.getElem?_modify]
 split
 ·rw [Option.map_map]; rfl
 ·rfl
theorem Ia {α:Type} {l:List α} {i:Nat} (h:i + 1 < l.length):∃ L1 a b L2,l = L1 ++ a :: b :: L2 ∧ i = L1.length:=by
 refine ⟨l.take i,l[i],l[i + 1],l.drop (i + 2),?_,by rw [List.length_take]; lia⟩
 have e1:l.drop i = l[i] :: l.drop (i + 1):=List.drop_eq_getElem_cons (by lia)
 have e2:l.drop (i + 1) = l[i + 1] :: l.drop (i + 2):=List.drop_eq_getElem_cons h
 rw [← e2,← e1,List.take_append_drop]
end
section
variable {prog:Program} {w:World} {A:Around} {E:Value → Shared → Prop} {s:Shared} {κ:SortKind} {S:Keyed → Prop} {r:Keyed → Nat} {pend:Array (Nat × Nat × Nat)} {mg:Nat} {X:Array Keyed}
theorem xE (C:yM prog w A s κ S r) {i hi:Nat} {Q:Bool → SortSt → Prop} (hS:∀ x ∈ X,S x) (R:Runs r X pend.toList 0 hi) (hz:hi ≤ X.size) (Mq:i + 1 < pend.size)
  (h:∀ Y pd g,Y.toList.Perm X.toList → (∀ j,hi ≤ j → Y[j]? = X[j]?) → pd.size + 1 = pend.size → Runs r Y pd.toList 0 hi → Q true (SortSt.mk' κ Y pd g none)) :
  wpS (model prog w) A E s (mergeAt' i) Q (SortSt.mk' κ X pend mg none):=by
 obtain ⟨L1,⟨sa,na,p⟩,⟨sb,nb,q⟩,L2,e,ei⟩:=Ia (l:=pend.toList) (i:=i) (by rw [Array.length_toList]; exact Mq)
 rw [e] at R
 obtain ⟨m,R1,a1,a2,a3,b1,b2,b3,R2⟩:=ij.mp R
 dsimp only at a1 a2 a3 b1 b2 b3 R2
 subst a1
 subst b1
 have l1:=R1.len
 have l2:=R2.len
 refine Bq C hS e ei a2 b2 (by lia) a3 b3 fun Y pd g y1 y2 y3 y4 => h Y pd g y1 (fun j hj => y2 j (.inr (by lia))) ?_ ?_
 ·rw [← Array.length_toList,← Array.length_toList,e,y4]
  simp only [List.length_append,List.length_cons]
  lia
 ·rw [y4]
  exact ij.mpr ⟨sa,R1.to fun j h1 h2 => y2 j (.inl h2),rfl,by show 0 < na + nb; lia,by show Up r Y sa (sa + (na + nb)); rw [← Nat.add_assoc]; exact y3,by
   show Runs r Y L2 (sa + (na + nb)) hi
   rw [← Nat.add_assoc]
   exact R2.to fun j h1 h2 => y2 j (.inr h1)⟩
theorem KS (C:yM prog w A s κ S r) {Q:Unit → SortSt → Prop} (hS:∀ x ∈ X,S x) (hd:Di r X) (h2:2 ≤ X.size)
  (h:∀ Y pd g,Y.toList.Perm X.toList → Up r Y 0 X.size → Q () (SortSt.mk' κ Y pd g none)) :
  wpS (model prog w) A E s sortRuns' Q (SortSt.mk' κ X #[] mg none):=by
 unfold sortRuns'
 refine wpS_bind (wpS_get ?_)
 dsimp only
 refine wpS_bind (wpS_mono (wpS_forRange (I:=fun x z av => ∃ lo Y pd g,z = (none,lo) ∧ av = SortSt.mk' κ Y pd g none ∧ Y.toList.Perm X.toList ∧ Runs r Y pd.toList 0 lo ∧ x ≤ lo ∧ lo ≤ X.size)
  (Q:=fun z av => ∃ Y pd g,z = (none,X.size) ∧ av = SortSt.mk' κ Y pd g none ∧ Y.toList.Perm X.toList ∧ Runs r Y pd.toList 0 X.size) ?_ ?_ ⟨0,X,#[],mg,rfl,rfl,List.Perm.refl _,rfl,Nat.le_refl _,Nat.zero_le _⟩) ?_)
 ·rintro x z av _ hx ⟨lo,Y,pd,g,rfl,e,pY,R,l1,l2⟩
  rw [e]
  dsimp only
  have zY:Y.size = X.size:=by rw [← Array.length_toList,pY.length_eq,Array.length_toList]
  have sY:∀ x ∈ Y,S x:=fun x hx => hS x (Array.mem_toList_iff.mp (pY.mem_iff.mp (Array.mem_toList_iff.mpr hx)))
  refine b7 (fun q => ?_) fun q => ?_
  ·have:lo = X.size:=by lia
   subst this
   exact wpS_pure ⟨Y,pd,g,rfl,rfl,pY,R⟩
  refine wpS_bind (H_ C (by lia) (by lia) sY (hd.to pY) fun n Y1 n1 n2 p1 b1 u1 => ?_)
  dsimp only
  have Mr:∀ x ∈ Y1,S x:=fun x hx => sY x (Array.mem_toList_iff.mp (p1.mem_iff.mp (Array.mem_toList_iff.mpr hx)))
  have Vu:Y1.size = X.size:=by rw [← Array.length_toList,p1.length_eq,Array.length_toList,zY]
  have R1:Runs r Y1 pd.toList 0 lo:=R.to fun j _ h => b1 j h
  replace p1:=p1.trans pY
  refine b7 (fun c => wpS_bind (wpS_lift (wpAny_rule ⟨rfl,wpS_bind (Ou C n1 (by lia) Mr u1 fun Y2 p2 b2 u2 => ?_)⟩))) fun c => ?_
  have Vv:∀ x ∈ Y2,S x:=fun x hx => Mr x (Array.mem_toList_iff.mp (p2.mem_iff.mp (Array.mem_toList_iff.mpr hx)))
  replace p2:=p2.trans p1
  have R2:Runs r Y2 pd.toList 0 lo:=R1.to fun j _ h => b2 j h
  simp only [Bool.not_true,Bool.false_eq_true,if_false]
  have m0:0 < min (X.size - lo) (minRun' X.size X.size 0) ∧ lo + min (X.size - lo) (minRun' X.size X.size 0) ≤ X.size:=by
   replace c:n < minRun' X.size X.size 0:=c
   lia
  rotate_left
  obtain ⟨Y2,e2⟩:∃ Y2,Y2 = Y1:=⟨_,rfl⟩
  rw [← e2] at R1 u1 p1 Mr Vu ⊢
  have R2:=R1
  have u2:=u1
  have p2:=p1
  have Vv:=Mr
  have m0:0 < n ∧ lo + n ≤ X.size:=by lia
  all_goals
   refine wpS_bind (wpS_get ?_)
   dsimp only
   cases hb:pd.back? with
   | none =>
    refine wpS_bind (wpS_modify (wpS_pure ⟨_,Y2,_,_,rfl,rfl,p2,?_,?_,m0.2⟩))
    ·show Runs r Y2 (Array.push _ _).toList 0 _
     rw [Array.toList_push]
     exact ij.mpr ⟨lo,R2,rfl,m0.1,u2,rfl⟩
    ·exact Nat.le_trans (Nat.succ_le_succ l1) (Nat.add_le_add_left m0.1 lo)
   | some q =>
    obtain ⟨s1,n1,v⟩:=q
    dsimp only
    refine wpS_bind (wpS_mono (wpS_forRange (I:=fun _ z av => z = (none,()) ∧ ∃ Y pd g,av = SortSt.mk' κ Y pd g none ∧ Y.toList.Perm X.toList ∧ (∀ j,lo ≤ j → Y[j]? = Y2[j]?) ∧ Runs r Y pd.toList 0 lo)
     (Q:=fun z av => z = (none,()) ∧ ∃ Y pd g,av = SortSt.mk' κ Y pd g none ∧ Y.toList.Perm X.toList ∧ (∀ j,lo ≤ j → Y[j]? = Y2[j]?) ∧ Runs r Y pd.toList 0 lo) ?_ ?_ ⟨rfl,Y2,pd,g,rfl,p2,fun _ _ => rfl,R2⟩) ?_)
    ·rintro x z av _ _ ⟨rfl,Y,pd,g,e,pY,bY,R⟩
     rw [e]
     have zY:Y.size = X.size:=by rw [← Array.length_toList,pY.length_eq,Array.length_toList]
     refine wpS_bind (wpS_get ?_)
     dsimp only
     by_cases c2:pd.size > 1
     ·rw [if_pos c2]
      obtain ⟨q,eq⟩:∃ q,pd[pd.size - 2]? = some q:=⟨_,getElem?_pos pd _ (by lia)⟩
      rw [eq]
      obtain ⟨a1,a2,a3⟩:=q
      dsimp only
      refine b7 (fun _ => wpS_pure ⟨rfl,Y,pd,g,rfl,pY,bY,R⟩) fun _ => ?_
      refine wpS_bind (xE C (fun x hx => hS x (Array.mem_toList_iff.mp (pY.mem_iff.mp (Array.mem_toList_iff.mpr hx)))) R (by lia) (by lia) fun Y3 Ov g3 y1 y2 y3 y4 => ?_)
      exact wpS_pure ⟨rfl,Y3,Ov,g3,rfl,y1.trans pY,fun j hj => (y2 j hj).trans (bY j hj),y4⟩
     ·rw [if_neg c2]
      exact wpS_pure ⟨rfl,Y,pd,g,rfl,pY,bY,R⟩
    ·exact fun _ _ h => h
    ·rintro z av ⟨rfl,Y,pd,g,e,pY,bY,R⟩
     rw [e]
     dsimp only
     refine wpS_bind (wpS_modify (wpS_bind (wpS_modify (wpS_pure ⟨_,Y,_,_,rfl,rfl,pY,?_,?_,m0.2⟩))))
     ·show Runs r Y (Array.push _ _).toList 0 _
      rw [Array.toList_push]
      exact ij.mpr ⟨lo,R.pw wc,rfl,m0.1,u2.to bY,rfl⟩
     ·exact Nat.le_trans (Nat.succ_le_succ l1) (Nat.add_le_add_left m0.1 lo)
 ·rintro z av ⟨lo,Y,pd,g,rfl,e,pY,R,l1,l2⟩
  have:lo = X.size:=by lia
  subst this
  exact ⟨Y,pd,g,rfl,e,pY,R⟩
 ·rintro z av ⟨Y,pd,g,rfl,e,pY,R⟩
  rw [e]
  dsimp only
  refine wpS_bind (wpS_mono (wpS_forRange (I:=fun x z av => z = (none,()) ∧ ∃ Y pd g,av = SortSt.mk' κ Y pd g none ∧ Y.toList.Perm X.toList ∧ Runs r Y pd.toList 0 X.size ∧ (pd.size ≤ 1 ∨ pd.size + x ≤ X.size))
   (Q:=fun z av => z = (none,()) ∧ ∃ Y pd g,av = SortSt.mk' κ Y pd g none ∧ Y.toList.Perm X.toList ∧ Runs r Y pd.toList 0 X.size ∧ pd.size ≤ 1) ?_ ?_ ⟨rfl,Y,pd,g,rfl,pY,R,.inr (by have:=R.len; rw [Array.length_toList] at this; lia)⟩) ?_)
  ·rintro x z av _ hx ⟨rfl,Y,pd,g,e,pY,R,l⟩
   rw [e]
   have zY:Y.size = X.size:=by rw [← Array.length_toList,pY.length_eq,Array.length_toList]
   refine wpS_bind (wpS_get ?_)
   dsimp only
   refine b7 (fun c => wpS_pure ⟨rfl,Y,pd,g,rfl,pY,R,c⟩) fun c => ?_
   refine wpS_bind (xE C (fun x hx => hS x (Array.mem_toList_iff.mp (pY.mem_iff.mp (Array.mem_toList_iff.mpr hx)))) R (by lia) ?_ fun Y3 Ov g3 y1 y2 y3 y4 => ?_)
   ·have Vx:∀ {c:Prop} [Decidable c] {a b n:Nat},a + 1 < n → b + 1 < n → (if c then a else b) + 1 < n:=by
     intro c _ a b n h1 h2
     split <;> assumption
    exact Vx (by lia) (by lia)
   ·exact wpS_pure ⟨rfl,Y3,Ov,g3,rfl,y1.trans pY,y4,by lia⟩
  ·rintro z av ⟨rfl,Y,pd,g,e,pY,R,l⟩
   exact ⟨rfl,Y,pd,g,e,pY,R,by lia⟩
  ·rintro z av ⟨rfl,Y,pd,g,e,pY,R,l⟩
   rw [e]
   refine wpS_pure (h Y pd g pY ?_)
   obtain ⟨q,eq⟩:∃ q,pd.toList = [q]:=by
    match z:pd.toList with
    | [] =>
     rw [z] at R
     replace R:0 = X.size:=R
     lia
    | [q] => exact ⟨q,rfl⟩
    | _ :: _ :: _ => rw [← Array.length_toList,z] at l; simp at l
   rw [eq] at R
   obtain ⟨_,_,u,e2⟩:=R
   replace e2:0 + q.2.1 = X.size:=e2
   rw [e2] at u
   exact u
end
end TS
namespace SO
open PySem PySem.W PyProof.Rows
structure Ord (L:Nat → Nat → Bool) (n:Nat):Prop where
 tr:∀ i j k,i < n → j < n → k < n → L i j = true → L j k = true → L i k = true
 Bl:∀ i j,i < n → j < n → i ≠ j → L i j = false → L j i = true
 Vy:∀ i j,i < n → j < n → L i j = true → L j i = false
section
variable {n:Nat} {p:Array Nat}
end
section
variable {L:Nat → Nat → Bool} {n:Nat} (O:Ord L n)
include O
end
end SO
namespace SO
open PySem PySem.W PyProof.Rows
noncomputable def j_ (h:Heap) (d:Addr) (es:Array DictEntry) (ep:Nat):Prop:=∃ o,h.get? d = some o ∧ o.cls = .type "dict" ∧ o.data = .dict es ep
section
variable {prog:Program} {w:World} {A:Around} {E:Value → Shared → Prop} {s:Shared} {d it:Addr} {es:Array DictEntry} {ep i:Nat}
theorem j_.ty (x:j_ s.heap d es ep):s.TypeIs (.ref d) "dict":=by
 obtain ⟨o,ho,hc,_⟩:=x
 exact ⟨o,ho,hc⟩
theorem j_.lt {h:Heap} (x:j_ h d es ep):d < h.objs.size:=by
 obtain ⟨o,ho,_⟩:=x
 exact Heap.lt_size ho
theorem j_.to {h h':Heap} (x:j_ h d es ep) (hk:∀ o,h.get? d = some o → h'.get? d = some o):j_ h' d es ep:=by
 obtain ⟨o,ho,r⟩:=x
 exact ⟨o,hk o ho,r⟩
theorem Br {Q:Value → Shared → Prop} (hd:(d == sysModules) = false) (x:j_ s.heap d es ep)
  (hQ:Q (.ref s.heap.objs.size) { s with heap:=s.heap.push { cls:=.type "dict_keyiterator",data:=.fields #[.ref d,.int 0 0,.int es.size 0,.int ep 0] } }):wpAny (model prog w) A (pyIter (.ref d)) Q E s:=by
 obtain ⟨o,go,gc,gd⟩:=id x
 have T:=x.ty
 refine wpAny_pyIter_slot T PySem.F.slot_dict_iter (wpAny_call_entry PySem.F.slot_dict_iter T PySem.F.entry_dict_iter ?_ (PySem.F.args_dict_iter_1 _))
 unfold Builtin.«dict.__iter__»; refine wpAny_bind ?_
 unfold Builtin.Dict.dictSlotNone; refine wpAny_bind (wpAny_notOrdered_dict T ?_)
 show wpAny _ _ (pure (Value.ref d)) _ _ s; refine wpAny_pure ?_
 show wpAny _ _ (Builtin.Dict.showsAll d >>= _) _ _ s; unfold Builtin.Dict.showsAll
 rw [if_neg (by rw [hd]; exact Bool.false_ne_true)]; refine wpAny_bind (wpAny_pure ?_)
 refine wpAny_bind (wpAny_dictEntries go gd ?_)
 refine wpAny_bind (wpAny_dictEpoch go gd ?_)
 refine wpAny_bind (wpAny_newObj_type (wpAny_pure ⟨_,rfl,"dict_keyiterator",_,⟨_,Heap.get?_push_size _ rfl,rfl⟩,PySem.F.slot_dict_keyiterator_next.lookup,?_⟩))
 simpa [rawInt] using hQ
theorem Bs {Q:Option Value → Shared → Prop} (hit:s.heap.IsKeyIter it d i es.size ep) (x:j_ s.heap d es ep) (hi:i < es.size)
  (hQ:∀ h',h'.IsKeyIter it d (i + 1) es.size ep → Heap.SameBut it s.heap h' → Q (some es[i].key) { s with heap:=h' }):wpAny (model prog w) A (pyNext (.ref it)) Q E s:=by
 obtain ⟨o,ho,hc,hf⟩:=id hit
 obtain ⟨od,go,gc,gd⟩:=id x
 have T:=hit.typeIs
 unfold pyNext
 refine wpAny_bind (wpAny_attempt (wpAny_callSpecial?_slot (name:=Str.ofString "__next__") T PySem.F.slot_dict_keyiterator_next (wpAny_call_entry PySem.F.slot_dict_keyiterator_next T PySem.F.entry_dict_keyiterator_next ?_ (PySem.F.args_dict_keyiterator_next_1 _))))
 refine wpAny_bind (wpAny_pure ?_); refine wpAny_bind ?_; refine wpAny_bind ?_
 first | refine wpAny_bind (wpAny_typeNameOfWhole_keyiter T (wpAny_pure ?_)) | refine wpAny_bind (wpAny_typeNameOf_keyiter T (wpAny_pure ?_))
 refine wpAny_bind (wpAny_fieldsOf ho hf ?_)
 have no:Builtin.Dict_items.ownsTuple "dict_keyiterator" = false:=by decide
 simp only [no,Bool.false_eq_true,if_false]
 show wpAny _ _ (if (Value.ref d == Value.none) = true then _ else _) _ _ s; rw [if_neg (show ¬ ((Value.ref d == Value.none) = true) from Bool.false_ne_true)]
 refine wpAny_bind (wpAny_pure ?_); refine wpAny_bind (wpAny_dictEntries go gd ?_)
 rw [if_neg (by simp)]; refine wpAny_bind (wpAny_pure ?_)
 refine wpAny_bind (wpAny_dictEpoch go gd ?_); rw [if_neg (by simp)]; refine wpAny_pure ?_
 simp only [show ¬ ((i:Int) < 0) from by lia,if_false,Int.toNat_natCast,Array.getElem?_eq_getElem hi]; refine wpAny_bind ?_
 first | refine wpAny_bind (wpAny_typeNameOfWhole_keyiter T (wpAny_pure ?_)) | refine wpAny_bind (wpAny_typeNameOf_keyiter T (wpAny_pure ?_))
 refine wpAny_bind (wpAny_isOneOf_keyiter T ?_)
 show wpAny _ _ (setField (.ref it) 1 (rawInt ((i:Int) + 1)) >>= _) _ _ s; refine wpAny_bind (wpAny_setField ho hf (by simp) ?_)
 have go2:(s.heap.update it (Obj.mapFields (·.setIfInBounds 1 (rawInt ((i:Int) + 1))))).IsKeyIter it d (i + 1) es.size ep :=
  ⟨_,Heap.get?_update_self _ ho (Obj.isFreed_of_fields (Obj.data_mapFields hf _)),(Obj.cls_mapFields ..).trans hc,by rw [Obj.data_mapFields hf]; simp [rawInt]⟩
 refine wpAny_bind (wpAny_holding ?_)
 refine wpAny_bind (wpAny_isOneOf_keyiter (s:={ s with heap:=s.heap.update it (Obj.mapFields (·.setIfInBounds 1 (rawInt ((i:Int) + 1)))) }) go2.typeIs ?_)
 show wpAny _ _ (pure es[i].key) _ _ _; exact wpAny_pure (wpAny_pure ⟨_,rfl,wpAny_pure (hQ _ go2 (Heap.SameBut.update ..))⟩)
theorem Ee {Q:Option Value → Shared → Prop} (hh:A.handled = none) (hit:s.heap.IsKeyIter it d i es.size ep) (x:j_ s.heap d es ep) (hi:es.size ≤ i)
  (hQ:∀ h',Heap.ExtBut it s.heap h' → Q none { s with heap:=h' }):wpAny (model prog w) A (pyNext (.ref it)) Q E s:=by
 obtain ⟨o,ho,hc,hf⟩:=id hit
 obtain ⟨od,go,gc,gd⟩:=id x
 have T:=hit.typeIs
 unfold pyNext
 refine wpAny_bind (wpAny_attempt (wpAny_callSpecial?_slot (name:=Str.ofString "__next__") T PySem.F.slot_dict_keyiterator_next (wpAny_call_entry PySem.F.slot_dict_keyiterator_next T PySem.F.entry_dict_keyiterator_next ?_ (PySem.F.args_dict_keyiterator_next_1 _))))
 refine wpAny_bind (wpAny_pure ?_); refine wpAny_bind ?_; refine wpAny_bind ?_
 first | refine wpAny_bind (wpAny_typeNameOfWhole_keyiter T (wpAny_pure ?_)) | refine wpAny_bind (wpAny_typeNameOf_keyiter T (wpAny_pure ?_))
 refine wpAny_bind (wpAny_fieldsOf ho hf ?_)
 have no:Builtin.Dict_items.ownsTuple "dict_keyiterator" = false:=by decide
 simp only [no,Bool.false_eq_true,if_false]
 show wpAny _ _ (if (Value.ref d == Value.none) = true then _ else _) _ _ s; rw [if_neg (show ¬ ((Value.ref d == Value.none) = true) from Bool.false_ne_true)]
 refine wpAny_bind (wpAny_pure ?_); refine wpAny_bind (wpAny_dictEntries go gd ?_)
 rw [if_neg (by simp)]; refine wpAny_bind (wpAny_pure ?_)
 refine wpAny_bind (wpAny_dictEpoch go gd ?_); rw [if_neg (by simp)]; refine wpAny_pure ?_
 simp only [show ¬ ((i:Int) < 0) from by lia,if_false,Int.toNat_natCast,Array.getElem?_eq_none hi]; refine wpAny_bind ?_
 first | refine wpAny_bind (wpAny_typeNameOfWhole_keyiter T (wpAny_pure ?_)) | refine wpAny_bind (wpAny_typeNameOf_keyiter T (wpAny_pure ?_))
 show wpAny _ _ (setField (.ref it) 0 .none >>= _) _ _ s; refine wpAny_bind (wpAny_setField ho hf (by simp) ?_)
 show wpAny _ _ (newExc (.type "StopIteration") [] >>= _) _ _ _; refine wpAny_bind ?_; simp only [newExc,newTuple]
 refine wpAny_bind (wpAny_newObj_type ?_ (by size_fits)); refine wpAny_bind (m:=firstArgMember _ _) (wpAny_of_eq (a:=Value.none) (by first | rfl | (simp only [firstArgMember]; rfl)) ?_)
 refine wpAny_newObj_type ?_ (by size_fits); simp only [raiseNew]
 refine wpAny_bind (wpAny_handled ?_); rw [show A.in1.handled = none from hh]; refine wpAny_bind (wpAny_pure (wpAny_throw ?_))
 refine wpAny_bind (wpAny_isInstance (T:="StopIteration") (b:=true) ⟨_,Heap.get?_push_size _ rfl,rfl⟩ isSubtype_stop ?_)
 exact wpAny_pure (hQ _ (((Heap.SameBut.update ..).extBut.push _).push _))
noncomputable def Bt (es:Array DictEntry) (i:Nat) (v:Value):Prop:=∃ h:i < es.size,v = es[i].key
theorem yP (hh:A.handled = none) (I:Addr) (Ow:d ≠ I):Walks prog w A I [I,d] [I] es.size (Bt es) (fun i h => h.IsKeyIter I d i es.size ep ∧ j_ h d es ep) where
 sub:=fun b hb => by
  rw [List.mem_singleton] at hb; rw [hb]; exact List.mem_cons_self
 frame:=fun _ _ _ st hk => ⟨st.1.at fun o e => hk I List.mem_cons_self o e,st.2.to fun o e => hk d (List.mem_cons_of_mem _ List.mem_cons_self) o e⟩
 item:=fun i s Q E hi st hQ => Bs st.1 st.2 hi fun h' k1 k2 =>
  hQ _ h' s.toks ⟨hi,rfl⟩ ⟨k1,st.2.to fun o e => k2.extBut d o Ow e⟩ fun b o hb e => k2.extBut b o (fun z => hb (by rw [z]; exact List.mem_singleton_self _)) e
 done:=fun s Q E st hQ => Ee hh st.1 st.2 (Nat.le_refl _) fun h' k => hQ h' s.toks fun b o hb e => k b o (fun z => hb (by rw [z]; exact List.mem_singleton_self _)) e
 self:=fun _ _ _ _ st hQ => wpAny_pyIter_keyiter st.1 hQ
theorem Ef (lo:(d == sysModules) = false):KdlSrc prog w "dict" d d es.size (Bt es) (fun h => j_ h d es ep) where
 type:=fun _ x => x.ty
 there:=fun _ x => ⟨x.lt,x.lt⟩
 keep:=fun _ _ x hk => x.to fun o e => hk d (.inl rfl) o e
 notList:=by decide
 notTuple:=by decide
 hint:=fun _ _ _ _ x q => kdl_hint_dict x.ty q
 iter:=fun _ _ hh x => ⟨_,_,(fun _ _ q => Br lo x q),yP hh _ (Nat.ne_of_lt x.lt),⟨⟨_,Heap.get?_push_size _ rfl,rfl,rfl⟩,x.to fun o e => Heap.get?_push_of_some _ e⟩⟩
end
end SO
namespace SO
open PySem PySem.W PyProof.Rows
section
variable {prog:Program} {w:World} {A:Around} {E:Value → Shared → Prop} {s:Shared} {d it:Addr} {es:Array DictEntry} {ep i:Nat}
theorem Eg {acc:Array Value} (h:ItemsOf (Bt es) acc es.size):acc.toList = es.toList.map (·.key):=by
 apply List.ext_getElem
 ·rw [Array.length_toList,List.length_map,Array.length_toList]; exact h.1
 ·intro i h1 h2
  have hi:i < acc.size:=by rw [Array.length_toList] at h1; exact h1
  obtain ⟨hz,e⟩:=h.2 i acc[i] (Array.getElem?_eq_getElem hi)
  rw [Array.getElem_toList,List.getElem_map,Array.getElem_toList,e]
theorem uO {Q:List Value → Shared → Prop} (hh:A.handled = none) (lo:(d == sysModules) = false) (x:j_ s.heap d es ep) (hn:es.size ≤ sizeLine)
  (h:∀ h' tk,s.heap.objs.size < h'.objs.size → (∀ b o,s.heap.get? b = some o → h'.get? b = some o) → Q (es.toList.map (·.key)) { s with heap:=h',toks:=tk }):wpAny (model prog w) A (collect (.ref d)) Q E s:=by
 unfold collect
 refine wpAny_bind (wpAny_runValue (codeAny_mono (R:=fun r s' => r = .ok (.ret (.ref s.heap.objs.size)) ∧ wpAny (model prog w) A (do
  let u ← load s.heap.objs.size
  match u.data with
  | .seq xs _ => pure xs.toList
  | _ => unsupported "internal:collect") Q E s') ?_ fun r s' q => ?_))
 ·refine codeAny_builtin entry_proto_collect' ?_
  show wpAny _ _ (do again (.builtin "list.__iadd__" ⟨[← newList [],.ref d],[]⟩)) _ _ s
  refine wpAny_bind (wpAny_newList (wpAny_pure ⟨Code.quiet_builtin _ (by decide +kernel),codeAny_builtin entry_list_iadd' ?_⟩) (Nat.zero_le _))
  have ne:=Nat.ne_of_gt x.lt
  refine kdl_extend (R:=fun r s' => r = .ok (.ret (.ref s.heap.objs.size)) ∧ wpAny (model prog w) A (do
   let u ← load s.heap.objs.size
   match u.data with
   | .seq xs _ => pure xs.toList
   | _ => unsupported "internal:collect") Q E s') (s:={ s with heap:=s.heap.push (seqObj "list" #[] 0) }) (Ef (es:=es) (ep:=ep) lo) hh (x.to fun o e => Heap.get?_push_of_some _ e) s.heap.objs.size ne ne (.ref s.heap.objs.size) 0 (Heap.get?_push_size _ rfl) (fun h' tk acc c hk hS GQ => ⟨rfl,?_⟩) hn
  refine wpAny_bind (wpAny_load hS ?_)
  show wpAny _ _ (pure acc.toList) Q E _
  rw [Eg GQ]
  exact wpAny_pure (h h' tk (Heap.lt_size hS) fun b o e => hk b o (Nat.ne_of_lt (Heap.lt_size e)) (Heap.get?_push_of_some _ e))
 ·obtain ⟨rfl,q⟩:=q
  exact q
end
noncomputable def lexLt:List Int → List Int → Bool
 | _,[] => false
 | [],_ :: _ => true
 | x :: xs,y :: ys => if x = y then lexLt xs ys else decide (x < y)
theorem jD:∀ xs:List Int,lexLt xs xs = false
 | [] => rfl
 | x :: xs => by
  show (if x = x then lexLt xs xs else _) = false
  rw [if_pos rfl]; exact jD xs
theorem o9:∀ {xs ys zs:List Int},lexLt xs ys = true → lexLt ys zs = true → lexLt xs zs = true:=by
 intro xs
 induction xs with
 | nil =>
  intro ys zs h1 h2
  cases zs with
  | nil => cases ys <;> cases h2
  | cons z zs => rfl
 | cons x xs ih =>
  intro ys zs h1 h2
  cases ys with
  | nil => cases h1
  | cons y ys =>
   cases zs with
   | nil => cases h2
   | cons z zs =>
    replace h1:(if x = y then lexLt xs ys else decide (x < y)) = true:=h1
    replace h2:(if y = z then lexLt ys zs else decide (y < z)) = true:=h2
    show (if x = z then lexLt xs zs else decide (x < z)) = true
    by_cases e1:x = y
    ·rw [if_pos e1] at h1
     subst e1
     by_cases e2:x = z
     ·rw [if_pos e2] at h2 ⊢
      exact ih h1 h2
     ·rw [if_neg e2] at h2 ⊢
      exact h2
    ·rw [if_neg e1] at h1
     have XJ:=of_decide_eq_true h1
     by_cases e2:y = z
     ·subst e2
      rw [if_neg e1]
      exact h1
     ·rw [if_neg e2] at h2
      have Mi:=of_decide_eq_true h2
      rw [if_neg (by lia)]
      exact decide_eq_true (by lia)
theorem ik:∀ {xs ys:List Int},xs ≠ ys → lexLt xs ys = false → lexLt ys xs = true:=by
 intro xs
 induction xs with
 | nil =>
  intro ys h1 h2
  cases ys with
  | nil => exact absurd rfl h1
  | cons y ys => cases h2
 | cons x xs ih =>
  intro ys h1 h2
  cases ys with
  | nil => rfl
  | cons y ys =>
   replace h2:(if x = y then lexLt xs ys else decide (x < y)) = false:=h2
   show (if y = x then lexLt ys xs else decide (y < x)) = true
   by_cases e:x = y
   ·subst e
    rw [if_pos rfl] at h2 ⊢
    exact ih (fun z => h1 (by rw [z])) h2
   ·rw [if_neg e] at h2
    rw [if_neg (fun z => e z.symm)]
    have:=of_decide_eq_false h2
    exact decide_eq_true (by lia)
theorem ke {xs ys:List Int} (h:lexLt xs ys = true):lexLt ys xs = false:=by
 cases z:lexLt ys xs with
 | false => rfl
 | true =>
  have:=o9 h z
  rw [jD] at this
  cases this
section
variable {prog:Program} {w:World} {A:Around} {E:Value → Shared → Prop} {s:Shared}
theorem Ib {fin:Bool} {Q:Bool → Shared → Prop}:∀ {us vs:List Value} {xs ys:List Int} (i:Nat),IntsAre us xs → IntsAre vs ys → fin = decide (xs.length < ys.length) → Q (lexLt xs ys) s →
  KatLex prog w A true fin Q (us.zip vs) i s:=by
 intro us vs xs ys i h1
 induction h1 generalizing vs ys i with
 | nil =>
  intro h2 hf h
  refine kat_nil ?_
  cases h2 with
  | nil => rw [hf]; exact h
  | cons n t r => rw [hf]; exact h
 | cons n t r ih =>
  intro h2 hf h
  cases h2 with
  | nil =>
   refine kat_nil ?_
   rw [hf]; exact h
  | @cons m u Ff Ic r2 =>
   refine kat_cons (wpAny_eqBool_int ?_)
   rename_i Kj Vz
   replace h:Q (if n = m then lexLt Vz Ic else decide (n < m)) s:=h
   by_cases e:n = m
   ·subst e
    rw [beq_self_eq_true]
    refine kat_yes (ih (i + 1) r2 ?_ ?_)
    ·rw [hf]
     simp only [List.length_cons,Nat.add_lt_add_iff_right]
    ·rw [if_pos rfl] at h; exact h
   ·rw [beq_eq_false_iff_ne.mpr e]
    rw [if_neg e] at h
    refine kat_no ?_
    by_cases hi:i = 0
    ·subst hi
     exact oneLt_int h
    ·rw [show (true && i == 0) = false by rw [Bool.true_and]; exact beq_eq_false_iff_ne.mpr hi]
     exact kat_one _ _ (lt_int h)
noncomputable def jS (h:Heap) (v:Value) (xs:List Int):Prop:=xs ≠ [] ∧ ∃ a o aN n,v = .ref a ∧ h.get? a = some o ∧ o.cls = .type "tuple" ∧ o.data = .seq aN n ∧ IntsAre aN.toList xs
theorem jS.to {h h':Heap} {v:Value} {xs:List Int} (t:jS h v xs) (hk:∀ b o,h.get? b = some o → o.cls = .type "tuple" → h'.get? b = some o):jS h' v xs:=by
 obtain ⟨ne,a,o,aN,n,e,ho,hc,r⟩:=t
 exact ⟨ne,a,o,aN,n,e,hk a o ho hc,hc,r⟩
theorem KU {Q:Bool → Shared → Prop} {x y:Value} {xs ys:List Int} (h1:jS s.heap x xs) (h2:jS s.heap y ys) (h:Q (lexLt xs ys) s):wpAny (model prog w) A (keyLt' (tuples' true) x y) Q E s:=by
 obtain ⟨_,a,o,aN,n,rfl,ho,hc,hd,hi⟩:=h1
 obtain ⟨_,b,o2,d0,n2,rfl,zV,yg,hd2,Mq⟩:=h2
 refine kat_lt ho hd zV hd2 (Ib 0 hi Mq ?_ h)
 rw [← hi.length,← Mq.length,Array.length_toList,Array.length_toList]
inductive b8 (h:Heap):List Value → List (List Int) → Prop
 | nil:b8 h [] []
 | cons {v:Value} {x:List Int} {vs:List Value} {xs:List (List Int)}:jS h v x → b8 h vs xs → b8 h (v :: vs) (x :: xs)
theorem b8.to {h h':Heap} {vs:List Value} {xs:List (List Int)} (t:b8 h vs xs) (hk:∀ b o,h.get? b = some o → o.cls = .type "tuple" → h'.get? b = some o):b8 h' vs xs:=by
 induction t with
 | nil => exact .nil
 | cons a _ ih => exact .cons (a.to hk) ih
theorem b8.length {h:Heap} {vs:List Value} {xs:List (List Int)} (t:b8 h vs xs):vs.length = xs.length:=by
 induction t with
 | nil => rfl
 | cons _ _ ih => rw [List.length_cons,List.length_cons,ih]
theorem b8.at_ {h:Heap} {vs:List Value} {xs:List (List Int)} (t:b8 h vs xs):∀ i,i < vs.length → jS h (vs.getD i .none) (xs.getD i []):=by
 induction t with
 | nil => intro i hi; cases hi
 | cons a _ ih =>
  intro i hi
  cases i with
  | zero => exact a
  | succ i => exact ih i (Nat.lt_of_succ_lt_succ hi)
theorem b8.append {h:Heap} {vs TK:List Value} {xs TL:List (List Int)} (t:b8 h vs xs) (t2:b8 h TK TL):b8 h (vs ++ TK) (xs ++ TL):=by
 induction t with
 | nil => exact t2
 | cons a _ ih => exact .cons a ih
theorem b8.rev {h:Heap} {vs:List Value} {xs:List (List Int)} (t:b8 h vs xs):b8 h vs.reverse xs.reverse:=by
 induction t with
 | nil => exact .nil
 | cons a _ ih =>
  rw [List.reverse_cons,List.reverse_cons]
  exact ih.append (.cons a .nil)
theorem b8.VA {h:Heap} {vs:List Value} {xs:List (List Int)} (t:b8 h vs xs):∃ fs,KatTups h vs fs ∧ fs.length = vs.length ∧ ∀ v ∈ fs,∃ n u,v = .int n u:=by
 induction t with
 | nil => exact ⟨[],.nil,rfl,fun v m => by cases m⟩
 | cons a _ ih =>
  obtain ⟨fs,k,l,al⟩:=ih
  obtain ⟨ne,a,o,aN,n,rfl,ho,hc,hd,hi⟩:=a
  obtain ⟨aN⟩:=aN
  cases hi with
  | nil => exact absurd rfl ne
  | cons m u r =>
   refine ⟨_,KatTups.cons ho hc hd rfl k,by rw [List.length_cons,List.length_cons,l],fun v mv => ?_⟩
   rcases List.mem_cons.mp mv with rfl | mv
   ·exact ⟨_,_,rfl⟩
   ·exact al v mv
theorem Eh {vs:List Value} {xs:List (List Int)} {Q:SortKind → Shared → Prop} (t:b8 s.heap vs xs) (h0:0 < vs.length) (h:Q (tuples' true) s):wpAny (model prog w) A (keyKind' vs.toArray) Q E s:=by
 obtain ⟨fs,k,l,al⟩:=t.VA
 refine kat_kind (T:=.type "int") k (by rw [l]; exact h0) (fun v m => ?_) (by decide) h
 obtain ⟨n,u,rfl⟩:=al v m
 exact Looks.of_pure rfl
end
end SO
namespace SO
open PySem PySem.W PyProof.Rows
noncomputable def gz (xs:List (List Int)):Prop:=xs.Pairwise fun a b => lexLt b a = true
section
variable {vs:List Value} {xs:List (List Int)}
theorem xF {α β:Type}:∀ {vs:List α} {xs:List β},vs.length = xs.length → vs.reverse.zip xs.reverse = (vs.zip xs).reverse
 | [],[],_ => rfl
 | v :: vs,x :: xs,h => by
  have h':vs.length = xs.length:=Nat.succ.inj h
  rw [List.reverse_cons,List.reverse_cons,List.zip_cons_cons,List.reverse_cons,List.zip_append (by rw [List.length_reverse,List.length_reverse,h']),xF h']
  rfl
noncomputable def TM:Value → Int
 | .int n _ => n
 | _ => 0
noncomputable def keyOf (h:Heap):Value → List Int
 | .ref a => match h.get? a with
  | some o => match o.data with
   | .seq aN _ => aN.toList.map TM
   | _ => []
  | none => []
 | _ => []
theorem Ie {us:List Value} {ns:List Int} (h:IntsAre us ns):us.map TM = ns:=by
 induction h with
 | nil => rfl
 | cons n t _ ih => rw [List.map_cons,ih]; rfl
theorem o_ {h:Heap} {v:Value} {k:List Int} (t:jS h v k):keyOf h v = k:=by
 obtain ⟨_,a,o,aN,n,rfl,ho,_,hd,hi⟩:=t
 unfold keyOf
 dsimp only
 rw [ho]
 dsimp only
 rw [hd]
 exact Ie hi
theorem Ei {h:Heap} {vs:List Value} {xs:List (List Int)} (t:b8 h vs xs):vs.map (keyOf h) = xs:=by
 induction t with
 | nil => rfl
 | cons a _ ih => rw [List.map_cons,ih,o_ a]
noncomputable def rk (xs:List (List Int)) (k:List Int):Nat:=xs.countP fun z => lexLt z k
theorem qU {α:Type} {p q:α → Bool}:∀ {l:List α} {x:α},x ∈ l → (∀ z,p z = true → q z = true) → q x = true → p x = false → l.countP p < l.countP q
 | y :: l,x,m,h,hq,hp => by
  have le:l.countP p ≤ l.countP q:=List.countP_mono_left fun z _ => h z
  rcases List.mem_cons.mp m with e | m
  ·subst e
   rw [List.countP_cons_of_neg (by rw [hp]; exact Bool.false_ne_true),List.countP_cons_of_pos hq]
   lia
  ·have ih:=qU m h hq hp
   by_cases c:p y = true
   ·rw [List.countP_cons_of_pos c,List.countP_cons_of_pos (h y c)]
    lia
   ·rw [List.countP_cons_of_neg c]
    by_cases d:q y = true
    ·rw [List.countP_cons_of_pos d]; lia
    ·rw [List.countP_cons_of_neg d]; exact ih
theorem xG {xs:List (List Int)} {a b:List Int} (ha:a ∈ xs) (h:lexLt a b = true):rk xs a < rk xs b :=
 qU ha (fun z hz => o9 hz h) h (jD a)
theorem Fu {xs:List (List Int)} {a b:List Int} (ha:a ∈ xs) (hb:b ∈ xs):decide (rk xs a < rk xs b) = lexLt a b:=by
 cases z:lexLt a b with
 | true => exact decide_eq_true (xG ha z)
 | false =>
  refine decide_eq_false ?_
  by_cases e:a = b
  ·rw [e]; exact Nat.lt_irrefl _
  ·have:=xG hb (ik e z)
   lia
theorem Bu {xs:List (List Int)} (nd:xs.Nodup):(xs.map (rk xs)).Nodup:=by
 refine List.pairwise_map.mpr (List.Pairwise.imp_of_mem (fun {a b} ha hb ne => ?_) nd)
 intro e
 cases z:lexLt a b with
 | true => have:=xG ha z; lia
 | false => have:=xG hb (ik ne z); lia
end
section
variable {prog:Program} {w:World} {A:Around} {E:Value → Shared → Prop} {s:Shared} {vs:List Value} {xs:List (List Int)}
theorem Bv {a:Addr} {n:Nat} {P:PySem.Fin → Shared → Prop} (ho:s.heap.get? a = some (seqObj "list" vs.toArray n)) (t:b8 s.heap vs xs) (nd:xs.Nodup) (hz:vs.length ≤ sizeLine)
  (h:∀ zs:List (Value × List Int),zs.Perm (vs.zip xs) → gz (zs.map (·.2)) → P (.done (.ret .none)) { s with heap:=sortedHeap s.heap a vs (zs.map (·.1)).toArray }) :
  wpAny (model prog w) A (Builtin.«list.sort» ⟨[.ref a],[(Str.ofString "reverse",.bool true)]⟩) P E s:=by
 rw [list_sort_rev]
 have ha:a < s.heap.objs.size:=Heap.lt_size ho
 have small:vs.toArray.size ≤ sizeLine:=by rw [List.size_toArray]; exact hz
 obtain ⟨h1,e1⟩:∃ h1,h1 = s.heap.update a (Obj.mapSeq fun _ => (#[]:Array Value)):=⟨_,rfl⟩
 obtain ⟨c1,TN⟩:∃ c,h1.get? a = some (seqObj "list" #[] c):=⟨_,by rw [e1]; exact get?_update_seq ho fun _ => #[]⟩
 obtain ⟨h6,e6⟩:∃ h6,h6 = (h1.push (seqObj "tuple" vs.toArray 0)).push (seqObj "list" #[] 0):=⟨_,rfl⟩
 have Ms:h6.get? a = some (seqObj "list" #[] c1):=by rw [e6]; exact Heap.get?_push_of_some _ (Heap.get?_push_of_some _ TN)
 have t6:b8 h6 vs xs:=t.to fun b o hb hc => by
  rw [e6,e1]
  refine Heap.get?_push_of_some _ (Heap.get?_push_of_some _ ?_)
  have ne:a ≠ b:=fun z => by
   rw [← z,ho] at hb
   cases hb
   exact absurd (Value.type.inj hc) (by decide)
  exact (Heap.get?_update_other _ _ ne).trans hb
 refine wpAny_bind (listItems_at ho rfl (wpAny_bind (listUpdate_at ho rfl ?_ small (Nat.zero_le _))))
 rw [← e1]
 refine wpAny_bind (seqEpoch_at TN rfl (wpAny_bind (wpAny_newTuple ?_ (by show vs.length ≤ _; exact hz))))
 refine wpAny_bind (wpAny_newList ?_ (Nat.zero_le _)); refine wpAny_holding ?_
 show wpAny (model prog w) A _ P E { s with heap:=(h1.push (seqObj "tuple" vs.toArray 0)).push (seqObj "list" #[] 0) }
 rw [← e6]
 have ends:∀ zs:List (Value × List Int),zs.Perm (vs.zip xs) → gz (zs.map (·.2)) → P (.done (.ret .none)) { s with heap:=h6.update a (Obj.mapSeq fun _ => (zs.map (·.1)).toArray) }:=by
  intro zs z1 z2
  have:=h zs z1 z2
  unfold sortedHeap at this
  rw [← e1,← e6] at this
  exact this
 dsimp only
 rw [if_pos rfl]
 refine wpAny_bind (wpAny_rule ?_)
 by_cases h2:vs.toArray.size < 2
 ·rw [if_pos h2,if_pos h2]
  refine wpAny_bind (wpAny_pure ?_); rw [StateT.run_pure]; refine wpAny_bind (wpAny_pure ?_)
  dsimp only
  have VB:(vs.zip xs).length < 2:=by rw [List.length_zip,← t.length,Nat.min_self]; rw [List.size_toArray] at h2; exact h2
  have out:(((vs.toArray.zip vs.toArray).reverse.map (·.2)).reverse) = ((vs.zip xs).map (·.1)).toArray:=by
   rw [Array.map_reverse,Array.reverse_reverse]
   apply Array.toList_inj.mp
   rw [Array.toList_map,Array.toList_zip]
   show List.map _ (vs.zip vs) = List.map _ (vs.zip xs)
   rw [List.map_snd_zip (Nat.le_refl _),List.map_fst_zip (Nat.le_of_eq t.length)]
  refine wpAny_bind (seqEpoch_at Ms rfl (wpAny_bind (listUpdate_at Ms rfl ?_ (Nat.zero_le _) ?_)))
  ·show wpAny _ _ _ _ _ { s with heap:=h6.update a (Obj.mapSeq fun _ => (((vs.toArray.zip vs.toArray).reverse.map (·.2)).reverse)) }
   rw [out]
   simp only [bne_self_eq_false,Bool.false_eq_true,if_false]
   refine wpAny_pure (ends _ (List.Perm.refl _) ?_)
   unfold gz
   match (vs.zip xs),VB with
   | [],_ => exact .nil
   | [_],_ => exact List.pairwise_singleton _ _
  ·show (((vs.toArray.zip vs.toArray).reverse.map (·.2)).reverse).size ≤ _
   rw [out,List.size_toArray,List.length_map]; lia
 ·rw [if_neg h2,if_neg h2]
  have l2:2 ≤ vs.length:=by rw [List.size_toArray] at h2; lia
  obtain ⟨rs,er⟩:∃ rs,rs = vs.reverse:=⟨_,rfl⟩
  obtain ⟨ks,ek⟩:∃ ks,ks = xs.reverse:=⟨_,rfl⟩
  have Ox:b8 h6 rs ks:=by rw [er,ek]; exact t6.rev
  have lr:rs.length = vs.length:=by rw [er,List.length_reverse]
  have lk:rs.length = ks.length:=Ox.length
  have VC:ks.Nodup:=by rw [ek]; exact (List.reverse_perm xs).nodup_iff.mpr nd
  refine wpAny_bind (Eh t6 (by lia) ?_)
  have pr:(vs.toArray.zip vs.toArray).reverse = rs.toArray.zip rs.toArray:=by
   have:=kat_pairs true (ks:=vs) (vs:=vs) rfl
   rw [if_pos rfl] at this
   rw [this,er]; rfl
  rw [pr]
  obtain ⟨X,eX⟩:∃ X,X = rs.toArray.zip rs.toArray:=⟨_,rfl⟩
  rw [← eX]
  have xl:X.toList = rs.map fun v => (v,v):=by
   rw [eX,Array.toList_zip]
   show rs.zip rs = _
   rw [List.zip_eq_zipWith,List.zipWith_self]
  have kk:rs.map (keyOf h6) = ks:=Ei Ox
  have sX:∀ x ∈ X,∃ k,jS h6 x.1 k ∧ k ∈ ks:=fun x hx => by
   rw [← Array.mem_toList_iff,xl] at hx
   obtain ⟨v,hv,rfl⟩:=List.mem_map.mp hx
   obtain ⟨i,hi⟩:=List.getElem?_of_mem hv
   have li:i < rs.length:=(List.getElem?_eq_some_iff.mp hi).1
   have:=Ox.at_ i li
   rw [List.getD_eq_getElem?_getD,hi,List.getD_eq_getElem?_getD,List.getElem?_eq_getElem (by lia)] at this
   exact ⟨_,this,List.getElem_mem _⟩
  have C:TS.yM prog w A { s with heap:=h6 } (tuples' true) (fun x => ∃ k,jS h6 x.1 k ∧ k ∈ ks) fun x => rk ks (keyOf h6 x.1):=by
   rintro x y Q ⟨k,tk,mk⟩ ⟨l,tl,ml⟩ q
   replace q:Q (decide (rk ks (keyOf h6 x.1) < rk ks (keyOf h6 y.1))) { s with heap:=h6 }:=q
   rw [o_ tk,o_ tl,Fu mk ml] at q
   exact KU tk tl q
  have dX:TS.Di (fun x => rk ks (keyOf h6 x.1)) X:=by
   unfold TS.Di
   rw [xl,List.map_map]
   have:rs.map ((fun x:Keyed => rk ks (keyOf h6 x.1)) ∘ fun v => (v,v)) = ks.map (rk ks):=by
    rw [← kk,List.map_map]; rfl
   rw [this]
   exact Bu VC
  have zX:X.size = rs.length:=by rw [← Array.length_toList,xl,List.length_map]
  rw [if_pos (rfl:true = true)]
  refine wpAny_bind (wpAny_mono (TS.KS (Q:=fun _ av => ∃ Y pd g,av = SortSt.mk' (tuples' true) Y pd g none ∧ Y.toList.Perm X.toList ∧ TS.Up (fun x => rk ks (keyOf h6 x.1)) Y 0 X.size) C sX dX (by lia) fun Y pd g y1 y2 => ⟨Y,pd,g,rfl,y1,y2⟩) ?_ fun _ _ e => e)
  rintro ⟨⟨⟩,av⟩ s' ⟨rfl,Y,pd,g,rfl,y1,y2⟩
  dsimp only at y1 y2 ⊢
  have zY:Y.size = X.size:=by rw [← Array.length_toList,y1.length_eq,Array.length_toList]
  obtain ⟨zs,ez⟩:∃ zs:List (Value × List Int),zs = (Y.toList.map fun x => (x.2,keyOf h6 x.1)).reverse:=⟨_,rfl⟩
  have zp:zs.Perm (vs.zip xs):=by
   rw [ez]
   refine (List.reverse_perm _).trans ((y1.map _).trans ?_)
   rw [xl,List.map_map]
   have:rs.map ((fun x:Keyed => (x.2,keyOf h6 x.1)) ∘ fun v => (v,v)) = rs.zip ks:=by
    rw [← kk,List.zip_map_right,List.zip_eq_zipWith,List.zipWith_self,List.map_map]; rfl
   rw [this,er,ek,xF t.length]
   exact List.reverse_perm _
  have zf:gz (zs.map (·.2)):=by
   unfold gz
   rw [ez,List.map_reverse,List.pairwise_reverse,List.map_map,List.pairwise_map]
   have u:=y2.h_
   rw [← zY,TS.d_] at u
   have d:=List.pairwise_map.mp (dX.to y1)
   refine List.Pairwise.imp_of_mem (fun {a b} ha hb q => ?_) (List.Pairwise.and u d)
   obtain ⟨k,tk,mk⟩:=sX a (Array.mem_toList_iff.mp (y1.mem_iff.mp ha))
   obtain ⟨l,tl,ml⟩:=sX b (Array.mem_toList_iff.mp (y1.mem_iff.mp hb))
   have q1:rk ks (keyOf h6 a.1) ≤ rk ks (keyOf h6 b.1):=q.1
   have q2:rk ks (keyOf h6 a.1) ≠ rk ks (keyOf h6 b.1):=q.2
   show lexLt (keyOf h6 a.1) (keyOf h6 b.1) = true
   rw [o_ tk,o_ tl] at q1 q2 ⊢
   rw [← Fu mk ml]
   exact decide_eq_true (by lia)
  have out:(Y.map (·.2)).reverse = (zs.map (·.1)).toArray:=by
   apply Array.toList_inj.mp
   rw [Array.toList_reverse,Array.toList_map,ez,List.map_reverse,List.map_map]
   rfl
  have lz:zs.length ≤ sizeLine:=by
   have:=zp.length_eq
   rw [List.length_zip,← t.length,Nat.min_self] at this
   lia
  refine wpAny_bind (seqEpoch_at Ms rfl (wpAny_bind (listUpdate_at Ms rfl ?_ (Nat.zero_le _) ?_)))
  ·rw [if_pos rfl,out]
   simp only [bne_self_eq_false,Bool.false_eq_true,if_false]
   exact wpAny_pure (ends zs zp zf)
  ·rw [if_pos rfl,out,List.size_toArray,List.length_map]; exact Nat.le_succ_of_le lz
theorem wd {d:Addr} {es:Array DictEntry} {ep:Nat} {Q:Value → Shared → Prop} (hh:A.handled = none) (lo:(d == sysModules) = false) (x:j_ s.heap d es ep) (t:b8 s.heap (es.toList.map (·.key)) xs) (nd:xs.Nodup) (hz:es.size ≤ sizeLine)
  (h:∀ (h':Heap) (tk:Nat) (l:Addr) (c:Nat) (zs:List (Value × List Int)),(∀ b o,s.heap.get? b = some o → h'.get? b = some o) → s.heap.objs.size ≤ l → zs.Perm ((es.toList.map (·.key)).zip xs) → gz (zs.map (·.2)) →
   h'.get? l = some (seqObj "list" (zs.map (·.1)).toArray c) → Q (.ref l) { s with heap:=h',toks:=tk }) :
  wpAny (model prog w) A (call (.builtin "sorted") [.ref d] [(Str.ofString "reverse",.bool true)]) Q E s:=by
 refine call_function_entry_kw kind_sorted plain_sorted entry_sorted (args_sorted_rev _ _) ?_
 unfold Builtin.«sorted»; refine wpAny_bind (m:=checkCount "sorted" 1 1 _) (wpAny_pure ?_)
 have hn:es.size ≤ sizeLine:=hz
 obtain ⟨vs,ev⟩:∃ vs,vs = es.toList.map (·.key):=⟨_,rfl⟩
 have lv:vs.length = es.size:=by rw [ev,List.length_map,Array.length_toList]
 refine wpAny_bind (uO hh lo x hn fun h1 tk k0 k1 => ?_)
 rw [← ev] at t h ⊢
 refine wpAny_bind (wpAny_newList ?_ (by show vs.length ≤ _; lia))
 have gl:(h1.push (seqObj "list" vs.toArray 0)).get? h1.objs.size = some (seqObj "list" vs.toArray 0):=Heap.get?_push_size _ rfl
 show wpAny _ _ _ _ _ { s with heap:=h1.push (seqObj "list" vs.toArray 0),toks:=tk }
 refine wpAny_bind (wpAny_holding (wpAny_call_entry_kw slot_list_sort ⟨_,gl,rfl⟩ entry_list_sort (Bv gl (t.to fun b o e _ => Heap.get?_push_of_some _ (k1 b o e)) nd (by lia) fun zs z1 z2 => ⟨_,rfl,?_⟩) (args_list_sort_rev _ _)))
 obtain ⟨c,gc⟩:∃ c,(sortedHeap (h1.push (seqObj "list" vs.toArray 0)) h1.objs.size vs (zs.map (·.1)).toArray).get? h1.objs.size = some (seqObj "list" (zs.map (·.1)).toArray c) :=
  ⟨_,by unfold sortedHeap; exact get?_update_seq (Heap.get?_push_of_some _ (Heap.get?_push_of_some _ (get?_update_seq gl fun _ => #[]))) fun _ => (zs.map (·.1)).toArray⟩
 refine wpAny_pure ⟨_,rfl,h _ tk h1.objs.size c zs (fun b o e => ?_) ?_ z1 z2 gc⟩
 ·have e1:=k1 b o e
  have ne:h1.objs.size ≠ b:=Nat.ne_of_gt (Heap.lt_size e1)
  unfold sortedHeap
  refine (Heap.get?_update_other _ _ ne).trans (Heap.get?_push_of_some _ (Heap.get?_push_of_some _ ((Heap.get?_update_other _ _ ne).trans (Heap.get?_push_of_some _ e1))))
 ·exact Nat.le_of_lt k0
end
end SO
namespace L2
open PySem PySem.Spec PyProof.Rows
noncomputable def Bw (X:Cx) (f:Value) (ks:List Str) (r:List V → List V → Hp → VK → Prop):Prop :=
 ∀ (pins:List (Addr × Obj)) (s:Shared) (σ:St) (H:Hp) (xs zs:List V) (us ws:List Value) (Q:VK),Inv X pins σ H s → Vals xs us → Vals zs ws → r xs zs H Q →
  wpAny (model X.prog X.w) X.A (call f us (ks.zip ws)) (EP X pins σ Q) X.xe s
noncomputable def VD (r:List V → List V → Hp → VK → Prop) (t tk:TA):TE:=fun σ H Q => t σ H fun vs H1 => tk σ H1 fun zs H2 => r vs zs H2 Q
section
variable {X:Cx} {id:String} {ks:List Str} {r:List V → List V → Hp → VK → Prop} {x:Str} {p pos:Pos} {e:Expr} {es:List Expr} {zT:List Keyword} {t tk:TA}
theorem yQ (hc:Bw X (.builtin id) ks r) (hg:Gl X x) (hm:X.mg x = none) (hv:bootBuiltins x = some (.builtin id)) (ha:PA X (e :: es) t) (VE:PK X zT tk)
  (KW:(backToKw pos (keywordEach zT X.env)).filterMap (·.1) = ks:=by rfl) (hn:x ≠ "__name__":=by decide) (jV:(x == ("__debug__":Str)) = false:=by decide)
  (he:backTo pos (starEach (e :: es) X.env) = (false,eval e X.env) :: backTo pos (starEach es X.env):=by rfl) (hU:(backTo pos (starEach (e :: es) X.env)).any (·.1) = false:=by rfl)
  (GH:(backToKw pos (keywordEach zT X.env)).all (·.1.isSome) = true:=by rfl) (VF:(backToKw pos (keywordEach zT X.env)).any (·.1.isNone) = false:=by rfl):PE X (.Call (.Name x p) (e :: es) zT pos) (VD r t tk):=by
 intro pins s σ H Q I h
 refine wpAny_Call_Name_kw (jb I hg hm hv ?_ hn jV)
 refine callWith_kw (c_ (ha pos pins s σ H _ I h) fun us s1 q1 => ?_) he hU GH VF
 obtain ⟨vs,H1,I1,r1,q1⟩:=q1
 refine c_ (VE pos pins s1 σ H1 _ I1 q1) fun ws s2 q2 => ?_
 obtain ⟨zs,H2,I2,r2,q2⟩:=q2
 rw [KW]
 exact hc pins s2 σ H2 vs zs us ws Q I2 r1 r2 q2
end
noncomputable def iK (k:List Int):List Key:=k.map Sum.inl
theorem Oy (k:List Int):(iK k).map kV = k.map V.int:=by
 unfold iK
 rw [List.map_map]
 rfl
theorem Bx {a b:List Int} (h:iK a = iK b):a = b:=by
 induction a generalizing b with
 | nil => cases b with
  | nil => rfl
  | cons => cases h
 | cons x a ih => cases b with
  | nil => cases h
  | cons y b =>
   injection h with h1 h2
   injection h1 with h1
   rw [h1,ih h2]
noncomputable def Ig (H:Hp) (v:V) (k:List Int):Prop:=∃ a,v = .ref a ∧ H a = some (.tup (k.map V.int))
noncomputable def By:List V → List V → Hp → VK → Prop:=fun xs zs H Q => ∃ (d:Addr) (aI:List (List Key × V)) (ks:List (List Int)),xs = [.ref d] ∧ zs = [.bl true] ∧ H d = some (.dT aI) ∧ aI.map (·.1) = ks.map iK ∧ ks.length ≤ sizeLine ∧ (∀ k ∈ ks,k ≠ []) ∧
 ∀ (l:Addr) (vs:List V) (outs:List (List Int)),H l = none → outs.Perm ks → SO.gz outs → Paired (Ig H) vs outs → Q (.ref l) (upd H l (.lst vs))
theorem Bz {xs:List Int} {us:List Value} (h:Vals (xs.map V.int) us):IntsAre us xs:=by
 induction xs generalizing us with
 | nil => cases h; exact .nil
 | cons x xs ih =>
  cases h with
  | cons a b =>
   obtain ⟨t,rfl⟩:=a
   exact .cons x t (ih b)
section
variable {X:Cx}
theorem uP (hc:X.calm = true):Bw X (.builtin "sorted") ["reverse"] By:=by
 intro pins s σ H xs zs us ws Q I rx rz h
 obtain ⟨d,aI,ks,rfl,rfl,hd,hk,XM,Ow,q⟩:=h
 obtain ⟨u,rfl,r1⟩:=vals1 rx
 obtain ⟨z,rfl,r2⟩:=vals1 rz
 cases r1
 cases r2
 obtain ⟨_,lo,xs,pr,o,es,ep,h1,h2,h3,h4,h5⟩:=(show bW X.prog X.w H s.heap d (.dT aI) from I.bK d _ hd)
 -- IE TQ values and Jt VG hold
 have key:∀ {aI:List (List Key × V)} {xs:List (List Key × Addr × Value)} {ks:List (List Int)},KT H aI xs → aI.map (·.1) = ks.map iK → (∀ k ∈ ks,k ≠ []) →
   SO.b8 s.heap (xs.map fun x => Value.ref x.2.1) ks ∧ xs.map (·.1) = ks.map iK ∧ ∀ z ∈ (xs.map fun x => Value.ref x.2.1).zip ks,∃ a,z.1 = .ref a ∧ H a = some (.tup (z.2.map V.int)):=by
  intro aI xs ks pr
  induction pr generalizing ks with
  | nil =>
   intro e _
   cases ks with
   | nil => exact ⟨.nil,rfl,fun z m => by cases m⟩
   | cons => cases e
  | @cons p x ps ys a _ ih =>
   intro e ne
   cases ks with
   | nil => cases e
   | cons k ks =>
    injection e with e1 e2
    replace e1:p.1 = iK k:=e1
    obtain ⟨i1,i2,i3⟩:=ih e2 fun k m => ne k (List.mem_cons_of_mem _ m)
    have ht:H x.2.1 = some (.tup (k.map V.int)):=by rw [← Oy,← e1]; exact a.2.1
    obtain ⟨_,aN,rv,o,g1,g2,n,g3⟩:=(show bW X.prog X.w H s.heap x.2.1 (.tup (k.map V.int)) from I.bK _ _ ht)
    refine ⟨.cons ⟨ne k List.mem_cons_self,x.2.1,o,aN.toArray,n,rfl,g1,g2,g3,Bz rv⟩ i1,?_,fun z m => ?_⟩
    ·rw [List.map_cons,List.map_cons,i2,← a.1,e1]
    ·rcases List.mem_cons.mp m with m | m
     ·rw [m]; exact ⟨_,rfl,ht⟩
     ·exact i3 z m
 obtain ⟨t,ek,hz⟩:=key pr hk Ow
 have nd:ks.Nodup:=by
  rw [ek] at h5
  exact List.Pairwise.of_map iK (fun a b z e => z (by rw [e])) h5
 have ev:es.toList.map (·.key) = xs.map fun x => Value.ref x.2.1:=by rw [h4,List.map_map]; rfl
 have lv:es.size = ks.length:=by
  have:=congrArg List.length h4
  rw [Array.length_toList,List.length_map] at this
  have l2:=t.length
  rw [List.length_map] at l2
  lia
 have x:SO.j_ s.heap d es ep:=⟨o,h1,h2.1,h3⟩
 refine SO.wd (I.ok.hd hc) lo x (by rw [ev]; exact t) nd (by lia) fun h' tk l c zs kp hl z1 z2 g => ?_
 rw [ev] at z1
 have all:∀ z ∈ zs,∃ a,z.1 = .ref a ∧ H a = some (.tup (z.2.map V.int)):=fun z m => hz z (z1.mem_iff.mp m)
 have mk:∀ {zs:List (Value × List Int)},(∀ z ∈ zs,∃ a,z.1 = .ref a ∧ H a = some (.tup (z.2.map V.int))) → ∃ vs,Vals vs (zs.map (·.1)) ∧ Paired (Ig H) vs (zs.map (·.2)):=by
  intro zs
  induction zs with
  | nil => intro _; exact ⟨[],.nil,.nil⟩
  | cons z zs ih =>
   intro al
   obtain ⟨vs,v1,v2⟩:=ih fun y m => al y (List.mem_cons_of_mem _ m)
   obtain ⟨a,e1,e2⟩:=al z List.mem_cons_self
   exact ⟨.ref a :: vs,.cons e1 v1,.cons ⟨a,rfl,e2⟩ v2⟩
 obtain ⟨vs,v1,v2⟩:=mk all
 have op:(zs.map (·.2)).Perm ks:=by
  have:=z1.map (·.2)
  rwa [List.map_snd_zip (Nat.le_of_eq t.length.symm)] at this
 have lz:vs.length ≤ sizeLine:=by
  have e1:=v1.length
  have e2:=op.length_eq
  rw [List.length_map] at e1 e2
  lia
 exact ⟨.ref l,_,I.laid (t':=tk) kp hl (show bW X.prog X.w _ h' _ (.lst vs) from ⟨lz,_,c,v1,g⟩),rfl,q l vs _ (I.bK.fresh hl) op z2 v2⟩
end
end L2
namespace SO
open PySem PySem.W PyProof.Rows
section
variable {prog:Program} {w:World} {A:Around} {E:Value → Shared → Prop} {s:Shared}
end
end SO
namespace SO
open PySem PySem.W PyProof.Rows
section
variable {prog:Program} {w:World} {A:Around} {E:Value → Shared → Prop} {I l S:Addr} {us:List Value} {ns:List Int} {d:Value} {R:Result → Shared → Prop}
end
end SO
namespace MN
open PySem PySem.Spec L2
open PyProof.Rows hiding St kindOf
noncomputable def uQ:List Key → Option (List Int)
 | [] => some []
 | .inl i :: r => (uQ r).map (i :: ·)
 | .inr _ :: _ => none
noncomputable def m8:List (List Key) → Option (List (List Int))
 | [] => some []
 | k :: r => match uQ k,m8 r with
  | some a,some b => some (a :: b)
  | _,_ => none
theorem Ej:∀ {k:List Key} {a:List Int},uQ k = some a → k = iK a:=by
 intro k
 induction k with
 | nil => intro a h; cases h; rfl
 | cons x r ih =>
  intro a h
  cases x with
  | inl i =>
   replace h:(uQ r).map (i :: ·) = some a:=h
   cases z:uQ r with
   | none => rw [z] at h; cases h
   | some b =>
    rw [z] at h; cases h
    rw [ih z]; rfl
  | inr x => cases h
theorem BA:∀ {l:List (List Key)} {ks:List (List Int)},m8 l = some ks → l = ks.map iK:=by
 intro l
 induction l with
 | nil => intro ks h; cases h; rfl
 | cons k r ih =>
  intro ks h
  unfold m8 at h
  cases z1:uQ k with
  | none => rw [z1] at h; cases h
  | some a =>
   cases z2:m8 r with
   | none => rw [z1,z2] at h; cases h
   | some b =>
    rw [z1,z2] at h; cases h
    rw [Ej z1,ih z2]; rfl
theorem Ek (a:List Int):uQ (iK a) = some a:=by
 induction a with
 | nil => rfl
 | cons x a ih => show (uQ (iK a)).map (x :: ·) = _; rw [ih]; rfl
theorem BB (ks:List (List Int)):m8 (ks.map iK) = some ks:=by
 induction ks with
 | nil => rfl
 | cons k ks ih => rw [List.map_cons]; unfold m8; rw [Ek,ih]
noncomputable def IY (a b:List Int):Bool:=!(SO.lexLt a b)
noncomputable def h_ (ks:List (List Int)):List (List Int):=ks.mergeSort IY
theorem ef (ks:List (List Int)):(h_ ks).Perm ks:=List.mergeSort_perm ks IY
theorem jE {ks:List (List Int)} (nd:ks.Nodup):SO.gz (h_ ks):=by
 have h1:(h_ ks).Pairwise fun a b => IY a b = true:=by
  refine List.pairwise_mergeSort (fun a b c h1 h2 => ?_) (fun a b => ?_) ks
  ·unfold IY at h1 h2 ⊢
   rw [Bool.not_eq_true'] at h1 h2 ⊢
   by_cases e1:a = b
   ·rw [e1]; exact h2
   ·by_cases e2:b = c
    ·rw [← e2]; exact h1
    ·exact SO.ke (SO.o9 (SO.ik e2 h2) (SO.ik e1 h1))
  ·unfold IY
   cases z:SO.lexLt a b with
   | false => rfl
   | true => rw [SO.ke z]; rfl
 have h2:(h_ ks).Nodup:=(ef ks).nodup_iff.mpr nd
 refine List.Pairwise.imp (fun {a b} h => ?_) (h1.and h2)
 have z:SO.lexLt a b = false:=by
  have:=h.1
  unfold IY at this
  rwa [Bool.not_eq_true'] at this
 exact SO.ik h.2 z
theorem jm {ks:List (List Int)} (h:SO.gz ks):ks.Nodup:=List.Pairwise.imp (fun {a b} h e => by rw [e,SO.jD] at h; cases h) h
theorem uR {a b:List (List Int)} (p:a.Perm b) (fa:SO.gz a) (fb:SO.gz b):a = b :=
 List.Perm.eq_of_pairwise (fun x y _ _ h1 h2 => by rw [SO.ke h1] at h2; cases h2) fa fb p
noncomputable def tupI (k:List Int):Val:=.tup (k.map .int)
noncomputable def BC (d:Val) (st:ah):Res Val:=match d with
 | .loc n => match st[n]? with
  | some (.dT aI) => match m8 (aI.map (·.1)) with
   | some ks => if ks.length ≤ sizeLine ∧ ks.all (fun k => !k.isEmpty) = true then .ok (.loc st.length) (st ++ [.lst ((h_ ks).map tupI)]) else .bad
   | none => .bad
  | _ => .bad
 | _ => .bad
noncomputable def jn (m:ME):ME:=fun μ st => (m μ st).bind BC
theorem xH {n:Nat} {st:ah} {aI:List (List Key × Val)} {ks:List (List Int)} (h1:st[n]? = some (.dT aI)) (h2:aI.map (·.1) = ks.map iK) (h3:ks.length ≤ sizeLine) (h4:∀ k ∈ ks,k ≠ []) :
  BC (.loc n) st = .ok (.loc st.length) (st ++ [.lst ((h_ ks).map tupI)]):=by
 unfold BC
 dsimp only
 rw [h1]
 dsimp only
 rw [h2,BB]
 dsimp only
 rw [if_pos ⟨h3,List.all_eq_true.mpr fun k m => by
  cases k with
  | nil => exact absurd rfl (h4 _ m)
  | cons => rfl⟩]
theorem BD {K:PySem.W.Frag} {ρ:List Addr} {H:Hp} {vs:List V} {ks:List (List Int)} (p:Paired (Ig H) vs ks):aZ K ρ H (ks.map tupI) vs:=by
 induction p with
 | nil => exact aZ.nil
 | cons a _ ih =>
  obtain ⟨b,rfl,hb⟩:=a
  exact aZ.cons (Rl.t_ hb (aZ.ints _)) ih
section
variable {X:Cx} {E:XK} {x:Str} {p pos cp kp:Pos} {e:Expr} {md:ME} {j:Nat}
theorem uS (hc:X.calm = true) (hg:Gl X x) (hm:X.mg x = none) (hv:bootBuiltins x = some (.builtin "sorted")) (ha:PE X e (tE X E md)) (hn:x ≠ "__name__":=by decide) (jV:(x == ("__debug__":Str)) = false:=by decide)
  (he:starEach [e] X.env = (false,eval e X.env) :: starEach [] X.env:=by rfl):PE X (.Call (.Name x p) [e] [⟨some "reverse",.Constant (.bool true) j cp,kp⟩] pos) (tE X E (jn md)):=by
 refine PE.imp (yQ (uP hc) hg hm hv (iA ha rH he) (CV ES Gv) (by rfl) hn jV (by rw [he]; rfl) (by rw [he]; rfl) (by rfl) (by rfl)) ?_
 rintro σ H Q ⟨μ,ρ,st,rs,sr,h⟩
 refine go μ ρ st rs sr h fun d aQ ρ1 H1 v e1 bU r1 h1 => ?_
 show By [v] [.bl true] H1 Q
 cases d with
 | loc n =>
  obtain ⟨a,rfl,ha⟩:=r1.fA
  unfold BC at h1
  dsimp only at h1
  cases hn:aQ[n]? with
  | none => rw [hn] at h1; exact h1.elim
  | some c =>
   rw [hn] at h1
   cases c with
   | dT aI =>
    obtain ⟨jL,hd,pr⟩:=bU.cell n _ a hn ha
    dsimp only at h1
    cases hk:m8 (aI.map (·.1)) with
    | none => rw [hk] at h1; exact h1.elim
    | some ks =>
     rw [hk] at h1
     dsimp only at h1
     by_cases hz:ks.length ≤ sizeLine ∧ ks.all (fun k => !k.isEmpty) = true
     ·rw [if_pos hz] at h1
      refine ⟨a,jL,ks,rfl,rfl,hd,by rw [← pr.1]; exact BA hk,hz.1,fun k m z => ?_,fun l vs outs hl op fo pv => ?_⟩
      ·have:=List.all_eq_true.mp hz.2 k m
       rw [z] at this; cases this
      ·have nd:ks.Nodup:=op.nodup_iff.mp (jm fo)
       have eo:outs = h_ ks:=uR (op.trans (ef ks).symm) fo (jE nd)
       rw [eo] at pv
       obtain ⟨k1,k2,k3⟩:=iE bU (BD pv) hl
       exact h1 _ _ _ k1 k2 k3
     ·rw [if_neg hz] at h1; exact h1.elim
   | _ => exact h1.elim
 | _ => exact h1.elim
end
noncomputable def uT:List Val → Option (List Int)
 | [] => some []
 | .int i :: r => (uT r).map (i :: ·)
 | _ :: _ => none
theorem BE (a:List Int):uT (a.map Val.int) = some a:=by
 induction a with
 | nil => rfl
 | cons x a ih => show (uT (a.map Val.int)).map (x :: ·) = _; rw [ih]; rfl
section
variable {X:Cx} {E:XK}
end
section
variable {X:Cx} {E:XK}
variable {x:Str} {p pos kp:Pos} {e ed:Expr} {m md:ME}
end
end MN
namespace PM
open PySem PySem.Spec L2 MN
open PyProof.Rows hiding St
end PM
namespace PM
open PySem PySem.Spec L2 MN
open PyProof.Rows hiding St
noncomputable def lY:FN:=jx 3 3 (j8 (aa 0) (aa 1) (ai cg (iG (aa 0) (aa 1) (mC (.int 0))) (aa 2)))
noncomputable def dq:FN:=jx 2 2 (aF (gI (b_ (ai hZ (aa 0) (mC (.int 0)))) (bO (aa 1)) bG) (bO (ai bx (aa 1) (aa 0))))
noncomputable def bA:FN:=jx 2 7 (aF (aK 2 (fK ak)) (aF (aK 3 (aa 0)) (aF (aK 4 (mC (.int 4))) (aF (gI (b_ (ai hZ (ai bx (aa 0) (mC (.int 3))) (mC (.int 0)))) (aF (aK 3 (ai bh (aa 0) (mC (.int 3)))) (aK 4 (mC (.int 100)))) bG) (aF (d9 (bJ (ae (aa 1) ak)) (aName 5) (aF (aK 6 (ai bx (aa 3) (aa 4))) (aF (aK 3 (ai bh (aa 3) (aa 4))) (aF (gI (gK (b_ (ai hZ (aa 4) (mC (.int 4)))) (b_ (ai hZ (ai bx (ai bh (aa 0) (mC (.int 256))) (mC (.int 8))) (aa 5)))) (aK 6 (ai bx (ai bh (aa 0) (mC (.int 2048))) (mC (.int 100)))) bG) (dc (jh cw (aa 2) (ae (aa 6) ak))))))) (bO (aq oO (ae (aa 2) ak))))))))
noncomputable def dH:FN:=jx 2 3 (aF (aK 2 (cO 2 [0] (fe (aa 1)) (i4 [(aName 0),(aName 1)]) cj (gH (ae (aa 0) (ae (aq PM.bC (ae (aa 2) (ae (aa 1) ak))) ak))))) (bO (cO 1 [] (fe (aa 2)) (aName 0) (b_ (ai m5 (ai de (aa 0) (mC (.int 1))) (mC (.int 0)))) (aa 0))))
noncomputable def ba:FN:=jx 2 6 (aF (aK 2 j7) (aF (d9 (fe (aa 1)) (aName 3) (j8 (aa 2) (ai de (aa 3) (mC (.int 0))) (ai cg (iG (aa 2) (ai de (aa 3) (mC (.int 0))) (mC (.int 0))) (ai de (aa 3) (mC (.int 1)))))) (aF (aK 4 (fK ak)) (aF (d9 (fe (jn (aa 2))) (aName 5) (gI (b_ (ai m5 (aq PM.dq (ae (aa 0) (ae (ai ie (aa 2) (aa 5)) ak))) (mC (.int 0)))) (dc (jh cw (aa 4) (ae (gH (ae (aa 5) (ae (aq PM.dq (ae (aa 0) (ae (ai ie (aa 2) (aa 5)) ak))) ak))) ak))) bG)) (bO (aa 4))))))
noncomputable def dE:FN:=jx 2 3 (aF (gI (iZ (dB (b_ (vS "list" (aa 0)))) (b_ (ai m5 (aq d8 (ae (aa 0) ak)) (aq d8 (ae (aa 1) ak))))) (bO (mC (.bl false))) bG) (aF (d9 (bJ (ae (aq d8 (ae (aa 1) ak)) ak)) (aName 2) (aF (gI (iZ (dB (b_ (vS "tuple" (ai de (aa 0) (aa 2))))) (iZ (b_ (ai m5 (aq d8 (ae (ai de (aa 0) (aa 2)) ak)) (mC (.int 2)))) (dB (b_ (aq PM.e9 (ae (ai de (ai de (aa 0) (aa 2)) (mC (.int 1))) ak)))))) (bO (mC (.bl false))) bG) (gI (iZ (dB (b_ (vS "tuple" (ai de (ai de (aa 0) (aa 2)) (mC (.int 0)))))) (b_ (ai m5 (cO 1 [] (fe (ai de (ai de (aa 0) (aa 2)) (mC (.int 0)))) (aName 0) (dB (b_ (aq PM.e9 (ae (aa 0) ak)))) (aa 0)) (fK ak)))) (bO (mC (.bl false))) bG))) (bO (ai hZ (aa 0) (aa 1)))))
noncomputable def dI:FN:=jx 4 7 (aF (aK 4 (fK ak)) (aF (d9 (bJ (ae (aa 3) ak)) (aName 5) (aF (aK 6 (aq PM.bA (ae (aq PM.aL (ae (aa 0) (ae (ai cg (aa 1) (ai cU (mC (.int 2)) (aa 5))) ak))) (ae (aa 2) ak)))) (dc (jh cw (aa 4) (ae (gH (ae (aa 6) (ae (aq PM.bS (ae (aq PM.aL (ae (aa 0) (ae (ai cg (ai cg (aa 1) (ai cU (mC (.int 2)) (aa 5))) (mC (.int 1))) ak))) ak)) ak))) ak))))) (bO (aa 4))))
noncomputable def dJ:FN:=jx 2 2 (bO (aq PM.dH (ae (aa 0) (ae (cO 1 [1] (fe (jn (aa 1))) (aName 0) cj (gH (ae (aa 0) (ae (ai ie (aa 1) (aa 0)) ak)))) ak))))
end PM
namespace PG
open PySem PySem.Spec L2 MN
open PyProof.Rows hiding St kindOf
end PG
namespace PG
open PySem PySem.Spec L2 MN
open PyProof.Rows hiding St kindOf
noncomputable abbrev aW:=List Int × Int
noncomputable def tV (t:aW):Val:=.tup [tupI t.1,.int t.2]
noncomputable def eD (t:aW):List Key × Val:=(iK t.1,.int t.2)
noncomputable def a_ (A:List aW) (k:List Int):Int:=((A.find? fun p => decide (p.1 = k)).map (·.2)).getD 0
noncomputable def gh (A:List aW) (k:List Int) (v:Int):List aW:=if A.any (fun p => decide (p.1 = k)) then A.map (fun p => if p.1 = k then (p.1,v) else p) else A ++ [(k,v)]
theorem BF (a k:List Int):decide (iK a = iK k) = decide (a = k):=by
 by_cases h:a = k
 ·rw [h,decide_eq_true rfl,decide_eq_true rfl]
 ·rw [decide_eq_false h,decide_eq_false fun e => h (Bx e)]
theorem xI (k:List Int):∀ A:List aW,sj (A.map eD) (iK k) = (A.find? fun p => decide (p.1 = k)).map fun p => Val.int p.2
 | [] => rfl
 | p :: A => by
  unfold sj
  rw [List.map_cons,List.find?_cons,List.find?_cons]
  show Option.map _ (match decide (iK p.1 = iK k) with | true => some (eD p) | false => _) = _
  rw [BF]
  cases decide (p.1 = k) with
  | true => rfl
  | false => exact xI k A
theorem BG (k:List Int):∀ A:List aW,((A.map eD).any fun kv => decide (kv.1 = iK k)) = A.any fun p => decide (p.1 = k)
 | [] => rfl
 | p :: A => by
  rw [List.map_cons,List.any_cons,List.any_cons,BG k A]
  show (decide (iK p.1 = iK k) || _) = _
  rw [BF]
theorem El (A:List aW) (k:List Int) (v:Int):yD (A.map eD) (iK k) (.int v) = (gh A k v).map eD:=by
 unfold yD gh
 rw [BG]
 by_cases h:(A.any fun p => decide (p.1 = k)) = true
 ·rw [if_pos h,if_pos h,List.map_map,List.map_map]
  refine List.map_congr_left fun p _ => ?_
  show (if iK p.1 = iK k then (iK p.1,Val.int v) else eD p) = eD (if p.1 = k then (p.1,v) else p)
  by_cases e:p.1 = k
  ·rw [if_pos e,if_pos (by rw [e])]; rfl
  ·rw [if_neg e,if_neg fun z => e (Bx z)]
 ·rw [if_neg h,if_neg h,List.map_append]; rfl
theorem qV (k:List Int):lQ (tupI k) = some (iK k):=by
 have h:∀ k:List Int,keysOf (k.map Val.int) = some (iK k):=by
  intro k
  induction k with
  | nil => rfl
  | cons x k ih =>
   rw [List.map_cons]
   unfold keysOf
   show (match keyOf (Val.int x),keysOf (k.map Val.int) with | some a,some b => some (a :: b) | _,_ => none) = _
   rw [ih]; rfl
 show keysOf (k.map Val.int) = _
 exact h k
theorem sH {st:ah} {d:Nat} {A:List aW} (h:st[d]? = some (.dT (A.map eD))) (k:List Int):kE st (.loc d) (tupI k) = some ((A.find? fun p => decide (p.1 = k)).map fun p => Val.int p.2):=by
 unfold kE
 dsimp only
 rw [h]
 dsimp only
 rw [qV,Option.map_some,xI]
theorem qX {st:ah} {d:Nat} {A:List aW} (h:st[d]? = some (.dT (A.map eD))) (hl:A.length < sizeLine) (k:List Int) (v:Int):j6 st (.loc d) (tupI k) (.int v) = some (st.set d (.dT ((gh A k v).map eD))):=by
 unfold j6
 dsimp only
 rw [h]
 dsimp only
 rw [if_pos (by rw [List.length_map]; exact hl),qV,Option.map_some,El]
theorem qY (A:List aW) (k:List Int):((A.find? fun p => decide (p.1 = k)).map fun p => Val.int p.2).getD (.int 0) = .int (a_ A k):=by
 unfold a_
 cases A.find? fun p => decide (p.1 = k) with
 | none => rfl
 | some p => rfl
theorem yR {A:List aW} {k:List Int} {v:Int}:(gh A k v).map (·.1) = if A.any (fun p => decide (p.1 = k)) then A.map (·.1) else A.map (·.1) ++ [k]:=by
 unfold gh
 by_cases h:(A.any fun p => decide (p.1 = k)) = true
 ·rw [if_pos h,if_pos h,List.map_map]
  refine List.map_congr_left fun p _ => ?_
  show (if p.1 = k then (p.1,v) else p).1 = p.1
  split <;> rfl
 ·rw [if_neg h,if_neg h,List.map_append]; rfl
theorem sI {A:List aW} {k:List Int}:(A.any fun p => decide (p.1 = k)) = true ↔ k ∈ A.map (·.1):=by
 rw [List.any_eq_true,List.mem_map]
 constructor
 ·rintro ⟨p,hp,e⟩; exact ⟨p,hp,of_decide_eq_true e⟩
 ·rintro ⟨p,hp,e⟩; exact ⟨p,hp,decide_eq_true e⟩
theorem pf {A:List aW} (h:(A.map (·.1)).Nodup) (k:List Int) (v:Int):((gh A k v).map (·.1)).Nodup:=by
 rw [yR]
 by_cases c:(A.any fun p => decide (p.1 = k)) = true
 ·rw [if_pos c]; exact h
 ·rw [if_neg c]
  refine List.nodup_append.mpr ⟨h,List.pairwise_singleton _ _,?_⟩
  intro a ha b hb e
  rw [List.mem_singleton.mp hb] at e
  exact c (sI.mpr (e ▸ ha))
theorem BH {A:List aW} {k:List Int} {v:Int}:(gh A k v).length ≤ A.length + 1:=by
 unfold gh
 split
 ·rw [List.length_map]; lia
 ·rw [List.length_append]; exact Nat.le_refl _
theorem uU {A:List aW} {k:List Int} {v:Int} {t:aW} (h:t ∈ gh A k v):t ∈ A ∨ t = (k,v):=by
 unfold gh at h
 split at h
 ·obtain ⟨p,hp,e⟩:=List.mem_map.mp h
  by_cases c:p.1 = k
  ·rw [if_pos c] at e; right; rw [← e,c]
  ·rw [if_neg c] at e; left; rw [← e]; exact hp
 ·rcases List.mem_append.mp h with h | h
  ·exact .inl h
  ·exact .inr (List.mem_singleton.mp h)
theorem uV {A:List aW} {k:List Int} (h:k ∈ A.map (·.1)):(k,a_ A k) ∈ A:=by
 unfold a_
 cases z:A.find? fun p => decide (p.1 = k) with
 | none =>
  rw [List.find?_eq_none] at z
  obtain ⟨p,hp,e⟩:=List.mem_map.mp h
  exact absurd (decide_eq_true e) (z p hp)
 | some p =>
  have e:=List.find?_some z
  have m:=List.mem_of_find?_eq_some z
  have e':p.1 = k:=of_decide_eq_true e
  show (k,p.2) ∈ A
  rw [← e']; exact m
theorem we {A:List aW} {k:List Int} {b:Int} (b0:0 ≤ b) (h:∀ t ∈ A,-b ≤ t.2 ∧ t.2 ≤ b):-b ≤ a_ A k ∧ a_ A k ≤ b:=by
 unfold a_
 cases z:A.find? fun p => decide (p.1 = k) with
 | none => show -b ≤ 0 ∧ (0:Int) ≤ b; lia
 | some p => exact h p (List.mem_of_find?_eq_some z)
end PG
namespace PG
open PySem PySem.Spec L2 MN
open PyProof.Rows hiding St kindOf
theorem set_dict (st:ah) (a b:List (List Key × Val)):(st ++ [Cell.dT a]).set st.length (.dT b) = st ++ [.dT b]:=uF st _ _
theorem Em (st:ah) (a:List (List Key × Val)):(st ++ [Cell.dT a])[st.length]? = some (.dT a):=by
 rw [List.getElem?_append_right (Nat.le_refl _),Nat.sub_self]; rfl
end PG
namespace PG
open PySem PySem.Spec L2 MN
open PyProof.Rows hiding St kindOf
noncomputable def IZ:Val → List Int
 | .tup us => (uT us).getD []
 | _ => []
theorem BI (k:List Int):IZ (tupI k) = k:=by
 show (uT (k.map Val.int)).getD [] = k
 rw [BE]; rfl
theorem xJ {s:ah} {d:Nat} {A:List aW} {k:List Int} (h:s[d]? = some (.dT (A.map eD))) (hk:k ∈ A.map (·.1)):ie (.loc d) (tupI k) s = .ok (.int (a_ A k)) s:=by
 unfold ie
 rw [sH h k]
 unfold a_
 cases z:A.find? fun p => decide (p.1 = k) with
 | none =>
  rw [List.find?_eq_none] at z
  obtain ⟨p,hp,e⟩:=List.mem_map.mp hk
  exact absurd (decide_eq_true e) (z p hp)
 | some p => rfl
theorem uW {m:ME} {μ:MN.Env} {st:ah}:jn m μ st = (m μ st).i7 BC:=ig
end PG
namespace PG
open PySem PySem.Spec L2 MN
open PyProof.Rows hiding St kindOf
end PG
namespace PG
open PySem PySem.Spec L2 MN
open PyProof.Rows hiding St kindOf
noncomputable def BJ:Val → aW
 | .tup [k,.int n] => (IZ k,n)
 | _ => ([],0)
theorem xK (t:aW):BJ (tV t) = t:=by
 show (IZ (tupI t.1),t.2) = t
 rw [BI]
theorem KY {k:List Int} {a:Nat} (h:a < k.length) (s:ah):de (tupI k) (.int (a:Int)) s = .ok (.int (k.getD a 0)) s:=by
 have:=at_getD (ns:=k) (i:=(a:Int)) (by lia) (by lia)
 rw [Int.toNat_natCast] at this
 exact vI this
end PG
namespace PG
open PySem PySem.Spec L2 MN
open PyProof.Rows hiding St kindOf
end PG
namespace PG
open PySem PySem.Spec L2 MN
open PyProof.Rows hiding St kindOf
end PG
namespace PG
open PySem PySem.Spec L2 MN
open PyProof.Rows hiding St kindOf
end PG
namespace PG
open PySem PySem.Spec L2 MN
open PyProof.Rows hiding St kindOf
end PG
namespace PG
open PySem PySem.Spec L2 MN
open PyProof.Rows hiding St kindOf
end PG
namespace PG
open PySem PySem.Spec L2 MN
open PyProof.Rows hiding St kindOf
section
variable {μ:MN.Env} {s s1 s2:ah} {a b:ME} {f:F2} {x y:Val} {r:Res Val} {t u:MT} {c:Bool} {B:MB}
theorem bo (h1:a μ s = .ok x s1) (h2:b μ s1 = .ok y s2):ai f a b μ s = f x y s2:=by
 show (a μ s).bind _ = _
 rw [h1]
 show (b μ s1).bind _ = _
 rw [h2]
theorem cG (h:a μ s = .ok (.bl c) s1):b_ a μ s = .ok c s1:=by rw [cE,h]; rfl
theorem uX (h1:t μ s = .ok false s1) (h2:u μ s1 = .ok false s2):iZ t u μ s = .ok false s2:=by rw [o4,h1,aw,n_,h2]
theorem ph (h:t μ s = .ok true s1):dB t μ s = .ok false s1:=by rw [xr,h]; rfl
theorem il (h:t μ s = .ok false s1):gI t B bG μ s = .nx μ s1:=by rw [dj,h,aG,fS]; rfl
theorem BK (h1:a μ s = .ok (.bl true) s1) (h2:b μ s1 = r):ug a b μ s = r:=by rw [v8,h1,aw,sv,h2]
end
theorem Ih (t:aW):uG 14 (tV t) = true:=by
 show (fT 12 (t.1.map Val.int) && (true && true)) = true
 rw [uH]; rfl
theorem Ii (D:List aW):fT 14 (D.map tV) = true:=lX fun u hu => by
 obtain ⟨t,_,rfl⟩:=List.mem_map.mp hu
 exact Ih t
theorem bT {s:ah} {n:Nat} {c:Cell} (h:s[n]? = some c) (more:ah):(s ++ more)[n]? = some c:=by
 have:n < s.length:=by
  rcases Nat.lt_or_ge n s.length with q | q
  ·exact q
  ·rw [List.getElem?_eq_none q] at h; cases h
 rw [List.getElem?_append_left this]; exact h
theorem KZ {s:ah} {n:Nat} {c:Cell} (h:s[n]? = some c):n < s.length:=by
 rcases Nat.lt_or_ge n s.length with q | q
 ·exact q
 ·rw [List.getElem?_eq_none q] at h; cases h
end PG
namespace PG
open PySem PySem.Spec L2 MN
open PyProof.Rows hiding St kindOf
theorem yS {s:ah} {d:Nat} {A:List aW} {k:List Int} {v:Int} (h:s[d]? = some (.dT (A.map eD))) (hl:A.length < sizeLine) :
  PM.lY [.loc d,tupI k,.int v] s = .ok .eR (s.set d (.dT ((gh A k (a_ A k + v)).map eD))):=by
 have hd:sm s (.loc d) = true:=by
  unfold sm
  dsimp only
  rw [h]
 have e1:iG (aa 0) (aa 1) (mC (.int 0)) [some (.loc d),some (tupI k),some (.int v)] s = .ok (.int (a_ A k)) s:=by
  show (if sm s (.loc d) = true then (match kE s (.loc d) (tupI k) with | some o => Res.ok (o.getD (.int 0)) s | none => .bad) else .bad) = _
  rw [if_pos hd,sH h k]
  show Res.ok (Option.getD _ (Val.int 0)) s = _
  rw [qY]
 have e2:ai cg (iG (aa 0) (aa 1) (mC (.int 0))) (aa 2) [some (.loc d),some (tupI k),some (.int v)] s = .ok (.int (a_ A k + v)) s:=by
  unfold ai
  rw [e1]; rfl
 unfold PM.lY
 rw [bZ (np:=3) (us:=[Val.loc d,tupI k,.int v]) rfl]
 show (j8 (aa 0) (aa 1) (ai cg (iG (aa 0) (aa 1) (mC (.int 0))) (aa 2)) [some (.loc d),some (tupI k),some (.int v)] s).fin = _
 unfold j8
 rw [e2]
 show bB.fin (match j6 s (.loc d) (tupI k) (.int (a_ A k + v)) with | some lH => bB.nx _ lH | none => .bad) = _
 rw [qX h hl]
 rfl
noncomputable def bb (r n:Int):Int:=if r = 0 then n else n.fmod r
theorem pj (r n:Int) (st:ah):PM.dq [.int r,.int n] st = .ok (.int (bb r n)) st:=by
 unfold bb
 by_cases h:r = 0
 ·have e:(r == 0) = true:=by rw [h]; rfl
  rw [if_pos h]
  simp only [PM.dq,bZ,aw,aG,iH,df,cy,dN,cz,e_,gw,gv,cK,cE,aA,bz,dj,gy,dm,gx,List.map_cons,List.map_nil,List.cons_append,List.nil_append,List.replicate_zero,Nat.reduceSub,List.length_cons,List.length_nil,Nat.reduceAdd,e]
 ·have e:(r == 0) = false:=by simpa using h
  rw [if_neg h]
  simp only [PM.dq,bZ,aw,aG,aB,df,cy,dN,cz,e_,fS,gv,cK,cE,aA,gb,bz,dj,gy,dm,gx,List.map_cons,List.map_nil,List.cons_append,List.nil_append,List.replicate_zero,Nat.reduceSub,List.length_cons,List.length_nil,Nat.reduceAdd,e,cX h]
noncomputable def lZ (A:List aW):List aW:=(h_ (A.map (·.1))).map fun k => (k,a_ A k)
noncomputable def dZ (r:Int) (A:List aW):List aW:=((lZ A).map fun t => (t.1,bb r t.2)).filter fun t => t.2 != 0
theorem En (r n:Int) (st:ah):PM.bC [.int r,.int n] st = .ok (.int (bb r n)) st:=by
 unfold bb
 by_cases h:r = 0
 ·have e:(r == 0) = true:=by rw [h]; rfl
  rw [if_pos h]
  simp only [PM.bC,bZ,aw,aG,df,cy,dN,cz,DT,e_,gv,cK,cE,Fo,bz,gy,dm,gx,List.map_cons,List.map_nil,List.cons_append,List.nil_append,List.replicate_zero,Nat.reduceSub,List.length_cons,List.length_nil,Nat.reduceAdd,e]
 ·have e:(r == 0) = false:=by simpa using h
  rw [if_neg h]
  simp only [PM.bC,bZ,aw,aG,df,cy,dN,cz,DU,e_,gv,cK,cE,Fo,bz,gy,dm,gx,List.map_cons,List.map_nil,List.cons_append,List.nil_append,List.replicate_zero,Nat.reduceSub,List.length_cons,List.length_nil,Nat.reduceAdd,e,cX h]
theorem wg {p:Nat} {L:List aW} {r:Int} {st:ah} (h:itemsOf st p = some (L.map tV)) (hl:L.length ≤ 1000000) :
  ∃ c,PM.dH [.int r,.loc p] st = .ok (.loc (st.length + 1)) (st ++ [c,.lst (((L.map fun t => (t.1,bb r t.2)).filter fun t => t.2 != 0).map tV)]):=by
 obtain ⟨L',Oz⟩:∃ L':List aW,L' = L.map fun t => (t.1,bb r t.2):=⟨_,rfl⟩
 have cp:=cW (a:=i4 [aName 0,aName 1]) (c:=cj) (e:=gH (ae (aa 0) (ae (aq PM.bC (ae (aa 2) (ae (aa 1) ak))) ak))) (g:=fun av => itemsOf av p = some (L.map tV)) (st:=st) h (fun τ => ∃ x y,τ = [x,y,some (.int r)]) (fun _ => true) (fun v => tV ((BJ v).1,bb r (BJ v).2)) (L.map tV) [none,none,some (.int r)] [] ⟨_,_,rfl⟩ (by
  rintro u hu τ ⟨x,y,rfl⟩
  obtain ⟨t,ht,rfl⟩:=List.mem_map.mp hu
  refine ⟨[some (tupI t.1),some (.int t.2),some (.int r)],rfl,⟨_,_,rfl⟩,rfl,fun _ => ?_⟩
  have e0:aa 0 [some (tupI t.1),some (.int t.2),some (.int r)] st = .ok (tupI t.1) st:=rfl
  have e1:aq PM.bC (ae (aa 2) (ae (aa 1) ak)) [some (tupI t.1),some (.int t.2),some (.int r)] st = .ok (.int (bb r t.2)) st:=by
   show PM.bC [.int r,.int t.2] st = _
   exact En _ _ _
  rw [xK,sA,bf,e0,aw,bQ,bf,e1,aw,bQ,cF,aw,bg,aw,bg,aw,xt]
  exact if_pos (by rw [sizeLine_eq]; show 2 ≤ 16777216; decide))
 have e:(List.filter (fun _ => true) (L.map tV)).map (fun v => tV ((BJ v).1,bb r (BJ v).2)) = L'.map tV:=by
  rw [List.filter_eq_self.mpr fun _ _ => rfl,List.map_map,Oz,List.map_map]
  refine List.map_congr_left fun t _ => ?_
  show tV ((BJ (tV t)).1,bb r (BJ (tV t)).2) = _
  rw [xK]; rfl
 rw [e,List.nil_append] at cp
 obtain ⟨s,hs⟩:∃ s,s = st ++ [Cell.lst (L'.map tV)]:=⟨_,rfl⟩
 have ls:s.length = st.length + 1:=by rw [hs,List.length_append]; rfl
 have h2:itemsOf s st.length = some (L'.map tV):=by rw [hs]; exact bM st _
 have lL:L'.length = L.length:=by rw [Oz,List.length_map]
 have TR:=cW (a:=aName 0) (c:=b_ (ai m5 (ai de (aa 0) (mC (.int 1))) (mC (.int 0)))) (e:=aa 0) (g:=fun av => itemsOf av st.length = some (L'.map tV)) (st:=s) h2 (fun τ => ∃ x,τ = [x]) (fun v => (BJ v).2 != 0) (fun v => v) (L'.map tV) [none] [] ⟨_,rfl⟩ (by
  rintro u hu τ ⟨x,rfl⟩
  obtain ⟨t,ht,rfl⟩:=List.mem_map.mp hu
  refine ⟨[some (tV t)],rfl,⟨_,rfl⟩,?_,fun _ => rfl⟩
  rw [xK]
  refine cG ?_
  rw [bo (x:=.int t.2) (s1:=s) rfl (y:=.int 0) (s2:=s) rfl,xx]
  rfl)
 have e2:(List.filter (fun v => (BJ v).2 != 0) (L'.map tV)).map (fun v => v) = (L'.filter fun t => t.2 != 0).map tV:=by
  rw [List.map_id',List.filter_map]
  have:((fun v => (BJ v).2 != 0) ∘ tV) = fun t => t.2 != 0:=by
   funext t
   show ((BJ (tV t)).2 != 0) = _
   rw [xK]
  rw [this]
 rw [e2,List.nil_append] at TR
 refine ⟨.lst (L'.map tV),?_⟩
 have v1:aa 1 [some (Val.int r),some (.loc p),none] st = .ok (.loc p) st:=rfl
 have Hk:j5 2 [0] [some (Val.int r),some (.loc p),none] = [none,none,some (.int r)]:=rfl
 have comp:cO 2 [0] (fe (aa 1)) (i4 [aName 0,aName 1]) cj (gH (ae (aa 0) (ae (aq PM.bC (ae (aa 2) (ae (aa 1) ak))) ak))) [some (.int r),some (.loc p),none] st = .ok (.loc st.length) s:=by
  rw [gf,fm,v1,aw,dY h,aw,iI,if_pos (by rw [List.length_map,sizeLine_eq]; lia),Hk,cp,aw,kF,hs]
 have v2:aa 2 [some (Val.int r),some (.loc p),some (.loc st.length)] s = .ok (.loc st.length) s:=rfl
 have OA:j5 1 [] [some (Val.int r),some (.loc p),some (.loc st.length)] = [none]:=rfl
 have K0:cO 1 [] (fe (aa 2)) (aName 0) (b_ (ai m5 (ai de (aa 0) (mC (.int 1))) (mC (.int 0)))) (aa 0) [some (.int r),some (.loc p),some (.loc st.length)] s = .ok (.loc s.length) (s ++ [.lst ((L'.filter fun t => t.2 != 0).map tV)]):=by
  rw [gf,fm,v2,aw,dY h2,aw,iI,if_pos (by rw [List.length_map,sizeLine_eq]; lia),OA,TR,aw,kF]
 have first:aK 2 (cO 2 [0] (fe (aa 1)) (i4 [aName 0,aName 1]) cj (gH (ae (aa 0) (ae (aq PM.bC (ae (aa 2) (ae (aa 1) ak))) ak)))) [some (.int r),some (.loc p),none] st = .nx [some (.int r),some (.loc p),some (.loc st.length)] s:=by
  rw [ji,comp,aG]; rfl
 have es:st ++ [Cell.lst (L'.map tV),.lst ((L'.filter fun t => t.2 != 0).map tV)] = s ++ [.lst ((L'.filter fun t => t.2 != 0).map tV)]:=by rw [hs,List.append_assoc]; rfl
 unfold PM.dH
 rw [bZ (np:=2) (us:=[Val.int r,.loc p]) rfl,← Oz,es,← ls]
 show (aF (aK 2 (cO 2 [0] (fe (aa 1)) (i4 [aName 0,aName 1]) cj (gH (ae (aa 0) (ae (aq PM.bC (ae (aa 2) (ae (aa 1) ak))) ak))))) (bO (cO 1 [] (fe (aa 2)) (aName 0) (b_ (ai m5 (ai de (aa 0) (mC (.int 1))) (mC (.int 0)))) (aa 0))) [some (.int r),some (.loc p),none] st).fin = _
 rw [aA,first,aB,bz,K0,aG]
 rfl
end PG
namespace PG
open PySem PySem.Spec L2 MN
open PyProof.Rows hiding St kindOf
noncomputable def cm (P:List aW):List aW:=P.foldl (fun A t => gh A t.1 (a_ A t.1 + t.2)) []
theorem qZ (P:List aW) (t:aW):cm (P ++ [t]) = gh (cm P) t.1 (a_ (cm P) t.1 + t.2):=by
 unfold cm
 rw [List.foldl_append]; rfl
theorem fold_all (K:List (List Int)):∀ (P A:List aW),(A.map (·.1)).Nodup → (∀ t ∈ A,t.1 ∈ K) → (∀ t ∈ P,t.1 ∈ K) →
  ((P.foldl (fun A t => gh A t.1 (a_ A t.1 + t.2)) A).map (·.1)).Nodup ∧ (P.foldl (fun A t => gh A t.1 (a_ A t.1 + t.2)) A).length ≤ A.length + P.length ∧ ∀ t ∈ P.foldl (fun A t => gh A t.1 (a_ A t.1 + t.2)) A,t.1 ∈ K
 | [],A,h1,h2,_ => ⟨h1,by simp,h2⟩
 | t :: P,A,h1,h2,h3 => by
  have ih:=fold_all K P (gh A t.1 (a_ A t.1 + t.2)) (pf h1 _ _) (fun q hq => by
   rcases uU hq with hq | rfl
   ·exact h2 q hq
   ·exact h3 t List.mem_cons_self) (fun q hq => h3 q (List.mem_cons_of_mem _ hq))
  refine ⟨ih.1,Nat.le_trans ih.2.1 ?_,ih.2.2⟩
  have:=BH (A:=A) (k:=t.1) (v:=a_ A t.1 + t.2)
  rw [List.length_cons]
  lia
theorem ft (P:List aW):((cm P).map (·.1)).Nodup ∧ (cm P).length ≤ P.length ∧ ∀ t ∈ cm P,t.1 ∈ P.map (·.1):=by
 have:=fold_all (P.map (·.1)) P [] List.nodup_nil (fun t ht => by cases ht) (fun t ht => List.mem_map.mpr ⟨t,ht,rfl⟩)
 refine ⟨this.1,?_,this.2.2⟩
 have:=this.2.1
 simp at this
 exact this
noncomputable abbrev Mt:ME:=gH (ae (aa 0) (ae (ai ie (aa 1) (aa 0)) ak))
theorem yT {s:ah} {d:Nat} {A:List aW} {r:Int} (h:s[d]? = some (.dT (A.map eD))) (nd:(A.map (·.1)).Nodup) (hl:A.length < 1000000) (ne:∀ t ∈ A,t.1 ≠ []) :
  ∃ c1 c2 c3,PM.dJ [.int r,.loc d] s = .ok (.loc (s.length + 3)) (s ++ [c1,c2,c3,.lst ((dZ r A).map tV)]):=by
 have BL:(A.map eD).map (·.1) = (A.map (·.1)).map iK:=by rw [List.map_map,List.map_map]; rfl
 have Mu:=xH (ks:=A.map (·.1)) h BL (by rw [List.length_map,sizeLine_eq]; lia) (fun k hk => by
  obtain ⟨t,ht,rfl⟩:=List.mem_map.mp hk
  exact ne t ht)
 obtain ⟨s2,hR⟩:∃ s2,s2 = s ++ [Cell.lst ((h_ (A.map (·.1))).map tupI)]:=⟨_,rfl⟩
 have hd2:s2[d]? = some (.dT (A.map eD)):=by rw [hR]; exact bT h _
 have hit:itemsOf s2 s.length = some ((h_ (A.map (·.1))).map tupI):=by rw [hR]; exact bM s _
 have lk:(h_ (A.map (·.1))).length = A.length:=by rw [(ef _).length_eq,List.length_map]
 have cp:=cW (a:=aName 0) (c:=cj) (e:=Mt) (g:=fun av => itemsOf av s.length = some ((h_ (A.map (·.1))).map tupI)) (st:=s2) hit (fun τ => ∃ x,τ = [x,some (.loc d)]) (fun _ => true) (fun v => .tup [v,.int (a_ A (IZ v))]) ((h_ (A.map (·.1))).map tupI) [none,some (.loc d)] [] ⟨_,rfl⟩ (by
  rintro u hu τ ⟨x,rfl⟩
  obtain ⟨k,hk,rfl⟩:=List.mem_map.mp hu
  have IP:=(ef _).mem_iff.mp hk
  have e0:aa 0 [some (tupI k),some (.loc d)] s2 = .ok (tupI k) s2:=rfl
  have e1:ai ie (aa 1) (aa 0) [some (tupI k),some (.loc d)] s2 = .ok (.int (a_ A k)) s2:=by
   show ie (.loc d) (tupI k) s2 = _
   exact xJ hd2 IP
  refine ⟨[some (tupI k),some (.loc d)],rfl,⟨_,rfl⟩,rfl,fun _ => ?_⟩
  rw [BI]
  unfold Mt
  rw [sA,bf,e0,aw,bQ,bf,e1,aw,bQ,cF,aw,bg,aw,bg,aw,xt]
  exact if_pos (by rw [sizeLine_eq]; show 2 ≤ 16777216; decide))
 have e:(List.filter (fun _ => true) ((h_ (A.map (·.1))).map tupI)).map (fun v => Val.tup [v,.int (a_ A (IZ v))]) = (lZ A).map tV:=by
  rw [List.filter_eq_self.mpr fun _ _ => rfl,List.map_map]
  unfold lZ
  rw [List.map_map]
  refine List.map_congr_left fun k _ => ?_
  show Val.tup [tupI k,.int (a_ A (IZ (tupI k)))] = _
  rw [BI]; rfl
 rw [e,List.nil_append] at cp
 obtain ⟨s3,zC⟩:∃ s3,s3 = s2 ++ [Cell.lst ((lZ A).map tV)]:=⟨_,rfl⟩
 have v1:aa 1 [some (Val.int r),some (.loc d)] s = .ok (.loc d) s:=rfl
 have Hk:j5 1 [1] [some (Val.int r),some (.loc d)] = [none,some (.loc d)]:=rfl
 have comp:cO 1 [1] (fe (jn (aa 1))) (aName 0) cj Mt [some (.int r),some (.loc d)] s = .ok (.loc s2.length) s3:=by
  rw [gf,fm,uW,v1,aw,Mu,← hR,aw,dY hit,aw,iI,if_pos (by rw [List.length_map,lk,sizeLine_eq]; lia),Hk,cp,aw,kF,zC]
 obtain ⟨c3,se⟩:=wg (r:=r) (L:=lZ A) (p:=s2.length) (st:=s3) (by rw [zC]; exact bM s2 _) (by unfold lZ; rw [List.length_map,lk]; lia)
 refine ⟨.lst ((h_ (A.map (·.1))).map tupI),.lst ((lZ A).map tV),c3,?_⟩
 have l3:s3.length = s.length + 2:=by rw [zC,hR,List.length_append,List.length_append]; rfl
 have es:s ++ [Cell.lst ((h_ (A.map (·.1))).map tupI),.lst ((lZ A).map tV),c3,.lst ((dZ r A).map tV)] = s3 ++ [c3,.lst ((dZ r A).map tV)]:=by
  rw [zC,hR,List.append_assoc,List.append_assoc]; rfl
 have v0:aa 0 [some (Val.int r),some (.loc d)] s = .ok (.int r) s:=rfl
 unfold PM.dJ
 rw [bZ (np:=2) (us:=[Val.int r,.loc d]) rfl,es]
 show (bO (aq PM.dH (ae (aa 0) (ae (cO 1 [1] (fe (jn (aa 1))) (aName 0) cj Mt) ak))) [some (.int r),some (.loc d)] s).fin = _
 rw [bz,dz,bf,v0,aw,bQ,bf,comp,aw,bQ,cF,aw,bg,aw,bg,aw,se,l3]
 rfl
end PG
namespace PG
open PySem PySem.Spec L2 MN
open PyProof.Rows hiding St kindOf
noncomputable abbrev I_:MB:=j8 (aa 2) (ai de (aa 3) (mC (.int 0))) (ai cg (iG (aa 2) (ai de (aa 3) (mC (.int 0))) (mC (.int 0))) (ai de (aa 3) (mC (.int 1))))
theorem BM {s:ah} {d:Nat} {A:List aW} {t:aW} {x0 x1 x4 x5:Option Val} (h:s[d]? = some (.dT (A.map eD))) (hl:A.length < sizeLine) :
  I_ [x0,x1,some (.loc d),some (tV t),x4,x5] s = .nx [x0,x1,some (.loc d),some (tV t),x4,x5] (s.set d (.dT ((gh A t.1 (a_ A t.1 + t.2)).map eD))):=by
 have hd:sm s (.loc d) = true:=by
  unfold sm
  dsimp only
  rw [h]
 have e1:iG (aa 2) (ai de (aa 3) (mC (.int 0))) (mC (.int 0)) [x0,x1,some (.loc d),some (tV t),x4,x5] s = .ok (.int (a_ A t.1)) s:=by
  show (if sm s (.loc d) = true then (match kE s (.loc d) (tupI t.1) with | some o => Res.ok (o.getD (.int 0)) s | none => .bad) else .bad) = _
  rw [if_pos hd,sH h t.1]
  show Res.ok (Option.getD _ (Val.int 0)) s = _
  rw [qY]
 have i1:ai de (aa 3) (mC (.int 1)) [x0,x1,some (.loc d),some (tV t),x4,x5] s = .ok (.int t.2) s:=rfl
 have e2:ai cg (iG (aa 2) (ai de (aa 3) (mC (.int 0))) (mC (.int 0))) (ai de (aa 3) (mC (.int 1))) [x0,x1,some (.loc d),some (tV t),x4,x5] s = .ok (.int (a_ A t.1 + t.2)) s:=by
  rw [bo e1 i1]; rfl
 unfold I_ j8
 rw [e2]
 show (match j6 s (.loc d) (tupI t.1) (.int (a_ A t.1 + t.2)) with | some lH => bB.nx _ lH | none => .bad) = _
 rw [qX h hl]
noncomputable def xM (r:Int) (A:List aW) (ks:List (List Int)):List aW:=(ks.map fun k => (k,bb r (a_ A k))).filter fun t => t.2 != 0
theorem BN (r:Int) (A:List aW) (ks:List (List Int)) (k:List Int):xM r A (ks ++ [k]) = xM r A ks ++ (if bb r (a_ A k) != 0 then [(k,bb r (a_ A k))] else []):=by
 unfold xM
 rw [List.map_append,List.filter_append]
 congr 1
 show List.filter _ [(k,bb r (a_ A k))] = _
 by_cases h:(bb r (a_ A k) != 0) = true
 ·rw [if_pos h,List.filter_cons_of_pos (p:=fun t:aW => t.2 != 0) h]; rfl
 ·rw [if_neg h,List.filter_cons_of_neg (p:=fun t:aW => t.2 != 0) h]; rfl
theorem kI (r:Int) (A:List aW):xM r A (h_ (A.map (·.1))) = dZ r A:=by
 unfold xM dZ lZ
 rw [List.map_map]; rfl
theorem xN (r:Int) (A:List aW) (ks:List (List Int)):(xM r A ks).length ≤ ks.length:=by
 unfold xM
 refine Nat.le_trans (List.length_filter_le _ _) ?_
 rw [List.length_map]; exact Nat.le_refl _
noncomputable abbrev Ij:ME:=aq PM.dq (ae (aa 0) (ae (ai ie (aa 2) (aa 5)) ak))
noncomputable abbrev K2:MB:=gI (b_ (ai m5 Ij (mC (.int 0)))) (dc (jh cw (aa 4) (ae (gH (ae (aa 5) (ae Ij ak))) ak))) bG
theorem BO {s:ah} {d q:Nat} {A:List aW} {r:Int} {ks:List (List Int)} {k:List Int} {x1 x3:Option Val} (h:s[d]? = some (.dT (A.map eD))) (hq:s[q]? = some (.lst ((xM r A ks).map tV))) (hl:ks.length ≤ 1000000) (hk:k ∈ A.map (·.1)) :
  K2 [some (.int r),x1,some (.loc d),x3,some (.loc q),some (tupI k)] s = .nx [some (.int r),x1,some (.loc d),x3,some (.loc q),some (tupI k)] (s.set q (.lst ((xM r A (ks ++ [k])).map tV))):=by
 obtain ⟨μ,hμ⟩:∃ μ:MN.Env,μ = [some (.int r),x1,some (.loc d),x3,some (.loc q),some (tupI k)]:=⟨_,rfl⟩
 have v4:aa 4 μ s = .ok (.loc q) s:=by rw [hμ]; rfl
 have v5:aa 5 μ s = .ok (tupI k) s:=by rw [hμ]; rfl
 have v0:aa 0 μ s = .ok (.int r) s:=by rw [hμ]; rfl
 have dg:ai ie (aa 2) (aa 5) μ s = .ok (.int (a_ A k)) s:=by
  rw [hμ]
  show ie (.loc d) (tupI k) s = _
  exact xJ h hk
 have sl:Ij μ s = .ok (.int (bb r (a_ A k))) s:=by
  unfold Ij
  rw [dz,bf,v0,aw,bQ,bf,dg,aw,bQ,cF,aw,bg,aw,bg,aw]
  exact pj _ _ _
 have wb:b_ (ai m5 Ij (mC (.int 0))) μ s = .ok (bb r (a_ A k) != 0) s:=by
  refine cG ?_
  rw [bo sl (y:=.int 0) (s2:=s) rfl,xx]; rfl
 rw [← hμ,BN]
 show gI _ _ _ μ s = _
 rw [dj,wb,aG]
 cases c:bb r (a_ A k) != 0 with
 | true =>
  have ap:=jB (v:=tV (k,bb r (a_ A k))) hq (by rw [List.length_map,sizeLine_eq]; have:=xN r A ks; lia)
  have arg:ae (gH (ae (aa 5) (ae Ij ak))) ak μ s = .ok [tV (k,bb r (a_ A k))] s:=by
   have tp:gH (ae (aa 5) (ae Ij ak)) μ s = .ok (tV (k,bb r (a_ A k))) s:=by
    rw [sA,bf,v5,aw,bQ,bf,sl,aw,bQ,cF,aw,bg,aw,bg,aw,xt]
    exact if_pos (by rw [sizeLine_eq]; show 2 ≤ 16777216; decide)
   rw [bf,tp,aw,bQ,cF,aw,bg]
  rw [gw,fH,sE,v4,aw,xB hq,arg,aw,xC,ap,if_pos rfl,List.map_append]
  rfl
 | false =>
  rw [fS,if_neg (by decide),List.append_nil]
  have:s.set q (.lst ((xM r A ks).map tV)) = s:=by
   apply List.ext_getElem?
   intro j
   rw [List.getElem?_set]
   by_cases e:q = j
   ·rw [if_pos e]
    subst e
    split
    ·exact hq.symm
    ·rw [List.getElem?_eq_none (by lia)]
   ·rw [if_neg e]
  rw [this]
  rfl
end PG
namespace PG
open PySem PySem.Spec L2 MN
open PyProof.Rows hiding St kindOf
theorem BP {p:Nat} {P:List aW} {st:ah} {x0:Option Val} (h:itemsOf st p = some (P.map tV)) (hl:P.length < 1000000) :
  ∃ y3,forL (fun av => itemsOf av p = some (P.map tV)) (aName 3) I_ (P.map tV) [x0,some (.loc p),some (.loc st.length),none,none,none] (st ++ [.dT []]) = .nx [x0,some (.loc p),some (.loc st.length),y3,none,none] (st ++ [.dT ((cm P).map eD)]):=by
 have hg:∀ (A:List aW),itemsOf (st ++ [.dT (A.map eD)]) p = some (P.map tV):=fun A => aO h _
 obtain ⟨μ',av,e,rfl,y3,rfl⟩:=cQ (g:=fun av => itemsOf av p = some (P.map tV)) (a:=aName 3) (body:=I_)
  (fun i μ s' => s' = st ++ [.dT ((cm (P.take i)).map eD)] ∧ ∃ y3,μ = [x0,some (.loc p),some (.loc st.length),y3,none,none])
  (P.map tV) 0 [x0,some (.loc p),some (.loc st.length),none,none,none] (st ++ [.dT []])
  (by
   rintro i u μ s' hu ⟨rfl,y3,rfl⟩
   rw [Nat.zero_add]
   refine ⟨hg _,?_⟩
   rw [List.getElem?_map] at hu
   have hi:i < P.length:=by
    rcases Nat.lt_or_ge i P.length with q | q
    ·exact q
    ·rw [List.getElem?_eq_none q] at hu; cases hu
   rw [List.getElem?_eq_getElem hi] at hu
   obtain ⟨t,ht⟩:∃ t,t = P[i]:=⟨_,rfl⟩
   rw [← ht] at hu
   cases hu
   have tk:P.take (i + 1) = P.take i ++ [t]:=by
    rw [List.take_succ,List.getElem?_eq_getElem hi,← ht]; rfl
   have lA:=(ft (P.take i)).2.1
   rw [List.length_take] at lA
   have ad:=BM (x0:=x0) (x1:=some (.loc p)) (x4:=none) (x5:=none) (t:=t) (Em st ((cm (P.take i)).map eD)) (by rw [sizeLine_eq]; lia)
   rw [set_dict,← qZ,← tk] at ad
   exact ⟨_,rfl,_,_,.inl ad,rfl,_,rfl⟩)
  (fun μ s hp => by obtain ⟨rfl,_⟩:=hp; exact hg _)
  ⟨rfl,none,rfl⟩
 rw [Nat.zero_add,List.length_map,List.take_of_length_le (Nat.le_refl _)] at e
 exact ⟨y3,e⟩
theorem BQ {st:ah} {A:List aW} {r:Int} {x1 x3:Option Val} (hl:A.length < 1000000) :
  ∃ y5,forL (fun av => itemsOf av (st.length + 2) = some ((h_ (A.map (·.1))).map tupI)) (aName 5) K2 ((h_ (A.map (·.1))).map tupI) [some (.int r),x1,some (.loc st.length),x3,some (.loc (st.length + 1)),none] (st ++ [.dT (A.map eD),.lst [],.lst ((h_ (A.map (·.1))).map tupI)]) =
   .nx [some (.int r),x1,some (.loc st.length),x3,some (.loc (st.length + 1)),y5] (st ++ [.dT (A.map eD),.lst ((dZ r A).map tV),.lst ((h_ (A.map (·.1))).map tupI)]):=by
 obtain ⟨ks,KW⟩:∃ ks,ks = h_ (A.map (·.1)):=⟨_,rfl⟩
 have lk:ks.length = A.length:=by rw [KW,(ef _).length_eq,List.length_map]
 rw [← kI,← KW]
 have VH:∀ (us:List Val),(st ++ [Cell.dT (A.map eD),.lst us,.lst (ks.map tupI)])[st.length]? = some (.dT (A.map eD)):=fun us => by
  rw [List.getElem?_append_right (Nat.le_refl _),Nat.sub_self]; rfl
 have VI:∀ (us:List Val),(st ++ [Cell.dT (A.map eD),.lst us,.lst (ks.map tupI)])[st.length + 1]? = some (.lst us):=fun us => by
  rw [List.getElem?_append_right (by lia),show st.length + 1 - st.length = 1 by lia]; rfl
 have at2:∀ (us:List Val),(st ++ [Cell.dT (A.map eD),.lst us,.lst (ks.map tupI)])[st.length + 2]? = some (.lst (ks.map tupI)):=fun us => by
  rw [List.getElem?_append_right (by lia),show st.length + 2 - st.length = 2 by lia]; rfl
 have aQ:∀ (us ws:List Val),(st ++ [Cell.dT (A.map eD),.lst us,.lst (ks.map tupI)]).set (st.length + 1) (.lst ws) = st ++ [Cell.dT (A.map eD),.lst ws,.lst (ks.map tupI)]:=fun us ws => by
  rw [List.set_append_right _ _ (by lia),show st.length + 1 - st.length = 1 by lia]; rfl
 obtain ⟨μ',av,e,rfl,y5,rfl⟩:=cQ (g:=fun av => itemsOf av (st.length + 2) = some (ks.map tupI)) (a:=aName 5) (body:=K2)
  (fun i μ s' => s' = st ++ [.dT (A.map eD),.lst ((xM r A (ks.take i)).map tV),.lst (ks.map tupI)] ∧ ∃ y5,μ = [some (.int r),x1,some (.loc st.length),x3,some (.loc (st.length + 1)),y5])
  (ks.map tupI) 0 [some (.int r),x1,some (.loc st.length),x3,some (.loc (st.length + 1)),none] (st ++ [.dT (A.map eD),.lst [],.lst (ks.map tupI)])
  (by
   rintro i u μ s' hu ⟨rfl,y5,rfl⟩
   rw [Nat.zero_add]
   refine ⟨m6 (at2 _),?_⟩
   rw [List.getElem?_map] at hu
   have hi:i < ks.length:=by
    rcases Nat.lt_or_ge i ks.length with q | q
    ·exact q
    ·rw [List.getElem?_eq_none q] at hu; cases hu
   rw [List.getElem?_eq_getElem hi] at hu
   obtain ⟨k,hk⟩:∃ k,k = ks[i]:=⟨_,rfl⟩
   have mk:k ∈ A.map (·.1):=by
    refine (ef _).mem_iff.mp ?_
    rw [← KW,hk]; exact List.getElem_mem hi
   rw [← hk] at hu
   cases hu
   have tk:ks.take (i + 1) = ks.take i ++ [k]:=by
    rw [List.take_succ,List.getElem?_eq_getElem hi,← hk]; rfl
   have es:=BO (x1:=x1) (x3:=x3) (VH _) (VI ((xM r A (ks.take i)).map tV)) (by rw [List.length_take]; lia) mk
   rw [aQ,← tk] at es
   exact ⟨_,rfl,_,_,.inl es,rfl,_,rfl⟩)
  (fun μ s hp => by obtain ⟨rfl,_⟩:=hp; exact m6 (at2 _))
  ⟨rfl,none,rfl⟩
 rw [Nat.zero_add,List.length_map,List.take_of_length_le (Nat.le_refl _)] at e
 exact ⟨y5,e⟩
theorem iT {p:Nat} {P:List aW} {r:Int} {st:ah} (h:itemsOf st p = some (P.map tV)) (hl:P.length < 1000000) (ne:∀ t ∈ P,t.1 ≠ []) :
  ∃ c1 c3,PM.ba [.int r,.loc p] st = .ok (.loc (st.length + 1)) (st ++ [c1,.lst ((dZ r (cm P)).map tV),c3]):=by
 obtain ⟨A,hA⟩:∃ A,A = cm P:=⟨_,rfl⟩
 have ga:=ft P
 rw [← hA] at ga
 obtain ⟨y3,e1⟩:=BP (x0:=some (.int r)) h hl
 obtain ⟨y5,e2⟩:=BQ (st:=st) (A:=A) (r:=r) (x1:=some (.loc p)) (x3:=y3) (by lia)
 rw [← hA] at e1 ⊢
 refine ⟨.dT (A.map eD),.lst ((h_ (A.map (·.1))).map tupI),?_⟩
 have s1:aK 2 j7 [some (.int r),some (.loc p),none,none,none,none] st = .nx [some (.int r),some (.loc p),some (.loc st.length),none,none,none] (st ++ [.dT []]):=rfl
 have v1:aa 1 [some (Val.int r),some (.loc p),some (.loc st.length),none,none,none] (st ++ [.dT []]) = .ok (.loc p) (st ++ [.dT []]):=rfl
 have s2:d9 (fe (aa 1)) (aName 3) I_ [some (.int r),some (.loc p),some (.loc st.length),none,none,none] (st ++ [.dT []]) = .nx [some (.int r),some (.loc p),some (.loc st.length),y3,none,none] (st ++ [.dT (A.map eD)]):=by
  rw [fj,fm,v1,aw,dY (aO h _),aG,gN]
  exact e1
 have ld:(st ++ [Cell.dT (A.map eD)]).length = st.length + 1:=by rw [List.length_append]; rfl
 have s3:aK 4 (fK ak) [some (.int r),some (.loc p),some (.loc st.length),y3,none,none] (st ++ [.dT (A.map eD)]) = .nx [some (.int r),some (.loc p),some (.loc st.length),y3,some (.loc (st.length + 1)),none] (st ++ [.dT (A.map eD),.lst []]):=by
  rw [← ld]
  have q:fK ak [some (Val.int r),some (.loc p),some (.loc st.length),y3,none,none] (st ++ [.dT (A.map eD)]) = .ok (.loc (st ++ [Cell.dT (A.map eD)]).length) (st ++ [.dT (A.map eD)] ++ [.lst []]):=by simp only [aw,uC,cF,o5,List.length_nil,sizeLine_eq,Nat.reduceLeDiff,↓reduceIte]
  rw [ji,q,aG,List.append_assoc]
  rfl
 have hd:(st ++ [Cell.dT (A.map eD),.lst []])[st.length]? = some (.dT (A.map eD)):=by
  rw [List.getElem?_append_right (Nat.le_refl _),Nat.sub_self]; rfl
 have BL:(A.map eD).map (·.1) = (A.map (·.1)).map iK:=by rw [List.map_map,List.map_map]; rfl
 have Mu:=xH (ks:=A.map (·.1)) hd BL (by rw [List.length_map,sizeLine_eq]; lia) (fun k hk => by
  obtain ⟨t,ht,rfl⟩:=List.mem_map.mp hk
  obtain ⟨q,hq,e⟩:=List.mem_map.mp (ga.2.2 t ht)
  rw [← e]; exact ne q hq)
 have l2:(st ++ [Cell.dT (A.map eD),.lst []]).length = st.length + 2:=by rw [List.length_append]; rfl
 rw [l2,List.append_assoc] at Mu
 have hit:itemsOf (st ++ [Cell.dT (A.map eD),.lst [],.lst ((h_ (A.map (·.1))).map tupI)]) (st.length + 2) = some ((h_ (A.map (·.1))).map tupI):=by
  refine m6 ?_
  rw [List.getElem?_append_right (by lia),show st.length + 2 - st.length = 2 by lia]; rfl
 have v2:aa 2 [some (Val.int r),some (.loc p),some (.loc st.length),y3,some (.loc (st.length + 1)),none] (st ++ [.dT (A.map eD),.lst []]) = .ok (.loc st.length) (st ++ [.dT (A.map eD),.lst []]):=rfl
 have s4:d9 (fe (jn (aa 2))) (aName 5) K2 [some (.int r),some (.loc p),some (.loc st.length),y3,some (.loc (st.length + 1)),none] (st ++ [.dT (A.map eD),.lst []]) = .nx [some (.int r),some (.loc p),some (.loc st.length),y3,some (.loc (st.length + 1)),y5] (st ++ [.dT (A.map eD),.lst ((dZ r A).map tV),.lst ((h_ (A.map (·.1))).map tupI)]):=by
  rw [fj,fm,uW,v2,aw,Mu,aw]
  show (o6 (.loc (st.length + 2)) (st ++ [Cell.dT (A.map eD),.lst [],.lst ((h_ (A.map (·.1))).map tupI)])).Cz _ _ = _
  rw [dY hit,aG,gN]
  exact e2
 unfold PM.ba
 rw [bZ (np:=2) (us:=[Val.int r,.loc p]) rfl]
 show (aF (aK 2 j7) (aF (d9 (fe (aa 1)) (aName 3) I_) (aF (aK 4 (fK ak)) (aF (d9 (fe (jn (aa 2))) (aName 5) K2) (bO (aa 4))))) [some (.int r),some (.loc p),none,none,none,none] st).fin = _
 rw [aA,s1,aB,aA,s2,aB,aA,s3,aB,aA,s4,aB]
 rfl
end PG
namespace PG
open PySem PySem.Spec L2 MN
open PyProof.Rows hiding St kindOf
structure Good (many:Nat) (t:aW):Prop where
 len:t.1.length = many
 rg:∀ e ∈ t.1,0 ≤ e ∧ e ≤ 99
end PG
namespace PG
open PySem PySem.Spec L2 MN
open PyProof.Rows hiding St kindOf
end PG
namespace PG
open PySem PySem.Spec L2 MN
open PyProof.Rows hiding St kindOf
noncomputable abbrev xO:ME:=ai de (aa 0) (aa 2)
noncomputable abbrev OB:MT:=iZ (dB (b_ (vS "tuple" xO))) (iZ (b_ (ai m5 (aq d8 (ae xO ak)) (mC (.int 2)))) (dB (b_ (aq PM.e9 (ae (ai de xO (mC (.int 1))) ak)))))
noncomputable abbrev Mv:ME:=cO 1 [] (fe (ai de xO (mC (.int 0)))) (aName 0) (dB (b_ (aq PM.e9 (ae (aa 0) ak)))) (aa 0)
noncomputable abbrev OC:MT:=iZ (dB (b_ (vS "tuple" (ai de xO (mC (.int 0)))))) (b_ (ai m5 Mv (fK ak)))
noncomputable abbrev Mw:MB:=aF (gI OB (bO (mC (.bl false))) bG) (gI OC (bO (mC (.bl false))) bG)
theorem Eo {s:ah} {μ:MN.Env} {t:aW} (hX:xO μ s = .ok (tV t) s) (hl:t.1.length ≤ 1000000):Mw μ s = .nx μ (s ++ [.lst [],.lst []]):=by
 have ca:b_ (vS "tuple" xO) μ s = .ok true s:=cG (by rw [A7,hX,aw]; rfl)
 have OD:aq d8 (ae xO ak) μ s = .ok (.int 2) s:=by
  rw [dz,bf,hX,aw,bQ,cF,aw,bg,aw]; rfl
 have cb:b_ (ai m5 (aq d8 (ae xO ak)) (mC (.int 2))) μ s = .ok false s:=cG (by rw [bo OD (y:=.int 2) (s2:=s) rfl]; rfl)
 have x1:ai de xO (mC (.int 1)) μ s = .ok (.int t.2) s:=by rw [bo hX (y:=.int 1) (s2:=s) rfl]; rfl
 have x0:ai de xO (mC (.int 0)) μ s = .ok (tupI t.1) s:=by rw [bo hX (y:=.int 0) (s2:=s) rfl]; rfl
 have cc:b_ (aq PM.e9 (ae (ai de xO (mC (.int 1))) ak)) μ s = .ok true s:=cG (by
  rw [dz,bf,x1,aw,bQ,cF,aw,bg,aw]; rfl)
 have cd:b_ (vS "tuple" (ai de xO (mC (.int 0)))) μ s = .ok true s:=cG (by rw [A7,x0,aw]; rfl)
 have cp:=cW (a:=aName 0) (c:=dB (b_ (aq PM.e9 (ae (aa 0) ak)))) (e:=aa 0) (g:=fun _ => True) (st:=s) trivial (fun τ => ∃ x,τ = [x]) (fun _ => false) (fun v => v) (t.1.map Val.int) [none] [] ⟨_,rfl⟩ (by
  rintro u hu τ ⟨x,rfl⟩
  obtain ⟨e,he,rfl⟩:=List.mem_map.mp hu
  exact ⟨[some (.int e)],rfl,⟨_,rfl⟩,rfl,fun z => by cases z⟩)
 rw [List.filter_eq_nil_iff.mpr (fun _ _ z => by cases z),List.map_nil,List.append_nil] at cp
 have Hk:j5 1 [] μ = [none]:=rfl
 have pc:Mv μ s = .ok (.loc s.length) (s ++ [.lst []]):=by
  unfold Mv
  rw [gf,fm,x0,aw]
  show ((o6 (.tup (t.1.map Val.int)) s).i7 _) = _
  rw [yG,aw,iI,if_pos (by rw [List.length_map,sizeLine_eq]; lia),Hk,cp,aw,kF]
 have pl:fK ak μ (s ++ [.lst []]) = .ok (.loc (s ++ [Cell.lst []]).length) (s ++ [.lst []] ++ [.lst []]):=by simp only [aw,uC,cF,o5,List.length_nil,sizeLine_eq,Nat.reduceLeDiff,↓reduceIte]
 have ce:b_ (ai m5 Mv (fK ak)) μ s = .ok false (s ++ [.lst []] ++ [.lst []]):=cG (by
  rw [bo pc pl]
  exact ne_nil (aO (bM s []) _) (bM (s ++ [.lst []]) []))
 have es:s ++ [Cell.lst [],.lst []] = s ++ [.lst []] ++ [.lst []]:=by rw [List.append_assoc]; rfl
 unfold Mw
 rw [aA,il (uX (ph ca) (uX cb (ph cc))),aB,il (uX (ph cd) ce),es]
theorem jo {a b:Nat} {D:List aW} {st:ah} (ha:st[a]? = some (.lst (D.map tV))) (hb:st[b]? = some (.lst (D.map tV))) (hl:D.length ≤ 1000000) (hk:∀ t ∈ D,t.1.length ≤ 1000000):∃ g,PM.dE [.loc a,.loc b] st = .ok (.bl true) (st ++ g):=by
 obtain ⟨n,hn⟩:∃ n:Int,n = ((D.map tV).length:Int):=⟨_,rfl⟩
 have nD:n.toNat = D.length:=by rw [hn,List.length_map]; simp
 have VJ:=xw (st:=st) (j:=n) (by lia) (by rw [List.length_map] at hn; lia)
 obtain ⟨μ',av,e,g,rfl,y,rfl⟩:=cQ (g:=fun _ => True) (a:=aName 2) (body:=Mw)
  (fun _ μ s' => ∃ g,s' = st ++ g ∧ ∃ y,μ = [some (.loc a),some (.loc b),y])
  (aP 0 n.toNat) 0 [some (.loc a),some (.loc b),none] st
  (by
   rintro i u μ s' hu ⟨g,rfl,y,rfl⟩
   refine ⟨trivial,?_⟩
   have q0:=hu
   unfold aP at q0
   rw [List.getElem?_map] at q0
   have hi:i < n.toNat:=by
    rcases Nat.lt_or_ge i n.toNat with q | q
    ·exact q
    ·rw [List.getElem?_eq_none (by rw [List.length_range]; exact q)] at q0; cases q0
   rw [List.getElem?_eq_getElem (by rw [List.length_range]; exact hi),List.getElem_range] at q0
   have ue:u = .int ((i:Nat):Int):=by
    cases q0
    show Val.int (0 + (i:Int)) = _
    rw [Int.zero_add]
   subst ue
   have TU:i < D.length:=by lia
   have VL:L2.oz (D.map tV) (i:Int) = some (tV D[i]):=L2.rN (by rw [List.getElem?_map,List.getElem?_eq_getElem TU]; rfl)
   have hX:xO [some (.loc a),some (.loc b),some (.int (i:Int))] (st ++ g) = .ok (tV D[i]) (st ++ g):=by
    show de (.loc a) (.int (i:Int)) (st ++ g) = _
    exact o8 (aO (m6 ha) _) VL
   exact ⟨[some (.loc a),some (.loc b),some (.int (i:Int))],rfl,_,_,.inl (Eo hX (hk _ (List.getElem_mem TU))),g ++ [.lst [],.lst []],by rw [List.append_assoc],_,rfl⟩)
  (fun _ _ _ => trivial) ⟨[],by rw [List.append_nil],none,rfl⟩
 refine ⟨g,?_⟩
 have la:=kG (m6 ha)
 have lb:=kG (m6 hb)
 rw [← hn] at la lb
 have first:gI (iZ (dB (b_ (vS "list" (aa 0)))) (b_ (ai m5 (aq d8 (ae (aa 0) ak)) (aq d8 (ae (aa 1) ak))))) (bO (mC (.bl false))) bG [some (.loc a),some (.loc b),none] st = .nx [some (.loc a),some (.loc b),none] st:=by
  refine il (uX (s1:=st) (ph (cG ?_)) (cG ?_))
  ·simp only [aw,A7,qS,is_list ha]
  ·rw [bo (x:=.int n) (s1:=st) la (y:=.int n) (s2:=st) lb,xx,beq_self_eq_true]; rfl
 have a1:bJ (ae (aq d8 (ae (aa 1) ak)) ak) [some (.loc a),some (.loc b),none] st = .ok (aP 0 n.toNat,fun _ => True) st:=by
  simp only [aw,bQ,bg,cF,bf,dz,og,qS,gx,lb,VJ]
 have last:ai hZ (aa 0) (aa 1) [some (.loc a),some (.loc b),y] (st ++ g) = .ok (.bl true) (st ++ g):=by
  show hZ (.loc a) (.loc b) (st ++ g) = _
  exact Bg (aO (m6 ha) _) (aO (m6 hb) _) (Ii D)
 unfold PM.dE
 rw [bZ (np:=2) (us:=[Val.loc a,.loc b]) rfl]
 show (aF (gI (iZ (dB (b_ (vS "list" (aa 0)))) (b_ (ai m5 (aq d8 (ae (aa 0) ak)) (aq d8 (ae (aa 1) ak))))) (bO (mC (.bl false))) bG) (aF (d9 (bJ (ae (aq d8 (ae (aa 1) ak)) ak)) (aName 2) Mw) (bO (ai hZ (aa 0) (aa 1)))) [some (.loc a),some (.loc b),none] st).fin = _
 rw [aA,first,aB,aA,fj,a1,aG,gN,e,aB,bz,last,aG]
 rfl
end PG
namespace PG
open PySem PySem.Spec L2 MN
open PyProof.Rows hiding St kindOf
section
variable {μ:MN.Env} {s s1 s2:ah} {m:ME} {o j:Int} {t:MT} {B:MB}
theorem kf (h:m μ s = .ok (.int o) s1) (hj:¬ j = 0):ai bx m (mC (.int j)) μ s = .ok (.int (o.fmod j)) s1:=by
 rw [bo h (y:=.int j) (s2:=s1) rfl]; exact cX hj
theorem pk (h:m μ s = .ok (.int o) s1) (hj:Dz j):ai bh m (mC (.int j)) μ s = .ok (.int (o.fdiv j)) s1:=by
 rw [bo h (y:=.int j) (s2:=s1) rfl]; exact div_ii hj
theorem q9 (h:m μ s = .ok (.int o) s1):ai hZ m (mC (.int j)) μ s = .ok (.bl (o == j)) s1:=by
 rw [bo h (y:=.int j) (s2:=s1) rfl]; exact gy
theorem bF {i:Nat} {v:Val} (h:m μ s = .ok v s1):aK i m μ s = .nx (μ.set i (some v)) s1:=by
 rw [ji,h,aG]; rfl
theorem iJ {C:MB} (h:t μ s = .ok true s1):gI t B C μ s = B μ s1:=by rw [dj,h,aG,gw]
theorem gA {v:Val} (h:m μ s = .ok v s1):ae m ak μ s = .ok [v] s1:=by rw [bf,h,aw,bQ,cF,aw,bg]
theorem eh {m2:ME} {v w:Val} (h:m μ s = .ok v s1) (h2:m2 μ s1 = .ok w s2):ae m (ae m2 ak) μ s = .ok [v,w] s2:=by rw [bf,h,aw,bQ,gA h2,aw,bg]
theorem gO {m2:MA} {v:Val} {ws:List Val} (h:m μ s = .ok v s1) (h2:m2 μ s1 = .ok ws s2):ae m m2 μ s = .ok (v :: ws) s2:=by rw [bf,h,aw,bQ,h2,aw,bg]
theorem call_of {f:FN} {a:MA} {vs:List Val} (h:a μ s = .ok vs s1):aq f a μ s = f vs s1:=by rw [dz,h,aw]
theorem wj {a:MA} {vs:List Val} (h:a μ s = .ok vs s1) (hl:vs.length ≤ 1000):gH a μ s = .ok (.tup vs) s1:=by
 rw [sA,h,aw,xt]
 exact if_pos (by rw [sizeLine_eq]; lia)
theorem sJ {a:MA} {vs:List Val} (h:a μ s = .ok vs s1) (hl:vs.length ≤ 1000):fK a μ s = .ok (.loc s1.length) (s1 ++ [.lst vs]):=by
 rw [o5,h,aw,uC]
 exact if_pos (by rw [sizeLine_eq]; lia)
theorem pq {a:MA} (h:a μ s = .ok [.int j] s1) (h1:-(2 ^ 62) ≤ j) (h2:j < 2 ^ 62):bJ a μ s = .ok (aP 0 j.toNat,fun _ => True) s1:=by
 rw [og,h,aw,xw h1 h2]
end
noncomputable abbrev OE:MB:=gI (gK (b_ (ai hZ (aa 4) (mC (.int 4)))) (b_ (ai hZ (ai bx (ai bh (aa 0) (mC (.int 256))) (mC (.int 8))) (aa 5)))) (aK 6 (ai bx (ai bh (aa 0) (mC (.int 2048))) (mC (.int 100)))) bG
noncomputable abbrev leB:MB:=aF (aK 6 (ai bx (aa 3) (aa 4))) (aF (aK 3 (ai bh (aa 3) (aa 4))) (aF OE (dc (jh cw (aa 2) (ae (aa 6) ak)))))
theorem le_step {c rest W k:Int} {n:Nat} {s:ah} {es:List Int} {x1 y6:Option Val} (hW:W = 4 ∨ W = 100) (h:s[n]? = some (.lst (es.map Val.int))) (hl:es.length ≤ 1000000) :
  ∃ e r',leB [some (.int c),x1,some (.loc n),some (.int rest),some (.int W),some (.int k),y6] s = .nx [some (.int c),x1,some (.loc n),some (.int r'),some (.int W),some (.int k),some (.int e)] (s.set n (.lst ((es ++ [e]).map Val.int))) ∧ 0 ≤ e ∧ e ≤ 99:=by
 have W0:¬ W = 0:=by lia
 have dW:Dz W:=jj (by lia) (by lia)
 have qW:=fM (m:=W) (by lia) rest
 obtain ⟨e1,VM⟩:∃ e1,e1 = rest.fmod W:=⟨_,rfl⟩
 obtain ⟨r',VN⟩:∃ r',r' = rest.fdiv W:=⟨_,rfl⟩
 have a1:aK 6 (ai bx (aa 3) (aa 4)) [some (.int c),x1,some (.loc n),some (.int rest),some (.int W),some (.int k),y6] s = .nx [some (.int c),x1,some (.loc n),some (.int rest),some (.int W),some (.int k),some (.int e1)] s:=by
  refine bF (v:=.int e1) ?_
  rw [VM]; exact cX W0
 have a2:aK 3 (ai bh (aa 3) (aa 4)) [some (.int c),x1,some (.loc n),some (.int rest),some (.int W),some (.int k),some (.int e1)] s = .nx [some (.int c),x1,some (.loc n),some (.int r'),some (.int W),some (.int k),some (.int e1)] s:=by
  refine bF (v:=.int r') ?_
  rw [VN]; exact div_ii dW
 obtain ⟨e,a3,h0,h1⟩:∃ e,OE [some (.int c),x1,some (.loc n),some (.int r'),some (.int W),some (.int k),some (.int e1)] s = .nx [some (.int c),x1,some (.loc n),some (.int r'),some (.int W),some (.int k),some (.int e)] s ∧ 0 ≤ e ∧ e ≤ 99:=by
  have t1:b_ (ai hZ (aa 4) (mC (.int 4))) [some (.int c),x1,some (.loc n),some (.int r'),some (.int W),some (.int k),some (.int e1)] s = .ok (W == 4) s:=cG (q9 rfl)
  have dd:ai bh (aa 0) (mC (.int 256)) [some (.int c),x1,some (.loc n),some (.int r'),some (.int W),some (.int k),some (.int e1)] s = .ok (.int (c.fdiv 256)) s:=pk rfl (jj (by decide) (by decide))
  have t2:b_ (ai hZ (ai bx (ai bh (aa 0) (mC (.int 256))) (mC (.int 8))) (aa 5)) [some (.int c),x1,some (.loc n),some (.int r'),some (.int W),some (.int k),some (.int e1)] s = .ok ((c.fdiv 256).fmod 8 == k) s:=cG (by
   rw [bo (kf dd (by decide)) (y:=.int k) (s2:=s) rfl]; exact gy)
  have tt:gK (b_ (ai hZ (aa 4) (mC (.int 4)))) (b_ (ai hZ (ai bx (ai bh (aa 0) (mC (.int 256))) (mC (.int 8))) (aa 5))) [some (.int c),x1,some (.loc n),some (.int r'),some (.int W),some (.int k),some (.int e1)] s = .ok ((W == 4) && ((c.fdiv 256).fmod 8 == k)) s:=by
   rw [nZ,t1,aw]
   cases (W == 4) with
   | true => rw [oY,t2,Bool.true_and]
   | false => rw [oZ,Bool.false_and]
  cases hb:((W == 4) && ((c.fdiv 256).fmod 8 == k)) with
  | false => rw [hb] at tt; exact ⟨e1,il tt,by lia,by lia⟩
  | true =>
   rw [hb] at tt
   have q:=fM (m:=100) (by decide) (c.fdiv 2048)
   refine ⟨(c.fdiv 2048).fmod 100,?_,by lia,by lia⟩
   unfold OE
   rw [iJ tt]
   exact bF (kf (pk rfl (jj (by decide) (by decide))) (by decide))
 refine ⟨e,r',?_,h0,h1⟩
 have ap:=jB (v:=Val.int e) h (by rw [List.length_map,sizeLine_eq]; lia)
 have a4:dc (jh cw (aa 2) (ae (aa 6) ak)) [some (.int c),x1,some (.loc n),some (.int r'),some (.int W),some (.int k),some (.int e)] s = .nx [some (.int c),x1,some (.loc n),some (.int r'),some (.int W),some (.int k),some (.int e)] (s.set n (.lst ((es ++ [e]).map Val.int))):=by
  have v2:aa 2 [some (.int c),x1,some (.loc n),some (.int r'),some (.int W),some (.int k),some (.int e)] s = .ok (.loc n) s:=rfl
  have ar:ae (aa 6) ak [some (.int c),x1,some (.loc n),some (.int r'),some (.int W),some (.int k),some (.int e)] s = .ok [.int e] s:=rfl
  rw [fH,sE,v2,aw,xB h,ar,aw,xC,ap,List.map_append]; rfl
 unfold leB
 rw [aA,a1,aB,aA,a2,aB,aA,a3,aB,a4]
theorem BR (c:Int) (many:Nat) (st:ah):∃ r0 W:Int,(W = 4 ∨ W = 100) ∧ gI (b_ (ai hZ (ai bx (aa 0) (mC (.int 3))) (mC (.int 0)))) (aF (aK 3 (ai bh (aa 0) (mC (.int 3)))) (aK 4 (mC (.int 100)))) bG [some (.int c),some (.int (many:Int)),some (.loc st.length),some (.int c),some (.int 4),none,none] (st ++ [.lst []]) = .nx [some (.int c),some (.int (many:Int)),some (.loc st.length),some (.int r0),some (.int W),none,none] (st ++ [.lst []]):=by
 have tt:b_ (ai hZ (ai bx (aa 0) (mC (.int 3))) (mC (.int 0))) [some (.int c),some (.int (many:Int)),some (.loc st.length),some (.int c),some (.int 4),none,none] (st ++ [.lst []]) = .ok (c.fmod 3 == 0) (st ++ [.lst []]):=cG (q9 (kf rfl (by decide)))
 cases hb:c.fmod 3 == 0 with
 | false => rw [hb] at tt; exact ⟨c,4,.inl rfl,il tt⟩
 | true =>
  rw [hb] at tt
  refine ⟨c.fdiv 3,100,.inr rfl,?_⟩
  have a:aK 3 (ai bh (aa 0) (mC (.int 3))) [some (.int c),some (.int (many:Int)),some (.loc st.length),some (.int c),some (.int 4),none,none] (st ++ [.lst []]) = .nx [some (.int c),some (.int (many:Int)),some (.loc st.length),some (.int (c.fdiv 3)),some (.int 4),none,none] (st ++ [.lst []]):=bF (pk rfl (jj (by decide) (by decide)))
  rw [iJ tt,aA,a,aB]; rfl
theorem ip (c:Int) {many:Nat} (hm:many ≤ 4) (st:ah):∃ g es,PM.bA [.int c,.int (many:Int)] st = .ok (tupI es) (st ++ g) ∧ es.length = many ∧ ∀ e ∈ es,0 ≤ e ∧ e ≤ 99:=by
 obtain ⟨r0,W,hW,s4⟩:=BR c many st
 obtain ⟨μ',av,e,es,le,OF,rfl,r',y5,y6,rfl⟩:=cQ (g:=fun _ => True) (a:=aName 5) (body:=leB)
  (fun i μ s' => ∃ es:List Int,es.length = i ∧ (∀ e ∈ es,0 ≤ e ∧ e ≤ 99) ∧ s' = st ++ [.lst (es.map Val.int)] ∧ ∃ r' y5 y6,μ = [some (.int c),some (.int (many:Int)),some (.loc st.length),some (.int r'),some (.int W),y5,y6])
  (aP 0 (many:Int).toNat) 0 [some (.int c),some (.int (many:Int)),some (.loc st.length),some (.int r0),some (.int W),none,none] (st ++ [.lst []])
  (by
   rintro i u μ s' hu ⟨es,le,OF,rfl,r',y5,y6,rfl⟩
   refine ⟨trivial,?_⟩
   have q0:=hu
   unfold aP at q0
   rw [List.getElem?_map] at q0
   have hi:i < (many:Int).toNat:=by
    rcases Nat.lt_or_ge i (many:Int).toNat with q | q
    ·exact q
    ·rw [List.getElem?_eq_none (by rw [List.length_range]; exact q)] at q0; cases q0
   rw [List.getElem?_eq_getElem (by rw [List.length_range]; exact hi),List.getElem_range] at q0
   cases q0
   have VO:i < 4:=by lia
   obtain ⟨e,r2,eb,h0,h1⟩:=le_step (c:=c) (rest:=r') (k:=0 + (i:Int)) (x1:=some (.int (many:Int))) (y6:=y6) hW (Be st (es.map Val.int)) (by lia)
   refine ⟨_,rfl,_,_,.inl eb,es ++ [e],by rw [List.length_append,le]; rfl,?_,uF st _ _,r2,_,_,rfl⟩
   intro x hx
   rcases List.mem_append.mp hx with hx | hx
   ·exact OF x hx
   ·rw [List.mem_singleton.mp hx]; exact ⟨h0,h1⟩)
  (fun _ _ _ => trivial) ⟨[],rfl,fun _ h => (by cases h),rfl,r0,none,none,rfl⟩
 refine ⟨[.lst (es.map Val.int)],es,?_,by rw [le]; unfold aP; rw [List.length_map,List.length_range]; lia,OF⟩
 have a1:aK 2 (fK ak) [some (.int c),some (.int (many:Int)),none,none,none,none,none] st = .nx [some (.int c),some (.int (many:Int)),some (.loc st.length),none,none,none,none] (st ++ [.lst []]):=bF (sJ (vs:=[]) rfl (Nat.zero_le _))
 have a2:aK 3 (aa 0) [some (.int c),some (.int (many:Int)),some (.loc st.length),none,none,none,none] (st ++ [.lst []]) = .nx [some (.int c),some (.int (many:Int)),some (.loc st.length),some (.int c),none,none,none] (st ++ [.lst []]):=rfl
 have a3:aK 4 (mC (.int 4)) [some (.int c),some (.int (many:Int)),some (.loc st.length),some (.int c),none,none,none] (st ++ [.lst []]) = .nx [some (.int c),some (.int (many:Int)),some (.loc st.length),some (.int c),some (.int 4),none,none] (st ++ [.lst []]):=rfl
 have a5:bJ (ae (aa 1) ak) [some (.int c),some (.int (many:Int)),some (.loc st.length),some (.int r0),some (.int W),none,none] (st ++ [.lst []]) = .ok (aP 0 (many:Int).toNat,fun _ => True) (st ++ [.lst []]):=pq rfl (by lia) (by lia)
 have v2:aa 2 [some (.int c),some (.int (many:Int)),some (.loc st.length),some (.int r'),some (.int W),y5,y6] (st ++ [.lst (es.map Val.int)]) = .ok (.loc st.length) (st ++ [.lst (es.map Val.int)]):=rfl
 unfold PM.bA
 rw [bZ (np:=2) (us:=[Val.int c,.int (many:Int)]) rfl]
 show (aF (aK 2 (fK ak)) (aF (aK 3 (aa 0)) (aF (aK 4 (mC (.int 4))) (aF _ (aF (d9 (bJ (ae (aa 1) ak)) (aName 5) leB) (bO (aq oO (ae (aa 2) ak))))))) [some (.int c),some (.int (many:Int)),none,none,none,none,none] st).fin = _
 rw [aA,a1,aB,aA,a2,aB,aA,a3,aB,aA,s4,aB,aA,fj,a5,aG,gN,e,aB,bz,call_of (gA v2),sC (bM _ _),aG]
 rfl
end PG
namespace PG
open PySem PySem.Spec L2 MN
open PyProof.Rows hiding St kindOf
theorem Ik {μ:MN.Env} {s:ah} {o:ME} {a:MA} {n:Nat} {us:List Val} {v:Val} (ho:o μ s = .ok (.loc n) s) {s1:ah} (h0:s[n]? = some (.lst us)) (ha:a μ s = .ok [v] s1) (h:s1[n]? = some (.lst us)) (hl:us.length ≤ 1000):dc (jh cw o a) μ s = .nx μ (s1.set n (.lst (us ++ [v]))):=by
 rw [fH,sE,ho,aw,xB h0,ha,aw,xC,jB h (by rw [sizeLine_eq]; lia),aG]; rfl
noncomputable abbrev Fv:ME:=ai cg (aa 1) (ai cU (mC (.int 2)) (aa 5))
noncomputable abbrev Ep:MB:=aF (aK 6 (aq PM.bA (ae (aq PM.aL (ae (aa 0) (ae Fv ak))) (ae (aa 2) ak)))) (dc (jh cw (aa 4) (ae (gH (ae (aa 6) (ae (aq PM.bS (ae (aq PM.aL (ae (aa 0) (ae (ai cg Fv (mC (.int 1))) ak))) ak)) ak))) ak)))
theorem Er {n q many:Nat} {ns:List Int} {place size k:Int} {P:List aW} {s:ah} {y6:Option Val} (h:itemsOf s n = some (ns.map Val.int)) (hq:s[q]? = some (.lst (P.map tV))) (p0:0 ≤ place) (p1:place ≤ 1000) (k0:0 ≤ k) (k1:k ≤ 1000) (hm:many ≤ 4) (hl:P.length ≤ 64) :
  ∃ g t y,Ep [some (.loc n),some (.int place),some (.int (many:Int)),some (.int size),some (.loc q),some (.int k),y6] s = .nx [some (.loc n),some (.int place),some (.int (many:Int)),some (.int size),some (.loc q),some (.int k),y] ((s ++ g).set q (.lst ((P ++ [t]).map tV))) ∧ Good many t ∧ jw 134 t.2:=by
 have pl:∀ (s:ah) (y:Option Val),Fv [some (.loc n),some (.int place),some (.int (many:Int)),some (.int size),some (.loc q),some (.int k),y] s = .ok (.int (place + 2 * k)) s:=fun s y => by
  have a:ai cU (mC (.int 2)) (aa 5) [some (.loc n),some (.int place),some (.int (many:Int)),some (.int size),some (.loc q),some (.int k),y] s = .ok (.int (2 * k)) s:=o7 (i:=2) (by decide) (by decide)
  unfold Fv
  rw [bo (x:=.int place) (s1:=s) rfl a]; rfl
 obtain ⟨o,ho,o0,_⟩:=sG (k:=place + 2 * k) h (by lia) (by lia)
 obtain ⟨g,es,ee,le,re⟩:=ip o hm s
 have a1:aK 6 (aq PM.bA (ae (aq PM.aL (ae (aa 0) (ae Fv ak))) (ae (aa 2) ak))) [some (.loc n),some (.int place),some (.int (many:Int)),some (.int size),some (.loc q),some (.int k),y6] s = .nx [some (.loc n),some (.int place),some (.int (many:Int)),some (.int size),some (.loc q),some (.int k),some (tupI es)] (s ++ g):=by
  refine bF (v:=tupI es) ?_
  rw [call_of (eh (v:=.int o) (s1:=s) (w:=.int (many:Int)) (s2:=s) ?_ rfl)]
  ·exact ee
  ·rw [call_of (eh (v:=.loc n) (s1:=s) rfl (pl s y6))]; exact ho
 have h2:=aO h g
 obtain ⟨o2,zV,VP,_⟩:=sG (k:=place + 2 * k + 1) h2 (by lia) (by lia)
 obtain ⟨r,hr,br⟩:=uJ VP (s ++ g)
 have num:aq PM.bS (ae (aq PM.aL (ae (aa 0) (ae (ai cg Fv (mC (.int 1))) ak))) ak) [some (.loc n),some (.int place),some (.int (many:Int)),some (.int size),some (.loc q),some (.int k),some (tupI es)] (s ++ g) = .ok (.int r) (s ++ g):=by
  have ad:ai cg Fv (mC (.int 1)) [some (.loc n),some (.int place),some (.int (many:Int)),some (.int size),some (.loc q),some (.int k),some (tupI es)] (s ++ g) = .ok (.int (place + 2 * k + 1)) (s ++ g):=by
   rw [bo (pl (s ++ g) _) (y:=.int 1) (s2:=s ++ g) rfl]; rfl
  rw [call_of (gA (v:=.int o2) (s1:=s ++ g) ?_)]
  ·exact hr
  ·rw [call_of (eh (v:=.loc n) (s1:=s ++ g) rfl ad)]; exact zV
 refine ⟨g,(es,r),some (tupI es),?_,⟨le,re⟩,br⟩
 have ap:=Ik (o:=aa 4) (a:=ae (gH (ae (aa 6) (ae (aq PM.bS (ae (aq PM.aL (ae (aa 0) (ae (ai cg Fv (mC (.int 1))) ak))) ak)) ak))) ak) (v:=tV (es,r)) (μ:=[some (.loc n),some (.int place),some (.int (many:Int)),some (.int size),some (.loc q),some (.int k),some (tupI es)]) (s:=s ++ g) (n:=q) rfl (bT hq g) (gA (wj (eh (v:=tupI es) (s1:=s ++ g) rfl num) (by show 2 ≤ 1000; decide))) (bT hq g) (by rw [List.length_map]; lia)
 unfold Ep
 rw [aA,a1,aB,ap,List.map_append]; rfl
theorem sL {n many size:Nat} {ns:List Int} {place:Int} {st:ah} (h:itemsOf st n = some (ns.map Val.int)) (p0:0 ≤ place) (p1:place ≤ 1000) (hm:many ≤ 4) (hs:size ≤ 60) :
  ∃ (g:ah) (P:List aW),PM.dI [.loc n,.int place,.int (many:Int),.int (size:Int)] st = .ok (.loc st.length) (st ++ .lst (P.map tV) :: g) ∧ P.length = size ∧ ∀ t ∈ P,Good many t ∧ jw 134 t.2:=by
 obtain ⟨μ',av,e,P,g,lP,hP,rfl,y5,y6,rfl⟩:=cQ (g:=fun _ => True) (a:=aName 5) (body:=Ep)
  (fun i μ s' => ∃ (P:List aW) (g:ah),P.length = i ∧ (∀ t ∈ P,Good many t ∧ jw 134 t.2) ∧ s' = st ++ .lst (P.map tV) :: g ∧ ∃ y5 y6,μ = [some (.loc n),some (.int place),some (.int (many:Int)),some (.int (size:Int)),some (.loc st.length),y5,y6])
  (aP 0 (size:Int).toNat) 0 [some (.loc n),some (.int place),some (.int (many:Int)),some (.int (size:Int)),some (.loc st.length),none,none] (st ++ [.lst []])
  (by
   rintro i u μ s' hu ⟨P,g,lP,hP,rfl,y5,y6,rfl⟩
   refine ⟨trivial,?_⟩
   have q0:=hu
   unfold aP at q0
   rw [List.getElem?_map] at q0
   have hi:i < (size:Int).toNat:=by
    rcases Nat.lt_or_ge i (size:Int).toNat with q | q
    ·exact q
    ·rw [List.getElem?_eq_none (by rw [List.length_range]; exact q)] at q0; cases q0
   rw [List.getElem?_eq_getElem (by rw [List.length_range]; exact hi),List.getElem_range] at q0
   cases q0
   have VO:i < 60:=by lia
   obtain ⟨g2,t,y,eb,gt,bt⟩:=Er (size:=(size:Int)) (k:=0 + (i:Int)) (y6:=y6) (aO h (.lst (P.map tV) :: g)) (HP st _ g) p0 p1 (by lia) (by lia) hm (by lia)
   refine ⟨_,rfl,_,_,.inl eb,P ++ [t],g ++ g2,by rw [List.length_append,lP]; rfl,?_,?_,_,_,rfl⟩
   ·intro x hx
    rcases List.mem_append.mp hx with hx | hx
    ·exact hP x hx
    ·rw [List.mem_singleton.mp hx]; exact ⟨gt,bt⟩
   ·rw [List.append_assoc]; exact oh st _ _ _)
  (fun _ _ _ => trivial) ⟨[],[],rfl,fun _ h => (by cases h),rfl,none,none,rfl⟩
 refine ⟨g,P,?_,by rw [lP]; unfold aP; rw [List.length_map,List.length_range]; lia,hP⟩
 have a1:aK 4 (fK ak) [some (.loc n),some (.int place),some (.int (many:Int)),some (.int (size:Int)),none,none,none] st = .nx [some (.loc n),some (.int place),some (.int (many:Int)),some (.int (size:Int)),some (.loc st.length),none,none] (st ++ [.lst []]):=bF (sJ (vs:=[]) rfl (Nat.zero_le _))
 have a5:bJ (ae (aa 3) ak) [some (.loc n),some (.int place),some (.int (many:Int)),some (.int (size:Int)),some (.loc st.length),none,none] (st ++ [.lst []]) = .ok (aP 0 (size:Int).toNat,fun _ => True) (st ++ [.lst []]):=pq rfl (by lia) (by lia)
 unfold PM.dI
 rw [bZ (np:=4) (us:=[Val.loc n,.int place,.int (many:Int),.int (size:Int)]) rfl]
 show (aF (aK 4 (fK ak)) (aF (d9 (bJ (ae (aa 3) ak)) (aName 5) Ep) (bO (aa 4))) [some (.loc n),some (.int place),some (.int (many:Int)),some (.int (size:Int)),none,none,none] st).fin = _
 rw [aA,a1,aB,aA,fj,a5,aG,gN,e,aB]
 rfl
end PG
namespace PG
open PySem PySem.Spec L2 MN
open PyProof.Rows hiding St kindOf
end PG
namespace PG
open PySem PySem.Spec L2 MN
open PyProof.Rows hiding St kindOf
noncomputable def ones (many:Nat):List Int:=List.replicate many 1
section
variable {many:Nat} {s:ah}
end
end PG
namespace PG
open PySem PySem.Spec L2 MN
open PyProof.Rows hiding St kindOf
section
variable {μ:MN.Env} {s s1:ah} {a m:ME} {k:Int} {x:Val}
end
end PG
namespace PG
open PySem PySem.Spec L2 MN
open PyProof.Rows hiding St kindOf
end PG
namespace PG
open PySem PySem.Spec L2 MN
open PyProof.Rows hiding St kindOf
end PG
namespace PG
open PySem PySem.Spec L2 MN
open PyProof.Rows hiding St kindOf
end PG
namespace DL
open PySem
section
variable {prog:Program} {w:World} {A:Around} {E:Value → Shared → Prop} {s:Shared}
variable {K:Type} [DecidableEq K] {knd:KeyKind prog w K}
end
end DL
namespace L2
open PySem PySem.Spec PyProof.Rows
end L2
namespace MN
open PySem PySem.Spec L2
open PyProof.Rows hiding St
section
variable {K:PySem.W.Frag} {ρ:List Addr} {H:Hp}
end
end MN
namespace DL
open PySem PyProof.Rows
section
variable {prog:Program} {w:World} {A:Around} {E:Value → Shared → Prop} {s:Shared}
end
end DL
namespace L2
open PySem PySem.Spec PyProof.Rows
end L2
namespace MN
open PySem PySem.Spec L2
open PyProof.Rows hiding St
end MN
namespace MN
open PySem PySem.Spec L2
open PyProof.Rows hiding St
noncomputable def Il (i j:Nat) (ms:MA):MB:=fun μ st => (ms μ st).sb μ fun vs av => match vs with
 | [v,w] => .nx ((μ.set i (some v)).set j (some w)) av
 | _ => .bad
theorem Im {X:Cx} {E:XK} (i j:Nat) {x y:Str} {a b:Expr} {ms:MA} {px py pt pos:Pos} {kt k2 F6} (hN:X.N.Nodup) (ha:PA X [a,b] (tL X E ms)) (hc:X.calm = true:=by rfl) (hi:X.N[i]? = some x:=by rfl) (hj:X.N[j]? = some y:=by rfl) (F7:i ≠ j:=by decide)
  (hx:X.env.scope.names.lookup x = some .local:=by rfl) (hy:X.env.scope.names.lookup y = some .local:=by rfl)
  (hw:swappedStores [.Tuple [.Name x px,.Name y py] kt pt] (.Tuple [a,b] k2 F6) X.env = pure (some [x,y]):=by rfl)
  (hs:swapsWithSole [.Tuple [.Name x px,.Name y py] kt pt] (.Tuple [a,b] k2 F6) pos.line X.env = pure false:=by rfl) :
  PS X (.Assign [.Tuple [.Name x px,.Name y py] kt pt] (.Tuple [a,b] k2 F6) pos) (tS X E (Il i j ms)):=by
 refine PS.imp (F5 hc hN hi hj F7 hx hy ha hw hs) ?_
 rintro D σ H ⟨μ,ρ,st,rs,sr,h⟩
 refine Cw (R1:=aZ X.K) μ ρ st rs sr h fun us aQ ρ1 H1 xs e1 bU r1 h1 => ?_
 match us,r1,h1 with
 | [v,w],r1,h1 =>
  obtain ⟨x1,x2,rfl,q1,q2⟩:=r1.G8
  exact ⟨x1,x2,rfl,h1 ρ1 H1 _ (Step.refl _ _) bU (((rs.mono e1).set i q1).set j q2)⟩
 | [],_,h1 => exact h1.elim
 | [_],_,h1 => exact h1.elim
 | _ :: _ :: _ :: _,_,h1 => exact h1.elim
end MN
namespace PM
open PySem PySem.Spec L2 MN
open PyProof.Rows hiding St
end PM
namespace PG
open PySem PySem.Spec L2 MN
open PyProof.Rows hiding St kindOf
noncomputable def gF (A:List aW) (t:aW):List aW:=gh A t.1 (a_ A t.1 + t.2)
theorem Es (P:List aW):cm P = P.foldl gF []:=rfl
theorem l_ {A:List aW} {k:List Int} (h:k ∉ A.map (·.1)):a_ A k = 0:=by
 unfold a_
 have:(A.find? fun p => decide (p.1 = k)) = none:=by
  rw [List.find?_eq_none]
  intro p hp z
  exact h (List.mem_map.mpr ⟨p,hp,of_decide_eq_true z⟩)
 rw [this]; rfl
theorem BS {A:List aW} {k:List Int} (v:Int) (h:k ∉ A.map (·.1)):gh A k v = A ++ [(k,v)]:=by
 unfold gh
 rw [if_neg fun z => h (sI.mp z)]
theorem Et {D:List aW} (nd:(D.map (·.1)).Nodup) {t:aW} (ht:t ∈ D):a_ D t.1 = t.2:=by
 have m:=uV (A:=D) (k:=t.1) (List.mem_map.mpr ⟨t,ht,rfl⟩)
 have:(t.1,a_ D t.1) = t:=by
  have inj:∀ a ∈ D,∀ b ∈ D,a.1 = b.1 → a = b:=by
   intro a ha b hb e
   have p:=List.pairwise_map.mp nd
   exact Classical.byContradiction fun ne => by
    rcases List.mem_iff_getElem.mp ha with ⟨i,hi,rfl⟩
    rcases List.mem_iff_getElem.mp hb with ⟨j,hj,rfl⟩
    have q:=List.pairwise_iff_getElem.mp p
    rcases Nat.lt_trichotomy i j with c | c | c
    ·exact q i j hi hj c e
    ·subst c; exact ne rfl
    ·exact q j i hj hi c e.symm
  exact inj _ m _ ht rfl
 exact congrArg (·.2) this
theorem wk (r:Int) {A:List aW} (nd:(A.map (·.1)).Nodup):SO.gz ((dZ r A).map (·.1)):=by
 rw [← kI]
 unfold xM
 rw [List.filter_map,List.map_map]
 have:(((h_ (A.map (·.1))).filter ((fun t => t.2 != 0) ∘ fun k => (k,bb r (a_ A k)))).map ((fun t => t.1) ∘ fun k => (k,bb r (a_ A k)))) = (h_ (A.map (·.1))).filter ((fun t:aW => t.2 != 0) ∘ fun k => (k,bb r (a_ A k))):=by
  have:((fun t:aW => t.1) ∘ fun k:List Int => (k,bb r (a_ A k))) = id:=rfl
  rw [this,List.map_id]
 rw [this]
 exact List.Pairwise.sublist List.filter_sublist (jE nd)
theorem pz {B:Int} (b0:0 ≤ B):∀ (P A:List aW) (m:Nat),(∀ t ∈ P,-B ≤ t.2 ∧ t.2 ≤ B) → (∀ t ∈ A,-(m * B) ≤ t.2 ∧ t.2 ≤ m * B) → ∀ t ∈ P.foldl gF A,-((m + P.length:Nat) * B) ≤ t.2 ∧ t.2 ≤ (m + P.length:Nat) * B
 | [],A,m,_,h => h
 | p :: P,A,m,hp,h => by
  have e:((m + 1:Nat):Int) * B = m * B + B:=by rw [Int.natCast_add,Int.add_mul]; simp
  have mb:0 ≤ (m:Int) * B:=Int.mul_nonneg (Int.natCast_nonneg _) b0
  have q:=hp p List.mem_cons_self
  have ih:=pz b0 P (gF A p) (m + 1) (fun t ht => hp t (List.mem_cons_of_mem _ ht)) (fun t ht => by
   rw [e]
   rcases uU ht with ht | rfl
   ·have:=h t ht; lia
   ·have:=we (k:=p.1) mb h
    dsimp only
    lia)
  intro t ht
  have:=ih t ht
  rw [List.length_cons,show m + (P.length + 1) = m + 1 + P.length by lia]
  exact this
theorem wm {B:Int} (b0:0 ≤ B) {P:List aW} (hp:∀ t ∈ P,-B ≤ t.2 ∧ t.2 ≤ B):∀ t ∈ cm P,-(P.length * B) ≤ t.2 ∧ t.2 ≤ P.length * B:=by
 have:=pz b0 P [] 0 hp (fun t ht => by cases ht)
 rw [Nat.zero_add] at this
 exact this
theorem wq {r n C:Int} (hr:0 ≤ r) (hC:r ≤ C) (h:-C ≤ n ∧ n ≤ C):-C ≤ bb r n ∧ bb r n ≤ C:=by
 unfold bb
 split
 ·exact h
 ·have:=fM (m:=r) (by lia) n
  lia
theorem uZ {r:Int} {A:List aW} {t:aW} (h:t ∈ dZ r A):∃ q ∈ A,t.1 = q.1 ∧ t.2 = bb r q.2:=by
 unfold dZ at h
 obtain ⟨u,hu,rfl⟩:=List.mem_map.mp (List.mem_filter.mp h).1
 unfold lZ at hu
 obtain ⟨k,hk,rfl⟩:=List.mem_map.mp hu
 exact ⟨_,uV ((ef _).mem_iff.mp hk),rfl,rfl⟩
theorem BU (r:Int) (A:List aW):(dZ r A).length ≤ A.length:=by
 rw [← kI]
 refine Nat.le_trans (xN _ _ _) ?_
 rw [(ef _).length_eq,List.length_map]; exact Nat.le_refl _
structure VQ (many:Nat) (D:List aW) (C:Int):Prop where
 VR:SO.gz (D.map (·.1))
 len:∀ t ∈ D,t.1.length = many
 big:∀ t ∈ D,-C ≤ t.2 ∧ t.2 ≤ C
theorem Eu {r B:Int} {many:Nat} {P:List aW} (b0:0 ≤ B) (hr:0 ≤ r) (hl:∀ t ∈ P,t.1.length = many) (hb:∀ t ∈ P,-B ≤ t.2 ∧ t.2 ≤ B):VQ many (dZ r (cm P)) (P.length * B + r):=by
 have ga:=ft P
 refine ⟨wk r ga.1,fun t ht => ?_,fun t ht => ?_⟩
 ·obtain ⟨q,hq,e1,_⟩:=uZ ht
  obtain ⟨w,hw,e⟩:=List.mem_map.mp (ga.2.2 q hq)
  rw [e1,← e]; exact hl w hw
 ·obtain ⟨q,hq,_,e2⟩:=uZ ht
  have:=wm b0 hb q hq
  have pb:0 ≤ (P.length:Int) * B:=Int.mul_nonneg (Int.natCast_nonneg _) b0
  rw [e2]
  exact wq hr (by lia) (by lia)
end PG
namespace PG
open PySem PySem.Spec L2 MN
open PyProof.Rows hiding St kindOf
theorem sM {many:Nat} (h1:1 ≤ many) {k:List Int} (h:k.length = many):k ≠ []:=fun z => by
 rw [z] at h
 simp at h
 lia
end PG
namespace PG
open PySem PySem.Spec L2 MN
open PyProof.Rows hiding St kindOf
section
variable {r:Int} {p q many:Nat} {D P:List aW} {C:Int} {st:ah}
end
end PG
namespace PG
open PySem PySem.Spec L2 MN
open PyProof.Rows hiding St kindOf
section
variable {r n C:Int} {p q many:Nat} {D P:List aW} {st:ah}
end
end PG
namespace PG
open PySem PySem.Spec L2 MN
open PyProof.Rows hiding St kindOf
section
variable {r n C:Int} {p q many:Nat} {D P:List aW} {st:ah}
theorem Fw {μ:MN.Env} {a m:ME} {s s1:ah} {k:Nat} {L:List aW} (ha:a μ s = .ok (.int r) s) (hm:m μ s = .ok (.loc k) s1) (h:itemsOf s1 k = some (L.map tV)) (hl:L.length < 1000000) (ne:∀ t ∈ L,t.1 ≠ []) :
  ∃ c1 c3,aq PM.ba (ae a (ae m ak)) μ s = .ok (.loc (s1.length + 1)) (s1 ++ [c1,.lst ((dZ r (cm L)).map tV),c3]) ∧ (s1 ++ [c1,.lst ((dZ r (cm L)).map tV),c3])[s1.length + 1]? = some (.lst ((dZ r (cm L)).map tV)):=by
 obtain ⟨c1,c3,e⟩:=iT (r:=r) h hl ne
 refine ⟨c1,c3,?_,?_⟩
 ·rw [call_of (eh ha hm),e]
 ·rw [List.getElem?_append_right (by lia),show s1.length + 1 - s1.length = 1 by lia]; rfl
end
end PG
namespace PG
open PySem PySem.Spec L2 MN
open PyProof.Rows hiding St kindOf
section
variable {r n C:Int} {p q many:Nat} {D P:List aW}
end
end PG
namespace PG
open PySem PySem.Spec L2 MN
open PyProof.Rows hiding St kindOf
theorem q_ {a:AS} {e:ME} (I:Nat → MN.Env → ah → List Val → Prop):∀ (us:List Val) (k:Nat) (τ:MN.Env) (st:ah) (ys:List Val),
  (∀ (i:Nat) (u:Val) (τ:MN.Env) (st:ah) (ys:List Val),us[i]? = some u → I (k + i) τ st ys → ∃ τ1,a u τ = some τ1 ∧ ∃ y cI,e τ1 st = .ok y cI ∧ I (k + i + 1) τ1 cI (ys ++ [y])) → I k τ st ys →
  ∃ τ' Ic av,e8 (fun _ => True) a cj e us τ st ys = .ok Ic av ∧ I (k + us.length) τ' av Ic
 | [],k,τ,st,ys,_,h => ⟨τ,ys,st,by unfold e8; rw [if_pos trivial],h⟩
 | u :: us,k,τ,st,ys,hs,h => by
  obtain ⟨τ1,h1,y,cI,h2,h3⟩:=hs 0 u τ st ys rfl h
  obtain ⟨τ',Ic,av,e',h'⟩:=q_ (a:=a) (e:=e) I us (k + 1) τ1 cI (ys ++ [y]) (fun i u τ st ys hu hI => by
   have:=hs (i + 1) u τ st ys hu
   rw [show k + (i + 1) = k + 1 + i by lia] at this
   exact this hI) h3
  refine ⟨τ',Ic,av,?_,by rw [List.length_cons,show k + (us.length + 1) = k + 1 + us.length by lia]; exact h'⟩
  unfold e8
  rw [if_pos trivial,h1]
  show (match e τ1 st with
   | .ok y cI => e8 (fun _ => True) a cj e us τ1 cI (ys ++ [y])
   | .err _ _ => .bad
   | .bad => .bad) = _
  rw [h2]
  exact e'
noncomputable abbrev K3:ME:=gH (ae (aq PM.bA (ae (ai cg (ai bh (aa 2) (mC (.int 7))) (ai cU (mC (.int 37)) (aa 0))) (ae (aa 1) ak))) (ae (aq PM.bS (ae (ai cg (aa 2) (ai cU (mC (.int 5)) (aa 0))) ak)) ak))
theorem Ew {i:Int} {many:Nat} {mix:Int} (i0:0 ≤ i) (m0:0 ≤ mix) (hm:many ≤ 4) (s:ah):∃ g t,K3 [some (.int i),some (.int (many:Int)),some (.int mix)] s = .ok (tV t) (s ++ g) ∧ Good many t ∧ jw 134 t.2:=by
 obtain ⟨μ,hμ⟩:∃ μ:MN.Env,μ = [some (.int i),some (.int (many:Int)),some (.int mix)]:=⟨_,rfl⟩
 obtain ⟨g,es,ee,le,re⟩:=ip (mix.fdiv 7 + 37 * i) hm s
 have a1:ai cg (ai bh (aa 2) (mC (.int 7))) (ai cU (mC (.int 37)) (aa 0)) μ s = .ok (.int (mix.fdiv 7 + 37 * i)) s:=by
  have d:ai bh (aa 2) (mC (.int 7)) μ s = .ok (.int (mix.fdiv 7)) s:=pk (by rw [hμ]; rfl) (jj (by decide) (by decide))
  have m:ai cU (mC (.int 37)) (aa 0) μ s = .ok (.int (37 * i)) s:=by
   rw [hμ]; exact o7 (i:=37) (by decide) (by decide)
  rw [bo d m]; rfl
 have e1:aq PM.bA (ae (ai cg (ai bh (aa 2) (mC (.int 7))) (ai cU (mC (.int 37)) (aa 0))) (ae (aa 1) ak)) μ s = .ok (tupI es) (s ++ g):=by
  rw [call_of (eh a1 (w:=.int (many:Int)) (s2:=s) (by rw [hμ]; rfl)),ee]
 obtain ⟨r,hr,br⟩:=uJ (c:=mix + 5 * i) (by lia) (s ++ g)
 have a2:ai cg (aa 2) (ai cU (mC (.int 5)) (aa 0)) μ (s ++ g) = .ok (.int (mix + 5 * i)) (s ++ g):=by
  have m:ai cU (mC (.int 5)) (aa 0) μ (s ++ g) = .ok (.int (5 * i)) (s ++ g):=by
   rw [hμ]; exact o7 (i:=5) (by decide) (by decide)
  rw [bo (x:=.int mix) (s1:=s ++ g) (by rw [hμ]; rfl) m]; rfl
 have e2:aq PM.bS (ae (ai cg (aa 2) (ai cU (mC (.int 5)) (aa 0))) ak) μ (s ++ g) = .ok (.int r) (s ++ g):=by
  rw [call_of (gA a2),hr]
 refine ⟨g,(es,r),?_,⟨le,re⟩,br⟩
 rw [← hμ]
 exact wj (eh e1 e2) (by show 2 ≤ 1000; decide)
end PG
namespace PM
open PySem PySem.Spec L2 MN
open PyProof.Rows hiding St
noncomputable def repeated (L:dS) (mb:ME):Val → FN:=Hv 3 5 L (aF (aK 3 (aa 1)) (aF (d9 (lR (ae (ai qc (uB (aa 2)) (mC (.int 2))) (ae (ui (mC (.int 1))) (ae (ui (mC (.int 1))) ak)))) (aName 4) (aF (aK 3 (gZ 0 L mb (ae (aa 3) (ae (aa 3) ak)))) (gI (b_ (ai hZ (ai DO (ai A4 (aa 2) (aa 4)) (mC (.int 1))) (mC (.int 1)))) (aK 3 (gZ 0 L mb (ae (aa 3) (ae (aa 1) ak)))) bG))) (bO (aa 3))))
end PM
namespace PG
open PySem PySem.Spec L2 MN
open PyProof.Rows hiding St kindOf
theorem K4 {hi:Int} {n i:Nat} {u:Val} (h:(iS hi n)[i]? = some u):i < n ∧ u = .int (hi - (i:Int)):=by
 unfold iS at h
 have wZ:=ff h
 rw [List.length_map,List.length_range] at wZ
 rw [List.getElem?_map,List.getElem?_range wZ] at h
 exact ⟨wZ,(Option.some.inj h).symm⟩
theorem Io (hi:Int) (n:Nat):(iS hi n).length = n:=by unfold iS; rw [List.length_map,List.length_range]
theorem Ex (m:Nat):Builtin.bitAnd (m:Int) 1 = ((m % 2:Nat):Int):=by
 unfold Builtin.bitAnd
 have h1:decide ((0:Int) ≤ (m:Int)) = true:=by simp
 have h2:decide ((0:Int) ≤ 1) = true:=by decide
 rw [h1,h2]
 show (((m:Int).toNat &&& (1:Int).toNat:Nat):Int) = _
 rw [Int.toNat_natCast]
 show ((m &&& 1:Nat):Int) = _
 rw [Nat.and_one_is_mod]
theorem u3 {L:dS} {mb:ME} {u v w y:Val} {μ:MN.Env} {ms:MA} {s s1 s2:ah} (pZ:L.ps.length = 2) (hμ:μ[0]? = some (some (.fn L u))) (ha:ms μ s = .ok [v,w] s1) (hb:mb [some v,some w,some u] s1 = .ok y s2):gZ 0 L mb ms μ s = .ok y s2:=by
 unfold gZ
 rw [hμ]
 dsimp only
 rw [if_pos rfl,ha]
 show (if ([v,w]:List Val).length = L.ps.length then _ else _) = _
 rw [pZ,if_pos (by rfl)]
 show vW mb [some v,some w,some u] s1 = _
 unfold vW
 rw [hb]
theorem Ip {np n:Nat} {L:dS} {u:Val} {us:List Val} {b:MB} {st:ah} (h:us.length + 1 = np):Hv np n L b u us st = (b (some (.fn L u) :: us.map some ++ List.replicate (n - np) none) st).fin:=by
 unfold Hv
 rw [if_pos h]
 cases b (some (.fn L u) :: us.map some ++ List.replicate (n - np) none) st <;> rfl
section
variable {L:dS} {mb:ME} {u x:Val} {n:Nat}
noncomputable abbrev OG:MT:=b_ (ai hZ (ai DO (ai A4 (aa 2) (aa 4)) (mC (.int 1))) (mC (.int 1)))
noncomputable abbrev TV (L:dS) (mb:ME):MB:=aF (aK 3 (gZ 0 L mb (ae (aa 3) (ae (aa 3) ak)))) (gI OG (aK 3 (gZ 0 L mb (ae (aa 3) (ae (aa 1) ak)))) bG)
theorem xP {m:Nat} {p:Nat} {x0 x1 x3:Option Val} {s:ah}:OG [x0,x1,some (Val.int (m:Int)),x3,some (Val.int (p:Int))] s = .ok (m / 2 ^ p % 2 == 1) s:=by
 have e1:ai A4 (aa 2) (aa 4) [x0,x1,some (Val.int (m:Int)),x3,some (Val.int (p:Int))] s = .ok (Val.int ((m / 2 ^ p:Nat):Int)) s:=by
  rw [bo (x:=.int (m:Int)) (y:=.int (p:Int)) (s1:=s) (s2:=s) rfl rfl]
  show (if (0:Int) ≤ (p:Int) then Res.ok (Val.int ((m:Int) / 2 ^ (p:Int).toNat)) s else .bad) = _
  rw [if_pos (by lia),Int.toNat_natCast]
  have:((m / 2 ^ p:Nat):Int) = (m:Int) / 2 ^ p:=by simp
  rw [this]
 have e2:ai DO (ai A4 (aa 2) (aa 4)) (mC (.int 1)) [x0,x1,some (Val.int (m:Int)),x3,some (Val.int (p:Int))] s = .ok (Val.int ((m / 2 ^ p % 2:Nat):Int)) s:=by
  rw [bo e1 (y:=.int 1) (s2:=s) rfl]
  show Res.ok (Val.int (Builtin.bitAnd ((m / 2 ^ p:Nat):Int) 1)) s = _
  rw [Ex]
 unfold OG
 rw [cG (q9 e2)]
 have:(((m / 2 ^ p % 2:Nat):Int) == 1) = (m / 2 ^ p % 2 == 1):=by
  cases h:(m / 2 ^ p % 2 == 1) with
  | true => rw [beq_iff_eq] at h; rw [h]; rfl
  | false =>
   have h':=beq_eq_false_iff_ne.mp h
   exact beq_eq_false_iff_ne.mpr (by lia)
 rw [this]
structure K5 (mb:ME) (u:Val) (n:Nat) (Rep:Nat → Val → ah → Prop):Prop where
 pure:∀ i v st,Rep i v st → Ke v = false
 mono:∀ i v st g,Rep i v st → Rep i v (st ++ g)
 mul:∀ i j v w st,1 ≤ i → 1 ≤ j → i + j ≤ n → Rep i v st → Rep j w st → ∃ y g,mb [some v,some w,some u] st = .ok y (st ++ g) ∧ Rep (i + j) y (st ++ g)
theorem yU (n p:Nat):n / 2 ^ p = 2 * (n / 2 ^ (p + 1)) + n / 2 ^ p % 2:=by
 have:n / 2 ^ (p + 1) = n / 2 ^ p / 2:=by rw [Nat.pow_succ,Nat.div_div_eq_div_mul]
 lia
theorem Iq {Rep:Nat → Val → ah → Prop} (pZ:L.ps.length = 2) (hn:1 ≤ n) (hb:n < 2 ^ 60) (R:K5 mb u n Rep) {st:ah} (h1:Rep 1 x st) :
  ∃ y g,PM.repeated L mb u [x,.int (n:Int)] st = .ok y (st ++ g) ∧ Rep n y (st ++ g):=by
 have VS:n.log2 < 60:=(Nat.log2_lt (by lia)).mpr hb
 have OH:n / 2 ^ n.log2 = 1:=by
  have a:=Nat.log2_self_le (n:=n) (by lia)
  have b:n < 2 ^ (n.log2 + 1):=Nat.lt_log2_self
  rw [Nat.pow_succ] at b
  have hp:0 < 2 ^ n.log2:=Nat.pow_pos (by decide)
  have c:1 ≤ n / 2 ^ n.log2:=(Nat.le_div_iff_mul_le hp).mpr (by lia)
  have d:n / 2 ^ n.log2 < 2:=(Nat.div_lt_iff_lt_mul hp).mpr (by lia)
  lia
 obtain ⟨μ',av,e,v,x4,g,hg,rfl,rv⟩:=cQ (g:=fun _ => True) (a:=aName 4) (body:=TV L mb)
  (fun i μ s' => ∃ v x4 g,s' = st ++ g ∧ μ = [some (.fn L u),some x,some (Val.int (n:Int)),some v,x4] ∧ Rep (n / 2 ^ (n.log2 - i)) v s')
  (iS ((n.log2:Int) - 1) n.log2) 0 [some (.fn L u),some x,some (Val.int (n:Int)),some x,none] st
  (by
   rintro i w μ s' hu ⟨v,x4,g,hs,rfl,rv⟩
   obtain ⟨hi,rfl⟩:=K4 hu
   rw [Nat.zero_add] at rv ⊢
   refine ⟨trivial,?_⟩
   obtain ⟨p,hp⟩:∃ p,p = n.log2 - (i + 1):=⟨_,rfl⟩
   have VT:n.log2 - i = p + 1:=by lia
   rw [VT] at rv
   have ep:((n.log2:Int) - 1 - (i:Int)) = (p:Int):=by lia
   rw [ep,← hp]
   obtain ⟨k,hk⟩:∃ k,k = n / 2 ^ (p + 1):=⟨_,rfl⟩
   have zz:=yU n p
   rw [← hk] at zz rv
   have k1:1 ≤ k:=by
    rw [hk]
    have hp:0 < 2 ^ (p + 1):=Nat.pow_pos (by decide)
    refine (Nat.le_div_iff_mul_le hp).mpr ?_
    have a:=Nat.log2_self_le (n:=n) (by lia)
    have b:2 ^ (p + 1) ≤ 2 ^ n.log2:=Nat.pow_le_pow_right (by decide) (by lia)
    lia
   have kn:n / 2 ^ p ≤ n:=Nat.div_le_self _ _
   have bt:n / 2 ^ p % 2 < 2:=Nat.mod_lt _ (by decide)
   obtain ⟨y,g1,ey,ry⟩:=R.mul k k v v s' k1 k1 (by lia) rv rv
   have pv:=R.pure _ _ _ rv
   have vv:∀ s,ae (aa 3) (ae (aa 3) ak) [some (.fn L u),some x,some (Val.int (n:Int)),some v,some (Val.int (p:Int))] s = .ok [v,v] s:=fun s => eh (lV rfl pv) (lV rfl pv)
   have s1:aK 3 (gZ 0 L mb (ae (aa 3) (ae (aa 3) ak))) [some (.fn L u),some x,some (Val.int (n:Int)),some v,some (Val.int (p:Int))] s' = .nx [some (.fn L u),some x,some (Val.int (n:Int)),some y,some (Val.int (p:Int))] (s' ++ g1):=by
    rw [bF (u3 pZ rfl (vv s') ey)]; rfl
   have py:=R.pure _ _ _ ry
   refine ⟨[some (.fn L u),some x,some (Val.int (n:Int)),some v,some (Val.int (p:Int))],rfl,?_⟩
   cases Ey:(n / 2 ^ p % 2 == 1) with
   | false =>
    have h0:=beq_eq_false_iff_ne.mp Ey
    have t:=xP (m:=n) (p:=p) (x0:=some (.fn L u)) (x1:=some x) (x3:=some y) (s:=s' ++ g1)
    rw [Ey] at t
    refine ⟨_,_,.inl (?_:_ = bB.nx [some (.fn L u),some x,some (Val.int (n:Int)),some y,some (Val.int (p:Int))] (s' ++ g1)),y,some (Val.int (p:Int)),g ++ g1,by rw [hs,List.append_assoc],rfl,?_⟩
    ·show aF _ _ _ _ = _
     rw [aA,s1,aB,il t]
    ·rw [show n / 2 ^ p = k + k by lia]; exact ry
   | true =>
    have h0:=beq_iff_eq.mp Ey
    have t:=xP (m:=n) (p:=p) (x0:=some (.fn L u)) (x1:=some x) (x3:=some y) (s:=s' ++ g1)
    rw [Ey] at t
    have rx:Rep 1 x (s' ++ g1):=by rw [hs]; exact R.mono _ _ _ _ (R.mono _ _ _ _ h1)
    have px:=R.pure _ _ _ rx
    obtain ⟨z,g2,ez,rz⟩:=R.mul (k + k) 1 y x (s' ++ g1) (by lia) (by lia) (by lia) ry rx
    have yx:ae (aa 3) (ae (aa 1) ak) [some (.fn L u),some x,some (Val.int (n:Int)),some y,some (Val.int (p:Int))] (s' ++ g1) = .ok [y,x] (s' ++ g1):=eh (lV rfl py) (lV rfl px)
    have s2:aK 3 (gZ 0 L mb (ae (aa 3) (ae (aa 1) ak))) [some (.fn L u),some x,some (Val.int (n:Int)),some y,some (Val.int (p:Int))] (s' ++ g1) = .nx [some (.fn L u),some x,some (Val.int (n:Int)),some z,some (Val.int (p:Int))] (s' ++ g1 ++ g2):=by
     rw [bF (u3 pZ rfl yx ez)]; rfl
    refine ⟨_,_,.inl (?_:_ = bB.nx [some (.fn L u),some x,some (Val.int (n:Int)),some z,some (Val.int (p:Int))] (s' ++ g1 ++ g2)),z,some (Val.int (p:Int)),g ++ g1 ++ g2,by rw [hs,List.append_assoc,List.append_assoc,List.append_assoc],rfl,?_⟩
    ·show aF _ _ _ _ = _
     rw [aA,s1,aB,iJ t,s2]
    ·rw [show n / 2 ^ p = k + k + 1 by lia]; exact rz)
  (fun μ s hp => trivial)
  ⟨x,none,[],(List.append_nil st).symm,rfl,by rw [Nat.sub_zero,OH]; exact h1⟩
 rw [Nat.zero_add,Io,Nat.sub_self,Nat.pow_zero,Nat.div_one] at rv
 subst hg
 refine ⟨v,g,?_,rv⟩
 have px:=R.pure _ _ _ h1
 have pv:=R.pure _ _ _ rv
 unfold PM.repeated
 rw [Ip (np:=3) (us:=[x,Val.int (n:Int)]) rfl]
 show (aF (aK 3 (aa 1)) (aF (d9 (lR (ae (ai qc (uB (aa 2)) (mC (.int 2))) (ae (ui (mC (.int 1))) (ae (ui (mC (.int 1))) ak)))) (aName 4) (TV L mb)) (bO (aa 3))) [some (.fn L u),some x,some (Val.int (n:Int)),none,none] st).fin = _
 have f1:aK 3 (aa 1) [some (.fn L u),some x,some (Val.int (n:Int)),none,none] st = .nx [some (.fn L u),some x,some (Val.int (n:Int)),some x,none] st:=by
  rw [bF (v:=x) (lV rfl px)]; rfl
 have bits:Builtin.Int.intBits (n:Int) = n.log2 + 1:=by
  unfold Builtin.Int.intBits
  rw [if_neg (by simp; lia)]
  rfl
 have a1:ai qc (uB (aa 2)) (mC (.int 2)) [some (.fn L u),some x,some (Val.int (n:Int)),some x,none] st = .ok (Val.int ((n.log2:Int) - 1)) st:=by
  rw [bo (x:=.int ((n.log2 + 1:Nat):Int)) (y:=.int 2) (s1:=st) (s2:=st) (by show Res.ok (Val.int ((Builtin.Int.intBits (n:Int):Nat):Int)) st = _; rw [bits]) rfl]
  show Res.ok (Val.int (((n.log2 + 1:Nat):Int) - 2)) st = _
  rw [show ((n.log2 + 1:Nat):Int) - 2 = (n.log2:Int) - 1 by lia]
 have a2:∀ μ:MN.Env,ui (mC (.int 1)) μ st = .ok (Val.int (-1)) st:=fun _ => rfl
 have dn:lR (ae (ai qc (uB (aa 2)) (mC (.int 2))) (ae (ui (mC (.int 1))) (ae (ui (mC (.int 1))) ak))) [some (.fn L u),some x,some (Val.int (n:Int)),some x,none] st = .ok (iS ((n.log2:Int) - 1) n.log2,fun _ => True) st:=by
  rw [D8,gO a1 (eh (a2 _) (a2 _)),aw,HN (by lia) (by lia) (by decide) (by decide),show ((n.log2:Int) - 1 - -1).toNat = n.log2 by lia]
 rw [aA,f1,aB,aA,fj,dn,aG,gN,e,aB,bz,lV rfl pv,aG]
 rfl
end
end PG
namespace PG
open PySem PySem.Spec L2 MN
open PyProof.Rows hiding St kindOf
theorem gB (n:Int):bb 0 n = n:=if_pos rfl
theorem gC {r:Int} (h:0 < r) (n:Int):bb r n = n % r:=by
 unfold bb
 rw [if_neg (by lia),Int.fmod_eq_emod_of_nonneg n (by lia)]
theorem kJ {r:Int} (hr:cf r = true):r = 0 ∨ (2 ≤ r ∧ r ≤ 997):=by
 unfold cf at hr
 rcases Bool.or_eq_true _ _ |>.mp hr with h | h
 ·exact .inl (by simpa using h)
 ·have:=yI h; exact .inr (by lia)
section
variable {r:Int}
theorem BV (hr:cf r = true) (a b:Int):bb r (bb r a * bb r b) = bb r (a * b):=by
 rcases kJ hr with rfl | h
 ·rw [gB,gB,gB,gB]
 ·rw [gC (by lia),gC (by lia),gC (by lia),gC (by lia),← Int.mul_emod]
theorem Ez (hr:cf r = true) (a:Int):bb r (bb r a) = bb r a:=by
 rcases kJ hr with rfl | h
 ·rw [gB,gB]
 ·rw [gC (by lia),gC (by lia),Int.emod_emod]
theorem BW (hr:cf r = true) (a b:Int):bb r (a * bb r b) = bb r (a * b):=by
 rw [← BV hr,Ez hr,BV hr]
theorem BX (hr:cf r = true) (a b:Int):bb r (bb r a + bb r b) = bb r (a + b):=by
 rcases kJ hr with rfl | h
 ·rw [gB,gB,gB,gB]
 ·rw [gC (by lia),gC (by lia),gC (by lia),gC (by lia),← Int.add_emod]
theorem EA (hr:cf r = true):bb r 0 = 0:=by
 rcases kJ hr with rfl | h
 ·rw [gB]
 ·rw [gC (by lia)]; exact Int.zero_emod _
end
theorem rf {a b:Nat} {i j:Int} (h:jw a i) (k:jw b j) (ha:a ≤ 1000000) (hb:b ≤ 1000000):MulOk i j:=.inl ⟨Sz.of h ha,Sz.of k hb⟩
section
variable {r x:Int} {M:dC}
end
end PG
namespace PG
open PySem PySem.Spec L2 MN
open PyProof.Rows hiding St kindOf
theorem cY {st:ah} {x q:Str} {l c:Nat} (h:fh st x l c q) (g:ah):fh (st ++ g) x l c q:=let ⟨j,h⟩:=h; ⟨j,bT h g⟩
theorem kK:∀ es pt:List Int,kD (es.map Val.int) (pt.map Val.int) = (es.zip pt).map fun p => Val.tup [.int p.1,.int p.2]
 | [],_ => by cases ‹List Int› <;> rfl
 | _ :: _,[] => rfl
 | e :: es,x :: pt => by
  show Val.tup [.int e,.int x] :: kD (es.map Val.int) (pt.map Val.int) = _
  rw [kK es pt]; rfl
section
variable {r:Int} {M:dC} {q p:Nat} {es pt:List Int} {st:ah}
end
end PG
namespace PG
open PySem PySem.Spec L2 MN
open PyProof.Rows hiding St kindOf
theorem xQ {lo:Int} {n i:Nat} {u:Val} (h:(aP lo n)[i]? = some u):i < n ∧ u = .int (lo + (i:Int)):=by
 unfold aP at h
 have wZ:=ff h
 rw [List.length_map,List.length_range] at wZ
 rw [List.getElem?_map,List.getElem?_range wZ] at h
 exact ⟨wZ,(Option.some.inj h).symm⟩
theorem wt (lo:Int) (n:Nat):(aP lo n).length = n:=by unfold aP; rw [List.length_map,List.length_range]
section
variable {r:Int} {q p:Nat} {pt:List Int} {st:ah} {t:aW}
end
end PG
namespace PG
open PySem PySem.Spec L2 MN
open PyProof.Rows hiding St kindOf
section
variable {r:Int} {p a many:Nat} {D:List aW} {st:ah} {k:List Int}
end
end PG
namespace PG
open PySem PySem.Spec L2 MN
open PyProof.Rows hiding St kindOf
section
variable {r:Int} {p a many:Nat} {D:List aW} {st:ah} {t:aW}
end
end PG
namespace PG
open PySem PySem.Spec L2 MN
open PyProof.Rows hiding St kindOf
theorem Ir {μ:MN.Env} {m:ME} {many size:Nat} {mix:Int} {s:ah} (caps:List Nat) (hm:m μ s = .ok (.int (size:Int)) s) (hz:size ≤ 60) (hc:j5 1 caps μ = [none,some (.int (many:Int)),some (.int mix)]) (m0:0 ≤ mix) (h4:many ≤ 4) :
  ∃ (g:ah) (k:Nat) (P:List aW),cO 1 caps (bJ (ae m ak)) (aName 0) cj K3 μ s = .ok (.loc k) (s ++ g) ∧ (s ++ g)[k]? = some (.lst (P.map tV)) ∧ P.length = size ∧ ∀ t ∈ P,Good many t ∧ jw 134 t.2:=by
 obtain ⟨τ',Ic,av,e,⟨P,rfl,lP,hP⟩,⟨g,rfl⟩,x,rfl⟩:=q_ (a:=aName 0) (e:=K3)
  (fun i τ st ys => (∃ P:List aW,ys = P.map tV ∧ P.length = i ∧ ∀ t ∈ P,Good many t ∧ jw 134 t.2) ∧ (∃ g,st = s ++ g) ∧ ∃ x,τ = [x,some (.int (many:Int)),some (.int mix)])
  (aP 0 (size:Int).toNat) 0 [none,some (.int (many:Int)),some (.int mix)] s []
  (by
   rintro i u τ st ys hu ⟨⟨P,rfl,lP,hP⟩,⟨g,rfl⟩,x,rfl⟩
   obtain ⟨hi,rfl⟩:=xQ hu
   obtain ⟨g2,t,et,gt,bt⟩:=Ew (i:=0 + (i:Int)) (by lia) m0 h4 (s ++ g)
   refine ⟨_,rfl,tV t,s ++ (g ++ g2),by rw [← List.append_assoc]; exact et,⟨P ++ [t],by rw [List.map_append]; rfl,by rw [List.length_append,lP]; rfl,fun y hy => ?_⟩,⟨_,rfl⟩,_,rfl⟩
   rcases List.mem_append.mp hy with hy | hy
   ·exact hP y hy
   ·rw [List.mem_singleton.mp hy]; exact ⟨gt,bt⟩)
  ⟨⟨[],rfl,rfl,fun _ h => (by cases h)⟩,⟨[],(List.append_nil s).symm⟩,none,rfl⟩
 have lr:(aP 0 (size:Int).toNat).length = size:=by rw [wt]; lia
 rw [lr,Nat.zero_add] at lP
 refine ⟨g ++ [.lst (P.map tV)],(s ++ g).length,P,?_,by rw [← List.append_assoc]; exact Be _ _,lP,hP⟩
 rw [gf,pq (gA hm) (by lia) (by lia),aw,iI,if_pos (by rw [lr,sizeLine_eq]; lia),hc,e,aw,kF,List.append_assoc]
section
variable {ns:List Int} {r:Int} {many:Nat} {st:ah}
end
end PG
namespace L2
open PySem PySem.Spec PyProof.Rows
section
variable {X:Cx}
theorem yV (hh:X.A.handled = none):cJ X (.builtin "min") (fun xs H Q => ∃ i j,xs = [.int i,.int j] ∧ Q (.int (if j < i then j else i)) H):=by
 rintro pins s σ H xs ws Q I r ⟨i,j,rfl,q⟩
 obtain ⟨u,v,rfl,ru,rv⟩:=Vals.two r
 obtain ⟨t,rfl⟩:=ru
 obtain ⟨t',rfl⟩:=rv
 refine min_two_ints hh fun h' tk hk => ?_
 refine ⟨.int (if j < i then j else i),H,I.kept hk,?_,q⟩
 by_cases c:j < i
 ·rw [if_pos c,if_pos c]; exact ⟨_,rfl⟩
 ·rw [if_neg c,if_neg c]; exact ⟨_,rfl⟩
end
end L2
namespace MN
open PySem PySem.Spec L2
open PyProof.Rows hiding St
noncomputable def BY:FN
 | [.int i,.int j],st => .ok (.int (if j < i then j else i)) st
 | _,_ => .bad
section
variable {X:Cx} {E:XK}
theorem yW (hh:X.A.handled = none):cJ X (.builtin "min") (cM (wo X) E BY):=by
 refine cJ.imp (yV hh) ?_
 rintro xs H Q ⟨ρ,st,us,sr,r,h⟩
 unfold BY at h
 split at h
 ·rename_i i j
  obtain ⟨v,w,rfl,r1,r2⟩:=r.G8
  exact ⟨i,j,by rw [r1.cn,r2.cn],dw sr h⟩
 ·exact h.elim
theorem Iu {j k:Int} {st:ah}:BY [.int j,.int k] st = .ok (.int (if k < j then k else j)) st:=rfl
end
end MN
namespace PM
open PySem PySem.Spec L2 MN
open PyProof.Rows hiding St
noncomputable def joined:FN:=jx 2 2 (bO (aq oO (ae (cO 2 [] (qL false false (ae (aa 0) (ae (aa 1) ak))) (i4 [(aName 0),(aName 1)]) cj (ai cg (aa 0) (aa 1))) ak)))
noncomputable def cR:FN:=jx 3 7 (aF (aK 3 (fK ak)) (aF (d9 (fe (aa 1)) (aName 4) (d9 (fe (aa 2)) (aName 5) (aF (aK 6 (aq oO (ae (cO 1 [4,5] (bJ (ae (aq d8 (ae (ai de (aa 4) (mC (.int 0))) ak)) ak)) (aName 0) cj (ai cg (ai de (ai de (aa 1) (mC (.int 0))) (aa 0)) (ai de (ai de (aa 2) (mC (.int 0))) (aa 0)))) ak))) (dc (jh cw (aa 3) (ae (gH (ae (aa 6) (ae (ai cU (ai de (aa 4) (mC (.int 1))) (ai de (aa 5) (mC (.int 1)))) ak))) ak)))))) (bO (aq PM.ba (ae (aa 0) (ae (aa 3) ak))))))
noncomputable def product:FN:=jx 3 8 (aF (aK 3 j7) (aF (d9 (fe (aa 1)) (i4 [(aName 4),(aName 5)]) (d9 (fe (aa 2)) (i4 [(aName 6),(aName 7)]) (dc (aq PM.lY (ae (aa 3) (ae (aq PM.joined (ae (aa 4) (ae (aa 6) ak))) (ae (ai cU (aa 5) (aa 7)) ak))))))) (bO (aq PM.dJ (ae (aa 0) (ae (aa 3) ak))))))
noncomputable def times:FN:=jx 3 3 (aF (dc (aq PM.bR (ae (aa 0) ak))) (bO (aq PM.product (ae (aa 0) (ae (aa 1) (ae (aa 2) ak))))))
noncomputable def cS:ME:=(aq PM.product (ae (aa 2) (ae (aa 0) (ae (aa 1) ak))))
noncomputable def raised (M:dC):FN:=jx 3 3 (aF (dc (aq PM.bR (ae (aa 0) ak))) (aF (gI (iZ (dB (b_ (aq PM.dD (ae (aa 2) ak)))) (b_ (ai ltV (aa 2) (mC (.int 1))))) (lK "NoCount" (ae (mC (.str "a sum is raised by a whole number from 1 on")) ak)) bG) (bO (lS M 0 (PM.repeated M.S PM.cS) (ae (aq jZ (ae (aa 1) ak)) (ae (aa 2) ak))))))
end PM
namespace PG
open PySem PySem.Spec L2 MN
open PyProof.Rows hiding St kindOf
noncomputable def aU (a b:List Int):List Int:=List.zipWith (· + ·) a b
noncomputable def cB (A B:List aW):List aW:=A.flatMap fun s => B.map fun t => (aU s.1 t.1,s.2 * t.2)
noncomputable def tD (r:Int) (P:List aW):List aW:=dZ r (cm P)
noncomputable def dO (f:List Int → Int):List aW → Int
 | [] => 0
 | t :: L => f t.1 * t.2 + dO f L
theorem m9:∀ a b c:List Int,aU (aU a b) c = aU a (aU b c)
 | [],b,c => by simp [aU]
 | x :: a,[],c => by simp [aU]
 | x :: a,y :: b,[] => by simp [aU]
 | x :: a,y :: b,z :: c => by
  have:=m9 a b c
  unfold aU at this ⊢
  simp only [List.zipWith_cons_cons,this,Int.add_assoc]
theorem jF {many:Nat} {a b:List Int} (ha:a.length = many) (hb:b.length = many):(aU a b).length = many:=by
 unfold aU; rw [List.length_zipWith,ha,hb,Nat.min_self]
theorem rh (s:aW) (A B:List aW):cB (s :: A) B = (B.map fun t => (aU s.1 t.1,s.2 * t.2)) ++ cB A B:=rfl
theorem gD (A B:List aW):(cB A B).length = A.length * B.length:=by
 induction A with
 | nil => rw [List.length_nil,Nat.zero_mul]; rfl
 | cons s A ih => rw [rh,List.length_append,List.length_map,ih,List.length_cons,Nat.succ_mul,Nat.add_comm]
theorem iq {A B:List aW} {t:aW} (h:t ∈ cB A B):∃ a ∈ A,∃ b ∈ B,t = (aU a.1 b.1,a.2 * b.2):=by
 obtain ⟨a,ha,h⟩:=List.mem_flatMap.mp h
 obtain ⟨b,hb,rfl⟩:=List.mem_map.mp h
 exact ⟨a,ha,b,hb,rfl⟩
section
variable {f g:List Int → Int}
theorem xR (A B:List aW):dO f (A ++ B) = dO f A + dO f B:=by
 induction A with
 | nil => rw [List.nil_append]; show _ = 0 + _; rw [Int.zero_add]
 | cons t A ih => rw [List.cons_append]; show f t.1 * t.2 + dO f (A ++ B) = f t.1 * t.2 + dO f A + dO f B; rw [ih,Int.add_assoc]
theorem BZ (L:List aW):dO (fun _ => 0) L = 0:=by
 induction L with
 | nil => rfl
 | cons t L ih => show 0 * t.2 + _ = 0; rw [ih,Int.zero_mul]; rfl
theorem EB (L:List aW):dO (fun k => f k + g k) L = dO f L + dO g L:=by
 induction L with
 | nil => rfl
 | cons t L ih => show (f t.1 + g t.1) * t.2 + _ = f t.1 * t.2 + dO f L + (g t.1 * t.2 + dO g L); rw [ih,Int.add_mul]; lia
theorem EC (c:Int) (L:List aW):dO (fun k => f k * c) L = dO f L * c:=by
 induction L with
 | nil => show 0 = 0 * c; rw [Int.zero_mul]
 | cons t L ih => show f t.1 * c * t.2 + _ = (f t.1 * t.2 + dO f L) * c; rw [ih,Int.add_mul,Int.mul_assoc,Int.mul_comm c,← Int.mul_assoc]
theorem ED (s:aW) (B:List aW):dO f (B.map fun t => (aU s.1 t.1,s.2 * t.2)) = dO (fun b => f (aU s.1 b)) B * s.2:=by
 induction B with
 | nil => show 0 = 0 * s.2; rw [Int.zero_mul]
 | cons t B ih => show f (aU s.1 t.1) * (s.2 * t.2) + dO f (B.map _) = (f (aU s.1 t.1) * t.2 + dO _ B) * s.2; rw [ih,Int.add_mul,Int.mul_comm s.2 t.2,Int.mul_assoc]
theorem fO (A B:List aW):dO f (cB A B) = dO (fun a => dO (fun b => f (aU a b)) B) A:=by
 induction A with
 | nil => rfl
 | cons s A ih => rw [rh,xR,ED,ih]; rfl
theorem u4 {h:List Int → List Int → Int} (A B:List aW):dO (fun a => dO (fun b => h a b) B) A = dO (fun b => dO (fun a => h a b) A) B:=by
 induction A with
 | nil => show 0 = dO (fun _ => 0) B; rw [BZ]
 | cons s A ih =>
  show dO (fun b => h s.1 b) B * s.2 + _ = dO (fun b => h s.1 b * s.2 + dO (fun a => h a b) A) B
  rw [EB,EC,ih]
theorem B0 {A B:List aW} (p:A.Perm B):dO f A = dO f B:=by
 induction p with
 | nil => rfl
 | cons x _ ih => show f x.1 * x.2 + _ = f x.1 * x.2 + _; rw [ih]
 | swap x y L => show f y.1 * y.2 + (f x.1 * x.2 + _) = f x.1 * x.2 + (f y.1 * y.2 + _); lia
 | trans _ _ i j => rw [i,j]
theorem pA {k:List Int} {v:Int}:∀ A:List aW,k ∉ A.map (·.1) → A.map (fun p => if p.1 = k then (p.1,v) else p) = A
 | [],_ => rfl
 | p :: A,h => by
  rw [List.map_cons] at h
  rw [List.map_cons,if_neg fun z => h (List.mem_cons.mpr (.inl z.symm)),pA A fun z => h (List.mem_cons.mpr (.inr z))]
theorem kL {A:List aW} {p:aW} {k:List Int} (h:p.1 = k):a_ (p :: A) k = p.2:=by
 unfold a_; rw [List.find?_cons_of_pos (by simpa using h)]; rfl
theorem kM {A:List aW} {p:aW} {k:List Int} (h:¬ p.1 = k):a_ (p :: A) k = a_ A k:=by
 unfold a_; rw [List.find?_cons_of_neg (by simpa using h)]
theorem pB {k:List Int} {v:Int}:∀ A:List aW,(A.map (·.1)).Nodup → k ∈ A.map (·.1) → dO f (A.map fun p => if p.1 = k then (p.1,v) else p) = dO f A + f k * (v - a_ A k)
 | [],_,h => by cases h
 | p :: A,nd,h => by
  rw [List.map_cons] at nd h
  obtain ⟨n1,n2⟩:=List.nodup_cons.mp nd
  rw [List.map_cons]
  by_cases e:p.1 = k
  ·rw [if_pos e,kL e,pA A (by rw [← e]; exact n1)]
   show f p.1 * v + dO f A = f p.1 * p.2 + dO f A + f k * (v - p.2)
   rw [e,Int.mul_sub]; lia
  ·rw [if_neg e,kM e]
   have h':k ∈ A.map (·.1):=(List.mem_cons.mp h).resolve_left fun z => e z.symm
   have:=pB (v:=v) A n2 h'
   show f p.1 * p.2 + _ = f p.1 * p.2 + dO f A + _
   rw [this]; lia
theorem EE {A:List aW} {k:List Int} {v:Int} (nd:(A.map (·.1)).Nodup):dO f (gh A k v) = dO f A + f k * (v - a_ A k):=by
 by_cases h:k ∈ A.map (·.1)
 ·unfold gh
  rw [if_pos (sI.mpr h),pB A nd h]
 ·rw [BS v h,xR,l_ h,Int.sub_zero]
  show dO f A + (f k * v + 0) = _
  rw [Int.add_zero]
theorem u5:∀ (P A:List aW),(A.map (·.1)).Nodup → dO f (P.foldl gF A) = dO f A + dO f P
 | [],A,_ => by show dO f A = dO f A + 0; rw [Int.add_zero]
 | t :: P,A,nd => by
  rw [List.foldl_cons,u5 P (gF A t) (pf nd _ _)]
  show dO f (gh A t.1 (a_ A t.1 + t.2)) + dO f P = dO f A + (f t.1 * t.2 + dO f P)
  rw [EE nd,show a_ A t.1 + t.2 - a_ A t.1 = t.2 by lia]; lia
theorem pC (P:List aW):dO f (cm P) = dO f P:=by
 rw [Es,u5 P [] List.nodup_nil]; show 0 + _ = _; rw [Int.zero_add]
theorem B3 {A:List aW} (nd:(A.map (·.1)).Nodup):dO f (lZ A) = dO f A:=by
 refine B0 ?_
 have e:A = (A.map (·.1)).map fun k => (k,a_ A k):=by
  rw [List.map_map]
  conv => lhs; rw [← List.map_id A]
  exact List.map_congr_left fun t ht => by
   show t = (t.1,a_ A t.1)
   rw [Et nd ht]
 unfold lZ
 conv => rhs; rw [e]
 exact (ef _).map _
end
section
variable {r:Int}
theorem xS (hr:cf r = true) {f:List Int → Int}:∀ L:List aW,bb r (dO f ((L.map fun t => (t.1,bb r t.2)).filter fun t => t.2 != 0)) = bb r (dO f L)
 | [] => rfl
 | t :: L => by
  have ih:=xS hr (f:=f) L
  have e1:bb r (dO f (t :: L)) = bb r (f t.1 * bb r t.2 + dO f ((L.map fun t => (t.1,bb r t.2)).filter fun t => t.2 != 0)):=by
   show bb r (f t.1 * t.2 + dO f L) = _
   rw [← BX hr,← ih,← BW hr (f t.1) t.2,BX hr]
  rw [e1,List.map_cons,List.filter_cons]
  dsimp only
  by_cases z:bb r t.2 = 0
  ·rw [if_neg (by simp [z]),z,Int.mul_zero,Int.zero_add]
  ·rw [if_pos (by simpa using z)]; rfl
noncomputable def Eqv (r:Int) (P Q:List aW):Prop:=∀ f,bb r (dO f P) = bb r (dO f Q)
theorem Eqv.symm {P Q:List aW} (h:Eqv r P Q):Eqv r Q P:=fun f => (h f).symm
theorem Eqv.trans {P Q R:List aW} (h:Eqv r P Q) (k:Eqv r Q R):Eqv r P R:=fun f => (h f).trans (k f)
theorem B4 (hr:cf r = true) (P:List aW):Eqv r (tD r P) P:=fun f => by
 show bb r (dO f (((lZ (cm P)).map fun t => (t.1,bb r t.2)).filter fun t => t.2 != 0)) = _
 rw [xS hr,B3 (ft P).1,pC]
theorem K6 {A A':List aW} (B:List aW) (h:Eqv r A A'):Eqv r (cB A B) (cB A' B):=fun f => by
 rw [fO,fO]; exact h _
theorem K7 (A:List aW) {B B':List aW} (h:Eqv r B B'):Eqv r (cB A B) (cB A B'):=fun f => by
 rw [fO,fO,u4,u4 A B']; exact h _
theorem yX (A B C:List aW):Eqv r (cB (cB A B) C) (cB A (cB B C)):=fun f => by
 have e:(fun a b => dO (fun c => f (aU (aU a b) c)) C) = fun a b => dO (fun c => f (aU a (aU b c))) C:=by
  funext a b; congr 1; funext c; rw [m9]
 rw [fO,fO,fO]
 have e2:(fun a => dO (fun bc => f (aU a bc)) (cB B C)) = fun a => dO (fun b => dO (fun c => f (aU a (aU b c))) C) B:=by
  funext a; rw [fO]
 rw [e2]
 show bb r (dO (fun a => dO ((fun a b => dO (fun c => f (aU (aU a b) c)) C) a) B) A) = _
 rw [e]
theorem mf {k:List Int}:∀ A:List aW,(A.map (·.1)).Nodup → dO (fun x => if x = k then 1 else 0) A = a_ A k
 | [],_ => rfl
 | p :: A,nd => by
  rw [List.map_cons] at nd
  obtain ⟨n1,n2⟩:=List.nodup_cons.mp nd
  show (if p.1 = k then (1:Int) else 0) * p.2 + dO _ A = _
  rw [mf A n2]
  by_cases e:p.1 = k
  ·rw [if_pos e,kL e,l_ (by rw [← e]; exact n1)]; lia
  ·rw [if_neg e,kM e]; lia
theorem xT (A:List aW):dZ r A = ((h_ (A.map (·.1))).filter fun k => bb r (a_ A k) != 0).map fun k => (k,bb r (a_ A k)):=by
 rw [← kI]
 unfold xM
 rw [List.filter_map]; rfl
theorem K8 (hr:cf r = true) {P Q:List aW} (h:Eqv r P Q):tD r P = tD r Q:=by
 have gp:=(ft P).1
 have gq:=(ft Q).1
 have F:(fun k => bb r (a_ (cm P) k)) = fun k => bb r (a_ (cm Q) k):=by
  funext k
  have:=h fun x => if x = k then 1 else 0
  rw [← pC P,← pC Q,mf _ gp,mf _ gq] at this
  exact this
 unfold tD
 rw [xT,xT]
 have fk:∀ k,bb r (a_ (cm P) k) = bb r (a_ (cm Q) k):=fun k => congrFun F k
 have fp:SO.gz ((h_ ((cm P).map (·.1))).filter fun k => bb r (a_ (cm P) k) != 0):=List.Pairwise.filter _ (jE gp)
 have fq:SO.gz ((h_ ((cm Q).map (·.1))).filter fun k => bb r (a_ (cm Q) k) != 0):=List.Pairwise.filter _ (jE gq)
 have mem:∀ (A:List aW) (k:List Int),(k ∈ (h_ (A.map (·.1))).filter fun k => bb r (a_ A k) != 0) ↔ bb r (a_ A k) ≠ 0:=by
  intro A k
  rw [List.mem_filter,(ef _).mem_iff]
  refine ⟨fun q => by simpa using q.2,fun q => ⟨?_,by simpa using q⟩⟩
  by_cases e:k ∈ A.map (·.1)
  ·exact e
  ·rw [l_ e,EA hr] at q
   exact absurd rfl q
 have pm:((h_ ((cm P).map (·.1))).filter fun k => bb r (a_ (cm P) k) != 0).Perm ((h_ ((cm Q).map (·.1))).filter fun k => bb r (a_ (cm Q) k) != 0) :=
  (List.perm_ext_iff_of_nodup (jm fp) (jm fq)).mpr fun k => by rw [mem,mem,fk]
 rw [uR pm fp fq]
 exact List.map_congr_left fun k _ => by rw [fk]
noncomputable def p4 (r:Int) (X:List aW):Nat → List aW
 | 0 => X
 | k + 1 => tD r (cB (p4 r X k) X)
theorem B5 (hr:cf r = true) (X:List aW) (a:Nat):∀ b,tD r (cB (p4 r X a) (p4 r X b)) = p4 r X (a + b + 1)
 | 0 => rfl
 | b + 1 => by
  show tD r (cB (p4 r X a) (tD r (cB (p4 r X b) X))) = tD r (cB (p4 r X (a + b + 1)) X)
  rw [← B5 hr X a b]
  refine K8 hr ?_
  refine (K7 _ (B4 hr _)).trans ?_
  refine (yX _ _ _).symm.trans ?_
  exact K6 _ (B4 hr _).symm
end
end PG
namespace PG
open PySem PySem.Spec L2 MN
open PyProof.Rows hiding St kindOf
theorem EF (a b:List Int):(a.zip b).map (fun p => p.1 + p.2) = aU a b:=by
 unfold aU
 induction a generalizing b with
 | nil => rfl
 | cons x a ih => cases b with
  | nil => rfl
  | cons y b => rw [List.zip_cons_cons,List.map_cons,ih b,List.zipWith_cons_cons]
noncomputable def nn:Val → Int
 | .tup [.int i,.int j] => i + j
 | _ => 0
theorem yY {a b:List Int} (h:a.length ≤ 10) (s:ah):PM.joined [tupI a,tupI b] s = .ok (tupI (aU a b)) (s ++ [.lst ((aU a b).map Val.int)]):=by
 have cp:=cW (a:=i4 [aName 0,aName 1]) (c:=cj) (e:=ai cg (aa 0) (aa 1)) (g:=fun _ => True ∧ True) (st:=s) ⟨trivial,trivial⟩ (fun τ => ∃ x y,τ = [x,y]) (fun _ => true) (fun v => .int (nn v)) (kD (a.map Val.int) (b.map Val.int)) [none,none] [] ⟨_,_,rfl⟩ (by
  rintro u hu τ ⟨x,y,rfl⟩
  rw [kK] at hu
  obtain ⟨p,hp,rfl⟩:=List.mem_map.mp hu
  exact ⟨[some (.int p.1),some (.int p.2)],rfl,⟨_,_,rfl⟩,rfl,fun _ => rfl⟩)
 have e:((kD (a.map Val.int) (b.map Val.int)).filter fun _ => true).map (fun v => Val.int (nn v)) = (aU a b).map Val.int:=by
  rw [List.filter_eq_self.mpr fun _ _ => rfl,kK,List.map_map,← EF,List.map_map]; rfl
 rw [e,List.nil_append] at cp
 have zl:(kD (a.map Val.int) (b.map Val.int)).length ≤ sizeLine:=by
  rw [kK,List.length_map,List.length_zip,sizeLine_eq]; lia
 have comp:cO 2 [] (qL false false (ae (aa 0) (ae (aa 1) ak))) (i4 [(aName 0),(aName 1)]) cj (ai cg (aa 0) (aa 1)) [some (tupI a),some (tupI b)] s = .ok (.loc s.length) (s ++ [.lst ((aU a b).map Val.int)]):=by
  rw [gf,HJ,eh (v:=tupI a) (w:=tupI b) (s1:=s) (s2:=s) rfl rfl,aw]
  show (HI false false [.tup (a.map Val.int),.tup (b.map Val.int)] s).i7 _ = _
  rw [D0,aw,iI,if_pos zl]
  show (e8 _ _ _ _ _ [none,none] s []).i7 DW = _
  rw [cp,aw,kF]
 unfold PM.joined
 rw [bZ (np:=2) (us:=[tupI a,tupI b]) rfl]
 show (bO (aq oO (ae (cO 2 [] (qL false false (ae (aa 0) (ae (aa 1) ak))) (i4 [(aName 0),(aName 1)]) cj (ai cg (aa 0) (aa 1))) ak)) [some (tupI a),some (tupI b)] s).fin = _
 rw [bz,call_of (gA comp),sC (bM s _)]
 rfl
theorem oh (st g:ah) (c c':Cell):(st ++ c :: g).set st.length c' = st ++ c' :: g:=by
 rw [List.set_append_right _ _ (Nat.le_refl _),Nat.sub_self]; rfl
theorem g9 (st g:ah) (c:Cell):(st ++ c :: g)[st.length]? = some c:=by
 rw [List.getElem?_append_right (Nat.le_refl _),Nat.sub_self]; rfl
noncomputable def kN (s:aW) (B:List aW):List aW:=B.map fun t => (aU s.1 t.1,s.2 * t.2)
theorem ri (A B:List aW) (s:aW):cB (A ++ [s]) B = cB A B ++ kN s B:=by
 unfold cB kN; rw [List.flatMap_append]; simp
noncomputable abbrev OI:MB:=dc (aq PM.lY (ae (aa 3) (ae (aq PM.joined (ae (aa 4) (ae (aa 6) ak))) (ae (ai cU (aa 5) (aa 7)) ak))))
theorem B6 {q:Nat} {s:aW} {B L0:List aW} {st g0:ah} {x0 x1 z6 z7:Option Val} (hq:itemsOf st q = some (B.map tV)) (hs:s.1.length ≤ 10) (hB:∀ t ∈ B,MulOk s.2 t.2) (hl:L0.length + B.length < 1000000) :
  ∃ y6 y7 g,forL (fun av => itemsOf av q = some (B.map tV)) (i4 [aName 6,aName 7]) OI (B.map tV) [x0,x1,some (.loc q),some (.loc st.length),some (tupI s.1),some (.int s.2),z6,z7] (st ++ .dT ((cm L0).map eD) :: g0) = .nx [x0,x1,some (.loc q),some (.loc st.length),some (tupI s.1),some (.int s.2),y6,y7] (st ++ .dT ((cm (L0 ++ kN s B)).map eD) :: g):=by
 have hg:∀ g:ah,itemsOf (st ++ g) q = some (B.map tV):=fun g => aO hq _
 obtain ⟨μ',av,e,g,rfl,y6,y7,rfl⟩:=cQ (g:=fun av => itemsOf av q = some (B.map tV)) (a:=i4 [aName 6,aName 7]) (body:=OI)
  (fun i μ s' => ∃ g,s' = st ++ .dT ((cm (L0 ++ kN s (B.take i))).map eD) :: g ∧ ∃ y6 y7,μ = [x0,x1,some (.loc q),some (.loc st.length),some (tupI s.1),some (.int s.2),y6,y7])
  (B.map tV) 0 [x0,x1,some (.loc q),some (.loc st.length),some (tupI s.1),some (.int s.2),z6,z7] (st ++ .dT ((cm L0).map eD) :: g0)
  (by
   rintro i u μ s' hu ⟨g,rfl,y6,y7,rfl⟩
   rw [Nat.zero_add]
   refine ⟨hg _,?_⟩
   rw [List.getElem?_map] at hu
   have hi:i < B.length:=by
    rcases Nat.lt_or_ge i B.length with z | z
    ·exact z
    ·rw [List.getElem?_eq_none z] at hu; cases hu
   rw [List.getElem?_eq_getElem hi] at hu
   obtain ⟨t,ht⟩:∃ t,t = B[i]:=⟨_,rfl⟩
   rw [← ht] at hu
   cases hu
   have tB:t ∈ B:=by rw [ht]; exact List.getElem_mem hi
   have tk:B.take (i + 1) = B.take i ++ [t]:=by
    rw [List.take_succ,List.getElem?_eq_getElem hi,← ht]; rfl
   obtain ⟨L,hL⟩:∃ L,L = L0 ++ kN s (B.take i):=⟨_,rfl⟩
   have lL:L.length < 1000000:=by
    rw [hL,List.length_append]
    unfold kN
    rw [List.length_map,List.length_take]; lia
   have sn:L0 ++ kN s (B.take (i + 1)) = L ++ [(aU s.1 t.1,s.2 * t.2)]:=by
    rw [hL,tk]; unfold kN; rw [List.map_append,List.append_assoc]; rfl
   rw [← hL,sn]
   have lA:=(ft L).2.1
   obtain ⟨s1,gm⟩:∃ s1,s1 = st ++ Cell.dT ((cm L).map eD) :: g:=⟨_,rfl⟩
   obtain ⟨g1,OJ⟩:∃ g1,g1 = g ++ [Cell.lst ((aU s.1 t.1).map Val.int)]:=⟨_,rfl⟩
   have hR:s1 ++ [Cell.lst ((aU s.1 t.1).map Val.int)] = st ++ Cell.dT ((cm L).map eD) :: g1:=by
    rw [gm,OJ,List.append_assoc]; rfl
   have ad:=yS (k:=aU s.1 t.1) (v:=s.2 * t.2) (g9 st g1 (.dT ((cm L).map eD))) (by rw [sizeLine_eq]; lia)
   have TX:=qZ L (aU s.1 t.1,s.2 * t.2)
   dsimp only at TX
   rw [oh,← TX] at ad
   refine ⟨[x0,x1,some (.loc q),some (.loc st.length),some (tupI s.1),some (.int s.2),some (tupI t.1),some (.int t.2)],rfl,[x0,x1,some (.loc q),some (.loc st.length),some (tupI s.1),some (.int s.2),some (tupI t.1),some (.int t.2)],_,.inl ?_,g1,rfl,_,_,rfl⟩
   rw [← gm]
   have j:aq PM.joined (ae (aa 4) (ae (aa 6) ak)) [x0,x1,some (.loc q),some (.loc st.length),some (tupI s.1),some (.int s.2),some (tupI t.1),some (.int t.2)] s1 = .ok (tupI (aU s.1 t.1)) (s1 ++ [Cell.lst ((aU s.1 t.1).map Val.int)]):=by
    rw [call_of (eh (v:=tupI s.1) (w:=tupI t.1) (s1:=s1) (s2:=s1) rfl rfl),yY hs]
   have m:∀ s2,ai cU (aa 5) (aa 7) [x0,x1,some (.loc q),some (.loc st.length),some (tupI s.1),some (.int s.2),some (tupI t.1),some (.int t.2)] s2 = .ok (.int (s.2 * t.2)) s2:=fun s2 => by
    rw [bo (x:=.int s.2) (y:=.int t.2) (s1:=s2) (s2:=s2) rfl rfl,sD (hB t tB)]
   show dc _ _ _ = _
   rw [fH,call_of (gO (v:=.loc st.length) (s1:=s1) rfl (eh j (m _))),hR,ad,aG]
   rfl)
  (fun μ s hp => by obtain ⟨g,rfl,_⟩:=hp; exact hg _)
  ⟨g0,by rw [List.take_zero]; show _ = st ++ Cell.dT ((cm (L0 ++ [])).map eD) :: g0; rw [List.append_nil],z6,z7,rfl⟩
 rw [Nat.zero_add,List.length_map,List.take_of_length_le (Nat.le_refl _)] at e
 exact ⟨y6,y7,g,e⟩
noncomputable abbrev OK:MB:=d9 (fe (aa 2)) (i4 [aName 6,aName 7]) OI
theorem B7 {p q:Nat} {A B:List aW} {st:ah} {x0:Option Val} (hp:itemsOf st p = some (A.map tV)) (hq:itemsOf st q = some (B.map tV)) (hA:∀ t ∈ A,t.1.length ≤ 10) (hm:∀ s ∈ A,∀ t ∈ B,MulOk s.2 t.2) (hl:A.length * B.length < 1000000) :
  ∃ y4 y5 y6 y7 g,forL (fun av => itemsOf av p = some (A.map tV)) (i4 [aName 4,aName 5]) OK (A.map tV) [x0,some (.loc p),some (.loc q),some (.loc st.length),none,none,none,none] (st ++ [.dT []]) = .nx [x0,some (.loc p),some (.loc q),some (.loc st.length),y4,y5,y6,y7] (st ++ .dT ((cm (cB A B)).map eD) :: g):=by
 have hg:∀ g:ah,itemsOf (st ++ g) p = some (A.map tV):=fun g => aO hp _
 obtain ⟨μ',av,e,g,rfl,y4,y5,y6,y7,rfl⟩:=cQ (g:=fun av => itemsOf av p = some (A.map tV)) (a:=i4 [aName 4,aName 5]) (body:=OK)
  (fun i μ s' => ∃ g,s' = st ++ .dT ((cm (cB (A.take i) B)).map eD) :: g ∧ ∃ y4 y5 y6 y7,μ = [x0,some (.loc p),some (.loc q),some (.loc st.length),y4,y5,y6,y7])
  (A.map tV) 0 [x0,some (.loc p),some (.loc q),some (.loc st.length),none,none,none,none] (st ++ [.dT []])
  (by
   rintro i u μ s' hu ⟨g,rfl,y4,y5,y6,y7,rfl⟩
   rw [Nat.zero_add]
   refine ⟨hg _,?_⟩
   rw [List.getElem?_map] at hu
   have hi:i < A.length:=by
    rcases Nat.lt_or_ge i A.length with z | z
    ·exact z
    ·rw [List.getElem?_eq_none z] at hu; cases hu
   rw [List.getElem?_eq_getElem hi] at hu
   obtain ⟨t,ht⟩:∃ t,t = A[i]:=⟨_,rfl⟩
   rw [← ht] at hu
   cases hu
   have tA:t ∈ A:=by rw [ht]; exact List.getElem_mem hi
   have tk:A.take (i + 1) = A.take i ++ [t]:=by
    rw [List.take_succ,List.getElem?_eq_getElem hi,← ht]; rfl
   have lL:(cB (A.take i) B).length + B.length < 1000000:=by
    rw [gD,List.length_take,← Nat.succ_mul]
    refine Nat.lt_of_le_of_lt (Nat.mul_le_mul_right _ ?_) hl
    lia
   obtain ⟨z6,z7,g1,en⟩:=B6 (q:=q) (s:=t) (B:=B) (L0:=cB (A.take i) B) (st:=st) (g0:=g) (x0:=x0) (x1:=some (.loc p)) (z6:=y6) (z7:=y7) hq (hA t tA) (hm t tA) lL
   rw [← ri,← tk] at en
   refine ⟨[x0,some (.loc p),some (.loc q),some (.loc st.length),some (tupI t.1),some (.int t.2),y6,y7],rfl,[x0,some (.loc p),some (.loc q),some (.loc st.length),some (tupI t.1),some (.int t.2),z6,z7],_,.inl ?_,g1,rfl,_,_,_,_,rfl⟩
   have v2:∀ s,aa 2 [x0,some (.loc p),some (.loc q),some (.loc st.length),some (tupI t.1),some (.int t.2),y6,y7] s = .ok (.loc q) s:=fun _ => rfl
   show d9 _ _ _ _ _ = _
   rw [fj,fm,v2,aw,dY (aO hq _),aG,gN,en])
  (fun μ s hp => by obtain ⟨g,rfl,_⟩:=hp; exact hg _)
  ⟨[],rfl,none,none,none,none,rfl⟩
 rw [Nat.zero_add,List.length_map,List.take_of_length_le (Nat.le_refl _)] at e
 exact ⟨y4,y5,y6,y7,g,e⟩
theorem pD {r:Int} {p q many:Nat} {A B:List aW} {st:ah} (hp:itemsOf st p = some (A.map tV)) (hq:itemsOf st q = some (B.map tV)) (h1:1 ≤ many) (h4:many ≤ 4) (hA:∀ t ∈ A,t.1.length = many) (hB:∀ t ∈ B,t.1.length = many) (hm:∀ s ∈ A,∀ t ∈ B,MulOk s.2 t.2) (hl:A.length * B.length < 1000000) :
  ∃ g k,PM.product [.int r,.loc p,.loc q] st = .ok (.loc k) (st ++ g) ∧ st.length ≤ k ∧ (st ++ g)[k]? = some (.lst ((tD r (cB A B)).map tV)):=by
 obtain ⟨y4,y5,y6,y7,g,e⟩:=B7 (x0:=some (.int r)) hp hq (fun t ht => by rw [hA t ht]; lia) hm hl
 have ga:=ft (cB A B)
 have lk:∀ t ∈ cm (cB A B),t.1 ≠ []:=fun t ht => by
  obtain ⟨u,hu,eu⟩:=List.mem_map.mp (ga.2.2 t ht)
  obtain ⟨a,ha,b,hb,rfl⟩:=iq hu
  rw [← eu]
  exact sM h1 (jF (hA a ha) (hB b hb))
 obtain ⟨s1,gm⟩:∃ s1,s1 = st ++ Cell.dT ((cm (cB A B)).map eD) :: g:=⟨_,rfl⟩
 rw [← gm] at e
 obtain ⟨c1,c2,c3,et⟩:=yT (s:=s1) (d:=st.length) (A:=cm (cB A B)) (r:=r) (by rw [gm]; exact g9 _ _ _) ga.1 (by have:=ga.2.1; rw [gD] at this; lia) lk
 have l1:s1.length = st.length + (g.length + 1):=by rw [gm,List.length_append]; rfl
 refine ⟨(Cell.dT ((cm (cB A B)).map eD) :: g) ++ [c1,c2,c3,.lst ((tD r (cB A B)).map tV)],s1.length + 3,?_,by lia,?_⟩
 ·have v1:∀ s,aa 1 [some (Val.int r),some (.loc p),some (.loc q),some (.loc st.length),none,none,none,none] s = .ok (.loc p) s:=fun _ => rfl
  have x3:aK 3 j7 [some (Val.int r),some (.loc p),some (.loc q),none,none,none,none,none] st = .nx [some (Val.int r),some (.loc p),some (.loc q),some (.loc st.length),none,none,none,none] (st ++ [.dT []]):=bF (v:=.loc st.length) rfl
  unfold PM.product
  rw [bZ (np:=3) (us:=[Val.int r,.loc p,.loc q]) rfl]
  show (aF (aK 3 j7) (aF (d9 (fe (aa 1)) (i4 [aName 4,aName 5]) OK) (bO (aq PM.dJ (ae (aa 0) (ae (aa 3) ak))))) [some (.int r),some (.loc p),some (.loc q),none,none,none,none,none] st).fin = _
  rw [aA,x3,aB,aA,fj,fm,v1,aw,dY (aO hp _),aG,gN,e,aB,bz,call_of (eh (v:=.int r) (s1:=s1) rfl (w:=.loc st.length) (s2:=s1) rfl),et,aG]
  show bB.fin (bB.rt (Val.loc (s1.length + 3)) _) = _
  rw [gm,List.append_assoc]
  rfl
 ·rw [← List.append_assoc,← gm,List.getElem?_append_right (by lia),show s1.length + 3 - s1.length = 3 by lia]; rfl
end PG
namespace PG
open PySem PySem.Spec L2 MN
open PyProof.Rows hiding St kindOf
theorem xU {μ:MN.Env} {s:ah} {o:ME} {a:MA} {n:Nat} {us:List Val} {v:Val} (ho:o μ s = .ok (.loc n) s) {s1:ah} (h0:s[n]? = some (.lst us)) (ha:a μ s = .ok [v] s1) (h:s1[n]? = some (.lst us)) (hl:us.length < 1000000):dc (jh cw o a) μ s = .nx μ (s1.set n (.lst (us ++ [v]))):=by
 rw [fH,sE,ho,aw,xB h0,ha,aw,xC,jB h (by rw [sizeLine_eq]; lia),aG]; rfl
noncomputable abbrev OL:ME:=ai cg (ai de (ai de (aa 1) (mC (.int 0))) (aa 0)) (ai de (ai de (aa 2) (mC (.int 0))) (aa 0))
noncomputable abbrev Mx:ME:=cO 1 [4,5] (bJ (ae (aq d8 (ae (ai de (aa 4) (mC (.int 0))) ak)) ak)) (aName 0) cj OL
noncomputable def natOf:Val → Nat
 | .int i => i.toNat
 | _ => 0
theorem xV:∀ (a b:List Int),a.length = b.length → (List.range a.length).map (fun i => a.getD i 0 + b.getD i 0) = aU a b
 | [],[],_ => rfl
 | x :: a,y :: b,h => by
  have ih:=xV a b (by simpa using h)
  rw [List.length_cons,List.range_succ_eq_map,List.map_cons,List.map_map]
  show _ = (x + y) :: aU a b
  rw [← ih]; rfl
theorem EG {μ:MN.Env} {u t:aW} {s:ah} (hc:j5 1 [4,5] μ = [none,some (tV u),some (tV t)]) (v4:aa 4 μ s = .ok (tV u) s) (hl:u.1.length = t.1.length) (h:u.1.length ≤ 10):Mx μ s = .ok (.loc s.length) (s ++ [.lst ((aU u.1 t.1).map Val.int)]):=by
 have cp:=cW (a:=aName 0) (c:=cj) (e:=OL) (g:=fun _ => True) (st:=s) trivial (fun τ => ∃ x,τ = [x,some (tV u),some (tV t)]) (fun _ => true) (fun v => .int (u.1.getD (natOf v) 0 + t.1.getD (natOf v) 0)) (aP 0 u.1.length) [none,some (tV u),some (tV t)] [] ⟨_,rfl⟩ (by
  rintro v hv τ ⟨x,rfl⟩
  obtain ⟨i,Oj⟩:=List.getElem?_of_mem hv
  obtain ⟨hi,rfl⟩:=xQ Oj
  refine ⟨[some (.int (0 + (i:Int))),some (tV u),some (tV t)],rfl,⟨_,rfl⟩,rfl,fun _ => ?_⟩
  rw [Int.zero_add]
  have e1:ai de (ai de (aa 1) (mC (.int 0))) (aa 0) [some (.int (i:Int)),some (tV u),some (tV t)] s = .ok (.int (u.1.getD i 0)) s:=by
   rw [bo (x:=tupI u.1) (y:=.int (i:Int)) (s1:=s) (s2:=s) rfl rfl,KY hi]
  have e2:ai de (ai de (aa 2) (mC (.int 0))) (aa 0) [some (.int (i:Int)),some (tV u),some (tV t)] s = .ok (.int (t.1.getD i 0)) s:=by
   rw [bo (x:=tupI t.1) (y:=.int (i:Int)) (s1:=s) (s2:=s) rfl rfl,KY (by lia)]
  unfold OL
  rw [bo e1 e2,j9]
  rfl)
 have e:((aP 0 u.1.length).filter fun _ => true).map (fun v => Val.int (u.1.getD (natOf v) 0 + t.1.getD (natOf v) 0)) = (aU u.1 t.1).map Val.int:=by
  rw [List.filter_eq_self.mpr fun _ _ => rfl,← xV u.1 t.1 hl]
  unfold aP
  rw [List.map_map,List.map_map]
  refine List.map_congr_left fun i _ => ?_
  show Val.int (u.1.getD (natOf (.int (0 + (i:Int)))) 0 + t.1.getD (natOf (.int (0 + (i:Int)))) 0) = _
  rw [Int.zero_add]; rfl
 rw [e,List.nil_append] at cp
 have len:aq d8 (ae (ai de (aa 4) (mC (.int 0))) ak) μ s = .ok (.int (u.1.length:Int)) s:=by
  have:ai de (aa 4) (mC (.int 0)) μ s = .ok (tupI u.1) s:=by
   rw [bo v4 (y:=.int 0) (s2:=s) rfl]; rfl
  rw [call_of (gA this)]
  show d8 [.tup (u.1.map Val.int)] s = _
  rw [D2,List.length_map]
 unfold Mx
 rw [gf,pq (gA len) (by lia) (by lia),aw,Int.toNat_natCast,iI,if_pos (by rw [wt,sizeLine_eq]; lia),hc,cp,aw,kF]
noncomputable abbrev OM:MB:=aF (aK 6 (aq oO (ae Mx ak))) (dc (jh cw (aa 3) (ae (gH (ae (aa 6) (ae (ai cU (ai de (aa 4) (mC (.int 1))) (ai de (aa 5) (mC (.int 1)))) ak))) ak)))
theorem B8 {q:Nat} {u:aW} {B L0:List aW} {st g0:ah} {x0 x1 z5 z6:Option Val} (hq:itemsOf st q = some (B.map tV)) (hs:u.1.length ≤ 10) (hB:∀ t ∈ B,u.1.length = t.1.length ∧ MulOk u.2 t.2) (hl:L0.length + B.length < 1000000) :
  ∃ y5 y6 g,forL (fun av => itemsOf av q = some (B.map tV)) (aName 5) OM (B.map tV) [x0,x1,some (.loc q),some (.loc st.length),some (tV u),z5,z6] (st ++ .lst (L0.map tV) :: g0) = .nx [x0,x1,some (.loc q),some (.loc st.length),some (tV u),y5,y6] (st ++ .lst ((L0 ++ kN u B).map tV) :: g):=by
 have hg:∀ g:ah,itemsOf (st ++ g) q = some (B.map tV):=fun g => aO hq _
 obtain ⟨μ',av,e,g,rfl,y5,y6,rfl⟩:=cQ (g:=fun av => itemsOf av q = some (B.map tV)) (a:=aName 5) (body:=OM)
  (fun i μ s' => ∃ g,s' = st ++ .lst ((L0 ++ kN u (B.take i)).map tV) :: g ∧ ∃ y5 y6,μ = [x0,x1,some (.loc q),some (.loc st.length),some (tV u),y5,y6])
  (B.map tV) 0 [x0,x1,some (.loc q),some (.loc st.length),some (tV u),z5,z6] (st ++ .lst (L0.map tV) :: g0)
  (by
   rintro i v μ s' hu ⟨g,rfl,y5,y6,rfl⟩
   rw [Nat.zero_add]
   refine ⟨hg _,?_⟩
   rw [List.getElem?_map] at hu
   have hi:i < B.length:=by
    rcases Nat.lt_or_ge i B.length with z | z
    ·exact z
    ·rw [List.getElem?_eq_none z] at hu; cases hu
   rw [List.getElem?_eq_getElem hi] at hu
   obtain ⟨t,ht⟩:∃ t,t = B[i]:=⟨_,rfl⟩
   rw [← ht] at hu
   cases hu
   have tB:t ∈ B:=by rw [ht]; exact List.getElem_mem hi
   have tk:B.take (i + 1) = B.take i ++ [t]:=by
    rw [List.take_succ,List.getElem?_eq_getElem hi,← ht]; rfl
   obtain ⟨L,hL⟩:∃ L,L = L0 ++ kN u (B.take i):=⟨_,rfl⟩
   have lL:L.length < 1000000:=by
    rw [hL,List.length_append]
    unfold kN
    rw [List.length_map,List.length_take]; lia
   have sn:L0 ++ kN u (B.take (i + 1)) = L ++ [(aU u.1 t.1,u.2 * t.2)]:=by
    rw [hL,tk]; unfold kN; rw [List.map_append,List.append_assoc]; rfl
   rw [← hL,sn]
   obtain ⟨s1,gm⟩:∃ s1,s1 = st ++ Cell.lst (L.map tV) :: g:=⟨_,rfl⟩
   obtain ⟨g1,OJ⟩:∃ g1,g1 = g ++ [Cell.lst ((aU u.1 t.1).map Val.int)]:=⟨_,rfl⟩
   have hR:s1 ++ [Cell.lst ((aU u.1 t.1).map Val.int)] = st ++ Cell.lst (L.map tV) :: g1:=by
    rw [gm,OJ,List.append_assoc]; rfl
   refine ⟨[x0,x1,some (.loc q),some (.loc st.length),some (tV u),some (tV t),y6],rfl,[x0,x1,some (.loc q),some (.loc st.length),some (tV u),some (tV t),some (tupI (aU u.1 t.1))],st ++ Cell.lst ((L ++ [(aU u.1 t.1,u.2 * t.2)]).map tV) :: g1,.inl ?_,g1,rfl,_,_,rfl⟩
   rw [← gm]
   have f1:aK 6 (aq oO (ae Mx ak)) [x0,x1,some (.loc q),some (.loc st.length),some (tV u),some (tV t),y6] s1 = .nx [x0,x1,some (.loc q),some (.loc st.length),some (tV u),some (tV t),some (tupI (aU u.1 t.1))] (s1 ++ [Cell.lst ((aU u.1 t.1).map Val.int)]):=by
    refine bF (v:=tupI (aU u.1 t.1)) ?_
    rw [call_of (gA (EG (u:=u) (t:=t) rfl rfl (hB t tB).1 hs)),sC (bM s1 _)]
    rfl
   rw [hR] at f1
   have m:∀ s2,ai cU (ai de (aa 4) (mC (.int 1))) (ai de (aa 5) (mC (.int 1))) [x0,x1,some (.loc q),some (.loc st.length),some (tV u),some (tV t),some (tupI (aU u.1 t.1))] s2 = .ok (.int (u.2 * t.2)) s2:=fun s2 => by
    rw [bo (x:=.int u.2) (y:=.int t.2) (s1:=s2) (s2:=s2) rfl rfl,sD (hB t tB).2]
   have f2:=xU (μ:=[x0,x1,some (.loc q),some (.loc st.length),some (tV u),some (tV t),some (tupI (aU u.1 t.1))]) (s:=st ++ Cell.lst (L.map tV) :: g1) (o:=aa 3) (a:=ae (gH (ae (aa 6) (ae (ai cU (ai de (aa 4) (mC (.int 1))) (ai de (aa 5) (mC (.int 1)))) ak))) ak) (n:=st.length) (us:=L.map tV) (v:=tV (aU u.1 t.1,u.2 * t.2)) rfl (g9 _ _ _) (gA (wj (eh (v:=tupI (aU u.1 t.1)) rfl (m _)) (by show 2 ≤ 1000; decide))) (g9 _ _ _) (by rw [List.length_map]; exact lL)
   rw [oh] at f2
   show aF _ _ _ _ = _
   rw [aA,f1,aB,f2,List.map_append]
   rfl)
  (fun μ s hp => by obtain ⟨g,rfl,_⟩:=hp; exact hg _)
  ⟨g0,by rw [List.take_zero]; show _ = st ++ Cell.lst ((L0 ++ []).map tV) :: g0; rw [List.append_nil],z5,z6,rfl⟩
 rw [Nat.zero_add,List.length_map,List.take_of_length_le (Nat.le_refl _)] at e
 exact ⟨y5,y6,g,e⟩
noncomputable abbrev ON:MB:=d9 (fe (aa 2)) (aName 5) OM
theorem B9 {p q many:Nat} {A B:List aW} {st:ah} {x0:Option Val} (hp:itemsOf st p = some (A.map tV)) (hq:itemsOf st q = some (B.map tV)) (h4:many ≤ 4) (hA:∀ t ∈ A,t.1.length = many) (hB:∀ t ∈ B,t.1.length = many) (hm:∀ s ∈ A,∀ t ∈ B,MulOk s.2 t.2) (hl:A.length * B.length < 1000000) :
  ∃ y4 y5 y6 g,forL (fun av => itemsOf av p = some (A.map tV)) (aName 4) ON (A.map tV) [x0,some (.loc p),some (.loc q),some (.loc st.length),none,none,none] (st ++ [.lst []]) = .nx [x0,some (.loc p),some (.loc q),some (.loc st.length),y4,y5,y6] (st ++ .lst ((cB A B).map tV) :: g):=by
 have hg:∀ g:ah,itemsOf (st ++ g) p = some (A.map tV):=fun g => aO hp _
 obtain ⟨μ',av,e,g,rfl,y4,y5,y6,rfl⟩:=cQ (g:=fun av => itemsOf av p = some (A.map tV)) (a:=aName 4) (body:=ON)
  (fun i μ s' => ∃ g,s' = st ++ .lst ((cB (A.take i) B).map tV) :: g ∧ ∃ y4 y5 y6,μ = [x0,some (.loc p),some (.loc q),some (.loc st.length),y4,y5,y6])
  (A.map tV) 0 [x0,some (.loc p),some (.loc q),some (.loc st.length),none,none,none] (st ++ [.lst []])
  (by
   rintro i v μ s' hu ⟨g,rfl,y4,y5,y6,rfl⟩
   rw [Nat.zero_add]
   refine ⟨hg _,?_⟩
   rw [List.getElem?_map] at hu
   have hi:i < A.length:=by
    rcases Nat.lt_or_ge i A.length with z | z
    ·exact z
    ·rw [List.getElem?_eq_none z] at hu; cases hu
   rw [List.getElem?_eq_getElem hi] at hu
   obtain ⟨t,ht⟩:∃ t,t = A[i]:=⟨_,rfl⟩
   rw [← ht] at hu
   cases hu
   have tA:t ∈ A:=by rw [ht]; exact List.getElem_mem hi
   have tk:A.take (i + 1) = A.take i ++ [t]:=by
    rw [List.take_succ,List.getElem?_eq_getElem hi,← ht]; rfl
   have lL:(cB (A.take i) B).length + B.length < 1000000:=by
    rw [gD,List.length_take,← Nat.succ_mul]
    refine Nat.lt_of_le_of_lt (Nat.mul_le_mul_right _ ?_) hl
    lia
   obtain ⟨z5,z6,g1,en⟩:=B8 (q:=q) (u:=t) (B:=B) (L0:=cB (A.take i) B) (st:=st) (g0:=g) (x0:=x0) (x1:=some (.loc p)) (z5:=y5) (z6:=y6) hq (by rw [hA t tA]; lia) (fun b hb => ⟨by rw [hA t tA,hB b hb],hm t tA b hb⟩) lL
   rw [← ri,← tk] at en
   refine ⟨[x0,some (.loc p),some (.loc q),some (.loc st.length),some (tV t),y5,y6],rfl,[x0,some (.loc p),some (.loc q),some (.loc st.length),some (tV t),z5,z6],_,.inl ?_,g1,rfl,_,_,_,rfl⟩
   have v2:∀ s,aa 2 [x0,some (.loc p),some (.loc q),some (.loc st.length),some (tV t),y5,y6] s = .ok (.loc q) s:=fun _ => rfl
   show d9 _ _ _ _ _ = _
   rw [fj,fm,v2,aw,dY (aO hq _),aG,gN,en])
  (fun μ s hp => by obtain ⟨g,rfl,_⟩:=hp; exact hg _)
  ⟨[],rfl,none,none,none,rfl⟩
 rw [Nat.zero_add,List.length_map,List.take_of_length_le (Nat.le_refl _)] at e
 exact ⟨y4,y5,y6,g,e⟩
theorem kO {r:Int} {p q many:Nat} {A B:List aW} {st:ah} (hp:itemsOf st p = some (A.map tV)) (hq:itemsOf st q = some (B.map tV)) (h1:1 ≤ many) (h4:many ≤ 4) (hA:∀ t ∈ A,t.1.length = many) (hB:∀ t ∈ B,t.1.length = many) (hm:∀ s ∈ A,∀ t ∈ B,MulOk s.2 t.2) (hl:A.length * B.length < 1000000) :
  ∃ g k,PM.cR [.int r,.loc p,.loc q] st = .ok (.loc k) (st ++ g) ∧ st.length ≤ k ∧ (st ++ g)[k]? = some (.lst ((tD r (cB A B)).map tV)):=by
 obtain ⟨y4,y5,y6,g,e⟩:=B9 (x0:=some (.int r)) hp hq h4 hA hB hm hl
 obtain ⟨s1,gm⟩:∃ s1,s1 = st ++ Cell.lst ((cB A B).map tV) :: g:=⟨_,rfl⟩
 rw [← gm] at e
 have it:itemsOf s1 st.length = some ((cB A B).map tV):=by
  rw [gm]
  unfold itemsOf
  rw [g9]
 obtain ⟨c1,c3,et⟩:=iT (r:=r) it (by rw [gD]; exact hl) (fun t ht => by
  obtain ⟨a,ha,b,hb,rfl⟩:=iq ht
  exact sM h1 (jF (hA a ha) (hB b hb)))
 have l1:s1.length = st.length + (g.length + 1):=by rw [gm,List.length_append]; rfl
 refine ⟨(Cell.lst ((cB A B).map tV) :: g) ++ [c1,.lst ((tD r (cB A B)).map tV),c3],s1.length + 1,?_,by lia,?_⟩
 ·have v1:∀ s,aa 1 [some (Val.int r),some (.loc p),some (.loc q),some (.loc st.length),none,none,none] s = .ok (.loc p) s:=fun _ => rfl
  have x3:aK 3 (fK ak) [some (Val.int r),some (.loc p),some (.loc q),none,none,none,none] st = .nx [some (Val.int r),some (.loc p),some (.loc q),some (.loc st.length),none,none,none] (st ++ [.lst []]):=bF (v:=.loc st.length) (sJ (vs:=[]) rfl (by decide))
  unfold PM.cR
  rw [bZ (np:=3) (us:=[Val.int r,.loc p,.loc q]) rfl]
  show (aF (aK 3 (fK ak)) (aF (d9 (fe (aa 1)) (aName 4) ON) (bO (aq PM.ba (ae (aa 0) (ae (aa 3) ak))))) [some (.int r),some (.loc p),some (.loc q),none,none,none,none] st).fin = _
  rw [aA,x3,aB,aA,fj,fm,v1,aw,dY (aO hp _),aG,gN,e,aB,bz,call_of (eh (v:=.int r) (s1:=s1) rfl (w:=.loc st.length) (s2:=s1) rfl),et,aG]
  show bB.fin (bB.rt (Val.loc (s1.length + 1)) _) = _
  rw [gm,List.append_assoc]
  rfl
 ·rw [← List.append_assoc,← gm,List.getElem?_append_right (by lia),show s1.length + 1 - s1.length = 1 by lia]; rfl
end PG
namespace PG
open PySem PySem.Spec L2 MN
open PyProof.Rows hiding St kindOf
section
variable {r:Int} {many b:Nat} {P X:List aW}
theorem wu (P:List aW):(tD r P).length ≤ P.length:=Nat.le_trans (BU _ _) (ft P).2.1
theorem wx (hr:cf r = true) (hl:P.length < 1000000) (hk:∀ t ∈ P,t.1.length = many) (hb:∀ t ∈ P,jw b t.2) (b1:10 ≤ b):∀ t ∈ tD r P,t.1.length = many ∧ jw (b + 21) t.2:=by
 have r0:0 ≤ r ∧ r ≤ 997:=by have:=kJ hr; lia
 obtain ⟨B,hB⟩:∃ B:Nat,B = 2 ^ b:=⟨_,rfl⟩
 have S:=Eu (r:=r) (B:=(B:Int)) (P:=P) (Int.natCast_nonneg _) r0.1 hk (fun t ht => by
  have:t.2.natAbs < 2 ^ b:=hb t ht
  lia)
 intro t ht
 refine ⟨S.len t ht,?_⟩
 have q:=S.big t ht
 show t.2.natAbs < 2 ^ (b + 21)
 have b2:1024 ≤ B:=by rw [hB]; exact Nat.pow_le_pow_right (n:=2) (by decide) b1
 rw [Nat.pow_add,← hB]
 have m:(P.length:Int) * (B:Int) ≤ 1000000 * (B:Int):=Int.mul_le_mul_of_nonneg_right (by lia) (Int.natCast_nonneg _)
 rw [show (2:Nat) ^ 21 = 2097152 from rfl]
 lia
structure K9 (many:Nat) (X:List aW) (K:Nat):Prop where
 len:∀ t ∈ X,t.1.length = many
 big:∀ t ∈ X,jw 160 t.2
 Ab:∀ j,j ≤ K → X.length ^ (j + 1) < 1000000
 small:K ≤ 40
theorem pE (hr:cf r = true) {K:Nat} (h:K9 many X K):∀ k,k ≤ K → (p4 r X k).length ≤ X.length ^ (k + 1) ∧ ∀ t ∈ p4 r X k,t.1.length = many ∧ jw (200 * (k + 1)) t.2
 | 0,_ => ⟨by rw [Nat.zero_add,Nat.pow_one]; exact Nat.le_refl _,fun t ht => ⟨h.len t ht,(h.big t ht).mono (by decide)⟩⟩
 | k + 1,hk => by
  obtain ⟨l1,i1⟩:=pE hr h k (by lia)
  have l2:(cB (p4 r X k) X).length ≤ X.length ^ (k + 1 + 1):=by
   rw [gD,Nat.pow_succ]; exact Nat.mul_le_mul_right _ l1
  have l3:=h.Ab (k + 1) hk
  have q:=wx (r:=r) (many:=many) (b:=200 * (k + 1) + 160) (P:=cB (p4 r X k) X) hr (by lia) (fun t ht => by
   obtain ⟨a,ha,c,hc,rfl⟩:=iq ht
   exact jF (i1 a ha).1 (h.len c hc)) (fun t ht => by
   obtain ⟨a,ha,c,hc,rfl⟩:=iq ht
   exact (i1 a ha).2.mul (h.big c hc)) (by lia)
  refine ⟨Nat.le_trans (wu _) l2,fun t ht => ?_⟩
  have:=q t ht
  exact ⟨this.1,this.2.mono (by lia)⟩
theorem B_ (hr:cf r = true) {K:Nat} (h:K9 many X K) {i j:Nat} (F7:i + j + 1 ≤ K):(∀ s ∈ p4 r X i,∀ t ∈ p4 r X j,MulOk s.2 t.2) ∧ (p4 r X i).length * (p4 r X j).length < 1000000:=by
 obtain ⟨l1,i1⟩:=pE hr h i (by lia)
 obtain ⟨l2,i2⟩:=pE hr h j (by lia)
 have:=h.small
 refine ⟨fun s hs t ht => rf (i1 s hs).2 (i2 t ht).2 (by lia) (by lia),?_⟩
 refine Nat.lt_of_le_of_lt (Nat.mul_le_mul l1 l2) ?_
 rw [← Nat.pow_add,show i + 1 + (j + 1) = i + j + 1 + 1 by lia]
 exact h.Ab _ F7
noncomputable def K_ (r:Int) (X:List aW) (L0 i:Nat) (v:Val) (st:ah):Prop:=∃ k,v = .loc k ∧ L0 ≤ k ∧ st[k]? = some (.lst ((p4 r X (i - 1)).map tV))
theorem d5 {s:ah} {n:Nat} {us:List Val} (h:s[n]? = some (.lst us)):itemsOf s n = some us:=by unfold itemsOf; rw [h]
theorem EI (hr:cf r = true) (h1:1 ≤ many) (h4:many ≤ 4) {n:Nat} (L0:Nat) (h:K9 many X (n - 1)):K5 PM.cS (.int r) n (K_ r X L0) where
 pure:=fun i v st h => by obtain ⟨k,rfl,_⟩:=h; rfl
 mono:=fun i v st g h => by obtain ⟨k,rfl,hk,e⟩:=h; exact ⟨k,rfl,hk,bT e g⟩
 mul:=fun i j v w st hi hj F7 hv hw => by
  obtain ⟨p,rfl,hp,ep⟩:=hv
  obtain ⟨q,rfl,hq,eq⟩:=hw
  have pm:=B_ hr h (i:=i - 1) (j:=j - 1) (by lia)
  have b1:=pE hr h (i - 1) (by lia)
  have b2:=pE hr h (j - 1) (by lia)
  obtain ⟨g,k,e,hk,ek⟩:=pD (r:=r) (d5 ep) (d5 eq) h1 h4 (fun t ht => (b1.2 t ht).1) (fun t ht => (b2.2 t ht).1) pm.1 pm.2
  rw [B5 hr,show i - 1 + (j - 1) + 1 = i + j - 1 by lia] at ek
  refine ⟨.loc k,g,?_,k,rfl,?_,ek⟩
  ·unfold PM.cS
   rw [call_of (gO (v:=.int r) (s1:=st) rfl (eh (v:=.loc p) (w:=.loc q) (s1:=st) (s2:=st) rfl rfl)),e]
  ·have:=KZ ep
   lia
theorem yZ {M:dC} {q n:Nat} {st:ah} (pZ:M.S.ps.length = 2) (hr:cf r = true) (hq:itemsOf st q = some (X.map tV)) (h1:1 ≤ many) (h4:many ≤ 4) (hn:1 ≤ n) (h:K9 many X (n - 1)) (ht:fh st M.own M.line M.col M.S.qual) :
  ∃ g k,PM.raised M [.int r,.loc q,.int (n:Int)] st = .ok (.loc k) (st ++ g) ∧ st.length ≤ k ∧ (st ++ g)[k]? = some (.lst ((p4 r X (n - 1)).map tV)):=by
 have VU:=h.small
 obtain ⟨g1,e1⟩:=g8 hr st
 obtain ⟨s1,gm⟩:∃ s1,s1 = st ++ g1:=⟨_,rfl⟩
 rw [← gm] at e1
 have VV:itemsOf s1 q = some (X.map tV):=by rw [gm]; exact aO hq _
 have OO:fh s1 M.own M.line M.col M.S.qual:=by rw [gm]; exact cY ht _
 obtain ⟨s2,hR⟩:∃ s2,s2 = s1 ++ [Cell.lst (X.map tV)]:=⟨_,rfl⟩
 obtain ⟨μ,hμ⟩:∃ μ:MN.Env,μ = [some (.int r),some (.loc q),some (.int (n:Int))]:=⟨_,rfl⟩
 have c0:aq PM.bR (ae (aa 0) ak) μ st = .ok .eR s1:=by
  rw [call_of (gA (v:=.int r) (s1:=st) (by rw [hμ]; rfl)),e1]
 have t1:iZ (dB (b_ (aq PM.dD (ae (aa 2) ak)))) (b_ (ai ltV (aa 2) (mC (.int 1)))) μ s1 = .ok false s1:=by
  have wh:b_ (aq PM.dD (ae (aa 2) ak)) μ s1 = .ok true s1:=by
   refine cG ?_
   rw [call_of (gA (v:=.int (n:Int)) (s1:=s1) (by rw [hμ]; rfl)),gg]
  refine uX (ph wh) (cG ?_)
  ·rw [bo (x:=.int (n:Int)) (y:=.int 1) (s1:=s1) (s2:=s1) (by rw [hμ]; rfl) rfl,jR]
   exact congrArg (fun b => Res.ok (Val.bl b) s1) (decide_eq_false (by lia))
 have c2:aq jZ (ae (aa 1) ak) μ s1 = .ok (.loc s1.length) s2:=by
  rw [call_of (gA (v:=.loc q) (s1:=s1) (by rw [hμ]; rfl)),sF VV,hR]
 obtain ⟨y,g,e,k,rfl,hk,ek⟩:=Iq (L:=M.S) (mb:=PM.cS) (u:=.int r) (x:=.loc s1.length) (n:=n) (Rep:=K_ r X s1.length) pZ hn (by lia) (EI hr h1 h4 _ h) (st:=s2) ⟨_,rfl,Nat.le_refl _,by rw [hR]; exact g9 s1 [] _⟩
 have l1:s1.length = st.length + g1.length:=by rw [gm,List.length_append]
 refine ⟨g1 ++ ([Cell.lst (X.map tV)] ++ g),k,?_,by lia,?_⟩
 ·have a:ae (aq jZ (ae (aa 1) ak)) (ae (aa 2) ak) μ s1 = .ok [.loc s1.length,.int (n:Int)] s2:=eh c2 (by rw [hμ]; rfl)
  have cl:lS M 0 (PM.repeated M.S PM.cS) (ae (aq jZ (ae (aa 1) ak)) (ae (aa 2) ak)) μ s1 = .ok (.loc k) (s2 ++ g):=by
   unfold lS
   rw [hμ]
   dsimp only [List.getElem?_cons_zero]
   rw [if_pos ⟨rfl,OO⟩,← hμ,a]
   show Kr (PM.repeated M.S PM.cS (.int r) [.loc s1.length,.int (n:Int)] s2) = _
   rw [e]
   rfl
  unfold PM.raised
  rw [bZ (np:=3) (us:=[Val.int r,.loc q,.int (n:Int)]) rfl]
  show (aF (dc (aq PM.bR (ae (aa 0) ak))) (aF (gI (iZ (dB (b_ (aq PM.dD (ae (aa 2) ak)))) (b_ (ai ltV (aa 2) (mC (.int 1))))) _ bG) (bO (lS M 0 (PM.repeated M.S PM.cS) (ae (aq jZ (ae (aa 1) ak)) (ae (aa 2) ak))))) [some (Val.int r),some (.loc q),some (.int (n:Int))] st).fin = _
  rw [← hμ,aA,fH,c0,aG]
  show bB.fin (bB.c_ (bB.nx μ s1) _) = _
  rw [aB,aA,il t1,aB,bz,cl,aG,hR,gm,List.append_assoc,List.append_assoc]
  rfl
 ·rw [hR,gm,List.append_assoc,List.append_assoc] at ek; exact ek
theorem rj {M:dC} {q:Nat} {n:Int} {st:ah} (hr:cf r = true) (hn:n < 1) :
  ∃ g,PM.raised M [.int r,.loc q,.int n] st = .err "NoCount" (st ++ g):=by
 obtain ⟨g1,e1⟩:=g8 hr st
 obtain ⟨μ,hμ⟩:∃ μ:MN.Env,μ = [some (.int r),some (.loc q),some (.int n)]:=⟨_,rfl⟩
 have c0:aq PM.bR (ae (aa 0) ak) μ st = .ok .eR (st ++ g1):=by
  rw [call_of (gA (v:=.int r) (s1:=st) (by rw [hμ]; rfl)),e1]
 have wh:b_ (aq PM.dD (ae (aa 2) ak)) μ (st ++ g1) = .ok true (st ++ g1):=by
  refine cG ?_
  rw [call_of (gA (v:=.int n) (s1:=st ++ g1) (by rw [hμ]; rfl)),gg]
 have lt:b_ (ai ltV (aa 2) (mC (.int 1))) μ (st ++ g1) = .ok true (st ++ g1):=by
  refine cG ?_
  rw [bo (x:=.int n) (y:=.int 1) (s1:=st ++ g1) (s2:=st ++ g1) (by rw [hμ]; rfl) rfl,jR]
  exact congrArg (fun b => Res.ok (Val.bl b) _) (decide_eq_true hn)
 have t1:iZ (dB (b_ (aq PM.dD (ae (aa 2) ak)))) (b_ (ai ltV (aa 2) (mC (.int 1)))) μ (st ++ g1) = .ok true (st ++ g1):=by
  rw [o4,ph wh,aw,n_,lt]
 refine ⟨g1,?_⟩
 unfold PM.raised
 rw [bZ (np:=3) (us:=[Val.int r,.loc q,.int n]) rfl]
 show (aF (dc (aq PM.bR (ae (aa 0) ak))) (aF (gI (iZ (dB (b_ (aq PM.dD (ae (aa 2) ak)))) (b_ (ai ltV (aa 2) (mC (.int 1))))) (lK "NoCount" (ae (mC (.str "a sum is raised by a whole number from 1 on")) ak)) bG) _) [some (Val.int r),some (.loc q),some (.int n)] st).fin = _
 rw [← hμ,aA,fH,c0,aG]
 show bB.fin (bB.c_ (bB.nx μ (st ++ g1)) _) = _
 rw [aB,aA,iJ t1,A9,gA (v:=.str "a sum is raised by a whole number from 1 on") (s1:=st ++ g1) rfl,aG,DV,if_pos (by rw [sizeLine_eq]; show 1 ≤ 16777216; decide)]
 rfl
theorem Ca {p q:Nat} {A B:List aW} {st:ah} (hr:cf r = true) (hp:itemsOf st p = some (A.map tV)) (hq:itemsOf st q = some (B.map tV)) (h1:1 ≤ many) (h4:many ≤ 4) (hA:∀ t ∈ A,t.1.length = many) (hB:∀ t ∈ B,t.1.length = many) (hm:∀ s ∈ A,∀ t ∈ B,MulOk s.2 t.2) (hl:A.length * B.length < 1000000) :
  ∃ g k,PM.times [.int r,.loc p,.loc q] st = .ok (.loc k) (st ++ g) ∧ st.length ≤ k ∧ (st ++ g)[k]? = some (.lst ((tD r (cB A B)).map tV)):=by
 obtain ⟨g1,e1⟩:=g8 hr st
 obtain ⟨s1,gm⟩:∃ s1,s1 = st ++ g1:=⟨_,rfl⟩
 rw [← gm] at e1
 obtain ⟨g2,k,e2,hk,ek⟩:=pD (r:=r) (st:=s1) (by rw [gm]; exact aO hp _) (by rw [gm]; exact aO hq _) h1 h4 hA hB hm hl
 have l1:s1.length = st.length + g1.length:=by rw [gm,List.length_append]
 obtain ⟨μ,hμ⟩:∃ μ:MN.Env,μ = [some (.int r),some (.loc p),some (.loc q)]:=⟨_,rfl⟩
 have c0:aq PM.bR (ae (aa 0) ak) μ st = .ok .eR s1:=by
  rw [call_of (gA (v:=.int r) (s1:=st) (by rw [hμ]; rfl)),e1]
 refine ⟨g1 ++ g2,k,?_,by lia,by rw [← List.append_assoc,← gm]; exact ek⟩
 unfold PM.times
 rw [bZ (np:=3) (us:=[Val.int r,.loc p,.loc q]) rfl]
 show (aF (dc (aq PM.bR (ae (aa 0) ak))) (bO (aq PM.product (ae (aa 0) (ae (aa 1) (ae (aa 2) ak))))) [some (Val.int r),some (.loc p),some (.loc q)] st).fin = _
 rw [← hμ,aA,fH,c0,aG]
 show bB.fin (bB.c_ (bB.nx μ s1) _) = _
 rw [aB,bz,call_of (gO (v:=.int r) (s1:=s1) (by rw [hμ]; rfl) (eh (v:=.loc p) (w:=.loc q) (s1:=s1) (s2:=s1) (by rw [hμ]; rfl) (by rw [hμ]; rfl))),e2,aG,gm,List.append_assoc]
 rfl
end
end PG
namespace tF
open PySem PySem.Spec L2 MN
open PyProof.Rows hiding St
noncomputable def tab:List (Str × Str × Bool):=[("NoRing","NoCount",false),("NoRing","AlgebraError",true),("NoRing","ValueError",true),("NoCount","NoCount",true),("NoCount","AlgebraError",true),("NoCount","ValueError",true)]
noncomputable def kn:List Str:=["NoRing","NoCount"]
noncomputable def bH (M:dC):FN:=jx 4 5 (aF (uq (si (IW kn) (gI (vW (b_ (aa 3))) (si (IW kn) (dc (aq (PM.raised M) (vW (ae (aa 0) (ae (aa 1) (ae (aa 2) ak)))))) (IV (jN tab) "AlgebraError" 4 (bO (yC (jN tab) 4 "ValueError")) Ho)) (dc (aq (PM.raised M) (vW (ae (aa 0) (ae (aa 1) (ae (aa 2) ak))))))) (qN (jN tab) "NoCount" (bO (Aw (aa 3))) Ho))) (bO (mC (.bl false))))
noncomputable def mh (M:dC):MB:=(bO (ug (aq PM.dE (ae (ai de (aa 9) (mC (.int 0))) (ae (aa 6) ak))) (aq PM.dE (ae (ai de (aa 9) (mC (.int 1))) (ae (aa 7) ak)))))
noncomputable def mn (M:dC):MB:=(aF (d9 (bJ (ae (mC (.int 2)) ak)) (aName 11) (aF (aK 12 (aq (PM.raised M) (ae (aa 1) (ae (ai de (aa 9) (mC (.int 1))) (ae (aa 13) ak))))) (aF (gI (dB (b_ (aq PM.dE (ae (aa 12) (ae (aa 10) ak))))) (bO (mC (.bl false))) bG) (dc (jh cw (aa 12) (ae (mC (.int 7)) ak)))))) (mh M))
noncomputable def rm (M:dC):MB:=(aF (d9 (gM (ae (mC (.int 1)) (ae (aa 13) ak))) (aName 14) (aK 10 (aq PM.cR (ae (aa 1) (ae (aa 10) (ae (aa 7) ak)))))) (mn M))
noncomputable def rn (M:dC):MB:=(aF (aK 10 (aa 7)) (rm M))
noncomputable def mq (M:dC):MB:=(aF (gI (b_ (ai ltV (aa 13) (mC (.int 1)))) (bO (ug (aq (bH M) (ae (aa 1) (ae (ai de (aa 9) (mC (.int 1))) (ae (aa 13) (ae (mC (.bl false)) ak))))) (aq (bH M) (ae (aa 1) (ae (ai de (aa 9) (mC (.int 1))) (ae (aa 13) (ae (mC (.bl true)) ak))))))) bG) (rn M))
noncomputable def ro (M:dC):MB:=(aF (gI (b_ (ai IS (aq d8 (ae (aa 7) ak)) (mC (.int 5)))) (aK 13 (aq BY (ae (aa 13) (ae (mC (.int 2)) ak)))) bG) (mq M))
noncomputable def rp (M:dC):MB:=(aF (gI (gK (b_ (ai ltV (aq d8 (ae (aa 7) ak)) (mC (.int 4)))) (b_ (ai hZ (ai bx (ai bh (aa 5) (mC (.int 7))) (mC (.int 8))) (mC (.int 2))))) (aK 13 (ai cg (mC (.int 1)) (ai bx (ai bh (aa 5) (mC (.int 56))) (mC (.int 12))))) bG) (ro M))
noncomputable def rq (M:dC):MB:=(aF (gI (gK (b_ (ai ltV (aq d8 (ae (aa 7) ak)) (mC (.int 2)))) (b_ (ai hZ (ai bx (ai bh (aa 5) (mC (.int 7))) (mC (.int 2))) (mC (.int 1))))) (aK 13 (ai cg (mC (.int 1)) (ai bx (ai bh (aa 5) (mC (.int 14))) (mC (.int 30))))) bG) (rp M))
noncomputable def mr (M:dC):MB:=(aF (aK 13 (ai qc (ai bx (aa 5) (mC (.int 7))) (mC (.int 2)))) (rq M))
noncomputable def rA (M:dC):MB:=(aF (d9 (bJ (ae (mC (.int 2)) ak)) (aName 11) (aF (aK 12 (aq PM.times (ae (aa 1) (ae (ai de (aa 9) (mC (.int 0))) (ae (ai de (aa 9) (mC (.int 1))) ak))))) (aF (gI (dB (b_ (aq PM.dE (ae (aa 12) (ae (aa 10) ak))))) (bO (mC (.bl false))) bG) (dc (jh cw (aa 12) (ae (mC (.int 7)) ak)))))) (mr M))
noncomputable def rB (M:dC):MB:=(aF (aK 10 (aq PM.cR (ae (aa 1) (ae (aa 6) (ae (aa 7) ak))))) (rA M))
noncomputable def pF (M:dC):MB:=(aF (aK 9 (fK (ae (aq jZ (ae (aa 6) ak)) (ae (aq jZ (ae (aa 7) ak)) ak)))) (rB M))
noncomputable def pG (M:dC):MB:=(aF (gI (b_ (ai hZ (ai bx (ai bh (aa 5) (mC (.int 3))) (mC (.int 2))) (mC (.int 1)))) (Il 6 7 (ae (aa 7) (ae (aa 6) ak))) bG) (pF M))
noncomputable def pH (M:dC):MB:=(aF (gI (b_ (ai hZ (ai bx (ai bh (aa 3) (mC (.int 6))) (mC (.int 8))) (mC (.int 1)))) (aF (aK 8 (cO 1 [4,5] (bJ (ae (ai bx (ai bh (aa 3) (mC (.int 48))) (mC (.int 41))) ak)) (aName 0) cj (gH (ae (aq PM.bA (ae (ai cg (ai bh (aa 2) (mC (.int 7))) (ai cU (mC (.int 37)) (aa 0))) (ae (aa 1) ak))) (ae (aq PM.bS (ae (ai cg (aa 2) (ai cU (mC (.int 5)) (aa 0))) ak)) ak))))) (aK 6 (aq PM.ba (ae (aa 1) (ae (aa 8) ak))))) bG) (pG M))
noncomputable def u6 (M:dC):MB:=(aF (aK 7 (aq PM.ba (ae (aa 1) (ae (aq PM.dI (ae (aa 0) (ae (mC (.int 16)) (ae (aa 4) (ae (ai bx (aa 3) (mC (.int 6))) ak))))) ak)))) (pH M))
noncomputable def u7 (M:dC):MB:=(aF (aK 6 (aq PM.ba (ae (aa 1) (ae (aq PM.dI (ae (aa 0) (ae (mC (.int 4)) (ae (aa 4) (ae (ai bx (ai bh (aa 2) (mC (.int 4))) (mC (.int 6))) ak))))) ak)))) (u6 M))
noncomputable def u9 (M:dC):MB:=(aF (aK 5 (aq PM.aL (ae (aa 0) (ae (mC (.int 3)) ak)))) (u7 M))
noncomputable def u_ (M:dC):MB:=(aF (aK 4 (ai cg (mC (.int 1)) (ai bx (aa 2) (mC (.int 4))))) (u9 M))
noncomputable def vc (M:dC):MB:=(aF (aK 3 (aq PM.aL (ae (aa 0) (ae (mC (.int 2)) ak)))) (u_ M))
noncomputable def pI (M:dC):MB:=(aF (aK 2 (aq PM.aL (ae (aa 0) (ae (mC (.int 1)) ak)))) (vc M))
noncomputable def vd (M:dC):FN:=jx 1 15 (aF (aK 1 (aq PM.gu (ae (aq PM.aL (ae (aa 0) (ae (mC (.int 0)) ak))) ak))) (pI M))
end tF
namespace tF
open PySem PySem.Spec L2 MN PG
open PyProof.Rows hiding St kindOf
noncomputable abbrev ir (r:Int) (x2 x3:Option Val) (many:Nat) (mix:Int) (p q:Nat) (x8:Option Val) (h:Nat) (x10 x11 x12 x13 x14:Option Val):MN.Env:=[some (.loc 0),some (.int r),x2,x3,some (.int (many:Int)),some (.int mix),some (.loc p),some (.loc q),x8,some (.loc h),x10,x11,x12,x13,x14]
structure Hd (st:ah) (M:dC) (p q h p' q':Nat) (A B:List aW):Prop where
 a:st[p]? = some (.lst (A.map tV))
 b:st[q]? = some (.lst (B.map tV))
 c:st[h]? = some (.lst [.loc p',.loc q'])
 d:st[p']? = some (.lst (A.map tV))
 e:st[q']? = some (.lst (B.map tV))
 t:fh st M.own M.line M.col M.S.qual
theorem Hd.old {st:ah} {M:dC} {p q h p' q':Nat} {A B:List aW} (H:Hd st M p q h p' q' A B) (g:ah):Hd (st ++ g) M p q h p' q' A B:=⟨bT H.a g,bT H.b g,bT H.c g,bT H.d g,bT H.e g,cY H.t g⟩
section
variable {r mix:Int} {x2 x3 x8 x10 x11 x12 x13 x14:Option Val} {many p q h p' q':Nat} {M:dC} {A B:List aW} {st:ah}
theorem TY (H:Hd st M p q h p' q' A B):ai de (aa 9) (mC (.int 0)) (ir r x2 x3 many mix p q x8 h x10 x11 x12 x13 x14) st = .ok (.loc p') st:=by
 rw [bo (x:=.loc h) (y:=.int 0) (s1:=st) (s2:=st) rfl rfl,o8 (us:=[.loc p',.loc q']) (v:=.loc p') (d5 H.c) rfl]
theorem La (H:Hd st M p q h p' q' A B):ai de (aa 9) (mC (.int 1)) (ir r x2 x3 many mix p q x8 h x10 x11 x12 x13 x14) st = .ok (.loc q') st:=by
 rw [bo (x:=.loc h) (y:=.int 1) (s1:=st) (s2:=st) rfl rfl,o8 (us:=[.loc p',.loc q']) (v:=.loc q') (d5 H.c) rfl]
noncomputable abbrev TZ (F:ME):MB:=aF (aK 12 F) (aF (gI (dB (b_ (aq PM.dE (ae (aa 12) (ae (aa 10) ak))))) (bO (mC (.bl false))) bG) (dc (jh cw (aa 12) (ae (mC (.int 7)) ak))))
theorem EJ {st g:ah} {k:Nat} {c:Cell} (h:st.length ≤ k):(st ++ g).set k c = st ++ g.set (k - st.length) c:=List.set_append_right _ _ h
theorem turns {F:ME} {D:List aW} {d:Nat} (hF:∀ g x11 x12,∃ k g2,F (ir r x2 x3 many mix p q x8 h (some (.loc d)) x11 x12 x13 x14) (st ++ g) = .ok (.loc k) (st ++ g ++ g2) ∧ (st ++ g).length ≤ k ∧ (st ++ g ++ g2)[k]? = some (.lst (D.map tV))) (hd:st[d]? = some (.lst (D.map tV))) (hl:D.length < 1000000) (hk:∀ t ∈ D,t.1.length ≤ 10) :
  ∃ CB y8 g,d9 (bJ (ae (mC (.int 2)) ak)) (aName 11) (TZ F) (ir r x2 x3 many mix p q x8 h (some (.loc d)) x11 x12 x13 x14) st = .nx (ir r x2 x3 many mix p q x8 h (some (.loc d)) CB y8 x13 x14) (st ++ g):=by
 obtain ⟨μ',av,e,g,rfl,CB,y8,rfl⟩:=cQ (g:=fun _ => True) (a:=aName 11) (body:=TZ F)
  (fun i μ s' => ∃ g,s' = st ++ g ∧ ∃ CB y8,μ = ir r x2 x3 many mix p q x8 h (some (.loc d)) CB y8 x13 x14)
  (aP 0 2) 0 (ir r x2 x3 many mix p q x8 h (some (.loc d)) x11 x12 x13 x14) st
  (by
   rintro i u μ s' hu ⟨g,rfl,CB,y8,rfl⟩
   refine ⟨trivial,?_⟩
   obtain ⟨hi,rfl⟩:=xQ hu
   refine ⟨ir r x2 x3 many mix p q x8 h (some (.loc d)) (some (.int (0 + (i:Int)))) y8 x13 x14,rfl,?_⟩
   obtain ⟨k,g2,e1,VW,ek⟩:=hF g (some (.int (0 + (i:Int)))) y8
   obtain ⟨s1,gm⟩:∃ s1,s1 = st ++ g ++ g2:=⟨_,rfl⟩
   rw [← gm] at e1 ek
   obtain ⟨g3,e3⟩:=jo (a:=k) (b:=d) (D:=D) ek (by rw [gm]; exact bT (bT hd _) _) (by lia) (fun t ht => by have:=hk t ht; lia)
   have f1:aK 12 F (ir r x2 x3 many mix p q x8 h (some (.loc d)) (some (.int (0 + (i:Int)))) y8 x13 x14) (st ++ g) = .nx (ir r x2 x3 many mix p q x8 h (some (.loc d)) (some (.int (0 + (i:Int)))) (some (.loc k)) x13 x14) s1:=by
    rw [bF e1]; rfl
   have wb:dB (b_ (aq PM.dE (ae (aa 12) (ae (aa 10) ak)))) (ir r x2 x3 many mix p q x8 h (some (.loc d)) (some (.int (0 + (i:Int)))) (some (.loc k)) x13 x14) s1 = .ok false (s1 ++ g3):=by
    refine ph (cG ?_)
    rw [call_of (eh (v:=.loc k) (w:=.loc d) (s1:=s1) (s2:=s1) rfl rfl),e3]
   have f3:=xU (μ:=ir r x2 x3 many mix p q x8 h (some (.loc d)) (some (.int (0 + (i:Int)))) (some (.loc k)) x13 x14) (s:=s1 ++ g3) (o:=aa 12) (a:=ae (mC (.int 7)) ak) (n:=k) (us:=D.map tV) (v:=.int 7) rfl (bT ek _) rfl (bT ek _) (by rw [List.length_map]; exact hl)
   have f4:(s1 ++ g3).set k (Cell.lst (D.map tV ++ [Val.int 7])) = st ++ (g ++ (g2 ++ g3).set (k - (st ++ g).length) (Cell.lst (D.map tV ++ [Val.int 7]))):=by
    rw [gm,List.append_assoc (st ++ g),EJ VW,List.append_assoc]
   rw [f4] at f3
   refine ⟨_,_,.inl (?_:_ = bB.nx (ir r x2 x3 many mix p q x8 h (some (.loc d)) (some (.int (0 + (i:Int)))) (some (.loc k)) x13 x14) (st ++ (g ++ (g2 ++ g3).set (k - (st ++ g).length) (Cell.lst (D.map tV ++ [Val.int 7]))))),_,rfl,_,_,rfl⟩
   show aF _ _ _ _ = _
   rw [aA,f1,aB,aA,il wb,aB,f3])
  (fun μ s hp => trivial)
  ⟨[],(List.append_nil st).symm,_,_,rfl⟩
 refine ⟨CB,y8,g,?_⟩
 rw [fj,pq (gA (v:=.int 2) (s1:=st) rfl) (by decide) (by decide),aG,gN]
 exact e
end
theorem T1:IW kn "NoCount" = true:=by decide +kernel
theorem VX:jN tab "NoCount" "NoCount" = some true:=by decide +kernel
theorem VY:jN tab "NoCount" "AlgebraError" = some true:=by decide +kernel
theorem VZ:jN tab "NoCount" "ValueError" = some true:=by decide +kernel
theorem Lb {sub:Str → Str → Option Bool} {x c:Str} {a b d e:Option Val} {st:ah} (h:sub c x = some true):yC sub 4 x [a,b,d,e,some (.exc c)] st = .ok (.bl true) st:=by unfold yC; dsimp only [List.getElem?_cons_zero,List.getElem?_cons_succ]; rw [h]
theorem y9 {M:dC} {r n:Int} {q:Nat} {st s1:ah} (e:PM.raised M [.int r,.loc q,.int n] st = .err "NoCount" s1):bH M [.int r,.loc q,.int n,.bl false] st = .ok (.bl true) s1:=by
 simp only [bH,bZ,aw,aG,xq,iH,df,k_not,bQ,bg,e_,fS,cK,cE,HD,cF,bf,dz,aA,fH,bz,dj,Bb,Bc,uE,xy,Bd,qT,dm,Fq,qS,gx,List.map_cons,List.map_nil,List.cons_append,List.nil_append,List.replicate_succ,List.replicate_zero,Nat.reduceSub,List.length_cons,List.length_nil,Nat.reduceAdd,Bool.not_false,e,xA T1,D6 VX]
theorem y_ {M:dC} {r n:Int} {q:Nat} {st s1:ah} (e:PM.raised M [.int r,.loc q,.int n] st = .err "NoCount" s1):bH M [.int r,.loc q,.int n,.bl true] st = .ok (.bl true) s1:=by
 simp only [bH,bZ,aw,aG,xq,iH,df,bQ,bg,e_,gw,cK,cE,cF,bf,dz,aA,fH,bz,dj,Bb,Bc,uE,xy,Bd,D5,qT,dm,Fq,qS,gx,List.map_cons,List.map_nil,List.cons_append,List.nil_append,List.replicate_succ,List.replicate_zero,List.set_cons_zero,List.set_cons_succ,Nat.reduceSub,List.length_cons,List.length_nil,Nat.reduceAdd,e,xA T1,KL VY,Lb VZ]
end tF
namespace tF
open PySem PySem.Spec L2 MN PG
open PyProof.Rows hiding St kindOf
structure Dr (many:Nat) (D:List aW):Prop where
 len:∀ t ∈ D,t.1.length = many
 big:∀ t ∈ D,jw 160 t.2
 Ab:D.length ≤ 40
theorem Dr.of {r:Int} {many:Nat} {L:List aW} (hr:cf r = true) (hl:L.length ≤ 40) (hL:∀ t ∈ L,Good many t ∧ jw 134 t.2):Dr many (dZ r (cm L)):=by
 have q:=wx (r:=r) (many:=many) (b:=134) (P:=L) hr (by lia) (fun t ht => (hL t ht).1.len) (fun t ht => (hL t ht).2) (by decide)
 exact ⟨fun t ht => (q t ht).1,fun t ht => (q t ht).2.mono (by decide),Nat.le_trans (wu (r:=r) L) hl⟩
noncomputable def Cn (n:Nat) (c:Int):Prop:=(c ≤ 4 ∧ n ≤ 5) ∨ (c ≤ 2 ∧ n ≤ 40) ∨ (c ≤ 30 ∧ n ≤ 1) ∨ (c ≤ 12 ∧ n ≤ 3)
theorem sN {n N j C:Nat} (h:n ≤ N) (hN:1 ≤ N) (hj:j ≤ C):n ^ j ≤ N ^ C:=Nat.le_trans (Nat.pow_le_pow_left h j) (Nat.pow_le_pow_right hN hj)
theorem Dr.T2 {many c:Nat} {X:List aW} (h:Dr many X) (h1:1 ≤ c) (hc:Cn X.length (c:Int)):K9 many X (c - 1):=by
 refine ⟨h.len,h.big,fun j hj => ?_,?_⟩
 ·rcases hc with ⟨a,b⟩ | ⟨a,b⟩ | ⟨a,b⟩ | ⟨a,b⟩
  ·exact Nat.lt_of_le_of_lt (sN (C:=4) b (by decide) (by lia)) (by decide)
  ·exact Nat.lt_of_le_of_lt (sN (C:=2) b (by decide) (by lia)) (by decide)
  ·exact Nat.lt_of_le_of_lt (sN (C:=30) b (by decide) (by lia)) (by decide)
  ·exact Nat.lt_of_le_of_lt (sN (C:=12) b (by decide) (by lia)) (by decide)
 ·rcases hc with ⟨a,b⟩ | ⟨a,b⟩ | ⟨a,b⟩ | ⟨a,b⟩ <;> lia
theorem Dr.mul {many:Nat} {A B:List aW} (hA:Dr many A) (hB:Dr many B):(∀ s ∈ A,∀ t ∈ B,MulOk s.2 t.2) ∧ A.length * B.length < 1000000 :=
 ⟨fun s hs t ht => rf (hA.big s hs) (hB.big t ht) (by decide) (by decide),Nat.lt_of_le_of_lt (Nat.mul_le_mul hA.Ab hB.Ab) (by decide)⟩
section
variable {r mix:Int} {x2 x3 x8 x10 x11 x12 x13 x14:Option Val} {many p q h p' q':Nat} {M:dC} {A B:List aW} {st:ah}
theorem Cb {D:List aW} {μ:MN.Env} {m:ME} {k:Nat} {s:ah} (hm:m μ s = .ok (.loc k) s) (h:s[k]? = some (.lst (D.map tV))):aq d8 (ae m ak) μ s = .ok (.int (D.length:Int)) s:=by
 rw [call_of (gA hm),kG (d5 h),List.length_map]
theorem Fx {m:ME} {μ:MN.Env} {s:ah} {o j:Int} (h:m μ s = .ok (.int o) s):b_ (ai ltV m (mC (.int j))) μ s = .ok (decide (o < j)) s:=by
 refine cG ?_
 rw [bo (x:=.int o) (y:=.int j) (s1:=s) (s2:=s) h rfl,jR]
theorem Lc {m:ME} {μ:MN.Env} {s:ah} {o j:Int} (h:m μ s = .ok (.int o) s):b_ (ai IS m (mC (.int j))) μ s = .ok (decide (o > j)) s:=by
 refine cG ?_
 rw [bo (x:=.int o) (y:=.int j) (s1:=s) (s2:=s) h rfl,Ba]
theorem Iv {t u:MT} {μ:MN.Env} {s:ah} {a b:Bool} (h1:t μ s = .ok a s) (h2:u μ s = .ok b s):gK t u μ s = .ok (a && b) s:=by
 rw [nZ,h1,aw]
 cases a
 ·rw [oZ]; rfl
 ·rw [oY,h2]; rfl
theorem Iw (H:Hd st M p q h p' q' A B) (hA:Dr many A) (hB:Dr many B) (h4:many ≤ 4):∃ av,mh M (ir r x2 x3 many mix p q x8 h x10 x11 x12 x13 x14) st = .rt (.bl true) av:=by
 obtain ⟨g,e⟩:=jo (a:=p') (b:=p) (D:=A) H.d H.a (by have:=hA.Ab; lia) (fun t ht => by rw [hA.len t ht]; lia)
 obtain ⟨s1,gm⟩:∃ s1,s1 = st ++ g:=⟨_,rfl⟩
 have H1:Hd s1 M p q h p' q' A B:=by rw [gm]; exact H.old g
 rw [← gm] at e
 obtain ⟨g2,e2⟩:=jo (a:=q') (b:=q) (D:=B) H1.e H1.b (by have:=hB.Ab; lia) (fun t ht => by rw [hB.len t ht]; lia)
 refine ⟨s1 ++ g2,?_⟩
 have l1:aq PM.dE (ae (ai de (aa 9) (mC (.int 0))) (ae (aa 6) ak)) (ir r x2 x3 many mix p q x8 h x10 x11 x12 x13 x14) st = .ok (.bl true) s1:=by
  rw [call_of (eh (TY H) (w:=.loc p) (s2:=st) rfl),e]
 have l2:aq PM.dE (ae (ai de (aa 9) (mC (.int 1))) (ae (aa 7) ak)) (ir r x2 x3 many mix p q x8 h x10 x11 x12 x13 x14) s1 = .ok (.bl true) (s1 ++ g2):=by
  rw [call_of (eh (La H1) (w:=.loc q) (s2:=s1) rfl),e2]
 unfold mh
 rw [bz,BK l1 l2,aG]
 rfl
theorem Iy {c d:Nat} (pZ:M.S.ps.length = 2) (hr:cf r = true) (h1:1 ≤ many) (h4:many ≤ 4) (H:Hd st M p q h p' q' A B) (hA:Dr many A) (hB:Dr many B) (c1:1 ≤ c) (hc:Cn B.length (c:Int)) (hd:st[d]? = some (.lst ((p4 r B (c - 1)).map tV))) :
  ∃ av,mn M (ir r x2 x3 many mix p q x8 h (some (.loc d)) x11 x12 (some (.int (c:Int))) x14) st = .rt (.bl true) av:=by
 have P:=hB.T2 c1 hc
 have bd:=pE hr P (c - 1) (Nat.le_refl _)
 have fw:=P.Ab (c - 1) (Nat.le_refl _)
 obtain ⟨CB,y8,g,e⟩:=turns (r:=r) (x2:=x2) (x3:=x3) (x8:=x8) (x11:=x11) (x12:=x12) (x13:=some (.int (c:Int))) (x14:=x14) (many:=many) (mix:=mix) (p:=p) (q:=q) (h:=h) (st:=st) (F:=aq (PM.raised M) (ae (aa 1) (ae (ai de (aa 9) (mC (.int 1))) (ae (aa 13) ak)))) (D:=p4 r B (c - 1)) (d:=d) (fun g x11 x12 => by
   have H1:=H.old g
   obtain ⟨g2,k,e,hk,ek⟩:=yZ (M:=M) (r:=r) (q:=q') (n:=c) (X:=B) (many:=many) (st:=st ++ g) pZ hr (d5 H1.e) h1 h4 c1 P H1.t
   refine ⟨k,g2,?_,hk,ek⟩
   rw [call_of (gO (v:=.int r) (s1:=st ++ g) rfl (eh (La H1) (w:=.int (c:Int)) (s2:=st ++ g) rfl)),e]) hd (by lia) (fun t ht => by rw [(bd.2 t ht).1]; lia)
 obtain ⟨av,e2⟩:=Iw (r:=r) (x2:=x2) (x3:=x3) (x8:=x8) (x10:=some (.loc d)) (x11:=CB) (x12:=y8) (x13:=some (.int (c:Int))) (x14:=x14) (mix:=mix) (H.old g) hA hB h4
 refine ⟨av,?_⟩
 unfold mn
 rw [aA,e,aB,e2]
noncomputable abbrev T3:MB:=aK 10 (aq PM.cR (ae (aa 1) (ae (aa 10) (ae (aa 7) ak))))
theorem Cc {c:Nat} (hr:cf r = true) (h1:1 ≤ many) (h4:many ≤ 4) (hB:Dr many B) (hb:st[q]? = some (.lst (B.map tV))) (c1:1 ≤ c) (hc:Cn B.length (c:Int)) :
  ∃ d Fy g,d9 (gM (ae (mC (.int 1)) (ae (aa 13) ak))) (aName 14) T3 (ir r x2 x3 many mix p q x8 h (some (.loc q)) x11 x12 (some (.int (c:Int))) x14) st = .nx (ir r x2 x3 many mix p q x8 h (some (.loc d)) x11 x12 (some (.int (c:Int))) Fy) (st ++ g) ∧ (st ++ g)[d]? = some (.lst ((p4 r B (c - 1)).map tV)):=by
 have P:=hB.T2 c1 hc
 have XN:=P.small
 obtain ⟨μ',av,e,g,rfl,d,Fy,rfl,hd⟩:=cQ (g:=fun _ => True) (a:=aName 14) (body:=T3)
  (fun i μ s' => ∃ g,s' = st ++ g ∧ ∃ d Fy,μ = ir r x2 x3 many mix p q x8 h (some (.loc d)) x11 x12 (some (.int (c:Int))) Fy ∧ s'[d]? = some (.lst ((p4 r B i).map tV)))
  (aP 1 (c - 1)) 0 (ir r x2 x3 many mix p q x8 h (some (.loc q)) x11 x12 (some (.int (c:Int))) x14) st
  (by
   rintro i u μ s' hu ⟨g,rfl,d,Fy,rfl,hd⟩
   refine ⟨trivial,?_⟩
   rw [Nat.zero_add] at hd ⊢
   obtain ⟨hi,rfl⟩:=xQ hu
   have pm:=B_ hr P (i:=i) (j:=0) (by lia)
   have b1:=pE hr P i (by lia)
   obtain ⟨g2,k,e,hk,ek⟩:=kO (r:=r) (many:=many) (A:=p4 r B i) (B:=B) (d5 hd) (d5 (bT hb g)) h1 h4 (fun t ht => (b1.2 t ht).1) hB.len pm.1 pm.2
   refine ⟨ir r x2 x3 many mix p q x8 h (some (.loc d)) x11 x12 (some (.int (c:Int))) (some (.int (1 + (i:Int)))),rfl,ir r x2 x3 many mix p q x8 h (some (.loc k)) x11 x12 (some (.int (c:Int))) (some (.int (1 + (i:Int)))),st ++ (g ++ g2),.inl ?_,g ++ g2,rfl,k,_,rfl,by rw [← List.append_assoc]; exact ek⟩
   show aK _ _ _ _ = _
   rw [bF (v:=.loc k) (s1:=st ++ g ++ g2) (by rw [call_of (gO (v:=.int r) (s1:=st ++ g) rfl (eh (v:=.loc d) (w:=.loc q) (s1:=st ++ g) (s2:=st ++ g) rfl rfl)),e]),List.append_assoc]
   rfl)
  (fun μ s hp => trivial)
  ⟨[],(List.append_nil st).symm,q,x14,rfl,hb⟩
 rw [Nat.zero_add,wt] at hd
 refine ⟨d,Fy,g,?_,hd⟩
 rw [fj,xu,eh (v:=.int 1) (w:=.int (c:Int)) (s1:=st) (s2:=st) rfl rfl,aw,DZ (by decide) (by decide) (by lia) (by lia),aG,gN,show ((c:Int) - 1).toNat = c - 1 by lia]
 exact e
theorem Iz {c:Int} (pZ:M.S.ps.length = 2) (hr:cf r = true) (h1:1 ≤ many) (h4:many ≤ 4) (H:Hd st M p q h p' q' A B) (hA:Dr many A) (hB:Dr many B) (hc:Cn B.length c) :
  ∃ av,mq M (ir r x2 x3 many mix p q x8 h x10 x11 x12 (some (.int c)) x14) st = .rt (.bl true) av:=by
 have lt:=Fx (m:=aa 13) (μ:=ir r x2 x3 many mix p q x8 h x10 x11 x12 (some (.int c)) x14) (s:=st) (o:=c) (j:=1) rfl
 unfold mq
 by_cases z:c < 1
 ·rw [decide_eq_true z] at lt
  obtain ⟨g,e⟩:=rj (M:=M) (q:=q') (st:=st) hr z
  have H1:=H.old g
  obtain ⟨g2,e2⟩:=rj (M:=M) (q:=q') (st:=st ++ g) hr z
  have l1:aq (bH M) (ae (aa 1) (ae (ai de (aa 9) (mC (.int 1))) (ae (aa 13) (ae (mC (.bl false)) ak)))) (ir r x2 x3 many mix p q x8 h x10 x11 x12 (some (.int c)) x14) st = .ok (.bl true) (st ++ g):=by
   rw [call_of (gO (v:=.int r) (s1:=st) rfl (gO (La H) (eh (v:=.int c) (w:=.bl false) (s1:=st) (s2:=st) rfl rfl))),y9 e]
  have l2:aq (bH M) (ae (aa 1) (ae (ai de (aa 9) (mC (.int 1))) (ae (aa 13) (ae (mC (.bl true)) ak)))) (ir r x2 x3 many mix p q x8 h x10 x11 x12 (some (.int c)) x14) (st ++ g) = .ok (.bl true) (st ++ g ++ g2):=by
   rw [call_of (gO (v:=.int r) (s1:=st ++ g) rfl (gO (La H1) (eh (v:=.int c) (w:=.bl true) (s1:=st ++ g) (s2:=st ++ g) rfl rfl))),y_ e2]
  refine ⟨st ++ g ++ g2,?_⟩
  rw [aA,iJ lt,bz,BK l1 l2,aG]
  rfl
 ·rw [decide_eq_false z] at lt
  obtain ⟨n,rfl⟩:∃ n:Nat,c = (n:Int):=⟨c.toNat,by lia⟩
  obtain ⟨d,Fy,g,e,hd⟩:=Cc (r:=r) (x2:=x2) (x3:=x3) (x8:=x8) (x11:=x11) (x12:=x12) (x14:=x14) (many:=many) (mix:=mix) (p:=p) (q:=q) (h:=h) hr h1 h4 hB H.b (by lia) hc
  obtain ⟨av,e2⟩:=Iy (r:=r) (x2:=x2) (x3:=x3) (x8:=x8) (x11:=x11) (x12:=x12) (x14:=Fy) (mix:=mix) pZ hr h1 h4 (H.old g) hA hB (by lia) hc hd
  refine ⟨av,?_⟩
  rw [aA,il lt,aB]
  unfold rn
  rw [aA,bF (v:=.loc q) (s1:=st) rfl,aB]
  unfold rm
  show aF _ _ (ir r x2 x3 many mix p q x8 h (some (.loc q)) x11 x12 (some (.int (n:Int))) x14) st = _
  rw [aA,e,aB,e2]
end
end tF
namespace tF
open PySem PySem.Spec L2 MN PG
open PyProof.Rows hiding St kindOf
theorem sO {ns:List Int} {s:ah} {μ:MN.Env} {k:Int} (h:itemsOf s 0 = some (ns.map Val.int)) (k0:0 ≤ k) (k1:k ≤ 1000):∃ o,aq PM.aL (ae (aa 0) (ae (mC (.int k)) ak)) (some (.loc 0) :: μ) s = .ok (.int o) s ∧ 0 ≤ o:=by
 obtain ⟨o,e,o0,_⟩:=sG h k0 (by lia)
 exact ⟨o,e,o0⟩
section
variable {r mix:Int} {x2 x3 x8 x10 x11 x12 x13 x14:Option Val} {many p q h p' q':Nat} {M:dC} {A B:List aW} {st:ah}
theorem rC {i j:Int} {μ:MN.Env} {n:Nat} {s:ah} (v:aa n μ s = .ok (.int mix) s) (hi:Dz i) (hj:¬ j = 0):ai bx (ai bh (aa n) (mC (.int i))) (mC (.int j)) μ s = .ok (.int ((mix.fdiv i).fmod j)) s:=kf (pk v hi) hj
theorem IA {m:ME} {μ:MN.Env} {s:ah} {o:Int} (h:m μ s = .ok (.int o) s):ai cg (mC (.int 1)) m μ s = .ok (.int (1 + o)) s:=by
 rw [bo (x:=.int 1) (s1:=s) rfl h,j9]
theorem Cd {n i j k:Int} {u:Int} (c:Int) {a:Int} (hi:Dz 7) (hj:¬ j = 0) (hk:Dz k) (hu:0 < u) (hb:st[q]? = some (.lst (B.map tV))) :
  ∃ c',gI (gK (b_ (ai ltV (aq d8 (ae (aa 7) ak)) (mC (.int n)))) (b_ (ai hZ (ai bx (ai bh (aa 5) (mC (.int 7))) (mC (.int j))) (mC (.int a))))) (aK 13 (ai cg (mC (.int 1)) (ai bx (ai bh (aa 5) (mC (.int k))) (mC (.int u))))) bG (ir r x2 x3 many mix p q x8 h x10 x11 x12 (some (.int c)) x14) st = .nx (ir r x2 x3 many mix p q x8 h x10 x11 x12 (some (.int c')) x14) st ∧ (c' = c ∨ ((B.length:Int) < n ∧ c' ≤ u)):=by
 have t1:=Fx (m:=aq d8 (ae (aa 7) ak)) (j:=n) (Cb (D:=B) (μ:=ir r x2 x3 many mix p q x8 h x10 x11 x12 (some (.int c)) x14) (m:=aa 7) (k:=q) (s:=st) rfl hb)
 have t2:b_ (ai hZ (ai bx (ai bh (aa 5) (mC (.int 7))) (mC (.int j))) (mC (.int a))) (ir r x2 x3 many mix p q x8 h x10 x11 x12 (some (.int c)) x14) st = .ok ((mix.fdiv 7).fmod j == a) st:=cG (q9 (rC (mix:=mix) rfl hi hj))
 have t:=Iv t1 t2
 have q1:=fM (m:=u) hu (mix.fdiv k)
 cases hz:(decide ((B.length:Int) < n) && ((mix.fdiv 7).fmod j == a)) with
 | false =>
  rw [hz] at t
  exact ⟨c,il t,.inl rfl⟩
 | true =>
  rw [hz] at t
  have vx:(B.length:Int) < n:=of_decide_eq_true (Bool.and_eq_true_iff.mp hz).1
  refine ⟨1 + (mix.fdiv k).fmod u,?_,.inr ⟨vx,by lia⟩⟩
  rw [iJ t,bF (IA (rC (mix:=mix) rfl hk (by lia)))]
  rfl
theorem IB (pZ:M.S.ps.length = 2) (hr:cf r = true) (h1:1 ≤ many) (h4:many ≤ 4) (H:Hd st M p q h p' q' A B) (hA:Dr many A) (hB:Dr many B) :
  ∃ av,mr M (ir r x2 x3 many mix p q x8 h x10 x11 x12 x13 x14) st = .rt (.bl true) av:=by
 have m7:=fM (m:=7) (by decide) mix
 have Ld:aK 13 (ai qc (ai bx (aa 5) (mC (.int 7))) (mC (.int 2))) (ir r x2 x3 many mix p q x8 h x10 x11 x12 x13 x14) st = .nx (ir r x2 x3 many mix p q x8 h x10 x11 x12 (some (.int (mix.fmod 7 - 2))) x14) st:=by
  rw [bF (v:=.int (mix.fmod 7 - 2)) (s1:=st) (by rw [bo (y:=.int 2) (s2:=st) (kf (o:=mix) (j:=7) (s1:=st) rfl (by decide)) rfl,v_])]
  rfl
 obtain ⟨c1,Le,q1⟩:=Cd (n:=2) (i:=7) (j:=2) (k:=14) (u:=30) (a:=1) (r:=r) (mix:=mix) (x2:=x2) (x3:=x3) (x8:=x8) (x10:=x10) (x11:=x11) (x12:=x12) (x14:=x14) (many:=many) (p:=p) (h:=h) (mix.fmod 7 - 2) (jj (by decide) (by decide)) (by decide) (jj (by decide) (by decide)) (by decide) H.b
 obtain ⟨c2,Lf,q2⟩:=Cd (n:=4) (i:=7) (j:=8) (k:=56) (u:=12) (a:=2) (r:=r) (mix:=mix) (x2:=x2) (x3:=x3) (x8:=x8) (x10:=x10) (x11:=x11) (x12:=x12) (x14:=x14) (many:=many) (p:=p) (h:=h) c1 (jj (by decide) (by decide)) (by decide) (jj (by decide) (by decide)) (by decide) H.b
 have fw:=hB.Ab
 obtain ⟨c3,Lg,hc⟩:∃ c3,gI (b_ (ai IS (aq d8 (ae (aa 7) ak)) (mC (.int 5)))) (aK 13 (aq BY (ae (aa 13) (ae (mC (.int 2)) ak)))) bG (ir r x2 x3 many mix p q x8 h x10 x11 x12 (some (.int c2)) x14) st = .nx (ir r x2 x3 many mix p q x8 h x10 x11 x12 (some (.int c3)) x14) st ∧ Cn B.length c3:=by
  have t:=Lc (m:=aq d8 (ae (aa 7) ak)) (j:=5) (Cb (D:=B) (μ:=ir r x2 x3 many mix p q x8 h x10 x11 x12 (some (.int c2)) x14) (m:=aa 7) (k:=q) (s:=st) rfl H.b)
  by_cases z:(B.length:Int) > 5
  ·rw [decide_eq_true z] at t
   refine ⟨if 2 < c2 then 2 else c2,?_,?_⟩
   ·rw [iJ t,bF (v:=.int (if 2 < c2 then 2 else c2)) (s1:=st) (by rw [call_of (eh (v:=.int c2) (w:=.int 2) (s1:=st) (s2:=st) rfl rfl),Iu])]
    rfl
   ·refine .inr (.inl ⟨?_,fw⟩)
    split <;> lia
  ·rw [decide_eq_false z] at t
   refine ⟨c2,il t,?_⟩
   unfold Cn
   lia
 obtain ⟨av,e⟩:=Iz (r:=r) (x2:=x2) (x3:=x3) (x8:=x8) (x10:=x10) (x11:=x11) (x12:=x12) (x14:=x14) (mix:=mix) pZ hr h1 h4 H hA hB hc
 refine ⟨av,?_⟩
 unfold mr
 rw [aA,Ld,aB]
 unfold rq
 rw [aA,Le,aB]
 unfold rp
 rw [aA,Lf,aB]
 unfold ro
 rw [aA,Lg,aB,e]
noncomputable abbrev E9 (r:Int) (x2 x3:Option Val) (many:Nat) (mix:Int) (p q:Nat) (x8:Option Val):MN.Env:=[some (.loc 0),some (.int r),x2,x3,some (.int (many:Int)),some (.int mix),some (.loc p),some (.loc q),x8,none,none,none,none,none,none]
theorem FA (pZ:M.S.ps.length = 2) (hr:cf r = true) (h1:1 ≤ many) (h4:many ≤ 4) (hA:Dr many A) (hB:Dr many B) (ha:st[p]? = some (.lst (A.map tV))) (hb:st[q]? = some (.lst (B.map tV))) (ht:fh st M.own M.line M.col M.S.qual) :
  ∃ av,pF M (E9 r x2 x3 many mix p q x8) st = .rt (.bl true) av:=by
 obtain ⟨s1,gm⟩:∃ s1,s1 = st ++ [Cell.lst (A.map tV)]:=⟨_,rfl⟩
 obtain ⟨s2,hR⟩:∃ s2,s2 = s1 ++ [Cell.lst (B.map tV)]:=⟨_,rfl⟩
 obtain ⟨s3,zC⟩:∃ s3,s3 = s2 ++ [Cell.lst [.loc st.length,.loc s1.length]]:=⟨_,rfl⟩
 have q1:s1[q]? = some (.lst (B.map tV)):=by rw [gm]; exact bT hb _
 have c1:aq jZ (ae (aa 6) ak) (E9 r x2 x3 many mix p q x8) st = .ok (.loc st.length) s1:=by
  rw [call_of (gA (v:=.loc p) (s1:=st) rfl),sF (d5 ha),gm]
 have c2:aq jZ (ae (aa 7) ak) (E9 r x2 x3 many mix p q x8) s1 = .ok (.loc s1.length) s2:=by
  rw [call_of (gA (v:=.loc q) (s1:=s1) rfl),sF (d5 q1),hR]
 have f9:aK 9 (fK (ae (aq jZ (ae (aa 6) ak)) (ae (aq jZ (ae (aa 7) ak)) ak))) (E9 r x2 x3 many mix p q x8) st = .nx (ir r x2 x3 many mix p q x8 s2.length none none none none none) s3:=by
  rw [bF (sJ (eh c1 c2) (by show 2 ≤ 1000; decide)),zC]; rfl
 have H:Hd s3 M p q s2.length st.length s1.length A B:=by
  refine ⟨?_,?_,?_,?_,?_,?_⟩
  ·rw [zC,hR,gm]; exact bT (bT (bT ha _) _) _
  ·rw [zC,hR]; exact bT (bT q1 _) _
  ·rw [zC]; exact g9 s2 [] _
  ·rw [zC,hR,gm]; exact bT (bT (g9 st [] _) _) _
  ·rw [zC,hR]; exact bT (g9 s1 [] _) _
  ·rw [zC,hR,gm]; exact cY (cY (cY ht _) _) _
 have mm:=hA.mul hB
 obtain ⟨g,d,ed,hd,kd⟩:=kO (r:=r) (st:=s3) (d5 H.a) (d5 H.b) h1 h4 hA.len hB.len mm.1 mm.2
 obtain ⟨s4,T4⟩:∃ s4,s4 = s3 ++ g:=⟨_,rfl⟩
 rw [← T4] at ed kd
 have H4:Hd s4 M p q s2.length st.length s1.length A B:=by rw [T4]; exact H.old g
 have Lh:aK 10 (aq PM.cR (ae (aa 1) (ae (aa 6) (ae (aa 7) ak)))) (ir r x2 x3 many mix p q x8 s2.length none none none none none) s3 = .nx (ir r x2 x3 many mix p q x8 s2.length (some (.loc d)) none none none none) s4:=by
  rw [bF (v:=.loc d) (s1:=s4) (by rw [call_of (gO (v:=.int r) (s1:=s3) rfl (eh (v:=.loc p) (w:=.loc q) (s1:=s3) (s2:=s3) rfl rfl)),ed])]
  rfl
 have nb:=wx (r:=r) (many:=many) (b:=320) (P:=cB A B) hr (by rw [gD]; exact mm.2) (fun t ht => by
  obtain ⟨a,ha,c,hc,rfl⟩:=iq ht
  exact jF (hA.len a ha) (hB.len c hc)) (fun t ht => by
  obtain ⟨a,ha,c,hc,rfl⟩:=iq ht
  exact (hA.big a ha).mul (hB.big c hc)) (by decide)
 have nl:(tD r (cB A B)).length < 1000000:=by
  refine Nat.lt_of_le_of_lt (wu _) ?_
  rw [gD]; exact mm.2
 obtain ⟨CB,y8,g5,V0⟩:=turns (r:=r) (x2:=x2) (x3:=x3) (x8:=x8) (x11:=none) (x12:=none) (x13:=none) (x14:=none) (many:=many) (mix:=mix) (p:=p) (q:=q) (h:=s2.length) (st:=s4) (F:=aq PM.times (ae (aa 1) (ae (ai de (aa 9) (mC (.int 0))) (ae (ai de (aa 9) (mC (.int 1))) ak)))) (D:=tD r (cB A B)) (d:=d) (fun g x11 x12 => by
   have H1:=H4.old g
   obtain ⟨g2,k,e,hk,ek⟩:=Ca (r:=r) (many:=many) (st:=s4 ++ g) hr (d5 H1.d) (d5 H1.e) h1 h4 hA.len hB.len mm.1 mm.2
   refine ⟨k,g2,?_,hk,ek⟩
   rw [call_of (gO (v:=.int r) (s1:=s4 ++ g) rfl (eh (TY H1) (La H1))),e]) kd nl (fun t ht => by rw [(nb t ht).1]; lia)
 obtain ⟨av,e⟩:=IB (r:=r) (x2:=x2) (x3:=x3) (x8:=x8) (x10:=some (.loc d)) (x11:=CB) (x12:=y8) (x13:=none) (x14:=none) (mix:=mix) pZ hr h1 h4 (H4.old g5) hA hB
 refine ⟨av,?_⟩
 unfold pF
 rw [aA,f9,aB]
 unfold rB
 rw [aA,Lh,aB]
 unfold rA
 rw [aA,V0,aB,e]
theorem FC (pZ:M.S.ps.length = 2) (hr:cf r = true) (h1:1 ≤ many) (h4:many ≤ 4) (hA:Dr many A) (hB:Dr many B) (ha:st[p]? = some (.lst (A.map tV))) (hb:st[q]? = some (.lst (B.map tV))) (ht:fh st M.own M.line M.col M.S.qual) :
  ∃ av,pG M (E9 r x2 x3 many mix p q x8) st = .rt (.bl true) av:=by
 have wb:b_ (ai hZ (ai bx (ai bh (aa 5) (mC (.int 3))) (mC (.int 2))) (mC (.int 1))) (E9 r x2 x3 many mix p q x8) st = .ok ((mix.fdiv 3).fmod 2 == 1) st:=cG (q9 (rC (mix:=mix) rfl (jj (by decide) (by decide)) (by decide)))
 unfold pG
 cases hz:(mix.fdiv 3).fmod 2 == 1 with
 | false =>
  rw [hz] at wb
  obtain ⟨av,e⟩:=FA (x2:=x2) (x3:=x3) (x8:=x8) (mix:=mix) pZ hr h1 h4 hA hB ha hb ht
  exact ⟨av,by rw [aA,il wb,aB,e]⟩
 | true =>
  rw [hz] at wb
  obtain ⟨av,e⟩:=FA (x2:=x2) (x3:=x3) (x8:=x8) (mix:=mix) pZ hr h1 h4 hB hA hb ha ht
  have sw:Il 6 7 (ae (aa 7) (ae (aa 6) ak)) (E9 r x2 x3 many mix p q x8) st = .nx (E9 r x2 x3 many mix q p x8) st:=rfl
  exact ⟨av,by rw [aA,iJ wb,sw,aB,e]⟩
theorem Li {third:Int} (pZ:M.S.ps.length = 2) (hr:cf r = true) (h1:1 ≤ many) (h4:many ≤ 4) (m0:0 ≤ mix) (hA:Dr many A) (hB:Dr many B) (ha:st[p]? = some (.lst (A.map tV))) (hb:st[q]? = some (.lst (B.map tV))) (ht:fh st M.own M.line M.col M.S.qual) :
  ∃ av,pH M (E9 r x2 (some (.int third)) many mix p q none) st = .rt (.bl true) av:=by
 obtain ⟨μ,hμ⟩:∃ μ:MN.Env,μ = E9 r x2 (some (.int third)) many mix p q none:=⟨_,rfl⟩
 have wb:b_ (ai hZ (ai bx (ai bh (aa 3) (mC (.int 6))) (mC (.int 8))) (mC (.int 1))) μ st = .ok ((third.fdiv 6).fmod 8 == 1) st:=cG (q9 (rC (mix:=third) (by rw [hμ]; rfl) (jj (by decide) (by decide)) (by decide)))
 unfold pH
 cases hz:(third.fdiv 6).fmod 8 == 1 with
 | false =>
  rw [hz] at wb
  obtain ⟨av,e⟩:=FC (x2:=x2) (x3:=some (.int third)) (x8:=none) (mix:=mix) pZ hr h1 h4 hA hB ha hb ht
  exact ⟨av,by rw [← hμ,aA,il wb,aB,hμ,e]⟩
 | true =>
  rw [hz] at wb
  have qs:=fM (m:=41) (by decide) (third.fdiv 48)
  obtain ⟨size,hsz⟩:∃ size:Nat,(size:Int) = (third.fdiv 48).fmod 41:=⟨((third.fdiv 48).fmod 41).toNat,by lia⟩
  have md:ai bx (ai bh (aa 3) (mC (.int 48))) (mC (.int 41)) μ st = .ok (.int (size:Int)) st:=by
   rw [hsz]; exact rC (mix:=third) (by rw [hμ]; rfl) (jj (by decide) (by decide)) (by decide)
  obtain ⟨g,k,L,ec,hk,lL,hL⟩:=Ir (many:=many) (mix:=mix) [4,5] md (by lia) (by rw [hμ]; rfl) m0 h4
  obtain ⟨μ3,EL⟩:∃ μ3:MN.Env,μ3 = E9 r x2 (some (.int third)) many mix p q (some (.loc k)):=⟨_,rfl⟩
  have f8:aK 8 (cO 1 [4,5] (bJ (ae (ai bx (ai bh (aa 3) (mC (.int 48))) (mC (.int 41))) ak)) (aName 0) cj K3) μ st = .nx μ3 (st ++ g):=by rw [bF ec,hμ,EL]; rfl
  obtain ⟨c1,c2,eg,ag⟩:=Fw (r:=r) (a:=aa 1) (m:=aa 8) (μ:=μ3) (s:=st ++ g) (s1:=st ++ g) (k:=k) (L:=L) (by rw [EL]; rfl) (by rw [EL]; rfl) (d5 hk) (by lia) (fun t ht => sM h1 (hL t ht).1.len)
  obtain ⟨s5,OP⟩:∃ s5,s5 = st ++ g ++ [c1,Cell.lst ((dZ r (cm L)).map tV),c2]:=⟨_,rfl⟩
  rw [← OP] at eg ag
  have t5:fh s5 M.own M.line M.col M.S.qual:=by rw [OP]; exact cY (cY ht _) _
  have b5:s5[q]? = some (.lst (B.map tV)):=by rw [OP]; exact bT (bT hb _) _
  obtain ⟨av,e⟩:=FC (x2:=x2) (x3:=some (.int third)) (x8:=some (.loc k)) (mix:=mix) pZ hr h1 h4 (Dr.of hr (by lia) hL) hB ag b5 t5
  have f6:=bF (i:=6) eg
  refine ⟨av,?_⟩
  rw [← hμ,aA,iJ wb,aA]
  show ((((aK 8 (cO 1 [4,5] (bJ (ae (ai bx (ai bh (aa 3) (mC (.int 48))) (mC (.int 41))) ak)) (aName 0) cj K3) μ st).c_ _)).c_ _) = _
  rw [f8,aB,f6,aB,EL]
  exact e
end
theorem Ce {r:Int} {ns:List Int} {place:Int} {many size:Nat} {s:ah} {μ:MN.Env} {m:ME} (hr:cf r = true) (h0:aa 0 μ s = .ok (.loc 0) s) (V1:aa 1 μ s = .ok (.int r) s) (V2:aa 4 μ s = .ok (.int (many:Int)) s) (md:m μ s = .ok (.int (size:Int)) s) (hi:itemsOf s 0 = some (ns.map Val.int)) (h1:1 ≤ many) (h4:many ≤ 4) (hz:size ≤ 40) (XO:0 ≤ place) (hp:place ≤ 100) :
  ∃ g k L,aq PM.ba (ae (aa 1) (ae (aq PM.dI (ae (aa 0) (ae (mC (.int place)) (ae (aa 4) (ae m ak))))) ak)) μ s = .ok (.loc k) (s ++ g) ∧ (s ++ g)[k]? = some (.lst (L.map tV)) ∧ Dr many L:=by
 obtain ⟨g5,L,e5,lL,hL⟩:=sL (many:=many) (size:=size) (place:=place) hi (by lia) (by lia) h4 (by lia)
 have w5:aq PM.dI (ae (aa 0) (ae (mC (.int place)) (ae (aa 4) (ae m ak)))) μ s = .ok (.loc s.length) (s ++ .lst (L.map tV) :: g5):=by
  rw [call_of (gO h0 (gO (v:=.int place) (s1:=s) rfl (eh V2 md))),e5]
 obtain ⟨c1,c2,eg,ag⟩:=Fw (r:=r) (a:=aa 1) (L:=L) V1 w5 (d5 (g9 s g5 _)) (by lia) (fun t ht => sM h1 (hL t ht).1.len)
 refine ⟨(.lst (L.map tV) :: g5) ++ [c1,Cell.lst ((dZ r (cm L)).map tV),c2],(s ++ Cell.lst (L.map tV) :: g5).length + 1,dZ r (cm L),?_,?_,Dr.of hr (by lia) hL⟩
 ·rw [← List.append_assoc]; exact eg
 ·rw [← List.append_assoc]; exact ag
theorem Cf (M:dC) (pZ:M.S.ps.length = 2):∀ (c:Cell) (ns:List Int),ns.length ≤ 63 → itemsOf [c,.tab M.own M.line M.col M.S.qual] 0 = some (ns.map Val.int) → ∃ av,vd M [.loc 0] [c,.tab M.own M.line M.col M.S.qual] = .ok (.bl true) av:=by
 intro c ns hl hi
 have T5:fh [c,.tab M.own M.line M.col M.S.qual] M.own M.line M.col M.S.qual:=⟨1,rfl⟩
 obtain ⟨s,hs⟩:∃ s,[c,Cell.tab M.own M.line M.col M.S.qual] = s:=⟨_,rfl⟩
 rw [hs] at hi T5 ⊢
 clear hs
 obtain ⟨o,eo,o0⟩:=sO (μ:=[none,none,none,none,none,none,none,none,none,none,none,none,none,none]) (k:=0) hi (by decide) (by decide)
 obtain ⟨g,r,er,hr⟩:=HS o0 s
 have OQ:cf r = true:=by
  rcases hr with rfl | h
  ·rfl
  ·exact Bi h
 obtain ⟨s1,gm⟩:∃ s1,s1 = s ++ g:=⟨_,rfl⟩
 rw [← gm] at er
 have i1:itemsOf s1 0 = some (ns.map Val.int):=by rw [gm]; exact aO hi _
 have OO:fh s1 M.own M.line M.col M.S.qual:=by rw [gm]; exact cY T5 _
 have x1:aK 1 (aq PM.gu (ae (aq PM.aL (ae (aa 0) (ae (mC (.int 0)) ak))) ak)) [some (.loc 0),none,none,none,none,none,none,none,none,none,none,none,none,none,none] s = .nx [some (.loc 0),some (.int r),none,none,none,none,none,none,none,none,none,none,none,none,none] s1:=by
  refine bF (v:=.int r) ?_
  rw [call_of (gA eo),er]
 obtain ⟨sec,e2,XQ⟩:=sO (μ:=[some (.int r),none,none,none,none,none,none,none,none,none,none,none,none,none]) (k:=1) i1 (by decide) (by decide)
 have x2:aK 2 (aq PM.aL (ae (aa 0) (ae (mC (.int 1)) ak))) [some (.loc 0),some (.int r),none,none,none,none,none,none,none,none,none,none,none,none,none] s1 = .nx [some (.loc 0),some (.int r),some (.int sec),none,none,none,none,none,none,none,none,none,none,none,none] s1:=bF e2
 obtain ⟨zd,e3,XR⟩:=sO (μ:=[some (.int r),some (.int sec),none,none,none,none,none,none,none,none,none,none,none,none]) (k:=2) i1 (by decide) (by decide)
 have x3:aK 3 (aq PM.aL (ae (aa 0) (ae (mC (.int 2)) ak))) [some (.loc 0),some (.int r),some (.int sec),none,none,none,none,none,none,none,none,none,none,none,none] s1 = .nx [some (.loc 0),some (.int r),some (.int sec),some (.int zd),none,none,none,none,none,none,none,none,none,none,none] s1:=bF e3
 have q4:=fM (m:=4) (by decide) sec
 obtain ⟨many,Lj⟩:∃ many:Nat,(many:Int) = 1 + sec.fmod 4:=⟨(1 + sec.fmod 4).toNat,by lia⟩
 have x4:aK 4 (ai cg (mC (.int 1)) (ai bx (aa 2) (mC (.int 4)))) [some (.loc 0),some (.int r),some (.int sec),some (.int zd),none,none,none,none,none,none,none,none,none,none,none] s1 = .nx [some (.loc 0),some (.int r),some (.int sec),some (.int zd),some (.int (many:Int)),none,none,none,none,none,none,none,none,none,none] s1:=by
  refine bF (v:=.int (many:Int)) ?_
  rw [bo (x:=.int 1) (s1:=s1) rfl (kf (o:=sec) (s1:=s1) rfl (by decide)),Lj]; rfl
 have h1:1 ≤ many:=by lia
 have h4:many ≤ 4:=by lia
 obtain ⟨mix,e5,m0⟩:=sO (μ:=[some (.int r),some (.int sec),some (.int zd),some (.int (many:Int)),none,none,none,none,none,none,none,none,none,none]) (k:=3) i1 (by decide) (by decide)
 obtain ⟨μ5,zg⟩:∃ μ5:MN.Env,μ5 = [some (.loc 0),some (.int r),some (.int sec),some (.int zd),some (.int (many:Int)),some (.int mix),none,none,none,none,none,none,none,none,none]:=⟨_,rfl⟩
 have x5:aK 5 (aq PM.aL (ae (aa 0) (ae (mC (.int 3)) ak))) [some (.loc 0),some (.int r),some (.int sec),some (.int zd),some (.int (many:Int)),none,none,none,none,none,none,none,none,none,none] s1 = .nx μ5 s1:=by rw [zg]; exact bF e5
 have q5:=fM (m:=6) (by decide) (sec.fdiv 4)
 obtain ⟨z1,V3⟩:∃ z:Nat,(z:Int) = (sec.fdiv 4).fmod 6:=⟨((sec.fdiv 4).fmod 6).toNat,by lia⟩
 obtain ⟨g6,p,A,e6,hp,hA⟩:=Ce (place:=4) (size:=z1) (m:=ai bx (ai bh (aa 2) (mC (.int 4))) (mC (.int 6))) (μ:=μ5) (many:=many) OQ (by rw [zg]; rfl) (by rw [zg]; rfl) (by rw [zg]; rfl) (by rw [V3]; exact rC (mix:=sec) (by rw [zg]; rfl) (jj (by decide) (by decide)) (by decide)) i1 h1 h4 (by lia) (by decide) (by decide)
 obtain ⟨s6,OR⟩:∃ s6,s6 = s1 ++ g6:=⟨_,rfl⟩
 rw [← OR] at e6 hp
 have i6:itemsOf s6 0 = some (ns.map Val.int):=by rw [OR]; exact aO i1 _
 have V4:fh s6 M.own M.line M.col M.S.qual:=by rw [OR]; exact cY OO _
 obtain ⟨μ6,zh⟩:∃ μ6:MN.Env,μ6 = [some (.loc 0),some (.int r),some (.int sec),some (.int zd),some (.int (many:Int)),some (.int mix),some (.loc p),none,none,none,none,none,none,none,none]:=⟨_,rfl⟩
 have x6:aK 6 (aq PM.ba (ae (aa 1) (ae (aq PM.dI (ae (aa 0) (ae (mC (.int 4)) (ae (aa 4) (ae (ai bx (ai bh (aa 2) (mC (.int 4))) (mC (.int 6))) ak))))) ak))) μ5 s1 = .nx μ6 s6:=by
  rw [bF e6,zg,zh]; rfl
 have q6:=fM (m:=6) (by decide) zd
 obtain ⟨z2,V5⟩:∃ z:Nat,(z:Int) = zd.fmod 6:=⟨(zd.fmod 6).toNat,by lia⟩
 obtain ⟨g7,q,B,e7,hq,hB⟩:=Ce (place:=16) (size:=z2) (m:=ai bx (aa 3) (mC (.int 6))) (μ:=μ6) (many:=many) OQ (by rw [zh]; rfl) (by rw [zh]; rfl) (by rw [zh]; rfl) (by rw [V5]; exact kf (o:=zd) (by rw [zh]; rfl) (by decide)) i6 h1 h4 (by lia) (by decide) (by decide)
 obtain ⟨s7,OS⟩:∃ s7,s7 = s6 ++ g7:=⟨_,rfl⟩
 rw [← OS] at e7 hq
 have V6:fh s7 M.own M.line M.col M.S.qual:=by rw [OS]; exact cY V4 _
 have V7:s7[p]? = some (.lst (A.map tV)):=by rw [OS]; exact bT hp _
 have x7:aK 7 (aq PM.ba (ae (aa 1) (ae (aq PM.dI (ae (aa 0) (ae (mC (.int 16)) (ae (aa 4) (ae (ai bx (aa 3) (mC (.int 6))) ak))))) ak))) μ6 s6 = .nx (E9 r (some (.int sec)) (some (.int zd)) many mix p q none) s7:=by
  rw [bF e7,zh]; rfl
 obtain ⟨av,e⟩:=Li (x2:=some (.int sec)) (third:=zd) (mix:=mix) pZ OQ h1 h4 m0 hA hB V7 hq V6
 refine ⟨av,?_⟩
 unfold vd
 rw [bZ (np:=1) (us:=[Val.loc 0]) rfl]
 show (aF _ (pI M) [some (.loc 0),none,none,none,none,none,none,none,none,none,none,none,none,none,none] s).fin = _
 rw [aA,x1,aB]
 unfold pI
 rw [aA,x2,aB]
 unfold vc
 rw [aA,x3,aB]
 unfold u_
 rw [aA,x4,aB]
 unfold u9
 rw [aA,x5,aB]
 unfold u7
 rw [aA,x6,aB]
 unfold u6
 rw [aA,x7,aB,e]
 rfl
end tF
namespace tF
open PySem PySem.Spec L2 MN
open PyProof.Rows hiding St
noncomputable def top (i:Nat):Stmt:=PySem.Challenge.pw_polyring_k07_products.main.body.getD i (.Pass ⟨0,0,0,0⟩)
structure Txt (K:PySem.W.Frag) (mg:Str → Option Value):Prop where
 sP:mg "ValueError" = none
 Lk:mg "all" = none
 Cg:mg "bool" = none
 FD:mg "int" = none
 cT:mg "isinstance" = none
 kP:mg "len" = none
 sQ:mg "list" = none
 Ll:mg "min" = none
 fu:mg "range" = none
 ve:mg "sorted" = none
 kQ:mg "tuple" = none
 Lm:mg "zip" = none
 vg:Glob K mg "MOST_RING" (.int 997)
 jq:Glob K mg "FIRST_PRIMES" PM.fi
 pJ:vX K mg "AlgebraError"
 Ci:vX K mg "NoRing"
 rD:vX K mg "NoCount"
 sub:fC K mg tab
 kn:Known mg (IW kn)
theorem aJ {X:Cx} {E:XK} {e:Expr} {m:ME} {i:Nat} {x:Str} {pos pos':Pos} (hN:X.N.Nodup) (he:PE X e (tE X E m)) (hi:X.N[i]? = some x:=by rfl) (hx:Loc X.env.scope x:=by first | exact Or.inl rfl | exact Or.inr rfl) (hs:swapsWith e (some (.Name x pos')) pos.line X.env = pure false:=by rfl) (hf:X.fn x = true ∨ X.env.scope.names.lookup x = some .local:=by first | exact .inl rfl | exact .inr rfl | assumption):PS X (.Assign [.Name x pos'] e pos) (tS X E (aK i m)):=Ha i hN he hi hx hs hf
section
variable {P:Program} {w:World} {K:PySem.W.Frag} {mg:Str → Option Value} {base:Heap}
theorem vh:aR ["thing"] ["thing"] (ao (top 7)):=⟨rfl,rfl,rfl,by decide +kernel,rfl,by decide +kernel,by decide +kernel⟩
theorem vi {f:Addr} {fd:FuncData} (F:i5 K "is_whole" "is_whole" (top 7) f fd) (hm:mg "is_whole" = some (.ref f)) (T:Txt K mg) :FnAt P w K mg base "is_whole" 1 PM.dD :=
 FnAt.mk F hm vh (fun _ _ _ _ _ _ => su fun _ => rfl) fun da A outer s H E hr =>
  by
   refine aC ?_
   refine aX ?_
   refine oJ ?_ ?_
   ·refine j4 uj (by rfl) T.cT (by rfl) T.FD PyProof.Rows.boot_int ?_
    exact (af 0)
   refine lI ?_
   refine vQ ?_
   refine j4 qH (by rfl) T.cT (by rfl) T.Cg PyProof.Rows.boot_bool ?_
   exact (af 0)
theorem jr:(["prime","number"]:List Str).Nodup:=by decide +kernel
theorem kg:aR ["number"] ["number"] (ao (top 8)):=⟨rfl,rfl,rfl,by decide +kernel,rfl,by decide +kernel,by decide +kernel⟩
theorem kh {f:Addr} {fd:FuncData} (F:i5 K "is_prime_within" "is_prime_within" (top 8) f fd) (hm:mg "is_prime_within" = some (.ref f)) (T:Txt K mg) :FnAt P w K mg base "is_prime_within" 1 PM.bL :=
 FnAt.mk F hm kg (fun _ _ _ _ _ _ => su fun _ => rfl) fun da A outer s H E hr =>
  by
   refine az ?_ ?_
   ·refine dM ?_ ?_ cq
    ·refine bE ?_ ?_ ?_
     ·exact Hg
     ·exact (af 0)
     exact (r_ (by rfl) T.jq)
    refine aC ?_
    exact (aX kr)
   refine az ?_ ?_
   ·refine dM ?_ ?_ cq
    ·refine sf ?_
     refine qF ?_ ?_
     ·refine bE ?_ ?_ au
      ·exact jX
      exact (af 0)
     refine oK ?_
     refine bE ?_ ?_ ?_
     ·exact AB
     ·exact (af 0)
     exact (r_ (by rfl) T.vg)
    refine aC ?_
    exact (aX kr)
   refine aC ?_
   refine aX ?_
   refine dP ?_ (by rfl) T.Lk PyProof.Rows.boot_all ?_
   ·exact (yz hr.hd)
   refine aj ?_ ax
   refine iF (N:=["prime","number"]) (k:=1) rfl rfl (oU (cl:=[("number",s.heap.objs.size + 1)]) (caps:=[0]) (by rfl) (.cons (c:=s.heap.objs.size + 1) (by rfl) (by rfl) (by first | exact Or.inl rfl | exact Or.inr rfl) (by first | exact Or.inl rfl | exact Or.inr rfl) .nil) (by rfl) (by rfl) (by rfl) (by rfl) (by rfl) (by rfl)) ?_ (fun _ _ _ _ => ?_) (fun _ _ _ _ => jy) (fun _ _ _ _ => ?_)
   ·refine gs ?_
    exact (r_ (by rfl) T.jq)
   ·exact (bj 0 jr)
   refine vP ?_ ?_ au
   ·exact (jY hr.units)
   refine ay ?_ ?_ ?_
   ·exact aY
   ·exact (af 1)
   exact (af 0)
theorem nB:aR ["ring","number"] ["ring","number"] (ao (top 11)):=⟨rfl,rfl,rfl,by decide +kernel,rfl,by decide +kernel,by decide +kernel⟩
theorem nC {f:Addr} {fd:FuncData} (F:i5 K "rest_in_ring" "rest_in_ring" (top 11) f fd) (hm:mg "rest_in_ring" = some (.ref f)) (T:Txt K mg) :FnAt P w K mg base "rest_in_ring" 1 PM.bC :=
 FnAt.mk F hm nB (fun _ _ _ _ _ _ => oW fun _ _ => rfl) fun da A outer s H E hr =>
  by
   refine aC ?_
   refine aX ?_
   refine Kg ?_ ?_ ?_
   ·refine bE ?_ ?_ au
    ·exact (d4 hr.units)
    exact (af 0)
   ·exact (af 1)
   refine ay ?_ ?_ ?_
   ·exact aY
   ·exact (af 1)
   exact (af 0)
theorem zi:aR ["totals","exponents","number"] ["totals","exponents","number"] (ao (top 14)):=⟨rfl,rfl,rfl,by decide +kernel,rfl,by decide +kernel,by decide +kernel⟩
theorem zj {f:Addr} {fd:FuncData} (F:i5 K "add_to" "add_to" (top 14) f fd) (hm:mg "add_to" = some (.ref f)) (T:Txt K mg) :FnAt P w K mg base "add_to" 1 PM.lY :=
 FnAt.mk F hm zi (fun _ _ _ _ _ _ => vZ fun _ _ _ => rfl) fun da A outer s H E hr =>
  by
   refine aC ?_
   refine xp hr.units ?_ ?_ ?_
   ·exact (af 0)
   ·exact (af 1)
   refine ay ?_ ?_ ?_
   ·exact cu
   ·refine uz hr.units ?_ ?_ au
    ·exact (af 0)
    exact (af 1)
   exact (af 2)
theorem m_:(["one","other"]:List Str).Nodup:=by decide +kernel
theorem zo:aR ["exponents","others"] ["exponents","others"] (ao (top 19)):=⟨rfl,rfl,rfl,by decide +kernel,rfl,by decide +kernel,by decide +kernel⟩
theorem zq {f:Addr} {fd:FuncData} (F:i5 K "joined" "joined" (top 19) f fd) (hm:mg "joined" = some (.ref f)) (T:Txt K mg) :FnAt P w K mg base "joined" 1 PM.joined :=
 FnAt.mk F hm zo (fun _ _ _ _ _ _ => oW fun _ _ => rfl) fun da A outer s H E hr =>
  by
   refine aC ?_
   refine aX ?_
   refine gi ?_ (by rfl) T.kQ PyProof.Rows.boot_tuple ?_
   ·exact lM
   refine aj ?_ ax
   refine iF (N:=["one","other"]) (k:=2) rfl rfl (oU (cl:=[]) (caps:=[]) (by rfl) .nil (by rfl) (by rfl) (by rfl) (by rfl) (by rfl) (by rfl)) ?_ (fun _ _ _ _ => ?_) (fun _ _ _ _ => jy) (fun _ _ _ _ => ?_)
   ·refine Hj false false (by rfl) T.Lm ?_
    refine aj ?_ ?_
    ·exact (af 0)
    refine aj ?_ ax
    exact (af 1)
   ·refine sg rfl ?_
    refine fL ?_ ?_
    ·exact (bj 0 m_)
    refine fL ?_ nW
    exact (bj 1 m_)
   refine ay ?_ ?_ ?_
   ·exact cu
   ·exact (af 0)
   exact (af 1)
theorem qd:aR ["_law_found"] ["_law_found"] (ao (top 22)):=⟨rfl,rfl,rfl,by decide +kernel,rfl,by decide +kernel,by decide +kernel⟩
theorem qe {f:Addr} {fd:FuncData} (F:i5 K "_law_whole" "_law_whole" (top 22) f fd) (hm:mg "_law_whole" = some (.ref f)) (T:Txt K mg) :FnAt P w K mg base "_law_whole" 1 PM.e9 :=
 FnAt.mk F hm qd (fun _ _ _ _ _ _ => su fun _ => rfl) fun da A outer s H E hr =>
  by
   refine aC ?_
   refine aX ?_
   refine oJ ?_ ?_
   ·refine j4 uj (by rfl) T.cT (by rfl) T.FD PyProof.Rows.boot_int ?_
    exact (af 0)
   refine lI ?_
   refine vQ ?_
   refine j4 qH (by rfl) T.cT (by rfl) T.Cg PyProof.Rows.boot_bool ?_
   exact (af 0)
theorem bN:aR ["_law_script","_law_k","_law_cell","_law_one","_law_found","_law_turn"] ["_law_script","_law_k"] (ao (top 23)):=⟨rfl,rfl,rfl,by decide +kernel,rfl,by decide +kernel,by decide +kernel⟩
theorem nE {f:Addr} {fd:FuncData} (F:i5 K "_law_cell_at" "_law_cell_at" (top 23) f fd) (hm:mg "_law_cell_at" = some (.ref f)) (T:Txt K mg) :FnAt P w K mg base "_law_cell_at" 1 PM.aL :=
 FnAt.mk F hm bN (fun _ _ _ _ _ _ => oW fun _ _ => rfl) fun da A outer s H E hr =>
  by
   refine az ?_ ?_
   ·refine aJ ?_ ?_
    ·exact bN.nd
    exact au
   refine az ?_ ?_
   ·refine dM ?_ ?_ cq
    ·refine bE ?_ ?_ ?_
     ·exact jX
     ·exact (af 1)
     refine dP ?_ (by rfl) T.kP PySem.boot_len ?_
     ·exact dU
     refine aj ?_ ax
     exact (af 0)
    refine aC ?_
    refine aJ ?_ ?_
    ·exact bN.nd
    refine bP ?_ ?_
    ·exact (af 0)
    exact (af 1)
   refine az ?_ ?_
   ·refine aJ ?_ ?_
    ·exact bN.nd
    refine ay ?_ ?_ au
    ·exact aY
    refine ay ?_ ?_ au
    ·exact cu
    refine ay ?_ ?_ ?_
    ·exact cu
    ·refine ay ?_ ?_ ?_
     ·exact cu
     ·refine ay ?_ ?_ au
      ·exact dy
      exact (af 2)
     refine ay ?_ ?_ ?_
     ·exact dy
     ·refine ay ?_ au ?_
      ·exact dy
      exact (af 1)
     exact (af 1)
    refine ay ?_ au ?_
    ·exact dy
    exact (af 1)
   refine az ?_ ?_
   ·refine aJ ?_ ?_
    ·exact bN.nd
    exact au
   refine az ?_ ?_
   ·refine fg cD rfl ?_ ?_ ?_
    ·refine eZ (by rfl) T.fu ?_
     exact (cV ax)
    ·exact (bj 5 bN.nd)
    refine az ?_ ?_
    ·refine aJ ?_ ?_
     ·exact bN.nd
     refine ay ?_ ?_ au
     ·exact aY
     refine ay ?_ ?_ ?_
     ·exact cu
     ·refine ay ?_ ?_ au
      ·exact dy
      refine ay ?_ ?_ au
      ·exact aY
      refine ay ?_ ?_ ?_
      ·exact dy
      ·exact (af 3)
      exact (af 3)
     exact (af 5)
    refine aC ?_
    refine aJ ?_ ?_
    ·exact bN.nd
    refine ay ?_ ?_ ?_
    ·exact cu
    ·refine ay ?_ ?_ au
     ·exact dy
     exact (af 4)
    exact (af 3)
   refine aC ?_
   refine aX ?_
   exact (af 4)
theorem pK:(["_law_by","_law_number_here"]:List Str).Nodup:=by decide +kernel
theorem g_:aR ["_law_cell","_law_number_here"] ["_law_cell"] (ao (top 24)):=⟨rfl,rfl,rfl,by decide +kernel,rfl,by decide +kernel,by decide +kernel⟩
theorem qf {f:Addr} {fd:FuncData} (F:i5 K "_law_prime" "_law_prime" (top 24) f fd) (hm:mg "_law_prime" = some (.ref f)) (T:Txt K mg) :FnAt P w K mg base "_law_prime" 1 PM.gk :=
 FnAt.mk F hm g_ (fun _ _ _ _ _ _ => su fun _ => rfl) fun da A outer s H E hr =>
  by
   refine az ?_ ?_
   ·refine dM ?_ ?_ cq
    ·refine bE ?_ ?_ au
     ·exact (d4 hr.units)
     refine ay ?_ ?_ au
     ·exact aY
     exact (af 0)
    refine aC ?_
    refine aX ?_
    refine bP ?_ ?_
    ·refine je ?_
     refine cV ?_
     refine cV ?_
     refine cV ?_
     refine cV ?_
     refine cV ?_
     exact (cV ax)
    refine ay ?_ ?_ au
    ·exact aY
    refine ay ?_ ?_ au
    ·exact bI
    exact (af 0)
   refine az ?_ ?_
   ·refine aJ ?_ ?_
    ·exact g_.nd
    refine ay ?_ au ?_
    ·exact cu
    refine ay ?_ ?_ au
    ·exact aY
    refine ay ?_ ?_ au
    ·exact bI
    exact (af 0)
   refine az ?_ ?_
   ·refine AL cD ?_ ?_
    ·refine bE ?_ ?_ ?_
     ·exact (jY hr.units)
     ·refine iF (N:=["_law_by","_law_number_here"]) (k:=1) rfl rfl (oU (cl:=[("_law_number_here",s.heap.objs.size + 1)]) (caps:=[1]) (by rfl) (.cons (c:=s.heap.objs.size + 1) (by rfl) (by rfl) (by first | exact Or.inl rfl | exact Or.inr rfl) (by first | exact Or.inl rfl | exact Or.inr rfl) .nil) (by rfl) (by rfl) (by rfl) (by rfl) (by rfl) (by rfl)) ?_ (fun _ _ _ _ => ?_) (fun _ _ _ _ => ?_) (fun _ _ _ _ => ?_)
      ·refine qK (by rfl) T.fu ?_
       refine cV ?_
       exact (cV ax)
      ·exact (bj 0 pK)
      ·refine sh ?_
       refine sf ?_
       refine sd ?_ ?_
       ·refine bE ?_ ?_ ?_
        ·exact jX
        ·exact (af 0)
        exact (af 1)
       refine nS ?_
       refine bE ?_ ?_ au
       ·exact (d4 hr.units)
       refine ay ?_ ?_ ?_
       ·exact aY
       ·exact (af 1)
       exact (af 0)
      exact (af 0)
     exact (je ax)
    refine aC ?_
    refine aJ ?_ ?_
    ·exact g_.nd
    refine ay ?_ ?_ au
    ·exact cu
    exact (af 1)
   refine aC ?_
   refine aX ?_
   exact (af 1)
theorem nF:aR ["_law_ring_here","_law_number_here"] ["_law_ring_here","_law_number_here"] (ao (top 26)):=⟨rfl,rfl,rfl,by decide +kernel,rfl,by decide +kernel,by decide +kernel⟩
theorem nG {f:Addr} {fd:FuncData} (F:i5 K "_law_settled" "_law_settled" (top 26) f fd) (hm:mg "_law_settled" = some (.ref f)) (T:Txt K mg) :FnAt P w K mg base "_law_settled" 1 PM.dq :=
 FnAt.mk F hm nF (fun _ _ _ _ _ _ => oW fun _ _ => rfl) fun da A outer s H E hr =>
  by
   refine az ?_ ?_
   ·refine dM ?_ ?_ cq
    ·refine bE ?_ ?_ au
     ·exact (d4 hr.units)
     exact (af 0)
    refine aC ?_
    refine aX ?_
    exact (af 1)
   refine aC ?_
   refine aX ?_
   refine ay ?_ ?_ ?_
   ·exact aY
   ·exact (af 1)
   exact (af 0)
theorem pL:aR ["_law_cell"] ["_law_cell"] (ao (top 29)):=⟨rfl,rfl,rfl,by decide +kernel,rfl,by decide +kernel,by decide +kernel⟩
theorem pM {f:Addr} {fd:FuncData} (F:i5 K "_law_number" "_law_number" (top 29) f fd) (hm:mg "_law_number" = some (.ref f)) (T:Txt K mg) :FnAt P w K mg base "_law_number" 1 PM.bS :=
 FnAt.mk F hm pL (fun _ _ _ _ _ _ => su fun _ => rfl) fun da A outer s H E hr =>
  by
   refine az ?_ ?_
   ·refine dM ?_ ?_ cq
    ·refine bE ?_ ?_ au
     ·exact (d4 hr.units)
     refine ay ?_ ?_ au
     ·exact aY
     exact (af 0)
    refine aC ?_
    refine aX ?_
    refine ay ?_ ?_ ?_
    ·exact dy
    ·refine ay ?_ au ?_
     ·exact nU
     refine ay ?_ ?_ au
     ·exact dy
     refine ay ?_ ?_ au
     ·exact aY
     refine ay ?_ ?_ au
     ·exact bI
     exact (af 0)
    refine ay ?_ ?_ ?_
    ·exact aY
    ·refine ay ?_ ?_ au
     ·exact bI
     exact (af 0)
    exact (ay DB au au)
   refine aC ?_
   refine aX ?_
   refine ay ?_ ?_ au
   ·exact nU
   refine ay ?_ ?_ au
   ·exact aY
   refine ay ?_ ?_ au
   ·exact bI
   exact (af 0)
theorem aV:aR ["_law_cell","_law_many","_law_found","_law_rest","_law_wide","_law_k","_law_exponent"] ["_law_cell","_law_many"] (ao (top 30)):=⟨rfl,rfl,rfl,by decide +kernel,rfl,by decide +kernel,by decide +kernel⟩
theorem kR {f:Addr} {fd:FuncData} (F:i5 K "_law_exponents" "_law_exponents" (top 30) f fd) (hm:mg "_law_exponents" = some (.ref f)) (T:Txt K mg) :FnAt P w K mg base "_law_exponents" 1 PM.bA :=
 FnAt.mk F hm aV (fun _ _ _ _ _ _ => oW fun _ _ => rfl) fun da A outer s H E hr =>
  by
   refine az ?_ ?_
   ·refine aJ ?_ ?_
    ·exact aV.nd
    exact (je ax)
   refine az ?_ ?_
   ·refine aJ ?_ ?_
    ·exact aV.nd
    exact (af 0)
   refine az ?_ ?_
   ·refine aJ ?_ ?_
    ·exact aV.nd
    exact au
   refine az ?_ ?_
   ·refine dM ?_ ?_ cq
    ·refine bE ?_ ?_ au
     ·exact (d4 hr.units)
     refine ay ?_ ?_ au
     ·exact aY
     exact (af 0)
    refine az ?_ ?_
    ·refine aJ ?_ ?_
     ·exact aV.nd
     refine ay ?_ ?_ au
     ·exact bI
     exact (af 0)
    refine aC ?_
    refine aJ ?_ ?_
    ·exact aV.nd
    exact au
   refine az ?_ ?_
   ·refine fg cD rfl ?_ ?_ ?_
    ·refine eZ (by rfl) T.fu ?_
     refine aj ?_ ax
     exact (af 1)
    ·exact (bj 5 aV.nd)
    refine az ?_ ?_
    ·refine aJ ?_ ?_
     ·exact aV.nd
     refine ay ?_ ?_ ?_
     ·exact aY
     ·exact (af 3)
     exact (af 4)
    refine az ?_ ?_
    ·refine aJ ?_ ?_
     ·exact aV.nd
     refine ay ?_ ?_ ?_
     ·exact bI
     ·exact (af 3)
     exact (af 4)
    refine az ?_ ?_
    ·refine dM ?_ ?_ cq
     ·refine sf ?_
      refine sd ?_ ?_
      ·refine bE ?_ ?_ au
       ·exact (d4 hr.units)
       exact (af 4)
      refine nS ?_
      refine bE ?_ ?_ ?_
      ·exact (d4 hr.units)
      ·refine ay ?_ ?_ au
       ·exact aY
       refine ay ?_ ?_ au
       ·exact bI
       exact (af 0)
      exact (af 5)
     refine aC ?_
     refine aJ ?_ ?_
     ·exact aV.nd
     refine ay ?_ ?_ au
     ·exact aY
     refine ay ?_ ?_ au
     ·exact bI
     exact (af 0)
    refine aC ?_
    refine f_ ?_
    refine gj ?_ ?_
    ·exact (af 2)
    refine aj ?_ ax
    exact (af 6)
   refine aC ?_
   refine aX ?_
   refine gi ?_ (by rfl) T.kQ PyProof.Rows.boot_tuple ?_
   ·exact lM
   refine aj ?_ ax
   exact (af 2)
theorem wy:aR ["thing"] ["thing"] (ao (top 9)):=⟨rfl,rfl,rfl,by decide +kernel,rfl,by decide +kernel,by decide +kernel⟩
theorem wz {f:Addr} {fd:FuncData} (F:i5 K "is_ring" "is_ring" (top 9) f fd) (hm:mg "is_ring" = some (.ref f)) (T:Txt K mg) (ki:FnAt P w K mg base "is_whole" 1 PM.dD) (kS:FnAt P w K mg base "is_prime_within" 1 PM.bL):FnAt P w K mg base "is_ring" 2 PM.jA :=
 FnAt.mk F hm wy (fun _ _ _ _ _ _ => su fun _ => rfl) fun da A outer s H E hr =>
  by
   refine aC ?_
   refine aX ?_
   refine oJ ?_ ?_
   ·refine bp ki hr (by decide) (by rfl) aD ?_
    refine aj ?_ ax
    exact (af 0)
   refine lI ?_
   refine Kf ?_ ?_
   ·refine vP ?_ ?_ au
    ·exact (d4 hr.units)
    exact (af 0)
   refine lI ?_
   refine bp kS hr (by decide) (by rfl) aD ?_
   refine aj ?_ ax
   exact (af 0)
theorem gE:(["exponents","number","ring"]:List Str).Nodup:=by decide +kernel
theorem kj:(["term"]:List Str).Nodup:=by decide +kernel
theorem iu:aR ["ring","pairs","terms"] ["ring","pairs"] (ao (top 15)):=⟨rfl,rfl,rfl,by decide +kernel,rfl,by decide +kernel,by decide +kernel⟩
theorem mw {f:Addr} {fd:FuncData} (F:i5 K "settled_terms" "settled_terms" (top 15) f fd) (hm:mg "settled_terms" = some (.ref f)) (T:Txt K mg) (pN:FnAt P w K mg base "rest_in_ring" 1 PM.bC):FnAt P w K mg base "settled_terms" 2 PM.dH :=
 FnAt.mk F hm iu (fun _ _ _ _ _ _ => oW fun _ _ => rfl) fun da A outer s H E hr =>
  by
   refine az (MN.oS 2 (N:=["exponents","number","ring"]) (k:=2) iu.nd rfl rfl (oU (cl:=[("ring",s.heap.objs.size + 1)]) (caps:=[0]) (by rfl) (.cons (c:=s.heap.objs.size + 1) (by rfl) (by rfl) (by first | exact Or.inl rfl | exact Or.inr rfl) (by first | exact Or.inl rfl | exact Or.inr rfl) .nil) (by rfl) (by rfl) (by rfl) (by rfl) (by rfl) (by rfl)) (gs (af 1)) (fun _ _ _ _ => (sg rfl (fL (bj 0 gE) (fL (bj 1 gE) nW)))) (fun _ _ _ _ => jy) (fun _ _ _ _ => (lJ (aj (af 0) (aj (bp pN hr (by decide) (by rfl) xo (aj (af 2) (aj (af 1) ax))) ax))))) ?_
   refine aC ?_
   refine aX ?_
   refine iF (N:=["term"]) (k:=1) rfl rfl (oU (cl:=[]) (caps:=[]) (by rfl) .nil (by rfl) (by rfl) (by rfl) (by rfl) (by rfl) (by rfl)) ?_ (fun _ _ _ _ => ?_) (fun _ _ _ _ => ?_) (fun _ _ _ _ => ?_)
   ·refine gs ?_
    exact (af 2)
   ·exact (bj 0 kj)
   ·refine sh ?_
    refine bE ?_ ?_ au
    ·exact (jY hr.units)
    refine bP ?_ au
    exact (af 0)
   exact (af 0)
theorem sR:aR ["_law_cell"] ["_law_cell"] (ao (top 25)):=⟨rfl,rfl,rfl,by decide +kernel,rfl,by decide +kernel,by decide +kernel⟩
theorem sS {f:Addr} {fd:FuncData} (F:i5 K "_law_ring" "_law_ring" (top 25) f fd) (hm:mg "_law_ring" = some (.ref f)) (T:Txt K mg) (sT:FnAt P w K mg base "_law_prime" 1 PM.gk):FnAt P w K mg base "_law_ring" 2 PM.gu :=
 FnAt.mk F hm sR (fun _ _ _ _ _ _ => su fun _ => rfl) fun da A outer s H E hr =>
  by
   refine az ?_ ?_
   ·refine dM ?_ ?_ cq
    ·refine bE ?_ ?_ au
     ·exact (d4 hr.units)
     refine ay ?_ ?_ au
     ·exact aY
     exact (af 0)
    refine aC ?_
    exact (aX au)
   refine aC ?_
   refine aX ?_
   refine bp sT hr (by decide) (by rfl) aD ?_
   refine aj ?_ ax
   refine ay ?_ ?_ au
   ·exact bI
   exact (af 0)
theorem dk:aR ["_law_ring_here","_law_pairs_here","_law_found","_law_pair","_law_rows","_law_exponents_here"] ["_law_ring_here","_law_pairs_here"] (ao (top 27)):=⟨rfl,rfl,rfl,by decide +kernel,rfl,by decide +kernel,by decide +kernel⟩
theorem mB {f:Addr} {fd:FuncData} (F:i5 K "_law_gathered" "_law_gathered" (top 27) f fd) (hm:mg "_law_gathered" = some (.ref f)) (T:Txt K mg) (js:FnAt P w K mg base "_law_settled" 1 PM.dq):FnAt P w K mg base "_law_gathered" 2 PM.ba :=
 FnAt.mk F hm dk (fun _ _ _ _ _ _ => oW fun _ _ => rfl) fun da A outer s H E hr =>
  by
   refine az ?_ ?_
   ·refine aJ ?_ ?_
    ·exact dk.nd
    exact uw
   refine az ?_ ?_
   ·refine fg cD rfl ?_ ?_ ?_
    ·refine gs ?_
     exact (af 1)
    ·exact (bj 3 dk.nd)
    refine aC ?_
    refine xp hr.units ?_ ?_ ?_
    ·exact (af 2)
    ·refine bP ?_ au
     exact (af 3)
    refine ay ?_ ?_ ?_
    ·exact cu
    ·refine uz hr.units ?_ ?_ au
     ·exact (af 2)
     refine bP ?_ au
     exact (af 3)
    refine bP ?_ au
    exact (af 3)
   refine az ?_ ?_
   ·refine aJ ?_ ?_
    ·exact dk.nd
    exact (je ax)
   refine az ?_ ?_
   ·refine fg cD rfl ?_ ?_ ?_
    ·refine gs ?_
     refine uS (by rfl) (by rfl) T.ve PyProof.Rows.Boot.«sorted» ?_
     exact (af 2)
    ·exact (bj 5 dk.nd)
    refine aC ?_
    refine dM ?_ ?_ cq
    ·refine bE ?_ ?_ au
     ·exact (jY hr.units)
     refine bp js hr (by decide) (by rfl) aD ?_
     refine aj ?_ ?_
     ·exact (af 0)
     refine aj ?_ ax
     refine sq hr.units ?_ ?_
     ·exact (af 2)
     exact (af 5)
    refine aC ?_
    refine f_ ?_
    refine gj ?_ ?_
    ·exact (af 4)
    refine aj ?_ ax
    refine lJ ?_
    refine aj ?_ ?_
    ·exact (af 5)
    refine aj ?_ ax
    refine bp js hr (by decide) (by rfl) aD ?_
    refine aj ?_ ?_
    ·exact (af 0)
    refine aj ?_ ax
    refine sq hr.units ?_ ?_
    ·exact (af 2)
    exact (af 5)
   refine aC ?_
   refine aX ?_
   exact (af 4)
theorem qh:(["_law_one"]:List Str).Nodup:=by decide +kernel
theorem kU:aR ["_law_found","_law_due","_law_k"] ["_law_found","_law_due"] (ao (top 28)):=⟨rfl,rfl,rfl,by decide +kernel,rfl,by decide +kernel,by decide +kernel⟩
theorem sU {f:Addr} {fd:FuncData} (F:i5 K "_law_same" "_law_same" (top 28) f fd) (hm:mg "_law_same" = some (.ref f)) (T:Txt K mg) (kW:FnAt P w K mg base "_law_whole" 1 PM.e9):FnAt P w K mg base "_law_same" 2 PM.dE :=
 FnAt.mk F hm kU (fun _ _ _ _ _ _ => oW fun _ _ => rfl) fun da A outer s H E hr =>
  by
   refine az ?_ ?_
   ·refine dM ?_ ?_ cq
    ·refine sf ?_
     refine qF ?_ ?_
     ·refine iD ?_
      refine gS ?_
      refine j4 yA (by rfl) T.cT (by rfl) T.sQ PyProof.Rows.boot_list ?_
      exact (af 0)
     refine oK ?_
     refine bE ?_ ?_ ?_
     ·exact (jY hr.units)
     ·refine dP ?_ (by rfl) T.kP PySem.boot_len ?_
      ·exact dU
      refine aj ?_ ax
      exact (af 0)
     refine dP ?_ (by rfl) T.kP PySem.boot_len ?_
     ·exact dU
     refine aj ?_ ax
     exact (af 1)
    refine aC ?_
    exact (aX kr)
   refine az ?_ ?_
   ·refine fg cD rfl ?_ ?_ ?_
    ·refine eZ (by rfl) T.fu ?_
     refine aj ?_ ax
     refine dP ?_ (by rfl) T.kP PySem.boot_len ?_
     ·exact dU
     refine aj ?_ ax
     exact (af 1)
    ·exact (bj 2 kU.nd)
    refine az ?_ ?_
    ·refine dM ?_ ?_ cq
     ·refine sf ?_
      refine qF ?_ ?_
      ·refine iD ?_
       refine gS ?_
       refine j4 oQ (by rfl) T.cT (by rfl) T.kQ PyProof.Rows.boot_tuple ?_
       refine bP ?_ ?_
       ·exact (af 0)
       exact (af 2)
      refine qF ?_ ?_
      ·refine bE ?_ ?_ au
       ·exact (jY hr.units)
       refine dP ?_ (by rfl) T.kP PySem.boot_len ?_
       ·exact dU
       refine aj ?_ ax
       refine bP ?_ ?_
       ·exact (af 0)
       exact (af 2)
      refine oK ?_
      refine iD ?_
      refine gS ?_
      refine bp kW hr (by decide) (by rfl) aD ?_
      refine aj ?_ ax
      refine bP ?_ au
      refine bP ?_ ?_
      ·exact (af 0)
      exact (af 2)
     refine aC ?_
     exact (aX kr)
    refine aC ?_
    refine dM ?_ ?_ cq
    ·refine sf ?_
     refine qF ?_ ?_
     ·refine iD ?_
      refine gS ?_
      refine j4 oQ (by rfl) T.cT (by rfl) T.kQ PyProof.Rows.boot_tuple ?_
      refine bP ?_ au
      refine bP ?_ ?_
      ·exact (af 0)
      exact (af 2)
     refine oK ?_
     refine bE ?_ ?_ ?_
     ·exact (jY hr.units)
     ·refine iF (N:=["_law_one"]) (k:=1) rfl rfl (oU (cl:=[]) (caps:=[]) (by rfl) .nil (by rfl) (by rfl) (by rfl) (by rfl) (by rfl) (by rfl)) ?_ (fun _ _ _ _ => ?_) (fun _ _ _ _ => ?_) (fun _ _ _ _ => ?_)
      ·refine gs ?_
       refine bP ?_ au
       refine bP ?_ ?_
       ·exact (af 0)
       exact (af 2)
      ·exact (bj 0 qh)
      ·refine sh ?_
       refine iD ?_
       refine gS ?_
       refine bp kW hr (by decide) (by rfl) xo ?_
       refine aj ?_ ax
       exact (af 0)
      exact (af 0)
     exact (je ax)
    refine aC ?_
    exact (aX kr)
   refine aC ?_
   refine aX ?_
   refine vP ?_ ?_ ?_
   ·exact (d4 hr.units)
   ·exact (af 0)
   exact (af 1)
theorem fI:aR ["_law_script","_law_place","_law_many","_law_size","_law_pairs_here","_law_k","_law_exponents_here"] ["_law_script","_law_place","_law_many","_law_size"] (ao (top 31)):=⟨rfl,rfl,rfl,by decide +kernel,rfl,by decide +kernel,by decide +kernel⟩
theorem qi {f:Addr} {fd:FuncData} (F:i5 K "_law_pairs" "_law_pairs" (top 31) f fd) (hm:mg "_law_pairs" = some (.ref f)) (T:Txt K mg) (cH:FnAt P w K mg base "_law_cell_at" 1 PM.aL) (hG:FnAt P w K mg base "_law_number" 1 PM.bS) (fE:FnAt P w K mg base "_law_exponents" 1 PM.bA):FnAt P w K mg base "_law_pairs" 2 PM.dI :=
 FnAt.mk F hm fI (fun _ _ _ _ _ _ => Kp fun _ _ _ _ => rfl) fun da A outer s H E hr =>
  by
   refine az ?_ ?_
   ·refine aJ ?_ ?_
    ·exact fI.nd
    exact (je ax)
   refine az ?_ ?_
   ·refine fg cD rfl ?_ ?_ ?_
    ·refine eZ (by rfl) T.fu ?_
     refine aj ?_ ax
     exact (af 3)
    ·exact (bj 5 fI.nd)
    refine az ?_ ?_
    ·refine aJ ?_ ?_
     ·exact fI.nd
     refine bp fE hr (by decide) (by rfl) aD ?_
     refine aj ?_ ?_
     ·refine bp cH hr (by decide) (by rfl) aD ?_
      refine aj ?_ ?_
      ·exact (af 0)
      refine aj ?_ ax
      refine ay ?_ ?_ ?_
      ·exact cu
      ·exact (af 1)
      refine ay ?_ au ?_
      ·exact dy
      exact (af 5)
     refine aj ?_ ax
     exact (af 2)
    refine aC ?_
    refine f_ ?_
    refine gj ?_ ?_
    ·exact (af 4)
    refine aj ?_ ax
    refine lJ ?_
    refine aj ?_ ?_
    ·exact (af 6)
    refine aj ?_ ax
    refine bp hG hr (by decide) (by rfl) aD ?_
    refine aj ?_ ax
    refine bp cH hr (by decide) (by rfl) aD ?_
    refine aj ?_ ?_
    ·exact (af 0)
    refine aj ?_ ax
    refine ay ?_ ?_ au
    ·exact cu
    refine ay ?_ ?_ ?_
    ·exact cu
    ·exact (af 1)
    refine ay ?_ au ?_
    ·exact dy
    exact (af 5)
   refine aC ?_
   refine aX ?_
   exact (af 4)
theorem ql:aR ["ring"] ["ring"] (ao (top 10)):=⟨rfl,rfl,rfl,by decide +kernel,rfl,by decide +kernel,by decide +kernel⟩
theorem qm {f:Addr} {fd:FuncData} (F:i5 K "check_ring" "check_ring" (top 10) f fd) (hm:mg "check_ring" = some (.ref f)) (T:Txt K mg) (zu:FnAt P w K mg base "is_ring" 2 PM.jA):FnAt P w K mg base "check_ring" 3 PM.bR :=
 FnAt.mk F hm ql (fun _ _ _ _ _ _ => su fun _ => rfl) fun da A outer s H E hr =>
  by
   refine aC ?_
   refine dM ?_ ?_ cq
   ·refine iD ?_
    refine gS ?_
    refine bp zu hr (by decide) (by rfl) aD ?_
    refine aj ?_ ax
    exact (af 0)
   refine aC ?_
   refine qO oV rfl T.Ci (by rfl) ?_
   exact (AX ax)
theorem kl:(["exponents","totals"]:List Str).Nodup:=by decide +kernel
theorem mD:aR ["ring","totals"] ["ring","totals"] (ao (top 16)):=⟨rfl,rfl,rfl,by decide +kernel,rfl,by decide +kernel,by decide +kernel⟩
theorem mE {f:Addr} {fd:FuncData} (F:i5 K "sum_of_totals" "sum_of_totals" (top 16) f fd) (hm:mg "sum_of_totals" = some (.ref f)) (T:Txt K mg) (nI:FnAt P w K mg base "settled_terms" 2 PM.dH):FnAt P w K mg base "sum_of_totals" 3 PM.dJ :=
 FnAt.mk F hm mD (fun _ _ _ _ _ _ => oW fun _ _ => rfl) fun da A outer s H E hr =>
  by
   refine aC ?_
   refine aX ?_
   refine bp nI hr (by decide) (by rfl) aD ?_
   refine aj ?_ ?_
   ·exact (af 0)
   refine aj ?_ ax
   refine iF (N:=["exponents","totals"]) (k:=1) rfl rfl (oU (cl:=[("totals",s.heap.objs.size + 1)]) (caps:=[1]) (by rfl) (.cons (c:=s.heap.objs.size + 1) (by rfl) (by rfl) (by first | exact Or.inl rfl | exact Or.inr rfl) (by first | exact Or.inl rfl | exact Or.inr rfl) .nil) (by rfl) (by rfl) (by rfl) (by rfl) (by rfl) (by rfl)) ?_ (fun _ _ _ _ => ?_) (fun _ _ _ _ => jy) (fun _ _ _ _ => ?_)
   ·refine gs ?_
    refine uS (by rfl) (by rfl) T.ve PyProof.Rows.Boot.«sorted» ?_
    exact (af 1)
   ·exact (bj 0 kl)
   refine lJ ?_
   refine aj ?_ ?_
   ·exact (af 0)
   refine aj ?_ ax
   refine sq hr.units ?_ ?_
   ·exact (af 1)
   exact (af 0)
theorem pO:(["_law_k","_law_one","_law_other"]:List Str).Nodup:=by decide +kernel
theorem eB:aR ["_law_ring_here","_law_ones","_law_others","_law_pairs_here","_law_one","_law_other","_law_exponents_here"] ["_law_ring_here","_law_ones","_law_others"] (ao (top 32)):=⟨rfl,rfl,rfl,by decide +kernel,rfl,by decide +kernel,by decide +kernel⟩
theorem qo {f:Addr} {fd:FuncData} (F:i5 K "_law_times" "_law_times" (top 32) f fd) (hm:mg "_law_times" = some (.ref f)) (T:Txt K mg) (dF:FnAt P w K mg base "_law_gathered" 2 PM.ba):FnAt P w K mg base "_law_times" 3 PM.cR :=
 FnAt.mk F hm eB (fun _ _ _ _ _ _ => vZ fun _ _ _ => rfl) fun da A outer s H E hr =>
  by
   refine az ?_ ?_
   ·refine aJ ?_ ?_
    ·exact eB.nd
    exact (je ax)
   refine az ?_ ?_
   ·refine fg cD rfl ?_ ?_ ?_
    ·refine gs ?_
     exact (af 1)
    ·exact (bj 4 eB.nd)
    refine aC ?_
    refine fg cD rfl ?_ ?_ ?_
    ·refine gs ?_
     exact (af 2)
    ·exact (bj 5 eB.nd)
    refine az ?_ ?_
    ·refine aJ ?_ ?_
     ·exact eB.nd
     refine gi ?_ (by rfl) T.kQ PyProof.Rows.boot_tuple ?_
     ·exact lM
     refine aj ?_ ax
     refine iF (N:=["_law_k","_law_one","_law_other"]) (k:=1) rfl rfl (Fj (cl:=[("_law_one",s.heap.objs.size + 1),("_law_other",s.heap.objs.size + 2)]) (cl':=[("_law_other",s.heap.objs.size + 2),("_law_one",s.heap.objs.size + 1)]) (caps:=[4,5]) (caps':=[5,4]) (by rfl) (.cons (c:=s.heap.objs.size + 1) (by rfl) (by rfl) (by first | exact Or.inl rfl | exact Or.inr rfl) (by first | exact Or.inl rfl | exact Or.inr rfl) (.cons (c:=s.heap.objs.size + 2) (by rfl) (by rfl) (by first | exact Or.inl rfl | exact Or.inr rfl) (by first | exact Or.inl rfl | exact Or.inr rfl) .nil)) (.cons (c:=s.heap.objs.size + 2) (by rfl) (by rfl) (by first | exact Or.inl rfl | exact Or.inr rfl) (by first | exact Or.inl rfl | exact Or.inr rfl) (.cons (c:=s.heap.objs.size + 1) (by rfl) (by rfl) (by first | exact Or.inl rfl | exact Or.inr rfl) (by first | exact Or.inl rfl | exact Or.inr rfl) .nil)) (by rfl) (by rfl) (by rfl) (by rfl) (by rfl) (by rfl)) ?_ (fun _ _ _ _ => ?_) (fun _ _ _ _ => jy) (fun _ _ _ _ => ?_)
     ·refine eZ (by rfl) T.fu ?_
      refine aj ?_ ax
      refine dP ?_ (by rfl) T.kP PySem.boot_len ?_
      ·exact dU
      refine aj ?_ ax
      refine bP ?_ au
      exact (af 4)
     ·exact (bj 0 pO)
     refine ay ?_ ?_ ?_
     ·exact cu
     ·refine bP ?_ ?_
      ·refine bP ?_ au
       exact (af 1)
      exact (af 0)
     refine bP ?_ ?_
     ·refine bP ?_ au
      exact (af 2)
     exact (af 0)
    refine aC ?_
    refine f_ ?_
    refine gj ?_ ?_
    ·exact (af 3)
    refine aj ?_ ax
    refine lJ ?_
    refine aj ?_ ?_
    ·exact (af 6)
    refine aj ?_ ax
    refine ay ?_ ?_ ?_
    ·exact dy
    ·refine bP ?_ au
     exact (af 4)
    refine bP ?_ au
    exact (af 5)
   refine aC ?_
   refine aX ?_
   refine bp dF hr (by decide) (by rfl) aD ?_
   refine aj ?_ ?_
   ·exact (af 0)
   refine aj ?_ ax
   exact (af 3)
theorem fF:aR ["ring","ones","others","totals","exponents","number","by_exponents","by_number"] ["ring","ones","others"] (ao (top 18)):=⟨rfl,rfl,rfl,by decide +kernel,rfl,by decide +kernel,by decide +kernel⟩
theorem wA {f:Addr} {fd:FuncData} (F:i5 K "product" "product" (top 18) f fd) (hm:mg "product" = some (.ref f)) (T:Txt K mg) (Cj:FnAt P w K mg base "add_to" 1 PM.lY) (Ck:FnAt P w K mg base "joined" 1 PM.joined) (nJ:FnAt P w K mg base "sum_of_totals" 3 PM.dJ):FnAt P w K mg base "product" 4 PM.product :=
 FnAt.mk F hm fF (fun _ _ _ _ _ _ => vZ fun _ _ _ => rfl) fun da A outer s H E hr =>
  by
   refine az ?_ ?_
   ·refine aJ ?_ ?_
    ·exact fF.nd
    exact uw
   refine az ?_ ?_
   ·refine fg cD rfl ?_ ?_ ?_
    ·refine gs ?_
     exact (af 1)
    ·refine sg rfl ?_
     refine fL ?_ ?_
     ·exact (bj 4 fF.nd)
     refine fL ?_ nW
     exact (bj 5 fF.nd)
    refine aC ?_
    refine fg cD rfl ?_ ?_ ?_
    ·refine gs ?_
     exact (af 2)
    ·refine sg rfl ?_
     refine fL ?_ ?_
     ·exact (bj 6 fF.nd)
     refine fL ?_ nW
     exact (bj 7 fF.nd)
    refine aC ?_
    refine f_ ?_
    refine bp Cj hr (by decide) (by rfl) aD ?_
    refine aj ?_ ?_
    ·exact (af 3)
    refine aj ?_ ?_
    ·refine bp Ck hr (by decide) (by rfl) aD ?_
     refine aj ?_ ?_
     ·exact (af 4)
     refine aj ?_ ax
     exact (af 6)
    refine aj ?_ ax
    refine ay ?_ ?_ ?_
    ·exact dy
    ·exact (af 5)
    exact (af 7)
   refine aC ?_
   refine aX ?_
   refine bp nJ hr (by decide) (by rfl) aD ?_
   refine aj ?_ ?_
   ·exact (af 0)
   refine aj ?_ ax
   exact (af 3)
theorem Cm:aR ["ring","ones","others"] ["ring","ones","others"] (ao (top 17)):=⟨rfl,rfl,rfl,by decide +kernel,rfl,by decide +kernel,by decide +kernel⟩
theorem Co {f:Addr} {fd:FuncData} (F:i5 K "times" "times" (top 17) f fd) (hm:mg "times" = some (.ref f)) (T:Txt K mg) (iL:FnAt P w K mg base "check_ring" 3 PM.bR) (jG:FnAt P w K mg base "product" 4 PM.product):FnAt P w K mg base "times" 5 PM.times :=
 FnAt.mk F hm Cm (fun _ _ _ _ _ _ => vZ fun _ _ _ => rfl) fun da A outer s H E hr =>
  by
   refine az ?_ ?_
   ·refine f_ ?_
    refine bp iL hr (by decide) (by rfl) aD ?_
    refine aj ?_ ax
    exact (af 0)
   refine aC ?_
   refine aX ?_
   refine bp jG hr (by decide) (by rfl) aD ?_
   refine aj ?_ ?_
   ·exact (af 0)
   refine aj ?_ ?_
   ·exact (af 1)
   refine aj ?_ ax
   exact (af 2)
theorem fP:aR ["multiply","thing","count","answer","place"] ["multiply","thing","count"] (ao (top 12)):=⟨rfl,rfl,rfl,by decide +kernel,rfl,by decide +kernel,by decide +kernel⟩
theorem vj {L:dS} {mb:ME} {f:Addr} {fd:FuncData} (F:i5 K "repeated" "repeated" (top 12) f fd) (hm:mg "repeated" = some (.ref f)) (T:Txt K mg) (S:v3 P w K mg base L 4 mb):qR P w K mg base "repeated" 6 L (PM.repeated L mb) :=
 qR.mk F hm fP (fun _ _ _ _ _ _ => vZ fun _ _ _ => rfl) fun da A outer s H E hr =>
  by
   refine az ?_ ?_
   ·refine aJ ?_ ?_
    ·exact fP.nd
    exact (af 1)
   refine az ?_ ?_
   ·refine fg cD rfl ?_ ?_ ?_
    ·refine DJ (by rfl) T.fu ?_
     refine aj ?_ ?_
     ·refine ay ?_ ?_ au
      ·exact nU
      refine DR ?_
      exact (af 2)
     refine aj ?_ ?_
     ·exact (AD au)
     refine aj ?_ ax
     exact (AD au)
    ·exact (bj 4 fP.nd)
    refine az ?_ ?_
    ·refine aJ ?_ ?_
     ·exact fP.nd
     refine uA S 0 hr ?_
     refine aj ?_ ?_
     ·exact (af 3)
     refine aj ?_ ax
     exact (af 3)
    refine aC ?_
    refine dM ?_ ?_ cq
    ·refine bE ?_ ?_ au
     ·exact (d4 hr.units)
     refine ay ?_ ?_ au
     ·exact DQ
     refine ay ?_ ?_ ?_
     ·exact DP
     ·exact (af 2)
     exact (af 4)
    refine aC ?_
    refine aJ ?_ ?_
    ·exact fP.nd
    refine uA S 0 hr ?_
    refine aj ?_ ?_
    ·exact (af 3)
    refine aj ?_ ax
    exact (af 1)
   refine aC ?_
   refine aX ?_
   exact (af 3)
noncomputable def OT:Option Expr:=Fl (aM (top 20))
noncomputable def M:dC:=⟨Ky OT "raised.<locals>.<lambda>" ["one","other"] "ring","raised",56,20⟩
theorem OU:M.S.Ok:=dS.Vo rfl rfl rfl rfl rfl rfl rfl (by decide +kernel) (fun _ _ _ _ => oW fun _ _ => rfl)
theorem EM (T:Txt K mg) (jG:FnAt P w K mg base "product" 4 PM.product):v3 P w K mg base M.S 4 PM.cS :=
 ⟨OU,fun f c c' A outer s H hr => by
   refine bp jG hr (by decide) (by rfl) Kq ?_
   refine aj ?_ ?_
   ·exact (af 2)
   refine aj ?_ ?_
   ·exact (af 0)
   refine aj ?_ ax
   exact (af 1)⟩
theorem zw:aR ["ring","row","count"] ["ring","row","count"] (ao (top 20)):=⟨rfl,rfl,rfl,by decide +kernel,rfl,by decide +kernel,by decide +kernel⟩
theorem zx {f:Addr} {fd:FuncData} {jT tT:Addr} (B:Hy K mg base "raised" jT tT) (F:i5 K "raised" "raised" (top 20) f fd) (hn:PySem.W.nsIn K mainGlobals "raised" = some (some (.ref f))) (hm:mg "raised" = some (.ref f)) (T:Txt K mg) (ki:FnAt P w K mg base "is_whole" 1 PM.dD) (iL:FnAt P w K mg base "check_ring" 3 PM.bR) (jG:FnAt P w K mg base "product" 4 PM.product) (wB:qR P w K mg base "repeated" 6 M.S (PM.repeated M.S PM.cS)):FnAt P w K mg base "raised" 7 (PM.raised M) :=
 FnAt.Va B F hn hm zw (fun _ _ _ _ _ _ => vZ fun _ _ _ => rfl) fun A outer s H E hr =>
  by
   refine az ?_ ?_
   ·refine f_ ?_
    refine bp iL hr (by decide) (by rfl) aD ?_
    refine aj ?_ ax
    exact (af 0)
   refine az ?_ ?_
   ·refine dM ?_ ?_ cq
    ·refine sf ?_
     refine qF ?_ ?_
     ·refine iD ?_
      refine gS ?_
      refine bp ki hr (by decide) (by rfl) aD ?_
      refine aj ?_ ax
      exact (af 2)
     refine oK ?_
     refine bE ?_ ?_ au
     ·exact jX
     exact (af 2)
    refine aC ?_
    refine qO oV rfl T.rD (by rfl) ?_
    exact (AX ax)
   refine aC ?_
   refine aX ?_
   refine A3 (L:=M) wB B hr (by decide) (by rfl) 0 rfl ?_
   refine aj ?_ ?_
   ·refine gi ?_ (by rfl) T.sQ PyProof.Rows.boot_list ?_
    ·exact lN
    refine aj ?_ ax
    exact (af 1)
   refine aj ?_ ax
   exact (af 2)
theorem iU:aR ["_law_ring_here","_law_row","_law_count","_law_wide","e"] ["_law_ring_here","_law_row","_law_count","_law_wide"] (ao (top 33)):=⟨rfl,rfl,rfl,by decide +kernel,rfl,by decide +kernel,by decide +kernel⟩
theorem nK {f:Addr} {fd:FuncData} (F:i5 K "_law_refused" "_law_refused" (top 33) f fd) (hm:mg "_law_refused" = some (.ref f)) (T:Txt K mg) (kX:FnAt P w K mg base "raised" 7 (PM.raised M)):FnAt P w K mg base "_law_refused" 8 (bH M) :=
 FnAt.mk F hm iU (fun _ _ _ _ _ _ => Kp fun _ _ _ _ => rfl) fun da A outer s H E hr =>
  by
   refine az ?_ ?_
   ·refine Hr T.kn ⟨fun _ => rfl,rfl,rfl⟩ ?_ ?_
    ·refine nX ?_
     refine Hn (fun _ => ?_) ?_ ?_
     ·refine gS ?_
      exact (af 3)
     ·refine nX ?_
      refine DG T.kn ⟨fun _ => rfl,rfl,rfl⟩ ?_ ?_
      ·refine nX ?_
       refine um ?_
       refine AR kX hr (by decide) (by rfl) (fun _ => rfl) (fun _ => ?_)
       refine aj ?_ ?_
       ·exact (af 0)
       refine aj ?_ ?_
       ·exact (af 1)
       refine aj ?_ ax
       exact (af 2)
      refine Ht (i:=4) T.sub iU.nd T.pJ (by rfl) (fun _ _ => ?_) AQ
      refine aC ?_
      refine aX ?_
      exact (DH 4 T.sub T.sP gY (by rfl) T.cT (by rfl))
     refine nX ?_
     refine um ?_
     refine AR kX hr (by decide) (by rfl) (fun _ => rfl) (fun _ => ?_)
     refine aj ?_ ?_
     ·exact (af 0)
     refine aj ?_ ?_
     ·exact (af 1)
     refine aj ?_ ax
     exact (af 2)
    refine AV T.sub T.rD (by rfl) (fun _ _ => ?_) AQ
    refine aC ?_
    refine aX ?_
    refine vQ ?_
    exact (af 3)
   refine aC ?_
   exact (aX kr)
theorem Cp:(["_law_k","_law_many","_law_mix"]:List Str).Nodup:=by decide +kernel
theorem cA:aR ["_law_script","_law_ring_here","_law_second","_law_third","_law_many","_law_mix","_law_ones","_law_others","_law_pairs_here","_law_handed","_law_due","_law_turn","_law_found","_law_count","_law_k"] ["_law_script"] (ao (top 34)):=⟨rfl,rfl,rfl,by decide +kernel,rfl,by decide +kernel,by decide +kernel⟩
theorem IC {f:Addr} {fd:FuncData} (F:i5 K "law" "law" (top 34) f fd) (T:Txt K mg) (cH:FnAt P w K mg base "_law_cell_at" 1 PM.aL) (hG:FnAt P w K mg base "_law_number" 1 PM.bS) (fE:FnAt P w K mg base "_law_exponents" 1 PM.bA) (vk:FnAt P w K mg base "_law_ring" 2 PM.gu) (dF:FnAt P w K mg base "_law_gathered" 2 PM.ba) (gP:FnAt P w K mg base "_law_same" 2 PM.dE) (kY:FnAt P w K mg base "_law_pairs" 2 PM.dI) (kZ:FnAt P w K mg base "_law_times" 3 PM.cR) (EN:FnAt P w K mg base "times" 5 PM.times) (kX:FnAt P w K mg base "raised" 7 (PM.raised M)) (ju:FnAt P w K mg base "_law_refused" 8 (bH M)):jK P w K mg base (iY P w) 9 f fd ["_law_script"] (Fe ⟨K,mg,[]⟩ (vd M)) :=
 Ay F cA fun da A outer s H E hr =>
  by
   refine az ?_ ?_
   ·refine aJ ?_ ?_
    ·exact cA.nd
    refine bp vk hr (by decide) (by rfl) aD ?_
    refine aj ?_ ax
    refine bp cH hr (by decide) (by rfl) aD ?_
    refine aj ?_ ?_
    ·exact (af 0)
    exact (cV ax)
   refine az ?_ ?_
   ·refine aJ ?_ ?_
    ·exact cA.nd
    refine bp cH hr (by decide) (by rfl) aD ?_
    refine aj ?_ ?_
    ·exact (af 0)
    exact (cV ax)
   refine az ?_ ?_
   ·refine aJ ?_ ?_
    ·exact cA.nd
    refine bp cH hr (by decide) (by rfl) aD ?_
    refine aj ?_ ?_
    ·exact (af 0)
    exact (cV ax)
   refine az ?_ ?_
   ·refine aJ ?_ ?_
    ·exact cA.nd
    refine ay ?_ au ?_
    ·exact cu
    refine ay ?_ ?_ au
    ·exact aY
    exact (af 2)
   refine az ?_ ?_
   ·refine aJ ?_ ?_
    ·exact cA.nd
    refine bp cH hr (by decide) (by rfl) aD ?_
    refine aj ?_ ?_
    ·exact (af 0)
    exact (cV ax)
   refine az ?_ ?_
   ·refine aJ ?_ ?_
    ·exact cA.nd
    refine bp dF hr (by decide) (by rfl) aD ?_
    refine aj ?_ ?_
    ·exact (af 1)
    refine aj ?_ ax
    refine bp kY hr (by decide) (by rfl) aD ?_
    refine aj ?_ ?_
    ·exact (af 0)
    refine cV ?_
    refine aj ?_ ?_
    ·exact (af 4)
    refine aj ?_ ax
    refine ay ?_ ?_ au
    ·exact aY
    refine ay ?_ ?_ au
    ·exact bI
    exact (af 2)
   refine az ?_ ?_
   ·refine aJ ?_ ?_
    ·exact cA.nd
    refine bp dF hr (by decide) (by rfl) aD ?_
    refine aj ?_ ?_
    ·exact (af 1)
    refine aj ?_ ax
    refine bp kY hr (by decide) (by rfl) aD ?_
    refine aj ?_ ?_
    ·exact (af 0)
    refine cV ?_
    refine aj ?_ ?_
    ·exact (af 4)
    refine aj ?_ ax
    refine ay ?_ ?_ au
    ·exact aY
    exact (af 3)
   refine az ?_ ?_
   ·refine dM ?_ ?_ cq
    ·refine bE ?_ ?_ au
     ·exact (d4 hr.units)
     refine ay ?_ ?_ au
     ·exact aY
     refine ay ?_ ?_ au
     ·exact bI
     exact (af 3)
    refine az (MN.oS 8 (N:=["_law_k","_law_many","_law_mix"]) (k:=1) cA.nd rfl rfl (Fj (cl:=[("_law_many",s.heap.objs.size + 1),("_law_mix",s.heap.objs.size + 2)]) (cl':=[("_law_mix",s.heap.objs.size + 2),("_law_many",s.heap.objs.size + 1)]) (caps:=[4,5]) (caps':=[5,4]) (by rfl) (.cons (c:=s.heap.objs.size + 1) (by rfl) (by rfl) (by first | exact Or.inl rfl | exact Or.inr rfl) (by first | exact Or.inl rfl | exact Or.inr rfl) (.cons (c:=s.heap.objs.size + 2) (by rfl) (by rfl) (by first | exact Or.inl rfl | exact Or.inr rfl) (by first | exact Or.inl rfl | exact Or.inr rfl) .nil)) (.cons (c:=s.heap.objs.size + 2) (by rfl) (by rfl) (by first | exact Or.inl rfl | exact Or.inr rfl) (by first | exact Or.inl rfl | exact Or.inr rfl) (.cons (c:=s.heap.objs.size + 1) (by rfl) (by rfl) (by first | exact Or.inl rfl | exact Or.inr rfl) (by first | exact Or.inl rfl | exact Or.inr rfl) .nil)) (by rfl) (by rfl) (by rfl) (by rfl) (by rfl) (by rfl)) (eZ (by rfl) T.fu (aj (ay aY (ay bI (af 3) au) au) ax)) (fun _ _ _ _ => (bj 0 Cp)) (fun _ _ _ _ => jy) (fun _ _ _ _ => (lJ (aj (bp fE hr (by decide) (by rfl) xo (aj (ay cu (ay bI (af 2) au) (ay dy au (af 0))) (aj (af 1) ax))) (aj (bp hG hr (by decide) (by rfl) xo (aj (ay cu (af 2) (ay dy au (af 0))) ax)) ax))))) ?_
    refine aC ?_
    refine aJ ?_ ?_
    ·exact cA.nd
    refine bp dF hr (by decide) (by rfl) aD ?_
    refine aj ?_ ?_
    ·exact (af 1)
    refine aj ?_ ax
    exact (af 8)
   refine az ?_ ?_
   ·refine dM ?_ ?_ cq
    ·refine bE ?_ ?_ au
     ·exact (d4 hr.units)
     refine ay ?_ ?_ au
     ·exact aY
     refine ay ?_ ?_ au
     ·exact bI
     exact (af 5)
    refine aC ?_
    refine Im 6 7 cA.nd ?_
    refine aj ?_ ?_
    ·exact (af 7)
    refine aj ?_ ax
    exact (af 6)
   refine az ?_ ?_
   ·refine aJ ?_ ?_
    ·exact cA.nd
    refine je ?_
    refine aj ?_ ?_
    ·refine gi ?_ (by rfl) T.sQ PyProof.Rows.boot_list ?_
     ·exact lN
     refine aj ?_ ax
     exact (af 6)
    refine aj ?_ ax
    refine gi ?_ (by rfl) T.sQ PyProof.Rows.boot_list ?_
    ·exact lN
    refine aj ?_ ax
    exact (af 7)
   refine az ?_ ?_
   ·refine aJ ?_ ?_
    ·exact cA.nd
    refine bp kZ hr (by decide) (by rfl) aD ?_
    refine aj ?_ ?_
    ·exact (af 1)
    refine aj ?_ ?_
    ·exact (af 6)
    refine aj ?_ ax
    exact (af 7)
   refine az ?_ ?_
   ·refine fg cD rfl ?_ ?_ ?_
    ·refine eZ (by rfl) T.fu ?_
     exact (cV ax)
    ·exact (bj 11 cA.nd)
    refine az ?_ ?_
    ·refine aJ ?_ ?_
     ·exact cA.nd
     refine bp EN hr (by decide) (by rfl) aD ?_
     refine aj ?_ ?_
     ·exact (af 1)
     refine aj ?_ ?_
     ·refine bP ?_ au
      exact (af 9)
     refine aj ?_ ax
     refine bP ?_ au
     exact (af 9)
    refine az ?_ ?_
    ·refine dM ?_ ?_ cq
     ·refine iD ?_
      refine gS ?_
      refine bp gP hr (by decide) (by rfl) aD ?_
      refine aj ?_ ?_
      ·exact (af 12)
      refine aj ?_ ax
      exact (af 10)
     refine aC ?_
     exact (aX kr)
    refine aC ?_
    refine f_ ?_
    refine gj ?_ ?_
    ·exact (af 12)
    exact (cV ax)
   refine az ?_ ?_
   ·refine aJ ?_ ?_
    ·exact cA.nd
    refine ay ?_ ?_ au
    ·exact nU
    refine ay ?_ ?_ au
    ·exact aY
    exact (af 5)
   refine az ?_ ?_
   ·refine dM ?_ ?_ cq
    ·refine sf ?_
     refine sd ?_ ?_
     ·refine bE ?_ ?_ au
      ·exact jX
      refine dP ?_ (by rfl) T.kP PySem.boot_len ?_
      ·exact dU
      refine aj ?_ ax
      exact (af 7)
     refine nS ?_
     refine bE ?_ ?_ au
     ·exact (d4 hr.units)
     refine ay ?_ ?_ au
     ·exact aY
     refine ay ?_ ?_ au
     ·exact bI
     exact (af 5)
    refine aC ?_
    refine aJ ?_ ?_
    ·exact cA.nd
    refine ay ?_ au ?_
    ·exact cu
    refine ay ?_ ?_ au
    ·exact aY
    refine ay ?_ ?_ au
    ·exact bI
    exact (af 5)
   refine az ?_ ?_
   ·refine dM ?_ ?_ cq
    ·refine sf ?_
     refine sd ?_ ?_
     ·refine bE ?_ ?_ au
      ·exact jX
      refine dP ?_ (by rfl) T.kP PySem.boot_len ?_
      ·exact dU
      refine aj ?_ ax
      exact (af 7)
     refine nS ?_
     refine bE ?_ ?_ au
     ·exact (d4 hr.units)
     refine ay ?_ ?_ au
     ·exact aY
     refine ay ?_ ?_ au
     ·exact bI
     exact (af 5)
    refine aC ?_
    refine aJ ?_ ?_
    ·exact cA.nd
    refine ay ?_ au ?_
    ·exact cu
    refine ay ?_ ?_ au
    ·exact aY
    refine ay ?_ ?_ au
    ·exact bI
    exact (af 5)
   refine az ?_ ?_
   ·refine dM ?_ ?_ cq
    ·refine bE ?_ ?_ au
     ·exact AB
     refine dP ?_ (by rfl) T.kP PySem.boot_len ?_
     ·exact dU
     refine aj ?_ ax
     exact (af 7)
    refine aC ?_
    refine aJ ?_ ?_
    ·exact cA.nd
    refine dP ?_ (by rfl) T.Ll PyProof.Rows.Boot.«min» ?_
    ·exact (yW hr.hd)
    refine aj ?_ ?_
    ·exact (af 13)
    exact (cV ax)
   refine az ?_ ?_
   ·refine dM ?_ ?_ cq
    ·refine bE ?_ ?_ au
     ·exact jX
     exact (af 13)
    refine aC ?_
    refine aX ?_
    refine oJ ?_ ?_
    ·refine bp ju hr (by decide) (by rfl) aD ?_
     refine aj ?_ ?_
     ·exact (af 1)
     refine aj ?_ ?_
     ·refine bP ?_ au
      exact (af 9)
     refine aj ?_ ?_
     ·exact (af 13)
     exact (Fi ax)
    refine lI ?_
    refine bp ju hr (by decide) (by rfl) aD ?_
    refine aj ?_ ?_
    ·exact (af 1)
    refine aj ?_ ?_
    ·refine bP ?_ au
     exact (af 9)
    refine aj ?_ ?_
    ·exact (af 13)
    exact (Fi ax)
   refine az ?_ ?_
   ·refine aJ ?_ ?_
    ·exact cA.nd
    exact (af 7)
   refine az ?_ ?_
   ·refine fg cD rfl ?_ ?_ ?_
    ·refine qK (by rfl) T.fu ?_
     refine cV ?_
     refine aj ?_ ax
     exact (af 13)
    ·exact (bj 14 cA.nd)
    refine aC ?_
    refine aJ ?_ ?_
    ·exact cA.nd
    refine bp kZ hr (by decide) (by rfl) aD ?_
    refine aj ?_ ?_
    ·exact (af 1)
    refine aj ?_ ?_
    ·exact (af 10)
    refine aj ?_ ax
    exact (af 7)
   refine az ?_ ?_
   ·refine fg cD rfl ?_ ?_ ?_
    ·refine eZ (by rfl) T.fu ?_
     exact (cV ax)
    ·exact (bj 11 cA.nd)
    refine az ?_ ?_
    ·refine aJ ?_ ?_
     ·exact cA.nd
     refine bp kX hr (by decide) (by rfl) aD ?_
     refine aj ?_ ?_
     ·exact (af 1)
     refine aj ?_ ?_
     ·refine bP ?_ au
      exact (af 9)
     refine aj ?_ ax
     exact (af 13)
    refine az ?_ ?_
    ·refine dM ?_ ?_ cq
     ·refine iD ?_
      refine gS ?_
      refine bp gP hr (by decide) (by rfl) aD ?_
      refine aj ?_ ?_
      ·exact (af 12)
      refine aj ?_ ax
      exact (af 10)
     refine aC ?_
     exact (aX kr)
    refine aC ?_
    refine f_ ?_
    refine gj ?_ ?_
    ·exact (af 12)
    exact (cV ax)
   refine aC ?_
   refine aX ?_
   refine oJ ?_ ?_
   ·refine bp gP hr (by decide) (by rfl) aD ?_
    refine aj ?_ ?_
    ·refine bP ?_ au
     exact (af 9)
    refine aj ?_ ax
    exact (af 6)
   refine lI ?_
   refine bp gP hr (by decide) (by rfl) aD ?_
   refine aj ?_ ?_
   ·refine bP ?_ au
    exact (af 9)
   refine aj ?_ ax
   exact (af 7)
end
theorem all_mk {l:PySem.W.OpenLaw} {w:World} {K:PySem.W.Frag} {h:Heap} {mg:Str → Option Value} {fa:Addr} (X:K.In h) (G:h.Ns mainGlobals mg) (V8:mg "law" = some (.ref fa))
  {f0:Addr} {V9 V_:Option Addr} {Wa:Array (Option Value)} {Wb Wc Wd We T6 Wf:Value}
  {f1:Addr} {Wg Wh:Option Addr} {Wi:Array (Option Value)} {Wj Wk Wl Wm T7 Wn:Value}
  {f2:Addr} {Wq Wr:Option Addr} {Gx:Array (Option Value)} {Ws Wt Wu Wv T8 Ww:Value}
  {f3:Addr} {Wx Wy:Option Addr} {Wz:Array (Option Value)} {WA WB WC WD T9 WE:Value}
  {f4:Addr} {WG WH:Option Addr} {WI:Array (Option Value)} {WJ WK WL WM T_ WN:Value}
  {f5:Addr} {WO WQ:Option Addr} {WR:Array (Option Value)} {WS WT WU WV Ua WW:Value}
  {f6:Addr} {WX WY:Option Addr} {WZ:Array (Option Value)} {W2 W3 W4 W5 Ub W6:Value}
  {f7:Addr} {W7 W8:Option Addr} {W9:Array (Option Value)} {W_ Xa Xb Xc Uc Xd:Value}
  {f8:Addr} {Xe Xf:Option Addr} {Xg:Array (Option Value)} {Xh Xi Xj Xk Ud Xl:Value}
  {f9:Addr} {Xm Xn:Option Addr} {Xo:Array (Option Value)} {Xp Xq Xr Xs Ue Xt:Value}
  {Lh:Addr} {OV OW:Option Addr} {OX:Array (Option Value)} {OY OZ O0 O1 Ln O2:Value}
  {O3:Addr} {O4 O5:Option Addr} {O6:Array (Option Value)} {O7 O8 O9 O_ Lo Pa:Value}
  {Ld:Addr} {Pb Pc:Option Addr} {Pd:Array (Option Value)} {Pe Pf Pg Ph Lp Pj:Value}
  {Le:Addr} {Pk Pl:Option Addr} {Pm:Array (Option Value)} {Pn Po Pp Pq Lq Pr:Value}
  {Lf:Addr} {Pt Pu:Option Addr} {Pw:Array (Option Value)} {Px Py Pz PB Lr PD:Value}
  {Lg:Addr} {PF PJ:Option Addr} {PL:Array (Option Value)} {PN PO PQ PR Ls PU:Value}
  {PV:Addr} {PX PY:Option Addr} {PZ:Array (Option Value)} {P0 P_ Qa Qb Lu Qc:Value}
  {Qd:Addr} {Qe Qf:Option Addr} {Qg:Array (Option Value)} {Qh Qi Qj Qk Lv Ql:Value}
  {Qm:Addr} {Qn Qo:Option Addr} {Qp:Array (Option Value)} {Qq Qr Qs Qt Lw Qu:Value}
  {Qv:Addr} {Qw Qx:Option Addr} {Qy:Array (Option Value)} {Qz QA QB QC Lx QD:Value}
  {QE:Addr} {QF QG:Option Addr} {QH:Array (Option Value)} {QI QJ QK QL Ly QM:Value}
  {QN:Addr} {QO QP:Option Addr} {QQ:Array (Option Value)} {QR QS QT QU Lz QV:Value}
  {QW:Addr} {QX QY:Option Addr} {QZ:Array (Option Value)} {Q0 Q1 Q2 Q3 LA Q4:Value}
  {Q5:Addr} {Q6 Q7:Option Addr} {Q8:Array (Option Value)} {Q9 Q_ Ra Rb Rc:Value} {jT:Addr}
  {Rf:Addr} {Rg Rh:Option Addr} {Ri:Array (Option Value)} {Rj Rk Rm Rn LB Ro:Value}
  {Rp:Addr} {Rq LC:Option Addr} {Rr:Array (Option Value)} {Rt LD LF LG ID LH:Value}
  {sV:Tok}
  {iV:Addr} {nL:Option Addr} {nM:Nat} {nN:Array (Option Value)} {mF mG mH mI mJ mK mL mM mO mP k_:Tok}
  {b9:Addr} {lg:ClassData}
  {eG:Addr} {vm:ClassData}
  {cL:Addr} {sW:ClassData}
  {q:Program} {d:DefRec} {tT:Addr} {Xu:Value} {Xv:Option Addr} {Xw:Array (Option Value)} {Ug:Array Value}
  (a0:PySem.W.nsIn K mainGlobals "is_whole" = some (some (.ref f0))) (l0:K.lookup f0 = some ⟨Wb,V9,.func (PySem.W.fnOf "is_whole" "is_whole" (aS (top 7)) (aM (top 7)) (ao (top 7)) .none Wc Wd We V_ T6 Wf),Wa⟩) (c0:PySem.W.codeIn K T6 "is_whole" = true) (k0:PySem.W.keepIn K (.ref f0) = true)
  (a1:PySem.W.nsIn K mainGlobals "is_prime_within" = some (some (.ref f1))) (l1:K.lookup f1 = some ⟨Wj,Wg,.func (PySem.W.fnOf "is_prime_within" "is_prime_within" (aS (top 8)) (aM (top 8)) (ao (top 8)) .none Wk Wl Wm Wh T7 Wn),Wi⟩) (c1:PySem.W.codeIn K T7 "is_prime_within" = true) (k1:PySem.W.keepIn K (.ref f1) = true)
  (a2:PySem.W.nsIn K mainGlobals "rest_in_ring" = some (some (.ref f2))) (l2:K.lookup f2 = some ⟨Ws,Wq,.func (PySem.W.fnOf "rest_in_ring" "rest_in_ring" (aS (top 11)) (aM (top 11)) (ao (top 11)) .none Wt Wu Wv Wr T8 Ww),Gx⟩) (c2:PySem.W.codeIn K T8 "rest_in_ring" = true) (k2:PySem.W.keepIn K (.ref f2) = true)
  (a3:PySem.W.nsIn K mainGlobals "add_to" = some (some (.ref f3))) (l3:K.lookup f3 = some ⟨WA,Wx,.func (PySem.W.fnOf "add_to" "add_to" (aS (top 14)) (aM (top 14)) (ao (top 14)) .none WB WC WD Wy T9 WE),Wz⟩) (c3:PySem.W.codeIn K T9 "add_to" = true) (k3:PySem.W.keepIn K (.ref f3) = true)
  (a4:PySem.W.nsIn K mainGlobals "joined" = some (some (.ref f4))) (l4:K.lookup f4 = some ⟨WJ,WG,.func (PySem.W.fnOf "joined" "joined" (aS (top 19)) (aM (top 19)) (ao (top 19)) .none WK WL WM WH T_ WN),WI⟩) (c4:PySem.W.codeIn K T_ "joined" = true) (k4:PySem.W.keepIn K (.ref f4) = true)
  (a5:PySem.W.nsIn K mainGlobals "_law_whole" = some (some (.ref f5))) (l5:K.lookup f5 = some ⟨WS,WO,.func (PySem.W.fnOf "_law_whole" "_law_whole" (aS (top 22)) (aM (top 22)) (ao (top 22)) .none WT WU WV WQ Ua WW),WR⟩) (c5:PySem.W.codeIn K Ua "_law_whole" = true) (k5:PySem.W.keepIn K (.ref f5) = true)
  (a6:PySem.W.nsIn K mainGlobals "_law_cell_at" = some (some (.ref f6))) (l6:K.lookup f6 = some ⟨W2,WX,.func (PySem.W.fnOf "_law_cell_at" "_law_cell_at" (aS (top 23)) (aM (top 23)) (ao (top 23)) .none W3 W4 W5 WY Ub W6),WZ⟩) (c6:PySem.W.codeIn K Ub "_law_cell_at" = true) (k6:PySem.W.keepIn K (.ref f6) = true)
  (a7:PySem.W.nsIn K mainGlobals "_law_prime" = some (some (.ref f7))) (l7:K.lookup f7 = some ⟨W_,W7,.func (PySem.W.fnOf "_law_prime" "_law_prime" (aS (top 24)) (aM (top 24)) (ao (top 24)) .none Xa Xb Xc W8 Uc Xd),W9⟩) (c7:PySem.W.codeIn K Uc "_law_prime" = true) (k7:PySem.W.keepIn K (.ref f7) = true)
  (a8:PySem.W.nsIn K mainGlobals "_law_settled" = some (some (.ref f8))) (l8:K.lookup f8 = some ⟨Xh,Xe,.func (PySem.W.fnOf "_law_settled" "_law_settled" (aS (top 26)) (aM (top 26)) (ao (top 26)) .none Xi Xj Xk Xf Ud Xl),Xg⟩) (c8:PySem.W.codeIn K Ud "_law_settled" = true) (k8:PySem.W.keepIn K (.ref f8) = true)
  (a9:PySem.W.nsIn K mainGlobals "_law_number" = some (some (.ref f9))) (l9:K.lookup f9 = some ⟨Xp,Xm,.func (PySem.W.fnOf "_law_number" "_law_number" (aS (top 29)) (aM (top 29)) (ao (top 29)) .none Xq Xr Xs Xn Ue Xt),Xo⟩) (c9:PySem.W.codeIn K Ue "_law_number" = true) (k9:PySem.W.keepIn K (.ref f9) = true)
  (Ru:PySem.W.nsIn K mainGlobals "_law_exponents" = some (some (.ref Lh))) (Rv:K.lookup Lh = some ⟨OY,OV,.func (PySem.W.fnOf "_law_exponents" "_law_exponents" (aS (top 30)) (aM (top 30)) (ao (top 30)) .none OZ O0 O1 OW Ln O2),OX⟩) (Rw:PySem.W.codeIn K Ln "_law_exponents" = true) (Rx:PySem.W.keepIn K (.ref Lh) = true)
  (Ry:PySem.W.nsIn K mainGlobals "is_ring" = some (some (.ref O3))) (Rz:K.lookup O3 = some ⟨O7,O4,.func (PySem.W.fnOf "is_ring" "is_ring" (aS (top 9)) (aM (top 9)) (ao (top 9)) .none O8 O9 O_ O5 Lo Pa),O6⟩) (RA:PySem.W.codeIn K Lo "is_ring" = true) (RC:PySem.W.keepIn K (.ref O3) = true)
  (RD:PySem.W.nsIn K mainGlobals "settled_terms" = some (some (.ref Ld))) (RE:K.lookup Ld = some ⟨Pe,Pb,.func (PySem.W.fnOf "settled_terms" "settled_terms" (aS (top 15)) (aM (top 15)) (ao (top 15)) .none Pf Pg Ph Pc Lp Pj),Pd⟩) (RF:PySem.W.codeIn K Lp "settled_terms" = true) (RG:PySem.W.keepIn K (.ref Ld) = true)
  (RH:PySem.W.nsIn K mainGlobals "_law_ring" = some (some (.ref Le))) (RI:K.lookup Le = some ⟨Pn,Pk,.func (PySem.W.fnOf "_law_ring" "_law_ring" (aS (top 25)) (aM (top 25)) (ao (top 25)) .none Po Pp Pq Pl Lq Pr),Pm⟩) (RJ:PySem.W.codeIn K Lq "_law_ring" = true) (RK:PySem.W.keepIn K (.ref Le) = true)
  (RL:PySem.W.nsIn K mainGlobals "_law_gathered" = some (some (.ref Lf))) (RM:K.lookup Lf = some ⟨Px,Pt,.func (PySem.W.fnOf "_law_gathered" "_law_gathered" (aS (top 27)) (aM (top 27)) (ao (top 27)) .none Py Pz PB Pu Lr PD),Pw⟩) (RN:PySem.W.codeIn K Lr "_law_gathered" = true) (RO:PySem.W.keepIn K (.ref Lf) = true)
  (RP:PySem.W.nsIn K mainGlobals "_law_same" = some (some (.ref Lg))) (RQ:K.lookup Lg = some ⟨PN,PF,.func (PySem.W.fnOf "_law_same" "_law_same" (aS (top 28)) (aM (top 28)) (ao (top 28)) .none PO PQ PR PJ Ls PU),PL⟩) (RT:PySem.W.codeIn K Ls "_law_same" = true) (RU:PySem.W.keepIn K (.ref Lg) = true)
  (RV:PySem.W.nsIn K mainGlobals "_law_pairs" = some (some (.ref PV))) (RW:K.lookup PV = some ⟨P0,PX,.func (PySem.W.fnOf "_law_pairs" "_law_pairs" (aS (top 31)) (aM (top 31)) (ao (top 31)) .none P_ Qa Qb PY Lu Qc),PZ⟩) (RX:PySem.W.codeIn K Lu "_law_pairs" = true) (RY:PySem.W.keepIn K (.ref PV) = true)
  (RZ:PySem.W.nsIn K mainGlobals "check_ring" = some (some (.ref Qd))) (R0:K.lookup Qd = some ⟨Qh,Qe,.func (PySem.W.fnOf "check_ring" "check_ring" (aS (top 10)) (aM (top 10)) (ao (top 10)) .none Qi Qj Qk Qf Lv Ql),Qg⟩) (R3:PySem.W.codeIn K Lv "check_ring" = true) (R4:PySem.W.keepIn K (.ref Qd) = true)
  (R5:PySem.W.nsIn K mainGlobals "sum_of_totals" = some (some (.ref Qm))) (R6:K.lookup Qm = some ⟨Qq,Qn,.func (PySem.W.fnOf "sum_of_totals" "sum_of_totals" (aS (top 16)) (aM (top 16)) (ao (top 16)) .none Qr Qs Qt Qo Lw Qu),Qp⟩) (R7:PySem.W.codeIn K Lw "sum_of_totals" = true) (R8:PySem.W.keepIn K (.ref Qm) = true)
  (R9:PySem.W.nsIn K mainGlobals "_law_times" = some (some (.ref Qv))) (R_:K.lookup Qv = some ⟨Qz,Qw,.func (PySem.W.fnOf "_law_times" "_law_times" (aS (top 32)) (aM (top 32)) (ao (top 32)) .none QA QB QC Qx Lx QD),Qy⟩) (Sa:PySem.W.codeIn K Lx "_law_times" = true) (Sb:PySem.W.keepIn K (.ref Qv) = true)
  (Sd:PySem.W.nsIn K mainGlobals "product" = some (some (.ref QE))) (Se:K.lookup QE = some ⟨QI,QF,.func (PySem.W.fnOf "product" "product" (aS (top 18)) (aM (top 18)) (ao (top 18)) .none QJ QK QL QG Ly QM),QH⟩) (Sf:PySem.W.codeIn K Ly "product" = true) (Sg:PySem.W.keepIn K (.ref QE) = true)
  (Sh:PySem.W.nsIn K mainGlobals "times" = some (some (.ref QN))) (Si:K.lookup QN = some ⟨QR,QO,.func (PySem.W.fnOf "times" "times" (aS (top 17)) (aM (top 17)) (ao (top 17)) .none QS QT QU QP Lz QV),QQ⟩) (Sj:PySem.W.codeIn K Lz "times" = true) (Sk:PySem.W.keepIn K (.ref QN) = true)
  (Sl:PySem.W.nsIn K mainGlobals "repeated" = some (some (.ref QW))) (Sm:K.lookup QW = some ⟨Q0,QX,.func (PySem.W.fnOf "repeated" "repeated" (aS (top 12)) (aM (top 12)) (ao (top 12)) .none Q1 Q2 Q3 QY LA Q4),QZ⟩) (Sn:PySem.W.codeIn K LA "repeated" = true) (So:PySem.W.keepIn K (.ref QW) = true)
  (LJ:PySem.W.nsIn K mainGlobals "raised" = some (some (.ref Q5))) (My:K.lookup Q5 = some ⟨Q9,Q6,.func (PySem.W.fnOf "raised" "raised" (aS (top 20)) (aM (top 20)) (ao (top 20)) .none Q_ Ra Rb Q7 (.ref jT) Rc),Q8⟩) (Sq:PySem.W.codeIn K (.ref jT) "raised" = true) (Sr:PySem.W.keepIn K (.ref Q5) = true)
  (Ss:PySem.W.nsIn K mainGlobals "_law_refused" = some (some (.ref Rf))) (Su:K.lookup Rf = some ⟨Rj,Rg,.func (PySem.W.fnOf "_law_refused" "_law_refused" (aS (top 33)) (aM (top 33)) (ao (top 33)) .none Rk Rm Rn Rh LB Ro),Ri⟩) (Sv:PySem.W.codeIn K LB "_law_refused" = true) (Sw:PySem.W.keepIn K (.ref Rf) = true)
  (Sx:PySem.W.nsIn K mainGlobals "law" = some (some (.ref Rp))) (Sy:K.lookup Rp = some ⟨Rt,Rq,.func (PySem.W.fnOf "law" "law" (aS (top 34)) (aM (top 34)) (ao (top 34)) .none LD LF LG LC ID LH),Rr⟩) (SA:PySem.W.codeIn K ID "law" = true) (SD:PySem.W.keepIn K (.ref Rp) = true)
  (eI:PySem.W.nsIn K mainGlobals "ValueError" = some none)
  (wC:PySem.W.nsIn K mainGlobals "all" = some none)
  (sZ:PySem.W.nsIn K mainGlobals "bool" = some none)
  (wD:PySem.W.nsIn K mainGlobals "int" = some none)
  (hJ:PySem.W.nsIn K mainGlobals "isinstance" = some none)
  (wF:PySem.W.nsIn K mainGlobals "len" = some none)
  (s_:PySem.W.nsIn K mainGlobals "list" = some none)
  (wG:PySem.W.nsIn K mainGlobals "min" = some none)
  (pP:PySem.W.nsIn K mainGlobals "range" = some none)
  (mQ:PySem.W.nsIn K mainGlobals "sorted" = some none)
  (pQ:PySem.W.nsIn K mainGlobals "tuple" = some none)
  (wH:PySem.W.nsIn K mainGlobals "zip" = some none)
  (iM:PySem.W.nsIn K mainGlobals "MOST_RING" = some (some (.int 997 sV)))
  (fU:PySem.W.nsIn K mainGlobals "FIRST_PRIMES" = some (some (.ref iV))) (fV:K.lookup iV = some ⟨.type "tuple",nL,.seq #[.int 2 mF,.int 3 mG,.int 5 mH,.int 7 mI,.int 11 mJ,.int 13 mK,.int 17 mL,.int 19 mM,.int 23 mO,.int 29 mP,.int 31 k_] nM,nN⟩)
  (dG:PySem.W.nsIn K mainGlobals "AlgebraError" = some (some (.ref b9))) (eJ:PySem.W.clsIn K b9 = some lg) (eM:PySem.W.typeIn K (.ref b9) = some (.type "type")) (fW:PySem.W.excIn K b9 Mg "ValueError.__new__" = true) (fX:PySem.W.subIn K (.ref b9) (.type "BaseException") = some true)
  (fG:PySem.W.nsIn K mainGlobals "NoRing" = some (some (.ref eG))) (rE:PySem.W.clsIn K eG = some vm) (rF:PySem.W.typeIn K (.ref eG) = some (.type "type")) (jH:PySem.W.excIn K eG Mg "ValueError.__new__" = true) (jI:PySem.W.subIn K (.ref eG) (.type "BaseException") = some true)
  (dA:PySem.W.nsIn K mainGlobals "NoCount" = some (some (.ref cL))) (iN:PySem.W.clsIn K cL = some sW) (iO:PySem.W.typeIn K (.ref cL) = some (.type "type")) (iP:PySem.W.excIn K cL Mg "ValueError.__new__" = true) (iQ:PySem.W.subIn K (.ref cL) (.type "BaseException") = some true)
  (SE:PySem.W.subIn K (.ref eG) (.ref cL) = some false)
  (SF:PySem.W.subIn K (.ref eG) (.ref b9) = some true)
  (SG:PySem.W.kitOne K (.ref eG) (.type "ValueError") = some true)
  (SH:PySem.W.subIn K (.ref cL) (.ref cL) = some true)
  (SI:PySem.W.subIn K (.ref cL) (.ref b9) = some true)
  (SJ:PySem.W.kitOne K (.ref cL) (.type "ValueError") = some true)
  (zr:(recsOf q).find? (fun e => e.name == ("raised":Str)) = some d) (zk:K.lookup jT = some ⟨Xu,Xv,.fields Ug,Xw⟩) (zv:Ug[11]? = some (.ref tT)) (zn:PySem.W.noTabs K = true) :
  ∃ (fd:FuncData) (ts:List (Addr × Addr)),nu q K [.tab M.own M.line M.col M.S.qual] ts ∧ (ts.map (·.2)).Nodup ∧ PySem.W.noTabs K = true ∧ (∀ (s:Shared) (v:Value),BindsTo s fd ⟨[v],[]⟩ [("_law_script",v)]) ∧ ∀ base:Heap,K.In base → base.Ns mainGlobals mg → cP mg base ts → jK l.prog w K mg base (iY l.prog w) 9 fa fd ["_law_script"] (Fe ⟨K,mg,[]⟩ (vd M)):=by
 have e:=V8.symm.trans (PySem.W.mg_of X G Sx)
 cases e
 have T:Txt K mg:=⟨PySem.W.mg_none_of X G eI,PySem.W.mg_none_of X G wC,PySem.W.mg_none_of X G sZ,PySem.W.mg_none_of X G wD,PySem.W.mg_none_of X G hJ,PySem.W.mg_none_of X G wF,PySem.W.mg_none_of X G s_,PySem.W.mg_none_of X G wG,PySem.W.mg_none_of X G pP,PySem.W.mg_none_of X G mQ,PySem.W.mg_none_of X G pQ,PySem.W.mg_none_of X G wH,Glob.int (PySem.W.mg_of X G iM),Glob.ints (ns:=[2,3,5,7,11,13,17,19,23,29,31]) (PySem.W.mg_of X G fU) fV rfl rfl (by simp [sizeLine_eq]) (.cons ⟨_,rfl⟩ (.cons ⟨_,rfl⟩ (.cons ⟨_,rfl⟩ (.cons ⟨_,rfl⟩ (.cons ⟨_,rfl⟩ (.cons ⟨_,rfl⟩ (.cons ⟨_,rfl⟩ (.cons ⟨_,rfl⟩ (.cons ⟨_,rfl⟩ (.cons ⟨_,rfl⟩ (.cons ⟨_,rfl⟩ (.nil)))))))))))),⟨b9,PySem.W.mg_of X G dG,fW,fX⟩,⟨eG,PySem.W.mg_of X G fG,jH,jI⟩,⟨cL,PySem.W.mg_of X G dA,iP,iQ⟩,(.own (PySem.W.mg_of X G fG) (PySem.W.mg_of X G dA) (jz iN iO SE) (.own (PySem.W.mg_of X G fG) (PySem.W.mg_of X G dG) (jz eJ eM SF) (.blt (PySem.W.mg_of X G fG) (PySem.W.mg_none_of X G eI) gY SG (.own (PySem.W.mg_of X G dA) (PySem.W.mg_of X G dA) (jz iN iO SH) (.own (PySem.W.mg_of X G dA) (PySem.W.mg_of X G dG) (jz eJ eM SI) (.blt (PySem.W.mg_of X G dA) (PySem.W.mg_none_of X G eI) gY SJ .nil)))))),AU (fun c hc => by
  simp only [kn,List.mem_cons,List.mem_nil_iff,or_false] at hc
  rcases hc with rfl | rfl
  ·exact ⟨eG,PySem.W.mg_of X G fG,jH,jI⟩
  ·exact ⟨cL,PySem.W.mg_of X G dA,iP,iQ⟩)⟩
 have zt:PySem.W.tabIn K "raised" = some (jT,tT):=Hz LJ My rfl zk zv
 have pR:=fun (base:Heap) (hB:cP mg base [(jT,tT)]) => vi (P:=l.prog) (w:=w) (base:=base) (bX (st:=top 7) l0 c0 k0) (PySem.W.mg_of X G a0) T
 have lh:=fun (base:Heap) (hB:cP mg base [(jT,tT)]) => kh (P:=l.prog) (w:=w) (base:=base) (bX (st:=top 8) l1 c1 k1) (PySem.W.mg_of X G a1) T
 have pS:=fun (base:Heap) (hB:cP mg base [(jT,tT)]) => nC (P:=l.prog) (w:=w) (base:=base) (bX (st:=top 11) l2 c2 k2) (PySem.W.mg_of X G a2) T
 have Cq:=fun (base:Heap) (hB:cP mg base [(jT,tT)]) => zj (P:=l.prog) (w:=w) (base:=base) (bX (st:=top 14) l3 c3 k3) (PySem.W.mg_of X G a3) T
 have Cr:=fun (base:Heap) (hB:cP mg base [(jT,tT)]) => zq (P:=l.prog) (w:=w) (base:=base) (bX (st:=top 19) l4 c4 k4) (PySem.W.mg_of X G a4) T
 have ti:=fun (base:Heap) (hB:cP mg base [(jT,tT)]) => qe (P:=l.prog) (w:=w) (base:=base) (bX (st:=top 22) l5 c5 k5) (PySem.W.mg_of X G a5) T
 have jv:=fun (base:Heap) (hB:cP mg base [(jT,tT)]) => nE (P:=l.prog) (w:=w) (base:=base) (bX (st:=top 23) l6 c6 k6) (PySem.W.mg_of X G a6) T
 have tj:=fun (base:Heap) (hB:cP mg base [(jT,tT)]) => qf (P:=l.prog) (w:=w) (base:=base) (bX (st:=top 24) l7 c7 k7) (PySem.W.mg_of X G a7) T
 have pT:=fun (base:Heap) (hB:cP mg base [(jT,tT)]) => nG (P:=l.prog) (w:=w) (base:=base) (bX (st:=top 26) l8 c8 k8) (PySem.W.mg_of X G a8) T
 have jU:=fun (base:Heap) (hB:cP mg base [(jT,tT)]) => pM (P:=l.prog) (w:=w) (base:=base) (bX (st:=top 29) l9 c9 k9) (PySem.W.mg_of X G a9) T
 have iw:=fun (base:Heap) (hB:cP mg base [(jT,tT)]) => kR (P:=l.prog) (w:=w) (base:=base) (bX (st:=top 30) Rv Rw Rx) (PySem.W.mg_of X G Ru) T
 have zy:=fun (base:Heap) (hB:cP mg base [(jT,tT)]) => wz (P:=l.prog) (w:=w) (base:=base) (bX (st:=top 9) Rz RA RC) (PySem.W.mg_of X G Ry) T (pR base hB) (lh base hB)
 have nO:=fun (base:Heap) (hB:cP mg base [(jT,tT)]) => mw (P:=l.prog) (w:=w) (base:=base) (bX (st:=top 15) RE RF RG) (PySem.W.mg_of X G RD) T (pS base hB)
 have vn:=fun (base:Heap) (hB:cP mg base [(jT,tT)]) => sS (P:=l.prog) (w:=w) (base:=base) (bX (st:=top 25) RI RJ RK) (PySem.W.mg_of X G RH) T (tj base hB)
 have iW:=fun (base:Heap) (hB:cP mg base [(jT,tT)]) => mB (P:=l.prog) (w:=w) (base:=base) (bX (st:=top 27) RM RN RO) (PySem.W.mg_of X G RL) T (pT base hB)
 have vo:=fun (base:Heap) (hB:cP mg base [(jT,tT)]) => sU (P:=l.prog) (w:=w) (base:=base) (bX (st:=top 28) RQ RT RU) (PySem.W.mg_of X G RP) T (ti base hB)
 have tm:=fun (base:Heap) (hB:cP mg base [(jT,tT)]) => qi (P:=l.prog) (w:=w) (base:=base) (bX (st:=top 31) RW RX RY) (PySem.W.mg_of X G RV) T (jv base hB) (jU base hB) (iw base hB)
 have lq:=fun (base:Heap) (hB:cP mg base [(jT,tT)]) => qm (P:=l.prog) (w:=w) (base:=base) (bX (st:=top 10) R0 R3 R4) (PySem.W.mg_of X G RZ) T (zy base hB)
 have nP:=fun (base:Heap) (hB:cP mg base [(jT,tT)]) => mE (P:=l.prog) (w:=w) (base:=base) (bX (st:=top 16) R6 R7 R8) (PySem.W.mg_of X G R5) T (nO base hB)
 have tq:=fun (base:Heap) (hB:cP mg base [(jT,tT)]) => qo (P:=l.prog) (w:=w) (base:=base) (bX (st:=top 32) R_ Sa Sb) (PySem.W.mg_of X G R9) T (iW base hB)
 have mR:=fun (base:Heap) (hB:cP mg base [(jT,tT)]) => wA (P:=l.prog) (w:=w) (base:=base) (bX (st:=top 18) Se Sf Sg) (PySem.W.mg_of X G Sd) T (Cq base hB) (Cr base hB) (nP base hB)
 have EO:=fun (base:Heap) (hB:cP mg base [(jT,tT)]) => Co (P:=l.prog) (w:=w) (base:=base) (bX (st:=top 17) Si Sj Sk) (PySem.W.mg_of X G Sh) T (lq base hB) (mR base hB)
 have wI:=fun (base:Heap) (hB:cP mg base [(jT,tT)]) => vj (P:=l.prog) (w:=w) (base:=base) (bX (st:=top 12) Sm Sn So) (PySem.W.mg_of X G Sl) T (EM T (mR base hB))
 have vp:=fun (base:Heap) (hB:cP mg base [(jT,tT)]) => zx (P:=l.prog) (w:=w) (base:=base) ⟨zt,(hB _ (.head _)).1,(hB _ (.head _)).2.1,(hB _ (.head _)).2.2⟩ (bX (st:=top 20) My Sq Sr) LJ (PySem.W.mg_of X G LJ) T (pR base hB) (lq base hB) (mR base hB) (wI base hB)
 have pU:=fun (base:Heap) (hB:cP mg base [(jT,tT)]) => nK (P:=l.prog) (w:=w) (base:=base) (bX (st:=top 33) Su Sv Sw) (PySem.W.mg_of X G Ss) T (vp base hB)
 refine ⟨PySem.W.fnOf "law" "law" (aS (top 34)) (aM (top 34)) (ao (top 34)) .none LD LF LG LC ID LH,[(jT,tT)],.cons zr zt .nil,by simp,zn,fun s v => .of_eq rfl,fun base _ _ hB => ?_⟩
 exact IC (bX (st:=top 34) Sy SA SD) T (jv base hB) (jU base hB) (iw base hB) (vn base hB) (iW base hB) (vo base hB) (tm base hB) (tq base hB) (EO base hB) (vp base hB) (pU base hB)
end tF
open PySem PySem.W PyProof.Rows
set_option maxRecDepth 100000 in
set_option maxHeartbeats 0 in
theorem PySem.Challenge.cw_polyring_k07_products_holds : PySem.Challenge.rw_polyring_k07_products.Holds := by
 w_on; o_law; k_head; (case hw => w_witness2)
 k_fill
 refine MN.yF (f:=(tF.vd tF.M)) (cs:=[.tab tF.M.own tF.M.line tF.M.col tF.M.S.qual]) (l:=PySem.Challenge.rw_polyring_k07_products) (k:=9) (x:="_law_script") rfl rfl ⟨rfl,by decide,by decide⟩ (tF.Cf tF.M rfl) (fun w h Y => PySem.W.km_in_of Y) ?F
 case F =>
  intro w mg fa h KX G JK
  refine' tF.all_mk KX G JK ?a0 ?l0 ?c0 ?k0 ?a1 ?l1 ?c1 ?k1 ?a2 ?l2 ?c2 ?k2 ?a3 ?l3 ?c3 ?k3 ?a4 ?l4 ?c4 ?k4 ?a5 ?l5 ?c5 ?k5 ?a6 ?l6 ?c6 ?k6 ?a7 ?l7 ?c7 ?k7 ?a8 ?l8 ?c8 ?k8 ?a9 ?l9 ?c9 ?k9 ?Ru ?Rv ?Rw ?Rx ?Ry ?Rz ?RA ?RC ?RD ?RE ?RF ?RG ?RH ?RI ?RJ ?RK ?RL ?RM ?RN ?RO ?RP ?RQ ?RT ?RU ?RV ?RW ?RX ?RY ?RZ ?R0 ?R3 ?R4 ?R5 ?R6 ?R7 ?R8 ?R9 ?R_ ?Sa ?Sb ?Sd ?Se ?Sf ?Sg ?Sh ?Si ?Sj ?Sk ?Sl ?Sm ?Sn ?So ?LJ ?My ?Sq ?Sr ?Ss ?Su ?Sv ?Sw ?Sx ?Sy ?SA ?SD ?eI ?wC ?sZ ?wD ?hJ ?wF ?s_ ?wG ?pP ?mQ ?pQ ?wH ?iM ?fU ?fV ?dG ?eJ ?eM ?fW ?fX ?fG ?rE ?rF ?jH ?jI ?dA ?iN ?iO ?iP ?iQ ?SE ?SF ?SG ?SH ?SI ?SJ ?zr ?zk ?zv ?zn
  (case a0 => k_is)
  (case l0 => k_is)
  (case c0 => k_is)
  (case k0 => k_is)
  (case a1 => k_is)
  (case l1 => k_is)
  (case c1 => k_is)
  (case k1 => k_is)
  (case a2 => k_is)
  (case l2 => k_is)
  (case c2 => k_is)
  (case k2 => k_is)
  (case a3 => k_is)
  (case l3 => k_is)
  (case c3 => k_is)
  (case k3 => k_is)
  (case a4 => k_is)
  (case l4 => k_is)
  (case c4 => k_is)
  (case k4 => k_is)
  (case a5 => k_is)
  (case l5 => k_is)
  (case c5 => k_is)
  (case k5 => k_is)
  (case a6 => k_is)
  (case l6 => k_is)
  (case c6 => k_is)
  (case k6 => k_is)
  (case a7 => k_is)
  (case l7 => k_is)
  (case c7 => k_is)
  (case k7 => k_is)
  (case a8 => k_is)
  (case l8 => k_is)
  (case c8 => k_is)
  (case k8 => k_is)
  (case a9 => k_is)
  (case l9 => k_is)
  (case c9 => k_is)
  (case k9 => k_is)
  (case Ru => k_is)
  (case Rv => k_is)
  (case Rw => k_is)
  (case Rx => k_is)
  (case Ry => k_is)
  (case Rz => k_is)
  (case RA => k_is)
  (case RC => k_is)
  (case RD => k_is)
  (case RE => k_is)
  (case RF => k_is)
  (case RG => k_is)
  (case RH => k_is)
  (case RI => k_is)
  (case RJ => k_is)
  (case RK => k_is)
  (case RL => k_is)
  (case RM => k_is)
  (case RN => k_is)
  (case RO => k_is)
  (case RP => k_is)
  (case RQ => k_is)
  (case RT => k_is)
  (case RU => k_is)
  (case RV => k_is)
  (case RW => k_is)
  (case RX => k_is)
  (case RY => k_is)
  (case RZ => k_is)
  (case R0 => k_is)
  (case R3 => k_is)
  (case R4 => k_is)
  (case R5 => k_is)
  (case R6 => k_is)
  (case R7 => k_is)
  (case R8 => k_is)
  (case R9 => k_is)
  (case R_ => k_is)
  (case Sa => k_is)
  (case Sb => k_is)
  (case Sd => k_is)
  (case Se => k_is)
  (case Sf => k_is)
  (case Sg => k_is)
  (case Sh => k_is)
  (case Si => k_is)
  (case Sj => k_is)
  (case Sk => k_is)
  (case Sl => k_is)
  (case Sm => k_is)
  (case Sn => k_is)
  (case So => k_is)
  (case LJ => k_is)
  (case My => k_is)
  (case Sq => k_is)
  (case Sr => k_is)
  (case Ss => k_is)
  (case Su => k_is)
  (case Sv => k_is)
  (case Sw => k_is)
  (case Sx => k_is)
  (case Sy => k_is)
  (case SA => k_is)
  (case SD => k_is)
  (case eI => k_is)
  (case wC => k_is)
  (case sZ => k_is)
  (case wD => k_is)
  (case hJ => k_is)
  (case wF => k_is)
  (case s_ => k_is)
  (case wG => k_is)
  (case pP => k_is)
  (case mQ => k_is)
  (case pQ => k_is)
  (case wH => k_is)
  (case iM => k_is)
  (case fU => k_is)
  (case fV => k_is)
  (case dG => k_is)
  (case eJ => k_is)
  (case eM => k_is)
  (case fW => k_exc)
  (case fX => k_is)
  (case fG => k_is)
  (case rE => k_is)
  (case rF => k_is)
  (case jH => k_exc)
  (case jI => k_is)
  (case dA => k_is)
  (case iN => k_is)
  (case iO => k_is)
  (case iP => k_exc)
  (case iQ => k_is)
  (case SE => first | k_is | kit_is)
  (case SF => first | k_is | kit_is)
  (case SG => first | k_is | kit_is)
  (case SH => first | k_is | kit_is)
  (case SI => first | k_is | kit_is)
  (case SJ => first | k_is | kit_is)
  (case zr => rfl)
  (case zk => k_is)
  (case zv => rfl)
  (case zn => first | k_is | kernel_rfl)
