import PyProof.Rows.All
import Wide.All
import OpenK.AllK
import Wide.FinOn
import Lean
import PyProof.EqAt
import PyProof.EqKinds
import PyProof.TupleCall
import PyProof.NeKinds
import PyProof.ZipIter
import PyProof.FitsBits
import KE.KRevIter
import KE.KStateDown
import PyProof.Rows.Range3
import PyProof.EnumFor
import PyProof.EnumMake
import PyProof.EnumStmt
import PyProof.Rows.SumAny
import PyProof.ListIndex
import PyProof.ListIndexNeg
import PyProof.WalkInts
import PyProof.Conv_int_bool
import PyProof.SumAny
import KE.KLam
import PyProof.Rows.FactsN_abs
import PyProof.ExcBaseAll.ValueError
import KE.KIsAll
import PyProof.ExcAttrAll.ValueError
import KE.KSortTup
import KE.KDictList
import PyProof.Rows.SortRuns
import KE.KDictOf
import PyProof.AttrMissHeap
import PyProof.DictRoadsH
import PyProof.Seq
import PyProof.ConsumeS
import KE.IntBitsLaws
import PyProof.DictWalks
import PyProof.DictItems
import KE.KPairComp
import PySem.Challenge.RW_polyring_k35_differences_of_terms
set_option Elab.async false
set_option linter.all false
set_option maxRecDepth 100000
set_option maxHeartbeats 4000000
set_option compiler.extract_closed false
set_option genSizeOf false
-- Kt: Od Nh module here,as An last of Ni rows
namespace L2
open PySem PySem.Spec PyProof.Rows
noncomputable abbrev cq:=Sum Int Str
noncomputable def j?:cq → Value → Bool
 | .inl k,v => Value.isInt k v
 | .inr x,v => Value.isStrOf x v
noncomputable def Ku (w:World):cq → Int
 | .inl k => hashInt k
 | .inr x => hashStr w x
theorem bW:∀ {k:cq} {v:Value},j? k v = true → (∃ i t,k = Sum.inl i ∧ v = Value.int i t) ∨ (∃ x t,k = Sum.inr x ∧ v = Value.str x t)
 | .inl i,v,h => by
  obtain ⟨t,e⟩:=Value.isInt_shape (k:=i) (v:=v) h
  exact .inl ⟨i,t,rfl,e⟩
 | .inr x,v,h => by
  obtain ⟨t,e⟩:=Value.isStrOf_shape (x:=x) (v:=v) h
  exact .inr ⟨x,t,rfl,e⟩
theorem vq (i:Int) (t:Tok):j? (.inl i) (.int i t) = true:=by simp [j?,Value.isInt]
theorem vt (x:Str) (t:Tok):j? (.inr x) (.str x t) = true:=by simp [j?,Value.isStrOf]
theorem DT (a b:Int):decide ((Sum.inl a:cq) = Sum.inl b) = (a == b):=by
 by_cases e:a = b
 ·subst e; simp
 ·have h:¬ (Sum.inl a:cq) = Sum.inl b:=fun q => e (Sum.inl.inj q)
  rw [decide_eq_false h]
  exact (beq_eq_false_iff_ne.mpr e).symm
theorem DU (a b:Str):decide ((Sum.inr a:cq) = Sum.inr b) = decide (a = b):=by
 by_cases e:a = b
 ·subst e; simp
 ·have h:¬ (Sum.inr a:cq) = Sum.inr b:=fun q => e (Sum.inr.inj q)
  rw [decide_eq_false h,decide_eq_false e]
theorem DV (a:Int) (b:Str):decide ((Sum.inl a:cq) = Sum.inr b) = false:=decide_eq_false (fun q => nomatch q)
theorem DW (a:Str) (b:Int):decide ((Sum.inr a:cq) = Sum.inl b) = false:=decide_eq_false (fun q => nomatch q)
noncomputable def bS (prog:Program) (w:World):PySem.KeyKind prog w cq where
 is:=j?
 hash:=Ku w
 inj:=fun v a b ha hb => by
  rcases bW ha with ⟨i,t,rfl,rfl⟩ | ⟨x,t,rfl,rfl⟩
  ·rcases bW hb with ⟨j,u,rfl,e⟩ | ⟨y,u,rfl,e⟩
   ·injection e with e1 _; rw [e1]
   ·exact nomatch e
  ·rcases bW hb with ⟨j,u,rfl,e⟩ | ⟨y,u,rfl,e⟩
   ·exact nomatch e
   ·injection e with e1 _; rw [e1]
 byValue:=fun k v h => by
  rcases bW h with ⟨i,t,rfl,rfl⟩ | ⟨x,t,rfl,rfl⟩ <;> rfl
 pyHash:=fun hv h => by
  rcases bW hv with ⟨i,t,rfl,rfl⟩ | ⟨x,t,rfl,rfl⟩
  ·exact wpAny_pyHash_int h
  ·exact wpAny_pyHash_str h
 eqBool:=fun hu hv h => by
  rcases bW hu with ⟨i,t,rfl,rfl⟩ | ⟨x,t,rfl,rfl⟩
  ·rcases bW hv with ⟨j,u,rfl,rfl⟩ | ⟨y,u,rfl,rfl⟩
   ·rw [DT] at h; exact wpAny_eqBool_int h
   ·rw [DV] at h; exact SeqAt.EqAt.int_str i t y u _ _ _ _ h
  ·rcases bW hv with ⟨j,u,rfl,rfl⟩ | ⟨y,u,rfl,rfl⟩
   ·rw [DW] at h; exact SeqAt.EqAt.str_int x t j u _ _ _ _ h
   ·rw [DU] at h; exact wpAny_eqBool_str h
 «strs»:=fun k x t v h => by
  rcases bW h with ⟨i,u,rfl,e⟩ | ⟨y,u,rfl,e⟩
  ·exact nomatch e
  ·injection e with e1 _
   subst e1
   cases v <;> rfl
theorem pX (prog:Program) (w:World) (i:Int) (t:Tok):(bS prog w).is (.inl i) (.int i t) = true:=vq i t
theorem pY (prog:Program) (w:World) (x:Str) (t:Tok):(bS prog w).is (.inr x) (.str x t) = true:=vt x t
end L2
namespace L2
open PySem PySem.Spec PyProof.Rows
inductive V where
 | bE | bl (b:Bool) | int (i:Int) | str (x:Str) | JM (b:Array UInt8) | kq (b:UInt64) | ref (a:Addr) | ty (n:String)
 deriving DecidableEq
noncomputable def bc:V → Value → Prop
 | .bE,u => u = Value.none
 | .bl b,u => u = Value.bool b
 | .int i,u => ∃ t,u = Value.int i t
 | .str x,u => ∃ t,u = Value.str x t
 | .JM b,u => ∃ t,u = Value.bytes b t
 | .kq b,u => ∃ t,u = Value.float b t
 | .ref a,u => u = Value.ref a
 | .ty n,u => u = Value.type n
noncomputable abbrev aR:List V → List Value → Prop:=Paired bc
theorem aR.length {xs:List V} {us:List Value} (r:aR xs us):xs.length = us.length:=Paired.length r
theorem aR.get:∀ {xs:List V} {us:List Value} {i:Nat} {x:V},aR xs us → xs[i]? = some x → ∃ u,us[i]? = some u ∧ bc x u
 | _,_,_,_,.nil,e => by simp at e
 | _,_,0,_,.cons r _,e => by simp at e; subst e; exact ⟨_,rfl,r⟩
 | _,_,i + 1,x,.cons _ t,e => by
  obtain ⟨u,h1,h2⟩:=aR.get (i:=i) (x:=x) t (by simpa using e)
  exact ⟨u,by simpa using h1,h2⟩
theorem aR.append:∀ {xs ys:List V} {us ws:List Value},aR xs us → aR ys ws → aR (xs ++ ys) (us ++ ws)
 | _,_,_,_,.nil,s => s
 | _,_,_,_,.cons r t,s => .cons r (aR.append t s)
theorem aR.take:∀ {xs:List V} {us:List Value} (n:Nat),aR xs us → aR (xs.take n) (us.take n)
 | _,_,0,_ => .nil
 | _,_,_ + 1,.nil => .nil
 | _,_,n + 1,.cons r t => .cons r (aR.take n t)
theorem aR.drop:∀ {xs:List V} {us:List Value} (n:Nat),aR xs us → aR (xs.drop n) (us.drop n)
 | _,_,0,r => r
 | _,_,_ + 1,.nil => .nil
 | _,_,n + 1,.cons _ t => aR.drop n t
noncomputable def i_:Option V → Option Value → Prop
 | some v,some u => bc v u
 | none,none => True
 | _,_ => False
noncomputable def KV {κ:Type}:List (κ × V) → List (κ × Value) → Prop:=Paired fun (p:κ × V) (q:κ × Value) => p.1 = q.1 ∧ bc p.2 q.2
noncomputable def kV:cq → V
 | .inl i => .int i
 | .inr x => .str x
inductive HO where
  | lst (xs:List V)
  | tup (xs:List V)
  | dK (aD:List (cq × V)) | dT (aD:List (List cq × V))
  | set (S:Int → Bool) (n:Nat)
  | ins (C dx:Addr) (fs:List (Str × V))
  | own (x:Addr)
  | xd (fs:List (Str × V))
  | met (f x:Addr)
  | JN (lo hi:Int)
  | fh (o:Obj) (u:HO)
  | Ao (ps:Array Value)
  | ext (φ:Heap → Prop)
noncomputable abbrev Hp:=Addr → Option HO
noncomputable def upd (H:Hp) (a:Addr) (o:HO):Hp:=fun b => if b = a then some o else H b
theorem a8 {H:Hp} {a:Addr} {o:HO}:upd H a o a = some o:=by unfold upd; rw [if_pos rfl]
theorem aJ {H:Hp} {a b:Addr} {o:HO} (h:b ≠ a):upd H a o b = H b:=by unfold upd; rw [if_neg h]
theorem aK {H:Hp} {a b:Addr} {o:HO} (h:H a = some o) (h':H b = none):a ≠ b:=by
 intro e; subst e; rw [h] at h'; cases h'
section
variable (P:Program) (w:World)
noncomputable def bL (H:Hp) (h:Heap) (a:Addr):HO → Prop
 | .lst xs => xs.length ≤ sizeLine ∧ ∃ (aH:List Value) (n:Nat),aR xs aH ∧ h.get? a = some { cls:=.type "list",data:=.seq aH.toArray n }
 | .tup xs => xs.length ≤ sizeLine ∧ ∃ aH:List Value,aR xs aH ∧ IsTup h a aH.toArray
 | .dK aD => aD.length ≤ sizeLine ∧ (a == sysModules) = false ∧ ∃ vs,KV aD vs ∧ h.DictOf (bS P w) a vs
 | .dT aD => aD.length ≤ sizeLine ∧ (a == sysModules) = false ∧ ∃ xs:List (List cq × Addr × Value),
   Paired (fun (p:List cq × V) (q:List cq × Addr × Value) => p.1 = q.1 ∧ H q.2.1 = some (.tup (p.1.map kV)) ∧ bc p.2 q.2.2) aD xs ∧
   ∃ o es ep,h.get? a = some o ∧ o.ExactDict ∧ o.data = .dict es ep ∧ es.toList = xs.map (entryOfKey (tupleKind (bS P w))) ∧ (xs.map (·.1)).Nodup
 | .set S n => h.SetOf (intKind P w) a S n
 | .ins C dx fs => H dx = some (.own a) ∧ fs.length ≤ 1000 ∧ dx ≠ a ∧ h.get? a = some (PySem.W.instObj C dx) ∧
   ∃ mA,h.Ns1 dx mA ∧ (∀ f,i_ (fs.lookup f) (mA f)) ∧ PySem.Within mA (fs.map (·.1))
 | .own _ => ∃ o,h.get? a = some o
 | .xd fs => ∃ mA,h.Ns1 a mA ∧ ∀ f,i_ (fs.lookup f) (mA f)
 | .JN lo hi => ∃ t u v,h.get? a = some { cls:=.type "range",data:=.fields #[.int lo t,.int hi u,.int 1 v] }
 | .fh o u => h.get? a = some o ∧ bL H h a u
 | .Ao ps => h.get? a = some { cls:=.none,data:=.fields ps }
 | .met f x => h.get? a = some (PySem.W.methodObj (.ref f) (.ref x))
 | .ext φ => φ h ∧ (∃ o,h.get? a = some o) ∧ ∀ h1 h2:Heap,φ h1 → (∀ o,h1.get? a = some o → h2.get? a = some o) → φ h2
noncomputable def fS (H:Hp) (h:Heap):Prop:=∀ a o,H a = some o → bL P w H h a o
end
section
variable {P:Program} {w:World} {H H':Hp} {h h':Heap} {a:Addr} {o:HO}
theorem bL.lt (x:bL P w H h a o):a < h.objs.size:=by
 cases o with
 | lst xs => obtain ⟨_,_,_,_,e⟩:=x; exact Heap.lt_size e
 | tup xs => obtain ⟨_,_,_,p⟩:=x; exact p.lt
 | dK aD => obtain ⟨_,_,_,_,o,_,_,e,_⟩:=x; exact Heap.lt_size e
 | dT aD => obtain ⟨_,_,_,_,o,_,_,e,_⟩:=x; exact Heap.lt_size e
 | set S n => obtain ⟨o,_,_,_,e,_⟩:=x; exact Heap.lt_size e
 | ins C dx fs => obtain ⟨_,_,_,e,_⟩:=x; exact Heap.lt_size e
 | own y => obtain ⟨_,e⟩:=x; exact Heap.lt_size e
 | xd fs => obtain ⟨_,⟨_,_,_,e,_⟩,_⟩:=x; exact Heap.lt_size e
 | JN lo hi => obtain ⟨_,_,_,e⟩:=x; exact Heap.lt_size e
 | fh ob u => obtain ⟨e,_⟩:=x; exact Heap.lt_size e
 | Ao ps => exact Heap.lt_size (show h.get? a = some _ from x)
 | met f y => exact Heap.lt_size (show h.get? a = some _ from x)
 | ext φ => obtain ⟨_,⟨_,e⟩,_⟩:=x; exact Heap.lt_size e
theorem Paired.Hd {α β:Type} {F G:α → β → Prop}:∀ {l₁:List α} {l₂:List β},Paired F l₁ l₂ → (∀ a b,F a b → G a b) → Paired G l₁ l₂
 | _,_,.nil,_ => .nil
 | _,_,.cons r t,f => .cons (f _ _ r) (Paired.Hd t f)
theorem bL.iH (x:bL P w H h a o) (k:∀ b u,(b = a ∨ H b = some (.own a)) → h.get? b = some u → h'.get? b = some u)
  (ho:∀ b,H b = some (.own a) → H' b = some (.own a)) (ht:∀ b xs,H b = some (.tup xs) → H' b = some (.tup xs)):bL P w H' h' a o:=by
 induction o with
 | lst xs => obtain ⟨z,aH,n,r,e⟩:=x; exact ⟨z,aH,n,r,k _ _ (.inl rfl) e⟩
 | tup xs => obtain ⟨z,aH,r,ob,e,c⟩:=x; exact ⟨z,aH,r,ob,k _ _ (.inl rfl) e,c⟩
 | dK aD => obtain ⟨z,y,vs,r,ob,es,ep,e,c⟩:=x; exact ⟨z,y,vs,r,ob,es,ep,k _ _ (.inl rfl) e,c⟩
 | dT aD =>
  obtain ⟨z,y,xs,r,ob,es,ep,e,c⟩:=x
  exact ⟨z,y,xs,Paired.Hd r fun p q z => ⟨z.1,ht _ _ z.2.1,z.2.2⟩,ob,es,ep,k _ _ (.inl rfl) e,c⟩
 | set S n => obtain ⟨ob,es,ep,t,e,c⟩:=x; exact ⟨ob,es,ep,t,k _ _ (.inl rfl) e,c⟩
 | ins C dx fs =>
  obtain ⟨d,z,ne,e,mA,⟨od,es,ep,e2,c⟩,r⟩:=x
  exact ⟨ho _ d,z,ne,k _ _ (.inl rfl) e,mA,⟨od,es,ep,k _ _ (.inr d) e2,c⟩,r⟩
 | own y => obtain ⟨ob,e⟩:=x; exact ⟨ob,k _ _ (.inl rfl) e⟩
 | xd fs => obtain ⟨mA,⟨od,es,ep,e,c⟩,r⟩:=x; exact ⟨mA,⟨od,es,ep,k _ _ (.inl rfl) e,c⟩,r⟩
 | JN lo hi => obtain ⟨t,u,v,e⟩:=x; exact ⟨t,u,v,k _ _ (.inl rfl) e⟩
 | fh ob u ih => obtain ⟨e,q⟩:=x; exact ⟨k _ _ (.inl rfl) e,ih q⟩
 | Ao ps =>
  have e:h.get? a = some { cls:=.none,data:=.fields ps }:=x
  show h'.get? a = some { cls:=.none,data:=.fields ps }
  exact k a _ (.inl rfl) e
 | met f y =>
  have e:h.get? a = some (PySem.W.methodObj (.ref f) (.ref y)):=x
  show h'.get? a = some (PySem.W.methodObj (.ref f) (.ref y))
  exact k a _ (.inl rfl) e
 | ext φ => obtain ⟨p,⟨o,e⟩,st⟩:=x; exact ⟨st _ _ p fun o q => k _ _ (.inl rfl) q,⟨o,k _ _ (.inl rfl) e⟩,st⟩
theorem fS.lt (x:fS P w H h) (e:H a = some o):a < h.objs.size:=(x a o e).lt
theorem fS.fresh (x:fS P w H h) (e:h.objs.size ≤ a):H a = none:=by
 cases q:H a with
 | none => rfl
 | some u => exact absurd (Nat.lt_of_lt_of_le (x.lt q) e) (Nat.lt_irrefl _)
theorem fS.kept (x:fS P w H h) (k:∀ b u,h.get? b = some u → h'.get? b = some u):fS P w H h':=fun a o e =>
 (x a o e).iH (fun b u _ q => k b u q) (fun _ q => q) fun _ _ q => q
theorem fS.laid (x:fS P w H h) (k:∀ b u,h.get? b = some u → h'.get? b = some u) (hp:h.objs.size ≤ a) (new:bL P w (upd H a o) h' a o):fS P w (upd H a o) h':=fun b u e => by
 have hn:=x.fresh hp
 by_cases hb:b = a
 ·subst hb; rw [a8] at e; cases e; exact new
 ·rw [aJ hb] at e
  exact (x b u e).iH (fun c v _ q => k c v q) (fun c q => by rw [aJ (aK q hn)]; exact q) fun c xs q => by rw [aJ (aK q hn)]; exact q
end
noncomputable def Rd (H:Hp) (a:Addr) (u:HO):Prop:=H a = some u ∨ ∃ o,H a = some (.fh o u)
theorem Rd.ok {P:Program} {w:World} {H:Hp} {h:Heap} {a:Addr} {u:HO} (r:Rd H a u) (x:fS P w H h):bL P w H h a u:=by
 rcases r with r | ⟨o,r⟩
 ·exact x a u r
 ·obtain ⟨_,q⟩:=x a _ r
  exact q
noncomputable def He:Option HO → Prop
 | some (.lst _) => True
 | some (.dK _) => True
 | some (.dT _) => True
 | some (.set _ _) => True
 | some (.ins _ _ _) => True
 | some (.ext _) => True
 | _ => False
section
variable {P:Program} {w:World} {H:Hp} {h h':Heap} {x e:Addr} {o':HO}
theorem fS.write (ok:fS P w H h) (mu:He (H x)) (he:e = x ∨ H e = some (.own x)) (k:∀ b u,b ≠ e → h.get? b = some u → h'.get? b = some u) (GW:∃ u,h'.get? e = some u)
  (new:bL P w (upd H x o') h' x o'):fS P w (upd H x o') h':=fun b u q => by
 have Hf:∀ c y,H c = some (.own y) → c ≠ x:=fun c y r z => by subst z; rw [r] at mu; exact mu
 have Kv:∀ c xs,H c = some (.tup xs) → c ≠ x:=fun c xs r z => by subst z; rw [r] at mu; exact mu
 by_cases hb:b = x
 ·subst hb; rw [a8] at q; cases q; exact new
 ·rw [aJ hb] at q
  by_cases DX:b = e
  ·have q':H b = some (.own x):=by
    rcases he with z | z
    ·exact absurd (DX.trans z) hb
    ·rw [DX]; exact z
   rw [q] at q'; cases q'
   obtain ⟨v,hv⟩:=GW
   exact ⟨v,by rw [DX]; exact hv⟩
  ·refine (ok b u q).iH (fun c v hc r => k c v ?_ r) (fun c r => by rw [aJ (Hf c b r)]; exact r) fun c xs r => by rw [aJ (Kv c xs r)]; exact r
   rcases hc with rfl | hc
   ·exact DX
   ·rintro rfl
    rcases he with z | z
    ·exact Hf c b hc z
    ·rw [hc] at z; cases z; exact hb rfl
end
structure Un (fs ex:List Addr) (H H':Hp) (h h':Heap):Prop where
 keep:∀ b o,h.get? b = some o → H b = none → b ∉ fs → b ∉ ex → h'.get? b = some o
 slot:∀ b o,h.get? b = some o → H b = none → b ∈ fs → b ∉ ex → ∃ sl,h'.get? b = some { o with slots:=sl }
 free:∀ b o,h.get? b = some o → H b = none → b ∉ ex → H' b = none
 there:∀ b o,h.get? b = some o → b ∉ ex → ∃ o',h'.get? b = some o'
 iI:∀ b xs,H b = some (.tup xs) → H' b = some (.tup xs)
 ic:∀ b o u,H b = some (.fh o u) → H' b = some (.fh o u)
 i!:∀ b ps,H b = some (.Ao ps) → ∃ more,H' b = some (.Ao (ps ++ more))
section
variable {fs Oe ex Qd:List Addr} {H H1 H2:Hp} {h h1 h2 h':Heap} {a x e:Addr} {o:HO}
theorem Un.any (u:Un fs ex H H1 h h1) {b:Addr} {ob:Obj} (q:h.get? b = some ob) (n:H b = none) (hx:b ∉ ex):∃ sl,h1.get? b = some { ob with slots:=sl }:=by
 by_cases hb:b ∈ fs
 ·exact u.slot b ob q n hb hx
 ·exact ⟨ob.slots,u.keep b ob q n hb hx⟩
theorem Un.kept (k:∀ b u,h.get? b = some u → h'.get? b = some u):Un fs ex H H h h' :=
 ⟨fun b ob q _ _ _ => k b ob q,fun b ob q _ _ _ => ⟨ob.slots,k b ob q⟩,fun _ _ _ n _ => n,fun b ob q _ => ⟨ob,k b ob q⟩,fun _ _ q => q,fun _ _ _ q => q,fun _ ps q => ⟨#[],by rw [q]; simp⟩⟩
theorem Un.refl:Un fs ex H H h h:=Un.kept fun _ _ q => q
theorem Un.laid (k:∀ b u,h.get? b = some u → h'.get? b = some u) (hp:h.objs.size ≤ a) (hn:H a = none):Un fs ex H (upd H a o) h h' where
 keep:=fun b u q _ _ _ => k b u q
 slot:=fun b u q _ _ _ => ⟨u.slots,k b u q⟩
 free:=fun b u q n _ => by rw [aJ (Nat.ne_of_lt (Nat.lt_of_lt_of_le (Heap.lt_size q) hp))]; exact n
 there:=fun b u q _ => ⟨u,k b u q⟩
 iI:=fun b xs q => by rw [aJ (aK q hn)]; exact q
 ic:=fun b u xs q => by rw [aJ (aK q hn)]; exact q
 i!:=fun b ps q => ⟨#[],by rw [aJ (aK q hn),q]; simp⟩
theorem Un.write (mu:He (H x)) (he:e = x ∨ H e = some (.own x)) (k:∀ b u,b ≠ e → h.get? b = some u → h'.get? b = some u) (GW:∃ u,h'.get? e = some u):Un fs ex H (upd H x o) h h':=by
 have hx:∀ b,H b = none → b ≠ x:=fun b n z => by subst z; rw [n] at mu; exact mu
 have hb:∀ b,H b = none → b ≠ e:=fun b n z => by
  subst z
  rcases he with r | r
  ·exact hx b n r
  ·rw [n] at r; cases r
 have hm:∀ b u,H b = some u → ¬ He (some u) → b ≠ x:=fun b u q nm z => by subst z; rw [q] at mu; exact nm mu
 refine ⟨fun b u q n _ _ => k b u (hb b n) q,fun b u q n _ _ => ⟨u.slots,k b u (hb b n) q⟩,fun b u q n _ => by rw [aJ (hx b n)]; exact n,fun b u q _ => ?_,
  fun b xs q => by rw [aJ (hm b _ q fun z => z)]; exact q,fun b u xs q => by rw [aJ (hm b _ q fun z => z)]; exact q,fun b ps q => ⟨#[],by rw [aJ (hm b _ q fun z => z),q]; simp⟩⟩
 by_cases DX:b = e
 ·subst DX; exact GW
 ·exact ⟨u,k b u DX q⟩
end
noncomputable def kU (h:Heap) (H:Hp):List Addr:=(List.range h.objs.size).filter fun a => (H a).isSome
noncomputable def oI (h:Heap) (H:Hp):Heap:=PySem.W.hideAll h (kU h H)
theorem vv (h:Heap) (H:Hp):(oI h H).objs.size = h.objs.size:=PySem.W.hideAll_size _ _
theorem xA {h:Heap} {H:Hp} {b:Addr} {o:Obj} (e:h.get? b = some o) (n:H b = none):(oI h H).get? b = some o :=
 PySem.W.hideAll_get _ e fun hm => by
  have q:(H b).isSome = true:=(List.mem_filter.mp hm).2
  rw [n] at q; simp at q
theorem Ay {h:Heap} {H:Hp} {b:Addr} {o:Obj} (e:(oI h H).get? b = some o):h.get? b = some o ∧ H b = none:=by
 have e':h.get? b = some o:=PySem.W.of_hideAll (kU h H) e
 refine ⟨e',?_⟩
 cases q:H b with
 | none => rfl
 | some x =>
  have hm:b ∈ kU h H:=List.mem_filter.mpr ⟨List.mem_range.mpr (Heap.lt_size e'),by simp [q]⟩
  have z:(oI h H).get? b = none:=PySem.W.hideAll_none (kU h H) hm
  rw [z] at e; cases e
end L2
namespace L2
open PySem PySem.Spec PyProof.Rows
structure Mod (K:PySem.W.Frag) (mg:Str → Option Value) (base:Heap):Prop where
 C_:K.In base
 glob:base.Ns mainGlobals mg
 blt:∃ mb,base.Ns builtinsNs mb ∧ ∀ x:Str,x ≠ "__name__" → mb x = bootBuiltins x
 nolimit:base.NoLimit
structure Cx where
 prog:Program
 w:World
 K:PySem.W.Frag
 mg:Str → Option Value
 base:Heap
 A:Around
 N:List Str
 s₀:Shared
 H₀:Hp
 env:Env
 outer:List Env
 stack:List Env
 ex:List Addr
 fn:Str → Bool
 calm:Bool
 pn:List (Addr × Obj)
 xe:Value → Shared → Prop
noncomputable def ei (l:List Env):List Addr:=l.filterMap (·.frame)
noncomputable abbrev Cx.fs (X:Cx):List Addr:=ei X.outer
noncomputable def C! (sc:Scope) (x:Str):Prop:=sc.names.lookup x = some .local ∨ sc.names.lookup x = some .cell ∨ sc.names.lookup x = some .free
noncomputable def Loc (sc:Scope) (x:Str):Prop:=sc.names.lookup x = some .local ∨ sc.names.lookup x = some .cell
noncomputable def Look (env:Env) (h:Heap) (m:Str → Option Value) (x:Str) (u:Value):Prop :=
 (env.kindOf x = some .local ∧ m x = some u) ∨ ((env.kindOf x = some .cell ∨ env.kindOf x = some .free) ∧ ∃ c,env.cells.lookup x = some c ∧ h.IsCell c (some u))
structure Cx.Ok (X:Cx):Prop where
 mod:Mod X.K X.mg X.base
 kind:X.env.scope.kind = .function
 glob:X.env.globals = mainGlobals
 blt:X.env.builtins = builtinsNs
 above:X.s₀.heap.objs.size ≤ X.env.locals
 inj:∀ x y c,X.env.cells.lookup x = some c → X.env.cells.lookup y = some c → x = y
 has:∀ x,(X.env.kindOf x = some .cell ∨ X.env.kindOf x = some .free) → ∃ c,X.env.cells.lookup x = some c
 DY:∀ x c,X.fn x = true → X.env.cells.lookup x = some c → X.s₀.heap.objs.size ≤ c
 hd:X.calm = true → X.A.handled = none
 frames:X.A.frames = some X.stack
 Az:X.stack = X.outer ∨ (X.stack = X.env :: X.outer ∧ X.env.frame = some X.env.locals)
 Kw:∀ b ∈ X.ex,b ≠ X.env.locals ∧ ∀ x c,X.env.cells.lookup x = some c → c ≠ b
 bs:∀ b o,X.base.get? b = some o → X.s₀.heap.get? b = some o ∧ X.H₀ b = none
 AA:X.base.objs.size ≤ X.s₀.heap.objs.size
 rW:∀ b o,X.base.get? b = some o → b ∉ X.ex
 xB:∀ b ∈ X.ex,b ∉ X.fs
 ie:X.s₀.heap.FunFrames X.base X.outer
 xC:∀ b ∈ X.fs,X.H₀ b = none
structure aG (X:Cx) (af:List (Addr × Obj)) (σ:List (Option V)) (H:Hp) (s:Shared):Prop where
 ok:X.Ok
 os:s.os = X.s₀.os
 bare:AllBare s.gens
 base:Un X.fs X.ex X.H₀ H X.s₀.heap s.heap
 loc:∃ m,s.heap.Ns X.env.locals m ∧ ∀ (i:Nat) (x:Str) (v:V),X.N[i]? = some x → σ[i]? = some (some v) → C! X.env.scope x → ∃ u,bc v u ∧ Look X.env s.heap m x u
 cell:∀ x c,X.env.cells.lookup x = some c → ∃ v,s.heap.IsCell c v
 free:H X.env.locals = none
 fo:∀ x c,X.env.cells.lookup x = some c → H c = none
 pin:∀ p ∈ X.pn ++ af,s.heap.get? p.1 = some p.2 ∧ H p.1 = none ∧ p.1 ≠ X.env.locals ∧ p.1 ∉ X.fs ∧ ∀ v,p.2.data ≠ .cell v
 bt:fS X.prog X.w H s.heap
 len:σ.length = X.N.length
section
variable {X:Cx} {af:List (Addr × Obj)} {σ:List (Option V)} {H H':Hp} {s:Shared} {h':Heap}
theorem Cx.Ok.Kx (ok:X.Ok) {b:Addr} {o:Obj} (e:X.base.get? b = some o):b ∉ X.fs:=fun hb => by
 have:=(ok.ie.mem hb).1
 rw [e] at this; cases this
theorem aG.bs (I:aG X af σ H s):∀ b o,X.base.get? b = some o → s.heap.get? b = some o ∧ H b = none:=fun b o e =>
 ⟨I.base.keep b o (I.ok.bs b o e).1 (I.ok.bs b o e).2 (I.ok.Kx e) (I.ok.rW b o e),I.base.free b o (I.ok.bs b o e).1 (I.ok.bs b o e).2 (I.ok.rW b o e)⟩
theorem aG.bk (I:aG X af σ H s):∀ b o,X.base.get? b = some o → s.heap.get? b = some o:=fun b o e => (I.bs b o e).1
theorem aG.mod (I:aG X af σ H s):Mod X.K X.mg X.base:=I.ok.mod
theorem aG.iJ (I:aG X af σ H s):X.K.In s.heap:=I.ok.mod.C_.keeps I.bk
theorem aG.lt (I:aG X af σ H s):X.env.locals < s.heap.objs.size:=let ⟨_,hn,_⟩:=I.loc; hn.lt
theorem aG.sz (I:aG X af σ H s):X.s₀.heap.objs.size ≤ s.heap.objs.size:=Nat.le_trans I.ok.above (Nat.le_of_lt I.lt)
theorem aG.Ky (I:aG X af σ H s) {a:Addr} (h:s.heap.objs.size ≤ a):a ∉ X.fs:=fun hb => by
 obtain ⟨_,o,ho,_⟩:=I.ok.ie.mem hb
 exact absurd (Nat.lt_of_lt_of_le (Heap.lt_size ho) (Nat.le_trans I.sz h)) (Nat.lt_irrefl _)
theorem aG.Ap (I:aG X af σ H s):∀ x c,X.env.cells.lookup x = some c → c ≠ X.env.locals:=fun x c e z => by
 obtain ⟨v,o,ho,hd⟩:=I.cell x c e
 obtain ⟨m,⟨o',es,ep,mQ,Kz,_⟩,_⟩:=I.loc
 rw [z,mQ] at ho; cases ho; rw [Kz] at hd; cases hd
theorem aG.ie (I:aG X af σ H s):s.heap.FunFrames X.base X.outer:=by
 have all:∀ (l:List Env),(∀ b ∈ ei l,b ∈ X.fs) → X.s₀.heap.FunFrames X.base l → s.heap.FunFrames X.base l:=by
  intro l
  induction l with
  | nil => intro _ _; trivial
  | cons env r ih =>
   intro hs hl
   obtain ⟨hk,⟨L,o,hf,hn,ho,hd⟩,hr⟩:=hl
   have hL:L ∈ X.fs:=hs L (by unfold ei; rw [List.filterMap_cons,hf]; exact List.mem_cons_self)
   obtain ⟨sl,e⟩:=I.base.slot L o ho (I.ok.xC L hL) hL fun z => I.ok.xB L z hL
   exact ⟨hk,⟨L,_,hf,hn,e,hd⟩,ih (fun b hb => hs b (by unfold ei; rw [List.filterMap_cons,hf]; exact List.mem_cons_of_mem _ hb)) hr⟩
 exact all X.outer (fun _ hb => hb) I.ok.ie
theorem aG.stack (I:aG X af σ H s):s.heap.FunFrames X.base X.stack:=by
 rcases I.ok.Az with e | ⟨e,hf⟩
 ·rw [e]; exact I.ie
 ·rw [e]
  obtain ⟨m,hn,_⟩:=I.loc
  refine .cons (by rw [I.ok.kind]; decide) hf hn ?_ I.ie
  exact Heap.get?_none_of_le (Nat.le_trans I.ok.AA I.ok.above)
theorem aG.kW (I:aG X af σ H s):∀ b ∈ ei X.stack,b ∈ X.env.locals :: X.fs:=fun b hb => by
 rcases I.ok.Az with e | ⟨e,hf⟩
 ·rw [e] at hb; exact List.mem_cons_of_mem _ hb
 ·rw [e] at hb
  unfold ei at hb
  rw [List.filterMap_cons,hf] at hb
  exact hb
theorem aG.oJ (I:aG X af σ H s):∀ b ∈ ei X.stack,H b = none:=fun b hb => by
 rcases List.mem_cons.mp (I.kW b hb) with e | hb
 ·rw [e]; exact I.free
 ·obtain ⟨_,o,ho,_⟩:=I.ok.ie.mem hb
  exact I.base.free b o ho (I.ok.xC b hb) fun z => I.ok.xB b z hb
theorem aG.step {g':Array GenState} {t':Nat} {d':Drawn} {ch:List Addr} (I:aG X af σ H s)
  (Aq:∀ b ∈ ch,(b ∈ X.ex ∨ X.s₀.heap.objs.size ≤ b) ∧ b ≠ X.env.locals ∧ (∀ x c,X.env.cells.lookup x = some c → c ≠ b) ∧ ∀ p ∈ X.pn ++ af,p.1 ≠ b)
  (keep:∀ b o,b ≠ X.env.locals → b ∉ X.fs → b ∉ ch → s.heap.get? b = some o → H b = none → h'.get? b = some o)
  (slot:∀ b o,b ≠ X.env.locals → b ∈ X.fs → b ∉ ch → s.heap.get? b = some o → H b = none → ∃ sl,h'.get? b = some { o with slots:=sl }) (free:∀ b o,b ∉ ch → s.heap.get? b = some o → H b = none → H' b = none)
  (there:∀ b o,b ∉ ch → s.heap.get? b = some o → ∃ o',h'.get? b = some o')
  (iI:∀ b xs,H b = some (.tup xs) → H' b = some (.tup xs)) (ic:∀ b o u,H b = some (.fh o u) → H' b = some (.fh o u)) (i!:∀ b ps,H b = some (.Ao ps) → ∃ more,H' b = some (.Ao (ps ++ more)))
  (ns:∀ m,s.heap.Ns X.env.locals m → h'.Ns X.env.locals m) (bt:fS X.prog X.w H' h') (hg:AllBare g') :
  aG X af σ H' { s with heap:=h',gens:=g',drawn:=d',toks:=t' }:=by
 have xD:∀ b o,X.s₀.heap.get? b = some o → b ≠ X.env.locals:=fun b o e => Nat.ne_of_lt (Nat.lt_of_lt_of_le (Heap.lt_size e) I.ok.above)
 have JO:∀ b o,X.s₀.heap.get? b = some o → b ∉ X.ex → b ∉ ch:=fun b o e hx hb => by
  rcases (Aq b hb).1 with z | z
  ·exact hx z
  ·exact absurd (Nat.lt_of_lt_of_le (Heap.lt_size e) z) (Nat.lt_irrefl _)
 have cellK:∀ x c,X.env.cells.lookup x = some c → ∀ v,s.heap.IsCell c v → h'.IsCell c v:=fun x c e v ⟨o,ho,hd⟩ => by
  have Hg:c ∉ ch:=fun z => (Aq c z).2.2.1 x c e rfl
  by_cases hc:c ∈ X.fs
  ·obtain ⟨sl,q⟩:=slot c o (I.Ap x c e) hc Hg ho (I.fo x c e)
   exact ⟨_,q,hd⟩
  ·exact ⟨o,keep c o (I.Ap x c e) hc Hg ho (I.fo x c e),hd⟩
 refine ⟨I.ok,I.os,hg,⟨fun b o e n hb hx => ?_,fun b o e n hb hx => ?_,fun b o e n hx => ?_,fun b o e hx => ?_,fun b xs e => iI b xs (I.base.iI b xs e),fun b o xs e => ic b o xs (I.base.ic b o xs e),fun b ps e => ?_⟩,?_,fun x c e => ?_,?_,fun x c e => ?_,fun p hp => ?_,bt,I.len⟩
 ·exact keep b o (xD b o e) hb (JO b o e hx) (I.base.keep b o e n hb hx) (I.base.free b o e n hx)
 ·obtain ⟨sl,e1⟩:=I.base.slot b o e n hb hx
  obtain ⟨C?,e2⟩:=slot b _ (xD b o e) hb (JO b o e hx) e1 (I.base.free b o e n hx)
  exact ⟨C?,e2⟩
 ·obtain ⟨o',e1⟩:=I.base.there b o e hx
  exact free b o' (JO b o e hx) e1 (I.base.free b o e n hx)
 ·obtain ⟨o',e1⟩:=I.base.there b o e hx
  exact there b o' (JO b o e hx) e1
 ·obtain ⟨m1,e1⟩:=I.base.i! b ps e
  obtain ⟨m2,e2⟩:=i! b _ e1
  exact ⟨m1 ++ m2,by rw [e2,Array.append_assoc]⟩
 ·obtain ⟨m,hn,hl⟩:=I.loc
  refine ⟨m,ns m hn,fun i x v e1 e2 e3 => ?_⟩
  obtain ⟨u,r,l⟩:=hl i x v e1 e2 e3
  refine ⟨u,r,?_⟩
  rcases l with l | ⟨k,c,e,z⟩
  ·exact .inl l
  ·exact .inr ⟨k,c,e,cellK x c e _ z⟩
 ·obtain ⟨v,z⟩:=I.cell x c e
  exact ⟨v,cellK x c e v z⟩
 ·obtain ⟨m,⟨o,_,_,ho,_⟩,_⟩:=I.loc
  exact free _ o (fun z => (Aq _ z).2.1 rfl) ho I.free
 ·obtain ⟨v,o,ho,hd⟩:=I.cell x c e
  exact free c o (fun z => (Aq c z).2.2.1 x c e rfl) ho (I.fo x c e)
 ·obtain ⟨e,n,ne,nf,d⟩:=I.pin p hp
  have Hg:p.1 ∉ ch:=fun z => (Aq p.1 z).2.2.2 p hp rfl
  exact ⟨keep p.1 p.2 ne nf Hg e n,free p.1 p.2 Hg e n,ne,nf,d⟩
theorem aG.un {t':Nat} (I:aG X af σ H s) (u:Un X.fs [] H H' s.heap h') (bt:fS X.prog X.w H' h'):aG X af σ H' { s with heap:=h',toks:=t' }:=by
 obtain ⟨m,⟨o,es,ep,ho,r⟩,_⟩:=id I.loc
 obtain ⟨sl,hL⟩:=u.any ho I.free (by simp)
 exact I.step (g':=s.gens) (d':=s.drawn) (ch:=[]) (fun _ z => nomatch z) (fun b o _ hb _ e n => u.keep b o e n hb (by simp)) (fun b o _ hb _ e n => u.slot b o e n hb (by simp)) (fun b o _ e n => u.free b o e n (by simp)) (fun b o _ e => u.there b o e (by simp)) u.iI u.ic u.i! (fun m' hm => by
  obtain ⟨o',Ar,JP,mQ,r'⟩:=hm
  rw [ho] at mQ; cases mQ
  exact ⟨_,Ar,JP,hL,r'⟩) bt I.bare
theorem aG.call {g':Array GenState} {t':Nat} {d':Drawn} {ch:List Addr} (I:aG X af σ H s) (u:Un (ei X.stack) ch H H' s.heap h') (bt:fS X.prog X.w H' h') (hg:AllBare g')
  (Aq:∀ b ∈ ch,(b ∈ X.ex ∨ X.s₀.heap.objs.size ≤ b) ∧ b ≠ X.env.locals ∧ (∀ x c,X.env.cells.lookup x = some c → c ≠ b) ∧ ∀ p ∈ X.pn ++ af,p.1 ≠ b) :
  aG X af σ H' { s with heap:=h',gens:=g',drawn:=d',toks:=t' }:=by
 obtain ⟨m,⟨o,es,ep,ho,r⟩,_⟩:=id I.loc
 obtain ⟨sl,hL⟩:=u.any ho I.free fun z => (Aq _ z).2.1 rfl
 exact I.step (ch:=ch) Aq (fun b o hL hb hc e n => u.keep b o e n (fun z => (List.mem_cons.mp (I.kW b z)).elim hL hb) hc) (fun b o _ _ hc e n => u.any e n hc) (fun b o hc e n => u.free b o e n hc) (fun b o hc e => u.there b o e hc) u.iI u.ic u.i! (fun m' hm => by
  obtain ⟨o',Ar,JP,mQ,r'⟩:=hm
  rw [ho] at mQ; cases mQ
  exact ⟨_,Ar,JP,hL,r'⟩) bt hg
theorem aG.turned {t':Nat} {it:Addr} (I:aG X af σ H s) (k:∀ b o,b ≠ it → s.heap.get? b = some o → h'.get? b = some o) (hn:H it = none) (hL:it ≠ X.env.locals)
  (h1:it ∈ X.ex ∨ X.s₀.heap.objs.size ≤ it) (h2:∀ x c,X.env.cells.lookup x = some c → c ≠ it) (h3:∀ p ∈ X.pn ++ af,p.1 ≠ it):aG X af σ H { s with heap:=h',toks:=t' }:=by
 have Nj:∀ b u,H b = some u → b ≠ it:=fun b u e z => by rw [z,hn] at e; cases e
 refine I.step (g':=s.gens) (d':=s.drawn) (ch:=[it]) (fun b hb => ?_) (fun b o _ _ hc e _ => k b o (fun z => hc (by simp [z])) e) (fun b o _ _ hc e _ => ⟨o.slots,k b o (fun z => hc (by simp [z])) e⟩) (fun _ _ _ _ n => n)
  (fun b o hc e => ⟨o,k b o (fun z => hc (by simp [z])) e⟩) (fun _ _ e => e) (fun _ _ _ e => e) (fun b ps e => ⟨#[],by rw [e]; simp⟩) (fun m hm => ?_) (fun b u e => ?_) I.bare
 ·have e:b = it:=by simpa using hb
  subst e
  exact ⟨h1,hL,h2,h3⟩
 ·obtain ⟨o,es,ep,ho,r⟩:=hm
  exact ⟨o,es,ep,k _ o (Ne.symm hL) ho,r⟩
 ·refine (I.bt b u e).iH (fun c v hc q => k c v ?_ q) (fun _ q => q) fun _ _ q => q
  rcases hc with z | z
  ·rw [z]; exact Nj b u e
  ·exact Nj c _ z
theorem aG.tok (I:aG X af σ H s) (t:Nat):aG X af σ H { s with toks:=t }:=I.un (h':=s.heap) (t':=t) Un.refl I.bt
theorem aG.kept {t':Nat} (I:aG X af σ H s) (k:∀ b u,s.heap.get? b = some u → h'.get? b = some u):aG X af σ H { s with heap:=h',toks:=t' }:=I.un (Un.kept k) (I.bt.kept k)
theorem aG.laid {a:Addr} {o:HO} {t':Nat} (I:aG X af σ H s) (k:∀ b u,s.heap.get? b = some u → h'.get? b = some u) (hp:s.heap.objs.size ≤ a) (new:bL X.prog X.w (upd H a o) h' a o) :
  aG X af σ (upd H a o) { s with heap:=h',toks:=t' }:=I.un (Un.laid k hp (I.bt.fresh hp)) (I.bt.laid k hp new)
theorem aG.write {x e:Addr} {o:HO} {t':Nat} (I:aG X af σ H s) (mu:He (H x)) (he:e = x ∨ H e = some (.own x)) (k:∀ b u,b ≠ e → s.heap.get? b = some u → h'.get? b = some u) (GW:∃ u,h'.get? e = some u)
  (new:bL X.prog X.w (upd H x o) h' x o):aG X af σ (upd H x o) { s with heap:=h',toks:=t' }:=I.un (Un.write mu he k GW) (I.bt.write mu he k GW new)
theorem aG.kL {Dc:List (Addr × Obj)} (I:aG X af σ H s) (h:∀ p ∈ Dc,s.heap.get? p.1 = some p.2 ∧ H p.1 = none ∧ p.1 ≠ X.env.locals ∧ p.1 ∉ X.fs ∧ ∀ v,p.2.data ≠ .cell v):aG X Dc σ H s :=
 ⟨I.ok,I.os,I.bare,I.base,I.loc,I.cell,I.free,I.fo,fun p hp => (List.mem_append.mp hp).elim (fun z => I.pin p (List.mem_append_left _ z)) (h p),I.bt,I.len⟩
theorem kX {N:List Str} (hN:N.Nodup) {i j:Nat} {x:Str} (a:N[i]? = some x) (b:N[j]? = some x):i = j:=by
 obtain ⟨h1,e1⟩:=List.getElem?_eq_some_iff.mp a
 obtain ⟨h2,e2⟩:=List.getElem?_eq_some_iff.mp b
 exact (List.getElem_inj hN).mp (e1.trans e2.symm)
theorem jD {M:Model} {A:Around} {E:Value → Shared → Prop} {i:Nat} {x:Str} {v:V} {u:Value} {Q:Unit → Shared → Prop} (I:aG X af σ H s) (hN:X.N.Nodup) (hi:X.N[i]? = some x) (hx:Loc X.env.scope x) (r:bc v u)
  (h:∀ s',aG X af (σ.set i (some v)) H s' → (∃ a,Heap.SameBut a s.heap s'.heap ∧ (a = X.env.locals ∨ X.env.cells.lookup x = some a)) → Q () s') (hf:X.fn x = true ∨ X.env.scope.names.lookup x = some .local:=by first | exact .inl rfl | exact .inr rfl | assumption):wpAny M A (storeName X.env x u) Q E s:=by
 obtain ⟨m,hn,hl⟩:=id I.loc
 have KA:(X.env.scope.kind == .class || (X.env.scope.kind == .module && X.env.locals != X.env.globals)) = false:=by rw [I.ok.kind]; rfl
 have Hh:i < σ.length:=by rw [I.len]; exact (List.getElem?_eq_some_iff.mp hi).1
 have Ap:=I.Ap
 have tracked:∀ {a:Addr} {h':Heap},(∃ o,s.heap.get? a = some o ∧ H a = none) → Heap.SameBut a s.heap h' → fS X.prog X.w H h':=fun {a h'} ha hs b ob e => by
  obtain ⟨_,_,uf⟩:=ha
  refine (I.bt b ob e).iH (fun c w' hc q => (hs.2 c ?_).trans q) (fun _ q => q) fun _ _ q => q
  rintro rfl
  rcases hc with rfl | hc
  ·rw [uf] at e; cases e
  ·rw [uf] at hc; cases hc
 rcases hx with hk | hk
 ·refine wpAny_storeName_local hk hn (fun h' DZ hs => ?_) KA
  obtain ⟨oL,_,_,Of,_⟩:=id hn
  refine h _ ⟨I.ok,I.os,I.bare,⟨fun b o e n hb hx => ?_,fun b o e n hb hx => ?_,I.base.free,fun b o e hx => ?_,I.base.iI,I.base.ic,I.base.i!⟩,⟨_,DZ,fun j y v' e1 e2 e3 => ?_⟩,fun y c e => ?_,I.free,I.fo,fun p hp => ?_,tracked ⟨oL,Of,I.free⟩ hs,by simpa using I.len⟩ ⟨_,hs,.inl rfl⟩
  ·exact (hs.2 b (Nat.ne_of_lt (Nat.lt_of_lt_of_le (Heap.lt_size e) I.ok.above))).trans (I.base.keep b o e n hb hx)
  ·obtain ⟨sl,e1⟩:=I.base.slot b o e n hb hx
   exact ⟨sl,(hs.2 b (Nat.ne_of_lt (Nat.lt_of_lt_of_le (Heap.lt_size e) I.ok.above))).trans e1⟩
  ·obtain ⟨o',e1⟩:=I.base.there b o e hx
   exact ⟨o',(hs.2 b (Nat.ne_of_lt (Nat.lt_of_lt_of_le (Heap.lt_size e) I.ok.above))).trans e1⟩
  ·by_cases hj:j = i
   ·subst hj
    rw [hi] at e1; cases e1
    rw [List.getElem?_set_self Hh] at e2
    cases e2
    exact ⟨u,r,.inl ⟨hk,by simp⟩⟩
   ·rw [List.getElem?_set_ne (Ne.symm hj)] at e2
    obtain ⟨u',r',q⟩:=hl j y v' e1 e2 e3
    refine ⟨u',r',?_⟩
    rcases q with ⟨k,e⟩ | ⟨k,c,e,z⟩
    ·refine .inl ⟨k,?_⟩
     have:y ≠ x:=fun e => hj (kX hN e1 (e ▸ hi))
     simp [this,e]
    ·exact .inr ⟨k,c,e,z.sameBut hs (Ap y c e)⟩
  ·obtain ⟨w',z⟩:=I.cell y c e
   exact ⟨w',z.sameBut hs (Ap y c e)⟩
  ·obtain ⟨e,n,ne,nf,d⟩:=I.pin p hp
   exact ⟨(hs.2 p.1 ne).trans e,n,ne,nf,d⟩
 ·have xE:X.fn x = true:=by
   rcases hf with z | z
   ·exact z
   ·rw [z] at hk; cases hk
  obtain ⟨c,hc⟩:=I.ok.has x (.inl hk)
  obtain ⟨w',z⟩:=I.cell x c hc
  refine wpAny_storeName_cell I.ok.kind hk hc z (fun h' ba hs => ?_)
  obtain ⟨oc,Nk,KC⟩:=id z
  refine h { s with heap:=h' } ⟨I.ok,I.os,I.bare,⟨fun b o e n hb hx => ?_,fun b o e n hb hx => ?_,I.base.free,fun b o e hx => ?_,I.base.iI,I.base.ic,I.base.i!⟩,⟨m,hn.sameBut hs (Ne.symm (Ap x c hc)),fun j y v' e1 e2 e3 => ?_⟩,fun y c' e => ?_,I.free,I.fo,fun p hp => ?_,tracked ⟨oc,Nk,I.fo x c hc⟩ hs,by simpa using I.len⟩ ⟨c,hs,.inr hc⟩
  ·exact (hs.2 b (Nat.ne_of_lt (Nat.lt_of_lt_of_le (Heap.lt_size e) (I.ok.DY x c xE hc)))).trans (I.base.keep b o e n hb hx)
  ·obtain ⟨sl,e1⟩:=I.base.slot b o e n hb hx
   exact ⟨sl,(hs.2 b (Nat.ne_of_lt (Nat.lt_of_lt_of_le (Heap.lt_size e) (I.ok.DY x c xE hc)))).trans e1⟩
  ·obtain ⟨o',e1⟩:=I.base.there b o e hx
   exact ⟨o',(hs.2 b (Nat.ne_of_lt (Nat.lt_of_lt_of_le (Heap.lt_size e) (I.ok.DY x c xE hc)))).trans e1⟩
  ·by_cases hj:j = i
   ·subst hj
    rw [hi] at e1; cases e1
    rw [List.getElem?_set_self Hh] at e2
    cases e2
    exact ⟨u,r,.inr ⟨.inl hk,c,hc,ba⟩⟩
   ·rw [List.getElem?_set_ne (Ne.symm hj)] at e2
    obtain ⟨u',r',q⟩:=hl j y v' e1 e2 e3
    refine ⟨u',r',?_⟩
    rcases q with q | ⟨k,c',e,z'⟩
    ·exact .inl q
    ·refine .inr ⟨k,c',e,z'.sameBut hs ?_⟩
     rintro rfl
     exact hj (kX hN e1 (I.ok.inj _ _ _ e hc ▸ hi))
  ·by_cases Nl:c' = c
   ·subst Nl; exact ⟨_,ba⟩
   ·obtain ⟨w2,z2⟩:=I.cell y c' e
    exact ⟨w2,z2.sameBut hs Nl⟩
  ·obtain ⟨e,n,ne,nf,d⟩:=I.pin p hp
   refine ⟨(hs.2 p.1 ?_).trans e,n,ne,nf,d⟩
   intro q
   rw [q,Nk] at e
   have q':oc = p.2:=Option.some.inj e
   exact d w' (by rw [← q']; exact KC)
theorem kY {M:Model} {A:Around} {E:Value → Shared → Prop} {i:Nat} {x:Str} {v:V} {u:Value} {Q:Unit → Shared → Prop} (I:aG X af σ H s) (hN:X.N.Nodup) (hi:X.N[i]? = some x) (hx:Loc X.env.scope x) (r:bc v u)
  (h:∀ s',aG X af (σ.set i (some v)) H s' → Q () s') (hf:X.fn x = true ∨ X.env.scope.names.lookup x = some .local:=by first | exact .inl rfl | exact .inr rfl | assumption):wpAny M A (storeName X.env x u) Q E s :=
 jD I hN hi hx r (fun s' I' _ => h s' I') hf
theorem aG.kZ {s':Shared} {ch:List Addr} (I:aG X af σ H s) (ho:s'.os = s.os) (u:Un (ei X.stack) ch H H' s.heap s'.heap) (bt:fS X.prog X.w H' s'.heap) (hg:AllBare s'.gens)
  (Aq:∀ b ∈ ch,(b ∈ X.ex ∨ X.s₀.heap.objs.size ≤ b) ∧ b ≠ X.env.locals ∧ (∀ x c,X.env.cells.lookup x = some c → c ≠ b) ∧ ∀ p ∈ X.pn ++ af,p.1 ≠ b):aG X af σ H' s':=by
 obtain ⟨h',g',d',t',o'⟩:=s'
 have e:o' = s.os:=ho
 subst e
 exact I.call (g':=g') (t':=t') (d':=d') u bt hg Aq
end
noncomputable abbrev XK:=Value → Option Addr → Hp → Prop
noncomputable abbrev St:=List (Option V)
noncomputable abbrev VK:=V → Hp → Prop
noncomputable abbrev TE:=St → Hp → VK → Prop
noncomputable abbrev TT:=St → Hp → (Bool → Hp → Prop) → Prop
noncomputable abbrev TA:=St → Hp → (List V → Hp → Prop) → Prop
structure Ends where
 nx:St → Hp → Prop
 rt:VK
 bk:St → Hp → Prop:=fun _ _ => False
 ct:St → Hp → Prop:=fun _ _ => False
noncomputable abbrev TS:=Ends → St → Hp → Prop
noncomputable def EP (X:Cx) (af:List (Addr × Obj)) (σ:St) (Q:VK) (u:Value) (s':Shared):Prop:=∃ v H',aG X af σ H' s' ∧ bc v u ∧ Q v H'
noncomputable def TP (X:Cx) (af:List (Addr × Obj)) (σ:St) (Q:Bool → Hp → Prop) (b:Bool) (s':Shared):Prop:=∃ H',aG X af σ H' s' ∧ Q b H'
noncomputable def AP (X:Cx) (af:List (Addr × Obj)) (σ:St) (Q:List V → Hp → Prop) (us:List Value) (s':Shared):Prop:=∃ vs H',aG X af σ H' s' ∧ aR vs us ∧ Q vs H'
noncomputable def SP (X:Cx) (af:List (Addr × Obj)) (D:Ends) (f:Flow) (s':Shared):Prop :=
 match f with
 | .next => ∃ σ' H',aG X af σ' H' s' ∧ D.nx σ' H'
 | .brk => ∃ σ' H',aG X af σ' H' s' ∧ D.bk σ' H'
 | .cont => ∃ σ' H',aG X af σ' H' s' ∧ D.ct σ' H'
 | .ret u => ∃ v σ' H',aG X af σ' H' s' ∧ bc v u ∧ D.rt v H'
noncomputable def PE (X:Cx) (e:Expr) (t:TE):Prop :=
 ∀ (af:List (Addr × Obj)) (s:Shared) (σ:St) (H:Hp) (Q:VK),aG X af σ H s → t σ H Q → wpAny (model X.prog X.w) X.A (eval e X.env) (EP X af σ Q) X.xe s
noncomputable def PT (X:Cx) (e:Expr) (t:TT):Prop :=
 ∀ (af:List (Addr × Obj)) (s:Shared) (σ:St) (H:Hp) (Q:Bool → Hp → Prop),aG X af σ H s → t σ H Q → wpAny (model X.prog X.w) X.A (isTrue e X.env (eval e X.env)) (TP X af σ Q) X.xe s
noncomputable def PW (X:Cx) (e:Expr) (t:TT):Prop :=
 ∀ (whole:Sem Value) (af:List (Addr × Obj)) (s:Shared) (σ:St) (H:Hp) (Q:Bool → Hp → Prop),aG X af σ H s → t σ H Q → wpAny (model X.prog X.w) X.A (isTrue e X.env whole) (TP X af σ Q) X.xe s
theorem PW.pt {X:Cx} {e:Expr} {t:TT} (h:PW X e t):PT X e t:=h _
noncomputable def PA (X:Cx) (es:List Expr) (t:TA):Prop :=
 ∀ (pos:Pos) (af:List (Addr × Obj)) (s:Shared) (σ:St) (H:Hp) (Q:List V → Hp → Prop),aG X af σ H s → t σ H Q → wpAny (model X.prog X.w) X.A (spliced (backTo pos (starEach es X.env))) (AP X af σ Q) X.xe s
noncomputable def PS (X:Cx) (st:Stmt) (t:TS):Prop :=
 ∀ (af:List (Addr × Obj)) (s:Shared) (σ:St) (H:Hp) (D:Ends),aG X af σ H s → t D σ H → wpAny (model X.prog X.w) X.A (exec st X.env) (SP X af D) X.xe s
noncomputable def gS (X:Cx) (st:List Stmt) (t:TS):Prop :=
 ∀ (af:List (Addr × Obj)) (s:Shared) (σ:St) (H:Hp) (D:Ends),aG X af σ H s → t D σ H → wpAny (model X.prog X.w) X.A (execs st X.env) (SP X af D) X.xe s
theorem cJ {α:Type} {t:Sem α} {Q Q':α → Shared → Prop} {M:Model} {A:Around} {E:Value → Shared → Prop} {s:Shared} (h:wpAny M A t Q E s) (hQ:∀ a s,Q a s → Q' a s):wpAny M A t Q' E s:=wpAny_mono h hQ fun _ _ x => x
end L2
namespace L2
open PySem PySem.Spec PyProof.Rows
section
variable {X:Cx}
noncomputable def KD (i:Nat):TE:=fun σ H Q => ∃ v,σ[i]? = some (some v) ∧ Q v H
noncomputable def tC (v:V):TE:=fun _ H Q => Q v H
theorem rX {i:Nat} {x:Str} {pos:Pos} (hN:X.N[i]? = some x) (hv:C! X.env.scope x) (hd:(x == ("__debug__":Str)) = false:=by decide) (pZ:(x == ("__classdict__":Str)) = false:=by decide):PE X (.Name x pos) (KD i):=by
 intro af s σ H Q I h
 obtain ⟨v,e,h⟩:=h
 obtain ⟨m,hn,hl⟩:=I.loc
 obtain ⟨u,r,l⟩:=hl i x v hN e hv
 have fin:EP X af σ Q u s:=⟨v,H,I,r,h⟩
 rcases l with ⟨hk,hm⟩ | ⟨hk,c,hc,Dd⟩
 ·exact wpAny_Name (wpAny_loadName_local I.ok.kind hk hn hm fin) hd
 ·rcases hk with hk | hk
  ·exact wpAny_Name (wpAny_loadName_cell I.ok.kind hk hc Dd fin) hd
  ·exact wpAny_Name (wpAny_loadName_free I.ok.kind hk hc Dd fin pZ) hd
theorem D0 {i j pos}:PE X (.Constant (.int i) j pos) (tC (.int i)):=fun _ _ _ H _ I h => wpAny_Constant_int ⟨.int i,H,I.tok _,⟨_,rfl⟩,h⟩
theorem De {b j pos}:PE X (.Constant (.bool b) j pos) (tC (.bl b)):=fun _ _ _ H _ I h => Constant_bool ⟨.bl b,H,I,rfl,h⟩
theorem D3 {j pos}:PE X (.Constant .none j pos) (tC .bE):=fun _ _ _ H _ I h => Constant_none ⟨.bE,H,I,rfl,h⟩
theorem D4 {x j pos}:PE X (.Constant (.str x) j pos) (tC (.str x)):=fun _ _ _ H _ I h => Calls.Constant_str ⟨.str x,H,I.tok _,⟨_,rfl⟩,h⟩
noncomputable def Gl (X:Cx) (x:Str):Prop:=X.env.kindOf x = some .globalImplicit
theorem hU {E:Value → Shared → Prop} {af:List (Addr × Obj)} {s:Shared} {σ:St} {H:Hp} {x:Str} {u:Value} {pos:Pos} {Q:Value → Shared → Prop} (I:aG X af σ H s) (hg:Gl X x) (hm:X.mg x = some u) (h:Q u s)
  (hd:(x == ("__debug__":Str)) = false:=by decide):wpAny (model X.prog X.w) X.A (eval (.Name x pos) X.env) Q E s :=
 Calls.Name_function_global I.ok.kind hg (Calls.loadGlobal_global (by rw [I.ok.glob]; exact I.mod.glob.keeps I.bk) hm h) hd
theorem gg {E:Value → Shared → Prop} {af:List (Addr × Obj)} {s:Shared} {σ:St} {H:Hp} {x:Str} {u:Value} {pos:Pos} {Q:Value → Shared → Prop} (I:aG X af σ H s) (hg:Gl X x) (hm:X.mg x = none) (hv:bootBuiltins x = some u) (h:Q u s)
  (hn:x ≠ "__name__":=by decide) (hd:(x == ("__debug__":Str)) = false:=by decide):wpAny (model X.prog X.w) X.A (eval (.Name x pos) X.env) Q E s:=by
 obtain ⟨mb,h1,h2⟩:=I.mod.blt
 exact Calls.Name_function_global I.ok.kind hg (Calls.loadGlobal_builtin (by rw [I.ok.glob]; exact I.mod.glob.keeps I.bk) hm (by rw [I.ok.blt]; exact h1.keeps I.bk) ((h2 x hn).trans hv) h) hd
theorem oK {x:Str} {v:V} {u:Value} {pos:Pos} (hg:Gl X x) (hm:X.mg x = some u) (r:bc v u) (hd:(x == ("__debug__":Str)) = false:=by decide):PE X (.Name x pos) (tC v) :=
 fun _ _ _ H _ I h => hU I hg hm ⟨v,H,I,r,h⟩ hd
theorem ug {x:Str} {v:V} {u:Value} {pos:Pos} (hg:Gl X x) (hm:X.mg x = none) (hv:bootBuiltins x = some u) (r:bc v u) (hn:x ≠ "__name__":=by decide) (hd:(x == ("__debug__":Str)) = false:=by decide):PE X (.Name x pos) (tC v) :=
 fun _ _ _ H _ I h => gg I hg hm hv ⟨v,H,I,r,h⟩ hn hd
variable {a b:Expr} {ta tb:TE} {pos:Pos}
noncomputable def PC (X:Cx) (op:CmpOp) (a b:Expr) (t:TE):Prop :=
 ∀ (af:List (Addr × Obj)) (s:Shared) (σ:St) (H:Hp) (Q:VK),aG X af σ H s → t σ H Q →
  wpAny (model X.prog X.w) X.A (eval a X.env) (fun v s₁ => wpAny (model X.prog X.w) X.A (eval b X.env) (fun u s₂ => wpAny (model X.prog X.w) X.A (compareOp op v u) (EP X af σ Q) X.xe s₂) X.xe s₁) X.xe s
noncomputable def tB (t:TE):TT:=fun σ H Q => t σ H fun x H1 => ∃ c,x = .bl c ∧ Q c H1
theorem D5 {e:Expr} {t:TE} (h:PE X e t) (he:∀ whole,isTrue e X.env whole = (do let v ← whole; standAt e.pos; holding [v] (truthy v)):=by intro _; rfl):PT X e (tB t):=by
 intro af s σ H Q I hw
 refine isTrue_plain (cJ (h af s σ H _ I hw) fun v s1 ⟨x,H1,I1,r1,q1⟩ => ?_) (he _)
 obtain ⟨d,rfl,q⟩:=q1
 cases r1
 exact wpAny_truthy_bool ⟨H1,I1,q⟩
variable {tA AB:TT} {rest:List Expr}
noncomputable def KG (t u:TT):TT:=fun σ H Q => t σ H fun c H1 => if c = true then u σ H1 Q else Q false H1
noncomputable def Og (t u:TT):TT:=fun σ H Q => t σ H fun c H1 => if c = true then Q true H1 else u σ H1 Q
noncomputable def KH (t:TT):TT:=fun σ H Q => t σ H fun c H1 => Q (!c) H1
theorem AD (ha:PT X a tA):PW X (.BoolOp .And [a] pos) tA:=by
 intro wh af s σ H Q I h
 refine isTrue_and (cJ (ha af s σ H Q I h) fun c s1 e => ?_)
 cases c with
 | true => exact isTrue_and_nil e
 | false => exact e
theorem D6 (ha:PT X a tA):PW X (.BoolOp .Or [a] pos) tA:=by
 intro wh af s σ H Q I h
 refine isTrue_or (cJ (ha af s σ H Q I h) fun c s1 e => ?_)
 cases c with
 | false => exact isTrue_or_nil e
 | true => exact e
theorem D7 (ha:PT X a tA) (hb:PW X (.BoolOp .And (b :: rest) pos) AB):PW X (.BoolOp .And (a :: b :: rest) pos) (KG tA AB):=by
 intro wh af s σ H Q I h
 refine isTrue_and (cJ (ha af s σ H _ I h) fun c s1 ⟨H1,I1,q1⟩ => ?_)
 cases c with
 | true => exact hb wh af s1 σ H1 Q I1 q1
 | false => exact ⟨H1,I1,q1⟩
theorem Hi (ha:PT X a tA) (hb:PW X (.BoolOp .Or (b :: rest) pos) AB):PW X (.BoolOp .Or (a :: b :: rest) pos) (Og tA AB):=by
 intro wh af s σ H Q I h
 refine isTrue_or (cJ (ha af s σ H _ I h) fun c s1 ⟨H1,I1,q1⟩ => ?_)
 cases c with
 | true => exact ⟨H1,I1,q1⟩
 | false => exact hb wh af s1 σ H1 Q I1 q1
theorem D_ (ha:PT X a tA):PT X (.UnaryOp .Not a pos) (KH tA):=by
 intro af s σ H Q I h
 exact isTrue_not (ha af s σ H (fun c H1 => Q (!c) H1) I h)
noncomputable def Hj (ta tb:TE):TE:=fun σ H Q => ta σ H fun x H1 => ∃ c,x = .bl c ∧ if c = true then tb σ H1 Q else Q (.bl false) H1
noncomputable def KI (ta tb:TE):TE:=fun σ H Q => ta σ H fun x H1 => ∃ c,x = .bl c ∧ if c = true then Q (.bl true) H1 else tb σ H1 Q
noncomputable def Hk (ta:TE):TE:=fun σ H Q => ta σ H fun x H1 => ∃ c,x = .bl c ∧ Q (.bl (!c)) H1
theorem D! {op} {t:TE} (h:PE X a t):PE X (.BoolOp op [a] pos) t:=fun af s σ H Q I hw => BoolOp_one (h af s σ H Q I hw)
theorem D? (ha:PE X a ta) (hb:PE X (.BoolOp .And (b :: rest) pos) tb):PE X (.BoolOp .And (a :: b :: rest) pos) (Hj ta tb):=by
 intro af s σ H Q I h
 refine BoolOp_and (cJ (ha af s σ H _ I h) fun v s1 ⟨x,H1,I1,r1,q1⟩ => ?_)
 obtain ⟨c,rfl,q1⟩:=q1
 cases r1
 refine wpAny_truthy_bool ?_
 cases c with
 | true => exact hb af s1 σ H1 Q I1 q1
 | false => exact ⟨.bl false,H1,I1,rfl,q1⟩
theorem Hl (ha:PE X a ta) (hb:PE X (.BoolOp .Or (b :: rest) pos) tb):PE X (.BoolOp .Or (a :: b :: rest) pos) (KI ta tb):=by
 intro af s σ H Q I h
 refine BoolOp_or (cJ (ha af s σ H _ I h) fun v s1 ⟨x,H1,I1,r1,q1⟩ => ?_)
 obtain ⟨c,rfl,q1⟩:=q1
 cases r1
 refine wpAny_truthy_bool ?_
 cases c with
 | false => exact hb af s1 σ H1 Q I1 q1
 | true => exact ⟨.bl true,H1,I1,rfl,q1⟩
theorem Ea (ha:PE X a ta):PE X (.UnaryOp .Not a pos) (Hk ta):=by
 intro af s σ H Q I h
 refine UnaryOp_ (cJ (ha af s σ H _ I h) fun v s1 ⟨x,H1,I1,r1,q1⟩ => ?_)
 obtain ⟨c,rfl,q1⟩:=q1
 cases r1
 exact not_of (wpAny_truthy_bool ⟨.bl (!c),H1,I1,rfl,q1⟩)
noncomputable def Oh (t:TT) (ta tb:TE):TE:=fun σ H Q => t σ H fun c H1 => if c = true then ta σ H1 Q else tb σ H1 Q
theorem xF {c:Expr} (hc:PT X c tA) (ha:PE X a ta) (hb:PE X b tb):PE X (.IfExp c a b pos) (Oh tA ta tb):=by
 intro af s σ H Q I h
 refine wpAny_IfExp (cJ (hc af s σ H _ I h) fun d s1 ⟨H1,I1,q1⟩ => ?_)
 cases d with
 | true => exact ha af s1 σ H1 Q I1 q1
 | false => exact hb af s1 σ H1 Q I1 q1
end
end L2
namespace L2
open PySem PySem.Spec PyProof.Rows
noncomputable def iC (K:PySem.W.Frag) (H:Hp) (a:Addr) (xs:List V):Prop :=
 Rd H a (.lst xs) ∨
  ∃ (o:Obj) (aH:Array Value) (n:Nat),K.lookup a = some o ∧ o.cls = .type "list" ∧ o.dict = none ∧ o.data = .seq aH n ∧ aH.size ≤ sizeLine ∧ aR xs aH.toList
noncomputable def ig (K:PySem.W.Frag) (H:Hp) (a:Addr) (xs:List V):Prop :=
 Rd H a (.tup xs) ∨
  ∃ (o:Obj) (aH:Array Value) (n:Nat),K.lookup a = some o ∧ o.cls = .type "tuple" ∧ o.data = .seq aH n ∧ aH.size ≤ sizeLine ∧ aR xs aH.toList
noncomputable def KJ:Value → Option V
 | .none => some .bE
 | .bool b => some (.bl b)
 | .int i _ => some (.int i)
 | .str x _ => some (.str x)
 | .bytes b _ => some (.JM b)
 | .float b _ => some (.kq b)
 | .ref a => some (.ref a)
 | .type n => some (.ty n)
 | _ => none
theorem bc.abs {x:V} {u:Value} (r:bc x u):KJ u = some x:=by
 cases x with
 | bE => cases r; rfl
 | bl _ => cases r; rfl
 | int _ => obtain ⟨t,rfl⟩:=r; rfl
 | str _ => obtain ⟨t,rfl⟩:=r; rfl
 | JM _ => obtain ⟨t,rfl⟩:=r; rfl
 | kq _ => obtain ⟨t,rfl⟩:=r; rfl
 | ref _ => cases r; rfl
 | ty _ => cases r; rfl
theorem bc.inj {x y:V} {u:Value} (r:bc x u) (q:bc y u):x = y:=Option.some.inj (r.abs.symm.trans q.abs)
theorem aR.inj {xs ys:List V} {us:List Value} (p:aR xs us) (q:aR ys us):xs = ys:=by
 induction p generalizing ys with
 | nil => cases q; rfl
 | cons r t ih =>
  cases q with
  | cons r' t' => rw [r.inj r',ih t']
section
variable {X:Cx} {af:List (Addr × Obj)} {σ:St} {H:Hp} {s:Shared} {a:Addr} {xs ys:List V}
theorem iC.of {K:PySem.W.Frag} (h:H a = some (.lst xs)):iC K H a xs:=.inl (.inl h)
theorem ig.of {K:PySem.W.Frag} (h:H a = some (.tup xs)):ig K H a xs:=.inl (.inl h)
theorem aG.list (I:aG X af σ H s) (h:iC X.K H a xs):∃ aH:List Value,aR xs aH ∧ PlainL s.heap a aH.toArray ∧ xs.length ≤ sizeLine:=by
 rcases h with h | ⟨o,aH,n,hk,hc,hd,hs,hz,r⟩
 ·obtain ⟨z,aH,n,r,e⟩:=h.ok I.bt
  exact ⟨aH,r,⟨_,n,e,rfl,rfl,rfl⟩,z⟩
 ·refine ⟨aH.toList,r,⟨o,n,I.iJ a o hk,hc,hd,by simpa using hs⟩,?_⟩
  have e:=r.length
  simp only [Array.length_toList] at e
  lia
theorem aG.tuple (I:aG X af σ H s) (h:ig X.K H a xs):∃ aH:List Value,aR xs aH ∧ IsTup s.heap a aH.toArray ∧ xs.length ≤ sizeLine:=by
 rcases h with h | ⟨o,aH,n,hk,hc,hs,hz,r⟩
 ·obtain ⟨z,aH,r,p⟩:=h.ok I.bt
  exact ⟨aH,r,p,z⟩
 ·refine ⟨aH.toList,r,⟨o,I.iJ a o hk,hc,n,by simpa using hs⟩,?_⟩
  have e:=r.length
  simp only [Array.length_toList] at e
  lia
theorem aG.k6 (I:aG X af σ H s) (h:iC X.K H a xs) (h':iC X.K H a ys):xs = ys:=by
 obtain ⟨aH,r,⟨o,n,e,_,_,d⟩,_⟩:=I.list h
 obtain ⟨its',r',⟨o',n',e',_,_,d'⟩,_⟩:=I.list h'
 rw [e] at e'; cases e'
 rw [d] at d'
 injection d' with d1 _
 have:aH = its':=by simpa using congrArg Array.toList d1
 subst this
 exact r.inj r'
theorem aG.jE (I:aG X af σ H s) (h:ig X.K H a xs) (h':ig X.K H a ys):xs = ys:=by
 obtain ⟨aH,r,⟨o,e,_,n,d⟩,_⟩:=I.tuple h
 obtain ⟨its',r',⟨o',e',_,n',d'⟩,_⟩:=I.tuple h'
 rw [e] at e'; cases e'
 rw [d] at d'
 injection d' with d1 _
 have:aH = its':=by simpa using congrArg Array.toList d1
 subst this
 exact r.inj r'
end
noncomputable abbrev Cx.k7 (X:Cx) (E:Value → Shared → Prop):Cx:={ X with xe:=E }
theorem Cx.Ok.k7 {X:Cx} (ok:X.Ok) (E:Value → Shared → Prop):(X.k7 E).Ok :=
 ⟨ok.mod,ok.kind,ok.glob,ok.blt,ok.above,ok.inj,ok.has,ok.DY,ok.hd,ok.frames,ok.Az,ok.Kw,ok.bs,ok.AA,ok.rW,ok.xB,ok.ie,ok.xC⟩
theorem Cx.Ok.oM {X:Cx} {E:Value → Shared → Prop} (ok:(X.k7 E).Ok):X.Ok :=
 ⟨ok.mod,ok.kind,ok.glob,ok.blt,ok.above,ok.inj,ok.has,ok.DY,ok.hd,ok.frames,ok.Az,ok.Kw,ok.bs,ok.AA,ok.rW,ok.xB,ok.ie,ok.xC⟩
section
variable {X:Cx} {af:List (Addr × Obj)} {σ:St} {H:Hp} {s:Shared} {E:Value → Shared → Prop}
theorem aG.k7 (I:aG X af σ H s) (E:Value → Shared → Prop):aG (X.k7 E) af σ H s:=⟨I.ok.k7 E,I.os,I.bare,I.base,I.loc,I.cell,I.free,I.fo,I.pin,I.bt,I.len⟩
theorem aG.oM (I:aG (X.k7 E) af σ H s):aG X af σ H s:=⟨I.ok.oM,I.os,I.bare,I.base,I.loc,I.cell,I.free,I.fo,I.pin,I.bt,I.len⟩
end
section
variable {X:Cx} {st:Stmt} {rest:List Stmt} {t u:TS} {e:Expr} {te:TE} {pos:Pos}
noncomputable def Hm:TS:=fun D σ H => D.nx σ H
noncomputable def KL (t u:TS):TS:=fun D σ H => t { D with nx:=u D } σ H
theorem AE:gS X [] Hm:=fun _ _ σ H _ I h => wpAny_execs_nil ⟨σ,H,I,h⟩
theorem xG (h1:PS X st t) (h2:gS X rest u):gS X (st :: rest) (KL t u):=by
 intro af s σ H D I h
 refine wpAny_execs_cons (cJ (h1 af s σ H { D with nx:=u D } I h) fun f s1 q => ?_)
 cases f with
 | next =>
  obtain ⟨σ',H',I',q⟩:=q
  exact h2 af s1 σ' H' D I' q
 | ret v => exact q
 | brk => exact q
 | cont => exact q
theorem AF (h1:PS X st t):gS X [st] t:=by
 intro af s σ H D I h
 refine wpAny_execs_cons (cJ (h1 af s σ H D I h) fun f s1 q => ?_)
 cases f with
 | next => exact wpAny_execs_nil q
 | ret v => exact q
 | brk => exact q
 | cont => exact q
theorem aG.quiet {af:List (Addr × Obj)} {σ:St} {H:Hp} {s:Shared} (I:aG X af σ H s):interactive X.env = false:=by simp [interactive,I.ok.kind]
noncomputable def Hn (te:TE):TS:=fun D σ H => te σ H fun _ H1 => D.nx σ H1
theorem AG (he:PE X e te) (hs:swapsWith e none pos.line X.env = pure false:=by rfl):PS X (.Expr e pos) (Hn te):=by
 intro af s σ H D I h
 exact wpAny_Expr_any (cJ (he af s σ H _ I h) fun v s1 ⟨x,H1,I1,r1,q1⟩ => ⟨σ,H1,I1,q1⟩) I.quiet hs
noncomputable def KN (te:TE):TS:=fun D σ H => te σ H D.rt
theorem Eb (he:PE X e te):PS X (.Return (some e) pos) (KN te):=by
 intro af s σ H D I h
 exact wpAny_Return_some (cJ (he af s σ H _ I h) fun v s1 ⟨x,H1,I1,r1,q1⟩ => ⟨x,σ,H1,I1,r1,q1⟩)
noncomputable def KO (c:TT) (t u:TS):TS:=fun D σ H => c σ H fun b H1 => if b = true then t D σ H1 else u D σ H1
theorem Ho {c:Expr} {a b:List Stmt} {tc:TT} (hc:PT X c tc) (ha:gS X a t) (hb:gS X b u):PS X (.If c a b pos) (KO tc t u):=by
 intro af s σ H D I h
 refine wpAny_If (cJ (hc af s σ H _ I h) fun d s1 ⟨H1,I1,q1⟩ => ?_)
 cases d with
 | true => exact ha af s1 σ H1 D I1 q1
 | false => exact hb af s1 σ H1 D I1 q1
end
noncomputable abbrev TG:=V → St → Hp → (St → Hp → Prop) → Prop
noncomputable abbrev AH:=List V → St → Hp → (St → Hp → Prop) → Prop
noncomputable def PG (X:Cx) (target:Expr) (t:TG):Prop :=
 ∀ (af:List (Addr × Obj)) (s:Shared) (σ:St) (H:Hp) (v:V) (u:Value) (Q:St → Hp → Prop),aG X af σ H s → bc v u → t v σ H Q →
  wpAny (model X.prog X.w) X.A (assign target X.env u) (fun _ s' => ∃ σ' H',aG X af σ' H' s' ∧ Q σ' H') X.xe s
noncomputable def rY (X:Cx) (ts:List Expr) (t:AH):Prop :=
 ∀ (af:List (Addr × Obj)) (s:Shared) (σ:St) (H:Hp) (vs:List V) (us:List Value) (Q:St → Hp → Prop),aG X af σ H s → aR vs us → t vs σ H Q →
  wpAny (model X.prog X.w) X.A (assignInOrder ((assignEach ts X.env).map (·.2)) us) (fun _ s' => ∃ σ' H',aG X af σ' H' s' ∧ Q σ' H') X.xe s
section
variable {X:Cx} {pos:Pos}
noncomputable def p4 (i:Nat):TG:=fun v σ H Q => Q (σ.set i (some v)) H
theorem AI {i:Nat} {x:Str} (hN:X.N.Nodup) (hi:X.N[i]? = some x) (hx:Loc X.env.scope x) (hf:X.fn x = true ∨ X.env.scope.names.lookup x = some .local:=by first | exact .inl rfl | exact .inr rfl | assumption):PG X (.Name x pos) (p4 i):=by
 intro af s σ H v u Q I r h
 exact wpAny_assign_Name (kY I hN hi hx r (fun s' I' => ⟨_,H,I',h⟩) hf)
noncomputable def KP:AH:=fun vs σ H Q => vs = [] ∧ Q σ H
noncomputable def Hq (t:TG) (u:AH):AH:=fun vs σ H Q => ∃ v r,vs = v :: r ∧ t v σ H fun σ' H' => u r σ' H' Q
theorem AJ:rY X [] KP:=by
 intro af s σ H vs us Q I r h
 obtain ⟨e,h⟩:=h
 subst e
 cases r
 exact assignInOrder_nil ⟨σ,H,I,h⟩
theorem xH {e:Expr} {es:List Expr} {t:TG} {u:AH} (h1:PG X e t) (h2:rY X es u)
  (hs:(assignEach (e :: es) X.env).map (·.2) = assign e X.env :: (assignEach es X.env).map (·.2):=by rfl):rY X (e :: es) (Hq t u):=by
 intro af s σ H vs us Q I r h
 obtain ⟨v,vr,e1,h⟩:=h
 subst e1
 cases r with
 | cons r rr =>
  rw [hs]
  refine assignInOrder_cons (cJ (h1 af s σ H _ _ _ I r h) fun _ s1 ⟨σ1,H1,I1,q1⟩ => ?_)
  exact h2 af s1 σ1 H1 _ _ Q I1 rr q1
noncomputable def KQ (K:PySem.W.Frag) (n:Nat) (t:AH):TG:=fun v σ H Q => ∃ a xs,v = .ref a ∧ ig K H a xs ∧ xs.length = n ∧ t xs σ H Q
theorem Ec {es:List Expr} {k:Nat} {t:AH} {n:Nat} (hc:X.calm = true) (h:rY X es t)
  (hn:(assignEach es X.env).length = n:=by rfl) (vy:(assignEach es X.env).findIdx? (·.1) = none:=by rfl):PG X (.Tuple es k pos) (KQ X.K n t):=by
 intro af s σ H v u Q I r hw
 obtain ⟨a,xs,e1,hq,hl,hw⟩:=hw
 subst e1
 cases r
 obtain ⟨aH,rv,ht,hz⟩:=I.tuple hq
 refine assign_Tuple_tuple (I.ok.hd hc) ht (by simp [hn,← hl,rv.length]) vy fun h' hx => ?_
 have I1:aG X af σ H { s with heap:=h' }:=I.kept (t':=s.toks) fun b o e => hx b o (Nat.ne_of_lt (Heap.lt_size e)) e
 exact h af _ σ H xs _ Q I1 (by simpa using rv) hw
noncomputable def Ed (te:TE) (g:TG):TS:=fun D σ H => te σ H fun x H1 => g x σ H1 D.nx
theorem Ee {i:Nat} {x:Str} {e:Expr} {te:TE} {pos':Pos} (hN:X.N.Nodup) (hi:X.N[i]? = some x) (hx:Loc X.env.scope x) (he:PE X e te) (hs:swapsWith e (some (.Name x pos')) pos.line X.env = pure false:=by rfl) (hf:X.fn x = true ∨ X.env.scope.names.lookup x = some .local:=by first | exact .inl rfl | exact .inr rfl | assumption) :
  PS X (.Assign [.Name x pos'] e pos) (Ed te (p4 i)):=by
 intro af s σ H D I h
 refine wpAny_Assign_Name (cJ (he af s σ H _ I h) fun v s1 ⟨y,H1,I1,r1,q1⟩ => ?_) hs
 exact kY I1 hN hi hx r1 (fun s2 I2 => ⟨_,H1,I2,q1⟩) hf
end
section
variable {X:Cx} {pos:Pos}
noncomputable def Ef (c:TT) (tb:TS):TS:=fun D σ H => ∃ W:Nat → St → Hp → Prop,(∃ m,W m σ H) ∧ ∀ m σ H,W m σ H →
 c σ H fun b H1 => if b = true then ∃ N:St → Hp → Prop,(∀ σ' H',N σ' H' → ∃ m',m' < m ∧ W m' σ' H') ∧ tb { D with nx:=N,ct:=N,bk:=D.nx } σ H1 else D.nx σ H1
theorem xI {c:Expr} {body:List Stmt} {tc:TT} {tb:TS} (hp:PassesOwn (model X.prog X.w) X.A X.env X.xe) (hc:PT X c tc) (hb:gS X body tb):PS X (.While c body [] pos) (Ef tc tb):=by
 intro af s σ H D I h
 obtain ⟨W,⟨m0,w0⟩,turn⟩:=h
 refine wpAny_While (codeAny_whileLoop (fun n s' => ∃ σ' H',aG X af σ' H' s' ∧ W n σ' H') ?_ m0 ⟨σ,H,I,w0⟩)
 rintro n s1 ⟨σ1,H1,I1,w1⟩
 refine wpAny_passesOwn hp (cJ (hc af s1 σ1 H1 _ I1 (turn n σ1 H1 w1)) fun b s2 ⟨H2,I2,q2⟩ => ?_)
 cases b with
 | true =>
  obtain ⟨N,hN,q2⟩:=q2
  rw [if_pos rfl]
  refine wpAny_passesOwn hp (cJ (hb af s2 σ1 H2 _ I2 q2) fun f s3 q3 => ?_)
  cases f with
  | next =>
   obtain ⟨σ3,H3,I3,n3⟩:=q3
   obtain ⟨m',hm,w3⟩:=hN σ3 H3 n3
   exact ⟨m',hm,σ3,H3,I3,w3⟩
  | cont =>
   obtain ⟨σ3,H3,I3,n3⟩:=q3
   obtain ⟨m',hm,w3⟩:=hN σ3 H3 n3
   exact ⟨m',hm,σ3,H3,I3,w3⟩
  | brk => exact q3
  | ret v => exact q3
 | false =>
  rw [if_neg Bool.false_ne_true]
  exact wpAny_execs_nil ⟨σ1,H2,I2,q2⟩
end
structure It where
 go:Nat → Hp → Prop
 Hr:Nat → Hp → V → Hp → Prop
 stop:Nat → Hp → Prop
noncomputable def mV (X:Cx) (af:List (Addr × Obj)) (H:Hp) (b:Addr):Prop :=
 H b = none ∧ b ≠ X.env.locals ∧ b ∉ X.fs ∧ (b ∈ X.ex ∨ X.s₀.heap.objs.size ≤ b) ∧ (∀ x c,X.env.cells.lookup x = some c → c ≠ b) ∧ ∀ p ∈ X.pn ++ af,p.1 ≠ b
theorem aG.rZ {X:Cx} {af:List (Addr × Obj)} {σ:St} {H H':Hp} {s:Shared} {b:Addr} (I:aG X af σ H s) (hb:s.heap.objs.size ≤ b) (hn:H' b = none):mV X af H' b:=by
 refine ⟨hn,Nat.ne_of_gt (Nat.lt_of_lt_of_le I.lt hb),I.Ky hb,.inr (Nat.le_trans I.sz hb),fun x c e z => ?_,fun p hp z => ?_⟩
 ·obtain ⟨v,q⟩:=I.cell x c e
  exact absurd (Nat.lt_of_lt_of_le q.lt (by rw [z]; exact hb)) (Nat.lt_irrefl _)
 ·exact absurd (Nat.lt_of_lt_of_le (Heap.lt_size (I.pin p hp).1) (by rw [z]; exact hb)) (Nat.lt_irrefl _)
structure Turn (P:Program) (w:World) (K:PySem.W.Frag) (tg:Expr) (J:It) (fp:List Addr) (it:Addr) (tn:Nat → Heap → Prop):Prop where
 mem:it ∈ fp
 obj:∀ i h,tn i h → ∀ b ∈ fp,∃ o,h.get? b = some o ∧ ∀ v,o.data ≠ .cell v
 keep:∀ i h h',tn i h → (∀ b ∈ fp,∀ o,h.get? b = some o → h'.get? b = some o) → tn i h'
 item:∀ (X:Cx),X.prog = P → X.w = w → X.K = K → X.calm = true → ∀ (i:Nat) (af:List (Addr × Obj)) (s:Shared) (σ:St) (H:Hp) (E:Value → Shared → Prop),aG X af σ H s → (∀ b ∈ fp,mV X af H b) → tn i s.heap → J.go i H →
  wpAny (model P w) X.A (pyNext (.ref it)) (fun r s1 => ∃ u,r = some u ∧
   wpAny (model P w) X.A (letOwnedTupleGo tg (.ref it) u) (fun _ s2 => ∃ x H',aG X af σ H' s2 ∧ bc x u ∧ J.Hr i H x H' ∧ tn (i + 1) s2.heap ∧ ∀ b ∈ fp,H' b = none) E s1) E s
 done:∀ (X:Cx),X.prog = P → X.w = w → X.K = K → X.calm = true → ∀ (i:Nat) (af:List (Addr × Obj)) (s:Shared) (σ:St) (H:Hp) (E:Value → Shared → Prop),aG X af σ H s → (∀ b ∈ fp,mV X af H b) → tn i s.heap → J.stop i H →
  wpAny (model P w) X.A (pyNext (.ref it)) (fun r s1 => r = none ∧ aG X af σ H s1) E s
 self:∀ (A:Around) (i:Nat) (s:Shared) (Q:Value → Shared → Prop) (E:Value → Shared → Prop),tn i s.heap → Q (.ref it) s → wpAny (model P w) A (pyIter (.ref it)) Q E s
noncomputable abbrev TI:=St → Hp → (It → Hp → Prop) → Prop
noncomputable def JQ (X:Cx) (af:List (Addr × Obj)) (σ:St) (tg:Expr) (R:It → Hp → Prop) (JR:Value) (s2:Shared):Prop :=
 ∃ (it:Addr) (fp:List Addr) (tn:Nat → Heap → Prop) (J:It) (H':Hp),JR = .ref it ∧ aG X af σ H' s2 ∧ Turn X.prog X.w X.K tg J fp it tn ∧ tn 0 s2.heap ∧ (∀ b ∈ fp,mV X af H' b) ∧ R J H'
noncomputable def PI (X:Cx) (tg iter:Expr) (wi:TI):Prop :=
 ∀ (af:List (Addr × Obj)) (s:Shared) (σ:St) (H:Hp) (R:It → Hp → Prop),aG X af σ H s → wi σ H R →
  wpAny (model X.prog X.w) X.A (eval iter X.env) (fun v s1 => wpAny (model X.prog X.w) X.A (pyIter v) (JQ X af σ tg R) X.xe s1) X.xe s
theorem uh {M:Model} {A:Around} {E:Value → Shared → Prop} {s:Shared} {tg:Expr} {it:Addr} {u:Value} {o:Obj} {n:String} {vs:Array Value} {Q:Unit → Shared → Prop} (ho:s.heap.get? it = some o) (hc:o.cls = .type n) (hd:o.data = .fields vs)
    (hn:["enumerate","zip","dict_itemiterator","dict_reverseitemiterator","odict_iterator","itertools.zip_longest","itertools.pairwise"].contains n = false) (hQ:Q () s):wpAny M A (letOwnedTupleGo tg (.ref it) u) Q E s:=by
  unfold letOwnedTupleGo
  cases tg <;> first
    | exact wpAny_pure hQ
    | (cases u <;> first
        | exact wpAny_pure hQ
        | (refine wpAny_bind (wpAny_load ho ?_)
           rw [hc,hd]
           show wpAny M A (if (["enumerate","zip","dict_itemiterator","dict_reverseitemiterator","odict_iterator","itertools.zip_longest","itertools.pairwise"].contains n && vs[0]? == some (rawInt _)) = true then _ else _) Q E s
           rw [if_neg (by intro h; rw [hn,Bool.false_and] at h; cases h)]
           exact wpAny_pure hQ))
noncomputable def KR (K:PySem.W.Frag) (a:Addr):It :=
 ⟨fun i H => ∃ xs x,iC K H a xs ∧ xs[i]? = some x,fun i H x H' => H' = H ∧ ∀ xs,iC K H a xs → xs[i]? = some x,fun i H => ∃ xs,iC K H a xs ∧ xs.length ≤ i⟩
noncomputable def KS (K:PySem.W.Frag) (a:Addr):It :=
 ⟨fun i H => ∃ xs x,ig K H a xs ∧ xs[i]? = some x,fun i H x H' => H' = H ∧ ∀ xs,ig K H a xs → xs[i]? = some x,fun i H => ∃ xs,ig K H a xs ∧ xs.length ≤ i⟩
noncomputable def Hs (lo:Int) (n:Nat):It:=⟨fun i _ => i < n,fun i H x H' => H' = H ∧ x = .int (lo + i),fun i _ => n ≤ i⟩
theorem vz {P:Program} {w:World} {K:PySem.W.Frag} {tg:Expr} (a it:Addr):Turn P w K tg (KR K a) [it] it (fun i h => h.IsListIter it a i) where
 mem:=by simp
 obj:=fun i h st b hb => by
  have e:b = it:=by simpa using hb
  subst e
  obtain ⟨o,e,c,d⟩:=st
  exact ⟨o,e,fun v z => by rw [d] at z; cases z⟩
 keep:=fun i h h' st k => st.at fun o e => k it (by simp) o e
 item:=by
  intro X hP hw hK hc i af s σ H E I hf st hg
  subst hP hw hK
  obtain ⟨xs,x,hq,hx⟩:=hg
  obtain ⟨aH,rv,p,hz⟩:=I.list hq
  obtain ⟨u,hu,ru⟩:=rv.get hx
  obtain ⟨f0,f1,f2,f3,f4,f5⟩:=hf it (by simp)
  refine wpAny_pyNext_list_item st p.isList (x:=u) (by simpa using hu) fun h' av sb => ?_
  have I1:aG X af σ H { s with heap:=h' }:=I.turned (t':=s.toks) (fun b o hb e => (sb.2 b hb).trans e) f0 f1 f3 f4 f5
  obtain ⟨o,e,c,d⟩:=id av
  exact ⟨u,rfl,uh (s:={ s with heap:=h' }) e c d (by decide) ⟨x,H,I1,ru,⟨rfl,fun ys hy => by rw [I.k6 hy hq]; exact hx⟩,av,fun b hb => (hf b hb).1⟩⟩
 done:=by
  intro X hP hw hK hc i af s σ H E I hf st hg
  subst hP hw hK
  obtain ⟨xs,hq,hx⟩:=hg
  obtain ⟨aH,rv,p,hz⟩:=I.list hq
  obtain ⟨f0,f1,f2,f3,f4,f5⟩:=hf it (by simp)
  have hl:=rv.length
  exact wpAny_pyNext_list_end (I.ok.hd hc) st p.isList (by simp; lia) fun h' eb => ⟨rfl,I.turned (t':=s.toks) (fun b o hb e => eb b o hb e) f0 f1 f3 f4 f5⟩
 self:=fun _ _ _ _ _ st h => wpAny_pyIter_listiter st h
theorem r9 {P:Program} {w:World} {K:PySem.W.Frag} {tg:Expr} (a it:Addr):Turn P w K tg (KS K a) [it] it (fun i h => h.IsTupleIter it a i) where
 mem:=by simp
 obj:=fun i h st b hb => by
  have e:b = it:=by simpa using hb
  subst e
  obtain ⟨o,e,c,d⟩:=st
  exact ⟨o,e,fun v z => by rw [d] at z; cases z⟩
 keep:=fun i h h' st k => st.at fun o e => k it (by simp) o e
 item:=by
  intro X hP hw hK hc i af s σ H E I hf st hg
  subst hP hw hK
  obtain ⟨xs,x,hq,hx⟩:=hg
  obtain ⟨aH,rv,p,hz⟩:=I.tuple hq
  obtain ⟨u,hu,ru⟩:=rv.get hx
  obtain ⟨f0,f1,f2,f3,f4,f5⟩:=hf it (by simp)
  refine wpAny_pyNext_tuple_item st (show s.heap.IsTuple a aH.toArray from p) (x:=u) (by simpa using hu) fun h' av sb => ?_
  have I1:aG X af σ H { s with heap:=h' }:=I.turned (t':=s.toks) (fun b o hb e => (sb.2 b hb).trans e) f0 f1 f3 f4 f5
  obtain ⟨o,e,c,d⟩:=id av
  exact ⟨u,rfl,uh (s:={ s with heap:=h' }) e c d (by decide) ⟨x,H,I1,ru,⟨rfl,fun ys hy => by rw [I.jE hy hq]; exact hx⟩,av,fun b hb => (hf b hb).1⟩⟩
 done:=by
  intro X hP hw hK hc i af s σ H E I hf st hg
  subst hP hw hK
  obtain ⟨xs,hq,hx⟩:=hg
  obtain ⟨aH,rv,p,hz⟩:=I.tuple hq
  obtain ⟨f0,f1,f2,f3,f4,f5⟩:=hf it (by simp)
  have hl:=rv.length
  exact wpAny_pyNext_tuple_end (I.ok.hd hc) st (show s.heap.IsTuple a aH.toArray from p) (by simp; lia) fun h' eb => ⟨rfl,I.turned (t':=s.toks) (fun b o hb e => eb b o hb e) f0 f1 f3 f4 f5⟩
 self:=fun _ _ _ _ _ st h => wpAny_pyIter_tupleiter st h
theorem r_ {P:Program} {w:World} {K:PySem.W.Frag} {tg:Expr} (it:Addr) (lo:Int) (n:Nat):Turn P w K tg (Hs lo n) [it] it (fun i h => IsRangeIter h it (lo + (i:Nat) * 1) ((n:Int) - (i:Nat)) 1) where
 mem:=by simp
 obj:=fun i h st b hb => by
  have e:b = it:=by simpa using hb
  subst e
  exact ⟨_,st,fun v z => by
   have z':Data.fields _ = Data.cell v:=z
   cases z'⟩
 keep:=fun i h h' st k => k it (by simp) _ st
 item:=by
  intro X hP hw hK hc i af s σ H E I hf st hg
  subst hP hw hK
  obtain ⟨f0,f1,f2,f3,f4,f5⟩:=hf it (by simp)
  have W:=Walks.range (prog:=X.prog) (w:=X.w) (I.ok.hd hc) it lo 1 n
  refine W.item i s _ _ hg st fun v h' tk hv av kk => ?_
  obtain ⟨t,rfl⟩:=hv
  have I1:aG X af σ H { s with heap:=h',toks:=tk }:=I.turned (fun b o hb e => kk b o (by simpa using hb) e) f0 f1 f3 f4 f5
  refine ⟨_,rfl,uh (s:={ s with heap:=h',toks:=tk }) (n:="range_iterator") av rfl rfl (by decide) ⟨.int (lo + i),H,I1,⟨t,?_⟩,⟨rfl,rfl⟩,av,fun b hb => (hf b hb).1⟩⟩
  rw [Int.mul_one]
 done:=by
  intro X hP hw hK hc i af s σ H E I hf st hg
  subst hP hw hK
  obtain ⟨f0,f1,f2,f3,f4,f5⟩:=hf it (by simp)
  exact wpAny_pyNext_range_end (I.ok.hd hc) st (by have:n ≤ i:=hg; lia) fun h' eb => ⟨rfl,I.turned (t':=s.toks) (fun b o hb e => eb b o hb e) f0 f1 f3 f4 f5⟩
 self:=fun _ _ _ _ _ st h => wpAny_pyIter_rangeiter st h
end L2
namespace L2
open PySem PySem.Spec PyProof.Rows
section
variable {X:Cx} {tg:Expr}
theorem p5 {af:List (Addr × Obj)} {σ:St} {H:Hp} {s:Shared} {R:It → Hp → Prop} {E:Value → Shared → Prop} {lo hi:Int} {t u v:Tok} {tk:Nat} (I:aG X af σ H s) (h1:-(2 ^ 62) ≤ lo) (h2:lo < 2 ^ 62) (h3:-(2 ^ 62) ≤ hi) (h4:hi < 2 ^ 62)
  (q:R (Hs lo (hi - lo).toNat) H):wpAny (model X.prog X.w) X.A (pyIter (.ref s.heap.objs.size)) (JQ X af σ tg R) E { s with heap:=s.heap.push { cls:=.type "range",data:=.fields #[.int lo t,.int hi u,.int 1 v] },toks:=tk }:=by
 refine wpAny_pyIter_range (IsRange.new ..) (small_one h1 h2 h3 h4) ?_
 have I1:aG X af σ H { s with heap:=s.heap.push { cls:=.type "range",data:=.fields #[.int lo t,.int hi u,.int 1 v] },toks:=tk }:=I.kept fun b o e => Heap.get?_push_of_some _ e
 refine ⟨(s.heap.push { cls:=.type "range",data:=.fields #[.int lo t,.int hi u,.int 1 v] }).objs.size,[(s.heap.push { cls:=.type "range",data:=.fields #[.int lo t,.int hi u,.int 1 v] }).objs.size],_,_,H,rfl,
  I1.kept (t':=tk) fun b o e => Heap.get?_push_of_some _ e,r_ _ lo (hi - lo).toNat,?_,fun b hb => ?_,q⟩
 ·have e1:lo + ((0:Nat):Int) * 1 = lo:=by simp
  have e2:(((hi - lo).toNat:Nat):Int) - ((0:Nat):Int) = Builtin.Range.rangeSize lo hi 1:=by rw [rangeSize_one]; split <;> lia
  show IsRangeIter _ _ (lo + ((0:Nat):Int) * 1) ((((hi - lo).toNat:Nat):Int) - ((0:Nat):Int)) 1
  rw [e1,e2]
  exact Heap.get?_push_size _ rfl
 ·have e:b = (s.heap.push { cls:=.type "range",data:=.fields #[.int lo t,.int hi u,.int 1 v] }).objs.size:=by simpa using hb
  subst e
  exact I1.rZ (Nat.le_refl _) (I1.bt.fresh (Nat.le_refl _))
noncomputable def Ht (ta:TA):TI:=fun σ H R => ta σ H fun vs H1 => ∃ j:Int,vs = [.int j] ∧ -(2 ^ 62) ≤ j ∧ j < 2 ^ 62 ∧ R (Hs 0 j.toNat) H1
noncomputable def Hu (ta:TA):TI:=fun σ H R => ta σ H fun vs H1 => ∃ i j:Int,vs = [.int i,.int j] ∧ (-(2 ^ 62) ≤ i ∧ i < 2 ^ 62 ∧ -(2 ^ 62) ≤ j ∧ j < 2 ^ 62) ∧ R (Hs i (j - i).toNat) H1
theorem vA {a:Expr} {ta:TA} {p pos:Pos} (hg:Gl X "range") (hm:X.mg "range" = none) (ha:PA X [a] ta) (hs:starEach [a] X.env = [(false,eval a X.env)]:=by rfl):PI X tg (.Call (.Name "range" p) [a] [] pos) (Ht ta):=by
 intro af s σ H R I h
 refine Call_ (gg I hg hm boot_range (PyProof.Rows.callWith_type1 (cJ (ha pos af s σ H _ I h) fun us s1 ⟨vs,H1,I1,r1,q1⟩ => ?_) hs rfl))
 obtain ⟨j,e,q1,q2,q⟩:=q1
 subst e
 cases r1 with
 | cons r rr =>
  cases rr
  obtain ⟨t,rfl⟩:=r
  exact call_range_1 (p5 I1 (by lia) (by lia) q1 q2 (by simpa using q))
theorem vB {a b:Expr} {ta:TA} {p pos:Pos} (hg:Gl X "range") (hm:X.mg "range" = none) (ha:PA X [a,b] ta) (hs:starEach [a,b] X.env = [(false,eval a X.env),(false,eval b X.env)]:=by rfl) (bT:starEach [b] X.env = [(false,eval b X.env)]:=by rfl) :
  PI X tg (.Call (.Name "range" p) [a,b] [] pos) (Hu ta):=by
 intro af s σ H R I h
 refine Call_ (gg I hg hm boot_range (PyProof.Rows.callWith_type1 (cJ (ha pos af s σ H _ I h) fun us s1 ⟨vs,H1,I1,r1,q1⟩ => ?_) (by rw [hs,bT]) (by rw [bT]; rfl)))
 obtain ⟨i,j,e,⟨q1,q2,q3,q4⟩,q⟩:=q1
 subst e
 cases r1 with
 | cons r rr =>
  cases rr with
  | cons r' rr =>
   cases rr
   obtain ⟨t,rfl⟩:=r
   obtain ⟨t',rfl⟩:=r'
   exact call_range_2 (p5 I1 q1 q2 q3 q4 q)
noncomputable def KU (wi:TI) (g:TG) (tb:TS):TS:=fun D σ H => wi σ H fun J H1 => ∃ W:Nat → Nat → St → Hp → Prop,(∃ m,W 0 m σ H1) ∧ ∀ i m σ H,W i m σ H →
 (J.stop i H ∧ D.nx σ H) ∨ (J.go i H ∧ ∃ N:St → Hp → Prop,(∀ σ' H',N σ' H' → ∃ m',m' < m ∧ W (i + 1) m' σ' H') ∧ ∀ x H',J.Hr i H x H' → g x σ H' fun σ2 H2 => tb { D with nx:=N,ct:=N,bk:=D.nx } σ2 H2)
noncomputable def k8 (fp:List Addr) (h:Heap):List (Addr × Obj):=fp.filterMap fun b => (h.get? b).map fun o => (b,o)
theorem gi {fp:List Addr} {h:Heap} {b:Addr} {o:Obj} (hb:b ∈ fp) (e:h.get? b = some o):(b,o) ∈ k8 fp h:=List.mem_filterMap.mpr ⟨b,hb,by rw [e]; rfl⟩
theorem vC {fp:List Addr} {h:Heap} {p:Addr × Obj} (hp:p ∈ k8 fp h):p.1 ∈ fp ∧ h.get? p.1 = some p.2:=by
 obtain ⟨b,hb,e⟩:=List.mem_filterMap.mp hp
 cases q:h.get? b with
 | none => rw [q] at e; cases e
 | some o =>
  rw [q] at e
  have e':(b,o) = p:=Option.some.inj e
  subst e'
  exact ⟨hb,q⟩
theorem aG.pinned {af:List (Addr × Obj)} {σ:St} {H:Hp} {s:Shared} {fp:List Addr} (I:aG X af σ H s) (hf:∀ b ∈ fp,mV X af H b) (ho:∀ b ∈ fp,∃ o,s.heap.get? b = some o ∧ ∀ v,o.data ≠ .cell v):aG X (af ++ k8 fp s.heap) σ H s :=
 I.kL fun p hp => (List.mem_append.mp hp).elim (fun z => I.pin p (List.mem_append_right _ z)) fun z => by
  obtain ⟨hb,e⟩:=vC z
  obtain ⟨f0,f1,f2,_⟩:=hf p.1 hb
  obtain ⟨o,e',d⟩:=ho p.1 hb
  rw [e] at e'; cases e'
  exact ⟨e,f0,f1,f2,d⟩
theorem aG.k9 {af pl:List (Addr × Obj)} {σ:St} {H:Hp} {s:Shared} (I:aG X (af ++ pl) σ H s):aG X af σ H s:=I.kL fun p hp => I.pin p (List.mem_append_right _ (List.mem_append_left _ hp))
theorem Eg {iter:Expr} {body:List Stmt} {wi:TI} {g:TG} {tb:TS} {pos:Pos} (hp:PassesOwn (model X.prog X.w) X.A X.env X.xe) (hc:X.calm = true) (hi:PI X tg iter wi) (hg:PG X tg g) (hb:gS X body tb)
  (hs:∀ x,foldedSetIterable iter X.env x = pure x:=by intro _; rfl):PS X (.For tg iter body [] pos) (KU wi g tb):=by
 intro af s σ H D I h
 refine wpAny_For (cJ (hi af s σ H _ I h) fun v s1 h1 => cJ h1 fun JR s2 h2 => ?_) hs
 obtain ⟨it,fp,tn,J,H2,e,I2,T,st2,f2,W,⟨m0,w0⟩,turn⟩:=h2
 subst e
 -- Eh stays true of An Ei objects through An loop
 have r!:∀ {H':Hp},(∀ b ∈ fp,H' b = none) → ∀ b ∈ fp,mV X af H' b:=fun hn b hb => ⟨hn b hb,(f2 b hb).2⟩
 refine codeAny_forLoop_any (fun n s' => ∃ i σ' H',aG X af σ' H' s' ∧ tn i s'.heap ∧ (∀ b ∈ fp,H' b = none) ∧ W i n σ' H') ?_ m0 ⟨0,σ,H2,I2,st2,fun b hb => (f2 b hb).1,w0⟩
 rintro n s3 ⟨i,σ3,H3,I3,mR,Hv,w3⟩
 rcases turn i n σ3 H3 w3 with ⟨stop,qn⟩ | ⟨go,N,hN,step⟩
 ·refine wpAny_passesOwn hp (cJ (T.done X rfl rfl rfl hc i af s3 σ3 H3 X.xe I3 (r! Hv) mR stop) fun r s4 ⟨hr,I4⟩ => ?_)
  subst hr
  exact wpAny_execs_nil ⟨σ3,H3,I4,qn⟩
 ·refine wpAny_passesOwn hp (cJ (T.item X rfl rfl rfl hc i af s3 σ3 H3 X.xe I3 (r! Hv) mR go) fun r s4 ⟨u,hr,h4⟩ => ?_)
  subst hr
  refine wpAny_passesOwn hp (cJ h4 fun _ s5 ⟨x,H5,I5,r5,y5,Ej,KW⟩ => ?_)
  have KY:=I5.pinned (r! KW) (T.obj _ _ Ej)
  refine wpAny_passesOwn hp (cJ (hg _ s5 σ3 H5 x u _ KY r5 (step x H5 y5)) fun _ s6 ⟨σ6,H6,I6,q6⟩ => ?_)
  refine wpAny_passesOwn hp (cJ (hb _ s6 σ6 H6 _ I6 q6) fun f s7 q7 => ?_)
  have again:∀ {σ7:St} {H7:Hp},aG X (af ++ k8 fp s5.heap) σ7 H7 s7 → N σ7 H7 → ∃ m,m < n ∧ ∃ i σ' H',aG X af σ' H' s7 ∧ tn i s7.heap ∧ (∀ b ∈ fp,H' b = none) ∧ W i m σ' H':=fun {σ7 H7} I7 n7 => by
   obtain ⟨m',hm,w7⟩:=hN σ7 H7 n7
   refine ⟨m',hm,i + 1,σ7,H7,I7.k9,T.keep _ _ _ Ej fun b hb o e => (I7.pin (b,o) (List.mem_append_right _ (List.mem_append_right _ (gi hb e)))).1,fun b hb => ?_,w7⟩
   obtain ⟨o,e,d⟩:=T.obj _ _ Ej b hb
   exact (I7.pin (b,o) (List.mem_append_right _ (List.mem_append_right _ (gi hb e)))).2.1
  cases f with
  | next => obtain ⟨σ7,H7,I7,n7⟩:=q7; exact again I7 n7
  | cont => obtain ⟨σ7,H7,I7,n7⟩:=q7; exact again I7 n7
  | brk => obtain ⟨σ7,H7,I7,q7⟩:=q7; exact ⟨σ7,H7,I7.k9,q7⟩
  | ret v => obtain ⟨x7,σ7,H7,I7,r7,q7⟩:=q7; exact ⟨x7,σ7,H7,I7.k9,r7,q7⟩
end
end L2
namespace L2
open PySem PySem.Spec PyProof.Rows
noncomputable abbrev R2:=V → V → Hp → VK → Prop
noncomputable def cV (X:Cx) (f:Value → Value → Sem Value) (r:R2):Prop :=
 ∀ (af:List (Addr × Obj)) (s:Shared) (σ:St) (H:Hp) (x y:V) (v u:Value) (Q:VK),aG X af σ H s → bc x v → bc y u → r x y H Q →
  wpAny (model X.prog X.w) X.A (f v u) (EP X af σ Q) X.xe s
noncomputable def KZ (X:Cx) (f:Value → Sem Value) (r:V → Hp → VK → Prop):Prop :=
 ∀ (af:List (Addr × Obj)) (s:Shared) (σ:St) (H:Hp) (x:V) (v:Value) (Q:VK),aG X af σ H s → bc x v → r x H Q →
  wpAny (model X.prog X.w) X.A (f v) (EP X af σ Q) X.xe s
noncomputable def aU (X:Cx) (f:Value) (r:List V → Hp → VK → Prop):Prop :=
 ∀ (af:List (Addr × Obj)) (s:Shared) (σ:St) (H:Hp) (xs:List V) (us:List Value) (Q:VK),aG X af σ H s → aR xs us → r xs H Q →
  wpAny (model X.prog X.w) X.A (call f us) (EP X af σ Q) X.xe s
noncomputable def GX (r:R2) (ta tb:TE):TE:=fun σ H Q => ta σ H fun x H1 => tb σ H1 fun y H2 => r x y H2 Q
noncomputable def Oi (r:V → Hp → VK → Prop) (ta:TE):TE:=fun σ H Q => ta σ H fun x H1 => r x H1 Q
noncomputable def rI (C:Int → Int → Prop) (g:Int → Int → V):R2:=fun x y H Q => ∃ i j,x = .int i ∧ y = .int j ∧ C i j ∧ Q (g i j) H
noncomputable def Df (g:Int → Int → V):R2:=fun x y H Q => ∃ i j,x = .int i ∧ y = .int j ∧ Q (g i j) H
noncomputable def rU (g:Int → V):V → Hp → VK → Prop:=fun x H Q => ∃ i,x = .int i ∧ Q (g i) H
section
variable {X:Cx} {a b c:Expr} {ta tb tc:TE} {pos:Pos}
theorem Ek (ha:PE X a ta) (hb:PE X b tb) {af:List (Addr × Obj)} {s:Shared} {σ:St} {H:Hp} {R:V → V → Hp → Prop} (I:aG X af σ H s)
  (h:ta σ H fun x H1 => tb σ H1 fun y H2 => R x y H2) {Q:Value → Shared → Prop} {f:Value → Value → Sem Value}
  (hf:∀ v u s2 x y H2,aG X af σ H2 s2 → bc x v → bc y u → R x y H2 → wpAny (model X.prog X.w) X.A (f v u) Q X.xe s2) :
  wpAny (model X.prog X.w) X.A (eval a X.env) (fun v s₁ => wpAny (model X.prog X.w) X.A (eval b X.env) (fun u s₂ => wpAny (model X.prog X.w) X.A (f v u) Q X.xe s₂) X.xe s₁) X.xe s:=by
 refine cJ (ha af s σ H _ I h) fun v s1 ⟨x,H1,I1,r1,q1⟩ => ?_
 refine cJ (hb af s1 σ H1 _ I1 q1) fun u s2 ⟨y,H2,I2,r2,q2⟩ => ?_
 exact hf v u s2 x y H2 I2 r1 r2 q2
theorem Hw {op:Operator} {r:R2} (ho:cV X (binaryOp op) r) (ha:PE X a ta) (hb:PE X b tb):PE X (.BinOp a op b pos) (GX r ta tb):=by
 intro af s σ H Q I h
 exact wpAny_BinOp (Ek ha hb I h fun v u s2 x y H2 I2 rx ry q => ho af s2 σ H2 x y v u Q I2 rx ry q)
theorem Hx {op:UnaryOp} {r:V → Hp → VK → Prop} (ho:KZ X (unaryOp op) r) (ha:PE X a ta):PE X (.UnaryOp op a pos) (Oi r ta):=by
 intro af s σ H Q I h
 exact UnaryOp_ (cJ (ha af s σ H _ I h) fun v s1 ⟨x,H1,I1,r1,q1⟩ => ho af s1 σ H1 x v Q I1 r1 q1)
theorem GY {f:Value → Value → Sem Value} {C:Int → Int → Prop} {g:Int → Int → Int}
  (rule:∀ (i j:Int) (t u:Tok) (s:Shared) (Q:Value → Shared → Prop) (E:Value → Shared → Prop),C i j → Q (.int (g i j) s.toks) { s with toks:=s.toks + 1 } → wpAny (model X.prog X.w) X.A (f (.int i t) (.int j u)) Q E s) :
  cV X f (rI C fun i j => .int (g i j)):=by
 intro af s σ H x y v u Q I rx ry h
 obtain ⟨i,j,rfl,rfl,hc,q⟩:=h
 obtain ⟨t,rfl⟩:=rx
 obtain ⟨t',rfl⟩:=ry
 exact rule i j t t' s _ _ hc ⟨.int (g i j),H,I.tok _,⟨_,rfl⟩,q⟩
theorem AK {f:Value → Value → Sem Value} {g:Int → Int → Int}
  (rule:∀ (i j:Int) (t u:Tok) (s:Shared) (Q:Value → Shared → Prop) (E:Value → Shared → Prop),Q (.int (g i j) s.toks) { s with toks:=s.toks + 1 } → wpAny (model X.prog X.w) X.A (f (.int i t) (.int j u)) Q E s) :
  cV X f (Df fun i j => .int (g i j)):=by
 intro af s σ H x y v u Q I rx ry h
 obtain ⟨i,j,rfl,rfl,q⟩:=h
 obtain ⟨t,rfl⟩:=rx
 obtain ⟨t',rfl⟩:=ry
 exact rule i j t t' s _ _ ⟨.int (g i j),H,I.tok _,⟨_,rfl⟩,q⟩
theorem Hy {f:Value → Value → Sem Value} {g:Int → Int → Bool}
  (rule:∀ (i j:Int) (t u:Tok) (s:Shared) (Q:Value → Shared → Prop) (E:Value → Shared → Prop),Q (.bool (g i j)) s → wpAny (model X.prog X.w) X.A (f (.int i t) (.int j u)) Q E s) :
  cV X f (Df fun i j => .bl (g i j)):=by
 intro af s σ H x y v u Q I rx ry h
 obtain ⟨i,j,rfl,rfl,q⟩:=h
 obtain ⟨t,rfl⟩:=rx
 obtain ⟨t',rfl⟩:=ry
 exact rule i j t t' s _ _ ⟨.bl (g i j),H,I,rfl,q⟩
noncomputable def K0 (i j:Int):Prop:=0 ≤ j ∧ j ≤ 1000000 ∧ i.natAbs < 2 ^ 64
noncomputable def xJ (i j:Int):Prop:=(-(2 ^ 64) < i ∧ i < 2 ^ 64) ∨ (-(2 ^ 64) < j ∧ j < 2 ^ 64)
theorem xJ.ok {i j:Int} (h:xJ i j):IntMulOk i j:=by
 rcases h with ⟨h1,h2⟩ | ⟨h1,h2⟩
 ·exact .of_left (intBits_le_64 h1 h2)
 ·exact .of_right (intBits_le_64 h1 h2)
theorem r? (k:Nat):(0:Int) ≤ 2 ^ k:=by
 rw [two_pow_cast]
 exact Int.natCast_nonneg _
theorem El:cV X (binaryOp .Add) (Df fun i j => .int (i + j)):=AK fun _ _ _ _ _ _ _ q => add_int q
theorem Em:cV X (binaryOp .Sub) (Df fun i j => .int (i - j)):=AK fun _ _ _ _ _ _ _ q => sub_int q
theorem En:cV X (binaryOp .Mult) (rI xJ fun i j => .int (i * j)):=GY fun _ _ _ _ _ _ _ hc q => mul_int q hc.ok
theorem AL:cV X (binaryOp .Mod) (rI (fun _ j => j ≠ 0) fun i j => .int (i.fmod j)):=GY fun _ _ _ _ _ _ _ hc q => mod_int' hc q
theorem Eo:cV X (binaryOp .RShift) (rI (fun _ j => 0 ≤ j) fun i j => .int (i / 2 ^ j.toNat)):=GY fun i j _ _ _ _ _ hc q =>
 rshift_int hc (by rw [Int.fdiv_eq_ediv_of_nonneg i (r? _)]; exact q)
theorem Ep:cV X (binaryOp .BitAnd) (Df fun i j => .int (Builtin.bitAnd i j)):=AK fun _ _ _ _ _ _ _ q => and_int q
theorem Hz:cV X (binaryOp .BitOr) (Df fun i j => .int (Builtin.bitOr i j)):=AK fun _ _ _ _ _ _ _ q => or_int q
theorem Oj {f:Value → Sem Value} {g:Int → Int}
  (rule:∀ (i:Int) (t:Tok) (s:Shared) (Q:Value → Shared → Prop) (E:Value → Shared → Prop),Q (.int (g i) s.toks) { s with toks:=s.toks + 1 } → wpAny (model X.prog X.w) X.A (f (.int i t)) Q E s) :
  KZ X f (rU fun i => .int (g i)):=by
 intro af s σ H x v Q I rx h
 obtain ⟨i,rfl,q⟩:=h
 obtain ⟨t,rfl⟩:=rx
 exact rule i t s _ _ ⟨.int (g i),H,I.tok _,⟨_,rfl⟩,q⟩
theorem Er:KZ X (unaryOp .USub) (rU fun i => .int (-i)):=Oj fun _ _ _ _ _ q => neg_int q
end
section
variable {X:Cx} {a b c:Expr} {ta tb tc:TE} {pos:Pos}
theorem Es {af:List (Addr × Obj)} {σ:St} {H:Hp} {s:Shared} {Q:VK} {k k':Bool} (I:aG X af σ H s) (q:Q (.bl k) H) (e:k = k'):EP X af σ Q (.bool k') s:=by
 subst e
 exact ⟨.bl k,H,I,rfl,q⟩
theorem HA:cV X (compareOp .Lt) (Df fun i j => .bl (decide (i < j))):=Hy fun _ _ _ _ _ _ _ q => lt_int q
theorem HB:cV X (compareOp .Gt) (Df fun i j => .bl (decide (j < i))):=Hy fun _ _ _ _ _ _ _ q => gt_int q
theorem Et:cV X (compareOp .Is) (fun x y H Q => y = .bE ∧ Q (.bl (decide (x = .bE))) H):=by
 intro af s σ H x y v u Q I rx ry h
 obtain ⟨rfl,q⟩:=h
 cases ry
 refine is_none_gen (Es I q ?_)
 cases x <;> first
  | (cases rx; rfl)
  | (obtain ⟨t,rfl⟩:=rx; rfl)
theorem cV.or {f:Value → Value → Sem Value} {r r':R2} (h:cV X f r) (h':cV X f r'):cV X f (fun x y H Q => r x y H Q ∨ r' x y H Q):=by
 intro af s σ H x y v u Q I rx ry q
 rcases q with q | q
 ·exact h af s σ H x y v u Q I rx ry q
 ·exact h' af s σ H x y v u Q I rx ry q
theorem xK (b:Expr) {op:CmpOp} (h:op ≠ .In:=by decide) (h2:op ≠ .NotIn:=by decide):behindInMarks op b = false:=by
 have e1:(op == CmpOp.In) = false:=by cases op <;> first | rfl | exact absurd rfl h
 have e2:(op == CmpOp.NotIn) = false:=by cases op <;> first | rfl | exact absurd rfl h2
 cases b <;> simp [behindInMarks,e1,e2]
theorem AM {op:CmpOp} {r:R2} (ho:cV X (compareOp op) r) (ha:PE X a ta) (hb:PE X b tb) (hm:behindInMarks op b = false):PE X (.Compare a [op] [b] pos) (GX r ta tb):=by
 intro af s σ H Q I h
 exact wpAny_Compare1 (Ek ha hb I h fun v u s2 x y H2 I2 rx ry q => ho af s2 σ H2 x y v u Q I2 rx ry q) hm
noncomputable def HC (t:TE):TT:=fun σ H Q => t σ H fun x H' => ∃ k,x = .bl k ∧ Q k H'
theorem AN {op:CmpOp} {r:R2} (ho:cV X (compareOp op) r) (ha:PE X a ta) (hb:PE X b tb) (hm:behindInMarks op b = false):PT X (.Compare a [op] [b] pos) (HC (GX r ta tb)):=by
 intro af s σ H Q I h
 refine wpAny_isTrue_Compare1 (cJ (ha af s σ H _ I h) fun v s1 ⟨x,H1,I1,r1,q1⟩ => cJ (hb af s1 σ H1 _ I1 q1) fun u s2 ⟨y,H2,I2,r2,q2⟩ =>
  cJ (ho af s2 σ H2 x y v u _ I2 r1 r2 q2) fun c s3 ⟨z,H3,I3,r3,k,e,q3⟩ => ?_) hm
 subst e
 cases r3
 exact wpAny_truthy_bool ⟨H3,I3,q3⟩
theorem k_:(sizeLine:Nat) < 2 ^ 63:=by rw [sizeLine_eq]; decide
theorem sd:cV X (binaryOp .Add) (fun x y H Q => ∃ i j,x = .str i ∧ y = .str j ∧ i.length + j.length ≤ sizeLine ∧ Q (.str (i ++ j)) H):=by
 intro af s σ H x y v u Q I rx ry h
 obtain ⟨i,j,rfl,rfl,hz,q⟩:=h
 obtain ⟨t,rfl⟩:=rx
 obtain ⟨t',rfl⟩:=ry
 exact add_str (fun t' tk => ⟨.str (i ++ j),H,I.tok _,⟨_,rfl⟩,q⟩) hz
theorem vals1 {x:V} {us:List Value} (r:aR [x] us):∃ u,us = [u] ∧ bc x u:=by
 cases r with
 | cons r1 r2 => cases r2; exact ⟨_,rfl,r1⟩
theorem vals2 {x y:V} {us:List Value} (r:aR [x,y] us):∃ u w',us = [u,w'] ∧ bc x u ∧ bc y w':=by
 cases r with
 | cons r1 r2 =>
  cases r2 with
  | cons r3 r4 => cases r4; exact ⟨_,_,rfl,r1,r3⟩
theorem xM:aU X (.builtin "abs") (fun xs H Q => ∃ i,xs = [.int i] ∧ Q (.int (if i < 0 then -i else i)) H):=by
 intro af s σ H xs us Q I r h
 obtain ⟨i,rfl,q⟩:=h
 obtain ⟨u,rfl,t,rfl⟩:=vals1 r
 exact call_abs_int fun u tk => ⟨.int (if i < 0 then -i else i),H,I.tok _,⟨_,rfl⟩,q⟩
end
end L2
namespace L2
open PySem PySem.Spec PyProof.Rows
structure se (h:Heap) (x dx C:Addr) (mA:Str → Option Value):Prop where
 obj:h.get? x = some (PySem.W.instObj C dx)
 ns:h.Ns1 dx mA
 ne:dx ≠ x
theorem vD {h:Heap} {dx:Addr} {mA:Str → Option Value} (n:h.Ns1 dx mA):∃ od,h.get? dx = some od ∧ ∀ name,PySem.W.lookIn name od = some (mA name):=by
 obtain ⟨o,es,ep,ho,hd,hk,_,hm⟩:=n
 refine ⟨o,ho,fun name => ?_⟩
 have e:=hm name
 unfold nsFind findBy at e
 rw [← Array.find?_toList] at e
 unfold PySem.W.lookIn
 rw [hd]
 dsimp only
 split
 ·rename_i y q
  rw [q] at e
  exact congrArg some e
 ·rename_i q
  rw [q] at e
  have a:es.toList.any (·.refKey) = false:=by
   rw [List.any_eq_false]
   intro y hy
   obtain ⟨z,t,Eu⟩:=hk y (Array.mem_toList_iff.mp hy)
   simp [DictEntry.refKey,Eu]
  have a':¬ es.toList.any (·.refKey) = true:=by rw [a]; exact Bool.false_ne_true
  rw [if_neg a']
  exact congrArg some e
theorem se.look {h:Heap} {x dx C:Addr} {mA:Str → Option Value} (I:se h x dx C mA):∃ od,PySem.W.InstAt h x (PySem.W.instObj C dx) C (some od) ∧ ∀ name,PySem.W.lookIn name od = some (mA name) :=
 let ⟨od,ho,hl⟩:=vD I.ns
 ⟨od,⟨I.obj,rfl,rfl,ho⟩,hl⟩
section
variable {prog:Program} {w:World} {A:Around} {E:Value → Shared → Prop} {s:Shared} {K:PySem.W.Frag} {x dx C f:Addr} {mA:Str → Option Value} {name:Str} {v:Value}
theorem get_map {expr:Bool} {Q:Value → Shared → Prop} (X:K.In s.heap) (I:se s.heap x dx C mA) (hg:PySem.W.plainGet K C name = true) (hh:PySem.W.hasDictIn K C = true)
  (ha:PySem.W.findIn K (.ref C) name = some none) (hv:mA name = some v) (JS:PySem.W.handedIn v = true) (h:Q v { s with toks:=s.toks + 1 }) :
  wpAny (model prog w) A (getAttr (.ref x) name expr) Q E s:=by
 obtain ⟨od,J,hl⟩:=I.look
 exact PySem.W.get_value X J (PySem.W.plainGet_of hg).1 (PySem.W.findObj_own hh ha rfl (by rw [hl,hv])) JS h
theorem xN {pl:Sem Bool} {Q:Value × List Value → Shared → Prop} (X:K.In s.heap) (I:se s.heap x dx C mA) (hg:PySem.W.plainGet K C name = true)
  (hf:PySem.W.findIn K (.ref C) name = some (some (.ref f))) (ht:PySem.W.isFn K (.ref f) = true) (hv:mA name = none) (h:Q (.ref f,[.ref x]) s) :
  wpAny (model prog w) A (getMethod (.ref x) name pl) Q E s:=by
 obtain ⟨od,J,hl⟩:=I.look
 exact PySem.W.method_fn X J (PySem.W.plainGet_of hg).1 (PySem.W.plainGet_of hg).2 hf (beq_iff_eq.mp ht) (by show (PySem.W.lookIn name od).map (·.isSome) = some false; rw [hl,hv]; rfl) h
theorem AO {ns:List Str} {Q:Unit → Shared → Prop} (X:K.In s.heap) (I:se s.heap x dx C mA)
  (hs:PySem.W.findIn K (.ref C) "__setattr__" = some (some (.builtin "object.__setattr__"))) (hp:PySem.W.plainOver K C = true) (ht:PySem.W.takerIn K C name = some none) (hh:PySem.W.hasDictIn K C = true)
  (hw:PySem.Within mA ns) (hsz:ns.length ≤ sizeLine)
  (h:∀ h',se h' x dx C (fun y => if y = name then some v else mA y) → Heap.SameBut dx s.heap h' → Q () { s with heap:=h',toks:=s.toks + 2 }) :
  wpAny (model prog w) A (setAttr (.ref x) name v) Q E s:=by
 obtain ⟨od,J,hl⟩:=I.look
 refine PySem.W.set_plain X J hs (PySem.W.osa_open (s:={ s with toks:=s.toks + 1 }) (r:=none) X J hp ht fun b => ?_)
 obtain ⟨cd,hc,Kz⟩:=PySem.W.any_some hh
 have hx:s.heap.get? x = some ⟨.ref C,some dx,.plain,#[]⟩:=I.obj
 refine wpAny_bind (wpAny_pure (wpAny_bind (wpAny_bind (wpAny_loadPart hx (wpAny_bind (PySem.W.Looks.here (s:={ s with toks:=s.toks + 1 }) (PySem.W.looks_clsIn X hc) ?_))))))
 rw [Kz]
 refine wpAny_pure (a:=some dx) (wpAny_bind (wpAny_pure (wpAny_bind ?_)))
 refine wpAny_nsSet1 (s:={ s with toks:=s.toks + 1 }) I.ns fun h' JT bT => ?_
 obtain ⟨oD,Qe,Qf,Ol,Om,Oo⟩:=JT.count (PySem.Within.cons name v hw)
 refine wpAny_bind (wpAny_lookBehind Ol (by rw [Om]; exact pastItsLine_dict (Nat.le_trans Oo (by rw [List.length_cons]; lia))) ?_)
 exact wpAny_pure (h _ ⟨(bT.2 _ (Ne.symm I.ne)).trans I.obj,JT,I.ne⟩ bT)
theorem xO {R:Result → Shared → Prop} {vs:List Value} {kw:List (Str × Value)} (X:K.In s.heap) (hm:PySem.W.makesIn K C = true)
  (hi:PySem.W.findIn K (.ref C) "__init__" = some (some (.ref f))) (hf:PySem.W.typeIn K (.ref f) = some (.type "function"))
  (h:codeAny (model prog w) (A.under (.builtin "type.__call__" ⟨.ref C :: vs,kw⟩)) (.call (.ref f) ⟨.ref (s.heap.objs.size + 1) :: vs,kw⟩) (PySem.W.InitBack (s.heap.objs.size + 1) R)
   { s with heap:=(s.heap.push PySem.W.emptyDict).push (PySem.W.instObj C s.heap.objs.size) }) :
  codeAny (model prog w) A (.call (.ref C) ⟨vs,kw⟩) R s:=by
 obtain ⟨hh,g,d,t,os⟩:=s
 exact PySem.W.make_core (PySem.W.makes_of X hm) (PySem.W.looks_findIn X hi) (fun self => PySem.W.bind_fn X self hf) (.inl rfl) h
end
noncomputable def gj (f:Str) (v:V):List (Str × V) → List (Str × V)
 | [] => [(f,v)]
 | (g,x) :: r => if g = f then (g,v) :: r else (g,x) :: gj f v r
theorem j' (f g:Str) (v:V):∀ fs:List (Str × V),(gj f v fs).lookup g = if g = f then some v else fs.lookup g
 | [] => by
  show List.lookup g [(f,v)] = _
  by_cases h:g = f
  ·have hb:(g == f) = true:=beq_iff_eq.mpr h
   simp only [List.lookup,hb,if_pos h]
  ·have hb:(g == f) = false:=beq_eq_false_iff_ne.mpr h
   simp only [List.lookup,hb,if_neg h]
 | (k,x) :: r => by
  have ih:=j' f g v r
  rw [show gj f v ((k,x) :: r) = (if k = f then (k,v) :: r else (k,x) :: gj f v r) from rfl]
  by_cases hk:k = f
  ·rw [if_pos hk]
   by_cases h:g = k
   ·have hb:(g == k) = true:=beq_iff_eq.mpr h
    simp only [List.lookup,hb,if_pos (h.trans hk)]
   ·have hb:(g == k) = false:=beq_eq_false_iff_ne.mpr h
    simp only [List.lookup,hb,if_neg (fun e:g = f => h (e.trans hk.symm))]
  ·rw [if_neg hk]
   by_cases h:g = k
   ·have hb:(g == k) = true:=beq_iff_eq.mpr h
    simp only [List.lookup,hb,if_neg (fun e:g = f => hk (h.symm.trans e))]
   ·have hb:(g == k) = false:=beq_eq_false_iff_ne.mpr h
    simp only [List.lookup,hb]
    exact ih
theorem jF (f:Str) (v:V):∀ fs:List (Str × V),f ∈ (gj f v fs).map (·.1) ∧ ∀ g,g ∈ fs.map (·.1) → g ∈ (gj f v fs).map (·.1)
 | [] => ⟨by simp [gj],fun g h => by simp at h⟩
 | (k,x) :: r => by
  obtain ⟨i1,i2⟩:=jF f v r
  rw [show gj f v ((k,x) :: r) = (if k = f then (k,v) :: r else (k,x) :: gj f v r) from rfl]
  by_cases hk:k = f
  ·rw [if_pos hk]
   subst hk
   exact ⟨by simp,fun g h => by simpa using h⟩
  ·rw [if_neg hk]
   refine ⟨?_,fun g h => ?_⟩
   ·rw [List.map_cons]
    exact List.mem_cons_of_mem _ i1
   ·rw [List.map_cons] at h ⊢
    rcases List.mem_cons.mp h with e | e
    ·exact List.mem_cons.mpr (.inl e)
    ·exact List.mem_cons_of_mem _ (i2 g e)
theorem kd (f:Str) (v:V):∀ fs:List (Str × V),(gj f v fs).length ≤ fs.length + 1
 | [] => by simp [gj]
 | (k,x) :: r => by
  have ih:=kd f v r
  rw [show gj f v ((k,x) :: r) = (if k = f then (k,v) :: r else (k,x) :: gj f v r) from rfl]
  by_cases hk:k = f
  ·rw [if_pos hk,List.length_cons,List.length_cons]; lia
  ·rw [if_neg hk,List.length_cons,List.length_cons]; lia
theorem i_.some_of {v:V} {o:Option Value} (r:i_ (some v) o):∃ u,o = some u ∧ bc v u:=by
 cases o with
 | none => exact (show False from r).elim
 | some u => exact ⟨u,rfl,r⟩
theorem i_.none_of {o:Option Value} (r:i_ none o):o = none:=by
 cases o with
 | none => rfl
 | some u => exact (show False from r).elim
theorem vE {v:V} {u:Value} (r:bc v u):PySem.W.handedIn u = true:=by
 cases v with
 | bE => cases (show u = Value.none from r); rfl
 | bl b => cases (show u = Value.bool b from r); rfl
 | int i => obtain ⟨t,e⟩:=(show ∃ t,u = Value.int i t from r); cases e; rfl
 | str x => obtain ⟨t,e⟩:=(show ∃ t,u = Value.str x t from r); cases e; rfl
 | JM b => obtain ⟨t,e⟩:=(show ∃ t,u = Value.bytes b t from r); cases e; rfl
 | kq b => obtain ⟨t,e⟩:=(show ∃ t,u = Value.float b t from r); cases e; rfl
 | ref a => cases (show u = Value.ref a from r); rfl
 | ty n => cases (show u = Value.type n from r); rfl
section
variable {P:Program} {w:World} {H H':Hp} {h h':Heap} {a C dx:Addr} {fs Oe:List (Str × V)}
theorem kM (bt:fS P w H h) (e:H a = some (.ins C dx fs)):∃ mA,se h a dx C mA ∧ (∀ f,i_ (fs.lookup f) (mA f)) ∧ PySem.Within mA (fs.map (·.1)) ∧ fs.length ≤ 1000 ∧ H dx = some (.own a):=by
 obtain ⟨d,z,ne,ob,mA,n,r,q⟩:=(show bL P w H h a (.ins C dx fs) from bt a _ e)
 exact ⟨mA,⟨ob,n,ne⟩,r,q,z,d⟩
end
structure ui (K:PySem.W.Frag) (C:Addr):Prop where
 pg:PySem.W.plainGet K C Str.empty = true
 hd:PySem.W.hasDictIn K C = true
 po:PySem.W.plainOver K C = true
 sa:PySem.W.findIn K (.ref C) "__setattr__" = some (some (.builtin "object.__setattr__"))
theorem ui.get {K:PySem.W.Frag} {C:Addr} (c:ui K C) (f:Str):PySem.W.plainGet K C f = true:=c.pg
noncomputable def gm (K:PySem.W.Frag) (C:Addr) (f:Str):Prop:=PySem.W.findIn K (.ref C) f = some none
theorem gm.HD {K:PySem.W.Frag} {C:Addr} {f:Str} (n:gm K C f):PySem.W.takerIn K C f = some none:=by
 unfold PySem.W.takerIn
 rw [show PySem.W.findIn K (.ref C) f = some none from n]
 rfl
structure Meth (K:PySem.W.Frag) (C:Addr) (m:Str) (f:Addr):Prop where
 at_:PySem.W.findIn K (.ref C) m = some (some (.ref f))
 fn:PySem.W.isFn K (.ref f) = true
 kp:PySem.W.keepIn K (.ref f) = true
section
variable {X:Cx} {af:List (Addr × Obj)} {σ:St} {H:Hp} {s:Shared} {a C dx:Addr} {fs:List (Str × V)} {f:Str} {v:V} {A:Around} {E:Value → Shared → Prop}
theorem sf {b:Bool} {Q:Value → Shared → Prop} (I:aG X af σ H s) (e:H a = some (.ins C dx fs)) (c:ui X.K C) (n:gm X.K C f) (l:fs.lookup f = some v)
  (h:∀ u s',aG X af σ H s' → bc v u → Q u s'):wpAny (model X.prog X.w) A (getAttr (.ref a) f b) Q E s:=by
 obtain ⟨mA,O,r,_,_,_⟩:=kM I.bt e
 obtain ⟨u,hu,ru⟩:=i_.some_of (v:=v) (o:=mA f) (by rw [← l]; exact r f)
 exact get_map I.iJ O (c.get f) c.hd n hu (vE ru) (h u _ (I.tok _) ru)
theorem si {m:Str} {g:Addr} {pl:Sem Bool} {Q:Value × List Value → Shared → Prop} (I:aG X af σ H s) (e:H a = some (.ins C dx fs)) (c:ui X.K C) (k:Meth X.K C m g) (l:fs.lookup m = none)
  (h:Q (.ref g,[.ref a]) s):wpAny (model X.prog X.w) A (getMethod (.ref a) m pl) Q E s:=by
 obtain ⟨mA,O,r,_,_,_⟩:=kM I.bt e
 have hn:mA m = none:=i_.none_of (by rw [← l]; exact r m)
 exact xN I.iJ O (c.get m) k.at_ k.fn hn h
theorem sj {y:V} {u:Value} {Q:Unit → Shared → Prop} (I:aG X af σ H s) (e:H a = some (.ins C dx fs)) (c:ui X.K C) (n:gm X.K C f) (hl:fs.length < 1000) (ry:bc y u)
  (h:∀ s',aG X af σ (upd H a (.ins C dx (gj f y fs))) s' → Q () s'):wpAny (model X.prog X.w) A (setAttr (.ref a) f u) Q E s:=by
 obtain ⟨mA,O,r,wi,_,ho⟩:=kM I.bt e
 have hz:(fs.map (·.1)).length ≤ sizeLine:=by rw [List.length_map,sizeLine_eq]; lia
 refine AO I.iJ O c.sa c.po n.HD c.hd wi hz fun h' O' sb => h _ ?_
 have hd:∃ o,h'.get? dx = some o:=let ⟨o,_,_,e',_⟩:=O'.ns; ⟨o,e'⟩
 refine I.write (x:=a) (e:=dx) (by rw [e]; exact True.intro) (.inr ho) (fun b q hb z => (sb.2 b hb).trans z) hd ?_
 refine ⟨by rw [aJ O.ne]; exact ho,?_,O.ne,O'.obj,_,O'.ns,fun g => ?_,fun g hg => ?_⟩
 ·have:=kd f y fs; lia
 ·show i_ ((gj f y fs).lookup g) (if g = f then some u else mA g)
  rw [j']
  by_cases q:g = f
  ·rw [if_pos q,if_pos q]; exact ry
  ·rw [if_neg q,if_neg q]; exact r g
 ·by_cases q:g = f
  ·rw [q]; exact (jF f y fs).1
  ·refine (jF f y fs).2 g (wi g fun z => hg ?_)
   show (if g = f then some u else mA g) = none
   rw [if_neg q]; exact z
theorem aG.made (I:aG X af σ H s):aG X af σ (upd (upd H s.heap.objs.size (.own (s.heap.objs.size + 1))) (s.heap.objs.size + 1) (.ins C s.heap.objs.size []))
  { s with heap:=(s.heap.push PySem.W.emptyDict).push (PySem.W.instObj C s.heap.objs.size) }:=by
 have e1:(s.heap.push PySem.W.emptyDict).get? s.heap.objs.size = some PySem.W.emptyDict:=Heap.get?_push_size s.heap rfl
 have e2:((s.heap.push PySem.W.emptyDict).push (PySem.W.instObj C s.heap.objs.size)).get? (s.heap.objs.size + 1) = some (PySem.W.instObj C s.heap.objs.size):=by
  have:=Heap.get?_push_size (s.heap.push PySem.W.emptyDict) (o:=PySem.W.instObj C s.heap.objs.size) rfl
  rwa [Heap.size_push] at this
 have e3:(s.heap.push PySem.W.emptyDict).Ns s.heap.objs.size (fun _ => none):=⟨PySem.W.emptyDict,#[],_,e1,rfl,(fun e he => absurd he (by simp)),fun _ => rfl⟩
 have I1:=I.laid (a:=s.heap.objs.size) (o:=.own (s.heap.objs.size + 1)) (h':=s.heap.push PySem.W.emptyDict) (t':=s.toks) (fun b u q => Heap.get?_push_of_some _ q) (Nat.le_refl _) ⟨_,e1⟩
 refine I1.laid (a:=s.heap.objs.size + 1) (o:=.ins C s.heap.objs.size []) (t':=s.toks) (fun b u q => Heap.get?_push_of_some _ q) (Nat.le_of_eq (Heap.size_push _ _)) ?_
 have ne:s.heap.objs.size ≠ s.heap.objs.size + 1:=Nat.ne_of_lt (Nat.lt_succ_self _)
 refine ⟨by rw [aJ ne,a8],Nat.zero_le _,ne,e2,fun _ => none,(Heap.Ns1.of_empty e3).at fun o q => Heap.get?_push_of_some _ q,fun _ => True.intro,fun y hy => absurd rfl hy⟩
theorem AQ {prog:Program} {w:World} {env:Env} {e:Expr} {f:Str} {pos:Pos} {s:Shared} {Q:Value → Shared → Prop} (hb:attributeBase e f env (eval e env) = eval e env)
  (h:wpAny (model prog w) A (eval e env) (fun o s₁ => wpAny (model prog w) A (getAttr o f true) Q E s₁) E s):wpAny (model prog w) A (eval (.Attribute e f pos) env) Q E s :=
 Attribute_any_ h (by rw [arm_eval_Attribute,hb])
end
noncomputable def K2 (K:PySem.W.Frag) (ta:TE) (f:Str):TE:=fun σ H Q => ta σ H fun x H1 => ∃ a C dx fs v,x = .ref a ∧ H1 a = some (.ins C dx fs) ∧ ui K C ∧ gm K C f ∧ fs.lookup f = some v ∧ Q v H1
noncomputable def K3 (K:PySem.W.Frag) (ta tv:TE) (f:Str):TS:=fun D σ H => tv σ H fun y H1 => ta σ H1 fun x H2 => ∃ a C dx fs,x = .ref a ∧ H2 a = some (.ins C dx fs) ∧ ui K C ∧ gm K C f ∧ fs.length < 1000 ∧
 D.nx σ (upd H2 a (.ins C dx (gj f y fs)))
section
variable {X:Cx} {o e value:Expr} {f:Str} {pos pos' Ew:Pos} {ta tv:TE}
theorem Ex (he:PE X e ta) (hb:attributeBase e f X.env (eval e X.env) = eval e X.env):PE X (.Attribute e f pos) (K2 X.K ta f):=by
 intro af s σ H Q I h
 refine AQ hb (cJ (he af s σ H _ I h) fun u s1 ⟨x,H1,I1,rx,a,C,dx,fs,v,ex,ea,c,n,l,q⟩ => ?_)
 subst ex
 obtain rfl:u = Value.ref a:=rx
 exact sf I1 ea c n l fun u' s2 I2 ru => ⟨v,H1,I2,ru,q⟩
theorem Ey (ha:PE X o ta) (hv:PE X value tv) (hs:swapsWith value (some (.Attribute o f pos')) pos.line X.env = pure false):PS X (.Assign [.Attribute o f pos'] value pos) (K3 X.K ta tv f):=by
 intro af s σ H D I h
 refine plainObj_wpAny_Assign_Attribute (cJ (hv af s σ H _ I h) fun u s1 ⟨y,H1,I1,ry,q⟩ => cJ (ha af s1 σ H1 _ I1 q) fun ov s2 ⟨x,H2,I2,rx,a,C,dx,fs,ex,ea,c,n,l,q2⟩ => ?_) hs
 subst ex
 obtain rfl:ov = Value.ref a:=rx
 exact sj I2 ea c n l ry fun s3 I3 => ⟨σ,_,I3,q2⟩
end
section
variable {X:Cx} {af:List (Addr × Obj)} {σ:St} {H:Hp} {s:Shared} {A:Around} {E:Value → Shared → Prop} {Q:Value → Shared → Prop} {c:Value} {b:Bool}
inductive kr (K:PySem.W.Frag) (H:Hp):V → Value → Prop where
 | bE:kr K H .bE (.type "NoneType")
 | bl (x:Bool):kr K H (.bl x) (.type "bool")
 | int (i:Int):kr K H (.int i) (.type "int")
 | str (x:Str):kr K H (.str x) (.type "str")
 | kq (x:UInt64):kr K H (.kq x) (.type "float")
 | lst {a:Addr} {xs:List V} (e:H a = some (.lst xs)):kr K H (.ref a) (.type "list")
 | fh {a:Addr} {o:Obj} {xs:List V} (e:H a = some (.fh o (.lst xs))):kr K H (.ref a) (.type "list")
 | tup {a:Addr} {xs:List V} (e:H a = some (.tup xs)):kr K H (.ref a) (.type "tuple")
 | dK {a:Addr} {aD:List (cq × V)} (e:H a = some (.dK aD)):kr K H (.ref a) (.type "dict")
 | dT {a:Addr} {aD:List (List cq × V)} (e:H a = some (.dT aD)):kr K H (.ref a) (.type "dict")
 | ins {a C dx:Addr} {fs:List (Str × V)} (e:H a = some (.ins C dx fs)) (cl:ui K C) (ha:PySem.W.findIn K (.ref C) "__class__" = some (some (.builtin "object.__class__")))
   (hn:PySem.W.specialIn K (.builtin "object.__class__") "__get__" = some (some (.builtin "getset_descriptor.__get__"))) (Nm:PySem.W.takesIn K (.builtin "object.__class__") = some true)
   (hm:PySem.W.mroIn K C (.type "object") = some true):kr K H (.ref a) (.ref C)
theorem du {x:V} {u t:Value} (I:aG X af σ H s) (rx:bc x u) (ty:kr X.K H x t) (e:PySem.W.kitOne X.K t c = some b) (h:∀ tk,Q (.bool b) { s with toks:=tk }) :
  wpAny (model X.prog X.w) A (call (.builtin "isinstance") [u,c]) Q E s:=by
 cases ty with
 | bE => cases (show u = Value.none from rx); exact PySem.W.kia_one PySem.W.kitx_none I.iJ True.intro e (fun z => nomatch z) h
 | bl y => cases (show u = Value.bool y from rx); exact PySem.W.kia_one PySem.W.kitx_bool I.iJ True.intro e (fun z => nomatch z) h
 | int i => obtain ⟨t,q⟩:=(show ∃ t,u = Value.int i t from rx); cases q; exact PySem.W.kia_one PySem.W.kitx_int I.iJ True.intro e (fun z => nomatch z) h
 | str y => obtain ⟨t,q⟩:=(show ∃ t,u = Value.str y t from rx); cases q; exact PySem.W.kia_one PySem.W.kitx_str I.iJ True.intro e (fun z => nomatch z) h
 | kq y => obtain ⟨t,q⟩:=(show ∃ t,u = Value.float y t from rx); cases q; exact PySem.W.kia_one PySem.W.kitx_float I.iJ True.intro e (fun z => nomatch z) h
 | @lst a xs ea =>
  cases (show u = Value.ref a from rx)
  obtain ⟨_,_,n,_,h1⟩:=(show bL X.prog X.w H s.heap a (.lst xs) from I.bt a _ ea)
  exact PySem.W.kia_one PySem.W.kitx_list I.iJ ⟨_,h1,rfl⟩ e (fun z => nomatch z) h
 | @fh a ob xs ea =>
  cases (show u = Value.ref a from rx)
  obtain ⟨_,_,_,n,_,h1⟩:=(show bL X.prog X.w H s.heap a (.fh ob (.lst xs)) from I.bt a _ ea)
  exact PySem.W.kia_one PySem.W.kitx_list I.iJ ⟨_,h1,rfl⟩ e (fun z => nomatch z) h
 | @tup a xs ea =>
  cases (show u = Value.ref a from rx)
  obtain ⟨_,_,_,p⟩:=(show bL X.prog X.w H s.heap a (.tup xs) from I.bt a _ ea)
  obtain ⟨o,h1,h2,_⟩:=p
  exact PySem.W.kia_one PySem.W.kitx_tuple I.iJ ⟨o,h1,h2⟩ e (fun z => nomatch z) h
 | @dK a aD ea =>
  cases (show u = Value.ref a from rx)
  obtain ⟨_,_,vs,_,p⟩:=(show bL X.prog X.w H s.heap a (.dK aD) from I.bt a _ ea)
  obtain ⟨o,es,ep,h1,h2,_⟩:=p
  exact PySem.W.kia_one PySem.W.kitx_dict I.iJ ⟨o,h1,h2.1⟩ e (fun z => nomatch z) h
 | @dT a aD ea =>
  cases (show u = Value.ref a from rx)
  obtain ⟨_,_,xs,_,o,es,ep,h1,h2,_⟩:=(show bL X.prog X.w H s.heap a (.dT aD) from I.bt a _ ea)
  exact PySem.W.kia_one PySem.W.kitx_dict I.iJ ⟨o,h1,h2.1⟩ e (fun z => nomatch z) h
 | @ins a C dx fs ea cl ha hn Nm hm =>
  cases (show u = Value.ref a from rx)
  obtain ⟨mA,O,_⟩:=kM I.bt ea
  obtain ⟨od,J,_⟩:=O.look
  exact PySem.W.kia_one (PySem.W.kitx_own (cl.get _) cl.hd ha hn Nm hm) I.iJ J e (fun z => nomatch z) h
end
end L2
namespace L2
open PySem PySem.Spec PyProof.Rows
structure cL (k:Nat) (A:Around):Prop where
 hd:A.handled = none
 dp:A.depth + 3 * k + 5 < recursionLimit
 un:A.units + 16 * k + 200 < cLine
theorem cL.mono {j k:Nat} {A:Around} (r:cL k A) (h:j ≤ k):cL j A:=⟨r.hd,by have:=r.dp; lia,by have:=r.un; lia⟩
theorem cL.deeper {k:Nat} {A:Around} (r:cL (k + 1) A) (env:Env):cL k (A.deeper env) :=
 ⟨r.hd,by have:=r.dp; show A.depth + 1 + 3 * k + 5 < _; lia,by have:=r.un; show A.units + 3 + 16 * k + 200 < _; lia⟩
theorem sk {A:Around} {C:Addr} {us:List Value} {kw:List (Str × Value)}:(A.under (.builtin "type.__call__" ⟨.ref C :: us,kw⟩)).depth = A.depth + 1:=by
 first | rfl | simp [Around.under,Code.weight,Code.isCreation,Code.isGuard,Code.isCaller,Code.frames,Code.isFrame,guardIds]
theorem sm {A:Around} {C:Addr} {us:List Value} {kw:List (Str × Value)}:(A.under (.builtin "type.__call__" ⟨.ref C :: us,kw⟩)).units = A.units + 1:=by
 first | rfl | simp [Around.under,Code.cUnits,Code.frames,Code.isFrame]
theorem cL.make {k:Nat} {A:Around} (r:cL (k + 1) A) (C:Addr) (us:List Value) (kw:List (Str × Value)):cL k (A.under (.builtin "type.__call__" ⟨.ref C :: us,kw⟩)) :=
 ⟨r.hd,by have:=r.dp; rw [sk]; lia,by have:=r.un; rw [sm]; lia⟩
theorem cL.depth {k:Nat} {A:Around} (r:cL k A):A.depth < recursionLimit:=by have:=r.dp; lia
theorem cL.units {k:Nat} {A:Around} (r:cL k A):A.units + 64 < cLine:=by have:=r.un; lia
noncomputable def HE:TA:=fun _ H Q => Q [] H
noncomputable def Dg (ta:TE) (tr:TA):TA:=fun σ H Q => ta σ H fun x H1 => tr σ H1 fun xs H2 => Q (x :: xs) H2
section
variable {X:Cx} {e:Expr} {es:List Expr} {te:TE} {t:TA} {pos:Pos}
theorem jG:PA X [] HE:=fun _ _ _ _ H Q I h => Calls.spliced_nil ⟨[],H,I,.nil,h⟩
theorem eB (ha:PE X e te) (hr:PA X es t) (hs:starEach (e :: es) X.env = (false,eval e X.env) :: starEach es X.env:=by rfl):PA X (e :: es) (Dg te t):=by
 intro pos af s σ H Q I h
 rw [hs]
 show wpAny _ _ (spliced ((false,eval e X.env) :: backTo pos (starEach es X.env))) _ _ s
 refine Calls.spliced_cons (cJ (ha af s σ H _ I h) fun u s1 ⟨x,H1,I1,r1,q1⟩ => ?_)
 exact cJ (hr pos af s1 σ H1 _ I1 q1) fun us s2 ⟨xs,H2,I2,r2,q2⟩ => ⟨x :: xs,H2,I2,.cons r1 r2,q2⟩
noncomputable def K4 (t:TA):TE:=fun σ H Q => t σ H fun xs H1 => xs.length ≤ sizeLine ∧ ∀ p,H1 p = none → Q (.ref p) (upd H1 p (.tup xs))
noncomputable def K5 (t:TA):TE:=fun σ H Q => t σ H fun xs H1 => xs.length ≤ sizeLine ∧ ∀ p,H1 p = none → Q (.ref p) (upd H1 p (.lst xs))
theorem Ez {x1} (h:PA X es t):PE X (.Tuple es x1 pos) (K4 t):=by
 intro af s σ H Q I hq
 refine wpAny_Tuple_spliced (cJ (h pos af s σ H _ I hq) fun us s1 ⟨xs,H1,I1,r,z,q⟩ => ⟨by rw [← r.length]; exact z,?_⟩)
 have hf:H1 s1.heap.objs.size = none:=I1.bt.fresh (Nat.le_refl _)
 refine ⟨.ref s1.heap.objs.size,upd H1 s1.heap.objs.size (.tup xs),I1.laid (t':=s1.toks) (fun b u e => Heap.get?_push_of_some _ e) (Nat.le_refl _) ?_,rfl,q _ hf⟩
 exact ⟨z,us,r,⟨_,Heap.get?_push_size _ rfl,rfl,_,rfl⟩⟩
theorem EA (h:PA X es t):PE X (.List es pos) (K5 t):=by
 intro af s σ H Q I hq
 refine wpAny_List_spliced (cJ (h pos af s σ H _ I hq) fun us s1 ⟨xs,H1,I1,r,z,q⟩ => ⟨by rw [← r.length]; exact z,?_⟩)
 have hf:H1 s1.heap.objs.size = none:=I1.bt.fresh (Nat.le_refl _)
 refine ⟨.ref s1.heap.objs.size,upd H1 s1.heap.objs.size (.lst xs),I1.laid (t':=s1.toks) (fun b u e => Heap.get?_push_of_some _ e) (Nat.le_refl _) ?_,rfl,q _ hf⟩
 exact ⟨z,us,0,r,Heap.get?_push_size _ rfl⟩
end
noncomputable abbrev Sp:=List V → Hp → VK → XK → Prop
noncomputable abbrev rQ:=List Env → Hp → Shared → XK → Value → Shared → Prop
structure so (P:Program) (w:World) (K:PySem.W.Frag) (mg:Str → Option Value) (base:Heap) (A:Around) (outer:List Env) (s:Shared) (H:Hp):Prop where
 frames:A.frames = some outer
 mod:Mod K mg base
 bs:∀ b o,base.get? b = some o → s.heap.get? b = some o ∧ H b = none
 AA:base.objs.size ≤ s.heap.objs.size
 ie:s.heap.FunFrames base outer
 xC:∀ b ∈ ei outer,H b = none
 bt:fS P w H s.heap
 bare:AllBare s.gens
noncomputable def CE (outer:List Env) (P:Program) (w:World) (H:Hp) (s:Shared) (Q:VK) (u:Value) (s':Shared):Prop :=
 ∃ v H',s'.os = s.os ∧ AllBare s'.gens ∧ Un (ei outer) [] H H' s.heap s'.heap ∧ fS P w H' s'.heap ∧ bc v u ∧ Q v H'
noncomputable def CR (CX:rQ) (outer:List Env) (P:Program) (w:World) (H:Hp) (s:Shared) (Q:VK) (E:XK) (r:Result) (s':Shared):Prop :=
 match r with
 | .ok (.ret u) => CE outer P w H s Q u s'
 | .ok _ => False
 | .error e => CX outer H s E e s'
structure d8 (P:Program) (w:World) (K:PySem.W.Frag) (mg:Str → Option Value) (base:Heap) (CX:rQ) (k:Nat) (f:Addr) (fd:FuncData) (ps:List Str) (sp:Sp):Prop where
 len:∀ vs H Q E,sp vs H Q E → vs.length = ps.length
 run:∀ (A:Around) (outer:List Env) (s:Shared) (H:Hp) (args:Args) (us:List Value) (vs:List V) (Q:VK) (E:XK),cL k A → so P w K mg base A outer s H → BindsTo s fd args (ps.zip us) → aR vs us → sp vs H Q E →
  codeAny (model P w) A (.call (.ref f) args) (CR CX outer P w H s Q E) s
theorem d8.imp {P:Program} {w:World} {K:PySem.W.Frag} {mg:Str → Option Value} {base:Heap} {CX:rQ} {k:Nat} {f:Addr} {fd:FuncData} {ps:List Str} {sp Nn:Sp} (F:d8 P w K mg base CX k f fd ps sp)
  (h:∀ vs H Q E,Nn vs H Q E → sp vs H Q E):d8 P w K mg base CX k f fd ps Nn :=
 ⟨fun vs H Q E q => F.len vs H Q E (h _ _ _ _ q),fun A outer s H args us vs Q E hr he hb hv hs => F.run A outer s H args us vs Q E hr he hb hv (h _ _ _ _ hs)⟩
theorem so.make {P:Program} {w:World} {K:PySem.W.Frag} {mg:Str → Option Value} {base:Heap} {A:Around} {outer:List Env} {s:Shared} {H:Hp} (e:so P w K mg base A outer s H) (C:Addr) (us:List Value) (kw:List (Str × Value)) :
  so P w K mg base (A.under (.builtin "type.__call__" ⟨.ref C :: us,kw⟩)) outer s H:=⟨by first | exact e.frames | (simpa [Around.under,Code.envs,Code.isFrame,pushEnvs] using e.frames),e.mod,e.bs,e.AA,e.ie,e.xC,e.bt,e.bare⟩
section
variable {X:Cx} {af:List (Addr × Obj)} {σ:St} {H:Hp} {s s':Shared}
theorem aG.EB (I:aG X af σ H s):so X.prog X.w X.K X.mg X.base X.A X.stack s H :=
 ⟨I.ok.frames,I.ok.mod,I.bs,Nat.le_trans I.ok.AA I.sz,I.stack,I.oJ,I.bt,I.bare⟩
theorem aG.after {Q:VK} {u:Value} (I:aG X af σ H s) (h:CE X.stack X.prog X.w H s Q u s'):EP X af σ Q u s':=by
 obtain ⟨v,H',os,bare,un,bt,r,q⟩:=h
 obtain ⟨hh,g,d,t,Oq⟩:=s'
 obtain rfl:Oq = s.os:=os
 exact ⟨v,H',I.call (h':=hh) (g':=g) (d':=d) (t':=t) (ch:=[]) un bt bare (fun b z => absurd z (by simp)),r,q⟩
end
noncomputable def HF (sp:Sp) (nN:List V) (E:XK) (t:TA):TE:=fun σ H Q => t σ H fun vs H1 => sp (vs ++ nN) H1 Q E
noncomputable def xP (C:Addr) (m:Str) (sp:Sp) (nN:List V) (E:XK) (ta:TE) (t:TA):TE:=fun σ H Q => ta σ H fun x H1 => ∃ a dx fs,x = .ref a ∧ H1 a = some (.ins C dx fs) ∧ fs.lookup m = none ∧
 t σ H1 fun vs H2 => sp (x :: (vs ++ nN)) H2 Q E
noncomputable def HG (C:Addr) (sp:Sp) (nN:List V) (E:XK) (t:TA):TE:=fun σ H Q => t σ H fun vs H1 => ∀ x dx,H1 x = none → H1 dx = none → dx ≠ x →
 sp (.ref x :: (vs ++ nN)) (upd (upd H1 dx (.own x)) x (.ins C dx [])) (fun v H2 => v = .bE ∧ Q (.ref x) H2) E
noncomputable def Binds (K:PySem.W.Frag) (fd:FuncData) (ps:List Str) (ds:List Value):Prop :=
 ∀ (s:Shared) (us:List Value),K.In s.heap → (us ++ ds).length = ps.length → BindsTo s fd ⟨us,[]⟩ (ps.zip (us ++ ds))
theorem Binds.all {K:PySem.W.Frag} {fd:FuncData} {ps:List Str} (h:∀ us:List Value,us.length = ps.length → bindArgs fd ⟨us,[]⟩ = pure (ps.zip us)):Binds K fd ps []:=fun s us _ hl => by
 rw [List.append_nil] at hl ⊢
 exact .of_eq (h us hl)
noncomputable def Passes (CX:rQ) (X:Cx) (E:XK):Prop:=∀ (af:List (Addr × Obj)) (σ:St) (H:Hp) (s:Shared) (e:Value) (s':Shared),aG X af σ H s → CX X.stack H s E e s' → X.xe e s'
section
variable {X:Cx} {CX:rQ} {k:Nat} {f C:Addr} {fd:FuncData} {ps:List Str} {sp:Sp} {nN:List V} {ds:List Value} {E:XK} {x m:Str} {p pos apos:Pos} {e o:Expr} {es:List Expr} {ta:TE} {t:TA}
theorem xQ {af:List (Addr × Obj)} {σ:St} {H:Hp} {s:Shared} {Q:VK} {us:List Value} {vs:List V} (F:d8 X.prog X.w X.K X.mg X.base CX k f fd ps sp) (hr:cL k X.A) (hb:Binds X.K fd ps ds) (hd:aR nN ds) (hx:Passes CX X E)
  (I:aG X af σ H s) (r:aR vs us) (h:sp (vs ++ nN) H Q E):wpAny (model X.prog X.w) X.A (call (.ref f) us) (EP X af σ Q) X.xe s:=by
 have r2:aR (vs ++ nN) (us ++ ds):=r.append hd
 have hl:(us ++ ds).length = ps.length:=by rw [← r2.length]; exact F.len _ _ _ _ h
 refine wpAny_call (codeAny_mono (F.run X.A X.stack s H ⟨us,[]⟩ (us ++ ds) (vs ++ nN) Q E hr I.EB (hb s us I.iJ hl) r2 h) fun r s' hq => ?_)
 cases r with
 | error e => exact hx af σ H s e s' I hq
 | ok fl =>
  cases fl with
  | ret u => exact I.after hq
  | next => exact False.elim hq
  | brk => exact False.elim hq
  | cont => exact False.elim hq
theorem AR (F:d8 X.prog X.w X.K X.mg X.base CX k f fd ps sp) (hr:cL k X.A) (hg:Gl X x) (hm:X.mg x = some (.ref f)) (hk:PySem.W.keepIn X.K (.ref f) = true) (hb:Binds X.K fd ps ds) (hd:aR nN ds) (hx:Passes CX X E)
  (ha:PA X (e :: es) t) (iK:(x == ("__debug__":Str)) = false:=by decide) (he:starEach (e :: es) X.env = (false,eval e X.env) :: starEach es X.env:=by rfl) (eM:(backTo pos (starEach es X.env)).any (·.1) = false:=by rfl) :
  PE X (.Call (.Name x p) (e :: es) [] pos) (HF sp nN E t):=by
 intro af s σ H Q I h
 refine wpAny_Call_Name_kw (hU I hg hm ?_ iK)
 refine PySem.W.callWith_K (h₀:=X.base) I.ok.mod.C_ hk (cJ (ha pos af s σ H _ I h) fun us s1 ⟨vs,H1,I1,r,q⟩ => ⟨I1.iJ,?_⟩) he eM
 exact xQ F hr hb hd hx I1 r q
theorem AU {pl:Sem Bool} (he:PE X o ta) (c:ui X.K C) (hm:Meth X.K C m f) (F:d8 X.prog X.w X.K X.mg X.base CX k f fd ps sp) (hr:cL k X.A) (hb:Binds X.K fd ps ds) (hd:aR nN ds) (hx:Passes CX X E) (ha:PA X (e :: es) t)
  (vy:starEach (e :: es) X.env = (false,eval e X.env) :: starEach es X.env:=by rfl) (eM:(backTo pos (starEach es X.env)).any (·.1) = false:=by rfl)
  (ht:eval (.Call (.Attribute o m apos) (e :: es) [] pos) X.env = (do
   let ov ← eval o X.env
   standAt apos.atName
   let (f,first) ← holding [ov] (getMethod ov m pl)
   callWith pos f first (backTo pos (starEach (e :: es) X.env)) (backToKw pos (keywordEach [] X.env))):=by rfl) :
  PE X (.Call (.Attribute o m apos) (e :: es) [] pos) (xP C m sp nN E ta t):=by
 intro af s σ H Q I h
 refine PySem.W.methodCall_KW (pl:=pl) (cJ (he af s σ H _ I h) fun u s1 ⟨x,H1,I1,rx,a,dx,fs,ex,ea,l,q⟩ => ?_) ht
 subst ex
 obtain rfl:u = Value.ref a:=rx
 refine si I1 ea c hm l ?_
 refine PySem.W.callWith_K (first:=[.ref a]) (h₀:=X.base) I.ok.mod.C_ hm.kp (cJ (ha pos af s1 σ H1 _ I1 q) fun us s2 ⟨vs,H2,I2,r,q2⟩ => ⟨I2.iJ,?_⟩) vy eM
 exact xQ (us:=.ref a :: us) (vs:=.ref a :: vs) F hr hb hd hx I2 (.cons rfl r) q2
structure Mk (K:PySem.W.Frag) (C f:Addr):Prop where
 makes:PySem.W.makesIn K C = true
 init:PySem.W.findIn K (.ref C) "__init__" = some (some (.ref f))
 fn:PySem.W.isFn K (.ref f) = true
 kp:PySem.W.keepIn K (.ref C) = true
theorem xR {af:List (Addr × Obj)} {σ:St} {H:Hp} {s:Shared} {Q:VK} {us:List Value} {vs:List V} (M:Mk X.K C f) (F:d8 X.prog X.w X.K X.mg X.base CX k f fd ps sp) (hr:cL (k + 1) X.A) (hb:Binds X.K fd ps ds) (hd:aR nN ds)
  (hx:Passes CX X E) (I:aG X af σ H s) (r:aR vs us)
  (h:∀ x dx,H x = none → H dx = none → dx ≠ x → sp (.ref x :: (vs ++ nN)) (upd (upd H dx (.own x)) x (.ins C dx [])) (fun v H2 => v = .bE ∧ Q (.ref x) H2) E) :
  wpAny (model X.prog X.w) X.A (call (.ref C) us) (EP X af σ Q) X.xe s:=by
 have hq:=h (s.heap.objs.size + 1) s.heap.objs.size (I.bt.fresh (Nat.le_succ _)) (I.bt.fresh (Nat.le_refl _)) (Nat.ne_of_lt (Nat.lt_succ_self _))
 have I2:=aG.made (C:=C) I
 have r2:aR (V.ref (s.heap.objs.size + 1) :: (vs ++ nN)) (Value.ref (s.heap.objs.size + 1) :: (us ++ ds)):=.cons rfl (r.append hd)
 have hl:(Value.ref (s.heap.objs.size + 1) :: us ++ ds).length = ps.length:=by
  have e:=r2.length
  rw [F.len _ _ _ _ hq] at e
  exact e.symm
 refine wpAny_call (xO (f:=f) I.iJ M.makes M.init (beq_iff_eq.mp M.fn) (codeAny_mono (F.run _ X.stack _ _ ⟨Value.ref (s.heap.objs.size + 1) :: us,[]⟩ (Value.ref (s.heap.objs.size + 1) :: (us ++ ds)) _ _ E (hr.make C us [])
  (I2.EB.make C us []) (hb _ (Value.ref (s.heap.objs.size + 1) :: us) I2.iJ hl) r2 hq) fun r s' HH => ?_))
 cases r with
 | error e => exact hx af σ _ _ e s' I2 HH
 | ok fl =>
  cases fl with
  | ret u =>
   obtain ⟨v,H',I3,rv,ev,q3⟩:=I2.after HH
   subst ev
   exact ⟨rv,⟨V.ref (s.heap.objs.size + 1),H',I3,rfl,q3⟩⟩
  | next => exact False.elim HH
  | brk => exact False.elim HH
  | cont => exact False.elim HH
theorem AV (M:Mk X.K C f) (F:d8 X.prog X.w X.K X.mg X.base CX k f fd ps sp) (hr:cL (k + 1) X.A) (hg:Gl X x) (hm:X.mg x = some (.ref C)) (hb:Binds X.K fd ps ds) (hd:aR nN ds) (hx:Passes CX X E)
  (ha:PA X (e :: es) t) (iK:(x == ("__debug__":Str)) = false:=by decide) (he:starEach (e :: es) X.env = (false,eval e X.env) :: starEach es X.env:=by rfl) (eM:(backTo pos (starEach es X.env)).any (·.1) = false:=by rfl) :
  PE X (.Call (.Name x p) (e :: es) [] pos) (HG C sp nN E t):=by
 intro af s σ H Q I h
 refine wpAny_Call_Name_kw (hU I hg hm ?_ iK)
 refine PySem.W.callWith_K (h₀:=X.base) I.ok.mod.C_ M.kp (cJ (ha pos af s σ H _ I h) fun us s1 ⟨vs,H1,I1,r,q⟩ => ⟨I1.iJ,?_⟩) he eM
 exact xR M F hr hb hd hx I1 r q
end
noncomputable def PK (X:Cx) (xS:List Keyword) (t:TA):Prop :=
 ∀ (pos:Pos) (af:List (Addr × Obj)) (s:Shared) (σ:St) (H:Hp) (Q:List V → Hp → Prop),aG X af σ H s → t σ H Q → wpAny (model X.prog X.w) X.A (evalAll ((backToKw pos (keywordEach xS X.env)).map (·.2))) (AP X af σ Q) X.xe s
section
variable {X:Cx} {CX:rQ} {k:Nat} {f C:Addr} {fd:FuncData} {ps ks:List Str} {sp:Sp} {E:XK} {x m:Str} {p pos apos K6:Pos} {e o:Expr} {es:List Expr} {xS:List Keyword} {te ta:TE} {t tk:TA} {nm:Option Str}
theorem xT:PK X [] HE:=fun _ _ _ _ H Q I h => wpAny_evalAll_nil ⟨[],H,I,.nil,h⟩
theorem uj (ha:PE X e te) (hr:PK X xS t):PK X (⟨nm,e,K6⟩ :: xS) (Dg te t):=by
 intro pos af s σ H Q I h
 show wpAny _ _ (evalAll ((do let v ← eval e X.env; standAt pos; pure v) :: (backToKw pos (keywordEach xS X.env)).map (·.2))) _ _ s
 refine wpAny_evalAll_cons (wpAny_bind (cJ (ha af s σ H _ I h) fun u s1 ⟨x,H1,I1,r1,q1⟩ => wpAny_bind (wpAny_standAt (wpAny_pure ?_))))
 exact cJ (hr pos af s1 σ H1 _ I1 q1) fun us s2 ⟨xs,H2,I2,r2,q2⟩ => ⟨x :: xs,H2,I2,.cons r1 r2,q2⟩
variable {g:List Value → List Value → List Value} {gV:List V → List V → List V}
end
structure cw (N P:List Str) (sc:Scope):Prop where
 kind:sc.kind = .function
 co:sc.isCoroutine = false
 gen:sc.isGenerator = false
 nd:N.Nodup
 pre:N.take P.length = P
 par:∀ x ∈ P,sc.names.lookup x = some .local ∨ sc.names.lookup x = some .cell
 EC:∀ y ∈ sc.names,y.2 ≠ .free
theorem nO {kindOf:Str → Option NameKind} {x:Str}:∀ {binds:List (Str × Value)} {m:Str → Option Value},(∀ v,(x,v) ∉ binds) → bindL kindOf binds m x = m x
 | [],_,_ => rfl
 | (n,v) :: r,m,h => by
  unfold bindL
  rw [nO fun w hw => h w (List.mem_cons_of_mem _ hw)]
  split
  ·have:x ≠ n:=by rintro rfl; exact h v List.mem_cons_self
   simp [this]
  ·rfl
theorem nP {kindOf:Str → Option NameKind} {x:Str}:∀ {binds:List (Str × Value)} {m:Str → Option Value},(∀ v,(x,v) ∉ binds) → bindC kindOf binds m x = m x
 | [],_,_ => rfl
 | (n,v) :: r,m,h => by
  unfold bindC
  rw [nP fun w hw => h w (List.mem_cons_of_mem _ hw)]
  split
  ·rfl
  ·have:x ≠ n:=by rintro rfl; exact h v List.mem_cons_self
   simp [this]
theorem nQ {kindOf:Str → Option NameKind} {x:Str} {v:Value}:∀ {P:List Str} {vs:List Value} {i:Nat} {m:Str → Option Value},P.Nodup → P[i]? = some x → vs[i]? = some v → kindOf x = some .local →
  bindL kindOf (P.zip vs) m x = some v
 | [],_,_,_,_,h,_,_ => by simp at h
 | _ :: _,[],_,_,_,_,h,_ => by simp at h
 | p :: P,w :: vs,0,m,nd,h1,h2,hk => by
  simp at h1 h2; subst h1; subst h2
  show bindL kindOf ((p,w) :: P.zip vs) m p = _
  unfold bindL
  rw [nO fun v hv => (List.nodup_cons.mp nd).1 (List.of_mem_zip hv).1,if_pos hk]
  simp
 | p :: P,w :: vs,i + 1,m,nd,h1,h2,hk => by
  show bindL kindOf ((p,w) :: P.zip vs) m x = _
  unfold bindL
  exact nQ (i:=i) (List.nodup_cons.mp nd).2 (by simpa using h1) (by simpa using h2) hk
theorem nS {kindOf:Str → Option NameKind} {x:Str} {v:Value}:∀ {P:List Str} {vs:List Value} {i:Nat} {m:Str → Option Value},P.Nodup → P[i]? = some x → vs[i]? = some v → kindOf x ≠ some .local →
  bindC kindOf (P.zip vs) m x = some v
 | [],_,_,_,_,h,_,_ => by simp at h
 | _ :: _,[],_,_,_,_,h,_ => by simp at h
 | p :: P,w :: vs,0,m,nd,h1,h2,hk => by
  simp at h1 h2; subst h1; subst h2
  show bindC kindOf ((p,w) :: P.zip vs) m p = _
  unfold bindC
  rw [nP fun v hv => (List.nodup_cons.mp nd).1 (List.of_mem_zip hv).1,if_neg hk]
  simp
 | p :: P,w :: vs,i + 1,m,nd,h1,h2,hk => by
  show bindC kindOf ((p,w) :: P.zip vs) m x = _
  unfold bindC
  exact nS (i:=i) (List.nodup_cons.mp nd).2 (by simpa using h1) (by simpa using h2) hk
noncomputable def start (N:List Str) (vs:List V):St:=vs.map some ++ List.replicate (N.length - vs.length) none
noncomputable def eO (CX:rQ) (P:Program) (w:World) (K:PySem.W.Frag) (mg:Str → Option Value) (base:Heap) (N:List Str) (qual:Str) (scope:Scope) (f:Addr) (cd:Value) (A:Around) (outer:List Env) (s:Shared) (H:Hp) (E:XK):Cx where
 prog:=P
 w:=w
 K:=K
 mg:=mg
 base:=base
 A:=A.deeper (envOfC qual scope s.heap.objs.size f cd)
 N:=N
 s₀:=s
 H₀:=H
 env:=envOfC qual scope s.heap.objs.size f cd
 outer:=outer
 stack:=envOfC qual scope s.heap.objs.size f cd :: outer
 ex:=[]
 calm:=true
 fn:=fun _ => true
 pn:=[]
 xe:=fun e s' => wpAny (model P w) (A.deeper (envOfC qual scope s.heap.objs.size f cd)) (leaving (envOfC qual scope s.heap.objs.size f cd) e) (fun _ JU => CX outer H s E e JU) (fun e' JU => CX outer H s E e' JU) s'
theorem p6 {sc:Scope} {n:Nat} {x:Str} (h:sc.names.lookup x = some .cell):∃ c,(cellsFrom n sc.names []).lookup x = some c:=by
 have q:=PySem.W.cellsFrom_some sc.names n [] (.inl h)
 exact Option.isSome_iff_exists.mp q
theorem vF {CX:rQ} {P:Program} {w:World} {K:PySem.W.Frag} {mg:Str → Option Value} {base:Heap} {N ps:List Str} {qual:Str} {scope:Scope} {f:Addr} {cd:Value} {A:Around} {outer:List Env} {s s1:Shared} {H:Hp} {E:XK} {us:List Value} {vs:List V}
  (S:cw N ps scope) (hd:A.handled = none) (e0:so P w K mg base A outer s H) (hl:vs.length = ps.length) (r:aR vs us)
  (x:InCallC s s.heap.objs.size (bindL (envOfC qual scope s.heap.objs.size f cd).kindOf (ps.zip us) fun _ => none) (cellsFrom (s.heap.objs.size + 1) scope.names []) (bindC (envOfC qual scope s.heap.objs.size f cd).kindOf (ps.zip us) fun _ => none) s1) :
  aG (eO CX P w K mg base N qual scope f cd A outer s H E) [] (start N vs) H s1:=by
 have eM:ps.length ≤ N.length:=by have:=congrArg List.length S.pre; rw [List.length_take] at this; lia
 obtain ⟨h1,tk,rfl,hk⟩:=x.done
 have HI:∀ b:Addr,b ∉ (eO CX P w K mg base N qual scope f cd A outer s H E).ex:=fun b z => absurd (show b ∈ ([]:List Addr) from z) (by simp)
 refine ⟨⟨e0.mod,S.kind,rfl,rfl,Nat.le_refl _,fun y z c h1 h2 => ?_,fun y hy => ?_,fun y c _ h => ?_,fun _ => hd,Around.frames_deeper e0.frames,.inr ⟨rfl,rfl⟩,fun b z => absurd z (HI b),e0.bs,e0.AA,fun b _ _ => HI b,fun b z => absurd z (HI b),e0.ie,e0.xC⟩,
  rfl,e0.bare,Un.kept hk,⟨_,x.toInCall.ns,fun i y v h1 h2 h3 => ?_⟩,fun y c h => ⟨_,x.cell y c h⟩,e0.bt.fresh (Nat.le_refl _),fun y c h => ?_,fun p hp => absurd (show p ∈ ([]:List (Addr × Obj)) from hp) (by simp),e0.bt.kept hk,?_⟩
 ·exact name_of_addr x.apart (PySem.mem_of_lookup h1) (PySem.mem_of_lookup h2)
 ·have hy:scope.names.lookup y = some .cell ∨ scope.names.lookup y = some .free:=hy
  rcases hy with hy | hy
  ·exact p6 hy
  ·exact absurd rfl (S.EC _ (PySem.mem_of_lookup hy))
 ·exact Nat.le_of_lt (x.above y c (PySem.mem_of_lookup h))
 ·have hi:i < vs.length:=by
   unfold start at h2
   by_cases hi:i < vs.length
   ·exact hi
   ·rw [List.getElem?_append_right (by simpa using hi)] at h2
    rw [List.getElem?_replicate] at h2
    split at h2 <;> cases h2
  have ha:vs[i]? = some v:=by
   unfold start at h2
   rw [List.getElem?_append_left (by simpa using hi),List.getElem?_map] at h2
   cases e:vs[i]? with
   | none => rw [e] at h2; cases h2
   | some a => rw [e] at h2; cases h2; rfl
  obtain ⟨u,hu,rv⟩:=r.get ha
  have hp:ps[i]? = some y:=by
   rw [← S.pre,List.getElem?_take_of_lt (by lia)]; exact h1
  have Np:ps.Nodup:=by rw [← S.pre]; exact S.nd.sublist (List.take_sublist _ _)
  refine ⟨u,rv,?_⟩
  rcases S.par y (List.mem_of_getElem? hp) with k | k
  ·exact .inl ⟨k,nQ Np hp hu k⟩
  ·obtain ⟨c,e⟩:=p6 (n:=s.heap.objs.size + 1) k
   refine .inr ⟨.inl k,c,e,?_⟩
   have q:=x.cell y c e
   rw [nS Np hp hu (by show scope.names.lookup y ≠ _; rw [k]; decide)] at q
   exact q
 ·exact e0.bt.fresh (Nat.le_of_lt (x.above y c (PySem.mem_of_lookup h)))
 ·unfold start
  show _ = N.length
  rw [List.length_append,List.length_map,List.length_replicate]
  lia
theorem HJ {CX:rQ} {P:Program} {w:World} {K:PySem.W.Frag} {mg:Str → Option Value} {base:Heap} {k:Nat} {f:Addr} {name qual:Str} {params:Arguments} {body:List Stmt} {scope:Scope} {dV kV doc pm cZ ct oc:Value} {an od:Option Addr}
  {xl:Array (Option Value)} {N ps:List Str} {sp:Sp} (lk:K.lookup f = some ⟨oc,od,.func (PySem.W.fnOf name qual params body scope dV kV doc pm an cZ ct),xl⟩) (pZ:PySem.W.codeIn K cZ qual = true) (S:cw N ps scope)
  (len:∀ vs H Q E,sp vs H Q E → vs.length = ps.length)
  (xU:∀ (A:Around) (outer:List Env) (s:Shared) (H:Hp) (vs:List V) (Q:VK) (E:XK),cL k (A.deeper (envOfC qual scope s.heap.objs.size f cZ)) → sp vs H Q E →
   ∃ t,gS (eO CX P w K mg base N qual scope f cZ A outer s H E) body t ∧ t { nx:=fun _ H' => Q .bE H',rt:=Q } (start N vs) H) :
  d8 P w K mg base CX (k + 1) f (PySem.W.fnOf name qual params body scope dV kV doc pm an cZ ct) ps sp:=by
 refine ⟨len,fun A outer s H args us vs Q E hr e0 hb r Dh => ?_⟩
 have hl:=len _ _ _ _ Dh
 have KX:K.In s.heap:=e0.mod.C_.keeps fun b o e => (e0.bs b o e).1
 have lim:s.heap.NoLimit:=e0.mod.nolimit.keeps fun b o e => (e0.bs b o e).1
 have HK:∀ y ∈ ps.zip us,scope.names.lookup y.1 = some .local ∨ (scope.names.lookup y.1 = some .cell ∧ ((cellsFrom (s.heap.objs.size + 1) scope.names []).lookup y.1).isSome = true):=fun ⟨n,v⟩ hy => by
  rcases S.par n (List.of_mem_zip hy).1 with q | q
  ·exact .inl q
  ·exact .inr ⟨q,PySem.W.cellsFrom_some _ _ _ (.inl q)⟩
 refine codeAny_call_function hr.depth (KX _ _ lk) rfl S.co S.gen rfl (PySem.W.codeRec_of KX pZ) (hb _ _ _ _ ?_)
 refine wpAny_newFunctionEnv_cells S.kind HK fun env he s1 x => ?_
 subst he
 refine ⟨lim.keeps x.toInCall.keep,codeAny_func ?_⟩
 obtain ⟨t,ht,hq⟩:=xU A outer s H vs Q E (hr.deeper _) Dh
 have I:aG (eO CX P w K mg base N qual scope f cZ A outer s H E) [] (start N vs) H s1:=vF S hr.hd e0 hl r x
 refine wpAny_mono (ht [] s1 (start N vs) H _ I hq) (fun fl s' hs => ?_) fun e s' hs => hs
 have fin:∀ {σ':St} {H':Hp} {v:V} {u:Value},aG (eO CX P w K mg base N qual scope f cZ A outer s H E) [] σ' H' s' → bc v u → Q v H' → CE outer P w H s Q u s' :=
  fun {σ' H' v u} J rv q => ⟨v,H',J.os,J.bare,J.base,J.bt,rv,q⟩
 cases fl with
 | ret u =>
  obtain ⟨v,σ',H',J,rv,q⟩:=hs
  exact fin J rv q
 | next =>
  obtain ⟨σ',H',J,q⟩:=hs
  exact fin (v:=V.bE) (u:=Value.none) J rfl q
 | brk =>
  obtain ⟨_,_,_,q⟩:=hs
  exact False.elim q
 | cont =>
  obtain ⟨_,_,_,q⟩:=hs
  exact False.elim q
end L2
namespace L2
open PySem PySem.Spec PyProof.Rows
section
variable {X:Cx} {x:Str} {p pos:Pos} {e:Expr} {es:List Expr} {t:TA} {id T:String} {r:List V → Hp → VK → Prop}
noncomputable def Nq (r:List V → Hp → VK → Prop) (t:TA):TE:=fun σ H Q => t σ H fun vs H1 => r vs H1 Q
theorem i? (hc:aU X (.builtin id) r) (hg:Gl X x) (hm:X.mg x = none) (hv:bootBuiltins x = some (.builtin id)) (ha:PA X (e :: es) t) (hn:x ≠ "__name__":=by decide) (iK:(x == ("__debug__":Str)) = false:=by decide)
  (he:starEach (e :: es) X.env = (false,eval e X.env) :: starEach es X.env:=by rfl) (eM:(backTo pos (starEach es X.env)).any (·.1) = false:=by rfl):PE X (.Call (.Name x p) (e :: es) [] pos) (Nq r t):=by
 intro af s σ H Q I h
 refine wpAny_Call_Name_kw (gg I hg hm hv ?_ hn iK)
 exact PyProof.Rows.callWith_builtin1 (cJ (ha pos af s σ H _ I h) fun us s1 ⟨vs,H1,I1,r1,q1⟩ => hc af s1 σ H1 vs us Q I1 r1 q1) he eM
theorem vG (hc:aU X (.type T) r) (hg:Gl X x) (hm:X.mg x = none) (hv:bootBuiltins x = some (.type T)) (ha:PA X (e :: es) t) (hn:x ≠ "__name__":=by decide) (iK:(x == ("__debug__":Str)) = false:=by decide)
  (he:starEach (e :: es) X.env = (false,eval e X.env) :: starEach es X.env:=by rfl) (eM:(backTo pos (starEach es X.env)).any (·.1) = false:=by rfl):PE X (.Call (.Name x p) (e :: es) [] pos) (Nq r t):=by
 intro af s σ H Q I h
 refine wpAny_Call_Name_kw (gg I hg hm hv ?_ hn iK)
 exact PyProof.Rows.callWith_type1 (cJ (ha pos af s σ H _ I h) fun us s1 ⟨vs,H1,I1,r1,q1⟩ => hc af s1 σ H1 vs us Q I1 r1 q1) he eM
end
end L2
namespace HT
open PySem PyProof.Rows
section
variable {prog:Program} {w:World} {A:Around} {E:Value → Shared → Prop} {s:Shared}
theorem AW {t b:Addr} {vs ws:List Value} {Q:Value → Shared → Prop} (ht:IsTup s.heap t vs.toArray) (hb:IsTup s.heap b ws.toArray) (hv:vs ≠ [])
  (h1:ws = [] → Q (.ref t) s) (h2:ws ≠ [] → Q (.ref s.heap.objs.size) { s with heap:=s.heap.push { cls:=.type "tuple",data:=.seq (vs ++ ws).toArray } })
  (hsz:vs.length + ws.length ≤ sizeLine):wpAny (model prog w) A (binaryOp .Add (.ref t) (.ref b)) Q E s:=by
 obtain ⟨⟨cls,dd,data,sl⟩,ho,hc,n,hd⟩:=id ht
 obtain ⟨⟨K7,JV,data2,HL⟩,EE,HM,n2,hd2⟩:=id hb
 simp only at hc hd HM hd2
 subst hc hd HM hd2
 have e:vs.toArray ++ ws.toArray = (vs ++ ws).toArray:=by simp
 by_cases hw:ws = []
 ·exact concat_meets ⟨_,ho,rfl⟩ ⟨_,EE,rfl⟩ noFill_tuple_add seq_tuple_add PySem.F.slot_tuple_add PySem.F.entry_tuple_add (PySem.F.args_tuple_add_2 _ _)
   (tuple_addW1 t b vs.toArray ws.toArray n n2 dd JV sl HL (by simpa using hv) (by simp [hw])) ⟨ho,EE,h1 hw⟩
 ·refine concat_meets ⟨_,ho,rfl⟩ ⟨_,EE,rfl⟩ noFill_tuple_add seq_tuple_add PySem.F.slot_tuple_add PySem.F.entry_tuple_add (PySem.F.args_tuple_add_2 _ _)
   (tuple_addW2 t b vs.toArray ws.toArray n n2 dd JV sl HL (by simpa using hv) (by simpa using hw) (by rw [List.size_toArray,List.size_toArray]; exact hsz)) ⟨ho,EE,?_⟩
  rw [e]
  exact h2 hw
noncomputable def dN (n d:Nat):Option Int → Nat
 | none => d
 | some v => if v < 0 then (v + (n:Int)).toNat else min v.toNat n
theorem p7 (n d:Nat):dN n d none = d:=rfl
theorem uk (n d k:Nat):dN n d (some (k:Int)) = min k n:=by
 show (if (k:Int) < 0 then ((k:Int) + (n:Int)).toNat else min (k:Int).toNat n) = min k n
 rw [if_neg (by lia),Int.toNat_natCast]
theorem EF (n d:Nat) (hd:d ≤ n) (o:Option Int):dN n d o ≤ n:=by
 cases o with
 | none => exact hd
 | some v =>
  show (if v < 0 then (v + (n:Int)).toNat else min v.toNat n) ≤ n
  by_cases hv:v < 0
  ·rw [if_pos hv]; lia
  ·rw [if_neg hv]; exact Nat.min_le_right _ _
theorem um (v:Int) (n d:Nat):(if v < 0 then max (v + (n:Int)) 0 else min v (n:Int)) = ((dN n d (some v):Nat):Int):=by
 show (if v < 0 then max (v + (n:Int)) 0 else min v (n:Int)) = (((if v < 0 then (v + (n:Int)).toNat else min v.toNat n):Nat):Int)
 by_cases hv:v < 0
 ·simp only [if_pos hv]; lia
 ·simp only [if_neg hv]; lia
theorem su (lo hi:Option Int) (n:Nat):Builtin.Slice.sliceAdjust lo hi 1 (n:Int) = (((dN n 0 lo:Nat):Int),((dN n n hi:Nat):Int)):=by
 have h1:¬ ((1:Int) < 0):=by lia
 unfold Builtin.Slice.sliceAdjust
 simp only [h1,if_false]
 refine Prod.ext ?_ ?_
 ·cases lo with
  | none => rfl
  | some v => exact um v n 0
 ·cases hi with
  | none => rfl
  | some v => exact um v n n
theorem sv (i j:Nat):Builtin.Slice.slicePlaces (i:Int) (j:Int) 1 = j - i:=by
 unfold Builtin.Slice.slicePlaces
 have h1:(1:Int) > 0:=by lia
 simp only [h1,if_true,Int.ediv_one]
 split <;> lia
theorem k! {v:Value} {o:Option Int} {Q:Option Int → Shared → Prop} (p:IsPart v o) (h:Q o s):wpAny (model prog w) A (Builtin.Slice.slicePartIndex v) Q E s:=by
 cases p with
 | none => exact slicePart_none h
 | int i t => exact slicePart_int h
theorem jH {sl:Addr} {vl vu:Value} {lo hi:Option Int} {n:Nat} {Q:Int × Int × Nat → Shared → Prop} (hs:s.heap.IsSliceOf sl vl vu .none) (pl:IsPart vl lo) (pu:IsPart vu hi)
  (h:Q (((dN n 0 lo:Nat):Int),1,dN n n hi - dN n 0 lo) s):wpAny (model prog w) A (Builtin.Slice.sliceApplied (.ref sl) (pure (n:Int))) Q E s:=by
 obtain ⟨os,HN,Nr,JW⟩:=id hs
 unfold Builtin.Slice.sliceApplied Builtin.Slice.sliceFields
 refine wpAny_bind (wpAny_bind (wpAny_field HN JW (x:=vl) rfl (wpAny_bind (wpAny_field HN JW (x:=vu) rfl (wpAny_bind (wpAny_field HN JW (x:=.none) rfl (wpAny_pure ?_)))))))
 refine wpAny_bind (slicePart_none ?_)
 show wpAny _ _ (if ((1:Int) == 0) = true then _ else _) _ _ s
 rw [if_neg (by decide)]
 refine wpAny_bind (k! pl (wpAny_bind (k! pu (wpAny_bind (wpAny_pure ?_)))))
 show wpAny _ _ (match Builtin.Slice.sliceAdjust lo hi 1 (n:Int) with | (lo,hi) => pure (lo,(1:Int),Builtin.Slice.slicePlaces lo hi 1)) _ _ s
 rw [su lo hi n]
 show wpAny _ _ (pure (((dN n 0 lo:Nat):Int),(1:Int),Builtin.Slice.slicePlaces ((dN n 0 lo:Nat):Int) ((dN n n hi:Nat):Int) 1)) _ _ s
 rw [sv]
 exact wpAny_pure h
theorem xV (xs:Array Value) (i k:Nat):((List.range k).filterMap fun (m:Nat) => xs[((i:Int) + (m:Int) * 1).toNat]?).toArray = ((xs.toList.drop i).take k).toArray:=by
 have e:(fun (m:Nat) => xs[((i:Int) + (m:Int) * 1).toNat]?) = fun m => xs[i + m]?:=by
  funext m
  have:((i:Int) + (m:Int) * 1).toNat = i + m:=by lia
  rw [this]
 rw [e]
 have:=pick_run xs i k
 rw [List.filterMap_map] at this
 have e2:((fun x => xs[x]?) ∘ fun x => i + x) = fun m => xs[i + m]?:=rfl
 rw [e2] at this
 rw [this]
theorem i' {t sl:Addr} {items:Array Value} {vl vu:Value} {lo hi:Option Int} {Q:Value → Shared → Prop} (ht:IsTup s.heap t items) (hs:s.heap.IsSliceOf sl vl vu .none) (pl:IsPart vl lo) (pu:IsPart vu hi)
  (hw:¬ (dN items.size 0 lo = 0 ∧ dN items.size items.size hi = items.size))
  (h:Q (.ref s.heap.objs.size) { s with heap:=s.heap.push { cls:=.type "tuple",data:=.seq ((items.toList.drop (dN items.size 0 lo)).take (dN items.size items.size hi - dN items.size 0 lo)).toArray } })
  (hsz:items.size ≤ sizeLine):wpAny (model prog w) A (getItem (.ref t) (.ref sl)) Q E s:=by
 have uo:sizeOk (.seq ((items.toList.drop (dN items.size 0 lo)).take (dN items.size items.size hi - dN items.size 0 lo)).toArray):=by
  show ((items.toList.drop (dN items.size 0 lo)).take (dN items.size items.size hi - dN items.size 0 lo)).toArray.size ≤ sizeLine
  rw [List.size_toArray,List.length_take,List.length_drop,Array.length_toList]
  lia
 have hj:dN items.size items.size hi ≤ items.size:=EF _ _ (Nat.le_refl _) hi
 obtain ⟨os,HN,Nr,JW⟩:=id hs
 have Ot:s.TypeIs (.ref sl) "slice":=⟨os,HN,Nr⟩
 unfold getItem
 try with_reducible refine wpAny_holding ?_
 first | refine wpAny_bind (wpAny_pure ?_) | skip
 refine wpAny_bind (wpAny_sequenceKey ht.typeIs (by decide) ?_)
 refine wpAny_bind (wpAny_callSpecial?_slot (name:=Str.ofString "__getitem__") ht.typeIs PyProof.Rows.slot_tuple_getitem
  (wpAny_call_entry PyProof.Rows.slot_tuple_getitem ht.typeIs entry_tuple_getitem ?_ (args_tuple_getitem _ _)))
 show wpAny _ _ (Builtin.Tuple.tupleItemsOf (.ref t) >>= _) _ _ s
 refine wpAny_bind (tupleItemsOf_ ht ?_)
 refine wpAny_bind (wpAny_typeOf Ot ?_)
 rw [if_pos (by decide)]
 refine wpAny_bind (jH hs pl pu ?_)
 have K8:¬ ((((dN items.size 0 lo:Nat):Int) == 0 && (1:Int) == 1 && (dN items.size items.size hi - dN items.size 0 lo) == items.size) = true):=by
  intro q
  rw [Bool.and_eq_true,Bool.and_eq_true] at q
  have q1:((dN items.size 0 lo:Nat):Int) = 0:=eq_of_beq q.1.1
  have q2:dN items.size items.size hi - dN items.size 0 lo = items.size:=eq_of_beq q.2
  exact hw ⟨by lia,by lia⟩
 show wpAny _ _ (if (((dN items.size 0 lo:Nat):Int) == 0 && (1:Int) == 1 && (dN items.size items.size hi - dN items.size 0 lo) == items.size) = true then _ else _) _ _ s
 rw [if_neg K8,xV]
 first
  | exact wpAny_bind (m:=Builtin.Tuple.tupleExact _) (wpAny_newObj_type (wpAny_pure ⟨_,rfl,wpAny_pure h⟩) uo)
  | exact wpAny_bind (m:=Builtin.Tuple.tupleExact _) (wpAny_newObj_type (wpAny_bind (wpAny_pure (wpAny_pure ⟨_,rfl,wpAny_pure h⟩))) uo)
  | exact wpAny_bind (wpAny_bind (m:=Builtin.Tuple.tupleExact _) (wpAny_newObj_type (wpAny_pure (wpAny_pure ⟨_,rfl,wpAny_pure h⟩)) uo))
  | exact wpAny_bind (wpAny_bind (m:=Builtin.Tuple.tupleExact _) (wpAny_newObj_type (wpAny_pure ⟨_,rfl,wpAny_pure h⟩) uo))
end
end HT
namespace L2
open PySem PySem.Spec PyProof.Rows
noncomputable abbrev TO:=St → Hp → (Option Int → Hp → Prop) → Prop
noncomputable def PO (X:Cx) (e:Option Expr) (t:TO):Prop :=
 ∀ (af:List (Addr × Obj)) (s:Shared) (σ:St) (H:Hp) (Q:Option Int → Hp → Prop),aG X af σ H s → t σ H Q →
  wpAny (model X.prog X.w) X.A (evalPart e X.env) (fun u s' => ∃ o H',aG X af σ H' s' ∧ IsPart u o ∧ Q o H') X.xe s
noncomputable def AX:TO:=fun _ H Q => Q none H
noncomputable def HP (t:TE):TO:=fun σ H Q => t σ H fun x H1 => ∃ i,x = .int i ∧ Q (some i) H1
theorem intsAre_of {ns:List Int}:∀ {us:List Value},aR (ns.map V.int) us → IntsAre us ns:=by
 induction ns with
 | nil => intro us r; rw [List.map_nil] at r; cases r; exact .nil
 | cons n ns ih =>
  intro us r
  rw [List.map_cons] at r
  cases r with
  | cons r1 r2 =>
   obtain ⟨t,e⟩:=r1
   subst e
   exact .cons n t (ih r2)
section
variable {X:Cx} {e:Expr} {te:TE} {lo hi:Option Expr} {tl th:TO} {pos p2:Pos}
theorem AY:PO X none AX:=by
 intro af s σ H Q I h
 rw [evalPart_none]
 exact wpAny_pure ⟨none,H,I,.none,h⟩
theorem AZ (h:PE X e te):PO X (some e) (HP te):=by
 intro af s σ H Q I hw
 rw [evalPart_some]
 refine cJ (h af s σ H _ I hw) fun u s1 ⟨x,H1,I1,r1,q1⟩ => ?_
 obtain ⟨i,rfl,q⟩:=q1
 obtain ⟨t,rfl⟩:=r1
 exact ⟨some i,H1,I1,.int i t,q⟩
noncomputable def Di (X:Cx) (r:V → Option Int → Option Int → Hp → VK → Prop):Prop :=
 ∀ (af:List (Addr × Obj)) (s:Shared) (σ:St) (H:Hp) (x:V) (v vl vu:Value) (lo hi:Option Int) (sl:Addr) (Q:VK),aG X af σ H s → bc x v → s.heap.IsSliceOf sl vl vu .none → IsPart vl lo → IsPart vu hi → r x lo hi H Q →
  ∃ T id,typeLookup (.type T) "__getitem__" = pure (some (.builtin id)) ∧ s.TypeIs v T ∧ wpAny (model X.prog X.w) X.A (getItem v (.ref sl)) (EP X af σ Q) X.xe s
theorem Di.or {r r':V → Option Int → Option Int → Hp → VK → Prop} (h:Di X r) (h':Di X r'):Di X (fun x lo hi H Q => r x lo hi H Q ∨ r' x lo hi H Q):=by
 intro af s σ H x v vl vu lo hi sl Q I rx hs pl pu q
 rcases q with q | q
 ·exact h af s σ H x v vl vu lo hi sl Q I rx hs pl pu q
 ·exact h' af s σ H x v vl vu lo hi sl Q I rx hs pl pu q
noncomputable def Ou (r:V → Option Int → Option Int → Hp → VK → Prop) (te:TE) (tl th:TO):TE:=fun σ H Q => te σ H fun x H1 => tl σ H1 fun l H2 => th σ H2 fun u H3 => r x l u H3 Q
theorem xW {r:V → Option Int → Option Int → Hp → VK → Prop} (hr:Di X r) (he:PE X e te) (hl:PO X lo tl) (hu:PO X hi th):PE X (.Subscript e (.Slice lo hi none p2) pos) (Ou r te tl th):=by
 intro af s σ H Q I h
 refine Subscript_ (cJ (he af s σ H _ I h) fun v s1 ⟨x,H1,I1,r1,q1⟩ => ?_)
 refine wpAny_Slice (cJ (hl af s1 σ H1 _ I1 q1) fun vl s2 ⟨l,H2,I2,pl,q2⟩ => cJ (hu af s2 σ H2 _ I2 q2) fun vu s3 ⟨u,H3,I3,pu,q3⟩ => ?_)
 rw [evalPart_none]
 refine wpAny_pure ?_
 have I4:aG X af σ H3 { s3 with heap:=s3.heap.push { cls:=.type "slice",data:=.fields #[vl,vu,.none] } }:=I3.kept (t':=s3.toks) fun b ob q => Heap.get?_push_of_some _ q
 obtain ⟨T,id,hT,ht,hg⟩:=hr af { s3 with heap:=s3.heap.push { cls:=.type "slice",data:=.fields #[vl,vu,.none] } } σ H3 x v vl vu l u s3.heap.objs.size Q I4 r1 (Heap.IsSliceOf.new ..) pl pu q3
 show wpAny (model X.prog X.w) X.A (subscriptTail e (.Slice lo hi none p2) v (.ref s3.heap.objs.size)) (EP X af σ Q) X.xe { s3 with heap:=s3.heap.push { cls:=.type "slice",data:=.fields #[vl,vu,.none] } }
 exact tail_any (ops:=[.ref s3.heap.objs.size,v]) ht hT hg (by with_unfolding_all rfl)
noncomputable def oN (xs:List V) (lo hi:Option Int):List V:=(xs.drop (HT.dN xs.length 0 lo)).take (HT.dN xs.length xs.length hi - HT.dN xs.length 0 lo)
theorem ke (xs:List V) (lo hi:Option Int):(oN xs lo hi).length ≤ xs.length:=by
 unfold oN
 rw [List.length_take,List.length_drop]
 lia
noncomputable def K9 (K:PySem.W.Frag):V → Option Int → Option Int → Hp → VK → Prop:=fun x lo hi H Q => ∃ a xs,x = .ref a ∧ ig K H a xs ∧
 ¬ (HT.dN xs.length 0 lo = 0 ∧ HT.dN xs.length xs.length hi = xs.length) ∧ ∀ p,H p = none → Q (.ref p) (upd H p (.tup (oN xs lo hi)))
theorem EG:Di X (K9 X.K):=by
 intro af s σ H x v vl vu lo hi sl Q I rx hs pl pu h
 obtain ⟨a,xs,rfl,hx,hw,q⟩:=h
 cases rx
 obtain ⟨aH,r,ht,hz⟩:=I.tuple hx
 have hlen:aH.toArray.size = xs.length:=by rw [List.size_toArray]; exact r.length.symm
 refine ⟨"tuple",_,PyProof.Rows.slot_tuple_getitem.lookup,ht.typeIs,?_⟩
 refine HT.i' ht hs pl pu (by rw [hlen]; exact hw) ?_ (by rw [hlen]; exact hz)
 rw [hlen]
 refine ⟨.ref s.heap.objs.size,_,I.laid (t':=s.toks) (o:=.tup (oN xs lo hi)) (fun b ob q => Heap.get?_push_of_some _ q) (Nat.le_refl _) ?_,rfl,q _ (I.bt.fresh (Nat.le_refl _))⟩
 exact ⟨Nat.le_trans (ke xs lo hi) hz,_,(r.drop (HT.dN xs.length 0 lo)).take (HT.dN xs.length xs.length hi - HT.dN xs.length 0 lo),IsTup.new _ _⟩
noncomputable def HQ (K:PySem.W.Frag):R2:=fun x y H Q => ∃ a b xs ys,x = .ref a ∧ y = .ref b ∧ ig K H a xs ∧ ig K H b ys ∧ xs ≠ [] ∧ xs.length + ys.length ≤ sizeLine ∧
 (ys = [] → Q (.ref a) H) ∧ (ys ≠ [] → ∀ p,H p = none → Q (.ref p) (upd H p (.tup (xs ++ ys))))
theorem aR.oO {xs:List V} {us:List Value} (r:aR xs us):us = [] ↔ xs = []:=by
 cases r with
 | nil => simp
 | cons _ _ => simp
theorem A0:cV X (binaryOp .Add) (HQ X.K):=by
 intro af s σ H x y v u Q I rx ry h
 obtain ⟨a,b,xs,ys,rfl,rfl,ha,hb,hx,hz,q1,q2⟩:=h
 cases rx
 cases ry
 obtain ⟨aH,r1,p1,_⟩:=I.tuple ha
 obtain ⟨cK,r2,p2,_⟩:=I.tuple hb
 refine HT.AW p1 p2 (fun z => hx (r1.oO.mp z)) (fun z => ⟨.ref a,H,I,rfl,q1 (r2.oO.mp z)⟩) (fun z => ?_) (by rw [← r1.length,← r2.length]; exact hz)
 refine ⟨.ref s.heap.objs.size,_,I.laid (t':=s.toks) (o:=.tup (xs ++ ys)) (fun b ob q => Heap.get?_push_of_some _ q) (Nat.le_refl _) ?_,rfl,q2 (fun w => z (r2.oO.mpr w)) _ (I.bt.fresh (Nat.le_refl _))⟩
 exact ⟨by rw [List.length_append]; exact hz,_,r1.append r2,IsTup.new _ _⟩
end
end L2
namespace L2
open PySem PySem.Spec PyProof.Rows
noncomputable def Dj (n:Nat) (i:Int):Option Nat:=if 0 ≤ i then (if i < n then some i.toNat else none) else if -(n:Int) ≤ i then some (i + n).toNat else none
noncomputable def mS {α:Type} (xs:List α) (i:Int):Option α:=(Dj xs.length i).bind fun j => xs[j]?
theorem A3 {n:Nat} {i:Int} {j:Nat} (h:Dj n i = some j):seqIndex? i n = some j ∧ j < n ∧ -(n:Int) ≤ i ∧ i < n:=by
 unfold Dj at h
 by_cases h0:0 ≤ i
 ·rw [if_pos h0] at h
  by_cases h1:i < n
  ·rw [if_pos h1] at h
   have e:i.toNat = j:=Option.some.inj h
   exact ⟨by rw [seqIndex_of h0 h1,e],by lia,by lia,h1⟩
  ·rw [if_neg h1] at h; cases h
 ·rw [if_neg h0] at h
  by_cases h1:-(n:Int) ≤ i
  ·rw [if_pos h1] at h
   have e:(i + n).toNat = j:=Option.some.inj h
   exact ⟨by rw [seqIndex_neg (by lia) h1,e],by lia,h1,by lia⟩
  ·rw [if_neg h1] at h; cases h
theorem oP {α:Type} {xs:List α} {i:Int} {v:α} (h:mS xs i = some v):∃ j,seqIndex? i xs.length = some j ∧ xs[j]? = some v ∧ j < xs.length ∧ -(xs.length:Int) ≤ i ∧ i < xs.length:=by
 unfold mS at h
 cases e:Dj xs.length i with
 | none => rw [e] at h; cases h
 | some j =>
  rw [e] at h
  obtain ⟨h1,h2,h3,h4⟩:=A3 e
  exact ⟨j,h1,h,h2,h3,h4⟩
theorem fq {α:Type} {xs:List α} {j:Nat} {v:α} (h:xs[j]? = some v):mS xs (j:Int) = some v:=by
 have hj:j < xs.length:=(List.getElem?_eq_some_iff.mp h).1
 have e:Dj xs.length (j:Int) = some j:=by
  unfold Dj
  rw [if_pos (by lia),if_pos (by lia)]; simp
 unfold mS; rw [e]; exact h
noncomputable def oQ (b:Expr):Prop:=∀ o i,subscripted b false o i = operate [o,i] (getItem o i)
noncomputable def rR (X:Cx) (r:R2):Prop :=
 ∀ (value slice:Expr) (af:List (Addr × Obj)) (s:Shared) (σ:St) (H:Hp) (x y:V) (v u:Value) (Q:VK),aG X af σ H s → bc x v → bc y u → r x y H Q →
  subscripted slice false v u = operate [v,u] (getItem v u) → wpAny (model X.prog X.w) X.A (subscriptTail value slice v u) (EP X af σ Q) X.xe s
noncomputable def Nt (X:Cx) (id:String) (r:V → List V → Hp → VK → Prop):Prop :=
 ∀ (af:List (Addr × Obj)) (s:Shared) (σ:St) (H:Hp) (x:V) (xs:List V) (v:Value) (us:List Value) (Q:VK),aG X af σ H s → bc x v → aR xs us → r x xs H Q →
  wpAny (model X.prog X.w) X.A (call (.builtin id) (v :: us)) (EP X af σ Q) X.xe s
section
variable {X:Cx} {a b:Expr} {ta tb:TE} {pos:Pos}
theorem rR.or {r r':R2} (h:rR X r) (h':rR X r'):rR X (fun x y H Q => r x y H Q ∨ r' x y H Q):=by
 intro value slice af s σ H x y v u Q I rx ry q hs
 rcases q with q | q
 ·exact h value slice af s σ H x y v u Q I rx ry q hs
 ·exact h' value slice af s σ H x y v u Q I rx ry q hs
theorem HR {r:R2} (hr:rR X r) (ha:PE X a ta) (hb:PE X b tb) (hs:oQ b):PE X (.Subscript a b pos) (GX r ta tb):=by
 intro af s σ H Q I h
 exact Subscript_ (Ek ha hb I h fun v u s2 x y H2 I2 rx ry q => hr a b af s2 σ H2 x y v u Q I2 rx ry q (hs _ _))
noncomputable def K_ (K:PySem.W.Frag):R2:=fun x y H Q => ∃ p xs i v,x = .ref p ∧ y = .int i ∧ iC K H p xs ∧ mS xs i = some v ∧ Q v H
noncomputable def K! (K:PySem.W.Frag):R2:=fun x y H Q => ∃ p xs i v,x = .ref p ∧ y = .int i ∧ ig K H p xs ∧ mS xs i = some v ∧ Q v H
noncomputable def K?:R2:=fun x y H Q => ∃ z i c,x = .str z ∧ y = .int i ∧ z.length ≤ sizeLine ∧ mS z.cps.toList i = some c ∧ Q (.str ⟨#[c]⟩) H
theorem A4:rR X (K_ X.K):=by
 intro value slice af s σ H x y v u Q I rx ry h hs
 obtain ⟨p,xs,i,z,rfl,rfl,hq,he,q⟩:=h
 cases rx
 obtain ⟨t,rfl⟩:=ry
 obtain ⟨aH,r,pl,hz⟩:=I.list hq
 obtain ⟨j,h1,h2,h3,h4,h5⟩:=oP he
 obtain ⟨w,ew,vH⟩:=r.get h2
 have hl:=r.length
 have hn:=k_
 have fin:EP X af σ Q w s:=⟨z,H,I,vH,q⟩
 by_cases h0:0 ≤ i
 ·have hj:i.toNat = j:=by
   rw [seqIndex_of h0 h5] at h1
   exact Option.some.inj h1
  exact item_listR pl.isList h0 (by lia) (by rw [hj]; simpa using ew) fin hs
 ·have hj:(i + (aH.toArray.size:Int)).toNat = j:=by
   rw [seqIndex_neg (by lia) h4] at h1
   rw [List.size_toArray,← hl]
   exact Option.some.inj h1
  exact subscriptTail_builtinR (x:=w) pl.isList.typeIs slot_list_getitem.lookup
   (wpAny_getItem_list_neg (Q:=fun r s' => r = w ∧ EP X af σ Q r s') pl.isList (by lia) (by rw [List.size_toArray] <;> lia) (by lia) (by rw [hj]; simpa using ew) ⟨rfl,fin⟩) hs
theorem jI:rR X (K! X.K):=by
 intro value slice af s σ H x y v u Q I rx ry h hs
 obtain ⟨p,xs,i,z,rfl,rfl,hq,he,q⟩:=h
 cases rx
 obtain ⟨t,rfl⟩:=ry
 obtain ⟨aH,r,pl,hz⟩:=I.tuple hq
 obtain ⟨j,h1,h2,h3,h4,h5⟩:=oP he
 obtain ⟨w,ew,vH⟩:=r.get h2
 have hl:=r.length
 have hn:=k_
 have fin:EP X af σ Q w s:=⟨z,H,I,vH,q⟩
 exact subscriptTail_builtinR (x:=w) pl.typeIs slot_tuple_getitem.lookup
  (getItem_tuple (j:=j) (Q:=fun r s' => r = w ∧ EP X af σ Q r s') pl (by lia) (by lia) (by rw [List.size_toArray,← hl]; exact h1) (by simpa using ew) ⟨rfl,fin⟩) hs
theorem EI:rR X K?:=by
 intro value slice af s σ H x y v u Q I rx ry h hs
 obtain ⟨z,i,c,rfl,rfl,hz,he,q⟩:=h
 obtain ⟨t,rfl⟩:=rx
 obtain ⟨t',rfl⟩:=ry
 obtain ⟨j,h1,h2,h3,h4,h5⟩:=oP he
 have hl:z.cps.toList.length = z.length:=by simp [Str.length]
 rw [hl] at h1 h4 h5
 have hn:=k_
 exact tail_any (typeIs_str s z t) slot_str_getitem.lookup (getItem_str (c:=c) (by
  have e1:decide (i < -(2 ^ 63:Int)) = false:=decide_eq_false (by lia)
  have e2:decide (i ≥ 2 ^ 63) = false:=decide_eq_false (by lia)
  rw [e1,e2,Bool.or_false]) (by rw [h1]; simpa using h2) ⟨.str ⟨#[c]⟩,H,I.tok _,⟨_,rfl⟩,q⟩) hs
theorem oR (lo hi:Option Int) (n:Nat):(sliceBounds lo hi none n).1 = ((HT.dN n 0 lo:Nat):Int) ∧ (sliceBounds lo hi none n).2.1 = ((HT.dN n n hi:Nat):Int) ∧ (sliceBounds lo hi none n).2.2 = 1:=by
 refine ⟨?_,?_,rfl⟩
 ·cases lo with
  | none => simp [sliceBounds,HT.dN]
  | some i =>
   simp only [sliceBounds,HT.dN,Option.getD_none,show (1:Int) > 0 by decide,if_true]
   by_cases h:i < 0
   ·simp only [h,if_true] <;> lia
   ·simp only [h,if_false] <;> lia
 ·cases hi with
  | none => simp [sliceBounds,HT.dN]
  | some i =>
   simp only [sliceBounds,HT.dN,Option.getD_none,show (1:Int) > 0 by decide,if_true]
   by_cases h:i < 0
   ·simp only [h,if_true] <;> lia
   ·simp only [h,if_false] <;> lia
theorem mW (aH:List Value) (lo hi:Option Int):slicePick aH.toArray lo hi none = ((aH.drop (HT.dN aH.length 0 lo)).take (HT.dN aH.length aH.length hi - HT.dN aH.length 0 lo)).toArray:=by
 obtain ⟨h1,h2,h3⟩:=oR lo hi aH.toArray.size
 unfold slicePick
 rw [h1,h2,h3]
 simp only [sliceRange_one,pick_run,List.size_toArray] <;> rfl
noncomputable def K' (K:PySem.W.Frag):V → Option Int → Option Int → Hp → VK → Prop:=fun x lo hi H Q => ∃ a xs,x = .ref a ∧ iC K H a xs ∧ ∀ p,H p = none → Q (.ref p) (upd H p (.lst (oN xs lo hi)))
theorem A5:Di X (K' X.K):=by
 intro af s σ H x v vl vu lo hi sl Q I rx hs pl pu h
 obtain ⟨a,xs,rfl,hx,q⟩:=h
 cases rx
 obtain ⟨aH,r,ht,hz⟩:=I.list hx
 have hlen:=r.length
 refine ⟨"list",_,slot_list_getitem.lookup,ht.isList.typeIs,?_⟩
 refine wpAny_getItem_list_slice ht.isList hs pl pu .none (by simp) ?_ (by rw [List.size_toArray] <;> lia)
 rw [mW,← hlen]
 refine ⟨.ref s.heap.objs.size,_,I.laid (t':=s.toks) (o:=.lst (oN xs lo hi)) (fun b ob q => Heap.get?_push_of_some _ q) (Nat.le_refl _) ?_,rfl,q _ (I.bt.fresh (Nat.le_refl _))⟩
 exact ⟨Nat.le_trans (ke xs lo hi) hz,_,0,(r.drop (HT.dN xs.length 0 lo)).take (HT.dN xs.length xs.length hi - HT.dN xs.length 0 lo),Heap.get?_push_size _ rfl⟩
noncomputable def gU:V → Bool
 | .bE => true
 | .bl _ => true
 | .int _ => true
 | .str _ => true
 | _ => false
noncomputable def As:V → V → Bool
 | .bE,.bE => true
 | .bl a,.bl b => a == b
 | .bl a,.int b => (if a then 1 else 0) == b
 | .int a,.bl b => a == (if b then 1 else 0)
 | .int a,.int b => a == b
 | .str a,.str b => a == b
 | _,_ => false
theorem EJ {A:Around} {s:Shared} {y x:V} {u v:Value} (ry:bc y u) (rx:bc x v) (fy:gU y = true) (fx:gU x = true):SeqAt.EqAt A s u v (As y x):=by
 cases y with
 | bE =>
  cases ry
  cases x with
  | bE => cases rx; exact SeqAt.EqAt.same _
  | bl b => cases rx; exact SeqAt.EqAt.none_bool b
  | int b => obtain ⟨t,rfl⟩:=rx; exact SeqAt.EqAt.none_int b t
  | str b => obtain ⟨t,rfl⟩:=rx; exact SeqAt.EqAt.none_str b t
  | _ => exact absurd (show false = true from fx) Bool.false_ne_true
 | bl a =>
  cases ry
  cases x with
  | bE => cases rx; exact SeqAt.EqAt.bool_none a
  | bl b => cases rx; exact SeqAt.EqAt.bool_bool a b
  | int b => obtain ⟨t,rfl⟩:=rx; exact SeqAt.EqAt.bool_int a b t
  | str b => obtain ⟨t,rfl⟩:=rx; exact SeqAt.EqAt.bool_str a b t
  | _ => exact absurd (show false = true from fx) Bool.false_ne_true
 | int a =>
  obtain ⟨t',rfl⟩:=ry
  cases x with
  | bE => cases rx; exact SeqAt.EqAt.int_none a t'
  | bl b => cases rx; exact SeqAt.EqAt.int_bool a t' b
  | int b => obtain ⟨t,rfl⟩:=rx; exact SeqAt.EqAt.int_int a t' b t
  | str b => obtain ⟨t,rfl⟩:=rx; exact SeqAt.EqAt.int_str a t' b t
  | _ => exact absurd (show false = true from fx) Bool.false_ne_true
 | str a =>
  obtain ⟨t',rfl⟩:=ry
  cases x with
  | bE => cases rx; exact SeqAt.EqAt.str_none a t'
  | bl b => cases rx; exact SeqAt.EqAt.str_bool a t' b
  | int b => obtain ⟨t,rfl⟩:=rx; exact SeqAt.EqAt.str_int a t' b t
  | str b => obtain ⟨t,rfl⟩:=rx; exact SeqAt.EqAt.str_str a t' b t
  | _ => exact absurd (show false = true from fx) Bool.false_ne_true
 | _ => exact absurd (show false = true from fy) Bool.false_ne_true
noncomputable def A6 (x:V) (u:Value):Bool:=match u with
 | .none => As .bE x
 | .bool b => As (.bl b) x
 | .int i _ => As (.int i) x
 | .str z _ => As (.str z) x
 | _ => false
theorem xX {x y:V} {u:Value} (r:bc y u) (f:gU y = true):A6 x u = As y x:=by
 cases y with
 | bE => cases r; rfl
 | bl b => cases r; rfl
 | int i => obtain ⟨t,rfl⟩:=r; rfl
 | str z => obtain ⟨t,rfl⟩:=r; rfl
 | _ => exact absurd (show false = true from f) Bool.false_ne_true
theorem oS {x:V}:∀ {xs:List V} {us:List Value},aR xs us → xs.all gU = true → us.any (A6 x) = xs.any fun y => As y x
 | _,_,.nil,_ => rfl
 | y :: xs,u :: us,.cons r t,f => by
  rw [List.all_cons,Bool.and_eq_true] at f
  rw [List.any_cons,List.any_cons,xX r f.1,oS t f.2]
theorem k? {A:Around} {s:Shared} {x:V} {v:Value} (rx:bc x v) (fx:gU x = true):∀ {xs:List V} {us:List Value},aR xs us → xs.all gU = true → ∀ u ∈ us,SeqAt.EqAt A s u v (A6 x u)
 | _,_,.nil,_ => fun u hu => by cases hu
 | y :: xs,u :: us,.cons r t,f => fun u' hu => by
  rw [List.all_cons,Bool.and_eq_true] at f
  rcases List.mem_cons.mp hu with rfl | hu
  ·rw [xX r f.1]; exact EJ r rx f.1 fx
  ·exact k? rx fx t f.2 u' hu
noncomputable def JX (x:V) (xs:List V):Bool:=xs.any fun y => As y x
noncomputable def Nu (K:PySem.W.Frag) (neg:Bool):R2:=fun x y H Q => ∃ p xs,y = .ref p ∧ (iC K H p xs ∨ ig K H p xs) ∧ gU x = true ∧ xs.all gU = true ∧ Q (.bl (if neg then !JX x xs else JX x xs)) H
theorem vI:cV X (compareOp .In) (Nu X.K false):=by
 intro af s σ H x y v u Q I rx ry h
 obtain ⟨p,xs,rfl,hq,fx,fs,q⟩:=h
 cases ry
 rcases hq with hq | hq
 ·obtain ⟨aH,r,pl,hz⟩:=I.list hq
  refine SeqAt.in_listAt (A6 x) pl.isList (fun w hw => k? rx fx r fs w (by simpa using hw)) ⟨.bl _,H,I,rfl,?_⟩
  rw [show aH.toArray.any (A6 x) = aH.any (A6 x) by simp,oS r fs]
  exact q
 ·obtain ⟨aH,r,pl,hz⟩:=I.tuple hq
  refine SeqAt.in_tupleAt (A6 x) pl (fun w hw => k? rx fx r fs w (by simpa using hw)) ⟨.bl _,H,I,rfl,?_⟩
  rw [show aH.toArray.any (A6 x) = aH.any (A6 x) by simp,oS r fs]
  exact q
theorem oT:aU X (.builtin "len") (fun xs H Q => ∃ p ys,xs = [.ref p] ∧ (iC X.K H p ys ∨ ig X.K H p ys) ∧ Q (.int ys.length) H):=by
 intro af s σ H xs us Q I r h
 obtain ⟨p,ys,rfl,hq,q⟩:=h
 obtain ⟨u,rfl,rx⟩:=vals1 r
 cases rx
 have hn:=k_
 rcases hq with hq | hq
 ·obtain ⟨aH,r',pl,hz⟩:=I.list hq
  have hlen:=r'.length
  exact Calls.call_len_list pl.isList (by simp only [List.size_toArray] <;> lia) ⟨.int ys.length,H,I.tok _,⟨s.toks + 1,by rw [List.size_toArray,hlen]⟩,q⟩
 ·obtain ⟨aH,r',pl,hz⟩:=I.tuple hq
  have hlen:=r'.length
  exact len_tuple pl (by simp only [List.size_toArray] <;> lia) ⟨.int ys.length,H,I.tok _,⟨s.toks + 1,by rw [List.size_toArray,hlen]⟩,q⟩
theorem oU:aU X (.builtin "len") (fun xs H Q => ∃ z,xs = [.str z] ∧ z.length ≤ sizeLine ∧ Q (.int z.length) H):=by
 intro af s σ H xs us Q I r h
 obtain ⟨z,rfl,hz,q⟩:=h
 obtain ⟨u,rfl,t,rfl⟩:=vals1 r
 have hn:=k_
 exact len_str (by lia) ⟨.int z.length,H,I.tok _,⟨_,rfl⟩,q⟩
theorem aU.or {f:Value} {r r':List V → Hp → VK → Prop} (h:aU X f r) (h':aU X f r'):aU X f (fun xs H Q => r xs H Q ∨ r' xs H Q):=by
 intro af s σ H xs us Q I rs q
 rcases q with q | q
 ·exact h af s σ H xs us Q I rs q
 ·exact h' af s σ H xs us Q I rs q
theorem oV:aU X (.type "list") (fun xs H Q => ∃ p ys,xs = [.ref p] ∧ (iC X.K H p ys ∨ ig X.K H p ys) ∧ ∀ l,H l = none → Q (.ref l) (upd H l (.lst ys))):=by
 intro af s σ H xs us Q I r h
 obtain ⟨p,ys,rfl,hq,q⟩:=h
 obtain ⟨u,rfl,rx⟩:=vals1 r
 cases rx
 have fin:∀ (aH:List Value),aR ys aH → ys.length ≤ sizeLine → ∀ (h':Heap) (c':Nat),(∀ b o',s.heap.get? b = some o' → h'.get? b = some o') →
   h'.get? s.heap.objs.size = some { cls:=.type "list",dict:=none,data:=.seq aH.toArray c',slots:=#[] } → EP X af σ Q (.ref s.heap.objs.size) { s with heap:=h' }:=fun aH r' hz h' c' kp e =>
  ⟨.ref s.heap.objs.size,_,I.laid (t':=s.toks) kp (Nat.le_refl _) (show bL X.prog X.w _ h' _ (.lst ys) from ⟨hz,aH,c',r',e⟩),rfl,q _ (I.bt.fresh (Nat.le_refl _))⟩
 rcases hq with hq | hq
 ·obtain ⟨aH,r',pl,hz⟩:=I.list hq
  have hlen:=r'.length
  obtain ⟨o,ho,hc,n,hd⟩:=pl.isList
  exact call_list_seq p (.inl rfl) ho hc hd (fun h' c' kp e => fin aH r' hz h' c' kp e) (by simp only [List.size_toArray] <;> lia)
 ·obtain ⟨aH,r',pl,hz⟩:=I.tuple hq
  have hlen:=r'.length
  obtain ⟨o,ho,hc,n,hd⟩:=pl
  exact call_list_seq p (.inr rfl) ho hc hd (fun h' c' kp e => fin aH r' hz h' c' kp e) (by simp only [List.size_toArray] <;> lia)
theorem mX:aU X (.type "tuple") (fun xs H Q => ∃ p ys,xs = [.ref p] ∧ ((iC X.K H p ys ∧ ∀ l,H l = none → Q (.ref l) (upd H l (.tup ys))) ∨ (ig X.K H p ys ∧ Q (.ref p) H))):=by
 intro af s σ H xs us Q I r h
 obtain ⟨p,ys,rfl,h⟩:=h
 obtain ⟨u,rfl,rx⟩:=vals1 r
 cases rx
 rcases h with ⟨hq,q⟩ | ⟨hq,q⟩
 ·obtain ⟨aH,r',pl,hz⟩:=I.list hq
  have hlen:=r'.length
  refine call_tuple_list pl.isList (fun h' kp => ?_) (by simp only [List.size_toArray] <;> lia)
  have I1:aG X af σ H { s with heap:=h' }:=I.kept (t':=s.toks) kp
  have I2:aG X af σ (upd H h'.objs.size (.tup ys)) { s with heap:=h'.push { cls:=.type "tuple",data:=.seq aH.toArray } } :=
   I1.laid (t':=s.toks) (fun b o e => Heap.get?_push_of_some _ e) (Nat.le_refl _) (show bL X.prog X.w _ _ _ (.tup ys) from ⟨hz,aH,r',IsTup.new _ _⟩)
  exact ⟨.ref h'.objs.size,_,I2,rfl,q _ (I1.bt.fresh (Nat.le_refl _))⟩
 ·obtain ⟨aH,r',pl,hz⟩:=I.tuple hq
  exact call_tuple_same pl ⟨.ref p,H,I,rfl,q⟩
noncomputable def JY (K:PySem.W.Frag) (T:String) (x:V) (H:Hp):Prop:=match x with
 | .str _ => T = "str"
 | .int _ => T = "int"
 | .ref p => (T = "list" ∧ ∃ xs,iC K H p xs) ∨ (T = "tuple" ∧ ∃ o,K.lookup p = some o ∧ o.cls = .type "tuple" ∧ o.dict = none) ∨
   (T = "dict" ∧ ((∃ aD,H p = some (.dK aD)) ∨ ∃ aD,H p = some (.dT aD))) ∨ (T = "set" ∧ ∃ S n,H p = some (.set S n))
 | _ => False
theorem xY {af:List (Addr × Obj)} {σ:St} {H:Hp} {s:Shared} {T:String} {x:V} {v:Value} (I:aG X af σ H s) (r:bc x v) (ty:JY X.K T x H) :
  s.TypeIs v T ∧ ∀ a,v = .ref a → ∃ ob,s.heap.get? a = some ob ∧ ob.dict = none:=by
 cases x with
 | str z =>
  obtain ⟨t,rfl⟩:=r
  cases (show T = "str" from ty)
  exact ⟨typeIs_str s z t,fun _ e => nomatch e⟩
 | int i =>
  obtain ⟨t,rfl⟩:=r
  cases (show T = "int" from ty)
  exact ⟨typeIs_int s i t,fun _ e => nomatch e⟩
 | ref p =>
  cases r
  rcases ty with ⟨rfl,xs,hq⟩ | ⟨rfl,o,hk,hc,hd⟩ | ⟨rfl,hk⟩ | ⟨rfl,S,n,hk⟩
  ·obtain ⟨aH,_,pl,_⟩:=I.list hq
   refine ⟨pl.isList.typeIs,fun a e => ?_⟩
   cases e
   obtain ⟨o,n,e,c,hd,_⟩:=pl
   exact ⟨o,e,hd⟩
  ·refine ⟨⟨o,I.iJ p o hk,hc⟩,fun a e => ?_⟩
   cases e
   exact ⟨o,I.iJ _ o hk,hd⟩
  ·have z:∃ o,s.heap.get? p = some o ∧ o.ExactDict:=by
    rcases hk with ⟨aD,hk⟩ | ⟨aD,hk⟩
    ·obtain ⟨_,_,_,_,o,_,_,e,ex,_⟩:=I.bt p _ hk
     exact ⟨o,e,ex⟩
    ·obtain ⟨_,_,_,_,o,_,_,e,ex,_⟩:=I.bt p _ hk
     exact ⟨o,e,ex⟩
   obtain ⟨o,e,ex⟩:=z
   refine ⟨⟨o,e,ex.1⟩,fun a e2 => ?_⟩
   cases e2
   exact ⟨o,e,ex.2.1⟩
  ·obtain ⟨o,_,_,_,e,ex,_⟩:=I.bt p _ hk
   refine ⟨⟨o,e,ex.1⟩,fun a e2 => ?_⟩
   cases e2
   exact ⟨o,e,ex.2.1⟩
 | _ => exact False.elim ty
noncomputable def La (K:PySem.W.Frag) (T:String) (r:V → List V → Hp → VK → Prop) (to:TE):TE:=fun σ H Q => to σ H fun x H1 => JY K T x H1 ∧ r x [] H1 Q
noncomputable def Ov (K:PySem.W.Frag) (T:String) (r:V → List V → Hp → VK → Prop) (to:TE) (t:TA):TE:=fun σ H Q => to σ H fun x H1 => JY K T x H1 ∧ t σ H1 fun xs H2 => r x xs H2 Q
variable {o e:Expr} {es:List Expr} {to:TE} {t:TA} {name:Str} {apos bO:Pos} {T id:String} {r:V → List V → Hp → VK → Prop}
theorem EL (pa:PlainAttrs T) (slot:Slot T name id) (EM:typeOf (.builtin id) = pure (.type "method_descriptor")) (hm:Nt X id r) (ho:PE X o to)
  (eQ:attributeBase o name X.env (eval o X.env) = eval o X.env:=by rfl) (eR:(apos.endLine == bO.line) = true:=by rfl):PE X (.Call (.Attribute o name apos) [] [] bO) (La X.K T r to):=by
 intro af s σ H Q I h
 refine wpAny_Call_method0_late eQ eR (cJ (ho af s σ H _ I h) fun v s1 ⟨x,H1,I1,r1,ty,q1⟩ => ?_)
 obtain ⟨h1,h2⟩:=xY I1 r1 ty
 exact ⟨T,id,pa,slot,EM,h1,h2,Calls.callWith_builtin rfl (PySem.evalArgs_none (hm af s1 σ H1 x [] v [] Q I1 r1 .nil q1))⟩
theorem HS (pa:PlainAttrs T) (slot:Slot T name id) (EM:typeOf (.builtin id) = pure (.type "method_descriptor")) (hm:Nt X id r) (ho:PE X o to) (ha:PA X (e :: es) t)
  (eQ:attributeBase o name X.env (eval o X.env) = eval o X.env:=by rfl)
  (sA:((backTo bO (starEach (e :: es) X.env)).all (fun x => !x.1) && (backToKw bO (keywordEach [] X.env)).all (fun x => x.1.isSome)
   && decide ((e :: es).length + ([]:List Keyword).length + (if ([]:List Keyword).isEmpty then 0 else 1) < 30)) = true:=by rfl)
  (eR:(apos.endLine == bO.line) = true:=by rfl) (hs:starEach (e :: es) X.env = (false,eval e X.env) :: starEach es X.env:=by rfl) (iL:(backTo bO (starEach es X.env)).any (·.1) = false:=by rfl) :
  PE X (.Call (.Attribute o name apos) (e :: es) [] bO) (Ov X.K T r to t):=by
 intro af s σ H Q I h
 refine wpAny_Call_method_late eQ sA eR rfl (cJ (ho af s σ H _ I h) fun v s1 ⟨x,H1,I1,r1,ty,q1⟩ => ?_)
 obtain ⟨h1,h2⟩:=xY I1 r1 ty
 refine ⟨T,id,pa,slot,EM,h1,h2,?_⟩
 have hA:=ha bO af s1 σ H1 _ I1 q1
 rw [hs] at hA ⊢
 refine Calls.callWith_builtin (by show (false || (backTo bO (starEach es X.env)).any (·.1)) = false; rw [iL] <;> rfl) (Calls.evalArgs_plain ?_)
 exact cJ hA fun us s2 ⟨vs,H2,I2,r2,q2⟩ => hm af s2 σ H2 x vs v us Q I2 r1 r2 q2
end
end L2
namespace L2
open PySem PySem.Spec PyProof.Rows
noncomputable def xZ (X:Cx) (id:String) (r:V → List V → Hp → VK → Prop):Prop :=
 ∀ (af:List (Addr × Obj)) (s:Shared) (σ:St) (H:Hp) (x:V) (xs:List V) (v:Value) (us:List Value) (Q:VK),aG X af σ H s → bc x v → aR xs us → r x xs H Q →
  wpAny (model X.prog X.w) X.A (call (.builtin id) (v :: us)) (EP X af σ Q) X.xe s
theorem aR.one {x:V} {us:List Value} (p:aR [x] us):∃ u,us = [u] ∧ bc x u:=by
 cases p with
 | cons r t => cases t; exact ⟨_,rfl,r⟩
theorem aR.two {x y:V} {us:List Value} (p:aR [x,y] us):∃ u v,us = [u,v] ∧ bc x u ∧ bc y v:=by
 cases p with
 | cons r t =>
  obtain ⟨v,z,q⟩:=aR.one t
  rw [z]
  exact ⟨_,v,rfl,r,q⟩
theorem aR.zero:∀ {us:List Value},aR [] us → us = []
 | _,.nil => rfl
theorem aR.rep {xs:List V} {us:List Value} (h:aR xs us):∀ k:Nat,aR (List.replicate k xs).flatten (List.replicate k us).flatten
 | 0 => .nil
 | k + 1 => by
  rw [List.replicate_succ,List.replicate_succ,List.flatten_cons,List.flatten_cons]
  exact aR.append h (aR.rep h k)
theorem foldl_rep (aH:List Value):∀ (k:Nat) (acc:List Value),
  List.foldl (fun x1 x2 => x1 ++ x2) acc.toArray (List.replicate k aH.toArray) = (acc ++ (List.replicate k aH).flatten).toArray
 | 0,acc => by simp
 | k + 1,acc => by
  have e:acc.toArray ++ aH.toArray = (acc ++ aH).toArray:=by simp
  have e2:(acc ++ aH) ++ (List.replicate k aH).flatten = acc ++ (List.replicate (k + 1) aH).flatten:=by
   rw [List.replicate_succ,List.flatten_cons,List.append_assoc]
  rw [← e2,← foldl_rep aH k (acc ++ aH),← e,List.replicate_succ,List.foldl_cons]
section
variable {X:Cx} {af:List (Addr × Obj)} {σ:St} {H:Hp} {s:Shared} {l b:Addr} {xs ys zs:List V}
theorem aG.HU {aH its':List Value} {n:Nat} {f:Array Value → Array Value} {t':Nat} (I:aG X af σ H s) (hH:H l = some (.lst xs))
  (e:s.heap.get? l = some { cls:=.type "list",data:=.seq aH.toArray n }) (hf:f aH.toArray = its'.toArray) (hv:aR ys its') (hz:ys.length ≤ sizeLine) :
  aG X af σ (upd H l (.lst ys)) { s with heap:=s.heap.update l (Obj.mapSeq f),toks:=t' }:=by
 have q:=PySem.IsL.update e f
 rw [hf] at q
 refine I.write (x:=l) (e:=l) (by rw [hH]; exact trivial) (.inl rfl) (fun b' u hb hu => (Heap.get?_update_other s.heap (Obj.mapSeq f) (Ne.symm hb)).trans hu) ⟨_,q⟩ ?_
 exact ⟨hz,its',_,hv,q⟩
theorem aG.HV {aH:List Value} {t':Nat} (I:aG X af σ H s) (hv:aR ys aH) (hz:ys.length ≤ sizeLine) :
  aG X af σ (upd H s.heap.objs.size (.lst ys)) { s with heap:=s.heap.push { cls:=.type "list",data:=.seq aH.toArray },toks:=t' } :=
 I.laid (fun _ _ q => Heap.get?_push_of_some _ q) (Nat.le_refl _) ⟨hz,aH,0,hv,Heap.get?_push_size _ rfl⟩
theorem aG.fresh (I:aG X af σ H s):H s.heap.objs.size = none:=I.bt.fresh (Nat.le_refl _)
theorem aG.vJ (I:aG X af σ H s) (hH:H l = some (.lst xs)):xs.length ≤ sizeLine ∧ ∃ (aH:List Value) (n:Nat),aR xs aH ∧ xs.length = aH.length ∧ s.heap.get? l = some { cls:=.type "list",data:=.seq aH.toArray n }:=by
 obtain ⟨z,aH,n,r,e⟩:=I.bt l _ hH
 exact ⟨z,aH,n,r,r.length,e⟩
theorem p8 {n:Nat} (h:n ≤ sizeLine):Builtin.List.listTooLong n = false:=by
 unfold Builtin.List.listTooLong
 exact decide_eq_false (by lia)
end
section
variable {X:Cx}
noncomputable def A7:V → List V → Hp → VK → Prop:=fun x vs H Q => ∃ l xs y,x = .ref l ∧ vs = [y] ∧ H l = some (.lst xs) ∧ xs.length < sizeLine ∧ Q .bE (upd H l (.lst (xs ++ [y])))
theorem vK:xZ X "list.append" A7:=by
 intro af s σ H x vs v us Q I rx rv h
 obtain ⟨l,xs,y,rfl,rfl,hH,hz,q⟩:=h
 cases rx
 obtain ⟨u,rfl,ru⟩:=rv.one
 obtain ⟨z,aH,n,r,hl,e⟩:=I.vJ hH
 refine call_meets F.slot_list_append ⟨_,e,rfl⟩ F.entry_list_append (F.args_list_append_2 _ _) (PySem.list_append l aH.toArray n u (by rw [List.size_toArray]; lia)) ⟨e,?_⟩
 refine ⟨.bE,_,I.HU (its':=aH ++ [u]) hH e (by simp) (r.append (.cons ru .nil)) ?_,rfl,q⟩
 rw [List.length_append,List.length_singleton]
 lia
noncomputable def A8:V → List V → Hp → VK → Prop:=fun x vs H Q => ∃ l b xs zs,x = .ref l ∧ vs = [.ref b] ∧ H l = some (.lst xs) ∧ H b = some (.lst zs) ∧ xs.length + zs.length ≤ sizeLine ∧ Q .bE (upd H l (.lst (xs ++ zs)))
theorem vL:xZ X "list.extend" A8:=by
 intro af s σ H x vs v us Q I rx rv h
 obtain ⟨l,b,xs,zs,rfl,rfl,hH,hB,hz,q⟩:=h
 cases rx
 obtain ⟨u,rfl,ru⟩:=rv.one
 cases ru
 obtain ⟨z,aH,n,r,hl,e⟩:=I.vJ hH
 obtain ⟨z2,cK,n2,r2,mY,e2⟩:=I.vJ hB
 have hsz:aH.toArray.size + cK.toArray.size ≤ sizeLine:=by rw [List.size_toArray,List.size_toArray]; lia
 have x_:¬ (!aH.toArray.isEmpty && Builtin.List.listTooLong (aH.toArray.size + cK.toArray.size)) = true:=by
  rw [p8 hsz,Bool.and_false]
  exact Bool.false_ne_true
 refine call_meets F.slot_list_extend ⟨_,e,rfl⟩ F.entry_list_extend (F.args_list_extend_2 _ _)
  (AutoSeq1.list_extend_list_list_0 l aH.toArray n b cK.toArray n2 x_ (by rw [List.size_toArray]; lia) (by lia)) ⟨e,e2,?_⟩
 refine ⟨.bE,_,I.HU (its':=aH ++ cK) hH e (by simp) (r.append r2) ?_,rfl,q⟩
 rw [List.length_append]
 lia
noncomputable def Lb:R2:=fun x y H Q => ∃ l b xs zs,x = .ref l ∧ y = .ref b ∧ H l = some (.lst xs) ∧ H b = some (.lst zs) ∧ xs.length + zs.length ≤ sizeLine ∧ ∀ p,H p = none → Q (.ref p) (upd H p (.lst (xs ++ zs)))
theorem EN:cV X (binaryOp .Add) Lb:=by
 intro af s σ H x y v u Q I rx ry h
 obtain ⟨l,b,xs,zs,rfl,rfl,hH,hB,hz,q⟩:=h
 cases rx
 cases ry
 obtain ⟨z,aH,n,r,hl,e⟩:=I.vJ hH
 obtain ⟨z2,cK,n2,r2,mY,e2⟩:=I.vJ hB
 refine PySem.P.add_list e e2 ?_ (by rw [List.size_toArray,List.size_toArray]; lia)
 have ea:aH.toArray ++ cK.toArray = (aH ++ cK).toArray:=by simp
 rw [ea]
 exact ⟨.ref _,_,I.HV (t':=s.toks) (r.append r2) (by rw [List.length_append]; lia),rfl,q _ I.fresh⟩
noncomputable def Lc:R2:=fun x y H Q => ∃ l k xs,x = .ref l ∧ y = .int k ∧ H l = some (.lst xs) ∧ -(2 ^ 63) ≤ k ∧ k < 2 ^ 63 ∧ xs.length * k.toNat ≤ sizeLine ∧
 ∀ p,H p = none → Q (.ref p) (upd H p (.lst (List.replicate k.toNat xs).flatten))
theorem len_rep {α:Type} (xs:List α) (k:Nat):(List.replicate k xs).flatten.length = k * xs.length:=by
 induction k with
 | zero => simp
 | succ k ih => rw [List.replicate_succ,List.flatten_cons,List.length_append,ih,Nat.succ_mul,Nat.add_comm]
theorem EO:cV X (binaryOp .Mult) Lc:=by
 intro af s σ H x y v u Q I rx ry h
 obtain ⟨l,k,xs,rfl,rfl,hH,h1,h2,hz,q⟩:=h
 cases rx
 obtain ⟨t,rfl⟩:=ry
 obtain ⟨z,aH,n,r,hl,e⟩:=I.vJ hH
 have hlen:aH.toArray.size * k.toNat ≤ sizeLine:=by rw [List.size_toArray,← hl]; exact hz
 have ER:¬ aH.toArray.size * k.toNat > (2 ^ 63 - 1) / 8:=by
  have:(sizeLine:Nat) ≤ (2 ^ 63 - 1) / 8:=by decide
  lia
 have HW:¬ (!Builtin.List.listFitsIndex k) = true:=by
  rw [fitsIndex_both h1 h2]
  exact Bool.false_ne_true
 have x_:¬ Builtin.List.listTooLong (aH.toArray.size * k.toNat) = true:=by
  rw [p8 hlen]
  exact Bool.false_ne_true
 have Ld:List.foldl (fun x1 x2 => x1 ++ x2) #[] (List.replicate (if aH.toArray.isEmpty = true then 0 else k.toNat) aH.toArray) = (List.replicate k.toNat aH).flatten.toArray:=by
  have f0:∀ m:Nat,List.foldl (fun x1 x2 => x1 ++ x2) #[] (List.replicate m aH.toArray) = (List.replicate m aH).flatten.toArray:=fun m => by
   have:=foldl_rep aH m []
   rw [List.nil_append] at this
   exact this
  rw [f0]
  cases aH with
  | nil => simp
  | cons a r' => rw [if_neg (by simp)]
 refine wpAny_binaryOp_repeat_ref (T:="list") (U:="int") (by decide) ⟨_,e,rfl⟩ (fun s' => typeIs_int s' k t) noFill_list_mul F.fills_int_mul F.slot_int_rmul repeat_list F.slot_int_index.lookup
  (call_meets F.slot_int_rmul (typeIs_int s k t) F.entry_int_rmul (F.args_int_rmul_2 _ _) (int___rmul___int_list k t l aH.toArray n)
   ⟨e,rfl,⟨_,e,rfl⟩,call_meets F.slot_list_mul ⟨_,e,rfl⟩ F.entry_list_mul (F.args_list_mul_2 _ _) (AutoListH.list___mul___list_int_3 l aH.toArray n k t HW ER x_) ⟨e,?_⟩⟩)
 rw [Ld]
 exact ⟨.ref _,_,I.HV (t':=s.toks) (r.rep k.toNat) (by rw [len_rep,Nat.mul_comm]; exact hz),rfl,q _ I.fresh⟩
end
section
variable {prog:Program} {w:World} {A:Around} {E:Value → Shared → Prop} {s:Shared}
set_option maxRecDepth 100000 in
end
end L2
namespace Nv
open PySem PySem.W PySem.Calls PyProof.Rows
theorem ku {P:Params} {h:Heap}:∀ (ns:List Int) (vs:List Value),WellAll P h vs (ns.map WData.int) → IntsAre vs ns:=by
 intro ns
 induction ns with
 | nil =>
  intro vs w
  rw [List.map_nil] at w
  cases w
  exact .nil
 | cons n ns ih =>
  intro vs w
  rw [List.map_cons] at w
  cases w with
  | cons a b =>
   cases a
   exact .cons _ _ (ih _ b)
theorem vM {l:OpenLaw} {n:Nat} (hn:l.most = some n) {P:Params} {h:Heap} {args:List WData} {vals:List Value}
  (A9:l.row.toRowW.claim.pre args = true) (Le:WellAll P h vals args) :
  ∃ a vs ns,vals = [Value.ref a] ∧ args = [WData.list (ns.map WData.int)] ∧ h.get? a = some { cls:=.type "list",data:=.seq vs.toArray } ∧ IntsAre vs ns ∧ ns.length ≤ n:=by
 have vN:WShape.hasAll [] args [.list .int] = true:=(pre_splitW A9).1
 have hc:l.pre.holds [] { args:=args } = true:=(pre_splitW A9).2
 obtain ⟨d,r,rfl,h1,h2⟩:=hasAllW_cons vN
 obtain rfl:=hasAllW_nil h2
 obtain ⟨xs,rfl,h3⟩:=hasW_list h1
 obtain ⟨ns,rfl⟩:=items_int h3
 have hlen:ns.length ≤ n:=by
  unfold OpenLaw.pre at hc
  have h4:(WTm.not (.lt (.lit (.int (n:Int))) (.len (.arg 0)))).holds [] { args:=[.list (ns.map .int)] } = true:=by
   have h4:=(holds_andW hc).1
   rw [hn] at h4
   exact h4
  have h5:=condW_of h4 (w_not (w_lt w_lit (w_len_list (w_arg rfl))))
  rw [List.length_map] at h5
  refine Nat.le_of_not_lt fun q => ?_
  have q':(n:Int) < ((ns.length:Nat):Int):=by lia
  first
   | (rw [decide_eq_true q'] at h5; exact absurd h5 (by decide))
   | (simp at h5; lia)
 cases Le with
 | cons w1 w2 =>
  cases w2
  cases w1 with
  | list ho ES => exact ⟨_,_,ns,rfl,rfl,ho,ku ns _ ES,hlen⟩
theorem vO (l:OpenLaw) (args:List WData):l.row.toRowW.claim.post args (.bool true) args = true :=
 postW_of (r:=l.row.toRowW) (X:=(true == true))
  (show WShape.has [] (.bool true) .bool = true by first | rfl | decide | simp [WShape.has,WShape.arms,WShape.armsAll])
  (show (WTm.eq .res (.lit (.bool true))).value [] { args:=args,res:=some (.bool true),after:=args } = some (.bool (true == true)) from w_eq_bool (w_res rfl) w_lit) rfl
theorem p9 {l:OpenLaw} {n:Nat} {q:Program} {loose:List Str} {XP:(Str → Option Value) → Heap → Prop} {YP:World → Heap → Prop} {d:DefRec}
  (hn:l.most = some n) (HX:d.params.defaults = [])
  (call:∀ (w:World) (s₀ s₁:Shared) (mg mb:Str → Option Value) (fa:Addr) (o:Obj) (pm cd doc:Value) (a:Addr) (vs:List Value) (ns:List Int),
   Ground q loose [] XP w s₀ mg mb s₁.heap → YP w s₁.heap →
   s₁.heap.get? fa = some o → o.data = .func (docDef d.name d.params d.body d.scope pm cd doc) → s₁.heap.CodeRec cd d.name → mg d.name = some (.ref fa) →
   s₁.heap.get? a = some { cls:=.type "list",data:=.seq vs.toArray } → IntsAre vs ns → ns.length ≤ n → s₁.gens = #[] →
   codeAny (model l.prog w) callerA (.call (.ref fa) ⟨[.ref a],[]⟩) (fun r s' => r = .ok (.ret (.bool true)) ∧ OldK s₁.heap s'.heap ∧ s'.os = s₁.os ∧ AllBare s'.gens) s₁) :
  WalkO q loose XP YP l.row.toRowW d [] (fun f vs => PySem.call f vs):=by
 intro w s₀ s₁ mg mb G Y fa o pm cd doc dV kV ho hd pZ hD HY hg args vals as A9 Ow Qg Le Qh
 obtain rfl:dV = .none:=Dflts.none hD HX
 obtain rfl:kV = .none:=Dflts.noKw hD
 obtain ⟨a,vs,ns,rfl,rfl,ET,hints,hlen⟩:=vM hn A9 Le
 refine enter_call (codeAny_mono (call w s₀ s₁ mg mb fa o pm cd doc a vs ns G Y ho (fd_plain hd) pZ HY ET hints hlen hg) fun r s' hq => ?_)
 obtain ⟨rfl,h2,h3,h4⟩:=hq
 exact ⟨.inl ⟨.bool true,.bool true,[],rfl,fun _ => rfl,.bool true,vO l _,fun _ => ⟨List.Pairwise.nil,fun _ hm => (nomatch hm)⟩⟩,h2,h3,h4⟩
end Nv
namespace L2
open PySem PySem.Spec PyProof.Rows
theorem nT:∀ {vs:List Value} {ns:List Int},IntsAre vs ns → aR (ns.map V.int) vs
 | _,_,.nil => .nil
 | _,_,.cons n t h => .cons ⟨t,rfl⟩ (nT h)
noncomputable def A_ (H:Hp):Prop:=∀ b,H b = none ∨ ∃ o xs,H b = some (.fh o (.lst xs))
theorem x! {P:Program} {w:World} {K:PySem.W.Frag} {mg mb:Str → Option Value} {CX:rQ} {k:Nat} {fa a:Addr} {fd:FuncData} {x:Str} {sp:Sp} {s₁:Shared} {vs:List Value} {ns:List Int}
  (KX:K.In s₁.heap) (p_:s₁.heap.Ns mainGlobals mg) (hb:s₁.heap.Ns builtinsNs mb) (Ox:∀ x:Str,x ≠ "__name__" → mb x = bootBuiltins x) (Lf:s₁.heap.NoLimit) (hg:s₁.gens = #[])
  (ha:s₁.heap.get? a = some { cls:=.type "list",data:=.seq vs.toArray }) (hi:IntsAre vs ns) (hl:ns.length ≤ sizeLine) (hr:cL k callerA)
  (F:∀ base:Heap,K.In base → base.Ns mainGlobals mg → d8 P w K mg base CX k fa fd [x] sp) (HZ:∀ (s:Shared) (u:Value),BindsTo s fd ⟨[u],[]⟩ [(x,u)])
  (Dh:∀ H:Hp,A_ H → iC K H a (ns.map V.int) → sp [.ref a] H (fun v _ => v = .bl true) fun _ _ _ => False)
  (Lg:∀ H e s',CX [] H s₁ (fun _ _ _ => False) e s' → False) :
  codeAny (model P w) callerA (.call (.ref fa) ⟨[.ref a],[]⟩) (fun r s' => r = .ok (.ret (.bool true)) ∧ OldK s₁.heap s'.heap ∧ s'.os = s₁.os ∧ AllBare s'.gens) s₁:=by
 have rv:=nT hi
 have Lh:=hi.length
 -- from an abstract heap in Nw nothing but An EU may be tracked
 have core:∀ H:Hp,A_ H → iC K H a (ns.map V.int) → fS P w H s₁.heap → (∀ b,H b ≠ none → b = a) → (H a ≠ none → K.lookup a = none) →
   codeAny (model P w) callerA (.call (.ref fa) ⟨[.ref a],[]⟩) (fun r s' => r = .ok (.ret (.bool true)) ∧ OldK s₁.heap s'.heap ∧ s'.os = s₁.os ∧ AllBare s'.gens) s₁:=by
  intro H hO hS bt hA hK
  have uq:∀ {b:Addr} {o:Obj},s₁.heap.get? b = some o → H b = none → (oI s₁.heap H).get? b = some o:=fun e n => xA e n
  have HI:∀ {b:Addr} {o:Obj} {es:Array DictEntry} {ep:Nat},s₁.heap.get? b = some o → o.data = .dict es ep → H b = none:=fun {b o es ep} e d => by
   cases q:H b with
   | none => rfl
   | some u =>
    have e':b = a:=hA b (by rw [q]; simp)
    subst e'
    rw [ha] at e; cases e
    have d':Data.seq vs.toArray _ = Data.dict es ep:=d
    cases d'
  have JZ:∀ {b:Addr} {m:Str → Option Value},s₁.heap.Ns b m → (oI s₁.heap H).Ns b m:=fun {b m} ⟨o,es,ep,e,d,r⟩ => ⟨o,es,ep,uq e (HI e d),d,r⟩
  have Nx:K.In (oI s₁.heap H):=fun b o e => uq (KX b o e) (by
   cases q:H b with
   | none => rfl
   | some u =>
    have e':b = a:=hA b (by rw [q]; simp)
    subst e'
    rw [hK (by rw [q]; simp)] at e; cases e)
  have hM:Mod K mg (oI s₁.heap H):=⟨Nx,JZ p_,⟨mb,JZ hb,Ox⟩,let ⟨mc,h1,h2⟩:=Lf; ⟨mc,JZ h1,h2⟩⟩
  have e0:so P w K mg (oI s₁.heap H) callerA [] s₁ H:=⟨rfl,hM,fun b o e => Ay e,Nat.le_of_eq (vv _ _),trivial,fun b hb => absurd (show b ∈ ([]:List Addr) from hb) (by simp),bt,.of_eq hg⟩
  refine codeAny_mono ((F _ Nx (JZ p_)).run callerA [] s₁ H ⟨[.ref a],[]⟩ [.ref a] [.ref a] _ _ hr e0 (HZ s₁ (.ref a)) (.cons rfl .nil) (Dh H hO hS)) fun r s' h => ?_
  cases r with
  | error e => exact (Lg H e s' h).elim
  | ok fl =>
   cases fl with
   | next => exact False.elim h
   | brk => exact False.elim h
   | cont => exact False.elim h
   | ret u =>
    obtain ⟨v,H',os,bare,un,Li,r',q⟩:=h
    have q':v = .bl true:=q
    subst q'
    obtain rfl:u = Value.bool true:=r'
    refine ⟨rfl,OldK.of_keep fun b o e => ?_,os,bare⟩
    cases q:H b with
    | none => exact un.keep b o e q (by intro z; exact absurd (show b ∈ ([]:List Addr) from z) (by simp)) (by simp)
    | some u =>
     rcases hO b with z | ⟨ob,xs,z⟩
     ·rw [q] at z; cases z
     ·have z2:=un.ic b ob _ z
      obtain ⟨e1,_⟩:=bt b _ z
      obtain ⟨e2,_⟩:=Li b _ z2
      rw [e] at e1; cases e1
      exact e2
 cases hk:K.lookup a with
 | some o =>
  -- An EU is one of An H9 own objects
  have e:=KX a o hk
  rw [ha] at e
  cases e
  refine core (fun _ => none) (fun _ => .inl rfl) (.inr ⟨_,vs.toArray,_,hk,rfl,rfl,rfl,by rw [List.size_toArray,Lh]; exact hl,by simpa using rv⟩) (fun b u z => by have z':(none:Option HO) = some u:=z; cases z') (fun b z => absurd rfl z) fun z => absurd rfl z
 | none =>
  refine core (fun b => if b = a then some (.fh { cls:=.type "list",data:=.seq vs.toArray } (.lst (ns.map V.int))) else none) (fun b => ?_) (.inl (.inr ⟨{ cls:=.type "list",data:=.seq vs.toArray },if_pos rfl⟩)) (fun b u z => ?_) (fun b z => ?_) fun _ => hk
  ·by_cases hb:b = a
   ·exact .inr ⟨_,_,if_pos hb⟩
   ·exact .inl (if_neg hb)
  ·by_cases hb:b = a
   ·have z':=(if_pos hb).symm.trans z
    cases z'
    subst hb
    exact ⟨ha,by rw [List.length_map]; exact hl,vs,_,rv,ha⟩
   ·have z':=(if_neg hb).symm.trans z
    cases z'
  ·by_cases hb:b = a
   ·exact hb
   ·exact absurd (if_neg hb) z
end L2
namespace L2
open PySem PySem.Spec PyProof.Rows
theorem A! {l:PySem.W.OpenLaw} {n k:Nat} {q:Program} {loose:List Str} {XP:(Str → Option Value) → Heap → Prop} {YP:World → Heap → Prop} {d:DefRec} {K:Params → PySem.W.Frag} {CX:World → rQ} {sp:World → Sp} {x:Str}
  (hn:l.most = some n) (JT:n ≤ sizeLine) (HX:d.params.defaults = []) (hr:cL k callerA)
  (hY:∀ (w:World) (h:Heap),YP w h → (K w.params).In h)
  (F:∀ (w:World) (mg:Str → Option Value) (fa:Addr) (h:Heap),(K w.params).In h → h.Ns mainGlobals mg → mg d.name = some (.ref fa) →
   ∃ fd:FuncData,(∀ (s:Shared) (u:Value),BindsTo s fd ⟨[u],[]⟩ [(x,u)]) ∧
    ∀ base:Heap,(K w.params).In base → base.Ns mainGlobals mg → d8 l.prog w (K w.params) mg base (CX w) k fa fd [x] (sp w))
  (Dh:∀ (w:World) (H:Hp) (a:Addr) (ns:List Int),ns.length ≤ n → A_ H → iC (K w.params) H a (ns.map V.int) → sp w [.ref a] H (fun v _ => v = .bl true) fun _ _ _ => False)
  (Lg:∀ (w:World) (H:Hp) (s:Shared) (e:Value) (s':Shared),CX w [] H s (fun _ _ _ => False) e s' → False) :
  PySem.W.WalkO q loose XP YP l.row.toRowW d [] (fun f vs => PySem.call f vs):=by
 refine Nv.p9 hn HX fun w s₀ s₁ mg mb fa o pm cd doc a vs ns G Y ho hd pZ HY ET hints hlen hg => ?_
 have KX:=hY w _ Y
 obtain ⟨fd,hb,hF⟩:=F w mg fa _ KX G.T.g HY
 exact x! KX G.T.g G.T.b G.T.builtins G.T.nolimit hg ET hints (Nat.le_trans hlen JT) hr hF hb (fun H hO hS => Dh w H a ns hlen hO hS) fun H e s' => Lg w H s₁ e s'
end L2
namespace L2
open PySem PySem.Spec PyProof.Rows
noncomputable def df (s:Stmt):Arguments:=match s with
 | .FunctionDef _ a _ _ _ _ _ _ _ _ => a
 | _ => { posonlyargs:=[],args:=[],vararg:=none,kwonlyargs:=[],kw_defaults:=[],kwarg:=none,defaults:=[] }
noncomputable def b! (s:Stmt):List Stmt:=match s with
 | .FunctionDef _ _ b _ _ _ _ _ _ _ => b
 | _ => []
noncomputable def aE (s:Stmt):Scope:=match s with
 | .FunctionDef _ _ _ _ _ _ sc _ _ _ => sc
 | _ => { kind:=.function,names:=[],isGenerator:=false,isCoroutine:=false }
noncomputable abbrev E0:XK:=fun _ _ _ => False
structure Au (K:PySem.W.Frag) (x qual:Str) (st:Stmt) (f:Addr) (fd:FuncData):Prop where
 ex:∃ (oc:Value) (od:Option Addr) (kV doc pm:Value) (an:Option Addr) (cZ ct:Value) (xl:Array (Option Value)),
  fd = PySem.W.fnOf x qual (df st) (b! st) (aE st) .none kV doc pm an cZ ct ∧ K.lookup f = some ⟨oc,od,.func fd,xl⟩ ∧ PySem.W.codeIn K cZ qual = true
 kp:PySem.W.keepIn K (.ref f) = true
section
variable {P:Program} {w:World} {K:PySem.W.Frag} {mg:Str → Option Value} {base:Heap}
theorem Au.binds {x qual:Str} {st:Stmt} {f:Addr} {fd:FuncData} {ps:List Str} (F:Au K x qual st f fd)
  (h:∀ (kV doc pm:Value) (an:Option Addr) (cZ ct:Value) (us:List Value),us.length = ps.length → bindArgs (PySem.W.fnOf x qual (df st) (b! st) (aE st) .none kV doc pm an cZ ct) ⟨us,[]⟩ = pure (ps.zip us)):Binds K fd ps []:=by
 obtain ⟨oc,od,kV,doc,pm,an,cZ,ct,xl,rfl,lk,pZ⟩:=F.ex
 exact .all (h kV doc pm an cZ ct)
theorem sC {x qual:Str} {st:Stmt} {f:Addr} {oc:Value} {od an:Option Addr} {xl:Array (Option Value)} {kV doc pm cZ ct:Value} (l:K.lookup f = some ⟨oc,od,.func (PySem.W.fnOf x qual (df st) (b! st) (aE st) .none kV doc pm an cZ ct),xl⟩)
  (c:PySem.W.codeIn K cZ qual = true) (k:PySem.W.keepIn K (.ref f) = true):Au K x qual st f (PySem.W.fnOf x qual (df st) (b! st) (aE st) .none kV doc pm an cZ ct):=⟨⟨oc,od,kV,doc,pm,an,cZ,ct,xl,rfl,l,c⟩,k⟩
end
noncomputable def iM (H H':Hp):Prop:=∀ b o,H b = some o → H' b = some o
theorem iM.refl (H:Hp):iM H H:=fun _ _ h => h
end L2
namespace L2
open PySem PySem.Spec PyProof.Rows
section
variable {κ:Type} [DecidableEq κ]
noncomputable def gP (aD:List (κ × V)) (k:κ):Option V:=(aD.find? fun kv => decide (kv.1 = k)).map (·.2)
noncomputable def putK (aD:List (κ × V)) (k:κ) (v:V):List (κ × V) :=
 if (aD.any fun kv => decide (kv.1 = k)) = true then aD.map (fun kv => if kv.1 = k then (kv.1,v) else kv) else aD ++ [(k,v)]
theorem p! {p:κ × V} {r:List (κ × V)} {k:κ} (e:p.1 = k):gP (p :: r) k = some p.2:=by simp [gP,List.find?_cons,e]
theorem p? {p:κ × V} {r:List (κ × V)} {k:κ} (e:¬ p.1 = k):gP (p :: r) k = gP r k:=by simp [gP,List.find?_cons,e]
theorem qa (aD:List (κ × V)) (k:κ) (v:V):(putK aD k v).length ≤ aD.length + 1:=by
 unfold putK
 split
 ·rw [List.length_map]; lia
 ·rw [List.length_append,List.length_cons,List.length_nil]; lia
theorem KV.val {aD:List (κ × V)} {vs:List (κ × Value)} (r:KV aD vs) (k:κ):i_ (gP aD k) (valueAt vs k):=by
 unfold KV at r
 induction r with
 | nil => exact True.intro
 | @cons p q ps qs h t ih =>
  obtain ⟨h1,h2⟩:=h
  by_cases e:p.1 = k
  ·have e':q.1 = k:=h1.symm.trans e
   have b:valueAt (q :: qs) k = some q.2:=by simp [valueAt,List.find?_cons,e']
   rw [p! e,b]; exact h2
  ·have e':¬ q.1 = k:=fun z => e (h1.trans z)
   have b:valueAt (q :: qs) k = valueAt qs k:=by simp [valueAt,List.find?_cons,e']
   rw [p? e,b]; exact ih
theorem KV.any {aD:List (κ × V)} {vs:List (κ × Value)} (r:KV aD vs) (k:κ):(aD.any fun kv => decide (kv.1 = k)) = vs.any fun kv => decide (kv.1 = k):=by
 unfold KV at r
 induction r with
 | nil => rfl
 | cons h t ih => rw [List.any_cons,List.any_cons,ih,h.1]
theorem KV.x? {aD:List (κ × V)} {vs:List (κ × Value)} (r:KV aD vs) (k:κ) {y:V} {u:Value} (ry:bc y u) :
  KV (aD.map fun kv => if kv.1 = k then (kv.1,y) else kv) (vs.map fun kv => if kv.1 = k then (kv.1,u) else kv):=by
 unfold KV at r ⊢
 induction r with
 | nil => exact .nil
 | @cons p q ps qs h t ih =>
  rw [List.map_cons,List.map_cons]
  refine .cons ?_ ih
  obtain ⟨h1,h2⟩:=h
  by_cases e:p.1 = k
  ·rw [if_pos e,if_pos (h1.symm.trans e)]; exact ⟨h1,ry⟩
  ·rw [if_neg e,if_neg (fun z => e (h1.trans z))]; exact ⟨h1,h2⟩
theorem KV.put {aD:List (κ × V)} {vs:List (κ × Value)} (r:KV aD vs) (k:κ) {y:V} {u:Value} (ry:bc y u):KV (putK aD k y) (stored vs k u):=by
 unfold putK stored
 rw [r.any k]
 by_cases e:(vs.any fun kv => decide (kv.1 = k)) = true
 ·rw [if_pos e,if_pos e]; exact r.x? k ry
 ·rw [if_neg e,if_neg e]; exact Paired.snoc r ⟨rfl,ry⟩
theorem KV.length {aD:List (κ × V)} {vs:List (κ × Value)} (r:KV aD vs):aD.length = vs.length:=Paired.length r
end
theorem ya {P:Program} {w:World} {k:cq} {u:Value} (r:bc (kV k) u):(bS P w).is k u = true:=by
 cases k with
 | inl i => obtain ⟨t,e⟩:=(show ∃ t,u = Value.int i t from r); subst e; exact pX P w i t
 | inr x => obtain ⟨t,e⟩:=(show ∃ t,u = Value.str x t from r); subst e; exact pY P w x t
theorem nU {P:Program} {w:World}:∀ {ks:List cq} {us:List Value},aR (ks.map kV) us → ItemsAre (bS P w) ks us
 | [],_,r => by rw [List.map_nil] at r; cases r; exact .nil
 | k :: ks,_,r => by
  rw [List.map_cons] at r
  cases r with
  | cons h t => exact .cons (ya h) (nU t)
noncomputable abbrev KT (H:Hp):List (List cq × V) → List (List cq × Addr × Value) → Prop:=Paired fun p q => p.1 = q.1 ∧ H q.2.1 = some (.tup (p.1.map kV)) ∧ bc p.2 q.2.2
theorem KT.val {H:Hp} {aD:List (List cq × V)} {xs:List (List cq × Addr × Value)} (r:KT H aD xs) (k:List cq):i_ (gP aD k) ((atKey xs k).map (·.2)):=by
 induction r with
 | nil => exact True.intro
 | @cons p q ps qs h t ih =>
  obtain ⟨h1,_,h2⟩:=h
  by_cases e:p.1 = k
  ·have e':q.1 = k:=h1.symm.trans e
   have b:atKey (q :: qs) k = some q.2:=by simp [atKey,List.find?_cons,e']
   rw [p! e,b]; exact h2
  ·have e':¬ q.1 = k:=fun z => e (h1.trans z)
   have b:atKey (q :: qs) k = atKey qs k:=by simp [atKey,List.find?_cons,e']
   rw [p? e,b]; exact ih
section
variable {P:Program} {w:World} {H:Hp} {h:Heap} {a:Addr}
theorem Dk {u:HO} (ok:fS P w H h) (e:Rd H a u):bL P w H h a u:=e.ok ok
theorem nW {aD:List (cq × V)} (ok:fS P w H h) (e:Rd H a (.dK aD)):aD.length ≤ sizeLine ∧ (a == sysModules) = false ∧ ∃ vs,KV aD vs ∧ h.DictOf (bS P w) a vs :=
 show bL P w H h a (.dK aD) from Dk ok e
theorem H_ {aD:List (cq × V)} (ok:fS P w H h) (e:H a = some (.dK aD)):aD.length ≤ sizeLine ∧ (a == sysModules) = false ∧ ∃ vs,KV aD vs ∧ h.DictOf (bS P w) a vs:=nW ok (.inl e)
theorem yb {ks:List cq} (ok:fS P w H h) (e:H a = some (.tup (ks.map kV))):(tupleKind (bS P w)).is h ks a:=by
 obtain ⟨_,aH,r,o,h1,h2,n,h3⟩:=(show bL P w H h a (.tup (ks.map kV)) from ok a _ e)
 exact ⟨o,aH.toArray,n,h1,h2,h3,by simpa using nU r⟩
theorem yc {aD:List (List cq × V)} (ok:fS P w H h) (e:Rd H a (.dT aD)):aD.length ≤ sizeLine ∧ (a == sysModules) = false ∧
  ∃ xs,KT H aD xs ∧ h.DictOfH (tupleKind (bS P w)) a xs:=by
 obtain ⟨z,y,xs,r,o,es,ep,h1,h2,h3,h4,h5⟩:=(show bL P w H h a (.dT aD) from Dk ok e)
 refine ⟨z,y,xs,r,o,es,ep,h1,h2,h3,h4,fun x hx => ?_,h5⟩
 have all:∀ {l:List (List cq × V)} {m:List (List cq × Addr × Value)},KT H l m → ∀ x ∈ m,(tupleKind (bS P w)).is h x.1 x.2.1:=by
  intro l m q
  induction q with
  | nil => intro x hx; exact nomatch hx
  | @cons p q ps qs hq t ih =>
   intro x hx
   rcases List.mem_cons.mp hx with e | hx
   ·subst e
    exact yb ok (by rw [← hq.1]; exact hq.2.1)
   ·exact ih x hx
 exact all r x hx
end
noncomputable def mZ (H:Hp) (a:Addr) (y:V) (r:Option V):Prop :=
 (∃ aD k,Rd H a (.dK aD) ∧ y = kV k ∧ r = gP aD k) ∨ ∃ aD k b,Rd H a (.dT aD) ∧ y = .ref b ∧ H b = some (.tup (k.map kV)) ∧ r = gP aD k
theorem mZ.k {H:Hp} {a:Addr} {aD:List (cq × V)} {k:cq} (e:H a = some (.dK aD)):mZ H a (kV k) (gP aD k):=.inl ⟨aD,k,.inl e,rfl,rfl⟩
theorem mZ.t {H:Hp} {a b:Addr} {aD:List (List cq × V)} {k:List cq} (e:H a = some (.dT aD)) (eb:H b = some (.tup (k.map kV))):mZ H a (.ref b) (gP aD k):=.inr ⟨aD,k,b,.inl e,rfl,eb,rfl⟩
section
variable {X:Cx} {af:List (Addr × Obj)} {σ:St} {H:Hp} {s:Shared} {a:Addr} {y v:V} {u r:Value} {o:Option V} {A:Around} {E:Value → Shared → Prop}
theorem aG.big (I:aG X af σ H s):sysModules < s.heap.objs.size:=by
 have h:mainGlobals < s.heap.objs.size:=(I.mod.glob.keeps I.bk).lt
 exact Nat.lt_trans (by decide) h
theorem vP {Q:Value → Shared → Prop} (hu:A.units + 1 < cLine) (I:aG X af σ H s) (g:mZ H a y (some v)) (ry:bc y u) (h:∀ w' s',aG X af σ H s' → bc v w' → Q w' s') :
  wpAny (model X.prog X.w) A (getItem (.ref a) u) Q E s:=by
 rcases g with ⟨aD,k,e,ey,l⟩ | ⟨aD,k,b,e,ey,eb,l⟩
 ·subst ey
  obtain ⟨z,hd,vs,rel,dd⟩:=nW I.bt e
  obtain ⟨w',hw,vH⟩:=i_.some_of (v:=v) (o:=valueAt vs k) (by rw [l]; exact rel.val k)
  exact wpAny_getItem_of (ya ry) dd.mapOf hw (h w' _ (I.tok _) vH)
 ·subst ey
  cases (show u = Value.ref b from ry)
  obtain ⟨z,hd,xs,rel,dd⟩:=yc I.bt e
  obtain ⟨w',hw,vH⟩:=i_.some_of (v:=v) (o:=(atKey xs k).map (·.2)) (by rw [l]; exact rel.val k)
  obtain ⟨p,hp,Oy⟩:=Option.map_eq_some_iff.mp hw
  refine wpAny_getItem_heap (tupleKind_room_in1 hu) (yb I.bt eb) dd hp ?_
  rw [Oy]
  exact h w' _ (I.tok _) vH
theorem A? {h':Heap} {t':Nat} {ob:HO} (I:aG X af σ H s) (mu:He (H a)) (hs:Heap.SameBut a s.heap h') (he:∃ q,h'.get? a = some q) (new:bL X.prog X.w (upd H a ob) h' a ob) :
  aG X af σ (upd H a ob) { s with heap:=h',toks:=t' } :=
 I.write (x:=a) (e:=a) mu (.inl rfl) (fun b q hb z => (hs.2 b hb).trans z) he new
end
noncomputable def EV (i:Expr):Prop:=∀ ov iv,subscripted i false ov iv = operate [ov,iv] (getItem ov iv)
theorem Ba {prog:Program} {w:World} {A:Around} {E:Value → Shared → Prop} {s:Shared} {env:Env} {value slice:Expr} {pos:Pos} {T id:String} {Q:Value → Shared → Prop}
  (hl:typeLookup (.type T) "__getitem__" = pure (some (.builtin id))) (hs:EV slice)
  (h:wpAny (model prog w) A (eval value env) (fun o s₁ => wpAny (model prog w) A (eval slice env) (fun i s₂ => s₂.TypeIs o T ∧ wpAny (model prog w) A (getItem o i) Q E s₂) E s₁) E s) :
  wpAny (model prog w) A (eval (.Subscript value slice pos) env) Q E s:=by
 refine Subscript_ (wpAny_mono h (fun o s₁ h₁ => wpAny_mono h₁ (fun i s₂ h₂ => ?_) fun _ _ x => x) fun _ _ x => x)
 obtain ⟨hT,h₂⟩:=h₂
 unfold subscriptTail
 refine wpAny_bind ?_
 rw [getitemInPython_of_ne hT.not_modules]
 refine wpAny_bind (wpAny_specialOf hT hl ?_)
 have fin:wpAny (model prog w) A (subscripted slice false o i) (fun r s₃ => wpAny (model prog w) A (letTemporaryGo value o r >>= fun _ => pure r) Q E s₃) E s₂:=by
  rw [hs o i]
  exact wpAny_operating (wpAny_mono h₂ (fun r s₃ h₃ => wpAny_bind (wpAny_letTemporaryGo (wpAny_pure h₃))) fun _ _ x => x)
 first
  | exact wpAny_pure (wpAny_bind fin)
  | exact wpAny_bind (wpAny_pure (wpAny_bind fin))
  | exact wpAny_bind fin
theorem qc {X:Cx} {af:List (Addr × Obj)} {σ:St} {H:Hp} {s:Shared} {a:Addr} {y:V} {o:Option V} (I:aG X af σ H s) (g:mZ H a y o):s.TypeIs (.ref a) "dict":=by
 rcases g with ⟨aD,k,e,_,_⟩ | ⟨aD,k,b,e,_,_,_⟩
 ·obtain ⟨_,_,vs,_,dd⟩:=nW I.bt e
  exact dd.typeIs
 ·obtain ⟨_,_,xs,_,dd⟩:=yc I.bt e
  exact dd.typeIs
noncomputable def H! (td ty:TE):TE:=fun σ H Q => td σ H fun x H1 => ty σ H1 fun y H2 => ∃ a v,x = .ref a ∧ mZ H2 a y (some v) ∧ Q v H2
section
variable {X:Cx} {o i e value:Expr} {pos pos' Ew:Pos} {td ty tv:TE}
theorem Bb (hu:X.A.units + 1 < cLine) (ho:PE X o td) (hi:PE X i ty) (hs:EV i):PE X (.Subscript o i pos) (H! td ty):=by
 intro af s σ H Q I h
 refine Ba PySem.F.slot_dict_getitem.lookup hs (cJ (ho af s σ H _ I h) fun u s1 ⟨x,H1,I1,rx,q1⟩ => cJ (hi af s1 σ H1 _ I1 q1) fun iv s2 ⟨y,H2,I2,ry,a,v,ex,g,q2⟩ => ?_)
 subst ex
 obtain rfl:u = Value.ref a:=rx
 exact ⟨qc I2 g,vP hu I2 g ry fun w' s3 I3 vH => ⟨v,H2,I3,vH,q2⟩⟩
end
theorem yd {P:Program} {w:World} {H:Hp} (h:Heap) (hb:sysModules < h.objs.size):bL P w H (h.push { cls:=.type "dict",data:=.dict #[] }) h.objs.size (.dK []) :=
 ⟨Nat.zero_le _,beq_eq_false_iff_ne.mpr (Ne.symm (Nat.ne_of_lt hb)),[],.nil,Heap.DictOf.new h⟩
noncomputable def EW:TE:=fun _ H Q => ∀ p,H p = none → Q (.ref p) (upd H p (.dK []))
section
variable {X:Cx} {pos:Pos}
theorem ye:PE X (.Dict [] [] pos) EW:=fun af s σ H Q I h =>
 wpAny_Dict_empty ⟨.ref s.heap.objs.size,_,I.laid (a:=s.heap.objs.size) (o:=.dK []) (t':=s.toks) (fun _ _ q => Heap.get?_push_of_some _ q) (Nat.le_refl _) (yd s.heap I.big),rfl,h _ (I.bt.fresh (Nat.le_refl _))⟩
end
noncomputable def Ny (H:Hp) (a:Addr):Prop:=(∃ aD,Rd H a (.dK aD)) ∨ ∃ aD,Rd H a (.dT aD)
theorem EY {X:Cx} {af:List (Addr × Obj)} {σ:St} {H:Hp} {s:Shared} {a:Addr} (I:aG X af σ H s) (d:Ny H a) :
  s.TypeIs (.ref a) "dict" ∧ (∀ b,Value.ref a = .ref b → ∃ ob,s.heap.get? b = some ob ∧ ob.dict = none) ∧ (a == sysModules) = false:=by
 rcases d with ⟨aD,e⟩ | ⟨aD,e⟩
 ·obtain ⟨_,hd,vs,_,dd⟩:=nW I.bt e
  refine ⟨dd.typeIs,fun b q => ?_,hd⟩
  cases q
  obtain ⟨ob,_,_,h1,h2,_⟩:=dd
  exact ⟨ob,h1,h2.2.1⟩
 ·obtain ⟨_,hd,xs,_,dd⟩:=yc I.bt e
  refine ⟨dd.typeIs,fun b q => ?_,hd⟩
  cases q
  obtain ⟨ob,_,_,h1,h2,_⟩:=dd
  exact ⟨ob,h1,h2.2.1⟩
end L2
namespace L2
open PySem PySem.Spec PyProof.Rows
theorem iM.upd {H H':Hp} {p:Addr} {o:HO} (e:iM H H') (h:H' p = none):iM H (upd H' p o):=fun b u q => by
 rw [aJ (aK (e b u q) h)]
 exact e b u q
noncomputable def kx (k:Nat) (i:Int):Prop:=i.natAbs < 2 ^ k
theorem kx.bits {k:Nat} {i:Int} (h:kx k i):Builtin.Int.intBits i ≤ k:=by
 unfold Builtin.Int.intBits
 by_cases hz:(i == 0) = true
 ·rw [if_pos hz]; exact Nat.zero_le _
 ·rw [if_neg hz]
  have h0:i.natAbs ≠ 0:=by
   intro e
   apply hz
   have:i = 0:=Int.natAbs_eq_zero.mp e
   simp [this]
  have:=(Nat.log2_lt h0).mpr h
  lia
theorem kx.le {k:Nat} {i j:Int} (h:kx k j) (e:i.natAbs ≤ j.natAbs):kx k i:=Nat.lt_of_le_of_lt e h
theorem kx.small {k:Nat} {i:Int} (hk:10 ≤ k) (h0:-1000 < i) (h1:i < 1000):kx k i:=by
 show i.natAbs < 2 ^ k
 have:2 ^ 10 ≤ 2 ^ k:=Nat.pow_le_pow_right (by decide) hk
 lia
noncomputable def ur (i j:Int):Prop:=∃ a b,kx a i ∧ kx b j ∧ a ≤ 2 ^ 20 ∧ b ≤ 2 ^ 20
theorem ur.ok {i j:Int} (h:ur i j):IntMulOk i j:=by
 obtain ⟨a,b,h1,h2,h3,h4⟩:=h
 exact IntMulOk.of_bits (Nat.le_trans h1.bits h3) (Nat.le_trans h2.bits h4)
noncomputable def uu (i j:Int):Prop:=j ≠ 0 ∧ kx 9000 j
theorem uu.ok {i j:Int} (h:uu i j):Builtin.divisionGoesByPylong i j = false :=
 PyProof.noPylong_of_log2 ((Nat.log2_lt (by intro e; exact h.1 (Int.natAbs_eq_zero.mp e))).mpr h.2)
section
variable {X:Cx}
theorem Bc:cV X (binaryOp .Mult) (rI ur fun i j => .int (i * j)):=GY fun _ _ _ _ _ _ _ hc q => PyProof.Rows.mul_int q hc.ok
theorem yf:cV X (binaryOp .FloorDiv) (rI uu fun i j => .int (i.fdiv j)):=GY fun _ _ _ _ _ _ _ hc q => floordiv_int hc.1 q (.inl hc.ok)
end
end L2
namespace L2
open PySem PySem.Spec PyProof.Rows
theorem oW {prog:Program} {w:World} {A:Around} {s:Shared} {elt target iter:Expr} {ifs:List Expr} {scope:Scope} {pos:Pos} {it acc:Value} {env:Env} {R:Result → Shared → Prop} (I:Nat → Shared → Prop)
  (turn:∀ n s,I n s → wpAny (model prog w) A (pyNext it) (fun r s₁ => match r with
   | none => R (.ok .next) s₁
   | some v => wpAny (model prog w) A (letOwnedTupleGo target it v) (fun _ Dl => wpAny (model prog w) A (assign target env v) (fun _ s₂ =>
     wpAny (model prog w) A (forIn ifs true fun c r => if r = true then do let ok ← isTrue c env (eval c env); pure (ForInStep.yield ok) else pure (ForInStep.yield r)) (fun ok s₃ =>
      if ok = true then wpAny (model prog w) A (eval elt env) (fun x s₄ =>
       wpAny (model prog w) A (call (.builtin "list.append") [acc,x]) (fun _ s₅ => ∃ m,m < n ∧ I m s₅) (fun _ _ => False) s₄) (fun _ _ => False) s₃
      else ∃ m,m < n ∧ I m s₃) (fun _ _ => False) s₂) (fun _ _ => False) Dl) (fun _ _ => False) s₁) (fun _ _ => False) s)
  (n:Nat) (h:I n s):codeAny (model prog w) A (.compLoop (.ListComp elt [⟨target,iter,ifs,0⟩] scope pos) 0 it acc env) R s:=by
 refine codeAny_loop rfl I (fun n s hI => ?_) n h
 show wpAny _ A ((compTurn (.ListComp elt [⟨target,iter,ifs,0⟩] scope pos) 0 it acc env).onRaise (fun x => do noteFrame x env; theTreesLotGoes x)) _ _ s
 refine wpAny_noted ?_
 rw [compTurn_list]
 refine wpAny_bind (wpAny_standAt (wpAny_bind (wpAny_mono (turn n s hI) (fun r s₁ h₁ => ?_) fun _ _ h' => h'.elim)))
 cases r with
 | none => exact wpAny_pure h₁
 | some v =>
  refine wpAny_bind (wpAny_mono h₁ (fun _ Dl H? => ?_) fun _ _ h' => h'.elim)
  refine wpAny_bind (wpAny_mono H? (fun _ s₂ h₂ => wpAny_bind (wpAny_mono h₂ (fun ok s₃ h₃ => ?_) fun _ _ h' => h'.elim)) fun _ _ h' => h'.elim)
  cases ok with
  | false => exact wpAny_pure ⟨rfl,h₃⟩
  | true => exact wpAny_bind (wpAny_bind (wpAny_mono h₃ (fun x s₄ h₄ => wpAny_bind (wpAny_mono h₄ (fun _ s₅ h₅ => wpAny_pure (wpAny_pure ⟨rfl,h₅⟩)) fun _ _ h' => h'.elim)) fun _ _ h' => h'.elim))
noncomputable def vQ (X:Cx) (ifs:List Expr) (t:TT):Prop :=
 ∀ (af:List (Addr × Obj)) (s:Shared) (σ:St) (H:Hp) (Q:Bool → Hp → Prop),aG X af σ H s → t σ H Q →
  wpAny (model X.prog X.w) X.A (forIn ifs true fun c r => if r = true then do let ok ← isTrue c X.env (eval c X.env); pure (ForInStep.yield ok) else pure (ForInStep.yield r)) (TP X af σ Q) X.xe s
noncomputable def Ia:TT:=fun _ H Q => Q true H
theorem Bd {X:Cx}:vQ X [] Ia:=fun _ _ _ H _ I h => wpAny_tests_nil ⟨H,I,h⟩
theorem Be {X:Cx} {c:Expr} {t:TT} (h:PT X c t):vQ X [c] t:=fun af s σ H Q I hw => wpAny_tests_one (h af s σ H Q I hw)
theorem fS.Ib {P:Program} {w:World} {H:Hp} {h:Heap} {a:Addr} {o:HO} (x:fS P w H h) (hn:H a = none) (new:bL P w (upd H a o) h a o):fS P w (upd H a o) h:=fun b u e => by
 by_cases hb:b = a
 ·subst hb; rw [a8] at e; cases e; exact new
 ·rw [aJ hb] at e
  exact (x b u e).iH (fun c v _ q => q) (fun c q => by rw [aJ (aK q hn)]; exact q) fun c xs q => by rw [aJ (aK q hn)]; exact q
noncomputable def mT (X:Cx) (N:List Str) (scope:Scope) (cl:List (Str × Addr)) (C:Addr) (fp:List Addr) (s:Shared) (H:Hp):Cx :=
 { X with N:=N,s₀:=s,H₀:=H,env:=compEnvC scope cl C X.env,outer:=X.stack,stack:=X.stack,ex:=fp,fn:=fun _ => false,pn:=[],xe:=fun _ _ => False }
noncomputable def ky (k:Nat) (caps:List Nat) (σ:St):St:=List.replicate k none ++ caps.map fun j => (σ[j]?).getD none
structure m8 (X:Cx) (N:List Str) (scope:Scope) (cl:List (Str × Addr)) (k:Nat) (caps:List Nat):Prop where
 kz:closureFor scope X.env = pure cl
 sub:∀ x c,cl.lookup x = some c → X.env.cells.lookup x = some c
 has:∀ x,((relabel scope X.env).names.lookup x = some .cell ∨ (relabel scope X.env).names.lookup x = some .free) → ∃ c,cl.lookup x = some c
 eT:∀ x ∈ scope.names,x.2 ≠ .cell
 kind:scope.kind = .function
 names:∀ x ∈ scope.names,x.2 = .local → scope.names.lookup x.1 = some .local
 len:N.length = k + caps.length
 at_:∀ i j x,caps[i]? = some j → N[k + i]? = some x → X.N[j]? = some x ∧ (X.env.kindOf x = some .cell ∨ X.env.kindOf x = some .free) ∧ ((relabel scope X.env).names.lookup x = some .cell ∨ (relabel scope X.env).names.lookup x = some .free)
noncomputable def qe (J:It) (k:Nat) (caps:List Nat) (g:TG) (tt:TT) (te:TE) (σ:St) (H1:Hp) (Q:VK):Prop :=
 ∃ W:Nat → Nat → List V → St → Hp → Prop,(∃ m,W 0 m [] (ky k caps σ) H1) ∧ ∀ i m ys τ H,W i m ys τ H →
  (J.stop i H ∧ ys.length ≤ sizeLine ∧ ∀ p,H p = none → Q (.ref p) (upd H p (.lst ys))) ∨
  (J.go i H ∧ ys.length < sizeLine ∧ ∀ x H',J.Hr i H x H' → g x τ H' fun τ2 H2 => tt τ2 H2 fun b H3 => if b = true then te τ2 H3 fun y H4 => ∃ m',m' < m ∧ W (i + 1) m' (ys ++ [y]) τ2 H4 else ∃ m',m' < m ∧ W (i + 1) m' ys τ2 H3)
@[irreducible] def lg (k:Nat) (caps:List Nat) (wi:TI) (g:TG) (tt:TT) (te:TE):TE:=fun σ H Q => wi σ H fun J H1 => qe J k caps g tt te σ H1 Q
theorem yg {k:Nat} {caps:List Nat} {wi:TI} {g:TG} {tt:TT} {te:TE} {σ:St} {H:Hp} {Q:VK} (h:wi σ H fun J H1 => qe J k caps g tt te σ H1 Q):lg k caps wi g tt te σ H Q:=by
 unfold lg
 exact h
theorem nX {k:Nat} {caps:List Nat} {wi:TI} {g:TG} {tt:TT} {te:TE} {σ:St} {H:Hp} {Q:VK} (h:lg k caps wi g tt te σ H Q):wi σ H fun J H1 => qe J k caps g tt te σ H1 Q:=by
 unfold lg at h
 exact h
section
variable {X:Cx} {af:List (Addr × Obj)} {σ:St} {H:Hp} {s:Shared}
theorem Bf {k:Nat} {caps:List Nat} {σ:St} {i:Nat} {v:V} (h:(ky k caps σ)[i]? = some (some v)):∃ j,k ≤ i ∧ caps[i - k]? = some j ∧ σ[j]? = some (some v):=by
 unfold ky at h
 by_cases hi:i < k
 ·rw [List.getElem?_append_left (by simpa using hi),List.getElem?_replicate] at h
  split at h <;> cases h
 ·rw [List.getElem?_append_right (by simpa using Nat.le_of_not_lt hi),List.length_replicate,List.getElem?_map] at h
  cases e:caps[i - k]? with
  | none => rw [e] at h; cases h
  | some j =>
   rw [e] at h
   refine ⟨j,Nat.le_of_not_lt hi,rfl,?_⟩
   have h':(σ[j]?).getD none = some v:=by simpa using h
   cases q:σ[j]? with
   | none => rw [q] at h'; cases h'
   | some o => rw [q] at h'; exact congrArg some h'
theorem aG.block {N:List Str} {scope:Scope} {cl:List (Str × Addr)} {k:Nat} {caps:List Nat} {fp:List Addr} {C:Addr} {h':Heap} {t':Nat} {m':Str → Option Value}
  (I:aG X af σ H s) (B:m8 X N scope cl k caps) (hf:∀ b ∈ fp,mV X af H b) (hC:s.heap.objs.size ≤ C) (Ic:∀ b ∈ fp,∃ o,s.heap.get? b = some o)
  (kp:∀ b o,s.heap.get? b = some o → h'.get? b = some o) (ns:h'.Ns C m'):aG (mT X N scope cl C fp s H) [] (ky k caps σ) H { s with heap:=h',toks:=t' }:=by
 have below:∀ {b:Addr} {o:Obj},s.heap.get? b = some o → b ≠ C:=fun e => Nat.ne_of_lt (Nat.lt_of_lt_of_le (Heap.lt_size e) hC)
 have Ie:∀ x c,cl.lookup x = some c → ∃ v,s.heap.IsCell c v:=fun x c e => I.cell x c (B.sub x c e)
 refine ⟨⟨I.ok.mod,?_,I.ok.glob,I.ok.blt,hC,fun x y c h1 h2 => I.ok.inj x y c (B.sub x c h1) (B.sub y c h2),fun x hx => B.has x hx,fun x c h1 _ => ?_,I.ok.hd,I.ok.frames,.inl rfl,fun b hb => ⟨?_,fun x c e => ?_⟩,I.bs,Nat.le_trans I.ok.AA I.sz,fun b o e hb => ?_,fun b hb => ?_,I.stack,I.oJ⟩,
  rfl,I.bare,Un.kept kp,⟨m',ns,fun i x v h1 h2 h3 => ?_⟩,fun x c e => ?_,?_,fun x c e => I.fo x c (B.sub x c e),fun p hp => absurd (show p ∈ ([]:List (Addr × Obj)) from hp) (by simp),I.bt.kept kp,?_⟩
 ·exact B.kind
 ·exact absurd h1 (by simp [mT])
 ·obtain ⟨o,e⟩:=Ic b hb
  exact below e
 ·exact (hf b hb).2.2.2.2.1 x c (B.sub x c e)
 ·obtain ⟨_,_,_,h4,_⟩:=hf b hb
  rcases h4 with z | z
  ·exact I.ok.rW b o e z
  ·exact absurd (Nat.lt_of_lt_of_le (Heap.lt_size (I.ok.bs b o e).1) z) (Nat.lt_irrefl _)
 ·intro z
  rcases List.mem_cons.mp (I.kW b z) with e | e
  ·exact (hf b hb).2.1 e
  ·exact (hf b hb).2.2.1 e
 ·obtain ⟨j,hk,hj,hσ⟩:=Bf h2
  have hN:N[k + (i - k)]? = some x:=by rw [Nat.add_sub_cancel' hk]; exact h1
  obtain ⟨a1,a2,a3⟩:=B.at_ (i - k) j x hj hN
  obtain ⟨m,hn,hl⟩:=I.loc
  have Oz:C! X.env.scope x:=by
   rcases a2 with z | z
   ·exact .inr (.inl z)
   ·exact .inr (.inr z)
  obtain ⟨u,r,l⟩:=hl j x v a1 hσ Oz
  refine ⟨u,r,.inr ⟨a3,?_⟩⟩
  rcases l with ⟨z,_⟩ | ⟨_,c,e,cc⟩
  ·rcases a2 with y | y <;> (rw [z] at y; cases y)
  ·obtain ⟨c',e'⟩:=B.has x a3
   have:X.env.cells.lookup x = some c':=B.sub x c' e'
   rw [e] at this
   cases this
   obtain ⟨o,ho,hd⟩:=cc
   exact ⟨c,e',o,kp c o ho,hd⟩
 ·obtain ⟨v,o,ho,hd⟩:=Ie x c e
  exact ⟨v,o,kp c o ho,hd⟩
 ·exact I.bt.fresh hC
 ·show (ky k caps σ).length = N.length
  unfold ky
  rw [List.length_append,List.length_replicate,List.length_map,B.len]
noncomputable def yh (X:Cx) (af:List (Addr × Obj)) (σ:St) (s:Shared) (Q:VK) (acc:Value) (C:Addr) (s':Shared):Prop :=
 ∃ D H',acc = .ref D ∧ s.heap.objs.size ≤ C ∧ aG X af σ H' s' ∧ H' C = none ∧ (∃ m,s'.heap.Ns C m) ∧ Q (.ref D) H'
theorem nY {tg elt iter:Expr} {ifs:List Expr} {scope:Scope} {pos:Pos} {N:List Str} {cl:List (Str × Addr)} {k:Nat} {caps:List Nat} {g:TG} {tt:TT} {te:TE} {it:Addr} {fp:List Addr} {tn:Nat → Heap → Prop} {J:It} {Q:VK} {RR:Value → Addr → Result → Shared → Prop} {E:Value → Shared → Prop}
  (hc:X.calm = true) (B:m8 X N scope cl k caps) (hg:∀ C fp s H,PG (mT X N scope cl C fp s H) tg g) (hi:∀ C fp s H,vQ (mT X N scope cl C fp s H) ifs tt) (he:∀ C fp s H,PE (mT X N scope cl C fp s H) elt te)
  (I:aG X af σ H s) (T:Turn X.prog X.w X.K tg J fp it tn) (st:tn 0 s.heap) (hf:∀ b ∈ fp,mV X af H b)
  (h:qe J k caps g tt te σ H Q)
  (OA:∀ acc C s',yh X af σ s Q acc C s' → RR acc C (.ok .next) s') :
  wpAny (model X.prog X.w) X.A (newList []) (fun acc s₃ => wpAny (model X.prog X.w) X.A (newFunctionEnv scope X.env.globals cl [] X.env.qual none .none (some X.env)) (fun Ig s₄ =>
   codeAny (model X.prog X.w) X.A (.compStart (.ListComp elt [⟨tg,iter,ifs,0⟩] scope pos) 0 (.ref it) acc { Ig with scope:=relabel scope X.env }) (RR acc Ig.locals) s₄) E s₃) E s:=by
 obtain ⟨W,⟨m0,w0⟩,turn⟩:=h
 refine wpAny_newObj_type (wpAny_newFunctionEnv B.eT (by intro y hy; simp at hy) (fun h₁ sD oX => ?_) B.kind)
 dsimp only at sD oX ⊢
 generalize Lj:s.heap.push { cls:=.type "list",dict:=none,data:=.seq ([]:List Value).toArray } = H2 at sD oX ⊢
 have hC:H2.objs.size = s.heap.objs.size + 1:=by rw [← Lj,Heap.size_push]
 have J0:s.heap.objs.size ≤ H2.objs.size:=by rw [hC]; exact Nat.le_succ _
 have J1:s.heap.objs.size ≠ H2.objs.size:=by rw [hC]; exact Nat.ne_of_lt (Nat.lt_succ_self _)
 have old:∀ b o,s.heap.get? b = some o → h₁.get? b = some o:=fun b o e => oX.extBut b o (Nat.ne_of_lt (Nat.lt_of_lt_of_le (Heap.lt_size e) J0)) (Heap.get?_push_of_some _ (Lj ▸ Heap.get?_push_of_some _ e))
 have Lk:h₁.get? s.heap.objs.size = some { cls:=.type "list",data:=.seq ([]:List Value).toArray 0 }:=oX.extBut _ _ J1 (Heap.get?_push_of_some _ (Lj ▸ Heap.get?_push_size _ rfl))
 have Ll:=T.obj 0 _ st
 have Ic:∀ b ∈ fp,∃ o,s.heap.get? b = some o:=fun b hb => let ⟨o,e,_⟩:=Ll b hb; ⟨o,e⟩
 have Nz:∀ b ∈ fp,b ≠ s.heap.objs.size:=fun b hb z => by
  obtain ⟨o,e⟩:=Ic b hb
  exact absurd (Heap.lt_size e) (by rw [z]; exact Nat.lt_irrefl _)
 have OB:H s.heap.objs.size = none:=I.bt.fresh (Nat.le_refl _)
 have Dm:tn 0 h₁:=T.keep 0 _ _ st fun b _ o e => old b o e
 have Ih:∀ x c,cl.lookup x = some c → c ≠ s.heap.objs.size:=fun x c e z => by
  obtain ⟨v,o,ho,_⟩:=I.cell x c (B.sub x c e)
  exact absurd (Heap.lt_size ho) (by rw [z]; exact Nat.lt_irrefl _)
 have Lm:∀ b ∈ ei X.stack,b ≠ s.heap.objs.size:=fun b hb z => by
  obtain ⟨_,o,ho,_⟩:=I.stack.mem hb
  exact absurd (Heap.lt_size ho) (by rw [z]; exact Nat.lt_irrefl _)
 have loop:∀ s₃:Shared,s₃ = { s with heap:=h₁,toks:=s.toks + ([]:List (Str × Value)).length } →
   codeAny (model X.prog X.w) X.A (.compLoop (.ListComp elt [⟨tg,iter,ifs,0⟩] scope pos) 0 (.ref it) (.ref s.heap.objs.size) (compEnvC scope cl H2.objs.size X.env)) (RR (.ref s.heap.objs.size) H2.objs.size) s₃:=by
  rintro s₃ rfl
  generalize rS:mT X N scope cl H2.objs.size fp s H = XB
  have eP:XB.prog = X.prog:=by rw [← rS]; rfl
  have eW:XB.w = X.w:=by rw [← rS]; rfl
  have eK:XB.K = X.K:=by rw [← rS]; rfl
  have eA:XB.A = X.A:=by rw [← rS]; rfl
  have eE:XB.env = compEnvC scope cl H2.objs.size X.env:=by rw [← rS]; rfl
  have eL:XB.env.locals = H2.objs.size:=by rw [eE]; rfl
  have eF:XB.fs = ei X.stack:=by rw [← rS]; rfl
  have eX:XB.ex = fp:=by rw [← rS]; rfl
  have eN:XB.pn = []:=by rw [← rS]; rfl
  have e0:XB.s₀ = s:=by rw [← rS]; rfl
  have eC:XB.calm = true:=by rw [← rS]; exact hc
  have NA:XB.env.cells = cl:=by rw [eE]; rfl
  have Ln:XB.xe = fun _ _ => False:=by rw [← rS]; rfl
  have kA:PG XB tg g:=by rw [← rS]; exact hg _ _ _ _
  have Lo:vQ XB ifs tt:=by rw [← rS]; exact hi _ _ _ _
  have Ii:PE XB elt te:=by rw [← rS]; exact he _ _ _ _
  have I0:aG XB [] (ky k caps σ) H { s with heap:=h₁,toks:=s.toks + ([]:List (Str × Value)).length }:=by rw [← rS]; exact I.block B hf J0 Ic old sD
  -- An Dn pinned
  have Lp:∀ {τ:St} {H':Hp} {s':Shared} {aH:List Value} {nn:Nat},aG XB [] τ H' s' → s'.heap.get? s.heap.objs.size = some { cls:=.type "list",data:=.seq aH.toArray nn } → H' s.heap.objs.size = none →
    aG XB [(s.heap.objs.size,{ cls:=.type "list",data:=.seq aH.toArray nn })] τ H' s':=fun {τ H' s' aH nn} J hd hn => J.kL fun p hp => by
   obtain rfl:p = _:=List.mem_singleton.mp hp
   refine ⟨hd,hn,by rw [eL]; exact J1,by rw [eF]; exact fun z => Lm _ z rfl,fun v z => ?_⟩
   have z':Data.seq aH.toArray nn = Data.cell v:=z
   cases z'
  have r!:∀ {H':Hp} {o:Obj},(∀ b ∈ fp,H' b = none) → ∀ b ∈ fp,mV XB [(s.heap.objs.size,o)] H' b:=fun {H' o} hn b hb => by
   obtain ⟨_,f1,f2,f3,f4,f5⟩:=hf b hb
   refine ⟨hn b hb,?_,?_,.inl (by rw [eX]; exact hb),fun x c e => f4 x c (B.sub x c (by rw [← NA]; exact e)),fun p hp => ?_⟩
   ·rw [eL]
    obtain ⟨o,e⟩:=Ic b hb
    exact Nat.ne_of_lt (Nat.lt_of_lt_of_le (Heap.lt_size e) J0)
   ·rw [eF]
    intro z
    rcases List.mem_cons.mp (I.kW b z) with e | e
    ·exact f1 e
    ·exact f2 e
   ·rw [eN] at hp
    obtain rfl:p = _:=List.mem_singleton.mp (by simpa using hp)
    exact Ne.symm (Nz b hb)
  refine oW (fun n s' => ∃ i ys aH nn τ H',aG XB [] τ H' s' ∧ s'.heap.get? s.heap.objs.size = some { cls:=.type "list",data:=.seq aH.toArray nn } ∧ H' s.heap.objs.size = none ∧ aR ys aH ∧ tn i s'.heap ∧ (∀ b ∈ fp,H' b = none) ∧ W i n ys τ H') ?_ m0
   ⟨0,[],[],0,ky k caps σ,H,I0,Lk,OB,.nil,Dm,fun b hb => (hf b hb).1,w0⟩
  rintro n s3 ⟨i,ys,aH,nn,τ,H3,I3,OC,OD,J2,mR,Hv,w3⟩
  have NB:=Lp I3 OC OD
  rcases turn i n ys τ H3 w3 with ⟨stop,hz,qn⟩ | ⟨go,hz,step⟩
  ·have D1:=T.done XB eP eW eK eC i _ s3 τ H3 (fun _ _ => False) NB (r! Hv) mR stop
   rw [eA] at D1
   refine cJ D1 fun r s4 ⟨hr,I4⟩ => ?_
   subst hr
   refine OA _ _ s4 ?_
   obtain ⟨pd,Ij,_⟩:=I4.pin (s.heap.objs.size,{ cls:=.type "list",data:=.seq aH.toArray nn }) (by rw [eN]; exact List.mem_append_right _ (List.mem_singleton.mpr rfl))
   have Bg:Un (ei X.stack) fp H H3 s.heap s4.heap:=by
    have:=I4.base
    rw [← rS] at this
    exact this
   have new:bL X.prog X.w (upd H3 s.heap.objs.size (.lst ys)) s4.heap s.heap.objs.size (.lst ys):=⟨hz,aH,nn,J2,pd⟩
   have Lq:fS X.prog X.w H3 s4.heap:=by
    have:=I4.bt
    rw [eP,eW] at this
    exact this
   have bt:fS X.prog X.w (upd H3 s.heap.objs.size (.lst ys)) s4.heap:=Lq.Ib Ij new
   have OE:s4.os = s.os:=by
    have:=I4.os
    rw [e0] at this
    exact this
   have un:Un (ei X.stack) fp H (upd H3 s.heap.objs.size (.lst ys)) s.heap s4.heap :=
    ⟨Bg.keep,Bg.slot,fun b o e n hx => by rw [aJ (Nat.ne_of_lt (Heap.lt_size e))]; exact Bg.free b o e n hx,Bg.there,
     fun b xs e => by rw [aJ (aK (Bg.iI b xs e) Ij)]; exact Bg.iI b xs e,fun b o u e => by rw [aJ (aK (Bg.ic b o u e) Ij)]; exact Bg.ic b o u e,
     fun b ps e => by
      obtain ⟨more,q⟩:=Bg.i! b ps e
      exact ⟨more,by rw [aJ (aK q Ij)]; exact q⟩⟩
   have I5:aG X af σ (upd H3 s.heap.objs.size (.lst ys)) s4:=I.kZ OE un bt I4.bare fun b hb => ⟨(hf b hb).2.2.2.1,(hf b hb).2.1,(hf b hb).2.2.2.2.1,(hf b hb).2.2.2.2.2⟩
   have OF:H3 H2.objs.size = none:=by
    have:=I4.free
    rw [eL] at this
    exact this
   refine ⟨s.heap.objs.size,_,rfl,J0,I5,by rw [aJ (Ne.symm J1)]; exact OF,?_,qn _ Ij⟩
   obtain ⟨m4,NC,_⟩:=I4.loc
   rw [eL] at NC
   exact ⟨m4,NC⟩
  ·have D1:=T.item XB eP eW eK eC i _ s3 τ H3 (fun _ _ => False) NB (r! Hv) mR go
   rw [eA] at D1
   refine cJ D1 fun r s4 ⟨u,hr,h4⟩ => ?_
   subst hr
   refine cJ h4 fun _ s5 ⟨x,H5,I5,r5,y5,Ej,KW⟩ => ?_
   have KY:=I5.pinned (r! KW) (T.obj _ _ Ej)
   have G:=kA _ s5 τ H5 x u _ KY r5 (step x H5 y5)
   rw [eP,eW,eA,eE,Ln] at G
   refine cJ G fun _ s6 ⟨τ6,H6,I6,q6⟩ => ?_
   have G2:=Lo _ s6 τ6 H6 _ I6 q6
   rw [eP,eW,eA,eE,Ln] at G2
   refine cJ G2 fun ok s7 ⟨H7,I7,q7⟩ => ?_
   -- Eh An af give back
   have back:∀ {τ8:St} {H8:Hp} {s8:Shared},aG XB ([(s.heap.objs.size,({ cls:=.type "list",data:=.seq aH.toArray nn }:Obj))] ++ k8 fp s5.heap) τ8 H8 s8 →
     aG XB [] τ8 H8 s8 ∧ s8.heap.get? s.heap.objs.size = some { cls:=.type "list",data:=.seq aH.toArray nn } ∧ H8 s.heap.objs.size = none ∧ tn (i + 1) s8.heap ∧ ∀ b ∈ fp,H8 b = none:=fun {τ8 H8 s8} J => by
    obtain ⟨p1,p2,_⟩:=J.pin (s.heap.objs.size,{ cls:=.type "list",data:=.seq aH.toArray nn }) (List.mem_append_right _ (List.mem_append_left _ (List.mem_singleton.mpr rfl)))
    refine ⟨J.kL fun p hp => absurd (show p ∈ ([]:List (Addr × Obj)) from hp) (by simp),p1,p2,T.keep _ _ _ Ej fun b hb o e => (J.pin (b,o) (List.mem_append_right _ (List.mem_append_right _ (gi hb e)))).1,fun b hb => ?_⟩
    obtain ⟨o,e,d⟩:=T.obj _ _ Ej b hb
    exact (J.pin (b,o) (List.mem_append_right _ (List.mem_append_right _ (gi hb e)))).2.1
   cases ok with
   | false =>
    rw [if_neg Bool.false_ne_true] at q7 ⊢
    obtain ⟨m',hm,w7⟩:=q7
    obtain ⟨J,a1,a2,a3,a4⟩:=back I7
    exact ⟨m',hm,i + 1,ys,aH,nn,τ6,H7,J,a1,a2,J2,a3,a4,w7⟩
   | true =>
    rw [if_pos rfl] at q7 ⊢
    have G3:=Ii _ s7 τ6 H7 _ I7 q7
    rw [eP,eW,eA,eE,Ln] at G3
    refine cJ G3 fun v s8 ⟨y,H8,I8,r8,m',hm,w8⟩ => ?_
    obtain ⟨J,a1,a2,a3,a4⟩:=back I8
    have hlen:=J2.length
    refine call_meets F.slot_list_append ⟨_,a1,rfl⟩ F.entry_list_append (F.args_list_append_2 _ _) (PySem.list_append s.heap.objs.size aH.toArray nn v (by rw [List.size_toArray]; lia)) ⟨a1,?_⟩
    have q:=PySem.IsL.update a1 (fun z => z.push v)
    have other:∀ b o,b ≠ s.heap.objs.size → s8.heap.get? b = some o → (s8.heap.update s.heap.objs.size (Obj.mapSeq fun z => z.push v)).get? b = some o:=fun b o hb e => (Heap.get?_update_other s8.heap (Obj.mapSeq fun z => z.push v) (Ne.symm hb)).trans e
    have J':aG XB [] τ6 H8 { s8 with heap:=s8.heap.update s.heap.objs.size (Obj.mapSeq fun z => z.push v) } :=
     J.turned (t':=s8.toks) (it:=s.heap.objs.size) other a2 (by rw [eL]; exact J1) (.inr (by rw [e0]; exact Nat.le_refl _)) (fun x c e => Ih x c (by rw [← NA]; exact e)) fun p hp => absurd (show p ∈ ([]:List (Addr × Obj)) by rw [eN] at hp; exact hp) (by simp)
    obtain ⟨n2,q2⟩:∃ n2,(s8.heap.update s.heap.objs.size (Obj.mapSeq fun z => z.push v)).get? s.heap.objs.size = some { cls:=.type "list",data:=.seq (aH ++ [v]).toArray n2 }:=by
     have e1:aH.toArray.push v = (aH ++ [v]).toArray:=by simp
     rw [← e1]
     exact ⟨_,q⟩
    exact ⟨m',hm,i + 1,ys ++ [y],aH ++ [v],n2,τ6,H8,J',q2,a2,J2.append (.cons r8 .nil),T.keep _ _ _ a3 fun b hb o e => other b o (Nz b hb) e,a4,w8⟩
 exact codeAny_compStart_list (loop _ rfl) (T.self X.A 0 _ _ _ Dm (loop _ rfl))
end
end L2
namespace L2
open PySem PySem.Spec PyProof.Rows
section
variable {X:Cx} {tg elt iter:Expr} {ifs:List Expr} {scope:Scope} {pos yi:Pos} {N:List Str} {cl:List (Str × Addr)} {k:Nat} {caps:List Nat} {wi:TI} {g:TG} {tt:TT} {te:TE}
theorem aG.nZ {af:List (Addr × Obj)} {σ σ':St} {H H':Hp} {s s':Shared} {C:Addr} {h':Heap} (I:aG X af σ H s) (hC:s.heap.objs.size ≤ C) (I':aG X af σ' H' s') (hn:H' C = none) (sb:Heap.SameBut C s'.heap h') :
  aG X af σ' H' { s' with heap:=h' }:=by
 refine I'.turned (t':=s'.toks) (it:=C) (fun b o hb e => (sb.2 b hb).trans e) hn (Nat.ne_of_gt (Nat.lt_of_lt_of_le I.lt hC)) (.inr (Nat.le_trans I.sz hC)) (fun x c e => ?_) fun p hp => ?_
 ·obtain ⟨v,o,ho,_⟩:=I.cell x c e
  exact Nat.ne_of_lt (Nat.lt_of_lt_of_le (Heap.lt_size ho) hC)
 ·exact Nat.ne_of_lt (Nat.lt_of_lt_of_le (Heap.lt_size (I.pin p hp).1) hC)
theorem Bh (hc:X.calm = true) (B:m8 X N scope cl k caps) (hi:PI X tg iter wi) (hg:∀ C fp s H,PG (mT X N scope cl C fp s H) tg g) (EZ:∀ C fp s H,vQ (mT X N scope cl C fp s H) ifs tt)
  (he:∀ C fp s H,PE (mT X N scope cl C fp s H) elt te) (hs:∀ x,foldedSetIterable iter X.env x = pure x:=by intro _; rfl):PE X (.ListComp elt [⟨tg,iter,ifs,0⟩] scope pos) (lg k caps wi g tt te):=by
 intro af s σ H Q I h
 rw [eval_ListComp]
 refine wpAny_comprehension_free (use:=none) rfl hs B.kz B.kind B.names (cJ (hi af s σ H _ I (nX h)) fun xv s₁ h₁ => cJ h₁ fun JR s₂ h₂ => ?_)
 obtain ⟨it,fp,tn,J,H2,e,I2,T,st2,f2,hW⟩:=h₂
 subst e
 refine nY (RR:=fun acc C => compPost (model X.prog X.w) X.A X.xe none (EP X af σ Q) acc C) hc B hg EZ he I2 T st2 f2 hW ?_
 rintro acc C s' ⟨D,H',rfl,hC,I',hn,⟨m,ns⟩,q⟩
 exact ⟨m,ns,fun h' sb => ⟨.ref D,H',I2.nZ hC I' hn sb,rfl,q⟩⟩
theorem sE {i:Nat} {y:Str} {py:Pos} (hN:X.N.Nodup) (hy:X.N[i]? = some y) (hx:Loc X.env.scope y) (hc:X.calm = true) (B:m8 X N scope cl k caps) (hi:PI X tg iter wi) (hg:∀ C fp s H,PG (mT X N scope cl C fp s H) tg g)
  (EZ:∀ C fp s H,vQ (mT X N scope cl C fp s H) ifs tt) (he:∀ C fp s H,PE (mT X N scope cl C fp s H) elt te) (Lr:swapsWith (.ListComp elt [⟨tg,iter,ifs,0⟩] scope pos) (some (.Name y py)) yi.line X.env = pure true:=by rfl)
  (hs:∀ x,foldedSetIterable iter X.env x = pure x:=by intro _; rfl) (hf:X.fn y = true ∨ X.env.scope.names.lookup y = some .local:=by first | exact .inl rfl | exact .inr rfl | assumption) :
  PS X (.Assign [.Name y py] (.ListComp elt [⟨tg,iter,ifs,0⟩] scope pos) yi) (Ed (lg k caps wi g tt te) (p4 i)):=by
 intro af s σ H D I h
 rw [exec_Assign_Name_used _ _ _ _ Lr]
 refine wpAny_bind (wpAny_standAt (wpAny_bind ?_))
 show wpAny _ X.A (do let _ ← comprehension (.ListComp elt [⟨tg,iter,ifs,0⟩] scope pos) scope X.env _ (newList []) false (eval iter X.env) (some (assign (.Name y py) X.env))) _ _ s
 refine wpAny_bind (wpAny_mono (wpAny_comprehension_free (use:=some (assign (.Name y py) X.env)) (Q:=fun _ s' => SP X af D .next s') rfl hs B.kz B.kind B.names (cJ (hi af s σ H _ I (nX h)) fun xv s₁ h₁ => cJ h₁ fun JR s₂ h₂ => ?_)) (fun _ s' hq => wpAny_pure (wpAny_pure hq)) fun _ _ e => e)
 obtain ⟨it,fp,tn,J,H2,e,I2,T,st2,f2,hW⟩:=h₂
 subst e
 refine nY (Q:=fun v H' => p4 i v σ H' D.nx) (RR:=fun acc C => compPost (model X.prog X.w) X.A X.xe (some (assign (.Name y py) X.env)) (fun _ s' => SP X af D .next s') acc C) hc B hg EZ he I2 T st2 f2 hW ?_
 rintro acc C s' ⟨D',H',rfl,hC,I',hn,⟨m,ns⟩,q⟩
 show wpAny _ _ (assign (.Name y py) X.env (.ref D')) _ _ s'
 refine wpAny_assign_Name (jD I' hN hy hx (v:=.ref D') rfl (fun JU OG ⟨a,sb,ha⟩ => ?_) hf)
 have OH:C ≠ a:=by
  rcases ha with e | e
  ·rw [e]; exact Nat.ne_of_gt (Nat.lt_of_lt_of_le I2.lt hC)
  ·obtain ⟨v,o,ho,_⟩:=I2.cell y a e
   exact Nat.ne_of_gt (Nat.lt_of_lt_of_le (Heap.lt_size ho) hC)
 exact ⟨m,ns.sameBut sb OH,fun h' Ls => ⟨_,H',I2.nZ hC OG hn Ls,q⟩⟩
end
section
variable {K:PySem.W.Frag} {g:TG} {tt:TT} {te:TE} {Q:VK}
theorem Bi {J:It} {k:Nat} {caps:List Nat} {σ:St} {H:Hp} (n:Nat) (hn:n ≤ sizeLine) (Pv:Nat → List V → St → Hp → Prop) (h0:Pv 0 [] (ky k caps σ) H) (OI:∀ i ys τ H,i < n → Pv i ys τ H → J.go i H) (vy:∀ ys τ H,Pv n ys τ H → J.stop n H)
  (hl:∀ i ys τ H,Pv i ys τ H → ys.length ≤ i)
  (hs:∀ i ys τ H x H',i < n → Pv i ys τ H → J.Hr i H x H' → ∀ K1:List V → St → Hp → Prop,(∀ ys τ H,Pv (i + 1) ys τ H → K1 ys τ H) → g x τ H' fun τ2 H2 => tt τ2 H2 fun b H3 => if b = true then te τ2 H3 fun y H4 => K1 (ys ++ [y]) τ2 H4 else K1 ys τ2 H3)
  (hd:∀ ys τ H p,Pv n ys τ H → H p = none → Q (.ref p) (upd H p (.lst ys))):qe J k caps g tt te σ H Q:=by
 refine ⟨fun i m ys τ H => m = n - i ∧ i ≤ n ∧ Pv i ys τ H,⟨n,by simp,Nat.zero_le _,h0⟩,?_⟩
 rintro i m ys τ H ⟨rfl,hi,p⟩
 have hy:=hl i ys τ H p
 by_cases jC:i < n
 ·refine .inr ⟨OI i ys τ H jC p,by lia,fun x H' y => ?_⟩
  exact hs i ys τ H x H' jC p y (fun ys τ H => ∃ m',m' < n - i ∧ m' = n - (i + 1) ∧ i + 1 ≤ n ∧ Pv (i + 1) ys τ H) fun ys τ H q => ⟨n - (i + 1),by lia,rfl,jC,q⟩
 ·have e:i = n:=by lia
  subst e
  exact .inl ⟨vy ys τ H p,by lia,fun q hq => hd ys τ H q p hq⟩
end
noncomputable def bf (b:Bool) (h:Heap) (i l:Addr) (k:Nat):Prop:=match b with | true => h.IsListIter i l k | false => h.IsTupleIter i l k
noncomputable def dE (b:Bool) (h:Heap) (l:Addr) (xs:Array Value):Prop:=match b with | true => h.IsList l xs | false => h.IsTuple l xs
theorem bf.keep {b:Bool} {h h':Heap} {i l:Addr} {k:Nat} (x:bf b h i l k) (e:∀ o,h.get? i = some o → h'.get? i = some o):bf b h' i l k:=by
 cases b with
 | true => exact Heap.IsListIter.at x e
 | false => exact Heap.IsTupleIter.at x e
theorem dE.keep {b:Bool} {h h':Heap} {l:Addr} {xs:Array Value} (x:dE b h l xs) (e:∀ o,h.get? l = some o → h'.get? l = some o):dE b h' l xs:=by
 cases b with
 | true => exact Heap.IsList.at x e
 | false => obtain ⟨o,ho,r⟩:=(show h.IsTuple l xs from x); exact ⟨o,e _ ho,r⟩
theorem bf.there {b:Bool} {h:Heap} {i l:Addr} {k:Nat} (x:bf b h i l k):∃ o n vs,h.get? i = some o ∧ o.cls = .type n ∧ o.data = .fields vs:=by
 cases b with
 | true => obtain ⟨o,h1,h2,h3⟩:=(show h.IsListIter i l k from x); exact ⟨o,_,_,h1,h2,h3⟩
 | false => obtain ⟨o,h1,h2,h3⟩:=(show h.IsTupleIter i l k from x); exact ⟨o,_,_,h1,h2,h3⟩
section
variable {prog:Program} {w:World} {A:Around} {E:Value → Shared → Prop} {s:Shared}
theorem ll {it t:Addr} {i:Nat} {items:Array Value} {x:Value} {Q:Value → Shared → Prop} (hit:s.heap.IsTupleIter it t i) (ht:s.heap.IsTuple t items) (hx:items[i]? = some x)
  (hQ:∀ h',h'.IsTupleIter it t (i + 1) → Heap.SameBut it s.heap h' → Q x { s with heap:=h' }):wpAny (model prog w) A (Builtin.SmallTypes.nextOf (.ref it)) Q E s:=by
 obtain ⟨oi,Dp,ci,di⟩:=id hit
 obtain ⟨ot,Lu,_,nt,dt⟩:=ht
 unfold Builtin.SmallTypes.nextOf
 refine wpAny_bind (wpAny_callSpecial?_slot (name:=Str.ofString "__next__") hit.typeIs F.slot_tuple_iterator_next (wpAny_call_entry F.slot_tuple_iterator_next hit.typeIs F.entry_tuple_iterator_next ?_ (F.args_tuple_iterator_next_1 _)))
 show wpAny _ _ (field (.ref it) 0 >>= _) _ _ s
 refine wpAny_bind (wpAny_field Dp di (x:=.ref t) rfl ?_)
 show wpAny _ _ (if (Value.ref t == Value.none) = true then _ else _) _ _ s
 rw [if_neg (show ¬ ((Value.ref t == Value.none) = true) from Bool.false_ne_true)]
 show wpAny _ _ (field (.ref it) 1 >>= _) _ _ s
 refine wpAny_bind (wpAny_field Dp di (x:=.int i 0) rfl ?_)
 show wpAny _ _ (seqItems? (.ref t) >>= _) _ _ s
 refine wpAny_bind (wpAny_seqItems Lu dt ?_)
 simp only [Int.toNat_natCast,hx]
 refine wpAny_bind (wpAny_setField Dp di (by simp) (wpAny_pure ⟨x,rfl,wpAny_pure (hQ _ ?_ (Heap.SameBut.update ..))⟩))
 exact ⟨_,Heap.get?_update_self _ Dp (Obj.isFreed_of_fields (Obj.data_mapFields di _)),(Obj.cls_mapFields ..).trans ci,by rw [Obj.data_mapFields di]; simp [rawInt]⟩
theorem m9 {it t:Addr} {i:Nat} {items:Array Value} {Q:Value → Shared → Prop} (hh:A.handled = none) (hit:s.heap.IsTupleIter it t i) (ht:s.heap.IsTuple t items) (hx:items[i]? = none)
  (hE:∀ h' e,Heap.ExtBut it s.heap h' → (∃ o,h'.get? e = some o ∧ o.cls = .type "StopIteration") → E (.ref e) { s with heap:=h' }):wpAny (model prog w) A (Builtin.SmallTypes.nextOf (.ref it)) Q E s:=by
 obtain ⟨oi,Dp,ci,di⟩:=id hit
 obtain ⟨ot,Lu,_,nt,dt⟩:=ht
 unfold Builtin.SmallTypes.nextOf
 refine wpAny_bind (wpAny_callSpecial?_slot (name:=Str.ofString "__next__") hit.typeIs F.slot_tuple_iterator_next (wpAny_call_entry F.slot_tuple_iterator_next hit.typeIs F.entry_tuple_iterator_next ?_ (F.args_tuple_iterator_next_1 _)))
 show wpAny _ _ (field (.ref it) 0 >>= _) _ _ s
 refine wpAny_bind (wpAny_field Dp di (x:=.ref t) rfl ?_)
 show wpAny _ _ (if (Value.ref t == Value.none) = true then _ else _) _ _ s
 rw [if_neg (show ¬ ((Value.ref t == Value.none) = true) from Bool.false_ne_true)]
 show wpAny _ _ (field (.ref it) 1 >>= _) _ _ s
 refine wpAny_bind (wpAny_field Dp di (x:=.int i 0) rfl ?_)
 show wpAny _ _ (seqItems? (.ref t) >>= _) _ _ s
 refine wpAny_bind (wpAny_seqItems Lu dt ?_)
 simp only [Int.toNat_natCast,hx]
 refine wpAny_bind (wpAny_rule (wpAny_bind (wpAny_setField Dp di (by simp) ?_)))
 show wpAny _ _ (newExc (.type "StopIteration") [] >>= _) _ _ _
 refine wpAny_bind ?_
 simp only [newExc,newTuple]
 refine wpAny_bind (wpAny_newObj_type ?_ (by size_fits))
 refine wpAny_bind (m:=firstArgMember _ _) (wpAny_of_eq (a:=Value.none) (by first | rfl | (simp only [firstArgMember]; rfl)) ?_)
 refine wpAny_newObj_type ?_ (by size_fits)
 simp only [raiseNew]
 refine wpAny_bind (wpAny_handled ?_)
 first | rw [show A.in1.handled = none from hh] | rw [hh]
 refine wpAny_bind (wpAny_pure (wpAny_throw ?_))
 exact hE _ _ (((Heap.SameBut.update ..).extBut.push _).push _) ⟨_,Heap.get?_push_size _ rfl,rfl⟩
theorem bU {b:Bool} {it t:Addr} {i:Nat} {items:Array Value} {x:Value} {Q:Value → Shared → Prop} (hit:bf b s.heap it t i) (ht:dE b s.heap t items) (hx:items[i]? = some x)
  (hQ:∀ h',bf b h' it t (i + 1) → Heap.SameBut it s.heap h' → Q x { s with heap:=h' }):wpAny (model prog w) A (Builtin.SmallTypes.nextOf (.ref it)) Q E s:=by
 cases b with
 | true => exact wpAny_nextOf_list_item hit ht hx hQ
 | false => exact ll hit ht hx hQ
theorem dw {b:Bool} {it t:Addr} {i:Nat} {items:Array Value} {Q:Value → Shared → Prop} (hh:A.handled = none) (hit:bf b s.heap it t i) (ht:dE b s.heap t items) (hx:items[i]? = none)
  (hE:∀ h' e,Heap.ExtBut it s.heap h' → (∃ o,h'.get? e = some o ∧ o.cls = .type "StopIteration") → E (.ref e) { s with heap:=h' }):wpAny (model prog w) A (Builtin.SmallTypes.nextOf (.ref it)) Q E s:=by
 cases b with
 | true => exact wpAny_nextOf_list_end hh hit ht hx hE
 | false => exact m9 hh hit ht hx hE
end
end L2
namespace L2
open PySem PySem.Spec PyProof.Rows
noncomputable abbrev lA (b:Bool) (l:Addr):Obj:={ cls:=.type (match b with | true => "list_iterator" | false => "tuple_iterator"),data:=.fields #[.ref l,.int 0 0] }
section
variable {prog:Program} {w:World} {A:Around} {E:Value → Shared → Prop} {s:Shared}
theorem bf.new (b:Bool) {h:Heap} {i l:Addr} (e:h.get? i = some (lA b l)):bf b h i l 0:=by
 cases b with
 | true => exact ⟨_,e,rfl,rfl⟩
 | false => exact ⟨_,e,rfl,rfl⟩
theorem lB {b:Bool} {l:Addr} {xs:Array Value} {Q:Value → Shared → Prop} (h:dE b s.heap l xs) (hQ:Q (.ref s.heap.objs.size) { s with heap:=s.heap.push (lA b l) }):wpAny (model prog w) A (pyIter (.ref l)) Q E s:=by
 cases b with
 | true => exact wpAny_pyIter_list h hQ
 | false => exact wpAny_pyIter_tuple h hQ
theorem Bj {b1 b2:Bool} {z TI TO i1 i2 l1 l2:Addr} {k1 k2:Nat} {xs ys:Array Value} {x y a b:Value} {Q:Value → Shared → Prop} (D:ZipApart z TI TO i1 i2 l1 l2)
  (hz:IsZip s.heap z TI TO .none) (gn:IsPair s.heap TI (.ref i1) (.ref i2)) (gI:IsPair s.heap TO a b) (h1:bf b1 s.heap i1 l1 k1) (h2:bf b2 s.heap i2 l2 k2) (mU:dE b1 s.heap l1 xs) (mY:dE b2 s.heap l2 ys) (hx:xs[k1]? = some x) (hy:ys[k2]? = some y)
  (hQ:∀ h',IsZip h' z TI TO (rawInt s.heap.objs.size) → IsPair h' TO x y → bf b1 h' i1 l1 (k1 + 1) → bf b2 h' i2 l2 (k2 + 1) → IsPair h' s.heap.objs.size x y →
   (∀ c o,c ≠ z → c ≠ TO → c ≠ i1 → c ≠ i2 → s.heap.get? c = some o → h'.get? c = some o) → Q (.ref s.heap.objs.size) { s with heap:=h' }) :
  wpAny (model prog w) A (Builtin.«zip.__next__» ⟨[.ref z],[]⟩) (fun fin s' => ∃ v,fin = .done (.ret v) ∧ Q v s') E s:=by
 show wpAny _ _ (field (.ref z) 2 >>= _) _ _ _
 refine wpAny_bind (wpAny_field hz rfl (x:=.bool false) rfl ?_)
 show wpAny _ _ (field (.ref z) 3 >>= _) _ _ _
 refine wpAny_bind (wpAny_field hz rfl (x:=.ref TI) rfl (wpAny_bind (wpAny_seqItems gn rfl ?_)))
 show wpAny _ _ (Builtin.SmallTypes.ownedTupleIsFree (.ref z) >>= _) _ _ _
 refine wpAny_bind ?_
 unfold Builtin.SmallTypes.ownedTupleIsFree
 refine wpAny_bind (wpAny_field hz rfl (x:=.none) rfl (wpAny_pure ?_))
 simp only [if_true]
 refine wpAny_bind (wpAny_rule (wpAny_bind (wpAny_field hz rfl (x:=.ref TO) rfl (wpAny_bind (wpAny_setField_rec hz (by simp) fun g₁ dy s₁ => ?_)))))
 replace dy:IsZip g₁ z TI TO .ellipsis:=dy
 refine wpAny_bind ?_
 simp only [List.zipIdx_cons,List.zipIdx_nil,List.forIn_cons,List.forIn_nil]
 refine wpAny_bind (wpAny_bind (wpAny_onRaise ?_))
 show wpAny _ _ (Builtin.SmallTypes.nextOf (.ref i1) >>= _) _ _ _
 refine wpAny_bind (bU (b:=b1) (h1.keep fun o e => s₁.extBut _ o D.i1z e) (mU.keep fun o e => s₁.extBut _ o D.l1z e) hx fun g₂ q₁ s₂ => wpAny_pure ?_)
 have t₂:IsPair g₂ TO a b:=s₂.extBut _ _ D.TOi1 (s₁.extBut _ _ D.TOz gI)
 refine wpAny_bind (wpAny_seqItems t₂ rfl (wpAny_bind (wpAny_updateSeq_pair t₂ fun g₃ t₃ s₃ => ?_)))
 replace t₃:IsPair g₃ TO x b:=t₃
 refine wpAny_bind (wpAny_letGo (wpAny_pure (wpAny_bind (wpAny_bind (wpAny_onRaise ?_)))))
 show wpAny _ _ (Builtin.SmallTypes.nextOf (.ref i2) >>= _) _ _ _
 refine wpAny_bind (bU (b:=b2) (h2.keep fun o e => s₃.extBut _ o D.TOi2.symm (s₂.extBut _ o D.i12.symm (s₁.extBut _ o D.i2z e))) (mY.keep fun o e => s₃.extBut _ o D.l2TO (s₂.extBut _ o D.l2i1 (s₁.extBut _ o D.l2z e))) hy fun g₄ q₂ s₄ => wpAny_pure ?_)
 have t₄:IsPair g₄ TO x b:=s₄.extBut _ _ D.TOi2 t₃
 refine wpAny_bind (wpAny_seqItems t₄ rfl (wpAny_bind (wpAny_updateSeq_pair t₄ fun g₅ t₅ s₅ => ?_)))
 replace t₅:IsPair g₅ TO x y:=t₅
 refine wpAny_bind (wpAny_letGo (wpAny_pure (wpAny_pure (wpAny_bind (wpAny_seqItems t₅ rfl (wpAny_bind (wpAny_newTuple ?_)))))))
 have sz:g₅.objs.size = s.heap.objs.size:=by rw [s₅.1,s₄.1,s₃.1,s₂.1,s₁.1]
 have z₅:IsZip g₅ z TI TO .ellipsis:=s₅.extBut _ _ D.TOz.symm (s₄.extBut _ _ D.i2z.symm (s₃.extBut _ _ D.TOz.symm (s₂.extBut _ _ D.i1z.symm dy)))
 have kp:∀ c o,c ≠ z → c ≠ TO → c ≠ i1 → c ≠ i2 → s.heap.get? c = some o → g₅.get? c = some o:=fun c o n1 n2 n3 n4 e => s₅.extBut _ _ n2 (s₄.extBut _ _ n4 (s₃.extBut _ _ n2 (s₂.extBut _ _ n3 (s₁.extBut _ _ n1 e))))
 have p₁:bf b1 g₅ i1 l1 (k1 + 1):=q₁.keep fun o e => s₅.extBut _ o D.TOi1.symm (s₄.extBut _ o D.i12 (s₃.extBut _ o D.TOi1.symm e))
 have p₂:bf b2 g₅ i2 l2 (k2 + 1):=q₂.keep fun o e => s₅.extBut _ o D.TOi2.symm e
 have Ik:z < g₅.objs.size:=Heap.lt_size z₅
 show wpAny _ _ (Builtin.SmallTypes.ownedTupleHandOut (.ref z) (.ref g₅.objs.size) >>= _) _ _ _
 refine wpAny_bind ?_
 unfold Builtin.SmallTypes.ownedTupleHandOut
 have z₆:IsZip (g₅.push { cls:=.type "tuple",data:=.seq #[x,y] }) z TI TO .ellipsis:=Heap.get?_push_of_some _ z₅
 refine wpAny_bind (wpAny_setField_rec z₆ (by simp) fun g₇ z₇ s₇ => ?_)
 replace z₇:IsZip g₇ z TI TO (rawInt g₅.objs.size):=z₇
 refine wpAny_setField_rec z₇ (by simp) fun g₈ z₈ s₈ => ?_
 replace z₈:IsZip g₈ z TI TO (rawInt g₅.objs.size):=z₈
 have up:∀ c o,c ≠ z → g₅.get? c = some o → g₈.get? c = some o:=fun c o n e => s₈.extBut _ _ n (s₇.extBut _ _ n (Heap.get?_push_of_some _ e))
 have t₈:IsPair g₈ g₅.objs.size x y:=s₈.extBut _ _ (Nat.ne_of_gt Ik) (s₇.extBut _ _ (Nat.ne_of_gt Ik) (Heap.get?_push_size _ rfl))
 rw [sz] at z₈ t₈
 refine wpAny_pure ⟨_,rfl,?_⟩
 show Q (.ref g₅.objs.size) _
 rw [sz]
 exact hQ g₈ z₈ (up _ _ D.TOz t₅) (p₁.keep fun o e => up _ o D.i1z e) (p₂.keep fun o e => up _ o D.i2z e) t₈ fun c o n1 n2 n3 n4 e => up c o n1 (kp c o n1 n2 n3 n4 e)
theorem E1 {b1 b2:Bool} {z TI TO i1 i2 l1 l2:Addr} {k1 k2:Nat} {xs ys:Array Value} {a b:Value} {Q:Fin → Shared → Prop} (hh:A.handled = none) (D:ZipApart z TI TO i1 i2 l1 l2)
  (hz:IsZip s.heap z TI TO .none) (gn:IsPair s.heap TI (.ref i1) (.ref i2)) (gI:IsPair s.heap TO a b) (h1:bf b1 s.heap i1 l1 k1) (h2:bf b2 s.heap i2 l2 k2) (mU:dE b1 s.heap l1 xs) (mY:dE b2 s.heap l2 ys) (he:xs[k1]? = none ∨ ys[k2]? = none)
  (hE:∀ h' e,(∀ c o,c ≠ z → c ≠ TO → c ≠ i1 → c ≠ i2 → s.heap.get? c = some o → h'.get? c = some o) → (∃ o,h'.get? e = some o ∧ o.cls = .type "StopIteration") → E (.ref e) { s with heap:=h' }) :
  wpAny (model prog w) A (Builtin.«zip.__next__» ⟨[.ref z],[]⟩) Q E s:=by
 show wpAny _ _ (field (.ref z) 2 >>= _) _ _ _
 refine wpAny_bind (wpAny_field hz rfl (x:=.bool false) rfl ?_)
 show wpAny _ _ (field (.ref z) 3 >>= _) _ _ _
 refine wpAny_bind (wpAny_field hz rfl (x:=.ref TI) rfl (wpAny_bind (wpAny_seqItems gn rfl ?_)))
 show wpAny _ _ (Builtin.SmallTypes.ownedTupleIsFree (.ref z) >>= _) _ _ _
 refine wpAny_bind ?_
 unfold Builtin.SmallTypes.ownedTupleIsFree
 refine wpAny_bind (wpAny_field hz rfl (x:=.none) rfl (wpAny_pure ?_))
 simp only [if_true]
 refine wpAny_bind (wpAny_rule (wpAny_bind (wpAny_field hz rfl (x:=.ref TO) rfl (wpAny_bind (wpAny_setField_rec hz (by simp) fun g₁ dy s₁ => ?_)))))
 replace dy:IsZip g₁ z TI TO .ellipsis:=dy
 refine wpAny_bind ?_
 simp only [List.zipIdx_cons,List.zipIdx_nil,List.forIn_cons,List.forIn_nil]
 refine wpAny_bind (wpAny_bind (wpAny_onRaise ?_))
 show wpAny _ _ (Builtin.SmallTypes.nextOf (.ref i1) >>= _) _ _ _
 cases hx:xs[k1]? with
 | none =>
  refine wpAny_bind (dw (b:=b1) hh (h1.keep fun o e => s₁.extBut _ o D.i1z e) (mU.keep fun o e => s₁.extBut _ o D.l1z e) hx fun g₂ e s₂ ⟨oe,qf,ce⟩ => ?_)
  have z₂:IsZip g₂ z TI TO .ellipsis:=s₂ _ _ D.i1z.symm dy
  have E2:e ≠ z:=fun q => by subst q; rw [z₂] at qf; cases qf; simp at ce
  exact wpAny_setField_rec z₂ (by simp) fun g₃ _ s₃ => hE g₃ e (fun c o n1 _ n3 _ q => s₃.extBut _ _ n1 (s₂ _ _ n3 (s₁.extBut _ _ n1 q))) ⟨oe,s₃.extBut _ _ E2 qf,ce⟩
 | some x =>
  have hy:ys[k2]? = none:=by
   rcases he with q | q
   ·rw [hx] at q; cases q
   ·exact q
  refine wpAny_bind (bU (b:=b1) (h1.keep fun o e => s₁.extBut _ o D.i1z e) (mU.keep fun o e => s₁.extBut _ o D.l1z e) hx fun g₂ q₁ s₂ => wpAny_pure ?_)
  have t₂:IsPair g₂ TO a b:=s₂.extBut _ _ D.TOi1 (s₁.extBut _ _ D.TOz gI)
  refine wpAny_bind (wpAny_seqItems t₂ rfl (wpAny_bind (wpAny_updateSeq_pair t₂ fun g₃ t₃ s₃ => ?_)))
  refine wpAny_bind (wpAny_letGo (wpAny_pure (wpAny_bind (wpAny_bind (wpAny_onRaise ?_)))))
  show wpAny _ _ (Builtin.SmallTypes.nextOf (.ref i2) >>= _) _ _ _
  refine wpAny_bind (dw (b:=b2) hh (h2.keep fun o e => s₃.extBut _ o D.TOi2.symm (s₂.extBut _ o D.i12.symm (s₁.extBut _ o D.i2z e))) (mY.keep fun o e => s₃.extBut _ o D.l2TO (s₂.extBut _ o D.l2i1 (s₁.extBut _ o D.l2z e))) hy fun g₄ e s₄ ⟨oe,qf,ce⟩ => ?_)
  have z₄:IsZip g₄ z TI TO .ellipsis:=s₄ _ _ D.i2z.symm (s₃.extBut _ _ D.TOz.symm (s₂.extBut _ _ D.i1z.symm dy))
  have E2:e ≠ z:=fun q => by subst q; rw [z₄] at qf; cases qf; simp at ce
  exact wpAny_setField_rec z₄ (by simp) fun g₅ _ s₅ => hE g₅ e (fun c o n1 n2 n3 n4 q => s₅.extBut _ _ n1 (s₄ _ _ n4 (s₃.extBut _ _ n2 (s₂.extBut _ _ n3 (s₁.extBut _ _ n1 q))))) ⟨oe,s₅.extBut _ _ E2 qf,ce⟩
theorem vR {b1 b2:Bool} {z TI TO i1 i2 l1 l2:Addr} {k1 k2:Nat} {xs ys:Array Value} {x y a b:Value} {Q:Option Value → Shared → Prop} (D:ZipApart z TI TO i1 i2 l1 l2)
  (hz:IsZip s.heap z TI TO .none) (gn:IsPair s.heap TI (.ref i1) (.ref i2)) (gI:IsPair s.heap TO a b) (h1:bf b1 s.heap i1 l1 k1) (h2:bf b2 s.heap i2 l2 k2) (mU:dE b1 s.heap l1 xs) (mY:dE b2 s.heap l2 ys) (hx:xs[k1]? = some x) (hy:ys[k2]? = some y)
  (hQ:∀ h',IsZip h' z TI TO (rawInt s.heap.objs.size) → IsPair h' TO x y → bf b1 h' i1 l1 (k1 + 1) → bf b2 h' i2 l2 (k2 + 1) → IsPair h' s.heap.objs.size x y →
   (∀ c o,c ≠ z → c ≠ TO → c ≠ i1 → c ≠ i2 → s.heap.get? c = some o → h'.get? c = some o) → Q (some (.ref s.heap.objs.size)) { s with heap:=h' }):wpAny (model prog w) A (pyNext (.ref z)) Q E s:=by
 have tz:s.TypeIs (.ref z) "zip":=⟨_,hz,rfl⟩
 unfold pyNext
 exact wpAny_bind (wpAny_attempt (wpAny_callSpecial?_slot (name:=Str.ofString "__next__") tz F.slot_zip_next
  (wpAny_call_entry F.slot_zip_next tz F.entry_zip_next (Bj (b1:=b1) (b2:=b2) D hz gn gI h1 h2 mU mY hx hy fun h' a1 a2 a3 a4 a5 a6 => wpAny_pure (hQ h' a1 a2 a3 a4 a5 a6)) (F.args_zip_next_1 _))))
theorem yj {b1 b2:Bool} {z TI TO i1 i2 l1 l2:Addr} {k1 k2:Nat} {xs ys:Array Value} {a b:Value} {Q:Option Value → Shared → Prop} (hh:A.handled = none) (D:ZipApart z TI TO i1 i2 l1 l2)
  (hz:IsZip s.heap z TI TO .none) (gn:IsPair s.heap TI (.ref i1) (.ref i2)) (gI:IsPair s.heap TO a b) (h1:bf b1 s.heap i1 l1 k1) (h2:bf b2 s.heap i2 l2 k2) (mU:dE b1 s.heap l1 xs) (mY:dE b2 s.heap l2 ys) (he:xs[k1]? = none ∨ ys[k2]? = none)
  (hQ:∀ h',(∀ c o,c ≠ z → c ≠ TO → c ≠ i1 → c ≠ i2 → s.heap.get? c = some o → h'.get? c = some o) → Q none { s with heap:=h' }):wpAny (model prog w) A (pyNext (.ref z)) Q E s:=by
 have tz:s.TypeIs (.ref z) "zip":=⟨_,hz,rfl⟩
 unfold pyNext
 refine wpAny_bind (wpAny_attempt (wpAny_callSpecial?_slot (name:=Str.ofString "__next__") tz F.slot_zip_next
  (wpAny_call_entry F.slot_zip_next tz F.entry_zip_next (E1 (b1:=b1) (b2:=b2) hh D hz gn gI h1 h2 mU mY he fun h' e hk he => ?_) (F.args_zip_next_1 _))))
 obtain ⟨o,ho,hc⟩:=he
 exact wpAny_bind (wpAny_isInstance (T:="StopIteration") (b:=true) ⟨o,ho,hc⟩ isSubtype_stop (wpAny_pure (hQ _ hk)))
noncomputable abbrev J3 (b1:Bool) (h:Heap) (l1:Addr):Heap:=h.push (lA b1 l1)
noncomputable abbrev J4 (b1 b2:Bool) (h:Heap) (l1 l2:Addr):Heap:=(J3 b1 h l1).push (lA b2 l2)
noncomputable abbrev J5 (b1 b2:Bool) (h:Heap) (l1 l2:Addr):Heap:=(J4 b1 b2 h l1 l2).push { cls:=.type "tuple",data:=.seq #[.ref h.objs.size,.ref (J3 b1 h l1).objs.size] }
noncomputable abbrev J7 (b1 b2:Bool) (h:Heap) (l1 l2:Addr):Heap:=(J5 b1 b2 h l1 l2).push { cls:=.type "tuple",data:=.seq #[.none,.none] }
noncomputable abbrev GZ (b1 b2:Bool) (h:Heap) (l1 l2:Addr):Heap:=(J7 b1 b2 h l1 l2).push { cls:=.type "zip",data:=.fields #[.none,.bool false,.bool false,.ref (J4 b1 b2 h l1 l2).objs.size,.ref (J5 b1 b2 h l1 l2).objs.size] }
theorem yk (b1 b2:Bool) (l1 l2:Addr) (xs ys:Array Value) :
  Meets (Builtin.«zip.__new__» ⟨[.type "zip",.ref l1,.ref l2],[]⟩) (fun _ R s => dE b1 s.heap l1 xs ∧ dE b2 s.heap l2 ys ∧ R (.ok (.ret (.ref (J7 b1 b2 s.heap l1 l2).objs.size))) { s with heap:=GZ b1 b2 s.heap l1 l2 }) :=
 .of_wp fun prog w A R s h => by
  obtain ⟨hp,g,d,tk,os⟩:=s
  obtain ⟨q1,q2,h⟩:=h
  have Il:=sub_zip
  have w1:dE b1 (Shared.heap ⟨hp,g,d,tk,os⟩) l1 xs:=q1
  have w2:dE b2 (Shared.heap ⟨hp.push (lA b1 l1),g,d,tk,os⟩) l2 ys:=q2.keep fun o e => Heap.get?_push_of_some _ e
  wp_walk using lB w1,lB w2
  exact ⟨_,rfl,h⟩
theorem qg {b1 b2:Bool} {l1 l2:Addr} {xs ys:Array Value} {Q:Value → Shared → Prop} (mU:dE b1 s.heap l1 xs) (mY:dE b2 s.heap l2 ys)
  (h:∀ h',IsZip h' (s.heap.objs.size + 4) (s.heap.objs.size + 2) (s.heap.objs.size + 3) .none → IsPair h' (s.heap.objs.size + 2) (.ref s.heap.objs.size) (.ref (s.heap.objs.size + 1)) → IsPair h' (s.heap.objs.size + 3) .none .none →
   bf b1 h' s.heap.objs.size l1 0 → bf b2 h' (s.heap.objs.size + 1) l2 0 → (∀ c o,s.heap.get? c = some o → h'.get? c = some o) → Q (.ref (s.heap.objs.size + 4)) { s with heap:=h' }) :
  wpAny (model prog w) A (call (.type "zip") [.ref l1,.ref l2]) Q E s:=by
 refine callType_new F.called_zip (by decide) (F.typeCall_zip_2 _ _) (F.newCall_zip_2 _ _) (fun obj => F.args_object_init_3 obj _ _) F.entry_zip_new (yk b1 b2 l1 l2 xs ys) ⟨mU,mY,?_⟩
 have z1:(J3 b1 s.heap l1).objs.size = s.heap.objs.size + 1:=Heap.size_push ..
 have z2:(J4 b1 b2 s.heap l1 l2).objs.size = s.heap.objs.size + 2:=by rw [Heap.size_push,z1]
 have z3:(J5 b1 b2 s.heap l1 l2).objs.size = s.heap.objs.size + 3:=by rw [Heap.size_push,z2]
 have z4:(J7 b1 b2 s.heap l1 l2).objs.size = s.heap.objs.size + 4:=by rw [Heap.size_push,z3]
 have g5:(GZ b1 b2 s.heap l1 l2).get? (J7 b1 b2 s.heap l1 l2).objs.size = some _:=Heap.get?_push_size _ rfl
 have g4:(GZ b1 b2 s.heap l1 l2).get? (J5 b1 b2 s.heap l1 l2).objs.size = some _:=Heap.get?_push_of_some _ (Heap.get?_push_size _ rfl)
 have g3:(GZ b1 b2 s.heap l1 l2).get? (J4 b1 b2 s.heap l1 l2).objs.size = some _:=Heap.get?_push_of_some _ (Heap.get?_push_of_some _ (Heap.get?_push_size _ rfl))
 have g2:(GZ b1 b2 s.heap l1 l2).get? (J3 b1 s.heap l1).objs.size = some (lA b2 l2):=Heap.get?_push_of_some _ (Heap.get?_push_of_some _ (Heap.get?_push_of_some _ (Heap.get?_push_size _ rfl)))
 have g1:(GZ b1 b2 s.heap l1 l2).get? s.heap.objs.size = some (lA b1 l1):=Heap.get?_push_of_some _ (Heap.get?_push_of_some _ (Heap.get?_push_of_some _ (Heap.get?_push_of_some _ (Heap.get?_push_size _ rfl))))
 show _ ∧ _
 rw [z2,z3,z4] at g5
 rw [z1,z2] at g3
 rw [z3] at g4
 rw [z1] at g2
 rw [z4]
 exact ⟨⟨_,g5,rfl⟩,h _ g5 g3 g4 (.new b1 g1) (.new b2 g2) fun c o x => Heap.get?_push_of_some _ (Heap.get?_push_of_some _ (Heap.get?_push_of_some _ (Heap.get?_push_of_some _ (Heap.get?_push_of_some _ x))))⟩
end
noncomputable def qh (b:Bool) (K:PySem.W.Frag) (H:Hp) (a:Addr) (xs:List V):Prop:=match b with | true => iC K H a xs | false => ig K H a xs
theorem aG.xm {X:Cx} {af:List (Addr × Obj)} {σ:St} {H:Hp} {s:Shared} {b:Bool} {a:Addr} {xs:List V} (I:aG X af σ H s) (h:qh b X.K H a xs):∃ aH:List Value,aR xs aH ∧ dE b s.heap a aH.toArray ∧ xs.length ≤ sizeLine:=by
 cases b with
 | true => obtain ⟨aH,r,p,z⟩:=I.list h; exact ⟨aH,r,p.isList,z⟩
 | false => obtain ⟨aH,r,p,z⟩:=I.tuple h; exact ⟨aH,r,p,z⟩
theorem aG.kN {X:Cx} {af:List (Addr × Obj)} {σ:St} {H:Hp} {s:Shared} {b:Bool} {a:Addr} {xs ys:List V} (I:aG X af σ H s) (h:qh b X.K H a xs) (h':qh b X.K H a ys):xs = ys:=by
 cases b with
 | true => exact I.k6 h h'
 | false => exact I.jE h h'
theorem aG.uv {X:Cx} {af:List (Addr × Obj)} {σ:St} {H:Hp} {s:Shared} {b:Bool} {l c:Addr} {zs:List V} (I:aG X af σ H s) (hs:qh b X.K H l zs) (f:mV X af H c):l ≠ c:=by
 intro q
 have mo:∀ o,X.K.lookup l = some o → False:=fun o hk => by
  have e:=I.mod.C_ l o hk
  rcases f.2.2.2.1 with z | z
  ·exact I.ok.rW l o e (by rw [q]; exact z)
  ·exact absurd (Nat.lt_of_lt_of_le (Heap.lt_size (I.ok.bs l o e).1) (by rw [q]; exact z)) (Nat.lt_irrefl _)
 have tr:∀ o,H l = some o → False:=fun o e => by rw [q,f.1] at e; cases e
 cases b with
 | true =>
  rcases (show iC X.K H l zs from hs) with (r | ⟨o,r⟩) | ⟨o,aH,n,hk,_⟩
  ·exact tr _ r
  ·exact tr _ r
  ·exact mo o hk
 | false =>
  rcases (show ig X.K H l zs from hs) with (r | ⟨o,r⟩) | ⟨o,aH,n,hk,_⟩
  ·exact tr _ r
  ·exact tr _ r
  ·exact mo o hk
noncomputable def Lv (K:PySem.W.Frag) (b1 b2:Bool) (a b:Addr):It :=
 ⟨fun i H => ∃ xs ys x y,qh b1 K H a xs ∧ qh b2 K H b ys ∧ xs[i]? = some x ∧ ys[i]? = some y,
  fun i H v H' => ∃ p x y,v = .ref p ∧ H p = none ∧ H' = upd H p (.tup [x,y]) ∧ (∀ xs,qh b1 K H a xs → xs[i]? = some x) ∧ ∀ ys,qh b2 K H b ys → ys[i]? = some y,
  fun i H => ∃ xs ys,qh b1 K H a xs ∧ qh b2 K H b ys ∧ (xs.length ≤ i ∨ ys.length ≤ i)⟩
theorem ym {P:Program} {w:World} {K:PySem.W.Frag} {elts:List Expr} {kt:Nat} {tp:Pos} {b1 b2:Bool} {z TI TO i1 i2:Addr} (a b:Addr) (ne:z ≠ TI ∧ z ≠ TO ∧ z ≠ i1 ∧ z ≠ i2 ∧ TI ≠ TO ∧ TI ≠ i1 ∧ TI ≠ i2 ∧ TO ≠ i1 ∧ TO ≠ i2 ∧ i1 ≠ i2) :
  Turn P w K (.Tuple elts kt tp) (Lv K b1 b2 a b) [z,TI,TO,i1,i2] z (fun i h => IsZip h z TI TO .none ∧ IsPair h TI (.ref i1) (.ref i2) ∧ (∃ u v,IsPair h TO u v) ∧ bf b1 h i1 a i ∧ bf b2 h i2 b i) where
 mem:=by simp
 obj:=fun i h ⟨hz,gn,⟨u,v,gI⟩,h1,h2⟩ c hc => by
  have ba:c = z ∨ c = TI ∨ c = TO ∨ c = i1 ∨ c = i2:=by simpa using hc
  rcases ba with rfl | rfl | rfl | rfl | rfl
  ·exact ⟨_,hz,fun v q => by have q':Data.fields _ = Data.cell v:=q; cases q'⟩
  ·exact ⟨_,gn,fun v q => by have q':Data.seq _ _ = Data.cell v:=q; cases q'⟩
  ·exact ⟨_,gI,fun v q => by have q':Data.seq _ _ = Data.cell v:=q; cases q'⟩
  ·obtain ⟨o,n,vs,e,_,d⟩:=h1.there
   exact ⟨o,e,fun v q => by rw [d] at q; cases q⟩
  ·obtain ⟨o,n,vs,e,_,d⟩:=h2.there
   exact ⟨o,e,fun v q => by rw [d] at q; cases q⟩
 keep:=fun i h h' ⟨hz,gn,⟨u,v,gI⟩,h1,h2⟩ k => ⟨k z (by simp) _ hz,k TI (by simp) _ gn,⟨u,v,k TO (by simp) _ gI⟩,h1.keep fun o e => k i1 (by simp) o e,h2.keep fun o e => k i2 (by simp) o e⟩
 item:=by
  intro X hP hw hK hc i af s σ H E I hf st hg
  subst hP hw hK
  obtain ⟨hz,gn,⟨u,v,gI⟩,h1,h2⟩:=st
  obtain ⟨xs,ys,x,y,sx,sy,ex,ey⟩:=hg
  obtain ⟨aH,rv,p,_⟩:=I.xm sx
  obtain ⟨cK,yn,p2,_⟩:=I.xm sy
  obtain ⟨ux,Im,rx⟩:=rv.get ex
  obtain ⟨uy,Lw,ry⟩:=yn.get ey
  obtain ⟨n1,n2,n3,n4,n5,n6,n7,n8,n9,E3⟩:=ne
  have fz:=hf z (by simp)
  have bM:∀ {b:Bool} {l:Addr} {zs:List V},qh b X.K H l zs → ∀ c ∈ [z,TI,TO,i1,i2],l ≠ c:=fun {b l zs} hs c ba => I.uv hs (hf c ba)
  have D:ZipApart z TI TO i1 i2 a b:=⟨n1.symm,n2.symm,n3.symm,n4.symm,n5,n6,n7,n8,n9,E3,bM sx z (by simp),bM sx TO (by simp),bM sx i1 (by simp),bM sx i2 (by simp),bM sy z (by simp),bM sy TO (by simp),bM sy i1 (by simp),bM sy i2 (by simp)⟩
  refine vR (b1:=b1) (b2:=b2) D hz gn gI h1 h2 p p2 (x:=ux) (y:=uy) (by simpa using Im) (by simpa using Lw) fun h' a1 a2 a3 a4 a5 a6 => ⟨_,rfl,?_⟩
  have hT:H s.heap.objs.size = none:=I.bt.fresh (Nat.le_refl _)
  have Bk:∀ c ∈ [z,TO,i1,i2],H c = none:=fun c ba => (hf c (by simp at ba ⊢; rcases ba with q | q | q | q <;> simp [q])).1
  have kp:∀ c o,c ∉ [z,TO,i1,i2] → s.heap.get? c = some o → h'.get? c = some o:=fun c o ba e => a6 c o (fun q => ba (by simp [q])) (fun q => ba (by simp [q])) (fun q => ba (by simp [q])) (fun q => ba (by simp [q])) e
  have kU:∀ c o,H c = some o → c ∉ [z,TO,i1,i2]:=fun c o e ba => by rw [Bk c ba] at e; cases e
  have bt:fS X.prog X.w (upd H s.heap.objs.size (.tup [x,y])) h':=fun c o e => by
   by_cases Dq:c = s.heap.objs.size
   ·subst Dq
    rw [a8] at e
    cases e
    exact ⟨by show 2 ≤ sizeLine; decide,[ux,uy],.cons rx (.cons ry .nil),_,a5,rfl,_,rfl⟩
   ·rw [aJ Dq] at e
    refine (I.bt c o e).iH (fun d v hd q => kp d v ?_ q) (fun d q => by rw [aJ (aK q hT)]; exact q) fun d zs q => by rw [aJ (aK q hT)]; exact q
    rcases hd with q' | q'
    ·rw [q']; exact kU c o e
    ·exact kU d _ q'
  have un:Un (ei X.stack) [z,TO,i1,i2] H (upd H s.heap.objs.size (.tup [x,y])) s.heap h' :=
   ⟨fun c o e n _ ba => kp c o ba e,fun c o e n _ ba => ⟨o.slots,kp c o ba e⟩,fun c o e n ba => by rw [aJ (Nat.ne_of_lt (Heap.lt_size e))]; exact n,fun c o e ba => ⟨o,kp c o ba e⟩,
    fun c zs e => by rw [aJ (aK e hT)]; exact e,fun c o u e => by rw [aJ (aK e hT)]; exact e,fun c ps e => ⟨#[],by rw [aJ (aK e hT),e]; simp⟩⟩
  have I1:aG X af σ (upd H s.heap.objs.size (.tup [x,y])) { s with heap:=h' }:=I.kZ rfl un bt I.bare fun c ba => by
   obtain ⟨f0,f1,f2,f3,f4,f5⟩:=hf c (by simp at ba ⊢; rcases ba with q | q | q | q <;> simp [q])
   exact ⟨f3,f1,f4,f5⟩
  have Lx:∀ c ∈ [z,TI,TO,i1,i2],c ≠ s.heap.objs.size:=fun c ba q => by
   have jC:c < s.heap.objs.size:=by
    have yo:c = z ∨ c = TI ∨ c = TO ∨ c = i1 ∨ c = i2:=by simpa using ba
    rcases yo with r | r | r | r | r
    ·rw [r]; exact Heap.lt_size hz
    ·rw [r]; exact Heap.lt_size gn
    ·rw [r]; exact Heap.lt_size gI
    ·obtain ⟨o,_,_,e,_⟩:=h1.there; rw [r]; exact Heap.lt_size e
    ·obtain ⟨o,_,_,e,_⟩:=h2.there; rw [r]; exact Heap.lt_size e
   exact absurd jC (by rw [q]; exact Nat.lt_irrefl _)
  have E4:∀ c ∈ [z,TI,TO,i1,i2],(upd H s.heap.objs.size (.tup [x,y])) c = none:=fun c ba => by rw [aJ (Lx c ba)]; exact (hf c ba).1
  refine wpAny_letOwnedTupleGo_zip a1 fun Bl Ly sb => ?_
  obtain ⟨f0,f1,f2,f3,f4,f5⟩:=fz
  have I2:aG X af σ (upd H s.heap.objs.size (.tup [x,y])) { s with heap:=Bl }:=I1.turned (s:={ s with heap:=h' }) (t':=s.toks) (it:=z) (fun c o ba e => (sb.2 c ba).trans e) (E4 z (by simp)) f1 f3 f4 f5
  refine ⟨.ref s.heap.objs.size,_,I2,rfl,⟨_,x,y,rfl,hT,rfl,fun zs hs => by rw [I.kN hs sx]; exact ex,fun zs hs => by rw [I.kN hs sy]; exact ey⟩,⟨Ly,?_,⟨_,_,sb.extBut _ _ n2.symm a2⟩,a3.keep fun o e => sb.extBut _ o n3.symm e,a4.keep fun o e => sb.extBut _ o n4.symm e⟩,E4⟩
  exact sb.extBut _ _ n1.symm (a6 _ _ n1.symm n5 n6 n7 gn)
 done:=by
  intro X hP hw hK hc i af s σ H E I hf st hg
  subst hP hw hK
  obtain ⟨hz,gn,⟨u,v,gI⟩,h1,h2⟩:=st
  obtain ⟨xs,ys,sx,sy,hl⟩:=hg
  obtain ⟨aH,rv,p,_⟩:=I.xm sx
  obtain ⟨cK,yn,p2,_⟩:=I.xm sy
  have l1:=rv.length
  have l2:=yn.length
  obtain ⟨n1,n2,n3,n4,n5,n6,n7,n8,n9,E3⟩:=ne
  have bM:∀ {b:Bool} {l:Addr} {zs:List V},qh b X.K H l zs → ∀ c ∈ [z,TI,TO,i1,i2],l ≠ c:=fun {b l zs} hs c ba => I.uv hs (hf c ba)
  have D:ZipApart z TI TO i1 i2 a b:=⟨n1.symm,n2.symm,n3.symm,n4.symm,n5,n6,n7,n8,n9,E3,bM sx z (by simp),bM sx TO (by simp),bM sx i1 (by simp),bM sx i2 (by simp),bM sy z (by simp),bM sy TO (by simp),bM sy i1 (by simp),bM sy i2 (by simp)⟩
  refine yj (b1:=b1) (b2:=b2) (I.ok.hd hc) D hz gn gI h1 h2 p p2 (by rcases hl with q | q; exact .inl (by simp; lia); exact .inr (by simp; lia)) fun h' a6 => ⟨rfl,?_⟩
  have Bk:∀ c ∈ [z,TO,i1,i2],H c = none:=fun c ba => (hf c (by simp at ba ⊢; rcases ba with q | q | q | q <;> simp [q])).1
  have kp:∀ c o,c ∉ [z,TO,i1,i2] → s.heap.get? c = some o → h'.get? c = some o:=fun c o ba e => a6 c o (fun q => ba (by simp [q])) (fun q => ba (by simp [q])) (fun q => ba (by simp [q])) (fun q => ba (by simp [q])) e
  have kU:∀ c o,H c = some o → c ∉ [z,TO,i1,i2]:=fun c o e ba => by rw [Bk c ba] at e; cases e
  have bt:fS X.prog X.w H h':=fun c o e => by
   refine (I.bt c o e).iH (fun d v hd q => kp d v ?_ q) (fun d q => q) fun d zs q => q
   rcases hd with q' | q'
   ·rw [q']; exact kU c o e
   ·exact kU d _ q'
  have un:Un (ei X.stack) [z,TO,i1,i2] H H s.heap h' :=
   ⟨fun c o e n _ ba => kp c o ba e,fun c o e n _ ba => ⟨o.slots,kp c o ba e⟩,fun c o e n ba => n,fun c o e ba => ⟨o,kp c o ba e⟩,fun c zs e => e,fun c o u e => e,fun c ps e => ⟨#[],by rw [e]; simp⟩⟩
  exact I.kZ rfl un bt I.bare fun c ba => by
   obtain ⟨f0,f1,f2,f3,f4,f5⟩:=hf c (by simp at ba ⊢; rcases ba with q | q | q | q <;> simp [q])
   exact ⟨f3,f1,f4,f5⟩
 self:=fun _ _ _ _ _ st h => wpAny_pyIter_zip st.1 h
section
variable {X:Cx} {elts:List Expr} {kt:Nat} {tp p pos:Pos}
noncomputable def Io (K:PySem.W.Frag) (b1 b2:Bool) (ta:TA):TI:=fun σ H R => ta σ H fun vs H1 => ∃ a b,vs = [.ref a,.ref b] ∧ (∃ xs,qh b1 K H1 a xs) ∧ (∃ ys,qh b2 K H1 b ys) ∧ R (Lv K b1 b2 a b) H1
theorem E5 (b1 b2:Bool) {ea eb:Expr} {ta:TA} (hg:Gl X "zip") (hm:X.mg "zip" = none) (ha:PA X [ea,eb] ta) (hs:starEach [ea,eb] X.env = [(false,eval ea X.env),(false,eval eb X.env)]:=by rfl) (bT:starEach [eb] X.env = [(false,eval eb X.env)]:=by rfl) :
  PI X (.Tuple elts kt tp) (.Call (.Name "zip" p) [ea,eb] [] pos) (Io X.K b1 b2 ta):=by
 intro af s σ H R I h
 refine Call_ (gg I hg hm boot_zip (PyProof.Rows.callWith_type1 (cJ (ha pos af s σ H _ I h) fun us s1 ⟨vs,H1,I1,r1,q1⟩ => ?_) (by rw [hs,bT]) (by rw [bT]; rfl)))
 obtain ⟨a,b,e,⟨xs,sx⟩,⟨ys,sy⟩,q⟩:=q1
 subst e
 obtain ⟨u,u2,rfl,ru,Bm⟩:=vals2 r1
 cases ru
 cases Bm
 obtain ⟨aH,rv,p1,_⟩:=I1.xm sx
 obtain ⟨cK,yn,p2,_⟩:=I1.xm sy
 refine qg (b1:=b1) (b2:=b2) p1 p2 fun h' hz gn gI g1 g2 kp => wpAny_pyIter_zip hz ?_
 have I2:aG X af σ H1 { s1 with heap:=h' }:=I1.kept (t':=s1.toks) kp
 refine ⟨_,[s1.heap.objs.size + 4,s1.heap.objs.size + 2,s1.heap.objs.size + 3,s1.heap.objs.size,s1.heap.objs.size + 1],_,_,H1,rfl,I2,ym (b1:=b1) (b2:=b2) a b ?_,⟨hz,gn,⟨_,_,gI⟩,g1,g2⟩,fun c hc => ?_,q⟩
 ·refine ⟨?_,?_,?_,?_,?_,?_,?_,?_,?_,?_⟩ <;> (intro z; have z':(_:Nat) = _:=z; lia)
 ·have hle:s1.heap.objs.size ≤ c:=by
   have ba:c = s1.heap.objs.size + 4 ∨ c = s1.heap.objs.size + 2 ∨ c = s1.heap.objs.size + 3 ∨ c = s1.heap.objs.size ∨ c = s1.heap.objs.size + 1:=by simpa using hc
   rcases ba with r | r | r | r | r <;> (rw [r]; first | exact Nat.le_refl _ | exact Nat.le_add_right _ _)
  exact I1.rZ hle (I1.bt.fresh hle)
end
end L2
namespace L2
open PySem PySem.Spec PyProof.Rows
theorem bL.there {P:Program} {w:World} {H:Hp} {h:Heap} {a:Addr} {o:HO} (x:bL P w H h a o):∃ ob,h.get? a = some ob:=by
 cases o with
 | lst xs => obtain ⟨_,_,_,_,e⟩:=x; exact ⟨_,e⟩
 | tup xs => obtain ⟨_,_,_,ob,e,_⟩:=x; exact ⟨_,e⟩
 | dK aD => obtain ⟨_,_,_,_,o,_,_,e,_⟩:=x; exact ⟨_,e⟩
 | dT aD => obtain ⟨_,_,_,_,o,_,_,e,_⟩:=x; exact ⟨_,e⟩
 | set S n => obtain ⟨o,_,_,_,e,_⟩:=x; exact ⟨_,e⟩
 | ins C dx fs => obtain ⟨_,_,_,e,_⟩:=x; exact ⟨_,e⟩
 | own y => obtain ⟨_,e⟩:=x; exact ⟨_,e⟩
 | xd fs => obtain ⟨_,⟨_,_,_,e,_⟩,_⟩:=x; exact ⟨_,e⟩
 | JN lo hi => obtain ⟨_,_,_,e⟩:=x; exact ⟨_,e⟩
 | fh ob u => obtain ⟨e,_⟩:=x; exact ⟨_,e⟩
 | Ao ps => exact ⟨_,(show h.get? a = some _ from x)⟩
 | met f y => exact ⟨_,(show h.get? a = some _ from x)⟩
 | ext φ => obtain ⟨_,e,_⟩:=x; exact e
structure ND (P:Program) (w:World) (l:List Env) (H H':Hp) (s s':Shared) (ea:Addr) (cls:Value):Prop where
 os:s'.os = s.os
 bare:AllBare s'.gens
 un:Un (ei l) [] H H' s.heap s'.heap
 bt:fS P w H' s'.heap
 fl:∃ (B:Heap) (t:Addr),Heap.FlyingW B l ea cls (.ref t) s'.heap ∧ (∀ b,H' b ≠ none → ∃ o,B.get? b = some o) ∧ (∀ b o,s.heap.get? b = some o → b ∉ ei l → ∃ o',B.get? b = some o')
noncomputable def gT (P:Program) (w:World):rQ:=fun outer H s E e s' => ∃ ea cls H',e = .ref ea ∧ ND P w outer H H' s s' ea cls ∧ E cls none H'
section
variable {P:Program} {w:World} {K:PySem.W.Frag} {mg:Str → Option Value} {base:Heap} {N:List Str} {qual:Str} {scope:Scope} {f:Addr} {cd:Value} {A:Around} {outer:List Env} {s₀:Shared} {H₀:Hp} {E:XK}
theorem qi {env:Env} {L:Addr} (hf:env.frame = some L) (l:List Env):ei (env :: l) = L :: ei l:=by
 unfold ei
 rw [List.filterMap_cons,hf]
theorem vS {af:List (Addr × Obj)} {σ:St} {H:Hp} {s:Shared} {h':Heap} {e:Addr} {cls:Value} {vs:List Value} (I:aG (eO (gT P w) P w K mg base N qual scope f cd A outer s₀ H₀ E) af σ H s)
  (hx:Heap.MadeExcOf s.heap h' e cls vs) (hE:E cls none H):(eO (gT P w) P w K mg base N qual scope f cd A outer s₀ H₀ E).xe (.ref e) { s with heap:=h' }:=by
 have vy:=I.stack
 have uf:=I.oJ
 have Ip:(A.deeper (envOfC qual scope s₀.heap.objs.size f cd)).frames = some (envOfC qual scope s₀.heap.objs.size f cd :: outer):=I.ok.frames
 have Iq:ei (envOfC qual scope s₀.heap.objs.size f cd :: outer) = s₀.heap.objs.size :: ei outer:=qi rfl outer
 have Dr:∀ env ∈ (envOfC qual scope s₀.heap.objs.size f cd :: outer),∀ b,env.frame = some b → b ∈ ei (envOfC qual scope s₀.heap.objs.size f cd :: outer):=fun env he b hb => List.mem_filterMap.mpr ⟨env,he,hb⟩
 have Ds:∀ b o,s₀.heap.get? b = some o → b ∉ ei outer → b ∉ ei (envOfC qual scope s₀.heap.objs.size f cd :: outer):=fun b o q hb hm => by
  rw [Iq] at hm
  rcases List.mem_cons.mp hm with z | z
  ·exact absurd (Heap.lt_size q) (by rw [z]; exact Nat.lt_irrefl _)
  ·exact hb z
 refine wpAny_leaves_madeW (base:=PySem.W.hideAll s.heap (ei (envOfC qual scope s₀.heap.objs.size f cd :: outer))) (h:=s.heap) Ip rfl (fun b o q => PySem.W.of_hideAll _ q) (PySem.W.funFrames_hide vy Dr) hx fun Bl t fl _ _ up => ?_
 have stays:∀ b o,s.heap.get? b = some o → b ∉ ei (envOfC qual scope s₀.heap.objs.size f cd :: outer) → Bl.get? b = some o:=fun b o q hb => fl.1 b o (PySem.W.hideAll_get _ q hb)
 have kU:∀ b u,H b = some u → b ∉ ei (envOfC qual scope s₀.heap.objs.size f cd :: outer):=fun b u q hb => by rw [uf b hb] at q; cases q
 have slot:∀ b o,s₀.heap.get? b = some o → H₀ b = none → b ∈ ei outer → ∃ sl,Bl.get? b = some { o with slots:=sl }:=fun b o q n hb => by
  obtain ⟨sl,e1⟩:=I.base.slot b o q n hb (by intro z; cases z)
  obtain ⟨_,o',mQ,Bn⟩:=vy.mem (show b ∈ ei (envOfC qual scope s₀.heap.objs.size f cd :: outer) by rw [Iq]; exact List.mem_cons_of_mem _ hb)
  rw [e1] at mQ
  cases mQ
  obtain ⟨C?,e2⟩:=up b _ (hx.keeps _ _ e1) Bn
  exact ⟨C?,e2⟩
 have nil:∀ b:Addr,b ∉ (eO (gT P w) P w K mg base N qual scope f cd A outer s₀ H₀ E).ex:=fun b z => by cases z
 refine ⟨e,cls,H,rfl,⟨I.os,I.bare,⟨fun b o q n hb _ => stays b o (I.base.keep b o q n hb (nil b)) (Ds b o q hb),fun b o q n hb _ => slot b o q n hb,fun b o q n _ => I.base.free b o q n (nil b),fun b o q _ => ?_,I.base.iI,I.base.ic,I.base.i!⟩,fun b u q => ?_,PySem.W.hideAll s.heap (ei (envOfC qual scope s₀.heap.objs.size f cd :: outer)),t,fl,fun b hb => ?_,fun b o q hb => ?_⟩,hE⟩
 ·by_cases hb:b ∈ ei outer
  ·obtain ⟨sl,e1⟩:=slot b o q (I.ok.xC b hb) hb
   exact ⟨_,e1⟩
  ·obtain ⟨o',e1⟩:=I.base.there b o q (nil b)
   exact ⟨o',stays b o' e1 (Ds b o q hb)⟩
 ·refine (I.bt b u q).iH (fun c v hc z => stays c v z ?_) (fun _ z => z) fun _ _ z => z
  rcases hc with z' | z'
  ·rw [z']; exact kU b u q
  ·exact kU c _ z'
 ·cases q:H b with
  | none => exact absurd q hb
  | some u =>
   obtain ⟨o,e1⟩:=(I.bt b u q).there
   exact ⟨o,PySem.W.hideAll_get _ e1 (kU b u q)⟩
 ·obtain ⟨o',e1⟩:=I.base.there b o q (nil b)
  exact ⟨o',PySem.W.hideAll_get _ e1 (Ds b o q hb)⟩
theorem lC:Passes (gT P w) (eO (gT P w) P w K mg base N qual scope f cd A outer s₀ H₀ E) E:=by
 rintro af σ H s e s' I ⟨ea,cls,H',rfl,Z,hE⟩
 obtain ⟨B,t,fl,ct,cs⟩:=Z.fl
 have Ip:(A.deeper (envOfC qual scope s₀.heap.objs.size f cd)).frames = some (envOfC qual scope s₀.heap.objs.size f cd :: outer):=I.ok.frames
 have Iq:ei (envOfC qual scope s₀.heap.objs.size f cd :: outer) = s₀.heap.objs.size :: ei outer:=qi rfl outer
 have Ds:∀ b o,s₀.heap.get? b = some o → b ∉ ei outer → b ∉ ei (envOfC qual scope s₀.heap.objs.size f cd :: outer):=fun b o q hb hm => by
  rw [Iq] at hm
  rcases List.mem_cons.mp hm with z | z
  ·exact absurd (Heap.lt_size q) (by rw [z]; exact Nat.lt_irrefl _)
  ·exact hb z
 have sub:∀ b,b ∈ ei outer → b ∈ ei (envOfC qual scope s₀.heap.objs.size f cd :: outer):=fun b hb => by rw [Iq]; exact List.mem_cons_of_mem _ hb
 have nil:∀ b:Addr,b ∉ (eO (gT P w) P w K mg base N qual scope f cd A outer s₀ H₀ E).ex:=fun b z => by cases z
 refine wpAny_leaves_onW Ip rfl fl fun Bl Lz up => ?_
 have Bo:∀ b o,s'.heap.get? b = some o → (∃ o',B.get? b = some o') → Bl.get? b = some o:=fun b o q ⟨o',z⟩ => by
  have q':=fl.1 b o' z
  rw [q] at q'
  cases q'
  exact Lz.1 b o z
 have slot:∀ b o,s₀.heap.get? b = some o → H₀ b = none → b ∈ ei outer → ∃ sl,Bl.get? b = some { o with slots:=sl }:=fun b o q n hb => by
  obtain ⟨sl,e1⟩:=I.base.slot b o q n hb (nil b)
  obtain ⟨HL,e2⟩:=Z.un.slot b _ e1 (I.base.free b o q n (nil b)) (sub b hb) (by intro z; cases z)
  obtain ⟨_,o',mQ,Bn⟩:=fl.2.2.1.mem (sub b hb)
  rw [e2] at mQ
  cases mQ
  obtain ⟨C?,e3⟩:=up b _ e2 Bn
  exact ⟨C?,e3⟩
 refine ⟨ea,cls,H',rfl,⟨Z.os.trans I.os,Z.bare,⟨fun b o q n hb _ => ?_,fun b o q n hb _ => slot b o q n hb,fun b o q n _ => ?_,fun b o q _ => ?_,fun b xs q => Z.un.iI b xs (I.base.iI b xs q),fun b o u q => Z.un.ic b o u (I.base.ic b o u q),fun b ps q => ?_⟩,fun b u q => ?_,B,t,Lz,ct,fun b o q hb => ?_⟩,hE⟩
 ·have e1:=I.base.keep b o q n hb (nil b)
  have n1:=I.base.free b o q n (nil b)
  have nf:=Ds b o q hb
  exact Bo b o (Z.un.keep b o e1 n1 nf (by intro z; cases z)) (cs b o e1 nf)
 ·obtain ⟨o',e1⟩:=I.base.there b o q (nil b)
  exact Z.un.free b o' e1 (I.base.free b o q n (nil b)) (by intro z; cases z)
 ·by_cases hb:b ∈ ei outer
  ·obtain ⟨sl,e1⟩:=slot b o q (I.ok.xC b hb) hb
   exact ⟨_,e1⟩
  ·obtain ⟨o',e1⟩:=I.base.there b o q (nil b)
   obtain ⟨o2,e2⟩:=cs b o' e1 (Ds b o q hb)
   exact ⟨o2,Lz.1 b o2 e2⟩
 ·obtain ⟨m1,e1⟩:=I.base.i! b ps q
  obtain ⟨m2,e2⟩:=Z.un.i! b _ e1
  exact ⟨m1 ++ m2,by rw [e2,Array.append_assoc]⟩
 ·refine (Z.bt b u q).iH (fun c v hc z => Bo c v z (ct c ?_)) (fun _ z => z) fun _ _ z => z
  rcases hc with z' | z'
  ·rw [z',q]; simp
  ·rw [z']; simp
 ·obtain ⟨o',e1⟩:=I.base.there b o q (nil b)
  exact cs b o' e1 (Ds b o q hb)
theorem Au.OJ {x:Str} {st:Stmt} {fd:FuncData} {ps:List Str} {k:Nat} {sp:Sp} (F:Au K x qual st f fd) (S:cw N ps (aE st)) (len:∀ vs H Q E,sp vs H Q E → vs.length = ps.length)
  (xU:∀ (cZ:Value) (A:Around) (outer:List Env) (s:Shared) (H:Hp) (vs:List V) (Q:VK) (E:XK),cL k (A.deeper (envOfC qual (aE st) s.heap.objs.size f cZ)) → sp vs H Q E →
   ∃ t,gS (eO (gT P w) P w K mg base N qual (aE st) f cZ A outer s H E) (b! st) t ∧ t { nx:=fun _ H' => Q .bE H',rt:=Q } (start N vs) H):d8 P w K mg base (gT P w) (k + 1) f fd ps sp:=by
 obtain ⟨oc,od,kV,doc,pm,an,cZ,ct,xl,rfl,lk,pZ⟩:=F.ex
 exact HJ lk pZ S len fun A outer s H vs Q E hr Dh => xU cZ A outer s H vs Q E hr Dh
end
theorem vT {K:PySem.W.Frag} {h:Heap} {mg:Str → Option Value} {x:Str} {C:Addr} {NF:List Value} {newId:String} (X:K.In h) (hb:mg x = some (.ref C)) (q:PySem.W.excIn K C NF newId = true):OwnCls x C NF newId mg h:=by
 refine ⟨hb,?_⟩
 unfold PySem.W.excIn at q
 split at q
 ·rename_i dd cd sl ho
  split at q
  ·rename_i C' bm k0 k1 k2 k3 n k5 hm hs
   simp only [Bool.and_eq_true,beq_iff_eq,Bool.not_eq_true'] at q
   obtain ⟨⟨⟨⟨⟨rfl,rfl⟩,Ir⟩,ht⟩,bt⟩,J8⟩:=q
   obtain ⟨nm,bs,mro,ns,qn,hd,sn,sub,ab,col,del⟩:=cd
   dsimp only at hm Ir bt J8
   subst hm Ir
   have OK:sl = #[k0,k1,k2,k3,some (.builtin n),k5]:=by
    obtain ⟨l⟩:=sl
    simp only at hs
    rw [hs]
   subst OK
   exact ⟨bm,ns,nm,qn,bs,hd,sn,sub,ab,col,dd,k0,k1,k2,k3,k5,_,X _ _ ho,.of_isNs (PySem.W.isNs_of_in X bt),PySem.W.nsMap_none_of_in X bt J8,PySem.W.tail_of_in X ht⟩
  ·cases q
 ·cases q
noncomputable def E6 (E:XK) (C:Addr) (t:TA):TS:=fun _ σ H => t σ H fun vs H1 => vs.length ≤ sizeLine ∧ E (.ref C) none H1
noncomputable def Raises (X:Cx) (E:XK):Prop:=∀ (af:List (Addr × Obj)) (σ:St) (H:Hp) (s:Shared) (h':Heap) (e:Addr) (cls:Value) (vs:List Value),aG X af σ H s → Heap.MadeExcOf s.heap h' e cls vs → E cls none H → X.xe (.ref e) { s with heap:=h' }
theorem yp {X:Cx} {E:XK} {x:Str} {C:Addr} {B newId sF:String} {bm:List Value} {np bO pos:Pos} {e₀:Expr} {rest:List Expr} {t:TA} (hX:Raises X E) (hc:X.calm = true) (hm:X.mg x = some (.ref C)) (hq:PySem.W.excIn X.K C bm newId = true) (FB:ExcBaseFacts B newId sF bm) (hg:Gl X x) (ha:PA X (e₀ :: rest) t)
  (he:starEach (e₀ :: rest) X.env = (false,eval e₀ X.env) :: starEach rest X.env:=by rfl) (eM:(backTo bO (starEach rest X.env)).any (·.1) = false:=by rfl) (hd:(x == ("__debug__":Str)) = false:=by decide) :
  PS X (.Raise (some (.Call (.Name x np) (e₀ :: rest) [] bO)) none pos) (E6 E C t):=by
 intro af s σ H D I h
 obtain ⟨tl,NS,nm,q,bs,hdct,sn,sub,ab,col,dd,k0,k1,k2,k3,k5,mN,hC,hN,J8,T⟩:=(vT I.mod.C_ hm hq).obj
 refine wpAny_Raise_call_subT (C:=C) (nm:=nm) (q:=q) (N:=NS) (bs:=bs) (bm:=tl) (hdct:=hdct) (sn:=sn) (sub:=sub) (ab:=ab) (col:=col) (dd:=dd) (k0:=k0) (k1:=k1) (k2:=k2) (k3:=k3) (k5:=k5)
  FB (mN:=mN) (T.hasType FB.hasBase) (I.ok.hd hc) (by rw [he]; show (false || (backTo bO (starEach rest X.env)).any (·.1)) = false; rw [eM]; rfl) J8 (hU I hg hm ⟨rfl,?_⟩ hd)
 have hA:=ha bO af s σ H _ I h
 rw [he] at hA ⊢
 exact Calls.evalArgs_plain (cJ hA fun us s2 ⟨vs,H2,I2,r2,z,q2⟩ => ⟨rfl,by rw [← r2.length]; exact z,I2.bk _ _ hC,hN.keeps I2.bk,T.keeps I2.bk,fun h' e Iu => hX af σ H2 s2 h' e _ _ I2 Iu q2⟩)
end L2
namespace L2
open PySem PySem.Spec PyProof.Rows
structure DefX (X:Cx):Prop where
 fn:∀ y,X.fn y = true
 Az:X.stack = X.env :: X.outer
 fr:X.env.frame = some X.env.locals
structure qj (X:Cx) (af:List (Addr × Obj)) (σ:St) (H:Hp) (s:Shared) (ea:Addr) (cls:Value):Prop where
 inv:aG X af σ H s
 fl:∃ (B:Heap) (t:Addr),Heap.FlyingW B X.stack ea cls (.ref t) s.heap ∧ (∀ b,H b ≠ none → ∃ o,B.get? b = some o) ∧ (∀ b o,X.s₀.heap.get? b = some o → b ∉ ei X.stack → b ∉ X.ex → ∃ o',B.get? b = some o') ∧ (∀ p ∈ X.pn ++ af,∃ o',B.get? p.1 = some o') ∧ (∀ x c,X.env.cells.lookup x = some c → ∃ o,B.get? c = some o)
section
variable {X:Cx} {af:List (Addr × Obj)} {σ:St} {H H':Hp} {s s':Shared} {ea:Addr} {cls:Value}
theorem aG.Bp (I:aG X af σ H s) {b:Addr} (h1:b ≠ X.env.locals) (h2:b ∉ X.fs):b ∉ ei X.stack:=fun z => (List.mem_cons.mp (I.kW b z)).elim h1 h2
theorem aG.slots {B h':Heap} (I:aG X af σ H s) (sB:B.StaysIn s.heap) (c1:∀ b,H b ≠ none → ∃ o,B.get? b = some o) (c2:∀ b o,X.s₀.heap.get? b = some o → b ∉ ei X.stack → b ∉ X.ex → ∃ o',B.get? b = some o') (c3:∀ p ∈ X.pn ++ af,∃ o',B.get? p.1 = some o')
  (c4:∀ x c,X.env.cells.lookup x = some c → ∃ o,B.get? c = some o) (k1:B.StaysIn h') (k2:s.heap.UpToSlots h'):aG X af σ H { s with heap:=h' }:=by
 have Bo:∀ b o,s.heap.get? b = some o → (∃ o',B.get? b = some o') → h'.get? b = some o:=fun b o q ⟨o',z⟩ => by
  have q':=sB b o' z
  rw [q] at q'
  cases q'
  exact k1 b o z
 have xD:∀ b o,X.s₀.heap.get? b = some o → b ≠ X.env.locals:=fun b o e => Nat.ne_of_lt (Nat.lt_of_lt_of_le (Heap.lt_size e) I.ok.above)
 have slot:∀ b o,X.s₀.heap.get? b = some o → X.H₀ b = none → b ∈ X.fs → b ∉ X.ex → ∃ sl,h'.get? b = some { o with slots:=sl }:=fun b o q n hb hx => by
  obtain ⟨sl,e1⟩:=I.base.slot b o q n hb hx
  obtain ⟨_,o',mQ,Bn⟩:=I.ie.mem hb
  rw [e1] at mQ
  cases mQ
  obtain ⟨C?,e2⟩:=k2 b _ e1 Bn
  exact ⟨C?,e2⟩
 refine ⟨I.ok,I.os,I.bare,⟨fun b o q n hb hx => ?_,slot,I.base.free,fun b o q hx => ?_,I.base.iI,I.base.ic,I.base.i!⟩,?_,fun x c e => ?_,I.free,I.fo,fun p hp => ?_,fun b u q => ?_,I.len⟩
 ·exact Bo b o (I.base.keep b o q n hb hx) (c2 b o q (I.Bp (xD b o q) hb) hx)
 ·by_cases hb:b ∈ X.fs
  ·obtain ⟨sl,e1⟩:=slot b o q (I.ok.xC b hb) hb hx
   exact ⟨_,e1⟩
  ·obtain ⟨o',e1⟩:=I.base.there b o q hx
   exact ⟨o',Bo b o' e1 (c2 b o q (I.Bp (xD b o q) hb) hx)⟩
 ·obtain ⟨m,hn,hl⟩:=I.loc
  refine ⟨m,k2.ns hn,fun i x v e1 e2 e3 => ?_⟩
  obtain ⟨u,r,l⟩:=hl i x v e1 e2 e3
  refine ⟨u,r,?_⟩
  rcases l with l | ⟨k,c,e,o,ho,hd⟩
  ·exact .inl l
  ·exact .inr ⟨k,c,e,o,Bo c o ho (c4 x c e),hd⟩
 ·obtain ⟨v,o,ho,hd⟩:=I.cell x c e
  exact ⟨v,o,Bo c o ho (c4 x c e),hd⟩
 ·obtain ⟨e,n,ne,nf,d⟩:=I.pin p hp
  exact ⟨Bo p.1 p.2 e (c3 p hp),n,ne,nf,d⟩
 ·refine (I.bt b u q).iH (fun c v hc z => Bo c v z (c1 c ?_)) (fun _ z => z) fun _ _ z => z
  rcases hc with z' | z'
  ·rw [z',q]; simp
  ·rw [z']; simp
theorem qj.slots (J:qj X af σ H s ea cls):∃ (B:Heap) (t:Addr),Heap.FlyingW B X.stack ea cls (.ref t) s.heap ∧ H ea = none ∧ ∀ h',Heap.FlyingW B X.stack ea cls (.ref t) h' → s.heap.UpToSlots h' → qj X af σ H { s with heap:=h' } ea cls:=by
 obtain ⟨B,t,fl,c1,c2,c3,c4⟩:=J.fl
 refine ⟨B,t,fl,?_,fun h' f2 up => ⟨J.inv.slots fl.1 c1 c2 c3 c4 f2.1 up,B,t,f2,c1,c2,c3,c4⟩⟩
 cases q:H ea with
 | none => rfl
 | some u =>
  obtain ⟨o,e⟩:=c1 ea (by rw [q]; simp)
  rw [fl.2.1] at e
  cases e
theorem aG.flew (I:aG X af σ H s) (xE:∀ y,X.fn y = true) (Z:ND X.prog X.w X.stack H H' s s' ea cls):qj X af σ H' s' ea cls:=by
 obtain ⟨B,t,fl,ct,cs⟩:=Z.fl
 have cl:∀ x c,X.env.cells.lookup x = some c → c ∉ ei X.stack:=fun x c e => I.Bp (I.Ap x c e) fun hb => by
  obtain ⟨_,o,ho,_⟩:=I.ok.ie.mem hb
  exact absurd (Nat.lt_of_lt_of_le (Heap.lt_size ho) (I.ok.DY x c (xE x) e)) (Nat.lt_irrefl _)
 refine ⟨I.kZ Z.os Z.un Z.bt Z.bare fun b z => absurd z (by simp),B,t,fl,ct,fun b o q hb hx => ?_,fun p hp => ?_,fun x c e => ?_⟩
 ·obtain ⟨o',e1⟩:=I.base.there b o q hx
  exact cs b o' e1 hb
 ·obtain ⟨e,n,ne,nf,d⟩:=I.pin p hp
  exact cs p.1 p.2 e (I.Bp ne nf)
 ·obtain ⟨v,o,ho,_⟩:=I.cell x c e
  exact cs c o ho (cl x c e)
end
noncomputable abbrev EK:=Value → Addr → St → Hp → Prop
noncomputable abbrev EH:=Value → Addr → Hp → Prop
noncomputable abbrev Iv:=St → Hp → VK → EH → Prop
noncomputable abbrev E7:=Ends → EK → St → Hp → Prop
noncomputable def XP (X:Cx) (af:List (Addr × Obj)) (EX:EK) (e:Value) (s':Shared):Prop:=∃ ea cls σ' H',e = .ref ea ∧ qj X af σ' H' s' ea cls ∧ EX cls ea σ' H'
noncomputable abbrev atS (σ:St) (EX:EH):EK:=fun cls ea σ' H' => σ' = σ ∧ EX cls ea H'
noncomputable def Av (X:Cx) (e:Expr) (t:Iv):Prop :=
 ∀ (af:List (Addr × Obj)) (s:Shared) (σ:St) (H:Hp) (Q:VK) (EX:EH),aG X af σ H s → t σ H Q EX → wpAny (model X.prog X.w) X.A (eval e X.env) (EP X af σ Q) (XP X af (atS σ EX)) s
noncomputable def Bq (X:Cx) (st:Stmt) (t:E7):Prop :=
 ∀ (af:List (Addr × Obj)) (s:Shared) (σ:St) (H:Hp) (D:Ends) (EX:EK),aG X af σ H s → t D EX σ H → wpAny (model X.prog X.w) X.A (exec st X.env) (SP X af D) (XP X af EX) s
noncomputable def vU (X:Cx) (st:List Stmt) (t:E7):Prop :=
 ∀ (af:List (Addr × Obj)) (s:Shared) (σ:St) (H:Hp) (D:Ends) (EX:EK),aG X af σ H s → t D EX σ H → wpAny (model X.prog X.w) X.A (execs st X.env) (SP X af D) (XP X af EX) s
section
variable {X:Cx}
theorem XP.at {af:List (Addr × Obj)} {σ:St} {EX:EK} {e:Value} {s':Shared} (h:XP X af (atS σ fun cls ea H' => EX cls ea σ H') e s'):XP X af EX e s':=by
 obtain ⟨ea,cls,σ',H',rfl,J,rfl,q⟩:=h
 exact ⟨ea,cls,_,H',rfl,J,q⟩
noncomputable def E8 (sp:Sp) (t:TA):Iv:=fun σ H Q EX => t σ H fun vs H1 => sp vs H1 Q fun cls _ H' => ∀ ea,EX cls ea H'
theorem yq {k:Nat} {f:Addr} {fd:FuncData} {ps:List Str} {sp:Sp} {x:Str} {p pos:Pos} {e:Expr} {es:List Expr} {t:TA} (F:d8 X.prog X.w X.K X.mg X.base (gT X.prog X.w) k f fd ps sp) (hr:cL k X.A) (hg:Gl X x) (hm:X.mg x = some (.ref f)) (hk:PySem.W.keepIn X.K (.ref f) = true) (hb:Binds X.K fd ps []) (xE:∀ y,X.fn y = true)
  (ha:∀ W,PA (X.k7 W) (e :: es) t) (iK:(x == ("__debug__":Str)) = false:=by decide) (he:starEach (e :: es) X.env = (false,eval e X.env) :: starEach es X.env:=by rfl) (eM:(backTo pos (starEach es X.env)).any (·.1) = false:=by rfl) :
  Av X (.Call (.Name x p) (e :: es) [] pos) (E8 sp t):=by
 intro af s σ H Q EX I h
 refine wpAny_Call_Name_kw (hU I hg hm ?_ iK)
 refine PySem.W.callWith_K (h₀:=X.base) I.ok.mod.C_ hk (cJ (ha (XP X af (atS σ EX)) pos af s σ H _ (I.k7 _) h) fun us s1 ⟨vs,H1,I1,r,q⟩ => ⟨I1.oM.iJ,?_⟩) he eM
 have I2:=I1.oM
 have hl:(us ++ []).length = ps.length:=by rw [List.append_nil,← r.length]; exact F.len _ _ _ _ q
 have NG:=hb s1 us I2.iJ hl
 rw [List.append_nil] at NG
 refine wpAny_call (codeAny_mono (F.run X.A X.stack s1 H1 ⟨us,[]⟩ us vs Q _ hr I2.EB NG r q) fun r s' hq => ?_)
 cases r with
 | error e =>
  obtain ⟨ea,cls,H',rfl,Z,hE⟩:=hq
  exact ⟨ea,cls,σ,H',rfl,I2.flew xE Z,rfl,hE ea⟩
 | ok fl =>
  cases fl with
  | ret u => exact I2.after hq
  | next => exact False.elim hq
  | brk => exact False.elim hq
  | cont => exact False.elim hq
theorem yr {e:Expr} {te:Iv} {pos:Pos} (he:Av X e te) (hs:swapsWith e none pos.line X.env = pure false:=by rfl):Bq X (.Expr e pos) (fun D EX σ H => te σ H (fun _ H1 => D.nx σ H1) fun cls ea H' => EX cls ea σ H'):=by
 intro af s σ H D EX I h
 exact wpAny_Expr_any (wpAny_mono (he af s σ H _ _ I h) (fun v s1 ⟨x,H1,I1,r1,q1⟩ => ⟨σ,H1,I1,q1⟩) fun _ _ q => q.at) I.quiet hs
theorem yt {st:Stmt} {t:E7} (h1:Bq X st t):vU X [st] t:=by
 intro af s σ H D EX I h
 refine wpAny_execs_cons (cJ (h1 af s σ H D EX I h) fun f s1 q => ?_)
 cases f with
 | next => exact wpAny_execs_nil q
 | ret v => exact q
 | brk => exact q
 | cont => exact q
noncomputable abbrev Br:=Ends → EK → Value → Addr → St → Hp → Prop
noncomputable def PH (X:Cx) (hs:List ExceptHandler) (th:Br):Prop :=
 ∀ (af:List (Addr × Obj)) (s:Shared) (σ:St) (H:Hp) (D:Ends) (EX:EK) (ea:Addr) (cls:Value),qj X af σ H s ea cls → th D EX cls ea σ H → wpAny (model X.prog X.w) X.A (handleBy (.ref ea) X.env hs) (SP X af D) (XP X af EX) s
noncomputable def E9:Br:=fun _ _ _ _ _ _ => False
theorem E_:PH X [] E9:=fun _ _ _ _ _ _ _ _ _ h => h.elim
theorem Bs {body:List Stmt} {h₀:ExceptHandler} {hs:List ExceptHandler} {tb:E7} {th:Br} {pos:Pos} (dx:DefX X) (hb:vU X body tb) (hh:PH X (h₀ :: hs) th):Bq X (.Try body (h₀ :: hs) [] [] pos) (fun D EX σ H => tb D (fun cls ea σ' H' => th D EX cls ea σ' H') σ H):=by
 intro af s σ H D EX I h
 refine wpAny_Try_except (wpAny_mono (hb af s σ H D _ I h) (fun f s1 q => ?_) fun e s1 q => ?_)
 ·cases f with
  | next => exact wpAny_execs_nil q
  | ret v => exact q
  | brk => exact q
  | cont => exact q
 ·obtain ⟨ea,cls,σ',H',rfl,J,hE⟩:=q
  obtain ⟨B,t,fl,hn,go⟩:=J.slots
  have Ip:X.A.frames = some (X.env :: X.outer):=by rw [← dx.Az]; exact J.inv.ok.frames
  refine wpAny_looks_onW Ip dx.fr (by rw [← dx.Az]; exact fl) fun h4 held OL => ?_
  refine wpAny_landsW held fun h5 OM ON => ?_
  exact hh af _ σ' H' D EX ea cls (go h5 (by rw [dx.Az]; exact OM) (OL.trans ON)) hE
theorem E! {body:List Stmt} {h₀:ExceptHandler} {hs:List ExceptHandler} {tb:E7} {th:Br} {pos:Pos} (dx:DefX X) (hb:vU X body tb) (hh:PH X (h₀ :: hs) th) :
  PS X (.Try body (h₀ :: hs) [] [] pos) (fun D σ H => tb D (fun cls ea σ' H' => th D (fun _ _ _ _ => False) cls ea σ' H') σ H):=by
 intro af s σ H D I h
 exact wpAny_mono (Bs dx hb hh af s σ H D (fun _ _ _ _ => False) I h) (fun _ _ q => q) fun _ _ ⟨_,_,_,_,_,_,z⟩ => z.elim
noncomputable def sG (X:Cx) (ea:Addr) (oe:Obj):Cx:={ X with A:=X.A.mark (some (.ref ea)),calm:=false,pn:=(ea,oe) :: X.pn,xe:=fun _ _ => False }
theorem qj.sG {af:List (Addr × Obj)} {σ:St} {H:Hp} {s:Shared} {ea:Addr} {cls:Value} (J:qj X af σ H s ea cls):∃ oe,s.heap.get? ea = some oe ∧ oe.cls = cls ∧ aG (L2.sG X ea oe) af σ H s:=by
 obtain ⟨B,t,fl,hn,_⟩:=J.slots
 obtain ⟨oe,vs,he,hc,hd,_⟩:=fl.first
 have I:=J.inv
 have Ds:∀ b ∈ ei X.stack,ea ≠ b:=fun b hb z => by
  obtain ⟨_,o,ho,Bn⟩:=I.stack.mem hb
  rw [← z,he] at ho
  cases ho
  exact Bn vs hd
 have xD:ea ≠ X.env.locals:=fun z => by
  obtain ⟨m,⟨o,es,ep,ho,NH,_⟩,_⟩:=I.loc
  rw [← z,he] at ho
  cases ho
  rw [hd] at NH
  cases NH
 have Lm:ea ∉ X.fs:=fun hb => by
  obtain ⟨_,o,ho,Bn⟩:=I.ie.mem hb
  rw [he] at ho
  cases ho
  exact Bn vs hd
 refine ⟨oe,he,hc,⟨⟨I.ok.mod,I.ok.kind,I.ok.glob,I.ok.blt,I.ok.above,I.ok.inj,I.ok.has,I.ok.DY,fun z => (by cases z),I.ok.frames,I.ok.Az,I.ok.Kw,I.ok.bs,I.ok.AA,I.ok.rW,I.ok.xB,I.ok.ie,I.ok.xC⟩,I.os,I.bare,I.base,I.loc,I.cell,I.free,I.fo,fun p hp => ?_,I.bt,I.len⟩⟩
 rcases List.mem_cons.mp (show p ∈ (ea,oe) :: (X.pn ++ af) from hp) with z | z
 ·rw [z]
  exact ⟨he,hn,xD,Lm,fun v q => by rw [hd] at q; cases q⟩
 ·exact I.pin p z
theorem aG.LA {af:List (Addr × Obj)} {σ:St} {H:Hp} {s:Shared} {ea:Addr} {oe:Obj} (ok:X.Ok) (I:aG (L2.sG X ea oe) af σ H s):aG X af σ H s :=
 ⟨ok,I.os,I.bare,I.base,I.loc,I.cell,I.free,I.fo,fun p hp => I.pin p (List.mem_cons_of_mem _ hp),I.bt,I.len⟩
end
theorem vV {M:Model} {A:Around} {E:Value → Shared → Prop} {s:Shared} {K:PySem.W.Frag} {ea C:Addr} {oe:Obj} {b:Bool} {Q:Bool → Shared → Prop} (KX:K.In s.heap) (he:s.heap.get? ea = some oe) (h1:PySem.W.kitCls K oe.cls (.ref C) = some b) (h2:PySem.W.subIn K (.ref C) (.type "BaseException") = some true) (q:Q b s) :
  wpAny M A (excMatches (.ref ea) (.ref C)) Q E s:=by
 obtain ⟨l1,l2,l3⟩:=PySem.W.kit_cls (M:=M) KX h1
 have l4:=PySem.W.looks_subIn (M:=M) KX h2
 obtain ⟨hp,g,d,tk,os⟩:=s
 have lt:PySem.W.Looks M hp (isInstance (.ref C) (.type "tuple")) false:=l1.andThen (.of_pure tc_notTuple)
 have lx:PySem.W.Looks M hp (isExcClass (.ref C)) true:=fun A' Q' E' s' k z => by
  unfold isExcClass
  refine wpAny_bind (l2 A' _ E' s' k ?_)
  rw [if_pos rfl]
  exact l4 A' Q' E' s' k z
 have ly:PySem.W.Looks M hp (typeOf (.ref ea)) oe.cls:=fun A' Q' E' s' k z => by
  unfold typeOf
  exact wpAny_bind (wpAny_loadPart (k _ _ he) (wpAny_pure z))
 unfold excMatches
 refine wpAny_bind (lt.here ?_)
 simp only [Bool.false_eq_true,if_false,pure_bind,List.forIn_cons,List.forIn_nil,bind_assoc]
 refine wpAny_bind (lx.here ?_)
 simp only [Bool.not_true,Bool.false_eq_true,if_false,pure_bind]
 refine wpAny_bind (ly.here ?_)
 refine wpAny_bind (l3.here ?_)
 cases b with
 | true => exact wpAny_pure q
 | false => exact wpAny_pure q
theorem kf {prog:Program} {w:World} {A:Around} {E:Value → Shared → Prop} {s:Shared} {K:PySem.W.Frag} {ea:Addr} {oe:Obj} {c:Value} {Q:Value → Shared → Prop} (KX:K.In s.heap) (he:s.heap.get? ea = some oe) (e:PySem.W.kitOne K oe.cls c = some true) (h:Q (.bool true) s) :
  wpAny (model prog w) A (call (.builtin "isinstance") [.ref ea,c]) Q E s:=by
 have ly:PySem.W.Looks (model prog w) s.heap (typeOf (.ref ea)) oe.cls:=fun A' Q' E' s' k z => by
  unfold typeOf
  exact wpAny_bind (wpAny_loadPart (k _ _ he) (wpAny_pure z))
 refine PyProof.Rows.call_isinstance_of ?_ (by intro z; cases z)
 unfold PySem.W.kitOne at e
 unfold Builtin.«isinstance.nested»
 refine wpAny_bind (ly.here ?_)
 by_cases q:(oe.cls == c) = true
 ·rw [if_pos q]
  first
   | exact wpAny_bind (wpAny_rule h)
   | exact wpAny_bind (wpAny_rule (wpAny_pure h))
   | exact wpAny_pure h
 ·rw [if_neg q] at e
  rw [if_neg q]
  obtain ⟨EM,OO,Il⟩:=PySem.W.kit_cls (M:=model prog w) KX e
  have LI:PySem.W.Looks (model prog w) s.heap (isInstance (.ref ea) c) true:=ly.andThen Il
  refine wpAny_bind (EM.here ?_)
  rw [if_pos (by decide)]
  k_delta "plainIsInstance"
  refine wpAny_bind (wpAny_bind (OO.here ?_))
  simp only [Bool.not_true,Bool.false_eq_true,if_false]
  refine wpAny_bind (LI.here ?_)
  first
   | exact wpAny_pure (wpAny_pure h)
   | (simp only [if_true]; first | exact wpAny_pure (wpAny_pure h) | exact wpAny_pure h | exact wpAny_bind (wpAny_pure (wpAny_pure h)))
section
variable {X:Cx}
theorem oY:aU X (.builtin "isinstance") (fun xs H Q => ∃ ea oe c,(xs = [.ref ea,.ref c] ∧ PySem.W.kitOne X.K oe.cls (.ref c) = some true ∨ ∃ n,xs = [.ref ea,.ty n] ∧ PySem.W.kitOne X.K oe.cls (.type n) = some true) ∧ (ea,oe) ∈ X.pn ∧ Q (.bl true) H):=by
 intro af s σ H xs us Q I r h
 obtain ⟨ea,oe,c,hx,hp,q⟩:=h
 have he:=(I.pin (ea,oe) (List.mem_append_left _ hp)).1
 rcases hx with ⟨rfl,e⟩ | ⟨n,rfl,e⟩
 ·obtain ⟨u,u2,rfl,ru,Bm⟩:=vals2 r
  cases ru
  cases Bm
  exact kf I.iJ he e ⟨.bl true,H,I,rfl,q⟩
 ·obtain ⟨u,u2,rfl,ru,Bm⟩:=vals2 r
  cases ru
  cases Bm
  exact kf I.iJ he e ⟨.bl true,H,I,rfl,q⟩
theorem aG.Bt {af:List (Addr × Obj)} {σ:St} {H:Hp} {s:Shared} {i:Nat} {n:Str} {u:Option Value} {h':Heap} {m:Str → Option Value} (I:aG X af σ H s) (hN:X.N.Nodup) (hi:X.N[i]? = some n) (hx:X.env.kindOf n = some .local) (hn:s.heap.Ns X.env.locals m)
  (hl:∀ (j:Nat) (x:Str) (v:V),X.N[j]? = some x → σ[j]? = some (some v) → C! X.env.scope x → ∃ u,bc v u ∧ Look X.env s.heap m x u)
  (DZ:h'.Ns X.env.locals (fun x => if x = n then u else m x)) (sb:Heap.SameBut X.env.locals s.heap h'):aG X af (σ.set i none) H { s with heap:=h' }:=by
 have iσ:i < σ.length:=by rw [I.len]; exact (List.getElem?_eq_some_iff.mp hi).1
 have E?:∀ b o,b ≠ X.env.locals → s.heap.get? b = some o → h'.get? b = some o:=fun b o hb e => (sb.2 b hb).trans e
 have xD:∀ b o,X.s₀.heap.get? b = some o → b ≠ X.env.locals:=fun b o e => Nat.ne_of_lt (Nat.lt_of_lt_of_le (Heap.lt_size e) I.ok.above)
 refine ⟨I.ok,I.os,I.bare,⟨fun b o q nn hb hx => E? b o (xD b o q) (I.base.keep b o q nn hb hx),fun b o q nn hb hx => ?_,I.base.free,fun b o q hx => ?_,I.base.iI,I.base.ic,I.base.i!⟩,⟨_,DZ,fun j x v e1 e2 e3 => ?_⟩,fun x c e => ?_,I.free,I.fo,fun p hp => ?_,fun b w q => ?_,by rw [List.length_set]; exact I.len⟩
 ·obtain ⟨sl,e1⟩:=I.base.slot b o q nn hb hx
  exact ⟨sl,E? b _ (xD b o q) e1⟩
 ·obtain ⟨o',e1⟩:=I.base.there b o q hx
  exact ⟨o',E? b o' (xD b o q) e1⟩
 ·by_cases hj:j = i
  ·subst hj
   rw [List.getElem?_set_self iσ] at e2
   cases e2
  ·rw [List.getElem?_set_ne (Ne.symm hj)] at e2
   obtain ⟨u',r,l⟩:=hl j x v e1 e2 e3
   have nx:x ≠ n:=fun z => hj (kX hN e1 (z ▸ hi))
   refine ⟨u',r,?_⟩
   rcases l with ⟨k,e⟩ | ⟨k,c,e,o,ho,hd⟩
   ·exact .inl ⟨k,by simp [nx,e]⟩
   ·exact .inr ⟨k,c,e,o,E? c o (I.Ap x c e) ho,hd⟩
 ·obtain ⟨v,o,ho,hd⟩:=I.cell x c e
  exact ⟨v,o,E? c o (I.Ap x c e) ho,hd⟩
 ·obtain ⟨e,z,ne,nf,d⟩:=I.pin p hp
  exact ⟨E? p.1 p.2 ne e,z,ne,nf,d⟩
 ·refine (I.bt b w q).iH (fun c v hc z => E? c v ?_ z) (fun _ z => z) fun _ _ z => z
  intro z'
  rcases hc with r | r
  ·rw [← r,z',I.free] at q
   cases q
  ·rw [z',I.free] at r
   cases r
noncomputable def LB (K:PySem.W.Frag) (C:Addr) (i:Nat) (ts:Addr → Obj → TS) (tr:Br):Br:=fun D EX cls ea σ H => ∃ b,PySem.W.kitCls K cls (.ref C) = some b ∧ if b = true then ∀ oe,oe.cls = cls → ts ea oe { nx:=fun σ' H' => D.nx (σ'.set i none) H',rt:=D.rt,bk:=fun σ' H' => D.bk (σ'.set i none) H',ct:=fun σ' H' => D.ct (σ'.set i none) H' } (σ.set i (some (.ref ea))) H else tr D EX cls ea σ H
theorem Iw {x n:Str} {i:Nat} {C:Addr} {np pos:Pos} {b₀:Stmt} {gJ:List Stmt} {rest:List ExceptHandler} {ts:Addr → Obj → TS} {tr:Br} (hN:X.N.Nodup) (hi:X.N[i]? = some n) (hl:X.env.scope.names.lookup n = some .local) (hg:Gl X x) (hm:X.mg x = some (.ref C)) (hB:PySem.W.subIn X.K (.ref C) (.type "BaseException") = some true) (hs:∀ ea oe,gS (L2.sG X ea oe) (b₀ :: gJ) (ts ea oe)) (hr:PH X rest tr)
  (hd:(x == ("__debug__":Str)) = false:=by decide):PH X (.ExceptHandler (some (.Name x np)) (some n) (b₀ :: gJ) pos :: rest) (LB X.K C i ts tr):=by
 intro af s σ H D EX ea cls J h
 obtain ⟨b,hb,h⟩:=h
 obtain ⟨oe,he,hc,I⟩:=J.sG
 refine wpAny_handleBy_cons (codeAny_handlers_test (hU I (show Gl (L2.sG X ea oe) x from hg) (show (L2.sG X ea oe).mg x = some (.ref C) from hm) ?_ hd)) (by intro z; cases z)
 refine vV I.iJ he (by rw [hc]; exact hb) hB ?_
 cases b with
 | false => exact hr af s σ H D EX ea cls J (by simpa using h)
 | true =>
  obtain ⟨B,t,fl,hn,go⟩:=J.slots
  have h':∀ oe,oe.cls = cls → ts ea oe { nx:=fun σ' H' => D.nx (σ'.set i none) H',rt:=D.rt,bk:=fun σ' H' => D.bk (σ'.set i none) H',ct:=fun σ' H' => D.ct (σ'.set i none) H' } (σ.set i (some (.ref ea))) H:=by simpa using h
  refine codeAny_handlers_suite_as (lands_againW fl fun h6 OP OQ => ?_)
  have J6:=go h6 OP OQ
  obtain ⟨J9,Qi,OR,I6⟩:=J6.sG
  refine kY (X:=L2.sG X ea J9) (v:=.ref ea) I6 hN hi (Or.inl hl) rfl (fun s7 I7 => ?_) (Or.inr hl)
  refine wpAny_mono (hs ea J9 af s7 _ H _ I7 (h' J9 OR)) (fun f s8 q => ?_) fun _ _ z => z.elim
  -- An name is let go
  have letGo:∀ {σ8:St} {H8:Hp} {R:Shared → Prop},aG (L2.sG X ea J9) af σ8 H8 s8 → (∀ s9,aG X af (σ8.set i none) H8 s9 → R s9) →
    wpAny (model X.prog X.w) X.A (do bindName X.env n .none; unbindBehindTheSuite X.env n pos) (fun _ s9 => R s9) (XP X af EX) s8:=fun {σ8 H8 R} I8 k => by
   have I9:=I8.LA J.inv.ok
   refine wpAny_bind (wpAny_bindName (jD I9 hN hi (Or.inl hl) (v:=.bE) rfl (fun s9 LC ⟨a,sb,ha⟩ => ?_) (Or.inr hl)))
   obtain ⟨m,ns,NI⟩:=LC.loc
   have iσ:i < σ8.length:=by rw [I9.len]; exact (List.getElem?_eq_some_iff.mp hi).1
   obtain ⟨u,ru,lk⟩:=NI i n .bE hi (List.getElem?_set_self iσ) (Or.inl hl)
   have OS:m n = some u:=by
    rcases lk with ⟨_,e⟩ | ⟨k',_⟩
    ·exact e
    ·exfalso
     rcases k' with z | z
     ·have z':X.env.scope.names.lookup n = some .cell:=z
      rw [hl] at z'; cases z'
     ·have z':X.env.scope.names.lookup n = some .free:=z
      rw [hl] at z'; cases z'
   unfold unbindBehindTheSuite
   refine wpAny_onRaise (wpAny_unbindName_local hl ns OS (by rw [LC.ok.kind]; rfl) fun J_ u' LD Ls => ?_)
   have NJ:=LC.Bt hN hi hl ns NI LD Ls
   rw [List.set_set] at NJ
   exact k _ NJ
  cases f with
  | next =>
   obtain ⟨σ8,H8,I8,q8⟩:=q
   exact letGo I8 fun s9 I9 => ⟨_,H8,I9,q8⟩
  | brk =>
   obtain ⟨σ8,H8,I8,q8⟩:=q
   exact letGo I8 fun s9 I9 => ⟨_,H8,I9,q8⟩
  | cont =>
   obtain ⟨σ8,H8,I8,q8⟩:=q
   exact letGo I8 fun s9 I9 => ⟨_,H8,I9,q8⟩
  | ret v =>
   obtain ⟨x8,σ8,H8,I8,r8,q8⟩:=q
   exact letGo I8 fun s9 I9 => ⟨x8,_,H8,I9,r8,q8⟩
end
end L2
namespace L2
open PySem PySem.Spec PyProof.Rows
noncomputable def J! (lo:Int) (n:Nat):It:=⟨fun i _ => i < n,fun i H x H' => H' = H ∧ x = .int (lo - i),fun i _ => n ≤ i⟩
theorem vW {P:Program} {w:World} {K:PySem.W.Frag} {tg:Expr} (it:Addr) (lo:Int) (n:Nat):Turn P w K tg (J! lo n) [it] it (fun i h => IsRangeIter h it (lo + (i:Nat) * (-1)) ((n:Int) - (i:Nat)) (-1)) where
 mem:=by simp
 obj:=fun i h st b hb => by
  have e:b = it:=by simpa using hb
  subst e
  exact ⟨_,st,fun v z => by
   have z':Data.fields _ = Data.cell v:=z
   cases z'⟩
 keep:=fun i h h' st k => k it (by simp) _ st
 item:=by
  intro X hP hw hK hc i af s σ H E I hf st hg
  subst hP hw hK
  obtain ⟨f0,f1,f2,f3,f4,f5⟩:=hf it (by simp)
  have W:=Walks.range (prog:=X.prog) (w:=X.w) (I.ok.hd hc) it lo (-1) n
  refine W.item i s _ _ hg st fun v h' tk hv av kk => ?_
  obtain ⟨t,rfl⟩:=hv
  have I1:aG X af σ H { s with heap:=h',toks:=tk }:=I.turned (fun b o hb e => kk b o (by simpa using hb) e) f0 f1 f3 f4 f5
  refine ⟨_,rfl,uh (s:={ s with heap:=h',toks:=tk }) (n:="range_iterator") av rfl rfl (by decide) ⟨.int (lo - i),H,I1,⟨t,?_⟩,⟨rfl,rfl⟩,av,fun b hb => (hf b hb).1⟩⟩
  rw [show lo + (i:Int) * (-1) = lo - (i:Int) by lia]
 done:=by
  intro X hP hw hK hc i af s σ H E I hf st hg
  subst hP hw hK
  obtain ⟨f0,f1,f2,f3,f4,f5⟩:=hf it (by simp)
  exact wpAny_pyNext_range_end (I.ok.hd hc) st (by have:n ≤ i:=hg; lia) fun h' eb => ⟨rfl,I.turned (t':=s.toks) (fun b o hb e => eb b o hb e) f0 f1 f3 f4 f5⟩
 self:=fun _ _ _ _ _ st h => wpAny_pyIter_rangeiter st h
section
variable {X:Cx} {tg:Expr}
theorem Bu {af:List (Addr × Obj)} {σ:St} {H:Hp} {s:Shared} {R:It → Hp → Prop} {E:Value → Shared → Prop} {lo hi:Int} {t u v:Tok} {tk:Nat} (I:aG X af σ H s) (h1:-(2 ^ 62) ≤ lo) (h2:lo < 2 ^ 62) (h3:-(2 ^ 62) ≤ hi) (h4:hi < 2 ^ 62)
  (q:R (J! lo (lo - hi).toNat) H):wpAny (model X.prog X.w) X.A (pyIter (.ref s.heap.objs.size)) (JQ X af σ tg R) E { s with heap:=s.heap.push { cls:=.type "range",data:=.fields #[.int lo t,.int hi u,.int (-1) v] },toks:=tk }:=by
 refine wpAny_pyIter_range (IsRange.new ..) (PySem.W.small_down h1 h2 h3 h4) ?_
 have I1:aG X af σ H { s with heap:=s.heap.push { cls:=.type "range",data:=.fields #[.int lo t,.int hi u,.int (-1) v] },toks:=tk }:=I.kept fun b o e => Heap.get?_push_of_some _ e
 refine ⟨(s.heap.push { cls:=.type "range",data:=.fields #[.int lo t,.int hi u,.int (-1) v] }).objs.size,[(s.heap.push { cls:=.type "range",data:=.fields #[.int lo t,.int hi u,.int (-1) v] }).objs.size],_,_,H,rfl,
  I1.kept (t':=tk) fun b o e => Heap.get?_push_of_some _ e,vW _ lo (lo - hi).toNat,?_,fun b hb => ?_,q⟩
 ·have e1:lo + ((0:Nat):Int) * (-1) = lo:=by simp
  have e2:(((lo - hi).toNat:Nat):Int) - ((0:Nat):Int) = Builtin.Range.rangeSize lo hi (-1):=by rw [PySem.W.rangeSize_downNat]; lia
  show IsRangeIter _ _ (lo + ((0:Nat):Int) * (-1)) ((((lo - hi).toNat:Nat):Int) - ((0:Nat):Int)) (-1)
  rw [e1,e2]
  exact Heap.get?_push_size _ rfl
 ·have e:b = (s.heap.push { cls:=.type "range",data:=.fields #[.int lo t,.int hi u,.int (-1) v] }).objs.size:=by simpa using hb
  subst e
  exact I1.rZ (Nat.le_refl _) (I1.bt.fresh (Nat.le_refl _))
noncomputable def Iy (ta:TA):TI:=fun σ H R => ta σ H fun vs H1 => ∃ i j:Int,vs = [.int i,.int j,.int (-1)] ∧ (-(2 ^ 62) ≤ i ∧ i < 2 ^ 62 ∧ -(2 ^ 62) ≤ j ∧ j < 2 ^ 62) ∧ R (J! i (i - j).toNat) H1
theorem Bv {a b c:Expr} {ta:TA} {p pos:Pos} (hg:Gl X "range") (hm:X.mg "range" = none) (ha:PA X [a,b,c] ta) (hs:starEach [a,b,c] X.env = [(false,eval a X.env),(false,eval b X.env),(false,eval c X.env)]:=by rfl) (bT:starEach [b,c] X.env = [(false,eval b X.env),(false,eval c X.env)]:=by rfl) :
  PI X tg (.Call (.Name "range" p) [a,b,c] [] pos) (Iy ta):=by
 intro af s σ H R I h
 refine Call_ (gg I hg hm boot_range (PyProof.Rows.callWith_type1 (cJ (ha pos af s σ H _ I h) fun us s1 ⟨vs,H1,I1,r1,q1⟩ => ?_) (by rw [hs,bT]) (by rw [bT]; rfl)))
 obtain ⟨i,j,e,⟨q1,q2,q3,q4⟩,q⟩:=q1
 subst e
 cases r1 with
 | cons r rr =>
  cases rr with
  | cons r' rr =>
   cases rr with
   | cons OT rr =>
    cases rr
    obtain ⟨t,rfl⟩:=r
    obtain ⟨t',rfl⟩:=r'
    obtain ⟨Qj,rfl⟩:=OT
    refine call_range_3 (by decide) (Bu I1 q1 q2 q3 q4 q) (.inl (PyProof.noPylong_of_log2 (by decide +kernel)))
end
section
variable {X:Cx}
theorem vX (hh:X.A.handled = none):aU X (.builtin "sum") (fun xs H Q => ∃ (a:Addr) (ns:List Int),xs = [.ref a] ∧ iC X.K H a (ns.map V.int) ∧ Q (.int ns.sum) H):=by
 rintro af s σ H xs ws Q I r ⟨a,ns,rfl,hs,q⟩
 obtain ⟨u,rfl,ru⟩:=aR.one r
 cases ru
 obtain ⟨aH,r1,p1,_⟩:=I.list hs
 have hi:=intsAre_of r1
 obtain ⟨xs,hx⟩:=hi.allInts.items
 have OU:s.heap.IsList a (intItems xs):=hx ▸ p1.isList
 refine sum_intListG hh OU fun h' tk t' hk => ?_
 have e1:ns = xs.toList.map (·.1):=by
  rw [← nums_intItems,← hx]
  exact (show numsOf aH.toArray.toList = ns from hi.numsOf).symm
 have e2:preSum (numAt xs) xs.size = ns.sum:=by
  rw [preSum_eq,List.take_of_length_le (by simp),e1]
 rw [e2]
 exact ⟨.int ns.sum,H,I.kept hk,⟨_,rfl⟩,q⟩
end
end L2
namespace L2
open PySem PySem.Spec PyProof.Rows
structure kB where
 qual:Str
 params:Arguments
 body:Expr
 scope:Scope
 ps:List Str
 x:Str
noncomputable abbrev Fz (H:Hp) (a:Addr) (o:Obj):Prop:=H a = some (.fh o (.own 0))
structure J? (L:kB) (H:Hp) (f c c':Addr) (v:V):Prop where
 fn:∃ pm LF,Fz H f (PySem.W.kla_obj "<lambda>" L.qual L.params L.body L.scope [(L.x,c)] pm c' LF)
 cd:∃ oc vs t,Fz H c' oc ∧ oc.data = .fields vs ∧ vs[1]? = some (.str L.qual t)
 ce:∃ oc u,Fz H c oc ∧ oc.data = .cell (some u) ∧ bc v u
noncomputable def back (H H':Hp) (c:Addr):Hp:=fun b => if b = c then H b else H' b
end L2
namespace L2
open PySem PySem.Spec PyProof.Rows
noncomputable def Tab (H:Hp) (T:Addr) (line col:Nat) (qual:Str):Prop:=H T = some (.Ao #[]) ∨
 ∃ c' oc vs t,H T = some (.Ao #[rawInt line,rawInt col,.ref c']) ∧ Fz H c' oc ∧ oc.data = .fields vs ∧ vs[1]? = some (.str qual t)
end L2
namespace L2
open PySem PySem.Spec PyProof.Rows
theorem J?.mono {L:kB} {H H':Hp} {f c c':Addr} {v:V} (C:J? L H f c c' v) (k:∀ b o u,H b = some (.fh o u) → H' b = some (.fh o u)):J? L H' f c c' v:=by
 obtain ⟨⟨pm,LF,h1⟩,⟨oc,vs,t,h2,h3⟩,⟨o2,u,h4,h5⟩⟩:=C
 exact ⟨⟨pm,LF,k _ _ _ h1⟩,⟨oc,vs,t,k _ _ _ h2,h3⟩,⟨o2,u,k _ _ _ h4,h5⟩⟩
end L2
namespace MN
open PySem PySem.Spec L2
open PyProof.Rows hiding St
inductive ai where
 | bE | bl (b:Bool) | int (i:Int) | str (x:Str) | tup (vs:List ai) | loc (n:Nat) | exc (c:Str) | fn (L:kB) (u:ai) | mt (vs:List ai)
inductive aT where
 | lst (vs:List ai) | Fb (vs:List ai) | mod (vs:List ai) | dK (aD:List (cq × ai)) | dT (aD:List (List cq × ai)) | tab (x:Str) (line col:Nat) (qual:Str) | ins (c:Str) (fs:List (Str × ai)) | fd (aD:List (cq × ai))
noncomputable abbrev ag:=List aT
noncomputable abbrev Env:=List (Option ai)
inductive bH (α:Type) where
 | ok (a:α) (st:ag) | err (c:Str) (st:ag) | bad
inductive cf where
 | nx (μ:Env) (st:ag) | rt (v:ai) (st:ag) | bk (μ:Env) (st:ag) | ct (μ:Env) (st:ag) | er (c:Str) (μ:Env) (st:ag) | bad
@[reducible] def bH.bind {α β:Type} (r:bH α) (k:α → ag → bH β):bH β:=match r with
 | .ok a st => k a st
 | .err c st => .err c st
 | .bad => .bad
structure Wo where
 K:PySem.W.Frag
 mg:Str → Option Value
 pn:List (Addr × Obj)
noncomputable abbrev wo (X:Cx):Wo:=⟨X.K,X.mg,X.pn⟩
mutual
noncomputable def Rl (K:PySem.W.Frag) (ρ:List Addr) (H:Hp):ai → V → Prop
 | .bE,v => v = .bE
 | .bl b,v => v = .bl b
 | .int i,v => v = .int i
 | .str x,v => v = .str x
 | .tup us,v => ∃ a vs,v = .ref a ∧ H a = some (.tup vs) ∧ aP K ρ H us vs
 | .mt us,v => ∃ a vs,v = .ref a ∧ ig K H a vs ∧ aP K ρ H us vs
 | .loc n,v => ∃ a,v = .ref a ∧ ρ[n]? = some a
 | .exc _,_ => False
 | .fn _ _,_ => False
noncomputable def aP (K:PySem.W.Frag) (ρ:List Addr) (H:Hp):List ai → List V → Prop
 | [],vs => vs = []
 | u :: us,vs => ∃ v r,vs = v :: r ∧ Rl K ρ H u v ∧ aP K ρ H us r
end
structure aC (ρ:List Addr) (H:Hp) (ρ':List Addr) (H':Hp):Prop where
 pre:ρ <+: ρ'
 tup:∀ b xs,H b = some (.tup xs) → H' b = some (.tup xs)
 fh:∀ b o u,H b = some (.fh o u) → H' b = some (.fh o u)
theorem aC.refl (ρ:List Addr) (H:Hp):aC ρ H ρ H:=⟨List.prefix_refl ρ,fun _ _ h => h,fun _ _ _ h => h⟩
theorem aC.trans {ρ ρ1 ρ2:List Addr} {H H1 H2:Hp} (a:aC ρ H ρ1 H1) (b:aC ρ1 H1 ρ2 H2):aC ρ H ρ2 H2 :=
 ⟨a.pre.trans b.pre,fun _ _ h => b.tup _ _ (a.tup _ _ h),fun _ _ _ h => b.fh _ _ _ (a.fh _ _ _ h)⟩
theorem aC.same {ρ:List Addr} {H H':Hp} (e:iM H H'):aC ρ H ρ H':=⟨List.prefix_refl ρ,fun _ _ h => e _ _ h,fun _ _ _ h => e _ _ h⟩
theorem aC.snoc {ρ:List Addr} {H H':Hp} (p:Addr) (e:iM H H'):aC ρ H (ρ ++ [p]) H':=⟨List.prefix_append ρ [p],fun _ _ h => e _ _ h,fun _ _ _ h => e _ _ h⟩
theorem aC.at_ {ρ ρ':List Addr} {H H':Hp} (e:aC ρ H ρ' H') {n:Nat} {a:Addr} (h:ρ[n]? = some a):ρ'[n]? = some a:=by
 obtain ⟨t,rfl⟩:=e.pre
 have hl:n < ρ.length:=by
  rcases Nat.lt_or_ge n ρ.length with q | q
  ·exact q
  ·rw [List.getElem?_eq_none q] at h; cases h
 rw [List.getElem?_append_left hl,h]
theorem aC.LG {K:PySem.W.Frag} {ρ ρ':List Addr} {H H':Hp} (e:aC ρ H ρ' H') {a:Addr} {xs:List V} (h:ig K H a xs):ig K H' a xs:=by
 rcases h with (h | ⟨o,h⟩) | h
 ·exact .inl (.inl (e.tup _ _ h))
 ·exact .inl (.inr ⟨o,e.fh _ _ _ h⟩)
 ·exact .inr h
mutual
theorem Rl.mono {K:PySem.W.Frag} {ρ ρ':List Addr} {H H':Hp} (e:aC ρ H ρ' H'):∀ (u:ai) (v:V),Rl K ρ H u v → Rl K ρ' H' u v
 | .bE,_,h => h
 | .bl _,_,h => h
 | .int _,_,h => h
 | .str _,_,h => h
 | .tup us,v,h => by
  unfold Rl at h ⊢
  obtain ⟨a,vs,h1,h2,h3⟩:=h
  exact ⟨a,vs,h1,e.tup _ _ h2,aP.mono e us vs h3⟩
 | .mt us,v,h => by
  unfold Rl at h ⊢
  obtain ⟨a,vs,h1,h2,h3⟩:=h
  exact ⟨a,vs,h1,e.LG h2,aP.mono e us vs h3⟩
 | .loc n,v,h => by
  unfold Rl at h ⊢
  obtain ⟨a,h1,h2⟩:=h
  exact ⟨a,h1,e.at_ h2⟩
 | .exc c,v,h => h
 | .fn _ _,_,h => h
theorem aP.mono {K:PySem.W.Frag} {ρ ρ':List Addr} {H H':Hp} (e:aC ρ H ρ' H'):∀ (us:List ai) (vs:List V),aP K ρ H us vs → aP K ρ' H' us vs
 | [],_,h => h
 | u :: us,vs,h => by
  unfold aP at h ⊢
  obtain ⟨v,r,h1,h2,h3⟩:=h
  exact ⟨v,r,h1,Rl.mono e u v h2,aP.mono e us r h3⟩
end
section
variable {K:PySem.W.Frag} {ρ ρ':List Addr} {H H':Hp}
theorem aP.nil:aP K ρ H [] []:=by unfold aP; rfl
theorem aP.cons {u:ai} {us:List ai} {v:V} {vs:List V} (h:Rl K ρ H u v) (hs:aP K ρ H us vs):aP K ρ H (u :: us) (v :: vs):=by
 unfold aP; exact ⟨v,vs,rfl,h,hs⟩
theorem aP.bI {u:ai} {us:List ai} {vs:List V} (h:aP K ρ H (u :: us) vs):∃ v r,vs = v :: r ∧ Rl K ρ H u v ∧ aP K ρ H us r:=by
 unfold aP at h; exact h
theorem aP.de {vs:List V} (h:aP K ρ H [] vs):vs = []:=by unfold aP at h; exact h
theorem aP.length:∀ {us:List ai} {vs:List V},aP K ρ H us vs → us.length = vs.length
 | [],vs,h => by rw [h.de]; rfl
 | u :: us,vs,h => by
  obtain ⟨v,r,rfl,_,h3⟩:=h.bI
  rw [List.length_cons,List.length_cons,h3.length]
theorem aP.get:∀ {us:List ai} {vs:List V} {i:Nat} {u:ai},aP K ρ H us vs → us[i]? = some u → ∃ v,vs[i]? = some v ∧ Rl K ρ H u v
 | [],_,_,_,_,e => by cases e
 | w :: us,vs,0,u,h,e => by
  obtain ⟨v,r,rfl,h2,_⟩:=h.bI
  cases e
  exact ⟨v,rfl,h2⟩
 | w :: us,vs,i + 1,u,h,e => by
  obtain ⟨v,r,rfl,_,h3⟩:=h.bI
  exact aP.get (i:=i) h3 e
theorem aP.append:∀ {us ws:List ai} {vs xs:List V},aP K ρ H us vs → aP K ρ H ws xs → aP K ρ H (us ++ ws) (vs ++ xs)
 | [],_,vs,_,h,k => by rw [h.de]; exact k
 | u :: us,ws,vs,xs,h,k => by
  obtain ⟨v,r,rfl,h2,h3⟩:=h.bI
  exact aP.cons h2 (h3.append k)
theorem aP.drop:∀ (n:Nat) {us:List ai} {vs:List V},aP K ρ H us vs → aP K ρ H (us.drop n) (vs.drop n)
 | 0,_,_,h => h
 | _ + 1,[],vs,h => by rw [h.de]; exact aP.nil
 | n + 1,u :: us,vs,h => by
  obtain ⟨v,r,rfl,h2,h3⟩:=h.bI
  exact aP.drop n h3
theorem aP.take:∀ (n:Nat) {us:List ai} {vs:List V},aP K ρ H us vs → aP K ρ H (us.take n) (vs.take n)
 | 0,_,_,_ => aP.nil
 | _ + 1,[],vs,h => by rw [h.de]; exact aP.nil
 | n + 1,u :: us,vs,h => by
  obtain ⟨v,r,rfl,h2,h3⟩:=h.bI
  exact aP.cons h2 (aP.take n h3)
theorem aP.one {u:ai} {v:V} (h:Rl K ρ H u v):aP K ρ H [u] [v]:=aP.cons h aP.nil
theorem aP.oZ {u:ai} {vs:List V} (h:aP K ρ H [u] vs):∃ v,vs = [v] ∧ Rl K ρ H u v:=by
 obtain ⟨v,r,rfl,h2,h3⟩:=h.bI
 rw [h3.de]
 exact ⟨v,rfl,h2⟩
theorem aP.G0 {u w:ai} {vs:List V} (h:aP K ρ H [u,w] vs):∃ v x,vs = [v,x] ∧ Rl K ρ H u v ∧ Rl K ρ H w x:=by
 obtain ⟨v,r,rfl,h2,h3⟩:=h.bI
 obtain ⟨x,rfl,h4⟩:=h3.oZ
 exact ⟨v,x,rfl,h2,h4⟩
theorem aP.ints:∀ (ns:List Int),aP K ρ H (ns.map ai.int) (ns.map V.int)
 | [] => aP.nil
 | n :: ns => aP.cons (by unfold Rl; rfl) (aP.ints ns)
theorem Rl.bA {i:Int} {v:V} (h:Rl K ρ H (.int i) v):v = .int i:=by unfold Rl at h; exact h
theorem Rl.m_ {b:Bool} {v:V} (h:Rl K ρ H (.bl b) v):v = .bl b:=by unfold Rl at h; exact h
theorem Rl.gQ {x:Str} {v:V} (h:Rl K ρ H (.str x) v):v = .str x:=by unfold Rl at h; exact h
theorem Rl.gp {v:V} (h:Rl K ρ H .bE v):v = .bE:=by unfold Rl at h; exact h
theorem Rl.Fc {us:List ai} {v:V} (h:Rl K ρ H (.tup us) v):∃ a vs,v = .ref a ∧ H a = some (.tup vs) ∧ aP K ρ H us vs:=by unfold Rl at h; exact h
theorem Rl.d9 {us:List ai} {v:V} (h:Rl K ρ H (.tup us) v):∃ a vs,v = .ref a ∧ ig K H a vs ∧ aP K ρ H us vs:=let ⟨a,vs,h1,h2,h3⟩:=h.Fc; ⟨a,vs,h1,ig.of h2,h3⟩
theorem Rl.NK {us:List ai} {v:V} (h:Rl K ρ H (.mt us) v):∃ a vs,v = .ref a ∧ ig K H a vs ∧ aP K ρ H us vs:=by unfold Rl at h; exact h
theorem Rl.Iz {us:List ai} {a:Addr} {vs:List V} (h:ig K H a vs) (r:aP K ρ H us vs):Rl K ρ H (.mt us) (.ref a):=by unfold Rl; exact ⟨a,vs,rfl,h,r⟩
theorem Rl.cN {n:Nat} {v:V} (h:Rl K ρ H (.loc n) v):∃ a,v = .ref a ∧ ρ[n]? = some a:=by unfold Rl at h; exact h
theorem Rl.mkInt (i:Int):Rl K ρ H (.int i) (.int i):=by unfold Rl; rfl
theorem Rl.yu (b:Bool):Rl K ρ H (.bl b) (.bl b):=by unfold Rl; rfl
theorem Rl.mkStr (x:Str):Rl K ρ H (.str x) (.str x):=by unfold Rl; rfl
theorem Rl.uw:Rl K ρ H .bE .bE:=by unfold Rl; rfl
theorem Rl.lD {us:List ai} {a:Addr} {vs:List V} (h:H a = some (.tup vs)) (r:aP K ρ H us vs):Rl K ρ H (.tup us) (.ref a):=by unfold Rl; exact ⟨a,vs,rfl,h,r⟩
theorem Rl.n_ {n:Nat} {a:Addr} (h:ρ[n]? = some a):Rl K ρ H (.loc n) (.ref a):=by unfold Rl; exact ⟨a,rfl,h⟩
end
noncomputable def dO {κ:Type} (K:PySem.W.Frag) (ρ:List Addr) (H:Hp) (aD:List (κ × ai)) (b?:List (κ × V)):Prop:=aD.map (·.1) = b?.map (·.1) ∧ aP K ρ H (aD.map (·.2)) (b?.map (·.2))
noncomputable def gW:Option aT → Bool
 | some (.mod _) => true
 | _ => false
noncomputable def LH (K:PySem.W.Frag) (a:Addr) (vs:List V):Prop:=∃ (o:Obj) (aH:Array Value) (n:Nat),K.lookup a = some o ∧ o.cls = .type "list" ∧ o.dict = none ∧ o.data = .seq aH n ∧ aH.size ≤ sizeLine ∧ aR vs aH.toList
noncomputable def eU (K:PySem.W.Frag) (ρ:List Addr) (H:Hp):aT → Addr → Prop
 | .lst us,a => ∃ vs,H a = some (.lst vs) ∧ aP K ρ H us vs
 | .Fb us,a => ∃ o vs,H a = some (.fh o (.lst vs)) ∧ aP K ρ H us vs
 | .mod us,a => ∃ vs,LH K a vs ∧ aP K ρ H us vs
 | .dK aD,a => ∃ b?,H a = some (.dK b?) ∧ dO K ρ H aD b?
 | .dT aD,a => ∃ b?,H a = some (.dT b?) ∧ dO K ρ H aD b?
 | .fd aD,a => ∃ o b?,H a = some (.fh o (.dK b?)) ∧ dO K ρ H aD b?
 | .tab x l c q,a => (∃ cd,PySem.W.tabIn K x = some (cd,a)) ∧ Tab H a l c q
 | .ins c fs,a => ∃ C dx gs,H a = some (.ins C dx gs) ∧ PySem.W.nsIn K mainGlobals c = some (some (.ref C)) ∧ dO K ρ H fs gs
structure SR (K:PySem.W.Frag) (ρ:List Addr) (st:ag) (H:Hp):Prop where
 len:ρ.length = st.length
 nd:∀ (n m:Nat) a,ρ[n]? = some a → ρ[m]? = some a → gW st[n]? = false → gW st[m]? = false → n = m
 cell:∀ (n:Nat) c a,st[n]? = some c → ρ[n]? = some a → eU K ρ H c a
theorem ft {α:Type} {l:List α} {n:Nat} {x:α} (h:l[n]? = some x):n < l.length:=by
 rcases Nat.lt_or_ge n l.length with q | q
 ·exact q
 ·rw [List.getElem?_eq_none q] at h; cases h
section
variable {K:PySem.W.Frag} {ρ ρ':List Addr} {H H':Hp} {st:ag}
theorem eU.there {c:aT} {a:Addr} (h:eU K ρ H c a) (hn:gW (some c) = false):∃ o,H a = some o ∧ ∀ xs,o ≠ .tup xs:=by
 cases c with
 | lst us => obtain ⟨vs,h,_⟩:=h; exact ⟨_,h,fun xs e => by cases e⟩
 | Fb us => obtain ⟨o,vs,h,_⟩:=h; exact ⟨_,h,fun xs e => by cases e⟩
 | fd us => obtain ⟨o,vs,h,_⟩:=h; exact ⟨_,h,fun xs e => by cases e⟩
 | mod us => cases hn
 | dK aD => obtain ⟨vs,h,_⟩:=h; exact ⟨_,h,fun xs e => by cases e⟩
 | dT aD => obtain ⟨vs,h,_⟩:=h; exact ⟨_,h,fun xs e => by cases e⟩
 | tab x l c q => rcases h.2 with h | ⟨_,_,_,_,h,_⟩ <;> exact ⟨_,h,fun xs e => by cases e⟩
 | ins c fs => obtain ⟨_,_,_,h,_⟩:=h; exact ⟨_,h,fun xs e => by cases e⟩
theorem eU.mono {c:aT} {a:Addr} (h:eU K ρ H c a) (e:aC ρ H ρ' H') (ha:gW (some c) = true ∨ H' a = H a):eU K ρ' H' c a:=by
 cases c with
 | mod us => obtain ⟨vs,h,r⟩:=h; exact ⟨vs,h,aP.mono e _ _ r⟩
 | lst us => rcases ha with ha | ha <;> first | cases ha; done | (obtain ⟨vs,h,r⟩:=h; exact ⟨vs,ha.trans h,aP.mono e _ _ r⟩)
 | Fb us => rcases ha with ha | ha <;> first | cases ha; done | (obtain ⟨o,vs,h,r⟩:=h; exact ⟨o,vs,ha.trans h,aP.mono e _ _ r⟩)
 | dK aD => rcases ha with ha | ha <;> first | cases ha; done | (obtain ⟨vs,h,r⟩:=h; exact ⟨vs,ha.trans h,r.1,aP.mono e _ _ r.2⟩)
 | dT aD => rcases ha with ha | ha <;> first | cases ha; done | (obtain ⟨vs,h,r⟩:=h; exact ⟨vs,ha.trans h,r.1,aP.mono e _ _ r.2⟩)
 | fd aD => rcases ha with ha | ha <;> first | cases ha; done | (obtain ⟨o,vs,h,r⟩:=h; exact ⟨o,vs,ha.trans h,r.1,aP.mono e _ _ r.2⟩)
 | ins c fs => rcases ha with ha | ha <;> first | cases ha; done | (obtain ⟨C,dx,gs,h,hn,r⟩:=h; exact ⟨C,dx,gs,ha.trans h,hn,r.1,aP.mono e _ _ r.2⟩)
 | tab x l c q =>
  refine ⟨h.1,?_⟩
  rcases ha with ha | ha
  ·cases ha
  ·rcases h.2 with h | ⟨c',oc,vs,t,h,h2,h3⟩
   ·exact .inl (ha.trans h)
   ·exact .inr ⟨c',oc,vs,t,ha.trans h,e.fh _ _ _ h2,h3⟩
theorem eU.grow {c:aT} {a:Addr} (h:eU K ρ H c a) (e:aC ρ H ρ' H') (s:iM H H'):eU K ρ' H' c a:=by
 cases z:gW (some c) with
 | true => exact h.mono e (.inl z)
 | false =>
  obtain ⟨o,ho,_⟩:=h.there z
  exact h.mono e (.inr (by rw [ho]; exact s _ _ ho))
theorem SR.there (s:SR K ρ st H) {n:Nat} {a:Addr} (h:ρ[n]? = some a):∃ c,st[n]? = some c ∧ eU K ρ H c a:=by
 have hn:=ft h
 have DZ:n < st.length:=by rw [← s.len]; exact hn
 exact ⟨st[n],List.getElem?_eq_getElem DZ,s.cell n _ a (List.getElem?_eq_getElem DZ) h⟩
theorem SR.grow (s:SR K ρ st H) (e:iM H H'):SR K ρ st H' :=
 ⟨s.len,s.nd,fun n c a h1 h2 => (s.cell n c a h1 h2).grow (aC.same e) e⟩
theorem SR.Dt (s:SR K ρ st H) {p:Addr} (hp:H p = none) {n:Nat} (h:ρ[n]? = some p) (hm:gW st[n]? = false):False:=by
 obtain ⟨c,hc,k⟩:=s.there h
 rw [hc] at hm
 obtain ⟨o,ho,_⟩:=k.there hm
 rw [hp] at ho
 cases ho
theorem bN {p:Addr} {o:HO} (hp:H p = none):iM H (upd H p o):=iM.upd (iM.refl H) hp
theorem SR.alloc (s:SR K ρ st H) {p:Addr} {o:HO} {c:aT} (hp:H p = none) (k:eU K (ρ ++ [p]) (upd H p o) c p):SR K (ρ ++ [p]) (st ++ [c]) (upd H p o):=by
 have e:iM H (upd H p o):=bN hp
 have at_:∀ (n:Nat) (a:Addr),(ρ ++ [p])[n]? = some a → (n < st.length ∧ ρ[n]? = some a ∧ (st ++ [c])[n]? = st[n]?) ∨ (n = st.length ∧ a = p ∧ (st ++ [c])[n]? = some c):=by
  intro n a h
  rcases Nat.lt_trichotomy n st.length with q | q | q
  ·rw [List.getElem?_append_left (by rw [s.len]; exact q)] at h
   exact .inl ⟨q,h,List.getElem?_append_left q⟩
  ·subst q
   rw [List.getElem?_append_right (by rw [s.len]; exact Nat.le_refl _),s.len,Nat.sub_self] at h
   cases h
   refine .inr ⟨rfl,rfl,?_⟩
   rw [List.getElem?_append_right (Nat.le_refl _),Nat.sub_self]; rfl
  ·rw [List.getElem?_eq_none (by rw [List.length_append,List.length_singleton,s.len]; lia)] at h
   cases h
 refine ⟨by rw [List.length_append,List.length_append,s.len]; rfl,fun n m a h1 h2 m1 m2 => ?_,fun n c' a h1 h2 => ?_⟩
 ·rcases at_ n a h1 with ⟨q1,q2,q3⟩ | ⟨q1,q2,q3⟩ <;> rcases at_ m a h2 with ⟨r1,r2,r3⟩ | ⟨r1,r2,r3⟩
  ·rw [q3] at m1; rw [r3] at m2; exact s.nd n m a q2 r2 m1 m2
  ·subst r2; rw [q3] at m1; exact (s.Dt hp q2 m1).elim
  ·subst q2; rw [r3] at m2; exact (s.Dt hp r2 m2).elim
  ·rw [q1,r1]
 ·rcases at_ n a h2 with ⟨q1,q2,q3⟩ | ⟨q1,q2,q3⟩
  ·rw [q3] at h1
   exact (s.cell n c' a h1 q2).grow (aC.snoc p e) e
  ·rw [q3] at h1
   cases h1
   subst q2
   exact k
theorem aC.put {a:Addr} {o o':HO} (h:H a = some o) (h1:∀ xs,o ≠ .tup xs) (h2:∀ x u,o ≠ .fh x u):aC ρ H ρ (upd H a o'):=by
 refine ⟨List.prefix_refl ρ,fun b xs e => ?_,fun b x u e => ?_⟩
 ·rw [aJ (fun z => ?_)]
  ·exact e
  ·subst z; rw [h] at e; exact h1 _ (Option.some.inj e)
 ·rw [aJ (fun z => ?_)]
  ·exact e
  ·subst z; rw [h] at e; exact h2 _ _ (Option.some.inj e)
theorem SR.set (s:SR K ρ st H) {n:Nat} {a:Addr} {o o':HO} {c c':aT} (h:st[n]? = some c) (hc:gW (some c) = false) (ba:gW (some c') = false) (ha:ρ[n]? = some a) (ho:H a = some o) (h1:∀ xs,o ≠ .tup xs) (h2:∀ x u,o ≠ .fh x u)
  (k:eU K ρ (upd H a o') c' a):SR K ρ (st.set n c') (upd H a o'):=by
 have hn:n < st.length:=ft h
 have at_:∀ (m:Nat),gW (st.set n c')[m]? = gW st[m]?:=fun m => by
  by_cases z:m = n
  ·subst z; rw [List.getElem?_set_self hn,h,hc,ba]
  ·rw [List.getElem?_set_ne (fun y => z y.symm)]
 refine ⟨by rw [List.length_set]; exact s.len,fun i m b q1 q2 m1 m2 => s.nd i m b q1 q2 (by rw [← at_]; exact m1) (by rw [← at_]; exact m2),fun m d b q1 q2 => ?_⟩
 by_cases z:m = n
 ·subst z
  rw [ha] at q2
  cases q2
  rw [List.getElem?_set_self hn] at q1
  cases q1
  exact k
 ·rw [List.getElem?_set_ne (fun y => z y.symm)] at q1
  have kb:=s.cell m d b q1 q2
  cases zm:gW (some d) with
  | true => exact kb.mono (aC.put ho h1 h2) (.inl zm)
  | false =>
   have hb:b ≠ a:=fun y => z (s.nd m n a (by rw [← y]; exact q2) ha (by rw [q1]; exact zm) (by rw [h]; exact hc))
   exact kb.mono (aC.put ho h1 h2) (.inr (aJ hb))
end
noncomputable def uz (W:Wo) (ρ:List Addr) (H:Hp) (u:ai) (v:V):Prop:=match u with
 | .exc c => ∃ a oe C,v = .ref a ∧ (a,oe) ∈ W.pn ∧ W.mg c = some (.ref C) ∧ oe.cls = .ref C
 | .fn L u => ∃ f c c' cv,v = .ref f ∧ J? L H f c c' cv ∧ Rl W.K ρ H u cv
 | u => Rl W.K ρ H u v
theorem uz.mono {W:Wo} {ρ ρ':List Addr} {H H':Hp} {u:ai} {v:V} (h:uz W ρ H u v) (e:aC ρ H ρ' H'):uz W ρ' H' u v:=by
 cases u with
 | exc c => exact h
 | fn L u => obtain ⟨f,c,c',cv,h1,C,r⟩:=h; exact ⟨f,c,c',cv,h1,C.mono (fun b o u q => e.fh b o u q),Rl.mono e _ _ r⟩
 | _ => exact Rl.mono e _ _ h
theorem uz.of {W:Wo} {ρ:List Addr} {H:Hp} {u:ai} {v:V} (h:Rl W.K ρ H u v):uz W ρ H u v:=by
 cases u with
 | exc c => unfold Rl at h; exact h.elim
 | fn L u => unfold Rl at h; exact h.elim
 | _ => exact h
structure RS (W:Wo) (ρ:List Addr) (H:Hp) (μ:Env) (σ:St):Prop where
 len:μ.length = σ.length
 at_:∀ (i:Nat) u,μ[i]? = some (some u) → ∃ v,σ[i]? = some (some v) ∧ uz W ρ H u v
section
variable {W:Wo} {ρ ρ':List Addr} {H H':Hp} {μ:Env} {σ:St}
theorem RS.mono (r:RS W ρ H μ σ) (e:aC ρ H ρ' H'):RS W ρ' H' μ σ:=⟨r.len,fun i u h => let ⟨v,h1,h2⟩:=r.at_ i u h; ⟨v,h1,h2.mono e⟩⟩
theorem RS.IA (r:RS W ρ H μ σ) (i:Nat) {u:ai} {v:V} (h:uz W ρ H u v):RS W ρ H (μ.set i (some u)) (σ.set i (some v)):=by
 refine ⟨by rw [List.length_set,List.length_set]; exact r.len,fun j w e => ?_⟩
 by_cases z:j = i
 ·subst z
  have hj:=ft e
  rw [List.length_set] at hj
  rw [List.getElem?_set_self hj] at e
  cases e
  exact ⟨v,List.getElem?_set_self (by rw [← r.len]; exact hj),h⟩
 ·rw [List.getElem?_set_ne (fun y => z y.symm)] at e ⊢
  exact r.at_ j w e
theorem RS.set (r:RS W ρ H μ σ) (i:Nat) {u:ai} {v:V} (h:Rl W.K ρ H u v):RS W ρ H (μ.set i (some u)) (σ.set i (some v)):=r.IA i (uz.of h)
end
end MN
namespace MN
open PySem PySem.Spec L2
open PyProof.Rows hiding St
noncomputable abbrev ME:=Env → ag → bH ai
noncomputable abbrev MT:=Env → ag → bH Bool
noncomputable abbrev MA:=Env → ag → bH (List ai)
noncomputable abbrev MB:=Env → ag → cf
noncomputable def wR {α β:Type} (W:Wo) (E:XK) (R:List Addr → Hp → α → β → Prop) (ρ:List Addr) (H:Hp) (Q:β → Hp → Prop):bH α → Prop
 | .ok u av => ∀ ρ' H' v,aC ρ H ρ' H' → SR W.K ρ' av H' → R ρ' H' u v → Q v H'
 | .err c av => ∃ C,W.mg c = some (.ref C) ∧ ∀ ρ' H',aC ρ H ρ' H' → SR W.K ρ' av H' → E (.ref C) none H'
 | .bad => False
theorem wR.mono {α β:Type} {W:Wo} {E:XK} {R:List Addr → Hp → α → β → Prop} {ρ ρ':List Addr} {H H':Hp} {Q:β → Hp → Prop} {r:bH α} (h:wR W E R ρ H Q r) (e:aC ρ H ρ' H'):wR W E R ρ' H' Q r:=by
 cases r with
 | ok u st => exact fun ρ2 H2 v e2 s r => h ρ2 H2 v (e.trans e2) s r
 | err c st => obtain ⟨C,h1,h2⟩:=h; exact ⟨C,h1,fun ρ2 H2 e2 s => h2 ρ2 H2 (e.trans e2) s⟩
 | bad => exact h
theorem wR.pn {α β:Type} {K:PySem.W.Frag} {mg:Str → Option Value} {pn Fd:List (Addr × Obj)} {E:XK} {R:List Addr → Hp → α → β → Prop} {ρ:List Addr} {H:Hp} {Q:β → Hp → Prop} {r:bH α} (h:wR ⟨K,mg,pn⟩ E R ρ H Q r):wR ⟨K,mg,Fd⟩ E R ρ H Q r:=by
 cases r <;> exact h
noncomputable def tG {α β:Type} (W:Wo) (E:XK) (R:List Addr → Hp → α → β → Prop) (m:Env → ag → bH α):St → Hp → (β → Hp → Prop) → Prop :=
 fun σ H Q => ∃ μ ρ st,RS W ρ H μ σ ∧ SR W.K ρ st H ∧ wR W E R ρ H Q (m μ st)
noncomputable abbrev RB:List Addr → Hp → Bool → Bool → Prop:=fun _ _ b c => c = b
noncomputable abbrev tE (X:Cx) (E:XK) (m:ME):TE:=tG (wo X) E (Rl X.K) m
noncomputable abbrev tT (X:Cx) (E:XK) (m:MT):TT:=tG (wo X) E RB m
noncomputable abbrev tL (X:Cx) (E:XK) (m:MA):TA:=tG (wo X) E (aP X.K) m
theorem go {α β γ δ:Type} {W:Wo} {E:XK} {R1:List Addr → Hp → α → β → Prop} {R2:List Addr → Hp → γ → δ → Prop} {m:Env → ag → bH α} {k:α → ag → bH γ} {σ:St} {H:Hp} {Q:δ → Hp → Prop} {Q':β → Hp → Prop}
  (μ:Env) (ρ:List Addr) (st:ag) (rs:RS W ρ H μ σ) (sr:SR W.K ρ st H) (h:wR W E R2 ρ H Q ((m μ st).bind k))
  (c:∀ u aN ρ1 H1 x,aC ρ H ρ1 H1 → SR W.K ρ1 aN H1 → R1 ρ1 H1 u x → wR W E R2 ρ1 H1 Q (k u aN) → Q' x H1):tG W E R1 m σ H Q':=by
 refine ⟨μ,ρ,st,rs,sr,?_⟩
 cases e:m μ st with
 | ok u aN =>
  rw [e] at h
  intro ρ1 H1 x e1 bo r1
  exact c u aN ρ1 H1 x e1 bo r1 (wR.mono h e1)
 | err c aN => rw [e] at h; exact h
 | bad => rw [e] at h; exact h
section
variable {X:Cx}
theorem PE.imp {e:Expr} {t t':TE} (h:PE X e t) (k:∀ σ H Q,t' σ H Q → t σ H Q):PE X e t':=fun af s σ H Q I q => h af s σ H Q I (k σ H Q q)
theorem PT.imp {e:Expr} {t t':TT} (h:PT X e t) (k:∀ σ H Q,t' σ H Q → t σ H Q):PT X e t':=fun af s σ H Q I q => h af s σ H Q I (k σ H Q q)
theorem PW.imp {e:Expr} {t t':TT} (h:PW X e t) (k:∀ σ H Q,t' σ H Q → t σ H Q):PW X e t':=fun w af s σ H Q I q => h w af s σ H Q I (k σ H Q q)
theorem PA.imp {e:List Expr} {t t':TA} (h:PA X e t) (k:∀ σ H Q,t' σ H Q → t σ H Q):PA X e t':=fun p af s σ H Q I q => h p af s σ H Q I (k σ H Q q)
theorem PS.imp {e:Stmt} {t t':TS} (h:PS X e t) (k:∀ D σ H,t' D σ H → t D σ H):PS X e t':=fun af s σ H D I q => h af s σ H D I (k D σ H q)
theorem gS.imp {e:List Stmt} {t t':TS} (h:gS X e t) (k:∀ D σ H,t' D σ H → t D σ H):gS X e t':=fun af s σ H D I q => h af s σ H D I (k D σ H q)
theorem PG.imp {e:Expr} {t t':TG} (h:PG X e t) (k:∀ v σ H Q,t' v σ H Q → t v σ H Q):PG X e t':=fun af s σ H v u Q I r q => h af s σ H v u Q I r (k v σ H Q q)
theorem cV.imp {f:Value → Value → Sem Value} {t t':R2} (h:cV X f t) (k:∀ x y H Q,t' x y H Q → t x y H Q):cV X f t':=fun af s σ H x y v u Q I rx ry q => h af s σ H x y v u Q I rx ry (k x y H Q q)
theorem aU.imp {f:Value} {t t':List V → Hp → VK → Prop} (h:aU X f t) (k:∀ xs H Q,t' xs H Q → t xs H Q):aU X f t':=fun af s σ H xs us Q I r q => h af s σ H xs us Q I r (k xs H Q q)
theorem rR.imp {t t':R2} (h:rR X t) (k:∀ x y H Q,t' x y H Q → t x y H Q):rR X t':=fun va sl af s σ H x y v u Q I rx ry q e => h va sl af s σ H x y v u Q I rx ry (k x y H Q q) e
end
noncomputable def ja:ai → Bool
 | .exc _ => true
 | .fn _ _ => true
 | _ => false
noncomputable def ae (i:Nat):ME:=fun μ st => match μ[i]? with
 | some (some v) => if ja v = true then .bad else .ok v st
 | _ => .bad
theorem uz.un {W:Wo} {ρ:List Addr} {H:Hp} {u:ai} {v:V} (h:uz W ρ H u v) (n:¬ ja u = true):Rl W.K ρ H u v:=by
 cases u with
 | exc c => exact absurd rfl n
 | fn L u => exact absurd rfl n
 | _ => exact h
noncomputable def mC (v:ai):ME:=fun _ st => .ok v st
section
variable {X:Cx} {E:XK} {pos:Pos}
theorem Fe (i:Nat) {x:Str} (hN:X.N[i]? = some x:=by rfl) (hv:C! X.env.scope x:=by first | exact Or.inl rfl | exact Or.inr (Or.inl rfl) | exact Or.inr (Or.inr rfl)) (hd:(x == ("__debug__":Str)) = false:=by decide)
  (pZ:(x == ("__classdict__":Str)) = false:=by decide):PE X (.Name x pos) (tE X E (ae i)):=by
 refine PE.imp (rX hN hv hd pZ) ?_
 rintro σ H Q ⟨μ,ρ,st,rs,sr,h⟩
 unfold ae at h
 split at h
 ·rename_i v e
  obtain ⟨w,e',r⟩:=rs.at_ i v e
  split at h
  ·exact h.elim
  ·rename_i n
   exact ⟨w,e',h ρ H w (aC.refl _ _) sr (r.un n)⟩
 ·exact h.elim
theorem qm {e:Expr} {v:V} {c:ai} (h:PE X e (tC v)) (r:∀ ρ H,Rl X.K ρ H c v):PE X e (tE X E (mC c)):=by
 refine PE.imp h ?_
 rintro σ H Q ⟨μ,ρ,st,rs,sr,h⟩
 exact h ρ H v (aC.refl _ _) sr (r ρ H)
theorem Ff {i j}:PE X (.Constant (.int i) j pos) (tE X E (mC (.int i))):=qm D0 fun _ _ => Rl.mkInt i
theorem IB {b j}:PE X (.Constant (.bool b) j pos) (tE X E (mC (.bl b))):=qm De fun _ _ => Rl.yu b
theorem Fg {j}:PE X (.Constant .none j pos) (tE X E (mC .bE)):=qm D3 fun _ _ => Rl.uw
theorem Fh {x j}:PE X (.Constant (.str x) j pos) (tE X E (mC (.str x))):=qm D4 fun _ _ => Rl.mkStr x
structure Glob (K:PySem.W.Frag) (mg:Str → Option Value) (x:Str) (c:ai):Prop where
 at_:∃ (u:Value) (v:V),mg x = some u ∧ bc v u ∧ ∀ ρ H,Rl K ρ H c v
theorem kP {x:Str} {c:ai} (hg:Gl X x) (h:Glob X.K X.mg x c) (hd:(x == ("__debug__":Str)) = false:=by decide):PE X (.Name x pos) (tE X E (mC c)):=by
 obtain ⟨u,v,h1,h2,h3⟩:=h.at_
 exact qm (oK hg h1 h2 hd) h3
end
noncomputable abbrev F2:=ai → ai → ag → bH ai
noncomputable def rM (W:Wo) (E:XK) (f:F2):R2:=fun x y H Q => ∃ ρ st u w,SR W.K ρ st H ∧ Rl W.K ρ H u x ∧ Rl W.K ρ H w y ∧ wR W E (Rl W.K) ρ H Q (f u w st)
noncomputable def ah (f:F2) (a b:ME):ME:=fun μ st => (a μ st).bind fun x aN => (b μ aN).bind fun y st2 => f x y st2
section
variable {X:Cx} {E:XK} {pos:Pos} {a b c:Expr} {ma mb mc:ME} {f g:F2}
theorem jb {σ:St} {H:Hp} {Q:VK} (h:tE X E (ah f ma mb) σ H Q):GX (rM (wo X) E f) (tE X E ma) (tE X E mb) σ H Q:=by
 obtain ⟨μ,ρ,st,rs,sr,h⟩:=h
 refine go μ ρ st rs sr h fun u aN ρ1 H1 x e1 bo r1 h1 => ?_
 refine go μ ρ1 aN (rs.mono e1) bo h1 fun w st2 ρ2 H2 y e2 kg r2 h2 => ?_
 exact ⟨ρ2,st2,u,w,kg,Rl.mono e2 _ _ r1,r2,h2⟩
theorem gq {op:Operator} (ho:cV X (binaryOp op) (rM (wo X) E f)) (ha:PE X a (tE X E ma)) (hb:PE X b (tE X E mb)):PE X (.BinOp a op b pos) (tE X E (ah f ma mb)) :=
 PE.imp (Hw ho ha hb) fun _ _ _ h => jb h
theorem jJ {op:CmpOp} (ho:cV X (compareOp op) (rM (wo X) E f)) (ha:PE X a (tE X E ma)) (hb:PE X b (tE X E mb)) (hm:behindInMarks op b = false:=by first | exact xK _ | (with_unfolding_all rfl)):PE X (.Compare a [op] [b] pos) (tE X E (ah f ma mb)) :=
 PE.imp (AM ho ha hb hm) fun _ _ _ h => jb h
noncomputable def cA (m:ME):MT:=fun μ st => (m μ st).bind fun v av => match v with
 | .bl b => .ok b av
 | _ => .bad
theorem qo {m:ME} {σ:St} {H:Hp} {Q:Bool → Hp → Prop} (h:tT X E (cA m) σ H Q):tE X E m σ H fun x H' => ∃ k,x = .bl k ∧ Q k H':=by
 obtain ⟨μ,ρ,st,rs,sr,h⟩:=h
 refine go μ ρ st rs sr h fun u aN ρ1 H1 x e1 bo r1 h1 => ?_
 cases u with
 | bl b => exact ⟨b,r1.m_,h1 ρ1 H1 b (aC.refl _ _) bo rfl⟩
 | _ => exact h1.elim
theorem jK {op:CmpOp} (ho:cV X (compareOp op) (rM (wo X) E f)) (ha:PE X a (tE X E ma)) (hb:PE X b (tE X E mb)) (hm:behindInMarks op b = false:=by first | exact xK _ | (with_unfolding_all rfl)):PT X (.Compare a [op] [b] pos) (tT X E (cA (ah f ma mb))) :=
 PT.imp (AN ho ha hb hm) fun σ H Q h => by
  show GX (rM (wo X) E f) (tE X E ma) (tE X E mb) σ H _
  exact jb (qo h)
theorem Fi {m:ME} (h:PE X a (tE X E m)) (he:∀ whole,isTrue a X.env whole = (do let v ← whole; standAt a.pos; holding [v] (truthy v)):=by intro _; rfl):PT X a (tT X E (cA m)) :=
 PT.imp (D5 h he) fun σ H Q h => qo h
noncomputable def LJ (f g:F2) (a b c:ME):ME:=fun μ st => (a μ st).bind fun x aN => (b μ aN).bind fun y st2 => (f x y st2).bind fun z mR => match z with
 | .bl true => (c μ mR).bind fun w pW => g y w pW
 | .bl false => .ok (.bl false) mR
 | _ => .bad
noncomputable def m? (a b:ME):ME:=fun μ st => (a μ st).bind fun x aN => match x with
 | .bl true => b μ aN
 | .bl false => .ok (.bl false) aN
 | _ => .bad
noncomputable def Ka (a b:ME):ME:=fun μ st => (a μ st).bind fun x aN => match x with
 | .bl true => .ok (.bl true) aN
 | .bl false => b μ aN
 | _ => .bad
noncomputable def Bw (a:ME):ME:=fun μ st => (a μ st).bind fun x aN => match x with
 | .bl b => .ok (.bl (!b)) aN
 | _ => .bad
noncomputable def uA (a b:MT):MT:=fun μ st => (a μ st).bind fun x aN => match x with
 | true => b μ aN
 | false => .ok false aN
noncomputable def jL (a b:MT):MT:=fun μ st => (a μ st).bind fun x aN => match x with
 | true => .ok true aN
 | false => b μ aN
noncomputable def cE (a:MT):MT:=fun μ st => (a μ st).bind fun x aN => .ok (!x) aN
noncomputable def Bx (t:MT) (a b:ME):ME:=fun μ st => (t μ st).bind fun x aN => match x with
 | true => a μ aN
 | false => b μ aN
variable {rest:List Expr} {tA AB:MT}
theorem Fj {op} {m:ME} (h:PE X a (tE X E m)):PE X (.BoolOp op [a] pos) (tE X E m):=D! h
theorem Fl (ha:PE X a (tE X E ma)) (hb:PE X (.BoolOp .And (b :: rest) pos) (tE X E mb)):PE X (.BoolOp .And (a :: b :: rest) pos) (tE X E (m? ma mb)):=by
 refine PE.imp (D? ha hb) ?_
 rintro σ H Q ⟨μ,ρ,st,rs,sr,h⟩
 refine go μ ρ st rs sr h fun u aN ρ1 H1 x e1 bo r1 h1 => ?_
 cases u with
 | bl k =>
  refine ⟨k,r1.m_,?_⟩
  cases k with
  | true => rw [if_pos rfl]; exact ⟨μ,ρ1,aN,rs.mono e1,bo,h1⟩
  | false => rw [if_neg Bool.false_ne_true]; exact h1 ρ1 H1 _ (aC.refl _ _) bo (Rl.yu false)
 | _ => exact h1.elim
theorem IC (ha:PE X a (tE X E ma)) (hb:PE X (.BoolOp .Or (b :: rest) pos) (tE X E mb)):PE X (.BoolOp .Or (a :: b :: rest) pos) (tE X E (Ka ma mb)):=by
 refine PE.imp (Hl ha hb) ?_
 rintro σ H Q ⟨μ,ρ,st,rs,sr,h⟩
 refine go μ ρ st rs sr h fun u aN ρ1 H1 x e1 bo r1 h1 => ?_
 cases u with
 | bl k =>
  refine ⟨k,r1.m_,?_⟩
  cases k with
  | true => rw [if_pos rfl]; exact h1 ρ1 H1 _ (aC.refl _ _) bo (Rl.yu true)
  | false => rw [if_neg Bool.false_ne_true]; exact ⟨μ,ρ1,aN,rs.mono e1,bo,h1⟩
 | _ => exact h1.elim
theorem Fm (ha:PE X a (tE X E ma)):PE X (.UnaryOp .Not a pos) (tE X E (Bw ma)):=by
 refine PE.imp (Ea ha) ?_
 rintro σ H Q ⟨μ,ρ,st,rs,sr,h⟩
 refine go μ ρ st rs sr h fun u aN ρ1 H1 x e1 bo r1 h1 => ?_
 cases u with
 | bl k => exact ⟨k,r1.m_,h1 ρ1 H1 _ (aC.refl _ _) bo (Rl.yu _)⟩
 | _ => exact h1.elim
theorem By (ha:PT X a (tT X E tA)):PW X (.BoolOp .And [a] pos) (tT X E tA):=AD ha
theorem Fn (ha:PT X a (tT X E tA)):PW X (.BoolOp .Or [a] pos) (tT X E tA):=D6 ha
theorem Fo (ha:PT X a (tT X E tA)) (hb:PW X (.BoolOp .And (b :: rest) pos) (tT X E AB)):PW X (.BoolOp .And (a :: b :: rest) pos) (tT X E (uA tA AB)):=by
 refine PW.imp (D7 ha hb) ?_
 rintro σ H Q ⟨μ,ρ,st,rs,sr,h⟩
 refine go (R1:=RB) μ ρ st rs sr h fun u aN ρ1 H1 x e1 bo r1 h1 => ?_
 cases r1
 cases u with
 | true => rw [if_pos rfl]; exact ⟨μ,ρ1,aN,rs.mono e1,bo,h1⟩
 | false => rw [if_neg Bool.false_ne_true]; exact h1 ρ1 H1 _ (aC.refl _ _) bo rfl
theorem ID (ha:PT X a (tT X E tA)) (hb:PW X (.BoolOp .Or (b :: rest) pos) (tT X E AB)):PW X (.BoolOp .Or (a :: b :: rest) pos) (tT X E (jL tA AB)):=by
 refine PW.imp (Hi ha hb) ?_
 rintro σ H Q ⟨μ,ρ,st,rs,sr,h⟩
 refine go (R1:=RB) μ ρ st rs sr h fun u aN ρ1 H1 x e1 bo r1 h1 => ?_
 cases r1
 cases u with
 | true => rw [if_pos rfl]; exact h1 ρ1 H1 _ (aC.refl _ _) bo rfl
 | false => rw [if_neg Bool.false_ne_true]; exact ⟨μ,ρ1,aN,rs.mono e1,bo,h1⟩
theorem LK {e:Expr} {t:MT} (h:PW X e (tT X E t)):PT X e (tT X E t):=h.pt
theorem Fp (ha:PT X a (tT X E tA)):PT X (.UnaryOp .Not a pos) (tT X E (cE tA)):=by
 refine PT.imp (D_ ha) ?_
 rintro σ H Q ⟨μ,ρ,st,rs,sr,h⟩
 refine go (R1:=RB) μ ρ st rs sr h fun u aN ρ1 H1 x e1 bo r1 h1 => ?_
 cases r1
 exact h1 ρ1 H1 _ (aC.refl _ _) bo rfl
theorem IE (hc:PT X c (tT X E tA)) (ha:PE X a (tE X E ma)) (hb:PE X b (tE X E mb)):PE X (.IfExp c a b pos) (tE X E (Bx tA ma mb)):=by
 refine PE.imp (xF hc ha hb) ?_
 rintro σ H Q ⟨μ,ρ,st,rs,sr,h⟩
 refine go (R1:=RB) μ ρ st rs sr h fun u aN ρ1 H1 x e1 bo r1 h1 => ?_
 cases r1
 cases u with
 | true => rw [if_pos rfl]; exact ⟨μ,ρ1,aN,rs.mono e1,bo,h1⟩
 | false => rw [if_neg Bool.false_ne_true]; exact ⟨μ,ρ1,aN,rs.mono e1,bo,h1⟩
end
noncomputable def ak:MA:=fun _ st => .ok [] st
noncomputable def aa (a:ME) (r:MA):MA:=fun μ st => (a μ st).bind fun x aN => (r μ aN).bind fun xs st2 => .ok (x :: xs) st2
noncomputable def d5 (a:MA):ME:=fun μ st => (a μ st).bind fun xs aN => if xs.length ≤ sizeLine then .ok (.tup xs) aN else .bad
noncomputable def bF (a:MA):ME:=fun μ st => (a μ st).bind fun xs aN => if xs.length ≤ sizeLine then .ok (.loc aN.length) (aN ++ [.lst xs]) else .bad
noncomputable abbrev FN:=List ai → ag → bH ai
noncomputable def ao (f:FN) (a:MA):ME:=fun μ st => (a μ st).bind fun xs aN => f xs aN
noncomputable def xn (W:Wo) (f:FN):Sp:=fun vs H Q E => ∃ us ρ st,aP W.K ρ H us vs ∧ SR W.K ρ st H ∧ wR W E (Rl W.K) ρ H Q (f us st)
noncomputable def cM (W:Wo) (E:XK) (f:FN):List V → Hp → VK → Prop:=fun xs H Q => ∃ ρ st us,SR W.K ρ st H ∧ aP W.K ρ H us xs ∧ wR W E (Rl W.K) ρ H Q (f us st)
section
variable {X:Cx} {E:XK} {pos p:Pos} {e:Expr} {es:List Expr} {m:ME} {ms:MA} {f:FN} {x:Str}
theorem Fq:PA X [] (tL X E ak):=PA.imp jG fun σ H Q ⟨μ,ρ,st,rs,sr,h⟩ => h ρ H [] (aC.refl _ _) sr aP.nil
theorem Bz (ha:PE X e (tE X E m)) (hr:PA X es (tL X E ms)) (hs:starEach (e :: es) X.env = (false,eval e X.env) :: starEach es X.env:=by rfl):PA X (e :: es) (tL X E (aa m ms)):=by
 refine PA.imp (eB ha hr hs) ?_
 rintro σ H Q ⟨μ,ρ,st,rs,sr,h⟩
 refine go μ ρ st rs sr h fun u aN ρ1 H1 x e1 bo r1 h1 => ?_
 refine go (R1:=aP X.K) μ ρ1 aN (rs.mono e1) bo h1 fun w st2 ρ2 H2 y e2 kg r2 h2 => ?_
 exact h2 ρ2 H2 _ (aC.refl _ _) kg (aP.cons (Rl.mono e2 _ _ r1) r2)
theorem Fs {k} (h:PA X es (tL X E ms)):PE X (.Tuple es k pos) (tE X E (d5 ms)):=by
 refine PE.imp (Ez h) ?_
 rintro σ H Q ⟨μ,ρ,st,rs,sr,h⟩
 refine go (R1:=aP X.K) μ ρ st rs sr h fun us aN ρ1 H1 xs e1 bo r1 h1 => ?_
 by_cases hz:us.length ≤ sizeLine
 ·rw [if_pos hz] at h1
  refine ⟨by rw [← r1.length]; exact hz,fun p hp => ?_⟩
  have s:=bN (o:=.tup xs) hp
  exact h1 ρ1 _ _ (aC.same s) (bo.grow s) (Rl.lD a8 (aP.mono (aC.same s) _ _ r1))
 ·rw [if_neg hz] at h1; exact h1.elim
theorem fu {K:PySem.W.Frag} {ρ:List Addr} {st:ag} {H:Hp} {us:List ai} {xs:List V} (sr:SR K ρ st H) (r:aP K ρ H us xs) {p:Addr} (hp:H p = none) :
  aC ρ H (ρ ++ [p]) (upd H p (.lst xs)) ∧ SR K (ρ ++ [p]) (st ++ [.lst us]) (upd H p (.lst xs)) ∧ Rl K (ρ ++ [p]) (upd H p (.lst xs)) (.loc st.length) (.ref p):=by
 have s:=bN (o:=.lst xs) hp
 refine ⟨aC.snoc p s,sr.alloc hp ⟨xs,a8,aP.mono (aC.snoc p s) _ _ r⟩,Rl.n_ ?_⟩
 rw [← sr.len,List.getElem?_append_right (Nat.le_refl _),Nat.sub_self]
 rfl
theorem Ft (h:PA X es (tL X E ms)):PE X (.List es pos) (tE X E (bF ms)):=by
 refine PE.imp (EA h) ?_
 rintro σ H Q ⟨μ,ρ,st,rs,sr,h⟩
 refine go (R1:=aP X.K) μ ρ st rs sr h fun us aN ρ1 H1 xs e1 bo r1 h1 => ?_
 by_cases hz:us.length ≤ sizeLine
 ·rw [if_pos hz] at h1
  refine ⟨by rw [← r1.length]; exact hz,fun p hp => ?_⟩
  obtain ⟨a,b,c⟩:=fu bo r1 hp
  exact h1 _ _ _ a b c
 ·rw [if_neg hz] at h1; exact h1.elim
theorem BA {k:Nat} {fa:Addr} {fd:FuncData} {ps:List Str} {CX:rQ} (F:d8 X.prog X.w X.K X.mg X.base CX k fa fd ps (xn ⟨X.K,X.mg,[]⟩ f)) (hr:cL k X.A) (hg:Gl X x) (hm:X.mg x = some (.ref fa)) (hk:PySem.W.keepIn X.K (.ref fa) = true)
  (hb:Binds X.K fd ps []) (hx:Passes CX X E) (ha:PA X (e :: es) (tL X E ms)) (iK:(x == ("__debug__":Str)) = false:=by decide)
  (he:starEach (e :: es) X.env = (false,eval e X.env) :: starEach es X.env:=by rfl) (eM:(backTo pos (starEach es X.env)).any (·.1) = false:=by rfl) :
  PE X (.Call (.Name x p) (e :: es) [] pos) (tE X E (ao f ms)):=by
 refine PE.imp (AR F hr hg hm hk hb .nil hx ha iK he eM) ?_
 rintro σ H Q ⟨μ,ρ,st,rs,sr,h⟩
 refine go (R1:=aP X.K) μ ρ st rs sr h fun us aN ρ1 H1 xs e1 bo r1 h1 => ?_
 rw [List.append_nil]
 exact ⟨us,ρ1,aN,r1,bo,wR.pn h1⟩
theorem d6 {id:String} (hc:aU X (.builtin id) (cM (wo X) E f)) (hg:Gl X x) (hm:X.mg x = none) (hv:bootBuiltins x = some (.builtin id)) (ha:PA X (e :: es) (tL X E ms)) (hn:x ≠ "__name__":=by decide) (iK:(x == ("__debug__":Str)) = false:=by decide)
  (he:starEach (e :: es) X.env = (false,eval e X.env) :: starEach es X.env:=by rfl) (eM:(backTo pos (starEach es X.env)).any (·.1) = false:=by rfl):PE X (.Call (.Name x p) (e :: es) [] pos) (tE X E (ao f ms)):=by
 refine PE.imp (i? hc hg hm hv ha hn iK he eM) ?_
 rintro σ H Q ⟨μ,ρ,st,rs,sr,h⟩
 exact go (R1:=aP X.K) μ ρ st rs sr h fun us aN ρ1 H1 xs e1 bo r1 h1 => ⟨ρ1,aN,us,bo,r1,h1⟩
theorem jM {T:String} (hc:aU X (.type T) (cM (wo X) E f)) (hg:Gl X x) (hm:X.mg x = none) (hv:bootBuiltins x = some (.type T)) (ha:PA X (e :: es) (tL X E ms)) (hn:x ≠ "__name__":=by decide) (iK:(x == ("__debug__":Str)) = false:=by decide)
  (he:starEach (e :: es) X.env = (false,eval e X.env) :: starEach es X.env:=by rfl) (eM:(backTo pos (starEach es X.env)).any (·.1) = false:=by rfl):PE X (.Call (.Name x p) (e :: es) [] pos) (tE X E (ao f ms)):=by
 refine PE.imp (vG hc hg hm hv ha hn iK he eM) ?_
 rintro σ H Q ⟨μ,ρ,st,rs,sr,h⟩
 exact go (R1:=aP X.K) μ ρ st rs sr h fun us aN ρ1 H1 xs e1 bo r1 h1 => ⟨ρ1,aN,us,bo,r1,h1⟩
end
section
variable {X:Cx} {E:XK} {pos:Pos} {a b:Expr} {ma mb:ME} {f:F2}
theorem IF (hr:rR X (rM (wo X) E f)) (ha:PE X a (tE X E ma)) (hb:PE X b (tE X E mb)) (hs:oQ b:=by exact fun _ _ => rfl):PE X (.Subscript a b pos) (tE X E (ah f ma mb)) :=
 PE.imp (HR hr ha hb hs) fun _ _ _ h => jb h
end
noncomputable def wS (W:Wo) (E:XK) (ρ:List Addr) (H:Hp) (D:Ends):cf → Prop
 | .nx μ st => ∀ ρ' H' σ',aC ρ H ρ' H' → SR W.K ρ' st H' → RS W ρ' H' μ σ' → D.nx σ' H'
 | .rt v st => ∀ ρ' H' x,aC ρ H ρ' H' → SR W.K ρ' st H' → Rl W.K ρ' H' v x → D.rt x H'
 | .bk μ st => ∀ ρ' H' σ',aC ρ H ρ' H' → SR W.K ρ' st H' → RS W ρ' H' μ σ' → D.bk σ' H'
 | .ct μ st => ∀ ρ' H' σ',aC ρ H ρ' H' → SR W.K ρ' st H' → RS W ρ' H' μ σ' → D.ct σ' H'
 | .er c _ st => ∃ C,W.mg c = some (.ref C) ∧ ∀ ρ' H',aC ρ H ρ' H' → SR W.K ρ' st H' → E (.ref C) none H'
 | .bad => False
theorem wS.mono {W:Wo} {E:XK} {ρ ρ':List Addr} {H H':Hp} {D:Ends} {r:cf} (h:wS W E ρ H D r) (e:aC ρ H ρ' H'):wS W E ρ' H' D r:=by
 cases r with
 | nx μ st => exact fun ρ2 H2 σ2 e2 s r => h ρ2 H2 σ2 (e.trans e2) s r
 | rt v st => exact fun ρ2 H2 x e2 s r => h ρ2 H2 x (e.trans e2) s r
 | bk μ st => exact fun ρ2 H2 σ2 e2 s r => h ρ2 H2 σ2 (e.trans e2) s r
 | ct μ st => exact fun ρ2 H2 σ2 e2 s r => h ρ2 H2 σ2 (e.trans e2) s r
 | er c μ st => obtain ⟨C,h1,h2⟩:=h; exact ⟨C,h1,fun ρ2 H2 e2 s => h2 ρ2 H2 (e.trans e2) s⟩
 | bad => exact h
noncomputable def tS (X:Cx) (E:XK) (m:MB):TS:=fun D σ H => ∃ μ ρ st,RS (wo X) ρ H μ σ ∧ SR X.K ρ st H ∧ wS (wo X) E ρ H D (m μ st)
@[reducible] def bH.sb {α:Type} (r:bH α) (μ:Env) (k:α → ag → cf):cf:=match r with
 | .ok a st => k a st
 | .err c st => .er c μ st
 | .bad => .bad
theorem Du {α β:Type} {W:Wo} {E:XK} {R1:List Addr → Hp → α → β → Prop} {m:Env → ag → bH α} {k:α → ag → cf} {σ:St} {H:Hp} {D:Ends} {Q':β → Hp → Prop}
  (μ:Env) (ρ:List Addr) (st:ag) (rs:RS W ρ H μ σ) (sr:SR W.K ρ st H) (h:wS W E ρ H D ((m μ st).sb μ k))
  (c:∀ u aN ρ1 H1 x,aC ρ H ρ1 H1 → SR W.K ρ1 aN H1 → R1 ρ1 H1 u x → wS W E ρ1 H1 D (k u aN) → Q' x H1):tG W E R1 m σ H Q':=by
 refine ⟨μ,ρ,st,rs,sr,?_⟩
 cases e:m μ st with
 | ok u aN =>
  rw [e] at h
  intro ρ1 H1 x e1 bo r1
  exact c u aN ρ1 H1 x e1 bo r1 (wS.mono h e1)
 | err c aN => rw [e] at h; exact h
 | bad => rw [e] at h; exact h
noncomputable def bB:MB:=fun μ st => .nx μ st
noncomputable def az (a b:MB):MB:=fun μ st => match a μ st with
 | .nx μ' av => b μ' av
 | r => r
noncomputable def bg (m:ME):MB:=fun μ st => (m μ st).sb μ fun _ av => .nx μ av
noncomputable def aY (m:ME):MB:=fun μ st => (m μ st).sb μ fun v av => .rt v av
noncomputable def gf (t:MT) (a b:MB):MB:=fun μ st => (t μ st).sb μ fun k av => match k with
 | true => a μ av
 | false => b μ av
noncomputable def aM (i:Nat) (m:ME):MB:=fun μ st => (m μ st).sb μ fun v av => .nx (μ.set i (some v)) av
noncomputable def dm (c:Str) (m:MA):MB:=fun μ st => (m μ st).sb μ fun vs av => if vs.length ≤ sizeLine then .er c μ av else .bad
section
variable {X:Cx} {E:XK} {pos:Pos} {s1:Stmt} {rest:List Stmt} {e:Expr} {m:ME} {a b:MB}
theorem Fu:gS X [] (tS X E bB):=gS.imp AE fun D σ H ⟨μ,ρ,st,rs,sr,h⟩ => h ρ H σ (aC.refl _ _) sr rs
theorem uB (h1:PS X s1 (tS X E a)) (h2:gS X rest (tS X E b)):gS X (s1 :: rest) (tS X E (az a b)):=by
 refine gS.imp (xG h1 h2) ?_
 rintro D σ H ⟨μ,ρ,st,rs,sr,h⟩
 refine ⟨μ,ρ,st,rs,sr,?_⟩
 unfold az at h
 cases e:a μ st with
 | nx μ' av =>
  rw [e] at h
  intro ρ1 H1 σ1 e1 bo G1
  exact ⟨μ',ρ1,av,G1,bo,wS.mono h e1⟩
 | rt v av => rw [e] at h; exact h
 | bk μ' av => rw [e] at h; exact h
 | ct μ' av => rw [e] at h; exact h
 | er c μ' av => rw [e] at h; exact h
 | bad => rw [e] at h; exact h
theorem yw (h1:PS X s1 (tS X E a)):gS X [s1] (tS X E a):=AF h1
theorem BB (he:PE X e (tE X E m)) (hs:swapsWith e none pos.line X.env = pure false:=by rfl):PS X (.Expr e pos) (tS X E (bg m)):=by
 refine PS.imp (AG he hs) ?_
 rintro D σ H ⟨μ,ρ,st,rs,sr,h⟩
 exact Du μ ρ st rs sr h fun u aN ρ1 H1 x e1 bo r1 h1 => h1 ρ1 H1 σ (aC.refl _ _) bo (rs.mono e1)
theorem Fv (he:PE X e (tE X E m)):PS X (.Return (some e) pos) (tS X E (aY m)):=by
 refine PS.imp (Eb he) ?_
 rintro D σ H ⟨μ,ρ,st,rs,sr,h⟩
 exact Du μ ρ st rs sr h fun u aN ρ1 H1 x e1 bo r1 h1 => h1 ρ1 H1 x (aC.refl _ _) bo r1
theorem IG {c:Expr} {sa sb:List Stmt} {t:MT} (hc:PT X c (tT X E t)) (ha:gS X sa (tS X E a)) (hb:gS X sb (tS X E b)):PS X (.If c sa sb pos) (tS X E (gf t a b)):=by
 refine PS.imp (Ho hc ha hb) ?_
 rintro D σ H ⟨μ,ρ,st,rs,sr,h⟩
 refine Du (R1:=RB) μ ρ st rs sr h fun u aN ρ1 H1 x e1 bo r1 h1 => ?_
 cases r1
 cases u with
 | true => rw [if_pos rfl]; exact ⟨μ,ρ1,aN,rs.mono e1,bo,h1⟩
 | false => rw [if_neg Bool.false_ne_true]; exact ⟨μ,ρ1,aN,rs.mono e1,bo,h1⟩
theorem qp {i:Nat} {D:Ends} {σ:St} {H:Hp} (h:tS X E (aM i m) D σ H):Ed (tE X E m) (p4 i) D σ H:=by
 obtain ⟨μ,ρ,st,rs,sr,h⟩:=h
 exact Du μ ρ st rs sr h fun u aN ρ1 H1 x e1 bo r1 h1 => h1 ρ1 H1 _ (aC.refl _ _) bo ((rs.mono e1).set i r1)
theorem Fw (i:Nat) {x:Str} {pos':Pos} (hN:X.N.Nodup) (he:PE X e (tE X E m)) (hi:X.N[i]? = some x:=by rfl) (hx:Loc X.env.scope x:=by first | exact Or.inl rfl | exact Or.inr rfl) (hs:swapsWith e (some (.Name x pos')) pos.line X.env = pure false:=by rfl)
  (hf:X.fn x = true ∨ X.env.scope.names.lookup x = some .local:=by first | exact .inl rfl | exact .inr rfl | assumption):PS X (.Assign [.Name x pos'] e pos) (tS X E (aM i m)) :=
 PS.imp (Ee hN hi hx he hs hf) fun _ _ _ h => qp h
theorem yx {x:Str} {C:Addr} {B newId sF:String} {bm:List Value} {np bO:Pos} {e₀:Expr} {es:List Expr} {ms:MA} (hX:Raises X E) (hc:X.calm = true) (hm:X.mg x = some (.ref C)) (hq:PySem.W.excIn X.K C bm newId = true) (FB:ExcBaseFacts B newId sF bm) (hg:Gl X x) (ha:PA X (e₀ :: es) (tL X E ms))
  (he:starEach (e₀ :: es) X.env = (false,eval e₀ X.env) :: starEach es X.env:=by rfl) (eM:(backTo bO (starEach es X.env)).any (·.1) = false:=by rfl) (hd:(x == ("__debug__":Str)) = false:=by decide) :
  PS X (.Raise (some (.Call (.Name x np) (e₀ :: es) [] bO)) none pos) (tS X E (dm x ms)):=by
 refine PS.imp (yp (E:=E) hX hc hm hq FB hg ha he eM hd) ?_
 rintro D σ H ⟨μ,ρ,st,rs,sr,h⟩
 refine Du (R1:=aP X.K) μ ρ st rs sr h fun us aN ρ1 H1 xs e1 bo r1 h1 => ?_
 by_cases hz:us.length ≤ sizeLine
 ·rw [if_pos hz] at h1
  obtain ⟨C',q1,q2⟩:=h1
  have e:C' = C:=by
   have:=q1.symm.trans hm
   injection this with this
   injection this
  subst e
  exact ⟨by rw [← r1.length]; exact hz,q2 ρ1 H1 (aC.refl _ _) bo⟩
 ·rw [if_neg hz] at h1; exact h1.elim
end
noncomputable def fJ (np n:Nat) (body:MB):FN:=fun us st => if us.length = np then (match body (us.map some ++ List.replicate (n - np) none) st with
 | .nx _ av => .ok .bE av
 | .rt v av => .ok v av
 | .er c _ av => .err c av
 | _ => .bad) else .bad
theorem RS.start {W:Wo} {ρ:List Addr} {H:Hp} {N:List Str} {us:List ai} {vs:List V} (r:aP W.K ρ H us vs):RS W ρ H (us.map some ++ List.replicate (N.length - us.length) none) (L2.start N vs):=by
 have hl:=r.length
 refine ⟨by simp [L2.start,hl],fun i u e => ?_⟩
 rcases Nat.lt_or_ge i us.length with q | q
 ·rw [List.getElem?_append_left (by rw [List.length_map]; exact q),List.getElem?_map] at e
  have e':us[i]? = some u:=by
   cases z:us[i]? with
   | none => rw [z] at e; cases e
   | some w => rw [z] at e; exact congrArg _ (Option.some.inj (Option.some.inj e))
  obtain ⟨v,h1,h2⟩:=r.get e'
  refine ⟨v,?_,uz.of h2⟩
  unfold L2.start
  rw [List.getElem?_append_left (by rw [List.length_map,← hl]; exact q),List.getElem?_map,h1]
  rfl
 ·rw [List.getElem?_append_right (by rw [List.length_map]; exact q)] at e
  rw [List.getElem?_replicate] at e
  split at e
  ·cases e
  ·cases e
section
variable {P:Program} {w:World} {K:PySem.W.Frag} {mg:Str → Option Value} {base:Heap}
theorem o4 {x qual:Str} {st:Stmt} {f:Addr} {fd:FuncData} {N ps:List Str} {k:Nat} {body:MB} (F:Au K x qual st f fd) (S:cw N ps (aE st))
  (h:∀ (cZ:Value) (A:Around) (outer:List PySem.Env) (s:Shared) (H:Hp) (E:XK),cL k (A.deeper (envOfC qual (aE st) s.heap.objs.size f cZ)) →
   gS (eO (gT P w) P w K mg base N qual (aE st) f cZ A outer s H E) (b! st) (tS (eO (gT P w) P w K mg base N qual (aE st) f cZ A outer s H E) E body)) :
  d8 P w K mg base (gT P w) (k + 1) f fd ps (xn ⟨K,mg,[]⟩ (fJ ps.length N.length body)):=by
 refine F.OJ S (fun vs H Q E q => ?_) (fun cZ A outer s H vs Q E hr q => ⟨_,h cZ A outer s H E hr,?_⟩)
 ·obtain ⟨us,ρ,st,r,sr,q⟩:=q
  by_cases hl:us.length = ps.length
  ·rw [← r.length]; exact hl
  ·unfold fJ at q; rw [if_neg hl] at q; exact q.elim
 ·obtain ⟨us,ρ,av,r,sr,q⟩:=q
  unfold fJ at q
  by_cases hl:us.length = ps.length
  ·rw [if_pos hl,← hl] at q
   refine ⟨_,ρ,av,RS.start r,sr,?_⟩
   revert q
   cases body (us.map some ++ List.replicate (N.length - us.length) none) av with
   | nx μ st2 => exact fun q ρ' H' σ' e s _ => q ρ' H' .bE e s Rl.uw
   | rt v st2 => exact fun q => q
   | er c μ st2 => exact fun q => q
   | bk μ st2 => exact fun q => q.elim
   | ct μ st2 => exact fun q => q.elim
   | bad => exact fun q => q.elim
  ·rw [if_neg hl] at q; exact q.elim
end
end MN
namespace MN
open PySem PySem.Spec L2
open PyProof.Rows hiding St
noncomputable def Sz (i:Int):Prop:=i.natAbs.log2 < 1000000
noncomputable instance (i:Int):Decidable (Sz i):=inferInstanceAs (Decidable (_ < _))
theorem Sz.big {i:Int} (h:Sz i):kx 1000001 i:=by
 show _ < _
 have h1:i.natAbs < 2 ^ (i.natAbs.log2 + 1):=Nat.lt_log2_self
 exact Nat.lt_of_lt_of_le h1 (Nat.pow_le_pow_right (by decide) (by have:i.natAbs.log2 < 1000000:=h; lia))
theorem Sz.of {k:Nat} {i:Int} (h:kx k i) (hk:k ≤ 1000000):Sz i:=by
 show i.natAbs.log2 < 1000000
 have h':i.natAbs < 2 ^ k:=h
 by_cases z:i.natAbs = 0
 ·rw [z]; decide
 ·exact Nat.lt_of_lt_of_le ((Nat.log2_lt z).mpr h') hk
theorem Sz.mul {i j:Int} (h:Sz i) (k:Sz j):ur i j:=⟨_,_,h.big,k.big,by decide,by decide⟩
noncomputable def Dz (i:Int):Prop:=i ≠ 0 ∧ i.natAbs.log2 < 8000
noncomputable instance (i:Int):Decidable (Dz i):=inferInstanceAs (Decidable (_ ∧ _))
theorem Dz.ok {i j:Int} (h:Dz j):uu i j:=by
 refine ⟨h.1,?_⟩
 show _ < _
 have h1:j.natAbs < 2 ^ (j.natAbs.log2 + 1):=Nat.lt_log2_self
 exact Nat.lt_of_lt_of_le h1 (Nat.pow_le_pow_right (by decide) (by have:=h.2; lia))
theorem Dz.of {k:Nat} {i:Int} (h0:i ≠ 0) (h:kx k i) (hk:k ≤ 8000):Dz i:=by
 refine ⟨h0,?_⟩
 have h':i.natAbs < 2 ^ k:=h
 exact Nat.lt_of_lt_of_le ((Nat.log2_lt (by lia)).mpr h') hk
noncomputable def MulOk (i j:Int):Prop:=(Sz i ∧ Sz j) ∨ xJ i j
noncomputable instance (i j:Int):Decidable (xJ i j):=inferInstanceAs (Decidable (_ ∨ _))
noncomputable instance (i j:Int):Decidable (MulOk i j):=inferInstanceAs (Decidable (_ ∨ _))
noncomputable instance (i j:Int):Decidable (K0 i j):=inferInstanceAs (Decidable (_ ∧ _ ∧ _))
noncomputable def yy (k:Nat) (us:List ai):List ai:=(List.replicate k us).flatten
noncomputable def bV:F2
 | .int i,.int j,st => .ok (.int (i + j)) st
 | .str a,.str b,st => if a.length + b.length ≤ sizeLine then .ok (.str (a ++ b)) st else .bad
 | .tup us,.tup ws,st => if us.length + ws.length ≤ sizeLine then .ok (.tup (us ++ ws)) st else .bad
 | .loc n,.loc m,st => match st[n]?,st[m]? with
  | some (.lst us),some (.lst ws) => if us.length + ws.length ≤ sizeLine then .ok (.loc st.length) (st ++ [.lst (us ++ ws)]) else .bad
  | _,_ => .bad
 | _,_,_ => .bad
noncomputable def lE (g:Int → Int → ag → bH ai):F2
 | .int i,.int j,st => g i j st
 | _,_,_ => .bad
theorem BC (g:Int → Int → ag → bH ai) (u w:ai) (st:ag):(∃ i j,u = .int i ∧ w = .int j) ∨ lE g u w st = .bad:=by
 cases u with
 | int i =>
  cases w with
  | int j => exact .inl ⟨i,j,rfl,rfl⟩
  | _ => exact .inr rfl
 | _ => exact .inr rfl
theorem eD {g:Int → Int → ag → bH ai} {W:Wo} {E:XK} {ρ:List Addr} {st:ag} {H:Hp} {Q:VK} {u w:ai} (h:wR W E (Rl W.K) ρ H Q (lE g u w st)):∃ i j,u = .int i ∧ w = .int j ∧ wR W E (Rl W.K) ρ H Q (g i j st):=by
 rcases BC g u w st with ⟨i,j,rfl,rfl⟩ | z
 ·exact ⟨i,j,rfl,rfl,h⟩
 ·rw [z] at h; exact h.elim
noncomputable def eV:F2:=lE fun i j st => .ok (.int (i - j)) st
noncomputable def cF:F2
 | .int i,.int j,st => if MulOk i j then .ok (.int (i * j)) st else .bad
 | .loc n,.int k,st => match st[n]? with
  | some (.lst us) => if -(2 ^ 63) ≤ k ∧ k < 2 ^ 63 ∧ us.length * k.toNat ≤ sizeLine then .ok (.loc st.length) (st ++ [.lst (yy k.toNat us)]) else .bad
  | _ => .bad
 | _,_,_ => .bad
noncomputable def dQ:F2:=lE fun i j st => if Dz j then .ok (.int (i.fdiv j)) st else .bad
noncomputable def cg:F2:=lE fun i j st => if j = 0 then .bad else .ok (.int (i.fmod j)) st
noncomputable def ltV:F2:=lE fun i j st => .ok (.bl (decide (i < j))) st
noncomputable def Dv:F2:=lE fun i j st => .ok (.bl (decide (j < i))) st
section
variable {X:Cx} {E:XK}
theorem bu {W:Wo} {ρ:List Addr} {st:ag} {H:Hp} {Q:VK} {i:Int} (sr:SR W.K ρ st H) (h:wR W E (Rl W.K) ρ H Q (.ok (.int i) st)):Q (.int i) H:=h ρ H _ (aC.refl _ _) sr (Rl.mkInt i)
theorem dF {W:Wo} {ρ:List Addr} {st:ag} {H:Hp} {Q:VK} {i:Bool} (sr:SR W.K ρ st H) (h:wR W E (Rl W.K) ρ H Q (.ok (.bl i) st)):Q (.bl i) H:=h ρ H _ (aC.refl _ _) sr (Rl.yu i)
theorem aP.IH {K:PySem.W.Frag} {ρ:List Addr} {H:Hp} {us:List ai} {xs:List V} (r:aP K ρ H us xs):∀ k:Nat,aP K ρ H (yy k us) (List.replicate k xs).flatten
 | 0 => aP.nil
 | k + 1 => by
  unfold yy
  rw [List.replicate_succ,List.replicate_succ,List.flatten_cons,List.flatten_cons]
  exact r.append (aP.IH r k)
theorem yz:cV X (binaryOp .Add) (fun x y H Q => ∃ a b ys,x = .ref a ∧ y = .ref b ∧ ig X.K H a [] ∧ ig X.K H b ys ∧ Q (.ref b) H):=by
 intro af s σ H x y v u Q I rx ry h
 obtain ⟨a,b,ys,rfl,rfl,ha,hb,q⟩:=h
 cases rx
 cases ry
 obtain ⟨aH,r1,p1,_⟩:=I.tuple ha
 obtain ⟨cK,r2,p2,_⟩:=I.tuple hb
 cases r1
 obtain ⟨⟨cls,dd,data,sl⟩,ho,hc,n,hd⟩:=id p1
 obtain ⟨⟨K7,JV,data2,HL⟩,EE,HM,n2,hd2⟩:=id p2
 simp only at hc hd HM hd2
 subst hc hd HM hd2
 exact concat_meets ⟨_,ho,rfl⟩ ⟨_,EE,rfl⟩ noFill_tuple_add seq_tuple_add PySem.F.slot_tuple_add PySem.F.entry_tuple_add (PySem.F.args_tuple_add_2 _ _)
  (tuple_addW0 a b #[] cK.toArray n n2 dd JV sl HL (by simp)) ⟨ho,EE,⟨.ref b,H,I,rfl,q⟩⟩
theorem BD:cV X (binaryOp .Add) (rM (wo X) E bV):=by
 refine cV.imp (cV.or El (cV.or sd (cV.or EN (cV.or A0 yz)))) ?_
 rintro x y H Q ⟨ρ,st,u,w,sr,r1,r2,h⟩
 cases u <;> cases w <;> try exact h.elim
 case int.int i j => exact .inl ⟨i,j,r1.bA,r2.bA,bu sr h⟩
 case str.str a b =>
  unfold bV at h
  dsimp only at h
  split at h
  ·rename_i hz
   exact .inr (.inl ⟨a,b,r1.gQ,r2.gQ,hz,h ρ H _ (aC.refl _ _) sr (Rl.mkStr _)⟩)
  ·exact h.elim
 case tup.tup us ws =>
  unfold bV at h
  dsimp only at h
  split at h
  ·rename_i hz
   obtain ⟨a,xs,rfl,ha,ra⟩:=r1.d9
   obtain ⟨b,ys,rfl,hb,rb⟩:=r2.d9
   by_cases hx:xs = []
   ·subst hx
    have hu:us = []:=List.eq_nil_of_length_eq_zero ra.length
    subst hu
    exact .inr (.inr (.inr (.inr ⟨a,b,ys,rfl,rfl,ha,hb,h ρ H _ (aC.refl _ _) sr r2⟩)))
   ·refine .inr (.inr (.inr (.inl ⟨a,b,xs,ys,rfl,rfl,ha,hb,hx,by rw [← ra.length,← rb.length]; exact hz,fun hy => ?_,fun hy p hp => ?_⟩)))
    ·subst hy
     have hw:ws = []:=List.eq_nil_of_length_eq_zero rb.length
     subst hw
     rw [List.append_nil] at h
     exact h ρ H _ (aC.refl _ _) sr r1
    ·have s:=bN (o:=.tup (xs ++ ys)) hp
     exact h ρ _ _ (aC.same s) (sr.grow s) (Rl.lD a8 (aP.mono (aC.same s) _ _ (ra.append rb)))
  ·exact h.elim
 case loc.loc n m =>
  unfold bV at h
  dsimp only at h
  split at h
  ·rename_i us ws e1 e2
   split at h
   ·rename_i hz
    obtain ⟨a,rfl,ha⟩:=r1.cN
    obtain ⟨b,rfl,hb⟩:=r2.cN
    obtain ⟨xs,h1,q1⟩:=sr.cell n _ a e1 ha
    obtain ⟨ys,h2,q2⟩:=sr.cell m _ b e2 hb
    refine .inr (.inr (.inl ⟨a,b,xs,ys,rfl,rfl,h1,h2,by rw [← q1.length,← q2.length]; exact hz,fun p hp => ?_⟩))
    obtain ⟨k1,k2,k3⟩:=fu sr (q1.append q2) hp
    exact h _ _ _ k1 k2 k3
   ·exact h.elim
  ·exact h.elim
theorem BE:cV X (binaryOp .Sub) (rM (wo X) E eV):=by
 refine cV.imp Em ?_
 rintro x y H Q ⟨ρ,st,u,w,sr,r1,r2,h⟩
 obtain ⟨i,j,rfl,rfl,q⟩:=eD h
 exact ⟨i,j,r1.bA,r2.bA,bu sr q⟩
theorem BF:cV X (binaryOp .Mult) (rM (wo X) E cF):=by
 refine cV.imp (cV.or Bc (cV.or En EO)) ?_
 rintro x y H Q ⟨ρ,st,u,w,sr,r1,r2,h⟩
 cases u <;> cases w <;> try exact h.elim
 case int.int i j =>
  unfold cF at h
  dsimp only at h
  split at h
  ·rename_i hz
   rcases hz with hz | hz
   ·exact .inl ⟨i,j,r1.bA,r2.bA,hz.1.mul hz.2,bu sr h⟩
   ·exact .inr (.inl ⟨i,j,r1.bA,r2.bA,hz,bu sr h⟩)
  ·exact h.elim
 case loc.int n k =>
  unfold cF at h
  dsimp only at h
  split at h
  ·rename_i us e1
   split at h
   ·rename_i hz
    obtain ⟨a,rfl,ha⟩:=r1.cN
    obtain ⟨xs,h1,q1⟩:=sr.cell n _ a e1 ha
    refine .inr (.inr ⟨a,k,xs,rfl,r2.bA,h1,hz.1,hz.2.1,by rw [← q1.length]; exact hz.2.2,fun p hp => ?_⟩)
    obtain ⟨k1,k2,k3⟩:=fu sr (q1.IH k.toNat) hp
    exact h _ _ _ k1 k2 k3
   ·exact h.elim
  ·exact h.elim
theorem yA:cV X (binaryOp .FloorDiv) (rM (wo X) E dQ):=by
 refine cV.imp yf ?_
 rintro x y H Q ⟨ρ,st,u,w,sr,r1,r2,h⟩
 obtain ⟨i,j,rfl,rfl,h0⟩:=eD h
 clear h
 have h:=h0
 clear h0
 ·split at h
  ·rename_i hz
   exact ⟨i,j,r1.bA,r2.bA,hz.ok,bu sr h⟩
  ·exact h.elim
theorem BG:cV X (binaryOp .Mod) (rM (wo X) E cg):=by
 refine cV.imp AL ?_
 rintro x y H Q ⟨ρ,st,u,w,sr,r1,r2,h⟩
 obtain ⟨i,j,rfl,rfl,h0⟩:=eD h
 clear h
 have h:=h0
 clear h0
 ·split at h
  ·exact h.elim
  ·rename_i hz
   exact ⟨i,j,r1.bA,r2.bA,hz,bu sr h⟩
theorem yB:cV X (compareOp .Lt) (rM (wo X) E ltV):=by
 refine cV.imp HA ?_
 rintro x y H Q ⟨ρ,st,u,w,sr,r1,r2,h⟩
 obtain ⟨i,j,rfl,rfl,q⟩:=eD h
 exact ⟨i,j,r1.bA,r2.bA,dF sr q⟩
theorem yC:cV X (compareOp .Gt) (rM (wo X) E Dv):=by
 refine cV.imp HB ?_
 rintro x y H Q ⟨ρ,st,u,w,sr,r1,r2,h⟩
 obtain ⟨i,j,rfl,rfl,q⟩:=eD h
 exact ⟨i,j,r1.bA,r2.bA,dF sr q⟩
noncomputable def jN (m:ME):ME:=fun μ st => (m μ st).bind fun v av => match v with
 | .int i => .ok (.int (-i)) av
 | _ => .bad
theorem Fx {a:Expr} {m:ME} {pos:Pos} (h:PE X a (tE X E m)):PE X (.UnaryOp .USub a pos) (tE X E (jN m)):=by
 refine PE.imp (Hx Er h) ?_
 rintro σ H Q ⟨μ,ρ,st,rs,sr,h⟩
 refine go μ ρ st rs sr h fun u aN ρ1 H1 x e1 bo r1 h1 => ?_
 cases u with
 | int i => exact ⟨i,r1.bA,bu bo h1⟩
 | _ => exact h1.elim
end
noncomputable def flat:ai → Bool
 | .bE => true
 | .bl _ => true
 | .int _ => true
 | .str _ => true
 | _ => false
noncomputable def Fy:ai → ai → Bool
 | .bE,.bE => true
 | .bl a,.bl b => a == b
 | .bl a,.int b => (if a then 1 else 0) == b
 | .int a,.bl b => a == (if b then 1 else 0)
 | .int a,.int b => a == b
 | .str a,.str b => a == b
 | _,_ => false
noncomputable def aj (st:ag) (n:Nat):Option (List ai):=match st[n]? with
 | some (.lst us) => some us
 | some (.Fb us) => some us
 | some (.mod us) => some us
 | _ => none
inductive Vw where
 | lst (us:List ai) | tup (us:List ai) | kq
noncomputable def vw (st:ag):ai → Option Vw
 | .tup us => some (.tup us)
 | .loc n => (aj st n).map .lst
 | .bE => some .kq
 | .bl _ => some .kq
 | .int _ => some .kq
 | .str _ => some .kq
 | _ => none
noncomputable def fT (f:ai → ai → Option Bool):List ai → List ai → Option Bool
 | [],[] => some true
 | x :: xs,y :: ys => match f x y,fT f xs ys with
  | some a,some b => some (a && b)
  | _,_ => none
 | [],_ :: _ => some false
 | _ :: _,[] => some false
noncomputable def gu:Nat → ag → ai → ai → Option Bool
 | 0,_,_,_ => none
 | n + 1,st,u,w => match vw st u,vw st w with
  | some (.tup us),some (.tup ws) => fT (gu n st) us ws
  | some (.lst us),some (.lst ws) => fT (gu n st) us ws
  | some .kq,some .kq => some (Fy u w)
  | some _,some _ => some false
  | _,_ => none
theorem lG {f:ai → ai → Option Bool}:∀ {us ws:List ai} {b:Bool},fT f us ws = some b → us.length ≠ ws.length → b = false
 | [],[],_,_,h => absurd rfl h
 | [],_ :: _,b,e,_ => by injection e with e; exact e.symm
 | _ :: _,[],b,e,_ => by injection e with e; exact e.symm
 | x :: xs,y :: ys,b,e,h => by
  unfold fT at e
  split at e
  ·rename_i a c h1 h2
   injection e with e
   rw [← e,lG h2 (fun z => h (by simp [z])),Bool.and_false]
  ·cases e
theorem uC {f:ai → ai → Option Bool}:∀ {us ws:List ai} {b:Bool},fT f us ws = some b → ∀ (j:Nat) (u w:ai),us[j]? = some u → ws[j]? = some w → ∃ c,f u w = some c
 | [],_,_,_,j,u,w,h1,_ => by cases h1
 | _ :: _,[],_,_,j,u,w,_,h2 => by cases h2
 | x :: xs,y :: ys,b,e,j,u,w,h1,h2 => by
  unfold fT at e
  split at e
  ·rename_i a c q1 q2
   cases j with
   | zero => cases h1; cases h2; exact ⟨a,q1⟩
   | succ j => exact uC q2 j u w h1 h2
  ·cases e
noncomputable def Kb (f:ai → ai → Option Bool) (us ws:List ai) (j:Nat):Bool:=match us[j]?,ws[j]? with
 | some u,some w => (f u w).getD true
 | _,_ => true
theorem lH {f:ai → ai → Option Bool}:∀ {us ws:List ai} {b:Bool},fT f us ws = some b → us.length = ws.length → (List.range us.length).all (Kb f us ws) = b
 | [],[],b,e,_ => by injection e
 | [],_ :: _,_,_,h => by simp at h
 | _ :: _,[],_,_,h => by simp at h
 | x :: xs,y :: ys,b,e,h => by
  have h':xs.length = ys.length:=by simpa using h
  unfold fT at e
  split at e
  ·rename_i a c q1 q2
   injection e with e
   rw [List.length_cons,List.range_succ_eq_map,List.all_cons,List.all_map,← e,← lH q2 h']
   congr 1
   show (f x y).getD true = a
   rw [q1]; rfl
  ·cases e
section
variable {X:Cx} {af:List (Addr × Obj)} {σ:St} {H:Hp} {s:Shared} {ρ:List Addr} {st:ag}
theorem aO (sr:SR X.K ρ st H) {n:Nat} {us:List ai} {a:Addr} (h:aj st n = some us) (ha:ρ[n]? = some a):∃ vs,iC X.K H a vs ∧ aP X.K ρ H us vs:=by
 unfold aj at h
 split at h
 ·rename_i ws e
  cases h
  obtain ⟨vs,h1,h2⟩:=sr.cell n _ a e ha
  exact ⟨vs,iC.of h1,h2⟩
 ·rename_i ws e
  cases h
  obtain ⟨o,vs,h1,h2⟩:=sr.cell n _ a e ha
  exact ⟨vs,.inl (.inr ⟨o,h1⟩),h2⟩
 ·rename_i ws e
  cases h
  obtain ⟨vs,h1,h2⟩:=sr.cell n _ a e ha
  exact ⟨vs,.inr h1,h2⟩
 ·cases h
theorem uD (I:aG X af σ H s) (sr:SR X.K ρ st H):∀ (n:Nat) (u w:ai) (x:V) (b:Bool),Rl X.K ρ H u x → Rl X.K ρ H w x → gu n st u w = some b → b = true
 | 0,_,_,_,_,_,_,e => by cases e
 | n + 1,u,w,x,b,r1,r2,e => by
  have lst:∀ (us ws:List ai) (vs:List V) (b:Bool),aP X.K ρ H us vs → aP X.K ρ H ws vs → fT (gu n st) us ws = some b → b = true:=by
   intro us
   induction us with
   | nil =>
    intro ws vs b h1 h2 e
    have:=h1.de
    subst this
    have hw:ws = []:=List.eq_nil_of_length_eq_zero h2.length
    subst hw
    injection e with e; exact e.symm
   | cons u us ih =>
    intro ws vs b h1 h2 e
    obtain ⟨v,r,rfl,q1,q2⟩:=h1.bI
    cases ws with
    | nil => have:=h2.de; cases this
    | cons w ws =>
     obtain ⟨v',r',e',q3,q4⟩:=h2.bI
     cases e'
     unfold fT at e
     split at e
     ·rename_i a c z1 z2
      injection e with e
      rw [← e,uD I sr n u w v a q1 q3 z1,ih ws r c q2 q4 z2]; rfl
     ·cases e
  unfold gu at e
  cases u <;> cases w <;> dsimp only [vw] at e <;> try (cases e; done)
  all_goals first
   | (have z1:=Rl.bA r1; subst z1; have z2:=Rl.bA r2; cases z2; injection e with e; rw [← e]; exact beq_self_eq_true _)
   | (have z1:=Rl.m_ r1; subst z1; have z2:=Rl.m_ r2; cases z2; injection e with e; rw [← e]; exact beq_self_eq_true _)
   | (have z1:=Rl.gQ r1; subst z1; have z2:=Rl.gQ r2; cases z2; injection e with e; rw [← e]; exact beq_self_eq_true _)
   | (have z1:=Rl.gp r1; subst z1; injection e with e; exact e.symm)
   | skip
  case tup.tup us ws =>
   obtain ⟨a,vs,rfl,ha,ra⟩:=r1.d9
   obtain ⟨a',Aw,ea,hb,rb⟩:=r2.d9
   cases ea
   have:=I.jE ha hb
   subst this
   exact lst us ws vs b ra rb e
  case loc.loc i j =>
   obtain ⟨a,rfl,ha⟩:=r1.cN
   obtain ⟨a',ea,hb⟩:=r2.cN
   cases ea
   cases z:aj st i with
   | none => rw [z] at e; cases e
   | some us =>
    cases z2:aj st j with
    | none => rw [z,z2] at e; cases e
    | some ws =>
     rw [z,z2] at e
     obtain ⟨vs,s1,rv⟩:=aO sr z ha
     obtain ⟨Aw,s2,OV⟩:=aO sr z2 hb
     have:=I.k6 s1 s2
     subst this
     exact lst us ws vs b rv OV e
  all_goals (exfalso; first
   | (have z1:=Rl.bA r1; subst z1; first | (have z2:=Rl.m_ r2; cases z2; done) | (have z2:=Rl.gQ r2; cases z2; done) | (have z2:=Rl.gp r2; cases z2; done) | (obtain ⟨_,_,z2,_⟩:=r2.d9; cases z2; done) | (obtain ⟨_,z2,_⟩:=r2.cN; cases z2; done))
   | (have z1:=Rl.m_ r1; subst z1; first | (have z2:=Rl.bA r2; cases z2; done) | (have z2:=Rl.gQ r2; cases z2; done) | (have z2:=Rl.gp r2; cases z2; done) | (obtain ⟨_,_,z2,_⟩:=r2.d9; cases z2; done) | (obtain ⟨_,z2,_⟩:=r2.cN; cases z2; done))
   | (have z1:=Rl.gQ r1; subst z1; first | (have z2:=Rl.bA r2; cases z2; done) | (have z2:=Rl.m_ r2; cases z2; done) | (have z2:=Rl.gp r2; cases z2; done) | (obtain ⟨_,_,z2,_⟩:=r2.d9; cases z2; done) | (obtain ⟨_,z2,_⟩:=r2.cN; cases z2; done))
   | (have z1:=Rl.gp r1; subst z1; first | (have z2:=Rl.bA r2; cases z2; done) | (have z2:=Rl.m_ r2; cases z2; done) | (have z2:=Rl.gQ r2; cases z2; done) | (obtain ⟨_,_,z2,_⟩:=r2.d9; cases z2; done) | (obtain ⟨_,z2,_⟩:=r2.cN; cases z2; done))
   | (obtain ⟨_,_,z1,_⟩:=r1.d9; subst z1; first | (have z2:=Rl.bA r2; cases z2; done) | (have z2:=Rl.m_ r2; cases z2; done) | (have z2:=Rl.gQ r2; cases z2; done) | (have z2:=Rl.gp r2; cases z2; done))
   | (obtain ⟨_,z1,_⟩:=r1.cN; subst z1; first | (have z2:=Rl.bA r2; cases z2; done) | (have z2:=Rl.m_ r2; cases z2; done) | (have z2:=Rl.gQ r2; cases z2; done) | (have z2:=Rl.gp r2; cases z2; done))
   | skip)
  case tup.loc us j =>
   obtain ⟨a,vs,rfl,ha,ra⟩:=r1.d9
   obtain ⟨a',ea,hb⟩:=r2.cN
   cases ea
   cases z:aj st j with
   | none => rw [z] at e; cases e
   | some xo =>
    obtain ⟨ws,hw,_⟩:=aO sr z hb
    obtain ⟨_,_,p1,_⟩:=I.tuple ha
    obtain ⟨_,_,p2,_⟩:=I.list hw
    exact SeqAt.ne_of_list_tuple p2.isList p1 rfl
  case loc.tup i us =>
   obtain ⟨a,rfl,ha⟩:=r1.cN
   obtain ⟨a',vs,ea,hb,rb⟩:=r2.d9
   cases ea
   cases z:aj st i with
   | none => rw [z] at e; cases e
   | some xo =>
    obtain ⟨ws,hw,_⟩:=aO sr z ha
    obtain ⟨_,_,p1,_⟩:=I.tuple hb
    obtain ⟨_,_,p2,_⟩:=I.list hw
    exact SeqAt.ne_of_list_tuple p2.isList p1 rfl
  all_goals (cases z:aj st _ <;> rw [z] at e <;> cases e)
noncomputable def yD (X:Cx) (ρ:List Addr) (H:Hp) (s:Shared):Vw → ai → Value → Prop
 | .tup us,_,v => ∃ a aH vs,v = .ref a ∧ s.heap.IsTuple a (List.toArray aH) ∧ aR vs aH ∧ aP X.K ρ H us vs
 | .lst us,_,v => ∃ a aH vs,v = .ref a ∧ s.heap.IsList a (List.toArray aH) ∧ aR vs aH ∧ aP X.K ρ H us vs
 | .kq,u,v => (u = .bE ∧ v = .none) ∨ (∃ b,u = .bl b ∧ v = .bool b) ∨ (∃ i t,u = .int i ∧ v = .int i t) ∨ (∃ z t,u = .str z ∧ v = .str z t)
theorem seen (I:aG X af σ H s) (sr:SR X.K ρ st H) {u:ai} {x:V} {v:Value} {k:Vw} (r:Rl X.K ρ H u x) (q:bc x v) (h:vw st u = some k):yD X ρ H s k u v:=by
 cases u with
 | bE => cases h; have:=r.gp; subst this; exact .inl ⟨rfl,q⟩
 | bl b => cases h; have:=r.m_; subst this; exact .inr (.inl ⟨b,rfl,q⟩)
 | int i => cases h; have:=r.bA; subst this; obtain ⟨t,q⟩:=q; exact .inr (.inr (.inl ⟨i,t,rfl,q⟩))
 | str z => cases h; have:=r.gQ; subst this; obtain ⟨t,q⟩:=q; exact .inr (.inr (.inr ⟨z,t,rfl,q⟩))
 | tup us =>
  cases h
  obtain ⟨a,vs,rfl,ha,ra⟩:=r.d9
  obtain ⟨aH,r1,p1,_⟩:=I.tuple ha
  exact ⟨a,aH,vs,q,p1,r1,ra⟩
 | loc n =>
  obtain ⟨a,rfl,ha⟩:=r.cN
  cases z:aj st n with
  | none => simp only [vw,z] at h; cases h
  | some us =>
   simp only [vw,z] at h
   cases h
   obtain ⟨vs,hs,rv⟩:=aO sr z ha
   obtain ⟨aH,r1,p1,_⟩:=I.list hs
   exact ⟨a,aH,vs,q,p1.isList,r1,rv⟩
 | exc c => cases h
 | fn k c => cases h
 | mt us => cases h
theorem yE {A:Around} {f:ai → ai → Option Bool} {us ws:List ai} {xs ys:List V} {aH cK:List Value} {b:Bool} (e:fT f us ws = some b) (ra:aP X.K ρ H us xs) (rb:aP X.K ρ H ws ys) (va:aR xs aH) (vb:aR ys cK)
  (ih:∀ u w x y vu vw c,Rl X.K ρ H u x → bc x vu → Rl X.K ρ H w y → bc y vw → f u w = some c → SeqAt.EqAt A s vu vw c) :
  ∀ j (h1:j < aH.toArray.size) (h2:j < cK.toArray.size),SeqAt.EqAt A s aH.toArray[j] cK.toArray[j] (Kb f us ws j):=by
 intro j h1 h2
 have l1:=va.length
 have l2:=vb.length
 have l3:=ra.length
 have l4:=rb.length
 simp only [List.size_toArray] at h1 h2
 have e1:us[j]? = some us[j]:=List.getElem?_eq_getElem (by lia)
 have e2:ws[j]? = some ws[j]:=List.getElem?_eq_getElem (by lia)
 obtain ⟨x,hx,rx⟩:=ra.get e1
 obtain ⟨y,hy,ry⟩:=rb.get e2
 obtain ⟨u,hu,ru⟩:=va.get hx
 obtain ⟨v,hv,rv⟩:=vb.get hy
 have q1:aH.toArray[j] = u:=by
  obtain ⟨_,e⟩:=List.getElem?_eq_some_iff.mp hu
  simpa using e
 have q2:cK.toArray[j] = v:=by
  obtain ⟨_,e⟩:=List.getElem?_eq_some_iff.mp hv
  simpa using e
 obtain ⟨c,hc⟩:=uC e j _ _ e1 e2
 rw [q1,q2]
 unfold Kb
 rw [e1,e2]
 dsimp only
 rw [hc]
 exact ih _ _ _ _ _ _ c rx ru ry rv hc
theorem in1_units (A:Around):A.in1.units = A.units + 1:=by rfl
theorem FA {A:Around} (I:aG X af σ H s) (sr:SR X.K ρ st H) (n:Nat) (ih:∀ u w x y vu vw c,Rl X.K ρ H u x → bc x vu → Rl X.K ρ H w y → bc y vw → gu n st u w = some c → SeqAt.EqAt A.in1 s vu vw c) (hu:A.units < cLine)
  {u w:ai} {x y:V} {v1 v2:Value} {b:Bool} (r1:Rl X.K ρ H u x) (q1:bc x v1) (r2:Rl X.K ρ H w y) (q2:bc y v2) (e:gu (n + 1) st u w = some b):SeqAt.RcAt A s v1 v2 b ∧ SeqAt.RcNeAt A s v1 v2 (!b):=by
 unfold gu at e
 cases z1:vw st u with
 | none => rw [z1] at e; cases e
 | some k1 =>
  cases z2:vw st w with
  | none => rw [z1,z2] at e; cases k1 <;> cases e
  | some k2 =>
   rw [z1,z2] at e
   have s1:=seen I sr r1 q1 z1
   have s2:=seen I sr r2 q2 z2
   cases k1 with
   | tup us =>
    obtain ⟨a,aH,xs,rfl,p1,va,ra⟩:=s1
    cases k2 with
    | tup ws =>
     obtain ⟨a2,cK,ys,rfl,p2,vb,rb⟩:=s2
     have el:=yE e ra rb va vb ih
     have l1:=va.length
     have l2:=vb.length
     have l3:=ra.length
     have l4:=rb.length
     have hb:((List.range (min aH.toArray.size cK.toArray.size)).all (Kb (gu n st) us ws) && aH.toArray.size == cK.toArray.size) = b:=by
      by_cases hl:us.length = ws.length
      ·rw [show min aH.toArray.size cK.toArray.size = us.length by simp only [List.size_toArray]; lia,lH e hl,show (aH.toArray.size == cK.toArray.size) = true by simp only [List.size_toArray,beq_iff_eq]; lia,Bool.and_true]
      ·rw [show (aH.toArray.size == cK.toArray.size) = false by simp only [List.size_toArray,beq_eq_false_iff_ne]; lia,Bool.and_false]
       exact (lG e hl).symm
     have g1:=SeqAt.RcAt.tuples p1 p2 hu el
     have g2:=SeqAt.RcNeAt.tuples p1 p2 hu el
     rw [hb] at g1 g2
     exact ⟨g1,g2⟩
    | lst ws =>
     obtain ⟨a2,cK,ys,rfl,p2,vb,rb⟩:=s2
     cases e
     exact ⟨SeqAt.RcAt.tuple_list p1 p2 hu,SeqAt.RcNeAt.tuple_list p1 p2 hu⟩
    | kq =>
     cases e
     rcases s2 with ⟨_,rfl⟩ | ⟨k,_,rfl⟩ | ⟨k,t,_,rfl⟩ | ⟨k,t,_,rfl⟩
     ·exact ⟨SeqAt.RcAt.tuple_none p1 hu,SeqAt.RcNeAt.tuple_none p1 hu⟩
     ·exact ⟨SeqAt.RcAt.tuple_bool _ p1 hu,SeqAt.RcNeAt.tuple_bool _ p1 hu⟩
     ·exact ⟨SeqAt.RcAt.tuple_int _ _ p1 hu,SeqAt.RcNeAt.tuple_int _ _ p1 hu⟩
     ·exact ⟨SeqAt.RcAt.tuple_str _ _ p1 hu,SeqAt.RcNeAt.tuple_str _ _ p1 hu⟩
   | lst us =>
    obtain ⟨a,aH,xs,rfl,p1,va,ra⟩:=s1
    cases k2 with
    | tup ws =>
     obtain ⟨a2,cK,ys,rfl,p2,vb,rb⟩:=s2
     cases e
     exact ⟨SeqAt.RcAt.list_tuple p1 p2 hu,SeqAt.RcNeAt.list_tuple p1 p2 hu⟩
    | lst ws =>
     obtain ⟨a2,cK,ys,rfl,p2,vb,rb⟩:=s2
     have l1:=va.length
     have l2:=vb.length
     have l3:=ra.length
     have l4:=rb.length
     by_cases hl:us.length = ws.length
     ·have hs:aH.toArray.size = cK.toArray.size:=by simp only [List.size_toArray]; lia
      have el:=yE e ra rb va vb ih
      have g1:=SeqAt.RcAt.lists p1 p2 hs hu el
      have g2:=SeqAt.RcNeAt.lists p1 p2 hs hu el
      rw [show aH.toArray.size = us.length by simp only [List.size_toArray]; lia,lH e hl] at g1 g2
      exact ⟨g1,g2⟩
     ·have hs:(aH.toArray.size != cK.toArray.size) = true:=by simp only [List.size_toArray,bne_iff_ne]; lia
      rw [lG e hl]
      exact ⟨SeqAt.RcAt.lists_lengths p1 p2 hs hu,SeqAt.RcNeAt.lists_lengths p1 p2 hs hu⟩
    | kq =>
     cases e
     rcases s2 with ⟨_,rfl⟩ | ⟨k,_,rfl⟩ | ⟨k,t,_,rfl⟩ | ⟨k,t,_,rfl⟩
     ·exact ⟨SeqAt.RcAt.list_none p1 hu,SeqAt.RcNeAt.list_none p1 hu⟩
     ·exact ⟨SeqAt.RcAt.list_bool _ p1 hu,SeqAt.RcNeAt.list_bool _ p1 hu⟩
     ·exact ⟨SeqAt.RcAt.list_int _ _ p1 hu,SeqAt.RcNeAt.list_int _ _ p1 hu⟩
     ·exact ⟨SeqAt.RcAt.list_str _ _ p1 hu,SeqAt.RcNeAt.list_str _ _ p1 hu⟩
   | kq =>
    cases k2 with
    | tup ws =>
     obtain ⟨a2,cK,ys,rfl,p2,vb,rb⟩:=s2
     cases e
     rcases s1 with ⟨_,rfl⟩ | ⟨k,_,rfl⟩ | ⟨k,t,_,rfl⟩ | ⟨k,t,_,rfl⟩
     ·exact ⟨SeqAt.RcAt.none_tuple p2 hu,SeqAt.RcNeAt.none_tuple p2 hu⟩
     ·exact ⟨SeqAt.RcAt.bool_tuple _ p2 hu,SeqAt.RcNeAt.bool_tuple _ p2 hu⟩
     ·exact ⟨SeqAt.RcAt.int_tuple _ _ p2 hu,SeqAt.RcNeAt.int_tuple _ _ p2 hu⟩
     ·exact ⟨SeqAt.RcAt.str_tuple _ _ p2 hu,SeqAt.RcNeAt.str_tuple _ _ p2 hu⟩
    | lst ws =>
     obtain ⟨a2,cK,ys,rfl,p2,vb,rb⟩:=s2
     cases e
     rcases s1 with ⟨_,rfl⟩ | ⟨k,_,rfl⟩ | ⟨k,t,_,rfl⟩ | ⟨k,t,_,rfl⟩
     ·exact ⟨SeqAt.RcAt.none_list p2 hu,SeqAt.RcNeAt.none_list p2 hu⟩
     ·exact ⟨SeqAt.RcAt.bool_list _ p2 hu,SeqAt.RcNeAt.bool_list _ p2 hu⟩
     ·exact ⟨SeqAt.RcAt.int_list _ _ p2 hu,SeqAt.RcNeAt.int_list _ _ p2 hu⟩
     ·exact ⟨SeqAt.RcAt.str_list _ _ p2 hu,SeqAt.RcNeAt.str_list _ _ p2 hu⟩
    | kq =>
     injection e with e
     subst e
     rcases s1 with ⟨rfl,rfl⟩ | ⟨i,rfl,rfl⟩ | ⟨i,t,rfl,rfl⟩ | ⟨i,t,rfl,rfl⟩ <;> rcases s2 with ⟨rfl,rfl⟩ | ⟨j,rfl,rfl⟩ | ⟨j,t',rfl,rfl⟩ | ⟨j,t',rfl,rfl⟩
     ·exact ⟨SeqAt.RcAt.none_none,SeqAt.RcNeAt.none_none⟩
     ·exact ⟨SeqAt.RcAt.none_bool _,SeqAt.RcNeAt.none_bool _⟩
     ·exact ⟨SeqAt.RcAt.none_int _ _,SeqAt.RcNeAt.none_int _ _⟩
     ·exact ⟨SeqAt.RcAt.none_str _ _,SeqAt.RcNeAt.none_str _ _⟩
     ·exact ⟨SeqAt.RcAt.bool_none _,SeqAt.RcNeAt.bool_none _⟩
     ·exact ⟨SeqAt.RcAt.bool_bool _ _,SeqAt.RcNeAt.bool_bool _ _⟩
     ·exact ⟨SeqAt.RcAt.bool_int _ _ _,SeqAt.RcNeAt.bool_int _ _ _⟩
     ·exact ⟨SeqAt.RcAt.bool_str _ _ _,SeqAt.RcNeAt.bool_str _ _ _⟩
     ·exact ⟨SeqAt.RcAt.int_none _ _,SeqAt.RcNeAt.int_none _ _⟩
     ·exact ⟨SeqAt.RcAt.int_bool _ _ _,SeqAt.RcNeAt.int_bool _ _ _⟩
     ·exact ⟨SeqAt.RcAt.int_int _ _ _ _,SeqAt.RcNeAt.int_int _ _ _ _⟩
     ·exact ⟨SeqAt.RcAt.int_str _ _ _ _,SeqAt.RcNeAt.int_str _ _ _ _⟩
     ·exact ⟨SeqAt.RcAt.str_none _ _,SeqAt.RcNeAt.str_none _ _⟩
     ·exact ⟨SeqAt.RcAt.str_bool _ _ _,SeqAt.RcNeAt.str_bool _ _ _⟩
     ·exact ⟨SeqAt.RcAt.str_int _ _ _ _,SeqAt.RcNeAt.str_int _ _ _ _⟩
     ·exact ⟨SeqAt.RcAt.str_str _ _ _ _,SeqAt.RcNeAt.str_str _ _ _ _⟩
theorem BH {A:Around} {u w:ai} {v1 v2:Value} (s1:yD X ρ H s .kq u v1) (s2:yD X ρ H s .kq w v2):SeqAt.EqAt A s v1 v2 (Fy u w):=by
 rcases s1 with ⟨rfl,rfl⟩ | ⟨i,rfl,rfl⟩ | ⟨i,t,rfl,rfl⟩ | ⟨i,t,rfl,rfl⟩ <;> rcases s2 with ⟨rfl,rfl⟩ | ⟨j,rfl,rfl⟩ | ⟨j,t',rfl,rfl⟩ | ⟨j,t',rfl,rfl⟩
 ·exact SeqAt.EqAt.same _
 ·exact SeqAt.EqAt.none_bool _
 ·exact SeqAt.EqAt.none_int _ _
 ·exact SeqAt.EqAt.none_str _ _
 ·exact SeqAt.EqAt.bool_none _
 ·exact SeqAt.EqAt.bool_bool _ _
 ·exact SeqAt.EqAt.bool_int _ _ _
 ·exact SeqAt.EqAt.bool_str _ _ _
 ·exact SeqAt.EqAt.int_none _ _
 ·exact SeqAt.EqAt.int_bool _ _ _
 ·exact SeqAt.EqAt.int_int _ _ _ _
 ·exact SeqAt.EqAt.int_str _ _ _ _
 ·exact SeqAt.EqAt.str_none _ _
 ·exact SeqAt.EqAt.str_bool _ _ _
 ·exact SeqAt.EqAt.str_int _ _ _ _
 ·exact SeqAt.EqAt.str_str _ _ _ _
theorem sH (I:aG X af σ H s) (sr:SR X.K ρ st H):∀ (n:Nat) (A:Around),A.units + n < cLine → ∀ (u w:ai) (x y:V) (v1 v2:Value) (b:Bool),Rl X.K ρ H u x → bc x v1 → Rl X.K ρ H w y → bc y v2 → gu n st u w = some b → SeqAt.EqAt A s v1 v2 b
 | 0,_,_,_,_,_,_,_,_,_,_,_,_,_,e => by cases e
 | n + 1,A,hu,u,w,x,y,v1,v2,b,r1,q1,r2,q2,e => by
  have rc:=(FA I sr n (fun u w x y vu vw c a1 a2 a3 a4 a5 => sH I sr n A.in1 (by rw [in1_units]; lia) u w x y vu vw c a1 a2 a3 a4 a5) (by lia) r1 q1 r2 q2 e).1
  have refs:∀ a a2,v1 = .ref a → v2 = .ref a2 → SeqAt.EqAt A s v1 v2 b:=by
   intro a a2 e1 e2
   subst e1 e2
   by_cases hn:a = a2
   ·subst hn
    have hx:x = y:=q1.inj q2
    subst hx
    rw [uD I sr (n + 1) u w x b r1 r2 e]
    exact SeqAt.EqAt.same _
   ·exact SeqAt.EqAt.of_refs hn rc
  cases z1:vw st u with
  | none => unfold gu at e; rw [z1] at e; cases e
  | some k1 =>
   cases z2:vw st w with
   | none => unfold gu at e; rw [z1,z2] at e; cases k1 <;> cases e
   | some k2 =>
    have s1:=seen I sr r1 q1 z1
    have s2:=seen I sr r2 q2 z2
    unfold gu at e
    rw [z1,z2] at e
    cases k1 with
    | tup us =>
     obtain ⟨a,aH,xs,rfl,p1,va,ra⟩:=s1
     cases k2 with
     | tup ws => obtain ⟨a2,cK,ys,rfl,p2,vb,rb⟩:=s2; exact refs a a2 rfl rfl
     | lst ws => obtain ⟨a2,cK,ys,rfl,p2,vb,rb⟩:=s2; exact refs a a2 rfl rfl
     | kq =>
      cases e
      rcases s2 with ⟨_,rfl⟩ | ⟨k,_,rfl⟩ | ⟨k,t,_,rfl⟩ | ⟨k,t,_,rfl⟩
      ·exact SeqAt.EqAt.tuple_none p1 (by lia)
      ·exact SeqAt.EqAt.tuple_bool _ p1 (by lia)
      ·exact SeqAt.EqAt.tuple_int _ _ p1 (by lia)
      ·exact SeqAt.EqAt.tuple_str _ _ p1 (by lia)
    | lst us =>
     obtain ⟨a,aH,xs,rfl,p1,va,ra⟩:=s1
     cases k2 with
     | tup ws => obtain ⟨a2,cK,ys,rfl,p2,vb,rb⟩:=s2; exact refs a a2 rfl rfl
     | lst ws => obtain ⟨a2,cK,ys,rfl,p2,vb,rb⟩:=s2; exact refs a a2 rfl rfl
     | kq =>
      cases e
      rcases s2 with ⟨_,rfl⟩ | ⟨k,_,rfl⟩ | ⟨k,t,_,rfl⟩ | ⟨k,t,_,rfl⟩
      ·exact SeqAt.EqAt.list_none p1 (by lia)
      ·exact SeqAt.EqAt.list_bool _ p1 (by lia)
      ·exact SeqAt.EqAt.list_int _ _ p1 (by lia)
      ·exact SeqAt.EqAt.list_str _ _ p1 (by lia)
    | kq =>
     cases k2 with
     | tup ws =>
      obtain ⟨a2,cK,ys,rfl,p2,vb,rb⟩:=s2
      cases e
      rcases s1 with ⟨_,rfl⟩ | ⟨k,_,rfl⟩ | ⟨k,t,_,rfl⟩ | ⟨k,t,_,rfl⟩
      ·exact SeqAt.EqAt.none_tuple p2 (by lia)
      ·exact SeqAt.EqAt.bool_tuple _ p2 (by lia)
      ·exact SeqAt.EqAt.int_tuple _ _ p2 (by lia)
      ·exact SeqAt.EqAt.str_tuple _ _ p2 (by lia)
     | lst ws =>
      obtain ⟨a2,cK,ys,rfl,p2,vb,rb⟩:=s2
      cases e
      rcases s1 with ⟨_,rfl⟩ | ⟨k,_,rfl⟩ | ⟨k,t,_,rfl⟩ | ⟨k,t,_,rfl⟩
      ·exact SeqAt.EqAt.none_list p2 (by lia)
      ·exact SeqAt.EqAt.bool_list _ p2 (by lia)
      ·exact SeqAt.EqAt.int_list _ _ p2 (by lia)
      ·exact SeqAt.EqAt.str_list _ _ p2 (by lia)
     | kq =>
      injection e with e
      subst e
      exact BH s1 s2
noncomputable def gR:F2:=fun u w st => match gu 16 st u w with
 | some b => .ok (.bl b) st
 | none => .bad
noncomputable def ij:F2:=fun u w st => match gu 16 st u w with
 | some b => .ok (.bl (!b)) st
 | none => .bad
theorem yF {E:XK} (hu:X.A.units + 64 < cLine):cV X (compareOp .Eq) (rM (wo X) E gR):=by
 intro af s σ H x y v u Q I rx ry h
 obtain ⟨ρ,st,u1,w1,sr,r1,r2,h⟩:=h
 unfold gR at h
 split at h
 ·rename_i b e
  exact (FA I sr 15 (sH I sr 15 X.A.in1 (by rw [in1_units]; lia)) (by lia) r1 rx r2 ry e).1 X.prog X.w X.xe (EP X af σ Q) ⟨.bl b,H,I,rfl,dF sr h⟩
 ·exact h.elim
theorem yG {E:XK} (hu:X.A.units + 64 < cLine):cV X (compareOp .NotEq) (rM (wo X) E ij):=by
 intro af s σ H x y v u Q I rx ry h
 obtain ⟨ρ,st,u1,w1,sr,r1,r2,h⟩:=h
 unfold ij at h
 split at h
 ·rename_i b e
  exact (FA I sr 15 (sH I sr 15 X.A.in1 (by rw [in1_units]; lia)) (by lia) r1 rx r2 ry e).2 X.prog X.w X.xe (EP X af σ Q) ⟨.bl (!b),H,I,rfl,dF sr h⟩
 ·exact h.elim
noncomputable def Dw (st:ag):ai → Option (List ai)
 | .tup us => some us
 | .mt us => some us
 | .loc n => aj st n
 | _ => none
noncomputable def Dx (neg:Bool):F2:=fun u w st => match Dw st w with
 | some us => if flat u = true ∧ us.all flat = true then .ok (.bl (if neg then !us.any (fun y => Fy y u) else us.any (fun y => Fy y u))) st else .bad
 | none => .bad
theorem jc {K:PySem.W.Frag} {u w:ai} {x y:V} (f1:flat u = true) (f2:flat w = true) (r1:Rl K ρ H u x) (r2:Rl K ρ H w y):gU x = true ∧ gU y = true ∧ As x y = Fy u w:=by
 cases u <;> (try cases f1) <;> cases w <;> (try cases f2) <;>
  (first | (have z1:=Rl.bA r1; subst z1) | (have z1:=Rl.m_ r1; subst z1) | (have z1:=Rl.gQ r1; subst z1) | (have z1:=Rl.gp r1; subst z1)) <;>
  (first | (have z2:=Rl.bA r2; subst z2) | (have z2:=Rl.m_ r2; subst z2) | (have z2:=Rl.gQ r2; subst z2) | (have z2:=Rl.gp r2; subst z2)) <;> exact ⟨rfl,rfl,rfl⟩
theorem jd {K:PySem.W.Frag} {u:ai} {x:V} (f:flat u = true) (r:Rl K ρ H u x):∀ {us:List ai} {vs:List V},us.all flat = true → aP K ρ H us vs → vs.all gU = true ∧ JX x vs = us.any fun y => Fy y u
 | [],vs,_,h => by rw [h.de]; exact ⟨rfl,rfl⟩
 | w :: us,vs,hf,h => by
  obtain ⟨v,r',rfl,h2,h3⟩:=h.bI
  rw [List.all_cons,Bool.and_eq_true] at hf
  obtain ⟨a,b,c⟩:=jc hf.1 f h2 r
  obtain ⟨d,e⟩:=jd f r hf.2 h3
  refine ⟨by rw [List.all_cons,a,d]; rfl,?_⟩
  show (As v x || JX x r') = _
  rw [c,e]; rfl
theorem BI {E:XK} {neg:Bool} {x y:V} {H:Hp} {Q:VK} (h:rM (wo X) E (Dx neg) x y H Q):Nu X.K neg x y H Q:=by
 obtain ⟨ρ,st,u,w,sr,r1,r2,h⟩:=h
 unfold Dx at h
 split at h
 ·rename_i us e
  split at h
  ·rename_i hz
   cases w with
   | tup ws =>
    cases e
    obtain ⟨a,vs,rfl,ha,ra⟩:=r2.d9
    obtain ⟨q1,q2⟩:=jd hz.1 r1 hz.2 ra
    refine ⟨a,vs,rfl,.inr ha,(jc hz.1 hz.1 r1 r1).1,q1,?_⟩
    rw [q2]
    exact dF sr h
   | mt ws =>
    cases e
    obtain ⟨a,vs,rfl,ha,ra⟩:=r2.NK
    obtain ⟨q1,q2⟩:=jd hz.1 r1 hz.2 ra
    refine ⟨a,vs,rfl,.inr ha,(jc hz.1 hz.1 r1 r1).1,q1,?_⟩
    rw [q2]
    exact dF sr h
   | loc n =>
    obtain ⟨a,rfl,ha⟩:=r2.cN
    obtain ⟨vs,hs,ra⟩:=aO sr e ha
    obtain ⟨q1,q2⟩:=jd hz.1 r1 hz.2 ra
    refine ⟨a,vs,rfl,.inl hs,(jc hz.1 hz.1 r1 r1).1,q1,?_⟩
    rw [q2]
    exact dF sr h
   | _ => cases e
  ·exact h.elim
 ·exact h.elim
theorem yH {E:XK}:cV X (compareOp .In) (rM (wo X) E (Dx false)):=cV.imp vI fun _ _ _ _ h => BI h
noncomputable def Kc (neg:Bool):F2
 | .bE,.bE,st => .ok (.bl (!neg)) st
 | .bl a,.bl b,st => .ok (.bl (if neg then a != b else a == b)) st
 | .int _,.bE,st => .ok (.bl neg) st
 | .bl _,.bE,st => .ok (.bl neg) st
 | .str _,.bE,st => .ok (.bl neg) st
 | .tup _,.bE,st => .ok (.bl neg) st
 | .loc _,.bE,st => .ok (.bl neg) st
 | _,_,_ => .bad
theorem yI:cV X (compareOp .Is) (fun x y H Q => ∃ a b,x = .bl a ∧ y = .bl b ∧ Q (.bl (a == b)) H):=by
 rintro af s σ H x y v u Q I rx ry ⟨a,b,rfl,rfl,q⟩
 cases rx; cases ry
 exact is_bool ⟨.bl _,H,I,rfl,q⟩
theorem yJ {E:XK}:cV X (compareOp .Is) (rM (wo X) E (Kc false)):=by
 refine cV.imp (cV.or Et yI) ?_
 rintro x y H Q ⟨ρ,st,u,w,sr,r1,r2,h⟩
 cases u <;> cases w <;> try exact h.elim
 case bl.bl a b => exact .inr ⟨a,b,r1.m_,r2.m_,dF sr h⟩
 case bE.bE => exact .inl ⟨r2.gp,by rw [r1.gp]; exact dF sr h⟩
 case int.bE i => exact .inl ⟨r2.gp,by rw [r1.bA]; exact dF sr h⟩
 case bl.bE i => exact .inl ⟨r2.gp,by rw [r1.m_]; exact dF sr h⟩
 case str.bE i => exact .inl ⟨r2.gp,by rw [r1.gQ]; exact dF sr h⟩
 case tup.bE i => obtain ⟨a,vs,rfl,_⟩:=r1.d9; exact .inl ⟨r2.gp,dF sr h⟩
 case loc.bE i => obtain ⟨a,rfl,_⟩:=r1.cN; exact .inl ⟨r2.gp,dF sr h⟩
end
end MN
namespace MN
open PySem PySem.Spec L2
open PyProof.Rows hiding St
section
variable {X:Cx} {E:XK} {pos:Pos}
noncomputable def bR:F2
 | .tup us,.int i,st => match mS us i with
  | some v => .ok v st
  | none => .bad
 | .loc n,.int i,st => match aj st n with
  | some us => match mS us i with
   | some v => .ok v st
   | none => .bad
  | none => .bad
 | .str z,.int i,st => if z.length ≤ sizeLine then (match mS z.cps.toList i with
   | some c => .ok (.str ⟨#[c]⟩) st
   | none => .bad) else .bad
 | _,_,_ => .bad
theorem aP.mS {K:PySem.W.Frag} {ρ:List Addr} {H:Hp} {us:List ai} {vs:List V} {i:Int} {u:ai} (r:aP K ρ H us vs) (h:mS us i = some u):∃ v,L2.mS vs i = some v ∧ Rl K ρ H u v:=by
 unfold L2.mS at h ⊢
 rw [← r.length]
 cases z:Dj us.length i with
 | none => rw [z] at h; cases h
 | some j =>
  rw [z] at h
  obtain ⟨v,h1,h2⟩:=r.get (show us[j]? = some u from h)
  exact ⟨v,h1,h2⟩
theorem LL:rR X (rM (wo X) E bR):=by
 refine rR.imp (rR.or A4 (rR.or jI EI)) ?_
 rintro x y H Q ⟨ρ,st,u,w,sr,r1,r2,h⟩
 cases u <;> cases w <;> try exact h.elim
 case tup.int us i =>
  unfold bR at h
  dsimp only at h
  split at h
  ·rename_i v e
   obtain ⟨a,vs,rfl,ha,ra⟩:=r1.d9
   obtain ⟨z,h1,h2⟩:=ra.mS e
   exact .inr (.inl ⟨a,vs,i,z,rfl,r2.bA,ha,h1,h ρ H z (aC.refl _ _) sr h2⟩)
  ·exact h.elim
 case loc.int n i =>
  unfold bR at h
  dsimp only at h
  split at h
  ·rename_i us e
   split at h
   ·rename_i v e'
    obtain ⟨a,rfl,ha⟩:=r1.cN
    obtain ⟨vs,hs,rv⟩:=aO sr e ha
    obtain ⟨z,h1,h2⟩:=rv.mS e'
    exact .inl ⟨a,vs,i,z,rfl,r2.bA,hs,h1,h ρ H z (aC.refl _ _) sr h2⟩
   ·exact h.elim
  ·exact h.elim
 case str.int z i =>
  unfold bR at h
  dsimp only at h
  split at h
  ·rename_i hz
   split at h
   ·rename_i c e
    exact .inr (.inr ⟨z,i,c,r1.gQ,r2.bA,hz,e,h ρ H _ (aC.refl _ _) sr (Rl.mkStr _)⟩)
   ·exact h.elim
  ·exact h.elim
noncomputable def cT:FN
 | [.tup us],st => .ok (.int us.length) st
 | [.loc n],st => match aj st n with
  | some us => .ok (.int us.length) st
  | none => .bad
 | [.str z],st => if z.length ≤ sizeLine then .ok (.int z.length) st else .bad
 | _,_ => .bad
theorem vY:aU X (.builtin "len") (cM (wo X) E cT):=by
 refine aU.imp (aU.or oT oU) ?_
 rintro xs H Q ⟨ρ,st,us,sr,r,h⟩
 match us,r,h with
 | [],_,h => exact h.elim
 | [.tup ws],r,h =>
  obtain ⟨v,rfl,r1⟩:=r.oZ
  obtain ⟨a,vs,rfl,ha,ra⟩:=r1.d9
  refine .inl ⟨a,vs,rfl,.inr ha,?_⟩
  rw [← ra.length]; exact bu sr h
 | [.loc n],r,h =>
  obtain ⟨v,rfl,r1⟩:=r.oZ
  obtain ⟨a,rfl,ha⟩:=r1.cN
  unfold cT at h
  dsimp only at h
  split at h
  ·rename_i ws e
   obtain ⟨vs,hs,rv⟩:=aO sr e ha
   refine .inl ⟨a,vs,rfl,.inl hs,?_⟩
   rw [← rv.length]; exact bu sr h
  ·exact h.elim
 | [.str z],r,h =>
  obtain ⟨v,rfl,r1⟩:=r.oZ
  unfold cT at h
  dsimp only at h
  split at h
  ·rename_i hz
   exact .inr ⟨z,by rw [r1.gQ],hz,bu sr h⟩
  ·exact h.elim
 | [.bE],_,h => exact h.elim
 | [.bl _],_,h => exact h.elim
 | [.int _],_,h => exact h.elim
 | [.exc _],_,h => exact h.elim
 | [.fn _ _],_,h => exact h.elim
 | [.mt _],_,h => exact h.elim
 | x :: y :: r,_,h => cases x <;> exact h.elim
noncomputable def sI:FN
 | [.int i],st => .ok (.int (if i < 0 then -i else i)) st
 | _,_ => .bad
theorem vZ:aU X (.builtin "abs") (cM (wo X) E sI):=by
 refine aU.imp xM ?_
 rintro xs H Q ⟨ρ,st,us,sr,r,h⟩
 unfold sI at h
 split at h
 ·rename_i i
  obtain ⟨v,rfl,r1⟩:=r.oZ
  exact ⟨i,by rw [r1.bA],bu sr h⟩
 ·exact h.elim
noncomputable def nc:FN
 | [.tup us],st => .ok (.tup us) st
 | [.loc n],st => match aj st n with
  | some us => .ok (.tup us) st
  | none => .bad
 | _,_ => .bad
theorem v8:aU X (.type "tuple") (cM (wo X) E nc):=by
 refine aU.imp mX ?_
 rintro xs H Q ⟨ρ,st,us,sr,r,h⟩
 unfold nc at h
 split at h
 ·rename_i ws
  obtain ⟨v,rfl,r1⟩:=r.oZ
  obtain ⟨a,vs,rfl,ha,ra⟩:=r1.d9
  exact ⟨a,vs,rfl,.inr ⟨ha,h ρ H _ (aC.refl _ _) sr r1⟩⟩
 ·rename_i n
  obtain ⟨v,rfl,r1⟩:=r.oZ
  obtain ⟨a,rfl,ha⟩:=r1.cN
  split at h
  ·rename_i ws e
   obtain ⟨vs,hs,rv⟩:=aO sr e ha
   refine ⟨a,vs,rfl,.inl ⟨hs,fun l hl => ?_⟩⟩
   have s:=bN (o:=.tup vs) hl
   exact h ρ _ _ (aC.same s) (sr.grow s) (Rl.lD a8 (aP.mono (aC.same s) _ _ rv))
  ·exact h.elim
 ·exact h.elim
noncomputable def sJ:FN
 | [.tup us],st => .ok (.loc st.length) (st ++ [.lst us])
 | [.loc n],st => match aj st n with
  | some us => .ok (.loc st.length) (st ++ [.lst us])
  | none => .bad
 | _,_ => .bad
theorem v9:aU X (.type "list") (cM (wo X) E sJ):=by
 refine aU.imp oV ?_
 rintro xs H Q ⟨ρ,st,us,sr,r,h⟩
 unfold sJ at h
 split at h
 ·rename_i ws
  obtain ⟨v,rfl,r1⟩:=r.oZ
  obtain ⟨a,vs,rfl,ha,ra⟩:=r1.d9
  refine ⟨a,vs,rfl,.inr ha,fun l hl => ?_⟩
  obtain ⟨k1,k2,k3⟩:=fu sr ra hl
  exact h _ _ _ k1 k2 k3
 ·rename_i n
  obtain ⟨v,rfl,r1⟩:=r.oZ
  obtain ⟨a,rfl,ha⟩:=r1.cN
  split at h
  ·rename_i ws e
   obtain ⟨vs,hs,rv⟩:=aO sr e ha
   refine ⟨a,vs,rfl,.inl hs,fun l hl => ?_⟩
   obtain ⟨k1,k2,k3⟩:=fu sr rv hl
   exact h _ _ _ k1 k2 k3
  ·exact h.elim
 ·exact h.elim
noncomputable def je:List ai → Option (List Bool)
 | [] => some []
 | .bl b :: r => (je r).map (b :: ·)
 | _ => none
theorem n! {K:PySem.W.Frag} {ρ:List Addr} {H:Hp}:∀ {us:List ai} {bs:List Bool} {vs:List V} {aH:List Value},je us = some bs → aP K ρ H us vs → aR vs aH → LSm.BoolsAre aH bs
 | [],bs,vs,aH,h,r,v => by
  cases h
  have:=r.de
  subst this
  cases v
  exact .nil
 | u :: us,bs,vs,aH,h,r,v => by
  cases u with
  | bl b =>
   simp only [je] at h
   cases z:je us with
   | none => rw [z] at h; cases h
   | some G4 =>
    rw [z] at h
    cases h
    obtain ⟨x,r',rfl,h2,h3⟩:=r.bI
    have:=h2.m_
    subst this
    cases v with
    | cons q1 q2 =>
     cases q1
     exact .cons b (n! z h3 q2)
  | _ => cases h
theorem lI (hh:X.A.handled = none):aU X (.builtin "all") (fun xs H Q => ∃ a ρ us vs bs,xs = [.ref a] ∧ iC X.K H a vs ∧ aP X.K ρ H us vs ∧ je us = some bs ∧ Q (.bl (bs.all id)) H):=by
 rintro af s σ H xs ws Q I r ⟨a,ρ,us,vs,bs,rfl,hs,rv,hb,q⟩
 obtain ⟨u,rfl,ru⟩:=vals1 r
 cases ru
 obtain ⟨aH,r1,p1,_⟩:=I.list hs
 have B:=n! hb rv r1
 have hl:=p1.isList
 have jC:a < s.heap.objs.size:=by obtain ⟨_,e,_⟩:=hl; exact Heap.lt_size e
 refine call_all_walk (wpAny_pyIter_list hl ?_)
 refine ⟨s.heap.objs.size,[s.heap.objs.size,a],[s.heap.objs.size],aH.toArray.size,_,_,fun i => (bs[i]?).getD true,rfl,Walks.list (A:=X.A.in1) hh _ a (Nat.ne_of_lt jC) aH.toArray,
  ⟨⟨_,Heap.get?_push_size _ rfl,rfl,rfl⟩,hl.push _⟩,fun i v s' Q' E' hP hQ => ?_,fun h' tk hk => ?_⟩
 ·obtain ⟨b,e,rfl⟩:=B.get i v (by simpa using hP)
  simp only [e,Option.getD_some] at hQ
  exact wpAny_truthy_bool hQ
 ·have e:((List.range aH.toArray.size).all fun i => (bs[i]?).getD true) = bs.all id:=by
   rw [List.size_toArray,B.length]; exact LSm.range_all bs
  rw [e]
  exact ⟨.bl _,H,I.kept (LSm.kept_iter hk),rfl,q⟩
noncomputable def v_:FN
 | [.loc n],st => match aj st n with
  | some us => match je us with
   | some bs => .ok (.bl (bs.all id)) st
   | none => .bad
  | none => .bad
 | _,_ => .bad
theorem v! (hh:X.A.handled = none):aU X (.builtin "all") (cM (wo X) E v_):=by
 refine aU.imp (lI hh) ?_
 rintro xs H Q ⟨ρ,st,us,sr,r,h⟩
 unfold v_ at h
 split at h
 ·rename_i n
  obtain ⟨v,rfl,r1⟩:=r.oZ
  obtain ⟨a,rfl,ha⟩:=r1.cN
  split at h
  ·rename_i ws e
   split at h
   ·rename_i bs hb
    obtain ⟨vs,hs,rv⟩:=aO sr e ha
    exact ⟨a,ρ,ws,vs,bs,rfl,hs,rv,hb,dF sr h⟩
   ·exact h.elim
  ·exact h.elim
 ·exact h.elim
noncomputable def kindOf (st:ag):ai → Option String
 | .bE => some "NoneType"
 | .bl _ => some "bool"
 | .int _ => some "int"
 | .str _ => some "str"
 | .tup _ => some "tuple"
 | .loc n => match st[n]? with
  | some (.lst _) => some "list"
  | some (.Fb _) => some "list"
  | some (.mod _) => none
  | some (.dK _) => some "dict"
  | some (.dT _) => some "dict"
  | _ => none
 | _ => none
noncomputable def FC (T:String) (st:ag) (v:ai):Option Bool:=(kindOf st v).map fun k => k == T || (k == "bool" && T == "int")
noncomputable def xq (T:String) (m:ME):ME:=fun μ st => (m μ st).bind fun v av => match FC T av v with
 | some b => .ok (.bl b) av
 | none => .bad
noncomputable def v? (K:PySem.W.Frag) (T:String):Prop:=∀ k ∈ ["NoneType","bool","int","str","tuple","list","dict"],PySem.W.kitOne K (.type k) (.type T) = some (k == T || (k == "bool" && T == "int"))
theorem sL {st:ag} {v:ai} {k:String} (h:kindOf st v = some k):k ∈ ["NoneType","bool","int","str","tuple","list","dict"]:=by
 unfold kindOf at h
 split at h
 all_goals first
  | (cases h; decide)
  | (split at h <;> first | (cases h; decide) | cases h)
  | cases h
theorem yK {af:List (Addr × Obj)} {σ:St} {H:Hp} {s:Shared} {A:Around} {E:Value → Shared → Prop} {Q:Value → Shared → Prop} {c:Value} {b:Bool} {ρ:List Addr} {st:ag} {u:ai} {x:V} {v:Value} {k:String}
  (I:aG X af σ H s) (sr:SR X.K ρ st H) (r:Rl X.K ρ H u x) (q:bc x v) (hk:kindOf st u = some k) (e:PySem.W.kitOne X.K (.type k) c = some b) (h:∀ tk,Q (.bool b) { s with toks:=tk }) :
  wpAny (model X.prog X.w) A (call (.builtin "isinstance") [v,c]) Q E s:=by
 cases u with
 | bE => cases hk; have:=r.gp; subst this; exact du I q .bE e h
 | bl y => cases hk; have:=r.m_; subst this; exact du I q (.bl y) e h
 | int i => cases hk; have:=r.bA; subst this; exact du I q (.int i) e h
 | str y => cases hk; have:=r.gQ; subst this; exact du I q (.str y) e h
 | tup us =>
  cases hk
  obtain ⟨a,vs,rfl,ha,ra⟩:=r.d9
  cases q
  obtain ⟨aH,r1,⟨o,h1,h2,_⟩,_⟩:=I.tuple ha
  exact PySem.W.kia_one PySem.W.kitx_tuple I.iJ ⟨o,h1,h2⟩ e (fun z => nomatch z) h
 | loc n =>
  obtain ⟨a,rfl,ha⟩:=r.cN
  obtain ⟨cl,hc,kc⟩:=sr.there ha
  simp only [kindOf,hc] at hk
  cases cl with
  | lst us => cases hk; obtain ⟨vs,h1,_⟩:=kc; exact du I q (.lst h1) e h
  | Fb us => cases hk; obtain ⟨o,vs,h1,_⟩:=kc; exact du I q (.fh h1) e h
  | mod us => cases hk
  | dK us => cases hk; obtain ⟨vs,h1,_⟩:=kc; exact du I q (.dK h1) e h
  | dT us => cases hk; obtain ⟨vs,h1,_⟩:=kc; exact du I q (.dT h1) e h
  | tab _ _ _ _ => cases hk
  | ins _ _ => cases hk
  | fd _ => cases hk
 | exc c => cases hk
 | fn k c => cases hk
 | mt us => cases hk
theorem lJ {T:String} {x:Str} {e:Expr} {m:ME} {p q:Pos} (hK:v? X.K T) (hg:Gl X "isinstance") (hm:X.mg "isinstance" = none) (OW:Gl X x) (OX:X.mg x = none) (OY:bootBuiltins x = some (.type T)) (he:PE X e (tE X E m))
  (hn:x ≠ "__name__":=by decide) (hd:(x == ("__debug__":Str)) = false:=by decide)
  (hs:starEach [e,.Name x q] X.env = (false,eval e X.env) :: starEach [.Name x q] X.env:=by rfl) (bT:starEach [.Name x q] X.env = (false,eval (.Name x q) X.env) :: starEach [] X.env:=by rfl)
  (eM:(backTo pos (starEach [.Name x q] X.env)).any (·.1) = false:=by rfl):PE X (.Call (.Name "isinstance" p) [e,.Name x q] [] pos) (tE X E (xq T m)):=by
 have hc:aU X (.builtin "isinstance") (fun xs H Q => ∃ y ρ st u k b,xs = [y,.ty T] ∧ SR X.K ρ st H ∧ Rl X.K ρ H u y ∧ kindOf st u = some k ∧ PySem.W.kitOne X.K (.type k) (.type T) = some b ∧ Q (.bl b) H):=by
  rintro af s σ H xs us Q I r ⟨y,ρ,st,u,k,b,rfl,sr,r1,h1,h2,h3⟩
  obtain ⟨v1,v2,rfl,q1,q2⟩:=vals2 r
  cases q2
  exact yK I sr r1 q1 h1 h2 fun tk => ⟨.bl b,H,I.tok tk,rfl,h3⟩
 refine PE.imp (i? hc hg hm PyProof.Rows.boot_isinstance (eB he (eB (ug (v:=.ty T) OW OX OY rfl hn hd) jG bT) hs) (by decide) (by decide) hs eM) ?_
 rintro σ H Q ⟨μ,ρ,st,rs,sr,h⟩
 refine go μ ρ st rs sr h fun u aN ρ1 H1 x e1 bo r1 h1 => ?_
 cases z:kindOf aN u with
 | none => simp only [FC,z] at h1; exact h1.elim
 | some k =>
  simp only [FC,z] at h1
  exact ⟨x,ρ1,aN,u,k,_,rfl,bo,r1,z,hK k (sL z),dF bo h1⟩
end
theorem yL {K:PySem.W.Frag}:v? K "int":=by
 intro k hk
 simp only [List.mem_cons,List.mem_nil_iff,or_false] at hk
 rcases hk with rfl | rfl | rfl | rfl | rfl | rfl | rfl <;> first | rfl | kernel_rfl
theorem wa {K:PySem.W.Frag}:v? K "bool":=by
 intro k hk
 simp only [List.mem_cons,List.mem_nil_iff,or_false] at hk
 rcases hk with rfl | rfl | rfl | rfl | rfl | rfl | rfl <;> first | rfl | kernel_rfl
theorem sM {K:PySem.W.Frag}:v? K "tuple":=by
 intro k hk
 simp only [List.mem_cons,List.mem_nil_iff,or_false] at hk
 rcases hk with rfl | rfl | rfl | rfl | rfl | rfl | rfl <;> first | rfl | kernel_rfl
theorem wc {K:PySem.W.Frag}:v? K "list":=by
 intro k hk
 simp only [List.mem_cons,List.mem_nil_iff,or_false] at hk
 rcases hk with rfl | rfl | rfl | rfl | rfl | rfl | rfl <;> first | rfl | kernel_rfl
theorem yM {K:PySem.W.Frag}:v? K "str":=by
 intro k hk
 simp only [List.mem_cons,List.mem_nil_iff,or_false] at hk
 rcases hk with rfl | rfl | rfl | rfl | rfl | rfl | rfl <;> first | rfl | kernel_rfl
end MN
namespace MN
open PySem PySem.Spec L2
open PyProof.Rows hiding St
noncomputable abbrev AS:=ai → Env → Option Env
noncomputable def aw (i:Nat):AS:=fun v μ => some (μ.set i (some v))
noncomputable def n?:List AS → List ai → Env → Option Env
 | [],[],μ => some μ
 | a :: as,v :: vs,μ => (a v μ).bind fun μ' => n? as vs μ'
 | _,_,_ => none
noncomputable def eY (l:List AS):AS:=fun v μ => match v with
 | .tup vs => n? l vs μ
 | _ => none
noncomputable def tA (W:Wo) (a:AS):TG:=fun v σ H Q => ∃ μ ρ u μ',RS W ρ H μ σ ∧ Rl W.K ρ H u v ∧ a u μ = some μ' ∧ ∀ σ',RS W ρ H μ' σ' → Q σ' H
noncomputable def Kd (W:Wo) (l:List AS):AH:=fun vs σ H Q => ∃ μ ρ us μ',RS W ρ H μ σ ∧ aP W.K ρ H us vs ∧ n? l us μ = some μ' ∧ ∀ σ',RS W ρ H μ' σ' → Q σ' H
section
variable {X:Cx} {pos:Pos}
theorem rY.imp {e:List Expr} {t t':AH} (h:rY X e t) (k:∀ v σ H Q,t' v σ H Q → t v σ H Q):rY X e t':=fun af s σ H v u Q I r q => h af s σ H v u Q I r (k v σ H Q q)
theorem BJ (i:Nat) {x:Str} (hN:X.N.Nodup) (hi:X.N[i]? = some x:=by rfl) (hx:Loc X.env.scope x:=by first | exact Or.inl rfl | exact Or.inr rfl) (hf:X.fn x = true ∨ X.env.scope.names.lookup x = some .local:=by first | exact .inl rfl | exact .inr rfl | assumption):PG X (.Name x pos) (tA (wo X) (aw i)):=by
 refine PG.imp (AI hN hi hx hf) ?_
 rintro v σ H Q ⟨μ,ρ,u,μ',rs,r,e,q⟩
 cases e
 exact q _ (rs.set i r)
theorem BK:rY X [] (Kd (wo X) []):=by
 refine rY.imp AJ ?_
 rintro vs σ H Q ⟨μ,ρ,us,μ',rs,r,e,q⟩
 cases us with
 | nil => cases e; exact ⟨r.de,q σ rs⟩
 | cons => cases e
theorem yN {e:Expr} {es:List Expr} {a:AS} {as:List AS} (h1:PG X e (tA (wo X) a)) (h2:rY X es (Kd (wo X) as)) (hs:(assignEach (e :: es) X.env).map (·.2) = assign e X.env :: (assignEach es X.env).map (·.2):=by rfl):rY X (e :: es) (Kd (wo X) (a :: as)):=by
 refine rY.imp (xH h1 h2 hs) ?_
 rintro vs σ H Q ⟨μ,ρ,us,μ',rs,r,e,q⟩
 cases us with
 | nil => cases e
 | cons u us =>
  obtain ⟨v,r',rfl,ru,rr⟩:=r.bI
  unfold n? at e
  cases z:a u μ with
  | none => rw [z] at e; cases e
  | some μ1 =>
   rw [z] at e
   exact ⟨v,r',rfl,μ,ρ,u,μ1,rs,ru,z,fun σ1 G1 => ⟨μ1,ρ,us,μ',G1,rr,e,q⟩⟩
theorem FD {es:List Expr} {k:Nat} {l:List AS} (hc:X.calm = true) (h:rY X es (Kd (wo X) l)) (hn:(assignEach es X.env).length = l.length:=by rfl) (vy:(assignEach es X.env).findIdx? (·.1) = none:=by rfl):PG X (.Tuple es k pos) (tA (wo X) (eY l)):=by
 refine PG.imp (Ec hc h hn vy) ?_
 rintro v σ H Q ⟨μ,ρ,u,μ',rs,r,e,q⟩
 cases u with
 | tup us =>
  obtain ⟨a,vs,rfl,ha,ra⟩:=r.d9
  have len:∀ (l:List AS) (us:List ai) (μ:Env),n? l us μ = some μ' → us.length = l.length:=by
   intro l
   induction l with
   | nil => intro us μ e; cases us with | nil => rfl | cons => cases e
   | cons a l ih =>
    intro us μ e
    cases us with
    | nil => cases e
    | cons u us =>
     unfold n? at e
     cases z:a u μ with
     | none => rw [z] at e; cases e
     | some μ1 => rw [z] at e; rw [List.length_cons,List.length_cons,ih us μ1 e]
  exact ⟨a,vs,rfl,ha,by rw [← ra.length]; exact len _ _ _ e,μ,ρ,us,μ',rs,ra,e,q⟩
 | _ => cases e
noncomputable def OZ (a:AS) (m:ME):MB:=fun μ st => (m μ st).sb μ fun v av => match a v μ with
 | some μ' => .nx μ' av
 | none => .bad
end
noncomputable abbrev Itm:=List ai × (ag → Prop)
noncomputable abbrev MI:=Env → ag → bH Itm
noncomputable def Dy (K:PySem.W.Frag) (ρ0:List Addr) (H0:Hp) (p:Itm) (J:It):Prop :=
 ∀ ρ st H,aC ρ0 H0 ρ H → SR K ρ st H → p.2 st → ∀ i:Nat,
  (∀ u,p.1[i]? = some u → J.go i H ∧ ∀ x H',J.Hr i H x H' → aC ρ H ρ H' ∧ SR K ρ st H' ∧ Rl K ρ H' u x) ∧ (p.1.length ≤ i → J.stop i H)
noncomputable abbrev tI (X:Cx) (E:XK) (m:MI):TI:=tG (wo X) E (Dy X.K) m
section
variable {X:Cx} {E:XK} {tg:Expr} {pos p:Pos}
theorem PI.imp {it:Expr} {t t':TI} (h:PI X tg it t) (k:∀ σ H Q,t' σ H Q → t σ H Q):PI X tg it t':=fun af s σ H R I q => h af s σ H R I (k σ H R q)
theorem FE {l:Expr} {tl:TE} (hl:PE X l tl):PI X tg l (fun σ H R => tl σ H fun x H1 => ∃ a,x = .ref a ∧ (((∃ xs,iC X.K H1 a xs) ∧ R (KR X.K a) H1) ∨ ((∃ xs,ig X.K H1 a xs) ∧ R (KS X.K a) H1))):=by
 intro af s σ H R I h
 refine cJ (hl af s σ H _ I h) fun v s1 ⟨x,H1,I1,r1,q1⟩ => ?_
 obtain ⟨a,e,q⟩:=q1
 subst e
 cases r1
 rcases q with ⟨⟨xs,hq⟩,q⟩ | ⟨⟨xs,hq⟩,q⟩
 ·obtain ⟨aH,rv,p,hz⟩:=I1.list hq
  refine wpAny_pyIter_list p.isList ?_
  refine ⟨s1.heap.objs.size,[s1.heap.objs.size],_,_,H1,rfl,I1.kept (t':=s1.toks) fun b o e => Heap.get?_push_of_some _ e,vz a _,⟨_,Heap.get?_push_size _ rfl,rfl,rfl⟩,fun b hb => ?_,q⟩
  have e:b = s1.heap.objs.size:=by simpa using hb
  subst e
  exact I1.rZ (Nat.le_refl _) (I1.bt.fresh (Nat.le_refl _))
 ·obtain ⟨aH,rv,p,hz⟩:=I1.tuple hq
  refine wpAny_pyIter_tuple (show s1.heap.IsTuple a aH.toArray from p) ?_
  refine ⟨s1.heap.objs.size,[s1.heap.objs.size],_,_,H1,rfl,I1.kept (t':=s1.toks) fun b o e => Heap.get?_push_of_some _ e,r9 a _,⟨_,Heap.get?_push_size _ rfl,rfl,rfl⟩,fun b hb => ?_,q⟩
  have e:b = s1.heap.objs.size:=by simpa using hb
  subst e
  exact I1.rZ (Nat.le_refl _) (I1.bt.fresh (Nat.le_refl _))
noncomputable def lK (st:ag):ai → Option Itm
 | .tup us => some (us,fun _ => True)
 | .mt us => some (us,fun _ => True)
 | .loc n => (aj st n).map fun us => (us,fun av => aj av n = some us)
 | _ => none
noncomputable def d_ (m:ME):MI:=fun μ st => (m μ st).bind fun v av => match lK av v with
 | some p => .ok p av
 | none => .bad
theorem yO {K:PySem.W.Frag} {ρ:List Addr} {H:Hp} {n:Nat} {us:List ai} {a:Addr} (ha:ρ[n]? = some a) (LM:∀ {ρ':List Addr} {av:ag} {H':Hp},SR K ρ' av H' → aj av n = some us → ρ'[n]? = some a → ∃ vs,iC K H' a vs ∧ aP K ρ' H' us vs) :
  Dy K ρ H (us,fun av => aj av n = some us) (KR K a):=by
 intro ρ' av H' e sr g i
 obtain ⟨vs,hs,rv⟩:=LM sr g (e.at_ ha)
 refine ⟨fun u hu => ?_,fun hi => ⟨vs,hs,by rw [← rv.length]; exact hi⟩⟩
 obtain ⟨v,hv,ru⟩:=rv.get hu
 refine ⟨⟨vs,v,hs,hv⟩,fun x G5 y => ?_⟩
 obtain ⟨rfl,y⟩:=y
 have e:=(y vs hs).symm.trans hv
 cases e
 exact ⟨aC.refl _ _,sr,ru⟩
theorem uE {K:PySem.W.Frag} {ρ:List Addr} {H:Hp} {us:List ai} {a:Addr} {vs:List V} (ha:ig K H a vs) (ra:aP K ρ H us vs):Dy K ρ H (us,fun _ => True) (KS K a):=by
 intro ρ' av H' e sr g i
 have II:ig K H' a vs:=e.LG ha
 have rv:=aP.mono e _ _ ra
 refine ⟨fun u hu => ?_,fun hi => ⟨vs,II,by rw [← rv.length]; exact hi⟩⟩
 obtain ⟨v,hv,ru⟩:=rv.get hu
 refine ⟨⟨vs,v,II,hv⟩,fun x G5 y => ?_⟩
 obtain ⟨rfl,y⟩:=y
 have e:=(y vs II).symm.trans hv
 cases e
 exact ⟨aC.refl _ _,sr,ru⟩
theorem FF {l:Expr} {m:ME} (hl:PE X l (tE X E m)):PI X tg l (tI X E (d_ m)):=by
 refine PI.imp (FE hl) ?_
 rintro σ H R ⟨μ,ρ,st,rs,sr,h⟩
 refine go μ ρ st rs sr h fun u aN ρ1 H1 x e1 bo r1 h1 => ?_
 cases u with
 | tup us =>
  obtain ⟨a,vs,rfl,ha,ra⟩:=r1.d9
  exact ⟨a,rfl,.inr ⟨⟨vs,ha⟩,h1 ρ1 H1 _ (aC.refl _ _) bo (uE ha ra)⟩⟩
 | mt us =>
  obtain ⟨a,vs,rfl,ha,ra⟩:=r1.NK
  exact ⟨a,rfl,.inr ⟨⟨vs,ha⟩,h1 ρ1 H1 _ (aC.refl _ _) bo (uE ha ra)⟩⟩
 | loc n =>
  obtain ⟨a,rfl,ha⟩:=r1.cN
  cases z:aj aN n with
  | none => simp only [lK,z] at h1; exact h1.elim
  | some us =>
   simp only [lK,z] at h1
   obtain ⟨vs,hs,rv⟩:=aO bo z ha
   exact ⟨a,rfl,.inl ⟨⟨vs,hs⟩,h1 ρ1 H1 _ (aC.refl _ _) bo (yO ha fun s g h => aO s g h)⟩⟩
 | _ => exact h1.elim
noncomputable def cj (lo:Int) (n:Nat):List ai:=(List.range n).map fun (i:Nat) => ai.int (lo + (i:Int))
theorem oa {K:PySem.W.Frag} {ρ:List Addr} {H:Hp} (lo:Int) (n:Nat):Dy K ρ H (cj lo n,fun _ => True) (Hs lo n):=by
 intro ρ' av H' e sr g i
 refine ⟨fun u hu => ?_,fun hi => ?_⟩
 ·have hi:i < n:=by
   have:=ft hu
   simpa [cj] using this
  refine ⟨hi,fun x G5 y => ?_⟩
  obtain ⟨rfl,rfl⟩:=y
  have e:u = ai.int (lo + (i:Int)):=by
   simp only [cj,List.getElem?_map] at hu
   rw [List.getElem?_range hi] at hu
   exact (Option.some.inj hu).symm
  subst e
  exact ⟨aC.refl _ _,sr,Rl.mkInt _⟩
 ·show n ≤ i
  simpa [cj] using hi
noncomputable def cD (m:MA):MI:=fun μ st => (m μ st).bind fun vs av => match vs with
 | [.int j] => if -(2 ^ 62) ≤ j ∧ j < 2 ^ 62 then .ok (cj 0 j.toNat,fun _ => True) av else .bad
 | _ => .bad
noncomputable def fv (m:MA):MI:=fun μ st => (m μ st).bind fun vs av => match vs with
 | [.int i,.int j] => if -(2 ^ 62) ≤ i ∧ i < 2 ^ 62 ∧ -(2 ^ 62) ≤ j ∧ j < 2 ^ 62 then .ok (cj i (j - i).toNat,fun _ => True) av else .bad
 | _ => .bad
theorem wd {a:Expr} {m:MA} (hg:Gl X "range") (hm:X.mg "range" = none) (ha:PA X [a] (tL X E m)) (hs:starEach [a] X.env = [(false,eval a X.env)]:=by rfl):PI X tg (.Call (.Name "range" p) [a] [] pos) (tI X E (cD m)):=by
 refine PI.imp (vA hg hm ha hs) ?_
 rintro σ H R ⟨μ,ρ,st,rs,sr,h⟩
 refine go (R1:=aP X.K) μ ρ st rs sr h fun us aN ρ1 H1 xs e1 bo r1 h1 => ?_
 split at h1
 ·rename_i j
  obtain ⟨v,rfl,rv⟩:=r1.oZ
  split at h1
  ·rename_i hz
   exact ⟨j,by rw [rv.bA],hz.1,hz.2,h1 ρ1 H1 _ (aC.refl _ _) bo (oa 0 j.toNat)⟩
  ·exact h1.elim
 ·exact h1.elim
theorem we {a b:Expr} {m:MA} (hg:Gl X "range") (hm:X.mg "range" = none) (ha:PA X [a,b] (tL X E m)) (hs:starEach [a,b] X.env = [(false,eval a X.env),(false,eval b X.env)]:=by rfl) (bT:starEach [b] X.env = [(false,eval b X.env)]:=by rfl) :
  PI X tg (.Call (.Name "range" p) [a,b] [] pos) (tI X E (fv m)):=by
 refine PI.imp (vB hg hm ha hs bT) ?_
 rintro σ H R ⟨μ,ρ,st,rs,sr,h⟩
 refine go (R1:=aP X.K) μ ρ st rs sr h fun us aN ρ1 H1 xs e1 bo r1 h1 => ?_
 split at h1
 ·rename_i i j
  obtain ⟨v,w,rfl,rv,vH⟩:=r1.G0
  split at h1
  ·rename_i hz
   exact ⟨i,j,by rw [rv.bA,vH.bA],hz,h1 ρ1 H1 _ (aC.refl _ _) bo (oa i _)⟩
  ·exact h1.elim
 ·exact h1.elim
noncomputable def eZ (st:ag):ai → Option (Bool × Itm)
 | .tup us => some (false,us,fun _ => True)
 | .loc n => (aj st n).map fun us => (true,us,fun av => aj av n = some us)
 | _ => none
noncomputable def fU:List ai → List ai → List ai
 | x :: xs,y :: ys => .tup [x,y] :: fU xs ys
 | _,_ => []
theorem o5:∀ (us ws:List ai) (i:Nat),(∀ z,(fU us ws)[i]? = some z → ∃ u w,us[i]? = some u ∧ ws[i]? = some w ∧ z = .tup [u,w]) ∧ ((fU us ws).length ≤ i → us.length ≤ i ∨ ws.length ≤ i)
 | [],_,i => ⟨fun z h => (by cases h),fun _ => .inl (Nat.zero_le _)⟩
 | _ :: _,[],i => ⟨fun z h => (by cases h),fun _ => .inr (Nat.zero_le _)⟩
 | u :: us,w :: ws,0 => ⟨fun z h => (by cases h; exact ⟨u,w,rfl,rfl,rfl⟩),fun h => (by simp [fU] at h)⟩
 | u :: us,w :: ws,i + 1 => by
  obtain ⟨a,b⟩:=o5 us ws i
  refine ⟨fun z h => a z h,fun h => ?_⟩
  have h':(fU us ws).length ≤ i:=by simpa [fU] using h
  rcases b h' with q | q
  ·exact .inl (by rw [List.length_cons]; lia)
  ·exact .inr (by rw [List.length_cons]; lia)
noncomputable def jf (b1 b2:Bool) (m:MA):MI:=fun μ st => (m μ st).bind fun vs av => match vs with
 | [u,w] => match eZ av u,eZ av w with
  | some (c1,us,g1),some (c2,ws,g2) => if c1 = b1 ∧ c2 = b2 then .ok (fU us ws,fun st2 => g1 st2 ∧ g2 st2) av else .bad
  | _,_ => .bad
 | _ => .bad
theorem kQ {K:PySem.W.Frag} {ρ:List Addr} {st:ag} {H:Hp} {u:ai} {x:V} {c:Bool} {us:List ai} {g:ag → Prop} (sr:SR K ρ st H) (r:Rl K ρ H u x) (h:eZ st u = some (c,us,g)) (LM:∀ {ρ':List Addr} {av:ag} {H':Hp} {n a},SR K ρ' av H' → aj av n = some us → ρ'[n]? = some a → ∃ vs,iC K H' a vs ∧ aP K ρ' H' us vs) :
  ∃ a,x = .ref a ∧ ∀ ρ' av H',aC ρ H ρ' H' → SR K ρ' av H' → g av → ∃ vs,qh c K H' a vs ∧ aP K ρ' H' us vs:=by
 cases u with
 | tup ws =>
  cases h
  obtain ⟨a,vs,rfl,ha,ra⟩:=r.d9
  exact ⟨a,rfl,fun ρ' av H' e _ _ => ⟨vs,e.LG ha,aP.mono e _ _ ra⟩⟩
 | loc n =>
  obtain ⟨a,rfl,ha⟩:=r.cN
  cases z:aj st n with
  | none => simp only [eZ,z] at h; cases h
  | some ws =>
   simp only [eZ,z] at h
   cases h
   exact ⟨a,rfl,fun ρ' av H' e s g => LM s g (e.at_ ha)⟩
 | _ => cases h
theorem o6 {st:ag} {u:ai} {c:Bool} {us:List ai} {g:ag → Prop} (h:eZ st u = some (c,us,g)):g st:=by
 cases u with
 | tup ws => cases h; exact True.intro
 | loc n =>
  cases z:aj st n with
  | none => simp only [eZ,z] at h; cases h
  | some ws => simp only [eZ,z] at h; cases h; exact z
 | _ => cases h
theorem FG (b1 b2:Bool) {elts:List Expr} {kt:Nat} {tp:Pos} {ea eb:Expr} {m:MA} (hg:Gl X "zip") (hm:X.mg "zip" = none) (ha:PA X [ea,eb] (tL X E m)) (hs:starEach [ea,eb] X.env = [(false,eval ea X.env),(false,eval eb X.env)]:=by rfl) (bT:starEach [eb] X.env = [(false,eval eb X.env)]:=by rfl) :
  PI X (.Tuple elts kt tp) (.Call (.Name "zip" p) [ea,eb] [] pos) (tI X E (jf b1 b2 m)):=by
 refine PI.imp (E5 b1 b2 hg hm ha hs bT) ?_
 rintro σ H R ⟨μ,ρ,st,rs,sr,h⟩
 refine go (R1:=aP X.K) μ ρ st rs sr h fun us aN ρ1 H1 xs e1 bo r1 h1 => ?_
 split at h1
 ·rename_i u w
  obtain ⟨x,y,rfl,rx,ry⟩:=r1.G0
  split at h1
  ·rename_i c1 LN g1 c2 LO g2 z1 z2
   split at h1
   ·rename_i hc
    obtain ⟨rfl,rfl⟩:=hc
    obtain ⟨a,rfl,ka⟩:=kQ bo rx z1 fun s g h => aO s g h
    obtain ⟨b,rfl,kb⟩:=kQ bo ry z2 fun s g h => aO s g h
    obtain ⟨v1,q1,_⟩:=ka ρ1 aN H1 (aC.refl _ _) bo (o6 z1)
    obtain ⟨v2,q2,_⟩:=kb ρ1 aN H1 (aC.refl _ _) bo (o6 z2)
    refine ⟨a,b,rfl,⟨v1,q1⟩,⟨v2,q2⟩,h1 ρ1 H1 _ (aC.refl _ _) bo ?_⟩
    intro ρ' av H' e s g i
    obtain ⟨w1,s1,t1⟩:=ka ρ' av H' e s g.1
    obtain ⟨w2,s2,t2⟩:=kb ρ' av H' e s g.2
    obtain ⟨k1,k2⟩:=o5 LN LO i
    refine ⟨fun z hz => ?_,fun hi => ⟨w1,w2,s1,s2,?_⟩⟩
    ·obtain ⟨u',w',LP,LQ,rfl⟩:=k1 z hz
     obtain ⟨p1,p2,p3⟩:=t1.get LP
     obtain ⟨o1,o2,o3⟩:=t2.get LQ
     refine ⟨⟨w1,w2,p1,o1,s1,s2,p2,o2⟩,fun x' G5 y' => ?_⟩
     obtain ⟨pp,x1,y1,rfl,hp,rfl,f1,f2⟩:=y'
     have c1:=(f1 w1 s1).symm.trans p2
     have c2:=(f2 w2 s2).symm.trans o2
     cases c1
     cases c2
     exact ⟨aC.same (bN hp),s.grow (bN hp),Rl.lD a8 (aP.mono (aC.same (bN hp)) _ _ (aP.cons p3 (aP.one o3)))⟩
    ·rw [← t1.length,← t2.length]; exact k2 hi
   ·exact h1.elim
  ·exact h1.elim
 ·exact h1.elim
end
open Classical in
noncomputable def forL (g:ag → Prop) (a:AS) (body:MB):List ai → MB
 | [],μ,st => if g st then .nx μ st else .bad
 | u :: us,μ,st => if g st then (match a u μ with
  | some μ1 => match body μ1 st with
   | .nx μ' av => forL g a body us μ' av
   | .ct μ' av => forL g a body us μ' av
   | .bk μ' av => .nx μ' av
   | .rt v av => .rt v av
   | .er c μ' av => .er c μ' av
   | .bad => .bad
  | none => .bad) else .bad
noncomputable def dD (it:MI) (a:AS) (body:MB):MB:=fun μ st => (it μ st).sb μ fun p av => forL p.2 a body p.1 μ av
section
variable {X:Cx} {E:XK} {tg:Expr} {pos p:Pos}
theorem FH {iter:Expr} {sb:List Stmt} {it:MI} {a:AS} {body:MB} (hp:PassesOwn (model X.prog X.w) X.A X.env X.xe) (hc:X.calm = true) (hi:PI X tg iter (tI X E it)) (hg:PG X tg (tA (wo X) a)) (hb:gS X sb (tS X E body))
  (hs:∀ x,foldedSetIterable iter X.env x = pure x:=by intro _; rfl):PS X (.For tg iter sb [] pos) (tS X E (dD it a body)):=by
 refine PS.imp (Eg hp hc hi hg hb hs) ?_
 rintro D σ H ⟨μ,ρ,st,rs,sr,h⟩
 refine Du (R1:=Dy X.K) μ ρ st rs sr h fun pr aN ρ1 H1 J e1 bo rJ h1 => ?_
 obtain ⟨us,g⟩:=pr
 refine ⟨fun i m σ' H' => m = us.length - i ∧ i ≤ us.length ∧ ∃ μ' ρ' av,aC ρ1 H1 ρ' H' ∧ RS (wo X) ρ' H' μ' σ' ∧ SR X.K ρ' av H' ∧ wS (wo X) E ρ' H' D (forL g a body (us.drop i) μ' av),
  ⟨us.length,by simp,Nat.zero_le _,μ,ρ1,aN,aC.refl _ _,rs.mono e1,bo,h1⟩,?_⟩
 rintro i m σ' H' ⟨rfl,hi,μ',ρ',av,e',uF,uG,h'⟩
 by_cases jC:i < us.length
 ·rw [List.drop_eq_getElem_cons jC] at h'
  unfold forL at h'
  by_cases kA:g av
  ·rw [if_pos kA] at h'
   obtain ⟨k1,k2⟩:=rJ ρ' av H' e' uG kA i
   obtain ⟨go',yl⟩:=k1 _ (List.getElem?_eq_getElem jC)
   refine .inr ⟨go',fun σ2 H2 => i + 1 ≤ us.length ∧ ∃ μ2 ρ2 st2,aC ρ1 H1 ρ2 H2 ∧ RS (wo X) ρ2 H2 μ2 σ2 ∧ SR X.K ρ2 st2 H2 ∧ wS (wo X) E ρ2 H2 D (forL g a body (us.drop (i + 1)) μ2 st2),fun σ2 H2 n => ⟨us.length - (i + 1),by lia,rfl,n.1,n.2⟩,fun x H2 y => ?_⟩
   obtain ⟨e2,kg,r2⟩:=yl x H2 y
   cases z:a us[i] μ' with
   | none => rw [z] at h'; exact h'.elim
   | some μ1 =>
    rw [z] at h'
    dsimp only at h'
    refine ⟨μ',ρ',us[i],μ1,uF.mono e2,r2,z,fun σ3 G6 => ⟨μ1,ρ',av,G6,kg,?_⟩⟩
    cases zb:body μ1 av with
    | nx μ4 pW =>
     rw [zb] at h'
     intro ρ4 H4 σ4 e4 ng sN
     exact ⟨by lia,μ4,ρ4,pW,(e'.trans e2).trans e4,sN,ng,wS.mono h' (e2.trans e4)⟩
    | ct μ4 pW =>
     rw [zb] at h'
     intro ρ4 H4 σ4 e4 ng sN
     exact ⟨by lia,μ4,ρ4,pW,(e'.trans e2).trans e4,sN,ng,wS.mono h' (e2.trans e4)⟩
    | bk μ4 pW => rw [zb] at h'; exact fun ρ4 H4 σ4 e4 ng sN => h' ρ4 H4 σ4 (e2.trans e4) ng sN
    | rt v pW => rw [zb] at h'; exact fun ρ4 H4 σ4 e4 ng sN => h' ρ4 H4 σ4 (e2.trans e4) ng sN
    | er c μ4 pW => rw [zb] at h'; obtain ⟨C,q1,q2⟩:=h'; exact ⟨C,q1,fun ρ4 H4 e4 ng => q2 ρ4 H4 (e2.trans e4) ng⟩
    | bad => rw [zb] at h'; exact h'
  ·rw [if_neg kA] at h'; exact h'.elim
 ·have Lo:i = us.length:=by lia
  subst Lo
  rw [List.drop_length] at h'
  unfold forL at h'
  by_cases kA:g av
  ·rw [if_pos kA] at h'
   exact .inl ⟨(rJ ρ' av H' e' uG kA us.length).2 (Nat.le_refl _),h' ρ' H' σ' (aC.refl _ _) uG uF⟩
  ·rw [if_neg kA] at h'; exact h'.elim
end
noncomputable def c_ (t:MT) (body:MB):Nat → Env → ag → Option cf
 | 0,_,_ => none
 | n + 1,μ,st => match t μ st with
  | .ok true aN => match body μ aN with
   | .nx μ' av => c_ t body n μ' av
   | .ct μ' av => c_ t body n μ' av
   | .bk μ' av => some (.nx μ' av)
   | .rt v av => some (.rt v av)
   | .er c μ' av => some (.er c μ' av)
   | .bad => some .bad
  | .ok false aN => some (.nx μ aN)
  | .err c aN => some (.er c μ aN)
  | .bad => some .bad
open Classical in
noncomputable def fK (t:MT) (body:MB):MB:=fun μ st => if h:∃ n r,c_ t body n μ st = some r then h.choose_spec.choose else .bad
theorem fA {t:MT} {body:MB}:∀ {n m:Nat} {μ:Env} {st:ag} {r r':cf},c_ t body n μ st = some r → c_ t body m μ st = some r' → r = r'
 | 0,_,_,_,_,_,h,_ => by cases h
 | _ + 1,0,_,_,_,_,_,h => by cases h
 | n + 1,m + 1,μ,st,r,r',h,h' => by
  unfold c_ at h h'
  split at h
  ·rename_i aN e
   rw [e] at h'
   dsimp only at h'
   split at h
   all_goals (rename_i eb; rw [eb] at h'; dsimp only at h')
   ·exact fA h h'
   ·exact fA h h'
   all_goals (cases h; cases h'; rfl)
  all_goals (rename_i e; rw [e] at h'; dsimp only at h'; cases h; cases h'; rfl)
theorem wg {t:MT} {body:MB} {n:Nat} {μ:Env} {st:ag} {r:cf} (h:c_ t body n μ st = some r):fK t body μ st = r:=by
 have hx:∃ n r,c_ t body n μ st = some r:=⟨n,r,h⟩
 unfold fK
 rw [dif_pos hx]
 exact fA hx.choose_spec.choose_spec h
section
variable {X:Cx} {E:XK} {pos:Pos}
theorem yP {c:Expr} {sb:List Stmt} {t:MT} {body:MB} (hp:PassesOwn (model X.prog X.w) X.A X.env X.xe) (hc:PT X c (tT X E t)) (hb:gS X sb (tS X E body)):PS X (.While c sb [] pos) (tS X E (fK t body)):=by
 refine PS.imp (xI hp hc hb) ?_
 rintro D σ H ⟨μ,ρ,st,rs,sr,h⟩
 unfold fK at h
 split at h
 ·rename_i hx
  have hr:=hx.choose_spec.choose_spec
  refine ⟨fun m σ' H' => ∃ μ' ρ' av r,aC ρ H ρ' H' ∧ RS (wo X) ρ' H' μ' σ' ∧ SR X.K ρ' av H' ∧ c_ t body m μ' av = some r ∧ wS (wo X) E ρ' H' D r,⟨_,μ,ρ,st,_,aC.refl _ _,rs,sr,hr,h⟩,?_⟩
  rintro m σ' H' ⟨μ',ρ',av,r,e',uF,uG,hw,hq⟩
  cases m with
  | zero => cases hw
  | succ m =>
   unfold c_ at hw
   refine ⟨μ',ρ',av,uF,uG,?_⟩
   cases z:t μ' av with
   | ok k aN =>
    rw [z] at hw
    intro ρ1 H1 k' e1 bo ek
    cases ek
    cases k with
    | true =>
     dsimp only at hw
     rw [if_pos rfl]
     refine ⟨fun σ2 H2 => ∃ μ2 ρ2 st2 r2,aC ρ H ρ2 H2 ∧ RS (wo X) ρ2 H2 μ2 σ2 ∧ SR X.K ρ2 st2 H2 ∧ c_ t body m μ2 st2 = some r2 ∧ wS (wo X) E ρ2 H2 D r2,fun σ2 H2 n => ⟨m,Nat.lt_succ_self m,n⟩,μ',ρ1,aN,uF.mono e1,bo,?_⟩
     cases zb:body μ' aN with
     | nx μ4 pW =>
      rw [zb] at hw
      intro ρ4 H4 σ4 e4 ng sN
      exact ⟨μ4,ρ4,pW,r,(e'.trans e1).trans e4,sN,ng,hw,wS.mono hq (e1.trans e4)⟩
     | ct μ4 pW =>
      rw [zb] at hw
      intro ρ4 H4 σ4 e4 ng sN
      exact ⟨μ4,ρ4,pW,r,(e'.trans e1).trans e4,sN,ng,hw,wS.mono hq (e1.trans e4)⟩
     | bk μ4 pW => rw [zb] at hw; cases hw; exact fun ρ4 H4 σ4 e4 ng sN => hq ρ4 H4 σ4 (e1.trans e4) ng sN
     | rt v pW => rw [zb] at hw; cases hw; exact fun ρ4 H4 σ4 e4 ng sN => hq ρ4 H4 σ4 (e1.trans e4) ng sN
     | er c μ4 pW => rw [zb] at hw; cases hw; obtain ⟨C,q1,q2⟩:=hq; exact ⟨C,q1,fun ρ4 H4 e4 ng => q2 ρ4 H4 (e1.trans e4) ng⟩
     | bad => rw [zb] at hw; cases hw; exact hq
    | false =>
     cases hw
     rw [if_neg Bool.false_ne_true]
     exact hq ρ1 H1 σ' e1 bo (uF.mono e1)
   | err c aN => rw [z] at hw; cases hw; exact hq
   | bad => rw [z] at hw; cases hw; exact hq
 ·exact h.elim
end
end MN
namespace MN
open PySem PySem.Spec L2
open PyProof.Rows hiding St
noncomputable def e8 (k:Nat) (caps:List Nat) (μ:Env):Env:=List.replicate k none ++ caps.map fun j => (μ[j]?).getD none
theorem RS.O0 {W:Wo} {ρ:List Addr} {H:Hp} {μ:Env} {σ:L2.St} (r:RS W ρ H μ σ) (k:Nat) (caps:List Nat):RS W ρ H (e8 k caps μ) (ky k caps σ):=by
 refine ⟨by simp [e8,ky],fun i u e => ?_⟩
 unfold e8 at e
 rcases Nat.lt_or_ge i k with q | q
 ·rw [List.getElem?_append_left (by rw [List.length_replicate]; exact q),List.getElem?_replicate,if_pos q] at e
  cases e
 ·rw [List.getElem?_append_right (by rw [List.length_replicate]; exact q),List.length_replicate,List.getElem?_map] at e
  cases z:caps[i - k]? with
  | none => rw [z] at e; cases e
  | some j =>
   rw [z] at e
   have e':(μ[j]?).getD none = some u:=Option.some.inj e
   have e2:μ[j]? = some (some u):=by
    cases y:μ[j]? with
    | none => rw [y] at e'; cases e'
    | some w => rw [y] at e'; exact congrArg _ e'
   obtain ⟨v,h1,h2⟩:=r.at_ j u e2
   refine ⟨v,?_,h2⟩
   unfold ky
   rw [List.getElem?_append_right (by rw [List.length_replicate]; exact q),List.length_replicate,List.getElem?_map,z]
   show some ((σ[j]?).getD none) = _
   rw [h1]
   rfl
open Classical in
noncomputable def a7 (g:ag → Prop) (a:AS) (c:MT) (e:ME):List ai → Env → ag → List ai → bH (List ai)
 | [],_,st,ys => if g st then .ok ys st else .bad
 | u :: us,τ,st,ys => if g st then (match a u τ with
  | some τ1 => match c τ1 st with
   | .ok true aN => match e τ1 aN with
    | .ok y st2 => a7 g a c e us τ1 st2 (ys ++ [y])
    | .err _ _ => .bad
    | .bad => .bad
   | .ok false aN => a7 g a c e us τ1 aN ys
   | .err _ _ => .bad
   | .bad => .bad
  | none => .bad) else .bad
noncomputable def bG (k:Nat) (caps:List Nat) (it:MI) (a:AS) (c:MT) (e:ME):ME:=fun μ st => (it μ st).bind fun p aN =>
 if p.1.length ≤ sizeLine then (a7 p.2 a c e p.1 (e8 k caps μ) aN []).bind fun ys st2 => .ok (.loc st2.length) (st2 ++ [.lst ys]) else .bad
noncomputable def aL:MT:=fun _ st => .ok true st
noncomputable abbrev W0 (X:Cx):Wo:=⟨X.K,X.mg,[]⟩
section
variable {X:Cx} {E:XK} {tg elt iter:Expr} {ifs:List Expr} {scope:Scope} {pos yi:Pos} {N:List Str} {cl:List (Str × Addr)} {k:Nat} {caps:List Nat} {it:MI} {a:AS} {c:MT} {e:ME}
theorem og (IJ:X.pn = []) {σ:L2.St} {H:Hp} {Q:VK} (h:tE X E (bG k caps it a c e) σ H Q):lg k caps (tI X E it) (tA (W0 X) a) (tG (W0 X) E0 RB c) (tG (W0 X) E0 (Rl X.K) e) σ H Q:=by
 obtain ⟨μ,ρ,st,rs,sr,h⟩:=h
 refine yg (go (R1:=Dy X.K) μ ρ st rs sr h fun pr aN ρ1 H1 J e1 bo rJ h1 => ?_)
 obtain ⟨us,g⟩:=pr
 have ew:wo X = W0 X:=by show Wo.mk _ _ _ = _; rw [IJ]
 have G1:=rs.mono e1
 rw [ew] at G1 h1
 dsimp only at h1
 split at h1
 ·rename_i hz
  refine Bi us.length hz (fun i ys τ H' => ∃ μτ ρ' av yv,aC ρ1 H1 ρ' H' ∧ RS (W0 X) ρ' H' μτ τ ∧ SR X.K ρ' av H' ∧ aP X.K ρ' H' yv ys ∧ yv.length ≤ i ∧ wR (W0 X) E (Rl X.K) ρ' H' Q ((a7 g a c e (us.drop i) μτ av yv).bind fun (zs:List ai) (st2:ag) => bH.ok (ai.loc st2.length) (st2 ++ [aT.lst zs])))
   ⟨e8 k caps μ,ρ1,aN,[],aC.refl _ _,G1.O0 k caps,bo,aP.nil,Nat.le_refl _,h1⟩ ?_ ?_ ?_ ?_ ?_
  ·rintro i ys τ H' hi ⟨μτ,ρ',av,yv,e',uF,uG,ry,hl,hq⟩
   rw [List.drop_eq_getElem_cons hi] at hq
   unfold a7 at hq
   by_cases kA:g av
   ·exact ((rJ ρ' av H' e' uG kA i).1 _ (List.getElem?_eq_getElem hi)).1
   ·rw [if_neg kA] at hq; exact hq.elim
  ·rintro ys τ H' ⟨μτ,ρ',av,yv,e',uF,uG,ry,hl,hq⟩
   rw [List.drop_length] at hq
   unfold a7 at hq
   by_cases kA:g av
   ·exact (rJ ρ' av H' e' uG kA us.length).2 (Nat.le_refl _)
   ·rw [if_neg kA] at hq; exact hq.elim
  ·rintro i ys τ H' ⟨μτ,ρ',av,yv,e',uF,uG,ry,hl,hq⟩
   rw [← ry.length]; exact hl
  ·rintro i ys τ H' x H2 hi ⟨μτ,ρ',av,yv,e',uF,uG,ry,hl,hq⟩ y K1 hK
   rw [List.drop_eq_getElem_cons hi] at hq
   unfold a7 at hq
   by_cases kA:g av
   ·rw [if_pos kA] at hq
    obtain ⟨e2,kg,r2⟩:=((rJ ρ' av H' e' uG kA i).1 _ (List.getElem?_eq_getElem hi)).2 x H2 y
    cases z:a us[i] μτ with
    | none => rw [z] at hq; exact hq.elim
    | some τ1 =>
     rw [z] at hq
     dsimp only at hq
     refine ⟨μτ,ρ',us[i],τ1,uF.mono e2,r2,z,fun σ3 G6 => ⟨τ1,ρ',av,G6,kg,?_⟩⟩
     cases zc:c τ1 av with
     | ok b mR =>
      rw [zc] at hq
      intro ρ3 H3 b' e3 G7 eb
      cases eb
      cases b with
      | true =>
       dsimp only at hq
       rw [if_pos rfl]
       refine ⟨τ1,ρ3,mR,G6.mono e3,G7,?_⟩
       cases ze:e τ1 mR with
       | ok v pW =>
        rw [ze] at hq
        intro ρ4 H4 y4 e4 ng r4
        exact hK _ _ _ ⟨τ1,ρ4,pW,yv ++ [v],((e'.trans e2).trans e3).trans e4,(G6.mono e3).mono e4,ng,(aP.mono ((e2.trans e3).trans e4) _ _ ry).append (aP.one r4),by rw [List.length_append,List.length_singleton]; lia,wR.mono hq ((e2.trans e3).trans e4)⟩
       | err c' pW => rw [ze] at hq; exact hq.elim
       | bad => rw [ze] at hq; exact hq.elim
      | false =>
       dsimp only at hq
       rw [if_neg Bool.false_ne_true]
       exact hK _ _ _ ⟨τ1,ρ3,mR,yv,(e'.trans e2).trans e3,G6.mono e3,G7,aP.mono (e2.trans e3) _ _ ry,by lia,wR.mono hq (e2.trans e3)⟩
     | err c' mR => rw [zc] at hq; exact hq.elim
     | bad => rw [zc] at hq; exact hq.elim
   ·rw [if_neg kA] at hq; exact hq.elim
  ·rintro ys τ H' p ⟨μτ,ρ',av,yv,e',uF,uG,ry,hl,hq⟩ hp
   rw [List.drop_length] at hq
   unfold a7 at hq
   by_cases kA:g av
   ·rw [if_pos kA] at hq
    obtain ⟨k1,k2,k3⟩:=fu uG ry hp
    exact hq _ _ _ k1 k2 k3
   ·rw [if_neg kA] at hq; exact hq.elim
 ·exact h1.elim
theorem dg (hc:X.calm = true) (IJ:X.pn = []) (B:m8 X N scope cl k caps) (hi:PI X tg iter (tI X E it)) (hg:∀ C fp s H,PG (mT X N scope cl C fp s H) tg (tA (W0 X) a)) (EZ:∀ C fp s H,vQ (mT X N scope cl C fp s H) ifs (tG (W0 X) E0 RB c))
  (he:∀ C fp s H,PE (mT X N scope cl C fp s H) elt (tG (W0 X) E0 (Rl X.K) e)) (hs:∀ x,foldedSetIterable iter X.env x = pure x:=by intro _; rfl):PE X (.ListComp elt [⟨tg,iter,ifs,0⟩] scope pos) (tE X E (bG k caps it a c e)) :=
 PE.imp (Bh hc B hi hg EZ he hs) fun _ _ _ h => og IJ h
theorem gv (i:Nat) {y:Str} {py:Pos} (hN:X.N.Nodup) (hc:X.calm = true) (IJ:X.pn = []) (B:m8 X N scope cl k caps) (hi:PI X tg iter (tI X E it)) (hg:∀ C fp s H,PG (mT X N scope cl C fp s H) tg (tA (W0 X) a)) (EZ:∀ C fp s H,vQ (mT X N scope cl C fp s H) ifs (tG (W0 X) E0 RB c))
  (he:∀ C fp s H,PE (mT X N scope cl C fp s H) elt (tG (W0 X) E0 (Rl X.K) e)) (hy:X.N[i]? = some y:=by rfl) (hx:Loc X.env.scope y:=by first | exact Or.inl rfl | exact Or.inr rfl) (Lr:swapsWith (.ListComp elt [⟨tg,iter,ifs,0⟩] scope pos) (some (.Name y py)) yi.line X.env = pure true:=by rfl)
  (hs:∀ x,foldedSetIterable iter X.env x = pure x:=by intro _; rfl) (hf:X.fn y = true ∨ X.env.scope.names.lookup y = some .local:=by first | exact .inl rfl | exact .inr rfl | assumption) :
  PS X (.Assign [.Name y py] (.ListComp elt [⟨tg,iter,ifs,0⟩] scope pos) yi) (tS X E (aM i (bG k caps it a c e))) :=
 PS.imp (L2.sE hN hy hx hc B hi hg EZ he Lr hs hf) fun _ _ _ h => og IJ (qp h)
theorem BL {C fp s H}:vQ (mT X N scope cl C fp s H) [] (tG (W0 X) E0 RB aL):=by
 intro af s' σ H' Q I q
 refine Bd af s' σ H' Q I ?_
 obtain ⟨μ,ρ,st,rs,sr,h⟩:=q
 exact h ρ H' true (aC.refl _ _) sr rfl
theorem BM {cc:Expr} {C fp s H} (h:PT (mT X N scope cl C fp s H) cc (tG (W0 X) E0 RB c)):vQ (mT X N scope cl C fp s H) [cc] (tG (W0 X) E0 RB c):=Be h
theorem yQ {P:Program} {w:World} {C fp s H}:Passes (gT P w) (mT X N scope cl C fp s H) E0:=by
 rintro af σ H' s' e s2 I ⟨ea,cls,H2,_,_,q⟩
 exact q.elim
end
noncomputable abbrev FM:=ai → List ai → ag → bH ai
noncomputable def LR (W:Wo) (E:XK) (f:FM):V → List V → Hp → VK → Prop:=fun x xs H Q => ∃ ρ st u us,SR W.K ρ st H ∧ Rl W.K ρ H u x ∧ aP W.K ρ H us xs ∧ wR W E (Rl W.K) ρ H Q (f u us st)
noncomputable def qq (st:ag):ai → Bool
 | .loc n => match st[n]? with
  | some (.lst _) => true
  | _ => false
 | _ => false
noncomputable def ik (f:FM) (o:ME) (a:MA):ME:=fun μ st => (o μ st).bind fun x aN => if qq aN x = true then (a μ aN).bind fun xs st2 => f x xs st2 else .bad
noncomputable def c6:FM
 | .loc n,[v],st => match st[n]? with
  | some (.lst us) => if us.length < sizeLine then .ok .bE (st.set n (.lst (us ++ [v]))) else .bad
  | _ => .bad
 | _,_,_ => .bad
section
variable {X:Cx} {E:XK} {o e:Expr} {es:List Expr} {mo:ME} {ms:MA} {apos bO:Pos} {f:FM}
theorem xZ.imp {id:String} {r r':V → List V → Hp → VK → Prop} (h:xZ X id r) (k:∀ x xs H Q,r' x xs H Q → r x xs H Q):xZ X id r':=fun af s σ H x xs v us Q I rx rs q => h af s σ H x xs v us Q I rx rs (k x xs H Q q)
theorem uH {K:PySem.W.Frag} {ρ:List Addr} {st:ag} {H:Hp} {n:Nat} {us xo:List ai} {a:Addr} {vs Aw:List V} (sr:SR K ρ st H) (h:st[n]? = some (.lst us)) (ha:ρ[n]? = some a) (hH:H a = some (.lst vs)) (r:aP K ρ H xo Aw) :
  aC ρ H ρ (upd H a (.lst Aw)) ∧ SR K ρ (st.set n (.lst xo)) (upd H a (.lst Aw)):=by
 have e:aC ρ H ρ (upd H a (.lst Aw)):=aC.put hH (fun _ z => by cases z) (fun _ _ z => by cases z)
 exact ⟨e,sr.set h rfl rfl ha hH (fun _ z => by cases z) (fun _ _ z => by cases z) ⟨Aw,a8,aP.mono e _ _ r⟩⟩
theorem sO:xZ X "list.append" (LR (wo X) E c6):=by
 refine xZ.imp vK ?_
 rintro x xs H Q ⟨ρ,st,u,us,sr,r1,r2,h⟩
 unfold c6 at h
 split at h
 ·rename_i n v
  obtain ⟨a,rfl,ha⟩:=r1.cN
  obtain ⟨y,rfl,ry⟩:=r2.oZ
  split at h
  ·rename_i ws hw
   split at h
   ·rename_i hz
    obtain ⟨vs,hH,rv⟩:=sr.cell n _ a hw ha
    refine ⟨a,vs,y,rfl,rfl,hH,by rw [← rv.length]; exact hz,?_⟩
    obtain ⟨k1,k2⟩:=uH sr hw ha hH (rv.append (aP.one ry))
    exact h ρ _ _ k1 k2 Rl.uw
   ·exact h.elim
  ·exact h.elim
 ·exact h.elim
theorem yR {K:PySem.W.Frag} {ρ:List Addr} {st:ag} {H:Hp} {u:ai} {x:V} (sr:SR K ρ st H) (r:Rl K ρ H u x) (h:qq st u = true):JY K "list" x H:=by
 cases u with
 | loc n =>
  obtain ⟨a,rfl,ha⟩:=r.cN
  obtain ⟨c,hc,kc⟩:=sr.there ha
  simp only [qq,hc] at h
  cases c with
  | lst us => obtain ⟨vs,h1,_⟩:=kc; exact .inl ⟨rfl,vs,iC.of h1⟩
  | _ => cases h
 | _ => cases h
theorem yS {name:Str} {id:String} (slot:Slot "list" name id) (EM:typeOf (.builtin id) = pure (.type "method_descriptor")) (hm:xZ X id (LR (wo X) E f)) (ho:PE X o (tE X E mo)) (ha:PA X (e :: es) (tL X E ms))
  (eQ:attributeBase o name X.env (eval o X.env) = eval o X.env:=by rfl)
  (sA:((backTo bO (starEach (e :: es) X.env)).all (fun x => !x.1) && (backToKw bO (keywordEach [] X.env)).all (fun x => x.1.isSome)
   && decide ((e :: es).length + ([]:List Keyword).length + (if ([]:List Keyword).isEmpty then 0 else 1) < 30)) = true:=by rfl)
  (eR:(apos.endLine == bO.line) = true:=by rfl) (hs:starEach (e :: es) X.env = (false,eval e X.env) :: starEach es X.env:=by rfl) (iL:(backTo bO (starEach es X.env)).any (·.1) = false:=by rfl) :
  PE X (.Call (.Attribute o name apos) (e :: es) [] bO) (tE X E (ik f mo ms)):=by
 refine PE.imp (HS PySem.F.plainAttrs_list slot EM hm ho ha eQ sA eR hs iL) ?_
 rintro σ H Q ⟨μ,ρ,st,rs,sr,h⟩
 refine go μ ρ st rs sr h fun u aN ρ1 H1 x e1 bo r1 h1 => ?_
 split at h1
 ·rename_i hz
  refine ⟨yR bo r1 hz,?_⟩
  refine go (R1:=aP X.K) μ ρ1 aN (rs.mono e1) bo h1 fun us st2 ρ2 H2 xs e2 kg r2 h2 => ?_
  exact ⟨ρ2,st2,u,us,kg,Rl.mono e2 _ _ r1,r2,h2⟩
 ·exact h1.elim
end
end MN
namespace MN
open PySem PySem.Spec L2
open PyProof.Rows hiding St
noncomputable def G8 {α β:Type} (W:Wo) (R:List Addr → Hp → α → β → Prop) (ρ:List Addr) (H:Hp) (Q:β → Hp → Prop) (EX:EH):bH α → Prop
 | .ok u av => ∀ ρ' H' v,aC ρ H ρ' H' → SR W.K ρ' av H' → R ρ' H' u v → Q v H'
 | .err c av => ∃ C,W.mg c = some (.ref C) ∧ ∀ ρ' H' ea,aC ρ H ρ' H' → SR W.K ρ' av H' → EX (.ref C) ea H'
 | .bad => False
theorem G8.mono {α β:Type} {W:Wo} {R:List Addr → Hp → α → β → Prop} {ρ ρ':List Addr} {H H':Hp} {Q:β → Hp → Prop} {EX:EH} {r:bH α} (h:G8 W R ρ H Q EX r) (e:aC ρ H ρ' H'):G8 W R ρ' H' Q EX r:=by
 cases r with
 | ok u st => exact fun ρ2 H2 v e2 s r => h ρ2 H2 v (e.trans e2) s r
 | err c st => obtain ⟨C,h1,h2⟩:=h; exact ⟨C,h1,fun ρ2 H2 ea e2 s => h2 ρ2 H2 ea (e.trans e2) s⟩
 | bad => exact h
noncomputable def Ke (X:Cx) (m:ME):Iv:=fun σ H Q EX => ∃ μ ρ st,RS (wo X) ρ H μ σ ∧ SR X.K ρ st H ∧ G8 (wo X) (Rl X.K) ρ H Q EX (m μ st)
noncomputable def BN (W:Wo) (ρ:List Addr) (H:Hp) (D:Ends) (EX:EK):cf → Prop
 | .nx μ st => ∀ ρ' H' σ',aC ρ H ρ' H' → SR W.K ρ' st H' → RS W ρ' H' μ σ' → D.nx σ' H'
 | .rt v st => ∀ ρ' H' x,aC ρ H ρ' H' → SR W.K ρ' st H' → Rl W.K ρ' H' v x → D.rt x H'
 | .bk μ st => ∀ ρ' H' σ',aC ρ H ρ' H' → SR W.K ρ' st H' → RS W ρ' H' μ σ' → D.bk σ' H'
 | .ct μ st => ∀ ρ' H' σ',aC ρ H ρ' H' → SR W.K ρ' st H' → RS W ρ' H' μ σ' → D.ct σ' H'
 | .er c μ st => ∃ C,W.mg c = some (.ref C) ∧ ∀ ρ' H' σ' ea,aC ρ H ρ' H' → SR W.K ρ' st H' → RS W ρ' H' μ σ' → EX (.ref C) ea σ' H'
 | .bad => False
theorem BN.mono {W:Wo} {ρ ρ':List Addr} {H H':Hp} {D:Ends} {EX:EK} {r:cf} (h:BN W ρ H D EX r) (e:aC ρ H ρ' H'):BN W ρ' H' D EX r:=by
 cases r with
 | nx μ st => exact fun ρ2 H2 σ2 e2 s r => h ρ2 H2 σ2 (e.trans e2) s r
 | rt v st => exact fun ρ2 H2 x e2 s r => h ρ2 H2 x (e.trans e2) s r
 | bk μ st => exact fun ρ2 H2 σ2 e2 s r => h ρ2 H2 σ2 (e.trans e2) s r
 | ct μ st => exact fun ρ2 H2 σ2 e2 s r => h ρ2 H2 σ2 (e.trans e2) s r
 | er c μ st => obtain ⟨C,h1,h2⟩:=h; exact ⟨C,h1,fun ρ2 H2 σ2 ea e2 s r => h2 ρ2 H2 σ2 ea (e.trans e2) s r⟩
 | bad => exact h
noncomputable def G9 (X:Cx) (m:MB):E7:=fun D EX σ H => ∃ μ ρ st,RS (wo X) ρ H μ σ ∧ SR X.K ρ st H ∧ BN (wo X) ρ H D EX (m μ st)
noncomputable def FI {α:Type} (m:Env → ag → bH α):Env → ag → bH α:=fun μ st => match m μ st with
 | .ok v av => .ok v av
 | .err _ _ => .bad
 | .bad => .bad
section
variable {X:Cx} {pos p:Pos} {e:Expr} {es:List Expr} {m:ME} {ms:MA} {f:FN} {x:Str}
theorem Av.imp {t t':Iv} (h:Av X e t) (k:∀ σ H Q EX,t' σ H Q EX → t σ H Q EX):Av X e t':=fun af s σ H Q EX I q => h af s σ H Q EX I (k σ H Q EX q)
theorem Bq.imp {st:Stmt} {t t':E7} (h:Bq X st t) (k:∀ D EX σ H,t' D EX σ H → t D EX σ H):Bq X st t':=fun af s σ H D EX I q => h af s σ H D EX I (k D EX σ H q)
theorem yT {k:Nat} {fa:Addr} {fd:FuncData} {ps:List Str} (F:d8 X.prog X.w X.K X.mg X.base (gT X.prog X.w) k fa fd ps (xn ⟨X.K,X.mg,[]⟩ f)) (hr:cL k X.A) (hg:Gl X x) (hm:X.mg x = some (.ref fa)) (hk:PySem.W.keepIn X.K (.ref fa) = true) (hb:Binds X.K fd ps []) (xE:∀ y,X.fn y = true) (ha:∀ W,PA (X.k7 W) (e :: es) (tL X E0 ms))
  (iK:(x == ("__debug__":Str)) = false:=by decide) (he:starEach (e :: es) X.env = (false,eval e X.env) :: starEach es X.env:=by rfl) (eM:(backTo pos (starEach es X.env)).any (·.1) = false:=by rfl) :
  Av X (.Call (.Name x p) (e :: es) [] pos) (Ke X (ao f (FI ms))):=by
 refine Av.imp (yq F hr hg hm hk hb xE ha iK he eM) ?_
 rintro σ H Q EX ⟨μ,ρ,st,rs,sr,h⟩
 refine ⟨μ,ρ,st,rs,sr,?_⟩
 unfold ao FI at h
 cases z:ms μ st with
 | ok us aN =>
  rw [z] at h
  intro ρ1 H1 vs e1 bo r1
  refine ⟨us,ρ1,aN,r1,bo,?_⟩
  have h':G8 (wo X) (Rl X.K) ρ1 H1 Q EX (f us aN):=G8.mono h e1
  revert h'
  cases f us aN with
  | ok u st2 => exact fun q => q
  | err c st2 => exact fun ⟨C,q1,q2⟩ => ⟨C,q1,fun ρ2 H2 e2 s2 ea => q2 ρ2 H2 ea e2 s2⟩
  | bad => exact fun q => q
 | err c av => rw [z] at h; exact h.elim
 | bad => rw [z] at h; exact h
theorem FJ {σ:L2.St} {H:Hp} {D:Ends} {EX:EK} {k:ai → ag → cf} {μ:Env} {ρ:List Addr} {st:ag} (rs:RS (wo X) ρ H μ σ) (sr:SR X.K ρ st H) (h:BN (wo X) ρ H D EX ((m μ st).sb μ k)) {Q:VK}
  (c:∀ u aN ρ1 H1 x,aC ρ H ρ1 H1 → SR X.K ρ1 aN H1 → Rl X.K ρ1 H1 u x → BN (wo X) ρ1 H1 D EX (k u aN) → Q x H1):Ke X m σ H Q fun cls ea H' => EX cls ea σ H':=by
 refine ⟨μ,ρ,st,rs,sr,?_⟩
 cases z:m μ st with
 | ok u aN => rw [z] at h; exact fun ρ1 H1 x e1 bo r1 => c u aN ρ1 H1 x e1 bo r1 (BN.mono h e1)
 | err c' aN => rw [z] at h; obtain ⟨C,q1,q2⟩:=h; exact ⟨C,q1,fun ρ2 H2 ea e2 s2 => q2 ρ2 H2 σ ea e2 s2 (rs.mono e2)⟩
 | bad => rw [z] at h; exact h
theorem yU (he:Av X e (Ke X m)) (hs:swapsWith e none pos.line X.env = pure false:=by rfl):Bq X (.Expr e pos) (G9 X (bg m)):=by
 refine Bq.imp (yr he hs) ?_
 rintro D EX σ H ⟨μ,ρ,st,rs,sr,h⟩
 exact FJ rs sr h fun u aN ρ1 H1 x e1 bo r1 h1 => h1 ρ1 H1 σ (aC.refl _ _) bo (rs.mono e1)
theorem BO {s1:Stmt} {a:MB} (h:Bq X s1 (G9 X a)):vU X [s1] (G9 X a):=yt h
noncomputable abbrev MH:=Str → MB
noncomputable def IK:MH:=fun _ _ _ => .bad
noncomputable def lL:cf → cf
 | .rt v st => .rt v st
 | _ => .bad
noncomputable def NL (sub:Str → Str → Option Bool) (x:Str) (gJ:MB) (rest:MH):MH:=fun c μ st => match sub c x with
 | some true => lL (gJ μ st)
 | some false => rest c μ st
 | none => .bad
noncomputable def G_ (sub:Str → Str → Option Bool) (x:Str) (i:Nat) (gJ:MB) (rest:MH):MH:=fun c μ st => match sub c x with
 | some true => lL (gJ (μ.set i (some (.exc c))) st)
 | some false => rest c μ st
 | none => .bad
noncomputable def qr (kn:Str → Bool) (body:MB) (h:MH):MB:=fun μ st => match body μ st with
 | .er c μ' av => if kn c = true then h c μ' av else .bad
 | .nx μ' av => .nx μ' av
 | .rt v av => .rt v av
 | .bk μ' av => .bk μ' av
 | .ct μ' av => .ct μ' av
 | .bad => .bad
noncomputable def FK (X:Cx) (h:MH):Br:=fun D EX cls ea σ H => ∃ c C μ ρ st,X.mg c = some (.ref C) ∧ cls = .ref C ∧ RS (wo X) ρ H μ σ ∧ SR X.K ρ st H ∧ BN (wo X) ρ H D EX (h c μ st)
theorem PH.imp {hs:List ExceptHandler} {t t':Br} (h:PH X hs t) (k:∀ D EX cls ea σ H,t' D EX cls ea σ H → t D EX cls ea σ H):PH X hs t':=fun af s σ H D EX ea cls J q => h af s σ H D EX ea cls J (k D EX cls ea σ H q)
theorem FL:PH X [] (FK X IK):=PH.imp E_ fun D EX cls ea σ H q => by
 obtain ⟨c,C,μ,ρ,st,_,_,_,_,h⟩:=q
 exact h
noncomputable def IL (K:PySem.W.Frag) (mg:Str → Option Value) (sub:Str → Str → Option Bool):Prop:=∀ c x b C D,sub c x = some b → mg c = some (.ref C) → mg x = some (.ref D) → PySem.W.kitCls K (.ref C) (.ref D) = some b
theorem uz.pn {K:PySem.W.Frag} {mg:Str → Option Value} {pn Fd:List (Addr × Obj)} (hp:∀ q ∈ pn,q ∈ Fd) {ρ:List Addr} {H:Hp} {u:ai} {v:V} (h:uz ⟨K,mg,pn⟩ ρ H u v):uz ⟨K,mg,Fd⟩ ρ H u v:=by
 cases u with
 | exc c => obtain ⟨a,oe,C,h1,h2,h3⟩:=h; exact ⟨a,oe,C,h1,hp _ h2,h3⟩
 | _ => exact h
theorem RS.pn {K:PySem.W.Frag} {mg:Str → Option Value} {pn Fd:List (Addr × Obj)} (hp:∀ q ∈ pn,q ∈ Fd) {ρ:List Addr} {H:Hp} {μ:Env} {σ:L2.St} (h:RS ⟨K,mg,pn⟩ ρ H μ σ):RS ⟨K,mg,Fd⟩ ρ H μ σ :=
 ⟨h.len,fun i u e => let ⟨v,h1,h2⟩:=h.at_ i u e; ⟨v,h1,h2.pn hp⟩⟩
theorem IM {n:Str} {i:Nat} {C:Addr} {np:Pos} {b₀:Stmt} {gJ:List Stmt} {rest:List ExceptHandler} {sub:Str → Str → Option Bool} {s:MB} {r:MH} (hS:IL X.K X.mg sub) (hN:X.N.Nodup) (hi:X.N[i]? = some n) (hl:X.env.scope.names.lookup n = some .local) (hg:Gl X x) (hm:X.mg x = some (.ref C))
  (hB:PySem.W.subIn X.K (.ref C) (.type "BaseException") = some true) (hs:∀ ea oe,gS (L2.sG X ea oe) (b₀ :: gJ) (tS (L2.sG X ea oe) E0 s)) (hr:PH X rest (FK X r)) (hd:(x == ("__debug__":Str)) = false:=by decide) :
  PH X (.ExceptHandler (some (.Name x np)) (some n) (b₀ :: gJ) pos :: rest) (FK X (G_ sub x i s r)):=by
 refine PH.imp (Iw hN hi hl hg hm hB hs hr hd) ?_
 rintro D EX cls ea σ H ⟨c,C',μ,ρ,st,h1,rfl,rs,sr,h⟩
 unfold G_ at h
 split at h
 ·rename_i e
  refine ⟨true,hS c x true C' C e h1 hm,?_⟩
  rw [if_pos rfl]
  intro oe qf
  have uF:RS (wo (L2.sG X ea oe)) ρ H (μ.set i (some (.exc c))) (σ.set i (some (.ref ea))) :=
   (RS.pn (fun q hq => List.mem_cons_of_mem _ hq) rs).IA i ⟨ea,oe,C',rfl,List.mem_cons_self,h1,qf⟩
  refine ⟨_,ρ,st,uF,sr,?_⟩
  revert h
  cases s (μ.set i (some (.exc c))) st with
  | rt v av => exact fun q => q
  | _ => exact fun q => q.elim
 ·rename_i e
  refine ⟨false,hS c x false C' C e h1 hm,?_⟩
  rw [if_neg Bool.false_ne_true]
  exact ⟨c,C',μ,ρ,st,h1,rfl,rs,sr,h⟩
 ·exact h.elim
noncomputable def Known (mg:Str → Option Value) (kn:Str → Bool):Prop:=∀ c,kn c = true → ∃ C,mg c = some (.ref C)
theorem yV {kn:Str → Bool} {b:MB} {h:MH} (hk:Known X.mg kn) {D:Ends} {EX:EK} {σ:L2.St} {H:Hp} (q:G9 X (qr kn b h) D EX σ H):G9 X b D (fun cls ea σ' H' => FK X h D EX cls ea σ' H') σ H:=by
 obtain ⟨μ,ρ,st,rs,sr,q⟩:=q
 refine ⟨μ,ρ,st,rs,sr,?_⟩
 unfold qr at q
 cases z:b μ st with
 | er c μ' av =>
  rw [z] at q
  dsimp only at q
  split at q
  ·rename_i hc
   obtain ⟨C,hC⟩:=hk c hc
   exact ⟨C,hC,fun ρ' H' σ' ea e s r => ⟨c,C,μ',ρ',av,hC,rfl,r,s,BN.mono q e⟩⟩
  ·exact q.elim
 | _ => rw [z] at q; exact q
noncomputable def oh (m:MB):MB:=fun μ st => match m μ st with
 | .er _ _ _ => .bad
 | .nx μ' av => .nx μ' av
 | .rt v av => .rt v av
 | .bk μ' av => .bk μ' av
 | .ct μ' av => .ct μ' av
 | .bad => .bad
theorem FO {E:XK} {kn:Str → Bool} {body:List Stmt} {h₀:ExceptHandler} {hs:List ExceptHandler} {b:MB} {h:MH} (hk:Known X.mg kn) (dx:DefX X) (hb:vU X body (G9 X b)) (hh:PH X (h₀ :: hs) (FK X h)):PS X (.Try body (h₀ :: hs) [] [] pos) (tS X E (oh (qr kn b h))):=by
 refine PS.imp (E! dx hb hh) ?_
 rintro D σ H ⟨μ,ρ,st,rs,sr,q⟩
 refine yV (EX:=fun _ _ _ _ => False) hk ⟨μ,ρ,st,rs,sr,?_⟩
 unfold oh at q
 revert q
 cases qr kn b h μ st with
 | er c μ' av => exact fun q => q.elim
 | _ => exact fun q => q
noncomputable def wj (sub:Str → Str → Option Bool) (i:Nat) (x:Str):ME:=fun μ st => match μ[i]? with
 | some (some (.exc c)) => (match sub c x with
  | some true => .ok (.bl true) st
  | _ => .bad)
 | _ => .bad
inductive ClsAt (X:Cx) (x:Str):Value → V → Prop
 | own {C:Addr} (hm:X.mg x = some (.ref C)):ClsAt X x (.ref C) (.ref C)
 | blt {n:String} (hm:X.mg x = none) (hv:bootBuiltins x = some (.type n)) (hn:x ≠ "__name__"):ClsAt X x (.type n) (.ty n)
noncomputable def IP (K:PySem.W.Frag) (mg:Str → Option Value) (sub:Str → Str → Option Bool) (x:Str) (cv:Value):Prop:=∀ c C,sub c x = some true → mg c = some (.ref C) → PySem.W.kitOne K (.ref C) cv = some true
theorem FQ {E:XK} {sub:Str → Str → Option Bool} {i:Nat} {n:Str} {cv:Value} {v:V} {q1 q2:Pos} (hc:ClsAt X x cv v) (hS:IP X.K X.mg sub x cv) (hg:Gl X "isinstance") (hm:X.mg "isinstance" = none) (G!:Gl X x)
  (hN:X.N[i]? = some n) (hv:C! X.env.scope n) (hd:(n == ("__debug__":Str)) = false) (pZ:(n == ("__classdict__":Str)) = false) (G?:(x == ("__debug__":Str)) = false)
  (hs:starEach [.Name n q1,.Name x q2] X.env = (false,eval (.Name n q1) X.env) :: starEach [.Name x q2] X.env:=by rfl) (bT:starEach [.Name x q2] X.env = (false,eval (.Name x q2) X.env) :: starEach [] X.env:=by rfl)
  (eM:(backTo pos (starEach [.Name x q2] X.env)).any (·.1) = false:=by rfl):PE X (.Call (.Name "isinstance" p) [.Name n q1,.Name x q2] [] pos) (tE X E (wj sub i x)):=by
 have hx:PE X (.Name x q2) (tC v):=by
  cases hc with
  | own h => exact oK G! h rfl G?
  | blt h1 h2 h3 => exact ug G! h1 h2 rfl h3 G?
 refine PE.imp (i? oY hg hm PyProof.Rows.boot_isinstance (eB (rX (i:=i) hN hv hd pZ) (eB hx jG bT) hs) (by decide) (by decide) hs eM) ?_
 rintro σ H Q ⟨μ,ρ,st,rs,sr,h⟩
 unfold wj at h
 split at h
 ·rename_i c e
  split at h
  ·rename_i es
   obtain ⟨w,e',a,oe,C,rfl,hp,hC,ho⟩:=rs.at_ i _ e
   have hk:=hS c C es hC
   rw [← ho] at hk
   cases hc with
   | own h' => exact ⟨_,e',a,oe,_,.inl ⟨rfl,hk⟩,hp,dF sr h⟩
   | blt h1 h2 h3 => exact ⟨_,e',a,oe,0,.inr ⟨_,rfl,hk⟩,hp,dF sr h⟩
  ·exact h.elim
 ·exact h.elim
end
end MN
namespace MN
open PySem PySem.Spec L2
open PyProof.Rows hiding St
inductive dU (X:Cx) (scope:Scope):List (Str × Addr) → List Nat → Prop
 | nil:dU X scope [] []
 | cons {y:Str} {c:Addr} {j:Nat} {cl:List (Str × Addr)} {caps:List Nat} (sub:X.env.cells.lookup y = some c) (hX:X.N[j]? = some y) (hk:X.env.kindOf y = some .cell ∨ X.env.kindOf y = some .free)
   (hr:(relabel scope X.env).names.lookup y = some .cell ∨ (relabel scope X.env).names.lookup y = some .free) (r:dU X scope cl caps):dU X scope ((y,c) :: cl) (j :: caps)
theorem dU.sub {X:Cx} {scope:Scope} {cl:List (Str × Addr)} {caps:List Nat} (A:dU X scope cl caps):∀ x c,cl.lookup x = some c → X.env.cells.lookup x = some c:=by
 induction A with
 | nil => intro x c h; cases h
 | @cons y c0 _ _ _ sub _ _ _ _ ih =>
  intro x c h
  rw [List.lookup_cons] at h
  by_cases e:x = y
  ·rw [beq_iff_eq.mpr e] at h
   rw [e]; exact sub.trans h
  ·rw [beq_eq_false_iff_ne.mpr e] at h
   exact ih x c h
theorem dU.at_ {X:Cx} {scope:Scope} {cl:List (Str × Addr)} {caps:List Nat} (A:dU X scope cl caps):∀ (i j:Nat) (x:Str),caps[i]? = some j → (cl.map (·.1))[i]? = some x →
  X.N[j]? = some x ∧ (X.env.kindOf x = some .cell ∨ X.env.kindOf x = some .free) ∧ ((relabel scope X.env).names.lookup x = some .cell ∨ (relabel scope X.env).names.lookup x = some .free):=by
 induction A with
 | nil => intro i j x h; cases h
 | cons _ hX hk hr _ ih =>
  intro i j x h h2
  cases i with
  | zero => cases h; cases h2; exact ⟨hX,hk,hr⟩
  | succ i => exact ih i j x h h2
theorem fL:∀ {cl:List (Str × Addr)} {x:Str},x ∈ cl.map (·.1) → ∃ c,cl.lookup x = some c
 | [],x,h => by simp at h
 | (y,c) :: cl,x,h => by
  by_cases e:x = y
  ·exact ⟨c,by simp [e]⟩
  ·have e':(x == y) = false:=by simpa using e
   rw [List.map_cons,List.mem_cons] at h
   rcases h with h | h
   ·exact absurd h e
   ·obtain ⟨d,hd⟩:=fL h
    exact ⟨d,by simp only [List.lookup_cons,e']; exact hd⟩
theorem IQ {X:Cx} {N:List Str} {scope:Scope} {k:Nat} {cl:List (Str × Addr)} {caps:List Nat} (kz:closureFor scope X.env = pure cl) (A:dU X scope cl caps) (has:((relabel scope X.env).names.all fun p => !(p.2 == .cell || p.2 == .free) || (cl.map (·.1)).contains p.1) = true)
  (eT:(scope.names.all fun p => !(p.2 == .cell)) = true) (kind:scope.kind = .function) (names:(scope.names.all fun p => !(p.2 == .local) || scope.names.lookup p.1 == some .local) = true) (len:N.length = k + caps.length) (hN:N.drop k = cl.map (·.1)):m8 X N scope cl k caps where
 kz:=kz
 sub:=A.sub
 has:=fun x h => by
  have m:x ∈ cl.map (·.1):=by
   rcases h with h | h <;> (have m:=PySem.mem_of_lookup h; have z:=List.all_eq_true.mp has _ m; simpa using z)
  exact fL m
 eT:=fun x hx h => by
  have z:=List.all_eq_true.mp eT x hx
  simp [h] at z
 kind:=kind
 names:=fun x hx h => by
  have z:=List.all_eq_true.mp names x hx
  simpa [h] using z
 len:=len
 at_:=fun i j x h1 h2 => A.at_ i j x h1 (by rw [← hN,List.getElem?_drop]; exact h2)
noncomputable def FnAt (P:Program) (w:World) (K:PySem.W.Frag) (mg:Str → Option Value) (base:Heap) (x:Str) (k:Nat) (f:FN):Prop :=
 ∃ fa fd ps,d8 P w K mg base (gT P w) k fa fd ps (xn ⟨K,mg,[]⟩ f) ∧ mg x = some (.ref fa) ∧ PySem.W.keepIn K (.ref fa) = true ∧ Binds K fd ps []
section
variable {X:Cx} {E:XK} {pos p:Pos} {e:Expr} {es:List Expr} {ms:MA} {f:FN} {x:Str} {k j:Nat}
theorem IS (G:FnAt X.prog X.w X.K X.mg X.base x k f) (hr:cL j X.A) (hk:k ≤ j) (hg:Gl X x) (hx:Passes (gT X.prog X.w) X E) (ha:PA X (e :: es) (tL X E ms)) (iK:(x == ("__debug__":Str)) = false:=by decide)
  (he:starEach (e :: es) X.env = (false,eval e X.env) :: starEach es X.env:=by rfl) (eM:(backTo pos (starEach es X.env)).any (·.1) = false:=by rfl):PE X (.Call (.Name x p) (e :: es) [] pos) (tE X E (ao f ms)):=by
 obtain ⟨fa,fd,ps,F,hm,kp,b⟩:=G
 exact BA F (hr.mono hk) hg hm kp b hx ha iK he eM
theorem FR (G:FnAt X.prog X.w X.K X.mg X.base x k f) (hr:cL j X.A) (hk:k ≤ j) (hg:Gl X x) (xE:∀ y,X.fn y = true) (ha:∀ W,PA (X.k7 W) (e :: es) (tL X E0 ms)) (iK:(x == ("__debug__":Str)) = false:=by decide)
  (he:starEach (e :: es) X.env = (false,eval e X.env) :: starEach es X.env:=by rfl) (eM:(backTo pos (starEach es X.env)).any (·.1) = false:=by rfl):Av X (.Call (.Name x p) (e :: es) [] pos) (Ke X (ao f (FI ms))):=by
 obtain ⟨fa,fd,ps,F,hm,kp,b⟩:=G
 exact yT F (hr.mono hk) hg hm kp b xE ha iK he eM
end
section
variable {P:Program} {w:World} {K:PySem.W.Frag} {mg:Str → Option Value} {base:Heap}
theorem FnAt.mk {x:Str} {st:Stmt} {f:Addr} {fd:FuncData} {N ps:List Str} {k:Nat} {body:MB} (F:Au K x x st f fd) (hm:mg x = some (.ref f)) (S:cw N ps (aE st))
  (hb:∀ (kV doc pm:Value) (an:Option Addr) (cZ ct:Value) (us:List Value),us.length = ps.length → bindArgs (PySem.W.fnOf x x (df st) (b! st) (aE st) .none kV doc pm an cZ ct) ⟨us,[]⟩ = pure (ps.zip us))
  (h:∀ (cZ:Value) (A:Around) (outer:List PySem.Env) (s:Shared) (H:Hp) (E:XK),cL k (A.deeper (envOfC x (aE st) s.heap.objs.size f cZ)) →
   gS (eO (gT P w) P w K mg base N x (aE st) f cZ A outer s H E) (b! st) (tS (eO (gT P w) P w K mg base N x (aE st) f cZ A outer s H E) E body)):FnAt P w K mg base x (k + 1) (fJ ps.length N.length body) :=
 ⟨f,fd,ps,o4 F S h,hm,F.kp,F.binds hb⟩
theorem qt {N:List Str} {qual:Str} {scope:Scope} {f:Addr} {cd:Value} {A:Around} {outer:List PySem.Env} {s₀:Shared} {H₀:Hp} {E:XK}:PassesOwn (model P w) (A.deeper (envOfC qual scope s₀.heap.objs.size f cd)) (envOfC qual scope s₀.heap.objs.size f cd) (eO (gT P w) P w K mg base N qual scope f cd A outer s₀ H₀ E).xe :=
 PassesOwn.leaving
theorem sP {N:List Str} {qual:Str} {scope:Scope} {f:Addr} {cd:Value} {A:Around} {outer:List PySem.Env} {s₀:Shared} {H₀:Hp} {E:XK}:Raises (eO (gT P w) P w K mg base N qual scope f cd A outer s₀ H₀ E) E :=
 fun af σ H s h' e cls vs I hx hE => vS I hx hE
theorem Glob.int {x:Str} {i:Int} {t:Tok} (h:mg x = some (.int i t)):Glob K mg x (.int i):=⟨_,.int i,h,⟨t,rfl⟩,fun _ _ => Rl.mkInt i⟩
theorem Glob.str {x z:Str} {t:Tok} (h:mg x = some (.str z t)):Glob K mg x (.str z):=⟨_,.str z,h,⟨t,rfl⟩,fun _ _ => Rl.mkStr z⟩
theorem Glob.ints {x:Str} {a:Addr} {o:Obj} {aH:Array Value} {n:Nat} {ns:List Int} (h:mg x = some (.ref a)) (l:K.lookup a = some o) (hc:o.cls = .type "tuple") (hd:o.data = .seq aH n) (hz:aH.size ≤ sizeLine) (hv:aR (ns.map V.int) aH.toList):Glob K mg x (.mt (ns.map .int)) :=
 ⟨_,.ref a,h,rfl,fun ρ H => Rl.Iz (.inr ⟨o,aH,n,l,hc,hd,hz,hv⟩) (aP.ints ns)⟩
noncomputable def uI (K:PySem.W.Frag):Sp:=fun vs H Q _ => ∃ (a:Addr) (ns:List Int),vs = [.ref a] ∧ A_ H ∧ iC K H a (ns.map V.int) ∧ ns.length ≤ 63 ∧ ∀ H',Q (.bl true) H'
theorem FT {H:Hp} {a:Addr} {c:aT} (k:eU K [a] H c a):SR K [a] [c] H:=by
 refine ⟨rfl,fun n m b h1 h2 _ _ => ?_,fun n c' b h1 h2 => ?_⟩
 ·have p1:=ft h1
  have p2:=ft h2
  simp at p1 p2
  lia
 ·have p1:=ft h1
  simp at p1
  subst p1
  cases h1
  cases h2
  exact k
theorem FU {f:FN} (hf:∀ (c:aT) (ns:List Int),ns.length ≤ 63 → aj [c] 0 = some (ns.map ai.int) → ∃ av,f [.loc 0] [c] = .ok (.bl true) av) {vs:List V} {H:Hp} {Q:VK} {E:XK} (h:uI K vs H Q E):xn ⟨K,mg,[]⟩ f vs H Q E:=by
 obtain ⟨a,ns,rfl,hO,hS,hl,q⟩:=h
 have fin:∀ c:aT,eU K [a] H c a → aj [c] 0 = some (ns.map ai.int) → xn ⟨K,mg,[]⟩ f [.ref a] H Q E:=by
  intro c k hi
  obtain ⟨av,e⟩:=hf c ns hl hi
  refine ⟨[.loc 0],[a],[c],aP.one (Rl.n_ rfl),FT k,?_⟩
  rw [e]
  intro ρ' H' v _ _ r
  rw [r.m_]
  exact q H'
 rcases hS with (h | ⟨o,h⟩) | h
 ·rcases hO a with z | ⟨o,xs,z⟩ <;> (rw [z] at h; cases h)
 ·exact fin (.Fb (ns.map .int)) ⟨o,_,h,aP.ints ns⟩ rfl
 ·exact fin (.mod (ns.map .int)) ⟨_,h,aP.ints ns⟩ rfl
theorem yW {l:PySem.W.OpenLaw} {q:Program} {loose:List Str} {XP:(Str → Option Value) → Heap → Prop} {YP:World → Heap → Prop} {d:DefRec} {K:Params → PySem.W.Frag} {x:Str} {k:Nat} (hn:l.most = some 63) (HX:d.params.defaults = []) (hr:cL k callerA)
  (hY:∀ (w:World) (h:Heap),YP w h → (K w.params).In h)
  (F:∀ (w:World) (mg:Str → Option Value) (fa:Addr) (h:Heap),(K w.params).In h → h.Ns mainGlobals mg → mg d.name = some (.ref fa) →
   ∃ fd:FuncData,(∀ (s:Shared) (u:Value),BindsTo s fd ⟨[u],[]⟩ [(x,u)]) ∧ ∀ base:Heap,(K w.params).In base → base.Ns mainGlobals mg → d8 l.prog w (K w.params) mg base (gT l.prog w) k fa fd [x] (uI (K w.params))) :
  PySem.W.WalkO q loose XP YP l.row.toRowW d [] (fun f vs => PySem.call f vs) :=
 L2.A! (n:=63) (k:=k) (x:=x) (CX:=fun w => gT l.prog w) (sp:=fun w => uI (K w.params)) hn (by decide) HX hr hY F (fun _ _ a ns hl hO hS => ⟨a,ns,rfl,hO,hS,hl,fun _ => rfl⟩) fun _ _ _ _ _ ⟨_,_,_,_,_,z⟩ => z
end
end MN
namespace MN
open PySem PySem.Spec L2
open PyProof.Rows hiding St
theorem iD:bootBuiltins "ValueError" = some (.type "ValueError"):=by decide +kernel
abbrev NM:List Value:=[.type "ValueError",.type "Exception",.type "BaseException",.type "object"]
noncomputable def yX (K:PySem.W.Frag) (mg:Str → Option Value) (x:Str):Prop:=∃ C,mg x = some (.ref C) ∧ PySem.W.excIn K C NM "ValueError.__new__" = true ∧ PySem.W.subIn K (.ref C) (.type "BaseException") = some true
theorem wk {K:PySem.W.Frag} {D:Addr} {t:Value} {cd:ClassData} {b:Bool} (h1:PySem.W.clsIn K D = some cd) (h2:PySem.W.typeIn K (.ref D) = some (.type "type")) (h3:PySem.W.subIn K t (.ref D) = some b):PySem.W.kitCls K t (.ref D) = some b:=by
 show (if ((PySem.W.clsIn K D).isSome && PySem.W.typeIn K (.ref D) == some (.type "type")) = true then PySem.W.subIn K t (.ref D) else none) = some b
 rw [h1,h2,h3]
 rfl
inductive c! (K:PySem.W.Frag) (mg:Str → Option Value):List (Str × Str × Bool) → Prop
 | nil:c! K mg []
 | own {c x:Str} {b:Bool} {C D:Addr} {r:List (Str × Str × Bool)} (h1:mg c = some (.ref C)) (h2:mg x = some (.ref D)) (h3:PySem.W.kitCls K (.ref C) (.ref D) = some b) (hr:c! K mg r):c! K mg ((c,x,b) :: r)
 | blt {c x:Str} {n:String} {C:Addr} {r:List (Str × Str × Bool)} (h1:mg c = some (.ref C)) (h2:mg x = none) (LS:bootBuiltins x = some (.type n)) (h3:PySem.W.kitOne K (.ref C) (.type n) = some true) (hr:c! K mg r):c! K mg ((c,x,true) :: r)
noncomputable def eG (tab:List (Str × Str × Bool)) (c x:Str):Option Bool:=match tab with
 | [] => none
 | (c',x',b) :: r => if c' = c ∧ x' = x then some b else eG r c x
section
variable {K:PySem.W.Frag} {mg:Str → Option Value}
theorem c!.IT {tab:List (Str × Str × Bool)} (S:c! K mg tab):IL K mg (eG tab):=by
 induction S with
 | nil => intro c x b C D h; cases h
 | @own c' x' _ _ _ _ h1 h2 h3 _ ih =>
  intro c x b C D h e1 e2
  rw [eG] at h
  by_cases z:c' = c ∧ x' = x
  ·rw [if_pos z] at h
   cases h
   rw [z.1,e1] at h1; cases h1
   rw [z.2,e2] at h2; cases h2
   exact h3
  ·rw [if_neg z] at h
   exact ih c x b C D h e1 e2
 | @blt c' x' _ _ _ h1 h2 _ _ _ ih =>
  intro c x b C D h e1 e2
  rw [eG] at h
  by_cases z:c' = c ∧ x' = x
  ·rw [z.2,e2] at h2; cases h2
  ·rw [if_neg z] at h
   exact ih c x b C D h e1 e2
theorem c!.LU {tab:List (Str × Str × Bool)} (S:c! K mg tab):∀ (x:Str) (cv:Value),(∃ D,cv = .ref D ∧ mg x = some (.ref D)) ∨ (∃ n,cv = .type n ∧ bootBuiltins x = some (.type n) ∧ mg x = none) → IP K mg (eG tab) x cv:=by
 induction S with
 | nil => intro x cv _ c C h; cases h
 | @own c' x' _ _ _ _ h1 h2 h3 _ ih =>
  intro x cv hx c C h e1
  rw [eG] at h
  by_cases z:c' = c ∧ x' = x
  ·rw [if_pos z] at h
   cases h
   rw [z.1,e1] at h1; cases h1
   rw [z.2] at h2
   rcases hx with ⟨D,rfl,e2⟩ | ⟨n,rfl,_,e2⟩
   ·rw [h2] at e2; cases e2
    unfold PySem.W.kitOne
    split
    ·rfl
    ·exact h3
   ·rw [h2] at e2; cases e2
  ·rw [if_neg z] at h
   exact ih x cv hx c C h e1
 | @blt c' x' _ _ _ h1 h2 LS h3 _ ih =>
  intro x cv hx c C h e1
  rw [eG] at h
  by_cases z:c' = c ∧ x' = x
  ·rw [if_pos z] at h
   cases h
   rw [z.1,e1] at h1; cases h1
   rw [z.2] at h2 LS
   rcases hx with ⟨D,rfl,e2⟩ | ⟨n,rfl,e2,_⟩
   ·rw [h2] at e2; cases e2
   ·rw [LS] at e2; cases e2; exact h3
  ·rw [if_neg z] at h
   exact ih x cv hx c C h e1
noncomputable def Kf (l:List Str) (c:Str):Bool:=l.contains c
end
section
variable {X:Cx} {E:XK} {pos np bO p q1 q2:Pos} {x n:Str} {e₀:Expr} {es:List Expr} {ms:MA} {i:Nat} {b₀:Stmt} {gJ:List Stmt} {rest:List ExceptHandler} {tab:List (Str × Str × Bool)} {s:MB} {r:MH}
theorem wm (hX:Raises X E) (hc:X.calm = true) (h:yX X.K X.mg x) (hg:Gl X x) (ha:PA X (e₀ :: es) (tL X E ms))
  (he:starEach (e₀ :: es) X.env = (false,eval e₀ X.env) :: starEach es X.env:=by rfl) (eM:(backTo bO (starEach es X.env)).any (·.1) = false:=by rfl) (hd:(x == ("__debug__":Str)) = false:=by decide) :
  PS X (.Raise (some (.Call (.Name x np) (e₀ :: es) [] bO)) none pos) (tS X E (dm x ms)):=by
 obtain ⟨C,hm,hq,_⟩:=h
 exact yx hX hc hm hq PySem.F.excBase_ValueError hg ha he eM hd
theorem FV (hS:c! X.K X.mg tab) (hN:X.N.Nodup) (h:yX X.K X.mg x) (hg:Gl X x) (hs:∀ ea oe,gS (L2.sG X ea oe) (b₀ :: gJ) (tS (L2.sG X ea oe) E0 s)) (hr:PH X rest (FK X r)) (hi:X.N[i]? = some n:=by rfl) (hl:X.env.scope.names.lookup n = some .local:=by rfl) (hd:(x == ("__debug__":Str)) = false:=by decide) :
  PH X (.ExceptHandler (some (.Name x np)) (some n) (b₀ :: gJ) pos :: rest) (FK X (G_ (eG tab) x i s r)):=by
 obtain ⟨C,hm,_,hB⟩:=h
 exact IM hS.IT hN hi hl hg hm hB hs hr hd
theorem BP (i:Nat) {T:String} (hS:c! X.K X.mg tab) (NN:X.mg x = none) (hb:bootBuiltins x = some (.type T)) (hg:Gl X "isinstance") (hm:X.mg "isinstance" = none) (G!:Gl X x) (hN:X.N[i]? = some n:=by rfl) (hv:C! X.env.scope n:=by first | exact Or.inl rfl | exact Or.inr (Or.inl rfl)) (hn:x ≠ "__name__":=by decide)
  (hd:(n == ("__debug__":Str)) = false:=by decide) (pZ:(n == ("__classdict__":Str)) = false:=by decide) (G?:(x == ("__debug__":Str)) = false:=by decide)
  (hs:starEach [.Name n q1,.Name x q2] X.env = (false,eval (.Name n q1) X.env) :: starEach [.Name x q2] X.env:=by rfl) (bT:starEach [.Name x q2] X.env = (false,eval (.Name x q2) X.env) :: starEach [] X.env:=by rfl)
  (eM:(backTo pos (starEach [.Name x q2] X.env)).any (·.1) = false:=by rfl):PE X (.Call (.Name "isinstance" p) [.Name n q1,.Name x q2] [] pos) (tE X E (wj (eG tab) i x)) :=
 FQ (.blt NN hb hn) (hS.LU x _ (.inr ⟨T,rfl,hb,NN⟩)) hg hm G! hN hv hd pZ G? hs bT eM
end
end MN
namespace MN
open PySem PySem.Spec L2
open PyProof.Rows hiding St
section
variable {κ:Type} [DecidableEq κ]
noncomputable def o7 (aD:List (κ × ai)) (k:κ):Option ai:=(aD.find? fun kv => decide (kv.1 = k)).map (·.2)
noncomputable def BQ (aD:List (κ × ai)) (k:κ) (v:ai):List (κ × ai) :=
 if (aD.any fun kv => decide (kv.1 = k)) = true then aD.map (fun kv => if kv.1 = k then (kv.1,v) else kv) else aD ++ [(k,v)]
variable {K:PySem.W.Frag} {ρ ρ':List Addr} {H H':Hp}
theorem dO.nil:dO K ρ H ([]:List (κ × ai)) []:=⟨rfl,aP.nil⟩
theorem dO.cons {k:κ} {u:ai} {v:V} {aD:List (κ × ai)} {b?:List (κ × V)} (r:Rl K ρ H u v) (p:dO K ρ H aD b?):dO K ρ H ((k,u) :: aD) ((k,v) :: b?) :=
 ⟨by simp only [List.map_cons,p.1],aP.cons r p.2⟩
theorem dO.bI {k:κ} {u:ai} {aD:List (κ × ai)} {l:List (κ × V)} (p:dO K ρ H ((k,u) :: aD) l):∃ v b?,l = (k,v) :: b? ∧ Rl K ρ H u v ∧ dO K ρ H aD b?:=by
 obtain ⟨h1,h2⟩:=p
 cases l with
 | nil => simp at h1
 | cons x l =>
  obtain ⟨k',v⟩:=x
  simp only [List.map_cons,List.cons.injEq] at h1 h2
  obtain ⟨rfl,h1⟩:=h1
  obtain ⟨v',r,e,q1,q2⟩:=h2.bI
  simp only [List.cons.injEq] at e
  obtain ⟨rfl,rfl⟩:=e
  exact ⟨v,l,rfl,q1,h1,q2⟩
theorem dO.de {l:List (κ × V)} (p:dO K ρ H ([]:List (κ × ai)) l):l = []:=by
 have:=p.1
 cases l with
 | nil => rfl
 | cons => simp at this
theorem dO.mono {aD:List (κ × ai)} {l:List (κ × V)} (p:dO K ρ H aD l) (e:aC ρ H ρ' H'):dO K ρ' H' aD l:=⟨p.1,aP.mono e _ _ p.2⟩
theorem dO.val (k:κ):∀ {aD:List (κ × ai)} {l:List (κ × V)},dO K ρ H aD l → (o7 aD k = none ∧ gP l k = none) ∨ ∃ u v,o7 aD k = some u ∧ gP l k = some v ∧ Rl K ρ H u v
 | [],l,p => by rw [p.de]; exact .inl ⟨rfl,rfl⟩
 | (k',u) :: aD,l,p => by
  obtain ⟨v,l',rfl,r,p'⟩:=p.bI
  by_cases e:k' = k
  ·exact .inr ⟨u,v,by simp [o7,e],by simp [gP,e],r⟩
  ·rcases dO.val k p' with ⟨h1,h2⟩ | ⟨u',v',h1,h2,h3⟩
   ·exact .inl ⟨by simpa [o7,e] using h1,by simpa [gP,e] using h2⟩
   ·exact .inr ⟨u',v',by simpa [o7,e] using h1,by simpa [gP,e] using h2,h3⟩
theorem dO.any (k:κ):∀ {aD:List (κ × ai)} {l:List (κ × V)},dO K ρ H aD l → (aD.any fun kv => decide (kv.1 = k)) = l.any fun kv => decide (kv.1 = k)
 | [],l,p => by rw [p.de]; rfl
 | (k',u) :: aD,l,p => by
  obtain ⟨v,l',rfl,r,p'⟩:=p.bI
  simp only [List.any_cons,dO.any k p']
theorem dO.x? (k:κ) {u:ai} {v:V} (r:Rl K ρ H u v):∀ {aD:List (κ × ai)} {l:List (κ × V)},dO K ρ H aD l → dO K ρ H (aD.map fun kv => if kv.1 = k then (kv.1,u) else kv) (l.map fun kv => if kv.1 = k then (kv.1,v) else kv)
 | [],l,p => by rw [p.de]; exact dO.nil
 | (k',u') :: aD,l,p => by
  obtain ⟨v',l',rfl,r',p'⟩:=p.bI
  simp only [List.map_cons]
  by_cases e:k' = k
  ·rw [if_pos e,if_pos e]; exact dO.cons r (dO.x? k r p')
  ·rw [if_neg e,if_neg e]; exact dO.cons r' (dO.x? k r p')
theorem dO.snoc {k:κ} {u:ai} {v:V} (r:Rl K ρ H u v):∀ {aD:List (κ × ai)} {l:List (κ × V)},dO K ρ H aD l → dO K ρ H (aD ++ [(k,u)]) (l ++ [(k,v)])
 | [],l,p => by rw [p.de]; exact dO.cons r dO.nil
 | (k',u') :: aD,l,p => by
  obtain ⟨v',l',rfl,r',p'⟩:=p.bI
  exact dO.cons r' (dO.snoc r p')
theorem dO.put (k:κ) {u:ai} {v:V} (r:Rl K ρ H u v) {aD:List (κ × ai)} {l:List (κ × V)} (p:dO K ρ H aD l):dO K ρ H (BQ aD k u) (putK l k v):=by
 unfold BQ putK
 rw [p.any k]
 split
 ·exact p.x? k r
 ·exact p.snoc r
end
noncomputable def qu:ai → Option cq
 | .int i => some (.inl i)
 | .str x => some (.inr x)
 | _ => none
noncomputable def keysOf:List ai → Option (List cq)
 | [] => some []
 | u :: us => match qu u,keysOf us with
  | some k,some ks => some (k :: ks)
  | _,_ => none
noncomputable def sQ:ai → Option (List cq)
 | .tup us => keysOf us
 | _ => none
section
variable {K:PySem.W.Frag} {ρ:List Addr} {H:Hp}
theorem uJ {u:ai} {v:V} {k:cq} (r:Rl K ρ H u v) (h:qu u = some k):v = kV k:=by
 cases u with
 | int i => cases h; exact r.bA
 | str x => cases h; exact r.gQ
 | _ => cases h
theorem qv:∀ {us:List ai} {vs:List V} {ks:List cq},aP K ρ H us vs → keysOf us = some ks → vs = ks.map kV
 | [],vs,ks,r,h => by cases h; exact r.de
 | u :: us,vs,ks,r,h => by
  obtain ⟨v,r',rfl,h2,h3⟩:=r.bI
  unfold keysOf at h
  split at h
  ·rename_i k Qk e1 e2
   cases h
   rw [uJ h2 e1,qv h3 e2]; rfl
  ·cases h
theorem yY {u:ai} {v:V} {ks:List cq} (r:Rl K ρ H u v) (h:sQ u = some ks):∃ b,v = .ref b ∧ H b = some (.tup (ks.map kV)):=by
 cases u with
 | tup us =>
  obtain ⟨b,vs,rfl,hb,rb⟩:=r.Fc
  rw [qv rb h] at hb
  exact ⟨b,rfl,hb⟩
 | _ => cases h
end
noncomputable def qw (st:ag) (d k:ai):Option (Option ai):=match d with
 | .loc n => match st[n]? with
  | some (.dK aD) => (qu k).map fun q => o7 aD q
  | some (.dT aD) => (sQ k).map fun q => o7 aD q
  | _ => none
 | _ => none
theorem wq {K:PySem.W.Frag} {ρ:List Addr} {st:ag} {H:Hp} {d k:ai} {x y:V} {o:Option ai} (sr:SR K ρ st H) (rd:Rl K ρ H d x) (rk:Rl K ρ H k y) (h:qw st d k = some o) :
  ∃ a o',x = .ref a ∧ mZ H a y o' ∧ Ny H a ∧ ((o = none ∧ o' = none) ∨ ∃ u v,o = some u ∧ o' = some v ∧ Rl K ρ H u v):=by
 cases d with
 | loc n =>
  obtain ⟨a,rfl,ha⟩:=rd.cN
  unfold qw at h
  dsimp only at h
  split at h
  ·rename_i aD e
   obtain ⟨l,hl,p⟩:=sr.cell n _ a e ha
   cases z:qu k with
   | none => rw [z] at h; cases h
   | some q =>
    rw [z] at h
    cases h
    have:=uJ rk z
    subst this
    exact ⟨a,gP l q,rfl,mZ.k hl,.inl ⟨l,.inl hl⟩,p.val q⟩
  ·rename_i aD e
   obtain ⟨l,hl,p⟩:=sr.cell n _ a e ha
   cases z:sQ k with
   | none => rw [z] at h; cases h
   | some q =>
    rw [z] at h
    cases h
    obtain ⟨b,rfl,hb⟩:=yY rk z
    exact ⟨a,gP l q,rfl,mZ.t hl hb,.inr ⟨l,.inl hl⟩,p.val q⟩
  ·cases h
 | _ => cases h
noncomputable def gX:ME:=fun _ st => .ok (.loc st.length) (st ++ [.dK []])
noncomputable def kh:F2:=fun d k st => match qw st d k with
 | some (some v) => .ok v st
 | _ => .bad
section
variable {X:Cx} {E:XK} {pos pos' apos bO:Pos} {o i e f value:Expr} {md mk mv mx:ME}
theorem qy {K:PySem.W.Frag} {ρ:List Addr} {st:ag} {H:Hp} (sr:SR K ρ st H) {p:Addr} (hp:H p = none) {ob:HO} {c:aT} (k:eU K (ρ ++ [p]) (upd H p ob) c p) :
  aC ρ H (ρ ++ [p]) (upd H p ob) ∧ SR K (ρ ++ [p]) (st ++ [c]) (upd H p ob) ∧ Rl K (ρ ++ [p]) (upd H p ob) (.loc st.length) (.ref p):=by
 refine ⟨aC.snoc p (bN hp),sr.alloc hp k,Rl.n_ ?_⟩
 rw [← sr.len,List.getElem?_append_right (Nat.le_refl _),Nat.sub_self]
 rfl
theorem yZ:PE X (.Dict [] [] pos) (tE X E gX):=by
 refine PE.imp ye ?_
 rintro σ H Q ⟨μ,ρ,st,rs,sr,h⟩ p hp
 obtain ⟨k1,k2,k3⟩:=qy (c:=.dK []) sr hp ⟨[],a8,dO.nil⟩
 exact h _ _ _ k1 k2 k3
theorem BR (hu:X.A.units + 64 < cLine) (ho:PE X o (tE X E md)) (hi:PE X i (tE X E mk)) (hs:EV i:=by exact fun _ _ => rfl):PE X (.Subscript o i pos) (tE X E (ah kh md mk)):=by
 refine PE.imp (Bb (by lia) ho hi hs) ?_
 rintro σ H Q ⟨μ,ρ,st,rs,sr,h⟩
 refine go μ ρ st rs sr h fun d aN ρ1 H1 x e1 bo r1 h1 => ?_
 refine go μ ρ1 aN (rs.mono e1) bo h1 fun k st2 ρ2 H2 y e2 kg r2 h2 => ?_
 unfold kh at h2
 split at h2
 ·rename_i u hl
  obtain ⟨a,o',rfl,hd,_,hv⟩:=wq kg (Rl.mono e2 _ _ r1) r2 hl
  rcases hv with ⟨z,_⟩ | ⟨u',v,z,rfl,rv⟩
  ·cases z
  ·cases z
   exact ⟨a,v,rfl,hd,h2 ρ2 H2 v (aC.refl _ _) kg rv⟩
 ·exact h2.elim
end
section
variable {X:Cx} {E:XK} {es:List Expr} {ms:MA} {pos:Pos}
theorem FW {a b:Expr} {ma mb:ME} (ha:PE X a (tE X E ma)) (hb:PE X b (tE X E mb)) (hs:oQ b:=by exact fun _ _ => rfl):PE X (.Subscript a b pos) (tE X E (ah bR ma mb)):=IF LL ha hb hs
end
end MN
namespace MN
open PySem PySem.Spec L2
open PyProof.Rows hiding St
noncomputable def o8 (us:List ai) (lo hi:Option Int):List ai:=(us.drop (HT.dN us.length 0 lo)).take (HT.dN us.length us.length hi - HT.dN us.length 0 lo)
theorem aP.cut {K:PySem.W.Frag} {ρ:List Addr} {H:Hp} {us:List ai} {vs:List V} (r:aP K ρ H us vs) (lo hi:Option Int):aP K ρ H (o8 us lo hi) (oN vs lo hi):=by
 unfold o8 oN
 rw [r.length]
 exact aP.take _ (aP.drop _ r)
noncomputable abbrev MO:=Env → ag → bH (Option Int)
noncomputable abbrev RO:List Addr → Hp → Option Int → Option Int → Prop:=fun _ _ a b => b = a
noncomputable abbrev Kg (X:Cx) (E:XK) (m:MO):TO:=tG (wo X) E RO m
noncomputable def fV:MO:=fun _ st => .ok none st
noncomputable def fB (m:ME):MO:=fun μ st => (m μ st).bind fun v av => match v with
 | .int i => .ok (some i) av
 | _ => .bad
noncomputable def DA (lo hi:Option Int):ai → ag → bH ai
 | .tup us,st => if HT.dN us.length 0 lo = 0 ∧ HT.dN us.length us.length hi = us.length then .bad else .ok (.tup (o8 us lo hi)) st
 | .loc n,st => match aj st n with
  | some us => .ok (.loc st.length) (st ++ [.lst (o8 us lo hi)])
  | none => .bad
 | _,_ => .bad
noncomputable def uK (a:ME) (lo hi:MO):ME:=fun μ st => (a μ st).bind fun x aN => (lo μ aN).bind fun l st2 => (hi μ st2).bind fun h mR => DA l h x mR
section
variable {X:Cx} {E:XK} {pos p2:Pos} {e:Expr} {m:ME}
theorem PO.imp {e:Option Expr} {t t':TO} (h:PO X e t) (k:∀ σ H Q,t' σ H Q → t σ H Q):PO X e t':=fun af s σ H Q I q => h af s σ H Q I (k σ H Q q)
theorem BS:PO X none (Kg X E fV):=PO.imp AY fun σ H Q ⟨μ,ρ,st,rs,sr,h⟩ => h ρ H none (aC.refl _ _) sr rfl
theorem BU (h:PE X e (tE X E m)):PO X (some e) (Kg X E (fB m)):=by
 refine PO.imp (AZ h) ?_
 rintro σ H Q ⟨μ,ρ,st,rs,sr,h⟩
 refine go μ ρ st rs sr h fun u aN ρ1 H1 x e1 bo r1 h1 => ?_
 cases u with
 | int i => exact ⟨i,r1.bA,h1 ρ1 H1 (some i) (aC.refl _ _) bo rfl⟩
 | _ => exact h1.elim
theorem IU {lo hi:Option Expr} {ml mh:MO} (he:PE X e (tE X E m)) (hl:PO X lo (Kg X E ml)) (hh:PO X hi (Kg X E mh)):PE X (.Subscript e (.Slice lo hi none p2) pos) (tE X E (uK m ml mh)):=by
 refine PE.imp (xW (Di.or A5 EG) he hl hh) ?_
 rintro σ H Q ⟨μ,ρ,st,rs,sr,h⟩
 refine go μ ρ st rs sr h fun u aN ρ1 H1 x e1 bo r1 h1 => ?_
 refine go (R1:=RO) μ ρ1 aN (rs.mono e1) bo h1 fun l st2 ρ2 H2 l' e2 kg r2 h2 => ?_
 cases r2
 refine go (R1:=RO) μ ρ2 st2 ((rs.mono e1).mono e2) kg h2 fun k mR ρ3 H3 k' e3 G7 r3 h3 => ?_
 cases r3
 have ru:=Rl.mono e3 _ _ (Rl.mono e2 _ _ r1)
 cases u with
 | tup us =>
  obtain ⟨a,vs,rfl,ha,ra⟩:=ru.d9
  unfold DA at h3
  dsimp only at h3
  split at h3
  ·exact h3.elim
  ·rename_i hz
   refine .inr ⟨a,vs,rfl,ha,by rw [← ra.length]; exact hz,fun p hp => ?_⟩
   have s:=bN (o:=.tup (oN vs l k)) hp
   exact h3 ρ3 _ _ (aC.same s) (G7.grow s) (Rl.lD a8 (aP.mono (aC.same s) _ _ (ra.cut l k)))
 | loc n =>
  obtain ⟨a,rfl,ha⟩:=ru.cN
  cases z:aj mR n with
  | none => simp only [DA,z] at h3; exact h3.elim
  | some us =>
   simp only [DA,z] at h3
   obtain ⟨vs,hs,rv⟩:=aO G7 z ha
   refine .inl ⟨a,vs,rfl,hs,fun p hp => ?_⟩
   obtain ⟨k1,k2,k3⟩:=fu G7 (rv.cut l k) hp
   exact h3 _ _ _ k1 k2 k3
 | _ => exact h3.elim
end
noncomputable def O1:FM
 | .loc n,[],st => match st[n]? with
  | some (.lst us) => match us[us.length - 1]? with
   | some u => .ok u (st.set n (.lst us.dropLast))
   | none => .bad
  | _ => .bad
 | _,_,_ => .bad
noncomputable def gw:FM
 | .loc n,[.loc m],st => match st[n]?,st[m]? with
  | some (.lst us),some (.lst ws) => if us.length + ws.length ≤ sizeLine then .ok .bE (st.set n (.lst (us ++ ws))) else .bad
  | _,_ => .bad
 | _,_,_ => .bad
section
variable {X:Cx} {E:XK} {o:Expr} {mo:ME} {apos bO:Pos} {f:FM}
theorem sR:xZ X "list.extend" (LR (wo X) E gw):=by
 refine xZ.imp vL ?_
 rintro x xs H Q ⟨ρ,st,u,us,sr,r1,r2,h⟩
 unfold gw at h
 split at h
 ·rename_i n m
  obtain ⟨a,rfl,ha⟩:=r1.cN
  obtain ⟨y,rfl,ry⟩:=r2.oZ
  obtain ⟨b,rfl,hb⟩:=ry.cN
  split at h
  ·rename_i us ws hw NO
   split at h
   ·rename_i hz
    obtain ⟨vs,hH,rv⟩:=sr.cell n _ a hw ha
    obtain ⟨zs,hZ,rz⟩:=sr.cell m _ b NO hb
    refine ⟨a,b,vs,zs,rfl,rfl,hH,hZ,by rw [← rv.length,← rz.length]; exact hz,?_⟩
    obtain ⟨k1,k2⟩:=uH sr hw ha hH (rv.append rz)
    exact h ρ _ _ k1 k2 Rl.uw
   ·exact h.elim
  ·exact h.elim
 ·exact h.elim
end
noncomputable def ki (hi:Int) (n:Nat):List ai:=(List.range n).map fun (i:Nat) => ai.int (hi - (i:Int))
theorem y0 {K:PySem.W.Frag} {ρ:List Addr} {H:Hp} (lo:Int) (n:Nat):Dy K ρ H (ki lo n,fun _ => True) (J! lo n):=by
 intro ρ' av H' e sr g i
 refine ⟨fun u hu => ?_,fun hi => ?_⟩
 ·have hi:i < n:=by
   have:=ft hu
   simpa [ki] using this
  refine ⟨hi,fun x G5 y => ?_⟩
  obtain ⟨rfl,rfl⟩:=y
  have e:u = ai.int (lo - (i:Int)):=by
   simp only [ki,List.getElem?_map] at hu
   rw [List.getElem?_range hi] at hu
   exact (Option.some.inj hu).symm
  subst e
  exact ⟨aC.refl _ _,sr,Rl.mkInt _⟩
 ·show n ≤ i
  simpa [ki] using hi
noncomputable def y9 (vs:List ai) (av:ag):bH Itm:=match vs with
 | [.int i,.int j,.int k] => if k = -1 ∧ -(2 ^ 62) ≤ i ∧ i < 2 ^ 62 ∧ -(2 ^ 62) ≤ j ∧ j < 2 ^ 62 then .ok (ki i (i - j).toNat,fun _ => True) av else .bad
 | _ => .bad
noncomputable def lO (m:MA):MI:=fun μ st => (m μ st).bind y9
section
variable {X:Cx} {E:XK} {tg:Expr} {pos p:Pos}
theorem BV {a b c:Expr} {m:MA} (hg:Gl X "range") (hm:X.mg "range" = none) (ha:PA X [a,b,c] (tL X E m)) (hs:starEach [a,b,c] X.env = [(false,eval a X.env),(false,eval b X.env),(false,eval c X.env)]:=by rfl) (bT:starEach [b,c] X.env = [(false,eval b X.env),(false,eval c X.env)]:=by rfl) :
  PI X tg (.Call (.Name "range" p) [a,b,c] [] pos) (tI X E (lO m)):=by
 refine PI.imp (Bv hg hm ha hs bT) ?_
 rintro σ H R ⟨μ,ρ,st,rs,sr,h⟩
 refine go (R1:=aP X.K) μ ρ st rs sr h fun us aN ρ1 H1 xs e1 bo r1 h1 => ?_
 unfold y9 at h1
 split at h1
 ·rename_i i j k
  obtain ⟨v,r',rfl,rv,rr⟩:=r1.bI
  obtain ⟨w,z,rfl,vH,rz⟩:=rr.G0
  split at h1
  ·rename_i hz
   obtain ⟨rfl,hz⟩:=hz
   exact ⟨i,j,by rw [rv.bA,vH.bA,rz.bA],hz,h1 ρ1 H1 _ (aC.refl _ _) bo (y0 i _)⟩
  ·exact h1.elim
 ·exact h1.elim
end
noncomputable def intsOf:List ai → Option (List Int)
 | [] => some []
 | .int i :: us => (intsOf us).map (i :: ·)
 | _ :: _ => none
noncomputable def sumF:FN
 | [.loc n],st => match aj st n with
  | some us => match intsOf us with
   | some ns => .ok (.int ns.sum) st
   | none => .bad
  | none => .bad
 | _,_ => .bad
theorem lQ:∀ {us:List ai} {ns:List Int},intsOf us = some ns → us = ns.map ai.int
 | [],ns,h => by cases h; rfl
 | .int i :: us,ns,h => by
  unfold intsOf at h
  cases z:intsOf us with
  | none => rw [z] at h; cases h
  | some ms => rw [z] at h; cases h; rw [List.map_cons,← lQ z]
theorem oj (ns:List Int):intsOf (ns.map ai.int) = some ns:=by
 induction ns with
 | nil => rfl
 | cons n ns ih => simp only [List.map_cons,intsOf,ih]; rfl
section
variable {X:Cx} {E:XK}
theorem aP.DB {K:PySem.W.Frag} {ρ:List Addr} {H:Hp}:∀ {ns:List Int} {vs:List V},aP K ρ H (ns.map ai.int) vs → vs = ns.map V.int
 | [],vs,r => r.de
 | n :: ns,vs,r => by
  obtain ⟨v,r',rfl,h1,h2⟩:=r.bI
  rw [h1.bA,aP.DB h2]; rfl
theorem wt (hh:X.A.handled = none):aU X (.builtin "sum") (cM (wo X) E sumF):=by
 refine aU.imp (vX hh) ?_
 rintro xs H Q ⟨ρ,st,us,sr,r,h⟩
 unfold sumF at h
 split at h
 ·rename_i n
  obtain ⟨v,rfl,r1⟩:=r.oZ
  obtain ⟨a,rfl,ha⟩:=r1.cN
  split at h
  ·rename_i ws hw
   split at h
   ·rename_i ns hn
    obtain ⟨vs,hs,rv⟩:=aO sr hw ha
    rw [lQ hn] at rv
    rw [rv.DB] at hs
    exact ⟨a,ns,rfl,hs,bu sr h⟩
   ·exact h.elim
  ·exact h.elim
 ·exact h.elim
end
section
variable {X:Cx} {E:XK} {o e:Expr} {es:List Expr} {mo:ME} {ms:MA} {apos bO:Pos}
theorem wu (ho:PE X o (tE X E mo)) (ha:PA X (e :: es) (tL X E ms))
  (eQ:attributeBase o "append" X.env (eval o X.env) = eval o X.env:=by rfl)
  (sA:((backTo bO (starEach (e :: es) X.env)).all (fun x => !x.1) && (backToKw bO (keywordEach [] X.env)).all (fun x => x.1.isSome)
   && decide ((e :: es).length + ([]:List Keyword).length + (if ([]:List Keyword).isEmpty then 0 else 1) < 30)) = true:=by rfl)
  (eR:(apos.endLine == bO.line) = true:=by rfl) (hs:starEach (e :: es) X.env = (false,eval e X.env) :: starEach es X.env:=by rfl) (iL:(backTo bO (starEach es X.env)).any (·.1) = false:=by rfl) :
  PE X (.Call (.Attribute o "append" apos) (e :: es) [] bO) (tE X E (ik c6 mo ms)):=yS PySem.F.slot_list_append PySem.F.type_list_append sO ho ha eQ sA eR hs iL
theorem wx (ho:PE X o (tE X E mo)) (ha:PA X (e :: es) (tL X E ms))
  (eQ:attributeBase o "extend" X.env (eval o X.env) = eval o X.env:=by rfl)
  (sA:((backTo bO (starEach (e :: es) X.env)).all (fun x => !x.1) && (backToKw bO (keywordEach [] X.env)).all (fun x => x.1.isSome)
   && decide ((e :: es).length + ([]:List Keyword).length + (if ([]:List Keyword).isEmpty then 0 else 1) < 30)) = true:=by rfl)
  (eR:(apos.endLine == bO.line) = true:=by rfl) (hs:starEach (e :: es) X.env = (false,eval e X.env) :: starEach es X.env:=by rfl) (iL:(backTo bO (starEach es X.env)).any (·.1) = false:=by rfl) :
  PE X (.Call (.Attribute o "extend" apos) (e :: es) [] bO) (tE X E (ik gw mo ms)):=yS PySem.F.slot_list_extend PySem.F.type_list_extend sR ho ha eQ sA eR hs iL
end
end MN
namespace MN
open PySem PySem.Spec L2
open PyProof.Rows hiding St
theorem IV {X:Cx} {N:List Str} {scope:Scope} {k:Nat} {cl cl':List (Str × Addr)} {caps caps':List Nat} (kz:closureFor scope X.env = pure cl') (A:dU X scope cl caps) (B:dU X scope cl' caps') (has:((relabel scope X.env).names.all fun p => !(p.2 == .cell || p.2 == .free) || (cl'.map (·.1)).contains p.1) = true)
  (eT:(scope.names.all fun p => !(p.2 == .cell)) = true) (kind:scope.kind = .function) (names:(scope.names.all fun p => !(p.2 == .local) || scope.names.lookup p.1 == some .local) = true) (len:N.length = k + caps.length) (hN:N.drop k = cl.map (·.1)):m8 X N scope cl' k caps where
 kz:=kz
 sub:=B.sub
 has:=fun x h => by
  have m:x ∈ cl'.map (·.1):=by
   rcases h with h | h <;> (have m:=PySem.mem_of_lookup h; have z:=List.all_eq_true.mp has _ m; simpa using z)
  exact fL m
 eT:=fun x hx h => by
  have z:=List.all_eq_true.mp eT x hx
  simp [h] at z
 kind:=kind
 names:=fun x hx h => by
  have z:=List.all_eq_true.mp names x hx
  simpa [h] using z
 len:=len
 at_:=fun i j x h1 h2 => A.at_ i j x h1 (by rw [← hN,List.getElem?_drop]; exact h2)
theorem len0 {C:List Value → Prop} (h:C []) (us:List Value) (hl:us.length = 0):C us:=by
 rw [List.eq_nil_of_length_eq_zero hl]
 exact h
theorem y_ {C:List Value → Prop} {n:Nat} (h:∀ a (r:List Value),r.length = n → C (a :: r)) (us:List Value) (hl:us.length = n + 1):C us:=by
 cases us with
 | nil => cases hl
 | cons a r => exact h a r (Nat.succ.inj hl)
theorem IW {C:List Value → Prop} (h:∀ a,C [a]):∀ us:List Value,us.length = 1 → C us:=y_ fun a => len0 (C:=fun r => C (a :: r)) (h a)
theorem wy {C:List Value → Prop} (h:∀ a b,C [a,b]):∀ us:List Value,us.length = 2 → C us:=y_ fun a => IW (C:=fun r => C (a :: r)) (h a)
theorem BW {C:List Value → Prop} (h:∀ a b c,C [a,b,c]):∀ us:List Value,us.length = 3 → C us:=y_ fun a => wy (C:=fun r => C (a :: r)) (h a)
theorem BX {C:List Value → Prop} (h:∀ a b c d,C [a,b,c,d]):∀ us:List Value,us.length = 4 → C us:=y_ fun a => BW (C:=fun r => C (a :: r)) (h a)
theorem FX {C:List Value → Prop} (h:∀ a b c d e,C [a,b,c,d,e]):∀ us:List Value,us.length = 5 → C us:=y_ fun a => BX (C:=fun r => C (a :: r)) (h a)
end MN
namespace L2
open PySem PySem.Spec PyProof.Rows PySem.W Builtin Builtin.ObjectAttr Builtin.Getset_descriptor PySem.Calls
noncomputable def o9 (K:PySem.W.Frag) (C:Addr):Bool:=findIn K (.ref C) "__getattribute__" == some (some (.builtin "BaseException.__getattribute__")) && (findIn K (.ref C) "__getattr__" == some none) && (findIn K (.ref C) "__class__" == some (some (.builtin "object.__class__"))) &&
 (mroIn K C (.type "object") == some true) && (mroIn K C (.type "BaseException") == some true) && (specialIn K (.builtin "object.__class__") "__get__" == some (some (.builtin "getset_descriptor.__get__"))) && (takesIn K (.builtin "object.__class__") == some true) && (kitCls K (.ref C) (.ref C) == some true)
structure gY (K:PySem.W.Frag) (C:Addr):Prop where
 ga:findIn K (.ref C) "__getattribute__" = some (some (.builtin "BaseException.__getattribute__"))
 gh:findIn K (.ref C) "__getattr__" = some none
 gc:findIn K (.ref C) "__class__" = some (some (.builtin "object.__class__"))
 mo:mroIn K C (.type "object") = some true
 mb:mroIn K C (.type "BaseException") = some true
 sg:specialIn K (.builtin "object.__class__") "__get__" = some (some (.builtin "getset_descriptor.__get__"))
 tk:takesIn K (.builtin "object.__class__") = some true
 kc:kitCls K (.ref C) (.ref C) = some true
theorem wz {K:PySem.W.Frag} {C:Addr} (h:o9 K C = true):gY K C:=by
 unfold o9 at h
 simp only [Bool.and_eq_true] at h
 obtain ⟨⟨⟨⟨⟨⟨⟨a,b⟩,c⟩,d⟩,e⟩,f⟩,g⟩,i⟩:=h
 exact ⟨beq_iff_eq.mp a,beq_iff_eq.mp b,beq_iff_eq.mp c,beq_iff_eq.mp d,beq_iff_eq.mp e,beq_iff_eq.mp f,beq_iff_eq.mp g,beq_iff_eq.mp i⟩
section
variable {prog:Program} {w:World} {A:Around} {E:Value → Shared → Prop} {s:Shared} {K:PySem.W.Frag} {x C:Addr} {ox:Obj} {R:Result → Shared → Prop}
theorem uL {M:Model} {h:Heap} (hx:h.get? x = some ox) (hc:ox.cls = .ref C):Looks M h (typeOf (.ref x)) (.ref C):=hc ▸ (Looks.ld hx).andThen .now
theorem sS {tp:Value} (X:K.In s.heap) (hx:s.heap.get? x = some ox) (hc:ox.cls = .ref C) (hm:mroIn K C (.type "object") = some true)
  (h:R (.ok (.ret (.ref C))) s):codeAny (model prog w) A (.call (.builtin "getset_descriptor.__get__") ⟨[.builtin "object.__class__",.ref x,tp],[]⟩) R s:=by
 obtain ⟨hh,g,dr,t,os⟩:=s
 have L0:=uL (M:=model prog w) hx hc
 have L1:=looks_mroIn (M:=model prog w) X hm
 refine codeAny_call_builtin KF.slot_gs.plain KF.entry_gs (KF.slot_gs.check _ _ _ _ _ _ _ _ KF.type_class (KF.args_gs _ _ _) ?_)
 unfold Builtin.«getset_descriptor.__get__» descrGet
 rw [dga_obj]
 refine wpAny_bind (wpAny_pure ?_)
 unfold descrGetter descrCheckInstance descrNameAndClass isInstance
 simp only [KF.owner_class]
 repeat lk
 refine ⟨Code.quiet_builtin _ (by decide +kernel),codeAny_builtin KF.entry_class ?_⟩
 unfold Builtin.«object.__class__» shownTypeOf
 repeat lk
 exact h
theorem qz {M:Model} {h:Heap} (X:K.In h) (q:gY K C):Looks M h (find (.ref x) (.ref C) "__class__") (.bind (.builtin "getset_descriptor.__get__") (.builtin "object.__class__")):=by
 have L1:=looks_findIn (M:=M) X q.gc
 have L2:Looks M h (getOf (some (.builtin "object.__class__"))) (some (.builtin "getset_descriptor.__get__")):=looks_specialIn X q.sg
 have L3:=looks_takesIn (M:=M) X q.tk
 refine L1.andThen (L2.andThen ?_)
 exact (show Looks M h (dataDescriptor? (some (.builtin "object.__class__")) (some (.builtin "getset_descriptor.__get__"))) (some (.builtin "getset_descriptor.__get__",.builtin "object.__class__")) from L3.andThen .now).andThen (Looks.tag .now)
theorem qA {tk:Tok} (X:K.In s.heap) (hx:s.heap.get? x = some ox) (hc:ox.cls = .ref C) (q:gY K C) (h:R (.ok (.ret (.ref C))) s) :
  codeAny (model prog w) A (.call (.builtin "BaseException.__getattribute__") ⟨[.ref x,.str "__class__" tk],[]⟩) R s:=by
 obtain ⟨hh,g,dr,t,os⟩:=s
 have L0:=uL (M:=model prog w) hx hc
 have L1:=looks_mroIn (M:=model prog w) X q.mb
 have L2:=qz (M:=model prog w) (x:=x) X q
 refine codeAny_call_builtin PySem.F.attrBase_ValueError.ga.plain PySem.F.entry_bexc_ga ?_
 have hk:builtinKind "BaseException.__getattribute__" = some .slot:=by decide +kernel
 have FY:splitId "BaseException.__getattribute__" = some ("BaseException","__getattribute__"):=by decide +kernel
 have ha:=PySem.F.args_bexc_ga (.ref x) (.str "__class__" tk)
 simp only [checkBuiltinCall,hk,FY]
 refine wpAny_bind ?_
 unfold isInstance
 refine wpAny_bind (L0.at (L1.at ?_))
 simp only [Bool.not_true,Bool.false_eq_true,if_false]
 unfold argsOk at ha
 generalize Manifest.signature? "BaseException.__getattribute__" = sg at ha ⊢
 cases sg
 all_goals (try (dsimp only at ha ⊢; rw [ha]))
 all_goals refine wpAny_pure ?_
 all_goals unfold Builtin.«object.__getattribute__»
 all_goals (refine wpAny_bind (wpAny_pure ?_))
 all_goals (refine wpAny_bind (wpAny_pure ?_))
 all_goals (refine wpAny_bind (L0.at (wpAny_bind (L2.at ?_))))
 all_goals (unfold bindTo)
 all_goals (dsimp only)
 all_goals (refine wpAny_bind (wpAny_holding ?_))
 all_goals (refine wpAny_call (sS X hx hc q.mo ?_))
 all_goals (exact wpAny_pure h)
theorem wA {tk:Tok} {Q:Value → Shared → Prop} (X:K.In s.heap) (hx:s.heap.get? x = some ox) (hc:ox.cls = .ref C) (q:gY K C) (h:Q (.ref C) s):wpAny (model prog w) A (getAttrBy (.ref x) (.str "__class__" tk) false) Q E s:=by
 obtain ⟨hh,g,dr,t,os⟩:=s
 have L0:=uL (M:=model prog w) hx hc
 have L1:=looks_findIn (M:=model prog w) X q.ga
 have L2:=looks_findIn (M:=model prog w) X q.gh
 unfold getAttrBy
 refine wpAny_holding (wpAny_bind (L0.at (wpAny_bind (L1.at ?_))))
 have O2:(Value.builtin "BaseException.__getattribute__" == Value.builtin "object.__getattribute__") = false:=by decide +kernel
 have O3:(onTheHeap (Value.ref C) && Value.builtin "BaseException.__getattribute__" == Value.builtin "object.__getattribute__") = false:=by rw [O2]; rfl
 dsimp only
 rw [if_neg (by rw [O3]; decide)]
 unfold getAttrByItsOwn
 refine wpAny_bind ?_
 have L3:Looks (model prog w) hh (hookBefore (.ref C)) none:=looks_hook X (by rw [if_pos (by rfl)]; exact q.gh)
 refine L3.at (wpAny_bind (wpAny_attempt (wpAny_holding ?_)))
 unfold callGetattribute
 rw [if_neg (by simp)]
 unfold boundAndCalled
 rw [PySem.F.attrBase_ValueError.ga.bind (.ref x)]
 refine wpAny_bind (wpAny_pure ?_)
 refine wpAny_call (qA X hx hc q ?_)
 exact handed_on rfl h
theorem qB {Q:Option Value → Shared → Prop} (X:K.In s.heap) (hx:s.heap.get? x = some ox) (hc:ox.cls = .ref C) (q:gY K C) (h:Q (some (.ref C)) { s with toks:=s.toks + 1 }):wpAny (model prog w) A (getAttr? (.ref x) "__class__") Q E s:=by
 unfold getAttr? getAttrBy?
 refine wpAny_bind (wpAny_mkText (wpAny_bind (wpAny_attempt (wA X hx hc q ?_))))
 exact wpAny_pure h
end
theorem y! {K:PySem.W.Frag} {x C:Addr} {ox:Obj} (hc:ox.cls = .ref C) (q:gY K C):KitX K (.ref x) (.ref C) (fun h => h.get? x = some ox) where
 ty:=fun _ _ _ hx => uL hx hc
 it:=fun M h X _ => (kit_cls (M:=M) X q.kc).2.1
 ne:=fun h tp dd aH n sl X e => Bool.eq_false_iff.mpr fun z => by
  have z:=beq_iff_eq.mp z
  cases z
  have kc:=q.kc
  unfold kitCls at kc
  dsimp only at kc
  split at kc
  ·rename_i z
   rw [Bool.and_eq_true] at z
   have z0:=z.1
   unfold clsIn at z0
   split at z0
   ·rename_i c' d' Ql C? ho
    rw [X _ _ ho] at e
    cases e
   ·cases z0
  ·cases kc
 ca:=fun X hx k => qB X hx hc q k
end L2
namespace MN
open PySem PySem.Spec L2
open PyProof.Rows hiding St
inductive nh (K:PySem.W.Frag) (mg:Str → Option Value):List Str → Prop
 | nil:nh K mg []
 | cons {x:Str} {C:Addr} {r:List Str} (hm:mg x = some (.ref C)) (hq:o9 K C = true) (hr:nh K mg r):nh K mg (x :: r)
theorem nh.at_ {K:PySem.W.Frag} {mg:Str → Option Value} {c:Str}:∀ {qs:List Str},nh K mg qs → qs.contains c = true → ∃ C,mg c = some (.ref C) ∧ gY K C
 | _,.nil,h => by simp at h
 | _,.cons (x:=x) hm hq hr,h => by
  by_cases e:c = x
  ·subst e; exact ⟨_,hm,wz hq⟩
  ·exact hr.at_ (by simpa [e] using h)
end MN
namespace MN
open PySem PySem.Spec L2
open PyProof.Rows hiding St
structure BY where
 S:kB
 own:Str
 line:Nat
 col:Nat
end MN
namespace MN
open PySem PySem.Spec L2
open PyProof.Rows hiding St
end MN
namespace L2
open PySem PySem.Spec PyProof.Rows
section
variable {X:Cx}
noncomputable def IX:V → List V → Hp → VK → Prop:=fun x vs H Q => ∃ i,x = .int i ∧ vs = [] ∧ Q (.int ((Builtin.Int.intBits i:Nat):Int)) H
theorem BZ:xZ X "int.bit_length" IX:=by
 intro af s σ H x vs v us Q I rx rv h
 obtain ⟨i,rfl,rfl,q⟩:=h
 obtain ⟨t,rfl⟩:=rx
 have O4:=rv.zero
 subst O4
 exact call_gives F.slot_int_bit_length (typeIs_int s i t) F.entry_int_bit_length (F.args_int_bit_length_1 _) (AutoIntG2.int_bit_length_int_0 i t) ⟨.int ((Builtin.Int.intBits i:Nat):Int),H,I.tok _,⟨_,rfl⟩,q⟩
end
end L2
namespace MN
open PySem PySem.Spec L2
open PyProof.Rows hiding St
noncomputable def B0:F2:=lE fun i j st => if 0 ≤ j then .ok (.int (i / 2 ^ j.toNat)) st else .bad
noncomputable def B3:F2:=lE fun i j st => .ok (.int (Builtin.bitAnd i j)) st
noncomputable def IY:ai → ag → bH ai
 | .int i,st => .ok (.int ((Builtin.Int.intBits i:Nat):Int)) st
 | _,_ => .bad
noncomputable def uM (m:ME):ME:=fun μ st => (m μ st).bind IY
section
variable {X:Cx} {E:XK} {o:Expr} {mo:ME} {apos bO:Pos}
theorem B4:cV X (binaryOp .RShift) (rM (wo X) E B0):=by
 refine cV.imp Eo ?_
 rintro x y H Q ⟨ρ,st,u,w,sr,r1,r2,h⟩
 obtain ⟨i,j,rfl,rfl,h0⟩:=eD h
 by_cases hj:0 ≤ j
 ·rw [if_pos hj] at h0
  exact ⟨i,j,r1.bA,r2.bA,hj,bu sr h0⟩
 ·rw [if_neg hj] at h0; exact h0.elim
theorem B5:cV X (binaryOp .BitAnd) (rM (wo X) E B3):=by
 refine cV.imp Ep ?_
 rintro x y H Q ⟨ρ,st,u,w,sr,r1,r2,h⟩
 obtain ⟨i,j,rfl,rfl,q⟩:=eD h
 exact ⟨i,j,r1.bA,r2.bA,bu sr q⟩
theorem B6 (ho:PE X o (tE X E mo)) (eQ:attributeBase o "bit_length" X.env (eval o X.env) = eval o X.env:=by rfl) (eR:(apos.endLine == bO.line) = true:=by rfl) :
  PE X (.Call (.Attribute o "bit_length" apos) [] [] bO) (tE X E (uM mo)):=by
 refine PE.imp (EL PySem.F.plainAttrs_int PySem.F.slot_int_bit_length PySem.F.type_int_bit_length BZ ho eQ eR) ?_
 rintro σ H Q ⟨μ,ρ,st,rs,sr,h⟩
 refine go μ ρ st rs sr h fun u aN ρ1 H1 x e1 bo r1 h1 => ?_
 cases u with
 | int i => rw [r1.bA]; exact ⟨rfl,i,rfl,rfl,bu bo h1⟩
 | _ => exact h1.elim
end
end MN
namespace MN
open PySem PySem.Spec L2
open PyProof.Rows hiding St
end MN
namespace PM
open PySem PySem.Spec L2 MN
open PyProof.Rows hiding St
noncomputable def dG:ai:=.mt ([2,3,5,7,11,13,17,19,23,29,31].map ai.int)
noncomputable def e_:FN:=fJ 1 1 (aY (m? (xq "int" (ae 0)) (Bw (xq "bool" (ae 0)))))
noncomputable def bC:FN:=fJ 1 1 (az (gf (cA (ah (Dx false) (ae 0) (mC PM.dG))) (aY (mC (.bl true))) bB) (az (gf (jL (cA (ah ltV (ae 0) (mC (.int 2)))) (cA (ah Dv (ae 0) (mC (.int 997))))) (aY (mC (.bl false))) bB) (aY (ao v_ (aa (bG 1 [0] (d_ (mC PM.dG)) (aw 0) aL (ah ij (ah cg (ae 1) (ae 0)) (mC (.int 0)))) ak)))))
noncomputable def cW:FN:=fJ 1 1 (aY (Bx (cA (ah ltV (ae 0) (mC (.int 0)))) (jN (mC (.int 1))) (mC (.int 1))))
noncomputable def fM:FN:=fJ 1 1 (az (gf (cA (ah ij (ao sI (aa (ae 0) ak)) (mC (.int 1)))) (dm "NoInverse" (aa (mC (.str "only 1 and -1 have an inverse among the whole numbers")) ak)) bB) (aY (ae 0)))
noncomputable def cy:FN:=fJ 1 1 (aY (m? (ao PM.e_ (aa (ae 0) ak)) (Ka (ah gR (ae 0) (mC (.int 0))) (ao PM.bC (aa (ae 0) ak)))))
noncomputable def shared:FN:=fJ 2 6 (az (aM 2 (d5 (aa (ao sI (aa (ae 0) ak)) (aa (ao PM.cW (aa (ae 0) ak)) (aa (mC (.int 0)) ak))))) (az (aM 3 (d5 (aa (ao sI (aa (ae 1) ak)) (aa (mC (.int 0)) (aa (ao PM.cW (aa (ae 1) ak)) ak))))) (az (fK (cA (ah ij (ah bR (ae 3) (mC (.int 0))) (mC (.int 0)))) (az (aM 4 (ah dQ (ah bR (ae 2) (mC (.int 0))) (ah bR (ae 3) (mC (.int 0))))) (az (aM 5 (ao nc (aa (bG 2 [4] (jf false false (aa (ae 2) (aa (ae 3) ak))) (eY [(aw 0),(aw 1)]) aL (ah eV (ae 0) (ah cF (ae 2) (ae 1)))) ak))) (az (aM 2 (ae 3)) (aM 3 (ae 5)))))) (aY (ae 2)))))
noncomputable def e!:FN:=fJ 1 1 (gf (cE (cA (ao PM.cy (aa (ae 0) ak)))) (dm "NoRing" (aa (mC (.str "a ring is 0 or a prime from 2 to 997")) ak)) bB)
noncomputable def inverse:FN:=fJ 2 2 (az (bg (ao PM.e! (aa (ae 0) ak))) (az (gf (cA (ah gR (ae 0) (mC (.int 0)))) (aY (ao PM.fM (aa (ae 1) ak))) bB) (az (gf (cA (ah gR (ah cg (ae 1) (ae 0)) (mC (.int 0)))) (dm "NoInverse" (aa (mC (.str "a multiple of the prime has no inverse")) ak)) bB) (aY (ah cg (ah bR (ao PM.shared (aa (ah cg (ae 1) (ae 0)) (aa (ae 0) ak))) (mC (.int 1))) (ae 0))))))
noncomputable def dz:FN:=fJ 1 1 (aY (m? (xq "int" (ae 0)) (Bw (xq "bool" (ae 0)))))
end PM
namespace PM
open PySem PySem.Spec L2 MN
open PyProof.Rows hiding St
noncomputable def bD:FN:=fJ 1 1 (gf (jL (cE (cA (ao PM.cy (aa (ae 0) ak)))) (cA (ah gR (ae 0) (mC (.int 0))))) (dm "NoPrime" (aa (mC (.str "a prime is one from 2 to 997")) ak)) bB)
end PM
namespace PM
open PySem PySem.Spec L2 MN
open PyProof.Rows hiding St
end PM
namespace MN
open PySem PySem.Spec L2
open PyProof.Rows hiding St
theorem gy {g:ag → Prop} {a:AS} {c:MT} {e:ME} {st:ag} (hg:g st) (I:Env → Prop) (p:ai → Bool) (f:ai → ai):∀ (us:List ai) (τ:Env) (ys:List ai),I τ →
  (∀ u ∈ us,∀ τ,I τ → ∃ τ1,a u τ = some τ1 ∧ I τ1 ∧ c τ1 st = .ok (p u) st ∧ (p u = true → e τ1 st = .ok (f u) st)) → a7 g a c e us τ st ys = .ok (ys ++ (us.filter p).map f) st
 | [],τ,ys,_,_ => by
  unfold a7
  rw [if_pos hg]; simp
 | u :: us,τ,ys,hI,hs => by
  obtain ⟨τ1,h1,h2,h3,h4⟩:=hs u List.mem_cons_self τ hI
  have NP:=fun v hv => hs v (List.mem_cons_of_mem u hv)
  unfold a7
  rw [if_pos hg,h1]
  dsimp only
  rw [h3]
  cases z:p u with
  | true =>
   dsimp only
   rw [h4 z]
   dsimp only
   rw [gy hg I p f us τ1 _ h2 NP,List.filter_cons_of_pos z]
   simp
  | false =>
   dsimp only
   rw [gy hg I p f us τ1 _ h2 NP,List.filter_cons_of_neg (by rw [z]; simp)]
theorem aQ (st:ag) (us:List ai):aj (st ++ [.lst us]) st.length = some us:=by
 unfold aj
 rw [List.getElem?_append_right (Nat.le_refl _),Nat.sub_self]; rfl
theorem lT {t:MT} {body:MB} (P:Env → ag → Prop) (M:Env → ag → Nat) (Q:Env → ag → Prop)
  (hs:∀ μ st,P μ st → (∃ aN,t μ st = .ok false aN ∧ Q μ aN) ∨ ∃ aN μ' av,t μ st = .ok true aN ∧ (body μ aN = .nx μ' av ∨ body μ aN = .ct μ' av) ∧ P μ' av ∧ M μ' av < M μ st) :
  ∀ (n:Nat) (μ:Env) (st:ag),M μ st < n → P μ st → ∃ μ' av,c_ t body n μ st = some (.nx μ' av) ∧ Q μ' av
 | 0,μ,st,h,_ => absurd h (Nat.not_lt_zero _)
 | n + 1,μ,st,h,hp => by
  unfold c_
  rcases hs μ st hp with ⟨aN,e,q⟩ | ⟨aN,μ',av,e,hb,p',lt⟩
  ·rw [e]; exact ⟨μ,aN,rfl,q⟩
  ·rw [e]
   dsimp only
   obtain ⟨μ2,st2,e2,q2⟩:=lT P M Q hs n μ' av (by lia) p'
   rcases hb with hb | hb <;> (rw [hb]; exact ⟨μ2,st2,e2,q2⟩)
theorem sT {t:MT} {body:MB} (P:Env → ag → Prop) (M:Env → ag → Nat) (Q:Env → ag → Prop)
  (hs:∀ μ st,P μ st → (∃ aN,t μ st = .ok false aN ∧ Q μ aN) ∨ ∃ aN μ' av,t μ st = .ok true aN ∧ (body μ aN = .nx μ' av ∨ body μ aN = .ct μ' av) ∧ P μ' av ∧ M μ' av < M μ st)
  (μ:Env) (st:ag) (hp:P μ st):∃ μ' av,fK t body μ st = .nx μ' av ∧ Q μ' av:=by
 obtain ⟨μ',av,e,q⟩:=lT P M Q hs (M μ st + 1) μ st (Nat.lt_succ_self _) hp
 exact ⟨μ',av,wg e,q⟩
end MN
namespace MN
open PySem PySem.Spec L2
open PyProof.Rows hiding St
noncomputable def bH.fi {α β:Type} (r:bH α) (k:α → ag → bH β):bH β:=match r with
 | .ok a st => k a st
 | .err c st => .err c st
 | .bad => .bad
noncomputable def bH.B7 {α:Type} (r:bH α) (μ:Env) (k:α → ag → cf):cf:=match r with
 | .ok a st => k a st
 | .err c st => .er c μ st
 | .bad => .bad
noncomputable def cf.cJ (r:cf) (k:MB):cf:=match r with
 | .nx μ st => k μ st
 | .rt v st => .rt v st
 | .bk μ st => .bk μ st
 | .ct μ st => .ct μ st
 | .er c μ st => .er c μ st
 | .bad => .bad
noncomputable def cf.fin (r:cf):bH ai:=match r with
 | .nx _ av => .ok .bE av
 | .rt v av => .ok v av
 | .er c _ av => .err c av
 | _ => .bad
section
variable {α β:Type} {μ:Env} {st:ag}
theorem aq {a:α} {k:α → ag → bH β}:(bH.ok a st).fi k = k a st:=rfl
theorem aV {a:α} {k:α → ag → cf}:(bH.ok a st).B7 μ k = k a st:=rfl
theorem B8 {c:Str} {k:α → ag → cf}:(bH.err c st:bH α).B7 μ k = .er c μ st:=rfl
theorem aB {k:MB}:(cf.nx μ st).cJ k = k μ st:=rfl
theorem o_ {v:ai} {k:MB}:(cf.rt v st).cJ k = .rt v st:=rfl
theorem y?:(cf.nx μ st).fin = .ok .bE st:=rfl
theorem dW {v:ai}:(cf.rt v st).fin = .ok v st:=rfl
theorem gZ {r:bH α} {k:α → ag → bH β}:r.bind k = r.fi k:=by cases r <;> rfl
variable {a b c:ME} {f g:F2} {t u:MT} {s1 s2:MB} {ms:MA} {i:Nat} {v:ai}
theorem bQ {r:bH α} {k k':α → ag → bH β} (h:∀ a st,k a st = k' a st):r.bind k = r.fi k':=by cases r <;> first | exact h _ _ | rfl
theorem jO {r:bH α} {k k':α → ag → cf} (h:∀ a st,k a st = k' a st):r.sb μ k = r.B7 μ k':=by cases r <;> first | exact h _ _ | rfl
noncomputable def za (f:F2) (x:ai):ai → ag → bH ai:=fun y st => f x y st
noncomputable def IZ (f:F2) (b:ME) (μ:Env):ai → ag → bH ai:=fun x st => (b μ st).fi (za f x)
theorem cX:ah f a b μ st = (a μ st).fi (IZ f b μ):=bQ fun _ _ => bQ fun _ _ => rfl
theorem d7 {x:ai}:IZ f b μ x st = (b μ st).fi (za f x):=rfl
theorem cY {x y:ai}:za f x y st = f x y st:=rfl
theorem iO:mC v μ st = .ok v st:=rfl
noncomputable def NQ:ai → ag → bH Bool
 | .bl b,st => .ok b st
 | _,_ => .bad
theorem e? {b:Bool}:NQ (.bl b) st = .ok b st:=rfl
theorem d!:cA a μ st = (a μ st).fi NQ:=bQ fun x _ => by cases x <;> rfl
noncomputable def FZ (b:ME) (μ:Env):ai → ag → bH ai
 | .bl true,st => b μ st
 | .bl false,st => .ok (.bl false) st
 | _,_ => .bad
theorem jP:m? a b μ st = (a μ st).fi (FZ b μ):=bQ fun x _ => by
 cases x <;> try rfl
 rename_i k; cases k <;> rfl
theorem kR:FZ b μ (.bl true) st = b μ st:=rfl
theorem uN:FZ b μ (.bl false) st = .ok (.bl false) st:=rfl
noncomputable def LV (b:ME) (μ:Env):ai → ag → bH ai
 | .bl true,st => .ok (.bl true) st
 | .bl false,st => b μ st
 | _,_ => .bad
theorem DC:Ka a b μ st = (a μ st).fi (LV b μ):=bQ fun x _ => by
 cases x <;> try rfl
 rename_i k; cases k <;> rfl
theorem F3:LV b μ (.bl true) st = .ok (.bl true) st:=rfl
theorem F4:LV b μ (.bl false) st = b μ st:=rfl
noncomputable def I_:ai → ag → bH ai
 | .bl k,st => .ok (.bl (!k)) st
 | _,_ => .bad
theorem F5:Bw a μ st = (a μ st).fi I_:=bQ fun x _ => by cases x <;> rfl
theorem k_not {k:Bool}:I_ (.bl k) st = .ok (.bl (!k)) st:=rfl
noncomputable def zd (u:MT) (μ:Env):Bool → ag → bH Bool
 | true,st => u μ st
 | false,st => .ok false st
theorem uO:uA t u μ st = (t μ st).fi (zd u μ):=bQ fun x _ => by cases x <;> rfl
theorem zf:zd u μ true st = u μ st:=rfl
theorem zg:zd u μ false st = .ok false st:=rfl
noncomputable def F6 (u:MT) (μ:Env):Bool → ag → bH Bool
 | true,st => .ok true st
 | false,st => u μ st
theorem iP:jL t u μ st = (t μ st).fi (F6 u μ):=bQ fun x _ => by cases x <;> rfl
theorem uP:F6 u μ true st = .ok true st:=rfl
theorem jg:F6 u μ false st = u μ st:=rfl
noncomputable def DD:Bool → ag → bH Bool:=fun k st => .ok (!k) st
theorem jh:cE t μ st = (t μ st).fi DD:=bQ fun _ _ => rfl
theorem zh {k:Bool}:DD k st = .ok (!k) st:=rfl
noncomputable def F7 (a b:ME) (μ:Env):Bool → ag → bH ai
 | true,st => a μ st
 | false,st => b μ st
theorem lU:Bx t a b μ st = (t μ st).fi (F7 a b μ):=bQ fun x _ => by cases x <;> rfl
theorem kS:F7 a b μ true st = a μ st:=rfl
theorem uQ:F7 a b μ false st = b μ st:=rfl
theorem fN:ak μ st = .ok [] st:=rfl
noncomputable def sU (x:ai):List ai → ag → bH (List ai):=fun xs st => .ok (x :: xs) st
noncomputable def DE (ms:MA) (μ:Env):ai → ag → bH (List ai):=fun x st => (ms μ st).fi (sU x)
theorem dh:aa a ms μ st = (a μ st).fi (DE ms μ):=bQ fun _ _ => bQ fun _ _ => rfl
theorem d? {x:ai}:DE ms μ x st = (ms μ st).fi (sU x):=rfl
theorem dj {x:ai} {xs:List ai}:sU x xs st = .ok (x :: xs) st:=rfl
noncomputable def I!:List ai → ag → bH ai:=fun xs st => if xs.length ≤ sizeLine then .ok (.tup xs) st else .bad
theorem zi:d5 ms μ st = (ms μ st).fi I!:=bQ fun _ _ => rfl
theorem DF {xs:List ai}:I! xs st = if xs.length ≤ sizeLine then .ok (.tup xs) st else .bad:=rfl
noncomputable def I?:List ai → ag → bH ai:=fun xs st => if xs.length ≤ sizeLine then .ok (.loc st.length) (st ++ [.lst xs]) else .bad
theorem F8:bF ms μ st = (ms μ st).fi I?:=bQ fun _ _ => rfl
theorem Ja {xs:List ai}:I? xs st = if xs.length ≤ sizeLine then .ok (.loc st.length) (st ++ [.lst xs]) else .bad:=rfl
theorem dZ {h:FN}:ao h ms μ st = (ms μ st).fi h:=bQ fun _ _ => rfl
noncomputable def Jb:ai → ag → bH ai
 | .int i,st => .ok (.int (-i)) st
 | _,_ => .bad
theorem zj {i:Int}:Jb (.int i) st = .ok (.int (-i)) st:=rfl
theorem F_:jN a μ st = (a μ st).fi Jb:=bQ fun x _ => by cases x <;> rfl
noncomputable def sV (T:String) (v:ai) (st:ag):bH ai:=match FC T st v with
 | some b => .ok (.bl b) st
 | none => .bad
theorem zk {T:String}:xq T a μ st = (a μ st).fi (sV T):=bQ fun _ _ => rfl
theorem aA:az s1 s2 μ st = (s1 μ st).cJ s2:=by
 unfold az; cases s1 μ st <;> rfl
theorem h7:bB μ st = .nx μ st:=rfl
noncomputable def DG (μ:Env):ai → ag → cf:=fun _ st => .nx μ st
theorem gA:bg a μ st = (a μ st).B7 μ (DG μ):=jO fun _ _ => rfl
theorem zl:DG μ v st = .nx μ st:=rfl
noncomputable def Jc:ai → ag → cf:=fun v st => .rt v st
theorem dn:aY a μ st = (a μ st).B7 μ Jc:=jO fun _ _ => rfl
theorem fC:Jc v st = .rt v st:=rfl
noncomputable def LW (s1 s2:MB) (μ:Env):Bool → ag → cf
 | true,st => s1 μ st
 | false,st => s2 μ st
theorem gB:gf t s1 s2 μ st = (t μ st).B7 μ (LW s1 s2 μ):=jO fun x _ => by cases x <;> rfl
theorem o!:LW s1 s2 μ true st = s1 μ st:=rfl
theorem iQ:LW s1 s2 μ false st = s2 μ st:=rfl
noncomputable def Jd (i:Nat) (μ:Env):ai → ag → cf:=fun v st => .nx (μ.set i (some v)) st
theorem sW:aM i a μ st = (a μ st).B7 μ (Jd i μ):=jO fun _ _ => rfl
theorem DH:Jd i μ v st = .nx (μ.set i (some v)) st:=rfl
noncomputable def zo (x:Str) (μ:Env):List ai → ag → cf:=fun vs st => if vs.length ≤ sizeLine then .er x μ st else .bad
theorem ji {x:Str}:dm x ms μ st = (ms μ st).B7 μ (zo x μ):=jO fun _ _ => rfl
theorem kT {x:Str} {vs:List ai}:zo x μ vs st = if vs.length ≤ sizeLine then .er x μ st else .bad:=rfl
noncomputable def kFor (as:AS) (s1:MB) (μ:Env):Itm → ag → cf:=fun p st => forL p.2 as s1 p.1 μ st
theorem ec {it:MI} {as:AS}:dD it as s1 μ st = (it μ st).B7 μ (kFor as s1 μ):=jO fun _ _ => rfl
theorem gK {as:AS} {us:List ai} {q:ag → Prop}:kFor as s1 μ (us,q) st = forL q as s1 us μ st:=rfl
noncomputable def o?:List ai → ag → bH ai:=fun ys st => .ok (.loc st.length) (st ++ [.lst ys])
theorem DI {ys:List ai}:o? ys st = .ok (.loc st.length) (st ++ [.lst ys]):=rfl
noncomputable def zt (k:Nat) (caps:List Nat) (as:AS) (t:MT) (a:ME) (μ:Env):Itm → ag → bH ai:=fun p st => if p.1.length ≤ sizeLine then (a7 p.2 as t a p.1 (e8 k caps μ) st []).fi o? else .bad
theorem cO {k:Nat} {caps:List Nat} {it:MI} {as:AS}:bG k caps it as t a μ st = (it μ st).fi (zt k caps as t a μ):=bQ fun p aN => by
 unfold zt
 split
 ·exact bQ fun _ _ => rfl
 ·rfl
theorem dX {k:Nat} {caps:List Nat} {as:AS} {us:List ai} {q:ag → Prop}:zt k caps as t a μ (us,q) st = if us.length ≤ sizeLine then (a7 q as t a us (e8 k caps μ) st []).fi o? else .bad:=rfl
theorem a! {np n:Nat} {us:List ai} (h:us.length = np):fJ np n s1 us st = (s1 (us.map some ++ List.replicate (n - np) none) st).fin:=by
 unfold fJ; rw [if_pos h]; cases s1 (us.map some ++ List.replicate (n - np) none) st <;> rfl
theorem cP (h:μ[i]? = some (some v)) (hx:ja v = false):ae i μ st = .ok v st:=by
 unfold ae; rw [h]; simp [hx]
theorem DJ {μ:Env} (hx:ja v = false):ae 0 (some v :: μ) st = .ok v st:=cP rfl hx
theorem jj {x:Option ai} {μ:Env}:ae (i + 1) (x :: μ) st = ae i μ st:=rfl
theorem ej {μ:Env} {j:Int}:ae 0 (some (.int j) :: μ) st = .ok (.int j) st:=rfl
theorem uR {μ:Env} {j:List ai}:ae 0 (some (.tup j) :: μ) st = .ok (.tup j) st:=rfl
noncomputable def qC (v:ai) (st:ag):bH Itm:=match lK st v with
 | some p => .ok p st
 | none => .bad
theorem c7:d_ a μ st = (a μ st).fi qC:=by unfold d_; rw [gZ]; rfl
theorem wB {us:List ai}:qC (.tup us) st = .ok (us,fun _ => True) st:=rfl
theorem cR {n:Nat} {us:List ai} (h:aj st n = some us):qC (.loc n) st = .ok (us,fun av => aj av n = some us) st:=by
 simp only [qC,lK,h]; rfl
noncomputable def F! (vs:List ai) (av:ag):bH Itm:=match vs with
 | [.int j] => if -(2 ^ 62) ≤ j ∧ j < 2 ^ 62 then .ok (cj 0 j.toNat,fun _ => True) av else .bad
 | _ => .bad
noncomputable def zu (vs:List ai) (av:ag):bH Itm:=match vs with
 | [.int i,.int j] => if -(2 ^ 62) ≤ i ∧ i < 2 ^ 62 ∧ -(2 ^ 62) ≤ j ∧ j < 2 ^ 62 then .ok (cj i (j - i).toNat,fun _ => True) av else .bad
 | _ => .bad
theorem B9:cD ms μ st = (ms μ st).fi F!:=by unfold cD; rw [gZ]; rfl
theorem uS:fv ms μ st = (ms μ st).fi zu:=by unfold fv; rw [gZ]; rfl
theorem B_ {j:Int} (h1:-(2 ^ 62) ≤ j) (h2:j < 2 ^ 62):F! [.int j] st = .ok (cj 0 j.toNat,fun _ => True) st:=by unfold F!; dsimp only; rw [if_pos ⟨h1,h2⟩]
noncomputable def B! (b1 b2:Bool) (vs:List ai) (av:ag):bH Itm:=match vs with
 | [u,w] => match eZ av u,eZ av w with
  | some (c1,us,g1),some (c2,ws,g2) => if c1 = b1 ∧ c2 = b2 then .ok (fU us ws,fun st2 => g1 st2 ∧ g2 st2) av else .bad
  | _,_ => .bad
 | _ => .bad
theorem sX {b1 b2:Bool}:jf b1 b2 ms μ st = (ms μ st).fi (B! b1 b2):=by unfold jf; rw [gZ]; rfl
theorem uT {us ws:List ai}:B! false false [.tup us,.tup ws] st = .ok (fU us ws,fun _ => True ∧ True) st:=rfl
theorem pb {n:Nat} {us:List ai} (h1:aj st n = some us):nc [.loc n] st = .ok (.tup us) st:=by unfold nc; dsimp only; rw [h1]
theorem sY {i j:Int}:eV (.int i) (.int j) st = .ok (.int (i - j)) st:=rfl
theorem sZ {i j:Int} (h:MulOk i j):cF (.int i) (.int j) st = .ok (.int (i * j)) st:=by unfold cF; dsimp only; rw [if_pos h]
theorem s_ {i j:Int} (h:Sz i ∧ Sz j):cF (.int i) (.int j) st = .ok (.int (i * j)) st:=sZ (.inl h)
theorem uU {i j:Int} (h1:-(2 ^ 64) < i) (h2:i < 2 ^ 64):cF (.int i) (.int j) st = .ok (.int (i * j)) st:=sZ (.inr (.inl ⟨h1,h2⟩))
theorem mul_r {i j:Int} (h1:-(2 ^ 64) < j) (h2:j < 2 ^ 64):cF (.int i) (.int j) st = .ok (.int (i * j)) st:=sZ (.inr (.inr ⟨h1,h2⟩))
theorem div_ii {i j:Int} (h:Dz j):dQ (.int i) (.int j) st = .ok (.int (i.fdiv j)) st:=if_pos h
theorem iR {i j:Int} (h:¬ j = 0):cg (.int i) (.int j) st = .ok (.int (i.fmod j)) st:=if_neg h
theorem qD {i j:Int}:ltV (.int i) (.int j) st = .ok (.bl (decide (i < j))) st:=rfl
theorem DK {i j:Int}:Dv (.int i) (.int j) st = .ok (.bl (decide (j < i))) st:=rfl
theorem lW {i j:Int}:gR (.int i) (.int j) st = .ok (.bl (i == j)) st:=rfl
theorem qE {i j:Int}:ij (.int i) (.int j) st = .ok (.bl (!(i == j))) st:=rfl
theorem Je {i j:Str}:gR (.str i) (.str j) st = .ok (.bl (i == j)) st:=rfl
theorem jI {us:List ai} {i:Int} {v:ai} (h:L2.mS us i = some v):bR (.tup us) (.int i) st = .ok v st:=by unfold bR; dsimp only; rw [h]
theorem iS {n:Nat} {us:List ai} {i:Int} {v:ai} (h1:aj st n = some us) (h:L2.mS us i = some v):bR (.loc n) (.int i) st = .ok v st:=by unfold bR; dsimp only; rw [h1]; dsimp only; rw [h]
theorem c8 {n:Nat} {us:List ai} (h1:aj st n = some us):cT [.loc n] st = .ok (.int us.length) st:=by unfold cT; dsimp only; rw [h1]
theorem Jf {i:Int}:sI [.int i] st = .ok (.int (if i < 0 then -i else i)) st:=rfl
theorem B? {n m:Nat} {us:List ai} (h1:aj st n = some us) (h2:aj st m = some []):gu 16 st (.loc n) (.loc m) = some us.isEmpty:=by
 unfold gu
 simp only [vw,h1,h2]
 show fT _ us [] = _
 cases us <;> rfl
theorem ne_nil {n m:Nat} {us:List ai} (h1:aj st n = some us) (h2:aj st m = some []):ij (.loc n) (.loc m) st = .ok (.bl (!us.isEmpty)) st:=by unfold ij; rw [B? h1 h2]
noncomputable def bH.LX (r:bH α):bH α:=match r with
 | .ok v av => .ok v av
 | .err _ _ => .bad
 | .bad => .bad
theorem F? {m:Env → ag → bH α}:FI m μ st = (m μ st).LX:=by unfold FI bH.LX; cases m μ st <;> rfl
theorem F' {a:α}:(bH.ok a st).LX = .ok a st:=rfl
noncomputable def cf.B' (r:cf):cf:=match r with
 | .er _ _ _ => .bad
 | .nx μ' av => .nx μ' av
 | .rt v av => .rt v av
 | .bk μ' av => .bk μ' av
 | .ct μ' av => .ct μ' av
 | .bad => .bad
theorem zx:oh s1 μ st = (s1 μ st).B':=by unfold oh cf.B'; cases s1 μ st <;> rfl
theorem Ca:(cf.rt v st).B' = .rt v st:=rfl
noncomputable def cf.Ga (r:cf) (kn:Str → Bool) (h:MH):cf:=match r with
 | .er c μ' av => if kn c = true then h c μ' av else .bad
 | .nx μ' av => .nx μ' av
 | .rt v av => .rt v av
 | .bk μ' av => .bk μ' av
 | .ct μ' av => .ct μ' av
 | .bad => .bad
theorem Gb {kn:Str → Bool} {h:MH}:qr kn s1 h μ st = (s1 μ st).Ga kn h:=by unfold qr cf.Ga; cases s1 μ st <;> rfl
theorem Cb {kn:Str → Bool} {h:MH} {c:Str} (hk:kn c = true):(cf.er c μ st).Ga kn h = h c μ st:=by
 show (if kn c = true then h c μ st else .bad) = _
 rw [if_pos hk]
theorem Jg {sub:Str → Str → Option Bool} {x c:Str} {r:MH} (h:sub c x = some true):G_ sub x i s1 r c μ st = lL (s1 (μ.set i (some (.exc c))) st):=by unfold G_; rw [h]
theorem wC:lL (.rt v st) = .rt v st:=rfl
end
end MN
namespace MN
open PySem PySem.Spec L2
open PyProof.Rows hiding St kindOf
end MN
namespace MN
open PySem PySem.Spec L2
open PyProof.Rows hiding St kindOf
section
variable {μ:Env} {st:ag} {a b c o:ME} {ms:MA} {f:F2} {g:FM} {v w:ai} {i n m:Nat} {us ws:List ai}
noncomputable def Gd (x:ai) (l:Option Int):Option Int → ag → bH ai:=fun h st => DA l h x st
noncomputable def Ge (hi:MO) (μ:Env) (x:ai):Option Int → ag → bH ai:=fun l st => (hi μ st).fi (Gd x l)
noncomputable def NR (lo hi:MO) (μ:Env):ai → ag → bH ai:=fun x st => (lo μ st).fi (Ge hi μ x)
theorem zy {lo hi:MO}:uK a lo hi μ st = (a μ st).fi (NR lo hi μ):=bQ fun x aN => bQ fun l st2 => bQ fun h mR => rfl
theorem Gf {lo hi:MO}:NR lo hi μ v st = (lo μ st).fi (Ge hi μ v):=rfl
theorem zA {hi:MO} {l:Option Int}:Ge hi μ v l st = (hi μ st).fi (Gd v l):=rfl
theorem zB {l h:Option Int}:Gd v l h st = DA l h v st:=rfl
theorem lX:fV μ st = .ok none st:=rfl
noncomputable def kO:ai → ag → bH (Option Int)
 | .int i,st => .ok (some i) st
 | _,_ => .bad
theorem qF:fB a μ st = (a μ st).fi kO:=bQ fun x _ => by cases x <;> rfl
theorem Jh {j:Int}:kO (.int j) st = .ok (some j) st:=rfl
theorem s? {l h:Option Int} (e:aj st n = some us):DA l h (.loc n) st = .ok (.loc st.length) (st ++ [.lst (o8 us l h)]):=by
 simp only [DA,e]
noncomputable def Gg (g:FM) (x:ai):List ai → ag → bH ai:=fun xs st => g x xs st
noncomputable def Cc (g:FM) (ms:MA) (μ:Env):ai → ag → bH ai:=fun x st => if qq st x = true then (ms μ st).fi (Gg g x) else .bad
theorem zC:ik g o ms μ st = (o μ st).fi (Cc g ms μ):=bQ fun x aN => by
 unfold Cc
 split
 ·exact bQ fun _ _ => rfl
 ·rfl
theorem DM (h:st[n]? = some (.lst us)):Cc g ms μ (.loc n) st = (ms μ st).fi (Gg g (.loc n)):=by
 unfold Cc
 rw [if_pos (by unfold qq; dsimp only; rw [h])]
theorem DN {xs:List ai}:Gg g v xs st = g v xs st:=rfl
theorem wD (h:st[n]? = some (.lst us)) (hl:us.length < sizeLine):c6 (.loc n) [v] st = .ok .bE (st.set n (.lst (us ++ [v]))):=by
 simp only [c6,h]
 rw [if_pos hl]
theorem Cd:lO ms μ st = (ms μ st).fi y9:=by unfold lO; rw [gZ]
theorem Gh {j k:Int} (h1:-(2 ^ 62) ≤ j) (h2:j < 2 ^ 62) (h3:-(2 ^ 62) ≤ k) (h4:k < 2 ^ 62):y9 [.int j,.int k,.int (-1)] st = .ok (ki j (j - k).toNat,fun _ => True) st:=by
 unfold y9; dsimp only; rw [if_pos ⟨rfl,h1,h2,h3,h4⟩]
theorem Gi (e1:aj st n = some us) (e2:aj st m = some ws):B! true true [.loc n,.loc m] st = .ok (fU us ws,fun st2 => aj st2 n = some us ∧ aj st2 m = some ws) st:=by
 unfold B!
 dsimp only
 unfold eZ
 dsimp only
 rw [e1,e2]
 rfl
theorem pe (h1:st[n]? = some (.lst us)) (h2:st[m]? = some (.lst ws)) (hl:us.length + ws.length ≤ sizeLine):bV (.loc n) (.loc m) st = .ok (.loc st.length) (st ++ [.lst (us ++ ws)]):=by
 simp only [bV,h1,h2]
 rw [if_pos hl]
theorem zD (st:ag) (us:List ai):(st ++ [aT.lst us])[st.length]? = some (.lst us):=by
 rw [List.getElem?_append_right (Nat.le_refl _),Nat.sub_self]; rfl
theorem is_list (h:st[n]? = some (.lst us)):sV "list" (.loc n) st = .ok (.bl true) st:=by
 unfold sV FC kindOf; dsimp only; rw [h]; rfl
end
mutual
noncomputable def qG:Nat → ai → Bool
 | _,.bE => true
 | _,.bl _ => true
 | _,.int _ => true
 | _,.str _ => true
 | 0,.tup _ => false
 | n + 1,.tup us => fb n us
 | _,_ => false
noncomputable def fb:Nat → List ai → Bool
 | _,[] => true
 | n,u :: us => qG n u && fb n us
end
mutual
theorem zE (st:ag):∀ (n:Nat) (v:ai),qG n v = true → gu (n + 1) st v v = some true
 | _,.bE,_ => rfl
 | _,.bl b,_ => by show some (b == b) = _; rw [beq_self_eq_true]
 | _,.int i,_ => by show some (i == i) = _; rw [beq_self_eq_true]
 | _,.str x,_ => by show some (x == x) = _; rw [beq_self_eq_true]
 | 0,.tup _,h => by cases h
 | n + 1,.tup us,h => by
  show fT (gu (n + 1) st) us us = some true
  exact h_ st n us h
 | n,.loc _,h => by cases n <;> cases h
 | n,.exc _,h => by cases n <;> cases h
 | n,.fn _ _,h => by cases n <;> cases h
 | n,.mt _,h => by cases n <;> cases h
theorem h_ (st:ag):∀ (n:Nat) (us:List ai),fb n us = true → fT (gu (n + 1) st) us us = some true
 | _,[],_ => rfl
 | n,u :: us,h => by
  have h':qG n u = true ∧ fb n us = true:=by simpa [fb] using h
  show (match gu (n + 1) st u u,fT (gu (n + 1) st) us us with | some a,some b => some (a && b) | _,_ => none) = _
  rw [zE st n u h'.1,h_ st n us h'.2]; rfl
end
theorem jQ {n:Nat}:∀ {us:List ai},(∀ u ∈ us,qG n u = true) → fb n us = true
 | [],_ => rfl
 | u :: us,h => by
  unfold fb
  rw [h u List.mem_cons_self,jQ fun w hw => h w (List.mem_cons_of_mem u hw)]; rfl
theorem qH (n:Nat) (ns:List Int):fb n (ns.map ai.int) = true:=jQ fun u hu => by
 obtain ⟨i,_,rfl⟩:=List.mem_map.mp hu
 cases n <;> rfl
end MN
namespace MN
open PySem PySem.Spec L2
open PyProof.Rows hiding St kindOf
end MN
namespace SO
open PySem PySem.W PyProof.Rows
noncomputable def Ok (L:Nat → Nat → Bool) (n:Nat) {α:Type} (P:α → Prop):KasT α → Prop
 | .ret a => P a
 | .ask i j k => i < n ∧ j < n ∧ Ok L n P (k (L i j))
theorem Ok.bind {L:Nat → Nat → Bool} {n:Nat} {α β:Type} {P:α → Prop} {Q:β → Prop} {f:α → KasT β} (hf:∀ a,P a → Ok L n Q (f a)):∀ {t:KasT α},Ok L n P t → Ok L n Q (t.bind f)
 | .ret a,h => hf a h
 | .ask _ _ _,h => ⟨h.1,h.2.1,Ok.bind hf h.2.2⟩
theorem Ok.imp {L:Nat → Nat → Bool} {n:Nat} {α:Type} {P Q:α → Prop} (hf:∀ a,P a → Q a):∀ {t:KasT α},Ok L n P t → Ok L n Q t
 | .ret a,h => hf a h
 | .ask _ _ _,h => ⟨h.1,h.2.1,Ok.imp hf h.2.2⟩
structure Ord (L:Nat → Nat → Bool) (n:Nat):Prop where
 tr:∀ i j k,i < n → j < n → k < n → L i j = true → L j k = true → L i k = true
 O5:∀ i j,i < n → j < n → i ≠ j → L i j = false → L j i = true
 O6:∀ i j,i < n → j < n → L i j = true → L j i = false
end SO
namespace SO
open PySem PySem.W PyProof.Rows
noncomputable def Ce (h:Heap) (d:Addr) (es:Array DictEntry) (ep:Nat):Prop:=∃ o,h.get? d = some o ∧ o.cls = .type "dict" ∧ o.data = .dict es ep
section
variable {prog:Program} {w:World} {A:Around} {E:Value → Shared → Prop} {s:Shared} {d it:Addr} {es:Array DictEntry} {ep i:Nat}
theorem Ce.ty (x:Ce s.heap d es ep):s.TypeIs (.ref d) "dict":=by
 obtain ⟨o,ho,hc,_⟩:=x
 exact ⟨o,ho,hc⟩
end
end SO
namespace SO
open PySem PySem.W PyProof.Rows
noncomputable def lexLt:List Int → List Int → Bool
 | _,[] => false
 | [],_ :: _ => true
 | x :: xs,y :: ys => if x = y then lexLt xs ys else decide (x < y)
end SO
namespace TS
end TS
namespace TS
open PySem PyProof.Rows
end TS
namespace TS
open PySem PyProof.Rows
end TS
namespace TS
open PySem PyProof.Rows
end TS
namespace TS
open PySem PyProof.Rows
end TS
namespace TS
open PySem PyProof.Rows
end TS
namespace TS
open PySem PyProof.Rows
end TS
namespace SO
open PySem PySem.W PyProof.Rows
section
variable {vs:List Value} {xs:List (List Int)}
noncomputable def O7:Value → Int
 | .int n _ => n
 | _ => 0
noncomputable def qu (h:Heap):Value → List Int
 | .ref a => match h.get? a with
  | some o => match o.data with
   | .seq aH _ => aH.toList.map O7
   | _ => []
  | none => []
 | _ => []
end
end SO
namespace L2
open PySem PySem.Spec PyProof.Rows
noncomputable def tf (X:Cx) (f:Value) (ks:List Str) (r:List V → List V → Hp → VK → Prop):Prop :=
 ∀ (af:List (Addr × Obj)) (s:Shared) (σ:St) (H:Hp) (xs zs:List V) (us ws:List Value) (Q:VK),aG X af σ H s → aR xs us → aR zs ws → r xs zs H Q →
  wpAny (model X.prog X.w) X.A (call f us (ks.zip ws)) (EP X af σ Q) X.xe s
noncomputable def O8 (r:List V → List V → Hp → VK → Prop) (t tk:TA):TE:=fun σ H Q => t σ H fun vs H1 => tk σ H1 fun zs H2 => r vs zs H2 Q
section
variable {X:Cx} {id:String} {ks:List Str} {r:List V → List V → Hp → VK → Prop} {x:Str} {p pos:Pos} {e:Expr} {es:List Expr} {xS:List Keyword} {t tk:TA}
theorem om (hc:tf X (.builtin id) ks r) (hg:Gl X x) (hm:X.mg x = none) (hv:bootBuiltins x = some (.builtin id)) (ha:PA X (e :: es) t) (O9:PK X xS tk)
  (O_:(backToKw pos (keywordEach xS X.env)).filterMap (·.1) = ks:=by rfl) (hn:x ≠ "__name__":=by decide) (iK:(x == ("__debug__":Str)) = false:=by decide)
  (he:backTo pos (starEach (e :: es) X.env) = (false,eval e X.env) :: backTo pos (starEach es X.env):=by rfl) (eM:(backTo pos (starEach (e :: es) X.env)).any (·.1) = false:=by rfl)
  (ES:(backToKw pos (keywordEach xS X.env)).all (·.1.isSome) = true:=by rfl) (K8:(backToKw pos (keywordEach xS X.env)).any (·.1.isNone) = false:=by rfl):PE X (.Call (.Name x p) (e :: es) xS pos) (O8 r t tk):=by
 intro af s σ H Q I h
 refine wpAny_Call_Name_kw (gg I hg hm hv ?_ hn iK)
 refine callWith_kw (cJ (ha pos af s σ H _ I h) fun us s1 q1 => ?_) he eM ES K8
 obtain ⟨vs,H1,I1,r1,q1⟩:=q1
 refine cJ (O9 pos af s1 σ H1 _ I1 q1) fun ws s2 q2 => ?_
 obtain ⟨zs,H2,I2,r2,q2⟩:=q2
 rw [O_]
 exact hc af s2 σ H2 vs zs us ws Q I2 r1 r2 q2
end
theorem zF {xs:List Int} {us:List Value} (h:aR (xs.map V.int) us):IntsAre us xs:=by
 induction xs generalizing us with
 | nil => cases h; exact .nil
 | cons x xs ih =>
  cases h with
  | cons a b =>
   obtain ⟨t,rfl⟩:=a
   exact .cons x t (ih b)
end L2
namespace SO
open PySem PySem.W PyProof.Rows
end SO
namespace SO
open PySem PySem.W PyProof.Rows
noncomputable def ti (M:Int):List Int → Int
 | [] => M
 | x :: r => ti (if x > M then x else M) r
theorem ni (a v:Value):argsOk "max" ⟨[a],[(Str.ofString "default",v)]⟩:=by unfold argsOk; kernel_rfl
theorem uV {us:List Value} {ns:List Int} (h:IntsAre us ns):∀ {i:Nat} {v:Value},us[i]? = some v → ∃ n t,ns[i]? = some n ∧ v = .int n t:=by
 induction h with
 | nil => intro i v e; cases e
 | cons n t _ ih =>
  intro i v e
  cases i with
  | zero => cases e; exact ⟨n,t,rfl,rfl⟩
  | succ i => exact ih e
section
variable {prog:Program} {w:World} {A:Around} {E:Value → Shared → Prop} {I l S:Addr} {us:List Value} {ns:List Int} {d:Value} {R:Result → Shared → Prop}
theorem Gj (hh:A.in1.handled = none) (hI:l ≠ I) (Gk:S ≠ I) (Kh:S ≠ l) (ia:IntsAre us ns):∀ (k j:Nat) (s:Shared) (M:Int) (t:Tok) (c:Nat),ns.length - j = k → j ≤ ns.length → (s.heap.IsListIter I l j ∧ s.heap.IsList l us.toArray) →
  s.heap.get? S = some (seqObj "list" #[.int M t,.int M t] c) →
  (∀ t' h' tk,(∀ b o,b ≠ S → b ≠ I → s.heap.get? b = some o → h'.get? b = some o) → R (.ok (.ret (.int (ti M (ns.drop j)) t'))) { s with heap:=h',toks:=tk }) →
  codeAny (model prog w) A (.builtin "max.loop" ⟨[.ref I,.none,.ref S],[(Str.ofString "default",d)]⟩) R s:=by
 have W:=Walks.list (prog:=prog) (w:=w) (A:=A.in1) hh I l hI us.toArray
 have hsz:us.toArray.size = ns.length:=by rw [List.size_toArray,ia.length]
 have qI:(toString "max" ++ toString ".loop":String) = "max.loop":=by decide
 intro k
 induction k with
 | zero =>
  intro j s M t c hk hj st hS hR
  have e:j = us.toArray.size:=by lia
  refine codeAny_builtin PySem.F.entry_max_loop ?_
  rw [Around.under_plainId PySem.F.plain_max_loop _]
  show wpAny _ A.in1 (seqItems? (.ref S) >>= _) _ _ s; refine wpAny_bind (wpAny_seqItems hS rfl ?_)
  show wpAny _ A.in1 (tryCatch (pyNext (.ref I)) _ >>= _) _ _ s; refine wpAny_bind (wpAny_tryCatch (W.done s _ _ (e ▸ st) fun h' tk hm => ?_))
  have DO:=hm S _ (by simp [Gk]) hS
  show wpAny _ A.in1 (updateSeq S (fun _ => #[]) >>= _) _ _ _
  refine wpAny_bind (wpAny_updateSeq DO rfl (wpAny_bind (wpAny_letGo (wpAny_pure ?_))))
  have:=hR t ((h'.update S (Obj.mapSeq fun _ => #[]))) tk fun b o h1 h2 e => (Heap.get?_update_other _ _ (Ne.symm h1)).trans (hm b o (by simp [h2]) e)
  rw [List.drop_eq_nil_of_le (by lia)] at this
  exact this
 | succ k ih =>
  intro j s M t c hk hj st hS hR
  have jC:j < us.toArray.size:=by lia
  refine codeAny_builtin PySem.F.entry_max_loop ?_
  rw [Around.under_plainId PySem.F.plain_max_loop _]
  show wpAny _ A.in1 (seqItems? (.ref S) >>= _) _ _ s; refine wpAny_bind (wpAny_seqItems hS rfl ?_)
  show wpAny _ A.in1 (tryCatch (pyNext (.ref I)) _ >>= _) _ _ s; refine wpAny_bind (wpAny_tryCatch (W.item j s _ _ jC st fun v h' tk hP av hm => ?_))
  have DO:=hm S _ (by simp [Gk]) hS
  obtain ⟨n,t2,en,rfl⟩:=uV ia (by rw [← List.getElem?_toArray]; exact hP)
  have NT:j < ns.length:=by lia
  have ed:ns.drop j = n :: ns.drop (j + 1):=by
   rw [List.getElem?_eq_getElem NT] at en
   cases en
   exact List.drop_eq_getElem_cons NT
  show wpAny _ A.in1 (tryCatch (holding [.int n t2,.int n t2] (richCompare .Gt (.int n t2) (.int M t) >>= _)) _ >>= _) _ _ _
  refine wpAny_bind (wpAny_tryCatch (wpAny_holding (wpAny_bind (show wpAny _ _ (compareOp .Gt (.int n t2) (.int M t)) _ _ _ from gt_int ?_))))
  refine wpAny_bind (wpAny_holding (wpAny_truthy_bool (wpAny_bind (wpAny_letGo (wpAny_pure ?_)))))
  by_cases c1:n > M
  ·rw [decide_eq_true c1]
   simp only [if_true]
   refine wpAny_bind (wpAny_updateSeq DO rfl (wpAny_bind (wpAny_letGo ?_)))
   rw [qI]
   refine wpAny_pure ⟨plainId_quiet PySem.F.plain_max_loop _,ih (j + 1) _ n t2 _ (by lia) (by lia) (W.frame _ _ _ av fun b hb o e => ?_) (Heap.get?_update_self _ DO rfl) fun t' h2 LY Iu => ?_⟩
   ·exact (Heap.get?_update_other _ _ (fun z:S = b => by rw [← z] at hb; simp [Gk,Kh] at hb)).trans e
   ·have:=hR t' h2 LY fun b o h1 h3 e => Iu b o h1 h3 ((Heap.get?_update_other _ _ (Ne.symm h1)).trans (hm b o (by simp [h3]) e))
    rw [ed] at this
    replace this:R (.ok (.ret (.int (ti (if n > M then n else M) (ns.drop (j + 1))) t'))) _:=this
    rw [if_pos c1] at this
    exact this
  ·rw [decide_eq_false c1]
   simp only [Bool.false_eq_true,if_false]
   refine wpAny_bind (wpAny_letGo ?_)
   rw [qI]
   refine wpAny_pure ⟨plainId_quiet PySem.F.plain_max_loop _,ih (j + 1) _ M t c (by lia) (by lia) av DO fun t' h2 LY Iu => ?_⟩
   have:=hR t' h2 LY fun b o h1 h3 e => Iu b o h1 h3 (hm b o (by simp [h3]) e)
   rw [ed] at this
   replace this:R (.ok (.ret (.int (ti (if n > M then n else M) (ns.drop (j + 1))) t'))) _:=this
   rw [if_neg c1] at this
   exact this
noncomputable def maxD (dv:Int):List Int → Int
 | [] => dv
 | n :: r => ti n r
theorem pf {s:Shared} {id:String} {b:Builtin} {args:List Value} {kw:List (Str × Value)} {Q:Value → Shared → Prop} (hk:builtinKind id = none) (hp:plainId id = true) (hb:entryFor table id = some b) (ha:argsOk id ⟨args,kw⟩)
  (hc:wpAny (model prog w) A.in1 (b ⟨args,kw⟩) (fun fin s' => match fin with
   | .done f => (match (Except.ok f:Result) with | .ok (.ret v) => Q v s' | .ok _ => False | .error e => E e s')
   | .again c' => c'.quiet = true ∧ codeAny (model prog w) A c' (fun r s' => match r with | .ok (.ret v) => Q v s' | .ok _ => False | .error e => E e s') s') E s):wpAny (model prog w) A (call (.builtin id) args kw) Q E s:=by
 refine wpAny_call (codeAny_call_builtin hp hb ?_)
 simp only [checkBuiltinCall,hk]
 cases LZ:Manifest.signature? id with
 | none => exact wpAny_pure hc
 | some sig =>
  have II:Bind.checkArgs id sig ⟨args,kw⟩ = pure ():=by simpa only [argsOk,LZ] using ha
  simp only [II]
  exact wpAny_pure hc
theorem zG {s:Shared} {dv:Int} {dt:Tok} {Q:Value → Shared → Prop} (hh:A.handled = none) (hl:s.heap.IsList l us.toArray) (ia:IntsAre us ns)
  (h:∀ h' tk t,(∀ b o,s.heap.get? b = some o → h'.get? b = some o) → Q (.int (maxD dv ns) t) { s with heap:=h',toks:=tk }):wpAny (model prog w) A (call (.builtin "max") [.ref l] [(Str.ofString "default",.int dv dt)]) Q E s:=by
 have qI:(toString "max" ++ toString ".loop":String) = "max.loop":=by decide
 refine pf PySem.F.kind_max PySem.F.plain_max PySem.F.entry_max (ni _ _) ?_
 show wpAny _ A.in1 (Builtin.Builtins.bindParams "max" ["key","default"] 0 ⟨[],[(Str.ofString "default",.int dv dt)]⟩ >>= _) _ _ s
 refine wpAny_bind (wpAny_of_eq (show Builtin.Builtins.bindParams "max" ["key","default"] 0 ⟨[],[(Str.ofString "default",.int dv dt)]⟩ = pure [none,some (.int dv dt)] from rfl) ?_)
 refine wpAny_bind (wpAny_pure ?_)
 refine wpAny_bind (wpAny_pyIter_list hl ?_)
 refine wpAny_bind (wpAny_newObj_type ?_)
 rw [qI]
 refine wpAny_pure ⟨plainId_quiet PySem.F.plain_max_loop _,?_⟩
 obtain ⟨I,eI⟩:∃ I,I = s.heap.objs.size:=⟨_,rfl⟩
 obtain ⟨h1,e1⟩:∃ h1,h1 = s.heap.push { cls:=.type "list_iterator",data:=.fields #[.ref l,.int 0 0] }:=⟨_,rfl⟩
 obtain ⟨S,eS⟩:∃ S,S = h1.objs.size:=⟨_,rfl⟩
 obtain ⟨h2,e2⟩:∃ h2,h2 = h1.push (seqObj "list" #[] 0):=⟨_,rfl⟩
 have jC:l < s.heap.objs.size:=by obtain ⟨_,e,_⟩:=id hl; exact Heap.lt_size e
 have L4:S = I + 1:=by rw [eS,e1,eI,Heap.size_push]
 have hI:l ≠ I:=by rw [eI]; exact Nat.ne_of_lt jC
 have Gk:S ≠ I:=by rw [L4]; exact Nat.succ_ne_self I
 have Kh:S ≠ l:=by rw [L4,eI]; exact Nat.ne_of_gt (Nat.lt_succ_of_lt jC)
 have k2:∀ b o,s.heap.get? b = some o → h2.get? b = some o:=fun b o e => by rw [e2,e1]; exact Heap.get?_push_of_some _ (Heap.get?_push_of_some _ e)
 have st:h2.IsListIter I l 0 ∧ h2.IsList l us.toArray:=by
  constructor
  ·refine ⟨{ cls:=.type "list_iterator",data:=.fields #[.ref l,.int 0 0] },?_,rfl,rfl⟩
   rw [e2,e1,eI]
   exact Heap.get?_push_of_some _ (Heap.get?_push_size _ rfl)
  ·obtain ⟨o,ho,r⟩:=hl
   exact ⟨o,k2 l o ho,r⟩
 have hS:h2.get? S = some (seqObj "list" #[] 0):=by rw [e2,eS]; exact Heap.get?_push_size _ rfl
 show codeAny (model prog w) A (.builtin "max.loop" ⟨[.ref s.heap.objs.size,.none,.ref (s.heap.push { cls:=.type "list_iterator",data:=.fields #[.ref l,.int 0 0] }).objs.size],[(Str.ofString "default",.int dv dt)]⟩) _ { s with heap:=(s.heap.push { cls:=.type "list_iterator",data:=.fields #[.ref l,.int 0 0] }).push (seqObj "list" #[] 0) }
 rw [← e1,← e2,← eS,← eI]
 have W:=Walks.list (prog:=prog) (w:=w) (A:=A.in1) hh I l hI us.toArray
 have hsz:us.toArray.size = ns.length:=by rw [List.size_toArray,ia.length]
 have fresh:∀ b o,s.heap.get? b = some o → b ≠ S ∧ b ≠ I:=fun b o e => by
  have q:=Heap.lt_size e
  exact ⟨by rw [L4,eI]; exact Nat.ne_of_lt (Nat.lt_succ_of_lt q),by rw [eI]; exact Nat.ne_of_lt q⟩
 refine codeAny_builtin PySem.F.entry_max_loop ?_
 rw [Around.under_plainId PySem.F.plain_max_loop _]
 show wpAny _ A.in1 (seqItems? (.ref S) >>= _) _ _ _; refine wpAny_bind (wpAny_seqItems (s:={ s with heap:=h2 }) hS rfl ?_)
 show wpAny _ A.in1 (tryCatch (pyNext (.ref I)) _ >>= _) _ _ _
 cases ia with
 | nil =>
  refine wpAny_bind (wpAny_tryCatch (W.done { s with heap:=h2 } _ _ st fun h' tk hm => ?_))
  refine wpAny_bind (wpAny_rule (wpAny_pure ?_))
  exact h h' tk dt fun b o e => hm b o (by simp [(fresh b o e).2]) (k2 b o e)
 | @cons n t xo LD r =>
  refine wpAny_bind (wpAny_tryCatch (W.item 0 { s with heap:=h2 } _ _ (by rw [hsz]; exact Nat.succ_pos _) st fun v h' tk hP av hm => ?_))
  have DO:=hm S _ (by simp [Gk]) hS
  have hv:v = .int n t:=by
   rw [List.getElem?_toArray] at hP
   cases hP; rfl
  subst hv
  show wpAny _ A.in1 (updateSeq S (fun _ => #[.int n t,.int n t]) >>= _) _ _ _
  refine wpAny_bind (wpAny_updateSeq DO rfl ?_)
  rw [qI]
  refine wpAny_pure ⟨plainId_quiet PySem.F.plain_max_loop _,Gj (us:=.int n t :: xo) (ns:=n :: LD) hh hI Gk Kh (.cons n t r) _ 1 _ n t _ rfl (by simp) (W.frame _ _ _ av fun b hb o e => ?_) (Heap.get?_update_self _ DO rfl) fun t' h3 O! O? => ?_⟩
  ·exact (Heap.get?_update_other _ _ (fun z:S = b => by rw [← z] at hb; simp [Gk,Kh] at hb)).trans e
  ·refine h h3 O! t' fun b o e => ?_
   have f:=fresh b o e
   exact O? b o f.1 f.2 ((Heap.get?_update_other _ _ (Ne.symm f.1)).trans (hm b o (by simp [f.2]) (k2 b o e)))
end
end SO
namespace MN
open PySem PySem.Spec L2
open PyProof.Rows hiding St kindOf
noncomputable def Ji:List cq → Option (List Int)
 | [] => some []
 | .inl i :: r => (Ji r).map (i :: ·)
 | .inr _ :: _ => none
noncomputable def DP:List (List cq) → Option (List (List Int))
 | [] => some []
 | k :: r => match Ji k,DP r with
  | some a,some b => some (a :: b)
  | _,_ => none
noncomputable def Pa (a b:List Int):Bool:=!(SO.lexLt a b)
noncomputable def Pb (ks:List (List Int)):List (List Int):=ks.mergeSort Pa
noncomputable def L5 (k:List Int):ai:=.tup (k.map .int)
noncomputable def Pc (d:ai) (st:ag):bH ai:=match d with
 | .loc n => match st[n]? with
  | some (.dT aD) => match DP (aD.map (·.1)) with
   | some ks => if ks.length ≤ sizeLine ∧ ks.all (fun k => !k.isEmpty) = true then .ok (.loc st.length) (st ++ [.lst ((Pb ks).map L5)]) else .bad
   | none => .bad
  | _ => .bad
 | _ => .bad
noncomputable def gL:List ai → Option (List Int)
 | [] => some []
 | .int i :: r => (gL r).map (i :: ·)
 | _ :: _ => none
theorem jR:∀ {us:List ai} {a:List Int},gL us = some a → us = a.map ai.int:=by
 intro us
 induction us with
 | nil => intro a h; cases h; rfl
 | cons u r ih =>
  intro a h
  cases u with
  | int i =>
   replace h:(gL r).map (i :: ·) = some a:=h
   cases z:gL r with
   | none => rw [z] at h; cases h
   | some b => rw [z] at h; cases h; rw [ih z]; rfl
  | _ => cases h
theorem lY (a:List Int):gL (a.map ai.int) = some a:=by
 induction a with
 | nil => rfl
 | cons x a ih => show (gL (a.map ai.int)).map (x :: ·) = _; rw [ih]; rfl
section
variable {X:Cx} {E:XK}
theorem aP.ph {K:PySem.W.Frag} {ρ:List Addr} {H:Hp}:∀ {a:List Int} {vs:List V},aP K ρ H (a.map ai.int) vs → vs = a.map V.int:=by
 intro a
 induction a with
 | nil => intro vs h; exact h.de
 | cons x a ih =>
  intro vs h
  obtain ⟨v,r,rfl,q1,q2⟩:=aP.bI h
  rw [Rl.bA q1,ih q2]; rfl
end
section
variable {X:Cx} {E:XK}
theorem tj (hc:X.calm = true):tf X (.builtin "max") ["default"] (fun xs zs H Q => ∃ (a:Addr) (ns:List Int) (dv:Int),xs = [.ref a] ∧ zs = [.int dv] ∧ iC X.K H a (ns.map V.int) ∧ Q (.int (SO.maxD dv ns)) H):=by
 intro af s σ H xs zs us ws Q I rx rz h
 obtain ⟨a,ns,dv,rfl,rfl,ha,q⟩:=h
 obtain ⟨u,rfl,r1⟩:=vals1 rx
 obtain ⟨z,rfl,r2⟩:=vals1 rz
 cases r1
 obtain ⟨t,rfl⟩:=r2
 obtain ⟨aH,r,p,_⟩:=I.list ha
 exact SO.zG (I.ok.hd hc) p.isList (zF r) fun h' tk t' k => ⟨.int _,H,I.kept k,⟨t',rfl⟩,q⟩
noncomputable def zH (v d:ai) (st:ag):bH ai:=match v,d with
 | .loc n,.int dv => match aj st n with
  | some us => match gL us with
   | some ns => .ok (.int (SO.maxD dv ns)) st
   | none => .bad
  | none => .bad
 | _,_ => .bad
noncomputable def uW (m md:ME):ME:=fun μ st => (m μ st).bind fun v aN => (md μ aN).bind fun d st2 => zH v d st2
theorem Cf {n:Nat} {st:ag} {ns:List Int} {dv:Int} (h:aj st n = some (ns.map ai.int)):zH (.loc n) (.int dv) st = .ok (.int (SO.maxD dv ns)) st:=by
 unfold zH
 dsimp only
 rw [h]
 dsimp only
 rw [lY]
variable {x:Str} {p pos kp:Pos} {e ed:Expr} {m md:ME}
theorem Cg (hc:X.calm = true) (hg:Gl X x) (hm:X.mg x = none) (hv:bootBuiltins x = some (.builtin "max")) (ha:PE X e (tE X E m)) (hd:PE X ed (tE X E md)) (hn:x ≠ "__name__":=by decide) (iK:(x == ("__debug__":Str)) = false:=by decide)
  (he:starEach [e] X.env = (false,eval e X.env) :: starEach [] X.env:=by rfl):PE X (.Call (.Name x p) [e] [⟨some "default",ed,kp⟩] pos) (tE X E (uW m md)):=by
 refine PE.imp (om (tj hc) hg hm hv (eB ha jG he) (uj hd xT) (by rfl) hn iK (by rw [he]; rfl) (by rw [he]; rfl) (by rfl) (by rfl)) ?_
 rintro σ H Q ⟨μ,ρ,st,rs,sr,h⟩
 refine go μ ρ st rs sr h fun u aN ρ1 H1 v e1 bo r1 h1 => ?_
 refine go μ ρ1 aN (rs.mono e1) bo h1 fun d st2 ρ2 H2 z e2 kg r2 h2 => ?_
 have Pd:=Rl.mono e2 _ _ r1
 cases u with
 | loc n =>
  cases d with
  | int dv =>
   unfold zH at h2
   dsimp only at h2
   cases hn:aj st2 n with
   | none => rw [hn] at h2; exact h2.elim
   | some us =>
    rw [hn] at h2
    dsimp only at h2
    cases hk:gL us with
    | none => rw [hk] at h2; exact h2.elim
    | some ns =>
     rw [hk] at h2
     obtain ⟨a,rfl,ha⟩:=Pd.cN
     obtain ⟨vs,h3,rv⟩:=aO kg hn ha
     rw [jR hk] at rv
     rw [aP.ph rv] at h3
     exact ⟨a,ns,dv,rfl,by rw [r2.bA],h3,bu kg h2⟩
  | _ => exact h2.elim
 | _ => exact h2.elim
end
end MN
namespace PM
open PySem PySem.Spec L2 MN
open PyProof.Rows hiding St
end PM
namespace PM
open PySem PySem.Spec L2 MN
open PyProof.Rows hiding St
end PM
namespace DL
open PySem
section
variable {prog:Program} {w:World} {A:Around} {E:Value → Shared → Prop} {s:Shared}
theorem Ci:typeLookup (.type "list") "keys" = pure none:=by
 rw [typeLookup_type,builtinLookup_eq_fast]
 kernel_rfl
theorem wF {a:Addr} {o:Obj} {xs:Array Value} {k:Nat} {Q:Option Value → Shared → Prop} (hx:s.heap.get? a = some o) (hc:o.cls = .type "list") (nj:o.data = .seq xs k) (hd:o.dict = none) (hA:A.handled = none)
  (h:∀ h' tk,(∀ b u,s.heap.get? b = some u → h'.get? b = some u) → Q none { s with heap:=h',toks:=tk }):wpAny (model prog w) A (getAttr? (.ref a) "keys") Q E s:=by
 obtain ⟨c,Qm,dat,sl⟩:=o
 simp only at hc nj hd
 subst hc nj hd
 obtain ⟨hp,g,d,tk,os⟩:=s
 have hT:∀ Ki,(⟨hp,g,d,Ki,os⟩:Shared).TypeIs (.ref a) "list":=fun _ => ⟨_,hx,rfl⟩
 have q1:=sub_AttributeError
 have q3:=F.slot_list_getattribute.lookup
 have q4:=F.slot_list_getattribute.bind (.ref a)
 have q5:=am_list_getattr_none
 unfold getAttr? getAttrBy? getAttrBy
 repeat (any_goals (first | assumption | exact hT _ | ((with_reducible show wpAny _ _ (call (Value.builtin "list.__getattribute__") _ _) _ _ _); refine call_meets F.slot_list_getattribute (hT _) am_entry_list_getattribute (F.args_list_getattribute_2 _ _) (meets_getattribute_miss_list a xs k sl "keys" _ Ci (by decide) (by size_fits)) ⟨hx,hA,fun h' Ki e NU => ?_⟩) | wp_step))
 obtain ⟨t',u',he⟩:=NU.there
 show wpAny _ _ (getattributeRaised _ _ _ _ _ _ _) _ _ _
 unfold getattributeRaised
 repeat (any_goals (first | assumption | wp_step))
 exact h _ _ NU.keeps
noncomputable def Keeps (h h':Heap):Prop:=∀ b u,h.get? b = some u → h'.get? b = some u
variable {K:Type} [DecidableEq K] {knd:KeyKind prog w K}
theorem lZ:entryFor table "dict.update.loop" = some Builtin.«dict.update.loop»:=entryFor_of_tree (by kernel_rfl)
theorem gC:plainId "dict.update.loop" = true:=by decide +kernel
end
end DL
namespace L2
open PySem PySem.Spec PyProof.Rows
end L2
namespace MN
open PySem PySem.Spec L2
open PyProof.Rows hiding St
end MN
namespace DL
open PySem PyProof.Rows
end DL
namespace L2
open PySem PySem.Spec PyProof.Rows
end L2
namespace MN
open PySem PySem.Spec L2
open PyProof.Rows hiding St
end MN
namespace MN
open PySem PySem.Spec L2
open PyProof.Rows hiding St
end MN
namespace PM
open PySem PySem.Spec L2 MN
open PyProof.Rows hiding St
end PM
namespace PM
open PySem PySem.Spec L2 MN
open PyProof.Rows hiding St
end PM
namespace L2
open PySem PySem.Spec PyProof.Rows
section
variable {X:Cx}
theorem wG (hh:X.A.handled = none):aU X (.builtin "min") (fun xs H Q => ∃ i j,xs = [.int i,.int j] ∧ Q (.int (if j < i then j else i)) H):=by
 rintro af s σ H xs ws Q I r ⟨i,j,rfl,q⟩
 obtain ⟨u,v,rfl,ru,rv⟩:=aR.two r
 obtain ⟨t,rfl⟩:=ru
 obtain ⟨t',rfl⟩:=rv
 refine min_two_ints hh fun h' tk hk => ?_
 refine ⟨.int (if j < i then j else i),H,I.kept hk,?_,q⟩
 by_cases c:j < i
 ·rw [if_pos c,if_pos c]; exact ⟨_,rfl⟩
 ·rw [if_neg c,if_neg c]; exact ⟨_,rfl⟩
end
end L2
namespace MN
open PySem PySem.Spec L2
open PyProof.Rows hiding St
noncomputable def wH:FN
 | [.int i,.int j],st => .ok (.int (if j < i then j else i)) st
 | _,_ => .bad
section
variable {X:Cx} {E:XK}
theorem wI (hh:X.A.handled = none):aU X (.builtin "min") (cM (wo X) E wH):=by
 refine aU.imp (wG hh) ?_
 rintro xs H Q ⟨ρ,st,us,sr,r,h⟩
 unfold wH at h
 split at h
 ·rename_i i j
  obtain ⟨v,w,rfl,r1,r2⟩:=r.G0
  exact ⟨i,j,by rw [r1.bA,r2.bA],bu sr h⟩
 ·exact h.elim
end
end MN
namespace PM
open PySem PySem.Spec L2 MN
open PyProof.Rows hiding St
end PM
namespace SO
open PySem PySem.W PyProof.Rows
end SO
namespace MN
open PySem PySem.Spec L2
open PyProof.Rows hiding St
end MN
namespace L2
open PySem PySem.Spec PyProof.Rows
end L2
namespace L2
open PySem PySem.Spec PyProof.Rows
end L2
namespace MN
open PySem PySem.Spec L2
open PyProof.Rows hiding St
end MN
namespace HT
open PySem PySem.Spec PyProof.Rows
end HT
namespace L2
open PySem PySem.Spec PyProof.Rows
end L2
namespace MN
open PySem PySem.Spec L2
open PyProof.Rows hiding St
end MN
namespace SO
open PySem PySem.W PyProof.Rows
section
variable {prog:Program} {w:World} {A:Around} {E:Value → Shared → Prop} {s:Shared} {t:Addr} {us:List Value} {ns:List Int}
theorem oo (ns:List Int):∀ k,preSum (fun i => ns.getD i 0) k = (ns.take k).sum
 | 0 => by rw [List.take_zero]; rfl
 | k + 1 => by
  show preSum (fun i => ns.getD i 0) k + ns.getD k 0 = _
  rw [oo ns k,List.take_succ,List.sum_append_int,List.getD_eq_getElem?_getD]
  cases ns[k]? with
  | none => simp
  | some x => simp
theorem Cj {Q:Value → Shared → Prop} (hh:A.handled = none) (ht:s.heap.IsTuple t us.toArray) (ia:IntsAre us ns)
  (h:∀ h' tk t',(∀ b o,s.heap.get? b = some o → h'.get? b = some o) → Q (.int ns.sum t') { s with heap:=h',toks:=tk }) :
  wpAny (model prog w) A (call (.builtin "sum") [.ref t]) Q E s:=by
 have jC:t < s.heap.objs.size:=by obtain ⟨_,e,_⟩:=id ht; exact Heap.lt_size e
 refine call_sum_walkG (wpAny_pyIter_tuple ht ?_)
 refine ⟨_,_,_,_,_,_,fun i => ns.getD i 0,rfl,Walks.tuple (A:=A.in1) hh _ t (Nat.ne_of_lt jC) us.toArray,⟨⟨_,Heap.get?_push_size _ rfl,rfl,rfl⟩,ht.push _⟩,fun b hb => ?_,fun i v hP => ?_,fun h' tk t' hk => ?_⟩
 ·show b < (s.heap.push _).objs.size
  rw [Heap.size_push]
  rcases List.mem_cons.mp hb with rfl | hb
  ·exact Nat.lt_succ_self _
  ·rcases List.mem_cons.mp hb with rfl | hb
   ·exact Nat.lt_succ_of_lt jC
   ·cases hb
 ·obtain ⟨n,t2,en,e⟩:=uV ia (by rw [← List.getElem?_toArray]; exact hP)
  refine ⟨t2,?_⟩
  show v = Value.int (ns.getD i 0) t2
  rw [List.getD_eq_getElem?_getD,en]; exact e
 ·have e:preSum (fun i => ns.getD i 0) us.toArray.size = ns.sum:=by
   rw [oo,List.size_toArray,ia.length,List.take_of_length_le (Nat.le_refl _)]
  rw [e]
  refine h h' tk t' fun b o e => hk b o (fun hm => ?_) (Heap.get?_push_of_some _ e)
  rcases List.mem_cons.mp hm with e1 | hm
  ·exact absurd (Heap.lt_size e) (by rw [e1]; exact Nat.lt_irrefl _)
  ·cases hm
end
end SO
namespace L2
open PySem PySem.Spec PyProof.Rows
theorem wJ {X:Cx} (hh:X.A.handled = none):aU X (.builtin "sum") (fun xs H Q => ∃ (a:Addr) (ns:List Int),xs = [.ref a] ∧ ig X.K H a (ns.map V.int) ∧ Q (.int ns.sum) H):=by
 rintro af s σ H xs ws Q I r ⟨a,ns,rfl,hs,q⟩
 obtain ⟨u,rfl,ru⟩:=aR.one r
 cases ru
 obtain ⟨aH,r1,p1,_⟩:=I.tuple hs
 exact SO.Cj hh (by obtain ⟨o,h1,h2,n,h3⟩:=p1; exact ⟨o,h1,h2,n,h3⟩) (intsAre_of r1) fun h' tk t' hk => ⟨.int ns.sum,H,I.kept hk,⟨_,rfl⟩,q⟩
end L2
namespace MN
open PySem PySem.Spec L2
open PyProof.Rows hiding St
noncomputable def zI:FN
 | [.tup us],st => match gL us with
  | some ns => .ok (.int ns.sum) st
  | none => .bad
 | _,_ => .bad
theorem Gm {ns:List Int} {st:ag}:zI [.tup (ns.map ai.int)] st = .ok (.int ns.sum) st:=by
 show (match gL (ns.map ai.int) with | some ns => bH.ok (ai.int ns.sum) st | none => .bad) = _
 rw [lY]
section
variable {X:Cx} {E:XK}
theorem wK (hh:X.A.handled = none):aU X (.builtin "sum") (cM (wo X) E zI):=by
 refine aU.imp (wJ hh) ?_
 rintro xs H Q ⟨ρ,st,us,sr,r,h⟩
 unfold zI at h
 split at h
 ·rename_i ws
  split at h
  ·rename_i ns hn
   obtain ⟨v,rfl,r1⟩:=r.oZ
   rw [jR hn] at r1
   obtain ⟨p,vs,rfl,hp,rp⟩:=r1.d9
   rw [aP.ph rp] at hp
   exact ⟨p,ns,rfl,hp,bu sr h⟩
  ·exact h.elim
 ·exact h.elim
end
section
variable {X:Cx} {E:XK}
theorem Glob.strs {K:PySem.W.Frag} {mg:Str → Option Value} {x:Str} {a:Addr} {o:Obj} {aH:Array Value} {n:Nat} {ns:List Str} (h:mg x = some (.ref a)) (l:K.lookup a = some o) (hc:o.cls = .type "tuple") (hd:o.data = .seq aH n) (hz:aH.size ≤ sizeLine) (hv:aR (ns.map V.str) aH.toList):Glob K mg x (.mt (ns.map .str)) :=
 ⟨_,.ref a,h,rfl,fun ρ H => Rl.Iz (.inr ⟨o,aH,n,l,hc,hd,hz,hv⟩) (by
  clear h l hc hd hz hv
  induction ns with
  | nil => exact aP.nil
  | cons s ns ih => exact aP.cons (Rl.mkStr s) ih)⟩
end
end MN
namespace PM
open PySem PySem.Spec L2 MN
open PyProof.Rows hiding St
noncomputable def zJ:ai:=.mt ((["lex","deg"]:List Str).map ai.str)
noncomputable def dH:FN:=fJ 1 1 (aY (m? (xq "str" (ae 0)) (ah (Dx false) (ae 0) (mC PM.zJ))))
noncomputable def bX:FN:=fJ 1 1 (gf (cE (cA (ao PM.dH (aa (ae 0) ak)))) (dm "NoOrder" (aa (mC (.str "an order is lex or deg")) ak)) bB)
end PM
namespace L2
open PySem PySem.Spec PyProof.Rows
end L2
namespace MN
open PySem PySem.Spec L2
open PyProof.Rows hiding St
end MN
namespace L2
open PySem PySem.Spec PyProof.Rows
end L2
namespace MN
open PySem PySem.Spec L2
open PyProof.Rows hiding St
end MN
namespace SO
open PySem PySem.W PyProof.Rows
section
variable {prog:Program} {w:World} {A:Around} {E:Value → Shared → Prop} {s:Shared} {d:Addr} {es:Array DictEntry} {ep:Nat}
theorem Ck (hd:(d == sysModules) = false):MeetsIn prog w (Builtin.«dict.__len__» ⟨[.ref d],[]⟩) (fun _ R s => ∃ es ep,Ce s.heap d es ep ∧ R (.ok (.ret (.int es.size s.toks))) { s with toks:=s.toks + 1 }) :=
 .of_wp fun A R s ⟨es,ep,⟨o,ho,hc,nj⟩,h⟩ => by
  show wpAny _ _ (dictSize d >>= _) _ _ s
  unfold dictSize
  refine wpAny_bind (wpAny_bind (wpAny_dictEntries ho nj (wpAny_pure ?_)))
  show wpAny _ _ (Builtin.Dict.pendingCount d >>= _) _ _ s
  refine wpAny_bind (wpAny_pendingCount_other hd ?_)
  refine wpAny_ret_mkInt ?_
  rw [Nat.add_zero]; exact h
theorem Cm {Q:Value → Shared → Prop} (hd:(d == sysModules) = false) (x:Ce s.heap d es ep) (HW:(es.size:Int) < 2 ^ 63)
  (h:Q (.int es.size (s.toks + 1)) { s with toks:=s.toks + 1 + 1 }):wpAny (model prog w) A (call (.builtin "len") [.ref d]) Q E s:=by
 refine Calls.call_function_entry kind_len plain_len entry_len (args_len1 _) ?_
 unfold Builtin.«len»
 refine wpAny_bind (m:=oneArg "len" _) (wpAny_pure ?_)
 refine wpAny_bind (m:=callSpecial? (.ref d) (Str.ofString "__len__")) (wpAny_callSpecial?_slot (name:=Str.ofString "__len__") x.ty PySem.F.slot_dict_len
  (call_meetsIn PySem.F.slot_dict_len x.ty PySem.F.entry_dict_len (PySem.F.args_dict_len_1 _) (Ck hd) ⟨es,ep,x,?_⟩))
 show wpAny _ _ _ _ _ { s with toks:=s.toks + 1 }
 refine wpAny_bind (wpAny_holding (wpAny_pure ?_))
 refine wpAny_bind (wpAny_letGo ?_)
 show wpAny _ _ (if ((es.size:Nat):Int) < 0 then _ else _) _ _ _
 rw [if_neg (by lia)]
 show wpAny _ _ (if ((es.size:Nat):Int) ≥ 2 ^ 63 then _ else _) _ _ _
 rw [if_neg (by lia)]
 exact wpAny_bind (wpAny_mkInt (wpAny_pure ⟨_,rfl,h⟩))
end
end SO
namespace SO
open PySem PySem.W PyProof.Rows
end SO
namespace SO
open PySem PySem.W PyProof.Rows
section
variable {prog:Program} {w:World} {A:Around} {E:Value → Shared → Prop} {s:Shared} {l:Addr} {us:List Value} {ns:List Int}
theorem tm (h:IntsAre us ns):∃ xs:Array (Int × Tok),us.toArray = intItems xs ∧ xs.size = ns.length ∧ ∀ i,numAt xs i = ns.getD i 0:=by
 have:∃ l:List (Int × Tok),us = l.map (fun p => Value.int p.1 p.2) ∧ l.map (·.1) = ns:=by
  induction h with
  | nil => exact ⟨[],rfl,rfl⟩
  | cons n t _ ih =>
   obtain ⟨l,e1,e2⟩:=ih
   exact ⟨(n,t) :: l,by rw [e1]; rfl,by rw [← e2]; rfl⟩
 obtain ⟨l,rfl,rfl⟩:=this
 refine ⟨l.toArray,by simp [intItems],by simp,fun i => ?_⟩
 unfold numAt
 rw [List.getElem?_toArray,List.getD_eq_getElem?_getD,List.getElem?_map]
end
end SO
namespace L2
open PySem PySem.Spec PyProof.Rows
end L2
namespace MN
open PySem PySem.Spec L2
open PyProof.Rows hiding St kindOf
end MN
namespace L2
open PySem PySem.Spec PyProof.Rows PySem.W
section
variable {X:Cx}
theorem nk:aU X (.builtin "isinstance") (fun xs H Q => ∃ (ea:Addr) (oe:Obj) (C D:Addr) (b:Bool),xs = [.ref ea,.ref D] ∧ (ea,oe) ∈ X.pn ∧ oe.cls = .ref C ∧ gY X.K C ∧ kitOne X.K (.ref C) (.ref D) = some b ∧ Q (.bl b) H):=by
 intro af s σ H xs us Q I r h
 obtain ⟨ea,oe,C,D,b,rfl,hp,hc,hq,hk,q⟩:=h
 have he:=(I.pin (ea,oe) (List.mem_append_left _ hp)).1
 obtain ⟨u,u2,rfl,ru,Bm⟩:=vals2 r
 cases ru
 cases Bm
 exact kia_one (y! hc hq) I.iJ he hk (by intro z; cases z) fun tk => ⟨.bl b,H,I.tok tk,rfl,q⟩
end
end L2
namespace MN
open PySem PySem.Spec L2
open PyProof.Rows hiding St
noncomputable def kj (sub:Str → Str → Option Bool) (qs:List Str) (i:Nat) (x:Str):ME:=fun μ st => match μ[i]? with
 | some (some (.exc c)) => if qs.contains c then (match sub c x with
  | some b => .ok (.bl b) st
  | none => .bad) else .bad
 | _ => .bad
section
variable {X:Cx} {E:XK} {pos p q1 q2:Pos} {n x:Str} {tab:List (Str × Str × Bool)} {qs:List Str}
theorem Cn (i:Nat) (hS:c! X.K X.mg tab) (hQ:nh X.K X.mg qs) (h:yX X.K X.mg x) (hg:Gl X "isinstance") (hm:X.mg "isinstance" = none) (G!:Gl X x) (hN:X.N[i]? = some n:=by rfl) (hv:C! X.env.scope n:=by first | exact Or.inl rfl | exact Or.inr (Or.inl rfl))
  (hd:(n == ("__debug__":Str)) = false:=by decide) (pZ:(n == ("__classdict__":Str)) = false:=by decide) (G?:(x == ("__debug__":Str)) = false:=by decide)
  (hs:starEach [.Name n q1,.Name x q2] X.env = (false,eval (.Name n q1) X.env) :: starEach [.Name x q2] X.env:=by rfl) (bT:starEach [.Name x q2] X.env = (false,eval (.Name x q2) X.env) :: starEach [] X.env:=by rfl)
  (eM:(backTo pos (starEach [.Name x q2] X.env)).any (·.1) = false:=by rfl):PE X (.Call (.Name "isinstance" p) [.Name n q1,.Name x q2] [] pos) (tE X E (kj (eG tab) qs i x)):=by
 obtain ⟨D,hD,_,_⟩:=h
 refine PE.imp (i? nk hg hm PyProof.Rows.boot_isinstance (eB (rX (i:=i) hN hv hd pZ) (eB (oK (v:=.ref D) G! hD rfl G?) jG bT) hs) (by decide) (by decide) hs eM) ?_
 rintro σ H Q ⟨μ,ρ,st,rs,sr,h⟩
 unfold kj at h
 split at h
 ·rename_i c e
  split at h
  ·rename_i Pe
   split at h
   ·rename_i b eb
    obtain ⟨w,e',a,oe,C,rfl,hp,hC,ho⟩:=rs.at_ i _ e
    obtain ⟨C',NV,hq⟩:=hQ.at_ Pe
    have hC:X.mg c = some (.ref C):=hC
    rw [hC] at NV
    cases NV
    refine ⟨_,e',a,oe,C,D,b,rfl,hp,ho,hq,?_,dF sr h⟩
    have k:=hS.IT c x b C D eb hC hD
    unfold PySem.W.kitOne
    split
    ·rename_i z
     have z:=beq_iff_eq.mp z
     cases z
     rw [hq.kc] at k
     exact k
    ·exact k
   ·exact h.elim
  ·exact h.elim
 ·exact h.elim
noncomputable def zK:MB:=fun _ _ => .bad
theorem uX {ss:List Stmt}:gS X ss (tS X E zK):=fun _ _ _ _ _ _ h => by
 obtain ⟨_,_,_,_,_,h⟩:=h
 exact h.elim
end
end MN
namespace PM
open PySem PySem.Spec L2 MN
open PyProof.Rows hiding St
end PM
namespace PM
open PySem PySem.Spec L2 MN
open PyProof.Rows hiding St
end PM
namespace MN
open PySem PySem.Spec L2
open PyProof.Rows hiding St kindOf
noncomputable def zL (f:Str) (v:ai):List (Str × ai) → List (Str × ai)
 | [] => [(f,v)]
 | (g,x) :: r => if g = f then (g,v) :: r else (g,x) :: zL f v r
noncomputable def L6 (K:PySem.W.Frag) (cs:List Str) (f:Str):Prop:=∀ c ∈ cs,∀ C,PySem.W.nsIn K mainGlobals c = some (some (.ref C)) → ui K C ∧ gm K C f
noncomputable def Co (cs:List Str) (f:Str) (d:ai) (st:ag):bH ai:=match d with
 | .loc n => match st[n]? with
  | some (.ins c fs) => if c ∈ cs then match fs.lookup f with
   | some v => .ok v st
   | none => .bad else .bad
  | _ => .bad
 | _ => .bad
noncomputable def bh (cs:List Str) (f:Str) (m:ME):ME:=fun μ st => (m μ st).bind (Co cs f)
noncomputable def Cp (cs:List Str) (f:Str) (v d:ai) (st:ag):Option ag:=match d with
 | .loc n => match st[n]? with
  | some (.ins c fs) => if c ∈ cs ∧ fs.length < 1000 then some (st.set n (.ins c (zL f v fs))) else none
  | _ => none
 | _ => none
noncomputable def fc (cs:List Str) (f:Str) (mo mv:ME):MB:=fun μ st => (mv μ st).sb μ fun v aN => (mo μ aN).sb μ fun d st2 => match Cp cs f v d st2 with
 | some mR => .nx μ mR
 | none => .bad
noncomputable def Cq (c:Str) (F:FN) (us:List ai) (st:ag):bH ai:=(F (.loc st.length :: us) (st ++ [.ins c []])).bind fun v aN => match v with
 | .bE => .ok (.loc st.length) aN
 | _ => .bad
noncomputable def qJ (c:Str) (F:FN) (a:MA):ME:=fun μ st => (a μ st).bind (Cq c F)
noncomputable def qK (c m:Str) (st:ag) (d:ai):Bool:=match d with
 | .loc n => match st[n]? with
  | some (.ins c' fs) => decide (c' = c) && (fs.lookup m).isNone
  | _ => false
 | _ => false
noncomputable def cQ (c m:Str) (F:FN) (o:ME) (a:MA):ME:=fun μ st => (o μ st).bind fun d aN => if qK c m aN d = true then (a μ aN).bind fun us st2 => F (d :: us) st2 else .bad
section
variable {K:PySem.W.Frag} {ρ:List Addr} {H:Hp}
theorem l5 {f:Str}:∀ {fs:List (Str × ai)} {gs:List (Str × V)},dO K ρ H fs gs → (∀ v,fs.lookup f = some v → ∃ x,gs.lookup f = some x ∧ Rl K ρ H v x) ∧ (fs.lookup f = none → gs.lookup f = none)
 | [],gs,h => by
  obtain rfl:gs = []:=List.map_eq_nil_iff.mp h.1.symm
  exact ⟨(fun v e => nomatch e),fun _ => rfl⟩
 | (k,v) :: fs,gs,h => by
  cases gs with
  | nil => exact absurd h.1 (by intro z; cases z)
  | cons g gs =>
   obtain ⟨e1,e2⟩:=List.cons.inj h.1
   obtain ⟨x,r,q1,q2,q3⟩:=aP.bI h.2
   obtain ⟨q4,q5⟩:=List.cons.inj q1
   have e1:k = g.1:=e1
   have i:=l5 (f:=f) (fs:=fs) (gs:=gs) ⟨e2,by rw [q5]; exact q3⟩
   obtain ⟨gk,gx⟩:=g
   have e1:k = gk:=e1
   subst e1
   have q4:gx = x:=q4
   subst q4
   rw [List.lookup_cons,List.lookup_cons]
   cases z:f == k with
   | true => exact ⟨fun w e => ⟨gx,rfl,by cases e; exact q2⟩,fun e => by cases e⟩
   | false => exact i
theorem uY {f:Str} {v:ai} {x:V} (hv:Rl K ρ H v x):∀ {fs:List (Str × ai)} {gs:List (Str × V)},dO K ρ H fs gs → dO K ρ H (zL f v fs) (gj f x gs)
 | [],gs,h => by
  obtain rfl:gs = []:=List.map_eq_nil_iff.mp h.1.symm
  exact ⟨rfl,aP.one hv⟩
 | (k,w) :: fs,gs,h => by
  cases gs with
  | nil => exact absurd h.1 (by intro z; cases z)
  | cons g gs =>
   obtain ⟨e1,e2⟩:=List.cons.inj h.1
   obtain ⟨y,r,q1,q2,q3⟩:=aP.bI h.2
   obtain ⟨q4,q5⟩:=List.cons.inj q1
   obtain ⟨gk,gx⟩:=g
   have e1:k = gk:=e1
   subst e1
   have q4:gx = y:=q4
   subst q4
   have i:=uY (f:=f) hv (fs:=fs) (gs:=gs) ⟨e2,by rw [q5]; exact q3⟩
   unfold zL gj
   by_cases z:k = f
   ·rw [if_pos z,if_pos z]
    exact ⟨h.1,aP.cons hv (by rw [q5]; exact q3)⟩
   ·rw [if_neg z,if_neg z]
    exact ⟨congrArg (k :: ·) i.1,aP.cons q2 i.2⟩
theorem zM {κ:Type} {ρ':List Addr} {H':Hp} {fs:List (κ × ai)} {gs:List (κ × V)} (e:aC ρ H ρ' H') (h:dO K ρ H fs gs):dO K ρ' H' fs gs:=⟨h.1,aP.mono e _ _ h.2⟩
end
section
variable {X:Cx} {E:XK} {o e value:Expr} {f x:Str} {pos pos' p:Pos} {m mo mv:ME} {cs:List Str} {c:Str} {F:FN} {k j:Nat} {es:List Expr} {ms:MA}
theorem zN (hF:L6 X.K cs f) (ho:PE X o (tE X E m)) (hb:attributeBase o f X.env (eval o X.env) = eval o X.env:=by rfl):PE X (.Attribute o f pos) (tE X E (bh cs f m)):=by
 refine PE.imp (Ex ho hb) ?_
 rintro σ H Q ⟨μ,ρ,st,rs,sr,h⟩
 refine go μ ρ st rs sr h fun d aN ρ1 H1 x e1 bo r1 h1 => ?_
 cases d with
 | loc n =>
  obtain ⟨a,rfl,ha⟩:=r1.cN
  unfold Co at h1
  dsimp only at h1
  cases hn:aN[n]? with
  | none => rw [hn] at h1; exact h1.elim
  | some cl =>
   rw [hn] at h1
   cases cl with
   | ins c fs =>
    obtain ⟨C,dx,gs,hH,p_,pr⟩:=bo.cell n _ a hn ha
    dsimp only at h1
    by_cases hc:c ∈ cs
    ·rw [if_pos hc] at h1
     cases hl:fs.lookup f with
     | none => rw [hl] at h1; exact h1.elim
     | some v =>
      rw [hl] at h1
      obtain ⟨y,hy,ry⟩:=(l5 pr).1 v hl
      obtain ⟨k1,k2⟩:=hF c hc C p_
      exact ⟨a,C,dx,gs,y,rfl,hH,k1,k2,hy,h1 _ _ _ (aC.refl _ _) bo ry⟩
    ·rw [if_neg hc] at h1; exact h1.elim
   | _ => exact h1.elim
 | _ => exact h1.elim
theorem zO (hF:L6 X.K cs f) (ho:PE X o (tE X E mo)) (hv:PE X value (tE X E mv)) (hs:swapsWith value (some (.Attribute o f pos')) pos.line X.env = pure false:=by rfl):PS X (.Assign [.Attribute o f pos'] value pos) (tS X E (fc cs f mo mv)):=by
 refine PS.imp (Ey ho hv hs) ?_
 rintro D σ H ⟨μ,ρ,st,rs,sr,h⟩
 refine Du μ ρ st rs sr h fun v aN ρ1 H1 y e1 bo r1 h1 => ?_
 refine Du μ ρ1 aN (rs.mono e1) bo h1 fun d st2 ρ2 H2 x e2 kg r2 h2 => ?_
 cases d with
 | loc n =>
  obtain ⟨a,rfl,ha⟩:=r2.cN
  unfold Cp at h2
  dsimp only at h2
  cases hn:st2[n]? with
  | none => rw [hn] at h2; exact h2.elim
  | some cl =>
   rw [hn] at h2
   cases cl with
   | ins c fs =>
    obtain ⟨C,dx,gs,hH,p_,pr⟩:=kg.cell n _ a hn ha
    dsimp only at h2
    by_cases hc:c ∈ cs ∧ fs.length < 1000
    ·rw [if_pos hc] at h2
     obtain ⟨k1,k2⟩:=hF c hc.1 C p_
     have hl:gs.length < 1000:=by
      have:=congrArg List.length pr.1
      rw [List.length_map,List.length_map] at this
      lia
     have av:aC ρ2 H2 ρ2 (upd H2 a (.ins C dx (gj f y gs))):=aC.put hH (fun xs e => by cases e) (fun o u e => by cases e)
     refine ⟨a,C,dx,gs,rfl,hH,k1,k2,hl,h2 ρ2 _ σ av (kg.set hn rfl rfl ha hH (fun xs e => by cases e) (fun o u e => by cases e) ⟨C,dx,_,a8,p_,zM av (uY (Rl.mono e2 _ _ r1) pr)⟩) (((rs.mono e1).mono e2).mono av)⟩
    ·rw [if_neg hc] at h2; exact h2.elim
   | _ => exact h2.elim
 | _ => exact h2.elim
theorem SR.made {K:PySem.W.Frag} {ρ:List Addr} {st:ag} {H:Hp} {C y dx:Addr} (sr:SR K ρ st H) (p_:PySem.W.nsIn K mainGlobals c = some (some (.ref C))) (hx:H y = none) (hd:H dx = none) (ne:dx ≠ y) :
  aC ρ H (ρ ++ [y]) (upd (upd H dx (.own y)) y (.ins C dx [])) ∧ SR K (ρ ++ [y]) (st ++ [.ins c []]) (upd (upd H dx (.own y)) y (.ins C dx [])):=by
 have s1:iM H (upd H dx (.own y)):=bN hd
 have h2:upd H dx (.own y) y = none:=by rw [aJ (Ne.symm ne)]; exact hx
 have s2:iM (upd H dx (.own y)) (upd (upd H dx (.own y)) y (.ins C dx [])):=bN h2
 exact ⟨aC.snoc y fun b o q => s2 _ _ (s1 _ _ q),(sr.grow s1).alloc h2 ⟨C,dx,[],a8,p_,rfl,aP.nil⟩⟩
theorem uZ {ρ:List Addr} {y:Addr} {n:Nat} (h:ρ.length = n):(ρ ++ [y])[n]? = some y:=by
 rw [List.getElem?_append_right (by lia),h,Nat.sub_self]; rfl
theorem Gn {C fa:Addr} {fd:FuncData} {ps:List Str} {CX:rQ} (M:Mk X.K C fa) (G:d8 X.prog X.w X.K X.mg X.base CX k fa fd ps (xn ⟨X.K,X.mg,[]⟩ F)) (hr:cL (k + 1) X.A) (hg:Gl X x) (hm:X.mg x = some (.ref C)) (p_:PySem.W.nsIn X.K mainGlobals x = some (some (.ref C)))
  (hb:Binds X.K fd ps []) (hx:Passes CX X E) (ha:PA X (e :: es) (tL X E ms)) (iK:(x == ("__debug__":Str)) = false:=by decide) (he:starEach (e :: es) X.env = (false,eval e X.env) :: starEach es X.env:=by rfl) (eM:(backTo pos (starEach es X.env)).any (·.1) = false:=by rfl) :
  PE X (.Call (.Name x p) (e :: es) [] pos) (tE X E (qJ x F ms)):=by
 refine PE.imp (AV M G hr hg hm hb .nil hx ha iK he eM) ?_
 rintro σ H Q ⟨μ,ρ,st,rs,sr,h⟩
 refine go (R1:=aP X.K) μ ρ st rs sr h fun us aN ρ1 H1 xs e1 bo r1 h1 => ?_
 intro y dx n1 n2 ne
 rw [List.append_nil]
 obtain ⟨q1,q2⟩:=SR.made bo p_ n1 n2 ne
 refine ⟨.loc aN.length :: us,ρ1 ++ [y],aN ++ [.ins x []],aP.cons (Rl.n_ (uZ bo.len)) (aP.mono q1 _ _ r1),q2,?_⟩
 have h1:=wR.mono h1 q1
 unfold Cq at h1
 cases z:F (.loc aN.length :: us) (aN ++ [.ins x []]) with
 | ok v st2 =>
  rw [z] at h1
  intro ρ2 H2 w e2 kg r2
  cases v with
  | bE => exact ⟨r2.gp,h1 ρ2 H2 _ e2 kg (Rl.n_ (e2.at_ (uZ bo.len)))⟩
  | _ => exact h1.elim
 | err c st2 =>
  rw [z] at h1
  exact h1
 | bad => rw [z] at h1; exact h1
theorem Cr {C fa:Addr} {fd:FuncData} {ps:List Str} {CX:rQ} {apos:Pos} {mt:Str} {pl:Sem Bool} (cl:ui X.K C) (hM:Meth X.K C mt fa) (G:d8 X.prog X.w X.K X.mg X.base CX k fa fd ps (xn ⟨X.K,X.mg,[]⟩ F)) (hr:cL k X.A) (p_:PySem.W.nsIn X.K mainGlobals c = some (some (.ref C)))
  (hb:Binds X.K fd ps []) (hx:Passes CX X E) (ho:PE X o (tE X E mo)) (ha:PA X (e :: es) (tL X E ms)) (vy:starEach (e :: es) X.env = (false,eval e X.env) :: starEach es X.env:=by rfl) (eM:(backTo pos (starEach es X.env)).any (·.1) = false:=by rfl)
  (T:PE X (.Call (.Attribute o mt apos) (e :: es) [] pos) (xP C mt (xn ⟨X.K,X.mg,[]⟩ F) [] E (tE X E mo) (tL X E ms))) :
  PE X (.Call (.Attribute o mt apos) (e :: es) [] pos) (tE X E (cQ c mt F mo ms)):=by
 refine PE.imp T ?_
 rintro σ H Q ⟨μ,ρ,st,rs,sr,h⟩
 refine go μ ρ st rs sr h fun d aN ρ1 H1 x e1 bo r1 h1 => ?_
 cases hd:qK c mt aN d with
 | false => rw [hd] at h1; exact h1.elim
 | true =>
  rw [hd,if_pos rfl] at h1
  cases d with
  | loc n =>
   obtain ⟨a,rfl,ha⟩:=r1.cN
   unfold qK at hd
   dsimp only at hd
   cases hn:aN[n]? with
   | none => rw [hn] at hd; cases hd
   | some cl' =>
    rw [hn] at hd
    cases cl' with
    | ins c' fs =>
     obtain ⟨C',dx,gs,hH,L7,pr⟩:=bo.cell n _ a hn ha
     rw [Bool.and_eq_true] at hd
     obtain rfl:c' = c:=of_decide_eq_true hd.1
     obtain rfl:C' = C:=by
      have:=L7.symm.trans p_
      injection this with this; injection this with this; injection this
     refine ⟨a,dx,gs,rfl,hH,(l5 pr).2 (Option.isNone_iff_eq_none.mp hd.2),?_⟩
     refine go (R1:=aP X.K) μ ρ1 aN (rs.mono e1) bo h1 fun us st2 ρ2 H2 xs e2 kg r2 h2 => ?_
     rw [List.append_nil]
     exact ⟨.loc n :: us,ρ2,st2,aP.cons (Rl.mono e2 _ _ (Rl.n_ ha)) r2,kg,wR.pn h2⟩
    | _ => cases hd
  | _ => cases hd
end
end MN
namespace MN
open PySem PySem.Spec L2
open PyProof.Rows hiding St
section
variable {K:PySem.W.Frag} {h:Heap} {mg:Str → Option Value}
noncomputable def dR (K:PySem.W.Frag) (x:Str) (st:Stmt):Prop:=∃ (f:Addr) (fd:FuncData),Au K x x st f fd ∧ PySem.W.nsIn K mainGlobals x = some (some (.ref f))
theorem dR.mk {x:Str} {st:Stmt} {f:Addr} {oc:Value} {od an:Option Addr} {xl:Array (Option Value)} {kV doc pm cZ ct:Value} (a:PySem.W.nsIn K mainGlobals x = some (some (.ref f))) (l:K.lookup f = some ⟨oc,od,.func (PySem.W.fnOf x x (df st) (b! st) (aE st) .none kV doc pm an cZ ct),xl⟩)
  (c:PySem.W.codeIn K cZ x = true) (k:PySem.W.keepIn K (.ref f) = true):dR K x st:=⟨f,_,sC l c k,a⟩
inductive tq (K:PySem.W.Frag):List Str → Prop
 | nil:tq K []
 | cons {x:Str} {r:List Str} (a:PySem.W.nsIn K mainGlobals x = some none) (t:tq K r):tq K (x :: r)
@[reducible] def Cs (mg:Str → Option Value):List Str → Prop
 | [] => True
 | x :: r => mg x = none ∧ Cs mg r
theorem tq.get (X:K.In h) (G:h.Ns mainGlobals mg):∀ {l:List Str},tq K l → Cs mg l
 | _,.nil => trivial
 | _,.cons a t => ⟨PySem.W.mg_none_of X G a,t.get X G⟩
inductive tu (K:PySem.W.Frag):List Str → Prop
 | nil:tu K []
 | cons {x:Str} {r:List Str} {C:Addr} (a:PySem.W.nsIn K mainGlobals x = some (some (.ref C))) (e:PySem.W.excIn K C NM "ValueError.__new__" = true) (s:PySem.W.subIn K (.ref C) (.type "BaseException") = some true) (t:tu K r):tu K (x :: r)
@[reducible] def Ct (K:PySem.W.Frag) (mg:Str → Option Value):List Str → Prop
 | [] => True
 | x :: r => yX K mg x ∧ Ct K mg r
theorem tu.get (X:K.In h) (G:h.Ns mainGlobals mg):∀ {l:List Str},tu K l → Ct K mg l
 | _,.nil => trivial
 | _,.cons a e s t => ⟨⟨_,PySem.W.mg_of X G a,e,s⟩,t.get X G⟩
inductive fD (K:PySem.W.Frag):List (Str × Str × Bool) → Prop
 | nil:fD K []
 | cons {c x:Str} {b:Bool} {C D:Addr} {cd:ClassData} {r:List (Str × Str × Bool)} (h1:PySem.W.nsIn K mainGlobals c = some (some (.ref C))) (h2:PySem.W.nsIn K mainGlobals x = some (some (.ref D))) (h3:PySem.W.clsIn K D = some cd) (h4:PySem.W.typeIn K (.ref D) = some (.type "type")) (h5:PySem.W.subIn K (.ref C) (.ref D) = some b) (t:fD K r):fD K ((c,x,b) :: r)
inductive l6 (K:PySem.W.Frag):List Str → Prop
 | nil:l6 K []
 | cons {c:Str} {C:Addr} {r:List Str} (h1:PySem.W.nsIn K mainGlobals c = some (some (.ref C))) (h3:PySem.W.kitOne K (.ref C) (.type "ValueError") = some true) (t:l6 K r):l6 K (c :: r)
noncomputable def Jj (l:List Str):List (Str × Str × Bool):=l.map fun c => (c,"ValueError",true)
theorem l6.get (X:K.In h) (G:h.Ns mainGlobals mg) (n:PySem.W.nsIn K mainGlobals "ValueError" = some none):∀ {l:List Str},l6 K l → c! K mg (Jj l)
 | _,.nil => .nil
 | _,.cons h1 h3 t => .blt (PySem.W.mg_of X G h1) (PySem.W.mg_none_of X G n) iD h3 (t.get X G n)
theorem fD.get (X:K.In h) (G:h.Ns mainGlobals mg) {l':List (Str × Str × Bool)} (S:c! K mg l'):∀ {l:List (Str × Str × Bool)},fD K l → c! K mg (l ++ l')
 | _,.nil => S
 | _,.cons h1 h2 h3 h4 h5 t => .own (PySem.W.mg_of X G h1) (PySem.W.mg_of X G h2) (wk h3 h4 h5) (t.get X G S)
inductive tw (K:PySem.W.Frag):List Str → Prop
 | nil:tw K []
 | cons {x:Str} {r:List Str} {C:Addr} (a:PySem.W.nsIn K mainGlobals x = some (some (.ref C))) (q:L2.o9 K C = true) (t:tw K r):tw K (x :: r)
theorem tw.get (X:K.In h) (G:h.Ns mainGlobals mg):∀ {l:List Str},tw K l → nh K mg l
 | _,.nil => .nil
 | _,.cons a q t => .cons (PySem.W.mg_of X G a) q (t.get X G)
theorem nh.known {l:List Str} (Q:nh K mg l):Known mg (Kf l):=fun c hc => let ⟨C,h,_⟩:=Q.at_ hc; ⟨C,h⟩
end
section
variable {X:Cx} {E:XK} {pos:Pos} {a b:Expr} {ma mb:ME}
theorem Gp (ha:PE X a (tE X E ma)) (hb:PE X b (tE X E mb)):PE X (.BinOp a .Add b pos) (tE X E (ah bV ma mb)):=gq BD ha hb
theorem Gq (ha:PE X a (tE X E ma)) (hb:PE X b (tE X E mb)):PE X (.BinOp a .Sub b pos) (tE X E (ah eV ma mb)):=gq BE ha hb
theorem Gr (ha:PE X a (tE X E ma)) (hb:PE X b (tE X E mb)):PE X (.BinOp a .Mult b pos) (tE X E (ah cF ma mb)):=gq BF ha hb
theorem Gs (ha:PE X a (tE X E ma)) (hb:PE X b (tE X E mb)):PE X (.BinOp a .FloorDiv b pos) (tE X E (ah dQ ma mb)):=gq yA ha hb
theorem Gu (ha:PE X a (tE X E ma)) (hb:PE X b (tE X E mb)):PE X (.BinOp a .Mod b pos) (tE X E (ah cg ma mb)):=gq BG ha hb
theorem Jk (ha:PE X a (tE X E ma)) (hb:PE X b (tE X E mb)):PT X (.Compare a [.Lt] [b] pos) (tT X E (cA (ah ltV ma mb))):=jK yB ha hb
theorem Jl (ha:PE X a (tE X E ma)) (hb:PE X b (tE X E mb)):PT X (.Compare a [.Gt] [b] pos) (tT X E (cA (ah Dv ma mb))):=jK yC ha hb
theorem Jm (hu:X.A.units + 64 < cLine) (ha:PE X a (tE X E ma)) (hb:PE X b (tE X E mb)):PT X (.Compare a [.Eq] [b] pos) (tT X E (cA (ah gR ma mb))):=jK (yF hu) ha hb
theorem Jn (hu:X.A.units + 64 < cLine) (ha:PE X a (tE X E ma)) (hb:PE X b (tE X E mb)):PT X (.Compare a [.NotEq] [b] pos) (tT X E (cA (ah ij ma mb))):=jK (yG hu) ha hb
theorem Jo (hu:X.A.units + 64 < cLine) (ha:PE X a (tE X E ma)) (hb:PE X b (tE X E mb)):PE X (.Compare a [.Eq] [b] pos) (tE X E (ah gR ma mb)):=jJ (yF hu) ha hb
theorem Jp (hu:X.A.units + 64 < cLine) (ha:PE X a (tE X E ma)) (hb:PE X b (tE X E mb)):PE X (.Compare a [.NotEq] [b] pos) (tE X E (ah ij ma mb)):=jJ (yG hu) ha hb
end
end MN
namespace MN
open PySem PySem.Spec L2
open PyProof.Rows hiding St kindOf
noncomputable def MethAt (P:Program) (w:World) (K:PySem.W.Frag) (mg:Str → Option Value) (base:Heap) (c m:Str) (k:Nat) (F:FN):Prop :=
 ∃ C fa fd ps,L2.ui K C ∧ Meth K C m fa ∧ d8 P w K mg base (gT P w) k fa fd ps (xn ⟨K,mg,[]⟩ F) ∧ PySem.W.nsIn K mainGlobals c = some (some (.ref C)) ∧ Binds K fd ps []
noncomputable def jk (P:Program) (w:World) (K:PySem.W.Frag) (mg:Str → Option Value) (base:Heap) (c:Str) (k:Nat) (F:FN):Prop :=
 ∃ C fa fd ps,Mk K C fa ∧ d8 P w K mg base (gT P w) k fa fd ps (xn ⟨K,mg,[]⟩ F) ∧ mg c = some (.ref C) ∧ PySem.W.nsIn K mainGlobals c = some (some (.ref C)) ∧ Binds K fd ps []
section
variable {X:Cx} {E:XK} {pos p apos:Pos} {o e:Expr} {es:List Expr} {ms:MA} {mo:ME} {F:FN} {x c mt:Str} {k j:Nat}
theorem Cu (G:jk X.prog X.w X.K X.mg X.base x k F) (hr:cL j X.A) (hk:k + 1 ≤ j) (hg:Gl X x) (hx:Passes (gT X.prog X.w) X E) (ha:PA X (e :: es) (tL X E ms)) (iK:(x == ("__debug__":Str)) = false:=by decide)
  (he:starEach (e :: es) X.env = (false,eval e X.env) :: starEach es X.env:=by rfl) (eM:(backTo pos (starEach es X.env)).any (·.1) = false:=by rfl):PE X (.Call (.Name x p) (e :: es) [] pos) (tE X E (qJ x F ms)):=by
 obtain ⟨C,fa,fd,ps,M,G,hm,p_,b⟩:=G
 exact Gn M G (hr.mono hk) hg hm p_ b hx ha iK he eM
theorem zP (G:MethAt X.prog X.w X.K X.mg X.base c mt k F) (hr:cL j X.A) (hk:k ≤ j) (hx:Passes (gT X.prog X.w) X E) (ho:PE X o (tE X E mo)) (ha:PA X (e :: es) (tL X E ms))
  (T:∀ {C fa:Addr} {fd:FuncData} {ps:List Str} {sp:Sp} {ta:TE} {t:TA},PE X o ta → PA X (e :: es) t → L2.ui X.K C → Meth X.K C mt fa → d8 X.prog X.w X.K X.mg X.base (gT X.prog X.w) k fa fd ps sp → cL k X.A → Binds X.K fd ps [] → Passes (gT X.prog X.w) X E →
   PE X (.Call (.Attribute o mt apos) (e :: es) [] pos) (xP C mt sp [] E ta t):=by exact fun h1 h2 cl hM F r b x => AU h1 cl hM F r b .nil x h2)
  (vy:starEach (e :: es) X.env = (false,eval e X.env) :: starEach es X.env:=by rfl) (eM:(backTo pos (starEach es X.env)).any (·.1) = false:=by rfl):PE X (.Call (.Attribute o mt apos) (e :: es) [] pos) (tE X E (cQ c mt F mo ms)):=by
 obtain ⟨C,fa,fd,ps,cl,hM,G,p_,b⟩:=G
 exact Cr (pl:=pure true) cl hM G (hr.mono hk) p_ b hx ho ha vy eM (T ho ha cl hM G (hr.mono hk) b hx)
end
noncomputable def zQ (K:PySem.W.Frag) (mg:Str → Option Value) (c:Str) (fs:List Str):Prop:=∀ C,PySem.W.nsIn K mainGlobals c = some (some (.ref C)) → mg c = some (.ref C) ∧ L2.ui K C ∧ PySem.W.makesIn K C = true ∧ PySem.W.keepIn K (.ref C) = true ∧ ∀ f ∈ fs,gm K C f
theorem zQ.Kj {K:PySem.W.Frag} {mg:Str → Option Value} {c f:Str} {fs:List Str} (h:zQ K mg c fs) (hf:f ∈ fs):L6 K [c] f:=by
 intro c' hc C hC
 rw [List.mem_singleton] at hc
 subst hc
 obtain ⟨_,h2,_,_,h5⟩:=h C hC
 exact ⟨h2,h5 f hf⟩
@[reducible] def Gv (K:PySem.W.Frag) (mg:Str → Option Value):List (Str × List Str) → Prop
 | [] => True
 | (c,fs) :: r => zQ K mg c fs ∧ Gv K mg r
inductive tD (K:PySem.W.Frag) (C:Addr):List Str → Prop
 | nil:tD K C []
 | cons {f:Str} {r:List Str} (a:PySem.W.findIn K (.ref C) f = some none) (t:tD K C r):tD K C (f :: r)
theorem tD.get {K:PySem.W.Frag} {C:Addr}:∀ {l:List Str},tD K C l → ∀ f ∈ l,gm K C f
 | _,.nil => fun f h => by cases h
 | _,.cons a t => fun f h => by
  rcases List.mem_cons.mp h with e | h
  ·subst e; exact a
  ·exact t.get f h
inductive tF (K:PySem.W.Frag):List (Str × List Str) → Prop
 | nil:tF K []
 | cons {c:Str} {fs:List Str} {r:List (Str × List Str)} {C:Addr} (a:PySem.W.nsIn K mainGlobals c = some (some (.ref C))) (p:PySem.W.plainGet K C Str.empty = true) (d:PySem.W.hasDictIn K C = true) (o:PySem.W.plainOver K C = true)
   (s:PySem.W.findIn K (.ref C) "__setattr__" = some (some (.builtin "object.__setattr__"))) (m:PySem.W.makesIn K C = true) (k:PySem.W.keepIn K (.ref C) = true) (f:tD K C fs) (t:tF K r):tF K ((c,fs) :: r)
theorem tF.get {K:PySem.W.Frag} {h:Heap} {mg:Str → Option Value} (X:K.In h) (G:h.Ns mainGlobals mg):∀ {l:List (Str × List Str)},tF K l → Gv K mg l
 | _,.nil => trivial
 | _,.cons a p d o s m k f t => ⟨fun C hC => by
   have e:=hC.symm.trans a
   cases e
   exact ⟨PySem.W.mg_of X G a,⟨p,d,o,s⟩,m,k,f.get⟩,t.get X G⟩
noncomputable def pj (K:PySem.W.Frag) (c m q:Str) (st:Stmt):Prop:=∃ (C f:Addr) (fd:FuncData),PySem.W.nsIn K mainGlobals c = some (some (.ref C)) ∧ PySem.W.findIn K (.ref C) m = some (some (.ref f)) ∧ PySem.W.isFn K (.ref f) = true ∧ Au K m q st f fd
theorem pj.mk {K:PySem.W.Frag} {c m q:Str} {st:Stmt} {C f:Addr} {oc:Value} {od an:Option Addr} {xl:Array (Option Value)} {kV doc pm cZ ct:Value} (n:PySem.W.nsIn K mainGlobals c = some (some (.ref C))) (a:PySem.W.findIn K (.ref C) m = some (some (.ref f))) (i:PySem.W.isFn K (.ref f) = true)
  (l:K.lookup f = some ⟨oc,od,.func (PySem.W.fnOf m q (df st) (b! st) (aE st) .none kV doc pm an cZ ct),xl⟩) (d:PySem.W.codeIn K cZ q = true) (k:PySem.W.keepIn K (.ref f) = true):pj K c m q st:=⟨C,f,_,n,a,i,sC l d k⟩
section
variable {P:Program} {w:World} {K:PySem.W.Frag} {mg:Str → Option Value} {base:Heap} {c m q:Str} {st:Stmt} {N ps fs:List Str} {k:Nat} {body:MB}
theorem MethAt.mk (M:pj K c m q st) (cl:zQ K mg c fs) (S:cw N ps (aE st))
  (hb:∀ (kV doc pm:Value) (an:Option Addr) (cZ ct:Value) (us:List Value),us.length = ps.length → bindArgs (PySem.W.fnOf m q (df st) (b! st) (aE st) .none kV doc pm an cZ ct) ⟨us,[]⟩ = pure (ps.zip us))
  (h:∀ (f:Addr) (cZ:Value) (A:Around) (outer:List PySem.Env) (s:Shared) (H:Hp) (E:XK),cL k (A.deeper (envOfC q (aE st) s.heap.objs.size f cZ)) →
   gS (eO (gT P w) P w K mg base N q (aE st) f cZ A outer s H E) (b! st) (tS (eO (gT P w) P w K mg base N q (aE st) f cZ A outer s H E) E body)):MethAt P w K mg base c m (k + 1) (fJ ps.length N.length body):=by
 obtain ⟨C,f,fd,n,a,i,F⟩:=M
 exact ⟨C,f,fd,ps,(cl C n).2.1,⟨a,i,F.kp⟩,o4 F S (h f),n,F.binds hb⟩
theorem jk.mk (M:pj K c "__init__" q st) (cl:zQ K mg c fs) (S:cw N ps (aE st))
  (hb:∀ (kV doc pm:Value) (an:Option Addr) (cZ ct:Value) (us:List Value),us.length = ps.length → bindArgs (PySem.W.fnOf "__init__" q (df st) (b! st) (aE st) .none kV doc pm an cZ ct) ⟨us,[]⟩ = pure (ps.zip us))
  (h:∀ (f:Addr) (cZ:Value) (A:Around) (outer:List PySem.Env) (s:Shared) (H:Hp) (E:XK),cL k (A.deeper (envOfC q (aE st) s.heap.objs.size f cZ)) →
   gS (eO (gT P w) P w K mg base N q (aE st) f cZ A outer s H E) (b! st) (tS (eO (gT P w) P w K mg base N q (aE st) f cZ A outer s H E) E body)):jk P w K mg base c (k + 1) (fJ ps.length N.length body):=by
 obtain ⟨C,f,fd,n,a,i,F⟩:=M
 obtain ⟨g1,_,g3,g4,_⟩:=cl C n
 exact ⟨C,f,fd,ps,⟨g3,a,i,g4⟩,o4 F S (h f),g1,n,F.binds hb⟩
end
end MN
namespace SO
open PySem PySem.W PyProof.Rows
noncomputable def fW (f:Nat → Int):Nat → Int
 | 0 => f 0
 | j + 1 => if f (j + 1) > fW f j then f (j + 1) else fW f j
theorem g6 (f:Nat → Int):∀ j,f (argBest (fun i j => decide (f i > f j)) j) = fW f j
 | 0 => rfl
 | j + 1 => by
  have ih:=g6 f j
  show f (if decide (f (j + 1) > f (argBest (fun i j => decide (f i > f j)) j)) = true then j + 1 else argBest (fun i j => decide (f i > f j)) j) = if f (j + 1) > fW f j then f (j + 1) else fW f j
  rw [ih]
  by_cases c:f (j + 1) > fW f j
  ·rw [if_pos (decide_eq_true c),if_pos c]
  ·rw [if_neg (by rw [decide_eq_false c]; exact Bool.false_ne_true),if_neg c,ih]
theorem l7 {f g:Nat → Int}:∀ {j:Nat},(∀ i,i ≤ j → f i = g i) → fW f j = fW g j
 | 0,h => h 0 (Nat.le_refl _)
 | j + 1,h => by
  unfold fW
  rw [l7 (j:=j) fun i hi => h i (by lia),h (j + 1) (Nat.le_refl _)]
section
variable {prog:Program} {w:World} {A:Around} {E:Value → Shared → Prop} {s:Shared} {l:Addr} {us:List Value} {ns:List Int}
theorem wL {Q:Value → Shared → Prop} (hh:A.handled = none) (hl:s.heap.IsTuple l us.toArray) (ia:IntsAre us ns) (Gw:ns ≠ [])
  (h:∀ t h' tk,(∀ b o,s.heap.get? b = some o → h'.get? b = some o) → Q (.int (fW (fun i => ns.getD i 0) (ns.length - 1)) t) { s with heap:=h',toks:=tk }) :
  wpAny (model prog w) A (call (.builtin "max") [.ref l]) Q E s:=by
 obtain ⟨xs,ex,sx,nx⟩:=tm ia
 rw [ex] at hl
 have jC:l < s.heap.objs.size:=by obtain ⟨_,e,_⟩:=id hl; exact Heap.lt_size e
 have Gx:0 < xs.size:=by
  rw [sx]
  cases ns with
  | nil => exact absurd rfl Gw
  | cons => exact Nat.succ_pos _
 refine call_max_walk (wpAny_pyIter_tuple hl ?_)
 refine ⟨_,[_,l],[_],_,_,_,_,rfl,Walks.tuple (A:=A.in1) hh _ l (Nat.ne_of_lt jC) (intItems xs),
  ⟨⟨_,Heap.get?_push_size _ rfl,rfl,rfl⟩,hl.push _⟩,fun c hc => ?_,by simpa [intItems] using Gx,CmpOf.ints_gt (numAt xs) (fun _ _ => intItems_at),fun v h' tk hP hk => ?_⟩
 ·show c < (s.heap.push _).objs.size
  rw [Heap.size_push]
  rcases List.mem_cons.mp hc with rfl | hc
  ·exact Nat.lt_succ_self _
  ·rcases List.mem_cons.mp hc with rfl | hc
   ·exact Nat.lt_succ_of_lt jC
   ·cases hc
 ·have hold:∀ c o,s.heap.get? c = some o → h'.get? c = some o:=fun c o e => by
   refine hk c o (fun hm => ?_) (Heap.get?_push_of_some _ e)
   rcases List.mem_cons.mp hm with e1 | hm
   ·have:=Heap.lt_size e; rw [e1] at this; exact Nat.lt_irrefl _ this
   ·cases hm
  obtain ⟨t,rfl⟩:=intItems_at hP
  have ev:numAt xs (argBest (fun i j => decide (numAt xs i > numAt xs j)) ((intItems xs).size - 1)) = fW (fun i => ns.getD i 0) (ns.length - 1):=by
   rw [g6 (numAt xs),show (intItems xs).size - 1 = ns.length - 1 by rw [← sx]; simp [intItems]]
   exact l7 fun i _ => nx i
  rw [ev]
  exact h t h' tk hold
theorem zR {Q:Value → Shared → Prop} {d:Addr} {aD:List (L2.cq × Value)} {ep:Nat} (hh:A.handled = none) (lo:(d == sysModules) = false) (rT:s.heap.DictAt (L2.bS prog w) d aD ep) (hk:aD.map (·.1) = ns.map Sum.inl) (Gw:ns ≠ [])
  (h:∀ t h' tk,(∀ b o,s.heap.get? b = some o → h'.get? b = some o) → Q (.int (fW (fun i => ns.getD i 0) (ns.length - 1)) t) { s with heap:=h',toks:=tk }) :
  wpAny (model prog w) A (call (.builtin "max") [.ref d]) Q E s:=by
 have jC:d < s.heap.objs.size:=rT.lt_size
 have hlen:aD.length = ns.length:=by have:=congrArg List.length hk; simpa using this
 have Gx:0 < aD.length:=by
  rw [hlen]
  cases ns with
  | nil => exact absurd rfl Gw
  | cons => exact Nat.succ_pos _
 have key:∀ i v,(∃ k x,aD[i]? = some (k,x) ∧ (L2.bS prog w).is k v = true) → ∃ t,v = .int (ns.getD i 0) t:=by
  rintro i v ⟨k,x,e,hv⟩
  have e1:(aD.map (·.1))[i]? = some k:=by rw [List.getElem?_map,e]; rfl
  rw [hk,List.getElem?_map] at e1
  cases z:ns[i]? with
  | none => rw [z] at e1; cases e1
  | some n =>
   rw [z] at e1
   cases e1
   rw [List.getD_eq_getElem?_getD,z]
   cases v with
   | int m t =>
    have:m = n:=by
     have JS:L2.j? (.inl n) (.int m t) = true:=hv
     unfold L2.j? at JS
     exact beq_iff_eq.mp JS
    exact ⟨t,by rw [this]; rfl⟩
   | _ => exact absurd hv (by intro z; cases z)
 refine call_max_walk (wpAny_pyIter_dict lo rT ?_)
 refine ⟨_,[_,d],[_],_,_,_,_,rfl,Walks.dictKeys (A:=A.in1) (knd:=L2.bS prog w) hh _ d (Nat.ne_of_lt jC) aD ep,
  ⟨⟨_,Heap.get?_push_size _ rfl,rfl,rfl⟩,rT.push _⟩,fun c hc => ?_,Gx,CmpOf.ints_gt (fun i => ns.getD i 0) key,fun v h' tk hP NW => ?_⟩
 ·show c < (s.heap.push _).objs.size
  rw [Heap.size_push]
  rcases List.mem_cons.mp hc with rfl | hc
  ·exact Nat.lt_succ_self _
  ·rcases List.mem_cons.mp hc with rfl | hc
   ·exact Nat.lt_succ_of_lt jC
   ·cases hc
 ·have hold:∀ c o,s.heap.get? c = some o → h'.get? c = some o:=fun c o e => by
   refine NW c o (fun hm => ?_) (Heap.get?_push_of_some _ e)
   rcases List.mem_cons.mp hm with e1 | hm
   ·have:=Heap.lt_size e; rw [e1] at this; exact Nat.lt_irrefl _ this
   ·cases hm
  obtain ⟨t,rfl⟩:=key _ _ hP
  have ev:=g6 (fun i => ns.getD i 0) (aD.length - 1)
  dsimp only at ev ⊢
  rw [ev,hlen]
  exact h t h' tk hold
end
end SO
namespace L2
open PySem PySem.Spec PyProof.Rows
section
variable {X:Cx}
theorem qL (hh:X.A.handled = none):aU X (.builtin "max") (fun xs H Q => ∃ a ns,xs = [.ref a] ∧ ig X.K H a (ns.map V.int) ∧ ns ≠ [] ∧ Q (.int (SO.fW (fun i => ns.getD i 0) (ns.length - 1))) H):=by
 rintro af s σ H xs ws Q I r ⟨a,ns,rfl,ha,Gw,q⟩
 obtain ⟨u,rfl,ru⟩:=vals1 r
 cases ru
 obtain ⟨aH,r1,p1,_⟩:=I.tuple ha
 exact SO.wL hh (by obtain ⟨o,h1,h2,n,h3⟩:=p1; exact ⟨o,h1,h2,n,h3⟩) (intsAre_of r1) Gw fun t h' tk hk => ⟨.int _,H,I.kept hk,⟨_,rfl⟩,q⟩
theorem pq (hh:X.A.handled = none):aU X (.builtin "max") (fun xs H Q => ∃ (d:Addr) (aD:List (cq × V)) (ns:List Int),xs = [.ref d] ∧ Rd H d (.dK aD) ∧ aD.map (·.1) = ns.map Sum.inl ∧ ns ≠ [] ∧ Q (.int (SO.fW (fun i => ns.getD i 0) (ns.length - 1))) H):=by
 rintro af s σ H xs ws Q I r ⟨d,aD,ns,rfl,hd,hk,Gw,q⟩
 obtain ⟨u,rfl,ru⟩:=vals1 r
 cases ru
 obtain ⟨z,lo,vs,rel,dd⟩:=nW I.bt hd
 obtain ⟨ep,rT⟩:=dd.dictAt
 have e:vs.map (·.1) = aD.map (·.1):=by
  have:∀ {a:List (cq × V)} {b:List (cq × Value)},KV a b → b.map (·.1) = a.map (·.1):=by
   intro a b r
   induction r with
   | nil => rfl
   | cons h _ ih => rw [List.map_cons,List.map_cons,ih,h.1]
  exact this rel
 exact SO.zR hh lo rT (e.trans hk) Gw fun t h' tk hk => ⟨.int _,H,I.kept hk,⟨_,rfl⟩,q⟩
theorem wM:aU X (.builtin "len") (fun xs H Q => ∃ a aD,xs = [V.ref a] ∧ Rd H a (.dK aD) ∧ Q (.int aD.length) H):=by
 intro af s σ H xs us Q I r h
 obtain ⟨a,aD,rfl,ha,q⟩:=h
 obtain ⟨u,rfl,ru⟩:=vals1 r
 cases ru
 obtain ⟨z,lo,vs,rel,o,es,ep,h1,h2,h3,h4⟩:=nW I.bt ha
 have hp:=h4.2.1
 have el:es.size = aD.length:=by
  have e1:=hp.length
  rw [← rel.length] at e1
  simpa using e1
 refine SO.Cm lo ⟨o,h1,h2.1,h3⟩ (by rw [sizeLine_eq] at z; lia) ⟨.int aD.length,H,I.tok _,⟨_,by rw [el]⟩,q⟩
theorem Cv:cV X (binaryOp .LShift) (rI (fun i j => 0 ≤ j ∧ j ≤ 100000 ∧ i.natAbs < 2 ^ 100000) fun i j => .int (i * 2 ^ j.toNat)):=GY fun i j _ _ _ _ _ hc q => lshift_int hc.1 (by
  have h1:=intBits_le_iff.mpr hc.2.2
  have h2:=hc.2.1
  have h3:(2:Int) ^ 27 = 134217728:=by decide
  rw [h3]
  lia) q
end
end L2
namespace DL
open PySem
section
variable {prog:Program} {w:World} {A:Around} {E:Value → Shared → Prop} {s:Shared}
variable {K:Type} [DecidableEq K] {knd:KeyKind prog w K}
noncomputable def fD (knd:KeyKind prog w K) (h:Heap) (u:Value) (q:K × Value):Prop :=
 ∃ a o aH n key,u = .ref a ∧ h.get? a = some o ∧ o.cls = .type "tuple" ∧ o.data = .seq aH n ∧ aH.toList = [key,q.2] ∧ knd.is q.1 key = true
theorem fD.mono {h h':Heap} {u:Value} {q:K × Value} (x:fD knd h u q) (hk:Keeps h h'):fD knd h' u q:=by
 obtain ⟨a,o,aH,n,key,e,h1,h2,h3,h4,h5⟩:=x
 exact ⟨a,o,aH,n,key,e,hk _ _ h1,h2,h3,h4,h5⟩
noncomputable def pv (qs:List (K × Value)):List (K × Value) → List (K × Value):=fun xs => qs.foldl (fun xs q => stored xs q.1 q.2) xs
theorem qM (xs:List (K × Value)) (q:K × Value):(stored xs q.1 q.2).length ≤ xs.length + 1:=by
 unfold stored
 split
 ·rw [List.length_map]; lia
 ·rw [List.length_append]; exact Nat.le_refl _
theorem Jq {B:Heap} {l d it:Addr} {items:Array Value} {R:Result → Shared → Prop} (hh:A.in1.handled = none) (hl:B.IsList l items) (hd:B.get? d = none) (hi:B.get? it = none) (L8:d ≠ it):∀ (qs:List (K × Value)) (j:Nat) (xs:List (K × Value)) (s:Shared),j + qs.length = items.size →
  (∀ (i:Nat) q,qs[i]? = some q → ∃ u,items[j + i]? = some u ∧ fD knd B u q) → Keeps B s.heap → s.heap.IsListIter it l j → s.heap.DictOf knd d xs → xs.length + qs.length ≤ sizeLine →
  (∀ h' tk,Keeps B h' → h'.DictOf knd d (pv qs xs) → R (.ok (.ret .none)) { s with heap:=h',toks:=tk }) →
  codeAny (model prog w) A (.builtin "dict.update.loop" ⟨[.ref d,.ref it,rawInt (j:Int),.none],[]⟩) R s:=by
 have keep:∀ {h h':Heap} {x:Addr},Keeps B h → B.get? x = none → Heap.SameBut x h h' → Keeps B h':=fun hk hx hs b u e => (hs.2 b (fun z => by rw [z,hx] at e; cases e)).trans (hk b u e)
 intro qs
 induction qs with
 | nil =>
  intro j xs s hj hq hk hit L9 hz hR
  refine codeAny_builtin lZ ?_
  rw [Around.under_plainId gC _]
  show wpAny _ A.in1 (pyNext (.ref it) >>= _) _ _ s
  obtain ⟨ol,L_,L!⟩:=id hl
  refine wpAny_bind (wpAny_pyNext_list_end hh hit ⟨ol,hk _ _ L_,L!⟩ (Array.getElem?_eq_none (by simp at hj; lia)) fun h' hx => ?_)
  exact wpAny_bind (wpAny_pure (wpAny_pure (hR h' s.toks (fun b u e => hx b u (fun z => by rw [z,hi] at e; cases e) (hk b u e)) (L9.extBut hx L8))))
 | cons q qs ih =>
  intro j xs s hj hq hk hit L9 hz hR
  obtain ⟨u,Pf,hp⟩:=hq 0 q rfl
  refine codeAny_builtin lZ ?_
  rw [Around.under_plainId gC _]
  show wpAny _ A.in1 (pyNext (.ref it) >>= _) _ _ s
  obtain ⟨ol,L_,L!⟩:=id hl
  refine wpAny_bind (wpAny_pyNext_list_item hit ⟨ol,hk _ _ L_,L!⟩ Pf fun h1 L? c5 => ?_)
  have k1:Keeps B h1:=keep hk hi c5
  obtain ⟨a,o,aH,n,key,rfl,g1,g2,g3,g4,g5⟩:=hp.mono k1
  have d1:h1.DictOf knd d xs:=L9.extBut c5.extBut L8
  dsimp only
  refine wpAny_bind (wpAny_holding (wpAny_bind (wpAny_tryCatch ?_)))
  unfold Builtin.Dict.pairItems
  refine wpAny_bind (wpAny_typeOf (T:="tuple") ⟨o,g1,g2⟩ ?_)
  rw [if_pos (by decide)]
  refine wpAny_bind (wpAny_seqItems g1 g3 ?_)
  refine wpAny_pure ?_
  show wpAny _ _ (match aH.toList with | [k,v] => _ | l => _) _ _ _
  rw [g4]
  dsimp only
  refine wpAny_holding (wpAny_dictSet_pairs (hsz:=by simp at hz; lia) g5 d1 fun h2 d2 bT => ?_)
  have k2:Keeps B h2:=keep k1 hd bT
  refine wpAny_pure ⟨plainId_quiet gC _,?_⟩
  have L':h2.IsListIter it l (j + 1):=by
   obtain ⟨oi,i1,r⟩:=L?
   exact ⟨oi,(bT.2 it (Ne.symm L8)).trans i1,r⟩
  have:=ih (j + 1) _ { s with heap:=h2,toks:=s.toks + 1 } (by simp at hj; lia) (fun i q' e => by
   have:=hq (i + 1) q' e
   rwa [show j + (i + 1) = j + 1 + i by lia] at this) k2 L' d2 (by have:=qM xs q; simp at hz; lia) fun h' tk a b => hR h' tk a b
  exact this
theorem Jr {l:Addr} {o:Obj} {items:Array Value} {n:Nat} {qs:List (K × Value)} {Q:Value → Shared → Prop} (hh:A.handled = none) (ho:s.heap.get? l = some o) (hc:o.cls = .type "list") (nj:o.data = .seq items n) (Ma:o.dict = none)
  (hq:∀ (i:Nat) q,qs[i]? = some q → ∃ u,items[i]? = some u ∧ fD knd s.heap u q) (hlen:qs.length = items.size) (hz:qs.length ≤ sizeLine)
  (h:∀ h' tk,Keeps s.heap h' → h'.DictOf knd s.heap.objs.size (pv qs []) → Q (.ref s.heap.objs.size) { s with heap:=h',toks:=tk }):wpAny (model prog w) A (call (.type "dict") [.ref l]) Q E s:=by
 refine callType_codes (Q₁:=fun obj s₁ => obj = .ref s.heap.objs.size ∧ s₁ = { s with heap:=s.heap.push { cls:=.type "dict",data:=.dict #[] } }) F.kt_called_dict (F.kt_typeCall_dict_1 _) F.entry_dict_init (kt_code_dict_new _ ⟨rfl,rfl⟩) ?_
 rintro obj s₁ ⟨rfl,rfl⟩
 obtain ⟨h0,e0⟩:∃ h0,h0 = s.heap.push { cls:=.type "dict",data:=.dict #[] }:=⟨_,rfl⟩
 have new:h0.DictOf knd s.heap.objs.size []:=by rw [e0]; exact Heap.DictOf.new s.heap
 have k0:Keeps s.heap h0:=fun b u e => by rw [e0]; exact Heap.get?_push_of_some _ e
 have T:({ s with heap:=h0 }:Shared).TypeIs (.ref s.heap.objs.size) "dict":=Heap.DictOf.typeIs (s:={ s with heap:=h0 }) new
 rw [← e0]
 refine ⟨T,F.args_dict_init_2 _ _,?_⟩
 unfold Builtin.«dict.__init__»
 refine wpAny_bind ?_
 unfold Builtin.Dict.selfAndRest
 refine wpAny_bind (wpAny_notOrdered_dict T ?_)
 show wpAny _ _ (pure (s.heap.objs.size,[Value.ref l])) _ _ _
 refine wpAny_pure ?_
 show wpAny _ _ (Builtin.Dict.updateFrom "dict.__init__" s.heap.objs.size (.ref l) [] .none) _ _ _
 unfold Builtin.Dict.updateFrom
 refine wpAny_bind (wpAny_typeOf (T:="list") ⟨o,k0 _ _ ho,hc⟩ ?_)
 rw [if_pos (by decide)]
 refine wpAny_bind (wF (s:={ s with heap:=h0 }) (k0 _ _ ho) hc nj Ma hh fun h1 tk k1 => ?_)
 rw [if_pos (show (none:Option Value).isNone = true from rfl)]
 refine wpAny_bind (wpAny_rule ?_)
 have hl:s.heap.IsList l items:=⟨o,ho,hc,n,nj⟩
 have Mb:Keeps s.heap h1:=fun b u e => k1 b u (k0 b u e)
 refine wpAny_bind (wpAny_pyIter_list (s:={ s with heap:=h1,toks:=tk }) (items:=items) ⟨o,Mb _ _ ho,hc,n,nj⟩ ?_)
 have fresh:s.heap.get? h1.objs.size = none:=by
  cases z:s.heap.get? h1.objs.size with
  | none => rfl
  | some u => exact absurd (Heap.lt_size (Mb _ _ z)) (Nat.lt_irrefl _)
 have lt:s.heap.objs.size < h1.objs.size:=by
  obtain ⟨q,_,_,hq,_⟩:=new
  exact Heap.lt_size (k1 _ _ hq)
 refine wpAny_pure ⟨plainId_quiet gC _,?_⟩
 obtain ⟨h2,e2⟩:∃ h2,h2 = h1.push { cls:=.type "list_iterator",data:=.fields #[.ref l,.int 0 0] }:=⟨_,rfl⟩
 have k2:∀ b u,h1.get? b = some u → h2.get? b = some u:=fun b u e => by rw [e2]; exact Heap.get?_push_of_some _ e
 have:=Jq (knd:=knd) (A:=A.in1) (B:=s.heap) (l:=l) (d:=s.heap.objs.size) (it:=h1.objs.size) (items:=items) (R:=wants (fun r s₂ => r = .none ∧ Q (.ref s.heap.objs.size) s₂) E) hh hl (Heap.get?_none_of_le (Nat.le_refl _)) fresh (Nat.ne_of_lt lt)
  qs 0 [] { s with heap:=h2,toks:=tk } (by lia) (fun i q e => by rw [Nat.zero_add]; exact hq i q e) (fun b u e => k2 b u (Mb b u e)) ⟨_,by rw [e2]; exact Heap.get?_push_size _ rfl,rfl,rfl⟩ (new.extBut (b:=h1.objs.size) (fun b u _ e => k2 b u (k1 b u e)) (Nat.ne_of_lt lt)) (by simpa using hz) (fun h' Ki a b => ⟨rfl,h h' Ki a b⟩)
 rw [e2] at this
 exact this
end
end DL
namespace L2
open PySem PySem.Spec PyProof.Rows
section
variable {X:Cx} {af:List (Addr × Obj)} {σ:St} {H:Hp} {s:Shared} {a:Addr} {aD:List (cq × V)}
theorem wN (I:aG X af σ H s) (e:H a = some (.dK aD)):∃ o,s.heap.get? a = some o ∧ aG X af σ (upd H a (.fh o (.dK aD))) s:=by
 obtain ⟨z,hd,vs,rel,dd⟩:=H_ I.bt e
 obtain ⟨o,es,ep,ho,r⟩:=id dd
 exact ⟨o,ho,A? (h':=s.heap) (t':=s.toks) (ob:=.fh o (.dK aD)) I (by rw [e]; exact True.intro) ⟨rfl,fun _ _ => rfl⟩ ⟨o,ho⟩ ⟨ho,z,hd,vs,rel,dd⟩⟩
theorem Gy {κ:Type}:∀ {aD:List (κ × V)} {vs:List (κ × Value)},KV aD vs → ∀ {i:Nat} {k:κ} {x:V},aD[i]? = some (k,x) → ∃ u,vs[i]? = some (k,u) ∧ bc x u:=by
 intro aD vs r
 induction r with
 | nil => intro i k x e; cases e
 | @cons p q ps qs h _ ih =>
  intro i k x e
  cases i with
  | zero =>
   cases e
   obtain ⟨q1,q2⟩:=q
   obtain ⟨h1,h2⟩:=h
   have h1:k = q1:=h1
   exact ⟨q2,by rw [h1]; rfl,h2⟩
  | succ i => exact ih e
theorem Gz {P:Program} {w:World} {k:cq} {u:Value} (h:(bS P w).is k u = true):bc (kV k) u:=by
 rcases bW (k:=k) (v:=u) h with ⟨i,t,rfl,rfl⟩ | ⟨x,t,rfl,rfl⟩
 ·exact ⟨t,rfl⟩
 ·exact ⟨t,rfl⟩
end
noncomputable def Js (d:Addr) (o:Obj):It :=
 ⟨fun i H => ∃ aD k x,H d = some (.fh o (.dK aD)) ∧ aD[i]? = some (k,x),
  fun i H v H' => ∃ p k x,v = .ref p ∧ H p = none ∧ H' = upd H p (.tup [kV k,x]) ∧ ∀ aD,H d = some (.fh o (.dK aD)) → aD[i]? = some (k,x),
  fun i H => ∃ aD,H d = some (.fh o (.dK aD)) ∧ aD.length ≤ i⟩
theorem zS {P:Program} {w:World} {H:Hp} {h:Heap} {d:Addr} {o:Obj} {es:Array DictEntry} {ep:Nat} {aD:List (cq × V)} (ho:o.data = .dict es ep) (ok:fS P w H h) (hd:H d = some (.fh o (.dK aD))):∃ vs,KV aD vs ∧ h.DictAt (bS P w) d vs ep ∧ vs.length = es.size:=by
 obtain ⟨Mc,z,Pg,vs,rel,dd⟩:=(show bL P w H h d (.fh o (.dK aD)) from ok d _ hd)
 obtain ⟨JP,rT⟩:=dd.dictAt
 obtain ⟨o',Ar,mQ,ba,qN,NW,Ph,DZ⟩:=id rT
 obtain rfl:o = o':=by rw [Mc] at mQ; exact Option.some.inj mQ
 rw [ho] at qN
 injection qN with e1 e2
 subst e1 e2
 refine ⟨vs,rel,rT,?_⟩
 have:=Ph.length
 simpa using this.symm
theorem wO {prog:Program} {w:World} {A:Around} {E:Value → Shared → Prop} {s:Shared} {it d:Addr} {i n ep:Nat} {ok ov:Value} {Q:Value → Shared → Prop} (he:IsItemIter s.heap it d i n ep ok ov) (h:Q (.ref it) s):wpAny (model prog w) A (pyIter (.ref it)) Q E s:=by
 have hT:s.TypeIs (.ref it) "dict_itemiterator":=⟨_,he,rfl⟩
 refine wpAny_pyIter_slot hT F.slot_dict_itemiterator_iter (wpAny_call_entry F.slot_dict_itemiterator_iter hT PySem.W.kcp_entry ?_ (F.args_dict_itemiterator_iter_1 _))
 show wpAny _ _ (ret (.ref it)) _ _ s
 exact wpAny_pure ⟨_,rfl,"dict_itemiterator",_,hT,F.slot_dict_itemiterator_next.lookup,h⟩
theorem tH {P:Program} {w:World} {K:PySem.W.Frag} {elts:List Expr} {kt:Nat} {tp:Pos} {d it:Addr} {o:Obj} {es:Array DictEntry} {ep:Nat} (ho:o.data = .dict es ep) :
  Turn P w K (.Tuple elts kt tp) (Js d o) [it] it (fun i h => ∃ ok ov,IsItemIter h it d i es.size ep ok ov) where
 mem:=by simp
 obj:=fun i h ⟨ok,ov,he⟩ c hc => by
  have ba:c = it:=by simpa using hc
  subst ba
  exact ⟨_,he,fun v q => by have q':Data.fields _ = Data.cell v:=q; cases q'⟩
 keep:=fun i h h' ⟨ok,ov,he⟩ k => ⟨ok,ov,k it (by simp) _ he⟩
 item:=by
  intro X hP hw hK hc i af s σ H E I hf st hg
  subst hP hw hK
  obtain ⟨ok,ov,he⟩:=st
  obtain ⟨aD,k,x,hd,ex⟩:=hg
  obtain ⟨vs,rel,rT,hl⟩:=zS ho I.bt hd
  obtain ⟨ux,Im,rx⟩:=Gy rel ex
  have fz:=hf it (by simp)
  refine wpAny_pyNext_items_item (by rw [hl]; exact he) rT Im fun key h' Eu a1 a3 a4 a5 => ⟨_,rfl,?_⟩
  have hT:H s.heap.objs.size = none:=I.bt.fresh (Nat.le_refl _)
  have Bk:∀ c ∈ [it],H c = none:=fun c ba => (hf c ba).1
  have kp:∀ c u,c ∉ [it] → s.heap.get? c = some u → h'.get? c = some u:=fun c u ba q => a5 c u (fun z => ba (by simp [z])) q
  have kU:∀ c u,H c = some u → c ∉ [it]:=fun c u q ba => by rw [Bk c ba] at q; cases q
  have bt:fS X.prog X.w (upd H s.heap.objs.size (.tup [kV k,x])) h':=fun c u q => by
   by_cases Dq:c = s.heap.objs.size
   ·subst Dq
    rw [a8] at q
    cases q
    exact ⟨by show 2 ≤ sizeLine; decide,[key,ux],.cons (Gz Eu) (.cons rx .nil),_,a3,rfl,_,rfl⟩
   ·rw [aJ Dq] at q
    refine (I.bt c u q).iH (fun d v hd z => kp d v ?_ z) (fun d z => by rw [aJ (aK z hT)]; exact z) fun d zs z => by rw [aJ (aK z hT)]; exact z
    rcases hd with q' | q'
    ·rw [q']; exact kU c u q
    ·exact kU d _ q'
  have un:Un (ei X.stack) [it] H (upd H s.heap.objs.size (.tup [kV k,x])) s.heap h' :=
   ⟨fun c o q n _ ba => kp c o ba q,fun c o q n _ ba => ⟨o.slots,kp c o ba q⟩,fun c o q n ba => by rw [aJ (Nat.ne_of_lt (Heap.lt_size q))]; exact n,fun c o q ba => ⟨o,kp c o ba q⟩,
    fun c zs q => by rw [aJ (aK q hT)]; exact q,fun c o u q => by rw [aJ (aK q hT)]; exact q,fun c ps q => ⟨#[],by rw [aJ (aK q hT),q]; simp⟩⟩
  have I1:aG X af σ (upd H s.heap.objs.size (.tup [kV k,x])) { s with heap:=h' }:=I.kZ (s':={ s with heap:=h' }) rfl un bt I.bare fun c ba => by
   obtain ⟨f0,f1,f2,f3,f4,f5⟩:=hf c ba
   exact ⟨f3,f1,f4,f5⟩
  have jC:it < s.heap.objs.size:=Heap.lt_size he
  have E4:∀ c ∈ [it],(upd H s.heap.objs.size (.tup [kV k,x])) c = none:=fun c ba => by
   have yo:c = it:=by simpa using ba
   subst yo
   rw [aJ (Nat.ne_of_lt jC)]; exact (hf c ba).1
  refine wpAny_letOwnedTupleGo_items a1 fun Bl Md sb => ?_
  obtain ⟨f0,f1,f2,f3,f4,f5⟩:=fz
  have I2:aG X af σ (upd H s.heap.objs.size (.tup [kV k,x])) { s with heap:=Bl }:=I1.turned (s:={ s with heap:=h' }) (t':=s.toks) (it:=it) (fun c o ba q => (sb.2 c ba).trans q) (E4 it (by simp)) f1 f3 f4 f5
  exact ⟨.ref s.heap.objs.size,_,I2,rfl,⟨_,k,x,rfl,hT,rfl,fun zs hs => by rw [hd] at hs; cases hs; exact ex⟩,⟨_,_,by rw [← hl]; exact Md⟩,E4⟩
 done:=by
  intro X hP hw hK hc i af s σ H E I hf st hg
  subst hP hw hK
  obtain ⟨ok,ov,he⟩:=st
  obtain ⟨aD,hd,Pj⟩:=hg
  obtain ⟨vs,rel,rT,hl⟩:=zS ho I.bt hd
  obtain ⟨f0,f1,f2,f3,f4,f5⟩:=hf it (by simp)
  exact wpAny_pyNext_items_end (I.ok.hd hc) (by rw [hl]; exact he) rT (List.getElem?_eq_none (by rw [← rel.length]; exact Pj)) fun h' eb => ⟨rfl,I.turned (t':=s.toks) (fun b o hb q => eb b o hb q) f0 f1 f3 f4 f5⟩
 self:=fun _ _ _ _ _ st h => by
  obtain ⟨ok,ov,he⟩:=st
  exact wO he h
end L2
namespace L2
open PySem PySem.Spec PyProof.Rows
section
variable {X:Cx} {elts:List Expr} {kt:Nat} {tp apos bO:Pos} {o:Expr} {td:TE}
noncomputable def Cw (td:TE):TI:=fun σ H R => td σ H fun x H1 => ∃ a aD,x = .ref a ∧ ((H1 a = some (.dK aD) ∧ ∀ ob,R (Js a ob) (upd H1 a (.fh ob (.dK aD)))) ∨ ∃ ob,H1 a = some (.fh ob (.dK aD)) ∧ R (Js a ob) H1)
theorem zT (ho:PE X o td) (eQ:attributeBase o "items" X.env (eval o X.env) = eval o X.env:=by rfl) (eR:(apos.endLine == bO.line) = true:=by rfl) :
  PI X (.Tuple elts kt tp) (.Call (.Attribute o "items" apos) [] [] bO) (Cw td):=by
 intro af s σ H R I h
 refine wpAny_Call_method0_late eQ eR (cJ (ho af s σ H _ I h) fun v s1 ⟨x,H1,I1,r1,a,aD,ex,q1⟩ => ?_)
 subst ex
 obtain rfl:v = Value.ref a:=r1
 have fin:∀ (ob:Obj) (H2:Hp),H2 a = some (.fh ob (.dK aD)) → aG X af σ H2 s1 → R (Js a ob) H2 → s1.TypeIs (.ref a) "dict" ∧ (∀ b,Value.ref a = .ref b → ∃ ob,s1.heap.get? b = some ob ∧ ob.dict = none) ∧
   wpAny (model X.prog X.w) X.A (call (.builtin "dict.items") [.ref a]) (fun v s1 => wpAny (model X.prog X.w) X.A (pyIter v) (JQ X af σ (.Tuple elts kt tp) R) X.xe s1) X.xe s1:=by
  intro ob H2 e2 I2 q
  obtain ⟨t1,t2,lo⟩:=EY I2 (.inl ⟨aD,.inr ⟨ob,e2⟩⟩)
  refine ⟨t1,t2,?_⟩
  obtain ⟨Mc,z,Pg,vs,rel,dd⟩:=(show bL X.prog X.w H2 s1.heap a (.fh ob (.dK aD)) from I2.bt a _ e2)
  obtain ⟨o',es,ep,mQ,ba,qN,r'⟩:=id dd
  obtain rfl:ob = o':=by rw [Mc] at mQ; exact Option.some.inj mQ
  obtain ⟨Aw,Pl,rT,hl⟩:=zS qN I2.bt e2
  refine call_meetsIn PySem.F.slot_dict_items t1 PySem.F.entry_dict_items (PySem.F.args_dict_items_1 _) (meets_dict_items (bS X.prog X.w) a lo) ⟨⟨vs,dd⟩,?_⟩
  have I3:aG X af σ H2 { s1 with heap:=s1.heap.push { cls:=.type "dict_items",data:=.fields #[.ref a] } }:=I2.kept (t':=s1.toks) fun b o e => Heap.get?_push_of_some _ e
  refine wpAny_pyIter_items ⟨_,Heap.get?_push_size _ rfl,rfl,rfl⟩ (rT.push _) ?_
  obtain ⟨h3,e3⟩:∃ h3,h3 = s1.heap.push { cls:=.type "dict_items",data:=.fields #[.ref a] }:=⟨_,rfl⟩
  rw [← e3] at I3 ⊢
  have I4:aG X af σ H2 { s1 with heap:=h3.push { cls:=.type "dict_itemiterator",data:=.fields #[.none,.bool false,.ref a,.int 0 0,.int Aw.length 0,.int ep 0,.none,.none] } }:=I3.kept (s:={ s1 with heap:=h3 }) (t':=s1.toks) fun b o e => Heap.get?_push_of_some _ e
  refine ⟨h3.objs.size,[h3.objs.size],_,_,H2,rfl,I4,tH qN,⟨.none,.none,?_⟩,fun c hc => ?_,q⟩
  ·rw [← hl]
   exact Heap.get?_push_size _ rfl
  ·have e:c = h3.objs.size:=by simpa using hc
   subst e
   exact I3.rZ (s:={ s1 with heap:=h3 }) (Nat.le_refl _) (I3.bt.fresh (Nat.le_refl _))
 rcases q1 with ⟨e,q⟩ | ⟨ob,e,q⟩
 ·obtain ⟨ob,Qn,I2⟩:=wN I1 e
  obtain ⟨t1,t2,t3⟩:=fin ob _ a8 I2 (q ob)
  exact ⟨"dict","dict.items",PySem.F.plainAttrs_dict,PySem.F.slot_dict_items,PySem.F.type_dict_items,t1,t2,Calls.callWith_builtin rfl (PySem.evalArgs_none t3)⟩
 ·obtain ⟨t1,t2,t3⟩:=fin ob H1 e I1 q
  exact ⟨"dict","dict.items",PySem.F.plainAttrs_dict,PySem.F.slot_dict_items,PySem.F.type_dict_items,t1,t2,Calls.callWith_builtin rfl (PySem.evalArgs_none t3)⟩
end
end L2
namespace L2
open PySem PySem.Spec PyProof.Rows
noncomputable def Me (H:Hp) (v:V) (q:cq × V):Prop:=∃ b,v = .ref b ∧ H b = some (.tup [kV q.1,q.2])
noncomputable def kl (ck aD:List (cq × V)):List (cq × V):=ck.foldl (fun a q => putK a q.1 q.2) aD
noncomputable def GA (K:PySem.W.Frag):List V → Hp → VK → Prop:=fun xs H Q => ∃ a vs ck,xs = [.ref a] ∧ iC K H a vs ∧ Paired (Me H) vs ck ∧ ∀ p,H p = none → Q (.ref p) (upd H p (.dK (kl ck [])))
theorem GB {ck:List (cq × V)} {qs:List (cq × Value)} (h:KV ck qs):∀ {aD:List (cq × V)} {xs:List (cq × Value)},KV aD xs → KV (kl ck aD) (DL.pv qs xs):=by
 induction h with
 | nil => exact fun r => r
 | @cons p q ps qs a _ ih =>
  intro aD xs r
  have:=r.put p.1 a.2
  exact ih (show KV (putK aD p.1 p.2) (stored xs q.1 q.2) from by rw [← a.1]; exact this)
theorem oq:∀ (ck aD:List (cq × V)),(kl ck aD).length ≤ aD.length + ck.length
 | [],aD => Nat.le_refl _
 | p :: ps,aD => by
  have h1:=oq ps (putK aD p.1 p.2)
  have h2:=qa aD p.1 p.2
  show (kl ps (putK aD p.1 p.2)).length ≤ _
  rw [List.length_cons]
  lia
theorem tJ {X:Cx} (hh:X.A.handled = none):aU X (.type "dict") (GA X.K):=by
 intro af s σ H xs us Q I rx h
 obtain ⟨a,vs,ck,rfl,hs,pr,q⟩:=h
 obtain ⟨u,rfl,r1⟩:=vals1 rx
 cases r1
 obtain ⟨aH,rv,⟨o,n,ho,hc,Ma,nj⟩,hz⟩:=I.list hs
 have key:∀ {vs:List V} {ck:List (cq × V)} {aH:List Value},Paired (Me H) vs ck → aR vs aH → ∃ qs:List (cq × Value),qs.length = aH.length ∧ KV ck qs ∧ ∀ (i:Nat) q,qs[i]? = some q → ∃ u,aH[i]? = some u ∧ DL.fD (bS X.prog X.w) s.heap u q:=by
  intro vs ck aH p
  induction p generalizing aH with
  | nil =>
   intro v
   cases v
   exact ⟨[],rfl,.nil,fun i q e => by cases e⟩
  | @cons x y xs ys b _ ih =>
   intro v
   cases v with
   | cons v1 v2 =>
    obtain ⟨qs,l,k,al⟩:=ih v2
    obtain ⟨b,rfl,hb⟩:=b
    cases v1
    obtain ⟨_,Qo,yn,o2,g1,g2,n2,g3⟩:=(show bL X.prog X.w H s.heap b (.tup [kV y.1,y.2]) from I.bt b _ hb)
    obtain ⟨w1,w2,rfl,z1,z2⟩:=vals2 yn
    refine ⟨(y.1,w2) :: qs,by rw [List.length_cons,List.length_cons,l],.cons ⟨rfl,z2⟩ k,fun i q e => ?_⟩
    cases i with
    | zero =>
     cases e
     exact ⟨_,rfl,b,o2,_,n2,w1,rfl,g1,g2,g3,rfl,ya z1⟩
    | succ i => exact al i q e
 obtain ⟨qs,ql,kt,al⟩:=key pr rv
 have lv:vs.length = aH.length:=rv.length
 have lp:ck.length = qs.length:=KV.length kt
 refine DL.Jr (knd:=bS X.prog X.w) (qs:=qs) hh ho hc nj Ma (fun i q e => ?_) (by rw [ql,List.size_toArray]) (by lia) fun h' tk kp dd => ?_
 ·obtain ⟨u,e1,e2⟩:=al i q e
  exact ⟨u,by rw [List.getElem?_toArray]; exact e1,e2⟩
 ·have hp:H s.heap.objs.size = none:=I.bt.fresh (Nat.le_refl _)
  have hl:=oq ck []
  exact ⟨.ref s.heap.objs.size,_,I.laid (t':=tk) kp (Nat.le_refl _) (show bL X.prog X.w _ h' _ (.dK (kl ck [])) from ⟨by simp at hl; lia,beq_eq_false_iff_ne.mpr (Ne.symm (Nat.ne_of_lt I.big)),_,GB kt .nil,dd⟩),rfl,q _ hp⟩
end L2
namespace MN
open PySem PySem.Spec L2
open PyProof.Rows hiding St kindOf
noncomputable def tK:cq → ai
 | .inl i => .int i
 | .inr x => .str x
noncomputable def ou:List ai → Option (List (cq × ai))
 | [] => some []
 | .tup [.int k,v] :: r => (ou r).map ((.inl k,v) :: ·)
 | _ => none
noncomputable def jl (l a:List (cq × ai)):List (cq × ai):=l.foldl (fun a q => BQ a q.1 q.2) a
noncomputable def qO:FN
 | [.loc n],st => match aj st n with
  | some us => match ou us with
   | some l => .ok (.loc st.length) (st ++ [.dK (jl l [])])
   | none => .bad
  | none => .bad
 | _,_ => .bad
section
variable {K:PySem.W.Frag} {ρ:List Addr} {H:Hp}
theorem qP:∀ {us:List ai} {vs:List V} {l:List (cq × ai)},aP K ρ H us vs → ou us = some l → ∃ ck,Paired (Me H) vs ck ∧ dO K ρ H l ck
 | [],vs,l,r,h => by
  cases h
  rw [r.de]
  exact ⟨[],.nil,dO.nil⟩
 | u :: us,vs,l,r,h => by
  obtain ⟨v,Aw,rfl,r1,r2⟩:=r.bI
  unfold ou at h
  split at h
  ·rename_i e; cases e
  ·rename_i k x xo e
   cases e
   cases z:ou us with
   | none => rw [z] at h; cases h
   | some l' =>
    rw [z] at h
    cases h
    obtain ⟨ck,p1,p2⟩:=qP r2 z
    obtain ⟨b,zs,rfl,hb,rb⟩:=r1.Fc
    obtain ⟨z1,z2,rfl,rk,rx⟩:=rb.G0
    rw [rk.bA] at hb
    exact ⟨(.inl k,z2) :: ck,.cons ⟨b,rfl,hb⟩ p1,dO.cons rx p2⟩
  ·cases h
theorem qQ:∀ {l:List (cq × ai)} {ck:List (cq × V)} {a:List (cq × ai)} {b:List (cq × V)},dO K ρ H l ck → dO K ρ H a b → dO K ρ H (jl l a) (kl ck b)
 | [],ck,a,b,p,r => by rw [p.de]; exact r
 | (k,u) :: l,ck,a,b,p,r => by
  obtain ⟨v,l',rfl,r',p'⟩:=p.bI
  show dO K ρ H (jl l (BQ a k u)) (kl l' (putK b k v))
  exact qQ p' (r.put k r')
end
theorem tM {X:Cx} {E:XK} (hh:X.A.handled = none) (hu:X.A.units + 64 < cLine):aU X (.type "dict") (cM (wo X) E qO):=by
 refine aU.imp (tJ hh) ?_
 rintro xs H Q ⟨ρ,st,us,sr,r,h⟩
 unfold qO at h
 split at h
 ·rename_i n
  obtain ⟨v,rfl,r1⟩:=r.oZ
  obtain ⟨a,rfl,ha⟩:=r1.cN
  split at h
  ·rename_i ws e
   split at h
   ·rename_i l hl
    obtain ⟨vs,hs,rv⟩:=aO sr e ha
    obtain ⟨ck,p1,p2⟩:=qP rv hl
    refine ⟨a,vs,ck,rfl,hs,p1,fun p hp => ?_⟩
    have s:=bN (o:=.dK (kl ck [])) hp
    obtain ⟨k1,k2,k3⟩:=qy sr hp (c:=.dK (jl l [])) ⟨_,a8,(qQ p2 dO.nil).mono (aC.snoc p s)⟩
    exact h _ _ _ k1 k2 k3
   ·exact h.elim
  ·exact h.elim
 ·exact h.elim
end MN
namespace MN
open PySem PySem.Spec L2
open PyProof.Rows hiding St kindOf
noncomputable def jm:F2:=lE fun i j st => if 0 ≤ j ∧ j ≤ 100000 ∧ i.natAbs < 2 ^ 100000 then .ok (.int (i * 2 ^ j.toNat)) st else .bad
noncomputable def Kk:F2:=lE fun i j st => .ok (.int (Builtin.bitOr i j)) st
noncomputable def pw:FN:=fun us st => match us with
 | [.loc n] => sumF [.loc n] st
 | _ => zI us st
noncomputable def jn:FN
 | [.tup us],st => match gL us with
  | some (n :: ns) => .ok (.int (SO.fW (fun i => (n :: ns).getD i 0) ns.length)) st
  | _ => .bad
 | _,_ => .bad
section
variable {X:Cx} {E:XK}
theorem Cy:cV X (binaryOp .LShift) (rM (wo X) E jm):=by
 refine cV.imp Cv ?_
 rintro x y H Q ⟨ρ,st,u,w,sr,r1,r2,h⟩
 obtain ⟨i,j,rfl,rfl,h0⟩:=eD h
 by_cases hj:0 ≤ j ∧ j ≤ 100000 ∧ i.natAbs < 2 ^ 100000
 ·rw [if_pos hj] at h0
  exact ⟨i,j,r1.bA,r2.bA,hj,bu sr h0⟩
 ·rw [if_neg hj] at h0; exact h0.elim
theorem GC:cV X (binaryOp .BitOr) (rM (wo X) E Kk):=by
 refine cV.imp Hz ?_
 rintro x y H Q ⟨ρ,st,u,w,sr,r1,r2,h⟩
 obtain ⟨i,j,rfl,rfl,q⟩:=eD h
 exact ⟨i,j,r1.bA,r2.bA,bu sr q⟩
theorem wQ (hh:X.A.handled = none):aU X (.builtin "sum") (cM (wo X) E pw):=by
 intro af s σ H xs ws Q I r h
 obtain ⟨ρ,st,us,sr,r',h'⟩:=h
 unfold pw at h'
 split at h'
 ·exact wt hh af s σ H xs ws Q I r ⟨ρ,st,_,sr,r',h'⟩
 ·exact wK hh af s σ H xs ws Q I r ⟨ρ,st,_,sr,r',h'⟩
theorem tO (hh:X.A.handled = none):aU X (.builtin "max") (cM (wo X) E jn):=by
 refine aU.imp (qL hh) ?_
 rintro xs H Q ⟨ρ,st,us,sr,r,h⟩
 unfold jn at h
 split at h
 ·rename_i ws
  obtain ⟨v,rfl,r1⟩:=r.oZ
  split at h
  ·rename_i n ns hk
   rw [jR hk] at r1
   obtain ⟨a,vs,rfl,ha,ra⟩:=r1.d9
   rw [aP.ph ra] at ha
   exact ⟨a,n :: ns,rfl,ha,by simp,bu sr h⟩
  ·exact h.elim
 ·exact h.elim
end
end MN
namespace L2
open PySem PySem.Spec PyProof.Rows
noncomputable abbrev kC (h:Heap) (z TI TO:Addr) (f0 f1:Value):Prop :=
 h.get? z = some { cls:=.type "zip",dict:=none,data:=.fields #[f0,f1,.bool false,.ref TI,.ref TO],slots:=#[] }
noncomputable def ZX (h:Heap) (z TI TO:Addr):Prop:=∃ f0 b,kC h z TI TO f0 (.bool b) ∧ (f0 = .none ∨ ∃ a:Nat,f0 = rawInt a)
section
variable {prog:Program} {w:World} {A:Around} {E:Value → Shared → Prop} {s:Shared}
theorem qR {a:Addr} {Q:Option Obj → Shared → Prop} (h:Q (s.heap.get? a) s):wpAny (model prog w) A (loadIfAlive a) Q E s:=fun Γ p hΓ => by
 unfold loadIfAlive; rw [Sem.wp_loadIfAlive]; exact h
theorem u3 {z TI TO:Addr} {Q:Bool → Shared → Prop} {f0:Value} {b:Bool} (hz:kC s.heap z TI TO f0 (.bool b)) (hf:f0 = .none ∨ ∃ a:Nat,f0 = rawInt a) (h1:Q true s)
  (h2:∀ h',kC h' z TI TO f0 (.bool true) → Heap.SameBut z s.heap h' → Q false { s with heap:=h' }):wpAny (model prog w) A (Builtin.SmallTypes.ownedTupleIsFree (.ref z)) Q E s:=by
 unfold Builtin.SmallTypes.ownedTupleIsFree
 rcases hf with rfl | ⟨a,rfl⟩
 ·exact wpAny_bind (wpAny_field hz rfl (x:=.none) rfl (wpAny_pure h1))
 ·refine wpAny_bind (wpAny_field hz rfl (x:=rawInt a) rfl (wpAny_bind (qR ?_)))
  cases hg:s.heap.get? (Int.toNat (a:Int)) with
  | none => exact wpAny_pure h1
  | some o =>
   refine wpAny_bind (wpAny_field hz rfl (x:=.bool b) rfl ?_)
   cases b with
   | true => exact wpAny_pure (h2 _ hz ⟨rfl,fun _ _ => rfl⟩)
   | false =>
    refine wpAny_bind (wpAny_setField_rec hz (by simp) fun g gz sg => wpAny_pure (h2 g gz sg))
theorem zU {b1 b2:Bool} {z TI TO i1 i2 l1 l2:Addr} {k1 k2:Nat} {xs ys:Array Value} {x y a b:Value} {Q:Value → Shared → Prop} (D:ZipApart z TI TO i1 i2 l1 l2)
  (hZ:ZX s.heap z TI TO) (gn:IsPair s.heap TI (.ref i1) (.ref i2)) (gI:IsPair s.heap TO a b) (h1:bf b1 s.heap i1 l1 k1) (h2:bf b2 s.heap i2 l2 k2) (mU:dE b1 s.heap l1 xs) (mY:dE b2 s.heap l2 ys) (hx:xs[k1]? = some x) (hy:ys[k2]? = some y)
  (hQ:∀ h',ZX h' z TI TO → (∃ u v,IsPair h' TO u v) → bf b1 h' i1 l1 (k1 + 1) → bf b2 h' i2 l2 (k2 + 1) → IsPair h' s.heap.objs.size x y →
   (∀ c o,c ≠ z → c ≠ TO → c ≠ i1 → c ≠ i2 → s.heap.get? c = some o → h'.get? c = some o) → Q (.ref s.heap.objs.size) { s with heap:=h' }) :
  wpAny (model prog w) A (Builtin.«zip.__next__» ⟨[.ref z],[]⟩) (fun fin s' => ∃ v,fin = .done (.ret v) ∧ Q v s') E s:=by
 obtain ⟨f0,bb,hz,hf⟩:=hZ
 show wpAny _ _ (field (.ref z) 2 >>= _) _ _ _
 refine wpAny_bind (wpAny_field hz rfl (x:=.bool false) rfl ?_)
 show wpAny _ _ (field (.ref z) 3 >>= _) _ _ _
 refine wpAny_bind (wpAny_field hz rfl (x:=.ref TI) rfl (wpAny_bind (wpAny_seqItems gn rfl ?_)))
 show wpAny _ _ (Builtin.SmallTypes.ownedTupleIsFree (.ref z) >>= _) _ _ _
 refine wpAny_bind (u3 hz hf ?_ fun g₁ dy s₁ => ?_)
 ·simp only [if_true]
  refine wpAny_bind (wpAny_rule (wpAny_bind (wpAny_field hz rfl (x:=.ref TO) rfl (wpAny_bind (wpAny_setField_rec hz (by simp) fun g₁ dy s₁ => ?_)))))
  replace dy:kC g₁ z TI TO .ellipsis (.bool bb):=dy
  refine wpAny_bind ?_
  simp only [List.zipIdx_cons,List.zipIdx_nil,List.forIn_cons,List.forIn_nil]
  refine wpAny_bind (wpAny_bind (wpAny_onRaise ?_))
  show wpAny _ _ (Builtin.SmallTypes.nextOf (.ref i1) >>= _) _ _ _
  refine wpAny_bind (bU (b:=b1) (h1.keep fun o e => s₁.extBut _ o D.i1z e) (mU.keep fun o e => s₁.extBut _ o D.l1z e) hx fun g₂ q₁ s₂ => wpAny_pure ?_)
  have t₂:IsPair g₂ TO a b:=s₂.extBut _ _ D.TOi1 (s₁.extBut _ _ D.TOz gI)
  refine wpAny_bind (wpAny_seqItems t₂ rfl (wpAny_bind (wpAny_updateSeq_pair t₂ fun g₃ t₃ s₃ => ?_)))
  replace t₃:IsPair g₃ TO x b:=t₃
  refine wpAny_bind (wpAny_letGo (wpAny_pure (wpAny_bind (wpAny_bind (wpAny_onRaise ?_)))))
  show wpAny _ _ (Builtin.SmallTypes.nextOf (.ref i2) >>= _) _ _ _
  refine wpAny_bind (bU (b:=b2) (h2.keep fun o e => s₃.extBut _ o D.TOi2.symm (s₂.extBut _ o D.i12.symm (s₁.extBut _ o D.i2z e))) (mY.keep fun o e => s₃.extBut _ o D.l2TO (s₂.extBut _ o D.l2i1 (s₁.extBut _ o D.l2z e))) hy fun g₄ q₂ s₄ => wpAny_pure ?_)
  have t₄:IsPair g₄ TO x b:=s₄.extBut _ _ D.TOi2 t₃
  refine wpAny_bind (wpAny_seqItems t₄ rfl (wpAny_bind (wpAny_updateSeq_pair t₄ fun g₅ t₅ s₅ => ?_)))
  replace t₅:IsPair g₅ TO x y:=t₅
  refine wpAny_bind (wpAny_letGo (wpAny_pure (wpAny_pure (wpAny_bind (wpAny_seqItems t₅ rfl (wpAny_bind (wpAny_newTuple ?_)))))))
  have sz:g₅.objs.size = s.heap.objs.size:=by rw [s₅.1,s₄.1,s₃.1,s₂.1,s₁.1]
  have z₅:kC g₅ z TI TO .ellipsis (.bool bb):=s₅.extBut _ _ D.TOz.symm (s₄.extBut _ _ D.i2z.symm (s₃.extBut _ _ D.TOz.symm (s₂.extBut _ _ D.i1z.symm dy)))
  have kp:∀ c o,c ≠ z → c ≠ TO → c ≠ i1 → c ≠ i2 → s.heap.get? c = some o → g₅.get? c = some o:=fun c o n1 n2 n3 n4 e => s₅.extBut _ _ n2 (s₄.extBut _ _ n4 (s₃.extBut _ _ n2 (s₂.extBut _ _ n3 (s₁.extBut _ _ n1 e))))
  have p₁:bf b1 g₅ i1 l1 (k1 + 1):=q₁.keep fun o e => s₅.extBut _ o D.TOi1.symm (s₄.extBut _ o D.i12 (s₃.extBut _ o D.TOi1.symm e))
  have p₂:bf b2 g₅ i2 l2 (k2 + 1):=q₂.keep fun o e => s₅.extBut _ o D.TOi2.symm e
  have Ik:z < g₅.objs.size:=Heap.lt_size z₅
  show wpAny _ _ (Builtin.SmallTypes.ownedTupleHandOut (.ref z) (.ref g₅.objs.size) >>= _) _ _ _
  refine wpAny_bind ?_
  unfold Builtin.SmallTypes.ownedTupleHandOut
  have z₆:kC (g₅.push { cls:=.type "tuple",data:=.seq #[x,y] }) z TI TO .ellipsis (.bool bb):=Heap.get?_push_of_some _ z₅
  refine wpAny_bind (wpAny_setField_rec z₆ (by simp) fun g₇ z₇ s₇ => ?_)
  replace z₇:kC g₇ z TI TO (rawInt g₅.objs.size) (.bool bb):=z₇
  refine wpAny_setField_rec z₇ (by simp) fun g₈ z₈ s₈ => ?_
  replace z₈:kC g₈ z TI TO (rawInt g₅.objs.size) (.bool false):=z₈
  have up:∀ c o,c ≠ z → g₅.get? c = some o → g₈.get? c = some o:=fun c o n e => s₈.extBut _ _ n (s₇.extBut _ _ n (Heap.get?_push_of_some _ e))
  have t₈:IsPair g₈ g₅.objs.size x y:=s₈.extBut _ _ (Nat.ne_of_gt Ik) (s₇.extBut _ _ (Nat.ne_of_gt Ik) (Heap.get?_push_size _ rfl))
  rw [sz] at t₈
  refine wpAny_pure ⟨_,rfl,?_⟩
  show Q (.ref g₅.objs.size) _
  rw [sz]
  exact hQ g₈ ⟨_,_,z₈,.inr ⟨_,rfl⟩⟩ ⟨_,_,up _ _ D.TOz t₅⟩ (p₁.keep fun o e => up _ o D.i1z e) (p₂.keep fun o e => up _ o D.i2z e) t₈ fun c o n1 n2 n3 n4 e => up c o n1 (kp c o n1 n2 n3 n4 e)
 ·simp only [Bool.false_eq_true,if_false]
  refine wpAny_bind ?_
  rw [← Array.forIn_toList]
  simp only [List.forIn_cons,List.forIn_nil]
  refine wpAny_bind (wpAny_bind (wpAny_holding ?_))
  show wpAny _ _ (Builtin.SmallTypes.nextOf (.ref i1) >>= _) _ _ _
  refine wpAny_bind (bU (b:=b1) (h1.keep fun o e => s₁.extBut _ o D.i1z e) (mU.keep fun o e => s₁.extBut _ o D.l1z e) hx fun g₂ q₁ s₂ => wpAny_pure ?_)
  refine wpAny_pure (wpAny_bind (wpAny_bind (wpAny_holding ?_)))
  show wpAny _ _ (Builtin.SmallTypes.nextOf (.ref i2) >>= _) _ _ _
  refine wpAny_bind (bU (b:=b2) (h2.keep fun o e => s₂.extBut _ o D.i12.symm (s₁.extBut _ o D.i2z e)) (mY.keep fun o e => s₂.extBut _ o D.l2i1 (s₁.extBut _ o D.l2z e)) hy fun g₄ q₂ s₄ => wpAny_pure ?_)
  refine wpAny_pure (wpAny_pure (wpAny_bind (wpAny_newTuple ?_ (by show 2 ≤ sizeLine; decide))))
  have sz:g₄.objs.size = s.heap.objs.size:=by rw [s₄.1,s₂.1,s₁.1]
  have z₅:kC g₄ z TI TO f0 (.bool true):=s₄.extBut _ _ D.i2z.symm (s₂.extBut _ _ D.i1z.symm dy)
  have kp:∀ c o,c ≠ z → c ≠ i1 → c ≠ i2 → s.heap.get? c = some o → g₄.get? c = some o:=fun c o n1 n3 n4 e => s₄.extBut _ _ n4 (s₂.extBut _ _ n3 (s₁.extBut _ _ n1 e))
  have p₁:bf b1 g₄ i1 l1 (k1 + 1):=q₁.keep fun o e => s₄.extBut _ o D.i12 e
  have up:∀ c o,g₄.get? c = some o → (g₄.push { cls:=.type "tuple",data:=.seq #[x,y] }).get? c = some o:=fun c o e => Heap.get?_push_of_some _ e
  have t₈:IsPair (g₄.push { cls:=.type "tuple",data:=.seq #[x,y] }) g₄.objs.size x y:=Heap.get?_push_size _ rfl
  rw [sz] at t₈
  refine wpAny_pure ⟨_,rfl,?_⟩
  show Q (.ref g₄.objs.size) _
  rw [sz]
  exact hQ _ ⟨_,_,up _ _ z₅,hf⟩ ⟨_,_,up _ _ (kp _ _ D.TOz D.TOi1 D.TOi2 gI)⟩ (p₁.keep fun o e => up _ o e) (q₂.keep fun o e => up _ o e) t₈ fun c o n1 n2 n3 n4 e => up c o (kp c o n1 n3 n4 e)
theorem Cz {b1 b2:Bool} {z TI TO i1 i2 l1 l2:Addr} {k1 k2:Nat} {xs ys:Array Value} {a b:Value} {Q:Fin → Shared → Prop} (hh:A.handled = none) (D:ZipApart z TI TO i1 i2 l1 l2)
  (hZ:ZX s.heap z TI TO) (gn:IsPair s.heap TI (.ref i1) (.ref i2)) (gI:IsPair s.heap TO a b) (h1:bf b1 s.heap i1 l1 k1) (h2:bf b2 s.heap i2 l2 k2) (mU:dE b1 s.heap l1 xs) (mY:dE b2 s.heap l2 ys) (he:xs[k1]? = none ∨ ys[k2]? = none)
  (hE:∀ h' e,(∀ c o,c ≠ z → c ≠ TO → c ≠ i1 → c ≠ i2 → s.heap.get? c = some o → h'.get? c = some o) → (∃ o,h'.get? e = some o ∧ o.cls = .type "StopIteration") → E (.ref e) { s with heap:=h' }) :
  wpAny (model prog w) A (Builtin.«zip.__next__» ⟨[.ref z],[]⟩) Q E s:=by
 obtain ⟨f0,bb,hz,hf⟩:=hZ
 show wpAny _ _ (field (.ref z) 2 >>= _) _ _ _
 refine wpAny_bind (wpAny_field hz rfl (x:=.bool false) rfl ?_)
 show wpAny _ _ (field (.ref z) 3 >>= _) _ _ _
 refine wpAny_bind (wpAny_field hz rfl (x:=.ref TI) rfl (wpAny_bind (wpAny_seqItems gn rfl ?_)))
 show wpAny _ _ (Builtin.SmallTypes.ownedTupleIsFree (.ref z) >>= _) _ _ _
 refine wpAny_bind (u3 hz hf ?_ fun g₁ dy s₁ => ?_)
 ·simp only [if_true]
  refine wpAny_bind (wpAny_rule (wpAny_bind (wpAny_field hz rfl (x:=.ref TO) rfl (wpAny_bind (wpAny_setField_rec hz (by simp) fun g₁ dy s₁ => ?_)))))
  replace dy:kC g₁ z TI TO .ellipsis (.bool bb):=dy
  refine wpAny_bind ?_
  simp only [List.zipIdx_cons,List.zipIdx_nil,List.forIn_cons,List.forIn_nil]
  refine wpAny_bind (wpAny_bind (wpAny_onRaise ?_))
  show wpAny _ _ (Builtin.SmallTypes.nextOf (.ref i1) >>= _) _ _ _
  cases hx:xs[k1]? with
  | none =>
   refine wpAny_bind (dw (b:=b1) hh (h1.keep fun o e => s₁.extBut _ o D.i1z e) (mU.keep fun o e => s₁.extBut _ o D.l1z e) hx fun g₂ e s₂ ⟨oe,qf,ce⟩ => ?_)
   have z₂:kC g₂ z TI TO .ellipsis (.bool bb):=s₂ _ _ D.i1z.symm dy
   have E2:e ≠ z:=fun q => by subst q; rw [z₂] at qf; cases qf; simp at ce
   exact wpAny_setField_rec z₂ (by simp) fun g₃ _ s₃ => hE g₃ e (fun c o n1 _ n3 _ q => s₃.extBut _ _ n1 (s₂ _ _ n3 (s₁.extBut _ _ n1 q))) ⟨oe,s₃.extBut _ _ E2 qf,ce⟩
  | some x =>
   have hy:ys[k2]? = none:=by
    rcases he with q | q
    ·rw [hx] at q; cases q
    ·exact q
   refine wpAny_bind (bU (b:=b1) (h1.keep fun o e => s₁.extBut _ o D.i1z e) (mU.keep fun o e => s₁.extBut _ o D.l1z e) hx fun g₂ q₁ s₂ => wpAny_pure ?_)
   have t₂:IsPair g₂ TO a b:=s₂.extBut _ _ D.TOi1 (s₁.extBut _ _ D.TOz gI)
   refine wpAny_bind (wpAny_seqItems t₂ rfl (wpAny_bind (wpAny_updateSeq_pair t₂ fun g₃ t₃ s₃ => ?_)))
   refine wpAny_bind (wpAny_letGo (wpAny_pure (wpAny_bind (wpAny_bind (wpAny_onRaise ?_)))))
   show wpAny _ _ (Builtin.SmallTypes.nextOf (.ref i2) >>= _) _ _ _
   refine wpAny_bind (dw (b:=b2) hh (h2.keep fun o e => s₃.extBut _ o D.TOi2.symm (s₂.extBut _ o D.i12.symm (s₁.extBut _ o D.i2z e))) (mY.keep fun o e => s₃.extBut _ o D.l2TO (s₂.extBut _ o D.l2i1 (s₁.extBut _ o D.l2z e))) hy fun g₄ e s₄ ⟨oe,qf,ce⟩ => ?_)
   have z₄:kC g₄ z TI TO .ellipsis (.bool bb):=s₄ _ _ D.i2z.symm (s₃.extBut _ _ D.TOz.symm (s₂.extBut _ _ D.i1z.symm dy))
   have E2:e ≠ z:=fun q => by subst q; rw [z₄] at qf; cases qf; simp at ce
   exact wpAny_setField_rec z₄ (by simp) fun g₅ _ s₅ => hE g₅ e (fun c o n1 n2 n3 n4 q => s₅.extBut _ _ n1 (s₄ _ _ n4 (s₃.extBut _ _ n2 (s₂.extBut _ _ n3 (s₁.extBut _ _ n1 q))))) ⟨oe,s₅.extBut _ _ E2 qf,ce⟩
 ·simp only [Bool.false_eq_true,if_false]
  refine wpAny_bind ?_
  rw [← Array.forIn_toList]
  simp only [List.forIn_cons,List.forIn_nil]
  refine wpAny_bind (wpAny_bind (wpAny_holding ?_))
  show wpAny _ _ (Builtin.SmallTypes.nextOf (.ref i1) >>= _) _ _ _
  cases hx:xs[k1]? with
  | none =>
   exact wpAny_bind (dw (b:=b1) hh (h1.keep fun o e => s₁.extBut _ o D.i1z e) (mU.keep fun o e => s₁.extBut _ o D.l1z e) hx fun g₂ e s₂ Ii => hE g₂ e (fun c o n1 _ n3 _ q => s₂ _ _ n3 (s₁.extBut _ _ n1 q)) Ii)
  | some x =>
   have hy:ys[k2]? = none:=by
    rcases he with q | q
    ·rw [hx] at q; cases q
    ·exact q
   refine wpAny_bind (bU (b:=b1) (h1.keep fun o e => s₁.extBut _ o D.i1z e) (mU.keep fun o e => s₁.extBut _ o D.l1z e) hx fun g₂ q₁ s₂ => wpAny_pure ?_)
   refine wpAny_pure (wpAny_bind (wpAny_bind (wpAny_holding ?_)))
   show wpAny _ _ (Builtin.SmallTypes.nextOf (.ref i2) >>= _) _ _ _
   exact wpAny_bind (dw (b:=b2) hh (h2.keep fun o e => s₂.extBut _ o D.i12.symm (s₁.extBut _ o D.i2z e)) (mY.keep fun o e => s₂.extBut _ o D.l2i1 (s₁.extBut _ o D.l2z e)) hy fun g₄ e s₄ Ii => hE g₄ e (fun c o n1 _ n3 n4 q => s₄ _ _ n4 (s₂.extBut _ _ n3 (s₁.extBut _ _ n1 q))) Ii)
theorem ZX.ty {z TI TO:Addr} (h:ZX s.heap z TI TO):s.TypeIs (.ref z) "zip":=let ⟨_,_,hz,_⟩:=h; ⟨_,hz,rfl⟩
theorem tP {b1 b2:Bool} {z TI TO i1 i2 l1 l2:Addr} {k1 k2:Nat} {xs ys:Array Value} {x y a b:Value} {Q:Option Value → Shared → Prop} (D:ZipApart z TI TO i1 i2 l1 l2)
  (hz:ZX s.heap z TI TO) (gn:IsPair s.heap TI (.ref i1) (.ref i2)) (gI:IsPair s.heap TO a b) (h1:bf b1 s.heap i1 l1 k1) (h2:bf b2 s.heap i2 l2 k2) (mU:dE b1 s.heap l1 xs) (mY:dE b2 s.heap l2 ys) (hx:xs[k1]? = some x) (hy:ys[k2]? = some y)
  (hQ:∀ h',ZX h' z TI TO → (∃ u v,IsPair h' TO u v) → bf b1 h' i1 l1 (k1 + 1) → bf b2 h' i2 l2 (k2 + 1) → IsPair h' s.heap.objs.size x y →
   (∀ c o,c ≠ z → c ≠ TO → c ≠ i1 → c ≠ i2 → s.heap.get? c = some o → h'.get? c = some o) → Q (some (.ref s.heap.objs.size)) { s with heap:=h' }):wpAny (model prog w) A (pyNext (.ref z)) Q E s:=by
 unfold pyNext
 exact wpAny_bind (wpAny_attempt (wpAny_callSpecial?_slot (name:=Str.ofString "__next__") hz.ty F.slot_zip_next
  (wpAny_call_entry F.slot_zip_next hz.ty F.entry_zip_next (zU (b1:=b1) (b2:=b2) D hz gn gI h1 h2 mU mY hx hy fun h' a1 a2 a3 a4 a5 a6 => wpAny_pure (hQ h' a1 a2 a3 a4 a5 a6)) (F.args_zip_next_1 _))))
theorem wU {b1 b2:Bool} {z TI TO i1 i2 l1 l2:Addr} {k1 k2:Nat} {xs ys:Array Value} {a b:Value} {Q:Option Value → Shared → Prop} (hh:A.handled = none) (D:ZipApart z TI TO i1 i2 l1 l2)
  (hz:ZX s.heap z TI TO) (gn:IsPair s.heap TI (.ref i1) (.ref i2)) (gI:IsPair s.heap TO a b) (h1:bf b1 s.heap i1 l1 k1) (h2:bf b2 s.heap i2 l2 k2) (mU:dE b1 s.heap l1 xs) (mY:dE b2 s.heap l2 ys) (he:xs[k1]? = none ∨ ys[k2]? = none)
  (hQ:∀ h',(∀ c o,c ≠ z → c ≠ TO → c ≠ i1 → c ≠ i2 → s.heap.get? c = some o → h'.get? c = some o) → Q none { s with heap:=h' }):wpAny (model prog w) A (pyNext (.ref z)) Q E s:=by
 unfold pyNext
 refine wpAny_bind (wpAny_attempt (wpAny_callSpecial?_slot (name:=Str.ofString "__next__") hz.ty F.slot_zip_next
  (wpAny_call_entry F.slot_zip_next hz.ty F.entry_zip_next (Cz (b1:=b1) (b2:=b2) hh D hz gn gI h1 h2 mU mY he fun h' e hk he => ?_) (F.args_zip_next_1 _))))
 obtain ⟨o,ho,hc⟩:=he
 exact wpAny_bind (wpAny_isInstance (T:="StopIteration") (b:=true) ⟨o,ho,hc⟩ isSubtype_stop (wpAny_pure (hQ _ hk)))
theorem zV {z TI TO:Addr} {Q:Value → Shared → Prop} (hz:ZX s.heap z TI TO) (h:Q (.ref z) s):wpAny (model prog w) A (pyIter (.ref z)) Q E s:=by
 have hT:=hz.ty
 refine wpAny_pyIter_slot hT F.slot_zip_iter (wpAny_call_entry F.slot_zip_iter hT F.entry_zip_iter ?_ (F.args_zip_iter_1 _))
 show wpAny _ _ (ret (.ref z)) _ _ s
 exact wpAny_pure ⟨_,rfl,"zip",_,hT,F.slot_zip_next.lookup,h⟩
end
theorem wV {P:Program} {w:World} {K:PySem.W.Frag} {nx:Str} {np:Pos} {b1 b2:Bool} {z TI TO i1 i2:Addr} (a b:Addr) (ne:z ≠ TI ∧ z ≠ TO ∧ z ≠ i1 ∧ z ≠ i2 ∧ TI ≠ TO ∧ TI ≠ i1 ∧ TI ≠ i2 ∧ TO ≠ i1 ∧ TO ≠ i2 ∧ i1 ≠ i2) :
  Turn P w K (.Name nx np) (Lv K b1 b2 a b) [z,TI,TO,i1,i2] z (fun i h => ZX h z TI TO ∧ IsPair h TI (.ref i1) (.ref i2) ∧ (∃ u v,IsPair h TO u v) ∧ bf b1 h i1 a i ∧ bf b2 h i2 b i) where
 mem:=by simp
 obj:=fun i h ⟨hz,gn,⟨u,v,gI⟩,h1,h2⟩ c hc => by
  have ba:c = z ∨ c = TI ∨ c = TO ∨ c = i1 ∨ c = i2:=by simpa using hc
  rcases ba with rfl | rfl | rfl | rfl | rfl
  ·obtain ⟨_,_,hz,_⟩:=hz; exact ⟨_,hz,fun v q => by have q':Data.fields _ = Data.cell v:=q; cases q'⟩
  ·exact ⟨_,gn,fun v q => by have q':Data.seq _ _ = Data.cell v:=q; cases q'⟩
  ·exact ⟨_,gI,fun v q => by have q':Data.seq _ _ = Data.cell v:=q; cases q'⟩
  ·obtain ⟨o,n,vs,e,_,d⟩:=h1.there
   exact ⟨o,e,fun v q => by rw [d] at q; cases q⟩
  ·obtain ⟨o,n,vs,e,_,d⟩:=h2.there
   exact ⟨o,e,fun v q => by rw [d] at q; cases q⟩
 keep:=fun i h h' ⟨hz,gn,⟨u,v,gI⟩,h1,h2⟩ k => ⟨(let ⟨f0,b,hz,hf⟩:=hz; ⟨f0,b,k z (by simp) _ hz,hf⟩),k TI (by simp) _ gn,⟨u,v,k TO (by simp) _ gI⟩,h1.keep fun o e => k i1 (by simp) o e,h2.keep fun o e => k i2 (by simp) o e⟩
 item:=by
  intro X hP hw hK hc i af s σ H E I hf st hg
  subst hP hw hK
  obtain ⟨hz,gn,⟨u,v,gI⟩,h1,h2⟩:=st
  obtain ⟨xs,ys,x,y,sx,sy,ex,ey⟩:=hg
  obtain ⟨aH,rv,p,_⟩:=I.xm sx
  obtain ⟨cK,yn,p2,_⟩:=I.xm sy
  obtain ⟨ux,Im,rx⟩:=rv.get ex
  obtain ⟨uy,Lw,ry⟩:=yn.get ey
  obtain ⟨n1,n2,n3,n4,n5,n6,n7,n8,n9,E3⟩:=ne
  have fz:=hf z (by simp)
  have bM:∀ {b:Bool} {l:Addr} {zs:List V},qh b X.K H l zs → ∀ c ∈ [z,TI,TO,i1,i2],l ≠ c:=fun {b l zs} hs c ba => I.uv hs (hf c ba)
  have D:ZipApart z TI TO i1 i2 a b:=⟨n1.symm,n2.symm,n3.symm,n4.symm,n5,n6,n7,n8,n9,E3,bM sx z (by simp),bM sx TO (by simp),bM sx i1 (by simp),bM sx i2 (by simp),bM sy z (by simp),bM sy TO (by simp),bM sy i1 (by simp),bM sy i2 (by simp)⟩
  refine tP (b1:=b1) (b2:=b2) D hz gn gI h1 h2 p p2 (x:=ux) (y:=uy) (by simpa using Im) (by simpa using Lw) fun h' a1 a2 a3 a4 a5 a6 => ⟨_,rfl,?_⟩
  have hT:H s.heap.objs.size = none:=I.bt.fresh (Nat.le_refl _)
  have Bk:∀ c ∈ [z,TO,i1,i2],H c = none:=fun c ba => (hf c (by simp at ba ⊢; rcases ba with q | q | q | q <;> simp [q])).1
  have kp:∀ c o,c ∉ [z,TO,i1,i2] → s.heap.get? c = some o → h'.get? c = some o:=fun c o ba e => a6 c o (fun q => ba (by simp [q])) (fun q => ba (by simp [q])) (fun q => ba (by simp [q])) (fun q => ba (by simp [q])) e
  have kU:∀ c o,H c = some o → c ∉ [z,TO,i1,i2]:=fun c o e ba => by rw [Bk c ba] at e; cases e
  have bt:fS X.prog X.w (upd H s.heap.objs.size (.tup [x,y])) h':=fun c o e => by
   by_cases Dq:c = s.heap.objs.size
   ·subst Dq
    rw [a8] at e
    cases e
    exact ⟨by show 2 ≤ sizeLine; decide,[ux,uy],.cons rx (.cons ry .nil),_,a5,rfl,_,rfl⟩
   ·rw [aJ Dq] at e
    refine (I.bt c o e).iH (fun d v hd q => kp d v ?_ q) (fun d q => by rw [aJ (aK q hT)]; exact q) fun d zs q => by rw [aJ (aK q hT)]; exact q
    rcases hd with q' | q'
    ·rw [q']; exact kU c o e
    ·exact kU d _ q'
  have un:Un (ei X.stack) [z,TO,i1,i2] H (upd H s.heap.objs.size (.tup [x,y])) s.heap h' :=
   ⟨fun c o e n _ ba => kp c o ba e,fun c o e n _ ba => ⟨o.slots,kp c o ba e⟩,fun c o e n ba => by rw [aJ (Nat.ne_of_lt (Heap.lt_size e))]; exact n,fun c o e ba => ⟨o,kp c o ba e⟩,
    fun c zs e => by rw [aJ (aK e hT)]; exact e,fun c o u e => by rw [aJ (aK e hT)]; exact e,fun c ps e => ⟨#[],by rw [aJ (aK e hT),e]; simp⟩⟩
  have I1:aG X af σ (upd H s.heap.objs.size (.tup [x,y])) { s with heap:=h' }:=I.kZ rfl un bt I.bare fun c ba => by
   obtain ⟨f0,f1,f2,f3,f4,f5⟩:=hf c (by simp at ba ⊢; rcases ba with q | q | q | q <;> simp [q])
   exact ⟨f3,f1,f4,f5⟩
  have Lx:∀ c ∈ [z,TI,TO,i1,i2],c ≠ s.heap.objs.size:=fun c ba q => by
   have jC:c < s.heap.objs.size:=by
    have yo:c = z ∨ c = TI ∨ c = TO ∨ c = i1 ∨ c = i2:=by simpa using ba
    rcases yo with r | r | r | r | r
    ·rw [r]; exact (let ⟨_,_,hz,_⟩:=hz; Heap.lt_size hz)
    ·rw [r]; exact Heap.lt_size gn
    ·rw [r]; exact Heap.lt_size gI
    ·obtain ⟨o,_,_,e,_⟩:=h1.there; rw [r]; exact Heap.lt_size e
    ·obtain ⟨o,_,_,e,_⟩:=h2.there; rw [r]; exact Heap.lt_size e
   exact absurd jC (by rw [q]; exact Nat.lt_irrefl _)
  have E4:∀ c ∈ [z,TI,TO,i1,i2],(upd H s.heap.objs.size (.tup [x,y])) c = none:=fun c ba => by rw [aJ (Lx c ba)]; exact (hf c ba).1
  refine wpAny_pure ⟨.ref s.heap.objs.size,_,I1,rfl,⟨_,x,y,rfl,hT,rfl,fun zs hs => by rw [I.kN hs sx]; exact ex,fun zs hs => by rw [I.kN hs sy]; exact ey⟩,⟨a1,a6 _ _ n1.symm n5 n6 n7 gn,a2,a3,a4⟩,E4⟩
 done:=by
  intro X hP hw hK hc i af s σ H E I hf st hg
  subst hP hw hK
  obtain ⟨hz,gn,⟨u,v,gI⟩,h1,h2⟩:=st
  obtain ⟨xs,ys,sx,sy,hl⟩:=hg
  obtain ⟨aH,rv,p,_⟩:=I.xm sx
  obtain ⟨cK,yn,p2,_⟩:=I.xm sy
  have l1:=rv.length
  have l2:=yn.length
  obtain ⟨n1,n2,n3,n4,n5,n6,n7,n8,n9,E3⟩:=ne
  have bM:∀ {b:Bool} {l:Addr} {zs:List V},qh b X.K H l zs → ∀ c ∈ [z,TI,TO,i1,i2],l ≠ c:=fun {b l zs} hs c ba => I.uv hs (hf c ba)
  have D:ZipApart z TI TO i1 i2 a b:=⟨n1.symm,n2.symm,n3.symm,n4.symm,n5,n6,n7,n8,n9,E3,bM sx z (by simp),bM sx TO (by simp),bM sx i1 (by simp),bM sx i2 (by simp),bM sy z (by simp),bM sy TO (by simp),bM sy i1 (by simp),bM sy i2 (by simp)⟩
  refine wU (b1:=b1) (b2:=b2) (I.ok.hd hc) D hz gn gI h1 h2 p p2 (by rcases hl with q | q; exact .inl (by simp; lia); exact .inr (by simp; lia)) fun h' a6 => ⟨rfl,?_⟩
  have Bk:∀ c ∈ [z,TO,i1,i2],H c = none:=fun c ba => (hf c (by simp at ba ⊢; rcases ba with q | q | q | q <;> simp [q])).1
  have kp:∀ c o,c ∉ [z,TO,i1,i2] → s.heap.get? c = some o → h'.get? c = some o:=fun c o ba e => a6 c o (fun q => ba (by simp [q])) (fun q => ba (by simp [q])) (fun q => ba (by simp [q])) (fun q => ba (by simp [q])) e
  have kU:∀ c o,H c = some o → c ∉ [z,TO,i1,i2]:=fun c o e ba => by rw [Bk c ba] at e; cases e
  have bt:fS X.prog X.w H h':=fun c o e => by
   refine (I.bt c o e).iH (fun d v hd q => kp d v ?_ q) (fun d q => q) fun d zs q => q
   rcases hd with q' | q'
   ·rw [q']; exact kU c o e
   ·exact kU d _ q'
  have un:Un (ei X.stack) [z,TO,i1,i2] H H s.heap h' :=
   ⟨fun c o e n _ ba => kp c o ba e,fun c o e n _ ba => ⟨o.slots,kp c o ba e⟩,fun c o e n ba => n,fun c o e ba => ⟨o,kp c o ba e⟩,fun c zs e => e,fun c o u e => e,fun c ps e => ⟨#[],by rw [e]; simp⟩⟩
  exact I.kZ rfl un bt I.bare fun c ba => by
   obtain ⟨f0,f1,f2,f3,f4,f5⟩:=hf c (by simp at ba ⊢; rcases ba with q | q | q | q <;> simp [q])
   exact ⟨f3,f1,f4,f5⟩
 self:=fun _ _ _ _ _ st h => zV st.1 h
section
variable {X:Cx} {nx:Str} {np p pos:Pos}
theorem CA (b1 b2:Bool) {ea eb:Expr} {ta:TA} (hg:Gl X "zip") (hm:X.mg "zip" = none) (ha:PA X [ea,eb] ta) (hs:starEach [ea,eb] X.env = [(false,eval ea X.env),(false,eval eb X.env)]:=by rfl) (bT:starEach [eb] X.env = [(false,eval eb X.env)]:=by rfl) :
  PI X (.Name nx np) (.Call (.Name "zip" p) [ea,eb] [] pos) (Io X.K b1 b2 ta):=by
 intro af s σ H R I h
 refine Call_ (gg I hg hm boot_zip (PyProof.Rows.callWith_type1 (cJ (ha pos af s σ H _ I h) fun us s1 ⟨vs,H1,I1,r1,q1⟩ => ?_) (by rw [hs,bT]) (by rw [bT]; rfl)))
 obtain ⟨a,b,e,⟨xs,sx⟩,⟨ys,sy⟩,q⟩:=q1
 subst e
 obtain ⟨u,u2,rfl,ru,Bm⟩:=vals2 r1
 cases ru
 cases Bm
 obtain ⟨aH,rv,p1,_⟩:=I1.xm sx
 obtain ⟨cK,yn,p2,_⟩:=I1.xm sy
 refine qg (b1:=b1) (b2:=b2) p1 p2 fun h' hz gn gI g1 g2 kp => wpAny_pyIter_zip hz ?_
 have I2:aG X af σ H1 { s1 with heap:=h' }:=I1.kept (t':=s1.toks) kp
 refine ⟨_,[s1.heap.objs.size + 4,s1.heap.objs.size + 2,s1.heap.objs.size + 3,s1.heap.objs.size,s1.heap.objs.size + 1],_,_,H1,rfl,I2,wV (b1:=b1) (b2:=b2) a b ?_,⟨⟨_,_,hz,.inl rfl⟩,gn,⟨_,_,gI⟩,g1,g2⟩,fun c hc => ?_,q⟩
 ·refine ⟨?_,?_,?_,?_,?_,?_,?_,?_,?_,?_⟩ <;> (intro z; have z':(_:Nat) = _:=z; lia)
 ·have hle:s1.heap.objs.size ≤ c:=by
   have ba:c = s1.heap.objs.size + 4 ∨ c = s1.heap.objs.size + 2 ∨ c = s1.heap.objs.size + 3 ∨ c = s1.heap.objs.size ∨ c = s1.heap.objs.size + 1:=by simpa using hc
   rcases ba with r | r | r | r | r <;> (rw [r]; first | exact Nat.le_refl _ | exact Nat.le_add_right _ _)
  exact I1.rZ hle (I1.bt.fresh hle)
end
end L2
namespace SO
open PySem PySem.W PyProof.Rows
section
variable {prog:Program} {w:World} {A:Around} {E:Value → Shared → Prop} {s:Shared}
theorem zW {a:Addr} {n:Nat} {P:PySem.Fin → Shared → Prop} (ho:s.heap.get? a = some (seqObj "list" #[] n)) (h:P (.done (.ret .none)) { s with heap:=sortedHeap s.heap a [] #[] }) :
  wpAny (model prog w) A (Builtin.«list.sort» ⟨[.ref a],[(Str.ofString "reverse",.bool true)]⟩) P E s:=by
 rw [list_sort_rev]
 obtain ⟨h1,e1⟩:∃ h1,h1 = s.heap.update a (Obj.mapSeq fun _ => (#[]:Array Value)):=⟨_,rfl⟩
 obtain ⟨c1,NX⟩:∃ c,h1.get? a = some (seqObj "list" #[] c):=⟨_,by rw [e1]; exact get?_update_seq ho fun _ => #[]⟩
 obtain ⟨h6,e6⟩:∃ h6,h6 = (h1.push (seqObj "tuple" #[] 0)).push (seqObj "list" #[] 0):=⟨_,rfl⟩
 have NY:h6.get? a = some (seqObj "list" #[] c1):=by rw [e6]; exact Heap.get?_push_of_some _ (Heap.get?_push_of_some _ NX)
 refine wpAny_bind (listItems_at ho rfl (wpAny_bind (listUpdate_at ho rfl ?_ (Nat.zero_le _) (Nat.zero_le _))))
 rw [← e1]
 refine wpAny_bind (seqEpoch_at NX rfl (wpAny_bind (wpAny_newTuple ?_ (Nat.zero_le _))))
 refine wpAny_bind (wpAny_newList ?_ (Nat.zero_le _)); refine wpAny_holding ?_
 show wpAny (model prog w) A _ P E { s with heap:=(h1.push (seqObj "tuple" #[] 0)).push (seqObj "list" #[] 0) }
 rw [← e6]
 dsimp only
 rw [if_pos rfl]
 refine wpAny_bind (wpAny_rule ?_)
 have h2:(#[]:Array Value).size < 2:=by decide
 rw [if_pos h2,if_pos h2]
 refine wpAny_bind (wpAny_pure ?_); rw [StateT.run_pure]; refine wpAny_bind (wpAny_pure ?_)
 dsimp only
 have out:((((#[]:Array Value).zip (#[]:Array Value)).reverse.map (·.2)).reverse) = (#[]:Array Value):=by simp
 refine wpAny_bind (seqEpoch_at NY rfl (wpAny_bind (listUpdate_at NY rfl ?_ (Nat.zero_le _) ?_)))
 ·show wpAny _ _ _ _ _ { s with heap:=h6.update a (Obj.mapSeq fun _ => ((((#[]:Array Value).zip (#[]:Array Value)).reverse.map (·.2)).reverse)) }
  rw [out]
  simp only [bne_self_eq_false,Bool.false_eq_true,if_false]
  refine wpAny_pure ?_
  unfold sortedHeap at h
  rw [e6,e1]
  exact h
 ·show ((((#[]:Array Value).zip (#[]:Array Value)).reverse.map (·.2)).reverse).size ≤ _
  rw [out]
  exact Nat.zero_le _
theorem tQ {l:Addr} {Q:Value → Shared → Prop} (hl:s.heap.IsList l (#[]:Array Value))
  (h:∀ (h':Heap) (l':Addr) (c:Nat),(∀ b o,s.heap.get? b = some o → h'.get? b = some o) → s.heap.objs.size ≤ l' → h'.get? l' = some (seqObj "list" #[] c) → Q (.ref l') { s with heap:=h' }) :
  wpAny (model prog w) A (call (.builtin "sorted") [.ref l] [(Str.ofString "reverse",.bool true)]) Q E s:=by
 refine call_function_entry_kw kind_sorted plain_sorted entry_sorted (args_sorted_rev _ _) ?_
 unfold Builtin.«sorted»; refine wpAny_bind (m:=checkCount "sorted" 1 1 _) (wpAny_pure ?_)
 refine wpAny_bind (collect_list (vs:=[]) hl ?_ (Nat.zero_le _))
 obtain ⟨h1,e1⟩:∃ h1,h1 = (s.heap.push (seqObj "list" #[] 0)).update s.heap.objs.size (Obj.mapSeq (· ++ ([]:List Value).toArray)):=⟨_,rfl⟩
 have k1:∀ b o,s.heap.get? b = some o → h1.get? b = some o:=fun b o e => by
  rw [e1]
  exact (Heap.get?_update_other _ _ (Nat.ne_of_gt (Heap.lt_size e))).trans (Heap.get?_push_of_some _ e)
 have z1:s.heap.objs.size ≤ h1.objs.size:=by
  obtain ⟨_,g⟩:∃ o,h1.get? s.heap.objs.size = some o:=⟨_,by rw [e1]; exact get?_update_seq (Heap.get?_push_size _ rfl) fun x => x ++ ([]:List Value).toArray⟩
  exact Nat.le_of_lt (Heap.lt_size g)
 rw [← e1]
 refine wpAny_bind (wpAny_newList ?_ (Nat.zero_le _))
 have gl:(h1.push (seqObj "list" #[] 0)).get? h1.objs.size = some (seqObj "list" ([]:List Value).toArray 0):=Heap.get?_push_size _ rfl
 show wpAny _ _ _ _ _ { s with heap:=h1.push (seqObj "list" #[] 0) }
 refine wpAny_bind (wpAny_holding (wpAny_call_entry_kw slot_list_sort ⟨_,gl,rfl⟩ entry_list_sort (zW gl ⟨_,rfl,?_⟩) (args_list_sort_rev _ _)))
 obtain ⟨c,gc⟩:∃ c,(sortedHeap (h1.push (seqObj "list" #[] 0)) h1.objs.size [] #[]).get? h1.objs.size = some (seqObj "list" #[] c) :=
  ⟨_,by unfold sortedHeap; exact get?_update_seq (Heap.get?_push_of_some _ (Heap.get?_push_of_some _ (get?_update_seq gl fun _ => #[]))) fun _ => #[]⟩
 refine wpAny_pure ⟨_,rfl,h _ h1.objs.size c (fun b o e => ?_) ‹_› gc⟩
 have e1:=k1 b o e
 have ne:h1.objs.size ≠ b:=Nat.ne_of_gt (Heap.lt_size e1)
 unfold sortedHeap
 exact (Heap.get?_update_other _ _ ne).trans (Heap.get?_push_of_some _ (Heap.get?_push_of_some _ ((Heap.get?_update_other _ _ ne).trans (Heap.get?_push_of_some _ e1))))
end
end SO
namespace L2
open PySem PySem.Spec PyProof.Rows
section
variable {X:Cx}
theorem qS:tf X (.builtin "sorted") ["reverse"] (fun xs zs H Q => ∃ a,xs = [.ref a] ∧ zs = [.bl true] ∧ iC X.K H a [] ∧ ∀ l,H l = none → Q (.ref l) (upd H l (.lst []))):=by
 intro af s σ H xs zs us ws Q I rx rz h
 obtain ⟨a,rfl,rfl,ha,q⟩:=h
 obtain ⟨u,rfl,r1⟩:=vals1 rx
 obtain ⟨z,rfl,r2⟩:=vals1 rz
 cases r1
 cases r2
 obtain ⟨aH,r,p,_⟩:=I.list ha
 cases r
 refine SO.tQ p.isList fun h' l c kp hl g => ?_
 exact ⟨.ref l,_,I.laid (t':=s.toks) kp hl (show bL X.prog X.w _ h' _ (.lst []) from ⟨Nat.zero_le _,_,c,.nil,g⟩),rfl,q l (I.bt.fresh hl)⟩
end
end L2
namespace MN
open PySem PySem.Spec L2
open PyProof.Rows hiding St kindOf
noncomputable def nq (st:ag) (n:Nat):Option (List (cq × ai)):=match st[n]? with
 | some (.dK aD) => some aD
 | some (.fd aD) => some aD
 | _ => none
theorem u4 {K:PySem.W.Frag} {ρ:List Addr} {st:ag} {H:Hp} {n:Nat} {a:Addr} {aD:List (cq × ai)} (sr:SR K ρ st H) (h:nq st n = some aD) (ha:ρ[n]? = some a):∃ b?,Rd H a (.dK b?) ∧ dO K ρ H aD b?:=by
 unfold nq at h
 split at h
 ·rename_i z
  cases h
  obtain ⟨b?,h1,h2⟩:=sr.cell n _ a z ha
  exact ⟨b?,.inl h1,h2⟩
 ·rename_i z
  cases h
  obtain ⟨o,b?,h1,h2⟩:=sr.cell n _ a z ha
  exact ⟨b?,.inr ⟨o,h1⟩,h2⟩
 ·cases h
noncomputable def qT:FN
 | [.loc n],st => match nq st n with
  | some aD => .ok (.int aD.length) st
  | none => .bad
 | _,_ => .bad
noncomputable def qU:List cq → Option (List Int)
 | [] => some []
 | .inl i :: r => (qU r).map (i :: ·)
 | .inr _ :: _ => none
theorem wW:∀ {l:List cq} {a:List Int},qU l = some a → l = a.map Sum.inl:=by
 intro l
 induction l with
 | nil => intro a h; cases h; rfl
 | cons x r ih =>
  intro a h
  cases x with
  | inl i =>
   replace h:(qU r).map (i :: ·) = some a:=h
   cases z:qU r with
   | none => rw [z] at h; cases h
   | some b => rw [z] at h; cases h; rw [ih z]; rfl
  | inr x => cases h
noncomputable def tR:FN
 | [.loc n],st => match nq st n with
  | some aD => match qU (aD.map (·.1)) with
   | some (i :: ns) => .ok (.int (SO.fW (fun j => (i :: ns).getD j 0) ns.length)) st
   | _ => .bad
  | none => .bad
 | _,_ => .bad
noncomputable def NZ (aD:List (cq × ai)):List ai:=aD.map fun p => .tup [tK p.1,p.2]
noncomputable def nr (n:Nat) (aD:List (cq × ai)):Itm:=(NZ aD,fun st2 => st2[n]? = some (.fd aD))
noncomputable def fO (m:ME):MI:=fun μ st => (m μ st).bind fun v av => match v with
 | .loc n => match av[n]? with
  | some (.dK aD) => .ok (nr n aD) (av.set n (.fd aD))
  | some (.fd aD) => .ok (nr n aD) av
  | _ => .bad
 | _ => .bad
noncomputable def CB (v:ai) (st:ag):bH ai:=match v with
 | .loc n => match aj st n with
  | some [] => .ok (.loc st.length) (st ++ [.lst []])
  | _ => .bad
 | _ => .bad
noncomputable def pz (m:ME):ME:=fun μ st => (m μ st).bind CB
section
variable {X:Cx} {E:XK}
theorem tU:aU X (.builtin "len") (cM (wo X) E qT):=by
 refine aU.imp wM ?_
 rintro xs H Q ⟨ρ,st,us,sr,r,h⟩
 unfold qT at h
 split at h
 ·rename_i n
  obtain ⟨v,rfl,r1⟩:=r.oZ
  obtain ⟨a,rfl,ha⟩:=r1.cN
  split at h
  ·rename_i aD e
   obtain ⟨b?,h1,h2⟩:=u4 sr e ha
   refine ⟨a,b?,rfl,h1,?_⟩
   have l:aD.length = b?.length:=by have:=congrArg List.length h2.1; simpa using this
   rw [← l]
   exact bu sr h
  ·exact h.elim
 ·exact h.elim
theorem tV (hh:X.A.handled = none):aU X (.builtin "max") (cM (wo X) E tR):=by
 refine aU.imp (pq hh) ?_
 rintro xs H Q ⟨ρ,st,us,sr,r,h⟩
 unfold tR at h
 split at h
 ·rename_i n
  obtain ⟨v,rfl,r1⟩:=r.oZ
  obtain ⟨a,rfl,ha⟩:=r1.cN
  split at h
  ·rename_i aD e
   split at h
   ·rename_i i ns z
    obtain ⟨b?,h1,h2⟩:=u4 sr e ha
    exact ⟨a,b?,i :: ns,rfl,h1,by rw [← h2.1]; exact wW z,by simp,bu sr h⟩
   ·exact h.elim
  ·exact h.elim
 ·exact h.elim
theorem CC {K:PySem.W.Frag} {ρ:List Addr} {H:Hp} {aD:List (cq × ai)} {b?:List (cq × V)} (p:dO K ρ H aD b?) {i:Nat} {k:cq} {u:ai} (h:aD[i]? = some (k,u)):∃ x,b?[i]? = some (k,x) ∧ Rl K ρ H u x:=by
 have h1:(aD.map (·.2))[i]? = some u:=by rw [List.getElem?_map,h]; rfl
 obtain ⟨x,e1,r⟩:=p.2.get h1
 have h2:(aD.map (·.1))[i]? = some k:=by rw [List.getElem?_map,h]; rfl
 rw [p.1] at h2
 rw [List.getElem?_map] at e1 h2
 cases z:b?[i]? with
 | none => rw [z] at h2; cases h2
 | some q =>
  rw [z] at e1 h2
  cases e1
  cases h2
  exact ⟨_,rfl,r⟩
theorem GD {K:PySem.W.Frag} {ρ:List Addr} {H:Hp} (k:cq):Rl K ρ H (tK k) (kV k):=by
 cases k with
 | inl i => exact Rl.mkInt i
 | inr x => exact Rl.mkStr x
theorem ow {K:PySem.W.Frag} {ρ:List Addr} {H:Hp} {n:Nat} {a:Addr} {ob:Obj} {aD:List (cq × ai)} {b?:List (cq × V)} (ha:ρ[n]? = some a) (hd:H a = some (.fh ob (.dK b?))):Dy K ρ H (nr n aD) (Js a ob):=by
 intro ρ' av H' e sr g i
 obtain ⟨o2,l2,c1,c2⟩:=sr.cell n _ a g (e.at_ ha)
 have c3:=e.fh _ _ _ hd
 rw [c3] at c1
 injection c1 with c1
 injection c1 with d1 d2
 injection d2 with d2
 subst d1 d2
 refine ⟨fun u hu => ?_,fun hi => ⟨b?,c3,?_⟩⟩
 ·have hu:((aD.map fun p => ai.tup [tK p.1,p.2]):List ai)[i]? = some u:=hu
  rw [List.getElem?_map] at hu
  cases z:aD[i]? with
  | none => rw [z] at hu; cases hu
  | some q =>
   obtain ⟨k,u'⟩:=q
   rw [z] at hu
   cases hu
   obtain ⟨x,e1,r⟩:=CC c2 z
   refine ⟨⟨b?,k,x,c3,e1⟩,fun v G5 y => ?_⟩
   obtain ⟨p,k',x',rfl,hp,rfl,y⟩:=y
   have e2:=(y b? c3).symm.trans e1
   injection e2 with e2
   injection e2 with e2 e3
   subst e2 e3
   have s:=bN (o:=.tup [kV k',x']) hp
   exact ⟨aC.same s,sr.grow s,Rl.lD a8 (aP.cons (GD k') (aP.one (Rl.mono (aC.same s) _ _ r)))⟩
 ·have l:aD.length = b?.length:=by have:=congrArg List.length c2.1; simpa using this
  rw [← l]
  simpa [nr,NZ] using hi
theorem l8 {elts:List Expr} {kt:Nat} {tp apos bO:Pos} {o:Expr} {m:ME} (hh:X.A.handled = none) (ho:PE X o (tE X E m)) (eQ:attributeBase o "items" X.env (eval o X.env) = eval o X.env:=by rfl) (eR:(apos.endLine == bO.line) = true:=by rfl) :
  PI X (.Tuple elts kt tp) (.Call (.Attribute o "items" apos) [] [] bO) (tI X E (fO m)):=by
 refine PI.imp (zT ho eQ eR) ?_
 rintro σ H R ⟨μ,ρ,st,rs,sr,h⟩
 refine go μ ρ st rs sr h fun u aN ρ1 H1 x e1 bo r1 h1 => ?_
 cases u with
 | loc n =>
  obtain ⟨a,rfl,ha⟩:=r1.cN
  dsimp only at h1
  cases z:aN[n]? with
  | none => rw [z] at h1; exact h1.elim
  | some c =>
   rw [z] at h1
   cases c with
   | dK aD =>
    obtain ⟨b?,hd,pr⟩:=bo.cell n _ a z ha
    refine ⟨a,b?,rfl,.inl ⟨hd,fun ob => ?_⟩⟩
    have sp:aC ρ1 H1 ρ1 (upd H1 a (.fh ob (.dK b?))):=aC.put hd (fun _ q => by cases q) (fun _ _ q => by cases q)
    have kg:SR X.K ρ1 (aN.set n (.fd aD)) (upd H1 a (.fh ob (.dK b?))):=bo.set z rfl rfl ha hd (fun _ q => by cases q) (fun _ _ q => by cases q) ⟨ob,b?,a8,pr.mono sp⟩
    exact h1 ρ1 _ _ sp kg (ow ha a8)
   | fd aD =>
    obtain ⟨ob,b?,hd,pr⟩:=bo.cell n _ a z ha
    exact ⟨a,b?,rfl,.inr ⟨ob,hd,h1 ρ1 H1 _ (aC.refl _ _) bo (ow ha hd)⟩⟩
   | _ => exact h1.elim
 | _ => exact h1.elim
theorem CD (b1 b2:Bool) {nx:Str} {np p pos:Pos} {ea eb:Expr} {m:MA} (hg:Gl X "zip") (hm:X.mg "zip" = none) (ha:PA X [ea,eb] (tL X E m)) (hs:starEach [ea,eb] X.env = [(false,eval ea X.env),(false,eval eb X.env)]:=by rfl) (bT:starEach [eb] X.env = [(false,eval eb X.env)]:=by rfl) :
  PI X (.Name nx np) (.Call (.Name "zip" p) [ea,eb] [] pos) (tI X E (jf b1 b2 m)):=by
 refine PI.imp (CA b1 b2 hg hm ha hs bT) ?_
 rintro σ H R ⟨μ,ρ,st,rs,sr,h⟩
 refine go (R1:=aP X.K) μ ρ st rs sr h fun us aN ρ1 H1 xs e1 bo r1 h1 => ?_
 split at h1
 ·rename_i u w
  obtain ⟨x,y,rfl,rx,ry⟩:=r1.G0
  split at h1
  ·rename_i c1 LN g1 c2 LO g2 z1 z2
   split at h1
   ·rename_i hc
    obtain ⟨rfl,rfl⟩:=hc
    obtain ⟨a,rfl,ka⟩:=kQ bo rx z1 fun s g h => aO s g h
    obtain ⟨b,rfl,kb⟩:=kQ bo ry z2 fun s g h => aO s g h
    obtain ⟨v1,q1,_⟩:=ka ρ1 aN H1 (aC.refl _ _) bo (o6 z1)
    obtain ⟨v2,q2,_⟩:=kb ρ1 aN H1 (aC.refl _ _) bo (o6 z2)
    refine ⟨a,b,rfl,⟨v1,q1⟩,⟨v2,q2⟩,h1 ρ1 H1 _ (aC.refl _ _) bo ?_⟩
    intro ρ' av H' e s g i
    obtain ⟨w1,s1,t1⟩:=ka ρ' av H' e s g.1
    obtain ⟨w2,s2,t2⟩:=kb ρ' av H' e s g.2
    obtain ⟨k1,k2⟩:=o5 LN LO i
    refine ⟨fun z hz => ?_,fun hi => ⟨w1,w2,s1,s2,?_⟩⟩
    ·obtain ⟨u',w',LP,LQ,rfl⟩:=k1 z hz
     obtain ⟨p1,p2,p3⟩:=t1.get LP
     obtain ⟨o1,o2,o3⟩:=t2.get LQ
     refine ⟨⟨w1,w2,p1,o1,s1,s2,p2,o2⟩,fun x' G5 y' => ?_⟩
     obtain ⟨pp,x1,y1,rfl,hp,rfl,f1,f2⟩:=y'
     have c1:=(f1 w1 s1).symm.trans p2
     have c2:=(f2 w2 s2).symm.trans o2
     cases c1
     cases c2
     exact ⟨aC.same (bN hp),s.grow (bN hp),Rl.lD a8 (aP.mono (aC.same (bN hp)) _ _ (aP.cons p3 (aP.one o3)))⟩
    ·rw [← t1.length,← t2.length]; exact k2 hi
   ·exact h1.elim
  ·exact h1.elim
 ·exact h1.elim
theorem zX {x:Str} {p pos cp kp:Pos} {e:Expr} {md:ME} {j:Nat} (hc:X.calm = true) (hg:Gl X x) (hm:X.mg x = none) (hv:bootBuiltins x = some (.builtin "sorted")) (ha:PE X e (tE X E md)) (hn:x ≠ "__name__":=by decide) (iK:(x == ("__debug__":Str)) = false:=by decide)
  (he:starEach [e] X.env = (false,eval e X.env) :: starEach [] X.env:=by rfl):PE X (.Call (.Name x p) [e] [⟨some "reverse",.Constant (.bool true) j cp,kp⟩] pos) (tE X E (pz md)):=by
 refine PE.imp (om qS hg hm hv (eB ha jG he) (uj De xT) (by rfl) hn iK (by rw [he]; rfl) (by rw [he]; rfl) (by rfl) (by rfl)) ?_
 rintro σ H Q ⟨μ,ρ,st,rs,sr,h⟩
 refine go μ ρ st rs sr h fun d aN ρ1 H1 v e1 bo r1 h1 => ?_
 show ∃ a,[v] = [V.ref a] ∧ [V.bl true] = [V.bl true] ∧ _
 cases d with
 | loc n =>
  obtain ⟨a,rfl,ha⟩:=r1.cN
  unfold CB at h1
  dsimp only at h1
  split at h1
  ·rename_i z
   obtain ⟨vs,h3,rv⟩:=aO bo z ha
   rw [rv.de] at h3
   refine ⟨a,rfl,rfl,h3,fun l hl => ?_⟩
   obtain ⟨k1,k2,k3⟩:=fu bo aP.nil hl
   exact h1 _ _ _ k1 k2 k3
  ·exact h1.elim
 | _ => exact h1.elim
end
end MN
namespace MN
open PySem PySem.Spec L2
end MN
namespace PM
open PySem PySem.Spec L2 MN
open PyProof.Rows hiding St
noncomputable def cG:FN:=fJ 4 4 (az (fc ["Packing"] "by_degree" (ae 0) (ah gR (ae 1) (mC (.str "deg")))) (az (fc ["Packing"] "many" (ae 0) (ae 2)) (az (fc ["Packing"] "width" (ae 0) (ah bV (uM (ae 3)) (mC (.int 40)))) (fc ["Packing"] "guards" (ae 0) (ao pw (aa (bG 1 [0] (cD (aa (ae 2) ak)) (aw 0) aL (ah jm (mC (.int 1)) (ah eV (ah bV (ah cF (bh ["Packing"] "width" (ae 1)) (ae 0)) (bh ["Packing"] "width" (ae 1))) (mC (.int 1))))) ak))))))
noncomputable def bw:FN:=fJ 2 4 (az (aM 2 (Bx (cA (bh ["Packing"] "by_degree" (ae 0))) (ao pw (aa (ae 1) ak)) (mC (.int 0)))) (az (dD (d_ (ae 1)) (aw 3) (aM 2 (ah Kk (ah jm (ae 2) (bh ["Packing"] "width" (ae 0))) (ae 3)))) (aY (ae 2))))
noncomputable def aI:FN:=fJ 2 3 (az (aM 2 (ah eV (ah jm (mC (.int 1)) (bh ["Packing"] "width" (ae 0))) (mC (.int 1)))) (aY (ao nc (aa (bG 1 [2,1,0] (lO (aa (ah eV (bh ["Packing"] "many" (ae 0)) (mC (.int 1))) (aa (jN (mC (.int 1))) (aa (jN (mC (.int 1))) ak)))) (aw 0) aL (ah B3 (ah B0 (ae 2) (ah cF (bh ["Packing"] "width" (ae 3)) (ae 0))) (ae 1))) ak))))
noncomputable def aZ:FN:=fJ 1 2 (dD (d_ (ae 0)) (aw 1) (gf (cA (ah gR (ao cT (aa (ae 1) ak)) (mC (.int 0)))) (dm "ByNought" (aa (mC (.str "nothing is reduced by nought")) ak)) bB))
noncomputable def bx:FN:=fJ 3 3 (aY (ao qO (aa (bG 2 [2,0] (fO (ae 1)) (eY [(aw 0),(aw 1)]) aL (d5 (aa (ae 0) (aa (ah cg (ah cF (ae 1) (ae 2)) (ae 3)) ak)))) ak)))
noncomputable def eH:FN:=fJ 5 9 (fK (cA (ah Dv (ao qT (aa (ae 2) ak)) (mC (.int 0)))) zK)
noncomputable def cz:FN:=fJ 5 9 (dD (d_ (ae 2)) (eY [(aw 5),(aw 6)]) zK)
noncomputable def a9:FN:=fJ 2 4 (az (aM 2 (mC (.int 0))) (az (gf (cA (ah ij (ae 0) (bF ak))) (aM 2 (ah bR (ae 0) (ah cg (ae 1) (ao cT (aa (ae 0) ak))))) bB) (az (aM 3 (ah cg (ah bV (ah cF (ae 2) (mC (.int 48271))) (ah cF (ah bV (ae 1) (mC (.int 1))) (mC (.int 7919)))) (mC (.int 2147483647)))) (az (aM 3 (ah cg (ah cF (ah cg (ah cF (ae 3) (ae 3)) (mC (.int 2147483629))) (mC (.int 48271))) (mC (.int 2147483647)))) (aY (ah bV (ah cF (ae 3) (mC (.int 2147483629))) (ah cg (ah cF (ae 3) (ae 3)) (mC (.int 2147483629)))))))))
noncomputable def fX:FN:=fJ 2 4 (az (aM 2 (bF ak)) (az (dD (cD (aa (ah bR (ae 1) (mC (.int 2))) ak)) (aw 3) (az (bg (ik c6 (ae 2) (aa (ah cg (ae 0) (ah bV (ah bR (ae 1) (mC (.int 3))) (mC (.int 1)))) ak))) (aM 0 (ah dQ (ae 0) (ah bV (ah bR (ae 1) (mC (.int 3))) (mC (.int 1))))))) (aY (d5 (aa (ao nc (aa (ae 2) ak)) (aa (ah bV (mC (.int 1)) (ah cg (ae 0) (ah eV (ah bR (ae 1) (mC (.int 0))) (mC (.int 1))))) ak))))))
noncomputable def bY:FN:=fJ 3 3 (aY (cQ "Packing" "key_of" PM.bw (ae 0) (aa (bG 1 [] (jf false false (aa (cQ "Packing" "exponents_of" PM.aI (ae 0) (aa (ae 1) ak)) (aa (cQ "Packing" "exponents_of" PM.aI (ae 0) (aa (ae 2) ak)) ak))) (aw 0) aL (ao jn (aa (ae 0) ak))) ak)))
noncomputable def bZ:FN:=fJ 2 2 (aY (ao qO (aa (bG 2 [0] (d_ (ae 1)) (eY [(aw 0),(aw 1)]) aL (d5 (aa (cQ "Packing" "key_of" PM.bw (ae 2) (aa (ae 0) ak)) (aa (ae 1) ak)))) ak)))
noncomputable def a_:FN:=fJ 2 2 (aY (pz (bG 2 [0] (fO (ae 1)) (eY [(aw 0),(aw 1)]) aL (d5 (aa (cQ "Packing" "exponents_of" PM.aI (ae 2) (aa (ae 0) ak)) (aa (ae 1) ak))))))
noncomputable def fY:FN:=fJ 1 9 (az (aM 1 (bF (aa (mC (.int 7)) (aa (mC (.int 3)) (aa (mC (.int 2)) (aa (mC (.int 5)) (aa (mC (.int 13)) (aa (mC (.int 97)) (aa (mC (.int 11)) (aa (mC (.int 17)) (aa (mC (.int 19)) (aa (mC (.int 23)) (aa (mC (.int 29)) (aa (mC (.int 31)) (aa (mC (.int 37)) (aa (mC (.int 41)) (aa (mC (.int 43)) (aa (mC (.int 47)) (aa (mC (.int 53)) (aa (mC (.int 59)) (aa (mC (.int 61)) (aa (mC (.int 67)) (aa (mC (.int 71)) (aa (mC (.int 73)) (aa (mC (.int 79)) (aa (mC (.int 83)) (aa (mC (.int 89)) ak))))))))))))))))))))))))))) (az (aM 2 (ao PM.a9 (aa (ae 0) (aa (mC (.int 1)) ak)))) (az (aM 3 (ah cg (ah dQ (ae 2) (mC (.int 2))) (mC (.int 8)))) (az (aM 4 (ah bR (bF (aa (mC (.str "lex")) (aa (mC (.str "deg")) ak))) (ah cg (ae 2) (mC (.int 2))))) (az (aM 5 (ah bR (bF (aa (mC (.int 2)) (aa (mC (.int 1)) (aa (mC (.int 2)) (aa (mC (.int 3)) (aa (mC (.int 2)) (aa (mC (.int 1)) (aa (mC (.int 3)) (aa (mC (.int 1)) ak))))))))) (ae 3))) (az (aM 6 (ah bR (bF (aa (mC (.int 2)) (aa (mC (.int 4)) (aa (mC (.int 2)) (aa (mC (.int 1)) (aa (mC (.int 1)) (aa (mC (.int 8)) (aa (mC (.int 1)) (aa (mC (.int 3)) ak))))))))) (ae 3))) (az (aM 7 (ah bR (bF (aa (mC (.int 3)) (aa (mC (.int 4)) (aa (mC (.int 2)) (aa (mC (.int 2)) (aa (mC (.int 4)) (aa (mC (.int 8)) (aa (mC (.int 2)) (aa (mC (.int 3)) ak))))))))) (ae 3))) (az (aM 8 (ah bR (ae 1) (ah cg (ao PM.a9 (aa (ae 0) (aa (mC (.int 0)) ak))) (mC (.int 25))))) (aY (d5 (aa (ae 8) (aa (ae 4) (aa (ae 5) (aa (ae 6) (aa (ae 7) (aa (ah bR (bF (aa (mC (.int 2)) (aa (mC (.int 3)) (aa (mC (.int 3)) (aa (mC (.int 3)) (aa (mC (.int 2)) (aa (mC (.int 2)) (aa (mC (.int 3)) (aa (mC (.int 4)) ak))))))))) (ae 3)) ak))))))))))))))))
noncomputable def cB:FN:=fJ 4 4 (az (gf (jL (cE (cA (xq "tuple" (ae 0)))) (jL (cA (ah ij (ao cT (aa (ae 0) ak)) (mC (.int 3)))) (jL (cE (cA (ao PM.dz (aa (ah bR (ae 0) (mC (.int 0))) ak)))) (cE (cA (ao PM.dz (aa (ah bR (ae 0) (mC (.int 1))) ak))))))) (aY (mC (.bl false))) bB) (aY (m? (ah gR (ah bR (ae 0) (mC (.int 0))) (ae 1)) (m? (ah gR (ah bR (ae 0) (mC (.int 1))) (ae 2)) (ah gR (ah bR (ae 0) (mC (.int 2))) (bG 1 [] (cD (aa (ae 3) ak)) (aw 0) aL (bF ak)))))))
noncomputable def dA:FN:=fJ 2 5 (az (aM 2 (bF ak)) (az (dD (d_ (ae 1)) (aw 3) (bg (ik gw (ae 2) (aa (ae 3) ak)))) (az (aM 4 (Bx (cA (ah Dv (ao cT (aa (ae 2) ak)) (mC (.int 0)))) (ao cT (aa (ah bR (ah bR (ae 2) (mC (.int 0))) (mC (.int 0))) ak)) (mC (.int 1)))) (aY (qJ "Packing" PM.cG (aa (ae 0) (aa (ae 4) (aa (uW (bG 2 [] (d_ (ae 2)) (eY [(aw 0),(aw 1)]) aL (ao jn (aa (ae 0) ak))) (mC (.int 0))) ak))))))))
noncomputable def bz:FN:=fJ 4 7 (az (aM 4 (bF ak)) (az (dD (jf true true (aa (ae 2) (aa (ae 3) ak))) (eY [(aw 5),(aw 6)]) (bg (ik c6 (ae 4) (aa (cQ "Packing" "sum_of_terms" PM.a_ (ae 1) (aa (ao PM.bx (aa (ae 0) (aa (ae 6) (aa (bh ["Monic"] "back" (ae 5)) ak)))) ak)) ak)))) (aY (ae 4))))
noncomputable def aS:FN:=fJ 5 8 (az (aM 5 (cQ "Packing" "least_of" PM.bY (ae 1) (aa (bh ["Monic"] "top" (ah bR (ae 2) (ae 3))) (aa (bh ["Monic"] "top" (ah bR (ae 2) (ae 4))) ak)))) (az (aM 6 gX) (az (bg (ao PM.cz (aa (ae 0) (aa (ae 6) (aa (bh ["Monic"] "tail" (ah bR (ae 2) (ae 3))) (aa (ah eV (ae 5) (bh ["Monic"] "top" (ah bR (ae 2) (ae 3)))) (aa (mC (.int 1)) ak))))))) (az (bg (ao PM.cz (aa (ae 0) (aa (ae 6) (aa (bh ["Monic"] "tail" (ah bR (ae 2) (ae 4))) (aa (ah eV (ae 5) (bh ["Monic"] "top" (ah bR (ae 2) (ae 4)))) (aa (jN (mC (.int 1))) ak))))))) (az (aM 7 (bG 1 [] (d_ (ae 2)) (aw 0) aL gX)) (az (bg (ao PM.eH (aa (ae 0) (aa (bh ["Packing"] "guards" (ae 1)) (aa (ae 6) (aa (ae 2) (aa (ae 7) ak))))))) (aY (Bx (cA (ah gR (ao qT (aa (ae 6) ak)) (mC (.int 0)))) (ae 7) (mC .bE)))))))))
noncomputable def cH:FN:=fJ 3 3 (az (fc ["Monic"] "top" (ae 0) (ao tR (aa (ae 2) ak))) (az (fc ["Monic"] "back" (ae 0) (ao PM.inverse (aa (ae 1) (aa (ah kh (ae 2) (bh ["Monic"] "top" (ae 0))) ak)))) (fc ["Monic"] "tail" (ae 0) (bG 2 [1,0] (fO (ae 2)) (eY [(aw 0),(aw 1)]) (cA (ah ij (ae 0) (bh ["Monic"] "top" (ae 3)))) (d5 (aa (ae 0) (aa (ah cg (ah cF (ae 1) (bh ["Monic"] "back" (ae 3))) (ae 2)) ak)))))))
noncomputable def bp:FN:=fJ 3 9 (az (bg (ao PM.bD (aa (ae 0) ak))) (az (bg (ao PM.bX (aa (ae 1) ak))) (az (bg (ao PM.aZ (aa (ae 2) ak))) (az (aM 3 (ao PM.dA (aa (ae 1) (aa (ae 2) ak)))) (az (aM 4 (bG 1 [3,0] (d_ (ae 2)) (aw 0) aL (qJ "Monic" PM.cH (aa (ae 2) (aa (cQ "Packing" "terms_of" PM.bZ (ae 1) (aa (ae 0) ak)) ak))))) (az (aM 5 (bF ak)) (az (dD (cD (aa (ao cT (aa (ae 2) ak)) ak)) (aw 6) (dD (fv (aa (ah bV (ae 6) (mC (.int 1))) (aa (ao cT (aa (ae 2) ak)) ak))) (aw 7) (az (aM 8 (ao PM.aS (aa (ae 0) (aa (ae 3) (aa (ae 4) (aa (ae 6) (aa (ae 7) ak))))))) (az (gf (cA (ah (Kc false) (ae 8) (mC .bE))) (aY (mC .bE)) bB) (bg (ik c6 (ae 5) (aa (d5 (aa (ae 6) (aa (ae 7) (aa (ao PM.bz (aa (ae 0) (aa (ae 3) (aa (ae 4) (aa (ae 8) ak))))) ak)))) ak))))))) (aY (ae 5)))))))))
end PM
namespace qW
open PySem PySem.Spec L2 MN
open PyProof.Rows hiding St
noncomputable def Jt:List (Str × Str × Bool):=[(("NoInverse":Str),("AlgebraError":Str),true),(("NoInverse":Str),("NoPrime":Str),false),(("NoInverse":Str),("NoOrder":Str),false),(("NoInverse":Str),("ByNought":Str),false),(("ByNought":Str),("AlgebraError":Str),true),(("ByNought":Str),("NoPrime":Str),false),(("ByNought":Str),("NoOrder":Str),false),(("ByNought":Str),("ByNought":Str),true),(("NoOrder":Str),("AlgebraError":Str),true),(("NoOrder":Str),("NoPrime":Str),false),(("NoOrder":Str),("NoOrder":Str),true),(("NoOrder":Str),("ByNought":Str),false),(("NoRing":Str),("AlgebraError":Str),true),(("NoRing":Str),("NoPrime":Str),false),(("NoRing":Str),("NoOrder":Str),false),(("NoRing":Str),("ByNought":Str),false),(("NoPrime":Str),("AlgebraError":Str),true),(("NoPrime":Str),("NoPrime":Str),true),(("NoPrime":Str),("NoOrder":Str),false),(("NoPrime":Str),("ByNought":Str),false)]
noncomputable def tab:List (Str × Str × Bool):=Jt ++ Jj ["NoInverse","ByNought","NoOrder","NoRing","NoPrime"]
noncomputable def kn:List Str:=["NoInverse","ByNought","NoOrder","NoRing","NoPrime"]
noncomputable def aX:FN:=fJ 3 4 (az (oh (qr (Kf kn) (bg (ao PM.bp (FI (aa (ae 0) (aa (ae 1) (aa (ae 2) ak)))))) (G_ (eG tab) "AlgebraError" 3 (aY (bF (aa (kj (eG tab) kn 3 "NoPrime") (aa (kj (eG tab) kn 3 "NoOrder") (aa (kj (eG tab) kn 3 "ByNought") (aa (wj (eG tab) 3 "ValueError") ak)))))) IK))) (aY (bF ak)))
noncomputable def cC:FN:=fJ 3 8 (az (aM 3 (ah bR (bF (aa (mC (.int 0)) (aa (mC (.int 1)) (aa (mC (.int 4)) (aa (mC (.int 998)) (aa (jN (mC (.int 7))) (aa (mC (.int 961)) (aa (mC (.bl true)) (aa (mC .bE) (aa (mC (.str "7")) (aa (mC (.int 1009)) (aa (mC (.int 32003)) ak)))))))))))) (ah cg (ae 2) (mC (.int 11))))) (az (aM 4 (ah bR (bF (aa (mC (.str "")) (aa (mC (.str "Lex")) (aa (mC (.str "LEX")) (aa (mC (.str "degree")) (aa (mC (.str "grevlex")) (aa (mC (.str "deglex")) (aa (mC (.str "revlex")) (aa (mC .bE) (aa (mC (.int 0)) ak)))))))))) (ah cg (ah dQ (ae 2) (mC (.int 11))) (mC (.int 9))))) (az (aM 5 (ah cg (ah dQ (ae 2) (mC (.int 99))) (ah bV (ao wH (aa (mC (.int 3)) (aa (ao cT (aa (ae 1) ak)) ak))) (mC (.int 1))))) (az (aM 6 (uK (ah bV (ah bV (uK (ae 1) fV (fB (ae 5))) (bF (aa (bF ak) ak))) (uK (ae 1) (fB (ae 5)) fV)) fV (fB (mC (.int 4))))) (az (dD (d_ (d5 (aa (ae 6) (aa (ae 1) (aa (bF ak) ak))))) (aw 7) (az (gf (cA (ah ij (ao aX (aa (ae 3) (aa (ae 4) (aa (ae 7) ak)))) (bF (aa (mC (.bl true)) (aa (mC (.bl false)) (aa (mC (.bl false)) (aa (mC (.bl true)) ak))))))) (aY (mC (.bl false))) bB) (az (gf (cA (ah ij (ao aX (aa (ae 3) (aa (ah bR (ae 0) (mC (.int 1))) (aa (ae 7) ak)))) (bF (aa (mC (.bl true)) (aa (mC (.bl false)) (aa (mC (.bl false)) (aa (mC (.bl true)) ak))))))) (aY (mC (.bl false))) bB) (gf (cA (ah ij (ao aX (aa (ah bR (ae 0) (mC (.int 0))) (aa (ae 4) (aa (ae 7) ak)))) (bF (aa (mC (.bl false)) (aa (mC (.bl true)) (aa (mC (.bl false)) (aa (mC (.bl true)) ak))))))) (aY (mC (.bl false))) bB)))) (aY (ah gR (ao aX (aa (ah bR (ae 0) (mC (.int 0))) (aa (ah bR (ae 0) (mC (.int 1))) (aa (ae 6) ak)))) (bF (aa (mC (.bl false)) (aa (mC (.bl false)) (aa (mC (.bl true)) (aa (mC (.bl true)) ak))))))))))))
noncomputable def oy:MB:=(aY (mC (.bl true)))
noncomputable def oz:MB:=(az (dD (cD (aa (ao cT (aa (ae 6) ak)) ak)) (aw 8) (gf (cE (cA (ao PM.cB (aa (ah bR (ae 5) (ae 8)) (aa (ah bR (ah bR (ae 6) (ae 8)) (mC (.int 0))) (aa (ah bR (ah bR (ae 6) (ae 8)) (mC (.int 1))) (aa (ao cT (aa (ae 2) ak)) ak))))))) (aY (mC (.bl false))) bB)) oy)
noncomputable def qX:MB:=(az (gf (cA (ah ij (ao cT (aa (ae 5) ak)) (ao cT (aa (ae 6) ak)))) (aY (mC (.bl false))) bB) oz)
noncomputable def l9:MB:=(az (dD (cD (aa (ao cT (aa (ae 2) ak)) ak)) (aw 7) (aM 6 (ah bV (ae 6) (bG 1 [7] (fv (aa (ah bV (ae 7) (mC (.int 1))) (aa (ao cT (aa (ae 2) ak)) ak))) (aw 0) aL (d5 (aa (ae 1) (aa (ae 0) ak))))))) qX)
noncomputable def qY:MB:=(az (aM 6 (bF ak)) l9)
noncomputable def l_:MB:=(az (gf (jL (cA (ah ij (ae 4) (ae 2))) (cE (cA (xq "list" (ae 5))))) (aY (mC (.bl false))) bB) qY)
noncomputable def l!:MB:=(az (aM 5 (ao PM.bp (aa (ah bR (ae 1) (mC (.int 0))) (aa (ah bR (ae 1) (mC (.int 1))) (aa (ae 4) ak))))) l_)
noncomputable def qZ:MB:=(az (aM 4 (bG 1 [] (d_ (ae 2)) (aw 0) aL (ao sJ (aa (ae 0) ak)))) l!)
noncomputable def l?:MB:=(az (gf (uA (cA (ah gR (ah cg (ae 3) (mC (.int 4))) (mC (.int 1)))) (cE (cA (ao cC (aa (ae 1) (aa (ae 2) (aa (ah dQ (ae 3) (mC (.int 4))) ak))))))) (aY (mC (.bl false))) bB) qZ)
noncomputable def mf:MB:=(az (aM 3 (ao PM.a9 (aa (ae 0) (aa (mC (.int 12)) ak)))) l?)
noncomputable def jo:MB:=(az (aM 2 (bG 1 [0,1] (cD (aa (ah cg (ao PM.a9 (aa (ae 0) (aa (mC (.int 2)) ak))) (mC (.int 5))) ak)) (aw 0) aL (bF (aa (ao PM.fX (aa (ao PM.a9 (aa (ae 1) (aa (ah bV (mC (.int 3)) (ae 0)) ak))) (aa (ae 2) ak))) ak)))) mf)
noncomputable def zY:FN:=fJ 1 9 (az (aM 1 (ao PM.fY (aa (ae 0) ak))) jo)
end qW
namespace PG
open PySem PySem.Spec L2 MN
open PyProof.Rows hiding St kindOf
theorem jq (i:Int) (st:ag):PM.e_ [.int i] st = .ok (.bl true) st:=rfl
noncomputable def FP:List Int:=[2,3,5,7,11,13,17,19,23,29,31]
noncomputable def jr (n:Int):Bool:=FP.contains n || (decide (2 ≤ n) && decide (n ≤ 997) && FP.all fun p => !(n.fmod p == 0))
theorem any_ints (n:Int) (ns:List Int):(ns.map ai.int).any (fun y => Fy y (.int n)) = ns.contains n:=by
 induction ns with
 | nil => rfl
 | cons m ns ih =>
  simp only [List.map_cons,List.any_cons,List.contains_cons]
  rw [ih]
  congr 1
  show (m == n) = (n == m)
  rw [Bool.eq_iff_iff,beq_iff_eq,beq_iff_eq]; exact ⟨Eq.symm,Eq.symm⟩
theorem CF (n:Int) (ns:List Int) (st:ag):Dx false (.int n) (.mt (ns.map ai.int)) st = .ok (.bl (ns.contains n)) st:=by
 have h1:(ns.map ai.int).all flat = true:=by rw [List.all_map]; exact List.all_eq_true.mpr fun _ _ => rfl
 unfold Dx Dw
 dsimp only
 rw [if_pos ⟨rfl,h1⟩,any_ints]
 rfl
theorem CG (ns:List Int) (f:Int → Bool):je ((ns.map ai.int).map fun v => match v with | .int i => .bl (f i) | _ => .bE) = some (ns.map f):=by
 induction ns with
 | nil => rfl
 | cons m ns ih =>
  simp only [List.map_cons,je] at ih ⊢
  rw [ih]; rfl
theorem il (n:Int) (st:ag):∃ g,PM.bC [.int n] st = .ok (.bl (jr n)) (st ++ g):=by
 have Dr:Dx false (.int n) PM.dG st = .ok (.bl (FP.contains n)) st:=CF n FP st
 cases h1:FP.contains n with
 | true =>
  refine ⟨[],?_⟩
  rw [h1] at Dr
  simp only [PM.bC,a!,aq,aV,o_,dW,cX,d7,cY,fC,o!,iO,e?,d!,aA,dn,gB,ej,List.map_cons,List.map_nil,List.replicate_zero,Nat.reduceSub,List.length_cons,List.length_nil,Nat.reduceAdd,Dr,List.append_nil,jr,h1,Bool.true_or]
 | false =>
  rw [h1] at Dr
  by_cases h2:n < 2
  ·refine ⟨[],?_⟩
   have e2:decide (n < 2) = true:=decide_eq_true h2
   have e3:decide (2 ≤ n) = false:=decide_eq_false (by lia)
   simp only [PM.bC,a!,aq,aV,aB,o_,dW,cX,d7,cY,uP,fC,o!,iQ,iO,e?,d!,iP,aA,h7,dn,gB,qD,ej,List.map_cons,List.map_nil,List.replicate_zero,Nat.reduceSub,List.length_cons,List.length_nil,Nat.reduceAdd,Dr,e2,List.append_nil,jr,h1,e3,Bool.false_or,Bool.false_and]
  ·have e2:decide (n < 2) = false:=decide_eq_false h2
   have e3:decide (2 ≤ n) = true:=decide_eq_true (by lia)
   by_cases h3:997 < n
   ·refine ⟨[],?_⟩
    have e4:decide (997 < n) = true:=decide_eq_true h3
    have e5:decide (n ≤ 997) = false:=decide_eq_false (by lia)
    simp only [PM.bC,a!,aq,aV,aB,o_,dW,cX,d7,cY,jg,fC,o!,iQ,iO,e?,d!,iP,aA,h7,dn,gB,qD,DK,ej,List.map_cons,List.map_nil,List.replicate_zero,Nat.reduceSub,List.length_cons,List.length_nil,Nat.reduceAdd,Dr,e2,e4,List.append_nil,jr,h1,e3,e5,Bool.false_or,Bool.false_and,Bool.true_and]
   ·have e4:decide (997 < n) = false:=decide_eq_false h3
    have e5:decide (n ≤ 997) = true:=decide_eq_true (by lia)
    let f:ai → ai:=fun v => match v with | .int i => .bl (!(n.fmod i == 0)) | _ => .bE
    have hc:a7 (fun _ => True) (aw 0) aL (ah ij (ah cg (ae 1) (ae 0)) (mC (ai.int 0))) (FP.map ai.int) (e8 1 [0] [some (ai.int n)]) st [] = .ok ([] ++ ((FP.map ai.int).filter fun _ => true).map f) st:=by
     refine gy trivial (fun τ => ∃ x,τ = [x,some (.int n)]) (fun _ => true) f (FP.map ai.int) _ [] ⟨none,rfl⟩ ?_
     rintro u hu τ ⟨x,rfl⟩
     obtain ⟨i,hi,rfl⟩:=List.mem_map.mp hu
     have Pm:¬ i = 0:=by
      intro z; subst z; revert hi; decide
     refine ⟨_,rfl,⟨_,rfl⟩,rfl,fun _ => ?_⟩
     simp only [aq,cX,d7,cY,iO,qE,ej,jj,List.set_cons_zero,iR Pm,f]
    have hb:je (((FP.map ai.int).filter fun _ => true).map f) = some (FP.map fun i => !(n.fmod i == 0)):=by
     rw [List.filter_eq_self.mpr (fun _ _ => rfl)]
     exact CG FP fun i => !(n.fmod i == 0)
    refine ⟨[.lst (((FP.map ai.int).filter fun _ => true).map f)],?_⟩
    have ha:v_ [.loc st.length] (st ++ [.lst (((FP.map ai.int).filter fun _ => true).map f)]) = .ok (.bl (jr n)) (st ++ [.lst (((FP.map ai.int).filter fun _ => true).map f)]):=by
     unfold v_
     dsimp only
     rw [aQ]
     dsimp only
     rw [hb]
     simp only [jr,h1,e3,e5,Bool.false_or,Bool.true_and,List.all_map]
     rfl
    have hw:qC PM.dG st = .ok (FP.map ai.int,fun _ => True) st:=rfl
    have hz:(FP.map ai.int).length = 11:=rfl
    rw [List.nil_append] at hc
    simp only [PM.bC,a!,aq,aV,aB,dW,cX,d7,cY,jg,d?,dj,fC,iQ,DI,dX,iO,e?,d!,iP,fN,dh,dZ,aA,h7,dn,gB,cO,c7,qD,DK,ej,List.map_cons,List.map_nil,List.cons_append,List.nil_append,List.replicate_zero,Nat.reduceSub,List.length_cons,List.length_nil,Nat.reduceAdd,sizeLine_eq,Nat.reduceLeDiff,↓reduceIte,Dr,e2,e4,hw,hc,ha,hz]
end PG
namespace wX
noncomputable def CH (u0 u1 g0 g1 M:Int):Prop:=∃ e x0 x1:Int,(e = 1 ∨ e = -1) ∧ 0 ≤ x0 ∧ 0 ≤ x1 ∧ u0 = e * x0 ∧ u1 = -(e * x1) ∧ x1 * g0 + x0 * g1 = M ∧ x0 ≤ M + 1 ∧ x1 ≤ M + 1
theorem mj {x g:Int} (hx:0 ≤ x) (hg:1 ≤ g):x ≤ x * g:=by
 have:=Int.mul_le_mul_of_nonneg_left hg hx
 simpa using this
theorem CH.step {u0 u1 g0 g1 M q:Int} (h:CH u0 u1 g0 g1 M) (hq:0 ≤ q) (h1:1 ≤ g1) (h2:0 ≤ g0 - q * g1):CH u1 (u0 - q * u1) g1 (g0 - q * g1) M:=by
 obtain ⟨e,x0,x1,he,p0,p1,r0,r1,hM,b0,b1⟩:=h
 have p2:0 ≤ x0 + q * x1:=by
  have:=Int.mul_nonneg hq p1
  lia
 have eq:(x0 + q * x1) * g1 + x1 * (g0 - q * g1) = M:=by rw [← hM]; grind
 refine ⟨-e,x1,x0 + q * x1,?_,p1,p2,?_,?_,eq,b1,?_⟩
 ·rcases he with rfl | rfl <;> simp
 ·rw [r1]; grind
 ·rw [r0,r1]; grind
 ·have k1:=mj p2 h1
  have k2:=Int.mul_nonneg p1 h2
  lia
theorem CH.bound {u0 u1 g0 g1 M:Int} (h:CH u0 u1 g0 g1 M):u0.natAbs ≤ (M + 1).natAbs ∧ u1.natAbs ≤ (M + 1).natAbs:=by
 obtain ⟨e,x0,x1,he,p0,p1,r0,r1,hM,b0,b1⟩:=h
 rcases he with rfl | rfl <;> (subst r0 r1; constructor <;> lia)
theorem CH.Ju {u0 u1 g0 g1 M q:Int} (h:CH u0 u1 g0 g1 M) (hq:0 ≤ q) (h1:1 ≤ g1) (h2:0 ≤ g0 - q * g1):q ≤ g0:=by
 have:=mj hq h1
 lia
structure aG (a b:Int) (g0 u0 v0 g1 u1 v1:Int):Prop where
 n0:0 ≤ g0
 n1:0 ≤ g1
 c0:u0 * a + v0 * b = g0
 c1:u1 * a + v1 * b = g1
 cu:CH u0 u1 g0 g1 (b.natAbs:Int)
 cv:CH v0 v1 g0 g1 (a.natAbs:Int)
 m0:g0 ≤ (a.natAbs:Int) + (b.natAbs:Int)
 m1:g1 ≤ (a.natAbs:Int) + (b.natAbs:Int)
 da:∃ p q:Int,a = p * g0 + q * g1
 db:∃ p q:Int,b = p * g0 + q * g1
noncomputable def sgn (n:Int):Int:=if n < 0 then -1 else 1
noncomputable def mn (n:Int):Int:=if n < 0 then -n else n
theorem h! (n:Int):mn n = (n.natAbs:Int):=by unfold mn; split <;> lia
theorem sgn_mul (n:Int):sgn n * n = mn n:=by unfold sgn mn; split <;> lia
theorem u5 (n:Int):n = sgn n * mn n:=by unfold sgn mn; split <;> lia
theorem zZ (n:Int):sgn n = 1 ∨ sgn n = -1:=by unfold sgn; split <;> simp
theorem aG.start (a b:Int):aG a b (mn a) (sgn a) 0 (mn b) 0 (sgn b):=by
 refine ⟨by rw [h!]; lia,by rw [h!]; lia,by rw [sgn_mul]; lia,by rw [sgn_mul]; lia,?_,?_,by rw [h!]; lia,by rw [h!]; lia,⟨sgn a,0,?_⟩,⟨0,sgn b,?_⟩⟩
 ·refine ⟨sgn a,1,0,zZ a,by decide,by decide,by simp,by simp,by rw [h! b]; lia,by lia,by lia⟩
 ·refine ⟨-(sgn b),0,1,?_,by decide,by decide,by simp,by simp,by rw [h! a]; lia,by lia,by lia⟩
  rcases zZ b with h | h <;> simp [h]
 ·have:=u5 a; lia
 ·have:=u5 b; lia
theorem aG.turn {a b g0 u0 v0 g1 u1 v1:Int} (h:aG a b g0 u0 v0 g1 u1 v1) (h1:g1 ≠ 0):aG a b g1 u1 v1 (g0 - g0.fdiv g1 * g1) (u0 - g0.fdiv g1 * u1) (v0 - g0.fdiv g1 * v1) ∧ (g0 - g0.fdiv g1 * g1).toNat < g1.toNat ∧ 0 ≤ g0.fdiv g1 ∧ g0.fdiv g1 ≤ g0:=by
 have p1:1 ≤ g1:=by have:=h.n1; lia
 have ef:g0.fdiv g1 = g0 / g1:=Int.fdiv_eq_ediv_of_nonneg g0 (by lia)
 have em:g0 - g0.fdiv g1 * g1 = g0 % g1:=by
  have:=Int.emod_add_mul_ediv g0 g1
  rw [ef,Int.mul_comm]
  lia
 have q0:0 ≤ g0.fdiv g1:=by rw [ef]; exact Int.ediv_nonneg h.n0 (by lia)
 have r0:0 ≤ g0 - g0.fdiv g1 * g1:=by rw [em]; exact Int.emod_nonneg _ h1
 have r1:g0 - g0.fdiv g1 * g1 < g1:=by rw [em]; exact Int.emod_lt_of_pos _ (by lia)
 generalize hq:g0.fdiv g1 = q at *
 have m1:=h.m1
 obtain ⟨p,r,ea⟩:=h.da
 obtain ⟨p',r',eb⟩:=h.db
 refine ⟨⟨h.n1,r0,h.c1,?_,h.cu.step q0 p1 r0,h.cv.step q0 p1 r0,h.m1,by lia,⟨p * q + r,p,?_⟩,⟨p' * q + r',p',?_⟩⟩,by lia,q0,h.cu.Ju q0 p1 r0⟩
 ·have e0:=h.c0
  have e1:=h.c1
  grind
 ·grind
 ·grind
end wX
namespace PG
open PySem PySem.Spec L2 MN
open PyProof.Rows hiding St kindOf
noncomputable def iE (n:Int):Bool:=n == 0 || jr n
theorem fE (n:Int) (st:ag):∃ g,PM.cy [.int n] st = .ok (.bl (iE n)) (st ++ g):=by
 cases h:n == 0 with
 | true => exact ⟨[],by simp only [PM.cy,a!,aq,aV,dW,cX,d7,cY,kR,F3,d?,dj,fC,iO,jP,DC,fN,dh,dZ,dn,lW,ej,List.map_cons,List.map_nil,List.replicate_zero,Nat.reduceSub,List.length_cons,List.length_nil,Nat.reduceAdd,jq,h,iE,Bool.true_or,List.append_nil]⟩
 | false =>
  obtain ⟨g,e⟩:=il n st
  exact ⟨g,by simp only [PM.cy,a!,aq,aV,dW,cX,d7,cY,kR,F4,d?,dj,fC,iO,jP,DC,fN,dh,dZ,dn,lW,ej,List.map_cons,List.map_nil,List.cons_append,List.nil_append,List.replicate_zero,Nat.reduceSub,List.length_cons,List.length_nil,Nat.reduceAdd,jq,h,iE,Bool.false_or,e]⟩
theorem nu {n:Int} (h:iE n = true) (st:ag):∃ g,PM.e! [.int n] st = .ok .bE (st ++ g):=by
 obtain ⟨g,e⟩:=fE n st
 rw [h] at e
 exact ⟨g,by simp only [PM.e!,a!,aq,aV,y?,zh,d?,dj,iQ,e?,d!,jh,fN,dh,dZ,h7,gB,ej,List.map_cons,List.map_nil,List.cons_append,List.nil_append,List.replicate_zero,Nat.reduceSub,List.length_cons,List.length_nil,Nat.reduceAdd,Bool.not_true,e]⟩
theorem nv (n:Int) (st:ag):PM.cW [.int n] st = .ok (.int (wX.sgn n)) st:=by
 unfold wX.sgn
 by_cases h:n < 0
 ·have e:decide (n < 0) = true:=decide_eq_true h
  simp only [PM.cW,a!,aq,aV,dW,cX,d7,cY,kS,fC,iO,e?,d!,lU,zj,F_,dn,qD,ej,List.map_cons,List.map_nil,List.cons_append,List.nil_append,List.replicate_zero,Nat.reduceSub,List.length_cons,List.length_nil,Nat.reduceAdd,e,if_pos h]
 ·have e:decide (n < 0) = false:=decide_eq_false h
  simp only [PM.cW,a!,aq,aV,dW,cX,d7,cY,uQ,fC,iO,e?,d!,lU,dn,qD,ej,List.map_cons,List.map_nil,List.cons_append,List.nil_append,List.replicate_zero,Nat.reduceSub,List.length_cons,List.length_nil,Nat.reduceAdd,e,if_neg h]
noncomputable def rV (g u v:Int):ai:=.tup [.int g,.int u,.int v]
theorem bounds {a b g0 u0 v0 g1 u1 v1:Int} (h:wX.aG a b g0 u0 v0 g1 u1 v1) (ha:kx 400 a) (hb:kx 400 b):kx 402 g0 ∧ kx 402 u0 ∧ kx 402 v0 ∧ kx 402 g1 ∧ kx 402 u1 ∧ kx 402 v1:=by
 have e:(2:Nat) ^ 402 = 4 * 2 ^ 400:=by decide +kernel
 have pos:0 < (2:Nat) ^ 400:=by decide +kernel
 have a':a.natAbs < 2 ^ 400:=ha
 have b':b.natAbs < 2 ^ 400:=hb
 obtain ⟨k1,k2⟩:=h.cu.bound
 obtain ⟨k3,k4⟩:=h.cv.bound
 have m0:=h.m0
 have m1:=h.m1
 have n0:=h.n0
 have n1:=h.n1
 refine ⟨?_,?_,?_,?_,?_,?_⟩ <;> (show _ < 2 ^ 402; rw [e]; lia)
noncomputable def Pn (μ:MN.Env):Nat:=match (μ[3]?:Option (Option ai)) with
 | some (some (ai.tup (ai.int g :: _))) => g.toNat
 | _ => 0
noncomputable def DQ (q:Int) (v:ai):ai:=match v with
 | .tup [.int x,.int y] => .int (x - q * y)
 | _ => .bE
theorem pA {q x y:Int}:DQ q (.tup [.int x,.int y]) = .int (x - q * y):=rfl
theorem Jv {q g0 u0 v0 g1 u1 v1:Int} (hq:Sz q) (h1:Sz g1) (h2:Sz u1) (h3:Sz v1) (st:ag) (g:ag → Prop) (hg:g st) (x:Option ai) (y:Option ai) :
  a7 g (eY [aw 0,aw 1]) aL (ah eV (ae 0) (ah cF (ae 2) (ae 1))) (fU [.int g0,.int u0,.int v0] [.int g1,.int u1,.int v1]) [x,y,some (.int q)] st [] = .ok [.int (g0 - q * g1),.int (u0 - q * u1),.int (v0 - q * v1)] st:=by
 have:=gy (a:=eY [aw 0,aw 1]) (c:=aL) (e:=ah eV (ae 0) (ah cF (ae 2) (ae 1))) hg (fun τ => ∃ x y,τ = [x,y,some (.int q)]) (fun _ => true) (DQ q) (fU [.int g0,.int u0,.int v0] [.int g1,.int u1,.int v1]) [x,y,some (.int q)] [] ⟨x,y,rfl⟩ ?_
 ·exact this
 ·rintro u hu τ ⟨x,y,rfl⟩
  simp only [fU,List.mem_cons,List.not_mem_nil,or_false] at hu
  rcases hu with rfl | rfl | rfl
  ·exact ⟨_,rfl,⟨_,_,rfl⟩,rfl,fun _ => by simp only [aq,cX,d7,cY,sY,ej,jj,List.set_cons_zero,List.set_cons_succ,s_ ⟨hq,h1⟩,pA]⟩
  ·exact ⟨_,rfl,⟨_,_,rfl⟩,rfl,fun _ => by simp only [aq,cX,d7,cY,sY,ej,jj,List.set_cons_zero,List.set_cons_succ,s_ ⟨hq,h2⟩,pA]⟩
  ·exact ⟨_,rfl,⟨_,_,rfl⟩,rfl,fun _ => by simp only [aq,cX,d7,cY,sY,ej,jj,List.set_cons_zero,List.set_cons_succ,s_ ⟨hq,h3⟩,pA]⟩
theorem Mf {x:ai} {r:List ai}:L2.mS (x :: r) 0 = some x:=by
 unfold L2.mS Dj
 simp
theorem wY {a b:Int} (ha:kx 400 a) (hb:kx 400 b) (st:ag):∃ gs g u v u1 v1,PM.shared [.int a,.int b] st = .ok (rV g u v) (st ++ gs) ∧ wX.aG a b g u v 0 u1 v1:=by
 obtain ⟨μ',av,e,gs,rfl,g0,u0,v0,g1,u1,v1,o,f,rfl,J,z⟩:=sT (t:=cA (ah ij (ah bR (ae 3) (mC (.int 0))) (mC (.int 0))))
  (body:=az (aM 4 (ah dQ (ah bR (ae 2) (mC (.int 0))) (ah bR (ae 3) (mC (.int 0))))) (az (aM 5 (ao nc (aa (bG 2 [4] (jf false false (aa (ae 2) (aa (ae 3) ak))) (eY [(aw 0),(aw 1)]) aL (ah eV (ae 0) (ah cF (ae 2) (ae 1)))) ak))) (az (aM 2 (ae 3)) (aM 3 (ae 5)))))
  (fun μ s => ∃ gs,s = st ++ gs ∧ ∃ g0 u0 v0 g1 u1 v1 o f,μ = [some (.int a),some (.int b),some (rV g0 u0 v0),some (rV g1 u1 v1),o,f] ∧ wX.aG a b g0 u0 v0 g1 u1 v1)
  (fun μ _ => Pn μ)
  (fun μ s => ∃ gs,s = st ++ gs ∧ ∃ g0 u0 v0 g1 u1 v1 o f,μ = [some (.int a),some (.int b),some (rV g0 u0 v0),some (rV g1 u1 v1),o,f] ∧ wX.aG a b g0 u0 v0 g1 u1 v1 ∧ g1 = 0)
  (by
   rintro μ s ⟨gs,rfl,g0,u0,v0,g1,u1,v1,o,f,rfl,J⟩
   cases hz:g1 == 0 with
   | true =>
    have z:g1 = 0:=by simpa using hz
    refine .inl ⟨st ++ gs,?_,gs,rfl,g0,u0,v0,g1,u1,v1,o,f,rfl,J,z⟩
    simp only [rV,aq,cX,d7,cY,iO,e?,d!,qE,uR,jj,Bool.not_true,jI Mf,hz]
   | false =>
    have z:¬ g1 = 0:=by simpa using hz
    obtain ⟨b1,b2,b3,b4,b5,b6⟩:=bounds J ha hb
    obtain ⟨J',lt,q0,q1⟩:=J.turn z
    have n0:=J.n0
    have hD:Dz g1:=Dz.of z b4 (by decide)
    have sq:Sz (g0.fdiv g1):=Sz.of (b1.le (by lia)) (by decide)
    have s4:Sz g1:=Sz.of b4 (by decide)
    have s5:Sz u1:=Sz.of b5 (by decide)
    have s6:Sz v1:=Sz.of b6 (by decide)
    refine .inr ⟨st ++ gs,[some (.int a),some (.int b),some (rV g1 u1 v1),some (rV (g0 - g0.fdiv g1 * g1) (u0 - g0.fdiv g1 * u1) (v0 - g0.fdiv g1 * v1)),some (.int (g0.fdiv g1)),some (rV (g0 - g0.fdiv g1 * g1) (u0 - g0.fdiv g1 * u1) (v0 - g0.fdiv g1 * v1))],st ++ gs ++ [.lst [.int (g0 - g0.fdiv g1 * g1),.int (u0 - g0.fdiv g1 * u1),.int (v0 - g0.fdiv g1 * v1)]],?_,.inl ?_,⟨gs ++ [.lst [.int (g0 - g0.fdiv g1 * g1),.int (u0 - g0.fdiv g1 * u1),.int (v0 - g0.fdiv g1 * v1)]],by rw [List.append_assoc],g1,u1,v1,_,_,_,_,_,rfl,J'⟩,?_⟩
    ·simp only [rV,aq,cX,d7,cY,iO,e?,d!,qE,uR,jj,Bool.not_false,jI Mf,hz]
    ·have Po:(fU [ai.int g0,ai.int u0,ai.int v0] [ai.int g1,ai.int u1,ai.int v1]).length = 3:=rfl
     have ER:e8 2 [4] [some (ai.int a),some (ai.int b),some (.tup [.int g0,.int u0,.int v0]),some (.tup [.int g1,.int u1,.int v1]),some (.int (g0.fdiv g1)),f] = [none,none,some (.int (g0.fdiv g1))]:=rfl
     simp only [rV,aq,aV,aB,cX,d7,cY,d?,dj,DH,DI,dX,iO,fN,dh,dZ,aA,sW,cO,sX,uT,uR,jj,List.set_cons_zero,List.set_cons_succ,sizeLine_eq,Nat.reduceLeDiff,↓reduceIte,jI Mf,div_ii hD,ER,Jv sq s4 s5 s6 _ (fun _ => True ∧ True) ⟨trivial,trivial⟩,Po,pb (aQ _ _)]
    ·show (g0 - g0.fdiv g1 * g1).toNat < g1.toNat
     exact lt)
  [some (.int a),some (.int b),some (rV (wX.mn a) (wX.sgn a) 0),some (rV (wX.mn b) 0 (wX.sgn b)),none,none] st
  ⟨[],by rw [List.append_nil],_,_,_,_,_,_,_,_,rfl,wX.aG.start a b⟩
 subst z
 refine ⟨gs,g0,u0,v0,u1,v1,?_,J⟩
 have Mg:∀ n:Int,(if n < 0 then -n else n) = wX.mn n:=fun n => rfl
 simp only [rV] at e
 simp only [PM.shared,rV,a!,aq,aV,aB,dW,d?,dj,DF,fC,DH,iO,fN,dh,zi,dZ,aA,dn,sW,Jf,ej,uR,jj,List.map_cons,List.map_nil,List.cons_append,List.nil_append,List.replicate_succ,List.replicate_zero,List.set_cons_zero,List.set_cons_succ,Nat.reduceSub,List.length_cons,List.length_nil,Nat.reduceAdd,sizeLine_eq,Nat.reduceLeDiff,↓reduceIte,nv,Mg,e]
end PG
namespace PG
open PySem PySem.Spec L2 MN
open PyProof.Rows hiding St kindOf
theorem wZ:∀ k:Fin 998,jr (k.val:Int) = true → 2 ≤ k.val ∧ ∀ d:Fin 32,2 ≤ d.val → d.val < k.val → k.val % d.val ≠ 0:=by decide +kernel
theorem jS {p:Int} (h:jr p = true):2 ≤ p ∧ p ≤ 997:=by
 unfold jr at h
 rw [Bool.or_eq_true] at h
 rcases h with h | h
 ·have:p ∈ FP:=by simpa using h
  simp only [FP,List.mem_cons,List.not_mem_nil,or_false] at this
  omega
 ·simp only [Bool.and_eq_true,decide_eq_true_eq] at h
  omega
theorem w4 {p:Int} (h:jr p = true) {d:Int} (h2:2 ≤ d) (hd:d < p):¬ p % d = 0:=by
 obtain ⟨r1,r2⟩:=jS h
 have key:=(wZ ⟨p.toNat,by lia⟩ (by show jr ((p.toNat:Nat):Int) = true; rw [Int.toNat_of_nonneg (by lia)]; exact h)).2
 have small:∀ e:Int,2 ≤ e → e ≤ 31 → e < p → ¬ p % e = 0:=by
  intro e e2 e3 e4 z
  have:=key ⟨e.toNat,by lia⟩ (by show 2 ≤ e.toNat; lia) (by show e.toNat < p.toNat; lia)
  apply this
  show p.toNat % e.toNat = 0
  have:((p.toNat % e.toNat:Nat):Int) = 0:=by
   rw [Int.natCast_emod,Int.toNat_of_nonneg (by lia),Int.toNat_of_nonneg (by lia)]; exact z
  lia
 intro z
 by_cases hs:d ≤ 31
 ·exact small d h2 hs hd z
 ·obtain ⟨m,hm⟩:=Int.dvd_of_emod_eq_zero z
  have m2:2 ≤ m:=by
   rcases Int.lt_or_le m 2 with q | q
   ·have:d * m ≤ d * 1:=Int.mul_le_mul_of_nonneg_left (by lia) (by lia)
    lia
   ·exact q
  have m3:m ≤ 31:=by
   rcases Int.lt_or_le 31 m with q | q
   ·have:32 * 32 ≤ d * m:=Int.mul_le_mul (by lia) (by lia) (by lia) (by lia)
    lia
   ·exact q
  have m4:m < p:=by
   have:2 * m ≤ d * m:=Int.mul_le_mul_of_nonneg_right h2 (by lia)
   lia
  exact small m m2 m3 m4 (by rw [hm]; exact Int.mul_emod_left _ _)
theorem js {p:Int} (hp:0 < p) (i:Int):i.fmod p = i % p:=Int.fmod_eq_emod_of_nonneg i (by lia)
theorem oA {i:Int} (h0:0 ≤ i) (h1:i < 1000):kx 400 i:=kx.small (by decide) (by lia) h1
theorem z5 {p:Int} (h:jr p = true):iE p = true:=by unfold iE; rw [h,Bool.or_true]
theorem Pp {x y:ai} {r:List ai}:L2.mS (x :: y :: r) 1 = some y:=L2.fq (xs:=x :: y :: r) (j:=1) rfl
theorem pB {p n:Int} (h:jr p = true) (hn:¬ n % p = 0) (st:ag):∃ g t,PM.inverse [.int p,.int n] st = .ok (.int t) (st ++ g) ∧ 0 < t ∧ t < p ∧ (t * n) % p = 1:=by
 obtain ⟨r1,r2⟩:=jS h
 obtain ⟨g1,e⟩:=nu (z5 h) st
 have hp:¬ p = 0:=by lia
 have e0:(p == 0) = false:=by simpa using hp
 have e1:(n.fmod p == 0) = false:=by rw [js (by lia)]; simpa using hn
 have a0:=Int.emod_nonneg n hp
 have a1:=Int.emod_lt_of_pos n (show 0 < p by lia)
 obtain ⟨g2,g,u,v,u1,v1,es,J⟩:=wY (a:=n % p) (b:=p) (oA a0 (by lia)) (oA (by lia) (by lia)) (st ++ g1)
 have hg:g = 1:=by
  obtain ⟨x,_,ex⟩:=J.da
  obtain ⟨y,_,ey⟩:=J.db
  rw [Int.mul_zero,Int.add_zero] at ex ey
  have n0:=J.n0
  rcases Int.lt_or_le g 2 with q | q
  ·rcases Int.lt_or_le g 1 with q' | q'
   ·have:g = 0:=by lia
    rw [this,Int.mul_zero] at ey
    lia
   ·lia
  ·have gl:g ≤ n % p:=by
    have xp:1 ≤ x:=by
     rcases Int.lt_or_le x 1 with z | z
     ·have:x * g ≤ 0 * g:=Int.mul_le_mul_of_nonneg_right (by lia) (by lia)
      lia
     ·exact z
    have:1 * g ≤ x * g:=Int.mul_le_mul_of_nonneg_right xp (by lia)
    lia
   exact absurd (by rw [ey]; exact Int.mul_emod_left _ _) (w4 h q (by lia))
 subst hg
 have t0:=Int.emod_nonneg u hp
 have t1:=Int.emod_lt_of_pos u (show 0 < p by lia)
 have tn:(u % p * n) % p = 1:=by
  have c:=J.c0
  have k1:(u * (n % p)) % p = 1:=by
   have:u * (n % p) = 1 + p * (-v):=by rw [Int.mul_neg,Int.mul_comm p v]; lia
   rw [this,Int.add_mul_emod_self_left]
   exact Int.emod_eq_of_lt (by lia) (by lia)
  rw [Int.mul_emod,Int.emod_emod_of_dvd u (Int.dvd_refl p)]
  rw [Int.mul_emod,Int.emod_emod_of_dvd n (Int.dvd_refl p)] at k1
  exact k1
 refine ⟨g1 ++ g2,u % p,?_,?_,t1,tn⟩
 ·simp only [rV] at es
  rw [← js (show 0 < p by lia)] at es
  simp only [PM.inverse,a!,aq,aV,aB,dW,cX,d7,cY,d?,dj,zl,fC,iQ,iO,e?,d!,fN,dh,dZ,aA,h7,gA,dn,gB,lW,ej,jj,List.map_cons,List.map_nil,List.cons_append,List.nil_append,List.replicate_zero,Nat.reduceSub,List.length_cons,List.length_nil,Nat.reduceAdd,e,e0,iR hp,e1,es,jI Pp,List.append_assoc]
  rw [js (by lia)]
 ·rcases Int.lt_or_le 0 (u % p) with q | q
  ·exact q
  ·have:u % p = 0:=by lia
   rw [this,Int.zero_mul] at tn
   simp at tn
end PG
namespace PG
open PySem PySem.Spec L2 MN
open PyProof.Rows hiding St kindOf
theorem CI {ns:List Int} {k:Int} (h0:0 ≤ k) (h1:k < (ns.length:Int)):∃ c:Int,L2.mS (ns.map ai.int) k = some (.int c):=by
 have hk:k.toNat < ns.length:=by lia
 refine ⟨ns[k.toNat],?_⟩
 have e:=L2.fq (xs:=ns.map ai.int) (j:=k.toNat) (v:=.int ns[k.toNat]) (by rw [List.getElem?_map,List.getElem?_eq_getElem hk]; rfl)
 rw [show ((k.toNat:Nat):Int) = k by lia] at e
 exact e
theorem fF {m:Int} (hm:0 < m) (i:Int):0 ≤ i.fmod m ∧ i.fmod m < m:=by
 rw [js hm]; exact ⟨Int.emod_nonneg _ (by lia),Int.emod_lt_of_pos _ hm⟩
end PG
namespace PG
open PySem PySem.Spec L2 MN
open PyProof.Rows hiding St kindOf
theorem z9 {j:Int} (h:0 < j) (h1:j < 2 ^ 64):Dz j:=by
 refine Dz.of (k:=64) (by lia) ?_ (by decide)
 show j.natAbs < 2 ^ 64
 lia
noncomputable def Pq (n:Int) (u:ai):Bool:=match u with
 | .int b => decide (b < n) && (n.fmod b == 0)
 | _ => false
noncomputable def nN (n:Int):List ai:=(cj 2 30).filter (Pq n)
end PG
namespace PG
open PySem PySem.Spec L2 MN
open PyProof.Rows hiding St kindOf
end PG
namespace PG
open PySem PySem.Spec L2 MN
open PyProof.Rows hiding St kindOf
theorem GF {p:Int} (hp:jr p = true):¬ p = 0:=by have:=jS hp; lia
theorem fe {p:Int} (hp:jr p = true) (st:ag):∃ g,PM.bD [.int p] st = .ok .bE (st ++ g):=by
 obtain ⟨g,e⟩:=fE p st
 have hr:iE p = true:=by unfold iE; rw [hp,Bool.or_true]
 rw [hr] at e
 have hz:(p == 0) = false:=by simpa using GF hp
 exact ⟨g,by simp only [PM.bD,a!,aq,aV,y?,cX,d7,cY,jg,zh,d?,dj,iQ,iO,e?,d!,iP,jh,fN,dh,dZ,h7,gB,lW,ej,List.map_cons,List.map_nil,List.cons_append,List.nil_append,List.replicate_zero,Nat.reduceSub,List.length_cons,List.length_nil,Nat.reduceAdd,Bool.not_true,e,hz]⟩
end PG
namespace PG
open PySem PySem.Spec L2 MN
open PyProof.Rows hiding St kindOf
end PG
namespace PG
open PySem PySem.Spec L2 MN
open PyProof.Rows hiding St kindOf
noncomputable abbrev CJ:=List Int × Int
end PG
namespace PG
open PySem PySem.Spec L2 MN
open PyProof.Rows hiding St kindOf
end PG
namespace PG
open PySem PySem.Spec L2 MN
open PyProof.Rows hiding St kindOf
end PG
namespace PG
open PySem PySem.Spec L2 MN
open PyProof.Rows hiding St kindOf
end PG
namespace PG
open PySem PySem.Spec L2 MN
open PyProof.Rows hiding St kindOf
end PG
namespace PG
open PySem PySem.Spec L2 MN
open PyProof.Rows hiding St kindOf
end PG
namespace PG
open PySem PySem.Spec L2 MN
open PyProof.Rows hiding St kindOf
theorem cI {g:ag → Prop} {a:AS} {e:ME} {u y:ai} {us:List ai} {τ τ1:MN.Env} {st aN:ag} {ys:List ai} (hg:g st) (h1:a u τ = some τ1) (h2:e τ1 st = .ok y aN):a7 g a aL e (u :: us) τ st ys = a7 g a aL e us τ1 aN (ys ++ [y]):=by
 rw [a7]
 rw [if_pos hg,h1]
 dsimp only [aL]
 rw [h2]
theorem bP {g:ag → Prop} {a:AS} {c:MT} {e:ME} {τ:MN.Env} {st:ag} {ys:List ai} (hg:g st):a7 g a c e [] τ st ys = .ok ys st:=by
 rw [a7,if_pos hg]
end PG
namespace PG
open PySem PySem.Spec L2 MN
open PyProof.Rows hiding St kindOf
end PG
namespace PG
open PySem PySem.Spec L2 MN
open PyProof.Rows hiding St kindOf
end PG
namespace PG
open PySem PySem.Spec L2 MN
open PyProof.Rows hiding St kindOf
end PG
namespace PG
open PySem PySem.Spec L2 MN
open PyProof.Rows hiding St kindOf
end PG
namespace PG
open PySem PySem.Spec L2 MN
open PyProof.Rows hiding St kindOf
end PG
namespace PG
open PySem PySem.Spec L2 MN
open PyProof.Rows hiding St kindOf
end PG
namespace PG
open PySem PySem.Spec L2 MN
open PyProof.Rows hiding St kindOf
end PG
namespace PG
open PySem PySem.Spec L2 MN
open PyProof.Rows hiding St kindOf
section
variable {μ:MN.Env} {s s1 s2:ag} {a b:ME} {f:F2} {x y:ai} {r:bH ai} {t u:MT} {c:Bool} {B:MB}
theorem ay (h1:a μ s = .ok x s1) (h2:b μ s1 = .ok y s2):ah f a b μ s = f x y s2:=by
 show (a μ s).bind _ = _
 rw [h1]
 show (b μ s1).bind _ = _
 rw [h2]
theorem bJ (h:a μ s = .ok (.bl c) s1):cA a μ s = .ok c s1:=by rw [d!,h]; rfl
theorem u6 (h1:t μ s = .ok false s1) (h2:u μ s1 = .ok false s2):jL t u μ s = .ok false s2:=by rw [iP,h1,aq,jg,h2]
theorem km (h:t μ s = .ok true s1):cE t μ s = .ok false s1:=by rw [jh,h]; rfl
theorem fG (h:t μ s = .ok false s1):gf t B bB μ s = .nx μ s1:=by rw [gB,h,aV,iQ]; rfl
theorem z_ (h1:a μ s = .ok (.bl true) s1) (h2:b μ s1 = r):m? a b μ s = r:=by rw [jP,h1,aq,kR,h2]
end
theorem dY {s:ag} {n:Nat} {c:aT} (h:s[n]? = some c) (more:ag):(s ++ more)[n]? = some c:=by
 have:n < s.length:=by
  rcases Nat.lt_or_ge n s.length with q | q
  ·exact q
  ·rw [List.getElem?_eq_none q] at h; cases h
 rw [List.getElem?_append_left this]; exact h
theorem b9 {s:ag} {n:Nat} {c:aT} (h:s[n]? = some c):n < s.length:=by
 rcases Nat.lt_or_ge n s.length with q | q
 ·exact q
 ·rw [List.getElem?_eq_none q] at h; cases h
theorem bj {s:ag} {n m:Nat} {c k:aT} (h:s[n]? = some c) (ne:m ≠ n):(s.set m k)[n]? = some c:=by
 rw [List.getElem?_set_ne ne]; exact h
end PG
namespace PG
open PySem PySem.Spec L2 MN
open PyProof.Rows hiding St kindOf
end PG
namespace PG
open PySem PySem.Spec L2 MN
open PyProof.Rows hiding St kindOf
end PG
namespace PG
open PySem PySem.Spec L2 MN
open PyProof.Rows hiding St kindOf
end PG
namespace PG
open PySem PySem.Spec L2 MN
open PyProof.Rows hiding St kindOf
end PG
namespace PG
open PySem PySem.Spec L2 MN
open PyProof.Rows hiding St kindOf
end PG
namespace PG
open PySem PySem.Spec L2 MN
open PyProof.Rows hiding St kindOf
end PG
namespace PG
open PySem PySem.Spec L2 MN
open PyProof.Rows hiding St kindOf
end PG
namespace PG
open PySem PySem.Spec L2 MN
open PyProof.Rows hiding St kindOf
section
variable {μ:MN.Env} {s s1 s2:ag} {m:ME} {o j:Int} {t:MT} {B:MB}
theorem ff (h:m μ s = .ok (.int o) s1) (hj:¬ j = 0):ah cg m (mC (.int j)) μ s = .ok (.int (o.fmod j)) s1:=by
 rw [ay h (y:=.int j) (s2:=s1) rfl]; exact iR hj
theorem pC (h:m μ s = .ok (.int o) s1) (hj:Dz j):ah dQ m (mC (.int j)) μ s = .ok (.int (o.fdiv j)) s1:=by
 rw [ay h (y:=.int j) (s2:=s1) rfl]; exact div_ii hj
theorem u7 (h:m μ s = .ok (.int o) s1):ah gR m (mC (.int j)) μ s = .ok (.bl (o == j)) s1:=by
 rw [ay h (y:=.int j) (s2:=s1) rfl]; exact lW
theorem aW {i:Nat} {v:ai} (h:m μ s = .ok v s1):aM i m μ s = .nx (μ.set i (some v)) s1:=by
 rw [sW,h,aV]; rfl
theorem mq {C:MB} (h:t μ s = .ok true s1):gf t B C μ s = B μ s1:=by rw [gB,h,aV,o!]
theorem br {v:ai} (h:m μ s = .ok v s1):aa m ak μ s = .ok [v] s1:=by rw [dh,h,aq,d?,fN,aq,dj]
theorem dP {m2:ME} {v w:ai} (h:m μ s = .ok v s1) (h2:m2 μ s1 = .ok w s2):aa m (aa m2 ak) μ s = .ok [v,w] s2:=by rw [dh,h,aq,d?,br h2,aq,dj]
theorem cb {m2:MA} {v:ai} {ws:List ai} (h:m μ s = .ok v s1) (h2:m2 μ s1 = .ok ws s2):aa m m2 μ s = .ok (v :: ws) s2:=by rw [dh,h,aq,d?,h2,aq,dj]
theorem ax {f:FN} {a:MA} {vs:List ai} (h:a μ s = .ok vs s1):ao f a μ s = f vs s1:=by rw [dZ,h,aq]
theorem jT {a:MA} {vs:List ai} (h:a μ s = .ok vs s1) (hl:vs.length ≤ 1000):d5 a μ s = .ok (.tup vs) s1:=by
 rw [zi,h,aq,DF]
 exact if_pos (by rw [sizeLine_eq]; lia)
theorem dq {a:MA} {vs:List ai} (h:a μ s = .ok vs s1) (hl:vs.length ≤ 1000):bF a μ s = .ok (.loc s1.length) (s1 ++ [.lst vs]):=by
 rw [F8,h,aq,Ja]
 exact if_pos (by rw [sizeLine_eq]; lia)
theorem iT {a:MA} (h:a μ s = .ok [.int j] s1) (h1:-(2 ^ 62) ≤ j) (h2:j < 2 ^ 62):cD a μ s = .ok (cj 0 j.toNat,fun _ => True) s1:=by
 rw [B9,h,aq,B_ h1 h2]
end
end PG
namespace PG
open PySem PySem.Spec L2 MN
open PyProof.Rows hiding St kindOf
theorem tW {μ:MN.Env} {s:ag} {o:ME} {a:MA} {n:Nat} {us:List ai} {v:ai} (ho:o μ s = .ok (.loc n) s) {s1:ag} (h0:s[n]? = some (.lst us)) (ha:a μ s = .ok [v] s1) (h:s1[n]? = some (.lst us)) (hl:us.length ≤ 1000):bg (ik c6 o a) μ s = .nx μ (s1.set n (.lst (us ++ [v]))):=by
 rw [gA,zC,ho,aq,DM h0,ha,aq,DN,wD h (by rw [sizeLine_eq]; lia),aV]; rfl
end PG
namespace PG
open PySem PySem.Spec L2 MN
open PyProof.Rows hiding St kindOf
end PG
namespace PG
open PySem PySem.Spec L2 MN
open PyProof.Rows hiding St kindOf
end PG
namespace PG
open PySem PySem.Spec L2 MN
open PyProof.Rows hiding St kindOf
end PG
namespace PG
open PySem PySem.Spec L2 MN
open PyProof.Rows hiding St kindOf
end PG
namespace PG
open PySem PySem.Spec L2 MN
open PyProof.Rows hiding St kindOf
end PG
namespace PG
open PySem PySem.Spec L2 MN
open PyProof.Rows hiding St kindOf
end PG
namespace PG
open PySem PySem.Spec L2 MN
open PyProof.Rows hiding St kindOf
end PG
namespace PG
open PySem PySem.Spec L2 MN
open PyProof.Rows hiding St kindOf
end PG
namespace PG
open PySem PySem.Spec L2 MN
open PyProof.Rows hiding St kindOf
theorem q9 (us:List ai) (k:Nat):o8 us none (some (k:Int)) = us.take k:=by
 unfold o8
 rw [HT.p7,HT.uk,List.drop_zero,Nat.sub_zero]
 rcases Nat.le_total k us.length with h | h
 ·rw [Nat.min_eq_left h]
 ·rw [Nat.min_eq_right h,List.take_of_length_le h,List.take_of_length_le (Nat.le_refl _)]
theorem z! {us:List ai} {k:Nat} (h:k ≤ us.length):o8 us (some (k:Int)) none = us.drop k:=by
 unfold o8
 rw [HT.p7,HT.uk,Nat.min_eq_left h,List.take_of_length_le (by rw [List.length_drop]; lia)]
end PG
namespace PG
open PySem PySem.Spec L2 MN
open PyProof.Rows hiding St kindOf
end PG
namespace PG
open PySem PySem.Spec L2 MN
open PyProof.Rows hiding St kindOf
end PG
namespace PG
open PySem PySem.Spec L2 MN
open PyProof.Rows hiding St kindOf
end PG
namespace PG
open PySem PySem.Spec L2 MN
open PyProof.Rows hiding St kindOf
end PG
namespace PG
open PySem PySem.Spec L2 MN
open PyProof.Rows hiding St kindOf
end PG
namespace PG
open PySem PySem.Spec L2 MN
open PyProof.Rows hiding St kindOf
end PG
namespace PG
open PySem PySem.Spec L2 MN
open PyProof.Rows hiding St kindOf
end PG
namespace PG
open PySem PySem.Spec L2 MN
open PyProof.Rows hiding St kindOf
end PG
namespace PG
open PySem PySem.Spec L2 MN
open PyProof.Rows hiding St kindOf
end PG
namespace PG
open PySem PySem.Spec L2 MN
open PyProof.Rows hiding St kindOf
end PG
namespace PG
open PySem PySem.Spec L2 MN
open PyProof.Rows hiding St kindOf
end PG
namespace PG
open PySem PySem.Spec L2 MN
open PyProof.Rows hiding St kindOf
end PG
namespace PG
open PySem PySem.Spec L2 MN
open PyProof.Rows hiding St kindOf
end PG
namespace PG
open PySem PySem.Spec L2 MN
open PyProof.Rows hiding St kindOf
end PG
namespace PG
open PySem PySem.Spec L2 MN
open PyProof.Rows hiding St kindOf
section
variable {r:Int} {au b:Nat} {P X:List CJ}
theorem b_ {s:ag} {n:Nat} {us:List ai} (h:s[n]? = some (.lst us)):aj s n = some us:=by unfold aj; rw [h]
end
end PG
namespace PG
open PySem PySem.Spec L2 MN
open PyProof.Rows hiding St kindOf
noncomputable def bK (d:Bool):Str:=if d then "deg" else "lex"
theorem CK:(("deg":Str) == "deg") = true:=by decide +kernel
theorem CL:(("lex":Str) == "deg") = false:=by decide +kernel
theorem q_ (d:Bool) (st:ag):PM.dH [.str (bK d)] st = .ok (.bl true) st:=by
 cases d <;> rfl
theorem g7 (d:Bool) (st:ag):PM.bX [.str (bK d)] st = .ok .bE st:=by
 unfold PM.bX
 rw [a! (np:=1) (us:=[ai.str (bK d)]) rfl]
 show (gf (cE (cA (ao PM.dH (aa (ae 0) ak)))) _ bB [some (.str (bK d))] st).fin = _
 rw [fG (km (bJ (by rw [ax (br (v:=.str (bK d)) (s1:=st) rfl),q_])))]
 rfl
structure G' (v:ai):Prop where
 no:∀ st,PM.dH [v] st = .ok (.bl false) st
 px:ja v = false
theorem mr {v:ai} (h:G' v) (st:ag):PM.bX [v] st = .err "NoOrder" st:=by
 unfold PM.bX
 rw [a! (np:=1) (us:=[v]) rfl]
 show (gf (cE (cA (ao PM.dH (aa (ae 0) ak)))) (dm "NoOrder" (aa (mC (.str "an order is lex or deg")) ak)) bB [some v] st).fin = _
 have t:cA (ao PM.dH (aa (ae 0) ak)) [some v] st = .ok false st:=bJ (by rw [ax (br (v:=v) (s1:=st) (cP rfl h.px)),h.no])
 have t2:cE (cA (ao PM.dH (aa (ae 0) ak))) [some v] st = .ok true st:=by rw [jh,t]; rfl
 rw [mq t2,ji,br (v:=.str "an order is lex or deg") (s1:=st) rfl,aV,kT,if_pos (by rw [sizeLine_eq]; show 1 ≤ 16777216; decide)]
 rfl
end PG
namespace PG
open PySem PySem.Spec L2 MN
open PyProof.Rows hiding St kindOf
end PG
namespace PG
open PySem PySem.Spec L2 MN
open PyProof.Rows hiding St kindOf
noncomputable def z? (v:ai) (st:ag):Prop:=ja v = false ∧ ∃ k,kindOf st v = some k ∧ (k == "int" || (k == "bool")) = (k == "bool")
theorem tX {st:ag} {v:ai} {k:String} (h:kindOf st v = some k) (g:ag):kindOf (st ++ g) v = some k:=by
 cases v with
 | loc n =>
  rcases Nat.lt_or_ge n st.length with q | q
  ·unfold kindOf at h ⊢
   dsimp only at h ⊢
   rw [List.getElem?_append_left q]; exact h
  ·unfold kindOf at h
   dsimp only at h
   rw [List.getElem?_eq_none q] at h; cases h
 | _ => exact h
theorem z?.old {v:ai} {st:ag} (h:z? v st) (g:ag):z? v (st ++ g):=⟨h.1,h.2.choose,tX h.2.choose_spec.1 g,h.2.choose_spec.2⟩
theorem pD {v:ai} {st:ag} (h:z? v st):PM.e_ [v] st = .ok (.bl false) st:=by
 obtain ⟨hx,k,hk,hb⟩:=h
 have vx:ae 0 [some v] st = .ok v st:=DJ hx
 have e1:sV "int" v st = .ok (.bl (k == "bool")) st:=by
  unfold sV FC; rw [hk]
  have Mh:(k == "int" || (k == "bool" && ("int" == "int"))) = (k == "bool"):=by rw [show (("int":String) == "int") = true from rfl,Bool.and_true]; exact hb
  simp only [Option.map_some,Mh]
 have e2:sV "bool" v st = .ok (.bl (k == "bool")) st:=by
  unfold sV FC; rw [hk]
  have Mh:(k == "bool" || (k == "bool" && (("bool":String) == "int"))) = (k == "bool"):=by rw [show (("bool":String) == "int") = false by decide,Bool.and_false,Bool.or_false]
  simp only [Option.map_some,Mh]
 cases N0:k == "bool" with
 | true => rw [N0] at e1 e2; simp only [PM.e_,a!,aq,aV,dW,kR,k_not,fC,jP,F5,zk,dn,List.map_cons,List.map_nil,List.cons_append,List.nil_append,List.replicate_zero,Nat.reduceSub,List.length_cons,List.length_nil,Nat.reduceAdd,Bool.not_true,vx,e1,e2]
 | false => rw [N0] at e1 e2; simp only [PM.e_,a!,aq,aV,dW,uN,fC,jP,zk,dn,List.map_cons,List.map_nil,List.cons_append,List.nil_append,List.replicate_zero,Nat.reduceSub,List.length_cons,List.length_nil,Nat.reduceAdd,vx,e1,e2]
noncomputable def Aa (v:ai) (st:ag):Prop:=ja v = false ∧ ∀ g,∃ g',PM.cy [v] (st ++ g) = .ok (.bl false) (st ++ g ++ g')
theorem Aa.odd {v:ai} {st:ag} (h:z? v st):Aa v st:=⟨h.1,fun g => by
 have vx:ae 0 [some v] (st ++ g) = .ok v (st ++ g):=DJ h.1
 exact ⟨[],by simp only [PM.cy,a!,aq,aV,dW,uN,d?,dj,fC,jP,fN,dh,dZ,dn,List.map_cons,List.map_nil,List.replicate_zero,Nat.reduceSub,List.length_cons,List.length_nil,Nat.reduceAdd,vx,pD (h.old g),List.append_nil]⟩⟩
theorem Aa.int {n:Int} (h:iE n = false) (st:ag):Aa (.int n) st:=⟨rfl,fun g => by
 obtain ⟨g',e⟩:=fE n (st ++ g)
 rw [h] at e
 exact ⟨g',e⟩⟩
theorem Aa.is {v:ai} {st:ag} (h:Aa v st):∃ g',PM.cy [v] st = .ok (.bl false) (st ++ g'):=by
 obtain ⟨g',e⟩:=h.2 []
 rw [List.append_nil] at e
 exact ⟨g',e⟩
end PG
namespace PG
open PySem PySem.Spec L2 MN
open PyProof.Rows hiding St kindOf
noncomputable def Xt (s s':ag):Prop:=s.length ≤ s'.length ∧ ∀ (n:Nat) (c:aT),s[n]? = some c → s'[n]? = some c
theorem Xt.refl {s:ag}:Xt s s:=⟨Nat.le_refl _,fun _ _ h => h⟩
theorem Xt.trans {s s1 s2:ag} (h:Xt s s1) (k:Xt s1 s2):Xt s s2:=⟨Nat.le_trans h.1 k.1,fun n c e => k.2 n c (h.2 n c e)⟩
theorem Xt.app {s:ag} (g:ag):Xt s (s ++ g):=⟨by rw [List.length_append]; lia,fun _ _ e => dY e _⟩
theorem Xt.set {s s1:ag} {n:Nat} {c:aT} (h:Xt s s1) (hn:s.length ≤ n):Xt s (s1.set n c):=⟨by rw [List.length_set]; exact h.1,fun m d e => bj (h.2 m d e) (fun z => by have:=b9 e; lia)⟩
section
variable {μ:MN.Env} {s s1 s2:ag} {m o:ME} {a:MA} {c f:Str} {fs:List (Str × ai)} {v:ai} {n:Nat} {us:List ai}
theorem dc (h:m μ s = .ok (.loc n) s1) (hn:s1[n]? = some (.ins c fs)) (hl:fs.lookup f = some v):bh [c] f m μ s = .ok v s1:=by
 unfold bh
 rw [h]
 show Co [c] f (.loc n) s1 = _
 unfold Co
 dsimp only
 rw [hn]
 dsimp only
 rw [if_pos (List.mem_singleton.mpr rfl),hl]
theorem gD {F:FN} (h:o μ s = .ok (.loc n) s1) (hn:s1[n]? = some (.ins c fs)) (hl:fs.lookup f = none) (ha:a μ s1 = .ok us s2):cQ c f F o a μ s = F (.loc n :: us) s2:=by
 unfold cQ
 rw [h]
 show (if qK c f s1 (.loc n) = true then _ else _) = _
 rw [if_pos (by unfold qK; dsimp only; rw [hn]; dsimp only; rw [hl,decide_eq_true rfl]; rfl),ha]
theorem gE {mv:ME} (hv:mv μ s = .ok v s1) (h:m μ s1 = .ok (.loc n) s2) (hn:s2[n]? = some (.ins c fs)) (hl:fs.length < 1000):fc [c] f m mv μ s = .nx μ (s2.set n (.ins c (zL f v fs))):=by
 unfold fc
 rw [hv]
 show (m μ s1).sb μ _ = _
 rw [h]
 show (match Cp [c] f v (.loc n) s2 with | some mR => cf.nx μ mR | none => .bad) = _
 unfold Cp
 dsimp only
 rw [hn]
 dsimp only
 rw [if_pos ⟨List.mem_singleton.mpr rfl,hl⟩]
theorem Ab {F:FN} (ha:a μ s = .ok us s1) (hF:F (.loc s1.length :: us) (s1 ++ [.ins c []]) = .ok .bE s2):qJ c F a μ s = .ok (.loc s1.length) s2:=by
 unfold qJ
 rw [ha]
 show Cq c F us s1 = _
 unfold Cq
 rw [hF]
theorem d0 (h:m μ s = .ok v s1):bg m μ s = .nx μ s1:=by rw [gA,h,aV,zl]
theorem ee (h:m μ s = .ok v s1):aY m μ s = .rt v s1:=by rw [dn,h,aV,fC]
end
theorem GG (x y:Nat):Builtin.bitOr (x:Int) (y:Int) = ((x ||| y:Nat):Int):=by
 unfold Builtin.bitOr Builtin.bitAnd
 have hx:¬ (0:Int) ≤ Builtin.bitNot (x:Int):=by unfold Builtin.bitNot; lia
 have hy:¬ (0:Int) ≤ Builtin.bitNot (y:Int):=by unfold Builtin.bitNot; lia
 rw [decide_eq_false hx,decide_eq_false hy]
 dsimp only
 have e:∀ z:Int,Builtin.bitNot (Builtin.bitNot z) = z:=fun z => by unfold Builtin.bitNot; lia
 rw [e,e,e,Int.toNat_natCast,Int.toNat_natCast]
theorem CM (x y:Nat):Builtin.bitAnd (x:Int) (y:Int) = ((x &&& y:Nat):Int):=by
 unfold Builtin.bitAnd
 rw [decide_eq_true (Int.natCast_nonneg x),decide_eq_true (Int.natCast_nonneg y)]
 dsimp only
 rw [Int.toNat_natCast,Int.toNat_natCast]
theorem pE {k w e:Nat} {st:ag} (hw:w ≤ 1000) (hk:k < 2 ^ e) (he:e ≤ 100000):jm (.int (k:Int)) (.int (w:Int)) st = .ok (.int ((k * 2 ^ w:Nat):Int)) st:=by
 show (if 0 ≤ (w:Int) ∧ (w:Int) ≤ 100000 ∧ (k:Int).natAbs < 2 ^ 100000 then bH.ok (ai.int ((k:Int) * 2 ^ (w:Int).toNat)) st else .bad) = _
 have h1:(2:Nat) ^ e ≤ 2 ^ 100000:=Nat.pow_le_pow_right (by decide) he
 rw [if_pos ⟨by lia,by lia,by rw [Int.natAbs_natCast]; exact Nat.lt_of_lt_of_le hk h1⟩,Int.toNat_natCast]
 push_cast
 rfl
noncomputable def Jw (b:Bool) (au w g:Nat):List (Str × ai):=[("by_degree",.bl b),("many",.int (au:Int)),("width",.int (w:Int)),("guards",.int (g:Int))]
noncomputable def Pk (s:ag) (n:Nat) (b:Bool) (au w g:Nat):Prop:=s[n]? = some (.ins "Packing" (Jw b au w g))
theorem GH {b:Bool} {au w g:Nat}:(Jw b au w g).lookup ("width":Str) = some (.int (w:Int)):=by rfl
theorem Mi {b:Bool} {au w g:Nat}:(Jw b au w g).lookup ("by_degree":Str) = some (.bl b):=by rfl
theorem Mj {b:Bool} {au w g:Nat}:(Jw b au w g).lookup ("many":Str) = some (.int (au:Int)):=by rfl
theorem Ml {b:Bool} {au w g:Nat}:(Jw b au w g).lookup ("guards":Str) = some (.int (g:Int)):=by rfl
noncomputable def nV (es:List Nat):List ai:=es.map fun (e:Nat) => ai.int (e:Int)
noncomputable def N1 (s:ag) (v:ai) (es:List Nat):Prop:=v = .tup (nV es) ∨ ∃ q,v = .loc q ∧ aj s q = some (nV es)
theorem sum_nat (es:List Nat):(es.map fun (e:Nat) => (e:Int)).sum = ((es.sum:Nat):Int):=by
 induction es with
 | nil => rfl
 | cons e es ih => rw [List.map_cons,List.sum_cons,List.sum_cons,ih]; push_cast; rfl
theorem jt (es:List Nat):nV es = (es.map fun (e:Nat) => (e:Int)).map ai.int:=by unfold nV; rw [List.map_map]; rfl
theorem oj (ns:List Int):intsOf (ns.map ai.int) = some ns:=by
 induction ns with
 | nil => rfl
 | cons n ns ih => show (intsOf (ns.map ai.int)).map (n :: ·) = _; rw [ih]; rfl
theorem u9 {s:ag} {v:ai} {es:List Nat} (h:N1 s v es):pw [v] s = .ok (.int ((es.sum:Nat):Int)) s:=by
 rcases h with rfl | ⟨q,rfl,h⟩
 ·have z:pw [ai.tup (nV es)] s = zI [ai.tup (nV es)] s:=rfl
  rw [z,jt,Gm,sum_nat]
 ·show sumF [.loc q] s = _
  unfold sumF
  dsimp only
  rw [h]
  dsimp only
  rw [jt,oj]
  dsimp only
  rw [sum_nat]
theorem GI {es:List Nat} (h:∀ e ∈ es,e < 2 ^ 64) (hl:es.length ≤ 8):es.sum < 2 ^ 67:=by
 have:es.sum ≤ es.length * (2 ^ 64 - 1):=by
  clear hl
  induction es with
  | nil => decide
  | cons e es ih =>
   have h1:=h e List.mem_cons_self
   have h2:=ih fun x m => h x (List.mem_cons_of_mem _ m)
   rw [List.sum_cons,List.length_cons,Nat.add_mul]
   lia
 have h3:es.length * (2 ^ 64 - 1) ≤ 8 * (2 ^ 64 - 1):=Nat.mul_le_mul_right _ hl
 lia
noncomputable abbrev GJ:MB:=aM 2 (ah Kk (ah jm (ae 2) (bh ["Packing"] "width" (ae 0))) (ae 3))
theorem CN {s:ag} {n:Nat} {b:Bool} {au w g k e j:Nat} {x1:Option ai} (P:Pk s n b au w g) (hw:w ≤ 64) (he:e < 2 ^ 64) (hk:k < 2 ^ (67 + 64 * j)) (hj:j ≤ 100) :
  ∃ k':Nat,GJ [some (.loc n),x1,some (.int (k:Int)),some (.int (e:Int))] s = .nx [some (.loc n),x1,some (.int (k':Int)),some (.int (e:Int))] s ∧ k' < 2 ^ (67 + 64 * (j + 1)):=by
 refine ⟨k * 2 ^ w ||| e,?_,?_⟩
 ·have a:ah jm (ae 2) (bh ["Packing"] "width" (ae 0)) [some (.loc n),x1,some (.int (k:Int)),some (.int (e:Int))] s = .ok (.int ((k * 2 ^ w:Nat):Int)) s:=by
   rw [ay (x:=.int (k:Int)) (s1:=s) rfl (dc (n:=n) (s1:=s) rfl P GH),pE (by lia) hk (by lia)]
  have o:ah Kk (ah jm (ae 2) (bh ["Packing"] "width" (ae 0))) (ae 3) [some (.loc n),x1,some (.int (k:Int)),some (.int (e:Int))] s = .ok (.int ((k * 2 ^ w ||| e:Nat):Int)) s:=by
   rw [ay a (y:=.int (e:Int)) (s2:=s) rfl]
   show bH.ok (ai.int (Builtin.bitOr ((k * 2 ^ w:Nat):Int) (e:Int))) s = _
   rw [GG]
  show aM 2 _ _ s = _
  rw [aW o]
  rfl
 ·have hp:67 + 64 * (j + 1) = (67 + 64 * j) + 64:=by lia
  refine Nat.or_lt_two_pow ?_ (Nat.lt_of_lt_of_le he (Nat.pow_le_pow_right (by decide) (by lia)))
  rw [hp,Nat.pow_add]
  have h2:2 ^ w ≤ 2 ^ 64:=Nat.pow_le_pow_right (by decide) hw
  calc k * 2 ^ w ≤ k * 2 ^ 64:=Nat.mul_le_mul_left _ h2
   _ < 2 ^ (67 + 64 * j) * 2 ^ 64:=Nat.mul_lt_mul_of_pos_right hk (by decide)
theorem q! {s:ag} {n:Nat} {b:Bool} {au w g:Nat} {x1:Option ai} {gd:ag → Prop} (hg:gd s) (P:Pk s n b au w g) (hw:w ≤ 64):∀ (es:List Nat) (j k:Nat) (y:Option ai),(∀ e ∈ es,e < 2 ^ 64) → k < 2 ^ (67 + 64 * j) → j + es.length ≤ 100 →
  ∃ (k':Nat) (y':Option ai),forL gd (aw 3) GJ (nV es) [some (.loc n),x1,some (.int (k:Int)),y] s = .nx [some (.loc n),x1,some (.int (k':Int)),y'] s ∧ k' < 2 ^ (67 + 64 * (j + es.length))
 | [],j,k,y,_,hk,_ => ⟨k,y,by show forL gd _ _ [] _ s = _; unfold forL; rw [if_pos hg],hk⟩
 | e :: es,j,k,y,he,hk,hj => by
  rw [List.length_cons] at hj
  obtain ⟨k1,f1,l1⟩:=CN (x1:=x1) P hw (he e List.mem_cons_self) hk (by lia)
  obtain ⟨k2,y2,f2,l2⟩:=q! (x1:=x1) hg P hw es (j + 1) k1 (some (.int (e:Int))) (fun x m => he x (List.mem_cons_of_mem _ m)) l1 (by lia)
  refine ⟨k2,y2,?_,by rw [List.length_cons,show j + (es.length + 1) = j + 1 + es.length by lia]; exact l2⟩
  show forL gd _ _ (.int (e:Int) :: nV es) _ s = _
  unfold forL
  rw [if_pos hg]
  show (match GJ [some (.loc n),x1,some (.int (k:Int)),some (.int (e:Int))] s with
   | .nx μ' av => forL gd (aw 3) GJ (nV es) μ' av | .ct μ' av => forL gd (aw 3) GJ (nV es) μ' av | .bk μ' av => .nx μ' av | .rt v av => .rt v av | .er c μ' av => .er c μ' av | .bad => .bad) = _
  rw [f1]
  exact f2
theorem oB {s:ag} {n:Nat} {b:Bool} {au w g:Nat} {v:ai} {es:List Nat} (P:Pk s n b au w g) (hw:w ≤ 64) (h:N1 s v es) (he:∀ e ∈ es,e < 2 ^ 64) (hl:es.length ≤ 8) :
  ∃ k:Nat,PM.bw [.loc n,v] s = .ok (.int (k:Int)) s ∧ k < 2 ^ 1000:=by
 have hx:ja v = false:=by rcases h with rfl | ⟨q,rfl,_⟩ <;> rfl
 have v1:∀ {y z:Option ai} {s:ag},ae 1 [some (.loc n),some v,y,z] s = .ok v s:=fun {y z s} => cP rfl hx
 obtain ⟨k0,f0,l0⟩:∃ k0:Nat,Bx (cA (bh ["Packing"] "by_degree" (ae 0))) (ao pw (aa (ae 1) ak)) (mC (.int 0)) [some (.loc n),some v,none,none] s = .ok (.int (k0:Int)) s ∧ k0 < 2 ^ 67:=by
  have t:cA (bh ["Packing"] "by_degree" (ae 0)) [some (.loc n),some v,none,none] s = .ok b s:=bJ (dc (n:=n) (s1:=s) rfl P Mi)
  cases b with
  | true => exact ⟨es.sum,by rw [lU,t,aq,kS,ax (br v1),u9 h],GI he hl⟩
  | false => exact ⟨0,by rw [lU,t,aq,uQ]; rfl,by decide⟩
 obtain ⟨gd,hi,hg⟩:∃ gd:ag → Prop,d_ (ae 1) [some (.loc n),some v,some (.int (k0:Int)),none] s = .ok (nV es,gd) s ∧ gd s:=by
  rcases h with rfl | ⟨q,rfl,h⟩
  ·exact ⟨fun _ => True,by rw [c7,v1,aq]; rfl,trivial⟩
  ·exact ⟨fun av => aj av q = some (nV es),by rw [c7,v1,aq,cR h],h⟩
 obtain ⟨k,y,f1,l1⟩:=q! (x1:=some v) hg P hw es 0 k0 none he (by simpa using l0) (by lia)
 refine ⟨k,?_,Nat.lt_of_lt_of_le l1 (Nat.pow_le_pow_right (by decide) (by lia))⟩
 unfold PM.bw
 rw [a! (np:=2) (us:=[ai.loc n,v]) rfl]
 show (az (aM 2 _) (az (dD (d_ (ae 1)) (aw 3) GJ) (aY (ae 2))) [some (.loc n),some v,none,none] s).fin = _
 rw [aA,aW f0,aB]
 show (az (dD (d_ (ae 1)) (aw 3) GJ) (aY (ae 2)) [some (.loc n),some v,some (.int (k0:Int)),none] s).fin = _
 rw [aA,ec,hi,aV,gK,f1,aB]
 rfl
end PG
namespace PG
open PySem PySem.Spec L2 MN
open PyProof.Rows hiding St kindOf
noncomputable abbrev Mm:ME:=ah B3 (ah B0 (ae 2) (ah cF (bh ["Packing"] "width" (ae 3)) (ae 0))) (ae 1)
theorem CO {s:ag} {n:Nat} {b:Bool} {au w g k f p:Nat} (P:Pk s n b au w g) (hw:w ≤ 64) (hf:f < 2 ^ 64) :
  ∃ e:Nat,Mm [some (.int (p:Int)),some (.int (f:Int)),some (.int (k:Int)),some (.loc n)] s = .ok (.int (e:Int)) s ∧ e < 2 ^ 64:=by
 refine ⟨k / 2 ^ (w * p) &&& f,?_,Nat.lt_of_le_of_lt Nat.and_le_right hf⟩
 have m:ah cF (bh ["Packing"] "width" (ae 3)) (ae 0) [some (.int (p:Int)),some (.int (f:Int)),some (.int (k:Int)),some (.loc n)] s = .ok (.int ((w * p:Nat):Int)) s:=by
  rw [ay (dc (n:=n) (s1:=s) rfl P GH) (y:=.int (p:Int)) (s2:=s) rfl,uU (by lia) (by lia)]
  push_cast; rfl
 have r:ah B0 (ae 2) (ah cF (bh ["Packing"] "width" (ae 3)) (ae 0)) [some (.int (p:Int)),some (.int (f:Int)),some (.int (k:Int)),some (.loc n)] s = .ok (.int ((k / 2 ^ (w * p):Nat):Int)) s:=by
  rw [ay (x:=.int (k:Int)) (s1:=s) rfl m]
  show (if 0 ≤ ((w * p:Nat):Int) then bH.ok (ai.int ((k:Int) / 2 ^ ((w * p:Nat):Int).toNat)) s else .bad) = _
  rw [if_pos (Int.natCast_nonneg _),Int.toNat_natCast]
  push_cast; rfl
 show ah B3 _ _ _ s = _
 rw [ay r (y:=.int (f:Int)) (s2:=s) rfl]
 show bH.ok (ai.int (Builtin.bitAnd ((k / 2 ^ (w * p):Nat):Int) (f:Int))) s = _
 rw [CM]
theorem u_ {s:ag} {n:Nat} {b:Bool} {au w g k f:Nat} (P:Pk s n b au w g) (hw:w ≤ 64) (hf:f < 2 ^ 64):∀ (ps:List Nat) (x:Option ai) (ys:List ai),
  ∃ es:List Nat,a7 (fun _ => True) (aw 0) aL Mm (nV ps) [x,some (.int (f:Int)),some (.int (k:Int)),some (.loc n)] s ys = .ok (ys ++ nV es) s ∧ es.length = ps.length ∧ ∀ e ∈ es,e < 2 ^ 64
 | [],x,ys => ⟨[],by show a7 _ _ _ _ [] _ s ys = _; rw [bP trivial]; simp [nV],rfl,fun e m => by cases m⟩
 | p :: ps,x,ys => by
  obtain ⟨e,h1,h2⟩:=CO (p:=p) (k:=k) P hw hf
  obtain ⟨es,h3,h4,h5⟩:=u_ (k:=k) P hw hf ps (some (.int (p:Int))) (ys ++ [.int (e:Int)])
  refine ⟨e :: es,?_,by rw [List.length_cons,List.length_cons,h4],fun z m => ?_⟩
  ·show a7 _ _ _ _ (.int (p:Int) :: nV ps) _ s ys = _
   rw [cI (g:=fun _ => True) trivial (show aw 0 (.int (p:Int)) [x,some (.int (f:Int)),some (.int (k:Int)),some (.loc n)] = some [some (.int (p:Int)),some (.int (f:Int)),some (.int (k:Int)),some (.loc n)] from rfl) h1,h3,List.append_assoc]
   rfl
  ·rcases List.mem_cons.mp m with rfl | m
   ·exact h2
   ·exact h5 z m
theorem w5:∀ (n:Nat),∃ ps:List Nat,ki ((n:Int) - 1) n = nV ps ∧ ps.length = n
 | 0 => ⟨[],rfl,rfl⟩
 | n + 1 => by
  refine ⟨(List.range (n + 1)).map fun i => n - i,?_,by simp⟩
  unfold ki nV
  rw [List.map_map]
  refine List.map_congr_left fun i hi => ?_
  have:=List.mem_range.mp hi
  show ai.int _ = ai.int _
  congr 1
  push_cast
  lia
theorem gM {s:ag} {n:Nat} {b:Bool} {au w g k:Nat} (P:Pk s n b au w g) (hw:w < 64) (hm:au ≤ 8) :
  ∃ (es:List Nat) (s':ag),PM.aI [.loc n,.int (k:Int)] s = .ok (.tup (nV es)) s' ∧ Xt s s' ∧ es.length = au ∧ ∀ e ∈ es,e < 2 ^ 64:=by
 obtain ⟨f,hf⟩:∃ f:Nat,f = 2 ^ w - 1:=⟨_,rfl⟩
 have lf:f < 2 ^ 64:=by
  have:2 ^ w ≤ 2 ^ 64:=Nat.pow_le_pow_right (by decide) (by lia)
  have:0 < 2 ^ w:=Nat.pow_pos (by decide)
  lia
 obtain ⟨ps,e1,l1⟩:=w5 au
 obtain ⟨es,h1,h2,h3⟩:=u_ (k:=k) P (by lia) lf ps none []
 refine ⟨es,s ++ [.lst (nV es)],?_,Xt.app _,by rw [h2,l1],h3⟩
 have f0:ah eV (ah jm (mC (.int 1)) (bh ["Packing"] "width" (ae 0))) (mC (.int 1)) [some (.loc n),some (.int (k:Int)),none] s = .ok (.int (f:Int)) s:=by
  have a:ah jm (mC (.int 1)) (bh ["Packing"] "width" (ae 0)) [some (.loc n),some (.int (k:Int)),none] s = .ok (.int ((1 * 2 ^ w:Nat):Int)) s:=by
   rw [ay (x:=.int ((1:Nat):Int)) (s1:=s) rfl (dc (n:=n) (s1:=s) rfl P GH),pE (e:=1) (by lia) (by decide) (by decide)]
  rw [ay a (y:=.int 1) (s2:=s) rfl]
  show bH.ok (ai.int (((1 * 2 ^ w:Nat):Int) - 1)) s = _
  have:0 < 2 ^ w:=Nat.pow_pos (by decide)
  have z:((1 * 2 ^ w:Nat):Int) - 1 = (f:Int):=by rw [hf]; lia
  rw [z]
 obtain ⟨μ,hμ⟩:∃ μ:MN.Env,μ = [some (.loc n),some (.int (k:Int)),some (.int (f:Int))]:=⟨_,rfl⟩
 have ar:aa (ah eV (bh ["Packing"] "many" (ae 0)) (mC (.int 1))) (aa (jN (mC (.int 1))) (aa (jN (mC (.int 1))) ak)) μ s = .ok [.int ((au:Int) - 1),.int (-1),.int (-1)] s:=by
  refine cb (s1:=s) ?_ rfl
  rw [ay (dc (n:=n) (s1:=s) (by rw [hμ]; rfl) P Mj) (y:=.int 1) (s2:=s) rfl]
  rfl
 have cp:bG 1 [2,1,0] (lO (aa (ah eV (bh ["Packing"] "many" (ae 0)) (mC (.int 1))) (aa (jN (mC (.int 1))) (aa (jN (mC (.int 1))) ak)))) (aw 0) aL Mm μ s = .ok (.loc s.length) (s ++ [.lst (nV es)]):=by
  rw [cO,Cd,ar,aq,Gh (by lia) (by lia) (by decide) (by decide),aq,dX]
  have e2:((au:Int) - 1 - -1).toNat = au:=by lia
  rw [e2,e1,if_pos (by unfold nV; rw [List.length_map,sizeLine_eq]; lia)]
  have cm:e8 1 [2,1,0] μ = [none,some (.int (f:Int)),some (.int (k:Int)),some (.loc n)]:=by rw [hμ]; rfl
  rw [cm,h1,aq]
  rfl
 unfold PM.aI
 rw [a! (np:=2) (us:=[ai.loc n,.int (k:Int)]) rfl]
 show (az (aM 2 _) (aY (ao nc (aa _ ak))) [some (.loc n),some (.int (k:Int)),none] s).fin = _
 rw [aA,aW f0,aB]
 show (aY _ [some (.loc n),some (.int (k:Int)),some (.int (f:Int))] s).fin = _
 rw [← hμ,ee (v:=.tup (nV es)) (s1:=s ++ [.lst (nV es)]) (by rw [ax (br cp)]; exact pb (aQ s _))]
 rfl
theorem Ac {a b:Nat} {st:ag}:jn [.tup [.int (a:Int),.int (b:Int)]] st = .ok (.int ((max a b:Nat):Int)) st:=by
 show bH.ok (ai.int (if (b:Int) > (a:Int) then (b:Int) else (a:Int))) st = _
 congr 2
 by_cases h:(b:Int) > (a:Int)
 ·rw [if_pos h]; lia
 ·rw [if_neg h]; lia
theorem mw {s:ag} {gd:ag → Prop} (hg:gd s):∀ (as bs:List Nat) (x:Option ai) (ys:List ai),(∀ e ∈ as,e < 2 ^ 64) → (∀ e ∈ bs,e < 2 ^ 64) →
    ∃ es:List Nat,a7 gd (aw 0) aL (ao jn (aa (ae 0) ak)) (fU (nV as) (nV bs)) [x] s ys = .ok (ys ++ nV es) s ∧ es.length ≤ as.length ∧ ∀ e ∈ es,e < 2 ^ 64
  | [],bs,x,ys,_,_ => ⟨[],by show a7 _ _ _ _ [] _ s ys = _; rw [bP hg]; simp [nV],Nat.le_refl _,fun e m => by cases m⟩
  | a :: as,[],x,ys,_,_ => ⟨[],by show a7 _ _ _ _ [] _ s ys = _; rw [bP hg]; simp [nV],Nat.zero_le _,fun e m => by cases m⟩
  | a :: as,b :: bs,x,ys,ha,hb => by
    obtain ⟨es,h1,h2,h3⟩:=mw hg as bs (some (.tup [.int (a:Int),.int (b:Int)])) (ys ++ [.int ((max a b:Nat):Int)]) (fun e m => ha e (List.mem_cons_of_mem _ m)) fun e m => hb e (List.mem_cons_of_mem _ m)
    refine ⟨max a b :: es,?_,by rw [List.length_cons,List.length_cons]; lia,fun z m => ?_⟩
    · show a7 _ _ _ _ (.tup [.int (a:Int),.int (b:Int)] :: fU (nV as) (nV bs)) _ s ys = _
      rw [cI hg (show aw 0 (.tup [.int (a:Int),.int (b:Int)]) [x] = some [some (.tup [.int (a:Int),.int (b:Int)])] from rfl) (show ao jn (aa (ae 0) ak) [some (.tup [.int (a:Int),.int (b:Int)])] s = .ok (.int ((max a b:Nat):Int)) s by
        rw [ax (br (v:=.tup [.int (a:Int),.int (b:Int)]) (s1:=s) rfl),Ac]),h1,List.append_assoc]
      rfl
    · rcases List.mem_cons.mp m with rfl | m
      · have:=ha a List.mem_cons_self
        have:=hb b List.mem_cons_self
        lia
      · exact h3 z m
theorem q?:∀ (as bs:List ai),(fU as bs).length ≤ as.length
 | [],_ => Nat.le_refl _
 | _ :: _,[] => Nat.zero_le _
 | _ :: as,_ :: bs => by have:=q? as bs; unfold fU; rw [List.length_cons,List.length_cons]; lia
theorem rf {s:ag} {n:Nat} {b:Bool} {au w g k1 k2:Nat} (P:Pk s n b au w g) (hw:w < 64) (hm:au ≤ 8) :
  ∃ (k:Nat) (s':ag),PM.bY [.loc n,.int (k1:Int),.int (k2:Int)] s = .ok (.int (k:Int)) s' ∧ Xt s s':=by
 obtain ⟨μ,hμ⟩:∃ μ:MN.Env,μ = [some (.loc n),some (.int (k1:Int)),some (.int (k2:Int))]:=⟨_,rfl⟩
 obtain ⟨as,s1,a1,x1,la,ha⟩:=gM (k:=k1) P hw hm
 have P1:Pk s1 n b au w g:=x1.2 _ _ P
 obtain ⟨bs,s2,b1,x2,lb,hb⟩:=gM (k:=k2) P1 hw hm
 have P2:Pk s2 n b au w g:=x2.2 _ _ P1
 obtain ⟨es,h1,h2,h3⟩:=mw (s:=s2) (gd:=fun _ => True ∧ True) ⟨trivial,trivial⟩ as bs none [] ha hb
 obtain ⟨s3,iU⟩:∃ s3,s3 = s2 ++ [aT.lst (nV es)]:=⟨_,rfl⟩
 have P3:Pk s3 n b au w g:=by rw [iU]; exact dY P2 _
 obtain ⟨k,f,_⟩:=oB (v:=.loc s2.length) (es:=es) P3 (by lia) (.inr ⟨_,rfl,by rw [iU]; exact aQ s2 _⟩) h3 (by lia)
 refine ⟨k,s3,?_,x1.trans (x2.trans (by rw [iU]; exact Xt.app _))⟩
 have m1:cQ "Packing" "exponents_of" PM.aI (ae 0) (aa (ae 1) ak) μ s = .ok (.tup (nV as)) s1:=by
  rw [gD (n:=n) (s1:=s) (us:=[.int (k1:Int)]) (s2:=s) (by rw [hμ]; rfl) P (by rfl) (by rw [hμ]; rfl),a1]
 have m2:cQ "Packing" "exponents_of" PM.aI (ae 0) (aa (ae 2) ak) μ s1 = .ok (.tup (nV bs)) s2:=by
  rw [gD (n:=n) (s1:=s1) (us:=[.int (k2:Int)]) (s2:=s1) (by rw [hμ]; rfl) P1 (by rfl) (by rw [hμ]; rfl),b1]
 have cp:bG 1 [] (jf false false (aa (cQ "Packing" "exponents_of" PM.aI (ae 0) (aa (ae 1) ak)) (aa (cQ "Packing" "exponents_of" PM.aI (ae 0) (aa (ae 2) ak)) ak))) (aw 0) aL (ao jn (aa (ae 0) ak)) μ s = .ok (.loc s2.length) s3:=by
  rw [cO,sX,dP m1 m2,aq,uT,aq,dX,if_pos (by have:=q? (nV as) (nV bs); unfold nV at this ⊢; rw [List.length_map] at this; rw [sizeLine_eq]; lia)]
  have cm:e8 1 [] μ = [none]:=rfl
  rw [cm,h1,aq,iU]
  rfl
 unfold PM.bY
 rw [a! (np:=3) (us:=[ai.loc n,.int (k1:Int),.int (k2:Int)]) rfl]
 show (aY (cQ "Packing" "key_of" PM.bw (ae 0) (aa _ ak)) [some (.loc n),some (.int (k1:Int)),some (.int (k2:Int))] s).fin = _
 rw [← hμ,ee (v:=.int (k:Int)) (s1:=s3) (by rw [gD (n:=n) (s1:=s) (us:=[.loc s2.length]) (s2:=s3) (by rw [hμ]; rfl) P (by rfl) (br cp),f])]
 rfl
end PG
namespace PG
open PySem PySem.Spec L2 MN
open PyProof.Rows hiding St kindOf
theorem CP {h:Nat} (hh:h < 2 ^ 20):Builtin.Int.intBits (h:Int) ≤ 20:=by
 unfold Builtin.Int.intBits
 by_cases z:h = 0
 ·rw [z]; decide
 ·have e:((h:Int) == 0) = false:=by rw [beq_eq_false_iff_ne]; lia
  rw [e]
  show (h:Int).natAbs.log2 + 1 ≤ 20
  rw [Int.natAbs_natCast]
  have:=(Nat.log2_lt z).mpr hh
  lia
theorem u! {s:ag} {n w:Nat} {fs:List (Str × ai)} (hn:s[n]? = some (.ins "Packing" fs)) (hl:fs.lookup ("width":Str) = some (.int (w:Int))) (w1:1 ≤ w) (hw:w ≤ 64):∀ (j m:Nat) (x:Option ai) (ys:List Nat),j + m ≤ 8 →
  ∃ gs:List Nat,a7 (fun _ => True) (aw 0) aL (ah jm (mC (.int 1)) (ah eV (ah bV (ah cF (bh ["Packing"] "width" (ae 1)) (ae 0)) (bh ["Packing"] "width" (ae 1))) (mC (.int 1)))) ((List.range' j m).map fun (i:Nat) => ai.int (i:Int)) [x,some (.loc n)] s (nV ys) = .ok (nV gs) s ∧ gs.length = ys.length + m
 | j,0,x,ys,_ => ⟨ys,by show a7 _ _ _ _ [] _ s _ = _; rw [bP trivial],rfl⟩
 | j,m + 1,x,ys,hj => by
  obtain ⟨gs,h1,h2⟩:=u! hn hl w1 hw (j + 1) m (some (.int (j:Int))) (ys ++ [1 * 2 ^ (w * j + w - 1)]) (by lia)
  refine ⟨gs,?_,by rw [h2,List.length_append]; show ys.length + 1 + m = _; lia⟩
  rw [List.range'_succ,List.map_cons]
  obtain ⟨μ,hμ⟩:∃ μ:MN.Env,μ = [some (.int (j:Int)),some (.loc n)]:=⟨_,rfl⟩
  have fw:bh ["Packing"] "width" (ae 1) μ s = .ok (.int (w:Int)) s:=dc (n:=n) (s1:=s) (by rw [hμ]; rfl) hn hl
  have e1:ah cF (bh ["Packing"] "width" (ae 1)) (ae 0) μ s = .ok (.int ((w:Int) * (j:Int))) s:=by
   rw [ay fw (y:=.int (j:Int)) (s2:=s) (by rw [hμ]; rfl),uU (by lia) (by lia)]
  have e2:ah eV (ah bV (ah cF (bh ["Packing"] "width" (ae 1)) (ae 0)) (bh ["Packing"] "width" (ae 1))) (mC (.int 1)) μ s = .ok (.int ((w * j + w - 1:Nat):Int)) s:=by
   rw [ay (x:=.int ((w:Int) * (j:Int) + (w:Int))) (s1:=s) (by rw [ay e1 fw]; rfl) (y:=.int 1) (s2:=s) rfl]
   show bH.ok (ai.int ((w:Int) * (j:Int) + (w:Int) - 1)) s = _
   have:((w * j + w - 1:Nat):Int) = (w:Int) * (j:Int) + (w:Int) - 1:=by rw [Int.natCast_sub (by have:0 ≤ w * j:=Nat.zero_le _; lia)]; push_cast; rfl
   rw [this]
  have wb:w * j + w - 1 ≤ 1000:=by
   have:w * j ≤ 64 * 8:=Nat.mul_le_mul hw (by lia)
   lia
  have e3:ah jm (mC (.int 1)) (ah eV (ah bV (ah cF (bh ["Packing"] "width" (ae 1)) (ae 0)) (bh ["Packing"] "width" (ae 1))) (mC (.int 1))) μ s = .ok (.int ((1 * 2 ^ (w * j + w - 1):Nat):Int)) s:=by
   rw [ay (x:=.int ((1:Nat):Int)) (s1:=s) rfl e2,pE (e:=1) wb (by decide) (by decide)]
  rw [cI (g:=fun _ => True) trivial (show aw 0 (.int (j:Int)) [x,some (.loc n)] = some μ by rw [hμ]; rfl) e3,hμ]
  have:nV ys ++ [.int ((1 * 2 ^ (w * j + w - 1):Nat):Int)] = nV (ys ++ [1 * 2 ^ (w * j + w - 1)]):=by unfold nV; rw [List.map_append]; rfl
  rw [this]
  exact h1
theorem g8 (m:Nat):cj 0 m = (List.range' 0 m).map fun (i:Nat) => ai.int (i:Int):=by
 unfold cj
 rw [List.range_eq_range']
 refine List.map_congr_left fun i _ => ?_
 rw [Int.zero_add]
noncomputable def Xb (f:Nat) (s s':ag):Prop:=s.length ≤ s'.length ∧ ∀ (n:Nat) (c:aT),n ≠ f → s[n]? = some c → s'[n]? = some c
theorem CQ {s:ag} {n au h:Nat} {d:Bool} (hn:s[n]? = some (.ins "Packing" [])) (hm:au ≤ 8) (hh:h < 2 ^ 20) :
  ∃ (w g:Nat) (s':ag),PM.cG [.loc n,.str (bK d),.int (au:Int),.int (h:Int)] s = .ok .bE s' ∧ 40 ≤ w ∧ w < 64 ∧ Pk s' n d au w g ∧ Xb n s s':=by
 obtain ⟨μ,hμ⟩:∃ μ:MN.Env,μ = [some (.loc n),some (.str (bK d)),some (.int (au:Int)),some (.int (h:Int))]:=⟨_,rfl⟩
 have v0:∀ s,ae 0 μ s = .ok (.loc n) s:=fun s => by rw [hμ]; rfl
 have ln:=b9 hn
 obtain ⟨w,hw⟩:∃ w:Nat,w = Builtin.Int.intBits (h:Int) + 40:=⟨_,rfl⟩
 have lw:=CP hh
 obtain ⟨s1,c5⟩:∃ s1,s1 = s.set n (.ins "Packing" [("by_degree",.bl d)]):=⟨_,rfl⟩
 obtain ⟨s2,bT⟩:∃ s2,s2 = s1.set n (.ins "Packing" [("by_degree",.bl d),("many",.int (au:Int))]):=⟨_,rfl⟩
 obtain ⟨s3,iU⟩:∃ s3,s3 = s2.set n (.ins "Packing" [("by_degree",.bl d),("many",.int (au:Int)),("width",.int (w:Int))]):=⟨_,rfl⟩
 have n1:s1[n]? = some (.ins "Packing" [("by_degree",.bl d)]):=by rw [c5]; exact List.getElem?_set_self ln
 have n2:s2[n]? = some (.ins "Packing" [("by_degree",.bl d),("many",.int (au:Int))]):=by rw [bT]; exact List.getElem?_set_self (b9 n1)
 have n3:s3[n]? = some (.ins "Packing" [("by_degree",.bl d),("many",.int (au:Int)),("width",.int (w:Int))]):=by rw [iU]; exact List.getElem?_set_self (b9 n2)
 have f1:fc ["Packing"] "by_degree" (ae 0) (ah gR (ae 1) (mC (.str "deg"))) μ s = .nx μ s1:=by
  have e:ah gR (ae 1) (mC (.str "deg")) μ s = .ok (.bl d) s:=by
   rw [ay (x:=.str (bK d)) (y:=.str "deg") (s1:=s) (s2:=s) (by rw [hμ]; rfl) rfl,Je]
   cases d with
   | true => rw [show (bK true == "deg") = true from CK]
   | false => rw [show (bK false == "deg") = false from CL]
  rw [gE e (v0 s) hn (by decide),c5]
  rfl
 have f2:fc ["Packing"] "many" (ae 0) (ae 2) μ s1 = .nx μ s2:=by
  rw [gE (v:=.int (au:Int)) (s1:=s1) (by rw [hμ]; rfl) (v0 s1) n1 (by show 1 < 1000; decide),bT]
  rfl
 have f3:fc ["Packing"] "width" (ae 0) (ah bV (uM (ae 3)) (mC (.int 40))) μ s2 = .nx μ s3:=by
  have e:ah bV (uM (ae 3)) (mC (.int 40)) μ s2 = .ok (.int (w:Int)) s2:=by
   rw [ay (x:=.int ((Builtin.Int.intBits (h:Int):Nat):Int)) (s1:=s2) (by rw [hμ]; rfl) (y:=.int 40) (s2:=s2) rfl,hw]
   rfl
  rw [gE e (v0 s2) n2 (by show 2 < 1000; decide),iU]
  rfl
 obtain ⟨gs,hg,_⟩:=u! (s:=s3) (w:=w) n3 (by rfl) (by lia) (by lia) 0 au none [] (by lia)
 obtain ⟨s4,iV⟩:∃ s4,s4 = s3 ++ [aT.lst (nV gs)]:=⟨_,rfl⟩
 have n4:s4[n]? = some (.ins "Packing" [("by_degree",.bl d),("many",.int (au:Int)),("width",.int (w:Int))]):=by rw [iV]; exact dY n3 _
 have cp:ao pw (aa (bG 1 [0] (cD (aa (ae 2) ak)) (aw 0) aL (ah jm (mC (.int 1)) (ah eV (ah bV (ah cF (bh ["Packing"] "width" (ae 1)) (ae 0)) (bh ["Packing"] "width" (ae 1))) (mC (.int 1))))) ak) μ s3 = .ok (.int ((gs.sum:Nat):Int)) s4:=by
  have c:bG 1 [0] (cD (aa (ae 2) ak)) (aw 0) aL (ah jm (mC (.int 1)) (ah eV (ah bV (ah cF (bh ["Packing"] "width" (ae 1)) (ae 0)) (bh ["Packing"] "width" (ae 1))) (mC (.int 1)))) μ s3 = .ok (.loc s3.length) s4:=by
   rw [cO,iT (j:=(au:Int)) (s1:=s3) (by rw [hμ]; rfl) (by lia) (by lia),aq,dX,Int.toNat_natCast,g8,if_pos (by rw [List.length_map,List.length_range',sizeLine_eq]; lia)]
   have cm:e8 1 [0] μ = [none,some (.loc n)]:=by rw [hμ]; rfl
   have kA:=hg
   rw [show nV [] = ([]:List ai) from rfl] at kA
   rw [cm,kA,aq,iV]
   rfl
  rw [ax (br c),u9 (.inr ⟨_,rfl,by rw [iV]; exact aQ s3 _⟩)]
 have f4:=gE (f:="guards") cp (v0 s4) n4 (by show 3 < 1000; decide)
 refine ⟨w,gs.sum,_,?_,by lia,by lia,List.getElem?_set_self (b9 n4),?_,?_⟩
 ·unfold PM.cG
  rw [a! (np:=4) (us:=[ai.loc n,.str (bK d),.int (au:Int),.int (h:Int)]) rfl]
  show (az _ (az _ (az _ _)) [some (.loc n),some (.str (bK d)),some (.int (au:Int)),some (.int (h:Int))] s).fin = _
  rw [← hμ,aA,f1,aB,aA,f2,aB,aA,f3,aB,f4]
  rfl
 ·rw [List.length_set,iV,List.length_append,iU,List.length_set,bT,List.length_set,c5,List.length_set]; lia
 ·intro m c ne e
  have ne':n ≠ m:=fun z => ne z.symm
  refine bj ?_ ne'
  rw [iV]
  refine dY ?_ _
  rw [iU,bT,c5]
  exact bj (bj (bj e ne') ne') ne'
end PG
namespace PG
open PySem PySem.Spec L2 MN
open PyProof.Rows hiding St kindOf
noncomputable abbrev ju:=Nat × List Nat × Int
noncomputable def tN (r:ju):ai:=.tup [.tup (nV r.2.1),.int r.2.2]
noncomputable def my (s:ag) (R:Nat) (rows:List ju):Prop:=aj s R = some (rows.map fun r => ai.loc r.1) ∧ ∀ r ∈ rows,s[r.1]? = some (.lst [tN r])
noncomputable def GoodR (p:Int) (au:Nat) (rows:List ju):Prop:=∀ r ∈ rows,r.2.1.length = au ∧ (∀ e ∈ r.2.1,e < 2 ^ 20) ∧ 1 ≤ r.2.2 ∧ r.2.2 < p
theorem eJ {s:ag} {n:Nat} {us:List ai} (h:aj s n = some us):∃ c,s[n]? = some c ∧ ∀ s':ag,s'[n]? = some c → aj s' n = some us:=by
 unfold aj at h
 cases z:s[n]? with
 | none => rw [z] at h; cases h
 | some c =>
  rw [z] at h
  exact ⟨c,rfl,fun s' e => by unfold aj; rw [e]; exact h⟩
theorem Xt.items {s s':ag} (x:Xt s s') {n:Nat} {us:List ai} (h:aj s n = some us):aj s' n = some us:=by
 obtain ⟨c,h1,h2⟩:=eJ h
 exact h2 s' (x.2 _ _ h1)
theorem Xt.rows {s s':ag} (x:Xt s s') {R:Nat} {rows:List ju} (h:my s R rows):my s' R rows:=⟨x.items h.1,fun r m => x.2 _ _ (h.2 r m)⟩
theorem mz {s:ag} {n:Nat} {us:List ai} (h:aj s n = some us):n < s.length:=by
 obtain ⟨c,h1,_⟩:=eJ h
 exact b9 h1
theorem u? {R F:Nat} {us:List ai} {x0 x4:Option ai}:∀ (rows:List ju) (s1:ag) (ts:List ai) (y:Option ai),aj s1 R = some us → R ≠ F → (∀ r ∈ rows,s1[r.1]? = some (.lst [tN r]) ∧ r.1 ≠ F) → s1[F]? = some (.lst ts) → ts.length + rows.length ≤ 1000 →
  ∃ y',forL (fun av => aj av R = some us) (aw 3) (bg (ik gw (ae 2) (aa (ae 3) ak))) (rows.map fun r => ai.loc r.1) [x0,some (.loc R),some (.loc F),y,x4] s1 = .nx [x0,some (.loc R),some (.loc F),y',x4] (s1.set F (.lst (ts ++ rows.map tN)))
 | [],s1,ts,y,hi,_,_,hF,_ => ⟨y,by
  show forL _ _ _ [] _ s1 = _
  unfold forL
  rw [if_pos hi,List.map_nil,List.append_nil]
  have:s1.set F (.lst ts) = s1:=by
   refine List.ext_getElem? fun i => ?_
   by_cases z:i = F
   ·rw [z,List.getElem?_set_self (b9 hF),hF]
   ·rw [List.getElem?_set_ne (fun y => z y.symm)]
  rw [this]⟩
 | r :: rows,s1,ts,y,hi,nR,hr,hF,hl => by
  rw [List.length_cons] at hl
  obtain ⟨h1,h2⟩:=hr r List.mem_cons_self
  obtain ⟨s2,bT⟩:∃ s2,s2 = s1.set F (.lst (ts ++ [tN r])):=⟨_,rfl⟩
  obtain ⟨c,hc,ba⟩:=eJ hi
  have Pr:aj s2 R = some us:=ba s2 (by rw [bT]; exact bj hc (fun z => nR z.symm))
  obtain ⟨y',f⟩:=u? (x0:=x0) (x4:=x4) rows s2 (ts ++ [tN r]) (some (.loc r.1)) Pr nR (fun q m => ⟨by rw [bT]; exact bj (hr q (List.mem_cons_of_mem _ m)).1 (fun z => (hr q (List.mem_cons_of_mem _ m)).2 z.symm),(hr q (List.mem_cons_of_mem _ m)).2⟩) (by rw [bT]; exact List.getElem?_set_self (b9 hF)) (by rw [List.length_append]; show ts.length + 1 + rows.length ≤ 1000; lia)
  refine ⟨y',?_⟩
  have b:bg (ik gw (ae 2) (aa (ae 3) ak)) [x0,some (.loc R),some (.loc F),some (.loc r.1),x4] s1 = .nx [x0,some (.loc R),some (.loc F),some (.loc r.1),x4] s2:=by
   refine d0 (v:=.bE) ?_
   rw [zC,show ae 2 [x0,some (.loc R),some (.loc F),some (.loc r.1),x4] s1 = .ok (.loc F) s1 from rfl,aq,DM hF,br (v:=.loc r.1) (s1:=s1) rfl,aq,DN]
   show (match s1[F]?,s1[r.1]? with | some (.lst us),some (.lst ws) => if us.length + ws.length ≤ sizeLine then bH.ok ai.bE (s1.set F (.lst (us ++ ws))) else .bad | _,_ => .bad) = _
   rw [hF,h1]
   dsimp only
   rw [if_pos (by show ts.length + 1 ≤ _; rw [sizeLine_eq]; lia),bT]
  rw [List.map_cons,List.map_cons]
  unfold forL
  rw [if_pos hi]
  show (match bg (ik gw (ae 2) (aa (ae 3) ak)) [x0,some (.loc R),some (.loc F),some (.loc r.1),x4] s1 with
   | .nx μ' av => forL _ _ _ _ μ' av | .ct μ' av => forL _ _ _ _ μ' av | .bk μ' av => .nx μ' av | .rt v av => .rt v av | .er c μ' av => .er c μ' av | .bad => .bad) = _
  rw [b]
  dsimp only
  rw [f,bT,List.set_set,List.append_assoc]
  rfl
theorem rg (f:Nat → Int):∀ j,∃ i,i ≤ j ∧ SO.fW f j = f i
 | 0 => ⟨0,Nat.le_refl _,rfl⟩
 | j + 1 => by
  unfold SO.fW
  by_cases h:f (j + 1) > SO.fW f j
  ·rw [if_pos h]; exact ⟨j + 1,Nat.le_refl _,rfl⟩
  ·rw [if_neg h]
   obtain ⟨i,h1,h2⟩:=rg f j
   exact ⟨i,by lia,h2⟩
theorem CS {es:List Nat} {st:ag} (h:es ≠ []) (hb:∀ e ∈ es,e < 2 ^ 20):∃ m:Nat,jn [.tup (nV es)] st = .ok (.int (m:Int)) st ∧ m < 2 ^ 20:=by
 cases es with
 | nil => exact absurd rfl h
 | cons e es =>
  obtain ⟨i,h1,h2⟩:=rg (fun i => (((e :: es).map fun (e:Nat) => (e:Int))).getD i 0) es.length
  have li:i < (e :: es).length:=by rw [List.length_cons]; lia
  refine ⟨(e :: es)[i],?_,hb _ (List.getElem_mem _)⟩
  show (match gL (nV (e :: es)) with | some (n :: ns) => bH.ok (ai.int (SO.fW (fun i => (n :: ns).getD i 0) ns.length)) st | _ => .bad) = _
  rw [jt,lY,List.map_cons]
  dsimp only
  rw [List.length_map]
  rw [List.map_cons] at h2
  rw [h2,← List.map_cons,List.getD_eq_getElem?_getD,List.getElem?_map,List.getElem?_eq_getElem li]
  rfl
theorem vc {s:ag} {gd:ag → Prop} (hg:gd s):∀ (rows:List ju) (x y:Option ai) (ys:List Nat),(∀ r ∈ rows,r.2.1 ≠ [] ∧ ∀ e ∈ r.2.1,e < 2 ^ 20) → (∀ e ∈ ys,e < 2 ^ 20) →
  ∃ ms:List Nat,a7 gd (eY [aw 0,aw 1]) aL (ao jn (aa (ae 0) ak)) (rows.map tN) [x,y] s (nV ys) = .ok (nV ms) s ∧ ∀ e ∈ ms,e < 2 ^ 20
 | [],x,y,ys,_,hy => ⟨ys,by show a7 _ _ _ _ [] _ s _ = _; rw [bP hg],hy⟩
 | r :: rows,x,y,ys,hr,hy => by
  obtain ⟨m,h1,h2⟩:=CS (st:=s) (hr r List.mem_cons_self).1 (hr r List.mem_cons_self).2
  obtain ⟨ms,h3,h4⟩:=vc hg rows (some (.tup (nV r.2.1))) (some (.int r.2.2)) (ys ++ [m]) (fun q m => hr q (List.mem_cons_of_mem _ m)) (fun e me => by
   rcases List.mem_append.mp me with me | me
   ·exact hy e me
   ·rw [List.mem_singleton.mp me]; exact h2)
  refine ⟨ms,?_,h4⟩
  rw [List.map_cons,cI hg (show eY [aw 0,aw 1] (tN r) [x,y] = some [some (.tup (nV r.2.1)),some (.int r.2.2)] from rfl) (show ao jn (aa (ae 0) ak) [some (.tup (nV r.2.1)),some (.int r.2.2)] s = .ok (.int (m:Int)) s by rw [ax (br (v:=.tup (nV r.2.1)) (s1:=s) rfl),h1])]
  have:nV ys ++ [.int (m:Int)] = nV (ys ++ [m]):=by unfold nV; rw [List.map_append]; rfl
  rw [this]
  exact h3
theorem mB:∀ (ms:List Nat) (m:Nat),∃ k:Nat,SO.ti (m:Int) (ms.map fun (e:Nat) => (e:Int)) = (k:Int) ∧ (k = m ∨ k ∈ ms)
 | [],m => ⟨m,rfl,.inl rfl⟩
 | x :: ms,m => by
  rw [List.map_cons]
  show ∃ k:Nat,SO.ti (if (x:Int) > (m:Int) then (x:Int) else (m:Int)) _ = _ ∧ _
  by_cases h:(x:Int) > (m:Int)
  ·rw [if_pos h]
   obtain ⟨k,h1,h2⟩:=mB ms x
   exact ⟨k,h1,.inr (by rcases h2 with rfl | h2; exact List.mem_cons_self; exact List.mem_cons_of_mem _ h2)⟩
  ·rw [if_neg h]
   obtain ⟨k,h1,h2⟩:=mB ms m
   exact ⟨k,h1,by rcases h2 with rfl | h2; exact .inl rfl; exact .inr (List.mem_cons_of_mem _ h2)⟩
theorem maxD_mem {ms:List Nat} (h:∀ e ∈ ms,e < 2 ^ 20):∃ k:Nat,SO.maxD 0 (ms.map fun (e:Nat) => (e:Int)) = (k:Int) ∧ k < 2 ^ 20:=by
 cases ms with
 | nil => exact ⟨0,rfl,by decide⟩
 | cons m ms =>
  obtain ⟨k,h1,h2⟩:=mB ms m
  refine ⟨k,h1,?_⟩
  rcases h2 with rfl | h2
  ·exact h _ List.mem_cons_self
  ·exact h _ (List.mem_cons_of_mem _ h2)
theorem mD {s:ag} {R au:Nat} {rows:List ju} {p:Int} {d:Bool} (h:my s R rows) (G:GoodR p au rows) (m1:1 ≤ au) (hm:au ≤ 8) (hl:rows.length ≤ 100) :
  ∃ (n dS w g:Nat) (s':ag),PM.dA [.str (bK d),.loc R] s = .ok (.loc n) s' ∧ Xt s s' ∧ Pk s' n d dS w g ∧ 40 ≤ w ∧ w < 64 ∧ dS ≤ 8:=by
 obtain ⟨F,hF⟩:∃ F,F = s.length:=⟨_,rfl⟩
 obtain ⟨s1,c5⟩:∃ s1,s1 = s ++ [aT.lst []]:=⟨_,rfl⟩
 have x1:Xt s s1:=by rw [c5]; exact Xt.app _
 have nR:R ≠ F:=by have:=mz h.1; lia
 have aF:s1[F]? = some (.lst []):=by rw [c5,hF]; exact zD s _
 have h1:=x1.rows h
 obtain ⟨y,f2⟩:=u? (x0:=some (.str (bK d))) (x4:=none) rows s1 [] none h1.1 nR (fun r m => ⟨h1.2 r m,by have:=b9 (h.2 r m); lia⟩) aF (by rw [List.length_nil]; lia)
 obtain ⟨s2,bT⟩:∃ s2,s2 = s1.set F (.lst ([] ++ rows.map tN)):=⟨_,rfl⟩
 rw [← bT] at f2
 have Pt:s2[F]? = some (.lst (rows.map tN)):=by rw [bT]; exact List.getElem?_set_self (b9 aF)
 have x2:Xt s s2:=by rw [bT]; exact x1.set (by lia)
 have iF:=b_ Pt
 obtain ⟨dS,f3,l3⟩:∃ dS:Nat,Bx (cA (ah Dv (ao cT (aa (ae 2) ak)) (mC (.int 0)))) (ao cT (aa (ah bR (ah bR (ae 2) (mC (.int 0))) (mC (.int 0))) ak)) (mC (.int 1)) [some (.str (bK d)),some (.loc R),some (.loc F),y,none] s2 = .ok (.int (dS:Int)) s2 ∧ dS ≤ 8:=by
  have t:cA (ah Dv (ao cT (aa (ae 2) ak)) (mC (.int 0))) [some (.str (bK d)),some (.loc R),some (.loc F),y,none] s2 = .ok (decide ((0:Int) < ((rows.map tN).length:Int))) s2:=by
   refine bJ ?_
   rw [ay (x:=.int ((rows.map tN).length:Int)) (s1:=s2) (by rw [ax (br (v:=.loc F) (s1:=s2) rfl),c8 iF]) (y:=.int 0) (s2:=s2) rfl]
   rfl
  cases rows with
  | nil => exact ⟨1,by rw [lU,t]; rfl,by decide⟩
  | cons r rows =>
   have gr:=G r List.mem_cons_self
   refine ⟨au,?_,hm⟩
   rw [lU,t,decide_eq_true (by rw [List.map_cons,List.length_cons]; lia),aq,kS]
   have e0:ah bR (ah bR (ae 2) (mC (.int 0))) (mC (.int 0)) [some (.str (bK d)),some (.loc R),some (.loc F),y,none] s2 = .ok (.tup (nV r.2.1)) s2:=by
    rw [ay (x:=tN r) (s1:=s2) (by rw [ay (x:=.loc F) (s1:=s2) rfl (y:=.int 0) (s2:=s2) rfl]; exact iS iF (fq (j:=0) rfl)) (y:=.int 0) (s2:=s2) rfl]
    rfl
   rw [ax (br e0)]
   show bH.ok (ai.int ((nV r.2.1).length:Int)) s2 = _
   unfold nV
   rw [List.length_map,gr.1]
 obtain ⟨μ,hμ⟩:∃ μ:MN.Env,μ = [some (.str (bK d)),some (.loc R),some (.loc F),y,some (.int (dS:Int))]:=⟨_,rfl⟩
 obtain ⟨ms,c1,c2⟩:=vc (s:=s2) (gd:=fun av => aj av F = some (rows.map tN)) iF rows none none [] (fun r m => ⟨fun z => by have:=(G r m).1; rw [z] at this; simp at this; lia,(G r m).2.1⟩) (fun e m => by cases m)
 obtain ⟨s3,iU⟩:∃ s3,s3 = s2 ++ [aT.lst (nV ms)]:=⟨_,rfl⟩
 obtain ⟨hh,k1,k2⟩:=maxD_mem c2
 have mx:uW (bG 2 [] (d_ (ae 2)) (eY [(aw 0),(aw 1)]) aL (ao jn (aa (ae 0) ak))) (mC (.int 0)) μ s2 = .ok (.int (hh:Int)) s3:=by
  have c:bG 2 [] (d_ (ae 2)) (eY [(aw 0),(aw 1)]) aL (ao jn (aa (ae 0) ak)) μ s2 = .ok (.loc s2.length) s3:=by
   rw [cO,c7,show ae 2 μ s2 = .ok (.loc F) s2 by rw [hμ]; rfl,aq,cR iF,aq,dX,if_pos (by rw [List.length_map,sizeLine_eq]; lia)]
   have cm:e8 2 [] μ = [none,none]:=rfl
   rw [show nV [] = ([]:List ai) from rfl] at c1
   rw [cm,c1,aq,iU]
   rfl
  unfold uW
  rw [c]
  show zH (.loc s2.length) (.int 0) s3 = _
  rw [Cf (ns:=ms.map fun (e:Nat) => (e:Int)) (by rw [← jt,iU]; exact aQ s2 _),k1]
 have x3:Xt s s3:=by rw [iU]; exact x2.trans (Xt.app _)
 obtain ⟨w,g,s4,i1,i2,i3,i4,i5⟩:=CQ (s:=s3 ++ [.ins "Packing" []]) (n:=s3.length) (au:=dS) (h:=hh) (d:=d) (by rw [List.getElem?_append_right (Nat.le_refl _),Nat.sub_self]; rfl) l3 k2
 refine ⟨s3.length,dS,w,g,s4,?_,?_,i4,i2,i3,l3⟩
 ·unfold PM.dA
  rw [a! (np:=2) (us:=[ai.str (bK d),.loc R]) rfl]
  show (az (aM 2 (bF ak)) (az (dD _ _ _) (az (aM 4 _) (aY _))) [some (.str (bK d)),some (.loc R),none,none,none] s).fin = _
  rw [aA,aW (dq (vs:=[]) (s1:=s) rfl (by decide)),aB,← c5,← hF]
  show (az (dD _ _ _) (az (aM 4 _) (aY _)) [some (.str (bK d)),some (.loc R),some (.loc F),none,none] s1).fin = _
  rw [aA,ec,c7,show ae 1 [some (.str (bK d)),some (.loc R),some (.loc F),none,none] s1 = .ok (.loc R) s1 from rfl,aq,cR h1.1,aV,gK,f2,aB,aA,aW f3,aB]
  show (aY _ [some (.str (bK d)),some (.loc R),some (.loc F),y,some (.int (dS:Int))] s2).fin = _
  rw [← hμ,ee (v:=.loc s3.length) (s1:=s4) (Ab (us:=[.str (bK d),.int (dS:Int),.int (hh:Int)]) (s1:=s3) (cb (v:=.str (bK d)) (s1:=s2) (by rw [hμ]; exact cP rfl rfl) (cb (v:=.int (dS:Int)) (s1:=s2) (by rw [hμ]; rfl) (br mx))) i1)]
  rfl
 ·have lx:(s3 ++ [aT.ins "Packing" []]).length = s3.length + 1:=by rw [List.length_append]; rfl
  refine ⟨by have:=x3.1; have:=i5.1; lia,fun n c e => i5.2 n c (fun z => ?_) (dY (x3.2 n c e) _)⟩
  have:=b9 e
  have:=x3.1
  lia
end PG
namespace PG
open PySem PySem.Spec L2 MN
open PyProof.Rows hiding St kindOf
theorem fj (s:ag) (c:aT):(s ++ [c])[s.length]? = some c:=by rw [List.getElem?_append_right (Nat.le_refl _),Nat.sub_self]; rfl
theorem rh {s:ag} {n q:Nat} {b:Bool} {au w g:Nat} {r:ju} (P:Pk s n b au w g) (hw:w ≤ 64) (hq:s[q]? = some (.lst [tN r])) (he:∀ e ∈ r.2.1,e < 2 ^ 64) (hl:r.2.1.length ≤ 8) :
  ∃ (k d:Nat) (s':ag),PM.bZ [.loc n,.loc q] s = .ok (.loc d) s' ∧ Xt s s' ∧ s.length ≤ d ∧ s'[d]? = some (.dK [(.inl (k:Int),.int r.2.2)]):=by
 obtain ⟨k,hk,_⟩:=oB (v:=.tup (nV r.2.1)) P hw (.inl rfl) he hl
 obtain ⟨s1,c5⟩:∃ s1,s1 = s ++ [aT.lst [.tup [.int (k:Int),.int r.2.2]]]:=⟨_,rfl⟩
 refine ⟨k,s1.length,s1 ++ [.dK [(.inl (k:Int),.int r.2.2)]],?_,(show Xt s s1 by rw [c5]; exact Xt.app _).trans (Xt.app _),by rw [c5,List.length_append]; lia,fj _ _⟩
 have el:d5 (aa (cQ "Packing" "key_of" PM.bw (ae 2) (aa (ae 0) ak)) (aa (ae 1) ak)) [some (.tup (nV r.2.1)),some (.int r.2.2),some (.loc n)] s = .ok (.tup [.int (k:Int),.int r.2.2]) s:=by
  refine jT (dP (s1:=s) ?_ (s2:=s) rfl) (by show 2 ≤ 1000; decide)
  rw [gD (n:=n) (s1:=s) (us:=[.tup (nV r.2.1)]) (s2:=s) rfl P (by rfl) rfl,hk]
 have cp:bG 2 [0] (d_ (ae 1)) (eY [(aw 0),(aw 1)]) aL (d5 (aa (cQ "Packing" "key_of" PM.bw (ae 2) (aa (ae 0) ak)) (aa (ae 1) ak))) [some (.loc n),some (.loc q)] s = .ok (.loc s.length) s1:=by
  rw [cO,c7,show ae 1 [some (.loc n),some (.loc q)] s = .ok (.loc q) s from rfl,aq,cR (b_ hq),aq,dX,if_pos (by show 1 ≤ sizeLine; rw [sizeLine_eq]; lia)]
  have cm:e8 2 [0] [some (ai.loc n),some (.loc q)] = [none,none,some (.loc n)]:=rfl
  rw [cm,cI (g:=fun av => aj av q = some [tN r]) (b_ hq) (show eY [aw 0,aw 1] (tN r) [none,none,some (.loc n)] = some [some (.tup (nV r.2.1)),some (.int r.2.2),some (.loc n)] from rfl) el,bP (g:=fun av => aj av q = some [tN r]) (b_ hq),aq,c5]
  rfl
 unfold PM.bZ
 rw [a! (np:=2) (us:=[ai.loc n,.loc q]) rfl]
 show (aY (ao qO (aa _ ak)) [some (.loc n),some (.loc q)] s).fin = _
 rw [ee (v:=.loc s1.length) (s1:=s1 ++ [.dK [(.inl (k:Int),.int r.2.2)]]) (by
  rw [ax (br cp)]
  show (match aj s1 s.length with | some us => (match ou us with | some l => bH.ok (ai.loc s1.length) (s1 ++ [aT.dK (jl l [])]) | none => bH.bad) | none => bH.bad) = _
  rw [show aj s1 s.length = some [.tup [.int (k:Int),.int r.2.2]] by rw [c5]; exact aQ s _]
  rfl)]
 rfl
noncomputable def Jx (k:Nat) (t:Int) (l:Nat):List (Str × ai):=[("top",.int (k:Int)),("back",.int t),("tail",.loc l)]
noncomputable def Mon (s:ag) (m:Nat):Prop:=∃ (k:Nat) (t:Int) (l:Nat),s[m]? = some (.ins "Monic" (Jx k t l)) ∧ s[l]? = some (.lst [])
theorem ri {s:ag} {m d k:Nat} {p c:Int} (hp:jr p = true) (c1:1 ≤ c) (c2:c < p) (hm:s[m]? = some (.ins "Monic" [])) (hd:s[d]? = some (.dK [(.inl (k:Int),.int c)])) :
  ∃ s',PM.cH [.loc m,.int p,.loc d] s = .ok .bE s' ∧ Mon s' m ∧ s.length ≤ s'.length ∧ ∀ (n:Nat) (x:aT),n ≠ m → n ≠ d → s[n]? = some x → s'[n]? = some x:=by
 obtain ⟨μ,hμ⟩:∃ μ:MN.Env,μ = [some (.loc m),some (.int p),some (.loc d)]:=⟨_,rfl⟩
 have v0:∀ s,ae 0 μ s = .ok (.loc m) s:=fun s => by rw [hμ]; rfl
 have v2:∀ s,ae 2 μ s = .ok (.loc d) s:=fun s => by rw [hμ]; rfl
 have Mn:m ≠ d:=fun z => by rw [z,hd] at hm; cases hm
 obtain ⟨s1,c5⟩:∃ s1,s1 = s.set m (.ins "Monic" [("top",.int (k:Int))]):=⟨_,rfl⟩
 have m1:s1[m]? = some (.ins "Monic" [("top",.int (k:Int))]):=by rw [c5]; exact List.getElem?_set_self (b9 hm)
 have d1:s1[d]? = some (.dK [(.inl (k:Int),.int c)]):=by rw [c5]; exact bj hd Mn
 have f1:fc ["Monic"] "top" (ae 0) (ao tR (aa (ae 2) ak)) μ s = .nx μ s1:=by
  have e:ao tR (aa (ae 2) ak) μ s = .ok (.int (k:Int)) s:=by
   rw [ax (br (v2 s))]
   unfold tR
   dsimp only
   rw [show nq s d = some [(.inl (k:Int),.int c)] by unfold nq; rw [hd]]
   rfl
  rw [gE e (v0 s) hm (by decide),c5]
  rfl
 have nz:¬ c % p = 0:=by
  rw [Int.emod_eq_of_lt (by lia) c2]; lia
 obtain ⟨g,t,e2,_⟩:=pB hp nz s1
 obtain ⟨s2,bT⟩:∃ s2,s2 = s1 ++ g:=⟨_,rfl⟩
 have m2:s2[m]? = some (.ins "Monic" [("top",.int (k:Int))]):=by rw [bT]; exact dY m1 _
 obtain ⟨s3,iU⟩:∃ s3,s3 = s2.set m (.ins "Monic" [("top",.int (k:Int)),("back",.int t)]):=⟨_,rfl⟩
 have m3:s3[m]? = some (.ins "Monic" [("top",.int (k:Int)),("back",.int t)]):=by rw [iU]; exact List.getElem?_set_self (b9 m2)
 have d3:s3[d]? = some (.dK [(.inl (k:Int),.int c)]):=by rw [iU,bT]; exact bj (dY d1 _) Mn
 have f2:fc ["Monic"] "back" (ae 0) (ao PM.inverse (aa (ae 1) (aa (ah kh (ae 2) (bh ["Monic"] "top" (ae 0))) ak))) μ s1 = .nx μ s3:=by
  have e0:ah kh (ae 2) (bh ["Monic"] "top" (ae 0)) μ s1 = .ok (.int c) s1:=by
   rw [ay (v2 s1) (dc (v:=.int (k:Int)) (v0 s1) m1 (by rfl))]
   unfold kh
   have:qw s1 (.loc d) (.int (k:Int)) = some (some (.int c)):=by
    unfold qw
    dsimp only
    rw [d1]
    show some (o7 [((Sum.inl (k:Int):cq),ai.int c)] (Sum.inl (k:Int))) = _
    unfold o7
    simp
   rw [this]
  have e:ao PM.inverse (aa (ae 1) (aa (ah kh (ae 2) (bh ["Monic"] "top" (ae 0))) ak)) μ s1 = .ok (.int t) s2:=by
   rw [ax (dP (v:=.int p) (s1:=s1) (by rw [hμ]; rfl) e0),e2,bT]
  rw [gE e (v0 s2) m2 (by show 1 < 1000; decide),iU]
  rfl
 obtain ⟨s4,iV⟩:∃ s4,s4 = s3.set d (.fd [(.inl (k:Int),.int c)]):=⟨_,rfl⟩
 have d4:s4[d]? = some (.fd [(.inl (k:Int),.int c)]):=by rw [iV]; exact List.getElem?_set_self (b9 d3)
 have m4:s4[m]? = some (.ins "Monic" [("top",.int (k:Int)),("back",.int t)]):=by rw [iV]; exact bj m3 (fun z => Mn z.symm)
 obtain ⟨s5,tY⟩:∃ s5,s5 = s4 ++ [aT.lst []]:=⟨_,rfl⟩
 have m5:s5[m]? = some (.ins "Monic" [("top",.int (k:Int)),("back",.int t)]):=by rw [tY]; exact dY m4 _
 have cp:bG 2 [1,0] (fO (ae 2)) (eY [(aw 0),(aw 1)]) (cA (ah ij (ae 0) (bh ["Monic"] "top" (ae 3)))) (d5 (aa (ae 0) (aa (ah cg (ah cF (ae 1) (bh ["Monic"] "back" (ae 3))) (ae 2)) ak))) μ s3 = .ok (.loc s4.length) s5:=by
  have it:fO (ae 2) μ s3 = .ok (nr d [(.inl (k:Int),.int c)]) s4:=by
   unfold fO
   rw [v2]
   show (match s3[d]? with | some (.dK aD) => bH.ok (nr d aD) (s3.set d (.fd aD)) | some (.fd aD) => .ok (nr d aD) s3 | _ => .bad) = _
   rw [d3,iV]
  rw [cO,it,aq]
  show (if (1:Nat) ≤ sizeLine then (a7 (fun st2 => st2[d]? = some (.fd [(.inl (k:Int),.int c)])) (eY [(aw 0),(aw 1)]) (cA (ah ij (ae 0) (bh ["Monic"] "top" (ae 3)))) _ [.tup [.int (k:Int),.int c]] (e8 2 [1,0] μ) s4 []).fi o? else .bad) = _
  rw [if_pos (by rw [sizeLine_eq]; lia)]
  have cm:e8 2 [1,0] μ = [none,none,some (.int p),some (.loc m)]:=by rw [hμ]; rfl
  have t0:cA (ah ij (ae 0) (bh ["Monic"] "top" (ae 3))) [some (.int (k:Int)),some (.int c),some (.int p),some (.loc m)] s4 = .ok false s4:=by
   refine bJ ?_
   rw [ay (x:=.int (k:Int)) (s1:=s4) rfl (dc (v:=.int (k:Int)) (n:=m) (s1:=s4) rfl m4 (by rfl)),qE]
   simp
  rw [cm]
  unfold a7
  rw [if_pos d4]
  show (match cA (ah ij (ae 0) (bh ["Monic"] "top" (ae 3))) [some (.int (k:Int)),some (.int c),some (.int p),some (.loc m)] s4 with
   | .ok true aN => _ | .ok false aN => a7 _ _ _ _ [] [some (.int (k:Int)),some (.int c),some (.int p),some (.loc m)] aN [] | .err _ _ => .bad | .bad => .bad).fi o? = _
  rw [t0]
  show (a7 _ _ _ _ [] _ s4 []).fi o? = _
  rw [bP d4,aq,tY]
  rfl
 have f3:=gE (f:="tail") cp (v0 s5) m5 (by show 2 < 1000; decide)
 refine ⟨_,?_,⟨k,t,s4.length,List.getElem?_set_self (b9 m5),?_⟩,?_,fun n x h1 h2 e => ?_⟩
 ·unfold PM.cH
  rw [a! (np:=3) (us:=[ai.loc m,.int p,.loc d]) rfl]
  show (az _ (az _ _) [some (.loc m),some (.int p),some (.loc d)] s).fin = _
  rw [← hμ,aA,f1,aB,aA,f2,aB,f3]
  rfl
 ·refine bj (by rw [tY]; exact zD s4 _) (fun z => ?_)
  have:=b9 m4
  lia
 ·rw [List.length_set,tY,List.length_append,iV,List.length_set,iU,List.length_set,bT,List.length_append,c5,List.length_set]; lia
 ·have n1:m ≠ n:=fun z => h1 z.symm
  have n2:d ≠ n:=fun z => h2 z.symm
  refine bj ?_ n1
  rw [tY]
  refine dY ?_ _
  rw [iV,iU,bT,c5]
  exact bj (bj (dY (bj e n1) _) n1) n2
end PG
namespace PG
open PySem PySem.Spec L2 MN
open PyProof.Rows hiding St kindOf
noncomputable def Mo:aT → Prop
 | .dK _ => False
 | .fd _ => False
 | _ => True
noncomputable def ED (s:ag) (z:Nat):Prop:=s[z]? = some (.dK []) ∨ s[z]? = some (.fd [])
structure Xs (f:Nat) (s s':ag):Prop where
 len:s.length ≤ s'.length
 at_:∀ (n:Nat) (c:aT),n ≠ f → Mo c → s[n]? = some c → s'[n]? = some c
 ed:∀ z,z ≠ f → ED s z → ED s' z
structure Xd (s s':ag):Prop where
 len:s.length ≤ s'.length
 at_:∀ (n:Nat) (c:aT),Mo c → s[n]? = some c → s'[n]? = some c
 ed:∀ z,ED s z → ED s' z
theorem Xt.d {s s':ag} (x:Xt s s'):Xd s s':=⟨x.1,fun n c _ e => x.2 n c e,fun z h => h.elim (fun h => .inl (x.2 _ _ h)) fun h => .inr (x.2 _ _ h)⟩
theorem Xd.refl {s:ag}:Xd s s:=⟨Nat.le_refl _,fun _ _ _ e => e,fun _ h => h⟩
theorem Xd.trans {s s1 s2:ag} (a:Xd s s1) (b:Xd s1 s2):Xd s s2:=⟨Nat.le_trans a.len b.len,fun n c h e => b.at_ n c h (a.at_ n c h e),fun z h => b.ed z (a.ed z h)⟩
theorem Xd.s {f:Nat} {s s':ag} (x:Xd s s'):Xs f s s':=⟨x.len,fun n c _ h e => x.at_ n c h e,fun z _ h => x.ed z h⟩
theorem Xs.trans {f:Nat} {s s1 s2:ag} (a:Xs f s s1) (b:Xs f s1 s2):Xs f s s2:=⟨Nat.le_trans a.len b.len,fun n c k h e => b.at_ n c k h (a.at_ n c k h e),fun z k h => b.ed z k (a.ed z k h)⟩
theorem Xs.refl {f:Nat} {s:ag}:Xs f s s:=Xd.refl.s
theorem Xs.set {f:Nat} {s s1:ag} {c:aT} (a:Xs f s s1):Xs f s (s1.set f c):=⟨by rw [List.length_set]; exact a.len,fun n d k h e => bj (a.at_ n d k h e) (fun z => k z.symm),fun z k h => (a.ed z k h).elim (fun h => .inl (bj h (fun y => k y.symm))) fun h => .inr (bj h (fun y => k y.symm))⟩
theorem ED.lt {s:ag} {z:Nat} (h:ED s z):z < s.length:=h.elim (fun h => b9 h) fun h => b9 h
theorem GK {s:ag} {z:Nat} (h:ED s z):Xd s (s.set z (.fd [])):=⟨by rw [List.length_set]; exact Nat.le_refl _,fun n c hc e => bj e (fun y => by
  rw [← y] at e
  rcases h with h | h <;> (rw [h] at e; cases e; exact hc)),fun x hx => by
  by_cases y:x = z
  ·rw [y]; exact .inr (List.getElem?_set_self h.lt)
  ·exact hx.elim (fun h => .inl (bj h (fun q => y q.symm))) fun h => .inr (bj h (fun q => y q.symm))⟩
theorem rj {s:ag} {n:Nat} {us:List ai} (h:aj s n = some us):∃ c,s[n]? = some c ∧ Mo c ∧ ∀ s':ag,s'[n]? = some c → aj s' n = some us:=by
 obtain ⟨c,h1,h2⟩:=eJ h
 refine ⟨c,h1,?_,h2⟩
 unfold aj at h
 rw [h1] at h
 cases c <;> first | exact trivial | cases h
theorem Xs.items {f:Nat} {s s':ag} (x:Xs f s s') {n:Nat} {us:List ai} (hn:n ≠ f) (h:aj s n = some us):aj s' n = some us:=by
 obtain ⟨c,h1,h2,h3⟩:=rj h
 exact h3 s' (x.at_ _ _ hn h2 h1)
theorem Xd.items {s s':ag} (x:Xd s s') {n:Nat} {us:List ai} (h:aj s n = some us):aj s' n = some us:=by
 obtain ⟨c,h1,h2,h3⟩:=rj h
 exact h3 s' (x.at_ _ _ h2 h1)
theorem Mon.to {s s':ag} {m:Nat} (h:Mon s m) (x:Xd s s'):Mon s' m:=by
 obtain ⟨k,t,l,h1,h2⟩:=h
 exact ⟨k,t,l,x.at_ _ _ trivial h1,x.at_ _ _ trivial h2⟩
theorem Pk.to {s s':ag} {n:Nat} {b:Bool} {au w g:Nat} (h:Pk s n b au w g) (x:Xd s s'):Pk s' n b au w g:=x.at_ _ _ trivial h
noncomputable def lV (l:List Nat):List ai:=l.map ai.loc
noncomputable abbrev Kl:ME:=qJ "Monic" PM.cH (aa (ae 2) (aa (cQ "Packing" "terms_of" PM.bZ (ae 1) (aa (ae 0) ak)) ak))
theorem CT {s:ag} {n:Nat} {b:Bool} {au dS w g:Nat} {p:Int} {r:ju} (hp:jr p = true) (P:Pk s n b dS w g) (hw:w ≤ 64) (hq:s[r.1]? = some (.lst [tN r])) (gr:r.2.1.length = au ∧ (∀ e ∈ r.2.1,e < 2 ^ 20) ∧ 1 ≤ r.2.2 ∧ r.2.2 < p) (hm:au ≤ 8) :
  ∃ (m:Nat) (s':ag),Kl [some (.loc r.1),some (.loc n),some (.int p)] s = .ok (.loc m) s' ∧ Xt s s' ∧ Mon s' m:=by
 obtain ⟨k,d,s1,e1,x1,ld,hd⟩:=rh P hw hq (fun e m => by have:=gr.2.1 e m; lia) (by lia)
 obtain ⟨s2,bT⟩:∃ s2,s2 = s1 ++ [aT.ins "Monic" []]:=⟨_,rfl⟩
 obtain ⟨s3,e3,m3,l3,k3⟩:=ri (s:=s2) (m:=s1.length) (d:=d) (k:=k) (c:=r.2.2) hp gr.2.2.1 gr.2.2.2 (by rw [bT]; exact fj _ _) (by rw [bT]; exact dY hd _)
 refine ⟨s1.length,s3,?_,⟨by have:=x1.1; rw [bT,List.length_append] at l3; lia,fun i c e => k3 i c ?_ ?_ (by rw [bT]; exact dY (x1.2 i c e) _)⟩,m3⟩
 ·refine Ab (us:=[.int p,.loc d]) (s1:=s1) (dP (v:=.int p) (s1:=s) rfl ?_) (by rw [← bT]; exact e3)
  rw [gD (n:=n) (s1:=s) (us:=[.loc r.1]) (s2:=s) rfl P (by rfl) rfl,e1]
 ·have:=b9 e
  have:=x1.1
  lia
 ·have:=b9 e
  lia
theorem vd {R n:Nat} {us:List ai} {b:Bool} {au dS w g:Nat} {p:Int} (hp:jr p = true) (hw:w ≤ 64) (hm:au ≤ 8):∀ (rows:List ju) (s:ag) (ms:List Nat) (x:Option ai),aj s R = some us → Pk s n b dS w g → (∀ r ∈ rows,s[r.1]? = some (.lst [tN r])) → GoodR p au rows → (∀ m ∈ ms,Mon s m) →
  ∃ (Jy:List Nat) (s':ag),a7 (fun av => aj av R = some us) (aw 0) aL Kl (rows.map fun r => ai.loc r.1) [x,some (.loc n),some (.int p)] s (lV ms) = .ok (lV Jy) s' ∧ Jy.length = ms.length + rows.length ∧ Xt s s' ∧ ∀ m ∈ Jy,Mon s' m
 | [],s,ms,x,hR,_,_,_,hM => ⟨ms,s,by show a7 _ _ _ _ [] _ s _ = _; rw [bP (g:=fun av => aj av R = some us) hR],rfl,Xt.refl,hM⟩
 | r :: rows,s,ms,x,hR,P,hr,G,hM => by
  obtain ⟨m,s1,e1,x1,m1⟩:=CT hp P hw (hr r List.mem_cons_self) (G r List.mem_cons_self) hm
  obtain ⟨Jy,s2,e2,l2,x2,m2⟩:=vd hp hw hm rows s1 (ms ++ [m]) (some (.loc r.1)) (x1.items hR) (P.to x1.d) (fun q h => x1.2 _ _ (hr q (List.mem_cons_of_mem _ h))) (fun q h => G q (List.mem_cons_of_mem _ h)) (fun q h => by
   rcases List.mem_append.mp h with h | h
   ·exact (hM q h).to x1.d
   ·rw [List.mem_singleton.mp h]; exact m1)
  refine ⟨Jy,s2,?_,by rw [l2]; simp only [List.length_append,List.length_cons,List.length_nil]; lia,x1.trans x2,m2⟩
  rw [List.map_cons,cI (g:=fun av => aj av R = some us) hR (show aw 0 (.loc r.1) [x,some (.loc n),some (.int p)] = some [some (.loc r.1),some (.loc n),some (.int p)] from rfl) e1]
  have:lV ms ++ [.loc m] = lV (ms ++ [m]):=by unfold lV; rw [List.map_append]; rfl
  rw [this]
  exact e2
theorem Ad {t:MT} {B:MB} {μ:MN.Env} {s s1:ag} (h:t μ s = .ok false s1):fK t B μ s = .nx μ s1:=by
 have w1:c_ t B 1 μ s = some (.nx μ s1):=by unfold c_; rw [h]
 have e:∃ n r,c_ t B n μ s = some r:=⟨1,_,w1⟩
 unfold fK
 rw [dif_pos e]
 exact fA e.choose_spec.choose_spec w1
theorem fZ {s:ag} {l:Nat} {a b c d:ai} (h:aj s l = some []) (ha:ja a = false):PM.cz [a,b,.loc l,c,d] s = .ok .bE s:=by
 unfold PM.cz
 rw [a! (np:=5) (us:=[a,b,.loc l,c,d]) rfl]
 show (dD (d_ (ae 2)) _ zK [some a,some b,some (.loc l),some c,some d,none,none,none,none] s).fin = _
 rw [ec,c7,show ae 2 [some a,some b,some (.loc l),some c,some d,none,none,none,none] s = .ok (.loc l) s from rfl,aq,cR h,aV,gK]
 unfold forL
 rw [if_pos h]
 rfl
theorem ny {s:ag} {z:Nat} {a b c d:ai} (h:ED s z):PM.eH [a,b,.loc z,c,d] s = .ok .bE s:=by
 unfold PM.eH
 rw [a! (np:=5) (us:=[a,b,.loc z,c,d]) rfl]
 show (fK _ zK [some a,some b,some (.loc z),some c,some d,none,none,none,none] s).fin = _
 have dk:nq s z = some []:=by rcases h with h | h <;> (unfold nq; rw [h])
 rw [Ad (s1:=s) (bJ (c:=false) (by
  rw [ay (x:=.int 0) (s1:=s) (by rw [ax (br (v:=.loc z) (s1:=s) rfl)]; unfold qT; dsimp only; rw [dk]; rfl) (y:=.int 0) (s2:=s) rfl]
  rfl))]
 rfl
theorem Ae {M:Nat} {us:List ai}:∀ (vs:List ai) (s:ag) (zs:List Nat) (x:Option ai),aj s M = some us → (∀ z ∈ zs,ED s z) →
  ∃ (Af:List Nat) (s':ag),a7 (fun av => aj av M = some us) (aw 0) aL gX vs [x] s (lV zs) = .ok (lV Af) s' ∧ Af.length = zs.length + vs.length ∧ Xt s s' ∧ ∀ z ∈ Af,ED s' z
 | [],s,zs,x,h,hz => ⟨zs,s,by rw [bP (g:=fun av => aj av M = some us) h],rfl,Xt.refl,hz⟩
 | v :: vs,s,zs,x,h,hz => by
  obtain ⟨s1,c5⟩:∃ s1,s1 = s ++ [aT.dK []]:=⟨_,rfl⟩
  have x1:Xt s s1:=by rw [c5]; exact Xt.app _
  obtain ⟨Af,s2,e2,l2,x2,z2⟩:=Ae vs s1 (zs ++ [s.length]) (some v) (x1.items h) (fun z m => by
   rcases List.mem_append.mp m with m | m
   ·exact x1.d.ed z (hz z m)
   ·rw [List.mem_singleton.mp m,c5]; exact .inl (fj _ _))
  refine ⟨Af,s2,?_,by rw [l2]; simp only [List.length_append,List.length_cons,List.length_nil]; lia,x1.trans x2,z2⟩
  rw [cI (g:=fun av => aj av M = some us) h (show aw 0 v [x] = some [some v] from rfl) (show gX [some v] s = .ok (.loc s.length) s1 by rw [c5]; rfl)]
  have:lV zs ++ [.loc s.length] = lV (zs ++ [s.length]):=by unfold lV; rw [List.map_append]; rfl
  rw [this]
  exact e2
theorem Jz {s:ag} {n M i j:Nat} {b:Bool} {au w g:Nat} {p:Int} {ms:List Nat} (P:Pk s n b au w g) (hw:w < 64) (hm:au ≤ 8) (hM:aj s M = some (lV ms)) (mo:∀ m ∈ ms,Mon s m) (hi:i < ms.length) (hj:j < ms.length) (hl:ms.length ≤ 100) :
  ∃ (q:Nat) (zs:List Nat) (s':ag),PM.aS [.int p,.loc n,.loc M,.int (i:Int),.int (j:Int)] s = .ok (.loc q) s' ∧ Xt s s' ∧ s'[q]? = some (.lst (lV zs)) ∧ zs.length = ms.length ∧ ∀ z ∈ zs,ED s' z:=by
 obtain ⟨k1,t1,l1,a1,b1⟩:=mo _ (List.getElem_mem hi)
 obtain ⟨k2,t2,l2,a2,b2⟩:=mo _ (List.getElem_mem hj)
 obtain ⟨key,s1,e1,x1⟩:=rf (k1:=k1) (k2:=k2) P hw hm
 obtain ⟨s2,bT⟩:∃ s2,s2 = s1 ++ [aT.dK []]:=⟨_,rfl⟩
 have x2:Xt s s2:=x1.trans (by rw [bT]; exact Xt.app _)
 have z2:ED s2 s1.length:=by rw [bT]; exact .inl (fj _ _)
 obtain ⟨zs,s3,e3,l3,x3,z3⟩:=Ae (us:=lV ms) (lV ms) s2 [] none (x2.items hM) (fun z m => by cases m)
 obtain ⟨s4,iV⟩:∃ s4,s4 = s3 ++ [aT.lst (lV zs)]:=⟨_,rfl⟩
 have Mp:Xt s3 s4:=by rw [iV]; exact Xt.app _
 have x4:Xt s s4:=x2.trans (x3.trans Mp)
 have z4:ED s4 s1.length:=(x3.trans Mp).d.ed _ z2
 refine ⟨s3.length,zs,s4,?_,x4,by rw [iV]; exact fj _ _,by rw [l3]; unfold lV; rw [List.length_map]; show 0 + ms.length = _; lia,fun z m => Mp.d.ed z (z3 z m)⟩
 obtain ⟨μ,hμ⟩:∃ μ:MN.Env → MN.Env,μ = fun r => some (.int p) :: some (.loc n) :: some (.loc M) :: some (.int (i:Int)) :: some (.int (j:Int)) :: r:=⟨_,rfl⟩
 have Mq:∀ (s':ag) (r:MN.Env),aj s' M = some (lV ms) → ah bR (ae 2) (ae 3) (μ r) s' = .ok (.loc ms[i]) s':=fun s' r h => by
  rw [ay (x:=.loc M) (s1:=s') (by rw [hμ]; rfl) (y:=.int (i:Int)) (s2:=s') (by rw [hμ]; rfl)]
  exact iS h (fq (by unfold lV; rw [List.getElem?_map,List.getElem?_eq_getElem hi]; rfl))
 have Mr:∀ (s':ag) (r:MN.Env),aj s' M = some (lV ms) → ah bR (ae 2) (ae 4) (μ r) s' = .ok (.loc ms[j]) s':=fun s' r h => by
  rw [ay (x:=.loc M) (s1:=s') (by rw [hμ]; rfl) (y:=.int (j:Int)) (s2:=s') (by rw [hμ]; rfl)]
  exact iS h (fq (by unfold lV; rw [List.getElem?_map,List.getElem?_eq_getElem hj]; rfl))
 have A1:=x2.2 _ _ a1
 have B1:=x2.2 _ _ b1
 have A2:=x2.2 _ _ a2
 have B2:=x2.2 _ _ b2
 have JA:=x2.items hM
 have f1:cQ "Packing" "least_of" PM.bY (ae 1) (aa (bh ["Monic"] "top" (ah bR (ae 2) (ae 3))) (aa (bh ["Monic"] "top" (ah bR (ae 2) (ae 4))) ak)) (μ [none,none,none]) s = .ok (.int (key:Int)) s1:=by
  rw [gD (n:=n) (s1:=s) (us:=[.int (k1:Int),.int (k2:Int)]) (s2:=s) (by rw [hμ]; rfl) P (by rfl) (dP (dc (Mq s _ hM) a1 (by rfl)) (dc (Mr s _ hM) a2 (by rfl))),e1]
 have f3:bg (ao PM.cz (aa (ae 0) (aa (ae 6) (aa (bh ["Monic"] "tail" (ah bR (ae 2) (ae 3))) (aa (ah eV (ae 5) (bh ["Monic"] "top" (ah bR (ae 2) (ae 3)))) (aa (mC (.int 1)) ak)))))) (μ [some (.int (key:Int)),some (.loc s1.length),none]) s2 = .nx (μ [some (.int (key:Int)),some (.loc s1.length),none]) s2:=by
  refine d0 (v:=.bE) ?_
  rw [ax (vs:=[.int p,.loc s1.length,.loc l1,.int ((key:Int) - (k1:Int)),.int 1]) (s1:=s2) (cb (s1:=s2) (by rw [hμ]; rfl) (cb (v:=.loc s1.length) (s1:=s2) (by rw [hμ]; rfl) (cb (s1:=s2) (dc (Mq s2 _ JA) A1 (by rfl)) (dP (s1:=s2) (by rw [ay (x:=.int (key:Int)) (s1:=s2) (by rw [hμ]; rfl) (dc (v:=.int (k1:Int)) (Mq s2 _ JA) A1 (by rfl))]; rfl) (s2:=s2) rfl))))]
  exact fZ (b_ B1) rfl
 have f4:bg (ao PM.cz (aa (ae 0) (aa (ae 6) (aa (bh ["Monic"] "tail" (ah bR (ae 2) (ae 4))) (aa (ah eV (ae 5) (bh ["Monic"] "top" (ah bR (ae 2) (ae 4)))) (aa (jN (mC (.int 1))) ak)))))) (μ [some (.int (key:Int)),some (.loc s1.length),none]) s2 = .nx (μ [some (.int (key:Int)),some (.loc s1.length),none]) s2:=by
  refine d0 (v:=.bE) ?_
  rw [ax (vs:=[.int p,.loc s1.length,.loc l2,.int ((key:Int) - (k2:Int)),.int (-1)]) (s1:=s2) (cb (s1:=s2) (by rw [hμ]; rfl) (cb (v:=.loc s1.length) (s1:=s2) (by rw [hμ]; rfl) (cb (s1:=s2) (dc (Mr s2 _ JA) A2 (by rfl)) (dP (s1:=s2) (by rw [ay (x:=.int (key:Int)) (s1:=s2) (by rw [hμ]; rfl) (dc (v:=.int (k2:Int)) (Mr s2 _ JA) A2 (by rfl))]; rfl) (s2:=s2) rfl))))]
  exact fZ (b_ B2) rfl
 have f5:bG 1 [] (d_ (ae 2)) (aw 0) aL gX (μ [some (.int (key:Int)),some (.loc s1.length),none]) s2 = .ok (.loc s3.length) s4:=by
  rw [cO,c7,show ae 2 (μ [some (.int (key:Int)),some (.loc s1.length),none]) s2 = .ok (.loc M) s2 by rw [hμ]; rfl,aq,cR JA,aq,dX,if_pos (by unfold lV; rw [List.length_map,sizeLine_eq]; lia)]
  rw [show e8 1 [] (μ [some (.int (key:Int)),some (.loc s1.length),none]) = [none] from rfl]
  rw [show lV [] = ([]:List ai) from rfl] at e3
  rw [e3,aq,iV]
  rfl
 have f6:bg (ao PM.eH (aa (ae 0) (aa (bh ["Packing"] "guards" (ae 1)) (aa (ae 6) (aa (ae 2) (aa (ae 7) ak)))))) (μ [some (.int (key:Int)),some (.loc s1.length),some (.loc s3.length)]) s4 = .nx (μ [some (.int (key:Int)),some (.loc s1.length),some (.loc s3.length)]) s4:=by
  refine d0 (v:=.bE) ?_
  rw [ax (vs:=[.int p,.int (g:Int),.loc s1.length,.loc M,.loc s3.length]) (s1:=s4) (cb (s1:=s4) (by rw [hμ]; rfl) (cb (s1:=s4) (dc (n:=n) (s1:=s4) (by rw [hμ]; rfl) (x4.2 _ _ P) Ml) (cb (s1:=s4) (by rw [hμ]; rfl) (dP (s1:=s4) (by rw [hμ]; rfl) (s2:=s4) (by rw [hμ]; rfl)))))]
  exact ny z4
 have dk:nq s4 s1.length = some []:=by rcases z4 with h | h <;> (unfold nq; rw [h])
 have f7:cA (ah gR (ao qT (aa (ae 6) ak)) (mC (.int 0))) (μ [some (.int (key:Int)),some (.loc s1.length),some (.loc s3.length)]) s4 = .ok true s4:=by
  refine bJ ?_
  rw [u7 (o:=0) (s1:=s4) (by rw [ax (br (v:=.loc s1.length) (s1:=s4) (by rw [hμ]; rfl))]; unfold qT; dsimp only; rw [dk]; rfl)]
  rfl
 unfold PM.aS
 rw [a! (np:=5) (us:=[ai.int p,.loc n,.loc M,.int (i:Int),.int (j:Int)]) rfl]
 show (az (aM 5 _) (az (aM 6 gX) (az (bg _) (az (bg _) (az (aM 7 _) (az (bg _) (aY _)))))) [some (.int p),some (.loc n),some (.loc M),some (.int (i:Int)),some (.int (j:Int)),none,none,none] s).fin = _
 rw [aA,show ([some (.int p),some (.loc n),some (.loc M),some (.int (i:Int)),some (.int (j:Int)),none,none,none]:MN.Env) = μ [none,none,none] by rw [hμ],aW f1,aB,show (μ [none,none,none]).set 5 (some (.int (key:Int))) = μ [some (.int (key:Int)),none,none] by rw [hμ]; rfl]
 rw [aA,aW (v:=.loc s1.length) (s1:=s2) (by rw [bT]; rfl),aB,show (μ [some (.int (key:Int)),none,none]).set 6 (some (.loc s1.length)) = μ [some (.int (key:Int)),some (.loc s1.length),none] by rw [hμ]; rfl]
 rw [aA,f3,aB,aA,f4,aB,aA,aW f5,aB,show (μ [some (.int (key:Int)),some (.loc s1.length),none]).set 7 (some (.loc s3.length)) = μ [some (.int (key:Int)),some (.loc s1.length),some (.loc s3.length)] by rw [hμ]; rfl]
 rw [aA,f6,aB,dn,lU,f7,aq,kS,show ae 7 (μ [some (.int (key:Int)),some (.loc s1.length),some (.loc s3.length)]) s4 = .ok (.loc s3.length) s4 by rw [hμ]; rfl,aV]
 rfl
end PG
namespace PG
open PySem PySem.Spec L2 MN
open PyProof.Rows hiding St kindOf
theorem rl {s s0:ag} {μ:MN.Env} {m e:ME} {k:Nat} {caps:List Nat} {as:AS} {t:MT} {z:Nat} (h:m μ s0 = .ok (.loc z) s) (hz:ED s z) :
  ∃ s',bG k caps (fO m) as t e μ s0 = .ok (.loc s'.length) (s' ++ [.lst []]) ∧ Xd s s':=by
 obtain ⟨s',i,x,g⟩:∃ s':ag,fO m μ s0 = .ok (nr z []) s' ∧ Xd s s' ∧ s'[z]? = some (.fd []):=by
  unfold fO
  rw [h]
  show ∃ s':ag,(match s[z]? with | some (.dK aD) => bH.ok (nr z aD) (s.set z (.fd aD)) | some (.fd aD) => .ok (nr z aD) s | _ => .bad) = _ ∧ _
  rcases hz with hz | hz
  ·rw [hz]; exact ⟨_,rfl,GK (.inl hz),List.getElem?_set_self (b9 hz)⟩
  ·rw [hz]; exact ⟨_,rfl,Xd.refl,hz⟩
 refine ⟨s',?_,x⟩
 rw [cO,i,aq]
 show (if (0:Nat) ≤ sizeLine then (a7 (fun st2 => st2[z]? = some (.fd [])) as t e [] (e8 k caps μ) s' []).fi o? else .bad) = _
 rw [if_pos (Nat.zero_le _),bP (g:=fun st2 => st2[z]? = some (.fd [])) g,aq]
 rfl
theorem rm {s:ag} {z:Nat} {p b:ai} (hz:ED s z) (hp:ja p = false):∃ (d:Nat) (s':ag),PM.bx [p,.loc z,b] s = .ok (.loc d) s' ∧ Xd s s' ∧ s'[d]? = some (.dK []):=by
 obtain ⟨s1,e1,x1⟩:=rl (s:=s) (s0:=s) (μ:=[some p,some (.loc z),some b]) (m:=ae 1) (k:=2) (caps:=[2,0]) (as:=eY [(aw 0),(aw 1)]) (t:=aL) (e:=d5 (aa (ae 0) (aa (ah cg (ah cF (ae 1) (ae 2)) (ae 3)) ak))) rfl hz
 obtain ⟨s2,bT⟩:∃ s2,s2 = s1 ++ [aT.lst []]:=⟨_,rfl⟩
 rw [← bT] at e1
 refine ⟨s2.length,s2 ++ [.dK []],?_,x1.trans ((show Xt s1 s2 by rw [bT]; exact Xt.app _).trans (Xt.app _)).d,fj _ _⟩
 unfold PM.bx
 rw [a! (np:=3) (us:=[p,ai.loc z,b]) rfl]
 show (aY (ao qO (aa _ ak)) [some p,some (.loc z),some b] s).fin = _
 rw [ee (v:=.loc s2.length) (s1:=s2 ++ [.dK []]) (by
  rw [ax (br e1)]
  unfold qO
  dsimp only
  rw [show aj s2 s1.length = some [] by rw [bT]; exact aQ s1 _]
  rfl)]
 rfl
theorem CU {s:ag} {z n:Nat} (hz:ED s z):∃ (u:Nat) (s':ag),PM.a_ [.loc n,.loc z] s = .ok (.loc u) s' ∧ Xd s s' ∧ s.length ≤ u ∧ s'[u]? = some (.lst []):=by
 obtain ⟨s1,e1,x1⟩:=rl (s:=s) (s0:=s) (μ:=[some (.loc n),some (.loc z)]) (m:=ae 1) (k:=2) (caps:=[0]) (as:=eY [(aw 0),(aw 1)]) (t:=aL) (e:=d5 (aa (cQ "Packing" "exponents_of" PM.aI (ae 2) (aa (ae 0) ak)) (aa (ae 1) ak))) rfl hz
 obtain ⟨s2,bT⟩:∃ s2,s2 = s1 ++ [aT.lst []]:=⟨_,rfl⟩
 rw [← bT] at e1
 refine ⟨s2.length,s2 ++ [.lst []],?_,x1.trans ((show Xt s1 s2 by rw [bT]; exact Xt.app _).trans (Xt.app _)).d,by have:=x1.len; rw [bT,List.length_append]; lia,fj _ _⟩
 unfold PM.a_
 rw [a! (np:=2) (us:=[ai.loc n,.loc z]) rfl]
 show (aY (pz _) [some (.loc n),some (.loc z)] s).fin = _
 rw [ee (v:=.loc s2.length) (s1:=s2 ++ [.lst []]) (by
  unfold pz
  rw [e1]
  show CB (.loc s1.length) s2 = _
  unfold CB
  dsimp only
  rw [show aj s2 s1.length = some [] by rw [bT]; exact aQ s1 _])]
 rfl
noncomputable abbrev JB:MB:=bg (ik c6 (ae 4) (aa (cQ "Packing" "sum_of_terms" PM.a_ (ae 1) (aa (ao PM.bx (aa (ae 0) (aa (ae 6) (aa (bh ["Monic"] "back" (ae 5)) ak)))) ak)) ak))
noncomputable def pV (x:Nat × Nat):ai:=.tup [.loc x.1,.loc x.2]
theorem rn:∀ (ms zs:List Nat),fU (lV ms) (lV zs) = (ms.zip zs).map pV
 | [],_ => rfl
 | _ :: _,[] => rfl
 | m :: ms,z :: zs => by
  show ai.tup [.loc m,.loc z] :: fU (lV ms) (lV zs) = _
  rw [rn ms zs]
  rfl
noncomputable def jU (S:Nat) (s:ag) (m:Nat):Prop:=∃ (k:Nat) (t:Int) (l:Nat),s[m]? = some (.ins "Monic" (Jx k t l)) ∧ s[l]? = some (.lst []) ∧ l ≠ S
theorem Mon.below {S:Nat} {s s':ag} {m:Nat} (h:Mon s m) (x:Xd s s') (hS:s.length ≤ S):jU S s' m:=by
 obtain ⟨k,t,l,h1,h2⟩:=h
 exact ⟨k,t,l,x.at_ _ _ trivial h1,x.at_ _ _ trivial h2,by have:=b9 h2; lia⟩
noncomputable def Km (s:ag) (S:Nat) (us:List Nat):Prop:=s[S]? = some (.lst (lV us)) ∧ ∀ u ∈ us,S < u ∧ s[u]? = some (.lst [])
theorem CV {s:ag} {n M q S m z:Nat} {b:Bool} {au w g:Nat} {p:Int} {us:List Nat} (P:Pk s n b au w g) (hm:jU S s m) (hz:ED s z) (hS:Km s S us) (hl:us.length ≤ 100) :
  ∃ (u:Nat) (s':ag),JB [some (.int p),some (.loc n),some (.loc M),some (.loc q),some (.loc S),some (.loc m),some (.loc z)] s = .nx [some (.int p),some (.loc n),some (.loc M),some (.loc q),some (.loc S),some (.loc m),some (.loc z)] s' ∧ Xs S s s' ∧ Km s' S (us ++ [u]):=by
 obtain ⟨μ,hμ⟩:∃ μ:MN.Env,μ = [some (.int p),some (.loc n),some (.loc M),some (.loc q),some (.loc S),some (.loc m),some (.loc z)]:=⟨_,rfl⟩
 obtain ⟨k,t,l,m1,m2,_⟩:=hm
 obtain ⟨d,s1,e1,x1,d1⟩:=rm (p:=.int p) (b:=.int t) hz rfl
 obtain ⟨u,s2,e2,x2,l2,u2⟩:=CU (n:=n) (z:=d) (s:=s1) (.inl d1)
 have CW:=x1.trans x2
 have ar:aa (cQ "Packing" "sum_of_terms" PM.a_ (ae 1) (aa (ao PM.bx (aa (ae 0) (aa (ae 6) (aa (bh ["Monic"] "back" (ae 5)) ak)))) ak)) ak μ s = .ok [.loc u] s2:=by
  refine br ?_
  rw [gD (n:=n) (s1:=s) (us:=[.loc d]) (s2:=s1) (by rw [hμ]; rfl) P (by rfl) (br (by
   rw [ax (vs:=[.int p,.loc z,.int t]) (s1:=s) (cb (s1:=s) (by rw [hμ]; rfl) (dP (s1:=s) (by rw [hμ]; rfl) (dc (n:=m) (s1:=s) (by rw [hμ]; rfl) m1 (by rfl)))),e1])),e2]
 have S2:=CW.at_ S (.lst (lV us)) trivial hS.1
 refine ⟨u,s2.set S (.lst (lV us ++ [.loc u])),?_,CW.s.set,?_,fun v hv => ?_⟩
 ·rw [← hμ]
  exact tW (n:=S) (us:=lV us) (by rw [hμ]; rfl) hS.1 ar S2 (by unfold lV; rw [List.length_map]; lia)
 ·rw [List.getElem?_set_self (b9 S2)]
  unfold lV
  rw [List.map_append]
  rfl
 ·have lS:=b9 hS.1
  have:=x1.len
  rcases List.mem_append.mp hv with hv | hv
  ·obtain ⟨h1,h2⟩:=hS.2 v hv
   exact ⟨h1,bj (CW.at_ _ _ trivial h2) (by lia)⟩
  ·rw [List.mem_singleton.mp hv]
   exact ⟨by lia,bj u2 (by lia)⟩
theorem ve {n M q S:Nat} {b:Bool} {au w g:Nat} {p:Int} {A B:List ai} (N2:M ≠ S) (N3:q ≠ S):∀ (ck:List (Nat × Nat)) (s:ag) (us:List Nat) (y5 y6:Option ai),aj s M = some A → aj s q = some B → Pk s n b au w g → (∀ x ∈ ck,jU S s x.1 ∧ ED s x.2) → Km s S us → us.length + ck.length ≤ 100 →
  ∃ (xo:List Nat) (s':ag) (Ms JC:Option ai),forL (fun st2 => aj st2 M = some A ∧ aj st2 q = some B) (eY [aw 5,aw 6]) JB (ck.map pV) [some (.int p),some (.loc n),some (.loc M),some (.loc q),some (.loc S),y5,y6] s = .nx [some (.int p),some (.loc n),some (.loc M),some (.loc q),some (.loc S),Ms,JC] s' ∧ Xs S s s' ∧ Km s' S xo ∧ xo.length = us.length + ck.length
 | [],s,us,y5,y6,hA,hB,_,_,hN,_ => ⟨us,s,y5,y6,by show forL _ _ _ [] _ s = _; unfold forL; rw [if_pos ⟨hA,hB⟩],Xs.refl,hN,rfl⟩
 | x :: ck,s,us,y5,y6,hA,hB,P,hx,hN,hl => by
  rw [List.length_cons] at hl
  obtain ⟨h1,h2⟩:=hx x List.mem_cons_self
  obtain ⟨u,s1,e1,x1,n1⟩:=CV (M:=M) (q:=q) (p:=p) P h1 h2 hN (by lia)
  have cS:∀ {i:Nat} {c:aT},s[i]? = some c → (∀ us,c ≠ .lst us) → i ≠ S:=fun {i c} e ne z => by
   rw [z,hN.1] at e
   exact ne _ (Option.some.inj e).symm
  have xx:∀ y ∈ ck,jU S s1 y.1 ∧ ED s1 y.2:=fun y hy => by
   obtain ⟨⟨k,t,l,a1,a2,a3⟩,b1⟩:=hx y (List.mem_cons_of_mem _ hy)
   refine ⟨⟨k,t,l,x1.at_ _ _ (cS a1 fun _ z => by cases z) trivial a1,x1.at_ _ _ a3 trivial a2,a3⟩,x1.ed _ (fun z => ?_) b1⟩
   rcases b1 with b1 | b1 <;> exact (cS b1 (fun _ z => by cases z)) z
  obtain ⟨xo,s2,Ms,JC,e2,x2,n2,l2⟩:=ve N2 N3 ck s1 (us ++ [u]) (some (.loc x.1)) (some (.loc x.2)) (x1.items N2 hA) (x1.items N3 hB) (x1.at_ _ _ (cS P fun _ z => by cases z) trivial P) xx n1 (by rw [List.length_append]; show us.length + 1 + ck.length ≤ 100; lia)
  refine ⟨xo,s2,Ms,JC,?_,x1.trans x2,n2,by rw [l2]; simp only [List.length_append,List.length_cons,List.length_nil]; lia⟩
  rw [List.map_cons]
  unfold forL
  rw [if_pos ⟨hA,hB⟩]
  show (match JB [some (.int p),some (.loc n),some (.loc M),some (.loc q),some (.loc S),some (.loc x.1),some (.loc x.2)] s with
   | .nx μ' av => forL _ _ _ _ μ' av | .ct μ' av => forL _ _ _ _ μ' av | .bk μ' av => .nx μ' av | .rt v av => .rt v av | .er c μ' av => .er c μ' av | .bad => .bad) = _
  rw [e1]
  exact e2
end PG
namespace PG
open PySem PySem.Spec L2 MN
open PyProof.Rows hiding St kindOf
noncomputable def xr (s:ag) (N S:Nat) (k:Nat):Prop:=∃ us:List Nat,s[S]? = some (.lst (lV us)) ∧ us.length = k ∧ N ≤ S ∧ ∀ u ∈ us,N ≤ u ∧ s[u]? = some (.lst [])
theorem CY {s:ag} {n M q:Nat} {b:Bool} {au w g:Nat} {p:Int} {ms zs:List Nat} (P:Pk s n b au w g) (hM:aj s M = some (lV ms)) (hq:s[q]? = some (.lst (lV zs))) (mo:∀ m ∈ ms,Mon s m) (ez:∀ z ∈ zs,ED s z) (hl:ms.length ≤ 50) (hz:zs.length = ms.length) :
  ∃ (S:Nat) (s':ag),PM.bz [.int p,.loc n,.loc M,.loc q] s = .ok (.loc S) s' ∧ Xd s s' ∧ xr s' s.length S ms.length:=by
 obtain ⟨S,hS⟩:∃ S,S = s.length:=⟨_,rfl⟩
 obtain ⟨s1,c5⟩:∃ s1,s1 = s ++ [aT.lst []]:=⟨_,rfl⟩
 have x1:Xt s s1:=by rw [c5]; exact Xt.app _
 have lM:=mz hM
 have lq:=b9 hq
 have lp:(ms.zip zs).length = ms.length:=by rw [List.length_zip]; lia
 obtain ⟨us,s2,y5,y6,e2,x2,n2,l2⟩:=ve (n:=n) (M:=M) (q:=q) (S:=S) (p:=p) (A:=lV ms) (B:=lV zs) (by lia) (by lia) (ms.zip zs) s1 [] none none (x1.items hM) (b_ (x1.2 _ _ hq)) (x1.2 _ _ P) (fun x hx => ⟨(mo x.1 (List.of_mem_zip hx).1).below x1.d (by lia),x1.d.ed _ (ez x.2 (List.of_mem_zip hx).2)⟩) ⟨by rw [c5,hS]; exact fj _ _,fun u m => by cases m⟩ (by rw [List.length_nil]; lia)
 refine ⟨S,s2,?_,⟨Nat.le_trans x1.1 x2.len,fun i c h e => x2.at_ i c (by have:=b9 e; lia) h (x1.2 i c e),fun z h => x2.ed z (by have:=h.lt; lia) (x1.d.ed z h)⟩,us,n2.1,by rw [l2,lp,List.length_nil]; lia,by lia,fun u m => ⟨by have:=(n2.2 u m).1; lia,(n2.2 u m).2⟩⟩
 unfold PM.bz
 ·rw [a! (np:=4) (us:=[ai.int p,.loc n,.loc M,.loc q]) rfl]
  show (az (aM 4 (bF ak)) (az (dD _ _ JB) (aY (ae 4))) [some (.int p),some (.loc n),some (.loc M),some (.loc q),none,none,none] s).fin = _
  rw [aA,aW (dq (vs:=[]) (s1:=s) rfl (by decide)),aB,← c5,← hS]
  show (az (dD _ _ JB) (aY (ae 4)) [some (.int p),some (.loc n),some (.loc M),some (.loc q),some (.loc S),none,none] s1).fin = _
  rw [aA,ec,sX,dP (v:=.loc M) (s1:=s1) rfl (w:=.loc q) (s2:=s1) rfl,aq,Gi (x1.items hM) (b_ (x1.2 _ _ hq)),aV,gK,rn,e2,aB]
  rfl
end PG
namespace PG
open PySem PySem.Spec L2 MN
open PyProof.Rows hiding St kindOf
noncomputable def Ag (x:(Nat × Nat) × Nat):ai:=.tup [.int (x.1.1:Int),.int (x.1.2:Int),.loc x.2]
noncomputable def w6 (s:ag) (N F:Nat) (ck:List (Nat × Nat)) (k:Nat):Prop:=∃ ls:List Nat,ls.length = ck.length ∧ s[F]? = some (.lst ((ck.zip ls).map Ag)) ∧ ∀ l ∈ ls,xr s N l k
theorem xr.to {s s':ag} {N S k:Nat} (h:xr s N S k) (x:Xd s s'):xr s' N S k:=by
 obtain ⟨us,h1,h2,h3,h4⟩:=h
 exact ⟨us,x.at_ _ _ trivial h1,h2,h3,fun u m => ⟨(h4 u m).1,x.at_ _ _ trivial (h4 u m).2⟩⟩
theorem xr.set {s:ag} {N S k F:Nat} {c:aT} (h:xr s N S k) (hF:F < N):xr (s.set F c) N S k:=by
 obtain ⟨us,h1,h2,h3,h4⟩:=h
 exact ⟨us,bj h1 (by lia),h2,h3,fun u m => ⟨(h4 u m).1,bj (h4 u m).2 (by have:=(h4 u m).1; lia)⟩⟩
theorem xr.up {s:ag} {N N' S k:Nat} (h:xr s N' S k) (hN:N ≤ N'):xr s N S k:=by
 obtain ⟨us,h1,h2,h3,h4⟩:=h
 exact ⟨us,h1,h2,by lia,fun u m => ⟨by have:=(h4 u m).1; lia,(h4 u m).2⟩⟩
structure xt (s:ag) (n M R N F:Nat) (b:Bool) (au w g:Nat) (ms:List Nat) (us:List ai):Prop where
 pk:Pk s n b au w g
 mon:aj s M = some (lV ms)
 row:aj s R = some us
 mo:∀ m ∈ ms,jU F s m
 lt:F < N
 ln:N ≤ s.length
 ne:n ≠ F
 nM:M ≠ F
 nR:R ≠ F
theorem jU.mon {S:Nat} {s:ag} {m:Nat} (h:jU S s m):Mon s m:=let ⟨k,t,l,h1,h2,_⟩:=h; ⟨k,t,l,h1,h2⟩
theorem jU.xd {S:Nat} {s s':ag} {m:Nat} (h:jU S s m) (x:Xd s s'):jU S s' m:=let ⟨k,t,l,h1,h2,h3⟩:=h; ⟨k,t,l,x.at_ _ _ trivial h1,x.at_ _ _ trivial h2,h3⟩
theorem jU.set {S:Nat} {s:ag} {m:Nat} {us:List ai} {c:aT} (h:jU S s m) (hS:s[S]? = some (.lst us)):jU S (s.set S c) m:=let ⟨k,t,l,h1,h2,h3⟩:=h; ⟨k,t,l,bj h1 (fun z => by rw [← z,hS] at h1; cases h1),bj h2 (fun z => h3 z.symm),h3⟩
theorem xt.xd {s s':ag} {n M R N F:Nat} {b:Bool} {au w g:Nat} {ms:List Nat} {us:List ai} (D:xt s n M R N F b au w g ms us) (x:Xd s s'):xt s' n M R N F b au w g ms us :=
 ⟨D.pk.to x,x.items D.mon,x.items D.row,fun m h => (D.mo m h).xd x,D.lt,Nat.le_trans D.ln x.len,D.ne,D.nM,D.nR⟩
theorem xt.set {s:ag} {n M R N F:Nat} {b:Bool} {au w g:Nat} {ms:List Nat} {us vs:List ai} {c:aT} (D:xt s n M R N F b au w g ms us) (hF:s[F]? = some (.lst vs)):xt (s.set F c) n M R N F b au w g ms us :=
 ⟨bj D.pk (fun z => D.ne z.symm),by obtain ⟨c,h1,h2⟩:=eJ D.mon; exact h2 _ (bj h1 (fun z => D.nM z.symm)),by obtain ⟨c,h1,h2⟩:=eJ D.row; exact h2 _ (bj h1 (fun z => D.nR z.symm)),fun m h => (D.mo m h).set hF,D.lt,by rw [List.length_set]; exact D.ln,D.ne,D.nM,D.nR⟩
noncomputable abbrev Kn:MB:=az (aM 8 (ao PM.aS (aa (ae 0) (aa (ae 3) (aa (ae 4) (aa (ae 6) (aa (ae 7) ak))))))) (az (gf (cA (ah (Kc false) (ae 8) (mC .bE))) (aY (mC .bE)) bB) (bg (ik c6 (ae 5) (aa (d5 (aa (ae 6) (aa (ae 7) (aa (ao PM.bz (aa (ae 0) (aa (ae 3) (aa (ae 4) (aa (ae 8) ak))))) ak)))) ak))))
section
variable {s:ag} {n M R N F:Nat} {b:Bool} {au w g:Nat} {p:Int} {ms:List Nat} {us:List ai} {x1:Option ai}
theorem CZ {i j:Nat} {ck:List (Nat × Nat)} {y8:Option ai} (D:xt s n M R N F b au w g ms us) (hf:w6 s N F ck ms.length) (hw:w < 64) (hm:au ≤ 8) (hl:ms.length ≤ 10) (hi:i < ms.length) (hj:j < ms.length) (hp:ck.length ≤ 100) :
  ∃ (s':ag) (y:Option ai),Kn [some (.int p),x1,some (.loc R),some (.loc n),some (.loc M),some (.loc F),some (.int (i:Int)),some (.int (j:Int)),y8] s = .nx [some (.int p),x1,some (.loc R),some (.loc n),some (.loc M),some (.loc F),some (.int (i:Int)),some (.int (j:Int)),y] s' ∧ xt s' n M R N F b au w g ms us ∧ w6 s' N F (ck ++ [(i,j)]) ms.length ∧ Xs F s s':=by
 obtain ⟨q,zs,s1,e1,xu,q1,l1,z1⟩:=Jz (p:=p) D.pk hw hm D.mon (fun m h => (D.mo m h).mon) hi hj (by lia)
 have D1:=D.xd xu.d
 obtain ⟨S,s2,e2,x2,zr⟩:=CY (p:=p) D1.pk D1.mon q1 (fun m h => (D1.mo m h).mon) z1 (by lia) l1
 have D2:=D1.xd x2
 obtain ⟨ls,f1,f2,f3⟩:=hf
 have CW:=xu.d.trans x2
 have F0:=f2
 have F1:=xu.2 _ _ f2
 have F2:s2[F]? = some (.lst ((ck.zip ls).map Ag)):=x2.at_ _ _ trivial F1
 obtain ⟨μ,hμ⟩:∃ μ:MN.Env,μ = [some (.int p),x1,some (.loc R),some (.loc n),some (.loc M),some (.loc F),some (.int (i:Int)),some (.int (j:Int)),some (.loc q)]:=⟨_,rfl⟩
 have g1:aM 8 (ao PM.aS (aa (ae 0) (aa (ae 3) (aa (ae 4) (aa (ae 6) (aa (ae 7) ak)))))) [some (.int p),x1,some (.loc R),some (.loc n),some (.loc M),some (.loc F),some (.int (i:Int)),some (.int (j:Int)),y8] s = .nx μ s1:=by
  rw [aW (v:=.loc q) (s1:=s1) (by
   rw [ax (vs:=[.int p,.loc n,.loc M,.int (i:Int),.int (j:Int)]) (s1:=s) rfl,e1]),hμ]
  rfl
 have g2:gf (cA (ah (Kc false) (ae 8) (mC .bE))) (aY (mC .bE)) bB μ s1 = .nx μ s1:=fG (bJ (by rw [ay (x:=.loc q) (s1:=s1) (by rw [hμ]; rfl) (y:=.bE) (s2:=s1) rfl]; rfl))
 have ar:aa (d5 (aa (ae 6) (aa (ae 7) (aa (ao PM.bz (aa (ae 0) (aa (ae 3) (aa (ae 4) (aa (ae 8) ak))))) ak)))) ak μ s1 = .ok [Ag ((i,j),S)] s2:=by
  refine br (jT (vs:=[.int (i:Int),.int (j:Int),.loc S]) (cb (s1:=s1) (by rw [hμ]; rfl) (dP (s1:=s1) (by rw [hμ]; rfl) ?_)) (by show 3 ≤ 1000; decide))
  rw [ax (vs:=[.int p,.loc n,.loc M,.loc q]) (s1:=s1) (by rw [hμ]; rfl),e2]
 have lz:((ck.zip ls).map Ag).length ≤ 1000:=by rw [List.length_map,List.length_zip]; lia
 have g3:=tW (o:=ae 5) (μ:=μ) (s:=s1) (n:=F) (by rw [hμ]; rfl) F1 ar F2 lz
 refine ⟨s2.set F (.lst ((ck.zip ls).map Ag ++ [Ag ((i,j),S)])),some (.loc q),?_,D2.set F2,⟨ls ++ [S],by rw [List.length_append,List.length_append,f1]; rfl,?_,fun l h => ?_⟩,CW.s.set⟩
 ·show az _ _ _ s = _
  rw [aA,g1,aB,aA,g2,aB,g3,hμ]
 ·rw [List.getElem?_set_self (b9 F2),List.zip_append f1.symm,List.map_append]
  rfl
 ·rcases List.mem_append.mp h with h | h
  ·exact ((f3 l h).to CW).set D.lt
  ·rw [List.mem_singleton.mp h]
   exact (zr.up (Nat.le_trans D.ln xu.1)).set D.lt
theorem ro {i:Nat} (hw:w < 64) (hm:au ≤ 8) (hl:ms.length ≤ 10) (hi:i < ms.length):∀ (m j:Nat) (s:ag) (ck:List (Nat × Nat)) (y7 y8:Option ai),xt s n M R N F b au w g ms us → w6 s N F ck ms.length → j + m ≤ ms.length → ck.length + m ≤ 100 →
  ∃ (s':ag) (xw xy:Option ai),forL (fun _ => True) (aw 7) Kn ((List.range' j m).map fun (k:Nat) => ai.int (k:Int)) [some (.int p),x1,some (.loc R),some (.loc n),some (.loc M),some (.loc F),some (.int (i:Int)),y7,y8] s = .nx [some (.int p),x1,some (.loc R),some (.loc n),some (.loc M),some (.loc F),some (.int (i:Int)),xw,xy] s' ∧ xt s' n M R N F b au w g ms us ∧ w6 s' N F (ck ++ (List.range' j m).map fun k => (i,k)) ms.length ∧ Xs F s s'
 | 0,j,s,ck,y7,y8,D,hf,_,_ => ⟨s,y7,y8,by show forL _ _ _ [] _ s = _; unfold forL; rw [if_pos trivial],D,by show w6 s N F (ck ++ []) _; rw [List.append_nil]; exact hf,Xs.refl⟩
 | m + 1,j,s,ck,y7,y8,D,hf,hj,hp => by
  obtain ⟨s1,y,e1,D1,f1,xu⟩:=CZ (p:=p) (x1:=x1) (y8:=y8) D hf hw hm hl hi (j:=j) (by lia) (by lia)
  obtain ⟨s2,xw,xy,e2,D2,f2,x2⟩:=ro hw hm hl hi m (j + 1) s1 (ck ++ [(i,j)]) (some (.int (j:Int))) y D1 f1 (by lia) (by rw [List.length_append]; show ck.length + 1 + m ≤ 100; lia)
  refine ⟨s2,xw,xy,?_,D2,?_,xu.trans x2⟩
  ·rw [List.range'_succ,List.map_cons]
   unfold forL
   rw [if_pos trivial]
   show (match Kn [some (.int p),x1,some (.loc R),some (.loc n),some (.loc M),some (.loc F),some (.int (i:Int)),some (.int (j:Int)),y8] s with
    | .nx μ' av => forL _ _ _ _ μ' av | .ct μ' av => forL _ _ _ _ μ' av | .bk μ' av => .nx μ' av | .rt v av => .rt v av | .er c μ' av => .er c μ' av | .bad => .bad) = _
   rw [e1]
   exact e2
  ·rw [List.range'_succ,List.map_cons]
   rw [List.append_assoc] at f2
   exact f2
noncomputable def cU (L:Nat):Nat → Nat → List (Nat × Nat)
 | _,0 => []
 | i,m + 1 => ((List.range' (i + 1) (L - (i + 1))).map fun k => (i,k)) ++ cU L (i + 1) m
noncomputable abbrev Ha:MB:=dD (fv (aa (ah bV (ae 6) (mC (.int 1))) (aa (ao cT (aa (ae 2) ak)) ak))) (aw 7) Kn
theorem rq (i:Nat) (m:Nat):cj (i:Int) m = (List.range' i m).map fun (k:Nat) => ai.int (k:Int):=by
 unfold cj
 rw [List.range'_eq_map_range,List.map_map]
 refine List.map_congr_left fun k _ => ?_
 show ai.int _ = ai.int _
 congr 1
theorem rA (hw:w < 64) (hm:au ≤ 8) (hl:ms.length ≤ 10) (hu:us.length = ms.length):∀ (m i:Nat) (s:ag) (ck:List (Nat × Nat)) (y6 y7 y8:Option ai),xt s n M R N F b au w g ms us → w6 s N F ck ms.length → i + m = ms.length → ck.length + 10 * m ≤ 100 →
  ∃ (s':ag) (JC xw xy:Option ai),forL (fun _ => True) (aw 6) Ha ((List.range' i m).map fun (k:Nat) => ai.int (k:Int)) [some (.int p),x1,some (.loc R),some (.loc n),some (.loc M),some (.loc F),y6,y7,y8] s = .nx [some (.int p),x1,some (.loc R),some (.loc n),some (.loc M),some (.loc F),JC,xw,xy] s' ∧ w6 s' N F (ck ++ cU ms.length i m) ms.length ∧ Xs F s s'
 | 0,i,s,ck,y6,y7,y8,D,hf,_,_ => ⟨s,y6,y7,y8,by show forL _ _ _ [] _ s = _; unfold forL; rw [if_pos trivial],by show w6 s N F (ck ++ []) _; rw [List.append_nil]; exact hf,Xs.refl⟩
 | m + 1,i,s,ck,y6,y7,y8,D,hf,hi,hp => by
  obtain ⟨s1,xw,xy,e1,D1,f1,xu⟩:=ro (p:=p) (x1:=x1) (i:=i) hw hm hl (by lia) (ms.length - (i + 1)) (i + 1) s ck y7 y8 D hf (by lia) (by lia)
  obtain ⟨s2,z6,z7,z8,e2,f2,x2⟩:=rA hw hm hl hu m (i + 1) s1 _ (some (.int (i:Int))) xw xy D1 f1 (by lia) (by rw [List.length_append,List.length_map,List.length_range']; lia)
  refine ⟨s2,z6,z7,z8,?_,?_,xu.trans x2⟩
  ·rw [List.range'_succ,List.map_cons]
   unfold forL
   rw [if_pos trivial]
   have b1:Ha [some (.int p),x1,some (.loc R),some (.loc n),some (.loc M),some (.loc F),some (.int (i:Int)),y7,y8] s = .nx [some (.int p),x1,some (.loc R),some (.loc n),some (.loc M),some (.loc F),some (.int (i:Int)),xw,xy] s1:=by
    show dD _ _ _ _ s = _
    rw [ec,uS,dP (v:=.int (((i + 1:Nat)):Int)) (s1:=s) (by rw [ay (x:=.int (i:Int)) (s1:=s) rfl (y:=.int 1) (s2:=s) rfl]; rfl) (w:=.int (us.length:Int)) (s2:=s) (by rw [ax (br (v:=.loc R) (s1:=s) rfl),c8 D.row]),aq]
    have hz:zu [.int ((i + 1:Nat):Int),.int (us.length:Int)] s = .ok (cj ((i + 1:Nat):Int) (((us.length:Int) - ((i + 1:Nat):Int)).toNat),fun _ => True) s:=by
     unfold zu
     dsimp only
     rw [if_pos ⟨by lia,by lia,by lia,by lia⟩]
    rw [hz,aV,gK,rq,show ((us.length:Int) - ((i + 1:Nat):Int)).toNat = ms.length - (i + 1) by lia]
    exact e1
   show (match Ha [some (.int p),x1,some (.loc R),some (.loc n),some (.loc M),some (.loc F),some (.int (i:Int)),y7,y8] s with
    | .nx μ' av => forL _ _ _ _ μ' av | .ct μ' av => forL _ _ _ _ μ' av | .bk μ' av => .nx μ' av | .rt v av => .rt v av | .er c μ' av => .er c μ' av | .bad => .bad) = _
   rw [b1]
   exact e2
  ·show w6 s2 N F (ck ++ (_ ++ cU ms.length (i + 1) m)) _
   rw [← List.append_assoc]
   exact f2
end
theorem oC {R:Nat} {us:List ai} {s:ag} {x:Option ai} (hR:aj s R = some us):∀ (rows:List ju) (y:Option ai),(∀ r ∈ rows,s[r.1]? = some (.lst [tN r])) →
  ∃ y',forL (fun av => aj av R = some us) (aw 1) (gf (cA (ah gR (ao cT (aa (ae 1) ak)) (mC (.int 0)))) (dm "ByNought" (aa (mC (.str "nothing is reduced by nought")) ak)) bB) (rows.map fun r => ai.loc r.1) [x,y] s = .nx [x,y'] s
 | [],y,_ => ⟨y,by show forL _ _ _ [] _ s = _; unfold forL; rw [if_pos hR]⟩
 | r :: rows,y,h => by
  obtain ⟨y',e⟩:=oC hR rows (some (.loc r.1)) fun q m => h q (List.mem_cons_of_mem _ m)
  refine ⟨y',?_⟩
  rw [List.map_cons]
  unfold forL
  rw [if_pos hR]
  have b1:gf (cA (ah gR (ao cT (aa (ae 1) ak)) (mC (.int 0)))) (dm "ByNought" (aa (mC (.str "nothing is reduced by nought")) ak)) bB [x,some (.loc r.1)] s = .nx [x,some (.loc r.1)] s:=by
   refine fG (bJ ?_)
   rw [u7 (o:=1) (s1:=s) (by rw [ax (br (v:=.loc r.1) (s1:=s) rfl),c8 (b_ (h r List.mem_cons_self))]; rfl)]
   rfl
  show (match gf _ _ _ [x,some (.loc r.1)] s with
   | .nx μ' av => forL _ _ _ _ μ' av | .ct μ' av => forL _ _ _ _ μ' av | .bk μ' av => .nx μ' av | .rt v av => .rt v av | .er c μ' av => .er c μ' av | .bad => .bad) = _
  rw [b1]
  exact e
theorem C0 {s:ag} {R:Nat} {rows:List ju} (h:my s R rows):PM.aZ [.loc R] s = .ok .bE s:=by
 obtain ⟨y,e⟩:=oC (x:=some (.loc R)) h.1 rows none h.2
 unfold PM.aZ
 rw [a! (np:=1) (us:=[ai.loc R]) rfl]
 show (dD _ _ _ [some (.loc R),none] s).fin = _
 rw [ec,c7,show ae 0 [some (.loc R),none] s = .ok (.loc R) s from rfl,aq,cR h.1,aV,gK,e]
 rfl
theorem mE {s:ag} {R au:Nat} {rows:List ju} {p:Int} {d:Bool} (hp:jr p = true) (h:my s R rows) (G:GoodR p au rows) (m1:1 ≤ au) (hm:au ≤ 8) (hl:rows.length ≤ 4) :
  ∃ (F N:Nat) (s':ag),PM.bp [.int p,.str (bK d),.loc R] s = .ok (.loc F) s' ∧ Xd s s' ∧ s.length ≤ F ∧ F < N ∧ w6 s' N F (cU rows.length 0 rows.length) rows.length:=by
 obtain ⟨g0,c0⟩:=fe hp s
 obtain ⟨s0,N4⟩:∃ s0,s0 = s ++ g0:=⟨_,rfl⟩
 have x0:Xt s s0:=by rw [N4]; exact Xt.app _
 have h0:=x0.rows h
 obtain ⟨n,dS,w,g,s1,e1,x1,P,w1,w2,mm⟩:=mD (d:=d) h0 G m1 hm (by lia)
 have h1:=x1.rows h0
 obtain ⟨ms,s2,e2,l2,x2,o2⟩:=vd (us:=rows.map fun r => ai.loc r.1) hp (by lia) hm rows s1 [] none h1.1 P h1.2 G (fun m q => by cases q)
 obtain ⟨M,hM⟩:∃ M,M = s2.length:=⟨_,rfl⟩
 obtain ⟨s3,iU⟩:∃ s3,s3 = s2 ++ [aT.lst (lV ms)]:=⟨_,rfl⟩
 obtain ⟨F,hF⟩:∃ F,F = s3.length:=⟨_,rfl⟩
 obtain ⟨s4,iV⟩:∃ s4,s4 = s3 ++ [aT.lst []]:=⟨_,rfl⟩
 have x3:Xt s2 s3:=by rw [iU]; exact Xt.app _
 have x4:Xt s3 s4:=by rw [iV]; exact Xt.app _
 have Ko:=x3.trans x4
 have N5:=x2.trans Ko
 have JD:=x1.trans N5
 have l3:s3.length = s2.length + 1:=by rw [iU,List.length_append]; rfl
 have l4:s4.length = s3.length + 1:=by rw [iV,List.length_append]; rfl
 have Mt:ms.length = rows.length:=by rw [l2,List.length_nil]; lia
 have lR:=mz h0.1
 have lP:=b9 P
 have z1:=x1.1
 have z2:=x2.1
 have D:xt s4 n M R s4.length F d dS w g ms (rows.map fun r => ai.loc r.1):=⟨N5.2 _ _ P,x4.items (b_ (by rw [iU,hM]; exact fj _ _)),JD.items h0.1,fun m q => (o2 m q).below Ko.d (by lia),by lia,Nat.le_refl _,by lia,by lia,by lia⟩
 have hf:w6 s4 s4.length F [] ms.length:=⟨[],rfl,by rw [iV,hF]; exact fj _ _,fun l q => by cases q⟩
 obtain ⟨s5,y6,y7,y8,e5,f5,x5⟩:=rA (p:=p) (x1:=some (.str (bK d))) w2 mm (by lia) (by rw [List.length_map]; exact Mt.symm) ms.length 0 s4 [] none none none D hf (by lia) (by rw [List.length_nil]; lia)
 rw [List.nil_append,Mt] at f5
 refine ⟨F,s4.length,s5,?_,⟨Nat.le_trans (x0.trans JD).1 x5.len,fun i c hc e => x5.at_ i c (by have:=b9 e; have:=x0.1; lia) hc ((x0.trans JD).2 i c e),fun z hz => x5.ed z (by have:=hz.lt; have:=x0.1; lia) ((x0.trans JD).d.ed z hz)⟩,by have:=x0.1; lia,by lia,f5⟩
 obtain ⟨o,ho⟩:∃ o:ai,o = .str (bK d):=⟨_,rfl⟩
 have ox:ja o = false:=by rw [ho]; rfl
 have vo:∀ {a b c d e f g h:Option ai} {s:ag},ae 1 [a,some o,b,c,d,e,f,g,h] s = .ok o s:=fun {a b c d e f g h s} => cP rfl ox
 rw [← ho] at e1 e5 ⊢
 have f1:bg (ao PM.bD (aa (ae 0) ak)) [some (.int p),some o,some (.loc R),none,none,none,none,none,none] s = .nx [some (.int p),some o,some (.loc R),none,none,none,none,none,none] s0:=d0 (v:=.bE) (by rw [ax (br (v:=.int p) (s1:=s) rfl),c0,N4])
 have f2:bg (ao PM.bX (aa (ae 1) ak)) [some (.int p),some o,some (.loc R),none,none,none,none,none,none] s0 = .nx [some (.int p),some o,some (.loc R),none,none,none,none,none,none] s0:=d0 (v:=.bE) (by rw [ax (br vo),ho,g7])
 have f3:bg (ao PM.aZ (aa (ae 2) ak)) [some (.int p),some o,some (.loc R),none,none,none,none,none,none] s0 = .nx [some (.int p),some o,some (.loc R),none,none,none,none,none,none] s0:=d0 (v:=.bE) (by rw [ax (br (v:=.loc R) (s1:=s0) rfl),C0 h0])
 have f4:ao PM.dA (aa (ae 1) (aa (ae 2) ak)) [some (.int p),some o,some (.loc R),none,none,none,none,none,none] s0 = .ok (.loc n) s1:=by rw [ax (dP vo (w:=.loc R) (s2:=s0) rfl),e1]
 have f5:bG 1 [3,0] (d_ (ae 2)) (aw 0) aL Kl [some (.int p),some o,some (.loc R),some (.loc n),none,none,none,none,none] s1 = .ok (.loc M) s3:=by
  rw [cO,c7,show ae 2 [some (.int p),some o,some (.loc R),some (.loc n),none,none,none,none,none] s1 = .ok (.loc R) s1 from rfl,aq,cR h1.1,aq,dX,if_pos (by rw [List.length_map,sizeLine_eq]; lia)]
  rw [show e8 1 [3,0] [some (.int p),some o,some (.loc R),some (.loc n),none,none,none,none,none] = [none,some (.loc n),some (.int p)] from rfl]
  rw [show lV [] = ([]:List ai) from rfl] at e2
  rw [e2,aq,iU,hM]
  rfl
 have f7:dD (cD (aa (ao cT (aa (ae 2) ak)) ak)) (aw 6) Ha [some (.int p),some o,some (.loc R),some (.loc n),some (.loc M),some (.loc F),none,none,none] s4 = .nx [some (.int p),some o,some (.loc R),some (.loc n),some (.loc M),some (.loc F),y6,y7,y8] s5:=by
  rw [ec,iT (j:=((rows.map fun r => ai.loc r.1).length:Int)) (s1:=s4) (br (by rw [ax (br (v:=.loc R) (s1:=s4) rfl),c8 (JD.items h0.1)])) (by lia) (by rw [List.length_map]; lia),aV,gK,Int.toNat_natCast,g8,List.length_map,← Mt]
  exact e5
 unfold PM.bp
 rw [a! (np:=3) (us:=[ai.int p,o,.loc R]) rfl]
 show (az (bg _) (az (bg _) (az (bg _) (az (aM 3 _) (az (aM 4 (bG 1 [3,0] (d_ (ae 2)) (aw 0) aL Kl)) (az (aM 5 (bF ak)) (az (dD _ (aw 6) Ha) (aY (ae 5)))))))) [some (.int p),some o,some (.loc R),none,none,none,none,none,none] s).fin = _
 rw [aA,f1,aB,aA,f2,aB,aA,f3,aB,aA,aW f4,aB]
 show (az (aM 4 _) _ [some (.int p),some o,some (.loc R),some (.loc n),none,none,none,none,none] s1).fin = _
 rw [aA,aW f5,aB]
 show (az (aM 5 _) _ [some (.int p),some o,some (.loc R),some (.loc n),some (.loc M),none,none,none,none] s3).fin = _
 rw [aA,aW (dq (vs:=[]) (s1:=s3) rfl (by decide)),aB,← iV,← hF]
 show (az (dD _ (aw 6) Ha) _ [some (.int p),some o,some (.loc R),some (.loc n),some (.loc M),some (.loc F),none,none,none] s4).fin = _
 rw [aA,f7,aB]
 rfl
end PG
namespace qW
open PySem PySem.Spec L2 MN PG
open PyProof.Rows hiding St kindOf
theorem rB {n:Nat} {ns:List Int} {k:Int} {st:ag} (h:aj st n = some (ns.map ai.int)) (k0:0 ≤ k) (k1:k ≤ 1000) (hl:ns.length ≤ 1000) :
  ∃ o,PM.a9 [.loc n,.int k] st = .ok (.int o) (st ++ [.lst []]) ∧ 0 ≤ o:=by
 obtain ⟨s1,c5⟩:∃ s1,s1 = st ++ [aT.lst []]:=⟨_,rfl⟩
 have h1:aj s1 n = some (ns.map ai.int):=by rw [c5]; exact (Xt.app _).items h
 have hn:aj s1 st.length = some []:=by rw [c5]; exact aQ st _
 have N6:∀ x y:Option ai,cA (ah ij (ae 0) (bF ak)) [some (.loc n),some (.int k),x,y] st = .ok (!(ns.map ai.int).isEmpty) s1:=fun x y => by
  refine bJ ?_
  rw [ay (x:=.loc n) (s1:=st) rfl (dq (vs:=[]) (s1:=st) rfl (by decide)),← c5,ne_nil h1 hn]
 obtain ⟨c,f2⟩:∃ c:Int,gf (cA (ah ij (ae 0) (bF ak))) (aM 2 (ah bR (ae 0) (ah cg (ae 1) (ao cT (aa (ae 0) ak))))) bB [some (.loc n),some (.int k),some (.int 0),none] st = .nx [some (.loc n),some (.int k),some (.int c),none] s1:=by
  cases ns with
  | nil => exact ⟨0,by rw [fG (N6 _ _)]⟩
  | cons a ns =>
   have q:=fF (m:=(((a :: ns).length:Nat):Int)) (by rw [List.length_cons]; lia) k
   obtain ⟨c,hc⟩:=CI (ns:=a :: ns) q.1 q.2
   refine ⟨c,?_⟩
   rw [mq (N6 _ _)]
   have m:ah cg (ae 1) (ao cT (aa (ae 0) ak)) [some (.loc n),some (.int k),some (.int 0),none] s1 = .ok (.int (k.fmod (((a :: ns).length:Nat):Int))) s1:=by
    rw [ay (x:=.int k) (s1:=s1) rfl (y:=.int (((a :: ns).map ai.int).length:Int)) (s2:=s1) (by rw [ax (br (v:=.loc n) (s1:=s1) rfl),c8 h1]),List.length_map]
    exact iR (by rw [List.length_cons]; lia)
   rw [aW (v:=.int c) (s1:=s1) (by rw [ay (x:=.loc n) (s1:=s1) rfl m]; exact iS h1 hc)]
   rfl
 have q1:=fF (m:=2147483647) (by decide) (c * 48271 + (k + 1) * 7919)
 generalize hx:(c * 48271 + (k + 1) * 7919).fmod 2147483647 = x at q1
 have q2:=fF (m:=2147483629) (by decide) (x * x)
 have q3:=fF (m:=2147483647) (by decide) ((x * x).fmod 2147483629 * 48271)
 generalize hy:((x * x).fmod 2147483629 * 48271).fmod 2147483647 = y at q3
 have q4:=fF (m:=2147483629) (by decide) (y * y)
 refine ⟨y * 2147483629 + (y * y).fmod 2147483629,?_,by lia⟩
 have e1:ah cg (ah bV (ah cF (ae 2) (mC (.int 48271))) (ah cF (ah bV (ae 1) (mC (.int 1))) (mC (.int 7919)))) (mC (.int 2147483647)) [some (.loc n),some (.int k),some (.int c),none] s1 = .ok (.int x) s1:=by
  rw [ff (o:=c * 48271 + (k + 1) * 7919) (s1:=s1) (by
   rw [ay (x:=.int (c * 48271)) (s1:=s1) (by rw [ay (x:=.int c) (s1:=s1) rfl (y:=.int 48271) (s2:=s1) rfl,mul_r (by decide) (by decide)]) (y:=.int ((k + 1) * 7919)) (s2:=s1) (by rw [ay (x:=.int (k + 1)) (s1:=s1) rfl (y:=.int 7919) (s2:=s1) rfl,mul_r (by decide) (by decide)])]
   rfl) (by decide),hx]
 have e2:ah cg (ah cF (ah cg (ah cF (ae 3) (ae 3)) (mC (.int 2147483629))) (mC (.int 48271))) (mC (.int 2147483647)) [some (.loc n),some (.int k),some (.int c),some (.int x)] s1 = .ok (.int y) s1:=by
  have a:ah cg (ah cF (ae 3) (ae 3)) (mC (.int 2147483629)) [some (.loc n),some (.int k),some (.int c),some (.int x)] s1 = .ok (.int ((x * x).fmod 2147483629)) s1:=ff (by rw [ay (x:=.int x) (s1:=s1) rfl (y:=.int x) (s2:=s1) rfl,uU (by lia) (by lia)]) (by decide)
  rw [ff (o:=(x * x).fmod 2147483629 * 48271) (s1:=s1) (by rw [ay a (y:=.int 48271) (s2:=s1) rfl,mul_r (by decide) (by decide)]) (by decide),hy]
 have e3:ah bV (ah cF (ae 3) (mC (.int 2147483629))) (ah cg (ah cF (ae 3) (ae 3)) (mC (.int 2147483629))) [some (.loc n),some (.int k),some (.int c),some (.int y)] s1 = .ok (.int (y * 2147483629 + (y * y).fmod 2147483629)) s1:=by
  rw [ay (x:=.int (y * 2147483629)) (s1:=s1) (by rw [ay (x:=.int y) (s1:=s1) rfl (y:=.int 2147483629) (s2:=s1) rfl,mul_r (by decide) (by decide)]) (ff (o:=y * y) (s1:=s1) (by rw [ay (x:=.int y) (s1:=s1) rfl (y:=.int y) (s2:=s1) rfl,uU (by lia) (by lia)]) (by decide))]
  rfl
 unfold PM.a9
 rw [a! (np:=2) (us:=[ai.loc n,.int k]) rfl,← c5]
 show (az (aM 2 (mC (.int 0))) (az _ (az (aM 3 _) (az (aM 3 _) (aY _)))) [some (.loc n),some (.int k),none,none] st).fin = _
 rw [aA,aW (v:=.int 0) (s1:=st) rfl,aB]
 show (az _ (az (aM 3 _) (az (aM 3 _) (aY _))) [some (.loc n),some (.int k),some (.int 0),none] st).fin = _
 rw [aA,f2,aB,aA,aW e1,aB]
 show (az (aM 3 _) (aY _) [some (.loc n),some (.int k),some (.int c),some (.int x)] s1).fin = _
 rw [aA,aW e2,aB]
 show (aY _ [some (.loc n),some (.int k),some (.int c),some (.int y)] s1).fin = _
 rw [ee e3]
 rfl
theorem DR {α:Type} {μ:MN.Env} {s s1 s2:ag} {l mi:ME} {q:Nat} {as:List α} {f:α → ai} {i:Int} (h1:l μ s = .ok (.loc q) s1) (h2:mi μ s1 = .ok (.int i) s2) (hq:aj s2 q = some (as.map f)) (i0:0 ≤ i) (i1:i < (as.length:Int)) :
  ∃ a ∈ as,ah bR l mi μ s = .ok (f a) s2:=by
 obtain ⟨j,hj⟩:∃ j:Nat,(j:Int) = i:=⟨i.toNat,by lia⟩
 have lj:j < as.length:=by lia
 refine ⟨as[j],List.getElem_mem lj,?_⟩
 rw [ay h1 h2,← hj]
 exact iS hq (fq (by rw [List.getElem?_map,List.getElem?_eq_getElem lj]; rfl))
theorem iW {α:Type} {μ:MN.Env} {s:ag} {a:MA} {mi:ME} {as:List α} {f:α → ai} {i:Int} (h1:a μ s = .ok (as.map f) s) (h2:∀ s,mi μ s = .ok (.int i) s) (hl:as.length ≤ 1000) (i0:0 ≤ i) (i1:i < (as.length:Int)) :
  ∃ x ∈ as,ah bR (bF a) mi μ s = .ok (f x) (s ++ [.lst (as.map f)]) :=
 DR (dq h1 (by rw [List.length_map]; exact hl)) (h2 _) (aQ s _) i0 i1
end qW
namespace qW
open PySem PySem.Spec L2 MN PG
open PyProof.Rows hiding St kindOf
noncomputable def iN (n:Nat):ai:=.int (n:Int)
noncomputable def jv:List Int:=[7,3,2,5,13,97,11,17,19,23,29,31,37,41,43,47,53,59,61,67,71,73,79,83,89]
theorem w9:∀ p ∈ jv,jr p = true ∧ 2 ≤ p ∧ p ≤ 97:=by decide +kernel
noncomputable def gN (p:Int) (d:Bool) (au top t c:Nat):ai:=.tup [.int p,.str (bK d),iN au,iN top,iN t,iN c]
theorem Ah {ns:List Int} {s:ag} {S:Nat} (h:aj s S = some (ns.map ai.int)) (hl:ns.length ≤ 1000) :
  ∃ (p:Int) (d:Bool) (au top t c:Nat) (s':ag),PM.fY [.loc S] s = .ok (gN p d au top t c) s' ∧ Xt s s' ∧ jr p = true ∧ 2 ≤ p ∧ p ≤ 97 ∧ 1 ≤ au ∧ au ≤ 3 ∧ top ≤ 8:=by
 obtain ⟨s1,c5⟩:∃ s1,s1 = s ++ [aT.lst (jv.map ai.int)]:=⟨_,rfl⟩
 have x1:Xt s s1:=by rw [c5]; exact Xt.app _
 have hP:aj s1 s.length = some (jv.map ai.int):=by rw [c5]; exact aQ s _
 obtain ⟨cell,c1,c0⟩:=rB (k:=1) (x1.items h) (by decide) (by decide) hl
 obtain ⟨s2,bT⟩:∃ s2,s2 = s1 ++ [aT.lst []]:=⟨_,rfl⟩
 rw [← bT] at c1
 have x2:Xt s1 s2:=by rw [bT]; exact Xt.app _
 have qk:=fF (m:=8) (by decide) (cell.fdiv 2)
 have qd:=fF (m:=2) (by decide) cell
 obtain ⟨kind,hk⟩:∃ kind,kind = (cell.fdiv 2).fmod 8:=⟨_,rfl⟩
 rw [← hk] at qk
 obtain ⟨μ,hμ⟩:∃ μ:MN.Env → MN.Env,μ = fun r => some (.loc S) :: some (.loc s.length) :: some (.int cell) :: r:=⟨_,rfl⟩
 have f3:ah cg (ah dQ (ae 2) (mC (.int 2))) (mC (.int 8)) (μ [none,none,none,none,none,none]) s2 = .ok (.int kind) s2:=by
  rw [ff (pC (o:=cell) (s1:=s2) (by rw [hμ]; rfl) (z9 (by decide) (by decide))) (by decide),hk]
 obtain ⟨d,_,f4⟩:=iW (μ:=μ [some (.int kind),none,none,none,none,none]) (s:=s2) (a:=aa (mC (.str "lex")) (aa (mC (.str "deg")) ak)) (mi:=ah cg (ae 2) (mC (.int 2))) (as:=[false,true]) (f:=fun d => .str (bK d)) (i:=cell.fmod 2) rfl (fun s => ff (by rw [hμ]; rfl) (by decide)) (by decide) qd.1 qd.2
 obtain ⟨s3,iU⟩:∃ s3,s3 = s2 ++ [aT.lst ([false,true].map fun d => ai.str (bK d))]:=⟨_,rfl⟩
 rw [← iU] at f4
 obtain ⟨au,im,f5⟩:=iW (μ:=μ [some (.int kind),some (.str (bK d)),none,none,none,none]) (s:=s3) (a:=aa (mC (.int 2)) (aa (mC (.int 1)) (aa (mC (.int 2)) (aa (mC (.int 3)) (aa (mC (.int 2)) (aa (mC (.int 1)) (aa (mC (.int 3)) (aa (mC (.int 1)) ak)))))))) (mi:=ae 3) (as:=[2,1,2,3,2,1,3,1]) (f:=iN) (i:=kind) rfl (fun s => by rw [hμ]; rfl) (by decide) qk.1 qk.2
 obtain ⟨s4,iV⟩:∃ s4,s4 = s3 ++ [aT.lst ([2,1,2,3,2,1,3,1].map iN)]:=⟨_,rfl⟩
 rw [← iV] at f5
 obtain ⟨top,it,f6⟩:=iW (μ:=μ [some (.int kind),some (.str (bK d)),some (iN au),none,none,none]) (s:=s4) (a:=aa (mC (.int 2)) (aa (mC (.int 4)) (aa (mC (.int 2)) (aa (mC (.int 1)) (aa (mC (.int 1)) (aa (mC (.int 8)) (aa (mC (.int 1)) (aa (mC (.int 3)) ak)))))))) (mi:=ae 3) (as:=[2,4,2,1,1,8,1,3]) (f:=iN) (i:=kind) rfl (fun s => by rw [hμ]; rfl) (by decide) qk.1 qk.2
 obtain ⟨s5,tY⟩:∃ s5,s5 = s4 ++ [aT.lst ([2,4,2,1,1,8,1,3].map iN)]:=⟨_,rfl⟩
 rw [← tY] at f6
 obtain ⟨t,_,f7⟩:=iW (μ:=μ [some (.int kind),some (.str (bK d)),some (iN au),some (iN top),none,none]) (s:=s5) (a:=aa (mC (.int 3)) (aa (mC (.int 4)) (aa (mC (.int 2)) (aa (mC (.int 2)) (aa (mC (.int 4)) (aa (mC (.int 8)) (aa (mC (.int 2)) (aa (mC (.int 3)) ak)))))))) (mi:=ae 3) (as:=[3,4,2,2,4,8,2,3]) (f:=iN) (i:=kind) rfl (fun s => by rw [hμ]; rfl) (by decide) qk.1 qk.2
 obtain ⟨s6,Hb⟩:∃ s6,s6 = s5 ++ [aT.lst ([3,4,2,2,4,8,2,3].map iN)]:=⟨_,rfl⟩
 rw [← Hb] at f7
 have x6:Xt s1 s6:=x2.trans ((show Xt s2 s3 by rw [iU]; exact Xt.app _).trans ((show Xt s3 s4 by rw [iV]; exact Xt.app _).trans ((show Xt s4 s5 by rw [tY]; exact Xt.app _).trans (show Xt s5 s6 by rw [Hb]; exact Xt.app _))))
 obtain ⟨o0,c3,c4⟩:=rB (k:=0) ((x1.trans x6).items h) (by decide) (by decide) hl
 obtain ⟨s7,Hc⟩:∃ s7,s7 = s6 ++ [aT.lst []]:=⟨_,rfl⟩
 rw [← Hc] at c3
 have x7:Xt s1 s7:=x6.trans (by rw [Hc]; exact Xt.app _)
 have q0:=fF (m:=25) (by decide) o0
 obtain ⟨p,ip,f8⟩:=DR (μ:=μ [some (.int kind),some (.str (bK d)),some (iN au),some (iN top),some (iN t),none]) (s:=s6) (s1:=s6) (s2:=s7) (l:=ae 1) (mi:=ah cg (ao PM.a9 (aa (ae 0) (aa (mC (.int 0)) ak))) (mC (.int 25))) (q:=s.length) (as:=jv) (f:=ai.int) (i:=o0.fmod 25) (by rw [hμ]; rfl) (ff (by rw [ax (vs:=[.loc S,.int 0]) (s1:=s6) (by rw [hμ]; rfl),c3]) (by decide)) (x7.items hP) q0.1 q0.2
 obtain ⟨c,_,f9⟩:=iW (μ:=μ [some (.int kind),some (.str (bK d)),some (iN au),some (iN top),some (iN t),some (.int p)]) (s:=s7) (a:=aa (mC (.int 2)) (aa (mC (.int 3)) (aa (mC (.int 3)) (aa (mC (.int 3)) (aa (mC (.int 2)) (aa (mC (.int 2)) (aa (mC (.int 3)) (aa (mC (.int 4)) ak)))))))) (mi:=ae 3) (as:=[2,3,3,3,2,2,3,4]) (f:=iN) (i:=kind) rfl (fun s => by rw [hμ]; rfl) (by decide) qk.1 qk.2
 obtain ⟨s8,Ax⟩:∃ s8,s8 = s7 ++ [aT.lst ([2,3,3,3,2,2,3,4].map iN)]:=⟨_,rfl⟩
 rw [← Ax] at f9
 obtain ⟨p1,p2,p3⟩:=w9 p ip
 refine ⟨p,d,au,top,t,c,s8,?_,x1.trans (x7.trans (by rw [Ax]; exact Xt.app _)),p1,p2,p3,(show ∀ m ∈ [2,1,2,3,2,1,3,1],1 ≤ m by decide) _ im,(show ∀ m ∈ [2,1,2,3,2,1,3,1],m ≤ 3 by decide) _ im,(show ∀ m ∈ [2,4,2,1,1,8,1,3],m ≤ 8 by decide) _ it⟩
 have sx:ja (ai.str (bK d)) = false:=rfl
 unfold PM.fY
 rw [a! (np:=1) (us:=[ai.loc S]) rfl]
 show (az (aM 1 _) (az (aM 2 _) (az (aM 3 _) (az (aM 4 _) (az (aM 5 _) (az (aM 6 _) (az (aM 7 _) (az (aM 8 _) (aY _)))))))) [some (.loc S),none,none,none,none,none,none,none,none] s).fin = _
 rw [aA,aW (v:=.loc s.length) (s1:=s1) (by rw [dq (vs:=jv.map ai.int) (s1:=s) rfl (by decide),c5]),aB]
 rw [aA,aW (v:=.int cell) (s1:=s2) (by rw [ax (vs:=[.loc S,.int 1]) (s1:=s1) rfl,c1]),aB]
 rw [show List.set (List.set [some (ai.loc S),none,none,none,none,none,none,none,none] 1 (some (.loc s.length))) 2 (some (.int cell)) = μ [none,none,none,none,none,none] by rw [hμ]; rfl]
 rw [aA,aW f3,aB,show (μ [none,none,none,none,none,none]).set 3 (some (.int kind)) = μ [some (.int kind),none,none,none,none,none] by rw [hμ]; rfl]
 rw [aA,aW f4,aB,show (μ [some (.int kind),none,none,none,none,none]).set 4 (some (.str (bK d))) = μ [some (.int kind),some (.str (bK d)),none,none,none,none] by rw [hμ]; rfl]
 rw [aA,aW f5,aB,show (μ [some (.int kind),some (.str (bK d)),none,none,none,none]).set 5 (some (iN au)) = μ [some (.int kind),some (.str (bK d)),some (iN au),none,none,none] by rw [hμ]; rfl]
 rw [aA,aW f6,aB,show (μ [some (.int kind),some (.str (bK d)),some (iN au),none,none,none]).set 6 (some (iN top)) = μ [some (.int kind),some (.str (bK d)),some (iN au),some (iN top),none,none] by rw [hμ]; rfl]
 rw [aA,aW f7,aB,show (μ [some (.int kind),some (.str (bK d)),some (iN au),some (iN top),none,none]).set 7 (some (iN t)) = μ [some (.int kind),some (.str (bK d)),some (iN au),some (iN top),some (iN t),none] by rw [hμ]; rfl]
 rw [aA,aW f8,aB,show (μ [some (.int kind),some (.str (bK d)),some (iN au),some (iN top),some (iN t),none]).set 8 (some (.int p)) = μ [some (.int kind),some (.str (bK d)),some (iN au),some (iN top),some (iN t),some (.int p)] by rw [hμ]; rfl]
 rw [ee (v:=gN p d au top t c) (s1:=s8) (jT (cb (v:=.int p) (s1:=s7) (by rw [hμ]; rfl) (cb (v:=.str (bK d)) (s1:=s7) (by rw [hμ]; exact cP rfl sx) (cb (v:=iN au) (s1:=s7) (by rw [hμ]; rfl) (cb (v:=iN top) (s1:=s7) (by rw [hμ]; rfl) (dP (v:=iN t) (s1:=s7) (by rw [hμ]; rfl) f9))))) (by show 6 ≤ 1000; decide))]
 rfl
noncomputable abbrev JE:MB:=az (bg (ik c6 (ae 2) (aa (ah cg (ae 0) (ah bV (ah bR (ae 1) (mC (.int 3))) (mC (.int 1)))) ak))) (aM 0 (ah dQ (ae 0) (ah bV (ah bR (ae 1) (mC (.int 3))) (mC (.int 1)))))
section
variable {p:Int} {d:Bool} {au top t c:Nat}
theorem vf {E:Nat} (ht:top ≤ 8):∀ (m:Nat) (us:List ai) (x:Int) (es:List Nat) (s:ag) (y:Option ai),us.length = m → s[E]? = some (.lst (nV es)) → (∀ e ∈ es,e ≤ 8) → es.length + m ≤ 100 →
  ∃ (x':Int) (Ar:List Nat) (s':ag) (y':Option ai),forL (fun _ => True) (aw 3) JE us [some (.int x),some (gN p d au top t c),some (.loc E),y] s = .nx [some (.int x'),some (gN p d au top t c),some (.loc E),y'] s' ∧ s'[E]? = some (.lst (nV Ar)) ∧ Ar.length = es.length + m ∧ (∀ e ∈ Ar,e ≤ 8) ∧ Xb E s s'
 | 0,[],x,es,s,y,_,hE,he,_ => ⟨x,es,s,y,by unfold forL; rw [if_pos trivial],hE,rfl,he,Nat.le_refl _,fun _ _ _ e => e⟩
 | 0,u :: us,_,_,_,_,h,_,_,_ => by cases h
 | m + 1,[],_,_,_,_,h,_,_,_ => by cases h
 | m + 1,u :: us,x,es,s,y,hu,hE,he,hl => by
  have q:=fF (m:=(top:Int) + 1) (by lia) x
  obtain ⟨e,Pu⟩:∃ e:Nat,(e:Int) = x.fmod ((top:Int) + 1):=⟨(x.fmod ((top:Int) + 1)).toNat,by lia⟩
  obtain ⟨s1,c5⟩:∃ s1,s1 = s.set E (.lst (nV (es ++ [e]))):=⟨_,rfl⟩
  have t1:∀ s',ah bV (ah bR (ae 1) (mC (.int 3))) (mC (.int 1)) [some (.int x),some (gN p d au top t c),some (.loc E),some u] s' = .ok (.int ((top:Int) + 1)) s':=fun s' => by
   rw [ay (x:=iN top) (s1:=s') (by rw [ay (x:=gN p d au top t c) (s1:=s') rfl (y:=.int 3) (s2:=s') rfl]; rfl) (y:=.int 1) (s2:=s') rfl]
   rfl
  have b1:bg (ik c6 (ae 2) (aa (ah cg (ae 0) (ah bV (ah bR (ae 1) (mC (.int 3))) (mC (.int 1)))) ak)) [some (.int x),some (gN p d au top t c),some (.loc E),some u] s = .nx [some (.int x),some (gN p d au top t c),some (.loc E),some u] s1:=by
   rw [tW (n:=E) (us:=nV es) (v:=.int (e:Int)) (s1:=s) rfl hE (br (by rw [ay (x:=.int x) (s1:=s) rfl (t1 s),iR (by lia),Pu])) hE (by unfold nV; rw [List.length_map]; lia),c5]
   unfold nV
   rw [List.map_append]
   rfl
  have b2:aM 0 (ah dQ (ae 0) (ah bV (ah bR (ae 1) (mC (.int 3))) (mC (.int 1)))) [some (.int x),some (gN p d au top t c),some (.loc E),some u] s1 = .nx [some (.int (x.fdiv ((top:Int) + 1))),some (gN p d au top t c),some (.loc E),some u] s1:=by
   rw [aW (v:=.int (x.fdiv ((top:Int) + 1))) (s1:=s1) (by
    rw [ay (x:=.int x) (s1:=s1) rfl (t1 s1)]
    show (if Dz ((top:Int) + 1) then bH.ok (ai.int (x.fdiv ((top:Int) + 1))) s1 else .bad) = _
    rw [if_pos (z9 (by lia) (by lia))])]
   rfl
  obtain ⟨x',Ar,s2,y',f2,h2,l2,k2,xb⟩:=vf ht m us (x.fdiv ((top:Int) + 1)) (es ++ [e]) s1 (some u) (by simpa using hu) (by rw [c5]; exact List.getElem?_set_self (b9 hE)) (fun z hz => by
   rcases List.mem_append.mp hz with hz | hz
   ·exact he z hz
   ·rw [List.mem_singleton.mp hz]; lia) (by rw [List.length_append]; show es.length + 1 + m ≤ 100; lia)
  refine ⟨x',Ar,s2,y',?_,h2,by rw [l2]; simp only [List.length_append,List.length_cons,List.length_nil]; lia,k2,⟨by have:=xb.1; rw [c5,List.length_set] at this; exact this,fun i c' hi e' => xb.2 i c' hi (by rw [c5]; exact bj e' (fun z => hi z.symm))⟩⟩
  unfold forL
  rw [if_pos trivial]
  show (match JE [some (.int x),some (gN p d au top t c),some (.loc E),some u] s with
   | .nx μ' av => forL _ _ _ _ μ' av | .ct μ' av => forL _ _ _ _ μ' av | .bk μ' av => .nx μ' av | .rt v av => .rt v av | .er c μ' av => .er c μ' av | .bad => .bad) = _
  have b3:JE [some (.int x),some (gN p d au top t c),some (.loc E),some u] s = .nx [some (.int (x.fdiv ((top:Int) + 1))),some (gN p d au top t c),some (.loc E),some u] s1:=by
   show az _ _ _ s = _
   rw [aA,b1,aB,b2]
  rw [b3]
  exact f2
theorem C1 {x:Int} {s:ag} (ht:top ≤ 8) (hm:au ≤ 3) (p2:2 ≤ p) (p3:p ≤ 97) :
  ∃ (es:List Nat) (k:Int) (s':ag),PM.fX [.int x,gN p d au top t c] s = .ok (.tup [.tup (nV es),.int k]) s' ∧ Xt s s' ∧ es.length = au ∧ (∀ e ∈ es,e ≤ 8) ∧ 1 ≤ k ∧ k < p:=by
 obtain ⟨s1,c5⟩:∃ s1,s1 = s ++ [aT.lst []]:=⟨_,rfl⟩
 obtain ⟨x',es,s2,y,f,h2,l2,k2,xb⟩:=vf (p:=p) (d:=d) (au:=au) (t:=t) (c:=c) (E:=s.length) ht au (cj 0 au) x [] s1 none (by unfold cj; rw [List.length_map,List.length_range]) (by rw [c5]; exact fj _ _) (fun e m => by cases m) (by rw [List.length_nil]; lia)
 have q:=fF (m:=p - 1) (by lia) x'
 refine ⟨es,1 + x'.fmod (p - 1),s2,?_,⟨by have:=xb.1; rw [c5,List.length_append] at this; lia,fun i c' e => xb.2 i c' (by have:=b9 e; lia) (by rw [c5]; exact dY e _)⟩,by rw [l2,List.length_nil]; lia,k2,by lia,by lia⟩
 unfold PM.fX
 rw [a! (np:=2) (us:=[ai.int x,gN p d au top t c]) rfl]
 show (az (aM 2 (bF ak)) (az (dD _ (aw 3) JE) (aY _)) [some (.int x),some (gN p d au top t c),none,none] s).fin = _
 rw [aA,aW (dq (vs:=[]) (s1:=s) rfl (by decide)),aB,← c5]
 show (az (dD _ (aw 3) JE) (aY _) [some (.int x),some (gN p d au top t c),some (.loc s.length),none] s1).fin = _
 rw [aA,ec,iT (j:=(au:Int)) (s1:=s1) (br (v:=iN au) (s1:=s1) (by rw [ay (x:=gN p d au top t c) (s1:=s1) rfl (y:=.int 2) (s2:=s1) rfl]; rfl)) (by lia) (by lia),aV,gK,Int.toNat_natCast,f,aB]
 rw [ee (v:=.tup [.tup (nV es),.int (1 + x'.fmod (p - 1))]) (s1:=s2) (jT (dP (v:=.tup (nV es)) (s1:=s2) (by rw [ax (br (v:=.loc s.length) (s1:=s2) rfl)]; exact pb (b_ h2)) (w:=.int (1 + x'.fmod (p - 1))) (s2:=s2) (by
  rw [ay (x:=.int 1) (s1:=s2) rfl (y:=.int (x'.fmod (p - 1))) (s2:=s2) (by
   rw [ay (x:=.int x') (s1:=s2) rfl (y:=.int (p - 1)) (s2:=s2) (by rw [ay (x:=.int p) (s1:=s2) (by rw [ay (x:=gN p d au top t c) (s1:=s2) rfl (y:=.int 0) (s2:=s2) rfl]; rfl) (y:=.int 1) (s2:=s2) rfl]; rfl),iR (by lia)])]
  rfl)) (by show 2 ≤ 1000; decide))]
 rfl
end
end qW
namespace qW
open PySem PySem.Spec L2 MN PG
open PyProof.Rows hiding St kindOf
noncomputable abbrev Mu:ME:=bF (aa (ao PM.fX (aa (ao PM.a9 (aa (ae 1) (aa (ah bV (mC (.int 3)) (ae 0)) ak))) (aa (ae 2) ak))) ak)
section
variable {p:Int} {d:Bool} {au top t c:Nat} {ns:List Int} {S:Nat}
theorem vg (ht:top ≤ 8) (hm:au ≤ 3) (p2:2 ≤ p) (p3:p ≤ 97) (hl:ns.length ≤ 1000):∀ (m j:Nat) (s:ag) (rows:List ju) (x:Option ai),aj s S = some (ns.map ai.int) → j + m ≤ 10 → (∀ r ∈ rows,s[r.1]? = some (.lst [tN r])) → GoodR p au rows →
  ∃ (oE:List ju) (s':ag),a7 (fun _ => True) (aw 0) aL Mu ((List.range' j m).map fun (k:Nat) => ai.int (k:Int)) [x,some (.loc S),some (gN p d au top t c)] s (rows.map fun r => ai.loc r.1) = .ok (oE.map fun r => ai.loc r.1) s' ∧ oE.length = rows.length + m ∧ Xt s s' ∧ (∀ r ∈ oE,s'[r.1]? = some (.lst [tN r])) ∧ GoodR p au oE
 | 0,j,s,rows,x,_,_,hr,G => ⟨rows,s,by show a7 _ _ _ _ [] _ s _ = _; rw [bP (g:=fun _ => True) trivial],rfl,Xt.refl,hr,G⟩
 | m + 1,j,s,rows,x,h,hj,hr,G => by
  obtain ⟨o,c1,c0⟩:=rB (k:=3 + (j:Int)) h (by lia) (by lia) hl
  obtain ⟨es,k,s1,e1,x1,g1,g2,g3,g4⟩:=C1 (d:=d) (t:=t) (c:=c) (x:=o) (s:=s ++ [.lst []]) ht hm p2 p3
  obtain ⟨r,Kp⟩:∃ r:ju,r = (s1.length,es,k):=⟨_,rfl⟩
  obtain ⟨s2,bT⟩:∃ s2,s2 = s1 ++ [aT.lst [tN r]]:=⟨_,rfl⟩
  have x2:Xt s s2:=(Xt.app _).trans (x1.trans (by rw [bT]; exact Xt.app _))
  have el:Mu [some (.int (j:Int)),some (.loc S),some (gN p d au top t c)] s = .ok (.loc r.1) s2:=by
   show bF _ _ s = _
   rw [dq (vs:=[tN r]) (s1:=s1) (br (by
    rw [ax (dP (v:=.int o) (s1:=s ++ [.lst []]) (by
     rw [ax (vs:=[.loc S,.int (3 + (j:Int))]) (s1:=s) rfl,c1]) (w:=gN p d au top t c) (s2:=s ++ [.lst []]) rfl),e1,Kp]
    rfl)) (by show 1 ≤ 1000; decide),bT,Kp]
  obtain ⟨oE,s3,e3,l3,x3,r3,G3⟩:=vg ht hm p2 p3 hl m (j + 1) s2 (rows ++ [r]) (some (.int (j:Int))) (x2.items h) (by lia) (fun q hq => by
   rcases List.mem_append.mp hq with hq | hq
   ·exact x2.2 _ _ (hr q hq)
   ·rw [List.mem_singleton.mp hq,bT,Kp]; exact fj _ _) (fun q hq => by
   rcases List.mem_append.mp hq with hq | hq
   ·exact G q hq
   ·rw [List.mem_singleton.mp hq,Kp]; exact ⟨g1,fun e m => by have:=g2 e m; lia,g3,g4⟩)
  refine ⟨oE,s3,?_,by rw [l3]; simp only [List.length_append,List.length_cons,List.length_nil]; lia,x2.trans x3,r3,G3⟩
  rw [List.range'_succ,List.map_cons,cI (g:=fun _ => True) trivial (show aw 0 (.int (j:Int)) [x,some (.loc S),some (gN p d au top t c)] = some [some (.int (j:Int)),some (.loc S),some (gN p d au top t c)] from rfl) el]
  have:(rows.map fun r => ai.loc r.1) ++ [.loc r.1] = (rows ++ [r]).map fun r => ai.loc r.1:=by rw [List.map_append]; rfl
  rw [this]
  exact e3
end
inductive w_:List ju → List ju → Prop
 | nil:w_ [] []
 | cons {a b:Nat} {e:List Nat × Int} {as bs:List ju} (h:w_ as bs):w_ ((a,e) :: as) ((b,e) :: bs)
theorem w_.len {as bs:List ju} (h:w_ as bs):as.length = bs.length:=by
 induction h with
 | nil => rfl
 | cons _ ih => rw [List.length_cons,List.length_cons,ih]
theorem w_.good {p:Int} {au:Nat} {as bs:List ju} (h:w_ as bs) (G:GoodR p au as):GoodR p au bs:=by
 induction h with
 | nil => exact fun _ m => by cases m
 | @cons a b e as bs h ih =>
  intro r m
  rcases List.mem_cons.mp m with rfl | m
  ·exact G (a,e) List.mem_cons_self
  ·exact ih (fun q hq => G q (List.mem_cons_of_mem _ hq)) r m
theorem w_.snoc {a b:Nat} {e:List Nat × Int} {as bs:List ju} (h:w_ as bs):w_ (as ++ [(a,e)]) (bs ++ [(b,e)]):=by
 induction h with
 | nil => exact .cons .nil
 | cons h ih => exact .cons ih
theorem C2 (r:ju):fb 13 [tN r] = true:=by
 show (qG 13 (tN r) && true) = true
 show ((fb 12 [.tup (nV r.2.1),.int r.2.2]) && true) = true
 show ((fb 11 (nV r.2.1) && (true && true)) && true) = true
 rw [jt,qH]
 rfl
theorem GL {s:ag} {as bs:List ju} (h:w_ as bs) (ha:∀ r ∈ as,s[r.1]? = some (.lst [tN r])) (hb:∀ r ∈ bs,s[r.1]? = some (.lst [tN r])):fT (gu 15 s) (bs.map fun r => ai.loc r.1) (as.map fun r => ai.loc r.1) = some true:=by
 induction h with
 | nil => rfl
 | @cons a b e as bs h ih =>
  rw [List.map_cons,List.map_cons]
  show (match gu 15 s (.loc b) (.loc a),fT (gu 15 s) (bs.map fun r => ai.loc r.1) (as.map fun r => ai.loc r.1) with | some a,some b => some (a && b) | _,_ => none) = _
  rw [ih (fun r m => ha r (List.mem_cons_of_mem _ m)) fun r m => hb r (List.mem_cons_of_mem _ m)]
  have e1:gu 15 s (.loc b) (.loc a) = some true:=by
   unfold gu
   simp only [vw,b_ (ha _ List.mem_cons_self),b_ (hb _ List.mem_cons_self)]
   exact h_ s 13 _ (C2 (a,e))
  rw [e1]
  rfl
theorem vh {R:Nat} {us:List ai}:∀ (rows:List ju) (s:ag) (as bs:List ju) (x:Option ai),aj s R = some us → (∀ r ∈ rows,s[r.1]? = some (.lst [tN r])) → w_ as bs → (∀ r ∈ bs,s[r.1]? = some (.lst [tN r])) →
    ∃ (G4:List ju) (s':ag),a7 (fun av => aj av R = some us) (aw 0) aL (ao sJ (aa (ae 0) ak)) (rows.map fun r => ai.loc r.1) [x] s (bs.map fun r => ai.loc r.1) = .ok (G4.map fun r => ai.loc r.1) s' ∧ w_ (as ++ rows) G4 ∧ Xt s s' ∧ ∀ r ∈ G4,s'[r.1]? = some (.lst [tN r])
  | [],s,as,bs,x,hR,_,hS,hb => ⟨bs,s,by show a7 _ _ _ _ [] _ s _ = _; rw [bP (g:=fun av => aj av R = some us) hR],by rw [List.append_nil]; exact hS,Xt.refl,hb⟩
  | r :: rows,s,as,bs,x,hR,hr,hS,hb => by
    obtain ⟨a,e⟩:=r
    have h0:=hr (a,e) List.mem_cons_self
    obtain ⟨s1,c5⟩:∃ s1,s1 = s ++ [aT.lst [tN (a,e)]]:=⟨_,rfl⟩
    have x1:Xt s s1:=by rw [c5]; exact Xt.app _
    obtain ⟨G4,s2,e2,S2,x2,b2⟩:=vh rows s1 (as ++ [(a,e)]) (bs ++ [(s.length,e)]) (some (.loc a)) (x1.items hR) (fun q m => x1.2 _ _ (hr q (List.mem_cons_of_mem _ m))) hS.snoc (fun q m => by
      rcases List.mem_append.mp m with m | m
      · exact x1.2 _ _ (hb q m)
      · rw [List.mem_singleton.mp m,c5]; exact fj _ _)
    refine ⟨G4,s2,?_,by rw [List.append_assoc] at S2; exact S2,x1.trans x2,b2⟩
    rw [List.map_cons,cI (g:=fun av => aj av R = some us) hR (show aw 0 (.loc a) [x] = some [some (.loc a)] from rfl) (show ao sJ (aa (ae 0) ak) [some (.loc a)] s = .ok (.loc s.length) s1 by
      rw [ax (br (v:=.loc a) (s1:=s) rfl)]
      unfold sJ
      dsimp only
      rw [b_ h0,c5])]
    have:(bs.map fun r => ai.loc r.1) ++ [.loc s.length] = (bs ++ [(s.length,e)]).map fun r => ai.loc r.1:=by rw [List.map_append]; rfl
    rw [this]
    exact e2
theorem rC:∀ (vs:List ai) (s:ag) (zs:List Nat) (x:Option ai),(∀ z ∈ zs,s[z]? = some (.lst [])) →
  ∃ (Af:List Nat) (s':ag),a7 (fun _ => True) (aw 0) aL (bF ak) vs [x] s (lV zs) = .ok (lV Af) s' ∧ Af.length = zs.length + vs.length ∧ Xt s s' ∧ ∀ z ∈ Af,s'[z]? = some (.lst [])
 | [],s,zs,x,hz => ⟨zs,s,by rw [bP (g:=fun _ => True) trivial],rfl,Xt.refl,hz⟩
 | v :: vs,s,zs,x,hz => by
  obtain ⟨s1,c5⟩:∃ s1,s1 = s ++ [aT.lst []]:=⟨_,rfl⟩
  have x1:Xt s s1:=by rw [c5]; exact Xt.app _
  obtain ⟨Af,s2,e2,l2,x2,z2⟩:=rC vs s1 (zs ++ [s.length]) (some v) (fun z m => by
   rcases List.mem_append.mp m with m | m
   ·exact x1.2 _ _ (hz z m)
   ·rw [List.mem_singleton.mp m,c5]; exact fj _ _)
  refine ⟨Af,s2,?_,by rw [l2]; simp only [List.length_append,List.length_cons,List.length_nil]; lia,x1.trans x2,z2⟩
  rw [cI (g:=fun _ => True) trivial (show aw 0 v [x] = some [some v] from rfl) (show bF ak [some v] s = .ok (.loc s.length) s1 by rw [dq (vs:=[]) (s1:=s) rfl (by decide),c5])]
  have:lV zs ++ [.loc s.length] = lV (zs ++ [s.length]):=by unfold lV; rw [List.map_append]; rfl
  rw [this]
  exact e2
theorem nil_eq {s:ag}:∀ (us zs:List Nat),us.length = zs.length → (∀ u ∈ us,s[u]? = some (.lst [])) → (∀ z ∈ zs,s[z]? = some (.lst [])) → fT (gu 15 s) (lV us) (lV zs) = some true
 | [],[],_,_,_ => rfl
 | [],_ :: _,h,_,_ => by cases h
 | _ :: _,[],h,_,_ => by cases h
 | u :: us,z :: zs,h,hu,hz => by
  show (match gu 15 s (.loc u) (.loc z),fT (gu 15 s) (lV us) (lV zs) with | some a,some b => some (a && b) | _,_ => none) = _
  rw [nil_eq us zs (by simpa using h) (fun q m => hu q (List.mem_cons_of_mem _ m)) fun q m => hz q (List.mem_cons_of_mem _ m)]
  have e1:gu 15 s (.loc u) (.loc z) = some true:=by
   unfold gu
   simp only [vw,b_ (hu _ List.mem_cons_self),b_ (hz _ List.mem_cons_self)]
   rfl
  rw [e1]
  rfl
theorem w! {s:ag} {i j l N k:Nat} (hz:xr s N l k) (hk:k ≤ 100):∃ s',PM.cB [Ag ((i,j),l),.int (i:Int),.int (j:Int),.int (k:Int)] s = .ok (.bl true) s' ∧ Xt s s':=by
 obtain ⟨us,h1,h2,_,h4⟩:=hz
 obtain ⟨zs,s1,e1,l1,x1,z1⟩:=rC (cj 0 k) s [] none (fun z m => by cases m)
 obtain ⟨s2,bT⟩:∃ s2,s2 = s1 ++ [aT.lst (lV zs)]:=⟨_,rfl⟩
 have CW:Xt s1 s2:=by rw [bT]; exact Xt.app _
 have x2:=x1.trans CW
 refine ⟨s2,?_,x2⟩
 obtain ⟨f,hf⟩:∃ f:ai,f = Ag ((i,j),l):=⟨_,rfl⟩
 have fx:ja f = false:=by rw [hf]; rfl
 obtain ⟨μ,hμ⟩:∃ μ:MN.Env,μ = [some f,some (.int (i:Int)),some (.int (j:Int)),some (.int (k:Int))]:=⟨_,rfl⟩
 have v0:∀ s,ae 0 μ s = .ok f s:=fun s => by rw [hμ]; exact cP rfl fx
 have i0:∀ s,ah bR (ae 0) (mC (.int 0)) μ s = .ok (.int (i:Int)) s:=fun s => by rw [ay (v0 s) (y:=.int 0) (s2:=s) rfl,hf]; rfl
 have i1:∀ s,ah bR (ae 0) (mC (.int 1)) μ s = .ok (.int (j:Int)) s:=fun s => by rw [ay (v0 s) (y:=.int 1) (s2:=s) rfl,hf]; rfl
 have i2:∀ s,ah bR (ae 0) (mC (.int 2)) μ s = .ok (.loc l) s:=fun s => by rw [ay (v0 s) (y:=.int 2) (s2:=s) rfl,hf]; rfl
 have wh:∀ (x:Int) (s:ag),PM.dz [.int x] s = .ok (.bl true) s:=fun x s => by
  unfold PM.dz
  rw [a! (np:=1) (us:=[ai.int x]) rfl]
  rfl
 have t1:cE (cA (xq "tuple" (ae 0))) μ s = .ok false s:=km (bJ (by
  unfold xq
  rw [v0,hf]
  rfl))
 have t2:cA (ah ij (ao cT (aa (ae 0) ak)) (mC (.int 3))) μ s = .ok false s:=bJ (by
  rw [ay (x:=.int 3) (s1:=s) (by rw [ax (br (v0 s)),hf]; rfl) (y:=.int 3) (s2:=s) rfl]
  rfl)
 have t3:cE (cA (ao PM.dz (aa (ah bR (ae 0) (mC (.int 0))) ak))) μ s = .ok false s:=km (bJ (by rw [ax (br (i0 s)),wh]))
 have t4:cE (cA (ao PM.dz (aa (ah bR (ae 0) (mC (.int 1))) ak))) μ s = .ok false s:=km (bJ (by rw [ax (br (i1 s)),wh]))
 have r1:ah gR (ah bR (ae 0) (mC (.int 0))) (ae 1) μ s = .ok (.bl true) s:=by
  rw [ay (i0 s) (y:=.int (i:Int)) (s2:=s) (by rw [hμ]; rfl),lW]
  simp
 have r2:ah gR (ah bR (ae 0) (mC (.int 1))) (ae 2) μ s = .ok (.bl true) s:=by
  rw [ay (i1 s) (y:=.int (j:Int)) (s2:=s) (by rw [hμ]; rfl),lW]
  simp
 have cp:bG 1 [] (cD (aa (ae 3) ak)) (aw 0) aL (bF ak) μ s = .ok (.loc s1.length) s2:=by
  rw [cO,iT (j:=(k:Int)) (s1:=s) (by rw [hμ]; rfl) (by lia) (by lia),aq,dX,Int.toNat_natCast,if_pos (by unfold cj; rw [List.length_map,List.length_range,sizeLine_eq]; lia)]
  rw [show e8 1 [] μ = [none] from rfl]
  rw [show lV [] = ([]:List ai) from rfl] at e1
  rw [e1,aq,bT]
  rfl
 have r3:ah gR (ah bR (ae 0) (mC (.int 2))) (bG 1 [] (cD (aa (ae 3) ak)) (aw 0) aL (bF ak)) μ s = .ok (.bl true) s2:=by
  rw [ay (i2 s) cp]
  unfold gR
  have e2:gu 16 s2 (.loc l) (.loc s1.length) = some true:=by
   unfold gu
   simp only [vw,b_ (x2.2 _ _ h1),show aj s2 s1.length = some (lV zs) by rw [bT]; exact aQ s1 _]
   refine nil_eq us zs ?_ (fun u m => x2.2 _ _ (h4 u m).2) fun z m => CW.2 _ _ (z1 z m)
   rw [l1,h2,List.length_nil]
   unfold cj
   rw [List.length_map,List.length_range]
   lia
  rw [e2]
 unfold PM.cB
 rw [← hf,a! (np:=4) (us:=[f,.int (i:Int),.int (j:Int),.int (k:Int)]) rfl]
 show (az (gf _ _ bB) (aY _) [some f,some (.int (i:Int)),some (.int (j:Int)),some (.int (k:Int))] s).fin = _
 rw [← hμ,aA,fG (u6 t1 (u6 t2 (u6 t3 t4))),aB,ee (z_ r1 (z_ r2 r3))]
 rfl
end qW
namespace qW
open PySem PySem.Spec L2 MN PG
open PyProof.Rows hiding St kindOf
noncomputable def DS (v:ai):Prop:=ja v = false ∧ ∀ st,∃ g,PM.bD [v] st = .err "NoPrime" (st ++ g)
theorem vi {v:ai} (h:∀ st,Aa v st):DS v:=by
 refine ⟨(h []).1,fun st => ?_⟩
 obtain ⟨g,e⟩:=(h st).is
 refine ⟨g,?_⟩
 unfold PM.bD
 rw [a! (np:=1) (us:=[v]) rfl]
 show (gf (jL (cE (cA (ao PM.cy (aa (ae 0) ak)))) _) (dm "NoPrime" (aa (mC (.str "a prime is one from 2 to 997")) ak)) bB [some v] st).fin = _
 have t1:cA (ao PM.cy (aa (ae 0) ak)) [some v] st = .ok false (st ++ g):=bJ (by rw [ax (br (v:=v) (s1:=st) (cP rfl (h st).1)),e])
 have t2:cE (cA (ao PM.cy (aa (ae 0) ak))) [some v] st = .ok true (st ++ g):=by rw [jh,t1]; rfl
 have t3:∀ u:MT,jL (cE (cA (ao PM.cy (aa (ae 0) ak)))) u [some v] st = .ok true (st ++ g):=fun u => by rw [iP,t2,aq,uP]
 rw [mq (t3 _),ji,br (v:=.str "a prime is one from 2 to 997") (s1:=st ++ g) rfl,aV,kT,if_pos (by rw [sizeLine_eq]; show 1 ≤ 16777216; decide)]
 rfl
theorem JF:DS (.int 0):=by
 refine ⟨rfl,fun st => ?_⟩
 obtain ⟨g,e⟩:=fE 0 st
 refine ⟨g,?_⟩
 unfold PM.bD
 rw [a! (np:=1) (us:=[ai.int 0]) rfl]
 show (gf (jL (cE (cA (ao PM.cy (aa (ae 0) ak)))) (cA (ah gR (ae 0) (mC (.int 0))))) (dm "NoPrime" (aa (mC (.str "a prime is one from 2 to 997")) ak)) bB [some (.int 0)] st).fin = _
 have t1:cE (cA (ao PM.cy (aa (ae 0) ak))) [some (.int 0)] st = .ok false (st ++ g):=km (bJ (by rw [ax (br (v:=.int 0) (s1:=st) rfl),e]; rfl))
 have t2:cA (ah gR (ae 0) (mC (.int 0))) [some (.int 0)] (st ++ g) = .ok true (st ++ g):=bJ (by rw [ay (x:=.int 0) (s1:=st ++ g) rfl (y:=.int 0) (s2:=st ++ g) rfl]; rfl)
 have t3:jL (cE (cA (ao PM.cy (aa (ae 0) ak)))) (cA (ah gR (ae 0) (mC (.int 0)))) [some (.int 0)] st = .ok true (st ++ g):=by rw [iP,t1,aq,jg,t2]
 rw [mq t3,ji,br (v:=.str "a prime is one from 2 to 997") (s1:=st ++ g) rfl,aV,kT,if_pos (by rw [sizeLine_eq]; show 1 ≤ 16777216; decide)]
 rfl
noncomputable def C3:List ai:=[.int 0,.int 1,.int 4,.int 998,.int (-7),.int 961,.bl true,.bE,.str "7",.int 1009,.int 32003]
theorem C4:∀ v ∈ C3,DS v:=by
 intro v hv
 have I:∀ n:Int,iE n = false → DS (.int n):=fun n h => vi fun st => Aa.int h st
 simp only [C3,List.mem_cons,List.mem_nil_iff,or_false] at hv
 rcases hv with rfl | rfl | rfl | rfl | rfl | rfl | rfl | rfl | rfl | rfl | rfl
 ·exact JF
 ·exact I _ (by decide +kernel)
 ·exact I _ (by decide +kernel)
 ·exact I _ (by decide +kernel)
 ·exact I _ (by decide +kernel)
 ·exact I _ (by decide +kernel)
 ·exact vi fun st => Aa.odd ⟨rfl,"bool",rfl,by decide⟩
 ·exact vi fun st => Aa.odd ⟨rfl,"NoneType",rfl,by decide⟩
 ·exact vi fun st => Aa.odd ⟨rfl,"str",rfl,by decide⟩
 ·exact I _ (by decide +kernel)
 ·exact I _ (by decide +kernel)
noncomputable def C5:List ai:=[.str "",.str "Lex",.str "LEX",.str "degree",.str "grevlex",.str "deglex",.str "revlex",.bE,.int 0]
theorem C6:∀ v ∈ C5,G' v:=by
 intro v hv
 simp only [C5,List.mem_cons,List.mem_nil_iff,or_false] at hv
 rcases hv with rfl | rfl | rfl | rfl | rfl | rfl | rfl | rfl | rfl <;> exact ⟨fun _ => rfl,rfl⟩
section
variable {s:ag} {v o:ai} {R:Nat}
theorem w? (h:DS v) (ho:ja o = false) (r:ai) (hr:ja r = false):∃ g,PM.bp [v,o,r] s = .err "NoPrime" (s ++ g):=by
 obtain ⟨g,e⟩:=h.2 s
 refine ⟨g,?_⟩
 unfold PM.bp
 rw [a! (np:=3) (us:=[v,o,r]) rfl]
 show (az (bg (ao PM.bD (aa (ae 0) ak))) _ [some v,some o,some r,none,none,none,none,none,none] s).fin = _
 rw [aA,gA,ax (br (v:=v) (s1:=s) (cP rfl h.1)),e]
 rfl
theorem xa {p:Int} (hp:jr p = true) (h:G' o) (r:ai) (hr:ja r = false):∃ g,PM.bp [.int p,o,r] s = .err "NoOrder" (s ++ g):=by
 obtain ⟨g,e⟩:=fe hp s
 refine ⟨g,?_⟩
 unfold PM.bp
 rw [a! (np:=3) (us:=[.int p,o,r]) rfl]
 show (az (bg (ao PM.bD (aa (ae 0) ak))) (az (bg (ao PM.bX (aa (ae 1) ak))) _) [some (.int p),some o,some r,none,none,none,none,none,none] s).fin = _
 rw [aA,d0 (v:=.bE) (s1:=s ++ g) (by rw [ax (br (v:=.int p) (s1:=s) rfl),e]),aB,aA,gA,ax (br (v:=o) (s1:=s ++ g) (cP rfl h.px)),mr h]
 rfl
theorem GN {g:ag → Prop} {A:AS} {body:MB} {u:ai} {us:List ai} {μ μ1 μ2:MN.Env} {st st2:ag} {c:Str} (hg:g st) (ha:A u μ = some μ1) (hb:body μ1 st = .er c μ2 st2):forL g A body (u :: us) μ st = .er c μ2 st2:=by
 unfold forL
 rw [if_pos hg,ha]
 dsimp only
 rw [hb]
theorem pF {g:ag → Prop} {A:AS} {body:MB} {u:ai} {us:List ai} {μ μ1 μ2:MN.Env} {st st2:ag} (hg:g st) (ha:A u μ = some μ1) (hb:body μ1 st = .nx μ2 st2):forL g A body (u :: us) μ st = forL g A body us μ2 st2:=by
 rw [forL,if_pos hg,ha]
 dsimp only
 rw [hb]
theorem vj {us:List ai} {x:Option ai} (hR:aj s R = some us):∀ (qs:List Nat) (y:Option ai),(∀ q ∈ qs,∃ vs,s[q]? = some (.lst vs)) → (∃ q ∈ qs,s[q]? = some (.lst [])) →
  ∃ y',forL (fun av => aj av R = some us) (aw 1) (gf (cA (ah gR (ao cT (aa (ae 1) ak)) (mC (.int 0)))) (dm "ByNought" (aa (mC (.str "nothing is reduced by nought")) ak)) bB) (lV qs) [x,y] s = .er "ByNought" [x,y'] s
 | [],_,_,h => by obtain ⟨q,m,_⟩:=h; cases m
 | q :: qs,y,hq,h => by
  obtain ⟨vs,hv⟩:=hq q List.mem_cons_self
  have t:cA (ah gR (ao cT (aa (ae 1) ak)) (mC (.int 0))) [x,some (.loc q)] s = .ok ((vs.length:Int) == 0) s:=bJ (by
   rw [u7 (o:=(vs.length:Int)) (s1:=s) (by rw [ax (br (v:=.loc q) (s1:=s) rfl),c8 (b_ hv)])])
  cases vs with
  | nil =>
   refine ⟨some (.loc q),?_⟩
   refine GN (g:=fun av => aj av R = some us) (μ1:=[x,some (.loc q)]) hR rfl ?_
   rw [mq (show _ = bH.ok true s from t),ji,br (v:=.str "nothing is reduced by nought") (s1:=s) rfl,aV,kT,if_pos (by rw [sizeLine_eq]; show 1 ≤ 16777216; decide)]
  | cons w vs =>
   have z:(((w :: vs).length:Int) == 0) = false:=by rw [beq_eq_false_iff_ne,List.length_cons]; lia
   rw [z] at t
   obtain ⟨y',e⟩:=vj (x:=x) hR qs (some (.loc q)) (fun r m => hq r (List.mem_cons_of_mem _ m)) (by
    obtain ⟨r,m,e⟩:=h
    rcases List.mem_cons.mp m with rfl | m
    ·rw [hv] at e; cases e
    ·exact ⟨r,m,e⟩)
   exact ⟨y',(pF (g:=fun av => aj av R = some us) (μ1:=[x,some (.loc q)]) hR rfl (fG t)).trans e⟩
theorem tZ {p:Int} {d:Bool} {qs:List Nat} (hp:jr p = true) (hR:aj s R = some (lV qs)) (hq:∀ q ∈ qs,∃ vs,s[q]? = some (.lst vs)) (h:∃ q ∈ qs,s[q]? = some (.lst [])):∃ g,PM.bp [.int p,.str (bK d),.loc R] s = .err "ByNought" (s ++ g):=by
 obtain ⟨g,e⟩:=fe hp s
 refine ⟨g,?_⟩
 have x:Xt s (s ++ g):=Xt.app g
 obtain ⟨y,en⟩:=vj (R:=R) (x:=some (.loc R)) (x.items hR) qs none (fun q m => let ⟨vs,hv⟩:=hq q m; ⟨vs,x.2 _ _ hv⟩) (let ⟨q,m,hv⟩:=h; ⟨q,m,x.2 _ _ hv⟩)
 have nn:PM.aZ [.loc R] (s ++ g) = .err "ByNought" (s ++ g):=by
  unfold PM.aZ
  rw [a! (np:=1) (us:=[ai.loc R]) rfl]
  show (dD _ _ _ [some (.loc R),none] (s ++ g)).fin = _
  rw [ec,c7,show ae 0 [some (.loc R),none] (s ++ g) = .ok (.loc R) (s ++ g) from rfl,aq,cR (x.items hR),aV,gK,en]
  rfl
 obtain ⟨o,ho⟩:∃ o:ai,o = .str (bK d):=⟨_,rfl⟩
 have ox:ja o = false:=by rw [ho]; rfl
 rw [← ho]
 unfold PM.bp
 rw [a! (np:=3) (us:=[.int p,o,.loc R]) rfl]
 show (az (bg (ao PM.bD (aa (ae 0) ak))) (az (bg (ao PM.bX (aa (ae 1) ak))) (az (bg (ao PM.aZ (aa (ae 2) ak))) _)) [some (.int p),some o,some (.loc R),none,none,none,none,none,none] s).fin = _
 rw [aA,d0 (v:=.bE) (s1:=s ++ g) (by rw [ax (br (v:=.int p) (s1:=s) rfl),e]),aB,aA,d0 (v:=.bE) (s1:=s ++ g) (by rw [ax (br (v:=o) (s1:=s ++ g) (cP rfl ox)),ho,g7]),aB,aA,gA,ax (br (v:=.loc R) (s1:=s ++ g) rfl),nn]
 rfl
theorem pG {a b r:ai} {c:Str} {g:ag} {b0 b1 b2:Bool} (ha:ja a = false) (hb:ja b = false) (hr:ja r = false) (e:PM.bp [a,b,r] s = .err c (s ++ g)) (hk:kn.contains c = true) (h0:eG tab c "NoPrime" = some b0) (h1:eG tab c "NoOrder" = some b1) (h2:eG tab c "ByNought" = some b2) (hA:eG tab c "AlgebraError" = some true) (hV:eG tab c "ValueError" = some true) :
  aX [a,b,r] s = .ok (.loc (s ++ g).length) ((s ++ g) ++ [.lst [.bl b0,.bl b1,.bl b2,.bl true]]):=by
 obtain ⟨s1,c5⟩:∃ s1,s1 = s ++ g:=⟨_,rfl⟩
 rw [← c5] at e ⊢
 have q:∀ {x:Str} {b':Bool},eG tab c x = some b' → kj (eG tab) kn 3 x [some a,some b,some r,some (.exc c)] s1 = .ok (.bl b') s1:=fun {x b'} h => by
  unfold kj
  show (if kn.contains c = true then _ else _) = _
  rw [if_pos hk,h]
 have qV:wj (eG tab) 3 "ValueError" [some a,some b,some r,some (.exc c)] s1 = .ok (.bl true) s1:=by
  show (match eG tab c "ValueError" with | some true => bH.ok (ai.bl true) s1 | _ => .bad) = _
  rw [hV]
 have arg:FI (aa (ae 0) (aa (ae 1) (aa (ae 2) ak))) [some a,some b,some r,none] s = .ok [a,b,r] s:=by
  rw [F?,cb (v:=a) (s1:=s) (cP rfl ha) (dP (v:=b) (s1:=s) (cP rfl hb) (w:=r) (s2:=s) (cP rfl hr)),F']
 unfold aX
 rw [a! (np:=3) (us:=[a,b,r]) rfl]
 show (az (oh (qr (Kf kn) _ _)) _ [some a,some b,some r,none] s).fin = _
 rw [aA,zx,Gb,gA,ax arg,e,B8,Cb (show Kf kn c = true from hk),Jg hA]
 show ((lL (aY _ [some a,some b,some r,some (.exc c)] s1)).B'.cJ _).fin = _
 rw [ee (dq (cb (q h0) (cb (q h1) (dP (q h2) qV))) (by show 4 ≤ 1000; decide)),wC,Ca,o_]
 rfl
end
end qW
namespace qW
open PySem PySem.Spec L2 MN PG
open PyProof.Rows hiding St kindOf
theorem GO {s:ag} {a b:Nat} {bs:List Bool} (ha:aj s a = some (bs.map ai.bl)) (hb:aj s b = some (bs.map ai.bl)):gu 16 s (.loc a) (.loc b) = some true:=by
 unfold gu
 simp only [vw,ha,hb]
 exact h_ s 14 _ (jQ fun u hu => by
  obtain ⟨x,_,rfl⟩:=List.mem_map.mp hu
  rfl)
section
variable {μ:MN.Env} {s:ag} {a lit:MA} {a0 b0 r0:ai} {bs:List Bool}
theorem Kq (ha:a μ s = .ok [a0,b0,r0] s) (ht:∃ g,aX [a0,b0,r0] s = .ok (.loc (s ++ g).length) ((s ++ g) ++ [.lst (bs.map ai.bl)])) (hm:∀ s,lit μ s = .ok (bs.map ai.bl) s) (hl:bs.length ≤ 1000) :
  ∃ s',Xt s s' ∧ ah ij (ao aX a) (bF lit) μ s = .ok (.bl false) s' ∧ ah gR (ao aX a) (bF lit) μ s = .ok (.bl true) s':=by
 obtain ⟨g,ht⟩:=ht
 obtain ⟨s1,c5⟩:∃ s1,s1 = (s ++ g) ++ [aT.lst (bs.map ai.bl)]:=⟨_,rfl⟩
 obtain ⟨s2,bT⟩:∃ s2,s2 = s1 ++ [aT.lst (bs.map ai.bl)]:=⟨_,rfl⟩
 have c1:ao aX a μ s = .ok (.loc (s ++ g).length) s1:=by rw [ax ha,ht,c5]
 have c2:bF lit μ s1 = .ok (.loc s1.length) s2:=by rw [dq (hm s1) (by rw [List.length_map]; exact hl),bT]
 have e:gu 16 s2 (.loc (s ++ g).length) (.loc s1.length) = some true:=GO (by rw [bT]; exact (Xt.app _).items (by rw [c5]; exact aQ _ _)) (by rw [bT]; exact aQ s1 _)
 refine ⟨s2,(Xt.app g).trans ((show Xt (s ++ g) s1 by rw [c5]; exact Xt.app _).trans (by rw [bT]; exact Xt.app _)),?_,?_⟩
 ·rw [ay c1 c2]
  unfold ij
  rw [e]
  rfl
 ·rw [ay c1 c2]
  unfold gR
  rw [e]
end
theorem Ai {s:ag} {v o r:ai} (h:DS v) (ho:ja o = false) (hr:ja r = false):∃ g,aX [v,o,r] s = .ok (.loc (s ++ g).length) ((s ++ g) ++ [.lst ([true,false,false,true].map ai.bl)]):=by
 obtain ⟨g,e⟩:=w? (s:=s) h ho r hr
 exact ⟨g,pG h.1 ho hr e (by decide +kernel) (by decide +kernel) (by decide +kernel) (by decide +kernel) (by decide +kernel) (by decide +kernel)⟩
theorem GP {s:ag} {p:Int} {o r:ai} (hp:jr p = true) (h:G' o) (hr:ja r = false):∃ g,aX [.int p,o,r] s = .ok (.loc (s ++ g).length) ((s ++ g) ++ [.lst ([false,true,false,true].map ai.bl)]):=by
 obtain ⟨g,e⟩:=xa (s:=s) hp h r hr
 exact ⟨g,pG rfl h.px hr e (by decide +kernel) (by decide +kernel) (by decide +kernel) (by decide +kernel) (by decide +kernel) (by decide +kernel)⟩
theorem GQ {s:ag} {p:Int} {d:Bool} {R:Nat} {qs:List Nat} (hp:jr p = true) (hR:aj s R = some (lV qs)) (hq:∀ q ∈ qs,∃ vs,s[q]? = some (.lst vs)) (h:∃ q ∈ qs,s[q]? = some (.lst [])):∃ g,aX [.int p,.str (bK d),.loc R] s = .ok (.loc (s ++ g).length) ((s ++ g) ++ [.lst ([false,false,true,true].map ai.bl)]):=by
 obtain ⟨g,e⟩:=tZ (s:=s) (d:=d) hp hR hq h
 exact ⟨g,pG rfl rfl rfl e (by decide +kernel) (by decide +kernel) (by decide +kernel) (by decide +kernel) (by decide +kernel) (by decide +kernel)⟩
noncomputable abbrev Mv:MB:=az (gf (cA (ah ij (ao aX (aa (ae 3) (aa (ae 4) (aa (ae 7) ak)))) (bF (aa (mC (.bl true)) (aa (mC (.bl false)) (aa (mC (.bl false)) (aa (mC (.bl true)) ak))))))) (aY (mC (.bl false))) bB) (az (gf (cA (ah ij (ao aX (aa (ae 3) (aa (ah bR (ae 0) (mC (.int 1))) (aa (ae 7) ak)))) (bF (aa (mC (.bl true)) (aa (mC (.bl false)) (aa (mC (.bl false)) (aa (mC (.bl true)) ak))))))) (aY (mC (.bl false))) bB) (gf (cA (ah ij (ao aX (aa (ah bR (ae 0) (mC (.int 0))) (aa (ae 4) (aa (ae 7) ak)))) (bF (aa (mC (.bl false)) (aa (mC (.bl true)) (aa (mC (.bl false)) (aa (mC (.bl true)) ak))))))) (aY (mC (.bl false))) bB))
section
variable {p:Int} {d:Bool} {au top t c:Nat}
theorem C7 {s:ag} {x1 x2 x5 x6:Option ai} {v o r:ai} (hp:jr p = true) (hv:DS v) (ho:G' o) (hr:ja r = false) :
  ∃ s',Mv [some (gN p d au top t c),x1,x2,some v,some o,x5,x6,some r] s = .nx [some (gN p d au top t c),x1,x2,some v,some o,x5,x6,some r] s' ∧ Xt s s':=by
 obtain ⟨μ,hμ⟩:∃ μ:MN.Env,μ = [some (gN p d au top t c),x1,x2,some v,some o,x5,x6,some r]:=⟨_,rfl⟩
 have v3:∀ s,ae 3 μ s = .ok v s:=fun s => by rw [hμ]; exact cP rfl hv.1
 have v4:∀ s,ae 4 μ s = .ok o s:=fun s => by rw [hμ]; exact cP rfl ho.px
 have v7:∀ s,ae 7 μ s = .ok r s:=fun s => by rw [hμ]; exact cP rfl hr
 have i0:∀ s,ah bR (ae 0) (mC (.int 0)) μ s = .ok (.int p) s:=fun s => by rw [ay (x:=gN p d au top t c) (s1:=s) (by rw [hμ]; rfl) (y:=.int 0) (s2:=s) rfl]; rfl
 have i1:∀ s,ah bR (ae 0) (mC (.int 1)) μ s = .ok (.str (bK d)) s:=fun s => by rw [ay (x:=gN p d au top t c) (s1:=s) (by rw [hμ]; rfl) (y:=.int 1) (s2:=s) rfl]; rfl
 obtain ⟨s1,xu,n1,_⟩:=Kq (μ:=μ) (s:=s) (lit:=aa (mC (.bl true)) (aa (mC (.bl false)) (aa (mC (.bl false)) (aa (mC (.bl true)) ak)))) (cb (v3 s) (dP (v4 s) (v7 s))) (Ai hv ho.px hr) (fun _ => rfl) (by decide)
 obtain ⟨s2,Mw,n2,_⟩:=Kq (μ:=μ) (s:=s1) (lit:=aa (mC (.bl true)) (aa (mC (.bl false)) (aa (mC (.bl false)) (aa (mC (.bl true)) ak)))) (cb (v3 s1) (dP (i1 s1) (v7 s1))) (Ai hv rfl hr) (fun _ => rfl) (by decide)
 obtain ⟨s3,Pw,n3,_⟩:=Kq (μ:=μ) (s:=s2) (lit:=aa (mC (.bl false)) (aa (mC (.bl true)) (aa (mC (.bl false)) (aa (mC (.bl true)) ak)))) (cb (i0 s2) (dP (v4 s2) (v7 s2))) (GP hp ho hr) (fun _ => rfl) (by decide)
 refine ⟨s3,?_,xu.trans (Mw.trans Pw)⟩
 rw [← hμ]
 show az _ _ μ s = _
 rw [aA,fG (bJ n1),aB,aA,fG (bJ n2),aB,fG (bJ n3)]
theorem vk {x1 x2 x5 x6:Option ai} {v o:ai} (hp:jr p = true) (hv:DS v) (ho:G' o):∀ (rs:List ai) (s:ag) (y:Option ai),(∀ r ∈ rs,ja r = false) →
  ∃ s' y',forL (fun _ => True) (aw 7) Mv rs [some (gN p d au top t c),x1,x2,some v,some o,x5,x6,y] s = .nx [some (gN p d au top t c),x1,x2,some v,some o,x5,x6,y'] s' ∧ Xt s s'
 | [],s,y,_ => ⟨s,y,by unfold forL; rw [if_pos trivial],Xt.refl⟩
 | r :: rs,s,y,h => by
  obtain ⟨s1,e1,xu⟩:=C7 (d:=d) (au:=au) (top:=top) (t:=t) (c:=c) (x1:=x1) (x2:=x2) (x5:=x5) (x6:=x6) (s:=s) hp hv ho (h r List.mem_cons_self)
  obtain ⟨s2,y',e2,Mw⟩:=vk hp hv ho rs s1 (some r) fun q m => h q (List.mem_cons_of_mem _ m)
  exact ⟨s2,y',(pF (g:=fun _ => True) trivial rfl e1).trans e2,xu.trans Mw⟩
theorem pe {s:ag} {a b:Nat} {us vs:List ai} (ha:s[a]? = some (.lst us)) (hb:s[b]? = some (.lst vs)) (hl:us.length + vs.length ≤ 1000):bV (.loc a) (.loc b) s = .ok (.loc s.length) (s ++ [.lst (us ++ vs)]):=by
 show (match s[a]?,s[b]? with | some (.lst us),some (.lst ws) => if us.length + ws.length ≤ sizeLine then bH.ok (ai.loc s.length) (s ++ [aT.lst (us ++ ws)]) else .bad | _,_ => .bad) = _
 rw [ha,hb]
 dsimp only
 rw [if_pos (by rw [sizeLine_eq]; lia)]
theorem t5 {s:ag} {R:Nat} {m:Int} {qs:List Nat} (hp:jr p = true) (hR:aj s R = some (lV qs)) (hq:∀ q ∈ qs,∃ vs,s[q]? = some (.lst vs)) (hl:qs.length ≤ 4) :
  ∃ s',cC [gN p d au top t c,.loc R,.int m] s = .ok (.bl true) s' ∧ Xt s s':=by
 obtain ⟨sh,vN⟩:∃ sh:ai,sh = gN p d au top t c:=⟨_,rfl⟩
 have Kr:ja sh = false:=by rw [vN]; rfl
 have q1:=fF (m:=11) (by decide) m
 have q2:=fF (m:=9) (by decide) (m.fdiv 11)
 obtain ⟨μ,hμ⟩:∃ μ:MN.Env → MN.Env,μ = fun r => some sh :: some (.loc R) :: some (.int m) :: r:=⟨_,rfl⟩
 obtain ⟨v,iv,f3⟩:=iW (μ:=μ [none,none,none,none,none]) (s:=s) (a:=aa (mC (.int 0)) (aa (mC (.int 1)) (aa (mC (.int 4)) (aa (mC (.int 998)) (aa (jN (mC (.int 7))) (aa (mC (.int 961)) (aa (mC (.bl true)) (aa (mC .bE) (aa (mC (.str "7")) (aa (mC (.int 1009)) (aa (mC (.int 32003)) ak))))))))))) (mi:=ah cg (ae 2) (mC (.int 11))) (as:=C3) (f:=id) (i:=m.fmod 11) rfl (fun s => ff (by rw [hμ]; rfl) (by decide)) (by decide) q1.1 q1.2
 have hv:=C4 v iv
 obtain ⟨s1,c5⟩:∃ s1,s1 = s ++ [aT.lst (C3.map id)]:=⟨_,rfl⟩
 rw [← c5] at f3
 obtain ⟨o,io,f4⟩:=iW (μ:=μ [some v,none,none,none,none]) (s:=s1) (a:=aa (mC (.str "")) (aa (mC (.str "Lex")) (aa (mC (.str "LEX")) (aa (mC (.str "degree")) (aa (mC (.str "grevlex")) (aa (mC (.str "deglex")) (aa (mC (.str "revlex")) (aa (mC .bE) (aa (mC (.int 0)) ak))))))))) (mi:=ah cg (ah dQ (ae 2) (mC (.int 11))) (mC (.int 9))) (as:=C5) (f:=id) (i:=(m.fdiv 11).fmod 9) rfl (fun s => ff (pC (o:=m) (by rw [hμ]; rfl) (z9 (by decide) (by decide))) (by decide)) (by decide) q2.1 q2.2
 have ho:=C6 o io
 obtain ⟨s2,bT⟩:∃ s2,s2 = s1 ++ [aT.lst (C5.map id)]:=⟨_,rfl⟩
 rw [← bT] at f4
 have x2:Xt s s2:=(show Xt s s1 by rw [c5]; exact Xt.app _).trans (by rw [bT]; exact Xt.app _)
 have Mx:=x2.items hR
 -- An place
 obtain ⟨w,Px,NO,Qp⟩:∃ w:Nat,wH [.int 3,.int ((lV qs).length:Int)] s2 = .ok (.int (w:Int)) s2 ∧ w ≤ 3 ∧ w ≤ qs.length:=by
  unfold lV
  rw [List.length_map]
  show ∃ w:Nat,bH.ok (ai.int (if (qs.length:Int) < 3 then (qs.length:Int) else 3)) s2 = _ ∧ _
  by_cases z:(qs.length:Int) < 3
  ·rw [if_pos z]; exact ⟨qs.length,rfl,by lia,by lia⟩
  ·rw [if_neg z]; exact ⟨3,rfl,by lia,by lia⟩
 have q3:=fF (m:=(w:Int) + 1) (by lia) (m.fdiv 99)
 obtain ⟨at_,rT⟩:∃ at_:Nat,(at_:Int) = (m.fdiv 99).fmod ((w:Int) + 1):=⟨((m.fdiv 99).fmod ((w:Int) + 1)).toNat,by lia⟩
 have vo:∀ r s,ae 1 (μ r) s = .ok (.loc R) s:=fun r s => by rw [hμ]; rfl
 have f5:ah cg (ah dQ (ae 2) (mC (.int 99))) (ah bV (ao wH (aa (mC (.int 3)) (aa (ao cT (aa (ae 1) ak)) ak))) (mC (.int 1))) (μ [some v,some o,none,none,none]) s2 = .ok (.int (at_:Int)) s2:=by
  rw [ay (pC (o:=m) (s1:=s2) (by rw [hμ]; rfl) (z9 (by decide) (by decide))) (y:=.int ((w:Int) + 1)) (s2:=s2) (by
   rw [ay (x:=.int (w:Int)) (s1:=s2) (by rw [ax (dP (v:=.int 3) (s1:=s2) rfl (by rw [ax (br (vo _ s2)),c8 Mx])),Px]) (y:=.int 1) (s2:=s2) rfl]
   rfl),iR (by lia),rT]
 -- An rows with a My among Py
 obtain ⟨s3,iU⟩:∃ s3,s3 = s2 ++ [aT.lst ((lV qs).take at_)]:=⟨_,rfl⟩
 obtain ⟨s4,iV⟩:∃ s4,s4 = s3 ++ [aT.lst []]:=⟨_,rfl⟩
 obtain ⟨s5,tY⟩:∃ s5,s5 = s4 ++ [aT.lst [.loc s3.length]]:=⟨_,rfl⟩
 obtain ⟨s6,Hb⟩:∃ s6,s6 = s5 ++ [aT.lst ((lV qs).take at_ ++ [.loc s3.length])]:=⟨_,rfl⟩
 obtain ⟨s7,Hc⟩:∃ s7,s7 = s6 ++ [aT.lst ((lV qs).drop at_)]:=⟨_,rfl⟩
 obtain ⟨s8,Ax⟩:∃ s8,s8 = s7 ++ [aT.lst (((lV qs).take at_ ++ [.loc s3.length]) ++ (lV qs).drop at_)]:=⟨_,rfl⟩
 obtain ⟨qb,Mz⟩:∃ qb:List Nat,qb = (((qs.take at_ ++ [s3.length]) ++ qs.drop at_).take 4):=⟨_,rfl⟩
 obtain ⟨s9,MC⟩:∃ s9,s9 = s8 ++ [aT.lst (lV qb)]:=⟨_,rfl⟩
 have MD:Xt s3 s4:=by rw [iV]; exact Xt.app _
 have MF:Xt s4 s5:=by rw [tY]; exact Xt.app _
 have N7:Xt s5 s6:=by rw [Hb]; exact Xt.app _
 have N8:Xt s6 s7:=by rw [Hc]; exact Xt.app _
 have Pz:Xt s7 s8:=by rw [Ax]; exact Xt.app _
 have PB:Xt s8 s9:=by rw [MC]; exact Xt.app _
 have N9:Xt s2 s3:=by rw [iU]; exact Xt.app _
 have PD:Xt s2 s6:=N9.trans (MD.trans (MF.trans N7))
 have MG:Xt s4 s9:=MF.trans (N7.trans (N8.trans (Pz.trans PB)))
 have MJ:Xt s2 s9:=N9.trans (MD.trans MG)
 have lq:(lV qs).length = qs.length:=by unfold lV; rw [List.length_map]
 have a3:s3[s2.length]? = some (.lst ((lV qs).take at_)):=by rw [iU]; exact fj _ _
 have f6:uK (ah bV (ah bV (uK (ae 1) fV (fB (ae 5))) (bF (aa (bF ak) ak))) (uK (ae 1) (fB (ae 5)) fV)) fV (fB (mC (.int 4))) (μ [some v,some o,some (.int (at_:Int)),none,none]) s2 = .ok (.loc s8.length) s9:=by
  obtain ⟨ν,hν⟩:∃ ν:MN.Env,ν = μ [some v,some o,some (.int (at_:Int)),none,none]:=⟨_,rfl⟩
  have v5:∀ s,fB (ae 5) ν s = .ok (some (at_:Int)) s:=fun s => by rw [qF,show ae 5 ν s = .ok (.int (at_:Int)) s by rw [hν,hμ]; rfl,aq,Jh]
  have g1:uK (ae 1) fV (fB (ae 5)) ν s2 = .ok (.loc s2.length) s3:=by
   rw [zy,hν,vo,aq,Gf,lX,aq,zA,← hν,v5,aq,zB,s? Mx,q9,iU]
  have g2:bF (aa (bF ak) ak) ν s3 = .ok (.loc s4.length) s5:=by
   rw [dq (vs:=[.loc s3.length]) (s1:=s4) (br (by rw [dq (vs:=[]) (s1:=s3) rfl (by decide),iV])) (by show 1 ≤ 1000; decide),tY]
  have g3:ah bV (uK (ae 1) fV (fB (ae 5))) (bF (aa (bF ak) ak)) ν s2 = .ok (.loc s5.length) s6:=by
   rw [ay g1 g2,pe ((MD.trans MF).2 _ _ a3) (by rw [tY]; exact fj _ _) (by rw [List.length_take]; show min at_ (lV qs).length + 1 ≤ 1000; lia),Hb]
  have g4:uK (ae 1) (fB (ae 5)) fV ν s6 = .ok (.loc s6.length) s7:=by
   rw [zy,hν,vo,aq,Gf,← hν,v5,aq,zA,lX,aq,zB,s? (PD.items Mx),z! (by lia),Hc]
  have g5:ah bV (ah bV (uK (ae 1) fV (fB (ae 5))) (bF (aa (bF ak) ak))) (uK (ae 1) (fB (ae 5)) fV) ν s2 = .ok (.loc s7.length) s8:=by
   rw [ay g3 g4,pe (N8.2 _ _ (by rw [Hb]; exact fj _ _)) (by rw [Hc]; exact fj _ _) (by rw [List.length_append,List.length_take,List.length_drop]; show min at_ (lV qs).length + 1 + ((lV qs).length - at_) ≤ 1000; lia),Ax]
  rw [← hν,zy,g5,aq,Gf,lX,aq,zA,qF,show mC (.int 4) ν s8 = .ok (.int ((4:Nat):Int)) s8 from rfl,aq,Jh,aq,zB,s? (by rw [Ax]; exact aQ s7 _),q9,MC]
  congr 3
  rw [Mz]
  unfold lV
  rw [List.map_take,List.map_append,List.map_append,List.map_take,List.map_drop]
  rfl
 have hB:aj s9 s8.length = some (lV qb):=by rw [MC]; exact aQ s8 _
 have e4:s4[s3.length]? = some (.lst []):=by rw [iV]; exact fj _ _
 have bq:∀ q ∈ qb,∃ vs,s9[q]? = some (.lst vs):=fun q m => by
  rw [Mz] at m
  have m:=List.mem_of_mem_take m
  rcases List.mem_append.mp m with m | m
  ·rcases List.mem_append.mp m with m | m
   ·obtain ⟨vs,h⟩:=hq q (List.mem_of_mem_take m)
    exact ⟨vs,(x2.trans MJ).2 _ _ h⟩
   ·rw [List.mem_singleton.mp m]
    exact ⟨_,MG.2 _ _ e4⟩
  ·obtain ⟨vs,h⟩:=hq q (List.mem_of_mem_drop m)
   exact ⟨vs,(x2.trans MJ).2 _ _ h⟩
 have be:∃ q ∈ qb,s9[q]? = some (.lst []):=by
  refine ⟨s3.length,?_,MG.2 _ _ e4⟩
  rw [Mz]
  have la:(qs.take at_ ++ [s3.length]).length ≤ 4:=by rw [List.length_append,List.length_take]; show min at_ qs.length + 1 ≤ 4; lia
  rw [List.take_append]
  refine List.mem_append_left _ ?_
  rw [List.take_of_length_le la]
  exact List.mem_append_right _ (List.mem_singleton.mpr rfl)
 -- all are asked
 obtain ⟨t6,xc⟩:∃ t6,t6 = s9 ++ [aT.lst []]:=⟨_,rfl⟩
 have MK:Xt s9 t6:=by rw [xc]; exact Xt.app _
 obtain ⟨pH,y7,f7,JG⟩:=vk (d:=d) (au:=au) (top:=top) (t:=t) (c:=c) (x1:=some (.loc R)) (x2:=some (.int m)) (x5:=some (.int (at_:Int))) (x6:=some (.loc s8.length)) hp hv ho [.loc s8.length,.loc R,.loc s9.length] t6 none (fun r m => by
  simp only [List.mem_cons,List.mem_nil_iff,or_false] at m
  rcases m with rfl | rfl | rfl <;> rfl)
 have C8:=MK.trans JG
 obtain ⟨ML,PF,_,f8⟩:=Kq (μ:=[some (gN p d au top t c),some (.loc R),some (.int m),some v,some o,some (.int (at_:Int)),some (.loc s8.length),y7]) (s:=pH) (a:=aa (ah bR (ae 0) (mC (.int 0))) (aa (ah bR (ae 0) (mC (.int 1))) (aa (ae 6) ak))) (lit:=aa (mC (.bl false)) (aa (mC (.bl false)) (aa (mC (.bl true)) (aa (mC (.bl true)) ak)))) (a0:=.int p) (b0:=.str (bK d)) (r0:=.loc s8.length) (cb (s1:=pH) (by rw [ay (x:=gN p d au top t c) (s1:=pH) rfl (y:=.int 0) (s2:=pH) rfl]; rfl) (dP (s1:=pH) (by rw [ay (x:=gN p d au top t c) (s1:=pH) rfl (y:=.int 1) (s2:=pH) rfl]; rfl) (s2:=pH) rfl)) (GQ (d:=d) hp (C8.items hB) (fun q m => let ⟨vs,h⟩:=bq q m; ⟨vs,C8.2 _ _ h⟩) (let ⟨q,m,h⟩:=be; ⟨q,m,C8.2 _ _ h⟩)) (fun _ => rfl) (by decide)
 refine ⟨ML,?_,x2.trans (MJ.trans (C8.trans PF))⟩
 unfold cC
 rw [← vN,a! (np:=3) (us:=[sh,.loc R,.int m]) rfl]
 show (az (aM 3 _) (az (aM 4 _) (az (aM 5 _) (az (aM 6 _) (az (dD _ (aw 7) Mv) (aY _))))) (some sh :: some (.loc R) :: some (.int m) :: [none,none,none,none,none]) s).fin = _
 rw [show (some sh :: some (.loc R) :: some (.int m) :: [none,none,none,none,none]) = μ [none,none,none,none,none] by rw [hμ]]
 rw [aA,aW f3,aB,show (μ [none,none,none,none,none]).set 3 (some (id v)) = μ [some v,none,none,none,none] by rw [hμ]; rfl]
 rw [aA,aW f4,aB,show (μ [some v,none,none,none,none]).set 4 (some (id o)) = μ [some v,some o,none,none,none] by rw [hμ]; rfl]
 rw [aA,aW f5,aB,show (μ [some v,some o,none,none,none]).set 5 (some (.int (at_:Int))) = μ [some v,some o,some (.int (at_:Int)),none,none] by rw [hμ]; rfl]
 rw [aA,aW f6,aB,show (μ [some v,some o,some (.int (at_:Int)),none,none]).set 6 (some (.loc s8.length)) = μ [some v,some o,some (.int (at_:Int)),some (.loc s8.length),none] by rw [hμ]; rfl]
 rw [aA,ec,c7,jT (vs:=[.loc s8.length,.loc R,.loc s9.length]) (s1:=t6) (cb (v:=.loc s8.length) (s1:=s9) (by rw [hμ]; rfl) (dP (v:=.loc R) (s1:=s9) (by rw [hμ]; rfl) (w:=.loc s9.length) (s2:=t6) (by rw [dq (vs:=[]) (s1:=s9) rfl (by decide),xc]))) (by show 3 ≤ 1000; decide),aq,wB,aV,gK]
 rw [show μ [some v,some o,some (.int (at_:Int)),some (.loc s8.length),none] = [some (gN p d au top t c),some (.loc R),some (.int m),some v,some o,some (.int (at_:Int)),some (.loc s8.length),none] by rw [hμ,vN],f7,aB,ee f8]
 rfl
end
end qW
namespace MN
open PySem PySem.Spec L2
open PyProof.Rows hiding St kindOf
theorem c9 {N P:List Str} {sc:Scope} (a:sc.kind = .function:=by rfl) (b:sc.isCoroutine = false:=by rfl) (c:sc.isGenerator = false:=by rfl) (d:N.Nodup:=by decide +kernel) (e:N.take P.length = P:=by rfl)
  (f:∀ x ∈ P,sc.names.lookup x = some .local ∨ sc.names.lookup x = some .cell:=by decide +kernel) (g:∀ y ∈ sc.names,y.2 ≠ .free:=by decide +kernel):cw N P sc:=⟨a,b,c,d,e,f,g⟩
theorem g9 {X:Cx} {N:List Str} {scope:Scope} {k:Nat} {cl:List (Str × Addr)} {caps:List Nat} (kz:closureFor scope X.env = pure cl:=by rfl) (A:dU X scope cl caps:=by repeat first | exact .nil | refine .cons (by rfl) (by rfl) (by first | exact Or.inl rfl | exact Or.inr rfl) (by first | exact Or.inl rfl | exact Or.inr rfl) ?_)
  (has:((relabel scope X.env).names.all fun p => !(p.2 == .cell || p.2 == .free) || (cl.map (·.1)).contains p.1) = true:=by rfl) (eT:(scope.names.all fun p => !(p.2 == .cell)) = true:=by rfl) (kind:scope.kind = .function:=by rfl)
  (names:(scope.names.all fun p => !(p.2 == .local) || scope.names.lookup p.1 == some .local) = true:=by rfl) (len:N.length = k + caps.length:=by rfl) (hN:N.drop k = cl.map (·.1):=by rfl):m8 X N scope cl k caps:=IQ kz A has eT kind names len hN
theorem rD {X:Cx} {N:List Str} {scope:Scope} {k:Nat} {cl cl':List (Str × Addr)} {caps caps':List Nat} (kz:closureFor scope X.env = pure cl':=by rfl) (A:dU X scope cl caps:=by repeat first | exact .nil | refine .cons (by rfl) (by rfl) (by first | exact Or.inl rfl | exact Or.inr rfl) (by first | exact Or.inl rfl | exact Or.inr rfl) ?_)
  (B:dU X scope cl' caps':=by repeat first | exact .nil | refine .cons (by rfl) (by rfl) (by first | exact Or.inl rfl | exact Or.inr rfl) (by first | exact Or.inl rfl | exact Or.inr rfl) ?_)
  (has:((relabel scope X.env).names.all fun p => !(p.2 == .cell || p.2 == .free) || (cl'.map (·.1)).contains p.1) = true:=by rfl) (eT:(scope.names.all fun p => !(p.2 == .cell)) = true:=by rfl) (kind:scope.kind = .function:=by rfl)
  (names:(scope.names.all fun p => !(p.2 == .local) || scope.names.lookup p.1 == some .local) = true:=by rfl) (len:N.length = k + caps.length:=by rfl) (hN:N.drop k = cl.map (·.1):=by rfl):m8 X N scope cl' k caps:=IV kz A B has eT kind names len hN
section
variable {P:Program} {w:World} {K:PySem.W.Frag} {mg:Str → Option Value} {base:Heap}
noncomputable def N_ (K:PySem.W.Frag) (mg:Str → Option Value):Prop:=∀ x f,PySem.W.nsIn K mainGlobals x = some (some (.ref f)) → mg x = some (.ref f)
theorem dI {x:Str}:∀ {l:List Str},Cs mg l → x ∈ l → mg x = none
 | y :: l,h,hx => by
  rcases List.mem_cons.mp hx with e | e
  ·rw [e]; exact h.1
  ·exact dI h.2 e
theorem GR {x:Str}:∀ {l:List Str},Ct K mg l → x ∈ l → yX K mg x
 | y :: l,h,hx => by
  rcases List.mem_cons.mp hx with e | e
  ·rw [e]; exact h.1
  ·exact GR h.2 e
theorem FnAt.ko {x:Str} {st:Stmt} {N ps:List Str} {k:Nat} {body:MB} (F:dR K x st) (hm:N_ K mg) (S:cw N ps (aE st))
  (h:∀ (f:Addr) (cZ:Value) (A:Around) (outer:List PySem.Env) (s:Shared) (H:Hp) (E:XK),N.Nodup → cL k (A.deeper (envOfC x (aE st) s.heap.objs.size f cZ)) →
   gS (eO (gT P w) P w K mg base N x (aE st) f cZ A outer s H E) (b! st) (tS (eO (gT P w) P w K mg base N x (aE st) f cZ A outer s H E) E body))
  (hb:∀ (kV doc pm:Value) (an:Option Addr) (cZ ct:Value) (us:List Value),us.length = ps.length → bindArgs (PySem.W.fnOf x x (df st) (b! st) (aE st) .none kV doc pm an cZ ct) ⟨us,[]⟩ = pure (ps.zip us):=by
   first | exact fun _ _ _ _ _ _ => IW fun _ => rfl | exact fun _ _ _ _ _ _ => wy fun _ _ => rfl | exact fun _ _ _ _ _ _ => BW fun _ _ _ => rfl | exact fun _ _ _ _ _ _ => len0 rfl):FnAt P w K mg base x (k + 1) (fJ ps.length N.length body):=by
 obtain ⟨f,fd,F,a⟩:=F
 exact FnAt.mk F (hm _ _ a) S hb fun cZ A outer s H E => h f cZ A outer s H E S.nd
end
end MN
namespace qW
open PySem PySem.Spec L2 MN PG
open PyProof.Rows hiding St kindOf
noncomputable def dV (x:Nat × Nat):ai:=.tup [.int (x.1:Int),.int (x.2:Int)]
theorem vm {s:ag} {i:Nat}:∀ (m j:Nat) (x:Option ai) (ys:List (Nat × Nat)),
  a7 (fun _ => True) (aw 0) aL (d5 (aa (ae 1) (aa (ae 0) ak))) ((List.range' j m).map fun (k:Nat) => ai.int (k:Int)) [x,some (.int (i:Int))] s (ys.map dV) = .ok ((ys ++ (List.range' j m).map fun k => (i,k)).map dV) s
 | 0,j,x,ys => by show a7 _ _ _ _ [] _ s _ = _; rw [bP (g:=fun _ => True) trivial]; simp
 | m + 1,j,x,ys => by
  rw [List.range'_succ,List.map_cons,cI (g:=fun _ => True) trivial (show aw 0 (.int (j:Int)) [x,some (.int (i:Int))] = some [some (.int (j:Int)),some (.int (i:Int))] from rfl) (show d5 (aa (ae 1) (aa (ae 0) ak)) [some (.int (j:Int)),some (.int (i:Int))] s = .ok (dV (i,j)) s from jT (vs:=[.int (i:Int),.int (j:Int)]) rfl (by show 2 ≤ 1000; decide))]
  have:ys.map dV ++ [dV (i,j)] = (ys ++ [(i,j)]).map dV:=by rw [List.map_append]; rfl
  rw [this,vm m (j + 1) (some (.int (j:Int))) (ys ++ [(i,j)]),List.append_assoc]
  rfl
noncomputable abbrev N!:MB:=aM 6 (ah bV (ae 6) (bG 1 [7] (fv (aa (ah bV (ae 7) (mC (.int 1))) (aa (ao cT (aa (ae 2) ak)) ak))) (aw 0) aL (d5 (aa (ae 1) (aa (ae 0) ak)))))
section
variable {x0 x1 x3 x4 x5:Option ai} {R:Nat} {us:List ai}
theorem vn (hl:us.length ≤ 10):∀ (m i:Nat) (s:ag) (Q:Nat) (ck:List (Nat × Nat)) (y7 y8:Option ai),aj s R = some us → s[Q]? = some (.lst (ck.map dV)) → i + m = us.length → ck.length + 10 * m ≤ 100 →
  ∃ (s':ag) (Q':Nat) (xw:Option ai),forL (fun _ => True) (aw 7) N! ((List.range' i m).map fun (k:Nat) => ai.int (k:Int)) [x0,x1,some (.loc R),x3,x4,x5,some (.loc Q),y7,y8] s = .nx [x0,x1,some (.loc R),x3,x4,x5,some (.loc Q'),xw,y8] s' ∧ s'[Q']? = some (.lst ((ck ++ cU us.length i m).map dV)) ∧ Xt s s'
 | 0,i,s,Q,ck,y7,y8,_,hQ,_,_ => ⟨s,Q,y7,by show forL _ _ _ [] _ s = _; unfold forL; rw [if_pos trivial],by show s[Q]? = some (.lst ((ck ++ []).map dV)); rw [List.append_nil]; exact hQ,Xt.refl⟩
 | m + 1,i,s,Q,ck,y7,y8,hR,hQ,hi,hp => by
  obtain ⟨k,hk⟩:∃ k:Nat,k = us.length - (i + 1):=⟨_,rfl⟩
  obtain ⟨s1,c5⟩:∃ s1,s1 = s ++ [aT.lst (((List.range' (i + 1) k).map fun j => (i,j)).map dV)]:=⟨_,rfl⟩
  obtain ⟨s2,bT⟩:∃ s2,s2 = s1 ++ [aT.lst (ck.map dV ++ ((List.range' (i + 1) k).map fun j => (i,j)).map dV)]:=⟨_,rfl⟩
  have y1:Xt s s1:=by rw [c5]; exact Xt.app _
  have y2:Xt s1 s2:=by rw [bT]; exact Xt.app _
  have cp:bG 1 [7] (fv (aa (ah bV (ae 7) (mC (.int 1))) (aa (ao cT (aa (ae 2) ak)) ak))) (aw 0) aL (d5 (aa (ae 1) (aa (ae 0) ak))) [x0,x1,some (.loc R),x3,x4,x5,some (.loc Q),some (.int (i:Int)),y8] s = .ok (.loc s.length) s1:=by
   rw [cO,uS,dP (v:=.int (((i + 1:Nat)):Int)) (s1:=s) (by rw [ay (x:=.int (i:Int)) (s1:=s) rfl (y:=.int 1) (s2:=s) rfl]; rfl) (w:=.int (us.length:Int)) (s2:=s) (by rw [ax (br (v:=.loc R) (s1:=s) rfl),c8 hR]),aq]
   have hz:zu [.int ((i + 1:Nat):Int),.int (us.length:Int)] s = .ok (cj ((i + 1:Nat):Int) (((us.length:Int) - ((i + 1:Nat):Int)).toNat),fun _ => True) s:=by
    unfold zu
    dsimp only
    rw [if_pos ⟨by lia,by lia,by lia,by lia⟩]
   rw [hz,aq,dX,rq,show ((us.length:Int) - ((i + 1:Nat):Int)).toNat = k by lia,if_pos (by rw [List.length_map,List.length_range',sizeLine_eq]; lia)]
   rw [show e8 1 [7] [x0,x1,some (.loc R),x3,x4,x5,some (.loc Q),some (.int (i:Int)),y8] = [none,some (.int (i:Int))] from rfl]
   have:=vm (s:=s) (i:=i) k (i + 1) none []
   rw [List.nil_append] at this
   rw [show ([]:List ai) = ([]:List (Nat × Nat)).map dV from rfl,this,aq,c5]
   rfl
  have b1:N! [x0,x1,some (.loc R),x3,x4,x5,some (.loc Q),some (.int (i:Int)),y8] s = .nx [x0,x1,some (.loc R),x3,x4,x5,some (.loc s1.length),some (.int (i:Int)),y8] s2:=by
   show aM 6 _ _ s = _
   rw [aW (v:=.loc s1.length) (s1:=s2) (by
    rw [ay (x:=.loc Q) (s1:=s) rfl cp,pe (y1.2 _ _ hQ) (by rw [c5]; exact fj _ _) (by rw [List.length_map,List.length_map,List.length_map,List.length_range']; lia),bT])]
   rfl
  obtain ⟨s3,Q',xw,e3,q3,y3⟩:=vn hl m (i + 1) s2 s1.length (ck ++ (List.range' (i + 1) k).map fun j => (i,j)) (some (.int (i:Int))) y8 ((y1.trans y2).items hR) (by rw [bT,fj,List.map_append]) (by lia) (by rw [List.length_append,List.length_map,List.length_range']; lia)
  refine ⟨s3,Q',xw,?_,?_,y1.trans (y2.trans y3)⟩
  ·rw [List.range'_succ,List.map_cons]
   exact (pF (g:=fun _ => True) trivial (show aw 7 (.int (i:Int)) [x0,x1,some (.loc R),x3,x4,x5,some (.loc Q),y7,y8] = some [x0,x1,some (.loc R),x3,x4,x5,some (.loc Q),some (.int (i:Int)),y8] from rfl) b1).trans e3
  ·rw [q3,List.append_assoc,hk]
   rfl
noncomputable abbrev PJ:MB:=gf (cE (cA (ao PM.cB (aa (ah bR (ae 5) (ae 8)) (aa (ah bR (ah bR (ae 6) (ae 8)) (mC (.int 0))) (aa (ah bR (ah bR (ae 6) (ae 8)) (mC (.int 1))) (aa (ao cT (aa (ae 2) ak)) ak))))))) (aY (mC (.bl false))) bB
theorem vp {F Q N:Nat} {ck:List (Nat × Nat)} {y7:Option ai} (hl:us.length ≤ 10):∀ (m i:Nat) (s:ag) (y8:Option ai),aj s R = some us → s[Q]? = some (.lst (ck.map dV)) → w6 s N F ck us.length → i + m = ck.length →
  ∃ (s':ag) (xy:Option ai),forL (fun _ => True) (aw 8) PJ ((List.range' i m).map fun (k:Nat) => ai.int (k:Int)) [x0,x1,some (.loc R),x3,x4,some (.loc F),some (.loc Q),y7,y8] s = .nx [x0,x1,some (.loc R),x3,x4,some (.loc F),some (.loc Q),y7,xy] s'
 | 0,i,s,y8,_,_,_,_ => ⟨s,y8,by show forL _ _ _ [] _ s = _; unfold forL; rw [if_pos trivial]⟩
 | m + 1,i,s,y8,hR,hQ,hf,hi => by
  obtain ⟨ls,l1,l2,l3⟩:=id hf
  have li:i < ck.length:=by lia
  have lz:i < (ck.zip ls).length:=by rw [List.length_zip]; lia
  obtain ⟨s1,e1,y1⟩:=w! (i:=ck[i].1) (j:=ck[i].2) (l3 (ls[i]'(by lia)) (List.getElem_mem _)) (by lia)
  have ef:(ck.zip ls)[i] = (ck[i],ls[i]'(by lia)):=List.getElem_zip
  obtain ⟨μ,hμ⟩:∃ μ:MN.Env,μ = [x0,x1,some (.loc R),x3,x4,some (.loc F),some (.loc Q),y7,some (.int (i:Int))]:=⟨_,rfl⟩
  have a1:ah bR (ae 5) (ae 8) μ s = .ok (Ag (ck[i],ls[i]'(by lia))) s:=by
   rw [ay (x:=.loc F) (s1:=s) (by rw [hμ]; rfl) (y:=.int (i:Int)) (s2:=s) (by rw [hμ]; rfl)]
   exact iS (b_ l2) (fq (by rw [List.getElem?_map,List.getElem?_eq_getElem lz,ef]; rfl))
  have a2:ah bR (ae 6) (ae 8) μ s = .ok (dV ck[i]) s:=by
   rw [ay (x:=.loc Q) (s1:=s) (by rw [hμ]; rfl) (y:=.int (i:Int)) (s2:=s) (by rw [hμ]; rfl)]
   exact iS (b_ hQ) (fq (by rw [List.getElem?_map,List.getElem?_eq_getElem li]; rfl))
  have c1:ao PM.cB (aa (ah bR (ae 5) (ae 8)) (aa (ah bR (ah bR (ae 6) (ae 8)) (mC (.int 0))) (aa (ah bR (ah bR (ae 6) (ae 8)) (mC (.int 1))) (aa (ao cT (aa (ae 2) ak)) ak)))) μ s = .ok (.bl true) s1:=by
   rw [ax (cb a1 (cb (v:=.int (ck[i].1:Int)) (s1:=s) (by rw [ay a2 (y:=.int 0) (s2:=s) rfl]; rfl) (dP (v:=.int (ck[i].2:Int)) (s1:=s) (by rw [ay a2 (y:=.int 1) (s2:=s) rfl]; rfl) (w:=.int (us.length:Int)) (s2:=s) (by rw [ax (br (v:=.loc R) (s1:=s) (by rw [hμ]; rfl)),c8 hR])))),e1]
  obtain ⟨s2,xy,e2⟩:=vp hl m (i + 1) s1 (some (.int (i:Int))) (y1.items hR) (y1.2 _ _ hQ) ⟨ls,l1,y1.2 _ _ l2,fun l h => (l3 l h).to y1.d⟩ (by lia)
  refine ⟨s2,xy,?_⟩
  rw [List.range'_succ,List.map_cons]
  refine (pF (g:=fun _ => True) (μ1:=μ) (μ2:=μ) (st2:=s1) trivial (by rw [hμ]; rfl) (fG (km (bJ c1)))).trans ?_
  rw [hμ]
  exact e2
end
theorem Aj (c:aT) (ns:List Int) (hl:ns.length ≤ 63) (hi:aj [c] 0 = some (ns.map ai.int)):∃ av,zY [.loc 0] [c] = .ok (.bl true) av:=by
 obtain ⟨s,hs⟩:∃ s:ag,s = [c]:=⟨_,rfl⟩
 rw [← hs] at hi ⊢
 obtain ⟨p,d,au,top,t,cn,s1,e1,x1,hp,p2,p3,m1,m3,t8⟩:=Ah hi (by lia)
 have h1:=x1.items hi
 obtain ⟨sh,vN⟩:∃ sh:ai,sh = gN p d au top t cn:=⟨_,rfl⟩
 obtain ⟨o2,c2,_⟩:=rB (k:=2) h1 (by decide) (by decide) (by lia)
 obtain ⟨s2,bT⟩:∃ s2,s2 = s1 ++ [aT.lst []]:=⟨_,rfl⟩
 rw [← bT] at c2
 have x2:Xt s1 s2:=by rw [bT]; exact Xt.app _
 have q2:=fF (m:=5) (by decide) o2
 obtain ⟨L,hL⟩:∃ L:Nat,(L:Int) = o2.fmod 5:=⟨(o2.fmod 5).toNat,by lia⟩
 obtain ⟨rows,s3,e3,l3,x3,r3,G3⟩:=vg (d:=d) (t:=t) (c:=cn) t8 m3 p2 p3 (by lia) L 0 s2 [] none (x2.items h1) (by lia) (fun r m => by cases m) (fun r m => by cases m)
 have lr:rows.length = L:=by rw [l3,List.length_nil]; lia
 obtain ⟨R,hR⟩:∃ R,R = s3.length:=⟨_,rfl⟩
 obtain ⟨s4,iV⟩:∃ s4,s4 = s3 ++ [aT.lst (rows.map fun r => ai.loc r.1)]:=⟨_,rfl⟩
 have x4:Xt s3 s4:=by rw [iV]; exact Xt.app _
 have R4:aj s4 R = some (rows.map fun r => ai.loc r.1):=by rw [iV,hR]; exact aQ s3 _
 have Ko:=x3.trans x4
 obtain ⟨pI,N?,_⟩:=rB (k:=12) (Ko.items (x2.items h1)) (by decide) (by decide) (by lia)
 obtain ⟨s5,tY⟩:∃ s5,s5 = s4 ++ [aT.lst []]:=⟨_,rfl⟩
 rw [← tY] at N?
 have x5:Xt s4 s5:=by rw [tY]; exact Xt.app _
 have R5:=x5.items R4
 have r5:∀ r ∈ rows,s5[r.1]? = some (.lst [tN r]):=fun r m => (x4.trans x5).2 _ _ (r3 r m)
 -- Eh is refused
 have PL:(rows.map fun r => ai.loc r.1) = lV (rows.map (·.1)):=by unfold lV; rw [List.map_map]; rfl
 obtain ⟨s6,f6,x6⟩:∃ s6,gf (uA (cA (ah gR (ah cg (ae 3) (mC (.int 4))) (mC (.int 1)))) (cE (cA (ao cC (aa (ae 1) (aa (ae 2) (aa (ah dQ (ae 3) (mC (.int 4))) ak))))))) (aY (mC (.bl false))) bB [some (.loc 0),some sh,some (.loc R),some (.int pI),none,none,none,none,none] s5 = .nx [some (.loc 0),some sh,some (.loc R),some (.int pI),none,none,none,none,none] s6 ∧ Xt s5 s6:=by
  obtain ⟨s6,e6,x6⟩:=t5 (d:=d) (au:=au) (top:=top) (t:=t) (c:=cn) (m:=pI.fdiv 4) hp (by rw [← PL]; exact R5) (fun q m => by
   obtain ⟨r,hr,rfl⟩:=List.mem_map.mp m
   exact ⟨_,r5 r hr⟩) (by rw [List.length_map]; lia)
  have t1:cA (ah gR (ah cg (ae 3) (mC (.int 4))) (mC (.int 1))) [some (.loc 0),some sh,some (.loc R),some (.int pI),none,none,none,none,none] s5 = .ok (pI.fmod 4 == 1) s5:=bJ (by rw [u7 (ff (o:=pI) (s1:=s5) rfl (by decide))])
  have Kr:ja sh = false:=by rw [vN]; rfl
  have t2:cE (cA (ao cC (aa (ae 1) (aa (ae 2) (aa (ah dQ (ae 3) (mC (.int 4))) ak))))) [some (.loc 0),some sh,some (.loc R),some (.int pI),none,none,none,none,none] s5 = .ok false s6:=km (bJ (by
   rw [ax (cb (v:=sh) (s1:=s5) (cP rfl Kr) (dP (v:=.loc R) (s1:=s5) rfl (pC (o:=pI) (s1:=s5) rfl (z9 (by decide) (by decide))))),vN,e6]))
  cases z:(pI.fmod 4 == 1) with
  | true =>
   rw [z] at t1
   exact ⟨s6,fG (by rw [uO,t1,aq,zf,t2]),x6⟩
  | false =>
   rw [z] at t1
   exact ⟨s5,fG (by rw [uO,t1,aq,zg]),Xt.refl⟩
 have R6:=x6.items R5
 have r6:∀ r ∈ rows,s6[r.1]? = some (.lst [tN r]):=fun r m => x6.2 _ _ (r5 r m)
 -- handed in
 obtain ⟨hs,s7,e7,S7,x7,b7⟩:=vh (us:=rows.map fun r => ai.loc r.1) rows s6 [] [] none R6 r6 .nil (fun r m => by cases m)
 rw [List.nil_append] at S7
 obtain ⟨D,hD⟩:∃ D,D = s7.length:=⟨_,rfl⟩
 obtain ⟨s8,Ax⟩:∃ s8,s8 = s7 ++ [aT.lst (hs.map fun r => ai.loc r.1)]:=⟨_,rfl⟩
 have x8:Xt s7 s8:=by rw [Ax]; exact Xt.app _
 have D8:aj s8 D = some (hs.map fun r => ai.loc r.1):=by rw [Ax,hD]; exact aQ s7 _
 have b8:∀ r ∈ hs,s8[r.1]? = some (.lst [tN r]):=fun r m => x8.2 _ _ (b7 r m)
 have lh:hs.length = rows.length:=S7.len.symm
 have R8:=(x7.trans x8).items R6
 have r8:∀ r ∈ rows,s8[r.1]? = some (.lst [tN r]):=fun r m => (x7.trans x8).2 _ _ (r6 r m)
 obtain ⟨F,N,s9,e9,x9,lF,lN,f9⟩:=mE (d:=d) hp ⟨D8,b8⟩ (S7.good G3) m1 (by lia) (by lia)
 rw [lh] at f9
 have D9:=x9.items D8
 have R9:=x9.items R8
 have PN:gu 16 s9 (.loc D) (.loc R) = some true:=by
  unfold gu
  simp only [vw,D9,R9]
  exact GL S7 (fun r m => x9.at_ _ _ trivial (r8 r m)) fun r m => x9.at_ _ _ trivial (b8 r m)
 obtain ⟨ls,g1,g2,g3⟩:=id f9
 -- Eh is Qq
 obtain ⟨t6,xc⟩:∃ t6,t6 = s9 ++ [aT.lst []]:=⟨_,rfl⟩
 have Oa:Xt s9 t6:=by rw [xc]; exact Xt.app _
 have Ob:=Oa.items R9
 have lu:(rows.map fun r => ai.loc r.1).length = rows.length:=List.length_map _
 obtain ⟨pH,Q,y7,PQ,Ks,PR⟩:=vn (x0:=some (.loc 0)) (x1:=some sh) (x3:=some (.int pI)) (x4:=some (.loc D)) (x5:=some (.loc F)) (by rw [lu]; lia) rows.length 0 t6 s9.length [] none none Ob (by rw [xc]; exact fj _ _) (by rw [lu]; lia) (by rw [List.length_nil]; lia)
 rw [List.nil_append,lu] at Ks
 have GS:=Oa.trans PR
 have PU:=GS.items R9
 have Oc:=GS.2 _ _ g2
 have PV:w6 pH N F (cU rows.length 0 rows.length) (rows.map fun r => ai.loc r.1).length:=by rw [lu]; exact ⟨ls,g1,Oc,fun l h => (g3 l h).to GS.d⟩
 have lp:((cU rows.length 0 rows.length).zip ls).length = (cU rows.length 0 rows.length).length:=by rw [List.length_zip]; lia
 obtain ⟨ML,y8,PX⟩:=vp (x0:=some (.loc 0)) (x1:=some sh) (x3:=some (.int pI)) (x4:=some (.loc D)) (y7:=y7) (by rw [lu]; lia) (cU rows.length 0 rows.length).length 0 pH none PU Ks PV (by lia)
 refine ⟨ML,?_⟩
 have Kr:ja sh = false:=by rw [vN]; rfl
 have F9:s9[F]? = some (.lst (((cU rows.length 0 rows.length).zip ls).map Ag)):=g2
 unfold zY
 rw [a! (np:=1) (us:=[ai.loc 0]) rfl]
 show (az (aM 1 _) jo [some (.loc 0),none,none,none,none,none,none,none,none] s).fin = _
 rw [aA,aW (v:=sh) (s1:=s1) (by rw [ax (vs:=[.loc 0]) (s1:=s) rfl,e1,vN]),aB]
 show (jo [some (.loc 0),some sh,none,none,none,none,none,none,none] s1).fin = _
 unfold jo
 rw [aA,aW (v:=.loc R) (s1:=s4) (by
  rw [cO,iT (j:=o2.fmod 5) (s1:=s2) (br (ff (by rw [ax (vs:=[.loc 0,.int 2]) (s1:=s1) rfl,c2]) (by decide))) (by lia) (by lia),aq,dX,← hL,Int.toNat_natCast,g8,if_pos (by rw [List.length_map,List.length_range',sizeLine_eq]; lia)]
  rw [show e8 1 [0,1] [some (.loc 0),some sh,none,none,none,none,none,none,none] = [none,some (.loc 0),some sh] from rfl,vN]
  show (a7 (fun _ => True) (aw 0) aL Mu _ _ s2 ([].map fun (r:ju) => ai.loc r.1)).fi o? = _
  rw [e3,aq,iV,hR]
  rfl),aB]
 show (mf [some (.loc 0),some sh,some (.loc R),none,none,none,none,none,none] s4).fin = _
 unfold mf
 rw [aA,aW (v:=.int pI) (s1:=s5) (by rw [ax (vs:=[.loc 0,.int 12]) (s1:=s4) rfl,N?]),aB]
 show (l? [some (.loc 0),some sh,some (.loc R),some (.int pI),none,none,none,none,none] s5).fin = _
 unfold l?
 rw [aA,f6,aB]
 unfold qZ
 rw [aA,aW (v:=.loc D) (s1:=s8) (by
  rw [cO,c7,show ae 2 [some (.loc 0),some sh,some (.loc R),some (.int pI),none,none,none,none,none] s6 = .ok (.loc R) s6 from rfl,aq,cR R6,aq,dX,if_pos (by rw [List.length_map,sizeLine_eq]; lia)]
  rw [show e8 1 [] [some (.loc 0),some sh,some (.loc R),some (.int pI),none,none,none,none,none] = [none] from rfl]
  show (a7 _ (aw 0) aL _ _ _ s6 ([].map fun (r:ju) => ai.loc r.1)).fi o? = _
  rw [e7,aq,Ax,hD]
  rfl),aB]
 show (l! [some (.loc 0),some sh,some (.loc R),some (.int pI),some (.loc D),none,none,none,none] s8).fin = _
 unfold l!
 have v1:∀ {a b c e f g h:Option ai} {s:ag},ae 1 [some (.loc 0),some sh,a,b,c,e,f,g,h] s = .ok sh s:=fun {a b c e f g h s} => cP rfl Kr
 rw [aA,aW (v:=.loc F) (s1:=s9) (by
  rw [ax (cb (v:=.int p) (s1:=s8) (by rw [ay v1 (y:=.int 0) (s2:=s8) rfl,vN]; rfl) (dP (v:=.str (bK d)) (s1:=s8) (by rw [ay v1 (y:=.int 1) (s2:=s8) rfl,vN]; rfl) (w:=.loc D) (s2:=s8) rfl)),e9]),aB]
 show (l_ [some (.loc 0),some sh,some (.loc R),some (.int pI),some (.loc D),some (.loc F),none,none,none] s9).fin = _
 unfold l_
 rw [aA,fG (u6 (bJ (by
  rw [ay (x:=.loc D) (s1:=s9) rfl (y:=.loc R) (s2:=s9) rfl]
  unfold ij
  rw [PN]
  rfl)) (km (bJ (by
  rw [zk,show ae 5 [some (.loc 0),some sh,some (.loc R),some (.int pI),some (.loc D),some (.loc F),none,none,none] s9 = .ok (.loc F) s9 from rfl,aq,is_list F9])))),aB]
 unfold qY
 rw [aA,aW (v:=.loc s9.length) (s1:=t6) (by rw [dq (vs:=[]) (s1:=s9) rfl (by decide),xc]),aB]
 show (l9 [some (.loc 0),some sh,some (.loc R),some (.int pI),some (.loc D),some (.loc F),some (.loc s9.length),none,none] t6).fin = _
 unfold l9
 rw [aA,ec,iT (j:=((rows.map fun r => ai.loc r.1).length:Int)) (s1:=t6) (br (by rw [ax (br (v:=.loc R) (s1:=t6) rfl),c8 Ob])) (by lia) (by rw [lu]; lia),aV,gK,Int.toNat_natCast,g8,lu,PQ,aB]
 unfold qX
 rw [aA,fG (s1:=pH) (bJ (c:=false) (s1:=pH) (by
  rw [ay (x:=.int (((((cU rows.length 0 rows.length).zip ls).map Ag)).length:Int)) (s1:=pH) (by rw [ax (br (v:=.loc F) (s1:=pH) rfl),c8 (b_ Oc)]) (y:=.int ((((cU rows.length 0 rows.length)).map dV).length:Int)) (s2:=pH) (by rw [ax (br (v:=.loc Q) (s1:=pH) rfl),c8 (b_ Ks)]),qE,List.length_map,List.length_map,lp]
  simp)),aB]
 unfold oz
 rw [aA,ec,iT (j:=((((cU rows.length 0 rows.length)).map dV).length:Int)) (s1:=pH) (br (by rw [ax (br (v:=.loc Q) (s1:=pH) rfl),c8 (b_ Ks)])) (by lia) (by
  rw [List.length_map]
  have:(cU rows.length 0 rows.length).length ≤ 16:=by
   rcases (by lia:rows.length = 0 ∨ rows.length = 1 ∨ rows.length = 2 ∨ rows.length = 3 ∨ rows.length = 4) with z | z | z | z | z <;> (rw [z]; decide)
  lia),aV,gK,Int.toNat_natCast,g8,List.length_map,PX,aB]
 unfold oy
 rfl
end qW
namespace qW
open PySem PySem.Spec L2 MN
open PyProof.Rows hiding St
noncomputable def top (i:Nat):Stmt:=PySem.Challenge.pw_polyring_k35_differences_of_terms.main.body.getD i (.Pass ⟨0,0,0,0⟩)
noncomputable def fP (i j:Nat):Stmt:=match top i with
 | .ClassDef _ _ _ b _ _ _ _ _ _ _ => b.getD j (.Pass ⟨0,0,0,0⟩)
 | s => s
structure Txt (P:Program) (w:World) (K:PySem.W.Frag) (mg:Str → Option Value) (base:Heap):Prop where
 gl:N_ K mg
 b:Cs mg ["ValueError","abs","all","bool","dict","int","isinstance","len","list","max","min","range","sorted","str","sum","tuple","zip"]
 c:Ct K mg ["AlgebraError","NoRing","NoPrime","NoInverse","NoOrder","ByNought"]
 rE:Glob K mg "MOST_RING" (.int 997)
 mF:Glob K mg "FIRST_PRIMES" PM.dG
 Ak:Glob K mg "ORDERS" PM.zJ
 pJ:Glob K mg "SPARE_BITS" (.int 40)
 cl:Gv K mg [("Packing",["by_degree","many","width","guards"]),("Monic",["top","back","tail"])]
 sub:c! K mg tab
 qx:nh K mg qW.kn
theorem C9 {X:Cx} {E:XK} {e:Expr} {m:ME} {i:Nat} {x:Str} {pos pos':Pos} (hN:X.N.Nodup) (he:PE X e (tE X E m)) (hi:X.N[i]? = some x:=by rfl) (hx:Loc X.env.scope x:=by first | exact Or.inl rfl | exact Or.inr rfl) (hs:swapsWith e (some (.Name x pos')) pos.line X.env = pure false:=by rfl) (hf:X.fn x = true ∨ X.env.scope.names.lookup x = some .local:=by first | exact .inl rfl | exact .inr rfl | assumption):PS X (.Assign [.Name x pos'] e pos) (tS X E (aM i m)):=Fw i hN he hi hx hs hf
section
variable {P:Program} {w:World} {K:PySem.W.Frag} {mg:Str → Option Value} {base:Heap} (T:Txt P w K mg base)
theorem eo:cw ["self","order","many","highest"] ["self","order","many","highest"] (aE (fP 26 0)):=c9
theorem fH:cw ["self","exponents","key","exponent"] ["self","exponents"] (aE (fP 26 1)):=c9
theorem dB:cw ["self","key","field"] ["self","key"] (aE (fP 26 2)):=c9
theorem et:cw ["self","one","other"] ["self","one","other"] (aE (fP 26 4)):=c9
theorem eu:cw ["self","row"] ["self","row"] (aE (fP 26 6)):=c9
theorem dC:cw ["self","terms"] ["self","terms"] (aE (fP 26 7)):=c9
theorem fI:cw ["self","prime","terms"] ["self","prime","terms"] (aE (fP 29 0)):=c9
theorem pK:cw ["_law_script","_law_shape_here","_law_rows","_law_more","_law_handed","_law_found","_law_due","_law_j","_law_place"] ["_law_script"] (aE (top 47)):=c9
seal L2.PE L2.PT L2.PA L2.PS L2.gS L2.PG L2.rY L2.PI L2.vQ L2.Av L2.vU L2.PH
set_option hygiene false
local macro_rules|`(tactic|trivial)=>`(tactic|repeat' first|((with_reducible show PA _ (_::_) _);refine Bz ?_ ?_)|with_reducible exact Fq|((with_reducible show PE _ (.Name ..) _);first|exact Fe _|exact kP (by rfl) T.rE|exact kP (by rfl) T.mF|exact kP (by rfl) T.Ak|exact kP (by rfl) T.pJ)|((with_reducible show PE _ (.Constant ..) _);first|exact Ff|exact IB|exact Fg|exact Fh)|((with_reducible show PE _ _ (tG _ _ _ (ao v_ _)));refine d6 (v! hr.hd) (by rfl) (dI T.b (by decide +kernel)) PyProof.Rows.boot_all ?_)|((with_reducible show PE _ _ (tG _ _ _ (ao sI _)));refine d6 vZ (by rfl) (dI T.b (by decide +kernel)) PyProof.Rows.boot_abs ?_)|((with_reducible show PE _ _ (tG _ _ _ (ao pw _)));refine d6 (wQ hr.hd) (by rfl) (dI T.b (by decide +kernel)) PyProof.Rows.Boot.«sum» ?_)|((with_reducible show PE _ _ (tG _ _ _ (ao nc _)));refine jM v8 (by rfl) (dI T.b (by decide +kernel)) PyProof.Rows.boot_tuple ?_)|((with_reducible show PE _ _ (tG _ _ _ (ao cT _)));refine d6 vY (by rfl) (dI T.b (by decide +kernel)) PySem.boot_len ?_)|((with_reducible show PE _ _ (tG _ _ _ (ao qO _)));refine jM (tM hr.hd hr.units) (by rfl) (dI T.b (by decide +kernel)) PyProof.Rows.boot_dict ?_)|((with_reducible show PE _ _ (tG _ _ _ (ao qT _)));refine d6 tU (by rfl) (dI T.b (by decide +kernel)) PySem.boot_len ?_)|((with_reducible show PE _ _ (tG _ _ _ (ao jn _)));refine d6 (tO hr.hd) (by rfl) (dI T.b (by decide +kernel)) PyProof.Rows.Boot.«max» ?_)|((with_reducible show PE _ _ (tG _ _ _ (ao tR _)));refine d6 (tV hr.hd) (by rfl) (dI T.b (by decide +kernel)) PyProof.Rows.Boot.«max» ?_)|((with_reducible show PE _ _ (tG _ _ _ (ao wH _)));refine d6 (wI hr.hd) (by rfl) (dI T.b (by decide +kernel)) PyProof.Rows.Boot.«min» ?_)|((with_reducible show PE _ _ (tG _ _ _ (ao sJ _)));refine jM v9 (by rfl) (dI T.b (by decide +kernel)) PyProof.Rows.boot_list ?_)|((with_reducible show PE _ _ (tG _ _ _ (ao _ _)));refine IS (by assumption) hr (by decide) (by rfl) (by first|exact lC|exact yQ) ?_)|((with_reducible show PE _ _ (tG _ _ _ (qJ _ _ _)));refine Cu (by assumption) hr (by decide) (by rfl) (by first|exact lC|exact yQ) ?_)|((with_reducible show PE _ _ (tG _ _ _ (cQ _ _ _ _ _)));refine zP (by assumption) hr (by decide) (by first|exact lC|exact yQ) ?_ ?_)|((with_reducible show PE _ _ (tG _ _ _ (bh _ _ _)));first|refine zN (T.cl.1.Kj (by decide +kernel)) ?_|refine zN (T.cl.2.1.Kj (by decide +kernel)) ?_)|((with_reducible show PE _ _ (tG _ _ _ (ah bR _ _)));refine FW ?_ ?_)|((with_reducible show PE _ _ (tG _ _ _ (ah kh _ _)));refine BR hr.units ?_ ?_)|((with_reducible show PE _ _ (tG _ _ _ (m? _ _)));refine Fl ?_ ?_)|((with_reducible show PE _ _ (tG _ _ _ (Ka _ _)));refine IC ?_ ?_)|((with_reducible show PE _ _ (tG _ _ _ (Bx _ _ _)));refine IE ?_ ?_ ?_)|((with_reducible show PE _ _ (tG _ _ _ (d5 _)));refine Fs ?_)|((with_reducible show PE _ _ (tG _ _ _ (bF _)));refine Ft ?_)|((with_reducible show PE _ _ (tG _ _ _ (uK _ _ _)));refine IU ?_ ?_ ?_)|((with_reducible show PE _ _ (tG _ _ _ (gX)));refine yZ)|((with_reducible show PE _ (.BinOp ..) _);first|refine Gu ?_ ?_|refine Gs ?_ ?_|refine Gp ?_ ?_|refine Gq ?_ ?_|refine Gr ?_ ?_|refine gq B4 ?_ ?_|refine gq B5 ?_ ?_|refine gq Cy ?_ ?_|refine gq GC ?_ ?_)|((with_reducible show PE _ (.Compare ..) _);first|refine Jo hr.units ?_ ?_|refine Jp hr.units ?_ ?_|refine jJ yB ?_ ?_|refine jJ yC ?_ ?_|refine jJ yH ?_ ?_|refine jJ yJ ?_ ?_)|((with_reducible show PE _ (.UnaryOp ..) _);first|refine Fx ?_|refine Fm ?_)|((with_reducible show PE _ (.Call (.Attribute ..) ..) _);first|refine wu ?_ ?_|refine wx ?_ ?_|refine B6 ?_)|((with_reducible show PE _ _ (tG _ _ _ (xq _ _)));first|refine lJ yL (by rfl) (dI T.b (by decide +kernel)) (by rfl) (dI T.b (by decide +kernel)) PyProof.Rows.boot_int ?_|refine lJ wa (by rfl) (dI T.b (by decide +kernel)) (by rfl) (dI T.b (by decide +kernel)) PyProof.Rows.boot_bool ?_|refine lJ yM (by rfl) (dI T.b (by decide +kernel)) (by rfl) (dI T.b (by decide +kernel)) PyProof.Rows.boot_str ?_|refine lJ sM (by rfl) (dI T.b (by decide +kernel)) (by rfl) (dI T.b (by decide +kernel)) PyProof.Rows.boot_tuple ?_|refine lJ wc (by rfl) (dI T.b (by decide +kernel)) (by rfl) (dI T.b (by decide +kernel)) PyProof.Rows.boot_list ?_)|((with_reducible show PE _ _ (tG _ _ _ (kj _ _ _ _)));refine Cn _ T.sub T.qx (GR T.c (by decide +kernel)) (by rfl) (dI T.b (by decide +kernel)) (by rfl))|((with_reducible show PE _ _ (tG _ _ _ (wj _ _ _)));exact BP _ T.sub (dI T.b (by decide +kernel)) iD (by rfl) (dI T.b (by decide +kernel)) (by rfl))|((with_reducible show gS _ [_] _);refine yw ?_)|((with_reducible show gS _ (_::_) _);refine uB ?_ ?_)|with_reducible exact Fu|((with_reducible show PS _ (.Assign [.Name ..] ..) _);refine C9 (by assumption) ?_)|((with_reducible show PS _ (.Assign [.Attribute ..] ..) _);first|refine zO (T.cl.1.Kj (by decide +kernel)) ?_ ?_|refine zO (T.cl.2.1.Kj (by decide +kernel)) ?_ ?_)|((with_reducible show PS _ (.Return ..) _);refine Fv ?_)|((with_reducible show PS _ (.If ..) _);refine IG ?_ ?_ ?_)|((with_reducible show PS _ (.Expr ..) _);refine BB ?_)|((with_reducible show PS _ (.While ..) _);refine yP qt ?_ ?_)|((with_reducible show PS _ (.For ..) _);refine FH qt rfl ?_ ?_ ?_)|((with_reducible show PS _ (.Raise ..) _);refine wm sP rfl (GR T.c (by decide +kernel)) (by rfl) ?_)|((with_reducible show PI _ _ _ (tG _ _ _ (d_ _)));refine FF ?_)|((with_reducible show PI _ _ (.Call ..) _);first|refine wd (by rfl) (dI T.b (by decide +kernel)) ?_|refine we (by rfl) (dI T.b (by decide +kernel)) ?_|refine BV (by rfl) (dI T.b (by decide +kernel)) ?_|refine FG _ _ (by rfl) (dI T.b (by decide +kernel)) ?_)|((with_reducible show PG _ (.Name ..) _);exact BJ _ (by assumption))|((with_reducible show PG _ (.Tuple ..) _);refine FD rfl ?_)|((with_reducible show rY _ (_::_) _);refine yN ?_ ?_)|with_reducible exact BK|((with_reducible show vQ _ [] _);exact BL)|((with_reducible show vQ _ [_] _);refine BM ?_)|((with_reducible show PT _ (.Compare ..) _);first|refine Jm hr.units ?_ ?_|refine Jn hr.units ?_ ?_|refine Jk ?_ ?_|refine Jl ?_ ?_|refine jK yH ?_ ?_|refine jK yJ ?_ ?_)|((with_reducible show PT _ (.UnaryOp ..) _);refine Fp ?_)|((with_reducible show PT _ (.BoolOp ..) _);refine LK ?_)|((with_reducible show PT _ _ (tG _ _ _ (cA _)));refine Fi ?_)|refine BU ?_|exact BS|refine ID ?_ ?_|refine Fn ?_|refine Fo ?_ ?_|refine By ?_|refine Fj ?_|((with_reducible show gS _ _ _);first|refine yw ?_|refine uB ?_ ?_))
include T
theorem rF (F:dR K "is_whole" (top 11)):FnAt P w K mg base "is_whole" 1 PM.e_ :=
 FnAt.ko F T.gl (c9 (N:=["thing"]) (P:=["thing"])) (fun _ _ _ _ s _ _ nd hr => by
 trivial)
variable (t7:FnAt P w K mg base "is_whole" 1 PM.e_)
theorem iX (F:dR K "is_prime_within" (top 12)):FnAt P w K mg base "is_prime_within" 1 PM.bC :=
 FnAt.ko F T.gl (c9 (N:=["number"]) (P:=["number"])) (fun _ _ _ _ s _ _ nd hr => by
 have:(["prime","number"]:List Str).Nodup:=by decide +kernel
 trivial
 ·refine dg (N:=["prime","number"]) (k:=1) rfl rfl (g9 (cl:=[("number",s.heap.objs.size + 1)])) ?_ (fun _ _ _ _ => ?_) (fun _ _ _ _ => ?_) (fun _ _ _ _ => ?_)<;>trivial)
variable (jw:FnAt P w K mg base "is_prime_within" 1 PM.bC)
theorem mG (F:dR K "signed_unit" (top 16)):FnAt P w K mg base "signed_unit" 1 PM.cW :=
 FnAt.ko F T.gl (c9 (N:=["number"]) (P:=["number"])) (fun _ _ _ _ s _ _ nd hr => by
 trivial)
variable (nA:FnAt P w K mg base "signed_unit" 1 PM.cW)
theorem jV (F:dR K "whole_inverse" (top 19)):FnAt P w K mg base "whole_inverse" 1 PM.fM :=
 FnAt.ko F T.gl (c9 (N:=["number"]) (P:=["number"])) (fun _ _ _ _ s _ _ nd hr => by
 trivial)
variable (kD:FnAt P w K mg base "whole_inverse" 1 PM.fM)
theorem rG (F:dR K "is_order" (top 22)):FnAt P w K mg base "is_order" 1 PM.dH :=
 FnAt.ko F T.gl (c9 (N:=["thing"]) (P:=["thing"])) (fun _ _ _ _ s _ _ nd hr => by
 trivial)
variable (t9:FnAt P w K mg base "is_order" 1 PM.dH)
theorem iq (M:pj K "Packing" "__init__" "Packing.__init__" (fP 26 0)):jk P w K mg base "Packing" 1 PM.cG :=
 jk.mk M T.cl.1 eo (fun _ _ _ _ _ _ => BX fun _ _ _ _ => rfl) fun f cZ A outer s H E hr => by
 have:=eo.nd
 have:(["place","self"]:List Str).Nodup:=by decide +kernel
 trivial
 ·refine dg (N:=["place","self"]) (k:=1) rfl rfl (g9 (cl:=[("self",s.heap.objs.size + 1)])) ?_ (fun _ _ _ _ => ?_) (fun _ _ _ _ => ?_) (fun _ _ _ _ => ?_)<;>trivial
variable (iY:jk P w K mg base "Packing" 1 PM.cG)
theorem jx (M:pj K "Packing" "key_of" "Packing.key_of" (fP 26 1)):MethAt P w K mg base "Packing" "key_of" 1 PM.bw :=
 MethAt.mk M T.cl.1 fH (fun _ _ _ _ _ _ => wy fun _ _ => rfl) fun f cZ A outer s H E hr => by
 have:=fH.nd
 trivial
variable (f_:MethAt P w K mg base "Packing" "key_of" 1 PM.bw)
theorem f? (M:pj K "Packing" "exponents_of" "Packing.exponents_of" (fP 26 2)):MethAt P w K mg base "Packing" "exponents_of" 1 PM.aI :=
 MethAt.mk M T.cl.1 dB (fun _ _ _ _ _ _ => wy fun _ _ => rfl) fun f cZ A outer s H E hr => by
 have:=dB.nd
 have:(["place","field","key","self"]:List Str).Nodup:=by decide +kernel
 trivial
 ·refine dg (N:=["place","field","key","self"]) (k:=1) rfl rfl (rD (cl:=[("field",s.heap.objs.size + 3),("key",s.heap.objs.size + 2),("self",s.heap.objs.size + 1)]) (cl':=[("self",s.heap.objs.size + 1),("key",s.heap.objs.size + 2),("field",s.heap.objs.size + 3)]) (caps':=[0,1,2])) ?_ (fun _ _ _ _ => ?_) (fun _ _ _ _ => ?_) (fun _ _ _ _ => ?_)<;>trivial
variable (dJ:MethAt P w K mg base "Packing" "exponents_of" 1 PM.aI)
theorem g_ (F:dR K "check_none_nought" (top 30)):FnAt P w K mg base "check_none_nought" 1 PM.aZ :=
 FnAt.ko F T.gl (c9 (N:=["rows","row"]) (P:=["rows"])) (fun _ _ _ _ s _ _ nd hr => by
 trivial)
variable (ir:FnAt P w K mg base "check_none_nought" 1 PM.aZ)
theorem g! (F:dR K "multiple_of_terms" (top 32)):FnAt P w K mg base "multiple_of_terms" 1 PM.bx :=
 FnAt.ko F T.gl (c9 (N:=["prime","terms","factor"]) (P:=["prime","terms","factor"])) (fun _ _ _ _ s _ _ nd hr => by
 have:(["key","number","factor","prime"]:List Str).Nodup:=by decide +kernel
 trivial
 ·refine dg (N:=["key","number","factor","prime"]) (k:=2) rfl rfl (rD (cl:=[("factor",s.heap.objs.size + 2),("prime",s.heap.objs.size + 1)]) (cl':=[("prime",s.heap.objs.size + 1),("factor",s.heap.objs.size + 2)]) (caps':=[0,2])) ?_ (fun _ _ _ _ => ?_) (fun _ _ _ _ => ?_) (fun _ _ _ _ => ?_)
  ·refine l8 hr.hd ?_<;>trivial
  ·trivial
  ·trivial
  ·trivial)
variable (iu:FnAt P w K mg base "multiple_of_terms" 1 PM.bx)
theorem pL (F:dR K "lower_top" (top 33)):FnAt P w K mg base "lower_top" 1 PM.eH :=
 FnAt.ko F T.gl (c9 (N:=["prime","guards","left","monics","quotients","top","place","shift","number"]) (P:=["prime","guards","left","monics","quotients"])) (fun _ _ _ _ s _ _ nd hr => by
 trivial
 ·exact uX) (fun _ _ _ _ _ _ => FX fun _ _ _ _ _ => rfl)
variable (rH:FnAt P w K mg base "lower_top" 1 PM.eH)
theorem kE (F:dR K "add_multiple" (top 35)):FnAt P w K mg base "add_multiple" 1 PM.cz :=
 FnAt.ko F T.gl (c9 (N:=["prime","terms","pairs","shift","factor","key","number","place","total"]) (P:=["prime","terms","pairs","shift","factor"])) (fun _ _ _ _ s _ _ nd hr => by
 trivial
 ·exact uX) (fun _ _ _ _ _ _ => FX fun _ _ _ _ _ => rfl)
variable (mH:FnAt P w K mg base "add_multiple" 1 PM.cz)
theorem kF (F:dR K "_law_cell_at" (top 40)):FnAt P w K mg base "_law_cell_at" 1 PM.a9 :=
 FnAt.ko F T.gl (c9 (N:=["_law_script","_law_k","_law_cell","_law_mixed"]) (P:=["_law_script","_law_k"])) (fun _ _ _ _ s _ _ nd hr => by
 trivial)
variable (g?:FnAt P w K mg base "_law_cell_at" 1 PM.a9)
theorem nB (F:dR K "_law_whole" (top 41)):FnAt P w K mg base "_law_whole" 1 PM.dz :=
 FnAt.ko F T.gl (c9 (N:=["_law_found"]) (P:=["_law_found"])) (fun _ _ _ _ s _ _ nd hr => by
 trivial)
variable (pM:FnAt P w K mg base "_law_whole" 1 PM.dz)
theorem pN (F:dR K "_law_term" (top 43)):FnAt P w K mg base "_law_term" 1 PM.fX :=
 FnAt.ko F T.gl (c9 (N:=["_law_cell","_law_shape_here","_law_exponents","_law_unknown"]) (P:=["_law_cell","_law_shape_here"])) (fun _ _ _ _ s _ _ nd hr => by
 trivial)
variable (rK:FnAt P w K mg base "_law_term" 1 PM.fX)
include t7 jw in
theorem t_ (F:dR K "is_ring" (top 13)):FnAt P w K mg base "is_ring" 2 PM.cy :=
 FnAt.ko F T.gl (c9 (N:=["thing"]) (P:=["thing"])) (fun _ _ _ _ s _ _ nd hr => by
 trivial)
variable (oF:FnAt P w K mg base "is_ring" 2 PM.cy)
include nA in
theorem xf (F:dR K "shared" (top 17)):FnAt P w K mg base "shared" 2 PM.shared :=
 FnAt.ko F T.gl (c9 (N:=["one","other","upper","lower","often","following"]) (P:=["one","other"])) (fun _ _ _ _ s _ _ nd hr => by
 have:(["high","low","often"]:List Str).Nodup:=by decide +kernel
 trivial
 ·refine dg (N:=["high","low","often"]) (k:=2) rfl rfl (g9 (cl:=[("often",s.heap.objs.size + 1)])) ?_ (fun _ _ _ _ => ?_) (fun _ _ _ _ => ?_) (fun _ _ _ _ => ?_)<;>trivial)
variable (Al:FnAt P w K mg base "shared" 2 PM.shared)
include t9 in
theorem mI (F:dR K "check_order" (top 23)):FnAt P w K mg base "check_order" 2 PM.bX :=
 FnAt.ko F T.gl (c9 (N:=["order"]) (P:=["order"])) (fun _ _ _ _ s _ _ nd hr => by
 trivial)
variable (nC:FnAt P w K mg base "check_order" 2 PM.bX)
include f_ dJ in
theorem iw (M:pj K "Packing" "least_of" "Packing.least_of" (fP 26 4)):MethAt P w K mg base "Packing" "least_of" 2 PM.bY :=
 MethAt.mk M T.cl.1 et (fun _ _ _ _ _ _ => BW fun _ _ _ => rfl) fun f cZ A outer s H E hr => by
 have:=et.nd
 have:(["pair"]:List Str).Nodup:=by decide +kernel
 trivial
 ·refine dg (N:=["pair"]) (k:=1) rfl rfl (g9 (cl:=[])) ?_ (fun _ _ _ _ => ?_) (fun _ _ _ _ => ?_) (fun _ _ _ _ => ?_)
  ·refine CD false false (by rfl) T.b.2.2.2.2.2.2.2.2.2.2.2.2.2.2.2.2.1 ?_<;>trivial
  ·trivial
  ·trivial
  ·trivial
variable (iZ:MethAt P w K mg base "Packing" "least_of" 2 PM.bY)
include f_ in
theorem ix (M:pj K "Packing" "terms_of" "Packing.terms_of" (fP 26 6)):MethAt P w K mg base "Packing" "terms_of" 2 PM.bZ :=
 MethAt.mk M T.cl.1 eu (fun _ _ _ _ _ _ => wy fun _ _ => rfl) fun f cZ A outer s H E hr => by
 have:=eu.nd
 have:(["exponents","number","self"]:List Str).Nodup:=by decide +kernel
 trivial
 ·refine dg (N:=["exponents","number","self"]) (k:=2) rfl rfl (g9 (cl:=[("self",s.heap.objs.size + 1)])) ?_ (fun _ _ _ _ => ?_) (fun _ _ _ _ => ?_) (fun _ _ _ _ => ?_)<;>trivial
variable (i6:MethAt P w K mg base "Packing" "terms_of" 2 PM.bZ)
include dJ in
theorem f' (M:pj K "Packing" "sum_of_terms" "Packing.sum_of_terms" (fP 26 7)):MethAt P w K mg base "Packing" "sum_of_terms" 2 PM.a_ :=
 MethAt.mk M T.cl.1 dC (fun _ _ _ _ _ _ => wy fun _ _ => rfl) fun f cZ A outer s H E hr => by
 have:=dC.nd
 have:(["key","number","self"]:List Str).Nodup:=by decide +kernel
 trivial
 ·refine zX (by rfl) (by rfl) T.b.2.2.2.2.2.2.2.2.2.2.2.2.1 PyProof.Rows.Boot.«sorted» ?_
  ·refine dg (N:=["key","number","self"]) (k:=2) rfl rfl (g9 (cl:=[("self",s.heap.objs.size + 1)])) ?_ (fun _ _ _ _ => ?_) (fun _ _ _ _ => ?_) (fun _ _ _ _ => ?_)
   ·refine l8 hr.hd ?_<;>trivial
   ·trivial
   ·trivial
   ·trivial
variable (gF:MethAt P w K mg base "Packing" "sum_of_terms" 2 PM.a_)
include g? in
theorem nD (F:dR K "_law_shape" (top 42)):FnAt P w K mg base "_law_shape" 2 PM.fY :=
 FnAt.ko F T.gl (c9 (N:=["_law_script","_law_primes","_law_cell","_law_kind","_law_order","_law_many","_law_top","_law_terms","_law_prime"]) (P:=["_law_script"])) (fun _ _ _ _ s _ _ nd hr => by
 trivial)
variable (pO:FnAt P w K mg base "_law_shape" 2 PM.fY)
include pM in
theorem jy (F:dR K "_law_triple_is" (top 46)):FnAt P w K mg base "_law_triple_is" 2 PM.cB :=
 FnAt.ko F T.gl (c9 (N:=["_law_found","_law_j","_law_k","_law_count"]) (P:=["_law_found","_law_j","_law_k","_law_count"])) (fun _ _ _ _ s _ _ nd hr => by
 have:(["_law_place"]:List Str).Nodup:=by decide +kernel
 trivial
 ·refine dg (N:=["_law_place"]) (k:=1) rfl rfl (g9 (cl:=[])) ?_ (fun _ _ _ _ => ?_) (fun _ _ _ _ => ?_) (fun _ _ _ _ => ?_)<;>trivial) (fun _ _ _ _ _ _ => BX fun _ _ _ _ => rfl)
variable (jW:FnAt P w K mg base "_law_triple_is" 2 PM.cB)
include oF in
theorem nE (F:dR K "check_ring" (top 14)):FnAt P w K mg base "check_ring" 3 PM.e! :=
 FnAt.ko F T.gl (c9 (N:=["ring"]) (P:=["ring"])) (fun _ _ _ _ s _ _ nd hr => by
 trivial)
variable (pP:FnAt P w K mg base "check_ring" 3 PM.e!)
include oF in
theorem mJ (F:dR K "check_prime" (top 15)):FnAt P w K mg base "check_prime" 3 PM.bD :=
 FnAt.ko F T.gl (c9 (N:=["prime"]) (P:=["prime"])) (fun _ _ _ _ s _ _ nd hr => by
 trivial)
variable (nF:FnAt P w K mg base "check_prime" 3 PM.bD)
include iY in
theorem mK (F:dR K "packing_for" (top 27)):FnAt P w K mg base "packing_for" 3 PM.dA :=
 FnAt.ko F T.gl (c9 (N:=["order","rows","terms","row","many"]) (P:=["order","rows"])) (fun _ _ _ _ s _ _ nd hr => by
 have:(["exponents","number"]:List Str).Nodup:=by decide +kernel
 trivial
 ·refine Cg (by rfl) (by rfl) T.b.2.2.2.2.2.2.2.2.2.1 PyProof.Rows.Boot.«max» ?_ ?_
  ·refine dg (N:=["exponents","number"]) (k:=2) rfl rfl (g9 (cl:=[])) ?_ (fun _ _ _ _ => ?_) (fun _ _ _ _ => ?_) (fun _ _ _ _ => ?_)<;>trivial
  ·trivial)
variable (nG:FnAt P w K mg base "packing_for" 3 PM.dA)
include iu gF in
theorem hG (F:dR K "sums_of_quotients" (top 31)):FnAt P w K mg base "sums_of_quotients" 3 PM.bz :=
 FnAt.ko F T.gl (c9 (N:=["prime","packing","monics","quotients","sums","monic","terms"]) (P:=["prime","packing","monics","quotients"])) (fun _ _ _ _ s _ _ nd hr => by
 trivial) (fun _ _ _ _ _ _ => BX fun _ _ _ _ => rfl)
variable (iy:FnAt P w K mg base "sums_of_quotients" 3 PM.bz)
include rH mH iZ in
theorem fg (F:dR K "quotients_of_difference" (top 38)):FnAt P w K mg base "quotients_of_difference" 3 PM.aS :=
 FnAt.ko F T.gl (c9 (N:=["prime","packing","monics","first","second","key","left","quotients"]) (P:=["prime","packing","monics","first","second"])) (fun _ _ _ _ s _ _ nd hr => by
 have:(["monic"]:List Str).Nodup:=by decide +kernel
 trivial
 ·refine MN.gv 7 (N:=["monic"]) (k:=1) nd rfl rfl (g9 (cl:=[])) ?_ (fun _ _ _ _ => ?_) (fun _ _ _ _ => ?_) (fun _ _ _ _ => ?_)<;>trivial) (fun _ _ _ _ _ _ => FX fun _ _ _ _ _ => rfl)
variable (fk:FnAt P w K mg base "quotients_of_difference" 3 PM.aS)
include kD Al pP in
theorem t! (F:dR K "inverse" (top 18)):FnAt P w K mg base "inverse" 4 PM.inverse :=
 FnAt.ko F T.gl (c9 (N:=["ring","number"]) (P:=["ring","number"])) (fun _ _ _ _ s _ _ nd hr => by
 trivial)
variable (xg:FnAt P w K mg base "inverse" 4 PM.inverse)
include xg in
theorem jz (M:pj K "Monic" "__init__" "Monic.__init__" (fP 29 0)):jk P w K mg base "Monic" 5 PM.cH :=
 jk.mk M T.cl.2.1 fI (fun _ _ _ _ _ _ => BW fun _ _ _ => rfl) fun f cZ A outer s H E hr => by
 have:=fI.nd
 have:(["key","number","prime","self"]:List Str).Nodup:=by decide +kernel
 trivial
 ·refine dg (N:=["key","number","prime","self"]) (k:=2) rfl rfl (rD (cl:=[("prime",s.heap.objs.size + 2),("self",s.heap.objs.size + 1)]) (cl':=[("self",s.heap.objs.size + 1),("prime",s.heap.objs.size + 2)]) (caps':=[0,1])) ?_ (fun _ _ _ _ => ?_) (fun _ _ _ _ => ?_) (fun _ _ _ _ => ?_)
  ·refine l8 hr.hd ?_<;>trivial
  ·trivial
  ·trivial
  ·trivial
variable (jX:jk P w K mg base "Monic" 5 PM.cH)
include ir nC i6 nF nG iy fk jX in
theorem mL (F:dR K "differences" (top 37)):FnAt P w K mg base "differences" 7 PM.bp :=
 FnAt.ko F T.gl (c9 (N:=["prime","order","rows","packing","monics","found","first","second","quotients"]) (P:=["prime","order","rows"])) (fun _ _ _ _ s _ _ nd hr => by
 have:(["row","packing","prime"]:List Str).Nodup:=by decide +kernel
 trivial
 ·refine MN.gv 4 (N:=["row","packing","prime"]) (k:=1) nd rfl rfl (rD (cl:=[("packing",s.heap.objs.size + 2),("prime",s.heap.objs.size + 1)]) (cl':=[("prime",s.heap.objs.size + 1),("packing",s.heap.objs.size + 2)]) (caps':=[0,3])) ?_ (fun _ _ _ _ => ?_) (fun _ _ _ _ => ?_) (fun _ _ _ _ => ?_)<;>trivial)
variable (fQ:FnAt P w K mg base "differences" 7 PM.bp)
include fQ in
theorem pQ (F:dR K "_law_told" (top 44)):FnAt P w K mg base "_law_told" 8 aX :=
 FnAt.ko F T.gl (c9 (N:=["_law_prime","_law_order","_law_rows","e"]) (P:=["_law_prime","_law_order","_law_rows"])) (fun _ _ _ _ s _ _ nd hr => by
 trivial
 ·refine FO T.qx.known ⟨fun _ => rfl,rfl,rfl⟩ ?_ ?_
  ·refine BO ?_
   ·refine yU ?_
    ·refine FR fQ hr (by decide) (by rfl) (fun _ => rfl) (fun _ => ?_)<;>trivial
  ·refine FV (i:=3) T.sub nd T.c.1 (by rfl) (fun _ _ => ?_) ?_
   ·trivial
   ·exact FL)
variable (rL:FnAt P w K mg base "_law_told" 8 aX)
include rL in
theorem kG (F:dR K "_law_refused" (top 45)):FnAt P w K mg base "_law_refused" 9 cC :=
 FnAt.ko F T.gl (c9 (N:=["_law_shape_here","_law_rows","_law_more","_law_no_prime","_law_no_order","_law_at","_law_bad","_law_some"]) (P:=["_law_shape_here","_law_rows","_law_more"])) (fun _ _ _ _ s _ _ nd hr => by
 trivial)
variable (mM:FnAt P w K mg base "_law_refused" 9 cC)
include g? rK pO jW fQ mM in
theorem GU {f:Addr} {fd:FuncData} (F:Au K "law" "law" (top 47) f fd):d8 P w K mg base (gT P w) 10 f fd ["_law_script"] (xn ⟨K,mg,[]⟩ zY) :=
 o4 F pK fun cZ A outer s H E hr => by
 have:=pK.nd
 have:(["_law_k","_law_script","_law_shape_here"]:List Str).Nodup:=by decide +kernel
 have:(["_law_row"]:List Str).Nodup:=by decide +kernel
 have:(["_law_k","_law_j"]:List Str).Nodup:=by decide +kernel
 trivial
 ·refine MN.gv 2 (N:=["_law_k","_law_script","_law_shape_here"]) (k:=1) pK.nd rfl rfl (rD (cl:=[("_law_script",s.heap.objs.size + 1),("_law_shape_here",s.heap.objs.size + 2)]) (cl':=[("_law_shape_here",s.heap.objs.size + 2),("_law_script",s.heap.objs.size + 1)]) (caps':=[1,0])) ?_ (fun _ _ _ _ => ?_) (fun _ _ _ _ => ?_) (fun _ _ _ _ => ?_)<;>trivial
 ·refine MN.gv 4 (N:=["_law_row"]) (k:=1) pK.nd rfl rfl (g9 (cl:=[])) ?_ (fun _ _ _ _ => ?_) (fun _ _ _ _ => ?_) (fun _ _ _ _ => ?_)<;>trivial
 ·refine dg (N:=["_law_k","_law_j"]) (k:=1) rfl rfl (g9 (cl:=[("_law_j",s.heap.objs.size + 3)])) ?_ (fun _ _ _ _ => ?_) (fun _ _ _ _ => ?_) (fun _ _ _ _ => ?_)<;>trivial
end
theorem all_mk {l:PySem.W.OpenLaw} {w:World} {K:PySem.W.Frag} {h:Heap} {mg:Str → Option Value} {fa:Addr} (X:K.In h) (G:h.Ns mainGlobals mg) (PY:mg "law" = some (.ref fa))
  {MM:Addr} {MP JH:Option Addr} {MQ:Array (Option Value)} {MR JI JJ JK GV JL:Value}
  {pR:Tok}
  {gO:Addr} {kH:Option Addr} {kI:Nat} {kJ:Array (Option Value)} {jY jZ j0 j1 j2 j3 j4 j5 j6 j7 jA:Tok}
  {oG:Addr} {xh:Option Addr} {xi:Nat} {xj:Array (Option Value)} {t? uc:Tok}
  {nH:Tok}
  (h0:dR K "is_whole" (top 11))
  (h1:dR K "is_prime_within" (top 12))
  (h2:dR K "signed_unit" (top 16))
  (h3:dR K "whole_inverse" (top 19))
  (h4:dR K "is_order" (top 22))
  (m5:pj K "Packing" "__init__" "Packing.__init__" (fP 26 0))
  (m6:pj K "Packing" "key_of" "Packing.key_of" (fP 26 1))
  (m7:pj K "Packing" "exponents_of" "Packing.exponents_of" (fP 26 2))
  (h8:dR K "check_none_nought" (top 30))
  (h9:dR K "multiple_of_terms" (top 32))
  (MS:dR K "lower_top" (top 33))
  (J_:dR K "add_multiple" (top 35))
  (MU:dR K "_law_cell_at" (top 40))
  (MV:dR K "_law_whole" (top 41))
  (MW:dR K "_law_term" (top 43))
  (MX:dR K "is_ring" (top 13))
  (MY:dR K "shared" (top 17))
  (MZ:dR K "check_order" (top 23))
  (M0:pj K "Packing" "least_of" "Packing.least_of" (fP 26 4))
  (M1:pj K "Packing" "terms_of" "Packing.terms_of" (fP 26 6))
  (M3:pj K "Packing" "sum_of_terms" "Packing.sum_of_terms" (fP 26 7))
  (M4:dR K "_law_shape" (top 42))
  (M5:dR K "_law_triple_is" (top 46))
  (M6:dR K "check_ring" (top 14))
  (M7:dR K "check_prime" (top 15))
  (M8:dR K "packing_for" (top 27))
  (M9:dR K "sums_of_quotients" (top 31))
  (M_:dR K "quotients_of_difference" (top 38))
  (M!:dR K "inverse" (top 18))
  (M?:pj K "Monic" "__init__" "Monic.__init__" (fP 29 0))
  (M':dR K "differences" (top 37))
  (Na:dR K "_law_told" (top 44))
  (Nb:dR K "_law_refused" (top 45))
  (Nc:PySem.W.nsIn K mainGlobals "law" = some (some (.ref MM))) (Nd:K.lookup MM = some ⟨MR,MP,.func (PySem.W.fnOf "law" "law" (df (top 47)) (b! (top 47)) (aE (top 47)) .none JI JJ JK JH GV JL),MQ⟩) (Nf:PySem.W.codeIn K GV "law" = true) (Ng:PySem.W.keepIn K (.ref MM) = true)
  (zb:tq K ["ValueError","abs","all","bool","dict","int","isinstance","len","list","max","min","range","sorted","str","sum","tuple","zip"])
  (zc:tu K ["AlgebraError","NoRing","NoPrime","NoInverse","NoOrder","ByNought"])
  (gG:PySem.W.nsIn K mainGlobals "MOST_RING" = some (some (.int 997 pR)))
  (eg:PySem.W.nsIn K mainGlobals "FIRST_PRIMES" = some (some (.ref gO))) (eh:K.lookup gO = some ⟨.type "tuple",kH,.seq #[.int 2 jY,.int 3 jZ,.int 5 j0,.int 7 j1,.int 11 j2,.int 13 j3,.int 17 j4,.int 19 j5,.int 23 j6,.int 29 j7,.int 31 jA] kI,kJ⟩)
  (j8:PySem.W.nsIn K mainGlobals "ORDERS" = some (some (.ref oG))) (j9:K.lookup oG = some ⟨.type "tuple",xh,.seq #[.str "lex" t?,.str "deg" uc] xi,xj⟩)
  (fR:PySem.W.nsIn K mainGlobals "SPARE_BITS" = some (some (.int 40 nH)))
  (zz:tF K [("Packing",["by_degree","many","width","guards"]),("Monic",["top","back","tail"])])
  (zp:fD K Jt) (zv:l6 K ["NoInverse","ByNought","NoOrder","NoRing","NoPrime"]) (zw:PySem.W.nsIn K mainGlobals "ValueError" = some none) (zq:tw K kn) :
  ∃ fd:FuncData,(∀ (s:Shared) (v:Value),BindsTo s fd ⟨[v],[]⟩ [("_law_script",v)]) ∧ ∀ base:Heap,K.In base → base.Ns mainGlobals mg → d8 l.prog w K mg base (gT l.prog w) 10 fa fd ["_law_script"] (uI K):=by
 have e:=PY.symm.trans (PySem.W.mg_of X G Nc)
 cases e
 refine ⟨PySem.W.fnOf "law" "law" (df (top 47)) (b! (top 47)) (aE (top 47)) .none JI JJ JK JH GV JL,fun s v => .of_eq rfl,fun base _ _ => ?_⟩
 have T:Txt l.prog w K mg base:=⟨fun _ _ h => PySem.W.mg_of X G h,zb.get X G,zc.get X G,Glob.int (PySem.W.mg_of X G gG),Glob.ints (ns:=[2,3,5,7,11,13,17,19,23,29,31]) (PySem.W.mg_of X G eg) eh rfl rfl (by simp [sizeLine_eq]) (.cons ⟨_,rfl⟩ (.cons ⟨_,rfl⟩ (.cons ⟨_,rfl⟩ (.cons ⟨_,rfl⟩ (.cons ⟨_,rfl⟩ (.cons ⟨_,rfl⟩ (.cons ⟨_,rfl⟩ (.cons ⟨_,rfl⟩ (.cons ⟨_,rfl⟩ (.cons ⟨_,rfl⟩ (.cons ⟨_,rfl⟩ (.nil)))))))))))),Glob.strs (ns:=["lex","deg"]) (PySem.W.mg_of X G j8) j9 rfl rfl (by simp [sizeLine_eq]) (.cons ⟨_,rfl⟩ (.cons ⟨_,rfl⟩ (.nil))),Glob.int (PySem.W.mg_of X G fR),zz.get X G,zp.get X G (zv.get X G zw),zq.get X G⟩
 have ud:=rF T  h0
 have jB:=iX T  h1
 have nI:=mG T  h2
 have kK:=jV T  h3
 have ue:=rG T  h4
 have i7:=iq T  m5
 have gb:=jx T  m6
 have dM:=f? T  m7
 have iz:=g_ T  h8
 have iA:=g! T  h9
 have rN:=pL T  MS
 have mO:=kE T  J_
 have hJ:=kF T  MU
 have pS:=nB T  MV
 have rO:=pN T  MW
 have oH:=t_ T ud jB MX
 have Am:=xf T nI MY
 have nJ:=mI T ue MZ
 have i8:=iw T gb dM M0
 have i9:=ix T gb M1
 have gH:=f' T dM M3
 have pT:=nD T hJ M4
 have j_:=jy T pS M5
 have pU:=nE T oH M6
 have nK:=mJ T oH M7
 have nL:=mK T i7 M8
 have iB:=hG T iA gH M9
 have fm:=fg T rN mO i8 M_
 have xk:=t! T kK Am pU M!
 have j!:=jz T xk M?
 have iG:=mL T iz nJ i9 nK nL iB fm j! M'
 have rP:=pQ T iG Na
 have mP:=kG T rP Nb
 exact (GU T hJ rO pT j_ iG mP (sC (st:=top 47) Nd Nf Ng)).imp fun _ _ _ _ h => FU Aj h
end qW
namespace PySem.W.Fast
def tw2464138038499386769:=()
def tw37985360258068209:=()
def tw12656348709078164669:=()
def tw3516952840842272524:=()
def tw15861904235875037237:=()
def tw13652430180642602060:=()
def tw12501442997194968147:=()
def tw399907639581804689:=()
def tw4589804118834883101:=()
def tw13641691845753609748:=()
def tw2135853133139327008:=()
def tw15615912460426025197:=()
def tw10048371218455904769:=()
def tw5535524788509556240:=()
def tw2220897117896087024:=()
def tw15634207413959506008:=()
def tw12376644531061951906:=()
def tw16466569149884658948:=()
def tw11959673952850682166:=()
def tw2974276494081439669:=()
def tw7565946390449361963:=()
def tw5928723682487375284:=()
def tw3820894997700749675:=()
def tw17094050709771928163:=()
def tw17379363490387300762:=()
def tw11696010002242639748:=()
def tw2401682892473463617:=()
def tw9337300266703414509:=()
def tw10304827030904899155:=()
def tw17109162407716398280:=()
def tw12463614742898576254:=()
def tw15575032782988274430:=()
def tw18132263173691289543:=()
end PySem.W.Fast
open PySem PySem.W PyProof.Rows
set_option maxRecDepth 100000 in
set_option maxHeartbeats 0 in
theorem PySem.Challenge.cw_polyring_k35_differences_of_terms_holds : PySem.Challenge.rw_polyring_k35_differences_of_terms.Holds := by
 w_on; o_law; k_head; (case hw => w_witness2)
 k_fill
 refine MN.yW (l:=PySem.Challenge.rw_polyring_k35_differences_of_terms) (k:=10) (x:="_law_script") rfl rfl ⟨rfl,by decide,by decide⟩ (fun w h Y => PySem.W.kIn_of Y) ?F
 case F =>
  intro w mg fa h KX G HY
  refine' qW.all_mk KX G HY ?h0 ?h1 ?h2 ?h3 ?h4 ?m5 ?m6 ?m7 ?h8 ?h9 ?MS ?J_ ?MU ?MV ?MW ?MX ?MY ?MZ ?M0 ?M1 ?M3 ?M4 ?M5 ?M6 ?M7 ?M8 ?M9 ?M_ ?M! ?M? ?M' ?Na ?Nb ?Nc ?Nd ?Nf ?Ng ?zb ?zc ?gG ?eg ?eh ?j8 ?j9 ?fR ?zz ?zp ?zv ?zw ?zq
  (case h0 | h1 | h2 | h3 | h4 | h8 | h9 | MS | J_ | MU | MV | MW | MX | MY | MZ | M4 | M5 | M6 | M7 | M8 | M9 | M_ | M! | M' | Na | Nb => refine' MN.dR.mk ?a ?l ?c ?k; (case a => k_is); (case l => k_is); (case c => k_is); (case k => k_is); skip)
  (case m5 | m6 | m7 | M0 | M1 | M3 | M? => refine' MN.pj.mk ?n ?a ?i ?l ?d ?k; (case n => k_is); (case a => k_is); (case i => k_is); (case l => k_is); (case d => k_is); (case k => k_is); skip)
  (case Nc => k_is)
  (case Nd => k_is)
  (case Nf => k_is)
  (case Ng => k_is)
  case zb =>
   repeat (refine' MN.tq.cons ?a ?_; (case a => k_is); skip)
   exact .nil
  case zc =>
   repeat (refine' MN.tu.cons ?a ?e ?s ?_; (case a => k_is); (case e => k_exc); (case s => k_is); skip)
   exact .nil
  (case gG => k_is)
  (case eg => k_is)
  (case eh => k_is)
  (case j8 => k_is)
  (case j9 => k_is)
  (case fR => k_is)
  case zz =>
   repeat (refine' MN.tF.cons ?PZ ?P0 ?P_ ?P! ?P? ?P' ?Qa ?Qb ?_; (case PZ => k_is); (case P0 => k_is); (case P_ => k_is); (case P! => k_is); (case P? => k_is); (case P' => k_is); (case Qa => k_is); (case Qb => (repeat (refine' MN.tD.cons ?Qc ?_; (case Qc => k_is); skip)); exact .nil); skip)
   exact .nil
  case zp =>
   repeat (refine' MN.fD.cons ?a ?b ?c ?d ?e ?_; (case a => k_is); (case b => k_is); (case c => k_is); (case d => k_is); (case e => first | k_is | kit_is); skip)
   exact .nil
  case zv =>
   repeat (refine' MN.l6.cons ?a ?e ?_; (case a => k_is); (case e => first | k_is | kit_is); skip)
   exact .nil
  (case zw => k_is)
  case zq =>
   repeat (refine' MN.tw.cons ?a ?e ?_; (case a => k_is); (case e => first | k_is | kit_is | rfl | decide +kernel); skip)
   exact .nil
