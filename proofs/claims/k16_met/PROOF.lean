import PyProof.Rows.All
import Wide.All
import OpenK.AllK
import Wide.FinOn
import Lean
import PyProof.EqAt
import PyProof.EqKinds
import PyProof.TupleCall
import PyProof.NeKinds
import PyProof.ZipIter
import PyProof.FitsBits
import KE.KRevIter
import KE.KStateDown
import PyProof.Rows.Range3
import PyProof.EnumFor
import PyProof.EnumMake
import PyProof.EnumStmt
import PyProof.Rows.SumAny
import PyProof.ListIndex
import PyProof.ListIndexNeg
import PyProof.WalkInts
import PyProof.Conv_int_bool
import PyProof.SumAny
import PyProof.Rows.FactsN_abs
import PyProof.ExcBaseAll.ValueError
import KE.KIsAll
import PyProof.ExcAttrAll.ValueError
import PySem.Challenge.RW_polyring_k16_met
set_option Elab.async false
set_option linter.all false
set_option maxRecDepth 100000
set_option maxHeartbeats 4000000
set_option compiler.extract_closed false
set_option genSizeOf false
theorem PySem.W.Fast.te9314126065169021873:True:=trivial
theorem bcn {p:Prop} (h:¬p → False):p:=Classical.byContradiction h
-- CHANGE: your row's module here,as the last of these rows
namespace L2
open PySem PySem.Spec PyProof.Rows
noncomputable abbrev Key:=Sum Int Str
noncomputable def keyIs:Key → Value → Bool
 | .inl k,v => Value.isInt k v
 | .inr x,v => Value.isStrOf x v
noncomputable def keyH (w:World):Key → Int
 | .inl k => hashInt k
 | .inr x => hashStr w x
theorem keyIs_shape:∀ {k:Key} {v:Value},keyIs k v = true → (∃ i t,k = Sum.inl i ∧ v = Value.int i t) ∨ (∃ x t,k = Sum.inr x ∧ v = Value.str x t)
 | .inl i,v,h => by
  obtain ⟨t,e⟩:=Value.isInt_shape (k:=i) (v:=v) h
  exact .inl ⟨i,t,rfl,e⟩
 | .inr x,v,h => by
  obtain ⟨t,e⟩:=Value.isStrOf_shape (x:=x) (v:=v) h
  exact .inr ⟨x,t,rfl,e⟩
theorem key_ll (a b:Int):decide ((Sum.inl a:Key) = Sum.inl b) = (a == b):=by
 by_cases e:a = b
 ·subst e; simp
 ·have h:¬ (Sum.inl a:Key) = Sum.inl b:=fun q => e (Sum.inl.inj q)
  rw [decide_eq_false h]
  exact (beq_eq_false_iff_ne.mpr e).symm
theorem key_rr (a b:Str):decide ((Sum.inr a:Key) = Sum.inr b) = decide (a = b):=by
 by_cases e:a = b
 ·subst e; simp
 ·have h:¬ (Sum.inr a:Key) = Sum.inr b:=fun q => e (Sum.inr.inj q)
  rw [decide_eq_false h,decide_eq_false e]
theorem key_lr (a:Int) (b:Str):decide ((Sum.inl a:Key) = Sum.inr b) = false:=decide_eq_false (fun q => nomatch q)
theorem key_rl (a:Str) (b:Int):decide ((Sum.inr a:Key) = Sum.inl b) = false:=decide_eq_false (fun q => nomatch q)
noncomputable def mixKind (prog:Program) (w:World):PySem.KeyKind prog w Key where
 is:=keyIs
 hash:=keyH w
 inj:=fun v a b ha hb => by
  rcases keyIs_shape ha with ⟨i,t,rfl,rfl⟩ | ⟨x,t,rfl,rfl⟩
  ·rcases keyIs_shape hb with ⟨j,u,rfl,e⟩ | ⟨y,u,rfl,e⟩
   ·injection e with e1 _; rw [e1]
   ·exact nomatch e
  ·rcases keyIs_shape hb with ⟨j,u,rfl,e⟩ | ⟨y,u,rfl,e⟩
   ·exact nomatch e
   ·injection e with e1 _; rw [e1]
 byValue:=fun k v h => by
  rcases keyIs_shape h with ⟨i,t,rfl,rfl⟩ | ⟨x,t,rfl,rfl⟩ <;> rfl
 pyHash:=fun hv h => by
  rcases keyIs_shape hv with ⟨i,t,rfl,rfl⟩ | ⟨x,t,rfl,rfl⟩
  ·exact wpAny_pyHash_int h
  ·exact wpAny_pyHash_str h
 eqBool:=fun hu hv h => by
  rcases keyIs_shape hu with ⟨i,t,rfl,rfl⟩ | ⟨x,t,rfl,rfl⟩
  ·rcases keyIs_shape hv with ⟨j,u,rfl,rfl⟩ | ⟨y,u,rfl,rfl⟩
   ·rw [key_ll] at h; exact wpAny_eqBool_int h
   ·rw [key_lr] at h; exact SeqAt.EqAt.int_str i t y u _ _ _ _ h
  ·rcases keyIs_shape hv with ⟨j,u,rfl,rfl⟩ | ⟨y,u,rfl,rfl⟩
   ·rw [key_rl] at h; exact SeqAt.EqAt.str_int x t j u _ _ _ _ h
   ·rw [key_rr] at h; exact wpAny_eqBool_str h
 «strs»:=fun k x t v h => by
  rcases keyIs_shape h with ⟨i,u,rfl,e⟩ | ⟨y,u,rfl,e⟩
  ·exact nomatch e
  ·injection e with e1 _
   subst e1
   cases v <;> rfl
end L2
namespace L2
open PySem PySem.Spec PyProof.Rows
inductive V where
 | non | bl (b:Bool) | int (i:Int) | str (x:Str) | byt (b:Array UInt8) | flt (b:UInt64) | ref (a:Addr) | ty (n:String)
noncomputable def RelV:V → Value → Prop
 | .non,u => u = Value.none
 | .bl b,u => u = Value.bool b
 | .int i,u => ∃ t,u = Value.int i t
 | .str x,u => ∃ t,u = Value.str x t
 | .byt b,u => ∃ t,u = Value.bytes b t
 | .flt b,u => ∃ t,u = Value.float b t
 | .ref a,u => u = Value.ref a
 | .ty n,u => u = Value.type n
noncomputable abbrev Vals:List V → List Value → Prop:=Paired RelV
theorem Vals.length {xs:List V} {us:List Value} (r:Vals xs us):xs.length = us.length:=Paired.length r
theorem Vals.get:∀ {xs:List V} {us:List Value} {i:Nat} {x:V},Vals xs us → xs[i]? = some x → ∃ u,us[i]? = some u ∧ RelV x u
 | _,_,_,_,.nil,e => by simp at e
 | _,_,0,_,.cons r _,e => by simp at e; subst e; exact ⟨_,rfl,r⟩
 | _,_,i + 1,x,.cons _ t,e => by
  obtain ⟨u,h1,h2⟩:=Vals.get (i:=i) (x:=x) t (by simpa using e)
  exact ⟨u,by simpa using h1,h2⟩
theorem Vals.set {x:V} {u:Value} (r:RelV x u):∀ {xs:List V} {us:List Value} (i:Nat),Vals xs us → Vals (xs.set i x) (us.set i u)
 | _,_,_,.nil => .nil
 | _,_,0,.cons _ t => .cons r t
 | _,_,i + 1,.cons q t => .cons q (Vals.set r i t)
theorem Vals.append:∀ {xs ys:List V} {us ws:List Value},Vals xs us → Vals ys ws → Vals (xs ++ ys) (us ++ ws)
 | _,_,_,_,.nil,s => s
 | _,_,_,_,.cons r t,s => .cons r (Vals.append t s)
theorem Vals.take:∀ {xs:List V} {us:List Value} (n:Nat),Vals xs us → Vals (xs.take n) (us.take n)
 | _,_,0,_ => .nil
 | _,_,_ + 1,.nil => .nil
 | _,_,n + 1,.cons r t => .cons r (Vals.take n t)
theorem Vals.drop:∀ {xs:List V} {us:List Value} (n:Nat),Vals xs us → Vals (xs.drop n) (us.drop n)
 | _,_,0,r => r
 | _,_,_ + 1,.nil => .nil
 | _,_,n + 1,.cons _ t => Vals.drop n t
noncomputable def RelO:Option V → Option Value → Prop
 | some v,some u => RelV v u
 | none,none => True
 | _,_ => False
noncomputable def KV {κ:Type}:List (κ × V) → List (κ × Value) → Prop:=Paired fun (p:κ × V) (q:κ × Value) => p.1 = q.1 ∧ RelV p.2 q.2
noncomputable def kV:Key → V
 | .inl i => .int i
 | .inr x => .str x
inductive HO where
  | lst (xs:List V)
  | tup (xs:List V)
  | dK (kvs:List (Key × V)) | dT (kvs:List (List Key × V))
  | set (S:Int → Bool) (n:Nat)
  | ins (C dx:Addr) (fs:List (Str × V))
  | own (x:Addr)
  | xd (fs:List (Str × V))
  | met (f x:Addr)
  | rng (lo hi:Int)
  | frz (o:Obj) (u:HO)
  | tbl (ps:Array Value)
  | ext (φ:Heap → Prop)
noncomputable abbrev Hp:=Addr → Option HO
noncomputable def upd (H:Hp) (a:Addr) (o:HO):Hp:=fun b => if b = a then some o else H b
theorem upd_same {H:Hp} {a:Addr} {o:HO}:upd H a o a = some o:=by unfold upd; rw [if_pos rfl]
theorem upd_ne {H:Hp} {a b:Addr} {o:HO} (h:b ≠ a):upd H a o b = H b:=by unfold upd; rw [if_neg h]
theorem ne_of_none {H:Hp} {a b:Addr} {o:HO} (h:H a = some o) (h':H b = none):a ≠ b:=by
 intro e; subst e; rw [h] at h'; cases h'
section
variable (P:Program) (w:World)
noncomputable def ObjOk (H:Hp) (h:Heap) (a:Addr):HO → Prop
 | .lst xs => xs.length ≤ sizeLine ∧ ∃ (its:List Value) (n:Nat),Vals xs its ∧ h.get? a = some { cls:=.type "list",data:=.seq its.toArray n }
 | .tup xs => xs.length ≤ sizeLine ∧ ∃ its:List Value,Vals xs its ∧ IsTup h a its.toArray
 | .dK kvs => kvs.length ≤ sizeLine ∧ (a == sysModules) = false ∧ ∃ vs,KV kvs vs ∧ h.DictOf (mixKind P w) a vs
 | .dT kvs => kvs.length ≤ sizeLine ∧ (a == sysModules) = false ∧ ∃ xs:List (List Key × Addr × Value),
   Paired (fun (p:List Key × V) (q:List Key × Addr × Value) => p.1 = q.1 ∧ H q.2.1 = some (.tup (p.1.map kV)) ∧ RelV p.2 q.2.2) kvs xs ∧
   ∃ o es ep,h.get? a = some o ∧ o.ExactDict ∧ o.data = .dict es ep ∧ es.toList = xs.map (entryOfKey (tupleKind (mixKind P w))) ∧ (xs.map (·.1)).Nodup
 | .set S n => h.SetOf (intKind P w) a S n
 | .ins C dx fs => H dx = some (.own a) ∧ fs.length ≤ 1000 ∧ dx ≠ a ∧ h.get? a = some (PySem.W.instObj C dx) ∧
   ∃ mA,h.Ns1 dx mA ∧ (∀ f,RelO (fs.lookup f) (mA f)) ∧ PySem.Within mA (fs.map (·.1))
 | .own _ => ∃ o,h.get? a = some o
 | .xd fs => ∃ mA,h.Ns1 a mA ∧ ∀ f,RelO (fs.lookup f) (mA f)
 | .rng lo hi => ∃ t u v,h.get? a = some { cls:=.type "range",data:=.fields #[.int lo t,.int hi u,.int 1 v] }
 | .frz o u => h.get? a = some o ∧ ObjOk H h a u
 | .tbl ps => h.get? a = some { cls:=.none,data:=.fields ps }
 | .met f x => h.get? a = some (PySem.W.methodObj (.ref f) (.ref x))
 | .ext φ => φ h ∧ (∃ o,h.get? a = some o) ∧ ∀ h1 h2:Heap,φ h1 → (∀ o,h1.get? a = some o → h2.get? a = some o) → φ h2
noncomputable def HOk (H:Hp) (h:Heap):Prop:=∀ a o,H a = some o → ObjOk P w H h a o
end
section
variable {P:Program} {w:World} {H H':Hp} {h h':Heap} {a:Addr} {o:HO}
theorem ObjOk.lt (x:ObjOk P w H h a o):a < h.objs.size:=by
 cases o with
 | lst xs => obtain ⟨_,_,_,_,e⟩:=x; exact Heap.lt_size e
 | tup xs => obtain ⟨_,_,_,p⟩:=x; exact p.lt
 | dK kvs => obtain ⟨_,_,_,_,o,_,_,e,_⟩:=x; exact Heap.lt_size e
 | dT kvs => obtain ⟨_,_,_,_,o,_,_,e,_⟩:=x; exact Heap.lt_size e
 | set S n => obtain ⟨o,_,_,_,e,_⟩:=x; exact Heap.lt_size e
 | ins C dx fs => obtain ⟨_,_,_,e,_⟩:=x; exact Heap.lt_size e
 | own y => obtain ⟨_,e⟩:=x; exact Heap.lt_size e
 | xd fs => obtain ⟨_,⟨_,_,_,e,_⟩,_⟩:=x; exact Heap.lt_size e
 | rng lo hi => obtain ⟨_,_,_,e⟩:=x; exact Heap.lt_size e
 | frz ob u => obtain ⟨e,_⟩:=x; exact Heap.lt_size e
 | tbl ps => exact Heap.lt_size (show h.get? a = some _ from x)
 | met f y => exact Heap.lt_size (show h.get? a = some _ from x)
 | ext φ => obtain ⟨_,⟨_,e⟩,_⟩:=x; exact Heap.lt_size e
theorem Paired.mapP {α β:Type} {F G:α → β → Prop}:∀ {l₁:List α} {l₂:List β},Paired F l₁ l₂ → (∀ a b,F a b → G a b) → Paired G l₁ l₂
 | _,_,.nil,_ => .nil
 | _,_,.cons r t,f => .cons (f _ _ r) (Paired.mapP t f)
theorem ObjOk.stay (x:ObjOk P w H h a o) (k:∀ b u,(b = a ∨ H b = some (.own a)) → h.get? b = some u → h'.get? b = some u)
  (ho:∀ b,H b = some (.own a) → H' b = some (.own a)) (ht:∀ b xs,H b = some (.tup xs) → H' b = some (.tup xs)):ObjOk P w H' h' a o:=by
 induction o with
 | lst xs => obtain ⟨z,its,n,r,e⟩:=x; exact ⟨z,its,n,r,k _ _ (.inl rfl) e⟩
 | tup xs => obtain ⟨z,its,r,ob,e,c⟩:=x; exact ⟨z,its,r,ob,k _ _ (.inl rfl) e,c⟩
 | dK kvs => obtain ⟨z,y,vs,r,ob,es,ep,e,c⟩:=x; exact ⟨z,y,vs,r,ob,es,ep,k _ _ (.inl rfl) e,c⟩
 | dT kvs =>
  obtain ⟨z,y,xs,r,ob,es,ep,e,c⟩:=x
  exact ⟨z,y,xs,Paired.mapP r fun p q z => ⟨z.1,ht _ _ z.2.1,z.2.2⟩,ob,es,ep,k _ _ (.inl rfl) e,c⟩
 | set S n => obtain ⟨ob,es,ep,t,e,c⟩:=x; exact ⟨ob,es,ep,t,k _ _ (.inl rfl) e,c⟩
 | ins C dx fs =>
  obtain ⟨d,z,ne,e,mA,⟨od,es,ep,e2,c⟩,r⟩:=x
  exact ⟨ho _ d,z,ne,k _ _ (.inl rfl) e,mA,⟨od,es,ep,k _ _ (.inr d) e2,c⟩,r⟩
 | own y => obtain ⟨ob,e⟩:=x; exact ⟨ob,k _ _ (.inl rfl) e⟩
 | xd fs => obtain ⟨mA,⟨od,es,ep,e,c⟩,r⟩:=x; exact ⟨mA,⟨od,es,ep,k _ _ (.inl rfl) e,c⟩,r⟩
 | rng lo hi => obtain ⟨t,u,v,e⟩:=x; exact ⟨t,u,v,k _ _ (.inl rfl) e⟩
 | frz ob u ih => obtain ⟨e,q⟩:=x; exact ⟨k _ _ (.inl rfl) e,ih q⟩
 | tbl ps =>
  have e:h.get? a = some { cls:=.none,data:=.fields ps }:=x
  show h'.get? a = some { cls:=.none,data:=.fields ps }
  exact k a _ (.inl rfl) e
 | met f y =>
  have e:h.get? a = some (PySem.W.methodObj (.ref f) (.ref y)):=x
  show h'.get? a = some (PySem.W.methodObj (.ref f) (.ref y))
  exact k a _ (.inl rfl) e
 | ext φ => obtain ⟨p,⟨o,e⟩,st⟩:=x; exact ⟨st _ _ p fun o q => k _ _ (.inl rfl) q,⟨o,k _ _ (.inl rfl) e⟩,st⟩
theorem HOk.lt (x:HOk P w H h) (e:H a = some o):a < h.objs.size:=(x a o e).lt
theorem HOk.fresh (x:HOk P w H h) (e:h.objs.size ≤ a):H a = none:=by
 cases q:H a with
 | none => rfl
 | some u => exact absurd (Nat.lt_of_lt_of_le (x.lt q) e) (Nat.lt_irrefl _)
theorem HOk.kept (x:HOk P w H h) (k:∀ b u,h.get? b = some u → h'.get? b = some u):HOk P w H h':=fun a o e =>
 (x a o e).stay (fun b u _ q => k b u q) (fun _ q => q) fun _ _ q => q
theorem HOk.laid (x:HOk P w H h) (k:∀ b u,h.get? b = some u → h'.get? b = some u) (hp:h.objs.size ≤ a) (new:ObjOk P w (upd H a o) h' a o):HOk P w (upd H a o) h':=fun b u e => by
 have hn:=x.fresh hp
 by_cases hb:b = a
 ·subst hb; rw [upd_same] at e; cases e; exact new
 ·rw [upd_ne hb] at e
  exact (x b u e).stay (fun c v _ q => k c v q) (fun c q => by rw [upd_ne (ne_of_none q hn)]; exact q) fun c xs q => by rw [upd_ne (ne_of_none q hn)]; exact q
end
noncomputable def Rd (H:Hp) (a:Addr) (u:HO):Prop:=H a = some u ∨ ∃ o,H a = some (.frz o u)
theorem Rd.ok {P:Program} {w:World} {H:Hp} {h:Heap} {a:Addr} {u:HO} (r:Rd H a u) (x:HOk P w H h):ObjOk P w H h a u:=by
 rcases r with r | ⟨o,r⟩
 ·exact x a u r
 ·obtain ⟨_,q⟩:=x a _ r
  exact q
noncomputable def Mut:Option HO → Prop
 | some (.lst _) => True
 | some (.dK _) => True
 | some (.dT _) => True
 | some (.set _ _) => True
 | some (.ins _ _ _) => True
 | some (.ext _) => True
 | _ => False
section
variable {P:Program} {w:World} {H:Hp} {h h':Heap} {x e:Addr} {o':HO}
theorem HOk.write (ok:HOk P w H h) (mu:Mut (H x)) (he:e = x ∨ H e = some (.own x)) (k:∀ b u,b ≠ e → h.get? b = some u → h'.get? b = some u) (heo:∃ u,h'.get? e = some u)
  (new:ObjOk P w (upd H x o') h' x o'):HOk P w (upd H x o') h':=fun b u q => by
 have nown:∀ c y,H c = some (.own y) → c ≠ x:=fun c y r z => by subst z; rw [r] at mu; exact mu
 have ntup:∀ c xs,H c = some (.tup xs) → c ≠ x:=fun c xs r z => by subst z; rw [r] at mu; exact mu
 by_cases hb:b = x
 ·subst hb; rw [upd_same] at q; cases q; exact new
 ·rw [upd_ne hb] at q
  by_cases hbe:b = e
  ·have q':H b = some (.own x):=by
    rcases he with z | z
    ·exact absurd (hbe.trans z) hb
    ·rw [hbe]; exact z
   rw [q] at q'; cases q'
   obtain ⟨v,hv⟩:=heo
   exact ⟨v,by rw [hbe]; exact hv⟩
  ·refine (ok b u q).stay (fun c v hc r => k c v ?_ r) (fun c r => by rw [upd_ne (nown c b r)]; exact r) fun c xs r => by rw [upd_ne (ntup c xs r)]; exact r
   rcases hc with rfl | hc
   ·exact hbe
   ·rintro rfl
    rcases he with z | z
    ·exact nown c b hc z
    ·rw [hc] at z; cases z; exact hb rfl
end
structure Un (fs ex:List Addr) (H H':Hp) (h h':Heap):Prop where
 keep:∀ b o,h.get? b = some o → H b = none → b ∉ fs → b ∉ ex → h'.get? b = some o
 slot:∀ b o,h.get? b = some o → H b = none → b ∈ fs → b ∉ ex → ∃ sl,h'.get? b = some { o with slots:=sl }
 free:∀ b o,h.get? b = some o → H b = none → b ∉ ex → H' b = none
 there:∀ b o,h.get? b = some o → b ∉ ex → ∃ o',h'.get? b = some o'
 tups:∀ b xs,H b = some (.tup xs) → H' b = some (.tup xs)
 frzs:∀ b o u,H b = some (.frz o u) → H' b = some (.frz o u)
 tbls:∀ b ps,H b = some (.tbl ps) → ∃ more,H' b = some (.tbl (ps ++ more))
section
variable {fs fs' ex ex':List Addr} {H H1 H2:Hp} {h h1 h2 h':Heap} {a x e:Addr} {o:HO}
theorem Un.any (u:Un fs ex H H1 h h1) {b:Addr} {ob:Obj} (q:h.get? b = some ob) (n:H b = none) (hx:b ∉ ex):∃ sl,h1.get? b = some { ob with slots:=sl }:=by
 by_cases hb:b ∈ fs
 ·exact u.slot b ob q n hb hx
 ·exact ⟨ob.slots,u.keep b ob q n hb hx⟩
theorem Un.kept (k:∀ b u,h.get? b = some u → h'.get? b = some u):Un fs ex H H h h' :=
 ⟨fun b ob q _ _ _ => k b ob q,fun b ob q _ _ _ => ⟨ob.slots,k b ob q⟩,fun _ _ _ n _ => n,fun b ob q _ => ⟨ob,k b ob q⟩,fun _ _ q => q,fun _ _ _ q => q,fun _ ps q => ⟨#[],by rw [q]; simp⟩⟩
theorem Un.refl:Un fs ex H H h h:=Un.kept fun _ _ q => q
theorem Un.laid (k:∀ b u,h.get? b = some u → h'.get? b = some u) (hp:h.objs.size ≤ a) (hn:H a = none):Un fs ex H (upd H a o) h h' where
 keep:=fun b u q _ _ _ => k b u q
 slot:=fun b u q _ _ _ => ⟨u.slots,k b u q⟩
 free:=fun b u q n _ => by rw [upd_ne (Nat.ne_of_lt (Nat.lt_of_lt_of_le (Heap.lt_size q) hp))]; exact n
 there:=fun b u q _ => ⟨u,k b u q⟩
 tups:=fun b xs q => by rw [upd_ne (ne_of_none q hn)]; exact q
 frzs:=fun b u xs q => by rw [upd_ne (ne_of_none q hn)]; exact q
 tbls:=fun b ps q => ⟨#[],by rw [upd_ne (ne_of_none q hn),q]; simp⟩
theorem Un.write (mu:Mut (H x)) (he:e = x ∨ H e = some (.own x)) (k:∀ b u,b ≠ e → h.get? b = some u → h'.get? b = some u) (heo:∃ u,h'.get? e = some u):Un fs ex H (upd H x o) h h':=by
 have hx:∀ b,H b = none → b ≠ x:=fun b n z => by subst z; rw [n] at mu; exact mu
 have hb:∀ b,H b = none → b ≠ e:=fun b n z => by
  subst z
  rcases he with r | r
  ·exact hx b n r
  ·rw [n] at r; cases r
 have hm:∀ b u,H b = some u → ¬ Mut (some u) → b ≠ x:=fun b u q nm z => by subst z; rw [q] at mu; exact nm mu
 refine ⟨fun b u q n _ _ => k b u (hb b n) q,fun b u q n _ _ => ⟨u.slots,k b u (hb b n) q⟩,fun b u q n _ => by rw [upd_ne (hx b n)]; exact n,fun b u q _ => ?_,
  fun b xs q => by rw [upd_ne (hm b _ q fun z => z)]; exact q,fun b u xs q => by rw [upd_ne (hm b _ q fun z => z)]; exact q,fun b ps q => ⟨#[],by rw [upd_ne (hm b _ q fun z => z),q]; simp⟩⟩
 by_cases hbe:b = e
 ·subst hbe; exact heo
 ·exact ⟨u,k b u hbe q⟩
end
noncomputable def trk (h:Heap) (H:Hp):List Addr:=(List.range h.objs.size).filter fun a => (H a).isSome
noncomputable def hidT (h:Heap) (H:Hp):Heap:=PySem.W.hideAll h (trk h H)
theorem hidT_size (h:Heap) (H:Hp):(hidT h H).objs.size = h.objs.size:=PySem.W.hideAll_size _ _
theorem hidT_get {h:Heap} {H:Hp} {b:Addr} {o:Obj} (e:h.get? b = some o) (n:H b = none):(hidT h H).get? b = some o :=
 PySem.W.hideAll_get _ e fun hm => by
  have q:(H b).isSome = true:=(List.mem_filter.mp hm).2
  rw [n] at q; simp at q
theorem of_hidT {h:Heap} {H:Hp} {b:Addr} {o:Obj} (e:(hidT h H).get? b = some o):h.get? b = some o ∧ H b = none:=by
 have e':h.get? b = some o:=PySem.W.of_hideAll (trk h H) e
 refine ⟨e',?_⟩
 cases q:H b with
 | none => rfl
 | some x =>
  have hm:b ∈ trk h H:=List.mem_filter.mpr ⟨List.mem_range.mpr (Heap.lt_size e'),by simp [q]⟩
  have z:(hidT h H).get? b = none:=PySem.W.hideAll_none (trk h H) hm
  rw [z] at e; cases e
noncomputable def allNews (g h:Heap) (L:Addr):List (Addr × Obj):=(List.range h.objs.size).filterMap fun a => if a = L ∨ (g.get? a).isSome = true then none else (h.get? a).map fun o => (a,o)
noncomputable def rest (g h:Heap) (L d:Addr):List (Addr × Obj):=(allNews g h L).filter fun p => decide (p.1 ≠ d)
end L2
namespace L2
open PySem PySem.Spec PyProof.Rows
structure Mod (K:PySem.W.Frag) (mg:Str → Option Value) (base:Heap):Prop where
 kin:K.In base
 glob:base.Ns mainGlobals mg
 blt:∃ mb,base.Ns builtinsNs mb ∧ ∀ x:Str,x ≠ "__name__" → mb x = bootBuiltins x
 nolimit:base.NoLimit
set_option genInjectivity false in
structure Cx where
 prog:Program
 w:World
 K:PySem.W.Frag
 mg:Str → Option Value
 base:Heap
 A:Around
 N:List Str
 s₀:Shared
 H₀:Hp
 env:Env
 outer:List Env
 stack:List Env
 ex:List Addr
 fn:Str → Bool
 calm:Bool
 pn:List (Addr × Obj)
 xe:Value → Shared → Prop
noncomputable def frs (l:List Env):List Addr:=l.filterMap (·.frame)
noncomputable abbrev Cx.fs (X:Cx):List Addr:=frs X.outer
noncomputable def Vis (sc:Scope) (x:Str):Prop:=sc.names.lookup x = some .local ∨ sc.names.lookup x = some .cell ∨ sc.names.lookup x = some .free
noncomputable def Loc (sc:Scope) (x:Str):Prop:=sc.names.lookup x = some .local ∨ sc.names.lookup x = some .cell
noncomputable def Look (env:Env) (h:Heap) (m:Str → Option Value) (x:Str) (u:Value):Prop :=
 (env.kindOf x = some .local ∧ m x = some u) ∨ ((env.kindOf x = some .cell ∨ env.kindOf x = some .free) ∧ ∃ c,env.cells.lookup x = some c ∧ h.IsCell c (some u))
structure Cx.Ok (X:Cx):Prop where
 mod:Mod X.K X.mg X.base
 kind:X.env.scope.kind = .function
 glob:X.env.globals = mainGlobals
 blt:X.env.builtins = builtinsNs
 above:X.s₀.heap.objs.size ≤ X.env.locals
 inj:∀ x y c,X.env.cells.lookup x = some c → X.env.cells.lookup y = some c → x = y
 has:∀ x,(X.env.kindOf x = some .cell ∨ X.env.kindOf x = some .free) → ∃ c,X.env.cells.lookup x = some c
 cab:∀ x c,X.fn x = true → X.env.cells.lookup x = some c → X.s₀.heap.objs.size ≤ c
 hd:X.calm = true → X.A.handled = none
 frames:X.A.frames = some X.stack
 stk:X.stack = X.outer ∨ (X.stack = X.env :: X.outer ∧ X.env.frame = some X.env.locals)
 exf:∀ b ∈ X.ex,b ≠ X.env.locals ∧ ∀ x c,X.env.cells.lookup x = some c → c ≠ b
 bs:∀ b o,X.base.get? b = some o → X.s₀.heap.get? b = some o ∧ X.H₀ b = none
 bsz:X.base.objs.size ≤ X.s₀.heap.objs.size
 noex:∀ b o,X.base.get? b = some o → b ∉ X.ex
 exfs:∀ b ∈ X.ex,b ∉ X.fs
 funs:X.s₀.heap.FunFrames X.base X.outer
 frf:∀ b ∈ X.fs,X.H₀ b = none
structure Inv (X:Cx) (pins:List (Addr × Obj)) (σ:List (Option V)) (H:Hp) (s:Shared):Prop where
 ok:X.Ok
 os:s.os = X.s₀.os
 bare:AllBare s.gens
 base:Un X.fs X.ex X.H₀ H X.s₀.heap s.heap
 loc:∃ m,s.heap.Ns X.env.locals m ∧ ∀ (i:Nat) (x:Str) (v:V),X.N[i]? = some x → σ[i]? = some (some v) → Vis X.env.scope x → ∃ u,RelV v u ∧ Look X.env s.heap m x u
 cell:∀ x c,X.env.cells.lookup x = some c → ∃ v,s.heap.IsCell c v
 free:H X.env.locals = none
 freeC:∀ x c,X.env.cells.lookup x = some c → H c = none
 pin:∀ p ∈ X.pn ++ pins,s.heap.get? p.1 = some p.2 ∧ H p.1 = none ∧ p.1 ≠ X.env.locals ∧ p.1 ∉ X.fs ∧ ∀ v,p.2.data ≠ .cell v
 hok:HOk X.prog X.w H s.heap
 len:σ.length = X.N.length
section
variable {X:Cx} {pins:List (Addr × Obj)} {σ:List (Option V)} {H H':Hp} {s:Shared} {h':Heap}
theorem Cx.Ok.nofr (ok:X.Ok) {b:Addr} {o:Obj} (e:X.base.get? b = some o):b ∉ X.fs:=fun hb => by
 have:=(ok.funs.mem hb).1
 rw [e] at this; cases this
theorem Inv.bs (I:Inv X pins σ H s):∀ b o,X.base.get? b = some o → s.heap.get? b = some o ∧ H b = none:=fun b o e =>
 ⟨I.base.keep b o (I.ok.bs b o e).1 (I.ok.bs b o e).2 (I.ok.nofr e) (I.ok.noex b o e),I.base.free b o (I.ok.bs b o e).1 (I.ok.bs b o e).2 (I.ok.noex b o e)⟩
theorem Inv.bk (I:Inv X pins σ H s):∀ b o,X.base.get? b = some o → s.heap.get? b = some o:=fun b o e => (I.bs b o e).1
theorem Inv.mod (I:Inv X pins σ H s):Mod X.K X.mg X.base:=I.ok.mod
theorem Inv.kIn (I:Inv X pins σ H s):X.K.In s.heap:=I.ok.mod.kin.keeps I.bk
theorem Inv.lt (I:Inv X pins σ H s):X.env.locals < s.heap.objs.size:=let ⟨_,hn,_⟩:=I.loc; hn.lt
theorem Inv.sz (I:Inv X pins σ H s):X.s₀.heap.objs.size ≤ s.heap.objs.size:=Nat.le_trans I.ok.above (Nat.le_of_lt I.lt)
theorem Inv.nofs (I:Inv X pins σ H s) {a:Addr} (h:s.heap.objs.size ≤ a):a ∉ X.fs:=fun hb => by
 refine bcn fun hNO => ?_
 obtain ⟨_,o,ho,_⟩:=I.ok.funs.mem hb
 refine hNO ?_; clear hNO
 exact absurd (Nat.lt_of_lt_of_le (Heap.lt_size ho) (Nat.le_trans I.sz h)) (Nat.lt_irrefl _)
theorem Inv.cne (I:Inv X pins σ H s):∀ x c,X.env.cells.lookup x = some c → c ≠ X.env.locals:=fun x c e z => by
 obtain ⟨v,o,ho,hd⟩:=I.cell x c e
 obtain ⟨m,⟨o',es,ep,ho',hd',_⟩,_⟩:=I.loc
 rw [z,ho'] at ho; cases ho; rw [hd'] at hd; cases hd
theorem Inv.funs (I:Inv X pins σ H s):s.heap.FunFrames X.base X.outer:=by
 have all:∀ (l:List Env),(∀ b ∈ frs l,b ∈ X.fs) → X.s₀.heap.FunFrames X.base l → s.heap.FunFrames X.base l:=by
  intro l
  induction l with
  | nil => intro _ _; trivial
  | cons env r ih =>
   intro hs hl
   obtain ⟨hk,⟨L,o,hf,hn,ho,hd⟩,hr⟩:=hl
   have hL:L ∈ X.fs:=hs L (by unfold frs; rw [List.filterMap_cons,hf]; exact List.mem_cons_self)
   obtain ⟨sl,e⟩:=I.base.slot L o ho (I.ok.frf L hL) hL fun z => I.ok.exfs L z hL
   exact ⟨hk,⟨L,_,hf,hn,e,hd⟩,ih (fun b hb => hs b (by unfold frs; rw [List.filterMap_cons,hf]; exact List.mem_cons_of_mem _ hb)) hr⟩
 exact all X.outer (fun _ hb => hb) I.ok.funs
theorem Inv.stack (I:Inv X pins σ H s):s.heap.FunFrames X.base X.stack:=by
 rcases I.ok.stk with e | ⟨e,hf⟩
 ·rw [e]; exact I.funs
 ·rw [e]
  obtain ⟨m,hn,_⟩:=I.loc
  refine .cons (by rw [I.ok.kind]; decide) hf hn ?_ I.funs
  exact Heap.get?_none_of_le (Nat.le_trans I.ok.bsz I.ok.above)
theorem Inv.stkSub (I:Inv X pins σ H s):∀ b ∈ frs X.stack,b ∈ X.env.locals :: X.fs:=fun b hb => by
 rcases I.ok.stk with e | ⟨e,hf⟩
 ·rw [e] at hb; exact List.mem_cons_of_mem _ hb
 ·rw [e] at hb
  unfold frs at hb
  rw [List.filterMap_cons,hf] at hb
  exact hb
theorem Inv.stkFree (I:Inv X pins σ H s):∀ b ∈ frs X.stack,H b = none:=fun b hb => by
 rcases List.mem_cons.mp (I.stkSub b hb) with e | hb
 ·rw [e]; exact I.free
 ·refine bcn fun hNO => ?_
  obtain ⟨_,o,ho,_⟩:=I.ok.funs.mem hb
  refine hNO ?_; clear hNO
  exact I.base.free b o ho (I.ok.frf b hb) fun z => I.ok.exfs b z hb
theorem Inv.step {g':Array GenState} {t':Nat} {d':Drawn} {ch:List Addr} (I:Inv X pins σ H s)
  (hch:∀ b ∈ ch,(b ∈ X.ex ∨ X.s₀.heap.objs.size ≤ b) ∧ b ≠ X.env.locals ∧ (∀ x c,X.env.cells.lookup x = some c → c ≠ b) ∧ ∀ p ∈ X.pn ++ pins,p.1 ≠ b)
  (keep:∀ b o,b ≠ X.env.locals → b ∉ X.fs → b ∉ ch → s.heap.get? b = some o → H b = none → h'.get? b = some o)
  (slot:∀ b o,b ≠ X.env.locals → b ∈ X.fs → b ∉ ch → s.heap.get? b = some o → H b = none → ∃ sl,h'.get? b = some { o with slots:=sl }) (free:∀ b o,b ∉ ch → s.heap.get? b = some o → H b = none → H' b = none)
  (there:∀ b o,b ∉ ch → s.heap.get? b = some o → ∃ o',h'.get? b = some o')
  (tups:∀ b xs,H b = some (.tup xs) → H' b = some (.tup xs)) (frzs:∀ b o u,H b = some (.frz o u) → H' b = some (.frz o u)) (tbls:∀ b ps,H b = some (.tbl ps) → ∃ more,H' b = some (.tbl (ps ++ more)))
  (ns:∀ m,s.heap.Ns X.env.locals m → h'.Ns X.env.locals m) (hok:HOk X.prog X.w H' h') (hg:AllBare g') :
  Inv X pins σ H' { s with heap:=h',gens:=g',drawn:=d',toks:=t' }:=by
 have neL:∀ b o,X.s₀.heap.get? b = some o → b ≠ X.env.locals:=fun b o e => Nat.ne_of_lt (Nat.lt_of_lt_of_le (Heap.lt_size e) I.ok.above)
 have neC:∀ b o,X.s₀.heap.get? b = some o → b ∉ X.ex → b ∉ ch:=fun b o e hx hb => by
  rcases (hch b hb).1 with z | z
  ·exact hx z
  ·exact absurd (Nat.lt_of_lt_of_le (Heap.lt_size e) z) (Nat.lt_irrefl _)
 have cellK:∀ x c,X.env.cells.lookup x = some c → ∀ v,s.heap.IsCell c v → h'.IsCell c v:=fun x c e v ⟨o,ho,hd⟩ => by
  have nch:c ∉ ch:=fun z => (hch c z).2.2.1 x c e rfl
  by_cases hc:c ∈ X.fs
  ·obtain ⟨sl,q⟩:=slot c o (I.cne x c e) hc nch ho (I.freeC x c e)
   exact ⟨_,q,hd⟩
  ·exact ⟨o,keep c o (I.cne x c e) hc nch ho (I.freeC x c e),hd⟩
 refine ⟨I.ok,I.os,hg,⟨fun b o e n hb hx => ?_,fun b o e n hb hx => ?_,fun b o e n hx => ?_,fun b o e hx => ?_,fun b xs e => tups b xs (I.base.tups b xs e),fun b o xs e => frzs b o xs (I.base.frzs b o xs e),fun b ps e => ?_⟩,?_,fun x c e => ?_,?_,fun x c e => ?_,fun p hp => ?_,hok,I.len⟩
 ·exact keep b o (neL b o e) hb (neC b o e hx) (I.base.keep b o e n hb hx) (I.base.free b o e n hx)
 ·refine bcn fun hNO => ?_
  obtain ⟨sl,e1⟩:=I.base.slot b o e n hb hx
  obtain ⟨sl',e2⟩:=slot b _ (neL b o e) hb (neC b o e hx) e1 (I.base.free b o e n hx)
  refine hNO ?_; clear hNO
  exact ⟨sl',e2⟩
 ·obtain ⟨o',e1⟩:=I.base.there b o e hx
  exact free b o' (neC b o e hx) e1 (I.base.free b o e n hx)
 ·obtain ⟨o',e1⟩:=I.base.there b o e hx
  exact there b o' (neC b o e hx) e1
 ·refine bcn fun hNO => ?_
  obtain ⟨m1,e1⟩:=I.base.tbls b ps e
  obtain ⟨m2,e2⟩:=tbls b _ e1
  refine hNO ?_; clear hNO
  exact ⟨m1 ++ m2,by rw [e2,Array.append_assoc]⟩
 ·refine bcn fun hNO => ?_
  obtain ⟨m,hn,hl⟩:=I.loc
  refine hNO ?_; clear hNO
  refine ⟨m,ns m hn,fun i x v e1 e2 e3 => ?_⟩
  refine bcn fun hNO => ?_
  obtain ⟨u,r,l⟩:=hl i x v e1 e2 e3
  refine hNO ?_; clear hNO
  refine ⟨u,r,?_⟩
  rcases l with l | ⟨k,c,e,z⟩
  ·exact .inl l
  ·exact .inr ⟨k,c,e,cellK x c e _ z⟩
 ·obtain ⟨v,z⟩:=I.cell x c e
  exact ⟨v,cellK x c e v z⟩
 ·refine bcn fun hNO => ?_
  obtain ⟨m,⟨o,_,_,ho,_⟩,_⟩:=I.loc
  refine hNO ?_; clear hNO
  exact free _ o (fun z => (hch _ z).2.1 rfl) ho I.free
 ·refine bcn fun hNO => ?_
  obtain ⟨v,o,ho,hd⟩:=I.cell x c e
  refine hNO ?_; clear hNO
  exact free c o (fun z => (hch c z).2.2.1 x c e rfl) ho (I.freeC x c e)
 ·refine bcn fun hNO => ?_
  obtain ⟨e,n,ne,nf,d⟩:=I.pin p hp
  have nch:p.1 ∉ ch:=fun z => (hch p.1 z).2.2.2 p hp rfl
  refine hNO ?_; clear hNO
  exact ⟨keep p.1 p.2 ne nf nch e n,free p.1 p.2 nch e n,ne,nf,d⟩
theorem Inv.un {t':Nat} (I:Inv X pins σ H s) (u:Un X.fs [] H H' s.heap h') (hok:HOk X.prog X.w H' h'):Inv X pins σ H' { s with heap:=h',toks:=t' }:=by
 refine bcn fun hNO => ?_
 obtain ⟨m,⟨o,es,ep,ho,r⟩,_⟩:=id I.loc
 obtain ⟨sl,hL⟩:=u.any ho I.free (by simp)
 refine hNO ?_; clear hNO
 exact I.step (g':=s.gens) (d':=s.drawn) (ch:=[]) (fun _ z => nomatch z) (fun b o _ hb _ e n => u.keep b o e n hb (by simp)) (fun b o _ hb _ e n => u.slot b o e n hb (by simp)) (fun b o _ e n => u.free b o e n (by simp)) (fun b o _ e => u.there b o e (by simp)) u.tups u.frzs u.tbls (fun m' hm => by
  refine bcn fun hNO => ?_
  obtain ⟨o',es',ep',ho',r'⟩:=hm
  refine hNO ?_; clear hNO
  rw [ho] at ho'; cases ho'
  exact ⟨_,es',ep',hL,r'⟩) hok I.bare
theorem Inv.call {g':Array GenState} {t':Nat} {d':Drawn} {ch:List Addr} (I:Inv X pins σ H s) (u:Un (frs X.stack) ch H H' s.heap h') (hok:HOk X.prog X.w H' h') (hg:AllBare g')
  (hch:∀ b ∈ ch,(b ∈ X.ex ∨ X.s₀.heap.objs.size ≤ b) ∧ b ≠ X.env.locals ∧ (∀ x c,X.env.cells.lookup x = some c → c ≠ b) ∧ ∀ p ∈ X.pn ++ pins,p.1 ≠ b) :
  Inv X pins σ H' { s with heap:=h',gens:=g',drawn:=d',toks:=t' }:=by
 refine bcn fun hNO => ?_
 obtain ⟨m,⟨o,es,ep,ho,r⟩,_⟩:=id I.loc
 obtain ⟨sl,hL⟩:=u.any ho I.free fun z => (hch _ z).2.1 rfl
 refine hNO ?_; clear hNO
 exact I.step (ch:=ch) hch (fun b o hL hb hc e n => u.keep b o e n (fun z => (List.mem_cons.mp (I.stkSub b z)).elim hL hb) hc) (fun b o _ _ hc e n => u.any e n hc) (fun b o hc e n => u.free b o e n hc) (fun b o hc e => u.there b o e hc) u.tups u.frzs u.tbls (fun m' hm => by
  refine bcn fun hNO => ?_
  obtain ⟨o',es',ep',ho',r'⟩:=hm
  refine hNO ?_; clear hNO
  rw [ho] at ho'; cases ho'
  exact ⟨_,es',ep',hL,r'⟩) hok hg
theorem Inv.turned {t':Nat} {it:Addr} (I:Inv X pins σ H s) (k:∀ b o,b ≠ it → s.heap.get? b = some o → h'.get? b = some o) (hn:H it = none) (hL:it ≠ X.env.locals)
  (h1:it ∈ X.ex ∨ X.s₀.heap.objs.size ≤ it) (h2:∀ x c,X.env.cells.lookup x = some c → c ≠ it) (h3:∀ p ∈ X.pn ++ pins,p.1 ≠ it):Inv X pins σ H { s with heap:=h',toks:=t' }:=by
 have nit:∀ b u,H b = some u → b ≠ it:=fun b u e z => by rw [z,hn] at e; cases e
 refine I.step (g':=s.gens) (d':=s.drawn) (ch:=[it]) (fun b hb => ?_) (fun b o _ _ hc e _ => k b o (fun z => hc (by simp [z])) e) (fun b o _ _ hc e _ => ⟨o.slots,k b o (fun z => hc (by simp [z])) e⟩) (fun _ _ _ _ n => n)
  (fun b o hc e => ⟨o,k b o (fun z => hc (by simp [z])) e⟩) (fun _ _ e => e) (fun _ _ _ e => e) (fun b ps e => ⟨#[],by rw [e]; simp⟩) (fun m hm => ?_) (fun b u e => ?_) I.bare
 ·have e:b = it:=by simpa using hb
  subst e
  exact ⟨h1,hL,h2,h3⟩
 ·obtain ⟨o,es,ep,ho,r⟩:=hm
  exact ⟨o,es,ep,k _ o (Ne.symm hL) ho,r⟩
 ·refine (I.hok b u e).stay (fun c v hc q => k c v ?_ q) (fun _ q => q) fun _ _ q => q
  rcases hc with z | z
  ·rw [z]; exact nit b u e
  ·exact nit c _ z
theorem Inv.tok (I:Inv X pins σ H s) (t:Nat):Inv X pins σ H { s with toks:=t }:=I.un (h':=s.heap) (t':=t) Un.refl I.hok
theorem Inv.kept {t':Nat} (I:Inv X pins σ H s) (k:∀ b u,s.heap.get? b = some u → h'.get? b = some u):Inv X pins σ H { s with heap:=h',toks:=t' }:=I.un (Un.kept k) (I.hok.kept k)
theorem Inv.laid {a:Addr} {o:HO} {t':Nat} (I:Inv X pins σ H s) (k:∀ b u,s.heap.get? b = some u → h'.get? b = some u) (hp:s.heap.objs.size ≤ a) (new:ObjOk X.prog X.w (upd H a o) h' a o) :
  Inv X pins σ (upd H a o) { s with heap:=h',toks:=t' }:=I.un (Un.laid k hp (I.hok.fresh hp)) (I.hok.laid k hp new)
theorem Inv.write {x e:Addr} {o:HO} {t':Nat} (I:Inv X pins σ H s) (mu:Mut (H x)) (he:e = x ∨ H e = some (.own x)) (k:∀ b u,b ≠ e → s.heap.get? b = some u → h'.get? b = some u) (heo:∃ u,h'.get? e = some u)
  (new:ObjOk X.prog X.w (upd H x o) h' x o):Inv X pins σ (upd H x o) { s with heap:=h',toks:=t' }:=I.un (Un.write mu he k heo) (I.hok.write mu he k heo new)
theorem Inv.pins_of {pins':List (Addr × Obj)} (I:Inv X pins σ H s) (h:∀ p ∈ pins',s.heap.get? p.1 = some p.2 ∧ H p.1 = none ∧ p.1 ≠ X.env.locals ∧ p.1 ∉ X.fs ∧ ∀ v,p.2.data ≠ .cell v):Inv X pins' σ H s :=
 ⟨I.ok,I.os,I.bare,I.base,I.loc,I.cell,I.free,I.freeC,fun p hp => (List.mem_append.mp hp).elim (fun z => I.pin p (List.mem_append_left _ z)) (h p),I.hok,I.len⟩
theorem nodup_ix {N:List Str} (hN:N.Nodup) {i j:Nat} {x:Str} (a:N[i]? = some x) (b:N[j]? = some x):i = j:=by
 obtain ⟨h1,e1⟩:=List.getElem?_eq_some_iff.mp a
 obtain ⟨h2,e2⟩:=List.getElem?_eq_some_iff.mp b
 exact (List.getElem_inj hN).mp (e1.trans e2.symm)
theorem store_ok2 {M:Model} {A:Around} {E:Value → Shared → Prop} {i:Nat} {x:Str} {v:V} {u:Value} {Q:Unit → Shared → Prop} (I:Inv X pins σ H s) (hN:X.N.Nodup) (hi:X.N[i]? = some x) (hx:Loc X.env.scope x) (r:RelV v u)
  (h:∀ s',Inv X pins (σ.set i (some v)) H s' → (∃ a,Heap.SameBut a s.heap s'.heap ∧ (a = X.env.locals ∨ X.env.cells.lookup x = some a)) → Q () s') (hf:X.fn x = true ∨ X.env.scope.names.lookup x = some .local:=by first | exact .inl rfl | exact .inr rfl | assumption):wpAny M A (storeName X.env x u) Q E s:=by
 refine bcn fun hNO => ?_
 obtain ⟨m,hn,hl⟩:=id I.loc
 refine hNO ?_; clear hNO
 have hcls:(X.env.scope.kind == .class || (X.env.scope.kind == .module && X.env.locals != X.env.globals)) = false:=by rw [I.ok.kind]; rfl
 have hiσ:i < σ.length:=by rw [I.len]; exact (List.getElem?_eq_some_iff.mp hi).1
 have cne:=I.cne
 have tracked:∀ {a:Addr} {h':Heap},(∃ o,s.heap.get? a = some o ∧ H a = none) → Heap.SameBut a s.heap h' → HOk X.prog X.w H h':=fun {a h'} ha hs b ob e => by
  obtain ⟨_,_,hfree⟩:=ha
  refine (I.hok b ob e).stay (fun c w' hc q => (hs.2 c ?_).trans q) (fun _ q => q) fun _ _ q => q
  rintro rfl
  rcases hc with rfl | hc
  ·rw [hfree] at e; cases e
  ·rw [hfree] at hc; cases hc
 rcases hx with hk | hk
 ·refine wpAny_storeName_local hk hn (fun h' hn' hs => ?_) hcls
  refine bcn fun hNO => ?_
  obtain ⟨oL,_,_,hoL,_⟩:=id hn
  refine hNO ?_; clear hNO
  refine h _ ⟨I.ok,I.os,I.bare,⟨fun b o e n hb hx => ?_,fun b o e n hb hx => ?_,I.base.free,fun b o e hx => ?_,I.base.tups,I.base.frzs,I.base.tbls⟩,⟨_,hn',fun j y v' e1 e2 e3 => ?_⟩,fun y c e => ?_,I.free,I.freeC,fun p hp => ?_,tracked ⟨oL,hoL,I.free⟩ hs,by simpa using I.len⟩ ⟨_,hs,.inl rfl⟩
  ·exact (hs.2 b (Nat.ne_of_lt (Nat.lt_of_lt_of_le (Heap.lt_size e) I.ok.above))).trans (I.base.keep b o e n hb hx)
  ·obtain ⟨sl,e1⟩:=I.base.slot b o e n hb hx
   exact ⟨sl,(hs.2 b (Nat.ne_of_lt (Nat.lt_of_lt_of_le (Heap.lt_size e) I.ok.above))).trans e1⟩
  ·obtain ⟨o',e1⟩:=I.base.there b o e hx
   exact ⟨o',(hs.2 b (Nat.ne_of_lt (Nat.lt_of_lt_of_le (Heap.lt_size e) I.ok.above))).trans e1⟩
  ·by_cases hj:j = i
   ·subst hj
    rw [hi] at e1; cases e1
    rw [List.getElem?_set_self hiσ] at e2
    cases e2
    exact ⟨u,r,.inl ⟨hk,by simp⟩⟩
   ·refine bcn fun hNO => ?_
    rw [List.getElem?_set_ne (Ne.symm hj)] at e2
    obtain ⟨u',r',q⟩:=hl j y v' e1 e2 e3
    refine hNO ?_; clear hNO
    refine ⟨u',r',?_⟩
    rcases q with ⟨k,e⟩ | ⟨k,c,e,z⟩
    ·refine .inl ⟨k,?_⟩
     have:y ≠ x:=fun e => hj (nodup_ix hN e1 (e ▸ hi))
     simp [this,e]
    ·exact .inr ⟨k,c,e,z.sameBut hs (cne y c e)⟩
  ·obtain ⟨w',z⟩:=I.cell y c e
   exact ⟨w',z.sameBut hs (cne y c e)⟩
  ·refine bcn fun hNO => ?_
   obtain ⟨e,n,ne,nf,d⟩:=I.pin p hp
   refine hNO ?_; clear hNO
   exact ⟨(hs.2 p.1 ne).trans e,n,ne,nf,d⟩
 ·refine bcn fun hNO => ?_
  have hfn:X.fn x = true:=by
   rcases hf with z | z
   ·exact z
   ·rw [z] at hk; cases hk
  obtain ⟨c,hc⟩:=I.ok.has x (.inl hk)
  obtain ⟨w',z⟩:=I.cell x c hc
  refine hNO ?_; clear hNO
  refine wpAny_storeName_cell I.ok.kind hk hc z (fun h' hc' hs => ?_)
  refine bcn fun hNO => ?_
  obtain ⟨oc,hoc,hocd⟩:=id z
  refine hNO ?_; clear hNO
  refine h { s with heap:=h' } ⟨I.ok,I.os,I.bare,⟨fun b o e n hb hx => ?_,fun b o e n hb hx => ?_,I.base.free,fun b o e hx => ?_,I.base.tups,I.base.frzs,I.base.tbls⟩,⟨m,hn.sameBut hs (Ne.symm (cne x c hc)),fun j y v' e1 e2 e3 => ?_⟩,fun y c' e => ?_,I.free,I.freeC,fun p hp => ?_,tracked ⟨oc,hoc,I.freeC x c hc⟩ hs,by simpa using I.len⟩ ⟨c,hs,.inr hc⟩
  ·exact (hs.2 b (Nat.ne_of_lt (Nat.lt_of_lt_of_le (Heap.lt_size e) (I.ok.cab x c hfn hc)))).trans (I.base.keep b o e n hb hx)
  ·obtain ⟨sl,e1⟩:=I.base.slot b o e n hb hx
   exact ⟨sl,(hs.2 b (Nat.ne_of_lt (Nat.lt_of_lt_of_le (Heap.lt_size e) (I.ok.cab x c hfn hc)))).trans e1⟩
  ·obtain ⟨o',e1⟩:=I.base.there b o e hx
   exact ⟨o',(hs.2 b (Nat.ne_of_lt (Nat.lt_of_lt_of_le (Heap.lt_size e) (I.ok.cab x c hfn hc)))).trans e1⟩
  ·by_cases hj:j = i
   ·subst hj
    rw [hi] at e1; cases e1
    rw [List.getElem?_set_self hiσ] at e2
    cases e2
    exact ⟨u,r,.inr ⟨.inl hk,c,hc,hc'⟩⟩
   ·refine bcn fun hNO => ?_
    rw [List.getElem?_set_ne (Ne.symm hj)] at e2
    obtain ⟨u',r',q⟩:=hl j y v' e1 e2 e3
    refine hNO ?_; clear hNO
    refine ⟨u',r',?_⟩
    rcases q with q | ⟨k,c',e,z'⟩
    ·exact .inl q
    ·refine .inr ⟨k,c',e,z'.sameBut hs ?_⟩
     rintro rfl
     exact hj (nodup_ix hN e1 (I.ok.inj _ _ _ e hc ▸ hi))
  ·by_cases hcc:c' = c
   ·subst hcc; exact ⟨_,hc'⟩
   ·obtain ⟨w2,z2⟩:=I.cell y c' e
    exact ⟨w2,z2.sameBut hs hcc⟩
  ·refine bcn fun hNO => ?_
   obtain ⟨e,n,ne,nf,d⟩:=I.pin p hp
   refine hNO ?_; clear hNO
   refine ⟨(hs.2 p.1 ?_).trans e,n,ne,nf,d⟩
   intro q
   rw [q,hoc] at e
   have q':oc = p.2:=Option.some.inj e
   exact d w' (by rw [← q']; exact hocd)
theorem store_ok {M:Model} {A:Around} {E:Value → Shared → Prop} {i:Nat} {x:Str} {v:V} {u:Value} {Q:Unit → Shared → Prop} (I:Inv X pins σ H s) (hN:X.N.Nodup) (hi:X.N[i]? = some x) (hx:Loc X.env.scope x) (r:RelV v u)
  (h:∀ s',Inv X pins (σ.set i (some v)) H s' → Q () s') (hf:X.fn x = true ∨ X.env.scope.names.lookup x = some .local:=by first | exact .inl rfl | exact .inr rfl | assumption):wpAny M A (storeName X.env x u) Q E s :=
 store_ok2 I hN hi hx r (fun s' I' _ => h s' I') hf
theorem Inv.call' {s':Shared} {ch:List Addr} (I:Inv X pins σ H s) (ho:s'.os = s.os) (u:Un (frs X.stack) ch H H' s.heap s'.heap) (hok:HOk X.prog X.w H' s'.heap) (hg:AllBare s'.gens)
  (hch:∀ b ∈ ch,(b ∈ X.ex ∨ X.s₀.heap.objs.size ≤ b) ∧ b ≠ X.env.locals ∧ (∀ x c,X.env.cells.lookup x = some c → c ≠ b) ∧ ∀ p ∈ X.pn ++ pins,p.1 ≠ b):Inv X pins σ H' s':=by
 obtain ⟨h',g',d',t',o'⟩:=s'
 have e:o' = s.os:=ho
 subst e
 exact I.call (g':=g') (t':=t') (d':=d') u hok hg hch
end
noncomputable abbrev XK:=Value → Option Addr → Hp → Prop
noncomputable abbrev St:=List (Option V)
noncomputable abbrev VK:=V → Hp → Prop
noncomputable abbrev TE:=St → Hp → VK → Prop
noncomputable abbrev TT:=St → Hp → (Bool → Hp → Prop) → Prop
noncomputable abbrev TA:=St → Hp → (List V → Hp → Prop) → Prop
structure Ends where
 nx:St → Hp → Prop
 rt:VK
 bk:St → Hp → Prop:=fun _ _ => False
 ct:St → Hp → Prop:=fun _ _ => False
noncomputable abbrev TS:=Ends → St → Hp → Prop
noncomputable def EP (X:Cx) (pins:List (Addr × Obj)) (σ:St) (Q:VK) (u:Value) (s':Shared):Prop:=∃ v H',Inv X pins σ H' s' ∧ RelV v u ∧ Q v H'
noncomputable def TP (X:Cx) (pins:List (Addr × Obj)) (σ:St) (Q:Bool → Hp → Prop) (b:Bool) (s':Shared):Prop:=∃ H',Inv X pins σ H' s' ∧ Q b H'
noncomputable def AP (X:Cx) (pins:List (Addr × Obj)) (σ:St) (Q:List V → Hp → Prop) (us:List Value) (s':Shared):Prop:=∃ vs H',Inv X pins σ H' s' ∧ Vals vs us ∧ Q vs H'
noncomputable def SP (X:Cx) (pins:List (Addr × Obj)) (D:Ends) (f:Flow) (s':Shared):Prop :=
 match f with
 | .next => ∃ σ' H',Inv X pins σ' H' s' ∧ D.nx σ' H'
 | .brk => ∃ σ' H',Inv X pins σ' H' s' ∧ D.bk σ' H'
 | .cont => ∃ σ' H',Inv X pins σ' H' s' ∧ D.ct σ' H'
 | .ret u => ∃ v σ' H',Inv X pins σ' H' s' ∧ RelV v u ∧ D.rt v H'
noncomputable def PE (X:Cx) (e:Expr) (t:TE):Prop :=
 ∀ (pins:List (Addr × Obj)) (s:Shared) (σ:St) (H:Hp) (Q:VK),Inv X pins σ H s → t σ H Q → wpAny (model X.prog X.w) X.A (eval e X.env) (EP X pins σ Q) X.xe s
noncomputable def PT (X:Cx) (e:Expr) (t:TT):Prop :=
 ∀ (pins:List (Addr × Obj)) (s:Shared) (σ:St) (H:Hp) (Q:Bool → Hp → Prop),Inv X pins σ H s → t σ H Q → wpAny (model X.prog X.w) X.A (isTrue e X.env (eval e X.env)) (TP X pins σ Q) X.xe s
noncomputable def PW (X:Cx) (e:Expr) (t:TT):Prop :=
 ∀ (whole:Sem Value) (pins:List (Addr × Obj)) (s:Shared) (σ:St) (H:Hp) (Q:Bool → Hp → Prop),Inv X pins σ H s → t σ H Q → wpAny (model X.prog X.w) X.A (isTrue e X.env whole) (TP X pins σ Q) X.xe s
theorem PW.pt {X:Cx} {e:Expr} {t:TT} (h:PW X e t):PT X e t:=h _
noncomputable def PA (X:Cx) (es:List Expr) (t:TA):Prop :=
 ∀ (pos:Pos) (pins:List (Addr × Obj)) (s:Shared) (σ:St) (H:Hp) (Q:List V → Hp → Prop),Inv X pins σ H s → t σ H Q → wpAny (model X.prog X.w) X.A (spliced (backTo pos (starEach es X.env))) (AP X pins σ Q) X.xe s
noncomputable def PS (X:Cx) (st:Stmt) (t:TS):Prop :=
 ∀ (pins:List (Addr × Obj)) (s:Shared) (σ:St) (H:Hp) (D:Ends),Inv X pins σ H s → t D σ H → wpAny (model X.prog X.w) X.A (exec st X.env) (SP X pins D) X.xe s
noncomputable def PSs (X:Cx) (st:List Stmt) (t:TS):Prop :=
 ∀ (pins:List (Addr × Obj)) (s:Shared) (σ:St) (H:Hp) (D:Ends),Inv X pins σ H s → t D σ H → wpAny (model X.prog X.w) X.A (execs st X.env) (SP X pins D) X.xe s
theorem thn {α:Type} {t:Sem α} {Q Q':α → Shared → Prop} {M:Model} {A:Around} {E:Value → Shared → Prop} {s:Shared} (h:wpAny M A t Q E s) (hQ:∀ a s,Q a s → Q' a s):wpAny M A t Q' E s:=wpAny_mono h hQ fun _ _ x => x
end L2
namespace L2
open PySem PySem.Spec PyProof.Rows
section
variable {X:Cx}
noncomputable def tVar (i:Nat):TE:=fun σ H Q => ∃ v,σ[i]? = some (some v) ∧ Q v H
noncomputable def tC (v:V):TE:=fun _ H Q => Q v H
theorem pe_var {i:Nat} {x:Str} {pos:Pos} (hN:X.N[i]? = some x) (hv:Vis X.env.scope x) (hd:(x == ("__debug__":Str)) = false:=by decide) (hcd:(x == ("__classdict__":Str)) = false:=by decide):PE X (.Name x pos) (tVar i):=by
 intro pins s σ H Q I h
 refine bcn fun hNO => ?_
 obtain ⟨v,e,h⟩:=h
 obtain ⟨m,hn,hl⟩:=I.loc
 obtain ⟨u,r,l⟩:=hl i x v hN e hv
 have fin:EP X pins σ Q u s:=⟨v,H,I,r,h⟩
 refine hNO ?_; clear hNO
 rcases l with ⟨hk,hm⟩ | ⟨hk,c,hc,hcell⟩
 ·exact wpAny_Name (wpAny_loadName_local I.ok.kind hk hn hm fin) hd
 ·rcases hk with hk | hk
  ·exact wpAny_Name (wpAny_loadName_cell I.ok.kind hk hc hcell fin) hd
  ·exact wpAny_Name (wpAny_loadName_free I.ok.kind hk hc hcell fin hcd) hd
theorem pe_int {i j pos}:PE X (.Constant (.int i) j pos) (tC (.int i)):=fun _ _ _ H _ I h => wpAny_Constant_int ⟨.int i,H,I.tok _,⟨_,rfl⟩,h⟩
theorem pe_bl {b j pos}:PE X (.Constant (.bool b) j pos) (tC (.bl b)):=fun _ _ _ H _ I h => Constant_bool ⟨.bl b,H,I,rfl,h⟩
theorem pe_str {x j pos}:PE X (.Constant (.str x) j pos) (tC (.str x)):=fun _ _ _ H _ I h => Calls.Constant_str ⟨.str x,H,I.tok _,⟨_,rfl⟩,h⟩
noncomputable def Gl (X:Cx) (x:Str):Prop:=X.env.kindOf x = some .globalImplicit
theorem ld_glob {E:Value → Shared → Prop} {pins:List (Addr × Obj)} {s:Shared} {σ:St} {H:Hp} {x:Str} {u:Value} {pos:Pos} {Q:Value → Shared → Prop} (I:Inv X pins σ H s) (hg:Gl X x) (hm:X.mg x = some u) (h:Q u s)
  (hd:(x == ("__debug__":Str)) = false:=by decide):wpAny (model X.prog X.w) X.A (eval (.Name x pos) X.env) Q E s :=
 Calls.Name_function_global I.ok.kind hg (Calls.loadGlobal_global (by rw [I.ok.glob]; exact I.mod.glob.keeps I.bk) hm h) hd
theorem ld_blt {E:Value → Shared → Prop} {pins:List (Addr × Obj)} {s:Shared} {σ:St} {H:Hp} {x:Str} {u:Value} {pos:Pos} {Q:Value → Shared → Prop} (I:Inv X pins σ H s) (hg:Gl X x) (hm:X.mg x = none) (hv:bootBuiltins x = some u) (h:Q u s)
  (hn:x ≠ "__name__":=by decide) (hd:(x == ("__debug__":Str)) = false:=by decide):wpAny (model X.prog X.w) X.A (eval (.Name x pos) X.env) Q E s:=by
 refine bcn fun hNO => ?_
 obtain ⟨mb,h1,h2⟩:=I.mod.blt
 refine hNO ?_; clear hNO
 exact Calls.Name_function_global I.ok.kind hg (Calls.loadGlobal_builtin (by rw [I.ok.glob]; exact I.mod.glob.keeps I.bk) hm (by rw [I.ok.blt]; exact h1.keeps I.bk) ((h2 x hn).trans hv) h) hd
theorem pe_glob {x:Str} {v:V} {u:Value} {pos:Pos} (hg:Gl X x) (hm:X.mg x = some u) (r:RelV v u) (hd:(x == ("__debug__":Str)) = false:=by decide):PE X (.Name x pos) (tC v) :=
 fun _ _ _ H _ I h => ld_glob I hg hm ⟨v,H,I,r,h⟩ hd
theorem pe_bltn {x:Str} {v:V} {u:Value} {pos:Pos} (hg:Gl X x) (hm:X.mg x = none) (hv:bootBuiltins x = some u) (r:RelV v u) (hn:x ≠ "__name__":=by decide) (hd:(x == ("__debug__":Str)) = false:=by decide):PE X (.Name x pos) (tC v) :=
 fun _ _ _ H _ I h => ld_blt I hg hm hv ⟨v,H,I,r,h⟩ hn hd
variable {a b:Expr} {ta tb:TE} {pos:Pos}
noncomputable def PC (X:Cx) (op:CmpOp) (a b:Expr) (t:TE):Prop :=
 ∀ (pins:List (Addr × Obj)) (s:Shared) (σ:St) (H:Hp) (Q:VK),Inv X pins σ H s → t σ H Q →
  wpAny (model X.prog X.w) X.A (eval a X.env) (fun v s₁ => wpAny (model X.prog X.w) X.A (eval b X.env) (fun u s₂ => wpAny (model X.prog X.w) X.A (compareOp op v u) (EP X pins σ Q) X.xe s₂) X.xe s₁) X.xe s
noncomputable def tB (t:TE):TT:=fun σ H Q => t σ H fun x H1 => ∃ c,x = .bl c ∧ Q c H1
theorem pt_val {e:Expr} {t:TE} (h:PE X e t) (he:∀ whole,isTrue e X.env whole = (do let v ← whole; standAt e.pos; holding [v] (truthy v)):=by intro _; rfl):PT X e (tB t):=by
 intro pins s σ H Q I hw
 refine isTrue_plain (thn (h pins s σ H _ I hw) fun v s1 ⟨x,H1,I1,r1,q1⟩ => ?_) (he _)
 refine bcn fun hNO => ?_
 obtain ⟨d,rfl,q⟩:=q1
 cases r1
 refine hNO ?_; clear hNO
 exact wpAny_truthy_bool ⟨H1,I1,q⟩
variable {tA tB':TT} {rest:List Expr}
noncomputable def tAnd (t u:TT):TT:=fun σ H Q => t σ H fun c H1 => if c = true then u σ H1 Q else Q false H1
noncomputable def tOr (t u:TT):TT:=fun σ H Q => t σ H fun c H1 => if c = true then Q true H1 else u σ H1 Q
noncomputable def tNot (t:TT):TT:=fun σ H Q => t σ H fun c H1 => Q (!c) H1
theorem pw_and1 (ha:PT X a tA):PW X (.BoolOp .And [a] pos) tA:=by
 intro wh pins s σ H Q I h
 refine isTrue_and (thn (ha pins s σ H Q I h) fun c s1 e => ?_)
 cases c with
 | true => exact isTrue_and_nil e
 | false => exact e
theorem pw_or1 (ha:PT X a tA):PW X (.BoolOp .Or [a] pos) tA:=by
 intro wh pins s σ H Q I h
 refine isTrue_or (thn (ha pins s σ H Q I h) fun c s1 e => ?_)
 cases c with
 | false => exact isTrue_or_nil e
 | true => exact e
theorem pw_and (ha:PT X a tA) (hb:PW X (.BoolOp .And (b :: rest) pos) tB'):PW X (.BoolOp .And (a :: b :: rest) pos) (tAnd tA tB'):=by
 intro wh pins s σ H Q I h
 refine isTrue_and (thn (ha pins s σ H _ I h) fun c s1 ⟨H1,I1,q1⟩ => ?_)
 cases c with
 | true => exact hb wh pins s1 σ H1 Q I1 q1
 | false => exact ⟨H1,I1,q1⟩
theorem pw_or (ha:PT X a tA) (hb:PW X (.BoolOp .Or (b :: rest) pos) tB'):PW X (.BoolOp .Or (a :: b :: rest) pos) (tOr tA tB'):=by
 intro wh pins s σ H Q I h
 refine isTrue_or (thn (ha pins s σ H _ I h) fun c s1 ⟨H1,I1,q1⟩ => ?_)
 cases c with
 | true => exact ⟨H1,I1,q1⟩
 | false => exact hb wh pins s1 σ H1 Q I1 q1
theorem pt_not (ha:PT X a tA):PT X (.UnaryOp .Not a pos) (tNot tA):=by
 intro pins s σ H Q I h
 exact isTrue_not (ha pins s σ H (fun c H1 => Q (!c) H1) I h)
noncomputable def tAndV (ta tb:TE):TE:=fun σ H Q => ta σ H fun x H1 => ∃ c,x = .bl c ∧ if c = true then tb σ H1 Q else Q (.bl false) H1
noncomputable def tOrV (ta tb:TE):TE:=fun σ H Q => ta σ H fun x H1 => ∃ c,x = .bl c ∧ if c = true then Q (.bl true) H1 else tb σ H1 Q
noncomputable def tNotV (ta:TE):TE:=fun σ H Q => ta σ H fun x H1 => ∃ c,x = .bl c ∧ Q (.bl (!c)) H1
theorem pe_one {op} {t:TE} (h:PE X a t):PE X (.BoolOp op [a] pos) t:=fun pins s σ H Q I hw => BoolOp_one (h pins s σ H Q I hw)
theorem pe_and (ha:PE X a ta) (hb:PE X (.BoolOp .And (b :: rest) pos) tb):PE X (.BoolOp .And (a :: b :: rest) pos) (tAndV ta tb):=by
 intro pins s σ H Q I h
 refine BoolOp_and (thn (ha pins s σ H _ I h) fun v s1 ⟨x,H1,I1,r1,q1⟩ => ?_)
 refine bcn fun hNO => ?_
 obtain ⟨c,rfl,q1⟩:=q1
 cases r1
 refine hNO ?_; clear hNO
 refine wpAny_truthy_bool ?_
 cases c with
 | true => exact hb pins s1 σ H1 Q I1 q1
 | false => exact ⟨.bl false,H1,I1,rfl,q1⟩
theorem pe_or (ha:PE X a ta) (hb:PE X (.BoolOp .Or (b :: rest) pos) tb):PE X (.BoolOp .Or (a :: b :: rest) pos) (tOrV ta tb):=by
 intro pins s σ H Q I h
 refine BoolOp_or (thn (ha pins s σ H _ I h) fun v s1 ⟨x,H1,I1,r1,q1⟩ => ?_)
 refine bcn fun hNO => ?_
 obtain ⟨c,rfl,q1⟩:=q1
 cases r1
 refine hNO ?_; clear hNO
 refine wpAny_truthy_bool ?_
 cases c with
 | false => exact hb pins s1 σ H1 Q I1 q1
 | true => exact ⟨.bl true,H1,I1,rfl,q1⟩
theorem pe_not (ha:PE X a ta):PE X (.UnaryOp .Not a pos) (tNotV ta):=by
 intro pins s σ H Q I h
 refine UnaryOp_ (thn (ha pins s σ H _ I h) fun v s1 ⟨x,H1,I1,r1,q1⟩ => ?_)
 refine bcn fun hNO => ?_
 obtain ⟨c,rfl,q1⟩:=q1
 cases r1
 refine hNO ?_; clear hNO
 exact not_of (wpAny_truthy_bool ⟨.bl (!c),H1,I1,rfl,q1⟩)
noncomputable def tIf (t:TT) (ta tb:TE):TE:=fun σ H Q => t σ H fun c H1 => if c = true then ta σ H1 Q else tb σ H1 Q
theorem pe_ifExp {c:Expr} (hc:PT X c tA) (ha:PE X a ta) (hb:PE X b tb):PE X (.IfExp c a b pos) (tIf tA ta tb):=by
 intro pins s σ H Q I h
 refine wpAny_IfExp (thn (hc pins s σ H _ I h) fun d s1 ⟨H1,I1,q1⟩ => ?_)
 cases d with
 | true => exact ha pins s1 σ H1 Q I1 q1
 | false => exact hb pins s1 σ H1 Q I1 q1
end
end L2
namespace L2
open PySem PySem.Spec PyProof.Rows
noncomputable def SqL (K:PySem.W.Frag) (H:Hp) (a:Addr) (xs:List V):Prop :=
 Rd H a (.lst xs) ∨
  ∃ (o:Obj) (its:Array Value) (n:Nat),K.lookup a = some o ∧ o.cls = .type "list" ∧ o.dict = none ∧ o.data = .seq its n ∧ its.size ≤ sizeLine ∧ Vals xs its.toList
noncomputable def SqT (K:PySem.W.Frag) (H:Hp) (a:Addr) (xs:List V):Prop :=
 Rd H a (.tup xs) ∨
  ∃ (o:Obj) (its:Array Value) (n:Nat),K.lookup a = some o ∧ o.cls = .type "tuple" ∧ o.data = .seq its n ∧ its.size ≤ sizeLine ∧ Vals xs its.toList
noncomputable def absV:Value → Option V
 | .none => some .non
 | .bool b => some (.bl b)
 | .int i _ => some (.int i)
 | .str x _ => some (.str x)
 | .bytes b _ => some (.byt b)
 | .float b _ => some (.flt b)
 | .ref a => some (.ref a)
 | .type n => some (.ty n)
 | _ => none
theorem RelV.abs {x:V} {u:Value} (r:RelV x u):absV u = some x:=by
 cases x with
 | non => cases r; rfl
 | bl _ => cases r; rfl
 | int _ => obtain ⟨t,rfl⟩:=r; rfl
 | str _ => obtain ⟨t,rfl⟩:=r; rfl
 | byt _ => obtain ⟨t,rfl⟩:=r; rfl
 | flt _ => obtain ⟨t,rfl⟩:=r; rfl
 | ref _ => cases r; rfl
 | ty _ => cases r; rfl
theorem RelV.inj {x y:V} {u:Value} (r:RelV x u) (q:RelV y u):x = y:=Option.some.inj (r.abs.symm.trans q.abs)
theorem Vals.inj {xs ys:List V} {us:List Value} (p:Vals xs us) (q:Vals ys us):xs = ys:=by
 induction p generalizing ys with
 | nil => cases q; rfl
 | cons r t ih =>
  cases q with
  | cons r' t' => rw [r.inj r',ih t']
section
variable {X:Cx} {pins:List (Addr × Obj)} {σ:St} {H:Hp} {s:Shared} {a:Addr} {xs ys:List V}
theorem SqL.of {K:PySem.W.Frag} (h:H a = some (.lst xs)):SqL K H a xs:=.inl (.inl h)
theorem SqT.of {K:PySem.W.Frag} (h:H a = some (.tup xs)):SqT K H a xs:=.inl (.inl h)
theorem Inv.list (I:Inv X pins σ H s) (h:SqL X.K H a xs):∃ its:List Value,Vals xs its ∧ PlainL s.heap a its.toArray ∧ xs.length ≤ sizeLine:=by
 rcases h with h | ⟨o,its,n,hk,hc,hd,hs,hz,r⟩
 ·obtain ⟨z,its,n,r,e⟩:=h.ok I.hok
  exact ⟨its,r,⟨_,n,e,rfl,rfl,rfl⟩,z⟩
 ·refine ⟨its.toList,r,⟨o,n,I.kIn a o hk,hc,hd,by simpa using hs⟩,?_⟩
  have e:=r.length
  simp only [Array.length_toList] at e
  lia
theorem Inv.tuple (I:Inv X pins σ H s) (h:SqT X.K H a xs):∃ its:List Value,Vals xs its ∧ IsTup s.heap a its.toArray ∧ xs.length ≤ sizeLine:=by
 rcases h with h | ⟨o,its,n,hk,hc,hs,hz,r⟩
 ·obtain ⟨z,its,r,p⟩:=h.ok I.hok
  exact ⟨its,r,p,z⟩
 ·refine ⟨its.toList,r,⟨o,I.kIn a o hk,hc,n,by simpa using hs⟩,?_⟩
  have e:=r.length
  simp only [Array.length_toList] at e
  lia
theorem Inv.list_inj (I:Inv X pins σ H s) (h:SqL X.K H a xs) (h':SqL X.K H a ys):xs = ys:=by
 refine bcn fun hNO => ?_
 obtain ⟨its,r,⟨o,n,e,_,_,d⟩,_⟩:=I.list h
 obtain ⟨its',r',⟨o',n',e',_,_,d'⟩,_⟩:=I.list h'
 refine hNO ?_; clear hNO
 rw [e] at e'; cases e'
 rw [d] at d'
 injection d' with d1 _
 have:its = its':=by simpa using congrArg Array.toList d1
 subst this
 exact r.inj r'
theorem Inv.tuple_inj (I:Inv X pins σ H s) (h:SqT X.K H a xs) (h':SqT X.K H a ys):xs = ys:=by
 obtain ⟨its,r,⟨o,e,_,n,d⟩,_⟩:=I.tuple h
 obtain ⟨its',r',⟨o',e',_,n',d'⟩,_⟩:=I.tuple h'
 rw [e] at e'; cases e'
 rw [d] at d'
 injection d' with d1 _
 have:its = its':=by simpa using congrArg Array.toList d1
 subst this
 exact r.inj r'
end
noncomputable abbrev Cx.wish (X:Cx) (E:Value → Shared → Prop):Cx:={ X with xe:=E }
theorem Cx.Ok.wish {X:Cx} (ok:X.Ok) (E:Value → Shared → Prop):(X.wish E).Ok :=
 ⟨ok.mod,ok.kind,ok.glob,ok.blt,ok.above,ok.inj,ok.has,ok.cab,ok.hd,ok.frames,ok.stk,ok.exf,ok.bs,ok.bsz,ok.noex,ok.exfs,ok.funs,ok.frf⟩
theorem Cx.Ok.unwish {X:Cx} {E:Value → Shared → Prop} (ok:(X.wish E).Ok):X.Ok :=
 ⟨ok.mod,ok.kind,ok.glob,ok.blt,ok.above,ok.inj,ok.has,ok.cab,ok.hd,ok.frames,ok.stk,ok.exf,ok.bs,ok.bsz,ok.noex,ok.exfs,ok.funs,ok.frf⟩
section
variable {X:Cx} {pins:List (Addr × Obj)} {σ:St} {H:Hp} {s:Shared} {E:Value → Shared → Prop}
theorem Inv.wish (I:Inv X pins σ H s) (E:Value → Shared → Prop):Inv (X.wish E) pins σ H s:=⟨I.ok.wish E,I.os,I.bare,I.base,I.loc,I.cell,I.free,I.freeC,I.pin,I.hok,I.len⟩
theorem Inv.unwish (I:Inv (X.wish E) pins σ H s):Inv X pins σ H s:=⟨I.ok.unwish,I.os,I.bare,I.base,I.loc,I.cell,I.free,I.freeC,I.pin,I.hok,I.len⟩
end
section
variable {X:Cx} {st:Stmt} {rest:List Stmt} {t u:TS} {e:Expr} {te:TE} {pos:Pos}
noncomputable def tNext:TS:=fun D σ H => D.nx σ H
noncomputable def tSeq (t u:TS):TS:=fun D σ H => t { D with nx:=u D } σ H
theorem pss_nil:PSs X [] tNext:=fun _ _ σ H _ I h => wpAny_execs_nil ⟨σ,H,I,h⟩
theorem pss_cons (h1:PS X st t) (h2:PSs X rest u):PSs X (st :: rest) (tSeq t u):=by
 intro pins s σ H D I h
 refine wpAny_execs_cons (thn (h1 pins s σ H { D with nx:=u D } I h) fun f s1 q => ?_)
 cases f with
 | next =>
  refine bcn fun hNO => ?_
  obtain ⟨σ',H',I',q⟩:=q
  refine hNO ?_; clear hNO
  exact h2 pins s1 σ' H' D I' q
 | ret v => exact q
 | brk => exact q
 | cont => exact q
theorem pss_one (h1:PS X st t):PSs X [st] t:=by
 intro pins s σ H D I h
 refine wpAny_execs_cons (thn (h1 pins s σ H D I h) fun f s1 q => ?_)
 cases f with
 | next => exact wpAny_execs_nil q
 | ret v => exact q
 | brk => exact q
 | cont => exact q
theorem Inv.quiet {pins:List (Addr × Obj)} {σ:St} {H:Hp} {s:Shared} (I:Inv X pins σ H s):interactive X.env = false:=by simp [interactive,I.ok.kind]
noncomputable def tDrop (te:TE):TS:=fun D σ H => te σ H fun _ H1 => D.nx σ H1
theorem ps_expr (he:PE X e te) (hs:swapsWith e none pos.line X.env = pure false:=by rfl):PS X (.Expr e pos) (tDrop te):=by
 intro pins s σ H D I h
 exact wpAny_Expr_any (thn (he pins s σ H _ I h) fun v s1 ⟨x,H1,I1,r1,q1⟩ => ⟨σ,H1,I1,q1⟩) I.quiet hs
noncomputable def tRet (te:TE):TS:=fun D σ H => te σ H D.rt
theorem ps_ret (he:PE X e te):PS X (.Return (some e) pos) (tRet te):=by
 intro pins s σ H D I h
 exact wpAny_Return_some (thn (he pins s σ H _ I h) fun v s1 ⟨x,H1,I1,r1,q1⟩ => ⟨x,σ,H1,I1,r1,q1⟩)
noncomputable def tIfS (c:TT) (t u:TS):TS:=fun D σ H => c σ H fun b H1 => if b = true then t D σ H1 else u D σ H1
theorem ps_if {c:Expr} {a b:List Stmt} {tc:TT} (hc:PT X c tc) (ha:PSs X a t) (hb:PSs X b u):PS X (.If c a b pos) (tIfS tc t u):=by
 intro pins s σ H D I h
 refine wpAny_If (thn (hc pins s σ H _ I h) fun d s1 ⟨H1,I1,q1⟩ => ?_)
 cases d with
 | true => exact ha pins s1 σ H1 D I1 q1
 | false => exact hb pins s1 σ H1 D I1 q1
end
noncomputable abbrev TG:=V → St → Hp → (St → Hp → Prop) → Prop
noncomputable abbrev TGs:=List V → St → Hp → (St → Hp → Prop) → Prop
noncomputable def PG (X:Cx) (target:Expr) (t:TG):Prop :=
 ∀ (pins:List (Addr × Obj)) (s:Shared) (σ:St) (H:Hp) (v:V) (u:Value) (Q:St → Hp → Prop),Inv X pins σ H s → RelV v u → t v σ H Q →
  wpAny (model X.prog X.w) X.A (assign target X.env u) (fun _ s' => ∃ σ' H',Inv X pins σ' H' s' ∧ Q σ' H') X.xe s
noncomputable def PGs (X:Cx) (ts:List Expr) (t:TGs):Prop :=
 ∀ (pins:List (Addr × Obj)) (s:Shared) (σ:St) (H:Hp) (vs:List V) (us:List Value) (Q:St → Hp → Prop),Inv X pins σ H s → Vals vs us → t vs σ H Q →
  wpAny (model X.prog X.w) X.A (assignInOrder ((assignEach ts X.env).map (·.2)) us) (fun _ s' => ∃ σ' H',Inv X pins σ' H' s' ∧ Q σ' H') X.xe s
noncomputable abbrev TSet:=V → V → V → Hp → (Hp → Prop) → Prop
noncomputable def PSet (X:Cx) (t:TSet):Prop :=
 ∀ (pins:List (Addr × Obj)) (s:Shared) (σ:St) (H:Hp) (o i v:V) (ov iv u:Value) (Q:Hp → Prop),Inv X pins σ H s → RelV o ov → RelV i iv → RelV v u → t o i v H Q →
  wpAny (model X.prog X.w) X.A (setItem ov iv u) (fun _ s' => ∃ H',Inv X pins σ H' s' ∧ Q H') X.xe s
noncomputable abbrev TIp:=V → V → Hp → VK → Prop
noncomputable def PIp (X:Cx) (op:Operator) (t:TIp):Prop :=
 ∀ (pins:List (Addr × Obj)) (s:Shared) (σ:St) (H:Hp) (x y:V) (v u:Value) (Q:VK),Inv X pins σ H s → RelV x v → RelV y u → t x y H Q →
  wpAny (model X.prog X.w) X.A (inplaceOp op v u) (EP X pins σ Q) X.xe s
section
variable {X:Cx} {pos:Pos}
noncomputable def gName (i:Nat):TG:=fun v σ H Q => Q (σ.set i (some v)) H
theorem pg_name {i:Nat} {x:Str} (hN:X.N.Nodup) (hi:X.N[i]? = some x) (hx:Loc X.env.scope x) (hf:X.fn x = true ∨ X.env.scope.names.lookup x = some .local:=by first | exact .inl rfl | exact .inr rfl | assumption):PG X (.Name x pos) (gName i):=by
 intro pins s σ H v u Q I r h
 exact wpAny_assign_Name (store_ok I hN hi hx r (fun s' I' => ⟨_,H,I',h⟩) hf)
noncomputable def gNil:TGs:=fun vs σ H Q => vs = [] ∧ Q σ H
noncomputable def gCons (t:TG) (u:TGs):TGs:=fun vs σ H Q => ∃ v r,vs = v :: r ∧ t v σ H fun σ' H' => u r σ' H' Q
theorem pgs_nil:PGs X [] gNil:=by
 intro pins s σ H vs us Q I r h
 refine bcn fun hNO => ?_
 obtain ⟨e,h⟩:=h
 subst e
 cases r
 refine hNO ?_; clear hNO
 exact assignInOrder_nil ⟨σ,H,I,h⟩
theorem pgs_cons {e:Expr} {es:List Expr} {t:TG} {u:TGs} (h1:PG X e t) (h2:PGs X es u)
  (hs:(assignEach (e :: es) X.env).map (·.2) = assign e X.env :: (assignEach es X.env).map (·.2):=by rfl):PGs X (e :: es) (gCons t u):=by
 intro pins s σ H vs us Q I r h
 refine bcn fun hNO => ?_
 obtain ⟨v,vr,e1,h⟩:=h
 subst e1
 refine hNO ?_; clear hNO
 cases r with
 | cons r rr =>
  rw [hs]
  refine assignInOrder_cons (thn (h1 pins s σ H _ _ _ I r h) fun _ s1 ⟨σ1,H1,I1,q1⟩ => ?_)
  exact h2 pins s1 σ1 H1 _ _ Q I1 rr q1
noncomputable def gTup (K:PySem.W.Frag) (n:Nat) (t:TGs):TG:=fun v σ H Q => ∃ a xs,v = .ref a ∧ SqT K H a xs ∧ xs.length = n ∧ t xs σ H Q
theorem pg_tup {es:List Expr} {k:Nat} {t:TGs} {n:Nat} (hc:X.calm = true) (h:PGs X es t)
  (hn:(assignEach es X.env).length = n:=by rfl) (hst:(assignEach es X.env).findIdx? (·.1) = none:=by rfl):PG X (.Tuple es k pos) (gTup X.K n t):=by
 intro pins s σ H v u Q I r hw
 refine bcn fun hNO => ?_
 obtain ⟨a,xs,e1,hq,hl,hw⟩:=hw
 subst e1
 cases r
 obtain ⟨its,rv,ht,hz⟩:=I.tuple hq
 refine hNO ?_; clear hNO
 refine assign_Tuple_tuple (I.ok.hd hc) ht (by simp [hn,← hl,rv.length]) hst fun h' hx => ?_
 have I1:Inv X pins σ H { s with heap:=h' }:=I.kept (t':=s.toks) fun b o e => hx b o (Nat.ne_of_lt (Heap.lt_size e)) e
 exact h pins _ σ H xs _ Q I1 (by simpa using rv) hw
noncomputable def gSub (to ti:TE) (t:TSet):TG:=fun v σ H Q => to σ H fun o H1 => ti σ H1 fun i H2 => t o i v H2 fun H3 => Q σ H3
theorem pg_sub {o i:Expr} {to ti:TE} {t:TSet} (ho:PE X o to) (hi:PE X i ti) (hs:PSet X t)
  (ha:∀ v,assign (.Subscript o i pos) X.env v = (do
   let ov ← holding [v] (eval o X.env)
   let iv ← holding [v,ov] (eval i X.env)
   standAt pos
   holding [v,ov,iv] (setItem ov iv v)
   release [v,ov,iv] []):=by intro _; rfl):PG X (.Subscript o i pos) (gSub to ti t):=by
 intro pins s σ H v u Q I r h
 rw [ha]
 refine wpAny_bind (wpAny_holding (thn (ho pins s σ H _ I h) fun ov s1 ⟨x,H1,I1,r1,q1⟩ => ?_))
 refine wpAny_bind (wpAny_holding (thn (hi pins s1 σ H1 _ I1 q1) fun iv s2 ⟨y,H2,I2,r2,q2⟩ => ?_))
 refine wpAny_bind (wpAny_standAt (wpAny_bind (wpAny_holding (thn (hs pins s2 σ H2 x y v ov iv u _ I2 r1 r2 r q2) fun _ s3 ⟨H3,I3,q3⟩ => ?_))))
 exact wpAny_release ⟨σ,H3,I3,q3⟩
noncomputable def tAsg (te:TE) (g:TG):TS:=fun D σ H => te σ H fun x H1 => g x σ H1 D.nx
theorem ps_asg {tg e:Expr} {te:TE} {g:TG} (he:PE X e te) (hg:PG X tg g) (hs:swapsWithSole [tg] e pos.line X.env = pure false:=by rfl) (hw:swappedStores [tg] e X.env = pure none:=by rfl)
  (h1:(assignEach [tg] X.env).map (·.2) = [assign tg X.env]:=by rfl):PS X (.Assign [tg] e pos) (tAsg te g):=by
 intro pins s σ H D I h
 refine wpAny_Assign_stores (thn (he pins s σ H _ I h) fun v s1 ⟨x,H1,I1,r1,q1⟩ => ?_) hs hw
 rw [h1]
 exact thn (hg pins s1 σ H1 x v _ I1 r1 q1) fun _ s2 q => q
theorem ps_set {i:Nat} {x:Str} {e:Expr} {te:TE} {pos':Pos} (hN:X.N.Nodup) (hi:X.N[i]? = some x) (hx:Loc X.env.scope x) (he:PE X e te) (hs:swapsWith e (some (.Name x pos')) pos.line X.env = pure false:=by rfl) (hf:X.fn x = true ∨ X.env.scope.names.lookup x = some .local:=by first | exact .inl rfl | exact .inr rfl | assumption) :
  PS X (.Assign [.Name x pos'] e pos) (tAsg te (gName i)):=by
 intro pins s σ H D I h
 refine wpAny_Assign_Name (thn (he pins s σ H _ I h) fun v s1 ⟨y,H1,I1,r1,q1⟩ => ?_) hs
 exact store_ok I1 hN hi hx r1 (fun s2 I2 => ⟨_,H1,I2,q1⟩) hf
noncomputable def tAugS (to ti te:TE) (tget:V → V → Hp → VK → Prop) (tip:TIp) (tset:TSet):TS:=fun D σ H => to σ H fun o H1 => ti σ H1 fun i H2 => tget o i H2 fun x H3 => te σ H3 fun y H4 => tip x y H4 fun z H5 => tset o i z H5 fun H6 => D.nx σ H6
noncomputable def PGet (X:Cx) (t:V → V → Hp → VK → Prop):Prop :=
 ∀ (pins:List (Addr × Obj)) (s:Shared) (σ:St) (H:Hp) (o i:V) (ov iv:Value) (Q:VK),Inv X pins σ H s → RelV o ov → RelV i iv → t o i H Q →
  wpAny (model X.prog X.w) X.A (getItem ov iv) (EP X pins σ Q) X.xe s
theorem ps_augS {o i e:Expr} {to ti te:TE} {tget:V → V → Hp → VK → Prop} {tip:TIp} {tset:TSet} {op:Operator} {tpos:Pos} (ho:PE X o to) (hi:PE X i ti) (hg:PGet X tget) (he:PE X e te) (hp:PIp X op tip) (hs:PSet X tset)
  (ha:∀ ov iv new,augStore i ov iv new = (do holding [new,ov,iv] (setItem ov iv new); release [new,ov,iv] []; pure .next):=by intros; rfl):PS X (.AugAssign (.Subscript o i tpos) op e pos) (tAugS to ti te tget tip tset):=by
 intro pins s σ H D I h
 refine wpAny_AugAssign_SubscriptAny (thn (ho pins s σ H _ I h) fun ov s1 ⟨x1,H1,I1,r1,q1⟩ => ?_) ha
 refine thn (hi pins s1 σ H1 _ I1 q1) fun iv s2 ⟨x2,H2,I2,r2,q2⟩ => ?_
 refine thn (hg pins s2 σ H2 x1 x2 ov iv _ I2 r1 r2 q2) fun old s3 ⟨x3,H3,I3,r3,q3⟩ => ?_
 refine thn (he pins s3 σ H3 _ I3 q3) fun v s4 ⟨x4,H4,I4,r4,q4⟩ => ?_
 refine thn (hp pins s4 σ H4 x3 x4 old v _ I4 r3 r4 q4) fun new s5 ⟨x5,H5,I5,r5,q5⟩ => ?_
 exact thn (hs pins s5 σ H5 x1 x2 x5 ov iv new _ I5 r1 r2 r5 q5) fun _ s6 ⟨H6,I6,q6⟩ => ⟨σ,H6,I6,q6⟩
end
section
variable {X:Cx} {pos:Pos}
noncomputable def tWhile (c:TT) (tb:TS):TS:=fun D σ H => ∃ W:Nat → St → Hp → Prop,(∃ m,W m σ H) ∧ ∀ m σ H,W m σ H →
 c σ H fun b H1 => if b = true then ∃ N:St → Hp → Prop,(∀ σ' H',N σ' H' → ∃ m',m' < m ∧ W m' σ' H') ∧ tb { D with nx:=N,ct:=N,bk:=D.nx } σ H1 else D.nx σ H1
theorem ps_while {c:Expr} {body:List Stmt} {tc:TT} {tb:TS} (hp:PassesOwn (model X.prog X.w) X.A X.env X.xe) (hc:PT X c tc) (hb:PSs X body tb):PS X (.While c body [] pos) (tWhile tc tb):=by
 intro pins s σ H D I h
 refine bcn fun hNO => ?_
 obtain ⟨W,⟨m0,w0⟩,turn⟩:=h
 refine hNO ?_; clear hNO
 refine wpAny_While (codeAny_whileLoop (fun n s' => ∃ σ' H',Inv X pins σ' H' s' ∧ W n σ' H') ?_ m0 ⟨σ,H,I,w0⟩)
 rintro n s1 ⟨σ1,H1,I1,w1⟩
 refine wpAny_passesOwn hp (thn (hc pins s1 σ1 H1 _ I1 (turn n σ1 H1 w1)) fun b s2 ⟨H2,I2,q2⟩ => ?_)
 cases b with
 | true =>
  refine bcn fun hNO => ?_
  obtain ⟨N,hN,q2⟩:=q2
  refine hNO ?_; clear hNO
  rw [if_pos rfl]
  refine wpAny_passesOwn hp (thn (hb pins s2 σ1 H2 _ I2 q2) fun f s3 q3 => ?_)
  cases f with
  | next =>
   refine bcn fun hNO => ?_
   obtain ⟨σ3,H3,I3,n3⟩:=q3
   obtain ⟨m',hm,w3⟩:=hN σ3 H3 n3
   refine hNO ?_; clear hNO
   exact ⟨m',hm,σ3,H3,I3,w3⟩
  | cont =>
   refine bcn fun hNO => ?_
   obtain ⟨σ3,H3,I3,n3⟩:=q3
   obtain ⟨m',hm,w3⟩:=hN σ3 H3 n3
   refine hNO ?_; clear hNO
   exact ⟨m',hm,σ3,H3,I3,w3⟩
  | brk => exact q3
  | ret v => exact q3
 | false =>
  rw [if_neg Bool.false_ne_true]
  exact wpAny_execs_nil ⟨σ1,H2,I2,q2⟩
end
structure It where
 go:Nat → Hp → Prop
 yld:Nat → Hp → V → Hp → Prop
 stop:Nat → Hp → Prop
noncomputable def FpOk (X:Cx) (pins:List (Addr × Obj)) (H:Hp) (b:Addr):Prop :=
 H b = none ∧ b ≠ X.env.locals ∧ b ∉ X.fs ∧ (b ∈ X.ex ∨ X.s₀.heap.objs.size ≤ b) ∧ (∀ x c,X.env.cells.lookup x = some c → c ≠ b) ∧ ∀ p ∈ X.pn ++ pins,p.1 ≠ b
theorem Inv.fpOk {X:Cx} {pins:List (Addr × Obj)} {σ:St} {H H':Hp} {s:Shared} {b:Addr} (I:Inv X pins σ H s) (hb:s.heap.objs.size ≤ b) (hn:H' b = none):FpOk X pins H' b:=by
 refine ⟨hn,Nat.ne_of_gt (Nat.lt_of_lt_of_le I.lt hb),I.nofs hb,.inr (Nat.le_trans I.sz hb),fun x c e z => ?_,fun p hp z => ?_⟩
 ·obtain ⟨v,q⟩:=I.cell x c e
  exact absurd (Nat.lt_of_lt_of_le q.lt (by rw [z]; exact hb)) (Nat.lt_irrefl _)
 ·exact absurd (Nat.lt_of_lt_of_le (Heap.lt_size (I.pin p hp).1) (by rw [z]; exact hb)) (Nat.lt_irrefl _)
structure Turn (P:Program) (w:World) (K:PySem.W.Frag) (tg:Expr) (J:It) (fp:List Addr) (it:Addr) (tn:Nat → Heap → Prop):Prop where
 mem:it ∈ fp
 obj:∀ i h,tn i h → ∀ b ∈ fp,∃ o,h.get? b = some o ∧ ∀ v,o.data ≠ .cell v
 keep:∀ i h h',tn i h → (∀ b ∈ fp,∀ o,h.get? b = some o → h'.get? b = some o) → tn i h'
 item:∀ (X:Cx),X.prog = P → X.w = w → X.K = K → X.calm = true → ∀ (i:Nat) (pins:List (Addr × Obj)) (s:Shared) (σ:St) (H:Hp) (E:Value → Shared → Prop),Inv X pins σ H s → (∀ b ∈ fp,FpOk X pins H b) → tn i s.heap → J.go i H →
  wpAny (model P w) X.A (pyNext (.ref it)) (fun r s1 => ∃ u,r = some u ∧
   wpAny (model P w) X.A (letOwnedTupleGo tg (.ref it) u) (fun _ s2 => ∃ x H',Inv X pins σ H' s2 ∧ RelV x u ∧ J.yld i H x H' ∧ tn (i + 1) s2.heap ∧ ∀ b ∈ fp,H' b = none) E s1) E s
 done:∀ (X:Cx),X.prog = P → X.w = w → X.K = K → X.calm = true → ∀ (i:Nat) (pins:List (Addr × Obj)) (s:Shared) (σ:St) (H:Hp) (E:Value → Shared → Prop),Inv X pins σ H s → (∀ b ∈ fp,FpOk X pins H b) → tn i s.heap → J.stop i H →
  wpAny (model P w) X.A (pyNext (.ref it)) (fun r s1 => r = none ∧ Inv X pins σ H s1) E s
 self:∀ (A:Around) (i:Nat) (s:Shared) (Q:Value → Shared → Prop) (E:Value → Shared → Prop),tn i s.heap → Q (.ref it) s → wpAny (model P w) A (pyIter (.ref it)) Q E s
noncomputable abbrev TI:=St → Hp → (It → Hp → Prop) → Prop
noncomputable def PIE (X:Cx) (pins:List (Addr × Obj)) (σ:St) (tg:Expr) (R:It → Hp → Prop) (itv:Value) (s2:Shared):Prop :=
 ∃ (it:Addr) (fp:List Addr) (tn:Nat → Heap → Prop) (J:It) (H':Hp),itv = .ref it ∧ Inv X pins σ H' s2 ∧ Turn X.prog X.w X.K tg J fp it tn ∧ tn 0 s2.heap ∧ (∀ b ∈ fp,FpOk X pins H' b) ∧ R J H'
noncomputable def PI (X:Cx) (tg iter:Expr) (wi:TI):Prop :=
 ∀ (pins:List (Addr × Obj)) (s:Shared) (σ:St) (H:Hp) (R:It → Hp → Prop),Inv X pins σ H s → wi σ H R →
  wpAny (model X.prog X.w) X.A (eval iter X.env) (fun v s1 => wpAny (model X.prog X.w) X.A (pyIter v) (PIE X pins σ tg R) X.xe s1) X.xe s
theorem go_of {M:Model} {A:Around} {E:Value → Shared → Prop} {s:Shared} {tg:Expr} {it:Addr} {u:Value} {o:Obj} {n:String} {vs:Array Value} {Q:Unit → Shared → Prop} (ho:s.heap.get? it = some o) (hc:o.cls = .type n) (hd:o.data = .fields vs)
    (hn:["enumerate","zip","dict_itemiterator","dict_reverseitemiterator","odict_iterator","itertools.zip_longest","itertools.pairwise"].contains n = false) (hQ:Q () s):wpAny M A (letOwnedTupleGo tg (.ref it) u) Q E s:=by
  unfold letOwnedTupleGo
  cases tg <;> first
    | exact wpAny_pure hQ
    | (cases u <;> first
        | exact wpAny_pure hQ
        | (refine wpAny_bind (wpAny_load ho ?_)
           rw [hc,hd]
           show wpAny M A (if (["enumerate","zip","dict_itemiterator","dict_reverseitemiterator","odict_iterator","itertools.zip_longest","itertools.pairwise"].contains n && vs[0]? == some (rawInt _)) = true then _ else _) Q E s
           rw [if_neg (by intro h; rw [hn,Bool.false_and] at h; cases h)]
           exact wpAny_pure hQ))
noncomputable def Itl (K:PySem.W.Frag) (a:Addr):It :=
 ⟨fun i H => ∃ xs x,SqL K H a xs ∧ xs[i]? = some x,fun i H x H' => H' = H ∧ ∀ xs,SqL K H a xs → xs[i]? = some x,fun i H => ∃ xs,SqL K H a xs ∧ xs.length ≤ i⟩
noncomputable def Itt (K:PySem.W.Frag) (a:Addr):It :=
 ⟨fun i H => ∃ xs x,SqT K H a xs ∧ xs[i]? = some x,fun i H x H' => H' = H ∧ ∀ xs,SqT K H a xs → xs[i]? = some x,fun i H => ∃ xs,SqT K H a xs ∧ xs.length ≤ i⟩
noncomputable def Itr (lo:Int) (n:Nat):It:=⟨fun i _ => i < n,fun i H x H' => H' = H ∧ x = .int (lo + i),fun i _ => n ≤ i⟩
theorem turn_list {P:Program} {w:World} {K:PySem.W.Frag} {tg:Expr} (a it:Addr):Turn P w K tg (Itl K a) [it] it (fun i h => h.IsListIter it a i) where
 mem:=by simp
 obj:=fun i h st b hb => by
  refine bcn fun hNO => ?_
  have e:b = it:=by simpa using hb
  subst e
  obtain ⟨o,e,c,d⟩:=st
  refine hNO ?_; clear hNO
  exact ⟨o,e,fun v z => by rw [d] at z; cases z⟩
 keep:=fun i h h' st k => st.at fun o e => k it (by simp) o e
 item:=by
  intro X hP hw hK hc i pins s σ H E I hf st hg
  refine bcn fun hNO => ?_
  subst hP hw hK
  obtain ⟨xs,x,hq,hx⟩:=hg
  obtain ⟨its,rv,p,hz⟩:=I.list hq
  obtain ⟨u,hu,ru⟩:=rv.get hx
  obtain ⟨f0,f1,f2,f3,f4,f5⟩:=hf it (by simp)
  refine hNO ?_; clear hNO
  refine wpAny_pyNext_list_item st p.isList (x:=u) (by simpa using hu) fun h' st' sb => ?_
  refine bcn fun hNO => ?_
  have I1:Inv X pins σ H { s with heap:=h' }:=I.turned (t':=s.toks) (fun b o hb e => (sb.2 b hb).trans e) f0 f1 f3 f4 f5
  obtain ⟨o,e,c,d⟩:=id st'
  refine hNO ?_; clear hNO
  exact ⟨u,rfl,go_of (s:={ s with heap:=h' }) e c d (by decide) ⟨x,H,I1,ru,⟨rfl,fun ys hy => by rw [I.list_inj hy hq]; exact hx⟩,st',fun b hb => (hf b hb).1⟩⟩
 done:=by
  intro X hP hw hK hc i pins s σ H E I hf st hg
  refine bcn fun hNO => ?_
  subst hP hw hK
  obtain ⟨xs,hq,hx⟩:=hg
  obtain ⟨its,rv,p,hz⟩:=I.list hq
  obtain ⟨f0,f1,f2,f3,f4,f5⟩:=hf it (by simp)
  have hl:=rv.length
  refine hNO ?_; clear hNO
  exact wpAny_pyNext_list_end (I.ok.hd hc) st p.isList (by simp; lia) fun h' eb => ⟨rfl,I.turned (t':=s.toks) (fun b o hb e => eb b o hb e) f0 f1 f3 f4 f5⟩
 self:=fun _ _ _ _ _ st h => wpAny_pyIter_listiter st h
theorem turn_tuple {P:Program} {w:World} {K:PySem.W.Frag} {tg:Expr} (a it:Addr):Turn P w K tg (Itt K a) [it] it (fun i h => h.IsTupleIter it a i) where
 mem:=by simp
 obj:=fun i h st b hb => by
  refine bcn fun hNO => ?_
  have e:b = it:=by simpa using hb
  subst e
  obtain ⟨o,e,c,d⟩:=st
  refine hNO ?_; clear hNO
  exact ⟨o,e,fun v z => by rw [d] at z; cases z⟩
 keep:=fun i h h' st k => st.at fun o e => k it (by simp) o e
 item:=by
  intro X hP hw hK hc i pins s σ H E I hf st hg
  refine bcn fun hNO => ?_
  subst hP hw hK
  obtain ⟨xs,x,hq,hx⟩:=hg
  obtain ⟨its,rv,p,hz⟩:=I.tuple hq
  obtain ⟨u,hu,ru⟩:=rv.get hx
  obtain ⟨f0,f1,f2,f3,f4,f5⟩:=hf it (by simp)
  refine hNO ?_; clear hNO
  refine wpAny_pyNext_tuple_item st (show s.heap.IsTuple a its.toArray from p) (x:=u) (by simpa using hu) fun h' st' sb => ?_
  refine bcn fun hNO => ?_
  have I1:Inv X pins σ H { s with heap:=h' }:=I.turned (t':=s.toks) (fun b o hb e => (sb.2 b hb).trans e) f0 f1 f3 f4 f5
  obtain ⟨o,e,c,d⟩:=id st'
  refine hNO ?_; clear hNO
  exact ⟨u,rfl,go_of (s:={ s with heap:=h' }) e c d (by decide) ⟨x,H,I1,ru,⟨rfl,fun ys hy => by rw [I.tuple_inj hy hq]; exact hx⟩,st',fun b hb => (hf b hb).1⟩⟩
 done:=by
  intro X hP hw hK hc i pins s σ H E I hf st hg
  refine bcn fun hNO => ?_
  subst hP hw hK
  obtain ⟨xs,hq,hx⟩:=hg
  obtain ⟨its,rv,p,hz⟩:=I.tuple hq
  obtain ⟨f0,f1,f2,f3,f4,f5⟩:=hf it (by simp)
  have hl:=rv.length
  refine hNO ?_; clear hNO
  exact wpAny_pyNext_tuple_end (I.ok.hd hc) st (show s.heap.IsTuple a its.toArray from p) (by simp; lia) fun h' eb => ⟨rfl,I.turned (t':=s.toks) (fun b o hb e => eb b o hb e) f0 f1 f3 f4 f5⟩
 self:=fun _ _ _ _ _ st h => wpAny_pyIter_tupleiter st h
theorem turn_range {P:Program} {w:World} {K:PySem.W.Frag} {tg:Expr} (it:Addr) (lo:Int) (n:Nat):Turn P w K tg (Itr lo n) [it] it (fun i h => IsRangeIter h it (lo + (i:Nat) * 1) ((n:Int) - (i:Nat)) 1) where
 mem:=by simp
 obj:=fun i h st b hb => by
  have e:b = it:=by simpa using hb
  subst e
  exact ⟨_,st,fun v z => by
   have z':Data.fields _ = Data.cell v:=z
   cases z'⟩
 keep:=fun i h h' st k => k it (by simp) _ st
 item:=by
  intro X hP hw hK hc i pins s σ H E I hf st hg
  subst hP hw hK
  obtain ⟨f0,f1,f2,f3,f4,f5⟩:=hf it (by simp)
  have W:=Walks.range (prog:=X.prog) (w:=X.w) (I.ok.hd hc) it lo 1 n
  refine W.item i s _ _ hg st fun v h' tk hv st' kk => ?_
  obtain ⟨t,rfl⟩:=hv
  have I1:Inv X pins σ H { s with heap:=h',toks:=tk }:=I.turned (fun b o hb e => kk b o (by simpa using hb) e) f0 f1 f3 f4 f5
  refine ⟨_,rfl,go_of (s:={ s with heap:=h',toks:=tk }) (n:="range_iterator") st' rfl rfl (by decide) ⟨.int (lo + i),H,I1,⟨t,?_⟩,⟨rfl,rfl⟩,st',fun b hb => (hf b hb).1⟩⟩
  rw [Int.mul_one]
 done:=by
  intro X hP hw hK hc i pins s σ H E I hf st hg
  subst hP hw hK
  obtain ⟨f0,f1,f2,f3,f4,f5⟩:=hf it (by simp)
  exact wpAny_pyNext_range_end (I.ok.hd hc) st (by have:n ≤ i:=hg; lia) fun h' eb => ⟨rfl,I.turned (t':=s.toks) (fun b o hb e => eb b o hb e) f0 f1 f3 f4 f5⟩
 self:=fun _ _ _ _ _ st h => wpAny_pyIter_rangeiter st h
end L2
namespace L2
open PySem PySem.Spec PyProof.Rows
section
variable {X:Cx} {tg:Expr}
theorem range_it {pins:List (Addr × Obj)} {σ:St} {H:Hp} {s:Shared} {R:It → Hp → Prop} {E:Value → Shared → Prop} {lo hi:Int} {t u v:Tok} {tk:Nat} (I:Inv X pins σ H s) (h1:-(2 ^ 62) ≤ lo) (h2:lo < 2 ^ 62) (h3:-(2 ^ 62) ≤ hi) (h4:hi < 2 ^ 62)
  (q:R (Itr lo (hi - lo).toNat) H):wpAny (model X.prog X.w) X.A (pyIter (.ref s.heap.objs.size)) (PIE X pins σ tg R) E { s with heap:=s.heap.push { cls:=.type "range",data:=.fields #[.int lo t,.int hi u,.int 1 v] },toks:=tk }:=by
 refine wpAny_pyIter_range (IsRange.new ..) (small_one h1 h2 h3 h4) ?_
 have I1:Inv X pins σ H { s with heap:=s.heap.push { cls:=.type "range",data:=.fields #[.int lo t,.int hi u,.int 1 v] },toks:=tk }:=I.kept fun b o e => Heap.get?_push_of_some _ e
 refine ⟨(s.heap.push { cls:=.type "range",data:=.fields #[.int lo t,.int hi u,.int 1 v] }).objs.size,[(s.heap.push { cls:=.type "range",data:=.fields #[.int lo t,.int hi u,.int 1 v] }).objs.size],_,_,H,rfl,
  I1.kept (t':=tk) fun b o e => Heap.get?_push_of_some _ e,turn_range _ lo (hi - lo).toNat,?_,fun b hb => ?_,q⟩
 ·have e1:lo + ((0:Nat):Int) * 1 = lo:=by simp
  have e2:(((hi - lo).toNat:Nat):Int) - ((0:Nat):Int) = Builtin.Range.rangeSize lo hi 1:=by rw [rangeSize_one]; split <;> lia
  show IsRangeIter _ _ (lo + ((0:Nat):Int) * 1) ((((hi - lo).toNat:Nat):Int) - ((0:Nat):Int)) 1
  rw [e1,e2]
  exact Heap.get?_push_size _ rfl
 ·have e:b = (s.heap.push { cls:=.type "range",data:=.fields #[.int lo t,.int hi u,.int 1 v] }).objs.size:=by simpa using hb
  subst e
  exact I1.fpOk (Nat.le_refl _) (I1.hok.fresh (Nat.le_refl _))
noncomputable def iRng1 (ta:TA):TI:=fun σ H R => ta σ H fun vs H1 => ∃ j:Int,vs = [.int j] ∧ -(2 ^ 62) ≤ j ∧ j < 2 ^ 62 ∧ R (Itr 0 j.toNat) H1
noncomputable def iRng2 (ta:TA):TI:=fun σ H R => ta σ H fun vs H1 => ∃ i j:Int,vs = [.int i,.int j] ∧ (-(2 ^ 62) ≤ i ∧ i < 2 ^ 62 ∧ -(2 ^ 62) ≤ j ∧ j < 2 ^ 62) ∧ R (Itr i (j - i).toNat) H1
theorem pi_range1 {a:Expr} {ta:TA} {p pos:Pos} (hg:Gl X "range") (hm:X.mg "range" = none) (ha:PA X [a] ta) (hs:starEach [a] X.env = [(false,eval a X.env)]:=by rfl):PI X tg (.Call (.Name "range" p) [a] [] pos) (iRng1 ta):=by
 intro pins s σ H R I h
 refine Call_ (ld_blt I hg hm boot_range (PyProof.Rows.callWith_type1 (thn (ha pos pins s σ H _ I h) fun us s1 ⟨vs,H1,I1,r1,q1⟩ => ?_) hs rfl))
 refine bcn fun hNO => ?_
 obtain ⟨j,e,q1,q2,q⟩:=q1
 subst e
 refine hNO ?_; clear hNO
 cases r1 with
 | cons r rr =>
  refine bcn fun hNO => ?_
  cases rr
  obtain ⟨t,rfl⟩:=r
  refine hNO ?_; clear hNO
  exact call_range_1 (range_it I1 (by lia) (by lia) q1 q2 (by simpa using q))
theorem pi_range2 {a b:Expr} {ta:TA} {p pos:Pos} (hg:Gl X "range") (hm:X.mg "range" = none) (ha:PA X [a,b] ta) (hs:starEach [a,b] X.env = [(false,eval a X.env),(false,eval b X.env)]:=by rfl) (hs2:starEach [b] X.env = [(false,eval b X.env)]:=by rfl) :
  PI X tg (.Call (.Name "range" p) [a,b] [] pos) (iRng2 ta):=by
 intro pins s σ H R I h
 refine Call_ (ld_blt I hg hm boot_range (PyProof.Rows.callWith_type1 (thn (ha pos pins s σ H _ I h) fun us s1 ⟨vs,H1,I1,r1,q1⟩ => ?_) (by rw [hs,hs2]) (by rw [hs2]; rfl)))
 refine bcn fun hNO => ?_
 obtain ⟨i,j,e,⟨q1,q2,q3,q4⟩,q⟩:=q1
 subst e
 refine hNO ?_; clear hNO
 cases r1 with
 | cons r rr =>
  cases rr with
  | cons r' rr =>
   refine bcn fun hNO => ?_
   cases rr
   obtain ⟨t,rfl⟩:=r
   obtain ⟨t',rfl⟩:=r'
   refine hNO ?_; clear hNO
   exact call_range_2 (range_it I1 q1 q2 q3 q4 q)
noncomputable def tFor (wi:TI) (g:TG) (tb:TS):TS:=fun D σ H => wi σ H fun J H1 => ∃ W:Nat → Nat → St → Hp → Prop,(∃ m,W 0 m σ H1) ∧ ∀ i m σ H,W i m σ H →
 (J.stop i H ∧ D.nx σ H) ∨ (J.go i H ∧ ∃ N:St → Hp → Prop,(∀ σ' H',N σ' H' → ∃ m',m' < m ∧ W (i + 1) m' σ' H') ∧ ∀ x H',J.yld i H x H' → g x σ H' fun σ2 H2 => tb { D with nx:=N,ct:=N,bk:=D.nx } σ2 H2)
noncomputable def pinsAt (fp:List Addr) (h:Heap):List (Addr × Obj):=fp.filterMap fun b => (h.get? b).map fun o => (b,o)
theorem mem_pinsAt {fp:List Addr} {h:Heap} {b:Addr} {o:Obj} (hb:b ∈ fp) (e:h.get? b = some o):(b,o) ∈ pinsAt fp h:=List.mem_filterMap.mpr ⟨b,hb,by rw [e]; rfl⟩
theorem of_pinsAt {fp:List Addr} {h:Heap} {p:Addr × Obj} (hp:p ∈ pinsAt fp h):p.1 ∈ fp ∧ h.get? p.1 = some p.2:=by
 refine bcn fun hNO => ?_
 obtain ⟨b,hb,e⟩:=List.mem_filterMap.mp hp
 refine hNO ?_; clear hNO
 cases q:h.get? b with
 | none => rw [q] at e; cases e
 | some o =>
  rw [q] at e
  have e':(b,o) = p:=Option.some.inj e
  subst e'
  exact ⟨hb,q⟩
theorem Inv.pinned {pins:List (Addr × Obj)} {σ:St} {H:Hp} {s:Shared} {fp:List Addr} (I:Inv X pins σ H s) (hf:∀ b ∈ fp,FpOk X pins H b) (ho:∀ b ∈ fp,∃ o,s.heap.get? b = some o ∧ ∀ v,o.data ≠ .cell v):Inv X (pins ++ pinsAt fp s.heap) σ H s :=
 I.pins_of fun p hp => (List.mem_append.mp hp).elim (fun z => I.pin p (List.mem_append_right _ z)) fun z => by
  refine bcn fun hNO => ?_
  obtain ⟨hb,e⟩:=of_pinsAt z
  obtain ⟨f0,f1,f2,_⟩:=hf p.1 hb
  obtain ⟨o,e',d⟩:=ho p.1 hb
  refine hNO ?_; clear hNO
  rw [e] at e'; cases e'
  exact ⟨e,f0,f1,f2,d⟩
theorem Inv.unpinned {pins pl:List (Addr × Obj)} {σ:St} {H:Hp} {s:Shared} (I:Inv X (pins ++ pl) σ H s):Inv X pins σ H s:=I.pins_of fun p hp => I.pin p (List.mem_append_right _ (List.mem_append_left _ hp))
theorem ps_for {iter:Expr} {body:List Stmt} {wi:TI} {g:TG} {tb:TS} {pos:Pos} (hp:PassesOwn (model X.prog X.w) X.A X.env X.xe) (hc:X.calm = true) (hi:PI X tg iter wi) (hg:PG X tg g) (hb:PSs X body tb)
  (hs:∀ x,foldedSetIterable iter X.env x = pure x:=by intro _; rfl):PS X (.For tg iter body [] pos) (tFor wi g tb):=by
 intro pins s σ H D I h
 refine wpAny_For (thn (hi pins s σ H _ I h) fun v s1 h1 => thn h1 fun itv s2 h2 => ?_) hs
 refine bcn fun hNO => ?_
 obtain ⟨it,fp,tn,J,H2,e,I2,T,st2,f2,W,⟨m0,w0⟩,turn⟩:=h2
 subst e
 refine hNO ?_; clear hNO
 -- what stays true of the iterator's objects through the loop
 have stat:∀ {H':Hp},(∀ b ∈ fp,H' b = none) → ∀ b ∈ fp,FpOk X pins H' b:=fun hn b hb => ⟨hn b hb,(f2 b hb).2⟩
 refine codeAny_forLoop_any (fun n s' => ∃ i σ' H',Inv X pins σ' H' s' ∧ tn i s'.heap ∧ (∀ b ∈ fp,H' b = none) ∧ W i n σ' H') ?_ m0 ⟨0,σ,H2,I2,st2,fun b hb => (f2 b hb).1,w0⟩
 rintro n s3 ⟨i,σ3,H3,I3,st3,fr3,w3⟩
 rcases turn i n σ3 H3 w3 with ⟨stop,qn⟩ | ⟨go,N,hN,step⟩
 ·refine wpAny_passesOwn hp (thn (T.done X rfl rfl rfl hc i pins s3 σ3 H3 X.xe I3 (stat fr3) st3 stop) fun r s4 ⟨hr,I4⟩ => ?_)
  subst hr
  exact wpAny_execs_nil ⟨σ3,H3,I4,qn⟩
 ·refine wpAny_passesOwn hp (thn (T.item X rfl rfl rfl hc i pins s3 σ3 H3 X.xe I3 (stat fr3) st3 go) fun r s4 ⟨u,hr,h4⟩ => ?_)
  subst hr
  refine wpAny_passesOwn hp (thn h4 fun _ s5 ⟨x,H5,I5,r5,y5,st5,fr5⟩ => ?_)
  have I5':=I5.pinned (stat fr5) (T.obj _ _ st5)
  refine wpAny_passesOwn hp (thn (hg _ s5 σ3 H5 x u _ I5' r5 (step x H5 y5)) fun _ s6 ⟨σ6,H6,I6,q6⟩ => ?_)
  refine wpAny_passesOwn hp (thn (hb _ s6 σ6 H6 _ I6 q6) fun f s7 q7 => ?_)
  have again:∀ {σ7:St} {H7:Hp},Inv X (pins ++ pinsAt fp s5.heap) σ7 H7 s7 → N σ7 H7 → ∃ m,m < n ∧ ∃ i σ' H',Inv X pins σ' H' s7 ∧ tn i s7.heap ∧ (∀ b ∈ fp,H' b = none) ∧ W i m σ' H':=fun {σ7 H7} I7 n7 => by
   obtain ⟨m',hm,w7⟩:=hN σ7 H7 n7
   refine ⟨m',hm,i + 1,σ7,H7,I7.unpinned,T.keep _ _ _ st5 fun b hb o e => (I7.pin (b,o) (List.mem_append_right _ (List.mem_append_right _ (mem_pinsAt hb e)))).1,fun b hb => ?_,w7⟩
   obtain ⟨o,e,d⟩:=T.obj _ _ st5 b hb
   exact (I7.pin (b,o) (List.mem_append_right _ (List.mem_append_right _ (mem_pinsAt hb e)))).2.1
  cases f with
  | next => obtain ⟨σ7,H7,I7,n7⟩:=q7; exact again I7 n7
  | cont => obtain ⟨σ7,H7,I7,n7⟩:=q7; exact again I7 n7
  | brk => obtain ⟨σ7,H7,I7,q7⟩:=q7; exact ⟨σ7,H7,I7.unpinned,q7⟩
  | ret v => obtain ⟨x7,σ7,H7,I7,r7,q7⟩:=q7; exact ⟨x7,σ7,H7,I7.unpinned,r7,q7⟩
end
end L2
namespace L2
open PySem PySem.Spec PyProof.Rows
noncomputable abbrev R2:=V → V → Hp → VK → Prop
noncomputable def OpR (X:Cx) (f:Value → Value → Sem Value) (r:R2):Prop :=
 ∀ (pins:List (Addr × Obj)) (s:Shared) (σ:St) (H:Hp) (x y:V) (v u:Value) (Q:VK),Inv X pins σ H s → RelV x v → RelV y u → r x y H Q →
  wpAny (model X.prog X.w) X.A (f v u) (EP X pins σ Q) X.xe s
noncomputable def UnR (X:Cx) (f:Value → Sem Value) (r:V → Hp → VK → Prop):Prop :=
 ∀ (pins:List (Addr × Obj)) (s:Shared) (σ:St) (H:Hp) (x:V) (v:Value) (Q:VK),Inv X pins σ H s → RelV x v → r x H Q →
  wpAny (model X.prog X.w) X.A (f v) (EP X pins σ Q) X.xe s
noncomputable def CallR (X:Cx) (f:Value) (r:List V → Hp → VK → Prop):Prop :=
 ∀ (pins:List (Addr × Obj)) (s:Shared) (σ:St) (H:Hp) (xs:List V) (us:List Value) (Q:VK),Inv X pins σ H s → Vals xs us → r xs H Q →
  wpAny (model X.prog X.w) X.A (call f us) (EP X pins σ Q) X.xe s
noncomputable def tOp (r:R2) (ta tb:TE):TE:=fun σ H Q => ta σ H fun x H1 => tb σ H1 fun y H2 => r x y H2 Q
noncomputable def tUn (r:V → Hp → VK → Prop) (ta:TE):TE:=fun σ H Q => ta σ H fun x H1 => r x H1 Q
noncomputable def rI (C:Int → Int → Prop) (g:Int → Int → V):R2:=fun x y H Q => ∃ i j,x = .int i ∧ y = .int j ∧ C i j ∧ Q (g i j) H
noncomputable def rI0 (g:Int → Int → V):R2:=fun x y H Q => ∃ i j,x = .int i ∧ y = .int j ∧ Q (g i j) H
noncomputable def rU (g:Int → V):V → Hp → VK → Prop:=fun x H Q => ∃ i,x = .int i ∧ Q (g i) H
section
variable {X:Cx} {a b c:Expr} {ta tb tc:TE} {pos:Pos}
theorem binT (ha:PE X a ta) (hb:PE X b tb) {pins:List (Addr × Obj)} {s:Shared} {σ:St} {H:Hp} {R:V → V → Hp → Prop} (I:Inv X pins σ H s)
  (h:ta σ H fun x H1 => tb σ H1 fun y H2 => R x y H2) {Q:Value → Shared → Prop} {f:Value → Value → Sem Value}
  (hf:∀ v u s2 x y H2,Inv X pins σ H2 s2 → RelV x v → RelV y u → R x y H2 → wpAny (model X.prog X.w) X.A (f v u) Q X.xe s2) :
  wpAny (model X.prog X.w) X.A (eval a X.env) (fun v s₁ => wpAny (model X.prog X.w) X.A (eval b X.env) (fun u s₂ => wpAny (model X.prog X.w) X.A (f v u) Q X.xe s₂) X.xe s₁) X.xe s:=by
 refine thn (ha pins s σ H _ I h) fun v s1 ⟨x,H1,I1,r1,q1⟩ => ?_
 refine thn (hb pins s1 σ H1 _ I1 q1) fun u s2 ⟨y,H2,I2,r2,q2⟩ => ?_
 exact hf v u s2 x y H2 I2 r1 r2 q2
theorem pe_op {op:Operator} {r:R2} (ho:OpR X (binaryOp op) r) (ha:PE X a ta) (hb:PE X b tb):PE X (.BinOp a op b pos) (tOp r ta tb):=by
 intro pins s σ H Q I h
 exact wpAny_BinOp (binT ha hb I h fun v u s2 x y H2 I2 rx ry q => ho pins s2 σ H2 x y v u Q I2 rx ry q)
theorem pe_un {op:UnaryOp} {r:V → Hp → VK → Prop} (ho:UnR X (unaryOp op) r) (ha:PE X a ta):PE X (.UnaryOp op a pos) (tUn r ta):=by
 intro pins s σ H Q I h
 exact UnaryOp_ (thn (ha pins s σ H _ I h) fun v s1 ⟨x,H1,I1,r1,q1⟩ => ho pins s1 σ H1 x v Q I1 r1 q1)
theorem opI {f:Value → Value → Sem Value} {C:Int → Int → Prop} {g:Int → Int → Int}
  (rule:∀ (i j:Int) (t u:Tok) (s:Shared) (Q:Value → Shared → Prop) (E:Value → Shared → Prop),C i j → Q (.int (g i j) s.toks) { s with toks:=s.toks + 1 } → wpAny (model X.prog X.w) X.A (f (.int i t) (.int j u)) Q E s) :
  OpR X f (rI C fun i j => .int (g i j)):=by
 intro pins s σ H x y v u Q I rx ry h
 refine bcn fun hNO => ?_
 obtain ⟨i,j,rfl,rfl,hc,q⟩:=h
 obtain ⟨t,rfl⟩:=rx
 obtain ⟨t',rfl⟩:=ry
 refine hNO ?_; clear hNO
 exact rule i j t t' s _ _ hc ⟨.int (g i j),H,I.tok _,⟨_,rfl⟩,q⟩
theorem opI0 {f:Value → Value → Sem Value} {g:Int → Int → Int}
  (rule:∀ (i j:Int) (t u:Tok) (s:Shared) (Q:Value → Shared → Prop) (E:Value → Shared → Prop),Q (.int (g i j) s.toks) { s with toks:=s.toks + 1 } → wpAny (model X.prog X.w) X.A (f (.int i t) (.int j u)) Q E s) :
  OpR X f (rI0 fun i j => .int (g i j)):=by
 intro pins s σ H x y v u Q I rx ry h
 obtain ⟨i,j,rfl,rfl,q⟩:=h
 obtain ⟨t,rfl⟩:=rx
 obtain ⟨t',rfl⟩:=ry
 exact rule i j t t' s _ _ ⟨.int (g i j),H,I.tok _,⟨_,rfl⟩,q⟩
theorem opB0 {f:Value → Value → Sem Value} {g:Int → Int → Bool}
  (rule:∀ (i j:Int) (t u:Tok) (s:Shared) (Q:Value → Shared → Prop) (E:Value → Shared → Prop),Q (.bool (g i j)) s → wpAny (model X.prog X.w) X.A (f (.int i t) (.int j u)) Q E s) :
  OpR X f (rI0 fun i j => .bl (g i j)):=by
 intro pins s σ H x y v u Q I rx ry h
 obtain ⟨i,j,rfl,rfl,q⟩:=h
 obtain ⟨t,rfl⟩:=rx
 obtain ⟨t',rfl⟩:=ry
 exact rule i j t t' s _ _ ⟨.bl (g i j),H,I,rfl,q⟩
noncomputable def CPow (i j:Int):Prop:=0 ≤ j ∧ j ≤ 1000000 ∧ i.natAbs < 2 ^ 64
noncomputable def CMul (i j:Int):Prop:=(-(2 ^ 64) < i ∧ i < 2 ^ 64) ∨ (-(2 ^ 64) < j ∧ j < 2 ^ 64)
theorem CMul.ok {i j:Int} (h:CMul i j):IntMulOk i j:=by
 rcases h with ⟨h1,h2⟩ | ⟨h1,h2⟩
 ·exact .of_left (intBits_le_64 h1 h2)
 ·exact .of_right (intBits_le_64 h1 h2)
theorem op_add:OpR X (binaryOp .Add) (rI0 fun i j => .int (i + j)):=opI0 fun _ _ _ _ _ _ _ q => add_int q
theorem op_sub:OpR X (binaryOp .Sub) (rI0 fun i j => .int (i - j)):=opI0 fun _ _ _ _ _ _ _ q => sub_int q
theorem op_mul:OpR X (binaryOp .Mult) (rI CMul fun i j => .int (i * j)):=opI fun _ _ _ _ _ _ _ hc q => mul_int q hc.ok
theorem op_modN:OpR X (binaryOp .Mod) (rI (fun _ j => j ≠ 0) fun i j => .int (i.fmod j)):=opI fun _ _ _ _ _ _ _ hc q => mod_int' hc q
theorem op_pow:OpR X (binaryOp .Pow) (rI CPow fun i j => .int (i ^ j.toNat)):=opI fun _ _ _ _ _ _ _ hc q => pow_int_small hc.1 hc.2.1 hc.2.2 q
theorem iop_add:OpR X (inplaceOp .Add) (rI0 fun i j => .int (i + j)):=opI0 fun _ _ _ _ _ _ _ q => iadd_int q
theorem iop_sub:OpR X (inplaceOp .Sub) (rI0 fun i j => .int (i - j)):=opI0 fun _ _ _ _ _ _ _ q => isub_int q
theorem unI {f:Value → Sem Value} {g:Int → Int}
  (rule:∀ (i:Int) (t:Tok) (s:Shared) (Q:Value → Shared → Prop) (E:Value → Shared → Prop),Q (.int (g i) s.toks) { s with toks:=s.toks + 1 } → wpAny (model X.prog X.w) X.A (f (.int i t)) Q E s) :
  UnR X f (rU fun i => .int (g i)):=by
 intro pins s σ H x v Q I rx h
 obtain ⟨i,rfl,q⟩:=h
 obtain ⟨t,rfl⟩:=rx
 exact rule i t s _ _ ⟨.int (g i),H,I.tok _,⟨_,rfl⟩,q⟩
theorem un_neg:UnR X (unaryOp .USub) (rU fun i => .int (-i)):=unI fun _ _ _ _ _ q => neg_int q
end
section
variable {X:Cx} {a b c:Expr} {ta tb tc:TE} {pos:Pos}
theorem op_lt:OpR X (compareOp .Lt) (rI0 fun i j => .bl (decide (i < j))):=opB0 fun _ _ _ _ _ _ _ q => lt_int q
theorem op_le:OpR X (compareOp .LtE) (rI0 fun i j => .bl (decide (i ≤ j))):=opB0 fun _ _ _ _ _ _ _ q => le_int q
theorem op_gt:OpR X (compareOp .Gt) (rI0 fun i j => .bl (decide (j < i))):=opB0 fun _ _ _ _ _ _ _ q => gt_int q
theorem OpR.or {f:Value → Value → Sem Value} {r r':R2} (h:OpR X f r) (h':OpR X f r'):OpR X f (fun x y H Q => r x y H Q ∨ r' x y H Q):=by
 intro pins s σ H x y v u Q I rx ry q
 rcases q with q | q
 ·exact h pins s σ H x y v u Q I rx ry q
 ·exact h' pins s σ H x y v u Q I rx ry q
theorem nomark (b:Expr) {op:CmpOp} (h:op ≠ .In:=by decide) (h2:op ≠ .NotIn:=by decide):behindInMarks op b = false:=by
 have e1:(op == CmpOp.In) = false:=by cases op <;> first | rfl | exact absurd rfl h
 have e2:(op == CmpOp.NotIn) = false:=by cases op <;> first | rfl | exact absurd rfl h2
 cases b <;> simp [behindInMarks,e1,e2]
theorem pe_cmpR {op:CmpOp} {r:R2} (ho:OpR X (compareOp op) r) (ha:PE X a ta) (hb:PE X b tb) (hm:behindInMarks op b = false):PE X (.Compare a [op] [b] pos) (tOp r ta tb):=by
 intro pins s σ H Q I h
 exact wpAny_Compare1 (binT ha hb I h fun v u s2 x y H2 I2 rx ry q => ho pins s2 σ H2 x y v u Q I2 rx ry q) hm
noncomputable def tTest (t:TE):TT:=fun σ H Q => t σ H fun x H' => ∃ k,x = .bl k ∧ Q k H'
theorem pt_cmpR {op:CmpOp} {r:R2} (ho:OpR X (compareOp op) r) (ha:PE X a ta) (hb:PE X b tb) (hm:behindInMarks op b = false):PT X (.Compare a [op] [b] pos) (tTest (tOp r ta tb)):=by
 intro pins s σ H Q I h
 refine wpAny_isTrue_Compare1 (thn (ha pins s σ H _ I h) fun v s1 ⟨x,H1,I1,r1,q1⟩ => thn (hb pins s1 σ H1 _ I1 q1) fun u s2 ⟨y,H2,I2,r2,q2⟩ =>
  thn (ho pins s2 σ H2 x y v u _ I2 r1 r2 q2) fun c s3 ⟨z,H3,I3,r3,k,e,q3⟩ => ?_) hm
 subst e
 cases r3
 exact wpAny_truthy_bool ⟨H3,I3,q3⟩
noncomputable def tChain (r r':R2) (ta tb tc:TE):TE:=fun σ H Q => ta σ H fun x H1 => tb σ H1 fun y H2 => r x y H2 fun z H3 => ∃ k,z = .bl k ∧
 (if k = true then tc σ H3 fun w' H4 => r' y w' H4 Q else Q (.bl false) H3)
theorem pt_chain {op op':CmpOp} {r r':R2} (ho:OpR X (compareOp op) r) (ho':OpR X (compareOp op') r') (ha:PE X a ta) (hb:PE X b tb) (hc:PE X c tc)
  (hm:lastMarks [op,op'] [b,c] = false:=by with_unfolding_all rfl):PT X (.Compare a [op,op'] [b,c] pos) (tTest (tChain r r' ta tb tc)):=by
 intro pins s σ H Q I h
 refine isTrue_chain (thn (ha pins s σ H _ I h) fun v s1 ⟨x,H1,I1,r1,q1⟩ => test_link (thn (hb pins s1 σ H1 _ I1 q1) fun u s2 ⟨y,H2,I2,r2,q2⟩ =>
  thn (ho pins s2 σ H2 x y v u _ I2 r1 r2 q2) fun d s3 ⟨z,H3,I3,r3,k,e,q3⟩ => ?_)) hm
 subst e
 cases r3
 refine wpAny_truthy_bool ?_
 cases k with
 | false =>
  refine bcn fun hNO => ?_
  obtain ⟨k',e',q'⟩:=q3
  cases e'
  refine hNO ?_; clear hNO
  exact ite_ff ⟨H3,I3,q'⟩
 | true =>
  refine ite_tt (test_last (thn (hc pins s3 σ H3 _ I3 q3) fun w' s4 ⟨z',H4,I4,r4,q4⟩ => thn (ho' pins s4 σ H4 y z' u w' _ I4 r2 r4 q4) fun d' s5 ⟨z2,H5,I5,r5,k2,e2,q5⟩ => ?_))
  subst e2
  cases r5
  exact wpAny_truthy_bool ⟨H5,I5,q5⟩
theorem line63:(sizeLine:Nat) < 2 ^ 63:=by rw [sizeLine_eq]; decide
theorem op_add_str:OpR X (binaryOp .Add) (fun x y H Q => ∃ i j,x = .str i ∧ y = .str j ∧ i.length + j.length ≤ sizeLine ∧ Q (.str (i ++ j)) H):=by
 intro pins s σ H x y v u Q I rx ry h
 refine bcn fun hNO => ?_
 obtain ⟨i,j,rfl,rfl,hz,q⟩:=h
 obtain ⟨t,rfl⟩:=rx
 obtain ⟨t',rfl⟩:=ry
 refine hNO ?_; clear hNO
 exact add_str (fun t' tk => ⟨.str (i ++ j),H,I.tok _,⟨_,rfl⟩,q⟩) hz
theorem vals1 {x:V} {us:List Value} (r:Vals [x] us):∃ u,us = [u] ∧ RelV x u:=by
 cases r with
 | cons r1 r2 => cases r2; exact ⟨_,rfl,r1⟩
theorem vals2 {x y:V} {us:List Value} (r:Vals [x,y] us):∃ u w',us = [u,w'] ∧ RelV x u ∧ RelV y w':=by
 cases r with
 | cons r1 r2 =>
  cases r2 with
  | cons r3 r4 => cases r4; exact ⟨_,_,rfl,r1,r3⟩
theorem call_abs:CallR X (.builtin "abs") (fun xs H Q => ∃ i,xs = [.int i] ∧ Q (.int (if i < 0 then -i else i)) H):=by
 intro pins s σ H xs us Q I r h
 obtain ⟨i,rfl,q⟩:=h
 obtain ⟨u,rfl,t,rfl⟩:=vals1 r
 exact call_abs_int fun u tk => ⟨.int (if i < 0 then -i else i),H,I.tok _,⟨_,rfl⟩,q⟩
end
end L2
namespace L2
open PySem PySem.Spec PyProof.Rows
structure ObjM (h:Heap) (x dx C:Addr) (mA:Str → Option Value):Prop where
 obj:h.get? x = some (PySem.W.instObj C dx)
 ns:h.Ns1 dx mA
 ne:dx ≠ x
theorem lookIn_ns {h:Heap} {dx:Addr} {mA:Str → Option Value} (n:h.Ns1 dx mA):∃ od,h.get? dx = some od ∧ ∀ name,PySem.W.lookIn name od = some (mA name):=by
 refine bcn fun hNO => ?_
 obtain ⟨o,es,ep,ho,hd,hk,_,hm⟩:=n
 refine hNO ?_; clear hNO
 refine ⟨o,ho,fun name => ?_⟩
 have e:=hm name
 unfold nsFind findBy at e
 rw [← Array.find?_toList] at e
 unfold PySem.W.lookIn
 rw [hd]
 dsimp only
 split
 ·rename_i y q
  rw [q] at e
  exact congrArg some e
 ·rename_i q
  rw [q] at e
  have a:es.toList.any (·.refKey) = false:=by
   rw [List.any_eq_false]
   intro y hy
   obtain ⟨z,t,hkey⟩:=hk y (Array.mem_toList_iff.mp hy)
   simp [DictEntry.refKey,hkey]
  have a':¬ es.toList.any (·.refKey) = true:=by rw [a]; exact Bool.false_ne_true
  rw [if_neg a']
  exact congrArg some e
theorem ObjM.look {h:Heap} {x dx C:Addr} {mA:Str → Option Value} (I:ObjM h x dx C mA):∃ od,PySem.W.InstAt h x (PySem.W.instObj C dx) C (some od) ∧ ∀ name,PySem.W.lookIn name od = some (mA name) :=
 let ⟨od,ho,hl⟩:=lookIn_ns I.ns
 ⟨od,⟨I.obj,rfl,rfl,ho⟩,hl⟩
section
variable {prog:Program} {w:World} {A:Around} {E:Value → Shared → Prop} {s:Shared} {K:PySem.W.Frag} {x dx C f:Addr} {mA:Str → Option Value} {name:Str} {v:Value}
end
section
variable {P:Program} {w:World} {H H':Hp} {h h':Heap} {a C dx:Addr} {fs fs':List (Str × V)}
theorem ins_get (hok:HOk P w H h) (e:H a = some (.ins C dx fs)):∃ mA,ObjM h a dx C mA ∧ (∀ f,RelO (fs.lookup f) (mA f)) ∧ PySem.Within mA (fs.map (·.1)) ∧ fs.length ≤ 1000 ∧ H dx = some (.own a):=by
 refine bcn fun hNO => ?_
 obtain ⟨d,z,ne,ob,mA,n,r,q⟩:=(show ObjOk P w H h a (.ins C dx fs) from hok a _ e)
 refine hNO ?_; clear hNO
 exact ⟨mA,⟨ob,n,ne⟩,r,q,z,d⟩
end
structure Cls (K:PySem.W.Frag) (C:Addr):Prop where
 pg:PySem.W.plainGet K C Str.empty = true
 hd:PySem.W.hasDictIn K C = true
 po:PySem.W.plainOver K C = true
 sa:PySem.W.findIn K (.ref C) "__setattr__" = some (some (.builtin "object.__setattr__"))
theorem Cls.get {K:PySem.W.Frag} {C:Addr} (c:Cls K C) (f:Str):PySem.W.plainGet K C f = true:=c.pg
section
variable {X:Cx} {pins:List (Addr × Obj)} {σ:St} {H:Hp} {s:Shared} {a C dx:Addr} {fs:List (Str × V)} {f:Str} {v:V} {A:Around} {E:Value → Shared → Prop}
end
section
variable {X:Cx} {o e value:Expr} {f:Str} {pos pos' tpos:Pos} {ta tv:TE}
end
section
variable {X:Cx} {pins:List (Addr × Obj)} {σ:St} {H:Hp} {s:Shared} {A:Around} {E:Value → Shared → Prop} {Q:Value → Shared → Prop} {c:Value} {b:Bool}
inductive TyOf (K:PySem.W.Frag) (H:Hp):V → Value → Prop where
 | non:TyOf K H .non (.type "NoneType")
 | bl (x:Bool):TyOf K H (.bl x) (.type "bool")
 | int (i:Int):TyOf K H (.int i) (.type "int")
 | str (x:Str):TyOf K H (.str x) (.type "str")
 | flt (x:UInt64):TyOf K H (.flt x) (.type "float")
 | lst {a:Addr} {xs:List V} (e:H a = some (.lst xs)):TyOf K H (.ref a) (.type "list")
 | frz {a:Addr} {o:Obj} {xs:List V} (e:H a = some (.frz o (.lst xs))):TyOf K H (.ref a) (.type "list")
 | tup {a:Addr} {xs:List V} (e:H a = some (.tup xs)):TyOf K H (.ref a) (.type "tuple")
 | dK {a:Addr} {kvs:List (Key × V)} (e:H a = some (.dK kvs)):TyOf K H (.ref a) (.type "dict")
 | dT {a:Addr} {kvs:List (List Key × V)} (e:H a = some (.dT kvs)):TyOf K H (.ref a) (.type "dict")
 | ins {a C dx:Addr} {fs:List (Str × V)} (e:H a = some (.ins C dx fs)) (cl:Cls K C) (ha:PySem.W.findIn K (.ref C) "__class__" = some (some (.builtin "object.__class__")))
   (hn:PySem.W.specialIn K (.builtin "object.__class__") "__get__" = some (some (.builtin "getset_descriptor.__get__"))) (htk:PySem.W.takesIn K (.builtin "object.__class__") = some true)
   (hm:PySem.W.mroIn K C (.type "object") = some true):TyOf K H (.ref a) (.ref C)
theorem isinst_ok {x:V} {u t:Value} (I:Inv X pins σ H s) (rx:RelV x u) (ty:TyOf X.K H x t) (e:PySem.W.kitOne X.K t c = some b) (h:∀ tk,Q (.bool b) { s with toks:=tk }) :
  wpAny (model X.prog X.w) A (call (.builtin "isinstance") [u,c]) Q E s:=by
 cases ty with
 | non => cases (show u = Value.none from rx); exact PySem.W.kia_one PySem.W.kitx_none I.kIn True.intro e (fun z => nomatch z) h
 | bl y => cases (show u = Value.bool y from rx); exact PySem.W.kia_one PySem.W.kitx_bool I.kIn True.intro e (fun z => nomatch z) h
 | int i => obtain ⟨t,q⟩:=(show ∃ t,u = Value.int i t from rx); cases q; exact PySem.W.kia_one PySem.W.kitx_int I.kIn True.intro e (fun z => nomatch z) h
 | str y => obtain ⟨t,q⟩:=(show ∃ t,u = Value.str y t from rx); cases q; exact PySem.W.kia_one PySem.W.kitx_str I.kIn True.intro e (fun z => nomatch z) h
 | flt y => obtain ⟨t,q⟩:=(show ∃ t,u = Value.float y t from rx); cases q; exact PySem.W.kia_one PySem.W.kitx_float I.kIn True.intro e (fun z => nomatch z) h
 | @lst a xs ea =>
  cases (show u = Value.ref a from rx)
  refine bcn fun hNO => ?_
  obtain ⟨_,_,n,_,h1⟩:=(show ObjOk X.prog X.w H s.heap a (.lst xs) from I.hok a _ ea)
  refine hNO ?_; clear hNO
  exact PySem.W.kia_one PySem.W.kitx_list I.kIn ⟨_,h1,rfl⟩ e (fun z => nomatch z) h
 | @frz a ob xs ea =>
  cases (show u = Value.ref a from rx)
  refine bcn fun hNO => ?_
  obtain ⟨_,_,_,n,_,h1⟩:=(show ObjOk X.prog X.w H s.heap a (.frz ob (.lst xs)) from I.hok a _ ea)
  refine hNO ?_; clear hNO
  exact PySem.W.kia_one PySem.W.kitx_list I.kIn ⟨_,h1,rfl⟩ e (fun z => nomatch z) h
 | @tup a xs ea =>
  cases (show u = Value.ref a from rx)
  refine bcn fun hNO => ?_
  obtain ⟨_,_,_,p⟩:=(show ObjOk X.prog X.w H s.heap a (.tup xs) from I.hok a _ ea)
  obtain ⟨o,h1,h2,_⟩:=p
  refine hNO ?_; clear hNO
  exact PySem.W.kia_one PySem.W.kitx_tuple I.kIn ⟨o,h1,h2⟩ e (fun z => nomatch z) h
 | @dK a kvs ea =>
  cases (show u = Value.ref a from rx)
  refine bcn fun hNO => ?_
  obtain ⟨_,_,vs,_,p⟩:=(show ObjOk X.prog X.w H s.heap a (.dK kvs) from I.hok a _ ea)
  obtain ⟨o,es,ep,h1,h2,_⟩:=p
  refine hNO ?_; clear hNO
  exact PySem.W.kia_one PySem.W.kitx_dict I.kIn ⟨o,h1,h2.1⟩ e (fun z => nomatch z) h
 | @dT a kvs ea =>
  cases (show u = Value.ref a from rx)
  refine bcn fun hNO => ?_
  obtain ⟨_,_,xs,_,o,es,ep,h1,h2,_⟩:=(show ObjOk X.prog X.w H s.heap a (.dT kvs) from I.hok a _ ea)
  refine hNO ?_; clear hNO
  exact PySem.W.kia_one PySem.W.kitx_dict I.kIn ⟨o,h1,h2.1⟩ e (fun z => nomatch z) h
 | @ins a C dx fs ea cl ha hn htk hm =>
  cases (show u = Value.ref a from rx)
  refine bcn fun hNO => ?_
  obtain ⟨mA,O,_⟩:=ins_get I.hok ea
  obtain ⟨od,J,_⟩:=O.look
  refine hNO ?_; clear hNO
  exact PySem.W.kia_one (PySem.W.kitx_own (cl.get _) cl.hd ha hn htk hm) I.kIn J e (fun z => nomatch z) h
end
end L2
namespace L2
open PySem PySem.Spec PyProof.Rows
structure Room (k:Nat) (A:Around):Prop where
 hd:A.handled = none
 dp:A.depth + 3 * k + 5 < recursionLimit
 un:A.units + 16 * k + 200 < cLine
theorem Room.mono {j k:Nat} {A:Around} (r:Room k A) (h:j ≤ k):Room j A:=⟨r.hd,by have:=r.dp; lia,by have:=r.un; lia⟩
theorem Room.deeper {k:Nat} {A:Around} (r:Room (k + 1) A) (env:Env):Room k (A.deeper env) :=
 ⟨r.hd,by have:=r.dp; show A.depth + 1 + 3 * k + 5 < _; lia,by have:=r.un; show A.units + 3 + 16 * k + 200 < _; lia⟩
theorem Room.depth {k:Nat} {A:Around} (r:Room k A):A.depth < recursionLimit:=by have:=r.dp; lia
theorem Room.units {k:Nat} {A:Around} (r:Room k A):A.units + 64 < cLine:=by have:=r.un; lia
noncomputable def tNil:TA:=fun _ H Q => Q [] H
noncomputable def tCons (ta:TE) (tr:TA):TA:=fun σ H Q => ta σ H fun x H1 => tr σ H1 fun xs H2 => Q (x :: xs) H2
section
variable {X:Cx} {e:Expr} {es:List Expr} {te:TE} {t:TA} {pos:Pos}
theorem pa_nil:PA X [] tNil:=fun _ _ _ _ H Q I h => Calls.spliced_nil ⟨[],H,I,.nil,h⟩
theorem pa_cons (ha:PE X e te) (hr:PA X es t) (hs:starEach (e :: es) X.env = (false,eval e X.env) :: starEach es X.env:=by rfl):PA X (e :: es) (tCons te t):=by
 intro pos pins s σ H Q I h
 rw [hs]
 show wpAny _ _ (spliced ((false,eval e X.env) :: backTo pos (starEach es X.env))) _ _ s
 refine Calls.spliced_cons (thn (ha pins s σ H _ I h) fun u s1 ⟨x,H1,I1,r1,q1⟩ => ?_)
 exact thn (hr pos pins s1 σ H1 _ I1 q1) fun us s2 ⟨xs,H2,I2,r2,q2⟩ => ⟨x :: xs,H2,I2,.cons r1 r2,q2⟩
noncomputable def tTup (t:TA):TE:=fun σ H Q => t σ H fun xs H1 => xs.length ≤ sizeLine ∧ ∀ p,H1 p = none → Q (.ref p) (upd H1 p (.tup xs))
noncomputable def tLst (t:TA):TE:=fun σ H Q => t σ H fun xs H1 => xs.length ≤ sizeLine ∧ ∀ p,H1 p = none → Q (.ref p) (upd H1 p (.lst xs))
theorem pe_tup {x1} (h:PA X es t):PE X (.Tuple es x1 pos) (tTup t):=by
 intro pins s σ H Q I hq
 refine wpAny_Tuple_spliced (thn (h pos pins s σ H _ I hq) fun us s1 ⟨xs,H1,I1,r,z,q⟩ => ⟨by rw [← r.length]; exact z,?_⟩)
 have hf:H1 s1.heap.objs.size = none:=I1.hok.fresh (Nat.le_refl _)
 refine ⟨.ref s1.heap.objs.size,upd H1 s1.heap.objs.size (.tup xs),I1.laid (t':=s1.toks) (fun b u e => Heap.get?_push_of_some _ e) (Nat.le_refl _) ?_,rfl,q _ hf⟩
 exact ⟨z,us,r,⟨_,Heap.get?_push_size _ rfl,rfl,_,rfl⟩⟩
theorem pe_lst (h:PA X es t):PE X (.List es pos) (tLst t):=by
 intro pins s σ H Q I hq
 refine wpAny_List_spliced (thn (h pos pins s σ H _ I hq) fun us s1 ⟨xs,H1,I1,r,z,q⟩ => ⟨by rw [← r.length]; exact z,?_⟩)
 have hf:H1 s1.heap.objs.size = none:=I1.hok.fresh (Nat.le_refl _)
 refine ⟨.ref s1.heap.objs.size,upd H1 s1.heap.objs.size (.lst xs),I1.laid (t':=s1.toks) (fun b u e => Heap.get?_push_of_some _ e) (Nat.le_refl _) ?_,rfl,q _ hf⟩
 exact ⟨z,us,0,r,Heap.get?_push_size _ rfl⟩
end
noncomputable abbrev Sp:=List V → Hp → VK → XK → Prop
noncomputable abbrev CXT:=List Env → Hp → Shared → XK → Value → Shared → Prop
structure Env0 (P:Program) (w:World) (K:PySem.W.Frag) (mg:Str → Option Value) (base:Heap) (A:Around) (outer:List Env) (s:Shared) (H:Hp):Prop where
 frames:A.frames = some outer
 mod:Mod K mg base
 bs:∀ b o,base.get? b = some o → s.heap.get? b = some o ∧ H b = none
 bsz:base.objs.size ≤ s.heap.objs.size
 funs:s.heap.FunFrames base outer
 frf:∀ b ∈ frs outer,H b = none
 hok:HOk P w H s.heap
 bare:AllBare s.gens
noncomputable def CE (outer:List Env) (P:Program) (w:World) (H:Hp) (s:Shared) (Q:VK) (u:Value) (s':Shared):Prop :=
 ∃ v H',s'.os = s.os ∧ AllBare s'.gens ∧ Un (frs outer) [] H H' s.heap s'.heap ∧ HOk P w H' s'.heap ∧ RelV v u ∧ Q v H'
noncomputable def CR (CX:CXT) (outer:List Env) (P:Program) (w:World) (H:Hp) (s:Shared) (Q:VK) (E:XK) (r:Result) (s':Shared):Prop :=
 match r with
 | .ok (.ret u) => CE outer P w H s Q u s'
 | .ok _ => False
 | .error e => CX outer H s E e s'
structure FnOk (P:Program) (w:World) (K:PySem.W.Frag) (mg:Str → Option Value) (base:Heap) (CX:CXT) (k:Nat) (f:Addr) (fd:FuncData) (ps:List Str) (sp:Sp):Prop where
 len:∀ vs H Q E,sp vs H Q E → vs.length = ps.length
 run:∀ (A:Around) (outer:List Env) (s:Shared) (H:Hp) (args:Args) (us:List Value) (vs:List V) (Q:VK) (E:XK),Room k A → Env0 P w K mg base A outer s H → BindsTo s fd args (ps.zip us) → Vals vs us → sp vs H Q E →
  codeAny (model P w) A (.call (.ref f) args) (CR CX outer P w H s Q E) s
theorem FnOk.imp {P:Program} {w:World} {K:PySem.W.Frag} {mg:Str → Option Value} {base:Heap} {CX:CXT} {k:Nat} {f:Addr} {fd:FuncData} {ps:List Str} {sp sp':Sp} (F:FnOk P w K mg base CX k f fd ps sp)
  (h:∀ vs H Q E,sp' vs H Q E → sp vs H Q E):FnOk P w K mg base CX k f fd ps sp' :=
 ⟨fun vs H Q E q => F.len vs H Q E (h _ _ _ _ q),fun A outer s H args us vs Q E hr he hb hv hs => F.run A outer s H args us vs Q E hr he hb hv (h _ _ _ _ hs)⟩
section
variable {X:Cx} {pins:List (Addr × Obj)} {σ:St} {H:Hp} {s s':Shared}
theorem Inv.env0 (I:Inv X pins σ H s):Env0 X.prog X.w X.K X.mg X.base X.A X.stack s H :=
 ⟨I.ok.frames,I.ok.mod,I.bs,Nat.le_trans I.ok.bsz I.sz,I.stack,I.stkFree,I.hok,I.bare⟩
theorem Inv.after {Q:VK} {u:Value} (I:Inv X pins σ H s) (h:CE X.stack X.prog X.w H s Q u s'):EP X pins σ Q u s':=by
 refine bcn fun hNO => ?_
 obtain ⟨v,H',os,bare,un,hok,r,q⟩:=h
 obtain ⟨hh,g,d,t,os'⟩:=s'
 refine hNO ?_; clear hNO
 obtain rfl:os' = s.os:=os
 exact ⟨v,H',I.call (h':=hh) (g':=g) (d':=d) (t':=t) (ch:=[]) un hok bare (fun b z => absurd z (by simp)),r,q⟩
end
noncomputable def tCall (sp:Sp) (dvs:List V) (E:XK) (t:TA):TE:=fun σ H Q => t σ H fun vs H1 => sp (vs ++ dvs) H1 Q E
noncomputable def Binds (K:PySem.W.Frag) (fd:FuncData) (ps:List Str) (ds:List Value):Prop :=
 ∀ (s:Shared) (us:List Value),K.In s.heap → (us ++ ds).length = ps.length → BindsTo s fd ⟨us,[]⟩ (ps.zip (us ++ ds))
theorem Binds.all {K:PySem.W.Frag} {fd:FuncData} {ps:List Str} (h:∀ us:List Value,us.length = ps.length → bindArgs fd ⟨us,[]⟩ = pure (ps.zip us)):Binds K fd ps []:=fun s us _ hl => by
 rw [List.append_nil] at hl ⊢
 exact .of_eq (h us hl)
noncomputable def Passes (CX:CXT) (X:Cx) (E:XK):Prop:=∀ (pins:List (Addr × Obj)) (σ:St) (H:Hp) (s:Shared) (e:Value) (s':Shared),Inv X pins σ H s → CX X.stack H s E e s' → X.xe e s'
section
variable {X:Cx} {CX:CXT} {k:Nat} {f C:Addr} {fd:FuncData} {ps:List Str} {sp:Sp} {dvs:List V} {ds:List Value} {E:XK} {x m:Str} {p pos apos:Pos} {e o:Expr} {es:List Expr} {ta:TE} {t:TA}
theorem run_fn {pins:List (Addr × Obj)} {σ:St} {H:Hp} {s:Shared} {Q:VK} {us:List Value} {vs:List V} (F:FnOk X.prog X.w X.K X.mg X.base CX k f fd ps sp) (hr:Room k X.A) (hb:Binds X.K fd ps ds) (hd:Vals dvs ds) (hx:Passes CX X E)
  (I:Inv X pins σ H s) (r:Vals vs us) (h:sp (vs ++ dvs) H Q E):wpAny (model X.prog X.w) X.A (call (.ref f) us) (EP X pins σ Q) X.xe s:=by
 have r2:Vals (vs ++ dvs) (us ++ ds):=r.append hd
 have hl:(us ++ ds).length = ps.length:=by rw [← r2.length]; exact F.len _ _ _ _ h
 refine wpAny_call (codeAny_mono (F.run X.A X.stack s H ⟨us,[]⟩ (us ++ ds) (vs ++ dvs) Q E hr I.env0 (hb s us I.kIn hl) r2 h) fun r s' hq => ?_)
 cases r with
 | error e => exact hx pins σ H s e s' I hq
 | ok fl =>
  cases fl with
  | ret u => exact I.after hq
  | next => exact False.elim hq
  | brk => exact False.elim hq
  | cont => exact False.elim hq
theorem pe_call (F:FnOk X.prog X.w X.K X.mg X.base CX k f fd ps sp) (hr:Room k X.A) (hg:Gl X x) (hm:X.mg x = some (.ref f)) (hk:PySem.W.keepIn X.K (.ref f) = true) (hb:Binds X.K fd ps ds) (hd:Vals dvs ds) (hx:Passes CX X E)
  (ha:PA X (e :: es) t) (hdb:(x == ("__debug__":Str)) = false:=by decide) (he:starEach (e :: es) X.env = (false,eval e X.env) :: starEach es X.env:=by rfl) (hpl:(backTo pos (starEach es X.env)).any (·.1) = false:=by rfl) :
  PE X (.Call (.Name x p) (e :: es) [] pos) (tCall sp dvs E t):=by
 intro pins s σ H Q I h
 refine wpAny_Call_Name_kw (ld_glob I hg hm ?_ hdb)
 refine PySem.W.callWith_K (h₀:=X.base) I.ok.mod.kin hk (thn (ha pos pins s σ H _ I h) fun us s1 ⟨vs,H1,I1,r,q⟩ => ⟨I1.kIn,?_⟩) he hpl
 exact run_fn F hr hb hd hx I1 r q
end
section
variable {X:Cx} {CX:CXT} {k:Nat} {f C:Addr} {fd:FuncData} {ps ks:List Str} {sp:Sp} {E:XK} {x m:Str} {p pos apos kpos:Pos} {e o:Expr} {es:List Expr} {kws:List Keyword} {te ta:TE} {t tk:TA} {nm:Option Str}
variable {g:List Value → List Value → List Value} {gV:List V → List V → List V}
end
structure FnScope (N P:List Str) (sc:Scope):Prop where
 kind:sc.kind = .function
 co:sc.isCoroutine = false
 gen:sc.isGenerator = false
 nd:N.Nodup
 pre:N.take P.length = P
 par:∀ x ∈ P,sc.names.lookup x = some .local ∨ sc.names.lookup x = some .cell
 nofree:∀ y ∈ sc.names,y.2 ≠ .free
theorem bindL_out {kindOf:Str → Option NameKind} {x:Str}:∀ {binds:List (Str × Value)} {m:Str → Option Value},(∀ v,(x,v) ∉ binds) → bindL kindOf binds m x = m x
 | [],_,_ => rfl
 | (n,v) :: r,m,h => by
  unfold bindL
  rw [bindL_out fun w hw => h w (List.mem_cons_of_mem _ hw)]
  split
  ·have:x ≠ n:=by rintro rfl; exact h v List.mem_cons_self
   simp [this]
  ·rfl
theorem bindC_out {kindOf:Str → Option NameKind} {x:Str}:∀ {binds:List (Str × Value)} {m:Str → Option Value},(∀ v,(x,v) ∉ binds) → bindC kindOf binds m x = m x
 | [],_,_ => rfl
 | (n,v) :: r,m,h => by
  unfold bindC
  rw [bindC_out fun w hw => h w (List.mem_cons_of_mem _ hw)]
  split
  ·rfl
  ·have:x ≠ n:=by rintro rfl; exact h v List.mem_cons_self
   simp [this]
theorem bindL_get {kindOf:Str → Option NameKind} {x:Str} {v:Value}:∀ {P:List Str} {vs:List Value} {i:Nat} {m:Str → Option Value},P.Nodup → P[i]? = some x → vs[i]? = some v → kindOf x = some .local →
  bindL kindOf (P.zip vs) m x = some v
 | [],_,_,_,_,h,_,_ => by simp at h
 | _ :: _,[],_,_,_,_,h,_ => by simp at h
 | p :: P,w :: vs,0,m,nd,h1,h2,hk => by
  simp at h1 h2; subst h1; subst h2
  show bindL kindOf ((p,w) :: P.zip vs) m p = _
  unfold bindL
  rw [bindL_out fun v hv => (List.nodup_cons.mp nd).1 (List.of_mem_zip hv).1,if_pos hk]
  simp
 | p :: P,w :: vs,i + 1,m,nd,h1,h2,hk => by
  show bindL kindOf ((p,w) :: P.zip vs) m x = _
  unfold bindL
  exact bindL_get (i:=i) (List.nodup_cons.mp nd).2 (by simpa using h1) (by simpa using h2) hk
theorem bindC_get {kindOf:Str → Option NameKind} {x:Str} {v:Value}:∀ {P:List Str} {vs:List Value} {i:Nat} {m:Str → Option Value},P.Nodup → P[i]? = some x → vs[i]? = some v → kindOf x ≠ some .local →
  bindC kindOf (P.zip vs) m x = some v
 | [],_,_,_,_,h,_,_ => by simp at h
 | _ :: _,[],_,_,_,_,h,_ => by simp at h
 | p :: P,w :: vs,0,m,nd,h1,h2,hk => by
  simp at h1 h2; subst h1; subst h2
  show bindC kindOf ((p,w) :: P.zip vs) m p = _
  unfold bindC
  rw [bindC_out fun v hv => (List.nodup_cons.mp nd).1 (List.of_mem_zip hv).1,if_neg hk]
  simp
 | p :: P,w :: vs,i + 1,m,nd,h1,h2,hk => by
  show bindC kindOf ((p,w) :: P.zip vs) m x = _
  unfold bindC
  exact bindC_get (i:=i) (List.nodup_cons.mp nd).2 (by simpa using h1) (by simpa using h2) hk
noncomputable def start (N:List Str) (vs:List V):St:=vs.map some ++ List.replicate (N.length - vs.length) none
noncomputable def cxOf (CX:CXT) (P:Program) (w:World) (K:PySem.W.Frag) (mg:Str → Option Value) (base:Heap) (N:List Str) (qual:Str) (scope:Scope) (f:Addr) (cd:Value) (A:Around) (outer:List Env) (s:Shared) (H:Hp) (E:XK):Cx where
 prog:=P
 w:=w
 K:=K
 mg:=mg
 base:=base
 A:=A.deeper (envOfC qual scope s.heap.objs.size f cd)
 N:=N
 s₀:=s
 H₀:=H
 env:=envOfC qual scope s.heap.objs.size f cd
 outer:=outer
 stack:=envOfC qual scope s.heap.objs.size f cd :: outer
 ex:=[]
 calm:=true
 fn:=fun _ => true
 pn:=[]
 xe:=fun e s' => wpAny (model P w) (A.deeper (envOfC qual scope s.heap.objs.size f cd)) (leaving (envOfC qual scope s.heap.objs.size f cd) e) (fun _ s'' => CX outer H s E e s'') (fun e' s'' => CX outer H s E e' s'') s'
theorem cell_has {sc:Scope} {n:Nat} {x:Str} (h:sc.names.lookup x = some .cell):∃ c,(cellsFrom n sc.names []).lookup x = some c:=by
 have q:=PySem.W.cellsFrom_some sc.names n [] (.inl h)
 exact Option.isSome_iff_exists.mp q
theorem inv_start {CX:CXT} {P:Program} {w:World} {K:PySem.W.Frag} {mg:Str → Option Value} {base:Heap} {N ps:List Str} {qual:Str} {scope:Scope} {f:Addr} {cd:Value} {A:Around} {outer:List Env} {s s1:Shared} {H:Hp} {E:XK} {us:List Value} {vs:List V}
  (S:FnScope N ps scope) (hd:A.handled = none) (e0:Env0 P w K mg base A outer s H) (hl:vs.length = ps.length) (r:Vals vs us)
  (x:InCallC s s.heap.objs.size (bindL (envOfC qual scope s.heap.objs.size f cd).kindOf (ps.zip us) fun _ => none) (cellsFrom (s.heap.objs.size + 1) scope.names []) (bindC (envOfC qual scope s.heap.objs.size f cd).kindOf (ps.zip us) fun _ => none) s1) :
  Inv (cxOf CX P w K mg base N qual scope f cd A outer s H E) [] (start N vs) H s1:=by
 have hpl:ps.length ≤ N.length:=by have:=congrArg List.length S.pre; rw [List.length_take] at this; lia
 refine bcn fun hNO => ?_
 obtain ⟨h1,tk,rfl,hk⟩:=x.done
 have noA:∀ b:Addr,b ∉ (cxOf CX P w K mg base N qual scope f cd A outer s H E).ex:=fun b z => absurd (show b ∈ ([]:List Addr) from z) (by simp)
 refine hNO ?_; clear hNO
 refine ⟨⟨e0.mod,S.kind,rfl,rfl,Nat.le_refl _,fun y z c h1 h2 => ?_,fun y hy => ?_,fun y c _ h => ?_,fun _ => hd,Around.frames_deeper e0.frames,.inr ⟨rfl,rfl⟩,fun b z => absurd z (noA b),e0.bs,e0.bsz,fun b _ _ => noA b,fun b z => absurd z (noA b),e0.funs,e0.frf⟩,
  rfl,e0.bare,Un.kept hk,⟨_,x.toInCall.ns,fun i y v h1 h2 h3 => ?_⟩,fun y c h => ⟨_,x.cell y c h⟩,e0.hok.fresh (Nat.le_refl _),fun y c h => ?_,fun p hp => absurd (show p ∈ ([]:List (Addr × Obj)) from hp) (by simp),e0.hok.kept hk,?_⟩
 ·exact name_of_addr x.apart (PySem.mem_of_lookup h1) (PySem.mem_of_lookup h2)
 ·have hy:scope.names.lookup y = some .cell ∨ scope.names.lookup y = some .free:=hy
  rcases hy with hy | hy
  ·exact cell_has hy
  ·exact absurd rfl (S.nofree _ (PySem.mem_of_lookup hy))
 ·exact Nat.le_of_lt (x.above y c (PySem.mem_of_lookup h))
 ·have hi:i < vs.length:=by
   unfold start at h2
   by_cases hi:i < vs.length
   ·exact hi
   ·rw [List.getElem?_append_right (by simpa using hi)] at h2
    rw [List.getElem?_replicate] at h2
    split at h2 <;> cases h2
  refine bcn fun hNO => ?_
  have ha:vs[i]? = some v:=by
   unfold start at h2
   rw [List.getElem?_append_left (by simpa using hi),List.getElem?_map] at h2
   cases e:vs[i]? with
   | none => rw [e] at h2; cases h2
   | some a => rw [e] at h2; cases h2; rfl
  obtain ⟨u,hu,rv⟩:=r.get ha
  have hp:ps[i]? = some y:=by
   rw [← S.pre,List.getElem?_take_of_lt (by lia)]; exact h1
  refine hNO ?_; clear hNO
  have ndP:ps.Nodup:=by rw [← S.pre]; exact S.nd.sublist (List.take_sublist _ _)
  refine ⟨u,rv,?_⟩
  rcases S.par y (List.mem_of_getElem? hp) with k | k
  ·exact .inl ⟨k,bindL_get ndP hp hu k⟩
  ·obtain ⟨c,e⟩:=cell_has (n:=s.heap.objs.size + 1) k
   refine .inr ⟨.inl k,c,e,?_⟩
   have q:=x.cell y c e
   rw [bindC_get ndP hp hu (by show scope.names.lookup y ≠ _; rw [k]; decide)] at q
   exact q
 ·exact e0.hok.fresh (Nat.le_of_lt (x.above y c (PySem.mem_of_lookup h)))
 ·unfold start
  show _ = N.length
  rw [List.length_append,List.length_map,List.length_replicate]
  lia
theorem fn_of {CX:CXT} {P:Program} {w:World} {K:PySem.W.Frag} {mg:Str → Option Value} {base:Heap} {k:Nat} {f:Addr} {name qual:Str} {params:Arguments} {body:List Stmt} {scope:Scope} {dV kV doc pm cdv ct oc:Value} {an od:Option Addr}
  {osl:Array (Option Value)} {N ps:List Str} {sp:Sp} (lk:K.lookup f = some ⟨oc,od,.func (PySem.W.fnOf name qual params body scope dV kV doc pm an cdv ct),osl⟩) (hcd:PySem.W.codeIn K cdv qual = true) (S:FnScope N ps scope)
  (len:∀ vs H Q E,sp vs H Q E → vs.length = ps.length)
  (hbody:∀ (A:Around) (outer:List Env) (s:Shared) (H:Hp) (vs:List V) (Q:VK) (E:XK),Room k (A.deeper (envOfC qual scope s.heap.objs.size f cdv)) → sp vs H Q E →
   ∃ t,PSs (cxOf CX P w K mg base N qual scope f cdv A outer s H E) body t ∧ t { nx:=fun _ H' => Q .non H',rt:=Q } (start N vs) H) :
  FnOk P w K mg base CX (k + 1) f (PySem.W.fnOf name qual params body scope dV kV doc pm an cdv ct) ps sp:=by
 refine ⟨len,fun A outer s H args us vs Q E hr e0 hb r hsp => ?_⟩
 have hl:=len _ _ _ _ hsp
 have KX:K.In s.heap:=e0.mod.kin.keeps fun b o e => (e0.bs b o e).1
 have lim:s.heap.NoLimit:=e0.mod.nolimit.keeps fun b o e => (e0.bs b o e).1
 have hkind:∀ y ∈ ps.zip us,scope.names.lookup y.1 = some .local ∨ (scope.names.lookup y.1 = some .cell ∧ ((cellsFrom (s.heap.objs.size + 1) scope.names []).lookup y.1).isSome = true):=fun ⟨n,v⟩ hy => by
  rcases S.par n (List.of_mem_zip hy).1 with q | q
  ·exact .inl q
  ·exact .inr ⟨q,PySem.W.cellsFrom_some _ _ _ (.inl q)⟩
 refine codeAny_call_function hr.depth (KX _ _ lk) rfl S.co S.gen rfl (PySem.W.codeRec_of KX hcd) (hb _ _ _ _ ?_)
 refine wpAny_newFunctionEnv_cells S.kind hkind fun env he s1 x => ?_
 subst he
 refine ⟨lim.keeps x.toInCall.keep,codeAny_func ?_⟩
 refine bcn fun hNO => ?_
 obtain ⟨t,ht,hq⟩:=hbody A outer s H vs Q E (hr.deeper _) hsp
 have I:Inv (cxOf CX P w K mg base N qual scope f cdv A outer s H E) [] (start N vs) H s1:=inv_start S hr.hd e0 hl r x
 refine hNO ?_; clear hNO
 refine wpAny_mono (ht [] s1 (start N vs) H _ I hq) (fun fl s' hs => ?_) fun e s' hs => hs
 have fin:∀ {σ':St} {H':Hp} {v:V} {u:Value},Inv (cxOf CX P w K mg base N qual scope f cdv A outer s H E) [] σ' H' s' → RelV v u → Q v H' → CE outer P w H s Q u s' :=
  fun {σ' H' v u} J rv q => ⟨v,H',J.os,J.bare,J.base,J.hok,rv,q⟩
 cases fl with
 | ret u =>
  refine bcn fun hNO => ?_
  obtain ⟨v,σ',H',J,rv,q⟩:=hs
  refine hNO ?_; clear hNO
  exact fin J rv q
 | next =>
  refine bcn fun hNO => ?_
  obtain ⟨σ',H',J,q⟩:=hs
  refine hNO ?_; clear hNO
  exact fin (v:=V.non) (u:=Value.none) J rfl q
 | brk =>
  refine bcn fun hNO => ?_
  obtain ⟨_,_,_,q⟩:=hs
  refine hNO ?_; clear hNO
  exact False.elim q
 | cont =>
  refine bcn fun hNO => ?_
  obtain ⟨_,_,_,q⟩:=hs
  refine hNO ?_; clear hNO
  exact False.elim q
end L2
namespace L2
open PySem PySem.Spec PyProof.Rows
section
variable {X:Cx} {x:Str} {p pos:Pos} {e:Expr} {es:List Expr} {t:TA} {id T:String} {r:List V → Hp → VK → Prop}
noncomputable def tCB (r:List V → Hp → VK → Prop) (t:TA):TE:=fun σ H Q => t σ H fun vs H1 => r vs H1 Q
theorem pe_callB (hc:CallR X (.builtin id) r) (hg:Gl X x) (hm:X.mg x = none) (hv:bootBuiltins x = some (.builtin id)) (ha:PA X (e :: es) t) (hn:x ≠ "__name__":=by decide) (hdb:(x == ("__debug__":Str)) = false:=by decide)
  (he:starEach (e :: es) X.env = (false,eval e X.env) :: starEach es X.env:=by rfl) (hpl:(backTo pos (starEach es X.env)).any (·.1) = false:=by rfl):PE X (.Call (.Name x p) (e :: es) [] pos) (tCB r t):=by
 intro pins s σ H Q I h
 refine wpAny_Call_Name_kw (ld_blt I hg hm hv ?_ hn hdb)
 exact PyProof.Rows.callWith_builtin1 (thn (ha pos pins s σ H _ I h) fun us s1 ⟨vs,H1,I1,r1,q1⟩ => hc pins s1 σ H1 vs us Q I1 r1 q1) he hpl
theorem pe_callTy (hc:CallR X (.type T) r) (hg:Gl X x) (hm:X.mg x = none) (hv:bootBuiltins x = some (.type T)) (ha:PA X (e :: es) t) (hn:x ≠ "__name__":=by decide) (hdb:(x == ("__debug__":Str)) = false:=by decide)
  (he:starEach (e :: es) X.env = (false,eval e X.env) :: starEach es X.env:=by rfl) (hpl:(backTo pos (starEach es X.env)).any (·.1) = false:=by rfl):PE X (.Call (.Name x p) (e :: es) [] pos) (tCB r t):=by
 intro pins s σ H Q I h
 refine wpAny_Call_Name_kw (ld_blt I hg hm hv ?_ hn hdb)
 exact PyProof.Rows.callWith_type1 (thn (ha pos pins s σ H _ I h) fun us s1 ⟨vs,H1,I1,r1,q1⟩ => hc pins s1 σ H1 vs us Q I1 r1 q1) he hpl
end
end L2
namespace HT
open PySem PyProof.Rows
section
open PySem.SeqAt
open PySem.AutoSeq1 (wpAny_loadPart')
open PySem.MeetsSeq PySem.MeetsSeq2 PySem.MeetsSeq3
end
section
variable {prog:Program} {w:World} {A:Around} {E:Value → Shared → Prop} {s:Shared}
theorem cat_tup {t b:Addr} {vs ws:List Value} {Q:Value → Shared → Prop} (ht:IsTup s.heap t vs.toArray) (hb:IsTup s.heap b ws.toArray) (hv:vs ≠ [])
  (h1:ws = [] → Q (.ref t) s) (h2:ws ≠ [] → Q (.ref s.heap.objs.size) { s with heap:=s.heap.push { cls:=.type "tuple",data:=.seq (vs ++ ws).toArray } })
  (hsz:vs.length + ws.length ≤ sizeLine):wpAny (model prog w) A (binaryOp .Add (.ref t) (.ref b)) Q E s:=by
 refine bcn fun hNO => ?_
 obtain ⟨⟨cls,dd,data,sl⟩,ho,hc,n,hd⟩:=id ht
 obtain ⟨⟨cls2,dd2,data2,sl2⟩,ho2,hc2,n2,hd2⟩:=id hb
 refine hNO ?_; clear hNO
 simp only at hc hd hc2 hd2
 subst hc hd hc2 hd2
 have e:vs.toArray ++ ws.toArray = (vs ++ ws).toArray:=by simp
 by_cases hw:ws = []
 ·exact concat_meets ⟨_,ho,rfl⟩ ⟨_,ho2,rfl⟩ noFill_tuple_add seq_tuple_add PySem.F.slot_tuple_add PySem.F.entry_tuple_add (PySem.F.args_tuple_add_2 _ _)
   (tuple_addW1 t b vs.toArray ws.toArray n n2 dd dd2 sl sl2 (by simpa using hv) (by simp [hw])) ⟨ho,ho2,h1 hw⟩
 ·refine concat_meets ⟨_,ho,rfl⟩ ⟨_,ho2,rfl⟩ noFill_tuple_add seq_tuple_add PySem.F.slot_tuple_add PySem.F.entry_tuple_add (PySem.F.args_tuple_add_2 _ _)
   (tuple_addW2 t b vs.toArray ws.toArray n n2 dd dd2 sl sl2 (by simpa using hv) (by simpa using hw) (by rw [List.size_toArray,List.size_toArray]; exact hsz)) ⟨ho,ho2,?_⟩
  rw [e]
  exact h2 hw
noncomputable def sIx (n d:Nat):Option Int → Nat
 | none => d
 | some v => if v < 0 then (v + (n:Int)).toNat else min v.toNat n
theorem sIx_none (n d:Nat):sIx n d none = d:=rfl
theorem sIx_nat (n d k:Nat):sIx n d (some (k:Int)) = min k n:=by
 show (if (k:Int) < 0 then ((k:Int) + (n:Int)).toNat else min (k:Int).toNat n) = min k n
 rw [if_neg (by lia),Int.toNat_natCast]
theorem sIx_le (n d:Nat) (hd:d ≤ n) (o:Option Int):sIx n d o ≤ n:=by
 cases o with
 | none => exact hd
 | some v =>
  show (if v < 0 then (v + (n:Int)).toNat else min v.toNat n) ≤ n
  by_cases hv:v < 0
  ·rw [if_pos hv]; lia
  ·rw [if_neg hv]; exact Nat.min_le_right _ _
theorem clip_eq (v:Int) (n d:Nat):(if v < 0 then max (v + (n:Int)) 0 else min v (n:Int)) = ((sIx n d (some v):Nat):Int):=by
 show (if v < 0 then max (v + (n:Int)) 0 else min v (n:Int)) = (((if v < 0 then (v + (n:Int)).toNat else min v.toNat n):Nat):Int)
 by_cases hv:v < 0
 ·simp only [if_pos hv]; lia
 ·simp only [if_neg hv]; lia
theorem adjust_gen (lo hi:Option Int) (n:Nat):Builtin.Slice.sliceAdjust lo hi 1 (n:Int) = (((sIx n 0 lo:Nat):Int),((sIx n n hi:Nat):Int)):=by
 have h1:¬ ((1:Int) < 0):=by lia
 unfold Builtin.Slice.sliceAdjust
 simp only [h1,if_false]
 refine Prod.ext ?_ ?_
 ·cases lo with
  | none => rfl
  | some v => exact clip_eq v n 0
 ·cases hi with
  | none => rfl
  | some v => exact clip_eq v n n
theorem places_gen (i j:Nat):Builtin.Slice.slicePlaces (i:Int) (j:Int) 1 = j - i:=by
 unfold Builtin.Slice.slicePlaces
 have h1:(1:Int) > 0:=by lia
 simp only [h1,if_true,Int.ediv_one]
 split <;> lia
theorem slicePart_ {v:Value} {o:Option Int} {Q:Option Int → Shared → Prop} (p:IsPart v o) (h:Q o s):wpAny (model prog w) A (Builtin.Slice.slicePartIndex v) Q E s:=by
 cases p with
 | none => exact slicePart_none h
 | int i t => exact slicePart_int h
theorem sliceApplied_gen {sl:Addr} {vl vu:Value} {lo hi:Option Int} {n:Nat} {Q:Int × Int × Nat → Shared → Prop} (hs:s.heap.IsSliceOf sl vl vu .none) (pl:IsPart vl lo) (pu:IsPart vu hi)
  (h:Q (((sIx n 0 lo:Nat):Int),1,sIx n n hi - sIx n 0 lo) s):wpAny (model prog w) A (Builtin.Slice.sliceApplied (.ref sl) (pure (n:Int))) Q E s:=by
 refine bcn fun hNO => ?_
 obtain ⟨os,hos,hcs,hds⟩:=id hs
 refine hNO ?_; clear hNO
 unfold Builtin.Slice.sliceApplied Builtin.Slice.sliceFields
 refine wpAny_bind (wpAny_bind (wpAny_field hos hds (x:=vl) rfl (wpAny_bind (wpAny_field hos hds (x:=vu) rfl (wpAny_bind (wpAny_field hos hds (x:=.none) rfl (wpAny_pure ?_)))))))
 refine wpAny_bind (slicePart_none ?_)
 show wpAny _ _ (if ((1:Int) == 0) = true then _ else _) _ _ s
 rw [if_neg (by decide)]
 refine wpAny_bind (slicePart_ pl (wpAny_bind (slicePart_ pu (wpAny_bind (wpAny_pure ?_)))))
 show wpAny _ _ (match Builtin.Slice.sliceAdjust lo hi 1 (n:Int) with | (lo,hi) => pure (lo,(1:Int),Builtin.Slice.slicePlaces lo hi 1)) _ _ s
 rw [adjust_gen lo hi n]
 show wpAny _ _ (pure (((sIx n 0 lo:Nat):Int),(1:Int),Builtin.Slice.slicePlaces ((sIx n 0 lo:Nat):Int) ((sIx n n hi:Nat):Int) 1)) _ _ s
 rw [places_gen]
 exact wpAny_pure h
theorem pick_gen (xs:Array Value) (i k:Nat):((List.range k).filterMap fun (m:Nat) => xs[((i:Int) + (m:Int) * 1).toNat]?).toArray = ((xs.toList.drop i).take k).toArray:=by
 have e:(fun (m:Nat) => xs[((i:Int) + (m:Int) * 1).toNat]?) = fun m => xs[i + m]?:=by
  funext m
  have:((i:Int) + (m:Int) * 1).toNat = i + m:=by lia
  rw [this]
 rw [e]
 have:=pick_run xs i k
 rw [List.filterMap_map] at this
 have e2:((fun x => xs[x]?) ∘ fun x => i + x) = fun m => xs[i + m]?:=rfl
 rw [e2] at this
 rw [this]
theorem getItem_tuple_cut {t sl:Addr} {items:Array Value} {vl vu:Value} {lo hi:Option Int} {Q:Value → Shared → Prop} (ht:IsTup s.heap t items) (hs:s.heap.IsSliceOf sl vl vu .none) (pl:IsPart vl lo) (pu:IsPart vu hi)
  (hw:¬ (sIx items.size 0 lo = 0 ∧ sIx items.size items.size hi = items.size))
  (h:Q (.ref s.heap.objs.size) { s with heap:=s.heap.push { cls:=.type "tuple",data:=.seq ((items.toList.drop (sIx items.size 0 lo)).take (sIx items.size items.size hi - sIx items.size 0 lo)).toArray } })
  (hsz:items.size ≤ sizeLine):wpAny (model prog w) A (getItem (.ref t) (.ref sl)) Q E s:=by
 refine bcn fun hNO => ?_
 have htake:sizeOk (.seq ((items.toList.drop (sIx items.size 0 lo)).take (sIx items.size items.size hi - sIx items.size 0 lo)).toArray):=by
  show ((items.toList.drop (sIx items.size 0 lo)).take (sIx items.size items.size hi - sIx items.size 0 lo)).toArray.size ≤ sizeLine
  rw [List.size_toArray,List.length_take,List.length_drop,Array.length_toList]
  omega
 have hj:sIx items.size items.size hi ≤ items.size:=sIx_le _ _ (Nat.le_refl _) hi
 obtain ⟨os,hos,hcs,hds⟩:=id hs
 have hTs:s.TypeIs (.ref sl) "slice":=⟨os,hos,hcs⟩
 refine hNO ?_; clear hNO
 unfold getItem
 try with_reducible refine wpAny_holding ?_
 first | refine wpAny_bind (wpAny_pure ?_) | skip
 refine wpAny_bind (wpAny_sequenceKey ht.typeIs (by decide) ?_)
 refine wpAny_bind (wpAny_callSpecial?_slot (name:=Str.ofString "__getitem__") ht.typeIs PyProof.Rows.slot_tuple_getitem
  (wpAny_call_entry PyProof.Rows.slot_tuple_getitem ht.typeIs entry_tuple_getitem ?_ (args_tuple_getitem _ _)))
 show wpAny _ _ (Builtin.Tuple.tupleItemsOf (.ref t) >>= _) _ _ s
 refine wpAny_bind (tupleItemsOf_ ht ?_)
 refine wpAny_bind (wpAny_typeOf hTs ?_)
 rw [if_pos (by decide)]
 refine wpAny_bind (sliceApplied_gen hs pl pu ?_)
 have hno:¬ ((((sIx items.size 0 lo:Nat):Int) == 0 && (1:Int) == 1 && (sIx items.size items.size hi - sIx items.size 0 lo) == items.size) = true):=by
  intro q
  rw [Bool.and_eq_true,Bool.and_eq_true] at q
  have q1:((sIx items.size 0 lo:Nat):Int) = 0:=eq_of_beq q.1.1
  have q2:sIx items.size items.size hi - sIx items.size 0 lo = items.size:=eq_of_beq q.2
  exact hw ⟨by omega,by omega⟩
 show wpAny _ _ (if (((sIx items.size 0 lo:Nat):Int) == 0 && (1:Int) == 1 && (sIx items.size items.size hi - sIx items.size 0 lo) == items.size) = true then _ else _) _ _ s
 rw [if_neg hno,pick_gen]
 first
  | exact wpAny_bind (m:=Builtin.Tuple.tupleExact _) (wpAny_newObj_type (wpAny_pure ⟨_,rfl,wpAny_pure h⟩) htake)
  | exact wpAny_bind (m:=Builtin.Tuple.tupleExact _) (wpAny_newObj_type (wpAny_bind (wpAny_pure (wpAny_pure ⟨_,rfl,wpAny_pure h⟩))) htake)
  | exact wpAny_bind (wpAny_bind (m:=Builtin.Tuple.tupleExact _) (wpAny_newObj_type (wpAny_pure (wpAny_pure ⟨_,rfl,wpAny_pure h⟩)) htake))
  | exact wpAny_bind (wpAny_bind (m:=Builtin.Tuple.tupleExact _) (wpAny_newObj_type (wpAny_pure ⟨_,rfl,wpAny_pure h⟩) htake))
end
end HT
namespace L2
open PySem PySem.Spec PyProof.Rows
noncomputable abbrev TO:=St → Hp → (Option Int → Hp → Prop) → Prop
noncomputable def PO (X:Cx) (e:Option Expr) (t:TO):Prop :=
 ∀ (pins:List (Addr × Obj)) (s:Shared) (σ:St) (H:Hp) (Q:Option Int → Hp → Prop),Inv X pins σ H s → t σ H Q →
  wpAny (model X.prog X.w) X.A (evalPart e X.env) (fun u s' => ∃ o H',Inv X pins σ H' s' ∧ IsPart u o ∧ Q o H') X.xe s
noncomputable def tNoPart:TO:=fun _ H Q => Q none H
noncomputable def tPart (t:TE):TO:=fun σ H Q => t σ H fun x H1 => ∃ i,x = .int i ∧ Q (some i) H1
section
variable {X:Cx} {e:Expr} {te:TE} {lo hi:Option Expr} {tl th:TO} {pos p2:Pos}
theorem po_none:PO X none tNoPart:=by
 intro pins s σ H Q I h
 rw [evalPart_none]
 exact wpAny_pure ⟨none,H,I,.none,h⟩
theorem po_some (h:PE X e te):PO X (some e) (tPart te):=by
 intro pins s σ H Q I hw
 rw [evalPart_some]
 refine thn (h pins s σ H _ I hw) fun u s1 ⟨x,H1,I1,r1,q1⟩ => ?_
 refine bcn fun hNO => ?_
 obtain ⟨i,rfl,q⟩:=q1
 obtain ⟨t,rfl⟩:=r1
 refine hNO ?_; clear hNO
 exact ⟨some i,H1,I1,.int i t,q⟩
noncomputable def SlR (X:Cx) (r:V → Option Int → Option Int → Hp → VK → Prop):Prop :=
 ∀ (pins:List (Addr × Obj)) (s:Shared) (σ:St) (H:Hp) (x:V) (v vl vu:Value) (lo hi:Option Int) (sl:Addr) (Q:VK),Inv X pins σ H s → RelV x v → s.heap.IsSliceOf sl vl vu .none → IsPart vl lo → IsPart vu hi → r x lo hi H Q →
  ∃ T id,typeLookup (.type T) "__getitem__" = pure (some (.builtin id)) ∧ s.TypeIs v T ∧ wpAny (model X.prog X.w) X.A (getItem v (.ref sl)) (EP X pins σ Q) X.xe s
theorem SlR.or {r r':V → Option Int → Option Int → Hp → VK → Prop} (h:SlR X r) (h':SlR X r'):SlR X (fun x lo hi H Q => r x lo hi H Q ∨ r' x lo hi H Q):=by
 intro pins s σ H x v vl vu lo hi sl Q I rx hs pl pu q
 rcases q with q | q
 ·exact h pins s σ H x v vl vu lo hi sl Q I rx hs pl pu q
 ·exact h' pins s σ H x v vl vu lo hi sl Q I rx hs pl pu q
noncomputable def tSl (r:V → Option Int → Option Int → Hp → VK → Prop) (te:TE) (tl th:TO):TE:=fun σ H Q => te σ H fun x H1 => tl σ H1 fun l H2 => th σ H2 fun u H3 => r x l u H3 Q
theorem pe_slice {r:V → Option Int → Option Int → Hp → VK → Prop} (hr:SlR X r) (he:PE X e te) (hl:PO X lo tl) (hu:PO X hi th):PE X (.Subscript e (.Slice lo hi none p2) pos) (tSl r te tl th):=by
 intro pins s σ H Q I h
 refine Subscript_ (thn (he pins s σ H _ I h) fun v s1 ⟨x,H1,I1,r1,q1⟩ => ?_)
 refine wpAny_Slice (thn (hl pins s1 σ H1 _ I1 q1) fun vl s2 ⟨l,H2,I2,pl,q2⟩ => thn (hu pins s2 σ H2 _ I2 q2) fun vu s3 ⟨u,H3,I3,pu,q3⟩ => ?_)
 rw [evalPart_none]
 refine wpAny_pure ?_
 refine bcn fun hNO => ?_
 have I4:Inv X pins σ H3 { s3 with heap:=s3.heap.push { cls:=.type "slice",data:=.fields #[vl,vu,.none] } }:=I3.kept (t':=s3.toks) fun b ob q => Heap.get?_push_of_some _ q
 obtain ⟨T,id,hT,ht,hg⟩:=hr pins { s3 with heap:=s3.heap.push { cls:=.type "slice",data:=.fields #[vl,vu,.none] } } σ H3 x v vl vu l u s3.heap.objs.size Q I4 r1 (Heap.IsSliceOf.new ..) pl pu q3
 refine hNO ?_; clear hNO
 show wpAny (model X.prog X.w) X.A (subscriptTail e (.Slice lo hi none p2) v (.ref s3.heap.objs.size)) (EP X pins σ Q) X.xe { s3 with heap:=s3.heap.push { cls:=.type "slice",data:=.fields #[vl,vu,.none] } }
 exact tail_any (ops:=[.ref s3.heap.objs.size,v]) ht hT hg (by with_unfolding_all rfl)
noncomputable def cutV (xs:List V) (lo hi:Option Int):List V:=(xs.drop (HT.sIx xs.length 0 lo)).take (HT.sIx xs.length xs.length hi - HT.sIx xs.length 0 lo)
theorem cutV_length (xs:List V) (lo hi:Option Int):(cutV xs lo hi).length ≤ xs.length:=by
 unfold cutV
 rw [List.length_take,List.length_drop]
 lia
noncomputable def rSlT (K:PySem.W.Frag):V → Option Int → Option Int → Hp → VK → Prop:=fun x lo hi H Q => ∃ a xs,x = .ref a ∧ SqT K H a xs ∧
 ¬ (HT.sIx xs.length 0 lo = 0 ∧ HT.sIx xs.length xs.length hi = xs.length) ∧ ∀ p,H p = none → Q (.ref p) (upd H p (.tup (cutV xs lo hi)))
theorem sl_tup:SlR X (rSlT X.K):=by
 intro pins s σ H x v vl vu lo hi sl Q I rx hs pl pu h
 refine bcn fun hNO => ?_
 obtain ⟨a,xs,rfl,hx,hw,q⟩:=h
 cases rx
 obtain ⟨its,r,ht,hz⟩:=I.tuple hx
 refine hNO ?_; clear hNO
 have hlen:its.toArray.size = xs.length:=by rw [List.size_toArray]; exact r.length.symm
 refine ⟨"tuple",_,PyProof.Rows.slot_tuple_getitem.lookup,ht.typeIs,?_⟩
 refine HT.getItem_tuple_cut ht hs pl pu (by rw [hlen]; exact hw) ?_ (by rw [hlen]; exact hz)
 rw [hlen]
 refine ⟨.ref s.heap.objs.size,_,I.laid (t':=s.toks) (o:=.tup (cutV xs lo hi)) (fun b ob q => Heap.get?_push_of_some _ q) (Nat.le_refl _) ?_,rfl,q _ (I.hok.fresh (Nat.le_refl _))⟩
 exact ⟨Nat.le_trans (cutV_length xs lo hi) hz,_,(r.drop (HT.sIx xs.length 0 lo)).take (HT.sIx xs.length xs.length hi - HT.sIx xs.length 0 lo),IsTup.new _ _⟩
noncomputable def rCatT (K:PySem.W.Frag):R2:=fun x y H Q => ∃ a b xs ys,x = .ref a ∧ y = .ref b ∧ SqT K H a xs ∧ SqT K H b ys ∧ xs ≠ [] ∧ xs.length + ys.length ≤ sizeLine ∧
 (ys = [] → Q (.ref a) H) ∧ (ys ≠ [] → ∀ p,H p = none → Q (.ref p) (upd H p (.tup (xs ++ ys))))
theorem Vals.nil_iff {xs:List V} {us:List Value} (r:Vals xs us):us = [] ↔ xs = []:=by
 cases r with
 | nil => simp
 | cons _ _ => simp
theorem op_catT:OpR X (binaryOp .Add) (rCatT X.K):=by
 intro pins s σ H x y v u Q I rx ry h
 obtain ⟨a,b,xs,ys,rfl,rfl,ha,hb,hx,hz,q1,q2⟩:=h
 cases rx
 cases ry
 obtain ⟨its,r1,p1,_⟩:=I.tuple ha
 obtain ⟨its2,r2,p2,_⟩:=I.tuple hb
 refine HT.cat_tup p1 p2 (fun z => hx (r1.nil_iff.mp z)) (fun z => ⟨.ref a,H,I,rfl,q1 (r2.nil_iff.mp z)⟩) (fun z => ?_) (by rw [← r1.length,← r2.length]; exact hz)
 refine ⟨.ref s.heap.objs.size,_,I.laid (t':=s.toks) (o:=.tup (xs ++ ys)) (fun b ob q => Heap.get?_push_of_some _ q) (Nat.le_refl _) ?_,rfl,q2 (fun w => z (r2.nil_iff.mpr w)) _ (I.hok.fresh (Nat.le_refl _))⟩
 exact ⟨by rw [List.length_append]; exact hz,_,r1.append r2,IsTup.new _ _⟩
end
end L2
namespace L2
open PySem PySem.Spec PyProof.Rows
noncomputable def ixN (n:Nat) (i:Int):Option Nat:=if 0 ≤ i then (if i < n then some i.toNat else none) else if -(n:Int) ≤ i then some (i + n).toNat else none
noncomputable def atI {α:Type} (xs:List α) (i:Int):Option α:=(ixN xs.length i).bind fun j => xs[j]?
theorem ixN_seq {n:Nat} {i:Int} {j:Nat} (h:ixN n i = some j):seqIndex? i n = some j ∧ j < n ∧ -(n:Int) ≤ i ∧ i < n:=by
 unfold ixN at h
 by_cases h0:0 ≤ i
 ·rw [if_pos h0] at h
  by_cases h1:i < n
  ·rw [if_pos h1] at h
   have e:i.toNat = j:=Option.some.inj h
   exact ⟨by rw [seqIndex_of h0 h1,e],by lia,by lia,h1⟩
  ·rw [if_neg h1] at h; cases h
 ·rw [if_neg h0] at h
  by_cases h1:-(n:Int) ≤ i
  ·rw [if_pos h1] at h
   have e:(i + n).toNat = j:=Option.some.inj h
   exact ⟨by rw [seqIndex_neg (by lia) h1,e],by lia,h1,by lia⟩
  ·rw [if_neg h1] at h; cases h
theorem atI_get {α:Type} {xs:List α} {i:Int} {v:α} (h:atI xs i = some v):∃ j,seqIndex? i xs.length = some j ∧ xs[j]? = some v ∧ j < xs.length ∧ -(xs.length:Int) ≤ i ∧ i < xs.length:=by
 unfold atI at h
 cases e:ixN xs.length i with
 | none => rw [e] at h; cases h
 | some j =>
  rw [e] at h
  obtain ⟨h1,h2,h3,h4⟩:=ixN_seq e
  exact ⟨j,h1,h,h2,h3,h4⟩
theorem atI_nat {α:Type} {xs:List α} {j:Nat} {v:α} (h:xs[j]? = some v):atI xs (j:Int) = some v:=by
 have hj:j < xs.length:=(List.getElem?_eq_some_iff.mp h).1
 have e:ixN xs.length (j:Int) = some j:=by
  unfold ixN
  rw [if_pos (by lia),if_pos (by lia)]; simp
 unfold atI; rw [e]; exact h
theorem atI_last {α:Type} (xs:List α) (v:α):atI (xs ++ [v]) (-1) = some v:=by
 have hl:(xs ++ [v]).length = xs.length + 1:=by simp
 have e:ixN (xs ++ [v]).length (-1) = some xs.length:=by
  unfold ixN
  rw [hl,if_neg (by decide),if_pos (by lia)]
  congr 1
  lia
 unfold atI
 rw [e]
 show (xs ++ [v])[xs.length]? = some v
 simp
noncomputable def PlainIx (b:Expr):Prop:=∀ o i,subscripted b false o i = operate [o,i] (getItem o i)
noncomputable def IxR (X:Cx) (r:R2):Prop :=
 ∀ (value slice:Expr) (pins:List (Addr × Obj)) (s:Shared) (σ:St) (H:Hp) (x y:V) (v u:Value) (Q:VK),Inv X pins σ H s → RelV x v → RelV y u → r x y H Q →
  subscripted slice false v u = operate [v,u] (getItem v u) → wpAny (model X.prog X.w) X.A (subscriptTail value slice v u) (EP X pins σ Q) X.xe s
noncomputable def MtR (X:Cx) (id:String) (r:V → List V → Hp → VK → Prop):Prop :=
 ∀ (pins:List (Addr × Obj)) (s:Shared) (σ:St) (H:Hp) (x:V) (xs:List V) (v:Value) (us:List Value) (Q:VK),Inv X pins σ H s → RelV x v → Vals xs us → r x xs H Q →
  wpAny (model X.prog X.w) X.A (call (.builtin id) (v :: us)) (EP X pins σ Q) X.xe s
section
variable {X:Cx} {a b:Expr} {ta tb:TE} {pos:Pos}
theorem IxR.or {r r':R2} (h:IxR X r) (h':IxR X r'):IxR X (fun x y H Q => r x y H Q ∨ r' x y H Q):=by
 intro value slice pins s σ H x y v u Q I rx ry q hs
 rcases q with q | q
 ·exact h value slice pins s σ H x y v u Q I rx ry q hs
 ·exact h' value slice pins s σ H x y v u Q I rx ry q hs
theorem pe_ix {r:R2} (hr:IxR X r) (ha:PE X a ta) (hb:PE X b tb) (hs:PlainIx b):PE X (.Subscript a b pos) (tOp r ta tb):=by
 intro pins s σ H Q I h
 exact Subscript_ (binT ha hb I h fun v u s2 x y H2 I2 rx ry q => hr a b pins s2 σ H2 x y v u Q I2 rx ry q (hs _ _))
noncomputable def rIxL (K:PySem.W.Frag):R2:=fun x y H Q => ∃ p xs i v,x = .ref p ∧ y = .int i ∧ SqL K H p xs ∧ atI xs i = some v ∧ Q v H
noncomputable def rIxT (K:PySem.W.Frag):R2:=fun x y H Q => ∃ p xs i v,x = .ref p ∧ y = .int i ∧ SqT K H p xs ∧ atI xs i = some v ∧ Q v H
noncomputable def rIxS:R2:=fun x y H Q => ∃ z i c,x = .str z ∧ y = .int i ∧ z.length ≤ sizeLine ∧ atI z.cps.toList i = some c ∧ Q (.str ⟨#[c]⟩) H
theorem ix_list:IxR X (rIxL X.K):=by
 intro value slice pins s σ H x y v u Q I rx ry h hs
 obtain ⟨p,xs,i,z,rfl,rfl,hq,he,q⟩:=h
 cases rx
 obtain ⟨t,rfl⟩:=ry
 obtain ⟨its,r,pl,hz⟩:=I.list hq
 obtain ⟨j,h1,h2,h3,h4,h5⟩:=atI_get he
 obtain ⟨w,ew,rw'⟩:=r.get h2
 have hl:=r.length
 have hn:=line63
 have fin:EP X pins σ Q w s:=⟨z,H,I,rw',q⟩
 by_cases h0:0 ≤ i
 ·have hj:i.toNat = j:=by
   rw [seqIndex_of h0 h5] at h1
   exact Option.some.inj h1
  exact item_listR pl.isList h0 (by lia) (by rw [hj]; simpa using ew) fin hs
 ·have hj:(i + (its.toArray.size:Int)).toNat = j:=by
   rw [seqIndex_neg (by lia) h4] at h1
   rw [List.size_toArray,← hl]
   exact Option.some.inj h1
  exact subscriptTail_builtinR (x:=w) pl.isList.typeIs slot_list_getitem.lookup
   (wpAny_getItem_list_neg (Q:=fun r s' => r = w ∧ EP X pins σ Q r s') pl.isList (by lia) (by rw [List.size_toArray] <;> lia) (by lia) (by rw [hj]; simpa using ew) ⟨rfl,fin⟩) hs
theorem ix_tup:IxR X (rIxT X.K):=by
 intro value slice pins s σ H x y v u Q I rx ry h hs
 obtain ⟨p,xs,i,z,rfl,rfl,hq,he,q⟩:=h
 cases rx
 obtain ⟨t,rfl⟩:=ry
 obtain ⟨its,r,pl,hz⟩:=I.tuple hq
 obtain ⟨j,h1,h2,h3,h4,h5⟩:=atI_get he
 obtain ⟨w,ew,rw'⟩:=r.get h2
 have hl:=r.length
 have hn:=line63
 have fin:EP X pins σ Q w s:=⟨z,H,I,rw',q⟩
 exact subscriptTail_builtinR (x:=w) pl.typeIs slot_tuple_getitem.lookup
  (getItem_tuple (j:=j) (Q:=fun r s' => r = w ∧ EP X pins σ Q r s') pl (by lia) (by lia) (by rw [List.size_toArray,← hl]; exact h1) (by simpa using ew) ⟨rfl,fin⟩) hs
theorem ix_str:IxR X rIxS:=by
 intro value slice pins s σ H x y v u Q I rx ry h hs
 refine bcn fun hNO => ?_
 obtain ⟨z,i,c,rfl,rfl,hz,he,q⟩:=h
 obtain ⟨t,rfl⟩:=rx
 obtain ⟨t',rfl⟩:=ry
 obtain ⟨j,h1,h2,h3,h4,h5⟩:=atI_get he
 have hl:z.cps.toList.length = z.length:=by simp [Str.length]
 rw [hl] at h1 h4 h5
 have hn:=line63
 refine hNO ?_; clear hNO
 exact tail_any (typeIs_str s z t) slot_str_getitem.lookup (getItem_str (c:=c) (by
  have e1:decide (i < -(2 ^ 63:Int)) = false:=decide_eq_false (by lia)
  have e2:decide (i ≥ 2 ^ 63) = false:=decide_eq_false (by lia)
  rw [e1,e2,Bool.or_false]) (by rw [h1]; simpa using h2) ⟨.str ⟨#[c]⟩,H,I.tok _,⟨_,rfl⟩,q⟩) hs
theorem mapSeq_set (its:List Value) (n j:Nat) (u:Value):Obj.mapSeq (·.setIfInBounds j u) { cls:=.type "list",data:=.seq its.toArray n } = { cls:=.type "list",data:=.seq (its.set j u).toArray n }:=by
 simp [Obj.mapSeq]
theorem Inv.lst {pins:List (Addr × Obj)} {σ:St} {H:Hp} {s:Shared} {p:Addr} {xs:List V} (I:Inv X pins σ H s) (h:H p = some (.lst xs)) :
  ∃ (its:List Value) (n:Nat),Vals xs its ∧ s.heap.get? p = some { cls:=.type "list",data:=.seq its.toArray n } ∧ xs.length ≤ sizeLine:=by
 refine bcn fun hNO => ?_
 obtain ⟨z,its,n,r,e⟩:=I.hok p _ h
 refine hNO ?_; clear hNO
 exact ⟨its,n,r,e,z⟩
theorem Inv.lstUpd {pins:List (Addr × Obj)} {σ:St} {H:Hp} {s:Shared} {p:Addr} {xs ys:List V} {its its':List Value} {n n':Nat} {f:Obj → Obj} (I:Inv X pins σ H s) (h:H p = some (.lst xs))
  (ho:s.heap.get? p = some { cls:=.type "list",data:=.seq its.toArray n }) (hf:f { cls:=.type "list",data:=.seq its.toArray n } = { cls:=.type "list",data:=.seq its'.toArray n' }) (r:Vals ys its') (hz:ys.length ≤ sizeLine) (t:Nat) :
  Inv X pins σ (upd H p (.lst ys)) { s with heap:=s.heap.update p f,toks:=t }:=by
 have e:(s.heap.update p f).get? p = some { cls:=.type "list",data:=.seq its'.toArray n' }:=by
  rw [Heap.get?_update_self f ho (by rw [hf] <;> rfl),hf]
 refine I.write (x:=p) (e:=p) (by rw [h]; trivial) (.inl rfl) (fun b u hb q => (Heap.get?_update_other _ _ (Ne.symm hb)).trans q) ⟨_,e⟩ ?_
 exact ⟨hz,its',n',r,e⟩
noncomputable def rSetL:V → V → V → Hp → (Hp → Prop) → Prop:=fun o i v H Q => ∃ p xs k j,o = .ref p ∧ i = .int k ∧ H p = some (.lst xs) ∧ ixN xs.length k = some j ∧ Q (upd H p (.lst (xs.set j v)))
theorem set_list:PSet X rSetL:=by
 intro pins s σ H o i v ov iv u Q I ro ri rv h
 refine bcn fun hNO => ?_
 obtain ⟨p,xs,k,j,rfl,rfl,hp,hj,q⟩:=h
 cases ro
 obtain ⟨t,rfl⟩:=ri
 obtain ⟨its,n,r,ho,hz⟩:=I.lst hp
 obtain ⟨h1,h2,h3,h4⟩:=ixN_seq hj
 have hl:=r.length
 have hn:=line63
 have I':Inv X pins σ (upd H p (.lst (xs.set j v))) { s with heap:=s.heap.update p (Obj.mapSeq (·.setIfInBounds j u)) } :=
  I.lstUpd hp ho (mapSeq_set its n j u) (r.set rv j) (by rw [List.length_set]; exact hz) s.toks
 refine hNO ?_; clear hNO
 by_cases h0:0 ≤ k
 ·have hk:k.toNat = j:=by
   rw [seqIndex_of h0 h4] at h1
   exact Option.some.inj h1
  exact PySem.W.ki_setAt ho h0 (by lia) (by rw [List.size_toArray,← hl]; exact h4) (by rw [hk]; exact ⟨_,I',q⟩)
 ·have hk:(k + (its.toArray.size:Int)).toNat = j:=by
   rw [seqIndex_neg (by lia) h3] at h1
   rw [List.size_toArray,← hl]
   exact Option.some.inj h1
  exact PySem.W.ki_setBack ho (by lia) (by rw [List.size_toArray,← hl]; exact h3) (by lia) (by rw [hk]; exact ⟨_,I',q⟩)
theorem slice_bounds (lo hi:Option Int) (n:Nat):(sliceBounds lo hi none n).1 = ((HT.sIx n 0 lo:Nat):Int) ∧ (sliceBounds lo hi none n).2.1 = ((HT.sIx n n hi:Nat):Int) ∧ (sliceBounds lo hi none n).2.2 = 1:=by
 refine ⟨?_,?_,rfl⟩
 ·cases lo with
  | none => simp [sliceBounds,HT.sIx]
  | some i =>
   simp only [sliceBounds,HT.sIx,Option.getD_none,show (1:Int) > 0 by decide,if_true]
   by_cases h:i < 0
   ·simp only [h,if_true] <;> lia
   ·simp only [h,if_false] <;> lia
 ·cases hi with
  | none => simp [sliceBounds,HT.sIx]
  | some i =>
   simp only [sliceBounds,HT.sIx,Option.getD_none,show (1:Int) > 0 by decide,if_true]
   by_cases h:i < 0
   ·simp only [h,if_true] <;> lia
   ·simp only [h,if_false] <;> lia
theorem slicePick_cut (its:List Value) (lo hi:Option Int):slicePick its.toArray lo hi none = ((its.drop (HT.sIx its.length 0 lo)).take (HT.sIx its.length its.length hi - HT.sIx its.length 0 lo)).toArray:=by
 refine bcn fun hNO => ?_
 obtain ⟨h1,h2,h3⟩:=slice_bounds lo hi its.toArray.size
 refine hNO ?_; clear hNO
 unfold slicePick
 rw [h1,h2,h3]
 simp only [sliceRange_one,pick_run,List.size_toArray] <;> rfl
noncomputable def rSlL (K:PySem.W.Frag):V → Option Int → Option Int → Hp → VK → Prop:=fun x lo hi H Q => ∃ a xs,x = .ref a ∧ SqL K H a xs ∧ ∀ p,H p = none → Q (.ref p) (upd H p (.lst (cutV xs lo hi)))
theorem sl_list:SlR X (rSlL X.K):=by
 intro pins s σ H x v vl vu lo hi sl Q I rx hs pl pu h
 obtain ⟨a,xs,rfl,hx,q⟩:=h
 cases rx
 obtain ⟨its,r,ht,hz⟩:=I.list hx
 have hlen:=r.length
 refine ⟨"list",_,slot_list_getitem.lookup,ht.isList.typeIs,?_⟩
 refine wpAny_getItem_list_slice ht.isList hs pl pu .none (by simp) ?_ (by rw [List.size_toArray] <;> lia)
 rw [slicePick_cut,← hlen]
 refine ⟨.ref s.heap.objs.size,_,I.laid (t':=s.toks) (o:=.lst (cutV xs lo hi)) (fun b ob q => Heap.get?_push_of_some _ q) (Nat.le_refl _) ?_,rfl,q _ (I.hok.fresh (Nat.le_refl _))⟩
 exact ⟨Nat.le_trans (cutV_length xs lo hi) hz,_,0,(r.drop (HT.sIx xs.length 0 lo)).take (HT.sIx xs.length xs.length hi - HT.sIx xs.length 0 lo),Heap.get?_push_size _ rfl⟩
noncomputable def flatV:V → Bool
 | .non => true
 | .bl _ => true
 | .int _ => true
 | .str _ => true
 | _ => false
noncomputable def eqV:V → V → Bool
 | .non,.non => true
 | .bl a,.bl b => a == b
 | .bl a,.int b => (if a then 1 else 0) == b
 | .int a,.bl b => a == (if b then 1 else 0)
 | .int a,.int b => a == b
 | .str a,.str b => a == b
 | _,_ => false
theorem eqAt_V {A:Around} {s:Shared} {y x:V} {u v:Value} (ry:RelV y u) (rx:RelV x v) (fy:flatV y = true) (fx:flatV x = true):SeqAt.EqAt A s u v (eqV y x):=by
 cases y with
 | non =>
  cases ry
  cases x with
  | non => cases rx; exact SeqAt.EqAt.same _
  | bl b => cases rx; exact SeqAt.EqAt.none_bool b
  | int b => obtain ⟨t,rfl⟩:=rx; exact SeqAt.EqAt.none_int b t
  | str b => obtain ⟨t,rfl⟩:=rx; exact SeqAt.EqAt.none_str b t
  | _ => exact absurd (show false = true from fx) Bool.false_ne_true
 | bl a =>
  cases ry
  cases x with
  | non => cases rx; exact SeqAt.EqAt.bool_none a
  | bl b => cases rx; exact SeqAt.EqAt.bool_bool a b
  | int b => obtain ⟨t,rfl⟩:=rx; exact SeqAt.EqAt.bool_int a b t
  | str b => obtain ⟨t,rfl⟩:=rx; exact SeqAt.EqAt.bool_str a b t
  | _ => exact absurd (show false = true from fx) Bool.false_ne_true
 | int a =>
  obtain ⟨t',rfl⟩:=ry
  cases x with
  | non => cases rx; exact SeqAt.EqAt.int_none a t'
  | bl b => cases rx; exact SeqAt.EqAt.int_bool a t' b
  | int b => obtain ⟨t,rfl⟩:=rx; exact SeqAt.EqAt.int_int a t' b t
  | str b => obtain ⟨t,rfl⟩:=rx; exact SeqAt.EqAt.int_str a t' b t
  | _ => exact absurd (show false = true from fx) Bool.false_ne_true
 | str a =>
  obtain ⟨t',rfl⟩:=ry
  cases x with
  | non => cases rx; exact SeqAt.EqAt.str_none a t'
  | bl b => cases rx; exact SeqAt.EqAt.str_bool a t' b
  | int b => obtain ⟨t,rfl⟩:=rx; exact SeqAt.EqAt.str_int a t' b t
  | str b => obtain ⟨t,rfl⟩:=rx; exact SeqAt.EqAt.str_str a t' b t
  | _ => exact absurd (show false = true from fx) Bool.false_ne_true
 | _ => exact absurd (show false = true from fy) Bool.false_ne_true
noncomputable def eqU (x:V) (u:Value):Bool:=match u with
 | .none => eqV .non x
 | .bool b => eqV (.bl b) x
 | .int i _ => eqV (.int i) x
 | .str z _ => eqV (.str z) x
 | _ => false
theorem eqU_of {x y:V} {u:Value} (r:RelV y u) (f:flatV y = true):eqU x u = eqV y x:=by
 cases y with
 | non => cases r; rfl
 | bl b => cases r; rfl
 | int i => obtain ⟨t,rfl⟩:=r; rfl
 | str z => obtain ⟨t,rfl⟩:=r; rfl
 | _ => exact absurd (show false = true from f) Bool.false_ne_true
theorem any_eqU {x:V}:∀ {xs:List V} {us:List Value},Vals xs us → xs.all flatV = true → us.any (eqU x) = xs.any fun y => eqV y x
 | _,_,.nil,_ => rfl
 | y :: xs,u :: us,.cons r t,f => by
  rw [List.all_cons,Bool.and_eq_true] at f
  rw [List.any_cons,List.any_cons,eqU_of r f.1,any_eqU t f.2]
theorem mem_eqAt {A:Around} {s:Shared} {x:V} {v:Value} (rx:RelV x v) (fx:flatV x = true):∀ {xs:List V} {us:List Value},Vals xs us → xs.all flatV = true → ∀ u ∈ us,SeqAt.EqAt A s u v (eqU x u)
 | _,_,.nil,_ => fun u hu => by cases hu
 | y :: xs,u :: us,.cons r t,f => fun u' hu => by
  rw [List.all_cons,Bool.and_eq_true] at f
  rcases List.mem_cons.mp hu with rfl | hu
  ·rw [eqU_of r f.1]; exact eqAt_V r rx f.1 fx
  ·exact mem_eqAt rx fx t f.2 u' hu
noncomputable def inV (x:V) (xs:List V):Bool:=xs.any fun y => eqV y x
noncomputable def rIn (K:PySem.W.Frag) (neg:Bool):R2:=fun x y H Q => ∃ p xs,y = .ref p ∧ (SqL K H p xs ∨ SqT K H p xs) ∧ flatV x = true ∧ xs.all flatV = true ∧ Q (.bl (if neg then !inV x xs else inV x xs)) H
theorem op_in_seq:OpR X (compareOp .In) (rIn X.K false):=by
 intro pins s σ H x y v u Q I rx ry h
 refine bcn fun hNO => ?_
 obtain ⟨p,xs,rfl,hq,fx,fs,q⟩:=h
 cases ry
 refine hNO ?_; clear hNO
 rcases hq with hq | hq
 ·refine bcn fun hNO => ?_
  obtain ⟨its,r,pl,hz⟩:=I.list hq
  refine hNO ?_; clear hNO
  refine SeqAt.in_listAt (eqU x) pl.isList (fun w hw => mem_eqAt rx fx r fs w (by simpa using hw)) ⟨.bl _,H,I,rfl,?_⟩
  rw [show its.toArray.any (eqU x) = its.any (eqU x) by simp,any_eqU r fs]
  exact q
 ·refine bcn fun hNO => ?_
  obtain ⟨its,r,pl,hz⟩:=I.tuple hq
  refine hNO ?_; clear hNO
  refine SeqAt.in_tupleAt (eqU x) pl (fun w hw => mem_eqAt rx fx r fs w (by simpa using hw)) ⟨.bl _,H,I,rfl,?_⟩
  rw [show its.toArray.any (eqU x) = its.any (eqU x) by simp,any_eqU r fs]
  exact q
theorem call_len_seq:CallR X (.builtin "len") (fun xs H Q => ∃ p ys,xs = [.ref p] ∧ (SqL X.K H p ys ∨ SqT X.K H p ys) ∧ Q (.int ys.length) H):=by
 intro pins s σ H xs us Q I r h
 refine bcn fun hNO => ?_
 obtain ⟨p,ys,rfl,hq,q⟩:=h
 obtain ⟨u,rfl,rx⟩:=vals1 r
 cases rx
 have hn:=line63
 refine hNO ?_; clear hNO
 rcases hq with hq | hq
 ·refine bcn fun hNO => ?_
  obtain ⟨its,r',pl,hz⟩:=I.list hq
  have hlen:=r'.length
  refine hNO ?_; clear hNO
  exact Calls.call_len_list pl.isList (by simp only [List.size_toArray] <;> lia) ⟨.int ys.length,H,I.tok _,⟨s.toks + 1,by rw [List.size_toArray,hlen]⟩,q⟩
 ·refine bcn fun hNO => ?_
  obtain ⟨its,r',pl,hz⟩:=I.tuple hq
  have hlen:=r'.length
  refine hNO ?_; clear hNO
  exact len_tuple pl (by simp only [List.size_toArray] <;> lia) ⟨.int ys.length,H,I.tok _,⟨s.toks + 1,by rw [List.size_toArray,hlen]⟩,q⟩
theorem call_len_str:CallR X (.builtin "len") (fun xs H Q => ∃ z,xs = [.str z] ∧ z.length ≤ sizeLine ∧ Q (.int z.length) H):=by
 intro pins s σ H xs us Q I r h
 obtain ⟨z,rfl,hz,q⟩:=h
 obtain ⟨u,rfl,t,rfl⟩:=vals1 r
 have hn:=line63
 exact len_str (by lia) ⟨.int z.length,H,I.tok _,⟨_,rfl⟩,q⟩
theorem CallR.or {f:Value} {r r':List V → Hp → VK → Prop} (h:CallR X f r) (h':CallR X f r'):CallR X f (fun xs H Q => r xs H Q ∨ r' xs H Q):=by
 intro pins s σ H xs us Q I rs q
 rcases q with q | q
 ·exact h pins s σ H xs us Q I rs q
 ·exact h' pins s σ H xs us Q I rs q
theorem call_list_of:CallR X (.type "list") (fun xs H Q => ∃ p ys,xs = [.ref p] ∧ (SqL X.K H p ys ∨ SqT X.K H p ys) ∧ ∀ l,H l = none → Q (.ref l) (upd H l (.lst ys))):=by
 intro pins s σ H xs us Q I r h
 refine bcn fun hNO => ?_
 obtain ⟨p,ys,rfl,hq,q⟩:=h
 obtain ⟨u,rfl,rx⟩:=vals1 r
 cases rx
 have fin:∀ (its:List Value),Vals ys its → ys.length ≤ sizeLine → ∀ (h':Heap) (c':Nat),(∀ b o',s.heap.get? b = some o' → h'.get? b = some o') →
   h'.get? s.heap.objs.size = some { cls:=.type "list",dict:=none,data:=.seq its.toArray c',slots:=#[] } → EP X pins σ Q (.ref s.heap.objs.size) { s with heap:=h' }:=fun its r' hz h' c' kp e =>
  ⟨.ref s.heap.objs.size,_,I.laid (t':=s.toks) kp (Nat.le_refl _) (show ObjOk X.prog X.w _ h' _ (.lst ys) from ⟨hz,its,c',r',e⟩),rfl,q _ (I.hok.fresh (Nat.le_refl _))⟩
 refine hNO ?_; clear hNO
 rcases hq with hq | hq
 ·refine bcn fun hNO => ?_
  obtain ⟨its,r',pl,hz⟩:=I.list hq
  have hlen:=r'.length
  obtain ⟨o,ho,hc,n,hd⟩:=pl.isList
  refine hNO ?_; clear hNO
  exact call_list_seq p (.inl rfl) ho hc hd (fun h' c' kp e => fin its r' hz h' c' kp e) (by simp only [List.size_toArray] <;> lia)
 ·refine bcn fun hNO => ?_
  obtain ⟨its,r',pl,hz⟩:=I.tuple hq
  have hlen:=r'.length
  obtain ⟨o,ho,hc,n,hd⟩:=pl
  refine hNO ?_; clear hNO
  exact call_list_seq p (.inr rfl) ho hc hd (fun h' c' kp e => fin its r' hz h' c' kp e) (by simp only [List.size_toArray] <;> lia)
theorem call_tuple_of:CallR X (.type "tuple") (fun xs H Q => ∃ p ys,xs = [.ref p] ∧ ((SqL X.K H p ys ∧ ∀ l,H l = none → Q (.ref l) (upd H l (.tup ys))) ∨ (SqT X.K H p ys ∧ Q (.ref p) H))):=by
 intro pins s σ H xs us Q I r h
 obtain ⟨p,ys,rfl,h⟩:=h
 obtain ⟨u,rfl,rx⟩:=vals1 r
 cases rx
 rcases h with ⟨hq,q⟩ | ⟨hq,q⟩
 ·obtain ⟨its,r',pl,hz⟩:=I.list hq
  have hlen:=r'.length
  refine call_tuple_list pl.isList (fun h' kp => ?_) (by simp only [List.size_toArray] <;> lia)
  have I1:Inv X pins σ H { s with heap:=h' }:=I.kept (t':=s.toks) kp
  have I2:Inv X pins σ (upd H h'.objs.size (.tup ys)) { s with heap:=h'.push { cls:=.type "tuple",data:=.seq its.toArray } } :=
   I1.laid (t':=s.toks) (fun b o e => Heap.get?_push_of_some _ e) (Nat.le_refl _) (show ObjOk X.prog X.w _ _ _ (.tup ys) from ⟨hz,its,r',IsTup.new _ _⟩)
  exact ⟨.ref h'.objs.size,_,I2,rfl,q _ (I1.hok.fresh (Nat.le_refl _))⟩
 ·obtain ⟨its,r',pl,hz⟩:=I.tuple hq
  exact call_tuple_same pl ⟨.ref p,H,I,rfl,q⟩
noncomputable def tyV (K:PySem.W.Frag) (T:String) (x:V) (H:Hp):Prop:=match x with
 | .str _ => T = "str"
 | .int _ => T = "int"
 | .ref p => (T = "list" ∧ ∃ xs,SqL K H p xs) ∨ (T = "tuple" ∧ ∃ o,K.lookup p = some o ∧ o.cls = .type "tuple" ∧ o.dict = none) ∨
   (T = "dict" ∧ ((∃ kvs,H p = some (.dK kvs)) ∨ ∃ kvs,H p = some (.dT kvs))) ∨ (T = "set" ∧ ∃ S n,H p = some (.set S n))
 | _ => False
theorem tyV_is {pins:List (Addr × Obj)} {σ:St} {H:Hp} {s:Shared} {T:String} {x:V} {v:Value} (I:Inv X pins σ H s) (r:RelV x v) (ty:tyV X.K T x H) :
  s.TypeIs v T ∧ ∀ a,v = .ref a → ∃ ob,s.heap.get? a = some ob ∧ ob.dict = none:=by
 cases x with
 | str z =>
  obtain ⟨t,rfl⟩:=r
  cases (show T = "str" from ty)
  exact ⟨typeIs_str s z t,fun _ e => nomatch e⟩
 | int i =>
  obtain ⟨t,rfl⟩:=r
  cases (show T = "int" from ty)
  exact ⟨typeIs_int s i t,fun _ e => nomatch e⟩
 | ref p =>
  cases r
  rcases ty with ⟨rfl,xs,hq⟩ | ⟨rfl,o,hk,hc,hd⟩ | ⟨rfl,hk⟩ | ⟨rfl,S,n,hk⟩
  ·obtain ⟨its,_,pl,_⟩:=I.list hq
   refine ⟨pl.isList.typeIs,fun a e => ?_⟩
   cases e
   obtain ⟨o,n,e,c,hd,_⟩:=pl
   exact ⟨o,e,hd⟩
  ·refine ⟨⟨o,I.kIn p o hk,hc⟩,fun a e => ?_⟩
   cases e
   exact ⟨o,I.kIn _ o hk,hd⟩
  ·have z:∃ o,s.heap.get? p = some o ∧ o.ExactDict:=by
    rcases hk with ⟨kvs,hk⟩ | ⟨kvs,hk⟩
    ·obtain ⟨_,_,_,_,o,_,_,e,ex,_⟩:=I.hok p _ hk
     exact ⟨o,e,ex⟩
    ·obtain ⟨_,_,_,_,o,_,_,e,ex,_⟩:=I.hok p _ hk
     exact ⟨o,e,ex⟩
   obtain ⟨o,e,ex⟩:=z
   refine ⟨⟨o,e,ex.1⟩,fun a e2 => ?_⟩
   cases e2
   exact ⟨o,e,ex.2.1⟩
  ·obtain ⟨o,_,_,_,e,ex,_⟩:=I.hok p _ hk
   refine ⟨⟨o,e,ex.1⟩,fun a e2 => ?_⟩
   cases e2
   exact ⟨o,e,ex.2.1⟩
 | _ => exact False.elim ty
noncomputable def tBM0 (K:PySem.W.Frag) (T:String) (r:V → List V → Hp → VK → Prop) (to:TE):TE:=fun σ H Q => to σ H fun x H1 => tyV K T x H1 ∧ r x [] H1 Q
noncomputable def tBM (K:PySem.W.Frag) (T:String) (r:V → List V → Hp → VK → Prop) (to:TE) (t:TA):TE:=fun σ H Q => to σ H fun x H1 => tyV K T x H1 ∧ t σ H1 fun xs H2 => r x xs H2 Q
variable {o e:Expr} {es:List Expr} {to:TE} {t:TA} {name:Str} {apos cpos:Pos} {T id:String} {r:V → List V → Hp → VK → Prop}
theorem pe_bm0 (pa:PlainAttrs T) (slot:Slot T name id) (hty:typeOf (.builtin id) = pure (.type "method_descriptor")) (hm:MtR X id r) (ho:PE X o to)
  (hbase:attributeBase o name X.env (eval o X.env) = eval o X.env:=by rfl) (hline:(apos.endLine == cpos.line) = true:=by rfl):PE X (.Call (.Attribute o name apos) [] [] cpos) (tBM0 X.K T r to):=by
 intro pins s σ H Q I h
 refine wpAny_Call_method0_late hbase hline (thn (ho pins s σ H _ I h) fun v s1 ⟨x,H1,I1,r1,ty,q1⟩ => ?_)
 obtain ⟨h1,h2⟩:=tyV_is I1 r1 ty
 exact ⟨T,id,pa,slot,hty,h1,h2,Calls.callWith_builtin rfl (PySem.evalArgs_none (hm pins s1 σ H1 x [] v [] Q I1 r1 .nil q1))⟩
theorem pe_bm (pa:PlainAttrs T) (slot:Slot T name id) (hty:typeOf (.builtin id) = pure (.type "method_descriptor")) (hm:MtR X id r) (ho:PE X o to) (ha:PA X (e :: es) t)
  (hbase:attributeBase o name X.env (eval o X.env) = eval o X.env:=by rfl)
  (hfew:((backTo cpos (starEach (e :: es) X.env)).all (fun x => !x.1) && (backToKw cpos (keywordEach [] X.env)).all (fun x => x.1.isSome)
   && decide ((e :: es).length + ([]:List Keyword).length + (if ([]:List Keyword).isEmpty then 0 else 1) < 30)) = true:=by rfl)
  (hline:(apos.endLine == cpos.line) = true:=by rfl) (hs:starEach (e :: es) X.env = (false,eval e X.env) :: starEach es X.env:=by rfl) (hplain:(backTo cpos (starEach es X.env)).any (·.1) = false:=by rfl) :
  PE X (.Call (.Attribute o name apos) (e :: es) [] cpos) (tBM X.K T r to t):=by
 intro pins s σ H Q I h
 refine wpAny_Call_method_late hbase hfew hline rfl (thn (ho pins s σ H _ I h) fun v s1 ⟨x,H1,I1,r1,ty,q1⟩ => ?_)
 obtain ⟨h1,h2⟩:=tyV_is I1 r1 ty
 refine ⟨T,id,pa,slot,hty,h1,h2,?_⟩
 have hA:=ha cpos pins s1 σ H1 _ I1 q1
 rw [hs] at hA ⊢
 refine Calls.callWith_builtin (by show (false || (backTo cpos (starEach es X.env)).any (·.1)) = false; rw [hplain] <;> rfl) (Calls.evalArgs_plain ?_)
 exact thn hA fun us s2 ⟨vs,H2,I2,r2,q2⟩ => hm pins s2 σ H2 x vs v us Q I2 r1 r2 q2
end
end L2
namespace L2
open PySem PySem.Spec PyProof.Rows
noncomputable def MtM (X:Cx) (id:String) (r:V → List V → Hp → VK → Prop):Prop :=
 ∀ (pins:List (Addr × Obj)) (s:Shared) (σ:St) (H:Hp) (x:V) (xs:List V) (v:Value) (us:List Value) (Q:VK),Inv X pins σ H s → RelV x v → Vals xs us → r x xs H Q →
  wpAny (model X.prog X.w) X.A (call (.builtin id) (v :: us)) (EP X pins σ Q) X.xe s
theorem Vals.one {x:V} {us:List Value} (p:Vals [x] us):∃ u,us = [u] ∧ RelV x u:=by
 cases p with
 | cons r t => cases t; exact ⟨_,rfl,r⟩
theorem Vals.two {x y:V} {us:List Value} (p:Vals [x,y] us):∃ u v,us = [u,v] ∧ RelV x u ∧ RelV y v:=by
 cases p with
 | cons r t =>
  obtain ⟨v,z,q⟩:=Vals.one t
  rw [z]
  exact ⟨_,v,rfl,r,q⟩
theorem Vals.zero:∀ {us:List Value},Vals [] us → us = []
 | _,.nil => rfl
theorem Vals.dropLast {xs:List V} {us:List Value} (h:Vals xs us):Vals xs.dropLast us.dropLast:=by
 induction h with
 | nil => exact .nil
 | cons r t ih =>
  cases t with
  | nil => exact .nil
  | cons q t' => exact .cons r ih
theorem Vals.rep {xs:List V} {us:List Value} (h:Vals xs us):∀ k:Nat,Vals (List.replicate k xs).flatten (List.replicate k us).flatten
 | 0 => .nil
 | k + 1 => by
  rw [List.replicate_succ,List.replicate_succ,List.flatten_cons,List.flatten_cons]
  exact Vals.append h (Vals.rep h k)
theorem erase_last {α:Type} (l:List α):l.eraseIdx (l.length - 1) = l.dropLast:=by
 induction l with
 | nil => rfl
 | cons a r ih =>
  cases r with
  | nil => rfl
  | cons b r =>
   have e:(a :: b :: r).length - 1 = ((b :: r).length - 1) + 1:=by
    have h1:(a :: b :: r).length = r.length + 2:=rfl
    have h2:(b :: r).length = r.length + 1:=rfl
    lia
   rw [e,List.eraseIdx_cons_succ,ih]
   all_goals rfl
theorem foldl_rep (its:List Value):∀ (k:Nat) (acc:List Value),
  List.foldl (fun x1 x2 => x1 ++ x2) acc.toArray (List.replicate k its.toArray) = (acc ++ (List.replicate k its).flatten).toArray
 | 0,acc => by simp
 | k + 1,acc => by
  have e:acc.toArray ++ its.toArray = (acc ++ its).toArray:=by simp
  have e2:(acc ++ its) ++ (List.replicate k its).flatten = acc ++ (List.replicate (k + 1) its).flatten:=by
   rw [List.replicate_succ,List.flatten_cons,List.append_assoc]
  rw [← e2,← foldl_rep its k (acc ++ its),← e,List.replicate_succ,List.foldl_cons]
section
variable {X:Cx} {pins:List (Addr × Obj)} {σ:St} {H:Hp} {s:Shared} {l b:Addr} {xs ys zs:List V}
theorem Inv.lset {its its':List Value} {n:Nat} {f:Array Value → Array Value} {t':Nat} (I:Inv X pins σ H s) (hH:H l = some (.lst xs))
  (e:s.heap.get? l = some { cls:=.type "list",data:=.seq its.toArray n }) (hf:f its.toArray = its'.toArray) (hv:Vals ys its') (hz:ys.length ≤ sizeLine) :
  Inv X pins σ (upd H l (.lst ys)) { s with heap:=s.heap.update l (Obj.mapSeq f),toks:=t' }:=by
 have q:=PySem.IsL.update e f
 rw [hf] at q
 refine I.write (x:=l) (e:=l) (by rw [hH]; exact trivial) (.inl rfl) (fun b' u hb hu => (Heap.get?_update_other s.heap (Obj.mapSeq f) (Ne.symm hb)).trans hu) ⟨_,q⟩ ?_
 exact ⟨hz,its',_,hv,q⟩
theorem Inv.lnew {its:List Value} {t':Nat} (I:Inv X pins σ H s) (hv:Vals ys its) (hz:ys.length ≤ sizeLine) :
  Inv X pins σ (upd H s.heap.objs.size (.lst ys)) { s with heap:=s.heap.push { cls:=.type "list",data:=.seq its.toArray },toks:=t' } :=
 I.laid (fun _ _ q => Heap.get?_push_of_some _ q) (Nat.le_refl _) ⟨hz,its,0,hv,Heap.get?_push_size _ rfl⟩
theorem Inv.fresh (I:Inv X pins σ H s):H s.heap.objs.size = none:=I.hok.fresh (Nat.le_refl _)
theorem Inv.lstM (I:Inv X pins σ H s) (hH:H l = some (.lst xs)):xs.length ≤ sizeLine ∧ ∃ (its:List Value) (n:Nat),Vals xs its ∧ xs.length = its.length ∧ s.heap.get? l = some { cls:=.type "list",data:=.seq its.toArray n }:=by
 refine bcn fun hNO => ?_
 obtain ⟨z,its,n,r,e⟩:=I.hok l _ hH
 refine hNO ?_; clear hNO
 exact ⟨z,its,n,r,r.length,e⟩
theorem notLongL {n:Nat} (h:n ≤ sizeLine):Builtin.List.listTooLong n = false:=by
 unfold Builtin.List.listTooLong
 exact decide_eq_false (by lia)
end
section
variable {X:Cx}
noncomputable def rAppend:V → List V → Hp → VK → Prop:=fun x vs H Q => ∃ l xs y,x = .ref l ∧ vs = [y] ∧ H l = some (.lst xs) ∧ xs.length < sizeLine ∧ Q .non (upd H l (.lst (xs ++ [y])))
theorem mt_append:MtM X "list.append" rAppend:=by
 intro pins s σ H x vs v us Q I rx rv h
 refine bcn fun hNO => ?_
 obtain ⟨l,xs,y,rfl,rfl,hH,hz,q⟩:=h
 cases rx
 obtain ⟨u,rfl,ru⟩:=rv.one
 obtain ⟨z,its,n,r,hl,e⟩:=I.lstM hH
 refine hNO ?_; clear hNO
 refine call_meets F.slot_list_append ⟨_,e,rfl⟩ F.entry_list_append (F.args_list_append_2 _ _) (PySem.list_append l its.toArray n u (by rw [List.size_toArray]; lia)) ⟨e,?_⟩
 refine ⟨.non,_,I.lset (its':=its ++ [u]) hH e (by simp) (r.append (.cons ru .nil)) ?_,rfl,q⟩
 rw [List.length_append,List.length_singleton]
 lia
noncomputable def rExtend:V → List V → Hp → VK → Prop:=fun x vs H Q => ∃ l b xs zs,x = .ref l ∧ vs = [.ref b] ∧ H l = some (.lst xs) ∧ H b = some (.lst zs) ∧ xs.length + zs.length ≤ sizeLine ∧ Q .non (upd H l (.lst (xs ++ zs)))
noncomputable def rPop:V → List V → Hp → VK → Prop:=fun x vs H Q => ∃ l xs y,x = .ref l ∧ vs = [] ∧ H l = some (.lst xs) ∧ xs[xs.length - 1]? = some y ∧ Q y (upd H l (.lst xs.dropLast))
theorem mt_pop:MtM X "list.pop" rPop:=by
 intro pins s σ H x vs v us Q I rx rv h
 refine bcn fun hNO => ?_
 obtain ⟨l,xs,y,rfl,rfl,hH,hy,q⟩:=h
 cases rx
 have hus:=rv.zero
 subst hus
 obtain ⟨z,its,n,r,hl,e⟩:=I.lstM hH
 obtain ⟨u,hu,ru⟩:=r.get hy
 have hy':its.toArray[its.toArray.size - 1]? = some u:=by
  show its.toArray[its.length - 1]? = some u
  rw [← Array.getElem?_toList,← hl]
  exact hu
 refine hNO ?_; clear hNO
 refine call_meets F.slot_list_pop ⟨_,e,rfl⟩ F.entry_list_pop (F.args_list_pop_1 _) (MeetsSeq.list_pop_last l its.toArray n u hy' (by rw [List.size_toArray]; lia)) ⟨e,?_⟩
 refine ⟨y,_,I.lset (its':=its.dropLast) hH e ?_ r.dropLast ?_,ru,q⟩
 ·show its.toArray.eraseIdxIfInBounds (its.toArray.size - 1) = its.dropLast.toArray
  rw [List.size_toArray,List.eraseIdxIfInBounds_toArray,erase_last]
 ·rw [List.length_dropLast]
  lia
noncomputable def rCat:R2:=fun x y H Q => ∃ l b xs zs,x = .ref l ∧ y = .ref b ∧ H l = some (.lst xs) ∧ H b = some (.lst zs) ∧ xs.length + zs.length ≤ sizeLine ∧ ∀ p,H p = none → Q (.ref p) (upd H p (.lst (xs ++ zs)))
theorem op_cat:OpR X (binaryOp .Add) rCat:=by
 intro pins s σ H x y v u Q I rx ry h
 refine bcn fun hNO => ?_
 obtain ⟨l,b,xs,zs,rfl,rfl,hH,hB,hz,q⟩:=h
 cases rx
 cases ry
 obtain ⟨z,its,n,r,hl,e⟩:=I.lstM hH
 obtain ⟨z2,its2,n2,r2,hl2,e2⟩:=I.lstM hB
 refine hNO ?_; clear hNO
 refine PySem.P.add_list e e2 ?_ (by rw [List.size_toArray,List.size_toArray]; lia)
 have ea:its.toArray ++ its2.toArray = (its ++ its2).toArray:=by simp
 rw [ea]
 exact ⟨.ref _,_,I.lnew (t':=s.toks) (r.append r2) (by rw [List.length_append]; lia),rfl,q _ I.fresh⟩
noncomputable def rRep:R2:=fun x y H Q => ∃ l k xs,x = .ref l ∧ y = .int k ∧ H l = some (.lst xs) ∧ -(2 ^ 63) ≤ k ∧ k < 2 ^ 63 ∧ xs.length * k.toNat ≤ sizeLine ∧
 ∀ p,H p = none → Q (.ref p) (upd H p (.lst (List.replicate k.toNat xs).flatten))
theorem len_rep {α:Type} (xs:List α) (k:Nat):(List.replicate k xs).flatten.length = k * xs.length:=by
 induction k with
 | zero => simp
 | succ k ih => rw [List.replicate_succ,List.flatten_cons,List.length_append,ih,Nat.succ_mul,Nat.add_comm]
theorem op_rep:OpR X (binaryOp .Mult) rRep:=by
 intro pins s σ H x y v u Q I rx ry h
 refine bcn fun hNO => ?_
 obtain ⟨l,k,xs,rfl,rfl,hH,h1,h2,hz,q⟩:=h
 cases rx
 obtain ⟨t,rfl⟩:=ry
 obtain ⟨z,its,n,r,hl,e⟩:=I.lstM hH
 refine hNO ?_; clear hNO
 have hlen:its.toArray.size * k.toNat ≤ sizeLine:=by rw [List.size_toArray,← hl]; exact hz
 have hcap:¬ its.toArray.size * k.toNat > (2 ^ 63 - 1) / 8:=by
  have:(sizeLine:Nat) ≤ (2 ^ 63 - 1) / 8:=by decide
  lia
 have hfit:¬ (!Builtin.List.listFitsIndex k) = true:=by
  rw [fitsIndex_both h1 h2]
  exact Bool.false_ne_true
 have hlong:¬ Builtin.List.listTooLong (its.toArray.size * k.toNat) = true:=by
  rw [notLongL hlen]
  exact Bool.false_ne_true
 have hnew:List.foldl (fun x1 x2 => x1 ++ x2) #[] (List.replicate (if its.toArray.isEmpty = true then 0 else k.toNat) its.toArray) = (List.replicate k.toNat its).flatten.toArray:=by
  have f0:∀ m:Nat,List.foldl (fun x1 x2 => x1 ++ x2) #[] (List.replicate m its.toArray) = (List.replicate m its).flatten.toArray:=fun m => by
   have:=foldl_rep its m []
   rw [List.nil_append] at this
   exact this
  rw [f0]
  cases its with
  | nil => simp
  | cons a r' => rw [if_neg (by simp)]
 refine wpAny_binaryOp_repeat_ref (T:="list") (U:="int") (by decide) ⟨_,e,rfl⟩ (fun s' => typeIs_int s' k t) noFill_list_mul F.fills_int_mul F.slot_int_rmul repeat_list F.slot_int_index.lookup
  (call_meets F.slot_int_rmul (typeIs_int s k t) F.entry_int_rmul (F.args_int_rmul_2 _ _) (int___rmul___int_list k t l its.toArray n)
   ⟨e,rfl,⟨_,e,rfl⟩,call_meets F.slot_list_mul ⟨_,e,rfl⟩ F.entry_list_mul (F.args_list_mul_2 _ _) (AutoListH.list___mul___list_int_3 l its.toArray n k t hfit hcap hlong) ⟨e,?_⟩⟩)
 rw [hnew]
 exact ⟨.ref _,_,I.lnew (t':=s.toks) (r.rep k.toNat) (by rw [len_rep,Nat.mul_comm]; exact hz),rfl,q _ I.fresh⟩
end
section
variable {prog:Program} {w:World} {A:Around} {E:Value → Shared → Prop} {s:Shared}
set_option maxRecDepth 100000 in
end
section
variable {X:Cx}
end
end L2
namespace Att
open PySem PySem.W PySem.Calls PyProof.Rows
theorem ints_of_wellAll {P:Params} {h:Heap}:∀ (ns:List Int) (vs:List Value),WellAll P h vs (ns.map WData.int) → IntsAre vs ns:=by
 intro ns
 induction ns with
 | nil =>
  intro vs w
  rw [List.map_nil] at w
  cases w
  exact .nil
 | cons n ns ih =>
  intro vs w
  rw [List.map_cons] at w
  cases w with
  | cons a b =>
   cases a
   exact .cons _ _ (ih _ b)
theorem script_of {l:OpenLaw} {n:Nat} (hn:l.most = some n) {P:Params} {h:Heap} {args:List WData} {vals:List Value}
  (hpre:l.row.toRowW.claim.pre args = true) (hwl:WellAll P h vals args) :
  ∃ a vs ns,vals = [Value.ref a] ∧ args = [WData.list (ns.map WData.int)] ∧ h.get? a = some { cls:=.type "list",data:=.seq vs.toArray } ∧ IntsAre vs ns ∧ ns.length ≤ n:=by
 refine bcn fun hNO => ?_
 have hsh:WShape.hasAll [] args [.list .int] = true:=(pre_splitW hpre).1
 have hc:l.pre.holds [] { args:=args } = true:=(pre_splitW hpre).2
 obtain ⟨d,r,rfl,h1,h2⟩:=hasAllW_cons hsh
 refine hNO ?_; clear hNO
 obtain rfl:=hasAllW_nil h2
 refine bcn fun hNO => ?_
 obtain ⟨xs,rfl,h3⟩:=hasW_list h1
 obtain ⟨ns,rfl⟩:=items_int h3
 have hlen:ns.length ≤ n:=by
  unfold OpenLaw.pre at hc
  have h4:(WTm.not (.lt (.lit (.int (n:Int))) (.len (.arg 0)))).holds [] { args:=[.list (ns.map .int)] } = true:=by
   have h4:=(holds_andW hc).1
   rw [hn] at h4
   exact h4
  have h5:=condW_of h4 (w_not (w_lt w_lit (w_len_list (w_arg rfl))))
  rw [List.length_map] at h5
  refine Nat.le_of_not_lt fun q => ?_
  have q':(n:Int) < ((ns.length:Nat):Int):=by omega
  first
   | (rw [decide_eq_true q'] at h5; exact absurd h5 (by decide))
   | (simp at h5; omega)
 refine hNO ?_; clear hNO
 cases hwl with
 | cons w1 w2 =>
  cases w2
  cases w1 with
  | list ho hall => exact ⟨_,_,ns,rfl,rfl,ho,ints_of_wellAll ns _ hall,hlen⟩
theorem post_true (l:OpenLaw) (args:List WData):l.row.toRowW.claim.post args (.bool true) args = true :=
 postW_of (r:=l.row.toRowW) (X:=(true == true))
  (show WShape.has [] (.bool true) .bool = true by first | rfl | decide | simp [WShape.has,WShape.arms,WShape.armsAll])
  (show (WTm.eq .res (.lit (.bool true))).value [] { args:=args,res:=some (.bool true),after:=args } = some (.bool (true == true)) from w_eq_bool (w_res rfl) w_lit) rfl
theorem attach_call {l:OpenLaw} {n:Nat} {q:Program} {loose:List Str} {XP:(Str → Option Value) → Heap → Prop} {YP:World → Heap → Prop} {d:DefRec}
  (hn:l.most = some n) (hdf:d.params.defaults = [])
  (call:∀ (w:World) (s₀ s₁:Shared) (mg mb:Str → Option Value) (fa:Addr) (o:Obj) (pm cd doc:Value) (a:Addr) (vs:List Value) (ns:List Int),
   Ground q loose [] XP w s₀ mg mb s₁.heap → YP w s₁.heap →
   s₁.heap.get? fa = some o → o.data = .func (docDef d.name d.params d.body d.scope pm cd doc) → s₁.heap.CodeRec cd d.name → mg d.name = some (.ref fa) →
   s₁.heap.get? a = some { cls:=.type "list",data:=.seq vs.toArray } → IntsAre vs ns → ns.length ≤ n → s₁.gens = #[] →
   codeAny (model l.prog w) callerA (.call (.ref fa) ⟨[.ref a],[]⟩) (fun r s' => r = .ok (.ret (.bool true)) ∧ OldK s₁.heap s'.heap ∧ s'.os = s₁.os ∧ AllBare s'.gens) s₁) :
  WalkO q loose XP YP l.row.toRowW d [] (fun f vs => PySem.call f vs):=by
 intro w s₀ s₁ mg mb G Y fa o pm cd doc dV kV ho hd hcd hD hmg hg args vals as hpre hlay hrd hwl hlo
 obtain rfl:dV = .none:=Dflts.none hD hdf
 obtain rfl:kV = .none:=Dflts.noKw hD
 refine bcn fun hNO => ?_
 obtain ⟨a,vs,ns,rfl,rfl,hobj,hints,hlen⟩:=script_of hn hpre hwl
 refine hNO ?_; clear hNO
 refine enter_call (codeAny_mono (call w s₀ s₁ mg mb fa o pm cd doc a vs ns G Y ho (fd_plain hd) hcd hmg hobj hints hlen hg) fun r s' hq => ?_)
 refine bcn fun hNO => ?_
 obtain ⟨rfl,h2,h3,h4⟩:=hq
 refine hNO ?_; clear hNO
 exact ⟨.inl ⟨.bool true,.bool true,[],rfl,fun _ => rfl,.bool true,post_true l _,fun _ => ⟨List.Pairwise.nil,fun _ hm => (nomatch hm)⟩⟩,h2,h3,h4⟩
section
variable {prog:Program} {w:World} {A:Around} {E:Value → Shared → Prop} {s:Shared} {K:Frag}
end
end Att
namespace L2
open PySem PySem.Spec PyProof.Rows
theorem vals_ints:∀ {vs:List Value} {ns:List Int},IntsAre vs ns → Vals (ns.map V.int) vs
 | _,_,.nil => .nil
 | _,_,.cons n t h => .cons ⟨t,rfl⟩ (vals_ints h)
noncomputable def Only (H:Hp):Prop:=∀ b,H b = none ∨ ∃ o xs,H b = some (.frz o (.lst xs))
theorem law_call {P:Program} {w:World} {K:PySem.W.Frag} {mg mb:Str → Option Value} {CX:CXT} {k:Nat} {fa a:Addr} {fd:FuncData} {x:Str} {sp:Sp} {s₁:Shared} {vs:List Value} {ns:List Int}
  (KX:K.In s₁.heap) (hns:s₁.heap.Ns mainGlobals mg) (hb:s₁.heap.Ns builtinsNs mb) (hbb:∀ x:Str,x ≠ "__name__" → mb x = bootBuiltins x) (hlim:s₁.heap.NoLimit) (hg:s₁.gens = #[])
  (ha:s₁.heap.get? a = some { cls:=.type "list",data:=.seq vs.toArray }) (hi:IntsAre vs ns) (hl:ns.length ≤ sizeLine) (hr:Room k callerA)
  (F:∀ base:Heap,K.In base → base.Ns mainGlobals mg → FnOk P w K mg base CX k fa fd [x] sp) (hbind:∀ (s:Shared) (u:Value),BindsTo s fd ⟨[u],[]⟩ [(x,u)])
  (hsp:∀ H:Hp,Only H → SqL K H a (ns.map V.int) → sp [.ref a] H (fun v _ => v = .bl true) fun _ _ _ => False)
  (hCX:∀ H e s',CX [] H s₁ (fun _ _ _ => False) e s' → False) :
  codeAny (model P w) callerA (.call (.ref fa) ⟨[.ref a],[]⟩) (fun r s' => r = .ok (.ret (.bool true)) ∧ OldK s₁.heap s'.heap ∧ s'.os = s₁.os ∧ AllBare s'.gens) s₁:=by
 have rv:=vals_ints hi
 have lenV:=hi.length
 -- from an abstract heap in which nothing but the script may be tracked
 have core:∀ H:Hp,Only H → SqL K H a (ns.map V.int) → HOk P w H s₁.heap → (∀ b,H b ≠ none → b = a) → (H a ≠ none → K.lookup a = none) →
   codeAny (model P w) callerA (.call (.ref fa) ⟨[.ref a],[]⟩) (fun r s' => r = .ok (.ret (.bool true)) ∧ OldK s₁.heap s'.heap ∧ s'.os = s₁.os ∧ AllBare s'.gens) s₁:=by
  intro H hO hS hok hA hK
  have base_of:∀ {b:Addr} {o:Obj},s₁.heap.get? b = some o → H b = none → (hidT s₁.heap H).get? b = some o:=fun e n => hidT_get e n
  have noA:∀ {b:Addr} {o:Obj} {es:Array DictEntry} {ep:Nat},s₁.heap.get? b = some o → o.data = .dict es ep → H b = none:=fun {b o es ep} e d => by
   cases q:H b with
   | none => rfl
   | some u =>
    have e':b = a:=hA b (by rw [q]; simp)
    subst e'
    rw [ha] at e; cases e
    have d':Data.seq vs.toArray _ = Data.dict es ep:=d
    cases d'
  have nsK:∀ {b:Addr} {m:Str → Option Value},s₁.heap.Ns b m → (hidT s₁.heap H).Ns b m:=fun {b m} ⟨o,es,ep,e,d,r⟩ => ⟨o,es,ep,base_of e (noA e d),d,r⟩
  have hKb:K.In (hidT s₁.heap H):=fun b o e => base_of (KX b o e) (by
   cases q:H b with
   | none => rfl
   | some u =>
    have e':b = a:=hA b (by rw [q]; simp)
    subst e'
    rw [hK (by rw [q]; simp)] at e; cases e)
  have hM:Mod K mg (hidT s₁.heap H):=⟨hKb,nsK hns,⟨mb,nsK hb,hbb⟩,let ⟨mc,h1,h2⟩:=hlim; ⟨mc,nsK h1,h2⟩⟩
  have e0:Env0 P w K mg (hidT s₁.heap H) callerA [] s₁ H:=⟨rfl,hM,fun b o e => of_hidT e,Nat.le_of_eq (hidT_size _ _),trivial,fun b hb => absurd (show b ∈ ([]:List Addr) from hb) (by simp),hok,.of_eq hg⟩
  refine codeAny_mono ((F _ hKb (nsK hns)).run callerA [] s₁ H ⟨[.ref a],[]⟩ [.ref a] [.ref a] _ _ hr e0 (hbind s₁ (.ref a)) (.cons rfl .nil) (hsp H hO hS)) fun r s' h => ?_
  cases r with
  | error e => exact (hCX H e s' h).elim
  | ok fl =>
   cases fl with
   | next => exact False.elim h
   | brk => exact False.elim h
   | cont => exact False.elim h
   | ret u =>
    obtain ⟨v,H',os,bare,un,hok',r',q⟩:=h
    have q':v = .bl true:=q
    subst q'
    obtain rfl:u = Value.bool true:=r'
    refine ⟨rfl,OldK.of_keep fun b o e => ?_,os,bare⟩
    cases q:H b with
    | none => exact un.keep b o e q (by intro z; exact absurd (show b ∈ ([]:List Addr) from z) (by simp)) (by simp)
    | some u =>
     rcases hO b with z | ⟨ob,xs,z⟩
     ·rw [q] at z; cases z
     ·have z2:=un.frzs b ob _ z
      obtain ⟨e1,_⟩:=hok b _ z
      obtain ⟨e2,_⟩:=hok' b _ z2
      rw [e] at e1; cases e1
      exact e2
 cases hk:K.lookup a with
 | some o =>
  -- the script is one of the module's own objects
  have e:=KX a o hk
  rw [ha] at e
  cases e
  refine core (fun _ => none) (fun _ => .inl rfl) (.inr ⟨_,vs.toArray,_,hk,rfl,rfl,rfl,by rw [List.size_toArray,lenV]; exact hl,by simpa using rv⟩) (fun b u z => by have z':(none:Option HO) = some u:=z; cases z') (fun b z => absurd rfl z) fun z => absurd rfl z
 | none =>
  refine core (fun b => if b = a then some (.frz { cls:=.type "list",data:=.seq vs.toArray } (.lst (ns.map V.int))) else none) (fun b => ?_) (.inl (.inr ⟨{ cls:=.type "list",data:=.seq vs.toArray },if_pos rfl⟩)) (fun b u z => ?_) (fun b z => ?_) fun _ => hk
  ·by_cases hb:b = a
   ·exact .inr ⟨_,_,if_pos hb⟩
   ·exact .inl (if_neg hb)
  ·by_cases hb:b = a
   ·have z':=(if_pos hb).symm.trans z
    cases z'
    subst hb
    exact ⟨ha,by rw [List.length_map]; exact hl,vs,_,rv,ha⟩
   ·have z':=(if_neg hb).symm.trans z
    cases z'
  ·by_cases hb:b = a
   ·exact hb
   ·exact absurd (if_neg hb) z
end L2
namespace L2
open PySem PySem.Spec PyProof.Rows
theorem walk_of {l:PySem.W.OpenLaw} {n k:Nat} {q:Program} {loose:List Str} {XP:(Str → Option Value) → Heap → Prop} {YP:World → Heap → Prop} {d:DefRec} {K:Params → PySem.W.Frag} {CX:World → CXT} {sp:World → Sp} {x:Str}
  (hn:l.most = some n) (hn2:n ≤ sizeLine) (hdf:d.params.defaults = []) (hr:Room k callerA)
  (hY:∀ (w:World) (h:Heap),YP w h → (K w.params).In h)
  (F:∀ (w:World) (mg:Str → Option Value) (fa:Addr) (h:Heap),(K w.params).In h → h.Ns mainGlobals mg → mg d.name = some (.ref fa) →
   ∃ fd:FuncData,(∀ (s:Shared) (u:Value),BindsTo s fd ⟨[u],[]⟩ [(x,u)]) ∧
    ∀ base:Heap,(K w.params).In base → base.Ns mainGlobals mg → FnOk l.prog w (K w.params) mg base (CX w) k fa fd [x] (sp w))
  (hsp:∀ (w:World) (H:Hp) (a:Addr) (ns:List Int),ns.length ≤ n → Only H → SqL (K w.params) H a (ns.map V.int) → sp w [.ref a] H (fun v _ => v = .bl true) fun _ _ _ => False)
  (hCX:∀ (w:World) (H:Hp) (s:Shared) (e:Value) (s':Shared),CX w [] H s (fun _ _ _ => False) e s' → False) :
  PySem.W.WalkO q loose XP YP l.row.toRowW d [] (fun f vs => PySem.call f vs):=by
 refine Att.attach_call hn hdf fun w s₀ s₁ mg mb fa o pm cd doc a vs ns G Y ho hd hcd hmg hobj hints hlen hg => ?_
 refine bcn fun hNO => ?_
 have KX:=hY w _ Y
 obtain ⟨fd,hb,hF⟩:=F w mg fa _ KX G.T.g hmg
 refine hNO ?_; clear hNO
 exact law_call KX G.T.g G.T.b G.T.builtins G.T.nolimit hg hobj hints (Nat.le_trans hlen hn2) hr hF hb (fun H hO hS => hsp w H a ns hlen hO hS) fun H e s' => hCX w H s₁ e s'
end L2
namespace L2
open PySem PySem.Spec PyProof.Rows
noncomputable def defArgs (s:Stmt):Arguments:=match s with
 | .FunctionDef _ a _ _ _ _ _ _ _ _ => a
 | _ => { posonlyargs:=[],args:=[],vararg:=none,kwonlyargs:=[],kw_defaults:=[],kwarg:=none,defaults:=[] }
noncomputable def defBody (s:Stmt):List Stmt:=match s with
 | .FunctionDef _ _ b _ _ _ _ _ _ _ => b
 | _ => []
noncomputable def defScope (s:Stmt):Scope:=match s with
 | .FunctionDef _ _ _ _ _ _ sc _ _ _ => sc
 | _ => { kind:=.function,names:=[],isGenerator:=false,isCoroutine:=false }
noncomputable abbrev E0:XK:=fun _ _ _ => False
structure Fun (K:PySem.W.Frag) (x qual:Str) (st:Stmt) (f:Addr) (fd:FuncData):Prop where
 ex:∃ (oc:Value) (od:Option Addr) (kV doc pm:Value) (an:Option Addr) (cdv ct:Value) (osl:Array (Option Value)),
  fd = PySem.W.fnOf x qual (defArgs st) (defBody st) (defScope st) .none kV doc pm an cdv ct ∧ K.lookup f = some ⟨oc,od,.func fd,osl⟩ ∧ PySem.W.codeIn K cdv qual = true
 kp:PySem.W.keepIn K (.ref f) = true
section
variable {P:Program} {w:World} {K:PySem.W.Frag} {mg:Str → Option Value} {base:Heap}
theorem Fun.binds {x qual:Str} {st:Stmt} {f:Addr} {fd:FuncData} {ps:List Str} (F:Fun K x qual st f fd)
  (h:∀ (kV doc pm:Value) (an:Option Addr) (cdv ct:Value) (us:List Value),us.length = ps.length → bindArgs (PySem.W.fnOf x qual (defArgs st) (defBody st) (defScope st) .none kV doc pm an cdv ct) ⟨us,[]⟩ = pure (ps.zip us)):Binds K fd ps []:=by
 obtain ⟨oc,od,kV,doc,pm,an,cdv,ct,osl,rfl,lk,hcd⟩:=F.ex
 exact .all (h kV doc pm an cdv ct)
theorem fun_mk {x qual:Str} {st:Stmt} {f:Addr} {oc:Value} {od an:Option Addr} {osl:Array (Option Value)} {kV doc pm cdv ct:Value} (l:K.lookup f = some ⟨oc,od,.func (PySem.W.fnOf x qual (defArgs st) (defBody st) (defScope st) .none kV doc pm an cdv ct),osl⟩)
  (c:PySem.W.codeIn K cdv qual = true) (k:PySem.W.keepIn K (.ref f) = true):Fun K x qual st f (PySem.W.fnOf x qual (defArgs st) (defBody st) (defScope st) .none kV doc pm an cdv ct):=⟨⟨oc,od,kV,doc,pm,an,cdv,ct,osl,rfl,l,c⟩,k⟩
end
section
variable {X:Cx}
end
noncomputable def Same (H H':Hp):Prop:=∀ b o,H b = some o → H' b = some o
theorem Same.refl (H:Hp):Same H H:=fun _ _ h => h
end L2
namespace L2
open PySem PySem.Spec PyProof.Rows
section
variable {κ:Type} [DecidableEq κ]
end
section
variable {P:Program} {w:World} {H:Hp} {h:Heap} {a:Addr}
end
section
variable {X:Cx} {pins:List (Addr × Obj)} {σ:St} {H:Hp} {s:Shared} {a:Addr} {y v:V} {u r:Value} {o:Option V} {A:Around} {E:Value → Shared → Prop}
end
section
variable {X:Cx} {pins:List (Addr × Obj)} {σ:St} {H:Hp} {s:Shared} {a:Addr} {kvs:List (Key × V)} {k:Key} {u:Value} {A:Around} {E:Value → Shared → Prop}
end
section
variable {X:Cx} {o i e value:Expr} {pos pos' tpos:Pos} {td ty tv:TE}
end
section
variable {X:Cx} {pos:Pos}
end
section
variable {X:Cx} {pins:List (Addr × Obj)} {σ:St} {H:Hp} {s:Shared} {a:Addr} {y d:V} {u r:Value} {o:Option V} {A:Around} {E:Value → Shared → Prop}
end
section
variable {X:Cx} {o e f:Expr} {apos cpos:Pos} {td ty tx:TE}
end
section
variable {X:Cx} {pins:List (Addr × Obj)} {σ:St} {H:Hp} {s:Shared} {a:Addr} {kvs:List (Key × V)} {A:Around} {E:Value → Shared → Prop}
end
section
variable {X:Cx} {pins:List (Addr × Obj)} {σ:St} {H:Hp} {s:Shared} {a:Addr} {y:V} {u:Value} {A:Around} {E:Value → Shared → Prop}
end
section
variable {κ:Type} [DecidableEq κ]
end
end L2
namespace L2
open PySem PySem.Spec PyProof.Rows
theorem Same.upd {H H':Hp} {p:Addr} {o:HO} (e:Same H H') (h:H' p = none):Same H (upd H' p o):=fun b u q => by
 rw [upd_ne (ne_of_none (e b u q) h)]
 exact e b u q
noncomputable def Big (k:Nat) (i:Int):Prop:=i.natAbs < 2 ^ k
theorem Big.bits {k:Nat} {i:Int} (h:Big k i):Builtin.Int.intBits i ≤ k:=by
 unfold Builtin.Int.intBits
 by_cases hz:(i == 0) = true
 ·rw [if_pos hz]; exact Nat.zero_le _
 ·rw [if_neg hz]
  have h0:i.natAbs ≠ 0:=by
   intro e
   apply hz
   have:i = 0:=Int.natAbs_eq_zero.mp e
   simp [this]
  have:=(Nat.log2_lt h0).mpr h
  lia
theorem Big.le {k:Nat} {i j:Int} (h:Big k j) (e:i.natAbs ≤ j.natAbs):Big k i:=Nat.lt_of_le_of_lt e h
theorem Big.small {k:Nat} {i:Int} (hk:10 ≤ k) (h0:-1000 < i) (h1:i < 1000):Big k i:=by
 show i.natAbs < 2 ^ k
 have:2 ^ 10 ≤ 2 ^ k:=Nat.pow_le_pow_right (by decide) hk
 lia
noncomputable def CMulB (i j:Int):Prop:=∃ a b,Big a i ∧ Big b j ∧ a ≤ 2 ^ 20 ∧ b ≤ 2 ^ 20
theorem CMulB.ok {i j:Int} (h:CMulB i j):IntMulOk i j:=by
 refine bcn fun hNO => ?_
 obtain ⟨a,b,h1,h2,h3,h4⟩:=h
 refine hNO ?_; clear hNO
 exact IntMulOk.of_bits (Nat.le_trans h1.bits h3) (Nat.le_trans h2.bits h4)
noncomputable def CDivB (i j:Int):Prop:=j ≠ 0 ∧ Big 9000 j
theorem CDivB.ok {i j:Int} (h:CDivB i j):Builtin.divisionGoesByPylong i j = false :=
 PyProof.noPylong_of_log2 ((Nat.log2_lt (by intro e; exact h.1 (Int.natAbs_eq_zero.mp e))).mpr h.2)
section
variable {X:Cx}
theorem op_mulB:OpR X (binaryOp .Mult) (rI CMulB fun i j => .int (i * j)):=opI fun _ _ _ _ _ _ _ hc q => PyProof.Rows.mul_int q hc.ok
theorem op_fdivB:OpR X (binaryOp .FloorDiv) (rI CDivB fun i j => .int (i.fdiv j)):=opI fun _ _ _ _ _ _ _ hc q => floordiv_int hc.1 q (.inl hc.ok)
end
end L2
namespace L2
open PySem PySem.Spec PyProof.Rows
theorem compLoop_gen {prog:Program} {w:World} {A:Around} {s:Shared} {elt target iter:Expr} {ifs:List Expr} {scope:Scope} {pos:Pos} {it acc:Value} {env:Env} {R:Result → Shared → Prop} (I:Nat → Shared → Prop)
  (turn:∀ n s,I n s → wpAny (model prog w) A (pyNext it) (fun r s₁ => match r with
   | none => R (.ok .next) s₁
   | some v => wpAny (model prog w) A (letOwnedTupleGo target it v) (fun _ s₁' => wpAny (model prog w) A (assign target env v) (fun _ s₂ =>
     wpAny (model prog w) A (forIn ifs true fun c r => if r = true then do let ok ← isTrue c env (eval c env); pure (ForInStep.yield ok) else pure (ForInStep.yield r)) (fun ok s₃ =>
      if ok = true then wpAny (model prog w) A (eval elt env) (fun x s₄ =>
       wpAny (model prog w) A (call (.builtin "list.append") [acc,x]) (fun _ s₅ => ∃ m,m < n ∧ I m s₅) (fun _ _ => False) s₄) (fun _ _ => False) s₃
      else ∃ m,m < n ∧ I m s₃) (fun _ _ => False) s₂) (fun _ _ => False) s₁') (fun _ _ => False) s₁) (fun _ _ => False) s)
  (n:Nat) (h:I n s):codeAny (model prog w) A (.compLoop (.ListComp elt [⟨target,iter,ifs,0⟩] scope pos) 0 it acc env) R s:=by
 refine codeAny_loop rfl I (fun n s hI => ?_) n h
 show wpAny _ A ((compTurn (.ListComp elt [⟨target,iter,ifs,0⟩] scope pos) 0 it acc env).onRaise (fun x => do noteFrame x env; theTreesLotGoes x)) _ _ s
 refine wpAny_noted ?_
 rw [compTurn_list]
 refine wpAny_bind (wpAny_standAt (wpAny_bind (wpAny_mono (turn n s hI) (fun r s₁ h₁ => ?_) fun _ _ h' => h'.elim)))
 cases r with
 | none => exact wpAny_pure h₁
 | some v =>
  refine wpAny_bind (wpAny_mono h₁ (fun _ s₁' h₁' => ?_) fun _ _ h' => h'.elim)
  refine wpAny_bind (wpAny_mono h₁' (fun _ s₂ h₂ => wpAny_bind (wpAny_mono h₂ (fun ok s₃ h₃ => ?_) fun _ _ h' => h'.elim)) fun _ _ h' => h'.elim)
  cases ok with
  | false => exact wpAny_pure ⟨rfl,h₃⟩
  | true => exact wpAny_bind (wpAny_bind (wpAny_mono h₃ (fun x s₄ h₄ => wpAny_bind (wpAny_mono h₄ (fun _ s₅ h₅ => wpAny_pure (wpAny_pure ⟨rfl,h₅⟩)) fun _ _ h' => h'.elim)) fun _ _ h' => h'.elim))
noncomputable def PIf (X:Cx) (ifs:List Expr) (t:TT):Prop :=
 ∀ (pins:List (Addr × Obj)) (s:Shared) (σ:St) (H:Hp) (Q:Bool → Hp → Prop),Inv X pins σ H s → t σ H Q →
  wpAny (model X.prog X.w) X.A (forIn ifs true fun c r => if r = true then do let ok ← isTrue c X.env (eval c X.env); pure (ForInStep.yield ok) else pure (ForInStep.yield r)) (TP X pins σ Q) X.xe s
noncomputable def tTrue:TT:=fun _ H Q => Q true H
theorem pif_nil {X:Cx}:PIf X [] tTrue:=fun _ _ _ H _ I h => wpAny_tests_nil ⟨H,I,h⟩
theorem pif_one {X:Cx} {c:Expr} {t:TT} (h:PT X c t):PIf X [c] t:=fun pins s σ H Q I hw => wpAny_tests_one (h pins s σ H Q I hw)
theorem HOk.track {P:Program} {w:World} {H:Hp} {h:Heap} {a:Addr} {o:HO} (x:HOk P w H h) (hn:H a = none) (new:ObjOk P w (upd H a o) h a o):HOk P w (upd H a o) h:=fun b u e => by
 by_cases hb:b = a
 ·subst hb; rw [upd_same] at e; cases e; exact new
 ·rw [upd_ne hb] at e
  exact (x b u e).stay (fun c v _ q => q) (fun c q => by rw [upd_ne (ne_of_none q hn)]; exact q) fun c xs q => by rw [upd_ne (ne_of_none q hn)]; exact q
noncomputable def cxB (X:Cx) (N:List Str) (scope:Scope) (cl:List (Str × Addr)) (C:Addr) (fp:List Addr) (s:Shared) (H:Hp):Cx :=
 { X with N:=N,s₀:=s,H₀:=H,env:=compEnvC scope cl C X.env,outer:=X.stack,stack:=X.stack,ex:=fp,fn:=fun _ => false,pn:=[],xe:=fun _ _ => False }
noncomputable def capS (k:Nat) (caps:List Nat) (σ:St):St:=List.replicate k none ++ caps.map fun j => (σ[j]?).getD none
structure Caps (X:Cx) (N:List Str) (scope:Scope) (cl:List (Str × Addr)) (k:Nat) (caps:List Nat):Prop where
 clos:closureFor scope X.env = pure cl
 sub:∀ x c,cl.lookup x = some c → X.env.cells.lookup x = some c
 has:∀ x,((relabel scope X.env).names.lookup x = some .cell ∨ (relabel scope X.env).names.lookup x = some .free) → ∃ c,cl.lookup x = some c
 nocell:∀ x ∈ scope.names,x.2 ≠ .cell
 kind:scope.kind = .function
 names:∀ x ∈ scope.names,x.2 = .local → scope.names.lookup x.1 = some .local
 len:N.length = k + caps.length
 at_:∀ i j x,caps[i]? = some j → N[k + i]? = some x → X.N[j]? = some x ∧ (X.env.kindOf x = some .cell ∨ X.env.kindOf x = some .free) ∧ ((relabel scope X.env).names.lookup x = some .cell ∨ (relabel scope X.env).names.lookup x = some .free)
noncomputable def CompW (J:It) (k:Nat) (caps:List Nat) (g:TG) (tt:TT) (te:TE) (σ:St) (H1:Hp) (Q:VK):Prop :=
 ∃ W:Nat → Nat → List V → St → Hp → Prop,(∃ m,W 0 m [] (capS k caps σ) H1) ∧ ∀ i m ys τ H,W i m ys τ H →
  (J.stop i H ∧ ys.length ≤ sizeLine ∧ ∀ p,H p = none → Q (.ref p) (upd H p (.lst ys))) ∨
  (J.go i H ∧ ys.length < sizeLine ∧ ∀ x H',J.yld i H x H' → g x τ H' fun τ2 H2 => tt τ2 H2 fun b H3 => if b = true then te τ2 H3 fun y H4 => ∃ m',m' < m ∧ W (i + 1) m' (ys ++ [y]) τ2 H4 else ∃ m',m' < m ∧ W (i + 1) m' ys τ2 H3)
@[irreducible] def tComp (k:Nat) (caps:List Nat) (wi:TI) (g:TG) (tt:TT) (te:TE):TE:=fun σ H Q => wi σ H fun J H1 => CompW J k caps g tt te σ H1 Q
theorem tComp_by {k:Nat} {caps:List Nat} {wi:TI} {g:TG} {tt:TT} {te:TE} {σ:St} {H:Hp} {Q:VK} (h:wi σ H fun J H1 => CompW J k caps g tt te σ H1 Q):tComp k caps wi g tt te σ H Q:=by
 unfold tComp
 exact h
theorem tComp_out {k:Nat} {caps:List Nat} {wi:TI} {g:TG} {tt:TT} {te:TE} {σ:St} {H:Hp} {Q:VK} (h:tComp k caps wi g tt te σ H Q):wi σ H fun J H1 => CompW J k caps g tt te σ H1 Q:=by
 unfold tComp at h
 exact h
section
variable {X:Cx} {pins:List (Addr × Obj)} {σ:St} {H:Hp} {s:Shared}
theorem cap_get {k:Nat} {caps:List Nat} {σ:St} {i:Nat} {v:V} (h:(capS k caps σ)[i]? = some (some v)):∃ j,k ≤ i ∧ caps[i - k]? = some j ∧ σ[j]? = some (some v):=by
 unfold capS at h
 by_cases hi:i < k
 ·rw [List.getElem?_append_left (by simpa using hi),List.getElem?_replicate] at h
  split at h <;> cases h
 ·rw [List.getElem?_append_right (by simpa using Nat.le_of_not_lt hi),List.length_replicate,List.getElem?_map] at h
  cases e:caps[i - k]? with
  | none => rw [e] at h; cases h
  | some j =>
   rw [e] at h
   refine ⟨j,Nat.le_of_not_lt hi,rfl,?_⟩
   have h':(σ[j]?).getD none = some v:=by simpa using h
   cases q:σ[j]? with
   | none => rw [q] at h'; cases h'
   | some o => rw [q] at h'; exact congrArg some h'
theorem Inv.block {N:List Str} {scope:Scope} {cl:List (Str × Addr)} {k:Nat} {caps:List Nat} {fp:List Addr} {C:Addr} {h':Heap} {t':Nat} {m':Str → Option Value}
  (I:Inv X pins σ H s) (B:Caps X N scope cl k caps) (hf:∀ b ∈ fp,FpOk X pins H b) (hC:s.heap.objs.size ≤ C) (hfp:∀ b ∈ fp,∃ o,s.heap.get? b = some o)
  (kp:∀ b o,s.heap.get? b = some o → h'.get? b = some o) (ns:h'.Ns C m'):Inv (cxB X N scope cl C fp s H) [] (capS k caps σ) H { s with heap:=h',toks:=t' }:=by
 have below:∀ {b:Addr} {o:Obj},s.heap.get? b = some o → b ≠ C:=fun e => Nat.ne_of_lt (Nat.lt_of_lt_of_le (Heap.lt_size e) hC)
 have cellC:∀ x c,cl.lookup x = some c → ∃ v,s.heap.IsCell c v:=fun x c e => I.cell x c (B.sub x c e)
 refine ⟨⟨I.ok.mod,?_,I.ok.glob,I.ok.blt,hC,fun x y c h1 h2 => I.ok.inj x y c (B.sub x c h1) (B.sub y c h2),fun x hx => B.has x hx,fun x c h1 _ => ?_,I.ok.hd,I.ok.frames,.inl rfl,fun b hb => ⟨?_,fun x c e => ?_⟩,I.bs,Nat.le_trans I.ok.bsz I.sz,fun b o e hb => ?_,fun b hb => ?_,I.stack,I.stkFree⟩,
  rfl,I.bare,Un.kept kp,⟨m',ns,fun i x v h1 h2 h3 => ?_⟩,fun x c e => ?_,?_,fun x c e => I.freeC x c (B.sub x c e),fun p hp => absurd (show p ∈ ([]:List (Addr × Obj)) from hp) (by simp),I.hok.kept kp,?_⟩
 ·exact B.kind
 ·exact absurd h1 (by simp [cxB])
 ·obtain ⟨o,e⟩:=hfp b hb
  exact below e
 ·exact (hf b hb).2.2.2.2.1 x c (B.sub x c e)
 ·refine bcn fun hNO => ?_
  obtain ⟨_,_,_,h4,_⟩:=hf b hb
  refine hNO ?_; clear hNO
  rcases h4 with z | z
  ·exact I.ok.noex b o e z
  ·exact absurd (Nat.lt_of_lt_of_le (Heap.lt_size (I.ok.bs b o e).1) z) (Nat.lt_irrefl _)
 ·intro z
  rcases List.mem_cons.mp (I.stkSub b z) with e | e
  ·exact (hf b hb).2.1 e
  ·exact (hf b hb).2.2.1 e
 ·refine bcn fun hNO => ?_
  obtain ⟨j,hk,hj,hσ⟩:=cap_get h2
  refine hNO ?_; clear hNO
  have hN:N[k + (i - k)]? = some x:=by rw [Nat.add_sub_cancel' hk]; exact h1
  refine bcn fun hNO => ?_
  obtain ⟨a1,a2,a3⟩:=B.at_ (i - k) j x hj hN
  obtain ⟨m,hn,hl⟩:=I.loc
  have vis:Vis X.env.scope x:=by
   rcases a2 with z | z
   ·exact .inr (.inl z)
   ·exact .inr (.inr z)
  obtain ⟨u,r,l⟩:=hl j x v a1 hσ vis
  refine hNO ?_; clear hNO
  refine ⟨u,r,.inr ⟨a3,?_⟩⟩
  rcases l with ⟨z,_⟩ | ⟨_,c,e,cc⟩
  ·rcases a2 with y | y <;> (rw [z] at y; cases y)
  ·refine bcn fun hNO => ?_
   obtain ⟨c',e'⟩:=B.has x a3
   have:X.env.cells.lookup x = some c':=B.sub x c' e'
   rw [e] at this
   cases this
   obtain ⟨o,ho,hd⟩:=cc
   refine hNO ?_; clear hNO
   exact ⟨c,e',o,kp c o ho,hd⟩
 ·refine bcn fun hNO => ?_
  obtain ⟨v,o,ho,hd⟩:=cellC x c e
  refine hNO ?_; clear hNO
  exact ⟨v,o,kp c o ho,hd⟩
 ·exact I.hok.fresh hC
 ·show (capS k caps σ).length = N.length
  unfold capS
  rw [List.length_append,List.length_replicate,List.length_map,B.len]
noncomputable def CompEndP (X:Cx) (pins:List (Addr × Obj)) (σ:St) (s:Shared) (Q:VK) (acc:Value) (C:Addr) (s':Shared):Prop :=
 ∃ D H',acc = .ref D ∧ s.heap.objs.size ≤ C ∧ Inv X pins σ H' s' ∧ H' C = none ∧ (∃ m,s'.heap.Ns C m) ∧ Q (.ref D) H'
theorem comp_core {tg elt iter:Expr} {ifs:List Expr} {scope:Scope} {pos:Pos} {N:List Str} {cl:List (Str × Addr)} {k:Nat} {caps:List Nat} {g:TG} {tt:TT} {te:TE} {it:Addr} {fp:List Addr} {tn:Nat → Heap → Prop} {J:It} {Q:VK} {RR:Value → Addr → Result → Shared → Prop} {E:Value → Shared → Prop}
  (hc:X.calm = true) (B:Caps X N scope cl k caps) (hg:∀ C fp s H,PG (cxB X N scope cl C fp s H) tg g) (hi:∀ C fp s H,PIf (cxB X N scope cl C fp s H) ifs tt) (he:∀ C fp s H,PE (cxB X N scope cl C fp s H) elt te)
  (I:Inv X pins σ H s) (T:Turn X.prog X.w X.K tg J fp it tn) (st:tn 0 s.heap) (hf:∀ b ∈ fp,FpOk X pins H b)
  (h:CompW J k caps g tt te σ H Q)
  (hRR:∀ acc C s',CompEndP X pins σ s Q acc C s' → RR acc C (.ok .next) s') :
  wpAny (model X.prog X.w) X.A (newList []) (fun acc s₃ => wpAny (model X.prog X.w) X.A (newFunctionEnv scope X.env.globals cl [] X.env.qual none .none (some X.env)) (fun cenv s₄ =>
   codeAny (model X.prog X.w) X.A (.compStart (.ListComp elt [⟨tg,iter,ifs,0⟩] scope pos) 0 (.ref it) acc { cenv with scope:=relabel scope X.env }) (RR acc cenv.locals) s₄) E s₃) E s:=by
 refine bcn fun hNO => ?_
 obtain ⟨W,⟨m0,w0⟩,turn⟩:=h
 refine hNO ?_; clear hNO
 refine wpAny_newObj_type (wpAny_newFunctionEnv B.nocell (by intro y hy; simp at hy) (fun h₁ hns₁ hsb₁ => ?_) B.kind)
 dsimp only at hns₁ hsb₁ ⊢
 generalize hH2:s.heap.push { cls:=.type "list",dict:=none,data:=.seq ([]:List Value).toArray } = H2 at hns₁ hsb₁ ⊢
 have hC:H2.objs.size = s.heap.objs.size + 1:=by rw [← hH2,Heap.size_push]
 have hCs:s.heap.objs.size ≤ H2.objs.size:=by rw [hC]; exact Nat.le_succ _
 have hDC:s.heap.objs.size ≠ H2.objs.size:=by rw [hC]; exact Nat.ne_of_lt (Nat.lt_succ_self _)
 have old:∀ b o,s.heap.get? b = some o → h₁.get? b = some o:=fun b o e => hsb₁.extBut b o (Nat.ne_of_lt (Nat.lt_of_lt_of_le (Heap.lt_size e) hCs)) (Heap.get?_push_of_some _ (hH2 ▸ Heap.get?_push_of_some _ e))
 have hacc:h₁.get? s.heap.objs.size = some { cls:=.type "list",data:=.seq ([]:List Value).toArray 0 }:=hsb₁.extBut _ _ hDC (Heap.get?_push_of_some _ (hH2 ▸ Heap.get?_push_size _ rfl))
 have obj0:=T.obj 0 _ st
 have hfp:∀ b ∈ fp,∃ o,s.heap.get? b = some o:=fun b hb => let ⟨o,e,_⟩:=obj0 b hb; ⟨o,e⟩
 have hDf:∀ b ∈ fp,b ≠ s.heap.objs.size:=fun b hb z => by
  obtain ⟨o,e⟩:=hfp b hb
  exact absurd (Heap.lt_size e) (by rw [z]; exact Nat.lt_irrefl _)
 have hD0:H s.heap.objs.size = none:=I.hok.fresh (Nat.le_refl _)
 have st₁:tn 0 h₁:=T.keep 0 _ _ st fun b _ o e => old b o e
 have cellD:∀ x c,cl.lookup x = some c → c ≠ s.heap.objs.size:=fun x c e z => by
  obtain ⟨v,o,ho,_⟩:=I.cell x c (B.sub x c e)
  exact absurd (Heap.lt_size ho) (by rw [z]; exact Nat.lt_irrefl _)
 have nfs:∀ b ∈ frs X.stack,b ≠ s.heap.objs.size:=fun b hb z => by
  obtain ⟨_,o,ho,_⟩:=I.stack.mem hb
  exact absurd (Heap.lt_size ho) (by rw [z]; exact Nat.lt_irrefl _)
 have loop:∀ s₃:Shared,s₃ = { s with heap:=h₁,toks:=s.toks + ([]:List (Str × Value)).length } →
   codeAny (model X.prog X.w) X.A (.compLoop (.ListComp elt [⟨tg,iter,ifs,0⟩] scope pos) 0 (.ref it) (.ref s.heap.objs.size) (compEnvC scope cl H2.objs.size X.env)) (RR (.ref s.heap.objs.size) H2.objs.size) s₃:=by
  rintro s₃ rfl
  generalize hXB:cxB X N scope cl H2.objs.size fp s H = XB
  have eP:XB.prog = X.prog:=by rw [← hXB]; rfl
  have eW:XB.w = X.w:=by rw [← hXB]; rfl
  have eK:XB.K = X.K:=by rw [← hXB]; rfl
  have eA:XB.A = X.A:=by rw [← hXB]; rfl
  have eE:XB.env = compEnvC scope cl H2.objs.size X.env:=by rw [← hXB]; rfl
  have eL:XB.env.locals = H2.objs.size:=by rw [eE]; rfl
  have eF:XB.fs = frs X.stack:=by rw [← hXB]; rfl
  have eX:XB.ex = fp:=by rw [← hXB]; rfl
  have eN:XB.pn = []:=by rw [← hXB]; rfl
  have e0:XB.s₀ = s:=by rw [← hXB]; rfl
  have eC:XB.calm = true:=by rw [← hXB]; exact hc
  have ecl:XB.env.cells = cl:=by rw [eE]; rfl
  have exe:XB.xe = fun _ _ => False:=by rw [← hXB]; rfl
  have hg':PG XB tg g:=by rw [← hXB]; exact hg _ _ _ _
  have hi':PIf XB ifs tt:=by rw [← hXB]; exact hi _ _ _ _
  have he':PE XB elt te:=by rw [← hXB]; exact he _ _ _ _
  have I0:Inv XB [] (capS k caps σ) H { s with heap:=h₁,toks:=s.toks + ([]:List (Str × Value)).length }:=by rw [← hXB]; exact I.block B hf hCs hfp old hns₁
  -- the accumulator pinned
  have pinD:∀ {τ:St} {H':Hp} {s':Shared} {its:List Value} {nn:Nat},Inv XB [] τ H' s' → s'.heap.get? s.heap.objs.size = some { cls:=.type "list",data:=.seq its.toArray nn } → H' s.heap.objs.size = none →
    Inv XB [(s.heap.objs.size,{ cls:=.type "list",data:=.seq its.toArray nn })] τ H' s':=fun {τ H' s' its nn} J hd hn => J.pins_of fun p hp => by
   obtain rfl:p = _:=List.mem_singleton.mp hp
   refine ⟨hd,hn,by rw [eL]; exact hDC,by rw [eF]; exact fun z => nfs _ z rfl,fun v z => ?_⟩
   have z':Data.seq its.toArray nn = Data.cell v:=z
   cases z'
  have stat:∀ {H':Hp} {o:Obj},(∀ b ∈ fp,H' b = none) → ∀ b ∈ fp,FpOk XB [(s.heap.objs.size,o)] H' b:=fun {H' o} hn b hb => by
   obtain ⟨_,f1,f2,f3,f4,f5⟩:=hf b hb
   refine ⟨hn b hb,?_,?_,.inl (by rw [eX]; exact hb),fun x c e => f4 x c (B.sub x c (by rw [← ecl]; exact e)),fun p hp => ?_⟩
   ·rw [eL]
    obtain ⟨o,e⟩:=hfp b hb
    exact Nat.ne_of_lt (Nat.lt_of_lt_of_le (Heap.lt_size e) hCs)
   ·rw [eF]
    intro z
    rcases List.mem_cons.mp (I.stkSub b z) with e | e
    ·exact f1 e
    ·exact f2 e
   ·rw [eN] at hp
    obtain rfl:p = _:=List.mem_singleton.mp (by simpa using hp)
    exact Ne.symm (hDf b hb)
  refine compLoop_gen (fun n s' => ∃ i ys its nn τ H',Inv XB [] τ H' s' ∧ s'.heap.get? s.heap.objs.size = some { cls:=.type "list",data:=.seq its.toArray nn } ∧ H' s.heap.objs.size = none ∧ Vals ys its ∧ tn i s'.heap ∧ (∀ b ∈ fp,H' b = none) ∧ W i n ys τ H') ?_ m0
   ⟨0,[],[],0,capS k caps σ,H,I0,hacc,hD0,.nil,st₁,fun b hb => (hf b hb).1,w0⟩
  rintro n s3 ⟨i,ys,its,nn,τ,H3,I3,hd3,hn3,rv3,st3,fr3,w3⟩
  have I3':=pinD I3 hd3 hn3
  rcases turn i n ys τ H3 w3 with ⟨stop,hz,qn⟩ | ⟨go,hz,step⟩
  ·have D1:=T.done XB eP eW eK eC i _ s3 τ H3 (fun _ _ => False) I3' (stat fr3) st3 stop
   rw [eA] at D1
   refine thn D1 fun r s4 ⟨hr,I4⟩ => ?_
   subst hr
   refine hRR _ _ s4 ?_
   obtain ⟨pd,pn4,_⟩:=I4.pin (s.heap.objs.size,{ cls:=.type "list",data:=.seq its.toArray nn }) (by rw [eN]; exact List.mem_append_right _ (List.mem_singleton.mpr rfl))
   have hb4:Un (frs X.stack) fp H H3 s.heap s4.heap:=by
    have:=I4.base
    rw [← hXB] at this
    exact this
   have new:ObjOk X.prog X.w (upd H3 s.heap.objs.size (.lst ys)) s4.heap s.heap.objs.size (.lst ys):=⟨hz,its,nn,rv3,pd⟩
   have hok4:HOk X.prog X.w H3 s4.heap:=by
    have:=I4.hok
    rw [eP,eW] at this
    exact this
   have hok:HOk X.prog X.w (upd H3 s.heap.objs.size (.lst ys)) s4.heap:=hok4.track pn4 new
   have os4:s4.os = s.os:=by
    have:=I4.os
    rw [e0] at this
    exact this
   have un:Un (frs X.stack) fp H (upd H3 s.heap.objs.size (.lst ys)) s.heap s4.heap :=
    ⟨hb4.keep,hb4.slot,fun b o e n hx => by rw [upd_ne (Nat.ne_of_lt (Heap.lt_size e))]; exact hb4.free b o e n hx,hb4.there,
     fun b xs e => by rw [upd_ne (ne_of_none (hb4.tups b xs e) pn4)]; exact hb4.tups b xs e,fun b o u e => by rw [upd_ne (ne_of_none (hb4.frzs b o u e) pn4)]; exact hb4.frzs b o u e,
     fun b ps e => by
      obtain ⟨more,q⟩:=hb4.tbls b ps e
      exact ⟨more,by rw [upd_ne (ne_of_none q pn4)]; exact q⟩⟩
   have I5:Inv X pins σ (upd H3 s.heap.objs.size (.lst ys)) s4:=I.call' os4 un hok I4.bare fun b hb => ⟨(hf b hb).2.2.2.1,(hf b hb).2.1,(hf b hb).2.2.2.2.1,(hf b hb).2.2.2.2.2⟩
   have hC4:H3 H2.objs.size = none:=by
    have:=I4.free
    rw [eL] at this
    exact this
   refine ⟨s.heap.objs.size,_,rfl,hCs,I5,by rw [upd_ne (Ne.symm hDC)]; exact hC4,?_,qn _ pn4⟩
   obtain ⟨m4,ns4,_⟩:=I4.loc
   rw [eL] at ns4
   exact ⟨m4,ns4⟩
  ·have D1:=T.item XB eP eW eK eC i _ s3 τ H3 (fun _ _ => False) I3' (stat fr3) st3 go
   rw [eA] at D1
   refine thn D1 fun r s4 ⟨u,hr,h4⟩ => ?_
   subst hr
   refine thn h4 fun _ s5 ⟨x,H5,I5,r5,y5,st5,fr5⟩ => ?_
   have I5':=I5.pinned (stat fr5) (T.obj _ _ st5)
   have G:=hg' _ s5 τ H5 x u _ I5' r5 (step x H5 y5)
   rw [eP,eW,eA,eE,exe] at G
   refine thn G fun _ s6 ⟨τ6,H6,I6,q6⟩ => ?_
   have G2:=hi' _ s6 τ6 H6 _ I6 q6
   rw [eP,eW,eA,eE,exe] at G2
   refine thn G2 fun ok s7 ⟨H7,I7,q7⟩ => ?_
   -- what the pins give back
   have back:∀ {τ8:St} {H8:Hp} {s8:Shared},Inv XB ([(s.heap.objs.size,({ cls:=.type "list",data:=.seq its.toArray nn }:Obj))] ++ pinsAt fp s5.heap) τ8 H8 s8 →
     Inv XB [] τ8 H8 s8 ∧ s8.heap.get? s.heap.objs.size = some { cls:=.type "list",data:=.seq its.toArray nn } ∧ H8 s.heap.objs.size = none ∧ tn (i + 1) s8.heap ∧ ∀ b ∈ fp,H8 b = none:=fun {τ8 H8 s8} J => by
    obtain ⟨p1,p2,_⟩:=J.pin (s.heap.objs.size,{ cls:=.type "list",data:=.seq its.toArray nn }) (List.mem_append_right _ (List.mem_append_left _ (List.mem_singleton.mpr rfl)))
    refine ⟨J.pins_of fun p hp => absurd (show p ∈ ([]:List (Addr × Obj)) from hp) (by simp),p1,p2,T.keep _ _ _ st5 fun b hb o e => (J.pin (b,o) (List.mem_append_right _ (List.mem_append_right _ (mem_pinsAt hb e)))).1,fun b hb => ?_⟩
    obtain ⟨o,e,d⟩:=T.obj _ _ st5 b hb
    exact (J.pin (b,o) (List.mem_append_right _ (List.mem_append_right _ (mem_pinsAt hb e)))).2.1
   cases ok with
   | false =>
    rw [if_neg Bool.false_ne_true] at q7 ⊢
    obtain ⟨m',hm,w7⟩:=q7
    obtain ⟨J,a1,a2,a3,a4⟩:=back I7
    exact ⟨m',hm,i + 1,ys,its,nn,τ6,H7,J,a1,a2,rv3,a3,a4,w7⟩
   | true =>
    rw [if_pos rfl] at q7 ⊢
    have G3:=he' _ s7 τ6 H7 _ I7 q7
    rw [eP,eW,eA,eE,exe] at G3
    refine thn G3 fun v s8 ⟨y,H8,I8,r8,m',hm,w8⟩ => ?_
    obtain ⟨J,a1,a2,a3,a4⟩:=back I8
    have hlen:=rv3.length
    refine call_meets F.slot_list_append ⟨_,a1,rfl⟩ F.entry_list_append (F.args_list_append_2 _ _) (PySem.list_append s.heap.objs.size its.toArray nn v (by rw [List.size_toArray]; lia)) ⟨a1,?_⟩
    have q:=PySem.IsL.update a1 (fun z => z.push v)
    have other:∀ b o,b ≠ s.heap.objs.size → s8.heap.get? b = some o → (s8.heap.update s.heap.objs.size (Obj.mapSeq fun z => z.push v)).get? b = some o:=fun b o hb e => (Heap.get?_update_other s8.heap (Obj.mapSeq fun z => z.push v) (Ne.symm hb)).trans e
    have J':Inv XB [] τ6 H8 { s8 with heap:=s8.heap.update s.heap.objs.size (Obj.mapSeq fun z => z.push v) } :=
     J.turned (t':=s8.toks) (it:=s.heap.objs.size) other a2 (by rw [eL]; exact hDC) (.inr (by rw [e0]; exact Nat.le_refl _)) (fun x c e => cellD x c (by rw [← ecl]; exact e)) fun p hp => absurd (show p ∈ ([]:List (Addr × Obj)) by rw [eN] at hp; exact hp) (by simp)
    obtain ⟨n2,q2⟩:∃ n2,(s8.heap.update s.heap.objs.size (Obj.mapSeq fun z => z.push v)).get? s.heap.objs.size = some { cls:=.type "list",data:=.seq (its ++ [v]).toArray n2 }:=by
     have e1:its.toArray.push v = (its ++ [v]).toArray:=by simp
     rw [← e1]
     exact ⟨_,q⟩
    exact ⟨m',hm,i + 1,ys ++ [y],its ++ [v],n2,τ6,H8,J',q2,a2,rv3.append (.cons r8 .nil),T.keep _ _ _ a3 fun b hb o e => other b o (hDf b hb) e,a4,w8⟩
 exact codeAny_compStart_list (loop _ rfl) (T.self X.A 0 _ _ _ st₁ (loop _ rfl))
end
end L2
namespace L2
open PySem PySem.Spec PyProof.Rows
section
variable {X:Cx} {tg elt iter:Expr} {ifs:List Expr} {scope:Scope} {pos spos:Pos} {N:List Str} {cl:List (Str × Addr)} {k:Nat} {caps:List Nat} {wi:TI} {g:TG} {tt:TT} {te:TE}
theorem Inv.blockGone {pins:List (Addr × Obj)} {σ σ':St} {H H':Hp} {s s':Shared} {C:Addr} {h':Heap} (I:Inv X pins σ H s) (hC:s.heap.objs.size ≤ C) (I':Inv X pins σ' H' s') (hn:H' C = none) (sb:Heap.SameBut C s'.heap h') :
  Inv X pins σ' H' { s' with heap:=h' }:=by
 refine I'.turned (t':=s'.toks) (it:=C) (fun b o hb e => (sb.2 b hb).trans e) hn (Nat.ne_of_gt (Nat.lt_of_lt_of_le I.lt hC)) (.inr (Nat.le_trans I.sz hC)) (fun x c e => ?_) fun p hp => ?_
 ·obtain ⟨v,o,ho,_⟩:=I.cell x c e
  exact Nat.ne_of_lt (Nat.lt_of_lt_of_le (Heap.lt_size ho) hC)
 ·exact Nat.ne_of_lt (Nat.lt_of_lt_of_le (Heap.lt_size (I.pin p hp).1) hC)
theorem pe_comp (hc:X.calm = true) (B:Caps X N scope cl k caps) (hi:PI X tg iter wi) (hg:∀ C fp s H,PG (cxB X N scope cl C fp s H) tg g) (hif:∀ C fp s H,PIf (cxB X N scope cl C fp s H) ifs tt)
  (he:∀ C fp s H,PE (cxB X N scope cl C fp s H) elt te) (hs:∀ x,foldedSetIterable iter X.env x = pure x:=by intro _; rfl):PE X (.ListComp elt [⟨tg,iter,ifs,0⟩] scope pos) (tComp k caps wi g tt te):=by
 intro pins s σ H Q I h
 rw [eval_ListComp]
 refine wpAny_comprehension_free (use:=none) rfl hs B.clos B.kind B.names (thn (hi pins s σ H _ I (tComp_out h)) fun xv s₁ h₁ => thn h₁ fun itv s₂ h₂ => ?_)
 refine bcn fun hNO => ?_
 obtain ⟨it,fp,tn,J,H2,e,I2,T,st2,f2,hW⟩:=h₂
 subst e
 refine hNO ?_; clear hNO
 refine comp_core (RR:=fun acc C => compPost (model X.prog X.w) X.A X.xe none (EP X pins σ Q) acc C) hc B hg hif he I2 T st2 f2 hW ?_
 rintro acc C s' ⟨D,H',rfl,hC,I',hn,⟨m,ns⟩,q⟩
 exact ⟨m,ns,fun h' sb => ⟨.ref D,H',I2.blockGone hC I' hn sb,rfl,q⟩⟩
theorem ps_setComp {i:Nat} {y:Str} {py:Pos} (hN:X.N.Nodup) (hy:X.N[i]? = some y) (hx:Loc X.env.scope y) (hc:X.calm = true) (B:Caps X N scope cl k caps) (hi:PI X tg iter wi) (hg:∀ C fp s H,PG (cxB X N scope cl C fp s H) tg g)
  (hif:∀ C fp s H,PIf (cxB X N scope cl C fp s H) ifs tt) (he:∀ C fp s H,PE (cxB X N scope cl C fp s H) elt te) (hsw:swapsWith (.ListComp elt [⟨tg,iter,ifs,0⟩] scope pos) (some (.Name y py)) spos.line X.env = pure true:=by rfl)
  (hs:∀ x,foldedSetIterable iter X.env x = pure x:=by intro _; rfl) (hf:X.fn y = true ∨ X.env.scope.names.lookup y = some .local:=by first | exact .inl rfl | exact .inr rfl | assumption) :
  PS X (.Assign [.Name y py] (.ListComp elt [⟨tg,iter,ifs,0⟩] scope pos) spos) (tAsg (tComp k caps wi g tt te) (gName i)):=by
 intro pins s σ H D I h
 rw [exec_Assign_Name_used _ _ _ _ hsw]
 refine wpAny_bind (wpAny_standAt (wpAny_bind ?_))
 show wpAny _ X.A (do let _ ← comprehension (.ListComp elt [⟨tg,iter,ifs,0⟩] scope pos) scope X.env _ (newList []) false (eval iter X.env) (some (assign (.Name y py) X.env))) _ _ s
 refine wpAny_bind (wpAny_mono (wpAny_comprehension_free (use:=some (assign (.Name y py) X.env)) (Q:=fun _ s' => SP X pins D .next s') rfl hs B.clos B.kind B.names (thn (hi pins s σ H _ I (tComp_out h)) fun xv s₁ h₁ => thn h₁ fun itv s₂ h₂ => ?_)) (fun _ s' hq => wpAny_pure (wpAny_pure hq)) fun _ _ e => e)
 refine bcn fun hNO => ?_
 obtain ⟨it,fp,tn,J,H2,e,I2,T,st2,f2,hW⟩:=h₂
 subst e
 refine hNO ?_; clear hNO
 refine comp_core (Q:=fun v H' => gName i v σ H' D.nx) (RR:=fun acc C => compPost (model X.prog X.w) X.A X.xe (some (assign (.Name y py) X.env)) (fun _ s' => SP X pins D .next s') acc C) hc B hg hif he I2 T st2 f2 hW ?_
 rintro acc C s' ⟨D',H',rfl,hC,I',hn,⟨m,ns⟩,q⟩
 show wpAny _ _ (assign (.Name y py) X.env (.ref D')) _ _ s'
 refine wpAny_assign_Name (store_ok2 I' hN hy hx (v:=.ref D') rfl (fun s'' I'' ⟨a,sb,ha⟩ => ?_) hf)
 have hCa:C ≠ a:=by
  rcases ha with e | e
  ·rw [e]; exact Nat.ne_of_gt (Nat.lt_of_lt_of_le I2.lt hC)
  ·obtain ⟨v,o,ho,_⟩:=I2.cell y a e
   exact Nat.ne_of_gt (Nat.lt_of_lt_of_le (Heap.lt_size ho) hC)
 exact ⟨m,ns.sameBut sb hCa,fun h' sb' => ⟨_,H',I2.blockGone hC I'' hn sb',q⟩⟩
end
section
variable {K:PySem.W.Frag} {g:TG} {tt:TT} {te:TE} {Q:VK}
theorem comp_by {J:It} {k:Nat} {caps:List Nat} {σ:St} {H:Hp} (n:Nat) (hn:n ≤ sizeLine) (Pv:Nat → List V → St → Hp → Prop) (h0:Pv 0 [] (capS k caps σ) H) (hgo:∀ i ys τ H,i < n → Pv i ys τ H → J.go i H) (hst:∀ ys τ H,Pv n ys τ H → J.stop n H)
  (hl:∀ i ys τ H,Pv i ys τ H → ys.length ≤ i)
  (hs:∀ i ys τ H x H',i < n → Pv i ys τ H → J.yld i H x H' → ∀ K1:List V → St → Hp → Prop,(∀ ys τ H,Pv (i + 1) ys τ H → K1 ys τ H) → g x τ H' fun τ2 H2 => tt τ2 H2 fun b H3 => if b = true then te τ2 H3 fun y H4 => K1 (ys ++ [y]) τ2 H4 else K1 ys τ2 H3)
  (hd:∀ ys τ H p,Pv n ys τ H → H p = none → Q (.ref p) (upd H p (.lst ys))):CompW J k caps g tt te σ H Q:=by
 refine ⟨fun i m ys τ H => m = n - i ∧ i ≤ n ∧ Pv i ys τ H,⟨n,by simp,Nat.zero_le _,h0⟩,?_⟩
 rintro i m ys τ H ⟨rfl,hi,p⟩
 have hy:=hl i ys τ H p
 by_cases hlt:i < n
 ·refine .inr ⟨hgo i ys τ H hlt p,by lia,fun x H' y => ?_⟩
  exact hs i ys τ H x H' hlt p y (fun ys τ H => ∃ m',m' < n - i ∧ m' = n - (i + 1) ∧ i + 1 ≤ n ∧ Pv (i + 1) ys τ H) fun ys τ H q => ⟨n - (i + 1),by lia,rfl,hlt,q⟩
 ·have e:i = n:=by lia
  subst e
  exact .inl ⟨hst ys τ H p,by lia,fun q hq => hd ys τ H q p hq⟩
end
noncomputable def SIter (b:Bool) (h:Heap) (i l:Addr) (k:Nat):Prop:=match b with | true => h.IsListIter i l k | false => h.IsTupleIter i l k
noncomputable def SSeq (b:Bool) (h:Heap) (l:Addr) (xs:Array Value):Prop:=match b with | true => h.IsList l xs | false => h.IsTuple l xs
theorem SIter.keep {b:Bool} {h h':Heap} {i l:Addr} {k:Nat} (x:SIter b h i l k) (e:∀ o,h.get? i = some o → h'.get? i = some o):SIter b h' i l k:=by
 cases b with
 | true => exact Heap.IsListIter.at x e
 | false => exact Heap.IsTupleIter.at x e
theorem SSeq.keep {b:Bool} {h h':Heap} {l:Addr} {xs:Array Value} (x:SSeq b h l xs) (e:∀ o,h.get? l = some o → h'.get? l = some o):SSeq b h' l xs:=by
 cases b with
 | true => exact Heap.IsList.at x e
 | false => obtain ⟨o,ho,r⟩:=(show h.IsTuple l xs from x); exact ⟨o,e _ ho,r⟩
theorem SIter.there {b:Bool} {h:Heap} {i l:Addr} {k:Nat} (x:SIter b h i l k):∃ o n vs,h.get? i = some o ∧ o.cls = .type n ∧ o.data = .fields vs:=by
 cases b with
 | true => obtain ⟨o,h1,h2,h3⟩:=(show h.IsListIter i l k from x); exact ⟨o,_,_,h1,h2,h3⟩
 | false => obtain ⟨o,h1,h2,h3⟩:=(show h.IsTupleIter i l k from x); exact ⟨o,_,_,h1,h2,h3⟩
section
variable {prog:Program} {w:World} {A:Around} {E:Value → Shared → Prop} {s:Shared}
theorem tupleNext_item {it t:Addr} {i:Nat} {items:Array Value} {x:Value} {Q:Value → Shared → Prop} (hit:s.heap.IsTupleIter it t i) (ht:s.heap.IsTuple t items) (hx:items[i]? = some x)
  (hQ:∀ h',h'.IsTupleIter it t (i + 1) → Heap.SameBut it s.heap h' → Q x { s with heap:=h' }):wpAny (model prog w) A (Builtin.SmallTypes.nextOf (.ref it)) Q E s:=by
 refine bcn fun hNO => ?_
 obtain ⟨oi,hoi,ci,di⟩:=id hit
 obtain ⟨ot,hot,_,nt,dt⟩:=ht
 refine hNO ?_; clear hNO
 unfold Builtin.SmallTypes.nextOf
 refine wpAny_bind (wpAny_callSpecial?_slot (name:=Str.ofString "__next__") hit.typeIs F.slot_tuple_iterator_next (wpAny_call_entry F.slot_tuple_iterator_next hit.typeIs F.entry_tuple_iterator_next ?_ (F.args_tuple_iterator_next_1 _)))
 show wpAny _ _ (field (.ref it) 0 >>= _) _ _ s
 refine wpAny_bind (wpAny_field hoi di (x:=.ref t) rfl ?_)
 show wpAny _ _ (if (Value.ref t == Value.none) = true then _ else _) _ _ s
 rw [if_neg (show ¬ ((Value.ref t == Value.none) = true) from Bool.false_ne_true)]
 show wpAny _ _ (field (.ref it) 1 >>= _) _ _ s
 refine wpAny_bind (wpAny_field hoi di (x:=.int i 0) rfl ?_)
 show wpAny _ _ (seqItems? (.ref t) >>= _) _ _ s
 refine wpAny_bind (wpAny_seqItems hot dt ?_)
 simp only [Int.toNat_natCast,hx]
 refine wpAny_bind (wpAny_setField hoi di (by simp) (wpAny_pure ⟨x,rfl,wpAny_pure (hQ _ ?_ (Heap.SameBut.update ..))⟩))
 exact ⟨_,Heap.get?_update_self _ hoi (Obj.isFreed_of_fields (Obj.data_mapFields di _)),(Obj.cls_mapFields ..).trans ci,by rw [Obj.data_mapFields di]; simp [rawInt]⟩
theorem tupleNext_end {it t:Addr} {i:Nat} {items:Array Value} {Q:Value → Shared → Prop} (hh:A.handled = none) (hit:s.heap.IsTupleIter it t i) (ht:s.heap.IsTuple t items) (hx:items[i]? = none)
  (hE:∀ h' e,Heap.ExtBut it s.heap h' → (∃ o,h'.get? e = some o ∧ o.cls = .type "StopIteration") → E (.ref e) { s with heap:=h' }):wpAny (model prog w) A (Builtin.SmallTypes.nextOf (.ref it)) Q E s:=by
 refine bcn fun hNO => ?_
 obtain ⟨oi,hoi,ci,di⟩:=id hit
 obtain ⟨ot,hot,_,nt,dt⟩:=ht
 refine hNO ?_; clear hNO
 unfold Builtin.SmallTypes.nextOf
 refine wpAny_bind (wpAny_callSpecial?_slot (name:=Str.ofString "__next__") hit.typeIs F.slot_tuple_iterator_next (wpAny_call_entry F.slot_tuple_iterator_next hit.typeIs F.entry_tuple_iterator_next ?_ (F.args_tuple_iterator_next_1 _)))
 show wpAny _ _ (field (.ref it) 0 >>= _) _ _ s
 refine wpAny_bind (wpAny_field hoi di (x:=.ref t) rfl ?_)
 show wpAny _ _ (if (Value.ref t == Value.none) = true then _ else _) _ _ s
 rw [if_neg (show ¬ ((Value.ref t == Value.none) = true) from Bool.false_ne_true)]
 show wpAny _ _ (field (.ref it) 1 >>= _) _ _ s
 refine wpAny_bind (wpAny_field hoi di (x:=.int i 0) rfl ?_)
 show wpAny _ _ (seqItems? (.ref t) >>= _) _ _ s
 refine wpAny_bind (wpAny_seqItems hot dt ?_)
 simp only [Int.toNat_natCast,hx]
 refine wpAny_bind (wpAny_rule (wpAny_bind (wpAny_setField hoi di (by simp) ?_)))
 show wpAny _ _ (newExc (.type "StopIteration") [] >>= _) _ _ _
 refine wpAny_bind ?_
 simp only [newExc,newTuple]
 refine wpAny_bind (wpAny_newObj_type ?_ (by size_fits))
 refine wpAny_bind (m:=firstArgMember _ _) (wpAny_of_eq (a:=Value.none) (by first | rfl | (simp only [firstArgMember]; rfl)) ?_)
 refine wpAny_newObj_type ?_ (by size_fits)
 simp only [raiseNew]
 refine wpAny_bind (wpAny_handled ?_)
 first | rw [show A.in1.handled = none from hh] | rw [hh]
 refine wpAny_bind (wpAny_pure (wpAny_throw ?_))
 exact hE _ _ (((Heap.SameBut.update ..).extBut.push _).push _) ⟨_,Heap.get?_push_size _ rfl,rfl⟩
theorem seqNext_item {b:Bool} {it t:Addr} {i:Nat} {items:Array Value} {x:Value} {Q:Value → Shared → Prop} (hit:SIter b s.heap it t i) (ht:SSeq b s.heap t items) (hx:items[i]? = some x)
  (hQ:∀ h',SIter b h' it t (i + 1) → Heap.SameBut it s.heap h' → Q x { s with heap:=h' }):wpAny (model prog w) A (Builtin.SmallTypes.nextOf (.ref it)) Q E s:=by
 cases b with
 | true => exact wpAny_nextOf_list_item hit ht hx hQ
 | false => exact tupleNext_item hit ht hx hQ
theorem seqNext_end {b:Bool} {it t:Addr} {i:Nat} {items:Array Value} {Q:Value → Shared → Prop} (hh:A.handled = none) (hit:SIter b s.heap it t i) (ht:SSeq b s.heap t items) (hx:items[i]? = none)
  (hE:∀ h' e,Heap.ExtBut it s.heap h' → (∃ o,h'.get? e = some o ∧ o.cls = .type "StopIteration") → E (.ref e) { s with heap:=h' }):wpAny (model prog w) A (Builtin.SmallTypes.nextOf (.ref it)) Q E s:=by
 cases b with
 | true => exact wpAny_nextOf_list_end hh hit ht hx hE
 | false => exact tupleNext_end hh hit ht hx hE
end
end L2
namespace L2
open PySem PySem.Spec PyProof.Rows
noncomputable abbrev itObj (b:Bool) (l:Addr):Obj:={ cls:=.type (match b with | true => "list_iterator" | false => "tuple_iterator"),data:=.fields #[.ref l,.int 0 0] }
section
variable {prog:Program} {w:World} {A:Around} {E:Value → Shared → Prop} {s:Shared}
theorem SIter.new (b:Bool) {h:Heap} {i l:Addr} (e:h.get? i = some (itObj b l)):SIter b h i l 0:=by
 cases b with
 | true => exact ⟨_,e,rfl,rfl⟩
 | false => exact ⟨_,e,rfl,rfl⟩
theorem pyIter_seq {b:Bool} {l:Addr} {xs:Array Value} {Q:Value → Shared → Prop} (h:SSeq b s.heap l xs) (hQ:Q (.ref s.heap.objs.size) { s with heap:=s.heap.push (itObj b l) }):wpAny (model prog w) A (pyIter (.ref l)) Q E s:=by
 cases b with
 | true => exact wpAny_pyIter_list h hQ
 | false => exact wpAny_pyIter_tuple h hQ
theorem zipNext {b1 b2:Bool} {z TI TO i1 i2 l1 l2:Addr} {k1 k2:Nat} {xs ys:Array Value} {x y a b:Value} {Q:Value → Shared → Prop} (D:ZipApart z TI TO i1 i2 l1 l2)
  (hz:IsZip s.heap z TI TO .none) (hTI:IsPair s.heap TI (.ref i1) (.ref i2)) (hTO:IsPair s.heap TO a b) (h1:SIter b1 s.heap i1 l1 k1) (h2:SIter b2 s.heap i2 l2 k2) (hl1:SSeq b1 s.heap l1 xs) (hl2:SSeq b2 s.heap l2 ys) (hx:xs[k1]? = some x) (hy:ys[k2]? = some y)
  (hQ:∀ h',IsZip h' z TI TO (rawInt s.heap.objs.size) → IsPair h' TO x y → SIter b1 h' i1 l1 (k1 + 1) → SIter b2 h' i2 l2 (k2 + 1) → IsPair h' s.heap.objs.size x y →
   (∀ c o,c ≠ z → c ≠ TO → c ≠ i1 → c ≠ i2 → s.heap.get? c = some o → h'.get? c = some o) → Q (.ref s.heap.objs.size) { s with heap:=h' }) :
  wpAny (model prog w) A (Builtin.«zip.__next__» ⟨[.ref z],[]⟩) (fun fin s' => ∃ v,fin = .done (.ret v) ∧ Q v s') E s:=by
 show wpAny _ _ (field (.ref z) 2 >>= _) _ _ _
 refine wpAny_bind (wpAny_field hz rfl (x:=.bool false) rfl ?_)
 show wpAny _ _ (field (.ref z) 3 >>= _) _ _ _
 refine wpAny_bind (wpAny_field hz rfl (x:=.ref TI) rfl (wpAny_bind (wpAny_seqItems hTI rfl ?_)))
 show wpAny _ _ (Builtin.SmallTypes.ownedTupleIsFree (.ref z) >>= _) _ _ _
 refine wpAny_bind ?_
 unfold Builtin.SmallTypes.ownedTupleIsFree
 refine wpAny_bind (wpAny_field hz rfl (x:=.none) rfl (wpAny_pure ?_))
 simp only [if_true]
 refine wpAny_bind (wpAny_rule (wpAny_bind (wpAny_field hz rfl (x:=.ref TO) rfl (wpAny_bind (wpAny_setField_rec hz (by simp) fun g₁ gz₁ s₁ => ?_)))))
 replace gz₁:IsZip g₁ z TI TO .ellipsis:=gz₁
 refine wpAny_bind ?_
 simp only [List.zipIdx_cons,List.zipIdx_nil,List.forIn_cons,List.forIn_nil]
 refine wpAny_bind (wpAny_bind (wpAny_onRaise ?_))
 show wpAny _ _ (Builtin.SmallTypes.nextOf (.ref i1) >>= _) _ _ _
 refine wpAny_bind (seqNext_item (b:=b1) (h1.keep fun o e => s₁.extBut _ o D.i1z e) (hl1.keep fun o e => s₁.extBut _ o D.l1z e) hx fun g₂ q₁ s₂ => wpAny_pure ?_)
 have t₂:IsPair g₂ TO a b:=s₂.extBut _ _ D.TOi1 (s₁.extBut _ _ D.TOz hTO)
 refine wpAny_bind (wpAny_seqItems t₂ rfl (wpAny_bind (wpAny_updateSeq_pair t₂ fun g₃ t₃ s₃ => ?_)))
 replace t₃:IsPair g₃ TO x b:=t₃
 refine wpAny_bind (wpAny_letGo (wpAny_pure (wpAny_bind (wpAny_bind (wpAny_onRaise ?_)))))
 show wpAny _ _ (Builtin.SmallTypes.nextOf (.ref i2) >>= _) _ _ _
 refine wpAny_bind (seqNext_item (b:=b2) (h2.keep fun o e => s₃.extBut _ o D.TOi2.symm (s₂.extBut _ o D.i12.symm (s₁.extBut _ o D.i2z e))) (hl2.keep fun o e => s₃.extBut _ o D.l2TO (s₂.extBut _ o D.l2i1 (s₁.extBut _ o D.l2z e))) hy fun g₄ q₂ s₄ => wpAny_pure ?_)
 have t₄:IsPair g₄ TO x b:=s₄.extBut _ _ D.TOi2 t₃
 refine wpAny_bind (wpAny_seqItems t₄ rfl (wpAny_bind (wpAny_updateSeq_pair t₄ fun g₅ t₅ s₅ => ?_)))
 replace t₅:IsPair g₅ TO x y:=t₅
 refine wpAny_bind (wpAny_letGo (wpAny_pure (wpAny_pure (wpAny_bind (wpAny_seqItems t₅ rfl (wpAny_bind (wpAny_newTuple ?_)))))))
 have sz:g₅.objs.size = s.heap.objs.size:=by rw [s₅.1,s₄.1,s₃.1,s₂.1,s₁.1]
 have z₅:IsZip g₅ z TI TO .ellipsis:=s₅.extBut _ _ D.TOz.symm (s₄.extBut _ _ D.i2z.symm (s₃.extBut _ _ D.TOz.symm (s₂.extBut _ _ D.i1z.symm gz₁)))
 have kp:∀ c o,c ≠ z → c ≠ TO → c ≠ i1 → c ≠ i2 → s.heap.get? c = some o → g₅.get? c = some o:=fun c o n1 n2 n3 n4 e => s₅.extBut _ _ n2 (s₄.extBut _ _ n4 (s₃.extBut _ _ n2 (s₂.extBut _ _ n3 (s₁.extBut _ _ n1 e))))
 have p₁:SIter b1 g₅ i1 l1 (k1 + 1):=q₁.keep fun o e => s₅.extBut _ o D.TOi1.symm (s₄.extBut _ o D.i12 (s₃.extBut _ o D.TOi1.symm e))
 have p₂:SIter b2 g₅ i2 l2 (k2 + 1):=q₂.keep fun o e => s₅.extBut _ o D.TOi2.symm e
 have zlt:z < g₅.objs.size:=Heap.lt_size z₅
 show wpAny _ _ (Builtin.SmallTypes.ownedTupleHandOut (.ref z) (.ref g₅.objs.size) >>= _) _ _ _
 refine wpAny_bind ?_
 unfold Builtin.SmallTypes.ownedTupleHandOut
 have z₆:IsZip (g₅.push { cls:=.type "tuple",data:=.seq #[x,y] }) z TI TO .ellipsis:=Heap.get?_push_of_some _ z₅
 refine wpAny_bind (wpAny_setField_rec z₆ (by simp) fun g₇ z₇ s₇ => ?_)
 replace z₇:IsZip g₇ z TI TO (rawInt g₅.objs.size):=z₇
 refine wpAny_setField_rec z₇ (by simp) fun g₈ z₈ s₈ => ?_
 replace z₈:IsZip g₈ z TI TO (rawInt g₅.objs.size):=z₈
 have up:∀ c o,c ≠ z → g₅.get? c = some o → g₈.get? c = some o:=fun c o n e => s₈.extBut _ _ n (s₇.extBut _ _ n (Heap.get?_push_of_some _ e))
 have t₈:IsPair g₈ g₅.objs.size x y:=s₈.extBut _ _ (Nat.ne_of_gt zlt) (s₇.extBut _ _ (Nat.ne_of_gt zlt) (Heap.get?_push_size _ rfl))
 rw [sz] at z₈ t₈
 refine wpAny_pure ⟨_,rfl,?_⟩
 show Q (.ref g₅.objs.size) _
 rw [sz]
 exact hQ g₈ z₈ (up _ _ D.TOz t₅) (p₁.keep fun o e => up _ o D.i1z e) (p₂.keep fun o e => up _ o D.i2z e) t₈ fun c o n1 n2 n3 n4 e => up c o n1 (kp c o n1 n2 n3 n4 e)
theorem zipEnd {b1 b2:Bool} {z TI TO i1 i2 l1 l2:Addr} {k1 k2:Nat} {xs ys:Array Value} {a b:Value} {Q:Fin → Shared → Prop} (hh:A.handled = none) (D:ZipApart z TI TO i1 i2 l1 l2)
  (hz:IsZip s.heap z TI TO .none) (hTI:IsPair s.heap TI (.ref i1) (.ref i2)) (hTO:IsPair s.heap TO a b) (h1:SIter b1 s.heap i1 l1 k1) (h2:SIter b2 s.heap i2 l2 k2) (hl1:SSeq b1 s.heap l1 xs) (hl2:SSeq b2 s.heap l2 ys) (he:xs[k1]? = none ∨ ys[k2]? = none)
  (hE:∀ h' e,(∀ c o,c ≠ z → c ≠ TO → c ≠ i1 → c ≠ i2 → s.heap.get? c = some o → h'.get? c = some o) → (∃ o,h'.get? e = some o ∧ o.cls = .type "StopIteration") → E (.ref e) { s with heap:=h' }) :
  wpAny (model prog w) A (Builtin.«zip.__next__» ⟨[.ref z],[]⟩) Q E s:=by
 show wpAny _ _ (field (.ref z) 2 >>= _) _ _ _
 refine wpAny_bind (wpAny_field hz rfl (x:=.bool false) rfl ?_)
 show wpAny _ _ (field (.ref z) 3 >>= _) _ _ _
 refine wpAny_bind (wpAny_field hz rfl (x:=.ref TI) rfl (wpAny_bind (wpAny_seqItems hTI rfl ?_)))
 show wpAny _ _ (Builtin.SmallTypes.ownedTupleIsFree (.ref z) >>= _) _ _ _
 refine wpAny_bind ?_
 unfold Builtin.SmallTypes.ownedTupleIsFree
 refine wpAny_bind (wpAny_field hz rfl (x:=.none) rfl (wpAny_pure ?_))
 simp only [if_true]
 refine wpAny_bind (wpAny_rule (wpAny_bind (wpAny_field hz rfl (x:=.ref TO) rfl (wpAny_bind (wpAny_setField_rec hz (by simp) fun g₁ gz₁ s₁ => ?_)))))
 replace gz₁:IsZip g₁ z TI TO .ellipsis:=gz₁
 refine wpAny_bind ?_
 simp only [List.zipIdx_cons,List.zipIdx_nil,List.forIn_cons,List.forIn_nil]
 refine wpAny_bind (wpAny_bind (wpAny_onRaise ?_))
 show wpAny _ _ (Builtin.SmallTypes.nextOf (.ref i1) >>= _) _ _ _
 cases hx:xs[k1]? with
 | none =>
  refine wpAny_bind (seqNext_end (b:=b1) hh (h1.keep fun o e => s₁.extBut _ o D.i1z e) (hl1.keep fun o e => s₁.extBut _ o D.l1z e) hx fun g₂ e s₂ ⟨oe,hoe,ce⟩ => ?_)
  have z₂:IsZip g₂ z TI TO .ellipsis:=s₂ _ _ D.i1z.symm gz₁
  have nez:e ≠ z:=fun q => by subst q; rw [z₂] at hoe; cases hoe; simp at ce
  exact wpAny_setField_rec z₂ (by simp) fun g₃ _ s₃ => hE g₃ e (fun c o n1 _ n3 _ q => s₃.extBut _ _ n1 (s₂ _ _ n3 (s₁.extBut _ _ n1 q))) ⟨oe,s₃.extBut _ _ nez hoe,ce⟩
 | some x =>
  have hy:ys[k2]? = none:=by
   rcases he with q | q
   ·rw [hx] at q; cases q
   ·exact q
  refine wpAny_bind (seqNext_item (b:=b1) (h1.keep fun o e => s₁.extBut _ o D.i1z e) (hl1.keep fun o e => s₁.extBut _ o D.l1z e) hx fun g₂ q₁ s₂ => wpAny_pure ?_)
  have t₂:IsPair g₂ TO a b:=s₂.extBut _ _ D.TOi1 (s₁.extBut _ _ D.TOz hTO)
  refine wpAny_bind (wpAny_seqItems t₂ rfl (wpAny_bind (wpAny_updateSeq_pair t₂ fun g₃ t₃ s₃ => ?_)))
  refine wpAny_bind (wpAny_letGo (wpAny_pure (wpAny_bind (wpAny_bind (wpAny_onRaise ?_)))))
  show wpAny _ _ (Builtin.SmallTypes.nextOf (.ref i2) >>= _) _ _ _
  refine wpAny_bind (seqNext_end (b:=b2) hh (h2.keep fun o e => s₃.extBut _ o D.TOi2.symm (s₂.extBut _ o D.i12.symm (s₁.extBut _ o D.i2z e))) (hl2.keep fun o e => s₃.extBut _ o D.l2TO (s₂.extBut _ o D.l2i1 (s₁.extBut _ o D.l2z e))) hy fun g₄ e s₄ ⟨oe,hoe,ce⟩ => ?_)
  have z₄:IsZip g₄ z TI TO .ellipsis:=s₄ _ _ D.i2z.symm (s₃.extBut _ _ D.TOz.symm (s₂.extBut _ _ D.i1z.symm gz₁))
  have nez:e ≠ z:=fun q => by subst q; rw [z₄] at hoe; cases hoe; simp at ce
  exact wpAny_setField_rec z₄ (by simp) fun g₅ _ s₅ => hE g₅ e (fun c o n1 n2 n3 n4 q => s₅.extBut _ _ n1 (s₄ _ _ n4 (s₃.extBut _ _ n2 (s₂.extBut _ _ n3 (s₁.extBut _ _ n1 q))))) ⟨oe,s₅.extBut _ _ nez hoe,ce⟩
theorem pyNextZip {b1 b2:Bool} {z TI TO i1 i2 l1 l2:Addr} {k1 k2:Nat} {xs ys:Array Value} {x y a b:Value} {Q:Option Value → Shared → Prop} (D:ZipApart z TI TO i1 i2 l1 l2)
  (hz:IsZip s.heap z TI TO .none) (hTI:IsPair s.heap TI (.ref i1) (.ref i2)) (hTO:IsPair s.heap TO a b) (h1:SIter b1 s.heap i1 l1 k1) (h2:SIter b2 s.heap i2 l2 k2) (hl1:SSeq b1 s.heap l1 xs) (hl2:SSeq b2 s.heap l2 ys) (hx:xs[k1]? = some x) (hy:ys[k2]? = some y)
  (hQ:∀ h',IsZip h' z TI TO (rawInt s.heap.objs.size) → IsPair h' TO x y → SIter b1 h' i1 l1 (k1 + 1) → SIter b2 h' i2 l2 (k2 + 1) → IsPair h' s.heap.objs.size x y →
   (∀ c o,c ≠ z → c ≠ TO → c ≠ i1 → c ≠ i2 → s.heap.get? c = some o → h'.get? c = some o) → Q (some (.ref s.heap.objs.size)) { s with heap:=h' }):wpAny (model prog w) A (pyNext (.ref z)) Q E s:=by
 have tz:s.TypeIs (.ref z) "zip":=⟨_,hz,rfl⟩
 unfold pyNext
 exact wpAny_bind (wpAny_attempt (wpAny_callSpecial?_slot (name:=Str.ofString "__next__") tz F.slot_zip_next
  (wpAny_call_entry F.slot_zip_next tz F.entry_zip_next (zipNext (b1:=b1) (b2:=b2) D hz hTI hTO h1 h2 hl1 hl2 hx hy fun h' a1 a2 a3 a4 a5 a6 => wpAny_pure (hQ h' a1 a2 a3 a4 a5 a6)) (F.args_zip_next_1 _))))
theorem pyEndZip {b1 b2:Bool} {z TI TO i1 i2 l1 l2:Addr} {k1 k2:Nat} {xs ys:Array Value} {a b:Value} {Q:Option Value → Shared → Prop} (hh:A.handled = none) (D:ZipApart z TI TO i1 i2 l1 l2)
  (hz:IsZip s.heap z TI TO .none) (hTI:IsPair s.heap TI (.ref i1) (.ref i2)) (hTO:IsPair s.heap TO a b) (h1:SIter b1 s.heap i1 l1 k1) (h2:SIter b2 s.heap i2 l2 k2) (hl1:SSeq b1 s.heap l1 xs) (hl2:SSeq b2 s.heap l2 ys) (he:xs[k1]? = none ∨ ys[k2]? = none)
  (hQ:∀ h',(∀ c o,c ≠ z → c ≠ TO → c ≠ i1 → c ≠ i2 → s.heap.get? c = some o → h'.get? c = some o) → Q none { s with heap:=h' }):wpAny (model prog w) A (pyNext (.ref z)) Q E s:=by
 have tz:s.TypeIs (.ref z) "zip":=⟨_,hz,rfl⟩
 unfold pyNext
 refine wpAny_bind (wpAny_attempt (wpAny_callSpecial?_slot (name:=Str.ofString "__next__") tz F.slot_zip_next
  (wpAny_call_entry F.slot_zip_next tz F.entry_zip_next (zipEnd (b1:=b1) (b2:=b2) hh D hz hTI hTO h1 h2 hl1 hl2 he fun h' e hk he => ?_) (F.args_zip_next_1 _))))
 refine bcn fun hNO => ?_
 obtain ⟨o,ho,hc⟩:=he
 refine hNO ?_; clear hNO
 exact wpAny_bind (wpAny_isInstance (T:="StopIteration") (b:=true) ⟨o,ho,hc⟩ isSubtype_stop (wpAny_pure (hQ _ hk)))
noncomputable abbrev zH1 (b1:Bool) (h:Heap) (l1:Addr):Heap:=h.push (itObj b1 l1)
noncomputable abbrev zH2 (b1 b2:Bool) (h:Heap) (l1 l2:Addr):Heap:=(zH1 b1 h l1).push (itObj b2 l2)
noncomputable abbrev zH3 (b1 b2:Bool) (h:Heap) (l1 l2:Addr):Heap:=(zH2 b1 b2 h l1 l2).push { cls:=.type "tuple",data:=.seq #[.ref h.objs.size,.ref (zH1 b1 h l1).objs.size] }
noncomputable abbrev zH4 (b1 b2:Bool) (h:Heap) (l1 l2:Addr):Heap:=(zH3 b1 b2 h l1 l2).push { cls:=.type "tuple",data:=.seq #[.none,.none] }
noncomputable abbrev zH5 (b1 b2:Bool) (h:Heap) (l1 l2:Addr):Heap:=(zH4 b1 b2 h l1 l2).push { cls:=.type "zip",data:=.fields #[.none,.bool false,.bool false,.ref (zH2 b1 b2 h l1 l2).objs.size,.ref (zH3 b1 b2 h l1 l2).objs.size] }
theorem zip_made (b1 b2:Bool) (l1 l2:Addr) (xs ys:Array Value) :
  Meets (Builtin.«zip.__new__» ⟨[.type "zip",.ref l1,.ref l2],[]⟩) (fun _ R s => SSeq b1 s.heap l1 xs ∧ SSeq b2 s.heap l2 ys ∧ R (.ok (.ret (.ref (zH4 b1 b2 s.heap l1 l2).objs.size))) { s with heap:=zH5 b1 b2 s.heap l1 l2 }) :=
 .of_wp fun prog w A R s h => by
  obtain ⟨hp,g,d,tk,os⟩:=s
  obtain ⟨q1,q2,h⟩:=h
  have hsub:=sub_zip
  have w1:SSeq b1 (Shared.heap ⟨hp,g,d,tk,os⟩) l1 xs:=q1
  have w2:SSeq b2 (Shared.heap ⟨hp.push (itObj b1 l1),g,d,tk,os⟩) l2 ys:=q2.keep fun o e => Heap.get?_push_of_some _ e
  wp_walk using pyIter_seq w1,pyIter_seq w2
  exact ⟨_,rfl,h⟩
theorem call_zip {b1 b2:Bool} {l1 l2:Addr} {xs ys:Array Value} {Q:Value → Shared → Prop} (hl1:SSeq b1 s.heap l1 xs) (hl2:SSeq b2 s.heap l2 ys)
  (h:∀ h',IsZip h' (s.heap.objs.size + 4) (s.heap.objs.size + 2) (s.heap.objs.size + 3) .none → IsPair h' (s.heap.objs.size + 2) (.ref s.heap.objs.size) (.ref (s.heap.objs.size + 1)) → IsPair h' (s.heap.objs.size + 3) .none .none →
   SIter b1 h' s.heap.objs.size l1 0 → SIter b2 h' (s.heap.objs.size + 1) l2 0 → (∀ c o,s.heap.get? c = some o → h'.get? c = some o) → Q (.ref (s.heap.objs.size + 4)) { s with heap:=h' }) :
  wpAny (model prog w) A (call (.type "zip") [.ref l1,.ref l2]) Q E s:=by
 refine callType_new F.called_zip (by decide) (F.typeCall_zip_2 _ _) (F.newCall_zip_2 _ _) (fun obj => F.args_object_init_3 obj _ _) F.entry_zip_new (zip_made b1 b2 l1 l2 xs ys) ⟨hl1,hl2,?_⟩
 have z1:(zH1 b1 s.heap l1).objs.size = s.heap.objs.size + 1:=Heap.size_push ..
 have z2:(zH2 b1 b2 s.heap l1 l2).objs.size = s.heap.objs.size + 2:=by rw [Heap.size_push,z1]
 have z3:(zH3 b1 b2 s.heap l1 l2).objs.size = s.heap.objs.size + 3:=by rw [Heap.size_push,z2]
 have z4:(zH4 b1 b2 s.heap l1 l2).objs.size = s.heap.objs.size + 4:=by rw [Heap.size_push,z3]
 have g5:(zH5 b1 b2 s.heap l1 l2).get? (zH4 b1 b2 s.heap l1 l2).objs.size = some _:=Heap.get?_push_size _ rfl
 have g4:(zH5 b1 b2 s.heap l1 l2).get? (zH3 b1 b2 s.heap l1 l2).objs.size = some _:=Heap.get?_push_of_some _ (Heap.get?_push_size _ rfl)
 have g3:(zH5 b1 b2 s.heap l1 l2).get? (zH2 b1 b2 s.heap l1 l2).objs.size = some _:=Heap.get?_push_of_some _ (Heap.get?_push_of_some _ (Heap.get?_push_size _ rfl))
 have g2:(zH5 b1 b2 s.heap l1 l2).get? (zH1 b1 s.heap l1).objs.size = some (itObj b2 l2):=Heap.get?_push_of_some _ (Heap.get?_push_of_some _ (Heap.get?_push_of_some _ (Heap.get?_push_size _ rfl)))
 have g1:(zH5 b1 b2 s.heap l1 l2).get? s.heap.objs.size = some (itObj b1 l1):=Heap.get?_push_of_some _ (Heap.get?_push_of_some _ (Heap.get?_push_of_some _ (Heap.get?_push_of_some _ (Heap.get?_push_size _ rfl))))
 show _ ∧ _
 rw [z2,z3,z4] at g5
 rw [z1,z2] at g3
 rw [z3] at g4
 rw [z1] at g2
 rw [z4]
 exact ⟨⟨_,g5,rfl⟩,h _ g5 g3 g4 (.new b1 g1) (.new b2 g2) fun c o x => Heap.get?_push_of_some _ (Heap.get?_push_of_some _ (Heap.get?_push_of_some _ (Heap.get?_push_of_some _ (Heap.get?_push_of_some _ x))))⟩
end
noncomputable def SqX (b:Bool) (K:PySem.W.Frag) (H:Hp) (a:Addr) (xs:List V):Prop:=match b with | true => SqL K H a xs | false => SqT K H a xs
theorem Inv.sqx {X:Cx} {pins:List (Addr × Obj)} {σ:St} {H:Hp} {s:Shared} {b:Bool} {a:Addr} {xs:List V} (I:Inv X pins σ H s) (h:SqX b X.K H a xs):∃ its:List Value,Vals xs its ∧ SSeq b s.heap a its.toArray ∧ xs.length ≤ sizeLine:=by
 cases b with
 | true => obtain ⟨its,r,p,z⟩:=I.list h; exact ⟨its,r,p.isList,z⟩
 | false => obtain ⟨its,r,p,z⟩:=I.tuple h; exact ⟨its,r,p,z⟩
theorem Inv.sqx_inj {X:Cx} {pins:List (Addr × Obj)} {σ:St} {H:Hp} {s:Shared} {b:Bool} {a:Addr} {xs ys:List V} (I:Inv X pins σ H s) (h:SqX b X.K H a xs) (h':SqX b X.K H a ys):xs = ys:=by
 cases b with
 | true => exact I.list_inj h h'
 | false => exact I.tuple_inj h h'
theorem Inv.sq_ne {X:Cx} {pins:List (Addr × Obj)} {σ:St} {H:Hp} {s:Shared} {b:Bool} {l c:Addr} {zs:List V} (I:Inv X pins σ H s) (hs:SqX b X.K H l zs) (f:FpOk X pins H c):l ≠ c:=by
 intro q
 have mo:∀ o,X.K.lookup l = some o → False:=fun o hk => by
  have e:=I.mod.kin l o hk
  rcases f.2.2.2.1 with z | z
  ·exact I.ok.noex l o e (by rw [q]; exact z)
  ·exact absurd (Nat.lt_of_lt_of_le (Heap.lt_size (I.ok.bs l o e).1) (by rw [q]; exact z)) (Nat.lt_irrefl _)
 have tr:∀ o,H l = some o → False:=fun o e => by rw [q,f.1] at e; cases e
 cases b with
 | true =>
  rcases (show SqL X.K H l zs from hs) with (r | ⟨o,r⟩) | ⟨o,its,n,hk,_⟩
  ·exact tr _ r
  ·exact tr _ r
  ·exact mo o hk
 | false =>
  rcases (show SqT X.K H l zs from hs) with (r | ⟨o,r⟩) | ⟨o,its,n,hk,_⟩
  ·exact tr _ r
  ·exact tr _ r
  ·exact mo o hk
noncomputable def Itz (K:PySem.W.Frag) (b1 b2:Bool) (a b:Addr):It :=
 ⟨fun i H => ∃ xs ys x y,SqX b1 K H a xs ∧ SqX b2 K H b ys ∧ xs[i]? = some x ∧ ys[i]? = some y,
  fun i H v H' => ∃ p x y,v = .ref p ∧ H p = none ∧ H' = upd H p (.tup [x,y]) ∧ (∀ xs,SqX b1 K H a xs → xs[i]? = some x) ∧ ∀ ys,SqX b2 K H b ys → ys[i]? = some y,
  fun i H => ∃ xs ys,SqX b1 K H a xs ∧ SqX b2 K H b ys ∧ (xs.length ≤ i ∨ ys.length ≤ i)⟩
theorem turn_zip {P:Program} {w:World} {K:PySem.W.Frag} {elts:List Expr} {kt:Nat} {tp:Pos} {b1 b2:Bool} {z TI TO i1 i2:Addr} (a b:Addr) (ne:z ≠ TI ∧ z ≠ TO ∧ z ≠ i1 ∧ z ≠ i2 ∧ TI ≠ TO ∧ TI ≠ i1 ∧ TI ≠ i2 ∧ TO ≠ i1 ∧ TO ≠ i2 ∧ i1 ≠ i2) :
  Turn P w K (.Tuple elts kt tp) (Itz K b1 b2 a b) [z,TI,TO,i1,i2] z (fun i h => IsZip h z TI TO .none ∧ IsPair h TI (.ref i1) (.ref i2) ∧ (∃ u v,IsPair h TO u v) ∧ SIter b1 h i1 a i ∧ SIter b2 h i2 b i) where
 mem:=by simp
 obj:=fun i h ⟨hz,hTI,⟨u,v,hTO⟩,h1,h2⟩ c hc => by
  have hc':c = z ∨ c = TI ∨ c = TO ∨ c = i1 ∨ c = i2:=by simpa using hc
  rcases hc' with rfl | rfl | rfl | rfl | rfl
  ·exact ⟨_,hz,fun v q => by have q':Data.fields _ = Data.cell v:=q; cases q'⟩
  ·exact ⟨_,hTI,fun v q => by have q':Data.seq _ _ = Data.cell v:=q; cases q'⟩
  ·exact ⟨_,hTO,fun v q => by have q':Data.seq _ _ = Data.cell v:=q; cases q'⟩
  ·refine bcn fun hNO => ?_
   obtain ⟨o,n,vs,e,_,d⟩:=h1.there
   refine hNO ?_; clear hNO
   exact ⟨o,e,fun v q => by rw [d] at q; cases q⟩
  ·refine bcn fun hNO => ?_
   obtain ⟨o,n,vs,e,_,d⟩:=h2.there
   refine hNO ?_; clear hNO
   exact ⟨o,e,fun v q => by rw [d] at q; cases q⟩
 keep:=fun i h h' ⟨hz,hTI,⟨u,v,hTO⟩,h1,h2⟩ k => ⟨k z (by simp) _ hz,k TI (by simp) _ hTI,⟨u,v,k TO (by simp) _ hTO⟩,h1.keep fun o e => k i1 (by simp) o e,h2.keep fun o e => k i2 (by simp) o e⟩
 item:=by
  intro X hP hw hK hc i pins s σ H E I hf st hg
  refine bcn fun hNO => ?_
  subst hP hw hK
  obtain ⟨hz,hTI,⟨u,v,hTO⟩,h1,h2⟩:=st
  obtain ⟨xs,ys,x,y,sx,sy,ex,ey⟩:=hg
  obtain ⟨its,rv,p,_⟩:=I.sqx sx
  obtain ⟨its2,rv2,p2,_⟩:=I.sqx sy
  obtain ⟨ux,eux,rx⟩:=rv.get ex
  obtain ⟨uy,euy,ry⟩:=rv2.get ey
  obtain ⟨n1,n2,n3,n4,n5,n6,n7,n8,n9,n10⟩:=ne
  have fz:=hf z (by simp)
  have seqne:∀ {b:Bool} {l:Addr} {zs:List V},SqX b X.K H l zs → ∀ c ∈ [z,TI,TO,i1,i2],l ≠ c:=fun {b l zs} hs c hc' => I.sq_ne hs (hf c hc')
  have D:ZipApart z TI TO i1 i2 a b:=⟨n1.symm,n2.symm,n3.symm,n4.symm,n5,n6,n7,n8,n9,n10,seqne sx z (by simp),seqne sx TO (by simp),seqne sx i1 (by simp),seqne sx i2 (by simp),seqne sy z (by simp),seqne sy TO (by simp),seqne sy i1 (by simp),seqne sy i2 (by simp)⟩
  refine hNO ?_; clear hNO
  refine pyNextZip (b1:=b1) (b2:=b2) D hz hTI hTO h1 h2 p p2 (x:=ux) (y:=uy) (by simpa using eux) (by simpa using euy) fun h' a1 a2 a3 a4 a5 a6 => ⟨_,rfl,?_⟩
  have hT:H s.heap.objs.size = none:=I.hok.fresh (Nat.le_refl _)
  have chn:∀ c ∈ [z,TO,i1,i2],H c = none:=fun c hc' => (hf c (by simp at hc' ⊢; rcases hc' with q | q | q | q <;> simp [q])).1
  have kp:∀ c o,c ∉ [z,TO,i1,i2] → s.heap.get? c = some o → h'.get? c = some o:=fun c o hc' e => a6 c o (fun q => hc' (by simp [q])) (fun q => hc' (by simp [q])) (fun q => hc' (by simp [q])) (fun q => hc' (by simp [q])) e
  have trk:∀ c o,H c = some o → c ∉ [z,TO,i1,i2]:=fun c o e hc' => by rw [chn c hc'] at e; cases e
  have hok:HOk X.prog X.w (upd H s.heap.objs.size (.tup [x,y])) h':=fun c o e => by
   by_cases hcT:c = s.heap.objs.size
   ·subst hcT
    rw [upd_same] at e
    cases e
    exact ⟨by show 2 ≤ sizeLine; decide,[ux,uy],.cons rx (.cons ry .nil),_,a5,rfl,_,rfl⟩
   ·rw [upd_ne hcT] at e
    refine (I.hok c o e).stay (fun d v hd q => kp d v ?_ q) (fun d q => by rw [upd_ne (ne_of_none q hT)]; exact q) fun d zs q => by rw [upd_ne (ne_of_none q hT)]; exact q
    rcases hd with q' | q'
    ·rw [q']; exact trk c o e
    ·exact trk d _ q'
  have un:Un (frs X.stack) [z,TO,i1,i2] H (upd H s.heap.objs.size (.tup [x,y])) s.heap h' :=
   ⟨fun c o e n _ hc' => kp c o hc' e,fun c o e n _ hc' => ⟨o.slots,kp c o hc' e⟩,fun c o e n hc' => by rw [upd_ne (Nat.ne_of_lt (Heap.lt_size e))]; exact n,fun c o e hc' => ⟨o,kp c o hc' e⟩,
    fun c zs e => by rw [upd_ne (ne_of_none e hT)]; exact e,fun c o u e => by rw [upd_ne (ne_of_none e hT)]; exact e,fun c ps e => ⟨#[],by rw [upd_ne (ne_of_none e hT),e]; simp⟩⟩
  have I1:Inv X pins σ (upd H s.heap.objs.size (.tup [x,y])) { s with heap:=h' }:=I.call' rfl un hok I.bare fun c hc' => by
   obtain ⟨f0,f1,f2,f3,f4,f5⟩:=hf c (by simp at hc' ⊢; rcases hc' with q | q | q | q <;> simp [q])
   exact ⟨f3,f1,f4,f5⟩
  have fpT:∀ c ∈ [z,TI,TO,i1,i2],c ≠ s.heap.objs.size:=fun c hc' q => by
   have hlt:c < s.heap.objs.size:=by
    have hc'':c = z ∨ c = TI ∨ c = TO ∨ c = i1 ∨ c = i2:=by simpa using hc'
    rcases hc'' with r | r | r | r | r
    ·rw [r]; exact Heap.lt_size hz
    ·rw [r]; exact Heap.lt_size hTI
    ·rw [r]; exact Heap.lt_size hTO
    ·obtain ⟨o,_,_,e,_⟩:=h1.there; rw [r]; exact Heap.lt_size e
    ·obtain ⟨o,_,_,e,_⟩:=h2.there; rw [r]; exact Heap.lt_size e
   exact absurd hlt (by rw [q]; exact Nat.lt_irrefl _)
  have hn1:∀ c ∈ [z,TI,TO,i1,i2],(upd H s.heap.objs.size (.tup [x,y])) c = none:=fun c hc' => by rw [upd_ne (fpT c hc')]; exact (hf c hc').1
  refine wpAny_letOwnedTupleGo_zip a1 fun h'' hz'' sb => ?_
  refine bcn fun hNO => ?_
  obtain ⟨f0,f1,f2,f3,f4,f5⟩:=fz
  have I2:Inv X pins σ (upd H s.heap.objs.size (.tup [x,y])) { s with heap:=h'' }:=I1.turned (s:={ s with heap:=h' }) (t':=s.toks) (it:=z) (fun c o hc' e => (sb.2 c hc').trans e) (hn1 z (by simp)) f1 f3 f4 f5
  refine hNO ?_; clear hNO
  refine ⟨.ref s.heap.objs.size,_,I2,rfl,⟨_,x,y,rfl,hT,rfl,fun zs hs => by rw [I.sqx_inj hs sx]; exact ex,fun zs hs => by rw [I.sqx_inj hs sy]; exact ey⟩,⟨hz'',?_,⟨_,_,sb.extBut _ _ n2.symm a2⟩,a3.keep fun o e => sb.extBut _ o n3.symm e,a4.keep fun o e => sb.extBut _ o n4.symm e⟩,hn1⟩
  exact sb.extBut _ _ n1.symm (a6 _ _ n1.symm n5 n6 n7 hTI)
 done:=by
  intro X hP hw hK hc i pins s σ H E I hf st hg
  refine bcn fun hNO => ?_
  subst hP hw hK
  obtain ⟨hz,hTI,⟨u,v,hTO⟩,h1,h2⟩:=st
  obtain ⟨xs,ys,sx,sy,hl⟩:=hg
  obtain ⟨its,rv,p,_⟩:=I.sqx sx
  obtain ⟨its2,rv2,p2,_⟩:=I.sqx sy
  have l1:=rv.length
  have l2:=rv2.length
  obtain ⟨n1,n2,n3,n4,n5,n6,n7,n8,n9,n10⟩:=ne
  have seqne:∀ {b:Bool} {l:Addr} {zs:List V},SqX b X.K H l zs → ∀ c ∈ [z,TI,TO,i1,i2],l ≠ c:=fun {b l zs} hs c hc' => I.sq_ne hs (hf c hc')
  have D:ZipApart z TI TO i1 i2 a b:=⟨n1.symm,n2.symm,n3.symm,n4.symm,n5,n6,n7,n8,n9,n10,seqne sx z (by simp),seqne sx TO (by simp),seqne sx i1 (by simp),seqne sx i2 (by simp),seqne sy z (by simp),seqne sy TO (by simp),seqne sy i1 (by simp),seqne sy i2 (by simp)⟩
  refine hNO ?_; clear hNO
  refine pyEndZip (b1:=b1) (b2:=b2) (I.ok.hd hc) D hz hTI hTO h1 h2 p p2 (by rcases hl with q | q; exact .inl (by simp; lia); exact .inr (by simp; lia)) fun h' a6 => ⟨rfl,?_⟩
  have chn:∀ c ∈ [z,TO,i1,i2],H c = none:=fun c hc' => (hf c (by simp at hc' ⊢; rcases hc' with q | q | q | q <;> simp [q])).1
  have kp:∀ c o,c ∉ [z,TO,i1,i2] → s.heap.get? c = some o → h'.get? c = some o:=fun c o hc' e => a6 c o (fun q => hc' (by simp [q])) (fun q => hc' (by simp [q])) (fun q => hc' (by simp [q])) (fun q => hc' (by simp [q])) e
  have trk:∀ c o,H c = some o → c ∉ [z,TO,i1,i2]:=fun c o e hc' => by rw [chn c hc'] at e; cases e
  have hok:HOk X.prog X.w H h':=fun c o e => by
   refine (I.hok c o e).stay (fun d v hd q => kp d v ?_ q) (fun d q => q) fun d zs q => q
   rcases hd with q' | q'
   ·rw [q']; exact trk c o e
   ·exact trk d _ q'
  have un:Un (frs X.stack) [z,TO,i1,i2] H H s.heap h' :=
   ⟨fun c o e n _ hc' => kp c o hc' e,fun c o e n _ hc' => ⟨o.slots,kp c o hc' e⟩,fun c o e n hc' => n,fun c o e hc' => ⟨o,kp c o hc' e⟩,fun c zs e => e,fun c o u e => e,fun c ps e => ⟨#[],by rw [e]; simp⟩⟩
  exact I.call' rfl un hok I.bare fun c hc' => by
   obtain ⟨f0,f1,f2,f3,f4,f5⟩:=hf c (by simp at hc' ⊢; rcases hc' with q | q | q | q <;> simp [q])
   exact ⟨f3,f1,f4,f5⟩
 self:=fun _ _ _ _ _ st h => wpAny_pyIter_zip st.1 h
section
variable {X:Cx} {elts:List Expr} {kt:Nat} {tp p pos:Pos}
noncomputable def iZip (K:PySem.W.Frag) (b1 b2:Bool) (ta:TA):TI:=fun σ H R => ta σ H fun vs H1 => ∃ a b,vs = [.ref a,.ref b] ∧ (∃ xs,SqX b1 K H1 a xs) ∧ (∃ ys,SqX b2 K H1 b ys) ∧ R (Itz K b1 b2 a b) H1
theorem pi_zip (b1 b2:Bool) {ea eb:Expr} {ta:TA} (hg:Gl X "zip") (hm:X.mg "zip" = none) (ha:PA X [ea,eb] ta) (hs:starEach [ea,eb] X.env = [(false,eval ea X.env),(false,eval eb X.env)]:=by rfl) (hs2:starEach [eb] X.env = [(false,eval eb X.env)]:=by rfl) :
  PI X (.Tuple elts kt tp) (.Call (.Name "zip" p) [ea,eb] [] pos) (iZip X.K b1 b2 ta):=by
 intro pins s σ H R I h
 refine Call_ (ld_blt I hg hm boot_zip (PyProof.Rows.callWith_type1 (thn (ha pos pins s σ H _ I h) fun us s1 ⟨vs,H1,I1,r1,q1⟩ => ?_) (by rw [hs,hs2]) (by rw [hs2]; rfl)))
 refine bcn fun hNO => ?_
 obtain ⟨a,b,e,⟨xs,sx⟩,⟨ys,sy⟩,q⟩:=q1
 subst e
 obtain ⟨u,u2,rfl,ru,ru2⟩:=vals2 r1
 cases ru
 cases ru2
 obtain ⟨its,rv,p1,_⟩:=I1.sqx sx
 obtain ⟨its2,rv2,p2,_⟩:=I1.sqx sy
 refine hNO ?_; clear hNO
 refine call_zip (b1:=b1) (b2:=b2) p1 p2 fun h' hz hTI hTO g1 g2 kp => wpAny_pyIter_zip hz ?_
 have I2:Inv X pins σ H1 { s1 with heap:=h' }:=I1.kept (t':=s1.toks) kp
 refine ⟨_,[s1.heap.objs.size + 4,s1.heap.objs.size + 2,s1.heap.objs.size + 3,s1.heap.objs.size,s1.heap.objs.size + 1],_,_,H1,rfl,I2,turn_zip (b1:=b1) (b2:=b2) a b ?_,⟨hz,hTI,⟨_,_,hTO⟩,g1,g2⟩,fun c hc => ?_,q⟩
 ·refine ⟨?_,?_,?_,?_,?_,?_,?_,?_,?_,?_⟩ <;> (intro z; have z':(_:Nat) = _:=z; lia)
 ·have hle:s1.heap.objs.size ≤ c:=by
   have hc':c = s1.heap.objs.size + 4 ∨ c = s1.heap.objs.size + 2 ∨ c = s1.heap.objs.size + 3 ∨ c = s1.heap.objs.size ∨ c = s1.heap.objs.size + 1:=by simpa using hc
   rcases hc' with r | r | r | r | r <;> (rw [r]; first | exact Nat.le_refl _ | exact Nat.le_add_right _ _)
  exact I1.fpOk hle (I1.hok.fresh hle)
end
end L2
namespace L2
open PySem PySem.Spec PyProof.Rows
theorem ObjOk.there {P:Program} {w:World} {H:Hp} {h:Heap} {a:Addr} {o:HO} (x:ObjOk P w H h a o):∃ ob,h.get? a = some ob:=by
 cases o with
 | lst xs => obtain ⟨_,_,_,_,e⟩:=x; exact ⟨_,e⟩
 | tup xs => obtain ⟨_,_,_,ob,e,_⟩:=x; exact ⟨_,e⟩
 | dK kvs => obtain ⟨_,_,_,_,o,_,_,e,_⟩:=x; exact ⟨_,e⟩
 | dT kvs => obtain ⟨_,_,_,_,o,_,_,e,_⟩:=x; exact ⟨_,e⟩
 | set S n => obtain ⟨o,_,_,_,e,_⟩:=x; exact ⟨_,e⟩
 | ins C dx fs => obtain ⟨_,_,_,e,_⟩:=x; exact ⟨_,e⟩
 | own y => obtain ⟨_,e⟩:=x; exact ⟨_,e⟩
 | xd fs => obtain ⟨_,⟨_,_,_,e,_⟩,_⟩:=x; exact ⟨_,e⟩
 | rng lo hi => obtain ⟨_,_,_,e⟩:=x; exact ⟨_,e⟩
 | frz ob u => obtain ⟨e,_⟩:=x; exact ⟨_,e⟩
 | tbl ps => exact ⟨_,(show h.get? a = some _ from x)⟩
 | met f y => exact ⟨_,(show h.get? a = some _ from x)⟩
 | ext φ => obtain ⟨_,e,_⟩:=x; exact e
structure Fly (P:Program) (w:World) (l:List Env) (H H':Hp) (s s':Shared) (ea:Addr) (cls:Value):Prop where
 os:s'.os = s.os
 bare:AllBare s'.gens
 un:Un (frs l) [] H H' s.heap s'.heap
 hok:HOk P w H' s'.heap
 fl:∃ (B:Heap) (t:Addr),Heap.FlyingW B l ea cls (.ref t) s'.heap ∧ (∀ b,H' b ≠ none → ∃ o,B.get? b = some o) ∧ (∀ b o,s.heap.get? b = some o → b ∉ frs l → ∃ o',B.get? b = some o')
noncomputable def CX1 (P:Program) (w:World):CXT:=fun outer H s E e s' => ∃ ea cls H',e = .ref ea ∧ Fly P w outer H H' s s' ea cls ∧ E cls none H'
section
variable {P:Program} {w:World} {K:PySem.W.Frag} {mg:Str → Option Value} {base:Heap} {N:List Str} {qual:Str} {scope:Scope} {f:Addr} {cd:Value} {A:Around} {outer:List Env} {s₀:Shared} {H₀:Hp} {E:XK}
theorem frs_cons {env:Env} {L:Addr} (hf:env.frame = some L) (l:List Env):frs (env :: l) = L :: frs l:=by
 unfold frs
 rw [List.filterMap_cons,hf]
theorem raise_out {pins:List (Addr × Obj)} {σ:St} {H:Hp} {s:Shared} {h':Heap} {e:Addr} {cls:Value} {vs:List Value} (I:Inv (cxOf (CX1 P w) P w K mg base N qual scope f cd A outer s₀ H₀ E) pins σ H s)
  (hx:Heap.MadeExcOf s.heap h' e cls vs) (hE:E cls none H):(cxOf (CX1 P w) P w K mg base N qual scope f cd A outer s₀ H₀ E).xe (.ref e) { s with heap:=h' }:=by
 have hst:=I.stack
 have hfree:=I.stkFree
 have hfr:(A.deeper (envOfC qual scope s₀.heap.objs.size f cd)).frames = some (envOfC qual scope s₀.heap.objs.size f cd :: outer):=I.ok.frames
 have efs:frs (envOfC qual scope s₀.heap.objs.size f cd :: outer) = s₀.heap.objs.size :: frs outer:=frs_cons rfl outer
 have hin:∀ env ∈ (envOfC qual scope s₀.heap.objs.size f cd :: outer),∀ b,env.frame = some b → b ∈ frs (envOfC qual scope s₀.heap.objs.size f cd :: outer):=fun env he b hb => List.mem_filterMap.mpr ⟨env,he,hb⟩
 have nfr:∀ b o,s₀.heap.get? b = some o → b ∉ frs outer → b ∉ frs (envOfC qual scope s₀.heap.objs.size f cd :: outer):=fun b o q hb hm => by
  rw [efs] at hm
  rcases List.mem_cons.mp hm with z | z
  ·exact absurd (Heap.lt_size q) (by rw [z]; exact Nat.lt_irrefl _)
  ·exact hb z
 refine wpAny_leaves_madeW (base:=PySem.W.hideAll s.heap (frs (envOfC qual scope s₀.heap.objs.size f cd :: outer))) (h:=s.heap) hfr rfl (fun b o q => PySem.W.of_hideAll _ q) (PySem.W.funFrames_hide hst hin) hx fun h'' t fl _ _ up => ?_
 have stays:∀ b o,s.heap.get? b = some o → b ∉ frs (envOfC qual scope s₀.heap.objs.size f cd :: outer) → h''.get? b = some o:=fun b o q hb => fl.1 b o (PySem.W.hideAll_get _ q hb)
 have trk:∀ b u,H b = some u → b ∉ frs (envOfC qual scope s₀.heap.objs.size f cd :: outer):=fun b u q hb => by rw [hfree b hb] at q; cases q
 have slot:∀ b o,s₀.heap.get? b = some o → H₀ b = none → b ∈ frs outer → ∃ sl,h''.get? b = some { o with slots:=sl }:=fun b o q n hb => by
  obtain ⟨sl,e1⟩:=I.base.slot b o q n hb (by intro z; cases z)
  obtain ⟨_,o',ho',hnf⟩:=hst.mem (show b ∈ frs (envOfC qual scope s₀.heap.objs.size f cd :: outer) by rw [efs]; exact List.mem_cons_of_mem _ hb)
  rw [e1] at ho'
  cases ho'
  obtain ⟨sl',e2⟩:=up b _ (hx.keeps _ _ e1) hnf
  exact ⟨sl',e2⟩
 have nil:∀ b:Addr,b ∉ (cxOf (CX1 P w) P w K mg base N qual scope f cd A outer s₀ H₀ E).ex:=fun b z => by cases z
 refine ⟨e,cls,H,rfl,⟨I.os,I.bare,⟨fun b o q n hb _ => stays b o (I.base.keep b o q n hb (nil b)) (nfr b o q hb),fun b o q n hb _ => slot b o q n hb,fun b o q n _ => I.base.free b o q n (nil b),fun b o q _ => ?_,I.base.tups,I.base.frzs,I.base.tbls⟩,fun b u q => ?_,PySem.W.hideAll s.heap (frs (envOfC qual scope s₀.heap.objs.size f cd :: outer)),t,fl,fun b hb => ?_,fun b o q hb => ?_⟩,hE⟩
 ·by_cases hb:b ∈ frs outer
  ·obtain ⟨sl,e1⟩:=slot b o q (I.ok.frf b hb) hb
   exact ⟨_,e1⟩
  ·obtain ⟨o',e1⟩:=I.base.there b o q (nil b)
   exact ⟨o',stays b o' e1 (nfr b o q hb)⟩
 ·refine (I.hok b u q).stay (fun c v hc z => stays c v z ?_) (fun _ z => z) fun _ _ z => z
  rcases hc with z' | z'
  ·rw [z']; exact trk b u q
  ·exact trk c _ z'
 ·cases q:H b with
  | none => exact absurd q hb
  | some u =>
   obtain ⟨o,e1⟩:=(I.hok b u q).there
   exact ⟨o,PySem.W.hideAll_get _ e1 (trk b u q)⟩
 ·obtain ⟨o',e1⟩:=I.base.there b o q (nil b)
  exact ⟨o',PySem.W.hideAll_get _ e1 (nfr b o q hb)⟩
theorem pass_out:Passes (CX1 P w) (cxOf (CX1 P w) P w K mg base N qual scope f cd A outer s₀ H₀ E) E:=by
 rintro pins σ H s e s' I ⟨ea,cls,H',rfl,Z,hE⟩
 refine bcn fun hNO => ?_
 obtain ⟨B,t,fl,ct,cs⟩:=Z.fl
 have hfr:(A.deeper (envOfC qual scope s₀.heap.objs.size f cd)).frames = some (envOfC qual scope s₀.heap.objs.size f cd :: outer):=I.ok.frames
 have efs:frs (envOfC qual scope s₀.heap.objs.size f cd :: outer) = s₀.heap.objs.size :: frs outer:=frs_cons rfl outer
 have nfr:∀ b o,s₀.heap.get? b = some o → b ∉ frs outer → b ∉ frs (envOfC qual scope s₀.heap.objs.size f cd :: outer):=fun b o q hb hm => by
  rw [efs] at hm
  rcases List.mem_cons.mp hm with z | z
  ·exact absurd (Heap.lt_size q) (by rw [z]; exact Nat.lt_irrefl _)
  ·exact hb z
 refine hNO ?_; clear hNO
 have sub:∀ b,b ∈ frs outer → b ∈ frs (envOfC qual scope s₀.heap.objs.size f cd :: outer):=fun b hb => by rw [efs]; exact List.mem_cons_of_mem _ hb
 have nil:∀ b:Addr,b ∉ (cxOf (CX1 P w) P w K mg base N qual scope f cd A outer s₀ H₀ E).ex:=fun b z => by cases z
 refine wpAny_leaves_onW hfr rfl fl fun h'' fl2 up => ?_
 have inB:∀ b o,s'.heap.get? b = some o → (∃ o',B.get? b = some o') → h''.get? b = some o:=fun b o q ⟨o',z⟩ => by
  have q':=fl.1 b o' z
  rw [q] at q'
  cases q'
  exact fl2.1 b o z
 have slot:∀ b o,s₀.heap.get? b = some o → H₀ b = none → b ∈ frs outer → ∃ sl,h''.get? b = some { o with slots:=sl }:=fun b o q n hb => by
  obtain ⟨sl,e1⟩:=I.base.slot b o q n hb (nil b)
  obtain ⟨sl2,e2⟩:=Z.un.slot b _ e1 (I.base.free b o q n (nil b)) (sub b hb) (by intro z; cases z)
  obtain ⟨_,o',ho',hnf⟩:=fl.2.2.1.mem (sub b hb)
  rw [e2] at ho'
  cases ho'
  obtain ⟨sl',e3⟩:=up b _ e2 hnf
  exact ⟨sl',e3⟩
 refine ⟨ea,cls,H',rfl,⟨Z.os.trans I.os,Z.bare,⟨fun b o q n hb _ => ?_,fun b o q n hb _ => slot b o q n hb,fun b o q n _ => ?_,fun b o q _ => ?_,fun b xs q => Z.un.tups b xs (I.base.tups b xs q),fun b o u q => Z.un.frzs b o u (I.base.frzs b o u q),fun b ps q => ?_⟩,fun b u q => ?_,B,t,fl2,ct,fun b o q hb => ?_⟩,hE⟩
 ·have e1:=I.base.keep b o q n hb (nil b)
  have n1:=I.base.free b o q n (nil b)
  have nf:=nfr b o q hb
  exact inB b o (Z.un.keep b o e1 n1 nf (by intro z; cases z)) (cs b o e1 nf)
 ·obtain ⟨o',e1⟩:=I.base.there b o q (nil b)
  exact Z.un.free b o' e1 (I.base.free b o q n (nil b)) (by intro z; cases z)
 ·by_cases hb:b ∈ frs outer
  ·obtain ⟨sl,e1⟩:=slot b o q (I.ok.frf b hb) hb
   exact ⟨_,e1⟩
  ·refine bcn fun hNO => ?_
   obtain ⟨o',e1⟩:=I.base.there b o q (nil b)
   obtain ⟨o2,e2⟩:=cs b o' e1 (nfr b o q hb)
   refine hNO ?_; clear hNO
   exact ⟨o2,fl2.1 b o2 e2⟩
 ·refine bcn fun hNO => ?_
  obtain ⟨m1,e1⟩:=I.base.tbls b ps q
  obtain ⟨m2,e2⟩:=Z.un.tbls b _ e1
  refine hNO ?_; clear hNO
  exact ⟨m1 ++ m2,by rw [e2,Array.append_assoc]⟩
 ·refine (Z.hok b u q).stay (fun c v hc z => inB c v z (ct c ?_)) (fun _ z => z) fun _ _ z => z
  rcases hc with z' | z'
  ·rw [z',q]; simp
  ·rw [z']; simp
 ·obtain ⟨o',e1⟩:=I.base.there b o q (nil b)
  exact cs b o' e1 (nfr b o q hb)
theorem Fun.okX {x:Str} {st:Stmt} {fd:FuncData} {ps:List Str} {k:Nat} {sp:Sp} (F:Fun K x qual st f fd) (S:FnScope N ps (defScope st)) (len:∀ vs H Q E,sp vs H Q E → vs.length = ps.length)
  (hbody:∀ (cdv:Value) (A:Around) (outer:List Env) (s:Shared) (H:Hp) (vs:List V) (Q:VK) (E:XK),Room k (A.deeper (envOfC qual (defScope st) s.heap.objs.size f cdv)) → sp vs H Q E →
   ∃ t,PSs (cxOf (CX1 P w) P w K mg base N qual (defScope st) f cdv A outer s H E) (defBody st) t ∧ t { nx:=fun _ H' => Q .non H',rt:=Q } (start N vs) H):FnOk P w K mg base (CX1 P w) (k + 1) f fd ps sp:=by
 refine bcn fun hNO => ?_
 obtain ⟨oc,od,kV,doc,pm,an,cdv,ct,osl,rfl,lk,hcd⟩:=F.ex
 refine hNO ?_; clear hNO
 exact fn_of lk hcd S len fun A outer s H vs Q E hr hsp => hbody cdv A outer s H vs Q E hr hsp
end
theorem ownCls_in {K:PySem.W.Frag} {h:Heap} {mg:Str → Option Value} {x:Str} {C:Addr} {bmB:List Value} {newId:String} (X:K.In h) (hb:mg x = some (.ref C)) (q:PySem.W.excIn K C bmB newId = true):OwnCls x C bmB newId mg h:=by
 refine ⟨hb,?_⟩
 unfold PySem.W.excIn at q
 split at q
 ·rename_i dd cd sl ho
  split at q
  ·rename_i C' bm k0 k1 k2 k3 n k5 hm hs
   refine bcn fun hNO => ?_
   simp only [Bool.and_eq_true,beq_iff_eq,Bool.not_eq_true'] at q
   obtain ⟨⟨⟨⟨⟨rfl,rfl⟩,hdel⟩,ht⟩,hok⟩,hni⟩:=q
   obtain ⟨nm,bs,mro,ns,qn,hd,sn,sub,ab,col,del⟩:=cd
   dsimp only at hm hdel hok hni
   subst hm hdel
   have hsl:sl = #[k0,k1,k2,k3,some (.builtin n),k5]:=by
    obtain ⟨l⟩:=sl
    simp only at hs
    rw [hs]
   subst hsl
   refine hNO ?_; clear hNO
   exact ⟨bm,ns,nm,qn,bs,hd,sn,sub,ab,col,dd,k0,k1,k2,k3,k5,_,X _ _ ho,.of_isNs (PySem.W.isNs_of_in X hok),PySem.W.nsMap_none_of_in X hok hni,PySem.W.tail_of_in X ht⟩
  ·cases q
 ·cases q
noncomputable def tRaise (E:XK) (C:Addr) (t:TA):TS:=fun _ σ H => t σ H fun vs H1 => vs.length ≤ sizeLine ∧ E (.ref C) none H1
noncomputable def Raises (X:Cx) (E:XK):Prop:=∀ (pins:List (Addr × Obj)) (σ:St) (H:Hp) (s:Shared) (h':Heap) (e:Addr) (cls:Value) (vs:List Value),Inv X pins σ H s → Heap.MadeExcOf s.heap h' e cls vs → E cls none H → X.xe (.ref e) { s with heap:=h' }
theorem ps_raise {X:Cx} {E:XK} {x:Str} {C:Addr} {B newId initId:String} {bm:List Value} {np cpos pos:Pos} {e₀:Expr} {rest:List Expr} {t:TA} (hX:Raises X E) (hc:X.calm = true) (hm:X.mg x = some (.ref C)) (hq:PySem.W.excIn X.K C bm newId = true) (FB:ExcBaseFacts B newId initId bm) (hg:Gl X x) (ha:PA X (e₀ :: rest) t)
  (he:starEach (e₀ :: rest) X.env = (false,eval e₀ X.env) :: starEach rest X.env:=by rfl) (hpl:(backTo cpos (starEach rest X.env)).any (·.1) = false:=by rfl) (hd:(x == ("__debug__":Str)) = false:=by decide) :
  PS X (.Raise (some (.Call (.Name x np) (e₀ :: rest) [] cpos)) none pos) (tRaise E C t):=by
 intro pins s σ H D I h
 refine bcn fun hNO => ?_
 obtain ⟨tl,NS,nm,q,bs,hdct,sn,sub,ab,col,dd,k0,k1,k2,k3,k5,mN,hC,hN,hni,T⟩:=(ownCls_in I.mod.kin hm hq).obj
 refine hNO ?_; clear hNO
 refine wpAny_Raise_call_subT (C:=C) (nm:=nm) (q:=q) (N:=NS) (bs:=bs) (bm:=tl) (hdct:=hdct) (sn:=sn) (sub:=sub) (ab:=ab) (col:=col) (dd:=dd) (k0:=k0) (k1:=k1) (k2:=k2) (k3:=k3) (k5:=k5)
  FB (mN:=mN) (T.hasType FB.hasBase) (I.ok.hd hc) (by rw [he]; show (false || (backTo cpos (starEach rest X.env)).any (·.1)) = false; rw [hpl]; rfl) hni (ld_glob I hg hm ⟨rfl,?_⟩ hd)
 have hA:=ha cpos pins s σ H _ I h
 rw [he] at hA ⊢
 exact Calls.evalArgs_plain (thn hA fun us s2 ⟨vs,H2,I2,r2,z,q2⟩ => ⟨rfl,by rw [← r2.length]; exact z,I2.bk _ _ hC,hN.keeps I2.bk,T.keeps I2.bk,fun h' e hm2 => hX pins σ H2 s2 h' e _ _ I2 hm2 q2⟩)
end L2
namespace L2
open PySem PySem.Spec PyProof.Rows
structure DefX (X:Cx):Prop where
 fn:∀ y,X.fn y = true
 stk:X.stack = X.env :: X.outer
 fr:X.env.frame = some X.env.locals
structure InvX (X:Cx) (pins:List (Addr × Obj)) (σ:St) (H:Hp) (s:Shared) (ea:Addr) (cls:Value):Prop where
 inv:Inv X pins σ H s
 fl:∃ (B:Heap) (t:Addr),Heap.FlyingW B X.stack ea cls (.ref t) s.heap ∧ (∀ b,H b ≠ none → ∃ o,B.get? b = some o) ∧ (∀ b o,X.s₀.heap.get? b = some o → b ∉ frs X.stack → b ∉ X.ex → ∃ o',B.get? b = some o') ∧ (∀ p ∈ X.pn ++ pins,∃ o',B.get? p.1 = some o') ∧ (∀ x c,X.env.cells.lookup x = some c → ∃ o,B.get? c = some o)
section
variable {X:Cx} {pins:List (Addr × Obj)} {σ:St} {H H':Hp} {s s':Shared} {ea:Addr} {cls:Value}
theorem Inv.nstk (I:Inv X pins σ H s) {b:Addr} (h1:b ≠ X.env.locals) (h2:b ∉ X.fs):b ∉ frs X.stack:=fun z => (List.mem_cons.mp (I.stkSub b z)).elim h1 h2
theorem Inv.slots {B h':Heap} (I:Inv X pins σ H s) (sB:B.StaysIn s.heap) (c1:∀ b,H b ≠ none → ∃ o,B.get? b = some o) (c2:∀ b o,X.s₀.heap.get? b = some o → b ∉ frs X.stack → b ∉ X.ex → ∃ o',B.get? b = some o') (c3:∀ p ∈ X.pn ++ pins,∃ o',B.get? p.1 = some o')
  (c4:∀ x c,X.env.cells.lookup x = some c → ∃ o,B.get? c = some o) (k1:B.StaysIn h') (k2:s.heap.UpToSlots h'):Inv X pins σ H { s with heap:=h' }:=by
 have inB:∀ b o,s.heap.get? b = some o → (∃ o',B.get? b = some o') → h'.get? b = some o:=fun b o q ⟨o',z⟩ => by
  have q':=sB b o' z
  rw [q] at q'
  cases q'
  exact k1 b o z
 have neL:∀ b o,X.s₀.heap.get? b = some o → b ≠ X.env.locals:=fun b o e => Nat.ne_of_lt (Nat.lt_of_lt_of_le (Heap.lt_size e) I.ok.above)
 have slot:∀ b o,X.s₀.heap.get? b = some o → X.H₀ b = none → b ∈ X.fs → b ∉ X.ex → ∃ sl,h'.get? b = some { o with slots:=sl }:=fun b o q n hb hx => by
  obtain ⟨sl,e1⟩:=I.base.slot b o q n hb hx
  obtain ⟨_,o',ho',hnf⟩:=I.funs.mem hb
  rw [e1] at ho'
  cases ho'
  obtain ⟨sl',e2⟩:=k2 b _ e1 hnf
  exact ⟨sl',e2⟩
 refine ⟨I.ok,I.os,I.bare,⟨fun b o q n hb hx => ?_,slot,I.base.free,fun b o q hx => ?_,I.base.tups,I.base.frzs,I.base.tbls⟩,?_,fun x c e => ?_,I.free,I.freeC,fun p hp => ?_,fun b u q => ?_,I.len⟩
 ·exact inB b o (I.base.keep b o q n hb hx) (c2 b o q (I.nstk (neL b o q) hb) hx)
 ·by_cases hb:b ∈ X.fs
  ·obtain ⟨sl,e1⟩:=slot b o q (I.ok.frf b hb) hb hx
   exact ⟨_,e1⟩
  ·obtain ⟨o',e1⟩:=I.base.there b o q hx
   exact ⟨o',inB b o' e1 (c2 b o q (I.nstk (neL b o q) hb) hx)⟩
 ·refine bcn fun hNO => ?_
  obtain ⟨m,hn,hl⟩:=I.loc
  refine hNO ?_; clear hNO
  refine ⟨m,k2.ns hn,fun i x v e1 e2 e3 => ?_⟩
  refine bcn fun hNO => ?_
  obtain ⟨u,r,l⟩:=hl i x v e1 e2 e3
  refine hNO ?_; clear hNO
  refine ⟨u,r,?_⟩
  rcases l with l | ⟨k,c,e,o,ho,hd⟩
  ·exact .inl l
  ·exact .inr ⟨k,c,e,o,inB c o ho (c4 x c e),hd⟩
 ·refine bcn fun hNO => ?_
  obtain ⟨v,o,ho,hd⟩:=I.cell x c e
  refine hNO ?_; clear hNO
  exact ⟨v,o,inB c o ho (c4 x c e),hd⟩
 ·refine bcn fun hNO => ?_
  obtain ⟨e,n,ne,nf,d⟩:=I.pin p hp
  refine hNO ?_; clear hNO
  exact ⟨inB p.1 p.2 e (c3 p hp),n,ne,nf,d⟩
 ·refine (I.hok b u q).stay (fun c v hc z => inB c v z (c1 c ?_)) (fun _ z => z) fun _ _ z => z
  rcases hc with z' | z'
  ·rw [z',q]; simp
  ·rw [z']; simp
theorem InvX.slots (J:InvX X pins σ H s ea cls):∃ (B:Heap) (t:Addr),Heap.FlyingW B X.stack ea cls (.ref t) s.heap ∧ H ea = none ∧ ∀ h',Heap.FlyingW B X.stack ea cls (.ref t) h' → s.heap.UpToSlots h' → InvX X pins σ H { s with heap:=h' } ea cls:=by
 refine bcn fun hNO => ?_
 obtain ⟨B,t,fl,c1,c2,c3,c4⟩:=J.fl
 refine hNO ?_; clear hNO
 refine ⟨B,t,fl,?_,fun h' f2 up => ⟨J.inv.slots fl.1 c1 c2 c3 c4 f2.1 up,B,t,f2,c1,c2,c3,c4⟩⟩
 cases q:H ea with
 | none => rfl
 | some u =>
  obtain ⟨o,e⟩:=c1 ea (by rw [q]; simp)
  rw [fl.2.1] at e
  cases e
theorem Inv.flew (I:Inv X pins σ H s) (hfn:∀ y,X.fn y = true) (Z:Fly X.prog X.w X.stack H H' s s' ea cls):InvX X pins σ H' s' ea cls:=by
 obtain ⟨B,t,fl,ct,cs⟩:=Z.fl
 have cl:∀ x c,X.env.cells.lookup x = some c → c ∉ frs X.stack:=fun x c e => I.nstk (I.cne x c e) fun hb => by
  obtain ⟨_,o,ho,_⟩:=I.ok.funs.mem hb
  exact absurd (Nat.lt_of_lt_of_le (Heap.lt_size ho) (I.ok.cab x c (hfn x) e)) (Nat.lt_irrefl _)
 refine ⟨I.call' Z.os Z.un Z.hok Z.bare fun b z => absurd z (by simp),B,t,fl,ct,fun b o q hb hx => ?_,fun p hp => ?_,fun x c e => ?_⟩
 ·obtain ⟨o',e1⟩:=I.base.there b o q hx
  exact cs b o' e1 hb
 ·obtain ⟨e,n,ne,nf,d⟩:=I.pin p hp
  exact cs p.1 p.2 e (I.nstk ne nf)
 ·obtain ⟨v,o,ho,_⟩:=I.cell x c e
  exact cs c o ho (cl x c e)
end
noncomputable abbrev EK:=Value → Addr → St → Hp → Prop
noncomputable abbrev EH:=Value → Addr → Hp → Prop
noncomputable abbrev TEE:=St → Hp → VK → EH → Prop
noncomputable abbrev TSE:=Ends → EK → St → Hp → Prop
noncomputable def XP (X:Cx) (pins:List (Addr × Obj)) (EX:EK) (e:Value) (s':Shared):Prop:=∃ ea cls σ' H',e = .ref ea ∧ InvX X pins σ' H' s' ea cls ∧ EX cls ea σ' H'
noncomputable abbrev atS (σ:St) (EX:EH):EK:=fun cls ea σ' H' => σ' = σ ∧ EX cls ea H'
noncomputable def PEE (X:Cx) (e:Expr) (t:TEE):Prop :=
 ∀ (pins:List (Addr × Obj)) (s:Shared) (σ:St) (H:Hp) (Q:VK) (EX:EH),Inv X pins σ H s → t σ H Q EX → wpAny (model X.prog X.w) X.A (eval e X.env) (EP X pins σ Q) (XP X pins (atS σ EX)) s
noncomputable def PSE (X:Cx) (st:Stmt) (t:TSE):Prop :=
 ∀ (pins:List (Addr × Obj)) (s:Shared) (σ:St) (H:Hp) (D:Ends) (EX:EK),Inv X pins σ H s → t D EX σ H → wpAny (model X.prog X.w) X.A (exec st X.env) (SP X pins D) (XP X pins EX) s
noncomputable def PSEs (X:Cx) (st:List Stmt) (t:TSE):Prop :=
 ∀ (pins:List (Addr × Obj)) (s:Shared) (σ:St) (H:Hp) (D:Ends) (EX:EK),Inv X pins σ H s → t D EX σ H → wpAny (model X.prog X.w) X.A (execs st X.env) (SP X pins D) (XP X pins EX) s
section
variable {X:Cx}
theorem XP.at {pins:List (Addr × Obj)} {σ:St} {EX:EK} {e:Value} {s':Shared} (h:XP X pins (atS σ fun cls ea H' => EX cls ea σ H') e s'):XP X pins EX e s':=by
 refine bcn fun hNO => ?_
 obtain ⟨ea,cls,σ',H',rfl,J,rfl,q⟩:=h
 refine hNO ?_; clear hNO
 exact ⟨ea,cls,_,H',rfl,J,q⟩
noncomputable def tCallE (sp:Sp) (t:TA):TEE:=fun σ H Q EX => t σ H fun vs H1 => sp vs H1 Q fun cls _ H' => ∀ ea,EX cls ea H'
theorem pee_call {k:Nat} {f:Addr} {fd:FuncData} {ps:List Str} {sp:Sp} {x:Str} {p pos:Pos} {e:Expr} {es:List Expr} {t:TA} (F:FnOk X.prog X.w X.K X.mg X.base (CX1 X.prog X.w) k f fd ps sp) (hr:Room k X.A) (hg:Gl X x) (hm:X.mg x = some (.ref f)) (hk:PySem.W.keepIn X.K (.ref f) = true) (hb:Binds X.K fd ps []) (hfn:∀ y,X.fn y = true)
  (ha:∀ W,PA (X.wish W) (e :: es) t) (hdb:(x == ("__debug__":Str)) = false:=by decide) (he:starEach (e :: es) X.env = (false,eval e X.env) :: starEach es X.env:=by rfl) (hpl:(backTo pos (starEach es X.env)).any (·.1) = false:=by rfl) :
  PEE X (.Call (.Name x p) (e :: es) [] pos) (tCallE sp t):=by
 intro pins s σ H Q EX I h
 refine wpAny_Call_Name_kw (ld_glob I hg hm ?_ hdb)
 refine PySem.W.callWith_K (h₀:=X.base) I.ok.mod.kin hk (thn (ha (XP X pins (atS σ EX)) pos pins s σ H _ (I.wish _) h) fun us s1 ⟨vs,H1,I1,r,q⟩ => ⟨I1.unwish.kIn,?_⟩) he hpl
 have I2:=I1.unwish
 have hl:(us ++ []).length = ps.length:=by rw [List.append_nil,← r.length]; exact F.len _ _ _ _ q
 have hb2:=hb s1 us I2.kIn hl
 rw [List.append_nil] at hb2
 refine wpAny_call (codeAny_mono (F.run X.A X.stack s1 H1 ⟨us,[]⟩ us vs Q _ hr I2.env0 hb2 r q) fun r s' hq => ?_)
 cases r with
 | error e =>
  obtain ⟨ea,cls,H',rfl,Z,hE⟩:=hq
  exact ⟨ea,cls,σ,H',rfl,I2.flew hfn Z,rfl,hE ea⟩
 | ok fl =>
  cases fl with
  | ret u => exact I2.after hq
  | next => exact False.elim hq
  | brk => exact False.elim hq
  | cont => exact False.elim hq
theorem pse_expr {e:Expr} {te:TEE} {pos:Pos} (he:PEE X e te) (hs:swapsWith e none pos.line X.env = pure false:=by rfl):PSE X (.Expr e pos) (fun D EX σ H => te σ H (fun _ H1 => D.nx σ H1) fun cls ea H' => EX cls ea σ H'):=by
 intro pins s σ H D EX I h
 exact wpAny_Expr_any (wpAny_mono (he pins s σ H _ _ I h) (fun v s1 ⟨x,H1,I1,r1,q1⟩ => ⟨σ,H1,I1,q1⟩) fun _ _ q => q.at) I.quiet hs
theorem psse_one {st:Stmt} {t:TSE} (h1:PSE X st t):PSEs X [st] t:=by
 intro pins s σ H D EX I h
 refine wpAny_execs_cons (thn (h1 pins s σ H D EX I h) fun f s1 q => ?_)
 cases f with
 | next => exact wpAny_execs_nil q
 | ret v => exact q
 | brk => exact q
 | cont => exact q
noncomputable abbrev THs:=Ends → EK → Value → Addr → St → Hp → Prop
noncomputable def PH (X:Cx) (hs:List ExceptHandler) (th:THs):Prop :=
 ∀ (pins:List (Addr × Obj)) (s:Shared) (σ:St) (H:Hp) (D:Ends) (EX:EK) (ea:Addr) (cls:Value),InvX X pins σ H s ea cls → th D EX cls ea σ H → wpAny (model X.prog X.w) X.A (handleBy (.ref ea) X.env hs) (SP X pins D) (XP X pins EX) s
noncomputable def thNone:THs:=fun _ _ _ _ _ _ => False
theorem ph_nil:PH X [] thNone:=fun _ _ _ _ _ _ _ _ _ h => h.elim
theorem pse_try {body:List Stmt} {h₀:ExceptHandler} {hs:List ExceptHandler} {tb:TSE} {th:THs} {pos:Pos} (dx:DefX X) (hb:PSEs X body tb) (hh:PH X (h₀ :: hs) th):PSE X (.Try body (h₀ :: hs) [] [] pos) (fun D EX σ H => tb D (fun cls ea σ' H' => th D EX cls ea σ' H') σ H):=by
 intro pins s σ H D EX I h
 refine wpAny_Try_except (wpAny_mono (hb pins s σ H D _ I h) (fun f s1 q => ?_) fun e s1 q => ?_)
 ·cases f with
  | next => exact wpAny_execs_nil q
  | ret v => exact q
  | brk => exact q
  | cont => exact q
 ·refine bcn fun hNO => ?_
  obtain ⟨ea,cls,σ',H',rfl,J,hE⟩:=q
  obtain ⟨B,t,fl,hn,go⟩:=J.slots
  refine hNO ?_; clear hNO
  have hfr:X.A.frames = some (X.env :: X.outer):=by rw [← dx.stk]; exact J.inv.ok.frames
  refine wpAny_looks_onW hfr dx.fr (by rw [← dx.stk]; exact fl) fun h4 held up4 => ?_
  refine wpAny_landsW held fun h5 fl5 up5 => ?_
  exact hh pins _ σ' H' D EX ea cls (go h5 (by rw [dx.stk]; exact fl5) (up4.trans up5)) hE
theorem ps_try {body:List Stmt} {h₀:ExceptHandler} {hs:List ExceptHandler} {tb:TSE} {th:THs} {pos:Pos} (dx:DefX X) (hb:PSEs X body tb) (hh:PH X (h₀ :: hs) th) :
  PS X (.Try body (h₀ :: hs) [] [] pos) (fun D σ H => tb D (fun cls ea σ' H' => th D (fun _ _ _ _ => False) cls ea σ' H') σ H):=by
 intro pins s σ H D I h
 exact wpAny_mono (pse_try dx hb hh pins s σ H D (fun _ _ _ _ => False) I h) (fun _ _ q => q) fun _ _ ⟨_,_,_,_,_,_,z⟩ => z.elim
noncomputable def inH (X:Cx) (ea:Addr) (oe:Obj):Cx:={ X with A:=X.A.mark (some (.ref ea)),calm:=false,pn:=(ea,oe) :: X.pn,xe:=fun _ _ => False }
theorem InvX.inH {pins:List (Addr × Obj)} {σ:St} {H:Hp} {s:Shared} {ea:Addr} {cls:Value} (J:InvX X pins σ H s ea cls):∃ oe,s.heap.get? ea = some oe ∧ oe.cls = cls ∧ Inv (L2.inH X ea oe) pins σ H s:=by
 refine bcn fun hNO => ?_
 obtain ⟨B,t,fl,hn,_⟩:=J.slots
 obtain ⟨oe,vs,he,hc,hd,_⟩:=fl.first
 have I:=J.inv
 have nfr:∀ b ∈ frs X.stack,ea ≠ b:=fun b hb z => by
  obtain ⟨_,o,ho,hnf⟩:=I.stack.mem hb
  rw [← z,he] at ho
  cases ho
  exact hnf vs hd
 have neL:ea ≠ X.env.locals:=fun z => by
  obtain ⟨m,⟨o,es,ep,ho,hdd,_⟩,_⟩:=I.loc
  rw [← z,he] at ho
  cases ho
  rw [hd] at hdd
  cases hdd
 have nfs:ea ∉ X.fs:=fun hb => by
  obtain ⟨_,o,ho,hnf⟩:=I.funs.mem hb
  rw [he] at ho
  cases ho
  exact hnf vs hd
 refine hNO ?_; clear hNO
 refine ⟨oe,he,hc,⟨⟨I.ok.mod,I.ok.kind,I.ok.glob,I.ok.blt,I.ok.above,I.ok.inj,I.ok.has,I.ok.cab,fun z => (by cases z),I.ok.frames,I.ok.stk,I.ok.exf,I.ok.bs,I.ok.bsz,I.ok.noex,I.ok.exfs,I.ok.funs,I.ok.frf⟩,I.os,I.bare,I.base,I.loc,I.cell,I.free,I.freeC,fun p hp => ?_,I.hok,I.len⟩⟩
 rcases List.mem_cons.mp (show p ∈ (ea,oe) :: (X.pn ++ pins) from hp) with z | z
 ·rw [z]
  exact ⟨he,hn,neL,nfs,fun v q => by rw [hd] at q; cases q⟩
 ·exact I.pin p z
theorem Inv.outH {pins:List (Addr × Obj)} {σ:St} {H:Hp} {s:Shared} {ea:Addr} {oe:Obj} (ok:X.Ok) (I:Inv (L2.inH X ea oe) pins σ H s):Inv X pins σ H s :=
 ⟨ok,I.os,I.bare,I.base,I.loc,I.cell,I.free,I.freeC,fun p hp => I.pin p (List.mem_cons_of_mem _ hp),I.hok,I.len⟩
end
theorem excMatchK {M:Model} {A:Around} {E:Value → Shared → Prop} {s:Shared} {K:PySem.W.Frag} {ea C:Addr} {oe:Obj} {b:Bool} {Q:Bool → Shared → Prop} (KX:K.In s.heap) (he:s.heap.get? ea = some oe) (h1:PySem.W.kitCls K oe.cls (.ref C) = some b) (h2:PySem.W.subIn K (.ref C) (.type "BaseException") = some true) (q:Q b s) :
  wpAny M A (excMatches (.ref ea) (.ref C)) Q E s:=by
 obtain ⟨l1,l2,l3⟩:=PySem.W.kit_cls (M:=M) KX h1
 have l4:=PySem.W.looks_subIn (M:=M) KX h2
 obtain ⟨hp,g,d,tk,os⟩:=s
 have lt:PySem.W.Looks M hp (isInstance (.ref C) (.type "tuple")) false:=l1.andThen (.of_pure tc_notTuple)
 have lx:PySem.W.Looks M hp (isExcClass (.ref C)) true:=fun A' Q' E' s' k z => by
  unfold isExcClass
  refine wpAny_bind (l2 A' _ E' s' k ?_)
  rw [if_pos rfl]
  exact l4 A' Q' E' s' k z
 have ly:PySem.W.Looks M hp (typeOf (.ref ea)) oe.cls:=fun A' Q' E' s' k z => by
  unfold typeOf
  exact wpAny_bind (wpAny_loadPart (k _ _ he) (wpAny_pure z))
 unfold excMatches
 refine wpAny_bind (lt.here ?_)
 simp only [Bool.false_eq_true,if_false,pure_bind,List.forIn_cons,List.forIn_nil,bind_assoc]
 refine wpAny_bind (lx.here ?_)
 simp only [Bool.not_true,Bool.false_eq_true,if_false,pure_bind]
 refine wpAny_bind (ly.here ?_)
 refine wpAny_bind (l3.here ?_)
 cases b with
 | true => exact wpAny_pure q
 | false => exact wpAny_pure q
theorem isinst_true {prog:Program} {w:World} {A:Around} {E:Value → Shared → Prop} {s:Shared} {K:PySem.W.Frag} {ea:Addr} {oe:Obj} {c:Value} {Q:Value → Shared → Prop} (KX:K.In s.heap) (he:s.heap.get? ea = some oe) (e:PySem.W.kitOne K oe.cls c = some true) (h:Q (.bool true) s) :
  wpAny (model prog w) A (call (.builtin "isinstance") [.ref ea,c]) Q E s:=by
 have ly:PySem.W.Looks (model prog w) s.heap (typeOf (.ref ea)) oe.cls:=fun A' Q' E' s' k z => by
  unfold typeOf
  exact wpAny_bind (wpAny_loadPart (k _ _ he) (wpAny_pure z))
 refine PyProof.Rows.call_isinstance_of ?_ (by intro z; cases z)
 unfold PySem.W.kitOne at e
 unfold Builtin.«isinstance.nested»
 refine wpAny_bind (ly.here ?_)
 by_cases q:(oe.cls == c) = true
 ·rw [if_pos q]
  first
   | exact wpAny_bind (wpAny_rule h)
   | exact wpAny_bind (wpAny_rule (wpAny_pure h))
   | exact wpAny_pure h
 ·rw [if_neg q] at e
  rw [if_neg q]
  refine bcn fun hNO => ?_
  obtain ⟨hty,his,hsub⟩:=PySem.W.kit_cls (M:=model prog w) KX e
  have LI:PySem.W.Looks (model prog w) s.heap (isInstance (.ref ea) c) true:=ly.andThen hsub
  refine hNO ?_; clear hNO
  refine wpAny_bind (hty.here ?_)
  rw [if_pos (by decide)]
  k_delta "plainIsInstance"
  refine wpAny_bind (wpAny_bind (his.here ?_))
  simp only [Bool.not_true,Bool.false_eq_true,if_false]
  refine wpAny_bind (LI.here ?_)
  first
   | exact wpAny_pure (wpAny_pure h)
   | (simp only [if_true]; first | exact wpAny_pure (wpAny_pure h) | exact wpAny_pure h | exact wpAny_bind (wpAny_pure (wpAny_pure h)))
section
variable {X:Cx}
theorem call_isinstX:CallR X (.builtin "isinstance") (fun xs H Q => ∃ ea oe c,(xs = [.ref ea,.ref c] ∧ PySem.W.kitOne X.K oe.cls (.ref c) = some true ∨ ∃ n,xs = [.ref ea,.ty n] ∧ PySem.W.kitOne X.K oe.cls (.type n) = some true) ∧ (ea,oe) ∈ X.pn ∧ Q (.bl true) H):=by
 intro pins s σ H xs us Q I r h
 obtain ⟨ea,oe,c,hx,hp,q⟩:=h
 have he:=(I.pin (ea,oe) (List.mem_append_left _ hp)).1
 rcases hx with ⟨rfl,e⟩ | ⟨n,rfl,e⟩
 ·obtain ⟨u,u2,rfl,ru,ru2⟩:=vals2 r
  cases ru
  cases ru2
  exact isinst_true I.kIn he e ⟨.bl true,H,I,rfl,q⟩
 ·obtain ⟨u,u2,rfl,ru,ru2⟩:=vals2 r
  cases ru
  cases ru2
  exact isinst_true I.kIn he e ⟨.bl true,H,I,rfl,q⟩
theorem Inv.unbound {pins:List (Addr × Obj)} {σ:St} {H:Hp} {s:Shared} {i:Nat} {n:Str} {u:Option Value} {h':Heap} {m:Str → Option Value} (I:Inv X pins σ H s) (hN:X.N.Nodup) (hi:X.N[i]? = some n) (hx:X.env.kindOf n = some .local) (hn:s.heap.Ns X.env.locals m)
  (hl:∀ (j:Nat) (x:Str) (v:V),X.N[j]? = some x → σ[j]? = some (some v) → Vis X.env.scope x → ∃ u,RelV v u ∧ Look X.env s.heap m x u)
  (hn':h'.Ns X.env.locals (fun x => if x = n then u else m x)) (sb:Heap.SameBut X.env.locals s.heap h'):Inv X pins (σ.set i none) H { s with heap:=h' }:=by
 have iσ:i < σ.length:=by rw [I.len]; exact (List.getElem?_eq_some_iff.mp hi).1
 have oth:∀ b o,b ≠ X.env.locals → s.heap.get? b = some o → h'.get? b = some o:=fun b o hb e => (sb.2 b hb).trans e
 have neL:∀ b o,X.s₀.heap.get? b = some o → b ≠ X.env.locals:=fun b o e => Nat.ne_of_lt (Nat.lt_of_lt_of_le (Heap.lt_size e) I.ok.above)
 refine ⟨I.ok,I.os,I.bare,⟨fun b o q nn hb hx => oth b o (neL b o q) (I.base.keep b o q nn hb hx),fun b o q nn hb hx => ?_,I.base.free,fun b o q hx => ?_,I.base.tups,I.base.frzs,I.base.tbls⟩,⟨_,hn',fun j x v e1 e2 e3 => ?_⟩,fun x c e => ?_,I.free,I.freeC,fun p hp => ?_,fun b w q => ?_,by rw [List.length_set]; exact I.len⟩
 ·obtain ⟨sl,e1⟩:=I.base.slot b o q nn hb hx
  exact ⟨sl,oth b _ (neL b o q) e1⟩
 ·obtain ⟨o',e1⟩:=I.base.there b o q hx
  exact ⟨o',oth b o' (neL b o q) e1⟩
 ·by_cases hj:j = i
  ·subst hj
   rw [List.getElem?_set_self iσ] at e2
   cases e2
  ·refine bcn fun hNO => ?_
   rw [List.getElem?_set_ne (Ne.symm hj)] at e2
   obtain ⟨u',r,l⟩:=hl j x v e1 e2 e3
   have nx:x ≠ n:=fun z => hj (nodup_ix hN e1 (z ▸ hi))
   refine hNO ?_; clear hNO
   refine ⟨u',r,?_⟩
   rcases l with ⟨k,e⟩ | ⟨k,c,e,o,ho,hd⟩
   ·exact .inl ⟨k,by simp [nx,e]⟩
   ·exact .inr ⟨k,c,e,o,oth c o (I.cne x c e) ho,hd⟩
 ·refine bcn fun hNO => ?_
  obtain ⟨v,o,ho,hd⟩:=I.cell x c e
  refine hNO ?_; clear hNO
  exact ⟨v,o,oth c o (I.cne x c e) ho,hd⟩
 ·refine bcn fun hNO => ?_
  obtain ⟨e,z,ne,nf,d⟩:=I.pin p hp
  refine hNO ?_; clear hNO
  exact ⟨oth p.1 p.2 ne e,z,ne,nf,d⟩
 ·refine (I.hok b w q).stay (fun c v hc z => oth c v ?_ z) (fun _ z => z) fun _ _ z => z
  intro z'
  rcases hc with r | r
  ·rw [← r,z',I.free] at q
   cases q
  ·rw [z',I.free] at r
   cases r
noncomputable def thAs (K:PySem.W.Frag) (C:Addr) (i:Nat) (ts:Addr → Obj → TS) (tr:THs):THs:=fun D EX cls ea σ H => ∃ b,PySem.W.kitCls K cls (.ref C) = some b ∧ if b = true then ∀ oe,oe.cls = cls → ts ea oe { nx:=fun σ' H' => D.nx (σ'.set i none) H',rt:=D.rt,bk:=fun σ' H' => D.bk (σ'.set i none) H',ct:=fun σ' H' => D.ct (σ'.set i none) H' } (σ.set i (some (.ref ea))) H else tr D EX cls ea σ H
theorem ph_as {x n:Str} {i:Nat} {C:Addr} {np pos:Pos} {b₀:Stmt} {suite:List Stmt} {rest:List ExceptHandler} {ts:Addr → Obj → TS} {tr:THs} (hN:X.N.Nodup) (hi:X.N[i]? = some n) (hl:X.env.scope.names.lookup n = some .local) (hg:Gl X x) (hm:X.mg x = some (.ref C)) (hB:PySem.W.subIn X.K (.ref C) (.type "BaseException") = some true) (hs:∀ ea oe,PSs (L2.inH X ea oe) (b₀ :: suite) (ts ea oe)) (hr:PH X rest tr)
  (hd:(x == ("__debug__":Str)) = false:=by decide):PH X (.ExceptHandler (some (.Name x np)) (some n) (b₀ :: suite) pos :: rest) (thAs X.K C i ts tr):=by
 intro pins s σ H D EX ea cls J h
 refine bcn fun hNO => ?_
 obtain ⟨b,hb,h⟩:=h
 obtain ⟨oe,he,hc,I⟩:=J.inH
 refine hNO ?_; clear hNO
 refine wpAny_handleBy_cons (codeAny_handlers_test (ld_glob I (show Gl (L2.inH X ea oe) x from hg) (show (L2.inH X ea oe).mg x = some (.ref C) from hm) ?_ hd)) (by intro z; cases z)
 refine excMatchK I.kIn he (by rw [hc]; exact hb) hB ?_
 cases b with
 | false => exact hr pins s σ H D EX ea cls J (by simpa using h)
 | true =>
  refine bcn fun hNO => ?_
  obtain ⟨B,t,fl,hn,go⟩:=J.slots
  have h':∀ oe,oe.cls = cls → ts ea oe { nx:=fun σ' H' => D.nx (σ'.set i none) H',rt:=D.rt,bk:=fun σ' H' => D.bk (σ'.set i none) H',ct:=fun σ' H' => D.ct (σ'.set i none) H' } (σ.set i (some (.ref ea))) H:=by simpa using h
  refine hNO ?_; clear hNO
  refine codeAny_handlers_suite_as (lands_againW fl fun h6 fl6 up6 => ?_)
  refine bcn fun hNO => ?_
  have J6:=go h6 fl6 up6
  obtain ⟨oe6,he6,hc6,I6⟩:=J6.inH
  refine hNO ?_; clear hNO
  refine store_ok (X:=L2.inH X ea oe6) (v:=.ref ea) I6 hN hi (Or.inl hl) rfl (fun s7 I7 => ?_) (Or.inr hl)
  refine wpAny_mono (hs ea oe6 pins s7 _ H _ I7 (h' oe6 hc6)) (fun f s8 q => ?_) fun _ _ z => z.elim
  -- the name is let go
  have letGo:∀ {σ8:St} {H8:Hp} {R:Shared → Prop},Inv (L2.inH X ea oe6) pins σ8 H8 s8 → (∀ s9,Inv X pins (σ8.set i none) H8 s9 → R s9) →
    wpAny (model X.prog X.w) X.A (do bindName X.env n .none; unbindBehindTheSuite X.env n pos) (fun _ s9 => R s9) (XP X pins EX) s8:=fun {σ8 H8 R} I8 k => by
   have I9:=I8.outH J.inv.ok
   refine wpAny_bind (wpAny_bindName (store_ok2 I9 hN hi (Or.inl hl) (v:=.non) rfl (fun s9 I10 ⟨a,sb,ha⟩ => ?_) (Or.inr hl)))
   obtain ⟨m,ns,hlk⟩:=I10.loc
   have iσ:i < σ8.length:=by rw [I9.len]; exact (List.getElem?_eq_some_iff.mp hi).1
   obtain ⟨u,ru,lk⟩:=hlk i n .non hi (List.getElem?_set_self iσ) (Or.inl hl)
   have hmn:m n = some u:=by
    rcases lk with ⟨_,e⟩ | ⟨k',_⟩
    ·exact e
    ·exfalso
     rcases k' with z | z
     ·have z':X.env.scope.names.lookup n = some .cell:=z
      rw [hl] at z'; cases z'
     ·have z':X.env.scope.names.lookup n = some .free:=z
      rw [hl] at z'; cases z'
   unfold unbindBehindTheSuite
   refine wpAny_onRaise (wpAny_unbindName_local hl ns hmn (by rw [I10.ok.kind]; rfl) fun h11 u' ns' sb' => ?_)
   have I11:=I10.unbound hN hi hl ns hlk ns' sb'
   rw [List.set_set] at I11
   exact k _ I11
  cases f with
  | next =>
   refine bcn fun hNO => ?_
   obtain ⟨σ8,H8,I8,q8⟩:=q
   refine hNO ?_; clear hNO
   exact letGo I8 fun s9 I9 => ⟨_,H8,I9,q8⟩
  | brk =>
   refine bcn fun hNO => ?_
   obtain ⟨σ8,H8,I8,q8⟩:=q
   refine hNO ?_; clear hNO
   exact letGo I8 fun s9 I9 => ⟨_,H8,I9,q8⟩
  | cont =>
   refine bcn fun hNO => ?_
   obtain ⟨σ8,H8,I8,q8⟩:=q
   refine hNO ?_; clear hNO
   exact letGo I8 fun s9 I9 => ⟨_,H8,I9,q8⟩
  | ret v =>
   refine bcn fun hNO => ?_
   obtain ⟨x8,σ8,H8,I8,r8,q8⟩:=q
   refine hNO ?_; clear hNO
   exact letGo I8 fun s9 I9 => ⟨x8,_,H8,I9,r8,q8⟩
end
end L2
namespace L2
open PySem PySem.Spec PyProof.Rows
noncomputable def Itd (lo:Int) (n:Nat):It:=⟨fun i _ => i < n,fun i H x H' => H' = H ∧ x = .int (lo - i),fun i _ => n ≤ i⟩
theorem turn_down {P:Program} {w:World} {K:PySem.W.Frag} {tg:Expr} (it:Addr) (lo:Int) (n:Nat):Turn P w K tg (Itd lo n) [it] it (fun i h => IsRangeIter h it (lo + (i:Nat) * (-1)) ((n:Int) - (i:Nat)) (-1)) where
 mem:=by simp
 obj:=fun i h st b hb => by
  have e:b = it:=by simpa using hb
  subst e
  exact ⟨_,st,fun v z => by
   have z':Data.fields _ = Data.cell v:=z
   cases z'⟩
 keep:=fun i h h' st k => k it (by simp) _ st
 item:=by
  intro X hP hw hK hc i pins s σ H E I hf st hg
  subst hP hw hK
  obtain ⟨f0,f1,f2,f3,f4,f5⟩:=hf it (by simp)
  have W:=Walks.range (prog:=X.prog) (w:=X.w) (I.ok.hd hc) it lo (-1) n
  refine W.item i s _ _ hg st fun v h' tk hv st' kk => ?_
  obtain ⟨t,rfl⟩:=hv
  have I1:Inv X pins σ H { s with heap:=h',toks:=tk }:=I.turned (fun b o hb e => kk b o (by simpa using hb) e) f0 f1 f3 f4 f5
  refine ⟨_,rfl,go_of (s:={ s with heap:=h',toks:=tk }) (n:="range_iterator") st' rfl rfl (by decide) ⟨.int (lo - i),H,I1,⟨t,?_⟩,⟨rfl,rfl⟩,st',fun b hb => (hf b hb).1⟩⟩
  rw [show lo + (i:Int) * (-1) = lo - (i:Int) by lia]
 done:=by
  intro X hP hw hK hc i pins s σ H E I hf st hg
  subst hP hw hK
  obtain ⟨f0,f1,f2,f3,f4,f5⟩:=hf it (by simp)
  exact wpAny_pyNext_range_end (I.ok.hd hc) st (by have:n ≤ i:=hg; lia) fun h' eb => ⟨rfl,I.turned (t':=s.toks) (fun b o hb e => eb b o hb e) f0 f1 f3 f4 f5⟩
 self:=fun _ _ _ _ _ st h => wpAny_pyIter_rangeiter st h
section
variable {X:Cx} {tg:Expr}
theorem down_it {pins:List (Addr × Obj)} {σ:St} {H:Hp} {s:Shared} {R:It → Hp → Prop} {E:Value → Shared → Prop} {lo hi:Int} {t u v:Tok} {tk:Nat} (I:Inv X pins σ H s) (h1:-(2 ^ 62) ≤ lo) (h2:lo < 2 ^ 62) (h3:-(2 ^ 62) ≤ hi) (h4:hi < 2 ^ 62)
  (q:R (Itd lo (lo - hi).toNat) H):wpAny (model X.prog X.w) X.A (pyIter (.ref s.heap.objs.size)) (PIE X pins σ tg R) E { s with heap:=s.heap.push { cls:=.type "range",data:=.fields #[.int lo t,.int hi u,.int (-1) v] },toks:=tk }:=by
 refine wpAny_pyIter_range (IsRange.new ..) (PySem.W.small_down h1 h2 h3 h4) ?_
 have I1:Inv X pins σ H { s with heap:=s.heap.push { cls:=.type "range",data:=.fields #[.int lo t,.int hi u,.int (-1) v] },toks:=tk }:=I.kept fun b o e => Heap.get?_push_of_some _ e
 refine ⟨(s.heap.push { cls:=.type "range",data:=.fields #[.int lo t,.int hi u,.int (-1) v] }).objs.size,[(s.heap.push { cls:=.type "range",data:=.fields #[.int lo t,.int hi u,.int (-1) v] }).objs.size],_,_,H,rfl,
  I1.kept (t':=tk) fun b o e => Heap.get?_push_of_some _ e,turn_down _ lo (lo - hi).toNat,?_,fun b hb => ?_,q⟩
 ·have e1:lo + ((0:Nat):Int) * (-1) = lo:=by simp
  have e2:(((lo - hi).toNat:Nat):Int) - ((0:Nat):Int) = Builtin.Range.rangeSize lo hi (-1):=by rw [PySem.W.rangeSize_downNat]; lia
  show IsRangeIter _ _ (lo + ((0:Nat):Int) * (-1)) ((((lo - hi).toNat:Nat):Int) - ((0:Nat):Int)) (-1)
  rw [e1,e2]
  exact Heap.get?_push_size _ rfl
 ·have e:b = (s.heap.push { cls:=.type "range",data:=.fields #[.int lo t,.int hi u,.int (-1) v] }).objs.size:=by simpa using hb
  subst e
  exact I1.fpOk (Nat.le_refl _) (I1.hok.fresh (Nat.le_refl _))
noncomputable def iDown (ta:TA):TI:=fun σ H R => ta σ H fun vs H1 => ∃ i j:Int,vs = [.int i,.int j,.int (-1)] ∧ (-(2 ^ 62) ≤ i ∧ i < 2 ^ 62 ∧ -(2 ^ 62) ≤ j ∧ j < 2 ^ 62) ∧ R (Itd i (i - j).toNat) H1
theorem pi_down {a b c:Expr} {ta:TA} {p pos:Pos} (hg:Gl X "range") (hm:X.mg "range" = none) (ha:PA X [a,b,c] ta) (hs:starEach [a,b,c] X.env = [(false,eval a X.env),(false,eval b X.env),(false,eval c X.env)]:=by rfl) (hs2:starEach [b,c] X.env = [(false,eval b X.env),(false,eval c X.env)]:=by rfl) :
  PI X tg (.Call (.Name "range" p) [a,b,c] [] pos) (iDown ta):=by
 intro pins s σ H R I h
 refine Call_ (ld_blt I hg hm boot_range (PyProof.Rows.callWith_type1 (thn (ha pos pins s σ H _ I h) fun us s1 ⟨vs,H1,I1,r1,q1⟩ => ?_) (by rw [hs,hs2]) (by rw [hs2]; rfl)))
 obtain ⟨i,j,e,⟨q1,q2,q3,q4⟩,q⟩:=q1
 subst e
 cases r1 with
 | cons r rr =>
  cases rr with
  | cons r' rr =>
   cases rr with
   | cons r'' rr =>
    cases rr
    obtain ⟨t,rfl⟩:=r
    obtain ⟨t',rfl⟩:=r'
    obtain ⟨t'',rfl⟩:=r''
    refine call_range_3 (by decide) (down_it I1 q1 q2 q3 q4 q) (.inl (PyProof.noPylong_of_log2 (by decide +kernel)))
end
section
variable {X:Cx} {tg:Expr}
end
noncomputable def Ite (K:PySem.W.Frag) (a:Addr):It :=
 ⟨fun i H => ∃ xs x,SqL K H a xs ∧ xs[i]? = some x,
  fun i H v H' => ∃ p x,v = .ref p ∧ H p = none ∧ H' = upd H p (.tup [.int i,x]) ∧ ∀ xs,SqL K H a xs → xs[i]? = some x,
  fun i H => ∃ xs,SqL K H a xs ∧ xs.length ≤ i⟩
theorem turn_enum {P:Program} {w:World} {K:PySem.W.Frag} {elts:List Expr} {kt:Nat} {tp:Pos} {e it:Addr} (a:Addr) (ne:e ≠ it) :
  Turn P w K (.Tuple elts kt tp) (Ite K a) [e,it] e (fun i h => (∃ old,IsEnum h e it (i:Int) old) ∧ h.IsListIter it a i) where
 mem:=by simp
 obj:=fun i h ⟨⟨old,he⟩,hi⟩ c hc => by
  have hc':c = e ∨ c = it:=by simpa using hc
  rcases hc' with rfl | rfl
  ·exact ⟨_,he,fun v q => by have q':Data.fields _ = Data.cell v:=q; cases q'⟩
  ·refine bcn fun hNO => ?_
   obtain ⟨o,e',c,d⟩:=hi
   refine hNO ?_; clear hNO
   exact ⟨o,e',fun v z => by rw [d] at z; cases z⟩
 keep:=fun i h h' ⟨⟨old,he⟩,hi⟩ k => ⟨⟨old,k e (by simp) _ he⟩,hi.at fun o e' => k it (by simp) o e'⟩
 item:=by
  intro X hP hw hK hc i pins s σ H E I hf st hg
  refine bcn fun hNO => ?_
  subst hP hw hK
  obtain ⟨⟨old,he⟩,hi⟩:=st
  obtain ⟨xs,x,sx,ex⟩:=hg
  obtain ⟨its,rv,p,_⟩:=I.list sx
  obtain ⟨ux,eux,rx⟩:=rv.get ex
  have fz:=hf e (by simp)
  refine hNO ?_; clear hNO
  refine wpAny_pyNext_enum_item he hi p.isList (x:=ux) (by simpa using eux) ne fun h' a1 a2 a3 a4 a5 => ⟨_,rfl,?_⟩
  have hT:H s.heap.objs.size = none:=I.hok.fresh (Nat.le_refl _)
  have chn:∀ c ∈ [e,it],H c = none:=fun c hc' => (hf c hc').1
  have kp:∀ c o,c ∉ [e,it] → s.heap.get? c = some o → h'.get? c = some o:=fun c o hc' q => a5 c o (fun z => hc' (by simp [z])) (fun z => hc' (by simp [z])) q
  have trk:∀ c o,H c = some o → c ∉ [e,it]:=fun c o q hc' => by rw [chn c hc'] at q; cases q
  have hok:HOk X.prog X.w (upd H s.heap.objs.size (.tup [.int i,x])) h':=fun c o q => by
   by_cases hcT:c = s.heap.objs.size
   ·subst hcT
    rw [upd_same] at q
    cases q
    exact ⟨by show 2 ≤ sizeLine; decide,[.int i s.toks,ux],.cons ⟨_,rfl⟩ (.cons rx .nil),_,a3,rfl,_,rfl⟩
   ·rw [upd_ne hcT] at q
    refine (I.hok c o q).stay (fun d v hd z => kp d v ?_ z) (fun d z => by rw [upd_ne (ne_of_none z hT)]; exact z) fun d zs z => by rw [upd_ne (ne_of_none z hT)]; exact z
    rcases hd with q' | q'
    ·rw [q']; exact trk c o q
    ·exact trk d _ q'
  have un:Un (frs X.stack) [e,it] H (upd H s.heap.objs.size (.tup [.int i,x])) s.heap h' :=
   ⟨fun c o q n _ hc' => kp c o hc' q,fun c o q n _ hc' => ⟨o.slots,kp c o hc' q⟩,fun c o q n hc' => by rw [upd_ne (Nat.ne_of_lt (Heap.lt_size q))]; exact n,fun c o q hc' => ⟨o,kp c o hc' q⟩,
    fun c zs q => by rw [upd_ne (ne_of_none q hT)]; exact q,fun c o u q => by rw [upd_ne (ne_of_none q hT)]; exact q,fun c ps q => ⟨#[],by rw [upd_ne (ne_of_none q hT),q]; simp⟩⟩
  have I1:Inv X pins σ (upd H s.heap.objs.size (.tup [.int i,x])) { s with heap:=h',toks:=s.toks + 1 }:=I.call' rfl un hok I.bare fun c hc' => by
   obtain ⟨f0,f1,f2,f3,f4,f5⟩:=hf c hc'
   exact ⟨f3,f1,f4,f5⟩
  have fpT:∀ c ∈ [e,it],c ≠ s.heap.objs.size:=fun c hc' q => by
   have hlt:c < s.heap.objs.size:=by
    have hc'':c = e ∨ c = it:=by simpa using hc'
    rcases hc'' with r | r
    ·rw [r]; exact Heap.lt_size he
    ·obtain ⟨o,e',_⟩:=hi; rw [r]; exact Heap.lt_size e'
   exact absurd hlt (by rw [q]; exact Nat.lt_irrefl _)
  have hn1:∀ c ∈ [e,it],(upd H s.heap.objs.size (.tup [.int i,x])) c = none:=fun c hc' => by rw [upd_ne (fpT c hc')]; exact (hf c hc').1
  refine wpAny_letOwnedTupleGo_enum a1 fun h'' he'' sb => ?_
  refine bcn fun hNO => ?_
  obtain ⟨f0,f1,f2,f3,f4,f5⟩:=fz
  have I2:Inv X pins σ (upd H s.heap.objs.size (.tup [.int i,x])) { s with heap:=h'',toks:=s.toks + 1 }:=I1.turned (s:={ s with heap:=h',toks:=s.toks + 1 }) (t':=s.toks + 1) (it:=e) (fun c o hc' q => (sb.2 c hc').trans q) (hn1 e (by simp)) f1 f3 f4 f5
  refine hNO ?_; clear hNO
  refine ⟨.ref s.heap.objs.size,_,I2,rfl,⟨_,x,rfl,hT,rfl,fun zs hs => by rw [I.list_inj hs sx]; exact ex⟩,⟨⟨_,he''⟩,a2.at fun o q => sb.extBut _ o ne.symm q⟩,hn1⟩
 done:=by
  intro X hP hw hK hc i pins s σ H E I hf st hg
  refine bcn fun hNO => ?_
  subst hP hw hK
  obtain ⟨⟨old,he⟩,hi⟩:=st
  obtain ⟨xs,sx,hl⟩:=hg
  obtain ⟨its,rv,p,_⟩:=I.list sx
  have l1:=rv.length
  obtain ⟨f0,f1,f2,f3,f4,f5⟩:=hf it (by simp)
  refine hNO ?_; clear hNO
  exact wpAny_pyNext_enum_end (I.ok.hd hc) he hi p.isList (by simp; lia) fun h' eb => ⟨rfl,I.turned (t':=s.toks) (fun b o hb q => eb b o hb q) f0 f1 f3 f4 f5⟩
 self:=fun _ _ _ _ _ st h => by
  refine bcn fun hNO => ?_
  obtain ⟨⟨old,he⟩,hi⟩:=st
  refine hNO ?_; clear hNO
  exact wpAny_pyIter_enum he h
section
variable {X:Cx} {elts:List Expr} {kt:Nat} {tp p pos:Pos}
noncomputable def iEnum (K:PySem.W.Frag) (ta:TA):TI:=fun σ H R => ta σ H fun vs H1 => ∃ a xs,vs = [.ref a] ∧ SqL K H1 a xs ∧ R (Ite K a) H1
theorem pi_enum {a:Expr} {ta:TA} (hg:Gl X "enumerate") (hm:X.mg "enumerate" = none) (hv:bootBuiltins "enumerate" = some (.type "enumerate")) (ha:PA X [a] ta) (hs:starEach [a] X.env = [(false,eval a X.env)]:=by rfl) :
  PI X (.Tuple elts kt tp) (.Call (.Name "enumerate" p) [a] [] pos) (iEnum X.K ta):=by
 intro pins s σ H R I h
 refine Call_ (ld_blt I hg hm hv (PyProof.Rows.callWith_type1 (thn (ha pos pins s σ H _ I h) fun us s1 ⟨vs,H1,I1,r1,q1⟩ => ?_) hs rfl))
 refine bcn fun hNO => ?_
 obtain ⟨b,xs,e,hq,q⟩:=q1
 subst e
 obtain ⟨u,rfl,ru⟩:=Vals.one r1
 cases ru
 obtain ⟨its,rv,pl,hz⟩:=I1.list hq
 refine hNO ?_; clear hNO
 refine call_enumerate_list pl.isList fun h' he hi hsz kp => ?_
 have I2:Inv X pins σ H1 { s1 with heap:=h' }:=I1.kept (t':=s1.toks) kp
 have ne:s1.heap.objs.size + 1 ≠ s1.heap.objs.size:=by lia
 have T:=turn_enum (P:=X.prog) (w:=X.w) (K:=X.K) (elts:=elts) (kt:=kt) (tp:=tp) (e:=s1.heap.objs.size + 1) (it:=s1.heap.objs.size) b ne
 refine T.self X.A 0 { s1 with heap:=h' } _ _ ⟨⟨_,he⟩,hi⟩ ?_
 refine ⟨s1.heap.objs.size + 1,[s1.heap.objs.size + 1,s1.heap.objs.size],_,_,H1,rfl,I2,T,⟨⟨_,he⟩,hi⟩,fun c hc => ?_,q⟩
 have hle:s1.heap.objs.size ≤ c:=by
  have hc':c = s1.heap.objs.size + 1 ∨ c = s1.heap.objs.size:=by simpa using hc
  rcases hc' with r | r <;> (rw [r]; first | exact Nat.le_refl _ | exact Nat.le_add_right _ _)
 exact I1.fpOk hle (I1.hok.fresh hle)
end
section
variable {X:Cx}
theorem call_maxI (hh:X.A.handled = none):CallR X (.builtin "max") (fun xs H Q => ∃ i j,xs = [.int i,.int j] ∧ Q (.int (if j > i then j else i)) H):=by
 rintro pins s σ H xs ws Q I r ⟨i,j,rfl,q⟩
 obtain ⟨u,v,rfl,ru,rv⟩:=Vals.two r
 obtain ⟨t,rfl⟩:=ru
 obtain ⟨t',rfl⟩:=rv
 refine max_two_ints hh fun h' tk hk => ?_
 refine ⟨.int (if j > i then j else i),H,I.kept hk,?_,q⟩
 by_cases c:j > i
 ·rw [if_pos c,if_pos c]; exact ⟨_,rfl⟩
 ·rw [if_neg c,if_neg c]; exact ⟨_,rfl⟩
theorem call_intB:CallR X (.type "int") (fun xs H Q => ∃ b,xs = [.bl b] ∧ Q (.int (if b then 1 else 0)) H):=by
 rintro pins s σ H xs ws Q I r ⟨b,rfl,q⟩
 obtain ⟨u,rfl,ru⟩:=Vals.one r
 cases ru
 exact call_int_bool ⟨.int (if b then 1 else 0),H,I.tok _,⟨_,rfl⟩,q⟩
theorem get_list:PGet X (rIxL X.K):=by
 intro pins s σ H o i ov iv Q I ro ri h
 refine bcn fun hNO => ?_
 obtain ⟨p,xs,k,z,rfl,rfl,hq,he,q⟩:=h
 cases ro
 obtain ⟨t,rfl⟩:=ri
 obtain ⟨its,r,pl,hz⟩:=I.list hq
 obtain ⟨j,h1,h2,h3,h4,h5⟩:=atI_get he
 obtain ⟨w,ew,rw'⟩:=r.get h2
 have hl:=r.length
 have hn:=line63
 have fin:EP X pins σ Q w s:=⟨z,H,I,rw',q⟩
 refine hNO ?_; clear hNO
 by_cases h0:0 ≤ k
 ·have hj:k.toNat = j:=by
   rw [seqIndex_of h0 h5] at h1
   exact Option.some.inj h1
  exact wpAny_getItem_list pl.isList h0 (by lia) (by rw [hj]; simpa using ew) fin
 ·have hj:(k + (its.toArray.size:Int)).toNat = j:=by
   rw [seqIndex_neg (by lia) h4] at h1
   rw [List.size_toArray,← hl]
   exact Option.some.inj h1
  exact wpAny_getItem_list_neg pl.isList (by lia) (by rw [List.size_toArray] <;> lia) (by lia) (by rw [hj]; simpa using ew) fin
end
end L2
namespace MN
open PySem PySem.Spec L2
open PyProof.Rows hiding St
inductive Val where
 | non | bl (b:Bool) | int (i:Int) | str (x:Str) | tup (vs:List Val) | loc (n:Nat) | exc (c:Str) | fn (k:Nat) (caps:List Val) | mt (vs:List Val)
inductive Cell where
 | lst (vs:List Val) | fro (vs:List Val) | mod (vs:List Val) | dK (kvs:List (Key × Val)) | dT (kvs:List (List Key × Val))
noncomputable abbrev Store:=List Cell
noncomputable abbrev Env:=List (Option Val)
inductive Res (α:Type) where
 | ok (a:α) (st:Store) | err (c:Str) (st:Store) | bad
inductive SRes where
 | nx (μ:Env) (st:Store) | rt (v:Val) (st:Store) | bk (μ:Env) (st:Store) | ct (μ:Env) (st:Store) | er (c:Str) (μ:Env) (st:Store) | bad
@[reducible] def Res.bind {α β:Type} (r:Res α) (k:α → Store → Res β):Res β:=match r with
 | .ok a st => k a st
 | .err c st => .err c st
 | .bad => .bad
structure Wo where
 K:PySem.W.Frag
 mg:Str → Option Value
 pn:List (Addr × Obj)
noncomputable abbrev wo (X:Cx):Wo:=⟨X.K,X.mg,X.pn⟩
mutual
noncomputable def Rl (K:PySem.W.Frag) (ρ:List Addr) (H:Hp):Val → V → Prop
 | .non,v => v = .non
 | .bl b,v => v = .bl b
 | .int i,v => v = .int i
 | .str x,v => v = .str x
 | .tup us,v => ∃ a vs,v = .ref a ∧ H a = some (.tup vs) ∧ Rls K ρ H us vs
 | .mt us,v => ∃ a vs,v = .ref a ∧ SqT K H a vs ∧ Rls K ρ H us vs
 | .loc n,v => ∃ a,v = .ref a ∧ ρ[n]? = some a
 | .exc _,_ => False
 | .fn _ _,_ => False
noncomputable def Rls (K:PySem.W.Frag) (ρ:List Addr) (H:Hp):List Val → List V → Prop
 | [],vs => vs = []
 | u :: us,vs => ∃ v r,vs = v :: r ∧ Rl K ρ H u v ∧ Rls K ρ H us r
end
structure Step (ρ:List Addr) (H:Hp) (ρ':List Addr) (H':Hp):Prop where
 pre:ρ <+: ρ'
 tup:∀ b xs,H b = some (.tup xs) → H' b = some (.tup xs)
 frz:∀ b o u,H b = some (.frz o u) → H' b = some (.frz o u)
theorem Step.refl (ρ:List Addr) (H:Hp):Step ρ H ρ H:=⟨List.prefix_refl ρ,fun _ _ h => h,fun _ _ _ h => h⟩
theorem Step.trans {ρ ρ1 ρ2:List Addr} {H H1 H2:Hp} (a:Step ρ H ρ1 H1) (b:Step ρ1 H1 ρ2 H2):Step ρ H ρ2 H2 :=
 ⟨a.pre.trans b.pre,fun _ _ h => b.tup _ _ (a.tup _ _ h),fun _ _ _ h => b.frz _ _ _ (a.frz _ _ _ h)⟩
theorem Step.same {ρ:List Addr} {H H':Hp} (e:Same H H'):Step ρ H ρ H':=⟨List.prefix_refl ρ,fun _ _ h => e _ _ h,fun _ _ _ h => e _ _ h⟩
theorem Step.snoc {ρ:List Addr} {H H':Hp} (p:Addr) (e:Same H H'):Step ρ H (ρ ++ [p]) H':=⟨List.prefix_append ρ [p],fun _ _ h => e _ _ h,fun _ _ _ h => e _ _ h⟩
theorem Step.at_ {ρ ρ':List Addr} {H H':Hp} (e:Step ρ H ρ' H') {n:Nat} {a:Addr} (h:ρ[n]? = some a):ρ'[n]? = some a:=by
 obtain ⟨t,rfl⟩:=e.pre
 have hl:n < ρ.length:=by
  rcases Nat.lt_or_ge n ρ.length with q | q
  ·exact q
  ·rw [List.getElem?_eq_none q] at h; cases h
 rw [List.getElem?_append_left hl,h]
theorem Step.sqT {K:PySem.W.Frag} {ρ ρ':List Addr} {H H':Hp} (e:Step ρ H ρ' H') {a:Addr} {xs:List V} (h:SqT K H a xs):SqT K H' a xs:=by
 rcases h with (h | ⟨o,h⟩) | h
 ·exact .inl (.inl (e.tup _ _ h))
 ·exact .inl (.inr ⟨o,e.frz _ _ _ h⟩)
 ·exact .inr h
mutual
theorem Rl.mono {K:PySem.W.Frag} {ρ ρ':List Addr} {H H':Hp} (e:Step ρ H ρ' H'):∀ (u:Val) (v:V),Rl K ρ H u v → Rl K ρ' H' u v
 | .non,_,h => h
 | .bl _,_,h => h
 | .int _,_,h => h
 | .str _,_,h => h
 | .tup us,v,h => by
  unfold Rl at h ⊢
  refine bcn fun hNO => ?_
  obtain ⟨a,vs,h1,h2,h3⟩:=h
  refine hNO ?_; clear hNO
  exact ⟨a,vs,h1,e.tup _ _ h2,Rls.mono e us vs h3⟩
 | .mt us,v,h => by
  unfold Rl at h ⊢
  refine bcn fun hNO => ?_
  obtain ⟨a,vs,h1,h2,h3⟩:=h
  refine hNO ?_; clear hNO
  exact ⟨a,vs,h1,e.sqT h2,Rls.mono e us vs h3⟩
 | .loc n,v,h => by
  unfold Rl at h ⊢
  refine bcn fun hNO => ?_
  obtain ⟨a,h1,h2⟩:=h
  refine hNO ?_; clear hNO
  exact ⟨a,h1,e.at_ h2⟩
 | .exc c,v,h => h
 | .fn _ _,_,h => h
theorem Rls.mono {K:PySem.W.Frag} {ρ ρ':List Addr} {H H':Hp} (e:Step ρ H ρ' H'):∀ (us:List Val) (vs:List V),Rls K ρ H us vs → Rls K ρ' H' us vs
 | [],_,h => h
 | u :: us,vs,h => by
  unfold Rls at h ⊢
  refine bcn fun hNO => ?_
  obtain ⟨v,r,h1,h2,h3⟩:=h
  refine hNO ?_; clear hNO
  exact ⟨v,r,h1,Rl.mono e u v h2,Rls.mono e us r h3⟩
end
section
variable {K:PySem.W.Frag} {ρ ρ':List Addr} {H H':Hp}
theorem Rls.nil:Rls K ρ H [] []:=by unfold Rls; rfl
theorem Rls.cons {u:Val} {us:List Val} {v:V} {vs:List V} (h:Rl K ρ H u v) (hs:Rls K ρ H us vs):Rls K ρ H (u :: us) (v :: vs):=by
 unfold Rls; exact ⟨v,vs,rfl,h,hs⟩
theorem Rls.uncons {u:Val} {us:List Val} {vs:List V} (h:Rls K ρ H (u :: us) vs):∃ v r,vs = v :: r ∧ Rl K ρ H u v ∧ Rls K ρ H us r:=by
 unfold Rls at h; exact h
theorem Rls.unnil {vs:List V} (h:Rls K ρ H [] vs):vs = []:=by unfold Rls at h; exact h
theorem Rls.length:∀ {us:List Val} {vs:List V},Rls K ρ H us vs → us.length = vs.length
 | [],vs,h => by rw [h.unnil]; rfl
 | u :: us,vs,h => by
  obtain ⟨v,r,rfl,_,h3⟩:=h.uncons
  rw [List.length_cons,List.length_cons,h3.length]
theorem Rls.get:∀ {us:List Val} {vs:List V} {i:Nat} {u:Val},Rls K ρ H us vs → us[i]? = some u → ∃ v,vs[i]? = some v ∧ Rl K ρ H u v
 | [],_,_,_,_,e => by cases e
 | w :: us,vs,0,u,h,e => by
  refine bcn fun hNO => ?_
  obtain ⟨v,r,rfl,h2,_⟩:=h.uncons
  cases e
  refine hNO ?_; clear hNO
  exact ⟨v,rfl,h2⟩
 | w :: us,vs,i + 1,u,h,e => by
  refine bcn fun hNO => ?_
  obtain ⟨v,r,rfl,_,h3⟩:=h.uncons
  refine hNO ?_; clear hNO
  exact Rls.get (i:=i) h3 e
theorem Rls.append:∀ {us ws:List Val} {vs xs:List V},Rls K ρ H us vs → Rls K ρ H ws xs → Rls K ρ H (us ++ ws) (vs ++ xs)
 | [],_,vs,_,h,k => by rw [h.unnil]; exact k
 | u :: us,ws,vs,xs,h,k => by
  refine bcn fun hNO => ?_
  obtain ⟨v,r,rfl,h2,h3⟩:=h.uncons
  refine hNO ?_; clear hNO
  exact Rls.cons h2 (h3.append k)
theorem Rls.drop:∀ (n:Nat) {us:List Val} {vs:List V},Rls K ρ H us vs → Rls K ρ H (us.drop n) (vs.drop n)
 | 0,_,_,h => h
 | _ + 1,[],vs,h => by rw [h.unnil]; exact Rls.nil
 | n + 1,u :: us,vs,h => by
  refine bcn fun hNO => ?_
  obtain ⟨v,r,rfl,h2,h3⟩:=h.uncons
  refine hNO ?_; clear hNO
  exact Rls.drop n h3
theorem Rls.take:∀ (n:Nat) {us:List Val} {vs:List V},Rls K ρ H us vs → Rls K ρ H (us.take n) (vs.take n)
 | 0,_,_,_ => Rls.nil
 | _ + 1,[],vs,h => by rw [h.unnil]; exact Rls.nil
 | n + 1,u :: us,vs,h => by
  refine bcn fun hNO => ?_
  obtain ⟨v,r,rfl,h2,h3⟩:=h.uncons
  refine hNO ?_; clear hNO
  exact Rls.cons h2 (Rls.take n h3)
theorem Rls.set {u:Val} {v:V} (hu:Rl K ρ H u v):∀ (n:Nat) {us:List Val} {vs:List V},Rls K ρ H us vs → Rls K ρ H (us.set n u) (vs.set n v)
 | _,[],vs,h => by rw [h.unnil]; exact Rls.nil
 | 0,w :: us,vs,h => by
  obtain ⟨x,r,rfl,h2,h3⟩:=h.uncons
  exact Rls.cons hu h3
 | n + 1,w :: us,vs,h => by
  obtain ⟨x,r,rfl,h2,h3⟩:=h.uncons
  exact Rls.cons h2 (Rls.set hu n h3)
theorem Rls.one {u:Val} {v:V} (h:Rl K ρ H u v):Rls K ρ H [u] [v]:=Rls.cons h Rls.nil
theorem Rls.un1 {u:Val} {vs:List V} (h:Rls K ρ H [u] vs):∃ v,vs = [v] ∧ Rl K ρ H u v:=by
 refine bcn fun hNO => ?_
 obtain ⟨v,r,rfl,h2,h3⟩:=h.uncons
 refine hNO ?_; clear hNO
 rw [h3.unnil]
 exact ⟨v,rfl,h2⟩
theorem Rls.un2 {u w:Val} {vs:List V} (h:Rls K ρ H [u,w] vs):∃ v x,vs = [v,x] ∧ Rl K ρ H u v ∧ Rl K ρ H w x:=by
 refine bcn fun hNO => ?_
 obtain ⟨v,r,rfl,h2,h3⟩:=h.uncons
 obtain ⟨x,rfl,h4⟩:=h3.un1
 refine hNO ?_; clear hNO
 exact ⟨v,x,rfl,h2,h4⟩
theorem Rls.ints:∀ (ns:List Int),Rls K ρ H (ns.map Val.int) (ns.map V.int)
 | [] => Rls.nil
 | n :: ns => Rls.cons (by unfold Rl; rfl) (Rls.ints ns)
theorem Rl.int_ {i:Int} {v:V} (h:Rl K ρ H (.int i) v):v = .int i:=by unfold Rl at h; exact h
theorem Rl.bl_ {b:Bool} {v:V} (h:Rl K ρ H (.bl b) v):v = .bl b:=by unfold Rl at h; exact h
theorem Rl.str_ {x:Str} {v:V} (h:Rl K ρ H (.str x) v):v = .str x:=by unfold Rl at h; exact h
theorem Rl.non_ {v:V} (h:Rl K ρ H .non v):v = .non:=by unfold Rl at h; exact h
theorem Rl.tupH {us:List Val} {v:V} (h:Rl K ρ H (.tup us) v):∃ a vs,v = .ref a ∧ H a = some (.tup vs) ∧ Rls K ρ H us vs:=by unfold Rl at h; exact h
theorem Rl.tup_ {us:List Val} {v:V} (h:Rl K ρ H (.tup us) v):∃ a vs,v = .ref a ∧ SqT K H a vs ∧ Rls K ρ H us vs:=let ⟨a,vs,h1,h2,h3⟩:=h.tupH; ⟨a,vs,h1,SqT.of h2,h3⟩
theorem Rl.mt_ {us:List Val} {v:V} (h:Rl K ρ H (.mt us) v):∃ a vs,v = .ref a ∧ SqT K H a vs ∧ Rls K ρ H us vs:=by unfold Rl at h; exact h
theorem Rl.mkMt {us:List Val} {a:Addr} {vs:List V} (h:SqT K H a vs) (r:Rls K ρ H us vs):Rl K ρ H (.mt us) (.ref a):=by unfold Rl; exact ⟨a,vs,rfl,h,r⟩
theorem Rl.loc_ {n:Nat} {v:V} (h:Rl K ρ H (.loc n) v):∃ a,v = .ref a ∧ ρ[n]? = some a:=by unfold Rl at h; exact h
theorem Rl.mkInt (i:Int):Rl K ρ H (.int i) (.int i):=by unfold Rl; rfl
theorem Rl.mkBl (b:Bool):Rl K ρ H (.bl b) (.bl b):=by unfold Rl; rfl
theorem Rl.mkStr (x:Str):Rl K ρ H (.str x) (.str x):=by unfold Rl; rfl
theorem Rl.mkNon:Rl K ρ H .non .non:=by unfold Rl; rfl
theorem Rl.mkTup {us:List Val} {a:Addr} {vs:List V} (h:H a = some (.tup vs)) (r:Rls K ρ H us vs):Rl K ρ H (.tup us) (.ref a):=by unfold Rl; exact ⟨a,vs,rfl,h,r⟩
theorem Rl.mkLoc {n:Nat} {a:Addr} (h:ρ[n]? = some a):Rl K ρ H (.loc n) (.ref a):=by unfold Rl; exact ⟨a,rfl,h⟩
end
noncomputable def Prs {κ:Type} (K:PySem.W.Frag) (ρ:List Addr) (H:Hp) (kvs:List (κ × Val)) (kvs':List (κ × V)):Prop:=kvs.map (·.1) = kvs'.map (·.1) ∧ Rls K ρ H (kvs.map (·.2)) (kvs'.map (·.2))
noncomputable def isMod:Option Cell → Bool
 | some (.mod _) => true
 | _ => false
noncomputable def ModL (K:PySem.W.Frag) (a:Addr) (vs:List V):Prop:=∃ (o:Obj) (its:Array Value) (n:Nat),K.lookup a = some o ∧ o.cls = .type "list" ∧ o.dict = none ∧ o.data = .seq its n ∧ its.size ≤ sizeLine ∧ Vals vs its.toList
noncomputable def CellR (K:PySem.W.Frag) (ρ:List Addr) (H:Hp):Cell → Addr → Prop
 | .lst us,a => ∃ vs,H a = some (.lst vs) ∧ Rls K ρ H us vs
 | .fro us,a => ∃ o vs,H a = some (.frz o (.lst vs)) ∧ Rls K ρ H us vs
 | .mod us,a => ∃ vs,ModL K a vs ∧ Rls K ρ H us vs
 | .dK kvs,a => ∃ kvs',H a = some (.dK kvs') ∧ Prs K ρ H kvs kvs'
 | .dT kvs,a => ∃ kvs',H a = some (.dT kvs') ∧ Prs K ρ H kvs kvs'
structure SR (K:PySem.W.Frag) (ρ:List Addr) (st:Store) (H:Hp):Prop where
 len:ρ.length = st.length
 nd:∀ (n m:Nat) a,ρ[n]? = some a → ρ[m]? = some a → isMod st[n]? = false → isMod st[m]? = false → n = m
 cell:∀ (n:Nat) c a,st[n]? = some c → ρ[n]? = some a → CellR K ρ H c a
theorem getL_lt {α:Type} {l:List α} {n:Nat} {x:α} (h:l[n]? = some x):n < l.length:=by
 rcases Nat.lt_or_ge n l.length with q | q
 ·exact q
 ·rw [List.getElem?_eq_none q] at h; cases h
section
variable {K:PySem.W.Frag} {ρ ρ':List Addr} {H H':Hp} {st:Store}
theorem CellR.there {c:Cell} {a:Addr} (h:CellR K ρ H c a) (hn:isMod (some c) = false):∃ o,H a = some o ∧ ∀ xs,o ≠ .tup xs:=by
 cases c with
 | lst us => obtain ⟨vs,h,_⟩:=h; exact ⟨_,h,fun xs e => by cases e⟩
 | fro us => obtain ⟨o,vs,h,_⟩:=h; exact ⟨_,h,fun xs e => by cases e⟩
 | mod us => cases hn
 | dK kvs => obtain ⟨vs,h,_⟩:=h; exact ⟨_,h,fun xs e => by cases e⟩
 | dT kvs => obtain ⟨vs,h,_⟩:=h; exact ⟨_,h,fun xs e => by cases e⟩
theorem CellR.mono {c:Cell} {a:Addr} (h:CellR K ρ H c a) (e:Step ρ H ρ' H') (ha:isMod (some c) = true ∨ H' a = H a):CellR K ρ' H' c a:=by
 cases c with
 | mod us => obtain ⟨vs,h,r⟩:=h; exact ⟨vs,h,Rls.mono e _ _ r⟩
 | lst us => rcases ha with ha | ha <;> first | cases ha; done | (obtain ⟨vs,h,r⟩:=h; exact ⟨vs,ha.trans h,Rls.mono e _ _ r⟩)
 | fro us => rcases ha with ha | ha <;> first | cases ha; done | (obtain ⟨o,vs,h,r⟩:=h; exact ⟨o,vs,ha.trans h,Rls.mono e _ _ r⟩)
 | dK kvs => rcases ha with ha | ha <;> first | cases ha; done | (obtain ⟨vs,h,r⟩:=h; exact ⟨vs,ha.trans h,r.1,Rls.mono e _ _ r.2⟩)
 | dT kvs => rcases ha with ha | ha <;> first | cases ha; done | (obtain ⟨vs,h,r⟩:=h; exact ⟨vs,ha.trans h,r.1,Rls.mono e _ _ r.2⟩)
theorem CellR.grow {c:Cell} {a:Addr} (h:CellR K ρ H c a) (e:Step ρ H ρ' H') (s:Same H H'):CellR K ρ' H' c a:=by
 cases z:isMod (some c) with
 | true => exact h.mono e (.inl z)
 | false =>
  obtain ⟨o,ho,_⟩:=h.there z
  exact h.mono e (.inr (by rw [ho]; exact s _ _ ho))
theorem SR.there (s:SR K ρ st H) {n:Nat} {a:Addr} (h:ρ[n]? = some a):∃ c,st[n]? = some c ∧ CellR K ρ H c a:=by
 have hn:=getL_lt h
 have hn':n < st.length:=by rw [← s.len]; exact hn
 exact ⟨st[n],List.getElem?_eq_getElem hn',s.cell n _ a (List.getElem?_eq_getElem hn') h⟩
theorem SR.grow (s:SR K ρ st H) (e:Same H H'):SR K ρ st H' :=
 ⟨s.len,s.nd,fun n c a h1 h2 => (s.cell n c a h1 h2).grow (Step.same e) e⟩
theorem SR.notin (s:SR K ρ st H) {p:Addr} (hp:H p = none) {n:Nat} (h:ρ[n]? = some p) (hm:isMod st[n]? = false):False:=by
 obtain ⟨c,hc,k⟩:=s.there h
 rw [hc] at hm
 obtain ⟨o,ho,_⟩:=k.there hm
 rw [hp] at ho
 cases ho
theorem same_upd {p:Addr} {o:HO} (hp:H p = none):Same H (upd H p o):=Same.upd (Same.refl H) hp
theorem SR.alloc (s:SR K ρ st H) {p:Addr} {o:HO} {c:Cell} (hp:H p = none) (k:CellR K (ρ ++ [p]) (upd H p o) c p):SR K (ρ ++ [p]) (st ++ [c]) (upd H p o):=by
 have e:Same H (upd H p o):=same_upd hp
 have at_:∀ (n:Nat) (a:Addr),(ρ ++ [p])[n]? = some a → (n < st.length ∧ ρ[n]? = some a ∧ (st ++ [c])[n]? = st[n]?) ∨ (n = st.length ∧ a = p ∧ (st ++ [c])[n]? = some c):=by
  intro n a h
  rcases Nat.lt_trichotomy n st.length with q | q | q
  ·rw [List.getElem?_append_left (by rw [s.len]; exact q)] at h
   exact .inl ⟨q,h,List.getElem?_append_left q⟩
  ·subst q
   rw [List.getElem?_append_right (by rw [s.len]; exact Nat.le_refl _),s.len,Nat.sub_self] at h
   cases h
   refine .inr ⟨rfl,rfl,?_⟩
   rw [List.getElem?_append_right (Nat.le_refl _),Nat.sub_self]; rfl
  ·rw [List.getElem?_eq_none (by rw [List.length_append,List.length_singleton,s.len]; lia)] at h
   cases h
 refine ⟨by rw [List.length_append,List.length_append,s.len]; rfl,fun n m a h1 h2 m1 m2 => ?_,fun n c' a h1 h2 => ?_⟩
 ·rcases at_ n a h1 with ⟨q1,q2,q3⟩ | ⟨q1,q2,q3⟩ <;> rcases at_ m a h2 with ⟨r1,r2,r3⟩ | ⟨r1,r2,r3⟩
  ·rw [q3] at m1; rw [r3] at m2; exact s.nd n m a q2 r2 m1 m2
  ·subst r2; rw [q3] at m1; exact (s.notin hp q2 m1).elim
  ·subst q2; rw [r3] at m2; exact (s.notin hp r2 m2).elim
  ·rw [q1,r1]
 ·rcases at_ n a h2 with ⟨q1,q2,q3⟩ | ⟨q1,q2,q3⟩
  ·rw [q3] at h1
   exact (s.cell n c' a h1 q2).grow (Step.snoc p e) e
  ·rw [q3] at h1
   cases h1
   subst q2
   exact k
theorem Step.put {a:Addr} {o o':HO} (h:H a = some o) (h1:∀ xs,o ≠ .tup xs) (h2:∀ x u,o ≠ .frz x u):Step ρ H ρ (upd H a o'):=by
 refine ⟨List.prefix_refl ρ,fun b xs e => ?_,fun b x u e => ?_⟩
 ·rw [upd_ne (fun z => ?_)]
  ·exact e
  ·subst z; rw [h] at e; exact h1 _ (Option.some.inj e)
 ·rw [upd_ne (fun z => ?_)]
  ·exact e
  ·subst z; rw [h] at e; exact h2 _ _ (Option.some.inj e)
theorem SR.set (s:SR K ρ st H) {n:Nat} {a:Addr} {o o':HO} {c c':Cell} (h:st[n]? = some c) (hc:isMod (some c) = false) (hc':isMod (some c') = false) (ha:ρ[n]? = some a) (ho:H a = some o) (h1:∀ xs,o ≠ .tup xs) (h2:∀ x u,o ≠ .frz x u)
  (k:CellR K ρ (upd H a o') c' a):SR K ρ (st.set n c') (upd H a o'):=by
 have hn:n < st.length:=getL_lt h
 have at_:∀ (m:Nat),isMod (st.set n c')[m]? = isMod st[m]?:=fun m => by
  by_cases z:m = n
  ·subst z; rw [List.getElem?_set_self hn,h,hc,hc']
  ·rw [List.getElem?_set_ne (fun y => z y.symm)]
 refine ⟨by rw [List.length_set]; exact s.len,fun i m b q1 q2 m1 m2 => s.nd i m b q1 q2 (by rw [← at_]; exact m1) (by rw [← at_]; exact m2),fun m d b q1 q2 => ?_⟩
 by_cases z:m = n
 ·subst z
  rw [ha] at q2
  cases q2
  rw [List.getElem?_set_self hn] at q1
  cases q1
  exact k
 ·rw [List.getElem?_set_ne (fun y => z y.symm)] at q1
  have kb:=s.cell m d b q1 q2
  cases zm:isMod (some d) with
  | true => exact kb.mono (Step.put ho h1 h2) (.inl zm)
  | false =>
   have hb:b ≠ a:=fun y => z (s.nd m n a (by rw [← y]; exact q2) ha (by rw [q1]; exact zm) (by rw [h]; exact hc))
   exact kb.mono (Step.put ho h1 h2) (.inr (upd_ne hb))
end
noncomputable def RlE (W:Wo) (ρ:List Addr) (H:Hp) (u:Val) (v:V):Prop:=match u with
 | .exc c => ∃ a oe C,v = .ref a ∧ (a,oe) ∈ W.pn ∧ W.mg c = some (.ref C) ∧ oe.cls = .ref C
 | u => Rl W.K ρ H u v
theorem RlE.mono {W:Wo} {ρ ρ':List Addr} {H H':Hp} {u:Val} {v:V} (h:RlE W ρ H u v) (e:Step ρ H ρ' H'):RlE W ρ' H' u v:=by
 cases u with
 | exc c => exact h
 | _ => exact Rl.mono e _ _ h
theorem RlE.of {W:Wo} {ρ:List Addr} {H:Hp} {u:Val} {v:V} (h:Rl W.K ρ H u v):RlE W ρ H u v:=by
 cases u with
 | exc c => unfold Rl at h; exact h.elim
 | _ => exact h
structure RS (W:Wo) (ρ:List Addr) (H:Hp) (μ:Env) (σ:St):Prop where
 len:μ.length = σ.length
 at_:∀ (i:Nat) u,μ[i]? = some (some u) → ∃ v,σ[i]? = some (some v) ∧ RlE W ρ H u v
section
variable {W:Wo} {ρ ρ':List Addr} {H H':Hp} {μ:Env} {σ:St}
theorem RS.mono (r:RS W ρ H μ σ) (e:Step ρ H ρ' H'):RS W ρ' H' μ σ:=⟨r.len,fun i u h => let ⟨v,h1,h2⟩:=r.at_ i u h; ⟨v,h1,h2.mono e⟩⟩
theorem RS.setE (r:RS W ρ H μ σ) (i:Nat) {u:Val} {v:V} (h:RlE W ρ H u v):RS W ρ H (μ.set i (some u)) (σ.set i (some v)):=by
 refine ⟨by rw [List.length_set,List.length_set]; exact r.len,fun j w e => ?_⟩
 by_cases z:j = i
 ·subst z
  have hj:=getL_lt e
  rw [List.length_set] at hj
  rw [List.getElem?_set_self hj] at e
  cases e
  exact ⟨v,List.getElem?_set_self (by rw [← r.len]; exact hj),h⟩
 ·rw [List.getElem?_set_ne (fun y => z y.symm)] at e ⊢
  exact r.at_ j w e
theorem RS.set (r:RS W ρ H μ σ) (i:Nat) {u:Val} {v:V} (h:Rl W.K ρ H u v):RS W ρ H (μ.set i (some u)) (σ.set i (some v)):=r.setE i (RlE.of h)
end
end MN
namespace MN
open PySem PySem.Spec L2
open PyProof.Rows hiding St
noncomputable abbrev ME:=Env → Store → Res Val
noncomputable abbrev MT:=Env → Store → Res Bool
noncomputable abbrev MA:=Env → Store → Res (List Val)
noncomputable abbrev MB:=Env → Store → SRes
noncomputable def wR {α β:Type} (W:Wo) (E:XK) (R:List Addr → Hp → α → β → Prop) (ρ:List Addr) (H:Hp) (Q:β → Hp → Prop):Res α → Prop
 | .ok u st' => ∀ ρ' H' v,Step ρ H ρ' H' → SR W.K ρ' st' H' → R ρ' H' u v → Q v H'
 | .err c st' => ∃ C,W.mg c = some (.ref C) ∧ ∀ ρ' H',Step ρ H ρ' H' → SR W.K ρ' st' H' → E (.ref C) none H'
 | .bad => False
theorem wR.mono {α β:Type} {W:Wo} {E:XK} {R:List Addr → Hp → α → β → Prop} {ρ ρ':List Addr} {H H':Hp} {Q:β → Hp → Prop} {r:Res α} (h:wR W E R ρ H Q r) (e:Step ρ H ρ' H'):wR W E R ρ' H' Q r:=by
 cases r with
 | ok u st => exact fun ρ2 H2 v e2 s r => h ρ2 H2 v (e.trans e2) s r
 | err c st => obtain ⟨C,h1,h2⟩:=h; exact ⟨C,h1,fun ρ2 H2 e2 s => h2 ρ2 H2 (e.trans e2) s⟩
 | bad => exact h
theorem wR.pn {α β:Type} {K:PySem.W.Frag} {mg:Str → Option Value} {pn pn':List (Addr × Obj)} {E:XK} {R:List Addr → Hp → α → β → Prop} {ρ:List Addr} {H:Hp} {Q:β → Hp → Prop} {r:Res α} (h:wR ⟨K,mg,pn⟩ E R ρ H Q r):wR ⟨K,mg,pn'⟩ E R ρ H Q r:=by
 cases r <;> exact h
noncomputable def tG {α β:Type} (W:Wo) (E:XK) (R:List Addr → Hp → α → β → Prop) (m:Env → Store → Res α):St → Hp → (β → Hp → Prop) → Prop :=
 fun σ H Q => ∃ μ ρ st,RS W ρ H μ σ ∧ SR W.K ρ st H ∧ wR W E R ρ H Q (m μ st)
noncomputable abbrev RB:List Addr → Hp → Bool → Bool → Prop:=fun _ _ b c => c = b
noncomputable abbrev tE (X:Cx) (E:XK) (m:ME):TE:=tG (wo X) E (Rl X.K) m
noncomputable abbrev tT (X:Cx) (E:XK) (m:MT):TT:=tG (wo X) E RB m
noncomputable abbrev tL (X:Cx) (E:XK) (m:MA):TA:=tG (wo X) E (Rls X.K) m
theorem go {α β γ δ:Type} {W:Wo} {E:XK} {R1:List Addr → Hp → α → β → Prop} {R2:List Addr → Hp → γ → δ → Prop} {m:Env → Store → Res α} {k:α → Store → Res γ} {σ:St} {H:Hp} {Q:δ → Hp → Prop} {Q':β → Hp → Prop}
  (μ:Env) (ρ:List Addr) (st:Store) (rs:RS W ρ H μ σ) (sr:SR W.K ρ st H) (h:wR W E R2 ρ H Q ((m μ st).bind k))
  (c:∀ u st1 ρ1 H1 x,Step ρ H ρ1 H1 → SR W.K ρ1 st1 H1 → R1 ρ1 H1 u x → wR W E R2 ρ1 H1 Q (k u st1) → Q' x H1):tG W E R1 m σ H Q':=by
 refine ⟨μ,ρ,st,rs,sr,?_⟩
 cases e:m μ st with
 | ok u st1 =>
  rw [e] at h
  intro ρ1 H1 x e1 sr1 r1
  exact c u st1 ρ1 H1 x e1 sr1 r1 (wR.mono h e1)
 | err c st1 => rw [e] at h; exact h
 | bad => rw [e] at h; exact h
section
variable {X:Cx}
theorem PE.imp {e:Expr} {t t':TE} (h:PE X e t) (k:∀ σ H Q,t' σ H Q → t σ H Q):PE X e t':=fun pins s σ H Q I q => h pins s σ H Q I (k σ H Q q)
theorem PT.imp {e:Expr} {t t':TT} (h:PT X e t) (k:∀ σ H Q,t' σ H Q → t σ H Q):PT X e t':=fun pins s σ H Q I q => h pins s σ H Q I (k σ H Q q)
theorem PW.imp {e:Expr} {t t':TT} (h:PW X e t) (k:∀ σ H Q,t' σ H Q → t σ H Q):PW X e t':=fun w pins s σ H Q I q => h w pins s σ H Q I (k σ H Q q)
theorem PA.imp {e:List Expr} {t t':TA} (h:PA X e t) (k:∀ σ H Q,t' σ H Q → t σ H Q):PA X e t':=fun p pins s σ H Q I q => h p pins s σ H Q I (k σ H Q q)
theorem PS.imp {e:Stmt} {t t':TS} (h:PS X e t) (k:∀ D σ H,t' D σ H → t D σ H):PS X e t':=fun pins s σ H D I q => h pins s σ H D I (k D σ H q)
theorem PSs.imp {e:List Stmt} {t t':TS} (h:PSs X e t) (k:∀ D σ H,t' D σ H → t D σ H):PSs X e t':=fun pins s σ H D I q => h pins s σ H D I (k D σ H q)
theorem PG.imp {e:Expr} {t t':TG} (h:PG X e t) (k:∀ v σ H Q,t' v σ H Q → t v σ H Q):PG X e t':=fun pins s σ H v u Q I r q => h pins s σ H v u Q I r (k v σ H Q q)
theorem OpR.imp {f:Value → Value → Sem Value} {t t':R2} (h:OpR X f t) (k:∀ x y H Q,t' x y H Q → t x y H Q):OpR X f t':=fun pins s σ H x y v u Q I rx ry q => h pins s σ H x y v u Q I rx ry (k x y H Q q)
theorem CallR.imp {f:Value} {t t':List V → Hp → VK → Prop} (h:CallR X f t) (k:∀ xs H Q,t' xs H Q → t xs H Q):CallR X f t':=fun pins s σ H xs us Q I r q => h pins s σ H xs us Q I r (k xs H Q q)
theorem IxR.imp {t t':R2} (h:IxR X t) (k:∀ x y H Q,t' x y H Q → t x y H Q):IxR X t':=fun va sl pins s σ H x y v u Q I rx ry q e => h va sl pins s σ H x y v u Q I rx ry (k x y H Q q) e
end
noncomputable def isX:Val → Bool
 | .exc _ => true
 | _ => false
noncomputable def mVar (i:Nat):ME:=fun μ st => match μ[i]? with
 | some (some v) => if isX v = true then .bad else .ok v st
 | _ => .bad
theorem RlE.un {W:Wo} {ρ:List Addr} {H:Hp} {u:Val} {v:V} (h:RlE W ρ H u v) (n:¬ isX u = true):Rl W.K ρ H u v:=by
 cases u with
 | exc c => exact absurd rfl n
 | _ => exact h
noncomputable def mC (v:Val):ME:=fun _ st => .ok v st
section
variable {X:Cx} {E:XK} {pos:Pos}
theorem me_var (i:Nat) {x:Str} (hN:X.N[i]? = some x:=by rfl) (hv:Vis X.env.scope x:=by first | exact Or.inl rfl | exact Or.inr (Or.inl rfl) | exact Or.inr (Or.inr rfl)) (hd:(x == ("__debug__":Str)) = false:=by decide)
  (hcd:(x == ("__classdict__":Str)) = false:=by decide):PE X (.Name x pos) (tE X E (mVar i)):=by
 refine PE.imp (pe_var hN hv hd hcd) ?_
 rintro σ H Q ⟨μ,ρ,st,rs,sr,h⟩
 unfold mVar at h
 split at h
 ·rename_i v e
  obtain ⟨w,e',r⟩:=rs.at_ i v e
  split at h
  ·exact h.elim
  ·rename_i n
   exact ⟨w,e',h ρ H w (Step.refl _ _) sr (r.un n)⟩
 ·exact h.elim
theorem me_of {e:Expr} {v:V} {c:Val} (h:PE X e (tC v)) (r:∀ ρ H,Rl X.K ρ H c v):PE X e (tE X E (mC c)):=by
 refine PE.imp h ?_
 rintro σ H Q ⟨μ,ρ,st,rs,sr,h⟩
 exact h ρ H v (Step.refl _ _) sr (r ρ H)
theorem me_int {i j}:PE X (.Constant (.int i) j pos) (tE X E (mC (.int i))):=me_of pe_int fun _ _ => Rl.mkInt i
theorem me_bl {b j}:PE X (.Constant (.bool b) j pos) (tE X E (mC (.bl b))):=me_of pe_bl fun _ _ => Rl.mkBl b
theorem me_str {x j}:PE X (.Constant (.str x) j pos) (tE X E (mC (.str x))):=me_of pe_str fun _ _ => Rl.mkStr x
structure Glob (K:PySem.W.Frag) (mg:Str → Option Value) (x:Str) (c:Val):Prop where
 at_:∃ (u:Value) (v:V),mg x = some u ∧ RelV v u ∧ ∀ ρ H,Rl K ρ H c v
theorem me_glob {x:Str} {c:Val} (hg:Gl X x) (h:Glob X.K X.mg x c) (hd:(x == ("__debug__":Str)) = false:=by decide):PE X (.Name x pos) (tE X E (mC c)):=by
 refine bcn fun hNO => ?_
 obtain ⟨u,v,h1,h2,h3⟩:=h.at_
 refine hNO ?_; clear hNO
 exact me_of (pe_glob hg h1 h2 hd) h3
end
noncomputable abbrev F2:=Val → Val → Store → Res Val
noncomputable def rM (W:Wo) (E:XK) (f:F2):R2:=fun x y H Q => ∃ ρ st u w,SR W.K ρ st H ∧ Rl W.K ρ H u x ∧ Rl W.K ρ H w y ∧ wR W E (Rl W.K) ρ H Q (f u w st)
noncomputable def mBin (f:F2) (a b:ME):ME:=fun μ st => (a μ st).bind fun x st1 => (b μ st1).bind fun y st2 => f x y st2
section
variable {X:Cx} {E:XK} {pos:Pos} {a b c:Expr} {ma mb mc:ME} {f g:F2}
theorem bin_read {σ:St} {H:Hp} {Q:VK} (h:tE X E (mBin f ma mb) σ H Q):tOp (rM (wo X) E f) (tE X E ma) (tE X E mb) σ H Q:=by
 refine bcn fun hNO => ?_
 obtain ⟨μ,ρ,st,rs,sr,h⟩:=h
 refine hNO ?_; clear hNO
 refine go μ ρ st rs sr h fun u st1 ρ1 H1 x e1 sr1 r1 h1 => ?_
 refine go μ ρ1 st1 (rs.mono e1) sr1 h1 fun w st2 ρ2 H2 y e2 sr2 r2 h2 => ?_
 exact ⟨ρ2,st2,u,w,sr2,Rl.mono e2 _ _ r1,r2,h2⟩
theorem me_bin {op:Operator} (ho:OpR X (binaryOp op) (rM (wo X) E f)) (ha:PE X a (tE X E ma)) (hb:PE X b (tE X E mb)):PE X (.BinOp a op b pos) (tE X E (mBin f ma mb)) :=
 PE.imp (pe_op ho ha hb) fun _ _ _ h => bin_read h
theorem me_cmp {op:CmpOp} (ho:OpR X (compareOp op) (rM (wo X) E f)) (ha:PE X a (tE X E ma)) (hb:PE X b (tE X E mb)) (hm:behindInMarks op b = false:=by first | exact nomark _ | (with_unfolding_all rfl)):PE X (.Compare a [op] [b] pos) (tE X E (mBin f ma mb)) :=
 PE.imp (pe_cmpR ho ha hb hm) fun _ _ _ h => bin_read h
noncomputable def asT (m:ME):MT:=fun μ st => (m μ st).bind fun v st' => match v with
 | .bl b => .ok b st'
 | _ => .bad
theorem asT_read {m:ME} {σ:St} {H:Hp} {Q:Bool → Hp → Prop} (h:tT X E (asT m) σ H Q):tE X E m σ H fun x H' => ∃ k,x = .bl k ∧ Q k H':=by
 refine bcn fun hNO => ?_
 obtain ⟨μ,ρ,st,rs,sr,h⟩:=h
 refine hNO ?_; clear hNO
 refine go μ ρ st rs sr h fun u st1 ρ1 H1 x e1 sr1 r1 h1 => ?_
 cases u with
 | bl b => exact ⟨b,r1.bl_,h1 ρ1 H1 b (Step.refl _ _) sr1 rfl⟩
 | _ => exact h1.elim
theorem mt_cmp {op:CmpOp} (ho:OpR X (compareOp op) (rM (wo X) E f)) (ha:PE X a (tE X E ma)) (hb:PE X b (tE X E mb)) (hm:behindInMarks op b = false:=by first | exact nomark _ | (with_unfolding_all rfl)):PT X (.Compare a [op] [b] pos) (tT X E (asT (mBin f ma mb))) :=
 PT.imp (pt_cmpR ho ha hb hm) fun σ H Q h => by
  show tOp (rM (wo X) E f) (tE X E ma) (tE X E mb) σ H _
  exact bin_read (asT_read h)
theorem mt_val {m:ME} (h:PE X a (tE X E m)) (he:∀ whole,isTrue a X.env whole = (do let v ← whole; standAt a.pos; holding [v] (truthy v)):=by intro _; rfl):PT X a (tT X E (asT m)) :=
 PT.imp (pt_val h he) fun σ H Q h => asT_read h
noncomputable def mChain (f g:F2) (a b c:ME):ME:=fun μ st => (a μ st).bind fun x st1 => (b μ st1).bind fun y st2 => (f x y st2).bind fun z st3 => match z with
 | .bl true => (c μ st3).bind fun w st4 => g y w st4
 | .bl false => .ok (.bl false) st3
 | _ => .bad
noncomputable def Tells (f:F2):Prop:=∀ u w st,f u w st = .bad ∨ ∃ b,f u w st = .ok (.bl b) st
theorem chain_read (hf:Tells f) {σ:St} {H:Hp} {Q:VK} (h:tE X E (mChain f g ma mb mc) σ H Q):tChain (rM (wo X) E f) (rM (wo X) E g) (tE X E ma) (tE X E mb) (tE X E mc) σ H Q:=by
 refine bcn fun hNO => ?_
 obtain ⟨μ,ρ,st,rs,sr,h⟩:=h
 refine hNO ?_; clear hNO
 refine go μ ρ st rs sr h fun u st1 ρ1 H1 x e1 sr1 r1 h1 => ?_
 refine go μ ρ1 st1 (rs.mono e1) sr1 h1 fun w st2 ρ2 H2 y e2 sr2 r2 h2 => ?_
 refine ⟨ρ2,st2,u,w,sr2,Rl.mono e2 _ _ r1,r2,?_⟩
 rcases hf u w st2 with e | ⟨k,e⟩
 ·rw [e] at h2; exact h2.elim
 ·rw [e] at h2 ⊢
  intro ρ3 H3 z e3 sr3 rz
  rw [rz.bl_]
  refine ⟨k,rfl,?_⟩
  cases k with
  | true =>
   rw [if_pos rfl]
   refine go μ ρ3 st2 (((rs.mono e1).mono e2).mono e3) sr3 (wR.mono h2 e3) fun v st4 ρ4 H4 x4 e4 sr4 r4 h4 => ?_
   exact ⟨ρ4,st4,w,v,sr4,Rl.mono (e3.trans e4) _ _ r2,r4,h4⟩
  | false =>
   rw [if_neg Bool.false_ne_true]
   exact h2 ρ3 H3 _ e3 sr3 (Rl.mkBl false)
theorem mt_chain {op op':CmpOp} (hf:Tells f) (ho:OpR X (compareOp op) (rM (wo X) E f)) (ho':OpR X (compareOp op') (rM (wo X) E g)) (ha:PE X a (tE X E ma)) (hb:PE X b (tE X E mb)) (hc:PE X c (tE X E mc))
  (hm:lastMarks [op,op'] [b,c] = false:=by with_unfolding_all rfl):PT X (.Compare a [op,op'] [b,c] pos) (tT X E (asT (mChain f g ma mb mc))) :=
 PT.imp (pt_chain ho ho' ha hb hc hm) fun σ H Q h => by
  show tChain (rM (wo X) E f) (rM (wo X) E g) (tE X E ma) (tE X E mb) (tE X E mc) σ H _
  exact chain_read hf (asT_read h)
noncomputable def mAnd (a b:ME):ME:=fun μ st => (a μ st).bind fun x st1 => match x with
 | .bl true => b μ st1
 | .bl false => .ok (.bl false) st1
 | _ => .bad
noncomputable def mOr (a b:ME):ME:=fun μ st => (a μ st).bind fun x st1 => match x with
 | .bl true => .ok (.bl true) st1
 | .bl false => b μ st1
 | _ => .bad
noncomputable def mNot (a:ME):ME:=fun μ st => (a μ st).bind fun x st1 => match x with
 | .bl b => .ok (.bl (!b)) st1
 | _ => .bad
noncomputable def tAndM (a b:MT):MT:=fun μ st => (a μ st).bind fun x st1 => match x with
 | true => b μ st1
 | false => .ok false st1
noncomputable def tOrM (a b:MT):MT:=fun μ st => (a μ st).bind fun x st1 => match x with
 | true => .ok true st1
 | false => b μ st1
noncomputable def tNotM (a:MT):MT:=fun μ st => (a μ st).bind fun x st1 => .ok (!x) st1
noncomputable def mIf (t:MT) (a b:ME):ME:=fun μ st => (t μ st).bind fun x st1 => match x with
 | true => a μ st1
 | false => b μ st1
variable {rest:List Expr} {tA tB':MT}
theorem me_one {op} {m:ME} (h:PE X a (tE X E m)):PE X (.BoolOp op [a] pos) (tE X E m):=pe_one h
theorem me_and (ha:PE X a (tE X E ma)) (hb:PE X (.BoolOp .And (b :: rest) pos) (tE X E mb)):PE X (.BoolOp .And (a :: b :: rest) pos) (tE X E (mAnd ma mb)):=by
 refine PE.imp (pe_and ha hb) ?_
 rintro σ H Q ⟨μ,ρ,st,rs,sr,h⟩
 refine go μ ρ st rs sr h fun u st1 ρ1 H1 x e1 sr1 r1 h1 => ?_
 cases u with
 | bl k =>
  refine ⟨k,r1.bl_,?_⟩
  cases k with
  | true => rw [if_pos rfl]; exact ⟨μ,ρ1,st1,rs.mono e1,sr1,h1⟩
  | false => rw [if_neg Bool.false_ne_true]; exact h1 ρ1 H1 _ (Step.refl _ _) sr1 (Rl.mkBl false)
 | _ => exact h1.elim
theorem me_or (ha:PE X a (tE X E ma)) (hb:PE X (.BoolOp .Or (b :: rest) pos) (tE X E mb)):PE X (.BoolOp .Or (a :: b :: rest) pos) (tE X E (mOr ma mb)):=by
 refine PE.imp (pe_or ha hb) ?_
 rintro σ H Q ⟨μ,ρ,st,rs,sr,h⟩
 refine go μ ρ st rs sr h fun u st1 ρ1 H1 x e1 sr1 r1 h1 => ?_
 cases u with
 | bl k =>
  refine ⟨k,r1.bl_,?_⟩
  cases k with
  | true => rw [if_pos rfl]; exact h1 ρ1 H1 _ (Step.refl _ _) sr1 (Rl.mkBl true)
  | false => rw [if_neg Bool.false_ne_true]; exact ⟨μ,ρ1,st1,rs.mono e1,sr1,h1⟩
 | _ => exact h1.elim
theorem me_not (ha:PE X a (tE X E ma)):PE X (.UnaryOp .Not a pos) (tE X E (mNot ma)):=by
 refine PE.imp (pe_not ha) ?_
 rintro σ H Q ⟨μ,ρ,st,rs,sr,h⟩
 refine go μ ρ st rs sr h fun u st1 ρ1 H1 x e1 sr1 r1 h1 => ?_
 cases u with
 | bl k => exact ⟨k,r1.bl_,h1 ρ1 H1 _ (Step.refl _ _) sr1 (Rl.mkBl _)⟩
 | _ => exact h1.elim
theorem mw_and1 (ha:PT X a (tT X E tA)):PW X (.BoolOp .And [a] pos) (tT X E tA):=pw_and1 ha
theorem mw_or1 (ha:PT X a (tT X E tA)):PW X (.BoolOp .Or [a] pos) (tT X E tA):=pw_or1 ha
theorem mw_and (ha:PT X a (tT X E tA)) (hb:PW X (.BoolOp .And (b :: rest) pos) (tT X E tB')):PW X (.BoolOp .And (a :: b :: rest) pos) (tT X E (tAndM tA tB')):=by
 refine PW.imp (pw_and ha hb) ?_
 rintro σ H Q ⟨μ,ρ,st,rs,sr,h⟩
 refine go (R1:=RB) μ ρ st rs sr h fun u st1 ρ1 H1 x e1 sr1 r1 h1 => ?_
 cases r1
 cases u with
 | true => rw [if_pos rfl]; exact ⟨μ,ρ1,st1,rs.mono e1,sr1,h1⟩
 | false => rw [if_neg Bool.false_ne_true]; exact h1 ρ1 H1 _ (Step.refl _ _) sr1 rfl
theorem mw_or (ha:PT X a (tT X E tA)) (hb:PW X (.BoolOp .Or (b :: rest) pos) (tT X E tB')):PW X (.BoolOp .Or (a :: b :: rest) pos) (tT X E (tOrM tA tB')):=by
 refine PW.imp (pw_or ha hb) ?_
 rintro σ H Q ⟨μ,ρ,st,rs,sr,h⟩
 refine go (R1:=RB) μ ρ st rs sr h fun u st1 ρ1 H1 x e1 sr1 r1 h1 => ?_
 cases r1
 cases u with
 | true => rw [if_pos rfl]; exact h1 ρ1 H1 _ (Step.refl _ _) sr1 rfl
 | false => rw [if_neg Bool.false_ne_true]; exact ⟨μ,ρ1,st1,rs.mono e1,sr1,h1⟩
theorem mt_w {e:Expr} {t:MT} (h:PW X e (tT X E t)):PT X e (tT X E t):=h.pt
theorem mt_not (ha:PT X a (tT X E tA)):PT X (.UnaryOp .Not a pos) (tT X E (tNotM tA)):=by
 refine PT.imp (pt_not ha) ?_
 rintro σ H Q ⟨μ,ρ,st,rs,sr,h⟩
 refine go (R1:=RB) μ ρ st rs sr h fun u st1 ρ1 H1 x e1 sr1 r1 h1 => ?_
 cases r1
 exact h1 ρ1 H1 _ (Step.refl _ _) sr1 rfl
theorem me_if (hc:PT X c (tT X E tA)) (ha:PE X a (tE X E ma)) (hb:PE X b (tE X E mb)):PE X (.IfExp c a b pos) (tE X E (mIf tA ma mb)):=by
 refine PE.imp (pe_ifExp hc ha hb) ?_
 rintro σ H Q ⟨μ,ρ,st,rs,sr,h⟩
 refine go (R1:=RB) μ ρ st rs sr h fun u st1 ρ1 H1 x e1 sr1 r1 h1 => ?_
 cases r1
 cases u with
 | true => rw [if_pos rfl]; exact ⟨μ,ρ1,st1,rs.mono e1,sr1,h1⟩
 | false => rw [if_neg Bool.false_ne_true]; exact ⟨μ,ρ1,st1,rs.mono e1,sr1,h1⟩
end
noncomputable def mNil:MA:=fun _ st => .ok [] st
noncomputable def mCons (a:ME) (r:MA):MA:=fun μ st => (a μ st).bind fun x st1 => (r μ st1).bind fun xs st2 => .ok (x :: xs) st2
noncomputable def mTup (a:MA):ME:=fun μ st => (a μ st).bind fun xs st1 => if xs.length ≤ sizeLine then .ok (.tup xs) st1 else .bad
noncomputable def mLst (a:MA):ME:=fun μ st => (a μ st).bind fun xs st1 => if xs.length ≤ sizeLine then .ok (.loc st1.length) (st1 ++ [.lst xs]) else .bad
noncomputable abbrev FN:=List Val → Store → Res Val
noncomputable def mCall (f:FN) (a:MA):ME:=fun μ st => (a μ st).bind fun xs st1 => f xs st1
noncomputable def spM (W:Wo) (f:FN):Sp:=fun vs H Q E => ∃ us ρ st,Rls W.K ρ H us vs ∧ SR W.K ρ st H ∧ wR W E (Rl W.K) ρ H Q (f us st)
noncomputable def cM (W:Wo) (E:XK) (f:FN):List V → Hp → VK → Prop:=fun xs H Q => ∃ ρ st us,SR W.K ρ st H ∧ Rls W.K ρ H us xs ∧ wR W E (Rl W.K) ρ H Q (f us st)
section
variable {X:Cx} {E:XK} {pos p:Pos} {e:Expr} {es:List Expr} {m:ME} {ms:MA} {f:FN} {x:Str}
theorem ma_nil:PA X [] (tL X E mNil):=PA.imp pa_nil fun σ H Q ⟨μ,ρ,st,rs,sr,h⟩ => h ρ H [] (Step.refl _ _) sr Rls.nil
theorem ma_cons (ha:PE X e (tE X E m)) (hr:PA X es (tL X E ms)) (hs:starEach (e :: es) X.env = (false,eval e X.env) :: starEach es X.env:=by rfl):PA X (e :: es) (tL X E (mCons m ms)):=by
 refine PA.imp (pa_cons ha hr hs) ?_
 rintro σ H Q ⟨μ,ρ,st,rs,sr,h⟩
 refine go μ ρ st rs sr h fun u st1 ρ1 H1 x e1 sr1 r1 h1 => ?_
 refine go (R1:=Rls X.K) μ ρ1 st1 (rs.mono e1) sr1 h1 fun w st2 ρ2 H2 y e2 sr2 r2 h2 => ?_
 exact h2 ρ2 H2 _ (Step.refl _ _) sr2 (Rls.cons (Rl.mono e2 _ _ r1) r2)
theorem me_tup {k} (h:PA X es (tL X E ms)):PE X (.Tuple es k pos) (tE X E (mTup ms)):=by
 refine PE.imp (pe_tup h) ?_
 rintro σ H Q ⟨μ,ρ,st,rs,sr,h⟩
 refine go (R1:=Rls X.K) μ ρ st rs sr h fun us st1 ρ1 H1 xs e1 sr1 r1 h1 => ?_
 by_cases hz:us.length ≤ sizeLine
 ·rw [if_pos hz] at h1
  refine ⟨by rw [← r1.length]; exact hz,fun p hp => ?_⟩
  have s:=same_upd (o:=.tup xs) hp
  exact h1 ρ1 _ _ (Step.same s) (sr1.grow s) (Rl.mkTup upd_same (Rls.mono (Step.same s) _ _ r1))
 ·rw [if_neg hz] at h1; exact h1.elim
theorem new_lst {K:PySem.W.Frag} {ρ:List Addr} {st:Store} {H:Hp} {us:List Val} {xs:List V} (sr:SR K ρ st H) (r:Rls K ρ H us xs) {p:Addr} (hp:H p = none) :
  Step ρ H (ρ ++ [p]) (upd H p (.lst xs)) ∧ SR K (ρ ++ [p]) (st ++ [.lst us]) (upd H p (.lst xs)) ∧ Rl K (ρ ++ [p]) (upd H p (.lst xs)) (.loc st.length) (.ref p):=by
 have s:=same_upd (o:=.lst xs) hp
 refine ⟨Step.snoc p s,sr.alloc hp ⟨xs,upd_same,Rls.mono (Step.snoc p s) _ _ r⟩,Rl.mkLoc ?_⟩
 rw [← sr.len,List.getElem?_append_right (Nat.le_refl _),Nat.sub_self]
 rfl
theorem me_lst (h:PA X es (tL X E ms)):PE X (.List es pos) (tE X E (mLst ms)):=by
 refine PE.imp (pe_lst h) ?_
 rintro σ H Q ⟨μ,ρ,st,rs,sr,h⟩
 refine go (R1:=Rls X.K) μ ρ st rs sr h fun us st1 ρ1 H1 xs e1 sr1 r1 h1 => ?_
 by_cases hz:us.length ≤ sizeLine
 ·rw [if_pos hz] at h1
  refine ⟨by rw [← r1.length]; exact hz,fun p hp => ?_⟩
  obtain ⟨a,b,c⟩:=new_lst sr1 r1 hp
  exact h1 _ _ _ a b c
 ·rw [if_neg hz] at h1; exact h1.elim
theorem me_call {k:Nat} {fa:Addr} {fd:FuncData} {ps:List Str} {CX:CXT} (F:FnOk X.prog X.w X.K X.mg X.base CX k fa fd ps (spM ⟨X.K,X.mg,[]⟩ f)) (hr:Room k X.A) (hg:Gl X x) (hm:X.mg x = some (.ref fa)) (hk:PySem.W.keepIn X.K (.ref fa) = true)
  (hb:Binds X.K fd ps []) (hx:Passes CX X E) (ha:PA X (e :: es) (tL X E ms)) (hdb:(x == ("__debug__":Str)) = false:=by decide)
  (he:starEach (e :: es) X.env = (false,eval e X.env) :: starEach es X.env:=by rfl) (hpl:(backTo pos (starEach es X.env)).any (·.1) = false:=by rfl) :
  PE X (.Call (.Name x p) (e :: es) [] pos) (tE X E (mCall f ms)):=by
 refine PE.imp (pe_call F hr hg hm hk hb .nil hx ha hdb he hpl) ?_
 rintro σ H Q ⟨μ,ρ,st,rs,sr,h⟩
 refine go (R1:=Rls X.K) μ ρ st rs sr h fun us st1 ρ1 H1 xs e1 sr1 r1 h1 => ?_
 rw [List.append_nil]
 exact ⟨us,ρ1,st1,r1,sr1,wR.pn h1⟩
theorem me_callB {id:String} (hc:CallR X (.builtin id) (cM (wo X) E f)) (hg:Gl X x) (hm:X.mg x = none) (hv:bootBuiltins x = some (.builtin id)) (ha:PA X (e :: es) (tL X E ms)) (hn:x ≠ "__name__":=by decide) (hdb:(x == ("__debug__":Str)) = false:=by decide)
  (he:starEach (e :: es) X.env = (false,eval e X.env) :: starEach es X.env:=by rfl) (hpl:(backTo pos (starEach es X.env)).any (·.1) = false:=by rfl):PE X (.Call (.Name x p) (e :: es) [] pos) (tE X E (mCall f ms)):=by
 refine PE.imp (pe_callB hc hg hm hv ha hn hdb he hpl) ?_
 rintro σ H Q ⟨μ,ρ,st,rs,sr,h⟩
 exact go (R1:=Rls X.K) μ ρ st rs sr h fun us st1 ρ1 H1 xs e1 sr1 r1 h1 => ⟨ρ1,st1,us,sr1,r1,h1⟩
theorem me_callTy {T:String} (hc:CallR X (.type T) (cM (wo X) E f)) (hg:Gl X x) (hm:X.mg x = none) (hv:bootBuiltins x = some (.type T)) (ha:PA X (e :: es) (tL X E ms)) (hn:x ≠ "__name__":=by decide) (hdb:(x == ("__debug__":Str)) = false:=by decide)
  (he:starEach (e :: es) X.env = (false,eval e X.env) :: starEach es X.env:=by rfl) (hpl:(backTo pos (starEach es X.env)).any (·.1) = false:=by rfl):PE X (.Call (.Name x p) (e :: es) [] pos) (tE X E (mCall f ms)):=by
 refine PE.imp (pe_callTy hc hg hm hv ha hn hdb he hpl) ?_
 rintro σ H Q ⟨μ,ρ,st,rs,sr,h⟩
 exact go (R1:=Rls X.K) μ ρ st rs sr h fun us st1 ρ1 H1 xs e1 sr1 r1 h1 => ⟨ρ1,st1,us,sr1,r1,h1⟩
end
section
variable {X:Cx} {E:XK} {pos:Pos} {a b:Expr} {ma mb:ME} {f:F2}
theorem me_ix (hr:IxR X (rM (wo X) E f)) (ha:PE X a (tE X E ma)) (hb:PE X b (tE X E mb)) (hs:PlainIx b:=by exact fun _ _ => rfl):PE X (.Subscript a b pos) (tE X E (mBin f ma mb)) :=
 PE.imp (pe_ix hr ha hb hs) fun _ _ _ h => bin_read h
end
noncomputable def wS (W:Wo) (E:XK) (ρ:List Addr) (H:Hp) (D:Ends):SRes → Prop
 | .nx μ st => ∀ ρ' H' σ',Step ρ H ρ' H' → SR W.K ρ' st H' → RS W ρ' H' μ σ' → D.nx σ' H'
 | .rt v st => ∀ ρ' H' x,Step ρ H ρ' H' → SR W.K ρ' st H' → Rl W.K ρ' H' v x → D.rt x H'
 | .bk μ st => ∀ ρ' H' σ',Step ρ H ρ' H' → SR W.K ρ' st H' → RS W ρ' H' μ σ' → D.bk σ' H'
 | .ct μ st => ∀ ρ' H' σ',Step ρ H ρ' H' → SR W.K ρ' st H' → RS W ρ' H' μ σ' → D.ct σ' H'
 | .er c _ st => ∃ C,W.mg c = some (.ref C) ∧ ∀ ρ' H',Step ρ H ρ' H' → SR W.K ρ' st H' → E (.ref C) none H'
 | .bad => False
theorem wS.mono {W:Wo} {E:XK} {ρ ρ':List Addr} {H H':Hp} {D:Ends} {r:SRes} (h:wS W E ρ H D r) (e:Step ρ H ρ' H'):wS W E ρ' H' D r:=by
 cases r with
 | nx μ st => exact fun ρ2 H2 σ2 e2 s r => h ρ2 H2 σ2 (e.trans e2) s r
 | rt v st => exact fun ρ2 H2 x e2 s r => h ρ2 H2 x (e.trans e2) s r
 | bk μ st => exact fun ρ2 H2 σ2 e2 s r => h ρ2 H2 σ2 (e.trans e2) s r
 | ct μ st => exact fun ρ2 H2 σ2 e2 s r => h ρ2 H2 σ2 (e.trans e2) s r
 | er c μ st => obtain ⟨C,h1,h2⟩:=h; exact ⟨C,h1,fun ρ2 H2 e2 s => h2 ρ2 H2 (e.trans e2) s⟩
 | bad => exact h
noncomputable def tS (X:Cx) (E:XK) (m:MB):TS:=fun D σ H => ∃ μ ρ st,RS (wo X) ρ H μ σ ∧ SR X.K ρ st H ∧ wS (wo X) E ρ H D (m μ st)
@[reducible] def Res.sb {α:Type} (r:Res α) (μ:Env) (k:α → Store → SRes):SRes:=match r with
 | .ok a st => k a st
 | .err c st => .er c μ st
 | .bad => .bad
theorem goS {α β:Type} {W:Wo} {E:XK} {R1:List Addr → Hp → α → β → Prop} {m:Env → Store → Res α} {k:α → Store → SRes} {σ:St} {H:Hp} {D:Ends} {Q':β → Hp → Prop}
  (μ:Env) (ρ:List Addr) (st:Store) (rs:RS W ρ H μ σ) (sr:SR W.K ρ st H) (h:wS W E ρ H D ((m μ st).sb μ k))
  (c:∀ u st1 ρ1 H1 x,Step ρ H ρ1 H1 → SR W.K ρ1 st1 H1 → R1 ρ1 H1 u x → wS W E ρ1 H1 D (k u st1) → Q' x H1):tG W E R1 m σ H Q':=by
 refine ⟨μ,ρ,st,rs,sr,?_⟩
 cases e:m μ st with
 | ok u st1 =>
  rw [e] at h
  intro ρ1 H1 x e1 sr1 r1
  exact c u st1 ρ1 H1 x e1 sr1 r1 (wS.mono h e1)
 | err c st1 => rw [e] at h; exact h
 | bad => rw [e] at h; exact h
noncomputable def sNext:MB:=fun μ st => .nx μ st
noncomputable def sSeq (a b:MB):MB:=fun μ st => match a μ st with
 | .nx μ' st' => b μ' st'
 | r => r
noncomputable def sExpr (m:ME):MB:=fun μ st => (m μ st).sb μ fun _ st' => .nx μ st'
noncomputable def sRet (m:ME):MB:=fun μ st => (m μ st).sb μ fun v st' => .rt v st'
noncomputable def sIf (t:MT) (a b:MB):MB:=fun μ st => (t μ st).sb μ fun k st' => match k with
 | true => a μ st'
 | false => b μ st'
noncomputable def sSet (i:Nat) (m:ME):MB:=fun μ st => (m μ st).sb μ fun v st' => .nx (μ.set i (some v)) st'
noncomputable def sRaise (c:Str) (m:MA):MB:=fun μ st => (m μ st).sb μ fun vs st' => if vs.length ≤ sizeLine then .er c μ st' else .bad
section
variable {X:Cx} {E:XK} {pos:Pos} {s1:Stmt} {rest:List Stmt} {e:Expr} {m:ME} {a b:MB}
theorem ms_nil:PSs X [] (tS X E sNext):=PSs.imp pss_nil fun D σ H ⟨μ,ρ,st,rs,sr,h⟩ => h ρ H σ (Step.refl _ _) sr rs
theorem ms_cons (h1:PS X s1 (tS X E a)) (h2:PSs X rest (tS X E b)):PSs X (s1 :: rest) (tS X E (sSeq a b)):=by
 refine PSs.imp (pss_cons h1 h2) ?_
 rintro D σ H ⟨μ,ρ,st,rs,sr,h⟩
 refine ⟨μ,ρ,st,rs,sr,?_⟩
 unfold sSeq at h
 cases e:a μ st with
 | nx μ' st' =>
  rw [e] at h
  intro ρ1 H1 σ1 e1 sr1 rs1
  exact ⟨μ',ρ1,st',rs1,sr1,wS.mono h e1⟩
 | rt v st' => rw [e] at h; exact h
 | bk μ' st' => rw [e] at h; exact h
 | ct μ' st' => rw [e] at h; exact h
 | er c μ' st' => rw [e] at h; exact h
 | bad => rw [e] at h; exact h
theorem ms_one (h1:PS X s1 (tS X E a)):PSs X [s1] (tS X E a):=pss_one h1
theorem ms_expr (he:PE X e (tE X E m)) (hs:swapsWith e none pos.line X.env = pure false:=by rfl):PS X (.Expr e pos) (tS X E (sExpr m)):=by
 refine PS.imp (ps_expr he hs) ?_
 rintro D σ H ⟨μ,ρ,st,rs,sr,h⟩
 exact goS μ ρ st rs sr h fun u st1 ρ1 H1 x e1 sr1 r1 h1 => h1 ρ1 H1 σ (Step.refl _ _) sr1 (rs.mono e1)
theorem ms_ret (he:PE X e (tE X E m)):PS X (.Return (some e) pos) (tS X E (sRet m)):=by
 refine PS.imp (ps_ret he) ?_
 rintro D σ H ⟨μ,ρ,st,rs,sr,h⟩
 exact goS μ ρ st rs sr h fun u st1 ρ1 H1 x e1 sr1 r1 h1 => h1 ρ1 H1 x (Step.refl _ _) sr1 r1
theorem ms_if {c:Expr} {sa sb:List Stmt} {t:MT} (hc:PT X c (tT X E t)) (ha:PSs X sa (tS X E a)) (hb:PSs X sb (tS X E b)):PS X (.If c sa sb pos) (tS X E (sIf t a b)):=by
 refine PS.imp (ps_if hc ha hb) ?_
 rintro D σ H ⟨μ,ρ,st,rs,sr,h⟩
 refine goS (R1:=RB) μ ρ st rs sr h fun u st1 ρ1 H1 x e1 sr1 r1 h1 => ?_
 cases r1
 cases u with
 | true => rw [if_pos rfl]; exact ⟨μ,ρ1,st1,rs.mono e1,sr1,h1⟩
 | false => rw [if_neg Bool.false_ne_true]; exact ⟨μ,ρ1,st1,rs.mono e1,sr1,h1⟩
theorem set_read {i:Nat} {D:Ends} {σ:St} {H:Hp} (h:tS X E (sSet i m) D σ H):tAsg (tE X E m) (gName i) D σ H:=by
 refine bcn fun hNO => ?_
 obtain ⟨μ,ρ,st,rs,sr,h⟩:=h
 refine hNO ?_; clear hNO
 exact goS μ ρ st rs sr h fun u st1 ρ1 H1 x e1 sr1 r1 h1 => h1 ρ1 H1 _ (Step.refl _ _) sr1 ((rs.mono e1).set i r1)
theorem ms_set (i:Nat) {x:Str} {pos':Pos} (hN:X.N.Nodup) (he:PE X e (tE X E m)) (hi:X.N[i]? = some x:=by rfl) (hx:Loc X.env.scope x:=by first | exact Or.inl rfl | exact Or.inr rfl) (hs:swapsWith e (some (.Name x pos')) pos.line X.env = pure false:=by rfl)
  (hf:X.fn x = true ∨ X.env.scope.names.lookup x = some .local:=by first | exact .inl rfl | exact .inr rfl | assumption):PS X (.Assign [.Name x pos'] e pos) (tS X E (sSet i m)) :=
 PS.imp (ps_set hN hi hx he hs hf) fun _ _ _ h => set_read h
theorem ms_raise {x:Str} {C:Addr} {B newId initId:String} {bm:List Value} {np cpos:Pos} {e₀:Expr} {es:List Expr} {ms:MA} (hX:Raises X E) (hc:X.calm = true) (hm:X.mg x = some (.ref C)) (hq:PySem.W.excIn X.K C bm newId = true) (FB:ExcBaseFacts B newId initId bm) (hg:Gl X x) (ha:PA X (e₀ :: es) (tL X E ms))
  (he:starEach (e₀ :: es) X.env = (false,eval e₀ X.env) :: starEach es X.env:=by rfl) (hpl:(backTo cpos (starEach es X.env)).any (·.1) = false:=by rfl) (hd:(x == ("__debug__":Str)) = false:=by decide) :
  PS X (.Raise (some (.Call (.Name x np) (e₀ :: es) [] cpos)) none pos) (tS X E (sRaise x ms)):=by
 refine PS.imp (ps_raise (E:=E) hX hc hm hq FB hg ha he hpl hd) ?_
 rintro D σ H ⟨μ,ρ,st,rs,sr,h⟩
 refine goS (R1:=Rls X.K) μ ρ st rs sr h fun us st1 ρ1 H1 xs e1 sr1 r1 h1 => ?_
 by_cases hz:us.length ≤ sizeLine
 ·rw [if_pos hz] at h1
  obtain ⟨C',q1,q2⟩:=h1
  have e:C' = C:=by
   have:=q1.symm.trans hm
   injection this with this
   injection this
  subst e
  exact ⟨by rw [← r1.length]; exact hz,q2 ρ1 H1 (Step.refl _ _) sr1⟩
 ·rw [if_neg hz] at h1; exact h1.elim
end
noncomputable def fnM (np n:Nat) (body:MB):FN:=fun us st => if us.length = np then (match body (us.map some ++ List.replicate (n - np) none) st with
 | .nx _ st' => .ok .non st'
 | .rt v st' => .ok v st'
 | .er c _ st' => .err c st'
 | _ => .bad) else .bad
theorem RS.start {W:Wo} {ρ:List Addr} {H:Hp} {N:List Str} {us:List Val} {vs:List V} (r:Rls W.K ρ H us vs):RS W ρ H (us.map some ++ List.replicate (N.length - us.length) none) (L2.start N vs):=by
 have hl:=r.length
 refine ⟨by simp [L2.start,hl],fun i u e => ?_⟩
 rcases Nat.lt_or_ge i us.length with q | q
 ·rw [List.getElem?_append_left (by rw [List.length_map]; exact q),List.getElem?_map] at e
  have e':us[i]? = some u:=by
   cases z:us[i]? with
   | none => rw [z] at e; cases e
   | some w => rw [z] at e; exact congrArg _ (Option.some.inj (Option.some.inj e))
  obtain ⟨v,h1,h2⟩:=r.get e'
  refine ⟨v,?_,RlE.of h2⟩
  unfold L2.start
  rw [List.getElem?_append_left (by rw [List.length_map,← hl]; exact q),List.getElem?_map,h1]
  rfl
 ·rw [List.getElem?_append_right (by rw [List.length_map]; exact q)] at e
  rw [List.getElem?_replicate] at e
  split at e
  ·cases e
  ·cases e
section
variable {P:Program} {w:World} {K:PySem.W.Frag} {mg:Str → Option Value} {base:Heap}
theorem fn_okM {x qual:Str} {st:Stmt} {f:Addr} {fd:FuncData} {N ps:List Str} {k:Nat} {body:MB} (F:Fun K x qual st f fd) (S:FnScope N ps (defScope st))
  (h:∀ (cdv:Value) (A:Around) (outer:List PySem.Env) (s:Shared) (H:Hp) (E:XK),Room k (A.deeper (envOfC qual (defScope st) s.heap.objs.size f cdv)) →
   PSs (cxOf (CX1 P w) P w K mg base N qual (defScope st) f cdv A outer s H E) (defBody st) (tS (cxOf (CX1 P w) P w K mg base N qual (defScope st) f cdv A outer s H E) E body)) :
  FnOk P w K mg base (CX1 P w) (k + 1) f fd ps (spM ⟨K,mg,[]⟩ (fnM ps.length N.length body)):=by
 refine F.okX S (fun vs H Q E q => ?_) (fun cdv A outer s H vs Q E hr q => ⟨_,h cdv A outer s H E hr,?_⟩)
 ·refine bcn fun hNO => ?_
  obtain ⟨us,ρ,st,r,sr,q⟩:=q
  refine hNO ?_; clear hNO
  by_cases hl:us.length = ps.length
  ·rw [← r.length]; exact hl
  ·unfold fnM at q; rw [if_neg hl] at q; exact q.elim
 ·refine bcn fun hNO => ?_
  obtain ⟨us,ρ,st',r,sr,q⟩:=q
  unfold fnM at q
  refine hNO ?_; clear hNO
  by_cases hl:us.length = ps.length
  ·rw [if_pos hl,← hl] at q
   refine ⟨_,ρ,st',RS.start r,sr,?_⟩
   revert q
   cases body (us.map some ++ List.replicate (N.length - us.length) none) st' with
   | nx μ st2 => exact fun q ρ' H' σ' e s _ => q ρ' H' .non e s Rl.mkNon
   | rt v st2 => exact fun q => q
   | er c μ st2 => exact fun q => q
   | bk μ st2 => exact fun q => q.elim
   | ct μ st2 => exact fun q => q.elim
   | bad => exact fun q => q.elim
  ·rw [if_neg hl] at q; exact q.elim
end
end MN
namespace MN
open PySem PySem.Spec L2
open PyProof.Rows hiding St
noncomputable def Sz (i:Int):Prop:=i.natAbs.log2 < 1000000
noncomputable instance (i:Int):Decidable (Sz i):=inferInstanceAs (Decidable (_ < _))
theorem Sz.big {i:Int} (h:Sz i):Big 1000001 i:=by
 show _ < _
 have h1:i.natAbs < 2 ^ (i.natAbs.log2 + 1):=Nat.lt_log2_self
 exact Nat.lt_of_lt_of_le h1 (Nat.pow_le_pow_right (by decide) (by have:i.natAbs.log2 < 1000000:=h; lia))
theorem Sz.of {k:Nat} {i:Int} (h:Big k i) (hk:k ≤ 1000000):Sz i:=by
 show i.natAbs.log2 < 1000000
 have h':i.natAbs < 2 ^ k:=h
 by_cases z:i.natAbs = 0
 ·rw [z]; decide
 ·exact Nat.lt_of_lt_of_le ((Nat.log2_lt z).mpr h') hk
theorem Sz.mul {i j:Int} (h:Sz i) (k:Sz j):CMulB i j:=⟨_,_,h.big,k.big,by decide,by decide⟩
noncomputable def Dz (i:Int):Prop:=i ≠ 0 ∧ i.natAbs.log2 < 8000
noncomputable instance (i:Int):Decidable (Dz i):=inferInstanceAs (Decidable (_ ∧ _))
theorem Dz.ok {i j:Int} (h:Dz j):CDivB i j:=by
 refine ⟨h.1,?_⟩
 show _ < _
 have h1:j.natAbs < 2 ^ (j.natAbs.log2 + 1):=Nat.lt_log2_self
 exact Nat.lt_of_lt_of_le h1 (Nat.pow_le_pow_right (by decide) (by have:=h.2; lia))
theorem Dz.of {k:Nat} {i:Int} (h0:i ≠ 0) (h:Big k i) (hk:k ≤ 8000):Dz i:=by
 refine ⟨h0,?_⟩
 have h':i.natAbs < 2 ^ k:=h
 exact Nat.lt_of_lt_of_le ((Nat.log2_lt (by lia)).mpr h') hk
noncomputable def MulOk (i j:Int):Prop:=(Sz i ∧ Sz j) ∨ CMul i j
noncomputable instance (i j:Int):Decidable (CMul i j):=inferInstanceAs (Decidable (_ ∨ _))
noncomputable instance (i j:Int):Decidable (MulOk i j):=inferInstanceAs (Decidable (_ ∨ _))
noncomputable instance (i j:Int):Decidable (CPow i j):=inferInstanceAs (Decidable (_ ∧ _ ∧ _))
noncomputable def repsV (k:Nat) (us:List Val):List Val:=(List.replicate k us).flatten
noncomputable def addV:F2
 | .int i,.int j,st => .ok (.int (i + j)) st
 | .str a,.str b,st => if a.length + b.length ≤ sizeLine then .ok (.str (a ++ b)) st else .bad
 | .tup us,.tup ws,st => if us.length + ws.length ≤ sizeLine then .ok (.tup (us ++ ws)) st else .bad
 | .loc n,.loc m,st => match st[n]?,st[m]? with
  | some (.lst us),some (.lst ws) => if us.length + ws.length ≤ sizeLine then .ok (.loc st.length) (st ++ [.lst (us ++ ws)]) else .bad
  | _,_ => .bad
 | _,_,_ => .bad
noncomputable def int2 (g:Int → Int → Store → Res Val):F2
 | .int i,.int j,st => g i j st
 | _,_,_ => .bad
theorem int2_or (g:Int → Int → Store → Res Val) (u w:Val) (st:Store):(∃ i j,u = .int i ∧ w = .int j) ∨ int2 g u w st = .bad:=by
 cases u with
 | int i =>
  cases w with
  | int j => exact .inl ⟨i,j,rfl,rfl⟩
  | _ => exact .inr rfl
 | _ => exact .inr rfl
theorem int2_go {g:Int → Int → Store → Res Val} {W:Wo} {E:XK} {ρ:List Addr} {st:Store} {H:Hp} {Q:VK} {u w:Val} (h:wR W E (Rl W.K) ρ H Q (int2 g u w st)):∃ i j,u = .int i ∧ w = .int j ∧ wR W E (Rl W.K) ρ H Q (g i j st):=by
 rcases int2_or g u w st with ⟨i,j,rfl,rfl⟩ | z
 ·exact ⟨i,j,rfl,rfl,h⟩
 ·rw [z] at h; exact h.elim
noncomputable def subV:F2:=int2 fun i j st => .ok (.int (i - j)) st
noncomputable def mulV:F2
 | .int i,.int j,st => if MulOk i j then .ok (.int (i * j)) st else .bad
 | .loc n,.int k,st => match st[n]? with
  | some (.lst us) => if -(2 ^ 63) ≤ k ∧ k < 2 ^ 63 ∧ us.length * k.toNat ≤ sizeLine then .ok (.loc st.length) (st ++ [.lst (repsV k.toNat us)]) else .bad
  | _ => .bad
 | _,_,_ => .bad
noncomputable def fdivV:F2:=int2 fun i j st => if Dz j then .ok (.int (i.fdiv j)) st else .bad
noncomputable def modV:F2:=int2 fun i j st => if j = 0 then .bad else .ok (.int (i.fmod j)) st
noncomputable def powV:F2:=int2 fun i j st => if CPow i j then .ok (.int (i ^ j.toNat)) st else .bad
noncomputable def ltV:F2:=int2 fun i j st => .ok (.bl (decide (i < j))) st
noncomputable def leV:F2:=int2 fun i j st => .ok (.bl (decide (i ≤ j))) st
noncomputable def gtV:F2:=int2 fun i j st => .ok (.bl (decide (j < i))) st
theorem tells_le:Tells leV:=fun u w st => (int2_or _ u w st).elim (fun ⟨_,_,e1,e2⟩ => .inr (by rw [e1,e2]; exact ⟨_,rfl⟩)) .inl
section
variable {X:Cx} {E:XK}
theorem fin_int {W:Wo} {ρ:List Addr} {st:Store} {H:Hp} {Q:VK} {i:Int} (sr:SR W.K ρ st H) (h:wR W E (Rl W.K) ρ H Q (.ok (.int i) st)):Q (.int i) H:=h ρ H _ (Step.refl _ _) sr (Rl.mkInt i)
theorem fin_b {W:Wo} {ρ:List Addr} {st:Store} {H:Hp} {Q:VK} {i:Bool} (sr:SR W.K ρ st H) (h:wR W E (Rl W.K) ρ H Q (.ok (.bl i) st)):Q (.bl i) H:=h ρ H _ (Step.refl _ _) sr (Rl.mkBl i)
theorem Rls.reps {K:PySem.W.Frag} {ρ:List Addr} {H:Hp} {us:List Val} {xs:List V} (r:Rls K ρ H us xs):∀ k:Nat,Rls K ρ H (repsV k us) (List.replicate k xs).flatten
 | 0 => Rls.nil
 | k + 1 => by
  unfold repsV
  rw [List.replicate_succ,List.replicate_succ,List.flatten_cons,List.flatten_cons]
  exact r.append (Rls.reps r k)
theorem op_catT0:OpR X (binaryOp .Add) (fun x y H Q => ∃ a b ys,x = .ref a ∧ y = .ref b ∧ SqT X.K H a [] ∧ SqT X.K H b ys ∧ Q (.ref b) H):=by
 intro pins s σ H x y v u Q I rx ry h
 refine bcn fun hNO => ?_
 obtain ⟨a,b,ys,rfl,rfl,ha,hb,q⟩:=h
 cases rx
 cases ry
 obtain ⟨its,r1,p1,_⟩:=I.tuple ha
 obtain ⟨its2,r2,p2,_⟩:=I.tuple hb
 cases r1
 obtain ⟨⟨cls,dd,data,sl⟩,ho,hc,n,hd⟩:=id p1
 obtain ⟨⟨cls2,dd2,data2,sl2⟩,ho2,hc2,n2,hd2⟩:=id p2
 refine hNO ?_; clear hNO
 simp only at hc hd hc2 hd2
 subst hc hd hc2 hd2
 exact concat_meets ⟨_,ho,rfl⟩ ⟨_,ho2,rfl⟩ noFill_tuple_add seq_tuple_add PySem.F.slot_tuple_add PySem.F.entry_tuple_add (PySem.F.args_tuple_add_2 _ _)
  (tuple_addW0 a b #[] its2.toArray n n2 dd dd2 sl sl2 (by simp)) ⟨ho,ho2,⟨.ref b,H,I,rfl,q⟩⟩
theorem op_addM:OpR X (binaryOp .Add) (rM (wo X) E addV):=by
 refine OpR.imp (OpR.or op_add (OpR.or op_add_str (OpR.or op_cat (OpR.or op_catT op_catT0)))) ?_
 rintro x y H Q ⟨ρ,st,u,w,sr,r1,r2,h⟩
 cases u <;> cases w <;> try exact h.elim
 case int.int i j => exact .inl ⟨i,j,r1.int_,r2.int_,fin_int sr h⟩
 case str.str a b =>
  unfold addV at h
  dsimp only at h
  split at h
  ·rename_i hz
   exact .inr (.inl ⟨a,b,r1.str_,r2.str_,hz,h ρ H _ (Step.refl _ _) sr (Rl.mkStr _)⟩)
  ·exact h.elim
 case tup.tup us ws =>
  unfold addV at h
  dsimp only at h
  split at h
  ·rename_i hz
   refine bcn fun hNO => ?_
   obtain ⟨a,xs,rfl,ha,ra⟩:=r1.tup_
   obtain ⟨b,ys,rfl,hb,rb⟩:=r2.tup_
   refine hNO ?_; clear hNO
   by_cases hx:xs = []
   ·subst hx
    have hu:us = []:=List.eq_nil_of_length_eq_zero ra.length
    subst hu
    exact .inr (.inr (.inr (.inr ⟨a,b,ys,rfl,rfl,ha,hb,h ρ H _ (Step.refl _ _) sr r2⟩)))
   ·refine .inr (.inr (.inr (.inl ⟨a,b,xs,ys,rfl,rfl,ha,hb,hx,by rw [← ra.length,← rb.length]; exact hz,fun hy => ?_,fun hy p hp => ?_⟩)))
    ·subst hy
     have hw:ws = []:=List.eq_nil_of_length_eq_zero rb.length
     subst hw
     rw [List.append_nil] at h
     exact h ρ H _ (Step.refl _ _) sr r1
    ·have s:=same_upd (o:=.tup (xs ++ ys)) hp
     exact h ρ _ _ (Step.same s) (sr.grow s) (Rl.mkTup upd_same (Rls.mono (Step.same s) _ _ (ra.append rb)))
  ·exact h.elim
 case loc.loc n m =>
  unfold addV at h
  dsimp only at h
  split at h
  ·rename_i us ws e1 e2
   split at h
   ·rename_i hz
    refine bcn fun hNO => ?_
    obtain ⟨a,rfl,ha⟩:=r1.loc_
    obtain ⟨b,rfl,hb⟩:=r2.loc_
    obtain ⟨xs,h1,q1⟩:=sr.cell n _ a e1 ha
    obtain ⟨ys,h2,q2⟩:=sr.cell m _ b e2 hb
    refine hNO ?_; clear hNO
    refine .inr (.inr (.inl ⟨a,b,xs,ys,rfl,rfl,h1,h2,by rw [← q1.length,← q2.length]; exact hz,fun p hp => ?_⟩))
    refine bcn fun hNO => ?_
    obtain ⟨k1,k2,k3⟩:=new_lst sr (q1.append q2) hp
    refine hNO ?_; clear hNO
    exact h _ _ _ k1 k2 k3
   ·exact h.elim
  ·exact h.elim
theorem op_subM:OpR X (binaryOp .Sub) (rM (wo X) E subV):=by
 refine OpR.imp op_sub ?_
 rintro x y H Q ⟨ρ,st,u,w,sr,r1,r2,h⟩
 refine bcn fun hNO => ?_
 obtain ⟨i,j,rfl,rfl,q⟩:=int2_go h
 refine hNO ?_; clear hNO
 exact ⟨i,j,r1.int_,r2.int_,fin_int sr q⟩
theorem op_mulM:OpR X (binaryOp .Mult) (rM (wo X) E mulV):=by
 refine OpR.imp (OpR.or op_mulB (OpR.or op_mul op_rep)) ?_
 rintro x y H Q ⟨ρ,st,u,w,sr,r1,r2,h⟩
 cases u <;> cases w <;> try exact h.elim
 case int.int i j =>
  unfold mulV at h
  dsimp only at h
  split at h
  ·rename_i hz
   rcases hz with hz | hz
   ·exact .inl ⟨i,j,r1.int_,r2.int_,hz.1.mul hz.2,fin_int sr h⟩
   ·exact .inr (.inl ⟨i,j,r1.int_,r2.int_,hz,fin_int sr h⟩)
  ·exact h.elim
 case loc.int n k =>
  unfold mulV at h
  dsimp only at h
  split at h
  ·rename_i us e1
   split at h
   ·rename_i hz
    refine bcn fun hNO => ?_
    obtain ⟨a,rfl,ha⟩:=r1.loc_
    obtain ⟨xs,h1,q1⟩:=sr.cell n _ a e1 ha
    refine hNO ?_; clear hNO
    refine .inr (.inr ⟨a,k,xs,rfl,r2.int_,h1,hz.1,hz.2.1,by rw [← q1.length]; exact hz.2.2,fun p hp => ?_⟩)
    refine bcn fun hNO => ?_
    obtain ⟨k1,k2,k3⟩:=new_lst sr (q1.reps k.toNat) hp
    refine hNO ?_; clear hNO
    exact h _ _ _ k1 k2 k3
   ·exact h.elim
  ·exact h.elim
theorem op_fdivM:OpR X (binaryOp .FloorDiv) (rM (wo X) E fdivV):=by
 refine OpR.imp op_fdivB ?_
 rintro x y H Q ⟨ρ,st,u,w,sr,r1,r2,h⟩
 refine bcn fun hNO => ?_
 obtain ⟨i,j,rfl,rfl,h0⟩:=int2_go h
 clear h
 have h:=h0
 refine hNO ?_; clear hNO
 clear h0
 ·split at h
  ·rename_i hz
   exact ⟨i,j,r1.int_,r2.int_,hz.ok,fin_int sr h⟩
  ·exact h.elim
theorem op_modM:OpR X (binaryOp .Mod) (rM (wo X) E modV):=by
 refine OpR.imp op_modN ?_
 rintro x y H Q ⟨ρ,st,u,w,sr,r1,r2,h⟩
 refine bcn fun hNO => ?_
 obtain ⟨i,j,rfl,rfl,h0⟩:=int2_go h
 clear h
 have h:=h0
 refine hNO ?_; clear hNO
 clear h0
 ·split at h
  ·exact h.elim
  ·rename_i hz
   exact ⟨i,j,r1.int_,r2.int_,hz,fin_int sr h⟩
theorem op_powM:OpR X (binaryOp .Pow) (rM (wo X) E powV):=by
 refine OpR.imp op_pow ?_
 rintro x y H Q ⟨ρ,st,u,w,sr,r1,r2,h⟩
 refine bcn fun hNO => ?_
 obtain ⟨i,j,rfl,rfl,h0⟩:=int2_go h
 clear h
 have h:=h0
 refine hNO ?_; clear hNO
 clear h0
 ·split at h
  ·rename_i hz
   exact ⟨i,j,r1.int_,r2.int_,hz,fin_int sr h⟩
  ·exact h.elim
theorem op_ltM:OpR X (compareOp .Lt) (rM (wo X) E ltV):=by
 refine OpR.imp op_lt ?_
 rintro x y H Q ⟨ρ,st,u,w,sr,r1,r2,h⟩
 refine bcn fun hNO => ?_
 obtain ⟨i,j,rfl,rfl,q⟩:=int2_go h
 refine hNO ?_; clear hNO
 exact ⟨i,j,r1.int_,r2.int_,fin_b sr q⟩
theorem op_leM:OpR X (compareOp .LtE) (rM (wo X) E leV):=by
 refine OpR.imp op_le ?_
 rintro x y H Q ⟨ρ,st,u,w,sr,r1,r2,h⟩
 refine bcn fun hNO => ?_
 obtain ⟨i,j,rfl,rfl,q⟩:=int2_go h
 refine hNO ?_; clear hNO
 exact ⟨i,j,r1.int_,r2.int_,fin_b sr q⟩
theorem op_gtM:OpR X (compareOp .Gt) (rM (wo X) E gtV):=by
 refine OpR.imp op_gt ?_
 rintro x y H Q ⟨ρ,st,u,w,sr,r1,r2,h⟩
 refine bcn fun hNO => ?_
 obtain ⟨i,j,rfl,rfl,q⟩:=int2_go h
 refine hNO ?_; clear hNO
 exact ⟨i,j,r1.int_,r2.int_,fin_b sr q⟩
noncomputable def mNeg (m:ME):ME:=fun μ st => (m μ st).bind fun v st' => match v with
 | .int i => .ok (.int (-i)) st'
 | _ => .bad
theorem me_neg {a:Expr} {m:ME} {pos:Pos} (h:PE X a (tE X E m)):PE X (.UnaryOp .USub a pos) (tE X E (mNeg m)):=by
 refine PE.imp (pe_un un_neg h) ?_
 rintro σ H Q ⟨μ,ρ,st,rs,sr,h⟩
 refine go μ ρ st rs sr h fun u st1 ρ1 H1 x e1 sr1 r1 h1 => ?_
 cases u with
 | int i => exact ⟨i,r1.int_,fin_int sr1 h1⟩
 | _ => exact h1.elim
end
noncomputable def flat:Val → Bool
 | .non => true
 | .bl _ => true
 | .int _ => true
 | .str _ => true
 | _ => false
noncomputable def eqF:Val → Val → Bool
 | .non,.non => true
 | .bl a,.bl b => a == b
 | .bl a,.int b => (if a then 1 else 0) == b
 | .int a,.bl b => a == (if b then 1 else 0)
 | .int a,.int b => a == b
 | .str a,.str b => a == b
 | _,_ => false
noncomputable def itemsOf (st:Store) (n:Nat):Option (List Val):=match st[n]? with
 | some (.lst us) => some us
 | some (.fro us) => some us
 | some (.mod us) => some us
 | _ => none
inductive Vw where
 | lst (us:List Val) | tup (us:List Val) | flt
noncomputable def vw (st:Store):Val → Option Vw
 | .tup us => some (.tup us)
 | .loc n => (itemsOf st n).map .lst
 | .non => some .flt
 | .bl _ => some .flt
 | .int _ => some .flt
 | .str _ => some .flt
 | _ => none
noncomputable def eqDs (f:Val → Val → Option Bool):List Val → List Val → Option Bool
 | [],[] => some true
 | x :: xs,y :: ys => match f x y,eqDs f xs ys with
  | some a,some b => some (a && b)
  | _,_ => none
 | [],_ :: _ => some false
 | _ :: _,[] => some false
noncomputable def eqD:Nat → Store → Val → Val → Option Bool
 | 0,_,_,_ => none
 | n + 1,st,u,w => match vw st u,vw st w with
  | some (.tup us),some (.tup ws) => eqDs (eqD n st) us ws
  | some (.lst us),some (.lst ws) => eqDs (eqD n st) us ws
  | some .flt,some .flt => some (eqF u w)
  | some _,some _ => some false
  | _,_ => none
theorem eqDs_len {f:Val → Val → Option Bool}:∀ {us ws:List Val} {b:Bool},eqDs f us ws = some b → us.length ≠ ws.length → b = false
 | [],[],_,_,h => absurd rfl h
 | [],_ :: _,b,e,_ => by injection e with e; exact e.symm
 | _ :: _,[],b,e,_ => by injection e with e; exact e.symm
 | x :: xs,y :: ys,b,e,h => by
  unfold eqDs at e
  split at e
  ·rename_i a c h1 h2
   injection e with e
   rw [← e,eqDs_len h2 (fun z => h (by simp [z])),Bool.and_false]
  ·cases e
theorem eqDs_at {f:Val → Val → Option Bool}:∀ {us ws:List Val} {b:Bool},eqDs f us ws = some b → ∀ (j:Nat) (u w:Val),us[j]? = some u → ws[j]? = some w → ∃ c,f u w = some c
 | [],_,_,_,j,u,w,h1,_ => by cases h1
 | _ :: _,[],_,_,j,u,w,_,h2 => by cases h2
 | x :: xs,y :: ys,b,e,j,u,w,h1,h2 => by
  unfold eqDs at e
  split at e
  ·rename_i a c q1 q2
   cases j with
   | zero => cases h1; cases h2; exact ⟨a,q1⟩
   | succ j => exact eqDs_at q2 j u w h1 h2
  ·cases e
noncomputable def eqJ (f:Val → Val → Option Bool) (us ws:List Val) (j:Nat):Bool:=match us[j]?,ws[j]? with
 | some u,some w => (f u w).getD true
 | _,_ => true
theorem eqDs_all {f:Val → Val → Option Bool}:∀ {us ws:List Val} {b:Bool},eqDs f us ws = some b → us.length = ws.length → (List.range us.length).all (eqJ f us ws) = b
 | [],[],b,e,_ => by injection e
 | [],_ :: _,_,_,h => by simp at h
 | _ :: _,[],_,_,h => by simp at h
 | x :: xs,y :: ys,b,e,h => by
  have h':xs.length = ys.length:=by simpa using h
  unfold eqDs at e
  split at e
  ·rename_i a c q1 q2
   injection e with e
   rw [List.length_cons,List.range_succ_eq_map,List.all_cons,List.all_map,← e,← eqDs_all q2 h']
   congr 1
   show (f x y).getD true = a
   rw [q1]; rfl
  ·cases e
section
variable {X:Cx} {pins:List (Addr × Obj)} {σ:St} {H:Hp} {s:Shared} {ρ:List Addr} {st:Store}
theorem itemsOf_sq (sr:SR X.K ρ st H) {n:Nat} {us:List Val} {a:Addr} (h:itemsOf st n = some us) (ha:ρ[n]? = some a):∃ vs,SqL X.K H a vs ∧ Rls X.K ρ H us vs:=by
 unfold itemsOf at h
 split at h
 ·rename_i ws e
  refine bcn fun hNO => ?_
  cases h
  obtain ⟨vs,h1,h2⟩:=sr.cell n _ a e ha
  refine hNO ?_; clear hNO
  exact ⟨vs,SqL.of h1,h2⟩
 ·rename_i ws e
  refine bcn fun hNO => ?_
  cases h
  obtain ⟨o,vs,h1,h2⟩:=sr.cell n _ a e ha
  refine hNO ?_; clear hNO
  exact ⟨vs,.inl (.inr ⟨o,h1⟩),h2⟩
 ·rename_i ws e
  refine bcn fun hNO => ?_
  cases h
  obtain ⟨vs,h1,h2⟩:=sr.cell n _ a e ha
  refine hNO ?_; clear hNO
  exact ⟨vs,.inr h1,h2⟩
 ·cases h
theorem same_eq (I:Inv X pins σ H s) (sr:SR X.K ρ st H):∀ (n:Nat) (u w:Val) (x:V) (b:Bool),Rl X.K ρ H u x → Rl X.K ρ H w x → eqD n st u w = some b → b = true
 | 0,_,_,_,_,_,_,e => by cases e
 | n + 1,u,w,x,b,r1,r2,e => by
  have lst:∀ (us ws:List Val) (vs:List V) (b:Bool),Rls X.K ρ H us vs → Rls X.K ρ H ws vs → eqDs (eqD n st) us ws = some b → b = true:=by
   intro us
   induction us with
   | nil =>
    intro ws vs b h1 h2 e
    have:=h1.unnil
    subst this
    have hw:ws = []:=List.eq_nil_of_length_eq_zero h2.length
    subst hw
    injection e with e; exact e.symm
   | cons u us ih =>
    intro ws vs b h1 h2 e
    obtain ⟨v,r,rfl,q1,q2⟩:=h1.uncons
    cases ws with
    | nil => have:=h2.unnil; cases this
    | cons w ws =>
     obtain ⟨v',r',e',q3,q4⟩:=h2.uncons
     cases e'
     unfold eqDs at e
     split at e
     ·rename_i a c z1 z2
      injection e with e
      rw [← e,same_eq I sr n u w v a q1 q3 z1,ih ws r c q2 q4 z2]; rfl
     ·cases e
  unfold eqD at e
  cases u <;> cases w <;> dsimp only [vw] at e <;> try (cases e; done)
  all_goals first
   | (have z1:=Rl.int_ r1; subst z1; have z2:=Rl.int_ r2; cases z2; injection e with e; rw [← e]; exact beq_self_eq_true _)
   | (have z1:=Rl.bl_ r1; subst z1; have z2:=Rl.bl_ r2; cases z2; injection e with e; rw [← e]; exact beq_self_eq_true _)
   | (have z1:=Rl.str_ r1; subst z1; have z2:=Rl.str_ r2; cases z2; injection e with e; rw [← e]; exact beq_self_eq_true _)
   | (have z1:=Rl.non_ r1; subst z1; injection e with e; exact e.symm)
   | skip
  case tup.tup us ws =>
   obtain ⟨a,vs,rfl,ha,ra⟩:=r1.tup_
   obtain ⟨a',vs',ea,hb,rb⟩:=r2.tup_
   cases ea
   have:=I.tuple_inj ha hb
   subst this
   exact lst us ws vs b ra rb e
  case loc.loc i j =>
   obtain ⟨a,rfl,ha⟩:=r1.loc_
   obtain ⟨a',ea,hb⟩:=r2.loc_
   cases ea
   cases z:itemsOf st i with
   | none => rw [z] at e; cases e
   | some us =>
    cases z2:itemsOf st j with
    | none => rw [z,z2] at e; cases e
    | some ws =>
     rw [z,z2] at e
     obtain ⟨vs,s1,rv⟩:=itemsOf_sq sr z ha
     obtain ⟨vs',s2,rv'⟩:=itemsOf_sq sr z2 hb
     have:=I.list_inj s1 s2
     subst this
     exact lst us ws vs b rv rv' e
  all_goals (exfalso; first
   | (have z1:=Rl.int_ r1; subst z1; first | (have z2:=Rl.bl_ r2; cases z2; done) | (have z2:=Rl.str_ r2; cases z2; done) | (have z2:=Rl.non_ r2; cases z2; done) | (obtain ⟨_,_,z2,_⟩:=r2.tup_; cases z2; done) | (obtain ⟨_,z2,_⟩:=r2.loc_; cases z2; done))
   | (have z1:=Rl.bl_ r1; subst z1; first | (have z2:=Rl.int_ r2; cases z2; done) | (have z2:=Rl.str_ r2; cases z2; done) | (have z2:=Rl.non_ r2; cases z2; done) | (obtain ⟨_,_,z2,_⟩:=r2.tup_; cases z2; done) | (obtain ⟨_,z2,_⟩:=r2.loc_; cases z2; done))
   | (have z1:=Rl.str_ r1; subst z1; first | (have z2:=Rl.int_ r2; cases z2; done) | (have z2:=Rl.bl_ r2; cases z2; done) | (have z2:=Rl.non_ r2; cases z2; done) | (obtain ⟨_,_,z2,_⟩:=r2.tup_; cases z2; done) | (obtain ⟨_,z2,_⟩:=r2.loc_; cases z2; done))
   | (have z1:=Rl.non_ r1; subst z1; first | (have z2:=Rl.int_ r2; cases z2; done) | (have z2:=Rl.bl_ r2; cases z2; done) | (have z2:=Rl.str_ r2; cases z2; done) | (obtain ⟨_,_,z2,_⟩:=r2.tup_; cases z2; done) | (obtain ⟨_,z2,_⟩:=r2.loc_; cases z2; done))
   | (obtain ⟨_,_,z1,_⟩:=r1.tup_; subst z1; first | (have z2:=Rl.int_ r2; cases z2; done) | (have z2:=Rl.bl_ r2; cases z2; done) | (have z2:=Rl.str_ r2; cases z2; done) | (have z2:=Rl.non_ r2; cases z2; done))
   | (obtain ⟨_,z1,_⟩:=r1.loc_; subst z1; first | (have z2:=Rl.int_ r2; cases z2; done) | (have z2:=Rl.bl_ r2; cases z2; done) | (have z2:=Rl.str_ r2; cases z2; done) | (have z2:=Rl.non_ r2; cases z2; done))
   | skip)
  case tup.loc us j =>
   obtain ⟨a,vs,rfl,ha,ra⟩:=r1.tup_
   obtain ⟨a',ea,hb⟩:=r2.loc_
   cases ea
   cases z:itemsOf st j with
   | none => rw [z] at e; cases e
   | some us' =>
    obtain ⟨ws,hw,_⟩:=itemsOf_sq sr z hb
    obtain ⟨_,_,p1,_⟩:=I.tuple ha
    obtain ⟨_,_,p2,_⟩:=I.list hw
    exact SeqAt.ne_of_list_tuple p2.isList p1 rfl
  case loc.tup i us =>
   obtain ⟨a,rfl,ha⟩:=r1.loc_
   obtain ⟨a',vs,ea,hb,rb⟩:=r2.tup_
   cases ea
   cases z:itemsOf st i with
   | none => rw [z] at e; cases e
   | some us' =>
    obtain ⟨ws,hw,_⟩:=itemsOf_sq sr z ha
    obtain ⟨_,_,p1,_⟩:=I.tuple hb
    obtain ⟨_,_,p2,_⟩:=I.list hw
    exact SeqAt.ne_of_list_tuple p2.isList p1 rfl
  all_goals (cases z:itemsOf st _ <;> rw [z] at e <;> cases e)
noncomputable def SeenV (X:Cx) (ρ:List Addr) (H:Hp) (s:Shared):Vw → Val → Value → Prop
 | .tup us,_,v => ∃ a its vs,v = .ref a ∧ s.heap.IsTuple a (List.toArray its) ∧ Vals vs its ∧ Rls X.K ρ H us vs
 | .lst us,_,v => ∃ a its vs,v = .ref a ∧ s.heap.IsList a (List.toArray its) ∧ Vals vs its ∧ Rls X.K ρ H us vs
 | .flt,u,v => (u = .non ∧ v = .none) ∨ (∃ b,u = .bl b ∧ v = .bool b) ∨ (∃ i t,u = .int i ∧ v = .int i t) ∨ (∃ z t,u = .str z ∧ v = .str z t)
theorem seen (I:Inv X pins σ H s) (sr:SR X.K ρ st H) {u:Val} {x:V} {v:Value} {k:Vw} (r:Rl X.K ρ H u x) (q:RelV x v) (h:vw st u = some k):SeenV X ρ H s k u v:=by
 cases u with
 | non => cases h; have:=r.non_; subst this; exact .inl ⟨rfl,q⟩
 | bl b => cases h; have:=r.bl_; subst this; exact .inr (.inl ⟨b,rfl,q⟩)
 | int i => cases h; have:=r.int_; subst this; obtain ⟨t,q⟩:=q; exact .inr (.inr (.inl ⟨i,t,rfl,q⟩))
 | str z => cases h; have:=r.str_; subst this; obtain ⟨t,q⟩:=q; exact .inr (.inr (.inr ⟨z,t,rfl,q⟩))
 | tup us =>
  refine bcn fun hNO => ?_
  cases h
  obtain ⟨a,vs,rfl,ha,ra⟩:=r.tup_
  obtain ⟨its,r1,p1,_⟩:=I.tuple ha
  refine hNO ?_; clear hNO
  exact ⟨a,its,vs,q,p1,r1,ra⟩
 | loc n =>
  refine bcn fun hNO => ?_
  obtain ⟨a,rfl,ha⟩:=r.loc_
  refine hNO ?_; clear hNO
  cases z:itemsOf st n with
  | none => simp only [vw,z] at h; cases h
  | some us =>
   refine bcn fun hNO => ?_
   simp only [vw,z] at h
   cases h
   obtain ⟨vs,hs,rv⟩:=itemsOf_sq sr z ha
   obtain ⟨its,r1,p1,_⟩:=I.list hs
   refine hNO ?_; clear hNO
   exact ⟨a,its,vs,q,p1.isList,r1,rv⟩
 | exc c => cases h
 | fn k c => cases h
 | mt us => cases h
theorem els_of {A:Around} {f:Val → Val → Option Bool} {us ws:List Val} {xs ys:List V} {its its2:List Value} {b:Bool} (e:eqDs f us ws = some b) (ra:Rls X.K ρ H us xs) (rb:Rls X.K ρ H ws ys) (va:Vals xs its) (vb:Vals ys its2)
  (ih:∀ u w x y vu vw c,Rl X.K ρ H u x → RelV x vu → Rl X.K ρ H w y → RelV y vw → f u w = some c → SeqAt.EqAt A s vu vw c) :
  ∀ j (h1:j < its.toArray.size) (h2:j < its2.toArray.size),SeqAt.EqAt A s its.toArray[j] its2.toArray[j] (eqJ f us ws j):=by
 intro j h1 h2
 refine bcn fun hNO => ?_
 have l1:=va.length
 have l2:=vb.length
 have l3:=ra.length
 have l4:=rb.length
 simp only [List.size_toArray] at h1 h2
 have e1:us[j]? = some us[j]:=List.getElem?_eq_getElem (by omega)
 have e2:ws[j]? = some ws[j]:=List.getElem?_eq_getElem (by omega)
 obtain ⟨x,hx,rx⟩:=ra.get e1
 obtain ⟨y,hy,ry⟩:=rb.get e2
 obtain ⟨u,hu,ru⟩:=va.get hx
 obtain ⟨v,hv,rv⟩:=vb.get hy
 have q1:its.toArray[j] = u:=by
  obtain ⟨_,e⟩:=List.getElem?_eq_some_iff.mp hu
  simpa using e
 have q2:its2.toArray[j] = v:=by
  obtain ⟨_,e⟩:=List.getElem?_eq_some_iff.mp hv
  simpa using e
 obtain ⟨c,hc⟩:=eqDs_at e j _ _ e1 e2
 refine hNO ?_; clear hNO
 rw [q1,q2]
 unfold eqJ
 rw [e1,e2]
 dsimp only
 rw [hc]
 exact ih _ _ _ _ _ _ c rx ru ry rv hc
theorem in1_units (A:Around):A.in1.units = A.units + 1:=by rfl
theorem rc_M {A:Around} (I:Inv X pins σ H s) (sr:SR X.K ρ st H) (n:Nat) (ih:∀ u w x y vu vw c,Rl X.K ρ H u x → RelV x vu → Rl X.K ρ H w y → RelV y vw → eqD n st u w = some c → SeqAt.EqAt A.in1 s vu vw c) (hu:A.units < cLine)
  {u w:Val} {x y:V} {v1 v2:Value} {b:Bool} (r1:Rl X.K ρ H u x) (q1:RelV x v1) (r2:Rl X.K ρ H w y) (q2:RelV y v2) (e:eqD (n + 1) st u w = some b):SeqAt.RcAt A s v1 v2 b ∧ SeqAt.RcNeAt A s v1 v2 (!b):=by
 unfold eqD at e
 cases z1:vw st u with
 | none => rw [z1] at e; cases e
 | some k1 =>
  cases z2:vw st w with
  | none => rw [z1,z2] at e; cases k1 <;> cases e
  | some k2 =>
   rw [z1,z2] at e
   have s1:=seen I sr r1 q1 z1
   have s2:=seen I sr r2 q2 z2
   cases k1 with
   | tup us =>
    obtain ⟨a,its,xs,rfl,p1,va,ra⟩:=s1
    cases k2 with
    | tup ws =>
     obtain ⟨a2,its2,ys,rfl,p2,vb,rb⟩:=s2
     have el:=els_of e ra rb va vb ih
     have l1:=va.length
     have l2:=vb.length
     have l3:=ra.length
     have l4:=rb.length
     have hb:((List.range (min its.toArray.size its2.toArray.size)).all (eqJ (eqD n st) us ws) && its.toArray.size == its2.toArray.size) = b:=by
      by_cases hl:us.length = ws.length
      ·rw [show min its.toArray.size its2.toArray.size = us.length by simp only [List.size_toArray]; lia,eqDs_all e hl,show (its.toArray.size == its2.toArray.size) = true by simp only [List.size_toArray,beq_iff_eq]; lia,Bool.and_true]
      ·rw [show (its.toArray.size == its2.toArray.size) = false by simp only [List.size_toArray,beq_eq_false_iff_ne]; lia,Bool.and_false]
       exact (eqDs_len e hl).symm
     have g1:=SeqAt.RcAt.tuples p1 p2 hu el
     have g2:=SeqAt.RcNeAt.tuples p1 p2 hu el
     rw [hb] at g1 g2
     exact ⟨g1,g2⟩
    | lst ws =>
     obtain ⟨a2,its2,ys,rfl,p2,vb,rb⟩:=s2
     cases e
     exact ⟨SeqAt.RcAt.tuple_list p1 p2 hu,SeqAt.RcNeAt.tuple_list p1 p2 hu⟩
    | flt =>
     cases e
     rcases s2 with ⟨_,rfl⟩ | ⟨k,_,rfl⟩ | ⟨k,t,_,rfl⟩ | ⟨k,t,_,rfl⟩
     ·exact ⟨SeqAt.RcAt.tuple_none p1 hu,SeqAt.RcNeAt.tuple_none p1 hu⟩
     ·exact ⟨SeqAt.RcAt.tuple_bool _ p1 hu,SeqAt.RcNeAt.tuple_bool _ p1 hu⟩
     ·exact ⟨SeqAt.RcAt.tuple_int _ _ p1 hu,SeqAt.RcNeAt.tuple_int _ _ p1 hu⟩
     ·exact ⟨SeqAt.RcAt.tuple_str _ _ p1 hu,SeqAt.RcNeAt.tuple_str _ _ p1 hu⟩
   | lst us =>
    obtain ⟨a,its,xs,rfl,p1,va,ra⟩:=s1
    cases k2 with
    | tup ws =>
     obtain ⟨a2,its2,ys,rfl,p2,vb,rb⟩:=s2
     cases e
     exact ⟨SeqAt.RcAt.list_tuple p1 p2 hu,SeqAt.RcNeAt.list_tuple p1 p2 hu⟩
    | lst ws =>
     obtain ⟨a2,its2,ys,rfl,p2,vb,rb⟩:=s2
     have l1:=va.length
     have l2:=vb.length
     have l3:=ra.length
     have l4:=rb.length
     by_cases hl:us.length = ws.length
     ·have hs:its.toArray.size = its2.toArray.size:=by simp only [List.size_toArray]; lia
      have el:=els_of e ra rb va vb ih
      have g1:=SeqAt.RcAt.lists p1 p2 hs hu el
      have g2:=SeqAt.RcNeAt.lists p1 p2 hs hu el
      rw [show its.toArray.size = us.length by simp only [List.size_toArray]; lia,eqDs_all e hl] at g1 g2
      exact ⟨g1,g2⟩
     ·have hs:(its.toArray.size != its2.toArray.size) = true:=by simp only [List.size_toArray,bne_iff_ne]; lia
      rw [eqDs_len e hl]
      exact ⟨SeqAt.RcAt.lists_lengths p1 p2 hs hu,SeqAt.RcNeAt.lists_lengths p1 p2 hs hu⟩
    | flt =>
     cases e
     rcases s2 with ⟨_,rfl⟩ | ⟨k,_,rfl⟩ | ⟨k,t,_,rfl⟩ | ⟨k,t,_,rfl⟩
     ·exact ⟨SeqAt.RcAt.list_none p1 hu,SeqAt.RcNeAt.list_none p1 hu⟩
     ·exact ⟨SeqAt.RcAt.list_bool _ p1 hu,SeqAt.RcNeAt.list_bool _ p1 hu⟩
     ·exact ⟨SeqAt.RcAt.list_int _ _ p1 hu,SeqAt.RcNeAt.list_int _ _ p1 hu⟩
     ·exact ⟨SeqAt.RcAt.list_str _ _ p1 hu,SeqAt.RcNeAt.list_str _ _ p1 hu⟩
   | flt =>
    cases k2 with
    | tup ws =>
     obtain ⟨a2,its2,ys,rfl,p2,vb,rb⟩:=s2
     cases e
     rcases s1 with ⟨_,rfl⟩ | ⟨k,_,rfl⟩ | ⟨k,t,_,rfl⟩ | ⟨k,t,_,rfl⟩
     ·exact ⟨SeqAt.RcAt.none_tuple p2 hu,SeqAt.RcNeAt.none_tuple p2 hu⟩
     ·exact ⟨SeqAt.RcAt.bool_tuple _ p2 hu,SeqAt.RcNeAt.bool_tuple _ p2 hu⟩
     ·exact ⟨SeqAt.RcAt.int_tuple _ _ p2 hu,SeqAt.RcNeAt.int_tuple _ _ p2 hu⟩
     ·exact ⟨SeqAt.RcAt.str_tuple _ _ p2 hu,SeqAt.RcNeAt.str_tuple _ _ p2 hu⟩
    | lst ws =>
     obtain ⟨a2,its2,ys,rfl,p2,vb,rb⟩:=s2
     cases e
     rcases s1 with ⟨_,rfl⟩ | ⟨k,_,rfl⟩ | ⟨k,t,_,rfl⟩ | ⟨k,t,_,rfl⟩
     ·exact ⟨SeqAt.RcAt.none_list p2 hu,SeqAt.RcNeAt.none_list p2 hu⟩
     ·exact ⟨SeqAt.RcAt.bool_list _ p2 hu,SeqAt.RcNeAt.bool_list _ p2 hu⟩
     ·exact ⟨SeqAt.RcAt.int_list _ _ p2 hu,SeqAt.RcNeAt.int_list _ _ p2 hu⟩
     ·exact ⟨SeqAt.RcAt.str_list _ _ p2 hu,SeqAt.RcNeAt.str_list _ _ p2 hu⟩
    | flt =>
     injection e with e
     subst e
     rcases s1 with ⟨rfl,rfl⟩ | ⟨i,rfl,rfl⟩ | ⟨i,t,rfl,rfl⟩ | ⟨i,t,rfl,rfl⟩ <;> rcases s2 with ⟨rfl,rfl⟩ | ⟨j,rfl,rfl⟩ | ⟨j,t',rfl,rfl⟩ | ⟨j,t',rfl,rfl⟩
     ·exact ⟨SeqAt.RcAt.none_none,SeqAt.RcNeAt.none_none⟩
     ·exact ⟨SeqAt.RcAt.none_bool _,SeqAt.RcNeAt.none_bool _⟩
     ·exact ⟨SeqAt.RcAt.none_int _ _,SeqAt.RcNeAt.none_int _ _⟩
     ·exact ⟨SeqAt.RcAt.none_str _ _,SeqAt.RcNeAt.none_str _ _⟩
     ·exact ⟨SeqAt.RcAt.bool_none _,SeqAt.RcNeAt.bool_none _⟩
     ·exact ⟨SeqAt.RcAt.bool_bool _ _,SeqAt.RcNeAt.bool_bool _ _⟩
     ·exact ⟨SeqAt.RcAt.bool_int _ _ _,SeqAt.RcNeAt.bool_int _ _ _⟩
     ·exact ⟨SeqAt.RcAt.bool_str _ _ _,SeqAt.RcNeAt.bool_str _ _ _⟩
     ·exact ⟨SeqAt.RcAt.int_none _ _,SeqAt.RcNeAt.int_none _ _⟩
     ·exact ⟨SeqAt.RcAt.int_bool _ _ _,SeqAt.RcNeAt.int_bool _ _ _⟩
     ·exact ⟨SeqAt.RcAt.int_int _ _ _ _,SeqAt.RcNeAt.int_int _ _ _ _⟩
     ·exact ⟨SeqAt.RcAt.int_str _ _ _ _,SeqAt.RcNeAt.int_str _ _ _ _⟩
     ·exact ⟨SeqAt.RcAt.str_none _ _,SeqAt.RcNeAt.str_none _ _⟩
     ·exact ⟨SeqAt.RcAt.str_bool _ _ _,SeqAt.RcNeAt.str_bool _ _ _⟩
     ·exact ⟨SeqAt.RcAt.str_int _ _ _ _,SeqAt.RcNeAt.str_int _ _ _ _⟩
     ·exact ⟨SeqAt.RcAt.str_str _ _ _ _,SeqAt.RcNeAt.str_str _ _ _ _⟩
theorem eq_flat {A:Around} {u w:Val} {v1 v2:Value} (s1:SeenV X ρ H s .flt u v1) (s2:SeenV X ρ H s .flt w v2):SeqAt.EqAt A s v1 v2 (eqF u w):=by
 rcases s1 with ⟨rfl,rfl⟩ | ⟨i,rfl,rfl⟩ | ⟨i,t,rfl,rfl⟩ | ⟨i,t,rfl,rfl⟩ <;> rcases s2 with ⟨rfl,rfl⟩ | ⟨j,rfl,rfl⟩ | ⟨j,t',rfl,rfl⟩ | ⟨j,t',rfl,rfl⟩
 ·exact SeqAt.EqAt.same _
 ·exact SeqAt.EqAt.none_bool _
 ·exact SeqAt.EqAt.none_int _ _
 ·exact SeqAt.EqAt.none_str _ _
 ·exact SeqAt.EqAt.bool_none _
 ·exact SeqAt.EqAt.bool_bool _ _
 ·exact SeqAt.EqAt.bool_int _ _ _
 ·exact SeqAt.EqAt.bool_str _ _ _
 ·exact SeqAt.EqAt.int_none _ _
 ·exact SeqAt.EqAt.int_bool _ _ _
 ·exact SeqAt.EqAt.int_int _ _ _ _
 ·exact SeqAt.EqAt.int_str _ _ _ _
 ·exact SeqAt.EqAt.str_none _ _
 ·exact SeqAt.EqAt.str_bool _ _ _
 ·exact SeqAt.EqAt.str_int _ _ _ _
 ·exact SeqAt.EqAt.str_str _ _ _ _
theorem eqAt_M (I:Inv X pins σ H s) (sr:SR X.K ρ st H):∀ (n:Nat) (A:Around),A.units + n < cLine → ∀ (u w:Val) (x y:V) (v1 v2:Value) (b:Bool),Rl X.K ρ H u x → RelV x v1 → Rl X.K ρ H w y → RelV y v2 → eqD n st u w = some b → SeqAt.EqAt A s v1 v2 b
 | 0,_,_,_,_,_,_,_,_,_,_,_,_,_,e => by cases e
 | n + 1,A,hu,u,w,x,y,v1,v2,b,r1,q1,r2,q2,e => by
  have rc:=(rc_M I sr n (fun u w x y vu vw c a1 a2 a3 a4 a5 => eqAt_M I sr n A.in1 (by rw [in1_units]; lia) u w x y vu vw c a1 a2 a3 a4 a5) (by lia) r1 q1 r2 q2 e).1
  have refs:∀ a a2,v1 = .ref a → v2 = .ref a2 → SeqAt.EqAt A s v1 v2 b:=by
   intro a a2 e1 e2
   subst e1 e2
   by_cases hn:a = a2
   ·subst hn
    have hx:x = y:=q1.inj q2
    subst hx
    rw [same_eq I sr (n + 1) u w x b r1 r2 e]
    exact SeqAt.EqAt.same _
   ·exact SeqAt.EqAt.of_refs hn rc
  cases z1:vw st u with
  | none => unfold eqD at e; rw [z1] at e; cases e
  | some k1 =>
   cases z2:vw st w with
   | none => unfold eqD at e; rw [z1,z2] at e; cases k1 <;> cases e
   | some k2 =>
    have s1:=seen I sr r1 q1 z1
    have s2:=seen I sr r2 q2 z2
    unfold eqD at e
    rw [z1,z2] at e
    cases k1 with
    | tup us =>
     obtain ⟨a,its,xs,rfl,p1,va,ra⟩:=s1
     cases k2 with
     | tup ws => obtain ⟨a2,its2,ys,rfl,p2,vb,rb⟩:=s2; exact refs a a2 rfl rfl
     | lst ws => obtain ⟨a2,its2,ys,rfl,p2,vb,rb⟩:=s2; exact refs a a2 rfl rfl
     | flt =>
      cases e
      rcases s2 with ⟨_,rfl⟩ | ⟨k,_,rfl⟩ | ⟨k,t,_,rfl⟩ | ⟨k,t,_,rfl⟩
      ·exact SeqAt.EqAt.tuple_none p1 (by lia)
      ·exact SeqAt.EqAt.tuple_bool _ p1 (by lia)
      ·exact SeqAt.EqAt.tuple_int _ _ p1 (by lia)
      ·exact SeqAt.EqAt.tuple_str _ _ p1 (by lia)
    | lst us =>
     obtain ⟨a,its,xs,rfl,p1,va,ra⟩:=s1
     cases k2 with
     | tup ws => obtain ⟨a2,its2,ys,rfl,p2,vb,rb⟩:=s2; exact refs a a2 rfl rfl
     | lst ws => obtain ⟨a2,its2,ys,rfl,p2,vb,rb⟩:=s2; exact refs a a2 rfl rfl
     | flt =>
      cases e
      rcases s2 with ⟨_,rfl⟩ | ⟨k,_,rfl⟩ | ⟨k,t,_,rfl⟩ | ⟨k,t,_,rfl⟩
      ·exact SeqAt.EqAt.list_none p1 (by lia)
      ·exact SeqAt.EqAt.list_bool _ p1 (by lia)
      ·exact SeqAt.EqAt.list_int _ _ p1 (by lia)
      ·exact SeqAt.EqAt.list_str _ _ p1 (by lia)
    | flt =>
     cases k2 with
     | tup ws =>
      obtain ⟨a2,its2,ys,rfl,p2,vb,rb⟩:=s2
      cases e
      rcases s1 with ⟨_,rfl⟩ | ⟨k,_,rfl⟩ | ⟨k,t,_,rfl⟩ | ⟨k,t,_,rfl⟩
      ·exact SeqAt.EqAt.none_tuple p2 (by lia)
      ·exact SeqAt.EqAt.bool_tuple _ p2 (by lia)
      ·exact SeqAt.EqAt.int_tuple _ _ p2 (by lia)
      ·exact SeqAt.EqAt.str_tuple _ _ p2 (by lia)
     | lst ws =>
      obtain ⟨a2,its2,ys,rfl,p2,vb,rb⟩:=s2
      cases e
      rcases s1 with ⟨_,rfl⟩ | ⟨k,_,rfl⟩ | ⟨k,t,_,rfl⟩ | ⟨k,t,_,rfl⟩
      ·exact SeqAt.EqAt.none_list p2 (by lia)
      ·exact SeqAt.EqAt.bool_list _ p2 (by lia)
      ·exact SeqAt.EqAt.int_list _ _ p2 (by lia)
      ·exact SeqAt.EqAt.str_list _ _ p2 (by lia)
     | flt =>
      injection e with e
      subst e
      exact eq_flat s1 s2
noncomputable def eqM:F2:=fun u w st => match eqD 16 st u w with
 | some b => .ok (.bl b) st
 | none => .bad
noncomputable def neM:F2:=fun u w st => match eqD 16 st u w with
 | some b => .ok (.bl (!b)) st
 | none => .bad
theorem op_eqM {E:XK} (hu:X.A.units + 64 < cLine):OpR X (compareOp .Eq) (rM (wo X) E eqM):=by
 intro pins s σ H x y v u Q I rx ry h
 refine bcn fun hNO => ?_
 obtain ⟨ρ,st,u1,w1,sr,r1,r2,h⟩:=h
 unfold eqM at h
 refine hNO ?_; clear hNO
 split at h
 ·rename_i b e
  exact (rc_M I sr 15 (eqAt_M I sr 15 X.A.in1 (by rw [in1_units]; lia)) (by lia) r1 rx r2 ry e).1 X.prog X.w X.xe (EP X pins σ Q) ⟨.bl b,H,I,rfl,fin_b sr h⟩
 ·exact h.elim
theorem op_neM {E:XK} (hu:X.A.units + 64 < cLine):OpR X (compareOp .NotEq) (rM (wo X) E neM):=by
 intro pins s σ H x y v u Q I rx ry h
 refine bcn fun hNO => ?_
 obtain ⟨ρ,st,u1,w1,sr,r1,r2,h⟩:=h
 unfold neM at h
 refine hNO ?_; clear hNO
 split at h
 ·rename_i b e
  exact (rc_M I sr 15 (eqAt_M I sr 15 X.A.in1 (by rw [in1_units]; lia)) (by lia) r1 rx r2 ry e).2 X.prog X.w X.xe (EP X pins σ Q) ⟨.bl (!b),H,I,rfl,fin_b sr h⟩
 ·exact h.elim
noncomputable def seqOf (st:Store):Val → Option (List Val)
 | .tup us => some us
 | .mt us => some us
 | .loc n => itemsOf st n
 | _ => none
noncomputable def inW (neg:Bool):F2:=fun u w st => match seqOf st w with
 | some us => if flat u = true ∧ us.all flat = true then .ok (.bl (if neg then !us.any (fun y => eqF y u) else us.any (fun y => eqF y u))) st else .bad
 | none => .bad
theorem flat_rel {K:PySem.W.Frag} {u w:Val} {x y:V} (f1:flat u = true) (f2:flat w = true) (r1:Rl K ρ H u x) (r2:Rl K ρ H w y):flatV x = true ∧ flatV y = true ∧ eqV x y = eqF u w:=by
 cases u <;> (try cases f1) <;> cases w <;> (try cases f2) <;>
  (first | (have z1:=Rl.int_ r1; subst z1) | (have z1:=Rl.bl_ r1; subst z1) | (have z1:=Rl.str_ r1; subst z1) | (have z1:=Rl.non_ r1; subst z1)) <;>
  (first | (have z2:=Rl.int_ r2; subst z2) | (have z2:=Rl.bl_ r2; subst z2) | (have z2:=Rl.str_ r2; subst z2) | (have z2:=Rl.non_ r2; subst z2)) <;> exact ⟨rfl,rfl,rfl⟩
theorem flat_any {K:PySem.W.Frag} {u:Val} {x:V} (f:flat u = true) (r:Rl K ρ H u x):∀ {us:List Val} {vs:List V},us.all flat = true → Rls K ρ H us vs → vs.all flatV = true ∧ inV x vs = us.any fun y => eqF y u
 | [],vs,_,h => by rw [h.unnil]; exact ⟨rfl,rfl⟩
 | w :: us,vs,hf,h => by
  refine bcn fun hNO => ?_
  obtain ⟨v,r',rfl,h2,h3⟩:=h.uncons
  rw [List.all_cons,Bool.and_eq_true] at hf
  obtain ⟨a,b,c⟩:=flat_rel hf.1 f h2 r
  obtain ⟨d,e⟩:=flat_any f r hf.2 h3
  refine hNO ?_; clear hNO
  refine ⟨by rw [List.all_cons,a,d]; rfl,?_⟩
  show (eqV v x || inV x r') = _
  rw [c,e]; rfl
theorem in_read {E:XK} {neg:Bool} {x y:V} {H:Hp} {Q:VK} (h:rM (wo X) E (inW neg) x y H Q):rIn X.K neg x y H Q:=by
 refine bcn fun hNO => ?_
 obtain ⟨ρ,st,u,w,sr,r1,r2,h⟩:=h
 unfold inW at h
 refine hNO ?_; clear hNO
 split at h
 ·rename_i us e
  split at h
  ·rename_i hz
   cases w with
   | tup ws =>
    refine bcn fun hNO => ?_
    cases e
    obtain ⟨a,vs,rfl,ha,ra⟩:=r2.tup_
    obtain ⟨q1,q2⟩:=flat_any hz.1 r1 hz.2 ra
    refine hNO ?_; clear hNO
    refine ⟨a,vs,rfl,.inr ha,(flat_rel hz.1 hz.1 r1 r1).1,q1,?_⟩
    rw [q2]
    exact fin_b sr h
   | mt ws =>
    refine bcn fun hNO => ?_
    cases e
    obtain ⟨a,vs,rfl,ha,ra⟩:=r2.mt_
    obtain ⟨q1,q2⟩:=flat_any hz.1 r1 hz.2 ra
    refine hNO ?_; clear hNO
    refine ⟨a,vs,rfl,.inr ha,(flat_rel hz.1 hz.1 r1 r1).1,q1,?_⟩
    rw [q2]
    exact fin_b sr h
   | loc n =>
    refine bcn fun hNO => ?_
    obtain ⟨a,rfl,ha⟩:=r2.loc_
    obtain ⟨vs,hs,ra⟩:=itemsOf_sq sr e ha
    obtain ⟨q1,q2⟩:=flat_any hz.1 r1 hz.2 ra
    refine hNO ?_; clear hNO
    refine ⟨a,vs,rfl,.inl hs,(flat_rel hz.1 hz.1 r1 r1).1,q1,?_⟩
    rw [q2]
    exact fin_b sr h
   | _ => cases e
  ·exact h.elim
 ·exact h.elim
theorem op_inM {E:XK}:OpR X (compareOp .In) (rM (wo X) E (inW false)):=OpR.imp op_in_seq fun _ _ _ _ h => in_read h
end
end MN
namespace MN
open PySem PySem.Spec L2
open PyProof.Rows hiding St
section
variable {X:Cx} {E:XK} {pos:Pos}
noncomputable def ixV:F2
 | .tup us,.int i,st => match atI us i with
  | some v => .ok v st
  | none => .bad
 | .loc n,.int i,st => match itemsOf st n with
  | some us => match atI us i with
   | some v => .ok v st
   | none => .bad
  | none => .bad
 | .str z,.int i,st => if z.length ≤ sizeLine then (match atI z.cps.toList i with
   | some c => .ok (.str ⟨#[c]⟩) st
   | none => .bad) else .bad
 | _,_,_ => .bad
theorem Rls.atI {K:PySem.W.Frag} {ρ:List Addr} {H:Hp} {us:List Val} {vs:List V} {i:Int} {u:Val} (r:Rls K ρ H us vs) (h:atI us i = some u):∃ v,L2.atI vs i = some v ∧ Rl K ρ H u v:=by
 unfold L2.atI at h ⊢
 rw [← r.length]
 cases z:ixN us.length i with
 | none => rw [z] at h; cases h
 | some j =>
  rw [z] at h
  obtain ⟨v,h1,h2⟩:=r.get (show us[j]? = some u from h)
  exact ⟨v,h1,h2⟩
theorem ix_M:IxR X (rM (wo X) E ixV):=by
 refine IxR.imp (IxR.or ix_list (IxR.or ix_tup ix_str)) ?_
 rintro x y H Q ⟨ρ,st,u,w,sr,r1,r2,h⟩
 cases u <;> cases w <;> try exact h.elim
 case tup.int us i =>
  unfold ixV at h
  dsimp only at h
  split at h
  ·rename_i v e
   refine bcn fun hNO => ?_
   obtain ⟨a,vs,rfl,ha,ra⟩:=r1.tup_
   obtain ⟨z,h1,h2⟩:=ra.atI e
   refine hNO ?_; clear hNO
   exact .inr (.inl ⟨a,vs,i,z,rfl,r2.int_,ha,h1,h ρ H z (Step.refl _ _) sr h2⟩)
  ·exact h.elim
 case loc.int n i =>
  unfold ixV at h
  dsimp only at h
  split at h
  ·rename_i us e
   split at h
   ·rename_i v e'
    refine bcn fun hNO => ?_
    obtain ⟨a,rfl,ha⟩:=r1.loc_
    obtain ⟨vs,hs,rv⟩:=itemsOf_sq sr e ha
    obtain ⟨z,h1,h2⟩:=rv.atI e'
    refine hNO ?_; clear hNO
    exact .inl ⟨a,vs,i,z,rfl,r2.int_,hs,h1,h ρ H z (Step.refl _ _) sr h2⟩
   ·exact h.elim
  ·exact h.elim
 case str.int z i =>
  unfold ixV at h
  dsimp only at h
  split at h
  ·rename_i hz
   split at h
   ·rename_i c e
    exact .inr (.inr ⟨z,i,c,r1.str_,r2.int_,hz,e,h ρ H _ (Step.refl _ _) sr (Rl.mkStr _)⟩)
   ·exact h.elim
  ·exact h.elim
noncomputable def lenF:FN
 | [.tup us],st => .ok (.int us.length) st
 | [.loc n],st => match itemsOf st n with
  | some us => .ok (.int us.length) st
  | none => .bad
 | [.str z],st => if z.length ≤ sizeLine then .ok (.int z.length) st else .bad
 | _,_ => .bad
theorem call_lenM:CallR X (.builtin "len") (cM (wo X) E lenF):=by
 refine CallR.imp (CallR.or call_len_seq call_len_str) ?_
 rintro xs H Q ⟨ρ,st,us,sr,r,h⟩
 match us,r,h with
 | [],_,h => exact h.elim
 | [.tup ws],r,h =>
  obtain ⟨v,rfl,r1⟩:=r.un1
  obtain ⟨a,vs,rfl,ha,ra⟩:=r1.tup_
  refine .inl ⟨a,vs,rfl,.inr ha,?_⟩
  rw [← ra.length]; exact fin_int sr h
 | [.loc n],r,h =>
  obtain ⟨v,rfl,r1⟩:=r.un1
  obtain ⟨a,rfl,ha⟩:=r1.loc_
  unfold lenF at h
  dsimp only at h
  split at h
  ·rename_i ws e
   obtain ⟨vs,hs,rv⟩:=itemsOf_sq sr e ha
   refine .inl ⟨a,vs,rfl,.inl hs,?_⟩
   rw [← rv.length]; exact fin_int sr h
  ·exact h.elim
 | [.str z],r,h =>
  obtain ⟨v,rfl,r1⟩:=r.un1
  unfold lenF at h
  dsimp only at h
  split at h
  ·rename_i hz
   exact .inr ⟨z,by rw [r1.str_],hz,fin_int sr h⟩
  ·exact h.elim
 | [.non],_,h => exact h.elim
 | [.bl _],_,h => exact h.elim
 | [.int _],_,h => exact h.elim
 | [.exc _],_,h => exact h.elim
 | [.fn _ _],_,h => exact h.elim
 | [.mt _],_,h => exact h.elim
 | x :: y :: r,_,h => cases x <;> exact h.elim
noncomputable def absF:FN
 | [.int i],st => .ok (.int (if i < 0 then -i else i)) st
 | _,_ => .bad
theorem call_absM:CallR X (.builtin "abs") (cM (wo X) E absF):=by
 refine CallR.imp call_abs ?_
 rintro xs H Q ⟨ρ,st,us,sr,r,h⟩
 unfold absF at h
 split at h
 ·rename_i i
  obtain ⟨v,rfl,r1⟩:=r.un1
  exact ⟨i,by rw [r1.int_],fin_int sr h⟩
 ·exact h.elim
noncomputable def tupF:FN
 | [.tup us],st => .ok (.tup us) st
 | [.loc n],st => match itemsOf st n with
  | some us => .ok (.tup us) st
  | none => .bad
 | _,_ => .bad
theorem call_tupM:CallR X (.type "tuple") (cM (wo X) E tupF):=by
 refine CallR.imp call_tuple_of ?_
 rintro xs H Q ⟨ρ,st,us,sr,r,h⟩
 unfold tupF at h
 split at h
 ·rename_i ws
  obtain ⟨v,rfl,r1⟩:=r.un1
  obtain ⟨a,vs,rfl,ha,ra⟩:=r1.tup_
  exact ⟨a,vs,rfl,.inr ⟨ha,h ρ H _ (Step.refl _ _) sr r1⟩⟩
 ·rename_i n
  obtain ⟨v,rfl,r1⟩:=r.un1
  obtain ⟨a,rfl,ha⟩:=r1.loc_
  split at h
  ·rename_i ws e
   obtain ⟨vs,hs,rv⟩:=itemsOf_sq sr e ha
   refine ⟨a,vs,rfl,.inl ⟨hs,fun l hl => ?_⟩⟩
   have s:=same_upd (o:=.tup vs) hl
   exact h ρ _ _ (Step.same s) (sr.grow s) (Rl.mkTup upd_same (Rls.mono (Step.same s) _ _ rv))
  ·exact h.elim
 ·exact h.elim
noncomputable def lstF:FN
 | [.tup us],st => .ok (.loc st.length) (st ++ [.lst us])
 | [.loc n],st => match itemsOf st n with
  | some us => .ok (.loc st.length) (st ++ [.lst us])
  | none => .bad
 | _,_ => .bad
theorem call_lstM:CallR X (.type "list") (cM (wo X) E lstF):=by
 refine CallR.imp call_list_of ?_
 rintro xs H Q ⟨ρ,st,us,sr,r,h⟩
 unfold lstF at h
 split at h
 ·rename_i ws
  obtain ⟨v,rfl,r1⟩:=r.un1
  obtain ⟨a,vs,rfl,ha,ra⟩:=r1.tup_
  refine ⟨a,vs,rfl,.inr ha,fun l hl => ?_⟩
  obtain ⟨k1,k2,k3⟩:=new_lst sr ra hl
  exact h _ _ _ k1 k2 k3
 ·rename_i n
  obtain ⟨v,rfl,r1⟩:=r.un1
  obtain ⟨a,rfl,ha⟩:=r1.loc_
  split at h
  ·rename_i ws e
   obtain ⟨vs,hs,rv⟩:=itemsOf_sq sr e ha
   refine ⟨a,vs,rfl,.inl hs,fun l hl => ?_⟩
   obtain ⟨k1,k2,k3⟩:=new_lst sr rv hl
   exact h _ _ _ k1 k2 k3
  ·exact h.elim
 ·exact h.elim
noncomputable def blsOf:List Val → Option (List Bool)
 | [] => some []
 | .bl b :: r => (blsOf r).map (b :: ·)
 | _ => none
theorem blsOf_are {K:PySem.W.Frag} {ρ:List Addr} {H:Hp}:∀ {us:List Val} {bs:List Bool} {vs:List V} {its:List Value},blsOf us = some bs → Rls K ρ H us vs → Vals vs its → LSm.BoolsAre its bs
 | [],bs,vs,its,h,r,v => by
  cases h
  have:=r.unnil
  subst this
  cases v
  exact .nil
 | u :: us,bs,vs,its,h,r,v => by
  cases u with
  | bl b =>
   simp only [blsOf] at h
   cases z:blsOf us with
   | none => rw [z] at h; cases h
   | some bs' =>
    rw [z] at h
    cases h
    obtain ⟨x,r',rfl,h2,h3⟩:=r.uncons
    have:=h2.bl_
    subst this
    cases v with
    | cons q1 q2 =>
     cases q1
     exact .cons b (blsOf_are z h3 q2)
  | _ => cases h
theorem call_all_bools (hh:X.A.handled = none):CallR X (.builtin "all") (fun xs H Q => ∃ a ρ us vs bs,xs = [.ref a] ∧ SqL X.K H a vs ∧ Rls X.K ρ H us vs ∧ blsOf us = some bs ∧ Q (.bl (bs.all id)) H):=by
 rintro pins s σ H xs ws Q I r ⟨a,ρ,us,vs,bs,rfl,hs,rv,hb,q⟩
 obtain ⟨u,rfl,ru⟩:=vals1 r
 cases ru
 obtain ⟨its,r1,p1,_⟩:=I.list hs
 have B:=blsOf_are hb rv r1
 have hl:=p1.isList
 have hlt:a < s.heap.objs.size:=by obtain ⟨_,e,_⟩:=hl; exact Heap.lt_size e
 refine call_all_walk (wpAny_pyIter_list hl ?_)
 refine ⟨s.heap.objs.size,[s.heap.objs.size,a],[s.heap.objs.size],its.toArray.size,_,_,fun i => (bs[i]?).getD true,rfl,Walks.list (A:=X.A.in1) hh _ a (Nat.ne_of_lt hlt) its.toArray,
  ⟨⟨_,Heap.get?_push_size _ rfl,rfl,rfl⟩,hl.push _⟩,fun i v s' Q' E' hP hQ => ?_,fun h' tk hk => ?_⟩
 ·obtain ⟨b,e,rfl⟩:=B.get i v (by simpa using hP)
  simp only [e,Option.getD_some] at hQ
  exact wpAny_truthy_bool hQ
 ·have e:((List.range its.toArray.size).all fun i => (bs[i]?).getD true) = bs.all id:=by
   rw [List.size_toArray,B.length]; exact LSm.range_all bs
  rw [e]
  exact ⟨.bl _,H,I.kept (LSm.kept_iter hk),rfl,q⟩
noncomputable def allF:FN
 | [.loc n],st => match itemsOf st n with
  | some us => match blsOf us with
   | some bs => .ok (.bl (bs.all id)) st
   | none => .bad
  | none => .bad
 | _,_ => .bad
theorem call_allM (hh:X.A.handled = none):CallR X (.builtin "all") (cM (wo X) E allF):=by
 refine CallR.imp (call_all_bools hh) ?_
 rintro xs H Q ⟨ρ,st,us,sr,r,h⟩
 unfold allF at h
 split at h
 ·rename_i n
  refine bcn fun hNO => ?_
  obtain ⟨v,rfl,r1⟩:=r.un1
  obtain ⟨a,rfl,ha⟩:=r1.loc_
  refine hNO ?_; clear hNO
  split at h
  ·rename_i ws e
   split at h
   ·rename_i bs hb
    refine bcn fun hNO => ?_
    obtain ⟨vs,hs,rv⟩:=itemsOf_sq sr e ha
    refine hNO ?_; clear hNO
    exact ⟨a,ρ,ws,vs,bs,rfl,hs,rv,hb,fin_b sr h⟩
   ·exact h.elim
  ·exact h.elim
 ·exact h.elim
noncomputable def kindOf (st:Store):Val → Option String
 | .non => some "NoneType"
 | .bl _ => some "bool"
 | .int _ => some "int"
 | .str _ => some "str"
 | .tup _ => some "tuple"
 | .loc n => match st[n]? with
  | some (.lst _) => some "list"
  | some (.fro _) => some "list"
  | some (.mod _) => none
  | some (.dK _) => some "dict"
  | some (.dT _) => some "dict"
  | none => none
 | _ => none
noncomputable def isT (T:String) (st:Store) (v:Val):Option Bool:=(kindOf st v).map fun k => k == T || (k == "bool" && T == "int")
noncomputable def mIs (T:String) (m:ME):ME:=fun μ st => (m μ st).bind fun v st' => match isT T st' v with
 | some b => .ok (.bl b) st'
 | none => .bad
noncomputable def KitT (K:PySem.W.Frag) (T:String):Prop:=∀ k ∈ ["NoneType","bool","int","str","tuple","list","dict"],PySem.W.kitOne K (.type k) (.type T) = some (k == T || (k == "bool" && T == "int"))
theorem kindOf_mem {st:Store} {v:Val} {k:String} (h:kindOf st v = some k):k ∈ ["NoneType","bool","int","str","tuple","list","dict"]:=by
 unfold kindOf at h
 split at h
 all_goals first
  | (cases h; decide)
  | (split at h <;> first | (cases h; decide) | cases h)
  | cases h
theorem isinst_M {pins:List (Addr × Obj)} {σ:St} {H:Hp} {s:Shared} {A:Around} {E:Value → Shared → Prop} {Q:Value → Shared → Prop} {c:Value} {b:Bool} {ρ:List Addr} {st:Store} {u:Val} {x:V} {v:Value} {k:String}
  (I:Inv X pins σ H s) (sr:SR X.K ρ st H) (r:Rl X.K ρ H u x) (q:RelV x v) (hk:kindOf st u = some k) (e:PySem.W.kitOne X.K (.type k) c = some b) (h:∀ tk,Q (.bool b) { s with toks:=tk }) :
  wpAny (model X.prog X.w) A (call (.builtin "isinstance") [v,c]) Q E s:=by
 cases u with
 | non => cases hk; have:=r.non_; subst this; exact isinst_ok I q .non e h
 | bl y => cases hk; have:=r.bl_; subst this; exact isinst_ok I q (.bl y) e h
 | int i => cases hk; have:=r.int_; subst this; exact isinst_ok I q (.int i) e h
 | str y => cases hk; have:=r.str_; subst this; exact isinst_ok I q (.str y) e h
 | tup us =>
  refine bcn fun hNO => ?_
  cases hk
  obtain ⟨a,vs,rfl,ha,ra⟩:=r.tup_
  cases q
  obtain ⟨its,r1,⟨o,h1,h2,_⟩,_⟩:=I.tuple ha
  refine hNO ?_; clear hNO
  exact PySem.W.kia_one PySem.W.kitx_tuple I.kIn ⟨o,h1,h2⟩ e (fun z => nomatch z) h
 | loc n =>
  refine bcn fun hNO => ?_
  obtain ⟨a,rfl,ha⟩:=r.loc_
  obtain ⟨cl,hc,kc⟩:=sr.there ha
  simp only [kindOf,hc] at hk
  refine hNO ?_; clear hNO
  cases cl with
  | lst us => cases hk; obtain ⟨vs,h1,_⟩:=kc; exact isinst_ok I q (.lst h1) e h
  | fro us => cases hk; obtain ⟨o,vs,h1,_⟩:=kc; exact isinst_ok I q (.frz h1) e h
  | mod us => cases hk
  | dK us => cases hk; obtain ⟨vs,h1,_⟩:=kc; exact isinst_ok I q (.dK h1) e h
  | dT us => cases hk; obtain ⟨vs,h1,_⟩:=kc; exact isinst_ok I q (.dT h1) e h
 | exc c => cases hk
 | fn k c => cases hk
 | mt us => cases hk
theorem me_isT {T:String} {x:Str} {e:Expr} {m:ME} {p q:Pos} (hK:KitT X.K T) (hg:Gl X "isinstance") (hm:X.mg "isinstance" = none) (hgT:Gl X x) (hmT:X.mg x = none) (hvT:bootBuiltins x = some (.type T)) (he:PE X e (tE X E m))
  (hn:x ≠ "__name__":=by decide) (hd:(x == ("__debug__":Str)) = false:=by decide)
  (hs:starEach [e,.Name x q] X.env = (false,eval e X.env) :: starEach [.Name x q] X.env:=by rfl) (hs2:starEach [.Name x q] X.env = (false,eval (.Name x q) X.env) :: starEach [] X.env:=by rfl)
  (hpl:(backTo pos (starEach [.Name x q] X.env)).any (·.1) = false:=by rfl):PE X (.Call (.Name "isinstance" p) [e,.Name x q] [] pos) (tE X E (mIs T m)):=by
 have hc:CallR X (.builtin "isinstance") (fun xs H Q => ∃ y ρ st u k b,xs = [y,.ty T] ∧ SR X.K ρ st H ∧ Rl X.K ρ H u y ∧ kindOf st u = some k ∧ PySem.W.kitOne X.K (.type k) (.type T) = some b ∧ Q (.bl b) H):=by
  rintro pins s σ H xs us Q I r ⟨y,ρ,st,u,k,b,rfl,sr,r1,h1,h2,h3⟩
  obtain ⟨v1,v2,rfl,q1,q2⟩:=vals2 r
  cases q2
  exact isinst_M I sr r1 q1 h1 h2 fun tk => ⟨.bl b,H,I.tok tk,rfl,h3⟩
 refine PE.imp (pe_callB hc hg hm PyProof.Rows.boot_isinstance (pa_cons he (pa_cons (pe_bltn (v:=.ty T) hgT hmT hvT rfl hn hd) pa_nil hs2) hs) (by decide) (by decide) hs hpl) ?_
 rintro σ H Q ⟨μ,ρ,st,rs,sr,h⟩
 refine go μ ρ st rs sr h fun u st1 ρ1 H1 x e1 sr1 r1 h1 => ?_
 cases z:kindOf st1 u with
 | none => simp only [isT,z] at h1; exact h1.elim
 | some k =>
  simp only [isT,z] at h1
  exact ⟨x,ρ1,st1,u,k,_,rfl,sr1,r1,z,hK k (kindOf_mem z),fin_b sr1 h1⟩
end
theorem kitT_int {K:PySem.W.Frag}:KitT K "int":=by
 intro k hk
 simp only [List.mem_cons,List.mem_nil_iff,or_false] at hk
 rcases hk with rfl | rfl | rfl | rfl | rfl | rfl | rfl <;> first | rfl | kernel_rfl
theorem kitT_bool {K:PySem.W.Frag}:KitT K "bool":=by
 intro k hk
 simp only [List.mem_cons,List.mem_nil_iff,or_false] at hk
 rcases hk with rfl | rfl | rfl | rfl | rfl | rfl | rfl <;> first | rfl | kernel_rfl
theorem kitT_tuple {K:PySem.W.Frag}:KitT K "tuple":=by
 intro k hk
 simp only [List.mem_cons,List.mem_nil_iff,or_false] at hk
 rcases hk with rfl | rfl | rfl | rfl | rfl | rfl | rfl <;> first | rfl | kernel_rfl
theorem kitT_list {K:PySem.W.Frag}:KitT K "list":=by
 intro k hk
 simp only [List.mem_cons,List.mem_nil_iff,or_false] at hk
 rcases hk with rfl | rfl | rfl | rfl | rfl | rfl | rfl <;> first | rfl | kernel_rfl
end MN
namespace MN
open PySem PySem.Spec L2
open PyProof.Rows hiding St
noncomputable abbrev AS:=Val → Env → Option Env
noncomputable def aName (i:Nat):AS:=fun v μ => some (μ.set i (some v))
noncomputable def aTups:List AS → List Val → Env → Option Env
 | [],[],μ => some μ
 | a :: as,v :: vs,μ => (a v μ).bind fun μ' => aTups as vs μ'
 | _,_,_ => none
noncomputable def aTup (l:List AS):AS:=fun v μ => match v with
 | .tup vs => aTups l vs μ
 | _ => none
noncomputable def tA (W:Wo) (a:AS):TG:=fun v σ H Q => ∃ μ ρ u μ',RS W ρ H μ σ ∧ Rl W.K ρ H u v ∧ a u μ = some μ' ∧ ∀ σ',RS W ρ H μ' σ' → Q σ' H
noncomputable def tAs (W:Wo) (l:List AS):TGs:=fun vs σ H Q => ∃ μ ρ us μ',RS W ρ H μ σ ∧ Rls W.K ρ H us vs ∧ aTups l us μ = some μ' ∧ ∀ σ',RS W ρ H μ' σ' → Q σ' H
section
variable {X:Cx} {pos:Pos}
theorem PGs.imp {e:List Expr} {t t':TGs} (h:PGs X e t) (k:∀ v σ H Q,t' v σ H Q → t v σ H Q):PGs X e t':=fun pins s σ H v u Q I r q => h pins s σ H v u Q I r (k v σ H Q q)
theorem mg_name (i:Nat) {x:Str} (hN:X.N.Nodup) (hi:X.N[i]? = some x:=by rfl) (hx:Loc X.env.scope x:=by first | exact Or.inl rfl | exact Or.inr rfl) (hf:X.fn x = true ∨ X.env.scope.names.lookup x = some .local:=by first | exact .inl rfl | exact .inr rfl | assumption):PG X (.Name x pos) (tA (wo X) (aName i)):=by
 refine PG.imp (pg_name hN hi hx hf) ?_
 rintro v σ H Q ⟨μ,ρ,u,μ',rs,r,e,q⟩
 cases e
 exact q _ (rs.set i r)
theorem mgs_nil:PGs X [] (tAs (wo X) []):=by
 refine PGs.imp pgs_nil ?_
 rintro vs σ H Q ⟨μ,ρ,us,μ',rs,r,e,q⟩
 cases us with
 | nil => cases e; exact ⟨r.unnil,q σ rs⟩
 | cons => cases e
theorem mgs_cons {e:Expr} {es:List Expr} {a:AS} {as:List AS} (h1:PG X e (tA (wo X) a)) (h2:PGs X es (tAs (wo X) as)) (hs:(assignEach (e :: es) X.env).map (·.2) = assign e X.env :: (assignEach es X.env).map (·.2):=by rfl):PGs X (e :: es) (tAs (wo X) (a :: as)):=by
 refine PGs.imp (pgs_cons h1 h2 hs) ?_
 rintro vs σ H Q ⟨μ,ρ,us,μ',rs,r,e,q⟩
 cases us with
 | nil => cases e
 | cons u us =>
  refine bcn fun hNO => ?_
  obtain ⟨v,r',rfl,ru,rr⟩:=r.uncons
  unfold aTups at e
  refine hNO ?_; clear hNO
  cases z:a u μ with
  | none => rw [z] at e; cases e
  | some μ1 =>
   rw [z] at e
   exact ⟨v,r',rfl,μ,ρ,u,μ1,rs,ru,z,fun σ1 rs1 => ⟨μ1,ρ,us,μ',rs1,rr,e,q⟩⟩
theorem mg_tup {es:List Expr} {k:Nat} {l:List AS} (hc:X.calm = true) (h:PGs X es (tAs (wo X) l)) (hn:(assignEach es X.env).length = l.length:=by rfl) (hst:(assignEach es X.env).findIdx? (·.1) = none:=by rfl):PG X (.Tuple es k pos) (tA (wo X) (aTup l)):=by
 refine PG.imp (pg_tup hc h hn hst) ?_
 rintro v σ H Q ⟨μ,ρ,u,μ',rs,r,e,q⟩
 cases u with
 | tup us =>
  obtain ⟨a,vs,rfl,ha,ra⟩:=r.tup_
  have len:∀ (l:List AS) (us:List Val) (μ:Env),aTups l us μ = some μ' → us.length = l.length:=by
   intro l
   induction l with
   | nil => intro us μ e; cases us with | nil => rfl | cons => cases e
   | cons a l ih =>
    intro us μ e
    cases us with
    | nil => cases e
    | cons u us =>
     unfold aTups at e
     cases z:a u μ with
     | none => rw [z] at e; cases e
     | some μ1 => rw [z] at e; rw [List.length_cons,List.length_cons,ih us μ1 e]
  exact ⟨a,vs,rfl,ha,by rw [← ra.length]; exact len _ _ _ e,μ,ρ,us,μ',rs,ra,e,q⟩
 | _ => cases e
noncomputable def sAsg (a:AS) (m:ME):MB:=fun μ st => (m μ st).sb μ fun v st' => match a v μ with
 | some μ' => .nx μ' st'
 | none => .bad
end
noncomputable abbrev Itm:=List Val × (Store → Prop)
noncomputable abbrev MI:=Env → Store → Res Itm
noncomputable def ItR (K:PySem.W.Frag) (ρ0:List Addr) (H0:Hp) (p:Itm) (J:It):Prop :=
 ∀ ρ st H,Step ρ0 H0 ρ H → SR K ρ st H → p.2 st → ∀ i:Nat,
  (∀ u,p.1[i]? = some u → J.go i H ∧ ∀ x H',J.yld i H x H' → Step ρ H ρ H' ∧ SR K ρ st H' ∧ Rl K ρ H' u x) ∧ (p.1.length ≤ i → J.stop i H)
noncomputable abbrev tI (X:Cx) (E:XK) (m:MI):TI:=tG (wo X) E (ItR X.K) m
section
variable {X:Cx} {E:XK} {tg:Expr} {pos p:Pos}
theorem PI.imp {it:Expr} {t t':TI} (h:PI X tg it t) (k:∀ σ H Q,t' σ H Q → t σ H Q):PI X tg it t':=fun pins s σ H R I q => h pins s σ H R I (k σ H R q)
theorem pi_seq {l:Expr} {tl:TE} (hl:PE X l tl):PI X tg l (fun σ H R => tl σ H fun x H1 => ∃ a,x = .ref a ∧ (((∃ xs,SqL X.K H1 a xs) ∧ R (Itl X.K a) H1) ∨ ((∃ xs,SqT X.K H1 a xs) ∧ R (Itt X.K a) H1))):=by
 intro pins s σ H R I h
 refine thn (hl pins s σ H _ I h) fun v s1 ⟨x,H1,I1,r1,q1⟩ => ?_
 refine bcn fun hNO => ?_
 obtain ⟨a,e,q⟩:=q1
 subst e
 cases r1
 refine hNO ?_; clear hNO
 rcases q with ⟨⟨xs,hq⟩,q⟩ | ⟨⟨xs,hq⟩,q⟩
 ·refine bcn fun hNO => ?_
  obtain ⟨its,rv,p,hz⟩:=I1.list hq
  refine hNO ?_; clear hNO
  refine wpAny_pyIter_list p.isList ?_
  refine ⟨s1.heap.objs.size,[s1.heap.objs.size],_,_,H1,rfl,I1.kept (t':=s1.toks) fun b o e => Heap.get?_push_of_some _ e,turn_list a _,⟨_,Heap.get?_push_size _ rfl,rfl,rfl⟩,fun b hb => ?_,q⟩
  have e:b = s1.heap.objs.size:=by simpa using hb
  subst e
  exact I1.fpOk (Nat.le_refl _) (I1.hok.fresh (Nat.le_refl _))
 ·refine bcn fun hNO => ?_
  obtain ⟨its,rv,p,hz⟩:=I1.tuple hq
  refine hNO ?_; clear hNO
  refine wpAny_pyIter_tuple (show s1.heap.IsTuple a its.toArray from p) ?_
  refine ⟨s1.heap.objs.size,[s1.heap.objs.size],_,_,H1,rfl,I1.kept (t':=s1.toks) fun b o e => Heap.get?_push_of_some _ e,turn_tuple a _,⟨_,Heap.get?_push_size _ rfl,rfl,rfl⟩,fun b hb => ?_,q⟩
  have e:b = s1.heap.objs.size:=by simpa using hb
  subst e
  exact I1.fpOk (Nat.le_refl _) (I1.hok.fresh (Nat.le_refl _))
noncomputable def walkOf (st:Store):Val → Option Itm
 | .tup us => some (us,fun _ => True)
 | .mt us => some (us,fun _ => True)
 | .loc n => (itemsOf st n).map fun us => (us,fun st' => itemsOf st' n = some us)
 | _ => none
noncomputable def iSeq (m:ME):MI:=fun μ st => (m μ st).bind fun v st' => match walkOf st' v with
 | some p => .ok p st'
 | none => .bad
theorem itR_list {K:PySem.W.Frag} {ρ:List Addr} {H:Hp} {n:Nat} {us:List Val} {a:Addr} (ha:ρ[n]? = some a) (hsq:∀ {ρ':List Addr} {st':Store} {H':Hp},SR K ρ' st' H' → itemsOf st' n = some us → ρ'[n]? = some a → ∃ vs,SqL K H' a vs ∧ Rls K ρ' H' us vs) :
  ItR K ρ H (us,fun st' => itemsOf st' n = some us) (Itl K a):=by
 intro ρ' st' H' e sr g i
 refine bcn fun hNO => ?_
 obtain ⟨vs,hs,rv⟩:=hsq sr g (e.at_ ha)
 refine hNO ?_; clear hNO
 refine ⟨fun u hu => ?_,fun hi => ⟨vs,hs,by rw [← rv.length]; exact hi⟩⟩
 refine bcn fun hNO => ?_
 obtain ⟨v,hv,ru⟩:=rv.get hu
 refine hNO ?_; clear hNO
 refine ⟨⟨vs,v,hs,hv⟩,fun x H'' y => ?_⟩
 refine bcn fun hNO => ?_
 obtain ⟨rfl,y⟩:=y
 have e:=(y vs hs).symm.trans hv
 cases e
 refine hNO ?_; clear hNO
 exact ⟨Step.refl _ _,sr,ru⟩
theorem itR_tup {K:PySem.W.Frag} {ρ:List Addr} {H:Hp} {us:List Val} {a:Addr} {vs:List V} (ha:SqT K H a vs) (ra:Rls K ρ H us vs):ItR K ρ H (us,fun _ => True) (Itt K a):=by
 intro ρ' st' H' e sr g i
 have ha':SqT K H' a vs:=e.sqT ha
 have rv:=Rls.mono e _ _ ra
 refine ⟨fun u hu => ?_,fun hi => ⟨vs,ha',by rw [← rv.length]; exact hi⟩⟩
 refine bcn fun hNO => ?_
 obtain ⟨v,hv,ru⟩:=rv.get hu
 refine hNO ?_; clear hNO
 refine ⟨⟨vs,v,ha',hv⟩,fun x H'' y => ?_⟩
 refine bcn fun hNO => ?_
 obtain ⟨rfl,y⟩:=y
 have e:=(y vs ha').symm.trans hv
 cases e
 refine hNO ?_; clear hNO
 exact ⟨Step.refl _ _,sr,ru⟩
theorem mi_seq {l:Expr} {m:ME} (hl:PE X l (tE X E m)):PI X tg l (tI X E (iSeq m)):=by
 refine PI.imp (pi_seq hl) ?_
 rintro σ H R ⟨μ,ρ,st,rs,sr,h⟩
 refine go μ ρ st rs sr h fun u st1 ρ1 H1 x e1 sr1 r1 h1 => ?_
 cases u with
 | tup us =>
  obtain ⟨a,vs,rfl,ha,ra⟩:=r1.tup_
  exact ⟨a,rfl,.inr ⟨⟨vs,ha⟩,h1 ρ1 H1 _ (Step.refl _ _) sr1 (itR_tup ha ra)⟩⟩
 | mt us =>
  obtain ⟨a,vs,rfl,ha,ra⟩:=r1.mt_
  exact ⟨a,rfl,.inr ⟨⟨vs,ha⟩,h1 ρ1 H1 _ (Step.refl _ _) sr1 (itR_tup ha ra)⟩⟩
 | loc n =>
  obtain ⟨a,rfl,ha⟩:=r1.loc_
  cases z:itemsOf st1 n with
  | none => simp only [walkOf,z] at h1; exact h1.elim
  | some us =>
   simp only [walkOf,z] at h1
   obtain ⟨vs,hs,rv⟩:=itemsOf_sq sr1 z ha
   exact ⟨a,rfl,.inl ⟨⟨vs,hs⟩,h1 ρ1 H1 _ (Step.refl _ _) sr1 (itR_list ha fun s g h => itemsOf_sq s g h)⟩⟩
 | _ => exact h1.elim
noncomputable def rangeL (lo:Int) (n:Nat):List Val:=(List.range n).map fun (i:Nat) => Val.int (lo + (i:Int))
theorem itR_range {K:PySem.W.Frag} {ρ:List Addr} {H:Hp} (lo:Int) (n:Nat):ItR K ρ H (rangeL lo n,fun _ => True) (Itr lo n):=by
 intro ρ' st' H' e sr g i
 refine ⟨fun u hu => ?_,fun hi => ?_⟩
 ·have hi:i < n:=by
   have:=getL_lt hu
   simpa [rangeL] using this
  refine ⟨hi,fun x H'' y => ?_⟩
  obtain ⟨rfl,rfl⟩:=y
  have e:u = Val.int (lo + (i:Int)):=by
   simp only [rangeL,List.getElem?_map] at hu
   rw [List.getElem?_range hi] at hu
   exact (Option.some.inj hu).symm
  subst e
  exact ⟨Step.refl _ _,sr,Rl.mkInt _⟩
 ·show n ≤ i
  simpa [rangeL] using hi
noncomputable def iRange1 (m:MA):MI:=fun μ st => (m μ st).bind fun vs st' => match vs with
 | [.int j] => if -(2 ^ 62) ≤ j ∧ j < 2 ^ 62 then .ok (rangeL 0 j.toNat,fun _ => True) st' else .bad
 | _ => .bad
noncomputable def iRange2 (m:MA):MI:=fun μ st => (m μ st).bind fun vs st' => match vs with
 | [.int i,.int j] => if -(2 ^ 62) ≤ i ∧ i < 2 ^ 62 ∧ -(2 ^ 62) ≤ j ∧ j < 2 ^ 62 then .ok (rangeL i (j - i).toNat,fun _ => True) st' else .bad
 | _ => .bad
theorem mi_range1 {a:Expr} {m:MA} (hg:Gl X "range") (hm:X.mg "range" = none) (ha:PA X [a] (tL X E m)) (hs:starEach [a] X.env = [(false,eval a X.env)]:=by rfl):PI X tg (.Call (.Name "range" p) [a] [] pos) (tI X E (iRange1 m)):=by
 refine PI.imp (pi_range1 hg hm ha hs) ?_
 rintro σ H R ⟨μ,ρ,st,rs,sr,h⟩
 refine go (R1:=Rls X.K) μ ρ st rs sr h fun us st1 ρ1 H1 xs e1 sr1 r1 h1 => ?_
 split at h1
 ·rename_i j
  obtain ⟨v,rfl,rv⟩:=r1.un1
  split at h1
  ·rename_i hz
   exact ⟨j,by rw [rv.int_],hz.1,hz.2,h1 ρ1 H1 _ (Step.refl _ _) sr1 (itR_range 0 j.toNat)⟩
  ·exact h1.elim
 ·exact h1.elim
theorem mi_range2 {a b:Expr} {m:MA} (hg:Gl X "range") (hm:X.mg "range" = none) (ha:PA X [a,b] (tL X E m)) (hs:starEach [a,b] X.env = [(false,eval a X.env),(false,eval b X.env)]:=by rfl) (hs2:starEach [b] X.env = [(false,eval b X.env)]:=by rfl) :
  PI X tg (.Call (.Name "range" p) [a,b] [] pos) (tI X E (iRange2 m)):=by
 refine PI.imp (pi_range2 hg hm ha hs hs2) ?_
 rintro σ H R ⟨μ,ρ,st,rs,sr,h⟩
 refine go (R1:=Rls X.K) μ ρ st rs sr h fun us st1 ρ1 H1 xs e1 sr1 r1 h1 => ?_
 split at h1
 ·rename_i i j
  obtain ⟨v,w,rfl,rv,rw'⟩:=r1.un2
  split at h1
  ·rename_i hz
   exact ⟨i,j,by rw [rv.int_,rw'.int_],hz,h1 ρ1 H1 _ (Step.refl _ _) sr1 (itR_range i _)⟩
  ·exact h1.elim
 ·exact h1.elim
noncomputable def sideOf (st:Store):Val → Option (Bool × Itm)
 | .tup us => some (false,us,fun _ => True)
 | .loc n => (itemsOf st n).map fun us => (true,us,fun st' => itemsOf st' n = some us)
 | _ => none
noncomputable def zipL:List Val → List Val → List Val
 | x :: xs,y :: ys => .tup [x,y] :: zipL xs ys
 | _,_ => []
theorem zipL_at:∀ (us ws:List Val) (i:Nat),(∀ z,(zipL us ws)[i]? = some z → ∃ u w,us[i]? = some u ∧ ws[i]? = some w ∧ z = .tup [u,w]) ∧ ((zipL us ws).length ≤ i → us.length ≤ i ∨ ws.length ≤ i)
 | [],_,i => ⟨fun z h => (by cases h),fun _ => .inl (Nat.zero_le _)⟩
 | _ :: _,[],i => ⟨fun z h => (by cases h),fun _ => .inr (Nat.zero_le _)⟩
 | u :: us,w :: ws,0 => ⟨fun z h => (by cases h; exact ⟨u,w,rfl,rfl,rfl⟩),fun h => (by simp [zipL] at h)⟩
 | u :: us,w :: ws,i + 1 => by
  obtain ⟨a,b⟩:=zipL_at us ws i
  refine ⟨fun z h => a z h,fun h => ?_⟩
  have h':(zipL us ws).length ≤ i:=by simpa [zipL] using h
  rcases b h' with q | q
  ·exact .inl (by rw [List.length_cons]; lia)
  ·exact .inr (by rw [List.length_cons]; lia)
noncomputable def iZip2 (b1 b2:Bool) (m:MA):MI:=fun μ st => (m μ st).bind fun vs st' => match vs with
 | [u,w] => match sideOf st' u,sideOf st' w with
  | some (c1,us,g1),some (c2,ws,g2) => if c1 = b1 ∧ c2 = b2 then .ok (zipL us ws,fun st2 => g1 st2 ∧ g2 st2) st' else .bad
  | _,_ => .bad
 | _ => .bad
theorem side_sq {K:PySem.W.Frag} {ρ:List Addr} {st:Store} {H:Hp} {u:Val} {x:V} {c:Bool} {us:List Val} {g:Store → Prop} (sr:SR K ρ st H) (r:Rl K ρ H u x) (h:sideOf st u = some (c,us,g)) (hsq:∀ {ρ':List Addr} {st':Store} {H':Hp} {n a},SR K ρ' st' H' → itemsOf st' n = some us → ρ'[n]? = some a → ∃ vs,SqL K H' a vs ∧ Rls K ρ' H' us vs) :
  ∃ a,x = .ref a ∧ ∀ ρ' st' H',Step ρ H ρ' H' → SR K ρ' st' H' → g st' → ∃ vs,SqX c K H' a vs ∧ Rls K ρ' H' us vs:=by
 cases u with
 | tup ws =>
  cases h
  obtain ⟨a,vs,rfl,ha,ra⟩:=r.tup_
  exact ⟨a,rfl,fun ρ' st' H' e _ _ => ⟨vs,e.sqT ha,Rls.mono e _ _ ra⟩⟩
 | loc n =>
  obtain ⟨a,rfl,ha⟩:=r.loc_
  cases z:itemsOf st n with
  | none => simp only [sideOf,z] at h; cases h
  | some ws =>
   simp only [sideOf,z] at h
   cases h
   exact ⟨a,rfl,fun ρ' st' H' e s g => hsq s g (e.at_ ha)⟩
 | _ => cases h
theorem side_g {st:Store} {u:Val} {c:Bool} {us:List Val} {g:Store → Prop} (h:sideOf st u = some (c,us,g)):g st:=by
 cases u with
 | tup ws => cases h; exact True.intro
 | loc n =>
  cases z:itemsOf st n with
  | none => simp only [sideOf,z] at h; cases h
  | some ws => simp only [sideOf,z] at h; cases h; exact z
 | _ => cases h
theorem mi_zip (b1 b2:Bool) {elts:List Expr} {kt:Nat} {tp:Pos} {ea eb:Expr} {m:MA} (hg:Gl X "zip") (hm:X.mg "zip" = none) (ha:PA X [ea,eb] (tL X E m)) (hs:starEach [ea,eb] X.env = [(false,eval ea X.env),(false,eval eb X.env)]:=by rfl) (hs2:starEach [eb] X.env = [(false,eval eb X.env)]:=by rfl) :
  PI X (.Tuple elts kt tp) (.Call (.Name "zip" p) [ea,eb] [] pos) (tI X E (iZip2 b1 b2 m)):=by
 refine PI.imp (pi_zip b1 b2 hg hm ha hs hs2) ?_
 rintro σ H R ⟨μ,ρ,st,rs,sr,h⟩
 refine go (R1:=Rls X.K) μ ρ st rs sr h fun us st1 ρ1 H1 xs e1 sr1 r1 h1 => ?_
 split at h1
 ·rename_i u w
  refine bcn fun hNO => ?_
  obtain ⟨x,y,rfl,rx,ry⟩:=r1.un2
  refine hNO ?_; clear hNO
  split at h1
  ·rename_i c1 us1 g1 c2 us2 g2 z1 z2
   split at h1
   ·rename_i hc
    refine bcn fun hNO => ?_
    obtain ⟨rfl,rfl⟩:=hc
    obtain ⟨a,rfl,ka⟩:=side_sq sr1 rx z1 fun s g h => itemsOf_sq s g h
    obtain ⟨b,rfl,kb⟩:=side_sq sr1 ry z2 fun s g h => itemsOf_sq s g h
    obtain ⟨v1,q1,_⟩:=ka ρ1 st1 H1 (Step.refl _ _) sr1 (side_g z1)
    obtain ⟨v2,q2,_⟩:=kb ρ1 st1 H1 (Step.refl _ _) sr1 (side_g z2)
    refine hNO ?_; clear hNO
    refine ⟨a,b,rfl,⟨v1,q1⟩,⟨v2,q2⟩,h1 ρ1 H1 _ (Step.refl _ _) sr1 ?_⟩
    intro ρ' st' H' e s g i
    refine bcn fun hNO => ?_
    obtain ⟨w1,s1,t1⟩:=ka ρ' st' H' e s g.1
    obtain ⟨w2,s2,t2⟩:=kb ρ' st' H' e s g.2
    obtain ⟨k1,k2⟩:=zipL_at us1 us2 i
    refine hNO ?_; clear hNO
    refine ⟨fun z hz => ?_,fun hi => ⟨w1,w2,s1,s2,?_⟩⟩
    ·refine bcn fun hNO => ?_
     obtain ⟨u',w',e1',e2',rfl⟩:=k1 z hz
     obtain ⟨p1,p2,p3⟩:=t1.get e1'
     obtain ⟨o1,o2,o3⟩:=t2.get e2'
     refine hNO ?_; clear hNO
     refine ⟨⟨w1,w2,p1,o1,s1,s2,p2,o2⟩,fun x' H'' y' => ?_⟩
     refine bcn fun hNO => ?_
     obtain ⟨pp,x1,y1,rfl,hp,rfl,f1,f2⟩:=y'
     have c1:=(f1 w1 s1).symm.trans p2
     have c2:=(f2 w2 s2).symm.trans o2
     cases c1
     cases c2
     refine hNO ?_; clear hNO
     exact ⟨Step.same (same_upd hp),s.grow (same_upd hp),Rl.mkTup upd_same (Rls.mono (Step.same (same_upd hp)) _ _ (Rls.cons p3 (Rls.one o3)))⟩
    ·rw [← t1.length,← t2.length]; exact k2 hi
   ·exact h1.elim
  ·exact h1.elim
 ·exact h1.elim
end
open Classical in
noncomputable def forL (g:Store → Prop) (a:AS) (body:MB):List Val → MB
 | [],μ,st => if g st then .nx μ st else .bad
 | u :: us,μ,st => if g st then (match a u μ with
  | some μ1 => match body μ1 st with
   | .nx μ' st' => forL g a body us μ' st'
   | .ct μ' st' => forL g a body us μ' st'
   | .bk μ' st' => .nx μ' st'
   | .rt v st' => .rt v st'
   | .er c μ' st' => .er c μ' st'
   | .bad => .bad
  | none => .bad) else .bad
noncomputable def sFor (it:MI) (a:AS) (body:MB):MB:=fun μ st => (it μ st).sb μ fun p st' => forL p.2 a body p.1 μ st'
section
variable {X:Cx} {E:XK} {tg:Expr} {pos p:Pos}
theorem ms_for {iter:Expr} {sb:List Stmt} {it:MI} {a:AS} {body:MB} (hp:PassesOwn (model X.prog X.w) X.A X.env X.xe) (hc:X.calm = true) (hi:PI X tg iter (tI X E it)) (hg:PG X tg (tA (wo X) a)) (hb:PSs X sb (tS X E body))
  (hs:∀ x,foldedSetIterable iter X.env x = pure x:=by intro _; rfl):PS X (.For tg iter sb [] pos) (tS X E (sFor it a body)):=by
 refine PS.imp (ps_for hp hc hi hg hb hs) ?_
 rintro D σ H ⟨μ,ρ,st,rs,sr,h⟩
 refine goS (R1:=ItR X.K) μ ρ st rs sr h fun pr st1 ρ1 H1 J e1 sr1 rJ h1 => ?_
 obtain ⟨us,g⟩:=pr
 refine ⟨fun i m σ' H' => m = us.length - i ∧ i ≤ us.length ∧ ∃ μ' ρ' st',Step ρ1 H1 ρ' H' ∧ RS (wo X) ρ' H' μ' σ' ∧ SR X.K ρ' st' H' ∧ wS (wo X) E ρ' H' D (forL g a body (us.drop i) μ' st'),
  ⟨us.length,by simp,Nat.zero_le _,μ,ρ1,st1,Step.refl _ _,rs.mono e1,sr1,h1⟩,?_⟩
 rintro i m σ' H' ⟨rfl,hi,μ',ρ',st',e',rs',sr',h'⟩
 by_cases hlt:i < us.length
 ·rw [List.drop_eq_getElem_cons hlt] at h'
  unfold forL at h'
  by_cases hg':g st'
  ·refine bcn fun hNO => ?_
   rw [if_pos hg'] at h'
   obtain ⟨k1,k2⟩:=rJ ρ' st' H' e' sr' hg' i
   obtain ⟨go',yl⟩:=k1 _ (List.getElem?_eq_getElem hlt)
   refine hNO ?_; clear hNO
   refine .inr ⟨go',fun σ2 H2 => i + 1 ≤ us.length ∧ ∃ μ2 ρ2 st2,Step ρ1 H1 ρ2 H2 ∧ RS (wo X) ρ2 H2 μ2 σ2 ∧ SR X.K ρ2 st2 H2 ∧ wS (wo X) E ρ2 H2 D (forL g a body (us.drop (i + 1)) μ2 st2),fun σ2 H2 n => ⟨us.length - (i + 1),by omega,rfl,n.1,n.2⟩,fun x H2 y => ?_⟩
   refine bcn fun hNO => ?_
   obtain ⟨e2,sr2,r2⟩:=yl x H2 y
   refine hNO ?_; clear hNO
   cases z:a us[i] μ' with
   | none => rw [z] at h'; exact h'.elim
   | some μ1 =>
    rw [z] at h'
    dsimp only at h'
    refine ⟨μ',ρ',us[i],μ1,rs'.mono e2,r2,z,fun σ3 rs3 => ⟨μ1,ρ',st',rs3,sr2,?_⟩⟩
    cases zb:body μ1 st' with
    | nx μ4 st4 =>
     rw [zb] at h'
     intro ρ4 H4 σ4 e4 sr4 rs4
     exact ⟨by omega,μ4,ρ4,st4,(e'.trans e2).trans e4,rs4,sr4,wS.mono h' (e2.trans e4)⟩
    | ct μ4 st4 =>
     rw [zb] at h'
     intro ρ4 H4 σ4 e4 sr4 rs4
     exact ⟨by omega,μ4,ρ4,st4,(e'.trans e2).trans e4,rs4,sr4,wS.mono h' (e2.trans e4)⟩
    | bk μ4 st4 => rw [zb] at h'; exact fun ρ4 H4 σ4 e4 sr4 rs4 => h' ρ4 H4 σ4 (e2.trans e4) sr4 rs4
    | rt v st4 => rw [zb] at h'; exact fun ρ4 H4 σ4 e4 sr4 rs4 => h' ρ4 H4 σ4 (e2.trans e4) sr4 rs4
    | er c μ4 st4 => rw [zb] at h'; obtain ⟨C,q1,q2⟩:=h'; exact ⟨C,q1,fun ρ4 H4 e4 sr4 => q2 ρ4 H4 (e2.trans e4) sr4⟩
    | bad => rw [zb] at h'; exact h'
  ·rw [if_neg hg'] at h'; exact h'.elim
 ·have hi':i = us.length:=by omega
  subst hi'
  rw [List.drop_length] at h'
  unfold forL at h'
  by_cases hg':g st'
  ·rw [if_pos hg'] at h'
   exact .inl ⟨(rJ ρ' st' H' e' sr' hg' us.length).2 (Nat.le_refl _),h' ρ' H' σ' (Step.refl _ _) sr' rs'⟩
  ·rw [if_neg hg'] at h'; exact h'.elim
end
noncomputable def whileN (t:MT) (body:MB):Nat → Env → Store → Option SRes
 | 0,_,_ => none
 | n + 1,μ,st => match t μ st with
  | .ok true st1 => match body μ st1 with
   | .nx μ' st' => whileN t body n μ' st'
   | .ct μ' st' => whileN t body n μ' st'
   | .bk μ' st' => some (.nx μ' st')
   | .rt v st' => some (.rt v st')
   | .er c μ' st' => some (.er c μ' st')
   | .bad => some .bad
  | .ok false st1 => some (.nx μ st1)
  | .err c st1 => some (.er c μ st1)
  | .bad => some .bad
open Classical in
noncomputable def sWhile (t:MT) (body:MB):MB:=fun μ st => if h:∃ n r,whileN t body n μ st = some r then h.choose_spec.choose else .bad
theorem whileN_mono {t:MT} {body:MB}:∀ {n m:Nat} {μ:Env} {st:Store} {r r':SRes},whileN t body n μ st = some r → whileN t body m μ st = some r' → r = r'
 | 0,_,_,_,_,_,h,_ => by cases h
 | _ + 1,0,_,_,_,_,_,h => by cases h
 | n + 1,m + 1,μ,st,r,r',h,h' => by
  unfold whileN at h h'
  split at h
  ·rename_i st1 e
   rw [e] at h'
   dsimp only at h'
   split at h
   all_goals (rename_i eb; rw [eb] at h'; dsimp only at h')
   ·exact whileN_mono h h'
   ·exact whileN_mono h h'
   all_goals (cases h; cases h'; rfl)
  all_goals (rename_i e; rw [e] at h'; dsimp only at h'; cases h; cases h'; rfl)
theorem sWhile_of {t:MT} {body:MB} {n:Nat} {μ:Env} {st:Store} {r:SRes} (h:whileN t body n μ st = some r):sWhile t body μ st = r:=by
 have hx:∃ n r,whileN t body n μ st = some r:=⟨n,r,h⟩
 unfold sWhile
 rw [dif_pos hx]
 exact whileN_mono hx.choose_spec.choose_spec h
section
variable {X:Cx} {E:XK} {pos:Pos}
theorem ms_while {c:Expr} {sb:List Stmt} {t:MT} {body:MB} (hp:PassesOwn (model X.prog X.w) X.A X.env X.xe) (hc:PT X c (tT X E t)) (hb:PSs X sb (tS X E body)):PS X (.While c sb [] pos) (tS X E (sWhile t body)):=by
 refine PS.imp (ps_while hp hc hb) ?_
 rintro D σ H ⟨μ,ρ,st,rs,sr,h⟩
 unfold sWhile at h
 split at h
 ·rename_i hx
  have hr:=hx.choose_spec.choose_spec
  refine ⟨fun m σ' H' => ∃ μ' ρ' st' r,Step ρ H ρ' H' ∧ RS (wo X) ρ' H' μ' σ' ∧ SR X.K ρ' st' H' ∧ whileN t body m μ' st' = some r ∧ wS (wo X) E ρ' H' D r,⟨_,μ,ρ,st,_,Step.refl _ _,rs,sr,hr,h⟩,?_⟩
  rintro m σ' H' ⟨μ',ρ',st',r,e',rs',sr',hw,hq⟩
  cases m with
  | zero => cases hw
  | succ m =>
   unfold whileN at hw
   refine ⟨μ',ρ',st',rs',sr',?_⟩
   cases z:t μ' st' with
   | ok k st1 =>
    rw [z] at hw
    intro ρ1 H1 k' e1 sr1 ek
    cases ek
    cases k with
    | true =>
     dsimp only at hw
     rw [if_pos rfl]
     refine ⟨fun σ2 H2 => ∃ μ2 ρ2 st2 r2,Step ρ H ρ2 H2 ∧ RS (wo X) ρ2 H2 μ2 σ2 ∧ SR X.K ρ2 st2 H2 ∧ whileN t body m μ2 st2 = some r2 ∧ wS (wo X) E ρ2 H2 D r2,fun σ2 H2 n => ⟨m,Nat.lt_succ_self m,n⟩,μ',ρ1,st1,rs'.mono e1,sr1,?_⟩
     cases zb:body μ' st1 with
     | nx μ4 st4 =>
      rw [zb] at hw
      intro ρ4 H4 σ4 e4 sr4 rs4
      exact ⟨μ4,ρ4,st4,r,(e'.trans e1).trans e4,rs4,sr4,hw,wS.mono hq (e1.trans e4)⟩
     | ct μ4 st4 =>
      rw [zb] at hw
      intro ρ4 H4 σ4 e4 sr4 rs4
      exact ⟨μ4,ρ4,st4,r,(e'.trans e1).trans e4,rs4,sr4,hw,wS.mono hq (e1.trans e4)⟩
     | bk μ4 st4 => rw [zb] at hw; cases hw; exact fun ρ4 H4 σ4 e4 sr4 rs4 => hq ρ4 H4 σ4 (e1.trans e4) sr4 rs4
     | rt v st4 => rw [zb] at hw; cases hw; exact fun ρ4 H4 σ4 e4 sr4 rs4 => hq ρ4 H4 σ4 (e1.trans e4) sr4 rs4
     | er c μ4 st4 => rw [zb] at hw; cases hw; obtain ⟨C,q1,q2⟩:=hq; exact ⟨C,q1,fun ρ4 H4 e4 sr4 => q2 ρ4 H4 (e1.trans e4) sr4⟩
     | bad => rw [zb] at hw; cases hw; exact hq
    | false =>
     cases hw
     rw [if_neg Bool.false_ne_true]
     exact hq ρ1 H1 σ' e1 sr1 (rs'.mono e1)
   | err c st1 => rw [z] at hw; cases hw; exact hq
   | bad => rw [z] at hw; cases hw; exact hq
 ·exact h.elim
end
end MN
namespace MN
open PySem PySem.Spec L2
open PyProof.Rows hiding St
noncomputable def capM (k:Nat) (caps:List Nat) (μ:Env):Env:=List.replicate k none ++ caps.map fun j => (μ[j]?).getD none
theorem RS.cap {W:Wo} {ρ:List Addr} {H:Hp} {μ:Env} {σ:L2.St} (r:RS W ρ H μ σ) (k:Nat) (caps:List Nat):RS W ρ H (capM k caps μ) (capS k caps σ):=by
 refine ⟨by simp [capM,capS],fun i u e => ?_⟩
 unfold capM at e
 rcases Nat.lt_or_ge i k with q | q
 ·rw [List.getElem?_append_left (by rw [List.length_replicate]; exact q),List.getElem?_replicate,if_pos q] at e
  cases e
 ·rw [List.getElem?_append_right (by rw [List.length_replicate]; exact q),List.length_replicate,List.getElem?_map] at e
  cases z:caps[i - k]? with
  | none => rw [z] at e; cases e
  | some j =>
   rw [z] at e
   have e':(μ[j]?).getD none = some u:=Option.some.inj e
   have e2:μ[j]? = some (some u):=by
    cases y:μ[j]? with
    | none => rw [y] at e'; cases e'
    | some w => rw [y] at e'; exact congrArg _ e'
   obtain ⟨v,h1,h2⟩:=r.at_ j u e2
   refine ⟨v,?_,h2⟩
   unfold capS
   rw [List.getElem?_append_right (by rw [List.length_replicate]; exact q),List.length_replicate,List.getElem?_map,z]
   show some ((σ[j]?).getD none) = _
   rw [h1]
   rfl
open Classical in
noncomputable def compL (g:Store → Prop) (a:AS) (c:MT) (e:ME):List Val → Env → Store → List Val → Res (List Val)
 | [],_,st,ys => if g st then .ok ys st else .bad
 | u :: us,τ,st,ys => if g st then (match a u τ with
  | some τ1 => match c τ1 st with
   | .ok true st1 => match e τ1 st1 with
    | .ok y st2 => compL g a c e us τ1 st2 (ys ++ [y])
    | .err _ _ => .bad
    | .bad => .bad
   | .ok false st1 => compL g a c e us τ1 st1 ys
   | .err _ _ => .bad
   | .bad => .bad
  | none => .bad) else .bad
noncomputable def mComp (k:Nat) (caps:List Nat) (it:MI) (a:AS) (c:MT) (e:ME):ME:=fun μ st => (it μ st).bind fun p st1 =>
 if p.1.length ≤ sizeLine then (compL p.2 a c e p.1 (capM k caps μ) st1 []).bind fun ys st2 => .ok (.loc st2.length) (st2 ++ [.lst ys]) else .bad
noncomputable def tTrueM:MT:=fun _ st => .ok true st
noncomputable abbrev W0 (X:Cx):Wo:=⟨X.K,X.mg,[]⟩
section
variable {X:Cx} {E:XK} {tg elt iter:Expr} {ifs:List Expr} {scope:Scope} {pos spos:Pos} {N:List Str} {cl:List (Str × Addr)} {k:Nat} {caps:List Nat} {it:MI} {a:AS} {c:MT} {e:ME}
theorem comp_read (hpn:X.pn = []) {σ:L2.St} {H:Hp} {Q:VK} (h:tE X E (mComp k caps it a c e) σ H Q):tComp k caps (tI X E it) (tA (W0 X) a) (tG (W0 X) E0 RB c) (tG (W0 X) E0 (Rl X.K) e) σ H Q:=by
 refine bcn fun hNO => ?_
 obtain ⟨μ,ρ,st,rs,sr,h⟩:=h
 refine hNO ?_; clear hNO
 refine tComp_by (go (R1:=ItR X.K) μ ρ st rs sr h fun pr st1 ρ1 H1 J e1 sr1 rJ h1 => ?_)
 obtain ⟨us,g⟩:=pr
 have ew:wo X = W0 X:=by show Wo.mk _ _ _ = _; rw [hpn]
 have rs1:=rs.mono e1
 rw [ew] at rs1 h1
 dsimp only at h1
 split at h1
 ·rename_i hz
  refine comp_by us.length hz (fun i ys τ H' => ∃ μτ ρ' st' yv,Step ρ1 H1 ρ' H' ∧ RS (W0 X) ρ' H' μτ τ ∧ SR X.K ρ' st' H' ∧ Rls X.K ρ' H' yv ys ∧ yv.length ≤ i ∧ wR (W0 X) E (Rl X.K) ρ' H' Q ((compL g a c e (us.drop i) μτ st' yv).bind fun (zs:List Val) (st2:Store) => Res.ok (Val.loc st2.length) (st2 ++ [Cell.lst zs])))
   ⟨capM k caps μ,ρ1,st1,[],Step.refl _ _,rs1.cap k caps,sr1,Rls.nil,Nat.le_refl _,h1⟩ ?_ ?_ ?_ ?_ ?_
  ·rintro i ys τ H' hi ⟨μτ,ρ',st',yv,e',rs',sr',ry,hl,hq⟩
   rw [List.drop_eq_getElem_cons hi] at hq
   unfold compL at hq
   by_cases hg':g st'
   ·exact ((rJ ρ' st' H' e' sr' hg' i).1 _ (List.getElem?_eq_getElem hi)).1
   ·rw [if_neg hg'] at hq; exact hq.elim
  ·rintro ys τ H' ⟨μτ,ρ',st',yv,e',rs',sr',ry,hl,hq⟩
   rw [List.drop_length] at hq
   unfold compL at hq
   by_cases hg':g st'
   ·exact (rJ ρ' st' H' e' sr' hg' us.length).2 (Nat.le_refl _)
   ·rw [if_neg hg'] at hq; exact hq.elim
  ·rintro i ys τ H' ⟨μτ,ρ',st',yv,e',rs',sr',ry,hl,hq⟩
   rw [← ry.length]; exact hl
  ·rintro i ys τ H' x H2 hi ⟨μτ,ρ',st',yv,e',rs',sr',ry,hl,hq⟩ y K1 hK
   rw [List.drop_eq_getElem_cons hi] at hq
   unfold compL at hq
   by_cases hg':g st'
   ·refine bcn fun hNO => ?_
    rw [if_pos hg'] at hq
    obtain ⟨e2,sr2,r2⟩:=((rJ ρ' st' H' e' sr' hg' i).1 _ (List.getElem?_eq_getElem hi)).2 x H2 y
    refine hNO ?_; clear hNO
    cases z:a us[i] μτ with
    | none => rw [z] at hq; exact hq.elim
    | some τ1 =>
     rw [z] at hq
     dsimp only at hq
     refine ⟨μτ,ρ',us[i],τ1,rs'.mono e2,r2,z,fun σ3 rs3 => ⟨τ1,ρ',st',rs3,sr2,?_⟩⟩
     cases zc:c τ1 st' with
     | ok b st3 =>
      rw [zc] at hq
      intro ρ3 H3 b' e3 sr3 eb
      cases eb
      cases b with
      | true =>
       dsimp only at hq
       rw [if_pos rfl]
       refine ⟨τ1,ρ3,st3,rs3.mono e3,sr3,?_⟩
       cases ze:e τ1 st3 with
       | ok v st4 =>
        rw [ze] at hq
        intro ρ4 H4 y4 e4 sr4 r4
        exact hK _ _ _ ⟨τ1,ρ4,st4,yv ++ [v],((e'.trans e2).trans e3).trans e4,(rs3.mono e3).mono e4,sr4,(Rls.mono ((e2.trans e3).trans e4) _ _ ry).append (Rls.one r4),by rw [List.length_append,List.length_singleton]; lia,wR.mono hq ((e2.trans e3).trans e4)⟩
       | err c' st4 => rw [ze] at hq; exact hq.elim
       | bad => rw [ze] at hq; exact hq.elim
      | false =>
       dsimp only at hq
       rw [if_neg Bool.false_ne_true]
       exact hK _ _ _ ⟨τ1,ρ3,st3,yv,(e'.trans e2).trans e3,rs3.mono e3,sr3,Rls.mono (e2.trans e3) _ _ ry,by lia,wR.mono hq (e2.trans e3)⟩
     | err c' st3 => rw [zc] at hq; exact hq.elim
     | bad => rw [zc] at hq; exact hq.elim
   ·rw [if_neg hg'] at hq; exact hq.elim
  ·rintro ys τ H' p ⟨μτ,ρ',st',yv,e',rs',sr',ry,hl,hq⟩ hp
   rw [List.drop_length] at hq
   unfold compL at hq
   by_cases hg':g st'
   ·refine bcn fun hNO => ?_
    rw [if_pos hg'] at hq
    obtain ⟨k1,k2,k3⟩:=new_lst sr' ry hp
    refine hNO ?_; clear hNO
    exact hq _ _ _ k1 k2 k3
   ·rw [if_neg hg'] at hq; exact hq.elim
 ·exact h1.elim
theorem me_comp (hc:X.calm = true) (hpn:X.pn = []) (B:Caps X N scope cl k caps) (hi:PI X tg iter (tI X E it)) (hg:∀ C fp s H,PG (cxB X N scope cl C fp s H) tg (tA (W0 X) a)) (hif:∀ C fp s H,PIf (cxB X N scope cl C fp s H) ifs (tG (W0 X) E0 RB c))
  (he:∀ C fp s H,PE (cxB X N scope cl C fp s H) elt (tG (W0 X) E0 (Rl X.K) e)) (hs:∀ x,foldedSetIterable iter X.env x = pure x:=by intro _; rfl):PE X (.ListComp elt [⟨tg,iter,ifs,0⟩] scope pos) (tE X E (mComp k caps it a c e)) :=
 PE.imp (pe_comp hc B hi hg hif he hs) fun _ _ _ h => comp_read hpn h
theorem ms_setComp (i:Nat) {y:Str} {py:Pos} (hN:X.N.Nodup) (hc:X.calm = true) (hpn:X.pn = []) (B:Caps X N scope cl k caps) (hi:PI X tg iter (tI X E it)) (hg:∀ C fp s H,PG (cxB X N scope cl C fp s H) tg (tA (W0 X) a)) (hif:∀ C fp s H,PIf (cxB X N scope cl C fp s H) ifs (tG (W0 X) E0 RB c))
  (he:∀ C fp s H,PE (cxB X N scope cl C fp s H) elt (tG (W0 X) E0 (Rl X.K) e)) (hy:X.N[i]? = some y:=by rfl) (hx:Loc X.env.scope y:=by first | exact Or.inl rfl | exact Or.inr rfl) (hsw:swapsWith (.ListComp elt [⟨tg,iter,ifs,0⟩] scope pos) (some (.Name y py)) spos.line X.env = pure true:=by rfl)
  (hs:∀ x,foldedSetIterable iter X.env x = pure x:=by intro _; rfl) (hf:X.fn y = true ∨ X.env.scope.names.lookup y = some .local:=by first | exact .inl rfl | exact .inr rfl | assumption) :
  PS X (.Assign [.Name y py] (.ListComp elt [⟨tg,iter,ifs,0⟩] scope pos) spos) (tS X E (sSet i (mComp k caps it a c e))) :=
 PS.imp (L2.ps_setComp hN hy hx hc B hi hg hif he hsw hs hf) fun _ _ _ h => comp_read hpn (set_read h)
theorem mif_nil {C fp s H}:PIf (cxB X N scope cl C fp s H) [] (tG (W0 X) E0 RB tTrueM):=by
 intro pins s' σ H' Q I q
 refine pif_nil pins s' σ H' Q I ?_
 obtain ⟨μ,ρ,st,rs,sr,h⟩:=q
 exact h ρ H' true (Step.refl _ _) sr rfl
theorem mif_one {cc:Expr} {C fp s H} (h:PT (cxB X N scope cl C fp s H) cc (tG (W0 X) E0 RB c)):PIf (cxB X N scope cl C fp s H) [cc] (tG (W0 X) E0 RB c):=pif_one h
theorem passB {P:Program} {w:World} {C fp s H}:Passes (CX1 P w) (cxB X N scope cl C fp s H) E0:=by
 rintro pins σ H' s' e s2 I ⟨ea,cls,H2,_,_,q⟩
 exact q.elim
end
noncomputable abbrev FM:=Val → List Val → Store → Res Val
noncomputable def rMt (W:Wo) (E:XK) (f:FM):V → List V → Hp → VK → Prop:=fun x xs H Q => ∃ ρ st u us,SR W.K ρ st H ∧ Rl W.K ρ H u x ∧ Rls W.K ρ H us xs ∧ wR W E (Rl W.K) ρ H Q (f u us st)
noncomputable def isLst (st:Store):Val → Bool
 | .loc n => match st[n]? with
  | some (.lst _) => true
  | _ => false
 | _ => false
noncomputable def mMtL (f:FM) (o:ME) (a:MA):ME:=fun μ st => (o μ st).bind fun x st1 => if isLst st1 x = true then (a μ st1).bind fun xs st2 => f x xs st2 else .bad
noncomputable def appendF:FM
 | .loc n,[v],st => match st[n]? with
  | some (.lst us) => if us.length < sizeLine then .ok .non (st.set n (.lst (us ++ [v]))) else .bad
  | _ => .bad
 | _,_,_ => .bad
section
variable {X:Cx} {E:XK} {o e:Expr} {es:List Expr} {mo:ME} {ms:MA} {apos cpos:Pos} {f:FM}
theorem MtM.imp {id:String} {r r':V → List V → Hp → VK → Prop} (h:MtM X id r) (k:∀ x xs H Q,r' x xs H Q → r x xs H Q):MtM X id r':=fun pins s σ H x xs v us Q I rx rs q => h pins s σ H x xs v us Q I rx rs (k x xs H Q q)
theorem put_lst {K:PySem.W.Frag} {ρ:List Addr} {st:Store} {H:Hp} {n:Nat} {us us':List Val} {a:Addr} {vs vs':List V} (sr:SR K ρ st H) (h:st[n]? = some (.lst us)) (ha:ρ[n]? = some a) (hH:H a = some (.lst vs)) (r:Rls K ρ H us' vs') :
  Step ρ H ρ (upd H a (.lst vs')) ∧ SR K ρ (st.set n (.lst us')) (upd H a (.lst vs')):=by
 have e:Step ρ H ρ (upd H a (.lst vs')):=Step.put hH (fun _ z => by cases z) (fun _ _ z => by cases z)
 exact ⟨e,sr.set h rfl rfl ha hH (fun _ z => by cases z) (fun _ _ z => by cases z) ⟨vs',upd_same,Rls.mono e _ _ r⟩⟩
theorem mt_appendM:MtM X "list.append" (rMt (wo X) E appendF):=by
 refine MtM.imp mt_append ?_
 rintro x xs H Q ⟨ρ,st,u,us,sr,r1,r2,h⟩
 unfold appendF at h
 split at h
 ·rename_i n v
  obtain ⟨a,rfl,ha⟩:=r1.loc_
  obtain ⟨y,rfl,ry⟩:=r2.un1
  split at h
  ·rename_i ws hw
   split at h
   ·rename_i hz
    obtain ⟨vs,hH,rv⟩:=sr.cell n _ a hw ha
    refine ⟨a,vs,y,rfl,rfl,hH,by rw [← rv.length]; exact hz,?_⟩
    obtain ⟨k1,k2⟩:=put_lst sr hw ha hH (rv.append (Rls.one ry))
    exact h ρ _ _ k1 k2 Rl.mkNon
   ·exact h.elim
  ·exact h.elim
 ·exact h.elim
theorem isLst_ty {K:PySem.W.Frag} {ρ:List Addr} {st:Store} {H:Hp} {u:Val} {x:V} (sr:SR K ρ st H) (r:Rl K ρ H u x) (h:isLst st u = true):tyV K "list" x H:=by
 cases u with
 | loc n =>
  obtain ⟨a,rfl,ha⟩:=r.loc_
  obtain ⟨c,hc,kc⟩:=sr.there ha
  simp only [isLst,hc] at h
  cases c with
  | lst us => obtain ⟨vs,h1,_⟩:=kc; exact .inl ⟨rfl,vs,SqL.of h1⟩
  | _ => cases h
 | _ => cases h
theorem me_mtL {name:Str} {id:String} (slot:Slot "list" name id) (hty:typeOf (.builtin id) = pure (.type "method_descriptor")) (hm:MtM X id (rMt (wo X) E f)) (ho:PE X o (tE X E mo)) (ha:PA X (e :: es) (tL X E ms))
  (hbase:attributeBase o name X.env (eval o X.env) = eval o X.env:=by rfl)
  (hfew:((backTo cpos (starEach (e :: es) X.env)).all (fun x => !x.1) && (backToKw cpos (keywordEach [] X.env)).all (fun x => x.1.isSome)
   && decide ((e :: es).length + ([]:List Keyword).length + (if ([]:List Keyword).isEmpty then 0 else 1) < 30)) = true:=by rfl)
  (hline:(apos.endLine == cpos.line) = true:=by rfl) (hs:starEach (e :: es) X.env = (false,eval e X.env) :: starEach es X.env:=by rfl) (hplain:(backTo cpos (starEach es X.env)).any (·.1) = false:=by rfl) :
  PE X (.Call (.Attribute o name apos) (e :: es) [] cpos) (tE X E (mMtL f mo ms)):=by
 refine PE.imp (pe_bm PySem.F.plainAttrs_list slot hty hm ho ha hbase hfew hline hs hplain) ?_
 rintro σ H Q ⟨μ,ρ,st,rs,sr,h⟩
 refine go μ ρ st rs sr h fun u st1 ρ1 H1 x e1 sr1 r1 h1 => ?_
 split at h1
 ·rename_i hz
  refine ⟨isLst_ty sr1 r1 hz,?_⟩
  refine go (R1:=Rls X.K) μ ρ1 st1 (rs.mono e1) sr1 h1 fun us st2 ρ2 H2 xs e2 sr2 r2 h2 => ?_
  exact ⟨ρ2,st2,u,us,sr2,Rl.mono e2 _ _ r1,r2,h2⟩
 ·exact h1.elim
end
end MN
namespace MN
open PySem PySem.Spec L2
open PyProof.Rows hiding St
noncomputable def wRE {α β:Type} (W:Wo) (R:List Addr → Hp → α → β → Prop) (ρ:List Addr) (H:Hp) (Q:β → Hp → Prop) (EX:EH):Res α → Prop
 | .ok u st' => ∀ ρ' H' v,Step ρ H ρ' H' → SR W.K ρ' st' H' → R ρ' H' u v → Q v H'
 | .err c st' => ∃ C,W.mg c = some (.ref C) ∧ ∀ ρ' H' ea,Step ρ H ρ' H' → SR W.K ρ' st' H' → EX (.ref C) ea H'
 | .bad => False
theorem wRE.mono {α β:Type} {W:Wo} {R:List Addr → Hp → α → β → Prop} {ρ ρ':List Addr} {H H':Hp} {Q:β → Hp → Prop} {EX:EH} {r:Res α} (h:wRE W R ρ H Q EX r) (e:Step ρ H ρ' H'):wRE W R ρ' H' Q EX r:=by
 cases r with
 | ok u st => exact fun ρ2 H2 v e2 s r => h ρ2 H2 v (e.trans e2) s r
 | err c st => obtain ⟨C,h1,h2⟩:=h; exact ⟨C,h1,fun ρ2 H2 ea e2 s => h2 ρ2 H2 ea (e.trans e2) s⟩
 | bad => exact h
noncomputable def tEE (X:Cx) (m:ME):TEE:=fun σ H Q EX => ∃ μ ρ st,RS (wo X) ρ H μ σ ∧ SR X.K ρ st H ∧ wRE (wo X) (Rl X.K) ρ H Q EX (m μ st)
noncomputable def wSE (W:Wo) (ρ:List Addr) (H:Hp) (D:Ends) (EX:EK):SRes → Prop
 | .nx μ st => ∀ ρ' H' σ',Step ρ H ρ' H' → SR W.K ρ' st H' → RS W ρ' H' μ σ' → D.nx σ' H'
 | .rt v st => ∀ ρ' H' x,Step ρ H ρ' H' → SR W.K ρ' st H' → Rl W.K ρ' H' v x → D.rt x H'
 | .bk μ st => ∀ ρ' H' σ',Step ρ H ρ' H' → SR W.K ρ' st H' → RS W ρ' H' μ σ' → D.bk σ' H'
 | .ct μ st => ∀ ρ' H' σ',Step ρ H ρ' H' → SR W.K ρ' st H' → RS W ρ' H' μ σ' → D.ct σ' H'
 | .er c μ st => ∃ C,W.mg c = some (.ref C) ∧ ∀ ρ' H' σ' ea,Step ρ H ρ' H' → SR W.K ρ' st H' → RS W ρ' H' μ σ' → EX (.ref C) ea σ' H'
 | .bad => False
theorem wSE.mono {W:Wo} {ρ ρ':List Addr} {H H':Hp} {D:Ends} {EX:EK} {r:SRes} (h:wSE W ρ H D EX r) (e:Step ρ H ρ' H'):wSE W ρ' H' D EX r:=by
 cases r with
 | nx μ st => exact fun ρ2 H2 σ2 e2 s r => h ρ2 H2 σ2 (e.trans e2) s r
 | rt v st => exact fun ρ2 H2 x e2 s r => h ρ2 H2 x (e.trans e2) s r
 | bk μ st => exact fun ρ2 H2 σ2 e2 s r => h ρ2 H2 σ2 (e.trans e2) s r
 | ct μ st => exact fun ρ2 H2 σ2 e2 s r => h ρ2 H2 σ2 (e.trans e2) s r
 | er c μ st => obtain ⟨C,h1,h2⟩:=h; exact ⟨C,h1,fun ρ2 H2 σ2 ea e2 s r => h2 ρ2 H2 σ2 ea (e.trans e2) s r⟩
 | bad => exact h
noncomputable def tSE (X:Cx) (m:MB):TSE:=fun D EX σ H => ∃ μ ρ st,RS (wo X) ρ H μ σ ∧ SR X.K ρ st H ∧ wSE (wo X) ρ H D EX (m μ st)
noncomputable def noE {α:Type} (m:Env → Store → Res α):Env → Store → Res α:=fun μ st => match m μ st with
 | .ok v st' => .ok v st'
 | .err _ _ => .bad
 | .bad => .bad
section
variable {X:Cx} {pos p:Pos} {e:Expr} {es:List Expr} {m:ME} {ms:MA} {f:FN} {x:Str}
theorem PEE.imp {t t':TEE} (h:PEE X e t) (k:∀ σ H Q EX,t' σ H Q EX → t σ H Q EX):PEE X e t':=fun pins s σ H Q EX I q => h pins s σ H Q EX I (k σ H Q EX q)
theorem PSE.imp {st:Stmt} {t t':TSE} (h:PSE X st t) (k:∀ D EX σ H,t' D EX σ H → t D EX σ H):PSE X st t':=fun pins s σ H D EX I q => h pins s σ H D EX I (k D EX σ H q)
theorem mee_call {k:Nat} {fa:Addr} {fd:FuncData} {ps:List Str} (F:FnOk X.prog X.w X.K X.mg X.base (CX1 X.prog X.w) k fa fd ps (spM ⟨X.K,X.mg,[]⟩ f)) (hr:Room k X.A) (hg:Gl X x) (hm:X.mg x = some (.ref fa)) (hk:PySem.W.keepIn X.K (.ref fa) = true) (hb:Binds X.K fd ps []) (hfn:∀ y,X.fn y = true) (ha:∀ W,PA (X.wish W) (e :: es) (tL X E0 ms))
  (hdb:(x == ("__debug__":Str)) = false:=by decide) (he:starEach (e :: es) X.env = (false,eval e X.env) :: starEach es X.env:=by rfl) (hpl:(backTo pos (starEach es X.env)).any (·.1) = false:=by rfl) :
  PEE X (.Call (.Name x p) (e :: es) [] pos) (tEE X (mCall f (noE ms))):=by
 refine PEE.imp (pee_call F hr hg hm hk hb hfn ha hdb he hpl) ?_
 rintro σ H Q EX ⟨μ,ρ,st,rs,sr,h⟩
 refine ⟨μ,ρ,st,rs,sr,?_⟩
 unfold mCall noE at h
 cases z:ms μ st with
 | ok us st1 =>
  rw [z] at h
  intro ρ1 H1 vs e1 sr1 r1
  refine ⟨us,ρ1,st1,r1,sr1,?_⟩
  have h':wRE (wo X) (Rl X.K) ρ1 H1 Q EX (f us st1):=wRE.mono h e1
  revert h'
  cases f us st1 with
  | ok u st2 => exact fun q => q
  | err c st2 => exact fun ⟨C,q1,q2⟩ => ⟨C,q1,fun ρ2 H2 e2 s2 ea => q2 ρ2 H2 ea e2 s2⟩
  | bad => exact fun q => q
 | err c st' => rw [z] at h; exact h.elim
 | bad => rw [z] at h; exact h
theorem wSE_sb {σ:L2.St} {H:Hp} {D:Ends} {EX:EK} {k:Val → Store → SRes} {μ:Env} {ρ:List Addr} {st:Store} (rs:RS (wo X) ρ H μ σ) (sr:SR X.K ρ st H) (h:wSE (wo X) ρ H D EX ((m μ st).sb μ k)) {Q:VK}
  (c:∀ u st1 ρ1 H1 x,Step ρ H ρ1 H1 → SR X.K ρ1 st1 H1 → Rl X.K ρ1 H1 u x → wSE (wo X) ρ1 H1 D EX (k u st1) → Q x H1):tEE X m σ H Q fun cls ea H' => EX cls ea σ H':=by
 refine ⟨μ,ρ,st,rs,sr,?_⟩
 cases z:m μ st with
 | ok u st1 => rw [z] at h; exact fun ρ1 H1 x e1 sr1 r1 => c u st1 ρ1 H1 x e1 sr1 r1 (wSE.mono h e1)
 | err c' st1 => rw [z] at h; obtain ⟨C,q1,q2⟩:=h; exact ⟨C,q1,fun ρ2 H2 ea e2 s2 => q2 ρ2 H2 σ ea e2 s2 (rs.mono e2)⟩
 | bad => rw [z] at h; exact h
theorem mse_expr (he:PEE X e (tEE X m)) (hs:swapsWith e none pos.line X.env = pure false:=by rfl):PSE X (.Expr e pos) (tSE X (sExpr m)):=by
 refine PSE.imp (pse_expr he hs) ?_
 rintro D EX σ H ⟨μ,ρ,st,rs,sr,h⟩
 exact wSE_sb rs sr h fun u st1 ρ1 H1 x e1 sr1 r1 h1 => h1 ρ1 H1 σ (Step.refl _ _) sr1 (rs.mono e1)
theorem mse_one {s1:Stmt} {a:MB} (h:PSE X s1 (tSE X a)):PSEs X [s1] (tSE X a):=psse_one h
noncomputable abbrev MH:=Str → MB
noncomputable def hNil:MH:=fun _ _ _ => .bad
noncomputable def onlyRt:SRes → SRes
 | .rt v st => .rt v st
 | _ => .bad
noncomputable def hCons (sub:Str → Str → Option Bool) (x:Str) (suite:MB) (rest:MH):MH:=fun c μ st => match sub c x with
 | some true => onlyRt (suite μ st)
 | some false => rest c μ st
 | none => .bad
noncomputable def hAs (sub:Str → Str → Option Bool) (x:Str) (i:Nat) (suite:MB) (rest:MH):MH:=fun c μ st => match sub c x with
 | some true => onlyRt (suite (μ.set i (some (.exc c))) st)
 | some false => rest c μ st
 | none => .bad
noncomputable def sTry (kn:Str → Bool) (body:MB) (h:MH):MB:=fun μ st => match body μ st with
 | .er c μ' st' => if kn c = true then h c μ' st' else .bad
 | .nx μ' st' => .nx μ' st'
 | .rt v st' => .rt v st'
 | .bk μ' st' => .bk μ' st'
 | .ct μ' st' => .ct μ' st'
 | .bad => .bad
noncomputable def tHd (X:Cx) (h:MH):THs:=fun D EX cls ea σ H => ∃ c C μ ρ st,X.mg c = some (.ref C) ∧ cls = .ref C ∧ RS (wo X) ρ H μ σ ∧ SR X.K ρ st H ∧ wSE (wo X) ρ H D EX (h c μ st)
theorem PH.imp {hs:List ExceptHandler} {t t':THs} (h:PH X hs t) (k:∀ D EX cls ea σ H,t' D EX cls ea σ H → t D EX cls ea σ H):PH X hs t':=fun pins s σ H D EX ea cls J q => h pins s σ H D EX ea cls J (k D EX cls ea σ H q)
theorem mh_nil:PH X [] (tHd X hNil):=PH.imp ph_nil fun D EX cls ea σ H q => by
 refine bcn fun hNO => ?_
 obtain ⟨c,C,μ,ρ,st,_,_,_,_,h⟩:=q
 refine hNO ?_; clear hNO
 exact h
noncomputable def SubT (K:PySem.W.Frag) (mg:Str → Option Value) (sub:Str → Str → Option Bool):Prop:=∀ c x b C D,sub c x = some b → mg c = some (.ref C) → mg x = some (.ref D) → PySem.W.kitCls K (.ref C) (.ref D) = some b
theorem RlE.pn {K:PySem.W.Frag} {mg:Str → Option Value} {pn pn':List (Addr × Obj)} (hp:∀ q ∈ pn,q ∈ pn') {ρ:List Addr} {H:Hp} {u:Val} {v:V} (h:RlE ⟨K,mg,pn⟩ ρ H u v):RlE ⟨K,mg,pn'⟩ ρ H u v:=by
 cases u with
 | exc c => obtain ⟨a,oe,C,h1,h2,h3⟩:=h; exact ⟨a,oe,C,h1,hp _ h2,h3⟩
 | _ => exact h
theorem RS.pn {K:PySem.W.Frag} {mg:Str → Option Value} {pn pn':List (Addr × Obj)} (hp:∀ q ∈ pn,q ∈ pn') {ρ:List Addr} {H:Hp} {μ:Env} {σ:L2.St} (h:RS ⟨K,mg,pn⟩ ρ H μ σ):RS ⟨K,mg,pn'⟩ ρ H μ σ :=
 ⟨h.len,fun i u e => let ⟨v,h1,h2⟩:=h.at_ i u e; ⟨v,h1,h2.pn hp⟩⟩
theorem mh_as {n:Str} {i:Nat} {C:Addr} {np:Pos} {b₀:Stmt} {suite:List Stmt} {rest:List ExceptHandler} {sub:Str → Str → Option Bool} {s:MB} {r:MH} (hS:SubT X.K X.mg sub) (hN:X.N.Nodup) (hi:X.N[i]? = some n) (hl:X.env.scope.names.lookup n = some .local) (hg:Gl X x) (hm:X.mg x = some (.ref C))
  (hB:PySem.W.subIn X.K (.ref C) (.type "BaseException") = some true) (hs:∀ ea oe,PSs (L2.inH X ea oe) (b₀ :: suite) (tS (L2.inH X ea oe) E0 s)) (hr:PH X rest (tHd X r)) (hd:(x == ("__debug__":Str)) = false:=by decide) :
  PH X (.ExceptHandler (some (.Name x np)) (some n) (b₀ :: suite) pos :: rest) (tHd X (hAs sub x i s r)):=by
 refine PH.imp (ph_as hN hi hl hg hm hB hs hr hd) ?_
 rintro D EX cls ea σ H ⟨c,C',μ,ρ,st,h1,rfl,rs,sr,h⟩
 unfold hAs at h
 split at h
 ·rename_i e
  refine ⟨true,hS c x true C' C e h1 hm,?_⟩
  rw [if_pos rfl]
  intro oe hoe
  have rs':RS (wo (L2.inH X ea oe)) ρ H (μ.set i (some (.exc c))) (σ.set i (some (.ref ea))) :=
   (RS.pn (fun q hq => List.mem_cons_of_mem _ hq) rs).setE i ⟨ea,oe,C',rfl,List.mem_cons_self,h1,hoe⟩
  refine ⟨_,ρ,st,rs',sr,?_⟩
  revert h
  cases s (μ.set i (some (.exc c))) st with
  | rt v st' => exact fun q => q
  | _ => exact fun q => q.elim
 ·rename_i e
  refine ⟨false,hS c x false C' C e h1 hm,?_⟩
  rw [if_neg Bool.false_ne_true]
  exact ⟨c,C',μ,ρ,st,h1,rfl,rs,sr,h⟩
 ·exact h.elim
noncomputable def Known (mg:Str → Option Value) (kn:Str → Bool):Prop:=∀ c,kn c = true → ∃ C,mg c = some (.ref C)
theorem try_read {kn:Str → Bool} {b:MB} {h:MH} (hk:Known X.mg kn) {D:Ends} {EX:EK} {σ:L2.St} {H:Hp} (q:tSE X (sTry kn b h) D EX σ H):tSE X b D (fun cls ea σ' H' => tHd X h D EX cls ea σ' H') σ H:=by
 refine bcn fun hNO => ?_
 obtain ⟨μ,ρ,st,rs,sr,q⟩:=q
 refine hNO ?_; clear hNO
 refine ⟨μ,ρ,st,rs,sr,?_⟩
 unfold sTry at q
 cases z:b μ st with
 | er c μ' st' =>
  rw [z] at q
  dsimp only at q
  split at q
  ·rename_i hc
   obtain ⟨C,hC⟩:=hk c hc
   exact ⟨C,hC,fun ρ' H' σ' ea e s r => ⟨c,C,μ',ρ',st',hC,rfl,r,s,wSE.mono q e⟩⟩
  ·exact q.elim
 | _ => rw [z] at q; exact q
noncomputable def noOut (m:MB):MB:=fun μ st => match m μ st with
 | .er _ _ _ => .bad
 | .nx μ' st' => .nx μ' st'
 | .rt v st' => .rt v st'
 | .bk μ' st' => .bk μ' st'
 | .ct μ' st' => .ct μ' st'
 | .bad => .bad
theorem ms_try {E:XK} {kn:Str → Bool} {body:List Stmt} {h₀:ExceptHandler} {hs:List ExceptHandler} {b:MB} {h:MH} (hk:Known X.mg kn) (dx:DefX X) (hb:PSEs X body (tSE X b)) (hh:PH X (h₀ :: hs) (tHd X h)):PS X (.Try body (h₀ :: hs) [] [] pos) (tS X E (noOut (sTry kn b h))):=by
 refine PS.imp (ps_try dx hb hh) ?_
 rintro D σ H ⟨μ,ρ,st,rs,sr,q⟩
 refine try_read (EX:=fun _ _ _ _ => False) hk ⟨μ,ρ,st,rs,sr,?_⟩
 unfold noOut at q
 revert q
 cases sTry kn b h μ st with
 | er c μ' st' => exact fun q => q.elim
 | _ => exact fun q => q
noncomputable def mIsX (sub:Str → Str → Option Bool) (i:Nat) (x:Str):ME:=fun μ st => match μ[i]? with
 | some (some (.exc c)) => (match sub c x with
  | some true => .ok (.bl true) st
  | _ => .bad)
 | _ => .bad
inductive ClsAt (X:Cx) (x:Str):Value → V → Prop
 | own {C:Addr} (hm:X.mg x = some (.ref C)):ClsAt X x (.ref C) (.ref C)
 | blt {n:String} (hm:X.mg x = none) (hv:bootBuiltins x = some (.type n)) (hn:x ≠ "__name__"):ClsAt X x (.type n) (.ty n)
noncomputable def SubI (K:PySem.W.Frag) (mg:Str → Option Value) (sub:Str → Str → Option Bool) (x:Str) (cv:Value):Prop:=∀ c C,sub c x = some true → mg c = some (.ref C) → PySem.W.kitOne K (.ref C) cv = some true
theorem me_isX {E:XK} {sub:Str → Str → Option Bool} {i:Nat} {n:Str} {cv:Value} {v:V} {q1 q2:Pos} (hc:ClsAt X x cv v) (hS:SubI X.K X.mg sub x cv) (hg:Gl X "isinstance") (hm:X.mg "isinstance" = none) (hgx:Gl X x)
  (hN:X.N[i]? = some n) (hv:Vis X.env.scope n) (hd:(n == ("__debug__":Str)) = false) (hcd:(n == ("__classdict__":Str)) = false) (hdx:(x == ("__debug__":Str)) = false)
  (hs:starEach [.Name n q1,.Name x q2] X.env = (false,eval (.Name n q1) X.env) :: starEach [.Name x q2] X.env:=by rfl) (hs2:starEach [.Name x q2] X.env = (false,eval (.Name x q2) X.env) :: starEach [] X.env:=by rfl)
  (hpl:(backTo pos (starEach [.Name x q2] X.env)).any (·.1) = false:=by rfl):PE X (.Call (.Name "isinstance" p) [.Name n q1,.Name x q2] [] pos) (tE X E (mIsX sub i x)):=by
 have hx:PE X (.Name x q2) (tC v):=by
  cases hc with
  | own h => exact pe_glob hgx h rfl hdx
  | blt h1 h2 h3 => exact pe_bltn hgx h1 h2 rfl h3 hdx
 refine PE.imp (pe_callB call_isinstX hg hm PyProof.Rows.boot_isinstance (pa_cons (pe_var (i:=i) hN hv hd hcd) (pa_cons hx pa_nil hs2) hs) (by decide) (by decide) hs hpl) ?_
 rintro σ H Q ⟨μ,ρ,st,rs,sr,h⟩
 unfold mIsX at h
 split at h
 ·rename_i c e
  split at h
  ·rename_i es
   refine bcn fun hNO => ?_
   obtain ⟨w,e',a,oe,C,rfl,hp,hC,ho⟩:=rs.at_ i _ e
   have hk:=hS c C es hC
   rw [← ho] at hk
   refine hNO ?_; clear hNO
   cases hc with
   | own h' => exact ⟨_,e',a,oe,_,.inl ⟨rfl,hk⟩,hp,fin_b sr h⟩
   | blt h1 h2 h3 => exact ⟨_,e',a,oe,0,.inr ⟨_,rfl,hk⟩,hp,fin_b sr h⟩
  ·exact h.elim
 ·exact h.elim
end
end MN
namespace MN
open PySem PySem.Spec L2
open PyProof.Rows hiding St
inductive CapAll (X:Cx) (scope:Scope):List (Str × Addr) → List Nat → Prop
 | nil:CapAll X scope [] []
 | cons {y:Str} {c:Addr} {j:Nat} {cl:List (Str × Addr)} {caps:List Nat} (sub:X.env.cells.lookup y = some c) (hX:X.N[j]? = some y) (hk:X.env.kindOf y = some .cell ∨ X.env.kindOf y = some .free)
   (hr:(relabel scope X.env).names.lookup y = some .cell ∨ (relabel scope X.env).names.lookup y = some .free) (r:CapAll X scope cl caps):CapAll X scope ((y,c) :: cl) (j :: caps)
theorem CapAll.sub {X:Cx} {scope:Scope} {cl:List (Str × Addr)} {caps:List Nat} (A:CapAll X scope cl caps):∀ x c,cl.lookup x = some c → X.env.cells.lookup x = some c:=by
 induction A with
 | nil => intro x c h; cases h
 | @cons y c0 _ _ _ sub _ _ _ _ ih =>
  intro x c h
  rw [List.lookup_cons] at h
  by_cases e:x = y
  ·rw [beq_iff_eq.mpr e] at h
   rw [e]; exact sub.trans h
  ·rw [beq_eq_false_iff_ne.mpr e] at h
   exact ih x c h
theorem CapAll.at_ {X:Cx} {scope:Scope} {cl:List (Str × Addr)} {caps:List Nat} (A:CapAll X scope cl caps):∀ (i j:Nat) (x:Str),caps[i]? = some j → (cl.map (·.1))[i]? = some x →
  X.N[j]? = some x ∧ (X.env.kindOf x = some .cell ∨ X.env.kindOf x = some .free) ∧ ((relabel scope X.env).names.lookup x = some .cell ∨ (relabel scope X.env).names.lookup x = some .free):=by
 induction A with
 | nil => intro i j x h; cases h
 | cons _ hX hk hr _ ih =>
  intro i j x h h2
  cases i with
  | zero => cases h; cases h2; exact ⟨hX,hk,hr⟩
  | succ i => exact ih i j x h h2
theorem lookup_of_mem:∀ {cl:List (Str × Addr)} {x:Str},x ∈ cl.map (·.1) → ∃ c,cl.lookup x = some c
 | [],x,h => by simp at h
 | (y,c) :: cl,x,h => by
  by_cases e:x = y
  ·exact ⟨c,by simp [e]⟩
  ·have e':(x == y) = false:=by simpa using e
   rw [List.map_cons,List.mem_cons] at h
   rcases h with h | h
   ·exact absurd h e
   ·obtain ⟨d,hd⟩:=lookup_of_mem h
    exact ⟨d,by simp only [List.lookup_cons,e']; exact hd⟩
theorem capsA {X:Cx} {N:List Str} {scope:Scope} {k:Nat} {cl:List (Str × Addr)} {caps:List Nat} (clos:closureFor scope X.env = pure cl) (A:CapAll X scope cl caps) (has:((relabel scope X.env).names.all fun p => !(p.2 == .cell || p.2 == .free) || (cl.map (·.1)).contains p.1) = true)
  (nocell:(scope.names.all fun p => !(p.2 == .cell)) = true) (kind:scope.kind = .function) (names:(scope.names.all fun p => !(p.2 == .local) || scope.names.lookup p.1 == some .local) = true) (len:N.length = k + caps.length) (hN:N.drop k = cl.map (·.1)):Caps X N scope cl k caps where
 clos:=clos
 sub:=A.sub
 has:=fun x h => by
  have m:x ∈ cl.map (·.1):=by
   rcases h with h | h <;> (have m:=PySem.mem_of_lookup h; have z:=List.all_eq_true.mp has _ m; simpa using z)
  exact lookup_of_mem m
 nocell:=fun x hx h => by
  have z:=List.all_eq_true.mp nocell x hx
  simp [h] at z
 kind:=kind
 names:=fun x hx h => by
  have z:=List.all_eq_true.mp names x hx
  simpa [h] using z
 len:=len
 at_:=fun i j x h1 h2 => A.at_ i j x h1 (by rw [← hN,List.getElem?_drop]; exact h2)
noncomputable def FnAt (P:Program) (w:World) (K:PySem.W.Frag) (mg:Str → Option Value) (base:Heap) (x:Str) (k:Nat) (f:FN):Prop :=
 ∃ fa fd ps,FnOk P w K mg base (CX1 P w) k fa fd ps (spM ⟨K,mg,[]⟩ f) ∧ mg x = some (.ref fa) ∧ PySem.W.keepIn K (.ref fa) = true ∧ Binds K fd ps []
section
variable {X:Cx} {E:XK} {pos p:Pos} {e:Expr} {es:List Expr} {ms:MA} {f:FN} {x:Str} {k j:Nat}
theorem me_fn (G:FnAt X.prog X.w X.K X.mg X.base x k f) (hr:Room j X.A) (hk:k ≤ j) (hg:Gl X x) (hx:Passes (CX1 X.prog X.w) X E) (ha:PA X (e :: es) (tL X E ms)) (hdb:(x == ("__debug__":Str)) = false:=by decide)
  (he:starEach (e :: es) X.env = (false,eval e X.env) :: starEach es X.env:=by rfl) (hpl:(backTo pos (starEach es X.env)).any (·.1) = false:=by rfl):PE X (.Call (.Name x p) (e :: es) [] pos) (tE X E (mCall f ms)):=by
 refine bcn fun hNO => ?_
 obtain ⟨fa,fd,ps,F,hm,kp,b⟩:=G
 refine hNO ?_; clear hNO
 exact me_call F (hr.mono hk) hg hm kp b hx ha hdb he hpl
theorem mee_fn (G:FnAt X.prog X.w X.K X.mg X.base x k f) (hr:Room j X.A) (hk:k ≤ j) (hg:Gl X x) (hfn:∀ y,X.fn y = true) (ha:∀ W,PA (X.wish W) (e :: es) (tL X E0 ms)) (hdb:(x == ("__debug__":Str)) = false:=by decide)
  (he:starEach (e :: es) X.env = (false,eval e X.env) :: starEach es X.env:=by rfl) (hpl:(backTo pos (starEach es X.env)).any (·.1) = false:=by rfl):PEE X (.Call (.Name x p) (e :: es) [] pos) (tEE X (mCall f (noE ms))):=by
 refine bcn fun hNO => ?_
 obtain ⟨fa,fd,ps,F,hm,kp,b⟩:=G
 refine hNO ?_; clear hNO
 exact mee_call F (hr.mono hk) hg hm kp b hfn ha hdb he hpl
end
section
variable {P:Program} {w:World} {K:PySem.W.Frag} {mg:Str → Option Value} {base:Heap}
theorem FnAt.mk {x:Str} {st:Stmt} {f:Addr} {fd:FuncData} {N ps:List Str} {k:Nat} {body:MB} (F:Fun K x x st f fd) (hm:mg x = some (.ref f)) (S:FnScope N ps (defScope st))
  (hb:∀ (kV doc pm:Value) (an:Option Addr) (cdv ct:Value) (us:List Value),us.length = ps.length → bindArgs (PySem.W.fnOf x x (defArgs st) (defBody st) (defScope st) .none kV doc pm an cdv ct) ⟨us,[]⟩ = pure (ps.zip us))
  (h:∀ (cdv:Value) (A:Around) (outer:List PySem.Env) (s:Shared) (H:Hp) (E:XK),Room k (A.deeper (envOfC x (defScope st) s.heap.objs.size f cdv)) →
   PSs (cxOf (CX1 P w) P w K mg base N x (defScope st) f cdv A outer s H E) (defBody st) (tS (cxOf (CX1 P w) P w K mg base N x (defScope st) f cdv A outer s H E) E body)):FnAt P w K mg base x (k + 1) (fnM ps.length N.length body) :=
 ⟨f,fd,ps,fn_okM F S h,hm,F.kp,F.binds hb⟩
theorem own_pass {N:List Str} {qual:Str} {scope:Scope} {f:Addr} {cd:Value} {A:Around} {outer:List PySem.Env} {s₀:Shared} {H₀:Hp} {E:XK}:PassesOwn (model P w) (A.deeper (envOfC qual scope s₀.heap.objs.size f cd)) (envOfC qual scope s₀.heap.objs.size f cd) (cxOf (CX1 P w) P w K mg base N qual scope f cd A outer s₀ H₀ E).xe :=
 PassesOwn.leaving
theorem own_raises {N:List Str} {qual:Str} {scope:Scope} {f:Addr} {cd:Value} {A:Around} {outer:List PySem.Env} {s₀:Shared} {H₀:Hp} {E:XK}:Raises (cxOf (CX1 P w) P w K mg base N qual scope f cd A outer s₀ H₀ E) E :=
 fun pins σ H s h' e cls vs I hx hE => raise_out I hx hE
theorem Glob.int {x:Str} {i:Int} {t:Tok} (h:mg x = some (.int i t)):Glob K mg x (.int i):=⟨_,.int i,h,⟨t,rfl⟩,fun _ _ => Rl.mkInt i⟩
theorem Glob.ints {x:Str} {a:Addr} {o:Obj} {its:Array Value} {n:Nat} {ns:List Int} (h:mg x = some (.ref a)) (l:K.lookup a = some o) (hc:o.cls = .type "tuple") (hd:o.data = .seq its n) (hz:its.size ≤ sizeLine) (hv:Vals (ns.map V.int) its.toList):Glob K mg x (.mt (ns.map .int)) :=
 ⟨_,.ref a,h,rfl,fun ρ H => Rl.mkMt (.inr ⟨o,its,n,l,hc,hd,hz,hv⟩) (Rls.ints ns)⟩
noncomputable def spLaw (K:PySem.W.Frag):Sp:=fun vs H Q _ => ∃ (a:Addr) (ns:List Int),vs = [.ref a] ∧ Only H ∧ SqL K H a (ns.map V.int) ∧ ns.length ≤ 63 ∧ ∀ H',Q (.bl true) H'
theorem one_SR {H:Hp} {a:Addr} {c:Cell} (k:CellR K [a] H c a):SR K [a] [c] H:=by
 refine ⟨rfl,fun n m b h1 h2 _ _ => ?_,fun n c' b h1 h2 => ?_⟩
 ·have p1:=getL_lt h1
  have p2:=getL_lt h2
  simp at p1 p2
  lia
 ·have p1:=getL_lt h1
  simp at p1
  subst p1
  cases h1
  cases h2
  exact k
theorem law_sp {f:FN} (hf:∀ (c:Cell) (ns:List Int),ns.length ≤ 63 → itemsOf [c] 0 = some (ns.map Val.int) → ∃ st',f [.loc 0] [c] = .ok (.bl true) st') {vs:List V} {H:Hp} {Q:VK} {E:XK} (h:spLaw K vs H Q E):spM ⟨K,mg,[]⟩ f vs H Q E:=by
 refine bcn fun hNO => ?_
 obtain ⟨a,ns,rfl,hO,hS,hl,q⟩:=h
 have fin:∀ c:Cell,CellR K [a] H c a → itemsOf [c] 0 = some (ns.map Val.int) → spM ⟨K,mg,[]⟩ f [.ref a] H Q E:=by
  intro c k hi
  obtain ⟨st',e⟩:=hf c ns hl hi
  refine ⟨[.loc 0],[a],[c],Rls.one (Rl.mkLoc rfl),one_SR k,?_⟩
  rw [e]
  intro ρ' H' v _ _ r
  rw [r.bl_]
  exact q H'
 refine hNO ?_; clear hNO
 rcases hS with (h | ⟨o,h⟩) | h
 ·rcases hO a with z | ⟨o,xs,z⟩ <;> (rw [z] at h; cases h)
 ·exact fin (.fro (ns.map .int)) ⟨o,_,h,Rls.ints ns⟩ rfl
 ·exact fin (.mod (ns.map .int)) ⟨_,h,Rls.ints ns⟩ rfl
theorem law_walk {l:PySem.W.OpenLaw} {q:Program} {loose:List Str} {XP:(Str → Option Value) → Heap → Prop} {YP:World → Heap → Prop} {d:DefRec} {K:Params → PySem.W.Frag} {x:Str} {k:Nat} (hn:l.most = some 63) (hdf:d.params.defaults = []) (hr:Room k callerA)
  (hY:∀ (w:World) (h:Heap),YP w h → (K w.params).In h)
  (F:∀ (w:World) (mg:Str → Option Value) (fa:Addr) (h:Heap),(K w.params).In h → h.Ns mainGlobals mg → mg d.name = some (.ref fa) →
   ∃ fd:FuncData,(∀ (s:Shared) (u:Value),BindsTo s fd ⟨[u],[]⟩ [(x,u)]) ∧ ∀ base:Heap,(K w.params).In base → base.Ns mainGlobals mg → FnOk l.prog w (K w.params) mg base (CX1 l.prog w) k fa fd [x] (spLaw (K w.params))) :
  PySem.W.WalkO q loose XP YP l.row.toRowW d [] (fun f vs => PySem.call f vs) :=
 L2.walk_of (n:=63) (k:=k) (x:=x) (CX:=fun w => CX1 l.prog w) (sp:=fun w => spLaw (K w.params)) hn (by decide) hdf hr hY F (fun _ _ a ns hl hO hS => ⟨a,ns,rfl,hO,hS,hl,fun _ => rfl⟩) fun _ _ _ _ _ ⟨_,_,_,_,_,z⟩ => z
end
end MN
namespace MN
open PySem PySem.Spec L2
open PyProof.Rows hiding St
theorem bt_ValueError:bootBuiltins "ValueError" = some (.type "ValueError"):=by decide +kernel
abbrev bmV:List Value:=[.type "ValueError",.type "Exception",.type "BaseException",.type "object"]
noncomputable def ExcC (K:PySem.W.Frag) (mg:Str → Option Value) (x:Str):Prop:=∃ C,mg x = some (.ref C) ∧ PySem.W.excIn K C bmV "ValueError.__new__" = true ∧ PySem.W.subIn K (.ref C) (.type "BaseException") = some true
theorem kitCls_of {K:PySem.W.Frag} {D:Addr} {t:Value} {cd:ClassData} {b:Bool} (h1:PySem.W.clsIn K D = some cd) (h2:PySem.W.typeIn K (.ref D) = some (.type "type")) (h3:PySem.W.subIn K t (.ref D) = some b):PySem.W.kitCls K t (.ref D) = some b:=by
 show (if ((PySem.W.clsIn K D).isSome && PySem.W.typeIn K (.ref D) == some (.type "type")) = true then PySem.W.subIn K t (.ref D) else none) = some b
 rw [h1,h2,h3]
 rfl
inductive SubAll (K:PySem.W.Frag) (mg:Str → Option Value):List (Str × Str × Bool) → Prop
 | nil:SubAll K mg []
 | own {c x:Str} {b:Bool} {C D:Addr} {r:List (Str × Str × Bool)} (h1:mg c = some (.ref C)) (h2:mg x = some (.ref D)) (h3:PySem.W.kitCls K (.ref C) (.ref D) = some b) (hr:SubAll K mg r):SubAll K mg ((c,x,b) :: r)
 | blt {c x:Str} {n:String} {C:Addr} {r:List (Str × Str × Bool)} (h1:mg c = some (.ref C)) (h2:mg x = none) (h2':bootBuiltins x = some (.type n)) (h3:PySem.W.kitOne K (.ref C) (.type n) = some true) (hr:SubAll K mg r):SubAll K mg ((c,x,true) :: r)
noncomputable def subL (tab:List (Str × Str × Bool)) (c x:Str):Option Bool:=match tab with
 | [] => none
 | (c',x',b) :: r => if c' = c ∧ x' = x then some b else subL r c x
section
variable {K:PySem.W.Frag} {mg:Str → Option Value}
theorem SubAll.subT {tab:List (Str × Str × Bool)} (S:SubAll K mg tab):SubT K mg (subL tab):=by
 induction S with
 | nil => intro c x b C D h; cases h
 | @own c' x' _ _ _ _ h1 h2 h3 _ ih =>
  intro c x b C D h e1 e2
  rw [subL] at h
  by_cases z:c' = c ∧ x' = x
  ·rw [if_pos z] at h
   cases h
   rw [z.1,e1] at h1; cases h1
   rw [z.2,e2] at h2; cases h2
   exact h3
  ·rw [if_neg z] at h
   exact ih c x b C D h e1 e2
 | @blt c' x' _ _ _ h1 h2 _ _ _ ih =>
  intro c x b C D h e1 e2
  rw [subL] at h
  by_cases z:c' = c ∧ x' = x
  ·rw [z.2,e2] at h2; cases h2
  ·rw [if_neg z] at h
   exact ih c x b C D h e1 e2
theorem SubAll.subI {tab:List (Str × Str × Bool)} (S:SubAll K mg tab):∀ (x:Str) (cv:Value),(∃ D,cv = .ref D ∧ mg x = some (.ref D)) ∨ (∃ n,cv = .type n ∧ bootBuiltins x = some (.type n) ∧ mg x = none) → SubI K mg (subL tab) x cv:=by
 induction S with
 | nil => intro x cv _ c C h; cases h
 | @own c' x' _ _ _ _ h1 h2 h3 _ ih =>
  intro x cv hx c C h e1
  rw [subL] at h
  by_cases z:c' = c ∧ x' = x
  ·rw [if_pos z] at h
   cases h
   rw [z.1,e1] at h1; cases h1
   rw [z.2] at h2
   rcases hx with ⟨D,rfl,e2⟩ | ⟨n,rfl,_,e2⟩
   ·rw [h2] at e2; cases e2
    unfold PySem.W.kitOne
    split
    ·rfl
    ·exact h3
   ·rw [h2] at e2; cases e2
  ·rw [if_neg z] at h
   exact ih x cv hx c C h e1
 | @blt c' x' _ _ _ h1 h2 h2' h3 _ ih =>
  intro x cv hx c C h e1
  rw [subL] at h
  by_cases z:c' = c ∧ x' = x
  ·rw [if_pos z] at h
   cases h
   rw [z.1,e1] at h1; cases h1
   rw [z.2] at h2 h2'
   rcases hx with ⟨D,rfl,e2⟩ | ⟨n,rfl,e2,_⟩
   ·rw [h2] at e2; cases e2
   ·rw [h2'] at e2; cases e2; exact h3
  ·rw [if_neg z] at h
   exact ih x cv hx c C h e1
noncomputable def knL (l:List Str) (c:Str):Bool:=l.contains c
theorem known_of {l:List Str} (h:∀ c ∈ l,ExcC K mg c):Known mg (knL l):=fun c hc => by
 have:c ∈ l:=by simpa [knL] using hc
 obtain ⟨C,h1,_⟩:=h c this
 exact ⟨C,h1⟩
end
section
variable {X:Cx} {E:XK} {pos np cpos p q1 q2:Pos} {x n:Str} {e₀:Expr} {es:List Expr} {ms:MA} {i:Nat} {b₀:Stmt} {suite:List Stmt} {rest:List ExceptHandler} {tab:List (Str × Str × Bool)} {s:MB} {r:MH}
theorem ms_raiseC (hX:Raises X E) (hc:X.calm = true) (h:ExcC X.K X.mg x) (hg:Gl X x) (ha:PA X (e₀ :: es) (tL X E ms))
  (he:starEach (e₀ :: es) X.env = (false,eval e₀ X.env) :: starEach es X.env:=by rfl) (hpl:(backTo cpos (starEach es X.env)).any (·.1) = false:=by rfl) (hd:(x == ("__debug__":Str)) = false:=by decide) :
  PS X (.Raise (some (.Call (.Name x np) (e₀ :: es) [] cpos)) none pos) (tS X E (sRaise x ms)):=by
 refine bcn fun hNO => ?_
 obtain ⟨C,hm,hq,_⟩:=h
 refine hNO ?_; clear hNO
 exact ms_raise hX hc hm hq PySem.F.excBase_ValueError hg ha he hpl hd
theorem mh_asC (hS:SubAll X.K X.mg tab) (hN:X.N.Nodup) (h:ExcC X.K X.mg x) (hg:Gl X x) (hs:∀ ea oe,PSs (L2.inH X ea oe) (b₀ :: suite) (tS (L2.inH X ea oe) E0 s)) (hr:PH X rest (tHd X r)) (hi:X.N[i]? = some n:=by rfl) (hl:X.env.scope.names.lookup n = some .local:=by rfl) (hd:(x == ("__debug__":Str)) = false:=by decide) :
  PH X (.ExceptHandler (some (.Name x np)) (some n) (b₀ :: suite) pos :: rest) (tHd X (hAs (subL tab) x i s r)):=by
 refine bcn fun hNO => ?_
 obtain ⟨C,hm,_,hB⟩:=h
 refine hNO ?_; clear hNO
 exact mh_as hS.subT hN hi hl hg hm hB hs hr hd
theorem me_isXo (i:Nat) (hS:SubAll X.K X.mg tab) (h:ExcC X.K X.mg x) (hg:Gl X "isinstance") (hm:X.mg "isinstance" = none) (hgx:Gl X x) (hN:X.N[i]? = some n:=by rfl) (hv:Vis X.env.scope n:=by first | exact Or.inl rfl | exact Or.inr (Or.inl rfl))
  (hd:(n == ("__debug__":Str)) = false:=by decide) (hcd:(n == ("__classdict__":Str)) = false:=by decide) (hdx:(x == ("__debug__":Str)) = false:=by decide)
  (hs:starEach [.Name n q1,.Name x q2] X.env = (false,eval (.Name n q1) X.env) :: starEach [.Name x q2] X.env:=by rfl) (hs2:starEach [.Name x q2] X.env = (false,eval (.Name x q2) X.env) :: starEach [] X.env:=by rfl)
  (hpl:(backTo pos (starEach [.Name x q2] X.env)).any (·.1) = false:=by rfl):PE X (.Call (.Name "isinstance" p) [.Name n q1,.Name x q2] [] pos) (tE X E (mIsX (subL tab) i x)):=by
 refine bcn fun hNO => ?_
 obtain ⟨C,hC,_,_⟩:=h
 refine hNO ?_; clear hNO
 exact me_isX (.own hC) (hS.subI x _ (.inl ⟨C,rfl,hC⟩)) hg hm hgx hN hv hd hcd hdx hs hs2 hpl
theorem me_isXb (i:Nat) {T:String} (hS:SubAll X.K X.mg tab) (hmx:X.mg x = none) (hb:bootBuiltins x = some (.type T)) (hg:Gl X "isinstance") (hm:X.mg "isinstance" = none) (hgx:Gl X x) (hN:X.N[i]? = some n:=by rfl) (hv:Vis X.env.scope n:=by first | exact Or.inl rfl | exact Or.inr (Or.inl rfl)) (hn:x ≠ "__name__":=by decide)
  (hd:(n == ("__debug__":Str)) = false:=by decide) (hcd:(n == ("__classdict__":Str)) = false:=by decide) (hdx:(x == ("__debug__":Str)) = false:=by decide)
  (hs:starEach [.Name n q1,.Name x q2] X.env = (false,eval (.Name n q1) X.env) :: starEach [.Name x q2] X.env:=by rfl) (hs2:starEach [.Name x q2] X.env = (false,eval (.Name x q2) X.env) :: starEach [] X.env:=by rfl)
  (hpl:(backTo pos (starEach [.Name x q2] X.env)).any (·.1) = false:=by rfl):PE X (.Call (.Name "isinstance" p) [.Name n q1,.Name x q2] [] pos) (tE X E (mIsX (subL tab) i x)) :=
 me_isX (.blt hmx hb hn) (hS.subI x _ (.inr ⟨T,rfl,hb,hmx⟩)) hg hm hgx hN hv hd hcd hdx hs hs2 hpl
end
end MN
namespace MN
open PySem PySem.Spec L2
open PyProof.Rows hiding St
section
variable {κ:Type} [DecidableEq κ]
variable {K:PySem.W.Frag} {ρ ρ':List Addr} {H H':Hp}
end
section
variable {K:PySem.W.Frag} {ρ:List Addr} {H:Hp}
end
section
variable {X:Cx} {E:XK} {pos pos' apos cpos:Pos} {o i e f value:Expr} {md mk mv mx:ME}
end
section
variable {X:Cx} {E:XK} {es:List Expr} {ms:MA} {pos:Pos}
theorem ma_int {i j} (hr:PA X es (tL X E ms)):PA X (.Constant (.int i) j pos :: es) (tL X E (mCons (mC (.int i)) ms)):=ma_cons me_int hr
theorem ma_str {x j} (hr:PA X es (tL X E ms)):PA X (.Constant (.str x) j pos :: es) (tL X E (mCons (mC (.str x)) ms)):=ma_cons me_str hr
theorem me_ixM {a b:Expr} {ma mb:ME} (ha:PE X a (tE X E ma)) (hb:PE X b (tE X E mb)) (hs:PlainIx b:=by exact fun _ _ => rfl):PE X (.Subscript a b pos) (tE X E (mBin ixV ma mb)):=me_ix ix_M ha hb hs
end
end MN
namespace MN
open PySem PySem.Spec L2
open PyProof.Rows hiding St
noncomputable def cutL (us:List Val) (lo hi:Option Int):List Val:=(us.drop (HT.sIx us.length 0 lo)).take (HT.sIx us.length us.length hi - HT.sIx us.length 0 lo)
theorem Rls.cut {K:PySem.W.Frag} {ρ:List Addr} {H:Hp} {us:List Val} {vs:List V} (r:Rls K ρ H us vs) (lo hi:Option Int):Rls K ρ H (cutL us lo hi) (cutV vs lo hi):=by
 unfold cutL cutV
 rw [r.length]
 exact Rls.take _ (Rls.drop _ r)
noncomputable abbrev MO:=Env → Store → Res (Option Int)
noncomputable abbrev RO:List Addr → Hp → Option Int → Option Int → Prop:=fun _ _ a b => b = a
noncomputable abbrev tOo (X:Cx) (E:XK) (m:MO):TO:=tG (wo X) E RO m
noncomputable def oNone:MO:=fun _ st => .ok none st
noncomputable def oSome (m:ME):MO:=fun μ st => (m μ st).bind fun v st' => match v with
 | .int i => .ok (some i) st'
 | _ => .bad
noncomputable def slV (lo hi:Option Int):Val → Store → Res Val
 | .tup us,st => if HT.sIx us.length 0 lo = 0 ∧ HT.sIx us.length us.length hi = us.length then .bad else .ok (.tup (cutL us lo hi)) st
 | .loc n,st => match itemsOf st n with
  | some us => .ok (.loc st.length) (st ++ [.lst (cutL us lo hi)])
  | none => .bad
 | _,_ => .bad
noncomputable def mSl (a:ME) (lo hi:MO):ME:=fun μ st => (a μ st).bind fun x st1 => (lo μ st1).bind fun l st2 => (hi μ st2).bind fun h st3 => slV l h x st3
section
variable {X:Cx} {E:XK} {pos p2:Pos} {e:Expr} {m:ME}
theorem PO.imp {e:Option Expr} {t t':TO} (h:PO X e t) (k:∀ σ H Q,t' σ H Q → t σ H Q):PO X e t':=fun pins s σ H Q I q => h pins s σ H Q I (k σ H Q q)
theorem mo_none:PO X none (tOo X E oNone):=PO.imp po_none fun σ H Q ⟨μ,ρ,st,rs,sr,h⟩ => h ρ H none (Step.refl _ _) sr rfl
theorem mo_some (h:PE X e (tE X E m)):PO X (some e) (tOo X E (oSome m)):=by
 refine PO.imp (po_some h) ?_
 rintro σ H Q ⟨μ,ρ,st,rs,sr,h⟩
 refine go μ ρ st rs sr h fun u st1 ρ1 H1 x e1 sr1 r1 h1 => ?_
 cases u with
 | int i => exact ⟨i,r1.int_,h1 ρ1 H1 (some i) (Step.refl _ _) sr1 rfl⟩
 | _ => exact h1.elim
theorem me_sl {lo hi:Option Expr} {ml mh:MO} (he:PE X e (tE X E m)) (hl:PO X lo (tOo X E ml)) (hh:PO X hi (tOo X E mh)):PE X (.Subscript e (.Slice lo hi none p2) pos) (tE X E (mSl m ml mh)):=by
 refine PE.imp (pe_slice (SlR.or sl_list sl_tup) he hl hh) ?_
 rintro σ H Q ⟨μ,ρ,st,rs,sr,h⟩
 refine go μ ρ st rs sr h fun u st1 ρ1 H1 x e1 sr1 r1 h1 => ?_
 refine go (R1:=RO) μ ρ1 st1 (rs.mono e1) sr1 h1 fun l st2 ρ2 H2 l' e2 sr2 r2 h2 => ?_
 cases r2
 refine go (R1:=RO) μ ρ2 st2 ((rs.mono e1).mono e2) sr2 h2 fun k st3 ρ3 H3 k' e3 sr3 r3 h3 => ?_
 cases r3
 have ru:=Rl.mono e3 _ _ (Rl.mono e2 _ _ r1)
 cases u with
 | tup us =>
  obtain ⟨a,vs,rfl,ha,ra⟩:=ru.tup_
  unfold slV at h3
  dsimp only at h3
  split at h3
  ·exact h3.elim
  ·rename_i hz
   refine .inr ⟨a,vs,rfl,ha,by rw [← ra.length]; exact hz,fun p hp => ?_⟩
   have s:=same_upd (o:=.tup (cutV vs l k)) hp
   exact h3 ρ3 _ _ (Step.same s) (sr3.grow s) (Rl.mkTup upd_same (Rls.mono (Step.same s) _ _ (ra.cut l k)))
 | loc n =>
  obtain ⟨a,rfl,ha⟩:=ru.loc_
  cases z:itemsOf st3 n with
  | none => simp only [slV,z] at h3; exact h3.elim
  | some us =>
   simp only [slV,z] at h3
   obtain ⟨vs,hs,rv⟩:=itemsOf_sq sr3 z ha
   refine .inl ⟨a,vs,rfl,hs,fun p hp => ?_⟩
   obtain ⟨k1,k2,k3⟩:=new_lst sr3 (rv.cut l k) hp
   exact h3 _ _ _ k1 k2 k3
 | _ => exact h3.elim
end
noncomputable def mMt0 (f:FM) (o:ME):ME:=fun μ st => (o μ st).bind fun x st1 => if isLst st1 x = true then f x [] st1 else .bad
noncomputable def popF:FM
 | .loc n,[],st => match st[n]? with
  | some (.lst us) => match us[us.length - 1]? with
   | some u => .ok u (st.set n (.lst us.dropLast))
   | none => .bad
  | _ => .bad
 | _,_,_ => .bad
noncomputable def extendF:FM
 | .loc n,[.loc m],st => match st[n]?,st[m]? with
  | some (.lst us),some (.lst ws) => if us.length + ws.length ≤ sizeLine then .ok .non (st.set n (.lst (us ++ ws))) else .bad
  | _,_ => .bad
 | _,_,_ => .bad
theorem Rls.dropLast {K:PySem.W.Frag} {ρ:List Addr} {H:Hp} {us:List Val} {vs:List V} (r:Rls K ρ H us vs):Rls K ρ H us.dropLast vs.dropLast:=by
 rw [List.dropLast_eq_take,List.dropLast_eq_take,r.length]
 exact Rls.take _ r
section
variable {X:Cx} {E:XK} {o:Expr} {mo:ME} {apos cpos:Pos} {f:FM}
theorem mt_popM:MtM X "list.pop" (rMt (wo X) E popF):=by
 refine MtM.imp mt_pop ?_
 rintro x xs H Q ⟨ρ,st,u,us,sr,r1,r2,h⟩
 unfold popF at h
 split at h
 ·rename_i n
  obtain ⟨a,rfl,ha⟩:=r1.loc_
  have hx:=r2.unnil
  subst hx
  split at h
  ·rename_i ws hw
   split at h
   ·rename_i y hy
    obtain ⟨vs,hH,rv⟩:=sr.cell n _ a hw ha
    obtain ⟨v,hv,ry⟩:=rv.get hy
    refine ⟨a,vs,v,rfl,rfl,hH,by rw [← rv.length]; exact hv,?_⟩
    obtain ⟨k1,k2⟩:=put_lst sr hw ha hH rv.dropLast
    exact h ρ _ _ k1 k2 (Rl.mono k1 _ _ ry)
   ·exact h.elim
  ·exact h.elim
 ·exact h.elim
theorem me_mt0 {name:Str} {id:String} (slot:Slot "list" name id) (hty:typeOf (.builtin id) = pure (.type "method_descriptor")) (hm:MtM X id (rMt (wo X) E f)) (ho:PE X o (tE X E mo))
  (hbase:attributeBase o name X.env (eval o X.env) = eval o X.env:=by rfl) (hline:(apos.endLine == cpos.line) = true:=by rfl) :
  PE X (.Call (.Attribute o name apos) [] [] cpos) (tE X E (mMt0 f mo)):=by
 refine PE.imp (pe_bm0 PySem.F.plainAttrs_list slot hty hm ho hbase hline) ?_
 rintro σ H Q ⟨μ,ρ,st,rs,sr,h⟩
 refine go μ ρ st rs sr h fun u st1 ρ1 H1 x e1 sr1 r1 h1 => ?_
 split at h1
 ·rename_i hz
  exact ⟨isLst_ty sr1 r1 hz,ρ1,st1,u,[],sr1,r1,Rls.nil,h1⟩
 ·exact h1.elim
end
noncomputable def setF (o i v:Val) (st:Store):Option Store:=match o,i with
 | .loc n,.int k => match st[n]? with
  | some (.lst us) => (L2.ixN us.length k).map fun j => st.set n (.lst (us.set j v))
  | _ => none
 | _,_ => none
noncomputable def nxO (μ:Env):Option Store → SRes
 | some st => .nx μ st
 | none => .bad
noncomputable def sSetI (o i v:ME):MB:=fun μ st => (v μ st).sb μ fun x st1 => (o μ st1).sb μ fun y st2 => (i μ st2).sb μ fun z st3 => nxO μ (setF y z x st3)
noncomputable def iadV:F2:=int2 fun i j st => .ok (.int (i + j)) st
noncomputable def isbV:F2:=int2 fun i j st => .ok (.int (i - j)) st
noncomputable def ixL:F2
 | .loc n,.int i,st => match itemsOf st n with
  | some us => match L2.atI us i with
   | some v => .ok v st
   | none => .bad
  | none => .bad
 | _,_,_ => .bad
noncomputable def sAugI (f:F2) (o i e:ME):MB:=fun μ st => (o μ st).sb μ fun y st1 => (i μ st1).sb μ fun z st2 => (ixL y z st2).sb μ fun x st3 => (e μ st3).sb μ fun w st4 => (f x w st4).sb μ fun r st5 => nxO μ (setF y z r st5)
section
variable {X:Cx} {E:XK} {o i v:Expr} {mo mi mv:ME} {pos tpos:Pos} {f:F2}
theorem seti_read {ρ:List Addr} {st st':Store} {H:Hp} {u z w:Val} {x y q:V} {Q:Hp → Prop} (sr:SR X.K ρ st H) (ru:Rl X.K ρ H u x) (rz:Rl X.K ρ H z y) (rw':Rl X.K ρ H w q) (h:setF u z w st = some st')
  (k:∀ H',Step ρ H ρ H' → SR X.K ρ st' H' → Q H'):rSetL x y q H Q:=by
 unfold setF at h
 split at h
 ·rename_i n j
  split at h
  ·rename_i us hu
   obtain ⟨a,rfl,ha⟩:=ru.loc_
   obtain ⟨vs,hH,rv⟩:=sr.cell n _ a hu ha
   cases hj:L2.ixN us.length j with
   | none => rw [hj] at h; cases h
   | some jj =>
    rw [hj] at h
    cases h
    refine ⟨a,vs,j,jj,rfl,rz.int_,hH,by rw [← rv.length]; exact hj,?_⟩
    obtain ⟨k1,k2⟩:=put_lst sr hu ha hH (Rls.set rw' jj rv)
    exact k _ k1 k2
  ·cases h
 ·cases h
theorem ms_seti (ho:PE X o (tE X E mo)) (hi:PE X i (tE X E mi)) (hv:PE X v (tE X E mv))
  (ha:∀ u,assign (.Subscript o i tpos) X.env u = (do
   let ov ← holding [u] (eval o X.env)
   let iv ← holding [u,ov] (eval i X.env)
   standAt tpos
   holding [u,ov,iv] (setItem ov iv u)
   release [u,ov,iv] []):=by intro _; rfl)
  (hs:swapsWithSole [.Subscript o i tpos] v pos.line X.env = pure false:=by rfl) (hw:swappedStores [.Subscript o i tpos] v X.env = pure none:=by rfl) (h1:(assignEach [.Subscript o i tpos] X.env).map (·.2) = [assign (.Subscript o i tpos) X.env]:=by rfl) :
  PS X (.Assign [.Subscript o i tpos] v pos) (tS X E (sSetI mo mi mv)):=by
 refine PS.imp (ps_asg hv (pg_sub ho hi set_list ha) hs hw h1) ?_
 rintro D σ H ⟨μ,ρ,st,rs,sr,h⟩
 refine goS μ ρ st rs sr h fun u st1 ρ1 H1 x e1 sr1 r1 h1 => ?_
 refine goS μ ρ1 st1 (rs.mono e1) sr1 h1 fun w st2 ρ2 H2 y e2 sr2 r2 h2 => ?_
 refine goS μ ρ2 st2 ((rs.mono e1).mono e2) sr2 h2 fun z st3 ρ3 H3 q e3 sr3 r3 h3 => ?_
 cases hz:setF w z u st3 with
 | none => rw [hz] at h3; exact h3.elim
 | some st4 =>
  rw [hz] at h3
  exact seti_read sr3 (Rl.mono e3 _ _ r2) r3 (Rl.mono e3 _ _ (Rl.mono e2 _ _ r1)) hz fun H' k1 k2 => h3 ρ3 H' σ k1 k2 ((((rs.mono e1).mono e2).mono e3).mono k1)
theorem iop_adM:OpR X (inplaceOp .Add) (rM (wo X) E iadV):=by
 refine OpR.imp iop_add ?_
 rintro x y H Q ⟨ρ,st,u,w,sr,r1,r2,h⟩
 refine bcn fun hNO => ?_
 obtain ⟨i,j,rfl,rfl,h⟩:=int2_go h
 refine hNO ?_; clear hNO
 exact ⟨i,j,r1.int_,r2.int_,fin_int sr h⟩
theorem iop_sbM:OpR X (inplaceOp .Sub) (rM (wo X) E isbV):=by
 refine OpR.imp iop_sub ?_
 rintro x y H Q ⟨ρ,st,u,w,sr,r1,r2,h⟩
 refine bcn fun hNO => ?_
 obtain ⟨i,j,rfl,rfl,h⟩:=int2_go h
 refine hNO ?_; clear hNO
 exact ⟨i,j,r1.int_,r2.int_,fin_int sr h⟩
theorem ms_augi {op:Operator} (hf:OpR X (inplaceOp op) (rM (wo X) E f)) (ho:PE X o (tE X E mo)) (hi:PE X i (tE X E mi)) (hv:PE X v (tE X E mv))
  (ha:∀ ov iv new,augStore i ov iv new = (do holding [new,ov,iv] (setItem ov iv new); release [new,ov,iv] []; pure .next):=by intros; rfl) :
  PS X (.AugAssign (.Subscript o i tpos) op v pos) (tS X E (sAugI f mo mi mv)):=by
 refine PS.imp (ps_augS ho hi get_list hv (fun pins s σ H x y v u Q I rx ry q => hf pins s σ H x y v u Q I rx ry q) set_list ha) ?_
 rintro D σ H ⟨μ,ρ,st,rs,sr,h⟩
 refine goS μ ρ st rs sr h fun u st1 ρ1 H1 x e1 sr1 r1 h1 => ?_
 refine goS μ ρ1 st1 (rs.mono e1) sr1 h1 fun w st2 ρ2 H2 y e2 sr2 r2 h2 => ?_
 have ru:=Rl.mono e2 _ _ r1
 have rs2:=(rs.mono e1).mono e2
 cases u with
 | loc n =>
  cases w with
  | int j =>
   refine bcn fun hNO => ?_
   obtain ⟨a,rfl,ha⟩:=ru.loc_
   refine hNO ?_; clear hNO
   cases z:itemsOf st2 n with
   | none => simp only [ixL,z] at h2; exact h2.elim
   | some us =>
    cases zi:L2.atI us j with
    | none => simp only [ixL,z,zi] at h2; exact h2.elim
    | some g =>
     refine bcn fun hNO => ?_
     simp only [ixL,z,zi] at h2
     obtain ⟨vs,hs,rv⟩:=itemsOf_sq sr2 z ha
     obtain ⟨g',hg,rg⟩:=rv.atI zi
     refine hNO ?_; clear hNO
     refine ⟨a,vs,j,g',rfl,r2.int_,hs,hg,?_⟩
     refine goS μ ρ2 st2 rs2 sr2 h2 fun t st3 ρ3 H3 b e3 sr3 r3 h3 => ?_
     refine ⟨ρ3,st3,g,t,sr3,Rl.mono e3 _ _ rg,r3,?_⟩
     cases zf:f g t st3 with
     | ok c st4 =>
      rw [zf] at h3
      intro ρ4 H4 d e4 sr4 r4
      have h4:wS (wo X) E ρ4 H4 D (nxO μ (setF (.loc n) (.int j) c st4)):=wS.mono h3 e4
      cases hz:setF (.loc n) (.int j) c st4 with
      | none => rw [hz] at h4; exact h4.elim
      | some st5 =>
       rw [hz] at h4
       exact seti_read sr4 (Rl.mono e4 _ _ (Rl.mono e3 _ _ ru)) (Rl.mono e4 _ _ (Rl.mono e3 _ _ r2)) r4 hz fun H' k1 k2 => h4 ρ4 H' σ k1 k2 (((rs2.mono e3).mono e4).mono k1)
     | err c st4 => rw [zf] at h3; exact h3
     | bad => rw [zf] at h3; exact h3
  | _ => exact h2.elim
 | _ => exact h2.elim
end
noncomputable def downL (hi:Int) (n:Nat):List Val:=(List.range n).map fun (i:Nat) => Val.int (hi - (i:Int))
theorem itR_down {K:PySem.W.Frag} {ρ:List Addr} {H:Hp} (lo:Int) (n:Nat):ItR K ρ H (downL lo n,fun _ => True) (Itd lo n):=by
 intro ρ' st' H' e sr g i
 refine ⟨fun u hu => ?_,fun hi => ?_⟩
 ·have hi:i < n:=by
   have:=getL_lt hu
   simpa [downL] using this
  refine ⟨hi,fun x H'' y => ?_⟩
  obtain ⟨rfl,rfl⟩:=y
  have e:u = Val.int (lo - (i:Int)):=by
   simp only [downL,List.getElem?_map] at hu
   rw [List.getElem?_range hi] at hu
   exact (Option.some.inj hu).symm
  subst e
  exact ⟨Step.refl _ _,sr,Rl.mkInt _⟩
 ·show n ≤ i
  simpa [downL] using hi
noncomputable def dwnK (vs:List Val) (st':Store):Res Itm:=match vs with
 | [.int i,.int j,.int k] => if k = -1 ∧ -(2 ^ 62) ≤ i ∧ i < 2 ^ 62 ∧ -(2 ^ 62) ≤ j ∧ j < 2 ^ 62 then .ok (downL i (i - j).toNat,fun _ => True) st' else .bad
 | _ => .bad
noncomputable def iDownM (m:MA):MI:=fun μ st => (m μ st).bind dwnK
noncomputable def revK (vs:List Val) (st':Store):Res Itm:=match vs with
 | [.loc n] => match itemsOf st' n with
  | some us => .ok (us.reverse,fun st2 => itemsOf st2 n = some us) st'
  | none => .bad
 | _ => .bad
noncomputable def enumL:Nat → List Val → List Val
 | _,[] => []
 | i,u :: us => .tup [.int i,u] :: enumL (i + 1) us
theorem enumL_at:∀ (us:List Val) (k i:Nat) (z:Val),(enumL k us)[i]? = some z → ∃ u,us[i]? = some u ∧ z = .tup [.int ((k + i:Nat):Int),u]
 | [],_,_,_,h => by cases h
 | u :: us,k,0,z,h => by cases h; exact ⟨u,rfl,rfl⟩
 | u :: us,k,i + 1,z,h => by
  obtain ⟨w,h1,h2⟩:=enumL_at us (k + 1) i z h
  exact ⟨w,h1,by rw [h2,show k + 1 + i = k + (i + 1) by lia]⟩
theorem enumL_len:∀ (us:List Val) (k:Nat),(enumL k us).length = us.length
 | [],_ => rfl
 | _ :: us,k => by simp only [enumL,List.length_cons,enumL_len us]
noncomputable def enuK (vs:List Val) (st':Store):Res Itm:=match vs with
 | [.loc n] => match itemsOf st' n with
  | some us => .ok (enumL 0 us,fun st2 => itemsOf st2 n = some us) st'
  | none => .bad
 | _ => .bad
noncomputable def iEnumM (m:MA):MI:=fun μ st => (m μ st).bind enuK
section
variable {X:Cx} {E:XK} {tg:Expr} {pos p:Pos}
theorem mi_down {a b c:Expr} {m:MA} (hg:Gl X "range") (hm:X.mg "range" = none) (ha:PA X [a,b,c] (tL X E m)) (hs:starEach [a,b,c] X.env = [(false,eval a X.env),(false,eval b X.env),(false,eval c X.env)]:=by rfl) (hs2:starEach [b,c] X.env = [(false,eval b X.env),(false,eval c X.env)]:=by rfl) :
  PI X tg (.Call (.Name "range" p) [a,b,c] [] pos) (tI X E (iDownM m)):=by
 refine PI.imp (pi_down hg hm ha hs hs2) ?_
 rintro σ H R ⟨μ,ρ,st,rs,sr,h⟩
 refine go (R1:=Rls X.K) μ ρ st rs sr h fun us st1 ρ1 H1 xs e1 sr1 r1 h1 => ?_
 unfold dwnK at h1
 split at h1
 ·rename_i i j k
  refine bcn fun hNO => ?_
  obtain ⟨v,r',rfl,rv,rr⟩:=r1.uncons
  obtain ⟨w,z,rfl,rw',rz⟩:=rr.un2
  refine hNO ?_; clear hNO
  split at h1
  ·rename_i hz
   refine bcn fun hNO => ?_
   obtain ⟨rfl,hz⟩:=hz
   refine hNO ?_; clear hNO
   exact ⟨i,j,by rw [rv.int_,rw'.int_,rz.int_],hz,h1 ρ1 H1 _ (Step.refl _ _) sr1 (itR_down i _)⟩
  ·exact h1.elim
 ·exact h1.elim
theorem mi_enum {elts:List Expr} {kt:Nat} {tp:Pos} {a:Expr} {m:MA} (hg:Gl X "enumerate") (hm:X.mg "enumerate" = none) (ha:PA X [a] (tL X E m)) (hs:starEach [a] X.env = [(false,eval a X.env)]:=by rfl):PI X (.Tuple elts kt tp) (.Call (.Name "enumerate" p) [a] [] pos) (tI X E (iEnumM m)):=by
 refine PI.imp (pi_enum hg hm PyProof.Rows.Boot.«enumerate» ha hs) ?_
 rintro σ H R ⟨μ,ρ,st,rs,sr,h⟩
 refine go (R1:=Rls X.K) μ ρ st rs sr h fun us st1 ρ1 H1 xs e1 sr1 r1 h1 => ?_
 unfold enuK at h1
 split at h1
 ·rename_i n
  refine bcn fun hNO => ?_
  obtain ⟨v,rfl,rv⟩:=r1.un1
  obtain ⟨b,rfl,hb⟩:=rv.loc_
  refine hNO ?_; clear hNO
  split at h1
  ·rename_i ws hw
   refine bcn fun hNO => ?_
   obtain ⟨vs,hs',rvs⟩:=itemsOf_sq sr1 hw hb
   refine hNO ?_; clear hNO
   refine ⟨b,vs,rfl,hs',h1 ρ1 H1 _ (Step.refl _ _) sr1 ?_⟩
   intro ρ' st' H' e s g i
   refine bcn fun hNO => ?_
   obtain ⟨w1,s1,t1⟩:=itemsOf_sq s g (e.at_ hb)
   refine hNO ?_; clear hNO
   refine ⟨fun z hz => ?_,fun hi => ⟨w1,s1,?_⟩⟩
   ·refine bcn fun hNO => ?_
    obtain ⟨u,hu,rfl⟩:=enumL_at ws 0 i z hz
    obtain ⟨y,hy,ry⟩:=t1.get hu
    refine hNO ?_; clear hNO
    refine ⟨⟨w1,y,s1,hy⟩,fun x' H'' y' => ?_⟩
    refine bcn fun hNO => ?_
    obtain ⟨pp,x1,rfl,hp,rfl,f1⟩:=y'
    have c1:=(f1 w1 s1).symm.trans hy
    cases c1
    refine hNO ?_; clear hNO
    rw [Nat.zero_add]
    exact ⟨Step.same (same_upd hp),s.grow (same_upd hp),Rl.mkTup upd_same (Rls.mono (Step.same (same_upd hp)) _ _ (Rls.cons (Rl.mkInt _) (Rls.one ry)))⟩
   ·have hi':(enumL 0 ws).length ≤ i:=hi
    rw [enumL_len] at hi'
    rw [← t1.length]; exact hi'
  ·exact h1.elim
 ·exact h1.elim
end
noncomputable def maxF:FN
 | [.int i,.int j],st => .ok (.int (if j > i then j else i)) st
 | _,_ => .bad
noncomputable def intF:FN
 | [.bl b],st => .ok (.int (if b then 1 else 0)) st
 | _,_ => .bad
section
variable {X:Cx} {E:XK}
theorem call_maxM (hh:X.A.handled = none):CallR X (.builtin "max") (cM (wo X) E maxF):=by
 refine CallR.imp (call_maxI hh) ?_
 rintro xs H Q ⟨ρ,st,us,sr,r,h⟩
 unfold maxF at h
 split at h
 ·rename_i i j
  obtain ⟨v,w,rfl,r1,r2⟩:=r.un2
  exact ⟨i,j,by rw [r1.int_,r2.int_],fin_int sr h⟩
 ·exact h.elim
theorem call_intM:CallR X (.type "int") (cM (wo X) E intF):=by
 refine CallR.imp call_intB ?_
 rintro xs H Q ⟨ρ,st,us,sr,r,h⟩
 unfold intF at h
 split at h
 ·rename_i b
  obtain ⟨v,rfl,r1⟩:=r.un1
  exact ⟨b,by rw [r1.bl_],fin_int sr h⟩
 ·exact h.elim
end
section
variable {X:Cx} {E:XK} {o e:Expr} {es:List Expr} {mo:ME} {ms:MA} {apos cpos:Pos}
theorem me_append (ho:PE X o (tE X E mo)) (ha:PA X (e :: es) (tL X E ms))
  (hbase:attributeBase o "append" X.env (eval o X.env) = eval o X.env:=by rfl)
  (hfew:((backTo cpos (starEach (e :: es) X.env)).all (fun x => !x.1) && (backToKw cpos (keywordEach [] X.env)).all (fun x => x.1.isSome)
   && decide ((e :: es).length + ([]:List Keyword).length + (if ([]:List Keyword).isEmpty then 0 else 1) < 30)) = true:=by rfl)
  (hline:(apos.endLine == cpos.line) = true:=by rfl) (hs:starEach (e :: es) X.env = (false,eval e X.env) :: starEach es X.env:=by rfl) (hplain:(backTo cpos (starEach es X.env)).any (·.1) = false:=by rfl) :
  PE X (.Call (.Attribute o "append" apos) (e :: es) [] cpos) (tE X E (mMtL appendF mo ms)):=me_mtL PySem.F.slot_list_append PySem.F.type_list_append mt_appendM ho ha hbase hfew hline hs hplain
theorem me_pop0 (ho:PE X o (tE X E mo)) (hbase:attributeBase o "pop" X.env (eval o X.env) = eval o X.env:=by rfl) (hline:(apos.endLine == cpos.line) = true:=by rfl) :
  PE X (.Call (.Attribute o "pop" apos) [] [] cpos) (tE X E (mMt0 popF mo)):=me_mt0 PySem.F.slot_list_pop PySem.F.type_list_pop mt_popM ho hbase hline
end
end MN
namespace MN
open PySem PySem.Spec L2
open PyProof.Rows hiding St
theorem capsR {X:Cx} {N:List Str} {scope:Scope} {k:Nat} {cl cl':List (Str × Addr)} {caps caps':List Nat} (clos:closureFor scope X.env = pure cl') (A:CapAll X scope cl caps) (B:CapAll X scope cl' caps') (has:((relabel scope X.env).names.all fun p => !(p.2 == .cell || p.2 == .free) || (cl'.map (·.1)).contains p.1) = true)
  (nocell:(scope.names.all fun p => !(p.2 == .cell)) = true) (kind:scope.kind = .function) (names:(scope.names.all fun p => !(p.2 == .local) || scope.names.lookup p.1 == some .local) = true) (len:N.length = k + caps.length) (hN:N.drop k = cl.map (·.1)):Caps X N scope cl' k caps where
 clos:=clos
 sub:=B.sub
 has:=fun x h => by
  have m:x ∈ cl'.map (·.1):=by
   rcases h with h | h <;> (have m:=PySem.mem_of_lookup h; have z:=List.all_eq_true.mp has _ m; simpa using z)
  exact lookup_of_mem m
 nocell:=fun x hx h => by
  have z:=List.all_eq_true.mp nocell x hx
  simp [h] at z
 kind:=kind
 names:=fun x hx h => by
  have z:=List.all_eq_true.mp names x hx
  simpa [h] using z
 len:=len
 at_:=fun i j x h1 h2 => A.at_ i j x h1 (by rw [← hN,List.getElem?_drop]; exact h2)
theorem len0 {C:List Value → Prop} (h:C []) (us:List Value) (hl:us.length = 0):C us:=by
 rw [List.eq_nil_of_length_eq_zero hl]
 exact h
theorem lenS {C:List Value → Prop} {n:Nat} (h:∀ a (r:List Value),r.length = n → C (a :: r)) (us:List Value) (hl:us.length = n + 1):C us:=by
 cases us with
 | nil => cases hl
 | cons a r => exact h a r (Nat.succ.inj hl)
theorem len1 {C:List Value → Prop} (h:∀ a,C [a]):∀ us:List Value,us.length = 1 → C us:=lenS fun a => len0 (C:=fun r => C (a :: r)) (h a)
theorem len2 {C:List Value → Prop} (h:∀ a b,C [a,b]):∀ us:List Value,us.length = 2 → C us:=lenS fun a => len1 (C:=fun r => C (a :: r)) (h a)
theorem len3 {C:List Value → Prop} (h:∀ a b c,C [a,b,c]):∀ us:List Value,us.length = 3 → C us:=lenS fun a => len2 (C:=fun r => C (a :: r)) (h a)
theorem len4 {C:List Value → Prop} (h:∀ a b c d,C [a,b,c,d]):∀ us:List Value,us.length = 4 → C us:=lenS fun a => len3 (C:=fun r => C (a :: r)) (h a)
end MN
namespace L2
open PySem PySem.Spec PyProof.Rows PySem.W Builtin Builtin.ObjectAttr Builtin.Getset_descriptor PySem.Calls
noncomputable def quietX (K:PySem.W.Frag) (C:Addr):Bool:=findIn K (.ref C) "__getattribute__" == some (some (.builtin "BaseException.__getattribute__")) && (findIn K (.ref C) "__getattr__" == some none) && (findIn K (.ref C) "__class__" == some (some (.builtin "object.__class__"))) &&
 (mroIn K C (.type "object") == some true) && (mroIn K C (.type "BaseException") == some true) && (specialIn K (.builtin "object.__class__") "__get__" == some (some (.builtin "getset_descriptor.__get__"))) && (takesIn K (.builtin "object.__class__") == some true) && (kitCls K (.ref C) (.ref C) == some true)
structure QuietX (K:PySem.W.Frag) (C:Addr):Prop where
 ga:findIn K (.ref C) "__getattribute__" = some (some (.builtin "BaseException.__getattribute__"))
 gh:findIn K (.ref C) "__getattr__" = some none
 gc:findIn K (.ref C) "__class__" = some (some (.builtin "object.__class__"))
 mo:mroIn K C (.type "object") = some true
 mb:mroIn K C (.type "BaseException") = some true
 sg:specialIn K (.builtin "object.__class__") "__get__" = some (some (.builtin "getset_descriptor.__get__"))
 tk:takesIn K (.builtin "object.__class__") = some true
 kc:kitCls K (.ref C) (.ref C) = some true
theorem quietX_of {K:PySem.W.Frag} {C:Addr} (h:quietX K C = true):QuietX K C:=by
 unfold quietX at h
 simp only [Bool.and_eq_true] at h
 obtain ⟨⟨⟨⟨⟨⟨⟨a,b⟩,c⟩,d⟩,e⟩,f⟩,g⟩,i⟩:=h
 exact ⟨beq_iff_eq.mp a,beq_iff_eq.mp b,beq_iff_eq.mp c,beq_iff_eq.mp d,beq_iff_eq.mp e,beq_iff_eq.mp f,beq_iff_eq.mp g,beq_iff_eq.mp i⟩
section
variable {prog:Program} {w:World} {A:Around} {E:Value → Shared → Prop} {s:Shared} {K:PySem.W.Frag} {x C:Addr} {ox:Obj} {R:Result → Shared → Prop}
theorem typeX {M:Model} {h:Heap} (hx:h.get? x = some ox) (hc:ox.cls = .ref C):Looks M h (typeOf (.ref x)) (.ref C):=hc ▸ (Looks.ld hx).andThen .now
theorem class_getX {tp:Value} (X:K.In s.heap) (hx:s.heap.get? x = some ox) (hc:ox.cls = .ref C) (hm:mroIn K C (.type "object") = some true)
  (h:R (.ok (.ret (.ref C))) s):codeAny (model prog w) A (.call (.builtin "getset_descriptor.__get__") ⟨[.builtin "object.__class__",.ref x,tp],[]⟩) R s:=by
 obtain ⟨hh,g,dr,t,os⟩:=s
 have L0:=typeX (M:=model prog w) hx hc
 have L1:=looks_mroIn (M:=model prog w) X hm
 refine codeAny_call_builtin KF.slot_gs.plain KF.entry_gs (KF.slot_gs.check _ _ _ _ _ _ _ _ KF.type_class (KF.args_gs _ _ _) ?_)
 unfold Builtin.«getset_descriptor.__get__» descrGet
 rw [dga_obj]
 refine wpAny_bind (wpAny_pure ?_)
 unfold descrGetter descrCheckInstance descrNameAndClass isInstance
 simp only [KF.owner_class]
 repeat lk
 refine ⟨Code.quiet_builtin _ (by decide +kernel),codeAny_builtin KF.entry_class ?_⟩
 unfold Builtin.«object.__class__» shownTypeOf
 repeat lk
 exact h
theorem find_classX {M:Model} {h:Heap} (X:K.In h) (q:QuietX K C):Looks M h (find (.ref x) (.ref C) "__class__") (.bind (.builtin "getset_descriptor.__get__") (.builtin "object.__class__")):=by
 have L1:=looks_findIn (M:=M) X q.gc
 have L2:Looks M h (getOf (some (.builtin "object.__class__"))) (some (.builtin "getset_descriptor.__get__")):=looks_specialIn X q.sg
 have L3:=looks_takesIn (M:=M) X q.tk
 refine L1.andThen (L2.andThen ?_)
 exact (show Looks M h (dataDescriptor? (some (.builtin "object.__class__")) (some (.builtin "getset_descriptor.__get__"))) (some (.builtin "getset_descriptor.__get__",.builtin "object.__class__")) from L3.andThen .now).andThen (Looks.tag .now)
theorem class_callX {tk:Tok} (X:K.In s.heap) (hx:s.heap.get? x = some ox) (hc:ox.cls = .ref C) (q:QuietX K C) (h:R (.ok (.ret (.ref C))) s) :
  codeAny (model prog w) A (.call (.builtin "BaseException.__getattribute__") ⟨[.ref x,.str "__class__" tk],[]⟩) R s:=by
 obtain ⟨hh,g,dr,t,os⟩:=s
 have L0:=typeX (M:=model prog w) hx hc
 have L1:=looks_mroIn (M:=model prog w) X q.mb
 have L2:=find_classX (M:=model prog w) (x:=x) X q
 refine codeAny_call_builtin PySem.F.attrBase_ValueError.ga.plain PySem.F.entry_bexc_ga ?_
 have hk:builtinKind "BaseException.__getattribute__" = some .slot:=by decide +kernel
 have hsplit:splitId "BaseException.__getattribute__" = some ("BaseException","__getattribute__"):=by decide +kernel
 have ha:=PySem.F.args_bexc_ga (.ref x) (.str "__class__" tk)
 simp only [checkBuiltinCall,hk,hsplit]
 refine wpAny_bind ?_
 unfold isInstance
 refine wpAny_bind (L0.at (L1.at ?_))
 simp only [Bool.not_true,Bool.false_eq_true,if_false]
 unfold argsOk at ha
 generalize Manifest.signature? "BaseException.__getattribute__" = sg at ha ⊢
 cases sg
 all_goals (try (dsimp only at ha ⊢; rw [ha]))
 all_goals refine wpAny_pure ?_
 all_goals unfold Builtin.«object.__getattribute__»
 all_goals (refine wpAny_bind (wpAny_pure ?_))
 all_goals (refine wpAny_bind (wpAny_pure ?_))
 all_goals (refine wpAny_bind (L0.at (wpAny_bind (L2.at ?_))))
 all_goals (unfold bindTo)
 all_goals (dsimp only)
 all_goals (refine wpAny_bind (wpAny_holding ?_))
 all_goals (refine wpAny_call (class_getX X hx hc q.mo ?_))
 all_goals (exact wpAny_pure h)
theorem class_byX {tk:Tok} {Q:Value → Shared → Prop} (X:K.In s.heap) (hx:s.heap.get? x = some ox) (hc:ox.cls = .ref C) (q:QuietX K C) (h:Q (.ref C) s):wpAny (model prog w) A (getAttrBy (.ref x) (.str "__class__" tk) false) Q E s:=by
 obtain ⟨hh,g,dr,t,os⟩:=s
 have L0:=typeX (M:=model prog w) hx hc
 have L1:=looks_findIn (M:=model prog w) X q.ga
 have L2:=looks_findIn (M:=model prog w) X q.gh
 unfold getAttrBy
 refine wpAny_holding (wpAny_bind (L0.at (wpAny_bind (L1.at ?_))))
 have hx2:(Value.builtin "BaseException.__getattribute__" == Value.builtin "object.__getattribute__") = false:=by decide +kernel
 have hx1:(onTheHeap (Value.ref C) && Value.builtin "BaseException.__getattribute__" == Value.builtin "object.__getattribute__") = false:=by rw [hx2]; rfl
 dsimp only
 rw [if_neg (by rw [hx1]; decide)]
 unfold getAttrByItsOwn
 refine wpAny_bind ?_
 have L3:Looks (model prog w) hh (hookBefore (.ref C)) none:=looks_hook X (by rw [if_pos (by rfl)]; exact q.gh)
 refine L3.at (wpAny_bind (wpAny_attempt (wpAny_holding ?_)))
 unfold callGetattribute
 rw [if_neg (by simp)]
 unfold boundAndCalled
 rw [PySem.F.attrBase_ValueError.ga.bind (.ref x)]
 refine wpAny_bind (wpAny_pure ?_)
 refine wpAny_call (class_callX X hx hc q ?_)
 exact handed_on rfl h
theorem class_attrX {Q:Option Value → Shared → Prop} (X:K.In s.heap) (hx:s.heap.get? x = some ox) (hc:ox.cls = .ref C) (q:QuietX K C) (h:Q (some (.ref C)) { s with toks:=s.toks + 1 }):wpAny (model prog w) A (getAttr? (.ref x) "__class__") Q E s:=by
 unfold getAttr? getAttrBy?
 refine wpAny_bind (wpAny_mkText (wpAny_bind (wpAny_attempt (class_byX X hx hc q ?_))))
 exact wpAny_pure h
end
theorem kitx_exc {K:PySem.W.Frag} {x C:Addr} {ox:Obj} (hc:ox.cls = .ref C) (q:QuietX K C):KitX K (.ref x) (.ref C) (fun h => h.get? x = some ox) where
 ty:=fun _ _ _ hx => typeX hx hc
 it:=fun M h X _ => (kit_cls (M:=M) X q.kc).2.1
 ne:=fun h tp dd its n sl X e => Bool.eq_false_iff.mpr fun z => by
  have z:=beq_iff_eq.mp z
  cases z
  have kc:=q.kc
  unfold kitCls at kc
  dsimp only at kc
  split at kc
  ·rename_i z
   rw [Bool.and_eq_true] at z
   have z0:=z.1
   unfold clsIn at z0
   split at z0
   ·rename_i c' d' cd' sl' ho
    rw [X _ _ ho] at e
    cases e
   ·cases z0
  ·cases kc
 ca:=fun X hx k => class_attrX X hx hc q k
section
variable {X:Cx}
theorem vals_refs:∀ {cs:List Addr} {its:List Value},Vals (cs.map V.ref) its → its = cs.map Value.ref
 | [],_,.nil => rfl
 | c :: cs,_,.cons h r => by
  have h:_ = Value.ref c:=h
  rw [h,vals_refs r]
  rfl
theorem call_isinstXs:CallR X (.builtin "isinstance") (fun xs H Q => ∃ (ea:Addr) (oe:Obj) (C tp:Addr) (cs:List Addr) (b:Bool),xs = [.ref ea,.ref tp] ∧ H tp = some (.tup (cs.map V.ref)) ∧ (ea,oe) ∈ X.pn ∧ oe.cls = .ref C ∧ QuietX X.K C ∧ kitAny X.K (.ref C) (cs.map Value.ref) = some b ∧ Q (.bl b) H):=by
 intro pins s σ H xs us Q I r h
 refine bcn fun hNO => ?_
 obtain ⟨ea,oe,C,tp,cs,b,rfl,ht,hp,hc,hq,hk,q⟩:=h
 have he:=(I.pin (ea,oe) (List.mem_append_left _ hp)).1
 obtain ⟨u,u2,rfl,ru,ru2⟩:=vals2 r
 cases ru
 cases ru2
 obtain ⟨its,hv,⟨ob,ho,hcl,hda⟩,_⟩:=I.tuple (.of ht)
 have e:=vals_refs hv
 subst e
 obtain ⟨oc,od,oda,osl⟩:=ob
 dsimp only at hcl hda
 subst hcl
 obtain ⟨nn,hda⟩:=hda
 subst hda
 refine hNO ?_; clear hNO
 exact kia_tup (kitx_exc hc hq) I.kIn he ho hk (by intro z; cases z) fun tk => ⟨.bl b,H,I.tok tk,rfl,q⟩
end
end L2
namespace MN
open PySem PySem.Spec L2
open PyProof.Rows hiding St
noncomputable def anyC (sub:Str → Str → Option Bool) (c:Str):List Str → Option Bool
 | [] => some false
 | x :: r => match sub c x with
  | some true => some true
  | some false => anyC sub c r
  | none => none
noncomputable def mIsXs (sub:Str → Str → Option Bool) (qs:List Str) (i:Nat) (xs:List Str):ME:=fun μ st => match μ[i]? with
 | some (some (.exc c)) => if qs.contains c then (match anyC sub c xs with
  | some b => .ok (.bl b) st
  | none => .bad) else .bad
 | _ => .bad
inductive QAll (K:PySem.W.Frag) (mg:Str → Option Value):List Str → Prop
 | nil:QAll K mg []
 | cons {x:Str} {C:Addr} {r:List Str} (hm:mg x = some (.ref C)) (hq:quietX K C = true) (hr:QAll K mg r):QAll K mg (x :: r)
theorem QAll.at_ {K:PySem.W.Frag} {mg:Str → Option Value} {c:Str}:∀ {qs:List Str},QAll K mg qs → qs.contains c = true → ∃ C,mg c = some (.ref C) ∧ QuietX K C
 | _,.nil,h => by simp at h
 | _,.cons (x:=x) hm hq hr,h => by
  by_cases e:c = x
  ·subst e; exact ⟨_,hm,quietX_of hq⟩
  ·exact hr.at_ (by simpa [e] using h)
inductive NamesAt (X:Cx):List Expr → List Str → Prop
 | nil:NamesAt X [] []
 | cons {x:Str} {q:Pos} {es:List Expr} {xs:List Str} (hg:Gl X x) (h:ExcC X.K X.mg x) (hd:(x == ("__debug__":Str)) = false) (r:NamesAt X es xs):NamesAt X (.Name x q :: es) (x :: xs)
inductive Cls (mg:Str → Option Value):List Str → List Addr → Prop
 | nil:Cls mg [] []
 | cons {x:Str} {C:Addr} {xs:List Str} {cs:List Addr} (h:mg x = some (.ref C)) (r:Cls mg xs cs):Cls mg (x :: xs) (C :: cs)
noncomputable def tVs (vs:List V):TA:=fun _ H Q => Q vs H
theorem NamesAt.pa {X:Cx}:∀ {es:List Expr} {xs:List Str},NamesAt X es xs → ∃ cs,Cls X.mg xs cs ∧ PA X es (tVs (cs.map V.ref))
 | _,_,.nil => ⟨[],.nil,pa_nil⟩
 | _,_,.cons hg h hd r => by
  refine bcn fun hNO => ?_
  obtain ⟨C,hm,_,_⟩:=h
  obtain ⟨cs,h1,h2⟩:=r.pa
  refine hNO ?_; clear hNO
  exact ⟨C :: cs,.cons hm h1,pa_cons (pe_glob (v:=.ref C) hg hm rfl hd) h2⟩
theorem Cls.length {mg:Str → Option Value}:∀ {xs:List Str} {cs:List Addr},Cls mg xs cs → cs.length = xs.length
 | _,_,.nil => rfl
 | _,_,.cons _ r => by rw [List.length_cons,List.length_cons,r.length]
theorem Cls.any {K:PySem.W.Frag} {mg:Str → Option Value} {sub:Str → Str → Option Bool} (hS:SubT K mg sub) {c:Str} {C:Addr} (hC:mg c = some (.ref C)) (hq:QuietX K C) {b:Bool}:∀ {xs:List Str} {cs:List Addr},Cls mg xs cs → anyC sub c xs = some b → PySem.W.kitAny K (.ref C) (cs.map Value.ref) = some b
 | _,_,.nil,h => by unfold anyC at h; unfold PySem.W.kitAny; exact h
 | _,_,.cons (x:=x) (C:=D) hm r,h => by
  unfold anyC at h
  have one:∀ b',sub c x = some b' → PySem.W.kitOne K (.ref C) (.ref D) = some b':=fun b' e => by
   have k:=hS c x b' C D e hC hm
   unfold PySem.W.kitOne
   split
   ·rename_i z
    have z:=beq_iff_eq.mp z
    cases z
    rw [hq.kc] at k
    exact k
   ·exact k
  rw [List.map_cons]
  unfold PySem.W.kitAny
  split at h
  ·rename_i e
   rw [one _ e]
   exact h
  ·rename_i e
   rw [one _ e]
   exact r.any hS hC hq h
  ·cases h
section
variable {X:Cx} {E:XK} {pos p q1 tpos:Pos} {n:Str} {i:Nat} {tab:List (Str × Str × Bool)} {qs xs:List Str} {es:List Expr} {cx:Nat}
theorem me_isXs (hS:SubAll X.K X.mg tab) (hQ:QAll X.K X.mg qs) (hn:NamesAt X es xs) (hg:Gl X "isinstance") (hm:X.mg "isinstance" = none) (hN:X.N[i]? = some n) (hv:Vis X.env.scope n) (hz:decide (xs.length ≤ 1000) = true:=by rfl)
  (hd:(n == ("__debug__":Str)) = false:=by decide) (hcd:(n == ("__classdict__":Str)) = false:=by decide)
  (hs:starEach [.Name n q1,.Tuple es cx tpos] X.env = (false,eval (.Name n q1) X.env) :: starEach [.Tuple es cx tpos] X.env:=by rfl) (hs2:starEach [.Tuple es cx tpos] X.env = (false,eval (.Tuple es cx tpos) X.env) :: starEach [] X.env:=by rfl)
  (hpl:(backTo pos (starEach [.Tuple es cx tpos] X.env)).any (·.1) = false:=by rfl):PE X (.Call (.Name "isinstance" p) [.Name n q1,.Tuple es cx tpos] [] pos) (tE X E (mIsXs (subL tab) qs i xs)):=by
 refine bcn fun hNO => ?_
 obtain ⟨cs,hc,hp⟩:=hn.pa
 refine hNO ?_; clear hNO
 refine PE.imp (pe_callB call_isinstXs hg hm PyProof.Rows.boot_isinstance (pa_cons (pe_var (i:=i) hN hv hd hcd) (pa_cons (pe_tup hp) pa_nil hs2) hs) (by decide) (by decide) hs hpl) ?_
 rintro σ H Q ⟨μ,ρ,st,rs,sr,h⟩
 unfold mIsXs at h
 split at h
 ·rename_i c e
  split at h
  ·rename_i hqs
   split at h
   ·rename_i b eb
    refine bcn fun hNO => ?_
    obtain ⟨w,e',a,oe,C,rfl,hp,hC,ho⟩:=rs.at_ i _ e
    obtain ⟨C',hC',hq⟩:=hQ.at_ hqs
    have hC:X.mg c = some (.ref C):=hC
    rw [hC] at hC'
    cases hC'
    refine hNO ?_; clear hNO
    refine ⟨_,e',⟨by rw [List.length_map,hc.length]; have:=of_decide_eq_true hz; unfold sizeLine; lia,fun p hp' => ?_⟩⟩
    have e:Same H (upd H p (.tup (cs.map V.ref))):=same_upd hp'
    exact ⟨a,oe,C,p,cs,b,rfl,upd_same,hp,ho,hq,hc.any hS.subT hC hq eb,h ρ _ _ (Step.same e) (sr.grow e) (Rl.mkBl b)⟩
   ·exact h.elim
  ·exact h.elim
 ·exact h.elim
end
end MN
namespace PM
open PySem PySem.Spec L2 MN
open PyProof.Rows hiding St
noncomputable def FIRST_PRIMES:Val:=.mt ([2,3,5,7,11,13,17,19,23,29,31].map Val.int)
noncomputable def is_whole:FN:=fnM 1 1 (sRet (mAnd (mIs "int" (mVar 0)) (mNot (mIs "bool" (mVar 0)))))
noncomputable def is_prime_within:FN:=fnM 1 1 (sSeq (sIf (asT (mBin (inW false) (mVar 0) (mC PM.FIRST_PRIMES))) (sRet (mC (.bl true))) sNext) (sSeq (sIf (tOrM (asT (mBin ltV (mVar 0) (mC (.int 2)))) (asT (mBin gtV (mVar 0) (mC (.int 997))))) (sRet (mC (.bl false))) sNext) (sRet (mCall allF (mCons (mComp 1 [0] (iSeq (mC PM.FIRST_PRIMES)) (aName 0) tTrueM (mBin neM (mBin modV (mVar 1) (mVar 0)) (mC (.int 0)))) mNil)))))
noncomputable def signed_unit:FN:=fnM 1 1 (sRet (mIf (asT (mBin ltV (mVar 0) (mC (.int 0)))) (mNeg (mC (.int 1))) (mC (.int 1))))
noncomputable def whole_inverse:FN:=fnM 1 1 (sSeq (sIf (asT (mBin neM (mCall absF (mCons (mVar 0) mNil)) (mC (.int 1)))) (sRaise "NoInverse" (mCons (mC (.str "only 1 and -1 have an inverse among the whole numbers")) mNil)) sNext) (sRet (mVar 0)))
noncomputable def whole_over:FN:=fnM 2 2 (sSeq (sIf (asT (mBin eqM (mVar 1) (mC (.int 0)))) (sRaise "NoInverse" (mCons (mC (.str "nothing is divided by nought")) mNil)) sNext) (sSeq (sIf (asT (mBin neM (mBin modV (mVar 0) (mVar 1)) (mC (.int 0)))) (sRaise "NotWhole" (mCons (mC (.str "no whole number makes the first one of the second")) mNil)) sNext) (sRet (mBin fdivV (mVar 0) (mVar 1)))))
noncomputable def law_cell_at:FN:=fnM 2 6 (sSeq (sSet 2 (mC (.int 0))) (sSeq (sIf (asT (mBin ltV (mVar 1) (mCall lenF (mCons (mVar 0) mNil)))) (sSet 2 (mBin ixV (mVar 0) (mVar 1))) sNext) (sSeq (sSet 3 (mBin modV (mBin addV (mBin addV (mBin addV (mBin mulV (mVar 2) (mC (.int 48271))) (mBin mulV (mBin mulV (mC (.int 7919)) (mVar 1)) (mVar 1))) (mBin mulV (mC (.int 104729)) (mVar 1))) (mC (.int 11))) (mC (.int 2147483647)))) (sSeq (sSet 4 (mC (.int 0))) (sSeq (sFor (iRange1 (mCons (mC (.int 6)) mNil)) (aName 5) (sSeq (sSet 3 (mBin modV (mBin addV (mBin mulV (mBin modV (mBin mulV (mVar 3) (mVar 3)) (mC (.int 2147483629))) (mC (.int 69621))) (mVar 5)) (mC (.int 2147483647)))) (sSet 4 (mBin addV (mBin mulV (mVar 4) (mC (.int 2147483647))) (mVar 3))))) (sRet (mVar 4)))))))
noncomputable def is_ring:FN:=fnM 1 1 (sRet (mAnd (mCall PM.is_whole (mCons (mVar 0) mNil)) (mOr (mBin eqM (mVar 0) (mC (.int 0))) (mCall PM.is_prime_within (mCons (mVar 0) mNil)))))
noncomputable def shared:FN:=fnM 2 6 (sSeq (sSet 2 (mTup (mCons (mCall absF (mCons (mVar 0) mNil)) (mCons (mCall PM.signed_unit (mCons (mVar 0) mNil)) (mCons (mC (.int 0)) mNil))))) (sSeq (sSet 3 (mTup (mCons (mCall absF (mCons (mVar 1) mNil)) (mCons (mC (.int 0)) (mCons (mCall PM.signed_unit (mCons (mVar 1) mNil)) mNil))))) (sSeq (sWhile (asT (mBin neM (mBin ixV (mVar 3) (mC (.int 0))) (mC (.int 0)))) (sSeq (sSet 4 (mBin fdivV (mBin ixV (mVar 2) (mC (.int 0))) (mBin ixV (mVar 3) (mC (.int 0))))) (sSeq (sSet 5 (mCall tupF (mCons (mComp 2 [4] (iZip2 false false (mCons (mVar 2) (mCons (mVar 3) mNil))) (aTup [(aName 0),(aName 1)]) tTrueM (mBin subV (mVar 0) (mBin mulV (mVar 2) (mVar 1)))) mNil))) (sSeq (sSet 2 (mVar 3)) (sSet 3 (mVar 5)))))) (sRet (mVar 2)))))
noncomputable def check_ring:FN:=fnM 1 1 (sIf (tNotM (asT (mCall PM.is_ring (mCons (mVar 0) mNil)))) (sRaise "NoRing" (mCons (mC (.str "a ring is 0 or a prime from 2 to 997")) mNil)) sNext)
noncomputable def inverse:FN:=fnM 2 2 (sSeq (sExpr (mCall PM.check_ring (mCons (mVar 0) mNil))) (sSeq (sIf (asT (mBin eqM (mVar 0) (mC (.int 0)))) (sRet (mCall PM.whole_inverse (mCons (mVar 1) mNil))) sNext) (sSeq (sIf (asT (mBin eqM (mBin modV (mVar 1) (mVar 0)) (mC (.int 0)))) (sRaise "NoInverse" (mCons (mC (.str "a multiple of the prime has no inverse")) mNil)) sNext) (sRet (mBin modV (mBin ixV (mCall PM.shared (mCons (mBin modV (mVar 1) (mVar 0)) (mCons (mVar 0) mNil))) (mC (.int 1))) (mVar 0))))))
noncomputable def over:FN:=fnM 3 3 (sSeq (sExpr (mCall PM.check_ring (mCons (mVar 0) mNil))) (sSeq (sIf (asT (mBin eqM (mVar 0) (mC (.int 0)))) (sRet (mCall PM.whole_over (mCons (mVar 1) (mCons (mVar 2) mNil)))) sNext) (sRet (mBin modV (mBin mulV (mVar 1) (mCall PM.inverse (mCons (mVar 0) (mCons (mVar 2) mNil)))) (mVar 0)))))
noncomputable def law_whole:FN:=fnM 1 1 (sRet (mAnd (mIs "int" (mVar 0)) (mNot (mIs "bool" (mVar 0)))))
noncomputable def law_number:FN:=fnM 1 1 (sSeq (sIf (asT (mBin eqM (mBin modV (mVar 0) (mC (.int 7))) (mC (.int 0)))) (sRet (mBin mulV (mBin subV (mC (.int 1)) (mBin mulV (mBin modV (mBin fdivV (mVar 0) (mC (.int 7))) (mC (.int 2))) (mC (.int 2)))) (mBin modV (mBin fdivV (mVar 0) (mC (.int 14))) (mBin powV (mC (.int 10)) (mC (.int 40)))))) sNext) (sRet (mBin subV (mBin modV (mBin fdivV (mVar 0) (mC (.int 7))) (mC (.int 19))) (mC (.int 9)))))
noncomputable def law_t7:MB:=(sRet (mAnd (mBin eqM (mBin modV (mVar 1) (mBin ixV (mVar 4) (mC (.int 0)))) (mC (.int 0))) (mBin eqM (mBin modV (mVar 2) (mBin ixV (mVar 4) (mC (.int 0)))) (mC (.int 0)))))
noncomputable def law_t6:MB:=(sSeq (sIf (asT (mBin eqM (mBin ixV (mVar 4) (mC (.int 0))) (mC (.int 0)))) (sRet (mAnd (mBin eqM (mVar 1) (mC (.int 0))) (mBin eqM (mVar 2) (mC (.int 0))))) sNext) PM.law_t7)
noncomputable def law_t5:MB:=(sSeq (sIf (tOrM (asT (mBin neM (mBin addV (mBin mulV (mBin ixV (mVar 4) (mC (.int 1))) (mVar 1)) (mBin mulV (mBin ixV (mVar 4) (mC (.int 2))) (mVar 2))) (mBin ixV (mVar 4) (mC (.int 0))))) (asT (mBin ltV (mBin ixV (mVar 4) (mC (.int 0))) (mC (.int 0))))) (sRet (mC (.bl false))) sNext) PM.law_t6)
noncomputable def law_t4:MB:=(sSeq (sIf (tOrM (tNotM (asT (mIs "tuple" (mVar 4)))) (tOrM (asT (mBin neM (mCall lenF (mCons (mVar 4) mNil)) (mC (.int 3)))) (asT (mBin neM (mComp 1 [] (iSeq (mVar 4)) (aName 0) (tNotM (asT (mCall PM.law_whole (mCons (mVar 0) mNil)))) (mVar 0)) (mLst mNil))))) (sRet (mC (.bl false))) sNext) PM.law_t5)
noncomputable def law_t3:MB:=(sSeq (sSet 4 (mCall PM.shared (mCons (mVar 1) (mCons (mVar 2) mNil)))) PM.law_t4)
noncomputable def law_t2:MB:=(sSeq (sIf (asT (mBin eqM (mBin modV (mCall PM.law_cell_at (mCons (mVar 0) (mCons (mC (.int 2)) mNil))) (mC (.int 2))) (mC (.int 1)))) (sSeq (sSet 3 (mCall PM.law_number (mCons (mBin fdivV (mCall PM.law_cell_at (mCons (mVar 0) (mCons (mC (.int 2)) mNil))) (mC (.int 2))) mNil))) (sSeq (sSet 1 (mBin mulV (mVar 1) (mVar 3))) (sSet 2 (mBin mulV (mVar 2) (mVar 3))))) sNext) PM.law_t3)
noncomputable def law_t1:MB:=(sSeq (sSet 2 (mCall PM.law_number (mCons (mCall PM.law_cell_at (mCons (mVar 0) (mCons (mC (.int 1)) mNil))) mNil))) PM.law_t2)
noncomputable def law:FN:=fnM 1 5 (sSeq (sSet 1 (mCall PM.law_number (mCons (mCall PM.law_cell_at (mCons (mVar 0) (mCons (mC (.int 0)) mNil))) mNil))) PM.law_t1)
end PM
namespace PM
open PySem PySem.Spec L2 MN
open PyProof.Rows hiding St
noncomputable def row_of_rests:FN:=fnM 2 3 (sSeq (sSet 2 (mComp 1 [0] (iSeq (mVar 1)) (aName 0) tTrueM (mBin modV (mVar 0) (mVar 1)))) (sSeq (sWhile (tAndM (asT (mBin gtV (mCall lenF (mCons (mVar 2) mNil)) (mC (.int 0)))) (asT (mBin eqM (mBin ixV (mVar 2) (mNeg (mC (.int 1)))) (mC (.int 0))))) (sExpr (mMt0 popF (mVar 2)))) (sRet (mVar 2))))
noncomputable def law_cell_at_v2:FN:=fnM 2 5 (sSeq (sSet 2 (mC (.int 0))) (sSeq (sIf (asT (mBin ltV (mVar 1) (mCall lenF (mCons (mVar 0) mNil)))) (sSet 2 (mBin ixV (mVar 0) (mVar 1))) sNext) (sSeq (sIf (asT (mBin gtV (mCall absF (mCons (mVar 2) mNil)) (mBin powV (mC (.int 10)) (mC (.int 9))))) (sRet (mVar 2)) sNext) (sSeq (sSet 3 (mBin modV (mBin addV (mBin addV (mBin addV (mBin mulV (mVar 2) (mC (.int 48271))) (mBin mulV (mBin mulV (mC (.int 7919)) (mVar 1)) (mVar 1))) (mBin mulV (mC (.int 104729)) (mVar 1))) (mC (.int 11))) (mC (.int 2147483647)))) (sSeq (sSet 4 (mBin modV (mBin mulV (mBin modV (mBin mulV (mVar 3) (mVar 3)) (mC (.int 2147483629))) (mC (.int 69621))) (mC (.int 2147483647)))) (sRet (mBin addV (mBin mulV (mBin modV (mBin mulV (mVar 4) (mVar 4)) (mC (.int 2147483587))) (mC (.int 2147483647))) (mVar 4))))))))
noncomputable def law_prime_by:FN:=fnM 1 2 (sSeq (sSet 1 (mBin ixV (mLst (mCons (mC (.int 2)) (mCons (mC (.int 3)) (mCons (mC (.int 5)) (mCons (mC (.int 7)) (mCons (mC (.int 11)) (mCons (mC (.int 13)) (mCons (mBin addV (mC (.int 2)) (mBin modV (mBin fdivV (mVar 0) (mC (.int 8))) (mC (.int 996)))) (mCons (mBin addV (mC (.int 2)) (mBin modV (mBin fdivV (mVar 0) (mC (.int 8))) (mC (.int 996)))) mNil))))))))) (mBin modV (mVar 0) (mC (.int 8))))) (sSeq (sWhile (asT (mBin neM (mComp 1 [1] (iRange2 (mCons (mC (.int 2)) (mCons (mC (.int 32)) mNil))) (aName 0) (tAndM (asT (mBin ltV (mVar 0) (mVar 1))) (asT (mBin eqM (mBin modV (mVar 1) (mVar 0)) (mC (.int 0))))) (mVar 0)) (mLst mNil))) (sSet 1 (mBin subV (mVar 1) (mC (.int 1))))) (sRet (mVar 1))))
noncomputable def check_prime:FN:=fnM 1 1 (sIf (tOrM (tNotM (asT (mCall PM.is_ring (mCons (mVar 0) mNil)))) (asT (mBin eqM (mVar 0) (mC (.int 0))))) (sRaise "NoPrime" (mCons (mC (.str "a prime is one from 2 to 997")) mNil)) sNext)
noncomputable def with_noughts:FN:=fnM 2 2 (sRet (mBin addV (mCall lstF (mCons (mVar 0) mNil)) (mBin mulV (mLst (mCons (mC (.int 0)) mNil)) (mBin subV (mVar 1) (mCall lenF (mCons (mVar 0) mNil))))))
noncomputable def law_cut:FN:=fnM 1 2 (sSeq (sSet 1 (mCall lenF (mCons (mVar 0) mNil))) (sSeq (sWhile (tAndM (asT (mBin gtV (mVar 1) (mC (.int 0)))) (asT (mBin eqM (mBin ixV (mVar 0) (mBin subV (mVar 1) (mC (.int 1)))) (mC (.int 0))))) (sSet 1 (mBin subV (mVar 1) (mC (.int 1))))) (sRet (mSl (mVar 0) oNone (oSome (mVar 1))))))
noncomputable def law_own:FN:=fnM 1 4 (sSeq (sSet 1 (mComp 1 [] (iSeq (mVar 0)) (aName 0) tTrueM (mCall lstF (mCons (mVar 0) mNil)))) (sSeq (sFor (iRange1 (mCons (mCall lenF (mCons (mVar 0) mNil)) mNil)) (aName 2) (sSeq (sExpr (mMtL appendF (mBin ixV (mVar 0) (mVar 2)) (mCons (mC (.int 1)) mNil))) (sFor (iRange1 (mCons (mCall lenF (mCons (mVar 0) mNil)) mNil)) (aName 3) (sIf (asT (mBin neM (mBin ixV (mVar 0) (mVar 3)) (mBin addV (mBin ixV (mVar 1) (mVar 3)) (mBin mulV (mLst (mCons (mC (.int 1)) mNil)) (mCall intF (mCons (mBin leV (mVar 3) (mVar 2)) mNil)))))) (sRet (mC (.bl false))) sNext)))) (sRet (mC (.bl true)))))
noncomputable def row_with_multiple:FN:=fnM 4 6 (sSeq (sSet 4 (mCall maxF (mCons (mCall lenF (mCons (mVar 1) mNil)) (mCons (mCall lenF (mCons (mVar 2) mNil)) mNil)))) (sSeq (sSet 5 (mCall PM.with_noughts (mCons (mVar 1) (mCons (mVar 4) mNil)))) (sRet (mCall PM.row_of_rests (mCons (mVar 0) (mCons (mComp 2 [3] (iZip2 true true (mCons (mVar 5) (mCons (mCall PM.with_noughts (mCons (mVar 2) (mCons (mVar 4) mNil))) mNil))) (aTup [(aName 0),(aName 1)]) tTrueM (mBin addV (mVar 0) (mBin mulV (mVar 2) (mVar 1)))) mNil))))))
noncomputable def row_product:FN:=fnM 3 8 (sSeq (sIf (tOrM (asT (mBin eqM (mCall lenF (mCons (mVar 1) mNil)) (mC (.int 0)))) (asT (mBin eqM (mCall lenF (mCons (mVar 2) mNil)) (mC (.int 0))))) (sRet (mLst mNil)) sNext) (sSeq (sSet 3 (mBin mulV (mLst (mCons (mC (.int 0)) mNil)) (mBin subV (mBin addV (mCall lenF (mCons (mVar 1) mNil)) (mCall lenF (mCons (mVar 2) mNil))) (mC (.int 1))))) (sSeq (sFor (iEnumM (mCons (mVar 1) mNil)) (aTup [(aName 4),(aName 5)]) (sFor (iEnumM (mCons (mVar 2) mNil)) (aTup [(aName 6),(aName 7)]) (sAugI iadV (mVar 3) (mBin addV (mVar 4) (mVar 6)) (mBin mulV (mVar 5) (mVar 7))))) (sRet (mCall PM.row_of_rests (mCons (mVar 0) (mCons (mVar 3) mNil)))))))
noncomputable def row_multiple:FN:=fnM 3 3 (sRet (mCall PM.row_of_rests (mCons (mVar 0) (mCons (mComp 1 [2] (iSeq (mVar 1)) (aName 0) tTrueM (mBin mulV (mVar 0) (mVar 1))) mNil))))
noncomputable def law_drawn:FN:=fnM 3 6 (sSeq (sSet 3 (mLst mNil)) (sSeq (sFor (iRange1 (mCons (mVar 2) mNil)) (aName 4) (sSeq (sSet 5 (mBin modV (mBin addV (mVar 1) (mBin mulV (mC (.int 7919)) (mVar 4))) (mC (.int 2147483647)))) (sSeq (sSet 5 (mBin modV (mBin mulV (mBin modV (mBin mulV (mVar 5) (mVar 5)) (mC (.int 2147483629))) (mC (.int 48271))) (mC (.int 2147483647)))) (sExpr (mMtL appendF (mVar 3) (mCons (mBin modV (mBin fdivV (mVar 5) (mBin addV (mC (.int 1)) (mVar 4))) (mVar 0)) mNil)))))) (sRet (mCall PM.law_cut (mCons (mVar 3) mNil)))))
end PM
namespace PM
open PySem PySem.Spec L2 MN
open PyProof.Rows hiding St
noncomputable def law_is_row:FN:=fnM 2 3 (sSeq (sIf (tNotM (asT (mIs "list" (mVar 1)))) (sRet (mC (.bl false))) sNext) (sSeq (sFor (iSeq (mVar 1)) (aName 2) (sIf (tOrM (tNotM (asT (mCall PM.law_whole (mCons (mVar 2) mNil)))) (tNotM (asT (mChain leV ltV (mC (.int 0)) (mVar 2) (mVar 0))))) (sRet (mC (.bl false))) sNext)) (sRet (mOr (mBin eqM (mVar 1) (mLst mNil)) (mBin neM (mBin ixV (mVar 1) (mNeg (mC (.int 1)))) (mC (.int 0)))))))
noncomputable def law_times:FN:=fnM 3 7 (sSeq (sSet 3 (mBin mulV (mLst (mCons (mC (.int 0)) mNil)) (mBin addV (mCall lenF (mCons (mVar 1) mNil)) (mCall lenF (mCons (mVar 2) mNil))))) (sSeq (sFor (iRange1 (mCons (mCall lenF (mCons (mVar 1) mNil)) mNil)) (aName 4) (sFor (iRange1 (mCons (mCall lenF (mCons (mVar 2) mNil)) mNil)) (aName 5) (sSeq (sSet 6 (mBin mulV (mBin ixV (mVar 1) (mVar 4)) (mBin ixV (mVar 2) (mVar 5)))) (sSetI (mVar 3) (mBin addV (mVar 4) (mVar 5)) (mBin modV (mBin addV (mBin ixV (mVar 3) (mBin addV (mVar 4) (mVar 5))) (mVar 6)) (mVar 0)))))) (sRet (mCall PM.law_cut (mCons (mVar 3) mNil)))))
noncomputable def law_sum:FN:=fnM 3 4 (sSeq (sSet 3 (mCall maxF (mCons (mCall lenF (mCons (mVar 1) mNil)) (mCons (mCall lenF (mCons (mVar 2) mNil)) mNil)))) (sSeq (sSet 1 (mBin addV (mVar 1) (mBin mulV (mLst (mCons (mC (.int 0)) mNil)) (mBin subV (mVar 3) (mCall lenF (mCons (mVar 1) mNil)))))) (sSeq (sSet 2 (mBin addV (mVar 2) (mBin mulV (mLst (mCons (mC (.int 0)) mNil)) (mBin subV (mVar 3) (mCall lenF (mCons (mVar 2) mNil)))))) (sRet (mCall PM.law_cut (mCons (mComp 2 [0] (iZip2 true true (mCons (mVar 1) (mCons (mVar 2) mNil))) (aTup [(aName 0),(aName 1)]) tTrueM (mBin modV (mBin addV (mVar 0) (mVar 1)) (mVar 2))) mNil))))))
noncomputable def parted:FN:=fnM 3 11 (sSeq (sSet 3 (mCall lstF (mCons (mVar 1) mNil))) (sSeq (sSet 4 (mCall PM.inverse (mCons (mVar 0) (mCons (mBin ixV (mVar 2) (mNeg (mC (.int 1)))) mNil)))) (sSeq (sSet 5 (mCall maxF (mCons (mC (.int 0)) (mCons (mBin addV (mBin subV (mCall lenF (mCons (mVar 1) mNil)) (mCall lenF (mCons (mVar 2) mNil))) (mC (.int 1))) mNil)))) (sSeq (sSet 6 (mBin mulV (mLst (mCons (mC (.int 0)) mNil)) (mVar 5))) (sSeq (sFor (iDownM (mCons (mBin subV (mVar 5) (mC (.int 1))) (mCons (mNeg (mC (.int 1))) (mCons (mNeg (mC (.int 1))) mNil)))) (aName 7) (sSeq (sSet 8 (mBin modV (mBin mulV (mBin ixV (mVar 3) (mBin subV (mBin addV (mVar 7) (mCall lenF (mCons (mVar 2) mNil))) (mC (.int 1)))) (mVar 4)) (mVar 0))) (sSeq (sSetI (mVar 6) (mVar 7) (mVar 8)) (sFor (iEnumM (mCons (mVar 2) mNil)) (aTup [(aName 9),(aName 10)]) (sAugI isbV (mVar 3) (mBin addV (mVar 7) (mVar 9)) (mBin mulV (mVar 8) (mVar 10))))))) (sRet (mTup (mCons (mCall PM.row_of_rests (mCons (mVar 0) (mCons (mVar 6) mNil))) (mCons (mCall PM.row_of_rests (mCons (mVar 0) (mCons (mVar 3) mNil))) mNil)))))))))
noncomputable def divided:FN:=fnM 3 3 (sSeq (sExpr (mCall PM.check_prime (mCons (mVar 0) mNil))) (sSeq (sIf (asT (mBin eqM (mCall lenF (mCons (mVar 2) mNil)) (mC (.int 0)))) (sRaise "ByNought" (mCons (mC (.str "no row is divided by nought")) mNil)) sNext) (sRet (mCall PM.parted (mCons (mVar 0) (mCons (mVar 1) (mCons (mVar 2) mNil)))))))
noncomputable def law_good_v2:FN:=fnM 4 6 (sSeq (sIf (tOrM (tNotM (asT (mIs "tuple" (mVar 1)))) (asT (mBin neM (mCall lenF (mCons (mVar 1) mNil)) (mC (.int 5))))) (sRet (mC (.bl false))) sNext) (sSeq (sFor (iSeq (mVar 1)) (aName 4) (sIf (tNotM (asT (mCall PM.law_is_row (mCons (mVar 0) (mCons (mVar 4) mNil))))) (sRet (mC (.bl false))) sNext)) (sSeq (sIf (asT (mBin neM (mSl (mBin ixV (mVar 1) (mC (.int 0))) (oSome (mNeg (mC (.int 1)))) oNone) (mLst (mCons (mC (.int 1)) mNil)))) (sRet (mC (.bl false))) sNext) (sSeq (sIf (tOrM (asT (mBin neM (mCall PM.law_times (mCons (mVar 0) (mCons (mBin ixV (mVar 1) (mC (.int 0))) (mCons (mBin ixV (mVar 1) (mC (.int 1))) mNil)))) (mVar 2))) (asT (mBin neM (mCall PM.law_times (mCons (mVar 0) (mCons (mBin ixV (mVar 1) (mC (.int 0))) (mCons (mBin ixV (mVar 1) (mC (.int 2))) mNil)))) (mVar 3)))) (sRet (mC (.bl false))) sNext) (sSeq (sSet 5 (mCall PM.law_sum (mCons (mVar 0) (mCons (mCall PM.law_times (mCons (mVar 0) (mCons (mBin ixV (mVar 1) (mC (.int 3))) (mCons (mVar 2) mNil)))) (mCons (mCall PM.law_times (mCons (mVar 0) (mCons (mBin ixV (mVar 1) (mC (.int 4))) (mCons (mVar 3) mNil)))) mNil))))) (sRet (mBin eqM (mVar 5) (mBin ixV (mVar 1) (mC (.int 0))))))))))
noncomputable def law_rows_v2:FN:=fnM 2 7 (sSeq (sSet 2 (mCall PM.law_drawn (mCons (mVar 1) (mCons (mCall PM.law_cell_at_v2 (mCons (mVar 0) (mCons (mC (.int 1)) mNil))) (mCons (mBin modV (mCall PM.law_cell_at_v2 (mCons (mVar 0) (mCons (mC (.int 2)) mNil))) (mC (.int 6))) mNil))))) (sSeq (sSet 3 (mLst mNil)) (sSeq (sFor (iSeq (mLst (mCons (mC (.int 0)) (mCons (mC (.int 1)) mNil)))) (aName 4) (sSeq (sSet 5 (mCall PM.law_cell_at_v2 (mCons (mVar 0) (mCons (mBin addV (mC (.int 3)) (mBin mulV (mC (.int 2)) (mVar 4))) mNil)))) (sSeq (sSet 6 (mCall PM.law_drawn (mCons (mVar 1) (mCons (mCall PM.law_cell_at_v2 (mCons (mVar 0) (mCons (mBin addV (mC (.int 4)) (mBin mulV (mC (.int 2)) (mVar 4))) mNil))) (mCons (mBin modV (mBin fdivV (mVar 5) (mC (.int 7))) (mC (.int 7))) mNil))))) (sSeq (sIf (asT (mBin eqM (mBin modV (mVar 5) (mC (.int 7))) (mC (.int 1)))) (sSet 6 (mLst mNil)) sNext) (sExpr (mMtL appendF (mVar 3) (mCons (mVar 6) mNil))))))) (sSeq (sIf (asT (mBin eqM (mBin modV (mCall PM.law_cell_at_v2 (mCons (mVar 0) (mCons (mC (.int 7)) mNil))) (mC (.int 5))) (mC (.int 1)))) (sSetI (mVar 3) (mC (.int 1)) (mComp 1 [1,0] (iSeq (mBin ixV (mVar 3) (mC (.int 0)))) (aName 0) tTrueM (mBin modV (mBin mulV (mVar 0) (mBin fdivV (mCall PM.law_cell_at_v2 (mCons (mVar 2) (mCons (mC (.int 7)) mNil))) (mC (.int 5)))) (mVar 1)))) sNext) (sRet (mComp 1 [1,2] (iSeq (mComp 1 [] (iSeq (mVar 3)) (aName 0) tTrueM (mCall PM.law_cut (mCons (mVar 0) mNil)))) (aName 0) tTrueM (mCall PM.law_times (mCons (mVar 1) (mCons (mVar 0) (mCons (mVar 2) mNil))))))))))
noncomputable def triple_below:FN:=fnM 3 5 (sSeq (sSet 3 (mCall PM.parted (mCons (mVar 0) (mCons (mBin ixV (mVar 1) (mC (.int 0))) (mCons (mBin ixV (mVar 2) (mC (.int 0))) mNil))))) (sSeq (sSet 4 (mComp 1 [2,3,0] (iSeq (mTup (mCons (mC (.int 1)) (mCons (mC (.int 2)) mNil)))) (aName 0) tTrueM (mCall PM.row_product (mCons (mVar 3) (mCons (mBin ixV (mVar 2) (mC (.int 0))) (mCons (mBin ixV (mVar 1) (mVar 0)) mNil)))))) (sRet (mTup (mCons (mBin ixV (mVar 3) (mC (.int 1))) (mCons (mCall PM.row_with_multiple (mCons (mVar 0) (mCons (mBin ixV (mVar 1) (mC (.int 1))) (mCons (mBin ixV (mVar 4) (mC (.int 0))) (mCons (mNeg (mC (.int 1))) mNil))))) (mCons (mCall PM.row_with_multiple (mCons (mVar 0) (mCons (mBin ixV (mVar 1) (mC (.int 2))) (mCons (mBin ixV (mVar 4) (mC (.int 1))) (mCons (mNeg (mC (.int 1))) mNil))))) mNil)))))))
noncomputable def met:FN:=fnM 3 10 (sSeq (sSet 3 (mTup (mCons (mVar 1) (mCons (mLst (mCons (mC (.int 1)) mNil)) (mCons (mLst mNil) mNil))))) (sSeq (sSet 4 (mTup (mCons (mVar 2) (mCons (mLst mNil) (mCons (mLst (mCons (mC (.int 1)) mNil)) mNil))))) (sSeq (sWhile (asT (mBin gtV (mCall lenF (mCons (mBin ixV (mVar 4) (mC (.int 0))) mNil)) (mC (.int 0)))) (sSeq (sSet 5 (mCall PM.triple_below (mCons (mVar 0) (mCons (mVar 3) (mCons (mVar 4) mNil))))) (sSeq (sSet 3 (mVar 4)) (sSet 4 (mVar 5))))) (sSeq (sSet 6 (mCall PM.inverse (mCons (mVar 0) (mCons (mBin ixV (mBin ixV (mVar 3) (mC (.int 0))) (mNeg (mC (.int 1)))) mNil)))) (sSeq (sSet 7 (mCall PM.row_multiple (mCons (mVar 0) (mCons (mBin ixV (mVar 3) (mC (.int 0))) (mCons (mVar 6) mNil))))) (sSeq (sSet 8 (mBin ixV (mCall PM.parted (mCons (mVar 0) (mCons (mVar 1) (mCons (mVar 7) mNil)))) (mC (.int 0)))) (sSeq (sSet 9 (mBin ixV (mCall PM.parted (mCons (mVar 0) (mCons (mVar 2) (mCons (mVar 7) mNil)))) (mC (.int 0)))) (sRet (mTup (mCons (mVar 7) (mCons (mVar 8) (mCons (mVar 9) (mCons (mCall PM.row_multiple (mCons (mVar 0) (mCons (mBin ixV (mVar 3) (mC (.int 1))) (mCons (mVar 6) mNil)))) (mCons (mCall PM.row_multiple (mCons (mVar 0) (mCons (mBin ixV (mVar 3) (mC (.int 2))) (mCons (mVar 6) mNil)))) mNil))))))))))))))
noncomputable def meet:FN:=fnM 3 3 (sSeq (sExpr (mCall PM.check_prime (mCons (mVar 0) mNil))) (sSeq (sIf (tAndM (asT (mBin eqM (mCall lenF (mCons (mVar 1) mNil)) (mC (.int 0)))) (asT (mBin eqM (mCall lenF (mCons (mVar 2) mNil)) (mC (.int 0))))) (sRaise "NoMeet" (mCons (mC (.str "two noughts have no greatest divisor")) mNil)) sNext) (sRet (mCall PM.met (mCons (mVar 0) (mCons (mVar 1) (mCons (mVar 2) mNil)))))))
end PM
namespace MN
open PySem PySem.Spec L2
open PyProof.Rows hiding St
theorem forL_inv {g:Store → Prop} {a:AS} {body:MB} (P:Nat → Env → Store → Prop):∀ (us:List Val) (k:Nat) (μ:Env) (st:Store),
  (∀ (i:Nat) (u:Val) (μ:Env) (st:Store),us[i]? = some u → P (k + i) μ st → g st ∧ ∃ μ1,a u μ = some μ1 ∧ ∃ μ' st',(body μ1 st = .nx μ' st' ∨ body μ1 st = .ct μ' st') ∧ P (k + i + 1) μ' st') →
  (∀ μ st,P (k + us.length) μ st → g st) → P k μ st → ∃ μ' st',forL g a body us μ st = .nx μ' st' ∧ P (k + us.length) μ' st'
 | [],k,μ,st,_,he,h => by
  refine ⟨μ,st,?_,h⟩
  unfold forL
  rw [if_pos (he μ st h)]
 | u :: us,k,μ,st,hs,he,h => by
  refine bcn fun hNO => ?_
  obtain ⟨hg,μ1,ha,μ',st',hb,hP⟩:=hs 0 u μ st rfl h
  have ih:=forL_inv (a:=a) (body:=body) P us (k + 1) μ' st' (fun i v μ2 st2 hv hp => by
   have:=hs (i + 1) v μ2 st2 hv (by rw [show k + (i + 1) = k + 1 + i by lia]; exact hp)
   rw [show k + (i + 1) + 1 = k + 1 + i + 1 by lia] at this
   exact this) (fun μ2 st2 hp => he μ2 st2 (by rw [List.length_cons,show k + (us.length + 1) = k + 1 + us.length by lia]; exact hp)) hP
  obtain ⟨μ2,st2,e2,p2⟩:=ih
  refine hNO ?_; clear hNO
  refine ⟨μ2,st2,?_,by rw [List.length_cons,show k + (us.length + 1) = k + 1 + us.length by lia]; exact p2⟩
  unfold forL
  rw [if_pos hg,ha]
  rcases hb with hb | hb <;> (dsimp only; rw [hb]; exact e2)
theorem compL_pure {g:Store → Prop} {a:AS} {c:MT} {e:ME} {st:Store} (hg:g st) (I:Env → Prop) (p:Val → Bool) (f:Val → Val):∀ (us:List Val) (τ:Env) (ys:List Val),I τ →
  (∀ u ∈ us,∀ τ,I τ → ∃ τ1,a u τ = some τ1 ∧ I τ1 ∧ c τ1 st = .ok (p u) st ∧ (p u = true → e τ1 st = .ok (f u) st)) → compL g a c e us τ st ys = .ok (ys ++ (us.filter p).map f) st
 | [],τ,ys,_,_ => by
  unfold compL
  rw [if_pos hg]; simp
 | u :: us,τ,ys,hI,hs => by
  refine bcn fun hNO => ?_
  obtain ⟨τ1,h1,h2,h3,h4⟩:=hs u List.mem_cons_self τ hI
  have hs':=fun v hv => hs v (List.mem_cons_of_mem u hv)
  refine hNO ?_; clear hNO
  unfold compL
  rw [if_pos hg,h1]
  dsimp only
  rw [h3]
  cases z:p u with
  | true =>
   dsimp only
   rw [h4 z]
   dsimp only
   rw [compL_pure hg I p f us τ1 _ h2 hs',List.filter_cons_of_pos z]
   simp
  | false =>
   dsimp only
   rw [compL_pure hg I p f us τ1 _ h2 hs',List.filter_cons_of_neg (by rw [z]; simp)]
theorem itemsOf_new (st:Store) (us:List Val):itemsOf (st ++ [.lst us]) st.length = some us:=by
 unfold itemsOf
 rw [List.getElem?_append_right (Nat.le_refl _),Nat.sub_self]; rfl
theorem itemsOf_old {st:Store} {n:Nat} {us:List Val} (h:itemsOf st n = some us) (more:Store):itemsOf (st ++ more) n = some us:=by
 have hn:n < st.length:=by
  rcases Nat.lt_or_ge n st.length with q | q
  ·exact q
  ·unfold itemsOf at h; rw [List.getElem?_eq_none q] at h; cases h
 unfold itemsOf at h ⊢
 rw [List.getElem?_append_left hn]; exact h
theorem whileN_inv {t:MT} {body:MB} (P:Env → Store → Prop) (M:Env → Store → Nat) (Q:Env → Store → Prop)
  (hs:∀ μ st,P μ st → (∃ st1,t μ st = .ok false st1 ∧ Q μ st1) ∨ ∃ st1 μ' st',t μ st = .ok true st1 ∧ (body μ st1 = .nx μ' st' ∨ body μ st1 = .ct μ' st') ∧ P μ' st' ∧ M μ' st' < M μ st) :
  ∀ (n:Nat) (μ:Env) (st:Store),M μ st < n → P μ st → ∃ μ' st',whileN t body n μ st = some (.nx μ' st') ∧ Q μ' st'
 | 0,μ,st,h,_ => absurd h (Nat.not_lt_zero _)
 | n + 1,μ,st,h,hp => by
  unfold whileN
  rcases hs μ st hp with ⟨st1,e,q⟩ | ⟨st1,μ',st',e,hb,p',lt⟩
  ·rw [e]; exact ⟨μ,st1,rfl,q⟩
  ·rw [e]
   dsimp only
   refine bcn fun hNO => ?_
   obtain ⟨μ2,st2,e2,q2⟩:=whileN_inv P M Q hs n μ' st' (by lia) p'
   refine hNO ?_; clear hNO
   rcases hb with hb | hb <;> (rw [hb]; exact ⟨μ2,st2,e2,q2⟩)
theorem sWhile_inv {t:MT} {body:MB} (P:Env → Store → Prop) (M:Env → Store → Nat) (Q:Env → Store → Prop)
  (hs:∀ μ st,P μ st → (∃ st1,t μ st = .ok false st1 ∧ Q μ st1) ∨ ∃ st1 μ' st',t μ st = .ok true st1 ∧ (body μ st1 = .nx μ' st' ∨ body μ st1 = .ct μ' st') ∧ P μ' st' ∧ M μ' st' < M μ st)
  (μ:Env) (st:Store) (hp:P μ st):∃ μ' st',sWhile t body μ st = .nx μ' st' ∧ Q μ' st':=by
 refine bcn fun hNO => ?_
 obtain ⟨μ',st',e,q⟩:=whileN_inv P M Q hs (M μ st + 1) μ st (Nat.lt_succ_self _) hp
 refine hNO ?_; clear hNO
 exact ⟨μ',st',sWhile_of e,q⟩
end MN
namespace MN
open PySem PySem.Spec L2
open PyProof.Rows hiding St
noncomputable def Res.bnd {α β:Type} (r:Res α) (k:α → Store → Res β):Res β:=match r with
 | .ok a st => k a st
 | .err c st => .err c st
 | .bad => .bad
noncomputable def Res.sbn {α:Type} (r:Res α) (μ:Env) (k:α → Store → SRes):SRes:=match r with
 | .ok a st => k a st
 | .err c st => .er c μ st
 | .bad => .bad
noncomputable def SRes.thn (r:SRes) (k:MB):SRes:=match r with
 | .nx μ st => k μ st
 | .rt v st => .rt v st
 | .bk μ st => .bk μ st
 | .ct μ st => .ct μ st
 | .er c μ st => .er c μ st
 | .bad => .bad
noncomputable def SRes.fin (r:SRes):Res Val:=match r with
 | .nx _ st' => .ok .non st'
 | .rt v st' => .ok v st'
 | .er c _ st' => .err c st'
 | _ => .bad
section
variable {α β:Type} {μ:Env} {st:Store}
theorem bnd_ok {a:α} {k:α → Store → Res β}:(Res.ok a st).bnd k = k a st:=rfl
theorem sbn_ok {a:α} {k:α → Store → SRes}:(Res.ok a st).sbn μ k = k a st:=rfl
theorem sbn_err {c:Str} {k:α → Store → SRes}:(Res.err c st:Res α).sbn μ k = .er c μ st:=rfl
theorem thn_nx {k:MB}:(SRes.nx μ st).thn k = k μ st:=rfl
theorem thn_rt {v:Val} {k:MB}:(SRes.rt v st).thn k = .rt v st:=rfl
theorem thn_er {c:Str} {k:MB}:(SRes.er c μ st).thn k = .er c μ st:=rfl
theorem fin_nx:(SRes.nx μ st).fin = .ok .non st:=rfl
theorem fin_rt {v:Val}:(SRes.rt v st).fin = .ok v st:=rfl
theorem fin_er {c:Str}:(SRes.er c μ st).fin = .err c st:=rfl
theorem bind_bnd {r:Res α} {k:α → Store → Res β}:r.bind k = r.bnd k:=by cases r <;> rfl
variable {a b c:ME} {f g:F2} {t u:MT} {s1 s2:MB} {ms:MA} {i:Nat} {v:Val}
theorem bnd_eq {r:Res α} {k k':α → Store → Res β} (h:∀ a st,k a st = k' a st):r.bind k = r.bnd k':=by cases r <;> first | exact h _ _ | rfl
theorem sbn_eq {r:Res α} {k k':α → Store → SRes} (h:∀ a st,k a st = k' a st):r.sb μ k = r.sbn μ k':=by cases r <;> first | exact h _ _ | rfl
noncomputable def kBin2 (f:F2) (x:Val):Val → Store → Res Val:=fun y st => f x y st
noncomputable def kBin (f:F2) (b:ME) (μ:Env):Val → Store → Res Val:=fun x st => (b μ st).bnd (kBin2 f x)
theorem ev_bin:mBin f a b μ st = (a μ st).bnd (kBin f b μ):=bnd_eq fun _ _ => bnd_eq fun _ _ => rfl
theorem k_bin {x:Val}:kBin f b μ x st = (b μ st).bnd (kBin2 f x):=rfl
theorem k_bin2 {x y:Val}:kBin2 f x y st = f x y st:=rfl
theorem ev_C:mC v μ st = .ok v st:=rfl
noncomputable def asB:Val → Store → Res Bool
 | .bl b,st => .ok b st
 | _,_ => .bad
theorem asB_bl {b:Bool}:asB (.bl b) st = .ok b st:=rfl
theorem ev_asT:asT a μ st = (a μ st).bnd asB:=bnd_eq fun x _ => by cases x <;> rfl
noncomputable def kAnd (b:ME) (μ:Env):Val → Store → Res Val
 | .bl true,st => b μ st
 | .bl false,st => .ok (.bl false) st
 | _,_ => .bad
theorem ev_and:mAnd a b μ st = (a μ st).bnd (kAnd b μ):=bnd_eq fun x _ => by
 cases x <;> try rfl
 rename_i k; cases k <;> rfl
theorem k_and_t:kAnd b μ (.bl true) st = b μ st:=rfl
noncomputable def kOr (b:ME) (μ:Env):Val → Store → Res Val
 | .bl true,st => .ok (.bl true) st
 | .bl false,st => b μ st
 | _,_ => .bad
theorem ev_or:mOr a b μ st = (a μ st).bnd (kOr b μ):=bnd_eq fun x _ => by
 cases x <;> try rfl
 rename_i k; cases k <;> rfl
theorem k_or_t:kOr b μ (.bl true) st = .ok (.bl true) st:=rfl
theorem k_or_f:kOr b μ (.bl false) st = b μ st:=rfl
noncomputable def kTand (u:MT) (μ:Env):Bool → Store → Res Bool
 | true,st => u μ st
 | false,st => .ok false st
theorem ev_tand:tAndM t u μ st = (t μ st).bnd (kTand u μ):=bnd_eq fun x _ => by cases x <;> rfl
theorem k_tand_t:kTand u μ true st = u μ st:=rfl
theorem k_tand_f:kTand u μ false st = .ok false st:=rfl
noncomputable def kTor (u:MT) (μ:Env):Bool → Store → Res Bool
 | true,st => .ok true st
 | false,st => u μ st
theorem ev_tor:tOrM t u μ st = (t μ st).bnd (kTor u μ):=bnd_eq fun x _ => by cases x <;> rfl
theorem k_tor_t:kTor u μ true st = .ok true st:=rfl
theorem k_tor_f:kTor u μ false st = u μ st:=rfl
noncomputable def kTnot:Bool → Store → Res Bool:=fun k st => .ok (!k) st
theorem ev_tnot:tNotM t μ st = (t μ st).bnd kTnot:=bnd_eq fun _ _ => rfl
theorem k_tnot {k:Bool}:kTnot k st = .ok (!k) st:=rfl
noncomputable def kIfE (a b:ME) (μ:Env):Bool → Store → Res Val
 | true,st => a μ st
 | false,st => b μ st
theorem ev_if:mIf t a b μ st = (t μ st).bnd (kIfE a b μ):=bnd_eq fun x _ => by cases x <;> rfl
theorem k_ife_t:kIfE a b μ true st = a μ st:=rfl
theorem k_ife_f:kIfE a b μ false st = b μ st:=rfl
noncomputable def kCh2 (g:F2) (c:ME) (μ:Env) (y:Val):Val → Store → Res Val
 | .bl true,st => (c μ st).bnd (kBin2 g y)
 | .bl false,st => .ok (.bl false) st
 | _,_ => .bad
noncomputable def kCh1 (f g:F2) (c:ME) (μ:Env) (x:Val):Val → Store → Res Val:=fun y st => (f x y st).bnd (kCh2 g c μ y)
noncomputable def kCh (f g:F2) (b c:ME) (μ:Env):Val → Store → Res Val:=fun x st => (b μ st).bnd (kCh1 f g c μ x)
theorem ev_chain:mChain f g a b c μ st = (a μ st).bnd (kCh f g b c μ):=bnd_eq fun _ _ => bnd_eq fun _ _ => bnd_eq fun z _ => by
 cases z <;> try rfl
 rename_i k
 cases k
 ·rfl
 ·exact bnd_eq fun _ _ => rfl
theorem k_ch {x:Val}:kCh f g b c μ x st = (b μ st).bnd (kCh1 f g c μ x):=rfl
theorem k_ch1 {x y:Val}:kCh1 f g c μ x y st = (f x y st).bnd (kCh2 g c μ y):=rfl
theorem k_ch2_t {y:Val}:kCh2 g c μ y (.bl true) st = (c μ st).bnd (kBin2 g y):=rfl
theorem ev_nil:mNil μ st = .ok [] st:=rfl
noncomputable def kCons2 (x:Val):List Val → Store → Res (List Val):=fun xs st => .ok (x :: xs) st
noncomputable def kCons (ms:MA) (μ:Env):Val → Store → Res (List Val):=fun x st => (ms μ st).bnd (kCons2 x)
theorem ev_cons:mCons a ms μ st = (a μ st).bnd (kCons ms μ):=bnd_eq fun _ _ => bnd_eq fun _ _ => rfl
theorem k_cons {x:Val}:kCons ms μ x st = (ms μ st).bnd (kCons2 x):=rfl
theorem k_cons2 {x:Val} {xs:List Val}:kCons2 x xs st = .ok (x :: xs) st:=rfl
noncomputable def kTup:List Val → Store → Res Val:=fun xs st => if xs.length ≤ sizeLine then .ok (.tup xs) st else .bad
theorem ev_tup:mTup ms μ st = (ms μ st).bnd kTup:=bnd_eq fun _ _ => rfl
theorem k_tup {xs:List Val}:kTup xs st = if xs.length ≤ sizeLine then .ok (.tup xs) st else .bad:=rfl
noncomputable def kLst:List Val → Store → Res Val:=fun xs st => if xs.length ≤ sizeLine then .ok (.loc st.length) (st ++ [.lst xs]) else .bad
theorem ev_lst:mLst ms μ st = (ms μ st).bnd kLst:=bnd_eq fun _ _ => rfl
theorem k_lst {xs:List Val}:kLst xs st = if xs.length ≤ sizeLine then .ok (.loc st.length) (st ++ [.lst xs]) else .bad:=rfl
theorem ev_call {h:FN}:mCall h ms μ st = (ms μ st).bnd h:=bnd_eq fun _ _ => rfl
noncomputable def negV:Val → Store → Res Val
 | .int i,st => .ok (.int (-i)) st
 | _,_ => .bad
theorem negV_int {i:Int}:negV (.int i) st = .ok (.int (-i)) st:=rfl
theorem ev_neg:mNeg a μ st = (a μ st).bnd negV:=bnd_eq fun x _ => by cases x <;> rfl
noncomputable def isOf (T:String) (v:Val) (st:Store):Res Val:=match isT T st v with
 | some b => .ok (.bl b) st
 | none => .bad
theorem ev_is {T:String}:mIs T a μ st = (a μ st).bnd (isOf T):=bnd_eq fun _ _ => rfl
theorem ev_seq:sSeq s1 s2 μ st = (s1 μ st).thn s2:=by
 unfold sSeq; cases s1 μ st <;> rfl
theorem ev_next:sNext μ st = .nx μ st:=rfl
noncomputable def kExpr (μ:Env):Val → Store → SRes:=fun _ st => .nx μ st
theorem ev_expr:sExpr a μ st = (a μ st).sbn μ (kExpr μ):=sbn_eq fun _ _ => rfl
theorem k_expr:kExpr μ v st = .nx μ st:=rfl
noncomputable def kRet:Val → Store → SRes:=fun v st => .rt v st
theorem ev_ret:sRet a μ st = (a μ st).sbn μ kRet:=sbn_eq fun _ _ => rfl
theorem k_ret:kRet v st = .rt v st:=rfl
noncomputable def kIf (s1 s2:MB) (μ:Env):Bool → Store → SRes
 | true,st => s1 μ st
 | false,st => s2 μ st
theorem ev_ifS:sIf t s1 s2 μ st = (t μ st).sbn μ (kIf s1 s2 μ):=sbn_eq fun x _ => by cases x <;> rfl
theorem k_if_t:kIf s1 s2 μ true st = s1 μ st:=rfl
theorem k_if_f:kIf s1 s2 μ false st = s2 μ st:=rfl
noncomputable def kSet (i:Nat) (μ:Env):Val → Store → SRes:=fun v st => .nx (μ.set i (some v)) st
theorem ev_set:sSet i a μ st = (a μ st).sbn μ (kSet i μ):=sbn_eq fun _ _ => rfl
theorem k_set:kSet i μ v st = .nx (μ.set i (some v)) st:=rfl
noncomputable def kRaise (x:Str) (μ:Env):List Val → Store → SRes:=fun vs st => if vs.length ≤ sizeLine then .er x μ st else .bad
theorem ev_raise {x:Str}:sRaise x ms μ st = (ms μ st).sbn μ (kRaise x μ):=sbn_eq fun _ _ => rfl
theorem k_raise {x:Str} {vs:List Val}:kRaise x μ vs st = if vs.length ≤ sizeLine then .er x μ st else .bad:=rfl
noncomputable def kFor (as:AS) (s1:MB) (μ:Env):Itm → Store → SRes:=fun p st => forL p.2 as s1 p.1 μ st
theorem ev_for {it:MI} {as:AS}:sFor it as s1 μ st = (it μ st).sbn μ (kFor as s1 μ):=sbn_eq fun _ _ => rfl
theorem k_for {as:AS} {us:List Val} {q:Store → Prop}:kFor as s1 μ (us,q) st = forL q as s1 us μ st:=rfl
noncomputable def kNew:List Val → Store → Res Val:=fun ys st => .ok (.loc st.length) (st ++ [.lst ys])
theorem k_new {ys:List Val}:kNew ys st = .ok (.loc st.length) (st ++ [.lst ys]):=rfl
noncomputable def kComp (k:Nat) (caps:List Nat) (as:AS) (t:MT) (a:ME) (μ:Env):Itm → Store → Res Val:=fun p st => if p.1.length ≤ sizeLine then (compL p.2 as t a p.1 (capM k caps μ) st []).bnd kNew else .bad
theorem ev_comp {k:Nat} {caps:List Nat} {it:MI} {as:AS}:mComp k caps it as t a μ st = (it μ st).bnd (kComp k caps as t a μ):=bnd_eq fun p st1 => by
 unfold kComp
 split
 ·exact bnd_eq fun _ _ => rfl
 ·rfl
theorem k_comp {k:Nat} {caps:List Nat} {as:AS} {us:List Val} {q:Store → Prop}:kComp k caps as t a μ (us,q) st = if us.length ≤ sizeLine then (compL q as t a us (capM k caps μ) st []).bnd kNew else .bad:=rfl
theorem ev_fn {np n:Nat} {us:List Val} (h:us.length = np):fnM np n s1 us st = (s1 (us.map some ++ List.replicate (n - np) none) st).fin:=by
 unfold fnM; rw [if_pos h]; cases s1 (us.map some ++ List.replicate (n - np) none) st <;> rfl
theorem var_s {x:Option Val} {μ:Env}:mVar (i + 1) (x :: μ) st = mVar i μ st:=rfl
theorem var_i {μ:Env} {j:Int}:mVar 0 (some (.int j) :: μ) st = .ok (.int j) st:=rfl
theorem var_t {μ:Env} {j:List Val}:mVar 0 (some (.tup j) :: μ) st = .ok (.tup j) st:=rfl
theorem var_l {μ:Env} {j:Nat}:mVar 0 (some (.loc j) :: μ) st = .ok (.loc j) st:=rfl
noncomputable def walkK (v:Val) (st:Store):Res Itm:=match walkOf st v with
 | some p => .ok p st
 | none => .bad
theorem ev_iseq:iSeq a μ st = (a μ st).bnd walkK:=by unfold iSeq; rw [bind_bnd]; rfl
theorem walkK_tup {us:List Val}:walkK (.tup us) st = .ok (us,fun _ => True) st:=rfl
theorem walkK_loc {n:Nat} {us:List Val} (h:itemsOf st n = some us):walkK (.loc n) st = .ok (us,fun st' => itemsOf st' n = some us) st:=by
 simp only [walkK,walkOf,h]; rfl
noncomputable def rng1 (vs:List Val) (st':Store):Res Itm:=match vs with
 | [.int j] => if -(2 ^ 62) ≤ j ∧ j < 2 ^ 62 then .ok (rangeL 0 j.toNat,fun _ => True) st' else .bad
 | _ => .bad
noncomputable def rng2 (vs:List Val) (st':Store):Res Itm:=match vs with
 | [.int i,.int j] => if -(2 ^ 62) ≤ i ∧ i < 2 ^ 62 ∧ -(2 ^ 62) ≤ j ∧ j < 2 ^ 62 then .ok (rangeL i (j - i).toNat,fun _ => True) st' else .bad
 | _ => .bad
theorem ev_rng1:iRange1 ms μ st = (ms μ st).bnd rng1:=by unfold iRange1; rw [bind_bnd]; rfl
theorem ev_rng2:iRange2 ms μ st = (ms μ st).bnd rng2:=by unfold iRange2; rw [bind_bnd]; rfl
theorem rng1_ok {j:Int} (h1:-(2 ^ 62) ≤ j) (h2:j < 2 ^ 62):rng1 [.int j] st = .ok (rangeL 0 j.toNat,fun _ => True) st:=by unfold rng1; dsimp only; rw [if_pos ⟨h1,h2⟩]
noncomputable def zipK (b1 b2:Bool) (vs:List Val) (st':Store):Res Itm:=match vs with
 | [u,w] => match sideOf st' u,sideOf st' w with
  | some (c1,us,g1),some (c2,ws,g2) => if c1 = b1 ∧ c2 = b2 then .ok (zipL us ws,fun st2 => g1 st2 ∧ g2 st2) st' else .bad
  | _,_ => .bad
 | _ => .bad
theorem ev_zip {b1 b2:Bool}:iZip2 b1 b2 ms μ st = (ms μ st).bnd (zipK b1 b2):=by unfold iZip2; rw [bind_bnd]; rfl
theorem zipK_tt {us ws:List Val}:zipK false false [.tup us,.tup ws] st = .ok (zipL us ws,fun _ => True ∧ True) st:=rfl
theorem tup_loc {n:Nat} {us:List Val} (h1:itemsOf st n = some us):tupF [.loc n] st = .ok (.tup us) st:=by unfold tupF; dsimp only; rw [h1]
theorem add_ii {i j:Int}:addV (.int i) (.int j) st = .ok (.int (i + j)) st:=rfl
theorem sub_ii {i j:Int}:subV (.int i) (.int j) st = .ok (.int (i - j)) st:=rfl
theorem mul_ok {i j:Int} (h:MulOk i j):mulV (.int i) (.int j) st = .ok (.int (i * j)) st:=by unfold mulV; dsimp only; rw [if_pos h]
theorem mul_ii {i j:Int} (h:Sz i ∧ Sz j):mulV (.int i) (.int j) st = .ok (.int (i * j)) st:=mul_ok (.inl h)
theorem mul_l {i j:Int} (h1:-(2 ^ 64) < i) (h2:i < 2 ^ 64):mulV (.int i) (.int j) st = .ok (.int (i * j)) st:=mul_ok (.inr (.inl ⟨h1,h2⟩))
theorem mul_r {i j:Int} (h1:-(2 ^ 64) < j) (h2:j < 2 ^ 64):mulV (.int i) (.int j) st = .ok (.int (i * j)) st:=mul_ok (.inr (.inr ⟨h1,h2⟩))
theorem div_ii {i j:Int} (h:Dz j):fdivV (.int i) (.int j) st = .ok (.int (i.fdiv j)) st:=if_pos h
theorem mod_ii {i j:Int} (h:¬ j = 0):modV (.int i) (.int j) st = .ok (.int (i.fmod j)) st:=if_neg h
theorem pow_ii {i j:Int} (h:CPow i j):powV (.int i) (.int j) st = .ok (.int (i ^ j.toNat)) st:=if_pos h
theorem lt_ii {i j:Int}:ltV (.int i) (.int j) st = .ok (.bl (decide (i < j))) st:=rfl
theorem le_ii {i j:Int}:leV (.int i) (.int j) st = .ok (.bl (decide (i ≤ j))) st:=rfl
theorem gt_ii {i j:Int}:gtV (.int i) (.int j) st = .ok (.bl (decide (j < i))) st:=rfl
theorem eq_ii {i j:Int}:eqM (.int i) (.int j) st = .ok (.bl (i == j)) st:=rfl
theorem ne_ii {i j:Int}:neM (.int i) (.int j) st = .ok (.bl (!(i == j))) st:=rfl
theorem ix_tup {us:List Val} {i:Int} {v:Val} (h:L2.atI us i = some v):ixV (.tup us) (.int i) st = .ok v st:=by unfold ixV; dsimp only; rw [h]
theorem ix_loc {n:Nat} {us:List Val} {i:Int} {v:Val} (h1:itemsOf st n = some us) (h:L2.atI us i = some v):ixV (.loc n) (.int i) st = .ok v st:=by unfold ixV; dsimp only; rw [h1]; dsimp only; rw [h]
theorem len_loc {n:Nat} {us:List Val} (h1:itemsOf st n = some us):lenF [.loc n] st = .ok (.int us.length) st:=by unfold lenF; dsimp only; rw [h1]
theorem len_tup {us:List Val}:lenF [.tup us] st = .ok (.int us.length) st:=rfl
theorem abs_i {i:Int}:absF [.int i] st = .ok (.int (if i < 0 then -i else i)) st:=rfl
theorem eqD_nil {n m:Nat} {us:List Val} (h1:itemsOf st n = some us) (h2:itemsOf st m = some []):eqD 16 st (.loc n) (.loc m) = some us.isEmpty:=by
 unfold eqD
 simp only [vw,h1,h2]
 show eqDs _ us [] = _
 cases us <;> rfl
theorem eq_nil {n m:Nat} {us:List Val} (h1:itemsOf st n = some us) (h2:itemsOf st m = some []):eqM (.loc n) (.loc m) st = .ok (.bl us.isEmpty) st:=by unfold eqM; rw [eqD_nil h1 h2]
theorem ne_nil {n m:Nat} {us:List Val} (h1:itemsOf st n = some us) (h2:itemsOf st m = some []):neM (.loc n) (.loc m) st = .ok (.bl (!us.isEmpty)) st:=by unfold neM; rw [eqD_nil h1 h2]
noncomputable def Res.noe (r:Res α):Res α:=match r with
 | .ok v st' => .ok v st'
 | .err _ _ => .bad
 | .bad => .bad
theorem ev_noE {m:Env → Store → Res α}:noE m μ st = (m μ st).noe:=by unfold noE Res.noe; cases m μ st <;> rfl
theorem noe_ok {a:α}:(Res.ok a st).noe = .ok a st:=rfl
noncomputable def SRes.nout (r:SRes):SRes:=match r with
 | .er _ _ _ => .bad
 | .nx μ' st' => .nx μ' st'
 | .rt v st' => .rt v st'
 | .bk μ' st' => .bk μ' st'
 | .ct μ' st' => .ct μ' st'
 | .bad => .bad
theorem ev_noOut:noOut s1 μ st = (s1 μ st).nout:=by unfold noOut SRes.nout; cases s1 μ st <;> rfl
theorem nout_rt:(SRes.rt v st).nout = .rt v st:=rfl
noncomputable def SRes.tryK (r:SRes) (kn:Str → Bool) (h:MH):SRes:=match r with
 | .er c μ' st' => if kn c = true then h c μ' st' else .bad
 | .nx μ' st' => .nx μ' st'
 | .rt v st' => .rt v st'
 | .bk μ' st' => .bk μ' st'
 | .ct μ' st' => .ct μ' st'
 | .bad => .bad
theorem ev_try {kn:Str → Bool} {h:MH}:sTry kn s1 h μ st = (s1 μ st).tryK kn h:=by unfold sTry SRes.tryK; cases s1 μ st <;> rfl
theorem tryK_er {kn:Str → Bool} {h:MH} {c:Str} (hk:kn c = true):(SRes.er c μ st).tryK kn h = h c μ st:=by
 show (if kn c = true then h c μ st else .bad) = _
 rw [if_pos hk]
theorem hAs_t {sub:Str → Str → Option Bool} {x c:Str} {r:MH} (h:sub c x = some true):hAs sub x i s1 r c μ st = onlyRt (s1 (μ.set i (some (.exc c))) st):=by unfold hAs; rw [h]
theorem onlyRt_rt:onlyRt (.rt v st) = .rt v st:=rfl
theorem isX_s {sub:Str → Str → Option Bool} {x:Str} {y:Option Val} {μ:Env}:mIsX sub (i + 1) x (y :: μ) st = mIsX sub i x μ st:=rfl
theorem isX_0 {sub:Str → Str → Option Bool} {x c:Str} {μ:Env} (h:sub c x = some true):mIsX sub 0 x (some (.exc c) :: μ) st = .ok (.bl true) st:=by unfold mIsX; dsimp only [List.getElem?_cons_zero]; rw [h]
end
end MN
namespace MN
open PySem PySem.Spec L2
open PyProof.Rows hiding St kindOf
section
variable {μ:Env} {st:Store} {a b c o:ME} {ms:MA} {f:F2} {g:FM} {v w:Val} {i n m:Nat} {us ws:List Val}
noncomputable def kSl3 (x:Val) (l:Option Int):Option Int → Store → Res Val:=fun h st => slV l h x st
noncomputable def kSl2 (hi:MO) (μ:Env) (x:Val):Option Int → Store → Res Val:=fun l st => (hi μ st).bnd (kSl3 x l)
noncomputable def kSl (lo hi:MO) (μ:Env):Val → Store → Res Val:=fun x st => (lo μ st).bnd (kSl2 hi μ x)
theorem ev_sl {lo hi:MO}:mSl a lo hi μ st = (a μ st).bnd (kSl lo hi μ):=bnd_eq fun x st1 => bnd_eq fun l st2 => bnd_eq fun h st3 => rfl
theorem k_sl {lo hi:MO}:kSl lo hi μ v st = (lo μ st).bnd (kSl2 hi μ v):=rfl
theorem k_sl2 {hi:MO} {l:Option Int}:kSl2 hi μ v l st = (hi μ st).bnd (kSl3 v l):=rfl
theorem k_sl3 {l h:Option Int}:kSl3 v l h st = slV l h v st:=rfl
theorem ev_onone:oNone μ st = .ok none st:=rfl
noncomputable def kO:Val → Store → Res (Option Int)
 | .int i,st => .ok (some i) st
 | _,_ => .bad
theorem ev_osome:oSome a μ st = (a μ st).bnd kO:=bnd_eq fun x _ => by cases x <;> rfl
theorem kO_i {j:Int}:kO (.int j) st = .ok (some j) st:=rfl
theorem sl_loc {l h:Option Int} (e:itemsOf st n = some us):slV l h (.loc n) st = .ok (.loc st.length) (st ++ [.lst (cutL us l h)]):=by
 simp only [slV,e]
noncomputable def kMt2 (g:FM) (x:Val):List Val → Store → Res Val:=fun xs st => g x xs st
noncomputable def kMtL (g:FM) (ms:MA) (μ:Env):Val → Store → Res Val:=fun x st => if isLst st x = true then (ms μ st).bnd (kMt2 g x) else .bad
theorem ev_mtL:mMtL g o ms μ st = (o μ st).bnd (kMtL g ms μ):=bnd_eq fun x st1 => by
 unfold kMtL
 split
 ·exact bnd_eq fun _ _ => rfl
 ·rfl
theorem k_mtL (h:st[n]? = some (.lst us)):kMtL g ms μ (.loc n) st = (ms μ st).bnd (kMt2 g (.loc n)):=by
 unfold kMtL
 rw [if_pos (by unfold isLst; dsimp only; rw [h])]
theorem k_mt2 {xs:List Val}:kMt2 g v xs st = g v xs st:=rfl
noncomputable def kMt0 (g:FM):Val → Store → Res Val:=fun x st => if isLst st x = true then g x [] st else .bad
theorem ev_mt0:mMt0 g o μ st = (o μ st).bnd (kMt0 g):=bnd_eq fun _ _ => rfl
theorem k_mt0 (h:st[n]? = some (.lst us)):kMt0 g (.loc n) st = g (.loc n) [] st:=by
 unfold kMt0
 rw [if_pos (by unfold isLst; dsimp only; rw [h])]
theorem append_ok (h:st[n]? = some (.lst us)) (hl:us.length < sizeLine):appendF (.loc n) [v] st = .ok .non (st.set n (.lst (us ++ [v]))):=by
 simp only [appendF,h]
 rw [if_pos hl]
theorem pop_ok (h:st[n]? = some (.lst (us ++ [v]))):popF (.loc n) [] st = .ok v (st.set n (.lst us)):=by
 simp only [popF,h]
 have e:(us ++ [v])[(us ++ [v]).length - 1]? = some v:=by
  rw [List.length_append,List.length_singleton,Nat.add_sub_cancel,List.getElem?_append_right (Nat.le_refl _),Nat.sub_self]; rfl
 rw [e,List.dropLast_concat]
noncomputable def kSI3 (μ:Env) (x y:Val):Val → Store → SRes:=fun z st => nxO μ (setF y z x st)
noncomputable def kSI2 (b:ME) (μ:Env) (x:Val):Val → Store → SRes:=fun y st => (b μ st).sbn μ (kSI3 μ x y)
noncomputable def kSI (a b:ME) (μ:Env):Val → Store → SRes:=fun x st => (a μ st).sbn μ (kSI2 b μ x)
theorem ev_seti:sSetI a b c μ st = (c μ st).sbn μ (kSI a b μ):=sbn_eq fun _ _ => sbn_eq fun _ _ => sbn_eq fun _ _ => rfl
theorem k_si:kSI a b μ v st = (a μ st).sbn μ (kSI2 b μ v):=rfl
theorem k_si2:kSI2 b μ v w st = (b μ st).sbn μ (kSI3 μ v w):=rfl
theorem k_si3 {x:Val}:kSI3 μ v w x st = nxO μ (setF w x v st):=rfl
theorem setF_ok {k:Int} {j:Nat} (h:st[n]? = some (.lst us)) (hj:L2.ixN us.length k = some j):setF (.loc n) (.int k) v st = some (st.set n (.lst (us.set j v))):=by
 simp only [setF,h,hj]; rfl
theorem nxO_some:nxO μ (some st) = .nx μ st:=rfl
noncomputable def kAI5 (μ:Env) (y z:Val):Val → Store → SRes:=fun r st => nxO μ (setF y z r st)
noncomputable def kAI4 (f:F2) (μ:Env) (y z x:Val):Val → Store → SRes:=fun w st => (f x w st).sbn μ (kAI5 μ y z)
noncomputable def kAI3 (f:F2) (c:ME) (μ:Env) (y z:Val):Val → Store → SRes:=fun x st => (c μ st).sbn μ (kAI4 f μ y z x)
noncomputable def kAI2 (f:F2) (c:ME) (μ:Env) (y:Val):Val → Store → SRes:=fun z st => (ixL y z st).sbn μ (kAI3 f c μ y z)
noncomputable def kAI (f:F2) (b c:ME) (μ:Env):Val → Store → SRes:=fun y st => (b μ st).sbn μ (kAI2 f c μ y)
theorem ev_augi:sAugI f a b c μ st = (a μ st).sbn μ (kAI f b c μ):=sbn_eq fun _ _ => sbn_eq fun _ _ => sbn_eq fun _ _ => sbn_eq fun _ _ => sbn_eq fun _ _ => rfl
theorem k_ai:kAI f b c μ v st = (b μ st).sbn μ (kAI2 f c μ v):=rfl
theorem k_ai2:kAI2 f c μ v w st = (ixL v w st).sbn μ (kAI3 f c μ v w):=rfl
theorem k_ai3 {x:Val}:kAI3 f c μ v w x st = (c μ st).sbn μ (kAI4 f μ v w x):=rfl
theorem k_ai4 {x y:Val}:kAI4 f μ v w x y st = (f x y st).sbn μ (kAI5 μ v w):=rfl
theorem k_ai5 {x:Val}:kAI5 μ v w x st = nxO μ (setF v w x st):=rfl
theorem ixL_ok {k:Int} (e:itemsOf st n = some us) (h:L2.atI us k = some v):ixL (.loc n) (.int k) st = .ok v st:=by
 simp only [ixL,e,h]
theorem iad_ii {j k:Int}:iadV (.int j) (.int k) st = .ok (.int (j + k)) st:=rfl
theorem isb_ii {j k:Int}:isbV (.int j) (.int k) st = .ok (.int (j - k)) st:=rfl
theorem ev_down:iDownM ms μ st = (ms μ st).bnd dwnK:=by unfold iDownM; rw [bind_bnd]
theorem ev_enum:iEnumM ms μ st = (ms μ st).bnd enuK:=by unfold iEnumM; rw [bind_bnd]
theorem dwn_ok {j k:Int} (h1:-(2 ^ 62) ≤ j) (h2:j < 2 ^ 62) (h3:-(2 ^ 62) ≤ k) (h4:k < 2 ^ 62):dwnK [.int j,.int k,.int (-1)] st = .ok (downL j (j - k).toNat,fun _ => True) st:=by
 unfold dwnK; dsimp only; rw [if_pos ⟨rfl,h1,h2,h3,h4⟩]
theorem enu_ok (e:itemsOf st n = some us):enuK [.loc n] st = .ok (enumL 0 us,fun st2 => itemsOf st2 n = some us) st:=by
 simp only [enuK,e]
theorem zip_ll (e1:itemsOf st n = some us) (e2:itemsOf st m = some ws):zipK true true [.loc n,.loc m] st = .ok (zipL us ws,fun st2 => itemsOf st2 n = some us ∧ itemsOf st2 m = some ws) st:=by
 unfold zipK
 dsimp only
 unfold sideOf
 dsimp only
 rw [e1,e2]
 rfl
theorem max_ii {j k:Int}:maxF [.int j,.int k] st = .ok (.int (if k > j then k else j)) st:=rfl
theorem int_b {x:Bool}:intF [.bl x] st = .ok (.int (if x then 1 else 0)) st:=rfl
theorem lst_loc (e:itemsOf st n = some us):lstF [.loc n] st = .ok (.loc st.length) (st ++ [.lst us]):=by
 simp only [lstF,e]
theorem add_ll (h1:st[n]? = some (.lst us)) (h2:st[m]? = some (.lst ws)) (hl:us.length + ws.length ≤ sizeLine):addV (.loc n) (.loc m) st = .ok (.loc st.length) (st ++ [.lst (us ++ ws)]):=by
 simp only [addV,h1,h2]
 rw [if_pos hl]
theorem mul_li {k:Int} (h1:st[n]? = some (.lst us)) (h2:-(2 ^ 63) ≤ k) (h3:k < 2 ^ 63) (h4:us.length * k.toNat ≤ sizeLine):mulV (.loc n) (.int k) st = .ok (.loc st.length) (st ++ [.lst (repsV k.toNat us)]):=by
 simp only [mulV,h1]
 rw [if_pos ⟨h2,h3,h4⟩]
theorem it_of (h:st[n]? = some (.lst us)):itemsOf st n = some us:=by unfold itemsOf; rw [h]
theorem la_new (st:Store) (us:List Val):(st ++ [Cell.lst us])[st.length]? = some (.lst us):=by
 rw [List.getElem?_append_right (Nat.le_refl _),Nat.sub_self]; rfl
theorem la_old {k:Cell} (h:st[n]? = some k) (g:Store):(st ++ g)[n]? = some k:=by
 rw [List.getElem?_append_left (getL_lt h)]; exact h
theorem la_self {k k':Cell} (h:st[n]? = some k):(st.set n k')[n]? = some k':=List.getElem?_set_self (getL_lt h)
theorem la_ne {k k':Cell} (h:st[n]? = some k) (hn:m ≠ n):(st.set m k')[n]? = some k:=by
 rw [List.getElem?_set_ne hn]; exact h
theorem it_lt (h:itemsOf st n = some us):n < st.length:=by
 rcases Nat.lt_or_ge n st.length with q | q
 ·exact q
 ·unfold itemsOf at h; rw [List.getElem?_eq_none q] at h; cases h
theorem is_list (h:st[n]? = some (.lst us)):isOf "list" (.loc n) st = .ok (.bl true) st:=by
 unfold isOf isT kindOf; dsimp only; rw [h]; rfl
theorem is_tuple:isOf "tuple" (.tup us) st = .ok (.bl true) st:=rfl
theorem set_last (st:Store) (k k':Cell):(st ++ [k]).set st.length k' = st ++ [k']:=by
 rw [List.set_append_right _ _ (Nat.le_refl _),Nat.sub_self]; rfl
end
mutual
noncomputable def pureD:Nat → Val → Bool
 | _,.non => true
 | _,.bl _ => true
 | _,.int _ => true
 | _,.str _ => true
 | 0,.tup _ => false
 | n + 1,.tup us => pureDs n us
 | _,_ => false
noncomputable def pureDs:Nat → List Val → Bool
 | _,[] => true
 | n,u :: us => pureD n u && pureDs n us
end
mutual
theorem eqD_self (st:Store):∀ (n:Nat) (v:Val),pureD n v = true → eqD (n + 1) st v v = some true
 | _,.non,_ => rfl
 | _,.bl b,_ => by show some (b == b) = _; rw [beq_self_eq_true]
 | _,.int i,_ => by show some (i == i) = _; rw [beq_self_eq_true]
 | _,.str x,_ => by show some (x == x) = _; rw [beq_self_eq_true]
 | 0,.tup _,h => by cases h
 | n + 1,.tup us,h => by
  show eqDs (eqD (n + 1) st) us us = some true
  exact eqDs_self st n us h
 | n,.loc _,h => by cases n <;> cases h
 | n,.exc _,h => by cases n <;> cases h
 | n,.fn _ _,h => by cases n <;> cases h
 | n,.mt _,h => by cases n <;> cases h
theorem eqDs_self (st:Store):∀ (n:Nat) (us:List Val),pureDs n us = true → eqDs (eqD (n + 1) st) us us = some true
 | _,[],_ => rfl
 | n,u :: us,h => by
  have h':pureD n u = true ∧ pureDs n us = true:=by simpa [pureDs] using h
  show (match eqD (n + 1) st u u,eqDs (eqD (n + 1) st) us us with | some a,some b => some (a && b) | _,_ => none) = _
  rw [eqD_self st n u h'.1,eqDs_self st n us h'.2]; rfl
end
theorem pureDs_of {n:Nat}:∀ {us:List Val},(∀ u ∈ us,pureD n u = true) → pureDs n us = true
 | [],_ => rfl
 | u :: us,h => by
  unfold pureDs
  rw [h u List.mem_cons_self,pureDs_of fun w hw => h w (List.mem_cons_of_mem u hw)]; rfl
theorem pureDs_ints (n:Nat) (ns:List Int):pureDs n (ns.map Val.int) = true:=pureDs_of fun u hu => by
 obtain ⟨i,_,rfl⟩:=List.mem_map.mp hu
 cases n <;> rfl
section
variable {st:Store} {n m:Nat} {us:List Val}
theorem eqD_lists (h1:itemsOf st n = some us) (h2:itemsOf st m = some us) (hp:pureDs 14 us = true):eqD 16 st (.loc n) (.loc m) = some true:=by
 unfold eqD
 simp only [vw,h1,h2]
 exact eqDs_self st 14 us hp
theorem eq_lists (h1:itemsOf st n = some us) (h2:itemsOf st m = some us) (hp:pureDs 14 us = true):eqM (.loc n) (.loc m) st = .ok (.bl true) st:=by unfold eqM; rw [eqD_lists h1 h2 hp]
theorem ne_lists (h1:itemsOf st n = some us) (h2:itemsOf st m = some us) (hp:pureDs 14 us = true):neM (.loc n) (.loc m) st = .ok (.bl false) st:=by unfold neM; rw [eqD_lists h1 h2 hp]; rfl
end
end MN
namespace PG
open PySem PySem.Spec L2 MN
open PyProof.Rows hiding St kindOf
theorem is_whole_int (i:Int) (st:Store):PM.is_whole [.int i] st = .ok (.bl true) st:=rfl
noncomputable def FP:List Int:=[2,3,5,7,11,13,17,19,23,29,31]
noncomputable def prB (n:Int):Bool:=FP.contains n || (decide (2 ≤ n) && decide (n ≤ 997) && FP.all fun p => !(n.fmod p == 0))
theorem any_ints (n:Int) (ns:List Int):(ns.map Val.int).any (fun y => eqF y (.int n)) = ns.contains n:=by
 induction ns with
 | nil => rfl
 | cons m ns ih =>
  simp only [List.map_cons,List.any_cons,List.contains_cons]
  rw [ih]
  congr 1
  show (m == n) = (n == m)
  rw [Bool.eq_iff_iff,beq_iff_eq,beq_iff_eq]; exact ⟨Eq.symm,Eq.symm⟩
theorem in_ints (n:Int) (ns:List Int) (st:Store):inW false (.int n) (.mt (ns.map Val.int)) st = .ok (.bl (ns.contains n)) st:=by
 have h1:(ns.map Val.int).all flat = true:=by rw [List.all_map]; exact List.all_eq_true.mpr fun _ _ => rfl
 unfold inW seqOf
 dsimp only
 rw [if_pos ⟨rfl,h1⟩,any_ints]
 rfl
theorem bls_map (ns:List Int) (f:Int → Bool):blsOf ((ns.map Val.int).map fun v => match v with | .int i => .bl (f i) | _ => .non) = some (ns.map f):=by
 induction ns with
 | nil => rfl
 | cons m ns ih =>
  simp only [List.map_cons,blsOf] at ih ⊢
  rw [ih]; rfl
theorem is_prime_within_int (n:Int) (st:Store):∃ g,PM.is_prime_within [.int n] st = .ok (.bl (prB n)) (st ++ g):=by
 have hin:inW false (.int n) PM.FIRST_PRIMES st = .ok (.bl (FP.contains n)) st:=in_ints n FP st
 cases h1:FP.contains n with
 | true =>
  refine ⟨[],?_⟩
  rw [h1] at hin
  simp only [PM.is_prime_within,ev_fn,bnd_ok,sbn_ok,thn_rt,fin_rt,ev_bin,k_bin,k_bin2,k_ret,k_if_t,ev_C,asB_bl,ev_asT,ev_seq,ev_ret,ev_ifS,var_i,List.map_cons,List.map_nil,List.replicate_zero,Nat.reduceSub,List.length_cons,List.length_nil,Nat.reduceAdd,hin,List.append_nil,prB,h1,Bool.true_or]
 | false =>
  rw [h1] at hin
  by_cases h2:n < 2
  ·refine ⟨[],?_⟩
   have e2:decide (n < 2) = true:=decide_eq_true h2
   have e3:decide (2 ≤ n) = false:=decide_eq_false (by omega)
   simp only [PM.is_prime_within,ev_fn,bnd_ok,sbn_ok,thn_nx,thn_rt,fin_rt,ev_bin,k_bin,k_bin2,k_tor_t,k_ret,k_if_t,k_if_f,ev_C,asB_bl,ev_asT,ev_tor,ev_seq,ev_next,ev_ret,ev_ifS,lt_ii,var_i,List.map_cons,List.map_nil,List.replicate_zero,Nat.reduceSub,List.length_cons,List.length_nil,Nat.reduceAdd,hin,e2,List.append_nil,prB,h1,e3,Bool.false_or,Bool.false_and]
  ·have e2:decide (n < 2) = false:=decide_eq_false h2
   have e3:decide (2 ≤ n) = true:=decide_eq_true (by omega)
   by_cases h3:997 < n
   ·refine ⟨[],?_⟩
    have e4:decide (997 < n) = true:=decide_eq_true h3
    have e5:decide (n ≤ 997) = false:=decide_eq_false (by omega)
    simp only [PM.is_prime_within,ev_fn,bnd_ok,sbn_ok,thn_nx,thn_rt,fin_rt,ev_bin,k_bin,k_bin2,k_tor_f,k_ret,k_if_t,k_if_f,ev_C,asB_bl,ev_asT,ev_tor,ev_seq,ev_next,ev_ret,ev_ifS,lt_ii,gt_ii,var_i,List.map_cons,List.map_nil,List.replicate_zero,Nat.reduceSub,List.length_cons,List.length_nil,Nat.reduceAdd,hin,e2,e4,List.append_nil,prB,h1,e3,e5,Bool.false_or,Bool.false_and,Bool.true_and]
   ·have e4:decide (997 < n) = false:=decide_eq_false h3
    have e5:decide (n ≤ 997) = true:=decide_eq_true (by omega)
    let f:Val → Val:=fun v => match v with | .int i => .bl (!(n.fmod i == 0)) | _ => .non
    have hc:compL (fun _ => True) (aName 0) tTrueM (mBin neM (mBin modV (mVar 1) (mVar 0)) (mC (Val.int 0))) (FP.map Val.int) (capM 1 [0] [some (Val.int n)]) st [] = .ok ([] ++ ((FP.map Val.int).filter fun _ => true).map f) st:=by
     refine compL_pure trivial (fun τ => ∃ x,τ = [x,some (.int n)]) (fun _ => true) f (FP.map Val.int) _ [] ⟨none,rfl⟩ ?_
     rintro u hu τ ⟨x,rfl⟩
     obtain ⟨i,hi,rfl⟩:=List.mem_map.mp hu
     have hi0:¬ i = 0:=by
      intro z; subst z; revert hi; decide
     refine ⟨_,rfl,⟨_,rfl⟩,rfl,fun _ => ?_⟩
     simp only [bnd_ok,ev_bin,k_bin,k_bin2,ev_C,ne_ii,var_i,var_s,List.set_cons_zero,mod_ii hi0,f]
    have hb:blsOf (((FP.map Val.int).filter fun _ => true).map f) = some (FP.map fun i => !(n.fmod i == 0)):=by
     rw [List.filter_eq_self.mpr (fun _ _ => rfl)]
     exact bls_map FP fun i => !(n.fmod i == 0)
    refine ⟨[.lst (((FP.map Val.int).filter fun _ => true).map f)],?_⟩
    have ha:allF [.loc st.length] (st ++ [.lst (((FP.map Val.int).filter fun _ => true).map f)]) = .ok (.bl (prB n)) (st ++ [.lst (((FP.map Val.int).filter fun _ => true).map f)]):=by
     unfold allF
     dsimp only
     rw [itemsOf_new]
     dsimp only
     rw [hb]
     simp only [prB,h1,e3,e5,Bool.false_or,Bool.true_and,List.all_map]
     rfl
    have hw:walkK PM.FIRST_PRIMES st = .ok (FP.map Val.int,fun _ => True) st:=rfl
    have hz:(FP.map Val.int).length = 11:=rfl
    rw [List.nil_append] at hc
    simp only [PM.is_prime_within,ev_fn,bnd_ok,sbn_ok,thn_nx,fin_rt,ev_bin,k_bin,k_bin2,k_tor_f,k_cons,k_cons2,k_ret,k_if_f,k_new,k_comp,ev_C,asB_bl,ev_asT,ev_tor,ev_nil,ev_cons,ev_call,ev_seq,ev_next,ev_ret,ev_ifS,ev_comp,ev_iseq,lt_ii,gt_ii,var_i,List.map_cons,List.map_nil,List.cons_append,List.nil_append,List.replicate_zero,Nat.reduceSub,List.length_cons,List.length_nil,Nat.reduceAdd,sizeLine_eq,Nat.reduceLeDiff,↓reduceIte,hin,e2,e4,hw,hc,ha,hz]
end PG
namespace M03
noncomputable def Cof (u0 u1 g0 g1 M:Int):Prop:=∃ e x0 x1:Int,(e = 1 ∨ e = -1) ∧ 0 ≤ x0 ∧ 0 ≤ x1 ∧ u0 = e * x0 ∧ u1 = -(e * x1) ∧ x1 * g0 + x0 * g1 = M ∧ x0 ≤ M + 1 ∧ x1 ≤ M + 1
theorem le_mul_pos {x g:Int} (hx:0 ≤ x) (hg:1 ≤ g):x ≤ x * g:=by
 have:=Int.mul_le_mul_of_nonneg_left hg hx
 simpa using this
theorem Cof.step {u0 u1 g0 g1 M q:Int} (h:Cof u0 u1 g0 g1 M) (hq:0 ≤ q) (h1:1 ≤ g1) (h2:0 ≤ g0 - q * g1):Cof u1 (u0 - q * u1) g1 (g0 - q * g1) M:=by
 refine bcn fun hNO => ?_
 obtain ⟨e,x0,x1,he,p0,p1,r0,r1,hM,b0,b1⟩:=h
 have p2:0 ≤ x0 + q * x1:=by
  have:=Int.mul_nonneg hq p1
  lia
 have eq:(x0 + q * x1) * g1 + x1 * (g0 - q * g1) = M:=by rw [← hM]; grind
 refine hNO ?_; clear hNO
 refine ⟨-e,x1,x0 + q * x1,?_,p1,p2,?_,?_,eq,b1,?_⟩
 ·rcases he with rfl | rfl <;> simp
 ·rw [r1]; grind
 ·rw [r0,r1]; grind
 ·have k1:=le_mul_pos p2 h1
  have k2:=Int.mul_nonneg p1 h2
  lia
theorem Cof.bound {u0 u1 g0 g1 M:Int} (h:Cof u0 u1 g0 g1 M):u0.natAbs ≤ (M + 1).natAbs ∧ u1.natAbs ≤ (M + 1).natAbs:=by
 refine bcn fun hNO => ?_
 obtain ⟨e,x0,x1,he,p0,p1,r0,r1,hM,b0,b1⟩:=h
 refine hNO ?_; clear hNO
 rcases he with rfl | rfl <;> (subst r0 r1; constructor <;> lia)
theorem Cof.often {u0 u1 g0 g1 M q:Int} (h:Cof u0 u1 g0 g1 M) (hq:0 ≤ q) (h1:1 ≤ g1) (h2:0 ≤ g0 - q * g1):q ≤ g0:=by
 have:=le_mul_pos hq h1
 lia
structure Inv (a b:Int) (g0 u0 v0 g1 u1 v1:Int):Prop where
 n0:0 ≤ g0
 n1:0 ≤ g1
 c0:u0 * a + v0 * b = g0
 c1:u1 * a + v1 * b = g1
 cu:Cof u0 u1 g0 g1 (b.natAbs:Int)
 cv:Cof v0 v1 g0 g1 (a.natAbs:Int)
 m0:g0 ≤ (a.natAbs:Int) + (b.natAbs:Int)
 m1:g1 ≤ (a.natAbs:Int) + (b.natAbs:Int)
 da:∃ p q:Int,a = p * g0 + q * g1
 db:∃ p q:Int,b = p * g0 + q * g1
noncomputable def sgn (n:Int):Int:=if n < 0 then -1 else 1
noncomputable def absI (n:Int):Int:=if n < 0 then -n else n
theorem absI_eq (n:Int):absI n = (n.natAbs:Int):=by unfold absI; split <;> omega
theorem sgn_mul (n:Int):sgn n * n = absI n:=by unfold sgn absI; split <;> lia
theorem sgn_abs (n:Int):n = sgn n * absI n:=by unfold sgn absI; split <;> lia
theorem sgn_or (n:Int):sgn n = 1 ∨ sgn n = -1:=by unfold sgn; split <;> simp
theorem Inv.start (a b:Int):Inv a b (absI a) (sgn a) 0 (absI b) 0 (sgn b):=by
 refine ⟨by rw [absI_eq]; lia,by rw [absI_eq]; lia,by rw [sgn_mul]; lia,by rw [sgn_mul]; lia,?_,?_,by rw [absI_eq]; lia,by rw [absI_eq]; lia,⟨sgn a,0,?_⟩,⟨0,sgn b,?_⟩⟩
 ·refine ⟨sgn a,1,0,sgn_or a,by decide,by decide,by simp,by simp,by rw [absI_eq b]; lia,by lia,by lia⟩
 ·refine ⟨-(sgn b),0,1,?_,by decide,by decide,by simp,by simp,by rw [absI_eq a]; lia,by lia,by lia⟩
  rcases sgn_or b with h | h <;> simp [h]
 ·have:=sgn_abs a; lia
 ·have:=sgn_abs b; lia
theorem Inv.turn {a b g0 u0 v0 g1 u1 v1:Int} (h:Inv a b g0 u0 v0 g1 u1 v1) (h1:g1 ≠ 0):Inv a b g1 u1 v1 (g0 - g0.fdiv g1 * g1) (u0 - g0.fdiv g1 * u1) (v0 - g0.fdiv g1 * v1) ∧ (g0 - g0.fdiv g1 * g1).toNat < g1.toNat ∧ 0 ≤ g0.fdiv g1 ∧ g0.fdiv g1 ≤ g0:=by
 have p1:1 ≤ g1:=by have:=h.n1; lia
 have ef:g0.fdiv g1 = g0 / g1:=Int.fdiv_eq_ediv_of_nonneg g0 (by lia)
 have em:g0 - g0.fdiv g1 * g1 = g0 % g1:=by
  have:=Int.emod_add_mul_ediv g0 g1
  rw [ef,Int.mul_comm]
  lia
 have q0:0 ≤ g0.fdiv g1:=by rw [ef]; exact Int.ediv_nonneg h.n0 (by lia)
 have r0:0 ≤ g0 - g0.fdiv g1 * g1:=by rw [em]; exact Int.emod_nonneg _ h1
 have r1:g0 - g0.fdiv g1 * g1 < g1:=by rw [em]; exact Int.emod_lt_of_pos _ (by lia)
 generalize hq:g0.fdiv g1 = q at *
 refine bcn fun hNO => ?_
 have m1:=h.m1
 obtain ⟨p,r,ea⟩:=h.da
 obtain ⟨p',r',eb⟩:=h.db
 refine hNO ?_; clear hNO
 refine ⟨⟨h.n1,r0,h.c1,?_,h.cu.step q0 p1 r0,h.cv.step q0 p1 r0,h.m1,by lia,⟨p * q + r,p,?_⟩,⟨p' * q + r',p',?_⟩⟩,by lia,q0,h.cu.often q0 p1 r0⟩
 ·have e0:=h.c0
  have e1:=h.c1
  grind
 ·grind
 ·grind
end M03
namespace PG
open PySem PySem.Spec L2 MN
open PyProof.Rows hiding St kindOf
noncomputable def ringB (n:Int):Bool:=n == 0 || prB n
theorem is_ring_int (n:Int) (st:Store):∃ g,PM.is_ring [.int n] st = .ok (.bl (ringB n)) (st ++ g):=by
 cases h:n == 0 with
 | true => exact ⟨[],by simp only [PM.is_ring,ev_fn,bnd_ok,sbn_ok,fin_rt,ev_bin,k_bin,k_bin2,k_and_t,k_or_t,k_cons,k_cons2,k_ret,ev_C,ev_and,ev_or,ev_nil,ev_cons,ev_call,ev_ret,eq_ii,var_i,List.map_cons,List.map_nil,List.replicate_zero,Nat.reduceSub,List.length_cons,List.length_nil,Nat.reduceAdd,is_whole_int,h,ringB,Bool.true_or,List.append_nil]⟩
 | false =>
  obtain ⟨g,e⟩:=is_prime_within_int n st
  exact ⟨g,by simp only [PM.is_ring,ev_fn,bnd_ok,sbn_ok,fin_rt,ev_bin,k_bin,k_bin2,k_and_t,k_or_f,k_cons,k_cons2,k_ret,ev_C,ev_and,ev_or,ev_nil,ev_cons,ev_call,ev_ret,eq_ii,var_i,List.map_cons,List.map_nil,List.cons_append,List.nil_append,List.replicate_zero,Nat.reduceSub,List.length_cons,List.length_nil,Nat.reduceAdd,is_whole_int,h,ringB,Bool.false_or,e]⟩
theorem check_ring_ok {n:Int} (h:ringB n = true) (st:Store):∃ g,PM.check_ring [.int n] st = .ok .non (st ++ g):=by
 obtain ⟨g,e⟩:=is_ring_int n st
 rw [h] at e
 exact ⟨g,by simp only [PM.check_ring,ev_fn,bnd_ok,sbn_ok,fin_nx,k_tnot,k_cons,k_cons2,k_if_f,asB_bl,ev_asT,ev_tnot,ev_nil,ev_cons,ev_call,ev_next,ev_ifS,var_i,List.map_cons,List.map_nil,List.cons_append,List.nil_append,List.replicate_zero,Nat.reduceSub,List.length_cons,List.length_nil,Nat.reduceAdd,Bool.not_true,e]⟩
theorem signed_unit_i (n:Int) (st:Store):PM.signed_unit [.int n] st = .ok (.int (M03.sgn n)) st:=by
 unfold M03.sgn
 by_cases h:n < 0
 ·have e:decide (n < 0) = true:=decide_eq_true h
  simp only [PM.signed_unit,ev_fn,bnd_ok,sbn_ok,fin_rt,ev_bin,k_bin,k_bin2,k_ife_t,k_ret,ev_C,asB_bl,ev_asT,ev_if,negV_int,ev_neg,ev_ret,lt_ii,var_i,List.map_cons,List.map_nil,List.cons_append,List.nil_append,List.replicate_zero,Nat.reduceSub,List.length_cons,List.length_nil,Nat.reduceAdd,e,if_pos h]
 ·have e:decide (n < 0) = false:=decide_eq_false h
  simp only [PM.signed_unit,ev_fn,bnd_ok,sbn_ok,fin_rt,ev_bin,k_bin,k_bin2,k_ife_f,k_ret,ev_C,asB_bl,ev_asT,ev_if,ev_ret,lt_ii,var_i,List.map_cons,List.map_nil,List.cons_append,List.nil_append,List.replicate_zero,Nat.reduceSub,List.length_cons,List.length_nil,Nat.reduceAdd,e,if_neg h]
noncomputable def tri (g u v:Int):Val:=.tup [.int g,.int u,.int v]
theorem bounds {a b g0 u0 v0 g1 u1 v1:Int} (h:M03.Inv a b g0 u0 v0 g1 u1 v1) (ha:Big 400 a) (hb:Big 400 b):Big 402 g0 ∧ Big 402 u0 ∧ Big 402 v0 ∧ Big 402 g1 ∧ Big 402 u1 ∧ Big 402 v1:=by
 refine bcn fun hNO => ?_
 have e:(2:Nat) ^ 402 = 4 * 2 ^ 400:=by decide +kernel
 have pos:0 < (2:Nat) ^ 400:=by decide +kernel
 have a':a.natAbs < 2 ^ 400:=ha
 have b':b.natAbs < 2 ^ 400:=hb
 obtain ⟨k1,k2⟩:=h.cu.bound
 obtain ⟨k3,k4⟩:=h.cv.bound
 have m0:=h.m0
 have m1:=h.m1
 have n0:=h.n0
 have n1:=h.n1
 refine hNO ?_; clear hNO
 refine ⟨?_,?_,?_,?_,?_,?_⟩ <;> (show _ < 2 ^ 402; rw [e]; lia)
noncomputable def msr (μ:MN.Env):Nat:=match (μ[3]?:Option (Option Val)) with
 | some (some (Val.tup (Val.int g :: _))) => g.toNat
 | _ => 0
noncomputable def turnV (q:Int) (v:Val):Val:=match v with
 | .tup [.int x,.int y] => .int (x - q * y)
 | _ => .non
theorem turnV_t {q x y:Int}:turnV q (.tup [.int x,.int y]) = .int (x - q * y):=rfl
theorem comp3 {q g0 u0 v0 g1 u1 v1:Int} (hq:Sz q) (h1:Sz g1) (h2:Sz u1) (h3:Sz v1) (st:Store) (g:Store → Prop) (hg:g st) (x:Option Val) (y:Option Val) :
  compL g (aTup [aName 0,aName 1]) tTrueM (mBin subV (mVar 0) (mBin mulV (mVar 2) (mVar 1))) (zipL [.int g0,.int u0,.int v0] [.int g1,.int u1,.int v1]) [x,y,some (.int q)] st [] = .ok [.int (g0 - q * g1),.int (u0 - q * u1),.int (v0 - q * v1)] st:=by
 have:=compL_pure (a:=aTup [aName 0,aName 1]) (c:=tTrueM) (e:=mBin subV (mVar 0) (mBin mulV (mVar 2) (mVar 1))) hg (fun τ => ∃ x y,τ = [x,y,some (.int q)]) (fun _ => true) (turnV q) (zipL [.int g0,.int u0,.int v0] [.int g1,.int u1,.int v1]) [x,y,some (.int q)] [] ⟨x,y,rfl⟩ ?_
 ·exact this
 ·rintro u hu τ ⟨x,y,rfl⟩
  simp only [zipL,List.mem_cons,List.not_mem_nil,or_false] at hu
  rcases hu with rfl | rfl | rfl
  ·exact ⟨_,rfl,⟨_,_,rfl⟩,rfl,fun _ => by simp only [bnd_ok,ev_bin,k_bin,k_bin2,sub_ii,var_i,var_s,List.set_cons_zero,List.set_cons_succ,mul_ii ⟨hq,h1⟩,turnV_t]⟩
  ·exact ⟨_,rfl,⟨_,_,rfl⟩,rfl,fun _ => by simp only [bnd_ok,ev_bin,k_bin,k_bin2,sub_ii,var_i,var_s,List.set_cons_zero,List.set_cons_succ,mul_ii ⟨hq,h2⟩,turnV_t]⟩
  ·exact ⟨_,rfl,⟨_,_,rfl⟩,rfl,fun _ => by simp only [bnd_ok,ev_bin,k_bin,k_bin2,sub_ii,var_i,var_s,List.set_cons_zero,List.set_cons_succ,mul_ii ⟨hq,h3⟩,turnV_t]⟩
theorem at0 {x:Val} {r:List Val}:L2.atI (x :: r) 0 = some x:=by
 unfold L2.atI ixN
 simp
theorem shared_ii {a b:Int} (ha:Big 400 a) (hb:Big 400 b) (st:Store):∃ gs g u v u1 v1,PM.shared [.int a,.int b] st = .ok (tri g u v) (st ++ gs) ∧ M03.Inv a b g u v 0 u1 v1:=by
 refine bcn fun hNO => ?_
 obtain ⟨μ',st',e,gs,rfl,g0,u0,v0,g1,u1,v1,o,f,rfl,J,z⟩:=sWhile_inv (t:=asT (mBin neM (mBin ixV (mVar 3) (mC (.int 0))) (mC (.int 0))))
  (body:=sSeq (sSet 4 (mBin fdivV (mBin ixV (mVar 2) (mC (.int 0))) (mBin ixV (mVar 3) (mC (.int 0))))) (sSeq (sSet 5 (mCall tupF (mCons (mComp 2 [4] (iZip2 false false (mCons (mVar 2) (mCons (mVar 3) mNil))) (aTup [(aName 0),(aName 1)]) tTrueM (mBin subV (mVar 0) (mBin mulV (mVar 2) (mVar 1)))) mNil))) (sSeq (sSet 2 (mVar 3)) (sSet 3 (mVar 5)))))
  (fun μ s => ∃ gs,s = st ++ gs ∧ ∃ g0 u0 v0 g1 u1 v1 o f,μ = [some (.int a),some (.int b),some (tri g0 u0 v0),some (tri g1 u1 v1),o,f] ∧ M03.Inv a b g0 u0 v0 g1 u1 v1)
  (fun μ _ => msr μ)
  (fun μ s => ∃ gs,s = st ++ gs ∧ ∃ g0 u0 v0 g1 u1 v1 o f,μ = [some (.int a),some (.int b),some (tri g0 u0 v0),some (tri g1 u1 v1),o,f] ∧ M03.Inv a b g0 u0 v0 g1 u1 v1 ∧ g1 = 0)
  (by
   rintro μ s ⟨gs,rfl,g0,u0,v0,g1,u1,v1,o,f,rfl,J⟩
   cases hz:g1 == 0 with
   | true =>
    have z:g1 = 0:=by simpa using hz
    refine .inl ⟨st ++ gs,?_,gs,rfl,g0,u0,v0,g1,u1,v1,o,f,rfl,J,z⟩
    simp only [tri,bnd_ok,ev_bin,k_bin,k_bin2,ev_C,asB_bl,ev_asT,ne_ii,var_t,var_s,Bool.not_true,ix_tup at0,hz]
   | false =>
    have z:¬ g1 = 0:=by simpa using hz
    obtain ⟨b1,b2,b3,b4,b5,b6⟩:=bounds J ha hb
    obtain ⟨J',lt,q0,q1⟩:=J.turn z
    have n0:=J.n0
    have hD:Dz g1:=Dz.of z b4 (by decide)
    have sq:Sz (g0.fdiv g1):=Sz.of (b1.le (by lia)) (by decide)
    have s4:Sz g1:=Sz.of b4 (by decide)
    have s5:Sz u1:=Sz.of b5 (by decide)
    have s6:Sz v1:=Sz.of b6 (by decide)
    refine .inr ⟨st ++ gs,[some (.int a),some (.int b),some (tri g1 u1 v1),some (tri (g0 - g0.fdiv g1 * g1) (u0 - g0.fdiv g1 * u1) (v0 - g0.fdiv g1 * v1)),some (.int (g0.fdiv g1)),some (tri (g0 - g0.fdiv g1 * g1) (u0 - g0.fdiv g1 * u1) (v0 - g0.fdiv g1 * v1))],st ++ gs ++ [.lst [.int (g0 - g0.fdiv g1 * g1),.int (u0 - g0.fdiv g1 * u1),.int (v0 - g0.fdiv g1 * v1)]],?_,.inl ?_,⟨gs ++ [.lst [.int (g0 - g0.fdiv g1 * g1),.int (u0 - g0.fdiv g1 * u1),.int (v0 - g0.fdiv g1 * v1)]],by rw [List.append_assoc],g1,u1,v1,_,_,_,_,_,rfl,J'⟩,?_⟩
    ·simp only [tri,bnd_ok,ev_bin,k_bin,k_bin2,ev_C,asB_bl,ev_asT,ne_ii,var_t,var_s,Bool.not_false,ix_tup at0,hz]
    ·have hzl:(zipL [Val.int g0,Val.int u0,Val.int v0] [Val.int g1,Val.int u1,Val.int v1]).length = 3:=rfl
     have hcap:capM 2 [4] [some (Val.int a),some (Val.int b),some (.tup [.int g0,.int u0,.int v0]),some (.tup [.int g1,.int u1,.int v1]),some (.int (g0.fdiv g1)),f] = [none,none,some (.int (g0.fdiv g1))]:=rfl
     simp only [tri,bnd_ok,sbn_ok,thn_nx,ev_bin,k_bin,k_bin2,k_cons,k_cons2,k_set,k_new,k_comp,ev_C,ev_nil,ev_cons,ev_call,ev_seq,ev_set,ev_comp,ev_zip,zipK_tt,var_t,var_s,List.set_cons_zero,List.set_cons_succ,sizeLine_eq,Nat.reduceLeDiff,↓reduceIte,ix_tup at0,div_ii hD,hcap,comp3 sq s4 s5 s6 _ (fun _ => True ∧ True) ⟨trivial,trivial⟩,hzl,tup_loc (itemsOf_new _ _)]
    ·show (g0 - g0.fdiv g1 * g1).toNat < g1.toNat
     exact lt)
  [some (.int a),some (.int b),some (tri (M03.absI a) (M03.sgn a) 0),some (tri (M03.absI b) 0 (M03.sgn b)),none,none] st
  ⟨[],by rw [List.append_nil],_,_,_,_,_,_,_,_,rfl,M03.Inv.start a b⟩
 subst z
 refine hNO ?_; clear hNO
 refine ⟨gs,g0,u0,v0,u1,v1,?_,J⟩
 have habs:∀ n:Int,(if n < 0 then -n else n) = M03.absI n:=fun n => rfl
 simp only [tri] at e
 simp only [PM.shared,tri,ev_fn,bnd_ok,sbn_ok,thn_nx,fin_rt,k_cons,k_cons2,k_tup,k_ret,k_set,ev_C,ev_nil,ev_cons,ev_tup,ev_call,ev_seq,ev_ret,ev_set,abs_i,var_i,var_t,var_s,List.map_cons,List.map_nil,List.cons_append,List.nil_append,List.replicate_succ,List.replicate_zero,List.set_cons_zero,List.set_cons_succ,Nat.reduceSub,List.length_cons,List.length_nil,Nat.reduceAdd,sizeLine_eq,Nat.reduceLeDiff,↓reduceIte,signed_unit_i,habs,e]
end PG
namespace PG
open PySem PySem.Spec L2 MN
open PyProof.Rows hiding St kindOf
theorem prB_small:∀ k:Fin 998,prB (k.val:Int) = true → 2 ≤ k.val ∧ ∀ d:Fin 32,2 ≤ d.val → d.val < k.val → k.val % d.val ≠ 0:=by decide +kernel
theorem prB_range {p:Int} (h:prB p = true):2 ≤ p ∧ p ≤ 997:=by
 unfold prB at h
 rw [Bool.or_eq_true] at h
 rcases h with h | h
 ·have:p ∈ FP:=by simpa using h
  simp only [FP,List.mem_cons,List.not_mem_nil,or_false] at this
  omega
 ·simp only [Bool.and_eq_true,decide_eq_true_eq] at h
  omega
theorem prB_prime {p:Int} (h:prB p = true) {d:Int} (h2:2 ≤ d) (hd:d < p):¬ p % d = 0:=by
 obtain ⟨r1,r2⟩:=prB_range h
 have key:=(prB_small ⟨p.toNat,by lia⟩ (by show prB ((p.toNat:Nat):Int) = true; rw [Int.toNat_of_nonneg (by lia)]; exact h)).2
 have small:∀ e:Int,2 ≤ e → e ≤ 31 → e < p → ¬ p % e = 0:=by
  intro e e2 e3 e4 z
  have:=key ⟨e.toNat,by lia⟩ (by show 2 ≤ e.toNat; lia) (by show e.toNat < p.toNat; lia)
  apply this
  show p.toNat % e.toNat = 0
  have:((p.toNat % e.toNat:Nat):Int) = 0:=by
   rw [Int.natCast_emod,Int.toNat_of_nonneg (by lia),Int.toNat_of_nonneg (by lia)]; exact z
  lia
 intro z
 by_cases hs:d ≤ 31
 ·exact small d h2 hs hd z
 ·obtain ⟨m,hm⟩:=Int.dvd_of_emod_eq_zero z
  have m2:2 ≤ m:=by
   rcases Int.lt_or_le m 2 with q | q
   ·have:d * m ≤ d * 1:=Int.mul_le_mul_of_nonneg_left (by lia) (by lia)
    lia
   ·exact q
  have m3:m ≤ 31:=by
   rcases Int.lt_or_le 31 m with q | q
   ·have:32 * 32 ≤ d * m:=Int.mul_le_mul (by lia) (by lia) (by lia) (by lia)
    lia
   ·exact q
  have m4:m < p:=by
   have:2 * m ≤ d * m:=Int.mul_le_mul_of_nonneg_right h2 (by lia)
   lia
  exact small m m2 m3 m4 (by rw [hm]; exact Int.mul_emod_left _ _)
theorem fmod_pos {p:Int} (hp:0 < p) (i:Int):i.fmod p = i % p:=Int.fmod_eq_emod_of_nonneg i (by lia)
theorem small_big {i:Int} (h0:0 ≤ i) (h1:i < 1000):Big 400 i:=Big.small (by decide) (by lia) h1
theorem ringB_of {p:Int} (h:prB p = true):ringB p = true:=by unfold ringB; rw [h,Bool.or_true]
theorem at1 {x y:Val} {r:List Val}:L2.atI (x :: y :: r) 1 = some y:=L2.atI_nat (xs:=x :: y :: r) (j:=1) rfl
theorem inverse_p_ok {p n:Int} (h:prB p = true) (hn:¬ n % p = 0) (st:Store):∃ g t,PM.inverse [.int p,.int n] st = .ok (.int t) (st ++ g) ∧ 0 < t ∧ t < p ∧ (t * n) % p = 1:=by
 refine bcn fun hNO => ?_
 obtain ⟨r1,r2⟩:=prB_range h
 obtain ⟨g1,e⟩:=check_ring_ok (ringB_of h) st
 have hp:¬ p = 0:=by lia
 have e0:(p == 0) = false:=by simpa using hp
 have e1:(n.fmod p == 0) = false:=by rw [fmod_pos (by lia)]; simpa using hn
 have a0:=Int.emod_nonneg n hp
 have a1:=Int.emod_lt_of_pos n (show 0 < p by lia)
 obtain ⟨g2,g,u,v,u1,v1,es,J⟩:=shared_ii (a:=n % p) (b:=p) (small_big a0 (by lia)) (small_big (by lia) (by lia)) (st ++ g1)
 have hg:g = 1:=by
  obtain ⟨x,_,ex⟩:=J.da
  obtain ⟨y,_,ey⟩:=J.db
  rw [Int.mul_zero,Int.add_zero] at ex ey
  have n0:=J.n0
  rcases Int.lt_or_le g 2 with q | q
  ·rcases Int.lt_or_le g 1 with q' | q'
   ·have:g = 0:=by lia
    rw [this,Int.mul_zero] at ey
    lia
   ·lia
  ·have gl:g ≤ n % p:=by
    have xp:1 ≤ x:=by
     rcases Int.lt_or_le x 1 with z | z
     ·have:x * g ≤ 0 * g:=Int.mul_le_mul_of_nonneg_right (by lia) (by lia)
      lia
     ·exact z
    have:1 * g ≤ x * g:=Int.mul_le_mul_of_nonneg_right xp (by lia)
    lia
   exact absurd (by rw [ey]; exact Int.mul_emod_left _ _) (prB_prime h q (by lia))
 subst hg
 have t0:=Int.emod_nonneg u hp
 have t1:=Int.emod_lt_of_pos u (show 0 < p by lia)
 have tn:(u % p * n) % p = 1:=by
  have c:=J.c0
  have k1:(u * (n % p)) % p = 1:=by
   have:u * (n % p) = 1 + p * (-v):=by rw [Int.mul_neg,Int.mul_comm p v]; lia
   rw [this,Int.add_mul_emod_self_left]
   exact Int.emod_eq_of_lt (by lia) (by lia)
  rw [Int.mul_emod,Int.emod_emod_of_dvd u (Int.dvd_refl p)]
  rw [Int.mul_emod,Int.emod_emod_of_dvd n (Int.dvd_refl p)] at k1
  exact k1
 refine hNO ?_; clear hNO
 refine ⟨g1 ++ g2,u % p,?_,?_,t1,tn⟩
 ·simp only [tri] at es
  rw [← fmod_pos (show 0 < p by lia)] at es
  simp only [PM.inverse,ev_fn,bnd_ok,sbn_ok,thn_nx,fin_rt,ev_bin,k_bin,k_bin2,k_cons,k_cons2,k_expr,k_ret,k_if_f,ev_C,asB_bl,ev_asT,ev_nil,ev_cons,ev_call,ev_seq,ev_next,ev_expr,ev_ret,ev_ifS,eq_ii,var_i,var_s,List.map_cons,List.map_nil,List.cons_append,List.nil_append,List.replicate_zero,Nat.reduceSub,List.length_cons,List.length_nil,Nat.reduceAdd,e,e0,mod_ii hp,e1,es,ix_tup at1,List.append_assoc]
  rw [fmod_pos (by lia)]
 ·rcases Int.lt_or_le 0 (u % p) with q | q
  ·exact q
  ·have:u % p = 0:=by lia
   rw [this,Int.zero_mul] at tn
   simp at tn
end PG
namespace PG
open PySem PySem.Spec L2 MN
open PyProof.Rows hiding St kindOf
theorem at_ints {ns:List Int} {k:Int} (h0:0 ≤ k) (h1:k < (ns.length:Int)):∃ c:Int,L2.atI (ns.map Val.int) k = some (.int c):=by
 have hk:k.toNat < ns.length:=by lia
 refine ⟨ns[k.toNat],?_⟩
 have e:=L2.atI_nat (xs:=ns.map Val.int) (j:=k.toNat) (v:=.int ns[k.toNat]) (by rw [List.getElem?_map,List.getElem?_eq_getElem hk]; rfl)
 rw [show ((k.toNat:Nat):Int) = k by lia] at e
 exact e
theorem fmodc {m:Int} (hm:0 < m) (i:Int):0 ≤ i.fmod m ∧ i.fmod m < m:=by
 rw [fmod_pos hm]; exact ⟨Int.emod_nonneg _ (by lia),Int.emod_lt_of_pos _ hm⟩
theorem law_whole_int (i:Int) (st:Store):PM.law_whole [.int i] st = .ok (.bl true) st:=rfl
end PG
namespace PG
open PySem PySem.Spec L2 MN
open PyProof.Rows hiding St kindOf
theorem dz_c {j:Int} (h:0 < j) (h1:j < 2 ^ 64):Dz j:=by
 refine Dz.of (k:=64) (by lia) ?_ (by decide)
 show j.natAbs < 2 ^ 64
 lia
noncomputable def dvP (n:Int) (u:Val):Bool:=match u with
 | .int b => decide (b < n) && (n.fmod b == 0)
 | _ => false
noncomputable def dvs (n:Int):List Val:=(rangeL 2 30).filter (dvP n)
theorem dvs_pr:∀ k:Fin 998,2 ≤ k.val → (dvs (k.val:Int)).isEmpty = true → prB (k.val:Int) = true:=by decide +kernel
theorem dvs_comp (n:Int) (x:Option Val) (st:Store):compL (fun _ => True) (aName 0) (tAndM (asT (mBin ltV (mVar 0) (mVar 1))) (asT (mBin eqM (mBin modV (mVar 1) (mVar 0)) (mC (.int 0))))) (mVar 0) (rangeL 2 30) [x,some (.int n)] st [] = .ok (dvs n) st:=by
 have:=compL_pure (a:=aName 0) (c:=tAndM (asT (mBin ltV (mVar 0) (mVar 1))) (asT (mBin eqM (mBin modV (mVar 1) (mVar 0)) (mC (.int 0))))) (e:=mVar 0) (g:=fun _ => True) (st:=st) trivial (fun τ => ∃ x,τ = [x,some (.int n)]) (dvP n) id (rangeL 2 30) [x,some (.int n)] [] ⟨x,rfl⟩ ?_
 ·rw [this,List.nil_append,List.map_id]; rfl
 ·rintro u hu τ ⟨x,rfl⟩
  simp only [rangeL,List.mem_map,List.mem_range] at hu
  obtain ⟨i,hi,rfl⟩:=hu
  have nz:¬ (2 + (i:Int)) = 0:=by lia
  refine ⟨_,rfl,⟨_,rfl⟩,?_,fun _ => rfl⟩
  by_cases hb:2 + (i:Int) < n
  ·have e:decide (2 + (i:Int) < n) = true:=decide_eq_true hb
   simp only [bnd_ok,ev_bin,k_bin,k_bin2,k_tand_t,ev_C,asB_bl,ev_asT,ev_tand,lt_ii,eq_ii,var_i,var_s,List.set_cons_zero,e,mod_ii nz,dvP,Bool.true_and]
  ·have e:decide (2 + (i:Int) < n) = false:=decide_eq_false hb
   simp only [bnd_ok,ev_bin,k_bin,k_bin2,k_tand_f,asB_bl,ev_asT,ev_tand,lt_ii,var_i,var_s,List.set_cons_zero,e,dvP,Bool.false_and]
end PG
namespace PG
open PySem PySem.Spec L2 MN
open PyProof.Rows hiding St kindOf
theorem cell_at2 {n:Nat} {ns:List Int} {k:Int} {st:Store} (h:itemsOf st n = some (ns.map Val.int)) (k0:0 ≤ k) (k1:k ≤ 1000000) :
  ∃ o,PM.law_cell_at_v2 [.loc n,.int k] st = .ok (.int o) st:=by
 have len:((List.map Val.int ns).length:Int) = (ns.length:Int):=by rw [List.length_map]
 have cp:CPow 10 9:=by decide
 have tn:(10:Int) ^ Int.toNat 9 = 1000000000:=by decide
 have fin:∀ c:Int,((decide (k < ((List.map Val.int ns).length:Int)) = false ∧ c = 0) ∨ (decide (k < ((List.map Val.int ns).length:Int)) = true ∧ L2.atI (ns.map Val.int) k = some (.int c))) → ∃ o,PM.law_cell_at_v2 [.loc n,.int k] st = .ok (.int o) st:=by
  intro c hc
  by_cases hb:(1000000000:Int) < (if c < 0 then -c else c)
  ·have e1:decide ((1000000000:Int) < (if c < 0 then -c else c)) = true:=decide_eq_true hb
   refine ⟨c,?_⟩
   rcases hc with ⟨h1,rfl⟩ | ⟨h1,h2⟩
   ·simp only [PM.law_cell_at_v2,ev_fn,bnd_ok,sbn_ok,thn_nx,thn_rt,fin_rt,ev_bin,k_bin,k_bin2,k_cons,k_cons2,k_ret,k_if_t,k_if_f,k_set,ev_C,asB_bl,ev_asT,ev_nil,ev_cons,ev_call,ev_seq,ev_next,ev_ret,ev_ifS,ev_set,lt_ii,gt_ii,abs_i,var_i,var_l,var_s,List.map_cons,List.map_nil,List.cons_append,List.nil_append,List.replicate_succ,List.replicate_zero,List.set_cons_zero,List.set_cons_succ,Nat.reduceSub,List.length_cons,List.length_nil,Nat.reduceAdd,len_loc h,h1,pow_ii cp,tn,e1]
   ·simp only [PM.law_cell_at_v2,ev_fn,bnd_ok,sbn_ok,thn_nx,thn_rt,fin_rt,ev_bin,k_bin,k_bin2,k_cons,k_cons2,k_ret,k_if_t,k_set,ev_C,asB_bl,ev_asT,ev_nil,ev_cons,ev_call,ev_seq,ev_ret,ev_ifS,ev_set,lt_ii,gt_ii,abs_i,var_i,var_l,var_s,List.map_cons,List.map_nil,List.cons_append,List.nil_append,List.replicate_succ,List.replicate_zero,List.set_cons_zero,List.set_cons_succ,Nat.reduceSub,List.length_cons,List.length_nil,Nat.reduceAdd,len_loc h,h1,ix_loc h h2,pow_ii cp,tn,e1]
  ·have e1:decide ((1000000000:Int) < (if c < 0 then -c else c)) = false:=decide_eq_false hb
   have q1:=fmodc (m:=2147483647) (by decide) (c * 48271 + 7919 * k * k + 104729 * k + 11)
   generalize hx:(c * 48271 + 7919 * k * k + 104729 * k + 11).fmod 2147483647 = x at q1
   have q2:=fmodc (m:=2147483629) (by decide) (x * x)
   have q3:=fmodc (m:=2147483647) (by decide) ((x * x).fmod 2147483629 * 69621)
   generalize hy:((x * x).fmod 2147483629 * 69621).fmod 2147483647 = y at q3
   refine ⟨(y * y).fmod 2147483587 * 2147483647 + y,?_⟩
   have m1:∀ s,mulV (.int x) (.int x) s = .ok (.int (x * x)) s:=fun s => mul_l (by lia) (by lia)
   have m2:∀ s,mulV (.int y) (.int y) s = .ok (.int (y * y)) s:=fun s => mul_l (by lia) (by lia)
   rcases hc with ⟨h1,rfl⟩ | ⟨h1,h2⟩
   ·simp only [PM.law_cell_at_v2,ev_fn,bnd_ok,sbn_ok,thn_nx,fin_rt,ev_bin,k_bin,k_bin2,k_cons,k_cons2,k_ret,k_if_f,k_set,ev_C,asB_bl,ev_asT,ev_nil,ev_cons,ev_call,ev_seq,ev_next,ev_ret,ev_ifS,ev_set,add_ii,lt_ii,gt_ii,abs_i,var_i,var_l,var_s,List.map_cons,List.map_nil,List.cons_append,List.nil_append,List.replicate_succ,List.replicate_zero,List.set_cons_zero,List.set_cons_succ,Nat.reduceSub,List.length_cons,List.length_nil,Nat.reduceAdd,len_loc h,h1,pow_ii cp,tn,e1,mul_r (j:=48271) (by decide) (by decide),mul_l (i:=7919) (by decide) (by decide),mul_r (j:=k) (by lia) (by lia),mod_ii (j:=2147483647) (by decide),hx,m1,mod_ii (j:=2147483629) (by decide),mul_r (j:=69621) (by decide) (by decide),hy,m2,mod_ii (j:=2147483587) (by decide),mul_r (j:=2147483647) (by decide) (by decide)]
   ·simp only [PM.law_cell_at_v2,ev_fn,bnd_ok,sbn_ok,thn_nx,fin_rt,ev_bin,k_bin,k_bin2,k_cons,k_cons2,k_ret,k_if_t,k_if_f,k_set,ev_C,asB_bl,ev_asT,ev_nil,ev_cons,ev_call,ev_seq,ev_next,ev_ret,ev_ifS,ev_set,add_ii,lt_ii,gt_ii,abs_i,var_i,var_l,var_s,List.map_cons,List.map_nil,List.cons_append,List.nil_append,List.replicate_succ,List.replicate_zero,List.set_cons_zero,List.set_cons_succ,Nat.reduceSub,List.length_cons,List.length_nil,Nat.reduceAdd,len_loc h,h1,ix_loc h h2,pow_ii cp,tn,e1,mul_r (j:=48271) (by decide) (by decide),mul_l (i:=7919) (by decide) (by decide),mul_r (j:=k) (by lia) (by lia),mod_ii (j:=2147483647) (by decide),hx,m1,mod_ii (j:=2147483629) (by decide),mul_r (j:=69621) (by decide) (by decide),hy,m2,mod_ii (j:=2147483587) (by decide),mul_r (j:=2147483647) (by decide) (by decide)]
 by_cases hk:k < (ns.length:Int)
 ·obtain ⟨c,hc⟩:=at_ints k0 hk
  exact fin c (.inr ⟨decide_eq_true (by rw [len]; exact hk),hc⟩)
 ·exact fin 0 (.inl ⟨decide_eq_false (by rw [len]; exact hk),rfl⟩)
noncomputable def msr1d (μ:MN.Env):Nat:=match (μ[1]?:Option (Option Val)) with
 | some (some (Val.int n)) => n.toNat
 | _ => 0
theorem dvs_2:(dvs 2).isEmpty = true:=by decide +kernel
theorem prime_by (c:Int) (st:Store):∃ g p,PM.law_prime_by [.int c] st = .ok (.int p) (st ++ g) ∧ prB p = true:=by
 refine bcn fun hNO => ?_
 have d8:Dz 8:=dz_c (by decide) (by decide)
 have q:=fmodc (m:=8) (by decide) c
 have q9:=fmodc (m:=996) (by decide) (c.fdiv 8)
 have r2:∀ st,rng2 [.int 2,.int 32] st = .ok (rangeL 2 30,fun _ => True) st:=fun _ => rfl
 have rl:(rangeL 2 30).length = 30:=rfl
 have tst:∀ (n:Int) (s:Store),asT (mBin neM (mComp 1 [1] (iRange2 (mCons (mC (.int 2)) (mCons (mC (.int 32)) mNil))) (aName 0) (tAndM (asT (mBin ltV (mVar 0) (mVar 1))) (asT (mBin eqM (mBin modV (mVar 1) (mVar 0)) (mC (.int 0))))) (mVar 0)) (mLst mNil)) [some (.int c),some (.int n)] s = .ok (!(dvs n).isEmpty) (s ++ [.lst (dvs n)] ++ [.lst []]):=by
  intro n s
  have hcap:capM 1 [1] [some (Val.int c),some (Val.int n)] = [none,some (.int n)]:=rfl
  simp only [bnd_ok,ev_bin,k_bin,k_bin2,k_cons,k_cons2,k_lst,k_new,k_comp,ev_C,asB_bl,ev_asT,ev_nil,ev_cons,ev_lst,ev_comp,ev_rng2,List.length_nil,sizeLine_eq,Nat.reduceLeDiff,↓reduceIte,r2,rl,hcap,dvs_comp,ne_nil (itemsOf_old (itemsOf_new s (dvs n)) [.lst []]) (itemsOf_new (s ++ [.lst (dvs n)]) [])]
 have loop:∀ (k:Int) (s:Store),2 ≤ k → k ≤ 997 → ∃ μ' st',sWhile (asT (mBin neM (mComp 1 [1] (iRange2 (mCons (mC (.int 2)) (mCons (mC (.int 32)) mNil))) (aName 0) (tAndM (asT (mBin ltV (mVar 0) (mVar 1))) (asT (mBin eqM (mBin modV (mVar 1) (mVar 0)) (mC (.int 0))))) (mVar 0)) (mLst mNil))) (sSet 1 (mBin subV (mVar 1) (mC (.int 1)))) [some (.int c),some (.int k)] s = .nx μ' st' ∧ ∃ g,st' = s ++ g ∧ ∃ n:Int,μ' = [some (.int c),some (.int n)] ∧ prB n = true:=by
  intro k s k0 k1
  obtain ⟨μ',st',e,g,rfl,n,rfl,n0,n1,em⟩:=sWhile_inv (t:=asT (mBin neM (mComp 1 [1] (iRange2 (mCons (mC (.int 2)) (mCons (mC (.int 32)) mNil))) (aName 0) (tAndM (asT (mBin ltV (mVar 0) (mVar 1))) (asT (mBin eqM (mBin modV (mVar 1) (mVar 0)) (mC (.int 0))))) (mVar 0)) (mLst mNil)))
   (body:=sSet 1 (mBin subV (mVar 1) (mC (.int 1))))
   (fun μ s' => ∃ g,s' = s ++ g ∧ ∃ n:Int,μ = [some (.int c),some (.int n)] ∧ 2 ≤ n ∧ n ≤ 997) (fun μ _ => msr1d μ)
   (fun μ s' => ∃ g,s' = s ++ g ∧ ∃ n:Int,μ = [some (.int c),some (.int n)] ∧ 2 ≤ n ∧ n ≤ 997 ∧ (dvs n).isEmpty = true)
   (by
    rintro μ s' ⟨g,rfl,n,rfl,n0,n1⟩
    have t:=tst n (s ++ g)
    cases hd:(dvs n).isEmpty with
    | true =>
     rw [hd] at t
     exact .inl ⟨_,t,g ++ ([.lst (dvs n)] ++ [.lst []]),by simp only [List.append_assoc],n,rfl,n0,n1,hd⟩
    | false =>
     rw [hd] at t
     have n2:n ≠ 2:=fun z => by rw [z,dvs_2] at hd; cases hd
     refine .inr ⟨_,[some (.int c),some (.int (n - 1))],_,t,.inl (by simp only [bnd_ok,sbn_ok,ev_bin,k_bin,k_bin2,k_set,ev_C,ev_set,sub_ii,var_i,var_s,List.set_cons_zero,List.set_cons_succ]; rfl),⟨g ++ ([.lst (dvs n)] ++ [.lst []]),by simp only [List.append_assoc],n - 1,rfl,by lia,by lia⟩,?_⟩
     show (n - 1).toNat < n.toNat
     lia)
   [some (.int c),some (.int k)] s ⟨[],by rw [List.append_nil],_,rfl,k0,k1⟩
  have hp:=dvs_pr ⟨n.toNat,by lia⟩ (by show 2 ≤ n.toNat; lia) (by show (dvs ((n.toNat:Nat):Int)).isEmpty = true; rw [Int.toNat_of_nonneg (by lia)]; exact em)
  have hp':prB n = true:=by
   have:prB ((n.toNat:Nat):Int) = true:=hp
   rw [Int.toNat_of_nonneg (by lia)] at this; exact this
  exact ⟨_,_,e,g,rfl,n,rfl,hp'⟩
 have at8:∀ i:Int,0 ≤ i → i < 8 → ∃ p,L2.atI ([.int 2,.int 3,.int 5,.int 7,.int 11,.int 13,.int (2 + (c.fdiv 8).fmod 996),.int (2 + (c.fdiv 8).fmod 996)]:List Val) i = some (.int p) ∧ 2 ≤ p ∧ p ≤ 997:=by
  intro i i0 i1
  have:i = 0 ∨ i = 1 ∨ i = 2 ∨ i = 3 ∨ i = 4 ∨ i = 5 ∨ i = 6 ∨ i = 7:=by lia
  rcases this with rfl | rfl | rfl | rfl | rfl | rfl | rfl | rfl
  ·exact ⟨2,rfl,by lia,by lia⟩
  ·exact ⟨3,rfl,by lia,by lia⟩
  ·exact ⟨5,rfl,by lia,by lia⟩
  ·exact ⟨7,rfl,by lia,by lia⟩
  ·exact ⟨11,rfl,by lia,by lia⟩
  ·exact ⟨13,rfl,by lia,by lia⟩
  ·exact ⟨_,rfl,by lia,by lia⟩
  ·exact ⟨_,rfl,by lia,by lia⟩
 obtain ⟨k,ek,k0,k1⟩:=at8 _ q.1 q.2
 obtain ⟨μ',st',e,g,rfl,n,rfl,hp⟩:=loop k (st ++ [.lst [.int 2,.int 3,.int 5,.int 7,.int 11,.int 13,.int (2 + (c.fdiv 8).fmod 996),.int (2 + (c.fdiv 8).fmod 996)]]) k0 k1
 refine hNO ?_; clear hNO
 refine ⟨[.lst [.int 2,.int 3,.int 5,.int 7,.int 11,.int 13,.int (2 + (c.fdiv 8).fmod 996),.int (2 + (c.fdiv 8).fmod 996)]] ++ g,n,?_,hp⟩
 rw [← List.append_assoc]
 simp only [PM.law_prime_by,ev_fn,bnd_ok,sbn_ok,thn_nx,fin_rt,ev_bin,k_bin,k_bin2,k_cons,k_cons2,k_lst,k_ret,k_set,ev_C,ev_nil,ev_cons,ev_lst,ev_seq,ev_ret,ev_set,add_ii,var_i,var_s,List.map_cons,List.map_nil,List.cons_append,List.nil_append,List.replicate_succ,List.replicate_zero,List.set_cons_zero,List.set_cons_succ,Nat.reduceSub,List.length_cons,List.length_nil,Nat.reduceAdd,sizeLine_eq,Nat.reduceLeDiff,↓reduceIte,mod_ii (j:=8) (by decide),div_ii d8,mod_ii (j:=996) (by decide),ix_loc (itemsOf_new st _) ek,e]
end PG
namespace PG
open PySem PySem.Spec L2 MN
open PyProof.Rows hiding St kindOf
theorem compL_ints {g:Store → Prop} {a:AS} {e:ME} {st:Store} (hg:g st) (I:MN.Env → Prop) (f:Int → Val):∀ (ns:List Int) (τ:MN.Env) (ys:List Val),I τ →
  (∀ i ∈ ns,∀ τ,I τ → ∃ τ1,a (.int i) τ = some τ1 ∧ I τ1 ∧ e τ1 st = .ok (f i) st) → compL g a tTrueM e (ns.map Val.int) τ st ys = .ok (ys ++ ns.map f) st
 | [],τ,ys,_,_ => by
  rw [List.map_nil]
  unfold compL
  rw [if_pos hg]; simp
 | n :: ns,τ,ys,hI,hs => by
  refine bcn fun hNO => ?_
  obtain ⟨τ1,h1,h2,h3⟩:=hs n List.mem_cons_self τ hI
  have ih:=compL_ints hg I f ns τ1 (ys ++ [f n]) h2 fun i hi => hs i (List.mem_cons_of_mem n hi)
  refine hNO ?_; clear hNO
  rw [List.map_cons]
  unfold compL
  rw [if_pos hg,h1]
  dsimp only [tTrueM]
  rw [h3]
  dsimp only
  rw [ih]
  simp
theorem forL_fold {α:Type} {g:Store → Prop} {a:AS} {body:MB} {st:Store} (hg:g st) (R:α → MN.Env → Prop) (F:α → Val → α):∀ (us:List Val),
  (∀ u ∈ us,∀ x μ,R x μ → ∃ μ1,a u μ = some μ1 ∧ ∃ μ',body μ1 st = .nx μ' st ∧ R (F x u) μ') → ∀ x μ,R x μ → ∃ μ',forL g a body us μ st = .nx μ' st ∧ R (us.foldl F x) μ'
 | [],_,x,μ,h => ⟨μ,by unfold forL; rw [if_pos hg],h⟩
 | u :: us,hs,x,μ,h => by
  refine bcn fun hNO => ?_
  obtain ⟨μ1,h1,μ',h2,h3⟩:=hs u List.mem_cons_self x μ h
  obtain ⟨μ2,h4,h5⟩:=forL_fold hg R F us (fun w hw => hs w (List.mem_cons_of_mem u hw)) (F x u) μ' h3
  refine hNO ?_; clear hNO
  refine ⟨μ2,?_,h5⟩
  unfold forL
  rw [if_pos hg,h1]
  dsimp only
  rw [h2]
  exact h4
noncomputable def rngI (lo:Int) (n:Nat):List Int:=(List.range n).map fun (i:Nat) => lo + (i:Int)
theorem rangeL_ints (lo:Int) (n:Nat):rangeL lo n = (rngI lo n).map Val.int:=by unfold rangeL rngI; rw [List.map_map]; rfl
theorem mem_rngI {lo i:Int} {n:Nat} (h:i ∈ rngI lo n):lo ≤ i ∧ i < lo + n:=by
 obtain ⟨j,hj,rfl⟩:=List.mem_map.mp h
 have:=List.mem_range.mp hj
 lia
theorem len_ints (ns:List Int):(ns.map Val.int).length = ns.length:=List.length_map ..
theorem at_getD {ns:List Int} {i:Int} (h0:0 ≤ i) (h1:i < (ns.length:Int)):L2.atI (ns.map Val.int) i = some (.int (ns.getD i.toNat 0)):=by
 have hk:i.toNat < ns.length:=by lia
 have e:=L2.atI_nat (xs:=ns.map Val.int) (j:=i.toNat) (v:=.int ns[i.toNat]) (by rw [List.getElem?_map,List.getElem?_eq_getElem hk]; rfl)
 rw [show ((i.toNat:Nat):Int) = i by lia] at e
 rw [e,List.getD_eq_getElem?_getD,List.getElem?_eq_getElem hk]; rfl
theorem prB_ne {p:Int} (hp:prB p = true):¬ p = 0:=by have:=prB_range hp; lia
theorem check_prime_ok {p:Int} (hp:prB p = true) (st:Store):∃ g,PM.check_prime [.int p] st = .ok .non (st ++ g):=by
 obtain ⟨g,e⟩:=is_ring_int p st
 have hr:ringB p = true:=by unfold ringB; rw [hp,Bool.or_true]
 rw [hr] at e
 have hz:(p == 0) = false:=by simpa using prB_ne hp
 exact ⟨g,by simp only [PM.check_prime,ev_fn,bnd_ok,sbn_ok,fin_nx,ev_bin,k_bin,k_bin2,k_tor_f,k_tnot,k_cons,k_cons2,k_if_f,ev_C,asB_bl,ev_asT,ev_tor,ev_tnot,ev_nil,ev_cons,ev_call,ev_next,ev_ifS,eq_ii,var_i,List.map_cons,List.map_nil,List.cons_append,List.nil_append,List.replicate_zero,Nat.reduceSub,List.length_cons,List.length_nil,Nat.reduceAdd,Bool.not_true,e,hz]⟩
noncomputable def cutZ (ns:List Int):List Int:=(ns.reverse.dropWhile (· == 0)).reverse
theorem cutZ_snoc0 (ns:List Int):cutZ (ns ++ [0]) = cutZ ns:=by simp [cutZ]
theorem cutZ_snoc {n:Int} (h:(n == 0) = false) (ns:List Int):cutZ (ns ++ [n]) = ns ++ [n]:=by
 simp [cutZ,List.dropWhile_cons,h]
noncomputable def Cut (ns:List Int):Prop:=cutZ ns = ns
theorem cutZ_cases (ns:List Int):ns = [] ∨ ∃ ms x,ns = ms ++ [x]:=by
 rcases List.eq_nil_or_concat ns with h | ⟨ms,x,h⟩
 ·exact .inl h
 ·exact .inr ⟨ms,x,by rw [h,List.concat_eq_append]⟩
theorem cutZ_le:∀ (k:Nat) (ns:List Int),ns.length = k → (cutZ ns).length ≤ k ∧ Cut (cutZ ns) ∧ (∀ P:Int → Prop,(∀ n ∈ ns,P n) → ∀ n ∈ cutZ ns,P n)
 | 0,ns,h => by
  have:ns = []:=List.eq_nil_of_length_eq_zero h
  subst this
  exact ⟨Nat.le_refl _,rfl,fun P hP => hP⟩
 | k + 1,ns,h => by
  rcases cutZ_cases ns with rfl | ⟨ms,x,rfl⟩
  ·exact ⟨Nat.zero_le _,rfl,fun P hP => hP⟩
  ·have hm:ms.length = k:=by rw [List.length_append,List.length_singleton] at h; lia
   cases hx:x == 0 with
   | true =>
    have:x = 0:=by simpa using hx
    subst this
    rw [cutZ_snoc0]
    refine bcn fun hNO => ?_
    obtain ⟨h1,h2,h3⟩:=cutZ_le k ms hm
    refine hNO ?_; clear hNO
    exact ⟨by lia,h2,fun P hP => h3 P fun n hn => hP n (List.mem_append_left _ hn)⟩
   | false =>
    rw [cutZ_snoc hx]
    exact ⟨by lia,by unfold Cut; rw [cutZ_snoc hx],fun P hP => hP⟩
theorem cut_len (ns:List Int):(cutZ ns).length ≤ ns.length:=(cutZ_le _ ns rfl).1
theorem cut_cut (ns:List Int):Cut (cutZ ns):=(cutZ_le _ ns rfl).2.1
theorem cut_all {P:Int → Prop} {ns:List Int} (h:∀ n ∈ ns,P n):∀ n ∈ cutZ ns,P n:=(cutZ_le _ ns rfl).2.2 P h
noncomputable def lenAt (L:Nat) (s:Store):Nat:=((itemsOf s L).getD []).length
noncomputable abbrev rrT:MT:=tAndM (asT (mBin gtV (mCall lenF (mCons (mVar 2) mNil)) (mC (.int 0)))) (asT (mBin eqM (mBin ixV (mVar 2) (mNeg (mC (.int 1)))) (mC (.int 0))))
noncomputable abbrev rrB:MB:=sExpr (mMt0 popF (mVar 2))
theorem rr_loop (x y:Option Val) (st:Store) (ns:List Int):∃ μ' st',sWhile rrT rrB [x,y,some (.loc st.length)] (st ++ [.lst (ns.map Val.int)]) = .nx μ' st' ∧ μ' = [x,y,some (.loc st.length)] ∧ st' = st ++ [.lst ((cutZ ns).map Val.int)]:=by
 refine bcn fun hNO => ?_
 obtain ⟨μ',st',e,rfl,ms,rfl,hm⟩:=sWhile_inv (t:=rrT) (body:=rrB)
  (fun μ s => μ = [x,y,some (.loc st.length)] ∧ ∃ ms:List Int,s = st ++ [.lst (ms.map Val.int)] ∧ cutZ ms = cutZ ns) (fun _ s => lenAt st.length s)
  (fun μ s => μ = [x,y,some (.loc st.length)] ∧ ∃ ms:List Int,s = st ++ [.lst (ms.map Val.int)] ∧ ms = cutZ ns)
  (by
   rintro μ s ⟨rfl,ms,rfl,hm⟩
   rcases cutZ_cases ms with rfl | ⟨ks,k,rfl⟩
   ·have h0:decide ((0:Int) < (([]:List Val).length:Int)) = false:=rfl
    refine .inl ⟨_,?_,rfl,[],rfl,hm⟩
    simp only [bnd_ok,ev_bin,k_bin,k_bin2,k_cons,k_cons2,ev_C,asB_bl,ev_asT,ev_tand,ev_nil,ev_cons,ev_call,gt_ii,var_l,var_s,List.map_nil,List.length_nil,len_loc (itemsOf_new st []),h0]
    rfl
   ·have em:(ks ++ [k]).map Val.int = ks.map Val.int ++ [.int k]:=by simp
    rw [em]
    have h0:decide ((0:Int) < ((ks.map Val.int ++ [Val.int k]).length:Int)) = true:=decide_eq_true (by rw [List.length_append,List.length_singleton]; lia)
    have hix:=ix_loc (itemsOf_new st (ks.map Val.int ++ [.int k])) (L2.atI_last (ks.map Val.int) (.int k))
    have tst:rrT [x,y,some (.loc st.length)] (st ++ [.lst (ks.map Val.int ++ [.int k])]) = .ok (k == 0) (st ++ [.lst (ks.map Val.int ++ [.int k])]):=by
     simp only [bnd_ok,ev_bin,k_bin,k_bin2,k_tand_t,k_cons,k_cons2,ev_C,asB_bl,ev_asT,ev_tand,ev_nil,ev_cons,ev_call,negV_int,ev_neg,gt_ii,eq_ii,var_l,var_s,len_loc (itemsOf_new st (ks.map Val.int ++ [.int k])),h0,hix]
    cases hk:k == 0 with
    | false =>
     rw [hk] at tst
     rw [cutZ_snoc hk] at hm
     exact .inl ⟨_,tst,rfl,ks ++ [k],by rw [em],hm⟩
    | true =>
     rw [hk] at tst
     have hk0:k = 0:=by simpa using hk
     subst hk0
     rw [cutZ_snoc0] at hm
     refine .inr ⟨_,_,st ++ [.lst (ks.map Val.int)],tst,.inl ?_,⟨rfl,ks,rfl,hm⟩,?_⟩
     ·simp only [bnd_ok,sbn_ok,k_expr,ev_expr,var_l,var_s,ev_mt0,k_mt0 (la_new st _),pop_ok (la_new st _),set_last]
     ·unfold lenAt
      rw [itemsOf_new,itemsOf_new]
      show (ks.map Val.int).length < (ks.map Val.int ++ [Val.int 0]).length
      rw [List.length_append,List.length_singleton]; lia)
  [x,y,some (.loc st.length)] (st ++ [.lst (ns.map Val.int)]) ⟨rfl,ns,rfl,rfl⟩
 refine hNO ?_; clear hNO
 exact ⟨_,_,e,rfl,by rw [hm]⟩
theorem row_of_rests_ok {p:Int} (hp:¬ p = 0) {n:Nat} {ns:List Int} {st:Store} (h:itemsOf st n = some (ns.map Val.int)) (hl:ns.length ≤ sizeLine) :
  PM.row_of_rests [.int p,.loc n] st = .ok (.loc st.length) (st ++ [.lst ((cutZ (ns.map (·.fmod p))).map Val.int)]):=by
 have hc:=compL_ints (g:=fun st' => itemsOf st' n = some (ns.map Val.int)) (a:=aName 0) (e:=mBin modV (mVar 0) (mVar 1)) (st:=st) h (fun τ => ∃ z,τ = [z,some (.int p)]) (fun i => .int (i.fmod p)) ns [none,some (.int p)] [] ⟨_,rfl⟩ (by
  rintro i _ τ ⟨z,rfl⟩
  exact ⟨_,rfl,⟨_,rfl⟩,by simp only [bnd_ok,ev_bin,k_bin,k_bin2,var_i,var_s,List.set_cons_zero,mod_ii hp]⟩)
 rw [List.nil_append,show (ns.map fun i => Val.int (i.fmod p)) = (ns.map (·.fmod p)).map Val.int from by rw [List.map_map]; rfl] at hc
 have hcap:capM 1 [0] [some (Val.int p),some (Val.loc n),none] = [none,some (.int p)]:=rfl
 have hz:(ns.map Val.int).length ≤ sizeLine:=by rw [len_ints]; exact hl
 refine bcn fun hNO => ?_
 rw [sizeLine_eq] at hz
 obtain ⟨μ',st',e,rfl,rfl⟩:=rr_loop (some (.int p)) (some (.loc n)) st (ns.map (·.fmod p))
 refine hNO ?_; clear hNO
 simp only [PM.row_of_rests,ev_fn,bnd_ok,sbn_ok,thn_nx,fin_rt,k_ret,k_set,k_new,k_comp,ev_seq,ev_ret,ev_set,ev_comp,ev_iseq,var_l,var_s,List.map_cons,List.map_nil,List.cons_append,List.nil_append,List.replicate_succ,List.replicate_zero,List.set_cons_zero,List.set_cons_succ,Nat.reduceSub,List.length_cons,List.length_nil,Nat.reduceAdd,sizeLine_eq,walkK_loc h,hcap,hc,if_pos hz,e]
theorem ixN_nat {n j:Nat} (h:j < n):L2.ixN n (j:Int) = some j:=by
 unfold L2.ixN
 rw [if_pos (by lia),if_pos (by lia)]; simp
end PG
namespace PG
open PySem PySem.Spec L2 MN
open PyProof.Rows hiding St kindOf
noncomputable def Cg (p a b:Int):Prop:=∃ k,a = b + p * k
theorem Cg.refl (p a:Int):Cg p a a:=⟨0,by rw [Int.mul_zero,Int.add_zero]⟩
theorem Cg.symm {p a b:Int} (h:Cg p a b):Cg p b a:=by
 obtain ⟨k,rfl⟩:=h
 exact ⟨-k,by rw [Int.mul_neg]; lia⟩
theorem Cg.trans {p a b c:Int} (h:Cg p a b) (h':Cg p b c):Cg p a c:=by
 obtain ⟨k,rfl⟩:=h
 obtain ⟨l,rfl⟩:=h'
 exact ⟨l + k,by rw [Int.mul_add]; lia⟩
theorem Cg.add {p a b c d:Int} (h:Cg p a b) (h':Cg p c d):Cg p (a + c) (b + d):=by
 obtain ⟨k,rfl⟩:=h
 obtain ⟨l,rfl⟩:=h'
 exact ⟨k + l,by rw [Int.mul_add]; lia⟩
theorem Cg.mulr {p a b:Int} (h:Cg p a b) (c:Int):Cg p (a * c) (b * c):=by
 obtain ⟨k,rfl⟩:=h
 exact ⟨k * c,by rw [Int.add_mul,Int.mul_assoc]⟩
theorem Cg.mull {p a b:Int} (h:Cg p a b) (c:Int):Cg p (c * a) (c * b):=by
 rw [Int.mul_comm c a,Int.mul_comm c b]; exact h.mulr c
theorem Cg.neg {p a b:Int} (h:Cg p a b):Cg p (-a) (-b):=by
 obtain ⟨k,rfl⟩:=h
 exact ⟨-k,by rw [Int.mul_neg]; lia⟩
theorem Cg.mod {p:Int} (hp:0 < p) (a:Int):Cg p (a.fmod p) a:=by
 refine ⟨-(a / p),?_⟩
 rw [fmod_pos hp,Int.mul_neg]
 have:=Int.emod_add_mul_ediv a p
 lia
theorem Cg.eq {p a b:Int} (hp:0 < p) (h:Cg p a b):a.fmod p = b.fmod p:=by
 obtain ⟨k,rfl⟩:=h
 rw [fmod_pos hp,fmod_pos hp,Int.add_mul_emod_self_left]
theorem fmod_small {p a:Int} (h0:0 ≤ a) (h1:a < p):a.fmod p = a:=by
 rw [fmod_pos (by lia)]; exact Int.emod_eq_of_lt h0 h1
noncomputable def cutI (ns:List Int) (lo hi:Option Int):List Int:=(ns.drop (HT.sIx ns.length 0 lo)).take (HT.sIx ns.length ns.length hi - HT.sIx ns.length 0 lo)
theorem cutL_ints (ns:List Int) (lo hi:Option Int):cutL (ns.map Val.int) lo hi = (cutI ns lo hi).map Val.int:=by
 unfold cutL cutI
 rw [len_ints,List.map_take,List.map_drop]
end PG
namespace PG
open PySem PySem.Spec L2 MN
open PyProof.Rows hiding St kindOf
theorem compL_map {α:Type} {g:Store → Prop} {a:AS} {e:ME} {st:Store} (hg:g st) (I:MN.Env → Prop) (enc f:α → Val):∀ (xs:List α) (τ:MN.Env) (ys:List Val),I τ →
  (∀ x ∈ xs,∀ τ,I τ → ∃ τ1,a (enc x) τ = some τ1 ∧ I τ1 ∧ e τ1 st = .ok (f x) st) → compL g a tTrueM e (xs.map enc) τ st ys = .ok (ys ++ xs.map f) st
 | [],τ,ys,_,_ => by
  rw [List.map_nil]
  unfold compL
  rw [if_pos hg]; simp
 | n :: ns,τ,ys,hI,hs => by
  refine bcn fun hNO => ?_
  obtain ⟨τ1,h1,h2,h3⟩:=hs n List.mem_cons_self τ hI
  have ih:=compL_map hg I enc f ns τ1 (ys ++ [f n]) h2 fun i hi => hs i (List.mem_cons_of_mem n hi)
  refine hNO ?_; clear hNO
  rw [List.map_cons]
  unfold compL
  rw [if_pos hg,h1]
  dsimp only [tTrueM]
  rw [h3]
  dsimp only
  rw [ih]
  simp
noncomputable def pr (q:Int × Int):Val:=.tup [.int q.1,.int q.2]
theorem zipL_ints:∀ (as bs:List Int),zipL (as.map Val.int) (bs.map Val.int) = (as.zip bs).map pr
 | [],_ => by simp [zipL]
 | _ :: _,[] => by simp [zipL]
 | a :: as,b :: bs => by
  simp only [List.map_cons,zipL,List.zip_cons_cons,zipL_ints as bs]; rfl
theorem reps0 (k:Nat):repsV k [Val.int 0] = (List.replicate k (0:Int)).map Val.int:=by
 unfold repsV
 induction k with
 | zero => rfl
 | succ k ih => rw [List.replicate_succ,List.replicate_succ,List.flatten_cons,ih]; rfl
theorem getD_app0 (ns:List Int) (k j:Nat):(ns ++ List.replicate k 0).getD j 0 = ns.getD j 0:=by
 rw [List.getD_eq_getElem?_getD,List.getD_eq_getElem?_getD]
 by_cases h:j < ns.length
 ·rw [List.getElem?_append_left h]
 ·rw [List.getElem?_append_right (by lia),List.getElem?_eq_none (l:=ns) (by lia),List.getElem?_replicate]
  split <;> rfl
theorem with_noughts_ok {n:Nat} {ns:List Int} {L:Int} {st:Store} (h:itemsOf st n = some (ns.map Val.int)) (h0:(ns.length:Int) ≤ L) (h1:L ≤ 1000000) :
  ∃ g k,PM.with_noughts [.loc n,.int L] st = .ok (.loc k) (st ++ g) ∧ st.length ≤ k ∧ (st ++ g)[k]? = some (.lst ((ns ++ List.replicate (L - ns.length).toNat 0).map Val.int)):=by
 have c1:=lst_loc h
 have h2:=itemsOf_old (itemsOf_old h [.lst (ns.map Val.int)]) [.lst [.int 0]]
 have m1:=mul_li (st:=st ++ [.lst (ns.map Val.int)] ++ [.lst [.int 0]]) (n:=(st ++ [Cell.lst (ns.map Val.int)]).length) (us:=[.int 0]) (k:=L - ns.length) (la_new _ _) (by lia) (by lia) (by rw [sizeLine_eq]; simp; lia)
 rw [reps0] at m1
 have a1:=add_ll (st:=st ++ [Cell.lst (ns.map Val.int)] ++ [Cell.lst [.int 0]] ++ [Cell.lst ((List.replicate (L - ns.length).toNat (0:Int)).map Val.int)]) (n:=st.length) (m:=(st ++ [Cell.lst (ns.map Val.int)] ++ [Cell.lst [.int 0]]).length)
  (us:=ns.map Val.int) (ws:=(List.replicate (L - ns.length).toNat (0:Int)).map Val.int) (la_old (la_old (la_new st (ns.map Val.int)) _) _) (la_new _ _) (by rw [len_ints,len_ints,List.length_replicate,sizeLine_eq]; lia)
 rw [← List.map_append] at a1
 refine ⟨[.lst (ns.map Val.int)] ++ [.lst [.int 0]] ++ [.lst ((List.replicate (L - ns.length).toNat (0:Int)).map Val.int)] ++ [.lst ((ns ++ List.replicate (L - ns.length).toNat 0).map Val.int)],(st ++ [Cell.lst (ns.map Val.int)] ++ [Cell.lst [.int 0]] ++ [Cell.lst ((List.replicate (L - ns.length).toNat (0:Int)).map Val.int)]).length,?_,by simp only [List.length_append]; lia,?_⟩
 ·simp only [PM.with_noughts,ev_fn,bnd_ok,sbn_ok,fin_rt,ev_bin,k_bin,k_bin2,k_cons,k_cons2,k_lst,k_ret,ev_C,ev_nil,ev_cons,ev_lst,ev_call,ev_ret,sub_ii,var_i,var_l,var_s,List.map_cons,List.map_nil,List.cons_append,List.nil_append,List.replicate_zero,Nat.reduceSub,List.length_cons,List.length_nil,Nat.reduceAdd,sizeLine_eq,Nat.reduceLeDiff,↓reduceIte,c1,len_loc h2,len_ints,m1,a1]
  simp only [List.append_assoc,List.cons_append,List.nil_append]
 ·simp only [← List.append_assoc]
  exact la_new _ _
noncomputable def linF (as bs:List Int) (f:Int):List Int:=(rngI 0 (max as.length bs.length)).map fun k => as.getD k.toNat 0 + f * bs.getD k.toNat 0
theorem lin_eq (as bs:List Int) (f:Int) {k l:Nat} (hk:as.length + k = max as.length bs.length) (hl:bs.length + l = max as.length bs.length) :
  ((as ++ List.replicate k 0).zip (bs ++ List.replicate l 0)).map (fun (q:Int × Int) => q.1 + f * q.2) = linF as bs f:=by
 refine List.ext_getElem? fun j => ?_
 unfold linF rngI
 rw [List.map_map,List.getElem?_map,List.getElem?_map]
 by_cases hj:j < max as.length bs.length
 ·rw [List.getElem?_range hj]
  have e1:(as ++ List.replicate k 0)[j]? = some ((as ++ List.replicate k 0).getD j 0):=by
   rw [List.getD_eq_getElem?_getD,List.getElem?_eq_getElem (by rw [List.length_append,List.length_replicate]; lia)]; rfl
  have e2:(bs ++ List.replicate l 0)[j]? = some ((bs ++ List.replicate l 0).getD j 0):=by
   rw [List.getD_eq_getElem?_getD,List.getElem?_eq_getElem (by rw [List.length_append,List.length_replicate]; lia)]; rfl
  have e3:((as ++ List.replicate k 0).zip (bs ++ List.replicate l 0))[j]? = some ((as ++ List.replicate k 0).getD j 0,(bs ++ List.replicate l 0).getD j 0):=by
   rw [List.getElem?_zip_eq_some]; exact ⟨e1,e2⟩
  rw [e3,getD_app0,getD_app0]
  show some (as.getD j 0 + f * bs.getD j 0) = some (as.getD (0 + (j:Int)).toNat 0 + f * bs.getD (0 + (j:Int)).toNat 0)
  rw [show (0 + (j:Int)).toNat = j by lia]
 ·rw [List.getElem?_eq_none (l:=List.range _) (by rw [List.length_range]; lia),List.getElem?_eq_none (by rw [List.length_zip,List.length_append,List.length_append,List.length_replicate,List.length_replicate]; lia)]
  rfl
theorem linF_len (as bs:List Int) (f:Int):(linF as bs f).length = max as.length bs.length:=by unfold linF rngI; rw [List.length_map,List.length_map,List.length_range]
theorem row_with_multiple_ok {p f:Int} (hp:¬ p = 0) {n m:Nat} {as bs:List Int} {st:Store} (h1:itemsOf st n = some (as.map Val.int)) (h2:itemsOf st m = some (bs.map Val.int)) (hl1:as.length ≤ 100000) (hl2:bs.length ≤ 100000) (f0:-(2 ^ 64) < f) (f1:f < 2 ^ 64) :
  ∃ g k,PM.row_with_multiple [.int p,.loc n,.loc m,.int f] st = .ok (.loc k) (st ++ g) ∧ st.length ≤ k ∧ (st ++ g)[k]? = some (.lst ((cutZ ((linF as bs f).map (·.fmod p))).map Val.int)):=by
 have mx:(if (bs.length:Int) > (as.length:Int) then (bs.length:Int) else (as.length:Int)) = ((max as.length bs.length:Nat):Int):=by
  split <;> lia
 refine bcn fun hNO => ?_
 obtain ⟨g1,k1,e1,o1,q1⟩:=with_noughts_ok (L:=((max as.length bs.length:Nat):Int)) h1 (by lia) (by lia)
 obtain ⟨g2,k2,e2,o2,q2⟩:=with_noughts_ok (L:=((max as.length bs.length:Nat):Int)) (itemsOf_old h2 g1) (by lia) (by lia)
 have q1:=la_old q1 g2
 refine hNO ?_; clear hNO
 revert e2 q1 q2
 generalize hs2:st ++ g1 ++ g2 = s2
 intro e2 q2 q1
 have hk:as.length + (((max as.length bs.length:Nat):Int) - as.length).toNat = max as.length bs.length:=by lia
 have hl:bs.length + (((max as.length bs.length:Nat):Int) - bs.length).toNat = max as.length bs.length:=by lia
 have le:=lin_eq as bs f hk hl
 have zz:=zip_ll (it_of q1) (it_of q2)
 rw [zipL_ints] at zz
 generalize (as ++ List.replicate (((max as.length bs.length:Nat):Int) - as.length).toNat 0) = A at q1 q2 zz le
 generalize (bs ++ List.replicate (((max as.length bs.length:Nat):Int) - bs.length).toNat 0) = B at q1 q2 zz le
 have hc:=compL_map (g:=fun st2 => itemsOf st2 k1 = some (A.map Val.int) ∧ itemsOf st2 k2 = some (B.map Val.int)) (a:=aTup [aName 0,aName 1]) (e:=mBin addV (mVar 0) (mBin mulV (mVar 2) (mVar 1))) (st:=s2) ⟨it_of q1,it_of q2⟩ (fun τ => ∃ x y,τ = [x,y,some (.int f)]) pr (fun (q:Int × Int) => .int (q.1 + f * q.2)) (A.zip B) [none,none,some (.int f)] [] ⟨_,_,rfl⟩ (by
  rintro ⟨a,b⟩ _ τ ⟨x,y,rfl⟩
  exact ⟨_,rfl,⟨_,_,rfl⟩,by simp only [bnd_ok,ev_bin,k_bin,k_bin2,add_ii,var_i,var_s,List.set_cons_zero,List.set_cons_succ,mul_l (i:=f) f0 f1]⟩)
 rw [List.nil_append,show ((A.zip B).map fun (q:Int × Int) => Val.int (q.1 + f * q.2)) = ((A.zip B).map fun (q:Int × Int) => q.1 + f * q.2).map Val.int from by rw [List.map_map]; rfl,le] at hc
 have hcap:∀ x y z w:Option Val,capM 2 [3] [x,y,z,some (.int f),w,some (.loc k1)] = [none,none,some (.int f)]:=fun _ _ _ _ => rfl
 have hz:((A.zip B).map pr).length ≤ sizeLine:=by
  have e:=congrArg List.length le
  rw [List.length_map,linF_len] at e
  rw [List.length_map,e,sizeLine_eq]; lia
 rw [sizeLine_eq] at hz
 have rr:=row_of_rests_ok hp (st:=s2 ++ [.lst ((linF as bs f).map Val.int)]) (itemsOf_new s2 _) (by rw [linF_len,sizeLine_eq]; lia)
 refine ⟨g1 ++ g2 ++ [.lst ((linF as bs f).map Val.int)] ++ [.lst ((cutZ ((linF as bs f).map (·.fmod p))).map Val.int)],(s2 ++ [Cell.lst ((linF as bs f).map Val.int)]).length,?_,by rw [← hs2]; simp only [List.length_append]; lia,?_⟩
 ·rw [show st ++ (g1 ++ g2 ++ [Cell.lst ((linF as bs f).map Val.int)] ++ [.lst ((cutZ ((linF as bs f).map (·.fmod p))).map Val.int)]) = s2 ++ [Cell.lst ((linF as bs f).map Val.int)] ++ [.lst ((cutZ ((linF as bs f).map (·.fmod p))).map Val.int)] from by rw [← hs2]; simp only [List.append_assoc]]
  simp only [PM.row_with_multiple,ev_fn,bnd_ok,sbn_ok,thn_nx,fin_rt,k_cons,k_cons2,k_ret,k_set,k_new,k_comp,ev_nil,ev_cons,ev_call,ev_seq,ev_ret,ev_set,ev_comp,ev_zip,var_i,var_l,var_s,List.map_cons,List.map_nil,List.cons_append,List.nil_append,List.replicate_succ,List.replicate_zero,List.set_cons_zero,List.set_cons_succ,Nat.reduceSub,List.length_cons,List.length_nil,Nat.reduceAdd,sizeLine_eq,max_ii,len_loc h1,len_loc h2,len_ints,mx,e1,e2,zz,hcap,hc,if_pos hz,rr]
 ·rw [show st ++ (g1 ++ g2 ++ [Cell.lst ((linF as bs f).map Val.int)] ++ [.lst ((cutZ ((linF as bs f).map (·.fmod p))).map Val.int)]) = s2 ++ [Cell.lst ((linF as bs f).map Val.int)] ++ [.lst ((cutZ ((linF as bs f).map (·.fmod p))).map Val.int)] from by rw [← hs2]; simp only [List.append_assoc]]
  exact la_new _ _
end PG
namespace PG
open PySem PySem.Spec L2 MN
open PyProof.Rows hiding St kindOf
noncomputable def psum (as bs:List Int):Nat → Nat → Int
 | 0,_ => 0
 | i + 1,k => psum as bs i k + (if i ≤ k then as.getD i 0 * bs.getD (k - i) 0 else 0)
theorem getD_out {ns:List Int} {k:Nat} (h:ns.length ≤ k):ns.getD k 0 = 0:=by
 rw [List.getD_eq_getElem?_getD,List.getElem?_eq_none h]; rfl
theorem psum_out (as bs:List Int) (k:Nat):∀ i,i + bs.length ≤ k + 1 → psum as bs i k = 0
 | 0,_ => rfl
 | i + 1,h => by
  show psum as bs i k + (if i ≤ k then as.getD i 0 * bs.getD (k - i) 0 else 0) = 0
  rw [psum_out as bs k i (by lia),getD_out (ns:=bs) (by lia),Int.mul_zero]
  split <;> rfl
theorem psum_nil (bs:List Int) (k:Nat):∀ i,psum [] bs i k = 0
 | 0 => rfl
 | i + 1 => by
  show psum [] bs i k + (if i ≤ k then ([]:List Int).getD i 0 * bs.getD (k - i) 0 else 0) = 0
  rw [psum_nil bs k i,getD_out (ns:=[]) (Nat.zero_le _),Int.zero_mul]
  split <;> rfl
noncomputable def prodL (as bs:List Int):List Int:=(rngI 0 (as.length + bs.length - 1)).map fun k => psum as bs as.length k.toNat
theorem prodL_len (as bs:List Int):(prodL as bs).length = as.length + bs.length - 1:=by unfold prodL rngI; rw [List.length_map,List.length_map,List.length_range]
theorem list_by {R:List Int} {n:Nat} {f:Nat → Int} (hl:R.length = n) (h:∀ k,k < n → R.getD k 0 = f k):R = (rngI 0 n).map fun k => f k.toNat:=by
 refine List.ext_getElem? fun j => ?_
 unfold rngI
 rw [List.map_map,List.getElem?_map]
 by_cases hj:j < n
 ·rw [List.getElem?_range hj,List.getElem?_eq_getElem (by lia)]
  have:=h j hj
  rw [List.getD_eq_getElem?_getD,List.getElem?_eq_getElem (by lia)] at this
  show some _ = some (f (0 + (j:Int)).toNat)
  rw [show (0 + (j:Int)).toNat = j by lia,← this]; rfl
 ·rw [List.getElem?_eq_none (by lia),List.getElem?_eq_none (by rw [List.length_range]; lia)]; rfl
theorem set_getD {R:List Int} {k:Nat} {v:Int} (hk:k < R.length) (j:Nat):(R.set k v).getD j 0 = if j = k then v else R.getD j 0:=by
 rw [List.getD_eq_getElem?_getD,List.getD_eq_getElem?_getD]
 by_cases h:j = k
 ·subst h; rw [List.getElem?_set_self hk,if_pos rfl]; rfl
 ·rw [List.getElem?_set_ne (fun z => h z.symm),if_neg h]
theorem atI_int {R:List Int} {i:Int} {k:Nat} (hi:i = (k:Int)) (hk:k < R.length):L2.atI (R.map Val.int) i = some (.int (R.getD k 0)):=by
 subst hi
 have:=at_getD (ns:=R) (i:=(k:Int)) (by lia) (by lia)
 rw [Int.toNat_natCast] at this; exact this
noncomputable abbrev inB:MB:=sAugI iadV (mVar 3) (mBin addV (mVar 4) (mVar 6)) (mBin mulV (mVar 5) (mVar 7))
theorem prod_inner {p:Int} {n m L:Nat} {bs R0:List Int} {i:Nat} {a:Int} {s:Store} {x6 x7:Option Val} (hm:itemsOf (s ++ [.lst (R0.map Val.int)]) m = some (bs.map Val.int)) (hms:m < s.length) (hL:L = s.length)
  (ha:-(2 ^ 64) < a ∧ a < 2 ^ 64) (hl:i + bs.length ≤ R0.length) :
  ∃ (R:List Int) (x6' x7':Option Val),forL (fun st2 => itemsOf st2 m = some (bs.map Val.int)) (aTup [aName 6,aName 7]) inB (enumL 0 (bs.map Val.int)) [some (.int p),some (.loc n),some (.loc m),some (.loc L),some (.int i),some (.int a),x6,x7] (s ++ [.lst (R0.map Val.int)])
   = .nx [some (.int p),some (.loc n),some (.loc m),some (.loc L),some (.int i),some (.int a),x6',x7'] (s ++ [.lst (R.map Val.int)]) ∧ R.length = R0.length ∧ ∀ k,R.getD k 0 = R0.getD k 0 + (if i ≤ k then a * bs.getD (k - i) 0 else 0):=by
 refine bcn fun hNO => ?_
 subst hL
 have hmm:∀ R:List Int,itemsOf (s ++ [.lst (R.map Val.int)]) m = some (bs.map Val.int):=fun R => by
  have h:=hm
  unfold itemsOf at h ⊢
  rw [List.getElem?_append_left hms] at h ⊢
  exact h
 obtain ⟨μ',st',e,R,rfl,⟨y6,y7,rfl⟩,hR,hv⟩:=forL_inv (g:=fun st2 => itemsOf st2 m = some (bs.map Val.int)) (a:=aTup [aName 6,aName 7]) (body:=inB)
  (fun j μ s' => ∃ R:List Int,s' = s ++ [.lst (R.map Val.int)] ∧ (∃ x6 x7,μ = [some (.int p),some (.loc n),some (.loc m),some (.loc s.length),some (.int i),some (.int a),x6,x7]) ∧ R.length = R0.length ∧ ∀ k,R.getD k 0 = R0.getD k 0 + (if i ≤ k ∧ k < i + j then a * bs.getD (k - i) 0 else 0))
  (enumL 0 (bs.map Val.int)) 0 [some (.int p),some (.loc n),some (.loc m),some (.loc s.length),some (.int i),some (.int a),x6,x7] (s ++ [.lst (R0.map Val.int)])
  (by
   rintro j u μ s' hu ⟨R,rfl,⟨x6,x7,rfl⟩,hR,hv⟩
   rw [Nat.zero_add] at hv ⊢
   refine ⟨hmm R,?_⟩
   obtain ⟨w,hw,rfl⟩:=enumL_at _ 0 j u hu
   rw [Nat.zero_add]
   have hj:j < bs.length:=by have:=getL_lt hw; rw [len_ints] at this; exact this
   have ew:w = .int (bs.getD j 0):=by
    rw [List.getElem?_map,List.getElem?_eq_getElem hj] at hw
    rw [← Option.some.inj hw,List.getD_eq_getElem?_getD,List.getElem?_eq_getElem hj]; rfl
   subst ew
   have hk:i + j < R.length:=by lia
   have gx:=ixL_ok (it_of (la_new s (R.map Val.int))) (atI_int (R:=R) (i:=(i:Int) + (j:Int)) (k:=i + j) (by lia) hk)
   have sx:=setF_ok (v:=.int (R.getD (i + j) 0 + a * bs.getD j 0)) (k:=(i:Int) + (j:Int)) (j:=i + j) (la_new s (R.map Val.int)) (by rw [len_ints]; have:=ixN_nat hk; rw [show (i:Int) + (j:Int) = ((i + j:Nat):Int) by lia]; exact this)
   rw [set_last,← List.map_set] at sx
   refine ⟨[some (.int p),some (.loc n),some (.loc m),some (.loc s.length),some (.int i),some (.int a),some (.int j),some (.int (bs.getD j 0))],rfl,[some (.int p),some (.loc n),some (.loc m),some (.loc s.length),some (.int i),some (.int a),some (.int j),some (.int (bs.getD j 0))],s ++ [.lst ((R.set (i + j) (R.getD (i + j) 0 + a * bs.getD j 0)).map Val.int)],.inl ?_,R.set (i + j) (R.getD (i + j) 0 + a * bs.getD j 0),rfl,⟨_,_,rfl⟩,by rw [List.length_set]; exact hR,fun k => ?_⟩
   ·simp only [bnd_ok,sbn_ok,ev_bin,k_bin,k_bin2,add_ii,var_i,var_l,var_s,nxO_some,ev_augi,k_ai,k_ai2,k_ai3,k_ai4,k_ai5,iad_ii,gx,mul_l (i:=a) ha.1 ha.2,sx]
   ·rw [set_getD hk]
    by_cases hkj:k = i + j
    ·subst hkj
     rw [if_pos rfl,hv,if_neg (by lia),if_pos (by lia),show i + j - i = j by lia]; lia
    ·rw [if_neg hkj,hv]
     congr 1
     by_cases h1:i ≤ k ∧ k < i + j
     ·rw [if_pos h1,if_pos (by lia)]
     ·rw [if_neg h1,if_neg (by lia)])
  (fun μ s' ⟨R,hs,_⟩ => by rw [hs]; exact hmm R)
  ⟨R0,rfl,⟨_,_,rfl⟩,rfl,fun k => by rw [if_neg (by lia),Int.add_zero]⟩
 refine hNO ?_; clear hNO
 refine ⟨R,y6,y7,e,hR,fun k => ?_⟩
 rw [hv,Nat.zero_add,enumL_len,len_ints]
 congr 1
 by_cases h1:i ≤ k
 ·by_cases h2:k < i + bs.length
  ·rw [if_pos ⟨h1,h2⟩,if_pos h1]
  ·rw [if_neg (by lia),if_pos h1,getD_out (by lia),Int.mul_zero]
 ·rw [if_neg (by lia),if_neg h1]
theorem row_product_ok {p:Int} (hp:¬ p = 0) {n m:Nat} {as bs:List Int} {st:Store} (h1:itemsOf st n = some (as.map Val.int)) (h2:itemsOf st m = some (bs.map Val.int)) (hl1:as.length ≤ 100000) (hl2:bs.length ≤ 100000) (ha:∀ a ∈ as,-(2 ^ 64) < a ∧ a < 2 ^ 64) :
  ∃ g k,PM.row_product [.int p,.loc n,.loc m] st = .ok (.loc k) (st ++ g) ∧ st.length ≤ k ∧ (st ++ g)[k]? = some (.lst ((if as = [] ∨ bs = [] then [] else cutZ ((prodL as bs).map (·.fmod p))).map Val.int)):=by
 by_cases hea:as = []
 ·subst hea
  refine ⟨[.lst []],st.length,?_,Nat.le_refl _,?_⟩
  ·have z:((([]:List Int).length:Int) == 0) = true:=rfl
   simp only [PM.row_product,ev_fn,bnd_ok,ev_bin,k_bin,k_bin2,k_cons,k_cons2,ev_C,asB_bl,ev_asT,ev_tor,ev_nil,ev_cons,ev_call,ev_seq,ev_ifS,eq_ii,var_l,var_s,List.map_cons,List.map_nil,List.cons_append,List.nil_append,List.replicate_succ,List.replicate_zero,Nat.reduceSub,List.length_cons,List.length_nil,Nat.reduceAdd,len_loc h1,len_ints,z]
   rfl
  ·rw [if_pos (.inl rfl)]; exact la_new st []
 have ha0:0 < as.length:=by
  rcases Nat.eq_zero_or_pos as.length with z | z
  ·exact absurd (List.eq_nil_of_length_eq_zero z) hea
  ·exact z
 have za:((as.length:Int) == 0) = false:=by simp; lia
 by_cases heb:bs = []
 ·subst heb
  refine ⟨[.lst []],st.length,?_,Nat.le_refl _,?_⟩
  ·have z:((([]:List Int).length:Int) == 0) = true:=rfl
   simp only [PM.row_product,ev_fn,bnd_ok,sbn_ok,ev_bin,k_bin,k_bin2,k_tor_f,k_cons,k_cons2,ev_C,asB_bl,ev_asT,ev_tor,ev_nil,ev_cons,ev_call,ev_seq,ev_ifS,eq_ii,var_l,var_s,List.map_cons,List.map_nil,List.cons_append,List.nil_append,List.replicate_succ,List.replicate_zero,Nat.reduceSub,List.length_cons,List.length_nil,Nat.reduceAdd,len_loc h1,len_loc h2,len_ints,za,z]
   rfl
  ·rw [if_pos (.inr rfl)]; exact la_new st []
 have hb0:0 < bs.length:=by
  rcases Nat.eq_zero_or_pos bs.length with z | z
  ·exact absurd (List.eq_nil_of_length_eq_zero z) heb
  ·exact z
 have zb:((bs.length:Int) == 0) = false:=by simp; lia
 rw [if_neg (by rintro (z | z); exact hea z; exact heb z)]
 have m1:=mul_li (st:=st ++ [.lst [.int 0]]) (n:=st.length) (us:=[.int 0]) (k:=(as.length:Int) + (bs.length:Int) - 1) (la_new _ _) (by lia) (by lia) (by rw [sizeLine_eq]; simp; lia)
 rw [reps0,show ((as.length:Int) + (bs.length:Int) - 1).toNat = as.length + bs.length - 1 by lia] at m1
 have h1':=itemsOf_old h1 [.lst [.int 0]]
 have h2':=itemsOf_old h2 [.lst [.int 0]]
 have q1:=it_lt h1'
 have q2:=it_lt h2'
 have hst:st ++ [Cell.lst [.int 0]] = st ++ [Cell.lst [.int 0]]:=rfl
 revert m1 h1' h2' q1 q2
 generalize hs:st ++ [Cell.lst [.int 0]] = s
 intro m1 h1' h2' q1 q2
 have k1:=len_loc (itemsOf_old h1 [.lst [.int 0]])
 have k2:=len_loc (itemsOf_old h2 [.lst [.int 0]])
 rw [hs] at k1 k2
 obtain ⟨μ',st',e,R,rfl,⟨y4,y5,y6,y7,rfl⟩,hR,hv⟩:=forL_inv (g:=fun st2 => itemsOf st2 n = some (as.map Val.int)) (a:=aTup [aName 4,aName 5]) (body:=sFor (iEnumM (mCons (mVar 2) mNil)) (aTup [aName 6,aName 7]) inB)
  (fun i μ s' => ∃ R:List Int,s' = s ++ [.lst (R.map Val.int)] ∧ (∃ x4 x5 x6 x7,μ = [some (.int p),some (.loc n),some (.loc m),some (.loc s.length),x4,x5,x6,x7]) ∧ R.length = as.length + bs.length - 1 ∧ ∀ k,R.getD k 0 = psum as bs i k)
  (enumL 0 (as.map Val.int)) 0 [some (.int p),some (.loc n),some (.loc m),some (.loc s.length),none,none,none,none] (s ++ [.lst ((List.replicate (as.length + bs.length - 1) (0:Int)).map Val.int)])
  (by
   rintro i u μ s' hu ⟨R,rfl,⟨x4,x5,x6,x7,rfl⟩,hR,hv⟩
   rw [Nat.zero_add] at hv ⊢
   refine ⟨itemsOf_old h1' _,?_⟩
   refine bcn fun hNO => ?_
   obtain ⟨w,hw,rfl⟩:=enumL_at _ 0 i u hu
   refine hNO ?_; clear hNO
   rw [Nat.zero_add]
   have hi:i < as.length:=by have:=getL_lt hw; rw [len_ints] at this; exact this
   have ew:w = .int (as.getD i 0):=by
    rw [List.getElem?_map,List.getElem?_eq_getElem hi] at hw
    rw [← Option.some.inj hw,List.getD_eq_getElem?_getD,List.getElem?_eq_getElem hi]; rfl
   subst ew
   have hai:as.getD i 0 ∈ as:=by rw [List.getD_eq_getElem?_getD,List.getElem?_eq_getElem hi]; exact List.getElem_mem hi
   refine bcn fun hNO => ?_
   obtain ⟨R',z6,z7,e',hR',hv'⟩:=prod_inner (p:=p) (n:=n) (m:=m) (L:=s.length) (bs:=bs) (R0:=R) (i:=i) (a:=as.getD i 0) (s:=s) (x6:=x6) (x7:=x7) (itemsOf_old h2' _) q2 rfl (ha _ hai) (by lia)
   refine hNO ?_; clear hNO
   refine ⟨[some (.int p),some (.loc n),some (.loc m),some (.loc s.length),some (.int i),some (.int (as.getD i 0)),x6,x7],rfl,[some (.int p),some (.loc n),some (.loc m),some (.loc s.length),some (.int i),some (.int (as.getD i 0)),z6,z7],s ++ [.lst (R'.map Val.int)],.inl ?_,R',rfl,⟨_,_,_,_,rfl⟩,by lia,fun k => ?_⟩
   ·simp only [bnd_ok,sbn_ok,k_cons,k_cons2,k_for,ev_nil,ev_cons,ev_for,var_l,var_s,ev_enum,enu_ok (itemsOf_old h2' [.lst (R.map Val.int)]),e']
   ·rw [hv',hv]; rfl)
  (fun μ s' ⟨R,hs',_⟩ => by rw [hs']; exact itemsOf_old h1' _)
  ⟨List.replicate (as.length + bs.length - 1) 0,rfl,⟨_,_,_,_,rfl⟩,List.length_replicate,fun k => by
   rw [List.getD_eq_getElem?_getD,List.getElem?_replicate]; split <;> rfl⟩
 rw [Nat.zero_add,enumL_len,len_ints] at hv
 have hRe:R = prodL as bs:=list_by hR fun k _ => hv k
 subst hRe
 have rr:=row_of_rests_ok hp (st:=s ++ [.lst ((prodL as bs).map Val.int)]) (itemsOf_new s _) (by rw [prodL_len,sizeLine_eq]; lia)
 refine ⟨[.lst [.int 0]] ++ [.lst ((prodL as bs).map Val.int)] ++ [.lst ((cutZ ((prodL as bs).map (·.fmod p))).map Val.int)],(s ++ [Cell.lst ((prodL as bs).map Val.int)]).length,?_,by rw [← hs]; simp only [List.length_append]; lia,?_⟩
 ·rw [show st ++ ([Cell.lst [.int 0]] ++ [.lst ((prodL as bs).map Val.int)] ++ [.lst ((cutZ ((prodL as bs).map (·.fmod p))).map Val.int)]) = s ++ [Cell.lst ((prodL as bs).map Val.int)] ++ [.lst ((cutZ ((prodL as bs).map (·.fmod p))).map Val.int)] from by rw [← hs]; simp only [List.append_assoc]]
  simp only [PM.row_product,ev_fn,bnd_ok,sbn_ok,thn_nx,fin_rt,ev_bin,k_bin,k_bin2,k_tor_f,k_cons,k_cons2,k_lst,k_ret,k_if_f,k_set,k_for,ev_C,asB_bl,ev_asT,ev_tor,ev_nil,ev_cons,ev_lst,ev_call,ev_seq,ev_next,ev_ret,ev_ifS,ev_set,ev_for,add_ii,sub_ii,eq_ii,var_i,var_l,var_s,List.map_cons,List.map_nil,List.cons_append,List.nil_append,List.replicate_succ,List.replicate_zero,List.set_cons_zero,List.set_cons_succ,Nat.reduceSub,List.length_cons,List.length_nil,Nat.reduceAdd,sizeLine_eq,Nat.reduceLeDiff,↓reduceIte,ev_enum,len_loc h1,len_loc h2,len_ints,za,zb,hs,k1,k2,m1,enu_ok (itemsOf_old h1' _),e,rr]
 ·rw [show st ++ ([Cell.lst [.int 0]] ++ [.lst ((prodL as bs).map Val.int)] ++ [.lst ((cutZ ((prodL as bs).map (·.fmod p))).map Val.int)]) = s ++ [Cell.lst ((prodL as bs).map Val.int)] ++ [.lst ((cutZ ((prodL as bs).map (·.fmod p))).map Val.int)] from by rw [← hs]; simp only [List.append_assoc]]
  exact la_new _ _
theorem row_multiple_ok {p f:Int} (hp:¬ p = 0) {n:Nat} {as:List Int} {st:Store} (h:itemsOf st n = some (as.map Val.int)) (hl:as.length ≤ 100000) (ha:∀ a ∈ as,-(2 ^ 64) < a ∧ a < 2 ^ 64) :
  ∃ g k,PM.row_multiple [.int p,.loc n,.int f] st = .ok (.loc k) (st ++ g) ∧ st.length ≤ k ∧ (st ++ g)[k]? = some (.lst ((cutZ ((as.map (· * f)).map (·.fmod p))).map Val.int)):=by
 have hc:=compL_ints (g:=fun st' => itemsOf st' n = some (as.map Val.int)) (a:=aName 0) (e:=mBin mulV (mVar 0) (mVar 1)) (st:=st) h (fun τ => ∃ z,τ = [z,some (.int f)]) (fun i => .int (i * f)) as [none,some (.int f)] [] ⟨_,rfl⟩ (by
  rintro i hi τ ⟨z,rfl⟩
  exact ⟨_,rfl,⟨_,rfl⟩,by simp only [bnd_ok,ev_bin,k_bin,k_bin2,var_i,var_s,List.set_cons_zero,mul_l (i:=i) (ha i hi).1 (ha i hi).2]⟩)
 rw [List.nil_append,show (as.map fun i => Val.int (i * f)) = (as.map (· * f)).map Val.int from by rw [List.map_map]; rfl] at hc
 have hcap:capM 1 [2] [some (Val.int p),some (Val.loc n),some (.int f)] = [none,some (.int f)]:=rfl
 have hz:(as.map Val.int).length ≤ sizeLine:=by rw [len_ints,sizeLine_eq]; lia
 rw [sizeLine_eq] at hz
 have rr:=row_of_rests_ok hp (st:=st ++ [.lst ((as.map (· * f)).map Val.int)]) (itemsOf_new st _) (by rw [List.length_map,sizeLine_eq]; lia)
 refine ⟨[.lst ((as.map (· * f)).map Val.int)] ++ [.lst ((cutZ ((as.map (· * f)).map (·.fmod p))).map Val.int)],(st ++ [Cell.lst ((as.map (· * f)).map Val.int)]).length,?_,by simp only [List.length_append]; lia,?_⟩
 ·rw [← List.append_assoc]
  simp only [PM.row_multiple,ev_fn,bnd_ok,sbn_ok,fin_rt,k_cons,k_cons2,k_ret,k_new,k_comp,ev_nil,ev_cons,ev_call,ev_ret,ev_comp,ev_iseq,var_i,var_l,var_s,List.map_cons,List.map_nil,List.cons_append,List.nil_append,List.replicate_zero,Nat.reduceSub,List.length_cons,List.length_nil,Nat.reduceAdd,sizeLine_eq,walkK_loc h,hcap,hc,if_pos hz,rr]
 ·rw [← List.append_assoc]; exact la_new _ _
end PG
namespace PG
open PySem PySem.Spec L2 MN
open PyProof.Rows hiding St kindOf
theorem take_snoc {ns:List Int} {k:Nat} (h:k < ns.length):ns.take (k + 1) = ns.take k ++ [ns.getD k 0]:=by
 rw [List.take_succ,List.getElem?_eq_getElem h,List.getD_eq_getElem?_getD,List.getElem?_eq_getElem h]; rfl
theorem cutI_take {ns:List Int} {k:Nat} (h:k ≤ ns.length):cutI ns none (some (k:Int)) = ns.take k:=by
 unfold cutI
 rw [HT.sIx_none,HT.sIx_nat,List.drop_zero,show min k ns.length - 0 = k by lia]
noncomputable abbrev lcT:MT:=tAndM (asT (mBin gtV (mVar 1) (mC (.int 0)))) (asT (mBin eqM (mBin ixV (mVar 0) (mBin subV (mVar 1) (mC (.int 1)))) (mC (.int 0))))
noncomputable abbrev lcB:MB:=sSet 1 (mBin subV (mVar 1) (mC (.int 1)))
theorem law_cut_ok {n:Nat} {ns:List Int} {st:Store} (h:itemsOf st n = some (ns.map Val.int)):PM.law_cut [.loc n] st = .ok (.loc st.length) (st ++ [.lst ((cutZ ns).map Val.int)]):=by
 refine bcn fun hNO => ?_
 obtain ⟨μ',st',e,rfl,k,hk,rfl,hc⟩:=sWhile_inv (t:=lcT) (body:=lcB)
  (fun μ s => s = st ∧ ∃ k:Nat,k ≤ ns.length ∧ μ = [some (.loc n),some (.int k)] ∧ cutZ (ns.take k) = cutZ ns) (fun μ _ => msr1d μ)
  (fun μ s => s = st ∧ ∃ k:Nat,k ≤ ns.length ∧ μ = [some (.loc n),some (.int k)] ∧ ns.take k = cutZ ns)
  (by
   rintro μ s ⟨rfl,k,hk,rfl,hc⟩
   cases k with
   | zero =>
    have z:decide ((0:Int) < ((0:Nat):Int)) = false:=rfl
    refine .inl ⟨s,?_,rfl,0,hk,rfl,?_⟩
    ·simp only [bnd_ok,ev_bin,k_bin,k_bin2,k_tand_f,ev_C,asB_bl,ev_asT,ev_tand,gt_ii,var_i,var_s,z]
    ·rw [List.take_zero] at hc ⊢; exact hc
   | succ k =>
    have z:decide ((0:Int) < ((k + 1:Nat):Int)) = true:=decide_eq_true (by lia)
    have hx:=ix_loc (i:=((k + 1:Nat):Int) - 1) h (atI_int (R:=ns) (k:=k) (by lia) (by lia))
    rw [take_snoc (by lia)] at hc
    have tst:lcT [some (.loc n),some (.int ((k + 1:Nat):Int))] s = .ok (ns.getD k 0 == 0) s:=by simp only [bnd_ok,ev_bin,k_bin,k_bin2,k_tand_t,ev_C,asB_bl,ev_asT,ev_tand,sub_ii,gt_ii,eq_ii,var_i,var_l,var_s,z,hx]
    cases hz:ns.getD k 0 == 0 with
    | true =>
     rw [hz] at tst
     have:ns.getD k 0 = 0:=by simpa using hz
     rw [this,cutZ_snoc0] at hc
     refine .inr ⟨s,[some (.loc n),some (.int (k:Int))],s,tst,.inl ?_,⟨rfl,k,by lia,rfl,hc⟩,?_⟩
     ·simp only [bnd_ok,sbn_ok,ev_bin,k_bin,k_bin2,k_set,ev_C,ev_set,sub_ii,var_i,var_s,List.set_cons_zero,List.set_cons_succ]
      rw [show ((k + 1:Nat):Int) - 1 = (k:Int) by lia]
     ·show ((k:Int)).toNat < (((k + 1:Nat):Int)).toNat
      lia
    | false =>
     rw [hz] at tst
     rw [cutZ_snoc hz] at hc
     exact .inl ⟨s,tst,rfl,k + 1,hk,rfl,by rw [take_snoc (by lia)]; exact hc⟩)
  [some (.loc n),some (.int ns.length)] st ⟨rfl,ns.length,Nat.le_refl _,rfl,by rw [List.take_length]⟩
 have sl:=sl_loc (l:=none) (h:=some (k:Int)) h
 rw [cutL_ints,cutI_take hk,hc] at sl
 refine hNO ?_; clear hNO
 simp only [PM.law_cut,ev_fn,bnd_ok,sbn_ok,thn_nx,fin_rt,k_cons,k_cons2,k_ret,k_set,ev_nil,ev_cons,ev_call,ev_seq,ev_ret,ev_set,var_i,var_l,var_s,List.map_cons,List.map_nil,List.cons_append,List.nil_append,List.replicate_succ,List.replicate_zero,List.set_cons_zero,List.set_cons_succ,Nat.reduceSub,List.length_cons,List.length_nil,Nat.reduceAdd,ev_sl,k_sl,k_sl2,k_sl3,ev_onone,ev_osome,kO_i,len_loc h,len_ints,e,sl]
noncomputable def Sm (ns:List Int):Prop:=∀ n ∈ ns,-(2 ^ 64) < n ∧ n < 2 ^ 64
theorem law_drawn_ok {p:Int} (hp:prB p = true) (c:Int) {z:Int} (z0:0 ≤ z) (z1:z ≤ 1000) (st:Store) :
  ∃ g k D,PM.law_drawn [.int p,.int c,.int z] st = .ok (.loc k) (st ++ g) ∧ st.length ≤ k ∧ (st ++ g)[k]? = some (.lst (D.map Val.int)) ∧ D.length ≤ 1000 ∧ (∀ d ∈ D,0 ≤ d ∧ d < p) ∧ Cut D:=by
 refine bcn fun hNO => ?_
 have hr:=prB_range hp
 have hrg:=rng1_ok (st:=st ++ [.lst []]) (j:=z) (by lia) (by lia)
 obtain ⟨μ',st',e,R,rfl,⟨y4,y5,rfl⟩,hR,hb⟩:=forL_inv (g:=fun _ => True) (a:=aName 4) (body:=sSeq (sSet 5 (mBin modV (mBin addV (mVar 1) (mBin mulV (mC (.int 7919)) (mVar 4))) (mC (.int 2147483647)))) (sSeq (sSet 5 (mBin modV (mBin mulV (mBin modV (mBin mulV (mVar 5) (mVar 5)) (mC (.int 2147483629))) (mC (.int 48271))) (mC (.int 2147483647)))) (sExpr (mMtL appendF (mVar 3) (mCons (mBin modV (mBin fdivV (mVar 5) (mBin addV (mC (.int 1)) (mVar 4))) (mVar 0)) mNil)))))
  (fun i μ s' => ∃ R:List Int,s' = st ++ [.lst (R.map Val.int)] ∧ (∃ x4 x5,μ = [some (.int p),some (.int c),some (.int z),some (.loc st.length),x4,x5]) ∧ R.length = i ∧ ∀ d ∈ R,0 ≤ d ∧ d < p)
  (rangeL 0 z.toNat) 0 [some (.int p),some (.int c),some (.int z),some (.loc st.length),none,none] (st ++ [.lst []])
  (by
   rintro i u μ s' hu ⟨R,rfl,⟨x4,x5,rfl⟩,hR,hb⟩
   rw [Nat.zero_add] at hR ⊢
   refine ⟨trivial,?_⟩
   rw [rangeL_ints] at hu
   obtain ⟨k,hk,rfl⟩:=List.mem_map.mp (List.mem_of_getElem? hu)
   have hm:=mem_rngI hk
   have hi:i < z.toNat:=by have:=getL_lt hu; rw [List.length_map] at this; unfold rngI at this; rw [List.length_map,List.length_range] at this; exact this
   have dk:Dz (1 + k):=dz_c (by lia) (by lia)
   have q1:=fmodc (m:=2147483647) (by decide) (c + 7919 * k)
   generalize hx:(c + 7919 * k).fmod 2147483647 = x at q1
   have q2:=fmodc (m:=2147483629) (by decide) (x * x)
   generalize hy:((x * x).fmod 2147483629 * 48271).fmod 2147483647 = y
   have q3:=fmodc (m:=p) (by lia) (y.fdiv (1 + k))
   have ap:=append_ok (v:=.int ((y.fdiv (1 + k)).fmod p)) (la_new st (R.map Val.int)) (by rw [len_ints,sizeLine_eq]; lia)
   rw [set_last,show R.map Val.int ++ [.int ((y.fdiv (1 + k)).fmod p)] = (R ++ [(y.fdiv (1 + k)).fmod p]).map Val.int from by simp] at ap
   refine ⟨[some (.int p),some (.int c),some (.int z),some (.loc st.length),some (.int k),x5],rfl,[some (.int p),some (.int c),some (.int z),some (.loc st.length),some (.int k),some (.int y)],st ++ [.lst ((R ++ [(y.fdiv (1 + k)).fmod p]).map Val.int)],.inl ?_,R ++ [(y.fdiv (1 + k)).fmod p],rfl,⟨_,_,rfl⟩,by rw [List.length_append,hR]; rfl,fun d hd => ?_⟩
   ·simp only [bnd_ok,sbn_ok,thn_nx,ev_bin,k_bin,k_bin2,k_cons,k_cons2,k_expr,k_set,ev_C,ev_nil,ev_cons,ev_seq,ev_expr,ev_set,add_ii,var_i,var_l,var_s,List.set_cons_zero,List.set_cons_succ,ev_mtL,k_mt2,mul_l (i:=7919) (by decide) (by decide),mod_ii (j:=2147483647) (by decide),hx,mul_l (i:=x) (by lia) (by lia),mod_ii (j:=2147483629) (by decide),mul_r (j:=48271) (by decide) (by decide),hy,k_mtL (la_new st (R.map Val.int)),div_ii dk,mod_ii (prB_ne hp),ap]
   ·rcases List.mem_append.mp hd with hd | hd
    ·exact hb d hd
    ·rw [List.mem_singleton.mp hd]; exact q3)
  (fun _ _ _ => trivial) ⟨[],rfl,⟨_,_,rfl⟩,rfl,fun d hd => by cases hd⟩
 have lc:=law_cut_ok (it_of (la_new st (R.map Val.int)))
 have hR':R.length ≤ 1000:=by
  rw [hR]; unfold rangeL; rw [List.length_map,List.length_range]; lia
 refine hNO ?_; clear hNO
 refine ⟨[.lst (R.map Val.int)] ++ [.lst ((cutZ R).map Val.int)],(st ++ [Cell.lst (R.map Val.int)]).length,cutZ R,?_,by simp only [List.length_append]; lia,by rw [← List.append_assoc]; exact la_new _ _,Nat.le_trans (cut_len R) hR',cut_all hb,cut_cut R⟩
 rw [← List.append_assoc]
 simp only [PM.law_drawn,ev_fn,bnd_ok,sbn_ok,thn_nx,fin_rt,k_cons,k_cons2,k_lst,k_ret,k_set,k_for,ev_nil,ev_cons,ev_lst,ev_call,ev_seq,ev_ret,ev_set,ev_for,ev_rng1,var_i,var_l,var_s,List.map_cons,List.map_nil,List.cons_append,List.nil_append,List.replicate_succ,List.replicate_zero,List.set_cons_zero,List.set_cons_succ,Nat.reduceSub,List.length_cons,List.length_nil,Nat.reduceAdd,sizeLine_eq,Nat.reduceLeDiff,↓reduceIte,hrg,e,lc]
theorem compL_one {g:Store → Prop} {a:AS} {e:ME} {u y:Val} {us:List Val} {τ τ1:MN.Env} {st st1:Store} {ys:List Val} (hg:g st) (h1:a u τ = some τ1) (h2:e τ1 st = .ok y st1):compL g a tTrueM e (u :: us) τ st ys = compL g a tTrueM e us τ1 st1 (ys ++ [y]):=by
 rw [compL]
 rw [if_pos hg,h1]
 dsimp only [tTrueM]
 rw [h2]
theorem compL_end {g:Store → Prop} {a:AS} {c:MT} {e:ME} {τ:MN.Env} {st:Store} {ys:List Val} (hg:g st):compL g a c e [] τ st ys = .ok ys st:=by
 rw [compL,if_pos hg]
end PG
namespace PG
open PySem PySem.Spec L2 MN
open PyProof.Rows hiding St kindOf
noncomputable abbrev rowC (R:List Int):Cell:=.lst (R.map Val.int)
noncomputable def RowsAt (s:Store) (ls:List Nat) (Rs:List (List Int)):Prop:=ls.length = Rs.length ∧ ∀ (i l:Nat) (R:List Int),ls[i]? = some l → Rs[i]? = some R → s[l]? = some (rowC R)
theorem RowsAt.old {s:Store} {ls:List Nat} {Rs:List (List Int)} (h:RowsAt s ls Rs) (g:Store):RowsAt (s ++ g) ls Rs:=⟨h.1,fun i l R h1 h2 => la_old (h.2 i l R h1 h2) g⟩
theorem RowsAt.tail {s:Store} {l:Nat} {ls:List Nat} {R:List Int} {Rs:List (List Int)} (h:RowsAt s (l :: ls) (R :: Rs)):RowsAt s ls Rs:=⟨by have:=h.1; simpa using this,fun i l' R' h1 h2 => h.2 (i + 1) l' R' h1 h2⟩
theorem own_comp {n:Nat}:∀ (ls:List Nat) (Rs:List (List Int)) (st:Store) (us:List Val) (τ:MN.Env) (ys:List Val),RowsAt st ls Rs → itemsOf st n = some us → τ.length = 1 →
  compL (fun st' => itemsOf st' n = some us) (aName 0) tTrueM (mCall lstF (mCons (mVar 0) mNil)) (ls.map Val.loc) τ st ys = .ok (ys ++ (List.range ls.length).map fun i => Val.loc (st.length + i)) (st ++ Rs.map rowC)
 | [],Rs,st,us,τ,ys,h,hn,_ => by
  have:Rs = []:=List.eq_nil_of_length_eq_zero h.1.symm
  subst this
  rw [List.map_nil,compL_end hn]; simp
 | l :: ls,[],st,us,τ,ys,h,hn,_ => by have:=h.1; simp at this
 | l :: ls,R :: Rs,st,us,[x],ys,h,hn,_ => by
  have hl:=h.2 0 l R rfl rfl
  have e:mCall lstF (mCons (mVar 0) mNil) [some (.loc l)] st = .ok (.loc st.length) (st ++ [rowC R]):=by
   simp only [bnd_ok,k_cons,k_cons2,ev_nil,ev_cons,ev_call,var_l,lst_loc (it_of hl)]
  rw [List.map_cons,compL_one (τ1:=[some (.loc l)]) hn rfl e,own_comp ls Rs (st ++ [rowC R]) us [some (.loc l)] _ (h.tail.old _) (itemsOf_old hn _) rfl]
  congr 1
  ·rw [List.length_cons,List.range_succ_eq_map,List.map_cons,List.map_map,List.append_assoc]
   congr 1
   rw [List.singleton_append]
   congr 1
   refine List.map_congr_left fun i _ => ?_
   show Val.loc ((st ++ [rowC R]).length + i) = Val.loc (st.length + (i + 1))
   rw [List.length_append,List.length_singleton,show st.length + 1 + i = st.length + (i + 1) by lia]
  ·rw [List.map_cons,List.append_assoc,List.singleton_append]
theorem atI_locs {ls:List Nat} {j l:Nat} (h:ls[j]? = some l):L2.atI (ls.map Val.loc) (j:Int) = some (.loc l):=L2.atI_nat (by rw [List.getElem?_map,h]; rfl)
noncomputable def ext1 (i k:Nat) (R:List Int):List Int:=R ++ (if i < k then [1] else [])
noncomputable abbrev ownB:MB:=sIf (asT (mBin neM (mBin ixV (mVar 0) (mVar 3)) (mBin addV (mBin ixV (mVar 1) (mVar 3)) (mBin mulV (mLst (mCons (mC (.int 1)) mNil)) (mCall intF (mCons (mBin leV (mVar 3) (mVar 2)) mNil)))))) (sRet (mC (.bl false))) sNext
noncomputable abbrev ownF:MB:=sSeq (sExpr (mMtL appendF (mBin ixV (mVar 0) (mVar 2)) (mCons (mC (.int 1)) mNil))) (sFor (iRange1 (mCons (mCall lenF (mCons (mVar 0) mNil)) mNil)) (aName 3) ownB)
noncomputable def RowsX (s:Store) (ls:List Nat) (Rs:List (List Int)) (k:Nat):Prop:=∀ (i l:Nat) (R:List Int),ls[i]? = some l → Rs[i]? = some R → s[l]? = some (rowC (ext1 i k R))
theorem law_own_ok {n:Nat} {ls:List Nat} {Rs:List (List Int)} {st:Store} (hn:st[n]? = some (.lst (ls.map Val.loc))) (hr:RowsAt st ls Rs) (nd:ls.Nodup) (hnl:n ∉ ls) (hlen:ls.length ≤ 1000) (hRl:∀ R ∈ Rs,R.length ≤ 100000) :
  ∃ st',PM.law_own [.loc n] st = .ok (.bl true) st' ∧ st.length ≤ st'.length ∧ (∀ (i l:Nat) (R:List Int),ls[i]? = some l → Rs[i]? = some R → st'[l]? = some (rowC (R ++ [1]))) ∧ ∀ m c,m ∉ ls → st[m]? = some c → st'[m]? = some c:=by
 have hls:∀ l ∈ ls,l < st.length:=fun l hl => by
  obtain ⟨i,hi⟩:=List.mem_iff_getElem?.mp hl
  have hi':i < Rs.length:=by rw [← hr.1]; exact getL_lt hi
  exact getL_lt (hr.2 i l _ hi (List.getElem?_eq_getElem hi'))
 have hc:=own_comp (n:=n) ls Rs st (ls.map Val.loc) [none] [] hr (it_of hn) rfl
 rw [List.nil_append] at hc
 -- the store behind the copies
 generalize hk:(List.range ls.length).map (fun i => Val.loc (st.length + i)) = ks at hc
 have hkl:ks.length = ls.length:=by rw [← hk,List.length_map,List.length_range]
 have hkat:∀ j,j < ls.length → L2.atI ks (j:Int) = some (.loc (st.length + j)):=fun j hj => L2.atI_nat (by rw [← hk,List.getElem?_map,List.getElem?_range hj]; rfl)
 have hkc:∀ j R,Rs[j]? = some R → (st ++ Rs.map rowC)[st.length + j]? = some (rowC R):=fun j R h => by
  rw [List.getElem?_append_right (by lia),show st.length + j - st.length = j by lia,List.getElem?_map,h]; rfl
 have hn1:=la_old hn (Rs.map rowC)
 have hr1:=hr.old (Rs.map rowC)
 have hold:∀ m c,st[m]? = some c → (st ++ Rs.map rowC)[m]? = some c:=fun m c h => la_old h _
 have hlen1:(st ++ Rs.map rowC).length = st.length + ls.length:=by rw [List.length_append,List.length_map,hr.1]
 revert hc hkc hn1 hr1 hold hlen1
 generalize st ++ Rs.map rowC = s1
 intro hc hkc hn1 hr1 hold hlen1
 -- the cell of the copies
 have hs2:=la_new s1 ks
 have hn2:=la_old hn1 [.lst ks]
 have hr2:=hr1.old [.lst ks]
 have hkc2:∀ j R,Rs[j]? = some R → (s1 ++ [.lst ks])[st.length + j]? = some (rowC R):=fun j R h => la_old (hkc j R h) _
 have hold2:∀ m c,st[m]? = some c → (s1 ++ [.lst ks])[m]? = some c:=fun m c h => la_old (hold m c h) _
 have hlen2:st.length ≤ (s1 ++ [Cell.lst ks]).length:=by rw [List.length_append,hlen1]; lia
 obtain ⟨K,hK⟩:∃ K,s1.length = K:=⟨_,rfl⟩
 obtain ⟨s2,hs2e⟩:∃ s2,s1 ++ [Cell.lst ks] = s2:=⟨_,rfl⟩
 rw [hK,hs2e] at hs2
 rw [hs2e] at hn2 hr2 hlen2
 simp only [hs2e] at hkc2 hold2
 have hKn:K ∉ ls:=fun h => by have:=hls K h; lia
 -- the loops
 obtain ⟨LL,hLL⟩:∃ LL:Int,LL = (ls.length:Int):=⟨_,rfl⟩
 have rl:∀ s,rng1 [.int LL] s = .ok ((rngI 0 ls.length).map Val.int,fun _ => True) s:=fun s => by
  have:=rng1_ok (st:=s) (j:=LL) (by lia) (by lia)
  rw [rangeL_ints,show LL.toNat = ls.length by lia] at this; exact this
 have rat:∀ (j:Nat) (u:Val),((rngI 0 ls.length).map Val.int)[j]? = some u → j < ls.length ∧ u = .int (j:Int):=fun j u h => by
  unfold rngI at h
  rw [List.map_map,List.getElem?_map] at h
  by_cases hj:j < ls.length
  ·rw [List.getElem?_range hj] at h
   refine ⟨hj,?_⟩
   have:=Option.some.inj h
   rw [← this]
   show Val.int (0 + (j:Int)) = _
   rw [Int.zero_add]
  ·rw [List.getElem?_eq_none (l:=List.range _) (by rw [List.length_range]; lia)] at h; cases h
 have rlen:((rngI 0 ls.length).map Val.int).length = ls.length:=by rw [len_ints]; unfold rngI; rw [List.length_map,List.length_range]
 obtain ⟨μ',st',e,⟨y2,y3,rfl⟩,hX,hF,hL⟩:=forL_inv (g:=fun _ => True) (a:=aName 2) (body:=ownF)
  (fun k μ s => (∃ x2 x3,μ = [some (.loc n),some (.loc K),x2,x3]) ∧ RowsX s ls Rs k ∧ (∀ m c,m ∉ ls → s2[m]? = some c → s[m]? = some c) ∧ s2.length ≤ s.length)
  ((rngI 0 ls.length).map Val.int) 0 [some (.loc n),some (.loc K),none,none] s2
  (by
   rintro k u μ s hu ⟨⟨x2,x3,rfl⟩,hX,hF,hL⟩
   rw [Nat.zero_add] at hX ⊢
   refine ⟨trivial,?_⟩
   obtain ⟨hkl',rfl⟩:=rat k u hu
   have hlk:ls[k]? = some ls[k]:=List.getElem?_eq_getElem hkl'
   have hRk:Rs[k]? = some (Rs[k]'(by rw [← hr.1]; exact hkl')):=List.getElem?_eq_getElem (by rw [← hr.1]; exact hkl')
   generalize Rs[k]'(by rw [← hr.1]; exact hkl') = R at hRk
   have hcell:=hX k _ R hlk hRk
   have hRl':=hRl R (List.mem_of_getElem? hRk)
   have hns:=hF n _ hnl hn2
   have ixk:=ix_loc (it_of hns) (atI_locs hlk)
   have ek:ext1 k k R = R:=by unfold ext1; rw [if_neg (Nat.lt_irrefl k),List.append_nil]
   rw [ek] at hcell
   have ap:=append_ok (v:=.int 1) (show s[ls[k]]? = some (.lst (R.map Val.int)) from hcell) (by rw [len_ints,sizeLine_eq]; lia)
   rw [show R.map Val.int ++ [Val.int 1] = (R ++ [1]).map Val.int from by simp] at ap
   -- the store behind the append
   have hX1:RowsX (s.set ls[k] (.lst ((R ++ [1]).map Val.int))) ls Rs (k + 1):=by
    intro i l R' h1 h2
    by_cases hik:i = k
    ·subst hik
     rw [hlk] at h1
     cases h1
     rw [hRk] at h2
     cases h2
     rw [la_self hcell]
     unfold ext1
     rw [if_pos (Nat.lt_succ_self _)]
    ·have hne:ls[k] ≠ l:=fun z => hik (by
      have hi:=getL_lt h1
      rw [List.getElem?_eq_getElem hi] at h1
      exact (List.getElem_inj nd).mp ((Option.some.inj h1).trans z.symm))
     rw [la_ne (hX i l R' h1 h2) hne]
     unfold ext1
     by_cases hlt:i < k
     ·rw [if_pos hlt,if_pos (by lia)]
     ·rw [if_neg hlt,if_neg (by lia)]
   have hF1:∀ m c,m ∉ ls → s2[m]? = some c → (s.set ls[k] (.lst ((R ++ [1]).map Val.int)))[m]? = some c:=fun m c hm h => la_ne (hF m c hm h) (fun z => hm (by rw [← z]; exact List.getElem_mem hkl'))
   have hL1:s2.length ≤ (s.set ls[k] (.lst ((R ++ [1]).map Val.int))).length:=by rw [List.length_set]; exact hL
   have mt:=k_mtL (g:=appendF) (ms:=mCons (mC (.int 1)) mNil) (μ:=[some (.loc n),some (.loc K),some (.int (k:Int)),x3]) (show s[ls[k]]? = some (.lst (R.map Val.int)) from hcell)
   revert ap hX1 hF1 hL1
   generalize s.set ls[k] (.lst ((R ++ [1]).map Val.int)) = t
   intro ap hX1 hF1 hL1
   obtain ⟨μ2,st2,e2,⟨z3,rfl⟩,g,rfl⟩:=forL_inv (g:=fun _ => True) (a:=aName 3) (body:=ownB)
    (fun _ μ s' => (∃ x3,μ = [some (.loc n),some (.loc K),some (.int (k:Int)),x3]) ∧ ∃ g,s' = t ++ g)
    ((rngI 0 ls.length).map Val.int) 0 [some (.loc n),some (.loc K),some (.int (k:Int)),x3] t
    (by
     rintro j u μ s' hu ⟨⟨x3,rfl⟩,g,rfl⟩
     refine ⟨trivial,?_⟩
     obtain ⟨hjl,rfl⟩:=rat j u hu
     have hlj:ls[j]? = some ls[j]:=List.getElem?_eq_getElem hjl
     have hRj:Rs[j]? = some (Rs[j]'(by rw [← hr.1]; exact hjl)):=List.getElem?_eq_getElem (by rw [← hr.1]; exact hjl)
     generalize Rs[j]'(by rw [← hr.1]; exact hjl) = R' at hRj
     have hRl2:=hRl R' (List.mem_of_getElem? hRj)
     have c1:=la_old (hF1 n _ hnl hn2) g
     have c2:=la_old (hF1 K _ hKn hs2) g
     have c3:=la_old (hX1 j _ R' hlj hRj) g
     have hkn:st.length + j ∉ ls:=fun h => by have:=hls _ h; lia
     have c4:=la_old (hF1 (st.length + j) _ hkn (hkc2 j R' hRj)) g
     have i1:=ix_loc (it_of c1) (atI_locs hlj)
     have i2:=ix_loc (it_of c2) (hkat j hjl)
     generalize hb:(if decide ((j:Int) ≤ (k:Int)) then (1:Int) else 0) = b
     have hb':0 ≤ b ∧ b ≤ 1:=by rw [← hb]; split <;> lia
     have m1:=mul_li (st:=t ++ g ++ [.lst [.int 1]]) (n:=(t ++ g).length) (us:=[.int 1]) (k:=b) (la_new _ _) (by lia) (by lia) (by rw [sizeLine_eq]; simp; lia)
     have a1:=add_ll (st:=t ++ g ++ [.lst [.int 1]] ++ [.lst (repsV b.toNat [.int 1])]) (n:=st.length + j) (m:=(t ++ g ++ [Cell.lst [.int 1]]).length) (us:=R'.map Val.int) (la_old (la_old c4 _) _) (la_new _ _) (by
      rw [len_ints,sizeLine_eq]
      unfold repsV
      rw [List.length_flatten,List.map_replicate,List.sum_replicate_nat,List.length_singleton]
      lia)
     have he:R'.map Val.int ++ repsV b.toNat [.int 1] = (ext1 j (k + 1) R').map Val.int:=by
      unfold ext1
      rw [List.map_append,← hb]
      congr 1
      by_cases hjk:j < k + 1
      ·rw [if_pos hjk,if_pos (decide_eq_true (by lia))]; rfl
      ·rw [if_neg hjk,if_neg (by rw [decide_eq_false (by lia)]; exact Bool.false_ne_true)]; rfl
     rw [he] at a1
     have q1:=ne_lists (n:=ls[j]) (m:=(t ++ g ++ [Cell.lst [.int 1]] ++ [Cell.lst (repsV b.toNat [.int 1])]).length) (st:=t ++ g ++ [Cell.lst [.int 1]] ++ [Cell.lst (repsV b.toNat [.int 1])] ++ [Cell.lst ((ext1 j (k + 1) R').map Val.int)])
      (it_of (la_old (la_old (la_old c3 _) _) _)) (itemsOf_new _ _) (pureDs_ints 14 _)
     refine ⟨[some (.loc n),some (.loc K),some (.int (k:Int)),some (.int (j:Int))],rfl,[some (.loc n),some (.loc K),some (.int (k:Int)),some (.int (j:Int))],t ++ g ++ [Cell.lst [.int 1]] ++ [Cell.lst (repsV b.toNat [.int 1])] ++ [Cell.lst ((ext1 j (k + 1) R').map Val.int)],.inl ?_,⟨_,rfl⟩,g ++ [Cell.lst [.int 1]] ++ [Cell.lst (repsV b.toNat [.int 1])] ++ [Cell.lst ((ext1 j (k + 1) R').map Val.int)],by simp only [List.append_assoc]⟩
     simp only [bnd_ok,sbn_ok,ev_bin,k_bin,k_bin2,k_cons,k_cons2,k_lst,k_if_f,ev_C,asB_bl,ev_asT,ev_nil,ev_cons,ev_lst,ev_call,ev_next,ev_ifS,le_ii,var_i,var_l,var_s,List.length_cons,List.length_nil,Nat.reduceAdd,sizeLine_eq,Nat.reduceLeDiff,↓reduceIte,int_b,i1,i2,hb,m1,a1,q1])
    (fun _ _ _ => trivial) ⟨⟨_,rfl⟩,[],by rw [List.append_nil]⟩
   have l1:=len_loc (it_of (hF1 n _ hnl hn2))
   rw [List.length_map,← hLL] at l1
   refine ⟨[some (.loc n),some (.loc K),some (.int (k:Int)),x3],rfl,[some (.loc n),some (.loc K),some (.int (k:Int)),z3],t ++ g,.inl ?_,⟨_,_,rfl⟩,fun i l R' h1 h2 => la_old (hX1 i l R' h1 h2) g,fun m c hm h => la_old (hF1 m c hm h) g,by rw [List.length_append]; lia⟩
   simp only [bnd_ok,sbn_ok,thn_nx,ev_bin,k_bin,k_bin2,k_cons,k_cons2,k_expr,k_for,ev_C,ev_nil,ev_cons,ev_call,ev_seq,ev_expr,ev_for,ev_rng1,var_i,var_l,var_s,ev_mtL,k_mt2,ixk,mt,ap,l1,rl,e2])
  (fun _ _ _ => trivial)
  ⟨⟨_,_,rfl⟩,fun i l R h1 h2 => by
   have:ext1 i 0 R = R:=by unfold ext1; rw [if_neg (Nat.not_lt_zero _),List.append_nil]
   rw [this]; exact hr2.2 i l R h1 h2,fun _ _ _ h => h,Nat.le_refl _⟩
 rw [Nat.zero_add,rlen] at hX
 have hcap:capM 1 [] [some (Val.loc n),none,none,none] = [none]:=rfl
 have hz:(ls.map Val.loc).length ≤ sizeLine:=by rw [List.length_map,sizeLine_eq]; lia
 rw [sizeLine_eq] at hz
 have l2:=len_loc (it_of hn2)
 rw [List.length_map,← hLL] at l2
 refine ⟨st',?_,by lia,fun i l R h1 h2 => ?_,fun m c hm h => hF m c hm (hold2 m c h)⟩
 ·simp only [PM.law_own,ev_fn,bnd_ok,sbn_ok,thn_nx,fin_rt,k_cons,k_cons2,k_ret,k_set,k_for,k_new,k_comp,ev_C,ev_nil,ev_cons,ev_call,ev_seq,ev_ret,ev_set,ev_for,ev_comp,ev_iseq,ev_rng1,var_l,List.map_cons,List.map_nil,List.cons_append,List.nil_append,List.replicate_succ,List.replicate_zero,List.set_cons_zero,List.set_cons_succ,Nat.reduceSub,List.length_cons,List.length_nil,Nat.reduceAdd,sizeLine_eq,walkK_loc (it_of hn),hcap,hc,if_pos hz,hK,hs2e,l2,rl,e]
 ·have:=hX i l R h1 h2
  unfold ext1 at this
  rw [if_pos (getL_lt h1)] at this
  exact this
end PG
namespace PG
open PySem PySem.Spec L2 MN
open PyProof.Rows hiding St kindOf
noncomputable abbrev Cf:=Nat → Int
noncomputable def cf (as:List Int):Cf:=fun k => as.getD k 0
noncomputable def shf (h:Cf):Cf
 | 0 => 0
 | k + 1 => h k
noncomputable def mF:List Int → Cf → Cf
 | [],_ => fun _ => 0
 | a :: as,g => fun k => a * g k + shf (mF as g) k
theorem cf_nil (k:Nat):cf [] k = 0:=by simp [cf]
theorem cf_consS (a:Int) (as:List Int) (k:Nat):cf (a :: as) (k + 1) = cf as k:=by simp [cf]
theorem shf_add (f g:Cf) (k:Nat):shf (fun j => f j + g j) k = shf f k + shf g k:=by cases k <;> simp [shf]
theorem shf_mul (c:Int) (f:Cf) (k:Nat):shf (fun j => c * f j) k = c * shf f k:=by cases k <;> simp [shf]
theorem shf_congr {f g:Cf} (h:∀ k,f k = g k) (k:Nat):shf f k = shf g k:=by cases k <;> simp [shf,h]
theorem mF_congr {f g:Cf} (h:∀ k,f k = g k):∀ (as:List Int) (k:Nat),mF as f k = mF as g k
 | [],_ => rfl
 | a :: as,k => by unfold mF; rw [h k,shf_congr (mF_congr h as)]
theorem mF_add (f g:Cf):∀ (as:List Int) (k:Nat),mF as (fun j => f j + g j) k = mF as f k + mF as g k
 | [],_ => by simp [mF]
 | a :: as,k => by
  unfold mF
  rw [shf_congr (mF_add f g as),shf_add,Int.mul_add]; lia
theorem mF_mul (c:Int) (f:Cf):∀ (as:List Int) (k:Nat),mF as (fun j => c * f j) k = c * mF as f k
 | [],_ => by simp [mF]
 | a :: as,k => by
  unfold mF
  rw [shf_congr (mF_mul c f as),shf_mul,Int.mul_add,← Int.mul_assoc,← Int.mul_assoc,Int.mul_comm a c]
theorem mF_shf (f:Cf):∀ (as:List Int) (k:Nat),mF as (shf f) k = shf (mF as f) k
 | [],k => by cases k <;> simp [mF,shf]
 | a :: as,k => by
  have h:=mF_shf f as
  cases k with
  | zero => simp [mF,shf]
  | succ k =>
   show a * f k + shf (mF as (shf f)) (k + 1) = a * f k + shf (mF as f) k
   rw [shf_congr h]; rfl
theorem mF_comm (g:Cf):∀ (as bs:List Int) (k:Nat),mF as (mF bs g) k = mF bs (mF as g) k
 | [],bs,k => by
  have h:∀ (bs:List Int) (k:Nat),mF bs (fun _ => 0) k = 0:=fun bs => by
   induction bs with
   | nil => intro k; rfl
   | cons b bs ih =>
    intro k
    unfold mF
    rw [shf_congr ih]
    cases k <;> simp [shf]
  exact (h bs k).symm
 | a :: as,bs,k => by
  show a * mF bs g k + shf (mF as (mF bs g)) k = mF bs (fun k => a * g k + shf (mF as g) k) k
  rw [mF_add (fun k => a * g k) (shf (mF as g)),mF_mul,mF_shf,shf_congr (mF_comm g as bs)]
noncomputable def one:Cf:=cf [1]
theorem mF_one:∀ (as:List Int) (k:Nat),mF as one k = cf as k
 | [],k => (cf_nil k).symm
 | a :: as,k => by
  unfold mF
  rw [shf_congr (mF_one as)]
  cases k with
  | zero => simp [shf,one,cf]
  | succ k => rw [cf_consS]; simp [shf,one,cf]
theorem mF_sym (as bs:List Int) (k:Nat):mF as (cf bs) k = mF bs (cf as) k:=by
 rw [← mF_congr (mF_one bs),← mF_congr (mF_one as) bs]
 exact mF_comm one as bs k
theorem psum_cons (a:Int) (as bs:List Int) (k:Nat):∀ i,psum (a :: as) bs (i + 1) k = a * bs.getD k 0 + shf (fun j => psum as bs i j) k
 | 0 => by
  show psum (a :: as) bs 0 k + (if 0 ≤ k then _ else _) = _
  rw [if_pos (Nat.zero_le _)]
  cases k <;> simp [psum,shf]
 | i + 1 => by
  show psum (a :: as) bs (i + 1) k + (if i + 1 ≤ k then (a :: as).getD (i + 1) 0 * bs.getD (k - (i + 1)) 0 else 0) = _
  rw [psum_cons a as bs k i,Int.add_assoc]
  congr 1
  cases k with
  | zero => simp [shf]
  | succ k =>
   show psum as bs i k + _ = psum as bs i k + (if i ≤ k then as.getD i 0 * bs.getD (k - i) 0 else 0)
   congr 1
   by_cases h:i ≤ k
   ·rw [if_pos (by lia),if_pos h,show k + 1 - (i + 1) = k - i by lia]; simp
   ·rw [if_neg (by lia),if_neg h]
theorem psum_mF:∀ (as bs:List Int) (k:Nat),psum as bs as.length k = mF as (cf bs) k
 | [],bs,k => psum_nil bs k 0
 | a :: as,bs,k => by
  rw [List.length_cons,psum_cons]
  show _ = a * cf bs k + shf (mF as (cf bs)) k
  rw [shf_congr (psum_mF as bs)]; rfl
theorem cutZ_cf:∀ (n:Nat) (ns:List Int),ns.length = n → ∀ k,cf (cutZ ns) k = cf ns k
 | 0,ns,h,k => by rw [List.eq_nil_of_length_eq_zero h]; rfl
 | n + 1,ns,h,k => by
  rcases cutZ_cases ns with rfl | ⟨ms,x,rfl⟩
  ·rfl
  ·by_cases hx:x = 0
   ·subst hx
    rw [cutZ_snoc0]
    have hl:ms.length = n:=by simpa using h
    rw [cutZ_cf n ms hl]
    unfold cf
    exact (getD_app0 ms 1 k).symm
   ·rw [cutZ_snoc (by simpa using hx)]
theorem cf_cut (ns:List Int) (k:Nat):cf (cutZ ns) k = cf ns k:=cutZ_cf _ ns rfl k
theorem cf_out {ns:List Int} {k:Nat} (h:ns.length ≤ k):cf ns k = 0:=getD_out h
theorem cut_last {ns:List Int} (h:Cut ns) (hn:ns ≠ []):cf ns (ns.length - 1) ≠ 0:=by
 rcases cutZ_cases ns with rfl | ⟨ms,x,rfl⟩
 ·exact absurd rfl hn
 ·intro z
  have hx:x = 0:=by simpa [cf] using z
  subst hx
  have h':cutZ (ms ++ [0]) = ms ++ [0]:=h
  rw [cutZ_snoc0] at h'
  have:=cut_len ms
  rw [h',List.length_append,List.length_singleton] at this
  lia
theorem cut_len_le {ns:List Int} (h:Cut ns) {n:Nat} (hz:∀ k,n ≤ k → cf ns k = 0):ns.length ≤ n:=by
 rcases Nat.lt_or_ge n ns.length with q | q
 ·exfalso
  refine cut_last h (fun z => by rw [z] at q; simp at q) (hz _ (by lia))
 ·exact q
theorem cut_ext {as bs:List Int} (ha:Cut as) (hb:Cut bs) (h:∀ k,cf as k = cf bs k):as = bs:=by
 have h1:=cut_len_le ha (n:=bs.length) fun k hk => by rw [h]; exact cf_out hk
 have h2:=cut_len_le hb (n:=as.length) fun k hk => by rw [← h]; exact cf_out hk
 refine List.ext_getElem (by lia) fun i hi hj => ?_
 have:=h i
 unfold cf at this
 rw [List.getD_eq_getElem?_getD,List.getElem?_eq_getElem hi,List.getD_eq_getElem?_getD,List.getElem?_eq_getElem hj] at this
 exact this
theorem cf_map (f:Int → Int) (hf:f 0 = 0) (ns:List Int) (k:Nat):cf (ns.map f) k = f (cf ns k):=by
 unfold cf
 rw [List.getD_eq_getElem?_getD,List.getElem?_map,List.getD_eq_getElem?_getD]
 cases ns[k]? with
 | none => exact hf.symm
 | some v => rfl
theorem cf_rng (n:Nat) (f:Nat → Int) (k:Nat):cf ((rngI 0 n).map fun k => f k.toNat) k = if k < n then f k else 0:=by
 unfold cf rngI
 rw [List.getD_eq_getElem?_getD,List.getElem?_map,List.getElem?_map]
 by_cases h:k < n
 ·rw [if_pos h,List.getElem?_range h]; simp
 ·rw [if_neg h,List.getElem?_eq_none (by rw [List.length_range]; lia)]; rfl
noncomputable def CgF (p:Int) (f g:Cf):Prop:=∀ k,Cg p (f k) (g k)
theorem CgF.refl (p:Int) (f:Cf):CgF p f f:=fun k => Cg.refl p _
theorem CgF.symm {p:Int} {f g:Cf} (h:CgF p f g):CgF p g f:=fun k => (h k).symm
theorem CgF.trans {p:Int} {f g e:Cf} (h:CgF p f g) (h':CgF p g e):CgF p f e:=fun k => (h k).trans (h' k)
theorem CgF.of_eq {p:Int} {f g:Cf} (h:∀ k,f k = g k):CgF p f g:=fun k => by rw [h]; exact Cg.refl p _
theorem CgF.add {p:Int} {f g f' g':Cf} (h:CgF p f g) (h':CgF p f' g'):CgF p (fun k => f k + f' k) (fun k => g k + g' k):=fun k => (h k).add (h' k)
theorem CgF.shf {p:Int} {f g:Cf} (h:CgF p f g):CgF p (shf f) (shf g):=fun k => by
 cases k with
 | zero => exact Cg.refl p _
 | succ k => exact h k
theorem CgF.mF {p:Int} {f g:Cf} (h:CgF p f g):∀ as:List Int,CgF p (mF as f) (mF as g)
 | [] => CgF.refl p _
 | a :: as => fun k => ((h k).mull a).add ((h.mF as).shf k)
theorem CgF.mFl {p:Int} {as as':List Int} (h:CgF p (cf as) (cf as')) (bs:List Int):CgF p (PG.mF as (cf bs)) (PG.mF as' (cf bs)) :=
 (CgF.of_eq (mF_sym as bs)).trans ((h.mF bs).trans (CgF.of_eq (mF_sym bs as')))
structure Row (p:Int) (as:List Int):Prop where
 cut:Cut as
 rng:∀ a ∈ as,0 ≤ a ∧ a < p
theorem Row.nil (p:Int):Row p []:=⟨rfl,fun a h => by simp at h⟩
theorem Row.cfr {p:Int} {as:List Int} (h:Row p as) (hp:0 < p) (k:Nat):0 ≤ cf as k ∧ cf as k < p:=by
 unfold cf
 rw [List.getD_eq_getElem?_getD]
 cases e:as[k]? with
 | none => exact ⟨Int.le_refl _,hp⟩
 | some v => exact h.rng v (List.mem_of_getElem? e)
theorem Row.of {p:Int} (hp:0 < p) (ns:List Int):Row p (cutZ (ns.map (·.fmod p))):=⟨cut_cut _,cut_all (P:=fun a => 0 ≤ a ∧ a < p) fun n hn => by
 obtain ⟨m,_,rfl⟩:=List.mem_map.mp hn
 rw [fmod_pos hp]
 exact ⟨Int.emod_nonneg _ (by lia),Int.emod_lt_of_pos _ hp⟩⟩
theorem Row.cg {p:Int} (hp:0 < p) (ns:List Int):CgF p (cf (cutZ (ns.map (·.fmod p)))) (cf ns):=fun k => by
 rw [cf_cut,cf_map _ (by rw [fmod_pos hp]; exact Int.zero_emod p)]
 exact Cg.mod hp _
theorem Row.ext {p:Int} (hp:0 < p) {as bs:List Int} (ha:Row p as) (hb:Row p bs) (h:CgF p (cf as) (cf bs)):as = bs:=cut_ext ha.cut hb.cut fun k => by
 have:=Cg.eq hp (h k)
 rw [fmod_small (ha.cfr hp k).1 (ha.cfr hp k).2,fmod_small (hb.cfr hp k).1 (hb.cfr hp k).2] at this
 exact this
end PG
namespace PG
open PySem PySem.Spec L2 MN
open PyProof.Rows hiding St kindOf
noncomputable def Fr (st s:Store):Prop:=∀ (m:Nat) (c:Cell),st[m]? = some c → s[m]? = some c
theorem Fr.refl (st:Store):Fr st st:=fun _ _ h => h
theorem Fr.trans {a b c:Store} (h:Fr a b) (h':Fr b c):Fr a c:=fun m k q => h' m k (h m k q)
theorem Fr.app (st g:Store):Fr st (st ++ g):=fun _ _ h => la_old h g
theorem Fr.more {a b:Store} (h:Fr a b) (g:Store):Fr a (b ++ g):=h.trans (Fr.app b g)
theorem Fr.it {a b:Store} (h:Fr a b) {n:Nat} {us:List Val} (hi:itemsOf a n = some us):itemsOf b n = some us:=by
 unfold itemsOf at hi ⊢
 cases z:a[n]? with
 | none => rw [z] at hi; cases hi
 | some c => rw [z] at hi; rw [h n c z]; exact hi
theorem Fr.rows {a b:Store} (h:Fr a b) {ls:List Nat} {Rs:List (List Int)} (hr:RowsAt a ls Rs):RowsAt b ls Rs:=⟨hr.1,fun i l R h1 h2 => h l _ (hr.2 i l R h1 h2)⟩
theorem Fr.len {a b:Store} (h:Fr a b):a.length ≤ b.length:=by
 rcases Nat.eq_zero_or_pos a.length with z | z
 ·lia
 ·have:=getL_lt (h (a.length - 1) _ (List.getElem?_eq_getElem (by lia)))
  lia
open Classical in
noncomputable def invP (p n:Int):Int:=if h:∃ t:Int,0 < t ∧ t < p ∧ (t * n) % p = 1 then h.choose else 0
theorem inv_uniq {p n t u:Int} (hp:0 < p) (h1:0 < t ∧ t < p ∧ (t * n) % p = 1) (h2:0 < u ∧ u < p ∧ (u * n) % p = 1):t = u:=by
 obtain ⟨a1,a2,a3⟩:=h1
 obtain ⟨b1,b2,b3⟩:=h2
 have c1:Cg p (t * n) 1:=⟨t * n / p,by have:=Int.emod_add_mul_ediv (t * n) p; lia⟩
 have c2:Cg p (u * n) 1:=⟨u * n / p,by have:=Int.emod_add_mul_ediv (u * n) p; lia⟩
 have c3:Cg p t u:=by
  have e1:Cg p (t * (u * n)) (t * 1):=c2.mull t
  have e2:Cg p (u * (t * n)) (u * 1):=c1.mull u
  have e3:t * (u * n) = u * (t * n):=by rw [← Int.mul_assoc,← Int.mul_assoc,Int.mul_comm t u]
  rw [e3,Int.mul_one] at e1
  rw [Int.mul_one] at e2
  exact e1.symm.trans e2
 have:=Cg.eq hp c3
 rwa [fmod_small (by lia) a2,fmod_small (by lia) b2] at this
theorem invP_ok {p n t:Int} (hp:0 < p) (h:0 < t ∧ t < p ∧ (t * n) % p = 1):invP p n = t:=by
 unfold invP
 rw [dif_pos ⟨t,h⟩]
 exact inv_uniq hp (Exists.choose_spec (p:=fun t:Int => 0 < t ∧ t < p ∧ (t * n) % p = 1) ⟨t,h⟩) h
noncomputable def lastI (bs:List Int):Int:=bs.getD (bs.length - 1) 0
noncomputable def stepR (bs:List Int) (s:Nat) (o:Int) (R:List Int):List Int:=(rngI 0 R.length).map fun k => R.getD k.toNat 0 - (if s ≤ k.toNat then o * bs.getD (k.toNat - s) 0 else 0)
noncomputable def dv (p c:Int) (as bs:List Int) (steps:Nat):Nat → List Int × List Int
 | 0 => (List.replicate steps 0,as)
 | i + 1 => ((dv p c as bs steps i).1.set (steps - 1 - i) (((dv p c as bs steps i).2.getD (steps - 1 - i + bs.length - 1) 0 * c).fmod p),stepR bs (steps - 1 - i) (((dv p c as bs steps i).2.getD (steps - 1 - i + bs.length - 1) 0 * c).fmod p) (dv p c as bs steps i).2)
theorem stepR_len (bs:List Int) (s:Nat) (o:Int) (R:List Int):(stepR bs s o R).length = R.length:=by unfold stepR rngI; rw [List.length_map,List.length_map,List.length_range]
theorem stepR_cf (bs:List Int) (s:Nat) (o:Int) (R:List Int) (k:Nat):cf (stepR bs s o R) k = if k < R.length then cf R k - (if s ≤ k then o * cf bs (k - s) else 0) else 0:=by
 unfold stepR
 rw [cf_rng R.length (fun k => R.getD k 0 - (if s ≤ k then o * bs.getD (k - s) 0 else 0))]
 rfl
theorem dv_len (p c:Int) (as bs:List Int) (steps:Nat):∀ i,(dv p c as bs steps i).1.length = steps ∧ (dv p c as bs steps i).2.length = as.length
 | 0 => ⟨List.length_replicate,rfl⟩
 | i + 1 => by
  have h:=dv_len p c as bs steps i
  unfold dv
  exact ⟨by rw [List.length_set]; exact h.1,by rw [stepR_len]; exact h.2⟩
theorem mF_set:∀ (Q:List Int) (s:Nat) (o:Int) (g:Cf) (k:Nat),s < Q.length → cf Q s = 0 → mF (Q.set s o) g k = mF Q g k + (if s ≤ k then o * g (k - s) else 0)
 | [],s,_,_,_,h,_ => by simp at h
 | q :: Q,0,o,g,k,_,h0 => by
  have:q = 0:=h0
  subst this
  rw [List.set_cons_zero,if_pos (Nat.zero_le _)]
  show o * g k + shf (mF Q g) k = 0 * g k + shf (mF Q g) k + o * g (k - 0)
  rw [Int.zero_mul,Nat.sub_zero]; lia
 | q :: Q,s + 1,o,g,k,h,h0 => by
  rw [List.set_cons_succ]
  show q * g k + shf (mF (Q.set s o) g) k = q * g k + shf (mF Q g) k + _
  rw [cf_consS] at h0
  have ih:=mF_set Q s o g
  cases k with
  | zero => rw [if_neg (by lia)]; simp [shf]
  | succ k =>
   show q * g (k + 1) + mF (Q.set s o) g k = q * g (k + 1) + mF Q g k + _
   rw [ih k (by simpa using h) h0]
   by_cases z:s ≤ k
   ·rw [if_pos z,if_pos (by lia),show k + 1 - (s + 1) = k - s by lia]; lia
   ·rw [if_neg z,if_neg (by lia)]; lia
theorem mF_zeros (g:Cf):∀ (n k:Nat),mF (List.replicate n 0) g k = 0
 | 0,_ => rfl
 | n + 1,k => by
  rw [List.replicate_succ]
  unfold mF
  rw [shf_congr (mF_zeros g n)]
  cases k <;> simp [shf]
theorem cf_zeros (n k:Nat):cf (List.replicate n 0) k = 0:=by
 unfold cf
 rw [List.getD_eq_getElem?_getD,List.getElem?_replicate]; split <;> rfl
theorem cf_set {Q:List Int} {s:Nat} (h:s < Q.length) (o:Int) (k:Nat):cf (Q.set s o) k = if k = s then o else cf Q k:=set_getD h k
structure DvOk (p:Int) (as bs:List Int) (steps i:Nat) (Q R:List Int):Prop where
 lenQ:Q.length = steps
 lenR:R.length = as.length
 zero:∀ s,s < steps - i → cf Q s = 0
 rng:∀ s,0 ≤ cf Q s ∧ cf Q s < p
 eq:∀ k,cf as k = mF Q (cf bs) k + cf R k
 gone:∀ k,steps - i + bs.length - 1 ≤ k → Cg p (cf R k) 0
theorem dv_ok {p c:Int} (hp:0 < p) {as bs:List Int} (hb:bs ≠ []) (hc:(c * lastI bs) % p = 1) {steps:Nat} (hs:steps = as.length + 1 - bs.length):∀ i,i ≤ steps → DvOk p as bs steps i (dv p c as bs steps i).1 (dv p c as bs steps i).2
 | 0,_ => ⟨List.length_replicate,rfl,fun s _ => cf_zeros _ _,fun s => by show 0 ≤ cf (List.replicate steps 0) s ∧ _; rw [show (dv p c as bs steps 0).1 = List.replicate steps 0 from rfl,cf_zeros]; exact ⟨Int.le_refl _,hp⟩,fun k => by
   rw [show (dv p c as bs steps 0).1 = List.replicate steps 0 from rfl,mF_zeros,Int.zero_add]; rfl,fun k hk => by
   have hb0:0 < bs.length:=List.length_pos_iff.mpr hb
   rw [show (dv p c as bs steps 0).2 = as from rfl,cf_out (by lia)]; exact Cg.refl p _⟩
 | i + 1,hi => by
  refine bcn fun hNO => ?_
  have ih:=dv_ok hp hb hc hs i (by lia)
  obtain ⟨Q,hQ⟩:∃ Q,(dv p c as bs steps i).1 = Q:=⟨_,rfl⟩
  obtain ⟨R,hR⟩:∃ R,(dv p c as bs steps i).2 = R:=⟨_,rfl⟩
  obtain ⟨o,ho⟩:∃ o,(R.getD (steps - 1 - i + bs.length - 1) 0 * c).fmod p = o:=⟨_,rfl⟩
  obtain ⟨s,hss⟩:∃ s,steps - 1 - i = s:=⟨_,rfl⟩
  rw [hQ,hR] at ih
  have e1:(dv p c as bs steps (i + 1)).1 = Q.set s o:=by unfold dv; rw [hQ,hR,ho,hss]
  have e2:(dv p c as bs steps (i + 1)).2 = stepR bs s o R:=by unfold dv; rw [hR,ho,hss]
  refine hNO ?_; clear hNO
  rw [e1,e2]
  have hb0:0 < bs.length:=List.length_pos_iff.mpr hb
  have hsl:s < Q.length:=by rw [ih.lenQ]; lia
  have ho1:0 ≤ o ∧ o < p:=by rw [← ho,fmod_pos hp]; exact ⟨Int.emod_nonneg _ (by lia),Int.emod_lt_of_pos _ hp⟩
  have Rout:∀ k,as.length ≤ k → cf R k = 0:=fun k hk => cf_out (by rw [ih.lenR]; exact hk)
  have Rcf:∀ k,cf (stepR bs s o R) k = cf R k - (if s ≤ k then o * cf bs (k - s) else 0):=fun k => by
   rw [stepR_cf]
   split
   ·rfl
   ·rename_i q
    rw [ih.lenR] at q
    rw [Rout k (by lia)]
    split
    ·rw [cf_out (by lia)]; simp
    ·rfl
  refine ⟨by rw [List.length_set]; exact ih.lenQ,by rw [stepR_len]; exact ih.lenR,fun t ht => ?_,fun t => ?_,fun k => ?_,fun k hk => ?_⟩
  ·rw [cf_set hsl,if_neg (by lia)]; exact ih.zero t (by lia)
  ·rw [cf_set hsl]
   split
   ·exact ho1
   ·exact ih.rng t
  ·rw [mF_set Q s o (cf bs) k hsl (ih.zero s (by lia)),Rcf,ih.eq k]; lia
  ·rw [Rcf]
   by_cases hk2:k = s + bs.length - 1
   ·subst hk2
    rw [if_pos (by lia),show s + bs.length - 1 - s = bs.length - 1 by lia]
    have co:Cg p o (cf R (s + bs.length - 1) * c):=by rw [← ho,hss]; exact Cg.mod hp _
    have cl:Cg p (c * lastI bs) 1:=⟨c * lastI bs / p,by have:=Int.emod_add_mul_ediv (c * lastI bs) p; lia⟩
    have c1:Cg p (o * cf bs (bs.length - 1)) (cf R (s + bs.length - 1)):=by
     have z:=(co.mulr (lastI bs)).trans (by rw [Int.mul_assoc]; exact cl.mull (cf R (s + bs.length - 1)))
     rw [Int.mul_one] at z
     exact z
    have c2:=(Cg.refl p (cf R (s + bs.length - 1))).add c1.neg
    rw [show cf R (s + bs.length - 1) + -cf R (s + bs.length - 1) = 0 by lia] at c2
    rw [show cf R (s + bs.length - 1) - o * cf bs (bs.length - 1) = cf R (s + bs.length - 1) + -(o * cf bs (bs.length - 1)) by lia]
    exact c2
   ·rw [show (if s ≤ k then o * cf bs (k - s) else 0) = 0 from by rw [if_pos (by lia),cf_out (by lia),Int.mul_zero],Int.sub_zero]
    exact ih.gone k (by lia)
noncomputable def quoR (p:Int) (as bs:List Int):List Int:=cutZ ((dv p (invP p (lastI bs)) as bs (as.length + 1 - bs.length) (as.length + 1 - bs.length)).1.map (·.fmod p))
noncomputable def resR (p:Int) (as bs:List Int):List Int:=cutZ ((dv p (invP p (lastI bs)) as bs (as.length + 1 - bs.length) (as.length + 1 - bs.length)).2.map (·.fmod p))
theorem div_spec {p:Int} (hp:prB p = true) {as bs:List Int} (hb:bs ≠ []) (hl:¬ lastI bs % p = 0) :
  Row p (quoR p as bs) ∧ Row p (resR p as bs) ∧ (resR p as bs).length < bs.length ∧ CgF p (cf as) (fun k => mF (quoR p as bs) (cf bs) k + cf (resR p as bs) k) ∧ (quoR p as bs).length ≤ as.length + 1 - bs.length:=by
 refine bcn fun hNO => ?_
 have hr:=prB_range hp
 have hp0:0 < p:=by lia
 obtain ⟨g,t,_,h1,h2,h3⟩:=inverse_p_ok hp hl []
 have ei:=invP_ok hp0 ⟨h1,h2,h3⟩
 have D:=dv_ok (c:=t) hp0 (as:=as) hb h3 (steps:=as.length + 1 - bs.length) rfl (as.length + 1 - bs.length) (Nat.le_refl _)
 refine hNO ?_; clear hNO
 unfold quoR resR
 rw [ei]
 revert D
 generalize (dv p t as bs (as.length + 1 - bs.length) (as.length + 1 - bs.length)).1 = Q
 generalize (dv p t as bs (as.length + 1 - bs.length) (as.length + 1 - bs.length)).2 = R
 intro D
 have hb0:0 < bs.length:=List.length_pos_iff.mpr hb
 refine ⟨Row.of hp0 Q,Row.of hp0 R,?_,?_,?_⟩
 ·have:=cut_len_le (cut_cut (R.map (·.fmod p))) (n:=bs.length - 1) fun k hk => by
   rw [cf_cut,cf_map _ (by rw [fmod_pos hp0]; exact Int.zero_emod p)]
   have z:=Cg.eq hp0 (D.gone k (by lia))
   rw [z,fmod_pos hp0]; exact Int.zero_emod p
  lia
 ·refine (CgF.of_eq D.eq).trans (CgF.add ?_ ?_)
  ·exact (CgF.mFl (Row.cg hp0 Q) bs).symm
  ·exact (Row.cg hp0 R).symm
 ·refine Nat.le_trans (cut_len _) ?_
  rw [List.length_map,D.lenQ]; exact Nat.le_refl _
end PG
namespace PG
open PySem PySem.Spec L2 MN
open PyProof.Rows hiding St kindOf
theorem at_last {bs:List Int} (hb:bs ≠ []):L2.atI (bs.map Val.int) (-1) = some (.int (lastI bs)):=by
 have hb0:0 < bs.length:=List.length_pos_iff.mpr hb
 unfold L2.atI L2.ixN
 rw [len_ints,if_neg (by decide),if_pos (by lia),Option.bind_some,show (-1 + (bs.length:Int)).toNat = bs.length - 1 by lia,List.getElem?_map,List.getElem?_eq_getElem (by lia)]
 unfold lastI
 rw [List.getD_eq_getElem?_getD,List.getElem?_eq_getElem (by lia)]; rfl
noncomputable def Fr2 (a b:Nat) (st s:Store):Prop:=st.length = s.length ∧ ∀ (m:Nat) (c:Cell),m ≠ a → m ≠ b → st[m]? = some c → s[m]? = some c
theorem Fr2.refl (a b:Nat) (st:Store):Fr2 a b st st:=⟨rfl,fun _ _ _ _ h => h⟩
theorem Fr2.trans {a b:Nat} {x y z:Store} (h:Fr2 a b x y) (h':Fr2 a b y z):Fr2 a b x z:=⟨h.1.trans h'.1,fun m c h1 h2 h3 => h'.2 m c h1 h2 (h.2 m c h1 h2 h3)⟩
theorem Fr2.set1 {a b:Nat} {x y:Store} (h:Fr2 a b x y) (c:Cell):Fr2 a b x (y.set a c):=⟨by rw [List.length_set]; exact h.1,fun m k h1 h2 h3 => la_ne (h.2 m k h1 h2 h3) (fun z => h1 z.symm)⟩
theorem Fr2.set2 {a b:Nat} {x y:Store} (h:Fr2 a b x y) (c:Cell):Fr2 a b x (y.set b c):=⟨by rw [List.length_set]; exact h.1,fun m k h1 h2 h3 => la_ne (h.2 m k h1 h2 h3) (fun z => h2 z.symm)⟩
noncomputable abbrev pinB:MB:=sAugI isbV (mVar 3) (mBin addV (mVar 7) (mVar 9)) (mBin mulV (mVar 8) (mVar 10))
theorem part_inner {m L K:Nat} {bs R0:List Int} {s:Nat} {o:Int} {st:Store} {x0 x1 x4 x5 x6 x9 x10:Option Val} (lm:st[m]? = some (rowC bs)) (lL:st[L]? = some (rowC R0)) (hmL:m ≠ L) (hmK:m ≠ K) (hLK:L ≠ K) (ho:-(2 ^ 64) < o ∧ o < 2 ^ 64) (hl:s + bs.length ≤ R0.length) :
  ∃ (st':Store) (y9 y10:Option Val),forL (fun st2 => itemsOf st2 m = some (bs.map Val.int)) (aTup [aName 9,aName 10]) pinB (enumL 0 (bs.map Val.int)) [x0,x1,some (.loc m),some (.loc L),x4,x5,x6,some (.int s),some (.int o),x9,x10] st
   = .nx [x0,x1,some (.loc m),some (.loc L),x4,x5,x6,some (.int s),some (.int o),y9,y10] st' ∧ st'[L]? = some (rowC (stepR bs s o R0)) ∧ Fr2 L K st st' ∧ ∀ c,st[K]? = some c → st'[K]? = some c:=by
 refine bcn fun hNO => ?_
 obtain ⟨μ',st',e,R,lR,⟨y9,y10,rfl⟩,hR,hv,hF,hK⟩:=forL_inv (g:=fun st2 => itemsOf st2 m = some (bs.map Val.int)) (a:=aTup [aName 9,aName 10]) (body:=pinB)
  (fun j μ s' => ∃ R:List Int,s'[L]? = some (rowC R) ∧ (∃ x9 x10,μ = [x0,x1,some (.loc m),some (.loc L),x4,x5,x6,some (.int s),some (.int o),x9,x10]) ∧ R.length = R0.length ∧ (∀ k,R.getD k 0 = R0.getD k 0 - (if s ≤ k ∧ k < s + j then o * bs.getD (k - s) 0 else 0)) ∧ Fr2 L K st s' ∧ ∀ c,st[K]? = some c → s'[K]? = some c)
  (enumL 0 (bs.map Val.int)) 0 [x0,x1,some (.loc m),some (.loc L),x4,x5,x6,some (.int s),some (.int o),x9,x10] st
  (by
   rintro j u μ s' hu ⟨R,lR,⟨x9,x10,rfl⟩,hR,hv,hF,hK⟩
   rw [Nat.zero_add] at hv ⊢
   refine ⟨it_of (hF.2 m _ hmL hmK lm),?_⟩
   obtain ⟨w,hw,rfl⟩:=enumL_at _ 0 j u hu
   rw [Nat.zero_add]
   have hj:j < bs.length:=by have:=getL_lt hw; rw [len_ints] at this; exact this
   have ew:w = .int (bs.getD j 0):=by
    rw [List.getElem?_map,List.getElem?_eq_getElem hj] at hw
    rw [← Option.some.inj hw,List.getD_eq_getElem?_getD,List.getElem?_eq_getElem hj]; rfl
   subst ew
   have hk:s + j < R.length:=by lia
   have gx:=ixL_ok (it_of lR) (atI_int (R:=R) (i:=(s:Int) + (j:Int)) (k:=s + j) (by lia) hk)
   have sx:=setF_ok (v:=.int (R.getD (s + j) 0 - o * bs.getD j 0)) (k:=(s:Int) + (j:Int)) (j:=s + j) lR (by rw [len_ints]; have:=ixN_nat hk; rw [show (s:Int) + (j:Int) = ((s + j:Nat):Int) by lia]; exact this)
   rw [← List.map_set] at sx
   refine ⟨[x0,x1,some (.loc m),some (.loc L),x4,x5,x6,some (.int s),some (.int o),some (.int j),some (.int (bs.getD j 0))],rfl,[x0,x1,some (.loc m),some (.loc L),x4,x5,x6,some (.int s),some (.int o),some (.int j),some (.int (bs.getD j 0))],s'.set L (rowC (R.set (s + j) (R.getD (s + j) 0 - o * bs.getD j 0))),.inl ?_,R.set (s + j) (R.getD (s + j) 0 - o * bs.getD j 0),la_self lR,⟨_,_,rfl⟩,by rw [List.length_set]; exact hR,fun k => ?_,hF.set1 _,fun c hc => la_ne (hK c hc) hLK⟩
   ·simp only [bnd_ok,sbn_ok,ev_bin,k_bin,k_bin2,add_ii,var_i,var_l,var_s,nxO_some,ev_augi,k_ai,k_ai2,k_ai3,k_ai4,k_ai5,isb_ii,gx,mul_l (i:=o) ho.1 ho.2,sx]
   ·rw [set_getD hk]
    by_cases hkj:k = s + j
    ·subst hkj
     rw [if_pos rfl,hv,if_neg (by lia),if_pos (by lia),show s + j - s = j by lia]; lia
    ·rw [if_neg hkj,hv]
     congr 1
     by_cases h1:s ≤ k ∧ k < s + j
     ·rw [if_pos h1,if_pos (by lia)]
     ·rw [if_neg h1,if_neg (by lia)])
  (fun μ s' ⟨R,_,_,_,_,hF,_⟩ => it_of (hF.2 m _ hmL hmK lm))
  ⟨R0,lL,⟨_,_,rfl⟩,rfl,fun k => by rw [if_neg (by lia),Int.sub_zero],Fr2.refl _ _ _,fun _ h => h⟩
 refine hNO ?_; clear hNO
 refine ⟨st',y9,y10,e,?_,hF,hK⟩
 have:R = stepR bs s o R0:=by
  rw [list_by (f:=fun k => R0.getD k 0 - (if s ≤ k then o * bs.getD (k - s) 0 else 0)) hR fun k hk => ?_]
  ·rfl
  ·rw [hv,Nat.zero_add,enumL_len,len_ints]
   congr 1
   by_cases h1:s ≤ k
   ·by_cases h2:k < s + bs.length
    ·rw [if_pos ⟨h1,h2⟩,if_pos h1]
    ·rw [if_neg (by lia),if_pos h1,getD_out (by lia),Int.mul_zero]
   ·rw [if_neg (by lia),if_neg h1]
 rw [← this]; exact lR
noncomputable abbrev poutB:MB:=sSeq (sSet 8 (mBin modV (mBin mulV (mBin ixV (mVar 3) (mBin subV (mBin addV (mVar 7) (mCall lenF (mCons (mVar 2) mNil))) (mC (.int 1)))) (mVar 4)) (mVar 0))) (sSeq (sSetI (mVar 6) (mVar 7) (mVar 8)) (sFor (iEnumM (mCons (mVar 2) mNil)) (aTup [(aName 9),(aName 10)]) pinB))
theorem downL_at {hi:Int} {n i:Nat} {u:Val} (h:(downL hi n)[i]? = some u):i < n ∧ u = .int (hi - (i:Int)):=by
 unfold downL at h
 have hi':=getL_lt h
 rw [List.length_map,List.length_range] at hi'
 rw [List.getElem?_map,List.getElem?_range hi'] at h
 exact ⟨hi',(Option.some.inj h).symm⟩
theorem downL_len (hi:Int) (n:Nat):(downL hi n).length = n:=by unfold downL; rw [List.length_map,List.length_range]
theorem part_outer {p c:Int} (hp:prB p = true) (hc:0 < c ∧ c < p) {n m L K:Nat} {as bs:List Int} {st:Store} {x5:Option Val} {steps:Nat} (hs:steps = as.length + 1 - bs.length) (hb:bs ≠ []) (lm:st[m]? = some (rowC bs)) (lL:st[L]? = some (rowC as)) (lK:st[K]? = some (rowC (List.replicate steps 0))) (hmL:m ≠ L) (hmK:m ≠ K) (hLK:L ≠ K) (hl1:as.length ≤ 100000) (hl2:bs.length ≤ 100000) :
  ∃ (st':Store) (y7 y8 y9 y10:Option Val),forL (fun _ => True) (aName 7) poutB (downL ((steps:Int) - 1) steps) [some (.int p),some (.loc n),some (.loc m),some (.loc L),some (.int c),x5,some (.loc K),none,none,none,none] st
   = .nx [some (.int p),some (.loc n),some (.loc m),some (.loc L),some (.int c),x5,some (.loc K),y7,y8,y9,y10] st' ∧ Fr2 L K st st' ∧ st'[K]? = some (rowC (dv p c as bs steps steps).1) ∧ st'[L]? = some (rowC (dv p c as bs steps steps).2):=by
 refine bcn fun hNO => ?_
 have hr:=prB_range hp
 have hz:=prB_ne hp
 have hb0:0 < bs.length:=List.length_pos_iff.mpr hb
 obtain ⟨μ',st',e,⟨y7,y8,y9,y10,rfl⟩,hF,h1,h2⟩:=forL_inv (g:=fun _ => True) (a:=aName 7) (body:=poutB)
  (fun i μ s' => (∃ y7 y8 y9 y10,μ = [some (.int p),some (.loc n),some (.loc m),some (.loc L),some (.int c),x5,some (.loc K),y7,y8,y9,y10]) ∧ Fr2 L K st s' ∧ s'[K]? = some (rowC (dv p c as bs steps i).1) ∧ s'[L]? = some (rowC (dv p c as bs steps i).2))
  (downL ((steps:Int) - 1) steps) 0 [some (.int p),some (.loc n),some (.loc m),some (.loc L),some (.int c),x5,some (.loc K),none,none,none,none] st
  (by
   rintro i u μ s' hu ⟨⟨y7,y8,y9,y10,rfl⟩,hF,lQ,lR⟩
   rw [Nat.zero_add] at lQ lR ⊢
   obtain ⟨hi,rfl⟩:=downL_at hu
   refine ⟨trivial,?_⟩
   obtain ⟨lq,lr⟩:=dv_len p c as bs steps i
   obtain ⟨Q,hQ⟩:∃ Q,(dv p c as bs steps i).1 = Q:=⟨_,rfl⟩
   obtain ⟨R,hR⟩:∃ R,(dv p c as bs steps i).2 = R:=⟨_,rfl⟩
   obtain ⟨s,hss⟩:∃ s,steps - 1 - i = s:=⟨_,rfl⟩
   obtain ⟨o,ho⟩:∃ o,(R.getD (s + bs.length - 1) 0 * c).fmod p = o:=⟨_,rfl⟩
   have e1:(dv p c as bs steps (i + 1)).1 = Q.set s o:=by unfold dv; rw [hQ,hR,hss,ho]
   have e2:(dv p c as bs steps (i + 1)).2 = stepR bs s o R:=by unfold dv; rw [hR,hss,ho]
   rw [hQ] at lQ lq
   rw [hR] at lR lr
   rw [e1,e2]
   have es:(steps:Int) - 1 - (i:Int) = (s:Int):=by lia
   rw [es]
   have ho1:0 ≤ o ∧ o < p:=by rw [← ho,fmod_pos (by lia)]; exact ⟨Int.emod_nonneg _ (by lia),Int.emod_lt_of_pos _ (by lia)⟩
   have lm':=hF.2 m _ hmL hmK lm
   obtain ⟨LB,hLB⟩:∃ L:Int,L = (bs.length:Int):=⟨_,rfl⟩
   have kl:lenF [.loc m] s' = .ok (.int LB) s':=by rw [len_loc (it_of lm'),len_ints,hLB]
   have gx:=ix_loc (it_of lR) (atI_int (R:=R) (i:=(s:Int) + LB - 1) (k:=s + bs.length - 1) (by lia) (by lia))
   have sx:=setF_ok (v:=.int o) (k:=(s:Int)) (j:=s) lQ (by rw [len_ints]; exact ixN_nat (by lia))
   rw [← List.map_set] at sx
   have lm2:(s'.set K (rowC (Q.set s o)))[m]? = some (rowC bs):=la_ne lm' (fun z => hmK z.symm)
   have lR2:(s'.set K (rowC (Q.set s o)))[L]? = some (rowC R):=la_ne lR (fun z => hLK z.symm)
   have lQ2:(s'.set K (rowC (Q.set s o)))[K]? = some (rowC (Q.set s o)):=la_self lQ
   obtain ⟨st2,z9,z10,e3,lR3,hF3,hK3⟩:=part_inner (m:=m) (L:=L) (K:=K) (bs:=bs) (R0:=R) (s:=s) (o:=o) (x0:=some (.int p)) (x1:=some (.loc n)) (x4:=some (.int c)) (x5:=x5) (x6:=some (.loc K)) (x9:=y9) (x10:=y10) lm2 lR2 hmL hmK hLK (by lia) (by lia)
   refine ⟨[some (.int p),some (.loc n),some (.loc m),some (.loc L),some (.int c),x5,some (.loc K),some (.int s),y8,y9,y10],rfl,[some (.int p),some (.loc n),some (.loc m),some (.loc L),some (.int c),x5,some (.loc K),some (.int s),some (.int o),z9,z10],st2,.inl ?_,⟨_,_,_,_,rfl⟩,(hF.set2 _).trans hF3,hK3 _ lQ2,lR3⟩
   have en:=enu_ok (it_of lm2)
   simp only [bnd_ok,sbn_ok,thn_nx,ev_bin,k_bin,k_bin2,k_cons,k_cons2,k_set,k_for,ev_C,ev_nil,ev_cons,ev_call,ev_seq,ev_set,ev_for,add_ii,sub_ii,var_i,var_l,var_s,List.set_cons_zero,List.set_cons_succ,ev_seti,k_si,k_si2,k_si3,nxO_some,ev_enum,kl,gx,mul_r (j:=c) (by lia) (by lia),mod_ii hz,ho,sx,en,e3])
  (fun _ _ _ => trivial)
  ⟨⟨_,_,_,_,rfl⟩,Fr2.refl _ _ _,lK,lL⟩
 rw [Nat.zero_add,downL_len] at h1 h2
 refine hNO ?_; clear hNO
 exact ⟨st',y7,y8,y9,y10,e,hF,h1,h2⟩
end PG
namespace PG
open PySem PySem.Spec L2 MN
open PyProof.Rows hiding St kindOf
theorem parted_ok {p:Int} (hp:prB p = true) {n m:Nat} {as bs:List Int} {st:Store} (h1:itemsOf st n = some (as.map Val.int)) (lm:st[m]? = some (rowC bs)) (hb:bs ≠ []) (hl:¬ lastI bs % p = 0) (hl1:as.length ≤ 100000) (hl2:bs.length ≤ 100000) :
  ∃ st' k1 k2,PM.parted [.int p,.loc n,.loc m] st = .ok (.tup [.loc k1,.loc k2]) st' ∧ Fr st st' ∧ st.length ≤ k1 ∧ st.length ≤ k2 ∧ k1 ≠ k2 ∧ st'[k1]? = some (rowC (quoR p as bs)) ∧ st'[k2]? = some (rowC (resR p as bs)):=by
 refine bcn fun hNO => ?_
 have hr:=prB_range hp
 have hz:=prB_ne hp
 have hp0:0 < p:=by lia
 have hb0:0 < bs.length:=List.length_pos_iff.mpr hb
 have c1:=lst_loc h1
 have hm:=getL_lt lm
 obtain ⟨g,t,ei,t1,t2,t3⟩:=inverse_p_ok hp hl (st ++ [rowC as])
 have et:=invP_ok hp0 ⟨t1,t2,t3⟩
 have lm1:=la_old lm [rowC as]
 have gx:=ix_loc (it_of lm1) (at_last hb)
 have F2:Fr st (st ++ [rowC as] ++ g):=(Fr.app st _).more g
 have lL2:=la_old (la_new st (as.map Val.int)) g
 have F2l:=F2.len
 refine hNO ?_; clear hNO
 have h2l:st.length < (st ++ [rowC as] ++ g).length:=by rw [List.length_append,List.length_append]; simp; lia
 refine bcn fun hNO => ?_
 obtain ⟨s2,hs2⟩:∃ s,st ++ [rowC as] ++ g = s:=⟨_,rfl⟩
 rw [hs2] at ei F2 lL2 F2l h2l
 obtain ⟨LA,hLA⟩:∃ L:Int,L = (as.length:Int):=⟨_,rfl⟩
 obtain ⟨LB,hLB⟩:∃ L:Int,L = (bs.length:Int):=⟨_,rfl⟩
 have k1:lenF [.loc n] s2 = .ok (.int LA) s2:=by rw [len_loc (F2.it h1),len_ints,hLA]
 have k2:lenF [.loc m] s2 = .ok (.int LB) s2:=by rw [len_loc (it_of (F2 _ _ lm)),len_ints,hLB]
 obtain ⟨steps,hst⟩:∃ s,s = as.length + 1 - bs.length:=⟨_,rfl⟩
 refine hNO ?_; clear hNO
 have emx:(if LA - LB + 1 > 0 then LA - LB + 1 else 0) = (steps:Int):=by split <;> lia
 refine bcn fun hNO => ?_
 obtain ⟨S,hS⟩:∃ S:Int,S = (steps:Int):=⟨_,rfl⟩
 rw [← hS] at emx
 have m1:=mul_li (st:=s2 ++ [Cell.lst [.int 0]]) (n:=s2.length) (us:=[.int 0]) (k:=S) (la_new _ _) (by lia) (by lia) (by rw [sizeLine_eq]; simp; lia)
 rw [reps0,show S.toNat = steps by lia] at m1
 have F3:Fr s2 (s2 ++ [Cell.lst [.int 0]] ++ [rowC (List.replicate steps 0)]):=(Fr.app s2 _).more _
 have lK3:=la_new (s2 ++ [Cell.lst [.int 0]]) ((List.replicate steps 0).map Val.int)
 refine hNO ?_; clear hNO
 have hKl:s2.length < (s2 ++ [Cell.lst [.int 0]]).length:=by rw [List.length_append]; simp
 refine bcn fun hNO => ?_
 obtain ⟨K,hK⟩:∃ K,(s2 ++ [Cell.lst [.int 0]]).length = K:=⟨_,rfl⟩
 have F3':=F2.trans F3
 have lm3:=F3' _ _ lm
 have lL3:=F3 _ _ lL2
 rw [hK] at m1 lK3 hKl
 obtain ⟨s3,hs3⟩:∃ s,s2 ++ [Cell.lst [.int 0]] ++ [rowC (List.replicate steps 0)] = s:=⟨_,rfl⟩
 refine hNO ?_; clear hNO
 have m1':mulV (.loc s2.length) (.int S) (s2 ++ [Cell.lst [.int 0]]) = .ok (.loc K) s3:=by rw [← hs3]; exact m1
 refine bcn fun hNO => ?_
 rw [hs3] at F3 F3' lK3 lm3 lL3
 obtain ⟨s4,y7,y8,y9,y10,el,hF4,lQ,lR⟩:=part_outer (n:=n) (x5:=some (.int S)) hp ⟨t1,t2⟩ hst hb lm3 lL3 lK3 (by lia) (by lia) (by lia) hl1 hl2
 have dw:=dwn_ok (st:=s3) (j:=S - 1) (k:=-1) (by lia) (by lia) (by decide) (by decide)
 rw [show (S - 1 - -1).toNat = steps by lia] at dw
 rw [← hS] at el
 obtain ⟨lq,lr⟩:=dv_len p t as bs steps steps
 have r1:=row_of_rests_ok hz (it_of lQ) (by rw [lq,sizeLine_eq]; lia)
 have r2:=row_of_rests_ok hz (it_of (la_old lR [Cell.lst ((cutZ ((dv p t as bs steps steps).1.map (·.fmod p))).map Val.int)])) (by rw [lr,sizeLine_eq]; lia)
 refine hNO ?_; clear hNO
 have hs4:s2.length ≤ s4.length:=by rw [← hF4.1]; exact F3.len
 refine ⟨s4 ++ [rowC (quoR p as bs)] ++ [rowC (resR p as bs)],s4.length,(s4 ++ [Cell.lst ((cutZ ((dv p t as bs steps steps).1.map (·.fmod p))).map Val.int)]).length,?_,?_,by lia,by rw [List.length_append]; lia,by rw [List.length_append]; simp,?_,?_⟩
 ·unfold quoR resR
  rw [et,← hst]
  simp only [PM.parted,ev_fn,bnd_ok,sbn_ok,thn_nx,fin_rt,ev_bin,k_bin,k_bin2,k_cons,k_cons2,k_tup,k_lst,k_ret,k_set,k_for,ev_C,ev_nil,ev_cons,ev_tup,ev_lst,ev_call,negV_int,ev_neg,ev_seq,ev_ret,ev_set,ev_for,add_ii,sub_ii,var_i,var_l,var_s,List.map_cons,List.map_nil,List.cons_append,List.nil_append,List.replicate_succ,List.replicate_zero,List.set_cons_zero,List.set_cons_succ,Nat.reduceSub,List.length_cons,List.length_nil,Nat.reduceAdd,sizeLine_eq,Nat.reduceLeDiff,↓reduceIte,ev_down,max_ii,c1,gx,hs2,ei,k1,k2,emx,m1',dw,el,r1,r2]
 ·intro a c ha
  have:=getL_lt ha
  exact la_old (la_old (hF4.2 a c (by lia) (by lia) (F3' _ _ ha)) _) _
 ·unfold quoR
  rw [et,← hst]
  exact la_old (la_new _ _) _
 ·unfold quoR resR
  rw [et,← hst]
  exact la_new _ _
end PG
namespace PG
open PySem PySem.Spec L2 MN
open PyProof.Rows hiding St kindOf
theorem rangeL_at {lo:Int} {n i:Nat} {u:Val} (h:(rangeL lo n)[i]? = some u):i < n ∧ u = .int (lo + (i:Int)):=by
 unfold rangeL at h
 have hi':=getL_lt h
 rw [List.length_map,List.length_range] at hi'
 rw [List.getElem?_map,List.getElem?_range hi'] at h
 exact ⟨hi',(Option.some.inj h).symm⟩
theorem rangeL_len (lo:Int) (n:Nat):(rangeL lo n).length = n:=by unfold rangeL; rw [List.length_map,List.length_range]
theorem Row.sm {p:Int} (hp:prB p = true) {as:List Int} (h:Row p as):Sm as:=fun a ha => by
 have:=h.rng a ha
 have:=prB_range hp
 lia
theorem law_is_row_ok {p:Int} {k:Nat} {as:List Int} {st:Store} (h:Row p as) (l:st[k]? = some (rowC as)):PM.law_is_row [.int p,.loc k] st = .ok (.bl true) (st ++ [Cell.lst []]):=by
 refine bcn fun hNO => ?_
 obtain ⟨μ1,e1,y2,rfl⟩:=forL_fold (α:=Unit) (g:=fun st2 => itemsOf st2 k = some (as.map Val.int)) (a:=aName 2) (body:=sIf (tOrM (tNotM (asT (mCall PM.law_whole (mCons (mVar 2) mNil)))) (tNotM (asT (mChain leV ltV (mC (.int 0)) (mVar 2) (mVar 0))))) (sRet (mC (.bl false))) sNext) (st:=st) (it_of l)
  (fun _ μ => ∃ y2,μ = [some (.int p),some (.loc k),y2]) (fun _ _ => ()) (as.map Val.int)
  (by
   rintro u hu _ μ ⟨y2,rfl⟩
   obtain ⟨a,ha,rfl⟩:=List.mem_map.mp hu
   have hr:=h.rng a ha
   have d1:decide ((0:Int) ≤ a) = true:=decide_eq_true hr.1
   have d2:decide (a < p) = true:=decide_eq_true hr.2
   exact ⟨[some (.int p),some (.loc k),some (.int a)],rfl,[some (.int p),some (.loc k),some (.int a)],by simp only [bnd_ok,sbn_ok,k_bin2,k_tor_f,k_tnot,k_ch,k_ch1,k_ch2_t,k_cons,k_cons2,k_if_f,ev_C,asB_bl,ev_asT,ev_tor,ev_tnot,ev_chain,ev_nil,ev_cons,ev_call,ev_next,ev_ifS,lt_ii,le_ii,var_i,var_s,Bool.not_true,law_whole_int,d1,d2],some (.int a),rfl⟩)
  () [some (.int p),some (.loc k),none] ⟨_,rfl⟩
 have q:=eq_nil (st:=st ++ [Cell.lst []]) (it_of (la_old l _)) (itemsOf_new st [])
 refine hNO ?_; clear hNO
 by_cases he:as = []
 ·have he':(as.map Val.int).isEmpty = true:=by rw [he]; rfl
  rw [he'] at q
  simp only [PM.law_is_row,ev_fn,bnd_ok,sbn_ok,thn_nx,fin_rt,ev_bin,k_bin,k_bin2,k_or_t,k_tnot,k_lst,k_ret,k_if_f,k_for,asB_bl,ev_asT,ev_or,ev_tnot,ev_nil,ev_lst,ev_is,ev_seq,ev_next,ev_ret,ev_ifS,ev_for,ev_iseq,var_l,var_s,List.map_cons,List.map_nil,List.cons_append,List.nil_append,List.replicate_succ,List.replicate_zero,Nat.reduceSub,List.length_cons,List.length_nil,Nat.reduceAdd,Bool.not_true,sizeLine_eq,Nat.reduceLeDiff,↓reduceIte,is_list l,walkK_loc (it_of l),e1,q]
 ·have he':(as.map Val.int).isEmpty = false:=by cases as with | nil => exact absurd rfl he | cons => rfl
  rw [he'] at q
  have gx:=ix_loc (it_of (la_old l [Cell.lst []])) (at_last he)
  have hz:(lastI as == 0) = false:=by
   have:=cut_last h.cut he
   simpa [lastI,cf] using this
  simp only [PM.law_is_row,ev_fn,bnd_ok,sbn_ok,thn_nx,fin_rt,ev_bin,k_bin,k_bin2,k_or_f,k_tnot,k_lst,k_ret,k_if_f,k_for,ev_C,asB_bl,ev_asT,ev_or,ev_tnot,ev_nil,ev_lst,negV_int,ev_neg,ev_is,ev_seq,ev_next,ev_ret,ev_ifS,ev_for,ev_iseq,ne_ii,var_l,var_s,List.map_cons,List.map_nil,List.cons_append,List.nil_append,List.replicate_succ,List.replicate_zero,Nat.reduceSub,List.length_cons,List.length_nil,Nat.reduceAdd,Bool.not_true,Bool.not_false,sizeLine_eq,Nat.reduceLeDiff,↓reduceIte,is_list l,walkK_loc (it_of l),e1,q,gx,hz]
noncomputable abbrev tinB:MB:=sSeq (sSet 6 (mBin mulV (mBin ixV (mVar 1) (mVar 4)) (mBin ixV (mVar 2) (mVar 5)))) (sSetI (mVar 3) (mBin addV (mVar 4) (mVar 5)) (mBin modV (mBin addV (mBin ixV (mVar 3) (mBin addV (mVar 4) (mVar 5))) (mVar 6)) (mVar 0)))
theorem times_inner {p:Int} (hp:prB p = true) {n m i:Nat} {as bs R0:List Int} {s:Store} {x5 x6:Option Val} (h1:itemsOf s n = some (as.map Val.int)) (h2:itemsOf s m = some (bs.map Val.int)) (hi:i < as.length) (ha:Sm as) (hl:i + bs.length ≤ R0.length) (hR0:∀ k,0 ≤ cf R0 k ∧ cf R0 k < p) :
  ∃ (R:List Int) (y5 y6:Option Val),forL (fun _ => True) (aName 5) tinB (rangeL 0 bs.length) [some (.int p),some (.loc n),some (.loc m),some (.loc s.length),some (.int i),x5,x6] (s ++ [rowC R0])
   = .nx [some (.int p),some (.loc n),some (.loc m),some (.loc s.length),some (.int i),y5,y6] (s ++ [rowC R]) ∧ R.length = R0.length ∧ (∀ k,0 ≤ cf R k ∧ cf R k < p) ∧ ∀ k,Cg p (cf R k) (cf R0 k + (if i ≤ k then cf as i * cf bs (k - i) else 0)):=by
 refine bcn fun hNO => ?_
 have hr:=prB_range hp
 have hz:=prB_ne hp
 obtain ⟨μ',st',e,R,rfl,⟨y5,y6,rfl⟩,hR,hb,hv⟩:=forL_inv (g:=fun _ => True) (a:=aName 5) (body:=tinB)
  (fun j μ s' => ∃ R:List Int,s' = s ++ [rowC R] ∧ (∃ x5 x6,μ = [some (.int p),some (.loc n),some (.loc m),some (.loc s.length),some (.int i),x5,x6]) ∧ R.length = R0.length ∧ (∀ k,0 ≤ cf R k ∧ cf R k < p) ∧ ∀ k,Cg p (cf R k) (cf R0 k + (if i ≤ k ∧ k < i + j then cf as i * cf bs (k - i) else 0)))
  (rangeL 0 bs.length) 0 [some (.int p),some (.loc n),some (.loc m),some (.loc s.length),some (.int i),x5,x6] (s ++ [rowC R0])
  (by
   rintro j u μ s' hu ⟨R,rfl,⟨x5,x6,rfl⟩,hR,hb,hv⟩
   rw [Nat.zero_add] at hv ⊢
   refine ⟨trivial,?_⟩
   obtain ⟨hj,rfl⟩:=rangeL_at hu
   rw [Int.zero_add]
   have hk:i + j < R.length:=by lia
   have g1:=ix_loc (itemsOf_old h1 [rowC R]) (atI_int (R:=as) (i:=(i:Int)) (k:=i) rfl hi)
   have g2:=ix_loc (itemsOf_old h2 [rowC R]) (atI_int (R:=bs) (i:=(j:Int)) (k:=j) rfl hj)
   have g3:=ix_loc (it_of (la_new s (R.map Val.int))) (atI_int (R:=R) (i:=(i:Int) + (j:Int)) (k:=i + j) (by lia) hk)
   have hai:as.getD i 0 ∈ as:=by rw [List.getD_eq_getElem?_getD,List.getElem?_eq_getElem hi]; exact List.getElem_mem hi
   have sm:=ha _ hai
   obtain ⟨v,hvv⟩:∃ v,(R.getD (i + j) 0 + as.getD i 0 * bs.getD j 0).fmod p = v:=⟨_,rfl⟩
   have vr:0 ≤ v ∧ v < p:=by rw [← hvv,fmod_pos (by lia)]; exact ⟨Int.emod_nonneg _ (by lia),Int.emod_lt_of_pos _ (by lia)⟩
   have sx:=setF_ok (v:=.int v) (k:=(i:Int) + (j:Int)) (j:=i + j) (la_new s (R.map Val.int)) (by rw [len_ints]; have:=ixN_nat hk; rw [show (i:Int) + (j:Int) = ((i + j:Nat):Int) by lia]; exact this)
   rw [set_last,← List.map_set] at sx
   refine ⟨[some (.int p),some (.loc n),some (.loc m),some (.loc s.length),some (.int i),some (.int j),x6],rfl,[some (.int p),some (.loc n),some (.loc m),some (.loc s.length),some (.int i),some (.int j),some (.int (as.getD i 0 * bs.getD j 0))],s ++ [rowC (R.set (i + j) v)],.inl ?_,R.set (i + j) v,rfl,⟨_,_,rfl⟩,by rw [List.length_set]; exact hR,fun k => ?_,fun k => ?_⟩
   ·simp only [bnd_ok,sbn_ok,thn_nx,ev_bin,k_bin,k_bin2,k_set,ev_seq,ev_set,add_ii,var_i,var_l,var_s,List.set_cons_zero,List.set_cons_succ,ev_seti,k_si,k_si2,k_si3,nxO_some,g1,g2,mul_l (i:=as.getD i 0) sm.1 sm.2,g3,mod_ii hz,hvv,sx]
   ·rw [cf_set hk]
    split
    ·exact vr
    ·exact hb k
   ·rw [cf_set hk]
    by_cases hkj:k = i + j
    ·subst hkj
     rw [if_pos rfl,if_pos (by lia),show i + j - i = j by lia]
     have q:=hv (i + j)
     rw [if_neg (by lia),Int.add_zero] at q
     refine Cg.trans (b:=R.getD (i + j) 0 + as.getD i 0 * bs.getD j 0) (by rw [← hvv]; exact Cg.mod (by lia) _) (q.add (Cg.refl p _))
    ·rw [if_neg hkj]
     have q:=hv k
     by_cases h1:i ≤ k ∧ k < i + j
     ·rw [if_pos h1] at q; rw [if_pos (by lia)]; exact q
     ·rw [if_neg h1] at q; rw [if_neg (by lia)]; exact q)
  (fun _ _ _ => trivial)
  ⟨R0,rfl,⟨_,_,rfl⟩,rfl,hR0,fun k => by rw [if_neg (by lia),Int.add_zero]; exact Cg.refl p _⟩
 rw [Nat.zero_add,rangeL_len] at hv
 refine hNO ?_; clear hNO
 refine ⟨R,y5,y6,e,hR,hb,fun k => (hv k).trans ?_⟩
 by_cases h1:i ≤ k
 ·by_cases h2:k < i + bs.length
  ·rw [if_pos ⟨h1,h2⟩,if_pos h1]; exact Cg.refl p _
  ·rw [if_neg (by lia),if_pos h1,cf_out (ns:=bs) (by lia),Int.mul_zero]; exact Cg.refl p _
 ·rw [if_neg (by lia),if_neg h1]; exact Cg.refl p _
theorem law_times_ok {p:Int} (hp:prB p = true) {n m:Nat} {as bs:List Int} {st:Store} (h1:itemsOf st n = some (as.map Val.int)) (h2:itemsOf st m = some (bs.map Val.int)) (ha:Sm as) (hl1:as.length ≤ 100000) (hl2:bs.length ≤ 100000) :
  ∃ st' k T,PM.law_times [.int p,.loc n,.loc m] st = .ok (.loc k) st' ∧ Fr st st' ∧ st.length ≤ k ∧ st'[k]? = some (rowC T) ∧ Row p T ∧ CgF p (cf T) (mF as (cf bs)) ∧ T.length ≤ as.length + bs.length:=by
 refine bcn fun hNO => ?_
 have hr:=prB_range hp
 obtain ⟨LA,hLA⟩:∃ L:Int,L = (as.length:Int):=⟨_,rfl⟩
 obtain ⟨LB,hLB⟩:∃ L:Int,L = (bs.length:Int):=⟨_,rfl⟩
 have kl:∀ g:Store,lenF [.loc n] (st ++ g) = .ok (.int LA) (st ++ g) ∧ lenF [.loc m] (st ++ g) = .ok (.int LB) (st ++ g):=fun g => ⟨by rw [len_loc (itemsOf_old h1 g),len_ints,hLA],by rw [len_loc (itemsOf_old h2 g),len_ints,hLB]⟩
 have m1:=mul_li (st:=st ++ [.lst [.int 0]]) (n:=st.length) (us:=[.int 0]) (k:=LA + LB) (la_new _ _) (by lia) (by lia) (by rw [sizeLine_eq]; simp; lia)
 rw [reps0,show (LA + LB).toNat = as.length + bs.length by lia] at m1
 have kl1:=kl [Cell.lst [.int 0]]
 have kl2:=fun g2 => kl ([Cell.lst [.int 0]] ++ g2)
 have h1':=itemsOf_old h1 [.lst [.int 0]]
 have h2':=itemsOf_old h2 [.lst [.int 0]]
 have F1:=Fr.app st [Cell.lst [.int 0]]
 have hle:st.length ≤ (st ++ [Cell.lst [.int 0]]).length:=F1.len
 simp only [← List.append_assoc] at kl2
 obtain ⟨s,hs⟩:∃ s,st ++ [Cell.lst [.int 0]] = s:=⟨_,rfl⟩
 rw [hs] at m1 kl1 h1' h2' F1 hle
 simp only [hs] at kl2
 obtain ⟨μ',st',e,R,rfl,⟨y4,y5,y6,rfl⟩,hR,hb,hv⟩:=forL_inv (g:=fun _ => True) (a:=aName 4) (body:=sFor (iRange1 (mCons (mCall lenF (mCons (mVar 2) mNil)) mNil)) (aName 5) tinB)
  (fun i μ s' => ∃ R:List Int,s' = s ++ [rowC R] ∧ (∃ x4 x5 x6,μ = [some (.int p),some (.loc n),some (.loc m),some (.loc s.length),x4,x5,x6]) ∧ R.length = as.length + bs.length ∧ (∀ k,0 ≤ cf R k ∧ cf R k < p) ∧ ∀ k,Cg p (cf R k) (psum as bs i k))
  (rangeL 0 as.length) 0 [some (.int p),some (.loc n),some (.loc m),some (.loc s.length),none,none,none] (s ++ [rowC (List.replicate (as.length + bs.length) 0)])
  (by
   rintro i u μ s' hu ⟨R,rfl,⟨x4,x5,x6,rfl⟩,hR,hb,hv⟩
   rw [Nat.zero_add] at hv ⊢
   refine ⟨trivial,?_⟩
   obtain ⟨hi,rfl⟩:=rangeL_at hu
   rw [Int.zero_add]
   obtain ⟨R',z5,z6,e',hR',hb',hv'⟩:=times_inner (x5:=x5) (x6:=x6) hp h1' h2' hi ha (R0:=R) (by lia) hb
   have rg:=rng1_ok (st:=s ++ [rowC R]) (j:=LB) (by lia) (by lia)
   rw [show LB.toNat = bs.length by lia] at rg
   refine ⟨[some (.int p),some (.loc n),some (.loc m),some (.loc s.length),some (.int i),x5,x6],rfl,[some (.int p),some (.loc n),some (.loc m),some (.loc s.length),some (.int i),z5,z6],s ++ [rowC R'],.inl ?_,R',rfl,⟨_,_,_,rfl⟩,by lia,hb',fun k => ?_⟩
   ·have kk:=(kl2 [rowC R]).2
    simp only [bnd_ok,sbn_ok,k_cons,k_cons2,k_for,ev_nil,ev_cons,ev_call,ev_for,ev_rng1,var_l,var_s,kk,rg,e']
   ·exact (hv' k).trans ((hv k).add (Cg.refl p _)))
  (fun _ _ _ => trivial)
  ⟨List.replicate (as.length + bs.length) 0,rfl,⟨_,_,_,rfl⟩,List.length_replicate,fun k => by rw [cf_zeros]; lia,fun k => by rw [cf_zeros]; exact Cg.refl p _⟩
 rw [Nat.zero_add,rangeL_len] at hv
 have lc:=law_cut_ok (it_of (la_new s (R.map Val.int)))
 have rg:=rng1_ok (st:=s ++ [rowC (List.replicate (as.length + bs.length) 0)]) (j:=LA) (by lia) (by lia)
 rw [show LA.toNat = as.length by lia] at rg
 have kk:=(kl2 [rowC (List.replicate (as.length + bs.length) 0)]).1
 refine hNO ?_; clear hNO
 refine ⟨s ++ [rowC R] ++ [rowC (cutZ R)],(s ++ [rowC R]).length,cutZ R,?_,(F1.more _).more _,by rw [List.length_append]; lia,la_new _ _,⟨cut_cut R,?_⟩,fun k => ?_,?_⟩
 ·simp only [PM.law_times,ev_fn,bnd_ok,sbn_ok,thn_nx,fin_rt,ev_bin,k_bin,k_bin2,k_cons,k_cons2,k_lst,k_ret,k_set,k_for,ev_C,ev_nil,ev_cons,ev_lst,ev_call,ev_seq,ev_ret,ev_set,ev_for,ev_rng1,add_ii,var_l,var_s,List.map_cons,List.map_nil,List.cons_append,List.nil_append,List.replicate_succ,List.replicate_zero,List.set_cons_zero,List.set_cons_succ,Nat.reduceSub,List.length_cons,List.length_nil,Nat.reduceAdd,sizeLine_eq,Nat.reduceLeDiff,↓reduceIte,hs,kl1.1,kl1.2,m1,kk,rg,e,lc]
 ·refine cut_all (P:=fun a => 0 ≤ a ∧ a < p) fun a ha => ?_
  obtain ⟨i,hi⟩:=List.mem_iff_getElem?.mp ha
  have:=hb i
  unfold cf at this
  rw [List.getD_eq_getElem?_getD,hi] at this
  exact this
 ·rw [cf_cut,← psum_mF]; exact hv k
 ·have:=cut_len R
  lia
theorem linF_cf (as bs:List Int) (f:Int) (k:Nat):cf (linF as bs f) k = cf as k + f * cf bs k:=by
 unfold linF
 rw [cf_rng (max as.length bs.length) (fun k => as.getD k 0 + f * bs.getD k 0)]
 split
 ·rfl
 ·rw [cf_out (ns:=as) (by lia),cf_out (ns:=bs) (by lia),Int.mul_zero]; rfl
theorem law_sum_ok {p:Int} (hp:prB p = true) {n m:Nat} {as bs:List Int} {st:Store} (l1:st[n]? = some (rowC as)) (l2:st[m]? = some (rowC bs)) (hl1:as.length ≤ 100000) (hl2:bs.length ≤ 100000) :
  ∃ st' k T,PM.law_sum [.int p,.loc n,.loc m] st = .ok (.loc k) st' ∧ Fr st st' ∧ st.length ≤ k ∧ st'[k]? = some (rowC T) ∧ Row p T ∧ CgF p (cf T) (fun k => cf as k + cf bs k):=by
 refine bcn fun hNO => ?_
 have hr:=prB_range hp
 have hp0:0 < p:=by lia
 obtain ⟨LA,hLA⟩:∃ L:Int,L = (as.length:Int):=⟨_,rfl⟩
 obtain ⟨LB,hLB⟩:∃ L:Int,L = (bs.length:Int):=⟨_,rfl⟩
 obtain ⟨W,hW⟩:∃ W:Int,W = ((max as.length bs.length:Nat):Int):=⟨_,rfl⟩
 refine hNO ?_; clear hNO
 have emx:(if LB > LA then LB else LA) = W:=by split <;> lia
 have k1:lenF [.loc n] st = .ok (.int LA) st:=by rw [len_loc (it_of l1),len_ints,hLA]
 have k2:lenF [.loc m] st = .ok (.int LB) st:=by rw [len_loc (it_of l2),len_ints,hLB]
 -- the first one,made longer
 refine bcn fun hNO => ?_
 have m1:=mul_li (st:=st ++ [Cell.lst [.int 0]]) (n:=st.length) (us:=[.int 0]) (k:=W - LA) (la_new _ _) (by lia) (by lia) (by rw [sizeLine_eq]; simp; lia)
 rw [reps0] at m1
 have k1':lenF [.loc n] (st ++ [Cell.lst [.int 0]]) = .ok (.int LA) (st ++ [Cell.lst [.int 0]]):=by rw [len_loc (it_of (la_old l1 _)),len_ints,hLA]
 have a1:=add_ll (st:=st ++ [Cell.lst [.int 0]] ++ [rowC (List.replicate (W - LA).toNat 0)]) (n:=n) (m:=(st ++ [Cell.lst [.int 0]]).length) (us:=as.map Val.int) (ws:=(List.replicate (W - LA).toNat (0:Int)).map Val.int) (la_old (la_old l1 _) _) (la_new _ _) (by rw [len_ints,len_ints,List.length_replicate,sizeLine_eq]; lia)
 rw [← List.map_append] at a1
 have F3:Fr st (st ++ [Cell.lst [.int 0]] ++ [rowC (List.replicate (W - LA).toNat 0)] ++ [rowC (as ++ List.replicate (W - LA).toNat 0)]):=((Fr.app st _).more _).more _
 have lA:=la_new (st ++ [Cell.lst [.int 0]] ++ [rowC (List.replicate (W - LA).toNat 0)]) ((as ++ List.replicate (W - LA).toNat 0).map Val.int)
 obtain ⟨s3,hs3⟩:∃ s,st ++ [Cell.lst [.int 0]] ++ [rowC (List.replicate (W - LA).toNat 0)] ++ [rowC (as ++ List.replicate (W - LA).toNat 0)] = s:=⟨_,rfl⟩
 obtain ⟨K,hK⟩:∃ K,(st ++ [Cell.lst [.int 0]] ++ [rowC (List.replicate (W - LA).toNat 0)]).length = K:=⟨_,rfl⟩
 rw [hs3,hK] at lA
 rw [hs3] at F3
 refine hNO ?_; clear hNO
 have a1':addV (.loc n) (.loc (st ++ [Cell.lst [.int 0]]).length) (st ++ [Cell.lst [.int 0]] ++ [Cell.lst ((List.replicate (W - LA).toNat (0:Int)).map Val.int)]) = .ok (.loc K) s3:=by rw [← hK,← hs3]; exact a1
 have l2':=F3 _ _ l2
 -- the second one
 refine bcn fun hNO => ?_
 have m2:=mul_li (st:=s3 ++ [Cell.lst [.int 0]]) (n:=s3.length) (us:=[.int 0]) (k:=W - LB) (la_new _ _) (by lia) (by lia) (by rw [sizeLine_eq]; simp; lia)
 rw [reps0] at m2
 have k2':lenF [.loc m] (s3 ++ [Cell.lst [.int 0]]) = .ok (.int LB) (s3 ++ [Cell.lst [.int 0]]):=by rw [len_loc (it_of (la_old l2' _)),len_ints,hLB]
 have a2:=add_ll (st:=s3 ++ [Cell.lst [.int 0]] ++ [rowC (List.replicate (W - LB).toNat 0)]) (n:=m) (m:=(s3 ++ [Cell.lst [.int 0]]).length) (us:=bs.map Val.int) (ws:=(List.replicate (W - LB).toNat (0:Int)).map Val.int) (la_old (la_old l2' _) _) (la_new _ _) (by rw [len_ints,len_ints,List.length_replicate,sizeLine_eq]; lia)
 rw [← List.map_append] at a2
 have F6:Fr s3 (s3 ++ [Cell.lst [.int 0]] ++ [rowC (List.replicate (W - LB).toNat 0)] ++ [rowC (bs ++ List.replicate (W - LB).toNat 0)]):=((Fr.app s3 _).more _).more _
 have lB:=la_new (s3 ++ [Cell.lst [.int 0]] ++ [rowC (List.replicate (W - LB).toNat 0)]) ((bs ++ List.replicate (W - LB).toNat 0).map Val.int)
 obtain ⟨s6,hs6⟩:∃ s,s3 ++ [Cell.lst [.int 0]] ++ [rowC (List.replicate (W - LB).toNat 0)] ++ [rowC (bs ++ List.replicate (W - LB).toNat 0)] = s:=⟨_,rfl⟩
 obtain ⟨M,hM⟩:∃ K,(s3 ++ [Cell.lst [.int 0]] ++ [rowC (List.replicate (W - LB).toNat 0)]).length = K:=⟨_,rfl⟩
 rw [hs6,hM] at lB
 rw [hs6] at F6
 refine hNO ?_; clear hNO
 have a2':addV (.loc m) (.loc (s3 ++ [Cell.lst [.int 0]]).length) (s3 ++ [Cell.lst [.int 0]] ++ [Cell.lst ((List.replicate (W - LB).toNat (0:Int)).map Val.int)]) = .ok (.loc M) s6:=by rw [← hM,← hs6]; exact a2
 have lA':=F6 _ _ lA
 have le:=lin_eq as bs 1 (k:=(W - LA).toNat) (l:=(W - LB).toNat) (by lia) (by lia)
 have zz:=zip_ll (it_of lA') (it_of lB)
 rw [zipL_ints] at zz
 revert lA' lB zz le
 generalize as ++ List.replicate (W - LA).toNat 0 = A
 generalize bs ++ List.replicate (W - LB).toNat 0 = B
 intro lB lA' le zz
 have hc:=compL_map (g:=fun st2 => itemsOf st2 K = some (A.map Val.int) ∧ itemsOf st2 M = some (B.map Val.int)) (a:=aTup [aName 0,aName 1]) (e:=mBin modV (mBin addV (mVar 0) (mVar 1)) (mVar 2)) (st:=s6) ⟨it_of lA',it_of lB⟩ (fun τ => ∃ x y,τ = [x,y,some (.int p)]) pr (fun (q:Int × Int) => .int ((q.1 + q.2).fmod p)) (A.zip B) [none,none,some (.int p)] [] ⟨_,_,rfl⟩ (by
  rintro ⟨a,b⟩ _ τ ⟨x,y,rfl⟩
  exact ⟨_,rfl,⟨_,_,rfl⟩,by simp only [bnd_ok,ev_bin,k_bin,k_bin2,add_ii,var_i,var_s,List.set_cons_zero,List.set_cons_succ,mod_ii (prB_ne hp)]⟩)
 have ex:((A.zip B).map fun (q:Int × Int) => Val.int ((q.1 + q.2).fmod p)) = (((linF as bs 1).map (·.fmod p))).map Val.int:=by
  rw [← le,List.map_map,List.map_map]
  refine List.map_congr_left fun q _ => ?_
  show Val.int ((q.1 + q.2).fmod p) = Val.int ((q.1 + 1 * q.2).fmod p)
  rw [Int.one_mul]
 rw [List.nil_append,ex] at hc
 have hcap:capM 2 [0] [some (.int p),some (.loc K),some (.loc M),some (.int W)] = [none,none,some (.int p)]:=rfl
 have hz:((A.zip B).map pr).length ≤ 16777216:=by
  have e:=congrArg List.length le
  rw [List.length_map,linF_len] at e
  rw [List.length_map,e]; lia
 have lc:=law_cut_ok (it_of (la_new s6 (((linF as bs 1).map (·.fmod p)).map Val.int)))
 have R0:=Row.of hp0 (linF as bs 1)
 refine ⟨s6 ++ [rowC ((linF as bs 1).map (·.fmod p))] ++ [rowC (cutZ ((linF as bs 1).map (·.fmod p)))],(s6 ++ [rowC ((linF as bs 1).map (·.fmod p))]).length,cutZ ((linF as bs 1).map (·.fmod p)),?_,((F3.trans F6).more _).more _,?_,la_new _ _,R0,fun k => ?_⟩
 ·simp only [PM.law_sum,ev_fn,bnd_ok,sbn_ok,thn_nx,fin_rt,ev_bin,k_bin,k_bin2,k_cons,k_cons2,k_lst,k_ret,k_set,k_new,k_comp,ev_C,ev_nil,ev_cons,ev_lst,ev_call,ev_seq,ev_ret,ev_set,ev_comp,ev_zip,sub_ii,var_i,var_l,var_s,List.map_cons,List.map_nil,List.cons_append,List.nil_append,List.replicate_succ,List.replicate_zero,List.set_cons_zero,List.set_cons_succ,Nat.reduceSub,List.length_cons,List.length_nil,Nat.reduceAdd,sizeLine_eq,Nat.reduceLeDiff,↓reduceIte,max_ii,k1,k2,emx,k1',m1,a1',k2',m2,a2',zz,hcap,hc,if_pos hz,lc]
 ·have:=(F3.trans F6).len
  rw [List.length_append]; lia
 ·have:=Row.cg hp0 (linF as bs 1) k
  rw [linF_cf,Int.one_mul] at this
  exact this
end PG
namespace PG
open PySem PySem.Spec L2 MN
open PyProof.Rows hiding St kindOf
theorem eqD_rows {st:Store} {a b:Nat} {R:List Int} (h1:st[a]? = some (rowC R)) (h2:st[b]? = some (rowC R)):eqD 15 st (.loc a) (.loc b) = some true:=by
 unfold eqD
 simp only [vw,it_of h1,it_of h2]
 exact eqDs_self st 13 _ (pureDs_ints 13 R)
theorem eqDs_rows {st:Store}:∀ {ls ms:List Nat} {Rs:List (List Int)},RowsAt st ls Rs → RowsAt st ms Rs → eqDs (eqD 15 st) (ls.map Val.loc) (ms.map Val.loc) = some true
 | [],[],_,_,_ => rfl
 | [],_ :: _,Rs,h1,h2 => by have:=h1.1; have:=h2.1; simp at *; lia
 | _ :: _,[],Rs,h1,h2 => by have:=h1.1; have:=h2.1; simp at *; lia
 | l :: ls,m :: ms,[],h1,_ => by have:=h1.1; simp at this
 | l :: ls,m :: ms,R :: Rs,h1,h2 => by
  rw [List.map_cons,List.map_cons]
  unfold eqDs
  rw [eqD_rows (h1.2 0 l R rfl rfl) (h2.2 0 m R rfl rfl),eqDs_rows h1.tail h2.tail]
  rfl
theorem RowsAt.nil (st:Store):RowsAt st [] []:=⟨rfl,fun i l R h _ => by simp at h⟩
theorem RowsAt.cons {st:Store} {l:Nat} {ls:List Nat} {R:List Int} {Rs:List (List Int)} (h:st[l]? = some (rowC R)) (r:RowsAt st ls Rs):RowsAt st (l :: ls) (R :: Rs):=⟨by rw [List.length_cons,List.length_cons,r.1],fun i l' R' h1 h2 => by
 cases i with
 | zero => cases h1; cases h2; exact h
 | succ i => exact r.2 i l' R' h1 h2⟩
end PG
namespace PG
open PySem PySem.Spec L2 MN
open PyProof.Rows hiding St kindOf
theorem mF_out {as bs:List Int} {k:Nat} (h:as.length + bs.length ≤ k + 1):mF as (cf bs) k = 0:=by
 rw [← psum_mF]; exact psum_out as bs k as.length h
theorem cf_prod (as bs:List Int) (k:Nat):cf (prodL as bs) k = mF as (cf bs) k:=by
 unfold prodL
 rw [cf_rng (as.length + bs.length - 1) (fun k => psum as bs as.length k),psum_mF]
 split
 ·rfl
 ·rw [mF_out (by lia)]
noncomputable def prdR (p:Int) (as bs:List Int):List Int:=if as = [] ∨ bs = [] then [] else cutZ ((prodL as bs).map (·.fmod p))
theorem mF_nil (f:Cf) (k:Nat):mF [] f k = 0:=rfl
theorem mF_zero (as:List Int) (k:Nat):mF as (cf []) k = 0:=by rw [mF_sym]; rfl
theorem prdR_cg {p:Int} (hp:0 < p) (as bs:List Int):CgF p (cf (prdR p as bs)) (mF as (cf bs)):=by
 unfold prdR
 split
 ·rename_i h
  rcases h with rfl | rfl
  ·exact CgF.of_eq fun k => by rw [cf_nil,mF_nil]
  ·exact CgF.of_eq fun k => by rw [cf_nil,mF_zero]
 ·exact (Row.cg hp _).trans (CgF.of_eq (cf_prod as bs))
theorem prdR_len (p:Int) (as bs:List Int):(prdR p as bs).length ≤ as.length + bs.length - 1 ∧ (as = [] → (prdR p as bs).length = 0):=by
 unfold prdR
 split
 ·exact ⟨by simp,fun _ => rfl⟩
 ·rename_i h
  refine ⟨?_,fun z => absurd (.inl z) h⟩
  refine Nat.le_trans (cut_len _) ?_
  rw [List.length_map,prodL_len]; exact Nat.le_refl _
noncomputable def subR (p:Int) (as bs:List Int):List Int:=cutZ ((linF as bs (-1)).map (·.fmod p))
theorem subR_cg {p:Int} (hp:0 < p) (as bs:List Int):CgF p (cf (subR p as bs)) (fun k => cf as k - cf bs k):=(Row.cg hp _).trans (CgF.of_eq fun k => by rw [linF_cf]; lia)
theorem subR_len (p:Int) (as bs:List Int):(subR p as bs).length ≤ max as.length bs.length:=by
 refine Nat.le_trans (cut_len _) ?_
 rw [List.length_map,linF_len]; exact Nat.le_refl _
noncomputable def mulR (p f:Int) (as:List Int):List Int:=cutZ ((as.map (· * f)).map (·.fmod p))
theorem mulR_cg {p:Int} (hp:0 < p) (f:Int) (as:List Int):CgF p (cf (mulR p f as)) (fun k => f * cf as k):=(Row.cg hp _).trans (CgF.of_eq fun k => by rw [cf_map (· * f) (Int.zero_mul f),Int.mul_comm])
theorem mulR_len (p f:Int) (as:List Int):(mulR p f as).length ≤ as.length:=by
 refine Nat.le_trans (cut_len _) ?_
 rw [List.length_map,List.length_map]; exact Nat.le_refl _
theorem CgF.sub {p:Int} {f g f' g':Cf} (h:CgF p f g) (h':CgF p f' g'):CgF p (fun k => f k - f' k) (fun k => g k - g' k):=fun k => by
 have:=(h k).add (h' k).neg
 rw [show f k + -f' k = f k - f' k by lia,show g k + -g' k = g k - g' k by lia] at this
 exact this
theorem CgF.smul {p:Int} {f g:Cf} (c:Int) (h:CgF p f g):CgF p (fun k => c * f k) (fun k => c * g k):=fun k => (h k).mull c
theorem mF_sub (f g:Cf) (as:List Int) (k:Nat):mF as (fun j => f j - g j) k = mF as f k - mF as g k:=by
 have h1:=mF_add f (fun j => -1 * g j) as k
 rw [mF_mul,mF_congr (g:=fun j => f j - g j) (fun j => by show f j + -1 * g j = f j - g j; lia)] at h1
 lia
theorem sub_times {p:Int} {u u0 q u1:List Int} (h:CgF p (cf u) (fun k => cf u0 k - mF q (cf u1) k)) (A:List Int):CgF p (mF u (cf A)) (fun k => mF u0 (cf A) k - mF q (mF u1 (cf A)) k):=by
 refine (CgF.of_eq (mF_sym u A)).trans ((h.mF A).trans (CgF.of_eq fun k => ?_))
 rw [mF_sub,mF_sym A u0,mF_comm (cf u1) A q,mF_congr (mF_sym A u1)]
theorem add_times {p:Int} {u u0 u1:List Int} (h:CgF p (cf u) (fun k => cf u0 k + cf u1 k)) (A:List Int):CgF p (mF u (cf A)) (fun k => mF u0 (cf A) k + mF u1 (cf A) k):=by
 refine (CgF.of_eq (mF_sym u A)).trans ((h.mF A).trans (CgF.of_eq fun k => ?_))
 rw [mF_add,mF_sym A u0,mF_sym A u1]
theorem mul_times {p c:Int} {u u0:List Int} (h:CgF p (cf u) (fun k => c * cf u0 k)) (A:List Int):CgF p (mF u (cf A)) (fun k => c * mF u0 (cf A) k):=by
 refine (CgF.of_eq (mF_sym u A)).trans ((h.mF A).trans (CgF.of_eq fun k => ?_))
 rw [mF_mul,mF_sym A u0]
theorem prod_times (x q A:List Int) (k:Nat):mF (prodL x q) (cf A) k = mF x (mF q (cf A)) k:=by
 rw [mF_sym,mF_congr (cf_prod x q),mF_comm (cf q) A x,mF_congr (mF_sym A q)]
theorem mF_top:∀ (as bs:List Int),as ≠ [] → bs ≠ [] → mF as (cf bs) (as.length - 1 + (bs.length - 1)) = lastI as * lastI bs
 | [],_,h,_ => absurd rfl h
 | [a],bs,_,hb => by
  show a * cf bs (0 + (bs.length - 1)) + shf (fun _ => 0) (0 + (bs.length - 1)) = a * lastI bs
  rw [Nat.zero_add]
  have:shf (fun _ => (0:Int)) (bs.length - 1) = 0:=by cases bs.length - 1 <;> rfl
  rw [this,Int.add_zero]; rfl
 | a :: a' :: as,bs,_,hb => by
  have hb0:0 < bs.length:=List.length_pos_iff.mpr hb
  have ih:=mF_top (a' :: as) bs (by simp) hb
  show a * cf bs ((a :: a' :: as).length - 1 + (bs.length - 1)) + shf (mF (a' :: as) (cf bs)) ((a :: a' :: as).length - 1 + (bs.length - 1)) = _
  rw [show (a :: a' :: as).length - 1 + (bs.length - 1) = ((a' :: as).length - 1 + (bs.length - 1)) + 1 by simp; lia]
  show a * cf bs _ + mF (a' :: as) (cf bs) ((a' :: as).length - 1 + (bs.length - 1)) = _
  rw [ih,cf_out (by simp; lia),Int.mul_zero,Int.zero_add]
  rfl
theorem Row.last {p:Int} (hp:0 < p) {as:List Int} (h:Row p as) (hn:as ≠ []):0 < lastI as ∧ lastI as < p:=by
 have h1:=cut_last h.cut hn
 have h2:=h.cfr hp (as.length - 1)
 have e:lastI as = cf as (as.length - 1):=rfl
 rw [e]; lia
theorem rest_nought {p:Int} (hp:0 < p) {r x G:List Int} (hr:Row p r) (hG:G ≠ []) (h1:lastI G = 1) (hl:r.length < G.length) (h:CgF p (cf r) (mF x (cf G))):r = []:=by
 have hG0:0 < G.length:=List.length_pos_iff.mpr hG
 have hX:=Row.of hp x
 have cX:=Row.cg hp x
 have h':CgF p (cf r) (mF (cutZ (x.map (·.fmod p))) (cf G)):=h.trans (CgF.mFl cX G).symm
 revert hX h'
 generalize cutZ (x.map (·.fmod p)) = X
 intro hX h'
 by_cases hXe:X = []
 ·subst hXe
  exact Row.ext hp hr (Row.nil p) (h'.trans (CgF.of_eq fun k => by rw [cf_nil,mF_nil]))
 ·exfalso
  have t:=mF_top X G hXe hG
  rw [h1,Int.mul_one] at t
  have q:=h' (X.length - 1 + (G.length - 1))
  rw [t,cf_out (by lia)] at q
  have e:=Cg.eq hp q
  have l:=hX.last hp hXe
  rw [fmod_small (by lia) l.2,fmod_small (Int.le_refl _) hp] at e
  lia
structure MetInv (p:Int) (A B:List Int) (N:Nat) (g0 u0 v0 g1 u1 v1:List Int):Prop where
 r0:Row p g0
 ru0:Row p u0
 rv0:Row p v0
 r1:Row p g1
 ru1:Row p u1
 rv1:Row p v1
 c0:CgF p (cf g0) (fun k => mF u0 (cf A) k + mF v0 (cf B) k)
 c1:CgF p (cf g1) (fun k => mF u1 (cf A) k + mF v1 (cf B) k)
 ne:g0 ≠ [] ∨ g1 ≠ []
 mA:∃ x0 x1,CgF p (cf A) (fun k => mF x0 (cf g0) k + mF x1 (cf g1) k)
 mB:∃ x0 x1,CgF p (cf B) (fun k => mF x0 (cf g0) k + mF x1 (cf g1) k)
 lu1:u1.length + g0.length ≤ N
 lv1:v1.length + g0.length ≤ N
 lu0:u0.length + g1.length ≤ N
 lv0:v0.length + g1.length ≤ N
theorem one_row {p:Int} (hp:2 ≤ p):Row p [1]:=⟨rfl,fun a h => by rw [List.mem_singleton.mp h]; lia⟩
theorem MetInv.start {p:Int} (hp:2 ≤ p) {A B:List Int} (hA:Row p A) (hB:Row p B) (hn:A ≠ [] ∨ B ≠ []):MetInv p A B (A.length + B.length + 1) A [1] [] B [] [1] where
 r0:=hA
 ru0:=one_row hp
 rv0:=Row.nil p
 r1:=hB
 ru1:=Row.nil p
 rv1:=one_row hp
 c0:=CgF.of_eq fun k => by rw [mF_nil,mF_sym]; show _ = mF A one k + 0; rw [mF_one]; lia
 c1:=CgF.of_eq fun k => by rw [mF_nil,mF_sym]; show _ = 0 + mF B one k; rw [mF_one]; lia
 ne:=hn
 mA:=⟨[1],[],CgF.of_eq fun k => by rw [mF_nil,mF_sym]; show _ = mF A one k + 0; rw [mF_one]; lia⟩
 mB:=⟨[],[1],CgF.of_eq fun k => by rw [mF_nil,mF_sym]; show _ = 0 + mF B one k; rw [mF_one]; lia⟩
 lu1:=by simp; lia
 lv1:=by simp; lia
 lu0:=by simp; lia
 lv0:=by simp; lia
theorem comb {p:Int} {C g0 q g1 r x0 x1:List Int} (h:CgF p (cf C) (fun k => mF x0 (cf g0) k + mF x1 (cf g1) k)) (hd:CgF p (cf g0) (fun k => mF q (cf g1) k + cf r k)):∃ y0 y1,CgF p (cf C) (fun k => mF y0 (cf g1) k + mF y1 (cf r) k):=by
 refine ⟨linF (prodL x0 q) x1 1,x0,h.trans ?_⟩
 have e1:CgF p (mF x0 (cf g0)) (fun k => mF x0 (mF q (cf g1)) k + mF x0 (cf r) k):=(hd.mF x0).trans (CgF.of_eq fun k => by rw [mF_add])
 have e2:CgF p (mF (linF (prodL x0 q) x1 1) (cf g1)) (fun k => mF (prodL x0 q) (cf g1) k + mF x1 (cf g1) k):=add_times (CgF.of_eq fun k => by rw [linF_cf]; lia) g1
 refine (CgF.add e1 (CgF.refl p _)).trans ?_
 refine CgF.trans ?_ (CgF.add e2 (CgF.refl p _)).symm
 refine CgF.of_eq fun k => ?_
 show mF x0 (mF q (cf g1)) k + mF x0 (cf r) k + mF x1 (cf g1) k = mF (prodL x0 q) (cf g1) k + mF x1 (cf g1) k + mF x0 (cf r) k
 rw [prod_times]; lia
theorem resR_len (p:Int) (as bs:List Int):(resR p as bs).length ≤ as.length:=by
 unfold resR
 refine Nat.le_trans (cut_len _) ?_
 rw [List.length_map,(dv_len _ _ _ _ _ _).2]; exact Nat.le_refl _
theorem MetInv.step {p:Int} (hp:prB p = true) {A B:List Int} {N:Nat} {g0 u0 v0 g1 u1 v1:List Int} (h:MetInv p A B N g0 u0 v0 g1 u1 v1) (hg:g1 ≠ []) :
  MetInv p A B N g1 u1 v1 (resR p g0 g1) (subR p u0 (prdR p (quoR p g0 g1) u1)) (subR p v0 (prdR p (quoR p g0 g1) v1)):=by
 refine bcn fun hNO => ?_
 have hr:=prB_range hp
 have hp0:0 < p:=by lia
 have hl:¬ lastI g1 % p = 0:=by
  have:=h.r1.last hp0 hg
  rw [Int.emod_eq_of_lt (by lia) this.2]; lia
 obtain ⟨sq,sr,slt,sc,sl⟩:=div_spec hp (as:=g0) hg hl
 have srl:=resR_len p g0 g1
 obtain ⟨Q,hQ⟩:∃ Q,quoR p g0 g1 = Q:=⟨_,rfl⟩
 obtain ⟨R,hR⟩:∃ R,resR p g0 g1 = R:=⟨_,rfl⟩
 refine hNO ?_; clear hNO
 rw [hQ] at sq sc sl ⊢
 rw [hR] at sr slt sc srl ⊢
 have cu:CgF p (cf (subR p u0 (prdR p Q u1))) (fun k => cf u0 k - mF Q (cf u1) k):=(subR_cg hp0 _ _).trans (CgF.sub (CgF.refl p _) (prdR_cg hp0 Q u1))
 have cv:CgF p (cf (subR p v0 (prdR p Q v1))) (fun k => cf v0 k - mF Q (cf v1) k):=(subR_cg hp0 _ _).trans (CgF.sub (CgF.refl p _) (prdR_cg hp0 Q v1))
 have len:∀ (w0 w1:List Int),w1.length + g0.length ≤ N → w0.length + g1.length ≤ N → (subR p w0 (prdR p Q w1)).length + g1.length ≤ N:=fun w0 w1 i1 i2 => by
  have a1:=subR_len p w0 (prdR p Q w1)
  have a2:=prdR_len p Q w1
  by_cases hQe:Q = []
  ·have:=a2.2 hQe; lia
  ·have:0 < Q.length:=List.length_pos_iff.mpr hQe
   have:=a2.1
   lia
 refine ⟨h.r1,h.ru1,h.rv1,sr,Row.of hp0 _,Row.of hp0 _,h.c1,?_,.inl hg,?_,?_,len u0 u1 h.lu1 h.lu0,len v0 v1 h.lv1 h.lv0,?_,?_⟩
 ·-- the rest
  have e:CgF p (cf R) (fun k => cf g0 k - mF Q (cf g1) k):=fun k => by
   have:=(sc k).symm.add (Cg.refl p (-(mF Q (cf g1) k)))
   rw [show mF Q (cf g1) k + cf R k + -mF Q (cf g1) k = cf R k by lia,show cf g0 k + -mF Q (cf g1) k = cf g0 k - mF Q (cf g1) k by lia] at this
   exact this
  refine e.trans ((CgF.sub h.c0 (h.c1.mF Q)).trans ?_)
  refine CgF.trans ?_ (CgF.add (sub_times cu A) (sub_times cv B)).symm
  refine CgF.of_eq fun k => ?_
  show mF u0 (cf A) k + mF v0 (cf B) k - mF Q (fun k => mF u1 (cf A) k + mF v1 (cf B) k) k = mF u0 (cf A) k - mF Q (mF u1 (cf A)) k + (mF v0 (cf B) k - mF Q (mF v1 (cf B)) k)
  rw [mF_add]; lia
 ·obtain ⟨x0,x1,hx⟩:=h.mA; exact comb hx sc
 ·obtain ⟨x0,x1,hx⟩:=h.mB; exact comb hx sc
 ·have:=h.lu1; lia
 ·have:=h.lv1; lia
theorem plain_of {p t:Int} (hp:2 ≤ p) {g:List Int} (hg:Row p g) (hn:g ≠ []) (ht:(t * lastI g) % p = 1):Row p (mulR p t g) ∧ mulR p t g ≠ [] ∧ lastI (mulR p t g) = 1 ∧ (mulR p t g).length = g.length:=by
 have hp0:0 < p:=by lia
 have hg0:0 < g.length:=List.length_pos_iff.mpr hn
 have r:=Row.of hp0 (g.map (· * t))
 have c:cf (mulR p t g) (g.length - 1) = 1:=by
  unfold mulR
  rw [cf_cut,cf_map _ (by rw [fmod_pos hp0]; exact Int.zero_emod p),cf_map (· * t) (Int.zero_mul t),fmod_pos hp0,Int.mul_comm]
  exact ht
 have l1:=mulR_len p t g
 have l2:¬ (mulR p t g).length ≤ g.length - 1:=fun z => by rw [cf_out z] at c; lia
 have l:(mulR p t g).length = g.length:=by lia
 refine ⟨r,fun z => by rw [z] at l; simp at l; lia,?_,l⟩
 show cf (mulR p t g) ((mulR p t g).length - 1) = 1
 rw [l]; exact c
theorem MetInv.done {p t:Int} (hp:prB p = true) {A B:List Int} {N:Nat} {g u v u1 v1:List Int} (h:MetInv p A B N g u v [] u1 v1) (hA:Row p A) (hB:Row p B) (ht:(t * lastI g) % p = 1) :
  Row p (mulR p t g) ∧ mulR p t g ≠ [] ∧ lastI (mulR p t g) = 1 ∧ CgF p (cf A) (mF (quoR p A (mulR p t g)) (cf (mulR p t g))) ∧ CgF p (cf B) (mF (quoR p B (mulR p t g)) (cf (mulR p t g))) ∧
   CgF p (cf (mulR p t g)) (fun k => mF (mulR p t u) (cf A) k + mF (mulR p t v) (cf B) k):=by
 have hr:=prB_range hp
 have hp0:0 < p:=by lia
 have hg:g ≠ []:=by rcases h.ne with z | z; exact z; exact absurd rfl z
 refine bcn fun hNO => ?_
 obtain ⟨rG,nG,lG,leG⟩:=plain_of hr.1 h.r0 hg ht
 have cG:=mulR_cg hp0 t g
 refine hNO ?_; clear hNO
 have hl:¬ lastI (mulR p t g) % p = 0:=by rw [lG,Int.emod_eq_of_lt (by lia) (by lia)]; lia
 have one:∀ C:List Int,Row p C → (∃ x0 x1,CgF p (cf C) (fun k => mF x0 (cf g) k + mF x1 (cf []) k)) → CgF p (cf C) (mF (quoR p C (mulR p t g)) (cf (mulR p t g))):=fun C hC hx => by
  obtain ⟨x0,x1,hx⟩:=hx
  obtain ⟨sq,sr,slt,sc,sl⟩:=div_spec hp (as:=C) nG hl
  -- g is a multiple of the plain one
  have cg:CgF p (cf g) (fun k => lastI g * cf (mulR p t g) k):=fun k => by
   have c1:Cg p (t * lastI g) 1:=⟨t * lastI g / p,by have:=Int.emod_add_mul_ediv (t * lastI g) p; lia⟩
   have c2:=(cG k).mull (lastI g)
   have c3:=c1.mulr (cf g k)
   rw [Int.one_mul,show t * lastI g * cf g k = lastI g * (t * cf g k) by rw [← Int.mul_assoc,Int.mul_comm (lastI g) t]] at c3
   exact (c2.trans c3).symm
  have cx:CgF p (cf C) (mF (x0.map (lastI g * ·)) (cf (mulR p t g))):=by
   refine hx.trans ?_
   have e1:CgF p (mF x0 (cf g)) (fun k => lastI g * mF x0 (cf (mulR p t g)) k):=(cg.mF x0).trans (CgF.of_eq fun k => by rw [mF_mul])
   have e2:CgF p (mF (x0.map (lastI g * ·)) (cf (mulR p t g))) (fun k => lastI g * mF x0 (cf (mulR p t g)) k):=mul_times (CgF.of_eq fun k => by rw [cf_map (lastI g * ·) (Int.mul_zero _)]) _
   refine CgF.trans ?_ e2.symm
   refine CgF.trans ?_ e1
   exact CgF.of_eq fun k => by show mF x0 (cf g) k + mF x1 (cf []) k = _; rw [mF_zero,Int.add_zero]
  have cr:CgF p (cf (resR p C (mulR p t g))) (mF (linF (x0.map (lastI g * ·)) (quoR p C (mulR p t g)) (-1)) (cf (mulR p t g))):=by
   have e3:CgF p (mF (linF (x0.map (lastI g * ·)) (quoR p C (mulR p t g)) (-1)) (cf (mulR p t g))) (fun k => mF (x0.map (lastI g * ·)) (cf (mulR p t g)) k - mF (quoR p C (mulR p t g)) (cf (mulR p t g)) k):=by
    refine (CgF.of_eq (mF_sym _ _)).trans (CgF.of_eq fun k => ?_)
    rw [mF_congr (g:=fun j => cf (x0.map (lastI g * ·)) j - cf (quoR p C (mulR p t g)) j) (fun j => by rw [linF_cf]; lia),mF_sub,mF_sym _ (x0.map _),mF_sym _ (quoR p C _)]
   refine CgF.trans (fun k => ?_) e3.symm
   have:=((sc k).symm.trans (cx k)).add (Cg.refl p (-(mF (quoR p C (mulR p t g)) (cf (mulR p t g)) k)))
   rw [show mF (quoR p C (mulR p t g)) (cf (mulR p t g)) k + cf (resR p C (mulR p t g)) k + -mF (quoR p C (mulR p t g)) (cf (mulR p t g)) k = cf (resR p C (mulR p t g)) k by lia] at this
   show Cg p _ (mF (x0.map (lastI g * ·)) (cf (mulR p t g)) k - mF (quoR p C (mulR p t g)) (cf (mulR p t g)) k)
   rw [show mF (x0.map (lastI g * ·)) (cf (mulR p t g)) k - mF (quoR p C (mulR p t g)) (cf (mulR p t g)) k = mF (x0.map (lastI g * ·)) (cf (mulR p t g)) k + -mF (quoR p C (mulR p t g)) (cf (mulR p t g)) k by lia]
   exact this
  have z:=rest_nought hp0 sr nG lG slt cr
  rw [z] at sc
  exact sc.trans (CgF.of_eq fun k => by show mF _ _ k + cf [] k = _; rw [cf_nil,Int.add_zero])
 refine ⟨rG,nG,lG,one A hA h.mA,one B hB h.mB,?_⟩
 refine cG.trans ((h.c0.smul t).trans ?_)
 refine CgF.trans ?_ (CgF.add (mul_times (mulR_cg hp0 t u) A) (mul_times (mulR_cg hp0 t v) B)).symm
 exact CgF.of_eq fun k => by show t * (mF u (cf A) k + mF v (cf B) k) = _; rw [Int.mul_add]
end PG
namespace PG
open PySem PySem.Spec L2 MN
open PyProof.Rows hiding St kindOf
theorem at2 {x y z:Val} {r:List Val}:L2.atI (x :: y :: z :: r) 2 = some z:=L2.atI_nat (xs:=x :: y :: z :: r) (j:=2) rfl
theorem at3 {x y z w:Val} {r:List Val}:L2.atI (x :: y :: z :: w :: r) 3 = some w:=L2.atI_nat (xs:=x :: y :: z :: w :: r) (j:=3) rfl
theorem at4 {x y z w v:Val} {r:List Val}:L2.atI (x :: y :: z :: w :: v :: r) 4 = some v:=L2.atI_nat (xs:=x :: y :: z :: w :: v :: r) (j:=4) rfl
theorem row_product_fr {p:Int} (hp:prB p = true) {n m:Nat} {as bs:List Int} {st:Store} (l1:st[n]? = some (rowC as)) (l2:st[m]? = some (rowC bs)) (ha:Row p as) (hl1:as.length ≤ 100000) (hl2:bs.length ≤ 100000) :
  ∃ st' k,PM.row_product [.int p,.loc n,.loc m] st = .ok (.loc k) st' ∧ Fr st st' ∧ st.length ≤ k ∧ st'[k]? = some (rowC (prdR p as bs)):=by
 refine bcn fun hNO => ?_
 obtain ⟨g,k,e,o,l⟩:=row_product_ok (prB_ne hp) (it_of l1) (it_of l2) hl1 hl2 (ha.sm hp)
 refine hNO ?_; clear hNO
 exact ⟨st ++ g,k,e,Fr.app _ _,o,l⟩
theorem row_sub_fr {p:Int} (hp:prB p = true) {n m:Nat} {as bs:List Int} {st:Store} (l1:st[n]? = some (rowC as)) (l2:st[m]? = some (rowC bs)) (hl1:as.length ≤ 100000) (hl2:bs.length ≤ 100000) :
  ∃ st' k,PM.row_with_multiple [.int p,.loc n,.loc m,.int (-1)] st = .ok (.loc k) st' ∧ Fr st st' ∧ st.length ≤ k ∧ st'[k]? = some (rowC (subR p as bs)):=by
 refine bcn fun hNO => ?_
 obtain ⟨g,k,e,o,l⟩:=row_with_multiple_ok (f:=-1) (prB_ne hp) (it_of l1) (it_of l2) hl1 hl2 (by decide) (by decide)
 refine hNO ?_; clear hNO
 exact ⟨st ++ g,k,e,Fr.app _ _,o,l⟩
theorem row_mul_fr {p:Int} (hp:prB p = true) (t:Int) {n:Nat} {as:List Int} {st:Store} (l1:st[n]? = some (rowC as)) (ha:Row p as) (hl1:as.length ≤ 100000) :
  ∃ st' k,PM.row_multiple [.int p,.loc n,.int t] st = .ok (.loc k) st' ∧ Fr st st' ∧ st.length ≤ k ∧ st'[k]? = some (rowC (mulR p t as)):=by
 refine bcn fun hNO => ?_
 obtain ⟨g,k,e,o,l⟩:=row_multiple_ok (f:=t) (prB_ne hp) (it_of l1) hl1 (ha.sm hp)
 refine hNO ?_; clear hNO
 exact ⟨st ++ g,k,e,Fr.app _ _,o,l⟩
theorem triple_ok {p:Int} (hp:prB p = true) {A B:List Int} {N:Nat} {g0 u0 v0 g1 u1 v1:List Int} (h:MetInv p A B N g0 u0 v0 g1 u1 v1) (hN:N ≤ 50000) (hg:g1 ≠ []) {a0 a1 a2 b0 b1 b2:Nat} {st:Store}
  (la0:st[a0]? = some (rowC g0)) (la1:st[a1]? = some (rowC u0)) (la2:st[a2]? = some (rowC v0)) (lb0:st[b0]? = some (rowC g1)) (lb1:st[b1]? = some (rowC u1)) (lb2:st[b2]? = some (rowC v1)) :
  ∃ st' c0 c1 c2,PM.triple_below [.int p,.tup [.loc a0,.loc a1,.loc a2],.tup [.loc b0,.loc b1,.loc b2]] st = .ok (.tup [.loc c0,.loc c1,.loc c2]) st' ∧ Fr st st' ∧
   st'[c0]? = some (rowC (resR p g0 g1)) ∧ st'[c1]? = some (rowC (subR p u0 (prdR p (quoR p g0 g1) u1))) ∧ st'[c2]? = some (rowC (subR p v0 (prdR p (quoR p g0 g1) v1))):=by
 refine bcn fun hNO => ?_
 have hr:=prB_range hp
 have hp0:0 < p:=by lia
 have hl:¬ lastI g1 % p = 0:=by
  have:=h.r1.last hp0 hg
  rw [Int.emod_eq_of_lt (by lia) this.2]; lia
 have i1:=h.lu1
 have i2:=h.lv1
 have i3:=h.lu0
 have i4:=h.lv0
 obtain ⟨s1,k1,k2,e1,F1,_,_,_,m1,m2⟩:=parted_ok hp (it_of la0) lb0 hg hl (by lia) (by lia)
 obtain ⟨sq,sr,slt,sc,sl⟩:=div_spec hp (as:=g0) hg hl
 obtain ⟨s2,t1,e2,F2,_,n1⟩:=row_product_fr hp m1 (F1 _ _ lb1) sq (by lia) (by lia)
 obtain ⟨s3,t2,e3,F3,_,n2⟩:=row_product_fr hp (F2 _ _ m1) (F2 _ _ (F1 _ _ lb2)) sq (by lia) (by lia)
 have q1:=(prdR_len p (quoR p g0 g1) u1).1
 have q2:=(prdR_len p (quoR p g0 g1) v1).1
 have hc:compL (fun _ => True) (aName 0) tTrueM (mCall PM.row_product (mCons (mVar 3) (mCons (mBin ixV (mVar 2) (mC (.int 0))) (mCons (mBin ixV (mVar 1) (mVar 0)) mNil)))) [.int 1,.int 2] [none,some (.tup [.loc b0,.loc b1,.loc b2]),some (.tup [.loc k1,.loc k2]),some (.int p)] s1 [] = .ok [.loc t1,.loc t2] s3:=by
  rw [compL_one (u:=.int 1) (y:=.loc t1) (τ1:=[some (.int 1),some (.tup [.loc b0,.loc b1,.loc b2]),some (.tup [.loc k1,.loc k2]),some (.int p)]) (st1:=s2) trivial rfl (by simp only [bnd_ok,ev_bin,k_bin,k_bin2,k_cons,k_cons2,ev_C,ev_nil,ev_cons,ev_call,var_i,var_t,var_s,ix_tup at0,ix_tup at1,e2]),
   compL_one (u:=.int 2) (y:=.loc t2) (τ1:=[some (.int 2),some (.tup [.loc b0,.loc b1,.loc b2]),some (.tup [.loc k1,.loc k2]),some (.int p)]) (st1:=s3) trivial rfl (by simp only [bnd_ok,ev_bin,k_bin,k_bin2,k_cons,k_cons2,ev_C,ev_nil,ev_cons,ev_call,var_i,var_t,var_s,ix_tup at0,ix_tup at2,e3]),compL_end trivial]
  rfl
 have hcap:capM 1 [2,3,0] [some (.int p),some (.tup [.loc a0,.loc a1,.loc a2]),some (.tup [.loc b0,.loc b1,.loc b2]),some (.tup [.loc k1,.loc k2]),none] = [none,some (.tup [.loc b0,.loc b1,.loc b2]),some (.tup [.loc k1,.loc k2]),some (.int p)]:=rfl
 have F13:=F1.trans (F2.trans F3)
 have F4:=Fr.app s3 [Cell.lst [.loc t1,.loc t2]]
 have lt:=itemsOf_new s3 [.loc t1,.loc t2]
 obtain ⟨s4,hs4⟩:∃ s,s3 ++ [Cell.lst [.loc t1,.loc t2]] = s:=⟨_,rfl⟩
 obtain ⟨k4,hk4⟩:∃ k,s3.length = k:=⟨_,rfl⟩
 rw [hs4] at F4 lt
 rw [hk4] at lt
 obtain ⟨s5,c1,e5,F5,_,x1⟩:=row_sub_fr hp (F4 _ _ (F13 _ _ la1)) (F4 _ _ (F3 _ _ n1)) (by lia) (by lia)
 obtain ⟨s6,c2,e6,F6,_,x2⟩:=row_sub_fr hp (F5 _ _ (F4 _ _ (F13 _ _ la2))) (F5 _ _ (F4 _ _ n2)) (by lia) (by lia)
 have g1':=ix_loc lt (at0 (x:=.loc t1) (r:=[.loc t2]))
 have g2':=ix_loc (F5.it lt) (at1 (x:=.loc t1) (y:=.loc t2) (r:=[]))
 refine hNO ?_; clear hNO
 refine ⟨s6,k2,c1,c2,?_,F13.trans (F4.trans (F5.trans F6)),F6 _ _ (F5 _ _ (F4 _ _ (F3 _ _ (F2 _ _ m2)))),F6 _ _ x1,x2⟩
 simp only [PM.triple_below,ev_fn,bnd_ok,sbn_ok,thn_nx,fin_rt,ev_bin,k_bin,k_bin2,k_cons,k_cons2,k_tup,k_ret,k_set,k_new,k_comp,ev_C,ev_nil,ev_cons,ev_tup,ev_call,negV_int,ev_neg,ev_seq,ev_ret,ev_set,ev_comp,ev_iseq,walkK_tup,var_i,var_t,var_l,var_s,List.map_cons,List.map_nil,List.cons_append,List.nil_append,List.replicate_succ,List.replicate_zero,List.set_cons_zero,List.set_cons_succ,Nat.reduceSub,List.length_cons,List.length_nil,Nat.reduceAdd,sizeLine_eq,Nat.reduceLeDiff,↓reduceIte,ix_tup at0,ix_tup at1,ix_tup at2,e1,hcap,hc,hs4,hk4,g1',e5,g2',e6]
end PG
namespace PG
open PySem PySem.Spec L2 MN
open PyProof.Rows hiding St kindOf
noncomputable abbrev metT:MT:=asT (mBin gtV (mCall lenF (mCons (mBin ixV (mVar 4) (mC (.int 0))) mNil)) (mC (.int 0)))
noncomputable abbrev metB:MB:=sSeq (sSet 5 (mCall PM.triple_below (mCons (mVar 0) (mCons (mVar 3) (mCons (mVar 4) mNil))))) (sSeq (sSet 3 (mVar 4)) (sSet 4 (mVar 5)))
noncomputable def tri3 (a b c:Nat):Option Val:=some (.tup [.loc a,.loc b,.loc c])
noncomputable def msr4 (μ:MN.Env) (s:Store):Nat:=match (μ[4]?:Option (Option Val)) with
 | some (some (.tup (.loc k :: _))) => lenAt k s
 | _ => 0
structure MetAt (p:Int) (A B:List Int) (N:Nat) (n m:Nat) (st:Store) (μ:MN.Env) (s:Store) (a0 a1 a2 b0 b1 b2:Nat) (g0 u0 v0 g1 u1 v1:List Int):Prop where
 env:∃ x5,μ = [some (.int p),some (.loc n),some (.loc m),tri3 a0 a1 a2,tri3 b0 b1 b2,x5,none,none,none,none]
 fr:Fr st s
 inv:MetInv p A B N g0 u0 v0 g1 u1 v1
 la0:s[a0]? = some (rowC g0)
 la1:s[a1]? = some (rowC u0)
 la2:s[a2]? = some (rowC v0)
 lb0:s[b0]? = some (rowC g1)
 lb1:s[b1]? = some (rowC u1)
 lb2:s[b2]? = some (rowC v1)
theorem met_loop {p:Int} (hp:prB p = true) {A B:List Int} {N n m:Nat} (hN:N ≤ 50000) {st:Store} {μ:MN.Env} {s:Store} {a0 a1 a2 b0 b1 b2:Nat} {g0 u0 v0 g1 u1 v1:List Int} (h:MetAt p A B N n m st μ s a0 a1 a2 b0 b1 b2 g0 u0 v0 g1 u1 v1) :
  ∃ μ' s' a0 a1 a2 b0 b1 b2 g u v u1 v1,sWhile metT metB μ s = .nx μ' s' ∧ MetAt p A B N n m st μ' s' a0 a1 a2 b0 b1 b2 g u v [] u1 v1:=by
 refine bcn fun hNO => ?_
 obtain ⟨μ',s',e,a0,a1,a2,b0,b1,b2,g,u,v,u1,v1,hq⟩:=sWhile_inv (t:=metT) (body:=metB)
  (fun μ s => ∃ a0 a1 a2 b0 b1 b2 g0 u0 v0 g1 u1 v1,MetAt p A B N n m st μ s a0 a1 a2 b0 b1 b2 g0 u0 v0 g1 u1 v1) msr4
  (fun μ s => ∃ a0 a1 a2 b0 b1 b2 g u v u1 v1,MetAt p A B N n m st μ s a0 a1 a2 b0 b1 b2 g u v [] u1 v1)
  (by
   rintro μ s ⟨a0,a1,a2,b0,b1,b2,g0,u0,v0,g1,u1,v1,h⟩
   obtain ⟨x5,rfl⟩:=h.env
   obtain ⟨L,hL⟩:∃ L:Int,L = (g1.length:Int):=⟨_,rfl⟩
   have kl:lenF [.loc b0] s = .ok (.int L) s:=by rw [len_loc (it_of h.lb0),len_ints,hL]
   by_cases hg:g1 = []
   ·subst hg
    have h0:decide ((0:Int) < L) = false:=decide_eq_false (by rw [hL]; simp)
    refine .inl ⟨s,?_,a0,a1,a2,b0,b1,b2,g0,u0,v0,u1,v1,h⟩
    simp only [tri3,bnd_ok,ev_bin,k_bin,k_bin2,k_cons,k_cons2,ev_C,asB_bl,ev_asT,ev_nil,ev_cons,ev_call,gt_ii,var_t,var_s,ix_tup at0,kl,h0]
   ·have hg0:0 < g1.length:=List.length_pos_iff.mpr hg
    have h0:decide ((0:Int) < L) = true:=decide_eq_true (by lia)
    obtain ⟨s',c0,c1,c2,e,F,l0,l1,l2⟩:=triple_ok hp h.inv hN hg h.la0 h.la1 h.la2 h.lb0 h.lb1 h.lb2
    have hl:¬ lastI g1 % p = 0:=by
     have:=h.inv.r1.last (by have:=prB_range hp; lia) hg
     rw [Int.emod_eq_of_lt (by lia) this.2]; lia
    have slt:=(div_spec hp (as:=g0) hg hl).2.2.1
    refine .inr ⟨s,[some (.int p),some (.loc n),some (.loc m),tri3 b0 b1 b2,tri3 c0 c1 c2,tri3 c0 c1 c2,none,none,none,none],s',?_,.inl ?_,⟨b0,b1,b2,c0,c1,c2,g1,u1,v1,_,_,_,⟨_,rfl⟩,h.fr.trans F,h.inv.step hp hg,F _ _ h.lb0,F _ _ h.lb1,F _ _ h.lb2,l0,l1,l2⟩,?_⟩
    ·simp only [tri3,bnd_ok,ev_bin,k_bin,k_bin2,k_cons,k_cons2,ev_C,asB_bl,ev_asT,ev_nil,ev_cons,ev_call,gt_ii,var_t,var_s,ix_tup at0,kl,h0]
    ·simp only [tri3,bnd_ok,sbn_ok,thn_nx,k_cons,k_cons2,k_set,ev_nil,ev_cons,ev_call,ev_seq,ev_set,var_i,var_t,var_s,List.set_cons_zero,List.set_cons_succ,e]
    ·show lenAt c0 s' < lenAt b0 s
     unfold lenAt
     rw [it_of l0,it_of h.lb0]
     show ((resR p g0 g1).map Val.int).length < (g1.map Val.int).length
     rw [len_ints,len_ints]; exact slt)
  μ s ⟨a0,a1,a2,b0,b1,b2,g0,u0,v0,g1,u1,v1,h⟩
 refine hNO ?_; clear hNO
 exact ⟨μ',s',a0,a1,a2,b0,b1,b2,g,u,v,u1,v1,e,hq⟩
structure MetOut (p:Int) (A B G S T U V:List Int):Prop where
 rG:Row p G
 rS:Row p S
 rT:Row p T
 rU:Row p U
 rV:Row p V
 nG:G ≠ []
 lG:lastI G = 1
 cA:CgF p (cf A) (mF S (cf G))
 cB:CgF p (cf B) (mF T (cf G))
 cG:CgF p (cf G) (fun k => mF U (cf A) k + mF V (cf B) k)
 lens:G.length ≤ 50000 ∧ S.length ≤ 50000 ∧ T.length ≤ 50000 ∧ U.length ≤ 50000 ∧ V.length ≤ 50000
theorem met_ok {p:Int} (hp:prB p = true) {n m:Nat} {A B:List Int} {st:Store} (ln:st[n]? = some (rowC A)) (lm:st[m]? = some (rowC B)) (hA:Row p A) (hB:Row p B) (hn:A ≠ [] ∨ B ≠ []) (hl1:A.length ≤ 5000) (hl2:B.length ≤ 5000) :
  ∃ st' k1 k2 k3 k4 k5 G S T U V,PM.met [.int p,.loc n,.loc m] st = .ok (.tup [.loc k1,.loc k2,.loc k3,.loc k4,.loc k5]) st' ∧ Fr st st' ∧ MetOut p A B G S T U V ∧ RowsAt st' [k1,k2,k3,k4,k5] [G,S,T,U,V] ∧ [k1,k2,k3,k4,k5].Nodup ∧ (∀ k ∈ [k1,k2,k3,k4,k5],st.length ≤ k):=by
 refine bcn fun hNO => ?_
 have hr:=prB_range hp
 have hp0:0 < p:=by lia
 have l1:=la_old (la_old (la_old (la_new st [.int 1]) [Cell.lst []]) [Cell.lst []]) [Cell.lst [.int 1]]
 have l2:=la_old (la_old (la_new (st ++ [Cell.lst [.int 1]]) []) [Cell.lst []]) [Cell.lst [.int 1]]
 have l3:=la_old (la_new (st ++ [Cell.lst [.int 1]] ++ [Cell.lst []]) []) [Cell.lst [.int 1]]
 have l4:=la_new (st ++ [Cell.lst [.int 1]] ++ [Cell.lst []] ++ [Cell.lst []]) [.int 1]
 have F0:Fr st (st ++ [Cell.lst [.int 1]] ++ [Cell.lst []] ++ [Cell.lst []] ++ [Cell.lst [.int 1]]):=(((Fr.app st _).more _).more _).more _
 obtain ⟨i1,hi1⟩:∃ i,st.length = i:=⟨_,rfl⟩
 obtain ⟨i2,hi2⟩:∃ i,(st ++ [Cell.lst [.int 1]]).length = i:=⟨_,rfl⟩
 obtain ⟨i3,hi3⟩:∃ i,(st ++ [Cell.lst [.int 1]] ++ [Cell.lst []]).length = i:=⟨_,rfl⟩
 obtain ⟨i4,hi4⟩:∃ i,(st ++ [Cell.lst [.int 1]] ++ [Cell.lst []] ++ [Cell.lst []]).length = i:=⟨_,rfl⟩
 obtain ⟨s0,hs0⟩:∃ s,st ++ [Cell.lst [.int 1]] ++ [Cell.lst []] ++ [Cell.lst []] ++ [Cell.lst [.int 1]] = s:=⟨_,rfl⟩
 rw [hi1,hs0] at l1
 rw [hi2,hs0] at l2
 rw [hi3,hs0] at l3
 rw [hi4,hs0] at l4
 rw [hs0] at F0
 have start:MetAt p A B (A.length + B.length + 1) n m s0 [some (.int p),some (.loc n),some (.loc m),tri3 n i1 i2,tri3 m i3 i4,none,none,none,none,none] s0 n i1 i2 m i3 i4 A [1] [] B [] [1] :=
  ⟨⟨_,rfl⟩,Fr.refl _,MetInv.start hr.1 hA hB hn,F0 _ _ ln,l1,l2,F0 _ _ lm,l3,l4⟩
 obtain ⟨μ',s1,a0,a1,a2,b0,b1,b2,g,u,v,u1,v1,ew,hq⟩:=met_loop hp (by lia) start
 obtain ⟨x5,rfl⟩:=hq.env
 refine hNO ?_; clear hNO
 have hg:g ≠ []:=by rcases hq.inv.ne with z | z; exact z; exact absurd rfl z
 have hlg:=hq.inv.r0.last hp0 hg
 obtain ⟨gi,t,ei,t1,t2,t3⟩:=inverse_p_ok hp (n:=lastI g) (by rw [Int.emod_eq_of_lt (by lia) hlg.2]; lia) s1
 refine bcn fun hNO => ?_
 obtain ⟨rG,nG,lG,cA,cB,cG⟩:=hq.inv.done hp hA hB t3
 have F2:=Fr.app s1 gi
 obtain ⟨s2,hs2⟩:∃ s,s1 ++ gi = s:=⟨_,rfl⟩
 rw [hs2] at ei F2
 have j1:=hq.inv.lu1
 have j2:=hq.inv.lu0
 have j3:=hq.inv.lv0
 have gx:=ix_loc (it_of hq.la0) (at_last hg)
 obtain ⟨s3,k1,e3,F3,o1,y1⟩:=row_mul_fr hp t (F2 _ _ hq.la0) hq.inv.r0 (by lia)
 have hGl:=mulR_len p t g
 refine hNO ?_; clear hNO
 have hll:¬ lastI (mulR p t g) % p = 0:=by rw [lG,Int.emod_eq_of_lt (by lia) (by lia)]; lia
 refine bcn fun hNO => ?_
 have F03:=F0.trans (hq.fr.trans (F2.trans F3))
 obtain ⟨s4,k2,z2,e4,F4,o2,_,_,y2,_⟩:=parted_ok hp (it_of (F03 _ _ ln)) y1 nG hll (by lia) (by lia)
 obtain ⟨s5,k3,z3,e5,F5,o3,_,_,y3,_⟩:=parted_ok hp (it_of (F4 _ _ (F03 _ _ lm))) (F4 _ _ y1) nG hll (by lia) (by lia)
 have F25:=F2.trans (F3.trans (F4.trans F5))
 obtain ⟨s6,k4,e6,F6,o4,y4⟩:=row_mul_fr hp t (F25 _ _ hq.la1) hq.inv.ru0 (by lia)
 obtain ⟨s7,k5,e7,F7,o5,y5⟩:=row_mul_fr hp t (F6 _ _ (F25 _ _ hq.la2)) hq.inv.rv0 (by lia)
 have F37:=F4.trans (F5.trans (F6.trans F7))
 have F07:=F03.trans F37
 obtain ⟨qA,_,_,_,qlA⟩:=div_spec hp (as:=A) nG hll
 obtain ⟨qB,_,_,_,qlB⟩:=div_spec hp (as:=B) nG hll
 have lu:=mulR_len p t u
 have lv:=mulR_len p t v
 have w1:=getL_lt y1
 have w2:=getL_lt y2
 have w3:=getL_lt y3
 have w4:=getL_lt y4
 have w5:=getL_lt y5
 have n3:st.length ≤ s2.length:=(F0.trans (hq.fr.trans F2)).len
 have f4:=F4.len
 have f5:=F5.len
 have f6:=F6.len
 have f3:=F3.len
 refine hNO ?_; clear hNO
 refine ⟨s7,k1,k2,k3,k4,k5,mulR p t g,quoR p A (mulR p t g),quoR p B (mulR p t g),mulR p t u,mulR p t v,?_,F07,⟨rG,qA,qB,Row.of hp0 _,Row.of hp0 _,nG,lG,cA,cB,cG,by lia⟩,?_,?_,?_⟩
 ·have ew':sWhile metT metB [some (.int p),some (.loc n),some (.loc m),some (.tup [.loc n,.loc i1,.loc i2]),some (.tup [.loc m,.loc i3,.loc i4]),none,none,none,none,none] s0 = .nx [some (.int p),some (.loc n),some (.loc m),tri3 a0 a1 a2,tri3 b0 b1 b2,x5,none,none,none,none] s1:=ew
  simp only [PM.met,ev_fn,bnd_ok,sbn_ok,thn_nx,fin_rt,ev_bin,k_bin,k_bin2,k_cons,k_cons2,k_tup,k_lst,k_ret,k_set,ev_C,ev_nil,ev_cons,ev_tup,ev_lst,ev_call,negV_int,ev_neg,ev_seq,ev_ret,ev_set,var_i,var_t,var_l,var_s,List.map_cons,List.map_nil,List.cons_append,List.nil_append,List.replicate_succ,List.replicate_zero,List.set_cons_zero,List.set_cons_succ,Nat.reduceSub,List.length_cons,List.length_nil,Nat.reduceAdd,sizeLine_eq,Nat.reduceLeDiff,↓reduceIte,hi1,hi2,hi3,hi4,hs0,ew',tri3,ix_tup at0,ix_tup at1,ix_tup at2,gx,ei,e3,e4,e5,e6,e7]
 ·exact .cons (F37 _ _ y1) (.cons ((F5.trans (F6.trans F7)) _ _ y2) (.cons ((F6.trans F7) _ _ y3) (.cons (F7 _ _ y4) (.cons y5 (.nil _)))))
 ·simp only [List.nodup_cons,List.mem_cons,List.not_mem_nil,or_false,not_or,List.nodup_nil,and_true,not_false_eq_true]
  lia
 ·intro k hk
  simp only [List.mem_cons,List.not_mem_nil,or_false] at hk
  lia
theorem meet_ok {p:Int} (hp:prB p = true) {n m:Nat} {A B:List Int} {st:Store} (ln:st[n]? = some (rowC A)) (lm:st[m]? = some (rowC B)) (hA:Row p A) (hB:Row p B) (hn:A ≠ [] ∨ B ≠ []) (hl1:A.length ≤ 5000) (hl2:B.length ≤ 5000) :
  ∃ st' k1 k2 k3 k4 k5 G S T U V,PM.meet [.int p,.loc n,.loc m] st = .ok (.tup [.loc k1,.loc k2,.loc k3,.loc k4,.loc k5]) st' ∧ Fr st st' ∧ MetOut p A B G S T U V ∧ RowsAt st' [k1,k2,k3,k4,k5] [G,S,T,U,V] ∧ [k1,k2,k3,k4,k5].Nodup ∧ (∀ k ∈ [k1,k2,k3,k4,k5],st.length ≤ k):=by
 refine bcn fun hNO => ?_
 obtain ⟨g,e⟩:=check_prime_ok hp st
 obtain ⟨st',k1,k2,k3,k4,k5,G,S,T,U,V,em,F,ho,hr,nd,hk⟩:=met_ok hp (la_old ln g) (la_old lm g) hA hB hn hl1 hl2
 obtain ⟨LA,hLA⟩:∃ L:Int,L = (A.length:Int):=⟨_,rfl⟩
 obtain ⟨LB,hLB⟩:∃ L:Int,L = (B.length:Int):=⟨_,rfl⟩
 have ka:lenF [.loc n] (st ++ g) = .ok (.int LA) (st ++ g):=by rw [len_loc (it_of (la_old ln g)),len_ints,hLA]
 have kb:lenF [.loc m] (st ++ g) = .ok (.int LB) (st ++ g):=by rw [len_loc (it_of (la_old lm g)),len_ints,hLB]
 refine hNO ?_; clear hNO
 refine ⟨st',k1,k2,k3,k4,k5,G,S,T,U,V,?_,(Fr.app st g).trans F,ho,hr,nd,fun k z => by have:=hk k z; rw [List.length_append] at this; lia⟩
 by_cases za:A = []
 ·have hb:B ≠ []:=by rcases hn with z | z; exact absurd za z; exact z
  have hb0:0 < B.length:=List.length_pos_iff.mpr hb
  have h1:(LA == 0) = true:=by rw [hLA,za]; rfl
  have h2:(LB == 0) = false:=by simp; lia
  simp only [PM.meet,ev_fn,bnd_ok,sbn_ok,thn_nx,fin_rt,ev_bin,k_bin,k_bin2,k_tand_t,k_cons,k_cons2,k_expr,k_ret,k_if_f,ev_C,asB_bl,ev_asT,ev_tand,ev_nil,ev_cons,ev_call,ev_seq,ev_next,ev_expr,ev_ret,ev_ifS,eq_ii,var_i,var_l,var_s,List.map_cons,List.map_nil,List.cons_append,List.nil_append,List.replicate_zero,Nat.reduceSub,List.length_cons,List.length_nil,Nat.reduceAdd,e,ka,kb,h1,h2,em]
 ·have ha0:0 < A.length:=List.length_pos_iff.mpr za
  have h1:(LA == 0) = false:=by simp; lia
  simp only [PM.meet,ev_fn,bnd_ok,sbn_ok,thn_nx,fin_rt,ev_bin,k_bin,k_bin2,k_tand_f,k_cons,k_cons2,k_expr,k_ret,k_if_f,ev_C,asB_bl,ev_asT,ev_tand,ev_nil,ev_cons,ev_call,ev_seq,ev_next,ev_expr,ev_ret,ev_ifS,eq_ii,var_i,var_l,var_s,List.map_cons,List.map_nil,List.cons_append,List.nil_append,List.replicate_zero,Nat.reduceSub,List.length_cons,List.length_nil,Nat.reduceAdd,e,ka,h1,em]
theorem meet_no {p:Int} (hp:prB p = true) {n m:Nat} {st:Store} (ln:st[n]? = some (rowC [])) (lm:st[m]? = some (rowC [])):∃ g,PM.meet [.int p,.loc n,.loc m] st = .err "NoMeet" (st ++ g):=by
 obtain ⟨g,e⟩:=check_prime_ok hp st
 have ka:lenF [.loc n] (st ++ g) = .ok (.int 0) (st ++ g):=by rw [len_loc (it_of (la_old ln g))]; rfl
 have kb:lenF [.loc m] (st ++ g) = .ok (.int 0) (st ++ g):=by rw [len_loc (it_of (la_old lm g))]; rfl
 have z:((0:Int) == 0) = true:=rfl
 exact ⟨g,by simp only [PM.meet,ev_fn,bnd_ok,sbn_ok,thn_nx,thn_er,fin_er,ev_bin,k_bin,k_bin2,k_tand_t,k_cons,k_cons2,k_expr,k_if_t,k_raise,ev_C,asB_bl,ev_asT,ev_tand,ev_nil,ev_cons,ev_call,ev_seq,ev_expr,ev_ifS,ev_raise,eq_ii,var_i,var_l,var_s,List.map_cons,List.map_nil,List.cons_append,List.nil_append,List.replicate_zero,Nat.reduceSub,List.length_cons,List.length_nil,Nat.reduceAdd,sizeLine_eq,Nat.reduceLeDiff,↓reduceIte,e,ka,kb,z]⟩
end PG
namespace PG
open PySem PySem.Spec L2 MN
open PyProof.Rows hiding St kindOf
theorem cutI_last {ns:List Int} (h:ns ≠ []):cutI ns (some (-1)) none = [lastI ns]:=by
 have h0:0 < ns.length:=List.length_pos_iff.mpr h
 have e:HT.sIx ns.length 0 (some (-1)) = ns.length - 1:=by
  show (if (-1:Int) < 0 then (-1 + (ns.length:Int)).toNat else min (-1:Int).toNat ns.length) = _
  rw [if_pos (by decide)]; lia
 unfold cutI
 rw [e,HT.sIx_none,List.drop_eq_getElem_cons (by lia),show ns.length - 1 + 1 = ns.length by lia,List.drop_length,List.take_of_length_le (by simp; lia)]
 unfold lastI
 rw [List.getD_eq_getElem?_getD,List.getElem?_eq_getElem (by lia)]; rfl
theorem all_rows {p:Int} {ls:List Nat} {Rs:List (List Int)} {st:Store} (h:RowsAt st ls Rs) (hR:∀ R ∈ Rs,Row p R) {x1 x2 x3 x5:Option Val} (x4:Option Val) :
  ∃ st' y4,forL (fun _ => True) (aName 4) (sIf (tNotM (asT (mCall PM.law_is_row (mCons (mVar 0) (mCons (mVar 4) mNil))))) (sRet (mC (.bl false))) sNext) (ls.map Val.loc) [some (.int p),x1,x2,x3,x4,x5] st = .nx [some (.int p),x1,x2,x3,y4,x5] st' ∧ Fr st st':=by
 refine bcn fun hNO => ?_
 obtain ⟨μ',st',e,⟨y4,rfl⟩,F⟩:=forL_inv (g:=fun _ => True) (a:=aName 4) (body:=sIf (tNotM (asT (mCall PM.law_is_row (mCons (mVar 0) (mCons (mVar 4) mNil))))) (sRet (mC (.bl false))) sNext)
  (fun i μ s' => (∃ y4,μ = [some (.int p),x1,x2,x3,y4,x5]) ∧ Fr st s')
  (ls.map Val.loc) 0 [some (.int p),x1,x2,x3,x4,x5] st
  (by
   rintro i u μ s' hu ⟨⟨y4,rfl⟩,F⟩
   refine ⟨trivial,?_⟩
   rw [List.getElem?_map] at hu
   cases hli:ls[i]? with
   | none => rw [hli] at hu; cases hu
   | some l =>
    rw [hli] at hu
    cases hu
    have hi:i < Rs.length:=by rw [← h.1]; exact getL_lt hli
    have c:=h.2 i l _ hli (List.getElem?_eq_getElem hi)
    have e:=law_is_row_ok (hR _ (List.getElem_mem hi)) (F _ _ c)
    exact ⟨[some (.int p),x1,x2,x3,some (.loc l),x5],rfl,[some (.int p),x1,x2,x3,some (.loc l),x5],s' ++ [Cell.lst []],.inl (by simp only [bnd_ok,sbn_ok,k_tnot,k_cons,k_cons2,k_if_f,asB_bl,ev_asT,ev_tnot,ev_nil,ev_cons,ev_call,ev_next,ev_ifS,var_i,var_l,var_s,Bool.not_true,e]),⟨_,rfl⟩,F.more _⟩)
  (fun _ _ _ => trivial) ⟨⟨_,rfl⟩,Fr.refl _⟩
 refine hNO ?_; clear hNO
 exact ⟨st',y4,e,F⟩
theorem law_good2_ok {p:Int} (hp:prB p = true) {k1 k2 k3 k4 k5 a b:Nat} {A B G S T U V:List Int} {st:Store} (hr:RowsAt st [k1,k2,k3,k4,k5] [G,S,T,U,V]) (h:MetOut p A B G S T U V) (la:st[a]? = some (rowC A)) (lb:st[b]? = some (rowC B)) (hA:Row p A) (hB:Row p B) (h1:A.length ≤ 5000) (h2:B.length ≤ 5000) :
  ∃ st',PM.law_good_v2 [.int p,.tup [.loc k1,.loc k2,.loc k3,.loc k4,.loc k5],.loc a,.loc b] st = .ok (.bl true) st' ∧ Fr st st':=by
 have hp0:0 < p:=by have:=prB_range hp; lia
 refine bcn fun hNO => ?_
 have h55:(((5:Nat):Int) == 5) = true:=rfl
 have lens:=h.lens
 obtain ⟨s1,y4,e1,F1⟩:=all_rows (x1:=some (.tup [.loc k1,.loc k2,.loc k3,.loc k4,.loc k5])) (x2:=some (.loc a)) (x3:=some (.loc b)) (x5:=none) hr (p:=p) (by
  intro R hR
  simp only [List.mem_cons,List.not_mem_nil,or_false] at hR
  rcases hR with rfl | rfl | rfl | rfl | rfl
  ·exact h.rG
  ·exact h.rS
  ·exact h.rT
  ·exact h.rU
  ·exact h.rV) none
 simp only [List.map_cons,List.map_nil] at e1
 have lG:=F1 _ _ (hr.2 0 k1 G rfl rfl)
 have lS:=F1 _ _ (hr.2 1 k2 S rfl rfl)
 have lT:=F1 _ _ (hr.2 2 k3 T rfl rfl)
 have lU:=F1 _ _ (hr.2 3 k4 U rfl rfl)
 have lV:=F1 _ _ (hr.2 4 k5 V rfl rfl)
 have sl:=sl_loc (l:=some (-1)) (h:=none) (it_of lG)
 rw [cutL_ints,cutI_last h.nG,h.lG] at sl
 have F2:Fr s1 (s1 ++ [rowC [1]] ++ [rowC [1]]):=(Fr.app s1 _).more _
 have q2:=ne_lists (it_of (la_old (la_new s1 ([1].map Val.int)) [rowC [1]])) (it_of (la_new (s1 ++ [rowC [1]]) ([1].map Val.int))) (pureDs_ints 14 [1])
 have sl':slV (some (-1)) none (.loc k1) s1 = .ok (.loc s1.length) (s1 ++ [rowC [1]]):=sl
 obtain ⟨s2,hs2⟩:∃ s,s1 ++ [rowC [1]] ++ [rowC [1]] = s:=⟨_,rfl⟩
 have hs2':s1 ++ [rowC [1]] ++ [Cell.lst [.int 1]] = s2:=hs2
 rw [hs2] at F2 q2
 obtain ⟨s3,t1,X1,e3,F3,_,m1,r1,c1,_⟩:=law_times_ok hp (it_of (F2 _ _ lG)) (it_of (F2 _ _ lS)) (h.rG.sm hp) (by lia) (by lia)
 have z1:X1 = A:=Row.ext hp0 r1 hA (c1.trans ((CgF.of_eq (mF_sym G S)).trans h.cA.symm))
 subst z1
 have la3:=F3 _ _ (F2 _ _ (F1 _ _ la))
 have lb3:=F3 _ _ (F2 _ _ (F1 _ _ lb))
 have q3:=ne_lists (it_of m1) (it_of la3) (pureDs_ints 14 X1)
 obtain ⟨s4,t2,X2,e4,F4,_,m2,r2,c2,_⟩:=law_times_ok hp (it_of (F3 _ _ (F2 _ _ lG))) (it_of (F3 _ _ (F2 _ _ lT))) (h.rG.sm hp) (by lia) (by lia)
 have z2:X2 = B:=Row.ext hp0 r2 hB (c2.trans ((CgF.of_eq (mF_sym G T)).trans h.cB.symm))
 subst z2
 have q4:=ne_lists (it_of m2) (it_of (F4 _ _ lb3)) (pureDs_ints 14 X2)
 have F24:=F2.trans (F3.trans F4)
 obtain ⟨s5,t3,X3,e5,F5,_,m3,r3,c3,l3⟩:=law_times_ok hp (it_of (F24 _ _ lU)) (it_of (F4 _ _ la3)) (h.rU.sm hp) (by lia) (by lia)
 obtain ⟨s6,t4,X4,e6,F6,_,m4,r4,c4,l4⟩:=law_times_ok hp (it_of (F5 _ _ (F24 _ _ lV))) (it_of (F5 _ _ (F4 _ _ lb3))) (h.rV.sm hp) (by lia) (by lia)
 obtain ⟨s7,t5,X5,e7,F7,_,m5,r5,c5⟩:=law_sum_ok hp (F6 _ _ m3) m4 (by lia) (by lia)
 have z5:X5 = G:=Row.ext hp0 r5 h.rG (c5.trans ((CgF.add c3 c4).trans h.cG.symm))
 subst z5
 have F27:=F24.trans (F5.trans (F6.trans F7))
 have q7:=eq_lists (it_of m5) (it_of (F27 _ _ lG)) (pureDs_ints 14 X5)
 refine hNO ?_; clear hNO
 refine ⟨s7,?_,F1.trans F27⟩
 simp only [PM.law_good_v2,ev_fn,bnd_ok,sbn_ok,thn_nx,fin_rt,ev_bin,k_bin,k_bin2,k_tor_f,k_tnot,k_cons,k_cons2,k_lst,k_ret,k_if_f,k_set,k_for,ev_C,asB_bl,ev_asT,ev_tor,ev_tnot,ev_nil,ev_cons,ev_lst,ev_call,negV_int,ev_neg,ev_is,ev_seq,ev_next,ev_ret,ev_ifS,ev_set,ev_for,ev_iseq,walkK_tup,ne_ii,len_tup,var_i,var_t,var_l,var_s,List.map_cons,List.map_nil,List.cons_append,List.nil_append,List.replicate_succ,List.replicate_zero,List.set_cons_zero,List.set_cons_succ,Nat.reduceSub,List.length_cons,List.length_nil,Nat.reduceAdd,Bool.not_true,sizeLine_eq,Nat.reduceLeDiff,↓reduceIte,ev_sl,k_sl,k_sl2,k_sl3,ev_onone,ev_osome,kO_i,is_tuple,h55,e1,ix_tup at0,ix_tup at1,ix_tup at2,ix_tup at3,ix_tup at4,sl',hs2',q2,e3,q3,e4,q4,e5,e6,e7,q7]
end PG
namespace K16
open PySem PySem.Spec L2 MN
open PyProof.Rows hiding St
noncomputable def tab:List (Str × Str × Bool):=[("NoInverse","AlgebraError",true),("NoInverse","ByNought",false),("NoInverse","NoParts",false),("NoInverse","NoPrime",false),("NoInverse","NoRing",false),("NoInverse","NotPlain",false),("NoInverse","NoMeet",false),("NoInverse","ValueError",true),("NoRing","AlgebraError",true),("NoRing","ByNought",false),("NoRing","NoParts",false),("NoRing","NoPrime",false),("NoRing","NoRing",true),("NoRing","NotPlain",false),("NoRing","NoMeet",false),("NoRing","ValueError",true),("NoPrime","AlgebraError",true),("NoPrime","ByNought",false),("NoPrime","NoParts",false),("NoPrime","NoPrime",true),("NoPrime","NoRing",false),("NoPrime","NotPlain",false),("NoPrime","NoMeet",false),("NoPrime","ValueError",true),("NoMeet","AlgebraError",true),("NoMeet","ByNought",false),("NoMeet","NoParts",false),("NoMeet","NoPrime",false),("NoMeet","NoRing",false),("NoMeet","NotPlain",false),("NoMeet","NoMeet",true),("NoMeet","ValueError",true)]
noncomputable def kn:List Str:=["NoInverse","NoRing","NoPrime","NoMeet"]
noncomputable def w_law_no_meet:FN:=fnM 1 2 (sSeq (noOut (sTry (knL kn) (sExpr (mCall PM.meet (noE (mCons (mVar 0) (mCons (mLst mNil) (mCons (mLst mNil) mNil)))))) (hAs (subL tab) "AlgebraError" 1 (sSeq (sIf (asT (mIsXs (subL tab) kn 1 ["ByNought","NoParts","NoPrime","NoRing","NotPlain"])) (sRet (mC (.bl false))) sNext) (sRet (mAnd (mIsX (subL tab) 1 "NoMeet") (mIsX (subL tab) 1 "ValueError")))) hNil))) (sRet (mC (.bl false))))
noncomputable def w_law_t12:MB:=(sRet (mAnd (mCall PM.law_good_v2 (mCons (mVar 1) (mCons (mVar 8) (mCons (mBin ixV (mVar 2) (mC (.int 0))) (mCons (mBin ixV (mVar 2) (mC (.int 1))) mNil))))) (mAnd (mBin eqM (mVar 3) (mBin ixV (mVar 2) (mC (.int 0)))) (mBin eqM (mVar 4) (mBin ixV (mVar 2) (mC (.int 1)))))))
noncomputable def w_law_t11:MB:=(sSeq (sIf (asT (mBin neM (mComp 1 [] (iSeq (mVar 5)) (aName 0) tTrueM (mCall lstF (mCons (mVar 0) mNil))) (mVar 7))) (sRet (mC (.bl false))) sNext) w_law_t12)
noncomputable def w_law_t10:MB:=(sSeq (sSet 8 (mCall PM.meet (mCons (mVar 1) (mCons (mVar 3) (mCons (mVar 4) mNil))))) w_law_t11)
noncomputable def w_law_t9:MB:=(sSeq (sSet 7 (mComp 1 [] (iSeq (mVar 5)) (aName 0) tTrueM (mCall lstF (mCons (mVar 0) mNil)))) w_law_t10)
noncomputable def w_law_t8:MB:=(sSeq (sFor (iSeq (mVar 5)) (aName 6) (sSetI (mVar 6) (mC (.int 0)) (mC (.int 0)))) w_law_t9)
noncomputable def w_law_t7:MB:=(sSeq (sIf (tNotM (asT (mCall PM.law_own (mCons (mCall lstF (mCons (mVar 5) mNil)) mNil)))) (sRet (mC (.bl false))) sNext) w_law_t8)
noncomputable def w_law_t6:MB:=(sSeq (sIf (tOrM (tNotM (asT (mCall PM.law_good_v2 (mCons (mVar 1) (mCons (mVar 5) (mCons (mBin ixV (mVar 2) (mC (.int 0))) (mCons (mBin ixV (mVar 2) (mC (.int 1))) mNil))))))) (tOrM (asT (mBin neM (mVar 3) (mBin ixV (mVar 2) (mC (.int 0))))) (asT (mBin neM (mVar 4) (mBin ixV (mVar 2) (mC (.int 1))))))) (sRet (mC (.bl false))) sNext) w_law_t7)
noncomputable def w_law_t5:MB:=(sSeq (sSet 5 (mCall PM.meet (mCons (mVar 1) (mCons (mVar 3) (mCons (mVar 4) mNil))))) w_law_t6)
noncomputable def w_law_t4:MB:=(sSeq (sIf (tAndM (asT (mBin eqM (mVar 3) (mLst mNil))) (asT (mBin eqM (mVar 4) (mLst mNil)))) (sRet (mCall w_law_no_meet (mCons (mVar 1) mNil))) sNext) w_law_t5)
noncomputable def w_law_t3:MB:=(sSeq (sSet 4 (mCall lstF (mCons (mBin ixV (mVar 2) (mC (.int 1))) mNil))) w_law_t4)
noncomputable def w_law_t2:MB:=(sSeq (sSet 3 (mCall lstF (mCons (mBin ixV (mVar 2) (mC (.int 0))) mNil))) w_law_t3)
noncomputable def w_law_t1:MB:=(sSeq (sSet 2 (mCall PM.law_rows_v2 (mCons (mVar 0) (mCons (mVar 1) mNil)))) w_law_t2)
noncomputable def w_law:FN:=fnM 1 9 (sSeq (sSet 1 (mCall PM.law_prime_by (mCons (mCall PM.law_cell_at_v2 (mCons (mVar 0) (mCons (mC (.int 0)) mNil))) mNil))) w_law_t1)
end K16
namespace K16
open PySem PySem.Spec L2 MN PG
open PyProof.Rows hiding St kindOf
theorem forL_one {g:Store → Prop} {a:AS} {body:MB} {u:Val} {us:List Val} {μ μ1 μ':MN.Env} {st st':Store} (hg:g st) (h1:a u μ = some μ1) (h2:body μ1 st = .nx μ' st'):forL g a body (u :: us) μ st = forL g a body us μ' st':=by
 rw [forL,if_pos hg,h1]
 dsimp only
 rw [h2]
theorem forL_end {g:Store → Prop} {a:AS} {body:MB} {μ:MN.Env} {st:Store} (hg:g st):forL g a body [] μ st = .nx μ st:=by rw [forL,if_pos hg]
noncomputable def FrB (L:Nat) (st s:Store):Prop:=∀ (m:Nat) (c:Cell),m ≠ L → st[m]? = some c → s[m]? = some c
theorem FrB.of {L:Nat} {st s:Store} (h:Fr st s):FrB L st s:=fun m c _ q => h m c q
theorem FrB.set {L:Nat} {a b:Store} (h:FrB L a b) (c:Cell):FrB L a (b.set L c):=fun m k z q => la_ne (h m k z q) (fun w => z w.symm)
theorem FrB.it {L:Nat} {a b:Store} (h:FrB L a b) {n:Nat} {us:List Val} (hi:itemsOf a n = some us) (hn:n ≠ L):itemsOf b n = some us:=by
 unfold itemsOf at hi ⊢
 cases z:a[n]? with
 | none => rw [z] at hi; cases hi
 | some c => rw [z] at hi; rw [h n c hn z]; exact hi
noncomputable abbrev rowB:MB:=sSeq (sSet 5 (mCall PM.law_cell_at_v2 (mCons (mVar 0) (mCons (mBin addV (mC (.int 3)) (mBin mulV (mC (.int 2)) (mVar 4))) mNil)))) (sSeq (sSet 6 (mCall PM.law_drawn (mCons (mVar 1) (mCons (mCall PM.law_cell_at_v2 (mCons (mVar 0) (mCons (mBin addV (mC (.int 4)) (mBin mulV (mC (.int 2)) (mVar 4))) mNil))) (mCons (mBin modV (mBin fdivV (mVar 5) (mC (.int 7))) (mC (.int 7))) mNil))))) (sSeq (sIf (asT (mBin eqM (mBin modV (mVar 5) (mC (.int 7))) (mC (.int 1)))) (sSet 6 (mLst mNil)) sNext) (sExpr (mMtL appendF (mVar 3) (mCons (mVar 6) mNil)))))
theorem row_step {p k:Int} (hp:prB p = true) {n L:Nat} {ns:List Int} {us:List Val} {s:Store} (h:itemsOf s n = some (ns.map Val.int)) (lL:s[L]? = some (Cell.lst us)) (k0:0 ≤ k) (k1:k ≤ 10) (hu:us.length ≤ 10) (x2 x5 x6:Option Val) :
  ∃ s' r R x5' x6',rowB [some (.loc n),some (.int p),x2,some (.loc L),some (.int k),x5,x6] s = .nx [some (.loc n),some (.int p),x2,some (.loc L),some (.int k),x5',x6'] s' ∧ s'[L]? = some (Cell.lst (us ++ [.loc r])) ∧ s'[r]? = some (rowC R) ∧ Row p R ∧ R.length ≤ 1000 ∧ FrB L s s' ∧ s.length ≤ r ∧ s.length ≤ s'.length:=by
 refine bcn fun hNO => ?_
 have d7:Dz 7:=dz_c (by decide) (by decide)
 obtain ⟨o1,e1⟩:=cell_at2 (k:=3 + 2 * k) h (by lia) (by lia)
 obtain ⟨o2,e2⟩:=cell_at2 (k:=4 + 2 * k) h (by lia) (by lia)
 have q7:=fmodc (m:=7) (by decide) (o1.fdiv 7)
 obtain ⟨g,r,R,ed,orr,lr,hR,bR,cR⟩:=law_drawn_ok hp o2 (z:=(o1.fdiv 7).fmod 7) q7.1 (by lia) s
 have F1:=Fr.app s g
 have hLs:=getL_lt lL
 have f1:=F1.len
 obtain ⟨s1,hs1⟩:∃ t,s ++ g = t:=⟨_,rfl⟩
 rw [hs1] at ed lr F1 f1
 refine hNO ?_; clear hNO
 by_cases w:o1.fmod 7 = 1
 ·have w1:((1:Int) == 1) = true:=rfl
  have lL2:=la_old (F1 _ _ lL) [Cell.lst []]
  have ap:=append_ok (v:=.loc s1.length) lL2 (by rw [sizeLine_eq]; lia)
  have F2:Fr s (s1 ++ [Cell.lst []]):=F1.more _
  refine ⟨(s1 ++ [Cell.lst []]).set L (Cell.lst (us ++ [.loc s1.length])),s1.length,[],some (.int o1),some (.loc s1.length),?_,la_self lL2,la_ne (la_new s1 []) (by lia),Row.nil p,by simp,(FrB.of F2).set _,by lia,by rw [List.length_set,List.length_append]; lia⟩
  simp only [bnd_ok,sbn_ok,thn_nx,ev_bin,k_bin,k_bin2,k_cons,k_cons2,k_lst,k_expr,k_if_t,k_set,ev_C,asB_bl,ev_asT,ev_nil,ev_cons,ev_lst,ev_call,ev_seq,ev_expr,ev_ifS,ev_set,add_ii,eq_ii,var_i,var_l,var_s,List.set_cons_zero,List.set_cons_succ,List.length_nil,sizeLine_eq,Nat.reduceLeDiff,↓reduceIte,ev_mtL,k_mt2,mul_l (i:=2) (by decide) (by decide),e1,e2,div_ii d7,mod_ii (j:=7) (by decide),ed,w,w1,k_mtL lL2,ap]
 ·have w1:(o1.fmod 7 == 1) = false:=by simpa using w
  have lL2:=F1 _ _ lL
  have ap:=append_ok (v:=.loc r) lL2 (by rw [sizeLine_eq]; lia)
  refine ⟨s1.set L (Cell.lst (us ++ [.loc r])),r,R,some (.int o1),some (.loc r),?_,la_self lL2,la_ne lr (by lia),⟨cR,bR⟩,hR,(FrB.of F1).set _,orr,by rw [List.length_set]; lia⟩
  simp only [bnd_ok,sbn_ok,thn_nx,ev_bin,k_bin,k_bin2,k_cons,k_cons2,k_expr,k_if_f,k_set,ev_C,asB_bl,ev_asT,ev_nil,ev_cons,ev_call,ev_seq,ev_next,ev_expr,ev_ifS,ev_set,add_ii,eq_ii,var_i,var_l,var_s,List.set_cons_zero,List.set_cons_succ,ev_mtL,k_mt2,mul_l (i:=2) (by decide) (by decide),e1,e2,div_ii d7,mod_ii (j:=7) (by decide),ed,w1,k_mtL lL2,ap]
noncomputable def thirdM:MB:=sIf (asT (mBin eqM (mBin modV (mCall PM.law_cell_at_v2 (mCons (mVar 0) (mCons (mC (.int 7)) mNil))) (mC (.int 5))) (mC (.int 1)))) (sSetI (mVar 3) (mC (.int 1)) (mComp 1 [1,0] (iSeq (mBin ixV (mVar 3) (mC (.int 0)))) (aName 0) tTrueM (mBin modV (mBin mulV (mVar 0) (mBin fdivV (mCall PM.law_cell_at_v2 (mCons (mVar 2) (mCons (mC (.int 7)) mNil))) (mC (.int 5)))) (mVar 1)))) sNext
theorem third_step {p:Int} (hp:prB p = true) {n L r1 r2:Nat} {ns R1 R2:List Int} {s:Store} (h:itemsOf s n = some (ns.map Val.int)) (hnL:n ≠ L) (lL:s[L]? = some (Cell.lst [.loc r1,.loc r2])) (l1:s[r1]? = some (rowC R1)) (l2:s[r2]? = some (rowC R2)) (h1:Row p R1) (h2:Row p R2) (hl1:R1.length ≤ 1000) (hl2:R2.length ≤ 1000) (hr1:r1 ≠ L) (hr2:r2 ≠ L) (x2 x4 x5 x6:Option Val) :
  ∃ s' q2 Q2,thirdM
    [some (.loc n),some (.int p),x2,some (.loc L),x4,x5,x6] s = .nx [some (.loc n),some (.int p),x2,some (.loc L),x4,x5,x6] s' ∧ s'[L]? = some (Cell.lst [.loc r1,.loc q2]) ∧ s'[q2]? = some (rowC Q2) ∧ (∀ a ∈ Q2,0 ≤ a ∧ a < p) ∧ Q2.length ≤ 1000 ∧ FrB L s s':=by
 have hr:=prB_range hp
 have hz:=prB_ne hp
 have d5:Dz 5:=dz_c (by decide) (by decide)
 obtain ⟨o,e⟩:=cell_at2 (k:=7) h (by decide) (by decide)
 by_cases w:o.fmod 5 = 1
 ·have w1:((1:Int) == 1) = true:=rfl
  obtain ⟨c,hcc⟩:∃ c,o.fdiv 5 = c:=⟨_,rfl⟩
  have hc:=compL_ints (g:=fun st' => itemsOf st' r1 = some (R1.map Val.int)) (a:=aName 0) (e:=mBin modV (mBin mulV (mVar 0) (mBin fdivV (mCall PM.law_cell_at_v2 (mCons (mVar 2) (mCons (mC (.int 7)) mNil))) (mC (.int 5)))) (mVar 1)) (st:=s) (it_of l1) (fun τ => ∃ z,τ = [z,some (.int p),some (.loc n)]) (fun i => .int ((i * c).fmod p)) R1 [none,some (.int p),some (.loc n)] [] ⟨_,rfl⟩ (by
   rintro i hi τ ⟨z,rfl⟩
   have:=h1.rng i hi
   exact ⟨_,rfl,⟨_,rfl⟩,by simp only [bnd_ok,ev_bin,k_bin,k_bin2,k_cons,k_cons2,ev_C,ev_nil,ev_cons,ev_call,var_i,var_l,var_s,List.set_cons_zero,e,div_ii d5,hcc,mul_l (i:=i) (by lia) (by lia),mod_ii hz]⟩)
  rw [List.nil_append,show (R1.map fun i => Val.int ((i * c).fmod p)) = (R1.map fun i => (i * c).fmod p).map Val.int from by rw [List.map_map]; rfl] at hc
  have hcap:capM 1 [1,0] [some (.loc n),some (.int p),x2,some (.loc L),x4,x5,x6] = [none,some (.int p),some (.loc n)]:=rfl
  have hzl:(R1.map Val.int).length ≤ 16777216:=by rw [len_ints]; lia
  have gx:=ix_loc (it_of lL) (at0 (x:=.loc r1) (r:=[.loc r2]))
  have lL2:=la_old lL [rowC (R1.map fun i => (i * c).fmod p)]
  have sx:=setF_ok (v:=.loc s.length) (k:=1) (j:=1) lL2 rfl
  have hLs:=getL_lt lL
  refine ⟨(s ++ [rowC (R1.map fun i => (i * c).fmod p)]).set L (Cell.lst [.loc r1,.loc s.length]),s.length,R1.map fun i => (i * c).fmod p,?_,la_self lL2,la_ne (la_new _ _) (by lia),?_,by rw [List.length_map]; exact hl1,(FrB.of (Fr.app s _)).set _⟩
  ·have sx':setF (.loc L) (.int 1) (.loc s.length) (s ++ [Cell.lst ((R1.map fun i => (i * c).fmod p).map Val.int)]) = some ((s ++ [rowC (R1.map fun i => (i * c).fmod p)]).set L (Cell.lst [.loc r1,.loc s.length])):=sx
   simp only [thirdM,bnd_ok,sbn_ok,ev_bin,k_bin,k_bin2,k_cons,k_cons2,k_if_t,k_new,k_comp,ev_C,asB_bl,ev_asT,ev_nil,ev_cons,ev_call,ev_ifS,ev_comp,ev_iseq,eq_ii,var_l,var_s,sizeLine_eq,ev_seti,k_si,k_si2,k_si3,nxO_some,e,mod_ii (j:=5) (by decide),w,w1,gx,walkK_loc (it_of l1),hcap,hc,if_pos hzl,sx']
  ·intro a ha
   obtain ⟨i,_,rfl⟩:=List.mem_map.mp ha
   exact fmodc (m:=p) (by lia) _
 ·have w1:(o.fmod 5 == 1) = false:=by simpa using w
  exact ⟨s,r2,R2,by simp only [thirdM,bnd_ok,sbn_ok,ev_bin,k_bin,k_bin2,k_cons,k_cons2,k_if_f,ev_C,asB_bl,ev_asT,ev_nil,ev_cons,ev_call,ev_next,ev_ifS,eq_ii,var_l,e,mod_ii (j:=5) (by decide),w1],lL,l2,h2.rng,hl2,FrB.of (Fr.refl _)⟩
end K16
namespace K16
open PySem PySem.Spec L2 MN PG
open PyProof.Rows hiding St kindOf
theorem law_rows_eq:PM.law_rows_v2 = fnM 2 7 (sSeq (sSet 2 (mCall PM.law_drawn (mCons (mVar 1) (mCons (mCall PM.law_cell_at_v2 (mCons (mVar 0) (mCons (mC (.int 1)) mNil))) (mCons (mBin modV (mCall PM.law_cell_at_v2 (mCons (mVar 0) (mCons (mC (.int 2)) mNil))) (mC (.int 6))) mNil))))) (sSeq (sSet 3 (mLst mNil)) (sSeq (sFor (iSeq (mLst (mCons (mC (.int 0)) (mCons (mC (.int 1)) mNil)))) (aName 4) (sSeq (sSet 5 (mCall PM.law_cell_at_v2 (mCons (mVar 0) (mCons (mBin addV (mC (.int 3)) (mBin mulV (mC (.int 2)) (mVar 4))) mNil)))) (sSeq (sSet 6 (mCall PM.law_drawn (mCons (mVar 1) (mCons (mCall PM.law_cell_at_v2 (mCons (mVar 0) (mCons (mBin addV (mC (.int 4)) (mBin mulV (mC (.int 2)) (mVar 4))) mNil))) (mCons (mBin modV (mBin fdivV (mVar 5) (mC (.int 7))) (mC (.int 7))) mNil))))) (sSeq (sIf (asT (mBin eqM (mBin modV (mVar 5) (mC (.int 7))) (mC (.int 1)))) (sSet 6 (mLst mNil)) sNext) (sExpr (mMtL appendF (mVar 3) (mCons (mVar 6) mNil))))))) (sSeq thirdM (sRet (mComp 1 [1,2] (iSeq (mComp 1 [] (iSeq (mVar 3)) (aName 0) tTrueM (mCall PM.law_cut (mCons (mVar 0) mNil)))) (aName 0) tTrueM (mCall PM.law_times (mCons (mVar 1) (mCons (mVar 0) (mCons (mVar 2) mNil)))))))))):=rfl
theorem law_rows_ok {p:Int} (hp:prB p = true) {n:Nat} {ns:List Int} {st:Store} (h:itemsOf st n = some (ns.map Val.int)) :
  ∃ st' k a b A B,PM.law_rows_v2 [.loc n,.int p] st = .ok (.loc k) st' ∧ st'[k]? = some (Cell.lst [.loc a,.loc b]) ∧ st'[a]? = some (rowC A) ∧ st'[b]? = some (rowC B) ∧ Row p A ∧ Row p B ∧ A.length ≤ 3000 ∧ B.length ≤ 3000:=by
 refine bcn fun hNO => ?_
 have hn:=it_lt h
 obtain ⟨o1,e1⟩:=cell_at2 (k:=1) h (by decide) (by decide)
 obtain ⟨o2,e2⟩:=cell_at2 (k:=2) h (by decide) (by decide)
 have q6:=fmodc (m:=6) (by decide) o2
 obtain ⟨g,c,C,ed,oc,lc,hC,bC,cC⟩:=law_drawn_ok hp o1 (z:=o2.fmod 6) q6.1 (by lia) st
 have F1:=Fr.app st g
 have hcs:=getL_lt lc
 obtain ⟨s1,hs1⟩:∃ t,st ++ g = t:=⟨_,rfl⟩
 rw [hs1] at ed lc F1 hcs
 have f1:=F1.len
 have F3:Fr s1 (s1 ++ [Cell.lst []] ++ [Cell.lst [.int 0,.int 1]]):=(Fr.app s1 _).more _
 have lL:=la_old (la_new s1 []) [Cell.lst [.int 0,.int 1]]
 have lM:=la_new (s1 ++ [Cell.lst []]) [.int 0,.int 1]
 obtain ⟨L,hL⟩:∃ L,s1.length = L:=⟨_,rfl⟩
 obtain ⟨M,hM⟩:∃ L,(s1 ++ [Cell.lst []]).length = L:=⟨_,rfl⟩
 refine hNO ?_; clear hNO
 have hML:L < M:=by rw [← hL,← hM,List.length_append]; simp
 refine bcn fun hNO => ?_
 obtain ⟨s3,hs3⟩:∃ t,s1 ++ [Cell.lst []] ++ [Cell.lst [.int 0,.int 1]] = t:=⟨_,rfl⟩
 rw [hL] at lL
 rw [hM] at lM
 rw [hs3] at lL lM F3
 have h3:=F3.it (F1.it h)
 have lc3:=F3 _ _ lc
 have hM3:=getL_lt lM
 obtain ⟨s4,r1,R1,y5,y6,ea,lL4,l1,hR1,hl1,B4,o4,f4⟩:=row_step (k:=0) hp h3 lL (by decide) (by decide) (by simp) (some (.loc c)) none none
 have lM4:=B4 M _ (by lia) lM
 obtain ⟨s5,r2,R2,w5,w6,eb,lL5,l2,hR2,hl2,B5,o5,f5⟩:=row_step (k:=1) hp (B4.it h3 (by lia)) lL4 (by decide) (by decide) (by simp) (some (.loc c)) y5 y6
 have lM5:=B5 M _ (by lia) lM4
 have l1':=B5 r1 _ (by lia) l1
 have hl5:s3.length ≤ r1:=o4
 have loop:forL (fun st' => itemsOf st' M = some [.int 0,.int 1]) (aName 4) rowB [.int 0,.int 1] [some (.loc n),some (.int p),some (.loc c),some (.loc L),none,none,none] s3 = .nx [some (.loc n),some (.int p),some (.loc c),some (.loc L),some (.int 1),w5,w6] s5:=by
  rw [forL_one (μ1:=[some (.loc n),some (.int p),some (.loc c),some (.loc L),some (.int 0),none,none]) (it_of lM) rfl ea,forL_one (μ1:=[some (.loc n),some (.int p),some (.loc c),some (.loc L),some (.int 1),y5,y6]) (it_of lM4) rfl eb,forL_end (it_of lM5)]
 have lL5':s5[L]? = some (Cell.lst [.loc r1,.loc r2]):=lL5
 have h5:=B5.it (B4.it h3 (by lia)) (by lia)
 obtain ⟨s6,q2,Q2,et,lL6,l26,bQ,hQ,B6⟩:=third_step hp h5 (by lia) lL5' l1' l2 hR1 hR2 hl1 hl2 (by lia) (by lia) (some (.loc c)) (some (.int 1)) w5 w6
 have l16:=B6 r1 _ (by lia) l1'
 have lc6:=B6 c _ (by lia) (B5 c _ (by lia) (B4 c _ (by lia) lc3))
 refine hNO ?_; clear hNO
 -- cut
 refine bcn fun hNO => ?_
 have k1:=law_cut_ok (it_of l16)
 have k2:=law_cut_ok (it_of (la_old l26 [Cell.lst ((cutZ R1).map Val.int)]))
 have hR1c:cutZ R1 = R1:=hR1.cut
 rw [hR1c] at k1 k2
 have hc1:compL (fun st' => itemsOf st' L = some [.loc r1,.loc q2]) (aName 0) tTrueM (mCall PM.law_cut (mCons (mVar 0) mNil)) [.loc r1,.loc q2] [none] s6 [] = .ok [.loc s6.length,.loc (s6 ++ [rowC R1]).length] (s6 ++ [rowC R1] ++ [rowC (cutZ Q2)]):=by
  rw [compL_one (u:=.loc r1) (y:=.loc s6.length) (τ1:=[some (.loc r1)]) (st1:=s6 ++ [rowC R1]) (it_of lL6) rfl (by simp only [bnd_ok,k_cons,k_cons2,ev_nil,ev_cons,ev_call,var_l,k1]),
   compL_one (u:=.loc q2) (y:=.loc (s6 ++ [rowC R1]).length) (τ1:=[some (.loc q2)]) (st1:=s6 ++ [rowC R1] ++ [rowC (cutZ Q2)]) (it_of (la_old lL6 _)) rfl (by simp only [bnd_ok,k_cons,k_cons2,ev_nil,ev_cons,ev_call,var_l]; exact k2),compL_end (it_of (la_old (la_old lL6 _) _))]
  rfl
 have m1:=la_old (la_old (la_new s6 (R1.map Val.int)) [rowC (cutZ Q2)]) [Cell.lst [.loc s6.length,.loc (s6 ++ [rowC R1]).length]]
 have m2:=la_old (la_new (s6 ++ [rowC R1]) ((cutZ Q2).map Val.int)) [Cell.lst [.loc s6.length,.loc (s6 ++ [rowC R1]).length]]
 have m3:=la_new (s6 ++ [rowC R1] ++ [rowC (cutZ Q2)]) [.loc s6.length,.loc (s6 ++ [rowC R1]).length]
 have F7:Fr s6 (s6 ++ [rowC R1] ++ [rowC (cutZ Q2)] ++ [Cell.lst [.loc s6.length,.loc (s6 ++ [rowC R1]).length]]):=((Fr.app s6 _).more _).more _
 obtain ⟨d1,hd1⟩:∃ d,s6.length = d:=⟨_,rfl⟩
 obtain ⟨d2,hd2⟩:∃ d,(s6 ++ [rowC R1]).length = d:=⟨_,rfl⟩
 obtain ⟨d3,hd3⟩:∃ d,(s6 ++ [rowC R1] ++ [rowC (cutZ Q2)]).length = d:=⟨_,rfl⟩
 rw [hd1,hd2] at hc1 m1 m2 m3 F7
 rw [hd3] at m3
 obtain ⟨s7,hs7⟩:∃ t,s6 ++ [rowC R1] ++ [rowC (cutZ Q2)] ++ [Cell.lst [.loc d1,.loc d2]] = t:=⟨_,rfl⟩
 rw [hs7] at m1 m2 m3 F7
 have rQ:Row p (cutZ Q2):=⟨cut_cut _,cut_all (P:=fun a => 0 ≤ a ∧ a < p) bQ⟩
 have lQ:=cut_len Q2
 refine hNO ?_; clear hNO
 -- times the third one
 refine bcn fun hNO => ?_
 have lc7:=F7 _ _ lc6
 obtain ⟨s8,a,A,e8,F8,_,la,hA,_,lA⟩:=law_times_ok hp (it_of m1) (it_of lc7) (hR1.sm hp) (by lia) (by lia)
 obtain ⟨s9,b,B,e9,F9,_,lb,hB,_,lB⟩:=law_times_ok hp (it_of (F8 _ _ m2)) (it_of (F8 _ _ lc7)) (rQ.sm hp) (by lia) (by lia)
 have hc2:compL (fun st' => itemsOf st' d3 = some [.loc d1,.loc d2]) (aName 0) tTrueM (mCall PM.law_times (mCons (mVar 1) (mCons (mVar 0) (mCons (mVar 2) mNil)))) [.loc d1,.loc d2] [none,some (.int p),some (.loc c)] s7 [] = .ok [.loc a,.loc b] s9:=by
  rw [compL_one (u:=.loc d1) (y:=.loc a) (τ1:=[some (.loc d1),some (.int p),some (.loc c)]) (st1:=s8) (it_of m3) rfl (by simp only [bnd_ok,k_cons,k_cons2,ev_nil,ev_cons,ev_call,var_i,var_l,var_s,e8]),
   compL_one (u:=.loc d2) (y:=.loc b) (τ1:=[some (.loc d2),some (.int p),some (.loc c)]) (st1:=s9) (it_of (F8 _ _ m3)) rfl (by simp only [bnd_ok,k_cons,k_cons2,ev_nil,ev_cons,ev_call,var_i,var_l,var_s,e9]),compL_end (it_of (F9 _ _ (F8 _ _ m3)))]
  rfl
 have cap1:capM 1 [] [some (.loc n),some (.int p),some (.loc c),some (.loc L),some (.int 1),w5,w6] = [none]:=rfl
 have cap2:capM 1 [1,2] [some (.loc n),some (.int p),some (.loc c),some (.loc L),some (.int 1),w5,w6] = [none,some (.int p),some (.loc c)]:=rfl
 refine hNO ?_; clear hNO
 refine ⟨s9 ++ [Cell.lst [.loc a,.loc b]],s9.length,a,b,A,B,?_,la_new _ _,la_old (F9 _ _ la) _,la_old lb _,hA,hB,by lia,by lia⟩
 have wL:=walkK_loc (it_of lL6)
 have wM:=walkK_loc (it_of lM)
 have wd:=walkK_loc (it_of m3)
 simp only [law_rows_eq,ev_fn,bnd_ok,sbn_ok,thn_nx,fin_rt,ev_bin,k_bin,k_bin2,k_cons,k_cons2,k_lst,k_ret,k_set,k_for,k_new,k_comp,ev_C,ev_nil,ev_cons,ev_lst,ev_call,ev_seq,ev_ret,ev_set,ev_for,ev_comp,ev_iseq,var_i,var_l,var_s,List.map_cons,List.map_nil,List.cons_append,List.nil_append,List.replicate_succ,List.replicate_zero,List.set_cons_zero,List.set_cons_succ,Nat.reduceSub,List.length_cons,List.length_nil,Nat.reduceAdd,sizeLine_eq,Nat.reduceLeDiff,↓reduceIte,e1,e2,mod_ii (j:=6) (by decide),ed,hL,hM,hs3,wM,loop,et,wL,cap1,hc1,hd3,hs7,wd,cap2,hc2]
end K16
namespace K16
open PySem PySem.Spec L2 MN PG
open PyProof.Rows hiding St kindOf
theorem isXs_s {sub:Str → Str → Option Bool} {qs xs:List Str} {i:Nat} {y:Option Val} {μ:MN.Env} {st:Store}:mIsXs sub qs (i + 1) xs (y :: μ) st = mIsXs sub qs i xs μ st:=rfl
theorem isXs_0 {sub:Str → Str → Option Bool} {qs xs:List Str} {c:Str} {b:Bool} {μ:MN.Env} {st:Store} (h1:qs.contains c = true) (h2:anyC sub c xs = some b):mIsXs sub qs 0 xs (some (.exc c) :: μ) st = .ok (.bl b) st:=by
 unfold mIsXs
 dsimp only [List.getElem?_cons_zero]
 rw [if_pos h1,h2]
theorem no_meet_ok {p:Int} (hp:prB p = true) (st:Store):∃ st',w_law_no_meet [.int p] st = .ok (.bl true) st':=by
 obtain ⟨g,e⟩:=meet_no hp (la_old (la_new st []) [Cell.lst []]) (la_new (st ++ [Cell.lst []]) [])
 have k1:knL kn "NoMeet" = true:=by decide +kernel
 have t1:subL tab "NoMeet" "AlgebraError" = some true:=by decide +kernel
 have t2:subL tab "NoMeet" "NoMeet" = some true:=by decide +kernel
 have t3:subL tab "NoMeet" "ValueError" = some true:=by decide +kernel
 have t4:anyC (subL tab) "NoMeet" ["ByNought","NoParts","NoPrime","NoRing","NotPlain"] = some false:=by decide +kernel
 have t5:kn.contains "NoMeet" = true:=by decide +kernel
 exact ⟨st ++ [Cell.lst []] ++ [Cell.lst []] ++ g,by simp only [w_law_no_meet,ev_fn,bnd_ok,sbn_ok,sbn_err,thn_nx,thn_rt,fin_rt,k_and_t,k_cons,k_cons2,k_lst,k_ret,k_if_f,asB_bl,ev_asT,ev_and,ev_nil,ev_cons,ev_lst,ev_call,ev_seq,ev_next,ev_expr,ev_ret,ev_ifS,ev_noE,noe_ok,ev_noOut,nout_rt,ev_try,onlyRt_rt,MN.isX_s,var_i,List.map_cons,List.map_nil,List.cons_append,List.nil_append,List.replicate_succ,List.replicate_zero,List.set_cons_zero,List.set_cons_succ,Nat.reduceSub,List.length_cons,List.length_nil,Nat.reduceAdd,sizeLine_eq,Nat.reduceLeDiff,↓reduceIte,e,tryK_er k1,hAs_t t1,isXs_s,isXs_0 t5 t4,isX_0 t2,isX_0 t3]⟩
noncomputable def zR (R:List Int):List Int:=(R ++ [1]).set 0 0
theorem nodup_at {ls:List Nat} (nd:ls.Nodup) {i j l:Nat} (hi:ls[i]? = some l) (hj:ls[j]? = some l):i = j:=by
 have h1:=getL_lt hi
 have h2:=getL_lt hj
 rw [List.getElem?_eq_getElem h1] at hi
 rw [List.getElem?_eq_getElem h2] at hj
 exact (List.getElem_inj nd).mp ((Option.some.inj hi).trans (Option.some.inj hj).symm)
theorem zero_loop {ls:List Nat} {Rs:List (List Int)} {s:Store} (nd:ls.Nodup) (hlen:ls.length = Rs.length) (hr:∀ (i l:Nat) (R:List Int),ls[i]? = some l → Rs[i]? = some R → s[l]? = some (rowC (R ++ [1]))) {x0 x1 x2 x3 x4 x5 x7 x8:Option Val} (x6:Option Val) :
  ∃ s' y6,forL (fun _ => True) (aName 6) (sSetI (mVar 6) (mC (.int 0)) (mC (.int 0))) (ls.map Val.loc) [x0,x1,x2,x3,x4,x5,x6,x7,x8] s = .nx [x0,x1,x2,x3,x4,x5,y6,x7,x8] s' ∧ RowsAt s' ls (Rs.map zR) ∧ (∀ m c,m ∉ ls → s[m]? = some c → s'[m]? = some c):=by
 refine bcn fun hNO => ?_
 obtain ⟨μ',s',e,⟨y6,rfl⟩,hF,h1,h2⟩:=forL_inv (g:=fun _ => True) (a:=aName 6) (body:=sSetI (mVar 6) (mC (.int 0)) (mC (.int 0)))
  (fun i μ s' => (∃ y6,μ = [x0,x1,x2,x3,x4,x5,y6,x7,x8]) ∧ (∀ m c,m ∉ ls → s[m]? = some c → s'[m]? = some c) ∧ (∀ (j l:Nat) (R:List Int),i ≤ j → ls[j]? = some l → Rs[j]? = some R → s'[l]? = some (rowC (R ++ [1]))) ∧ ∀ (j l:Nat) (R:List Int),j < i → ls[j]? = some l → Rs[j]? = some R → s'[l]? = some (rowC (zR R)))
  (ls.map Val.loc) 0 [x0,x1,x2,x3,x4,x5,x6,x7,x8] s
  (by
   rintro i u μ s' hu ⟨⟨y6,rfl⟩,hF,h1,h2⟩
   rw [Nat.zero_add] at h1 h2 ⊢
   refine ⟨trivial,?_⟩
   rw [List.getElem?_map] at hu
   cases hli:ls[i]? with
   | none => rw [hli] at hu; cases hu
   | some l =>
    rw [hli] at hu
    cases hu
    have hil:=getL_lt hli
    have hRi:Rs[i]? = some (Rs[i]'(by lia)):=List.getElem?_eq_getElem (by lia)
    obtain ⟨R,hR⟩:∃ R,Rs[i]'(by lia) = R:=⟨_,rfl⟩
    rw [hR] at hRi
    have cl:=h1 i l R (Nat.le_refl _) hli hRi
    have sx:=setF_ok (v:=.int 0) (k:=0) (j:=0) cl (by rw [len_ints,List.length_append]; exact ixN_nat (by simp))
    rw [← List.map_set] at sx
    refine ⟨[x0,x1,x2,x3,x4,x5,some (.loc l),x7,x8],rfl,[x0,x1,x2,x3,x4,x5,some (.loc l),x7,x8],s'.set l (rowC (zR R)),.inl ?_,⟨_,rfl⟩,fun m c hm hc => la_ne (hF m c hm hc) (fun z => hm (by rw [← z]; exact List.mem_of_getElem? hli)),fun j l' R' hj hl' hR' => ?_,fun j l' R' hj hl' hR' => ?_⟩
    ·simp only [sbn_ok,ev_C,var_l,var_s,ev_seti,k_si,k_si2,k_si3,nxO_some,sx]; rfl
    ·exact la_ne (h1 j l' R' (by lia) hl' hR') (fun z => by subst z; have:=nodup_at nd hli hl'; lia)
    ·by_cases z:j = i
     ·subst z
      rw [hli] at hl'
      cases hl'
      rw [hRi] at hR'
      cases hR'
      exact la_self cl
     ·exact la_ne (h2 j l' R' (by lia) hl' hR') (fun w => by subst w; have:=nodup_at nd hli hl'; lia))
  (fun _ _ _ => trivial) ⟨⟨_,rfl⟩,fun _ _ _ h => h,fun j l R _ a b => hr j l R a b,fun j l R hj _ _ => by lia⟩
 refine hNO ?_; clear hNO
 refine ⟨s',y6,e,⟨by rw [List.length_map]; exact hlen,fun i l R a b => ?_⟩,hF⟩
 rw [List.getElem?_map] at b
 cases hb:Rs[i]? with
 | none => rw [hb] at b; cases b
 | some R' =>
  rw [hb] at b
  cases b
  exact h2 i l R' (by rw [Nat.zero_add,List.length_map]; exact getL_lt a) a hb
theorem copies {g:Store → Prop} (hg:∀ s,g s):∀ (ls:List Nat) (Rs:List (List Int)) (st:Store) (τ:MN.Env) (ys:List Val),RowsAt st ls Rs → τ.length = 1 →
  ∃ ms,compL g (aName 0) tTrueM (mCall lstF (mCons (mVar 0) mNil)) (ls.map Val.loc) τ st ys = .ok (ys ++ ms.map Val.loc) (st ++ Rs.map rowC) ∧ RowsAt (st ++ Rs.map rowC) ms Rs
 | [],[],st,τ,ys,_,_ => ⟨[],by rw [List.map_nil,compL_end (hg _)]; simp,by simp; exact RowsAt.nil st⟩
 | [],_ :: _,_,_,_,h,_ => by have:=h.1; simp at this
 | _ :: _,[],_,_,_,h,_ => by have:=h.1; simp at this
 | l :: ls,R :: Rs,st,[x],ys,h,_ => by
  have c:=lst_loc (it_of (h.2 0 l R rfl rfl))
  obtain ⟨ms,e,hm⟩:=copies hg ls Rs (st ++ [rowC R]) [some (.loc l)] (ys ++ [.loc st.length]) (h.tail.old _) rfl
  refine ⟨st.length :: ms,?_,?_⟩
  ·rw [List.map_cons,compL_one (y:=.loc st.length) (τ1:=[some (.loc l)]) (st1:=st ++ [rowC R]) (hg _) rfl (by simp only [bnd_ok,k_cons,k_cons2,ev_nil,ev_cons,ev_call,var_l]; exact c),e]
   simp
  ·rw [show st ++ (R :: Rs).map rowC = st ++ [rowC R] ++ Rs.map rowC by simp]
   exact .cons (la_old (la_new st (R.map Val.int)) _) hm
 | _ :: _,_ :: _,_,[],_,_,h => by simp at h
 | _ :: _,_ :: _,_,_ :: _ :: _,_,_,h => by simp at h
theorem ne_rows_l {st:Store} {x y:Nat} {ls ms:List Nat} {Rs:List (List Int)} (hx:itemsOf st x = some (ls.map Val.loc)) (hy:itemsOf st y = some (ms.map Val.loc)) (h1:RowsAt st ls Rs) (h2:RowsAt st ms Rs):neM (.loc x) (.loc y) st = .ok (.bl false) st:=by
 unfold neM
 have:eqD 16 st (.loc x) (.loc y) = some true:=by
  unfold eqD
  simp only [vw,hx,hy]
  exact eqDs_rows h1 h2
 rw [this]; rfl
theorem tail_ok {p:Int} (hp:prB p = true) {k a b n3 n4:Nat} {A B:List Int} {s:Store} (lk:s[k]? = some (Cell.lst [.loc a,.loc b])) (la:s[a]? = some (rowC A)) (lb:s[b]? = some (rowC B)) (l3:s[n3]? = some (rowC A)) (l4:s[n4]? = some (rowC B)) (hA:Row p A) (hB:Row p B) (h1:A.length ≤ 5000) (h2:B.length ≤ 5000) (hn:A ≠ [] ∨ B ≠ []) (x0:Option Val) :
  ∃ st',w_law_t5 [x0,some (.int p),some (.loc k),some (.loc n3),some (.loc n4),none,none,none,none] s = .rt (.bl true) st':=by
 refine bcn fun hNO => ?_
 obtain ⟨s1,k1,k2,k3,k4,k5,G,S,T,U,V,e1,F1,ho,hr,nd,hge⟩:=meet_ok hp l3 l4 hA hB hn h1 h2
 obtain ⟨s2,e2,F2⟩:=law_good2_ok hp hr ho (F1 _ _ la) (F1 _ _ lb) hA hB h1 h2
 have F12:=F1.trans F2
 have gx:∀ {s':Store},Fr s s' → ixV (.loc k) (.int 0) s' = .ok (.loc a) s' ∧ ixV (.loc k) (.int 1) s' = .ok (.loc b) s':=fun F => ⟨ix_loc (it_of (F _ _ lk)) at0,ix_loc (it_of (F _ _ lk)) at1⟩
 have q1:=ne_lists (it_of (F12 _ _ l3)) (it_of (F12 _ _ la)) (pureDs_ints 14 A)
 have q2:=ne_lists (it_of (F12 _ _ l4)) (it_of (F12 _ _ lb)) (pureDs_ints 14 B)
 refine hNO ?_; clear hNO
 -- own
 refine bcn fun hNO => ?_
 have ll:=la_new s2 ([k1,k2,k3,k4,k5].map Val.loc)
 have F3:=Fr.app s2 [Cell.lst ([k1,k2,k3,k4,k5].map Val.loc)]
 obtain ⟨n9,hn9⟩:∃ n,s2.length = n:=⟨_,rfl⟩
 rw [hn9] at ll
 obtain ⟨s3,hs3⟩:∃ t,s2 ++ [Cell.lst ([k1,k2,k3,k4,k5].map Val.loc)] = t:=⟨_,rfl⟩
 rw [hs3] at ll F3
 refine hNO ?_; clear hNO
 have lt':lstF [.tup [.loc k1,.loc k2,.loc k3,.loc k4,.loc k5]] s2 = .ok (.loc n9) s3:=by rw [← hn9,← hs3]; rfl
 have hr2:=F2.rows hr
 have lens:=ho.lens
 have hks:∀ m ∈ [k1,k2,k3,k4,k5],m < s2.length:=fun m hm => by
  obtain ⟨i,hi⟩:=List.mem_iff_getElem?.mp hm
  have hi':i < [G,S,T,U,V].length:=by rw [← hr2.1]; exact getL_lt hi
  exact getL_lt (hr2.2 i m _ hi (List.getElem?_eq_getElem hi'))
 obtain ⟨s4,e4,f4,hX,hF4⟩:=law_own_ok ll (F3.rows hr2) nd (fun z => by have:=hks n9 z; lia) (by simp) (by
  intro R hR
  simp only [List.mem_cons,List.not_mem_nil,or_false] at hR
  rcases hR with rfl | rfl | rfl | rfl | rfl <;> lia)
 refine bcn fun hNO => ?_
 obtain ⟨s5,y6,e5,hZ,hF5⟩:=zero_loop (x0:=x0) (x1:=some (.int p)) (x2:=some (.loc k)) (x3:=some (.loc n3)) (x4:=some (.loc n4)) (x5:=some (.tup [.loc k1,.loc k2,.loc k3,.loc k4,.loc k5])) (x7:=none) (x8:=none) nd rfl hX none
 have e5':forL (fun _ => True) (aName 6) (sSetI (mVar 6) (mC (.int 0)) (mC (.int 0))) [.loc k1,.loc k2,.loc k3,.loc k4,.loc k5] [x0,some (.int p),some (.loc k),some (.loc n3),some (.loc n4),some (.tup [.loc k1,.loc k2,.loc k3,.loc k4,.loc k5]),none,none,none] s4 = .nx [x0,some (.int p),some (.loc k),some (.loc n3),some (.loc n4),some (.tup [.loc k1,.loc k2,.loc k3,.loc k4,.loc k5]),y6,none,none] s5:=e5
 have old:Fr s s5:=fun m c hc => by
  have hm:m ∉ [k1,k2,k3,k4,k5]:=fun z => by have:=hge m z; have:=getL_lt hc; lia
  exact hF5 m c hm (hF4 m c hm (F3 _ _ (F12 _ _ hc)))
 refine hNO ?_; clear hNO
 -- held
 refine bcn fun hNO => ?_
 obtain ⟨ms,e6,hms⟩:=copies (g:=fun _ => True) (fun _ => trivial) [k1,k2,k3,k4,k5] ([G,S,T,U,V].map zR) s5 [none] [] hZ rfl
 rw [List.nil_append] at e6
 obtain ⟨s6,hs6⟩:∃ t,s5 ++ ([G,S,T,U,V].map zR).map rowC = t:=⟨_,rfl⟩
 have F6:=Fr.app s5 (([G,S,T,U,V].map zR).map rowC)
 rw [hs6] at e6 hms F6
 have e6':compL (fun _ => True) (aName 0) tTrueM (mCall lstF (mCons (mVar 0) mNil)) [.loc k1,.loc k2,.loc k3,.loc k4,.loc k5] [none] s5 [] = .ok (ms.map Val.loc) s6:=e6
 have lh:=la_new s6 (ms.map Val.loc)
 have F7:=Fr.app s6 [Cell.lst (ms.map Val.loc)]
 obtain ⟨n7,hn7⟩:∃ n,s6.length = n:=⟨_,rfl⟩
 obtain ⟨s7,hs7⟩:∃ t,s6 ++ [Cell.lst (ms.map Val.loc)] = t:=⟨_,rfl⟩
 rw [hn7] at lh
 rw [hs7] at lh F7
 have F57:=F6.trans F7
 have F07:=old.trans F57
 refine hNO ?_; clear hNO
 -- again
 refine bcn fun hNO => ?_
 obtain ⟨s8,t1,t2,t3,t4,t5,G',S',T',U',V',e8,F8,ho',hr',_,_⟩:=meet_ok hp (F07 _ _ l3) (F07 _ _ l4) hA hB hn h1 h2
 have hZ8:=(F57.trans F8).rows hZ
 obtain ⟨ns,e9,hns⟩:=copies (g:=fun _ => True) (fun _ => trivial) [k1,k2,k3,k4,k5] ([G,S,T,U,V].map zR) s8 [none] [] hZ8 rfl
 rw [List.nil_append] at e9
 have F9:=Fr.app s8 (([G,S,T,U,V].map zR).map rowC)
 obtain ⟨s9,hs9⟩:∃ t,s8 ++ ([G,S,T,U,V].map zR).map rowC = t:=⟨_,rfl⟩
 rw [hs9] at e9 hns F9
 have e9':compL (fun _ => True) (aName 0) tTrueM (mCall lstF (mCons (mVar 0) mNil)) [.loc k1,.loc k2,.loc k3,.loc k4,.loc k5] [none] s8 [] = .ok (ns.map Val.loc) s9:=e9
 have lg:=la_new s9 (ns.map Val.loc)
 have F10:=Fr.app s9 [Cell.lst (ns.map Val.loc)]
 obtain ⟨s10,hs10⟩:∃ t,s9 ++ [Cell.lst (ns.map Val.loc)] = t:=⟨_,rfl⟩
 obtain ⟨n10,hn10⟩:∃ n,s9.length = n:=⟨_,rfl⟩
 rw [hn10] at lg
 rw [hs10] at lg F10
 have F7t:=F8.trans (F9.trans F10)
 have nq:=ne_rows_l (it_of lg) (it_of (F7t _ _ lh)) (F10.rows hns) ((F7.trans F7t).rows hms)
 have F0t:=F07.trans F7t
 obtain ⟨s11,e11,F11⟩:=law_good2_ok hp ((F9.trans F10).rows hr') ho' (F0t _ _ la) (F0t _ _ lb) hA hB h1 h2
 have F0e:=F0t.trans F11
 have q3:=eq_lists (it_of (F0e _ _ l3)) (it_of (F0e _ _ la)) (pureDs_ints 14 A)
 have q4:=eq_lists (it_of (F0e _ _ l4)) (it_of (F0e _ _ lb)) (pureDs_ints 14 B)
 have hcap:∀ y6 y7 y8:Option Val,capM 1 [] [x0,some (.int p),some (.loc k),some (.loc n3),some (.loc n4),some (.tup [.loc k1,.loc k2,.loc k3,.loc k4,.loc k5]),y6,y7,y8] = [none]:=fun _ _ _ => rfl
 refine hNO ?_; clear hNO
 exact ⟨s11,by simp only [w_law_t5,w_law_t6,w_law_t7,w_law_t8,w_law_t9,w_law_t10,w_law_t11,w_law_t12,bnd_ok,sbn_ok,thn_nx,ev_bin,k_bin,k_bin2,k_and_t,k_tor_f,k_tnot,k_cons,k_cons2,k_ret,k_if_f,k_set,k_for,k_new,k_comp,ev_C,asB_bl,ev_asT,ev_and,ev_tor,ev_tnot,ev_nil,ev_cons,ev_call,ev_seq,ev_next,ev_ret,ev_ifS,ev_set,ev_for,ev_comp,ev_iseq,walkK_tup,var_i,var_t,var_l,var_s,List.set_cons_zero,List.set_cons_succ,List.length_cons,List.length_nil,Nat.reduceAdd,Bool.not_true,sizeLine_eq,Nat.reduceLeDiff,↓reduceIte,e1,(gx F1).1,(gx F1).2,e2,(gx F12).1,(gx F12).2,q1,q2,lt',e4,e5',hcap,e6',hn7,hs7,e8,e9',hn10,hs10,nq,(gx F0t).1,(gx F0t).2,e11,(gx F0e).1,(gx F0e).2,q3,q4]⟩
theorem law_true:∀ (c:Cell) (ns:List Int),ns.length ≤ 63 → itemsOf [c] 0 = some (ns.map Val.int) → ∃ st',w_law [.loc 0] [c] = .ok (.bl true) st':=by
 intro c ns hl hi
 refine bcn fun hNO => ?_
 obtain ⟨st,hst⟩:∃ st,[c] = st:=⟨_,rfl⟩
 refine hNO ?_; clear hNO
 rw [hst] at hi ⊢
 refine bcn fun hNO => ?_
 obtain ⟨o0,e0⟩:=cell_at2 (k:=0) hi (by decide) (by decide)
 obtain ⟨g1,p,ep,hp⟩:=prime_by o0 st
 obtain ⟨s1,k,a,b,A,B,e1,lk,la,lb,hA,hB,hlA,hlB⟩:=law_rows_ok hp (itemsOf_old hi g1)
 have gx:∀ {s':Store},Fr s1 s' → ixV (.loc k) (.int 0) s' = .ok (.loc a) s' ∧ ixV (.loc k) (.int 1) s' = .ok (.loc b) s':=fun F => ⟨ix_loc (it_of (F _ _ lk)) at0,ix_loc (it_of (F _ _ lk)) at1⟩
 have c1:=lst_loc (it_of la)
 have F1:=Fr.app s1 [rowC A]
 have c2:=lst_loc (it_of (F1 _ _ lb))
 have F2:Fr s1 (s1 ++ [rowC A] ++ [rowC B]):=F1.more _
 have l3:=la_old (la_new s1 (A.map Val.int)) [rowC B]
 have l4:=la_new (s1 ++ [rowC A]) (B.map Val.int)
 obtain ⟨n3,h3⟩:∃ n,s1.length = n:=⟨_,rfl⟩
 obtain ⟨n4,h4⟩:∃ n,(s1 ++ [rowC A]).length = n:=⟨_,rfl⟩
 obtain ⟨s2,hs2⟩:∃ t,s1 ++ [rowC A] ++ [rowC B] = t:=⟨_,rfl⟩
 refine hNO ?_; clear hNO
 have c1':lstF [.loc a] s1 = .ok (.loc n3) (s1 ++ [rowC A]):=by rw [← h3]; exact c1
 have c2':lstF [.loc b] (s1 ++ [rowC A]) = .ok (.loc n4) s2:=by rw [← h4,← hs2]; exact c2
 refine bcn fun hNO => ?_
 rw [h3] at l3
 rw [h4] at l4
 rw [hs2] at l3 l4 F2
 have x0:=(gx (Fr.refl s1)).1
 have x1:=(gx F1).2
 have q1:=eq_nil (st:=s2 ++ [Cell.lst []]) (it_of (la_old l3 _)) (itemsOf_new s2 [])
 have G1:=Fr.app s2 [Cell.lst []]
 obtain ⟨s3,hs3⟩:∃ t,s2 ++ [Cell.lst []] = t:=⟨_,rfl⟩
 rw [hs3] at q1 G1
 refine hNO ?_; clear hNO
 by_cases hAe:A = []
 ·have e:(A.map Val.int).isEmpty = true:=by rw [hAe]; rfl
  refine bcn fun hNO => ?_
  rw [e] at q1
  have q2:=eq_nil (st:=s3 ++ [Cell.lst []]) (it_of (la_old (G1 _ _ l4) _)) (itemsOf_new s3 [])
  have G2:=G1.more [Cell.lst []]
  obtain ⟨s4,hs4⟩:∃ t,s3 ++ [Cell.lst []] = t:=⟨_,rfl⟩
  rw [hs4] at q2 G2
  refine hNO ?_; clear hNO
  by_cases hBe:B = []
  ·have e':(B.map Val.int).isEmpty = true:=by rw [hBe]; rfl
   rw [e'] at q2
   obtain ⟨st',en⟩:=no_meet_ok hp s4
   exact ⟨st',by simp only [w_law,w_law_t1,w_law_t2,w_law_t3,w_law_t4,ev_fn,bnd_ok,sbn_ok,thn_nx,thn_rt,fin_rt,ev_bin,k_bin,k_bin2,k_tand_t,k_cons,k_cons2,k_lst,k_ret,k_if_t,k_set,ev_C,asB_bl,ev_asT,ev_tand,ev_nil,ev_cons,ev_lst,ev_call,ev_seq,ev_ret,ev_ifS,ev_set,var_i,var_l,var_s,List.map_cons,List.map_nil,List.cons_append,List.nil_append,List.replicate_succ,List.replicate_zero,List.set_cons_zero,List.set_cons_succ,Nat.reduceSub,List.length_cons,List.length_nil,Nat.reduceAdd,sizeLine_eq,Nat.reduceLeDiff,↓reduceIte,e0,ep,e1,x0,c1',x1,c2',hs3,q1,hs4,q2,en]⟩
  ·have e':(B.map Val.int).isEmpty = false:=by cases B with | nil => exact absurd rfl hBe | cons => rfl
   rw [e'] at q2
   obtain ⟨st',et⟩:=tail_ok hp (G2 _ _ (F2 _ _ lk)) (G2 _ _ (F2 _ _ la)) (G2 _ _ (F2 _ _ lb)) (G2 _ _ l3) (G2 _ _ l4) hA hB (by lia) (by lia) (.inr hBe) (some (.loc 0))
   exact ⟨st',by simp only [w_law,w_law_t1,w_law_t2,w_law_t3,w_law_t4,ev_fn,bnd_ok,sbn_ok,thn_nx,fin_rt,ev_bin,k_bin,k_bin2,k_tand_t,k_cons,k_cons2,k_lst,k_if_f,k_set,ev_C,asB_bl,ev_asT,ev_tand,ev_nil,ev_cons,ev_lst,ev_call,ev_seq,ev_next,ev_ifS,ev_set,var_i,var_l,var_s,List.map_cons,List.map_nil,List.cons_append,List.nil_append,List.replicate_succ,List.replicate_zero,List.set_cons_zero,List.set_cons_succ,Nat.reduceSub,List.length_cons,List.length_nil,Nat.reduceAdd,sizeLine_eq,Nat.reduceLeDiff,↓reduceIte,e0,ep,e1,x0,c1',x1,c2',hs3,q1,hs4,q2,et]⟩
 ·have e:(A.map Val.int).isEmpty = false:=by cases A with | nil => exact absurd rfl hAe | cons => rfl
  rw [e] at q1
  obtain ⟨st',et⟩:=tail_ok hp (G1 _ _ (F2 _ _ lk)) (G1 _ _ (F2 _ _ la)) (G1 _ _ (F2 _ _ lb)) (G1 _ _ l3) (G1 _ _ l4) hA hB (by lia) (by lia) (.inl hAe) (some (.loc 0))
  exact ⟨st',by simp only [w_law,w_law_t1,w_law_t2,w_law_t3,w_law_t4,ev_fn,bnd_ok,sbn_ok,thn_nx,fin_rt,ev_bin,k_bin,k_bin2,k_tand_f,k_cons,k_cons2,k_lst,k_if_f,k_set,ev_C,asB_bl,ev_asT,ev_tand,ev_nil,ev_cons,ev_lst,ev_call,ev_seq,ev_next,ev_ifS,ev_set,var_i,var_l,var_s,List.map_cons,List.map_nil,List.cons_append,List.nil_append,List.replicate_succ,List.replicate_zero,List.set_cons_zero,List.set_cons_succ,Nat.reduceSub,List.length_cons,List.length_nil,Nat.reduceAdd,sizeLine_eq,Nat.reduceLeDiff,↓reduceIte,e0,ep,e1,x0,c1',x1,c2',hs3,q1,et]⟩
end K16
namespace K16
open PySem PySem.Spec L2 MN
open PyProof.Rows hiding St
noncomputable def top (i:Nat):Stmt:=PySem.Challenge.pw_polyring_k16_met.main.body.getD i (.Pass ⟨0,0,0,0⟩)
structure Txt (K:PySem.W.Frag) (mg:Str → Option Value):Prop where
 b_ValueError:mg "ValueError" = none
 b_abs:mg "abs" = none
 b_all:mg "all" = none
 b_bool:mg "bool" = none
 b_enumerate:mg "enumerate" = none
 b_int:mg "int" = none
 b_isinstance:mg "isinstance" = none
 b_len:mg "len" = none
 b_list:mg "list" = none
 b_max:mg "max" = none
 b_range:mg "range" = none
 b_tuple:mg "tuple" = none
 b_zip:mg "zip" = none
 g_MOST_RING:Glob K mg "MOST_RING" (.int 997)
 g_FIRST_PRIMES:Glob K mg "FIRST_PRIMES" PM.FIRST_PRIMES
 c_AlgebraError:ExcC K mg "AlgebraError"
 c_NoRing:ExcC K mg "NoRing"
 c_NoPrime:ExcC K mg "NoPrime"
 c_NoInverse:ExcC K mg "NoInverse"
 c_ByNought:ExcC K mg "ByNought"
 c_NoMeet:ExcC K mg "NoMeet"
 c_NoParts:ExcC K mg "NoParts"
 c_NotPlain:ExcC K mg "NotPlain"
 sub:SubAll K mg tab
 kn:Known mg (knL kn)
 qx:QAll K mg K16.kn
theorem ms_setM {X:Cx} {E:XK} {e:Expr} {m:ME} {i:Nat} {x:Str} {pos pos':Pos} (hN:X.N.Nodup) (he:PE X e (tE X E m)) (hi:X.N[i]? = some x:=by rfl) (hx:Loc X.env.scope x:=by first | exact Or.inl rfl | exact Or.inr rfl) (hs:swapsWith e (some (.Name x pos')) pos.line X.env = pure false:=by rfl) (hf:X.fn x = true ∨ X.env.scope.names.lookup x = some .local:=by first | exact .inl rfl | exact .inr rfl | assumption):PS X (.Assign [.Name x pos'] e pos) (tS X E (sSet i m)):=ms_set i hN he hi hx hs hf
section
variable {P:Program} {w:World} {K:PySem.W.Frag} {mg:Str → Option Value} {base:Heap}
theorem sc_is_whole:FnScope ["thing"] ["thing"] (defScope (top 12)):=⟨rfl,rfl,rfl,by decide +kernel,rfl,by decide +kernel,by decide +kernel⟩
theorem ok_is_whole {f:Addr} {fd:FuncData} (F:Fun K "is_whole" "is_whole" (top 12) f fd) (hm:mg "is_whole" = some (.ref f)) (T:Txt K mg) :FnAt P w K mg base "is_whole" 1 PM.is_whole :=
 FnAt.mk F hm sc_is_whole (fun _ _ _ _ _ _ => len1 fun _ => rfl) fun cdv A outer s H E hr =>
  by
   refine ms_one ?_
   refine ms_ret ?_
   refine me_and ?_ ?_
   ·refine me_isT kitT_int (by rfl) T.b_isinstance (by rfl) T.b_int PyProof.Rows.boot_int ?_
    exact (me_var 0)
   refine me_one ?_
   refine me_not ?_
   refine me_isT kitT_bool (by rfl) T.b_isinstance (by rfl) T.b_bool PyProof.Rows.boot_bool ?_
   exact (me_var 0)
theorem nd_0_is_prime_within:(["prime","number"]:List Str).Nodup:=by decide +kernel
theorem sc_is_prime_within:FnScope ["number"] ["number"] (defScope (top 13)):=⟨rfl,rfl,rfl,by decide +kernel,rfl,by decide +kernel,by decide +kernel⟩
theorem ok_is_prime_within {f:Addr} {fd:FuncData} (F:Fun K "is_prime_within" "is_prime_within" (top 13) f fd) (hm:mg "is_prime_within" = some (.ref f)) (T:Txt K mg) :FnAt P w K mg base "is_prime_within" 1 PM.is_prime_within :=
 FnAt.mk F hm sc_is_prime_within (fun _ _ _ _ _ _ => len1 fun _ => rfl) fun cdv A outer s H E hr =>
  by
   refine ms_cons ?_ ?_
   ·refine ms_if ?_ ?_ ms_nil
    ·refine mt_cmp ?_ ?_ ?_
     ·exact op_inM
     ·exact (me_var 0)
     exact (me_glob (by rfl) T.g_FIRST_PRIMES)
    refine ms_one ?_
    exact (ms_ret me_bl)
   refine ms_cons ?_ ?_
   ·refine ms_if ?_ ?_ ms_nil
    ·refine mt_w ?_
     refine mw_or ?_ ?_
     ·refine mt_cmp ?_ ?_ me_int
      ·exact op_ltM
      exact (me_var 0)
     refine mw_or1 ?_
     refine mt_cmp ?_ ?_ ?_
     ·exact op_gtM
     ·exact (me_var 0)
     exact (me_glob (by rfl) T.g_MOST_RING)
    refine ms_one ?_
    exact (ms_ret me_bl)
   refine ms_one ?_
   refine ms_ret ?_
   refine me_callB ?_ (by rfl) T.b_all PyProof.Rows.boot_all ?_
   ·exact (call_allM hr.hd)
   refine ma_cons ?_ ma_nil
   refine me_comp (N:=["prime","number"]) (k:=1) rfl rfl (capsA (cl:=[("number",s.heap.objs.size + 1)]) (caps:=[0]) (by rfl) (.cons (c:=s.heap.objs.size + 1) (by rfl) (by rfl) (by first | exact Or.inl rfl | exact Or.inr rfl) (by first | exact Or.inl rfl | exact Or.inr rfl) .nil) (by rfl) (by rfl) (by rfl) (by rfl) (by rfl) (by rfl)) ?_ (fun _ _ _ _ => ?_) (fun _ _ _ _ => mif_nil) (fun _ _ _ _ => ?_)
   ·refine mi_seq ?_
    exact (me_glob (by rfl) T.g_FIRST_PRIMES)
   ·exact (mg_name 0 nd_0_is_prime_within)
   refine me_cmp ?_ ?_ me_int
   ·exact (op_neM hr.units)
   refine me_bin ?_ ?_ ?_
   ·exact op_modM
   ·exact (me_var 1)
   exact (me_var 0)
theorem sc_signed_unit:FnScope ["number"] ["number"] (defScope (top 17)):=⟨rfl,rfl,rfl,by decide +kernel,rfl,by decide +kernel,by decide +kernel⟩
theorem ok_signed_unit {f:Addr} {fd:FuncData} (F:Fun K "signed_unit" "signed_unit" (top 17) f fd) (hm:mg "signed_unit" = some (.ref f)) (T:Txt K mg) :FnAt P w K mg base "signed_unit" 1 PM.signed_unit :=
 FnAt.mk F hm sc_signed_unit (fun _ _ _ _ _ _ => len1 fun _ => rfl) fun cdv A outer s H E hr =>
  by
   refine ms_one ?_
   refine ms_ret ?_
   refine me_if ?_ ?_ me_int
   ·refine mt_cmp ?_ ?_ me_int
    ·exact op_ltM
    exact (me_var 0)
   exact (me_neg me_int)
theorem sc_whole_inverse:FnScope ["number"] ["number"] (defScope (top 20)):=⟨rfl,rfl,rfl,by decide +kernel,rfl,by decide +kernel,by decide +kernel⟩
theorem ok_whole_inverse {f:Addr} {fd:FuncData} (F:Fun K "whole_inverse" "whole_inverse" (top 20) f fd) (hm:mg "whole_inverse" = some (.ref f)) (T:Txt K mg) :FnAt P w K mg base "whole_inverse" 1 PM.whole_inverse :=
 FnAt.mk F hm sc_whole_inverse (fun _ _ _ _ _ _ => len1 fun _ => rfl) fun cdv A outer s H E hr =>
  by
   refine ms_cons ?_ ?_
   ·refine ms_if ?_ ?_ ms_nil
    ·refine mt_cmp ?_ ?_ me_int
     ·exact (op_neM hr.units)
     refine me_callB ?_ (by rfl) T.b_abs PyProof.Rows.boot_abs ?_
     ·exact call_absM
     refine ma_cons ?_ ma_nil
     exact (me_var 0)
    refine ms_one ?_
    refine ms_raiseC own_raises rfl T.c_NoInverse (by rfl) ?_
    exact (ma_str ma_nil)
   refine ms_one ?_
   refine ms_ret ?_
   exact (me_var 0)
theorem nd_0_row_of_rests:(["number","prime"]:List Str).Nodup:=by decide +kernel
theorem sc_row_of_rests:FnScope ["prime","numbers","row"] ["prime","numbers"] (defScope (top 22)):=⟨rfl,rfl,rfl,by decide +kernel,rfl,by decide +kernel,by decide +kernel⟩
theorem ok_row_of_rests {f:Addr} {fd:FuncData} (F:Fun K "row_of_rests" "row_of_rests" (top 22) f fd) (hm:mg "row_of_rests" = some (.ref f)) (T:Txt K mg) :FnAt P w K mg base "row_of_rests" 1 PM.row_of_rests :=
 FnAt.mk F hm sc_row_of_rests (fun _ _ _ _ _ _ => len2 fun _ _ => rfl) fun cdv A outer s H E hr =>
  by
   refine ms_cons (MN.ms_setComp 2 (N:=["number","prime"]) (k:=1) sc_row_of_rests.nd rfl rfl (capsA (cl:=[("prime",s.heap.objs.size + 1)]) (caps:=[0]) (by rfl) (.cons (c:=s.heap.objs.size + 1) (by rfl) (by rfl) (by first | exact Or.inl rfl | exact Or.inr rfl) (by first | exact Or.inl rfl | exact Or.inr rfl) .nil) (by rfl) (by rfl) (by rfl) (by rfl) (by rfl) (by rfl)) (mi_seq (me_var 1)) (fun _ _ _ _ => (mg_name 0 nd_0_row_of_rests)) (fun _ _ _ _ => mif_nil) (fun _ _ _ _ => (me_bin op_modM (me_var 0) (me_var 1)))) ?_
   refine ms_cons ?_ ?_
   ·refine ms_while own_pass ?_ ?_
    ·refine mt_w ?_
     refine mw_and ?_ ?_
     ·refine mt_cmp ?_ ?_ me_int
      ·exact op_gtM
      refine me_callB ?_ (by rfl) T.b_len PySem.boot_len ?_
      ·exact call_lenM
      refine ma_cons ?_ ma_nil
      exact (me_var 2)
     refine mw_and1 ?_
     refine mt_cmp ?_ ?_ me_int
     ·exact (op_eqM hr.units)
     refine me_ixM ?_ ?_
     ·exact (me_var 2)
     exact (me_neg me_int)
    refine ms_one ?_
    refine ms_expr ?_
    refine me_pop0 ?_
    exact (me_var 2)
   refine ms_one ?_
   refine ms_ret ?_
   exact (me_var 2)
theorem sc_with_noughts:FnScope ["row","length"] ["row","length"] (defScope (top 24)):=⟨rfl,rfl,rfl,by decide +kernel,rfl,by decide +kernel,by decide +kernel⟩
theorem ok_with_noughts {f:Addr} {fd:FuncData} (F:Fun K "with_noughts" "with_noughts" (top 24) f fd) (hm:mg "with_noughts" = some (.ref f)) (T:Txt K mg) :FnAt P w K mg base "with_noughts" 1 PM.with_noughts :=
 FnAt.mk F hm sc_with_noughts (fun _ _ _ _ _ _ => len2 fun _ _ => rfl) fun cdv A outer s H E hr =>
  by
   refine ms_one ?_
   refine ms_ret ?_
   refine me_bin ?_ ?_ ?_
   ·exact op_addM
   ·refine me_callTy ?_ (by rfl) T.b_list PyProof.Rows.boot_list ?_
    ·exact call_lstM
    refine ma_cons ?_ ma_nil
    exact (me_var 0)
   refine me_bin ?_ ?_ ?_
   ·exact op_mulM
   ·refine me_lst ?_
    exact (ma_int ma_nil)
   refine me_bin ?_ ?_ ?_
   ·exact op_subM
   ·exact (me_var 1)
   refine me_callB ?_ (by rfl) T.b_len PySem.boot_len ?_
   ·exact call_lenM
   refine ma_cons ?_ ma_nil
   exact (me_var 0)
theorem sc__law_cell_at:FnScope ["_law_script","_law_k","_law_cell","_law_one","_law_two"] ["_law_script","_law_k"] (defScope (top 33)):=⟨rfl,rfl,rfl,by decide +kernel,rfl,by decide +kernel,by decide +kernel⟩
theorem ok__law_cell_at {f:Addr} {fd:FuncData} (F:Fun K "_law_cell_at" "_law_cell_at" (top 33) f fd) (hm:mg "_law_cell_at" = some (.ref f)) (T:Txt K mg) :FnAt P w K mg base "_law_cell_at" 1 PM.law_cell_at_v2 :=
 FnAt.mk F hm sc__law_cell_at (fun _ _ _ _ _ _ => len2 fun _ _ => rfl) fun cdv A outer s H E hr =>
  by
   refine ms_cons ?_ ?_
   ·refine ms_setM ?_ ?_
    ·exact sc__law_cell_at.nd
    exact me_int
   refine ms_cons ?_ ?_
   ·refine ms_if ?_ ?_ ms_nil
    ·refine mt_cmp ?_ ?_ ?_
     ·exact op_ltM
     ·exact (me_var 1)
     refine me_callB ?_ (by rfl) T.b_len PySem.boot_len ?_
     ·exact call_lenM
     refine ma_cons ?_ ma_nil
     exact (me_var 0)
    refine ms_one ?_
    refine ms_setM ?_ ?_
    ·exact sc__law_cell_at.nd
    refine me_ixM ?_ ?_
    ·exact (me_var 0)
    exact (me_var 1)
   refine ms_cons ?_ ?_
   ·refine ms_if ?_ ?_ ms_nil
    ·refine mt_cmp ?_ ?_ ?_
     ·exact op_gtM
     ·refine me_callB ?_ (by rfl) T.b_abs PyProof.Rows.boot_abs ?_
      ·exact call_absM
      refine ma_cons ?_ ma_nil
      exact (me_var 2)
     exact (me_bin op_powM me_int me_int)
    refine ms_one ?_
    refine ms_ret ?_
    exact (me_var 2)
   refine ms_cons ?_ ?_
   ·refine ms_setM ?_ ?_
    ·exact sc__law_cell_at.nd
    refine me_bin ?_ ?_ me_int
    ·exact op_modM
    refine me_bin ?_ ?_ me_int
    ·exact op_addM
    refine me_bin ?_ ?_ ?_
    ·exact op_addM
    ·refine me_bin ?_ ?_ ?_
     ·exact op_addM
     ·refine me_bin ?_ ?_ me_int
      ·exact op_mulM
      exact (me_var 2)
     refine me_bin ?_ ?_ ?_
     ·exact op_mulM
     ·refine me_bin ?_ me_int ?_
      ·exact op_mulM
      exact (me_var 1)
     exact (me_var 1)
    refine me_bin ?_ me_int ?_
    ·exact op_mulM
    exact (me_var 1)
   refine ms_cons ?_ ?_
   ·refine ms_setM ?_ ?_
    ·exact sc__law_cell_at.nd
    refine me_bin ?_ ?_ me_int
    ·exact op_modM
    refine me_bin ?_ ?_ me_int
    ·exact op_mulM
    refine me_bin ?_ ?_ me_int
    ·exact op_modM
    refine me_bin ?_ ?_ ?_
    ·exact op_mulM
    ·exact (me_var 3)
    exact (me_var 3)
   refine ms_one ?_
   refine ms_ret ?_
   refine me_bin ?_ ?_ ?_
   ·exact op_addM
   ·refine me_bin ?_ ?_ me_int
    ·exact op_mulM
    refine me_bin ?_ ?_ me_int
    ·exact op_modM
    refine me_bin ?_ ?_ ?_
    ·exact op_mulM
    ·exact (me_var 4)
    exact (me_var 4)
   exact (me_var 4)
theorem sc__law_whole:FnScope ["_law_found"] ["_law_found"] (defScope (top 34)):=⟨rfl,rfl,rfl,by decide +kernel,rfl,by decide +kernel,by decide +kernel⟩
theorem ok__law_whole {f:Addr} {fd:FuncData} (F:Fun K "_law_whole" "_law_whole" (top 34) f fd) (hm:mg "_law_whole" = some (.ref f)) (T:Txt K mg) :FnAt P w K mg base "_law_whole" 1 PM.law_whole :=
 FnAt.mk F hm sc__law_whole (fun _ _ _ _ _ _ => len1 fun _ => rfl) fun cdv A outer s H E hr =>
  by
   refine ms_one ?_
   refine ms_ret ?_
   refine me_and ?_ ?_
   ·refine me_isT kitT_int (by rfl) T.b_isinstance (by rfl) T.b_int PyProof.Rows.boot_int ?_
    exact (me_var 0)
   refine me_one ?_
   refine me_not ?_
   refine me_isT kitT_bool (by rfl) T.b_isinstance (by rfl) T.b_bool PyProof.Rows.boot_bool ?_
   exact (me_var 0)
theorem nd_0_law_prime_by:(["_law_k","_law_number"]:List Str).Nodup:=by decide +kernel
theorem sc__law_prime_by:FnScope ["_law_cell","_law_number"] ["_law_cell"] (defScope (top 35)):=⟨rfl,rfl,rfl,by decide +kernel,rfl,by decide +kernel,by decide +kernel⟩
theorem ok__law_prime_by {f:Addr} {fd:FuncData} (F:Fun K "_law_prime_by" "_law_prime_by" (top 35) f fd) (hm:mg "_law_prime_by" = some (.ref f)) (T:Txt K mg) :FnAt P w K mg base "_law_prime_by" 1 PM.law_prime_by :=
 FnAt.mk F hm sc__law_prime_by (fun _ _ _ _ _ _ => len1 fun _ => rfl) fun cdv A outer s H E hr =>
  by
   refine ms_cons ?_ ?_
   ·refine ms_setM ?_ ?_
    ·exact sc__law_prime_by.nd
    refine me_ixM ?_ ?_
    ·refine me_lst ?_
     refine ma_int ?_
     refine ma_int ?_
     refine ma_int ?_
     refine ma_int ?_
     refine ma_int ?_
     refine ma_int ?_
     refine ma_cons ?_ ?_
     ·refine me_bin ?_ me_int ?_
      ·exact op_addM
      refine me_bin ?_ ?_ me_int
      ·exact op_modM
      refine me_bin ?_ ?_ me_int
      ·exact op_fdivM
      exact (me_var 0)
     refine ma_cons ?_ ma_nil
     refine me_bin ?_ me_int ?_
     ·exact op_addM
     refine me_bin ?_ ?_ me_int
     ·exact op_modM
     refine me_bin ?_ ?_ me_int
     ·exact op_fdivM
     exact (me_var 0)
    refine me_bin ?_ ?_ me_int
    ·exact op_modM
    exact (me_var 0)
   refine ms_cons ?_ ?_
   ·refine ms_while own_pass ?_ ?_
    ·refine mt_cmp ?_ ?_ ?_
     ·exact (op_neM hr.units)
     ·refine me_comp (N:=["_law_k","_law_number"]) (k:=1) rfl rfl (capsA (cl:=[("_law_number",s.heap.objs.size + 1)]) (caps:=[1]) (by rfl) (.cons (c:=s.heap.objs.size + 1) (by rfl) (by rfl) (by first | exact Or.inl rfl | exact Or.inr rfl) (by first | exact Or.inl rfl | exact Or.inr rfl) .nil) (by rfl) (by rfl) (by rfl) (by rfl) (by rfl) (by rfl)) ?_ (fun _ _ _ _ => ?_) (fun _ _ _ _ => ?_) (fun _ _ _ _ => ?_)
      ·refine mi_range2 (by rfl) T.b_range ?_
       refine ma_int ?_
       exact (ma_int ma_nil)
      ·exact (mg_name 0 nd_0_law_prime_by)
      ·refine mif_one ?_
       refine mt_w ?_
       refine mw_and ?_ ?_
       ·refine mt_cmp ?_ ?_ ?_
        ·exact op_ltM
        ·exact (me_var 0)
        exact (me_var 1)
       refine mw_and1 ?_
       refine mt_cmp ?_ ?_ me_int
       ·exact (op_eqM hr.units)
       refine me_bin ?_ ?_ ?_
       ·exact op_modM
       ·exact (me_var 1)
       exact (me_var 0)
      exact (me_var 0)
     exact (me_lst ma_nil)
    refine ms_one ?_
    refine ms_setM ?_ ?_
    ·exact sc__law_prime_by.nd
    refine me_bin ?_ ?_ me_int
    ·exact op_subM
    exact (me_var 1)
   refine ms_one ?_
   refine ms_ret ?_
   exact (me_var 1)
theorem sc__law_cut:FnScope ["_law_numbers","_law_many"] ["_law_numbers"] (defScope (top 36)):=⟨rfl,rfl,rfl,by decide +kernel,rfl,by decide +kernel,by decide +kernel⟩
theorem ok__law_cut {f:Addr} {fd:FuncData} (F:Fun K "_law_cut" "_law_cut" (top 36) f fd) (hm:mg "_law_cut" = some (.ref f)) (T:Txt K mg) :FnAt P w K mg base "_law_cut" 1 PM.law_cut :=
 FnAt.mk F hm sc__law_cut (fun _ _ _ _ _ _ => len1 fun _ => rfl) fun cdv A outer s H E hr =>
  by
   refine ms_cons ?_ ?_
   ·refine ms_setM ?_ ?_
    ·exact sc__law_cut.nd
    refine me_callB ?_ (by rfl) T.b_len PySem.boot_len ?_
    ·exact call_lenM
    refine ma_cons ?_ ma_nil
    exact (me_var 0)
   refine ms_cons ?_ ?_
   ·refine ms_while own_pass ?_ ?_
    ·refine mt_w ?_
     refine mw_and ?_ ?_
     ·refine mt_cmp ?_ ?_ me_int
      ·exact op_gtM
      exact (me_var 1)
     refine mw_and1 ?_
     refine mt_cmp ?_ ?_ me_int
     ·exact (op_eqM hr.units)
     refine me_ixM ?_ ?_
     ·exact (me_var 0)
     refine me_bin ?_ ?_ me_int
     ·exact op_subM
     exact (me_var 1)
    refine ms_one ?_
    refine ms_setM ?_ ?_
    ·exact sc__law_cut.nd
    refine me_bin ?_ ?_ me_int
    ·exact op_subM
    exact (me_var 1)
   refine ms_one ?_
   refine ms_ret ?_
   refine me_sl ?_ mo_none ?_
   ·exact (me_var 0)
   refine mo_some ?_
   exact (me_var 1)
theorem nd_0_law_own:(["_law_row"]:List Str).Nodup:=by decide +kernel
theorem sc__law_own:FnScope ["_law_rows_here","_law_kept","_law_k","_law_j"] ["_law_rows_here"] (defScope (top 44)):=⟨rfl,rfl,rfl,by decide +kernel,rfl,by decide +kernel,by decide +kernel⟩
theorem ok__law_own {f:Addr} {fd:FuncData} (F:Fun K "_law_own" "_law_own" (top 44) f fd) (hm:mg "_law_own" = some (.ref f)) (T:Txt K mg) :FnAt P w K mg base "_law_own" 1 PM.law_own :=
 FnAt.mk F hm sc__law_own (fun _ _ _ _ _ _ => len1 fun _ => rfl) fun cdv A outer s H E hr =>
  by
   refine ms_cons (MN.ms_setComp 1 (N:=["_law_row"]) (k:=1) sc__law_own.nd rfl rfl (capsA (cl:=[]) (caps:=[]) (by rfl) .nil (by rfl) (by rfl) (by rfl) (by rfl) (by rfl) (by rfl)) (mi_seq (me_var 0)) (fun _ _ _ _ => (mg_name 0 nd_0_law_own)) (fun _ _ _ _ => mif_nil) (fun _ _ _ _ => (me_callTy call_lstM (by rfl) T.b_list PyProof.Rows.boot_list (ma_cons (me_var 0) ma_nil)))) ?_
   refine ms_cons ?_ ?_
   ·refine ms_for own_pass rfl ?_ ?_ ?_
    ·refine mi_range1 (by rfl) T.b_range ?_
     refine ma_cons ?_ ma_nil
     refine me_callB ?_ (by rfl) T.b_len PySem.boot_len ?_
     ·exact call_lenM
     refine ma_cons ?_ ma_nil
     exact (me_var 0)
    ·exact (mg_name 2 sc__law_own.nd)
    refine ms_cons ?_ ?_
    ·refine ms_expr ?_
     refine me_append ?_ ?_
     ·refine me_ixM ?_ ?_
      ·exact (me_var 0)
      exact (me_var 2)
     exact (ma_int ma_nil)
    refine ms_one ?_
    refine ms_for own_pass rfl ?_ ?_ ?_
    ·refine mi_range1 (by rfl) T.b_range ?_
     refine ma_cons ?_ ma_nil
     refine me_callB ?_ (by rfl) T.b_len PySem.boot_len ?_
     ·exact call_lenM
     refine ma_cons ?_ ma_nil
     exact (me_var 0)
    ·exact (mg_name 3 sc__law_own.nd)
    refine ms_one ?_
    refine ms_if ?_ ?_ ms_nil
    ·refine mt_cmp ?_ ?_ ?_
     ·exact (op_neM hr.units)
     ·refine me_ixM ?_ ?_
      ·exact (me_var 0)
      exact (me_var 3)
     refine me_bin ?_ ?_ ?_
     ·exact op_addM
     ·refine me_ixM ?_ ?_
      ·exact (me_var 1)
      exact (me_var 3)
     refine me_bin ?_ ?_ ?_
     ·exact op_mulM
     ·refine me_lst ?_
      exact (ma_int ma_nil)
     refine me_callTy ?_ (by rfl) T.b_int PyProof.Rows.Boot.«int» ?_
     ·exact call_intM
     refine ma_cons ?_ ma_nil
     refine me_cmp ?_ ?_ ?_
     ·exact op_leM
     ·exact (me_var 3)
     exact (me_var 2)
    refine ms_one ?_
    exact (ms_ret me_bl)
   refine ms_one ?_
   exact (ms_ret me_bl)
theorem sc_is_ring:FnScope ["thing"] ["thing"] (defScope (top 14)):=⟨rfl,rfl,rfl,by decide +kernel,rfl,by decide +kernel,by decide +kernel⟩
theorem ok_is_ring {f:Addr} {fd:FuncData} (F:Fun K "is_ring" "is_ring" (top 14) f fd) (hm:mg "is_ring" = some (.ref f)) (T:Txt K mg) (G_is_whole:FnAt P w K mg base "is_whole" 1 PM.is_whole) (G_is_prime_within:FnAt P w K mg base "is_prime_within" 1 PM.is_prime_within):FnAt P w K mg base "is_ring" 2 PM.is_ring :=
 FnAt.mk F hm sc_is_ring (fun _ _ _ _ _ _ => len1 fun _ => rfl) fun cdv A outer s H E hr =>
  by
   refine ms_one ?_
   refine ms_ret ?_
   refine me_and ?_ ?_
   ·refine me_fn G_is_whole hr (by decide) (by rfl) pass_out ?_
    refine ma_cons ?_ ma_nil
    exact (me_var 0)
   refine me_one ?_
   refine me_or ?_ ?_
   ·refine me_cmp ?_ ?_ me_int
    ·exact (op_eqM hr.units)
    exact (me_var 0)
   refine me_one ?_
   refine me_fn G_is_prime_within hr (by decide) (by rfl) pass_out ?_
   refine ma_cons ?_ ma_nil
   exact (me_var 0)
theorem nd_0_shared:(["high","low","often"]:List Str).Nodup:=by decide +kernel
theorem sc_shared:FnScope ["one","other","upper","lower","often","following"] ["one","other"] (defScope (top 18)):=⟨rfl,rfl,rfl,by decide +kernel,rfl,by decide +kernel,by decide +kernel⟩
theorem ok_shared {f:Addr} {fd:FuncData} (F:Fun K "shared" "shared" (top 18) f fd) (hm:mg "shared" = some (.ref f)) (T:Txt K mg) (G_signed_unit:FnAt P w K mg base "signed_unit" 1 PM.signed_unit):FnAt P w K mg base "shared" 2 PM.shared :=
 FnAt.mk F hm sc_shared (fun _ _ _ _ _ _ => len2 fun _ _ => rfl) fun cdv A outer s H E hr =>
  by
   refine ms_cons ?_ ?_
   ·refine ms_setM ?_ ?_
    ·exact sc_shared.nd
    refine me_tup ?_
    refine ma_cons ?_ ?_
    ·refine me_callB ?_ (by rfl) T.b_abs PyProof.Rows.boot_abs ?_
     ·exact call_absM
     refine ma_cons ?_ ma_nil
     exact (me_var 0)
    refine ma_cons ?_ ?_
    ·refine me_fn G_signed_unit hr (by decide) (by rfl) pass_out ?_
     refine ma_cons ?_ ma_nil
     exact (me_var 0)
    exact (ma_int ma_nil)
   refine ms_cons ?_ ?_
   ·refine ms_setM ?_ ?_
    ·exact sc_shared.nd
    refine me_tup ?_
    refine ma_cons ?_ ?_
    ·refine me_callB ?_ (by rfl) T.b_abs PyProof.Rows.boot_abs ?_
     ·exact call_absM
     refine ma_cons ?_ ma_nil
     exact (me_var 1)
    refine ma_int ?_
    refine ma_cons ?_ ma_nil
    refine me_fn G_signed_unit hr (by decide) (by rfl) pass_out ?_
    refine ma_cons ?_ ma_nil
    exact (me_var 1)
   refine ms_cons ?_ ?_
   ·refine ms_while own_pass ?_ ?_
    ·refine mt_cmp ?_ ?_ me_int
     ·exact (op_neM hr.units)
     refine me_ixM ?_ me_int
     exact (me_var 3)
    refine ms_cons ?_ ?_
    ·refine ms_setM ?_ ?_
     ·exact sc_shared.nd
     refine me_bin ?_ ?_ ?_
     ·exact op_fdivM
     ·refine me_ixM ?_ me_int
      exact (me_var 2)
     refine me_ixM ?_ me_int
     exact (me_var 3)
    refine ms_cons ?_ ?_
    ·refine ms_setM ?_ ?_
     ·exact sc_shared.nd
     refine me_callTy ?_ (by rfl) T.b_tuple PyProof.Rows.boot_tuple ?_
     ·exact call_tupM
     refine ma_cons ?_ ma_nil
     refine me_comp (N:=["high","low","often"]) (k:=2) rfl rfl (capsA (cl:=[("often",s.heap.objs.size + 1)]) (caps:=[4]) (by rfl) (.cons (c:=s.heap.objs.size + 1) (by rfl) (by rfl) (by first | exact Or.inl rfl | exact Or.inr rfl) (by first | exact Or.inl rfl | exact Or.inr rfl) .nil) (by rfl) (by rfl) (by rfl) (by rfl) (by rfl) (by rfl)) ?_ (fun _ _ _ _ => ?_) (fun _ _ _ _ => mif_nil) (fun _ _ _ _ => ?_)
     ·refine mi_zip false false (by rfl) T.b_zip ?_
      refine ma_cons ?_ ?_
      ·exact (me_var 2)
      refine ma_cons ?_ ma_nil
      exact (me_var 3)
     ·refine mg_tup rfl ?_
      refine mgs_cons ?_ ?_
      ·exact (mg_name 0 nd_0_shared)
      refine mgs_cons ?_ mgs_nil
      exact (mg_name 1 nd_0_shared)
     refine me_bin ?_ ?_ ?_
     ·exact op_subM
     ·exact (me_var 0)
     refine me_bin ?_ ?_ ?_
     ·exact op_mulM
     ·exact (me_var 2)
     exact (me_var 1)
    refine ms_cons ?_ ?_
    ·refine ms_setM ?_ ?_
     ·exact sc_shared.nd
     exact (me_var 3)
    refine ms_one ?_
    refine ms_setM ?_ ?_
    ·exact sc_shared.nd
    exact (me_var 5)
   refine ms_one ?_
   refine ms_ret ?_
   exact (me_var 2)
theorem nd_0_row_with_multiple:(["one","other","factor"]:List Str).Nodup:=by decide +kernel
theorem sc_row_with_multiple:FnScope ["prime","ones","others","factor","length","longer"] ["prime","ones","others","factor"] (defScope (top 23)):=⟨rfl,rfl,rfl,by decide +kernel,rfl,by decide +kernel,by decide +kernel⟩
theorem ok_row_with_multiple {f:Addr} {fd:FuncData} (F:Fun K "row_with_multiple" "row_with_multiple" (top 23) f fd) (hm:mg "row_with_multiple" = some (.ref f)) (T:Txt K mg) (G_row_of_rests:FnAt P w K mg base "row_of_rests" 1 PM.row_of_rests) (G_with_noughts:FnAt P w K mg base "with_noughts" 1 PM.with_noughts):FnAt P w K mg base "row_with_multiple" 2 PM.row_with_multiple :=
 FnAt.mk F hm sc_row_with_multiple (fun _ _ _ _ _ _ => len4 fun _ _ _ _ => rfl) fun cdv A outer s H E hr =>
  by
   refine ms_cons ?_ ?_
   ·refine ms_setM ?_ ?_
    ·exact sc_row_with_multiple.nd
    refine me_callB ?_ (by rfl) T.b_max PyProof.Rows.Boot.«max» ?_
    ·exact (call_maxM hr.hd)
    refine ma_cons ?_ ?_
    ·refine me_callB ?_ (by rfl) T.b_len PySem.boot_len ?_
     ·exact call_lenM
     refine ma_cons ?_ ma_nil
     exact (me_var 1)
    refine ma_cons ?_ ma_nil
    refine me_callB ?_ (by rfl) T.b_len PySem.boot_len ?_
    ·exact call_lenM
    refine ma_cons ?_ ma_nil
    exact (me_var 2)
   refine ms_cons ?_ ?_
   ·refine ms_setM ?_ ?_
    ·exact sc_row_with_multiple.nd
    refine me_fn G_with_noughts hr (by decide) (by rfl) pass_out ?_
    refine ma_cons ?_ ?_
    ·exact (me_var 1)
    refine ma_cons ?_ ma_nil
    exact (me_var 4)
   refine ms_one ?_
   refine ms_ret ?_
   refine me_fn G_row_of_rests hr (by decide) (by rfl) pass_out ?_
   refine ma_cons ?_ ?_
   ·exact (me_var 0)
   refine ma_cons ?_ ma_nil
   refine me_comp (N:=["one","other","factor"]) (k:=2) rfl rfl (capsA (cl:=[("factor",s.heap.objs.size + 1)]) (caps:=[3]) (by rfl) (.cons (c:=s.heap.objs.size + 1) (by rfl) (by rfl) (by first | exact Or.inl rfl | exact Or.inr rfl) (by first | exact Or.inl rfl | exact Or.inr rfl) .nil) (by rfl) (by rfl) (by rfl) (by rfl) (by rfl) (by rfl)) ?_ (fun _ _ _ _ => ?_) (fun _ _ _ _ => mif_nil) (fun _ _ _ _ => ?_)
   ·refine mi_zip true true (by rfl) T.b_zip ?_
    refine ma_cons ?_ ?_
    ·exact (me_var 5)
    refine ma_cons ?_ ma_nil
    refine me_fn G_with_noughts hr (by decide) (by rfl) pass_out ?_
    refine ma_cons ?_ ?_
    ·exact (me_var 2)
    refine ma_cons ?_ ma_nil
    exact (me_var 4)
   ·refine mg_tup rfl ?_
    refine mgs_cons ?_ ?_
    ·exact (mg_name 0 nd_0_row_with_multiple)
    refine mgs_cons ?_ mgs_nil
    exact (mg_name 1 nd_0_row_with_multiple)
   refine me_bin ?_ ?_ ?_
   ·exact op_addM
   ·exact (me_var 0)
   refine me_bin ?_ ?_ ?_
   ·exact op_mulM
   ·exact (me_var 2)
   exact (me_var 1)
theorem sc_row_product:FnScope ["prime","ones","others","numbers","power","number","more","other"] ["prime","ones","others"] (defScope (top 25)):=⟨rfl,rfl,rfl,by decide +kernel,rfl,by decide +kernel,by decide +kernel⟩
theorem ok_row_product {f:Addr} {fd:FuncData} (F:Fun K "row_product" "row_product" (top 25) f fd) (hm:mg "row_product" = some (.ref f)) (T:Txt K mg) (G_row_of_rests:FnAt P w K mg base "row_of_rests" 1 PM.row_of_rests):FnAt P w K mg base "row_product" 2 PM.row_product :=
 FnAt.mk F hm sc_row_product (fun _ _ _ _ _ _ => len3 fun _ _ _ => rfl) fun cdv A outer s H E hr =>
  by
   refine ms_cons ?_ ?_
   ·refine ms_if ?_ ?_ ms_nil
    ·refine mt_w ?_
     refine mw_or ?_ ?_
     ·refine mt_cmp ?_ ?_ me_int
      ·exact (op_eqM hr.units)
      refine me_callB ?_ (by rfl) T.b_len PySem.boot_len ?_
      ·exact call_lenM
      refine ma_cons ?_ ma_nil
      exact (me_var 1)
     refine mw_or1 ?_
     refine mt_cmp ?_ ?_ me_int
     ·exact (op_eqM hr.units)
     refine me_callB ?_ (by rfl) T.b_len PySem.boot_len ?_
     ·exact call_lenM
     refine ma_cons ?_ ma_nil
     exact (me_var 2)
    refine ms_one ?_
    refine ms_ret ?_
    exact (me_lst ma_nil)
   refine ms_cons ?_ ?_
   ·refine ms_setM ?_ ?_
    ·exact sc_row_product.nd
    refine me_bin ?_ ?_ ?_
    ·exact op_mulM
    ·refine me_lst ?_
     exact (ma_int ma_nil)
    refine me_bin ?_ ?_ me_int
    ·exact op_subM
    refine me_bin ?_ ?_ ?_
    ·exact op_addM
    ·refine me_callB ?_ (by rfl) T.b_len PySem.boot_len ?_
     ·exact call_lenM
     refine ma_cons ?_ ma_nil
     exact (me_var 1)
    refine me_callB ?_ (by rfl) T.b_len PySem.boot_len ?_
    ·exact call_lenM
    refine ma_cons ?_ ma_nil
    exact (me_var 2)
   refine ms_cons ?_ ?_
   ·refine ms_for own_pass rfl ?_ ?_ ?_
    ·refine mi_enum (by rfl) T.b_enumerate ?_
     refine ma_cons ?_ ma_nil
     exact (me_var 1)
    ·refine mg_tup rfl ?_
     refine mgs_cons ?_ ?_
     ·exact (mg_name 4 sc_row_product.nd)
     refine mgs_cons ?_ mgs_nil
     exact (mg_name 5 sc_row_product.nd)
    refine ms_one ?_
    refine ms_for own_pass rfl ?_ ?_ ?_
    ·refine mi_enum (by rfl) T.b_enumerate ?_
     refine ma_cons ?_ ma_nil
     exact (me_var 2)
    ·refine mg_tup rfl ?_
     refine mgs_cons ?_ ?_
     ·exact (mg_name 6 sc_row_product.nd)
     refine mgs_cons ?_ mgs_nil
     exact (mg_name 7 sc_row_product.nd)
    refine ms_one ?_
    refine ms_augi ?_ ?_ ?_ ?_
    ·exact iop_adM
    ·exact (me_var 3)
    ·refine me_bin ?_ ?_ ?_
     ·exact op_addM
     ·exact (me_var 4)
     exact (me_var 6)
    refine me_bin ?_ ?_ ?_
    ·exact op_mulM
    ·exact (me_var 5)
    exact (me_var 7)
   refine ms_one ?_
   refine ms_ret ?_
   refine me_fn G_row_of_rests hr (by decide) (by rfl) pass_out ?_
   refine ma_cons ?_ ?_
   ·exact (me_var 0)
   refine ma_cons ?_ ma_nil
   exact (me_var 3)
theorem nd_0_row_multiple:(["number","factor"]:List Str).Nodup:=by decide +kernel
theorem sc_row_multiple:FnScope ["prime","row","factor"] ["prime","row","factor"] (defScope (top 26)):=⟨rfl,rfl,rfl,by decide +kernel,rfl,by decide +kernel,by decide +kernel⟩
theorem ok_row_multiple {f:Addr} {fd:FuncData} (F:Fun K "row_multiple" "row_multiple" (top 26) f fd) (hm:mg "row_multiple" = some (.ref f)) (T:Txt K mg) (G_row_of_rests:FnAt P w K mg base "row_of_rests" 1 PM.row_of_rests):FnAt P w K mg base "row_multiple" 2 PM.row_multiple :=
 FnAt.mk F hm sc_row_multiple (fun _ _ _ _ _ _ => len3 fun _ _ _ => rfl) fun cdv A outer s H E hr =>
  by
   refine ms_one ?_
   refine ms_ret ?_
   refine me_fn G_row_of_rests hr (by decide) (by rfl) pass_out ?_
   refine ma_cons ?_ ?_
   ·exact (me_var 0)
   refine ma_cons ?_ ma_nil
   refine me_comp (N:=["number","factor"]) (k:=1) rfl rfl (capsA (cl:=[("factor",s.heap.objs.size + 1)]) (caps:=[2]) (by rfl) (.cons (c:=s.heap.objs.size + 1) (by rfl) (by rfl) (by first | exact Or.inl rfl | exact Or.inr rfl) (by first | exact Or.inl rfl | exact Or.inr rfl) .nil) (by rfl) (by rfl) (by rfl) (by rfl) (by rfl) (by rfl)) ?_ (fun _ _ _ _ => ?_) (fun _ _ _ _ => mif_nil) (fun _ _ _ _ => ?_)
   ·refine mi_seq ?_
    exact (me_var 1)
   ·exact (mg_name 0 nd_0_row_multiple)
   refine me_bin ?_ ?_ ?_
   ·exact op_mulM
   ·exact (me_var 0)
   exact (me_var 1)
theorem sc__law_drawn:FnScope ["_law_prime","_law_cell","_law_size","_law_numbers","_law_k","_law_mixed"] ["_law_prime","_law_cell","_law_size"] (defScope (top 37)):=⟨rfl,rfl,rfl,by decide +kernel,rfl,by decide +kernel,by decide +kernel⟩
theorem ok__law_drawn {f:Addr} {fd:FuncData} (F:Fun K "_law_drawn" "_law_drawn" (top 37) f fd) (hm:mg "_law_drawn" = some (.ref f)) (T:Txt K mg) (G__law_cut:FnAt P w K mg base "_law_cut" 1 PM.law_cut):FnAt P w K mg base "_law_drawn" 2 PM.law_drawn :=
 FnAt.mk F hm sc__law_drawn (fun _ _ _ _ _ _ => len3 fun _ _ _ => rfl) fun cdv A outer s H E hr =>
  by
   refine ms_cons ?_ ?_
   ·refine ms_setM ?_ ?_
    ·exact sc__law_drawn.nd
    exact (me_lst ma_nil)
   refine ms_cons ?_ ?_
   ·refine ms_for own_pass rfl ?_ ?_ ?_
    ·refine mi_range1 (by rfl) T.b_range ?_
     refine ma_cons ?_ ma_nil
     exact (me_var 2)
    ·exact (mg_name 4 sc__law_drawn.nd)
    refine ms_cons ?_ ?_
    ·refine ms_setM ?_ ?_
     ·exact sc__law_drawn.nd
     refine me_bin ?_ ?_ me_int
     ·exact op_modM
     refine me_bin ?_ ?_ ?_
     ·exact op_addM
     ·exact (me_var 1)
     refine me_bin ?_ me_int ?_
     ·exact op_mulM
     exact (me_var 4)
    refine ms_cons ?_ ?_
    ·refine ms_setM ?_ ?_
     ·exact sc__law_drawn.nd
     refine me_bin ?_ ?_ me_int
     ·exact op_modM
     refine me_bin ?_ ?_ me_int
     ·exact op_mulM
     refine me_bin ?_ ?_ me_int
     ·exact op_modM
     refine me_bin ?_ ?_ ?_
     ·exact op_mulM
     ·exact (me_var 5)
     exact (me_var 5)
    refine ms_one ?_
    refine ms_expr ?_
    refine me_append ?_ ?_
    ·exact (me_var 3)
    refine ma_cons ?_ ma_nil
    refine me_bin ?_ ?_ ?_
    ·exact op_modM
    ·refine me_bin ?_ ?_ ?_
     ·exact op_fdivM
     ·exact (me_var 5)
     refine me_bin ?_ me_int ?_
     ·exact op_addM
     exact (me_var 4)
    exact (me_var 0)
   refine ms_one ?_
   refine ms_ret ?_
   refine me_fn G__law_cut hr (by decide) (by rfl) pass_out ?_
   refine ma_cons ?_ ma_nil
   exact (me_var 3)
theorem sc__law_is_row:FnScope ["_law_prime","_law_found","_law_number"] ["_law_prime","_law_found"] (defScope (top 38)):=⟨rfl,rfl,rfl,by decide +kernel,rfl,by decide +kernel,by decide +kernel⟩
theorem ok__law_is_row {f:Addr} {fd:FuncData} (F:Fun K "_law_is_row" "_law_is_row" (top 38) f fd) (hm:mg "_law_is_row" = some (.ref f)) (T:Txt K mg) (G__law_whole:FnAt P w K mg base "_law_whole" 1 PM.law_whole):FnAt P w K mg base "_law_is_row" 2 PM.law_is_row :=
 FnAt.mk F hm sc__law_is_row (fun _ _ _ _ _ _ => len2 fun _ _ => rfl) fun cdv A outer s H E hr =>
  by
   refine ms_cons ?_ ?_
   ·refine ms_if ?_ ?_ ms_nil
    ·refine mt_not ?_
     refine mt_val ?_
     refine me_isT kitT_list (by rfl) T.b_isinstance (by rfl) T.b_list PyProof.Rows.boot_list ?_
     exact (me_var 1)
    refine ms_one ?_
    exact (ms_ret me_bl)
   refine ms_cons ?_ ?_
   ·refine ms_for own_pass rfl ?_ ?_ ?_
    ·refine mi_seq ?_
     exact (me_var 1)
    ·exact (mg_name 2 sc__law_is_row.nd)
    refine ms_one ?_
    refine ms_if ?_ ?_ ms_nil
    ·refine mt_w ?_
     refine mw_or ?_ ?_
     ·refine mt_not ?_
      refine mt_val ?_
      refine me_fn G__law_whole hr (by decide) (by rfl) pass_out ?_
      refine ma_cons ?_ ma_nil
      exact (me_var 2)
     refine mw_or1 ?_
     refine mt_not ?_
     refine mt_chain tells_le ?_ ?_ me_int ?_ ?_
     ·exact op_leM
     ·exact op_ltM
     ·exact (me_var 2)
     exact (me_var 0)
    refine ms_one ?_
    exact (ms_ret me_bl)
   refine ms_one ?_
   refine ms_ret ?_
   refine me_or ?_ ?_
   ·refine me_cmp ?_ ?_ ?_
    ·exact (op_eqM hr.units)
    ·exact (me_var 1)
    exact (me_lst ma_nil)
   refine me_one ?_
   refine me_cmp ?_ ?_ me_int
   ·exact (op_neM hr.units)
   refine me_ixM ?_ ?_
   ·exact (me_var 1)
   exact (me_neg me_int)
theorem sc__law_times:FnScope ["_law_prime","_law_ones","_law_others","_law_found","_law_at","_law_beside","_law_more"] ["_law_prime","_law_ones","_law_others"] (defScope (top 39)):=⟨rfl,rfl,rfl,by decide +kernel,rfl,by decide +kernel,by decide +kernel⟩
theorem ok__law_times {f:Addr} {fd:FuncData} (F:Fun K "_law_times" "_law_times" (top 39) f fd) (hm:mg "_law_times" = some (.ref f)) (T:Txt K mg) (G__law_cut:FnAt P w K mg base "_law_cut" 1 PM.law_cut):FnAt P w K mg base "_law_times" 2 PM.law_times :=
 FnAt.mk F hm sc__law_times (fun _ _ _ _ _ _ => len3 fun _ _ _ => rfl) fun cdv A outer s H E hr =>
  by
   refine ms_cons ?_ ?_
   ·refine ms_setM ?_ ?_
    ·exact sc__law_times.nd
    refine me_bin ?_ ?_ ?_
    ·exact op_mulM
    ·refine me_lst ?_
     exact (ma_int ma_nil)
    refine me_bin ?_ ?_ ?_
    ·exact op_addM
    ·refine me_callB ?_ (by rfl) T.b_len PySem.boot_len ?_
     ·exact call_lenM
     refine ma_cons ?_ ma_nil
     exact (me_var 1)
    refine me_callB ?_ (by rfl) T.b_len PySem.boot_len ?_
    ·exact call_lenM
    refine ma_cons ?_ ma_nil
    exact (me_var 2)
   refine ms_cons ?_ ?_
   ·refine ms_for own_pass rfl ?_ ?_ ?_
    ·refine mi_range1 (by rfl) T.b_range ?_
     refine ma_cons ?_ ma_nil
     refine me_callB ?_ (by rfl) T.b_len PySem.boot_len ?_
     ·exact call_lenM
     refine ma_cons ?_ ma_nil
     exact (me_var 1)
    ·exact (mg_name 4 sc__law_times.nd)
    refine ms_one ?_
    refine ms_for own_pass rfl ?_ ?_ ?_
    ·refine mi_range1 (by rfl) T.b_range ?_
     refine ma_cons ?_ ma_nil
     refine me_callB ?_ (by rfl) T.b_len PySem.boot_len ?_
     ·exact call_lenM
     refine ma_cons ?_ ma_nil
     exact (me_var 2)
    ·exact (mg_name 5 sc__law_times.nd)
    refine ms_cons ?_ ?_
    ·refine ms_setM ?_ ?_
     ·exact sc__law_times.nd
     refine me_bin ?_ ?_ ?_
     ·exact op_mulM
     ·refine me_ixM ?_ ?_
      ·exact (me_var 1)
      exact (me_var 4)
     refine me_ixM ?_ ?_
     ·exact (me_var 2)
     exact (me_var 5)
    refine ms_one ?_
    refine ms_seti ?_ ?_ ?_
    ·exact (me_var 3)
    ·refine me_bin ?_ ?_ ?_
     ·exact op_addM
     ·exact (me_var 4)
     exact (me_var 5)
    refine me_bin ?_ ?_ ?_
    ·exact op_modM
    ·refine me_bin ?_ ?_ ?_
     ·exact op_addM
     ·refine me_ixM ?_ ?_
      ·exact (me_var 3)
      refine me_bin ?_ ?_ ?_
      ·exact op_addM
      ·exact (me_var 4)
      exact (me_var 5)
     exact (me_var 6)
    exact (me_var 0)
   refine ms_one ?_
   refine ms_ret ?_
   refine me_fn G__law_cut hr (by decide) (by rfl) pass_out ?_
   refine ma_cons ?_ ma_nil
   exact (me_var 3)
theorem nd_0_law_sum:(["_law_one","_law_other","_law_prime"]:List Str).Nodup:=by decide +kernel
theorem sc__law_sum:FnScope ["_law_prime","_law_ones","_law_others","_law_wide"] ["_law_prime","_law_ones","_law_others"] (defScope (top 40)):=⟨rfl,rfl,rfl,by decide +kernel,rfl,by decide +kernel,by decide +kernel⟩
theorem ok__law_sum {f:Addr} {fd:FuncData} (F:Fun K "_law_sum" "_law_sum" (top 40) f fd) (hm:mg "_law_sum" = some (.ref f)) (T:Txt K mg) (G__law_cut:FnAt P w K mg base "_law_cut" 1 PM.law_cut):FnAt P w K mg base "_law_sum" 2 PM.law_sum :=
 FnAt.mk F hm sc__law_sum (fun _ _ _ _ _ _ => len3 fun _ _ _ => rfl) fun cdv A outer s H E hr =>
  by
   refine ms_cons ?_ ?_
   ·refine ms_setM ?_ ?_
    ·exact sc__law_sum.nd
    refine me_callB ?_ (by rfl) T.b_max PyProof.Rows.Boot.«max» ?_
    ·exact (call_maxM hr.hd)
    refine ma_cons ?_ ?_
    ·refine me_callB ?_ (by rfl) T.b_len PySem.boot_len ?_
     ·exact call_lenM
     refine ma_cons ?_ ma_nil
     exact (me_var 1)
    refine ma_cons ?_ ma_nil
    refine me_callB ?_ (by rfl) T.b_len PySem.boot_len ?_
    ·exact call_lenM
    refine ma_cons ?_ ma_nil
    exact (me_var 2)
   refine ms_cons ?_ ?_
   ·refine ms_setM ?_ ?_
    ·exact sc__law_sum.nd
    refine me_bin ?_ ?_ ?_
    ·exact op_addM
    ·exact (me_var 1)
    refine me_bin ?_ ?_ ?_
    ·exact op_mulM
    ·refine me_lst ?_
     exact (ma_int ma_nil)
    refine me_bin ?_ ?_ ?_
    ·exact op_subM
    ·exact (me_var 3)
    refine me_callB ?_ (by rfl) T.b_len PySem.boot_len ?_
    ·exact call_lenM
    refine ma_cons ?_ ma_nil
    exact (me_var 1)
   refine ms_cons ?_ ?_
   ·refine ms_setM ?_ ?_
    ·exact sc__law_sum.nd
    refine me_bin ?_ ?_ ?_
    ·exact op_addM
    ·exact (me_var 2)
    refine me_bin ?_ ?_ ?_
    ·exact op_mulM
    ·refine me_lst ?_
     exact (ma_int ma_nil)
    refine me_bin ?_ ?_ ?_
    ·exact op_subM
    ·exact (me_var 3)
    refine me_callB ?_ (by rfl) T.b_len PySem.boot_len ?_
    ·exact call_lenM
    refine ma_cons ?_ ma_nil
    exact (me_var 2)
   refine ms_one ?_
   refine ms_ret ?_
   refine me_fn G__law_cut hr (by decide) (by rfl) pass_out ?_
   refine ma_cons ?_ ma_nil
   refine me_comp (N:=["_law_one","_law_other","_law_prime"]) (k:=2) rfl rfl (capsA (cl:=[("_law_prime",s.heap.objs.size + 1)]) (caps:=[0]) (by rfl) (.cons (c:=s.heap.objs.size + 1) (by rfl) (by rfl) (by first | exact Or.inl rfl | exact Or.inr rfl) (by first | exact Or.inl rfl | exact Or.inr rfl) .nil) (by rfl) (by rfl) (by rfl) (by rfl) (by rfl) (by rfl)) ?_ (fun _ _ _ _ => ?_) (fun _ _ _ _ => mif_nil) (fun _ _ _ _ => ?_)
   ·refine mi_zip true true (by rfl) T.b_zip ?_
    refine ma_cons ?_ ?_
    ·exact (me_var 1)
    refine ma_cons ?_ ma_nil
    exact (me_var 2)
   ·refine mg_tup rfl ?_
    refine mgs_cons ?_ ?_
    ·exact (mg_name 0 nd_0_law_sum)
    refine mgs_cons ?_ mgs_nil
    exact (mg_name 1 nd_0_law_sum)
   refine me_bin ?_ ?_ ?_
   ·exact op_modM
   ·refine me_bin ?_ ?_ ?_
    ·exact op_addM
    ·exact (me_var 0)
    exact (me_var 1)
   exact (me_var 2)
theorem sc_check_ring:FnScope ["ring"] ["ring"] (defScope (top 15)):=⟨rfl,rfl,rfl,by decide +kernel,rfl,by decide +kernel,by decide +kernel⟩
theorem ok_check_ring {f:Addr} {fd:FuncData} (F:Fun K "check_ring" "check_ring" (top 15) f fd) (hm:mg "check_ring" = some (.ref f)) (T:Txt K mg) (G_is_ring:FnAt P w K mg base "is_ring" 2 PM.is_ring):FnAt P w K mg base "check_ring" 3 PM.check_ring :=
 FnAt.mk F hm sc_check_ring (fun _ _ _ _ _ _ => len1 fun _ => rfl) fun cdv A outer s H E hr =>
  by
   refine ms_one ?_
   refine ms_if ?_ ?_ ms_nil
   ·refine mt_not ?_
    refine mt_val ?_
    refine me_fn G_is_ring hr (by decide) (by rfl) pass_out ?_
    refine ma_cons ?_ ma_nil
    exact (me_var 0)
   refine ms_one ?_
   refine ms_raiseC own_raises rfl T.c_NoRing (by rfl) ?_
   exact (ma_str ma_nil)
theorem sc_check_prime:FnScope ["prime"] ["prime"] (defScope (top 16)):=⟨rfl,rfl,rfl,by decide +kernel,rfl,by decide +kernel,by decide +kernel⟩
theorem ok_check_prime {f:Addr} {fd:FuncData} (F:Fun K "check_prime" "check_prime" (top 16) f fd) (hm:mg "check_prime" = some (.ref f)) (T:Txt K mg) (G_is_ring:FnAt P w K mg base "is_ring" 2 PM.is_ring):FnAt P w K mg base "check_prime" 3 PM.check_prime :=
 FnAt.mk F hm sc_check_prime (fun _ _ _ _ _ _ => len1 fun _ => rfl) fun cdv A outer s H E hr =>
  by
   refine ms_one ?_
   refine ms_if ?_ ?_ ms_nil
   ·refine mt_w ?_
    refine mw_or ?_ ?_
    ·refine mt_not ?_
     refine mt_val ?_
     refine me_fn G_is_ring hr (by decide) (by rfl) pass_out ?_
     refine ma_cons ?_ ma_nil
     exact (me_var 0)
    refine mw_or1 ?_
    refine mt_cmp ?_ ?_ me_int
    ·exact (op_eqM hr.units)
    exact (me_var 0)
   refine ms_one ?_
   refine ms_raiseC own_raises rfl T.c_NoPrime (by rfl) ?_
   exact (ma_str ma_nil)
theorem sc__law_good:FnScope ["_law_prime","_law_found","_law_ones","_law_others","_law_row","_law_built"] ["_law_prime","_law_found","_law_ones","_law_others"] (defScope (top 42)):=⟨rfl,rfl,rfl,by decide +kernel,rfl,by decide +kernel,by decide +kernel⟩
theorem ok__law_good {f:Addr} {fd:FuncData} (F:Fun K "_law_good" "_law_good" (top 42) f fd) (hm:mg "_law_good" = some (.ref f)) (T:Txt K mg) (G__law_is_row:FnAt P w K mg base "_law_is_row" 2 PM.law_is_row) (G__law_times:FnAt P w K mg base "_law_times" 2 PM.law_times) (G__law_sum:FnAt P w K mg base "_law_sum" 2 PM.law_sum):FnAt P w K mg base "_law_good" 3 PM.law_good_v2 :=
 FnAt.mk F hm sc__law_good (fun _ _ _ _ _ _ => len4 fun _ _ _ _ => rfl) fun cdv A outer s H E hr =>
  by
   refine ms_cons ?_ ?_
   ·refine ms_if ?_ ?_ ms_nil
    ·refine mt_w ?_
     refine mw_or ?_ ?_
     ·refine mt_not ?_
      refine mt_val ?_
      refine me_isT kitT_tuple (by rfl) T.b_isinstance (by rfl) T.b_tuple PyProof.Rows.boot_tuple ?_
      exact (me_var 1)
     refine mw_or1 ?_
     refine mt_cmp ?_ ?_ me_int
     ·exact (op_neM hr.units)
     refine me_callB ?_ (by rfl) T.b_len PySem.boot_len ?_
     ·exact call_lenM
     refine ma_cons ?_ ma_nil
     exact (me_var 1)
    refine ms_one ?_
    exact (ms_ret me_bl)
   refine ms_cons ?_ ?_
   ·refine ms_for own_pass rfl ?_ ?_ ?_
    ·refine mi_seq ?_
     exact (me_var 1)
    ·exact (mg_name 4 sc__law_good.nd)
    refine ms_one ?_
    refine ms_if ?_ ?_ ms_nil
    ·refine mt_not ?_
     refine mt_val ?_
     refine me_fn G__law_is_row hr (by decide) (by rfl) pass_out ?_
     refine ma_cons ?_ ?_
     ·exact (me_var 0)
     refine ma_cons ?_ ma_nil
     exact (me_var 4)
    refine ms_one ?_
    exact (ms_ret me_bl)
   refine ms_cons ?_ ?_
   ·refine ms_if ?_ ?_ ms_nil
    ·refine mt_cmp ?_ ?_ ?_
     ·exact (op_neM hr.units)
     ·refine me_sl ?_ ?_ mo_none
      ·refine me_ixM ?_ me_int
       exact (me_var 1)
      refine mo_some ?_
      exact (me_neg me_int)
     refine me_lst ?_
     exact (ma_int ma_nil)
    refine ms_one ?_
    exact (ms_ret me_bl)
   refine ms_cons ?_ ?_
   ·refine ms_if ?_ ?_ ms_nil
    ·refine mt_w ?_
     refine mw_or ?_ ?_
     ·refine mt_cmp ?_ ?_ ?_
      ·exact (op_neM hr.units)
      ·refine me_fn G__law_times hr (by decide) (by rfl) pass_out ?_
       refine ma_cons ?_ ?_
       ·exact (me_var 0)
       refine ma_cons ?_ ?_
       ·refine me_ixM ?_ me_int
        exact (me_var 1)
       refine ma_cons ?_ ma_nil
       refine me_ixM ?_ me_int
       exact (me_var 1)
      exact (me_var 2)
     refine mw_or1 ?_
     refine mt_cmp ?_ ?_ ?_
     ·exact (op_neM hr.units)
     ·refine me_fn G__law_times hr (by decide) (by rfl) pass_out ?_
      refine ma_cons ?_ ?_
      ·exact (me_var 0)
      refine ma_cons ?_ ?_
      ·refine me_ixM ?_ me_int
       exact (me_var 1)
      refine ma_cons ?_ ma_nil
      refine me_ixM ?_ me_int
      exact (me_var 1)
     exact (me_var 3)
    refine ms_one ?_
    exact (ms_ret me_bl)
   refine ms_cons ?_ ?_
   ·refine ms_setM ?_ ?_
    ·exact sc__law_good.nd
    refine me_fn G__law_sum hr (by decide) (by rfl) pass_out ?_
    refine ma_cons ?_ ?_
    ·exact (me_var 0)
    refine ma_cons ?_ ?_
    ·refine me_fn G__law_times hr (by decide) (by rfl) pass_out ?_
     refine ma_cons ?_ ?_
     ·exact (me_var 0)
     refine ma_cons ?_ ?_
     ·refine me_ixM ?_ me_int
      exact (me_var 1)
     refine ma_cons ?_ ma_nil
     exact (me_var 2)
    refine ma_cons ?_ ma_nil
    refine me_fn G__law_times hr (by decide) (by rfl) pass_out ?_
    refine ma_cons ?_ ?_
    ·exact (me_var 0)
    refine ma_cons ?_ ?_
    ·refine me_ixM ?_ me_int
     exact (me_var 1)
    refine ma_cons ?_ ma_nil
    exact (me_var 3)
   refine ms_one ?_
   refine ms_ret ?_
   refine me_cmp ?_ ?_ ?_
   ·exact (op_eqM hr.units)
   ·exact (me_var 5)
   refine me_ixM ?_ me_int
   exact (me_var 1)
theorem nd_0_law_rows:(["_law_number","_law_prime","_law_script"]:List Str).Nodup:=by decide +kernel
theorem nd_1_law_rows:(["_law_row","_law_prime","_law_third"]:List Str).Nodup:=by decide +kernel
theorem nd_2_law_rows:(["_law_row"]:List Str).Nodup:=by decide +kernel
theorem sc__law_rows:FnScope ["_law_script","_law_prime","_law_third","_law_rows_here","_law_k","_law_cell","_law_row"] ["_law_script","_law_prime"] (defScope (top 43)):=⟨rfl,rfl,rfl,by decide +kernel,rfl,by decide +kernel,by decide +kernel⟩
theorem ok__law_rows {f:Addr} {fd:FuncData} (F:Fun K "_law_rows" "_law_rows" (top 43) f fd) (hm:mg "_law_rows" = some (.ref f)) (T:Txt K mg) (G__law_cell_at:FnAt P w K mg base "_law_cell_at" 1 PM.law_cell_at_v2) (G__law_cut:FnAt P w K mg base "_law_cut" 1 PM.law_cut) (G__law_drawn:FnAt P w K mg base "_law_drawn" 2 PM.law_drawn) (G__law_times:FnAt P w K mg base "_law_times" 2 PM.law_times):FnAt P w K mg base "_law_rows" 3 PM.law_rows_v2 :=
 FnAt.mk F hm sc__law_rows (fun _ _ _ _ _ _ => len2 fun _ _ => rfl) fun cdv A outer s H E hr =>
  by
   refine ms_cons ?_ ?_
   ·refine ms_setM ?_ ?_
    ·exact sc__law_rows.nd
    refine me_fn G__law_drawn hr (by decide) (by rfl) pass_out ?_
    refine ma_cons ?_ ?_
    ·exact (me_var 1)
    refine ma_cons ?_ ?_
    ·refine me_fn G__law_cell_at hr (by decide) (by rfl) pass_out ?_
     refine ma_cons ?_ ?_
     ·exact (me_var 0)
     exact (ma_int ma_nil)
    refine ma_cons ?_ ma_nil
    refine me_bin ?_ ?_ me_int
    ·exact op_modM
    refine me_fn G__law_cell_at hr (by decide) (by rfl) pass_out ?_
    refine ma_cons ?_ ?_
    ·exact (me_var 0)
    exact (ma_int ma_nil)
   refine ms_cons ?_ ?_
   ·refine ms_setM ?_ ?_
    ·exact sc__law_rows.nd
    exact (me_lst ma_nil)
   refine ms_cons ?_ ?_
   ·refine ms_for own_pass rfl ?_ ?_ ?_
    ·refine mi_seq ?_
     refine me_lst ?_
     refine ma_int ?_
     exact (ma_int ma_nil)
    ·exact (mg_name 4 sc__law_rows.nd)
    refine ms_cons ?_ ?_
    ·refine ms_setM ?_ ?_
     ·exact sc__law_rows.nd
     refine me_fn G__law_cell_at hr (by decide) (by rfl) pass_out ?_
     refine ma_cons ?_ ?_
     ·exact (me_var 0)
     refine ma_cons ?_ ma_nil
     refine me_bin ?_ me_int ?_
     ·exact op_addM
     refine me_bin ?_ me_int ?_
     ·exact op_mulM
     exact (me_var 4)
    refine ms_cons ?_ ?_
    ·refine ms_setM ?_ ?_
     ·exact sc__law_rows.nd
     refine me_fn G__law_drawn hr (by decide) (by rfl) pass_out ?_
     refine ma_cons ?_ ?_
     ·exact (me_var 1)
     refine ma_cons ?_ ?_
     ·refine me_fn G__law_cell_at hr (by decide) (by rfl) pass_out ?_
      refine ma_cons ?_ ?_
      ·exact (me_var 0)
      refine ma_cons ?_ ma_nil
      refine me_bin ?_ me_int ?_
      ·exact op_addM
      refine me_bin ?_ me_int ?_
      ·exact op_mulM
      exact (me_var 4)
     refine ma_cons ?_ ma_nil
     refine me_bin ?_ ?_ me_int
     ·exact op_modM
     refine me_bin ?_ ?_ me_int
     ·exact op_fdivM
     exact (me_var 5)
    refine ms_cons ?_ ?_
    ·refine ms_if ?_ ?_ ms_nil
     ·refine mt_cmp ?_ ?_ me_int
      ·exact (op_eqM hr.units)
      refine me_bin ?_ ?_ me_int
      ·exact op_modM
      exact (me_var 5)
     refine ms_one ?_
     refine ms_setM ?_ ?_
     ·exact sc__law_rows.nd
     exact (me_lst ma_nil)
    refine ms_one ?_
    refine ms_expr ?_
    refine me_append ?_ ?_
    ·exact (me_var 3)
    refine ma_cons ?_ ma_nil
    exact (me_var 6)
   refine ms_cons ?_ ?_
   ·refine ms_if ?_ ?_ ms_nil
    ·refine mt_cmp ?_ ?_ me_int
     ·exact (op_eqM hr.units)
     refine me_bin ?_ ?_ me_int
     ·exact op_modM
     refine me_fn G__law_cell_at hr (by decide) (by rfl) pass_out ?_
     refine ma_cons ?_ ?_
     ·exact (me_var 0)
     exact (ma_int ma_nil)
    refine ms_one ?_
    refine ms_seti ?_ me_int ?_
    ·exact (me_var 3)
    refine me_comp (N:=["_law_number","_law_prime","_law_script"]) (k:=1) rfl rfl (capsR (cl:=[("_law_prime",s.heap.objs.size + 2),("_law_script",s.heap.objs.size + 1)]) (cl':=[("_law_script",s.heap.objs.size + 1),("_law_prime",s.heap.objs.size + 2)]) (caps:=[1,0]) (caps':=[0,1]) (by rfl) (.cons (c:=s.heap.objs.size + 2) (by rfl) (by rfl) (by first | exact Or.inl rfl | exact Or.inr rfl) (by first | exact Or.inl rfl | exact Or.inr rfl) (.cons (c:=s.heap.objs.size + 1) (by rfl) (by rfl) (by first | exact Or.inl rfl | exact Or.inr rfl) (by first | exact Or.inl rfl | exact Or.inr rfl) .nil)) (.cons (c:=s.heap.objs.size + 1) (by rfl) (by rfl) (by first | exact Or.inl rfl | exact Or.inr rfl) (by first | exact Or.inl rfl | exact Or.inr rfl) (.cons (c:=s.heap.objs.size + 2) (by rfl) (by rfl) (by first | exact Or.inl rfl | exact Or.inr rfl) (by first | exact Or.inl rfl | exact Or.inr rfl) .nil)) (by rfl) (by rfl) (by rfl) (by rfl) (by rfl) (by rfl)) ?_ (fun _ _ _ _ => ?_) (fun _ _ _ _ => mif_nil) (fun _ _ _ _ => ?_)
    ·refine mi_seq ?_
     refine me_ixM ?_ me_int
     exact (me_var 3)
    ·exact (mg_name 0 nd_0_law_rows)
    refine me_bin ?_ ?_ ?_
    ·exact op_modM
    ·refine me_bin ?_ ?_ ?_
     ·exact op_mulM
     ·exact (me_var 0)
     refine me_bin ?_ ?_ me_int
     ·exact op_fdivM
     refine me_fn G__law_cell_at hr (by decide) (by rfl) passB ?_
     refine ma_cons ?_ ?_
     ·exact (me_var 2)
     exact (ma_int ma_nil)
    exact (me_var 1)
   refine ms_one ?_
   refine ms_ret ?_
   refine me_comp (N:=["_law_row","_law_prime","_law_third"]) (k:=1) rfl rfl (capsR (cl:=[("_law_prime",s.heap.objs.size + 2),("_law_third",s.heap.objs.size + 3)]) (cl':=[("_law_third",s.heap.objs.size + 3),("_law_prime",s.heap.objs.size + 2)]) (caps:=[1,2]) (caps':=[2,1]) (by rfl) (.cons (c:=s.heap.objs.size + 2) (by rfl) (by rfl) (by first | exact Or.inl rfl | exact Or.inr rfl) (by first | exact Or.inl rfl | exact Or.inr rfl) (.cons (c:=s.heap.objs.size + 3) (by rfl) (by rfl) (by first | exact Or.inl rfl | exact Or.inr rfl) (by first | exact Or.inl rfl | exact Or.inr rfl) .nil)) (.cons (c:=s.heap.objs.size + 3) (by rfl) (by rfl) (by first | exact Or.inl rfl | exact Or.inr rfl) (by first | exact Or.inl rfl | exact Or.inr rfl) (.cons (c:=s.heap.objs.size + 2) (by rfl) (by rfl) (by first | exact Or.inl rfl | exact Or.inr rfl) (by first | exact Or.inl rfl | exact Or.inr rfl) .nil)) (by rfl) (by rfl) (by rfl) (by rfl) (by rfl) (by rfl)) ?_ (fun _ _ _ _ => ?_) (fun _ _ _ _ => mif_nil) (fun _ _ _ _ => ?_)
   ·refine mi_seq ?_
    refine me_comp (N:=["_law_row"]) (k:=1) rfl rfl (capsA (cl:=[]) (caps:=[]) (by rfl) .nil (by rfl) (by rfl) (by rfl) (by rfl) (by rfl) (by rfl)) ?_ (fun _ _ _ _ => ?_) (fun _ _ _ _ => mif_nil) (fun _ _ _ _ => ?_)
    ·refine mi_seq ?_
     exact (me_var 3)
    ·exact (mg_name 0 nd_2_law_rows)
    refine me_fn G__law_cut hr (by decide) (by rfl) passB ?_
    refine ma_cons ?_ ma_nil
    exact (me_var 0)
   ·exact (mg_name 0 nd_1_law_rows)
   refine me_fn G__law_times hr (by decide) (by rfl) passB ?_
   refine ma_cons ?_ ?_
   ·exact (me_var 1)
   refine ma_cons ?_ ?_
   ·exact (me_var 0)
   refine ma_cons ?_ ma_nil
   exact (me_var 2)
theorem sc_inverse:FnScope ["ring","number"] ["ring","number"] (defScope (top 19)):=⟨rfl,rfl,rfl,by decide +kernel,rfl,by decide +kernel,by decide +kernel⟩
theorem ok_inverse {f:Addr} {fd:FuncData} (F:Fun K "inverse" "inverse" (top 19) f fd) (hm:mg "inverse" = some (.ref f)) (T:Txt K mg) (G_whole_inverse:FnAt P w K mg base "whole_inverse" 1 PM.whole_inverse) (G_shared:FnAt P w K mg base "shared" 2 PM.shared) (G_check_ring:FnAt P w K mg base "check_ring" 3 PM.check_ring):FnAt P w K mg base "inverse" 4 PM.inverse :=
 FnAt.mk F hm sc_inverse (fun _ _ _ _ _ _ => len2 fun _ _ => rfl) fun cdv A outer s H E hr =>
  by
   refine ms_cons ?_ ?_
   ·refine ms_expr ?_
    refine me_fn G_check_ring hr (by decide) (by rfl) pass_out ?_
    refine ma_cons ?_ ma_nil
    exact (me_var 0)
   refine ms_cons ?_ ?_
   ·refine ms_if ?_ ?_ ms_nil
    ·refine mt_cmp ?_ ?_ me_int
     ·exact (op_eqM hr.units)
     exact (me_var 0)
    refine ms_one ?_
    refine ms_ret ?_
    refine me_fn G_whole_inverse hr (by decide) (by rfl) pass_out ?_
    refine ma_cons ?_ ma_nil
    exact (me_var 1)
   refine ms_cons ?_ ?_
   ·refine ms_if ?_ ?_ ms_nil
    ·refine mt_cmp ?_ ?_ me_int
     ·exact (op_eqM hr.units)
     refine me_bin ?_ ?_ ?_
     ·exact op_modM
     ·exact (me_var 1)
     exact (me_var 0)
    refine ms_one ?_
    refine ms_raiseC own_raises rfl T.c_NoInverse (by rfl) ?_
    exact (ma_str ma_nil)
   refine ms_one ?_
   refine ms_ret ?_
   refine me_bin ?_ ?_ ?_
   ·exact op_modM
   ·refine me_ixM ?_ me_int
    refine me_fn G_shared hr (by decide) (by rfl) pass_out ?_
    refine ma_cons ?_ ?_
    ·refine me_bin ?_ ?_ ?_
     ·exact op_modM
     ·exact (me_var 1)
     exact (me_var 0)
    refine ma_cons ?_ ma_nil
    exact (me_var 0)
   exact (me_var 0)
theorem sc_parted:FnScope ["prime","row","by","rest","back","steps","numbers","shift","often","power","number"] ["prime","row","by"] (defScope (top 28)):=⟨rfl,rfl,rfl,by decide +kernel,rfl,by decide +kernel,by decide +kernel⟩
theorem ok_parted {f:Addr} {fd:FuncData} (F:Fun K "parted" "parted" (top 28) f fd) (hm:mg "parted" = some (.ref f)) (T:Txt K mg) (G_row_of_rests:FnAt P w K mg base "row_of_rests" 1 PM.row_of_rests) (G_inverse:FnAt P w K mg base "inverse" 4 PM.inverse):FnAt P w K mg base "parted" 5 PM.parted :=
 FnAt.mk F hm sc_parted (fun _ _ _ _ _ _ => len3 fun _ _ _ => rfl) fun cdv A outer s H E hr =>
  by
   refine ms_cons ?_ ?_
   ·refine ms_setM ?_ ?_
    ·exact sc_parted.nd
    refine me_callTy ?_ (by rfl) T.b_list PyProof.Rows.boot_list ?_
    ·exact call_lstM
    refine ma_cons ?_ ma_nil
    exact (me_var 1)
   refine ms_cons ?_ ?_
   ·refine ms_setM ?_ ?_
    ·exact sc_parted.nd
    refine me_fn G_inverse hr (by decide) (by rfl) pass_out ?_
    refine ma_cons ?_ ?_
    ·exact (me_var 0)
    refine ma_cons ?_ ma_nil
    refine me_ixM ?_ ?_
    ·exact (me_var 2)
    exact (me_neg me_int)
   refine ms_cons ?_ ?_
   ·refine ms_setM ?_ ?_
    ·exact sc_parted.nd
    refine me_callB ?_ (by rfl) T.b_max PyProof.Rows.Boot.«max» ?_
    ·exact (call_maxM hr.hd)
    refine ma_int ?_
    refine ma_cons ?_ ma_nil
    refine me_bin ?_ ?_ me_int
    ·exact op_addM
    refine me_bin ?_ ?_ ?_
    ·exact op_subM
    ·refine me_callB ?_ (by rfl) T.b_len PySem.boot_len ?_
     ·exact call_lenM
     refine ma_cons ?_ ma_nil
     exact (me_var 1)
    refine me_callB ?_ (by rfl) T.b_len PySem.boot_len ?_
    ·exact call_lenM
    refine ma_cons ?_ ma_nil
    exact (me_var 2)
   refine ms_cons ?_ ?_
   ·refine ms_setM ?_ ?_
    ·exact sc_parted.nd
    refine me_bin ?_ ?_ ?_
    ·exact op_mulM
    ·refine me_lst ?_
     exact (ma_int ma_nil)
    exact (me_var 5)
   refine ms_cons ?_ ?_
   ·refine ms_for own_pass rfl ?_ ?_ ?_
    ·refine mi_down (by rfl) T.b_range ?_
     refine ma_cons ?_ ?_
     ·refine me_bin ?_ ?_ me_int
      ·exact op_subM
      exact (me_var 5)
     refine ma_cons ?_ ?_
     ·exact (me_neg me_int)
     refine ma_cons ?_ ma_nil
     exact (me_neg me_int)
    ·exact (mg_name 7 sc_parted.nd)
    refine ms_cons ?_ ?_
    ·refine ms_setM ?_ ?_
     ·exact sc_parted.nd
     refine me_bin ?_ ?_ ?_
     ·exact op_modM
     ·refine me_bin ?_ ?_ ?_
      ·exact op_mulM
      ·refine me_ixM ?_ ?_
       ·exact (me_var 3)
       refine me_bin ?_ ?_ me_int
       ·exact op_subM
       refine me_bin ?_ ?_ ?_
       ·exact op_addM
       ·exact (me_var 7)
       refine me_callB ?_ (by rfl) T.b_len PySem.boot_len ?_
       ·exact call_lenM
       refine ma_cons ?_ ma_nil
       exact (me_var 2)
      exact (me_var 4)
     exact (me_var 0)
    refine ms_cons ?_ ?_
    ·refine ms_seti ?_ ?_ ?_
     ·exact (me_var 6)
     ·exact (me_var 7)
     exact (me_var 8)
    refine ms_one ?_
    refine ms_for own_pass rfl ?_ ?_ ?_
    ·refine mi_enum (by rfl) T.b_enumerate ?_
     refine ma_cons ?_ ma_nil
     exact (me_var 2)
    ·refine mg_tup rfl ?_
     refine mgs_cons ?_ ?_
     ·exact (mg_name 9 sc_parted.nd)
     refine mgs_cons ?_ mgs_nil
     exact (mg_name 10 sc_parted.nd)
    refine ms_one ?_
    refine ms_augi ?_ ?_ ?_ ?_
    ·exact iop_sbM
    ·exact (me_var 3)
    ·refine me_bin ?_ ?_ ?_
     ·exact op_addM
     ·exact (me_var 7)
     exact (me_var 9)
    refine me_bin ?_ ?_ ?_
    ·exact op_mulM
    ·exact (me_var 8)
    exact (me_var 10)
   refine ms_one ?_
   refine ms_ret ?_
   refine me_tup ?_
   refine ma_cons ?_ ?_
   ·refine me_fn G_row_of_rests hr (by decide) (by rfl) pass_out ?_
    refine ma_cons ?_ ?_
    ·exact (me_var 0)
    refine ma_cons ?_ ma_nil
    exact (me_var 6)
   refine ma_cons ?_ ma_nil
   refine me_fn G_row_of_rests hr (by decide) (by rfl) pass_out ?_
   refine ma_cons ?_ ?_
   ·exact (me_var 0)
   refine ma_cons ?_ ma_nil
   exact (me_var 3)
theorem nd_0_triple_below:(["place","lower","pair","prime"]:List Str).Nodup:=by decide +kernel
theorem sc_triple_below:FnScope ["prime","upper","lower","pair","taken"] ["prime","upper","lower"] (defScope (top 31)):=⟨rfl,rfl,rfl,by decide +kernel,rfl,by decide +kernel,by decide +kernel⟩
theorem ok_triple_below {f:Addr} {fd:FuncData} (F:Fun K "triple_below" "triple_below" (top 31) f fd) (hm:mg "triple_below" = some (.ref f)) (T:Txt K mg) (G_row_with_multiple:FnAt P w K mg base "row_with_multiple" 2 PM.row_with_multiple) (G_row_product:FnAt P w K mg base "row_product" 2 PM.row_product) (G_parted:FnAt P w K mg base "parted" 5 PM.parted):FnAt P w K mg base "triple_below" 6 PM.triple_below :=
 FnAt.mk F hm sc_triple_below (fun _ _ _ _ _ _ => len3 fun _ _ _ => rfl) fun cdv A outer s H E hr =>
  by
   refine ms_cons ?_ ?_
   ·refine ms_setM ?_ ?_
    ·exact sc_triple_below.nd
    refine me_fn G_parted hr (by decide) (by rfl) pass_out ?_
    refine ma_cons ?_ ?_
    ·exact (me_var 0)
    refine ma_cons ?_ ?_
    ·refine me_ixM ?_ me_int
     exact (me_var 1)
    refine ma_cons ?_ ma_nil
    refine me_ixM ?_ me_int
    exact (me_var 2)
   refine ms_cons (MN.ms_setComp 4 (N:=["place","lower","pair","prime"]) (k:=1) sc_triple_below.nd rfl rfl (capsR (cl:=[("lower",s.heap.objs.size + 2),("pair",s.heap.objs.size + 3),("prime",s.heap.objs.size + 1)]) (cl':=[("prime",s.heap.objs.size + 1),("pair",s.heap.objs.size + 3),("lower",s.heap.objs.size + 2)]) (caps:=[2,3,0]) (caps':=[0,3,2]) (by rfl) (.cons (c:=s.heap.objs.size + 2) (by rfl) (by rfl) (by first | exact Or.inl rfl | exact Or.inr rfl) (by first | exact Or.inl rfl | exact Or.inr rfl) (.cons (c:=s.heap.objs.size + 3) (by rfl) (by rfl) (by first | exact Or.inl rfl | exact Or.inr rfl) (by first | exact Or.inl rfl | exact Or.inr rfl) (.cons (c:=s.heap.objs.size + 1) (by rfl) (by rfl) (by first | exact Or.inl rfl | exact Or.inr rfl) (by first | exact Or.inl rfl | exact Or.inr rfl) .nil))) (.cons (c:=s.heap.objs.size + 1) (by rfl) (by rfl) (by first | exact Or.inl rfl | exact Or.inr rfl) (by first | exact Or.inl rfl | exact Or.inr rfl) (.cons (c:=s.heap.objs.size + 3) (by rfl) (by rfl) (by first | exact Or.inl rfl | exact Or.inr rfl) (by first | exact Or.inl rfl | exact Or.inr rfl) (.cons (c:=s.heap.objs.size + 2) (by rfl) (by rfl) (by first | exact Or.inl rfl | exact Or.inr rfl) (by first | exact Or.inl rfl | exact Or.inr rfl) .nil))) (by rfl) (by rfl) (by rfl) (by rfl) (by rfl) (by rfl)) (mi_seq (me_tup (ma_int (ma_int ma_nil)))) (fun _ _ _ _ => (mg_name 0 nd_0_triple_below)) (fun _ _ _ _ => mif_nil) (fun _ _ _ _ => (me_fn G_row_product hr (by decide) (by rfl) passB (ma_cons (me_var 3) (ma_cons (me_ixM (me_var 2) me_int) (ma_cons (me_ixM (me_var 1) (me_var 0)) ma_nil)))))) ?_
   refine ms_one ?_
   refine ms_ret ?_
   refine me_tup ?_
   refine ma_cons ?_ ?_
   ·refine me_ixM ?_ me_int
    exact (me_var 3)
   refine ma_cons ?_ ?_
   ·refine me_fn G_row_with_multiple hr (by decide) (by rfl) pass_out ?_
    refine ma_cons ?_ ?_
    ·exact (me_var 0)
    refine ma_cons ?_ ?_
    ·refine me_ixM ?_ me_int
     exact (me_var 1)
    refine ma_cons ?_ ?_
    ·refine me_ixM ?_ me_int
     exact (me_var 4)
    refine ma_cons ?_ ma_nil
    exact (me_neg me_int)
   refine ma_cons ?_ ma_nil
   refine me_fn G_row_with_multiple hr (by decide) (by rfl) pass_out ?_
   refine ma_cons ?_ ?_
   ·exact (me_var 0)
   refine ma_cons ?_ ?_
   ·refine me_ixM ?_ me_int
    exact (me_var 1)
   refine ma_cons ?_ ?_
   ·refine me_ixM ?_ me_int
    exact (me_var 4)
   refine ma_cons ?_ ma_nil
   exact (me_neg me_int)
theorem sc_met:FnScope ["prime","ones","others","upper","lower","following","back","greatest","one_part","other_part"] ["prime","ones","others"] (defScope (top 30)):=⟨rfl,rfl,rfl,by decide +kernel,rfl,by decide +kernel,by decide +kernel⟩
theorem ok_met {f:Addr} {fd:FuncData} (F:Fun K "met" "met" (top 30) f fd) (hm:mg "met" = some (.ref f)) (T:Txt K mg) (G_row_multiple:FnAt P w K mg base "row_multiple" 2 PM.row_multiple) (G_inverse:FnAt P w K mg base "inverse" 4 PM.inverse) (G_parted:FnAt P w K mg base "parted" 5 PM.parted) (G_triple_below:FnAt P w K mg base "triple_below" 6 PM.triple_below):FnAt P w K mg base "met" 7 PM.met :=
 FnAt.mk F hm sc_met (fun _ _ _ _ _ _ => len3 fun _ _ _ => rfl) fun cdv A outer s H E hr =>
  by
   refine ms_cons ?_ ?_
   ·refine ms_setM ?_ ?_
    ·exact sc_met.nd
    refine me_tup ?_
    refine ma_cons ?_ ?_
    ·exact (me_var 1)
    refine ma_cons ?_ ?_
    ·refine me_lst ?_
     exact (ma_int ma_nil)
    refine ma_cons ?_ ma_nil
    exact (me_lst ma_nil)
   refine ms_cons ?_ ?_
   ·refine ms_setM ?_ ?_
    ·exact sc_met.nd
    refine me_tup ?_
    refine ma_cons ?_ ?_
    ·exact (me_var 2)
    refine ma_cons ?_ ?_
    ·exact (me_lst ma_nil)
    refine ma_cons ?_ ma_nil
    refine me_lst ?_
    exact (ma_int ma_nil)
   refine ms_cons ?_ ?_
   ·refine ms_while own_pass ?_ ?_
    ·refine mt_cmp ?_ ?_ me_int
     ·exact op_gtM
     refine me_callB ?_ (by rfl) T.b_len PySem.boot_len ?_
     ·exact call_lenM
     refine ma_cons ?_ ma_nil
     refine me_ixM ?_ me_int
     exact (me_var 4)
    refine ms_cons ?_ ?_
    ·refine ms_setM ?_ ?_
     ·exact sc_met.nd
     refine me_fn G_triple_below hr (by decide) (by rfl) pass_out ?_
     refine ma_cons ?_ ?_
     ·exact (me_var 0)
     refine ma_cons ?_ ?_
     ·exact (me_var 3)
     refine ma_cons ?_ ma_nil
     exact (me_var 4)
    refine ms_cons ?_ ?_
    ·refine ms_setM ?_ ?_
     ·exact sc_met.nd
     exact (me_var 4)
    refine ms_one ?_
    refine ms_setM ?_ ?_
    ·exact sc_met.nd
    exact (me_var 5)
   refine ms_cons ?_ ?_
   ·refine ms_setM ?_ ?_
    ·exact sc_met.nd
    refine me_fn G_inverse hr (by decide) (by rfl) pass_out ?_
    refine ma_cons ?_ ?_
    ·exact (me_var 0)
    refine ma_cons ?_ ma_nil
    refine me_ixM ?_ ?_
    ·refine me_ixM ?_ me_int
     exact (me_var 3)
    exact (me_neg me_int)
   refine ms_cons ?_ ?_
   ·refine ms_setM ?_ ?_
    ·exact sc_met.nd
    refine me_fn G_row_multiple hr (by decide) (by rfl) pass_out ?_
    refine ma_cons ?_ ?_
    ·exact (me_var 0)
    refine ma_cons ?_ ?_
    ·refine me_ixM ?_ me_int
     exact (me_var 3)
    refine ma_cons ?_ ma_nil
    exact (me_var 6)
   refine ms_cons ?_ ?_
   ·refine ms_setM ?_ ?_
    ·exact sc_met.nd
    refine me_ixM ?_ me_int
    refine me_fn G_parted hr (by decide) (by rfl) pass_out ?_
    refine ma_cons ?_ ?_
    ·exact (me_var 0)
    refine ma_cons ?_ ?_
    ·exact (me_var 1)
    refine ma_cons ?_ ma_nil
    exact (me_var 7)
   refine ms_cons ?_ ?_
   ·refine ms_setM ?_ ?_
    ·exact sc_met.nd
    refine me_ixM ?_ me_int
    refine me_fn G_parted hr (by decide) (by rfl) pass_out ?_
    refine ma_cons ?_ ?_
    ·exact (me_var 0)
    refine ma_cons ?_ ?_
    ·exact (me_var 2)
    refine ma_cons ?_ ma_nil
    exact (me_var 7)
   refine ms_one ?_
   refine ms_ret ?_
   refine me_tup ?_
   refine ma_cons ?_ ?_
   ·exact (me_var 7)
   refine ma_cons ?_ ?_
   ·exact (me_var 8)
   refine ma_cons ?_ ?_
   ·exact (me_var 9)
   refine ma_cons ?_ ?_
   ·refine me_fn G_row_multiple hr (by decide) (by rfl) pass_out ?_
    refine ma_cons ?_ ?_
    ·exact (me_var 0)
    refine ma_cons ?_ ?_
    ·refine me_ixM ?_ me_int
     exact (me_var 3)
    refine ma_cons ?_ ma_nil
    exact (me_var 6)
   refine ma_cons ?_ ma_nil
   refine me_fn G_row_multiple hr (by decide) (by rfl) pass_out ?_
   refine ma_cons ?_ ?_
   ·exact (me_var 0)
   refine ma_cons ?_ ?_
   ·refine me_ixM ?_ me_int
    exact (me_var 3)
   refine ma_cons ?_ ma_nil
   exact (me_var 6)
theorem sc_meet:FnScope ["prime","ones","others"] ["prime","ones","others"] (defScope (top 29)):=⟨rfl,rfl,rfl,by decide +kernel,rfl,by decide +kernel,by decide +kernel⟩
theorem ok_meet {f:Addr} {fd:FuncData} (F:Fun K "meet" "meet" (top 29) f fd) (hm:mg "meet" = some (.ref f)) (T:Txt K mg) (G_check_prime:FnAt P w K mg base "check_prime" 3 PM.check_prime) (G_met:FnAt P w K mg base "met" 7 PM.met):FnAt P w K mg base "meet" 8 PM.meet :=
 FnAt.mk F hm sc_meet (fun _ _ _ _ _ _ => len3 fun _ _ _ => rfl) fun cdv A outer s H E hr =>
  by
   refine ms_cons ?_ ?_
   ·refine ms_expr ?_
    refine me_fn G_check_prime hr (by decide) (by rfl) pass_out ?_
    refine ma_cons ?_ ma_nil
    exact (me_var 0)
   refine ms_cons ?_ ?_
   ·refine ms_if ?_ ?_ ms_nil
    ·refine mt_w ?_
     refine mw_and ?_ ?_
     ·refine mt_cmp ?_ ?_ me_int
      ·exact (op_eqM hr.units)
      refine me_callB ?_ (by rfl) T.b_len PySem.boot_len ?_
      ·exact call_lenM
      refine ma_cons ?_ ma_nil
      exact (me_var 1)
     refine mw_and1 ?_
     refine mt_cmp ?_ ?_ me_int
     ·exact (op_eqM hr.units)
     refine me_callB ?_ (by rfl) T.b_len PySem.boot_len ?_
     ·exact call_lenM
     refine ma_cons ?_ ma_nil
     exact (me_var 2)
    refine ms_one ?_
    refine ms_raiseC own_raises rfl T.c_NoMeet (by rfl) ?_
    exact (ma_str ma_nil)
   refine ms_one ?_
   refine ms_ret ?_
   refine me_fn G_met hr (by decide) (by rfl) pass_out ?_
   refine ma_cons ?_ ?_
   ·exact (me_var 0)
   refine ma_cons ?_ ?_
   ·exact (me_var 1)
   refine ma_cons ?_ ma_nil
   exact (me_var 2)
theorem sc__law_no_meet:FnScope ["_law_prime","e"] ["_law_prime"] (defScope (top 41)):=⟨rfl,rfl,rfl,by decide +kernel,rfl,by decide +kernel,by decide +kernel⟩
theorem ok__law_no_meet {f:Addr} {fd:FuncData} (F:Fun K "_law_no_meet" "_law_no_meet" (top 41) f fd) (hm:mg "_law_no_meet" = some (.ref f)) (T:Txt K mg) (G_meet:FnAt P w K mg base "meet" 8 PM.meet):FnAt P w K mg base "_law_no_meet" 9 w_law_no_meet :=
 FnAt.mk F hm sc__law_no_meet (fun _ _ _ _ _ _ => len1 fun _ => rfl) fun cdv A outer s H E hr =>
  by
   refine ms_cons ?_ ?_
   ·refine ms_try T.kn ⟨fun _ => rfl,rfl,rfl⟩ ?_ ?_
    ·refine mse_one ?_
     refine mse_expr ?_
     refine mee_fn G_meet hr (by decide) (by rfl) (fun _ => rfl) (fun _ => ?_)
     refine ma_cons ?_ ?_
     ·exact (me_var 0)
     refine ma_cons ?_ ?_
     ·exact (me_lst ma_nil)
     refine ma_cons ?_ ma_nil
     exact (me_lst ma_nil)
    refine mh_asC (i:=1) T.sub sc__law_no_meet.nd T.c_AlgebraError (by rfl) (fun _ _ => ?_) mh_nil
    refine ms_cons ?_ ?_
    ·refine ms_if ?_ ?_ ms_nil
     ·refine mt_val ?_
      exact (me_isXs (i:=1) T.sub T.qx (.cons (by rfl) T.c_ByNought (by rfl) (.cons (by rfl) T.c_NoParts (by rfl) (.cons (by rfl) T.c_NoPrime (by rfl) (.cons (by rfl) T.c_NoRing (by rfl) (.cons (by rfl) T.c_NotPlain (by rfl) .nil))))) (by rfl) T.b_isinstance (by rfl) (by first | exact Or.inl rfl | exact Or.inr (Or.inl rfl)))
     refine ms_one ?_
     exact (ms_ret me_bl)
    refine ms_one ?_
    refine ms_ret ?_
    refine me_and ?_ ?_
    ·exact (me_isXo 1 T.sub T.c_NoMeet (by rfl) T.b_isinstance (by rfl))
    refine me_one ?_
    exact (me_isXb 1 T.sub T.b_ValueError bt_ValueError (by rfl) T.b_isinstance (by rfl))
   refine ms_one ?_
   exact (ms_ret me_bl)
theorem nd_0_law:(["_law_row"]:List Str).Nodup:=by decide +kernel
theorem nd_1_law:(["_law_row"]:List Str).Nodup:=by decide +kernel
theorem sc_law:FnScope ["_law_script","_law_prime","_law_rows_here","_law_first","_law_second","_law_found","_law_row","_law_held","_law_again"] ["_law_script"] (defScope (top 45)):=⟨rfl,rfl,rfl,by decide +kernel,rfl,by decide +kernel,by decide +kernel⟩
theorem law_fn {f:Addr} {fd:FuncData} (F:Fun K "law" "law" (top 45) f fd) (T:Txt K mg) (G__law_cell_at:FnAt P w K mg base "_law_cell_at" 1 PM.law_cell_at_v2) (G__law_prime_by:FnAt P w K mg base "_law_prime_by" 1 PM.law_prime_by) (G__law_own:FnAt P w K mg base "_law_own" 1 PM.law_own) (G__law_good:FnAt P w K mg base "_law_good" 3 PM.law_good_v2) (G__law_rows:FnAt P w K mg base "_law_rows" 3 PM.law_rows_v2) (G_meet:FnAt P w K mg base "meet" 8 PM.meet) (G__law_no_meet:FnAt P w K mg base "_law_no_meet" 9 w_law_no_meet):FnOk P w K mg base (CX1 P w) 10 f fd ["_law_script"] (spM ⟨K,mg,[]⟩ w_law) :=
 fn_okM F sc_law fun cdv A outer s H E hr =>
  by
   refine ms_cons ?_ ?_
   ·refine ms_setM ?_ ?_
    ·exact sc_law.nd
    refine me_fn G__law_prime_by hr (by decide) (by rfl) pass_out ?_
    refine ma_cons ?_ ma_nil
    refine me_fn G__law_cell_at hr (by decide) (by rfl) pass_out ?_
    refine ma_cons ?_ ?_
    ·exact (me_var 0)
    exact (ma_int ma_nil)
   refine ms_cons ?_ ?_
   ·refine ms_setM ?_ ?_
    ·exact sc_law.nd
    refine me_fn G__law_rows hr (by decide) (by rfl) pass_out ?_
    refine ma_cons ?_ ?_
    ·exact (me_var 0)
    refine ma_cons ?_ ma_nil
    exact (me_var 1)
   refine ms_cons ?_ ?_
   ·refine ms_setM ?_ ?_
    ·exact sc_law.nd
    refine me_callTy ?_ (by rfl) T.b_list PyProof.Rows.boot_list ?_
    ·exact call_lstM
    refine ma_cons ?_ ma_nil
    refine me_ixM ?_ me_int
    exact (me_var 2)
   refine ms_cons ?_ ?_
   ·refine ms_setM ?_ ?_
    ·exact sc_law.nd
    refine me_callTy ?_ (by rfl) T.b_list PyProof.Rows.boot_list ?_
    ·exact call_lstM
    refine ma_cons ?_ ma_nil
    refine me_ixM ?_ me_int
    exact (me_var 2)
   refine ms_cons ?_ ?_
   ·refine ms_if ?_ ?_ ms_nil
    ·refine mt_w ?_
     refine mw_and ?_ ?_
     ·refine mt_cmp ?_ ?_ ?_
      ·exact (op_eqM hr.units)
      ·exact (me_var 3)
      exact (me_lst ma_nil)
     refine mw_and1 ?_
     refine mt_cmp ?_ ?_ ?_
     ·exact (op_eqM hr.units)
     ·exact (me_var 4)
     exact (me_lst ma_nil)
    refine ms_one ?_
    refine ms_ret ?_
    refine me_fn G__law_no_meet hr (by decide) (by rfl) pass_out ?_
    refine ma_cons ?_ ma_nil
    exact (me_var 1)
   refine ms_cons ?_ ?_
   ·refine ms_setM ?_ ?_
    ·exact sc_law.nd
    refine me_fn G_meet hr (by decide) (by rfl) pass_out ?_
    refine ma_cons ?_ ?_
    ·exact (me_var 1)
    refine ma_cons ?_ ?_
    ·exact (me_var 3)
    refine ma_cons ?_ ma_nil
    exact (me_var 4)
   refine ms_cons ?_ ?_
   ·refine ms_if ?_ ?_ ms_nil
    ·refine mt_w ?_
     refine mw_or ?_ ?_
     ·refine mt_not ?_
      refine mt_val ?_
      refine me_fn G__law_good hr (by decide) (by rfl) pass_out ?_
      refine ma_cons ?_ ?_
      ·exact (me_var 1)
      refine ma_cons ?_ ?_
      ·exact (me_var 5)
      refine ma_cons ?_ ?_
      ·refine me_ixM ?_ me_int
       exact (me_var 2)
      refine ma_cons ?_ ma_nil
      refine me_ixM ?_ me_int
      exact (me_var 2)
     refine mw_or ?_ ?_
     ·refine mt_cmp ?_ ?_ ?_
      ·exact (op_neM hr.units)
      ·exact (me_var 3)
      refine me_ixM ?_ me_int
      exact (me_var 2)
     refine mw_or1 ?_
     refine mt_cmp ?_ ?_ ?_
     ·exact (op_neM hr.units)
     ·exact (me_var 4)
     refine me_ixM ?_ me_int
     exact (me_var 2)
    refine ms_one ?_
    exact (ms_ret me_bl)
   refine ms_cons ?_ ?_
   ·refine ms_if ?_ ?_ ms_nil
    ·refine mt_not ?_
     refine mt_val ?_
     refine me_fn G__law_own hr (by decide) (by rfl) pass_out ?_
     refine ma_cons ?_ ma_nil
     refine me_callTy ?_ (by rfl) T.b_list PyProof.Rows.boot_list ?_
     ·exact call_lstM
     refine ma_cons ?_ ma_nil
     exact (me_var 5)
    refine ms_one ?_
    exact (ms_ret me_bl)
   refine ms_cons ?_ ?_
   ·refine ms_for own_pass rfl ?_ ?_ ?_
    ·refine mi_seq ?_
     exact (me_var 5)
    ·exact (mg_name 6 sc_law.nd)
    refine ms_one ?_
    refine ms_seti ?_ me_int me_int
    exact (me_var 6)
   refine ms_cons (MN.ms_setComp 7 (N:=["_law_row"]) (k:=1) sc_law.nd rfl rfl (capsA (cl:=[]) (caps:=[]) (by rfl) .nil (by rfl) (by rfl) (by rfl) (by rfl) (by rfl) (by rfl)) (mi_seq (me_var 5)) (fun _ _ _ _ => (mg_name 0 nd_0_law)) (fun _ _ _ _ => mif_nil) (fun _ _ _ _ => (me_callTy call_lstM (by rfl) T.b_list PyProof.Rows.boot_list (ma_cons (me_var 0) ma_nil)))) ?_
   refine ms_cons ?_ ?_
   ·refine ms_setM ?_ ?_
    ·exact sc_law.nd
    refine me_fn G_meet hr (by decide) (by rfl) pass_out ?_
    refine ma_cons ?_ ?_
    ·exact (me_var 1)
    refine ma_cons ?_ ?_
    ·exact (me_var 3)
    refine ma_cons ?_ ma_nil
    exact (me_var 4)
   refine ms_cons ?_ ?_
   ·refine ms_if ?_ ?_ ms_nil
    ·refine mt_cmp ?_ ?_ ?_
     ·exact (op_neM hr.units)
     ·refine me_comp (N:=["_law_row"]) (k:=1) rfl rfl (capsA (cl:=[]) (caps:=[]) (by rfl) .nil (by rfl) (by rfl) (by rfl) (by rfl) (by rfl) (by rfl)) ?_ (fun _ _ _ _ => ?_) (fun _ _ _ _ => mif_nil) (fun _ _ _ _ => ?_)
      ·refine mi_seq ?_
       exact (me_var 5)
      ·exact (mg_name 0 nd_1_law)
      refine me_callTy ?_ (by rfl) T.b_list PyProof.Rows.boot_list ?_
      ·exact call_lstM
      refine ma_cons ?_ ma_nil
      exact (me_var 0)
     exact (me_var 7)
    refine ms_one ?_
    exact (ms_ret me_bl)
   refine ms_one ?_
   refine ms_ret ?_
   refine me_and ?_ ?_
   ·refine me_fn G__law_good hr (by decide) (by rfl) pass_out ?_
    refine ma_cons ?_ ?_
    ·exact (me_var 1)
    refine ma_cons ?_ ?_
    ·exact (me_var 8)
    refine ma_cons ?_ ?_
    ·refine me_ixM ?_ me_int
     exact (me_var 2)
    refine ma_cons ?_ ma_nil
    refine me_ixM ?_ me_int
    exact (me_var 2)
   refine me_and ?_ ?_
   ·refine me_cmp ?_ ?_ ?_
    ·exact (op_eqM hr.units)
    ·exact (me_var 3)
    refine me_ixM ?_ me_int
    exact (me_var 2)
   refine me_one ?_
   refine me_cmp ?_ ?_ ?_
   ·exact (op_eqM hr.units)
   ·exact (me_var 4)
   refine me_ixM ?_ me_int
   exact (me_var 2)
end
theorem all_mk {l:PySem.W.OpenLaw} {w:World} {K:PySem.W.Frag} {h:Heap} {mg:Str → Option Value} {fa:Addr} (X:K.In h) (G:h.Ns mainGlobals mg) (hfa:mg "law" = some (.ref fa))
  {f0:Addr} {od0 an0:Option Addr} {sl0:Array (Option Value)} {oc0 kV0 dc0 pm0 cd0 ct0:Value}
  {f1:Addr} {od1 an1:Option Addr} {sl1:Array (Option Value)} {oc1 kV1 dc1 pm1 cd1 ct1:Value}
  {f2:Addr} {od2 an2:Option Addr} {sl2:Array (Option Value)} {oc2 kV2 dc2 pm2 cd2 ct2:Value}
  {f3:Addr} {od3 an3:Option Addr} {sl3:Array (Option Value)} {oc3 kV3 dc3 pm3 cd3 ct3:Value}
  {f4:Addr} {od4 an4:Option Addr} {sl4:Array (Option Value)} {oc4 kV4 dc4 pm4 cd4 ct4:Value}
  {f5:Addr} {od5 an5:Option Addr} {sl5:Array (Option Value)} {oc5 kV5 dc5 pm5 cd5 ct5:Value}
  {f6:Addr} {od6 an6:Option Addr} {sl6:Array (Option Value)} {oc6 kV6 dc6 pm6 cd6 ct6:Value}
  {f7:Addr} {od7 an7:Option Addr} {sl7:Array (Option Value)} {oc7 kV7 dc7 pm7 cd7 ct7:Value}
  {f8:Addr} {od8 an8:Option Addr} {sl8:Array (Option Value)} {oc8 kV8 dc8 pm8 cd8 ct8:Value}
  {f9:Addr} {od9 an9:Option Addr} {sl9:Array (Option Value)} {oc9 kV9 dc9 pm9 cd9 ct9:Value}
  {f10:Addr} {od10 an10:Option Addr} {sl10:Array (Option Value)} {oc10 kV10 dc10 pm10 cd10 ct10:Value}
  {f11:Addr} {od11 an11:Option Addr} {sl11:Array (Option Value)} {oc11 kV11 dc11 pm11 cd11 ct11:Value}
  {f12:Addr} {od12 an12:Option Addr} {sl12:Array (Option Value)} {oc12 kV12 dc12 pm12 cd12 ct12:Value}
  {f13:Addr} {od13 an13:Option Addr} {sl13:Array (Option Value)} {oc13 kV13 dc13 pm13 cd13 ct13:Value}
  {f14:Addr} {od14 an14:Option Addr} {sl14:Array (Option Value)} {oc14 kV14 dc14 pm14 cd14 ct14:Value}
  {f15:Addr} {od15 an15:Option Addr} {sl15:Array (Option Value)} {oc15 kV15 dc15 pm15 cd15 ct15:Value}
  {f16:Addr} {od16 an16:Option Addr} {sl16:Array (Option Value)} {oc16 kV16 dc16 pm16 cd16 ct16:Value}
  {f17:Addr} {od17 an17:Option Addr} {sl17:Array (Option Value)} {oc17 kV17 dc17 pm17 cd17 ct17:Value}
  {f18:Addr} {od18 an18:Option Addr} {sl18:Array (Option Value)} {oc18 kV18 dc18 pm18 cd18 ct18:Value}
  {f19:Addr} {od19 an19:Option Addr} {sl19:Array (Option Value)} {oc19 kV19 dc19 pm19 cd19 ct19:Value}
  {f20:Addr} {od20 an20:Option Addr} {sl20:Array (Option Value)} {oc20 kV20 dc20 pm20 cd20 ct20:Value}
  {f21:Addr} {od21 an21:Option Addr} {sl21:Array (Option Value)} {oc21 kV21 dc21 pm21 cd21 ct21:Value}
  {f22:Addr} {od22 an22:Option Addr} {sl22:Array (Option Value)} {oc22 kV22 dc22 pm22 cd22 ct22:Value}
  {f23:Addr} {od23 an23:Option Addr} {sl23:Array (Option Value)} {oc23 kV23 dc23 pm23 cd23 ct23:Value}
  {f24:Addr} {od24 an24:Option Addr} {sl24:Array (Option Value)} {oc24 kV24 dc24 pm24 cd24 ct24:Value}
  {f25:Addr} {od25 an25:Option Addr} {sl25:Array (Option Value)} {oc25 kV25 dc25 pm25 cd25 ct25:Value}
  {f26:Addr} {od26 an26:Option Addr} {sl26:Array (Option Value)} {oc26 kV26 dc26 pm26 cd26 ct26:Value}
  {f27:Addr} {od27 an27:Option Addr} {sl27:Array (Option Value)} {oc27 kV27 dc27 pm27 cd27 ct27:Value}
  {f28:Addr} {od28 an28:Option Addr} {sl28:Array (Option Value)} {oc28 kV28 dc28 pm28 cd28 ct28:Value}
  {f29:Addr} {od29 an29:Option Addr} {sl29:Array (Option Value)} {oc29 kV29 dc29 pm29 cd29 ct29:Value}
  {f30:Addr} {od30 an30:Option Addr} {sl30:Array (Option Value)} {oc30 kV30 dc30 pm30 cd30 ct30:Value}
  {gt_MOST_RING:Tok}
  {ga_FIRST_PRIMES:Addr} {gd_FIRST_PRIMES:Option Addr} {gn_FIRST_PRIMES:Nat} {gs_FIRST_PRIMES:Array (Option Value)} {gt0_FIRST_PRIMES gt1_FIRST_PRIMES gt2_FIRST_PRIMES gt3_FIRST_PRIMES gt4_FIRST_PRIMES gt5_FIRST_PRIMES gt6_FIRST_PRIMES gt7_FIRST_PRIMES gt8_FIRST_PRIMES gt9_FIRST_PRIMES gt10_FIRST_PRIMES:Tok}
  {C_AlgebraError:Addr} {cdat_AlgebraError:ClassData}
  {C_NoRing:Addr} {cdat_NoRing:ClassData}
  {C_NoPrime:Addr} {cdat_NoPrime:ClassData}
  {C_NoInverse:Addr} {cdat_NoInverse:ClassData}
  {C_ByNought:Addr} {cdat_ByNought:ClassData}
  {C_NoMeet:Addr} {cdat_NoMeet:ClassData}
  {C_NoParts:Addr} {cdat_NoParts:ClassData}
  {C_NotPlain:Addr} {cdat_NotPlain:ClassData}
  (a0:PySem.W.nsIn K mainGlobals "is_whole" = some (some (.ref f0))) (l0:K.lookup f0 = some ⟨oc0,od0,.func (PySem.W.fnOf "is_whole" "is_whole" (defArgs (top 12)) (defBody (top 12)) (defScope (top 12)) .none kV0 dc0 pm0 an0 cd0 ct0),sl0⟩) (c0:PySem.W.codeIn K cd0 "is_whole" = true) (k0:PySem.W.keepIn K (.ref f0) = true)
  (a1:PySem.W.nsIn K mainGlobals "is_prime_within" = some (some (.ref f1))) (l1:K.lookup f1 = some ⟨oc1,od1,.func (PySem.W.fnOf "is_prime_within" "is_prime_within" (defArgs (top 13)) (defBody (top 13)) (defScope (top 13)) .none kV1 dc1 pm1 an1 cd1 ct1),sl1⟩) (c1:PySem.W.codeIn K cd1 "is_prime_within" = true) (k1:PySem.W.keepIn K (.ref f1) = true)
  (a2:PySem.W.nsIn K mainGlobals "signed_unit" = some (some (.ref f2))) (l2:K.lookup f2 = some ⟨oc2,od2,.func (PySem.W.fnOf "signed_unit" "signed_unit" (defArgs (top 17)) (defBody (top 17)) (defScope (top 17)) .none kV2 dc2 pm2 an2 cd2 ct2),sl2⟩) (c2:PySem.W.codeIn K cd2 "signed_unit" = true) (k2:PySem.W.keepIn K (.ref f2) = true)
  (a3:PySem.W.nsIn K mainGlobals "whole_inverse" = some (some (.ref f3))) (l3:K.lookup f3 = some ⟨oc3,od3,.func (PySem.W.fnOf "whole_inverse" "whole_inverse" (defArgs (top 20)) (defBody (top 20)) (defScope (top 20)) .none kV3 dc3 pm3 an3 cd3 ct3),sl3⟩) (c3:PySem.W.codeIn K cd3 "whole_inverse" = true) (k3:PySem.W.keepIn K (.ref f3) = true)
  (a4:PySem.W.nsIn K mainGlobals "row_of_rests" = some (some (.ref f4))) (l4:K.lookup f4 = some ⟨oc4,od4,.func (PySem.W.fnOf "row_of_rests" "row_of_rests" (defArgs (top 22)) (defBody (top 22)) (defScope (top 22)) .none kV4 dc4 pm4 an4 cd4 ct4),sl4⟩) (c4:PySem.W.codeIn K cd4 "row_of_rests" = true) (k4:PySem.W.keepIn K (.ref f4) = true)
  (a5:PySem.W.nsIn K mainGlobals "with_noughts" = some (some (.ref f5))) (l5:K.lookup f5 = some ⟨oc5,od5,.func (PySem.W.fnOf "with_noughts" "with_noughts" (defArgs (top 24)) (defBody (top 24)) (defScope (top 24)) .none kV5 dc5 pm5 an5 cd5 ct5),sl5⟩) (c5:PySem.W.codeIn K cd5 "with_noughts" = true) (k5:PySem.W.keepIn K (.ref f5) = true)
  (a6:PySem.W.nsIn K mainGlobals "_law_cell_at" = some (some (.ref f6))) (l6:K.lookup f6 = some ⟨oc6,od6,.func (PySem.W.fnOf "_law_cell_at" "_law_cell_at" (defArgs (top 33)) (defBody (top 33)) (defScope (top 33)) .none kV6 dc6 pm6 an6 cd6 ct6),sl6⟩) (c6:PySem.W.codeIn K cd6 "_law_cell_at" = true) (k6:PySem.W.keepIn K (.ref f6) = true)
  (a7:PySem.W.nsIn K mainGlobals "_law_whole" = some (some (.ref f7))) (l7:K.lookup f7 = some ⟨oc7,od7,.func (PySem.W.fnOf "_law_whole" "_law_whole" (defArgs (top 34)) (defBody (top 34)) (defScope (top 34)) .none kV7 dc7 pm7 an7 cd7 ct7),sl7⟩) (c7:PySem.W.codeIn K cd7 "_law_whole" = true) (k7:PySem.W.keepIn K (.ref f7) = true)
  (a8:PySem.W.nsIn K mainGlobals "_law_prime_by" = some (some (.ref f8))) (l8:K.lookup f8 = some ⟨oc8,od8,.func (PySem.W.fnOf "_law_prime_by" "_law_prime_by" (defArgs (top 35)) (defBody (top 35)) (defScope (top 35)) .none kV8 dc8 pm8 an8 cd8 ct8),sl8⟩) (c8:PySem.W.codeIn K cd8 "_law_prime_by" = true) (k8:PySem.W.keepIn K (.ref f8) = true)
  (a9:PySem.W.nsIn K mainGlobals "_law_cut" = some (some (.ref f9))) (l9:K.lookup f9 = some ⟨oc9,od9,.func (PySem.W.fnOf "_law_cut" "_law_cut" (defArgs (top 36)) (defBody (top 36)) (defScope (top 36)) .none kV9 dc9 pm9 an9 cd9 ct9),sl9⟩) (c9:PySem.W.codeIn K cd9 "_law_cut" = true) (k9:PySem.W.keepIn K (.ref f9) = true)
  (a10:PySem.W.nsIn K mainGlobals "_law_own" = some (some (.ref f10))) (l10:K.lookup f10 = some ⟨oc10,od10,.func (PySem.W.fnOf "_law_own" "_law_own" (defArgs (top 44)) (defBody (top 44)) (defScope (top 44)) .none kV10 dc10 pm10 an10 cd10 ct10),sl10⟩) (c10:PySem.W.codeIn K cd10 "_law_own" = true) (k10:PySem.W.keepIn K (.ref f10) = true)
  (a11:PySem.W.nsIn K mainGlobals "is_ring" = some (some (.ref f11))) (l11:K.lookup f11 = some ⟨oc11,od11,.func (PySem.W.fnOf "is_ring" "is_ring" (defArgs (top 14)) (defBody (top 14)) (defScope (top 14)) .none kV11 dc11 pm11 an11 cd11 ct11),sl11⟩) (c11:PySem.W.codeIn K cd11 "is_ring" = true) (k11:PySem.W.keepIn K (.ref f11) = true)
  (a12:PySem.W.nsIn K mainGlobals "shared" = some (some (.ref f12))) (l12:K.lookup f12 = some ⟨oc12,od12,.func (PySem.W.fnOf "shared" "shared" (defArgs (top 18)) (defBody (top 18)) (defScope (top 18)) .none kV12 dc12 pm12 an12 cd12 ct12),sl12⟩) (c12:PySem.W.codeIn K cd12 "shared" = true) (k12:PySem.W.keepIn K (.ref f12) = true)
  (a13:PySem.W.nsIn K mainGlobals "row_with_multiple" = some (some (.ref f13))) (l13:K.lookup f13 = some ⟨oc13,od13,.func (PySem.W.fnOf "row_with_multiple" "row_with_multiple" (defArgs (top 23)) (defBody (top 23)) (defScope (top 23)) .none kV13 dc13 pm13 an13 cd13 ct13),sl13⟩) (c13:PySem.W.codeIn K cd13 "row_with_multiple" = true) (k13:PySem.W.keepIn K (.ref f13) = true)
  (a14:PySem.W.nsIn K mainGlobals "row_product" = some (some (.ref f14))) (l14:K.lookup f14 = some ⟨oc14,od14,.func (PySem.W.fnOf "row_product" "row_product" (defArgs (top 25)) (defBody (top 25)) (defScope (top 25)) .none kV14 dc14 pm14 an14 cd14 ct14),sl14⟩) (c14:PySem.W.codeIn K cd14 "row_product" = true) (k14:PySem.W.keepIn K (.ref f14) = true)
  (a15:PySem.W.nsIn K mainGlobals "row_multiple" = some (some (.ref f15))) (l15:K.lookup f15 = some ⟨oc15,od15,.func (PySem.W.fnOf "row_multiple" "row_multiple" (defArgs (top 26)) (defBody (top 26)) (defScope (top 26)) .none kV15 dc15 pm15 an15 cd15 ct15),sl15⟩) (c15:PySem.W.codeIn K cd15 "row_multiple" = true) (k15:PySem.W.keepIn K (.ref f15) = true)
  (a16:PySem.W.nsIn K mainGlobals "_law_drawn" = some (some (.ref f16))) (l16:K.lookup f16 = some ⟨oc16,od16,.func (PySem.W.fnOf "_law_drawn" "_law_drawn" (defArgs (top 37)) (defBody (top 37)) (defScope (top 37)) .none kV16 dc16 pm16 an16 cd16 ct16),sl16⟩) (c16:PySem.W.codeIn K cd16 "_law_drawn" = true) (k16:PySem.W.keepIn K (.ref f16) = true)
  (a17:PySem.W.nsIn K mainGlobals "_law_is_row" = some (some (.ref f17))) (l17:K.lookup f17 = some ⟨oc17,od17,.func (PySem.W.fnOf "_law_is_row" "_law_is_row" (defArgs (top 38)) (defBody (top 38)) (defScope (top 38)) .none kV17 dc17 pm17 an17 cd17 ct17),sl17⟩) (c17:PySem.W.codeIn K cd17 "_law_is_row" = true) (k17:PySem.W.keepIn K (.ref f17) = true)
  (a18:PySem.W.nsIn K mainGlobals "_law_times" = some (some (.ref f18))) (l18:K.lookup f18 = some ⟨oc18,od18,.func (PySem.W.fnOf "_law_times" "_law_times" (defArgs (top 39)) (defBody (top 39)) (defScope (top 39)) .none kV18 dc18 pm18 an18 cd18 ct18),sl18⟩) (c18:PySem.W.codeIn K cd18 "_law_times" = true) (k18:PySem.W.keepIn K (.ref f18) = true)
  (a19:PySem.W.nsIn K mainGlobals "_law_sum" = some (some (.ref f19))) (l19:K.lookup f19 = some ⟨oc19,od19,.func (PySem.W.fnOf "_law_sum" "_law_sum" (defArgs (top 40)) (defBody (top 40)) (defScope (top 40)) .none kV19 dc19 pm19 an19 cd19 ct19),sl19⟩) (c19:PySem.W.codeIn K cd19 "_law_sum" = true) (k19:PySem.W.keepIn K (.ref f19) = true)
  (a20:PySem.W.nsIn K mainGlobals "check_ring" = some (some (.ref f20))) (l20:K.lookup f20 = some ⟨oc20,od20,.func (PySem.W.fnOf "check_ring" "check_ring" (defArgs (top 15)) (defBody (top 15)) (defScope (top 15)) .none kV20 dc20 pm20 an20 cd20 ct20),sl20⟩) (c20:PySem.W.codeIn K cd20 "check_ring" = true) (k20:PySem.W.keepIn K (.ref f20) = true)
  (a21:PySem.W.nsIn K mainGlobals "check_prime" = some (some (.ref f21))) (l21:K.lookup f21 = some ⟨oc21,od21,.func (PySem.W.fnOf "check_prime" "check_prime" (defArgs (top 16)) (defBody (top 16)) (defScope (top 16)) .none kV21 dc21 pm21 an21 cd21 ct21),sl21⟩) (c21:PySem.W.codeIn K cd21 "check_prime" = true) (k21:PySem.W.keepIn K (.ref f21) = true)
  (a22:PySem.W.nsIn K mainGlobals "_law_good" = some (some (.ref f22))) (l22:K.lookup f22 = some ⟨oc22,od22,.func (PySem.W.fnOf "_law_good" "_law_good" (defArgs (top 42)) (defBody (top 42)) (defScope (top 42)) .none kV22 dc22 pm22 an22 cd22 ct22),sl22⟩) (c22:PySem.W.codeIn K cd22 "_law_good" = true) (k22:PySem.W.keepIn K (.ref f22) = true)
  (a23:PySem.W.nsIn K mainGlobals "_law_rows" = some (some (.ref f23))) (l23:K.lookup f23 = some ⟨oc23,od23,.func (PySem.W.fnOf "_law_rows" "_law_rows" (defArgs (top 43)) (defBody (top 43)) (defScope (top 43)) .none kV23 dc23 pm23 an23 cd23 ct23),sl23⟩) (c23:PySem.W.codeIn K cd23 "_law_rows" = true) (k23:PySem.W.keepIn K (.ref f23) = true)
  (a24:PySem.W.nsIn K mainGlobals "inverse" = some (some (.ref f24))) (l24:K.lookup f24 = some ⟨oc24,od24,.func (PySem.W.fnOf "inverse" "inverse" (defArgs (top 19)) (defBody (top 19)) (defScope (top 19)) .none kV24 dc24 pm24 an24 cd24 ct24),sl24⟩) (c24:PySem.W.codeIn K cd24 "inverse" = true) (k24:PySem.W.keepIn K (.ref f24) = true)
  (a25:PySem.W.nsIn K mainGlobals "parted" = some (some (.ref f25))) (l25:K.lookup f25 = some ⟨oc25,od25,.func (PySem.W.fnOf "parted" "parted" (defArgs (top 28)) (defBody (top 28)) (defScope (top 28)) .none kV25 dc25 pm25 an25 cd25 ct25),sl25⟩) (c25:PySem.W.codeIn K cd25 "parted" = true) (k25:PySem.W.keepIn K (.ref f25) = true)
  (a26:PySem.W.nsIn K mainGlobals "triple_below" = some (some (.ref f26))) (l26:K.lookup f26 = some ⟨oc26,od26,.func (PySem.W.fnOf "triple_below" "triple_below" (defArgs (top 31)) (defBody (top 31)) (defScope (top 31)) .none kV26 dc26 pm26 an26 cd26 ct26),sl26⟩) (c26:PySem.W.codeIn K cd26 "triple_below" = true) (k26:PySem.W.keepIn K (.ref f26) = true)
  (a27:PySem.W.nsIn K mainGlobals "met" = some (some (.ref f27))) (l27:K.lookup f27 = some ⟨oc27,od27,.func (PySem.W.fnOf "met" "met" (defArgs (top 30)) (defBody (top 30)) (defScope (top 30)) .none kV27 dc27 pm27 an27 cd27 ct27),sl27⟩) (c27:PySem.W.codeIn K cd27 "met" = true) (k27:PySem.W.keepIn K (.ref f27) = true)
  (a28:PySem.W.nsIn K mainGlobals "meet" = some (some (.ref f28))) (l28:K.lookup f28 = some ⟨oc28,od28,.func (PySem.W.fnOf "meet" "meet" (defArgs (top 29)) (defBody (top 29)) (defScope (top 29)) .none kV28 dc28 pm28 an28 cd28 ct28),sl28⟩) (c28:PySem.W.codeIn K cd28 "meet" = true) (k28:PySem.W.keepIn K (.ref f28) = true)
  (a29:PySem.W.nsIn K mainGlobals "_law_no_meet" = some (some (.ref f29))) (l29:K.lookup f29 = some ⟨oc29,od29,.func (PySem.W.fnOf "_law_no_meet" "_law_no_meet" (defArgs (top 41)) (defBody (top 41)) (defScope (top 41)) .none kV29 dc29 pm29 an29 cd29 ct29),sl29⟩) (c29:PySem.W.codeIn K cd29 "_law_no_meet" = true) (k29:PySem.W.keepIn K (.ref f29) = true)
  (a30:PySem.W.nsIn K mainGlobals "law" = some (some (.ref f30))) (l30:K.lookup f30 = some ⟨oc30,od30,.func (PySem.W.fnOf "law" "law" (defArgs (top 45)) (defBody (top 45)) (defScope (top 45)) .none kV30 dc30 pm30 an30 cd30 ct30),sl30⟩) (c30:PySem.W.codeIn K cd30 "law" = true) (k30:PySem.W.keepIn K (.ref f30) = true)
  (zb_ValueError:PySem.W.nsIn K mainGlobals "ValueError" = some none)
  (zb_abs:PySem.W.nsIn K mainGlobals "abs" = some none)
  (zb_all:PySem.W.nsIn K mainGlobals "all" = some none)
  (zb_bool:PySem.W.nsIn K mainGlobals "bool" = some none)
  (zb_enumerate:PySem.W.nsIn K mainGlobals "enumerate" = some none)
  (zb_int:PySem.W.nsIn K mainGlobals "int" = some none)
  (zb_isinstance:PySem.W.nsIn K mainGlobals "isinstance" = some none)
  (zb_len:PySem.W.nsIn K mainGlobals "len" = some none)
  (zb_list:PySem.W.nsIn K mainGlobals "list" = some none)
  (zb_max:PySem.W.nsIn K mainGlobals "max" = some none)
  (zb_range:PySem.W.nsIn K mainGlobals "range" = some none)
  (zb_tuple:PySem.W.nsIn K mainGlobals "tuple" = some none)
  (zb_zip:PySem.W.nsIn K mainGlobals "zip" = some none)
  (zg_MOST_RING:PySem.W.nsIn K mainGlobals "MOST_RING" = some (some (.int 997 gt_MOST_RING)))
  (zg_FIRST_PRIMES:PySem.W.nsIn K mainGlobals "FIRST_PRIMES" = some (some (.ref ga_FIRST_PRIMES))) (zl_FIRST_PRIMES:K.lookup ga_FIRST_PRIMES = some ⟨.type "tuple",gd_FIRST_PRIMES,.seq #[.int 2 gt0_FIRST_PRIMES,.int 3 gt1_FIRST_PRIMES,.int 5 gt2_FIRST_PRIMES,.int 7 gt3_FIRST_PRIMES,.int 11 gt4_FIRST_PRIMES,.int 13 gt5_FIRST_PRIMES,.int 17 gt6_FIRST_PRIMES,.int 19 gt7_FIRST_PRIMES,.int 23 gt8_FIRST_PRIMES,.int 29 gt9_FIRST_PRIMES,.int 31 gt10_FIRST_PRIMES] gn_FIRST_PRIMES,gs_FIRST_PRIMES⟩)
  (zc_AlgebraError:PySem.W.nsIn K mainGlobals "AlgebraError" = some (some (.ref C_AlgebraError))) (zd_AlgebraError:PySem.W.clsIn K C_AlgebraError = some cdat_AlgebraError) (zt_AlgebraError:PySem.W.typeIn K (.ref C_AlgebraError) = some (.type "type")) (ze_AlgebraError:PySem.W.excIn K C_AlgebraError bmV "ValueError.__new__" = true) (zs_AlgebraError:PySem.W.subIn K (.ref C_AlgebraError) (.type "BaseException") = some true)
  (zc_NoRing:PySem.W.nsIn K mainGlobals "NoRing" = some (some (.ref C_NoRing))) (zd_NoRing:PySem.W.clsIn K C_NoRing = some cdat_NoRing) (zt_NoRing:PySem.W.typeIn K (.ref C_NoRing) = some (.type "type")) (ze_NoRing:PySem.W.excIn K C_NoRing bmV "ValueError.__new__" = true) (zs_NoRing:PySem.W.subIn K (.ref C_NoRing) (.type "BaseException") = some true)
  (zc_NoPrime:PySem.W.nsIn K mainGlobals "NoPrime" = some (some (.ref C_NoPrime))) (zd_NoPrime:PySem.W.clsIn K C_NoPrime = some cdat_NoPrime) (zt_NoPrime:PySem.W.typeIn K (.ref C_NoPrime) = some (.type "type")) (ze_NoPrime:PySem.W.excIn K C_NoPrime bmV "ValueError.__new__" = true) (zs_NoPrime:PySem.W.subIn K (.ref C_NoPrime) (.type "BaseException") = some true)
  (zc_NoInverse:PySem.W.nsIn K mainGlobals "NoInverse" = some (some (.ref C_NoInverse))) (zd_NoInverse:PySem.W.clsIn K C_NoInverse = some cdat_NoInverse) (zt_NoInverse:PySem.W.typeIn K (.ref C_NoInverse) = some (.type "type")) (ze_NoInverse:PySem.W.excIn K C_NoInverse bmV "ValueError.__new__" = true) (zs_NoInverse:PySem.W.subIn K (.ref C_NoInverse) (.type "BaseException") = some true)
  (zc_ByNought:PySem.W.nsIn K mainGlobals "ByNought" = some (some (.ref C_ByNought))) (zd_ByNought:PySem.W.clsIn K C_ByNought = some cdat_ByNought) (zt_ByNought:PySem.W.typeIn K (.ref C_ByNought) = some (.type "type")) (ze_ByNought:PySem.W.excIn K C_ByNought bmV "ValueError.__new__" = true) (zs_ByNought:PySem.W.subIn K (.ref C_ByNought) (.type "BaseException") = some true)
  (zc_NoMeet:PySem.W.nsIn K mainGlobals "NoMeet" = some (some (.ref C_NoMeet))) (zd_NoMeet:PySem.W.clsIn K C_NoMeet = some cdat_NoMeet) (zt_NoMeet:PySem.W.typeIn K (.ref C_NoMeet) = some (.type "type")) (ze_NoMeet:PySem.W.excIn K C_NoMeet bmV "ValueError.__new__" = true) (zs_NoMeet:PySem.W.subIn K (.ref C_NoMeet) (.type "BaseException") = some true)
  (zc_NoParts:PySem.W.nsIn K mainGlobals "NoParts" = some (some (.ref C_NoParts))) (zd_NoParts:PySem.W.clsIn K C_NoParts = some cdat_NoParts) (zt_NoParts:PySem.W.typeIn K (.ref C_NoParts) = some (.type "type")) (ze_NoParts:PySem.W.excIn K C_NoParts bmV "ValueError.__new__" = true) (zs_NoParts:PySem.W.subIn K (.ref C_NoParts) (.type "BaseException") = some true)
  (zc_NotPlain:PySem.W.nsIn K mainGlobals "NotPlain" = some (some (.ref C_NotPlain))) (zd_NotPlain:PySem.W.clsIn K C_NotPlain = some cdat_NotPlain) (zt_NotPlain:PySem.W.typeIn K (.ref C_NotPlain) = some (.type "type")) (ze_NotPlain:PySem.W.excIn K C_NotPlain bmV "ValueError.__new__" = true) (zs_NotPlain:PySem.W.subIn K (.ref C_NotPlain) (.type "BaseException") = some true)
  (zp0:PySem.W.subIn K (.ref C_NoInverse) (.ref C_AlgebraError) = some true)
  (zp1:PySem.W.subIn K (.ref C_NoInverse) (.ref C_ByNought) = some false)
  (zp2:PySem.W.subIn K (.ref C_NoInverse) (.ref C_NoParts) = some false)
  (zp3:PySem.W.subIn K (.ref C_NoInverse) (.ref C_NoPrime) = some false)
  (zp4:PySem.W.subIn K (.ref C_NoInverse) (.ref C_NoRing) = some false)
  (zp5:PySem.W.subIn K (.ref C_NoInverse) (.ref C_NotPlain) = some false)
  (zp6:PySem.W.subIn K (.ref C_NoInverse) (.ref C_NoMeet) = some false)
  (zp7:PySem.W.kitOne K (.ref C_NoInverse) (.type "ValueError") = some true)
  (zp8:PySem.W.subIn K (.ref C_NoRing) (.ref C_AlgebraError) = some true)
  (zp9:PySem.W.subIn K (.ref C_NoRing) (.ref C_ByNought) = some false)
  (zp10:PySem.W.subIn K (.ref C_NoRing) (.ref C_NoParts) = some false)
  (zp11:PySem.W.subIn K (.ref C_NoRing) (.ref C_NoPrime) = some false)
  (zp12:PySem.W.subIn K (.ref C_NoRing) (.ref C_NoRing) = some true)
  (zp13:PySem.W.subIn K (.ref C_NoRing) (.ref C_NotPlain) = some false)
  (zp14:PySem.W.subIn K (.ref C_NoRing) (.ref C_NoMeet) = some false)
  (zp15:PySem.W.kitOne K (.ref C_NoRing) (.type "ValueError") = some true)
  (zp16:PySem.W.subIn K (.ref C_NoPrime) (.ref C_AlgebraError) = some true)
  (zp17:PySem.W.subIn K (.ref C_NoPrime) (.ref C_ByNought) = some false)
  (zp18:PySem.W.subIn K (.ref C_NoPrime) (.ref C_NoParts) = some false)
  (zp19:PySem.W.subIn K (.ref C_NoPrime) (.ref C_NoPrime) = some true)
  (zp20:PySem.W.subIn K (.ref C_NoPrime) (.ref C_NoRing) = some false)
  (zp21:PySem.W.subIn K (.ref C_NoPrime) (.ref C_NotPlain) = some false)
  (zp22:PySem.W.subIn K (.ref C_NoPrime) (.ref C_NoMeet) = some false)
  (zp23:PySem.W.kitOne K (.ref C_NoPrime) (.type "ValueError") = some true)
  (zp24:PySem.W.subIn K (.ref C_NoMeet) (.ref C_AlgebraError) = some true)
  (zp25:PySem.W.subIn K (.ref C_NoMeet) (.ref C_ByNought) = some false)
  (zp26:PySem.W.subIn K (.ref C_NoMeet) (.ref C_NoParts) = some false)
  (zp27:PySem.W.subIn K (.ref C_NoMeet) (.ref C_NoPrime) = some false)
  (zp28:PySem.W.subIn K (.ref C_NoMeet) (.ref C_NoRing) = some false)
  (zp29:PySem.W.subIn K (.ref C_NoMeet) (.ref C_NotPlain) = some false)
  (zp30:PySem.W.subIn K (.ref C_NoMeet) (.ref C_NoMeet) = some true)
  (zp31:PySem.W.kitOne K (.ref C_NoMeet) (.type "ValueError") = some true)
  (zq_NoInverse:L2.quietX K C_NoInverse = true)
  (zq_NoRing:L2.quietX K C_NoRing = true)
  (zq_NoPrime:L2.quietX K C_NoPrime = true)
  (zq_NoMeet:L2.quietX K C_NoMeet = true) :
  ∃ fd:FuncData,(∀ (s:Shared) (v:Value),BindsTo s fd ⟨[v],[]⟩ [("_law_script",v)]) ∧ ∀ base:Heap,K.In base → base.Ns mainGlobals mg → FnOk l.prog w K mg base (CX1 l.prog w) 10 fa fd ["_law_script"] (spLaw K):=by
 have e:=hfa.symm.trans (PySem.W.mg_of X G a30)
 cases e
 have T:Txt K mg:=⟨PySem.W.mg_none_of X G zb_ValueError,PySem.W.mg_none_of X G zb_abs,PySem.W.mg_none_of X G zb_all,PySem.W.mg_none_of X G zb_bool,PySem.W.mg_none_of X G zb_enumerate,PySem.W.mg_none_of X G zb_int,PySem.W.mg_none_of X G zb_isinstance,PySem.W.mg_none_of X G zb_len,PySem.W.mg_none_of X G zb_list,PySem.W.mg_none_of X G zb_max,PySem.W.mg_none_of X G zb_range,PySem.W.mg_none_of X G zb_tuple,PySem.W.mg_none_of X G zb_zip,Glob.int (PySem.W.mg_of X G zg_MOST_RING),Glob.ints (ns:=[2,3,5,7,11,13,17,19,23,29,31]) (PySem.W.mg_of X G zg_FIRST_PRIMES) zl_FIRST_PRIMES rfl rfl (by simp [sizeLine_eq]) (.cons ⟨_,rfl⟩ (.cons ⟨_,rfl⟩ (.cons ⟨_,rfl⟩ (.cons ⟨_,rfl⟩ (.cons ⟨_,rfl⟩ (.cons ⟨_,rfl⟩ (.cons ⟨_,rfl⟩ (.cons ⟨_,rfl⟩ (.cons ⟨_,rfl⟩ (.cons ⟨_,rfl⟩ (.cons ⟨_,rfl⟩ (.nil)))))))))))),⟨C_AlgebraError,PySem.W.mg_of X G zc_AlgebraError,ze_AlgebraError,zs_AlgebraError⟩,⟨C_NoRing,PySem.W.mg_of X G zc_NoRing,ze_NoRing,zs_NoRing⟩,⟨C_NoPrime,PySem.W.mg_of X G zc_NoPrime,ze_NoPrime,zs_NoPrime⟩,⟨C_NoInverse,PySem.W.mg_of X G zc_NoInverse,ze_NoInverse,zs_NoInverse⟩,⟨C_ByNought,PySem.W.mg_of X G zc_ByNought,ze_ByNought,zs_ByNought⟩,⟨C_NoMeet,PySem.W.mg_of X G zc_NoMeet,ze_NoMeet,zs_NoMeet⟩,⟨C_NoParts,PySem.W.mg_of X G zc_NoParts,ze_NoParts,zs_NoParts⟩,⟨C_NotPlain,PySem.W.mg_of X G zc_NotPlain,ze_NotPlain,zs_NotPlain⟩,(.own (PySem.W.mg_of X G zc_NoInverse) (PySem.W.mg_of X G zc_AlgebraError) (kitCls_of zd_AlgebraError zt_AlgebraError zp0) (.own (PySem.W.mg_of X G zc_NoInverse) (PySem.W.mg_of X G zc_ByNought) (kitCls_of zd_ByNought zt_ByNought zp1) (.own (PySem.W.mg_of X G zc_NoInverse) (PySem.W.mg_of X G zc_NoParts) (kitCls_of zd_NoParts zt_NoParts zp2) (.own (PySem.W.mg_of X G zc_NoInverse) (PySem.W.mg_of X G zc_NoPrime) (kitCls_of zd_NoPrime zt_NoPrime zp3) (.own (PySem.W.mg_of X G zc_NoInverse) (PySem.W.mg_of X G zc_NoRing) (kitCls_of zd_NoRing zt_NoRing zp4) (.own (PySem.W.mg_of X G zc_NoInverse) (PySem.W.mg_of X G zc_NotPlain) (kitCls_of zd_NotPlain zt_NotPlain zp5) (.own (PySem.W.mg_of X G zc_NoInverse) (PySem.W.mg_of X G zc_NoMeet) (kitCls_of zd_NoMeet zt_NoMeet zp6) (.blt (PySem.W.mg_of X G zc_NoInverse) (PySem.W.mg_none_of X G zb_ValueError) bt_ValueError zp7 (.own (PySem.W.mg_of X G zc_NoRing) (PySem.W.mg_of X G zc_AlgebraError) (kitCls_of zd_AlgebraError zt_AlgebraError zp8) (.own (PySem.W.mg_of X G zc_NoRing) (PySem.W.mg_of X G zc_ByNought) (kitCls_of zd_ByNought zt_ByNought zp9) (.own (PySem.W.mg_of X G zc_NoRing) (PySem.W.mg_of X G zc_NoParts) (kitCls_of zd_NoParts zt_NoParts zp10) (.own (PySem.W.mg_of X G zc_NoRing) (PySem.W.mg_of X G zc_NoPrime) (kitCls_of zd_NoPrime zt_NoPrime zp11) (.own (PySem.W.mg_of X G zc_NoRing) (PySem.W.mg_of X G zc_NoRing) (kitCls_of zd_NoRing zt_NoRing zp12) (.own (PySem.W.mg_of X G zc_NoRing) (PySem.W.mg_of X G zc_NotPlain) (kitCls_of zd_NotPlain zt_NotPlain zp13) (.own (PySem.W.mg_of X G zc_NoRing) (PySem.W.mg_of X G zc_NoMeet) (kitCls_of zd_NoMeet zt_NoMeet zp14) (.blt (PySem.W.mg_of X G zc_NoRing) (PySem.W.mg_none_of X G zb_ValueError) bt_ValueError zp15 (.own (PySem.W.mg_of X G zc_NoPrime) (PySem.W.mg_of X G zc_AlgebraError) (kitCls_of zd_AlgebraError zt_AlgebraError zp16) (.own (PySem.W.mg_of X G zc_NoPrime) (PySem.W.mg_of X G zc_ByNought) (kitCls_of zd_ByNought zt_ByNought zp17) (.own (PySem.W.mg_of X G zc_NoPrime) (PySem.W.mg_of X G zc_NoParts) (kitCls_of zd_NoParts zt_NoParts zp18) (.own (PySem.W.mg_of X G zc_NoPrime) (PySem.W.mg_of X G zc_NoPrime) (kitCls_of zd_NoPrime zt_NoPrime zp19) (.own (PySem.W.mg_of X G zc_NoPrime) (PySem.W.mg_of X G zc_NoRing) (kitCls_of zd_NoRing zt_NoRing zp20) (.own (PySem.W.mg_of X G zc_NoPrime) (PySem.W.mg_of X G zc_NotPlain) (kitCls_of zd_NotPlain zt_NotPlain zp21) (.own (PySem.W.mg_of X G zc_NoPrime) (PySem.W.mg_of X G zc_NoMeet) (kitCls_of zd_NoMeet zt_NoMeet zp22) (.blt (PySem.W.mg_of X G zc_NoPrime) (PySem.W.mg_none_of X G zb_ValueError) bt_ValueError zp23 (.own (PySem.W.mg_of X G zc_NoMeet) (PySem.W.mg_of X G zc_AlgebraError) (kitCls_of zd_AlgebraError zt_AlgebraError zp24) (.own (PySem.W.mg_of X G zc_NoMeet) (PySem.W.mg_of X G zc_ByNought) (kitCls_of zd_ByNought zt_ByNought zp25) (.own (PySem.W.mg_of X G zc_NoMeet) (PySem.W.mg_of X G zc_NoParts) (kitCls_of zd_NoParts zt_NoParts zp26) (.own (PySem.W.mg_of X G zc_NoMeet) (PySem.W.mg_of X G zc_NoPrime) (kitCls_of zd_NoPrime zt_NoPrime zp27) (.own (PySem.W.mg_of X G zc_NoMeet) (PySem.W.mg_of X G zc_NoRing) (kitCls_of zd_NoRing zt_NoRing zp28) (.own (PySem.W.mg_of X G zc_NoMeet) (PySem.W.mg_of X G zc_NotPlain) (kitCls_of zd_NotPlain zt_NotPlain zp29) (.own (PySem.W.mg_of X G zc_NoMeet) (PySem.W.mg_of X G zc_NoMeet) (kitCls_of zd_NoMeet zt_NoMeet zp30) (.blt (PySem.W.mg_of X G zc_NoMeet) (PySem.W.mg_none_of X G zb_ValueError) bt_ValueError zp31 .nil)))))))))))))))))))))))))))))))),known_of (fun c hc => by
  simp only [kn,List.mem_cons,List.mem_nil_iff,or_false] at hc
  rcases hc with rfl | rfl | rfl | rfl
  ·exact ⟨C_NoInverse,PySem.W.mg_of X G zc_NoInverse,ze_NoInverse,zs_NoInverse⟩
  ·exact ⟨C_NoRing,PySem.W.mg_of X G zc_NoRing,ze_NoRing,zs_NoRing⟩
  ·exact ⟨C_NoPrime,PySem.W.mg_of X G zc_NoPrime,ze_NoPrime,zs_NoPrime⟩
  ·exact ⟨C_NoMeet,PySem.W.mg_of X G zc_NoMeet,ze_NoMeet,zs_NoMeet⟩),(.cons (PySem.W.mg_of X G zc_NoInverse) zq_NoInverse (.cons (PySem.W.mg_of X G zc_NoRing) zq_NoRing (.cons (PySem.W.mg_of X G zc_NoPrime) zq_NoPrime (.cons (PySem.W.mg_of X G zc_NoMeet) zq_NoMeet .nil))))⟩
 have H_is_whole:=fun (base:Heap) => ok_is_whole (P:=l.prog) (w:=w) (base:=base) (fun_mk (st:=top 12) l0 c0 k0) (PySem.W.mg_of X G a0) T
 have H_is_prime_within:=fun (base:Heap) => ok_is_prime_within (P:=l.prog) (w:=w) (base:=base) (fun_mk (st:=top 13) l1 c1 k1) (PySem.W.mg_of X G a1) T
 have H_signed_unit:=fun (base:Heap) => ok_signed_unit (P:=l.prog) (w:=w) (base:=base) (fun_mk (st:=top 17) l2 c2 k2) (PySem.W.mg_of X G a2) T
 have H_whole_inverse:=fun (base:Heap) => ok_whole_inverse (P:=l.prog) (w:=w) (base:=base) (fun_mk (st:=top 20) l3 c3 k3) (PySem.W.mg_of X G a3) T
 have H_row_of_rests:=fun (base:Heap) => ok_row_of_rests (P:=l.prog) (w:=w) (base:=base) (fun_mk (st:=top 22) l4 c4 k4) (PySem.W.mg_of X G a4) T
 have H_with_noughts:=fun (base:Heap) => ok_with_noughts (P:=l.prog) (w:=w) (base:=base) (fun_mk (st:=top 24) l5 c5 k5) (PySem.W.mg_of X G a5) T
 have H__law_cell_at:=fun (base:Heap) => ok__law_cell_at (P:=l.prog) (w:=w) (base:=base) (fun_mk (st:=top 33) l6 c6 k6) (PySem.W.mg_of X G a6) T
 have H__law_whole:=fun (base:Heap) => ok__law_whole (P:=l.prog) (w:=w) (base:=base) (fun_mk (st:=top 34) l7 c7 k7) (PySem.W.mg_of X G a7) T
 have H__law_prime_by:=fun (base:Heap) => ok__law_prime_by (P:=l.prog) (w:=w) (base:=base) (fun_mk (st:=top 35) l8 c8 k8) (PySem.W.mg_of X G a8) T
 have H__law_cut:=fun (base:Heap) => ok__law_cut (P:=l.prog) (w:=w) (base:=base) (fun_mk (st:=top 36) l9 c9 k9) (PySem.W.mg_of X G a9) T
 have H__law_own:=fun (base:Heap) => ok__law_own (P:=l.prog) (w:=w) (base:=base) (fun_mk (st:=top 44) l10 c10 k10) (PySem.W.mg_of X G a10) T
 have H_is_ring:=fun (base:Heap) => ok_is_ring (P:=l.prog) (w:=w) (base:=base) (fun_mk (st:=top 14) l11 c11 k11) (PySem.W.mg_of X G a11) T (H_is_whole base) (H_is_prime_within base)
 have H_shared:=fun (base:Heap) => ok_shared (P:=l.prog) (w:=w) (base:=base) (fun_mk (st:=top 18) l12 c12 k12) (PySem.W.mg_of X G a12) T (H_signed_unit base)
 have H_row_with_multiple:=fun (base:Heap) => ok_row_with_multiple (P:=l.prog) (w:=w) (base:=base) (fun_mk (st:=top 23) l13 c13 k13) (PySem.W.mg_of X G a13) T (H_row_of_rests base) (H_with_noughts base)
 have H_row_product:=fun (base:Heap) => ok_row_product (P:=l.prog) (w:=w) (base:=base) (fun_mk (st:=top 25) l14 c14 k14) (PySem.W.mg_of X G a14) T (H_row_of_rests base)
 have H_row_multiple:=fun (base:Heap) => ok_row_multiple (P:=l.prog) (w:=w) (base:=base) (fun_mk (st:=top 26) l15 c15 k15) (PySem.W.mg_of X G a15) T (H_row_of_rests base)
 have H__law_drawn:=fun (base:Heap) => ok__law_drawn (P:=l.prog) (w:=w) (base:=base) (fun_mk (st:=top 37) l16 c16 k16) (PySem.W.mg_of X G a16) T (H__law_cut base)
 have H__law_is_row:=fun (base:Heap) => ok__law_is_row (P:=l.prog) (w:=w) (base:=base) (fun_mk (st:=top 38) l17 c17 k17) (PySem.W.mg_of X G a17) T (H__law_whole base)
 have H__law_times:=fun (base:Heap) => ok__law_times (P:=l.prog) (w:=w) (base:=base) (fun_mk (st:=top 39) l18 c18 k18) (PySem.W.mg_of X G a18) T (H__law_cut base)
 have H__law_sum:=fun (base:Heap) => ok__law_sum (P:=l.prog) (w:=w) (base:=base) (fun_mk (st:=top 40) l19 c19 k19) (PySem.W.mg_of X G a19) T (H__law_cut base)
 have H_check_ring:=fun (base:Heap) => ok_check_ring (P:=l.prog) (w:=w) (base:=base) (fun_mk (st:=top 15) l20 c20 k20) (PySem.W.mg_of X G a20) T (H_is_ring base)
 have H_check_prime:=fun (base:Heap) => ok_check_prime (P:=l.prog) (w:=w) (base:=base) (fun_mk (st:=top 16) l21 c21 k21) (PySem.W.mg_of X G a21) T (H_is_ring base)
 have H__law_good:=fun (base:Heap) => ok__law_good (P:=l.prog) (w:=w) (base:=base) (fun_mk (st:=top 42) l22 c22 k22) (PySem.W.mg_of X G a22) T (H__law_is_row base) (H__law_times base) (H__law_sum base)
 have H__law_rows:=fun (base:Heap) => ok__law_rows (P:=l.prog) (w:=w) (base:=base) (fun_mk (st:=top 43) l23 c23 k23) (PySem.W.mg_of X G a23) T (H__law_cell_at base) (H__law_cut base) (H__law_drawn base) (H__law_times base)
 have H_inverse:=fun (base:Heap) => ok_inverse (P:=l.prog) (w:=w) (base:=base) (fun_mk (st:=top 19) l24 c24 k24) (PySem.W.mg_of X G a24) T (H_whole_inverse base) (H_shared base) (H_check_ring base)
 have H_parted:=fun (base:Heap) => ok_parted (P:=l.prog) (w:=w) (base:=base) (fun_mk (st:=top 28) l25 c25 k25) (PySem.W.mg_of X G a25) T (H_row_of_rests base) (H_inverse base)
 have H_triple_below:=fun (base:Heap) => ok_triple_below (P:=l.prog) (w:=w) (base:=base) (fun_mk (st:=top 31) l26 c26 k26) (PySem.W.mg_of X G a26) T (H_row_with_multiple base) (H_row_product base) (H_parted base)
 have H_met:=fun (base:Heap) => ok_met (P:=l.prog) (w:=w) (base:=base) (fun_mk (st:=top 30) l27 c27 k27) (PySem.W.mg_of X G a27) T (H_row_multiple base) (H_inverse base) (H_parted base) (H_triple_below base)
 have H_meet:=fun (base:Heap) => ok_meet (P:=l.prog) (w:=w) (base:=base) (fun_mk (st:=top 29) l28 c28 k28) (PySem.W.mg_of X G a28) T (H_check_prime base) (H_met base)
 have H__law_no_meet:=fun (base:Heap) => ok__law_no_meet (P:=l.prog) (w:=w) (base:=base) (fun_mk (st:=top 41) l29 c29 k29) (PySem.W.mg_of X G a29) T (H_meet base)
 refine ⟨PySem.W.fnOf "law" "law" (defArgs (top 45)) (defBody (top 45)) (defScope (top 45)) .none kV30 dc30 pm30 an30 cd30 ct30,fun s v => .of_eq rfl,fun base _ _ => ?_⟩
 exact (law_fn (fun_mk (st:=top 45) l30 c30 k30) T (H__law_cell_at base) (H__law_prime_by base) (H__law_own base) (H__law_good base) (H__law_rows base) (H_meet base) (H__law_no_meet base)).imp fun _ _ _ _ h => law_sp law_true h
end K16
open PySem PySem.W PyProof.Rows
set_option maxRecDepth 100000 in
set_option maxHeartbeats 0 in
theorem PySem.Challenge.cw_polyring_k16_met_holds : PySem.Challenge.rw_polyring_k16_met.Holds := by
 w_on; o_law; k_head; (case hw => w_witness2)
 k_fill
 refine MN.law_walk (l:=PySem.Challenge.rw_polyring_k16_met) (k:=10) (x:="_law_script") rfl rfl ⟨rfl,by decide,by decide⟩ (fun w h Y => PySem.W.kIn_of Y) ?F
 case F =>
  intro w mg fa h KX G hmg
  refine' K16.all_mk KX G hmg ?a0 ?l0 ?c0 ?k0 ?a1 ?l1 ?c1 ?k1 ?a2 ?l2 ?c2 ?k2 ?a3 ?l3 ?c3 ?k3 ?a4 ?l4 ?c4 ?k4 ?a5 ?l5 ?c5 ?k5 ?a6 ?l6 ?c6 ?k6 ?a7 ?l7 ?c7 ?k7 ?a8 ?l8 ?c8 ?k8 ?a9 ?l9 ?c9 ?k9 ?a10 ?l10 ?c10 ?k10 ?a11 ?l11 ?c11 ?k11 ?a12 ?l12 ?c12 ?k12 ?a13 ?l13 ?c13 ?k13 ?a14 ?l14 ?c14 ?k14 ?a15 ?l15 ?c15 ?k15 ?a16 ?l16 ?c16 ?k16 ?a17 ?l17 ?c17 ?k17 ?a18 ?l18 ?c18 ?k18 ?a19 ?l19 ?c19 ?k19 ?a20 ?l20 ?c20 ?k20 ?a21 ?l21 ?c21 ?k21 ?a22 ?l22 ?c22 ?k22 ?a23 ?l23 ?c23 ?k23 ?a24 ?l24 ?c24 ?k24 ?a25 ?l25 ?c25 ?k25 ?a26 ?l26 ?c26 ?k26 ?a27 ?l27 ?c27 ?k27 ?a28 ?l28 ?c28 ?k28 ?a29 ?l29 ?c29 ?k29 ?a30 ?l30 ?c30 ?k30 ?zb_ValueError ?zb_abs ?zb_all ?zb_bool ?zb_enumerate ?zb_int ?zb_isinstance ?zb_len ?zb_list ?zb_max ?zb_range ?zb_tuple ?zb_zip ?zg_MOST_RING ?zg_FIRST_PRIMES ?zl_FIRST_PRIMES ?zc_AlgebraError ?zd_AlgebraError ?zt_AlgebraError ?ze_AlgebraError ?zs_AlgebraError ?zc_NoRing ?zd_NoRing ?zt_NoRing ?ze_NoRing ?zs_NoRing ?zc_NoPrime ?zd_NoPrime ?zt_NoPrime ?ze_NoPrime ?zs_NoPrime ?zc_NoInverse ?zd_NoInverse ?zt_NoInverse ?ze_NoInverse ?zs_NoInverse ?zc_ByNought ?zd_ByNought ?zt_ByNought ?ze_ByNought ?zs_ByNought ?zc_NoMeet ?zd_NoMeet ?zt_NoMeet ?ze_NoMeet ?zs_NoMeet ?zc_NoParts ?zd_NoParts ?zt_NoParts ?ze_NoParts ?zs_NoParts ?zc_NotPlain ?zd_NotPlain ?zt_NotPlain ?ze_NotPlain ?zs_NotPlain ?zp0 ?zp1 ?zp2 ?zp3 ?zp4 ?zp5 ?zp6 ?zp7 ?zp8 ?zp9 ?zp10 ?zp11 ?zp12 ?zp13 ?zp14 ?zp15 ?zp16 ?zp17 ?zp18 ?zp19 ?zp20 ?zp21 ?zp22 ?zp23 ?zp24 ?zp25 ?zp26 ?zp27 ?zp28 ?zp29 ?zp30 ?zp31 ?zq_NoInverse ?zq_NoRing ?zq_NoPrime ?zq_NoMeet
  (case a0 => k_is)
  (case l0 => k_is)
  (case c0 => k_is)
  (case k0 => k_is)
  (case a1 => k_is)
  (case l1 => k_is)
  (case c1 => k_is)
  (case k1 => k_is)
  (case a2 => k_is)
  (case l2 => k_is)
  (case c2 => k_is)
  (case k2 => k_is)
  (case a3 => k_is)
  (case l3 => k_is)
  (case c3 => k_is)
  (case k3 => k_is)
  (case a4 => k_is)
  (case l4 => k_is)
  (case c4 => k_is)
  (case k4 => k_is)
  (case a5 => k_is)
  (case l5 => k_is)
  (case c5 => k_is)
  (case k5 => k_is)
  (case a6 => k_is)
  (case l6 => k_is)
  (case c6 => k_is)
  (case k6 => k_is)
  (case a7 => k_is)
  (case l7 => k_is)
  (case c7 => k_is)
  (case k7 => k_is)
  (case a8 => k_is)
  (case l8 => k_is)
  (case c8 => k_is)
  (case k8 => k_is)
  (case a9 => k_is)
  (case l9 => k_is)
  (case c9 => k_is)
  (case k9 => k_is)
  (case a10 => k_is)
  (case l10 => k_is)
  (case c10 => k_is)
  (case k10 => k_is)
  (case a11 => k_is)
  (case l11 => k_is)
  (case c11 => k_is)
  (case k11 => k_is)
  (case a12 => k_is)
  (case l12 => k_is)
  (case c12 => k_is)
  (case k12 => k_is)
  (case a13 => k_is)
  (case l13 => k_is)
  (case c13 => k_is)
  (case k13 => k_is)
  (case a14 => k_is)
  (case l14 => k_is)
  (case c14 => k_is)
  (case k14 => k_is)
  (case a15 => k_is)
  (case l15 => k_is)
  (case c15 => k_is)
  (case k15 => k_is)
  (case a16 => k_is)
  (case l16 => k_is)
  (case c16 => k_is)
  (case k16 => k_is)
  (case a17 => k_is)
  (case l17 => k_is)
  (case c17 => k_is)
  (case k17 => k_is)
  (case a18 => k_is)
  (case l18 => k_is)
  (case c18 => k_is)
  (case k18 => k_is)
  (case a19 => k_is)
  (case l19 => k_is)
  (case c19 => k_is)
  (case k19 => k_is)
  (case a20 => k_is)
  (case l20 => k_is)
  (case c20 => k_is)
  (case k20 => k_is)
  (case a21 => k_is)
  (case l21 => k_is)
  (case c21 => k_is)
  (case k21 => k_is)
  (case a22 => k_is)
  (case l22 => k_is)
  (case c22 => k_is)
  (case k22 => k_is)
  (case a23 => k_is)
  (case l23 => k_is)
  (case c23 => k_is)
  (case k23 => k_is)
  (case a24 => k_is)
  (case l24 => k_is)
  (case c24 => k_is)
  (case k24 => k_is)
  (case a25 => k_is)
  (case l25 => k_is)
  (case c25 => k_is)
  (case k25 => k_is)
  (case a26 => k_is)
  (case l26 => k_is)
  (case c26 => k_is)
  (case k26 => k_is)
  (case a27 => k_is)
  (case l27 => k_is)
  (case c27 => k_is)
  (case k27 => k_is)
  (case a28 => k_is)
  (case l28 => k_is)
  (case c28 => k_is)
  (case k28 => k_is)
  (case a29 => k_is)
  (case l29 => k_is)
  (case c29 => k_is)
  (case k29 => k_is)
  (case a30 => k_is)
  (case l30 => k_is)
  (case c30 => k_is)
  (case k30 => k_is)
  (case zb_ValueError => k_is)
  (case zb_abs => k_is)
  (case zb_all => k_is)
  (case zb_bool => k_is)
  (case zb_enumerate => k_is)
  (case zb_int => k_is)
  (case zb_isinstance => k_is)
  (case zb_len => k_is)
  (case zb_list => k_is)
  (case zb_max => k_is)
  (case zb_range => k_is)
  (case zb_tuple => k_is)
  (case zb_zip => k_is)
  (case zg_MOST_RING => k_is)
  (case zg_FIRST_PRIMES => k_is)
  (case zl_FIRST_PRIMES => k_is)
  (case zc_AlgebraError => k_is)
  (case zd_AlgebraError => k_is)
  (case zt_AlgebraError => k_is)
  (case ze_AlgebraError => k_exc)
  (case zs_AlgebraError => k_is)
  (case zc_NoRing => k_is)
  (case zd_NoRing => k_is)
  (case zt_NoRing => k_is)
  (case ze_NoRing => k_exc)
  (case zs_NoRing => k_is)
  (case zc_NoPrime => k_is)
  (case zd_NoPrime => k_is)
  (case zt_NoPrime => k_is)
  (case ze_NoPrime => k_exc)
  (case zs_NoPrime => k_is)
  (case zc_NoInverse => k_is)
  (case zd_NoInverse => k_is)
  (case zt_NoInverse => k_is)
  (case ze_NoInverse => k_exc)
  (case zs_NoInverse => k_is)
  (case zc_ByNought => k_is)
  (case zd_ByNought => k_is)
  (case zt_ByNought => k_is)
  (case ze_ByNought => k_exc)
  (case zs_ByNought => k_is)
  (case zc_NoMeet => k_is)
  (case zd_NoMeet => k_is)
  (case zt_NoMeet => k_is)
  (case ze_NoMeet => k_exc)
  (case zs_NoMeet => k_is)
  (case zc_NoParts => k_is)
  (case zd_NoParts => k_is)
  (case zt_NoParts => k_is)
  (case ze_NoParts => k_exc)
  (case zs_NoParts => k_is)
  (case zc_NotPlain => k_is)
  (case zd_NotPlain => k_is)
  (case zt_NotPlain => k_is)
  (case ze_NotPlain => k_exc)
  (case zs_NotPlain => k_is)
  (case zp0 => first | k_is | kit_is)
  (case zp1 => first | k_is | kit_is)
  (case zp2 => first | k_is | kit_is)
  (case zp3 => first | k_is | kit_is)
  (case zp4 => first | k_is | kit_is)
  (case zp5 => first | k_is | kit_is)
  (case zp6 => first | k_is | kit_is)
  (case zp7 => first | k_is | kit_is)
  (case zp8 => first | k_is | kit_is)
  (case zp9 => first | k_is | kit_is)
  (case zp10 => first | k_is | kit_is)
  (case zp11 => first | k_is | kit_is)
  (case zp12 => first | k_is | kit_is)
  (case zp13 => first | k_is | kit_is)
  (case zp14 => first | k_is | kit_is)
  (case zp15 => first | k_is | kit_is)
  (case zp16 => first | k_is | kit_is)
  (case zp17 => first | k_is | kit_is)
  (case zp18 => first | k_is | kit_is)
  (case zp19 => first | k_is | kit_is)
  (case zp20 => first | k_is | kit_is)
  (case zp21 => first | k_is | kit_is)
  (case zp22 => first | k_is | kit_is)
  (case zp23 => first | k_is | kit_is)
  (case zp24 => first | k_is | kit_is)
  (case zp25 => first | k_is | kit_is)
  (case zp26 => first | k_is | kit_is)
  (case zp27 => first | k_is | kit_is)
  (case zp28 => first | k_is | kit_is)
  (case zp29 => first | k_is | kit_is)
  (case zp30 => first | k_is | kit_is)
  (case zp31 => first | k_is | kit_is)
  (case zq_NoInverse => first | k_is | kit_is | rfl | decide +kernel)
  (case zq_NoRing => first | k_is | kit_is | rfl | decide +kernel)
  (case zq_NoPrime => first | k_is | kit_is | rfl | decide +kernel)
  (case zq_NoMeet => first | k_is | kit_is | rfl | decide +kernel)
