import PyProof.Rows.All
import Wide.All
import OpenK.AllK
import Wide.FinOn
import Lean
import PyProof.EqAt
import PyProof.EqKinds
import PyProof.TupleCall
import PyProof.NeKinds
import PyProof.ZipIter
import PyProof.FitsBits
import KE.KRevIter
import KE.KStateDown
import PyProof.Rows.Range3
import PyProof.EnumFor
import PyProof.EnumMake
import PyProof.EnumStmt
import PyProof.Rows.SumAny
import PyProof.ListIndex
import PyProof.ListIndexNeg
import PyProof.WalkInts
import PyProof.Conv_int_bool
import PyProof.SumAny
import KE.KLam
import PyProof.Rows.FactsN_abs
import PyProof.ExcBaseAll.ValueError
import KE.KIsAll
import PyProof.ExcAttrAll.ValueError
import KE.KSortTup
import KE.KDictList
import PyProof.Rows.SortRuns
import KE.KDictOf
import PyProof.AttrMissHeap
import PyProof.DictRoadsH
import PyProof.Seq
import PyProof.ConsumeS
import PySem.Challenge.RW_polyring_k27_quotients
set_option Elab.async false
set_option maxRecDepth 100000
set_option maxHeartbeats 4000000
set_option compiler.extract_closed false
set_option genSizeOf false
-- NC: Rw Qw module here,as xT last of Qx rows
namespace L2
open PySem PySem.Spec PyProof.Rows
noncomputable abbrev Key:=Sum Int Str
noncomputable def pX:Key->Value->Bool
 | .inl k,v=>Value.isInt k v
 | .inr x,v=>Value.isStrOf x v
noncomputable def ND (w:World):Key->Int
 | .inl k=>hashInt k
 | .inr x=>hashStr w x
theorem cu:∀ {k:Key} {v:Value},pX k v=true->(∃ i t,k=Sum.inl i/\v=Value.int i t)\/(∃ x t,k=Sum.inr x/\v=Value.str x t)
 | .inl i,v,h=>by
  obtain ⟨t,e⟩:=Value.isInt_shape (k:=i) (v:=v) h
  exact .inl ⟨i,t,rfl,e⟩
 | .inr x,v,h=>by
  obtain ⟨t,e⟩:=Value.isStrOf_shape (x:=x) (v:=v) h
  exact .inr ⟨x,t,rfl,e⟩
theorem xU (i:Int) (t:Tok):pX (.inl i) (.int i t)=true:=by simp [pX,Value.isInt]
theorem xV (x:Str) (t:Tok):pX (.inr x) (.str x t)=true:=by simp [pX,Value.isStrOf]
theorem Gp (a b:Int):decide ((Sum.inl a:Key)=Sum.inl b)=(a==b):=by
 by_cases e:a=b
 ·subst e; simp
 ·have h:¬ (Sum.inl a:Key)=Sum.inl b:=fun q=>e (Sum.inl.inj q)
  rw [decide_eq_false h]
  exact (beq_eq_false_iff_ne.mpr e).symm
theorem Gq (a b:Str):decide ((Sum.inr a:Key)=Sum.inr b)=decide (a=b):=by
 by_cases e:a=b
 ·subst e; simp
 ·have h:¬ (Sum.inr a:Key)=Sum.inr b:=fun q=>e (Sum.inr.inj q)
  rw [decide_eq_false h,decide_eq_false e]
theorem Gr (a:Int) (b:Str):decide ((Sum.inl a:Key)=Sum.inr b)=false:=decide_eq_false (fun q=>nomatch q)
theorem Gu (a:Str) (b:Int):decide ((Sum.inr a:Key)=Sum.inl b)=false:=decide_eq_false (fun q=>nomatch q)
noncomputable def cg (prog:Program) (w:World):PySem.KeyKind prog w Key where
 is:=pX
 hash:=ND w
 inj:=fun v a b ha hb=>by
  rcases cu ha with ⟨i,t,rfl,rfl⟩ | ⟨x,t,rfl,rfl⟩
  ·rcases cu hb with ⟨j,u,rfl,e⟩ | ⟨y,u,rfl,e⟩
   ·injection e with e1 _; rw [e1]
   ·exact nomatch e
  ·rcases cu hb with ⟨j,u,rfl,e⟩ | ⟨y,u,rfl,e⟩
   ·exact nomatch e
   ·injection e with e1 _; rw [e1]
 byValue:=fun k v h=>by
  rcases cu h with ⟨i,t,rfl,rfl⟩ | ⟨x,t,rfl,rfl⟩ <;> rfl
 pyHash:=fun hv h=>by
  rcases cu hv with ⟨i,t,rfl,rfl⟩ | ⟨x,t,rfl,rfl⟩
  ·exact wpAny_pyHash_int h
  ·exact wpAny_pyHash_str h
 eqBool:=fun hu hv h=>by
  rcases cu hu with ⟨i,t,rfl,rfl⟩ | ⟨x,t,rfl,rfl⟩
  ·rcases cu hv with ⟨j,u,rfl,rfl⟩ | ⟨y,u,rfl,rfl⟩
   ·rw [Gp] at h; exact wpAny_eqBool_int h
   ·rw [Gr] at h; exact SeqAt.EqAt.int_str i t y u _ _ _ _ h
  ·rcases cu hv with ⟨j,u,rfl,rfl⟩ | ⟨y,u,rfl,rfl⟩
   ·rw [Gu] at h; exact SeqAt.EqAt.str_int x t j u _ _ _ _ h
   ·rw [Gq] at h; exact wpAny_eqBool_str h
 «strs»:=fun k x t v h=>by
  rcases cu h with ⟨i,u,rfl,e⟩ | ⟨y,u,rfl,e⟩
  ·exact nomatch e
  ·injection e with e1 _
   subst e1
   cases v <;> rfl
theorem sV (prog:Program) (w:World) (i:Int) (t:Tok):(cg prog w).is (.inl i) (.int i t)=true:=xU i t
theorem sW (prog:Program) (w:World) (x:Str) (t:Tok):(cg prog w).is (.inr x) (.str x t)=true:=xV x t
inductive V where
 | bD | bl (b:Bool) | int (i:Int) | str (x:Str) | NF (b:Array UInt8) | nh (b:UInt64) | ref (a:Addr) | ty (n:String)
 deriving DecidableEq
noncomputable def RelV:V->Value->Prop
 | .bD,u=>u=Value.none
 | .bl b,u=>u=Value.bool b
 | .int i,u=>∃ t,u=Value.int i t
 | .str x,u=>∃ t,u=Value.str x t
 | .NF b,u=>∃ t,u=Value.bytes b t
 | .nh b,u=>∃ t,u=Value.float b t
 | .ref a,u=>u=Value.ref a
 | .ty n,u=>u=Value.type n
noncomputable abbrev Vals:List V->List Value->Prop:=Paired RelV
theorem Vals.length {xs:List V} {us:List Value} (r:Vals xs us):xs.length=us.length:=Paired.length r
theorem Vals.get:∀ {xs:List V} {us:List Value} {i:Nat} {x:V},Vals xs us->xs[i]?=some x->∃ u,us[i]?=some u/\RelV x u
 | _,_,_,_,.nil,e=>by simp at e
 | _,_,0,_,.cons r _,e=>by simp at e; subst e; exact ⟨_,rfl,r⟩
 | _,_,i+1,x,.cons _ t,e=>by
  obtain ⟨u,h1,h2⟩:=Vals.get (i:=i) (x:=x) t (by simpa using e)
  exact ⟨u,by simpa using h1,h2⟩
theorem Vals.append:∀ {xs ys:List V} {us ws:List Value},Vals xs us->Vals ys ws->Vals (xs++ys) (us++ws)
 | _,_,_,_,.nil,s=>s
 | _,_,_,_,.cons r t,s=>.cons r (Vals.append t s)
theorem Vals.take:∀ {xs:List V} {us:List Value} (n:Nat),Vals xs us->Vals (xs.take n) (us.take n)
 | _,_,0,_=>.nil
 | _,_,_+1,.nil=>.nil
 | _,_,n+1,.cons r t=>.cons r (Vals.take n t)
theorem Vals.drop:∀ {xs:List V} {us:List Value} (n:Nat),Vals xs us->Vals (xs.drop n) (us.drop n)
 | _,_,0,r=>r
 | _,_,_+1,.nil=>.nil
 | _,_,n+1,.cons _ t=>Vals.drop n t
noncomputable def j5:Option V->Option Value->Prop
 | some v,some u=>RelV v u
 | none,none=>True
 | _,_=>False
noncomputable def KV {κ:Type}:List (κ × V)->List (κ × Value)->Prop:=Paired fun (p:κ × V) (q:κ × Value)=>p.1=q.1/\RelV p.2 q.2
noncomputable def kV:Key->V
 | .inl i=>.int i
 | .inr x=>.str x
inductive HO where
  | lst (xs:List V)
  | tup (xs:List V)
  | dK (az:List (Key × V)) | dT (az:List (List Key × V))
  | set (S:Int->Bool) (n:Nat)
  | ins (C dx:Addr) (fs:List (Str × V))
  | own (x:Addr)
  | xd (fs:List (Str × V))
  | met (f x:Addr)
  | MK (lo hi:Int)
  | jY (o:Obj) (u:HO)
  | CA (ps:Array Value)
  | ext (φ:Heap->Prop)
noncomputable abbrev Hp:=Addr->Option HO
noncomputable def upd (H:Hp) (a:Addr) (o:HO):Hp:=fun b=>if b=a then some o else H b
theorem bU {H:Hp} {a:Addr} {o:HO}:upd H a o a=some o:=by unfold upd; rw [if_pos rfl]
theorem aU {H:Hp} {a b:Addr} {o:HO} (h:b≠a):upd H a o b=H b:=by unfold upd; rw [if_neg h]
theorem Ft {H:Hp} {a b:Addr} {o u:HO} (h:H a=some o) (h':H b=some u) (d:o≠u):a≠b:=by
 intro e; subst e; rw [h] at h'; exact d (Option.some.inj h')
theorem ba {H:Hp} {a b:Addr} {o:HO} (h:H a=some o) (h':H b=none):a≠b:=by
 intro e; subst e; rw [h] at h'; cases h'
section
variable (P:Program) (w:World)
noncomputable def bx (H:Hp) (h:Heap) (a:Addr):HO->Prop
 | .lst xs=>xs.length<=sizeLine/\∃ (aD:List Value) (n:Nat),Vals xs aD/\h.get? a=some { cls:=.type "list",data:=.seq aD.toArray n }
 | .tup xs=>xs.length<=sizeLine/\∃ aD:List Value,Vals xs aD/\IsTup h a aD.toArray
 | .dK az=>az.length<=sizeLine/\(a==sysModules)=false/\∃ vs,KV az vs/\h.DictOf (cg P w) a vs
 | .dT az=>az.length<=sizeLine/\(a==sysModules)=false/\∃ xs:List (List Key × Addr × Value),
   Paired (fun (p:List Key × V) (q:List Key × Addr × Value)=>p.1=q.1/\H q.2.1=some (.tup (p.1.map kV))/\RelV p.2 q.2.2) az xs /\
   ∃ o es ep,h.get? a=some o/\o.ExactDict/\o.data=.dict es ep/\es.toList=xs.map (entryOfKey (tupleKind (cg P w)))/\(xs.map (·.1)).Nodup
 | .set S n=>h.SetOf (intKind P w) a S n
 | .ins C dx fs=>H dx=some (.own a)/\fs.length<=1000/\dx≠a/\h.get? a=some (PySem.W.instObj C dx) /\
   ∃ mA,h.Ns1 dx mA/\(∀ f,j5 (fs.lookup f) (mA f))/\PySem.Within mA (fs.map (·.1))
 | .own _=>∃ o,h.get? a=some o
 | .xd fs=>∃ mA,h.Ns1 a mA/\∀ f,j5 (fs.lookup f) (mA f)
 | .MK lo hi=>∃ t u v,h.get? a=some { cls:=.type "range",data:=.fields #[.int lo t,.int hi u,.int 1 v] }
 | .jY o u=>h.get? a=some o/\bx H h a u
 | .CA ps=>h.get? a=some { cls:=.none,data:=.fields ps }
 | .met f x=>h.get? a=some (PySem.W.methodObj (.ref f) (.ref x))
 | .ext φ=>φ h/\(∃ o,h.get? a=some o)/\∀ h1 h2:Heap,φ h1->(∀ o,h1.get? a=some o->h2.get? a=some o)->φ h2
noncomputable def iE (H:Hp) (h:Heap):Prop:=∀ a o,H a=some o->bx P w H h a o
end
section
variable {P:Program} {w:World} {H H':Hp} {h h':Heap} {a:Addr} {o:HO}
theorem bx.lt (x:bx P w H h a o):a<h.objs.size:=by
 cases o with
 | lst xs=>obtain ⟨_,_,_,_,e⟩:=x; exact Heap.lt_size e
 | tup xs=>obtain ⟨_,_,_,p⟩:=x; exact p.lt
 | dK az=>obtain ⟨_,_,_,_,o,_,_,e,_⟩:=x; exact Heap.lt_size e
 | dT az=>obtain ⟨_,_,_,_,o,_,_,e,_⟩:=x; exact Heap.lt_size e
 | set S n=>obtain ⟨o,_,_,_,e,_⟩:=x; exact Heap.lt_size e
 | ins C dx fs=>obtain ⟨_,_,_,e,_⟩:=x; exact Heap.lt_size e
 | own y=>obtain ⟨_,e⟩:=x; exact Heap.lt_size e
 | xd fs=>obtain ⟨_,⟨_,_,_,e,_⟩,_⟩:=x; exact Heap.lt_size e
 | MK lo hi=>obtain ⟨_,_,_,e⟩:=x; exact Heap.lt_size e
 | jY ob u=>obtain ⟨e,_⟩:=x; exact Heap.lt_size e
 | CA ps=>exact Heap.lt_size (show h.get? a=some _ from x)
 | met f y=>exact Heap.lt_size (show h.get? a=some _ from x)
 | ext φ=>obtain ⟨_,⟨_,e⟩,_⟩:=x; exact Heap.lt_size e
theorem Paired.Gv {α β:Type} {F G:α->β->Prop}:∀ {l₁:List α} {l₂:List β},Paired F l₁ l₂->(∀ a b,F a b->G a b)->Paired G l₁ l₂
 | _,_,.nil,_=>.nil
 | _,_,.cons r t,f=>.cons (f _ _ r) (Paired.Gv t f)
theorem bx.mM (x:bx P w H h a o) (k:∀ b u,(b=a\/H b=some (.own a))->h.get? b=some u->h'.get? b=some u)
  (ho:∀ b,H b=some (.own a)->H' b=some (.own a)) (ht:∀ b xs,H b=some (.tup xs)->H' b=some (.tup xs)):bx P w H' h' a o:=by
 induction o with
 | lst xs=>obtain ⟨z,aD,n,r,e⟩:=x; exact ⟨z,aD,n,r,k _ _ (.inl rfl) e⟩
 | tup xs=>obtain ⟨z,aD,r,ob,e,c⟩:=x; exact ⟨z,aD,r,ob,k _ _ (.inl rfl) e,c⟩
 | dK az=>obtain ⟨z,y,vs,r,ob,es,ep,e,c⟩:=x; exact ⟨z,y,vs,r,ob,es,ep,k _ _ (.inl rfl) e,c⟩
 | dT az=>
  obtain ⟨z,y,xs,r,ob,es,ep,e,c⟩:=x
  exact ⟨z,y,xs,Paired.Gv r fun p q z=>⟨z.1,ht _ _ z.2.1,z.2.2⟩,ob,es,ep,k _ _ (.inl rfl) e,c⟩
 | set S n=>obtain ⟨ob,es,ep,t,e,c⟩:=x; exact ⟨ob,es,ep,t,k _ _ (.inl rfl) e,c⟩
 | ins C dx fs=>
  obtain ⟨d,z,ne,e,mA,⟨od,es,ep,e2,c⟩,r⟩:=x
  exact ⟨ho _ d,z,ne,k _ _ (.inl rfl) e,mA,⟨od,es,ep,k _ _ (.inr d) e2,c⟩,r⟩
 | own y=>obtain ⟨ob,e⟩:=x; exact ⟨ob,k _ _ (.inl rfl) e⟩
 | xd fs=>obtain ⟨mA,⟨od,es,ep,e,c⟩,r⟩:=x; exact ⟨mA,⟨od,es,ep,k _ _ (.inl rfl) e,c⟩,r⟩
 | MK lo hi=>obtain ⟨t,u,v,e⟩:=x; exact ⟨t,u,v,k _ _ (.inl rfl) e⟩
 | jY ob u ih=>obtain ⟨e,q⟩:=x; exact ⟨k _ _ (.inl rfl) e,ih q⟩
 | CA ps=>
  have e:h.get? a=some { cls:=.none,data:=.fields ps }:=x
  show h'.get? a=some { cls:=.none,data:=.fields ps }
  exact k a _ (.inl rfl) e
 | met f y=>
  have e:h.get? a=some (PySem.W.methodObj (.ref f) (.ref y)):=x
  show h'.get? a=some (PySem.W.methodObj (.ref f) (.ref y))
  exact k a _ (.inl rfl) e
 | ext φ=>obtain ⟨p,⟨o,e⟩,st⟩:=x; exact ⟨st _ _ p fun o q=>k _ _ (.inl rfl) q,⟨o,k _ _ (.inl rfl) e⟩,st⟩
theorem iE.lt (x:iE P w H h) (e:H a=some o):a<h.objs.size:=(x a o e).lt
theorem iE.fresh (x:iE P w H h) (e:h.objs.size<=a):H a=none:=by
 cases q:H a with
 | none=>rfl
 | some u=>exact absurd (Nat.lt_of_lt_of_le (x.lt q) e) (Nat.lt_irrefl _)
theorem iE.kept (x:iE P w H h) (k:∀ b u,h.get? b=some u->h'.get? b=some u):iE P w H h':=fun a o e=>
 (x a o e).mM (fun b u _ q=>k b u q) (fun _ q=>q) fun _ _ q=>q
theorem iE.laid (x:iE P w H h) (k:∀ b u,h.get? b=some u->h'.get? b=some u) (hp:h.objs.size<=a) (new:bx P w (upd H a o) h' a o):iE P w (upd H a o) h':=fun b u e=>by
 have hn:=x.fresh hp
 by_cases hb:b=a
 ·subst hb; rw [bU] at e; cases e; exact new
 ·rw [aU hb] at e
  exact (x b u e).mM (fun c v _ q=>k c v q) (fun c q=>by rw [aU (ba q hn)]; exact q) fun c xs q=>by rw [aU (ba q hn)]; exact q
end
noncomputable def Rd (H:Hp) (a:Addr) (u:HO):Prop:=H a=some u\/∃ o,H a=some (.jY o u)
theorem Rd.ok {P:Program} {w:World} {H:Hp} {h:Heap} {a:Addr} {u:HO} (r:Rd H a u) (x:iE P w H h):bx P w H h a u:=by
 rcases r with r | ⟨o,r⟩
 ·exact x a u r
 ·obtain ⟨_,q⟩:=x a _ r
  exact q
noncomputable def JT:Option HO->Prop
 | some (.lst _)=>True
 | some (.dK _)=>True
 | some (.dT _)=>True
 | some (.set _ _)=>True
 | some (.ins _ _ _)=>True
 | some (.ext _)=>True
 | _=>False
section
variable {P:Program} {w:World} {H:Hp} {h h':Heap} {x e:Addr} {o':HO}
theorem iE.write (ok:iE P w H h) (mu:JT (H x)) (he:e=x\/H e=some (.own x)) (k:∀ b u,b≠e->h.get? b=some u->h'.get? b=some u) (Jp:∃ u,h'.get? e=some u)
  (new:bx P w (upd H x o') h' x o'):iE P w (upd H x o') h':=fun b u q=>by
 have JU:∀ c y,H c=some (.own y)->c≠x:=fun c y r z=>by subst z; rw [r] at mu; exact mu
 have NG:∀ c xs,H c=some (.tup xs)->c≠x:=fun c xs r z=>by subst z; rw [r] at mu; exact mu
 by_cases hb:b=x
 ·subst hb; rw [bU] at q; cases q; exact new
 ·rw [aU hb] at q
  by_cases Gw:b=e
  ·have q':H b=some (.own x):=by
    rcases he with z | z
    ·exact absurd (Gw.trans z) hb
    ·rw [Gw]; exact z
   rw [q] at q'; cases q'
   obtain ⟨v,hv⟩:=Jp
   exact ⟨v,by rw [Gw]; exact hv⟩
  ·refine (ok b u q).mM (fun c v hc r=>k c v ?_ r) (fun c r=>by rw [aU (JU c b r)]; exact r) fun c xs r=>by rw [aU (NG c xs r)]; exact r
   rcases hc with rfl | hc
   ·exact Gw
   ·rintro rfl
    rcases he with z | z
    ·exact JU c b hc z
    ·rw [hc] at z; cases z; exact hb rfl
end
structure Un (fs ex:List Addr) (H H':Hp) (h h':Heap):Prop where
 keep:∀ b o,h.get? b=some o->H b=none->b ∉ fs->b ∉ ex->h'.get? b=some o
 slot:∀ b o,h.get? b=some o->H b=none->b∈fs->b ∉ ex->∃ sl,h'.get? b=some { o with slots:=sl }
 free:∀ b o,h.get? b=some o->H b=none->b ∉ ex->H' b=none
 there:∀ b o,h.get? b=some o->b ∉ ex->∃ o',h'.get? b=some o'
 jE:∀ b xs,H b=some (.tup xs)->H' b=some (.tup xs)
 jn:∀ b o u,H b=some (.jY o u)->H' b=some (.jY o u)
 j6:∀ b ps,H b=some (.CA ps)->∃ more,H' b=some (.CA (ps++more))
section
variable {fs Rx ex Ua:List Addr} {H H1 H2:Hp} {h h1 h2 h':Heap} {a x e:Addr} {o:HO}
theorem Un.any (u:Un fs ex H H1 h h1) {b:Addr} {ob:Obj} (q:h.get? b=some ob) (n:H b=none) (hx:b ∉ ex):∃ sl,h1.get? b=some { ob with slots:=sl }:=by
 by_cases hb:b∈fs
 ·exact u.slot b ob q n hb hx
 ·exact ⟨ob.slots,u.keep b ob q n hb hx⟩
theorem Un.kept (k:∀ b u,h.get? b=some u->h'.get? b=some u):Un fs ex H H h h':=
 ⟨fun b ob q _ _ _=>k b ob q,fun b ob q _ _ _=>⟨ob.slots,k b ob q⟩,fun _ _ _ n _=>n,fun b ob q _=>⟨ob,k b ob q⟩,fun _ _ q=>q,fun _ _ _ q=>q,fun _ ps q=>⟨#[],by rw [q]; simp⟩⟩
theorem Un.refl:Un fs ex H H h h:=Un.kept fun _ _ q=>q
theorem Un.laid (k:∀ b u,h.get? b=some u->h'.get? b=some u) (hp:h.objs.size<=a) (hn:H a=none):Un fs ex H (upd H a o) h h' where
 keep:=fun b u q _ _ _=>k b u q
 slot:=fun b u q _ _ _=>⟨u.slots,k b u q⟩
 free:=fun b u q n _=>by rw [aU (Nat.ne_of_lt (Nat.lt_of_lt_of_le (Heap.lt_size q) hp))]; exact n
 there:=fun b u q _=>⟨u,k b u q⟩
 jE:=fun b xs q=>by rw [aU (ba q hn)]; exact q
 jn:=fun b u xs q=>by rw [aU (ba q hn)]; exact q
 j6:=fun b ps q=>⟨#[],by rw [aU (ba q hn),q]; simp⟩
theorem Un.write (mu:JT (H x)) (he:e=x\/H e=some (.own x)) (k:∀ b u,b≠e->h.get? b=some u->h'.get? b=some u) (Jp:∃ u,h'.get? e=some u):Un fs ex H (upd H x o) h h':=by
 have hx:∀ b,H b=none->b≠x:=fun b n z=>by subst z; rw [n] at mu; exact mu
 have hb:∀ b,H b=none->b≠e:=fun b n z=>by
  subst z
  rcases he with r | r
  ·exact hx b n r
  ·rw [n] at r; cases r
 have hm:∀ b u,H b=some u->¬ JT (some u)->b≠x:=fun b u q nm z=>by subst z; rw [q] at mu; exact nm mu
 refine ⟨fun b u q n _ _=>k b u (hb b n) q,fun b u q n _ _=>⟨u.slots,k b u (hb b n) q⟩,fun b u q n _=>by rw [aU (hx b n)]; exact n,fun b u q _=>?_,
  fun b xs q=>by rw [aU (hm b _ q fun z=>z)]; exact q,fun b u xs q=>by rw [aU (hm b _ q fun z=>z)]; exact q,fun b ps q=>⟨#[],by rw [aU (hm b _ q fun z=>z),q]; simp⟩⟩
 by_cases Gw:b=e
 ·subst Gw; exact Jp
 ·exact ⟨u,k b u Gw q⟩
end
noncomputable def wB (h:Heap) (H:Hp):List Addr:=(List.range h.objs.size).filter fun a=>(H a).isSome
noncomputable def qR (h:Heap) (H:Hp):Heap:=PySem.W.hideAll h (wB h H)
theorem xW (h:Heap) (H:Hp):(qR h H).objs.size=h.objs.size:=PySem.W.hideAll_size _ _
theorem zF {h:Heap} {H:Hp} {b:Addr} {o:Obj} (e:h.get? b=some o) (n:H b=none):(qR h H).get? b=some o:=
 PySem.W.hideAll_get _ e fun hm=>by
  have q:(H b).isSome=true:=(List.mem_filter.mp hm).2
  rw [n] at q; simp at q
theorem CY {h:Heap} {H:Hp} {b:Addr} {o:Obj} (e:(qR h H).get? b=some o):h.get? b=some o/\H b=none:=by
 have e':h.get? b=some o:=PySem.W.of_hideAll (wB h H) e
 refine ⟨e',?_⟩
 cases q:H b with
 | none=>rfl
 | some x=>
  have hm:b∈wB h H:=List.mem_filter.mpr ⟨List.mem_range.mpr (Heap.lt_size e'),by simp [q]⟩
  have z:(qR h H).get? b=none:=PySem.W.hideAll_none (wB h H) hm
  rw [z] at e; cases e
structure Mod (K:PySem.W.Frag) (mg:Str->Option Value) (base:Heap):Prop where
 Fu:K.In base
 glob:base.Ns mainGlobals mg
 blt:∃ mb,base.Ns builtinsNs mb/\∀ x:Str,x ≠ "__name__" -> mb x=bootBuiltins x
 nolimit:base.NoLimit
structure Cx where
 prog:Program
 w:World
 K:PySem.W.Frag
 mg:Str->Option Value
 base:Heap
 A:Around
 N:List Str
 s₀:Shared
 H₀:Hp
 env:Env
 outer:List Env
 stack:List Env
 ex:List Addr
 fn:Str->Bool
 calm:Bool
 pn:List (Addr × Obj)
 xe:Value->Shared->Prop
noncomputable def fK (l:List Env):List Addr:=l.filterMap (·.frame)
noncomputable abbrev Cx.fs (X:Cx):List Addr:=fK X.outer
noncomputable def CZ (sc:Scope) (x:Str):Prop:=sc.names.lookup x=some .local\/sc.names.lookup x=some .cell\/sc.names.lookup x=some .free
noncomputable def Loc (sc:Scope) (x:Str):Prop:=sc.names.lookup x=some .local\/sc.names.lookup x=some .cell
noncomputable def Look (env:Env) (h:Heap) (m:Str->Option Value) (x:Str) (u:Value):Prop:=
 (env.kindOf x=some .local/\m x=some u)\/((env.kindOf x=some .cell\/env.kindOf x=some .free)/\∃ c,env.cells.lookup x=some c/\h.IsCell c (some u))
structure Cx.Ok (X:Cx):Prop where
 mod:Mod X.K X.mg X.base
 kind:X.env.scope.kind=.function
 glob:X.env.globals=mainGlobals
 blt:X.env.builtins=builtinsNs
 above:X.s₀.heap.objs.size<=X.env.locals
 inj:∀ x y c,X.env.cells.lookup x=some c->X.env.cells.lookup y=some c->x=y
 has:∀ x,(X.env.kindOf x=some .cell\/X.env.kindOf x=some .free)->∃ c,X.env.cells.lookup x=some c
 Fv:∀ x c,X.fn x=true->X.env.cells.lookup x=some c->X.s₀.heap.objs.size<=c
 hd:X.calm=true->X.A.handled=none
 frames:X.A.frames=some X.stack
 CB:X.stack=X.outer\/(X.stack=X.env::X.outer/\X.env.frame=some X.env.locals)
 ML:∀ b∈X.ex,b≠X.env.locals/\∀ x c,X.env.cells.lookup x=some c->c≠b
 bs:∀ b o,X.base.get? b=some o->X.s₀.heap.get? b=some o/\X.H₀ b=none
 CC:X.base.objs.size<=X.s₀.heap.objs.size
 sZ:∀ b o,X.base.get? b=some o->b ∉ X.ex
 xX:∀ b∈X.ex,b ∉ X.fs
 iN:X.s₀.heap.FunFrames X.base X.outer
 zB:∀ b∈X.fs,X.H₀ b=none
structure Inv (X:Cx) (pins:List (Addr × Obj)) (σ:List (Option V)) (H:Hp) (s:Shared):Prop where
 ok:X.Ok
 os:s.os=X.s₀.os
 bare:AllBare s.gens
 base:Un X.fs X.ex X.H₀ H X.s₀.heap s.heap
 loc:∃ m,s.heap.Ns X.env.locals m/\∀ (i:Nat) (x:Str) (v:V),X.N[i]?=some x->σ[i]?=some (some v)->CZ X.env.scope x->∃ u,RelV v u/\Look X.env s.heap m x u
 cell:∀ x c,X.env.cells.lookup x=some c->∃ v,s.heap.IsCell c v
 free:H X.env.locals=none
 fN:∀ x c,X.env.cells.lookup x=some c->H c=none
 pin:∀ p∈X.pn++pins,s.heap.get? p.1=some p.2/\H p.1=none/\p.1≠X.env.locals/\p.1 ∉ X.fs/\∀ v,p.2.data≠.cell v
 bK:iE X.prog X.w H s.heap
 len:σ.length=X.N.length
section
variable {X:Cx} {pins:List (Addr × Obj)} {σ:List (Option V)} {H H':Hp} {s:Shared} {h':Heap}
theorem Cx.Ok.NH (ok:X.Ok) {b:Addr} {o:Obj} (e:X.base.get? b=some o):b ∉ X.fs:=fun hb=>by
 have:=(ok.iN.mem hb).1
 rw [e] at this; cases this
theorem Inv.bs (I:Inv X pins σ H s):∀ b o,X.base.get? b=some o->s.heap.get? b=some o/\H b=none:=fun b o e=>
 ⟨I.base.keep b o (I.ok.bs b o e).1 (I.ok.bs b o e).2 (I.ok.NH e) (I.ok.sZ b o e),I.base.free b o (I.ok.bs b o e).1 (I.ok.bs b o e).2 (I.ok.sZ b o e)⟩
theorem Inv.bk (I:Inv X pins σ H s):∀ b o,X.base.get? b=some o->s.heap.get? b=some o:=fun b o e=>(I.bs b o e).1
theorem Inv.mod (I:Inv X pins σ H s):Mod X.K X.mg X.base:=I.ok.mod
theorem Inv.lY (I:Inv X pins σ H s):X.K.In s.heap:=I.ok.mod.Fu.keeps I.bk
theorem Inv.lt (I:Inv X pins σ H s):X.env.locals<s.heap.objs.size:=let ⟨_,hn,_⟩:=I.loc; hn.lt
theorem Inv.sz (I:Inv X pins σ H s):X.s₀.heap.objs.size<=s.heap.objs.size:=Nat.le_trans I.ok.above (Nat.le_of_lt I.lt)
theorem Inv.NI (I:Inv X pins σ H s) {a:Addr} (h:s.heap.objs.size<=a):a ∉ X.fs:=fun hb=>by
 obtain ⟨_,o,ho,_⟩:=I.ok.iN.mem hb
 exact absurd (Nat.lt_of_lt_of_le (Heap.lt_size ho) (Nat.le_trans I.sz h)) (Nat.lt_irrefl _)
theorem Inv.CD (I:Inv X pins σ H s):∀ x c,X.env.cells.lookup x=some c->c≠X.env.locals:=fun x c e z=>by
 obtain ⟨v,o,ho,hd⟩:=I.cell x c e
 obtain ⟨m,⟨o',es,ep,uT,NJ,_⟩,_⟩:=I.loc
 rw [z,uT] at ho; cases ho; rw [NJ] at hd; cases hd
theorem Inv.iN (I:Inv X pins σ H s):s.heap.FunFrames X.base X.outer:=by
 have all:∀ (l:List Env),(∀ b∈fK l,b∈X.fs)->X.s₀.heap.FunFrames X.base l->s.heap.FunFrames X.base l:=by
  intro l
  induction l with
  | nil=>intro _ _; trivial
  | cons env r ih=>
   intro hs hl
   obtain ⟨hk,⟨L,o,hf,hn,ho,hd⟩,hr⟩:=hl
   have hL:L∈X.fs:=hs L (by unfold fK; rw [List.filterMap_cons,hf]; exact List.mem_cons_self)
   obtain ⟨sl,e⟩:=I.base.slot L o ho (I.ok.zB L hL) hL fun z=>I.ok.xX L z hL
   exact ⟨hk,⟨L,_,hf,hn,e,hd⟩,ih (fun b hb=>hs b (by unfold fK; rw [List.filterMap_cons,hf]; exact List.mem_cons_of_mem _ hb)) hr⟩
 exact all X.outer (fun _ hb=>hb) I.ok.iN
theorem Inv.stack (I:Inv X pins σ H s):s.heap.FunFrames X.base X.stack:=by
 rcases I.ok.CB with e | ⟨e,hf⟩
 ·rw [e]; exact I.iN
 ·rw [e]
  obtain ⟨m,hn,_⟩:=I.loc
  refine .cons (by rw [I.ok.kind]; decide) hf hn ?_ I.iN
  exact Heap.get?_none_of_le (Nat.le_trans I.ok.CC I.ok.above)
theorem Inv.kU (I:Inv X pins σ H s):∀ b∈fK X.stack,b∈X.env.locals::X.fs:=fun b hb=>by
 rcases I.ok.CB with e | ⟨e,hf⟩
 ·rw [e] at hb; exact List.mem_cons_of_mem _ hb
 ·rw [e] at hb
  unfold fK at hb
  rw [List.filterMap_cons,hf] at hb
  exact hb
theorem Inv.qS (I:Inv X pins σ H s):∀ b∈fK X.stack,H b=none:=fun b hb=>by
 rcases List.mem_cons.mp (I.kU b hb) with e | hb
 ·rw [e]; exact I.free
 ·obtain ⟨_,o,ho,_⟩:=I.ok.iN.mem hb
  exact I.base.free b o ho (I.ok.zB b hb) fun z=>I.ok.xX b z hb
theorem Inv.step {g':Array GenState} {t':Nat} {d':Drawn} {ch:List Addr} (I:Inv X pins σ H s)
  (CF:∀ b∈ch,(b∈X.ex\/X.s₀.heap.objs.size<=b)/\b≠X.env.locals/\(∀ x c,X.env.cells.lookup x=some c->c≠b)/\∀ p∈X.pn++pins,p.1≠b)
  (keep:∀ b o,b≠X.env.locals->b ∉ X.fs->b ∉ ch->s.heap.get? b=some o->H b=none->h'.get? b=some o)
  (slot:∀ b o,b≠X.env.locals->b∈X.fs->b ∉ ch->s.heap.get? b=some o->H b=none->∃ sl,h'.get? b=some { o with slots:=sl }) (free:∀ b o,b ∉ ch->s.heap.get? b=some o->H b=none->H' b=none)
  (there:∀ b o,b ∉ ch->s.heap.get? b=some o->∃ o',h'.get? b=some o')
  (jE:∀ b xs,H b=some (.tup xs)->H' b=some (.tup xs)) (jn:∀ b o u,H b=some (.jY o u)->H' b=some (.jY o u)) (j6:∀ b ps,H b=some (.CA ps)->∃ more,H' b=some (.CA (ps++more)))
  (ns:∀ m,s.heap.Ns X.env.locals m->h'.Ns X.env.locals m) (bK:iE X.prog X.w H' h') (hg:AllBare g') :
  Inv X pins σ H' { s with heap:=h',gens:=g',drawn:=d',toks:=t' }:=by
 have zG:∀ b o,X.s₀.heap.get? b=some o->b≠X.env.locals:=fun b o e=>Nat.ne_of_lt (Nat.lt_of_lt_of_le (Heap.lt_size e) I.ok.above)
 have MM:∀ b o,X.s₀.heap.get? b=some o->b ∉ X.ex->b ∉ ch:=fun b o e hx hb=>by
  rcases (CF b hb).1 with z | z
  ·exact hx z
  ·exact absurd (Nat.lt_of_lt_of_le (Heap.lt_size e) z) (Nat.lt_irrefl _)
 have cellK:∀ x c,X.env.cells.lookup x=some c->∀ v,s.heap.IsCell c v->h'.IsCell c v:=fun x c e v ⟨o,ho,hd⟩=>by
  have JV:c ∉ ch:=fun z=>(CF c z).2.2.1 x c e rfl
  by_cases hc:c∈X.fs
  ·obtain ⟨sl,q⟩:=slot c o (I.CD x c e) hc JV ho (I.fN x c e)
   exact ⟨_,q,hd⟩
  ·exact ⟨o,keep c o (I.CD x c e) hc JV ho (I.fN x c e),hd⟩
 refine ⟨I.ok,I.os,hg,⟨fun b o e n hb hx=>?_,fun b o e n hb hx=>?_,fun b o e n hx=>?_,fun b o e hx=>?_,fun b xs e=>jE b xs (I.base.jE b xs e),fun b o xs e=>jn b o xs (I.base.jn b o xs e),fun b ps e=>?_⟩,?_,fun x c e=>?_,?_,fun x c e=>?_,fun p hp=>?_,bK,I.len⟩
 ·exact keep b o (zG b o e) hb (MM b o e hx) (I.base.keep b o e n hb hx) (I.base.free b o e n hx)
 ·obtain ⟨sl,e1⟩:=I.base.slot b o e n hb hx
  obtain ⟨Fw,e2⟩:=slot b _ (zG b o e) hb (MM b o e hx) e1 (I.base.free b o e n hx)
  exact ⟨Fw,e2⟩
 ·obtain ⟨o',e1⟩:=I.base.there b o e hx
  exact free b o' (MM b o e hx) e1 (I.base.free b o e n hx)
 ·obtain ⟨o',e1⟩:=I.base.there b o e hx
  exact there b o' (MM b o e hx) e1
 ·obtain ⟨m1,e1⟩:=I.base.j6 b ps e
  obtain ⟨m2,e2⟩:=j6 b _ e1
  exact ⟨m1++m2,by rw [e2,Array.append_assoc]⟩
 ·obtain ⟨m,hn,hl⟩:=I.loc
  refine ⟨m,ns m hn,fun i x v e1 e2 e3=>?_⟩
  obtain ⟨u,r,l⟩:=hl i x v e1 e2 e3
  refine ⟨u,r,?_⟩
  rcases l with l | ⟨k,c,e,z⟩
  ·exact .inl l
  ·exact .inr ⟨k,c,e,cellK x c e _ z⟩
 ·obtain ⟨v,z⟩:=I.cell x c e
  exact ⟨v,cellK x c e v z⟩
 ·obtain ⟨m,⟨o,_,_,ho,_⟩,_⟩:=I.loc
  exact free _ o (fun z=>(CF _ z).2.1 rfl) ho I.free
 ·obtain ⟨v,o,ho,hd⟩:=I.cell x c e
  exact free c o (fun z=>(CF c z).2.2.1 x c e rfl) ho (I.fN x c e)
 ·obtain ⟨e,n,ne,nf,d⟩:=I.pin p hp
  have JV:p.1 ∉ ch:=fun z=>(CF p.1 z).2.2.2 p hp rfl
  exact ⟨keep p.1 p.2 ne nf JV e n,free p.1 p.2 JV e n,ne,nf,d⟩
theorem Inv.un {t':Nat} (I:Inv X pins σ H s) (u:Un X.fs [] H H' s.heap h') (bK:iE X.prog X.w H' h'):Inv X pins σ H' { s with heap:=h',toks:=t' }:=by
 obtain ⟨m,⟨o,es,ep,ho,r⟩,_⟩:=id I.loc
 obtain ⟨sl,hL⟩:=u.any ho I.free (by simp)
 exact I.step (g':=s.gens) (d':=s.drawn) (ch:=[]) (fun _ z=>nomatch z) (fun b o _ hb _ e n=>u.keep b o e n hb (by simp)) (fun b o _ hb _ e n=>u.slot b o e n hb (by simp)) (fun b o _ e n=>u.free b o e n (by simp)) (fun b o _ e=>u.there b o e (by simp)) u.jE u.jn u.j6 (fun m' hm=>by
  obtain ⟨o',NK,NL,uT,r'⟩:=hm
  rw [ho] at uT; cases uT
  exact ⟨_,NK,NL,hL,r'⟩) bK I.bare
theorem Inv.call {g':Array GenState} {t':Nat} {d':Drawn} {ch:List Addr} (I:Inv X pins σ H s) (u:Un (fK X.stack) ch H H' s.heap h') (bK:iE X.prog X.w H' h') (hg:AllBare g')
  (CF:∀ b∈ch,(b∈X.ex\/X.s₀.heap.objs.size<=b)/\b≠X.env.locals/\(∀ x c,X.env.cells.lookup x=some c->c≠b)/\∀ p∈X.pn++pins,p.1≠b) :
  Inv X pins σ H' { s with heap:=h',gens:=g',drawn:=d',toks:=t' }:=by
 obtain ⟨m,⟨o,es,ep,ho,r⟩,_⟩:=id I.loc
 obtain ⟨sl,hL⟩:=u.any ho I.free fun z=>(CF _ z).2.1 rfl
 exact I.step (ch:=ch) CF (fun b o hL hb hc e n=>u.keep b o e n (fun z=>(List.mem_cons.mp (I.kU b z)).elim hL hb) hc) (fun b o _ _ hc e n=>u.any e n hc) (fun b o hc e n=>u.free b o e n hc) (fun b o hc e=>u.there b o e hc) u.jE u.jn u.j6 (fun m' hm=>by
  obtain ⟨o',NK,NL,uT,r'⟩:=hm
  rw [ho] at uT; cases uT
  exact ⟨_,NK,NL,hL,r'⟩) bK hg
theorem Inv.turned {t':Nat} {it:Addr} (I:Inv X pins σ H s) (k:∀ b o,b≠it->s.heap.get? b=some o->h'.get? b=some o) (hn:H it=none) (hL:it≠X.env.locals)
  (h1:it∈X.ex\/X.s₀.heap.objs.size<=it) (h2:∀ x c,X.env.cells.lookup x=some c->c≠it) (h3:∀ p∈X.pn++pins,p.1≠it):Inv X pins σ H { s with heap:=h',toks:=t' }:=by
 have Qy:∀ b u,H b=some u->b≠it:=fun b u e z=>by rw [z,hn] at e; cases e
 refine I.step (g':=s.gens) (d':=s.drawn) (ch:=[it]) (fun b hb=>?_) (fun b o _ _ hc e _=>k b o (fun z=>hc (by simp [z])) e) (fun b o _ _ hc e _=>⟨o.slots,k b o (fun z=>hc (by simp [z])) e⟩) (fun _ _ _ _ n=>n)
  (fun b o hc e=>⟨o,k b o (fun z=>hc (by simp [z])) e⟩) (fun _ _ e=>e) (fun _ _ _ e=>e) (fun b ps e=>⟨#[],by rw [e]; simp⟩) (fun m hm=>?_) (fun b u e=>?_) I.bare
 ·have e:b=it:=by simpa using hb
  subst e
  exact ⟨h1,hL,h2,h3⟩
 ·obtain ⟨o,es,ep,ho,r⟩:=hm
  exact ⟨o,es,ep,k _ o (Ne.symm hL) ho,r⟩
 ·refine (I.bK b u e).mM (fun c v hc q=>k c v ?_ q) (fun _ q=>q) fun _ _ q=>q
  rcases hc with z | z
  ·rw [z]; exact Qy b u e
  ·exact Qy c _ z
theorem Inv.tok (I:Inv X pins σ H s) (t:Nat):Inv X pins σ H { s with toks:=t }:=I.un (h':=s.heap) (t':=t) Un.refl I.bK
theorem Inv.kept {t':Nat} (I:Inv X pins σ H s) (k:∀ b u,s.heap.get? b=some u->h'.get? b=some u):Inv X pins σ H { s with heap:=h',toks:=t' }:=I.un (Un.kept k) (I.bK.kept k)
theorem Inv.laid {a:Addr} {o:HO} {t':Nat} (I:Inv X pins σ H s) (k:∀ b u,s.heap.get? b=some u->h'.get? b=some u) (hp:s.heap.objs.size<=a) (new:bx X.prog X.w (upd H a o) h' a o) :
  Inv X pins σ (upd H a o) { s with heap:=h',toks:=t' }:=I.un (Un.laid k hp (I.bK.fresh hp)) (I.bK.laid k hp new)
theorem Inv.write {x e:Addr} {o:HO} {t':Nat} (I:Inv X pins σ H s) (mu:JT (H x)) (he:e=x\/H e=some (.own x)) (k:∀ b u,b≠e->s.heap.get? b=some u->h'.get? b=some u) (Jp:∃ u,h'.get? e=some u)
  (new:bx X.prog X.w (upd H x o) h' x o):Inv X pins σ (upd H x o) { s with heap:=h',toks:=t' }:=I.un (Un.write mu he k Jp) (I.bK.write mu he k Jp new)
theorem Inv.ni {Fx:List (Addr × Obj)} (I:Inv X pins σ H s) (h:∀ p∈Fx,s.heap.get? p.1=some p.2/\H p.1=none/\p.1≠X.env.locals/\p.1 ∉ X.fs/\∀ v,p.2.data≠.cell v):Inv X Fx σ H s:=
 ⟨I.ok,I.os,I.bare,I.base,I.loc,I.cell,I.free,I.fN,fun p hp=>(List.mem_append.mp hp).elim (fun z=>I.pin p (List.mem_append_left _ z)) (h p),I.bK,I.len⟩
theorem nA {N:List Str} (hN:N.Nodup) {i j:Nat} {x:Str} (a:N[i]?=some x) (b:N[j]?=some x):i=j:=by
 obtain ⟨h1,e1⟩:=List.getElem?_eq_some_iff.mp a
 obtain ⟨h2,e2⟩:=List.getElem?_eq_some_iff.mp b
 exact (List.getElem_inj hN).mp (e1.trans e2.symm)
theorem pZ {M:Model} {A:Around} {E:Value->Shared->Prop} {i:Nat} {x:Str} {v:V} {u:Value} {Q:Unit->Shared->Prop} (I:Inv X pins σ H s) (hN:X.N.Nodup) (hi:X.N[i]?=some x) (hx:Loc X.env.scope x) (r:RelV v u)
  (h:∀ s',Inv X pins (σ.set i (some v)) H s'->(∃ a,Heap.SameBut a s.heap s'.heap/\(a=X.env.locals\/X.env.cells.lookup x=some a))->Q () s') (hf:X.fn x=true\/X.env.scope.names.lookup x=some .local:=by first | exact .inl rfl | exact .inr rfl | assumption):wpAny M A (storeName X.env x u) Q E s:=by
 obtain ⟨m,hn,hl⟩:=id I.loc
 have zH:(X.env.scope.kind == .class || (X.env.scope.kind == .module&&X.env.locals !=X.env.globals))=false:=by rw [I.ok.kind]; rfl
 have JW:i<σ.length:=by rw [I.len]; exact (List.getElem?_eq_some_iff.mp hi).1
 have CD:=I.CD
 have tracked:∀ {a:Addr} {h':Heap},(∃ o,s.heap.get? a=some o/\H a=none)->Heap.SameBut a s.heap h'->iE X.prog X.w H h':=fun {a h'} ha hs b ob e=>by
  obtain ⟨_,_,wC⟩:=ha
  refine (I.bK b ob e).mM (fun c w' hc q=>(hs.2 c ?_).trans q) (fun _ q=>q) fun _ _ q=>q
  rintro rfl
  rcases hc with rfl | hc
  ·rw [wC] at e; cases e
  ·rw [wC] at hc; cases hc
 rcases hx with hk | hk
 ·refine wpAny_storeName_local hk hn (fun h' Jq hs=>?_) zH
  obtain ⟨oL,_,_,Ry,_⟩:=id hn
  refine h _ ⟨I.ok,I.os,I.bare,⟨fun b o e n hb hx=>?_,fun b o e n hb hx=>?_,I.base.free,fun b o e hx=>?_,I.base.jE,I.base.jn,I.base.j6⟩,⟨_,Jq,fun j y v' e1 e2 e3=>?_⟩,fun y c e=>?_,I.free,I.fN,fun p hp=>?_,tracked ⟨oL,Ry,I.free⟩ hs,by simpa using I.len⟩ ⟨_,hs,.inl rfl⟩
  ·exact (hs.2 b (Nat.ne_of_lt (Nat.lt_of_lt_of_le (Heap.lt_size e) I.ok.above))).trans (I.base.keep b o e n hb hx)
  ·obtain ⟨sl,e1⟩:=I.base.slot b o e n hb hx
   exact ⟨sl,(hs.2 b (Nat.ne_of_lt (Nat.lt_of_lt_of_le (Heap.lt_size e) I.ok.above))).trans e1⟩
  ·obtain ⟨o',e1⟩:=I.base.there b o e hx
   exact ⟨o',(hs.2 b (Nat.ne_of_lt (Nat.lt_of_lt_of_le (Heap.lt_size e) I.ok.above))).trans e1⟩
  ·by_cases hj:j=i
   ·subst hj
    rw [hi] at e1; cases e1
    rw [List.getElem?_set_self JW] at e2
    cases e2
    exact ⟨u,r,.inl ⟨hk,by simp⟩⟩
   ·rw [List.getElem?_set_ne (Ne.symm hj)] at e2
    obtain ⟨u',r',q⟩:=hl j y v' e1 e2 e3
    refine ⟨u',r',?_⟩
    rcases q with ⟨k,e⟩ | ⟨k,c,e,z⟩
    ·refine .inl ⟨k,?_⟩
     have:y≠x:=fun e=>hj (nA hN e1 (e ▸ hi))
     simp [this,e]
    ·exact .inr ⟨k,c,e,z.sameBut hs (CD y c e)⟩
  ·obtain ⟨w',z⟩:=I.cell y c e
   exact ⟨w',z.sameBut hs (CD y c e)⟩
  ·obtain ⟨e,n,ne,nf,d⟩:=I.pin p hp
   exact ⟨(hs.2 p.1 ne).trans e,n,ne,nf,d⟩
 ·have zI:X.fn x=true:=by
   rcases hf with z | z
   ·exact z
   ·rw [z] at hk; cases hk
  obtain ⟨c,hc⟩:=I.ok.has x (.inl hk)
  obtain ⟨w',z⟩:=I.cell x c hc
  refine wpAny_storeName_cell I.ok.kind hk hc z (fun h' d6 hs=>?_)
  obtain ⟨oc,Qz,NM⟩:=id z
  refine h { s with heap:=h' } ⟨I.ok,I.os,I.bare,⟨fun b o e n hb hx=>?_,fun b o e n hb hx=>?_,I.base.free,fun b o e hx=>?_,I.base.jE,I.base.jn,I.base.j6⟩,⟨m,hn.sameBut hs (Ne.symm (CD x c hc)),fun j y v' e1 e2 e3=>?_⟩,fun y c' e=>?_,I.free,I.fN,fun p hp=>?_,tracked ⟨oc,Qz,I.fN x c hc⟩ hs,by simpa using I.len⟩ ⟨c,hs,.inr hc⟩
  ·exact (hs.2 b (Nat.ne_of_lt (Nat.lt_of_lt_of_le (Heap.lt_size e) (I.ok.Fv x c zI hc)))).trans (I.base.keep b o e n hb hx)
  ·obtain ⟨sl,e1⟩:=I.base.slot b o e n hb hx
   exact ⟨sl,(hs.2 b (Nat.ne_of_lt (Nat.lt_of_lt_of_le (Heap.lt_size e) (I.ok.Fv x c zI hc)))).trans e1⟩
  ·obtain ⟨o',e1⟩:=I.base.there b o e hx
   exact ⟨o',(hs.2 b (Nat.ne_of_lt (Nat.lt_of_lt_of_le (Heap.lt_size e) (I.ok.Fv x c zI hc)))).trans e1⟩
  ·by_cases hj:j=i
   ·subst hj
    rw [hi] at e1; cases e1
    rw [List.getElem?_set_self JW] at e2
    cases e2
    exact ⟨u,r,.inr ⟨.inl hk,c,hc,d6⟩⟩
   ·rw [List.getElem?_set_ne (Ne.symm hj)] at e2
    obtain ⟨u',r',q⟩:=hl j y v' e1 e2 e3
    refine ⟨u',r',?_⟩
    rcases q with q | ⟨k,c',e,z'⟩
    ·exact .inl q
    ·refine .inr ⟨k,c',e,z'.sameBut hs ?_⟩
     rintro rfl
     exact hj (nA hN e1 (I.ok.inj _ _ _ e hc ▸ hi))
  ·by_cases JX:c'=c
   ·subst JX; exact ⟨_,d6⟩
   ·obtain ⟨w2,z2⟩:=I.cell y c' e
    exact ⟨w2,z2.sameBut hs JX⟩
  ·obtain ⟨e,n,ne,nf,d⟩:=I.pin p hp
   refine ⟨(hs.2 p.1 ?_).trans e,n,ne,nf,d⟩
   intro q
   rw [q,Qz] at e
   have q':oc=p.2:=Option.some.inj e
   exact d w' (by rw [<-q']; exact NM)
theorem nC {M:Model} {A:Around} {E:Value->Shared->Prop} {i:Nat} {x:Str} {v:V} {u:Value} {Q:Unit->Shared->Prop} (I:Inv X pins σ H s) (hN:X.N.Nodup) (hi:X.N[i]?=some x) (hx:Loc X.env.scope x) (r:RelV v u)
  (h:∀ s',Inv X pins (σ.set i (some v)) H s'->Q () s') (hf:X.fn x=true\/X.env.scope.names.lookup x=some .local:=by first | exact .inl rfl | exact .inr rfl | assumption):wpAny M A (storeName X.env x u) Q E s:=
 pZ I hN hi hx r (fun s' I' _=>h s' I') hf
theorem Inv.wD {s':Shared} {ch:List Addr} (I:Inv X pins σ H s) (ho:s'.os=s.os) (u:Un (fK X.stack) ch H H' s.heap s'.heap) (bK:iE X.prog X.w H' s'.heap) (hg:AllBare s'.gens)
  (CF:∀ b∈ch,(b∈X.ex\/X.s₀.heap.objs.size<=b)/\b≠X.env.locals/\(∀ x c,X.env.cells.lookup x=some c->c≠b)/\∀ p∈X.pn++pins,p.1≠b):Inv X pins σ H' s':=by
 obtain ⟨h',g',d',t',o'⟩:=s'
 have e:o'=s.os:=ho
 subst e
 exact I.call (g':=g') (t':=t') (d':=d') u bK hg CF
end
noncomputable abbrev XK:=Value->Option Addr->Hp->Prop
noncomputable abbrev St:=List (Option V)
noncomputable abbrev VK:=V->Hp->Prop
noncomputable abbrev TE:=St->Hp->VK->Prop
noncomputable abbrev TT:=St->Hp->(Bool->Hp->Prop)->Prop
noncomputable abbrev TA:=St->Hp->(List V->Hp->Prop)->Prop
structure Ends where
 nx:St->Hp->Prop
 rt:VK
 bk:St->Hp->Prop:=fun _ _=>False
 ct:St->Hp->Prop:=fun _ _=>False
noncomputable abbrev TS:=Ends->St->Hp->Prop
noncomputable def EP (X:Cx) (pins:List (Addr × Obj)) (σ:St) (Q:VK) (u:Value) (s':Shared):Prop:=∃ v H',Inv X pins σ H' s'/\RelV v u/\Q v H'
noncomputable def TP (X:Cx) (pins:List (Addr × Obj)) (σ:St) (Q:Bool->Hp->Prop) (b:Bool) (s':Shared):Prop:=∃ H',Inv X pins σ H' s'/\Q b H'
noncomputable def AP (X:Cx) (pins:List (Addr × Obj)) (σ:St) (Q:List V->Hp->Prop) (us:List Value) (s':Shared):Prop:=∃ vs H',Inv X pins σ H' s'/\Vals vs us/\Q vs H'
noncomputable def SP (X:Cx) (pins:List (Addr × Obj)) (D:Ends) (f:Flow) (s':Shared):Prop:=
 match f with
 | .next=>∃ σ' H',Inv X pins σ' H' s'/\D.nx σ' H'
 | .brk=>∃ σ' H',Inv X pins σ' H' s'/\D.bk σ' H'
 | .cont=>∃ σ' H',Inv X pins σ' H' s'/\D.ct σ' H'
 | .ret u=>∃ v σ' H',Inv X pins σ' H' s'/\RelV v u/\D.rt v H'
noncomputable def PE (X:Cx) (e:Expr) (t:TE):Prop:=
 ∀ (pins:List (Addr × Obj)) (s:Shared) (σ:St) (H:Hp) (Q:VK),Inv X pins σ H s->t σ H Q->wpAny (model X.prog X.w) X.A (eval e X.env) (EP X pins σ Q) X.xe s
noncomputable def PT (X:Cx) (e:Expr) (t:TT):Prop:=
 ∀ (pins:List (Addr × Obj)) (s:Shared) (σ:St) (H:Hp) (Q:Bool->Hp->Prop),Inv X pins σ H s->t σ H Q->wpAny (model X.prog X.w) X.A (isTrue e X.env (eval e X.env)) (TP X pins σ Q) X.xe s
noncomputable def PW (X:Cx) (e:Expr) (t:TT):Prop:=
 ∀ (whole:Sem Value) (pins:List (Addr × Obj)) (s:Shared) (σ:St) (H:Hp) (Q:Bool->Hp->Prop),Inv X pins σ H s->t σ H Q->wpAny (model X.prog X.w) X.A (isTrue e X.env whole) (TP X pins σ Q) X.xe s
theorem PW.pt {X:Cx} {e:Expr} {t:TT} (h:PW X e t):PT X e t:=h _
noncomputable def PA (X:Cx) (es:List Expr) (t:TA):Prop:=
 ∀ (pos:Pos) (pins:List (Addr × Obj)) (s:Shared) (σ:St) (H:Hp) (Q:List V->Hp->Prop),Inv X pins σ H s->t σ H Q->wpAny (model X.prog X.w) X.A (spliced (backTo pos (starEach es X.env))) (AP X pins σ Q) X.xe s
noncomputable def PS (X:Cx) (st:Stmt) (t:TS):Prop:=
 ∀ (pins:List (Addr × Obj)) (s:Shared) (σ:St) (H:Hp) (D:Ends),Inv X pins σ H s->t D σ H->wpAny (model X.prog X.w) X.A (exec st X.env) (SP X pins D) X.xe s
noncomputable def jZ (X:Cx) (st:List Stmt) (t:TS):Prop:=
 ∀ (pins:List (Addr × Obj)) (s:Shared) (σ:St) (H:Hp) (D:Ends),Inv X pins σ H s->t D σ H->wpAny (model X.prog X.w) X.A (execs st X.env) (SP X pins D) X.xe s
theorem cT {α:Type} {t:Sem α} {Q Q':α->Shared->Prop} {M:Model} {A:Around} {E:Value->Shared->Prop} {s:Shared} (h:wpAny M A t Q E s) (hQ:∀ a s,Q a s->Q' a s):wpAny M A t Q' E s:=wpAny_mono h hQ fun _ _ x=>x
section
variable {X:Cx}
noncomputable def NN (i:Nat):TE:=fun σ H Q=>∃ v,σ[i]?=some (some v)/\Q v H
noncomputable def tC (v:V):TE:=fun _ H Q=>Q v H
theorem qU {i:Nat} {x:Str} {pos:Pos} (hN:X.N[i]?=some x) (hv:CZ X.env.scope x) (hd:(x==("__debug__":Str))=false:=by decide) (nE:(x==("__classdict__":Str))=false:=by decide):PE X (.Name x pos) (NN i):=by
 intro pins s σ H Q I h
 obtain ⟨v,e,h⟩:=h
 obtain ⟨m,hn,hl⟩:=I.loc
 obtain ⟨u,r,l⟩:=hl i x v hN e hv
 have fin:EP X pins σ Q u s:=⟨v,H,I,r,h⟩
 rcases l with ⟨hk,hm⟩ | ⟨hk,c,hc,Fy⟩
 ·exact wpAny_Name (wpAny_loadName_local I.ok.kind hk hn hm fin) hd
 ·rcases hk with hk | hk
  ·exact wpAny_Name (wpAny_loadName_cell I.ok.kind hk hc Fy fin) hd
  ·exact wpAny_Name (wpAny_loadName_free I.ok.kind hk hc Fy fin nE) hd
theorem Gx {i j pos}:PE X (.Constant (.int i) j pos) (tC (.int i)):=fun _ _ _ H _ I h=>wpAny_Constant_int ⟨.int i,H,I.tok _,⟨_,rfl⟩,h⟩
theorem FA {b j pos}:PE X (.Constant (.bool b) j pos) (tC (.bl b)):=fun _ _ _ H _ I h=>Constant_bool ⟨.bl b,H,I,rfl,h⟩
theorem Gy {j pos}:PE X (.Constant .none j pos) (tC .bD):=fun _ _ _ H _ I h=>Constant_none ⟨.bD,H,I,rfl,h⟩
theorem Gz {x j pos}:PE X (.Constant (.str x) j pos) (tC (.str x)):=fun _ _ _ H _ I h=>Calls.Constant_str ⟨.str x,H,I.tok _,⟨_,rfl⟩,h⟩
noncomputable def Gl (X:Cx) (x:Str):Prop:=X.env.kindOf x=some .globalImplicit
theorem jb {E:Value->Shared->Prop} {pins:List (Addr × Obj)} {s:Shared} {σ:St} {H:Hp} {x:Str} {u:Value} {pos:Pos} {Q:Value->Shared->Prop} (I:Inv X pins σ H s) (hg:Gl X x) (hm:X.mg x=some u) (h:Q u s)
  (hd:(x==("__debug__":Str))=false:=by decide):wpAny (model X.prog X.w) X.A (eval (.Name x pos) X.env) Q E s:=
 Calls.Name_function_global I.ok.kind hg (Calls.loadGlobal_global (by rw [I.ok.glob]; exact I.mod.glob.keeps I.bk) hm h) hd
theorem kW {E:Value->Shared->Prop} {pins:List (Addr × Obj)} {s:Shared} {σ:St} {H:Hp} {x:Str} {u:Value} {pos:Pos} {Q:Value->Shared->Prop} (I:Inv X pins σ H s) (hg:Gl X x) (hm:X.mg x=none) (hv:bootBuiltins x=some u) (h:Q u s)
  (hn:x ≠ "__name__":=by decide) (hd:(x==("__debug__":Str))=false:=by decide):wpAny (model X.prog X.w) X.A (eval (.Name x pos) X.env) Q E s:=by
 obtain ⟨mb,h1,h2⟩:=I.mod.blt
 exact Calls.Name_function_global I.ok.kind hg (Calls.loadGlobal_builtin (by rw [I.ok.glob]; exact I.mod.glob.keeps I.bk) hm (by rw [I.ok.blt]; exact h1.keeps I.bk) ((h2 x hn).trans hv) h) hd
theorem wF {x:Str} {v:V} {u:Value} {pos:Pos} (hg:Gl X x) (hm:X.mg x=some u) (r:RelV v u) (hd:(x==("__debug__":Str))=false:=by decide):PE X (.Name x pos) (tC v):=
 fun _ _ _ H _ I h=>jb I hg hm ⟨v,H,I,r,h⟩ hd
theorem wG {x:Str} {v:V} {u:Value} {pos:Pos} (hg:Gl X x) (hm:X.mg x=none) (hv:bootBuiltins x=some u) (r:RelV v u) (hn:x ≠ "__name__":=by decide) (hd:(x==("__debug__":Str))=false:=by decide):PE X (.Name x pos) (tC v):=
 fun _ _ _ H _ I h=>kW I hg hm hv ⟨v,H,I,r,h⟩ hn hd
variable {a b:Expr} {ta tb:TE} {pos:Pos}
noncomputable def PC (X:Cx) (op:CmpOp) (a b:Expr) (t:TE):Prop:=
 ∀ (pins:List (Addr × Obj)) (s:Shared) (σ:St) (H:Hp) (Q:VK),Inv X pins σ H s->t σ H Q ->
  wpAny (model X.prog X.w) X.A (eval a X.env) (fun v s₁=>wpAny (model X.prog X.w) X.A (eval b X.env) (fun u s₂=>wpAny (model X.prog X.w) X.A (compareOp op v u) (EP X pins σ Q) X.xe s₂) X.xe s₁) X.xe s
noncomputable def tB (t:TE):TT:=fun σ H Q=>t σ H fun x H1=>∃ c,x=.bl c/\Q c H1
theorem GA {e:Expr} {t:TE} (h:PE X e t) (he:∀ whole,isTrue e X.env whole=(do let v <- whole; standAt e.pos; holding [v] (truthy v)):=by intro _; rfl):PT X e (tB t):=by
 intro pins s σ H Q I hw
 refine isTrue_plain (cT (h pins s σ H _ I hw) fun v s1 ⟨x,H1,I1,r1,q1⟩=>?_) (he _)
 obtain ⟨d,rfl,q⟩:=q1
 cases r1
 exact wpAny_truthy_bool ⟨H1,I1,q⟩
variable {tA C0:TT} {rest:List Expr}
noncomputable def NO (t u:TT):TT:=fun σ H Q=>t σ H fun c H1=>if c=true then u σ H1 Q else Q false H1
noncomputable def Rz (t u:TT):TT:=fun σ H Q=>t σ H fun c H1=>if c=true then Q true H1 else u σ H1 Q
noncomputable def NP (t:TT):TT:=fun σ H Q=>t σ H fun c H1=>Q (!c) H1
theorem C1 (ha:PT X a tA):PW X (.BoolOp .And [a] pos) tA:=by
 intro wh pins s σ H Q I h
 refine isTrue_and (cT (ha pins s σ H Q I h) fun c s1 e=>?_)
 cases c with
 | true=>exact isTrue_and_nil e
 | false=>exact e
theorem GB (ha:PT X a tA):PW X (.BoolOp .Or [a] pos) tA:=by
 intro wh pins s σ H Q I h
 refine isTrue_or (cT (ha pins s σ H Q I h) fun c s1 e=>?_)
 cases c with
 | false=>exact isTrue_or_nil e
 | true=>exact e
theorem GC (ha:PT X a tA) (hb:PW X (.BoolOp .And (b::rest) pos) C0):PW X (.BoolOp .And (a::b::rest) pos) (NO tA C0):=by
 intro wh pins s σ H Q I h
 refine isTrue_and (cT (ha pins s σ H _ I h) fun c s1 ⟨H1,I1,q1⟩=>?_)
 cases c with
 | true=>exact hb wh pins s1 σ H1 Q I1 q1
 | false=>exact ⟨H1,I1,q1⟩
theorem JY (ha:PT X a tA) (hb:PW X (.BoolOp .Or (b::rest) pos) C0):PW X (.BoolOp .Or (a::b::rest) pos) (Rz tA C0):=by
 intro wh pins s σ H Q I h
 refine isTrue_or (cT (ha pins s σ H _ I h) fun c s1 ⟨H1,I1,q1⟩=>?_)
 cases c with
 | true=>exact ⟨H1,I1,q1⟩
 | false=>exact hb wh pins s1 σ H1 Q I1 q1
theorem GD (ha:PT X a tA):PT X (.UnaryOp .Not a pos) (NP tA):=by
 intro pins s σ H Q I h
 exact isTrue_not (ha pins s σ H (fun c H1=>Q (!c) H1) I h)
noncomputable def JZ (ta tb:TE):TE:=fun σ H Q=>ta σ H fun x H1=>∃ c,x=.bl c/\if c=true then tb σ H1 Q else Q (.bl false) H1
noncomputable def J0 (ta:TE):TE:=fun σ H Q=>ta σ H fun x H1=>∃ c,x=.bl c/\Q (.bl (!c)) H1
theorem GF {op} {t:TE} (h:PE X a t):PE X (.BoolOp op [a] pos) t:=fun pins s σ H Q I hw=>BoolOp_one (h pins s σ H Q I hw)
theorem GG (ha:PE X a ta) (hb:PE X (.BoolOp .And (b::rest) pos) tb):PE X (.BoolOp .And (a::b::rest) pos) (JZ ta tb):=by
 intro pins s σ H Q I h
 refine BoolOp_and (cT (ha pins s σ H _ I h) fun v s1 ⟨x,H1,I1,r1,q1⟩=>?_)
 obtain ⟨c,rfl,q1⟩:=q1
 cases r1
 refine wpAny_truthy_bool ?_
 cases c with
 | true=>exact hb pins s1 σ H1 Q I1 q1
 | false=>exact ⟨.bl false,H1,I1,rfl,q1⟩
theorem GH (ha:PE X a ta):PE X (.UnaryOp .Not a pos) (J0 ta):=by
 intro pins s σ H Q I h
 refine UnaryOp_ (cT (ha pins s σ H _ I h) fun v s1 ⟨x,H1,I1,r1,q1⟩=>?_)
 obtain ⟨c,rfl,q1⟩:=q1
 cases r1
 exact not_of (wpAny_truthy_bool ⟨.bl (!c),H1,I1,rfl,q1⟩)
end
noncomputable def kT (K:PySem.W.Frag) (H:Hp) (a:Addr) (xs:List V):Prop:=
 Rd H a (.lst xs) \/
  ∃ (o:Obj) (aD:Array Value) (n:Nat),K.lookup a=some o/\o.cls=.type "list" /\ o.dict=none/\o.data=.seq aD n/\aD.size<=sizeLine/\Vals xs aD.toList
noncomputable def ju (K:PySem.W.Frag) (H:Hp) (a:Addr) (xs:List V):Prop:=
 Rd H a (.tup xs) \/
  ∃ (o:Obj) (aD:Array Value) (n:Nat),K.lookup a=some o/\o.cls=.type "tuple" /\ o.data=.seq aD n/\aD.size<=sizeLine/\Vals xs aD.toList
noncomputable def NQ:Value->Option V
 | .none=>some .bD
 | .bool b=>some (.bl b)
 | .int i _=>some (.int i)
 | .str x _=>some (.str x)
 | .bytes b _=>some (.NF b)
 | .float b _=>some (.nh b)
 | .ref a=>some (.ref a)
 | .type n=>some (.ty n)
 | _=>none
theorem RelV.abs {x:V} {u:Value} (r:RelV x u):NQ u=some x:=by
 cases x with
 | bD=>cases r; rfl
 | bl _=>cases r; rfl
 | int _=>obtain ⟨t,rfl⟩:=r; rfl
 | str _=>obtain ⟨t,rfl⟩:=r; rfl
 | NF _=>obtain ⟨t,rfl⟩:=r; rfl
 | nh _=>obtain ⟨t,rfl⟩:=r; rfl
 | ref _=>cases r; rfl
 | ty _=>cases r; rfl
theorem RelV.inj {x y:V} {u:Value} (r:RelV x u) (q:RelV y u):x=y:=Option.some.inj (r.abs.symm.trans q.abs)
theorem Vals.inj {xs ys:List V} {us:List Value} (p:Vals xs us) (q:Vals ys us):xs=ys:=by
 induction p generalizing ys with
 | nil=>cases q; rfl
 | cons r t ih=>
  cases q with
  | cons r' t'=>rw [r.inj r',ih t']
section
variable {X:Cx} {pins:List (Addr × Obj)} {σ:St} {H:Hp} {s:Shared} {a:Addr} {xs ys:List V}
theorem kT.of {K:PySem.W.Frag} (h:H a=some (.lst xs)):kT K H a xs:=.inl (.inl h)
theorem ju.of {K:PySem.W.Frag} (h:H a=some (.tup xs)):ju K H a xs:=.inl (.inl h)
theorem Inv.list (I:Inv X pins σ H s) (h:kT X.K H a xs):∃ aD:List Value,Vals xs aD/\PlainL s.heap a aD.toArray/\xs.length<=sizeLine:=by
 rcases h with h | ⟨o,aD,n,hk,hc,hd,hs,hz,r⟩
 ·obtain ⟨z,aD,n,r,e⟩:=h.ok I.bK
  exact ⟨aD,r,⟨_,n,e,rfl,rfl,rfl⟩,z⟩
 ·refine ⟨aD.toList,r,⟨o,n,I.lY a o hk,hc,hd,by simpa using hs⟩,?_⟩
  have e:=r.length
  simp only [Array.length_toList] at e
  lia
theorem Inv.tuple (I:Inv X pins σ H s) (h:ju X.K H a xs):∃ aD:List Value,Vals xs aD/\IsTup s.heap a aD.toArray/\xs.length<=sizeLine:=by
 rcases h with h | ⟨o,aD,n,hk,hc,hs,hz,r⟩
 ·obtain ⟨z,aD,r,p⟩:=h.ok I.bK
  exact ⟨aD,r,p,z⟩
 ·refine ⟨aD.toList,r,⟨o,I.lY a o hk,hc,n,by simpa using hs⟩,?_⟩
  have e:=r.length
  simp only [Array.length_toList] at e
  lia
theorem Inv.nF (I:Inv X pins σ H s) (h:kT X.K H a xs) (h':kT X.K H a ys):xs=ys:=by
 obtain ⟨aD,r,⟨o,n,e,_,_,d⟩,_⟩:=I.list h
 obtain ⟨its',r',⟨o',n',e',_,_,d'⟩,_⟩:=I.list h'
 rw [e] at e'; cases e'
 rw [d] at d'
 injection d' with d1 _
 have:aD=its':=by simpa using congrArg Array.toList d1
 subst this
 exact r.inj r'
theorem Inv.kX (I:Inv X pins σ H s) (h:ju X.K H a xs) (h':ju X.K H a ys):xs=ys:=by
 obtain ⟨aD,r,⟨o,e,_,n,d⟩,_⟩:=I.tuple h
 obtain ⟨its',r',⟨o',e',_,n',d'⟩,_⟩:=I.tuple h'
 rw [e] at e'; cases e'
 rw [d] at d'
 injection d' with d1 _
 have:aD=its':=by simpa using congrArg Array.toList d1
 subst this
 exact r.inj r'
end
noncomputable abbrev Cx.nG (X:Cx) (E:Value->Shared->Prop):Cx:={ X with xe:=E }
theorem Cx.Ok.nG {X:Cx} (ok:X.Ok) (E:Value->Shared->Prop):(X.nG E).Ok:=
 ⟨ok.mod,ok.kind,ok.glob,ok.blt,ok.above,ok.inj,ok.has,ok.Fv,ok.hd,ok.frames,ok.CB,ok.ML,ok.bs,ok.CC,ok.sZ,ok.xX,ok.iN,ok.zB⟩
theorem Cx.Ok.qV {X:Cx} {E:Value->Shared->Prop} (ok:(X.nG E).Ok):X.Ok:=
 ⟨ok.mod,ok.kind,ok.glob,ok.blt,ok.above,ok.inj,ok.has,ok.Fv,ok.hd,ok.frames,ok.CB,ok.ML,ok.bs,ok.CC,ok.sZ,ok.xX,ok.iN,ok.zB⟩
section
variable {X:Cx} {pins:List (Addr × Obj)} {σ:St} {H:Hp} {s:Shared} {E:Value->Shared->Prop}
theorem Inv.nG (I:Inv X pins σ H s) (E:Value->Shared->Prop):Inv (X.nG E) pins σ H s:=⟨I.ok.nG E,I.os,I.bare,I.base,I.loc,I.cell,I.free,I.fN,I.pin,I.bK,I.len⟩
theorem Inv.qV (I:Inv (X.nG E) pins σ H s):Inv X pins σ H s:=⟨I.ok.qV,I.os,I.bare,I.base,I.loc,I.cell,I.free,I.fN,I.pin,I.bK,I.len⟩
end
section
variable {X:Cx} {st:Stmt} {rest:List Stmt} {t u:TS} {e:Expr} {te:TE} {pos:Pos}
noncomputable def J1:TS:=fun D σ H=>D.nx σ H
noncomputable def NT (t u:TS):TS:=fun D σ H=>t { D with nx:=u D } σ H
theorem C2:jZ X [] J1:=fun _ _ σ H _ I h=>wpAny_execs_nil ⟨σ,H,I,h⟩
theorem zJ (h1:PS X st t) (h2:jZ X rest u):jZ X (st::rest) (NT t u):=by
 intro pins s σ H D I h
 refine wpAny_execs_cons (cT (h1 pins s σ H { D with nx:=u D } I h) fun f s1 q=>?_)
 cases f with
 | next=>
  obtain ⟨σ',H',I',q⟩:=q
  exact h2 pins s1 σ' H' D I' q
 | ret v=>exact q
 | brk=>exact q
 | cont=>exact q
theorem C3 (h1:PS X st t):jZ X [st] t:=by
 intro pins s σ H D I h
 refine wpAny_execs_cons (cT (h1 pins s σ H D I h) fun f s1 q=>?_)
 cases f with
 | next=>exact wpAny_execs_nil q
 | ret v=>exact q
 | brk=>exact q
 | cont=>exact q
theorem Inv.quiet {pins:List (Addr × Obj)} {σ:St} {H:Hp} {s:Shared} (I:Inv X pins σ H s):interactive X.env=false:=by simp [interactive,I.ok.kind]
noncomputable def J2 (te:TE):TS:=fun D σ H=>te σ H fun _ H1=>D.nx σ H1
theorem C4 (he:PE X e te) (hs:swapsWith e none pos.line X.env=pure false:=by rfl):PS X (.Expr e pos) (J2 te):=by
 intro pins s σ H D I h
 exact wpAny_Expr_any (cT (he pins s σ H _ I h) fun v s1 ⟨x,H1,I1,r1,q1⟩=>⟨σ,H1,I1,q1⟩) I.quiet hs
noncomputable def NU (te:TE):TS:=fun D σ H=>te σ H D.rt
theorem GI (he:PE X e te):PS X (.Return (some e) pos) (NU te):=by
 intro pins s σ H D I h
 exact wpAny_Return_some (cT (he pins s σ H _ I h) fun v s1 ⟨x,H1,I1,r1,q1⟩=>⟨x,σ,H1,I1,r1,q1⟩)
noncomputable def NV (c:TT) (t u:TS):TS:=fun D σ H=>c σ H fun b H1=>if b=true then t D σ H1 else u D σ H1
theorem J3 {c:Expr} {a b:List Stmt} {tc:TT} (hc:PT X c tc) (ha:jZ X a t) (hb:jZ X b u):PS X (.If c a b pos) (NV tc t u):=by
 intro pins s σ H D I h
 refine wpAny_If (cT (hc pins s σ H _ I h) fun d s1 ⟨H1,I1,q1⟩=>?_)
 cases d with
 | true=>exact ha pins s1 σ H1 D I1 q1
 | false=>exact hb pins s1 σ H1 D I1 q1
end
noncomputable abbrev TG:=V->St->Hp->(St->Hp->Prop)->Prop
noncomputable abbrev C5:=List V->St->Hp->(St->Hp->Prop)->Prop
noncomputable def PG (X:Cx) (target:Expr) (t:TG):Prop:=
 ∀ (pins:List (Addr × Obj)) (s:Shared) (σ:St) (H:Hp) (v:V) (u:Value) (Q:St->Hp->Prop),Inv X pins σ H s->RelV v u->t v σ H Q ->
  wpAny (model X.prog X.w) X.A (assign target X.env u) (fun _ s'=>∃ σ' H',Inv X pins σ' H' s'/\Q σ' H') X.xe s
noncomputable def xY (X:Cx) (ts:List Expr) (t:C5):Prop:=
 ∀ (pins:List (Addr × Obj)) (s:Shared) (σ:St) (H:Hp) (vs:List V) (us:List Value) (Q:St->Hp->Prop),Inv X pins σ H s->Vals vs us->t vs σ H Q ->
  wpAny (model X.prog X.w) X.A (assignInOrder ((assignEach ts X.env).map (·.2)) us) (fun _ s'=>∃ σ' H',Inv X pins σ' H' s'/\Q σ' H') X.xe s
section
variable {X:Cx} {pos:Pos}
noncomputable def zK (i:Nat):TG:=fun v σ H Q=>Q (σ.set i (some v)) H
theorem C6 {i:Nat} {x:Str} (hN:X.N.Nodup) (hi:X.N[i]?=some x) (hx:Loc X.env.scope x) (hf:X.fn x=true\/X.env.scope.names.lookup x=some .local:=by first | exact .inl rfl | exact .inr rfl | assumption):PG X (.Name x pos) (zK i):=by
 intro pins s σ H v u Q I r h
 exact wpAny_assign_Name (nC I hN hi hx r (fun s' I'=>⟨_,H,I',h⟩) hf)
noncomputable def NW:C5:=fun vs σ H Q=>vs=[]/\Q σ H
noncomputable def J4 (t:TG) (u:C5):C5:=fun vs σ H Q=>∃ v r,vs=v::r/\t v σ H fun σ' H'=>u r σ' H' Q
theorem C7:xY X [] NW:=by
 intro pins s σ H vs us Q I r h
 obtain ⟨e,h⟩:=h
 subst e
 cases r
 exact assignInOrder_nil ⟨σ,H,I,h⟩
theorem zL {e:Expr} {es:List Expr} {t:TG} {u:C5} (h1:PG X e t) (h2:xY X es u)
  (hs:(assignEach (e::es) X.env).map (·.2)=assign e X.env::(assignEach es X.env).map (·.2):=by rfl):xY X (e::es) (J4 t u):=by
 intro pins s σ H vs us Q I r h
 obtain ⟨v,vr,e1,h⟩:=h
 subst e1
 cases r with
 | cons r rr=>
  rw [hs]
  refine assignInOrder_cons (cT (h1 pins s σ H _ _ _ I r h) fun _ s1 ⟨σ1,H1,I1,q1⟩=>?_)
  exact h2 pins s1 σ1 H1 _ _ Q I1 rr q1
noncomputable def NX (K:PySem.W.Frag) (n:Nat) (t:C5):TG:=fun v σ H Q=>∃ a xs,v=.ref a/\ju K H a xs/\xs.length=n/\t xs σ H Q
theorem GJ {es:List Expr} {k:Nat} {t:C5} {n:Nat} (hc:X.calm=true) (h:xY X es t)
  (hn:(assignEach es X.env).length=n:=by rfl) (CG:(assignEach es X.env).findIdx? (·.1)=none:=by rfl):PG X (.Tuple es k pos) (NX X.K n t):=by
 intro pins s σ H v u Q I r hw
 obtain ⟨a,xs,e1,hq,hl,hw⟩:=hw
 subst e1
 cases r
 obtain ⟨aD,rv,ht,hz⟩:=I.tuple hq
 refine assign_Tuple_tuple (I.ok.hd hc) ht (by simp [hn,<-hl,rv.length]) CG fun h' hx=>?_
 have I1:Inv X pins σ H { s with heap:=h' }:=I.kept (t':=s.toks) fun b o e=>hx b o (Nat.ne_of_lt (Heap.lt_size e)) e
 exact h pins _ σ H xs _ Q I1 (by simpa using rv) hw
noncomputable def J5 (te:TE) (g:TG):TS:=fun D σ H=>te σ H fun x H1=>g x σ H1 D.nx
theorem GK {i:Nat} {x:Str} {e:Expr} {te:TE} {pos':Pos} (hN:X.N.Nodup) (hi:X.N[i]?=some x) (hx:Loc X.env.scope x) (he:PE X e te) (hs:swapsWith e (some (.Name x pos')) pos.line X.env=pure false:=by rfl) (hf:X.fn x=true\/X.env.scope.names.lookup x=some .local:=by first | exact .inl rfl | exact .inr rfl | assumption) :
  PS X (.Assign [.Name x pos'] e pos) (J5 te (zK i)):=by
 intro pins s σ H D I h
 refine wpAny_Assign_Name (cT (he pins s σ H _ I h) fun v s1 ⟨y,H1,I1,r1,q1⟩=>?_) hs
 exact nC I1 hN hi hx r1 (fun s2 I2=>⟨_,H1,I2,q1⟩) hf
end
section
variable {X:Cx} {pos:Pos}
noncomputable def GL (c:TT) (tb:TS):TS:=fun D σ H=>∃ W:Nat->St->Hp->Prop,(∃ m,W m σ H)/\∀ m σ H,W m σ H ->
 c σ H fun b H1=>if b=true then ∃ N:St->Hp->Prop,(∀ σ' H',N σ' H'->∃ m',m'<m/\W m' σ' H')/\tb { D with nx:=N,ct:=N,bk:=D.nx } σ H1 else D.nx σ H1
theorem zM {c:Expr} {body:List Stmt} {tc:TT} {tb:TS} (hp:PassesOwn (model X.prog X.w) X.A X.env X.xe) (hc:PT X c tc) (hb:jZ X body tb):PS X (.While c body [] pos) (GL tc tb):=by
 intro pins s σ H D I h
 obtain ⟨W,⟨m0,w0⟩,turn⟩:=h
 refine wpAny_While (codeAny_whileLoop (fun n s'=>∃ σ' H',Inv X pins σ' H' s'/\W n σ' H') ?_ m0 ⟨σ,H,I,w0⟩)
 rintro n s1 ⟨σ1,H1,I1,w1⟩
 refine wpAny_passesOwn hp (cT (hc pins s1 σ1 H1 _ I1 (turn n σ1 H1 w1)) fun b s2 ⟨H2,I2,q2⟩=>?_)
 cases b with
 | true=>
  obtain ⟨N,hN,q2⟩:=q2
  rw [if_pos rfl]
  refine wpAny_passesOwn hp (cT (hb pins s2 σ1 H2 _ I2 q2) fun f s3 q3=>?_)
  cases f with
  | next=>
   obtain ⟨σ3,H3,I3,n3⟩:=q3
   obtain ⟨m',hm,w3⟩:=hN σ3 H3 n3
   exact ⟨m',hm,σ3,H3,I3,w3⟩
  | cont=>
   obtain ⟨σ3,H3,I3,n3⟩:=q3
   obtain ⟨m',hm,w3⟩:=hN σ3 H3 n3
   exact ⟨m',hm,σ3,H3,I3,w3⟩
  | brk=>exact q3
  | ret v=>exact q3
 | false=>
  rw [if_neg Bool.false_ne_true]
  exact wpAny_execs_nil ⟨σ1,H2,I2,q2⟩
end
structure It where
 go:Nat->Hp->Prop
 J7:Nat->Hp->V->Hp->Prop
 stop:Nat->Hp->Prop
noncomputable def pq (X:Cx) (pins:List (Addr × Obj)) (H:Hp) (b:Addr):Prop:=
 H b=none/\b≠X.env.locals/\b ∉ X.fs/\(b∈X.ex\/X.s₀.heap.objs.size<=b)/\(∀ x c,X.env.cells.lookup x=some c->c≠b)/\∀ p∈X.pn++pins,p.1≠b
theorem Inv.C8 {X:Cx} {pins:List (Addr × Obj)} {σ:St} {H H':Hp} {s:Shared} {b:Addr} (I:Inv X pins σ H s) (hb:s.heap.objs.size<=b) (hn:H' b=none):pq X pins H' b:=by
 refine ⟨hn,Nat.ne_of_gt (Nat.lt_of_lt_of_le I.lt hb),I.NI hb,.inr (Nat.le_trans I.sz hb),fun x c e z=>?_,fun p hp z=>?_⟩
 ·obtain ⟨v,q⟩:=I.cell x c e
  exact absurd (Nat.lt_of_lt_of_le q.lt (by rw [z]; exact hb)) (Nat.lt_irrefl _)
 ·exact absurd (Nat.lt_of_lt_of_le (Heap.lt_size (I.pin p hp).1) (by rw [z]; exact hb)) (Nat.lt_irrefl _)
structure Turn (P:Program) (w:World) (K:PySem.W.Frag) (tg:Expr) (J:It) (fp:List Addr) (it:Addr) (tn:Nat->Heap->Prop):Prop where
 mem:it∈fp
 obj:∀ i h,tn i h->∀ b∈fp,∃ o,h.get? b=some o/\∀ v,o.data≠.cell v
 keep:∀ i h h',tn i h->(∀ b∈fp,∀ o,h.get? b=some o->h'.get? b=some o)->tn i h'
 item:∀ (X:Cx),X.prog=P->X.w=w->X.K=K->X.calm=true->∀ (i:Nat) (pins:List (Addr × Obj)) (s:Shared) (σ:St) (H:Hp) (E:Value->Shared->Prop),Inv X pins σ H s->(∀ b∈fp,pq X pins H b)->tn i s.heap->J.go i H ->
  wpAny (model P w) X.A (pyNext (.ref it)) (fun r s1=>∃ u,r=some u /\
   wpAny (model P w) X.A (letOwnedTupleGo tg (.ref it) u) (fun _ s2=>∃ x H',Inv X pins σ H' s2/\RelV x u/\J.J7 i H x H'/\tn (i+1) s2.heap/\∀ b∈fp,H' b=none) E s1) E s
 done:∀ (X:Cx),X.prog=P->X.w=w->X.K=K->X.calm=true->∀ (i:Nat) (pins:List (Addr × Obj)) (s:Shared) (σ:St) (H:Hp) (E:Value->Shared->Prop),Inv X pins σ H s->(∀ b∈fp,pq X pins H b)->tn i s.heap->J.stop i H ->
  wpAny (model P w) X.A (pyNext (.ref it)) (fun r s1=>r=none/\Inv X pins σ H s1) E s
 self:∀ (A:Around) (i:Nat) (s:Shared) (Q:Value->Shared->Prop) (E:Value->Shared->Prop),tn i s.heap->Q (.ref it) s->wpAny (model P w) A (pyIter (.ref it)) Q E s
noncomputable abbrev TI:=St->Hp->(It->Hp->Prop)->Prop
noncomputable def QA (X:Cx) (pins:List (Addr × Obj)) (σ:St) (tg:Expr) (R:It->Hp->Prop) (NY:Value) (s2:Shared):Prop:=
 ∃ (it:Addr) (fp:List Addr) (tn:Nat->Heap->Prop) (J:It) (H':Hp),NY=.ref it/\Inv X pins σ H' s2/\Turn X.prog X.w X.K tg J fp it tn/\tn 0 s2.heap/\(∀ b∈fp,pq X pins H' b)/\R J H'
noncomputable def PI (X:Cx) (tg iter:Expr) (wi:TI):Prop:=
 ∀ (pins:List (Addr × Obj)) (s:Shared) (σ:St) (H:Hp) (R:It->Hp->Prop),Inv X pins σ H s->wi σ H R ->
  wpAny (model X.prog X.w) X.A (eval iter X.env) (fun v s1=>wpAny (model X.prog X.w) X.A (pyIter v) (QA X pins σ tg R) X.xe s1) X.xe s
theorem zN {M:Model} {A:Around} {E:Value->Shared->Prop} {s:Shared} {tg:Expr} {it:Addr} {u:Value} {o:Obj} {n:String} {vs:Array Value} {Q:Unit->Shared->Prop} (ho:s.heap.get? it=some o) (hc:o.cls=.type n) (hd:o.data=.fields vs)
    (hn:["enumerate","zip","dict_itemiterator","dict_reverseitemiterator","odict_iterator","itertools.zip_longest","itertools.pairwise"].contains n=false) (hQ:Q () s):wpAny M A (letOwnedTupleGo tg (.ref it) u) Q E s:=by
  unfold letOwnedTupleGo
  cases tg <;> first
    | exact wpAny_pure hQ
    | (cases u <;> first
        | exact wpAny_pure hQ
        | (refine wpAny_bind (wpAny_load ho ?_)
           rw [hc,hd]
           show wpAny M A (if (["enumerate","zip","dict_itemiterator","dict_reverseitemiterator","odict_iterator","itertools.zip_longest","itertools.pairwise"].contains n&&vs[0]?==some (rawInt _))=true then _ else _) Q E s
           rw [if_neg (by intro h; rw [hn,Bool.false_and] at h; cases h)]
           exact wpAny_pure hQ))
noncomputable def NZ (K:PySem.W.Frag) (a:Addr):It:=
 ⟨fun i H=>∃ xs x,kT K H a xs/\xs[i]?=some x,fun i H x H'=>H'=H/\∀ xs,kT K H a xs->xs[i]?=some x,fun i H=>∃ xs,kT K H a xs/\xs.length<=i⟩
noncomputable def N0 (K:PySem.W.Frag) (a:Addr):It:=
 ⟨fun i H=>∃ xs x,ju K H a xs/\xs[i]?=some x,fun i H x H'=>H'=H/\∀ xs,ju K H a xs->xs[i]?=some x,fun i H=>∃ xs,ju K H a xs/\xs.length<=i⟩
noncomputable def MP (lo:Int) (n:Nat):It:=⟨fun i _=>i<n,fun i H x H'=>H'=H/\x=.int (lo+i),fun i _=>n<=i⟩
theorem xZ {P:Program} {w:World} {K:PySem.W.Frag} {tg:Expr} (a it:Addr):Turn P w K tg (NZ K a) [it] it (fun i h=>h.IsListIter it a i) where
 mem:=by simp
 obj:=fun i h st b hb=>by
  have e:b=it:=by simpa using hb
  subst e
  obtain ⟨o,e,c,d⟩:=st
  exact ⟨o,e,fun v z=>by rw [d] at z; cases z⟩
 keep:=fun i h h' st k=>st.at fun o e=>k it (by simp) o e
 item:=by
  intro X hP hw hK hc i pins s σ H E I hf st hg
  subst hP hw hK
  obtain ⟨xs,x,hq,hx⟩:=hg
  obtain ⟨aD,rv,p,hz⟩:=I.list hq
  obtain ⟨u,hu,ru⟩:=rv.get hx
  obtain ⟨f0,f1,f2,f3,f4,f5⟩:=hf it (by simp)
  refine wpAny_pyNext_list_item st p.isList (x:=u) (by simpa using hu) fun h' ar sb=>?_
  have I1:Inv X pins σ H { s with heap:=h' }:=I.turned (t':=s.toks) (fun b o hb e=>(sb.2 b hb).trans e) f0 f1 f3 f4 f5
  obtain ⟨o,e,c,d⟩:=id ar
  exact ⟨u,rfl,zN (s:={ s with heap:=h' }) e c d (by decide) ⟨x,H,I1,ru,⟨rfl,fun ys hy=>by rw [I.nF hy hq]; exact hx⟩,ar,fun b hb=>(hf b hb).1⟩⟩
 done:=by
  intro X hP hw hK hc i pins s σ H E I hf st hg
  subst hP hw hK
  obtain ⟨xs,hq,hx⟩:=hg
  obtain ⟨aD,rv,p,hz⟩:=I.list hq
  obtain ⟨f0,f1,f2,f3,f4,f5⟩:=hf it (by simp)
  have hl:=rv.length
  exact wpAny_pyNext_list_end (I.ok.hd hc) st p.isList (by simp; lia) fun h' eb=>⟨rfl,I.turned (t':=s.toks) (fun b o hb e=>eb b o hb e) f0 f1 f3 f4 f5⟩
 self:=fun _ _ _ _ _ st h=>wpAny_pyIter_listiter st h
theorem u4 {P:Program} {w:World} {K:PySem.W.Frag} {tg:Expr} (a it:Addr):Turn P w K tg (N0 K a) [it] it (fun i h=>h.IsTupleIter it a i) where
 mem:=by simp
 obj:=fun i h st b hb=>by
  have e:b=it:=by simpa using hb
  subst e
  obtain ⟨o,e,c,d⟩:=st
  exact ⟨o,e,fun v z=>by rw [d] at z; cases z⟩
 keep:=fun i h h' st k=>st.at fun o e=>k it (by simp) o e
 item:=by
  intro X hP hw hK hc i pins s σ H E I hf st hg
  subst hP hw hK
  obtain ⟨xs,x,hq,hx⟩:=hg
  obtain ⟨aD,rv,p,hz⟩:=I.tuple hq
  obtain ⟨u,hu,ru⟩:=rv.get hx
  obtain ⟨f0,f1,f2,f3,f4,f5⟩:=hf it (by simp)
  refine wpAny_pyNext_tuple_item st (show s.heap.IsTuple a aD.toArray from p) (x:=u) (by simpa using hu) fun h' ar sb=>?_
  have I1:Inv X pins σ H { s with heap:=h' }:=I.turned (t':=s.toks) (fun b o hb e=>(sb.2 b hb).trans e) f0 f1 f3 f4 f5
  obtain ⟨o,e,c,d⟩:=id ar
  exact ⟨u,rfl,zN (s:={ s with heap:=h' }) e c d (by decide) ⟨x,H,I1,ru,⟨rfl,fun ys hy=>by rw [I.kX hy hq]; exact hx⟩,ar,fun b hb=>(hf b hb).1⟩⟩
 done:=by
  intro X hP hw hK hc i pins s σ H E I hf st hg
  subst hP hw hK
  obtain ⟨xs,hq,hx⟩:=hg
  obtain ⟨aD,rv,p,hz⟩:=I.tuple hq
  obtain ⟨f0,f1,f2,f3,f4,f5⟩:=hf it (by simp)
  have hl:=rv.length
  exact wpAny_pyNext_tuple_end (I.ok.hd hc) st (show s.heap.IsTuple a aD.toArray from p) (by simp; lia) fun h' eb=>⟨rfl,I.turned (t':=s.toks) (fun b o hb e=>eb b o hb e) f0 f1 f3 f4 f5⟩
 self:=fun _ _ _ _ _ st h=>wpAny_pyIter_tupleiter st h
theorem u5 {P:Program} {w:World} {K:PySem.W.Frag} {tg:Expr} (it:Addr) (lo:Int) (n:Nat):Turn P w K tg (MP lo n) [it] it (fun i h=>IsRangeIter h it (lo+(i:Nat)*1) ((n:Int)-(i:Nat)) 1) where
 mem:=by simp
 obj:=fun i h st b hb=>by
  have e:b=it:=by simpa using hb
  subst e
  exact ⟨_,st,fun v z=>by
   have z':Data.fields _=Data.cell v:=z
   cases z'⟩
 keep:=fun i h h' st k=>k it (by simp) _ st
 item:=by
  intro X hP hw hK hc i pins s σ H E I hf st hg
  subst hP hw hK
  obtain ⟨f0,f1,f2,f3,f4,f5⟩:=hf it (by simp)
  have W:=Walks.range (prog:=X.prog) (w:=X.w) (I.ok.hd hc) it lo 1 n
  refine W.item i s _ _ hg st fun v h' tk hv ar kk=>?_
  obtain ⟨t,rfl⟩:=hv
  have I1:Inv X pins σ H { s with heap:=h',toks:=tk }:=I.turned (fun b o hb e=>kk b o (by simpa using hb) e) f0 f1 f3 f4 f5
  refine ⟨_,rfl,zN (s:={ s with heap:=h',toks:=tk }) (n:="range_iterator") ar rfl rfl (by decide) ⟨.int (lo+i),H,I1,⟨t,?_⟩,⟨rfl,rfl⟩,ar,fun b hb=>(hf b hb).1⟩⟩
  rw [Int.mul_one]
 done:=by
  intro X hP hw hK hc i pins s σ H E I hf st hg
  subst hP hw hK
  obtain ⟨f0,f1,f2,f3,f4,f5⟩:=hf it (by simp)
  exact wpAny_pyNext_range_end (I.ok.hd hc) st (by have:n<=i:=hg; lia) fun h' eb=>⟨rfl,I.turned (t':=s.toks) (fun b o hb e=>eb b o hb e) f0 f1 f3 f4 f5⟩
 self:=fun _ _ _ _ _ st h=>wpAny_pyIter_rangeiter st h
section
variable {X:Cx} {tg:Expr}
theorem zO {pins:List (Addr × Obj)} {σ:St} {H:Hp} {s:Shared} {R:It->Hp->Prop} {E:Value->Shared->Prop} {lo hi:Int} {t u v:Tok} {tk:Nat} (I:Inv X pins σ H s) (h1:-(2 ^ 62)<=lo) (h2:lo<2 ^ 62) (h3:-(2 ^ 62)<=hi) (h4:hi<2 ^ 62)
  (q:R (MP lo (hi-lo).toNat) H):wpAny (model X.prog X.w) X.A (pyIter (.ref s.heap.objs.size)) (QA X pins σ tg R) E { s with heap:=s.heap.push { cls:=.type "range",data:=.fields #[.int lo t,.int hi u,.int 1 v] },toks:=tk }:=by
 refine wpAny_pyIter_range (IsRange.new ..) (small_one h1 h2 h3 h4) ?_
 have I1:Inv X pins σ H { s with heap:=s.heap.push { cls:=.type "range",data:=.fields #[.int lo t,.int hi u,.int 1 v] },toks:=tk }:=I.kept fun b o e=>Heap.get?_push_of_some _ e
 refine ⟨(s.heap.push { cls:=.type "range",data:=.fields #[.int lo t,.int hi u,.int 1 v] }).objs.size,[(s.heap.push { cls:=.type "range",data:=.fields #[.int lo t,.int hi u,.int 1 v] }).objs.size],_,_,H,rfl,
  I1.kept (t':=tk) fun b o e=>Heap.get?_push_of_some _ e,u5 _ lo (hi-lo).toNat,?_,fun b hb=>?_,q⟩
 ·have e1:lo+((0:Nat):Int)*1=lo:=by simp
  have e2:(((hi-lo).toNat:Nat):Int)-((0:Nat):Int)=Builtin.Range.rangeSize lo hi 1:=by rw [rangeSize_one]; split <;> lia
  show IsRangeIter _ _ (lo+((0:Nat):Int)*1) ((((hi-lo).toNat:Nat):Int)-((0:Nat):Int)) 1
  rw [e1,e2]
  exact Heap.get?_push_size _ rfl
 ·have e:b=(s.heap.push { cls:=.type "range",data:=.fields #[.int lo t,.int hi u,.int 1 v] }).objs.size:=by simpa using hb
  subst e
  exact I1.C8 (Nat.le_refl _) (I1.bK.fresh (Nat.le_refl _))
noncomputable def J8 (ta:TA):TI:=fun σ H R=>ta σ H fun vs H1=>∃ j:Int,vs=[.int j]/\-(2 ^ 62)<=j/\j<2 ^ 62/\R (MP 0 j.toNat) H1
theorem x9 {a:Expr} {ta:TA} {p pos:Pos} (hg:Gl X "range") (hm:X.mg "range" = none) (ha:PA X [a] ta) (hs:starEach [a] X.env=[(false,eval a X.env)]:=by rfl):PI X tg (.Call (.Name "range" p) [a] [] pos) (J8 ta):=by
 intro pins s σ H R I h
 refine Call_ (kW I hg hm boot_range (PyProof.Rows.callWith_type1 (cT (ha pos pins s σ H _ I h) fun us s1 ⟨vs,H1,I1,r1,q1⟩=>?_) hs rfl))
 obtain ⟨j,e,q1,q2,q⟩:=q1
 subst e
 cases r1 with
 | cons r rr=>
  cases rr
  obtain ⟨t,rfl⟩:=r
  exact call_range_1 (zO I1 (by lia) (by lia) q1 q2 (by simpa using q))
noncomputable def N1 (wi:TI) (g:TG) (tb:TS):TS:=fun D σ H=>wi σ H fun J H1=>∃ W:Nat->Nat->St->Hp->Prop,(∃ m,W 0 m σ H1)/\∀ i m σ H,W i m σ H ->
 (J.stop i H/\D.nx σ H)\/(J.go i H/\∃ N:St->Hp->Prop,(∀ σ' H',N σ' H'->∃ m',m'<m/\W (i+1) m' σ' H')/\∀ x H',J.J7 i H x H'->g x σ H' fun σ2 H2=>tb { D with nx:=N,ct:=N,bk:=D.nx } σ2 H2)
noncomputable def nH (fp:List Addr) (h:Heap):List (Addr × Obj):=fp.filterMap fun b=>(h.get? b).map fun o=>(b,o)
theorem gT {fp:List Addr} {h:Heap} {b:Addr} {o:Obj} (hb:b∈fp) (e:h.get? b=some o):(b,o)∈nH fp h:=List.mem_filterMap.mpr ⟨b,hb,by rw [e]; rfl⟩
theorem x_ {fp:List Addr} {h:Heap} {p:Addr × Obj} (hp:p∈nH fp h):p.1∈fp/\h.get? p.1=some p.2:=by
 obtain ⟨b,hb,e⟩:=List.mem_filterMap.mp hp
 cases q:h.get? b with
 | none=>rw [q] at e; cases e
 | some o=>
  rw [q] at e
  have e':(b,o)=p:=Option.some.inj e
  subst e'
  exact ⟨hb,q⟩
theorem Inv.pinned {pins:List (Addr × Obj)} {σ:St} {H:Hp} {s:Shared} {fp:List Addr} (I:Inv X pins σ H s) (hf:∀ b∈fp,pq X pins H b) (ho:∀ b∈fp,∃ o,s.heap.get? b=some o/\∀ v,o.data≠.cell v):Inv X (pins++nH fp s.heap) σ H s:=
 I.ni fun p hp=>(List.mem_append.mp hp).elim (fun z=>I.pin p (List.mem_append_right _ z)) fun z=>by
  obtain ⟨hb,e⟩:=x_ z
  obtain ⟨f0,f1,f2,_⟩:=hf p.1 hb
  obtain ⟨o,e',d⟩:=ho p.1 hb
  rw [e] at e'; cases e'
  exact ⟨e,f0,f1,f2,d⟩
theorem Inv.nI {pins pl:List (Addr × Obj)} {σ:St} {H:Hp} {s:Shared} (I:Inv X (pins++pl) σ H s):Inv X pins σ H s:=I.ni fun p hp=>I.pin p (List.mem_append_right _ (List.mem_append_left _ hp))
theorem GN {iter:Expr} {body:List Stmt} {wi:TI} {g:TG} {tb:TS} {pos:Pos} (hp:PassesOwn (model X.prog X.w) X.A X.env X.xe) (hc:X.calm=true) (hi:PI X tg iter wi) (hg:PG X tg g) (hb:jZ X body tb)
  (hs:∀ x,foldedSetIterable iter X.env x=pure x:=by intro _; rfl):PS X (.For tg iter body [] pos) (N1 wi g tb):=by
 intro pins s σ H D I h
 refine wpAny_For (cT (hi pins s σ H _ I h) fun v s1 h1=>cT h1 fun NY s2 h2=>?_) hs
 obtain ⟨it,fp,tn,J,H2,e,I2,T,cJ,f2,W,⟨m0,w0⟩,turn⟩:=h2
 subst e
 -- J9 stays true of xT GO objects through xT loop
 have u7:∀ {H':Hp},(∀ b∈fp,H' b=none)->∀ b∈fp,pq X pins H' b:=fun hn b hb=>⟨hn b hb,(f2 b hb).2⟩
 refine codeAny_forLoop_any (fun n s'=>∃ i σ' H',Inv X pins σ' H' s'/\tn i s'.heap/\(∀ b∈fp,H' b=none)/\W i n σ' H') ?_ m0 ⟨0,σ,H2,I2,cJ,fun b hb=>(f2 b hb).1,w0⟩
 rintro n s3 ⟨i,σ3,H3,I3,jo,J_,w3⟩
 rcases turn i n σ3 H3 w3 with ⟨stop,qn⟩ | ⟨go,N,hN,step⟩
 ·refine wpAny_passesOwn hp (cT (T.done X rfl rfl rfl hc i pins s3 σ3 H3 X.xe I3 (u7 J_) jo stop) fun r s4 ⟨hr,I4⟩=>?_)
  subst hr
  exact wpAny_execs_nil ⟨σ3,H3,I4,qn⟩
 ·refine wpAny_passesOwn hp (cT (T.item X rfl rfl rfl hc i pins s3 σ3 H3 X.xe I3 (u7 J_) jo go) fun r s4 ⟨u,hr,h4⟩=>?_)
  subst hr
  refine wpAny_passesOwn hp (cT h4 fun _ s5 ⟨x,H5,I5,r5,y5,GP,N4⟩=>?_)
  have N6:=I5.pinned (u7 N4) (T.obj _ _ GP)
  refine wpAny_passesOwn hp (cT (hg _ s5 σ3 H5 x u _ N6 r5 (step x H5 y5)) fun _ s6 ⟨σ6,H6,I6,q6⟩=>?_)
  refine wpAny_passesOwn hp (cT (hb _ s6 σ6 H6 _ I6 q6) fun f s7 q7=>?_)
  have again:∀ {σ7:St} {H7:Hp},Inv X (pins++nH fp s5.heap) σ7 H7 s7->N σ7 H7->∃ m,m<n/\∃ i σ' H',Inv X pins σ' H' s7/\tn i s7.heap/\(∀ b∈fp,H' b=none)/\W i m σ' H':=fun {σ7 H7} I7 n7=>by
   obtain ⟨m',hm,w7⟩:=hN σ7 H7 n7
   refine ⟨m',hm,i+1,σ7,H7,I7.nI,T.keep _ _ _ GP fun b hb o e=>(I7.pin (b,o) (List.mem_append_right _ (List.mem_append_right _ (gT hb e)))).1,fun b hb=>?_,w7⟩
   obtain ⟨o,e,d⟩:=T.obj _ _ GP b hb
   exact (I7.pin (b,o) (List.mem_append_right _ (List.mem_append_right _ (gT hb e)))).2.1
  cases f with
  | next=>obtain ⟨σ7,H7,I7,n7⟩:=q7; exact again I7 n7
  | cont=>obtain ⟨σ7,H7,I7,n7⟩:=q7; exact again I7 n7
  | brk=>obtain ⟨σ7,H7,I7,q7⟩:=q7; exact ⟨σ7,H7,I7.nI,q7⟩
  | ret v=>obtain ⟨x7,σ7,H7,I7,r7,q7⟩:=q7; exact ⟨x7,σ7,H7,I7.nI,r7,q7⟩
end
noncomputable abbrev R2:=V->V->Hp->VK->Prop
noncomputable def c9 (X:Cx) (f:Value->Value->Sem Value) (r:R2):Prop:=
 ∀ (pins:List (Addr × Obj)) (s:Shared) (σ:St) (H:Hp) (x y:V) (v u:Value) (Q:VK),Inv X pins σ H s->RelV x v->RelV y u->r x y H Q ->
  wpAny (model X.prog X.w) X.A (f v u) (EP X pins σ Q) X.xe s
noncomputable def N8 (X:Cx) (f:Value->Sem Value) (r:V->Hp->VK->Prop):Prop:=
 ∀ (pins:List (Addr × Obj)) (s:Shared) (σ:St) (H:Hp) (x:V) (v:Value) (Q:VK),Inv X pins σ H s->RelV x v->r x H Q ->
  wpAny (model X.prog X.w) X.A (f v) (EP X pins σ Q) X.xe s
noncomputable def bt (X:Cx) (f:Value) (r:List V->Hp->VK->Prop):Prop:=
 ∀ (pins:List (Addr × Obj)) (s:Shared) (σ:St) (H:Hp) (xs:List V) (us:List Value) (Q:VK),Inv X pins σ H s->Vals xs us->r xs H Q ->
  wpAny (model X.prog X.w) X.A (call f us) (EP X pins σ Q) X.xe s
noncomputable def Jr (r:R2) (ta tb:TE):TE:=fun σ H Q=>ta σ H fun x H1=>tb σ H1 fun y H2=>r x y H2 Q
noncomputable def RA (r:V->Hp->VK->Prop) (ta:TE):TE:=fun σ H Q=>ta σ H fun x H1=>r x H1 Q
noncomputable def rI (C:Int->Int->Prop) (g:Int->Int->V):R2:=fun x y H Q=>∃ i j,x=.int i/\y=.int j/\C i j/\Q (g i j) H
noncomputable def FC (g:Int->Int->V):R2:=fun x y H Q=>∃ i j,x=.int i/\y=.int j/\Q (g i j) H
noncomputable def rU (g:Int->V):V->Hp->VK->Prop:=fun x H Q=>∃ i,x=.int i/\Q (g i) H
section
variable {X:Cx} {a b c:Expr} {ta tb tc:TE} {pos:Pos}
theorem GQ (ha:PE X a ta) (hb:PE X b tb) {pins:List (Addr × Obj)} {s:Shared} {σ:St} {H:Hp} {R:V->V->Hp->Prop} (I:Inv X pins σ H s)
  (h:ta σ H fun x H1=>tb σ H1 fun y H2=>R x y H2) {Q:Value->Shared->Prop} {f:Value->Value->Sem Value}
  (hf:∀ v u s2 x y H2,Inv X pins σ H2 s2->RelV x v->RelV y u->R x y H2->wpAny (model X.prog X.w) X.A (f v u) Q X.xe s2) :
  wpAny (model X.prog X.w) X.A (eval a X.env) (fun v s₁=>wpAny (model X.prog X.w) X.A (eval b X.env) (fun u s₂=>wpAny (model X.prog X.w) X.A (f v u) Q X.xe s₂) X.xe s₁) X.xe s:=by
 refine cT (ha pins s σ H _ I h) fun v s1 ⟨x,H1,I1,r1,q1⟩=>?_
 refine cT (hb pins s1 σ H1 _ I1 q1) fun u s2 ⟨y,H2,I2,r2,q2⟩=>?_
 exact hf v u s2 x y H2 I2 r1 r2 q2
theorem Kc {op:Operator} {r:R2} (ho:c9 X (binaryOp op) r) (ha:PE X a ta) (hb:PE X b tb):PE X (.BinOp a op b pos) (Jr r ta tb):=by
 intro pins s σ H Q I h
 exact wpAny_BinOp (GQ ha hb I h fun v u s2 x y H2 I2 rx ry q=>ho pins s2 σ H2 x y v u Q I2 rx ry q)
theorem Kd {op:UnaryOp} {r:V->Hp->VK->Prop} (ho:N8 X (unaryOp op) r) (ha:PE X a ta):PE X (.UnaryOp op a pos) (RA r ta):=by
 intro pins s σ H Q I h
 exact UnaryOp_ (cT (ha pins s σ H _ I h) fun v s1 ⟨x,H1,I1,r1,q1⟩=>ho pins s1 σ H1 x v Q I1 r1 q1)
theorem Ke {f:Value->Value->Sem Value} {C:Int->Int->Prop} {g:Int->Int->Int}
  (rule:∀ (i j:Int) (t u:Tok) (s:Shared) (Q:Value->Shared->Prop) (E:Value->Shared->Prop),C i j->Q (.int (g i j) s.toks) { s with toks:=s.toks+1 }->wpAny (model X.prog X.w) X.A (f (.int i t) (.int j u)) Q E s) :
  c9 X f (rI C fun i j=>.int (g i j)):=by
 intro pins s σ H x y v u Q I rx ry h
 obtain ⟨i,j,rfl,rfl,hc,q⟩:=h
 obtain ⟨t,rfl⟩:=rx
 obtain ⟨t',rfl⟩:=ry
 exact rule i j t t' s _ _ hc ⟨.int (g i j),H,I.tok _,⟨_,rfl⟩,q⟩
theorem Kf {f:Value->Value->Sem Value} {g:Int->Int->Int}
  (rule:∀ (i j:Int) (t u:Tok) (s:Shared) (Q:Value->Shared->Prop) (E:Value->Shared->Prop),Q (.int (g i j) s.toks) { s with toks:=s.toks+1 }->wpAny (model X.prog X.w) X.A (f (.int i t) (.int j u)) Q E s) :
  c9 X f (FC fun i j=>.int (g i j)):=by
 intro pins s σ H x y v u Q I rx ry h
 obtain ⟨i,j,rfl,rfl,q⟩:=h
 obtain ⟨t,rfl⟩:=rx
 obtain ⟨t',rfl⟩:=ry
 exact rule i j t t' s _ _ ⟨.int (g i j),H,I.tok _,⟨_,rfl⟩,q⟩
theorem C9 {f:Value->Value->Sem Value} {g:Int->Int->Bool}
  (rule:∀ (i j:Int) (t u:Tok) (s:Shared) (Q:Value->Shared->Prop) (E:Value->Shared->Prop),Q (.bool (g i j)) s->wpAny (model X.prog X.w) X.A (f (.int i t) (.int j u)) Q E s) :
  c9 X f (FC fun i j=>.bl (g i j)):=by
 intro pins s σ H x y v u Q I rx ry h
 obtain ⟨i,j,rfl,rfl,q⟩:=h
 obtain ⟨t,rfl⟩:=rx
 obtain ⟨t',rfl⟩:=ry
 exact rule i j t t' s _ _ ⟨.bl (g i j),H,I,rfl,q⟩
noncomputable def zP (i j:Int):Prop:=0<=j/\j<=1000000/\i.natAbs<2 ^ 64
noncomputable def zR (i j:Int):Prop:=(-(2 ^ 64)<i/\i<2 ^ 64)\/(-(2 ^ 64)<j/\j<2 ^ 64)
theorem zR.ok {i j:Int} (h:zR i j):IntMulOk i j:=by
 rcases h with ⟨h1,h2⟩ | ⟨h1,h2⟩
 ·exact .of_left (intBits_le_64 h1 h2)
 ·exact .of_right (intBits_le_64 h1 h2)
theorem GR:c9 X (binaryOp .Add) (FC fun i j=>.int (i+j)):=Kf fun _ _ _ _ _ _ _ q=>add_int q
theorem GS:c9 X (binaryOp .Sub) (FC fun i j=>.int (i-j)):=Kf fun _ _ _ _ _ _ _ q=>sub_int q
theorem GU:c9 X (binaryOp .Mult) (rI zR fun i j=>.int (i*j)):=Ke fun _ _ _ _ _ _ _ hc q=>mul_int q hc.ok
theorem C_:c9 X (binaryOp .Mod) (rI (fun _ j=>j≠0) fun i j=>.int (i.fmod j)):=Ke fun _ _ _ _ _ _ _ hc q=>mod_int' hc q
theorem GV:c9 X (binaryOp .Pow) (rI zP fun i j=>.int (i ^ j.toNat)):=Ke fun _ _ _ _ _ _ _ hc q=>pow_int_small hc.1 hc.2.1 hc.2.2 q
theorem RC {f:Value->Sem Value} {g:Int->Int}
  (rule:∀ (i:Int) (t:Tok) (s:Shared) (Q:Value->Shared->Prop) (E:Value->Shared->Prop),Q (.int (g i) s.toks) { s with toks:=s.toks+1 }->wpAny (model X.prog X.w) X.A (f (.int i t)) Q E s) :
  N8 X f (rU fun i=>.int (g i)):=by
 intro pins s σ H x v Q I rx h
 obtain ⟨i,rfl,q⟩:=h
 obtain ⟨t,rfl⟩:=rx
 exact rule i t s _ _ ⟨.int (g i),H,I.tok _,⟨_,rfl⟩,q⟩
theorem GW:N8 X (unaryOp .USub) (rU fun i=>.int (-i)):=RC fun _ _ _ _ _ q=>neg_int q
end
section
variable {X:Cx} {a b c:Expr} {ta tb tc:TE} {pos:Pos}
theorem zS {pins:List (Addr × Obj)} {σ:St} {H:Hp} {s:Shared} {Q:VK} {k k':Bool} (I:Inv X pins σ H s) (q:Q (.bl k) H) (e:k=k'):EP X pins σ Q (.bool k') s:=by
 subst e
 exact ⟨.bl k,H,I,rfl,q⟩
theorem Kg:c9 X (compareOp .Lt) (FC fun i j=>.bl (decide (i<j))):=C9 fun _ _ _ _ _ _ _ q=>lt_int q
theorem Kh:c9 X (compareOp .LtE) (FC fun i j=>.bl (decide (i<=j))):=C9 fun _ _ _ _ _ _ _ q=>le_int q
theorem Ki:c9 X (compareOp .Gt) (FC fun i j=>.bl (decide (j<i))):=C9 fun _ _ _ _ _ _ _ q=>gt_int q
theorem Kj:c9 X (compareOp .GtE) (FC fun i j=>.bl (decide (j<=i))):=C9 fun _ _ _ _ _ _ _ q=>ge_int q
theorem GX:c9 X (compareOp .Is) (fun x y H Q=>y=.bD/\Q (.bl (decide (x=.bD))) H):=by
 intro pins s σ H x y v u Q I rx ry h
 obtain ⟨rfl,q⟩:=h
 cases ry
 refine is_none_gen (zS I q ?_)
 cases x <;> first
  | (cases rx; rfl)
  | (obtain ⟨t,rfl⟩:=rx; rfl)
theorem Dc:c9 X (compareOp .IsNot) (fun x y H Q=>y=.bD/\Q (.bl (!decide (x=.bD))) H):=by
 intro pins s σ H x y v u Q I rx ry h
 obtain ⟨rfl,q⟩:=h
 cases ry
 refine isnot_none_gen (zS I q ?_)
 cases x <;> first
  | (cases rx; rfl)
  | (obtain ⟨t,rfl⟩:=rx; rfl)
theorem c9.or {f:Value->Value->Sem Value} {r r':R2} (h:c9 X f r) (h':c9 X f r'):c9 X f (fun x y H Q=>r x y H Q\/r' x y H Q):=by
 intro pins s σ H x y v u Q I rx ry q
 rcases q with q | q
 ·exact h pins s σ H x y v u Q I rx ry q
 ·exact h' pins s σ H x y v u Q I rx ry q
theorem zT (b:Expr) {op:CmpOp} (h:op≠.In:=by decide) (h2:op≠.NotIn:=by decide):behindInMarks op b=false:=by
 have e1:(op==CmpOp.In)=false:=by cases op <;> first | rfl | exact absurd rfl h
 have e2:(op==CmpOp.NotIn)=false:=by cases op <;> first | rfl | exact absurd rfl h2
 cases b <;> simp [behindInMarks,e1,e2]
theorem Dd {op:CmpOp} {r:R2} (ho:c9 X (compareOp op) r) (ha:PE X a ta) (hb:PE X b tb) (hm:behindInMarks op b=false):PE X (.Compare a [op] [b] pos) (Jr r ta tb):=by
 intro pins s σ H Q I h
 exact wpAny_Compare1 (GQ ha hb I h fun v u s2 x y H2 I2 rx ry q=>ho pins s2 σ H2 x y v u Q I2 rx ry q) hm
noncomputable def Kk (t:TE):TT:=fun σ H Q=>t σ H fun x H'=>∃ k,x=.bl k/\Q k H'
theorem De {op:CmpOp} {r:R2} (ho:c9 X (compareOp op) r) (ha:PE X a ta) (hb:PE X b tb) (hm:behindInMarks op b=false):PT X (.Compare a [op] [b] pos) (Kk (Jr r ta tb)):=by
 intro pins s σ H Q I h
 refine wpAny_isTrue_Compare1 (cT (ha pins s σ H _ I h) fun v s1 ⟨x,H1,I1,r1,q1⟩=>cT (hb pins s1 σ H1 _ I1 q1) fun u s2 ⟨y,H2,I2,r2,q2⟩=>
  cT (ho pins s2 σ H2 x y v u _ I2 r1 r2 q2) fun c s3 ⟨z,H3,I3,r3,k,e,q3⟩=>?_) hm
 subst e
 cases r3
 exact wpAny_truthy_bool ⟨H3,I3,q3⟩
theorem nJ:(sizeLine:Nat)<2 ^ 63:=by rw [sizeLine_eq]; decide
theorem u9:c9 X (binaryOp .Add) (fun x y H Q=>∃ i j,x=.str i/\y=.str j/\i.length+j.length<=sizeLine/\Q (.str (i++j)) H):=by
 intro pins s σ H x y v u Q I rx ry h
 obtain ⟨i,j,rfl,rfl,hz,q⟩:=h
 obtain ⟨t,rfl⟩:=rx
 obtain ⟨t',rfl⟩:=ry
 exact add_str (fun t' tk=>⟨.str (i++j),H,I.tok _,⟨_,rfl⟩,q⟩) hz
theorem vals1 {x:V} {us:List Value} (r:Vals [x] us):∃ u,us=[u]/\RelV x u:=by
 cases r with
 | cons r1 r2=>cases r2; exact ⟨_,rfl,r1⟩
theorem vals2 {x y:V} {us:List Value} (r:Vals [x,y] us):∃ u w',us=[u,w']/\RelV x u/\RelV y w':=by
 cases r with
 | cons r1 r2=>
  cases r2 with
  | cons r3 r4=>cases r4; exact ⟨_,_,rfl,r1,r3⟩
end
structure GY (h:Heap) (x dx C:Addr) (mA:Str->Option Value):Prop where
 obj:h.get? x=some (PySem.W.instObj C dx)
 ns:h.Ns1 dx mA
 ne:dx≠x
theorem ya {h:Heap} {dx:Addr} {mA:Str->Option Value} (n:h.Ns1 dx mA):∃ od,h.get? dx=some od/\∀ name,PySem.W.lookIn name od=some (mA name):=by
 obtain ⟨o,es,ep,ho,hd,hk,_,hm⟩:=n
 refine ⟨o,ho,fun name=>?_⟩
 have e:=hm name
 unfold nsFind findBy at e
 rw [<-Array.find?_toList] at e
 unfold PySem.W.lookIn
 rw [hd]
 dsimp only
 split
 ·rename_i y q
  rw [q] at e
  exact congrArg some e
 ·rename_i q
  rw [q] at e
  have a:es.toList.any (·.refKey)=false:=by
   rw [List.any_eq_false]
   intro y hy
   obtain ⟨z,t,yb⟩:=hk y (Array.mem_toList_iff.mp hy)
   simp [DictEntry.refKey,yb]
  have a':¬ es.toList.any (·.refKey)=true:=by rw [a]; exact Bool.false_ne_true
  rw [if_neg a']
  exact congrArg some e
theorem GY.look {h:Heap} {x dx C:Addr} {mA:Str->Option Value} (I:GY h x dx C mA):∃ od,PySem.W.InstAt h x (PySem.W.instObj C dx) C (some od)/\∀ name,PySem.W.lookIn name od=some (mA name):=
 let ⟨od,ho,hl⟩:=ya I.ns
 ⟨od,⟨I.obj,rfl,rfl,ho⟩,hl⟩
section
variable {prog:Program} {w:World} {A:Around} {E:Value->Shared->Prop} {s:Shared} {K:PySem.W.Frag} {x dx C f:Addr} {mA:Str->Option Value} {name:Str} {v:Value}
end
theorem j5.some_of {v:V} {o:Option Value} (r:j5 (some v) o):∃ u,o=some u/\RelV v u:=by
 cases o with
 | none=>exact (show False from r).elim
 | some u=>exact ⟨u,rfl,r⟩
section
variable {P:Program} {w:World} {H H':Hp} {h h':Heap} {a C dx:Addr} {fs Rx:List (Str × V)}
theorem Df (bK:iE P w H h) (e:H a=some (.ins C dx fs)):∃ mA,GY h a dx C mA/\(∀ f,j5 (fs.lookup f) (mA f))/\PySem.Within mA (fs.map (·.1))/\fs.length<=1000/\H dx=some (.own a):=by
 obtain ⟨d,z,ne,ob,mA,n,r,q⟩:=(show bx P w H h a (.ins C dx fs) from bK a _ e)
 exact ⟨mA,⟨ob,n,ne⟩,r,q,z,d⟩
end
structure N9 (K:PySem.W.Frag) (C:Addr):Prop where
 pg:PySem.W.plainGet K C Str.empty=true
 hd:PySem.W.hasDictIn K C=true
 po:PySem.W.plainOver K C=true
 sa:PySem.W.findIn K (.ref C) "__setattr__" = some (some (.builtin "object.__setattr__"))
theorem N9.get {K:PySem.W.Frag} {C:Addr} (c:N9 K C) (f:Str):PySem.W.plainGet K C f=true:=c.pg
section
variable {X:Cx} {pins:List (Addr × Obj)} {σ:St} {H:Hp} {s:Shared} {a C dx:Addr} {fs:List (Str × V)} {f:Str} {v:V} {A:Around} {E:Value->Shared->Prop}
end
section
variable {X:Cx} {o e value:Expr} {f:Str} {pos pos' GZ:Pos} {ta tv:TE}
end
section
variable {X:Cx} {pins:List (Addr × Obj)} {σ:St} {H:Hp} {s:Shared} {A:Around} {E:Value->Shared->Prop} {Q:Value->Shared->Prop} {c:Value} {b:Bool}
inductive mO (K:PySem.W.Frag) (H:Hp):V->Value->Prop where
 | bD:mO K H .bD (.type "NoneType")
 | bl (x:Bool):mO K H (.bl x) (.type "bool")
 | int (i:Int):mO K H (.int i) (.type "int")
 | str (x:Str):mO K H (.str x) (.type "str")
 | nh (x:UInt64):mO K H (.nh x) (.type "float")
 | lst {a:Addr} {xs:List V} (e:H a=some (.lst xs)):mO K H (.ref a) (.type "list")
 | jY {a:Addr} {o:Obj} {xs:List V} (e:H a=some (.jY o (.lst xs))):mO K H (.ref a) (.type "list")
 | tup {a:Addr} {xs:List V} (e:H a=some (.tup xs)):mO K H (.ref a) (.type "tuple")
 | dK {a:Addr} {az:List (Key × V)} (e:H a=some (.dK az)):mO K H (.ref a) (.type "dict")
 | dT {a:Addr} {az:List (List Key × V)} (e:H a=some (.dT az)):mO K H (.ref a) (.type "dict")
 | ins {a C dx:Addr} {fs:List (Str × V)} (e:H a=some (.ins C dx fs)) (cl:N9 K C) (ha:PySem.W.findIn K (.ref C) "__class__" = some (some (.builtin "object.__class__")))
   (hn:PySem.W.specialIn K (.builtin "object.__class__") "__get__" = some (some (.builtin "getset_descriptor.__get__"))) (QB:PySem.W.takesIn K (.builtin "object.__class__")=some true)
   (hm:PySem.W.mroIn K C (.type "object")=some true):mO K H (.ref a) (.ref C)
theorem dW {x:V} {u t:Value} (I:Inv X pins σ H s) (rx:RelV x u) (ty:mO X.K H x t) (e:PySem.W.kitOne X.K t c=some b) (h:∀ tk,Q (.bool b) { s with toks:=tk }) :
  wpAny (model X.prog X.w) A (call (.builtin "isinstance") [u,c]) Q E s:=by
 cases ty with
 | bD=>cases (show u=Value.none from rx); exact PySem.W.kia_one PySem.W.kitx_none I.lY True.intro e (fun z=>nomatch z) h
 | bl y=>cases (show u=Value.bool y from rx); exact PySem.W.kia_one PySem.W.kitx_bool I.lY True.intro e (fun z=>nomatch z) h
 | int i=>obtain ⟨t,q⟩:=(show ∃ t,u=Value.int i t from rx); cases q; exact PySem.W.kia_one PySem.W.kitx_int I.lY True.intro e (fun z=>nomatch z) h
 | str y=>obtain ⟨t,q⟩:=(show ∃ t,u=Value.str y t from rx); cases q; exact PySem.W.kia_one PySem.W.kitx_str I.lY True.intro e (fun z=>nomatch z) h
 | nh y=>obtain ⟨t,q⟩:=(show ∃ t,u=Value.float y t from rx); cases q; exact PySem.W.kia_one PySem.W.kitx_float I.lY True.intro e (fun z=>nomatch z) h
 | @lst a xs ea=>
  cases (show u=Value.ref a from rx)
  obtain ⟨_,_,n,_,h1⟩:=(show bx X.prog X.w H s.heap a (.lst xs) from I.bK a _ ea)
  exact PySem.W.kia_one PySem.W.kitx_list I.lY ⟨_,h1,rfl⟩ e (fun z=>nomatch z) h
 | @jY a ob xs ea=>
  cases (show u=Value.ref a from rx)
  obtain ⟨_,_,_,n,_,h1⟩:=(show bx X.prog X.w H s.heap a (.jY ob (.lst xs)) from I.bK a _ ea)
  exact PySem.W.kia_one PySem.W.kitx_list I.lY ⟨_,h1,rfl⟩ e (fun z=>nomatch z) h
 | @tup a xs ea=>
  cases (show u=Value.ref a from rx)
  obtain ⟨_,_,_,p⟩:=(show bx X.prog X.w H s.heap a (.tup xs) from I.bK a _ ea)
  obtain ⟨o,h1,h2,_⟩:=p
  exact PySem.W.kia_one PySem.W.kitx_tuple I.lY ⟨o,h1,h2⟩ e (fun z=>nomatch z) h
 | @dK a az ea=>
  cases (show u=Value.ref a from rx)
  obtain ⟨_,_,vs,_,p⟩:=(show bx X.prog X.w H s.heap a (.dK az) from I.bK a _ ea)
  obtain ⟨o,es,ep,h1,h2,_⟩:=p
  exact PySem.W.kia_one PySem.W.kitx_dict I.lY ⟨o,h1,h2.1⟩ e (fun z=>nomatch z) h
 | @dT a az ea=>
  cases (show u=Value.ref a from rx)
  obtain ⟨_,_,xs,_,o,es,ep,h1,h2,_⟩:=(show bx X.prog X.w H s.heap a (.dT az) from I.bK a _ ea)
  exact PySem.W.kia_one PySem.W.kitx_dict I.lY ⟨o,h1,h2.1⟩ e (fun z=>nomatch z) h
 | @ins a C dx fs ea cl ha hn QB hm=>
  cases (show u=Value.ref a from rx)
  obtain ⟨mA,O,_⟩:=Df I.bK ea
  obtain ⟨od,J,_⟩:=O.look
  exact PySem.W.kia_one (PySem.W.kitx_own (cl.get _) cl.hd ha hn QB hm) I.lY J e (fun z=>nomatch z) h
end
structure eM (k:Nat) (A:Around):Prop where
 hd:A.handled=none
 dp:A.depth+3*k+5<recursionLimit
 un:A.units+16*k+200<cLine
theorem eM.mono {j k:Nat} {A:Around} (r:eM k A) (h:j<=k):eM j A:=⟨r.hd,by have:=r.dp; lia,by have:=r.un; lia⟩
theorem eM.deeper {k:Nat} {A:Around} (r:eM (k+1) A) (env:Env):eM k (A.deeper env):=
 ⟨r.hd,by have:=r.dp; show A.depth+1+3*k+5<_; lia,by have:=r.un; show A.units+3+16*k+200<_; lia⟩
theorem eM.depth {k:Nat} {A:Around} (r:eM k A):A.depth<recursionLimit:=by have:=r.dp; lia
theorem eM.units {k:Nat} {A:Around} (r:eM k A):A.units+64<cLine:=by have:=r.un; lia
noncomputable def Kl:TA:=fun _ H Q=>Q [] H
noncomputable def FD (ta:TE) (tr:TA):TA:=fun σ H Q=>ta σ H fun x H1=>tr σ H1 fun xs H2=>Q (x::xs) H2
section
variable {X:Cx} {e:Expr} {es:List Expr} {te:TE} {t:TA} {pos:Pos}
theorem kY:PA X [] Kl:=fun _ _ _ _ H Q I h=>Calls.spliced_nil ⟨[],H,I,.nil,h⟩
theorem fE (ha:PE X e te) (hr:PA X es t) (hs:starEach (e::es) X.env=(false,eval e X.env)::starEach es X.env:=by rfl):PA X (e::es) (FD te t):=by
 intro pos pins s σ H Q I h
 rw [hs]
 show wpAny _ _ (spliced ((false,eval e X.env)::backTo pos (starEach es X.env))) _ _ s
 refine Calls.spliced_cons (cT (ha pins s σ H _ I h) fun u s1 ⟨x,H1,I1,r1,q1⟩=>?_)
 exact cT (hr pos pins s1 σ H1 _ I1 q1) fun us s2 ⟨xs,H2,I2,r2,q2⟩=>⟨x::xs,H2,I2,.cons r1 r2,q2⟩
noncomputable def N_ (t:TA):TE:=fun σ H Q=>t σ H fun xs H1=>xs.length<=sizeLine/\∀ p,H1 p=none->Q (.ref p) (upd H1 p (.tup xs))
noncomputable def Oa (t:TA):TE:=fun σ H Q=>t σ H fun xs H1=>xs.length<=sizeLine/\∀ p,H1 p=none->Q (.ref p) (upd H1 p (.lst xs))
theorem G0 {x1} (h:PA X es t):PE X (.Tuple es x1 pos) (N_ t):=by
 intro pins s σ H Q I hq
 refine wpAny_Tuple_spliced (cT (h pos pins s σ H _ I hq) fun us s1 ⟨xs,H1,I1,r,z,q⟩=>⟨by rw [<-r.length]; exact z,?_⟩)
 have hf:H1 s1.heap.objs.size=none:=I1.bK.fresh (Nat.le_refl _)
 refine ⟨.ref s1.heap.objs.size,upd H1 s1.heap.objs.size (.tup xs),I1.laid (t':=s1.toks) (fun b u e=>Heap.get?_push_of_some _ e) (Nat.le_refl _) ?_,rfl,q _ hf⟩
 exact ⟨z,us,r,⟨_,Heap.get?_push_size _ rfl,rfl,_,rfl⟩⟩
theorem G1 (h:PA X es t):PE X (.List es pos) (Oa t):=by
 intro pins s σ H Q I hq
 refine wpAny_List_spliced (cT (h pos pins s σ H _ I hq) fun us s1 ⟨xs,H1,I1,r,z,q⟩=>⟨by rw [<-r.length]; exact z,?_⟩)
 have hf:H1 s1.heap.objs.size=none:=I1.bK.fresh (Nat.le_refl _)
 refine ⟨.ref s1.heap.objs.size,upd H1 s1.heap.objs.size (.lst xs),I1.laid (t':=s1.toks) (fun b u e=>Heap.get?_push_of_some _ e) (Nat.le_refl _) ?_,rfl,q _ hf⟩
 exact ⟨z,us,0,r,Heap.get?_push_size _ rfl⟩
end
noncomputable abbrev Sp:=List V->Hp->VK->XK->Prop
noncomputable abbrev uU:=List Env->Hp->Shared->XK->Value->Shared->Prop
structure u_ (P:Program) (w:World) (K:PySem.W.Frag) (mg:Str->Option Value) (base:Heap) (A:Around) (outer:List Env) (s:Shared) (H:Hp):Prop where
 frames:A.frames=some outer
 mod:Mod K mg base
 bs:∀ b o,base.get? b=some o->s.heap.get? b=some o/\H b=none
 CC:base.objs.size<=s.heap.objs.size
 iN:s.heap.FunFrames base outer
 zB:∀ b∈fK outer,H b=none
 bK:iE P w H s.heap
 bare:AllBare s.gens
noncomputable def CE (outer:List Env) (P:Program) (w:World) (H:Hp) (s:Shared) (Q:VK) (u:Value) (s':Shared):Prop:=
 ∃ v H',s'.os=s.os/\AllBare s'.gens/\Un (fK outer) [] H H' s.heap s'.heap/\iE P w H' s'.heap/\RelV v u/\Q v H'
noncomputable def CR (CX:uU) (outer:List Env) (P:Program) (w:World) (H:Hp) (s:Shared) (Q:VK) (E:XK) (r:Result) (s':Shared):Prop:=
 match r with
 | .ok (.ret u)=>CE outer P w H s Q u s'
 | .ok _=>False
 | .error e=>CX outer H s E e s'
structure iO (P:Program) (w:World) (K:PySem.W.Frag) (mg:Str->Option Value) (base:Heap) (CX:uU) (k:Nat) (f:Addr) (fd:FuncData) (ps:List Str) (sp:Sp):Prop where
 len:∀ vs H Q E,sp vs H Q E->vs.length=ps.length
 run:∀ (A:Around) (outer:List Env) (s:Shared) (H:Hp) (args:Args) (us:List Value) (vs:List V) (Q:VK) (E:XK),eM k A->u_ P w K mg base A outer s H->BindsTo s fd args (ps.zip us)->Vals vs us->sp vs H Q E ->
  codeAny (model P w) A (.call (.ref f) args) (CR CX outer P w H s Q E) s
theorem iO.imp {P:Program} {w:World} {K:PySem.W.Frag} {mg:Str->Option Value} {base:Heap} {CX:uU} {k:Nat} {f:Addr} {fd:FuncData} {ps:List Str} {sp QC:Sp} (F:iO P w K mg base CX k f fd ps sp)
  (h:∀ vs H Q E,QC vs H Q E->sp vs H Q E):iO P w K mg base CX k f fd ps QC:=
 ⟨fun vs H Q E q=>F.len vs H Q E (h _ _ _ _ q),fun A outer s H args us vs Q E hr he hb hv hs=>F.run A outer s H args us vs Q E hr he hb hv (h _ _ _ _ hs)⟩
section
variable {X:Cx} {pins:List (Addr × Obj)} {σ:St} {H:Hp} {s s':Shared}
theorem Inv.G4 (I:Inv X pins σ H s):u_ X.prog X.w X.K X.mg X.base X.A X.stack s H:=
 ⟨I.ok.frames,I.ok.mod,I.bs,Nat.le_trans I.ok.CC I.sz,I.stack,I.qS,I.bK,I.bare⟩
theorem Inv.after {Q:VK} {u:Value} (I:Inv X pins σ H s) (h:CE X.stack X.prog X.w H s Q u s'):EP X pins σ Q u s':=by
 obtain ⟨v,H',os,bare,un,bK,r,q⟩:=h
 obtain ⟨hh,g,d,t,RD⟩:=s'
 obtain rfl:RD=s.os:=os
 exact ⟨v,H',I.call (h':=hh) (g':=g) (d':=d) (t':=t) (ch:=[]) un bK bare (fun b z=>absurd z (by simp)),r,q⟩
end
noncomputable def Km (sp:Sp) (Dg:List V) (E:XK) (t:TA):TE:=fun σ H Q=>t σ H fun vs H1=>sp (vs++Dg) H1 Q E
noncomputable def Binds (K:PySem.W.Frag) (fd:FuncData) (ps:List Str) (ds:List Value):Prop:=
 ∀ (s:Shared) (us:List Value),K.In s.heap->(us++ds).length=ps.length->BindsTo s fd ⟨us,[]⟩ (ps.zip (us++ds))
theorem Binds.all {K:PySem.W.Frag} {fd:FuncData} {ps:List Str} (h:∀ us:List Value,us.length=ps.length->bindArgs fd ⟨us,[]⟩=pure (ps.zip us)):Binds K fd ps []:=fun s us _ hl=>by
 rw [List.append_nil] at hl ⊢
 exact .of_eq (h us hl)
noncomputable def Passes (CX:uU) (X:Cx) (E:XK):Prop:=∀ (pins:List (Addr × Obj)) (σ:St) (H:Hp) (s:Shared) (e:Value) (s':Shared),Inv X pins σ H s->CX X.stack H s E e s'->X.xe e s'
section
variable {X:Cx} {CX:uU} {k:Nat} {f C:Addr} {fd:FuncData} {ps:List Str} {sp:Sp} {Dg:List V} {ds:List Value} {E:XK} {x m:Str} {p pos apos:Pos} {e o:Expr} {es:List Expr} {ta:TE} {t:TA}
theorem G5 {pins:List (Addr × Obj)} {σ:St} {H:Hp} {s:Shared} {Q:VK} {us:List Value} {vs:List V} (F:iO X.prog X.w X.K X.mg X.base CX k f fd ps sp) (hr:eM k X.A) (hb:Binds X.K fd ps ds) (hd:Vals Dg ds) (hx:Passes CX X E)
  (I:Inv X pins σ H s) (r:Vals vs us) (h:sp (vs++Dg) H Q E):wpAny (model X.prog X.w) X.A (call (.ref f) us) (EP X pins σ Q) X.xe s:=by
 have r2:Vals (vs++Dg) (us++ds):=r.append hd
 have hl:(us++ds).length=ps.length:=by rw [<-r2.length]; exact F.len _ _ _ _ h
 refine wpAny_call (codeAny_mono (F.run X.A X.stack s H ⟨us,[]⟩ (us++ds) (vs++Dg) Q E hr I.G4 (hb s us I.lY hl) r2 h) fun r s' hq=>?_)
 cases r with
 | error e=>exact hx pins σ H s e s' I hq
 | ok fl=>
  cases fl with
  | ret u=>exact I.after hq
  | next=>exact False.elim hq
  | brk=>exact False.elim hq
  | cont=>exact False.elim hq
theorem Dh (F:iO X.prog X.w X.K X.mg X.base CX k f fd ps sp) (hr:eM k X.A) (hg:Gl X x) (hm:X.mg x=some (.ref f)) (hk:PySem.W.keepIn X.K (.ref f)=true) (hb:Binds X.K fd ps ds) (hd:Vals Dg ds) (hx:Passes CX X E)
  (ha:PA X (e::es) t) (j7:(x==("__debug__":Str))=false:=by decide) (he:starEach (e::es) X.env=(false,eval e X.env)::starEach es X.env:=by rfl) (iF:(backTo pos (starEach es X.env)).any (·.1)=false:=by rfl) :
  PE X (.Call (.Name x p) (e::es) [] pos) (Km sp Dg E t):=by
 intro pins s σ H Q I h
 refine wpAny_Call_Name_kw (jb I hg hm ?_ j7)
 refine PySem.W.callWith_K (h₀:=X.base) I.ok.mod.Fu hk (cT (ha pos pins s σ H _ I h) fun us s1 ⟨vs,H1,I1,r,q⟩=>⟨I1.lY,?_⟩) he iF
 exact G5 F hr hb hd hx I1 r q
end
noncomputable def PK (X:Cx) (zU:List Keyword) (t:TA):Prop:=
 ∀ (pos:Pos) (pins:List (Addr × Obj)) (s:Shared) (σ:St) (H:Hp) (Q:List V->Hp->Prop),Inv X pins σ H s->t σ H Q->wpAny (model X.prog X.w) X.A (evalAll ((backToKw pos (keywordEach zU X.env)).map (·.2))) (AP X pins σ Q) X.xe s
section
variable {X:Cx} {CX:uU} {k:Nat} {f C:Addr} {fd:FuncData} {ps ks:List Str} {sp:Sp} {E:XK} {x m:Str} {p pos apos Ob:Pos} {e o:Expr} {es:List Expr} {zU:List Keyword} {te ta:TE} {t tk:TA} {nm:Option Str}
theorem G6:PK X [] Kl:=fun _ _ _ _ H Q I h=>wpAny_evalAll_nil ⟨[],H,I,.nil,h⟩
theorem Dj (ha:PE X e te) (hr:PK X zU t):PK X (⟨nm,e,Ob⟩::zU) (FD te t):=by
 intro pos pins s σ H Q I h
 show wpAny _ _ (evalAll ((do let v <- eval e X.env; standAt pos; pure v)::(backToKw pos (keywordEach zU X.env)).map (·.2))) _ _ s
 refine wpAny_evalAll_cons (wpAny_bind (cT (ha pins s σ H _ I h) fun u s1 ⟨x,H1,I1,r1,q1⟩=>wpAny_bind (wpAny_standAt (wpAny_pure ?_))))
 exact cT (hr pos pins s1 σ H1 _ I1 q1) fun us s2 ⟨xs,H2,I2,r2,q2⟩=>⟨x::xs,H2,I2,.cons r1 r2,q2⟩
variable {g:List Value->List Value->List Value} {gV:List V->List V->List V}
end
structure bg (N P:List Str) (sc:Scope):Prop where
 kind:sc.kind=.function
 co:sc.isCoroutine=false
 gen:sc.isGenerator=false
 nd:N.Nodup
 pre:N.take P.length=P
 par:∀ x∈P,sc.names.lookup x=some .local\/sc.names.lookup x=some .cell
 G7:∀ y∈sc.names,y.2≠.free
theorem p4 {kindOf:Str->Option NameKind} {x:Str}:∀ {binds:List (Str × Value)} {m:Str->Option Value},(∀ v,(x,v) ∉ binds)->bindL kindOf binds m x=m x
 | [],_,_=>rfl
 | (n,v)::r,m,h=>by
  unfold bindL
  rw [p4 fun w hw=>h w (List.mem_cons_of_mem _ hw)]
  split
  ·have:x≠n:=by rintro rfl; exact h v List.mem_cons_self
   simp [this]
  ·rfl
theorem p5 {kindOf:Str->Option NameKind} {x:Str}:∀ {binds:List (Str × Value)} {m:Str->Option Value},(∀ v,(x,v) ∉ binds)->bindC kindOf binds m x=m x
 | [],_,_=>rfl
 | (n,v)::r,m,h=>by
  unfold bindC
  rw [p5 fun w hw=>h w (List.mem_cons_of_mem _ hw)]
  split
  ·rfl
  ·have:x≠n:=by rintro rfl; exact h v List.mem_cons_self
   simp [this]
theorem p6 {kindOf:Str->Option NameKind} {x:Str} {v:Value}:∀ {P:List Str} {vs:List Value} {i:Nat} {m:Str->Option Value},P.Nodup->P[i]?=some x->vs[i]?=some v->kindOf x=some .local ->
  bindL kindOf (P.zip vs) m x=some v
 | [],_,_,_,_,h,_,_=>by simp at h
 | _::_,[],_,_,_,_,h,_=>by simp at h
 | p::P,w::vs,0,m,nd,h1,h2,hk=>by
  simp at h1 h2; subst h1; subst h2
  show bindL kindOf ((p,w)::P.zip vs) m p=_
  unfold bindL
  rw [p4 fun v hv=>(List.nodup_cons.mp nd).1 (List.of_mem_zip hv).1,if_pos hk]
  simp
 | p::P,w::vs,i+1,m,nd,h1,h2,hk=>by
  show bindL kindOf ((p,w)::P.zip vs) m x=_
  unfold bindL
  exact p6 (i:=i) (List.nodup_cons.mp nd).2 (by simpa using h1) (by simpa using h2) hk
theorem p7 {kindOf:Str->Option NameKind} {x:Str} {v:Value}:∀ {P:List Str} {vs:List Value} {i:Nat} {m:Str->Option Value},P.Nodup->P[i]?=some x->vs[i]?=some v->kindOf x≠some .local ->
  bindC kindOf (P.zip vs) m x=some v
 | [],_,_,_,_,h,_,_=>by simp at h
 | _::_,[],_,_,_,_,h,_=>by simp at h
 | p::P,w::vs,0,m,nd,h1,h2,hk=>by
  simp at h1 h2; subst h1; subst h2
  show bindC kindOf ((p,w)::P.zip vs) m p=_
  unfold bindC
  rw [p5 fun v hv=>(List.nodup_cons.mp nd).1 (List.of_mem_zip hv).1,if_neg hk]
  simp
 | p::P,w::vs,i+1,m,nd,h1,h2,hk=>by
  show bindC kindOf ((p,w)::P.zip vs) m x=_
  unfold bindC
  exact p7 (i:=i) (List.nodup_cons.mp nd).2 (by simpa using h1) (by simpa using h2) hk
noncomputable def start (N:List Str) (vs:List V):St:=vs.map some++List.replicate (N.length-vs.length) none
noncomputable def gU (CX:uU) (P:Program) (w:World) (K:PySem.W.Frag) (mg:Str->Option Value) (base:Heap) (N:List Str) (qual:Str) (scope:Scope) (f:Addr) (cd:Value) (A:Around) (outer:List Env) (s:Shared) (H:Hp) (E:XK):Cx where
 prog:=P
 w:=w
 K:=K
 mg:=mg
 base:=base
 A:=A.deeper (envOfC qual scope s.heap.objs.size f cd)
 N:=N
 s₀:=s
 H₀:=H
 env:=envOfC qual scope s.heap.objs.size f cd
 outer:=outer
 stack:=envOfC qual scope s.heap.objs.size f cd::outer
 ex:=[]
 calm:=true
 fn:=fun _=>true
 pn:=[]
 xe:=fun e s'=>wpAny (model P w) (A.deeper (envOfC qual scope s.heap.objs.size f cd)) (leaving (envOfC qual scope s.heap.objs.size f cd) e) (fun _ Oc=>CX outer H s E e Oc) (fun e' Oc=>CX outer H s E e' Oc) s'
theorem s_ {sc:Scope} {n:Nat} {x:Str} (h:sc.names.lookup x=some .cell):∃ c,(cellsFrom n sc.names []).lookup x=some c:=by
 have q:=PySem.W.cellsFrom_some sc.names n [] (.inl h)
 exact Option.isSome_iff_exists.mp q
theorem p8 {CX:uU} {P:Program} {w:World} {K:PySem.W.Frag} {mg:Str->Option Value} {base:Heap} {N ps:List Str} {qual:Str} {scope:Scope} {f:Addr} {cd:Value} {A:Around} {outer:List Env} {s s1:Shared} {H:Hp} {E:XK} {us:List Value} {vs:List V}
  (S:bg N ps scope) (hd:A.handled=none) (e0:u_ P w K mg base A outer s H) (hl:vs.length=ps.length) (r:Vals vs us)
  (x:InCallC s s.heap.objs.size (bindL (envOfC qual scope s.heap.objs.size f cd).kindOf (ps.zip us) fun _=>none) (cellsFrom (s.heap.objs.size+1) scope.names []) (bindC (envOfC qual scope s.heap.objs.size f cd).kindOf (ps.zip us) fun _=>none) s1) :
  Inv (gU CX P w K mg base N qual scope f cd A outer s H E) [] (start N vs) H s1:=by
 have iF:ps.length<=N.length:=by have:=congrArg List.length S.pre; rw [List.length_take] at this; lia
 obtain ⟨h1,tk,rfl,hk⟩:=x.done
 have Kn:∀ b:Addr,b ∉ (gU CX P w K mg base N qual scope f cd A outer s H E).ex:=fun b z=>absurd (show b∈([]:List Addr) from z) (by simp)
 refine ⟨⟨e0.mod,S.kind,rfl,rfl,Nat.le_refl _,fun y z c h1 h2=>?_,fun y hy=>?_,fun y c _ h=>?_,fun _=>hd,Around.frames_deeper e0.frames,.inr ⟨rfl,rfl⟩,fun b z=>absurd z (Kn b),e0.bs,e0.CC,fun b _ _=>Kn b,fun b z=>absurd z (Kn b),e0.iN,e0.zB⟩,
  rfl,e0.bare,Un.kept hk,⟨_,x.toInCall.ns,fun i y v h1 h2 h3=>?_⟩,fun y c h=>⟨_,x.cell y c h⟩,e0.bK.fresh (Nat.le_refl _),fun y c h=>?_,fun p hp=>absurd (show p∈([]:List (Addr × Obj)) from hp) (by simp),e0.bK.kept hk,?_⟩
 ·exact name_of_addr x.apart (PySem.mem_of_lookup h1) (PySem.mem_of_lookup h2)
 ·have hy:scope.names.lookup y=some .cell\/scope.names.lookup y=some .free:=hy
  rcases hy with hy | hy
  ·exact s_ hy
  ·exact absurd rfl (S.G7 _ (PySem.mem_of_lookup hy))
 ·exact Nat.le_of_lt (x.above y c (PySem.mem_of_lookup h))
 ·have hi:i<vs.length:=by
   unfold start at h2
   by_cases hi:i<vs.length
   ·exact hi
   ·rw [List.getElem?_append_right (by simpa using hi)] at h2
    rw [List.getElem?_replicate] at h2
    split at h2 <;> cases h2
  have ha:vs[i]?=some v:=by
   unfold start at h2
   rw [List.getElem?_append_left (by simpa using hi),List.getElem?_map] at h2
   cases e:vs[i]? with
   | none=>rw [e] at h2; cases h2
   | some a=>rw [e] at h2; cases h2; rfl
  obtain ⟨u,hu,rv⟩:=r.get ha
  have hp:ps[i]?=some y:=by
   rw [<-S.pre,List.getElem?_take_of_lt (by lia)]; exact h1
  have QD:ps.Nodup:=by rw [<-S.pre]; exact S.nd.sublist (List.take_sublist _ _)
  refine ⟨u,rv,?_⟩
  rcases S.par y (List.mem_of_getElem? hp) with k | k
  ·exact .inl ⟨k,p6 QD hp hu k⟩
  ·obtain ⟨c,e⟩:=s_ (n:=s.heap.objs.size+1) k
   refine .inr ⟨.inl k,c,e,?_⟩
   have q:=x.cell y c e
   rw [p7 QD hp hu (by show scope.names.lookup y≠_; rw [k]; decide)] at q
   exact q
 ·exact e0.bK.fresh (Nat.le_of_lt (x.above y c (PySem.mem_of_lookup h)))
 ·unfold start
  show _=N.length
  rw [List.length_append,List.length_map,List.length_replicate]
  lia
theorem Ko {CX:uU} {P:Program} {w:World} {K:PySem.W.Frag} {mg:Str->Option Value} {base:Heap} {k:Nat} {f:Addr} {name qual:Str} {params:Arguments} {body:List Stmt} {scope:Scope} {dV kV doc pm cU ct oc:Value} {an od:Option Addr}
  {yc:Array (Option Value)} {N ps:List Str} {sp:Sp} (lk:K.lookup f=some ⟨oc,od,.func (PySem.W.fnOf name qual params body scope dV kV doc pm an cU ct),yc⟩) (nE:PySem.W.codeIn K cU qual=true) (S:bg N ps scope)
  (len:∀ vs H Q E,sp vs H Q E->vs.length=ps.length)
  (tf:∀ (A:Around) (outer:List Env) (s:Shared) (H:Hp) (vs:List V) (Q:VK) (E:XK),eM k (A.deeper (envOfC qual scope s.heap.objs.size f cU))->sp vs H Q E ->
   ∃ t,jZ (gU CX P w K mg base N qual scope f cU A outer s H E) body t/\t { nx:=fun _ H'=>Q .bD H',rt:=Q } (start N vs) H) :
  iO P w K mg base CX (k+1) f (PySem.W.fnOf name qual params body scope dV kV doc pm an cU ct) ps sp:=by
 refine ⟨len,fun A outer s H args us vs Q E hr e0 hb r FE=>?_⟩
 have hl:=len _ _ _ _ FE
 have KX:K.In s.heap:=e0.mod.Fu.keeps fun b o e=>(e0.bs b o e).1
 have lim:s.heap.NoLimit:=e0.mod.nolimit.keeps fun b o e=>(e0.bs b o e).1
 have zV:∀ y∈ps.zip us,scope.names.lookup y.1=some .local\/(scope.names.lookup y.1=some .cell/\((cellsFrom (s.heap.objs.size+1) scope.names []).lookup y.1).isSome=true):=fun ⟨n,v⟩ hy=>by
  rcases S.par n (List.of_mem_zip hy).1 with q | q
  ·exact .inl q
  ·exact .inr ⟨q,PySem.W.cellsFrom_some _ _ _ (.inl q)⟩
 refine codeAny_call_function hr.depth (KX _ _ lk) rfl S.co S.gen rfl (PySem.W.codeRec_of KX nE) (hb _ _ _ _ ?_)
 refine wpAny_newFunctionEnv_cells S.kind zV fun env he s1 x=>?_
 subst he
 refine ⟨lim.keeps x.toInCall.keep,codeAny_func ?_⟩
 obtain ⟨t,ht,hq⟩:=tf A outer s H vs Q E (hr.deeper _) FE
 have I:Inv (gU CX P w K mg base N qual scope f cU A outer s H E) [] (start N vs) H s1:=p8 S hr.hd e0 hl r x
 refine wpAny_mono (ht [] s1 (start N vs) H _ I hq) (fun fl s' hs=>?_) fun e s' hs=>hs
 have fin:∀ {σ':St} {H':Hp} {v:V} {u:Value},Inv (gU CX P w K mg base N qual scope f cU A outer s H E) [] σ' H' s'->RelV v u->Q v H'->CE outer P w H s Q u s':=
  fun {σ' H' v u} J rv q=>⟨v,H',J.os,J.bare,J.base,J.bK,rv,q⟩
 cases fl with
 | ret u=>
  obtain ⟨v,σ',H',J,rv,q⟩:=hs
  exact fin J rv q
 | next=>
  obtain ⟨σ',H',J,q⟩:=hs
  exact fin (v:=V.bD) (u:=Value.none) J rfl q
 | brk=>
  obtain ⟨_,_,_,q⟩:=hs
  exact False.elim q
 | cont=>
  obtain ⟨_,_,_,q⟩:=hs
  exact False.elim q
section
variable {X:Cx} {x:Str} {p pos:Pos} {e:Expr} {es:List Expr} {t:TA} {id T:String} {r:List V->Hp->VK->Prop}
noncomputable def QE (r:List V->Hp->VK->Prop) (t:TA):TE:=fun σ H Q=>t σ H fun vs H1=>r vs H1 Q
theorem j8 (hc:bt X (.builtin id) r) (hg:Gl X x) (hm:X.mg x=none) (hv:bootBuiltins x=some (.builtin id)) (ha:PA X (e::es) t) (hn:x ≠ "__name__":=by decide) (j7:(x==("__debug__":Str))=false:=by decide)
  (he:starEach (e::es) X.env=(false,eval e X.env)::starEach es X.env:=by rfl) (iF:(backTo pos (starEach es X.env)).any (·.1)=false:=by rfl):PE X (.Call (.Name x p) (e::es) [] pos) (QE r t):=by
 intro pins s σ H Q I h
 refine wpAny_Call_Name_kw (kW I hg hm hv ?_ hn j7)
 exact PyProof.Rows.callWith_builtin1 (cT (ha pos pins s σ H _ I h) fun us s1 ⟨vs,H1,I1,r1,q1⟩=>hc pins s1 σ H1 vs us Q I1 r1 q1) he iF
theorem yd (hc:bt X (.type T) r) (hg:Gl X x) (hm:X.mg x=none) (hv:bootBuiltins x=some (.type T)) (ha:PA X (e::es) t) (hn:x ≠ "__name__":=by decide) (j7:(x==("__debug__":Str))=false:=by decide)
  (he:starEach (e::es) X.env=(false,eval e X.env)::starEach es X.env:=by rfl) (iF:(backTo pos (starEach es X.env)).any (·.1)=false:=by rfl):PE X (.Call (.Name x p) (e::es) [] pos) (QE r t):=by
 intro pins s σ H Q I h
 refine wpAny_Call_Name_kw (kW I hg hm hv ?_ hn j7)
 exact PyProof.Rows.callWith_type1 (cT (ha pos pins s σ H _ I h) fun us s1 ⟨vs,H1,I1,r1,q1⟩=>hc pins s1 σ H1 vs us Q I1 r1 q1) he iF
end
end L2
namespace HT
open PySem PyProof.Rows
section
open PySem.SeqAt
open PySem.AutoSeq1 (wpAny_loadPart')
open PySem.MeetsSeq PySem.MeetsSeq2 PySem.MeetsSeq3
end
section
variable {prog:Program} {w:World} {A:Around} {E:Value->Shared->Prop} {s:Shared}
theorem Dk {t b:Addr} {vs ws:List Value} {Q:Value->Shared->Prop} (ht:IsTup s.heap t vs.toArray) (hb:IsTup s.heap b ws.toArray) (hv:vs≠[])
  (h1:ws=[]->Q (.ref t) s) (h2:ws≠[]->Q (.ref s.heap.objs.size) { s with heap:=s.heap.push { cls:=.type "tuple",data:=.seq (vs++ws).toArray } })
  (hsz:vs.length+ws.length<=sizeLine):wpAny (model prog w) A (binaryOp .Add (.ref t) (.ref b)) Q E s:=by
 obtain ⟨⟨cls,dd,data,sl⟩,ho,hc,n,hd⟩:=id ht
 obtain ⟨⟨Od,MQ,data2,Kq⟩,ti,wH,n2,hd2⟩:=id hb
 simp only at hc hd wH hd2
 subst hc hd wH hd2
 have e:vs.toArray++ws.toArray=(vs++ws).toArray:=by simp
 by_cases hw:ws=[]
 ·exact concat_meets ⟨_,ho,rfl⟩ ⟨_,ti,rfl⟩ noFill_tuple_add seq_tuple_add PySem.F.slot_tuple_add PySem.F.entry_tuple_add (PySem.F.args_tuple_add_2 _ _)
   (tuple_addW1 t b vs.toArray ws.toArray n n2 dd MQ sl Kq (by simpa using hv) (by simp [hw])) ⟨ho,ti,h1 hw⟩
 ·refine concat_meets ⟨_,ho,rfl⟩ ⟨_,ti,rfl⟩ noFill_tuple_add seq_tuple_add PySem.F.slot_tuple_add PySem.F.entry_tuple_add (PySem.F.args_tuple_add_2 _ _)
   (tuple_addW2 t b vs.toArray ws.toArray n n2 dd MQ sl Kq (by simpa using hv) (by simpa using hw) (by rw [List.size_toArray,List.size_toArray]; exact hsz)) ⟨ho,ti,?_⟩
  rw [e]
  exact h2 hw
noncomputable def eh (n d:Nat):Option Int->Nat
 | none=>d
 | some v=>if v<0 then (v+(n:Int)).toNat else min v.toNat n
theorem zW (n d:Nat):eh n d none=d:=rfl
theorem G8 (n d:Nat) (hd:d<=n) (o:Option Int):eh n d o<=n:=by
 cases o with
 | none=>exact hd
 | some v=>
  show (if v<0 then (v+(n:Int)).toNat else min v.toNat n)<=n
  by_cases hv:v<0
  ·rw [if_pos hv]; lia
  ·rw [if_neg hv]; exact Nat.min_le_right _ _
theorem qW (v:Int) (n d:Nat):(if v<0 then max (v+(n:Int)) 0 else min v (n:Int))=((eh n d (some v):Nat):Int):=by
 show (if v<0 then max (v+(n:Int)) 0 else min v (n:Int))=(((if v<0 then (v+(n:Int)).toNat else min v.toNat n):Nat):Int)
 by_cases hv:v<0
 ·simp only [if_pos hv]; lia
 ·simp only [if_neg hv]; lia
theorem vc (lo hi:Option Int) (n:Nat):Builtin.Slice.sliceAdjust lo hi 1 (n:Int)=(((eh n 0 lo:Nat):Int),((eh n n hi:Nat):Int)):=by
 have h1:¬ ((1:Int)<0):=by lia
 unfold Builtin.Slice.sliceAdjust
 simp only [h1,if_false]
 refine Prod.ext ?_ ?_
 ·cases lo with
  | none=>rfl
  | some v=>exact qW v n 0
 ·cases hi with
  | none=>rfl
  | some v=>exact qW v n n
theorem vd (i j:Nat):Builtin.Slice.slicePlaces (i:Int) (j:Int) 1=j-i:=by
 unfold Builtin.Slice.slicePlaces
 have h1:(1:Int)>0:=by lia
 simp only [h1,if_true,Int.ediv_one]
 split <;> lia
theorem nK {v:Value} {o:Option Int} {Q:Option Int->Shared->Prop} (p:IsPart v o) (h:Q o s):wpAny (model prog w) A (Builtin.Slice.slicePartIndex v) Q E s:=by
 cases p with
 | none=>exact slicePart_none h
 | int i t=>exact slicePart_int h
theorem kZ {sl:Addr} {vl vu:Value} {lo hi:Option Int} {n:Nat} {Q:Int × Int × Nat->Shared->Prop} (hs:s.heap.IsSliceOf sl vl vu .none) (pl:IsPart vl lo) (pu:IsPart vu hi)
  (h:Q (((eh n 0 lo:Nat):Int),1,eh n n hi-eh n 0 lo) s):wpAny (model prog w) A (Builtin.Slice.sliceApplied (.ref sl) (pure (n:Int))) Q E s:=by
 obtain ⟨os,Kr,QF,MR⟩:=id hs
 unfold Builtin.Slice.sliceApplied Builtin.Slice.sliceFields
 refine wpAny_bind (wpAny_bind (wpAny_field Kr MR (x:=vl) rfl (wpAny_bind (wpAny_field Kr MR (x:=vu) rfl (wpAny_bind (wpAny_field Kr MR (x:=.none) rfl (wpAny_pure ?_)))))))
 refine wpAny_bind (slicePart_none ?_)
 show wpAny _ _ (if ((1:Int)==0)=true then _ else _) _ _ s
 rw [if_neg (by decide)]
 refine wpAny_bind (nK pl (wpAny_bind (nK pu (wpAny_bind (wpAny_pure ?_)))))
 show wpAny _ _ (match Builtin.Slice.sliceAdjust lo hi 1 (n:Int) with | (lo,hi)=>pure (lo,(1:Int),Builtin.Slice.slicePlaces lo hi 1)) _ _ s
 rw [vc lo hi n]
 show wpAny _ _ (pure (((eh n 0 lo:Nat):Int),(1:Int),Builtin.Slice.slicePlaces ((eh n 0 lo:Nat):Int) ((eh n n hi:Nat):Int) 1)) _ _ s
 rw [vd]
 exact wpAny_pure h
theorem zZ (xs:Array Value) (i k:Nat):((List.range k).filterMap fun (m:Nat)=>xs[((i:Int)+(m:Int)*1).toNat]?).toArray=((xs.toList.drop i).take k).toArray:=by
 have e:(fun (m:Nat)=>xs[((i:Int)+(m:Int)*1).toNat]?)=fun m=>xs[i+m]?:=by
  funext m
  have:((i:Int)+(m:Int)*1).toNat=i+m:=by lia
  rw [this]
 rw [e]
 have:=pick_run xs i k
 rw [List.filterMap_map] at this
 have e2:((fun x=>xs[x]?) ∘ fun x=>i+x)=fun m=>xs[i+m]?:=rfl
 rw [e2] at this
 rw [this]
theorem j9 {t sl:Addr} {items:Array Value} {vl vu:Value} {lo hi:Option Int} {Q:Value->Shared->Prop} (ht:IsTup s.heap t items) (hs:s.heap.IsSliceOf sl vl vu .none) (pl:IsPart vl lo) (pu:IsPart vu hi)
  (hw:¬ (eh items.size 0 lo=0/\eh items.size items.size hi=items.size))
  (h:Q (.ref s.heap.objs.size) { s with heap:=s.heap.push { cls:=.type "tuple",data:=.seq ((items.toList.drop (eh items.size 0 lo)).take (eh items.size items.size hi-eh items.size 0 lo)).toArray } })
  (hsz:items.size<=sizeLine):wpAny (model prog w) A (getItem (.ref t) (.ref sl)) Q E s:=by
 have wI:sizeOk (.seq ((items.toList.drop (eh items.size 0 lo)).take (eh items.size items.size hi-eh items.size 0 lo)).toArray):=by
  show ((items.toList.drop (eh items.size 0 lo)).take (eh items.size items.size hi-eh items.size 0 lo)).toArray.size<=sizeLine
  rw [List.size_toArray,List.length_take,List.length_drop,Array.length_toList]
  lia
 have hj:eh items.size items.size hi<=items.size:=G8 _ _ (Nat.le_refl _) hi
 obtain ⟨os,Kr,QF,MR⟩:=id hs
 have RE:s.TypeIs (.ref sl) "slice":=⟨os,Kr,QF⟩
 unfold getItem
 try with_reducible refine wpAny_holding ?_
 first | refine wpAny_bind (wpAny_pure ?_) | skip
 refine wpAny_bind (wpAny_sequenceKey ht.typeIs (by decide) ?_)
 refine wpAny_bind (wpAny_callSpecial?_slot (name:=Str.ofString "__getitem__") ht.typeIs PyProof.Rows.slot_tuple_getitem
  (wpAny_call_entry PyProof.Rows.slot_tuple_getitem ht.typeIs entry_tuple_getitem ?_ (args_tuple_getitem _ _)))
 show wpAny _ _ (Builtin.Tuple.tupleItemsOf (.ref t) >>= _) _ _ s
 refine wpAny_bind (tupleItemsOf_ ht ?_)
 refine wpAny_bind (wpAny_typeOf RE ?_)
 rw [if_pos (by decide)]
 refine wpAny_bind (kZ hs pl pu ?_)
 have G9:¬ ((((eh items.size 0 lo:Nat):Int)==0&&(1:Int)==1&&(eh items.size items.size hi-eh items.size 0 lo)==items.size)=true):=by
  intro q
  rw [Bool.and_eq_true,Bool.and_eq_true] at q
  have q1:((eh items.size 0 lo:Nat):Int)=0:=eq_of_beq q.1.1
  have q2:eh items.size items.size hi-eh items.size 0 lo=items.size:=eq_of_beq q.2
  exact hw ⟨by lia,by lia⟩
 show wpAny _ _ (if (((eh items.size 0 lo:Nat):Int)==0&&(1:Int)==1&&(eh items.size items.size hi-eh items.size 0 lo)==items.size)=true then _ else _) _ _ s
 rw [if_neg G9,zZ]
 first
  | exact wpAny_bind (m:=Builtin.Tuple.tupleExact _) (wpAny_newObj_type (wpAny_pure ⟨_,rfl,wpAny_pure h⟩) wI)
  | exact wpAny_bind (m:=Builtin.Tuple.tupleExact _) (wpAny_newObj_type (wpAny_bind (wpAny_pure (wpAny_pure ⟨_,rfl,wpAny_pure h⟩))) wI)
  | exact wpAny_bind (wpAny_bind (m:=Builtin.Tuple.tupleExact _) (wpAny_newObj_type (wpAny_pure (wpAny_pure ⟨_,rfl,wpAny_pure h⟩)) wI))
  | exact wpAny_bind (wpAny_bind (m:=Builtin.Tuple.tupleExact _) (wpAny_newObj_type (wpAny_pure ⟨_,rfl,wpAny_pure h⟩) wI))
end
end HT
namespace L2
open PySem PySem.Spec PyProof.Rows
noncomputable abbrev TO:=St->Hp->(Option Int->Hp->Prop)->Prop
noncomputable def PO (X:Cx) (e:Option Expr) (t:TO):Prop:=
 ∀ (pins:List (Addr × Obj)) (s:Shared) (σ:St) (H:Hp) (Q:Option Int->Hp->Prop),Inv X pins σ H s->t σ H Q ->
  wpAny (model X.prog X.w) X.A (evalPart e X.env) (fun u s'=>∃ o H',Inv X pins σ H' s'/\IsPart u o/\Q o H') X.xe s
noncomputable def Dl:TO:=fun _ H Q=>Q none H
noncomputable def Ks (t:TE):TO:=fun σ H Q=>t σ H fun x H1=>∃ i,x=.int i/\Q (some i) H1
section
variable {X:Cx} {e:Expr} {te:TE} {lo hi:Option Expr} {tl th:TO} {pos p2:Pos}
theorem Dm:PO X none Dl:=by
 intro pins s σ H Q I h
 rw [evalPart_none]
 exact wpAny_pure ⟨none,H,I,.none,h⟩
theorem Dp (h:PE X e te):PO X (some e) (Ks te):=by
 intro pins s σ H Q I hw
 rw [evalPart_some]
 refine cT (h pins s σ H _ I hw) fun u s1 ⟨x,H1,I1,r1,q1⟩=>?_
 obtain ⟨i,rfl,q⟩:=q1
 obtain ⟨t,rfl⟩:=r1
 exact ⟨some i,H1,I1,.int i t,q⟩
noncomputable def FF (X:Cx) (r:V->Option Int->Option Int->Hp->VK->Prop):Prop:=
 ∀ (pins:List (Addr × Obj)) (s:Shared) (σ:St) (H:Hp) (x:V) (v vl vu:Value) (lo hi:Option Int) (sl:Addr) (Q:VK),Inv X pins σ H s->RelV x v->s.heap.IsSliceOf sl vl vu .none->IsPart vl lo->IsPart vu hi->r x lo hi H Q ->
  ∃ T id,typeLookup (.type T) "__getitem__" = pure (some (.builtin id))/\s.TypeIs v T/\wpAny (model X.prog X.w) X.A (getItem v (.ref sl)) (EP X pins σ Q) X.xe s
theorem FF.or {r r':V->Option Int->Option Int->Hp->VK->Prop} (h:FF X r) (h':FF X r'):FF X (fun x lo hi H Q=>r x lo hi H Q\/r' x lo hi H Q):=by
 intro pins s σ H x v vl vu lo hi sl Q I rx hs pl pu q
 rcases q with q | q
 ·exact h pins s σ H x v vl vu lo hi sl Q I rx hs pl pu q
 ·exact h' pins s σ H x v vl vu lo hi sl Q I rx hs pl pu q
noncomputable def RF (r:V->Option Int->Option Int->Hp->VK->Prop) (te:TE) (tl th:TO):TE:=fun σ H Q=>te σ H fun x H1=>tl σ H1 fun l H2=>th σ H2 fun u H3=>r x l u H3 Q
theorem z7 {r:V->Option Int->Option Int->Hp->VK->Prop} (hr:FF X r) (he:PE X e te) (hl:PO X lo tl) (hu:PO X hi th):PE X (.Subscript e (.Slice lo hi none p2) pos) (RF r te tl th):=by
 intro pins s σ H Q I h
 refine Subscript_ (cT (he pins s σ H _ I h) fun v s1 ⟨x,H1,I1,r1,q1⟩=>?_)
 refine wpAny_Slice (cT (hl pins s1 σ H1 _ I1 q1) fun vl s2 ⟨l,H2,I2,pl,q2⟩=>cT (hu pins s2 σ H2 _ I2 q2) fun vu s3 ⟨u,H3,I3,pu,q3⟩=>?_)
 rw [evalPart_none]
 refine wpAny_pure ?_
 have I4:Inv X pins σ H3 { s3 with heap:=s3.heap.push { cls:=.type "slice",data:=.fields #[vl,vu,.none] } }:=I3.kept (t':=s3.toks) fun b ob q=>Heap.get?_push_of_some _ q
 obtain ⟨T,id,hT,ht,hg⟩:=hr pins { s3 with heap:=s3.heap.push { cls:=.type "slice",data:=.fields #[vl,vu,.none] } } σ H3 x v vl vu l u s3.heap.objs.size Q I4 r1 (Heap.IsSliceOf.new ..) pl pu q3
 show wpAny (model X.prog X.w) X.A (subscriptTail e (.Slice lo hi none p2) v (.ref s3.heap.objs.size)) (EP X pins σ Q) X.xe { s3 with heap:=s3.heap.push { cls:=.type "slice",data:=.fields #[vl,vu,.none] } }
 exact tail_any (ops:=[.ref s3.heap.objs.size,v]) ht hT hg (by with_unfolding_all rfl)
noncomputable def qX (xs:List V) (lo hi:Option Int):List V:=(xs.drop (HT.eh xs.length 0 lo)).take (HT.eh xs.length xs.length hi-HT.eh xs.length 0 lo)
theorem lZ (xs:List V) (lo hi:Option Int):(qX xs lo hi).length<=xs.length:=by
 unfold qX
 rw [List.length_take,List.length_drop]
 lia
noncomputable def Oe (K:PySem.W.Frag):V->Option Int->Option Int->Hp->VK->Prop:=fun x lo hi H Q=>∃ a xs,x=.ref a/\ju K H a xs /\
 ¬ (HT.eh xs.length 0 lo=0/\HT.eh xs.length xs.length hi=xs.length)/\∀ p,H p=none->Q (.ref p) (upd H p (.tup (qX xs lo hi)))
theorem G_:FF X (Oe X.K):=by
 intro pins s σ H x v vl vu lo hi sl Q I rx hs pl pu h
 obtain ⟨a,xs,rfl,hx,hw,q⟩:=h
 cases rx
 obtain ⟨aD,r,ht,hz⟩:=I.tuple hx
 have hlen:aD.toArray.size=xs.length:=by rw [List.size_toArray]; exact r.length.symm
 refine ⟨"tuple",_,PyProof.Rows.slot_tuple_getitem.lookup,ht.typeIs,?_⟩
 refine HT.j9 ht hs pl pu (by rw [hlen]; exact hw) ?_ (by rw [hlen]; exact hz)
 rw [hlen]
 refine ⟨.ref s.heap.objs.size,_,I.laid (t':=s.toks) (o:=.tup (qX xs lo hi)) (fun b ob q=>Heap.get?_push_of_some _ q) (Nat.le_refl _) ?_,rfl,q _ (I.bK.fresh (Nat.le_refl _))⟩
 exact ⟨Nat.le_trans (lZ xs lo hi) hz,_,(r.drop (HT.eh xs.length 0 lo)).take (HT.eh xs.length xs.length hi-HT.eh xs.length 0 lo),IsTup.new _ _⟩
noncomputable def Kt (K:PySem.W.Frag):R2:=fun x y H Q=>∃ a b xs ys,x=.ref a/\y=.ref b/\ju K H a xs/\ju K H b ys/\xs≠[]/\xs.length+ys.length<=sizeLine /\
 (ys=[]->Q (.ref a) H)/\(ys≠[]->∀ p,H p=none->Q (.ref p) (upd H p (.tup (xs++ys))))
theorem Vals.qY {xs:List V} {us:List Value} (r:Vals xs us):us=[]↔xs=[]:=by
 cases r with
 | nil=>simp
 | cons _ _=>simp
theorem Dq:c9 X (binaryOp .Add) (Kt X.K):=by
 intro pins s σ H x y v u Q I rx ry h
 obtain ⟨a,b,xs,ys,rfl,rfl,ha,hb,hx,hz,q1,q2⟩:=h
 cases rx
 cases ry
 obtain ⟨aD,r1,p1,_⟩:=I.tuple ha
 obtain ⟨cY,r2,p2,_⟩:=I.tuple hb
 refine HT.Dk p1 p2 (fun z=>hx (r1.qY.mp z)) (fun z=>⟨.ref a,H,I,rfl,q1 (r2.qY.mp z)⟩) (fun z=>?_) (by rw [<-r1.length,<-r2.length]; exact hz)
 refine ⟨.ref s.heap.objs.size,_,I.laid (t':=s.toks) (o:=.tup (xs++ys)) (fun b ob q=>Heap.get?_push_of_some _ q) (Nat.le_refl _) ?_,rfl,q2 (fun w=>z (r2.qY.mpr w)) _ (I.bK.fresh (Nat.le_refl _))⟩
 exact ⟨by rw [List.length_append]; exact hz,_,r1.append r2,IsTup.new _ _⟩
end
noncomputable def Ha (n:Nat) (i:Int):Option Nat:=if 0<=i then (if i<n then some i.toNat else none) else if -(n:Int)<=i then some (i+n).toNat else none
noncomputable def px {α:Type} (xs:List α) (i:Int):Option α:=(Ha xs.length i).bind fun j=>xs[j]?
theorem Dr {n:Nat} {i:Int} {j:Nat} (h:Ha n i=some j):seqIndex? i n=some j/\j<n/\-(n:Int)<=i/\i<n:=by
 unfold Ha at h
 by_cases h0:0<=i
 ·rw [if_pos h0] at h
  by_cases h1:i<n
  ·rw [if_pos h1] at h
   have e:i.toNat=j:=Option.some.inj h
   exact ⟨by rw [seqIndex_of h0 h1,e],by lia,by lia,h1⟩
  ·rw [if_neg h1] at h; cases h
 ·rw [if_neg h0] at h
  by_cases h1:-(n:Int)<=i
  ·rw [if_pos h1] at h
   have e:(i+n).toNat=j:=Option.some.inj h
   exact ⟨by rw [seqIndex_neg (by lia) h1,e],by lia,h1,by lia⟩
  ·rw [if_neg h1] at h; cases h
theorem qZ {α:Type} {xs:List α} {i:Int} {v:α} (h:px xs i=some v):∃ j,seqIndex? i xs.length=some j/\xs[j]?=some v/\j<xs.length/\-(xs.length:Int)<=i/\i<xs.length:=by
 unfold px at h
 cases e:Ha xs.length i with
 | none=>rw [e] at h; cases h
 | some j=>
  rw [e] at h
  obtain ⟨h1,h2,h3,h4⟩:=Dr e
  exact ⟨j,h1,h,h2,h3,h4⟩
theorem jc {α:Type} {xs:List α} {j:Nat} {v:α} (h:xs[j]?=some v):px xs (j:Int)=some v:=by
 have hj:j<xs.length:=(List.getElem?_eq_some_iff.mp h).1
 have e:Ha xs.length (j:Int)=some j:=by
  unfold Ha
  rw [if_pos (by lia),if_pos (by lia)]; simp
 unfold px; rw [e]; exact h
noncomputable def q_ (b:Expr):Prop:=∀ o i,subscripted b false o i=operate [o,i] (getItem o i)
noncomputable def uV (X:Cx) (r:R2):Prop:=
 ∀ (value slice:Expr) (pins:List (Addr × Obj)) (s:Shared) (σ:St) (H:Hp) (x y:V) (v u:Value) (Q:VK),Inv X pins σ H s->RelV x v->RelV y u->r x y H Q ->
  subscripted slice false v u=operate [v,u] (getItem v u)->wpAny (model X.prog X.w) X.A (subscriptTail value slice v u) (EP X pins σ Q) X.xe s
noncomputable def QG (X:Cx) (id:String) (r:V->List V->Hp->VK->Prop):Prop:=
 ∀ (pins:List (Addr × Obj)) (s:Shared) (σ:St) (H:Hp) (x:V) (xs:List V) (v:Value) (us:List Value) (Q:VK),Inv X pins σ H s->RelV x v->Vals xs us->r x xs H Q ->
  wpAny (model X.prog X.w) X.A (call (.builtin id) (v::us)) (EP X pins σ Q) X.xe s
section
variable {X:Cx} {a b:Expr} {ta tb:TE} {pos:Pos}
theorem uV.or {r r':R2} (h:uV X r) (h':uV X r'):uV X (fun x y H Q=>r x y H Q\/r' x y H Q):=by
 intro value slice pins s σ H x y v u Q I rx ry q hs
 rcases q with q | q
 ·exact h value slice pins s σ H x y v u Q I rx ry q hs
 ·exact h' value slice pins s σ H x y v u Q I rx ry q hs
theorem Ku {r:R2} (hr:uV X r) (ha:PE X a ta) (hb:PE X b tb) (hs:q_ b):PE X (.Subscript a b pos) (Jr r ta tb):=by
 intro pins s σ H Q I h
 exact Subscript_ (GQ ha hb I h fun v u s2 x y H2 I2 rx ry q=>hr a b pins s2 σ H2 x y v u Q I2 rx ry q (hs _ _))
noncomputable def Of (K:PySem.W.Frag):R2:=fun x y H Q=>∃ p xs i v,x=.ref p/\y=.int i/\kT K H p xs/\px xs i=some v/\Q v H
noncomputable def Og (K:PySem.W.Frag):R2:=fun x y H Q=>∃ p xs i v,x=.ref p/\y=.int i/\ju K H p xs/\px xs i=some v/\Q v H
noncomputable def Oh:R2:=fun x y H Q=>∃ z i c,x=.str z/\y=.int i/\z.length<=sizeLine/\px z.cps.toList i=some c/\Q (.str ⟨#[c]⟩) H
theorem Ds:uV X (Of X.K):=by
 intro value slice pins s σ H x y v u Q I rx ry h hs
 obtain ⟨p,xs,i,z,rfl,rfl,hq,he,q⟩:=h
 cases rx
 obtain ⟨t,rfl⟩:=ry
 obtain ⟨aD,r,pl,hz⟩:=I.list hq
 obtain ⟨j,h1,h2,h3,h4,h5⟩:=qZ he
 obtain ⟨w,ew,tj⟩:=r.get h2
 have hl:=r.length
 have hn:=nJ
 have fin:EP X pins σ Q w s:=⟨z,H,I,tj,q⟩
 by_cases h0:0<=i
 ·have hj:i.toNat=j:=by
   rw [seqIndex_of h0 h5] at h1
   exact Option.some.inj h1
  exact item_listR pl.isList h0 (by lia) (by rw [hj]; simpa using ew) fin hs
 ·have hj:(i+(aD.toArray.size:Int)).toNat=j:=by
   rw [seqIndex_neg (by lia) h4] at h1
   rw [List.size_toArray,<-hl]
   exact Option.some.inj h1
  exact subscriptTail_builtinR (x:=w) pl.isList.typeIs slot_list_getitem.lookup
   (wpAny_getItem_list_neg (Q:=fun r s'=>r=w/\EP X pins σ Q r s') pl.isList (by lia) (by rw [List.size_toArray] <;> lia) (by lia) (by rw [hj]; simpa using ew) ⟨rfl,fin⟩) hs
theorem ve:uV X (Og X.K):=by
 intro value slice pins s σ H x y v u Q I rx ry h hs
 obtain ⟨p,xs,i,z,rfl,rfl,hq,he,q⟩:=h
 cases rx
 obtain ⟨t,rfl⟩:=ry
 obtain ⟨aD,r,pl,hz⟩:=I.tuple hq
 obtain ⟨j,h1,h2,h3,h4,h5⟩:=qZ he
 obtain ⟨w,ew,tj⟩:=r.get h2
 have hl:=r.length
 have hn:=nJ
 have fin:EP X pins σ Q w s:=⟨z,H,I,tj,q⟩
 exact subscriptTail_builtinR (x:=w) pl.typeIs slot_tuple_getitem.lookup
  (getItem_tuple (j:=j) (Q:=fun r s'=>r=w/\EP X pins σ Q r s') pl (by lia) (by lia) (by rw [List.size_toArray,<-hl]; exact h1) (by simpa using ew) ⟨rfl,fin⟩) hs
theorem Hb:uV X Oh:=by
 intro value slice pins s σ H x y v u Q I rx ry h hs
 obtain ⟨z,i,c,rfl,rfl,hz,he,q⟩:=h
 obtain ⟨t,rfl⟩:=rx
 obtain ⟨t',rfl⟩:=ry
 obtain ⟨j,h1,h2,h3,h4,h5⟩:=qZ he
 have hl:z.cps.toList.length=z.length:=by simp [Str.length]
 rw [hl] at h1 h4 h5
 have hn:=nJ
 exact tail_any (typeIs_str s z t) slot_str_getitem.lookup (getItem_str (c:=c) (by
  have e1:decide (i < -(2 ^ 63:Int))=false:=decide_eq_false (by lia)
  have e2:decide (i ≥ 2 ^ 63)=false:=decide_eq_false (by lia)
  rw [e1,e2,Bool.or_false]) (by rw [h1]; simpa using h2) ⟨.str ⟨#[c]⟩,H,I.tok _,⟨_,rfl⟩,q⟩) hs
theorem rf (lo hi:Option Int) (n:Nat):(sliceBounds lo hi none n).1=((HT.eh n 0 lo:Nat):Int)/\(sliceBounds lo hi none n).2.1=((HT.eh n n hi:Nat):Int)/\(sliceBounds lo hi none n).2.2=1:=by
 refine ⟨?_,?_,rfl⟩
 ·cases lo with
  | none=>simp [sliceBounds,HT.eh]
  | some i=>
   simp only [sliceBounds,HT.eh,Option.getD_none,show (1:Int)>0 by decide,if_true]
   by_cases h:i<0
   ·simp only [h,if_true] <;> lia
   ·simp only [h,if_false] <;> lia
 ·cases hi with
  | none=>simp [sliceBounds,HT.eh]
  | some i=>
   simp only [sliceBounds,HT.eh,Option.getD_none,show (1:Int)>0 by decide,if_true]
   by_cases h:i<0
   ·simp only [h,if_true] <;> lia
   ·simp only [h,if_false] <;> lia
theorem pz (aD:List Value) (lo hi:Option Int):slicePick aD.toArray lo hi none=((aD.drop (HT.eh aD.length 0 lo)).take (HT.eh aD.length aD.length hi-HT.eh aD.length 0 lo)).toArray:=by
 obtain ⟨h1,h2,h3⟩:=rf lo hi aD.toArray.size
 unfold slicePick
 rw [h1,h2,h3]
 simp only [sliceRange_one,pick_run,List.size_toArray] <;> rfl
noncomputable def Oi (K:PySem.W.Frag):V->Option Int->Option Int->Hp->VK->Prop:=fun x lo hi H Q=>∃ a xs,x=.ref a/\kT K H a xs/\∀ p,H p=none->Q (.ref p) (upd H p (.lst (qX xs lo hi)))
theorem Dt:FF X (Oi X.K):=by
 intro pins s σ H x v vl vu lo hi sl Q I rx hs pl pu h
 obtain ⟨a,xs,rfl,hx,q⟩:=h
 cases rx
 obtain ⟨aD,r,ht,hz⟩:=I.list hx
 have hlen:=r.length
 refine ⟨"list",_,slot_list_getitem.lookup,ht.isList.typeIs,?_⟩
 refine wpAny_getItem_list_slice ht.isList hs pl pu .none (by simp) ?_ (by rw [List.size_toArray] <;> lia)
 rw [pz,<-hlen]
 refine ⟨.ref s.heap.objs.size,_,I.laid (t':=s.toks) (o:=.lst (qX xs lo hi)) (fun b ob q=>Heap.get?_push_of_some _ q) (Nat.le_refl _) ?_,rfl,q _ (I.bK.fresh (Nat.le_refl _))⟩
 exact ⟨Nat.le_trans (lZ xs lo hi) hz,_,0,(r.drop (HT.eh xs.length 0 lo)).take (HT.eh xs.length xs.length hi-HT.eh xs.length 0 lo),Heap.get?_push_size _ rfl⟩
noncomputable def gI:V->Bool
 | .bD=>true
 | .bl _=>true
 | .int _=>true
 | .str _=>true
 | _=>false
noncomputable def uW:V->V->Bool
 | .bD,.bD=>true
 | .bl a,.bl b=>a==b
 | .bl a,.int b=>(if a then 1 else 0)==b
 | .int a,.bl b=>a==(if b then 1 else 0)
 | .int a,.int b=>a==b
 | .str a,.str b=>a==b
 | _,_=>false
theorem Hc {A:Around} {s:Shared} {y x:V} {u v:Value} (ry:RelV y u) (rx:RelV x v) (fy:gI y=true) (fx:gI x=true):SeqAt.EqAt A s u v (uW y x):=by
 cases y with
 | bD=>
  cases ry
  cases x with
  | bD=>cases rx; exact SeqAt.EqAt.same _
  | bl b=>cases rx; exact SeqAt.EqAt.none_bool b
  | int b=>obtain ⟨t,rfl⟩:=rx; exact SeqAt.EqAt.none_int b t
  | str b=>obtain ⟨t,rfl⟩:=rx; exact SeqAt.EqAt.none_str b t
  | _=>exact absurd (show false=true from fx) Bool.false_ne_true
 | bl a=>
  cases ry
  cases x with
  | bD=>cases rx; exact SeqAt.EqAt.bool_none a
  | bl b=>cases rx; exact SeqAt.EqAt.bool_bool a b
  | int b=>obtain ⟨t,rfl⟩:=rx; exact SeqAt.EqAt.bool_int a b t
  | str b=>obtain ⟨t,rfl⟩:=rx; exact SeqAt.EqAt.bool_str a b t
  | _=>exact absurd (show false=true from fx) Bool.false_ne_true
 | int a=>
  obtain ⟨t',rfl⟩:=ry
  cases x with
  | bD=>cases rx; exact SeqAt.EqAt.int_none a t'
  | bl b=>cases rx; exact SeqAt.EqAt.int_bool a t' b
  | int b=>obtain ⟨t,rfl⟩:=rx; exact SeqAt.EqAt.int_int a t' b t
  | str b=>obtain ⟨t,rfl⟩:=rx; exact SeqAt.EqAt.int_str a t' b t
  | _=>exact absurd (show false=true from fx) Bool.false_ne_true
 | str a=>
  obtain ⟨t',rfl⟩:=ry
  cases x with
  | bD=>cases rx; exact SeqAt.EqAt.str_none a t'
  | bl b=>cases rx; exact SeqAt.EqAt.str_bool a t' b
  | int b=>obtain ⟨t,rfl⟩:=rx; exact SeqAt.EqAt.str_int a t' b t
  | str b=>obtain ⟨t,rfl⟩:=rx; exact SeqAt.EqAt.str_str a t' b t
  | _=>exact absurd (show false=true from fx) Bool.false_ne_true
 | _=>exact absurd (show false=true from fy) Bool.false_ne_true
noncomputable def Js (x:V) (u:Value):Bool:=match u with
 | .none=>uW .bD x
 | .bool b=>uW (.bl b) x
 | .int i _=>uW (.int i) x
 | .str z _=>uW (.str z) x
 | _=>false
theorem vf {x y:V} {u:Value} (r:RelV y u) (f:gI y=true):Js x u=uW y x:=by
 cases y with
 | bD=>cases r; rfl
 | bl b=>cases r; rfl
 | int i=>obtain ⟨t,rfl⟩:=r; rfl
 | str z=>obtain ⟨t,rfl⟩:=r; rfl
 | _=>exact absurd (show false=true from f) Bool.false_ne_true
theorem nL {A:Around} {s:Shared} {x:V} {v:Value} (rx:RelV x v) (fx:gI x=true):∀ {xs:List V} {us:List Value},Vals xs us->xs.all gI=true->∀ u∈us,SeqAt.EqAt A s u v (Js x u)
 | _,_,.nil,_=>fun u hu=>by cases hu
 | y::xs,u::us,.cons r t,f=>fun u' hu=>by
  rw [List.all_cons,Bool.and_eq_true] at f
  rcases List.mem_cons.mp hu with rfl | hu
  ·rw [vf r f.1]; exact Hc r rx f.1 fx
  ·exact nL rx fx t f.2 u' hu
theorem rh:bt X (.builtin "len") (fun xs H Q=>∃ p ys,xs=[.ref p]/\(kT X.K H p ys\/ju X.K H p ys)/\Q (.int ys.length) H):=by
 intro pins s σ H xs us Q I r h
 obtain ⟨p,ys,rfl,hq,q⟩:=h
 obtain ⟨u,rfl,rx⟩:=vals1 r
 cases rx
 have hn:=nJ
 rcases hq with hq | hq
 ·obtain ⟨aD,r',pl,hz⟩:=I.list hq
  have hlen:=r'.length
  exact Calls.call_len_list pl.isList (by simp only [List.size_toArray] <;> lia) ⟨.int ys.length,H,I.tok _,⟨s.toks+1,by rw [List.size_toArray,hlen]⟩,q⟩
 ·obtain ⟨aD,r',pl,hz⟩:=I.tuple hq
  have hlen:=r'.length
  exact len_tuple pl (by simp only [List.size_toArray] <;> lia) ⟨.int ys.length,H,I.tok _,⟨s.toks+1,by rw [List.size_toArray,hlen]⟩,q⟩
theorem ri:bt X (.builtin "len") (fun xs H Q=>∃ z,xs=[.str z]/\z.length<=sizeLine/\Q (.int z.length) H):=by
 intro pins s σ H xs us Q I r h
 obtain ⟨z,rfl,hz,q⟩:=h
 obtain ⟨u,rfl,t,rfl⟩:=vals1 r
 have hn:=nJ
 exact len_str (by lia) ⟨.int z.length,H,I.tok _,⟨_,rfl⟩,q⟩
theorem bt.or {f:Value} {r r':List V->Hp->VK->Prop} (h:bt X f r) (h':bt X f r'):bt X f (fun xs H Q=>r xs H Q\/r' xs H Q):=by
 intro pins s σ H xs us Q I rs q
 rcases q with q | q
 ·exact h pins s σ H xs us Q I rs q
 ·exact h' pins s σ H xs us Q I rs q
theorem rj:bt X (.type "list") (fun xs H Q=>∃ p ys,xs=[.ref p]/\(kT X.K H p ys\/ju X.K H p ys)/\∀ l,H l=none->Q (.ref l) (upd H l (.lst ys))):=by
 intro pins s σ H xs us Q I r h
 obtain ⟨p,ys,rfl,hq,q⟩:=h
 obtain ⟨u,rfl,rx⟩:=vals1 r
 cases rx
 have fin:∀ (aD:List Value),Vals ys aD->ys.length<=sizeLine->∀ (h':Heap) (c':Nat),(∀ b o',s.heap.get? b=some o'->h'.get? b=some o') ->
   h'.get? s.heap.objs.size=some { cls:=.type "list",dict:=none,data:=.seq aD.toArray c',slots:=#[] }->EP X pins σ Q (.ref s.heap.objs.size) { s with heap:=h' }:=fun aD r' hz h' c' kp e=>
  ⟨.ref s.heap.objs.size,_,I.laid (t':=s.toks) kp (Nat.le_refl _) (show bx X.prog X.w _ h' _ (.lst ys) from ⟨hz,aD,c',r',e⟩),rfl,q _ (I.bK.fresh (Nat.le_refl _))⟩
 rcases hq with hq | hq
 ·obtain ⟨aD,r',pl,hz⟩:=I.list hq
  have hlen:=r'.length
  obtain ⟨o,ho,hc,n,hd⟩:=pl.isList
  exact call_list_seq p (.inl rfl) ho hc hd (fun h' c' kp e=>fin aD r' hz h' c' kp e) (by simp only [List.size_toArray] <;> lia)
 ·obtain ⟨aD,r',pl,hz⟩:=I.tuple hq
  have hlen:=r'.length
  obtain ⟨o,ho,hc,n,hd⟩:=pl
  exact call_list_seq p (.inr rfl) ho hc hd (fun h' c' kp e=>fin aD r' hz h' c' kp e) (by simp only [List.size_toArray] <;> lia)
theorem pB:bt X (.type "tuple") (fun xs H Q=>∃ p ys,xs=[.ref p]/\((kT X.K H p ys/\∀ l,H l=none->Q (.ref l) (upd H l (.tup ys)))\/(ju X.K H p ys/\Q (.ref p) H))):=by
 intro pins s σ H xs us Q I r h
 obtain ⟨p,ys,rfl,h⟩:=h
 obtain ⟨u,rfl,rx⟩:=vals1 r
 cases rx
 rcases h with ⟨hq,q⟩ | ⟨hq,q⟩
 ·obtain ⟨aD,r',pl,hz⟩:=I.list hq
  have hlen:=r'.length
  refine call_tuple_list pl.isList (fun h' kp=>?_) (by simp only [List.size_toArray] <;> lia)
  have I1:Inv X pins σ H { s with heap:=h' }:=I.kept (t':=s.toks) kp
  have I2:Inv X pins σ (upd H h'.objs.size (.tup ys)) { s with heap:=h'.push { cls:=.type "tuple",data:=.seq aD.toArray } } :=
   I1.laid (t':=s.toks) (fun b o e=>Heap.get?_push_of_some _ e) (Nat.le_refl _) (show bx X.prog X.w _ _ _ (.tup ys) from ⟨hz,aD,r',IsTup.new _ _⟩)
  exact ⟨.ref h'.objs.size,_,I2,rfl,q _ (I1.bK.fresh (Nat.le_refl _))⟩
 ·obtain ⟨aD,r',pl,hz⟩:=I.tuple hq
  exact call_tuple_same pl ⟨.ref p,H,I,rfl,q⟩
noncomputable def MS (K:PySem.W.Frag) (T:String) (x:V) (H:Hp):Prop:=match x with
 | .str _=>T = "str"
 | .int _=>T = "int"
 | .ref p=>(T = "list" /\ ∃ xs,kT K H p xs)\/(T = "tuple" /\ ∃ o,K.lookup p=some o/\o.cls=.type "tuple" /\ o.dict=none) \/
   (T = "dict" /\ ((∃ az,H p=some (.dK az))\/∃ az,H p=some (.dT az)))\/(T = "set" /\ ∃ S n,H p=some (.set S n))
 | _=>False
theorem z8 {pins:List (Addr × Obj)} {σ:St} {H:Hp} {s:Shared} {T:String} {x:V} {v:Value} (I:Inv X pins σ H s) (r:RelV x v) (ty:MS X.K T x H) :
  s.TypeIs v T/\∀ a,v=.ref a->∃ ob,s.heap.get? a=some ob/\ob.dict=none:=by
 cases x with
 | str z=>
  obtain ⟨t,rfl⟩:=r
  cases (show T = "str" from ty)
  exact ⟨typeIs_str s z t,fun _ e=>nomatch e⟩
 | int i=>
  obtain ⟨t,rfl⟩:=r
  cases (show T = "int" from ty)
  exact ⟨typeIs_int s i t,fun _ e=>nomatch e⟩
 | ref p=>
  cases r
  rcases ty with ⟨rfl,xs,hq⟩ | ⟨rfl,o,hk,hc,hd⟩ | ⟨rfl,hk⟩ | ⟨rfl,S,n,hk⟩
  ·obtain ⟨aD,_,pl,_⟩:=I.list hq
   refine ⟨pl.isList.typeIs,fun a e=>?_⟩
   cases e
   obtain ⟨o,n,e,c,hd,_⟩:=pl
   exact ⟨o,e,hd⟩
  ·refine ⟨⟨o,I.lY p o hk,hc⟩,fun a e=>?_⟩
   cases e
   exact ⟨o,I.lY _ o hk,hd⟩
  ·have z:∃ o,s.heap.get? p=some o/\o.ExactDict:=by
    rcases hk with ⟨az,hk⟩ | ⟨az,hk⟩
    ·obtain ⟨_,_,_,_,o,_,_,e,ex,_⟩:=I.bK p _ hk
     exact ⟨o,e,ex⟩
    ·obtain ⟨_,_,_,_,o,_,_,e,ex,_⟩:=I.bK p _ hk
     exact ⟨o,e,ex⟩
   obtain ⟨o,e,ex⟩:=z
   refine ⟨⟨o,e,ex.1⟩,fun a e2=>?_⟩
   cases e2
   exact ⟨o,e,ex.2.1⟩
  ·obtain ⟨o,_,_,_,e,ex,_⟩:=I.bK p _ hk
   refine ⟨⟨o,e,ex.1⟩,fun a e2=>?_⟩
   cases e2
   exact ⟨o,e,ex.2.1⟩
 | _=>exact False.elim ty
noncomputable def Oj (K:PySem.W.Frag) (T:String) (r:V->List V->Hp->VK->Prop) (to:TE):TE:=fun σ H Q=>to σ H fun x H1=>MS K T x H1/\r x [] H1 Q
noncomputable def RG (K:PySem.W.Frag) (T:String) (r:V->List V->Hp->VK->Prop) (to:TE) (t:TA):TE:=fun σ H Q=>to σ H fun x H1=>MS K T x H1/\t σ H1 fun xs H2=>r x xs H2 Q
variable {o e:Expr} {es:List Expr} {to:TE} {t:TA} {name:Str} {apos a7:Pos} {T id:String} {r:V->List V->Hp->VK->Prop}
theorem Hd (pa:PlainAttrs T) (slot:Slot T name id) (Du:typeOf (.builtin id)=pure (.type "method_descriptor")) (hm:QG X id r) (ho:PE X o to)
  (fO:attributeBase o name X.env (eval o X.env)=eval o X.env:=by rfl) (fP:(apos.endLine==a7.line)=true:=by rfl):PE X (.Call (.Attribute o name apos) [] [] a7) (Oj X.K T r to):=by
 intro pins s σ H Q I h
 refine wpAny_Call_method0_late fO fP (cT (ho pins s σ H _ I h) fun v s1 ⟨x,H1,I1,r1,ty,q1⟩=>?_)
 obtain ⟨h1,h2⟩:=z8 I1 r1 ty
 exact ⟨T,id,pa,slot,Du,h1,h2,Calls.callWith_builtin rfl (PySem.evalArgs_none (hm pins s1 σ H1 x [] v [] Q I1 r1 .nil q1))⟩
theorem Kv (pa:PlainAttrs T) (slot:Slot T name id) (Du:typeOf (.builtin id)=pure (.type "method_descriptor")) (hm:QG X id r) (ho:PE X o to) (ha:PA X (e::es) t)
  (fO:attributeBase o name X.env (eval o X.env)=eval o X.env:=by rfl)
  (rm:((backTo a7 (starEach (e::es) X.env)).all (fun x => !x.1)&&(backToKw a7 (keywordEach [] X.env)).all (fun x=>x.1.isSome)
   && decide ((e::es).length+([]:List Keyword).length+(if ([]:List Keyword).isEmpty then 0 else 1)<30))=true:=by rfl)
  (fP:(apos.endLine==a7.line)=true:=by rfl) (hs:starEach (e::es) X.env=(false,eval e X.env)::starEach es X.env:=by rfl) (gW:(backTo a7 (starEach es X.env)).any (·.1)=false:=by rfl) :
  PE X (.Call (.Attribute o name apos) (e::es) [] a7) (RG X.K T r to t):=by
 intro pins s σ H Q I h
 refine wpAny_Call_method_late fO rm fP rfl (cT (ho pins s σ H _ I h) fun v s1 ⟨x,H1,I1,r1,ty,q1⟩=>?_)
 obtain ⟨h1,h2⟩:=z8 I1 r1 ty
 refine ⟨T,id,pa,slot,Du,h1,h2,?_⟩
 have hA:=ha a7 pins s1 σ H1 _ I1 q1
 rw [hs] at hA ⊢
 refine Calls.callWith_builtin (by show (false || (backTo a7 (starEach es X.env)).any (·.1))=false; rw [gW] <;> rfl) (Calls.evalArgs_plain ?_)
 exact cT hA fun us s2 ⟨vs,H2,I2,r2,q2⟩=>hm pins s2 σ H2 x vs v us Q I2 r1 r2 q2
end
noncomputable def tm (X:Cx) (id:String) (r:V->List V->Hp->VK->Prop):Prop:=
 ∀ (pins:List (Addr × Obj)) (s:Shared) (σ:St) (H:Hp) (x:V) (xs:List V) (v:Value) (us:List Value) (Q:VK),Inv X pins σ H s->RelV x v->Vals xs us->r x xs H Q ->
  wpAny (model X.prog X.w) X.A (call (.builtin id) (v::us)) (EP X pins σ Q) X.xe s
theorem Vals.one {x:V} {us:List Value} (p:Vals [x] us):∃ u,us=[u]/\RelV x u:=by
 cases p with
 | cons r t=>cases t; exact ⟨_,rfl,r⟩
theorem Vals.zero:∀ {us:List Value},Vals [] us->us=[]
 | _,.nil=>rfl
theorem Vals.dropLast {xs:List V} {us:List Value} (h:Vals xs us):Vals xs.dropLast us.dropLast:=by
 induction h with
 | nil=>exact .nil
 | cons r t ih=>
  cases t with
  | nil=>exact .nil
  | cons q t'=>exact .cons r ih
theorem Vals.rep {xs:List V} {us:List Value} (h:Vals xs us):∀ k:Nat,Vals (List.replicate k xs).flatten (List.replicate k us).flatten
 | 0=>.nil
 | k+1=>by
  rw [List.replicate_succ,List.replicate_succ,List.flatten_cons,List.flatten_cons]
  exact Vals.append h (Vals.rep h k)
theorem foldl_rep (aD:List Value):∀ (k:Nat) (acc:List Value),
  List.foldl (fun x1 x2=>x1++x2) acc.toArray (List.replicate k aD.toArray)=(acc++(List.replicate k aD).flatten).toArray
 | 0,acc=>by simp
 | k+1,acc=>by
  have e:acc.toArray++aD.toArray=(acc++aD).toArray:=by simp
  have e2:(acc++aD)++(List.replicate k aD).flatten=acc++(List.replicate (k+1) aD).flatten:=by
   rw [List.replicate_succ,List.flatten_cons,List.append_assoc]
  rw [<-e2,<-foldl_rep aD k (acc++aD),<-e,List.replicate_succ,List.foldl_cons]
section
variable {X:Cx} {pins:List (Addr × Obj)} {σ:St} {H:Hp} {s:Shared} {l b:Addr} {xs ys zs:List V}
theorem Inv.Kw {aD its':List Value} {n:Nat} {f:Array Value->Array Value} {t':Nat} (I:Inv X pins σ H s) (hH:H l=some (.lst xs))
  (e:s.heap.get? l=some { cls:=.type "list",data:=.seq aD.toArray n }) (hf:f aD.toArray=its'.toArray) (hv:Vals ys its') (hz:ys.length<=sizeLine) :
  Inv X pins σ (upd H l (.lst ys)) { s with heap:=s.heap.update l (Obj.mapSeq f),toks:=t' }:=by
 have q:=PySem.IsL.update e f
 rw [hf] at q
 refine I.write (x:=l) (e:=l) (by rw [hH]; exact trivial) (.inl rfl) (fun b' u hb hu=>(Heap.get?_update_other s.heap (Obj.mapSeq f) (Ne.symm hb)).trans hu) ⟨_,q⟩ ?_
 exact ⟨hz,its',_,hv,q⟩
theorem Inv.Kx {aD:List Value} {t':Nat} (I:Inv X pins σ H s) (hv:Vals ys aD) (hz:ys.length<=sizeLine) :
  Inv X pins σ (upd H s.heap.objs.size (.lst ys)) { s with heap:=s.heap.push { cls:=.type "list",data:=.seq aD.toArray },toks:=t' } :=
 I.laid (fun _ _ q=>Heap.get?_push_of_some _ q) (Nat.le_refl _) ⟨hz,aD,0,hv,Heap.get?_push_size _ rfl⟩
theorem Inv.fresh (I:Inv X pins σ H s):H s.heap.objs.size=none:=I.bK.fresh (Nat.le_refl _)
theorem Inv.vg (I:Inv X pins σ H s) (hH:H l=some (.lst xs)):xs.length<=sizeLine/\∃ (aD:List Value) (n:Nat),Vals xs aD/\xs.length=aD.length/\s.heap.get? l=some { cls:=.type "list",data:=.seq aD.toArray n }:=by
 obtain ⟨z,aD,n,r,e⟩:=I.bK l _ hH
 exact ⟨z,aD,n,r,r.length,e⟩
theorem z9 {n:Nat} (h:n<=sizeLine):Builtin.List.listTooLong n=false:=by
 unfold Builtin.List.listTooLong
 exact decide_eq_false (by lia)
end
section
variable {X:Cx}
noncomputable def Dw:V->List V->Hp->VK->Prop:=fun x vs H Q=>∃ l xs y,x=.ref l/\vs=[y]/\H l=some (.lst xs)/\xs.length<sizeLine/\Q .bD (upd H l (.lst (xs++[y])))
theorem ye:tm X "list.append" Dw:=by
 intro pins s σ H x vs v us Q I rx rv h
 obtain ⟨l,xs,y,rfl,rfl,hH,hz,q⟩:=h
 cases rx
 obtain ⟨u,rfl,ru⟩:=rv.one
 obtain ⟨z,aD,n,r,hl,e⟩:=I.vg hH
 refine call_meets F.slot_list_append ⟨_,e,rfl⟩ F.entry_list_append (F.args_list_append_2 _ _) (PySem.list_append l aD.toArray n u (by rw [List.size_toArray]; lia)) ⟨e,?_⟩
 refine ⟨.bD,_,I.Kw (its':=aD++[u]) hH e (by simp) (r.append (.cons ru .nil)) ?_,rfl,q⟩
 rw [List.length_append,List.length_singleton]
 lia
noncomputable def MU:V->List V->Hp->VK->Prop:=fun x vs H Q=>∃ l b xs zs,x=.ref l/\vs=[.ref b]/\H l=some (.lst xs)/\H b=some (.lst zs)/\xs.length+zs.length<=sizeLine/\Q .bD (upd H l (.lst (xs++zs)))
noncomputable def RH:V->List V->Hp->VK->Prop:=fun x vs H Q=>∃ l xs y,x=.ref l/\vs=[]/\H l=some (.lst xs)/\xs[xs.length-1]?=some y/\Q y (upd H l (.lst xs.dropLast))
noncomputable def He:V->List V->Hp->VK->Prop:=fun x vs H Q=>∃ l xs,x=.ref l/\vs=[]/\H l=some (.lst xs)/\Q .bD (upd H l (.lst []))
theorem z_:tm X "list.clear" He:=by
 intro pins s σ H x vs v us Q I rx rv h
 obtain ⟨l,xs,rfl,rfl,hH,q⟩:=h
 cases rx
 have RI:=rv.zero
 subst RI
 obtain ⟨z,aD,n,r,hl,e⟩:=I.vg hH
 refine call_meets F.slot_list_clear ⟨_,e,rfl⟩ F.entry_list_clear (F.args_list_clear_1 _) (AutoSeq1.list_clear_list_0 l aD.toArray n (by rw [List.size_toArray]; lia)) ⟨e,?_⟩
 exact ⟨.bD,_,I.Kw (its':=[]) (ys:=[]) hH e rfl .nil (Nat.zero_le _),rfl,q⟩
noncomputable def Ol:R2:=fun x y H Q=>∃ l b xs zs,x=.ref l/\y=.ref b/\H l=some (.lst xs)/\H b=some (.lst zs)/\xs.length+zs.length<=sizeLine/\∀ p,H p=none->Q (.ref p) (upd H p (.lst (xs++zs)))
theorem Hf:c9 X (binaryOp .Add) Ol:=by
 intro pins s σ H x y v u Q I rx ry h
 obtain ⟨l,b,xs,zs,rfl,rfl,hH,hB,hz,q⟩:=h
 cases rx
 cases ry
 obtain ⟨z,aD,n,r,hl,e⟩:=I.vg hH
 obtain ⟨z2,cY,n2,r2,CH,e2⟩:=I.vg hB
 refine PySem.P.add_list e e2 ?_ (by rw [List.size_toArray,List.size_toArray]; lia)
 have ea:aD.toArray++cY.toArray=(aD++cY).toArray:=by simp
 rw [ea]
 exact ⟨.ref _,_,I.Kx (t':=s.toks) (r.append r2) (by rw [List.length_append]; lia),rfl,q _ I.fresh⟩
noncomputable def Om:R2:=fun x y H Q=>∃ l k xs,x=.ref l/\y=.int k/\H l=some (.lst xs)/\-(2 ^ 63)<=k/\k<2 ^ 63/\xs.length*k.toNat<=sizeLine /\
 ∀ p,H p=none->Q (.ref p) (upd H p (.lst (List.replicate k.toNat xs).flatten))
theorem len_rep {α:Type} (xs:List α) (k:Nat):(List.replicate k xs).flatten.length=k*xs.length:=by
 induction k with
 | zero=>simp
 | succ k ih=>rw [List.replicate_succ,List.flatten_cons,List.length_append,ih,Nat.succ_mul,Nat.add_comm]
theorem Hg:c9 X (binaryOp .Mult) Om:=by
 intro pins s σ H x y v u Q I rx ry h
 obtain ⟨l,k,xs,rfl,rfl,hH,h1,h2,hz,q⟩:=h
 cases rx
 obtain ⟨t,rfl⟩:=ry
 obtain ⟨z,aD,n,r,hl,e⟩:=I.vg hH
 have hlen:aD.toArray.size*k.toNat<=sizeLine:=by rw [List.size_toArray,<-hl]; exact hz
 have Oo:¬ aD.toArray.size*k.toNat>(2 ^ 63-1) / 8:=by
  have:(sizeLine:Nat)<=(2 ^ 63-1) / 8:=by decide
  lia
 have Ky:¬ (!Builtin.List.listFitsIndex k)=true:=by
  rw [fitsIndex_both h1 h2]
  exact Bool.false_ne_true
 have Kz:¬ Builtin.List.listTooLong (aD.toArray.size*k.toNat)=true:=by
  rw [z9 hlen]
  exact Bool.false_ne_true
 have Oq:List.foldl (fun x1 x2=>x1++x2) #[] (List.replicate (if aD.toArray.isEmpty=true then 0 else k.toNat) aD.toArray)=(List.replicate k.toNat aD).flatten.toArray:=by
  have f0:∀ m:Nat,List.foldl (fun x1 x2=>x1++x2) #[] (List.replicate m aD.toArray)=(List.replicate m aD).flatten.toArray:=fun m=>by
   have:=foldl_rep aD m []
   rw [List.nil_append] at this
   exact this
  rw [f0]
  cases aD with
  | nil=>simp
  | cons a r'=>rw [if_neg (by simp)]
 refine wpAny_binaryOp_repeat_ref (T:="list") (U:="int") (by decide) ⟨_,e,rfl⟩ (fun s'=>typeIs_int s' k t) noFill_list_mul F.fills_int_mul F.slot_int_rmul repeat_list F.slot_int_index.lookup
  (call_meets F.slot_int_rmul (typeIs_int s k t) F.entry_int_rmul (F.args_int_rmul_2 _ _) (int___rmul___int_list k t l aD.toArray n)
   ⟨e,rfl,⟨_,e,rfl⟩,call_meets F.slot_list_mul ⟨_,e,rfl⟩ F.entry_list_mul (F.args_list_mul_2 _ _) (AutoListH.list___mul___list_int_3 l aD.toArray n k t Ky Oo Kz) ⟨e,?_⟩⟩)
 rw [Oq]
 exact ⟨.ref _,_,I.Kx (t':=s.toks) (r.rep k.toNat) (by rw [len_rep,Nat.mul_comm]; exact hz),rfl,q _ I.fresh⟩
end
section
variable {prog:Program} {w:World} {A:Around} {E:Value->Shared->Prop} {s:Shared}
end
section
variable {X:Cx}
end
end L2
namespace QH
open PySem PySem.W PySem.Calls PyProof.Rows
theorem mP {P:Params} {h:Heap}:∀ (ns:List Int) (vs:List Value),WellAll P h vs (ns.map WData.int)->IntsAre vs ns:=by
 intro ns
 induction ns with
 | nil=>
  intro vs w
  rw [List.map_nil] at w
  cases w
  exact .nil
 | cons n ns ih=>
  intro vs w
  rw [List.map_cons] at w
  cases w with
  | cons a b=>
   cases a
   exact .cons _ _ (ih _ b)
theorem yf {l:OpenLaw} {n:Nat} (hn:l.most=some n) {P:Params} {h:Heap} {args:List WData} {vals:List Value}
  (Dx:l.row.toRowW.claim.pre args=true) (Ot:WellAll P h vals args) :
  ∃ a vs ns,vals=[Value.ref a]/\args=[WData.list (ns.map WData.int)]/\h.get? a=some { cls:=.type "list",data:=.seq vs.toArray }/\IntsAre vs ns/\ns.length<=n:=by
 have RJ:WShape.hasAll [] args [.list .int]=true:=(pre_splitW Dx).1
 have hc:l.pre.holds [] { args:=args } = true:=(pre_splitW Dx).2
 obtain ⟨d,r,rfl,h1,h2⟩:=hasAllW_cons RJ
 obtain rfl:=hasAllW_nil h2
 obtain ⟨xs,rfl,h3⟩:=hasW_list h1
 obtain ⟨ns,rfl⟩:=items_int h3
 have hlen:ns.length<=n:=by
  unfold OpenLaw.pre at hc
  have h4:(WTm.not (.lt (.lit (.int (n:Int))) (.len (.arg 0)))).holds [] { args:=[.list (ns.map .int)] } = true:=by
   have h4:=(holds_andW hc).1
   rw [hn] at h4
   exact h4
  have h5:=condW_of h4 (w_not (w_lt w_lit (w_len_list (w_arg rfl))))
  rw [List.length_map] at h5
  refine Nat.le_of_not_lt fun q=>?_
  have q':(n:Int)<((ns.length:Nat):Int):=by lia
  first
   | (rw [decide_eq_true q'] at h5; exact absurd h5 (by decide))
   | (simp at h5; lia)
 cases Ot with
 | cons w1 w2=>
  cases w2
  cases w1 with
  | list ho Hh=>exact ⟨_,_,ns,rfl,rfl,ho,mP ns _ Hh,hlen⟩
theorem yg (l:OpenLaw) (args:List WData):l.row.toRowW.claim.post args (.bool true) args=true:=
 postW_of (r:=l.row.toRowW) (X:=(true==true))
  (show WShape.has [] (.bool true) .bool=true by first | rfl | decide | simp [WShape.has,WShape.arms,WShape.armsAll])
  (show (WTm.eq .res (.lit (.bool true))).value [] { args:=args,res:=some (.bool true),after:=args } = some (.bool (true==true)) from w_eq_bool (w_res rfl) w_lit) rfl
theorem tq {l:OpenLaw} {n:Nat} {q:Program} {loose:List Str} {XP:(Str->Option Value)->Heap->Prop} {YP:World->Heap->Prop} {d:DefRec}
  (hn:l.most=some n) (KA:d.params.defaults=[])
  (call:∀ (w:World) (s₀ s₁:Shared) (mg mb:Str->Option Value) (fa:Addr) (o:Obj) (pm cd doc:Value) (a:Addr) (vs:List Value) (ns:List Int),
   Ground q loose [] XP w s₀ mg mb s₁.heap->YP w s₁.heap ->
   s₁.heap.get? fa=some o->o.data=.func (docDef d.name d.params d.body d.scope pm cd doc)->s₁.heap.CodeRec cd d.name->mg d.name=some (.ref fa) ->
   s₁.heap.get? a=some { cls:=.type "list",data:=.seq vs.toArray }->IntsAre vs ns->ns.length<=n->s₁.gens = #[] ->
   codeAny (model l.prog w) callerA (.call (.ref fa) ⟨[.ref a],[]⟩) (fun r s'=>r=.ok (.ret (.bool true))/\OldK s₁.heap s'.heap/\s'.os=s₁.os/\AllBare s'.gens) s₁) :
  WalkO q loose XP YP l.row.toRowW d [] (fun f vs=>PySem.call f vs):=by
 intro w s₀ s₁ mg mb G Y fa o pm cd doc dV kV ho hd nE hD KC hg args vals as Dx RK Ub Ot Jt
 obtain rfl:dV=.none:=Dflts.none hD KA
 obtain rfl:kV=.none:=Dflts.noKw hD
 obtain ⟨a,vs,ns,rfl,rfl,Hi,hints,hlen⟩:=yf hn Dx Ot
 refine enter_call (codeAny_mono (call w s₀ s₁ mg mb fa o pm cd doc a vs ns G Y ho (fd_plain hd) nE KC Hi hints hlen hg) fun r s' hq=>?_)
 obtain ⟨rfl,h2,h3,h4⟩:=hq
 exact ⟨.inl ⟨.bool true,.bool true,[],rfl,fun _=>rfl,.bool true,yg l _,fun _=>⟨List.Pairwise.nil,fun _ hm=>(nomatch hm)⟩⟩,h2,h3,h4⟩
section
variable {prog:Program} {w:World} {A:Around} {E:Value->Shared->Prop} {s:Shared} {K:Frag}
end
end QH
namespace L2
open PySem PySem.Spec PyProof.Rows
theorem p9:∀ {vs:List Value} {ns:List Int},IntsAre vs ns->Vals (ns.map V.int) vs
 | _,_,.nil=>.nil
 | _,_,.cons n t h=>.cons ⟨t,rfl⟩ (p9 h)
noncomputable def Dy (H:Hp):Prop:=∀ b,H b=none\/∃ o xs,H b=some (.jY o (.lst xs))
theorem Aa {P:Program} {w:World} {K:PySem.W.Frag} {mg mb:Str->Option Value} {CX:uU} {k:Nat} {fa a:Addr} {fd:FuncData} {x:Str} {sp:Sp} {s₁:Shared} {vs:List Value} {ns:List Int}
  (KX:K.In s₁.heap) (QI:s₁.heap.Ns mainGlobals mg) (hb:s₁.heap.Ns builtinsNs mb) (RL:∀ x:Str,x ≠ "__name__" -> mb x=bootBuiltins x) (Ou:s₁.heap.NoLimit) (hg:s₁.gens = #[])
  (ha:s₁.heap.get? a=some { cls:=.type "list",data:=.seq vs.toArray }) (hi:IntsAre vs ns) (hl:ns.length<=sizeLine) (hr:eM k callerA)
  (F:∀ base:Heap,K.In base->base.Ns mainGlobals mg->iO P w K mg base CX k fa fd [x] sp) (KD:∀ (s:Shared) (u:Value),BindsTo s fd ⟨[u],[]⟩ [(x,u)])
  (FE:∀ H:Hp,Dy H->kT K H a (ns.map V.int)->sp [.ref a] H (fun v _=>v=.bl true) fun _ _ _=>False)
  (Ov:∀ H e s',CX [] H s₁ (fun _ _ _=>False) e s'->False) :
  codeAny (model P w) callerA (.call (.ref fa) ⟨[.ref a],[]⟩) (fun r s'=>r=.ok (.ret (.bool true))/\OldK s₁.heap s'.heap/\s'.os=s₁.os/\AllBare s'.gens) s₁:=by
 have rv:=p9 hi
 have Ow:=hi.length
 -- from an abstract heap in QJ nothing but xT Hj may be tracked
 have core:∀ H:Hp,Dy H->kT K H a (ns.map V.int)->iE P w H s₁.heap->(∀ b,H b≠none->b=a)->(H a≠none->K.lookup a=none) ->
   codeAny (model P w) callerA (.call (.ref fa) ⟨[.ref a],[]⟩) (fun r s'=>r=.ok (.ret (.bool true))/\OldK s₁.heap s'.heap/\s'.os=s₁.os/\AllBare s'.gens) s₁:=by
  intro H hO hS bK hA hK
  have wJ:∀ {b:Addr} {o:Obj},s₁.heap.get? b=some o->H b=none->(qR s₁.heap H).get? b=some o:=fun e n=>zF e n
  have Kn:∀ {b:Addr} {o:Obj} {es:Array DictEntry} {ep:Nat},s₁.heap.get? b=some o->o.data=.dict es ep->H b=none:=fun {b o es ep} e d=>by
   cases q:H b with
   | none=>rfl
   | some u=>
    have e':b=a:=hA b (by rw [q]; simp)
    subst e'
    rw [ha] at e; cases e
    have d':Data.seq vs.toArray _=Data.dict es ep:=d
    cases d'
  have MV:∀ {b:Addr} {m:Str->Option Value},s₁.heap.Ns b m->(qR s₁.heap H).Ns b m:=fun {b m} ⟨o,es,ep,e,d,r⟩=>⟨o,es,ep,wJ e (Kn e d),d,r⟩
  have QK:K.In (qR s₁.heap H):=fun b o e=>wJ (KX b o e) (by
   cases q:H b with
   | none=>rfl
   | some u=>
    have e':b=a:=hA b (by rw [q]; simp)
    subst e'
    rw [hK (by rw [q]; simp)] at e; cases e)
  have hM:Mod K mg (qR s₁.heap H):=⟨QK,MV QI,⟨mb,MV hb,RL⟩,let ⟨mc,h1,h2⟩:=Ou; ⟨mc,MV h1,h2⟩⟩
  have e0:u_ P w K mg (qR s₁.heap H) callerA [] s₁ H:=⟨rfl,hM,fun b o e=>CY e,Nat.le_of_eq (xW _ _),trivial,fun b hb=>absurd (show b∈([]:List Addr) from hb) (by simp),bK,.of_eq hg⟩
  refine codeAny_mono ((F _ QK (MV QI)).run callerA [] s₁ H ⟨[.ref a],[]⟩ [.ref a] [.ref a] _ _ hr e0 (KD s₁ (.ref a)) (.cons rfl .nil) (FE H hO hS)) fun r s' h=>?_
  cases r with
  | error e=>exact (Ov H e s' h).elim
  | ok fl=>
   cases fl with
   | next=>exact False.elim h
   | brk=>exact False.elim h
   | cont=>exact False.elim h
   | ret u=>
    obtain ⟨v,H',os,bare,un,Ox,r',q⟩:=h
    have q':v=.bl true:=q
    subst q'
    obtain rfl:u=Value.bool true:=r'
    refine ⟨rfl,OldK.of_keep fun b o e=>?_,os,bare⟩
    cases q:H b with
    | none=>exact un.keep b o e q (by intro z; exact absurd (show b∈([]:List Addr) from z) (by simp)) (by simp)
    | some u=>
     rcases hO b with z | ⟨ob,xs,z⟩
     ·rw [q] at z; cases z
     ·have z2:=un.jn b ob _ z
      obtain ⟨e1,_⟩:=bK b _ z
      obtain ⟨e2,_⟩:=Ox b _ z2
      rw [e] at e1; cases e1
      exact e2
 cases hk:K.lookup a with
 | some o=>
  -- xT Hj is one of xT KG own objects
  have e:=KX a o hk
  rw [ha] at e
  cases e
  refine core (fun _=>none) (fun _=>.inl rfl) (.inr ⟨_,vs.toArray,_,hk,rfl,rfl,rfl,by rw [List.size_toArray,Ow]; exact hl,by simpa using rv⟩) (fun b u z=>by have z':(none:Option HO)=some u:=z; cases z') (fun b z=>absurd rfl z) fun z=>absurd rfl z
 | none=>
  refine core (fun b=>if b=a then some (.jY { cls:=.type "list",data:=.seq vs.toArray } (.lst (ns.map V.int))) else none) (fun b=>?_) (.inl (.inr ⟨{ cls:=.type "list",data:=.seq vs.toArray },if_pos rfl⟩)) (fun b u z=>?_) (fun b z=>?_) fun _=>hk
  ·by_cases hb:b=a
   ·exact .inr ⟨_,_,if_pos hb⟩
   ·exact .inl (if_neg hb)
  ·by_cases hb:b=a
   ·have z':=(if_pos hb).symm.trans z
    cases z'
    subst hb
    exact ⟨ha,by rw [List.length_map]; exact hl,vs,_,rv,ha⟩
   ·have z':=(if_neg hb).symm.trans z
    cases z'
  ·by_cases hb:b=a
   ·exact hb
   ·exact absurd (if_neg hb) z
theorem DA {l:PySem.W.OpenLaw} {n k:Nat} {q:Program} {loose:List Str} {XP:(Str->Option Value)->Heap->Prop} {YP:World->Heap->Prop} {d:DefRec} {K:Params->PySem.W.Frag} {CX:World->uU} {sp:World->Sp} {x:Str}
  (hn:l.most=some n) (RM:n<=sizeLine) (KA:d.params.defaults=[]) (hr:eM k callerA)
  (hY:∀ (w:World) (h:Heap),YP w h->(K w.params).In h)
  (F:∀ (w:World) (mg:Str->Option Value) (fa:Addr) (h:Heap),(K w.params).In h->h.Ns mainGlobals mg->mg d.name=some (.ref fa) ->
   ∃ fd:FuncData,(∀ (s:Shared) (u:Value),BindsTo s fd ⟨[u],[]⟩ [(x,u)]) /\
    ∀ base:Heap,(K w.params).In base->base.Ns mainGlobals mg->iO l.prog w (K w.params) mg base (CX w) k fa fd [x] (sp w))
  (FE:∀ (w:World) (H:Hp) (a:Addr) (ns:List Int),ns.length<=n->Dy H->kT (K w.params) H a (ns.map V.int)->sp w [.ref a] H (fun v _=>v=.bl true) fun _ _ _=>False)
  (Ov:∀ (w:World) (H:Hp) (s:Shared) (e:Value) (s':Shared),CX w [] H s (fun _ _ _=>False) e s'->False) :
  PySem.W.WalkO q loose XP YP l.row.toRowW d [] (fun f vs=>PySem.call f vs):=by
 refine QH.tq hn KA fun w s₀ s₁ mg mb fa o pm cd doc a vs ns G Y ho hd nE KC Hi hints hlen hg=>?_
 have KX:=hY w _ Y
 obtain ⟨fd,hb,hF⟩:=F w mg fa _ KX G.T.g KC
 exact Aa KX G.T.g G.T.b G.T.builtins G.T.nolimit hg Hi hints (Nat.le_trans hlen RM) hr hF hb (fun H hO hS=>FE w H a ns hlen hO hS) fun H e s'=>Ov w H s₁ e s'
noncomputable def fF (s:Stmt):Arguments:=match s with
 | .FunctionDef _ a _ _ _ _ _ _ _ _=>a
 | _ => { posonlyargs:=[],args:=[],vararg:=none,kwonlyargs:=[],kw_defaults:=[],kwarg:=none,defaults:=[] }
noncomputable def dj (s:Stmt):List Stmt:=match s with
 | .FunctionDef _ _ b _ _ _ _ _ _ _=>b
 | _=>[]
noncomputable def aC (s:Stmt):Scope:=match s with
 | .FunctionDef _ _ _ _ _ _ sc _ _ _=>sc
 | _ => { kind:=.function,names:=[],isGenerator:=false,isCoroutine:=false }
noncomputable abbrev E0:XK:=fun _ _ _=>False
structure j_ (K:PySem.W.Frag) (x qual:Str) (st:Stmt) (f:Addr) (fd:FuncData):Prop where
 ex:∃ (oc:Value) (od:Option Addr) (kV doc pm:Value) (an:Option Addr) (cU ct:Value) (yc:Array (Option Value)),
  fd=PySem.W.fnOf x qual (fF st) (dj st) (aC st) .none kV doc pm an cU ct/\K.lookup f=some ⟨oc,od,.func fd,yc⟩/\PySem.W.codeIn K cU qual=true
 kp:PySem.W.keepIn K (.ref f)=true
section
variable {P:Program} {w:World} {K:PySem.W.Frag} {mg:Str->Option Value} {base:Heap}
theorem j_.binds {x qual:Str} {st:Stmt} {f:Addr} {fd:FuncData} {ps:List Str} (F:j_ K x qual st f fd)
  (h:∀ (kV doc pm:Value) (an:Option Addr) (cU ct:Value) (us:List Value),us.length=ps.length->bindArgs (PySem.W.fnOf x qual (fF st) (dj st) (aC st) .none kV doc pm an cU ct) ⟨us,[]⟩=pure (ps.zip us)):Binds K fd ps []:=by
 obtain ⟨oc,od,kV,doc,pm,an,cU,ct,yc,rfl,lk,nE⟩:=F.ex
 exact .all (h kV doc pm an cU ct)
theorem Ab {x qual:Str} {st:Stmt} {f:Addr} {oc:Value} {od an:Option Addr} {yc:Array (Option Value)} {kV doc pm cU ct:Value} (l:K.lookup f=some ⟨oc,od,.func (PySem.W.fnOf x qual (fF st) (dj st) (aC st) .none kV doc pm an cU ct),yc⟩)
  (c:PySem.W.codeIn K cU qual=true) (k:PySem.W.keepIn K (.ref f)=true):j_ K x qual st f (PySem.W.fnOf x qual (fF st) (dj st) (aC st) .none kV doc pm an cU ct):=⟨⟨oc,od,kV,doc,pm,an,cU,ct,yc,rfl,l,c⟩,k⟩
end
section
variable {X:Cx}
end
noncomputable def k4 (H H':Hp):Prop:=∀ b o,H b=some o->H' b=some o
theorem k4.refl (H:Hp):k4 H H:=fun _ _ h=>h
section
variable {κ:Type} [DecidableEq κ]
noncomputable def gs (az:List (κ × V)) (k:κ):Option V:=(az.find? fun kv=>decide (kv.1=k)).map (·.2)
noncomputable def putK (az:List (κ × V)) (k:κ) (v:V):List (κ × V):=
 if (az.any fun kv=>decide (kv.1=k))=true then az.map (fun kv=>if kv.1=k then (kv.1,v) else kv) else az++[(k,v)]
noncomputable def l7 (az:List (κ × V)) (k:κ):List (κ × V):=az.filter fun kv=>decide (kv.1≠k)
theorem nM {p:κ × V} {r:List (κ × V)} {k:κ} (e:p.1=k):gs (p::r) k=some p.2:=by simp [gs,List.find?_cons,e]
theorem nN {p:κ × V} {r:List (κ × V)} {k:κ} (e:¬ p.1=k):gs (p::r) k=gs r k:=by simp [gs,List.find?_cons,e]
theorem tw (k:κ):∀ az:List (κ × V),(az.any fun kv=>decide (kv.1=k))=(gs az k).isSome
 | []=>rfl
 | p::r=>by
  rw [List.any_cons]
  by_cases e:p.1=k
  ·simp only [nM e,decide_eq_true e,Bool.true_or,Option.isSome_some]
  ·rw [nN e,decide_eq_false e,Bool.false_or]; exact tw k r
theorem iP (az:List (κ × V)) (k:κ) (v:V):(putK az k v).length<=az.length+1:=by
 unfold putK
 split
 ·rw [List.length_map]; lia
 ·rw [List.length_append,List.length_cons,List.length_nil]; lia
theorem j5.yh {o:Option V} {u:Option Value} (r:j5 o u):o.isSome=u.isSome:=by
 cases o with
 | none=>cases u with
  | none=>rfl
  | some _=>exact (show False from r).elim
 | some _=>cases u with
  | none=>exact (show False from r).elim
  | some _=>rfl
theorem j5.getD {o:Option V} {u:Option Value} {d:V} {d':Value} (r:j5 o u) (rd:RelV d d'):RelV (o.getD d) (u.getD d'):=by
 cases o with
 | none=>cases u with
  | none=>exact rd
  | some _=>exact (show False from r).elim
 | some _=>cases u with
  | none=>exact (show False from r).elim
  | some _=>exact r
theorem KV.val {az:List (κ × V)} {vs:List (κ × Value)} (r:KV az vs) (k:κ):j5 (gs az k) (valueAt vs k):=by
 unfold KV at r
 induction r with
 | nil=>exact True.intro
 | @cons p q ps qs h t ih=>
  obtain ⟨h1,h2⟩:=h
  by_cases e:p.1=k
  ·have e':q.1=k:=h1.symm.trans e
   have b:valueAt (q::qs) k=some q.2:=by simp [valueAt,List.find?_cons,e']
   rw [nM e,b]; exact h2
  ·have e':¬ q.1=k:=fun z=>e (h1.trans z)
   have b:valueAt (q::qs) k=valueAt qs k:=by simp [valueAt,List.find?_cons,e']
   rw [nN e,b]; exact ih
theorem KV.any {az:List (κ × V)} {vs:List (κ × Value)} (r:KV az vs) (k:κ):(az.any fun kv=>decide (kv.1=k))=vs.any fun kv=>decide (kv.1=k):=by
 unfold KV at r
 induction r with
 | nil=>rfl
 | cons h t ih=>rw [List.any_cons,List.any_cons,ih,h.1]
theorem KV.rn {az:List (κ × V)} {vs:List (κ × Value)} (r:KV az vs) (k:κ) {y:V} {u:Value} (ry:RelV y u) :
  KV (az.map fun kv=>if kv.1=k then (kv.1,y) else kv) (vs.map fun kv=>if kv.1=k then (kv.1,u) else kv):=by
 unfold KV at r ⊢
 induction r with
 | nil=>exact .nil
 | @cons p q ps qs h t ih=>
  rw [List.map_cons,List.map_cons]
  refine .cons ?_ ih
  obtain ⟨h1,h2⟩:=h
  by_cases e:p.1=k
  ·rw [if_pos e,if_pos (h1.symm.trans e)]; exact ⟨h1,ry⟩
  ·rw [if_neg e,if_neg (fun z=>e (h1.trans z))]; exact ⟨h1,h2⟩
theorem KV.put {az:List (κ × V)} {vs:List (κ × Value)} (r:KV az vs) (k:κ) {y:V} {u:Value} (ry:RelV y u):KV (putK az k y) (stored vs k u):=by
 unfold putK stored
 rw [r.any k]
 by_cases e:(vs.any fun kv=>decide (kv.1=k))=true
 ·rw [if_pos e,if_pos e]; exact r.rn k ry
 ·rw [if_neg e,if_neg e]; exact Paired.snoc r ⟨rfl,ry⟩
theorem KV.length {az:List (κ × V)} {vs:List (κ × Value)} (r:KV az vs):az.length=vs.length:=Paired.length r
theorem Ac (az:List (κ × V)) (k:κ):(l7 az k).length<=az.length:=List.length_filter_le _ _
end
theorem wK {P:Program} {w:World} {k:Key} {u:Value} (r:RelV (kV k) u):(cg P w).is k u=true:=by
 cases k with
 | inl i=>obtain ⟨t,e⟩:=(show ∃ t,u=Value.int i t from r); subst e; exact sV P w i t
 | inr x=>obtain ⟨t,e⟩:=(show ∃ t,u=Value.str x t from r); subst e; exact sW P w x t
theorem p_ {P:Program} {w:World}:∀ {ks:List Key} {us:List Value},Vals (ks.map kV) us->ItemsAre (cg P w) ks us
 | [],_,r=>by rw [List.map_nil] at r; cases r; exact .nil
 | k::ks,_,r=>by
  rw [List.map_cons] at r
  cases r with
  | cons h t=>exact .cons (wK h) (p_ t)
noncomputable abbrev KT (H:Hp):List (List Key × V)->List (List Key × Addr × Value)->Prop:=Paired fun p q=>p.1=q.1/\H q.2.1=some (.tup (p.1.map kV))/\RelV p.2 q.2.2
theorem KT.val {H:Hp} {az:List (List Key × V)} {xs:List (List Key × Addr × Value)} (r:KT H az xs) (k:List Key):j5 (gs az k) ((atKey xs k).map (·.2)):=by
 induction r with
 | nil=>exact True.intro
 | @cons p q ps qs h t ih=>
  obtain ⟨h1,_,h2⟩:=h
  by_cases e:p.1=k
  ·have e':q.1=k:=h1.symm.trans e
   have b:atKey (q::qs) k=some q.2:=by simp [atKey,List.find?_cons,e']
   rw [nM e,b]; exact h2
  ·have e':¬ q.1=k:=fun z=>e (h1.trans z)
   have b:atKey (q::qs) k=atKey qs k:=by simp [atKey,List.find?_cons,e']
   rw [nN e,b]; exact ih
theorem KT.rn {H:Hp} {az:List (List Key × V)} {xs:List (List Key × Addr × Value)} (r:KT H az xs) (k:List Key) {y:V} {u:Value} (ry:RelV y u) :
  KT H (az.map fun kv=>if kv.1=k then (kv.1,y) else kv) (xs.map (putAt k u)):=by
 induction r with
 | nil=>exact .nil
 | @cons p q ps qs h t ih=>
  rw [List.map_cons,List.map_cons]
  refine .cons ?_ ih
  obtain ⟨h1,h2,h3⟩:=h
  unfold putAt
  by_cases e:p.1=k
  ·rw [if_pos e,if_pos (h1.symm.trans e)]; exact ⟨h1,h2,ry⟩
  ·rw [if_neg e,if_neg (fun z=>e (h1.trans z))]; exact ⟨h1,h2,h3⟩
theorem KT.put {H:Hp} {az:List (List Key × V)} {xs:List (List Key × Addr × Value)} (r:KT H az xs) (k:List Key) {b:Addr} {y:V} {u:Value} (hb:H b=some (.tup (k.map kV))) (ry:RelV y u) :
  KT H (putK az k y) (storedH xs k b u):=by
 have e:(az.any fun kv=>decide (kv.1=k))=(atKey xs k).isSome:=by
  rw [tw,(r.val k).yh,Option.isSome_map]
 unfold putK storedH
 rw [e]
 by_cases q:(atKey xs k).isSome=true
 ·rw [if_pos q,if_pos q]; exact r.rn k ry
 ·rw [if_neg q,if_neg q]; exact Paired.snoc r ⟨rfl,hb,ry⟩
theorem KT.keeps {H H':Hp} {az:List (List Key × V)} {xs:List (List Key × Addr × Value)} (r:KT H az xs) (ht:∀ b ys,H b=some (.tup ys)->H' b=some (.tup ys)):KT H' az xs:=
 Paired.Gv r fun _ _ z=>⟨z.1,ht _ _ z.2.1,z.2.2⟩
section
variable {P:Program} {w:World} {H:Hp} {h:Heap} {a:Addr}
theorem FG {u:HO} (ok:iE P w H h) (e:Rd H a u):bx P w H h a u:=e.ok ok
theorem tD {az:List (Key × V)} (ok:iE P w H h) (e:Rd H a (.dK az)):az.length<=sizeLine/\(a==sysModules)=false/\∃ vs,KV az vs/\h.DictOf (cg P w) a vs:=
 show bx P w H h a (.dK az) from FG ok e
theorem KH {az:List (Key × V)} (ok:iE P w H h) (e:H a=some (.dK az)):az.length<=sizeLine/\(a==sysModules)=false/\∃ vs,KV az vs/\h.DictOf (cg P w) a vs:=tD ok (.inl e)
theorem k9 {ks:List Key} (ok:iE P w H h) (e:H a=some (.tup (ks.map kV))):(tupleKind (cg P w)).is h ks a:=by
 obtain ⟨_,aD,r,o,h1,h2,n,h3⟩:=(show bx P w H h a (.tup (ks.map kV)) from ok a _ e)
 exact ⟨o,aD.toArray,n,h1,h2,h3,by simpa using p_ r⟩
theorem tF {az:List (List Key × V)} (ok:iE P w H h) (e:Rd H a (.dT az)):az.length<=sizeLine/\(a==sysModules)=false /\
  ∃ xs,KT H az xs/\h.DictOfH (tupleKind (cg P w)) a xs:=by
 obtain ⟨z,y,xs,r,o,es,ep,h1,h2,h3,h4,h5⟩:=(show bx P w H h a (.dT az) from FG ok e)
 refine ⟨z,y,xs,r,o,es,ep,h1,h2,h3,h4,fun x hx=>?_,h5⟩
 have all:∀ {l:List (List Key × V)} {m:List (List Key × Addr × Value)},KT H l m->∀ x∈m,(tupleKind (cg P w)).is h x.1 x.2.1:=by
  intro l m q
  induction q with
  | nil=>intro x hx; exact nomatch hx
  | @cons p q ps qs hq t ih=>
   intro x hx
   rcases List.mem_cons.mp hx with e | hx
   ·subst e
    exact k9 ok (by rw [<-hq.1]; exact hq.2.1)
   ·exact ih x hx
 exact all r x hx
theorem FH {az:List (List Key × V)} (ok:iE P w H h) (e:H a=some (.dT az)):az.length<=sizeLine/\(a==sysModules)=false /\
  ∃ xs,KT H az xs/\h.DictOfH (tupleKind (cg P w)) a xs:=tF ok (.inl e)
end
noncomputable def mQ (H:Hp) (a:Addr) (y:V) (r:Option V):Prop:=
 (∃ az k,Rd H a (.dK az)/\y=kV k/\r=gs az k)\/∃ az k b,Rd H a (.dT az)/\y=.ref b/\H b=some (.tup (k.map kV))/\r=gs az k
noncomputable def ro (H:Hp) (a:Addr) (y v:V) (H':Hp):Prop:=
 (∃ az k,H a=some (.dK az)/\y=kV k/\az.length<sizeLine/\H'=upd H a (.dK (putK az k v))) \/
 ∃ az k b,H a=some (.dT az)/\y=.ref b/\H b=some (.tup (k.map kV))/\az.length<sizeLine/\H'=upd H a (.dT (putK az k v))
theorem mQ.k {H:Hp} {a:Addr} {az:List (Key × V)} {k:Key} (e:H a=some (.dK az)):mQ H a (kV k) (gs az k):=.inl ⟨az,k,.inl e,rfl,rfl⟩
theorem mQ.t {H:Hp} {a b:Addr} {az:List (List Key × V)} {k:List Key} (e:H a=some (.dT az)) (eb:H b=some (.tup (k.map kV))):mQ H a (.ref b) (gs az k):=.inr ⟨az,k,b,.inl e,rfl,eb,rfl⟩
theorem ro.k {H:Hp} {a:Addr} {az:List (Key × V)} {k:Key} {v:V} (e:H a=some (.dK az)) (hl:az.length<sizeLine):ro H a (kV k) v (upd H a (.dK (putK az k v))):=.inl ⟨az,k,e,rfl,hl,rfl⟩
theorem ro.t {H:Hp} {a b:Addr} {az:List (List Key × V)} {k:List Key} {v:V} (e:H a=some (.dT az)) (eb:H b=some (.tup (k.map kV))) (hl:az.length<sizeLine) :
  ro H a (.ref b) v (upd H a (.dT (putK az k v))):=.inr ⟨az,k,b,e,rfl,eb,hl,rfl⟩
section
variable {X:Cx} {pins:List (Addr × Obj)} {σ:St} {H:Hp} {s:Shared} {a:Addr} {y v:V} {u r:Value} {o:Option V} {A:Around} {E:Value->Shared->Prop}
theorem Inv.big (I:Inv X pins σ H s):sysModules<s.heap.objs.size:=by
 have h:mainGlobals<s.heap.objs.size:=(I.mod.glob.keeps I.bk).lt
 exact Nat.lt_trans (by decide) h
theorem yi {Q:Value->Shared->Prop} (hu:A.units+1<cLine) (I:Inv X pins σ H s) (g:mQ H a y (some v)) (ry:RelV y u) (h:∀ w' s',Inv X pins σ H s'->RelV v w'->Q w' s') :
  wpAny (model X.prog X.w) A (getItem (.ref a) u) Q E s:=by
 rcases g with ⟨az,k,e,ey,l⟩ | ⟨az,k,b,e,ey,eb,l⟩
 ·subst ey
  obtain ⟨z,hd,vs,rel,dd⟩:=tD I.bK e
  obtain ⟨w',hw,tj⟩:=j5.some_of (v:=v) (o:=valueAt vs k) (by rw [l]; exact rel.val k)
  exact wpAny_getItem_of (wK ry) dd.mapOf hw (h w' _ (I.tok _) tj)
 ·subst ey
  cases (show u=Value.ref b from ry)
  obtain ⟨z,hd,xs,rel,dd⟩:=tF I.bK e
  obtain ⟨w',hw,tj⟩:=j5.some_of (v:=v) (o:=(atKey xs k).map (·.2)) (by rw [l]; exact rel.val k)
  obtain ⟨p,hp,CI⟩:=Option.map_eq_some_iff.mp hw
  refine wpAny_getItem_heap (tupleKind_room_in1 hu) (k9 I.bK eb) dd hp ?_
  rw [CI]
  exact h w' _ (I.tok _) tj
theorem rq {h':Heap} {t':Nat} {ob:HO} (I:Inv X pins σ H s) (mu:JT (H a)) (hs:Heap.SameBut a s.heap h') (he:∃ q,h'.get? a=some q) (new:bx X.prog X.w (upd H a ob) h' a ob) :
  Inv X pins σ (upd H a ob) { s with heap:=h',toks:=t' } :=
 I.write (x:=a) (e:=a) mu (.inl rfl) (fun b q hb z=>(hs.2 b hb).trans z) he new
theorem Hk {P:Program} {w:World} {H':Hp} {h':Heap} {az:List (Key × V)} {vs:List (Key × Value)} (z:az.length<=sizeLine) (hd:(a==sysModules)=false) (rel:KV az vs) (dd:h'.DictOf (cg P w) a vs) :
  bx P w H' h' a (.dK az):=⟨z,hd,vs,rel,dd⟩
theorem yj {H':Hp} {Q:Unit->Shared->Prop} (hu:A.units+1<cLine) (I:Inv X pins σ H s) (g:ro H a y v H') (ry:RelV y u) (rv:RelV v r) (h:∀ s',Inv X pins σ H' s'->Q () s') :
  wpAny (model X.prog X.w) A (setItem (.ref a) u r) Q E s:=by
 rcases g with ⟨az,k,e,ey,l,eH⟩ | ⟨az,k,b,e,ey,eb,l,eH⟩
 ·subst ey eH
  obtain ⟨z,hd,vs,rel,dd⟩:=KH I.bK e
  have hz:vs.length<=sizeLine:=by rw [<-rel.length]; exact z
  have hl:(putK az k v).length<=sizeLine:=by have:=iP az k v; lia
  refine wpAny_setItem_pairs (hsz:=hz) (wK ry) dd fun h' Ju hs=>h _ ?_
  have he:∃ q,h'.get? a=some q:=let ⟨q,_,_,hq,_⟩:=Ju; ⟨q,hq⟩
  exact rq I (by rw [e]; exact True.intro) hs he (Hk hl hd (rel.put k rv) Ju)
 ·subst ey eH
  cases (show u=Value.ref b from ry)
  obtain ⟨z,hd,xs,rel,dd⟩:=FH I.bK e
  have hz:xs.length<=sizeLine:=by rw [<-Paired.length rel]; exact z
  have hl:(putK az k v).length<=sizeLine:=by have:=iP az k v; lia
  refine wpAny_setItem_heap (hsz:=hz) (tupleKind_room_in1 hu) (k9 I.bK eb) dd fun h' Ju hs=>h _ ?_
  obtain ⟨q,es,ep,hq,h2,h3,h4,_,h5⟩:=Ju
  refine rq I (by rw [e]; exact True.intro) hs ⟨q,hq⟩ ⟨hl,hd,_,(rel.put k eb rv).keeps fun c ys ec=>?_,q,es,ep,hq,h2,h3,h4,h5⟩
  rw [aU (Ft ec e (fun z=>nomatch z))]
  exact ec
end
section
variable {X:Cx} {pins:List (Addr × Obj)} {σ:St} {H:Hp} {s:Shared} {a:Addr} {az:List (Key × V)} {k:Key} {u:Value} {A:Around} {E:Value->Shared->Prop}
end
noncomputable def Hl (i:Expr):Prop:=∀ ov iv,subscripted i false ov iv=operate [ov,iv] (getItem ov iv)
theorem DB {prog:Program} {w:World} {A:Around} {E:Value->Shared->Prop} {s:Shared} {env:Env} {value slice:Expr} {pos:Pos} {T id:String} {Q:Value->Shared->Prop}
  (hl:typeLookup (.type T) "__getitem__" = pure (some (.builtin id))) (hs:Hl slice)
  (h:wpAny (model prog w) A (eval value env) (fun o s₁=>wpAny (model prog w) A (eval slice env) (fun i s₂=>s₂.TypeIs o T/\wpAny (model prog w) A (getItem o i) Q E s₂) E s₁) E s) :
  wpAny (model prog w) A (eval (.Subscript value slice pos) env) Q E s:=by
 refine Subscript_ (wpAny_mono h (fun o s₁ h₁=>wpAny_mono h₁ (fun i s₂ h₂=>?_) fun _ _ x=>x) fun _ _ x=>x)
 obtain ⟨hT,h₂⟩:=h₂
 unfold subscriptTail
 refine wpAny_bind ?_
 rw [getitemInPython_of_ne hT.not_modules]
 refine wpAny_bind (wpAny_specialOf hT hl ?_)
 have fin:wpAny (model prog w) A (subscripted slice false o i) (fun r s₃=>wpAny (model prog w) A (letTemporaryGo value o r >>= fun _=>pure r) Q E s₃) E s₂:=by
  rw [hs o i]
  exact wpAny_operating (wpAny_mono h₂ (fun r s₃ h₃=>wpAny_bind (wpAny_letTemporaryGo (wpAny_pure h₃))) fun _ _ x=>x)
 first
  | exact wpAny_pure (wpAny_bind fin)
  | exact wpAny_bind (wpAny_pure (wpAny_bind fin))
  | exact wpAny_bind fin
theorem tH {X:Cx} {pins:List (Addr × Obj)} {σ:St} {H:Hp} {s:Shared} {a:Addr} {y:V} {o:Option V} (I:Inv X pins σ H s) (g:mQ H a y o):s.TypeIs (.ref a) "dict":=by
 rcases g with ⟨az,k,e,_,_⟩ | ⟨az,k,b,e,_,_,_⟩
 ·obtain ⟨_,_,vs,_,dd⟩:=tD I.bK e
  exact dd.typeIs
 ·obtain ⟨_,_,xs,_,dd⟩:=tF I.bK e
  exact dd.typeIs
noncomputable def KI (td ty:TE):TE:=fun σ H Q=>td σ H fun x H1=>ty σ H1 fun y H2=>∃ a v,x=.ref a/\mQ H2 a y (some v)/\Q v H2
noncomputable def KJ (td ty tv:TE):TS:=fun D σ H=>tv σ H fun v H1=>td σ H1 fun x H2=>ty σ H2 fun y H3=>∃ a H4,x=.ref a/\ro H3 a y v H4/\D.nx σ H4
section
variable {X:Cx} {o i e value:Expr} {pos pos' GZ:Pos} {td ty tv:TE}
theorem DC (hu:X.A.units+1<cLine) (ho:PE X o td) (hi:PE X i ty) (hs:Hl i):PE X (.Subscript o i pos) (KI td ty):=by
 intro pins s σ H Q I h
 refine DB PySem.F.slot_dict_getitem.lookup hs (cT (ho pins s σ H _ I h) fun u s1 ⟨x,H1,I1,rx,q1⟩=>cT (hi pins s1 σ H1 _ I1 q1) fun iv s2 ⟨y,H2,I2,ry,a,v,ex,g,q2⟩=>?_)
 subst ex
 obtain rfl:u=Value.ref a:=rx
 exact ⟨tH I2 g,yi hu I2 g ry fun w' s3 I3 tj=>⟨v,H2,I3,tj,q2⟩⟩
theorem DD (hu:X.A.units+1<cLine) (ho:PE X o td) (hi:PE X i ty) (hv:PE X value tv) (hs:swapsWith value (some (.Subscript o i pos')) pos.line X.env=pure false) :
  PS X (.Assign [.Subscript o i pos'] value pos) (KJ td ty tv):=by
 intro pins s σ H D I h
 refine wpAny_Assign_Subscript (cT (hv pins s σ H _ I h) fun r s1 ⟨v,H1,I1,rv,q1⟩=>cT (ho pins s1 σ H1 _ I1 q1) fun u s2 ⟨x,H2,I2,rx,q2⟩=>cT (hi pins s2 σ H2 _ I2 q2) fun iv s3 ⟨y,H3,I3,ry,a,H4,ex,g,q3⟩=>?_) hs
 subst ex
 obtain rfl:u=Value.ref a:=rx
 exact yj hu I3 g ry rv fun s4 I4=>⟨σ,H4,I4,q3⟩
end
theorem Ad {P:Program} {w:World} {H:Hp} (h:Heap) (hb:sysModules<h.objs.size):bx P w H (h.push { cls:=.type "dict",data:=.dict #[] }) h.objs.size (.dT []):=
 ⟨Nat.zero_le _,beq_eq_false_iff_ne.mpr (Ne.symm (Nat.ne_of_lt hb)),[],.nil,_,#[],0,Heap.get?_push_size _ rfl,⟨rfl,rfl,rfl⟩,rfl,rfl,List.nodup_nil⟩
noncomputable def Hm:TE:=fun _ H Q=>∀ p,H p=none->Q (.ref p) (upd H p (.dT []))
section
variable {X:Cx} {pos:Pos}
theorem Ae:PE X (.Dict [] [] pos) Hm:=fun pins s σ H Q I h=>
 wpAny_Dict_empty ⟨.ref s.heap.objs.size,_,I.laid (a:=s.heap.objs.size) (o:=.dT []) (t':=s.toks) (fun _ _ q=>Heap.get?_push_of_some _ q) (Nat.le_refl _) (Ad s.heap I.big),rfl,h _ (I.bK.fresh (Nat.le_refl _))⟩
end
structure M1 (X:Cx) (o:Expr) (m:Str) (apos:Pos) (e:Expr) (a7:Pos):Prop where
 base:attributeBase o m X.env (eval o X.env)=eval o X.env
 Oy:((backTo a7 (starEach [e] X.env)).all (fun x => !x.1)&&(backToKw a7 (keywordEach [] X.env)).all (fun x=>x.1.isSome)
  && decide (([e]:List Expr).length+([]:List Keyword).length+(if ([]:List Keyword).isEmpty then 0 else 1)<30))=true
 line:(apos.endLine==a7.line)=true
 trees:backTo a7 (starEach [e] X.env)=[(false,eval e X.env)]
structure M2 (X:Cx) (o:Expr) (m:Str) (apos:Pos) (e f:Expr) (a7:Pos):Prop where
 base:attributeBase o m X.env (eval o X.env)=eval o X.env
 Oy:((backTo a7 (starEach [e,f] X.env)).all (fun x => !x.1)&&(backToKw a7 (keywordEach [] X.env)).all (fun x=>x.1.isSome)
  && decide (([e,f]:List Expr).length+([]:List Keyword).length+(if ([]:List Keyword).isEmpty then 0 else 1)<30))=true
 line:(apos.endLine==a7.line)=true
 trees:backTo a7 (starEach [e,f] X.env)=[(false,eval e X.env),(false,eval f X.env)]
noncomputable def KL (H:Hp) (a:Addr):Prop:=(∃ az,Rd H a (.dK az))\/∃ az,Rd H a (.dT az)
theorem Af {X:Cx} {pins:List (Addr × Obj)} {σ:St} {H:Hp} {s:Shared} {a:Addr} (I:Inv X pins σ H s) (d:KL H a) :
  s.TypeIs (.ref a) "dict" /\ (∀ b,Value.ref a=.ref b->∃ ob,s.heap.get? b=some ob/\ob.dict=none)/\(a==sysModules)=false:=by
 rcases d with ⟨az,e⟩ | ⟨az,e⟩
 ·obtain ⟨_,hd,vs,_,dd⟩:=tD I.bK e
  refine ⟨dd.typeIs,fun b q=>?_,hd⟩
  cases q
  obtain ⟨ob,_,_,h1,h2,_⟩:=dd
  exact ⟨ob,h1,h2.2.1⟩
 ·obtain ⟨_,hd,xs,_,dd⟩:=tF I.bK e
  refine ⟨dd.typeIs,fun b q=>?_,hd⟩
  cases q
  obtain ⟨ob,_,_,h1,h2,_⟩:=dd
  exact ⟨ob,h1,h2.2.1⟩
section
variable {X:Cx} {pins:List (Addr × Obj)} {σ:St} {H:Hp} {s:Shared} {a:Addr} {y d:V} {u r:Value} {o:Option V} {A:Around} {E:Value->Shared->Prop}
theorem Hn {Q:Value->Shared->Prop} (hu:A.units+1<cLine) (I:Inv X pins σ H s) (g:mQ H a y o) (ry:RelV y u) (rd:RelV d r) (h:∀ w' s',Inv X pins σ H s'->RelV (o.getD d) w'->Q w' s') :
  wpAny (model X.prog X.w) A (call (.builtin "dict.get") [.ref a,u,r]) Q E s:=by
 rcases g with ⟨az,k,e,ey,l⟩ | ⟨az,k,b,e,ey,eb,l⟩
 ·subst ey
  obtain ⟨z,hd,vs,rel,dd⟩:=tD I.bK e
  refine call_meetsIn PySem.F.slot_dict_get dd.typeIs PySem.F.entry_dict_get (PySem.F.args_dict_get_3 _ _ _) (meets_dict_get_default (cg X.prog X.w) a (wK ry) hd r) ⟨_,dd.mapOf,h _ _ (I.tok _) ?_⟩
  rw [l]
  exact (rel.val k).getD rd
 ·subst ey
  cases (show u=Value.ref b from ry)
  obtain ⟨z,hd,xs,rel,dd⟩:=tF I.bK e
  refine call_meetsIn PySem.F.slot_dict_get dd.typeIs PySem.F.entry_dict_get (PySem.F.args_dict_get_3 _ _ _) (meetsH_dict_get_default (tupleKind (cg X.prog X.w)) a b hd r) ⟨tupleKind_room_in1 hu,k,xs,k9 I.bK eb,dd,h _ _ (I.tok _) ?_⟩
  rw [l]
  exact (rel.val k).getD rd
end
noncomputable def Ho (td ty tx:TE):TE:=fun σ H Q=>td σ H fun x H1=>∃ a,x=.ref a/\KL H1 a/\ty σ H1 fun y H2=>tx σ H2 fun z H3=>∃ o,mQ H3 a y o/\Q (o.getD z) H3
section
variable {X:Cx} {o e f:Expr} {apos a7:Pos} {td ty tx:TE}
theorem Ag (hu:X.A.units+1<cLine) (ho:PE X o td) (he:PE X e ty) (hf:PE X f tx) (m:M2 X o "get" apos e f a7):PE X (.Call (.Attribute o "get" apos) [e,f] [] a7) (Ho td ty tx):=by
 intro pins s σ H Q I h
 refine wpAny_Call_method m.base m.Oy m.line PySem.F.plainAttrs_dict PySem.F.slot_dict_get PySem.F.type_dict_get (cT (ho pins s σ H _ I h) fun u s1 ⟨x,H1,I1,rx,a,ex,d,q1⟩=>?_)
 subst ex
 obtain rfl:u=Value.ref a:=rx
 obtain ⟨t1,t2,_⟩:=Af I1 d
 refine ⟨t1,t2,?_⟩
 rw [m.trees]
 refine Calls.callWith_builtin rfl (Calls.evalArgs_plain (Calls.spliced_cons (cT (he pins s1 σ H1 _ I1 q1) fun iv s2 ⟨y,H2,I2,ry,q2⟩=>
  Calls.spliced_cons (cT (hf pins s2 σ H2 _ I2 q2) fun fv s3 ⟨z,H3,I3,rz,ov,g,q3⟩=>Calls.spliced_nil ?_))))
 exact Hn hu I3 g ry rz fun w' s4 I4 tj=>⟨_,H3,I4,tj,q3⟩
end
section
variable {X:Cx} {pins:List (Addr × Obj)} {σ:St} {H:Hp} {s:Shared} {a:Addr} {az:List (Key × V)} {A:Around} {E:Value->Shared->Prop}
end
section
variable {X:Cx} {pins:List (Addr × Obj)} {σ:St} {H:Hp} {s:Shared} {a:Addr} {y:V} {u:Value} {A:Around} {E:Value->Shared->Prop}
end
section
variable {κ:Type} [DecidableEq κ]
end
theorem k4.upd {H H':Hp} {p:Addr} {o:HO} (e:k4 H H') (h:H' p=none):k4 H (upd H' p o):=fun b u q=>by
 rw [aU (ba (e b u q) h)]
 exact e b u q
noncomputable def f_ (k:Nat) (i:Int):Prop:=i.natAbs<2 ^ k
theorem f_.bits {k:Nat} {i:Int} (h:f_ k i):Builtin.Int.intBits i<=k:=by
 unfold Builtin.Int.intBits
 by_cases hz:(i==0)=true
 ·rw [if_pos hz]; exact Nat.zero_le _
 ·rw [if_neg hz]
  have h0:i.natAbs≠0:=by
   intro e
   apply hz
   have:i=0:=Int.natAbs_eq_zero.mp e
   simp [this]
  have:=(Nat.log2_lt h0).mpr h
  lia
theorem f_.mono {j k:Nat} {i:Int} (h:f_ j i) (hk:j<=k):f_ k i:=Nat.lt_of_lt_of_le h (Nat.pow_le_pow_right (by decide) hk)
theorem f_.le {k:Nat} {i j:Int} (h:f_ k j) (e:i.natAbs<=j.natAbs):f_ k i:=Nat.lt_of_le_of_lt e h
theorem f_.mul {j k:Nat} {x y:Int} (h1:f_ j x) (h2:f_ k y):f_ (j+k) (x*y):=by
 show (x*y).natAbs<2 ^ (j+k)
 rw [Int.natAbs_mul,Nat.pow_add]
 exact Nat.mul_lt_mul'' h1 h2
noncomputable def wL (i j:Int):Prop:=∃ a b,f_ a i/\f_ b j/\a<=2 ^ 20/\b<=2 ^ 20
theorem wL.ok {i j:Int} (h:wL i j):IntMulOk i j:=by
 obtain ⟨a,b,h1,h2,h3,h4⟩:=h
 exact IntMulOk.of_bits (Nat.le_trans h1.bits h3) (Nat.le_trans h2.bits h4)
noncomputable def wM (i j:Int):Prop:=j≠0/\f_ 9000 j
theorem wM.ok {i j:Int} (h:wM i j):Builtin.divisionGoesByPylong i j=false:=
 PyProof.noPylong_of_log2 ((Nat.log2_lt (by intro e; exact h.1 (Int.natAbs_eq_zero.mp e))).mpr h.2)
section
variable {X:Cx}
theorem DE:c9 X (binaryOp .Mult) (rI wL fun i j=>.int (i*j)):=Ke fun _ _ _ _ _ _ _ hc q=>PyProof.Rows.mul_int q hc.ok
theorem Ah:c9 X (binaryOp .FloorDiv) (rI wM fun i j=>.int (i.fdiv j)):=Ke fun _ _ _ _ _ _ _ hc q=>floordiv_int hc.1 q (.inl hc.ok)
end
theorem rA {prog:Program} {w:World} {A:Around} {s:Shared} {elt target iter:Expr} {ifs:List Expr} {scope:Scope} {pos:Pos} {it acc:Value} {env:Env} {R:Result->Shared->Prop} (I:Nat->Shared->Prop)
  (turn:∀ n s,I n s->wpAny (model prog w) A (pyNext it) (fun r s₁=>match r with
   | none=>R (.ok .next) s₁
   | some v=>wpAny (model prog w) A (letOwnedTupleGo target it v) (fun _ FI=>wpAny (model prog w) A (assign target env v) (fun _ s₂=>
     wpAny (model prog w) A (forIn ifs true fun c r=>if r=true then do let ok <- isTrue c env (eval c env); pure (ForInStep.yield ok) else pure (ForInStep.yield r)) (fun ok s₃=>
      if ok=true then wpAny (model prog w) A (eval elt env) (fun x s₄=>
       wpAny (model prog w) A (call (.builtin "list.append") [acc,x]) (fun _ s₅=>∃ m,m<n/\I m s₅) (fun _ _=>False) s₄) (fun _ _=>False) s₃
      else ∃ m,m<n/\I m s₃) (fun _ _=>False) s₂) (fun _ _=>False) FI) (fun _ _=>False) s₁) (fun _ _=>False) s)
  (n:Nat) (h:I n s):codeAny (model prog w) A (.compLoop (.ListComp elt [⟨target,iter,ifs,0⟩] scope pos) 0 it acc env) R s:=by
 refine codeAny_loop rfl I (fun n s hI=>?_) n h
 show wpAny _ A ((compTurn (.ListComp elt [⟨target,iter,ifs,0⟩] scope pos) 0 it acc env).onRaise (fun x=>do noteFrame x env; theTreesLotGoes x)) _ _ s
 refine wpAny_noted ?_
 rw [compTurn_list]
 refine wpAny_bind (wpAny_standAt (wpAny_bind (wpAny_mono (turn n s hI) (fun r s₁ h₁=>?_) fun _ _ h'=>h'.elim)))
 cases r with
 | none=>exact wpAny_pure h₁
 | some v=>
  refine wpAny_bind (wpAny_mono h₁ (fun _ FI KN=>?_) fun _ _ h'=>h'.elim)
  refine wpAny_bind (wpAny_mono KN (fun _ s₂ h₂=>wpAny_bind (wpAny_mono h₂ (fun ok s₃ h₃=>?_) fun _ _ h'=>h'.elim)) fun _ _ h'=>h'.elim)
  cases ok with
  | false=>exact wpAny_pure ⟨rfl,h₃⟩
  | true=>exact wpAny_bind (wpAny_bind (wpAny_mono h₃ (fun x s₄ h₄=>wpAny_bind (wpAny_mono h₄ (fun _ s₅ h₅=>wpAny_pure (wpAny_pure ⟨rfl,h₅⟩)) fun _ _ h'=>h'.elim)) fun _ _ h'=>h'.elim))
noncomputable def FJ (X:Cx) (ifs:List Expr) (t:TT):Prop:=
 ∀ (pins:List (Addr × Obj)) (s:Shared) (σ:St) (H:Hp) (Q:Bool->Hp->Prop),Inv X pins σ H s->t σ H Q ->
  wpAny (model X.prog X.w) X.A (forIn ifs true fun c r=>if r=true then do let ok <- isTrue c X.env (eval c X.env); pure (ForInStep.yield ok) else pure (ForInStep.yield r)) (TP X pins σ Q) X.xe s
noncomputable def KO:TT:=fun _ H Q=>Q true H
theorem DF {X:Cx}:FJ X [] KO:=fun _ _ _ H _ I h=>wpAny_tests_nil ⟨H,I,h⟩
theorem DG {X:Cx} {c:Expr} {t:TT} (h:PT X c t):FJ X [c] t:=fun pins s σ H Q I hw=>wpAny_tests_one (h pins s σ H Q I hw)
theorem iE.KP {P:Program} {w:World} {H:Hp} {h:Heap} {a:Addr} {o:HO} (x:iE P w H h) (hn:H a=none) (new:bx P w (upd H a o) h a o):iE P w (upd H a o) h:=fun b u e=>by
 by_cases hb:b=a
 ·subst hb; rw [bU] at e; cases e; exact new
 ·rw [aU hb] at e
  exact (x b u e).mM (fun c v _ q=>q) (fun c q=>by rw [aU (ba q hn)]; exact q) fun c xs q=>by rw [aU (ba q hn)]; exact q
noncomputable def uX (X:Cx) (N:List Str) (scope:Scope) (cl:List (Str × Addr)) (C:Addr) (fp:List Addr) (s:Shared) (H:Hp):Cx:=
 { X with N:=N,s₀:=s,H₀:=H,env:=compEnvC scope cl C X.env,outer:=X.stack,stack:=X.stack,ex:=fp,fn:=fun _=>false,pn:=[],xe:=fun _ _=>False }
noncomputable def mR (k:Nat) (caps:List Nat) (σ:St):St:=List.replicate k none++caps.map fun j=>(σ[j]?).getD none
structure yk (X:Cx) (N:List Str) (scope:Scope) (cl:List (Str × Addr)) (k:Nat) (caps:List Nat):Prop where
 vh:closureFor scope X.env=pure cl
 sub:∀ x c,cl.lookup x=some c->X.env.cells.lookup x=some c
 has:∀ x,((relabel scope X.env).names.lookup x=some .cell\/(relabel scope X.env).names.lookup x=some .free)->∃ c,cl.lookup x=some c
 jF:∀ x∈scope.names,x.2≠.cell
 kind:scope.kind=.function
 names:∀ x∈scope.names,x.2=.local->scope.names.lookup x.1=some .local
 len:N.length=k+caps.length
 at_:∀ i j x,caps[i]?=some j->N[k+i]?=some x->X.N[j]?=some x/\(X.env.kindOf x=some .cell\/X.env.kindOf x=some .free)/\((relabel scope X.env).names.lookup x=some .cell\/(relabel scope X.env).names.lookup x=some .free)
noncomputable def tJ (J:It) (k:Nat) (caps:List Nat) (g:TG) (tt:TT) (te:TE) (σ:St) (H1:Hp) (Q:VK):Prop:=
 ∃ W:Nat->Nat->List V->St->Hp->Prop,(∃ m,W 0 m [] (mR k caps σ) H1)/\∀ i m ys τ H,W i m ys τ H ->
  (J.stop i H/\ys.length<=sizeLine/\∀ p,H p=none->Q (.ref p) (upd H p (.lst ys))) \/
  (J.go i H/\ys.length<sizeLine/\∀ x H',J.J7 i H x H'->g x τ H' fun τ2 H2=>tt τ2 H2 fun b H3=>if b=true then te τ2 H3 fun y H4=>∃ m',m'<m/\W (i+1) m' (ys++[y]) τ2 H4 else ∃ m',m'<m/\W (i+1) m' ys τ2 H3)
@[irreducible] def qa (k:Nat) (caps:List Nat) (wi:TI) (g:TG) (tt:TT) (te:TE):TE:=fun σ H Q=>wi σ H fun J H1=>tJ J k caps g tt te σ H1 Q
theorem Ai {k:Nat} {caps:List Nat} {wi:TI} {g:TG} {tt:TT} {te:TE} {σ:St} {H:Hp} {Q:VK} (h:wi σ H fun J H1=>tJ J k caps g tt te σ H1 Q):qa k caps wi g tt te σ H Q:=by
 unfold qa
 exact h
theorem ym {k:Nat} {caps:List Nat} {wi:TI} {g:TG} {tt:TT} {te:TE} {σ:St} {H:Hp} {Q:VK} (h:qa k caps wi g tt te σ H Q):wi σ H fun J H1=>tJ J k caps g tt te σ H1 Q:=by
 unfold qa at h
 exact h
section
variable {X:Cx} {pins:List (Addr × Obj)} {σ:St} {H:Hp} {s:Shared}
theorem DH {k:Nat} {caps:List Nat} {σ:St} {i:Nat} {v:V} (h:(mR k caps σ)[i]?=some (some v)):∃ j,k<=i/\caps[i-k]?=some j/\σ[j]?=some (some v):=by
 unfold mR at h
 by_cases hi:i<k
 ·rw [List.getElem?_append_left (by simpa using hi),List.getElem?_replicate] at h
  split at h <;> cases h
 ·rw [List.getElem?_append_right (by simpa using Nat.le_of_not_lt hi),List.length_replicate,List.getElem?_map] at h
  cases e:caps[i-k]? with
  | none=>rw [e] at h; cases h
  | some j=>
   rw [e] at h
   refine ⟨j,Nat.le_of_not_lt hi,rfl,?_⟩
   have h':(σ[j]?).getD none=some v:=by simpa using h
   cases q:σ[j]? with
   | none=>rw [q] at h'; cases h'
   | some o=>rw [q] at h'; exact congrArg some h'
theorem Inv.block {N:List Str} {scope:Scope} {cl:List (Str × Addr)} {k:Nat} {caps:List Nat} {fp:List Addr} {C:Addr} {h':Heap} {t':Nat} {m':Str->Option Value}
  (I:Inv X pins σ H s) (B:yk X N scope cl k caps) (hf:∀ b∈fp,pq X pins H b) (hC:s.heap.objs.size<=C) (KQ:∀ b∈fp,∃ o,s.heap.get? b=some o)
  (kp:∀ b o,s.heap.get? b=some o->h'.get? b=some o) (ns:h'.Ns C m'):Inv (uX X N scope cl C fp s H) [] (mR k caps σ) H { s with heap:=h',toks:=t' }:=by
 have below:∀ {b:Addr} {o:Obj},s.heap.get? b=some o->b≠C:=fun e=>Nat.ne_of_lt (Nat.lt_of_lt_of_le (Heap.lt_size e) hC)
 have KR:∀ x c,cl.lookup x=some c->∃ v,s.heap.IsCell c v:=fun x c e=>I.cell x c (B.sub x c e)
 refine ⟨⟨I.ok.mod,?_,I.ok.glob,I.ok.blt,hC,fun x y c h1 h2=>I.ok.inj x y c (B.sub x c h1) (B.sub y c h2),fun x hx=>B.has x hx,fun x c h1 _=>?_,I.ok.hd,I.ok.frames,.inl rfl,fun b hb=>⟨?_,fun x c e=>?_⟩,I.bs,Nat.le_trans I.ok.CC I.sz,fun b o e hb=>?_,fun b hb=>?_,I.stack,I.qS⟩,
  rfl,I.bare,Un.kept kp,⟨m',ns,fun i x v h1 h2 h3=>?_⟩,fun x c e=>?_,?_,fun x c e=>I.fN x c (B.sub x c e),fun p hp=>absurd (show p∈([]:List (Addr × Obj)) from hp) (by simp),I.bK.kept kp,?_⟩
 ·exact B.kind
 ·exact absurd h1 (by simp [uX])
 ·obtain ⟨o,e⟩:=KQ b hb
  exact below e
 ·exact (hf b hb).2.2.2.2.1 x c (B.sub x c e)
 ·obtain ⟨_,_,_,h4,_⟩:=hf b hb
  rcases h4 with z | z
  ·exact I.ok.sZ b o e z
  ·exact absurd (Nat.lt_of_lt_of_le (Heap.lt_size (I.ok.bs b o e).1) z) (Nat.lt_irrefl _)
 ·intro z
  rcases List.mem_cons.mp (I.kU b z) with e | e
  ·exact (hf b hb).2.1 e
  ·exact (hf b hb).2.2.1 e
 ·obtain ⟨j,hk,hj,hσ⟩:=DH h2
  have hN:N[k+(i-k)]?=some x:=by rw [Nat.add_sub_cancel' hk]; exact h1
  obtain ⟨a1,a2,a3⟩:=B.at_ (i-k) j x hj hN
  obtain ⟨m,hn,hl⟩:=I.loc
  have RN:CZ X.env.scope x:=by
   rcases a2 with z | z
   ·exact .inr (.inl z)
   ·exact .inr (.inr z)
  obtain ⟨u,r,l⟩:=hl j x v a1 hσ RN
  refine ⟨u,r,.inr ⟨a3,?_⟩⟩
  rcases l with ⟨z,_⟩ | ⟨_,c,e,cc⟩
  ·rcases a2 with y | y <;> (rw [z] at y; cases y)
  ·obtain ⟨c',e'⟩:=B.has x a3
   have:X.env.cells.lookup x=some c':=B.sub x c' e'
   rw [e] at this
   cases this
   obtain ⟨o,ho,hd⟩:=cc
   exact ⟨c,e',o,kp c o ho,hd⟩
 ·obtain ⟨v,o,ho,hd⟩:=KR x c e
  exact ⟨v,o,kp c o ho,hd⟩
 ·exact I.bK.fresh hC
 ·show (mR k caps σ).length=N.length
  unfold mR
  rw [List.length_append,List.length_replicate,List.length_map,B.len]
noncomputable def Aj (X:Cx) (pins:List (Addr × Obj)) (σ:St) (s:Shared) (Q:VK) (acc:Value) (C:Addr) (s':Shared):Prop:=
 ∃ D H',acc=.ref D/\s.heap.objs.size<=C/\Inv X pins σ H' s'/\H' C=none/\(∃ m,s'.heap.Ns C m)/\Q (.ref D) H'
theorem yn {tg elt iter:Expr} {ifs:List Expr} {scope:Scope} {pos:Pos} {N:List Str} {cl:List (Str × Addr)} {k:Nat} {caps:List Nat} {g:TG} {tt:TT} {te:TE} {it:Addr} {fp:List Addr} {tn:Nat->Heap->Prop} {J:It} {Q:VK} {RR:Value->Addr->Result->Shared->Prop} {E:Value->Shared->Prop}
  (hc:X.calm=true) (B:yk X N scope cl k caps) (hg:∀ C fp s H,PG (uX X N scope cl C fp s H) tg g) (hi:∀ C fp s H,FJ (uX X N scope cl C fp s H) ifs tt) (he:∀ C fp s H,PE (uX X N scope cl C fp s H) elt te)
  (I:Inv X pins σ H s) (T:Turn X.prog X.w X.K tg J fp it tn) (st:tn 0 s.heap) (hf:∀ b∈fp,pq X pins H b)
  (h:tJ J k caps g tt te σ H Q)
  (RP:∀ acc C s',Aj X pins σ s Q acc C s'->RR acc C (.ok .next) s') :
  wpAny (model X.prog X.w) X.A (newList []) (fun acc s₃=>wpAny (model X.prog X.w) X.A (newFunctionEnv scope X.env.globals cl [] X.env.qual none .none (some X.env)) (fun KS s₄=>
   codeAny (model X.prog X.w) X.A (.compStart (.ListComp elt [⟨tg,iter,ifs,0⟩] scope pos) 0 (.ref it) acc { KS with scope:=relabel scope X.env }) (RR acc KS.locals) s₄) E s₃) E s:=by
 obtain ⟨W,⟨m0,w0⟩,turn⟩:=h
 refine wpAny_newObj_type (wpAny_newFunctionEnv B.jF (by intro y hy; simp at hy) (fun h₁ vi rB=>?_) B.kind)
 dsimp only at vi rB ⊢
 generalize Oz:s.heap.push { cls:=.type "list",dict:=none,data:=.seq ([]:List Value).toArray } = H2 at vi rB ⊢
 have hC:H2.objs.size=s.heap.objs.size+1:=by rw [<-Oz,Heap.size_push]
 have MW:s.heap.objs.size<=H2.objs.size:=by rw [hC]; exact Nat.le_succ _
 have MX:s.heap.objs.size≠H2.objs.size:=by rw [hC]; exact Nat.ne_of_lt (Nat.lt_succ_self _)
 have old:∀ b o,s.heap.get? b=some o->h₁.get? b=some o:=fun b o e=>rB.extBut b o (Nat.ne_of_lt (Nat.lt_of_lt_of_le (Heap.lt_size e) MW)) (Heap.get?_push_of_some _ (Oz ▸ Heap.get?_push_of_some _ e))
 have Hq:h₁.get? s.heap.objs.size=some { cls:=.type "list",data:=.seq ([]:List Value).toArray 0 }:=rB.extBut _ _ MX (Heap.get?_push_of_some _ (Oz ▸ Heap.get?_push_size _ rfl))
 have OA:=T.obj 0 _ st
 have KQ:∀ b∈fp,∃ o,s.heap.get? b=some o:=fun b hb=>let ⟨o,e,_⟩:=OA b hb; ⟨o,e⟩
 have QL:∀ b∈fp,b≠s.heap.objs.size:=fun b hb z=>by
  obtain ⟨o,e⟩:=KQ b hb
  exact absurd (Heap.lt_size e) (by rw [z]; exact Nat.lt_irrefl _)
 have RQ:H s.heap.objs.size=none:=I.bK.fresh (Nat.le_refl _)
 have FK:tn 0 h₁:=T.keep 0 _ _ st fun b _ o e=>old b o e
 have KU:∀ x c,cl.lookup x=some c->c≠s.heap.objs.size:=fun x c e z=>by
  obtain ⟨v,o,ho,_⟩:=I.cell x c (B.sub x c e)
  exact absurd (Heap.lt_size ho) (by rw [z]; exact Nat.lt_irrefl _)
 have OB:∀ b∈fK X.stack,b≠s.heap.objs.size:=fun b hb z=>by
  obtain ⟨_,o,ho,_⟩:=I.stack.mem hb
  exact absurd (Heap.lt_size ho) (by rw [z]; exact Nat.lt_irrefl _)
 have loop:∀ s₃:Shared,s₃ = { s with heap:=h₁,toks:=s.toks+([]:List (Str × Value)).length } ->
   codeAny (model X.prog X.w) X.A (.compLoop (.ListComp elt [⟨tg,iter,ifs,0⟩] scope pos) 0 (.ref it) (.ref s.heap.objs.size) (compEnvC scope cl H2.objs.size X.env)) (RR (.ref s.heap.objs.size) H2.objs.size) s₃:=by
  rintro s₃ rfl
  generalize uZ:uX X N scope cl H2.objs.size fp s H=XB
  have eP:XB.prog=X.prog:=by rw [<-uZ]; rfl
  have eW:XB.w=X.w:=by rw [<-uZ]; rfl
  have eK:XB.K=X.K:=by rw [<-uZ]; rfl
  have eA:XB.A=X.A:=by rw [<-uZ]; rfl
  have eE:XB.env=compEnvC scope cl H2.objs.size X.env:=by rw [<-uZ]; rfl
  have eL:XB.env.locals=H2.objs.size:=by rw [eE]; rfl
  have eF:XB.fs=fK X.stack:=by rw [<-uZ]; rfl
  have eX:XB.ex=fp:=by rw [<-uZ]; rfl
  have eN:XB.pn=[]:=by rw [<-uZ]; rfl
  have e0:XB.s₀=s:=by rw [<-uZ]; rfl
  have eC:XB.calm=true:=by rw [<-uZ]; exact hc
  have QM:XB.env.cells=cl:=by rw [eE]; rfl
  have OC:XB.xe=fun _ _=>False:=by rw [<-uZ]; rfl
  have pj:PG XB tg g:=by rw [<-uZ]; exact hg _ _ _ _
  have CJ:FJ XB ifs tt:=by rw [<-uZ]; exact hi _ _ _ _
  have RT:PE XB elt te:=by rw [<-uZ]; exact he _ _ _ _
  have I0:Inv XB [] (mR k caps σ) H { s with heap:=h₁,toks:=s.toks+([]:List (Str × Value)).length }:=by rw [<-uZ]; exact I.block B hf MW KQ old vi
  -- xT FL pinned
  have OD:∀ {τ:St} {H':Hp} {s':Shared} {aD:List Value} {nn:Nat},Inv XB [] τ H' s'->s'.heap.get? s.heap.objs.size=some { cls:=.type "list",data:=.seq aD.toArray nn }->H' s.heap.objs.size=none ->
    Inv XB [(s.heap.objs.size,{ cls:=.type "list",data:=.seq aD.toArray nn })] τ H' s':=fun {τ H' s' aD nn} J hd hn=>J.ni fun p hp=>by
   obtain rfl:p=_:=List.mem_singleton.mp hp
   refine ⟨hd,hn,by rw [eL]; exact MX,by rw [eF]; exact fun z=>OB _ z rfl,fun v z=>?_⟩
   have z':Data.seq aD.toArray nn=Data.cell v:=z
   cases z'
  have u7:∀ {H':Hp} {o:Obj},(∀ b∈fp,H' b=none)->∀ b∈fp,pq XB [(s.heap.objs.size,o)] H' b:=fun {H' o} hn b hb=>by
   obtain ⟨_,f1,f2,f3,f4,f5⟩:=hf b hb
   refine ⟨hn b hb,?_,?_,.inl (by rw [eX]; exact hb),fun x c e=>f4 x c (B.sub x c (by rw [<-QM]; exact e)),fun p hp=>?_⟩
   ·rw [eL]
    obtain ⟨o,e⟩:=KQ b hb
    exact Nat.ne_of_lt (Nat.lt_of_lt_of_le (Heap.lt_size e) MW)
   ·rw [eF]
    intro z
    rcases List.mem_cons.mp (I.kU b z) with e | e
    ·exact f1 e
    ·exact f2 e
   ·rw [eN] at hp
    obtain rfl:p=_:=List.mem_singleton.mp (by simpa using hp)
    exact Ne.symm (QL b hb)
  refine rA (fun n s'=>∃ i ys aD nn τ H',Inv XB [] τ H' s'/\s'.heap.get? s.heap.objs.size=some { cls:=.type "list",data:=.seq aD.toArray nn }/\H' s.heap.objs.size=none/\Vals ys aD/\tn i s'.heap/\(∀ b∈fp,H' b=none)/\W i n ys τ H') ?_ m0
   ⟨0,[],[],0,mR k caps σ,H,I0,Hq,RQ,.nil,FK,fun b hb=>(hf b hb).1,w0⟩
  rintro n s3 ⟨i,ys,aD,nn,τ,H3,I3,OE,RU,MY,jo,J_,w3⟩
  have QN:=OD I3 OE RU
  rcases turn i n ys τ H3 w3 with ⟨stop,hz,qn⟩ | ⟨go,hz,step⟩
  ·have D1:=T.done XB eP eW eK eC i _ s3 τ H3 (fun _ _=>False) QN (u7 J_) jo stop
   rw [eA] at D1
   refine cT D1 fun r s4 ⟨hr,I4⟩=>?_
   subst hr
   refine RP _ _ s4 ?_
   obtain ⟨pd,KW,_⟩:=I4.pin (s.heap.objs.size,{ cls:=.type "list",data:=.seq aD.toArray nn }) (by rw [eN]; exact List.mem_append_right _ (List.mem_singleton.mpr rfl))
   have Ak:Un (fK X.stack) fp H H3 s.heap s4.heap:=by
    have:=I4.base
    rw [<-uZ] at this
    exact this
   have new:bx X.prog X.w (upd H3 s.heap.objs.size (.lst ys)) s4.heap s.heap.objs.size (.lst ys):=⟨hz,aD,nn,MY,pd⟩
   have OF:iE X.prog X.w H3 s4.heap:=by
    have:=I4.bK
    rw [eP,eW] at this
    exact this
   have bK:iE X.prog X.w (upd H3 s.heap.objs.size (.lst ys)) s4.heap:=OF.KP KW new
   have RV:s4.os=s.os:=by
    have:=I4.os
    rw [e0] at this
    exact this
   have un:Un (fK X.stack) fp H (upd H3 s.heap.objs.size (.lst ys)) s.heap s4.heap:=
    ⟨Ak.keep,Ak.slot,fun b o e n hx=>by rw [aU (Nat.ne_of_lt (Heap.lt_size e))]; exact Ak.free b o e n hx,Ak.there,
     fun b xs e=>by rw [aU (ba (Ak.jE b xs e) KW)]; exact Ak.jE b xs e,fun b o u e=>by rw [aU (ba (Ak.jn b o u e) KW)]; exact Ak.jn b o u e,
     fun b ps e=>by
      obtain ⟨more,q⟩:=Ak.j6 b ps e
      exact ⟨more,by rw [aU (ba q KW)]; exact q⟩⟩
   have I5:Inv X pins σ (upd H3 s.heap.objs.size (.lst ys)) s4:=I.wD RV un bK I4.bare fun b hb=>⟨(hf b hb).2.2.2.1,(hf b hb).2.1,(hf b hb).2.2.2.2.1,(hf b hb).2.2.2.2.2⟩
   have RW:H3 H2.objs.size=none:=by
    have:=I4.free
    rw [eL] at this
    exact this
   refine ⟨s.heap.objs.size,_,rfl,MW,I5,by rw [aU (Ne.symm MX)]; exact RW,?_,qn _ KW⟩
   obtain ⟨m4,QO,_⟩:=I4.loc
   rw [eL] at QO
   exact ⟨m4,QO⟩
  ·have D1:=T.item XB eP eW eK eC i _ s3 τ H3 (fun _ _=>False) QN (u7 J_) jo go
   rw [eA] at D1
   refine cT D1 fun r s4 ⟨u,hr,h4⟩=>?_
   subst hr
   refine cT h4 fun _ s5 ⟨x,H5,I5,r5,y5,GP,N4⟩=>?_
   have N6:=I5.pinned (u7 N4) (T.obj _ _ GP)
   have G:=pj _ s5 τ H5 x u _ N6 r5 (step x H5 y5)
   rw [eP,eW,eA,eE,OC] at G
   refine cT G fun _ s6 ⟨τ6,H6,I6,q6⟩=>?_
   have G2:=CJ _ s6 τ6 H6 _ I6 q6
   rw [eP,eW,eA,eE,OC] at G2
   refine cT G2 fun ok s7 ⟨H7,I7,q7⟩=>?_
   -- J9 xT pins give back
   have back:∀ {τ8:St} {H8:Hp} {s8:Shared},Inv XB ([(s.heap.objs.size,({ cls:=.type "list",data:=.seq aD.toArray nn }:Obj))]++nH fp s5.heap) τ8 H8 s8 ->
     Inv XB [] τ8 H8 s8/\s8.heap.get? s.heap.objs.size=some { cls:=.type "list",data:=.seq aD.toArray nn }/\H8 s.heap.objs.size=none/\tn (i+1) s8.heap/\∀ b∈fp,H8 b=none:=fun {τ8 H8 s8} J=>by
    obtain ⟨p1,p2,_⟩:=J.pin (s.heap.objs.size,{ cls:=.type "list",data:=.seq aD.toArray nn }) (List.mem_append_right _ (List.mem_append_left _ (List.mem_singleton.mpr rfl)))
    refine ⟨J.ni fun p hp=>absurd (show p∈([]:List (Addr × Obj)) from hp) (by simp),p1,p2,T.keep _ _ _ GP fun b hb o e=>(J.pin (b,o) (List.mem_append_right _ (List.mem_append_right _ (gT hb e)))).1,fun b hb=>?_⟩
    obtain ⟨o,e,d⟩:=T.obj _ _ GP b hb
    exact (J.pin (b,o) (List.mem_append_right _ (List.mem_append_right _ (gT hb e)))).2.1
   cases ok with
   | false=>
    rw [if_neg Bool.false_ne_true] at q7 ⊢
    obtain ⟨m',hm,w7⟩:=q7
    obtain ⟨J,a1,a2,a3,a4⟩:=back I7
    exact ⟨m',hm,i+1,ys,aD,nn,τ6,H7,J,a1,a2,MY,a3,a4,w7⟩
   | true=>
    rw [if_pos rfl] at q7 ⊢
    have G3:=RT _ s7 τ6 H7 _ I7 q7
    rw [eP,eW,eA,eE,OC] at G3
    refine cT G3 fun v s8 ⟨y,H8,I8,r8,m',hm,w8⟩=>?_
    obtain ⟨J,a1,a2,a3,a4⟩:=back I8
    have hlen:=MY.length
    refine call_meets F.slot_list_append ⟨_,a1,rfl⟩ F.entry_list_append (F.args_list_append_2 _ _) (PySem.list_append s.heap.objs.size aD.toArray nn v (by rw [List.size_toArray]; lia)) ⟨a1,?_⟩
    have q:=PySem.IsL.update a1 (fun z=>z.push v)
    have other:∀ b o,b≠s.heap.objs.size->s8.heap.get? b=some o->(s8.heap.update s.heap.objs.size (Obj.mapSeq fun z=>z.push v)).get? b=some o:=fun b o hb e=>(Heap.get?_update_other s8.heap (Obj.mapSeq fun z=>z.push v) (Ne.symm hb)).trans e
    have J':Inv XB [] τ6 H8 { s8 with heap:=s8.heap.update s.heap.objs.size (Obj.mapSeq fun z=>z.push v) } :=
     J.turned (t':=s8.toks) (it:=s.heap.objs.size) other a2 (by rw [eL]; exact MX) (.inr (by rw [e0]; exact Nat.le_refl _)) (fun x c e=>KU x c (by rw [<-QM]; exact e)) fun p hp=>absurd (show p∈([]:List (Addr × Obj)) by rw [eN] at hp; exact hp) (by simp)
    obtain ⟨n2,q2⟩:∃ n2,(s8.heap.update s.heap.objs.size (Obj.mapSeq fun z=>z.push v)).get? s.heap.objs.size=some { cls:=.type "list",data:=.seq (aD++[v]).toArray n2 }:=by
     have e1:aD.toArray.push v=(aD++[v]).toArray:=by simp
     rw [<-e1]
     exact ⟨_,q⟩
    exact ⟨m',hm,i+1,ys++[y],aD++[v],n2,τ6,H8,J',q2,a2,MY.append (.cons r8 .nil),T.keep _ _ _ a3 fun b hb o e=>other b o (QL b hb) e,a4,w8⟩
 exact codeAny_compStart_list (loop _ rfl) (T.self X.A 0 _ _ _ FK (loop _ rfl))
end
section
variable {X:Cx} {tg elt iter:Expr} {ifs:List Expr} {scope:Scope} {pos OG:Pos} {N:List Str} {cl:List (Str × Addr)} {k:Nat} {caps:List Nat} {wi:TI} {g:TG} {tt:TT} {te:TE}
theorem Inv.yo {pins:List (Addr × Obj)} {σ σ':St} {H H':Hp} {s s':Shared} {C:Addr} {h':Heap} (I:Inv X pins σ H s) (hC:s.heap.objs.size<=C) (I':Inv X pins σ' H' s') (hn:H' C=none) (sb:Heap.SameBut C s'.heap h') :
  Inv X pins σ' H' { s' with heap:=h' }:=by
 refine I'.turned (t':=s'.toks) (it:=C) (fun b o hb e=>(sb.2 b hb).trans e) hn (Nat.ne_of_gt (Nat.lt_of_lt_of_le I.lt hC)) (.inr (Nat.le_trans I.sz hC)) (fun x c e=>?_) fun p hp=>?_
 ·obtain ⟨v,o,ho,_⟩:=I.cell x c e
  exact Nat.ne_of_lt (Nat.lt_of_lt_of_le (Heap.lt_size ho) hC)
 ·exact Nat.ne_of_lt (Nat.lt_of_lt_of_le (Heap.lt_size (I.pin p hp).1) hC)
theorem DI (hc:X.calm=true) (B:yk X N scope cl k caps) (hi:PI X tg iter wi) (hg:∀ C fp s H,PG (uX X N scope cl C fp s H) tg g) (OH:∀ C fp s H,FJ (uX X N scope cl C fp s H) ifs tt)
  (he:∀ C fp s H,PE (uX X N scope cl C fp s H) elt te) (hs:∀ x,foldedSetIterable iter X.env x=pure x:=by intro _; rfl):PE X (.ListComp elt [⟨tg,iter,ifs,0⟩] scope pos) (qa k caps wi g tt te):=by
 intro pins s σ H Q I h
 rw [eval_ListComp]
 refine wpAny_comprehension_free (use:=none) rfl hs B.vh B.kind B.names (cT (hi pins s σ H _ I (ym h)) fun xv s₁ h₁=>cT h₁ fun NY s₂ h₂=>?_)
 obtain ⟨it,fp,tn,J,H2,e,I2,T,cJ,f2,hW⟩:=h₂
 subst e
 refine yn (RR:=fun acc C=>compPost (model X.prog X.w) X.A X.xe none (EP X pins σ Q) acc C) hc B hg OH he I2 T cJ f2 hW ?_
 rintro acc C s' ⟨D,H',rfl,hC,I',hn,⟨m,ns⟩,q⟩
 exact ⟨m,ns,fun h' sb=>⟨.ref D,H',I2.yo hC I' hn sb,rfl,q⟩⟩
end
section
variable {K:PySem.W.Frag} {g:TG} {tt:TT} {te:TE} {Q:VK}
theorem DJ {J:It} {k:Nat} {caps:List Nat} {σ:St} {H:Hp} (n:Nat) (hn:n<=sizeLine) (Pv:Nat->List V->St->Hp->Prop) (h0:Pv 0 [] (mR k caps σ) H) (RX:∀ i ys τ H,i<n->Pv i ys τ H->J.go i H) (CG:∀ ys τ H,Pv n ys τ H->J.stop n H)
  (hl:∀ i ys τ H,Pv i ys τ H->ys.length<=i)
  (hs:∀ i ys τ H x H',i<n->Pv i ys τ H->J.J7 i H x H'->∀ K1:List V->St->Hp->Prop,(∀ ys τ H,Pv (i+1) ys τ H->K1 ys τ H)->g x τ H' fun τ2 H2=>tt τ2 H2 fun b H3=>if b=true then te τ2 H3 fun y H4=>K1 (ys++[y]) τ2 H4 else K1 ys τ2 H3)
  (hd:∀ ys τ H p,Pv n ys τ H->H p=none->Q (.ref p) (upd H p (.lst ys))):tJ J k caps g tt te σ H Q:=by
 refine ⟨fun i m ys τ H=>m=n-i/\i<=n/\Pv i ys τ H,⟨n,by simp,Nat.zero_le _,h0⟩,?_⟩
 rintro i m ys τ H ⟨rfl,hi,p⟩
 have hy:=hl i ys τ H p
 by_cases pC:i<n
 ·refine .inr ⟨RX i ys τ H pC p,by lia,fun x H' y=>?_⟩
  exact hs i ys τ H x H' pC p y (fun ys τ H=>∃ m',m'<n-i/\m'=n-(i+1)/\i+1<=n/\Pv (i+1) ys τ H) fun ys τ H q=>⟨n-(i+1),by lia,rfl,pC,q⟩
 ·have e:i=n:=by lia
  subst e
  exact .inl ⟨CG ys τ H p,by lia,fun q hq=>hd ys τ H q p hq⟩
end
noncomputable def cC (b:Bool) (h:Heap) (i l:Addr) (k:Nat):Prop:=match b with | true=>h.IsListIter i l k | false=>h.IsTupleIter i l k
noncomputable def gu (b:Bool) (h:Heap) (l:Addr) (xs:Array Value):Prop:=match b with | true=>h.IsList l xs | false=>h.IsTuple l xs
theorem cC.keep {b:Bool} {h h':Heap} {i l:Addr} {k:Nat} (x:cC b h i l k) (e:∀ o,h.get? i=some o->h'.get? i=some o):cC b h' i l k:=by
 cases b with
 | true=>exact Heap.IsListIter.at x e
 | false=>exact Heap.IsTupleIter.at x e
theorem gu.keep {b:Bool} {h h':Heap} {l:Addr} {xs:Array Value} (x:gu b h l xs) (e:∀ o,h.get? l=some o->h'.get? l=some o):gu b h' l xs:=by
 cases b with
 | true=>exact Heap.IsList.at x e
 | false=>obtain ⟨o,ho,r⟩:=(show h.IsTuple l xs from x); exact ⟨o,e _ ho,r⟩
theorem cC.there {b:Bool} {h:Heap} {i l:Addr} {k:Nat} (x:cC b h i l k):∃ o n vs,h.get? i=some o/\o.cls=.type n/\o.data=.fields vs:=by
 cases b with
 | true=>obtain ⟨o,h1,h2,h3⟩:=(show h.IsListIter i l k from x); exact ⟨o,_,_,h1,h2,h3⟩
 | false=>obtain ⟨o,h1,h2,h3⟩:=(show h.IsTupleIter i l k from x); exact ⟨o,_,_,h1,h2,h3⟩
section
variable {prog:Program} {w:World} {A:Around} {E:Value->Shared->Prop} {s:Shared}
theorem nO {it t:Addr} {i:Nat} {items:Array Value} {x:Value} {Q:Value->Shared->Prop} (hit:s.heap.IsTupleIter it t i) (ht:s.heap.IsTuple t items) (hx:items[i]?=some x)
  (hQ:∀ h',h'.IsTupleIter it t (i+1)->Heap.SameBut it s.heap h'->Q x { s with heap:=h' }):wpAny (model prog w) A (Builtin.SmallTypes.nextOf (.ref it)) Q E s:=by
 obtain ⟨oi,FO,ci,di⟩:=id hit
 obtain ⟨ot,OI,_,nt,dt⟩:=ht
 unfold Builtin.SmallTypes.nextOf
 refine wpAny_bind (wpAny_callSpecial?_slot (name:=Str.ofString "__next__") hit.typeIs F.slot_tuple_iterator_next (wpAny_call_entry F.slot_tuple_iterator_next hit.typeIs F.entry_tuple_iterator_next ?_ (F.args_tuple_iterator_next_1 _)))
 show wpAny _ _ (field (.ref it) 0 >>= _) _ _ s
 refine wpAny_bind (wpAny_field FO di (x:=.ref t) rfl ?_)
 show wpAny _ _ (if (Value.ref t==Value.none)=true then _ else _) _ _ s
 rw [if_neg (show ¬ ((Value.ref t==Value.none)=true) from Bool.false_ne_true)]
 show wpAny _ _ (field (.ref it) 1 >>= _) _ _ s
 refine wpAny_bind (wpAny_field FO di (x:=.int i 0) rfl ?_)
 show wpAny _ _ (seqItems? (.ref t) >>= _) _ _ s
 refine wpAny_bind (wpAny_seqItems OI dt ?_)
 simp only [Int.toNat_natCast,hx]
 refine wpAny_bind (wpAny_setField FO di (by simp) (wpAny_pure ⟨x,rfl,wpAny_pure (hQ _ ?_ (Heap.SameBut.update ..))⟩))
 exact ⟨_,Heap.get?_update_self _ FO (Obj.isFreed_of_fields (Obj.data_mapFields di _)),(Obj.cls_mapFields ..).trans ci,by rw [Obj.data_mapFields di]; simp [rawInt]⟩
theorem pD {it t:Addr} {i:Nat} {items:Array Value} {Q:Value->Shared->Prop} (hh:A.handled=none) (hit:s.heap.IsTupleIter it t i) (ht:s.heap.IsTuple t items) (hx:items[i]?=none)
  (hE:∀ h' e,Heap.ExtBut it s.heap h'->(∃ o,h'.get? e=some o/\o.cls=.type "StopIteration")->E (.ref e) { s with heap:=h' }):wpAny (model prog w) A (Builtin.SmallTypes.nextOf (.ref it)) Q E s:=by
 obtain ⟨oi,FO,ci,di⟩:=id hit
 obtain ⟨ot,OI,_,nt,dt⟩:=ht
 unfold Builtin.SmallTypes.nextOf
 refine wpAny_bind (wpAny_callSpecial?_slot (name:=Str.ofString "__next__") hit.typeIs F.slot_tuple_iterator_next (wpAny_call_entry F.slot_tuple_iterator_next hit.typeIs F.entry_tuple_iterator_next ?_ (F.args_tuple_iterator_next_1 _)))
 show wpAny _ _ (field (.ref it) 0 >>= _) _ _ s
 refine wpAny_bind (wpAny_field FO di (x:=.ref t) rfl ?_)
 show wpAny _ _ (if (Value.ref t==Value.none)=true then _ else _) _ _ s
 rw [if_neg (show ¬ ((Value.ref t==Value.none)=true) from Bool.false_ne_true)]
 show wpAny _ _ (field (.ref it) 1 >>= _) _ _ s
 refine wpAny_bind (wpAny_field FO di (x:=.int i 0) rfl ?_)
 show wpAny _ _ (seqItems? (.ref t) >>= _) _ _ s
 refine wpAny_bind (wpAny_seqItems OI dt ?_)
 simp only [Int.toNat_natCast,hx]
 refine wpAny_bind (wpAny_rule (wpAny_bind (wpAny_setField FO di (by simp) ?_)))
 show wpAny _ _ (newExc (.type "StopIteration") [] >>= _) _ _ _
 refine wpAny_bind ?_
 simp only [newExc,newTuple]
 refine wpAny_bind (wpAny_newObj_type ?_ (by size_fits))
 refine wpAny_bind (m:=firstArgMember _ _) (wpAny_of_eq (a:=Value.none) (by first | rfl | (simp only [firstArgMember]; rfl)) ?_)
 refine wpAny_newObj_type ?_ (by size_fits)
 simp only [raiseNew]
 refine wpAny_bind (wpAny_handled ?_)
 first | rw [show A.in1.handled=none from hh] | rw [hh]
 refine wpAny_bind (wpAny_pure (wpAny_throw ?_))
 exact hE _ _ (((Heap.SameBut.update ..).extBut.push _).push _) ⟨_,Heap.get?_push_size _ rfl,rfl⟩
theorem gY {b:Bool} {it t:Addr} {i:Nat} {items:Array Value} {x:Value} {Q:Value->Shared->Prop} (hit:cC b s.heap it t i) (ht:gu b s.heap t items) (hx:items[i]?=some x)
  (hQ:∀ h',cC b h' it t (i+1)->Heap.SameBut it s.heap h'->Q x { s with heap:=h' }):wpAny (model prog w) A (Builtin.SmallTypes.nextOf (.ref it)) Q E s:=by
 cases b with
 | true=>exact wpAny_nextOf_list_item hit ht hx hQ
 | false=>exact nO hit ht hx hQ
theorem l9 {b:Bool} {it t:Addr} {i:Nat} {items:Array Value} {Q:Value->Shared->Prop} (hh:A.handled=none) (hit:cC b s.heap it t i) (ht:gu b s.heap t items) (hx:items[i]?=none)
  (hE:∀ h' e,Heap.ExtBut it s.heap h'->(∃ o,h'.get? e=some o/\o.cls=.type "StopIteration")->E (.ref e) { s with heap:=h' }):wpAny (model prog w) A (Builtin.SmallTypes.nextOf (.ref it)) Q E s:=by
 cases b with
 | true=>exact wpAny_nextOf_list_end hh hit ht hx hE
 | false=>exact pD hh hit ht hx hE
end
noncomputable abbrev nP (b:Bool) (l:Addr):Obj:={ cls:=.type (match b with | true => "list_iterator" | false => "tuple_iterator"),data:=.fields #[.ref l,.int 0 0] }
section
variable {prog:Program} {w:World} {A:Around} {E:Value->Shared->Prop} {s:Shared}
theorem cC.new (b:Bool) {h:Heap} {i l:Addr} (e:h.get? i=some (nP b l)):cC b h i l 0:=by
 cases b with
 | true=>exact ⟨_,e,rfl,rfl⟩
 | false=>exact ⟨_,e,rfl,rfl⟩
theorem nS {b:Bool} {l:Addr} {xs:Array Value} {Q:Value->Shared->Prop} (h:gu b s.heap l xs) (hQ:Q (.ref s.heap.objs.size) { s with heap:=s.heap.push (nP b l) }):wpAny (model prog w) A (pyIter (.ref l)) Q E s:=by
 cases b with
 | true=>exact wpAny_pyIter_list h hQ
 | false=>exact wpAny_pyIter_tuple h hQ
theorem DK {b1 b2:Bool} {z TI TO i1 i2 l1 l2:Addr} {k1 k2:Nat} {xs ys:Array Value} {x y a b:Value} {Q:Value->Shared->Prop} (D:ZipApart z TI TO i1 i2 l1 l2)
  (hz:IsZip s.heap z TI TO .none) (rC:IsPair s.heap TI (.ref i1) (.ref i2)) (sT:IsPair s.heap TO a b) (h1:cC b1 s.heap i1 l1 k1) (h2:cC b2 s.heap i2 l2 k2) (CK:gu b1 s.heap l1 xs) (CH:gu b2 s.heap l2 ys) (hx:xs[k1]?=some x) (hy:ys[k2]?=some y)
  (hQ:∀ h',IsZip h' z TI TO (rawInt s.heap.objs.size)->IsPair h' TO x y->cC b1 h' i1 l1 (k1+1)->cC b2 h' i2 l2 (k2+1)->IsPair h' s.heap.objs.size x y ->
   (∀ c o,c≠z->c≠TO->c≠i1->c≠i2->s.heap.get? c=some o->h'.get? c=some o)->Q (.ref s.heap.objs.size) { s with heap:=h' }) :
  wpAny (model prog w) A (Builtin.«zip.__next__» ⟨[.ref z],[]⟩) (fun fin s'=>∃ v,fin=.done (.ret v)/\Q v s') E s:=by
 show wpAny _ _ (field (.ref z) 2 >>= _) _ _ _
 refine wpAny_bind (wpAny_field hz rfl (x:=.bool false) rfl ?_)
 show wpAny _ _ (field (.ref z) 3 >>= _) _ _ _
 refine wpAny_bind (wpAny_field hz rfl (x:=.ref TI) rfl (wpAny_bind (wpAny_seqItems rC rfl ?_)))
 show wpAny _ _ (Builtin.SmallTypes.ownedTupleIsFree (.ref z) >>= _) _ _ _
 refine wpAny_bind ?_
 unfold Builtin.SmallTypes.ownedTupleIsFree
 refine wpAny_bind (wpAny_field hz rfl (x:=.none) rfl (wpAny_pure ?_))
 simp only [if_true]
 refine wpAny_bind (wpAny_rule (wpAny_bind (wpAny_field hz rfl (x:=.ref TO) rfl (wpAny_bind (wpAny_setField_rec hz (by simp) fun g₁ l_ s₁=>?_)))))
 replace l_:IsZip g₁ z TI TO .ellipsis:=l_
 refine wpAny_bind ?_
 simp only [List.zipIdx_cons,List.zipIdx_nil,List.forIn_cons,List.forIn_nil]
 refine wpAny_bind (wpAny_bind (wpAny_onRaise ?_))
 show wpAny _ _ (Builtin.SmallTypes.nextOf (.ref i1) >>= _) _ _ _
 refine wpAny_bind (gY (b:=b1) (h1.keep fun o e=>s₁.extBut _ o D.i1z e) (CK.keep fun o e=>s₁.extBut _ o D.l1z e) hx fun g₂ q₁ s₂=>wpAny_pure ?_)
 have t₂:IsPair g₂ TO a b:=s₂.extBut _ _ D.TOi1 (s₁.extBut _ _ D.TOz sT)
 refine wpAny_bind (wpAny_seqItems t₂ rfl (wpAny_bind (wpAny_updateSeq_pair t₂ fun g₃ t₃ s₃=>?_)))
 replace t₃:IsPair g₃ TO x b:=t₃
 refine wpAny_bind (wpAny_letGo (wpAny_pure (wpAny_bind (wpAny_bind (wpAny_onRaise ?_)))))
 show wpAny _ _ (Builtin.SmallTypes.nextOf (.ref i2) >>= _) _ _ _
 refine wpAny_bind (gY (b:=b2) (h2.keep fun o e=>s₃.extBut _ o D.TOi2.symm (s₂.extBut _ o D.i12.symm (s₁.extBut _ o D.i2z e))) (CH.keep fun o e=>s₃.extBut _ o D.l2TO (s₂.extBut _ o D.l2i1 (s₁.extBut _ o D.l2z e))) hy fun g₄ q₂ s₄=>wpAny_pure ?_)
 have t₄:IsPair g₄ TO x b:=s₄.extBut _ _ D.TOi2 t₃
 refine wpAny_bind (wpAny_seqItems t₄ rfl (wpAny_bind (wpAny_updateSeq_pair t₄ fun g₅ t₅ s₅=>?_)))
 replace t₅:IsPair g₅ TO x y:=t₅
 refine wpAny_bind (wpAny_letGo (wpAny_pure (wpAny_pure (wpAny_bind (wpAny_seqItems t₅ rfl (wpAny_bind (wpAny_newTuple ?_)))))))
 have sz:g₅.objs.size=s.heap.objs.size:=by rw [s₅.1,s₄.1,s₃.1,s₂.1,s₁.1]
 have z₅:IsZip g₅ z TI TO .ellipsis:=s₅.extBut _ _ D.TOz.symm (s₄.extBut _ _ D.i2z.symm (s₃.extBut _ _ D.TOz.symm (s₂.extBut _ _ D.i1z.symm l_)))
 have kp:∀ c o,c≠z->c≠TO->c≠i1->c≠i2->s.heap.get? c=some o->g₅.get? c=some o:=fun c o n1 n2 n3 n4 e=>s₅.extBut _ _ n2 (s₄.extBut _ _ n4 (s₃.extBut _ _ n2 (s₂.extBut _ _ n3 (s₁.extBut _ _ n1 e))))
 have p₁:cC b1 g₅ i1 l1 (k1+1):=q₁.keep fun o e=>s₅.extBut _ o D.TOi1.symm (s₄.extBut _ o D.i12 (s₃.extBut _ o D.TOi1.symm e))
 have p₂:cC b2 g₅ i2 l2 (k2+1):=q₂.keep fun o e=>s₅.extBut _ o D.TOi2.symm e
 have QP:z<g₅.objs.size:=Heap.lt_size z₅
 show wpAny _ _ (Builtin.SmallTypes.ownedTupleHandOut (.ref z) (.ref g₅.objs.size) >>= _) _ _ _
 refine wpAny_bind ?_
 unfold Builtin.SmallTypes.ownedTupleHandOut
 have z₆:IsZip (g₅.push { cls:=.type "tuple",data:=.seq #[x,y] }) z TI TO .ellipsis:=Heap.get?_push_of_some _ z₅
 refine wpAny_bind (wpAny_setField_rec z₆ (by simp) fun g₇ z₇ s₇=>?_)
 replace z₇:IsZip g₇ z TI TO (rawInt g₅.objs.size):=z₇
 refine wpAny_setField_rec z₇ (by simp) fun g₈ z₈ s₈=>?_
 replace z₈:IsZip g₈ z TI TO (rawInt g₅.objs.size):=z₈
 have up:∀ c o,c≠z->g₅.get? c=some o->g₈.get? c=some o:=fun c o n e=>s₈.extBut _ _ n (s₇.extBut _ _ n (Heap.get?_push_of_some _ e))
 have t₈:IsPair g₈ g₅.objs.size x y:=s₈.extBut _ _ (Nat.ne_of_gt QP) (s₇.extBut _ _ (Nat.ne_of_gt QP) (Heap.get?_push_size _ rfl))
 rw [sz] at z₈ t₈
 refine wpAny_pure ⟨_,rfl,?_⟩
 show Q (.ref g₅.objs.size) _
 rw [sz]
 exact hQ g₈ z₈ (up _ _ D.TOz t₅) (p₁.keep fun o e=>up _ o D.i1z e) (p₂.keep fun o e=>up _ o D.i2z e) t₈ fun c o n1 n2 n3 n4 e=>up c o n1 (kp c o n1 n2 n3 n4 e)
theorem Hr {b1 b2:Bool} {z TI TO i1 i2 l1 l2:Addr} {k1 k2:Nat} {xs ys:Array Value} {a b:Value} {Q:Fin->Shared->Prop} (hh:A.handled=none) (D:ZipApart z TI TO i1 i2 l1 l2)
  (hz:IsZip s.heap z TI TO .none) (rC:IsPair s.heap TI (.ref i1) (.ref i2)) (sT:IsPair s.heap TO a b) (h1:cC b1 s.heap i1 l1 k1) (h2:cC b2 s.heap i2 l2 k2) (CK:gu b1 s.heap l1 xs) (CH:gu b2 s.heap l2 ys) (he:xs[k1]?=none\/ys[k2]?=none)
  (hE:∀ h' e,(∀ c o,c≠z->c≠TO->c≠i1->c≠i2->s.heap.get? c=some o->h'.get? c=some o)->(∃ o,h'.get? e=some o/\o.cls=.type "StopIteration")->E (.ref e) { s with heap:=h' }) :
  wpAny (model prog w) A (Builtin.«zip.__next__» ⟨[.ref z],[]⟩) Q E s:=by
 show wpAny _ _ (field (.ref z) 2 >>= _) _ _ _
 refine wpAny_bind (wpAny_field hz rfl (x:=.bool false) rfl ?_)
 show wpAny _ _ (field (.ref z) 3 >>= _) _ _ _
 refine wpAny_bind (wpAny_field hz rfl (x:=.ref TI) rfl (wpAny_bind (wpAny_seqItems rC rfl ?_)))
 show wpAny _ _ (Builtin.SmallTypes.ownedTupleIsFree (.ref z) >>= _) _ _ _
 refine wpAny_bind ?_
 unfold Builtin.SmallTypes.ownedTupleIsFree
 refine wpAny_bind (wpAny_field hz rfl (x:=.none) rfl (wpAny_pure ?_))
 simp only [if_true]
 refine wpAny_bind (wpAny_rule (wpAny_bind (wpAny_field hz rfl (x:=.ref TO) rfl (wpAny_bind (wpAny_setField_rec hz (by simp) fun g₁ l_ s₁=>?_)))))
 replace l_:IsZip g₁ z TI TO .ellipsis:=l_
 refine wpAny_bind ?_
 simp only [List.zipIdx_cons,List.zipIdx_nil,List.forIn_cons,List.forIn_nil]
 refine wpAny_bind (wpAny_bind (wpAny_onRaise ?_))
 show wpAny _ _ (Builtin.SmallTypes.nextOf (.ref i1) >>= _) _ _ _
 cases hx:xs[k1]? with
 | none=>
  refine wpAny_bind (l9 (b:=b1) hh (h1.keep fun o e=>s₁.extBut _ o D.i1z e) (CK.keep fun o e=>s₁.extBut _ o D.l1z e) hx fun g₂ e s₂ ⟨oe,DM,ce⟩=>?_)
  have z₂:IsZip g₂ z TI TO .ellipsis:=s₂ _ _ D.i1z.symm l_
  have OJ:e≠z:=fun q=>by subst q; rw [z₂] at DM; cases DM; simp at ce
  exact wpAny_setField_rec z₂ (by simp) fun g₃ _ s₃=>hE g₃ e (fun c o n1 _ n3 _ q=>s₃.extBut _ _ n1 (s₂ _ _ n3 (s₁.extBut _ _ n1 q))) ⟨oe,s₃.extBut _ _ OJ DM,ce⟩
 | some x=>
  have hy:ys[k2]?=none:=by
   rcases he with q | q
   ·rw [hx] at q; cases q
   ·exact q
  refine wpAny_bind (gY (b:=b1) (h1.keep fun o e=>s₁.extBut _ o D.i1z e) (CK.keep fun o e=>s₁.extBut _ o D.l1z e) hx fun g₂ q₁ s₂=>wpAny_pure ?_)
  have t₂:IsPair g₂ TO a b:=s₂.extBut _ _ D.TOi1 (s₁.extBut _ _ D.TOz sT)
  refine wpAny_bind (wpAny_seqItems t₂ rfl (wpAny_bind (wpAny_updateSeq_pair t₂ fun g₃ t₃ s₃=>?_)))
  refine wpAny_bind (wpAny_letGo (wpAny_pure (wpAny_bind (wpAny_bind (wpAny_onRaise ?_)))))
  show wpAny _ _ (Builtin.SmallTypes.nextOf (.ref i2) >>= _) _ _ _
  refine wpAny_bind (l9 (b:=b2) hh (h2.keep fun o e=>s₃.extBut _ o D.TOi2.symm (s₂.extBut _ o D.i12.symm (s₁.extBut _ o D.i2z e))) (CH.keep fun o e=>s₃.extBut _ o D.l2TO (s₂.extBut _ o D.l2i1 (s₁.extBut _ o D.l2z e))) hy fun g₄ e s₄ ⟨oe,DM,ce⟩=>?_)
  have z₄:IsZip g₄ z TI TO .ellipsis:=s₄ _ _ D.i2z.symm (s₃.extBut _ _ D.TOz.symm (s₂.extBut _ _ D.i1z.symm l_))
  have OJ:e≠z:=fun q=>by subst q; rw [z₄] at DM; cases DM; simp at ce
  exact wpAny_setField_rec z₄ (by simp) fun g₅ _ s₅=>hE g₅ e (fun c o n1 n2 n3 n4 q=>s₅.extBut _ _ n1 (s₄ _ _ n4 (s₃.extBut _ _ n2 (s₂.extBut _ _ n3 (s₁.extBut _ _ n1 q))))) ⟨oe,s₅.extBut _ _ OJ DM,ce⟩
theorem yp {b1 b2:Bool} {z TI TO i1 i2 l1 l2:Addr} {k1 k2:Nat} {xs ys:Array Value} {x y a b:Value} {Q:Option Value->Shared->Prop} (D:ZipApart z TI TO i1 i2 l1 l2)
  (hz:IsZip s.heap z TI TO .none) (rC:IsPair s.heap TI (.ref i1) (.ref i2)) (sT:IsPair s.heap TO a b) (h1:cC b1 s.heap i1 l1 k1) (h2:cC b2 s.heap i2 l2 k2) (CK:gu b1 s.heap l1 xs) (CH:gu b2 s.heap l2 ys) (hx:xs[k1]?=some x) (hy:ys[k2]?=some y)
  (hQ:∀ h',IsZip h' z TI TO (rawInt s.heap.objs.size)->IsPair h' TO x y->cC b1 h' i1 l1 (k1+1)->cC b2 h' i2 l2 (k2+1)->IsPair h' s.heap.objs.size x y ->
   (∀ c o,c≠z->c≠TO->c≠i1->c≠i2->s.heap.get? c=some o->h'.get? c=some o)->Q (some (.ref s.heap.objs.size)) { s with heap:=h' }):wpAny (model prog w) A (pyNext (.ref z)) Q E s:=by
 have tz:s.TypeIs (.ref z) "zip":=⟨_,hz,rfl⟩
 unfold pyNext
 exact wpAny_bind (wpAny_attempt (wpAny_callSpecial?_slot (name:=Str.ofString "__next__") tz F.slot_zip_next
  (wpAny_call_entry F.slot_zip_next tz F.entry_zip_next (DK (b1:=b1) (b2:=b2) D hz rC sT h1 h2 CK CH hx hy fun h' a1 a2 a3 a4 a5 a6=>wpAny_pure (hQ h' a1 a2 a3 a4 a5 a6)) (F.args_zip_next_1 _))))
theorem Al {b1 b2:Bool} {z TI TO i1 i2 l1 l2:Addr} {k1 k2:Nat} {xs ys:Array Value} {a b:Value} {Q:Option Value->Shared->Prop} (hh:A.handled=none) (D:ZipApart z TI TO i1 i2 l1 l2)
  (hz:IsZip s.heap z TI TO .none) (rC:IsPair s.heap TI (.ref i1) (.ref i2)) (sT:IsPair s.heap TO a b) (h1:cC b1 s.heap i1 l1 k1) (h2:cC b2 s.heap i2 l2 k2) (CK:gu b1 s.heap l1 xs) (CH:gu b2 s.heap l2 ys) (he:xs[k1]?=none\/ys[k2]?=none)
  (hQ:∀ h',(∀ c o,c≠z->c≠TO->c≠i1->c≠i2->s.heap.get? c=some o->h'.get? c=some o)->Q none { s with heap:=h' }):wpAny (model prog w) A (pyNext (.ref z)) Q E s:=by
 have tz:s.TypeIs (.ref z) "zip":=⟨_,hz,rfl⟩
 unfold pyNext
 refine wpAny_bind (wpAny_attempt (wpAny_callSpecial?_slot (name:=Str.ofString "__next__") tz F.slot_zip_next
  (wpAny_call_entry F.slot_zip_next tz F.entry_zip_next (Hr (b1:=b1) (b2:=b2) hh D hz rC sT h1 h2 CK CH he fun h' e hk he=>?_) (F.args_zip_next_1 _))))
 obtain ⟨o,ho,hc⟩:=he
 exact wpAny_bind (wpAny_isInstance (T:="StopIteration") (b:=true) ⟨o,ho,hc⟩ isSubtype_stop (wpAny_pure (hQ _ hk)))
noncomputable abbrev MZ (b1:Bool) (h:Heap) (l1:Addr):Heap:=h.push (nP b1 l1)
noncomputable abbrev M3 (b1 b2:Bool) (h:Heap) (l1 l2:Addr):Heap:=(MZ b1 h l1).push (nP b2 l2)
noncomputable abbrev M4 (b1 b2:Bool) (h:Heap) (l1 l2:Addr):Heap:=(M3 b1 b2 h l1 l2).push { cls:=.type "tuple",data:=.seq #[.ref h.objs.size,.ref (MZ b1 h l1).objs.size] }
noncomputable abbrev M5 (b1 b2:Bool) (h:Heap) (l1 l2:Addr):Heap:=(M4 b1 b2 h l1 l2).push { cls:=.type "tuple",data:=.seq #[.none,.none] }
noncomputable abbrev Jv (b1 b2:Bool) (h:Heap) (l1 l2:Addr):Heap:=(M5 b1 b2 h l1 l2).push { cls:=.type "zip",data:=.fields #[.none,.bool false,.bool false,.ref (M3 b1 b2 h l1 l2).objs.size,.ref (M4 b1 b2 h l1 l2).objs.size] }
theorem Am (b1 b2:Bool) (l1 l2:Addr) (xs ys:Array Value) :
  Meets (Builtin.«zip.__new__» ⟨[.type "zip",.ref l1,.ref l2],[]⟩) (fun _ R s=>gu b1 s.heap l1 xs/\gu b2 s.heap l2 ys/\R (.ok (.ret (.ref (M5 b1 b2 s.heap l1 l2).objs.size))) { s with heap:=Jv b1 b2 s.heap l1 l2 }):=
 .of_wp fun prog w A R s h=>by
  obtain ⟨hp,g,d,tk,os⟩:=s
  obtain ⟨q1,q2,h⟩:=h
  have KY:=sub_zip
  have w1:gu b1 (Shared.heap ⟨hp,g,d,tk,os⟩) l1 xs:=q1
  have w2:gu b2 (Shared.heap ⟨hp.push (nP b1 l1),g,d,tk,os⟩) l2 ys:=q2.keep fun o e=>Heap.get?_push_of_some _ e
  wp_walk using nS w1,nS w2
  exact ⟨_,rfl,h⟩
theorem An {b1 b2:Bool} {l1 l2:Addr} {xs ys:Array Value} {Q:Value->Shared->Prop} (CK:gu b1 s.heap l1 xs) (CH:gu b2 s.heap l2 ys)
  (h:∀ h',IsZip h' (s.heap.objs.size+4) (s.heap.objs.size+2) (s.heap.objs.size+3) .none->IsPair h' (s.heap.objs.size+2) (.ref s.heap.objs.size) (.ref (s.heap.objs.size+1))->IsPair h' (s.heap.objs.size+3) .none .none ->
   cC b1 h' s.heap.objs.size l1 0->cC b2 h' (s.heap.objs.size+1) l2 0->(∀ c o,s.heap.get? c=some o->h'.get? c=some o)->Q (.ref (s.heap.objs.size+4)) { s with heap:=h' }) :
  wpAny (model prog w) A (call (.type "zip") [.ref l1,.ref l2]) Q E s:=by
 refine callType_new F.called_zip (by decide) (F.typeCall_zip_2 _ _) (F.newCall_zip_2 _ _) (fun obj=>F.args_object_init_3 obj _ _) F.entry_zip_new (Am b1 b2 l1 l2 xs ys) ⟨CK,CH,?_⟩
 have z1:(MZ b1 s.heap l1).objs.size=s.heap.objs.size+1:=Heap.size_push ..
 have z2:(M3 b1 b2 s.heap l1 l2).objs.size=s.heap.objs.size+2:=by rw [Heap.size_push,z1]
 have z3:(M4 b1 b2 s.heap l1 l2).objs.size=s.heap.objs.size+3:=by rw [Heap.size_push,z2]
 have z4:(M5 b1 b2 s.heap l1 l2).objs.size=s.heap.objs.size+4:=by rw [Heap.size_push,z3]
 have g5:(Jv b1 b2 s.heap l1 l2).get? (M5 b1 b2 s.heap l1 l2).objs.size=some _:=Heap.get?_push_size _ rfl
 have g4:(Jv b1 b2 s.heap l1 l2).get? (M4 b1 b2 s.heap l1 l2).objs.size=some _:=Heap.get?_push_of_some _ (Heap.get?_push_size _ rfl)
 have g3:(Jv b1 b2 s.heap l1 l2).get? (M3 b1 b2 s.heap l1 l2).objs.size=some _:=Heap.get?_push_of_some _ (Heap.get?_push_of_some _ (Heap.get?_push_size _ rfl))
 have g2:(Jv b1 b2 s.heap l1 l2).get? (MZ b1 s.heap l1).objs.size=some (nP b2 l2):=Heap.get?_push_of_some _ (Heap.get?_push_of_some _ (Heap.get?_push_of_some _ (Heap.get?_push_size _ rfl)))
 have g1:(Jv b1 b2 s.heap l1 l2).get? s.heap.objs.size=some (nP b1 l1):=Heap.get?_push_of_some _ (Heap.get?_push_of_some _ (Heap.get?_push_of_some _ (Heap.get?_push_of_some _ (Heap.get?_push_size _ rfl))))
 show _/\_
 rw [z2,z3,z4] at g5
 rw [z1,z2] at g3
 rw [z3] at g4
 rw [z1] at g2
 rw [z4]
 exact ⟨⟨_,g5,rfl⟩,h _ g5 g3 g4 (.new b1 g1) (.new b2 g2) fun c o x=>Heap.get?_push_of_some _ (Heap.get?_push_of_some _ (Heap.get?_push_of_some _ (Heap.get?_push_of_some _ (Heap.get?_push_of_some _ x))))⟩
end
noncomputable def vj (b:Bool) (K:PySem.W.Frag) (H:Hp) (a:Addr) (xs:List V):Prop:=match b with | true=>kT K H a xs | false=>ju K H a xs
theorem Inv.Jw {X:Cx} {pins:List (Addr × Obj)} {σ:St} {H:Hp} {s:Shared} {b:Bool} {a:Addr} {xs:List V} (I:Inv X pins σ H s) (h:vj b X.K H a xs):∃ aD:List Value,Vals xs aD/\gu b s.heap a aD.toArray/\xs.length<=sizeLine:=by
 cases b with
 | true=>obtain ⟨aD,r,p,z⟩:=I.list h; exact ⟨aD,r,p.isList,z⟩
 | false=>obtain ⟨aD,r,p,z⟩:=I.tuple h; exact ⟨aD,r,p,z⟩
theorem Inv.wN {X:Cx} {pins:List (Addr × Obj)} {σ:St} {H:Hp} {s:Shared} {b:Bool} {a:Addr} {xs ys:List V} (I:Inv X pins σ H s) (h:vj b X.K H a xs) (h':vj b X.K H a ys):xs=ys:=by
 cases b with
 | true=>exact I.nF h h'
 | false=>exact I.kX h h'
theorem Inv.FQ {X:Cx} {pins:List (Addr × Obj)} {σ:St} {H:Hp} {s:Shared} {b:Bool} {l c:Addr} {zs:List V} (I:Inv X pins σ H s) (hs:vj b X.K H l zs) (f:pq X pins H c):l≠c:=by
 intro q
 have mo:∀ o,X.K.lookup l=some o->False:=fun o hk=>by
  have e:=I.mod.Fu l o hk
  rcases f.2.2.2.1 with z | z
  ·exact I.ok.sZ l o e (by rw [q]; exact z)
  ·exact absurd (Nat.lt_of_lt_of_le (Heap.lt_size (I.ok.bs l o e).1) (by rw [q]; exact z)) (Nat.lt_irrefl _)
 have tr:∀ o,H l=some o->False:=fun o e=>by rw [q,f.1] at e; cases e
 cases b with
 | true=>
  rcases (show kT X.K H l zs from hs) with (r | ⟨o,r⟩) | ⟨o,aD,n,hk,_⟩
  ·exact tr _ r
  ·exact tr _ r
  ·exact mo o hk
 | false=>
  rcases (show ju X.K H l zs from hs) with (r | ⟨o,r⟩) | ⟨o,aD,n,hk,_⟩
  ·exact tr _ r
  ·exact tr _ r
  ·exact mo o hk
noncomputable def QQ (K:PySem.W.Frag) (b1 b2:Bool) (a b:Addr):It:=
 ⟨fun i H=>∃ xs ys x y,vj b1 K H a xs/\vj b2 K H b ys/\xs[i]?=some x/\ys[i]?=some y,
  fun i H v H'=>∃ p x y,v=.ref p/\H p=none/\H'=upd H p (.tup [x,y])/\(∀ xs,vj b1 K H a xs->xs[i]?=some x)/\∀ ys,vj b2 K H b ys->ys[i]?=some y,
  fun i H=>∃ xs ys,vj b1 K H a xs/\vj b2 K H b ys/\(xs.length<=i\/ys.length<=i)⟩
theorem Ao {P:Program} {w:World} {K:PySem.W.Frag} {elts:List Expr} {kt:Nat} {tp:Pos} {b1 b2:Bool} {z TI TO i1 i2:Addr} (a b:Addr) (ne:z≠TI/\z≠TO/\z≠i1/\z≠i2/\TI≠TO/\TI≠i1/\TI≠i2/\TO≠i1/\TO≠i2/\i1≠i2) :
  Turn P w K (.Tuple elts kt tp) (QQ K b1 b2 a b) [z,TI,TO,i1,i2] z (fun i h=>IsZip h z TI TO .none/\IsPair h TI (.ref i1) (.ref i2)/\(∃ u v,IsPair h TO u v)/\cC b1 h i1 a i/\cC b2 h i2 b i) where
 mem:=by simp
 obj:=fun i h ⟨hz,rC,⟨u,v,sT⟩,h1,h2⟩ c hc=>by
  have d6:c=z\/c=TI\/c=TO\/c=i1\/c=i2:=by simpa using hc
  rcases d6 with rfl | rfl | rfl | rfl | rfl
  ·exact ⟨_,hz,fun v q=>by have q':Data.fields _=Data.cell v:=q; cases q'⟩
  ·exact ⟨_,rC,fun v q=>by have q':Data.seq _ _=Data.cell v:=q; cases q'⟩
  ·exact ⟨_,sT,fun v q=>by have q':Data.seq _ _=Data.cell v:=q; cases q'⟩
  ·obtain ⟨o,n,vs,e,_,d⟩:=h1.there
   exact ⟨o,e,fun v q=>by rw [d] at q; cases q⟩
  ·obtain ⟨o,n,vs,e,_,d⟩:=h2.there
   exact ⟨o,e,fun v q=>by rw [d] at q; cases q⟩
 keep:=fun i h h' ⟨hz,rC,⟨u,v,sT⟩,h1,h2⟩ k=>⟨k z (by simp) _ hz,k TI (by simp) _ rC,⟨u,v,k TO (by simp) _ sT⟩,h1.keep fun o e=>k i1 (by simp) o e,h2.keep fun o e=>k i2 (by simp) o e⟩
 item:=by
  intro X hP hw hK hc i pins s σ H E I hf st hg
  subst hP hw hK
  obtain ⟨hz,rC,⟨u,v,sT⟩,h1,h2⟩:=st
  obtain ⟨xs,ys,x,y,sx,sy,ex,ey⟩:=hg
  obtain ⟨aD,rv,p,_⟩:=I.Jw sx
  obtain ⟨cY,Jx,p2,_⟩:=I.Jw sy
  obtain ⟨ux,RY,rx⟩:=rv.get ex
  obtain ⟨uy,RZ,ry⟩:=Jx.get ey
  obtain ⟨n1,n2,n3,n4,n5,n6,n7,n8,n9,OK⟩:=ne
  have fz:=hf z (by simp)
  have fc:∀ {b:Bool} {l:Addr} {zs:List V},vj b X.K H l zs->∀ c∈[z,TI,TO,i1,i2],l≠c:=fun {b l zs} hs c d6=>I.FQ hs (hf c d6)
  have D:ZipApart z TI TO i1 i2 a b:=⟨n1.symm,n2.symm,n3.symm,n4.symm,n5,n6,n7,n8,n9,OK,fc sx z (by simp),fc sx TO (by simp),fc sx i1 (by simp),fc sx i2 (by simp),fc sy z (by simp),fc sy TO (by simp),fc sy i1 (by simp),fc sy i2 (by simp)⟩
  refine yp (b1:=b1) (b2:=b2) D hz rC sT h1 h2 p p2 (x:=ux) (y:=uy) (by simpa using RY) (by simpa using RZ) fun h' a1 a2 a3 a4 a5 a6=>⟨_,rfl,?_⟩
  have hT:H s.heap.objs.size=none:=I.bK.fresh (Nat.le_refl _)
  have OL:∀ c∈[z,TO,i1,i2],H c=none:=fun c d6=>(hf c (by simp at d6 ⊢; rcases d6 with q | q | q | q <;> simp [q])).1
  have kp:∀ c o,c ∉ [z,TO,i1,i2]->s.heap.get? c=some o->h'.get? c=some o:=fun c o d6 e=>a6 c o (fun q=>d6 (by simp [q])) (fun q=>d6 (by simp [q])) (fun q=>d6 (by simp [q])) (fun q=>d6 (by simp [q])) e
  have wB:∀ c o,H c=some o->c ∉ [z,TO,i1,i2]:=fun c o e d6=>by rw [OL c d6] at e; cases e
  have bK:iE X.prog X.w (upd H s.heap.objs.size (.tup [x,y])) h':=fun c o e=>by
   by_cases QR:c=s.heap.objs.size
   ·subst QR
    rw [bU] at e
    cases e
    exact ⟨by show 2<=sizeLine; decide,[ux,uy],.cons rx (.cons ry .nil),_,a5,rfl,_,rfl⟩
   ·rw [aU QR] at e
    refine (I.bK c o e).mM (fun d v hd q=>kp d v ?_ q) (fun d q=>by rw [aU (ba q hT)]; exact q) fun d zs q=>by rw [aU (ba q hT)]; exact q
    rcases hd with q' | q'
    ·rw [q']; exact wB c o e
    ·exact wB d _ q'
  have un:Un (fK X.stack) [z,TO,i1,i2] H (upd H s.heap.objs.size (.tup [x,y])) s.heap h':=
   ⟨fun c o e n _ d6=>kp c o d6 e,fun c o e n _ d6=>⟨o.slots,kp c o d6 e⟩,fun c o e n d6=>by rw [aU (Nat.ne_of_lt (Heap.lt_size e))]; exact n,fun c o e d6=>⟨o,kp c o d6 e⟩,
    fun c zs e=>by rw [aU (ba e hT)]; exact e,fun c o u e=>by rw [aU (ba e hT)]; exact e,fun c ps e=>⟨#[],by rw [aU (ba e hT),e]; simp⟩⟩
  have I1:Inv X pins σ (upd H s.heap.objs.size (.tup [x,y])) { s with heap:=h' }:=I.wD rfl un bK I.bare fun c d6=>by
   obtain ⟨f0,f1,f2,f3,f4,f5⟩:=hf c (by simp at d6 ⊢; rcases d6 with q | q | q | q <;> simp [q])
   exact ⟨f3,f1,f4,f5⟩
  have R0:∀ c∈[z,TI,TO,i1,i2],c≠s.heap.objs.size:=fun c d6 q=>by
   have pC:c<s.heap.objs.size:=by
    have OM:c=z\/c=TI\/c=TO\/c=i1\/c=i2:=by simpa using d6
    rcases OM with r | r | r | r | r
    ·rw [r]; exact Heap.lt_size hz
    ·rw [r]; exact Heap.lt_size rC
    ·rw [r]; exact Heap.lt_size sT
    ·obtain ⟨o,_,_,e,_⟩:=h1.there; rw [r]; exact Heap.lt_size e
    ·obtain ⟨o,_,_,e,_⟩:=h2.there; rw [r]; exact Heap.lt_size e
   exact absurd pC (by rw [q]; exact Nat.lt_irrefl _)
  have QS:∀ c∈[z,TI,TO,i1,i2],(upd H s.heap.objs.size (.tup [x,y])) c=none:=fun c d6=>by rw [aU (R0 c d6)]; exact (hf c d6).1
  refine wpAny_letOwnedTupleGo_zip a1 fun Hs ON sb=>?_
  obtain ⟨f0,f1,f2,f3,f4,f5⟩:=fz
  have I2:Inv X pins σ (upd H s.heap.objs.size (.tup [x,y])) { s with heap:=Hs }:=I1.turned (s:={ s with heap:=h' }) (t':=s.toks) (it:=z) (fun c o d6 e=>(sb.2 c d6).trans e) (QS z (by simp)) f1 f3 f4 f5
  refine ⟨.ref s.heap.objs.size,_,I2,rfl,⟨_,x,y,rfl,hT,rfl,fun zs hs=>by rw [I.wN hs sx]; exact ex,fun zs hs=>by rw [I.wN hs sy]; exact ey⟩,⟨ON,?_,⟨_,_,sb.extBut _ _ n2.symm a2⟩,a3.keep fun o e=>sb.extBut _ o n3.symm e,a4.keep fun o e=>sb.extBut _ o n4.symm e⟩,QS⟩
  exact sb.extBut _ _ n1.symm (a6 _ _ n1.symm n5 n6 n7 rC)
 done:=by
  intro X hP hw hK hc i pins s σ H E I hf st hg
  subst hP hw hK
  obtain ⟨hz,rC,⟨u,v,sT⟩,h1,h2⟩:=st
  obtain ⟨xs,ys,sx,sy,hl⟩:=hg
  obtain ⟨aD,rv,p,_⟩:=I.Jw sx
  obtain ⟨cY,Jx,p2,_⟩:=I.Jw sy
  have l1:=rv.length
  have l2:=Jx.length
  obtain ⟨n1,n2,n3,n4,n5,n6,n7,n8,n9,OK⟩:=ne
  have fc:∀ {b:Bool} {l:Addr} {zs:List V},vj b X.K H l zs->∀ c∈[z,TI,TO,i1,i2],l≠c:=fun {b l zs} hs c d6=>I.FQ hs (hf c d6)
  have D:ZipApart z TI TO i1 i2 a b:=⟨n1.symm,n2.symm,n3.symm,n4.symm,n5,n6,n7,n8,n9,OK,fc sx z (by simp),fc sx TO (by simp),fc sx i1 (by simp),fc sx i2 (by simp),fc sy z (by simp),fc sy TO (by simp),fc sy i1 (by simp),fc sy i2 (by simp)⟩
  refine Al (b1:=b1) (b2:=b2) (I.ok.hd hc) D hz rC sT h1 h2 p p2 (by rcases hl with q | q; exact .inl (by simp; lia); exact .inr (by simp; lia)) fun h' a6=>⟨rfl,?_⟩
  have OL:∀ c∈[z,TO,i1,i2],H c=none:=fun c d6=>(hf c (by simp at d6 ⊢; rcases d6 with q | q | q | q <;> simp [q])).1
  have kp:∀ c o,c ∉ [z,TO,i1,i2]->s.heap.get? c=some o->h'.get? c=some o:=fun c o d6 e=>a6 c o (fun q=>d6 (by simp [q])) (fun q=>d6 (by simp [q])) (fun q=>d6 (by simp [q])) (fun q=>d6 (by simp [q])) e
  have wB:∀ c o,H c=some o->c ∉ [z,TO,i1,i2]:=fun c o e d6=>by rw [OL c d6] at e; cases e
  have bK:iE X.prog X.w H h':=fun c o e=>by
   refine (I.bK c o e).mM (fun d v hd q=>kp d v ?_ q) (fun d q=>q) fun d zs q=>q
   rcases hd with q' | q'
   ·rw [q']; exact wB c o e
   ·exact wB d _ q'
  have un:Un (fK X.stack) [z,TO,i1,i2] H H s.heap h':=
   ⟨fun c o e n _ d6=>kp c o d6 e,fun c o e n _ d6=>⟨o.slots,kp c o d6 e⟩,fun c o e n d6=>n,fun c o e d6=>⟨o,kp c o d6 e⟩,fun c zs e=>e,fun c o u e=>e,fun c ps e=>⟨#[],by rw [e]; simp⟩⟩
  exact I.wD rfl un bK I.bare fun c d6=>by
   obtain ⟨f0,f1,f2,f3,f4,f5⟩:=hf c (by simp at d6 ⊢; rcases d6 with q | q | q | q <;> simp [q])
   exact ⟨f3,f1,f4,f5⟩
 self:=fun _ _ _ _ _ st h=>wpAny_pyIter_zip st.1 h
section
variable {X:Cx} {elts:List Expr} {kt:Nat} {tp p pos:Pos}
noncomputable def OO (K:PySem.W.Frag) (b1 b2:Bool) (ta:TA):TI:=fun σ H R=>ta σ H fun vs H1=>∃ a b,vs=[.ref a,.ref b]/\(∃ xs,vj b1 K H1 a xs)/\(∃ ys,vj b2 K H1 b ys)/\R (QQ K b1 b2 a b) H1
theorem Ht (b1 b2:Bool) {ea eb:Expr} {ta:TA} (hg:Gl X "zip") (hm:X.mg "zip" = none) (ha:PA X [ea,eb] ta) (hs:starEach [ea,eb] X.env=[(false,eval ea X.env),(false,eval eb X.env)]:=by rfl) (dk:starEach [eb] X.env=[(false,eval eb X.env)]:=by rfl) :
  PI X (.Tuple elts kt tp) (.Call (.Name "zip" p) [ea,eb] [] pos) (OO X.K b1 b2 ta):=by
 intro pins s σ H R I h
 refine Call_ (kW I hg hm boot_zip (PyProof.Rows.callWith_type1 (cT (ha pos pins s σ H _ I h) fun us s1 ⟨vs,H1,I1,r1,q1⟩=>?_) (by rw [hs,dk]) (by rw [dk]; rfl)))
 obtain ⟨a,b,e,⟨xs,sx⟩,⟨ys,sy⟩,q⟩:=q1
 subst e
 obtain ⟨u,u2,rfl,ru,Hu⟩:=vals2 r1
 cases ru
 cases Hu
 obtain ⟨aD,rv,p1,_⟩:=I1.Jw sx
 obtain ⟨cY,Jx,p2,_⟩:=I1.Jw sy
 refine An (b1:=b1) (b2:=b2) p1 p2 fun h' hz rC sT g1 g2 kp=>wpAny_pyIter_zip hz ?_
 have I2:Inv X pins σ H1 { s1 with heap:=h' }:=I1.kept (t':=s1.toks) kp
 refine ⟨_,[s1.heap.objs.size+4,s1.heap.objs.size+2,s1.heap.objs.size+3,s1.heap.objs.size,s1.heap.objs.size+1],_,_,H1,rfl,I2,Ao (b1:=b1) (b2:=b2) a b ?_,⟨hz,rC,⟨_,_,sT⟩,g1,g2⟩,fun c hc=>?_,q⟩
 ·refine ⟨?_,?_,?_,?_,?_,?_,?_,?_,?_,?_⟩ <;> (intro z; have z':(_:Nat)=_:=z; lia)
 ·have hle:s1.heap.objs.size<=c:=by
   have d6:c=s1.heap.objs.size+4\/c=s1.heap.objs.size+2\/c=s1.heap.objs.size+3\/c=s1.heap.objs.size\/c=s1.heap.objs.size+1:=by simpa using hc
   rcases d6 with r | r | r | r | r <;> (rw [r]; first | exact Nat.le_refl _ | exact Nat.le_add_right _ _)
  exact I1.C8 hle (I1.bK.fresh hle)
end
theorem bx.there {P:Program} {w:World} {H:Hp} {h:Heap} {a:Addr} {o:HO} (x:bx P w H h a o):∃ ob,h.get? a=some ob:=by
 cases o with
 | lst xs=>obtain ⟨_,_,_,_,e⟩:=x; exact ⟨_,e⟩
 | tup xs=>obtain ⟨_,_,_,ob,e,_⟩:=x; exact ⟨_,e⟩
 | dK az=>obtain ⟨_,_,_,_,o,_,_,e,_⟩:=x; exact ⟨_,e⟩
 | dT az=>obtain ⟨_,_,_,_,o,_,_,e,_⟩:=x; exact ⟨_,e⟩
 | set S n=>obtain ⟨o,_,_,_,e,_⟩:=x; exact ⟨_,e⟩
 | ins C dx fs=>obtain ⟨_,_,_,e,_⟩:=x; exact ⟨_,e⟩
 | own y=>obtain ⟨_,e⟩:=x; exact ⟨_,e⟩
 | xd fs=>obtain ⟨_,⟨_,_,_,e,_⟩,_⟩:=x; exact ⟨_,e⟩
 | MK lo hi=>obtain ⟨_,_,_,e⟩:=x; exact ⟨_,e⟩
 | jY ob u=>obtain ⟨e,_⟩:=x; exact ⟨_,e⟩
 | CA ps=>exact ⟨_,(show h.get? a=some _ from x)⟩
 | met f y=>exact ⟨_,(show h.get? a=some _ from x)⟩
 | ext φ=>obtain ⟨_,e,_⟩:=x; exact e
structure QT (P:Program) (w:World) (l:List Env) (H H':Hp) (s s':Shared) (ea:Addr) (cls:Value):Prop where
 os:s'.os=s.os
 bare:AllBare s'.gens
 un:Un (fK l) [] H H' s.heap s'.heap
 bK:iE P w H' s'.heap
 fl:∃ (B:Heap) (t:Addr),Heap.FlyingW B l ea cls (.ref t) s'.heap/\(∀ b,H' b≠none->∃ o,B.get? b=some o)/\(∀ b o,s.heap.get? b=some o->b ∉ fK l->∃ o',B.get? b=some o')
noncomputable def k_ (P:Program) (w:World):uU:=fun outer H s E e s'=>∃ ea cls H',e=.ref ea/\QT P w outer H H' s s' ea cls/\E cls none H'
section
variable {P:Program} {w:World} {K:PySem.W.Frag} {mg:Str->Option Value} {base:Heap} {N:List Str} {qual:Str} {scope:Scope} {f:Addr} {cd:Value} {A:Around} {outer:List Env} {s₀:Shared} {H₀:Hp} {E:XK}
theorem tK {env:Env} {L:Addr} (hf:env.frame=some L) (l:List Env):fK (env::l)=L::fK l:=by
 unfold fK
 rw [List.filterMap_cons,hf]
theorem yq {pins:List (Addr × Obj)} {σ:St} {H:Hp} {s:Shared} {h':Heap} {e:Addr} {cls:Value} {vs:List Value} (I:Inv (gU (k_ P w) P w K mg base N qual scope f cd A outer s₀ H₀ E) pins σ H s)
  (hx:Heap.MadeExcOf s.heap h' e cls vs) (hE:E cls none H):(gU (k_ P w) P w K mg base N qual scope f cd A outer s₀ H₀ E).xe (.ref e) { s with heap:=h' }:=by
 have CG:=I.stack
 have wC:=I.qS
 have KZ:(A.deeper (envOfC qual scope s₀.heap.objs.size f cd)).frames=some (envOfC qual scope s₀.heap.objs.size f cd::outer):=I.ok.frames
 have K0:fK (envOfC qual scope s₀.heap.objs.size f cd::outer)=s₀.heap.objs.size::fK outer:=tK rfl outer
 have R3:∀ env∈(envOfC qual scope s₀.heap.objs.size f cd::outer),∀ b,env.frame=some b->b∈fK (envOfC qual scope s₀.heap.objs.size f cd::outer):=fun env he b hb=>List.mem_filterMap.mpr ⟨env,he,hb⟩
 have FR:∀ b o,s₀.heap.get? b=some o->b ∉ fK outer->b ∉ fK (envOfC qual scope s₀.heap.objs.size f cd::outer):=fun b o q hb hm=>by
  rw [K0] at hm
  rcases List.mem_cons.mp hm with z | z
  ·exact absurd (Heap.lt_size q) (by rw [z]; exact Nat.lt_irrefl _)
  ·exact hb z
 refine wpAny_leaves_madeW (base:=PySem.W.hideAll s.heap (fK (envOfC qual scope s₀.heap.objs.size f cd::outer))) (h:=s.heap) KZ rfl (fun b o q=>PySem.W.of_hideAll _ q) (PySem.W.funFrames_hide CG R3) hx fun Hs t fl _ _ up=>?_
 have stays:∀ b o,s.heap.get? b=some o->b ∉ fK (envOfC qual scope s₀.heap.objs.size f cd::outer)->Hs.get? b=some o:=fun b o q hb=>fl.1 b o (PySem.W.hideAll_get _ q hb)
 have wB:∀ b u,H b=some u->b ∉ fK (envOfC qual scope s₀.heap.objs.size f cd::outer):=fun b u q hb=>by rw [wC b hb] at q; cases q
 have slot:∀ b o,s₀.heap.get? b=some o->H₀ b=none->b∈fK outer->∃ sl,Hs.get? b=some { o with slots:=sl }:=fun b o q n hb=>by
  obtain ⟨sl,e1⟩:=I.base.slot b o q n hb (by intro z; cases z)
  obtain ⟨_,o',uT,DN⟩:=CG.mem (show b∈fK (envOfC qual scope s₀.heap.objs.size f cd::outer) by rw [K0]; exact List.mem_cons_of_mem _ hb)
  rw [e1] at uT
  cases uT
  obtain ⟨Fw,e2⟩:=up b _ (hx.keeps _ _ e1) DN
  exact ⟨Fw,e2⟩
 have nil:∀ b:Addr,b ∉ (gU (k_ P w) P w K mg base N qual scope f cd A outer s₀ H₀ E).ex:=fun b z=>by cases z
 refine ⟨e,cls,H,rfl,⟨I.os,I.bare,⟨fun b o q n hb _=>stays b o (I.base.keep b o q n hb (nil b)) (FR b o q hb),fun b o q n hb _=>slot b o q n hb,fun b o q n _=>I.base.free b o q n (nil b),fun b o q _=>?_,I.base.jE,I.base.jn,I.base.j6⟩,fun b u q=>?_,PySem.W.hideAll s.heap (fK (envOfC qual scope s₀.heap.objs.size f cd::outer)),t,fl,fun b hb=>?_,fun b o q hb=>?_⟩,hE⟩
 ·by_cases hb:b∈fK outer
  ·obtain ⟨sl,e1⟩:=slot b o q (I.ok.zB b hb) hb
   exact ⟨_,e1⟩
  ·obtain ⟨o',e1⟩:=I.base.there b o q (nil b)
   exact ⟨o',stays b o' e1 (FR b o q hb)⟩
 ·refine (I.bK b u q).mM (fun c v hc z=>stays c v z ?_) (fun _ z=>z) fun _ _ z=>z
  rcases hc with z' | z'
  ·rw [z']; exact wB b u q
  ·exact wB c _ z'
 ·cases q:H b with
  | none=>exact absurd q hb
  | some u=>
   obtain ⟨o,e1⟩:=(I.bK b u q).there
   exact ⟨o,PySem.W.hideAll_get _ e1 (wB b u q)⟩
 ·obtain ⟨o',e1⟩:=I.base.there b o q (nil b)
  exact ⟨o',PySem.W.hideAll_get _ e1 (FR b o q hb)⟩
theorem aG:Passes (k_ P w) (gU (k_ P w) P w K mg base N qual scope f cd A outer s₀ H₀ E) E:=by
 rintro pins σ H s e s' I ⟨ea,cls,H',rfl,Z,hE⟩
 obtain ⟨B,t,fl,ct,cs⟩:=Z.fl
 have KZ:(A.deeper (envOfC qual scope s₀.heap.objs.size f cd)).frames=some (envOfC qual scope s₀.heap.objs.size f cd::outer):=I.ok.frames
 have K0:fK (envOfC qual scope s₀.heap.objs.size f cd::outer)=s₀.heap.objs.size::fK outer:=tK rfl outer
 have FR:∀ b o,s₀.heap.get? b=some o->b ∉ fK outer->b ∉ fK (envOfC qual scope s₀.heap.objs.size f cd::outer):=fun b o q hb hm=>by
  rw [K0] at hm
  rcases List.mem_cons.mp hm with z | z
  ·exact absurd (Heap.lt_size q) (by rw [z]; exact Nat.lt_irrefl _)
  ·exact hb z
 have sub:∀ b,b∈fK outer->b∈fK (envOfC qual scope s₀.heap.objs.size f cd::outer):=fun b hb=>by rw [K0]; exact List.mem_cons_of_mem _ hb
 have nil:∀ b:Addr,b ∉ (gU (k_ P w) P w K mg base N qual scope f cd A outer s₀ H₀ E).ex:=fun b z=>by cases z
 refine wpAny_leaves_onW KZ rfl fl fun Hs OP up=>?_
 have DO:∀ b o,s'.heap.get? b=some o->(∃ o',B.get? b=some o')->Hs.get? b=some o:=fun b o q ⟨o',z⟩=>by
  have q':=fl.1 b o' z
  rw [q] at q'
  cases q'
  exact OP.1 b o z
 have slot:∀ b o,s₀.heap.get? b=some o->H₀ b=none->b∈fK outer->∃ sl,Hs.get? b=some { o with slots:=sl }:=fun b o q n hb=>by
  obtain ⟨sl,e1⟩:=I.base.slot b o q n hb (nil b)
  obtain ⟨Kq,e2⟩:=Z.un.slot b _ e1 (I.base.free b o q n (nil b)) (sub b hb) (by intro z; cases z)
  obtain ⟨_,o',uT,DN⟩:=fl.2.2.1.mem (sub b hb)
  rw [e2] at uT
  cases uT
  obtain ⟨Fw,e3⟩:=up b _ e2 DN
  exact ⟨Fw,e3⟩
 refine ⟨ea,cls,H',rfl,⟨Z.os.trans I.os,Z.bare,⟨fun b o q n hb _=>?_,fun b o q n hb _=>slot b o q n hb,fun b o q n _=>?_,fun b o q _=>?_,fun b xs q=>Z.un.jE b xs (I.base.jE b xs q),fun b o u q=>Z.un.jn b o u (I.base.jn b o u q),fun b ps q=>?_⟩,fun b u q=>?_,B,t,OP,ct,fun b o q hb=>?_⟩,hE⟩
 ·have e1:=I.base.keep b o q n hb (nil b)
  have n1:=I.base.free b o q n (nil b)
  have nf:=FR b o q hb
  exact DO b o (Z.un.keep b o e1 n1 nf (by intro z; cases z)) (cs b o e1 nf)
 ·obtain ⟨o',e1⟩:=I.base.there b o q (nil b)
  exact Z.un.free b o' e1 (I.base.free b o q n (nil b)) (by intro z; cases z)
 ·by_cases hb:b∈fK outer
  ·obtain ⟨sl,e1⟩:=slot b o q (I.ok.zB b hb) hb
   exact ⟨_,e1⟩
  ·obtain ⟨o',e1⟩:=I.base.there b o q (nil b)
   obtain ⟨o2,e2⟩:=cs b o' e1 (FR b o q hb)
   exact ⟨o2,OP.1 b o2 e2⟩
 ·obtain ⟨m1,e1⟩:=I.base.j6 b ps q
  obtain ⟨m2,e2⟩:=Z.un.j6 b _ e1
  exact ⟨m1++m2,by rw [e2,Array.append_assoc]⟩
 ·refine (Z.bK b u q).mM (fun c v hc z=>DO c v z (ct c ?_)) (fun _ z=>z) fun _ _ z=>z
  rcases hc with z' | z'
  ·rw [z',q]; simp
  ·rw [z']; simp
 ·obtain ⟨o',e1⟩:=I.base.there b o q (nil b)
  exact cs b o' e1 (FR b o q hb)
theorem j_.R4 {x:Str} {st:Stmt} {fd:FuncData} {ps:List Str} {k:Nat} {sp:Sp} (F:j_ K x qual st f fd) (S:bg N ps (aC st)) (len:∀ vs H Q E,sp vs H Q E->vs.length=ps.length)
  (tf:∀ (cU:Value) (A:Around) (outer:List Env) (s:Shared) (H:Hp) (vs:List V) (Q:VK) (E:XK),eM k (A.deeper (envOfC qual (aC st) s.heap.objs.size f cU))->sp vs H Q E ->
   ∃ t,jZ (gU (k_ P w) P w K mg base N qual (aC st) f cU A outer s H E) (dj st) t/\t { nx:=fun _ H'=>Q .bD H',rt:=Q } (start N vs) H):iO P w K mg base (k_ P w) (k+1) f fd ps sp:=by
 obtain ⟨oc,od,kV,doc,pm,an,cU,ct,yc,rfl,lk,nE⟩:=F.ex
 exact Ko lk nE S len fun A outer s H vs Q E hr FE=>tf cU A outer s H vs Q E hr FE
end
theorem yr {K:PySem.W.Frag} {h:Heap} {mg:Str->Option Value} {x:Str} {C:Addr} {QU:List Value} {newId:String} (X:K.In h) (hb:mg x=some (.ref C)) (q:PySem.W.excIn K C QU newId=true):OwnCls x C QU newId mg h:=by
 refine ⟨hb,?_⟩
 unfold PySem.W.excIn at q
 split at q
 ·rename_i dd cd sl ho
  split at q
  ·rename_i C' bm k0 k1 k2 k3 n k5 hm hs
   simp only [Bool.and_eq_true,beq_iff_eq,Bool.not_eq_true'] at q
   obtain ⟨⟨⟨⟨⟨rfl,rfl⟩,K5⟩,ht⟩,bK⟩,M6⟩:=q
   obtain ⟨nm,bs,mro,ns,qn,hd,sn,sub,ab,col,del⟩:=cd
   dsimp only at hm K5 bK M6
   subst hm K5
   have R5:sl = #[k0,k1,k2,k3,some (.builtin n),k5]:=by
    obtain ⟨l⟩:=sl
    simp only at hs
    rw [hs]
   subst R5
   exact ⟨bm,ns,nm,qn,bs,hd,sn,sub,ab,col,dd,k0,k1,k2,k3,k5,_,X _ _ ho,.of_isNs (PySem.W.isNs_of_in X bK),PySem.W.nsMap_none_of_in X bK M6,PySem.W.tail_of_in X ht⟩
  ·cases q
 ·cases q
noncomputable def Hv (E:XK) (C:Addr) (t:TA):TS:=fun _ σ H=>t σ H fun vs H1=>vs.length<=sizeLine/\E (.ref C) none H1
noncomputable def Raises (X:Cx) (E:XK):Prop:=∀ (pins:List (Addr × Obj)) (σ:St) (H:Hp) (s:Shared) (h':Heap) (e:Addr) (cls:Value) (vs:List Value),Inv X pins σ H s->Heap.MadeExcOf s.heap h' e cls vs->E cls none H->X.xe (.ref e) { s with heap:=h' }
theorem Ap {X:Cx} {E:XK} {x:Str} {C:Addr} {B newId vk:String} {bm:List Value} {np a7 pos:Pos} {e₀:Expr} {rest:List Expr} {t:TA} (hX:Raises X E) (hc:X.calm=true) (hm:X.mg x=some (.ref C)) (hq:PySem.W.excIn X.K C bm newId=true) (FB:ExcBaseFacts B newId vk bm) (hg:Gl X x) (ha:PA X (e₀::rest) t)
  (he:starEach (e₀::rest) X.env=(false,eval e₀ X.env)::starEach rest X.env:=by rfl) (iF:(backTo a7 (starEach rest X.env)).any (·.1)=false:=by rfl) (hd:(x==("__debug__":Str))=false:=by decide) :
  PS X (.Raise (some (.Call (.Name x np) (e₀::rest) [] a7)) none pos) (Hv E C t):=by
 intro pins s σ H D I h
 obtain ⟨tl,NS,nm,q,bs,hdct,sn,sub,ab,col,dd,k0,k1,k2,k3,k5,mN,hC,hN,M6,T⟩:=(yr I.mod.Fu hm hq).obj
 refine wpAny_Raise_call_subT (C:=C) (nm:=nm) (q:=q) (N:=NS) (bs:=bs) (bm:=tl) (hdct:=hdct) (sn:=sn) (sub:=sub) (ab:=ab) (col:=col) (dd:=dd) (k0:=k0) (k1:=k1) (k2:=k2) (k3:=k3) (k5:=k5)
  FB (mN:=mN) (T.hasType FB.hasBase) (I.ok.hd hc) (by rw [he]; show (false || (backTo a7 (starEach rest X.env)).any (·.1))=false; rw [iF]; rfl) M6 (jb I hg hm ⟨rfl,?_⟩ hd)
 have hA:=ha a7 pins s σ H _ I h
 rw [he] at hA ⊢
 exact Calls.evalArgs_plain (cT hA fun us s2 ⟨vs,H2,I2,r2,z,q2⟩=>⟨rfl,by rw [<-r2.length]; exact z,I2.bk _ _ hC,hN.keeps I2.bk,T.keeps I2.bk,fun h' e K6=>hX pins σ H2 s2 h' e _ _ I2 K6 q2⟩)
structure DefX (X:Cx):Prop where
 fn:∀ y,X.fn y=true
 CB:X.stack=X.env::X.outer
 fr:X.env.frame=some X.env.locals
structure tM (X:Cx) (pins:List (Addr × Obj)) (σ:St) (H:Hp) (s:Shared) (ea:Addr) (cls:Value):Prop where
 inv:Inv X pins σ H s
 fl:∃ (B:Heap) (t:Addr),Heap.FlyingW B X.stack ea cls (.ref t) s.heap/\(∀ b,H b≠none->∃ o,B.get? b=some o)/\(∀ b o,X.s₀.heap.get? b=some o->b ∉ fK X.stack->b ∉ X.ex->∃ o',B.get? b=some o')/\(∀ p∈X.pn++pins,∃ o',B.get? p.1=some o')/\(∀ x c,X.env.cells.lookup x=some c->∃ o,B.get? c=some o)
section
variable {X:Cx} {pins:List (Addr × Obj)} {σ:St} {H H':Hp} {s s':Shared} {ea:Addr} {cls:Value}
theorem Inv.DP (I:Inv X pins σ H s) {b:Addr} (h1:b≠X.env.locals) (h2:b ∉ X.fs):b ∉ fK X.stack:=fun z=>(List.mem_cons.mp (I.kU b z)).elim h1 h2
theorem Inv.slots {B h':Heap} (I:Inv X pins σ H s) (sB:B.StaysIn s.heap) (c1:∀ b,H b≠none->∃ o,B.get? b=some o) (c2:∀ b o,X.s₀.heap.get? b=some o->b ∉ fK X.stack->b ∉ X.ex->∃ o',B.get? b=some o') (c3:∀ p∈X.pn++pins,∃ o',B.get? p.1=some o')
  (c4:∀ x c,X.env.cells.lookup x=some c->∃ o,B.get? c=some o) (k1:B.StaysIn h') (k2:s.heap.UpToSlots h'):Inv X pins σ H { s with heap:=h' }:=by
 have DO:∀ b o,s.heap.get? b=some o->(∃ o',B.get? b=some o')->h'.get? b=some o:=fun b o q ⟨o',z⟩=>by
  have q':=sB b o' z
  rw [q] at q'
  cases q'
  exact k1 b o z
 have zG:∀ b o,X.s₀.heap.get? b=some o->b≠X.env.locals:=fun b o e=>Nat.ne_of_lt (Nat.lt_of_lt_of_le (Heap.lt_size e) I.ok.above)
 have slot:∀ b o,X.s₀.heap.get? b=some o->X.H₀ b=none->b∈X.fs->b ∉ X.ex->∃ sl,h'.get? b=some { o with slots:=sl }:=fun b o q n hb hx=>by
  obtain ⟨sl,e1⟩:=I.base.slot b o q n hb hx
  obtain ⟨_,o',uT,DN⟩:=I.iN.mem hb
  rw [e1] at uT
  cases uT
  obtain ⟨Fw,e2⟩:=k2 b _ e1 DN
  exact ⟨Fw,e2⟩
 refine ⟨I.ok,I.os,I.bare,⟨fun b o q n hb hx=>?_,slot,I.base.free,fun b o q hx=>?_,I.base.jE,I.base.jn,I.base.j6⟩,?_,fun x c e=>?_,I.free,I.fN,fun p hp=>?_,fun b u q=>?_,I.len⟩
 ·exact DO b o (I.base.keep b o q n hb hx) (c2 b o q (I.DP (zG b o q) hb) hx)
 ·by_cases hb:b∈X.fs
  ·obtain ⟨sl,e1⟩:=slot b o q (I.ok.zB b hb) hb hx
   exact ⟨_,e1⟩
  ·obtain ⟨o',e1⟩:=I.base.there b o q hx
   exact ⟨o',DO b o' e1 (c2 b o q (I.DP (zG b o q) hb) hx)⟩
 ·obtain ⟨m,hn,hl⟩:=I.loc
  refine ⟨m,k2.ns hn,fun i x v e1 e2 e3=>?_⟩
  obtain ⟨u,r,l⟩:=hl i x v e1 e2 e3
  refine ⟨u,r,?_⟩
  rcases l with l | ⟨k,c,e,o,ho,hd⟩
  ·exact .inl l
  ·exact .inr ⟨k,c,e,o,DO c o ho (c4 x c e),hd⟩
 ·obtain ⟨v,o,ho,hd⟩:=I.cell x c e
  exact ⟨v,o,DO c o ho (c4 x c e),hd⟩
 ·obtain ⟨e,n,ne,nf,d⟩:=I.pin p hp
  exact ⟨DO p.1 p.2 e (c3 p hp),n,ne,nf,d⟩
 ·refine (I.bK b u q).mM (fun c v hc z=>DO c v z (c1 c ?_)) (fun _ z=>z) fun _ _ z=>z
  rcases hc with z' | z'
  ·rw [z',q]; simp
  ·rw [z']; simp
theorem tM.slots (J:tM X pins σ H s ea cls):∃ (B:Heap) (t:Addr),Heap.FlyingW B X.stack ea cls (.ref t) s.heap/\H ea=none/\∀ h',Heap.FlyingW B X.stack ea cls (.ref t) h'->s.heap.UpToSlots h'->tM X pins σ H { s with heap:=h' } ea cls:=by
 obtain ⟨B,t,fl,c1,c2,c3,c4⟩:=J.fl
 refine ⟨B,t,fl,?_,fun h' f2 up=>⟨J.inv.slots fl.1 c1 c2 c3 c4 f2.1 up,B,t,f2,c1,c2,c3,c4⟩⟩
 cases q:H ea with
 | none=>rfl
 | some u=>
  obtain ⟨o,e⟩:=c1 ea (by rw [q]; simp)
  rw [fl.2.1] at e
  cases e
theorem Inv.flew (I:Inv X pins σ H s) (zI:∀ y,X.fn y=true) (Z:QT X.prog X.w X.stack H H' s s' ea cls):tM X pins σ H' s' ea cls:=by
 obtain ⟨B,t,fl,ct,cs⟩:=Z.fl
 have cl:∀ x c,X.env.cells.lookup x=some c->c ∉ fK X.stack:=fun x c e=>I.DP (I.CD x c e) fun hb=>by
  obtain ⟨_,o,ho,_⟩:=I.ok.iN.mem hb
  exact absurd (Nat.lt_of_lt_of_le (Heap.lt_size ho) (I.ok.Fv x c (zI x) e)) (Nat.lt_irrefl _)
 refine ⟨I.wD Z.os Z.un Z.bK Z.bare fun b z=>absurd z (by simp),B,t,fl,ct,fun b o q hb hx=>?_,fun p hp=>?_,fun x c e=>?_⟩
 ·obtain ⟨o',e1⟩:=I.base.there b o q hx
  exact cs b o' e1 hb
 ·obtain ⟨e,n,ne,nf,d⟩:=I.pin p hp
  exact cs p.1 p.2 e (I.DP ne nf)
 ·obtain ⟨v,o,ho,_⟩:=I.cell x c e
  exact cs c o ho (cl x c e)
end
noncomputable abbrev EK:=Value->Addr->St->Hp->Prop
noncomputable abbrev EH:=Value->Addr->Hp->Prop
noncomputable abbrev K7:=St->Hp->VK->EH->Prop
noncomputable abbrev Hw:=Ends->EK->St->Hp->Prop
noncomputable def XP (X:Cx) (pins:List (Addr × Obj)) (EX:EK) (e:Value) (s':Shared):Prop:=∃ ea cls σ' H',e=.ref ea/\tM X pins σ' H' s' ea cls/\EX cls ea σ' H'
noncomputable abbrev atS (σ:St) (EX:EH):EK:=fun cls ea σ' H'=>σ'=σ/\EX cls ea H'
noncomputable def DQ (X:Cx) (e:Expr) (t:K7):Prop:=
 ∀ (pins:List (Addr × Obj)) (s:Shared) (σ:St) (H:Hp) (Q:VK) (EX:EH),Inv X pins σ H s->t σ H Q EX->wpAny (model X.prog X.w) X.A (eval e X.env) (EP X pins σ Q) (XP X pins (atS σ EX)) s
noncomputable def DR (X:Cx) (st:Stmt) (t:Hw):Prop:=
 ∀ (pins:List (Addr × Obj)) (s:Shared) (σ:St) (H:Hp) (D:Ends) (EX:EK),Inv X pins σ H s->t D EX σ H->wpAny (model X.prog X.w) X.A (exec st X.env) (SP X pins D) (XP X pins EX) s
noncomputable def Aq (X:Cx) (st:List Stmt) (t:Hw):Prop:=
 ∀ (pins:List (Addr × Obj)) (s:Shared) (σ:St) (H:Hp) (D:Ends) (EX:EK),Inv X pins σ H s->t D EX σ H->wpAny (model X.prog X.w) X.A (execs st X.env) (SP X pins D) (XP X pins EX) s
section
variable {X:Cx}
theorem XP.at {pins:List (Addr × Obj)} {σ:St} {EX:EK} {e:Value} {s':Shared} (h:XP X pins (atS σ fun cls ea H'=>EX cls ea σ H') e s'):XP X pins EX e s':=by
 obtain ⟨ea,cls,σ',H',rfl,J,rfl,q⟩:=h
 exact ⟨ea,cls,_,H',rfl,J,q⟩
noncomputable def Hx (sp:Sp) (t:TA):K7:=fun σ H Q EX=>t σ H fun vs H1=>sp vs H1 Q fun cls _ H'=>∀ ea,EX cls ea H'
theorem Ar {k:Nat} {f:Addr} {fd:FuncData} {ps:List Str} {sp:Sp} {x:Str} {p pos:Pos} {e:Expr} {es:List Expr} {t:TA} (F:iO X.prog X.w X.K X.mg X.base (k_ X.prog X.w) k f fd ps sp) (hr:eM k X.A) (hg:Gl X x) (hm:X.mg x=some (.ref f)) (hk:PySem.W.keepIn X.K (.ref f)=true) (hb:Binds X.K fd ps []) (zI:∀ y,X.fn y=true)
  (ha:∀ W,PA (X.nG W) (e::es) t) (j7:(x==("__debug__":Str))=false:=by decide) (he:starEach (e::es) X.env=(false,eval e X.env)::starEach es X.env:=by rfl) (iF:(backTo pos (starEach es X.env)).any (·.1)=false:=by rfl) :
  DQ X (.Call (.Name x p) (e::es) [] pos) (Hx sp t):=by
 intro pins s σ H Q EX I h
 refine wpAny_Call_Name_kw (jb I hg hm ?_ j7)
 refine PySem.W.callWith_K (h₀:=X.base) I.ok.mod.Fu hk (cT (ha (XP X pins (atS σ EX)) pos pins s σ H _ (I.nG _) h) fun us s1 ⟨vs,H1,I1,r,q⟩=>⟨I1.qV.lY,?_⟩) he iF
 have I2:=I1.qV
 have hl:(us++[]).length=ps.length:=by rw [List.append_nil,<-r.length]; exact F.len _ _ _ _ q
 have yt:=hb s1 us I2.lY hl
 rw [List.append_nil] at yt
 refine wpAny_call (codeAny_mono (F.run X.A X.stack s1 H1 ⟨us,[]⟩ us vs Q _ hr I2.G4 yt r q) fun r s' hq=>?_)
 cases r with
 | error e=>
  obtain ⟨ea,cls,H',rfl,Z,hE⟩:=hq
  exact ⟨ea,cls,σ,H',rfl,I2.flew zI Z,rfl,hE ea⟩
 | ok fl=>
  cases fl with
  | ret u=>exact I2.after hq
  | next=>exact False.elim hq
  | brk=>exact False.elim hq
  | cont=>exact False.elim hq
theorem DS {e:Expr} {te:K7} {pos:Pos} (he:DQ X e te):DR X (.Return (some e) pos) (fun D EX σ H=>te σ H D.rt fun cls ea H'=>EX cls ea σ H'):=by
 intro pins s σ H D EX I h
 exact wpAny_Return_some (wpAny_mono (he pins s σ H _ _ I h) (fun v s1 ⟨x,H1,I1,r1,q1⟩=>⟨x,σ,H1,I1,r1,q1⟩) fun _ _ q=>q.at)
theorem As {st:Stmt} {t:Hw} (h1:DR X st t):Aq X [st] t:=by
 intro pins s σ H D EX I h
 refine wpAny_execs_cons (cT (h1 pins s σ H D EX I h) fun f s1 q=>?_)
 cases f with
 | next=>exact wpAny_execs_nil q
 | ret v=>exact q
 | brk=>exact q
 | cont=>exact q
noncomputable abbrev DT:=Ends->EK->Value->Addr->St->Hp->Prop
noncomputable def PH (X:Cx) (hs:List ExceptHandler) (th:DT):Prop:=
 ∀ (pins:List (Addr × Obj)) (s:Shared) (σ:St) (H:Hp) (D:Ends) (EX:EK) (ea:Addr) (cls:Value),tM X pins σ H s ea cls->th D EX cls ea σ H->wpAny (model X.prog X.w) X.A (handleBy (.ref ea) X.env hs) (SP X pins D) (XP X pins EX) s
noncomputable def Hy:DT:=fun _ _ _ _ _ _=>False
theorem Hz:PH X [] Hy:=fun _ _ _ _ _ _ _ _ _ h=>h.elim
theorem DU {body:List Stmt} {h₀:ExceptHandler} {hs:List ExceptHandler} {tb:Hw} {th:DT} {pos:Pos} (dx:DefX X) (hb:Aq X body tb) (hh:PH X (h₀::hs) th):DR X (.Try body (h₀::hs) [] [] pos) (fun D EX σ H=>tb D (fun cls ea σ' H'=>th D EX cls ea σ' H') σ H):=by
 intro pins s σ H D EX I h
 refine wpAny_Try_except (wpAny_mono (hb pins s σ H D _ I h) (fun f s1 q=>?_) fun e s1 q=>?_)
 ·cases f with
  | next=>exact wpAny_execs_nil q
  | ret v=>exact q
  | brk=>exact q
  | cont=>exact q
 ·obtain ⟨ea,cls,σ',H',rfl,J,hE⟩:=q
  obtain ⟨B,t,fl,hn,go⟩:=J.slots
  have KZ:X.A.frames=some (X.env::X.outer):=by rw [<-dx.CB]; exact J.inv.ok.frames
  refine wpAny_looks_onW KZ dx.fr (by rw [<-dx.CB]; exact fl) fun h4 held R6=>?_
  refine wpAny_landsW held fun h5 R7 R8=>?_
  exact hh pins _ σ' H' D EX ea cls (go h5 (by rw [dx.CB]; exact R7) (R6.trans R8)) hE
theorem HA {body:List Stmt} {h₀:ExceptHandler} {hs:List ExceptHandler} {tb:Hw} {th:DT} {pos:Pos} (dx:DefX X) (hb:Aq X body tb) (hh:PH X (h₀::hs) th) :
  PS X (.Try body (h₀::hs) [] [] pos) (fun D σ H=>tb D (fun cls ea σ' H'=>th D (fun _ _ _ _=>False) cls ea σ' H') σ H):=by
 intro pins s σ H D I h
 exact wpAny_mono (DU dx hb hh pins s σ H D (fun _ _ _ _=>False) I h) (fun _ _ q=>q) fun _ _ ⟨_,_,_,_,_,_,z⟩=>z.elim
noncomputable def vm (X:Cx) (ea:Addr) (oe:Obj):Cx:={ X with A:=X.A.mark (some (.ref ea)),calm:=false,pn:=(ea,oe)::X.pn,xe:=fun _ _=>False }
theorem tM.vm {pins:List (Addr × Obj)} {σ:St} {H:Hp} {s:Shared} {ea:Addr} {cls:Value} (J:tM X pins σ H s ea cls):∃ oe,s.heap.get? ea=some oe/\oe.cls=cls/\Inv (L2.vm X ea oe) pins σ H s:=by
 obtain ⟨B,t,fl,hn,_⟩:=J.slots
 obtain ⟨oe,vs,he,hc,hd,_⟩:=fl.first
 have I:=J.inv
 have FR:∀ b∈fK X.stack,ea≠b:=fun b hb z=>by
  obtain ⟨_,o,ho,DN⟩:=I.stack.mem hb
  rw [<-z,he] at ho
  cases ho
  exact DN vs hd
 have zG:ea≠X.env.locals:=fun z=>by
  obtain ⟨m,⟨o,es,ep,ho,QV,_⟩,_⟩:=I.loc
  rw [<-z,he] at ho
  cases ho
  rw [hd] at QV
  cases QV
 have OB:ea ∉ X.fs:=fun hb=>by
  obtain ⟨_,o,ho,DN⟩:=I.iN.mem hb
  rw [he] at ho
  cases ho
  exact DN vs hd
 refine ⟨oe,he,hc,⟨⟨I.ok.mod,I.ok.kind,I.ok.glob,I.ok.blt,I.ok.above,I.ok.inj,I.ok.has,I.ok.Fv,fun z=>(by cases z),I.ok.frames,I.ok.CB,I.ok.ML,I.ok.bs,I.ok.CC,I.ok.sZ,I.ok.xX,I.ok.iN,I.ok.zB⟩,I.os,I.bare,I.base,I.loc,I.cell,I.free,I.fN,fun p hp=>?_,I.bK,I.len⟩⟩
 rcases List.mem_cons.mp (show p∈(ea,oe)::(X.pn++pins) from hp) with z | z
 ·rw [z]
  exact ⟨he,hn,zG,OB,fun v q=>by rw [hd] at q; cases q⟩
 ·exact I.pin p z
theorem Inv.OQ {pins:List (Addr × Obj)} {σ:St} {H:Hp} {s:Shared} {ea:Addr} {oe:Obj} (ok:X.Ok) (I:Inv (L2.vm X ea oe) pins σ H s):Inv X pins σ H s:=
 ⟨ok,I.os,I.bare,I.base,I.loc,I.cell,I.free,I.fN,fun p hp=>I.pin p (List.mem_cons_of_mem _ hp),I.bK,I.len⟩
end
theorem yu {M:Model} {A:Around} {E:Value->Shared->Prop} {s:Shared} {K:PySem.W.Frag} {ea C:Addr} {oe:Obj} {b:Bool} {Q:Bool->Shared->Prop} (KX:K.In s.heap) (he:s.heap.get? ea=some oe) (h1:PySem.W.kitCls K oe.cls (.ref C)=some b) (h2:PySem.W.subIn K (.ref C) (.type "BaseException")=some true) (q:Q b s) :
  wpAny M A (excMatches (.ref ea) (.ref C)) Q E s:=by
 obtain ⟨l1,l2,l3⟩:=PySem.W.kit_cls (M:=M) KX h1
 have l4:=PySem.W.looks_subIn (M:=M) KX h2
 obtain ⟨hp,g,d,tk,os⟩:=s
 have lt:PySem.W.Looks M hp (isInstance (.ref C) (.type "tuple")) false:=l1.andThen (.of_pure tc_notTuple)
 have lx:PySem.W.Looks M hp (isExcClass (.ref C)) true:=fun A' Q' E' s' k z=>by
  unfold isExcClass
  refine wpAny_bind (l2 A' _ E' s' k ?_)
  rw [if_pos rfl]
  exact l4 A' Q' E' s' k z
 have ly:PySem.W.Looks M hp (typeOf (.ref ea)) oe.cls:=fun A' Q' E' s' k z=>by
  unfold typeOf
  exact wpAny_bind (wpAny_loadPart (k _ _ he) (wpAny_pure z))
 unfold excMatches
 refine wpAny_bind (lt.here ?_)
 simp only [Bool.false_eq_true,if_false,pure_bind,List.forIn_cons,List.forIn_nil,bind_assoc]
 refine wpAny_bind (lx.here ?_)
 simp only [Bool.not_true,Bool.false_eq_true,if_false,pure_bind]
 refine wpAny_bind (ly.here ?_)
 refine wpAny_bind (l3.here ?_)
 cases b with
 | true=>exact wpAny_pure q
 | false=>exact wpAny_pure q
theorem mf {prog:Program} {w:World} {A:Around} {E:Value->Shared->Prop} {s:Shared} {K:PySem.W.Frag} {ea:Addr} {oe:Obj} {c:Value} {Q:Value->Shared->Prop} (KX:K.In s.heap) (he:s.heap.get? ea=some oe) (e:PySem.W.kitOne K oe.cls c=some true) (h:Q (.bool true) s) :
  wpAny (model prog w) A (call (.builtin "isinstance") [.ref ea,c]) Q E s:=by
 have ly:PySem.W.Looks (model prog w) s.heap (typeOf (.ref ea)) oe.cls:=fun A' Q' E' s' k z=>by
  unfold typeOf
  exact wpAny_bind (wpAny_loadPart (k _ _ he) (wpAny_pure z))
 refine PyProof.Rows.call_isinstance_of ?_ (by intro z; cases z)
 unfold PySem.W.kitOne at e
 unfold Builtin.«isinstance.nested»
 refine wpAny_bind (ly.here ?_)
 by_cases q:(oe.cls==c)=true
 ·rw [if_pos q]
  first
   | exact wpAny_bind (wpAny_rule h)
   | exact wpAny_bind (wpAny_rule (wpAny_pure h))
   | exact wpAny_pure h
 ·rw [if_neg q] at e
  rw [if_neg q]
  obtain ⟨Du,K8,KY⟩:=PySem.W.kit_cls (M:=model prog w) KX e
  have LI:PySem.W.Looks (model prog w) s.heap (isInstance (.ref ea) c) true:=ly.andThen KY
  refine wpAny_bind (Du.here ?_)
  rw [if_pos (by decide)]
  k_delta "plainIsInstance"
  refine wpAny_bind (wpAny_bind (K8.here ?_))
  simp only [Bool.not_true,Bool.false_eq_true,if_false]
  refine wpAny_bind (LI.here ?_)
  first
   | exact wpAny_pure (wpAny_pure h)
   | (simp only [if_true]; first | exact wpAny_pure (wpAny_pure h) | exact wpAny_pure h | exact wpAny_bind (wpAny_pure (wpAny_pure h)))
section
variable {X:Cx}
theorem rE:bt X (.builtin "isinstance") (fun xs H Q=>∃ ea oe c,(xs=[.ref ea,.ref c]/\PySem.W.kitOne X.K oe.cls (.ref c)=some true\/∃ n,xs=[.ref ea,.ty n]/\PySem.W.kitOne X.K oe.cls (.type n)=some true)/\(ea,oe)∈X.pn/\Q (.bl true) H):=by
 intro pins s σ H xs us Q I r h
 obtain ⟨ea,oe,c,hx,hp,q⟩:=h
 have he:=(I.pin (ea,oe) (List.mem_append_left _ hp)).1
 rcases hx with ⟨rfl,e⟩ | ⟨n,rfl,e⟩
 ·obtain ⟨u,u2,rfl,ru,Hu⟩:=vals2 r
  cases ru
  cases Hu
  exact mf I.lY he e ⟨.bl true,H,I,rfl,q⟩
 ·obtain ⟨u,u2,rfl,ru,Hu⟩:=vals2 r
  cases ru
  cases Hu
  exact mf I.lY he e ⟨.bl true,H,I,rfl,q⟩
theorem Inv.DV {pins:List (Addr × Obj)} {σ:St} {H:Hp} {s:Shared} {i:Nat} {n:Str} {u:Option Value} {h':Heap} {m:Str->Option Value} (I:Inv X pins σ H s) (hN:X.N.Nodup) (hi:X.N[i]?=some n) (hx:X.env.kindOf n=some .local) (hn:s.heap.Ns X.env.locals m)
  (hl:∀ (j:Nat) (x:Str) (v:V),X.N[j]?=some x->σ[j]?=some (some v)->CZ X.env.scope x->∃ u,RelV v u/\Look X.env s.heap m x u)
  (Jq:h'.Ns X.env.locals (fun x=>if x=n then u else m x)) (sb:Heap.SameBut X.env.locals s.heap h'):Inv X pins (σ.set i none) H { s with heap:=h' }:=by
 have iσ:i<σ.length:=by rw [I.len]; exact (List.getElem?_eq_some_iff.mp hi).1
 have HB:∀ b o,b≠X.env.locals->s.heap.get? b=some o->h'.get? b=some o:=fun b o hb e=>(sb.2 b hb).trans e
 have zG:∀ b o,X.s₀.heap.get? b=some o->b≠X.env.locals:=fun b o e=>Nat.ne_of_lt (Nat.lt_of_lt_of_le (Heap.lt_size e) I.ok.above)
 refine ⟨I.ok,I.os,I.bare,⟨fun b o q nn hb hx=>HB b o (zG b o q) (I.base.keep b o q nn hb hx),fun b o q nn hb hx=>?_,I.base.free,fun b o q hx=>?_,I.base.jE,I.base.jn,I.base.j6⟩,⟨_,Jq,fun j x v e1 e2 e3=>?_⟩,fun x c e=>?_,I.free,I.fN,fun p hp=>?_,fun b w q=>?_,by rw [List.length_set]; exact I.len⟩
 ·obtain ⟨sl,e1⟩:=I.base.slot b o q nn hb hx
  exact ⟨sl,HB b _ (zG b o q) e1⟩
 ·obtain ⟨o',e1⟩:=I.base.there b o q hx
  exact ⟨o',HB b o' (zG b o q) e1⟩
 ·by_cases hj:j=i
  ·subst hj
   rw [List.getElem?_set_self iσ] at e2
   cases e2
  ·rw [List.getElem?_set_ne (Ne.symm hj)] at e2
   obtain ⟨u',r,l⟩:=hl j x v e1 e2 e3
   have nx:x≠n:=fun z=>hj (nA hN e1 (z ▸ hi))
   refine ⟨u',r,?_⟩
   rcases l with ⟨k,e⟩ | ⟨k,c,e,o,ho,hd⟩
   ·exact .inl ⟨k,by simp [nx,e]⟩
   ·exact .inr ⟨k,c,e,o,HB c o (I.CD x c e) ho,hd⟩
 ·obtain ⟨v,o,ho,hd⟩:=I.cell x c e
  exact ⟨v,o,HB c o (I.CD x c e) ho,hd⟩
 ·obtain ⟨e,z,ne,nf,d⟩:=I.pin p hp
  exact ⟨HB p.1 p.2 ne e,z,ne,nf,d⟩
 ·refine (I.bK b w q).mM (fun c v hc z=>HB c v ?_ z) (fun _ z=>z) fun _ _ z=>z
  intro z'
  rcases hc with r | r
  ·rw [<-r,z',I.free] at q
   cases q
  ·rw [z',I.free] at r
   cases r
noncomputable def OR (K:PySem.W.Frag) (C:Addr) (i:Nat) (ts:Addr->Obj->TS) (tr:DT):DT:=fun D EX cls ea σ H=>∃ b,PySem.W.kitCls K cls (.ref C)=some b/\if b=true then ∀ oe,oe.cls=cls->ts ea oe { nx:=fun σ' H'=>D.nx (σ'.set i none) H',rt:=D.rt,bk:=fun σ' H'=>D.bk (σ'.set i none) H',ct:=fun σ' H'=>D.ct (σ'.set i none) H' } (σ.set i (some (.ref ea))) H else tr D EX cls ea σ H
theorem K9 {x n:Str} {i:Nat} {C:Addr} {np pos:Pos} {b₀:Stmt} {iG:List Stmt} {rest:List ExceptHandler} {ts:Addr->Obj->TS} {tr:DT} (hN:X.N.Nodup) (hi:X.N[i]?=some n) (hl:X.env.scope.names.lookup n=some .local) (hg:Gl X x) (hm:X.mg x=some (.ref C)) (hB:PySem.W.subIn X.K (.ref C) (.type "BaseException")=some true) (hs:∀ ea oe,jZ (L2.vm X ea oe) (b₀::iG) (ts ea oe)) (hr:PH X rest tr)
  (hd:(x==("__debug__":Str))=false:=by decide):PH X (.ExceptHandler (some (.Name x np)) (some n) (b₀::iG) pos::rest) (OR X.K C i ts tr):=by
 intro pins s σ H D EX ea cls J h
 obtain ⟨b,hb,h⟩:=h
 obtain ⟨oe,he,hc,I⟩:=J.vm
 refine wpAny_handleBy_cons (codeAny_handlers_test (jb I (show Gl (L2.vm X ea oe) x from hg) (show (L2.vm X ea oe).mg x=some (.ref C) from hm) ?_ hd)) (by intro z; cases z)
 refine yu I.lY he (by rw [hc]; exact hb) hB ?_
 cases b with
 | false=>exact hr pins s σ H D EX ea cls J (by simpa using h)
 | true=>
  obtain ⟨B,t,fl,hn,go⟩:=J.slots
  have h':∀ oe,oe.cls=cls->ts ea oe { nx:=fun σ' H'=>D.nx (σ'.set i none) H',rt:=D.rt,bk:=fun σ' H'=>D.bk (σ'.set i none) H',ct:=fun σ' H'=>D.ct (σ'.set i none) H' } (σ.set i (some (.ref ea))) H:=by simpa using h
  refine codeAny_handlers_suite_as (lands_againW fl fun h6 R9 R_=>?_)
  have J6:=go h6 R9 R_
  obtain ⟨M7,Uc,Sa,I6⟩:=J6.vm
  refine nC (X:=L2.vm X ea M7) (v:=.ref ea) I6 hN hi (Or.inl hl) rfl (fun s7 I7=>?_) (Or.inr hl)
  refine wpAny_mono (hs ea M7 pins s7 _ H _ I7 (h' M7 Sa)) (fun f s8 q=>?_) fun _ _ z=>z.elim
  -- xT name is let go
  have letGo:∀ {σ8:St} {H8:Hp} {R:Shared->Prop},Inv (L2.vm X ea M7) pins σ8 H8 s8->(∀ s9,Inv X pins (σ8.set i none) H8 s9->R s9) ->
    wpAny (model X.prog X.w) X.A (do bindName X.env n .none; unbindBehindTheSuite X.env n pos) (fun _ s9=>R s9) (XP X pins EX) s8:=fun {σ8 H8 R} I8 k=>by
   have I9:=I8.OQ J.inv.ok
   refine wpAny_bind (wpAny_bindName (pZ I9 hN hi (Or.inl hl) (v:=.bD) rfl (fun s9 OS ⟨a,sb,ha⟩=>?_) (Or.inr hl)))
   obtain ⟨m,ns,QW⟩:=OS.loc
   have iσ:i<σ8.length:=by rw [I9.len]; exact (List.getElem?_eq_some_iff.mp hi).1
   obtain ⟨u,ru,lk⟩:=QW i n .bD hi (List.getElem?_set_self iσ) (Or.inl hl)
   have Sb:m n=some u:=by
    rcases lk with ⟨_,e⟩ | ⟨k',_⟩
    ·exact e
    ·exfalso
     rcases k' with z | z
     ·have z':X.env.scope.names.lookup n=some .cell:=z
      rw [hl] at z'; cases z'
     ·have z':X.env.scope.names.lookup n=some .free:=z
      rw [hl] at z'; cases z'
   unfold unbindBehindTheSuite
   refine wpAny_onRaise (wpAny_unbindName_local hl ns Sb (by rw [OS.ok.kind]; rfl) fun Jy u' Sd Se=>?_)
   have QX:=OS.DV hN hi hl ns QW Sd Se
   rw [List.set_set] at QX
   exact k _ QX
  cases f with
  | next=>
   obtain ⟨σ8,H8,I8,q8⟩:=q
   exact letGo I8 fun s9 I9=>⟨_,H8,I9,q8⟩
  | brk=>
   obtain ⟨σ8,H8,I8,q8⟩:=q
   exact letGo I8 fun s9 I9=>⟨_,H8,I9,q8⟩
  | cont=>
   obtain ⟨σ8,H8,I8,q8⟩:=q
   exact letGo I8 fun s9 I9=>⟨_,H8,I9,q8⟩
  | ret v=>
   obtain ⟨x8,σ8,H8,I8,r8,q8⟩:=q
   exact letGo I8 fun s9 I9=>⟨x8,_,H8,I9,r8,q8⟩
end
section
variable {X:Cx} {tg:Expr}
end
section
variable {X:Cx} {tg:Expr}
end
section
variable {X:Cx} {elts:List Expr} {kt:Nat} {tp p pos:Pos}
end
section
variable {X:Cx}
end
structure mS where
 qual:Str
 params:Arguments
 body:Expr
 scope:Scope
 ps:List Str
 x:Str
noncomputable abbrev Fz (H:Hp) (a:Addr) (o:Obj):Prop:=H a=some (.jY o (.own 0))
structure M8 (L:mS) (H:Hp) (f c c':Addr) (v:V):Prop where
 fn:∃ pm OT,Fz H f (PySem.W.kla_obj "<lambda>" L.qual L.params L.body L.scope [(L.x,c)] pm c' OT)
 cd:∃ oc vs t,Fz H c' oc/\oc.data=.fields vs/\vs[1]?=some (.str L.qual t)
 ce:∃ oc u,Fz H c oc/\oc.data=.cell (some u)/\RelV v u
noncomputable def back (H H':Hp) (c:Addr):Hp:=fun b=>if b=c then H b else H' b
section
variable {P:Program} {w:World} {K:PySem.W.Frag} {mg:Str->Option Value} {base:Heap} {L:mS} {f c c':Addr} {A:Around} {outer:List Env} {s s1:Shared} {H:Hp} {us:List Value} {vs:List V} {v:V}
end
noncomputable def Tab (H:Hp) (T:Addr) (line col:Nat) (qual:Str):Prop:=H T=some (.CA #[]) \/
 ∃ c' oc vs t,H T=some (.CA #[rawInt line,rawInt col,.ref c'])/\Fz H c' oc/\oc.data=.fields vs/\vs[1]?=some (.str qual t)
section
variable {X:Cx} {L:mS} {pos:Pos} {cd T c:Addr}
end
theorem M8.mono {L:mS} {H H':Hp} {f c c':Addr} {v:V} (C:M8 L H f c c' v) (k:∀ b o u,H b=some (.jY o u)->H' b=some (.jY o u)):M8 L H' f c c' v:=by
 obtain ⟨⟨pm,OT,h1⟩,⟨oc,vs,t,h2,h3⟩,⟨o2,u,h4,h5⟩⟩:=C
 exact ⟨⟨pm,OT,k _ _ _ h1⟩,⟨oc,vs,t,k _ _ _ h2,h3⟩,⟨o2,u,k _ _ _ h4,h5⟩⟩
section
variable {X:Cx} {L:mS} {i:Nat} {x:Str} {f c c':Addr} {v:V} {k:Nat} {e:Expr} {es:List Expr} {t:TA} {p pos:Pos}
end
section
variable {P:Program} {w:World} {H H':Hp} {c:Addr} {o:Obj} {fs:List Addr} {h h':Heap}
end
section
variable {X:Cx} {CX:uU} {k:Nat} {f:Addr} {fd:FuncData} {ps:List Str} {sp:Sp} {x y:Str} {i:Nat} {c:Addr} {p pos:Pos} {e:Expr} {es:List Expr} {t:TA}
end
end L2
namespace MN
open PySem PySem.Spec L2
open PyProof.Rows hiding St
inductive Val where
 | bD | bl (b:Bool) | int (i:Int) | str (x:Str) | tup (vs:List Val) | loc (n:Nat) | exc (c:Str) | fn (L:mS) (u:Val) | mt (vs:List Val)
inductive Cell where
 | lst (vs:List Val) | HC (vs:List Val) | mod (vs:List Val) | dK (az:List (Key × Val)) | dT (az:List (List Key × Val)) | tab (x:Str) (line col:Nat) (qual:Str)
noncomputable abbrev ah:=List Cell
noncomputable abbrev Env:=List (Option Val)
inductive Res (α:Type) where
 | ok (a:α) (st:ah) | err (c:Str) (st:ah) | bad
inductive dm where
 | nx (μ:Env) (st:ah) | rt (v:Val) (st:ah) | bk (μ:Env) (st:ah) | ct (μ:Env) (st:ah) | er (c:Str) (μ:Env) (st:ah) | bad
@[reducible] def Res.bind {α β:Type} (r:Res α) (k:α->ah->Res β):Res β:=match r with
 | .ok a st=>k a st
 | .err c st=>.err c st
 | .bad=>.bad
structure Wo where
 K:PySem.W.Frag
 mg:Str->Option Value
 pn:List (Addr × Obj)
noncomputable abbrev wo (X:Cx):Wo:=⟨X.K,X.mg,X.pn⟩
mutual
noncomputable def Rl (K:PySem.W.Frag) (ρ:List Addr) (H:Hp):Val->V->Prop
 | .bD,v=>v=.bD
 | .bl b,v=>v=.bl b
 | .int i,v=>v=.int i
 | .str x,v=>v=.str x
 | .tup us,v=>∃ a vs,v=.ref a/\H a=some (.tup vs)/\aS K ρ H us vs
 | .mt us,v=>∃ a vs,v=.ref a/\ju K H a vs/\aS K ρ H us vs
 | .loc n,v=>∃ a,v=.ref a/\ρ[n]?=some a
 | .exc _,_=>False
 | .fn _ _,_=>False
noncomputable def aS (K:PySem.W.Frag) (ρ:List Addr) (H:Hp):List Val->List V->Prop
 | [],vs=>vs=[]
 | u::us,vs=>∃ v r,vs=v::r/\Rl K ρ H u v/\aS K ρ H us r
end
structure Step (ρ:List Addr) (H:Hp) (ρ':List Addr) (H':Hp):Prop where
 pre:ρ <+: ρ'
 tup:∀ b xs,H b=some (.tup xs)->H' b=some (.tup xs)
 jY:∀ b o u,H b=some (.jY o u)->H' b=some (.jY o u)
theorem Step.refl (ρ:List Addr) (H:Hp):Step ρ H ρ H:=⟨List.prefix_refl ρ,fun _ _ h=>h,fun _ _ _ h=>h⟩
theorem Step.trans {ρ ρ1 ρ2:List Addr} {H H1 H2:Hp} (a:Step ρ H ρ1 H1) (b:Step ρ1 H1 ρ2 H2):Step ρ H ρ2 H2:=
 ⟨a.pre.trans b.pre,fun _ _ h=>b.tup _ _ (a.tup _ _ h),fun _ _ _ h=>b.jY _ _ _ (a.jY _ _ _ h)⟩
theorem Step.same {ρ:List Addr} {H H':Hp} (e:k4 H H'):Step ρ H ρ H':=⟨List.prefix_refl ρ,fun _ _ h=>e _ _ h,fun _ _ _ h=>e _ _ h⟩
theorem Step.snoc {ρ:List Addr} {H H':Hp} (p:Addr) (e:k4 H H'):Step ρ H (ρ++[p]) H':=⟨List.prefix_append ρ [p],fun _ _ h=>e _ _ h,fun _ _ _ h=>e _ _ h⟩
theorem Step.at_ {ρ ρ':List Addr} {H H':Hp} (e:Step ρ H ρ' H') {n:Nat} {a:Addr} (h:ρ[n]?=some a):ρ'[n]?=some a:=by
 obtain ⟨t,rfl⟩:=e.pre
 have hl:n<ρ.length:=by
  rcases Nat.lt_or_ge n ρ.length with q | q
  ·exact q
  ·rw [List.getElem?_eq_none q] at h; cases h
 rw [List.getElem?_append_left hl,h]
theorem Step.OU {K:PySem.W.Frag} {ρ ρ':List Addr} {H H':Hp} (e:Step ρ H ρ' H') {a:Addr} {xs:List V} (h:ju K H a xs):ju K H' a xs:=by
 rcases h with (h | ⟨o,h⟩) | h
 ·exact .inl (.inl (e.tup _ _ h))
 ·exact .inl (.inr ⟨o,e.jY _ _ _ h⟩)
 ·exact .inr h
mutual
theorem Rl.mono {K:PySem.W.Frag} {ρ ρ':List Addr} {H H':Hp} (e:Step ρ H ρ' H'):∀ (u:Val) (v:V),Rl K ρ H u v->Rl K ρ' H' u v
 | .bD,_,h=>h
 | .bl _,_,h=>h
 | .int _,_,h=>h
 | .str _,_,h=>h
 | .tup us,v,h=>by
  unfold Rl at h ⊢
  obtain ⟨a,vs,h1,h2,h3⟩:=h
  exact ⟨a,vs,h1,e.tup _ _ h2,aS.mono e us vs h3⟩
 | .mt us,v,h=>by
  unfold Rl at h ⊢
  obtain ⟨a,vs,h1,h2,h3⟩:=h
  exact ⟨a,vs,h1,e.OU h2,aS.mono e us vs h3⟩
 | .loc n,v,h=>by
  unfold Rl at h ⊢
  obtain ⟨a,h1,h2⟩:=h
  exact ⟨a,h1,e.at_ h2⟩
 | .exc c,v,h=>h
 | .fn _ _,_,h=>h
theorem aS.mono {K:PySem.W.Frag} {ρ ρ':List Addr} {H H':Hp} (e:Step ρ H ρ' H'):∀ (us:List Val) (vs:List V),aS K ρ H us vs->aS K ρ' H' us vs
 | [],_,h=>h
 | u::us,vs,h=>by
  unfold aS at h ⊢
  obtain ⟨v,r,h1,h2,h3⟩:=h
  exact ⟨v,r,h1,Rl.mono e u v h2,aS.mono e us r h3⟩
end
section
variable {K:PySem.W.Frag} {ρ ρ':List Addr} {H H':Hp}
theorem aS.nil:aS K ρ H [] []:=by unfold aS; rfl
theorem aS.cons {u:Val} {us:List Val} {v:V} {vs:List V} (h:Rl K ρ H u v) (hs:aS K ρ H us vs):aS K ρ H (u::us) (v::vs):=by
 unfold aS; exact ⟨v,vs,rfl,h,hs⟩
theorem aS.bV {u:Val} {us:List Val} {vs:List V} (h:aS K ρ H (u::us) vs):∃ v r,vs=v::r/\Rl K ρ H u v/\aS K ρ H us r:=by
 unfold aS at h; exact h
theorem aS.dJ {vs:List V} (h:aS K ρ H [] vs):vs=[]:=by unfold aS at h; exact h
theorem aS.length:∀ {us:List Val} {vs:List V},aS K ρ H us vs->us.length=vs.length
 | [],vs,h=>by rw [h.dJ]; rfl
 | u::us,vs,h=>by
  obtain ⟨v,r,rfl,_,h3⟩:=h.bV
  rw [List.length_cons,List.length_cons,h3.length]
theorem aS.get:∀ {us:List Val} {vs:List V} {i:Nat} {u:Val},aS K ρ H us vs->us[i]?=some u->∃ v,vs[i]?=some v/\Rl K ρ H u v
 | [],_,_,_,_,e=>by cases e
 | w::us,vs,0,u,h,e=>by
  obtain ⟨v,r,rfl,h2,_⟩:=h.bV
  cases e
  exact ⟨v,rfl,h2⟩
 | w::us,vs,i+1,u,h,e=>by
  obtain ⟨v,r,rfl,_,h3⟩:=h.bV
  exact aS.get (i:=i) h3 e
theorem aS.append:∀ {us ws:List Val} {vs xs:List V},aS K ρ H us vs->aS K ρ H ws xs->aS K ρ H (us++ws) (vs++xs)
 | [],_,vs,_,h,k=>by rw [h.dJ]; exact k
 | u::us,ws,vs,xs,h,k=>by
  obtain ⟨v,r,rfl,h2,h3⟩:=h.bV
  exact aS.cons h2 (h3.append k)
theorem aS.drop:∀ (n:Nat) {us:List Val} {vs:List V},aS K ρ H us vs->aS K ρ H (us.drop n) (vs.drop n)
 | 0,_,_,h=>h
 | _+1,[],vs,h=>by rw [h.dJ]; exact aS.nil
 | n+1,u::us,vs,h=>by
  obtain ⟨v,r,rfl,h2,h3⟩:=h.bV
  exact aS.drop n h3
theorem aS.take:∀ (n:Nat) {us:List Val} {vs:List V},aS K ρ H us vs->aS K ρ H (us.take n) (vs.take n)
 | 0,_,_,_=>aS.nil
 | _+1,[],vs,h=>by rw [h.dJ]; exact aS.nil
 | n+1,u::us,vs,h=>by
  obtain ⟨v,r,rfl,h2,h3⟩:=h.bV
  exact aS.cons h2 (aS.take n h3)
theorem aS.one {u:Val} {v:V} (h:Rl K ρ H u v):aS K ρ H [u] [v]:=aS.cons h aS.nil
theorem aS.tN {u:Val} {vs:List V} (h:aS K ρ H [u] vs):∃ v,vs=[v]/\Rl K ρ H u v:=by
 obtain ⟨v,r,rfl,h2,h3⟩:=h.bV
 rw [h3.dJ]
 exact ⟨v,rfl,h2⟩
theorem aS.QY {u w:Val} {vs:List V} (h:aS K ρ H [u,w] vs):∃ v x,vs=[v,x]/\Rl K ρ H u v/\Rl K ρ H w x:=by
 obtain ⟨v,r,rfl,h2,h3⟩:=h.bV
 obtain ⟨x,rfl,h4⟩:=h3.tN
 exact ⟨v,x,rfl,h2,h4⟩
theorem aS.ints:∀ (ns:List Int),aS K ρ H (ns.map Val.int) (ns.map V.int)
 | []=>aS.nil
 | n::ns=>aS.cons (by unfold Rl; rfl) (aS.ints ns)
theorem Rl.cj {i:Int} {v:V} (h:Rl K ρ H (.int i) v):v=.int i:=by unfold Rl at h; exact h
theorem Rl.nT {b:Bool} {v:V} (h:Rl K ρ H (.bl b) v):v=.bl b:=by unfold Rl at h; exact h
theorem Rl.gZ {x:Str} {v:V} (h:Rl K ρ H (.str x) v):v=.str x:=by unfold Rl at h; exact h
theorem Rl.fu {v:V} (h:Rl K ρ H .bD v):v=.bD:=by unfold Rl at h; exact h
theorem Rl.HD {us:List Val} {v:V} (h:Rl K ρ H (.tup us) v):∃ a vs,v=.ref a/\H a=some (.tup vs)/\aS K ρ H us vs:=by unfold Rl at h; exact h
theorem Rl.fe {us:List Val} {v:V} (h:Rl K ρ H (.tup us) v):∃ a vs,v=.ref a/\ju K H a vs/\aS K ρ H us vs:=let ⟨a,vs,h1,h2,h3⟩:=h.HD; ⟨a,vs,h1,ju.of h2,h3⟩
theorem Rl.Sf {us:List Val} {v:V} (h:Rl K ρ H (.mt us) v):∃ a vs,v=.ref a/\ju K H a vs/\aS K ρ H us vs:=by unfold Rl at h; exact h
theorem Rl.cZ {n:Nat} {v:V} (h:Rl K ρ H (.loc n) v):∃ a,v=.ref a/\ρ[n]?=some a:=by unfold Rl at h; exact h
theorem Rl.mkInt (i:Int):Rl K ρ H (.int i) (.int i):=by unfold Rl; rfl
theorem Rl.DW (b:Bool):Rl K ρ H (.bl b) (.bl b):=by unfold Rl; rfl
theorem Rl.mkStr (x:Str):Rl K ρ H (.str x) (.str x):=by unfold Rl; rfl
theorem Rl.tO:Rl K ρ H .bD .bD:=by unfold Rl; rfl
theorem Rl.nU {us:List Val} {a:Addr} {vs:List V} (h:H a=some (.tup vs)) (r:aS K ρ H us vs):Rl K ρ H (.tup us) (.ref a):=by unfold Rl; exact ⟨a,vs,rfl,h,r⟩
theorem Rl.Au {n:Nat} {a:Addr} (h:ρ[n]?=some a):Rl K ρ H (.loc n) (.ref a):=by unfold Rl; exact ⟨a,rfl,h⟩
end
noncomputable def eG {κ:Type} (K:PySem.W.Frag) (ρ:List Addr) (H:Hp) (az:List (κ × Val)) (jq:List (κ × V)):Prop:=az.map (·.1)=jq.map (·.1)/\aS K ρ H (az.map (·.2)) (jq.map (·.2))
noncomputable def iQ:Option Cell->Bool
 | some (.mod _)=>true
 | _=>false
noncomputable def OV (K:PySem.W.Frag) (a:Addr) (vs:List V):Prop:=∃ (o:Obj) (aD:Array Value) (n:Nat),K.lookup a=some o/\o.cls=.type "list" /\ o.dict=none/\o.data=.seq aD n/\aD.size<=sizeLine/\Vals vs aD.toList
noncomputable def fR (K:PySem.W.Frag) (ρ:List Addr) (H:Hp):Cell->Addr->Prop
 | .lst us,a=>∃ vs,H a=some (.lst vs)/\aS K ρ H us vs
 | .HC us,a=>∃ o vs,H a=some (.jY o (.lst vs))/\aS K ρ H us vs
 | .mod us,a=>∃ vs,OV K a vs/\aS K ρ H us vs
 | .dK az,a=>∃ jq,H a=some (.dK jq)/\eG K ρ H az jq
 | .dT az,a=>∃ jq,H a=some (.dT jq)/\eG K ρ H az jq
 | .tab x l c q,a=>(∃ cd,PySem.W.tabIn K x=some (cd,a))/\Tab H a l c q
structure SR (K:PySem.W.Frag) (ρ:List Addr) (st:ah) (H:Hp):Prop where
 len:ρ.length=st.length
 nd:∀ (n m:Nat) a,ρ[n]?=some a->ρ[m]?=some a->iQ st[n]?=false->iQ st[m]?=false->n=m
 cell:∀ (n:Nat) c a,st[n]?=some c->ρ[n]?=some a->fR K ρ H c a
theorem fG {α:Type} {l:List α} {n:Nat} {x:α} (h:l[n]?=some x):n<l.length:=by
 rcases Nat.lt_or_ge n l.length with q | q
 ·exact q
 ·rw [List.getElem?_eq_none q] at h; cases h
section
variable {K:PySem.W.Frag} {ρ ρ':List Addr} {H H':Hp} {st:ah}
theorem fR.there {c:Cell} {a:Addr} (h:fR K ρ H c a) (hn:iQ (some c)=false):∃ o,H a=some o/\∀ xs,o≠.tup xs:=by
 cases c with
 | lst us=>obtain ⟨vs,h,_⟩:=h; exact ⟨_,h,fun xs e=>by cases e⟩
 | HC us=>obtain ⟨o,vs,h,_⟩:=h; exact ⟨_,h,fun xs e=>by cases e⟩
 | mod us=>cases hn
 | dK az=>obtain ⟨vs,h,_⟩:=h; exact ⟨_,h,fun xs e=>by cases e⟩
 | dT az=>obtain ⟨vs,h,_⟩:=h; exact ⟨_,h,fun xs e=>by cases e⟩
 | tab x l c q=>rcases h.2 with h | ⟨_,_,_,_,h,_⟩ <;> exact ⟨_,h,fun xs e=>by cases e⟩
theorem fR.mono {c:Cell} {a:Addr} (h:fR K ρ H c a) (e:Step ρ H ρ' H') (ha:iQ (some c)=true\/H' a=H a):fR K ρ' H' c a:=by
 cases c with
 | mod us=>obtain ⟨vs,h,r⟩:=h; exact ⟨vs,h,aS.mono e _ _ r⟩
 | lst us=>rcases ha with ha | ha <;> first | cases ha; done | (obtain ⟨vs,h,r⟩:=h; exact ⟨vs,ha.trans h,aS.mono e _ _ r⟩)
 | HC us=>rcases ha with ha | ha <;> first | cases ha; done | (obtain ⟨o,vs,h,r⟩:=h; exact ⟨o,vs,ha.trans h,aS.mono e _ _ r⟩)
 | dK az=>rcases ha with ha | ha <;> first | cases ha; done | (obtain ⟨vs,h,r⟩:=h; exact ⟨vs,ha.trans h,r.1,aS.mono e _ _ r.2⟩)
 | dT az=>rcases ha with ha | ha <;> first | cases ha; done | (obtain ⟨vs,h,r⟩:=h; exact ⟨vs,ha.trans h,r.1,aS.mono e _ _ r.2⟩)
 | tab x l c q=>
  refine ⟨h.1,?_⟩
  rcases ha with ha | ha
  ·cases ha
  ·rcases h.2 with h | ⟨c',oc,vs,t,h,h2,h3⟩
   ·exact .inl (ha.trans h)
   ·exact .inr ⟨c',oc,vs,t,ha.trans h,e.jY _ _ _ h2,h3⟩
theorem fR.grow {c:Cell} {a:Addr} (h:fR K ρ H c a) (e:Step ρ H ρ' H') (s:k4 H H'):fR K ρ' H' c a:=by
 cases z:iQ (some c) with
 | true=>exact h.mono e (.inl z)
 | false=>
  obtain ⟨o,ho,_⟩:=h.there z
  exact h.mono e (.inr (by rw [ho]; exact s _ _ ho))
theorem SR.there (s:SR K ρ st H) {n:Nat} {a:Addr} (h:ρ[n]?=some a):∃ c,st[n]?=some c/\fR K ρ H c a:=by
 have hn:=fG h
 have Jq:n<st.length:=by rw [<-s.len]; exact hn
 exact ⟨st[n],List.getElem?_eq_getElem Jq,s.cell n _ a (List.getElem?_eq_getElem Jq) h⟩
theorem SR.grow (s:SR K ρ st H) (e:k4 H H'):SR K ρ st H':=
 ⟨s.len,s.nd,fun n c a h1 h2=>(s.cell n c a h1 h2).grow (Step.same e) e⟩
theorem SR.FT (s:SR K ρ st H) {p:Addr} (hp:H p=none) {n:Nat} (h:ρ[n]?=some p) (hm:iQ st[n]?=false):False:=by
 obtain ⟨c,hc,k⟩:=s.there h
 rw [hc] at hm
 obtain ⟨o,ho,_⟩:=k.there hm
 rw [hp] at ho
 cases ho
theorem c_ {p:Addr} {o:HO} (hp:H p=none):k4 H (upd H p o):=k4.upd (k4.refl H) hp
theorem SR.alloc (s:SR K ρ st H) {p:Addr} {o:HO} {c:Cell} (hp:H p=none) (k:fR K (ρ++[p]) (upd H p o) c p):SR K (ρ++[p]) (st++[c]) (upd H p o):=by
 have e:k4 H (upd H p o):=c_ hp
 have at_:∀ (n:Nat) (a:Addr),(ρ++[p])[n]?=some a->(n<st.length/\ρ[n]?=some a/\(st++[c])[n]?=st[n]?)\/(n=st.length/\a=p/\(st++[c])[n]?=some c):=by
  intro n a h
  rcases Nat.lt_trichotomy n st.length with q | q | q
  ·rw [List.getElem?_append_left (by rw [s.len]; exact q)] at h
   exact .inl ⟨q,h,List.getElem?_append_left q⟩
  ·subst q
   rw [List.getElem?_append_right (by rw [s.len]; exact Nat.le_refl _),s.len,Nat.sub_self] at h
   cases h
   refine .inr ⟨rfl,rfl,?_⟩
   rw [List.getElem?_append_right (Nat.le_refl _),Nat.sub_self]; rfl
  ·rw [List.getElem?_eq_none (by rw [List.length_append,List.length_singleton,s.len]; lia)] at h
   cases h
 refine ⟨by rw [List.length_append,List.length_append,s.len]; rfl,fun n m a h1 h2 m1 m2=>?_,fun n c' a h1 h2=>?_⟩
 ·rcases at_ n a h1 with ⟨q1,q2,q3⟩ | ⟨q1,q2,q3⟩ <;> rcases at_ m a h2 with ⟨r1,r2,r3⟩ | ⟨r1,r2,r3⟩
  ·rw [q3] at m1; rw [r3] at m2; exact s.nd n m a q2 r2 m1 m2
  ·subst r2; rw [q3] at m1; exact (s.FT hp q2 m1).elim
  ·subst q2; rw [r3] at m2; exact (s.FT hp r2 m2).elim
  ·rw [q1,r1]
 ·rcases at_ n a h2 with ⟨q1,q2,q3⟩ | ⟨q1,q2,q3⟩
  ·rw [q3] at h1
   exact (s.cell n c' a h1 q2).grow (Step.snoc p e) e
  ·rw [q3] at h1
   cases h1
   subst q2
   exact k
theorem Step.put {a:Addr} {o o':HO} (h:H a=some o) (h1:∀ xs,o≠.tup xs) (h2:∀ x u,o≠.jY x u):Step ρ H ρ (upd H a o'):=by
 refine ⟨List.prefix_refl ρ,fun b xs e=>?_,fun b x u e=>?_⟩
 ·rw [aU (fun z=>?_)]
  ·exact e
  ·subst z; rw [h] at e; exact h1 _ (Option.some.inj e)
 ·rw [aU (fun z=>?_)]
  ·exact e
  ·subst z; rw [h] at e; exact h2 _ _ (Option.some.inj e)
theorem SR.set (s:SR K ρ st H) {n:Nat} {a:Addr} {o o':HO} {c c':Cell} (h:st[n]?=some c) (hc:iQ (some c)=false) (d6:iQ (some c')=false) (ha:ρ[n]?=some a) (ho:H a=some o) (h1:∀ xs,o≠.tup xs) (h2:∀ x u,o≠.jY x u)
  (k:fR K ρ (upd H a o') c' a):SR K ρ (st.set n c') (upd H a o'):=by
 have hn:n<st.length:=fG h
 have at_:∀ (m:Nat),iQ (st.set n c')[m]?=iQ st[m]?:=fun m=>by
  by_cases z:m=n
  ·subst z; rw [List.getElem?_set_self hn,h,hc,d6]
  ·rw [List.getElem?_set_ne (fun y=>z y.symm)]
 refine ⟨by rw [List.length_set]; exact s.len,fun i m b q1 q2 m1 m2=>s.nd i m b q1 q2 (by rw [<-at_]; exact m1) (by rw [<-at_]; exact m2),fun m d b q1 q2=>?_⟩
 by_cases z:m=n
 ·subst z
  rw [ha] at q2
  cases q2
  rw [List.getElem?_set_self hn] at q1
  cases q1
  exact k
 ·rw [List.getElem?_set_ne (fun y=>z y.symm)] at q1
  have kb:=s.cell m d b q1 q2
  cases zm:iQ (some d) with
  | true=>exact kb.mono (Step.put ho h1 h2) (.inl zm)
  | false=>
   have hb:b≠a:=fun y=>z (s.nd m n a (by rw [<-y]; exact q2) ha (by rw [q1]; exact zm) (by rw [h]; exact hc))
   exact kb.mono (Step.put ho h1 h2) (.inr (aU hb))
end
noncomputable def wO (W:Wo) (ρ:List Addr) (H:Hp) (u:Val) (v:V):Prop:=match u with
 | .exc c=>∃ a oe C,v=.ref a/\(a,oe)∈W.pn/\W.mg c=some (.ref C)/\oe.cls=.ref C
 | .fn L u=>∃ f c c' cv,v=.ref f/\M8 L H f c c' cv/\Rl W.K ρ H u cv
 | u=>Rl W.K ρ H u v
theorem wO.mono {W:Wo} {ρ ρ':List Addr} {H H':Hp} {u:Val} {v:V} (h:wO W ρ H u v) (e:Step ρ H ρ' H'):wO W ρ' H' u v:=by
 cases u with
 | exc c=>exact h
 | fn L u=>obtain ⟨f,c,c',cv,h1,C,r⟩:=h; exact ⟨f,c,c',cv,h1,C.mono (fun b o u q=>e.jY b o u q),Rl.mono e _ _ r⟩
 | _=>exact Rl.mono e _ _ h
theorem wO.of {W:Wo} {ρ:List Addr} {H:Hp} {u:Val} {v:V} (h:Rl W.K ρ H u v):wO W ρ H u v:=by
 cases u with
 | exc c=>unfold Rl at h; exact h.elim
 | fn L u=>unfold Rl at h; exact h.elim
 | _=>exact h
structure RS (W:Wo) (ρ:List Addr) (H:Hp) (μ:Env) (σ:St):Prop where
 len:μ.length=σ.length
 at_:∀ (i:Nat) u,μ[i]?=some (some u)->∃ v,σ[i]?=some (some v)/\wO W ρ H u v
section
variable {W:Wo} {ρ ρ':List Addr} {H H':Hp} {μ:Env} {σ:St}
theorem RS.mono (r:RS W ρ H μ σ) (e:Step ρ H ρ' H'):RS W ρ' H' μ σ:=⟨r.len,fun i u h=>let ⟨v,h1,h2⟩:=r.at_ i u h; ⟨v,h1,h2.mono e⟩⟩
theorem RS.K_ (r:RS W ρ H μ σ) (i:Nat) {u:Val} {v:V} (h:wO W ρ H u v):RS W ρ H (μ.set i (some u)) (σ.set i (some v)):=by
 refine ⟨by rw [List.length_set,List.length_set]; exact r.len,fun j w e=>?_⟩
 by_cases z:j=i
 ·subst z
  have hj:=fG e
  rw [List.length_set] at hj
  rw [List.getElem?_set_self hj] at e
  cases e
  exact ⟨v,List.getElem?_set_self (by rw [<-r.len]; exact hj),h⟩
 ·rw [List.getElem?_set_ne (fun y=>z y.symm)] at e ⊢
  exact r.at_ j w e
theorem RS.set (r:RS W ρ H μ σ) (i:Nat) {u:Val} {v:V} (h:Rl W.K ρ H u v):RS W ρ H (μ.set i (some u)) (σ.set i (some v)):=r.K_ i (wO.of h)
end
noncomputable abbrev ME:=Env->ah->Res Val
noncomputable abbrev MT:=Env->ah->Res Bool
noncomputable abbrev MA:=Env->ah->Res (List Val)
noncomputable abbrev MB:=Env->ah->dm
noncomputable def wR {α β:Type} (W:Wo) (E:XK) (R:List Addr->Hp->α->β->Prop) (ρ:List Addr) (H:Hp) (Q:β->Hp->Prop):Res α->Prop
 | .ok u ar=>∀ ρ' H' v,Step ρ H ρ' H'->SR W.K ρ' ar H'->R ρ' H' u v->Q v H'
 | .err c ar=>∃ C,W.mg c=some (.ref C)/\∀ ρ' H',Step ρ H ρ' H'->SR W.K ρ' ar H'->E (.ref C) none H'
 | .bad=>False
theorem wR.mono {α β:Type} {W:Wo} {E:XK} {R:List Addr->Hp->α->β->Prop} {ρ ρ':List Addr} {H H':Hp} {Q:β->Hp->Prop} {r:Res α} (h:wR W E R ρ H Q r) (e:Step ρ H ρ' H'):wR W E R ρ' H' Q r:=by
 cases r with
 | ok u st=>exact fun ρ2 H2 v e2 s r=>h ρ2 H2 v (e.trans e2) s r
 | err c st=>obtain ⟨C,h1,h2⟩:=h; exact ⟨C,h1,fun ρ2 H2 e2 s=>h2 ρ2 H2 (e.trans e2) s⟩
 | bad=>exact h
theorem wR.pn {α β:Type} {K:PySem.W.Frag} {mg:Str->Option Value} {pn HE:List (Addr × Obj)} {E:XK} {R:List Addr->Hp->α->β->Prop} {ρ:List Addr} {H:Hp} {Q:β->Hp->Prop} {r:Res α} (h:wR ⟨K,mg,pn⟩ E R ρ H Q r):wR ⟨K,mg,HE⟩ E R ρ H Q r:=by
 cases r <;> exact h
noncomputable def tG {α β:Type} (W:Wo) (E:XK) (R:List Addr->Hp->α->β->Prop) (m:Env->ah->Res α):St->Hp->(β->Hp->Prop)->Prop:=
 fun σ H Q=>∃ μ ρ st,RS W ρ H μ σ/\SR W.K ρ st H/\wR W E R ρ H Q (m μ st)
noncomputable abbrev RB:List Addr->Hp->Bool->Bool->Prop:=fun _ _ b c=>c=b
noncomputable abbrev tE (X:Cx) (E:XK) (m:ME):TE:=tG (wo X) E (Rl X.K) m
noncomputable abbrev tT (X:Cx) (E:XK) (m:MT):TT:=tG (wo X) E RB m
noncomputable abbrev tL (X:Cx) (E:XK) (m:MA):TA:=tG (wo X) E (aS X.K) m
theorem go {α β γ δ:Type} {W:Wo} {E:XK} {R1:List Addr->Hp->α->β->Prop} {R2:List Addr->Hp->γ->δ->Prop} {m:Env->ah->Res α} {k:α->ah->Res γ} {σ:St} {H:Hp} {Q:δ->Hp->Prop} {Q':β->Hp->Prop}
  (μ:Env) (ρ:List Addr) (st:ah) (rs:RS W ρ H μ σ) (sr:SR W.K ρ st H) (h:wR W E R2 ρ H Q ((m μ st).bind k))
  (c:∀ u aV ρ1 H1 x,Step ρ H ρ1 H1->SR W.K ρ1 aV H1->R1 ρ1 H1 u x->wR W E R2 ρ1 H1 Q (k u aV)->Q' x H1):tG W E R1 m σ H Q':=by
 refine ⟨μ,ρ,st,rs,sr,?_⟩
 cases e:m μ st with
 | ok u aV=>
  rw [e] at h
  intro ρ1 H1 x e1 bW r1
  exact c u aV ρ1 H1 x e1 bW r1 (wR.mono h e1)
 | err c aV=>rw [e] at h; exact h
 | bad=>rw [e] at h; exact h
section
variable {X:Cx}
theorem PE.imp {e:Expr} {t t':TE} (h:PE X e t) (k:∀ σ H Q,t' σ H Q->t σ H Q):PE X e t':=fun pins s σ H Q I q=>h pins s σ H Q I (k σ H Q q)
theorem PT.imp {e:Expr} {t t':TT} (h:PT X e t) (k:∀ σ H Q,t' σ H Q->t σ H Q):PT X e t':=fun pins s σ H Q I q=>h pins s σ H Q I (k σ H Q q)
theorem PW.imp {e:Expr} {t t':TT} (h:PW X e t) (k:∀ σ H Q,t' σ H Q->t σ H Q):PW X e t':=fun w pins s σ H Q I q=>h w pins s σ H Q I (k σ H Q q)
theorem PA.imp {e:List Expr} {t t':TA} (h:PA X e t) (k:∀ σ H Q,t' σ H Q->t σ H Q):PA X e t':=fun p pins s σ H Q I q=>h p pins s σ H Q I (k σ H Q q)
theorem PS.imp {e:Stmt} {t t':TS} (h:PS X e t) (k:∀ D σ H,t' D σ H->t D σ H):PS X e t':=fun pins s σ H D I q=>h pins s σ H D I (k D σ H q)
theorem jZ.imp {e:List Stmt} {t t':TS} (h:jZ X e t) (k:∀ D σ H,t' D σ H->t D σ H):jZ X e t':=fun pins s σ H D I q=>h pins s σ H D I (k D σ H q)
theorem PG.imp {e:Expr} {t t':TG} (h:PG X e t) (k:∀ v σ H Q,t' v σ H Q->t v σ H Q):PG X e t':=fun pins s σ H v u Q I r q=>h pins s σ H v u Q I r (k v σ H Q q)
theorem c9.imp {f:Value->Value->Sem Value} {t t':R2} (h:c9 X f t) (k:∀ x y H Q,t' x y H Q->t x y H Q):c9 X f t':=fun pins s σ H x y v u Q I rx ry q=>h pins s σ H x y v u Q I rx ry (k x y H Q q)
theorem bt.imp {f:Value} {t t':List V->Hp->VK->Prop} (h:bt X f t) (k:∀ xs H Q,t' xs H Q->t xs H Q):bt X f t':=fun pins s σ H xs us Q I r q=>h pins s σ H xs us Q I r (k xs H Q q)
theorem uV.imp {t t':R2} (h:uV X t) (k:∀ x y H Q,t' x y H Q->t x y H Q):uV X t':=fun va sl pins s σ H x y v u Q I rx ry q e=>h va sl pins s σ H x y v u Q I rx ry (k x y H Q q) e
end
noncomputable def QZ:Val->Bool
 | .exc _=>true
 | .fn _ _=>true
 | _=>false
noncomputable def ae (i:Nat):ME:=fun μ st=>match μ[i]? with
 | some (some v)=>if QZ v=true then .bad else .ok v st
 | _=>.bad
theorem wO.un {W:Wo} {ρ:List Addr} {H:Hp} {u:Val} {v:V} (h:wO W ρ H u v) (n:¬ QZ u=true):Rl W.K ρ H u v:=by
 cases u with
 | exc c=>exact absurd rfl n
 | fn L u=>exact absurd rfl n
 | _=>exact h
noncomputable def mC (v:Val):ME:=fun _ st=>.ok v st
section
variable {X:Cx} {E:XK} {pos:Pos}
theorem af (i:Nat) {x:Str} (hN:X.N[i]?=some x:=by rfl) (hv:CZ X.env.scope x:=by first | exact Or.inl rfl | exact Or.inr (Or.inl rfl) | exact Or.inr (Or.inr rfl)) (hd:(x==("__debug__":Str))=false:=by decide)
  (nE:(x==("__classdict__":Str))=false:=by decide):PE X (.Name x pos) (tE X E (ae i)):=by
 refine PE.imp (qU hN hv hd nE) ?_
 rintro σ H Q ⟨μ,ρ,st,rs,sr,h⟩
 unfold ae at h
 split at h
 ·rename_i v e
  obtain ⟨w,e',r⟩:=rs.at_ i v e
  split at h
  ·exact h.elim
  ·rename_i n
   exact ⟨w,e',h ρ H w (Step.refl _ _) sr (r.un n)⟩
 ·exact h.elim
theorem wQ {e:Expr} {v:V} {c:Val} (h:PE X e (tC v)) (r:∀ ρ H,Rl X.K ρ H c v):PE X e (tE X E (mC c)):=by
 refine PE.imp h ?_
 rintro σ H Q ⟨μ,ρ,st,rs,sr,h⟩
 exact h ρ H v (Step.refl _ _) sr (r ρ H)
theorem ao {i j}:PE X (.Constant (.int i) j pos) (tE X E (mC (.int i))):=wQ Gx fun _ _=>Rl.mkInt i
theorem ke {b j}:PE X (.Constant (.bool b) j pos) (tE X E (mC (.bl b))):=wQ FA fun _ _=>Rl.DW b
theorem lg {j}:PE X (.Constant .none j pos) (tE X E (mC .bD)):=wQ Gy fun _ _=>Rl.tO
theorem HF {x j}:PE X (.Constant (.str x) j pos) (tE X E (mC (.str x))):=wQ Gz fun _ _=>Rl.mkStr x
end
noncomputable abbrev F2:=Val->Val->ah->Res Val
noncomputable def rM (W:Wo) (E:XK) (f:F2):R2:=fun x y H Q=>∃ ρ st u w,SR W.K ρ st H/\Rl W.K ρ H u x/\Rl W.K ρ H w y/\wR W E (Rl W.K) ρ H Q (f u w st)
noncomputable def ag (f:F2) (a b:ME):ME:=fun μ st=>(a μ st).bind fun x aV=>(b μ aV).bind fun y cJ=>f x y cJ
section
variable {X:Cx} {E:XK} {pos:Pos} {a b c:Expr} {ma mb mc:ME} {f g:F2}
theorem kf {σ:St} {H:Hp} {Q:VK} (h:tE X E (ag f ma mb) σ H Q):Jr (rM (wo X) E f) (tE X E ma) (tE X E mb) σ H Q:=by
 obtain ⟨μ,ρ,st,rs,sr,h⟩:=h
 refine go μ ρ st rs sr h fun u aV ρ1 H1 x e1 bW r1 h1=>?_
 refine go μ ρ1 aV (rs.mono e1) bW h1 fun w cJ ρ2 H2 y e2 pE r2 h2=>?_
 exact ⟨ρ2,cJ,u,w,pE,Rl.mono e2 _ _ r1,r2,h2⟩
theorem lh {op:Operator} (ho:c9 X (binaryOp op) (rM (wo X) E f)) (ha:PE X a (tE X E ma)) (hb:PE X b (tE X E mb)):PE X (.BinOp a op b pos) (tE X E (ag f ma mb)):=
 PE.imp (Kc ho ha hb) fun _ _ _ h=>kf h
theorem Av {op:CmpOp} (ho:c9 X (compareOp op) (rM (wo X) E f)) (ha:PE X a (tE X E ma)) (hb:PE X b (tE X E mb)) (hm:behindInMarks op b=false:=by first | exact zT _ | (with_unfolding_all rfl)):PE X (.Compare a [op] [b] pos) (tE X E (ag f ma mb)):=
 PE.imp (Dd ho ha hb hm) fun _ _ _ h=>kf h
noncomputable def bM (m:ME):MT:=fun μ st=>(m μ st).bind fun v ar=>match v with
 | .bl b=>.ok b ar
 | _=>.bad
theorem tP {m:ME} {σ:St} {H:Hp} {Q:Bool->Hp->Prop} (h:tT X E (bM m) σ H Q):tE X E m σ H fun x H'=>∃ k,x=.bl k/\Q k H':=by
 obtain ⟨μ,ρ,st,rs,sr,h⟩:=h
 refine go μ ρ st rs sr h fun u aV ρ1 H1 x e1 bW r1 h1=>?_
 cases u with
 | bl b=>exact ⟨b,r1.nT,h1 ρ1 H1 b (Step.refl _ _) bW rfl⟩
 | _=>exact h1.elim
theorem iR {op:CmpOp} (ho:c9 X (compareOp op) (rM (wo X) E f)) (ha:PE X a (tE X E ma)) (hb:PE X b (tE X E mb)) (hm:behindInMarks op b=false:=by first | exact zT _ | (with_unfolding_all rfl)):PT X (.Compare a [op] [b] pos) (tT X E (bM (ag f ma mb))):=
 PT.imp (De ho ha hb hm) fun σ H Q h=>by
  show Jr (rM (wo X) E f) (tE X E ma) (tE X E mb) σ H _
  exact kf (tP h)
theorem g_ {m:ME} (h:PE X a (tE X E m)) (he:∀ whole,isTrue a X.env whole=(do let v <- whole; standAt a.pos; holding [v] (truthy v)):=by intro _; rfl):PT X a (tT X E (bM m)):=
 PT.imp (GA h he) fun σ H Q h=>tP h
noncomputable def OW (f g:F2) (a b c:ME):ME:=fun μ st=>(a μ st).bind fun x aV=>(b μ aV).bind fun y cJ=>(f x y cJ).bind fun z jo=>match z with
 | .bl true=>(c μ jo).bind fun w mT=>g y w mT
 | .bl false=>.ok (.bl false) jo
 | _=>.bad
noncomputable def rF (a b:ME):ME:=fun μ st=>(a μ st).bind fun x aV=>match x with
 | .bl true=>b μ aV
 | .bl false=>.ok (.bl false) aV
 | _=>.bad
noncomputable def La (a:ME):ME:=fun μ st=>(a μ st).bind fun x aV=>match x with
 | .bl b=>.ok (.bl (!b)) aV
 | _=>.bad
noncomputable def kg (a b:MT):MT:=fun μ st=>(a μ st).bind fun x aV=>match x with
 | true=>b μ aV
 | false=>.ok false aV
noncomputable def fw (a b:MT):MT:=fun μ st=>(a μ st).bind fun x aV=>match x with
 | true=>.ok true aV
 | false=>b μ aV
noncomputable def cQ (a:MT):MT:=fun μ st=>(a μ st).bind fun x aV=>.ok (!x) aV
variable {rest:List Expr} {tA C0:MT}
theorem rG {op} {m:ME} (h:PE X a (tE X E m)):PE X (.BoolOp op [a] pos) (tE X E m):=GF h
theorem rH (ha:PE X a (tE X E ma)) (hb:PE X (.BoolOp .And (b::rest) pos) (tE X E mb)):PE X (.BoolOp .And (a::b::rest) pos) (tE X E (rF ma mb)):=by
 refine PE.imp (GG ha hb) ?_
 rintro σ H Q ⟨μ,ρ,st,rs,sr,h⟩
 refine go μ ρ st rs sr h fun u aV ρ1 H1 x e1 bW r1 h1=>?_
 cases u with
 | bl k=>
  refine ⟨k,r1.nT,?_⟩
  cases k with
  | true=>rw [if_pos rfl]; exact ⟨μ,ρ1,aV,rs.mono e1,bW,h1⟩
  | false=>rw [if_neg Bool.false_ne_true]; exact h1 ρ1 H1 _ (Step.refl _ _) bW (Rl.DW false)
 | _=>exact h1.elim
theorem HG (ha:PE X a (tE X E ma)):PE X (.UnaryOp .Not a pos) (tE X E (La ma)):=by
 refine PE.imp (GH ha) ?_
 rintro σ H Q ⟨μ,ρ,st,rs,sr,h⟩
 refine go μ ρ st rs sr h fun u aV ρ1 H1 x e1 bW r1 h1=>?_
 cases u with
 | bl k=>exact ⟨k,r1.nT,h1 ρ1 H1 _ (Step.refl _ _) bW (Rl.DW _)⟩
 | _=>exact h1.elim
theorem wU (ha:PT X a (tT X E tA)):PW X (.BoolOp .And [a] pos) (tT X E tA):=C1 ha
theorem jG (ha:PT X a (tT X E tA)):PW X (.BoolOp .Or [a] pos) (tT X E tA):=GB ha
theorem Aw (ha:PT X a (tT X E tA)) (hb:PW X (.BoolOp .And (b::rest) pos) (tT X E C0)):PW X (.BoolOp .And (a::b::rest) pos) (tT X E (kg tA C0)):=by
 refine PW.imp (GC ha hb) ?_
 rintro σ H Q ⟨μ,ρ,st,rs,sr,h⟩
 refine go (R1:=RB) μ ρ st rs sr h fun u aV ρ1 H1 x e1 bW r1 h1=>?_
 cases r1
 cases u with
 | true=>rw [if_pos rfl]; exact ⟨μ,ρ1,aV,rs.mono e1,bW,h1⟩
 | false=>rw [if_neg Bool.false_ne_true]; exact h1 ρ1 H1 _ (Step.refl _ _) bW rfl
theorem iS (ha:PT X a (tT X E tA)) (hb:PW X (.BoolOp .Or (b::rest) pos) (tT X E C0)):PW X (.BoolOp .Or (a::b::rest) pos) (tT X E (fw tA C0)):=by
 refine PW.imp (JY ha hb) ?_
 rintro σ H Q ⟨μ,ρ,st,rs,sr,h⟩
 refine go (R1:=RB) μ ρ st rs sr h fun u aV ρ1 H1 x e1 bW r1 h1=>?_
 cases r1
 cases u with
 | true=>rw [if_pos rfl]; exact h1 ρ1 H1 _ (Step.refl _ _) bW rfl
 | false=>rw [if_neg Bool.false_ne_true]; exact ⟨μ,ρ1,aV,rs.mono e1,bW,h1⟩
theorem rK {e:Expr} {t:MT} (h:PW X e (tT X E t)):PT X e (tT X E t):=h.pt
theorem hG (ha:PT X a (tT X E tA)):PT X (.UnaryOp .Not a pos) (tT X E (cQ tA)):=by
 refine PT.imp (GD ha) ?_
 rintro σ H Q ⟨μ,ρ,st,rs,sr,h⟩
 refine go (R1:=RB) μ ρ st rs sr h fun u aV ρ1 H1 x e1 bW r1 h1=>?_
 cases r1
 exact h1 ρ1 H1 _ (Step.refl _ _) bW rfl
end
noncomputable def aj:MA:=fun _ st=>.ok [] st
noncomputable def aa (a:ME) (r:MA):MA:=fun μ st=>(a μ st).bind fun x aV=>(r μ aV).bind fun xs cJ=>.ok (x::xs) cJ
noncomputable def d8 (a:MA):ME:=fun μ st=>(a μ st).bind fun xs aV=>if xs.length<=sizeLine then .ok (.tup xs) aV else .bad
noncomputable def bb (a:MA):ME:=fun μ st=>(a μ st).bind fun xs aV=>if xs.length<=sizeLine then .ok (.loc aV.length) (aV++[.lst xs]) else .bad
noncomputable abbrev FN:=List Val->ah->Res Val
noncomputable def ak (f:FN) (a:MA):ME:=fun μ st=>(a μ st).bind fun xs aV=>f xs aV
noncomputable def HH (W:Wo) (f:FN):Sp:=fun vs H Q E=>∃ us ρ st,aS W.K ρ H us vs/\SR W.K ρ st H/\wR W E (Rl W.K) ρ H Q (f us st)
noncomputable def cM (W:Wo) (E:XK) (f:FN):List V->Hp->VK->Prop:=fun xs H Q=>∃ ρ st us,SR W.K ρ st H/\aS W.K ρ H us xs/\wR W E (Rl W.K) ρ H Q (f us st)
section
variable {X:Cx} {E:XK} {pos p:Pos} {e:Expr} {es:List Expr} {m:ME} {ms:MA} {f:FN} {x:Str}
theorem aq:PA X [] (tL X E aj):=PA.imp kY fun σ H Q ⟨μ,ρ,st,rs,sr,h⟩=>h ρ H [] (Step.refl _ _) sr aS.nil
theorem ai (ha:PE X e (tE X E m)) (hr:PA X es (tL X E ms)) (hs:starEach (e::es) X.env=(false,eval e X.env)::starEach es X.env:=by rfl):PA X (e::es) (tL X E (aa m ms)):=by
 refine PA.imp (fE ha hr hs) ?_
 rintro σ H Q ⟨μ,ρ,st,rs,sr,h⟩
 refine go μ ρ st rs sr h fun u aV ρ1 H1 x e1 bW r1 h1=>?_
 refine go (R1:=aS X.K) μ ρ1 aV (rs.mono e1) bW h1 fun w cJ ρ2 H2 y e2 pE r2 h2=>?_
 exact h2 ρ2 H2 _ (Step.refl _ _) pE (aS.cons (Rl.mono e2 _ _ r1) r2)
theorem iT {k} (h:PA X es (tL X E ms)):PE X (.Tuple es k pos) (tE X E (d8 ms)):=by
 refine PE.imp (G0 h) ?_
 rintro σ H Q ⟨μ,ρ,st,rs,sr,h⟩
 refine go (R1:=aS X.K) μ ρ st rs sr h fun us aV ρ1 H1 xs e1 bW r1 h1=>?_
 by_cases hz:us.length<=sizeLine
 ·rw [if_pos hz] at h1
  refine ⟨by rw [<-r1.length]; exact hz,fun p hp=>?_⟩
  have s:=c_ (o:=.tup xs) hp
  exact h1 ρ1 _ _ (Step.same s) (bW.grow s) (Rl.nU bU (aS.mono (Step.same s) _ _ r1))
 ·rw [if_neg hz] at h1; exact h1.elim
theorem gg {K:PySem.W.Frag} {ρ:List Addr} {st:ah} {H:Hp} {us:List Val} {xs:List V} (sr:SR K ρ st H) (r:aS K ρ H us xs) {p:Addr} (hp:H p=none) :
  Step ρ H (ρ++[p]) (upd H p (.lst xs))/\SR K (ρ++[p]) (st++[.lst us]) (upd H p (.lst xs))/\Rl K (ρ++[p]) (upd H p (.lst xs)) (.loc st.length) (.ref p):=by
 have s:=c_ (o:=.lst xs) hp
 refine ⟨Step.snoc p s,sr.alloc hp ⟨xs,bU,aS.mono (Step.snoc p s) _ _ r⟩,Rl.Au ?_⟩
 rw [<-sr.len,List.getElem?_append_right (Nat.le_refl _),Nat.sub_self]
 rfl
theorem cm (h:PA X es (tL X E ms)):PE X (.List es pos) (tE X E (bb ms)):=by
 refine PE.imp (G1 h) ?_
 rintro σ H Q ⟨μ,ρ,st,rs,sr,h⟩
 refine go (R1:=aS X.K) μ ρ st rs sr h fun us aV ρ1 H1 xs e1 bW r1 h1=>?_
 by_cases hz:us.length<=sizeLine
 ·rw [if_pos hz] at h1
  refine ⟨by rw [<-r1.length]; exact hz,fun p hp=>?_⟩
  obtain ⟨a,b,c⟩:=gg bW r1 hp
  exact h1 _ _ _ a b c
 ·rw [if_neg hz] at h1; exact h1.elim
theorem DX {k:Nat} {fa:Addr} {fd:FuncData} {ps:List Str} {CX:uU} (F:iO X.prog X.w X.K X.mg X.base CX k fa fd ps (HH ⟨X.K,X.mg,[]⟩ f)) (hr:eM k X.A) (hg:Gl X x) (hm:X.mg x=some (.ref fa)) (hk:PySem.W.keepIn X.K (.ref fa)=true)
  (hb:Binds X.K fd ps []) (hx:Passes CX X E) (ha:PA X (e::es) (tL X E ms)) (j7:(x==("__debug__":Str))=false:=by decide)
  (he:starEach (e::es) X.env=(false,eval e X.env)::starEach es X.env:=by rfl) (iF:(backTo pos (starEach es X.env)).any (·.1)=false:=by rfl) :
  PE X (.Call (.Name x p) (e::es) [] pos) (tE X E (ak f ms)):=by
 refine PE.imp (Dh F hr hg hm hk hb .nil hx ha j7 he iF) ?_
 rintro σ H Q ⟨μ,ρ,st,rs,sr,h⟩
 refine go (R1:=aS X.K) μ ρ st rs sr h fun us aV ρ1 H1 xs e1 bW r1 h1=>?_
 rw [List.append_nil]
 exact ⟨us,ρ1,aV,r1,bW,wR.pn h1⟩
theorem dc {id:String} (hc:bt X (.builtin id) (cM (wo X) E f)) (hg:Gl X x) (hm:X.mg x=none) (hv:bootBuiltins x=some (.builtin id)) (ha:PA X (e::es) (tL X E ms)) (hn:x ≠ "__name__":=by decide) (j7:(x==("__debug__":Str))=false:=by decide)
  (he:starEach (e::es) X.env=(false,eval e X.env)::starEach es X.env:=by rfl) (iF:(backTo pos (starEach es X.env)).any (·.1)=false:=by rfl):PE X (.Call (.Name x p) (e::es) [] pos) (tE X E (ak f ms)):=by
 refine PE.imp (j8 hc hg hm hv ha hn j7 he iF) ?_
 rintro σ H Q ⟨μ,ρ,st,rs,sr,h⟩
 exact go (R1:=aS X.K) μ ρ st rs sr h fun us aV ρ1 H1 xs e1 bW r1 h1=>⟨ρ1,aV,us,bW,r1,h1⟩
theorem dq {T:String} (hc:bt X (.type T) (cM (wo X) E f)) (hg:Gl X x) (hm:X.mg x=none) (hv:bootBuiltins x=some (.type T)) (ha:PA X (e::es) (tL X E ms)) (hn:x ≠ "__name__":=by decide) (j7:(x==("__debug__":Str))=false:=by decide)
  (he:starEach (e::es) X.env=(false,eval e X.env)::starEach es X.env:=by rfl) (iF:(backTo pos (starEach es X.env)).any (·.1)=false:=by rfl):PE X (.Call (.Name x p) (e::es) [] pos) (tE X E (ak f ms)):=by
 refine PE.imp (yd hc hg hm hv ha hn j7 he iF) ?_
 rintro σ H Q ⟨μ,ρ,st,rs,sr,h⟩
 exact go (R1:=aS X.K) μ ρ st rs sr h fun us aV ρ1 H1 xs e1 bW r1 h1=>⟨ρ1,aV,us,bW,r1,h1⟩
end
section
variable {X:Cx} {E:XK} {pos:Pos} {a b:Expr} {ma mb:ME} {f:F2}
theorem Lb (hr:uV X (rM (wo X) E f)) (ha:PE X a (tE X E ma)) (hb:PE X b (tE X E mb)) (hs:q_ b:=by exact fun _ _=>rfl):PE X (.Subscript a b pos) (tE X E (ag f ma mb)):=
 PE.imp (Ku hr ha hb hs) fun _ _ _ h=>kf h
end
noncomputable def wS (W:Wo) (E:XK) (ρ:List Addr) (H:Hp) (D:Ends):dm->Prop
 | .nx μ st=>∀ ρ' H' σ',Step ρ H ρ' H'->SR W.K ρ' st H'->RS W ρ' H' μ σ'->D.nx σ' H'
 | .rt v st=>∀ ρ' H' x,Step ρ H ρ' H'->SR W.K ρ' st H'->Rl W.K ρ' H' v x->D.rt x H'
 | .bk μ st=>∀ ρ' H' σ',Step ρ H ρ' H'->SR W.K ρ' st H'->RS W ρ' H' μ σ'->D.bk σ' H'
 | .ct μ st=>∀ ρ' H' σ',Step ρ H ρ' H'->SR W.K ρ' st H'->RS W ρ' H' μ σ'->D.ct σ' H'
 | .er c _ st=>∃ C,W.mg c=some (.ref C)/\∀ ρ' H',Step ρ H ρ' H'->SR W.K ρ' st H'->E (.ref C) none H'
 | .bad=>False
theorem wS.mono {W:Wo} {E:XK} {ρ ρ':List Addr} {H H':Hp} {D:Ends} {r:dm} (h:wS W E ρ H D r) (e:Step ρ H ρ' H'):wS W E ρ' H' D r:=by
 cases r with
 | nx μ st=>exact fun ρ2 H2 σ2 e2 s r=>h ρ2 H2 σ2 (e.trans e2) s r
 | rt v st=>exact fun ρ2 H2 x e2 s r=>h ρ2 H2 x (e.trans e2) s r
 | bk μ st=>exact fun ρ2 H2 σ2 e2 s r=>h ρ2 H2 σ2 (e.trans e2) s r
 | ct μ st=>exact fun ρ2 H2 σ2 e2 s r=>h ρ2 H2 σ2 (e.trans e2) s r
 | er c μ st=>obtain ⟨C,h1,h2⟩:=h; exact ⟨C,h1,fun ρ2 H2 e2 s=>h2 ρ2 H2 (e.trans e2) s⟩
 | bad=>exact h
noncomputable def tS (X:Cx) (E:XK) (m:MB):TS:=fun D σ H=>∃ μ ρ st,RS (wo X) ρ H μ σ/\SR X.K ρ st H/\wS (wo X) E ρ H D (m μ st)
@[reducible] def Res.sb {α:Type} (r:Res α) (μ:Env) (k:α->ah->dm):dm:=match r with
 | .ok a st=>k a st
 | .err c st=>.er c μ st
 | .bad=>.bad
theorem DY {α β:Type} {W:Wo} {E:XK} {R1:List Addr->Hp->α->β->Prop} {m:Env->ah->Res α} {k:α->ah->dm} {σ:St} {H:Hp} {D:Ends} {Q':β->Hp->Prop}
  (μ:Env) (ρ:List Addr) (st:ah) (rs:RS W ρ H μ σ) (sr:SR W.K ρ st H) (h:wS W E ρ H D ((m μ st).sb μ k))
  (c:∀ u aV ρ1 H1 x,Step ρ H ρ1 H1->SR W.K ρ1 aV H1->R1 ρ1 H1 u x->wS W E ρ1 H1 D (k u aV)->Q' x H1):tG W E R1 m σ H Q':=by
 refine ⟨μ,ρ,st,rs,sr,?_⟩
 cases e:m μ st with
 | ok u aV=>
  rw [e] at h
  intro ρ1 H1 x e1 bW r1
  exact c u aV ρ1 H1 x e1 bW r1 (wS.mono h e1)
 | err c aV=>rw [e] at h; exact h
 | bad=>rw [e] at h; exact h
noncomputable def bh:MB:=fun μ st=>.nx μ st
noncomputable def aI (a b:MB):MB:=fun μ st=>match a μ st with
 | .nx μ' ar=>b μ' ar
 | r=>r
noncomputable def cR (m:ME):MB:=fun μ st=>(m μ st).sb μ fun _ ar=>.nx μ ar
noncomputable def aR (m:ME):MB:=fun μ st=>(m μ st).sb μ fun v ar=>.rt v ar
noncomputable def fL (t:MT) (a b:MB):MB:=fun μ st=>(t μ st).sb μ fun k ar=>match k with
 | true=>a μ ar
 | false=>b μ ar
noncomputable def aL (i:Nat) (m:ME):MB:=fun μ st=>(m μ st).sb μ fun v ar=>.nx (μ.set i (some v)) ar
noncomputable def jH (c:Str) (m:MA):MB:=fun μ st=>(m μ st).sb μ fun vs ar=>if vs.length<=sizeLine then .er c μ ar else .bad
section
variable {X:Cx} {E:XK} {pos:Pos} {s1:Stmt} {rest:List Stmt} {e:Expr} {m:ME} {a b:MB}
theorem cA:jZ X [] (tS X E bh):=jZ.imp C2 fun D σ H ⟨μ,ρ,st,rs,sr,h⟩=>h ρ H σ (Step.refl _ _) sr rs
theorem ax (h1:PS X s1 (tS X E a)) (h2:jZ X rest (tS X E b)):jZ X (s1::rest) (tS X E (aI a b)):=by
 refine jZ.imp (zJ h1 h2) ?_
 rintro D σ H ⟨μ,ρ,st,rs,sr,h⟩
 refine ⟨μ,ρ,st,rs,sr,?_⟩
 unfold aI at h
 cases e:a μ st with
 | nx μ' ar=>
  rw [e] at h
  intro ρ1 H1 σ1 e1 bW Jz
  exact ⟨μ',ρ1,ar,Jz,bW,wS.mono h e1⟩
 | rt v ar=>rw [e] at h; exact h
 | bk μ' ar=>rw [e] at h; exact h
 | ct μ' ar=>rw [e] at h; exact h
 | er c μ' ar=>rw [e] at h; exact h
 | bad=>rw [e] at h; exact h
theorem aJ (h1:PS X s1 (tS X E a)):jZ X [s1] (tS X E a):=C3 h1
theorem gi (he:PE X e (tE X E m)) (hs:swapsWith e none pos.line X.env=pure false:=by rfl):PS X (.Expr e pos) (tS X E (cR m)):=by
 refine PS.imp (C4 he hs) ?_
 rintro D σ H ⟨μ,ρ,st,rs,sr,h⟩
 exact DY μ ρ st rs sr h fun u aV ρ1 H1 x e1 bW r1 h1=>h1 ρ1 H1 σ (Step.refl _ _) bW (rs.mono e1)
theorem bj (he:PE X e (tE X E m)):PS X (.Return (some e) pos) (tS X E (aR m)):=by
 refine PS.imp (GI he) ?_
 rintro D σ H ⟨μ,ρ,st,rs,sr,h⟩
 exact DY μ ρ st rs sr h fun u aV ρ1 H1 x e1 bW r1 h1=>h1 ρ1 H1 x (Step.refl _ _) bW r1
theorem dE {c:Expr} {sa sb:List Stmt} {t:MT} (hc:PT X c (tT X E t)) (ha:jZ X sa (tS X E a)) (hb:jZ X sb (tS X E b)):PS X (.If c sa sb pos) (tS X E (fL t a b)):=by
 refine PS.imp (J3 hc ha hb) ?_
 rintro D σ H ⟨μ,ρ,st,rs,sr,h⟩
 refine DY (R1:=RB) μ ρ st rs sr h fun u aV ρ1 H1 x e1 bW r1 h1=>?_
 cases r1
 cases u with
 | true=>rw [if_pos rfl]; exact ⟨μ,ρ1,aV,rs.mono e1,bW,h1⟩
 | false=>rw [if_neg Bool.false_ne_true]; exact ⟨μ,ρ1,aV,rs.mono e1,bW,h1⟩
theorem Ax {i:Nat} {D:Ends} {σ:St} {H:Hp} (h:tS X E (aL i m) D σ H):J5 (tE X E m) (zK i) D σ H:=by
 obtain ⟨μ,ρ,st,rs,sr,h⟩:=h
 exact DY μ ρ st rs sr h fun u aV ρ1 H1 x e1 bW r1 h1=>h1 ρ1 H1 _ (Step.refl _ _) bW ((rs.mono e1).set i r1)
theorem rL (i:Nat) {x:Str} {pos':Pos} (hN:X.N.Nodup) (he:PE X e (tE X E m)) (hi:X.N[i]?=some x:=by rfl) (hx:Loc X.env.scope x:=by first | exact Or.inl rfl | exact Or.inr rfl) (hs:swapsWith e (some (.Name x pos')) pos.line X.env=pure false:=by rfl)
  (hf:X.fn x=true\/X.env.scope.names.lookup x=some .local:=by first | exact .inl rfl | exact .inr rfl | assumption):PS X (.Assign [.Name x pos'] e pos) (tS X E (aL i m)):=
 PS.imp (GK hN hi hx he hs hf) fun _ _ _ h=>Ax h
theorem Ay {x:Str} {C:Addr} {B newId vk:String} {bm:List Value} {np a7:Pos} {e₀:Expr} {es:List Expr} {ms:MA} (hX:Raises X E) (hc:X.calm=true) (hm:X.mg x=some (.ref C)) (hq:PySem.W.excIn X.K C bm newId=true) (FB:ExcBaseFacts B newId vk bm) (hg:Gl X x) (ha:PA X (e₀::es) (tL X E ms))
  (he:starEach (e₀::es) X.env=(false,eval e₀ X.env)::starEach es X.env:=by rfl) (iF:(backTo a7 (starEach es X.env)).any (·.1)=false:=by rfl) (hd:(x==("__debug__":Str))=false:=by decide) :
  PS X (.Raise (some (.Call (.Name x np) (e₀::es) [] a7)) none pos) (tS X E (jH x ms)):=by
 refine PS.imp (Ap (E:=E) hX hc hm hq FB hg ha he iF hd) ?_
 rintro D σ H ⟨μ,ρ,st,rs,sr,h⟩
 refine DY (R1:=aS X.K) μ ρ st rs sr h fun us aV ρ1 H1 xs e1 bW r1 h1=>?_
 by_cases hz:us.length<=sizeLine
 ·rw [if_pos hz] at h1
  obtain ⟨C',q1,q2⟩:=h1
  have e:C'=C:=by
   have:=q1.symm.trans hm
   injection this with this
   injection this
  subst e
  exact ⟨by rw [<-r1.length]; exact hz,q2 ρ1 H1 (Step.refl _ _) bW⟩
 ·rw [if_neg hz] at h1; exact h1.elim
end
noncomputable def mU (np n:Nat) (body:MB):FN:=fun us st=>if us.length=np then (match body (us.map some++List.replicate (n-np) none) st with
 | .nx _ ar=>.ok .bD ar
 | .rt v ar=>.ok v ar
 | .er c _ ar=>.err c ar
 | _=>.bad) else .bad
theorem RS.start {W:Wo} {ρ:List Addr} {H:Hp} {N:List Str} {us:List Val} {vs:List V} (r:aS W.K ρ H us vs):RS W ρ H (us.map some++List.replicate (N.length-us.length) none) (L2.start N vs):=by
 have hl:=r.length
 refine ⟨by simp [L2.start,hl],fun i u e=>?_⟩
 rcases Nat.lt_or_ge i us.length with q | q
 ·rw [List.getElem?_append_left (by rw [List.length_map]; exact q),List.getElem?_map] at e
  have e':us[i]?=some u:=by
   cases z:us[i]? with
   | none=>rw [z] at e; cases e
   | some w=>rw [z] at e; exact congrArg _ (Option.some.inj (Option.some.inj e))
  obtain ⟨v,h1,h2⟩:=r.get e'
  refine ⟨v,?_,wO.of h2⟩
  unfold L2.start
  rw [List.getElem?_append_left (by rw [List.length_map,<-hl]; exact q),List.getElem?_map,h1]
  rfl
 ·rw [List.getElem?_append_right (by rw [List.length_map]; exact q)] at e
  rw [List.getElem?_replicate] at e
  split at e
  ·cases e
  ·cases e
section
variable {P:Program} {w:World} {K:PySem.W.Frag} {mg:Str->Option Value} {base:Heap}
theorem Az {x qual:Str} {st:Stmt} {f:Addr} {fd:FuncData} {N ps:List Str} {k:Nat} {body:MB} (F:j_ K x qual st f fd) (S:bg N ps (aC st))
  (h:∀ (cU:Value) (A:Around) (outer:List PySem.Env) (s:Shared) (H:Hp) (E:XK),eM k (A.deeper (envOfC qual (aC st) s.heap.objs.size f cU)) ->
   jZ (gU (k_ P w) P w K mg base N qual (aC st) f cU A outer s H E) (dj st) (tS (gU (k_ P w) P w K mg base N qual (aC st) f cU A outer s H E) E body)) :
  iO P w K mg base (k_ P w) (k+1) f fd ps (HH ⟨K,mg,[]⟩ (mU ps.length N.length body)):=by
 refine F.R4 S (fun vs H Q E q=>?_) (fun cU A outer s H vs Q E hr q=>⟨_,h cU A outer s H E hr,?_⟩)
 ·obtain ⟨us,ρ,st,r,sr,q⟩:=q
  by_cases hl:us.length=ps.length
  ·rw [<-r.length]; exact hl
  ·unfold mU at q; rw [if_neg hl] at q; exact q.elim
 ·obtain ⟨us,ρ,ar,r,sr,q⟩:=q
  unfold mU at q
  by_cases hl:us.length=ps.length
  ·rw [if_pos hl,<-hl] at q
   refine ⟨_,ρ,ar,RS.start r,sr,?_⟩
   revert q
   cases body (us.map some++List.replicate (N.length-us.length) none) ar with
   | nx μ cJ=>exact fun q ρ' H' σ' e s _=>q ρ' H' .bD e s Rl.tO
   | rt v cJ=>exact fun q=>q
   | er c μ cJ=>exact fun q=>q
   | bk μ cJ=>exact fun q=>q.elim
   | ct μ cJ=>exact fun q=>q.elim
   | bad=>exact fun q=>q.elim
  ·rw [if_neg hl] at q; exact q.elim
end
noncomputable def Sz (i:Int):Prop:=i.natAbs.log2<1000000
noncomputable instance (i:Int):Decidable (Sz i):=inferInstanceAs (Decidable (_<_))
theorem Sz.big {i:Int} (h:Sz i):f_ 1000001 i:=by
 show _<_
 have h1:i.natAbs<2 ^ (i.natAbs.log2+1):=Nat.lt_log2_self
 exact Nat.lt_of_lt_of_le h1 (Nat.pow_le_pow_right (by decide) (by have:i.natAbs.log2<1000000:=h; lia))
theorem Sz.of {k:Nat} {i:Int} (h:f_ k i) (hk:k<=1000000):Sz i:=by
 show i.natAbs.log2<1000000
 have h':i.natAbs<2 ^ k:=h
 by_cases z:i.natAbs=0
 ·rw [z]; decide
 ·exact Nat.lt_of_lt_of_le ((Nat.log2_lt z).mpr h') hk
theorem Sz.mul {i j:Int} (h:Sz i) (k:Sz j):wL i j:=⟨_,_,h.big,k.big,by decide,by decide⟩
noncomputable def Dz (i:Int):Prop:=i≠0/\i.natAbs.log2<8000
noncomputable instance (i:Int):Decidable (Dz i):=inferInstanceAs (Decidable (_/\_))
theorem Dz.ok {i j:Int} (h:Dz j):wM i j:=by
 refine ⟨h.1,?_⟩
 show _<_
 have h1:j.natAbs<2 ^ (j.natAbs.log2+1):=Nat.lt_log2_self
 exact Nat.lt_of_lt_of_le h1 (Nat.pow_le_pow_right (by decide) (by have:=h.2; lia))
theorem Dz.of {k:Nat} {i:Int} (h0:i≠0) (h:f_ k i) (hk:k<=8000):Dz i:=by
 refine ⟨h0,?_⟩
 have h':i.natAbs<2 ^ k:=h
 exact Nat.lt_of_lt_of_le ((Nat.log2_lt (by lia)).mpr h') hk
noncomputable def MulOk (i j:Int):Prop:=(Sz i/\Sz j)\/zR i j
noncomputable instance (i j:Int):Decidable (zR i j):=inferInstanceAs (Decidable (_\/_))
noncomputable instance (i j:Int):Decidable (MulOk i j):=inferInstanceAs (Decidable (_\/_))
noncomputable instance (i j:Int):Decidable (zP i j):=inferInstanceAs (Decidable (_/\_/\_))
noncomputable def qb (k:Nat) (us:List Val):List Val:=(List.replicate k us).flatten
noncomputable def cb:F2
 | .int i,.int j,st=>.ok (.int (i+j)) st
 | .str a,.str b,st=>if a.length+b.length<=sizeLine then .ok (.str (a++b)) st else .bad
 | .tup us,.tup ws,st=>if us.length+ws.length<=sizeLine then .ok (.tup (us++ws)) st else .bad
 | .loc n,.loc m,st=>match st[n]?,st[m]? with
  | some (.lst us),some (.lst ws)=>if us.length+ws.length<=sizeLine then .ok (.loc st.length) (st++[.lst (us++ws)]) else .bad
  | _,_=>.bad
 | _,_,_=>.bad
noncomputable def rN (g:Int->Int->ah->Res Val):F2
 | .int i,.int j,st=>g i j st
 | _,_,_=>.bad
theorem DZ (g:Int->Int->ah->Res Val) (u w:Val) (st:ah):(∃ i j,u=.int i/\w=.int j)\/rN g u w st=.bad:=by
 cases u with
 | int i=>
  cases w with
  | int j=>exact .inl ⟨i,j,rfl,rfl⟩
  | _=>exact .inr rfl
 | _=>exact .inr rfl
theorem hJ {g:Int->Int->ah->Res Val} {W:Wo} {E:XK} {ρ:List Addr} {st:ah} {H:Hp} {Q:VK} {u w:Val} (h:wR W E (Rl W.K) ρ H Q (rN g u w st)):∃ i j,u=.int i/\w=.int j/\wR W E (Rl W.K) ρ H Q (g i j st):=by
 rcases DZ g u w st with ⟨i,j,rfl,rfl⟩ | z
 ·exact ⟨i,j,rfl,rfl,h⟩
 ·rw [z] at h; exact h.elim
noncomputable def mV:F2:=rN fun i j st=>.ok (.int (i-j)) st
noncomputable def cw:F2
 | .int i,.int j,st=>if MulOk i j then .ok (.int (i*j)) st else .bad
 | .loc n,.int k,st=>match st[n]? with
  | some (.lst us)=>if -(2 ^ 63)<=k/\k<2 ^ 63/\us.length*k.toNat<=sizeLine then .ok (.loc st.length) (st++[.lst (qb k.toNat us)]) else .bad
  | _=>.bad
 | _,_,_=>.bad
noncomputable def cL:F2:=rN fun i j st=>if Dz j then .ok (.int (i.fdiv j)) st else .bad
noncomputable def bR:F2:=rN fun i j st=>if j=0 then .bad else .ok (.int (i.fmod j)) st
noncomputable def AA:F2:=rN fun i j st=>if zP i j then .ok (.int (i ^ j.toNat)) st else .bad
noncomputable def ltV:F2:=rN fun i j st=>.ok (.bl (decide (i<j))) st
noncomputable def M9:F2:=rN fun i j st=>.ok (.bl (decide (i<=j))) st
noncomputable def M_:F2:=rN fun i j st=>.ok (.bl (decide (j<i))) st
section
variable {X:Cx} {E:XK}
theorem du {W:Wo} {ρ:List Addr} {st:ah} {H:Hp} {Q:VK} {i:Int} (sr:SR W.K ρ st H) (h:wR W E (Rl W.K) ρ H Q (.ok (.int i) st)):Q (.int i) H:=h ρ H _ (Step.refl _ _) sr (Rl.mkInt i)
theorem cN {W:Wo} {ρ:List Addr} {st:ah} {H:Hp} {Q:VK} {i:Bool} (sr:SR W.K ρ st H) (h:wR W E (Rl W.K) ρ H Q (.ok (.bl i) st)):Q (.bl i) H:=h ρ H _ (Step.refl _ _) sr (Rl.DW i)
theorem aS.Lc {K:PySem.W.Frag} {ρ:List Addr} {H:Hp} {us:List Val} {xs:List V} (r:aS K ρ H us xs):∀ k:Nat,aS K ρ H (qb k us) (List.replicate k xs).flatten
 | 0=>aS.nil
 | k+1=>by
  unfold qb
  rw [List.replicate_succ,List.replicate_succ,List.flatten_cons,List.flatten_cons]
  exact r.append (aS.Lc r k)
theorem AB:c9 X (binaryOp .Add) (fun x y H Q=>∃ a b ys,x=.ref a/\y=.ref b/\ju X.K H a []/\ju X.K H b ys/\Q (.ref b) H):=by
 intro pins s σ H x y v u Q I rx ry h
 obtain ⟨a,b,ys,rfl,rfl,ha,hb,q⟩:=h
 cases rx
 cases ry
 obtain ⟨aD,r1,p1,_⟩:=I.tuple ha
 obtain ⟨cY,r2,p2,_⟩:=I.tuple hb
 cases r1
 obtain ⟨⟨cls,dd,data,sl⟩,ho,hc,n,hd⟩:=id p1
 obtain ⟨⟨Od,MQ,data2,Kq⟩,ti,wH,n2,hd2⟩:=id p2
 simp only at hc hd wH hd2
 subst hc hd wH hd2
 exact concat_meets ⟨_,ho,rfl⟩ ⟨_,ti,rfl⟩ noFill_tuple_add seq_tuple_add PySem.F.slot_tuple_add PySem.F.entry_tuple_add (PySem.F.args_tuple_add_2 _ _)
  (tuple_addW0 a b #[] cY.toArray n n2 dd MQ sl Kq (by simp)) ⟨ho,ti,⟨.ref b,H,I,rfl,q⟩⟩
theorem D0:c9 X (binaryOp .Add) (rM (wo X) E cb):=by
 refine c9.imp (c9.or GR (c9.or u9 (c9.or Hf (c9.or Dq AB)))) ?_
 rintro x y H Q ⟨ρ,st,u,w,sr,r1,r2,h⟩
 cases u <;> cases w <;> try exact h.elim
 case int.int i j=>exact .inl ⟨i,j,r1.cj,r2.cj,du sr h⟩
 case str.str a b=>
  unfold cb at h
  dsimp only at h
  split at h
  ·rename_i hz
   exact .inr (.inl ⟨a,b,r1.gZ,r2.gZ,hz,h ρ H _ (Step.refl _ _) sr (Rl.mkStr _)⟩)
  ·exact h.elim
 case tup.tup us ws=>
  unfold cb at h
  dsimp only at h
  split at h
  ·rename_i hz
   obtain ⟨a,xs,rfl,ha,ra⟩:=r1.fe
   obtain ⟨b,ys,rfl,hb,rb⟩:=r2.fe
   by_cases hx:xs=[]
   ·subst hx
    have hu:us=[]:=List.eq_nil_of_length_eq_zero ra.length
    subst hu
    exact .inr (.inr (.inr (.inr ⟨a,b,ys,rfl,rfl,ha,hb,h ρ H _ (Step.refl _ _) sr r2⟩)))
   ·refine .inr (.inr (.inr (.inl ⟨a,b,xs,ys,rfl,rfl,ha,hb,hx,by rw [<-ra.length,<-rb.length]; exact hz,fun hy=>?_,fun hy p hp=>?_⟩)))
    ·subst hy
     have hw:ws=[]:=List.eq_nil_of_length_eq_zero rb.length
     subst hw
     rw [List.append_nil] at h
     exact h ρ H _ (Step.refl _ _) sr r1
    ·have s:=c_ (o:=.tup (xs++ys)) hp
     exact h ρ _ _ (Step.same s) (sr.grow s) (Rl.nU bU (aS.mono (Step.same s) _ _ (ra.append rb)))
  ·exact h.elim
 case loc.loc n m=>
  unfold cb at h
  dsimp only at h
  split at h
  ·rename_i us ws e1 e2
   split at h
   ·rename_i hz
    obtain ⟨a,rfl,ha⟩:=r1.cZ
    obtain ⟨b,rfl,hb⟩:=r2.cZ
    obtain ⟨xs,h1,q1⟩:=sr.cell n _ a e1 ha
    obtain ⟨ys,h2,q2⟩:=sr.cell m _ b e2 hb
    refine .inr (.inr (.inl ⟨a,b,xs,ys,rfl,rfl,h1,h2,by rw [<-q1.length,<-q2.length]; exact hz,fun p hp=>?_⟩))
    obtain ⟨k1,k2,k3⟩:=gg sr (q1.append q2) hp
    exact h _ _ _ k1 k2 k3
   ·exact h.elim
  ·exact h.elim
theorem D2:c9 X (binaryOp .Sub) (rM (wo X) E mV):=by
 refine c9.imp GS ?_
 rintro x y H Q ⟨ρ,st,u,w,sr,r1,r2,h⟩
 obtain ⟨i,j,rfl,rfl,q⟩:=hJ h
 exact ⟨i,j,r1.cj,r2.cj,du sr q⟩
theorem D3:c9 X (binaryOp .Mult) (rM (wo X) E cw):=by
 refine c9.imp (c9.or DE (c9.or GU Hg)) ?_
 rintro x y H Q ⟨ρ,st,u,w,sr,r1,r2,h⟩
 cases u <;> cases w <;> try exact h.elim
 case int.int i j=>
  unfold cw at h
  dsimp only at h
  split at h
  ·rename_i hz
   rcases hz with hz | hz
   ·exact .inl ⟨i,j,r1.cj,r2.cj,hz.1.mul hz.2,du sr h⟩
   ·exact .inr (.inl ⟨i,j,r1.cj,r2.cj,hz,du sr h⟩)
  ·exact h.elim
 case loc.int n k=>
  unfold cw at h
  dsimp only at h
  split at h
  ·rename_i us e1
   split at h
   ·rename_i hz
    obtain ⟨a,rfl,ha⟩:=r1.cZ
    obtain ⟨xs,h1,q1⟩:=sr.cell n _ a e1 ha
    refine .inr (.inr ⟨a,k,xs,rfl,r2.cj,h1,hz.1,hz.2.1,by rw [<-q1.length]; exact hz.2.2,fun p hp=>?_⟩)
    obtain ⟨k1,k2,k3⟩:=gg sr (q1.Lc k.toNat) hp
    exact h _ _ _ k1 k2 k3
   ·exact h.elim
  ·exact h.elim
theorem AD:c9 X (binaryOp .FloorDiv) (rM (wo X) E cL):=by
 refine c9.imp Ah ?_
 rintro x y H Q ⟨ρ,st,u,w,sr,r1,r2,h⟩
 obtain ⟨i,j,rfl,rfl,h0⟩:=hJ h
 clear h
 have h:=h0
 clear h0
 ·split at h
  ·rename_i hz
   exact ⟨i,j,r1.cj,r2.cj,hz.ok,du sr h⟩
  ·exact h.elim
theorem D4:c9 X (binaryOp .Mod) (rM (wo X) E bR):=by
 refine c9.imp C_ ?_
 rintro x y H Q ⟨ρ,st,u,w,sr,r1,r2,h⟩
 obtain ⟨i,j,rfl,rfl,h0⟩:=hJ h
 clear h
 have h:=h0
 clear h0
 ·split at h
  ·exact h.elim
  ·rename_i hz
   exact ⟨i,j,r1.cj,r2.cj,hz,du sr h⟩
theorem D5:c9 X (binaryOp .Pow) (rM (wo X) E AA):=by
 refine c9.imp GV ?_
 rintro x y H Q ⟨ρ,st,u,w,sr,r1,r2,h⟩
 obtain ⟨i,j,rfl,rfl,h0⟩:=hJ h
 clear h
 have h:=h0
 clear h0
 ·split at h
  ·rename_i hz
   exact ⟨i,j,r1.cj,r2.cj,hz,du sr h⟩
  ·exact h.elim
theorem HI:c9 X (compareOp .Lt) (rM (wo X) E ltV):=by
 refine c9.imp Kg ?_
 rintro x y H Q ⟨ρ,st,u,w,sr,r1,r2,h⟩
 obtain ⟨i,j,rfl,rfl,q⟩:=hJ h
 exact ⟨i,j,r1.cj,r2.cj,cN sr q⟩
theorem HJ:c9 X (compareOp .LtE) (rM (wo X) E M9):=by
 refine c9.imp Kh ?_
 rintro x y H Q ⟨ρ,st,u,w,sr,r1,r2,h⟩
 obtain ⟨i,j,rfl,rfl,q⟩:=hJ h
 exact ⟨i,j,r1.cj,r2.cj,cN sr q⟩
theorem HK:c9 X (compareOp .Gt) (rM (wo X) E M_):=by
 refine c9.imp Ki ?_
 rintro x y H Q ⟨ρ,st,u,w,sr,r1,r2,h⟩
 obtain ⟨i,j,rfl,rfl,q⟩:=hJ h
 exact ⟨i,j,r1.cj,r2.cj,cN sr q⟩
noncomputable def mW (m:ME):ME:=fun μ st=>(m μ st).bind fun v ar=>match v with
 | .int i=>.ok (.int (-i)) ar
 | _=>.bad
theorem vn {a:Expr} {m:ME} {pos:Pos} (h:PE X a (tE X E m)):PE X (.UnaryOp .USub a pos) (tE X E (mW m)):=by
 refine PE.imp (Kd GW h) ?_
 rintro σ H Q ⟨μ,ρ,st,rs,sr,h⟩
 refine go μ ρ st rs sr h fun u aV ρ1 H1 x e1 bW r1 h1=>?_
 cases u with
 | int i=>exact ⟨i,r1.cj,du bW h1⟩
 | _=>exact h1.elim
end
noncomputable def flat:Val->Bool
 | .bD=>true
 | .bl _=>true
 | .int _=>true
 | .str _=>true
 | _=>false
noncomputable def CL:Val->Val->Bool
 | .bD,.bD=>true
 | .bl a,.bl b=>a==b
 | .bl a,.int b=>(if a then 1 else 0)==b
 | .int a,.bl b=>a==(if b then 1 else 0)
 | .int a,.int b=>a==b
 | .str a,.str b=>a==b
 | _,_=>false
noncomputable def itemsOf (st:ah) (n:Nat):Option (List Val):=match st[n]? with
 | some (.lst us)=>some us
 | some (.HC us)=>some us
 | some (.mod us)=>some us
 | _=>none
inductive Vw where
 | lst (us:List Val) | tup (us:List Val) | nh
noncomputable def vw (st:ah):Val->Option Vw
 | .tup us=>some (.tup us)
 | .loc n=>(itemsOf st n).map .lst
 | .bD=>some .nh
 | .bl _=>some .nh
 | .int _=>some .nh
 | .str _=>some .nh
 | _=>none
noncomputable def jr (f:Val->Val->Option Bool):List Val->List Val->Option Bool
 | [],[]=>some true
 | x::xs,y::ys=>match f x y,jr f xs ys with
  | some a,some b=>some (a&&b)
  | _,_=>none
 | [],_::_=>some false
 | _::_,[]=>some false
noncomputable def j4:Nat->ah->Val->Val->Option Bool
 | 0,_,_,_=>none
 | n+1,st,u,w=>match vw st u,vw st w with
  | some (.tup us),some (.tup ws)=>jr (j4 n st) us ws
  | some (.lst us),some (.lst ws)=>jr (j4 n st) us ws
  | some .nh,some .nh=>some (CL u w)
  | some _,some _=>some false
  | _,_=>none
theorem nV {f:Val->Val->Option Bool}:∀ {us ws:List Val} {b:Bool},jr f us ws=some b->us.length≠ws.length->b=false
 | [],[],_,_,h=>absurd rfl h
 | [],_::_,b,e,_=>by injection e with e; exact e.symm
 | _::_,[],b,e,_=>by injection e with e; exact e.symm
 | x::xs,y::ys,b,e,h=>by
  unfold jr at e
  split at e
  ·rename_i a c h1 h2
   injection e with e
   rw [<-e,nV h2 (fun z=>h (by simp [z])),Bool.and_false]
  ·cases e
theorem wV {f:Val->Val->Option Bool}:∀ {us ws:List Val} {b:Bool},jr f us ws=some b->∀ (j:Nat) (u w:Val),us[j]?=some u->ws[j]?=some w->∃ c,f u w=some c
 | [],_,_,_,j,u,w,h1,_=>by cases h1
 | _::_,[],_,_,j,u,w,_,h2=>by cases h2
 | x::xs,y::ys,b,e,j,u,w,h1,h2=>by
  unfold jr at e
  split at e
  ·rename_i a c q1 q2
   cases j with
   | zero=>cases h1; cases h2; exact ⟨a,q1⟩
   | succ j=>exact wV q2 j u w h1 h2
  ·cases e
noncomputable def Na (f:Val->Val->Option Bool) (us ws:List Val) (j:Nat):Bool:=match us[j]?,ws[j]? with
 | some u,some w=>(f u w).getD true
 | _,_=>true
theorem nW {f:Val->Val->Option Bool}:∀ {us ws:List Val} {b:Bool},jr f us ws=some b->us.length=ws.length->(List.range us.length).all (Na f us ws)=b
 | [],[],b,e,_=>by injection e
 | [],_::_,_,_,h=>by simp at h
 | _::_,[],_,_,h=>by simp at h
 | x::xs,y::ys,b,e,h=>by
  have h':xs.length=ys.length:=by simpa using h
  unfold jr at e
  split at e
  ·rename_i a c q1 q2
   injection e with e
   rw [List.length_cons,List.range_succ_eq_map,List.all_cons,List.all_map,<-e,<-nW q2 h']
   congr 1
   show (f x y).getD true=a
   rw [q1]; rfl
  ·cases e
section
variable {X:Cx} {pins:List (Addr × Obj)} {σ:St} {H:Hp} {s:Shared} {ρ:List Addr} {st:ah}
theorem bc (sr:SR X.K ρ st H) {n:Nat} {us:List Val} {a:Addr} (h:itemsOf st n=some us) (ha:ρ[n]?=some a):∃ vs,kT X.K H a vs/\aS X.K ρ H us vs:=by
 unfold itemsOf at h
 split at h
 ·rename_i ws e
  cases h
  obtain ⟨vs,h1,h2⟩:=sr.cell n _ a e ha
  exact ⟨vs,kT.of h1,h2⟩
 ·rename_i ws e
  cases h
  obtain ⟨o,vs,h1,h2⟩:=sr.cell n _ a e ha
  exact ⟨vs,.inl (.inr ⟨o,h1⟩),h2⟩
 ·rename_i ws e
  cases h
  obtain ⟨vs,h1,h2⟩:=sr.cell n _ a e ha
  exact ⟨vs,.inr h1,h2⟩
 ·cases h
theorem wW (I:Inv X pins σ H s) (sr:SR X.K ρ st H):∀ (n:Nat) (u w:Val) (x:V) (b:Bool),Rl X.K ρ H u x->Rl X.K ρ H w x->j4 n st u w=some b->b=true
 | 0,_,_,_,_,_,_,e=>by cases e
 | n+1,u,w,x,b,r1,r2,e=>by
  have lst:∀ (us ws:List Val) (vs:List V) (b:Bool),aS X.K ρ H us vs->aS X.K ρ H ws vs->jr (j4 n st) us ws=some b->b=true:=by
   intro us
   induction us with
   | nil=>
    intro ws vs b h1 h2 e
    have:=h1.dJ
    subst this
    have hw:ws=[]:=List.eq_nil_of_length_eq_zero h2.length
    subst hw
    injection e with e; exact e.symm
   | cons u us ih=>
    intro ws vs b h1 h2 e
    obtain ⟨v,r,rfl,q1,q2⟩:=h1.bV
    cases ws with
    | nil=>have:=h2.dJ; cases this
    | cons w ws=>
     obtain ⟨v',r',e',q3,q4⟩:=h2.bV
     cases e'
     unfold jr at e
     split at e
     ·rename_i a c z1 z2
      injection e with e
      rw [<-e,wW I sr n u w v a q1 q3 z1,ih ws r c q2 q4 z2]; rfl
     ·cases e
  unfold j4 at e
  cases u <;> cases w <;> dsimp only [vw] at e <;> try (cases e; done)
  all_goals first
   | (have z1:=Rl.cj r1; subst z1; have z2:=Rl.cj r2; cases z2; injection e with e; rw [<-e]; exact beq_self_eq_true _)
   | (have z1:=Rl.nT r1; subst z1; have z2:=Rl.nT r2; cases z2; injection e with e; rw [<-e]; exact beq_self_eq_true _)
   | (have z1:=Rl.gZ r1; subst z1; have z2:=Rl.gZ r2; cases z2; injection e with e; rw [<-e]; exact beq_self_eq_true _)
   | (have z1:=Rl.fu r1; subst z1; injection e with e; exact e.symm)
   | skip
  case tup.tup us ws=>
   obtain ⟨a,vs,rfl,ha,ra⟩:=r1.fe
   obtain ⟨a',pF,ea,hb,rb⟩:=r2.fe
   cases ea
   have:=I.kX ha hb
   subst this
   exact lst us ws vs b ra rb e
  case loc.loc i j=>
   obtain ⟨a,rfl,ha⟩:=r1.cZ
   obtain ⟨a',ea,hb⟩:=r2.cZ
   cases ea
   cases z:itemsOf st i with
   | none=>rw [z] at e; cases e
   | some us=>
    cases z2:itemsOf st j with
    | none=>rw [z,z2] at e; cases e
    | some ws=>
     rw [z,z2] at e
     obtain ⟨vs,s1,rv⟩:=bc sr z ha
     obtain ⟨pF,s2,Sg⟩:=bc sr z2 hb
     have:=I.nF s1 s2
     subst this
     exact lst us ws vs b rv Sg e
  all_goals (exfalso; first
   | (have z1:=Rl.cj r1; subst z1; first | (have z2:=Rl.nT r2; cases z2; done) | (have z2:=Rl.gZ r2; cases z2; done) | (have z2:=Rl.fu r2; cases z2; done) | (obtain ⟨_,_,z2,_⟩:=r2.fe; cases z2; done) | (obtain ⟨_,z2,_⟩:=r2.cZ; cases z2; done))
   | (have z1:=Rl.nT r1; subst z1; first | (have z2:=Rl.cj r2; cases z2; done) | (have z2:=Rl.gZ r2; cases z2; done) | (have z2:=Rl.fu r2; cases z2; done) | (obtain ⟨_,_,z2,_⟩:=r2.fe; cases z2; done) | (obtain ⟨_,z2,_⟩:=r2.cZ; cases z2; done))
   | (have z1:=Rl.gZ r1; subst z1; first | (have z2:=Rl.cj r2; cases z2; done) | (have z2:=Rl.nT r2; cases z2; done) | (have z2:=Rl.fu r2; cases z2; done) | (obtain ⟨_,_,z2,_⟩:=r2.fe; cases z2; done) | (obtain ⟨_,z2,_⟩:=r2.cZ; cases z2; done))
   | (have z1:=Rl.fu r1; subst z1; first | (have z2:=Rl.cj r2; cases z2; done) | (have z2:=Rl.nT r2; cases z2; done) | (have z2:=Rl.gZ r2; cases z2; done) | (obtain ⟨_,_,z2,_⟩:=r2.fe; cases z2; done) | (obtain ⟨_,z2,_⟩:=r2.cZ; cases z2; done))
   | (obtain ⟨_,_,z1,_⟩:=r1.fe; subst z1; first | (have z2:=Rl.cj r2; cases z2; done) | (have z2:=Rl.nT r2; cases z2; done) | (have z2:=Rl.gZ r2; cases z2; done) | (have z2:=Rl.fu r2; cases z2; done))
   | (obtain ⟨_,z1,_⟩:=r1.cZ; subst z1; first | (have z2:=Rl.cj r2; cases z2; done) | (have z2:=Rl.nT r2; cases z2; done) | (have z2:=Rl.gZ r2; cases z2; done) | (have z2:=Rl.fu r2; cases z2; done))
   | skip)
  case tup.loc us j=>
   obtain ⟨a,vs,rfl,ha,ra⟩:=r1.fe
   obtain ⟨a',ea,hb⟩:=r2.cZ
   cases ea
   cases z:itemsOf st j with
   | none=>rw [z] at e; cases e
   | some sU=>
    obtain ⟨ws,hw,_⟩:=bc sr z hb
    obtain ⟨_,_,p1,_⟩:=I.tuple ha
    obtain ⟨_,_,p2,_⟩:=I.list hw
    exact SeqAt.ne_of_list_tuple p2.isList p1 rfl
  case loc.tup i us=>
   obtain ⟨a,rfl,ha⟩:=r1.cZ
   obtain ⟨a',vs,ea,hb,rb⟩:=r2.fe
   cases ea
   cases z:itemsOf st i with
   | none=>rw [z] at e; cases e
   | some sU=>
    obtain ⟨ws,hw,_⟩:=bc sr z ha
    obtain ⟨_,_,p1,_⟩:=I.tuple hb
    obtain ⟨_,_,p2,_⟩:=I.list hw
    exact SeqAt.ne_of_list_tuple p2.isList p1 rfl
  all_goals (cases z:itemsOf st _ <;> rw [z] at e <;> cases e)
noncomputable def AE (X:Cx) (ρ:List Addr) (H:Hp) (s:Shared):Vw->Val->Value->Prop
 | .tup us,_,v=>∃ a aD vs,v=.ref a/\s.heap.IsTuple a (List.toArray aD)/\Vals vs aD/\aS X.K ρ H us vs
 | .lst us,_,v=>∃ a aD vs,v=.ref a/\s.heap.IsList a (List.toArray aD)/\Vals vs aD/\aS X.K ρ H us vs
 | .nh,u,v=>(u=.bD/\v=.none)\/(∃ b,u=.bl b/\v=.bool b)\/(∃ i t,u=.int i/\v=.int i t)\/(∃ z t,u=.str z/\v=.str z t)
theorem seen (I:Inv X pins σ H s) (sr:SR X.K ρ st H) {u:Val} {x:V} {v:Value} {k:Vw} (r:Rl X.K ρ H u x) (q:RelV x v) (h:vw st u=some k):AE X ρ H s k u v:=by
 cases u with
 | bD=>cases h; have:=r.fu; subst this; exact .inl ⟨rfl,q⟩
 | bl b=>cases h; have:=r.nT; subst this; exact .inr (.inl ⟨b,rfl,q⟩)
 | int i=>cases h; have:=r.cj; subst this; obtain ⟨t,q⟩:=q; exact .inr (.inr (.inl ⟨i,t,rfl,q⟩))
 | str z=>cases h; have:=r.gZ; subst this; obtain ⟨t,q⟩:=q; exact .inr (.inr (.inr ⟨z,t,rfl,q⟩))
 | tup us=>
  cases h
  obtain ⟨a,vs,rfl,ha,ra⟩:=r.fe
  obtain ⟨aD,r1,p1,_⟩:=I.tuple ha
  exact ⟨a,aD,vs,q,p1,r1,ra⟩
 | loc n=>
  obtain ⟨a,rfl,ha⟩:=r.cZ
  cases z:itemsOf st n with
  | none=>simp only [vw,z] at h; cases h
  | some us=>
   simp only [vw,z] at h
   cases h
   obtain ⟨vs,hs,rv⟩:=bc sr z ha
   obtain ⟨aD,r1,p1,_⟩:=I.list hs
   exact ⟨a,aD,vs,q,p1.isList,r1,rv⟩
 | exc c=>cases h
 | fn k c=>cases h
 | mt us=>cases h
theorem AF {A:Around} {f:Val->Val->Option Bool} {us ws:List Val} {xs ys:List V} {aD cY:List Value} {b:Bool} (e:jr f us ws=some b) (ra:aS X.K ρ H us xs) (rb:aS X.K ρ H ws ys) (va:Vals xs aD) (vb:Vals ys cY)
  (ih:∀ u w x y vu vw c,Rl X.K ρ H u x->RelV x vu->Rl X.K ρ H w y->RelV y vw->f u w=some c->SeqAt.EqAt A s vu vw c) :
  ∀ j (h1:j<aD.toArray.size) (h2:j<cY.toArray.size),SeqAt.EqAt A s aD.toArray[j] cY.toArray[j] (Na f us ws j):=by
 intro j h1 h2
 have l1:=va.length
 have l2:=vb.length
 have l3:=ra.length
 have l4:=rb.length
 simp only [List.size_toArray] at h1 h2
 have e1:us[j]?=some us[j]:=List.getElem?_eq_getElem (by lia)
 have e2:ws[j]?=some ws[j]:=List.getElem?_eq_getElem (by lia)
 obtain ⟨x,hx,rx⟩:=ra.get e1
 obtain ⟨y,hy,ry⟩:=rb.get e2
 obtain ⟨u,hu,ru⟩:=va.get hx
 obtain ⟨v,hv,rv⟩:=vb.get hy
 have q1:aD.toArray[j]=u:=by
  obtain ⟨_,e⟩:=List.getElem?_eq_some_iff.mp hu
  simpa using e
 have q2:cY.toArray[j]=v:=by
  obtain ⟨_,e⟩:=List.getElem?_eq_some_iff.mp hv
  simpa using e
 obtain ⟨c,hc⟩:=wV e j _ _ e1 e2
 rw [q1,q2]
 unfold Na
 rw [e1,e2]
 dsimp only
 rw [hc]
 exact ih _ _ _ _ _ _ c rx ru ry rv hc
theorem in1_units (A:Around):A.in1.units=A.units+1:=by rfl
theorem HL {A:Around} (I:Inv X pins σ H s) (sr:SR X.K ρ st H) (n:Nat) (ih:∀ u w x y vu vw c,Rl X.K ρ H u x->RelV x vu->Rl X.K ρ H w y->RelV y vw->j4 n st u w=some c->SeqAt.EqAt A.in1 s vu vw c) (hu:A.units<cLine)
  {u w:Val} {x y:V} {v1 v2:Value} {b:Bool} (r1:Rl X.K ρ H u x) (q1:RelV x v1) (r2:Rl X.K ρ H w y) (q2:RelV y v2) (e:j4 (n+1) st u w=some b):SeqAt.RcAt A s v1 v2 b/\SeqAt.RcNeAt A s v1 v2 (!b):=by
 unfold j4 at e
 cases z1:vw st u with
 | none=>rw [z1] at e; cases e
 | some k1=>
  cases z2:vw st w with
  | none=>rw [z1,z2] at e; cases k1 <;> cases e
  | some k2=>
   rw [z1,z2] at e
   have s1:=seen I sr r1 q1 z1
   have s2:=seen I sr r2 q2 z2
   cases k1 with
   | tup us=>
    obtain ⟨a,aD,xs,rfl,p1,va,ra⟩:=s1
    cases k2 with
    | tup ws=>
     obtain ⟨a2,cY,ys,rfl,p2,vb,rb⟩:=s2
     have el:=AF e ra rb va vb ih
     have l1:=va.length
     have l2:=vb.length
     have l3:=ra.length
     have l4:=rb.length
     have hb:((List.range (min aD.toArray.size cY.toArray.size)).all (Na (j4 n st) us ws)&&aD.toArray.size==cY.toArray.size)=b:=by
      by_cases hl:us.length=ws.length
      ·rw [show min aD.toArray.size cY.toArray.size=us.length by simp only [List.size_toArray]; lia,nW e hl,show (aD.toArray.size==cY.toArray.size)=true by simp only [List.size_toArray,beq_iff_eq]; lia,Bool.and_true]
      ·rw [show (aD.toArray.size==cY.toArray.size)=false by simp only [List.size_toArray,beq_eq_false_iff_ne]; lia,Bool.and_false]
       exact (nV e hl).symm
     have g1:=SeqAt.RcAt.tuples p1 p2 hu el
     have g2:=SeqAt.RcNeAt.tuples p1 p2 hu el
     rw [hb] at g1 g2
     exact ⟨g1,g2⟩
    | lst ws=>
     obtain ⟨a2,cY,ys,rfl,p2,vb,rb⟩:=s2
     cases e
     exact ⟨SeqAt.RcAt.tuple_list p1 p2 hu,SeqAt.RcNeAt.tuple_list p1 p2 hu⟩
    | nh=>
     cases e
     rcases s2 with ⟨_,rfl⟩ | ⟨k,_,rfl⟩ | ⟨k,t,_,rfl⟩ | ⟨k,t,_,rfl⟩
     ·exact ⟨SeqAt.RcAt.tuple_none p1 hu,SeqAt.RcNeAt.tuple_none p1 hu⟩
     ·exact ⟨SeqAt.RcAt.tuple_bool _ p1 hu,SeqAt.RcNeAt.tuple_bool _ p1 hu⟩
     ·exact ⟨SeqAt.RcAt.tuple_int _ _ p1 hu,SeqAt.RcNeAt.tuple_int _ _ p1 hu⟩
     ·exact ⟨SeqAt.RcAt.tuple_str _ _ p1 hu,SeqAt.RcNeAt.tuple_str _ _ p1 hu⟩
   | lst us=>
    obtain ⟨a,aD,xs,rfl,p1,va,ra⟩:=s1
    cases k2 with
    | tup ws=>
     obtain ⟨a2,cY,ys,rfl,p2,vb,rb⟩:=s2
     cases e
     exact ⟨SeqAt.RcAt.list_tuple p1 p2 hu,SeqAt.RcNeAt.list_tuple p1 p2 hu⟩
    | lst ws=>
     obtain ⟨a2,cY,ys,rfl,p2,vb,rb⟩:=s2
     have l1:=va.length
     have l2:=vb.length
     have l3:=ra.length
     have l4:=rb.length
     by_cases hl:us.length=ws.length
     ·have hs:aD.toArray.size=cY.toArray.size:=by simp only [List.size_toArray]; lia
      have el:=AF e ra rb va vb ih
      have g1:=SeqAt.RcAt.lists p1 p2 hs hu el
      have g2:=SeqAt.RcNeAt.lists p1 p2 hs hu el
      rw [show aD.toArray.size=us.length by simp only [List.size_toArray]; lia,nW e hl] at g1 g2
      exact ⟨g1,g2⟩
     ·have hs:(aD.toArray.size !=cY.toArray.size)=true:=by simp only [List.size_toArray,bne_iff_ne]; lia
      rw [nV e hl]
      exact ⟨SeqAt.RcAt.lists_lengths p1 p2 hs hu,SeqAt.RcNeAt.lists_lengths p1 p2 hs hu⟩
    | nh=>
     cases e
     rcases s2 with ⟨_,rfl⟩ | ⟨k,_,rfl⟩ | ⟨k,t,_,rfl⟩ | ⟨k,t,_,rfl⟩
     ·exact ⟨SeqAt.RcAt.list_none p1 hu,SeqAt.RcNeAt.list_none p1 hu⟩
     ·exact ⟨SeqAt.RcAt.list_bool _ p1 hu,SeqAt.RcNeAt.list_bool _ p1 hu⟩
     ·exact ⟨SeqAt.RcAt.list_int _ _ p1 hu,SeqAt.RcNeAt.list_int _ _ p1 hu⟩
     ·exact ⟨SeqAt.RcAt.list_str _ _ p1 hu,SeqAt.RcNeAt.list_str _ _ p1 hu⟩
   | nh=>
    cases k2 with
    | tup ws=>
     obtain ⟨a2,cY,ys,rfl,p2,vb,rb⟩:=s2
     cases e
     rcases s1 with ⟨_,rfl⟩ | ⟨k,_,rfl⟩ | ⟨k,t,_,rfl⟩ | ⟨k,t,_,rfl⟩
     ·exact ⟨SeqAt.RcAt.none_tuple p2 hu,SeqAt.RcNeAt.none_tuple p2 hu⟩
     ·exact ⟨SeqAt.RcAt.bool_tuple _ p2 hu,SeqAt.RcNeAt.bool_tuple _ p2 hu⟩
     ·exact ⟨SeqAt.RcAt.int_tuple _ _ p2 hu,SeqAt.RcNeAt.int_tuple _ _ p2 hu⟩
     ·exact ⟨SeqAt.RcAt.str_tuple _ _ p2 hu,SeqAt.RcNeAt.str_tuple _ _ p2 hu⟩
    | lst ws=>
     obtain ⟨a2,cY,ys,rfl,p2,vb,rb⟩:=s2
     cases e
     rcases s1 with ⟨_,rfl⟩ | ⟨k,_,rfl⟩ | ⟨k,t,_,rfl⟩ | ⟨k,t,_,rfl⟩
     ·exact ⟨SeqAt.RcAt.none_list p2 hu,SeqAt.RcNeAt.none_list p2 hu⟩
     ·exact ⟨SeqAt.RcAt.bool_list _ p2 hu,SeqAt.RcNeAt.bool_list _ p2 hu⟩
     ·exact ⟨SeqAt.RcAt.int_list _ _ p2 hu,SeqAt.RcNeAt.int_list _ _ p2 hu⟩
     ·exact ⟨SeqAt.RcAt.str_list _ _ p2 hu,SeqAt.RcNeAt.str_list _ _ p2 hu⟩
    | nh=>
     injection e with e
     subst e
     rcases s1 with ⟨rfl,rfl⟩ | ⟨i,rfl,rfl⟩ | ⟨i,t,rfl,rfl⟩ | ⟨i,t,rfl,rfl⟩ <;> rcases s2 with ⟨rfl,rfl⟩ | ⟨j,rfl,rfl⟩ | ⟨j,t',rfl,rfl⟩ | ⟨j,t',rfl,rfl⟩
     ·exact ⟨SeqAt.RcAt.none_none,SeqAt.RcNeAt.none_none⟩
     ·exact ⟨SeqAt.RcAt.none_bool _,SeqAt.RcNeAt.none_bool _⟩
     ·exact ⟨SeqAt.RcAt.none_int _ _,SeqAt.RcNeAt.none_int _ _⟩
     ·exact ⟨SeqAt.RcAt.none_str _ _,SeqAt.RcNeAt.none_str _ _⟩
     ·exact ⟨SeqAt.RcAt.bool_none _,SeqAt.RcNeAt.bool_none _⟩
     ·exact ⟨SeqAt.RcAt.bool_bool _ _,SeqAt.RcNeAt.bool_bool _ _⟩
     ·exact ⟨SeqAt.RcAt.bool_int _ _ _,SeqAt.RcNeAt.bool_int _ _ _⟩
     ·exact ⟨SeqAt.RcAt.bool_str _ _ _,SeqAt.RcNeAt.bool_str _ _ _⟩
     ·exact ⟨SeqAt.RcAt.int_none _ _,SeqAt.RcNeAt.int_none _ _⟩
     ·exact ⟨SeqAt.RcAt.int_bool _ _ _,SeqAt.RcNeAt.int_bool _ _ _⟩
     ·exact ⟨SeqAt.RcAt.int_int _ _ _ _,SeqAt.RcNeAt.int_int _ _ _ _⟩
     ·exact ⟨SeqAt.RcAt.int_str _ _ _ _,SeqAt.RcNeAt.int_str _ _ _ _⟩
     ·exact ⟨SeqAt.RcAt.str_none _ _,SeqAt.RcNeAt.str_none _ _⟩
     ·exact ⟨SeqAt.RcAt.str_bool _ _ _,SeqAt.RcNeAt.str_bool _ _ _⟩
     ·exact ⟨SeqAt.RcAt.str_int _ _ _ _,SeqAt.RcNeAt.str_int _ _ _ _⟩
     ·exact ⟨SeqAt.RcAt.str_str _ _ _ _,SeqAt.RcNeAt.str_str _ _ _ _⟩
theorem D6 {A:Around} {u w:Val} {v1 v2:Value} (s1:AE X ρ H s .nh u v1) (s2:AE X ρ H s .nh w v2):SeqAt.EqAt A s v1 v2 (CL u w):=by
 rcases s1 with ⟨rfl,rfl⟩ | ⟨i,rfl,rfl⟩ | ⟨i,t,rfl,rfl⟩ | ⟨i,t,rfl,rfl⟩ <;> rcases s2 with ⟨rfl,rfl⟩ | ⟨j,rfl,rfl⟩ | ⟨j,t',rfl,rfl⟩ | ⟨j,t',rfl,rfl⟩
 ·exact SeqAt.EqAt.same _
 ·exact SeqAt.EqAt.none_bool _
 ·exact SeqAt.EqAt.none_int _ _
 ·exact SeqAt.EqAt.none_str _ _
 ·exact SeqAt.EqAt.bool_none _
 ·exact SeqAt.EqAt.bool_bool _ _
 ·exact SeqAt.EqAt.bool_int _ _ _
 ·exact SeqAt.EqAt.bool_str _ _ _
 ·exact SeqAt.EqAt.int_none _ _
 ·exact SeqAt.EqAt.int_bool _ _ _
 ·exact SeqAt.EqAt.int_int _ _ _ _
 ·exact SeqAt.EqAt.int_str _ _ _ _
 ·exact SeqAt.EqAt.str_none _ _
 ·exact SeqAt.EqAt.str_bool _ _ _
 ·exact SeqAt.EqAt.str_int _ _ _ _
 ·exact SeqAt.EqAt.str_str _ _ _ _
theorem vo (I:Inv X pins σ H s) (sr:SR X.K ρ st H):∀ (n:Nat) (A:Around),A.units+n<cLine->∀ (u w:Val) (x y:V) (v1 v2:Value) (b:Bool),Rl X.K ρ H u x->RelV x v1->Rl X.K ρ H w y->RelV y v2->j4 n st u w=some b->SeqAt.EqAt A s v1 v2 b
 | 0,_,_,_,_,_,_,_,_,_,_,_,_,_,e=>by cases e
 | n+1,A,hu,u,w,x,y,v1,v2,b,r1,q1,r2,q2,e=>by
  have rc:=(HL I sr n (fun u w x y vu vw c a1 a2 a3 a4 a5=>vo I sr n A.in1 (by rw [in1_units]; lia) u w x y vu vw c a1 a2 a3 a4 a5) (by lia) r1 q1 r2 q2 e).1
  have refs:∀ a a2,v1=.ref a->v2=.ref a2->SeqAt.EqAt A s v1 v2 b:=by
   intro a a2 e1 e2
   subst e1 e2
   by_cases hn:a=a2
   ·subst hn
    have hx:x=y:=q1.inj q2
    subst hx
    rw [wW I sr (n+1) u w x b r1 r2 e]
    exact SeqAt.EqAt.same _
   ·exact SeqAt.EqAt.of_refs hn rc
  cases z1:vw st u with
  | none=>unfold j4 at e; rw [z1] at e; cases e
  | some k1=>
   cases z2:vw st w with
   | none=>unfold j4 at e; rw [z1,z2] at e; cases k1 <;> cases e
   | some k2=>
    have s1:=seen I sr r1 q1 z1
    have s2:=seen I sr r2 q2 z2
    unfold j4 at e
    rw [z1,z2] at e
    cases k1 with
    | tup us=>
     obtain ⟨a,aD,xs,rfl,p1,va,ra⟩:=s1
     cases k2 with
     | tup ws=>obtain ⟨a2,cY,ys,rfl,p2,vb,rb⟩:=s2; exact refs a a2 rfl rfl
     | lst ws=>obtain ⟨a2,cY,ys,rfl,p2,vb,rb⟩:=s2; exact refs a a2 rfl rfl
     | nh=>
      cases e
      rcases s2 with ⟨_,rfl⟩ | ⟨k,_,rfl⟩ | ⟨k,t,_,rfl⟩ | ⟨k,t,_,rfl⟩
      ·exact SeqAt.EqAt.tuple_none p1 (by lia)
      ·exact SeqAt.EqAt.tuple_bool _ p1 (by lia)
      ·exact SeqAt.EqAt.tuple_int _ _ p1 (by lia)
      ·exact SeqAt.EqAt.tuple_str _ _ p1 (by lia)
    | lst us=>
     obtain ⟨a,aD,xs,rfl,p1,va,ra⟩:=s1
     cases k2 with
     | tup ws=>obtain ⟨a2,cY,ys,rfl,p2,vb,rb⟩:=s2; exact refs a a2 rfl rfl
     | lst ws=>obtain ⟨a2,cY,ys,rfl,p2,vb,rb⟩:=s2; exact refs a a2 rfl rfl
     | nh=>
      cases e
      rcases s2 with ⟨_,rfl⟩ | ⟨k,_,rfl⟩ | ⟨k,t,_,rfl⟩ | ⟨k,t,_,rfl⟩
      ·exact SeqAt.EqAt.list_none p1 (by lia)
      ·exact SeqAt.EqAt.list_bool _ p1 (by lia)
      ·exact SeqAt.EqAt.list_int _ _ p1 (by lia)
      ·exact SeqAt.EqAt.list_str _ _ p1 (by lia)
    | nh=>
     cases k2 with
     | tup ws=>
      obtain ⟨a2,cY,ys,rfl,p2,vb,rb⟩:=s2
      cases e
      rcases s1 with ⟨_,rfl⟩ | ⟨k,_,rfl⟩ | ⟨k,t,_,rfl⟩ | ⟨k,t,_,rfl⟩
      ·exact SeqAt.EqAt.none_tuple p2 (by lia)
      ·exact SeqAt.EqAt.bool_tuple _ p2 (by lia)
      ·exact SeqAt.EqAt.int_tuple _ _ p2 (by lia)
      ·exact SeqAt.EqAt.str_tuple _ _ p2 (by lia)
     | lst ws=>
      obtain ⟨a2,cY,ys,rfl,p2,vb,rb⟩:=s2
      cases e
      rcases s1 with ⟨_,rfl⟩ | ⟨k,_,rfl⟩ | ⟨k,t,_,rfl⟩ | ⟨k,t,_,rfl⟩
      ·exact SeqAt.EqAt.none_list p2 (by lia)
      ·exact SeqAt.EqAt.bool_list _ p2 (by lia)
      ·exact SeqAt.EqAt.int_list _ _ p2 (by lia)
      ·exact SeqAt.EqAt.str_list _ _ p2 (by lia)
     | nh=>
      injection e with e
      subst e
      exact D6 s1 s2
noncomputable def e9:F2:=fun u w st=>match j4 16 st u w with
 | some b=>.ok (.bl b) st
 | none=>.bad
noncomputable def iL:F2:=fun u w st=>match j4 16 st u w with
 | some b=>.ok (.bl (!b)) st
 | none=>.bad
theorem AG {E:XK} (hu:X.A.units+64<cLine):c9 X (compareOp .Eq) (rM (wo X) E e9):=by
 intro pins s σ H x y v u Q I rx ry h
 obtain ⟨ρ,st,u1,w1,sr,r1,r2,h⟩:=h
 unfold e9 at h
 split at h
 ·rename_i b e
  exact (HL I sr 15 (vo I sr 15 X.A.in1 (by rw [in1_units]; lia)) (by lia) r1 rx r2 ry e).1 X.prog X.w X.xe (EP X pins σ Q) ⟨.bl b,H,I,rfl,cN sr h⟩
 ·exact h.elim
theorem HM {E:XK} (hu:X.A.units+64<cLine):c9 X (compareOp .NotEq) (rM (wo X) E iL):=by
 intro pins s σ H x y v u Q I rx ry h
 obtain ⟨ρ,st,u1,w1,sr,r1,r2,h⟩:=h
 unfold iL at h
 split at h
 ·rename_i b e
  exact (HL I sr 15 (vo I sr 15 X.A.in1 (by rw [in1_units]; lia)) (by lia) r1 rx r2 ry e).2 X.prog X.w X.xe (EP X pins σ Q) ⟨.bl (!b),H,I,rfl,cN sr h⟩
 ·exact h.elim
theorem nX {K:PySem.W.Frag} {u w:Val} {x y:V} (f1:flat u=true) (f2:flat w=true) (r1:Rl K ρ H u x) (r2:Rl K ρ H w y):gI x=true/\gI y=true/\uW x y=CL u w:=by
 cases u <;> (try cases f1) <;> cases w <;> (try cases f2) <;>
  (first | (have z1:=Rl.cj r1; subst z1) | (have z1:=Rl.nT r1; subst z1) | (have z1:=Rl.gZ r1; subst z1) | (have z1:=Rl.fu r1; subst z1)) <;>
  (first | (have z2:=Rl.cj r2; subst z2) | (have z2:=Rl.nT r2; subst z2) | (have z2:=Rl.gZ r2; subst z2) | (have z2:=Rl.fu r2; subst z2)) <;> exact ⟨rfl,rfl,rfl⟩
noncomputable def CM (neg:Bool):F2
 | .bD,.bD,st=>.ok (.bl (!neg)) st
 | .bl a,.bl b,st=>.ok (.bl (if neg then a !=b else a==b)) st
 | .int _,.bD,st=>.ok (.bl neg) st
 | .bl _,.bD,st=>.ok (.bl neg) st
 | .str _,.bD,st=>.ok (.bl neg) st
 | .tup _,.bD,st=>.ok (.bl neg) st
 | .loc _,.bD,st=>.ok (.bl neg) st
 | _,_,_=>.bad
theorem AH:c9 X (compareOp .Is) (fun x y H Q=>∃ a b,x=.bl a/\y=.bl b/\Q (.bl (a==b)) H):=by
 rintro pins s σ H x y v u Q I rx ry ⟨a,b,rfl,rfl,q⟩
 cases rx; cases ry
 exact is_bool ⟨.bl _,H,I,rfl,q⟩
theorem tQ:c9 X (compareOp .IsNot) (fun x y H Q=>∃ a b,x=.bl a/\y=.bl b/\Q (.bl (a !=b)) H):=by
 rintro pins s σ H x y v u Q I rx ry ⟨a,b,rfl,rfl,q⟩
 cases rx; cases ry
 exact isnot_bool ⟨.bl _,H,I,rfl,q⟩
theorem AI {E:XK}:c9 X (compareOp .Is) (rM (wo X) E (CM false)):=by
 refine c9.imp (c9.or GX AH) ?_
 rintro x y H Q ⟨ρ,st,u,w,sr,r1,r2,h⟩
 cases u <;> cases w <;> try exact h.elim
 case bl.bl a b=>exact .inr ⟨a,b,r1.nT,r2.nT,cN sr h⟩
 case bD.bD=>exact .inl ⟨r2.fu,by rw [r1.fu]; exact cN sr h⟩
 case int.bD i=>exact .inl ⟨r2.fu,by rw [r1.cj]; exact cN sr h⟩
 case bl.bD i=>exact .inl ⟨r2.fu,by rw [r1.nT]; exact cN sr h⟩
 case str.bD i=>exact .inl ⟨r2.fu,by rw [r1.gZ]; exact cN sr h⟩
 case tup.bD i=>obtain ⟨a,vs,rfl,_⟩:=r1.fe; exact .inl ⟨r2.fu,cN sr h⟩
 case loc.bD i=>obtain ⟨a,rfl,_⟩:=r1.cZ; exact .inl ⟨r2.fu,cN sr h⟩
theorem yw {E:XK}:c9 X (compareOp .IsNot) (rM (wo X) E (CM true)):=by
 refine c9.imp (c9.or Dc tQ) ?_
 rintro x y H Q ⟨ρ,st,u,w,sr,r1,r2,h⟩
 cases u <;> cases w <;> try exact h.elim
 case bl.bl a b=>exact .inr ⟨a,b,r1.nT,r2.nT,cN sr h⟩
 case bD.bD=>exact .inl ⟨r2.fu,by rw [r1.fu]; exact cN sr h⟩
 case int.bD i=>exact .inl ⟨r2.fu,by rw [r1.cj]; exact cN sr h⟩
 case bl.bD i=>exact .inl ⟨r2.fu,by rw [r1.nT]; exact cN sr h⟩
 case str.bD i=>exact .inl ⟨r2.fu,by rw [r1.gZ]; exact cN sr h⟩
 case tup.bD i=>obtain ⟨a,vs,rfl,_⟩:=r1.fe; exact .inl ⟨r2.fu,cN sr h⟩
 case loc.bD i=>obtain ⟨a,rfl,_⟩:=r1.cZ; exact .inl ⟨r2.fu,cN sr h⟩
end
section
variable {X:Cx} {E:XK} {pos:Pos}
noncomputable def aZ:F2
 | .tup us,.int i,st=>match px us i with
  | some v=>.ok v st
  | none=>.bad
 | .loc n,.int i,st=>match itemsOf st n with
  | some us=>match px us i with
   | some v=>.ok v st
   | none=>.bad
  | none=>.bad
 | .str z,.int i,st=>if z.length<=sizeLine then (match px z.cps.toList i with
   | some c=>.ok (.str ⟨#[c]⟩) st
   | none=>.bad) else .bad
 | _,_,_=>.bad
theorem aS.px {K:PySem.W.Frag} {ρ:List Addr} {H:Hp} {us:List Val} {vs:List V} {i:Int} {u:Val} (r:aS K ρ H us vs) (h:px us i=some u):∃ v,L2.px vs i=some v/\Rl K ρ H u v:=by
 unfold L2.px at h ⊢
 rw [<-r.length]
 cases z:Ha us.length i with
 | none=>rw [z] at h; cases h
 | some j=>
  rw [z] at h
  obtain ⟨v,h1,h2⟩:=r.get (show us[j]?=some u from h)
  exact ⟨v,h1,h2⟩
theorem OX:uV X (rM (wo X) E aZ):=by
 refine uV.imp (uV.or Ds (uV.or ve Hb)) ?_
 rintro x y H Q ⟨ρ,st,u,w,sr,r1,r2,h⟩
 cases u <;> cases w <;> try exact h.elim
 case tup.int us i=>
  unfold aZ at h
  dsimp only at h
  split at h
  ·rename_i v e
   obtain ⟨a,vs,rfl,ha,ra⟩:=r1.fe
   obtain ⟨z,h1,h2⟩:=ra.px e
   exact .inr (.inl ⟨a,vs,i,z,rfl,r2.cj,ha,h1,h ρ H z (Step.refl _ _) sr h2⟩)
  ·exact h.elim
 case loc.int n i=>
  unfold aZ at h
  dsimp only at h
  split at h
  ·rename_i us e
   split at h
   ·rename_i v e'
    obtain ⟨a,rfl,ha⟩:=r1.cZ
    obtain ⟨vs,hs,rv⟩:=bc sr e ha
    obtain ⟨z,h1,h2⟩:=rv.px e'
    exact .inl ⟨a,vs,i,z,rfl,r2.cj,hs,h1,h ρ H z (Step.refl _ _) sr h2⟩
   ·exact h.elim
  ·exact h.elim
 case str.int z i=>
  unfold aZ at h
  dsimp only at h
  split at h
  ·rename_i hz
   split at h
   ·rename_i c e
    exact .inr (.inr ⟨z,i,c,r1.gZ,r2.cj,hz,e,h ρ H _ (Step.refl _ _) sr (Rl.mkStr _)⟩)
   ·exact h.elim
  ·exact h.elim
noncomputable def dZ:FN
 | [.tup us],st=>.ok (.int us.length) st
 | [.loc n],st=>match itemsOf st n with
  | some us=>.ok (.int us.length) st
  | none=>.bad
 | [.str z],st=>if z.length<=sizeLine then .ok (.int z.length) st else .bad
 | _,_=>.bad
theorem eO:bt X (.builtin "len") (cM (wo X) E dZ):=by
 refine bt.imp (bt.or rh ri) ?_
 rintro xs H Q ⟨ρ,st,us,sr,r,h⟩
 match us,r,h with
 | [],_,h=>exact h.elim
 | [.tup ws],r,h=>
  obtain ⟨v,rfl,r1⟩:=r.tN
  obtain ⟨a,vs,rfl,ha,ra⟩:=r1.fe
  refine .inl ⟨a,vs,rfl,.inr ha,?_⟩
  rw [<-ra.length]; exact du sr h
 | [.loc n],r,h=>
  obtain ⟨v,rfl,r1⟩:=r.tN
  obtain ⟨a,rfl,ha⟩:=r1.cZ
  unfold dZ at h
  dsimp only at h
  split at h
  ·rename_i ws e
   obtain ⟨vs,hs,rv⟩:=bc sr e ha
   refine .inl ⟨a,vs,rfl,.inl hs,?_⟩
   rw [<-rv.length]; exact du sr h
  ·exact h.elim
 | [.str z],r,h=>
  obtain ⟨v,rfl,r1⟩:=r.tN
  unfold dZ at h
  dsimp only at h
  split at h
  ·rename_i hz
   exact .inr ⟨z,by rw [r1.gZ],hz,du sr h⟩
  ·exact h.elim
 | [.bD],_,h=>exact h.elim
 | [.bl _],_,h=>exact h.elim
 | [.int _],_,h=>exact h.elim
 | [.exc _],_,h=>exact h.elim
 | [.fn _ _],_,h=>exact h.elim
 | [.mt _],_,h=>exact h.elim
 | x::y::r,_,h=>cases x <;> exact h.elim
noncomputable def ff:FN
 | [.tup us],st=>.ok (.tup us) st
 | [.loc n],st=>match itemsOf st n with
  | some us=>.ok (.tup us) st
  | none=>.bad
 | _,_=>.bad
theorem fM:bt X (.type "tuple") (cM (wo X) E ff):=by
 refine bt.imp pB ?_
 rintro xs H Q ⟨ρ,st,us,sr,r,h⟩
 unfold ff at h
 split at h
 ·rename_i ws
  obtain ⟨v,rfl,r1⟩:=r.tN
  obtain ⟨a,vs,rfl,ha,ra⟩:=r1.fe
  exact ⟨a,vs,rfl,.inr ⟨ha,h ρ H _ (Step.refl _ _) sr r1⟩⟩
 ·rename_i n
  obtain ⟨v,rfl,r1⟩:=r.tN
  obtain ⟨a,rfl,ha⟩:=r1.cZ
  split at h
  ·rename_i ws e
   obtain ⟨vs,hs,rv⟩:=bc sr e ha
   refine ⟨a,vs,rfl,.inl ⟨hs,fun l hl=>?_⟩⟩
   have s:=c_ (o:=.tup vs) hl
   exact h ρ _ _ (Step.same s) (sr.grow s) (Rl.nU bU (aS.mono (Step.same s) _ _ rv))
  ·exact h.elim
 ·exact h.elim
noncomputable def pG:FN
 | [.tup us],st=>.ok (.loc st.length) (st++[.lst us])
 | [.loc n],st=>match itemsOf st n with
  | some us=>.ok (.loc st.length) (st++[.lst us])
  | none=>.bad
 | _,_=>.bad
theorem qc:bt X (.type "list") (cM (wo X) E pG):=by
 refine bt.imp rj ?_
 rintro xs H Q ⟨ρ,st,us,sr,r,h⟩
 unfold pG at h
 split at h
 ·rename_i ws
  obtain ⟨v,rfl,r1⟩:=r.tN
  obtain ⟨a,vs,rfl,ha,ra⟩:=r1.fe
  refine ⟨a,vs,rfl,.inr ha,fun l hl=>?_⟩
  obtain ⟨k1,k2,k3⟩:=gg sr ra hl
  exact h _ _ _ k1 k2 k3
 ·rename_i n
  obtain ⟨v,rfl,r1⟩:=r.tN
  obtain ⟨a,rfl,ha⟩:=r1.cZ
  split at h
  ·rename_i ws e
   obtain ⟨vs,hs,rv⟩:=bc sr e ha
   refine ⟨a,vs,rfl,.inl hs,fun l hl=>?_⟩
   obtain ⟨k1,k2,k3⟩:=gg sr rv hl
   exact h _ _ _ k1 k2 k3
  ·exact h.elim
 ·exact h.elim
noncomputable def mm:List Val->Option (List Bool)
 | []=>some []
 | .bl b::r=>(mm r).map (b :: ·)
 | _=>none
theorem qd {K:PySem.W.Frag} {ρ:List Addr} {H:Hp}:∀ {us:List Val} {bs:List Bool} {vs:List V} {aD:List Value},mm us=some bs->aS K ρ H us vs->Vals vs aD->LSm.BoolsAre aD bs
 | [],bs,vs,aD,h,r,v=>by
  cases h
  have:=r.dJ
  subst this
  cases v
  exact .nil
 | u::us,bs,vs,aD,h,r,v=>by
  cases u with
  | bl b=>
   simp only [mm] at h
   cases z:mm us with
   | none=>rw [z] at h; cases h
   | some Ud=>
    rw [z] at h
    cases h
    obtain ⟨x,r',rfl,h2,h3⟩:=r.bV
    have:=h2.nT
    subst this
    cases v with
    | cons q1 q2=>
     cases q1
     exact .cons b (qd z h3 q2)
  | _=>cases h
theorem nY (hh:X.A.handled=none):bt X (.builtin "all") (fun xs H Q=>∃ a ρ us vs bs,xs=[.ref a]/\kT X.K H a vs/\aS X.K ρ H us vs/\mm us=some bs/\Q (.bl (bs.all id)) H):=by
 rintro pins s σ H xs ws Q I r ⟨a,ρ,us,vs,bs,rfl,hs,rv,hb,q⟩
 obtain ⟨u,rfl,ru⟩:=vals1 r
 cases ru
 obtain ⟨aD,r1,p1,_⟩:=I.list hs
 have B:=qd hb rv r1
 have hl:=p1.isList
 have pC:a<s.heap.objs.size:=by obtain ⟨_,e,_⟩:=hl; exact Heap.lt_size e
 refine call_all_walk (wpAny_pyIter_list hl ?_)
 refine ⟨s.heap.objs.size,[s.heap.objs.size,a],[s.heap.objs.size],aD.toArray.size,_,_,fun i=>(bs[i]?).getD true,rfl,Walks.list (A:=X.A.in1) hh _ a (Nat.ne_of_lt pC) aD.toArray,
  ⟨⟨_,Heap.get?_push_size _ rfl,rfl,rfl⟩,hl.push _⟩,fun i v s' Q' E' hP hQ=>?_,fun h' tk hk=>?_⟩
 ·obtain ⟨b,e,rfl⟩:=B.get i v (by simpa using hP)
  simp only [e,Option.getD_some] at hQ
  exact wpAny_truthy_bool hQ
 ·have e:((List.range aD.toArray.size).all fun i=>(bs[i]?).getD true)=bs.all id:=by
   rw [List.size_toArray,B.length]; exact LSm.range_all bs
  rw [e]
  exact ⟨.bl _,H,I.kept (LSm.kept_iter hk),rfl,q⟩
noncomputable def yx:FN
 | [.loc n],st=>match itemsOf st n with
  | some us=>match mm us with
   | some bs=>.ok (.bl (bs.all id)) st
   | none=>.bad
  | none=>.bad
 | _,_=>.bad
theorem yy (hh:X.A.handled=none):bt X (.builtin "all") (cM (wo X) E yx):=by
 refine bt.imp (nY hh) ?_
 rintro xs H Q ⟨ρ,st,us,sr,r,h⟩
 unfold yx at h
 split at h
 ·rename_i n
  obtain ⟨v,rfl,r1⟩:=r.tN
  obtain ⟨a,rfl,ha⟩:=r1.cZ
  split at h
  ·rename_i ws e
   split at h
   ·rename_i bs hb
    obtain ⟨vs,hs,rv⟩:=bc sr e ha
    exact ⟨a,ρ,ws,vs,bs,rfl,hs,rv,hb,cN sr h⟩
   ·exact h.elim
  ·exact h.elim
 ·exact h.elim
noncomputable def kindOf (st:ah):Val->Option String
 | .bD=>some "NoneType"
 | .bl _=>some "bool"
 | .int _=>some "int"
 | .str _=>some "str"
 | .tup _=>some "tuple"
 | .loc n=>match st[n]? with
  | some (.lst _)=>some "list"
  | some (.HC _)=>some "list"
  | some (.mod _)=>none
  | some (.dK _)=>some "dict"
  | some (.dT _)=>some "dict"
  | _=>none
 | _=>none
noncomputable def Ld (T:String) (st:ah) (v:Val):Option Bool:=(kindOf st v).map fun k=>k==T || (k == "bool" && T == "int")
noncomputable def AJ (T:String) (m:ME):ME:=fun μ st=>(m μ st).bind fun v ar=>match Ld T ar v with
 | some b=>.ok (.bl b) ar
 | none=>.bad
noncomputable def AK (K:PySem.W.Frag) (T:String):Prop:=∀ k∈["NoneType","bool","int","str","tuple","list","dict"],PySem.W.kitOne K (.type k) (.type T)=some (k==T || (k == "bool" && T == "int"))
theorem vp {st:ah} {v:Val} {k:String} (h:kindOf st v=some k):k∈["NoneType","bool","int","str","tuple","list","dict"]:=by
 unfold kindOf at h
 split at h
 all_goals first
  | (cases h; decide)
  | (split at h <;> first | (cases h; decide) | cases h)
  | cases h
theorem AL {pins:List (Addr × Obj)} {σ:St} {H:Hp} {s:Shared} {A:Around} {E:Value->Shared->Prop} {Q:Value->Shared->Prop} {c:Value} {b:Bool} {ρ:List Addr} {st:ah} {u:Val} {x:V} {v:Value} {k:String}
  (I:Inv X pins σ H s) (sr:SR X.K ρ st H) (r:Rl X.K ρ H u x) (q:RelV x v) (hk:kindOf st u=some k) (e:PySem.W.kitOne X.K (.type k) c=some b) (h:∀ tk,Q (.bool b) { s with toks:=tk }) :
  wpAny (model X.prog X.w) A (call (.builtin "isinstance") [v,c]) Q E s:=by
 cases u with
 | bD=>cases hk; have:=r.fu; subst this; exact dW I q .bD e h
 | bl y=>cases hk; have:=r.nT; subst this; exact dW I q (.bl y) e h
 | int i=>cases hk; have:=r.cj; subst this; exact dW I q (.int i) e h
 | str y=>cases hk; have:=r.gZ; subst this; exact dW I q (.str y) e h
 | tup us=>
  cases hk
  obtain ⟨a,vs,rfl,ha,ra⟩:=r.fe
  cases q
  obtain ⟨aD,r1,⟨o,h1,h2,_⟩,_⟩:=I.tuple ha
  exact PySem.W.kia_one PySem.W.kitx_tuple I.lY ⟨o,h1,h2⟩ e (fun z=>nomatch z) h
 | loc n=>
  obtain ⟨a,rfl,ha⟩:=r.cZ
  obtain ⟨cl,hc,kc⟩:=sr.there ha
  simp only [kindOf,hc] at hk
  cases cl with
  | lst us=>cases hk; obtain ⟨vs,h1,_⟩:=kc; exact dW I q (.lst h1) e h
  | HC us=>cases hk; obtain ⟨o,vs,h1,_⟩:=kc; exact dW I q (.jY h1) e h
  | mod us=>cases hk
  | dK us=>cases hk; obtain ⟨vs,h1,_⟩:=kc; exact dW I q (.dK h1) e h
  | dT us=>cases hk; obtain ⟨vs,h1,_⟩:=kc; exact dW I q (.dT h1) e h
  | tab _ _ _ _=>cases hk
 | exc c=>cases hk
 | fn k c=>cases hk
 | mt us=>cases hk
theorem nZ {T:String} {x:Str} {e:Expr} {m:ME} {p q:Pos} (hK:AK X.K T) (hg:Gl X "isinstance") (hm:X.mg "isinstance" = none) (Sh:Gl X x) (Si:X.mg x=none) (Sj:bootBuiltins x=some (.type T)) (he:PE X e (tE X E m))
  (hn:x ≠ "__name__":=by decide) (hd:(x==("__debug__":Str))=false:=by decide)
  (hs:starEach [e,.Name x q] X.env=(false,eval e X.env)::starEach [.Name x q] X.env:=by rfl) (dk:starEach [.Name x q] X.env=(false,eval (.Name x q) X.env)::starEach [] X.env:=by rfl)
  (iF:(backTo pos (starEach [.Name x q] X.env)).any (·.1)=false:=by rfl):PE X (.Call (.Name "isinstance" p) [e,.Name x q] [] pos) (tE X E (AJ T m)):=by
 have hc:bt X (.builtin "isinstance") (fun xs H Q=>∃ y ρ st u k b,xs=[y,.ty T]/\SR X.K ρ st H/\Rl X.K ρ H u y/\kindOf st u=some k/\PySem.W.kitOne X.K (.type k) (.type T)=some b/\Q (.bl b) H):=by
  rintro pins s σ H xs us Q I r ⟨y,ρ,st,u,k,b,rfl,sr,r1,h1,h2,h3⟩
  obtain ⟨v1,v2,rfl,q1,q2⟩:=vals2 r
  cases q2
  exact AL I sr r1 q1 h1 h2 fun tk=>⟨.bl b,H,I.tok tk,rfl,h3⟩
 refine PE.imp (j8 hc hg hm PyProof.Rows.boot_isinstance (fE he (fE (wG (v:=.ty T) Sh Si Sj rfl hn hd) kY dk) hs) (by decide) (by decide) hs iF) ?_
 rintro σ H Q ⟨μ,ρ,st,rs,sr,h⟩
 refine go μ ρ st rs sr h fun u aV ρ1 H1 x e1 bW r1 h1=>?_
 cases z:kindOf aV u with
 | none=>simp only [Ld,z] at h1; exact h1.elim
 | some k=>
  simp only [Ld,z] at h1
  exact ⟨x,ρ1,aV,u,k,_,rfl,bW,r1,z,hK k (vp z),cN bW h1⟩
end
theorem AM {K:PySem.W.Frag}:AK K "int":=by
 intro k hk
 simp only [List.mem_cons,List.mem_nil_iff,or_false] at hk
 rcases hk with rfl | rfl | rfl | rfl | rfl | rfl | rfl <;> first | rfl | kernel_rfl
theorem yz {K:PySem.W.Frag}:AK K "bool":=by
 intro k hk
 simp only [List.mem_cons,List.mem_nil_iff,or_false] at hk
 rcases hk with rfl | rfl | rfl | rfl | rfl | rfl | rfl <;> first | rfl | kernel_rfl
theorem n_ {K:PySem.W.Frag}:AK K "tuple":=by
 intro k hk
 simp only [List.mem_cons,List.mem_nil_iff,or_false] at hk
 rcases hk with rfl | rfl | rfl | rfl | rfl | rfl | rfl <;> first | rfl | kernel_rfl
theorem yA {K:PySem.W.Frag}:AK K "list":=by
 intro k hk
 simp only [List.mem_cons,List.mem_nil_iff,or_false] at hk
 rcases hk with rfl | rfl | rfl | rfl | rfl | rfl | rfl <;> first | rfl | kernel_rfl
noncomputable abbrev AS:=Val->Env->Option Env
noncomputable def aName (i:Nat):AS:=fun v μ=>some (μ.set i (some v))
noncomputable def qe:List AS->List Val->Env->Option Env
 | [],[],μ=>some μ
 | a::as,v::vs,μ=>(a v μ).bind fun μ'=>qe as vs μ'
 | _,_,_=>none
noncomputable def eu (l:List AS):AS:=fun v μ=>match v with
 | .tup vs=>qe l vs μ
 | _=>none
noncomputable def tA (W:Wo) (a:AS):TG:=fun v σ H Q=>∃ μ ρ u μ',RS W ρ H μ σ/\Rl W.K ρ H u v/\a u μ=some μ'/\∀ σ',RS W ρ H μ' σ'->Q σ' H
noncomputable def Nb (W:Wo) (l:List AS):C5:=fun vs σ H Q=>∃ μ ρ us μ',RS W ρ H μ σ/\aS W.K ρ H us vs/\qe l us μ=some μ'/\∀ σ',RS W ρ H μ' σ'->Q σ' H
section
variable {X:Cx} {pos:Pos}
theorem xY.imp {e:List Expr} {t t':C5} (h:xY X e t) (k:∀ v σ H Q,t' v σ H Q->t v σ H Q):xY X e t':=fun pins s σ H v u Q I r q=>h pins s σ H v u Q I r (k v σ H Q q)
theorem bG (i:Nat) {x:Str} (hN:X.N.Nodup) (hi:X.N[i]?=some x:=by rfl) (hx:Loc X.env.scope x:=by first | exact Or.inl rfl | exact Or.inr rfl) (hf:X.fn x=true\/X.env.scope.names.lookup x=some .local:=by first | exact .inl rfl | exact .inr rfl | assumption):PG X (.Name x pos) (tA (wo X) (aName i)):=by
 refine PG.imp (C6 hN hi hx hf) ?_
 rintro v σ H Q ⟨μ,ρ,u,μ',rs,r,e,q⟩
 cases e
 exact q _ (rs.set i r)
theorem hU:xY X [] (Nb (wo X) []):=by
 refine xY.imp C7 ?_
 rintro vs σ H Q ⟨μ,ρ,us,μ',rs,r,e,q⟩
 cases us with
 | nil=>cases e; exact ⟨r.dJ,q σ rs⟩
 | cons=>cases e
theorem cy {e:Expr} {es:List Expr} {a:AS} {as:List AS} (h1:PG X e (tA (wo X) a)) (h2:xY X es (Nb (wo X) as)) (hs:(assignEach (e::es) X.env).map (·.2)=assign e X.env::(assignEach es X.env).map (·.2):=by rfl):xY X (e::es) (Nb (wo X) (a::as)):=by
 refine xY.imp (zL h1 h2 hs) ?_
 rintro vs σ H Q ⟨μ,ρ,us,μ',rs,r,e,q⟩
 cases us with
 | nil=>cases e
 | cons u us=>
  obtain ⟨v,r',rfl,ru,rr⟩:=r.bV
  unfold qe at e
  cases z:a u μ with
  | none=>rw [z] at e; cases e
  | some μ1=>
   rw [z] at e
   exact ⟨v,r',rfl,μ,ρ,u,μ1,rs,ru,z,fun σ1 Jz=>⟨μ1,ρ,us,μ',Jz,rr,e,q⟩⟩
theorem jI {es:List Expr} {k:Nat} {l:List AS} (hc:X.calm=true) (h:xY X es (Nb (wo X) l)) (hn:(assignEach es X.env).length=l.length:=by rfl) (CG:(assignEach es X.env).findIdx? (·.1)=none:=by rfl):PG X (.Tuple es k pos) (tA (wo X) (eu l)):=by
 refine PG.imp (GJ hc h hn CG) ?_
 rintro v σ H Q ⟨μ,ρ,u,μ',rs,r,e,q⟩
 cases u with
 | tup us=>
  obtain ⟨a,vs,rfl,ha,ra⟩:=r.fe
  have len:∀ (l:List AS) (us:List Val) (μ:Env),qe l us μ=some μ'->us.length=l.length:=by
   intro l
   induction l with
   | nil=>intro us μ e; cases us with | nil=>rfl | cons=>cases e
   | cons a l ih=>
    intro us μ e
    cases us with
    | nil=>cases e
    | cons u us=>
     unfold qe at e
     cases z:a u μ with
     | none=>rw [z] at e; cases e
     | some μ1=>rw [z] at e; rw [List.length_cons,List.length_cons,ih us μ1 e]
  exact ⟨a,vs,rfl,ha,by rw [<-ra.length]; exact len _ _ _ e,μ,ρ,us,μ',rs,ra,e,q⟩
 | _=>cases e
noncomputable def Sk (a:AS) (m:ME):MB:=fun μ st=>(m μ st).sb μ fun v ar=>match a v μ with
 | some μ'=>.nx μ' ar
 | none=>.bad
end
noncomputable abbrev Itm:=List Val × (ah->Prop)
noncomputable abbrev MI:=Env->ah->Res Itm
noncomputable def JA (K:PySem.W.Frag) (ρ0:List Addr) (H0:Hp) (p:Itm) (J:It):Prop:=
 ∀ ρ st H,Step ρ0 H0 ρ H->SR K ρ st H->p.2 st->∀ i:Nat,
  (∀ u,p.1[i]?=some u->J.go i H/\∀ x H',J.J7 i H x H'->Step ρ H ρ H'/\SR K ρ st H'/\Rl K ρ H' u x)/\(p.1.length<=i->J.stop i H)
noncomputable abbrev tI (X:Cx) (E:XK) (m:MI):TI:=tG (wo X) E (JA X.K) m
section
variable {X:Cx} {E:XK} {tg:Expr} {pos p:Pos}
theorem PI.imp {it:Expr} {t t':TI} (h:PI X tg it t) (k:∀ σ H Q,t' σ H Q->t σ H Q):PI X tg it t':=fun pins s σ H R I q=>h pins s σ H R I (k σ H R q)
theorem HN {l:Expr} {tl:TE} (hl:PE X l tl):PI X tg l (fun σ H R=>tl σ H fun x H1=>∃ a,x=.ref a/\(((∃ xs,kT X.K H1 a xs)/\R (NZ X.K a) H1)\/((∃ xs,ju X.K H1 a xs)/\R (N0 X.K a) H1))):=by
 intro pins s σ H R I h
 refine cT (hl pins s σ H _ I h) fun v s1 ⟨x,H1,I1,r1,q1⟩=>?_
 obtain ⟨a,e,q⟩:=q1
 subst e
 cases r1
 rcases q with ⟨⟨xs,hq⟩,q⟩ | ⟨⟨xs,hq⟩,q⟩
 ·obtain ⟨aD,rv,p,hz⟩:=I1.list hq
  refine wpAny_pyIter_list p.isList ?_
  refine ⟨s1.heap.objs.size,[s1.heap.objs.size],_,_,H1,rfl,I1.kept (t':=s1.toks) fun b o e=>Heap.get?_push_of_some _ e,xZ a _,⟨_,Heap.get?_push_size _ rfl,rfl,rfl⟩,fun b hb=>?_,q⟩
  have e:b=s1.heap.objs.size:=by simpa using hb
  subst e
  exact I1.C8 (Nat.le_refl _) (I1.bK.fresh (Nat.le_refl _))
 ·obtain ⟨aD,rv,p,hz⟩:=I1.tuple hq
  refine wpAny_pyIter_tuple (show s1.heap.IsTuple a aD.toArray from p) ?_
  refine ⟨s1.heap.objs.size,[s1.heap.objs.size],_,_,H1,rfl,I1.kept (t':=s1.toks) fun b o e=>Heap.get?_push_of_some _ e,u4 a _,⟨_,Heap.get?_push_size _ rfl,rfl,rfl⟩,fun b hb=>?_,q⟩
  have e:b=s1.heap.objs.size:=by simpa using hb
  subst e
  exact I1.C8 (Nat.le_refl _) (I1.bK.fresh (Nat.le_refl _))
noncomputable def og (st:ah):Val->Option Itm
 | .tup us=>some (us,fun _=>True)
 | .mt us=>some (us,fun _=>True)
 | .loc n=>(itemsOf st n).map fun us=>(us,fun ar=>itemsOf ar n=some us)
 | _=>none
noncomputable def fA (m:ME):MI:=fun μ st=>(m μ st).bind fun v ar=>match og ar v with
 | some p=>.ok p ar
 | none=>.bad
theorem AN {K:PySem.W.Frag} {ρ:List Addr} {H:Hp} {n:Nat} {us:List Val} {a:Addr} (ha:ρ[n]?=some a) (OY:∀ {ρ':List Addr} {ar:ah} {H':Hp},SR K ρ' ar H'->itemsOf ar n=some us->ρ'[n]?=some a->∃ vs,kT K H' a vs/\aS K ρ' H' us vs) :
  JA K ρ H (us,fun ar=>itemsOf ar n=some us) (NZ K a):=by
 intro ρ' ar H' e sr g i
 obtain ⟨vs,hs,rv⟩:=OY sr g (e.at_ ha)
 refine ⟨fun u hu=>?_,fun hi=>⟨vs,hs,by rw [<-rv.length]; exact hi⟩⟩
 obtain ⟨v,hv,ru⟩:=rv.get hu
 refine ⟨⟨vs,v,hs,hv⟩,fun x OZ y=>?_⟩
 obtain ⟨rfl,y⟩:=y
 have e:=(y vs hs).symm.trans hv
 cases e
 exact ⟨Step.refl _ _,sr,ru⟩
theorem wX {K:PySem.W.Frag} {ρ:List Addr} {H:Hp} {us:List Val} {a:Addr} {vs:List V} (ha:ju K H a vs) (ra:aS K ρ H us vs):JA K ρ H (us,fun _=>True) (N0 K a):=by
 intro ρ' ar H' e sr g i
 have Le:ju K H' a vs:=e.OU ha
 have rv:=aS.mono e _ _ ra
 refine ⟨fun u hu=>?_,fun hi=>⟨vs,Le,by rw [<-rv.length]; exact hi⟩⟩
 obtain ⟨v,hv,ru⟩:=rv.get hu
 refine ⟨⟨vs,v,Le,hv⟩,fun x OZ y=>?_⟩
 obtain ⟨rfl,y⟩:=y
 have e:=(y vs Le).symm.trans hv
 cases e
 exact ⟨Step.refl _ _,sr,ru⟩
theorem iU {l:Expr} {m:ME} (hl:PE X l (tE X E m)):PI X tg l (tI X E (fA m)):=by
 refine PI.imp (HN hl) ?_
 rintro σ H R ⟨μ,ρ,st,rs,sr,h⟩
 refine go μ ρ st rs sr h fun u aV ρ1 H1 x e1 bW r1 h1=>?_
 cases u with
 | tup us=>
  obtain ⟨a,vs,rfl,ha,ra⟩:=r1.fe
  exact ⟨a,rfl,.inr ⟨⟨vs,ha⟩,h1 ρ1 H1 _ (Step.refl _ _) bW (wX ha ra)⟩⟩
 | mt us=>
  obtain ⟨a,vs,rfl,ha,ra⟩:=r1.Sf
  exact ⟨a,rfl,.inr ⟨⟨vs,ha⟩,h1 ρ1 H1 _ (Step.refl _ _) bW (wX ha ra)⟩⟩
 | loc n=>
  obtain ⟨a,rfl,ha⟩:=r1.cZ
  cases z:itemsOf aV n with
  | none=>simp only [og,z] at h1; exact h1.elim
  | some us=>
   simp only [og,z] at h1
   obtain ⟨vs,hs,rv⟩:=bc bW z ha
   exact ⟨a,rfl,.inl ⟨⟨vs,hs⟩,h1 ρ1 H1 _ (Step.refl _ _) bW (AN ha fun s g h=>bc s g h)⟩⟩
 | _=>exact h1.elim
noncomputable def bH (lo:Int) (n:Nat):List Val:=(List.range n).map fun (i:Nat)=>Val.int (lo+(i:Int))
theorem yB {K:PySem.W.Frag} {ρ:List Addr} {H:Hp} (lo:Int) (n:Nat):JA K ρ H (bH lo n,fun _=>True) (MP lo n):=by
 intro ρ' ar H' e sr g i
 refine ⟨fun u hu=>?_,fun hi=>?_⟩
 ·have hi:i<n:=by
   have:=fG hu
   simpa [bH] using this
  refine ⟨hi,fun x OZ y=>?_⟩
  obtain ⟨rfl,rfl⟩:=y
  have e:u=Val.int (lo+(i:Int)):=by
   simp only [bH,List.getElem?_map] at hu
   rw [List.getElem?_range hi] at hu
   exact (Option.some.inj hu).symm
  subst e
  exact ⟨Step.refl _ _,sr,Rl.mkInt _⟩
 ·show n<=i
  simpa [bH] using hi
noncomputable def cz (m:MA):MI:=fun μ st=>(m μ st).bind fun vs ar=>match vs with
 | [.int j]=>if -(2 ^ 62)<=j/\j<2 ^ 62 then .ok (bH 0 j.toNat,fun _=>True) ar else .bad
 | _=>.bad
theorem jd {a:Expr} {m:MA} (hg:Gl X "range") (hm:X.mg "range" = none) (ha:PA X [a] (tL X E m)) (hs:starEach [a] X.env=[(false,eval a X.env)]:=by rfl):PI X tg (.Call (.Name "range" p) [a] [] pos) (tI X E (cz m)):=by
 refine PI.imp (x9 hg hm ha hs) ?_
 rintro σ H R ⟨μ,ρ,st,rs,sr,h⟩
 refine go (R1:=aS X.K) μ ρ st rs sr h fun us aV ρ1 H1 xs e1 bW r1 h1=>?_
 split at h1
 ·rename_i j
  obtain ⟨v,rfl,rv⟩:=r1.tN
  split at h1
  ·rename_i hz
   exact ⟨j,by rw [rv.cj],hz.1,hz.2,h1 ρ1 H1 _ (Step.refl _ _) bW (yB 0 j.toNat)⟩
  ·exact h1.elim
 ·exact h1.elim
noncomputable def gv (st:ah):Val->Option (Bool × Itm)
 | .tup us=>some (false,us,fun _=>True)
 | .loc n=>(itemsOf st n).map fun us=>(true,us,fun ar=>itemsOf ar n=some us)
 | _=>none
noncomputable def iV:List Val->List Val->List Val
 | x::xs,y::ys=>.tup [x,y]::iV xs ys
 | _,_=>[]
theorem wY:∀ (us ws:List Val) (i:Nat),(∀ z,(iV us ws)[i]?=some z->∃ u w,us[i]?=some u/\ws[i]?=some w/\z=.tup [u,w])/\((iV us ws).length<=i->us.length<=i\/ws.length<=i)
 | [],_,i=>⟨fun z h=>(by cases h),fun _=>.inl (Nat.zero_le _)⟩
 | _::_,[],i=>⟨fun z h=>(by cases h),fun _=>.inr (Nat.zero_le _)⟩
 | u::us,w::ws,0=>⟨fun z h=>(by cases h; exact ⟨u,w,rfl,rfl,rfl⟩),fun h=>(by simp [iV] at h)⟩
 | u::us,w::ws,i+1=>by
  obtain ⟨a,b⟩:=wY us ws i
  refine ⟨fun z h=>a z h,fun h=>?_⟩
  have h':(iV us ws).length<=i:=by simpa [iV] using h
  rcases b h' with q | q
  ·exact .inl (by rw [List.length_cons]; lia)
  ·exact .inr (by rw [List.length_cons]; lia)
noncomputable def iH (b1 b2:Bool) (m:MA):MI:=fun μ st=>(m μ st).bind fun vs ar=>match vs with
 | [u,w]=>match gv ar u,gv ar w with
  | some (c1,us,g1),some (c2,ws,g2)=>if c1=b1/\c2=b2 then .ok (iV us ws,fun cJ=>g1 cJ/\g2 cJ) ar else .bad
  | _,_=>.bad
 | _=>.bad
theorem wZ {K:PySem.W.Frag} {ρ:List Addr} {st:ah} {H:Hp} {u:Val} {x:V} {c:Bool} {us:List Val} {g:ah->Prop} (sr:SR K ρ st H) (r:Rl K ρ H u x) (h:gv st u=some (c,us,g)) (OY:∀ {ρ':List Addr} {ar:ah} {H':Hp} {n a},SR K ρ' ar H'->itemsOf ar n=some us->ρ'[n]?=some a->∃ vs,kT K H' a vs/\aS K ρ' H' us vs) :
  ∃ a,x=.ref a/\∀ ρ' ar H',Step ρ H ρ' H'->SR K ρ' ar H'->g ar->∃ vs,vj c K H' a vs/\aS K ρ' H' us vs:=by
 cases u with
 | tup ws=>
  cases h
  obtain ⟨a,vs,rfl,ha,ra⟩:=r.fe
  exact ⟨a,rfl,fun ρ' ar H' e _ _=>⟨vs,e.OU ha,aS.mono e _ _ ra⟩⟩
 | loc n=>
  obtain ⟨a,rfl,ha⟩:=r.cZ
  cases z:itemsOf st n with
  | none=>simp only [gv,z] at h; cases h
  | some ws=>
   simp only [gv,z] at h
   cases h
   exact ⟨a,rfl,fun ρ' ar H' e s g=>OY s g (e.at_ ha)⟩
 | _=>cases h
theorem AO {st:ah} {u:Val} {c:Bool} {us:List Val} {g:ah->Prop} (h:gv st u=some (c,us,g)):g st:=by
 cases u with
 | tup ws=>cases h; exact True.intro
 | loc n=>
  cases z:itemsOf st n with
  | none=>simp only [gv,z] at h; cases h
  | some ws=>simp only [gv,z] at h; cases h; exact z
 | _=>cases h
theorem vq (b1 b2:Bool) {elts:List Expr} {kt:Nat} {tp:Pos} {ea eb:Expr} {m:MA} (hg:Gl X "zip") (hm:X.mg "zip" = none) (ha:PA X [ea,eb] (tL X E m)) (hs:starEach [ea,eb] X.env=[(false,eval ea X.env),(false,eval eb X.env)]:=by rfl) (dk:starEach [eb] X.env=[(false,eval eb X.env)]:=by rfl) :
  PI X (.Tuple elts kt tp) (.Call (.Name "zip" p) [ea,eb] [] pos) (tI X E (iH b1 b2 m)):=by
 refine PI.imp (Ht b1 b2 hg hm ha hs dk) ?_
 rintro σ H R ⟨μ,ρ,st,rs,sr,h⟩
 refine go (R1:=aS X.K) μ ρ st rs sr h fun us aV ρ1 H1 xs e1 bW r1 h1=>?_
 split at h1
 ·rename_i u w
  obtain ⟨x,y,rfl,rx,ry⟩:=r1.QY
  split at h1
  ·rename_i c1 Lf g1 c2 Sl g2 z1 z2
   split at h1
   ·rename_i hc
    obtain ⟨rfl,rfl⟩:=hc
    obtain ⟨a,rfl,ka⟩:=wZ bW rx z1 fun s g h=>bc s g h
    obtain ⟨b,rfl,kb⟩:=wZ bW ry z2 fun s g h=>bc s g h
    obtain ⟨v1,q1,_⟩:=ka ρ1 aV H1 (Step.refl _ _) bW (AO z1)
    obtain ⟨v2,q2,_⟩:=kb ρ1 aV H1 (Step.refl _ _) bW (AO z2)
    refine ⟨a,b,rfl,⟨v1,q1⟩,⟨v2,q2⟩,h1 ρ1 H1 _ (Step.refl _ _) bW ?_⟩
    intro ρ' ar H' e s g i
    obtain ⟨w1,s1,t1⟩:=ka ρ' ar H' e s g.1
    obtain ⟨w2,s2,t2⟩:=kb ρ' ar H' e s g.2
    obtain ⟨k1,k2⟩:=wY Lf Sl i
    refine ⟨fun z hz=>?_,fun hi=>⟨w1,w2,s1,s2,?_⟩⟩
    ·obtain ⟨u',w',O0,O1,rfl⟩:=k1 z hz
     obtain ⟨p1,p2,p3⟩:=t1.get O0
     obtain ⟨o1,o2,o3⟩:=t2.get O1
     refine ⟨⟨w1,w2,p1,o1,s1,s2,p2,o2⟩,fun x' OZ y'=>?_⟩
     obtain ⟨pp,x1,y1,rfl,hp,rfl,f1,f2⟩:=y'
     have c1:=(f1 w1 s1).symm.trans p2
     have c2:=(f2 w2 s2).symm.trans o2
     cases c1
     cases c2
     exact ⟨Step.same (c_ hp),s.grow (c_ hp),Rl.nU bU (aS.mono (Step.same (c_ hp)) _ _ (aS.cons p3 (aS.one o3)))⟩
    ·rw [<-t1.length,<-t2.length]; exact k2 hi
   ·exact h1.elim
  ·exact h1.elim
 ·exact h1.elim
end
open Classical in
noncomputable def forL (g:ah->Prop) (a:AS) (body:MB):List Val->MB
 | [],μ,st=>if g st then .nx μ st else .bad
 | u::us,μ,st=>if g st then (match a u μ with
  | some μ1=>match body μ1 st with
   | .nx μ' ar=>forL g a body us μ' ar
   | .ct μ' ar=>forL g a body us μ' ar
   | .bk μ' ar=>.nx μ' ar
   | .rt v ar=>.rt v ar
   | .er c μ' ar=>.er c μ' ar
   | .bad=>.bad
  | none=>.bad) else .bad
noncomputable def gJ (it:MI) (a:AS) (body:MB):MB:=fun μ st=>(it μ st).sb μ fun p ar=>forL p.2 a body p.1 μ ar
section
variable {X:Cx} {E:XK} {tg:Expr} {pos p:Pos}
theorem jJ {iter:Expr} {sb:List Stmt} {it:MI} {a:AS} {body:MB} (hp:PassesOwn (model X.prog X.w) X.A X.env X.xe) (hc:X.calm=true) (hi:PI X tg iter (tI X E it)) (hg:PG X tg (tA (wo X) a)) (hb:jZ X sb (tS X E body))
  (hs:∀ x,foldedSetIterable iter X.env x=pure x:=by intro _; rfl):PS X (.For tg iter sb [] pos) (tS X E (gJ it a body)):=by
 refine PS.imp (GN hp hc hi hg hb hs) ?_
 rintro D σ H ⟨μ,ρ,st,rs,sr,h⟩
 refine DY (R1:=JA X.K) μ ρ st rs sr h fun pr aV ρ1 H1 J e1 bW rJ h1=>?_
 obtain ⟨us,g⟩:=pr
 refine ⟨fun i m σ' H'=>m=us.length-i/\i<=us.length/\∃ μ' ρ' ar,Step ρ1 H1 ρ' H'/\RS (wo X) ρ' H' μ' σ'/\SR X.K ρ' ar H'/\wS (wo X) E ρ' H' D (forL g a body (us.drop i) μ' ar),
  ⟨us.length,by simp,Nat.zero_le _,μ,ρ1,aV,Step.refl _ _,rs.mono e1,bW,h1⟩,?_⟩
 rintro i m σ' H' ⟨rfl,hi,μ',ρ',ar,e',w6,w_,h'⟩
 by_cases pC:i<us.length
 ·rw [List.drop_eq_getElem_cons pC] at h'
  unfold forL at h'
  by_cases pj:g ar
  ·rw [if_pos pj] at h'
   obtain ⟨k1,k2⟩:=rJ ρ' ar H' e' w_ pj i
   obtain ⟨go',yl⟩:=k1 _ (List.getElem?_eq_getElem pC)
   refine .inr ⟨go',fun σ2 H2=>i+1<=us.length/\∃ μ2 ρ2 cJ,Step ρ1 H1 ρ2 H2/\RS (wo X) ρ2 H2 μ2 σ2/\SR X.K ρ2 cJ H2/\wS (wo X) E ρ2 H2 D (forL g a body (us.drop (i+1)) μ2 cJ),fun σ2 H2 n=>⟨us.length-(i+1),by lia,rfl,n.1,n.2⟩,fun x H2 y=>?_⟩
   obtain ⟨e2,pE,r2⟩:=yl x H2 y
   cases z:a us[i] μ' with
   | none=>rw [z] at h'; exact h'.elim
   | some μ1=>
    rw [z] at h'
    dsimp only at h'
    refine ⟨μ',ρ',us[i],μ1,w6.mono e2,r2,z,fun σ3 JB=>⟨μ1,ρ',ar,JB,pE,?_⟩⟩
    cases zb:body μ1 ar with
    | nx μ4 mT=>
     rw [zb] at h'
     intro ρ4 H4 σ4 e4 oh vt
     exact ⟨by lia,μ4,ρ4,mT,(e'.trans e2).trans e4,vt,oh,wS.mono h' (e2.trans e4)⟩
    | ct μ4 mT=>
     rw [zb] at h'
     intro ρ4 H4 σ4 e4 oh vt
     exact ⟨by lia,μ4,ρ4,mT,(e'.trans e2).trans e4,vt,oh,wS.mono h' (e2.trans e4)⟩
    | bk μ4 mT=>rw [zb] at h'; exact fun ρ4 H4 σ4 e4 oh vt=>h' ρ4 H4 σ4 (e2.trans e4) oh vt
    | rt v mT=>rw [zb] at h'; exact fun ρ4 H4 σ4 e4 oh vt=>h' ρ4 H4 σ4 (e2.trans e4) oh vt
    | er c μ4 mT=>rw [zb] at h'; obtain ⟨C,q1,q2⟩:=h'; exact ⟨C,q1,fun ρ4 H4 e4 oh=>q2 ρ4 H4 (e2.trans e4) oh⟩
    | bad=>rw [zb] at h'; exact h'
  ·rw [if_neg pj] at h'; exact h'.elim
 ·have CJ:i=us.length:=by lia
  subst CJ
  rw [List.drop_length] at h'
  unfold forL at h'
  by_cases pj:g ar
  ·rw [if_pos pj] at h'
   exact .inl ⟨(rJ ρ' ar H' e' w_ pj us.length).2 (Nat.le_refl _),h' ρ' H' σ' (Step.refl _ _) w_ w6⟩
  ·rw [if_neg pj] at h'; exact h'.elim
end
noncomputable def cf (t:MT) (body:MB):Nat->Env->ah->Option dm
 | 0,_,_=>none
 | n+1,μ,st=>match t μ st with
  | .ok true aV=>match body μ aV with
   | .nx μ' ar=>cf t body n μ' ar
   | .ct μ' ar=>cf t body n μ' ar
   | .bk μ' ar=>some (.nx μ' ar)
   | .rt v ar=>some (.rt v ar)
   | .er c μ' ar=>some (.er c μ' ar)
   | .bad=>some .bad
  | .ok false aV=>some (.nx μ aV)
  | .err c aV=>some (.er c μ aV)
  | .bad=>some .bad
open Classical in
noncomputable def gw (t:MT) (body:MB):MB:=fun μ st=>if h:∃ n r,cf t body n μ st=some r then h.choose_spec.choose else .bad
theorem iW {t:MT} {body:MB}:∀ {n m:Nat} {μ:Env} {st:ah} {r r':dm},cf t body n μ st=some r->cf t body m μ st=some r'->r=r'
 | 0,_,_,_,_,_,h,_=>by cases h
 | _+1,0,_,_,_,_,_,h=>by cases h
 | n+1,m+1,μ,st,r,r',h,h'=>by
  unfold cf at h h'
  split at h
  ·rename_i aV e
   rw [e] at h'
   dsimp only at h'
   split at h
   all_goals (rename_i eb; rw [eb] at h'; dsimp only at h')
   ·exact iW h h'
   ·exact iW h h'
   all_goals (cases h; cases h'; rfl)
  all_goals (rename_i e; rw [e] at h'; dsimp only at h'; cases h; cases h'; rfl)
theorem je {t:MT} {body:MB} {n:Nat} {μ:Env} {st:ah} {r:dm} (h:cf t body n μ st=some r):gw t body μ st=r:=by
 have hx:∃ n r,cf t body n μ st=some r:=⟨n,r,h⟩
 unfold gw
 rw [dif_pos hx]
 exact iW hx.choose_spec.choose_spec h
section
variable {X:Cx} {E:XK} {pos:Pos}
theorem tR {c:Expr} {sb:List Stmt} {t:MT} {body:MB} (hp:PassesOwn (model X.prog X.w) X.A X.env X.xe) (hc:PT X c (tT X E t)) (hb:jZ X sb (tS X E body)):PS X (.While c sb [] pos) (tS X E (gw t body)):=by
 refine PS.imp (zM hp hc hb) ?_
 rintro D σ H ⟨μ,ρ,st,rs,sr,h⟩
 unfold gw at h
 split at h
 ·rename_i hx
  have hr:=hx.choose_spec.choose_spec
  refine ⟨fun m σ' H'=>∃ μ' ρ' ar r,Step ρ H ρ' H'/\RS (wo X) ρ' H' μ' σ'/\SR X.K ρ' ar H'/\cf t body m μ' ar=some r/\wS (wo X) E ρ' H' D r,⟨_,μ,ρ,st,_,Step.refl _ _,rs,sr,hr,h⟩,?_⟩
  rintro m σ' H' ⟨μ',ρ',ar,r,e',w6,w_,hw,hq⟩
  cases m with
  | zero=>cases hw
  | succ m=>
   unfold cf at hw
   refine ⟨μ',ρ',ar,w6,w_,?_⟩
   cases z:t μ' ar with
   | ok k aV=>
    rw [z] at hw
    intro ρ1 H1 k' e1 bW ek
    cases ek
    cases k with
    | true=>
     dsimp only at hw
     rw [if_pos rfl]
     refine ⟨fun σ2 H2=>∃ μ2 ρ2 cJ r2,Step ρ H ρ2 H2/\RS (wo X) ρ2 H2 μ2 σ2/\SR X.K ρ2 cJ H2/\cf t body m μ2 cJ=some r2/\wS (wo X) E ρ2 H2 D r2,fun σ2 H2 n=>⟨m,Nat.lt_succ_self m,n⟩,μ',ρ1,aV,w6.mono e1,bW,?_⟩
     cases zb:body μ' aV with
     | nx μ4 mT=>
      rw [zb] at hw
      intro ρ4 H4 σ4 e4 oh vt
      exact ⟨μ4,ρ4,mT,r,(e'.trans e1).trans e4,vt,oh,hw,wS.mono hq (e1.trans e4)⟩
     | ct μ4 mT=>
      rw [zb] at hw
      intro ρ4 H4 σ4 e4 oh vt
      exact ⟨μ4,ρ4,mT,r,(e'.trans e1).trans e4,vt,oh,hw,wS.mono hq (e1.trans e4)⟩
     | bk μ4 mT=>rw [zb] at hw; cases hw; exact fun ρ4 H4 σ4 e4 oh vt=>hq ρ4 H4 σ4 (e1.trans e4) oh vt
     | rt v mT=>rw [zb] at hw; cases hw; exact fun ρ4 H4 σ4 e4 oh vt=>hq ρ4 H4 σ4 (e1.trans e4) oh vt
     | er c μ4 mT=>rw [zb] at hw; cases hw; obtain ⟨C,q1,q2⟩:=hq; exact ⟨C,q1,fun ρ4 H4 e4 oh=>q2 ρ4 H4 (e1.trans e4) oh⟩
     | bad=>rw [zb] at hw; cases hw; exact hq
    | false=>
     cases hw
     rw [if_neg Bool.false_ne_true]
     exact hq ρ1 H1 σ' e1 bW (w6.mono e1)
   | err c aV=>rw [z] at hw; cases hw; exact hq
   | bad=>rw [z] at hw; cases hw; exact hq
 ·exact h.elim
end
noncomputable def lq (k:Nat) (caps:List Nat) (μ:Env):Env:=List.replicate k none++caps.map fun j=>(μ[j]?).getD none
theorem RS.Lg {W:Wo} {ρ:List Addr} {H:Hp} {μ:Env} {σ:L2.St} (r:RS W ρ H μ σ) (k:Nat) (caps:List Nat):RS W ρ H (lq k caps μ) (mR k caps σ):=by
 refine ⟨by simp [lq,mR],fun i u e=>?_⟩
 unfold lq at e
 rcases Nat.lt_or_ge i k with q | q
 ·rw [List.getElem?_append_left (by rw [List.length_replicate]; exact q),List.getElem?_replicate,if_pos q] at e
  cases e
 ·rw [List.getElem?_append_right (by rw [List.length_replicate]; exact q),List.length_replicate,List.getElem?_map] at e
  cases z:caps[i-k]? with
  | none=>rw [z] at e; cases e
  | some j=>
   rw [z] at e
   have e':(μ[j]?).getD none=some u:=Option.some.inj e
   have e2:μ[j]?=some (some u):=by
    cases y:μ[j]? with
    | none=>rw [y] at e'; cases e'
    | some w=>rw [y] at e'; exact congrArg _ e'
   obtain ⟨v,h1,h2⟩:=r.at_ j u e2
   refine ⟨v,?_,h2⟩
   unfold mR
   rw [List.getElem?_append_right (by rw [List.length_replicate]; exact q),List.length_replicate,List.getElem?_map,z]
   show some ((σ[j]?).getD none)=_
   rw [h1]
   rfl
open Classical in
noncomputable def fg (g:ah->Prop) (a:AS) (c:MT) (e:ME):List Val->Env->ah->List Val->Res (List Val)
 | [],_,st,ys=>if g st then .ok ys st else .bad
 | u::us,τ,st,ys=>if g st then (match a u τ with
  | some τ1=>match c τ1 st with
   | .ok true aV=>match e τ1 aV with
    | .ok y cJ=>fg g a c e us τ1 cJ (ys++[y])
    | .err _ _=>.bad
    | .bad=>.bad
   | .ok false aV=>fg g a c e us τ1 aV ys
   | .err _ _=>.bad
   | .bad=>.bad
  | none=>.bad) else .bad
noncomputable def cD (k:Nat) (caps:List Nat) (it:MI) (a:AS) (c:MT) (e:ME):ME:=fun μ st=>(it μ st).bind fun p aV=>
 if p.1.length<=sizeLine then (fg p.2 a c e p.1 (lq k caps μ) aV []).bind fun ys cJ=>.ok (.loc cJ.length) (cJ++[.lst ys]) else .bad
noncomputable def bz:MT:=fun _ st=>.ok true st
noncomputable abbrev W0 (X:Cx):Wo:=⟨X.K,X.mg,[]⟩
section
variable {X:Cx} {E:XK} {tg elt iter:Expr} {ifs:List Expr} {scope:Scope} {pos OG:Pos} {N:List Str} {cl:List (Str × Addr)} {k:Nat} {caps:List Nat} {it:MI} {a:AS} {c:MT} {e:ME}
theorem yC (JC:X.pn=[]) {σ:L2.St} {H:Hp} {Q:VK} (h:tE X E (cD k caps it a c e) σ H Q):qa k caps (tI X E it) (tA (W0 X) a) (tG (W0 X) E0 RB c) (tG (W0 X) E0 (Rl X.K) e) σ H Q:=by
 obtain ⟨μ,ρ,st,rs,sr,h⟩:=h
 refine Ai (go (R1:=JA X.K) μ ρ st rs sr h fun pr aV ρ1 H1 J e1 bW rJ h1=>?_)
 obtain ⟨us,g⟩:=pr
 have ew:wo X=W0 X:=by show Wo.mk _ _ _=_; rw [JC]
 have Jz:=rs.mono e1
 rw [ew] at Jz h1
 dsimp only at h1
 split at h1
 ·rename_i hz
  refine DJ us.length hz (fun i ys τ H'=>∃ μτ ρ' ar yv,Step ρ1 H1 ρ' H'/\RS (W0 X) ρ' H' μτ τ/\SR X.K ρ' ar H'/\aS X.K ρ' H' yv ys/\yv.length<=i/\wR (W0 X) E (Rl X.K) ρ' H' Q ((fg g a c e (us.drop i) μτ ar yv).bind fun (zs:List Val) (cJ:ah)=>Res.ok (Val.loc cJ.length) (cJ++[Cell.lst zs])))
   ⟨lq k caps μ,ρ1,aV,[],Step.refl _ _,Jz.Lg k caps,bW,aS.nil,Nat.le_refl _,h1⟩ ?_ ?_ ?_ ?_ ?_
  ·rintro i ys τ H' hi ⟨μτ,ρ',ar,yv,e',w6,w_,ry,hl,hq⟩
   rw [List.drop_eq_getElem_cons hi] at hq
   unfold fg at hq
   by_cases pj:g ar
   ·exact ((rJ ρ' ar H' e' w_ pj i).1 _ (List.getElem?_eq_getElem hi)).1
   ·rw [if_neg pj] at hq; exact hq.elim
  ·rintro ys τ H' ⟨μτ,ρ',ar,yv,e',w6,w_,ry,hl,hq⟩
   rw [List.drop_length] at hq
   unfold fg at hq
   by_cases pj:g ar
   ·exact (rJ ρ' ar H' e' w_ pj us.length).2 (Nat.le_refl _)
   ·rw [if_neg pj] at hq; exact hq.elim
  ·rintro i ys τ H' ⟨μτ,ρ',ar,yv,e',w6,w_,ry,hl,hq⟩
   rw [<-ry.length]; exact hl
  ·rintro i ys τ H' x H2 hi ⟨μτ,ρ',ar,yv,e',w6,w_,ry,hl,hq⟩ y K1 hK
   rw [List.drop_eq_getElem_cons hi] at hq
   unfold fg at hq
   by_cases pj:g ar
   ·rw [if_pos pj] at hq
    obtain ⟨e2,pE,r2⟩:=((rJ ρ' ar H' e' w_ pj i).1 _ (List.getElem?_eq_getElem hi)).2 x H2 y
    cases z:a us[i] μτ with
    | none=>rw [z] at hq; exact hq.elim
    | some τ1=>
     rw [z] at hq
     dsimp only at hq
     refine ⟨μτ,ρ',us[i],τ1,w6.mono e2,r2,z,fun σ3 JB=>⟨τ1,ρ',ar,JB,pE,?_⟩⟩
     cases zc:c τ1 ar with
     | ok b jo=>
      rw [zc] at hq
      intro ρ3 H3 b' e3 zC eb
      cases eb
      cases b with
      | true=>
       dsimp only at hq
       rw [if_pos rfl]
       refine ⟨τ1,ρ3,jo,JB.mono e3,zC,?_⟩
       cases ze:e τ1 jo with
       | ok v mT=>
        rw [ze] at hq
        intro ρ4 H4 y4 e4 oh r4
        exact hK _ _ _ ⟨τ1,ρ4,mT,yv++[v],((e'.trans e2).trans e3).trans e4,(JB.mono e3).mono e4,oh,(aS.mono ((e2.trans e3).trans e4) _ _ ry).append (aS.one r4),by rw [List.length_append,List.length_singleton]; lia,wR.mono hq ((e2.trans e3).trans e4)⟩
       | err c' mT=>rw [ze] at hq; exact hq.elim
       | bad=>rw [ze] at hq; exact hq.elim
      | false=>
       dsimp only at hq
       rw [if_neg Bool.false_ne_true]
       exact hK _ _ _ ⟨τ1,ρ3,jo,yv,(e'.trans e2).trans e3,JB.mono e3,zC,aS.mono (e2.trans e3) _ _ ry,by lia,wR.mono hq (e2.trans e3)⟩
     | err c' jo=>rw [zc] at hq; exact hq.elim
     | bad=>rw [zc] at hq; exact hq.elim
   ·rw [if_neg pj] at hq; exact hq.elim
  ·rintro ys τ H' p ⟨μτ,ρ',ar,yv,e',w6,w_,ry,hl,hq⟩ hp
   rw [List.drop_length] at hq
   unfold fg at hq
   by_cases pj:g ar
   ·rw [if_pos pj] at hq
    obtain ⟨k1,k2,k3⟩:=gg w_ ry hp
    exact hq _ _ _ k1 k2 k3
   ·rw [if_neg pj] at hq; exact hq.elim
 ·exact h1.elim
theorem gj (hc:X.calm=true) (JC:X.pn=[]) (B:yk X N scope cl k caps) (hi:PI X tg iter (tI X E it)) (hg:∀ C fp s H,PG (uX X N scope cl C fp s H) tg (tA (W0 X) a)) (OH:∀ C fp s H,FJ (uX X N scope cl C fp s H) ifs (tG (W0 X) E0 RB c))
  (he:∀ C fp s H,PE (uX X N scope cl C fp s H) elt (tG (W0 X) E0 (Rl X.K) e)) (hs:∀ x,foldedSetIterable iter X.env x=pure x:=by intro _; rfl):PE X (.ListComp elt [⟨tg,iter,ifs,0⟩] scope pos) (tE X E (cD k caps it a c e)):=
 PE.imp (DI hc B hi hg OH he hs) fun _ _ _ h=>yC JC h
theorem hZ {C fp s H}:FJ (uX X N scope cl C fp s H) [] (tG (W0 X) E0 RB bz):=by
 intro pins s' σ H' Q I q
 refine DF pins s' σ H' Q I ?_
 obtain ⟨μ,ρ,st,rs,sr,h⟩:=q
 exact h ρ H' true (Step.refl _ _) sr rfl
theorem D7 {cc:Expr} {C fp s H} (h:PT (uX X N scope cl C fp s H) cc (tG (W0 X) E0 RB c)):FJ (uX X N scope cl C fp s H) [cc] (tG (W0 X) E0 RB c):=DG h
theorem Lh {P:Program} {w:World} {C fp s H}:Passes (k_ P w) (uX X N scope cl C fp s H) E0:=by
 rintro pins σ H' s' e s2 I ⟨ea,cls,H2,_,_,q⟩
 exact q.elim
end
noncomputable abbrev FM:=Val->List Val->ah->Res Val
noncomputable def JD (W:Wo) (E:XK) (f:FM):V->List V->Hp->VK->Prop:=fun x xs H Q=>∃ ρ st u us,SR W.K ρ st H/\Rl W.K ρ H u x/\aS W.K ρ H us xs/\wR W E (Rl W.K) ρ H Q (f u us st)
noncomputable def mw (st:ah):Val->Bool
 | .loc n=>match st[n]? with
  | some (.lst _)=>true
  | _=>false
 | _=>false
noncomputable def fH (f:FM) (o:ME) (a:MA):ME:=fun μ st=>(o μ st).bind fun x aV=>if mw aV x=true then (a μ aV).bind fun xs cJ=>f x xs cJ else .bad
noncomputable def bX:FM
 | .loc n,[v],st=>match st[n]? with
  | some (.lst us)=>if us.length<sizeLine then .ok .bD (st.set n (.lst (us++[v]))) else .bad
  | _=>.bad
 | _,_,_=>.bad
section
variable {X:Cx} {E:XK} {o e:Expr} {es:List Expr} {mo:ME} {ms:MA} {apos a7:Pos} {f:FM}
theorem tm.imp {id:String} {r r':V->List V->Hp->VK->Prop} (h:tm X id r) (k:∀ x xs H Q,r' x xs H Q->r x xs H Q):tm X id r':=fun pins s σ H x xs v us Q I rx rs q=>h pins s σ H x xs v us Q I rx rs (k x xs H Q q)
theorem xc {K:PySem.W.Frag} {ρ:List Addr} {st:ah} {H:Hp} {n:Nat} {us sU:List Val} {a:Addr} {vs pF:List V} (sr:SR K ρ st H) (h:st[n]?=some (.lst us)) (ha:ρ[n]?=some a) (hH:H a=some (.lst vs)) (r:aS K ρ H sU pF) :
  Step ρ H ρ (upd H a (.lst pF))/\SR K ρ (st.set n (.lst sU)) (upd H a (.lst pF)):=by
 have e:Step ρ H ρ (upd H a (.lst pF)):=Step.put hH (fun _ z=>by cases z) (fun _ _ z=>by cases z)
 exact ⟨e,sr.set h rfl rfl ha hH (fun _ z=>by cases z) (fun _ _ z=>by cases z) ⟨pF,bU,aS.mono e _ _ r⟩⟩
theorem vx:tm X "list.append" (JD (wo X) E bX):=by
 refine tm.imp ye ?_
 rintro x xs H Q ⟨ρ,st,u,us,sr,r1,r2,h⟩
 unfold bX at h
 split at h
 ·rename_i n v
  obtain ⟨a,rfl,ha⟩:=r1.cZ
  obtain ⟨y,rfl,ry⟩:=r2.tN
  split at h
  ·rename_i ws hw
   split at h
   ·rename_i hz
    obtain ⟨vs,hH,rv⟩:=sr.cell n _ a hw ha
    refine ⟨a,vs,y,rfl,rfl,hH,by rw [<-rv.length]; exact hz,?_⟩
    obtain ⟨k1,k2⟩:=xc sr hw ha hH (rv.append (aS.one ry))
    exact h ρ _ _ k1 k2 Rl.tO
   ·exact h.elim
  ·exact h.elim
 ·exact h.elim
theorem tU {K:PySem.W.Frag} {ρ:List Addr} {st:ah} {H:Hp} {u:Val} {x:V} (sr:SR K ρ st H) (r:Rl K ρ H u x) (h:mw st u=true):MS K "list" x H:=by
 cases u with
 | loc n=>
  obtain ⟨a,rfl,ha⟩:=r.cZ
  obtain ⟨c,hc,kc⟩:=sr.there ha
  simp only [mw,hc] at h
  cases c with
  | lst us=>obtain ⟨vs,h1,_⟩:=kc; exact .inl ⟨rfl,vs,kT.of h1⟩
  | _=>cases h
 | _=>cases h
theorem vy {name:Str} {id:String} (slot:Slot "list" name id) (Du:typeOf (.builtin id)=pure (.type "method_descriptor")) (hm:tm X id (JD (wo X) E f)) (ho:PE X o (tE X E mo)) (ha:PA X (e::es) (tL X E ms))
  (fO:attributeBase o name X.env (eval o X.env)=eval o X.env:=by rfl)
  (rm:((backTo a7 (starEach (e::es) X.env)).all (fun x => !x.1)&&(backToKw a7 (keywordEach [] X.env)).all (fun x=>x.1.isSome)
   && decide ((e::es).length+([]:List Keyword).length+(if ([]:List Keyword).isEmpty then 0 else 1)<30))=true:=by rfl)
  (fP:(apos.endLine==a7.line)=true:=by rfl) (hs:starEach (e::es) X.env=(false,eval e X.env)::starEach es X.env:=by rfl) (gW:(backTo a7 (starEach es X.env)).any (·.1)=false:=by rfl) :
  PE X (.Call (.Attribute o name apos) (e::es) [] a7) (tE X E (fH f mo ms)):=by
 refine PE.imp (Kv PySem.F.plainAttrs_list slot Du hm ho ha fO rm fP hs gW) ?_
 rintro σ H Q ⟨μ,ρ,st,rs,sr,h⟩
 refine go μ ρ st rs sr h fun u aV ρ1 H1 x e1 bW r1 h1=>?_
 split at h1
 ·rename_i hz
  refine ⟨tU bW r1 hz,?_⟩
  refine go (R1:=aS X.K) μ ρ1 aV (rs.mono e1) bW h1 fun us cJ ρ2 H2 xs e2 pE r2 h2=>?_
  exact ⟨ρ2,cJ,u,us,pE,Rl.mono e2 _ _ r1,r2,h2⟩
 ·exact h1.elim
end
noncomputable def JE {α β:Type} (W:Wo) (R:List Addr->Hp->α->β->Prop) (ρ:List Addr) (H:Hp) (Q:β->Hp->Prop) (EX:EH):Res α->Prop
 | .ok u ar=>∀ ρ' H' v,Step ρ H ρ' H'->SR W.K ρ' ar H'->R ρ' H' u v->Q v H'
 | .err c ar=>∃ C,W.mg c=some (.ref C)/\∀ ρ' H' ea,Step ρ H ρ' H'->SR W.K ρ' ar H'->EX (.ref C) ea H'
 | .bad=>False
theorem JE.mono {α β:Type} {W:Wo} {R:List Addr->Hp->α->β->Prop} {ρ ρ':List Addr} {H H':Hp} {Q:β->Hp->Prop} {EX:EH} {r:Res α} (h:JE W R ρ H Q EX r) (e:Step ρ H ρ' H'):JE W R ρ' H' Q EX r:=by
 cases r with
 | ok u st=>exact fun ρ2 H2 v e2 s r=>h ρ2 H2 v (e.trans e2) s r
 | err c st=>obtain ⟨C,h1,h2⟩:=h; exact ⟨C,h1,fun ρ2 H2 ea e2 s=>h2 ρ2 H2 ea (e.trans e2) s⟩
 | bad=>exact h
noncomputable def Nc (X:Cx) (m:ME):K7:=fun σ H Q EX=>∃ μ ρ st,RS (wo X) ρ H μ σ/\SR X.K ρ st H/\JE (wo X) (Rl X.K) ρ H Q EX (m μ st)
noncomputable def D8 (W:Wo) (ρ:List Addr) (H:Hp) (D:Ends) (EX:EK):dm->Prop
 | .nx μ st=>∀ ρ' H' σ',Step ρ H ρ' H'->SR W.K ρ' st H'->RS W ρ' H' μ σ'->D.nx σ' H'
 | .rt v st=>∀ ρ' H' x,Step ρ H ρ' H'->SR W.K ρ' st H'->Rl W.K ρ' H' v x->D.rt x H'
 | .bk μ st=>∀ ρ' H' σ',Step ρ H ρ' H'->SR W.K ρ' st H'->RS W ρ' H' μ σ'->D.bk σ' H'
 | .ct μ st=>∀ ρ' H' σ',Step ρ H ρ' H'->SR W.K ρ' st H'->RS W ρ' H' μ σ'->D.ct σ' H'
 | .er c μ st=>∃ C,W.mg c=some (.ref C)/\∀ ρ' H' σ' ea,Step ρ H ρ' H'->SR W.K ρ' st H'->RS W ρ' H' μ σ'->EX (.ref C) ea σ' H'
 | .bad=>False
theorem D8.mono {W:Wo} {ρ ρ':List Addr} {H H':Hp} {D:Ends} {EX:EK} {r:dm} (h:D8 W ρ H D EX r) (e:Step ρ H ρ' H'):D8 W ρ' H' D EX r:=by
 cases r with
 | nx μ st=>exact fun ρ2 H2 σ2 e2 s r=>h ρ2 H2 σ2 (e.trans e2) s r
 | rt v st=>exact fun ρ2 H2 x e2 s r=>h ρ2 H2 x (e.trans e2) s r
 | bk μ st=>exact fun ρ2 H2 σ2 e2 s r=>h ρ2 H2 σ2 (e.trans e2) s r
 | ct μ st=>exact fun ρ2 H2 σ2 e2 s r=>h ρ2 H2 σ2 (e.trans e2) s r
 | er c μ st=>obtain ⟨C,h1,h2⟩:=h; exact ⟨C,h1,fun ρ2 H2 σ2 ea e2 s r=>h2 ρ2 H2 σ2 ea (e.trans e2) s r⟩
 | bad=>exact h
noncomputable def JF (X:Cx) (m:MB):Hw:=fun D EX σ H=>∃ μ ρ st,RS (wo X) ρ H μ σ/\SR X.K ρ st H/\D8 (wo X) ρ H D EX (m μ st)
noncomputable def zD {α:Type} (m:Env->ah->Res α):Env->ah->Res α:=fun μ st=>match m μ st with
 | .ok v ar=>.ok v ar
 | .err _ _=>.bad
 | .bad=>.bad
section
variable {X:Cx} {pos p:Pos} {e:Expr} {es:List Expr} {m:ME} {ms:MA} {f:FN} {x:Str}
theorem DQ.imp {t t':K7} (h:DQ X e t) (k:∀ σ H Q EX,t' σ H Q EX->t σ H Q EX):DQ X e t':=fun pins s σ H Q EX I q=>h pins s σ H Q EX I (k σ H Q EX q)
theorem DR.imp {st:Stmt} {t t':Hw} (h:DR X st t) (k:∀ D EX σ H,t' D EX σ H->t D EX σ H):DR X st t':=fun pins s σ H D EX I q=>h pins s σ H D EX I (k D EX σ H q)
theorem AQ {k:Nat} {fa:Addr} {fd:FuncData} {ps:List Str} (F:iO X.prog X.w X.K X.mg X.base (k_ X.prog X.w) k fa fd ps (HH ⟨X.K,X.mg,[]⟩ f)) (hr:eM k X.A) (hg:Gl X x) (hm:X.mg x=some (.ref fa)) (hk:PySem.W.keepIn X.K (.ref fa)=true) (hb:Binds X.K fd ps []) (zI:∀ y,X.fn y=true) (ha:∀ W,PA (X.nG W) (e::es) (tL X E0 ms))
  (j7:(x==("__debug__":Str))=false:=by decide) (he:starEach (e::es) X.env=(false,eval e X.env)::starEach es X.env:=by rfl) (iF:(backTo pos (starEach es X.env)).any (·.1)=false:=by rfl) :
  DQ X (.Call (.Name x p) (e::es) [] pos) (Nc X (ak f (zD ms))):=by
 refine DQ.imp (Ar F hr hg hm hk hb zI ha j7 he iF) ?_
 rintro σ H Q EX ⟨μ,ρ,st,rs,sr,h⟩
 refine ⟨μ,ρ,st,rs,sr,?_⟩
 unfold ak zD at h
 cases z:ms μ st with
 | ok us aV=>
  rw [z] at h
  intro ρ1 H1 vs e1 bW r1
  refine ⟨us,ρ1,aV,r1,bW,?_⟩
  have h':JE (wo X) (Rl X.K) ρ1 H1 Q EX (f us aV):=JE.mono h e1
  revert h'
  cases f us aV with
  | ok u cJ=>exact fun q=>q
  | err c cJ=>exact fun ⟨C,q1,q2⟩=>⟨C,q1,fun ρ2 H2 e2 s2 ea=>q2 ρ2 H2 ea e2 s2⟩
  | bad=>exact fun q=>q
 | err c ar=>rw [z] at h; exact h.elim
 | bad=>rw [z] at h; exact h
theorem HP {σ:L2.St} {H:Hp} {D:Ends} {EX:EK} {k:Val->ah->dm} {μ:Env} {ρ:List Addr} {st:ah} (rs:RS (wo X) ρ H μ σ) (sr:SR X.K ρ st H) (h:D8 (wo X) ρ H D EX ((m μ st).sb μ k)) {Q:VK}
  (c:∀ u aV ρ1 H1 x,Step ρ H ρ1 H1->SR X.K ρ1 aV H1->Rl X.K ρ1 H1 u x->D8 (wo X) ρ1 H1 D EX (k u aV)->Q x H1):Nc X m σ H Q fun cls ea H'=>EX cls ea σ H':=by
 refine ⟨μ,ρ,st,rs,sr,?_⟩
 cases z:m μ st with
 | ok u aV=>rw [z] at h; exact fun ρ1 H1 x e1 bW r1=>c u aV ρ1 H1 x e1 bW r1 (D8.mono h e1)
 | err c' aV=>rw [z] at h; obtain ⟨C,q1,q2⟩:=h; exact ⟨C,q1,fun ρ2 H2 ea e2 s2=>q2 ρ2 H2 σ ea e2 s2 (rs.mono e2)⟩
 | bad=>rw [z] at h; exact h
theorem D9 (he:DQ X e (Nc X m)):DR X (.Return (some e) pos) (JF X (aR m)):=by
 refine DR.imp (DS he) ?_
 rintro D EX σ H ⟨μ,ρ,st,rs,sr,h⟩
 exact HP rs sr h fun u aV ρ1 H1 x e1 bW r1 h1=>h1 ρ1 H1 x (Step.refl _ _) bW r1
theorem D_ {s1:Stmt} {a:MB} (h:DR X s1 (JF X a)):Aq X [s1] (JF X a):=As h
noncomputable abbrev MH:=Str->MB
noncomputable def vz:MH:=fun _ _ _=>.bad
noncomputable def vA:dm->dm
 | .rt v st=>.rt v st
 | _=>.bad
noncomputable def Q0 (sub:Str->Str->Option Bool) (x:Str) (iG:MB) (rest:MH):MH:=fun c μ st=>match sub c x with
 | some true=>vA (iG μ st)
 | some false=>rest c μ st
 | none=>.bad
noncomputable def CN (sub:Str->Str->Option Bool) (x:Str) (i:Nat) (iG:MB) (rest:MH):MH:=fun c μ st=>match sub c x with
 | some true=>vA (iG (μ.set i (some (.exc c))) st)
 | some false=>rest c μ st
 | none=>.bad
noncomputable def oj (kn:Str->Bool) (body:MB) (h:MH):MB:=fun μ st=>match body μ st with
 | .er c μ' ar=>if kn c=true then h c μ' ar else .bad
 | .nx μ' ar=>.nx μ' ar
 | .rt v ar=>.rt v ar
 | .bk μ' ar=>.bk μ' ar
 | .ct μ' ar=>.ct μ' ar
 | .bad=>.bad
noncomputable def HQ (X:Cx) (h:MH):DT:=fun D EX cls ea σ H=>∃ c C μ ρ st,X.mg c=some (.ref C)/\cls=.ref C/\RS (wo X) ρ H μ σ/\SR X.K ρ st H/\D8 (wo X) ρ H D EX (h c μ st)
theorem PH.imp {hs:List ExceptHandler} {t t':DT} (h:PH X hs t) (k:∀ D EX cls ea σ H,t' D EX cls ea σ H->t D EX cls ea σ H):PH X hs t':=fun pins s σ H D EX ea cls J q=>h pins s σ H D EX ea cls J (k D EX cls ea σ H q)
theorem HR:PH X [] (HQ X vz):=PH.imp Hz fun D EX cls ea σ H q=>by
 obtain ⟨c,C,μ,ρ,st,_,_,_,_,h⟩:=q
 exact h
noncomputable def Li (K:PySem.W.Frag) (mg:Str->Option Value) (sub:Str->Str->Option Bool):Prop:=∀ c x b C D,sub c x=some b->mg c=some (.ref C)->mg x=some (.ref D)->PySem.W.kitCls K (.ref C) (.ref D)=some b
theorem wO.pn {K:PySem.W.Frag} {mg:Str->Option Value} {pn HE:List (Addr × Obj)} (hp:∀ q∈pn,q∈HE) {ρ:List Addr} {H:Hp} {u:Val} {v:V} (h:wO ⟨K,mg,pn⟩ ρ H u v):wO ⟨K,mg,HE⟩ ρ H u v:=by
 cases u with
 | exc c=>obtain ⟨a,oe,C,h1,h2,h3⟩:=h; exact ⟨a,oe,C,h1,hp _ h2,h3⟩
 | _=>exact h
theorem RS.pn {K:PySem.W.Frag} {mg:Str->Option Value} {pn HE:List (Addr × Obj)} (hp:∀ q∈pn,q∈HE) {ρ:List Addr} {H:Hp} {μ:Env} {σ:L2.St} (h:RS ⟨K,mg,pn⟩ ρ H μ σ):RS ⟨K,mg,HE⟩ ρ H μ σ:=
 ⟨h.len,fun i u e=>let ⟨v,h1,h2⟩:=h.at_ i u e; ⟨v,h1,h2.pn hp⟩⟩
theorem Lj {n:Str} {i:Nat} {C:Addr} {np:Pos} {b₀:Stmt} {iG:List Stmt} {rest:List ExceptHandler} {sub:Str->Str->Option Bool} {s:MB} {r:MH} (hS:Li X.K X.mg sub) (hN:X.N.Nodup) (hi:X.N[i]?=some n) (hl:X.env.scope.names.lookup n=some .local) (hg:Gl X x) (hm:X.mg x=some (.ref C))
  (hB:PySem.W.subIn X.K (.ref C) (.type "BaseException")=some true) (hs:∀ ea oe,jZ (L2.vm X ea oe) (b₀::iG) (tS (L2.vm X ea oe) E0 s)) (hr:PH X rest (HQ X r)) (hd:(x==("__debug__":Str))=false:=by decide) :
  PH X (.ExceptHandler (some (.Name x np)) (some n) (b₀::iG) pos::rest) (HQ X (CN sub x i s r)):=by
 refine PH.imp (K9 hN hi hl hg hm hB hs hr hd) ?_
 rintro D EX cls ea σ H ⟨c,C',μ,ρ,st,h1,rfl,rs,sr,h⟩
 unfold CN at h
 split at h
 ·rename_i e
  refine ⟨true,hS c x true C' C e h1 hm,?_⟩
  rw [if_pos rfl]
  intro oe DM
  have w6:RS (wo (L2.vm X ea oe)) ρ H (μ.set i (some (.exc c))) (σ.set i (some (.ref ea))):=
   (RS.pn (fun q hq=>List.mem_cons_of_mem _ hq) rs).K_ i ⟨ea,oe,C',rfl,List.mem_cons_self,h1,DM⟩
  refine ⟨_,ρ,st,w6,sr,?_⟩
  revert h
  cases s (μ.set i (some (.exc c))) st with
  | rt v ar=>exact fun q=>q
  | _=>exact fun q=>q.elim
 ·rename_i e
  refine ⟨false,hS c x false C' C e h1 hm,?_⟩
  rw [if_neg Bool.false_ne_true]
  exact ⟨c,C',μ,ρ,st,h1,rfl,rs,sr,h⟩
 ·exact h.elim
noncomputable def Known (mg:Str->Option Value) (kn:Str->Bool):Prop:=∀ c,kn c=true->∃ C,mg c=some (.ref C)
theorem AR {kn:Str->Bool} {b:MB} {h:MH} (hk:Known X.mg kn) {D:Ends} {EX:EK} {σ:L2.St} {H:Hp} (q:JF X (oj kn b h) D EX σ H):JF X b D (fun cls ea σ' H'=>HQ X h D EX cls ea σ' H') σ H:=by
 obtain ⟨μ,ρ,st,rs,sr,q⟩:=q
 refine ⟨μ,ρ,st,rs,sr,?_⟩
 unfold oj at q
 cases z:b μ st with
 | er c μ' ar=>
  rw [z] at q
  dsimp only at q
  split at q
  ·rename_i hc
   obtain ⟨C,hC⟩:=hk c hc
   exact ⟨C,hC,fun ρ' H' σ' ea e s r=>⟨c,C,μ',ρ',ar,hC,rfl,r,s,D8.mono q e⟩⟩
  ·exact q.elim
 | _=>rw [z] at q; exact q
noncomputable def om (m:MB):MB:=fun μ st=>match m μ st with
 | .er _ _ _=>.bad
 | .nx μ' ar=>.nx μ' ar
 | .rt v ar=>.rt v ar
 | .bk μ' ar=>.bk μ' ar
 | .ct μ' ar=>.ct μ' ar
 | .bad=>.bad
theorem HS {E:XK} {kn:Str->Bool} {body:List Stmt} {h₀:ExceptHandler} {hs:List ExceptHandler} {b:MB} {h:MH} (hk:Known X.mg kn) (dx:DefX X) (hb:Aq X body (JF X b)) (hh:PH X (h₀::hs) (HQ X h)):PS X (.Try body (h₀::hs) [] [] pos) (tS X E (om (oj kn b h))):=by
 refine PS.imp (HA dx hb hh) ?_
 rintro D σ H ⟨μ,ρ,st,rs,sr,q⟩
 refine AR (EX:=fun _ _ _ _=>False) hk ⟨μ,ρ,st,rs,sr,?_⟩
 unfold om at q
 revert q
 cases oj kn b h μ st with
 | er c μ' ar=>exact fun q=>q.elim
 | _=>exact fun q=>q
noncomputable def yD (sub:Str->Str->Option Bool) (i:Nat) (x:Str):ME:=fun μ st=>match μ[i]? with
 | some (some (.exc c))=>(match sub c x with
  | some true=>.ok (.bl true) st
  | _=>.bad)
 | _=>.bad
inductive ClsAt (X:Cx) (x:Str):Value->V->Prop
 | own {C:Addr} (hm:X.mg x=some (.ref C)):ClsAt X x (.ref C) (.ref C)
 | blt {n:String} (hm:X.mg x=none) (hv:bootBuiltins x=some (.type n)) (hn:x ≠ "__name__"):ClsAt X x (.type n) (.ty n)
noncomputable def Lk (K:PySem.W.Frag) (mg:Str->Option Value) (sub:Str->Str->Option Bool) (x:Str) (cv:Value):Prop:=∀ c C,sub c x=some true->mg c=some (.ref C)->PySem.W.kitOne K (.ref C) cv=some true
theorem HU {E:XK} {sub:Str->Str->Option Bool} {i:Nat} {n:Str} {cv:Value} {v:V} {q1 q2:Pos} (hc:ClsAt X x cv v) (hS:Lk X.K X.mg sub x cv) (hg:Gl X "isinstance") (hm:X.mg "isinstance" = none) (JG:Gl X x)
  (hN:X.N[i]?=some n) (hv:CZ X.env.scope n) (hd:(n==("__debug__":Str))=false) (nE:(n==("__classdict__":Str))=false) (JH:(x==("__debug__":Str))=false)
  (hs:starEach [.Name n q1,.Name x q2] X.env=(false,eval (.Name n q1) X.env)::starEach [.Name x q2] X.env:=by rfl) (dk:starEach [.Name x q2] X.env=(false,eval (.Name x q2) X.env)::starEach [] X.env:=by rfl)
  (iF:(backTo pos (starEach [.Name x q2] X.env)).any (·.1)=false:=by rfl):PE X (.Call (.Name "isinstance" p) [.Name n q1,.Name x q2] [] pos) (tE X E (yD sub i x)):=by
 have hx:PE X (.Name x q2) (tC v):=by
  cases hc with
  | own h=>exact wF JG h rfl JH
  | blt h1 h2 h3=>exact wG JG h1 h2 rfl h3 JH
 refine PE.imp (j8 rE hg hm PyProof.Rows.boot_isinstance (fE (qU (i:=i) hN hv hd nE) (fE hx kY dk) hs) (by decide) (by decide) hs iF) ?_
 rintro σ H Q ⟨μ,ρ,st,rs,sr,h⟩
 unfold yD at h
 split at h
 ·rename_i c e
  split at h
  ·rename_i es
   obtain ⟨w,e',a,oe,C,rfl,hp,hC,ho⟩:=rs.at_ i _ e
   have hk:=hS c C es hC
   rw [<-ho] at hk
   cases hc with
   | own h'=>exact ⟨_,e',a,oe,_,.inl ⟨rfl,hk⟩,hp,cN sr h⟩
   | blt h1 h2 h3=>exact ⟨_,e',a,oe,0,.inr ⟨_,rfl,hk⟩,hp,cN sr h⟩
  ·exact h.elim
 ·exact h.elim
end
inductive gy (X:Cx) (scope:Scope):List (Str × Addr)->List Nat->Prop
 | nil:gy X scope [] []
 | cons {y:Str} {c:Addr} {j:Nat} {cl:List (Str × Addr)} {caps:List Nat} (sub:X.env.cells.lookup y=some c) (hX:X.N[j]?=some y) (hk:X.env.kindOf y=some .cell\/X.env.kindOf y=some .free)
   (hr:(relabel scope X.env).names.lookup y=some .cell\/(relabel scope X.env).names.lookup y=some .free) (r:gy X scope cl caps):gy X scope ((y,c)::cl) (j::caps)
theorem gy.sub {X:Cx} {scope:Scope} {cl:List (Str × Addr)} {caps:List Nat} (A:gy X scope cl caps):∀ x c,cl.lookup x=some c->X.env.cells.lookup x=some c:=by
 induction A with
 | nil=>intro x c h; cases h
 | @cons y c0 _ _ _ sub _ _ _ _ ih=>
  intro x c h
  rw [List.lookup_cons] at h
  by_cases e:x=y
  ·rw [beq_iff_eq.mpr e] at h
   rw [e]; exact sub.trans h
  ·rw [beq_eq_false_iff_ne.mpr e] at h
   exact ih x c h
theorem gy.at_ {X:Cx} {scope:Scope} {cl:List (Str × Addr)} {caps:List Nat} (A:gy X scope cl caps):∀ (i j:Nat) (x:Str),caps[i]?=some j->(cl.map (·.1))[i]?=some x ->
  X.N[j]?=some x/\(X.env.kindOf x=some .cell\/X.env.kindOf x=some .free)/\((relabel scope X.env).names.lookup x=some .cell\/(relabel scope X.env).names.lookup x=some .free):=by
 induction A with
 | nil=>intro i j x h; cases h
 | cons _ hX hk hr _ ih=>
  intro i j x h h2
  cases i with
  | zero=>cases h; cases h2; exact ⟨hX,hk,hr⟩
  | succ i=>exact ih i j x h h2
theorem gz:∀ {cl:List (Str × Addr)} {x:Str},x∈cl.map (·.1)->∃ c,cl.lookup x=some c
 | [],x,h=>by simp at h
 | (y,c)::cl,x,h=>by
  by_cases e:x=y
  ·exact ⟨c,by simp [e]⟩
  ·have e':(x==y)=false:=by simpa using e
   rw [List.map_cons,List.mem_cons] at h
   rcases h with h | h
   ·exact absurd h e
   ·obtain ⟨d,hd⟩:=gz h
    exact ⟨d,by simp only [List.lookup_cons,e']; exact hd⟩
theorem tW {X:Cx} {N:List Str} {scope:Scope} {k:Nat} {cl:List (Str × Addr)} {caps:List Nat} (vh:closureFor scope X.env=pure cl) (A:gy X scope cl caps) (has:((relabel scope X.env).names.all fun p => !(p.2 == .cell || p.2 == .free) || (cl.map (·.1)).contains p.1)=true)
  (jF:(scope.names.all fun p => !(p.2 == .cell))=true) (kind:scope.kind=.function) (names:(scope.names.all fun p => !(p.2 == .local) || scope.names.lookup p.1==some .local)=true) (len:N.length=k+caps.length) (hN:N.drop k=cl.map (·.1)):yk X N scope cl k caps where
 vh:=vh
 sub:=A.sub
 has:=fun x h=>by
  have m:x∈cl.map (·.1):=by
   rcases h with h | h <;> (have m:=PySem.mem_of_lookup h; have z:=List.all_eq_true.mp has _ m; simpa using z)
  exact gz m
 jF:=fun x hx h=>by
  have z:=List.all_eq_true.mp jF x hx
  simp [h] at z
 kind:=kind
 names:=fun x hx h=>by
  have z:=List.all_eq_true.mp names x hx
  simpa [h] using z
 len:=len
 at_:=fun i j x h1 h2=>A.at_ i j x h1 (by rw [<-hN,List.getElem?_drop]; exact h2)
noncomputable def FnAt (P:Program) (w:World) (K:PySem.W.Frag) (mg:Str->Option Value) (base:Heap) (x:Str) (k:Nat) (f:FN):Prop:=
 ∃ fa fd ps,iO P w K mg base (k_ P w) k fa fd ps (HH ⟨K,mg,[]⟩ f)/\mg x=some (.ref fa)/\PySem.W.keepIn K (.ref fa)=true/\Binds K fd ps []
section
variable {X:Cx} {E:XK} {pos p:Pos} {e:Expr} {es:List Expr} {ms:MA} {f:FN} {x:Str} {k j:Nat}
theorem bu (G:FnAt X.prog X.w X.K X.mg X.base x k f) (hr:eM j X.A) (hk:k<=j) (hg:Gl X x) (hx:Passes (k_ X.prog X.w) X E) (ha:PA X (e::es) (tL X E ms)) (j7:(x==("__debug__":Str))=false:=by decide)
  (he:starEach (e::es) X.env=(false,eval e X.env)::starEach es X.env:=by rfl) (iF:(backTo pos (starEach es X.env)).any (·.1)=false:=by rfl):PE X (.Call (.Name x p) (e::es) [] pos) (tE X E (ak f ms)):=by
 obtain ⟨fa,fd,ps,F,hm,kp,b⟩:=G
 exact DX F (hr.mono hk) hg hm kp b hx ha j7 he iF
theorem HV (G:FnAt X.prog X.w X.K X.mg X.base x k f) (hr:eM j X.A) (hk:k<=j) (hg:Gl X x) (zI:∀ y,X.fn y=true) (ha:∀ W,PA (X.nG W) (e::es) (tL X E0 ms)) (j7:(x==("__debug__":Str))=false:=by decide)
  (he:starEach (e::es) X.env=(false,eval e X.env)::starEach es X.env:=by rfl) (iF:(backTo pos (starEach es X.env)).any (·.1)=false:=by rfl):DQ X (.Call (.Name x p) (e::es) [] pos) (Nc X (ak f (zD ms))):=by
 obtain ⟨fa,fd,ps,F,hm,kp,b⟩:=G
 exact AQ F (hr.mono hk) hg hm kp b zI ha j7 he iF
end
section
variable {P:Program} {w:World} {K:PySem.W.Frag} {mg:Str->Option Value} {base:Heap}
theorem FnAt.mk {x:Str} {st:Stmt} {f:Addr} {fd:FuncData} {N ps:List Str} {k:Nat} {body:MB} (F:j_ K x x st f fd) (hm:mg x=some (.ref f)) (S:bg N ps (aC st))
  (hb:∀ (kV doc pm:Value) (an:Option Addr) (cU ct:Value) (us:List Value),us.length=ps.length->bindArgs (PySem.W.fnOf x x (fF st) (dj st) (aC st) .none kV doc pm an cU ct) ⟨us,[]⟩=pure (ps.zip us))
  (h:∀ (cU:Value) (A:Around) (outer:List PySem.Env) (s:Shared) (H:Hp) (E:XK),eM k (A.deeper (envOfC x (aC st) s.heap.objs.size f cU)) ->
   jZ (gU (k_ P w) P w K mg base N x (aC st) f cU A outer s H E) (dj st) (tS (gU (k_ P w) P w K mg base N x (aC st) f cU A outer s H E) E body)):FnAt P w K mg base x (k+1) (mU ps.length N.length body):=
 ⟨f,fd,ps,Az F S h,hm,F.kp,F.binds hb⟩
theorem d9 {N:List Str} {qual:Str} {scope:Scope} {f:Addr} {cd:Value} {A:Around} {outer:List PySem.Env} {s₀:Shared} {H₀:Hp} {E:XK}:PassesOwn (model P w) (A.deeper (envOfC qual scope s₀.heap.objs.size f cd)) (envOfC qual scope s₀.heap.objs.size f cd) (gU (k_ P w) P w K mg base N qual scope f cd A outer s₀ H₀ E).xe:=
 PassesOwn.leaving
theorem oo {N:List Str} {qual:Str} {scope:Scope} {f:Addr} {cd:Value} {A:Around} {outer:List PySem.Env} {s₀:Shared} {H₀:Hp} {E:XK}:Raises (gU (k_ P w) P w K mg base N qual scope f cd A outer s₀ H₀ E) E:=
 fun pins σ H s h' e cls vs I hx hE=>yq I hx hE
noncomputable def xf (K:PySem.W.Frag):Sp:=fun vs H Q _=>∃ (a:Addr) (ns:List Int),vs=[.ref a]/\Dy H/\kT K H a (ns.map V.int)/\ns.length<=63/\∀ H',Q (.bl true) H'
theorem HW {H:Hp} {a:Addr} {c:Cell} (k:fR K [a] H c a):SR K [a] [c] H:=by
 refine ⟨rfl,fun n m b h1 h2 _ _=>?_,fun n c' b h1 h2=>?_⟩
 ·have p1:=fG h1
  have p2:=fG h2
  simp at p1 p2
  lia
 ·have p1:=fG h1
  simp at p1
  subst p1
  cases h1
  cases h2
  exact k
theorem HX {f:FN} (hf:∀ (c:Cell) (ns:List Int),ns.length<=63->itemsOf [c] 0=some (ns.map Val.int)->∃ ar,f [.loc 0] [c]=.ok (.bl true) ar) {vs:List V} {H:Hp} {Q:VK} {E:XK} (h:xf K vs H Q E):HH ⟨K,mg,[]⟩ f vs H Q E:=by
 obtain ⟨a,ns,rfl,hO,hS,hl,q⟩:=h
 have fin:∀ c:Cell,fR K [a] H c a->itemsOf [c] 0=some (ns.map Val.int)->HH ⟨K,mg,[]⟩ f [.ref a] H Q E:=by
  intro c k hi
  obtain ⟨ar,e⟩:=hf c ns hl hi
  refine ⟨[.loc 0],[a],[c],aS.one (Rl.Au rfl),HW k,?_⟩
  rw [e]
  intro ρ' H' v _ _ r
  rw [r.nT]
  exact q H'
 rcases hS with (h | ⟨o,h⟩) | h
 ·rcases hO a with z | ⟨o,xs,z⟩ <;> (rw [z] at h; cases h)
 ·exact fin (.HC (ns.map .int)) ⟨o,_,h,aS.ints ns⟩ rfl
 ·exact fin (.mod (ns.map .int)) ⟨_,h,aS.ints ns⟩ rfl
theorem AU {l:PySem.W.OpenLaw} {q:Program} {loose:List Str} {XP:(Str->Option Value)->Heap->Prop} {YP:World->Heap->Prop} {d:DefRec} {K:Params->PySem.W.Frag} {x:Str} {k:Nat} (hn:l.most=some 63) (KA:d.params.defaults=[]) (hr:eM k callerA)
  (hY:∀ (w:World) (h:Heap),YP w h->(K w.params).In h)
  (F:∀ (w:World) (mg:Str->Option Value) (fa:Addr) (h:Heap),(K w.params).In h->h.Ns mainGlobals mg->mg d.name=some (.ref fa) ->
   ∃ fd:FuncData,(∀ (s:Shared) (u:Value),BindsTo s fd ⟨[u],[]⟩ [(x,u)])/\∀ base:Heap,(K w.params).In base->base.Ns mainGlobals mg->iO l.prog w (K w.params) mg base (k_ l.prog w) k fa fd [x] (xf (K w.params))) :
  PySem.W.WalkO q loose XP YP l.row.toRowW d [] (fun f vs=>PySem.call f vs):=
 L2.DA (n:=63) (k:=k) (x:=x) (CX:=fun w=>k_ l.prog w) (sp:=fun w=>xf (K w.params)) hn (by decide) KA hr hY F (fun _ _ a ns hl hO hS=>⟨a,ns,rfl,hO,hS,hl,fun _=>rfl⟩) fun _ _ _ _ _ ⟨_,_,_,_,_,z⟩=>z
end
theorem jv:bootBuiltins "ValueError" = some (.type "ValueError"):=by decide +kernel
abbrev Q1:List Value:=[.type "ValueError",.type "Exception",.type "BaseException",.type "object"]
noncomputable def Ea (K:PySem.W.Frag) (mg:Str->Option Value) (x:Str):Prop:=∃ C,mg x=some (.ref C)/\PySem.W.excIn K C Q1 "ValueError.__new__" = true/\PySem.W.subIn K (.ref C) (.type "BaseException")=some true
theorem yE {K:PySem.W.Frag} {D:Addr} {t:Value} {cd:ClassData} {b:Bool} (h1:PySem.W.clsIn K D=some cd) (h2:PySem.W.typeIn K (.ref D)=some (.type "type")) (h3:PySem.W.subIn K t (.ref D)=some b):PySem.W.kitCls K t (.ref D)=some b:=by
 show (if ((PySem.W.clsIn K D).isSome&&PySem.W.typeIn K (.ref D)==some (.type "type"))=true then PySem.W.subIn K t (.ref D) else none)=some b
 rw [h1,h2,h3]
 rfl
inductive dH (K:PySem.W.Frag) (mg:Str->Option Value):List (Str × Str × Bool)->Prop
 | nil:dH K mg []
 | own {c x:Str} {b:Bool} {C D:Addr} {r:List (Str × Str × Bool)} (h1:mg c=some (.ref C)) (h2:mg x=some (.ref D)) (h3:PySem.W.kitCls K (.ref C) (.ref D)=some b) (hr:dH K mg r):dH K mg ((c,x,b)::r)
 | blt {c x:Str} {n:String} {C:Addr} {r:List (Str × Str × Bool)} (h1:mg c=some (.ref C)) (h2:mg x=none) (Nd:bootBuiltins x=some (.type n)) (h3:PySem.W.kitOne K (.ref C) (.type n)=some true) (hr:dH K mg r):dH K mg ((c,x,true)::r)
noncomputable def bp (tab:List (Str × Str × Bool)) (c x:Str):Option Bool:=match tab with
 | []=>none
 | (c',x',b)::r=>if c'=c/\x'=x then some b else bp r c x
section
variable {K:PySem.W.Frag} {mg:Str->Option Value}
theorem dH.Ll {tab:List (Str × Str × Bool)} (S:dH K mg tab):Li K mg (bp tab):=by
 induction S with
 | nil=>intro c x b C D h; cases h
 | @own c' x' _ _ _ _ h1 h2 h3 _ ih=>
  intro c x b C D h e1 e2
  rw [bp] at h
  by_cases z:c'=c/\x'=x
  ·rw [if_pos z] at h
   cases h
   rw [z.1,e1] at h1; cases h1
   rw [z.2,e2] at h2; cases h2
   exact h3
  ·rw [if_neg z] at h
   exact ih c x b C D h e1 e2
 | @blt c' x' _ _ _ h1 h2 _ _ _ ih=>
  intro c x b C D h e1 e2
  rw [bp] at h
  by_cases z:c'=c/\x'=x
  ·rw [z.2,e2] at h2; cases h2
  ·rw [if_neg z] at h
   exact ih c x b C D h e1 e2
theorem dH.O2 {tab:List (Str × Str × Bool)} (S:dH K mg tab):∀ (x:Str) (cv:Value),(∃ D,cv=.ref D/\mg x=some (.ref D))\/(∃ n,cv=.type n/\bootBuiltins x=some (.type n)/\mg x=none)->Lk K mg (bp tab) x cv:=by
 induction S with
 | nil=>intro x cv _ c C h; cases h
 | @own c' x' _ _ _ _ h1 h2 h3 _ ih=>
  intro x cv hx c C h e1
  rw [bp] at h
  by_cases z:c'=c/\x'=x
  ·rw [if_pos z] at h
   cases h
   rw [z.1,e1] at h1; cases h1
   rw [z.2] at h2
   rcases hx with ⟨D,rfl,e2⟩ | ⟨n,rfl,_,e2⟩
   ·rw [h2] at e2; cases e2
    unfold PySem.W.kitOne
    split
    ·rfl
    ·exact h3
   ·rw [h2] at e2; cases e2
  ·rw [if_neg z] at h
   exact ih x cv hx c C h e1
 | @blt c' x' _ _ _ h1 h2 Nd h3 _ ih=>
  intro x cv hx c C h e1
  rw [bp] at h
  by_cases z:c'=c/\x'=x
  ·rw [if_pos z] at h
   cases h
   rw [z.1,e1] at h1; cases h1
   rw [z.2] at h2 Nd
   rcases hx with ⟨D,rfl,e2⟩ | ⟨n,rfl,e2,_⟩
   ·rw [h2] at e2; cases e2
   ·rw [Nd] at e2; cases e2; exact h3
  ·rw [if_neg z] at h
   exact ih x cv hx c C h e1
noncomputable def HY (l:List Str) (c:Str):Bool:=l.contains c
end
section
variable {X:Cx} {E:XK} {pos np a7 p q1 q2:Pos} {x n:Str} {e₀:Expr} {es:List Expr} {ms:MA} {i:Nat} {b₀:Stmt} {iG:List Stmt} {rest:List ExceptHandler} {tab:List (Str × Str × Bool)} {s:MB} {r:MH}
theorem qf (hX:Raises X E) (hc:X.calm=true) (h:Ea X.K X.mg x) (hg:Gl X x) (ha:PA X (e₀::es) (tL X E ms))
  (he:starEach (e₀::es) X.env=(false,eval e₀ X.env)::starEach es X.env:=by rfl) (iF:(backTo a7 (starEach es X.env)).any (·.1)=false:=by rfl) (hd:(x==("__debug__":Str))=false:=by decide) :
  PS X (.Raise (some (.Call (.Name x np) (e₀::es) [] a7)) none pos) (tS X E (jH x ms)):=by
 obtain ⟨C,hm,hq,_⟩:=h
 exact Ay hX hc hm hq PySem.F.excBase_ValueError hg ha he iF hd
theorem HZ (hS:dH X.K X.mg tab) (hN:X.N.Nodup) (h:Ea X.K X.mg x) (hg:Gl X x) (hs:∀ ea oe,jZ (L2.vm X ea oe) (b₀::iG) (tS (L2.vm X ea oe) E0 s)) (hr:PH X rest (HQ X r)) (hi:X.N[i]?=some n:=by rfl) (hl:X.env.scope.names.lookup n=some .local:=by rfl) (hd:(x==("__debug__":Str))=false:=by decide) :
  PH X (.ExceptHandler (some (.Name x np)) (some n) (b₀::iG) pos::rest) (HQ X (CN (bp tab) x i s r)):=by
 obtain ⟨C,hm,_,hB⟩:=h
 exact Lj hS.Ll hN hi hl hg hm hB hs hr hd
theorem Eb (i:Nat) {T:String} (hS:dH X.K X.mg tab) (Q2:X.mg x=none) (hb:bootBuiltins x=some (.type T)) (hg:Gl X "isinstance") (hm:X.mg "isinstance" = none) (JG:Gl X x) (hN:X.N[i]?=some n:=by rfl) (hv:CZ X.env.scope n:=by first | exact Or.inl rfl | exact Or.inr (Or.inl rfl)) (hn:x ≠ "__name__":=by decide)
  (hd:(n==("__debug__":Str))=false:=by decide) (nE:(n==("__classdict__":Str))=false:=by decide) (JH:(x==("__debug__":Str))=false:=by decide)
  (hs:starEach [.Name n q1,.Name x q2] X.env=(false,eval (.Name n q1) X.env)::starEach [.Name x q2] X.env:=by rfl) (dk:starEach [.Name x q2] X.env=(false,eval (.Name x q2) X.env)::starEach [] X.env:=by rfl)
  (iF:(backTo pos (starEach [.Name x q2] X.env)).any (·.1)=false:=by rfl):PE X (.Call (.Name "isinstance" p) [.Name n q1,.Name x q2] [] pos) (tE X E (yD (bp tab) i x)):=
 HU (.blt Q2 hb hn) (hS.O2 x _ (.inr ⟨T,rfl,hb,Q2⟩)) hg hm JG hN hv hd nE JH hs dk iF
end
section
variable {κ:Type} [DecidableEq κ]
noncomputable def pH (az:List (κ × Val)) (k:κ):Option Val:=(az.find? fun kv=>decide (kv.1=k)).map (·.2)
noncomputable def rO (az:List (κ × Val)) (k:κ) (v:Val):List (κ × Val):=
 if (az.any fun kv=>decide (kv.1=k))=true then az.map (fun kv=>if kv.1=k then (kv.1,v) else kv) else az++[(k,v)]
variable {K:PySem.W.Frag} {ρ ρ':List Addr} {H H':Hp}
theorem eG.nil:eG K ρ H ([]:List (κ × Val)) []:=⟨rfl,aS.nil⟩
theorem eG.cons {k:κ} {u:Val} {v:V} {az:List (κ × Val)} {jq:List (κ × V)} (r:Rl K ρ H u v) (p:eG K ρ H az jq):eG K ρ H ((k,u)::az) ((k,v)::jq):=
 ⟨by simp only [List.map_cons,p.1],aS.cons r p.2⟩
theorem eG.bV {k:κ} {u:Val} {az:List (κ × Val)} {l:List (κ × V)} (p:eG K ρ H ((k,u)::az) l):∃ v jq,l=(k,v)::jq/\Rl K ρ H u v/\eG K ρ H az jq:=by
 obtain ⟨h1,h2⟩:=p
 cases l with
 | nil=>simp at h1
 | cons x l=>
  obtain ⟨k',v⟩:=x
  simp only [List.map_cons,List.cons.injEq] at h1 h2
  obtain ⟨rfl,h1⟩:=h1
  obtain ⟨v',r,e,q1,q2⟩:=h2.bV
  simp only [List.cons.injEq] at e
  obtain ⟨rfl,rfl⟩:=e
  exact ⟨v,l,rfl,q1,h1,q2⟩
theorem eG.dJ {l:List (κ × V)} (p:eG K ρ H ([]:List (κ × Val)) l):l=[]:=by
 have:=p.1
 cases l with
 | nil=>rfl
 | cons=>simp at this
theorem eG.mono {az:List (κ × Val)} {l:List (κ × V)} (p:eG K ρ H az l) (e:Step ρ H ρ' H'):eG K ρ' H' az l:=⟨p.1,aS.mono e _ _ p.2⟩
theorem eG.length {az:List (κ × Val)} {l:List (κ × V)} (p:eG K ρ H az l):az.length=l.length:=by
 have:=congrArg List.length p.1
 simpa using this
theorem eG.val (k:κ):∀ {az:List (κ × Val)} {l:List (κ × V)},eG K ρ H az l->(pH az k=none/\gs l k=none)\/∃ u v,pH az k=some u/\gs l k=some v/\Rl K ρ H u v
 | [],l,p=>by rw [p.dJ]; exact .inl ⟨rfl,rfl⟩
 | (k',u)::az,l,p=>by
  obtain ⟨v,l',rfl,r,p'⟩:=p.bV
  by_cases e:k'=k
  ·exact .inr ⟨u,v,by simp [pH,e],by simp [gs,e],r⟩
  ·rcases eG.val k p' with ⟨h1,h2⟩ | ⟨u',v',h1,h2,h3⟩
   ·exact .inl ⟨by simpa [pH,e] using h1,by simpa [gs,e] using h2⟩
   ·exact .inr ⟨u',v',by simpa [pH,e] using h1,by simpa [gs,e] using h2,h3⟩
theorem eG.any (k:κ):∀ {az:List (κ × Val)} {l:List (κ × V)},eG K ρ H az l->(az.any fun kv=>decide (kv.1=k))=l.any fun kv=>decide (kv.1=k)
 | [],l,p=>by rw [p.dJ]; rfl
 | (k',u)::az,l,p=>by
  obtain ⟨v,l',rfl,r,p'⟩:=p.bV
  simp only [List.any_cons,eG.any k p']
theorem eG.rn (k:κ) {u:Val} {v:V} (r:Rl K ρ H u v):∀ {az:List (κ × Val)} {l:List (κ × V)},eG K ρ H az l->eG K ρ H (az.map fun kv=>if kv.1=k then (kv.1,u) else kv) (l.map fun kv=>if kv.1=k then (kv.1,v) else kv)
 | [],l,p=>by rw [p.dJ]; exact eG.nil
 | (k',u')::az,l,p=>by
  obtain ⟨v',l',rfl,r',p'⟩:=p.bV
  simp only [List.map_cons]
  by_cases e:k'=k
  ·rw [if_pos e,if_pos e]; exact eG.cons r (eG.rn k r p')
  ·rw [if_neg e,if_neg e]; exact eG.cons r' (eG.rn k r p')
theorem eG.snoc {k:κ} {u:Val} {v:V} (r:Rl K ρ H u v):∀ {az:List (κ × Val)} {l:List (κ × V)},eG K ρ H az l->eG K ρ H (az++[(k,u)]) (l++[(k,v)])
 | [],l,p=>by rw [p.dJ]; exact eG.cons r eG.nil
 | (k',u')::az,l,p=>by
  obtain ⟨v',l',rfl,r',p'⟩:=p.bV
  exact eG.cons r' (eG.snoc r p')
theorem eG.put (k:κ) {u:Val} {v:V} (r:Rl K ρ H u v) {az:List (κ × Val)} {l:List (κ × V)} (p:eG K ρ H az l):eG K ρ H (rO az k u) (putK l k v):=by
 unfold rO putK
 rw [p.any k]
 split
 ·exact p.rn k r
 ·exact p.snoc r
end
noncomputable def keyOf:Val->Option Key
 | .int i=>some (.inl i)
 | .str x=>some (.inr x)
 | _=>none
noncomputable def keysOf:List Val->Option (List Key)
 | []=>some []
 | u::us=>match keyOf u,keysOf us with
  | some k,some ks=>some (k::ks)
  | _,_=>none
noncomputable def h_:Val->Option (List Key)
 | .tup us=>keysOf us
 | _=>none
section
variable {K:PySem.W.Frag} {ρ:List Addr} {H:Hp}
theorem rP {u:Val} {v:V} {k:Key} (r:Rl K ρ H u v) (h:keyOf u=some k):v=kV k:=by
 cases u with
 | int i=>cases h; exact r.cj
 | str x=>cases h; exact r.gZ
 | _=>cases h
theorem tX:∀ {us:List Val} {vs:List V} {ks:List Key},aS K ρ H us vs->keysOf us=some ks->vs=ks.map kV
 | [],vs,ks,r,h=>by cases h; exact r.dJ
 | u::us,vs,ks,r,h=>by
  obtain ⟨v,r',rfl,h2,h3⟩:=r.bV
  unfold keysOf at h
  split at h
  ·rename_i k Ue e1 e2
   cases h
   rw [rP h2 e1,tX h3 e2]; rfl
  ·cases h
theorem kh {u:Val} {v:V} {ks:List Key} (r:Rl K ρ H u v) (h:h_ u=some ks):∃ b,v=.ref b/\H b=some (.tup (ks.map kV)):=by
 cases u with
 | tup us=>
  obtain ⟨b,vs,rfl,hb,rb⟩:=r.HD
  rw [tX rb h] at hb
  exact ⟨b,rfl,hb⟩
 | _=>cases h
end
noncomputable def ki (st:ah) (d k:Val):Option (Option Val):=match d with
 | .loc n=>match st[n]? with
  | some (.dK az)=>(keyOf k).map fun q=>pH az q
  | some (.dT az)=>(h_ k).map fun q=>pH az q
  | _=>none
 | _=>none
noncomputable def jK (st:ah) (d k v:Val):Option ah:=match d with
 | .loc n=>match st[n]? with
  | some (.dK az)=>if az.length<sizeLine then (keyOf k).map fun q=>st.set n (.dK (rO az q v)) else none
  | some (.dT az)=>if az.length<sizeLine then (h_ k).map fun q=>st.set n (.dT (rO az q v)) else none
  | _=>none
 | _=>none
theorem qh {K:PySem.W.Frag} {ρ:List Addr} {st:ah} {H:Hp} {d k:Val} {x y:V} {o:Option Val} (sr:SR K ρ st H) (rd:Rl K ρ H d x) (rk:Rl K ρ H k y) (h:ki st d k=some o) :
  ∃ a o',x=.ref a/\mQ H a y o'/\KL H a/\((o=none/\o'=none)\/∃ u v,o=some u/\o'=some v/\Rl K ρ H u v):=by
 cases d with
 | loc n=>
  obtain ⟨a,rfl,ha⟩:=rd.cZ
  unfold ki at h
  dsimp only at h
  split at h
  ·rename_i az e
   obtain ⟨l,hl,p⟩:=sr.cell n _ a e ha
   cases z:keyOf k with
   | none=>rw [z] at h; cases h
   | some q=>
    rw [z] at h
    cases h
    have:=rP rk z
    subst this
    exact ⟨a,gs l q,rfl,mQ.k hl,.inl ⟨l,.inl hl⟩,p.val q⟩
  ·rename_i az e
   obtain ⟨l,hl,p⟩:=sr.cell n _ a e ha
   cases z:h_ k with
   | none=>rw [z] at h; cases h
   | some q=>
    rw [z] at h
    cases h
    obtain ⟨b,rfl,hb⟩:=kh rk z
    exact ⟨a,gs l q,rfl,mQ.t hl hb,.inr ⟨l,.inl hl⟩,p.val q⟩
  ·cases h
 | _=>cases h
theorem vB {K:PySem.W.Frag} {ρ:List Addr} {st ar:ah} {H:Hp} {d k v:Val} {x y z:V} (sr:SR K ρ st H) (rd:Rl K ρ H d x) (rk:Rl K ρ H k y) (rv:Rl K ρ H v z) (h:jK st d k v=some ar) :
  ∃ a H',x=.ref a/\ro H a y z H'/\Step ρ H ρ H'/\SR K ρ ar H':=by
 cases d with
 | loc n=>
  obtain ⟨a,rfl,ha⟩:=rd.cZ
  unfold jK at h
  dsimp only at h
  split at h
  ·rename_i az e
   obtain ⟨l,hl,p⟩:=sr.cell n _ a e ha
   split at h
   ·rename_i hz
    cases zk:keyOf k with
    | none=>rw [zk] at h; cases h
    | some q=>
     rw [zk] at h
     cases h
     have:=rP rk zk
     subst this
     have aV:Step ρ H ρ (upd H a (.dK (putK l q z))):=Step.put hl (fun _ z=>by cases z) (fun _ _ z=>by cases z)
     exact ⟨a,_,rfl,ro.k hl (by rw [<-p.length]; exact hz),aV,sr.set e rfl rfl ha hl (fun _ z=>by cases z) (fun _ _ z=>by cases z) ⟨_,bU,(p.put q rv).mono aV⟩⟩
   ·cases h
  ·rename_i az e
   obtain ⟨l,hl,p⟩:=sr.cell n _ a e ha
   split at h
   ·rename_i hz
    cases zk:h_ k with
    | none=>rw [zk] at h; cases h
    | some q=>
     rw [zk] at h
     cases h
     obtain ⟨b,rfl,hb⟩:=kh rk zk
     have aV:Step ρ H ρ (upd H a (.dT (putK l q z))):=Step.put hl (fun _ z=>by cases z) (fun _ _ z=>by cases z)
     exact ⟨a,_,rfl,ro.t hl hb (by rw [<-p.length]; exact hz),aV,sr.set e rfl rfl ha hl (fun _ z=>by cases z) (fun _ _ z=>by cases z) ⟨_,bU,(p.put q rv).mono aV⟩⟩
   ·cases h
  ·cases h
 | _=>cases h
noncomputable def rR:ME:=fun _ st=>.ok (.loc st.length) (st++[.dT []])
noncomputable def de:F2:=fun d k st=>match ki st d k with
 | some (some v)=>.ok v st
 | _=>.bad
noncomputable def Sm (neg:Bool):F2:=fun k d st=>match ki st d k with
 | some o=>.ok (.bl (if neg then !o.isSome else o.isSome)) st
 | none=>.bad
noncomputable def oq (st:ah):Val->Bool
 | .loc n=>match st[n]? with
  | some (.dK _)=>true
  | some (.dT _)=>true
  | _=>false
 | _=>false
noncomputable def gA (d k x:ME):ME:=fun μ st=>(d μ st).bind fun dv aV=>if oq aV dv=true then (k μ aV).bind fun kv cJ=>(x μ cJ).bind fun xv jo=>match ki jo dv kv with
 | some o=>.ok (o.getD xv) jo
 | none=>.bad else .bad
noncomputable def lu (d k v:ME):MB:=fun μ st=>(v μ st).sb μ fun vv aV=>(d μ aV).sb μ fun dv cJ=>(k μ cJ).sb μ fun kv jo=>match jK jo dv kv vv with
 | some mT=>.nx μ mT
 | none=>.bad
section
variable {X:Cx} {E:XK} {pos pos' apos a7:Pos} {o i e f value:Expr} {md mk mv mx:ME}
theorem tY {K:PySem.W.Frag} {ρ:List Addr} {st:ah} {H:Hp} (sr:SR K ρ st H) {p:Addr} (hp:H p=none) {ob:HO} {c:Cell} (k:fR K (ρ++[p]) (upd H p ob) c p) :
  Step ρ H (ρ++[p]) (upd H p ob)/\SR K (ρ++[p]) (st++[c]) (upd H p ob)/\Rl K (ρ++[p]) (upd H p ob) (.loc st.length) (.ref p):=by
 refine ⟨Step.snoc p (c_ hp),sr.alloc hp k,Rl.Au ?_⟩
 rw [<-sr.len,List.getElem?_append_right (Nat.le_refl _),Nat.sub_self]
 rfl
theorem AV:PE X (.Dict [] [] pos) (tE X E rR):=by
 refine PE.imp Ae ?_
 rintro σ H Q ⟨μ,ρ,st,rs,sr,h⟩ p hp
 obtain ⟨k1,k2,k3⟩:=tY (c:=.dT []) sr hp ⟨[],bU,eG.nil⟩
 exact h _ _ _ k1 k2 k3
theorem nk (hu:X.A.units+64<cLine) (ho:PE X o (tE X E md)) (hi:PE X i (tE X E mk)) (hs:Hl i:=by exact fun _ _=>rfl):PE X (.Subscript o i pos) (tE X E (ag de md mk)):=by
 refine PE.imp (DC (by lia) ho hi hs) ?_
 rintro σ H Q ⟨μ,ρ,st,rs,sr,h⟩
 refine go μ ρ st rs sr h fun d aV ρ1 H1 x e1 bW r1 h1=>?_
 refine go μ ρ1 aV (rs.mono e1) bW h1 fun k cJ ρ2 H2 y e2 pE r2 h2=>?_
 unfold de at h2
 split at h2
 ·rename_i u hl
  obtain ⟨a,o',rfl,hd,_,hv⟩:=qh pE (Rl.mono e2 _ _ r1) r2 hl
  rcases hv with ⟨z,_⟩ | ⟨u',v,z,rfl,rv⟩
  ·cases z
  ·cases z
   exact ⟨a,v,rfl,hd,h2 ρ2 H2 v (Step.refl _ _) pE rv⟩
 ·exact h2.elim
theorem xg {K:PySem.W.Frag} {ρ:List Addr} {st:ah} {H:Hp} {d:Val} {x:V} (sr:SR K ρ st H) (r:Rl K ρ H d x) (h:oq st d=true):∃ a,x=.ref a/\KL H a:=by
 cases d with
 | loc n=>
  obtain ⟨a,rfl,ha⟩:=r.cZ
  obtain ⟨c,hc,kc⟩:=sr.there ha
  simp only [oq,hc] at h
  cases c with
  | dK az=>obtain ⟨l,hl,_⟩:=kc; exact ⟨a,rfl,.inl ⟨l,.inl hl⟩⟩
  | dT az=>obtain ⟨l,hl,_⟩:=kc; exact ⟨a,rfl,.inr ⟨l,.inl hl⟩⟩
  | _=>cases h
 | _=>cases h
theorem tZ (hu:X.A.units+64<cLine) (ho:PE X o (tE X E md)) (he:PE X e (tE X E mk)) (hf:PE X f (tE X E mx)) (m:M2 X o "get" apos e f a7:=by exact ⟨rfl,rfl,rfl,rfl⟩):PE X (.Call (.Attribute o "get" apos) [e,f] [] a7) (tE X E (gA md mk mx)):=by
 refine PE.imp (Ag (by lia) ho he hf m) ?_
 rintro σ H Q ⟨μ,ρ,st,rs,sr,h⟩
 refine go μ ρ st rs sr h fun d aV ρ1 H1 x e1 bW r1 h1=>?_
 split at h1
 ·rename_i hd
  obtain ⟨a,rfl,ia⟩:=xg bW r1 hd
  refine ⟨a,rfl,ia,?_⟩
  refine go μ ρ1 aV (rs.mono e1) bW h1 fun k cJ ρ2 H2 y e2 pE r2 h2=>?_
  refine go μ ρ2 cJ ((rs.mono e1).mono e2) pE h2 fun xv jo ρ3 H3 z e3 zC r3 h3=>?_
  split at h3
  ·rename_i ov hl
   obtain ⟨a',o',ea,NJ,_,hv⟩:=qh zC (Rl.mono (e2.trans e3) _ _ r1) (Rl.mono e3 _ _ r2) hl
   cases ea
   refine ⟨o',NJ,?_⟩
   rcases hv with ⟨rfl,rfl⟩ | ⟨u,v,rfl,rfl,rv⟩
   ·exact h3 ρ3 H3 z (Step.refl _ _) zC r3
   ·exact h3 ρ3 H3 v (Step.refl _ _) zC rv
  ·exact h3.elim
 ·exact h1.elim
theorem xh (hu:X.A.units+64<cLine) (ho:PE X o (tE X E md)) (hi:PE X i (tE X E mk)) (hv:PE X value (tE X E mv)) (hs:swapsWith value (some (.Subscript o i pos')) pos.line X.env=pure false:=by rfl) :
  PS X (.Assign [.Subscript o i pos'] value pos) (tS X E (lu md mk mv)):=by
 refine PS.imp (DD (by lia) ho hi hv hs) ?_
 rintro D σ H ⟨μ,ρ,st,rs,sr,h⟩
 refine DY μ ρ st rs sr h fun v aV ρ1 H1 z e1 bW r1 h1=>?_
 refine DY μ ρ1 aV (rs.mono e1) bW h1 fun d cJ ρ2 H2 x e2 pE r2 h2=>?_
 refine DY μ ρ2 cJ ((rs.mono e1).mono e2) pE h2 fun k jo ρ3 H3 y e3 zC r3 h3=>?_
 split at h3
 ·rename_i mT CG
  obtain ⟨a,H4,rfl,hd,s4,oh⟩:=vB zC (Rl.mono e3 _ _ r2) r3 (Rl.mono (e2.trans e3) _ _ r1) CG
  exact ⟨a,H4,rfl,hd,h3 ρ3 H4 σ s4 oh ((((rs.mono e1).mono e2).mono e3).mono s4)⟩
 ·exact h3.elim
end
section
variable {X:Cx} {E:XK} {es:List Expr} {ms:MA} {pos:Pos}
theorem cO {i j} (hr:PA X es (tL X E ms)):PA X (.Constant (.int i) j pos::es) (tL X E (aa (mC (.int i)) ms)):=ai ao hr
theorem FU {b j} (hr:PA X es (tL X E ms)):PA X (.Constant (.bool b) j pos::es) (tL X E (aa (mC (.bl b)) ms)):=ai ke hr
theorem AW {x j} (hr:PA X es (tL X E ms)):PA X (.Constant (.str x) j pos::es) (tL X E (aa (mC (.str x)) ms)):=ai HF hr
theorem aN {a b:Expr} {ma mb:ME} (ha:PE X a (tE X E ma)) (hb:PE X b (tE X E mb)) (hs:q_ b:=by exact fun _ _=>rfl):PE X (.Subscript a b pos) (tE X E (ag aZ ma mb)):=Lb OX ha hb hs
end
noncomputable def vC (us:List Val) (lo hi:Option Int):List Val:=(us.drop (HT.eh us.length 0 lo)).take (HT.eh us.length us.length hi-HT.eh us.length 0 lo)
theorem aS.cut {K:PySem.W.Frag} {ρ:List Addr} {H:Hp} {us:List Val} {vs:List V} (r:aS K ρ H us vs) (lo hi:Option Int):aS K ρ H (vC us lo hi) (qX vs lo hi):=by
 unfold vC qX
 rw [r.length]
 exact aS.take _ (aS.drop _ r)
noncomputable abbrev MO:=Env->ah->Res (Option Int)
noncomputable abbrev RO:List Addr->Hp->Option Int->Option Int->Prop:=fun _ _ a b=>b=a
noncomputable abbrev Nf (X:Cx) (E:XK) (m:MO):TO:=tG (wo X) E RO m
noncomputable def kj:MO:=fun _ st=>.ok none st
noncomputable def kl (m:ME):MO:=fun μ st=>(m μ st).bind fun v ar=>match v with
 | .int i=>.ok (some i) ar
 | _=>.bad
noncomputable def Ec (lo hi:Option Int):Val->ah->Res Val
 | .tup us,st=>if HT.eh us.length 0 lo=0/\HT.eh us.length us.length hi=us.length then .bad else .ok (.tup (vC us lo hi)) st
 | .loc n,st=>match itemsOf st n with
  | some us=>.ok (.loc st.length) (st++[.lst (vC us lo hi)])
  | none=>.bad
 | _,_=>.bad
noncomputable def Ed (a:ME) (lo hi:MO):ME:=fun μ st=>(a μ st).bind fun x aV=>(lo μ aV).bind fun l cJ=>(hi μ cJ).bind fun h jo=>Ec l h x jo
section
variable {X:Cx} {E:XK} {pos p2:Pos} {e:Expr} {m:ME}
theorem PO.imp {e:Option Expr} {t t':TO} (h:PO X e t) (k:∀ σ H Q,t' σ H Q->t σ H Q):PO X e t':=fun pins s σ H Q I q=>h pins s σ H Q I (k σ H Q q)
theorem Ee:PO X none (Nf X E kj):=PO.imp Dm fun σ H Q ⟨μ,ρ,st,rs,sr,h⟩=>h ρ H none (Step.refl _ _) sr rfl
theorem Ef (h:PE X e (tE X E m)):PO X (some e) (Nf X E (kl m)):=by
 refine PO.imp (Dp h) ?_
 rintro σ H Q ⟨μ,ρ,st,rs,sr,h⟩
 refine go μ ρ st rs sr h fun u aV ρ1 H1 x e1 bW r1 h1=>?_
 cases u with
 | int i=>exact ⟨i,r1.cj,h1 ρ1 H1 (some i) (Step.refl _ _) bW rfl⟩
 | _=>exact h1.elim
theorem Lm {lo hi:Option Expr} {ml mh:MO} (he:PE X e (tE X E m)) (hl:PO X lo (Nf X E ml)) (hh:PO X hi (Nf X E mh)):PE X (.Subscript e (.Slice lo hi none p2) pos) (tE X E (Ed m ml mh)):=by
 refine PE.imp (z7 (FF.or Dt G_) he hl hh) ?_
 rintro σ H Q ⟨μ,ρ,st,rs,sr,h⟩
 refine go μ ρ st rs sr h fun u aV ρ1 H1 x e1 bW r1 h1=>?_
 refine go (R1:=RO) μ ρ1 aV (rs.mono e1) bW h1 fun l cJ ρ2 H2 l' e2 pE r2 h2=>?_
 cases r2
 refine go (R1:=RO) μ ρ2 cJ ((rs.mono e1).mono e2) pE h2 fun k jo ρ3 H3 k' e3 zC r3 h3=>?_
 cases r3
 have ru:=Rl.mono e3 _ _ (Rl.mono e2 _ _ r1)
 cases u with
 | tup us=>
  obtain ⟨a,vs,rfl,ha,ra⟩:=ru.fe
  unfold Ec at h3
  dsimp only at h3
  split at h3
  ·exact h3.elim
  ·rename_i hz
   refine .inr ⟨a,vs,rfl,ha,by rw [<-ra.length]; exact hz,fun p hp=>?_⟩
   have s:=c_ (o:=.tup (qX vs l k)) hp
   exact h3 ρ3 _ _ (Step.same s) (zC.grow s) (Rl.nU bU (aS.mono (Step.same s) _ _ (ra.cut l k)))
 | loc n=>
  obtain ⟨a,rfl,ha⟩:=ru.cZ
  cases z:itemsOf jo n with
  | none=>simp only [Ec,z] at h3; exact h3.elim
  | some us=>
   simp only [Ec,z] at h3
   obtain ⟨vs,hs,rv⟩:=bc zC z ha
   refine .inl ⟨a,vs,rfl,hs,fun p hp=>?_⟩
   obtain ⟨k1,k2,k3⟩:=gg zC (rv.cut l k) hp
   exact h3 _ _ _ k1 k2 k3
 | _=>exact h3.elim
end
noncomputable def AX (f:FM) (o:ME):ME:=fun μ st=>(o μ st).bind fun x aV=>if mw aV x=true then f x [] aV else .bad
noncomputable def Ln:FM
 | .loc n,[],st=>match st[n]? with
  | some (.lst us)=>match us[us.length-1]? with
   | some u=>.ok u (st.set n (.lst us.dropLast))
   | none=>.bad
  | _=>.bad
 | _,_,_=>.bad
noncomputable def jL:FM
 | .loc n,[],st=>match st[n]? with
  | some (.lst _)=>.ok .bD (st.set n (.lst []))
  | _=>.bad
 | _,_,_=>.bad
section
variable {X:Cx} {E:XK} {o:Expr} {mo:ME} {apos a7:Pos} {f:FM}
theorem yF:tm X "list.clear" (JD (wo X) E jL):=by
 refine tm.imp z_ ?_
 rintro x xs H Q ⟨ρ,st,u,us,sr,r1,r2,h⟩
 unfold jL at h
 split at h
 ·rename_i n
  obtain ⟨a,rfl,ha⟩:=r1.cZ
  have hx:=r2.dJ
  subst hx
  split at h
  ·rename_i ws hw
   obtain ⟨vs,hH,rv⟩:=sr.cell n _ a hw ha
   refine ⟨a,vs,rfl,rfl,hH,?_⟩
   obtain ⟨k1,k2⟩:=xc sr hw ha hH aS.nil
   exact h ρ _ _ k1 k2 Rl.tO
  ·exact h.elim
 ·exact h.elim
theorem H9 {name:Str} {id:String} (slot:Slot "list" name id) (Du:typeOf (.builtin id)=pure (.type "method_descriptor")) (hm:tm X id (JD (wo X) E f)) (ho:PE X o (tE X E mo))
  (fO:attributeBase o name X.env (eval o X.env)=eval o X.env:=by rfl) (fP:(apos.endLine==a7.line)=true:=by rfl) :
  PE X (.Call (.Attribute o name apos) [] [] a7) (tE X E (AX f mo)):=by
 refine PE.imp (Hd PySem.F.plainAttrs_list slot Du hm ho fO fP) ?_
 rintro σ H Q ⟨μ,ρ,st,rs,sr,h⟩
 refine go μ ρ st rs sr h fun u aV ρ1 H1 x e1 bW r1 h1=>?_
 split at h1
 ·rename_i hz
  exact ⟨tU bW r1 hz,ρ1,aV,u,[],bW,r1,aS.nil,h1⟩
 ·exact h1.elim
end
section
variable {X:Cx} {E:XK} {o i v:Expr} {mo mi mv:ME} {pos GZ:Pos} {f:F2}
end
section
variable {X:Cx} {E:XK} {tg:Expr} {pos p:Pos}
end
section
variable {X:Cx} {E:XK}
end
section
variable {X:Cx} {E:XK} {o e:Expr} {es:List Expr} {mo:ME} {ms:MA} {apos a7:Pos}
theorem gK (ho:PE X o (tE X E mo)) (ha:PA X (e::es) (tL X E ms))
  (fO:attributeBase o "append" X.env (eval o X.env)=eval o X.env:=by rfl)
  (rm:((backTo a7 (starEach (e::es) X.env)).all (fun x => !x.1)&&(backToKw a7 (keywordEach [] X.env)).all (fun x=>x.1.isSome)
   && decide ((e::es).length+([]:List Keyword).length+(if ([]:List Keyword).isEmpty then 0 else 1)<30))=true:=by rfl)
  (fP:(apos.endLine==a7.line)=true:=by rfl) (hs:starEach (e::es) X.env=(false,eval e X.env)::starEach es X.env:=by rfl) (gW:(backTo a7 (starEach es X.env)).any (·.1)=false:=by rfl) :
  PE X (.Call (.Attribute o "append" apos) (e::es) [] a7) (tE X E (fH bX mo ms)):=vy PySem.F.slot_list_append PySem.F.type_list_append vx ho ha fO rm fP hs gW
theorem AY (ho:PE X o (tE X E mo)) (fO:attributeBase o "clear" X.env (eval o X.env)=eval o X.env:=by rfl) (fP:(apos.endLine==a7.line)=true:=by rfl) :
  PE X (.Call (.Attribute o "clear" apos) [] [] a7) (tE X E (AX jL mo)):=H9 PySem.F.slot_list_clear PySem.F.type_list_clear yF ho fO fP
end
theorem AZ {X:Cx} {N:List Str} {scope:Scope} {k:Nat} {cl cl':List (Str × Addr)} {caps caps':List Nat} (vh:closureFor scope X.env=pure cl') (A:gy X scope cl caps) (B:gy X scope cl' caps') (has:((relabel scope X.env).names.all fun p => !(p.2 == .cell || p.2 == .free) || (cl'.map (·.1)).contains p.1)=true)
  (jF:(scope.names.all fun p => !(p.2 == .cell))=true) (kind:scope.kind=.function) (names:(scope.names.all fun p => !(p.2 == .local) || scope.names.lookup p.1==some .local)=true) (len:N.length=k+caps.length) (hN:N.drop k=cl.map (·.1)):yk X N scope cl' k caps where
 vh:=vh
 sub:=B.sub
 has:=fun x h=>by
  have m:x∈cl'.map (·.1):=by
   rcases h with h | h <;> (have m:=PySem.mem_of_lookup h; have z:=List.all_eq_true.mp has _ m; simpa using z)
  exact gz m
 jF:=fun x hx h=>by
  have z:=List.all_eq_true.mp jF x hx
  simp [h] at z
 kind:=kind
 names:=fun x hx h=>by
  have z:=List.all_eq_true.mp names x hx
  simpa [h] using z
 len:=len
 at_:=fun i j x h1 h2=>A.at_ i j x h1 (by rw [<-hN,List.getElem?_drop]; exact h2)
theorem len0 {C:List Value->Prop} (h:C []) (us:List Value) (hl:us.length=0):C us:=by
 rw [List.eq_nil_of_length_eq_zero hl]
 exact h
theorem A0 {C:List Value->Prop} {n:Nat} (h:∀ a (r:List Value),r.length=n->C (a::r)) (us:List Value) (hl:us.length=n+1):C us:=by
 cases us with
 | nil=>cases hl
 | cons a r=>exact h a r (Nat.succ.inj hl)
theorem Eg {C:List Value->Prop} (h:∀ a,C [a]):∀ us:List Value,us.length=1->C us:=A0 fun a=>len0 (C:=fun r=>C (a::r)) (h a)
theorem km {C:List Value->Prop} (h:∀ a b,C [a,b]):∀ us:List Value,us.length=2->C us:=A0 fun a=>Eg (C:=fun r=>C (a::r)) (h a)
theorem Lo {C:List Value->Prop} (h:∀ a b c,C [a,b,c]):∀ us:List Value,us.length=3->C us:=A0 fun a=>km (C:=fun r=>C (a::r)) (h a)
theorem O3 {C:List Value->Prop} (h:∀ a b c d,C [a,b,c,d]):∀ us:List Value,us.length=4->C us:=A0 fun a=>Lo (C:=fun r=>C (a::r)) (h a)
theorem O4 {C:List Value->Prop} (h:∀ a b c d e,C [a,b,c,d,e]):∀ us:List Value,us.length=5->C us:=A0 fun a=>O3 (C:=fun r=>C (a::r)) (h a)
end MN
namespace L2
open PySem PySem.Spec PyProof.Rows PySem.W Builtin Builtin.ObjectAttr Builtin.Getset_descriptor PySem.Calls
noncomputable def rS (K:PySem.W.Frag) (C:Addr):Bool:=findIn K (.ref C) "__getattribute__" == some (some (.builtin "BaseException.__getattribute__"))&&(findIn K (.ref C) "__getattr__" == some none)&&(findIn K (.ref C) "__class__" == some (some (.builtin "object.__class__"))) &&
 (mroIn K C (.type "object")==some true)&&(mroIn K C (.type "BaseException")==some true)&&(specialIn K (.builtin "object.__class__") "__get__" == some (some (.builtin "getset_descriptor.__get__")))&&(takesIn K (.builtin "object.__class__")==some true)&&(kitCls K (.ref C) (.ref C)==some true)
structure iX (K:PySem.W.Frag) (C:Addr):Prop where
 ga:findIn K (.ref C) "__getattribute__" = some (some (.builtin "BaseException.__getattribute__"))
 gh:findIn K (.ref C) "__getattr__" = some none
 gc:findIn K (.ref C) "__class__" = some (some (.builtin "object.__class__"))
 mo:mroIn K C (.type "object")=some true
 mb:mroIn K C (.type "BaseException")=some true
 sg:specialIn K (.builtin "object.__class__") "__get__" = some (some (.builtin "getset_descriptor.__get__"))
 tk:takesIn K (.builtin "object.__class__")=some true
 kc:kitCls K (.ref C) (.ref C)=some true
theorem yG {K:PySem.W.Frag} {C:Addr} (h:rS K C=true):iX K C:=by
 unfold rS at h
 simp only [Bool.and_eq_true] at h
 obtain ⟨⟨⟨⟨⟨⟨⟨a,b⟩,c⟩,d⟩,e⟩,f⟩,g⟩,i⟩:=h
 exact ⟨beq_iff_eq.mp a,beq_iff_eq.mp b,beq_iff_eq.mp c,beq_iff_eq.mp d,beq_iff_eq.mp e,beq_iff_eq.mp f,beq_iff_eq.mp g,beq_iff_eq.mp i⟩
section
variable {prog:Program} {w:World} {A:Around} {E:Value->Shared->Prop} {s:Shared} {K:PySem.W.Frag} {x C:Addr} {ox:Obj} {R:Result->Shared->Prop}
theorem xi {M:Model} {h:Heap} (hx:h.get? x=some ox) (hc:ox.cls=.ref C):Looks M h (typeOf (.ref x)) (.ref C):=hc ▸ (Looks.ld hx).andThen .now
theorem vD {tp:Value} (X:K.In s.heap) (hx:s.heap.get? x=some ox) (hc:ox.cls=.ref C) (hm:mroIn K C (.type "object")=some true)
  (h:R (.ok (.ret (.ref C))) s):codeAny (model prog w) A (.call (.builtin "getset_descriptor.__get__") ⟨[.builtin "object.__class__",.ref x,tp],[]⟩) R s:=by
 obtain ⟨hh,g,dr,t,os⟩:=s
 have L0:=xi (M:=model prog w) hx hc
 have L1:=looks_mroIn (M:=model prog w) X hm
 refine codeAny_call_builtin KF.slot_gs.plain KF.entry_gs (KF.slot_gs.check _ _ _ _ _ _ _ _ KF.type_class (KF.args_gs _ _ _) ?_)
 unfold Builtin.«getset_descriptor.__get__» descrGet
 rw [dga_obj]
 refine wpAny_bind (wpAny_pure ?_)
 unfold descrGetter descrCheckInstance descrNameAndClass isInstance
 simp only [KF.owner_class]
 repeat lk
 refine ⟨Code.quiet_builtin _ (by decide +kernel),codeAny_builtin KF.entry_class ?_⟩
 unfold Builtin.«object.__class__» shownTypeOf
 repeat lk
 exact h
theorem t4 {M:Model} {h:Heap} (X:K.In h) (q:iX K C):Looks M h (find (.ref x) (.ref C) "__class__") (.bind (.builtin "getset_descriptor.__get__") (.builtin "object.__class__")):=by
 have L1:=looks_findIn (M:=M) X q.gc
 have L2:Looks M h (getOf (some (.builtin "object.__class__"))) (some (.builtin "getset_descriptor.__get__")):=looks_specialIn X q.sg
 have L3:=looks_takesIn (M:=M) X q.tk
 refine L1.andThen (L2.andThen ?_)
 exact (show Looks M h (dataDescriptor? (some (.builtin "object.__class__")) (some (.builtin "getset_descriptor.__get__"))) (some (.builtin "getset_descriptor.__get__",.builtin "object.__class__")) from L3.andThen .now).andThen (Looks.tag .now)
theorem t5 {tk:Tok} (X:K.In s.heap) (hx:s.heap.get? x=some ox) (hc:ox.cls=.ref C) (q:iX K C) (h:R (.ok (.ret (.ref C))) s) :
  codeAny (model prog w) A (.call (.builtin "BaseException.__getattribute__") ⟨[.ref x,.str "__class__" tk],[]⟩) R s:=by
 obtain ⟨hh,g,dr,t,os⟩:=s
 have L0:=xi (M:=model prog w) hx hc
 have L1:=looks_mroIn (M:=model prog w) X q.mb
 have L2:=t4 (M:=model prog w) (x:=x) X q
 refine codeAny_call_builtin PySem.F.attrBase_ValueError.ga.plain PySem.F.entry_bexc_ga ?_
 have hk:builtinKind "BaseException.__getattribute__" = some .slot:=by decide +kernel
 have H_:splitId "BaseException.__getattribute__" = some ("BaseException","__getattribute__"):=by decide +kernel
 have ha:=PySem.F.args_bexc_ga (.ref x) (.str "__class__" tk)
 simp only [checkBuiltinCall,hk,H_]
 refine wpAny_bind ?_
 unfold isInstance
 refine wpAny_bind (L0.at (L1.at ?_))
 simp only [Bool.not_true,Bool.false_eq_true,if_false]
 unfold argsOk at ha
 generalize Manifest.signature? "BaseException.__getattribute__" = sg at ha ⊢
 cases sg
 all_goals (try (dsimp only at ha ⊢; rw [ha]))
 all_goals refine wpAny_pure ?_
 all_goals unfold Builtin.«object.__getattribute__»
 all_goals (refine wpAny_bind (wpAny_pure ?_))
 all_goals (refine wpAny_bind (wpAny_pure ?_))
 all_goals (refine wpAny_bind (L0.at (wpAny_bind (L2.at ?_))))
 all_goals (unfold bindTo)
 all_goals (dsimp only)
 all_goals (refine wpAny_bind (wpAny_holding ?_))
 all_goals (refine wpAny_call (vD X hx hc q.mo ?_))
 all_goals (exact wpAny_pure h)
theorem yH {tk:Tok} {Q:Value->Shared->Prop} (X:K.In s.heap) (hx:s.heap.get? x=some ox) (hc:ox.cls=.ref C) (q:iX K C) (h:Q (.ref C) s):wpAny (model prog w) A (getAttrBy (.ref x) (.str "__class__" tk) false) Q E s:=by
 obtain ⟨hh,g,dr,t,os⟩:=s
 have L0:=xi (M:=model prog w) hx hc
 have L1:=looks_findIn (M:=model prog w) X q.ga
 have L2:=looks_findIn (M:=model prog w) X q.gh
 unfold getAttrBy
 refine wpAny_holding (wpAny_bind (L0.at (wpAny_bind (L1.at ?_))))
 have Sn:(Value.builtin "BaseException.__getattribute__" == Value.builtin "object.__getattribute__")=false:=by decide +kernel
 have Lp:(onTheHeap (Value.ref C)&&Value.builtin "BaseException.__getattribute__" == Value.builtin "object.__getattribute__")=false:=by rw [Sn]; rfl
 dsimp only
 rw [if_neg (by rw [Lp]; decide)]
 unfold getAttrByItsOwn
 refine wpAny_bind ?_
 have L3:Looks (model prog w) hh (hookBefore (.ref C)) none:=looks_hook X (by rw [if_pos (by rfl)]; exact q.gh)
 refine L3.at (wpAny_bind (wpAny_attempt (wpAny_holding ?_)))
 unfold callGetattribute
 rw [if_neg (by simp)]
 unfold boundAndCalled
 rw [PySem.F.attrBase_ValueError.ga.bind (.ref x)]
 refine wpAny_bind (wpAny_pure ?_)
 refine wpAny_call (t5 X hx hc q ?_)
 exact handed_on rfl h
theorem t7 {Q:Option Value->Shared->Prop} (X:K.In s.heap) (hx:s.heap.get? x=some ox) (hc:ox.cls=.ref C) (q:iX K C) (h:Q (some (.ref C)) { s with toks:=s.toks+1 }):wpAny (model prog w) A (getAttr? (.ref x) "__class__") Q E s:=by
 unfold getAttr? getAttrBy?
 refine wpAny_bind (wpAny_mkText (wpAny_bind (wpAny_attempt (yH X hx hc q ?_))))
 exact wpAny_pure h
end
theorem A3 {K:PySem.W.Frag} {x C:Addr} {ox:Obj} (hc:ox.cls=.ref C) (q:iX K C):KitX K (.ref x) (.ref C) (fun h=>h.get? x=some ox) where
 ty:=fun _ _ _ hx=>xi hx hc
 it:=fun M h X _=>(kit_cls (M:=M) X q.kc).2.1
 ne:=fun h tp dd aD n sl X e=>Bool.eq_false_iff.mpr fun z=>by
  have z:=beq_iff_eq.mp z
  cases z
  have kc:=q.kc
  unfold kitCls at kc
  dsimp only at kc
  split at kc
  ·rename_i z
   rw [Bool.and_eq_true] at z
   have z0:=z.1
   unfold clsIn at z0
   split at z0
   ·rename_i c' d' Ug Fw ho
    rw [X _ _ ho] at e
    cases e
   ·cases z0
  ·cases kc
 ca:=fun X hx k=>t7 X hx hc q k
section
variable {X:Cx}
end
end L2
namespace MN
open PySem PySem.Spec L2
open PyProof.Rows hiding St
inductive pI (K:PySem.W.Frag) (mg:Str->Option Value):List Str->Prop
 | nil:pI K mg []
 | cons {x:Str} {C:Addr} {r:List Str} (hm:mg x=some (.ref C)) (hq:rS K C=true) (hr:pI K mg r):pI K mg (x::r)
theorem pI.at_ {K:PySem.W.Frag} {mg:Str->Option Value} {c:Str}:∀ {qs:List Str},pI K mg qs->qs.contains c=true->∃ C,mg c=some (.ref C)/\iX K C
 | _,.nil,h=>by simp at h
 | _,.cons (x:=x) hm hq hr,h=>by
  by_cases e:c=x
  ·subst e; exact ⟨_,hm,yG hq⟩
  ·exact hr.at_ (by simpa [e] using h)
section
variable {X:Cx} {E:XK} {pos p q1 GZ:Pos} {n:Str} {i:Nat} {tab:List (Str × Str × Bool)} {qs xs:List Str} {es:List Expr} {cx:Nat}
end
section
variable {K:PySem.W.Frag} {ρ ρ':List Addr} {H H':Hp} {c:Addr} {o:Obj}
end
section
variable {X:Cx} {E:XK} {pos p:Pos} {e:Expr} {es:List Expr} {ms:MA} {x:Str} {L:mS} {k:Nat} {mb:ME}
end
section
variable {P:Program} {w:World} {K:PySem.W.Frag} {mg:Str->Option Value} {base:Heap}
end
noncomputable def Lq:Res Val->Res Val
 | .ok v st=>.ok v st
 | _=>.bad
structure Eh where
 S:mS
 own:Str
 line:Nat
 col:Nat
section
variable {X:Cx} {E:XK} {pos p lp:Pos} {e:Expr} {es:List Expr} {ms:MA} {x y:Str} {L:Eh} {k j:Nat} {f:Val->FN} {c cd T:Addr}
end
end MN
namespace L2
open PySem PySem.Spec PyProof.Rows
section
variable {X:Cx}
end
end L2
namespace MN
open PySem PySem.Spec L2
open PyProof.Rows hiding St
section
variable {X:Cx} {E:XK} {o:Expr} {mo:ME} {apos a7:Pos}
end
end MN
namespace PM
open PySem PySem.Spec L2 MN
open PyProof.Rows hiding St
noncomputable def dY:FN:=mU 1 1 (aR (rF (AJ "int" (ae 0)) (La (AJ "bool" (ae 0)))))
end PM
namespace MN
open PySem PySem.Spec L2
open PyProof.Rows hiding St
theorem fh {g:ah->Prop} {a:AS} {body:MB} (P:Nat->Env->ah->Prop):∀ (us:List Val) (k:Nat) (μ:Env) (st:ah),
  (∀ (i:Nat) (u:Val) (μ:Env) (st:ah),us[i]?=some u->P (k+i) μ st->g st/\∃ μ1,a u μ=some μ1/\∃ μ' ar,(body μ1 st=.nx μ' ar\/body μ1 st=.ct μ' ar)/\P (k+i+1) μ' ar) ->
  (∀ μ st,P (k+us.length) μ st->g st)->P k μ st->∃ μ' ar,forL g a body us μ st=.nx μ' ar/\P (k+us.length) μ' ar
 | [],k,μ,st,_,he,h=>by
  refine ⟨μ,st,?_,h⟩
  unfold forL
  rw [if_pos (he μ st h)]
 | u::us,k,μ,st,hs,he,h=>by
  obtain ⟨hg,μ1,ha,μ',ar,hb,hP⟩:=hs 0 u μ st rfl h
  have ih:=fh (a:=a) (body:=body) P us (k+1) μ' ar (fun i v μ2 cJ hv hp=>by
   have:=hs (i+1) v μ2 cJ hv (by rw [show k+(i+1)=k+1+i by lia]; exact hp)
   rw [show k+(i+1)+1=k+1+i+1 by lia] at this
   exact this) (fun μ2 cJ hp=>he μ2 cJ (by rw [List.length_cons,show k+(us.length+1)=k+1+us.length by lia]; exact hp)) hP
  obtain ⟨μ2,cJ,e2,p2⟩:=ih
  refine ⟨μ2,cJ,?_,by rw [List.length_cons,show k+(us.length+1)=k+1+us.length by lia]; exact p2⟩
  unfold forL
  rw [if_pos hg,ha]
  rcases hb with hb | hb <;> (dsimp only; rw [hb]; exact e2)
theorem cP {g:ah->Prop} {a:AS} {c:MT} {e:ME} {st:ah} (hg:g st) (I:Env->Prop) (p:Val->Bool) (f:Val->Val):∀ (us:List Val) (τ:Env) (ys:List Val),I τ ->
  (∀ u∈us,∀ τ,I τ->∃ τ1,a u τ=some τ1/\I τ1/\c τ1 st=.ok (p u) st/\(p u=true->e τ1 st=.ok (f u) st))->fg g a c e us τ st ys=.ok (ys++(us.filter p).map f) st
 | [],τ,ys,_,_=>by
  unfold fg
  rw [if_pos hg]; simp
 | u::us,τ,ys,hI,hs=>by
  obtain ⟨τ1,h1,h2,h3,h4⟩:=hs u List.mem_cons_self τ hI
  have Ng:=fun v hv=>hs v (List.mem_cons_of_mem u hv)
  unfold fg
  rw [if_pos hg,h1]
  dsimp only
  rw [h3]
  cases z:p u with
  | true=>
   dsimp only
   rw [h4 z]
   dsimp only
   rw [cP hg I p f us τ1 _ h2 Ng,List.filter_cons_of_pos z]
   simp
  | false=>
   dsimp only
   rw [cP hg I p f us τ1 _ h2 Ng,List.filter_cons_of_neg (by rw [z]; simp)]
theorem aP (st:ah) (us:List Val):itemsOf (st++[.lst us]) st.length=some us:=by
 unfold itemsOf
 rw [List.getElem?_append_right (Nat.le_refl _),Nat.sub_self]; rfl
theorem bN {st:ah} {n:Nat} {us:List Val} (h:itemsOf st n=some us) (more:ah):itemsOf (st++more) n=some us:=by
 have hn:n<st.length:=by
  rcases Nat.lt_or_ge n st.length with q | q
  ·exact q
  ·unfold itemsOf at h; rw [List.getElem?_eq_none q] at h; cases h
 unfold itemsOf at h ⊢
 rw [List.getElem?_append_left hn]; exact h
noncomputable def Res.ic {α β:Type} (r:Res α) (k:α->ah->Res β):Res β:=match r with
 | .ok a st=>k a st
 | .err c st=>.err c st
 | .bad=>.bad
noncomputable def Res.FV {α:Type} (r:Res α) (μ:Env) (k:α->ah->dm):dm:=match r with
 | .ok a st=>k a st
 | .err c st=>.er c μ st
 | .bad=>.bad
noncomputable def dm.cT (r:dm) (k:MB):dm:=match r with
 | .nx μ st=>k μ st
 | .rt v st=>.rt v st
 | .bk μ st=>.bk μ st
 | .ct μ st=>.ct μ st
 | .er c μ st=>.er c μ st
 | .bad=>.bad
noncomputable def dm.fin (r:dm):Res Val:=match r with
 | .nx _ ar=>.ok .bD ar
 | .rt v ar=>.ok v ar
 | .er c _ ar=>.err c ar
 | _=>.bad
section
variable {α β:Type} {μ:Env} {st:ah}
theorem aw {a:α} {k:α->ah->Res β}:(Res.ok a st).ic k=k a st:=rfl
theorem aT {a:α} {k:α->ah->dm}:(Res.ok a st).FV μ k=k a st:=rfl
theorem ay {k:MB}:(dm.nx μ st).cT k=k μ st:=rfl
theorem A4 {v:Val} {k:MB}:(dm.rt v st).cT k=.rt v st:=rfl
theorem lC {v:Val}:(dm.rt v st).fin=.ok v st:=rfl
theorem ko {r:Res α} {k:α->ah->Res β}:r.bind k=r.ic k:=by cases r <;> rfl
variable {a b c:ME} {f g:F2} {t u:MT} {s1 s2:MB} {ms:MA} {i:Nat} {v:Val}
theorem cq {r:Res α} {k k':α->ah->Res β} (h:∀ a st,k a st=k' a st):r.bind k=r.ic k':=by cases r <;> first | exact h _ _ | rfl
theorem ou {r:Res α} {k k':α->ah->dm} (h:∀ a st,k a st=k' a st):r.sb μ k=r.FV μ k':=by cases r <;> first | exact h _ _ | rfl
noncomputable def A5 (f:F2) (x:Val):Val->ah->Res Val:=fun y st=>f x y st
noncomputable def Lr (f:F2) (b:ME) (μ:Env):Val->ah->Res Val:=fun x st=>(b μ st).ic (A5 f x)
theorem gB:ag f a b μ st=(a μ st).ic (Lr f b μ):=cq fun _ _=>cq fun _ _=>rfl
theorem jw {x:Val}:Lr f b μ x st=(b μ st).ic (A5 f x):=rfl
theorem gC {x y:Val}:A5 f x y st=f x y st:=rfl
theorem rT:mC v μ st=.ok v st:=rfl
noncomputable def Q3:Val->ah->Res Bool
 | .bl b,st=>.ok b st
 | _,_=>.bad
theorem jM {b:Bool}:Q3 (.bl b) st=.ok b st:=rfl
theorem ie:bM a μ st=(a μ st).ic Q3:=cq fun x _=>by cases x <;> rfl
noncomputable def Ls (b:ME) (μ:Env):Val->ah->Res Val
 | .bl true,st=>b μ st
 | .bl false,st=>.ok (.bl false) st
 | _,_=>.bad
theorem Ia:rF a b μ st=(a μ st).ic (Ls b μ):=cq fun x _=>by
 cases x <;> try rfl
 rename_i k; cases k <;> rfl
theorem Ei:Ls b μ (.bl true) st=b μ st:=rfl
noncomputable def Lu (u:MT) (μ:Env):Bool->ah->Res Bool
 | true,st=>u μ st
 | false,st=>.ok false st
theorem rV:kg t u μ st=(t μ st).ic (Lu u μ):=cq fun x _=>by cases x <;> rfl
noncomputable def Lv (u:MT) (μ:Env):Bool->ah->Res Bool
 | true,st=>.ok true st
 | false,st=>u μ st
theorem ow:fw t u μ st=(t μ st).ic (Lv u μ):=cq fun x _=>by cases x <;> rfl
theorem nq:Lv u μ false st=u μ st:=rfl
noncomputable def FW:Bool->ah->Res Bool:=fun k st=>.ok (!k) st
theorem rW:cQ t μ st=(t μ st).ic FW:=cq fun _ _=>rfl
theorem Ib {k:Bool}:FW k st=.ok (!k) st:=rfl
theorem gD:aj μ st=.ok [] st:=rfl
noncomputable def vE (x:Val):List Val->ah->Res (List Val):=fun xs st=>.ok (x::xs) st
noncomputable def FX (ms:MA) (μ:Env):Val->ah->Res (List Val):=fun x st=>(ms μ st).ic (vE x)
theorem dP:aa a ms μ st=(a μ st).ic (FX ms μ):=cq fun _ _=>cq fun _ _=>rfl
theorem fS {x:Val}:FX ms μ x st=(ms μ st).ic (vE x):=rfl
theorem d_ {x:Val} {xs:List Val}:vE x xs st=.ok (x::xs) st:=rfl
noncomputable def Lw:List Val->ah->Res Val:=fun xs st=>if xs.length<=sizeLine then .ok (.tup xs) st else .bad
theorem rX:d8 ms μ st=(ms μ st).ic Lw:=cq fun _ _=>rfl
theorem A6 {xs:List Val}:Lw xs st=if xs.length<=sizeLine then .ok (.tup xs) st else .bad:=rfl
noncomputable def Lx:List Val->ah->Res Val:=fun xs st=>if xs.length<=sizeLine then .ok (.loc st.length) (st++[.lst xs]) else .bad
theorem A7:bb ms μ st=(ms μ st).ic Lx:=cq fun _ _=>rfl
theorem FY {xs:List Val}:Lx xs st=if xs.length<=sizeLine then .ok (.loc st.length) (st++[.lst xs]) else .bad:=rfl
theorem jf {h:FN}:ak h ms μ st=(ms μ st).ic h:=cq fun _ _=>rfl
noncomputable def So:Val->ah->Res Val
 | .int i,st=>.ok (.int (-i)) st
 | _,_=>.bad
noncomputable def Ic (T:String) (v:Val) (st:ah):Res Val:=match Ld T st v with
 | some b=>.ok (.bl b) st
 | none=>.bad
theorem Ly {T:String}:AJ T a μ st=(a μ st).ic (Ic T):=cq fun _ _=>rfl
theorem au:aI s1 s2 μ st=(s1 μ st).cT s2:=by
 unfold aI; cases s1 μ st <;> rfl
theorem nr:bh μ st=.nx μ st:=rfl
noncomputable def Lz (μ:Env):Val->ah->dm:=fun _ st=>.nx μ st
theorem gk:cR a μ st=(a μ st).FV μ (Lz μ):=ou fun _ _=>rfl
noncomputable def LA:Val->ah->dm:=fun v st=>.rt v st
theorem cF:aR a μ st=(a μ st).FV μ LA:=ou fun _ _=>rfl
theorem qi:LA v st=.rt v st:=rfl
noncomputable def O5 (s1 s2:MB) (μ:Env):Bool->ah->dm
 | true,st=>s1 μ st
 | false,st=>s2 μ st
theorem fB:fL t s1 s2 μ st=(t μ st).FV μ (O5 s1 s2 μ):=ou fun x _=>by cases x <;> rfl
theorem rY:O5 s1 s2 μ true st=s1 μ st:=rfl
theorem ig:O5 s1 s2 μ false st=s2 μ st:=rfl
noncomputable def LB (i:Nat) (μ:Env):Val->ah->dm:=fun v st=>.nx (μ.set i (some v)) st
theorem jN:aL i a μ st=(a μ st).FV μ (LB i μ):=ou fun _ _=>rfl
theorem xj:LB i μ v st=.nx (μ.set i (some v)) st:=rfl
noncomputable def kFor (as:AS) (s1:MB) (μ:Env):Itm->ah->dm:=fun p st=>forL p.2 as s1 p.1 μ st
theorem jO {it:MI} {as:AS}:gJ it as s1 μ st=(it μ st).FV μ (kFor as s1 μ):=ou fun _ _=>rfl
theorem oy {as:AS} {us:List Val} {q:ah->Prop}:kFor as s1 μ (us,q) st=forL q as s1 us μ st:=rfl
noncomputable def A8:List Val->ah->Res Val:=fun ys st=>.ok (.loc st.length) (st++[.lst ys])
theorem oz {ys:List Val}:A8 ys st=.ok (.loc st.length) (st++[.lst ys]):=rfl
noncomputable def A9 (k:Nat) (caps:List Nat) (as:AS) (t:MT) (a:ME) (μ:Env):Itm->ah->Res Val:=fun p st=>if p.1.length<=sizeLine then (fg p.2 as t a p.1 (lq k caps μ) st []).ic A8 else .bad
theorem ij {k:Nat} {caps:List Nat} {it:MI} {as:AS}:cD k caps it as t a μ st=(it μ st).ic (A9 k caps as t a μ):=cq fun p aV=>by
 unfold A9
 split
 ·exact cq fun _ _=>rfl
 ·rfl
theorem jP {k:Nat} {caps:List Nat} {as:AS} {us:List Val} {q:ah->Prop}:A9 k caps as t a μ (us,q) st=if us.length<=sizeLine then (fg q as t a us (lq k caps μ) st []).ic A8 else .bad:=rfl
theorem dF {np n:Nat} {us:List Val} (h:us.length=np):mU np n s1 us st=(s1 (us.map some++List.replicate (n-np) none) st).fin:=by
 unfold mU; rw [if_pos h]; cases s1 (us.map some++List.replicate (n-np) none) st <;> rfl
theorem jx {x:Option Val} {μ:Env}:ae (i+1) (x::μ) st=ae i μ st:=rfl
theorem jy {μ:Env} {j:Int}:ae 0 (some (.int j)::μ) st=.ok (.int j) st:=rfl
theorem A_ {μ:Env} {j:Nat}:ae 0 (some (.loc j)::μ) st=.ok (.loc j) st:=rfl
noncomputable def t8 (v:Val) (st:ah):Res Itm:=match og st v with
 | some p=>.ok p st
 | none=>.bad
theorem gm:fA a μ st=(a μ st).ic t8:=by unfold fA; rw [ko]; rfl
theorem yI {us:List Val}:t8 (.tup us) st=.ok (us,fun _=>True) st:=rfl
theorem eQ {n:Nat} {us:List Val} (h:itemsOf st n=some us):t8 (.loc n) st=.ok (us,fun ar=>itemsOf ar n=some us) st:=by
 simp only [t8,og,h]; rfl
noncomputable def Ie (vs:List Val) (ar:ah):Res Itm:=match vs with
 | [.int j]=>if -(2 ^ 62)<=j/\j<2 ^ 62 then .ok (bH 0 j.toNat,fun _=>True) ar else .bad
 | _=>.bad
theorem rZ:cz ms μ st=(ms μ st).ic Ie:=by unfold cz; rw [ko]; rfl
theorem r0 {j:Int} (h1:-(2 ^ 62)<=j) (h2:j<2 ^ 62):Ie [.int j] st=.ok (bH 0 j.toNat,fun _=>True) st:=by unfold Ie; dsimp only; rw [if_pos ⟨h1,h2⟩]
noncomputable def Ej (b1 b2:Bool) (vs:List Val) (ar:ah):Res Itm:=match vs with
 | [u,w]=>match gv ar u,gv ar w with
  | some (c1,us,g1),some (c2,ws,g2)=>if c1=b1/\c2=b2 then .ok (iV us ws,fun cJ=>g1 cJ/\g2 cJ) ar else .bad
  | _,_=>.bad
 | _=>.bad
theorem Ba {b1 b2:Bool}:iH b1 b2 ms μ st=(ms μ st).ic (Ej b1 b2):=by unfold iH; rw [ko]; rfl
theorem xk {us ws:List Val}:Ej false false [.tup us,.tup ws] st=.ok (iV us ws,fun _=>True/\True) st:=rfl
theorem ik {n:Nat} {us:List Val} (h1:itemsOf st n=some us):ff [.loc n] st=.ok (.tup us) st:=by unfold ff; dsimp only; rw [h1]
theorem jQ {i j:Int}:cb (.int i) (.int j) st=.ok (.int (i+j)) st:=rfl
theorem vF {i j:Int}:mV (.int i) (.int j) st=.ok (.int (i-j)) st:=rfl
theorem r6 {i j:Int} (h:MulOk i j):cw (.int i) (.int j) st=.ok (.int (i*j)) st:=by unfold cw; dsimp only; rw [if_pos h]
theorem jz {i j:Int} (h1:-(2 ^ 64)<i) (h2:i<2 ^ 64):cw (.int i) (.int j) st=.ok (.int (i*j)) st:=r6 (.inr (.inl ⟨h1,h2⟩))
theorem mul_r {i j:Int} (h1:-(2 ^ 64)<j) (h2:j<2 ^ 64):cw (.int i) (.int j) st=.ok (.int (i*j)) st:=r6 (.inr (.inr ⟨h1,h2⟩))
theorem div_ii {i j:Int} (h:Dz j):cL (.int i) (.int j) st=.ok (.int (i.fdiv j)) st:=if_pos h
theorem dI {i j:Int} (h:¬ j=0):bR (.int i) (.int j) st=.ok (.int (i.fmod j)) st:=if_neg h
theorem Ig {i j:Int} (h:zP i j):AA (.int i) (.int j) st=.ok (.int (i ^ j.toNat)) st:=if_pos h
theorem FZ {i j:Int}:ltV (.int i) (.int j) st=.ok (.bl (decide (i<j))) st:=rfl
theorem xn {i j:Int}:e9 (.int i) (.int j) st=.ok (.bl (i==j)) st:=rfl
theorem xo {i j:Int}:iL (.int i) (.int j) st=.ok (.bl (!(i==j))) st:=rfl
theorem ve {us:List Val} {i:Int} {v:Val} (h:L2.px us i=some v):aZ (.tup us) (.int i) st=.ok v st:=by unfold aZ; dsimp only; rw [h]
theorem oA {n:Nat} {us:List Val} {i:Int} {v:Val} (h1:itemsOf st n=some us) (h:L2.px us i=some v):aZ (.loc n) (.int i) st=.ok v st:=by unfold aZ; dsimp only; rw [h1]; dsimp only; rw [h]
theorem kq {n:Nat} {us:List Val} (h1:itemsOf st n=some us):dZ [.loc n] st=.ok (.int us.length) st:=by unfold dZ; dsimp only; rw [h1]
theorem xp {us:List Val}:dZ [.tup us] st=.ok (.int us.length) st:=rfl
theorem xq {n m:Nat} {us:List Val} (h1:itemsOf st n=some us) (h2:itemsOf st m=some []):j4 16 st (.loc n) (.loc m)=some us.isEmpty:=by
 unfold j4
 simp only [vw,h1,h2]
 show jr _ us []=_
 cases us <;> rfl
theorem eq_nil {n m:Nat} {us:List Val} (h1:itemsOf st n=some us) (h2:itemsOf st m=some []):e9 (.loc n) (.loc m) st=.ok (.bl us.isEmpty) st:=by unfold e9; rw [xq h1 h2]
theorem ne_nil {n m:Nat} {us:List Val} (h1:itemsOf st n=some us) (h2:itemsOf st m=some []):iL (.loc n) (.loc m) st=.ok (.bl (!us.isEmpty)) st:=by unfold iL; rw [xq h1 h2]
end
end MN
namespace MN
open PySem PySem.Spec L2
open PyProof.Rows hiding St kindOf
section
variable {μ:Env} {st:ah} {a b c o:ME} {ms:MA} {f:F2} {g:FM} {v w:Val} {i n m:Nat} {us ws:List Val}
noncomputable def Ih (x:Val) (l:Option Int):Option Int->ah->Res Val:=fun h st=>Ec l h x st
noncomputable def Ii (hi:MO) (μ:Env) (x:Val):Option Int->ah->Res Val:=fun l st=>(hi μ st).ic (Ih x l)
noncomputable def Q4 (lo hi:MO) (μ:Env):Val->ah->Res Val:=fun x st=>(lo μ st).ic (Ii hi μ x)
theorem LC {lo hi:MO}:Ed a lo hi μ st=(a μ st).ic (Q4 lo hi μ):=cq fun x aV=>cq fun l cJ=>cq fun h jo=>rfl
theorem O6 {lo hi:MO}:Q4 lo hi μ v st=(lo μ st).ic (Ii hi μ v):=rfl
theorem LD {hi:MO} {l:Option Int}:Ii hi μ v l st=(hi μ st).ic (Ih v l):=rfl
theorem LF {l h:Option Int}:Ih v l h st=Ec l h v st:=rfl
theorem Bb:kj μ st=.ok none st:=rfl
noncomputable def kO:Val->ah->Res (Option Int)
 | .int i,st=>.ok (some i) st
 | _,_=>.bad
theorem Bc:kl a μ st=(a μ st).ic kO:=cq fun x _=>by cases x <;> rfl
theorem O7 {j:Int}:kO (.int j) st=.ok (some j) st:=rfl
theorem Ij {l h:Option Int} (e:itemsOf st n=some us):Ec l h (.loc n) st=.ok (.loc st.length) (st++[.lst (vC us l h)]):=by
 simp only [Ec,e]
noncomputable def Ik (g:FM) (x:Val):List Val->ah->Res Val:=fun xs st=>g x xs st
noncomputable def Ek (g:FM) (ms:MA) (μ:Env):Val->ah->Res Val:=fun x st=>if mw st x=true then (ms μ st).ic (Ik g x) else .bad
theorem jR:fH g o ms μ st=(o μ st).ic (Ek g ms μ):=cq fun x aV=>by
 unfold Ek
 split
 ·exact cq fun _ _=>rfl
 ·rfl
theorem oB (h:st[n]?=some (.lst us)):Ek g ms μ (.loc n) st=(ms μ st).ic (Ik g (.loc n)):=by
 unfold Ek
 rw [if_pos (by unfold mw; dsimp only; rw [h])]
theorem t9 {xs:List Val}:Ik g v xs st=g v xs st:=rfl
noncomputable def Il (g:FM):Val->ah->Res Val:=fun x st=>if mw st x=true then g x [] st else .bad
theorem Im:AX g o μ st=(o μ st).ic (Il g):=cq fun _ _=>rfl
theorem LG (h:st[n]?=some (.lst us)):Il g (.loc n) st=g (.loc n) [] st:=by
 unfold Il
 rw [if_pos (by unfold mw; dsimp only; rw [h])]
theorem gL (h:st[n]?=some (.lst us)) (hl:us.length<sizeLine):bX (.loc n) [v] st=.ok .bD (st.set n (.lst (us++[v]))):=by
 simp only [bX,h]
 rw [if_pos hl]
theorem Bd (h:st[n]?=some (.lst (us++[v]))):Ln (.loc n) [] st=.ok v (st.set n (.lst us)):=by
 simp only [Ln,h]
 have e:(us++[v])[(us++[v]).length-1]?=some v:=by
  rw [List.length_append,List.length_singleton,Nat.add_sub_cancel,List.getElem?_append_right (Nat.le_refl _),Nat.sub_self]; rfl
 rw [e,List.dropLast_concat]
theorem Be (h:st[n]?=some (.lst us)):jL (.loc n) [] st=.ok .bD (st.set n (.lst [])):=by
 simp only [jL,h]
theorem xr (e:itemsOf st n=some us):pG [.loc n] st=.ok (.loc st.length) (st++[.lst us]):=by
 simp only [pG,e]
theorem LH (h:st[n]?=some (.lst us)):itemsOf st n=some us:=by unfold itemsOf; rw [h]
theorem eR (st:ah) (us:List Val):(st++[Cell.lst us])[st.length]?=some (.lst us):=by
 rw [List.getElem?_append_right (Nat.le_refl _),Nat.sub_self]; rfl
theorem is_list (h:st[n]?=some (.lst us)):Ic "list" (.loc n) st=.ok (.bl true) st:=by
 unfold Ic Ld kindOf; dsimp only; rw [h]; rfl
theorem Bf (st:ah) (k k':Cell):(st++[k]).set st.length k'=st++[k']:=by
 rw [List.set_append_right _ _ (Nat.le_refl _),Nat.sub_self]; rfl
theorem r9 (st:ah) (k k':Cell) (g:ah):(st++k::g).set st.length k'=st++k'::g:=by
 rw [List.set_append_right _ _ (Nat.le_refl _),Nat.sub_self]; rfl
theorem Io (st:ah) (k:Cell) (g:ah):(st++k::g)[st.length]?=some k:=by
 rw [List.getElem?_append_right (Nat.le_refl _),Nat.sub_self]; rfl
end
mutual
noncomputable def qm:Nat->Val->Bool
 | _,.bD=>true
 | _,.bl _=>true
 | _,.int _=>true
 | _,.str _=>true
 | 0,.tup _=>false
 | n+1,.tup us=>dQ n us
 | _,_=>false
noncomputable def dQ:Nat->List Val->Bool
 | _,[]=>true
 | n,u::us=>qm n u&&dQ n us
end
mutual
theorem Bg (st:ah):∀ (n:Nat) (v:Val),qm n v=true->j4 (n+1) st v v=some true
 | _,.bD,_=>rfl
 | _,.bl b,_=>by show some (b==b)=_; rw [beq_self_eq_true]
 | _,.int i,_=>by show some (i==i)=_; rw [beq_self_eq_true]
 | _,.str x,_=>by show some (x==x)=_; rw [beq_self_eq_true]
 | 0,.tup _,h=>by cases h
 | n+1,.tup us,h=>by
  show jr (j4 (n+1) st) us us=some true
  exact jg st n us h
 | n,.loc _,h=>by cases n <;> cases h
 | n,.exc _,h=>by cases n <;> cases h
 | n,.fn _ _,h=>by cases n <;> cases h
 | n,.mt _,h=>by cases n <;> cases h
theorem jg (st:ah):∀ (n:Nat) (us:List Val),dQ n us=true->jr (j4 (n+1) st) us us=some true
 | _,[],_=>rfl
 | n,u::us,h=>by
  have h':qm n u=true/\dQ n us=true:=by simpa [dQ] using h
  show (match j4 (n+1) st u u,jr (j4 (n+1) st) us us with | some a,some b=>some (a&&b) | _,_=>none)=_
  rw [Bg st n u h'.1,jg st n us h'.2]; rfl
end
theorem jh {n:Nat}:∀ {us:List Val},(∀ u∈us,qm n u=true)->dQ n us=true
 | [],_=>rfl
 | u::us,h=>by
  unfold dQ
  rw [h u List.mem_cons_self,jh fun w hw=>h w (List.mem_cons_of_mem u hw)]; rfl
theorem mB (n:Nat) (ns:List Int):dQ n (ns.map Val.int)=true:=jh fun u hu=>by
 obtain ⟨i,_,rfl⟩:=List.mem_map.mp hu
 cases n <;> rfl
section
variable {st:ah} {n m:Nat} {us:List Val}
theorem qo (h1:itemsOf st n=some us) (h2:itemsOf st m=some us) (hp:dQ 14 us=true):j4 16 st (.loc n) (.loc m)=some true:=by
 unfold j4
 simp only [vw,h1,h2]
 exact jg st 14 us hp
theorem Bh (h1:itemsOf st n=some us) (h2:itemsOf st m=some us) (hp:dQ 14 us=true):e9 (.loc n) (.loc m) st=.ok (.bl true) st:=by unfold e9; rw [qo h1 h2 hp]
theorem t_ (h1:itemsOf st n=some us) (h2:itemsOf st m=some us) (hp:dQ 14 us=true):iL (.loc n) (.loc m) st=.ok (.bl false) st:=by unfold iL; rw [qo h1 h2 hp]; rfl
end
end MN
namespace SO
open PySem PySem.W PyProof.Rows
noncomputable def Ok (L:Nat->Nat->Bool) (n:Nat) {α:Type} (P:α->Prop):KasT α->Prop
 | .ret a=>P a
 | .ask i j k=>i<n/\j<n/\Ok L n P (k (L i j))
theorem Ok.bind {L:Nat->Nat->Bool} {n:Nat} {α β:Type} {P:α->Prop} {Q:β->Prop} {f:α->KasT β} (hf:∀ a,P a->Ok L n Q (f a)):∀ {t:KasT α},Ok L n P t->Ok L n Q (t.bind f)
 | .ret a,h=>hf a h
 | .ask _ _ _,h=>⟨h.1,h.2.1,Ok.bind hf h.2.2⟩
theorem Ok.imp {L:Nat->Nat->Bool} {n:Nat} {α:Type} {P Q:α->Prop} (hf:∀ a,P a->Q a):∀ {t:KasT α},Ok L n P t->Ok L n Q t
 | .ret a,h=>hf a h
 | .ask _ _ _,h=>⟨h.1,h.2.1,Ok.imp hf h.2.2⟩
structure Ord (L:Nat->Nat->Bool) (n:Nat):Prop where
 tr:∀ i j k,i<n->j<n->k<n->L i j=true->L j k=true->L i k=true
 Bi:∀ i j,i<n->j<n->i≠j->L i j=false->L j i=true
 Sq:∀ i j,i<n->j<n->L i j=true->L j i=false
section
variable {n:Nat} {p:Array Nat}
end
section
variable {L:Nat->Nat->Bool} {n:Nat} (O:Ord L n)
include O
end
noncomputable def gM (h:Heap) (d:Addr) (es:Array DictEntry) (ep:Nat):Prop:=∃ o,h.get? d=some o/\o.cls=.type "dict" /\ o.data=.dict es ep
section
variable {prog:Program} {w:World} {A:Around} {E:Value->Shared->Prop} {s:Shared} {d it:Addr} {es:Array DictEntry} {ep i:Nat}
theorem gM.ty (x:gM s.heap d es ep):s.TypeIs (.ref d) "dict":=by
 obtain ⟨o,ho,hc,_⟩:=x
 exact ⟨o,ho,hc⟩
theorem gM.lt {h:Heap} (x:gM h d es ep):d<h.objs.size:=by
 obtain ⟨o,ho,_⟩:=x
 exact Heap.lt_size ho
theorem gM.to {h h':Heap} (x:gM h d es ep) (hk:∀ o,h.get? d=some o->h'.get? d=some o):gM h' d es ep:=by
 obtain ⟨o,ho,r⟩:=x
 exact ⟨o,hk o ho,r⟩
theorem uc {Q:Value->Shared->Prop} (hd:(d==sysModules)=false) (x:gM s.heap d es ep)
  (hQ:Q (.ref s.heap.objs.size) { s with heap:=s.heap.push { cls:=.type "dict_keyiterator",data:=.fields #[.ref d,.int 0 0,.int es.size 0,.int ep 0] } }):wpAny (model prog w) A (pyIter (.ref d)) Q E s:=by
 obtain ⟨o,go,gc,gd⟩:=id x
 have T:=x.ty
 refine wpAny_pyIter_slot T PySem.F.slot_dict_iter (wpAny_call_entry PySem.F.slot_dict_iter T PySem.F.entry_dict_iter ?_ (PySem.F.args_dict_iter_1 _))
 unfold Builtin.«dict.__iter__»; refine wpAny_bind ?_
 unfold Builtin.Dict.dictSlotNone; refine wpAny_bind (wpAny_notOrdered_dict T ?_)
 show wpAny _ _ (pure (Value.ref d)) _ _ s; refine wpAny_pure ?_
 show wpAny _ _ (Builtin.Dict.showsAll d >>= _) _ _ s; unfold Builtin.Dict.showsAll
 rw [if_neg (by rw [hd]; exact Bool.false_ne_true)]; refine wpAny_bind (wpAny_pure ?_)
 refine wpAny_bind (wpAny_dictEntries go gd ?_)
 refine wpAny_bind (wpAny_dictEpoch go gd ?_)
 refine wpAny_bind (wpAny_newObj_type (wpAny_pure ⟨_,rfl,"dict_keyiterator",_,⟨_,Heap.get?_push_size _ rfl,rfl⟩,PySem.F.slot_dict_keyiterator_next.lookup,?_⟩))
 simpa [rawInt] using hQ
theorem Bj {Q:Option Value->Shared->Prop} (hit:s.heap.IsKeyIter it d i es.size ep) (x:gM s.heap d es ep) (hi:i<es.size)
  (hQ:∀ h',h'.IsKeyIter it d (i+1) es.size ep->Heap.SameBut it s.heap h'->Q (some es[i].key) { s with heap:=h' }):wpAny (model prog w) A (pyNext (.ref it)) Q E s:=by
 obtain ⟨o,ho,hc,hf⟩:=id hit
 obtain ⟨od,go,gc,gd⟩:=id x
 have T:=hit.typeIs
 unfold pyNext
 refine wpAny_bind (wpAny_attempt (wpAny_callSpecial?_slot (name:=Str.ofString "__next__") T PySem.F.slot_dict_keyiterator_next (wpAny_call_entry PySem.F.slot_dict_keyiterator_next T PySem.F.entry_dict_keyiterator_next ?_ (PySem.F.args_dict_keyiterator_next_1 _))))
 refine wpAny_bind (wpAny_pure ?_); refine wpAny_bind ?_; refine wpAny_bind ?_
 first | refine wpAny_bind (wpAny_typeNameOfWhole_keyiter T (wpAny_pure ?_)) | refine wpAny_bind (wpAny_typeNameOf_keyiter T (wpAny_pure ?_))
 refine wpAny_bind (wpAny_fieldsOf ho hf ?_)
 have no:Builtin.Dict_items.ownsTuple "dict_keyiterator" = false:=by decide
 simp only [no,Bool.false_eq_true,if_false]
 show wpAny _ _ (if (Value.ref d==Value.none)=true then _ else _) _ _ s; rw [if_neg (show ¬ ((Value.ref d==Value.none)=true) from Bool.false_ne_true)]
 refine wpAny_bind (wpAny_pure ?_); refine wpAny_bind (wpAny_dictEntries go gd ?_)
 rw [if_neg (by simp)]; refine wpAny_bind (wpAny_pure ?_)
 refine wpAny_bind (wpAny_dictEpoch go gd ?_); rw [if_neg (by simp)]; refine wpAny_pure ?_
 simp only [show ¬ ((i:Int)<0) from by lia,if_false,Int.toNat_natCast,Array.getElem?_eq_getElem hi]; refine wpAny_bind ?_
 first | refine wpAny_bind (wpAny_typeNameOfWhole_keyiter T (wpAny_pure ?_)) | refine wpAny_bind (wpAny_typeNameOf_keyiter T (wpAny_pure ?_))
 refine wpAny_bind (wpAny_isOneOf_keyiter T ?_)
 show wpAny _ _ (setField (.ref it) 1 (rawInt ((i:Int)+1)) >>= _) _ _ s; refine wpAny_bind (wpAny_setField ho hf (by simp) ?_)
 have go2:(s.heap.update it (Obj.mapFields (·.setIfInBounds 1 (rawInt ((i:Int)+1))))).IsKeyIter it d (i+1) es.size ep:=
  ⟨_,Heap.get?_update_self _ ho (Obj.isFreed_of_fields (Obj.data_mapFields hf _)),(Obj.cls_mapFields ..).trans hc,by rw [Obj.data_mapFields hf]; simp [rawInt]⟩
 refine wpAny_bind (wpAny_holding ?_)
 refine wpAny_bind (wpAny_isOneOf_keyiter (s:={ s with heap:=s.heap.update it (Obj.mapFields (·.setIfInBounds 1 (rawInt ((i:Int)+1)))) }) go2.typeIs ?_)
 show wpAny _ _ (pure es[i].key) _ _ _; exact wpAny_pure (wpAny_pure ⟨_,rfl,wpAny_pure (hQ _ go2 (Heap.SameBut.update ..))⟩)
theorem El {Q:Option Value->Shared->Prop} (hh:A.handled=none) (hit:s.heap.IsKeyIter it d i es.size ep) (x:gM s.heap d es ep) (hi:es.size<=i)
  (hQ:∀ h',Heap.ExtBut it s.heap h'->Q none { s with heap:=h' }):wpAny (model prog w) A (pyNext (.ref it)) Q E s:=by
 obtain ⟨o,ho,hc,hf⟩:=id hit
 obtain ⟨od,go,gc,gd⟩:=id x
 have T:=hit.typeIs
 unfold pyNext
 refine wpAny_bind (wpAny_attempt (wpAny_callSpecial?_slot (name:=Str.ofString "__next__") T PySem.F.slot_dict_keyiterator_next (wpAny_call_entry PySem.F.slot_dict_keyiterator_next T PySem.F.entry_dict_keyiterator_next ?_ (PySem.F.args_dict_keyiterator_next_1 _))))
 refine wpAny_bind (wpAny_pure ?_); refine wpAny_bind ?_; refine wpAny_bind ?_
 first | refine wpAny_bind (wpAny_typeNameOfWhole_keyiter T (wpAny_pure ?_)) | refine wpAny_bind (wpAny_typeNameOf_keyiter T (wpAny_pure ?_))
 refine wpAny_bind (wpAny_fieldsOf ho hf ?_)
 have no:Builtin.Dict_items.ownsTuple "dict_keyiterator" = false:=by decide
 simp only [no,Bool.false_eq_true,if_false]
 show wpAny _ _ (if (Value.ref d==Value.none)=true then _ else _) _ _ s; rw [if_neg (show ¬ ((Value.ref d==Value.none)=true) from Bool.false_ne_true)]
 refine wpAny_bind (wpAny_pure ?_); refine wpAny_bind (wpAny_dictEntries go gd ?_)
 rw [if_neg (by simp)]; refine wpAny_bind (wpAny_pure ?_)
 refine wpAny_bind (wpAny_dictEpoch go gd ?_); rw [if_neg (by simp)]; refine wpAny_pure ?_
 simp only [show ¬ ((i:Int)<0) from by lia,if_false,Int.toNat_natCast,Array.getElem?_eq_none hi]; refine wpAny_bind ?_
 first | refine wpAny_bind (wpAny_typeNameOfWhole_keyiter T (wpAny_pure ?_)) | refine wpAny_bind (wpAny_typeNameOf_keyiter T (wpAny_pure ?_))
 show wpAny _ _ (setField (.ref it) 0 .none >>= _) _ _ s; refine wpAny_bind (wpAny_setField ho hf (by simp) ?_)
 show wpAny _ _ (newExc (.type "StopIteration") [] >>= _) _ _ _; refine wpAny_bind ?_; simp only [newExc,newTuple]
 refine wpAny_bind (wpAny_newObj_type ?_ (by size_fits)); refine wpAny_bind (m:=firstArgMember _ _) (wpAny_of_eq (a:=Value.none) (by first | rfl | (simp only [firstArgMember]; rfl)) ?_)
 refine wpAny_newObj_type ?_ (by size_fits); simp only [raiseNew]
 refine wpAny_bind (wpAny_handled ?_); rw [show A.in1.handled=none from hh]; refine wpAny_bind (wpAny_pure (wpAny_throw ?_))
 refine wpAny_bind (wpAny_isInstance (T:="StopIteration") (b:=true) ⟨_,Heap.get?_push_size _ rfl,rfl⟩ isSubtype_stop ?_)
 exact wpAny_pure (hQ _ (((Heap.SameBut.update ..).extBut.push _).push _))
noncomputable def Bk (es:Array DictEntry) (i:Nat) (v:Value):Prop:=∃ h:i<es.size,v=es[i].key
theorem lE (hh:A.handled=none) (I:Addr) (vG:d≠I):Walks prog w A I [I,d] [I] es.size (Bk es) (fun i h=>h.IsKeyIter I d i es.size ep/\gM h d es ep) where
 sub:=fun b hb=>by
  rw [List.mem_singleton] at hb; rw [hb]; exact List.mem_cons_self
 frame:=fun _ _ _ st hk=>⟨st.1.at fun o e=>hk I List.mem_cons_self o e,st.2.to fun o e=>hk d (List.mem_cons_of_mem _ List.mem_cons_self) o e⟩
 item:=fun i s Q E hi st hQ=>Bj st.1 st.2 hi fun h' k1 k2=>
  hQ _ h' s.toks ⟨hi,rfl⟩ ⟨k1,st.2.to fun o e=>k2.extBut d o vG e⟩ fun b o hb e=>k2.extBut b o (fun z=>hb (by rw [z]; exact List.mem_singleton_self _)) e
 done:=fun s Q E st hQ=>El hh st.1 st.2 (Nat.le_refl _) fun h' k=>hQ h' s.toks fun b o hb e=>k b o (fun z=>hb (by rw [z]; exact List.mem_singleton_self _)) e
 self:=fun _ _ _ _ st hQ=>wpAny_pyIter_keyiter st.1 hQ
theorem Em (lo:(d==sysModules)=false):KdlSrc prog w "dict" d d es.size (Bk es) (fun h=>gM h d es ep) where
 type:=fun _ x=>x.ty
 there:=fun _ x=>⟨x.lt,x.lt⟩
 keep:=fun _ _ x hk=>x.to fun o e=>hk d (.inl rfl) o e
 notList:=by decide
 notTuple:=by decide
 hint:=fun _ _ _ _ x q=>kdl_hint_dict x.ty q
 iter:=fun _ _ hh x=>⟨_,_,(fun _ _ q=>uc lo x q),lE hh _ (Nat.ne_of_lt x.lt),⟨⟨_,Heap.get?_push_size _ rfl,rfl,rfl⟩,x.to fun o e=>Heap.get?_push_of_some _ e⟩⟩
end
section
variable {prog:Program} {w:World} {A:Around} {E:Value->Shared->Prop} {s:Shared} {d it:Addr} {es:Array DictEntry} {ep i:Nat}
theorem En {acc:Array Value} (h:ItemsOf (Bk es) acc es.size):acc.toList=es.toList.map (·.key):=by
 apply List.ext_getElem
 ·rw [Array.length_toList,List.length_map,Array.length_toList]; exact h.1
 ·intro i h1 h2
  have hi:i<acc.size:=by rw [Array.length_toList] at h1; exact h1
  obtain ⟨hz,e⟩:=h.2 i acc[i] (Array.getElem?_eq_getElem hi)
  rw [Array.getElem_toList,List.getElem_map,Array.getElem_toList,e]
theorem ud {Q:List Value->Shared->Prop} (hh:A.handled=none) (lo:(d==sysModules)=false) (x:gM s.heap d es ep) (hn:es.size<=sizeLine)
  (h:∀ h' tk,s.heap.objs.size<h'.objs.size->(∀ b o,s.heap.get? b=some o->h'.get? b=some o)->Q (es.toList.map (·.key)) { s with heap:=h',toks:=tk }):wpAny (model prog w) A (collect (.ref d)) Q E s:=by
 unfold collect
 refine wpAny_bind (wpAny_runValue (codeAny_mono (R:=fun r s'=>r=.ok (.ret (.ref s.heap.objs.size))/\wpAny (model prog w) A (do
  let u <- load s.heap.objs.size
  match u.data with
  | .seq xs _=>pure xs.toList
  | _=>unsupported "internal:collect") Q E s') ?_ fun r s' q=>?_))
 ·refine codeAny_builtin entry_proto_collect' ?_
  show wpAny _ _ (do again (.builtin "list.__iadd__" ⟨[<-newList [],.ref d],[]⟩)) _ _ s
  refine wpAny_bind (wpAny_newList (wpAny_pure ⟨Code.quiet_builtin _ (by decide +kernel),codeAny_builtin entry_list_iadd' ?_⟩) (Nat.zero_le _))
  have ne:=Nat.ne_of_gt x.lt
  refine kdl_extend (R:=fun r s'=>r=.ok (.ret (.ref s.heap.objs.size))/\wpAny (model prog w) A (do
   let u <- load s.heap.objs.size
   match u.data with
   | .seq xs _=>pure xs.toList
   | _=>unsupported "internal:collect") Q E s') (s:={ s with heap:=s.heap.push (seqObj "list" #[] 0) }) (Em (es:=es) (ep:=ep) lo) hh (x.to fun o e=>Heap.get?_push_of_some _ e) s.heap.objs.size ne ne (.ref s.heap.objs.size) 0 (Heap.get?_push_size _ rfl) (fun h' tk acc c hk hS Hq=>⟨rfl,?_⟩) hn
  refine wpAny_bind (wpAny_load hS ?_)
  show wpAny _ _ (pure acc.toList) Q E _
  rw [En Hq]
  exact wpAny_pure (h h' tk (Heap.lt_size hS) fun b o e=>hk b o (Nat.ne_of_lt (Heap.lt_size e)) (Heap.get?_push_of_some _ e))
 ·obtain ⟨rfl,q⟩:=q
  exact q
end
noncomputable def lexLt:List Int->List Int->Bool
 | _,[]=>false
 | [],_::_=>true
 | x::xs,y::ys=>if x=y then lexLt xs ys else decide (x<y)
theorem eT:∀ xs:List Int,lexLt xs xs=false
 | []=>rfl
 | x::xs=>by
  show (if x=x then lexLt xs xs else _)=false
  rw [if_pos rfl]; exact eT xs
theorem kr:∀ {xs ys zs:List Int},lexLt xs ys=true->lexLt ys zs=true->lexLt xs zs=true:=by
 intro xs
 induction xs with
 | nil=>
  intro ys zs h1 h2
  cases zs with
  | nil=>cases ys <;> cases h2
  | cons z zs=>rfl
 | cons x xs ih=>
  intro ys zs h1 h2
  cases ys with
  | nil=>cases h1
  | cons y ys=>
   cases zs with
   | nil=>cases h2
   | cons z zs=>
    replace h1:(if x=y then lexLt xs ys else decide (x<y))=true:=h1
    replace h2:(if y=z then lexLt ys zs else decide (y<z))=true:=h2
    show (if x=z then lexLt xs zs else decide (x<z))=true
    by_cases e1:x=y
    ·rw [if_pos e1] at h1
     subst e1
     by_cases e2:x=z
     ·rw [if_pos e2] at h2 ⊢
      exact ih h1 h2
     ·rw [if_neg e2] at h2 ⊢
      exact h2
    ·rw [if_neg e1] at h1
     have Uh:=of_decide_eq_true h1
     by_cases e2:y=z
     ·subst e2
      rw [if_neg e1]
      exact h1
     ·rw [if_neg e2] at h2
      have Nd:=of_decide_eq_true h2
      rw [if_neg (by lia)]
      exact decide_eq_true (by lia)
theorem gN:∀ {xs ys:List Int},xs≠ys->lexLt xs ys=false->lexLt ys xs=true:=by
 intro xs
 induction xs with
 | nil=>
  intro ys h1 h2
  cases ys with
  | nil=>exact absurd rfl h1
  | cons y ys=>cases h2
 | cons x xs ih=>
  intro ys h1 h2
  cases ys with
  | nil=>rfl
  | cons y ys=>
   replace h2:(if x=y then lexLt xs ys else decide (x<y))=false:=h2
   show (if y=x then lexLt ys xs else decide (y<x))=true
   by_cases e:x=y
   ·subst e
    rw [if_pos rfl] at h2 ⊢
    exact ih (fun z=>h1 (by rw [z])) h2
   ·rw [if_neg e] at h2
    rw [if_neg (fun z=>e z.symm)]
    have:=of_decide_eq_false h2
    exact decide_eq_true (by lia)
theorem il {xs ys:List Int} (h:lexLt xs ys=true):lexLt ys xs=false:=by
 cases z:lexLt ys xs with
 | false=>rfl
 | true=>
  have:=kr h z
  rw [eT] at this
  cases this
section
variable {prog:Program} {w:World} {A:Around} {E:Value->Shared->Prop} {s:Shared}
theorem Ip {fin:Bool} {Q:Bool->Shared->Prop}:∀ {us vs:List Value} {xs ys:List Int} (i:Nat),IntsAre us xs->IntsAre vs ys->fin=decide (xs.length<ys.length)->Q (lexLt xs ys) s ->
  KatLex prog w A true fin Q (us.zip vs) i s:=by
 intro us vs xs ys i h1
 induction h1 generalizing vs ys i with
 | nil=>
  intro h2 hf h
  refine kat_nil ?_
  cases h2 with
  | nil=>rw [hf]; exact h
  | cons n t r=>rw [hf]; exact h
 | cons n t r ih=>
  intro h2 hf h
  cases h2 with
  | nil=>
   refine kat_nil ?_
   rw [hf]; exact h
  | @cons m u pF Sr r2=>
   refine kat_cons (wpAny_eqBool_int ?_)
   rename_i sU Ss
   replace h:Q (if n=m then lexLt Ss Sr else decide (n<m)) s:=h
   by_cases e:n=m
   ·subst e
    rw [beq_self_eq_true]
    refine kat_yes (ih (i+1) r2 ?_ ?_)
    ·rw [hf]
     simp only [List.length_cons,Nat.add_lt_add_iff_right]
    ·rw [if_pos rfl] at h; exact h
   ·rw [beq_eq_false_iff_ne.mpr e]
    rw [if_neg e] at h
    refine kat_no ?_
    by_cases hi:i=0
    ·subst hi
     exact oneLt_int h
    ·rw [show (true&&i==0)=false by rw [Bool.true_and]; exact beq_eq_false_iff_ne.mpr hi]
     exact kat_one _ _ (lt_int h)
noncomputable def ef (h:Heap) (v:Value) (xs:List Int):Prop:=xs≠[]/\∃ a o aD n,v=.ref a/\h.get? a=some o/\o.cls=.type "tuple" /\ o.data=.seq aD n/\IntsAre aD.toList xs
theorem ef.to {h h':Heap} {v:Value} {xs:List Int} (t:ef h v xs) (hk:∀ b o,h.get? b=some o->o.cls=.type "tuple" -> h'.get? b=some o):ef h' v xs:=by
 obtain ⟨ne,a,o,aD,n,e,ho,hc,r⟩:=t
 exact ⟨ne,a,o,aD,n,e,hk a o ho hc,hc,r⟩
theorem LJ {Q:Bool->Shared->Prop} {x y:Value} {xs ys:List Int} (h1:ef s.heap x xs) (h2:ef s.heap y ys) (h:Q (lexLt xs ys) s):wpAny (model prog w) A (keyLt' (tuples' true) x y) Q E s:=by
 obtain ⟨_,a,o,aD,n,rfl,ho,hc,hd,hi⟩:=h1
 obtain ⟨_,b,o2,cY,n2,rfl,ti,wH,hd2,CO⟩:=h2
 refine kat_lt ho hd ti hd2 (Ip 0 hi CO ?_ h)
 rw [<-hi.length,<-CO.length,Array.length_toList,Array.length_toList]
inductive bO (h:Heap):List Value->List (List Int)->Prop
 | nil:bO h [] []
 | cons {v:Value} {x:List Int} {vs:List Value} {xs:List (List Int)}:ef h v x->bO h vs xs->bO h (v::vs) (x::xs)
theorem bO.to {h h':Heap} {vs:List Value} {xs:List (List Int)} (t:bO h vs xs) (hk:∀ b o,h.get? b=some o->o.cls=.type "tuple" -> h'.get? b=some o):bO h' vs xs:=by
 induction t with
 | nil=>exact .nil
 | cons a _ ih=>exact .cons (a.to hk) ih
theorem bO.length {h:Heap} {vs:List Value} {xs:List (List Int)} (t:bO h vs xs):vs.length=xs.length:=by
 induction t with
 | nil=>rfl
 | cons _ _ ih=>rw [List.length_cons,List.length_cons,ih]
theorem bO.at_ {h:Heap} {vs:List Value} {xs:List (List Int)} (t:bO h vs xs):∀ i,i<vs.length->ef h (vs.getD i .none) (xs.getD i []):=by
 induction t with
 | nil=>intro i hi; cases hi
 | cons a _ ih=>
  intro i hi
  cases i with
  | zero=>exact a
  | succ i=>exact ih i (Nat.lt_of_succ_lt_succ hi)
theorem bO.append {h:Heap} {vs O8:List Value} {xs Q5:List (List Int)} (t:bO h vs xs) (t2:bO h O8 Q5):bO h (vs++O8) (xs++Q5):=by
 induction t with
 | nil=>exact t2
 | cons a _ ih=>exact .cons a ih
theorem bO.rev {h:Heap} {vs:List Value} {xs:List (List Int)} (t:bO h vs xs):bO h vs.reverse xs.reverse:=by
 induction t with
 | nil=>exact .nil
 | cons a _ ih=>
  rw [List.reverse_cons,List.reverse_cons]
  exact ih.append (.cons a .nil)
theorem bO.Su {h:Heap} {vs:List Value} {xs:List (List Int)} (t:bO h vs xs):∃ fs,KatTups h vs fs/\fs.length=vs.length/\∀ v∈fs,∃ n u,v=.int n u:=by
 induction t with
 | nil=>exact ⟨[],.nil,rfl,fun v m=>by cases m⟩
 | cons a _ ih=>
  obtain ⟨fs,k,l,al⟩:=ih
  obtain ⟨ne,a,o,aD,n,rfl,ho,hc,hd,hi⟩:=a
  obtain ⟨aD⟩:=aD
  cases hi with
  | nil=>exact absurd rfl ne
  | cons m u r=>
   refine ⟨_,KatTups.cons ho hc hd rfl k,by rw [List.length_cons,List.length_cons,l],fun v mv=>?_⟩
   rcases List.mem_cons.mp mv with rfl | mv
   ·exact ⟨_,_,rfl⟩
   ·exact al v mv
theorem Eo {vs:List Value} {xs:List (List Int)} {Q:SortKind->Shared->Prop} (t:bO s.heap vs xs) (h0:0<vs.length) (h:Q (tuples' true) s):wpAny (model prog w) A (keyKind' vs.toArray) Q E s:=by
 obtain ⟨fs,k,l,al⟩:=t.Su
 refine kat_kind (T:=.type "int") k (by rw [l]; exact h0) (fun v m=>?_) (by decide) h
 obtain ⟨n,u,rfl⟩:=al v m
 exact Looks.of_pure rfl
end
end SO
namespace TS
section
variable {α:Type} (le:α->α->Prop)
noncomputable def CP (l:List α):Prop:=l.Pairwise le
structure yJ (Bi out A B:List α):Prop where
 pm:(out++(A++B)).Perm Bi
 so:CP le out
 sa:CP le A
 sb:CP le B
 oa:∀ x∈out,∀ y∈A,le x y
 ob:∀ x∈out,∀ y∈B,le x y
variable {le} {Bi out A B:List α}
theorem yJ.swap (h:yJ le Bi out A B):yJ le Bi out B A:=
 ⟨(List.Perm.append_left _ List.perm_append_comm).trans h.pm,h.so,h.sb,h.sa,h.ob,h.oa⟩
theorem yJ.a {A1 A2:List α} (h:yJ le Bi out (A1++A2) B) (l:∀ x∈A1,∀ y∈B,le x y):yJ le Bi (out++A1) A2 B:=by
 have sa:=List.pairwise_append.mp h.sa
 refine ⟨?_,List.pairwise_append.mpr ⟨h.so,sa.1,fun x hx y hy=>h.oa x hx y (List.mem_append_left _ hy)⟩,sa.2.1,h.sb,fun x hx y hy=>?_,fun x hx y hy=>?_⟩
 ·have:=h.pm
  rwa [List.append_assoc,<-List.append_assoc out A1] at this
 ·rcases List.mem_append.mp hx with hx | hx
  ·exact h.oa x hx y (List.mem_append_right _ hy)
  ·exact sa.2.2 x hx y hy
 ·rcases List.mem_append.mp hx with hx | hx
  ·exact h.ob x hx y hy
  ·exact l x hx y hy
theorem yJ.b {B1 B2:List α} (h:yJ le Bi out A (B1++B2)) (l:∀ x∈B1,∀ y∈A,le x y):yJ le Bi (out++B1) A B2:=(h.swap.a l).swap
theorem yJ.fin (h:yJ le Bi out A B) (l:∀ x∈A,∀ y∈B,le x y):(out++A++B).Perm Bi/\CP le (out++A++B):=by
 refine ⟨by rw [List.append_assoc]; exact h.pm,?_⟩
 rw [List.append_assoc]
 refine List.pairwise_append.mpr ⟨h.so,List.pairwise_append.mpr ⟨h.sa,h.sb,l⟩,fun x hx y hy=>?_⟩
 rcases List.mem_append.mp hy with hy | hy
 ·exact h.oa x hx y hy
 ·exact h.ob x hx y hy
end
section
variable {α:Type} (r:α->Nat)
noncomputable def K (xs:Array α) (i:Nat):Nat:=(xs[i]?).elim 0 r
noncomputable def Up (xs:Array α) (lo hi:Nat):Prop:=∀ i j,lo<=i->i<j->j<hi->K r xs i<=K r xs j
noncomputable def Dn (xs:Array α) (lo hi:Nat):Prop:=∀ i j,lo<=i->i<j->j<hi->K r xs j<=K r xs i
noncomputable abbrev Nh:α->α->Prop:=fun x y=>r x<=r y
noncomputable abbrev Q6:α->α->Prop:=fun x y=>r y<=r x
noncomputable def part (xs:Array α) (i j:Nat):List α:=(xs.toList.drop i).take (j-i)
variable {r} {xs ys:Array α}
theorem eU {i:Nat} {x:α} (h:xs[i]?=some x):K r xs i=r x:=by unfold K; rw [h]; rfl
theorem iY {i j:Nat} (hj:j<=xs.size):(part xs i j).length=j-i:=by
 unfold part; rw [List.length_take,List.length_drop,Array.length_toList]; lia
theorem fi {i j k:Nat}:(part xs i j)[k]?=if k<j-i then xs[i+k]? else none:=by
 unfold part; rw [List.getElem?_take,List.getElem?_drop,Array.getElem?_toList]
theorem a_ {i j:Nat} {x:α} (h:x∈part xs i j):∃ k,i<=k/\k<j/\xs[k]?=some x:=by
 obtain ⟨k,hk⟩:=List.getElem?_of_mem h
 rw [fi] at hk
 split at hk
 ·exact ⟨i+k,by lia,by lia,hk⟩
 ·cases hk
theorem bS {i j k:Nat} (h1:i<=j) (h2:j<=k) (hk:k<=xs.size):part xs i k=part xs i j++part xs j k:=by
 apply List.ext_getElem?
 intro n
 rw [List.getElem?_append,iY (by lia),fi,fi,fi]
 by_cases c:n<j-i
 ·rw [if_pos c,if_pos (by lia),if_pos c]
 ·rw [if_neg c]
  by_cases d:n<k-i
  ·rw [if_pos d,if_pos (by lia)]; congr 1; lia
  ·rw [if_neg d,if_neg (by lia)]
theorem ku {i:Nat} {x:α} (h:xs[i]?=some x):part xs i (i+1)=[x]:=by
 apply List.ext_getElem?
 intro n
 rw [fi]
 cases n with
 | zero=>rw [if_pos (by lia)]; exact h
 | succ n=>rw [if_neg (by lia)]; rfl
theorem ue {i j:Nat} (h:j<=i):part xs i j=[]:=by unfold part; rw [show j-i=0 by lia]; rfl
theorem dM:part xs 0 xs.size=xs.toList:=by
 unfold part; rw [List.drop_zero,Nat.sub_zero,<-Array.length_toList,List.take_length]
theorem aH {i j:Nat}:(xs.extract i j).toList=part xs i j:=by
 rw [Array.toList_extract]
 unfold part
 rw [List.extract_eq_take_drop]
theorem Up.iM {lo hi:Nat} (h:Up r xs lo hi):CP (Nh r) (part xs lo hi):=by
 unfold CP
 rw [List.pairwise_iff_getElem]
 intro i j h1 h2 Q7
 have e1:=List.getElem?_eq_getElem h1
 have e2:=List.getElem?_eq_getElem h2
 rw [fi] at e1 e2
 split at e1
 ·split at e2
  ·have:=h (lo+i) (lo+j) (by lia) (by lia) (by lia)
   rw [eU e1,eU e2] at this
   exact this
  ·cases e2
 ·cases e1
theorem Iq {lo hi:Nat} (h:CP (Nh r) (part xs lo hi)) (hz:hi<=xs.size):Up r xs lo hi:=by
 intro i j h1 h2 h3
 have q1:i-lo<(part xs lo hi).length:=by rw [iY hz]; lia
 have q2:j-lo<(part xs lo hi).length:=by rw [iY hz]; lia
 have:=(List.pairwise_iff_getElem.mp h) (i-lo) (j-lo) q1 q2 (by lia)
 have e1:=List.getElem?_eq_getElem q1
 have e2:=List.getElem?_eq_getElem q2
 rw [fi,if_pos (by lia),show lo+(i-lo)=i by lia] at e1
 rw [fi,if_pos (by lia),show lo+(j-lo)=j by lia] at e2
 rw [eU e1,eU e2]
 exact this
theorem Up.le {lo hi i j:Nat} (h:Up r xs lo hi) (h1:lo<=i) (h2:i<=j) (h3:j<hi):K r xs i<=K r xs j:=by
 rcases Nat.lt_or_ge i j with q | q
 ·exact h i j h1 q h3
 ·rw [show i=j by lia]; exact Nat.le_refl _
theorem Up.sub {lo hi Q8 CJ:Nat} (h:Up r xs lo hi) (h1:lo<=Q8) (h2:CJ<=hi):Up r xs Q8 CJ:=fun i j a b c=>h i j (by lia) b (by lia)
theorem Up.rev {lo hi:Nat} (h:Up r xs lo hi):CP (Q6 r) (part xs lo hi).reverse:=List.pairwise_reverse.mpr h.iM
theorem uf:∀ (m:List α) (k sa:Nat) (xs:Array α),sa+k+m.length<=xs.size ->
  ((m.zipIdx k).foldl (fun a (q:α × Nat)=>a.setIfInBounds (sa+q.2) q.1) xs).toList=xs.toList.take (sa+k)++m++xs.toList.drop (sa+k+m.length)
 | [],k,sa,xs,_=>by
  show xs.toList=_
  rw [List.append_nil]; exact (List.take_append_drop _ _).symm
 | x::m,k,sa,xs,h=>by
  rw [List.zipIdx_cons,List.foldl_cons,uf m (k+1) sa _ (by rw [Array.size_setIfInBounds]; simp only [List.length_cons] at h; lia)]
  simp only [List.length_cons] at h ⊢
  rw [Array.toList_setIfInBounds,<-Nat.add_assoc,List.take_set,List.drop_set_of_lt (by lia)]
  have hl:sa+k<xs.toList.length:=by rw [Array.length_toList]; lia
  rw [List.take_succ_eq_append_getElem hl]
  have e:(xs.toList.take (sa+k)).length=sa+k:=by rw [List.length_take]; lia
  rw [List.set_append_right _ _ (by lia),e,Nat.sub_self]
  simp only [List.set_cons_zero,List.append_assoc,List.singleton_append,List.cons_append,List.nil_append]
  rw [show sa+k+1+m.length=sa+k+(m.length+1) by lia]
theorem Bl {m:List α} {sa:Nat} {xs:Array α} (h:sa+m.length<=xs.size) :
  ((m.zipIdx).foldl (fun a (q:α × Nat)=>a.setIfInBounds (sa+q.2) q.1) xs).toList=xs.toList.take sa++m++xs.toList.drop (sa+m.length):=uf m 0 sa xs h
theorem yK {i:Nat}:xs.toList.take i=part xs 0 i:=by unfold part; rw [List.drop_zero,Nat.sub_zero]
theorem yL {i:Nat}:xs.toList.drop i=part xs i xs.size:=by
 unfold part
 rw [List.take_of_length_le]
 rw [List.length_drop,Array.length_toList]; exact Nat.le_refl _
end
end TS
namespace TS
open PySem PyProof.Rows
noncomputable def xt:Bool->Keyed->Array Keyed->Nat->Nat->Nat->StateT SortSt Sem (Option Nat):=sortPriv% PySem.Builtin.gallop
noncomputable def ug:Array Keyed->Array Keyed->StateT SortSt Sem (Array Keyed):=sortPriv% PySem.Builtin.mergeLo
noncomputable def uh:Array Keyed->Array Keyed->StateT SortSt Sem (Array Keyed):=sortPriv% PySem.Builtin.mergeHi
section
variable {prog:Program} {w:World} {A:Around} {E:Value->Shared->Prop} {s:Shared} {κ:SortKind} {S:Keyed->Prop} {r:Keyed->Nat} {st:SortSt}
noncomputable def yM (prog:Program) (w:World) (A:Around) (s:Shared) (κ:SortKind) (S:Keyed->Prop) (r:Keyed->Nat):Prop:=
 ∀ (x y:Keyed) (Q:Bool->Shared->Prop),S x->S y->Q (decide (r x<r y)) s->wpAny (model prog w) A (keyLt' κ x.1 y.1) Q (fun _ _=>False) s
theorem LK (C:yM prog w A s κ S r) {x y:Keyed} {Q:Option Bool->SortSt->Prop} (hk:kindOf st=κ) (hx:S x) (hy:S y) (h:Q (some (decide (r x<r y))) st) :
  wpS (model prog w) A E s (lt' x y) Q st:=by
 rw [lt'_eq]
 refine wpS_bind (wpS_get ?_)
 rw [hk]
 refine wpS_bind (wpS_lift (wpAny_attempt (wpAny_mono (C x y (fun c s'=>c=decide (r x<r y)/\s'=s) hx hy ⟨rfl,rfl⟩) (fun c s' q=>⟨q.2,?_⟩) fun _ _ q=>q.elim)))
 rw [q.1]
 exact wpS_pure h
theorem df {xs:Array Keyed} {i:Nat} {x:Keyed} {Q:Keyed->SortSt->Prop} (e:xs[i]?=some x) (h:Q x st):wpS (model prog w) A E s (elem' xs i) Q st:=by
 rw [elem'_eq,e]
 exact wpS_pure h
theorem LL (C:yM prog w A s κ S r) {i j:Nat} {x y:Keyed} {Q:Option Bool->SortSt->Prop} (hk:kindOf st=κ) (e1:(arrOf st)[i]?=some x) (e2:(arrOf st)[j]?=some y) (hx:S x) (hy:S y) (h:Q (some (decide (r x<r y))) st) :
  wpS (model prog w) A E s (ltAt' i j) Q st:=by
 rw [ltAt'_eq]
 exact wpS_bind (wpS_get (wpS_bind (df e1 (wpS_bind (df e2 (LK C hk hx hy h))))))
noncomputable def pk (left:Bool) (k n:Nat):Bool:=if left then decide (n<k) else !(decide (k<n))
theorem Bm {left:Bool} {k n m:Nat} (h:n<=m) (hb:pk left k m=true):pk left k n=true:=by
 unfold pk at *
 cases left
 ·simp at hb ⊢; lia
 ·simp at hb ⊢; lia
theorem Ir {left:Bool} {k n m:Nat} (h:n<=m) (hb:pk left k n=false):pk left k m=false:=by
 cases z:pk left k m with
 | false=>rfl
 | true=>rw [Bm h z] at hb; cases hb
theorem at_of {xs:Array Keyed} {i:Nat} (h:i<xs.size):∃ x,xs[i]?=some x/\x∈xs/\K r xs i=r x:=⟨xs[i],getElem?_pos xs i h,Array.getElem_mem h,eU (getElem?_pos xs i h)⟩
theorem O9 (C:yM prog w A s κ S r) {left:Bool} {key:Keyed} {xs:Array Keyed} {i:Nat} {Q:Option Bool->SortSt->Prop} (hk:kindOf st=κ) (hS:∀ x∈xs,S x) (hy:S key) (hi:i<xs.size) (h:Q (some (pk left (r key) (K r xs i))) st) :
  wpS (model prog w) A E s (elem' xs i >>= fun y=>if left=true then lt' y key else lt' key y >>= fun c=>pure (c.map (!·))) Q st:=by
 obtain ⟨x,e,m,ek⟩:=at_of (r:=r) hi
 rw [ek] at h
 refine wpS_bind (df e ?_)
 cases left with
 | true=>exact LK C hk (hS x m) hy h
 | false=>exact wpS_bind (LK C hk hy (hS x m) (wpS_pure h))
theorem ji (C:yM prog w A s κ S r) {left:Bool} {key:Keyed} {xs:Array Keyed} {base n hint:Nat} {Q:Option Nat->SortSt->Prop} (hk:kindOf st=κ) (hS:∀ x∈xs,S x) (hy:S key) (hz:base+n<=xs.size) (hh:hint<n) (up:Up r xs base (base+n))
  (h:∀ k,k<=n->(∀ i,i<k->pk left (r key) (K r xs (base+i))=true)->(∀ i,k<=i->i<n->pk left (r key) (K r xs (base+i))=false)->Q (some k) st) :
  wpS (model prog w) A E s (xt left key xs base n hint) Q st:=by
 obtain ⟨b,eb⟩:∃ b:Nat->Bool,∀ i,b i=pk left (r key) (K r xs (base+i)):=⟨_,fun _=>rfl⟩
 have Ni:∀ i j,i<=j->j<n->b j=true->b i=true:=fun i j a c d=>by
  rw [eb] at d ⊢
  exact Bm (up.le (by lia) (by lia) (by lia)) d
 have Nj:∀ i j,i<=j->j<n->b i=false->b j=false:=fun i j a c d=>by
  rw [eb] at d ⊢
  exact Ir (up.le (by lia) (by lia) (by lia)) d
 have ask:∀ {i:Nat} {Q:Option Bool->SortSt->Prop},i<n->Q (some (b i)) st->wpS (model prog w) A E s (elem' xs (base+i) >>= fun y=>if left=true then lt' y key else lt' key y >>= fun c=>pure (c.map (!·))) Q st:=by
  intro i Q hi q
  rw [eb] at q
  exact O9 C hk hS hy (by lia) q
 simp only [<-eb] at h
 unfold xt
 refine wpS_bind (ask hh ?_)
 dsimp only
 cases c:b hint with
 | true=>
  rw [if_pos rfl]
  refine wpS_bind (wpS_mono (wpS_forRange (I:=fun x z ar=>ar=st/\∃ l o,z=(none,l,o)/\x+1<=o/\l<o/\hint+l<n/\b (hint+l)=true) (Q:=fun z ar=>ar=st/\∃ l o,z=(none,l,o)/\l<o/\hint+l<n/\b (hint+l)=true/\(o<n-hint->b (hint+o)=false)) ?_ ?_ ⟨rfl,0,1,rfl,by lia,by lia,by lia,c⟩) ?_)
  ·rintro x z ar _ hx ⟨e,l,o,rfl,h1,h2,h3,h4⟩
   rw [e]
   dsimp only
   by_cases q:o ≥ n-hint
   ·rw [if_pos q]
    exact wpS_pure ⟨rfl,l,o,rfl,h2,h3,h4,fun z=>absurd z (by lia)⟩
   ·rw [if_neg q]
    refine wpS_bind (ask (by lia) ?_)
    dsimp only
    cases d:b (hint+o) with
    | true=>exact wpS_pure ⟨rfl,o,2*o+1,rfl,by lia,by lia,by lia,d⟩
    | false=>exact wpS_pure ⟨rfl,l,o,rfl,h2,h3,h4,fun _=>d⟩
  ·rintro z ar ⟨e,l,o,rfl,h1,h2,h3,h4⟩
   exact ⟨e,l,o,rfl,h2,h3,h4,fun z=>absurd z (by lia)⟩
  ·rintro z ar ⟨e,l,o,rfl,h2,h3,h4,h5⟩
   rw [e]
   dsimp only
   obtain ⟨lo,Jt⟩:∃ lo,lo=hint+l+1:=⟨_,rfl⟩
   obtain ⟨hi,LM⟩:∃ hi,hi=hint+min o (n-hint):=⟨_,rfl⟩
   rw [<-Jt,<-LM]
   have g1:lo<=hi:=by lia
   have g2:hi<=n:=by lia
   have g3:∀ i,i<lo->b i=true:=fun i q=>Ni i (hint+l) (by lia) h3 h4
   have g4:∀ i,hi<=i->i<n->b i=false:=fun i q q2=>Nj (hint+o) i (by lia) q2 (h5 (by lia))
   clear Jt LM
   refine wpS_bind (wpS_mono (wpS_forRange (I:=fun x z ar=>ar=st/\∃ lo hi,z=(none,lo,hi)/\lo<=hi/\hi<=n/\hi-lo+x<=n/\(∀ i,i<lo->b i=true)/\∀ i,hi<=i->i<n->b i=false) (Q:=fun z ar=>ar=st/\∃ k,z=(none,k,k)/\k<=n/\(∀ i,i<k->b i=true)/\∀ i,k<=i->i<n->b i=false) ?_ ?_ ⟨rfl,lo,hi,rfl,g1,g2,by lia,g3,g4⟩) ?_)
   ·rintro x z ar _ hx ⟨e,lo,hi,rfl,h1,h2,h3,h4,h5⟩
    rw [e]
    dsimp only
    by_cases q:lo ≥ hi
    ·rw [if_pos q]
     have:lo=hi:=by lia
     subst this
     exact wpS_pure ⟨rfl,lo,rfl,h2,h4,h5⟩
    ·rw [if_neg q]
     refine wpS_bind (ask (by lia) ?_)
     dsimp only
     cases d:b (lo+(hi-lo) / 2) with
     | true=>exact wpS_pure ⟨rfl,_,hi,rfl,by lia,h2,by lia,fun i q=>Ni i _ (by lia) (by lia) d,h5⟩
     | false=>exact wpS_pure ⟨rfl,lo,_,rfl,by lia,by lia,by lia,h4,fun i q q2=>Nj _ i q q2 d⟩
   ·rintro z ar ⟨e,lo,hi,rfl,h1,h2,h3,h4,h5⟩
    have:lo=hi:=by lia
    subst this
    exact ⟨e,lo,rfl,h2,h4,h5⟩
   ·rintro z ar ⟨e,k,rfl,h1,h2,h3⟩
    rw [e]
    exact wpS_pure (h k h1 h2 h3)
 | false=>
  rw [if_neg Bool.false_ne_true]
  refine wpS_bind (wpS_mono (wpS_forRange (I:=fun x z ar=>ar=st/\∃ l o,z=(none,l,o)/\x+1<=o/\l<o/\l<=hint/\b (hint-l)=false) (Q:=fun z ar=>ar=st/\∃ l o,z=(none,l,o)/\l<o/\l<=hint/\b (hint-l)=false/\(o<hint+1->b (hint-o)=true)) ?_ ?_ ⟨rfl,0,1,rfl,by lia,by lia,by lia,c⟩) ?_)
  ·rintro x z ar _ hx ⟨e,l,o,rfl,h1,h2,h3,h4⟩
   rw [e]
   dsimp only
   by_cases q:o ≥ hint+1
   ·rw [if_pos q]
    exact wpS_pure ⟨rfl,l,o,rfl,h2,h3,h4,fun z=>absurd z (by lia)⟩
   ·rw [if_neg q]
    refine wpS_bind (ask (by lia) ?_)
    dsimp only
    cases d:b (hint-o) with
    | true=>exact wpS_pure ⟨rfl,l,o,rfl,h2,h3,h4,fun _=>d⟩
    | false=>exact wpS_pure ⟨rfl,o,2*o+1,rfl,by lia,by lia,by lia,d⟩
  ·rintro z ar ⟨e,l,o,rfl,h1,h2,h3,h4⟩
   exact ⟨e,l,o,rfl,h2,h3,h4,fun z=>absurd z (by lia)⟩
  ·rintro z ar ⟨e,l,o,rfl,h2,h3,h4,h5⟩
   rw [e]
   dsimp only
   obtain ⟨lo,Jt⟩:∃ lo,lo=hint+1-min o (hint+1):=⟨_,rfl⟩
   obtain ⟨hi,LM⟩:∃ hi,hi=hint-l:=⟨_,rfl⟩
   rw [<-Jt,<-LM]
   have g1:lo<=hi:=by lia
   have g2:hi<=n:=by lia
   have g3:∀ i,i<lo->b i=true:=fun i q=>Ni i (hint-o) (by lia) (by lia) (h5 (by lia))
   have g4:∀ i,hi<=i->i<n->b i=false:=fun i q q2=>Nj (hint-l) i (by lia) q2 h4
   clear Jt LM
   refine wpS_bind (wpS_mono (wpS_forRange (I:=fun x z ar=>ar=st/\∃ lo hi,z=(none,lo,hi)/\lo<=hi/\hi<=n/\hi-lo+x<=n/\(∀ i,i<lo->b i=true)/\∀ i,hi<=i->i<n->b i=false) (Q:=fun z ar=>ar=st/\∃ k,z=(none,k,k)/\k<=n/\(∀ i,i<k->b i=true)/\∀ i,k<=i->i<n->b i=false) ?_ ?_ ⟨rfl,lo,hi,rfl,g1,g2,by lia,g3,g4⟩) ?_)
   ·rintro x z ar _ hx ⟨e,lo,hi,rfl,h1,h2,h3,h4,h5⟩
    rw [e]
    dsimp only
    by_cases q:lo ≥ hi
    ·rw [if_pos q]
     have:lo=hi:=by lia
     subst this
     exact wpS_pure ⟨rfl,lo,rfl,h2,h4,h5⟩
    ·rw [if_neg q]
     refine wpS_bind (ask (by lia) ?_)
     dsimp only
     cases d:b (lo+(hi-lo) / 2) with
     | true=>exact wpS_pure ⟨rfl,_,hi,rfl,by lia,h2,by lia,fun i q=>Ni i _ (by lia) (by lia) d,h5⟩
     | false=>exact wpS_pure ⟨rfl,lo,_,rfl,by lia,by lia,by lia,h4,fun i q q2=>Nj _ i q q2 d⟩
   ·rintro z ar ⟨e,lo,hi,rfl,h1,h2,h3,h4,h5⟩
    have:lo=hi:=by lia
    subst this
    exact ⟨e,lo,rfl,h2,h4,h5⟩
   ·rintro z ar ⟨e,k,rfl,h1,h2,h3⟩
    rw [e]
    exact wpS_pure (h k h1 h2 h3)
end
section
variable {prog:Program} {w:World} {A:Around} {E:Value->Shared->Prop} {s:Shared} {κ:SortKind} {S:Keyed->Prop} {r:Keyed->Nat} {st:SortSt}
noncomputable abbrev Gs (st:SortSt) (g:Nat):SortSt:=SortSt.mk' (kindOf st) (arrOf st) (pendingOf st) g (failedOf st)
theorem bP {α:Type} {c:Prop} [Decidable c] {m1 m2:StateT SortSt Sem α} {Q:α->SortSt->Prop} {M:Model} (h1:c->wpS M A E s m1 Q st) (h2:¬c->wpS M A E s m2 Q st):wpS M A E s (if c then m1 else m2) Q st:=by
 by_cases q:c
 ·rw [if_pos q]; exact h1 q
 ·rw [if_neg q]; exact h2 q
theorem bL {α:Type} {x y:Nat} {m1 m2:StateT SortSt Sem α} {Q:α->SortSt->Prop} {M:Model} (h1:x=y->wpS M A E s m1 Q st) (h2:x≠y->wpS M A E s m2 Q st):wpS M A E s (if (x==y)=true then m1 else m2) Q st:=
 bP (fun q=>h1 (beq_iff_eq.mp q)) fun q=>h2 fun z=>q (beq_iff_eq.mpr z)
noncomputable def Good (r:Keyed->Nat) (a b m:Array Keyed):Prop:=m.toList.Perm (a.toList++b.toList)/\CP (Nh r) m.toList
structure Mm (r:Keyed->Nat) (a b out:Array Keyed) (ia ib:Nat):Prop where
 la:ia<=a.size
 lb:ib<=b.size
 me:yJ (Nh r) (a.toList++b.toList) out.toList (part a ia a.size) (part b ib b.size)
section
variable {a b out:Array Keyed} {ia ib:Nat} (ua:Up r a 0 a.size) (ub:Up r b 0 b.size)
include ua ub
theorem Mm.LN (h:Mm r a b out ia ib) (k:Nat) (hk:ia+k<=a.size) (l:ib<b.size->∀ i,i<k->K r a (ia+i)<=K r b ib):Mm r a b (out++a.extract ia (ia+k)) (ia+k) ib:=by
 refine ⟨hk,h.lb,?_⟩
 have m:=h.me
 rw [bS (i:=ia) (j:=ia+k) (by lia) hk (Nat.le_refl _)] at m
 rw [Array.toList_append,aH]
 refine m.a fun x hx y hy=>?_
 obtain ⟨i,i1,i2,i3⟩:=a_ hx
 obtain ⟨j,j1,j2,j3⟩:=a_ hy
 show r x<=r y
 rw [<-eU (r:=r) i3,<-eU (r:=r) j3]
 have:=l (by lia) (i-ia) (by lia)
 rw [show ia+(i-ia)=i by lia] at this
 exact Nat.le_trans this (ub.le (Nat.zero_le _) j1 j2)
theorem Mm.LO (h:Mm r a b out ia ib) (k:Nat) (hk:ib+k<=b.size) (l:ia<a.size->∀ i,i<k->K r b (ib+i)<=K r a ia):Mm r a b (out++b.extract ib (ib+k)) ia (ib+k):=by
 refine ⟨h.la,hk,?_⟩
 have m:=h.me
 rw [bS (i:=ib) (j:=ib+k) (by lia) hk (Nat.le_refl _)] at m
 rw [Array.toList_append,aH]
 refine m.b fun x hx y hy=>?_
 obtain ⟨i,i1,i2,i3⟩:=a_ hx
 obtain ⟨j,j1,j2,j3⟩:=a_ hy
 show r x<=r y
 rw [<-eU (r:=r) i3,<-eU (r:=r) j3]
 have:=l (by lia) (i-ib) (by lia)
 rw [show ib+(i-ib)=i by lia] at this
 exact Nat.le_trans this (ua.le (Nat.zero_le _) j1 j2)
theorem Mm.a1 (h:Mm r a b out ia ib) {x:Keyed} (e:a[ia]?=some x) (l:ib<b.size->r x<=K r b ib):Mm r a b (out.push x) (ia+1) ib:=by
 have hz:ia<a.size:=(Array.getElem?_eq_some_iff.mp e).1
 have q:=h.LN ua ub 1 hz fun z i hi=>by
  rw [show ia+i=ia by lia,eU e]; exact l z
 have:(out++a.extract ia (ia+1))=out.push x:=by
  apply Array.toList_inj.mp
  rw [Array.toList_append,aH,ku e,Array.toList_push]
 rwa [this] at q
theorem Mm.b1 (h:Mm r a b out ia ib) {x:Keyed} (e:b[ib]?=some x) (l:ia<a.size->r x<=K r a ia):Mm r a b (out.push x) ia (ib+1):=by
 have hz:ib<b.size:=(Array.getElem?_eq_some_iff.mp e).1
 have q:=h.LO ua ub 1 hz fun z i hi=>by
  rw [show ib+i=ib by lia,eU e]; exact l z
 have:(out++b.extract ib (ib+1))=out.push x:=by
  apply Array.toList_inj.mp
  rw [Array.toList_append,aH,ku e,Array.toList_push]
 rwa [this] at q
omit ua ub in
theorem Mm.done (h:Mm r a b out ia ib) (l:ia=a.size\/ib=b.size):Good r a b (out++a.extract ia++b.extract ib):=by
 unfold Good
 rw [Array.toList_append,Array.toList_append,aH,aH]
 refine h.me.fin fun x hx y hy=>?_
 obtain ⟨i,i1,i2,i3⟩:=a_ hx
 obtain ⟨j,j1,j2,j3⟩:=a_ hy
 lia
omit ua in
theorem Mm.last (h:Mm r a b out ia ib) (l:ia+1=a.size) (hl:K r b (b.size-1)<=K r a (a.size-1)):Good r a b (out++b.extract ib++a.extract ia):=by
 unfold Good
 rw [Array.toList_append,Array.toList_append,aH,aH]
 refine h.me.swap.fin fun x hx y hy=>?_
 obtain ⟨i,i1,i2,i3⟩:=a_ hx
 obtain ⟨j,j1,j2,j3⟩:=a_ hy
 show r x<=r y
 rw [<-eU (r:=r) i3,<-eU (r:=r) j3,show j=a.size-1 by lia]
 exact Nat.le_trans (ub.le (Nat.zero_le _) (by lia) (by lia)) hl
end
theorem Bn (C:yM prog w A s κ S r) {a b:Array Keyed} {Q:Array Keyed->SortSt->Prop} (hk:kindOf st=κ) (Iu:∀ x∈a,S x) (Iv:∀ x∈b,S x) (ua:Up r a 0 a.size) (ub:Up r b 0 b.size) (ha:1<=a.size) (hb:1<=b.size)
  (h0:K r b 0<=K r a 0) (hl:K r b (b.size-1)<=K r a (a.size-1)) (h:∀ m g,Good r a b m->Q m (Gs st g)) :
  wpS (model prog w) A E s (ug a b) Q st:=by
 unfold ug
 refine wpS_bind (wpS_lift (wpAny_rule ⟨rfl,?_⟩))
 obtain ⟨y0,e0,m0,k0⟩:=at_of (r:=r) (xs:=b) (i:=0) (by lia)
 refine wpS_bind (df e0 ?_)
 dsimp only
 have M0:Mm r a b #[] 0 0:=⟨Nat.zero_le _,Nat.zero_le _,by
  rw [dM,dM]
  exact ⟨List.Perm.refl _,List.Pairwise.nil,by rw [<-dM]; exact ua.iM,by rw [<-dM]; exact ub.iM,(by intro _ m; cases m),(by intro _ m; cases m)⟩⟩
 have M1:Mm r a b #[y0] 0 1:=M0.b1 ua ub e0 fun _=>by rw [<-k0]; exact h0
 refine bL (fun q=>wpS_pure (h _ (gallopOf st) (M1.done (.inr q)))) fun q1=>?_
 refine bL (fun q=>wpS_pure (h _ (gallopOf st) (M1.last ub q hl))) fun q2=>?_
 refine wpS_bind (wpS_get ?_)
 refine wpS_bind (wpS_mono (wpS_forRange (I:=fun x z ar=>(∃ g,ar=Gs st g)/\∃ out ia ib mg,z=(none,out,ia,ib,mg)/\Mm r a b out ia ib/\ia+1<a.size/\ib<b.size/\x<ia+ib)
  (Q:=fun z ar=>(∃ g,ar=Gs st g)/\∃ m y,z=(some m,y)/\Good r a b m) ?_ ?_ ⟨⟨gallopOf st,rfl⟩,_,0,1,_,rfl,M1,by lia,by lia,by lia⟩) ?_)
 ·rintro x z ar _ hx ⟨⟨g,e⟩,out,ia,ib,mg,rfl,m,l1,l2,l3⟩
  dsimp only
  refine wpS_bind (wpS_mono (wpS_forRange (I:=fun x' z ar=>(∃ g,ar=Gs st g)/\∃ out mX nu c1 c2,z=(none,out,mX,nu,c1,c2)/\Mm r a b out mX nu/\mX+1<a.size/\nu<b.size/\ia+ib+x'<=mX+nu)
   (Q:=fun z ar=>(∃ g,ar=Gs st g)/\((∃ m y,z=(some m,y)/\Good r a b m)\/∃ out mX nu c1 c2,z=(none,out,mX,nu,c1,c2)/\Mm r a b out mX nu/\mX+1<a.size/\nu<b.size/\ia+ib+1<=mX+nu)) ?_ ?_ ⟨⟨g,e⟩,out,ia,ib,0,0,rfl,m,l1,l2,by lia⟩) ?_)
  ·rintro x' z cJ _ JI ⟨⟨g,e⟩,out,mX,nu,c1,c2,rfl,m,l1,l2,l3⟩
   dsimp only
   obtain ⟨y,ey,my,ky⟩:=at_of (r:=r) l2
   obtain ⟨z,ez,mz,kz⟩:=at_of (r:=r) (xs:=a) (i:=mX) (by lia)
   have O_:kindOf cJ=κ:=by rw [e]; exact hk
   refine wpS_bind (df ey (wpS_bind (df ez (wpS_bind (LK C O_ (Iv y my) (Iu z mz) ?_)))))
   dsimp only
   refine bP (fun q=>?_) fun q=>?_
   ·have m2:=m.b1 ua ub ey fun _=>by rw [kz]; have:=of_decide_eq_true q; lia
    refine wpS_bind (df ey ?_)
    refine bL (fun q=>wpS_pure ⟨⟨g,e⟩,.inl ⟨_,_,rfl,m2.done (.inr q)⟩⟩) fun q3=>?_
    exact bP (fun q=>wpS_pure ⟨⟨g,e⟩,.inr ⟨_,_,_,_,_,rfl,m2,l1,by lia,by lia⟩⟩) fun q=>wpS_pure ⟨⟨g,e⟩,_,_,_,_,_,rfl,m2,l1,by lia,by lia⟩
   ·have m2:=m.a1 ua ub ez fun _=>by rw [ky]; have:=of_decide_eq_false (by simpa using q:decide (r y<r z)=false); lia
    refine wpS_bind (df ez ?_)
    refine bL (fun q=>wpS_pure ⟨⟨g,e⟩,.inl ⟨_,_,rfl,m2.last ub q hl⟩⟩) fun q3=>?_
    exact bP (fun q=>wpS_pure ⟨⟨g,e⟩,.inr ⟨_,_,_,_,_,rfl,m2,by lia,l2,by lia⟩⟩) fun q=>wpS_pure ⟨⟨g,e⟩,_,_,_,_,_,rfl,m2,by lia,l2,by lia⟩
  ·rintro z cJ ⟨e,out,mX,nu,c1,c2,rfl,m,l1,l2,l3⟩
   exact ⟨e,.inr ⟨out,mX,nu,c1,c2,rfl,m,l1,l2,by lia⟩⟩
  ·rintro z cJ ⟨e,⟨m,y,rfl,gd⟩ | ⟨out,Iw,Q9,c1,c2,rfl,m,l1,l2,l4⟩⟩
   ·exact wpS_pure ⟨e,_,_,rfl,gd⟩
   ·dsimp only
    refine wpS_bind (wpS_lift (wpAny_rule ⟨rfl,?_⟩))
    refine wpS_bind (wpS_mono (wpS_forRange (I:=fun x' z ar=>(∃ g,ar=Gs st g)/\∃ out mX nu mg c1 c2,z=(none,out,mX,nu,mg,c1,c2)/\Mm r a b out mX nu/\mX+1<a.size/\nu<b.size/\ia+ib+1<=mX+nu)
     (Q:=fun z ar=>(∃ g,ar=Gs st g)/\((∃ m y,z=(some m,y)/\Good r a b m)\/∃ out mX nu mg c1 c2,z=(none,out,mX,nu,mg,c1,c2)/\Mm r a b out mX nu/\mX+1<a.size/\nu<b.size/\ia+ib+1<=mX+nu)) ?_ ?_ ⟨e,out,Iw,Q9,_,c1,c2,rfl,m,l1,l2,by lia⟩) ?_)
    ·rintro x' z jo _ JI ⟨⟨g,e⟩,out,ia,ib,mg,c1,c2,rfl,m,l1,l2,l3⟩
     dsimp only
     obtain ⟨y,ey,my,ky⟩:=at_of (r:=r) l2
     have Iy:∀ (mg:Nat) {Q:PUnit->SortSt->Prop},Q ⟨⟩ (Gs st mg)->wpS (model prog w) A E s (modify fun s:SortSt=>Gs s mg) Q jo:=by
      intro mg Q q
      refine wpS_modify ?_
      rw [e]; exact q
     refine bP (fun qg=>?_) fun qg=>?_
     all_goals
      refine wpS_bind (Iy _ ?_)
      refine wpS_bind (df ey (wpS_bind (ji C hk Iu (Iv y my) (by lia) (by lia) (ua.sub (by lia) (by lia)) fun k k1 k2 k3=>?_)))
      dsimp only
      have mk:=m.LN ua ub k (by lia) fun _ i hi=>by
       have:=k2 i hi
       unfold pk at this
       simp only [Bool.false_eq_true,if_false,Bool.not_eq_true',decide_eq_false_iff_not] at this
       lia
      have nx:ia+k<a.size->r y<=K r a (ia+k):=fun z=>by
       have:=k3 k (Nat.le_refl _) (by lia)
       unfold pk at this
       simp only [Bool.false_eq_true,if_false,Bool.not_eq_false',decide_eq_true_eq] at this
       lia
      refine bP (fun qk=>bL (fun q=>wpS_pure ⟨⟨_,rfl⟩,.inl ⟨_,_,rfl,mk.last ub q hl⟩⟩) fun q1=>bL (fun q=>wpS_pure ⟨⟨_,rfl⟩,.inl ⟨_,_,rfl,mk.done (.inl q)⟩⟩) fun q2=>?_) fun qk=>?_
      obtain ⟨Iz,eo⟩:∃ z,z=out++a.extract ia (ia+k):=⟨_,rfl⟩
      obtain ⟨Iw,ei⟩:∃ z,z=ia+k:=⟨_,rfl⟩
      rw [<-eo,<-ei]
      rw [<-eo,<-ei] at mk
      rw [<-ei] at nx
      have l4:Iw+1<a.size:=by lia
      rotate_left
      have k0:k=0:=by lia
      subst k0
      obtain ⟨Iz,eo⟩:∃ z,z=out:=⟨_,rfl⟩
      obtain ⟨Iw,ei⟩:∃ z,z=ia:=⟨_,rfl⟩
      replace mk:Mm r a b out ia ib:=m
      rw [Nat.add_zero,<-ei] at nx
      rw [<-eo,<-ei] at mk ⊢
      have l4:Iw+1<a.size:=by lia
      all_goals
       have m2:=mk.b1 ua ub ey nx
       refine wpS_bind (df ey ?_)
       refine bL (fun q=>wpS_pure ⟨⟨_,rfl⟩,.inl ⟨_,_,rfl,m2.done (.inr q)⟩⟩) fun q3=>?_
       obtain ⟨x1,ex,mx,kx⟩:=at_of (r:=r) (xs:=a) (i:=Iw) (by lia)
       refine wpS_bind (df ex (wpS_bind (ji C hk Iv (Iu x1 mx) (by lia) (by lia) (ub.sub (by lia) (by lia)) fun j j1 j2 j3=>?_)))
       dsimp only
       have mj:=m2.LO ua ub j (by lia) fun _ i hi=>by
        have:=j2 i hi
        unfold pk at this
        simp only [if_true,decide_eq_true_eq] at this
        lia
       have nj:ib+1+j<b.size->r x1<=K r b (ib+1+j):=fun z=>by
        have:=j3 j (Nat.le_refl _) (by lia)
        unfold pk at this
        simp only [if_true,decide_eq_false_iff_not] at this
        lia
       refine bP (fun qj=>bL (fun q=>wpS_pure ⟨⟨_,rfl⟩,.inl ⟨_,_,rfl,mj.done (.inr q)⟩⟩) fun q4=>?_) fun qj=>?_
       obtain ⟨Pa,ej⟩:∃ z,z=ib+1+j:=⟨_,rfl⟩
       rw [<-ej] at mj nj ⊢
       have l5:Pa<b.size:=by lia
       rotate_left
       have j0:j=0:=by lia
       subst j0
       replace mj:=m2
       obtain ⟨Pa,ej⟩:∃ z,z=ib+1:=⟨_,rfl⟩
       rw [Nat.add_zero,<-ej] at nj
       rw [<-ej] at mj ⊢
       have l5:Pa<b.size:=by lia
       all_goals
        have m3:=mj.a1 ua ub ex nj
        refine wpS_bind (df ex ?_)
        refine bL (fun q=>wpS_pure ⟨⟨_,rfl⟩,.inl ⟨_,_,rfl,m3.last ub q hl⟩⟩) fun q5=>?_
        exact bP (fun q=>wpS_pure ⟨⟨_,rfl⟩,.inr ⟨_,_,_,_,_,_,rfl,m3,by lia,by lia,by lia⟩⟩) fun q=>wpS_pure ⟨⟨_,rfl⟩,_,_,_,_,_,_,rfl,m3,by lia,by lia,by lia⟩
    ·rintro z jo ⟨e,out,mX,nu,mg,c1,c2,rfl,m,l1,l2,l3⟩
     exact ⟨e,.inr ⟨out,mX,nu,mg,c1,c2,rfl,m,l1,l2,l3⟩⟩
    ·rintro z jo ⟨⟨g,e⟩,⟨m,y,rfl,gd⟩ | ⟨out,Iw,Q9,mg,c1,c2,rfl,m,l1,l2,l4⟩⟩
     ·exact wpS_pure ⟨⟨g,e⟩,_,_,rfl,gd⟩
     ·dsimp only
      refine wpS_bind (wpS_modify (wpS_pure ⟨⟨mg+1,?_⟩,_,_,_,_,rfl,m,l1,l2,by lia⟩))
      rw [e]
 ·rintro z ar ⟨e,out,ia,ib,mg,rfl,m,l1,l2,l3⟩
  lia
 ·rintro z ar ⟨⟨g,e⟩,m,y,rfl,gd⟩
  rw [e]
  exact wpS_pure (h m g gd)
end
section
variable {prog:Program} {w:World} {A:Around} {E:Value->Shared->Prop} {s:Shared} {κ:SortKind} {S:Keyed->Prop} {r:Keyed->Nat} {st:SortSt}
structure Mh (r:Keyed->Nat) (a b out:Array Keyed) (na nb:Nat):Prop where
 la:na<=a.size
 lb:nb<=b.size
 me:yJ (Q6 r) (a.toList++b.toList) out.toList (part a 0 na).reverse (part b 0 nb).reverse
section
variable {a b out:Array Keyed} {na nb:Nat} (ua:Up r a 0 a.size) (ub:Up r b 0 b.size)
include ua ub
theorem Mh.LN (h:Mh r a b out na nb) {k:Nat} (hk:k<=na) (l:0<nb->∀ i,k<=i->i<na->K r b (nb-1)<=K r a i):Mh r a b (out++(a.extract k na).reverse) k nb:=by
 have la:=h.la
 have lb:=h.lb
 refine ⟨by lia,h.lb,?_⟩
 have m:=h.me
 rw [bS (i:=0) (j:=k) (by lia) hk h.la,List.reverse_append] at m
 rw [Array.toList_append,Array.toList_reverse,aH]
 refine m.a fun x hx y hy=>?_
 obtain ⟨i,i1,i2,i3⟩:=a_ (List.mem_reverse.mp hx)
 obtain ⟨j,j1,j2,j3⟩:=a_ (List.mem_reverse.mp hy)
 show r y<=r x
 rw [<-eU (r:=r) i3,<-eU (r:=r) j3]
 exact Nat.le_trans (ub.le (Nat.zero_le _) (by lia) (by lia)) (l (by lia) i i1 i2)
theorem Mh.LO (h:Mh r a b out na nb) {k:Nat} (hk:k<=nb) (l:0<na->∀ i,k<=i->i<nb->K r a (na-1)<=K r b i):Mh r a b (out++(b.extract k nb).reverse) na k:=by
 have la:=h.la
 have lb:=h.lb
 refine ⟨h.la,by lia,?_⟩
 have m:=h.me
 rw [bS (i:=0) (j:=k) (by lia) hk h.lb,List.reverse_append] at m
 rw [Array.toList_append,Array.toList_reverse,aH]
 refine m.b fun x hx y hy=>?_
 obtain ⟨i,i1,i2,i3⟩:=a_ (List.mem_reverse.mp hx)
 obtain ⟨j,j1,j2,j3⟩:=a_ (List.mem_reverse.mp hy)
 show r y<=r x
 rw [<-eU (r:=r) i3,<-eU (r:=r) j3]
 exact Nat.le_trans (ua.le (Nat.zero_le _) (by lia) (by lia)) (l (by lia) i i1 i2)
theorem Mh.a1 (h:Mh r a b out na nb) (hn:0<na) {x:Keyed} (e:a[na-1]?=some x) (l:0<nb->K r b (nb-1)<=r x):Mh r a b (out.push x) (na-1) nb:=by
 have q:=h.LN ua ub (k:=na-1) (by lia) fun z i i1 i2=>by
  rw [show i=na-1 by lia,eU e]; exact l z
 have:(out++(a.extract (na-1) na).reverse)=out.push x:=by
  apply Array.toList_inj.mp
  have e2:=ku e
  rw [show na-1+1=na by lia] at e2
  rw [Array.toList_append,Array.toList_reverse,aH,e2,Array.toList_push,List.reverse_singleton]
 rwa [this] at q
theorem Mh.b1 (h:Mh r a b out na nb) (hn:0<nb) {x:Keyed} (e:b[nb-1]?=some x) (l:0<na->K r a (na-1)<=r x):Mh r a b (out.push x) na (nb-1):=by
 have q:=h.LO ua ub (k:=nb-1) (by lia) fun z i i1 i2=>by
  rw [show i=nb-1 by lia,eU e]; exact l z
 have:(out++(b.extract (nb-1) nb).reverse)=out.push x:=by
  apply Array.toList_inj.mp
  have e2:=ku e
  rw [show nb-1+1=nb by lia] at e2
  rw [Array.toList_append,Array.toList_reverse,aH,e2,Array.toList_push,List.reverse_singleton]
 rwa [this] at q
omit ua ub in
theorem Mh.done (h:Mh r a b out na nb) (l:na=0\/nb=0):Good r a b (a.extract 0 na++b.extract 0 nb++out.reverse):=by
 unfold Good
 rw [Array.toList_append,Array.toList_append,Array.toList_reverse,aH,aH]
 have f:=h.me.fin fun x hx y hy=>by
  obtain ⟨i,i1,i2,i3⟩:=a_ (List.mem_reverse.mp hx)
  obtain ⟨j,j1,j2,j3⟩:=a_ (List.mem_reverse.mp hy)
  lia
 have e:part a 0 na++part b 0 nb++out.toList.reverse=(out.toList++(part a 0 na).reverse++(part b 0 nb).reverse).reverse:=by
  rw [List.reverse_append,List.reverse_append,List.reverse_reverse,List.reverse_reverse,<-List.append_assoc]
  rcases l with z | z
  ·rw [z,ue (Nat.le_refl _),List.append_nil,List.nil_append]
  ·rw [z,ue (Nat.le_refl _),List.append_nil,List.nil_append]
 rw [e]
 exact ⟨(List.reverse_perm _).trans f.1,List.pairwise_reverse.mpr f.2⟩
omit ub in
theorem Mh.first (h:Mh r a b out na nb) (l:nb=1) (h0:K r b 0<=K r a 0):Good r a b (b.extract 0 nb++a.extract 0 na++out.reverse):=by
 have la:=h.la
 unfold Good
 rw [Array.toList_append,Array.toList_append,Array.toList_reverse,aH,aH]
 have f:=h.me.fin fun x hx y hy=>by
  obtain ⟨i,i1,i2,i3⟩:=a_ (List.mem_reverse.mp hx)
  obtain ⟨j,j1,j2,j3⟩:=a_ (List.mem_reverse.mp hy)
  show r y<=r x
  rw [<-eU (r:=r) i3,<-eU (r:=r) j3,show j=0 by lia]
  exact Nat.le_trans h0 (ua.le (Nat.le_refl _) (Nat.zero_le _) (by lia))
 have e:part b 0 nb++part a 0 na++out.toList.reverse=(out.toList++(part a 0 na).reverse++(part b 0 nb).reverse).reverse:=by
  rw [List.reverse_append,List.reverse_append,List.reverse_reverse,List.reverse_reverse,<-List.append_assoc]
 rw [e]
 exact ⟨(List.reverse_perm _).trans f.1,List.pairwise_reverse.mpr f.2⟩
end
theorem Bo (C:yM prog w A s κ S r) {a b:Array Keyed} {Q:Array Keyed->SortSt->Prop} (hk:kindOf st=κ) (Iu:∀ x∈a,S x) (Iv:∀ x∈b,S x) (ua:Up r a 0 a.size) (ub:Up r b 0 b.size) (ha:1<=a.size) (hb:1<=b.size)
  (h0:K r b 0<=K r a 0) (hl:K r b (b.size-1)<=K r a (a.size-1)) (h:∀ m g,Good r a b m->Q m (Gs st g)) :
  wpS (model prog w) A E s (uh a b) Q st:=by
 unfold uh
 refine wpS_bind (wpS_lift (wpAny_rule ⟨rfl,?_⟩))
 obtain ⟨y0,e0,m0,k0⟩:=at_of (r:=r) (xs:=a) (i:=a.size-1) (by lia)
 refine wpS_bind (df e0 ?_)
 dsimp only
 have M0:Mh r a b #[] a.size b.size:=⟨Nat.le_refl _,Nat.le_refl _,by
  rw [dM,dM]
  exact ⟨(List.reverse_perm _).append (List.reverse_perm _),List.Pairwise.nil,by rw [<-dM]; exact ua.rev,by rw [<-dM]; exact ub.rev,(by intro _ m; cases m),(by intro _ m; cases m)⟩⟩
 have M1:Mh r a b #[y0] (a.size-1) b.size:=M0.a1 ua ub (by lia) e0 fun _=>by rw [<-k0]; exact hl
 refine bL (fun q=>wpS_pure (h _ (gallopOf st) (M1.done (.inl q)))) fun q1=>?_
 refine bL (fun q=>wpS_pure (h _ (gallopOf st) (M1.first ua q h0))) fun q2=>?_
 refine wpS_bind (wpS_get ?_)
 refine wpS_bind (wpS_mono (wpS_forRange (I:=fun x z ar=>(∃ g,ar=Gs st g)/\∃ na nb out mg,z=(none,na,nb,out,mg)/\Mh r a b out na nb/\0<na/\1<nb/\x+na+nb<a.size+b.size)
  (Q:=fun z ar=>(∃ g,ar=Gs st g)/\∃ m y,z=(some m,y)/\Good r a b m) ?_ ?_ ⟨⟨gallopOf st,rfl⟩,_,_,_,_,rfl,M1,by lia,by lia,by lia⟩) ?_)
 ·rintro x z ar _ hx ⟨⟨g,e⟩,na,nb,out,mg,rfl,m,l1,l2,l3⟩
  dsimp only
  refine wpS_bind (wpS_mono (wpS_forRange (I:=fun x' z ar=>(∃ g,ar=Gs st g)/\∃ mY mZ out c1 c2,z=(none,mY,mZ,out,c1,c2)/\Mh r a b out mY mZ/\0<mY/\1<mZ/\mY+mZ+x'<=na+nb)
   (Q:=fun z ar=>(∃ g,ar=Gs st g)/\((∃ m y,z=(some m,y)/\Good r a b m)\/∃ mY mZ out c1 c2,z=(none,mY,mZ,out,c1,c2)/\Mh r a b out mY mZ/\0<mY/\1<mZ/\mY+mZ+1<=na+nb)) ?_ ?_ ⟨⟨g,e⟩,na,nb,out,0,0,rfl,m,l1,l2,by lia⟩) ?_)
  ·rintro x' z cJ _ JI ⟨⟨g,e⟩,mY,mZ,out,c1,c2,rfl,m,l1,l2,l3⟩
   dsimp only
   have ma:=m.la
   have mb:=m.lb
   obtain ⟨y,ey,my,ky⟩:=at_of (r:=r) (xs:=b) (i:=mZ-1) (by lia)
   obtain ⟨z,ez,mz,kz⟩:=at_of (r:=r) (xs:=a) (i:=mY-1) (by lia)
   have O_:kindOf cJ=κ:=by rw [e]; exact hk
   refine wpS_bind (df ey (wpS_bind (df ez (wpS_bind (LK C O_ (Iv y my) (Iu z mz) ?_)))))
   dsimp only
   refine bP (fun q=>?_) fun q=>?_
   ·have m2:=m.a1 ua ub l1 ez fun _=>by rw [ky]; have:=of_decide_eq_true q; lia
    refine wpS_bind (df ez ?_)
    refine bL (fun q=>wpS_pure ⟨⟨g,e⟩,.inl ⟨_,_,rfl,m2.done (.inl q)⟩⟩) fun q3=>?_
    exact bP (fun q=>wpS_pure ⟨⟨g,e⟩,.inr ⟨_,_,_,_,_,rfl,m2,by lia,l2,by lia⟩⟩) fun q=>wpS_pure ⟨⟨g,e⟩,_,_,_,_,_,rfl,m2,by lia,l2,by lia⟩
   ·have m2:=m.b1 ua ub (by lia) ey fun _=>by rw [kz]; have:=of_decide_eq_false (by simpa using q:decide (r y<r z)=false); lia
    refine wpS_bind (df ey ?_)
    refine bL (fun q=>wpS_pure ⟨⟨g,e⟩,.inl ⟨_,_,rfl,m2.first ua q h0⟩⟩) fun q3=>?_
    exact bP (fun q=>wpS_pure ⟨⟨g,e⟩,.inr ⟨_,_,_,_,_,rfl,m2,l1,by lia,by lia⟩⟩) fun q=>wpS_pure ⟨⟨g,e⟩,_,_,_,_,_,rfl,m2,l1,by lia,by lia⟩
  ·rintro z cJ ⟨e,mY,mZ,out,c1,c2,rfl,m,l1,l2,l3⟩
   exact ⟨e,.inr ⟨mY,mZ,out,c1,c2,rfl,m,l1,l2,by lia⟩⟩
  ·rintro z cJ ⟨e,⟨m,y,rfl,gd⟩ | ⟨Q_,Ra,out,c1,c2,rfl,m,l1,l2,l4⟩⟩
   ·exact wpS_pure ⟨e,_,_,rfl,gd⟩
   ·dsimp only
    refine wpS_bind (wpS_lift (wpAny_rule ⟨rfl,?_⟩))
    refine wpS_bind (wpS_mono (wpS_forRange (I:=fun x' z ar=>(∃ g,ar=Gs st g)/\∃ mY mZ out mg c1 c2,z=(none,mY,mZ,out,mg,c1,c2)/\Mh r a b out mY mZ/\0<mY/\1<mZ/\mY+mZ+1<=na+nb)
     (Q:=fun z ar=>(∃ g,ar=Gs st g)/\((∃ m y,z=(some m,y)/\Good r a b m)\/∃ mY mZ out mg c1 c2,z=(none,mY,mZ,out,mg,c1,c2)/\Mh r a b out mY mZ/\0<mY/\1<mZ/\mY+mZ+1<=na+nb)) ?_ ?_ ⟨e,Q_,Ra,out,_,c1,c2,rfl,m,l1,l2,by lia⟩) ?_)
    ·rintro x' z jo _ JI ⟨⟨g,e⟩,na,nb,out,mg,c1,c2,rfl,m,l1,l2,l3⟩
     dsimp only
     have ma:=m.la
     have mb:=m.lb
     obtain ⟨y,ey,my,ky⟩:=at_of (r:=r) (xs:=b) (i:=nb-1) (by lia)
     have Iy:∀ (mg:Nat) {Q:PUnit->SortSt->Prop},Q ⟨⟩ (Gs st mg)->wpS (model prog w) A E s (modify fun s:SortSt=>Gs s mg) Q jo:=by
      intro mg Q q
      refine wpS_modify ?_
      rw [e]; exact q
     refine bP (fun qg=>?_) fun qg=>?_
     all_goals
      refine wpS_bind (Iy _ ?_)
      refine wpS_bind (df ey (wpS_bind (ji C hk Iu (Iv y my) (by lia) (by lia) (ua.sub (by lia) (by lia)) fun k k1 k2 k3=>?_)))
      dsimp only
      simp only [Nat.zero_add] at k2 k3
      have mk:=m.LN ua ub k1 fun _ i i1 i2=>by
       have:=k3 i i1 i2
       unfold pk at this
       simp only [Bool.false_eq_true,if_false,Bool.not_eq_false',decide_eq_true_eq] at this
       lia
      have nx:0<k->K r a (k-1)<=r y:=fun z=>by
       have:=k2 (k-1) (by lia)
       unfold pk at this
       simp only [Bool.false_eq_true,if_false,Bool.not_eq_true',decide_eq_false_iff_not] at this
       lia
      refine bP (fun qk=>bL (fun q=>wpS_pure ⟨⟨_,rfl⟩,.inl ⟨_,_,rfl,mk.done (.inl q)⟩⟩) fun q2=>?_) fun qk=>?_
      obtain ⟨Iz,eo⟩:∃ z,z=out++(a.extract k na).reverse:=⟨_,rfl⟩
      rw [<-eo] at mk ⊢
      rotate_left
      have k0:k=na:=by lia
      subst k0
      obtain ⟨Iz,eo⟩:∃ z,z=out:=⟨_,rfl⟩
      replace mk:=m
      rw [<-eo] at mk ⊢
      all_goals
       have kp:0<k:=by lia
       have m2:=mk.b1 ua ub (by lia) ey nx
       refine wpS_bind (df ey ?_)
       refine bL (fun q=>wpS_pure ⟨⟨_,rfl⟩,.inl ⟨_,_,rfl,m2.first ua q h0⟩⟩) fun q3=>?_
       obtain ⟨x1,ex,mx,kx⟩:=at_of (r:=r) (xs:=a) (i:=k-1) (by lia)
       refine wpS_bind (df ex (wpS_bind (ji C hk Iv (Iu x1 mx) (by lia) (by lia) (ub.sub (by lia) (by lia)) fun j j1 j2 j3=>?_)))
       dsimp only
       simp only [Nat.zero_add] at j2 j3
       have mj:=m2.LO ua ub j1 fun _ i i1 i2=>by
        have:=j3 i i1 i2
        unfold pk at this
        simp only [if_true,decide_eq_false_iff_not] at this
        lia
       have nj:0<j->K r b (j-1)<=r x1:=fun z=>by
        have:=j2 (j-1) (by lia)
        unfold pk at this
        simp only [if_true,decide_eq_true_eq] at this
        lia
       refine bP (fun qj=>bL (fun q=>wpS_pure ⟨⟨_,rfl⟩,.inl ⟨_,_,rfl,mj.first ua q h0⟩⟩) fun q4=>bL (fun q=>wpS_pure ⟨⟨_,rfl⟩,.inl ⟨_,_,rfl,mj.done (.inr q)⟩⟩) fun q5=>?_) fun qj=>?_
       rotate_left
       have j0:j=nb-1:=by lia
       subst j0
       replace mj:=m2
       all_goals
        have m3:=mj.a1 ua ub kp ex nj
        refine wpS_bind (df ex ?_)
        refine bL (fun q=>wpS_pure ⟨⟨_,rfl⟩,.inl ⟨_,_,rfl,m3.done (.inl q)⟩⟩) fun q5=>?_
        exact bP (fun q=>wpS_pure ⟨⟨_,rfl⟩,.inr ⟨_,_,_,_,_,_,rfl,m3,by lia,by lia,by lia⟩⟩) fun q=>wpS_pure ⟨⟨_,rfl⟩,_,_,_,_,_,_,rfl,m3,by lia,by lia,by lia⟩
    ·rintro z jo ⟨e,mY,mZ,out,mg,c1,c2,rfl,m,l1,l2,l3⟩
     exact ⟨e,.inr ⟨mY,mZ,out,mg,c1,c2,rfl,m,l1,l2,l3⟩⟩
    ·rintro z jo ⟨⟨g,e⟩,⟨m,y,rfl,gd⟩ | ⟨Q_,Ra,out,mg,c1,c2,rfl,m,l1,l2,l4⟩⟩
     ·exact wpS_pure ⟨⟨g,e⟩,_,_,rfl,gd⟩
     ·dsimp only
      refine wpS_bind (wpS_modify (wpS_pure ⟨⟨mg+1,?_⟩,_,_,_,_,rfl,m,l1,l2,by lia⟩))
      rw [e]
 ·rintro z ar ⟨e,na,nb,out,mg,rfl,m,l1,l2,l3⟩
  lia
 ·rintro z ar ⟨⟨g,e⟩,m,y,rfl,gd⟩
  rw [e]
  exact wpS_pure (h m g gd)
end
theorem rn {α:Type} {X Y:Array α} {L M M' R:List α} (h1:X.toList=L++M++R) (h2:Y.toList=L++M'++R) (hl:M'.length=M.length) :
  Y.size=X.size/\(∀ j,j<L.length\/L.length+M.length<=j->Y[j]?=X[j]?)/\part Y L.length (L.length+M.length)=M':=by
 refine ⟨?_,fun j hj=>?_,?_⟩
 ·rw [<-Array.length_toList,<-Array.length_toList,h1,h2]; simp only [List.length_append,hl]
 ·rw [<-Array.getElem?_toList,<-Array.getElem?_toList,h1,h2]
  rcases hj with hj | hj
  ·rw [List.append_assoc,List.append_assoc,List.getElem?_append_left hj,List.getElem?_append_left hj]
  ·rw [List.getElem?_append_right (by rw [List.length_append]; lia),List.getElem?_append_right (by rw [List.length_append]; lia),List.length_append,List.length_append,hl]
 ·unfold part
  rw [h2,List.append_assoc,List.drop_left,Nat.add_sub_cancel_left,<-hl,List.take_left]
section
variable {prog:Program} {w:World} {A:Around} {E:Value->Shared->Prop} {s:Shared} {κ:SortKind} {S:Keyed->Prop} {r:Keyed->Nat} {st:SortSt}
theorem Ep {σ:Type} {M:Model} {st ar:σ} {Q:PUnit->σ->Prop} (h:Q ⟨⟩ ar):wpS M A E s (set ar:StateT σ Sem PUnit) Q st:=by
 unfold wpS; rw [StateT.run_set]; exact wpAny_pure ⟨rfl,h⟩
theorem Bp (C:yM prog w A s κ S r) {X:Array Keyed} {pend:Array (Nat × Nat × Nat)} {mg i sa na p nb q:Nat} {L1 L2:List (Nat × Nat × Nat)} {Q:Bool->SortSt->Prop} (hS:∀ x∈X,S x)
  (hp:pend.toList=L1++(sa,na,p)::(sa+na,nb,q)::L2) (hi:i=L1.length) (h1:0<na) (h2:0<nb) (hz:sa+na+nb<=X.size) (u1:Up r X sa (sa+na)) (u2:Up r X (sa+na) (sa+na+nb))
  (h:∀ Y pd g,Y.toList.Perm X.toList->(∀ j,j<sa\/sa+na+nb<=j->Y[j]?=X[j]?)->Up r Y sa (sa+na+nb)->pd.toList=L1++(sa,na+nb,p)::L2->Q true (SortSt.mk' κ Y pd g none)) :
  wpS (model prog w) A E s (mergeAt' i) Q (SortSt.mk' κ X pend mg none):=by
 have p1:pend[i]?=some (sa,na,p):=by
  rw [<-Array.getElem?_toList,hp,hi,List.getElem?_append_right (Nat.le_refl _),Nat.sub_self]; rfl
 have p2:pend[i+1]?=some (sa+na,nb,q):=by
  rw [<-Array.getElem?_toList,hp,hi,List.getElem?_append_right (by lia),show L1.length+1-L1.length=1 by lia]; rfl
 obtain ⟨pd,Rb⟩:∃ pd,pd=(pend.setIfInBounds i (sa,na+nb,p)).eraseIdxIfInBounds (i+1):=⟨_,rfl⟩
 have Pb:pd.toList=L1++(sa,na+nb,p)::L2:=by
  rw [Rb,Array.toList_eraseIdxIfInBounds,Array.toList_setIfInBounds,hp,hi,List.set_append_right _ _ (Nat.le_refl _),Nat.sub_self,List.set_cons_zero,List.eraseIdx_append_of_length_le (by lia),show L1.length+1-L1.length=1 by lia]
  rfl
 unfold mergeAt'
 refine wpS_bind (wpS_get ?_)
 dsimp only
 rw [p1,p2]
 dsimp only
 refine wpS_bind (Ep ?_)
 rw [<-Rb]
 obtain ⟨y,ey,my,ky⟩:=at_of (r:=r) (xs:=X) (i:=sa+na) (by lia)
 refine wpS_bind (df ey ?_)
 refine wpS_bind (ji C rfl hS (hS y my) (by lia) h1 u1 fun k k1 k2 k3=>?_)
 dsimp only
 have lo:∀ i,sa<=i->i<sa+k->K r X i<=K r X (sa+na):=fun i i1 i2=>by
  have:=k2 (i-sa) (by lia)
  rw [show sa+(i-sa)=i by lia] at this
  unfold pk at this
  simp only [Bool.false_eq_true,if_false,Bool.not_eq_true',decide_eq_false_iff_not] at this
  lia
 refine bL (fun z=>wpS_pure (h X pd mg (List.Perm.refl _) (fun _ _=>rfl) (fun i j a1 a2 a3=>?_) Pb)) fun z=>?_
 ·rcases Nat.lt_or_ge j (sa+na) with c | c
  ·exact u1 i j a1 a2 c
  ·rcases Nat.lt_or_ge i (sa+na) with d | d
   ·exact Nat.le_trans (lo i a1 (by lia)) (u2.le (Nat.le_refl _) c a3)
   ·exact u2 i j d a2 a3
 obtain ⟨x,ex,mx,kx⟩:=at_of (r:=r) (xs:=X) (i:=sa+na-1) (by lia)
 have em:sa+k+(na-k)-1=sa+na-1:=by lia
 rw [em]
 refine wpS_bind (df ex ?_)
 refine wpS_bind (ji C rfl hS (hS x mx) (by lia) (by lia) u2 fun m m1 m2 m3=>?_)
 dsimp only
 have up:∀ i,sa+na+m<=i->i<sa+na+nb->K r X (sa+na-1)<=K r X i:=fun i i1 i2=>by
  have:=m3 (i-(sa+na)) (by lia) (by lia)
  rw [show sa+na+(i-(sa+na))=i by lia] at this
  unfold pk at this
  simp only [if_true,decide_eq_false_iff_not] at this
  lia
 refine bL (fun z=>wpS_pure (h X pd mg (List.Perm.refl _) (fun _ _=>rfl) (fun i j a1 a2 a3=>?_) Pb)) fun z2=>?_
 ·rcases Nat.lt_or_ge j (sa+na) with c | c
  ·exact u1 i j a1 a2 c
  ·rcases Nat.lt_or_ge i (sa+na) with d | d
   ·exact Nat.le_trans (u1.le a1 (by lia) (by lia)) (up j (by lia) a3)
   ·exact u2 i j d a2 a3
 obtain ⟨a,ea⟩:∃ a,a=X.extract (sa+k) (sa+na):=⟨_,rfl⟩
 obtain ⟨b,eb⟩:∃ b,b=X.extract (sa+na) (sa+na+m):=⟨_,rfl⟩
 rw [<-ea,<-eb]
 have za:a.size=na-k:=by rw [ea,Array.size_extract]; lia
 have zb:b.size=m:=by rw [eb,Array.size_extract]; lia
 have Ka:∀ i,i<a.size->K r a i=K r X (sa+k+i):=fun i hi=>by
  unfold K
  rw [ea,Array.getElem?_extract_of_lt (by lia),getElem?_pos X _ (by lia)]
 have Kb:∀ i,i<b.size->K r b i=K r X (sa+na+i):=fun i hi=>by
  unfold K
  rw [eb,Array.getElem?_extract_of_lt (by lia),getElem?_pos X _ (by lia)]
 have ua:Up r a 0 a.size:=fun i j _ a2 a3=>by rw [Ka i (by lia),Ka j a3]; exact u1 _ _ (by lia) (by lia) (by lia)
 have ub:Up r b 0 b.size:=fun i j _ a2 a3=>by rw [Kb i (by lia),Kb j a3]; exact u2 _ _ (by lia) (by lia) (by lia)
 have Rc:∀ x∈a,S x:=fun x hx=>by
  rw [ea,<-Array.mem_toList_iff,aH] at hx
  obtain ⟨j,_,_,j3⟩:=a_ hx
  exact hS x (Array.mem_of_getElem? j3)
 have Rf:∀ x∈b,S x:=fun x hx=>by
  rw [eb,<-Array.mem_toList_iff,aH] at hx
  obtain ⟨j,_,_,j3⟩:=a_ hx
  exact hS x (Array.mem_of_getElem? j3)
 have h0:K r b 0<=K r a 0:=by
  rw [Ka 0 (by lia),Kb 0 (by lia)]
  have:=k3 k (Nat.le_refl _) (by lia)
  unfold pk at this
  simp only [Bool.false_eq_true,if_false,Bool.not_eq_false',decide_eq_true_eq] at this
  rw [Nat.add_zero,Nat.add_zero]
  lia
 have hl:K r b (b.size-1)<=K r a (a.size-1):=by
  rw [Ka _ (by lia),Kb _ (by lia)]
  have:=m2 (b.size-1) (by lia)
  unfold pk at this
  simp only [if_true,decide_eq_true_eq] at this
  rw [show sa+k+(a.size-1)=sa+na-1 by lia]
  lia
 have fin:∀ (yN:Array Keyed) (g:Nat),Good r a b yN->Q true (SortSt.mk' κ (yN.toList.zipIdx.foldl (fun a (q:Keyed × Nat)=>a.setIfInBounds (sa+k+q.2) q.1) X) pd g none):=by
  intro yN g gd
  obtain ⟨g1,g2⟩:=gd
  have ll:yN.toList.length=na-k+m:=by
   have:=g1.length_eq
   rw [List.length_append,Array.length_toList (xs:=a),Array.length_toList (xs:=b)] at this
   lia
  obtain ⟨Y,eY⟩:∃ Y,Y=yN.toList.zipIdx.foldl (fun a (q:Keyed × Nat)=>a.setIfInBounds (sa+k+q.2) q.1) X:=⟨_,rfl⟩
  rw [<-eY]
  have yl:=Bl (m:=yN.toList) (sa:=sa+k) (xs:=X) (by lia)
  rw [<-eY,yK,yL,ll,show sa+k+(na-k+m)=sa+na+m by lia] at yl
  rw [bS (i:=0) (j:=sa) (k:=sa+k) (by lia) (by lia) (by lia),bS (i:=sa+na+m) (j:=sa+na+nb) (k:=X.size) (by lia) (by lia) (by lia)] at yl
  have xl:X.toList=part X 0 sa++part X sa (sa+na+nb)++part X (sa+na+nb) X.size:=by
   rw [<-bS (by lia) (by lia) (by lia),<-bS (by lia) (by lia) (by lia),dM]
  have xm:part X sa (sa+na+nb)=part X sa (sa+k)++(a.toList++b.toList)++part X (sa+na+m) (sa+na+nb):=by
   rw [ea,eb,aH,aH,<-bS (by lia) (by lia) (by lia),<-bS (by lia) (by lia) (by lia),<-bS (by lia) (by lia) (by lia)]
  have Rg:Y.toList=part X 0 sa++(part X sa (sa+k)++yN.toList++part X (sa+na+m) (sa+na+nb))++part X (sa+na+nb) X.size:=by
   rw [yl]; simp only [List.append_assoc]
  have pm:(part X sa (sa+k)++yN.toList++part X (sa+na+m) (sa+na+nb)).Perm (part X sa (sa+na+nb)):=by
   rw [xm]
   exact (List.Perm.append_left _ g1).append_right _
  obtain ⟨r1,r2,r3⟩:=rn xl Rg pm.length_eq
  rw [iY (by lia),iY (by lia),Nat.sub_zero,show sa+(sa+na+nb-sa)=sa+na+nb by lia] at r2 r3
  refine h Y pd g ?_ r2 (Iq ?_ (by lia)) Pb
  ·rw [xl,Rg]
   exact (List.Perm.append_left _ pm).append_right _
  ·rw [r3]
   unfold CP
   have mem:∀ x∈yN.toList,∃ j,sa+k<=j/\j<sa+na+m/\X[j]?=some x:=fun x hx=>by
    have:=g1.mem_iff.mp hx
    rw [ea,eb,aH,aH,<-bS (by lia) (by lia) (by lia)] at this
    exact a_ this
   rw [List.append_assoc]
   refine List.pairwise_append.mpr ⟨(u1.sub (Nat.le_refl _) (by lia)).iM,List.pairwise_append.mpr ⟨g2,(u2.sub (by lia) (Nat.le_refl _)).iM,fun x hx y hy=>?_⟩,fun x hx y hy=>?_⟩
   ·obtain ⟨i,i1,i2,i3⟩:=mem x hx
    obtain ⟨j,j1,j2,j3⟩:=a_ hy
    show r x<=r y
    rw [<-eU (r:=r) i3,<-eU (r:=r) j3]
    rcases Nat.lt_or_ge i (sa+na) with d | d
    ·exact Nat.le_trans (u1.le (by lia) (by lia) (by lia)) (up j j1 j2)
    ·exact u2.le d (by lia) j2
   ·obtain ⟨i,i1,i2,i3⟩:=a_ hx
    have:∃ j,sa+k<=j/\j<sa+na+nb/\X[j]?=some y:=by
     rcases List.mem_append.mp hy with hy | hy
     ·obtain ⟨j,j1,j2,j3⟩:=mem y hy
      exact ⟨j,j1,by lia,j3⟩
     ·obtain ⟨j,j1,j2,j3⟩:=a_ hy
      exact ⟨j,by lia,by lia,j3⟩
    obtain ⟨j,j1,j2,j3⟩:=this
    show r x<=r y
    rw [<-eU (r:=r) i3,<-eU (r:=r) j3]
    rcases Nat.lt_or_ge j (sa+na) with d | d
    ·exact u1.le i1 (by lia) d
    ·exact Nat.le_trans (lo i i1 i2) (u2.le (Nat.le_refl _) d j2)
 refine bP (fun _=>?_) fun _=>?_
 ·exact wpS_bind (Bn C rfl Rc Rf ua ub (by lia) (by lia) h0 hl fun yN g gd=>wpS_bind (wpS_modify (wpS_bind (wpS_get (wpS_pure (fin yN g gd))))))
 ·exact wpS_bind (Bo C rfl Rc Rf ua ub (by lia) (by lia) h0 hl fun yN g gd=>wpS_bind (wpS_modify (wpS_bind (wpS_get (wpS_pure (fin yN g gd))))))
end
noncomputable def Di (r:Keyed->Nat) (xs:Array Keyed):Prop:=(xs.toList.map r).Nodup
section
variable {r:Keyed->Nat} {X Y:Array Keyed}
theorem Di.to (h:Di r X) (p:Y.toList.Perm X.toList):Di r Y:=(p.map r).nodup_iff.mpr h
theorem Di.ne (h:Di r X) {i j:Nat} (hi:i<X.size) (hj:j<X.size) (e:i≠j):K r X i≠K r X j:=by
 rw [eU (getElem?_pos X i hi),eU (getElem?_pos X j hj)]
 intro z
 have li:i<(X.toList.map r).length:=by rw [List.length_map,Array.length_toList]; exact hi
 have lj:j<(X.toList.map r).length:=by rw [List.length_map,Array.length_toList]; exact hj
 refine e ((List.getElem_inj (h₀:=li) (h₁:=lj) h).mp ?_)
 rw [List.getElem_map,List.getElem_map,Array.getElem_toList,Array.getElem_toList]
 exact z
theorem F_ {i j k:Nat} (hj:j<=X.size):K r (mirror X i j ((j-i) / 2)) k=if i<=k/\k<j then K r X (i+j-1-k) else K r X k:=by
 unfold K
 rw [getElem?_mirror_all hj]
 split <;> rfl
theorem Ga {src d k:Nat} (hs:src<X.size) (hd:d<=src):K r (bubble X src d) k=if k=src-d then K r X src else if src-d<k/\k<=src then K r X (k-1) else K r X k:=by
 unfold K
 rw [getElem?_bubble hs d hd]
 split
 ·rfl
 ·split <;> rfl
theorem Up.more {lo n:Nat} (h1:1<=n) (h:Up r X lo (lo+n)) (l:K r X (lo+n-1)<=K r X (lo+n)):Up r X lo (lo+(n+1)):=fun i j a b c=>by
 rcases Nat.lt_or_ge j (lo+n) with q | q
 ·exact h i j a b q
 ·rw [show j=lo+n by lia]
  exact Nat.le_trans (h.le a (show i<=lo+n-1 by lia) (by lia)) l
theorem Dn.more {lo n:Nat} (h1:1<=n) (h:Dn r X lo (lo+n)) (l:K r X (lo+n)<=K r X (lo+n-1)):Dn r X lo (lo+(n+1)):=fun i j a b c=>by
 rcases Nat.lt_or_ge j (lo+n) with q | q
 ·exact h i j a b q
 ·rw [show j=lo+n by lia]
  rcases Nat.lt_or_ge i (lo+n-1) with z | z
  ·exact Nat.le_trans l (h i (lo+n-1) a z (by lia))
  ·rw [show i=lo+n-1 by lia]; exact l
theorem Up.one {lo:Nat}:Up r X lo (lo+1):=fun i j a b c=>by lia
end
section
variable {prog:Program} {w:World} {A:Around} {E:Value->Shared->Prop} {s:Shared} {κ:SortKind} {S:Keyed->Prop} {r:Keyed->Nat} {pend:Array (Nat × Nat × Nat)} {mg:Nat} {X:Array Keyed}
theorem yO (C:yM prog w A s κ S r) {i j:Nat} {Q:Option Bool->SortSt->Prop} (hS:∀ x∈X,S x) (hi:i<X.size) (hj:j<X.size) (h:Q (some (decide (K r X i<K r X j))) (SortSt.mk' κ X pend mg none)) :
  wpS (model prog w) A E s (ltAt' i j) Q (SortSt.mk' κ X pend mg none):=by
 obtain ⟨x,ex,mx,kx⟩:=at_of (r:=r) hi
 obtain ⟨y,ey,my,ky⟩:=at_of (r:=r) hj
 rw [kx,ky] at h
 exact LL C rfl ex ey (hS x mx) (hS y my) h
theorem IA (C:yM prog w A s κ S r) {lo iZ:Nat} {Q:Option Nat->SortSt->Prop} (h1:1<=iZ) (hz:lo+iZ<=X.size) (hS:∀ x∈X,S x) (hd:Di r X)
  (h:∀ n Y,1<=n->n<=iZ->Y.toList.Perm X.toList->(∀ j,j<lo->Y[j]?=X[j]?)->Up r Y lo (lo+n)->Q (some n) (SortSt.mk' κ Y pend mg none)) :
  wpS (model prog w) A E s (countRun' lo iZ) Q (SortSt.mk' κ X pend mg none):=by
 unfold countRun'
 refine wpS_bind (wpS_mono (wpS_forRange (I:=fun x z ar=>ar=SortSt.mk' κ X pend mg none/\z=(none,x)/\Up r X lo (lo+x))
  (Q:=fun z ar=>ar=SortSt.mk' κ X pend mg none/\∃ n,z=(none,n)/\1<=n/\n<=iZ/\Up r X lo (lo+n)/\(n<iZ->K r X (lo+n)<K r X (lo+n-1))) ?_ ?_ ⟨rfl,rfl,Up.one⟩) ?_)
 ·rintro x z ar x1 hx ⟨e,rfl,u⟩
  rw [e]
  refine wpS_bind (yO C hS (by lia) (by lia) ?_)
  dsimp only
  refine bP (fun q=>wpS_pure ⟨rfl,x,rfl,x1,by lia,u,fun _=>of_decide_eq_true q⟩) fun q=>wpS_pure ⟨rfl,rfl,u.more x1 ?_⟩
  have:=of_decide_eq_false (by simpa using q:decide (K r X (lo+x)<K r X (lo+x-1))=false)
  lia
 ·rintro z ar ⟨e,rfl,u⟩
  rw [show max 1 iZ=iZ by lia] at u ⊢
  exact ⟨e,iZ,rfl,h1,Nat.le_refl _,u,fun q=>absurd q (Nat.lt_irrefl _)⟩
 ·rintro z ar ⟨e,n,rfl,n1,n2,u,f⟩
  rw [e]
  dsimp only
  refine bL (fun q=>wpS_pure (h n X n1 n2 (List.Perm.refl _) (fun _ _=>rfl) u)) fun q=>?_
  have f':=f (by lia)
  refine bP (fun g=>?_) fun g=>?_
  ·refine wpS_bind (yO C hS (by lia) (by lia) ?_)
   dsimp only
   have ne:=hd.ne (i:=lo) (j:=lo+n-1) (by lia) (by lia) (by lia)
   have le:=u.le (Nat.le_refl _) (show lo<=lo+n-1 by lia) (by lia)
   rw [if_pos (decide_eq_true (by lia))]
   exact wpS_pure (h n X n1 n2 (List.Perm.refl _) (fun _ _=>rfl) u)
  ·have:n=1:=by lia
   subst this
   refine wpS_bind (wpS_lift (wpAny_rule ⟨rfl,?_⟩))
   refine wpS_bind (wpS_mono (wpS_forRange (I:=fun x z ar=>ar=SortSt.mk' κ X pend mg none/\z=(none,x,0)/\Dn r X lo (lo+x))
    (Q:=fun z ar=>ar=SortSt.mk' κ X pend mg none/\∃ n,z=(none,n,0)/\2<=n/\n<=iZ/\Dn r X lo (lo+n)) ?_ ?_ ⟨rfl,rfl,?_⟩) ?_)
   ·rintro x z ar x1 hx ⟨e,rfl,u⟩
    rw [e]
    dsimp only
    refine wpS_bind (yO C hS (by lia) (by lia) ?_)
    dsimp only
    refine bP (fun q=>?_) fun q=>?_
    ·rw [if_neg (Nat.lt_irrefl _)]
     have:=of_decide_eq_true q
     exact wpS_pure ⟨rfl,rfl,u.more (by lia) (by lia)⟩
    ·refine wpS_bind (yO C hS (by lia) (by lia) ?_)
     dsimp only
     have ne:=hd.ne (i:=lo+x) (j:=lo+x-1) (by lia) (by lia) (by lia)
     have:=of_decide_eq_false (by simpa using q:decide (K r X (lo+x)<K r X (lo+x-1))=false)
     rw [if_pos (decide_eq_true (by lia))]
     exact wpS_pure ⟨rfl,x,rfl,by lia,by lia,u⟩
   ·rintro z ar ⟨e,rfl,u⟩
    rw [show max (1+1) iZ=iZ by lia] at u ⊢
    exact ⟨e,iZ,rfl,by lia,Nat.le_refl _,u⟩
   ·intro i j a b c
    rw [show i=lo+1-1 by lia,show j=lo+1 by lia]
    lia
   ·rintro z ar ⟨e,n,rfl,n1,n2,dn⟩
    rw [e]
    dsimp only
    rw [if_neg (Nat.lt_irrefl _)]
    obtain ⟨Y,eY⟩:∃ Y,Y=mirror X lo (lo+n) ((lo+n-lo) / 2):=⟨_,rfl⟩
    have zY:Y.size=X.size:=by rw [eY]; exact mirror_size _ _ _ _
    have pY:Y.toList.Perm X.toList:=by rw [eY]; exact Array.perm_iff_toList_perm.mp (mirror_perm _ _ _ _)
    have sY:∀ x∈Y,S x:=fun x hx=>hS x (Array.mem_toList_iff.mp (pY.mem_iff.mp (Array.mem_toList_iff.mpr hx)))
    have bY:∀ j,j<lo->Y[j]?=X[j]?:=fun j hj=>by
     rw [eY,getElem?_mirror_all (by lia),if_neg (by lia)]
    have uY:Up r Y lo (lo+n):=fun i j a b c=>by
     rw [eY,F_ (by lia),F_ (by lia),if_pos (by lia),if_pos (by lia)]
     exact dn _ _ (by lia) (by lia) (by lia)
    refine wpS_bind (wpS_modify ?_)
    show wpS _ _ _ _ _ _ (SortSt.mk' κ (mirror X lo (lo+n) ((lo+n-lo) / 2)) pend mg none)
    rw [<-eY]
    refine wpS_bind (wpS_mono (wpS_forRange (I:=fun x z ar=>ar=SortSt.mk' κ Y pend mg none/\z=(none,x)/\Up r Y lo (lo+x))
     (Q:=fun z ar=>ar=SortSt.mk' κ Y pend mg none/\∃ n,z=(none,n)/\1<=n/\n<=iZ/\Up r Y lo (lo+n)) ?_ ?_ ⟨rfl,rfl,uY⟩) ?_)
    ·rintro x z ar x1 hx ⟨e,rfl,u⟩
     rw [e]
     refine wpS_bind (yO C sY (by lia) (by lia) ?_)
     dsimp only
     refine bP (fun q=>wpS_pure ⟨rfl,x,rfl,by lia,by lia,u⟩) fun q=>wpS_pure ⟨rfl,rfl,u.more (by lia) ?_⟩
     have:=of_decide_eq_false (by simpa using q:decide (K r Y (lo+x)<K r Y (lo+x-1))=false)
     lia
    ·rintro z ar ⟨e,rfl,u⟩
     rw [show max n iZ=iZ by lia] at u ⊢
     exact ⟨e,iZ,rfl,h1,Nat.le_refl _,u⟩
    ·rintro z ar ⟨e,n,rfl,n1,n2,u⟩
     rw [e]
     exact wpS_pure (h n Y n1 n2 pY bY u)
theorem Pc (C:yM prog w A s κ S r) {lo n ok:Nat} {Q:Bool->SortSt->Prop} (h1:1<=ok) (hz:lo+n<=X.size) (hS:∀ x∈X,S x) (u:Up r X lo (lo+ok))
  (h:∀ Y,Y.toList.Perm X.toList->(∀ j,j<lo->Y[j]?=X[j]?)->Up r Y lo (lo+n)->Q true (SortSt.mk' κ Y pend mg none)) :
  wpS (model prog w) A E s (binarySort' lo n ok) Q (SortSt.mk' κ X pend mg none):=by
 unfold binarySort'
 refine wpS_bind (wpS_mono (wpS_forRange (I:=fun k z ar=>z=(none,())/\∃ Y,ar=SortSt.mk' κ Y pend mg none/\Y.toList.Perm X.toList/\(∀ j,j<lo->Y[j]?=X[j]?)/\Up r Y lo (lo+k))
  (Q:=fun z ar=>z=(none,())/\∃ Y,ar=SortSt.mk' κ Y pend mg none/\Y.toList.Perm X.toList/\(∀ j,j<lo->Y[j]?=X[j]?)/\Up r Y lo (lo+n)) ?_ ?_ ⟨rfl,X,rfl,List.Perm.refl _,fun _ _=>rfl,by rw [show max ok 1=ok by lia]; exact u⟩) ?_)
 ·rintro k z ar k1 hk ⟨rfl,Y,e,pY,bY,uY⟩
  rw [e]
  have zY:Y.size=X.size:=by rw [<-Array.length_toList,pY.length_eq,Array.length_toList]
  have sY:∀ x∈Y,S x:=fun x hx=>hS x (Array.mem_toList_iff.mp (pY.mem_iff.mp (Array.mem_toList_iff.mpr hx)))
  refine wpS_bind (wpS_mono (wpS_forRange (I:=fun x z ar=>ar=SortSt.mk' κ Y pend mg none/\∃ l m,z=(none,l,m)/\l<=m/\m<=k/\m-l+x<=k/\(∀ i,i<l->K r Y (lo+i)<=K r Y (lo+k))/\∀ i,m<=i->i<k->K r Y (lo+k)<=K r Y (lo+i))
   (Q:=fun z ar=>ar=SortSt.mk' κ Y pend mg none/\∃ l,z=(none,l,l)/\l<=k/\(∀ i,i<l->K r Y (lo+i)<=K r Y (lo+k))/\∀ i,l<=i->i<k->K r Y (lo+k)<=K r Y (lo+i)) ?_ ?_ ⟨rfl,0,k,rfl,Nat.zero_le _,Nat.le_refl _,by lia,fun i q=>absurd q (Nat.not_lt_zero _),fun i q1 q2=>absurd q1 (by lia)⟩) ?_)
  ·rintro x z ar _ hx ⟨e,l,m,rfl,g1,g2,g3,g4,g5⟩
   rw [e]
   dsimp only
   refine bP (fun q=>?_) fun q=>?_
   ·have:l=m:=by lia
    subst this
    exact wpS_pure ⟨rfl,l,rfl,g2,g4,g5⟩
   ·refine wpS_bind (yO C sY (by lia) (by lia) ?_)
    dsimp only
    refine bP (fun q=>?_) fun q=>?_
    ·have:=of_decide_eq_true q
     exact wpS_pure ⟨rfl,l,(l+m) / 2,rfl,by lia,by lia,by lia,g4,fun i i1 i2=>Nat.le_trans (Nat.le_of_lt this) (uY.le (by lia) (by lia) (by lia))⟩
    ·have:=of_decide_eq_false (by simpa using q:decide (K r Y (lo+k)<K r Y (lo+(l+m) / 2))=false)
     exact wpS_pure ⟨rfl,(l+m) / 2+1,m,rfl,by lia,by lia,by lia,fun i i1=>Nat.le_trans (uY.le (by lia) (show lo+i<=lo+(l+m) / 2 by lia) (by lia)) (by lia),g5⟩
  ·rintro z ar ⟨e,l,m,rfl,g1,g2,g3,g4,g5⟩
   have:l=m:=by lia
   subst this
   exact ⟨e,l,rfl,g2,g4,g5⟩
  ·rintro z ar ⟨e,l,rfl,g2,g4,g5⟩
   rw [e]
   dsimp only
   refine wpS_bind (wpS_modify (wpS_pure ⟨rfl,bubble Y (lo+k) (lo+k-(lo+l)),rfl,?_,fun j hj=>?_,?_⟩))
   ·exact (Array.perm_iff_toList_perm.mp (bubble_perm _ _ _)).trans pY
   ·rw [getElem?_bubble (by lia) _ (by lia),if_neg (by lia),if_neg (by lia)]
    exact bY j hj
   ·intro i j a b c
    rw [Ga (by lia) (by lia),Ga (by lia) (by lia),show lo+k-(lo+k-(lo+l))=lo+l by lia]
    by_cases c1:i=lo+l
    ·rw [if_pos c1,if_neg (by lia),if_pos (by lia)]
     have:=g5 (j-1-lo) (by lia) (by lia)
     rwa [show lo+(j-1-lo)=j-1 by lia] at this
    ·rw [if_neg c1]
     by_cases c2:j=lo+l
     ·rw [if_pos c2,if_neg (by lia)]
      have:=g4 (i-lo) (by lia)
      rwa [show lo+(i-lo)=i by lia] at this
     ·rw [if_neg c2]
      by_cases c3:lo+l<i
      ·rw [if_pos (by lia),if_pos (by lia)]
       exact uY.le (by lia) (by lia) (by lia)
      ·rw [if_neg (by lia)]
       by_cases c4:lo+l<j
       ·rw [if_pos (by lia)]
        exact uY.le a (by lia) (by lia)
       ·rw [if_neg (by lia)]
        exact uY.le a (by lia) (by lia)
 ·rintro z ar ⟨rfl,Y,e,pY,bY,uY⟩
  exact ⟨rfl,Y,e,pY,bY,uY.sub (Nat.le_refl _) (by lia)⟩
 ·rintro z ar ⟨rfl,Y,e,pY,bY,uY⟩
  rw [e]
  exact wpS_pure (h Y pY bY uY)
end
section
variable {r:Keyed->Nat} {X Y:Array Keyed}
noncomputable def Runs (r:Keyed->Nat) (X:Array Keyed):List (Nat × Nat × Nat)->Nat->Nat->Prop
 | [],lo,hi=>lo=hi
 | q::t,lo,hi=>q.1=lo/\0<q.2.1/\Up r X lo (lo+q.2.1)/\Runs r X t (lo+q.2.1) hi
theorem gO:∀ {L1 L2:List (Nat × Nat × Nat)} {lo hi:Nat},Runs r X (L1++L2) lo hi↔∃ m,Runs r X L1 lo m/\Runs r X L2 m hi
 | [],L2,lo,hi=>⟨fun h=>⟨lo,rfl,h⟩,fun ⟨m,e,h⟩=>by cases e; exact h⟩
 | q::L1,L2,lo,hi=>by
  constructor
  ·rintro ⟨a,b,c,d⟩
   obtain ⟨m,h1,h2⟩:=gO.mp d
   exact ⟨m,⟨a,b,c,h1⟩,h2⟩
  ·rintro ⟨m,⟨a,b,c,d⟩,h2⟩
   exact ⟨a,b,c,gO.mpr ⟨m,d,h2⟩⟩
theorem Runs.len:∀ {L:List (Nat × Nat × Nat)} {lo hi:Nat},Runs r X L lo hi->lo+L.length<=hi
 | [],lo,hi,h=>by cases h; exact Nat.le_refl _
 | q::L,lo,hi,⟨a,b,c,d⟩=>by
  have:=d.len
  rw [List.length_cons]
  lia
theorem Runs.to:∀ {L:List (Nat × Nat × Nat)} {lo hi:Nat},Runs r X L lo hi->(∀ j,lo<=j->j<hi->Y[j]?=X[j]?)->Runs r Y L lo hi
 | [],lo,hi,h,_=>h
 | q::L,lo,hi,⟨a,b,c,d⟩,e=>by
  have l:=d.len
  refine ⟨a,b,fun i j h1 h2 h3=>?_,d.to fun j h1 h2=>e j (by lia) h2⟩
  unfold K
  rw [e i h1 (by lia),e j (by lia) (by lia)]
  exact c i j h1 h2 h3
theorem Up.to {lo hi:Nat} (h:Up r X lo hi) (e:∀ j,lo<=j->Y[j]?=X[j]?):Up r Y lo hi:=fun i j a b c=>by
 unfold K
 rw [e i a,e j (by lia)]
 exact h i j a b c
theorem Runs.pw:∀ {L L':List (Nat × Nat × Nat)} {lo hi:Nat},Runs r X L lo hi->L'.map (fun q=>(q.1,q.2.1))=L.map (fun q=>(q.1,q.2.1))->Runs r X L' lo hi
 | [],[],lo,hi,h,_=>h
 | [],_::_,_,_,_,e=>by cases e
 | _::_,[],_,_,_,e=>by cases e
 | q::L,q'::L',lo,hi,⟨a,b,c,d⟩,e=>by
  injection e with e1 e2
  injection e1 with e3 e4
  exact ⟨e3.trans a,by rw [e4]; exact b,by rw [e4]; exact c,by rw [e4]; exact d.pw e2⟩
theorem vH {L:Array (Nat × Nat × Nat)} {i v:Nat}:(L.modify i fun q=>(q.1,q.2.1,v)).toList.map (fun q=>(q.1,q.2.1))=L.toList.map (fun q=>(q.1,q.2.1)):=by
 apply List.ext_getElem?
 intro j
 rw [List.getElem?_map,List.getElem?_map,Array.getElem?_toList,Array.getElem?_toList,Array.getElem?_modify]
 split
 ·rw [Option.map_map]; rfl
 ·rfl
theorem IB {α:Type} {l:List α} {i:Nat} (h:i+1<l.length):∃ L1 a b L2,l=L1++a::b::L2/\i=L1.length:=by
 refine ⟨l.take i,l[i],l[i+1],l.drop (i+2),?_,by rw [List.length_take]; lia⟩
 have e1:l.drop i=l[i]::l.drop (i+1):=List.drop_eq_getElem_cons (by lia)
 have e2:l.drop (i+1)=l[i+1]::l.drop (i+2):=List.drop_eq_getElem_cons h
 rw [<-e2,<-e1,List.take_append_drop]
end
section
variable {prog:Program} {w:World} {A:Around} {E:Value->Shared->Prop} {s:Shared} {κ:SortKind} {S:Keyed->Prop} {r:Keyed->Nat} {pend:Array (Nat × Nat × Nat)} {mg:Nat} {X:Array Keyed}
theorem xu (C:yM prog w A s κ S r) {i hi:Nat} {Q:Bool->SortSt->Prop} (hS:∀ x∈X,S x) (R:Runs r X pend.toList 0 hi) (hz:hi<=X.size) (CO:i+1<pend.size)
  (h:∀ Y pd g,Y.toList.Perm X.toList->(∀ j,hi<=j->Y[j]?=X[j]?)->pd.size+1=pend.size->Runs r Y pd.toList 0 hi->Q true (SortSt.mk' κ Y pd g none)) :
  wpS (model prog w) A E s (mergeAt' i) Q (SortSt.mk' κ X pend mg none):=by
 obtain ⟨L1,⟨sa,na,p⟩,⟨sb,nb,q⟩,L2,e,ei⟩:=IB (l:=pend.toList) (i:=i) (by rw [Array.length_toList]; exact CO)
 rw [e] at R
 obtain ⟨m,R1,a1,a2,a3,b1,b2,b3,R2⟩:=gO.mp R
 dsimp only at a1 a2 a3 b1 b2 b3 R2
 subst a1
 subst b1
 have l1:=R1.len
 have l2:=R2.len
 refine Bp C hS e ei a2 b2 (by lia) a3 b3 fun Y pd g y1 y2 y3 y4=>h Y pd g y1 (fun j hj=>y2 j (.inr (by lia))) ?_ ?_
 ·rw [<-Array.length_toList,<-Array.length_toList,e,y4]
  simp only [List.length_append,List.length_cons]
  lia
 ·rw [y4]
  exact gO.mpr ⟨sa,R1.to fun j h1 h2=>y2 j (.inl h2),rfl,by show 0<na+nb; lia,by show Up r Y sa (sa+(na+nb)); rw [<-Nat.add_assoc]; exact y3,by
   show Runs r Y L2 (sa+(na+nb)) hi
   rw [<-Nat.add_assoc]
   exact R2.to fun j h1 h2=>y2 j (.inr h1)⟩
theorem LP (C:yM prog w A s κ S r) {Q:Unit->SortSt->Prop} (hS:∀ x∈X,S x) (hd:Di r X) (h2:2<=X.size)
  (h:∀ Y pd g,Y.toList.Perm X.toList->Up r Y 0 X.size->Q () (SortSt.mk' κ Y pd g none)) :
  wpS (model prog w) A E s sortRuns' Q (SortSt.mk' κ X #[] mg none):=by
 unfold sortRuns'
 refine wpS_bind (wpS_get ?_)
 dsimp only
 refine wpS_bind (wpS_mono (wpS_forRange (I:=fun x z ar=>∃ lo Y pd g,z=(none,lo)/\ar=SortSt.mk' κ Y pd g none/\Y.toList.Perm X.toList/\Runs r Y pd.toList 0 lo/\x<=lo/\lo<=X.size)
  (Q:=fun z ar=>∃ Y pd g,z=(none,X.size)/\ar=SortSt.mk' κ Y pd g none/\Y.toList.Perm X.toList/\Runs r Y pd.toList 0 X.size) ?_ ?_ ⟨0,X,#[],mg,rfl,rfl,List.Perm.refl _,rfl,Nat.le_refl _,Nat.zero_le _⟩) ?_)
 ·rintro x z ar _ hx ⟨lo,Y,pd,g,rfl,e,pY,R,l1,l2⟩
  rw [e]
  dsimp only
  have zY:Y.size=X.size:=by rw [<-Array.length_toList,pY.length_eq,Array.length_toList]
  have sY:∀ x∈Y,S x:=fun x hx=>hS x (Array.mem_toList_iff.mp (pY.mem_iff.mp (Array.mem_toList_iff.mpr hx)))
  refine bP (fun q=>?_) fun q=>?_
  ·have:lo=X.size:=by lia
   subst this
   exact wpS_pure ⟨Y,pd,g,rfl,rfl,pY,R⟩
  refine wpS_bind (IA C (by lia) (by lia) sY (hd.to pY) fun n Y1 n1 n2 p1 b1 u1=>?_)
  dsimp only
  have Nk:∀ x∈Y1,S x:=fun x hx=>sY x (Array.mem_toList_iff.mp (p1.mem_iff.mp (Array.mem_toList_iff.mpr hx)))
  have Sv:Y1.size=X.size:=by rw [<-Array.length_toList,p1.length_eq,Array.length_toList,zY]
  have R1:Runs r Y1 pd.toList 0 lo:=R.to fun j _ h=>b1 j h
  replace p1:=p1.trans pY
  refine bP (fun c=>wpS_bind (wpS_lift (wpAny_rule ⟨rfl,wpS_bind (Pc C n1 (by lia) Nk u1 fun Y2 p2 b2 u2=>?_)⟩))) fun c=>?_
  have Sw:∀ x∈Y2,S x:=fun x hx=>Nk x (Array.mem_toList_iff.mp (p2.mem_iff.mp (Array.mem_toList_iff.mpr hx)))
  replace p2:=p2.trans p1
  have R2:Runs r Y2 pd.toList 0 lo:=R1.to fun j _ h=>b2 j h
  simp only [Bool.not_true,Bool.false_eq_true,if_false]
  have m0:0<min (X.size-lo) (minRun' X.size X.size 0)/\lo+min (X.size-lo) (minRun' X.size X.size 0)<=X.size:=by
   replace c:n<minRun' X.size X.size 0:=c
   lia
  rotate_left
  obtain ⟨Y2,e2⟩:∃ Y2,Y2=Y1:=⟨_,rfl⟩
  rw [<-e2] at R1 u1 p1 Nk Sv ⊢
  have R2:=R1
  have u2:=u1
  have p2:=p1
  have Sw:=Nk
  have m0:0<n/\lo+n<=X.size:=by lia
  all_goals
   refine wpS_bind (wpS_get ?_)
   dsimp only
   cases hb:pd.back? with
   | none=>
    refine wpS_bind (wpS_modify (wpS_pure ⟨_,Y2,_,_,rfl,rfl,p2,?_,?_,m0.2⟩))
    ·show Runs r Y2 (Array.push _ _).toList 0 _
     rw [Array.toList_push]
     exact gO.mpr ⟨lo,R2,rfl,m0.1,u2,rfl⟩
    ·exact Nat.le_trans (Nat.succ_le_succ l1) (Nat.add_le_add_left m0.1 lo)
   | some q=>
    obtain ⟨s1,n1,v⟩:=q
    dsimp only
    refine wpS_bind (wpS_mono (wpS_forRange (I:=fun _ z ar=>z=(none,())/\∃ Y pd g,ar=SortSt.mk' κ Y pd g none/\Y.toList.Perm X.toList/\(∀ j,lo<=j->Y[j]?=Y2[j]?)/\Runs r Y pd.toList 0 lo)
     (Q:=fun z ar=>z=(none,())/\∃ Y pd g,ar=SortSt.mk' κ Y pd g none/\Y.toList.Perm X.toList/\(∀ j,lo<=j->Y[j]?=Y2[j]?)/\Runs r Y pd.toList 0 lo) ?_ ?_ ⟨rfl,Y2,pd,g,rfl,p2,fun _ _=>rfl,R2⟩) ?_)
    ·rintro x z ar _ _ ⟨rfl,Y,pd,g,e,pY,bY,R⟩
     rw [e]
     have zY:Y.size=X.size:=by rw [<-Array.length_toList,pY.length_eq,Array.length_toList]
     refine wpS_bind (wpS_get ?_)
     dsimp only
     by_cases c2:pd.size>1
     ·rw [if_pos c2]
      obtain ⟨q,eq⟩:∃ q,pd[pd.size-2]?=some q:=⟨_,getElem?_pos pd _ (by lia)⟩
      rw [eq]
      obtain ⟨a1,a2,a3⟩:=q
      dsimp only
      refine bP (fun _=>wpS_pure ⟨rfl,Y,pd,g,rfl,pY,bY,R⟩) fun _=>?_
      refine wpS_bind (xu C (fun x hx=>hS x (Array.mem_toList_iff.mp (pY.mem_iff.mp (Array.mem_toList_iff.mpr hx)))) R (by lia) (by lia) fun Y3 Pd g3 y1 y2 y3 y4=>?_)
      exact wpS_pure ⟨rfl,Y3,Pd,g3,rfl,y1.trans pY,fun j hj=>(y2 j hj).trans (bY j hj),y4⟩
     ·rw [if_neg c2]
      exact wpS_pure ⟨rfl,Y,pd,g,rfl,pY,bY,R⟩
    ·exact fun _ _ h=>h
    ·rintro z ar ⟨rfl,Y,pd,g,e,pY,bY,R⟩
     rw [e]
     dsimp only
     refine wpS_bind (wpS_modify (wpS_bind (wpS_modify (wpS_pure ⟨_,Y,_,_,rfl,rfl,pY,?_,?_,m0.2⟩))))
     ·show Runs r Y (Array.push _ _).toList 0 _
      rw [Array.toList_push]
      exact gO.mpr ⟨lo,R.pw vH,rfl,m0.1,u2.to bY,rfl⟩
     ·exact Nat.le_trans (Nat.succ_le_succ l1) (Nat.add_le_add_left m0.1 lo)
 ·rintro z ar ⟨lo,Y,pd,g,rfl,e,pY,R,l1,l2⟩
  have:lo=X.size:=by lia
  subst this
  exact ⟨Y,pd,g,rfl,e,pY,R⟩
 ·rintro z ar ⟨Y,pd,g,rfl,e,pY,R⟩
  rw [e]
  dsimp only
  refine wpS_bind (wpS_mono (wpS_forRange (I:=fun x z ar=>z=(none,())/\∃ Y pd g,ar=SortSt.mk' κ Y pd g none/\Y.toList.Perm X.toList/\Runs r Y pd.toList 0 X.size/\(pd.size<=1\/pd.size+x<=X.size))
   (Q:=fun z ar=>z=(none,())/\∃ Y pd g,ar=SortSt.mk' κ Y pd g none/\Y.toList.Perm X.toList/\Runs r Y pd.toList 0 X.size/\pd.size<=1) ?_ ?_ ⟨rfl,Y,pd,g,rfl,pY,R,.inr (by have:=R.len; rw [Array.length_toList] at this; lia)⟩) ?_)
  ·rintro x z ar _ hx ⟨rfl,Y,pd,g,e,pY,R,l⟩
   rw [e]
   have zY:Y.size=X.size:=by rw [<-Array.length_toList,pY.length_eq,Array.length_toList]
   refine wpS_bind (wpS_get ?_)
   dsimp only
   refine bP (fun c=>wpS_pure ⟨rfl,Y,pd,g,rfl,pY,R,c⟩) fun c=>?_
   refine wpS_bind (xu C (fun x hx=>hS x (Array.mem_toList_iff.mp (pY.mem_iff.mp (Array.mem_toList_iff.mpr hx)))) R (by lia) ?_ fun Y3 Pd g3 y1 y2 y3 y4=>?_)
   ·have Sx:∀ {c:Prop} [Decidable c] {a b n:Nat},a+1<n->b+1<n->(if c then a else b)+1<n:=by
     intro c _ a b n h1 h2
     split <;> assumption
    exact Sx (by lia) (by lia)
   ·exact wpS_pure ⟨rfl,Y3,Pd,g3,rfl,y1.trans pY,y4,by lia⟩
  ·rintro z ar ⟨rfl,Y,pd,g,e,pY,R,l⟩
   exact ⟨rfl,Y,pd,g,e,pY,R,by lia⟩
  ·rintro z ar ⟨rfl,Y,pd,g,e,pY,R,l⟩
   rw [e]
   refine wpS_pure (h Y pd g pY ?_)
   obtain ⟨q,eq⟩:∃ q,pd.toList=[q]:=by
    match z:pd.toList with
    | []=>
     rw [z] at R
     replace R:0=X.size:=R
     lia
    | [q]=>exact ⟨q,rfl⟩
    | _::_::_=>rw [<-Array.length_toList,z] at l; simp at l
   rw [eq] at R
   obtain ⟨_,_,u,e2⟩:=R
   replace e2:0+q.2.1=X.size:=e2
   rw [e2] at u
   exact u
end
end TS
namespace SO
open PySem PySem.W PyProof.Rows
noncomputable def dG (xs:List (List Int)):Prop:=xs.Pairwise fun a b=>lexLt b a=true
section
variable {vs:List Value} {xs:List (List Int)}
theorem xw {α β:Type}:∀ {vs:List α} {xs:List β},vs.length=xs.length->vs.reverse.zip xs.reverse=(vs.zip xs).reverse
 | [],[],_=>rfl
 | v::vs,x::xs,h=>by
  have h':vs.length=xs.length:=Nat.succ.inj h
  rw [List.reverse_cons,List.reverse_cons,List.zip_cons_cons,List.reverse_cons,List.zip_append (by rw [List.length_reverse,List.length_reverse,h']),xw h']
  rfl
noncomputable def Rh:Value->Int
 | .int n _=>n
 | _=>0
noncomputable def keyOf (h:Heap):Value->List Int
 | .ref a=>match h.get? a with
  | some o=>match o.data with
   | .seq aD _=>aD.toList.map Rh
   | _=>[]
  | none=>[]
 | _=>[]
theorem IC {us:List Value} {ns:List Int} (h:IntsAre us ns):us.map Rh=ns:=by
 induction h with
 | nil=>rfl
 | cons n t _ ih=>rw [List.map_cons,ih]; rfl
theorem oC {h:Heap} {v:Value} {k:List Int} (t:ef h v k):keyOf h v=k:=by
 obtain ⟨_,a,o,aD,n,rfl,ho,_,hd,hi⟩:=t
 unfold keyOf
 dsimp only
 rw [ho]
 dsimp only
 rw [hd]
 exact IC hi
theorem Er {h:Heap} {vs:List Value} {xs:List (List Int)} (t:bO h vs xs):vs.map (keyOf h)=xs:=by
 induction t with
 | nil=>rfl
 | cons a _ ih=>rw [List.map_cons,ih,oC a]
noncomputable def rk (xs:List (List Int)) (k:List Int):Nat:=xs.countP fun z=>lexLt z k
theorem qp {α:Type} {p q:α->Bool}:∀ {l:List α} {x:α},x∈l->(∀ z,p z=true->q z=true)->q x=true->p x=false->l.countP p<l.countP q
 | y::l,x,m,h,hq,hp=>by
  have le:l.countP p<=l.countP q:=List.countP_mono_left fun z _=>h z
  rcases List.mem_cons.mp m with e | m
  ·subst e
   rw [List.countP_cons_of_neg (by rw [hp]; exact Bool.false_ne_true),List.countP_cons_of_pos hq]
   lia
  ·have ih:=qp m h hq hp
   by_cases c:p y=true
   ·rw [List.countP_cons_of_pos c,List.countP_cons_of_pos (h y c)]
    lia
   ·rw [List.countP_cons_of_neg c]
    by_cases d:q y=true
    ·rw [List.countP_cons_of_pos d]; lia
    ·rw [List.countP_cons_of_neg d]; exact ih
theorem xx {xs:List (List Int)} {a b:List Int} (ha:a∈xs) (h:lexLt a b=true):rk xs a<rk xs b:=
 qp ha (fun z hz=>kr hz h) h (eT a)
theorem Gb {xs:List (List Int)} {a b:List Int} (ha:a∈xs) (hb:b∈xs):decide (rk xs a<rk xs b)=lexLt a b:=by
 cases z:lexLt a b with
 | true=>exact decide_eq_true (xx ha z)
 | false=>
  refine decide_eq_false ?_
  by_cases e:a=b
  ·rw [e]; exact Nat.lt_irrefl _
  ·have:=xx hb (gN e z)
   lia
theorem Bq {xs:List (List Int)} (nd:xs.Nodup):(xs.map (rk xs)).Nodup:=by
 refine List.pairwise_map.mpr (List.Pairwise.imp_of_mem (fun {a b} ha hb ne=>?_) nd)
 intro e
 cases z:lexLt a b with
 | true=>have:=xx ha z; lia
 | false=>have:=xx hb (gN ne z); lia
end
section
variable {prog:Program} {w:World} {A:Around} {E:Value->Shared->Prop} {s:Shared} {vs:List Value} {xs:List (List Int)}
theorem Br {a:Addr} {n:Nat} {P:PySem.Fin->Shared->Prop} (ho:s.heap.get? a=some (seqObj "list" vs.toArray n)) (t:bO s.heap vs xs) (nd:xs.Nodup) (hz:vs.length<=sizeLine)
  (h:∀ zs:List (Value × List Int),zs.Perm (vs.zip xs)->dG (zs.map (·.2))->P (.done (.ret .none)) { s with heap:=sortedHeap s.heap a vs (zs.map (·.1)).toArray }) :
  wpAny (model prog w) A (Builtin.«list.sort» ⟨[.ref a],[(Str.ofString "reverse",.bool true)]⟩) P E s:=by
 rw [list_sort_rev]
 have ha:a<s.heap.objs.size:=Heap.lt_size ho
 have small:vs.toArray.size<=sizeLine:=by rw [List.size_toArray]; exact hz
 obtain ⟨h1,e1⟩:∃ h1,h1=s.heap.update a (Obj.mapSeq fun _=>(#[]:Array Value)):=⟨_,rfl⟩
 obtain ⟨c1,Ri⟩:∃ c,h1.get? a=some (seqObj "list" #[] c):=⟨_,by rw [e1]; exact get?_update_seq ho fun _ => #[]⟩
 obtain ⟨h6,e6⟩:∃ h6,h6=(h1.push (seqObj "tuple" vs.toArray 0)).push (seqObj "list" #[] 0):=⟨_,rfl⟩
 have Nl:h6.get? a=some (seqObj "list" #[] c1):=by rw [e6]; exact Heap.get?_push_of_some _ (Heap.get?_push_of_some _ Ri)
 have t6:bO h6 vs xs:=t.to fun b o hb hc=>by
  rw [e6,e1]
  refine Heap.get?_push_of_some _ (Heap.get?_push_of_some _ ?_)
  have ne:a≠b:=fun z=>by
   rw [<-z,ho] at hb
   cases hb
   exact absurd (Value.type.inj hc) (by decide)
  exact (Heap.get?_update_other _ _ ne).trans hb
 refine wpAny_bind (listItems_at ho rfl (wpAny_bind (listUpdate_at ho rfl ?_ small (Nat.zero_le _))))
 rw [<-e1]
 refine wpAny_bind (seqEpoch_at Ri rfl (wpAny_bind (wpAny_newTuple ?_ (by show vs.length<=_; exact hz))))
 refine wpAny_bind (wpAny_newList ?_ (Nat.zero_le _)); refine wpAny_holding ?_
 show wpAny (model prog w) A _ P E { s with heap:=(h1.push (seqObj "tuple" vs.toArray 0)).push (seqObj "list" #[] 0) }
 rw [<-e6]
 have ends:∀ zs:List (Value × List Int),zs.Perm (vs.zip xs)->dG (zs.map (·.2))->P (.done (.ret .none)) { s with heap:=h6.update a (Obj.mapSeq fun _=>(zs.map (·.1)).toArray) }:=by
  intro zs z1 z2
  have:=h zs z1 z2
  unfold sortedHeap at this
  rw [<-e1,<-e6] at this
  exact this
 dsimp only
 rw [if_pos rfl]
 refine wpAny_bind (wpAny_rule ?_)
 by_cases h2:vs.toArray.size<2
 ·rw [if_pos h2,if_pos h2]
  refine wpAny_bind (wpAny_pure ?_); rw [StateT.run_pure]; refine wpAny_bind (wpAny_pure ?_)
  dsimp only
  have Sy:(vs.zip xs).length<2:=by rw [List.length_zip,<-t.length,Nat.min_self]; rw [List.size_toArray] at h2; exact h2
  have out:(((vs.toArray.zip vs.toArray).reverse.map (·.2)).reverse)=((vs.zip xs).map (·.1)).toArray:=by
   rw [Array.map_reverse,Array.reverse_reverse]
   apply Array.toList_inj.mp
   rw [Array.toList_map,Array.toList_zip]
   show List.map _ (vs.zip vs)=List.map _ (vs.zip xs)
   rw [List.map_snd_zip (Nat.le_refl _),List.map_fst_zip (Nat.le_of_eq t.length)]
  refine wpAny_bind (seqEpoch_at Nl rfl (wpAny_bind (listUpdate_at Nl rfl ?_ (Nat.zero_le _) ?_)))
  ·show wpAny _ _ _ _ _ { s with heap:=h6.update a (Obj.mapSeq fun _=>(((vs.toArray.zip vs.toArray).reverse.map (·.2)).reverse)) }
   rw [out]
   simp only [bne_self_eq_false,Bool.false_eq_true,if_false]
   refine wpAny_pure (ends _ (List.Perm.refl _) ?_)
   unfold dG
   match (vs.zip xs),Sy with
   | [],_=>exact .nil
   | [_],_=>exact List.pairwise_singleton _ _
  ·show (((vs.toArray.zip vs.toArray).reverse.map (·.2)).reverse).size<=_
   rw [out,List.size_toArray,List.length_map]; lia
 ·rw [if_neg h2,if_neg h2]
  have l2:2<=vs.length:=by rw [List.size_toArray] at h2; lia
  obtain ⟨rs,er⟩:∃ rs,rs=vs.reverse:=⟨_,rfl⟩
  obtain ⟨ks,ek⟩:∃ ks,ks=xs.reverse:=⟨_,rfl⟩
  have Pe:bO h6 rs ks:=by rw [er,ek]; exact t6.rev
  have lr:rs.length=vs.length:=by rw [er,List.length_reverse]
  have lk:rs.length=ks.length:=Pe.length
  have SA:ks.Nodup:=by rw [ek]; exact (List.reverse_perm xs).nodup_iff.mpr nd
  refine wpAny_bind (Eo t6 (by lia) ?_)
  have pr:(vs.toArray.zip vs.toArray).reverse=rs.toArray.zip rs.toArray:=by
   have:=kat_pairs true (ks:=vs) (vs:=vs) rfl
   rw [if_pos rfl] at this
   rw [this,er]; rfl
  rw [pr]
  obtain ⟨X,eX⟩:∃ X,X=rs.toArray.zip rs.toArray:=⟨_,rfl⟩
  rw [<-eX]
  have xl:X.toList=rs.map fun v=>(v,v):=by
   rw [eX,Array.toList_zip]
   show rs.zip rs=_
   rw [List.zip_eq_zipWith,List.zipWith_self]
  have kk:rs.map (keyOf h6)=ks:=Er Pe
  have sX:∀ x∈X,∃ k,ef h6 x.1 k/\k∈ks:=fun x hx=>by
   rw [<-Array.mem_toList_iff,xl] at hx
   obtain ⟨v,hv,rfl⟩:=List.mem_map.mp hx
   obtain ⟨i,hi⟩:=List.getElem?_of_mem hv
   have li:i<rs.length:=(List.getElem?_eq_some_iff.mp hi).1
   have:=Pe.at_ i li
   rw [List.getD_eq_getElem?_getD,hi,List.getD_eq_getElem?_getD,List.getElem?_eq_getElem (by lia)] at this
   exact ⟨_,this,List.getElem_mem _⟩
  have C:TS.yM prog w A { s with heap:=h6 } (tuples' true) (fun x=>∃ k,ef h6 x.1 k/\k∈ks) fun x=>rk ks (keyOf h6 x.1):=by
   rintro x y Q ⟨k,tk,mk⟩ ⟨l,tl,ml⟩ q
   replace q:Q (decide (rk ks (keyOf h6 x.1)<rk ks (keyOf h6 y.1))) { s with heap:=h6 }:=q
   rw [oC tk,oC tl,Gb mk ml] at q
   exact LJ tk tl q
  have dX:TS.Di (fun x=>rk ks (keyOf h6 x.1)) X:=by
   unfold TS.Di
   rw [xl,List.map_map]
   have:rs.map ((fun x:Keyed=>rk ks (keyOf h6 x.1)) ∘ fun v=>(v,v))=ks.map (rk ks):=by
    rw [<-kk,List.map_map]; rfl
   rw [this]
   exact Bq SA
  have zX:X.size=rs.length:=by rw [<-Array.length_toList,xl,List.length_map]
  rw [if_pos (rfl:true=true)]
  refine wpAny_bind (wpAny_mono (TS.LP (Q:=fun _ ar=>∃ Y pd g,ar=SortSt.mk' (tuples' true) Y pd g none/\Y.toList.Perm X.toList/\TS.Up (fun x=>rk ks (keyOf h6 x.1)) Y 0 X.size) C sX dX (by lia) fun Y pd g y1 y2=>⟨Y,pd,g,rfl,y1,y2⟩) ?_ fun _ _ e=>e)
  rintro ⟨⟨⟩,ar⟩ s' ⟨rfl,Y,pd,g,rfl,y1,y2⟩
  dsimp only at y1 y2 ⊢
  have zY:Y.size=X.size:=by rw [<-Array.length_toList,y1.length_eq,Array.length_toList]
  obtain ⟨zs,ez⟩:∃ zs:List (Value × List Int),zs=(Y.toList.map fun x=>(x.2,keyOf h6 x.1)).reverse:=⟨_,rfl⟩
  have zp:zs.Perm (vs.zip xs):=by
   rw [ez]
   refine (List.reverse_perm _).trans ((y1.map _).trans ?_)
   rw [xl,List.map_map]
   have:rs.map ((fun x:Keyed=>(x.2,keyOf h6 x.1)) ∘ fun v=>(v,v))=rs.zip ks:=by
    rw [<-kk,List.zip_map_right,List.zip_eq_zipWith,List.zipWith_self,List.map_map]; rfl
   rw [this,er,ek,xw t.length]
   exact List.reverse_perm _
  have zf:dG (zs.map (·.2)):=by
   unfold dG
   rw [ez,List.map_reverse,List.pairwise_reverse,List.map_map,List.pairwise_map]
   have u:=y2.iM
   rw [<-zY,TS.dM] at u
   have d:=List.pairwise_map.mp (dX.to y1)
   refine List.Pairwise.imp_of_mem (fun {a b} ha hb q=>?_) (List.Pairwise.and u d)
   obtain ⟨k,tk,mk⟩:=sX a (Array.mem_toList_iff.mp (y1.mem_iff.mp ha))
   obtain ⟨l,tl,ml⟩:=sX b (Array.mem_toList_iff.mp (y1.mem_iff.mp hb))
   have q1:rk ks (keyOf h6 a.1)<=rk ks (keyOf h6 b.1):=q.1
   have q2:rk ks (keyOf h6 a.1)≠rk ks (keyOf h6 b.1):=q.2
   show lexLt (keyOf h6 a.1) (keyOf h6 b.1)=true
   rw [oC tk,oC tl] at q1 q2 ⊢
   rw [<-Gb mk ml]
   exact decide_eq_true (by lia)
  have out:(Y.map (·.2)).reverse=(zs.map (·.1)).toArray:=by
   apply Array.toList_inj.mp
   rw [Array.toList_reverse,Array.toList_map,ez,List.map_reverse,List.map_map]
   rfl
  have lz:zs.length<=sizeLine:=by
   have:=zp.length_eq
   rw [List.length_zip,<-t.length,Nat.min_self] at this
   lia
  refine wpAny_bind (seqEpoch_at Nl rfl (wpAny_bind (listUpdate_at Nl rfl ?_ (Nat.zero_le _) ?_)))
  ·rw [if_pos rfl,out]
   simp only [bne_self_eq_false,Bool.false_eq_true,if_false]
   exact wpAny_pure (ends zs zp zf)
  ·rw [if_pos rfl,out,List.size_toArray,List.length_map]; exact Nat.le_succ_of_le lz
theorem vI {d:Addr} {es:Array DictEntry} {ep:Nat} {Q:Value->Shared->Prop} (hh:A.handled=none) (lo:(d==sysModules)=false) (x:gM s.heap d es ep) (t:bO s.heap (es.toList.map (·.key)) xs) (nd:xs.Nodup) (hz:es.size<=sizeLine)
  (h:∀ (h':Heap) (tk:Nat) (l:Addr) (c:Nat) (zs:List (Value × List Int)),(∀ b o,s.heap.get? b=some o->h'.get? b=some o)->s.heap.objs.size<=l->zs.Perm ((es.toList.map (·.key)).zip xs)->dG (zs.map (·.2)) ->
   h'.get? l=some (seqObj "list" (zs.map (·.1)).toArray c)->Q (.ref l) { s with heap:=h',toks:=tk }) :
  wpAny (model prog w) A (call (.builtin "sorted") [.ref d] [(Str.ofString "reverse",.bool true)]) Q E s:=by
 refine call_function_entry_kw kind_sorted plain_sorted entry_sorted (args_sorted_rev _ _) ?_
 unfold Builtin.«sorted»; refine wpAny_bind (m:=checkCount "sorted" 1 1 _) (wpAny_pure ?_)
 have hn:es.size<=sizeLine:=hz
 obtain ⟨vs,ev⟩:∃ vs,vs=es.toList.map (·.key):=⟨_,rfl⟩
 have lv:vs.length=es.size:=by rw [ev,List.length_map,Array.length_toList]
 refine wpAny_bind (ud hh lo x hn fun h1 tk k0 k1=>?_)
 rw [<-ev] at t h ⊢
 refine wpAny_bind (wpAny_newList ?_ (by show vs.length<=_; lia))
 have gl:(h1.push (seqObj "list" vs.toArray 0)).get? h1.objs.size=some (seqObj "list" vs.toArray 0):=Heap.get?_push_size _ rfl
 show wpAny _ _ _ _ _ { s with heap:=h1.push (seqObj "list" vs.toArray 0),toks:=tk }
 refine wpAny_bind (wpAny_holding (wpAny_call_entry_kw slot_list_sort ⟨_,gl,rfl⟩ entry_list_sort (Br gl (t.to fun b o e _=>Heap.get?_push_of_some _ (k1 b o e)) nd (by lia) fun zs z1 z2=>⟨_,rfl,?_⟩) (args_list_sort_rev _ _)))
 obtain ⟨c,gc⟩:∃ c,(sortedHeap (h1.push (seqObj "list" vs.toArray 0)) h1.objs.size vs (zs.map (·.1)).toArray).get? h1.objs.size=some (seqObj "list" (zs.map (·.1)).toArray c):=
  ⟨_,by unfold sortedHeap; exact get?_update_seq (Heap.get?_push_of_some _ (Heap.get?_push_of_some _ (get?_update_seq gl fun _ => #[]))) fun _=>(zs.map (·.1)).toArray⟩
 refine wpAny_pure ⟨_,rfl,h _ tk h1.objs.size c zs (fun b o e=>?_) ?_ z1 z2 gc⟩
 ·have e1:=k1 b o e
  have ne:h1.objs.size≠b:=Nat.ne_of_gt (Heap.lt_size e1)
  unfold sortedHeap
  refine (Heap.get?_update_other _ _ ne).trans (Heap.get?_push_of_some _ (Heap.get?_push_of_some _ ((Heap.get?_update_other _ _ ne).trans (Heap.get?_push_of_some _ e1))))
 ·exact Nat.le_of_lt k0
end
end SO
namespace L2
open PySem PySem.Spec PyProof.Rows
noncomputable def Bs (X:Cx) (f:Value) (ks:List Str) (r:List V->List V->Hp->VK->Prop):Prop:=
 ∀ (pins:List (Addr × Obj)) (s:Shared) (σ:St) (H:Hp) (xs zs:List V) (us ws:List Value) (Q:VK),Inv X pins σ H s->Vals xs us->Vals zs ws->r xs zs H Q ->
  wpAny (model X.prog X.w) X.A (call f us (ks.zip ws)) (EP X pins σ Q) X.xe s
noncomputable def SD (r:List V->List V->Hp->VK->Prop) (t tk:TA):TE:=fun σ H Q=>t σ H fun vs H1=>tk σ H1 fun zs H2=>r vs zs H2 Q
section
variable {X:Cx} {id:String} {ks:List Str} {r:List V->List V->Hp->VK->Prop} {x:Str} {p pos:Pos} {e:Expr} {es:List Expr} {zU:List Keyword} {t tk:TA}
theorem yP (hc:Bs X (.builtin id) ks r) (hg:Gl X x) (hm:X.mg x=none) (hv:bootBuiltins x=some (.builtin id)) (ha:PA X (e::es) t) (SE:PK X zU tk)
  (SF:(backToKw pos (keywordEach zU X.env)).filterMap (·.1)=ks:=by rfl) (hn:x ≠ "__name__":=by decide) (j7:(x==("__debug__":Str))=false:=by decide)
  (he:backTo pos (starEach (e::es) X.env)=(false,eval e X.env)::backTo pos (starEach es X.env):=by rfl) (iF:(backTo pos (starEach (e::es) X.env)).any (·.1)=false:=by rfl)
  (Hh:(backToKw pos (keywordEach zU X.env)).all (·.1.isSome)=true:=by rfl) (G9:(backToKw pos (keywordEach zU X.env)).any (·.1.isNone)=false:=by rfl):PE X (.Call (.Name x p) (e::es) zU pos) (SD r t tk):=by
 intro pins s σ H Q I h
 refine wpAny_Call_Name_kw (kW I hg hm hv ?_ hn j7)
 refine callWith_kw (cT (ha pos pins s σ H _ I h) fun us s1 q1=>?_) he iF Hh G9
 obtain ⟨vs,H1,I1,r1,q1⟩:=q1
 refine cT (SE pos pins s1 σ H1 _ I1 q1) fun ws s2 q2=>?_
 obtain ⟨zs,H2,I2,r2,q2⟩:=q2
 rw [SF]
 exact hc pins s2 σ H2 vs zs us ws Q I2 r1 r2 q2
end
noncomputable def iK (k:List Int):List Key:=k.map Sum.inl
theorem LQ (k:List Int):(iK k).map kV=k.map V.int:=by
 unfold iK
 rw [List.map_map]
 rfl
theorem vJ {a b:List Int} (h:iK a=iK b):a=b:=by
 induction a generalizing b with
 | nil=>cases b with
  | nil=>rfl
  | cons=>cases h
 | cons x a ih=>cases b with
  | nil=>cases h
  | cons y b=>
   injection h with h1 h2
   injection h1 with h1
   rw [h1,ih h2]
noncomputable def ID (H:Hp) (v:V) (k:List Int):Prop:=∃ a,v=.ref a/\H a=some (.tup (k.map V.int))
noncomputable def Bt:List V->List V->Hp->VK->Prop:=fun xs zs H Q=>∃ (d:Addr) (az:List (List Key × V)) (ks:List (List Int)),xs=[.ref d]/\zs=[.bl true]/\H d=some (.dT az)/\az.map (·.1)=ks.map iK/\ks.length<=sizeLine/\(∀ k∈ks,k≠[]) /\
 ∀ (l:Addr) (vs:List V) (outs:List (List Int)),H l=none->outs.Perm ks->SO.dG outs->Paired (ID H) vs outs->Q (.ref l) (upd H l (.lst vs))
theorem i4 {xs:List Int} {us:List Value} (h:Vals (xs.map V.int) us):IntsAre us xs:=by
 induction xs generalizing us with
 | nil=>cases h; exact .nil
 | cons x xs ih=>
  cases h with
  | cons a b=>
   obtain ⟨t,rfl⟩:=a
   exact .cons x t (ih b)
section
variable {X:Cx}
theorem ui (hc:X.calm=true):Bs X (.builtin "sorted") ["reverse"] Bt:=by
 intro pins s σ H xs zs us ws Q I rx rz h
 obtain ⟨d,az,ks,rfl,rfl,hd,hk,Ui,vG,q⟩:=h
 obtain ⟨u,rfl,r1⟩:=vals1 rx
 obtain ⟨z,rfl,r2⟩:=vals1 rz
 cases r1
 cases r2
 obtain ⟨_,lo,xs,pr,o,es,ep,h1,h2,h3,h4,h5⟩:=(show bx X.prog X.w H s.heap d (.dT az) from I.bK d _ hd)
 -- xT Rj values and J9 SG hold
 have key:∀ {az:List (List Key × V)} {xs:List (List Key × Addr × Value)} {ks:List (List Int)},KT H az xs->az.map (·.1)=ks.map iK->(∀ k∈ks,k≠[]) ->
   SO.bO s.heap (xs.map fun x=>Value.ref x.2.1) ks/\xs.map (·.1)=ks.map iK/\∀ z∈(xs.map fun x=>Value.ref x.2.1).zip ks,∃ a,z.1=.ref a/\H a=some (.tup (z.2.map V.int)):=by
  intro az xs ks pr
  induction pr generalizing ks with
  | nil=>
   intro e _
   cases ks with
   | nil=>exact ⟨.nil,rfl,fun z m=>by cases m⟩
   | cons=>cases e
  | @cons p x ps ys a _ ih=>
   intro e ne
   cases ks with
   | nil=>cases e
   | cons k ks=>
    injection e with e1 e2
    replace e1:p.1=iK k:=e1
    obtain ⟨i1,i2,i3⟩:=ih e2 fun k m=>ne k (List.mem_cons_of_mem _ m)
    have ht:H x.2.1=some (.tup (k.map V.int)):=by rw [<-LQ,<-e1]; exact a.2.1
    obtain ⟨_,aD,rv,o,g1,g2,n,g3⟩:=(show bx X.prog X.w H s.heap x.2.1 (.tup (k.map V.int)) from I.bK _ _ ht)
    refine ⟨.cons ⟨ne k List.mem_cons_self,x.2.1,o,aD.toArray,n,rfl,g1,g2,g3,i4 rv⟩ i1,?_,fun z m=>?_⟩
    ·rw [List.map_cons,List.map_cons,i2,<-a.1,e1]
    ·rcases List.mem_cons.mp m with m | m
     ·rw [m]; exact ⟨_,rfl,ht⟩
     ·exact i3 z m
 obtain ⟨t,ek,hz⟩:=key pr hk vG
 have nd:ks.Nodup:=by
  rw [ek] at h5
  exact List.Pairwise.of_map iK (fun a b z e=>z (by rw [e])) h5
 have ev:es.toList.map (·.key)=xs.map fun x=>Value.ref x.2.1:=by rw [h4,List.map_map]; rfl
 have lv:es.size=ks.length:=by
  have:=congrArg List.length h4
  rw [Array.length_toList,List.length_map] at this
  have l2:=t.length
  rw [List.length_map] at l2
  lia
 have x:SO.gM s.heap d es ep:=⟨o,h1,h2.1,h3⟩
 refine SO.vI (I.ok.hd hc) lo x (by rw [ev]; exact t) nd (by lia) fun h' tk l c zs kp hl z1 z2 g=>?_
 rw [ev] at z1
 have all:∀ z∈zs,∃ a,z.1=.ref a/\H a=some (.tup (z.2.map V.int)):=fun z m=>hz z (z1.mem_iff.mp m)
 have mk:∀ {zs:List (Value × List Int)},(∀ z∈zs,∃ a,z.1=.ref a/\H a=some (.tup (z.2.map V.int)))->∃ vs,Vals vs (zs.map (·.1))/\Paired (ID H) vs (zs.map (·.2)):=by
  intro zs
  induction zs with
  | nil=>intro _; exact ⟨[],.nil,.nil⟩
  | cons z zs ih=>
   intro al
   obtain ⟨vs,v1,v2⟩:=ih fun y m=>al y (List.mem_cons_of_mem _ m)
   obtain ⟨a,e1,e2⟩:=al z List.mem_cons_self
   exact ⟨.ref a::vs,.cons e1 v1,.cons ⟨a,rfl,e2⟩ v2⟩
 obtain ⟨vs,v1,v2⟩:=mk all
 have op:(zs.map (·.2)).Perm ks:=by
  have:=z1.map (·.2)
  rwa [List.map_snd_zip (Nat.le_of_eq t.length.symm)] at this
 have lz:vs.length<=sizeLine:=by
  have e1:=v1.length
  have e2:=op.length_eq
  rw [List.length_map] at e1 e2
  lia
 exact ⟨.ref l,_,I.laid (t':=tk) kp hl (show bx X.prog X.w _ h' _ (.lst vs) from ⟨lz,_,c,v1,g⟩),rfl,q l vs _ (I.bK.fresh hl) op z2 v2⟩
end
end L2
namespace SO
open PySem PySem.W PyProof.Rows
section
variable {prog:Program} {w:World} {A:Around} {E:Value->Shared->Prop} {s:Shared}
theorem Es {a b:Addr} {oa ob:Obj} {us vs:Array Value} {n m:Nat} {xs ys:List Int} {P:PySem.Fin->Shared->Prop} (ha:s.heap.get? a=some oa) (SH:oa.cls=.type "tuple") (Pf:oa.data=.seq us n)
  (hb:s.heap.get? b=some ob) (Pg:ob.cls=.type "tuple") (j7:ob.data=.seq vs m) (ia:IntsAre us.toList xs) (ib:IntsAre vs.toList ys) (h:P (.done (.ret (.bool (!(lexLt xs ys))))) s) :
  wpAny (model prog w) A (Builtin.«tuple.__ge__» ⟨[.ref a,.ref b],[]⟩) P E s:=by
 show wpAny _ _ (isInstance (.ref b) (.type "tuple") >>= _) _ _ s
 refine wpAny_bind (wpAny_isInstance (T:="tuple") ⟨ob,hb,Pg⟩ isSubtype_tuple_tuple ?_)
 simp only [Bool.not_true,Bool.false_eq_true,if_false]
 refine wpAny_bind (wpAny_tupleItemsOf ha Pf (wpAny_bind (wpAny_tupleItemsOf hb j7 ?_)))
 refine wpAny_bind ?_
 refine wpAny_forIn_list _ (fun rest r s'=>r.1=none/\s'=s/\∃ x' y' sU pF,rest=List.zip sU pF/\IntsAre sU x'/\IntsAre pF y'/\lexLt x' y'=lexLt xs ys/\sU.length+vs.size=pF.length+us.size) _ ?_ ?_ _ _
  ⟨rfl,rfl,xs,ys,us.toList,vs.toList,rfl,ia,ib,rfl,by rw [Array.length_toList,Array.length_toList,Nat.add_comm]⟩
 ·rintro ⟨u,v⟩ rest r s' ⟨hr,rfl,x',y',sU,pF,hz,hx,hy,hl,hs⟩
  cases hx with
  | nil=>cases hz
  | @cons i t Lf x1 Lp=>
   cases hy with
   | nil=>cases hz
   | @cons j t2 Ph y1 Pj=>
    rw [List.zip_cons_cons] at hz
    injection hz with Pk Pl
    cases Pk
    refine wpAny_bind (wpAny_eqBool_int ?_)
    replace hl:(if i=j then lexLt x1 y1 else decide (i<j))=lexLt xs ys:=hl
    by_cases e:i=j
    ·rw [if_pos e] at hl
     rw [beq_iff_eq.mpr e]
     simp only [Bool.not_true,Bool.false_eq_true,if_false]
     refine wpAny_pure ⟨rfl,rfl,x1,y1,Lf,Ph,Pl,Lp,Pj,hl,?_⟩
     rw [List.length_cons,List.length_cons] at hs
     lia
    ·rw [if_neg e] at hl
     rw [beq_eq_false_iff_ne.mpr e]
     simp only [Bool.not_false,if_true]
     refine wpAny_bind (wpAny_rule ?_)
     have hb:Value.bool (decide (i ≥ j))=.bool (!(lexLt xs ys)):=by
      rw [<-hl]
      congr 1
      by_cases q:i<j
      ·rw [decide_eq_true q,decide_eq_false (by lia)]; rfl
      ·rw [decide_eq_false q,decide_eq_true (by lia)]; rfl
     refine wpAny_bind (show wpAny _ _ (richCompare .GtE (.int i t) (.int j t2)) _ _ _ from ge_int ?_)
     rw [hb]
     exact wpAny_bind (wpAny_pure (wpAny_pure (wpAny_pure h)))
 ·rintro ⟨r1,r2⟩ s' ⟨hr,rfl,x',y',sU,pF,hz,hx,hy,hl,hs⟩
  simp only at hr
  subst hr
  refine wpAny_pure ?_
  have hb:decide (us.size ≥ vs.size) = !(lexLt xs ys):=by
   rw [<-hl]
   cases hx with
   | nil=>
    cases hy with
    | nil=>rw [decide_eq_true (by simp at hs; lia)]; rfl
    | cons _ _ _=>rw [decide_eq_false (by rw [List.length_cons,List.length_nil] at hs; lia)]; rfl
   | cons _ _ _=>
    cases hy with
    | nil=>rw [decide_eq_true (by rw [List.length_cons,List.length_nil] at hs; lia)]; rfl
    | cons _ _ _=>cases hz
  show P (.done (.ret (.bool (decide (us.size ≥ vs.size))))) s'
  rw [hb]
  exact h
theorem IE {a b:Addr} {xs ys:List Int} {Q:Value->Shared->Prop} (hu:A.units<cLine) (h1:ef s.heap (.ref a) xs) (h2:ef s.heap (.ref b) ys) (h:Q (.bool (!(lexLt xs ys))) s) :
  wpAny (model prog w) A (compareOp .GtE (.ref a) (.ref b)) Q E s:=by
 obtain ⟨_,a',o,aD,n,ea,ho,hc,hd,hi⟩:=h1
 obtain ⟨_,b',o2,cY,n2,eb,ti,wH,hd2,CO⟩:=h2
 cases ea
 cases eb
 refine cmp_ofGtE (wpAny_richCompare_same_room (op:=.GtE) (T:="tuple") ⟨o,ho,hc⟩ ⟨o2,ti,wH⟩ PySem.F.slot_tuple_ge ?_ hu)
 refine wpAny_call_entry PySem.F.slot_tuple_ge ⟨o,ho,hc⟩ PySem.F.entry_tuple_ge (Es ho hc hd ti wH hd2 hi CO ?_) (PySem.F.args_tuple_ge_2 _ _)
 exact ⟨_,rfl,(fun e=>nomatch e),h⟩
end
section
variable {prog:Program} {w:World} {A:Around} {E:Value->Shared->Prop} {I l S:Addr} {us:List Value} {ns:List Int} {d:Value} {R:Result->Shared->Prop}
end
end SO
namespace MN
open PySem PySem.Spec L2
open PyProof.Rows hiding St kindOf
noncomputable def uj:List Key->Option (List Int)
 | []=>some []
 | .inl i::r=>(uj r).map (i :: ·)
 | .inr _::_=>none
noncomputable def kA:List (List Key)->Option (List (List Int))
 | []=>some []
 | k::r=>match uj k,kA r with
  | some a,some b=>some (a::b)
  | _,_=>none
theorem Et:∀ {k:List Key} {a:List Int},uj k=some a->k=iK a:=by
 intro k
 induction k with
 | nil=>intro a h; cases h; rfl
 | cons x r ih=>
  intro a h
  cases x with
  | inl i=>
   replace h:(uj r).map (i :: ·)=some a:=h
   cases z:uj r with
   | none=>rw [z] at h; cases h
   | some b=>
    rw [z] at h; cases h
    rw [ih z]; rfl
  | inr x=>cases h
theorem uk:∀ {l:List (List Key)} {ks:List (List Int)},kA l=some ks->l=ks.map iK:=by
 intro l
 induction l with
 | nil=>intro ks h; cases h; rfl
 | cons k r ih=>
  intro ks h
  unfold kA at h
  cases z1:uj k with
  | none=>rw [z1] at h; cases h
  | some a=>
   cases z2:kA r with
   | none=>rw [z1,z2] at h; cases h
   | some b=>
    rw [z1,z2] at h; cases h
    rw [Et z1,ih z2]; rfl
theorem Eu (a:List Int):uj (iK a)=some a:=by
 induction a with
 | nil=>rfl
 | cons x a ih=>show (uj (iK a)).map (x :: ·)=_; rw [ih]; rfl
theorem um (ks:List (List Int)):kA (ks.map iK)=some ks:=by
 induction ks with
 | nil=>rfl
 | cons k ks ih=>rw [List.map_cons]; unfold kA; rw [Eu,ih]
noncomputable def JJ (a b:List Int):Bool:=!(SO.lexLt a b)
noncomputable def iM (ks:List (List Int)):List (List Int):=ks.mergeSort JJ
theorem dN (ks:List (List Int)):(iM ks).Perm ks:=List.mergeSort_perm ks JJ
theorem jj {ks:List (List Int)} (nd:ks.Nodup):SO.dG (iM ks):=by
 have h1:(iM ks).Pairwise fun a b=>JJ a b=true:=by
  refine List.pairwise_mergeSort (fun a b c h1 h2=>?_) (fun a b=>?_) ks
  ·unfold JJ at h1 h2 ⊢
   rw [Bool.not_eq_true'] at h1 h2 ⊢
   by_cases e1:a=b
   ·rw [e1]; exact h2
   ·by_cases e2:b=c
    ·rw [<-e2]; exact h1
    ·exact SO.il (SO.kr (SO.gN e2 h2) (SO.gN e1 h1))
  ·unfold JJ
   cases z:SO.lexLt a b with
   | false=>rfl
   | true=>rw [SO.il z]; rfl
 have h2:(iM ks).Nodup:=(dN ks).nodup_iff.mpr nd
 refine List.Pairwise.imp (fun {a b} h=>?_) (h1.and h2)
 have z:SO.lexLt a b=false:=by
  have:=h.1
  unfold JJ at this
  rwa [Bool.not_eq_true'] at this
 exact SO.gN h.2 z
theorem bE {ks:List (List Int)} (h:SO.dG ks):ks.Nodup:=List.Pairwise.imp (fun {a b} h e=>by rw [e,SO.eT] at h; cases h) h
theorem uo {a b:List (List Int)} (p:a.Perm b) (fa:SO.dG a) (fb:SO.dG b):a=b:=
 List.Perm.eq_of_pairwise (fun x y _ _ h1 h2=>by rw [SO.il h1] at h2; cases h2) fa fb p
noncomputable def tupI (k:List Int):Val:=.tup (k.map .int)
noncomputable def Bu (d:Val) (st:ah):Res Val:=match d with
 | .loc n=>match st[n]? with
  | some (.dT az)=>match kA (az.map (·.1)) with
   | some ks=>if ks.length<=sizeLine/\ks.all (fun k => !k.isEmpty)=true then .ok (.loc st.length) (st++[.lst ((iM ks).map tupI)]) else .bad
   | none=>.bad
  | _=>.bad
 | _=>.bad
noncomputable def lF (m:ME):ME:=fun μ st=>(m μ st).bind Bu
theorem Ew {n:Nat} {st:ah} {az:List (List Key × Val)} {ks:List (List Int)} (h1:st[n]?=some (.dT az)) (h2:az.map (·.1)=ks.map iK) (h3:ks.length<=sizeLine) (h4:∀ k∈ks,k≠[]) :
  Bu (.loc n) st=.ok (.loc st.length) (st++[.lst ((iM ks).map tupI)]):=by
 unfold Bu
 dsimp only
 rw [h1]
 dsimp only
 rw [h2,um]
 dsimp only
 rw [if_pos ⟨h3,List.all_eq_true.mpr fun k m=>by
  cases k with
  | nil=>exact absurd rfl (h4 _ m)
  | cons=>rfl⟩]
theorem Bv {K:PySem.W.Frag} {ρ:List Addr} {H:Hp} {vs:List V} {ks:List (List Int)} (p:Paired (ID H) vs ks):aS K ρ H (ks.map tupI) vs:=by
 induction p with
 | nil=>exact aS.nil
 | cons a _ ih=>
  obtain ⟨b,rfl,hb⟩:=a
  exact aS.cons (Rl.nU hb (aS.ints _)) ih
section
variable {X:Cx} {E:XK} {x:Str} {p pos cp kp:Pos} {e:Expr} {md:ME} {j:Nat}
theorem Bw (hc:X.calm=true) (hg:Gl X x) (hm:X.mg x=none) (hv:bootBuiltins x=some (.builtin "sorted")) (ha:PE X e (tE X E md)) (hn:x ≠ "__name__":=by decide) (j7:(x==("__debug__":Str))=false:=by decide)
  (he:starEach [e] X.env=(false,eval e X.env)::starEach [] X.env:=by rfl):PE X (.Call (.Name x p) [e] [⟨some "reverse",.Constant (.bool true) j cp,kp⟩] pos) (tE X E (lF md)):=by
 refine PE.imp (yP (ui hc) hg hm hv (fE ha kY he) (Dj FA G6) (by rfl) hn j7 (by rw [he]; rfl) (by rw [he]; rfl) (by rfl) (by rfl)) ?_
 rintro σ H Q ⟨μ,ρ,st,rs,sr,h⟩
 refine go μ ρ st rs sr h fun d aV ρ1 H1 v e1 bW r1 h1=>?_
 show Bt [v] [.bl true] H1 Q
 cases d with
 | loc n=>
  obtain ⟨a,rfl,ha⟩:=r1.cZ
  unfold Bu at h1
  dsimp only at h1
  cases hn:aV[n]? with
  | none=>rw [hn] at h1; exact h1.elim
  | some c=>
   rw [hn] at h1
   cases c with
   | dT az=>
    obtain ⟨jq,hd,pr⟩:=bW.cell n _ a hn ha
    dsimp only at h1
    cases hk:kA (az.map (·.1)) with
    | none=>rw [hk] at h1; exact h1.elim
    | some ks=>
     rw [hk] at h1
     dsimp only at h1
     by_cases hz:ks.length<=sizeLine/\ks.all (fun k => !k.isEmpty)=true
     ·rw [if_pos hz] at h1
      refine ⟨a,jq,ks,rfl,rfl,hd,by rw [<-pr.1]; exact uk hk,hz.1,fun k m z=>?_,fun l vs outs hl op fo pv=>?_⟩
      ·have:=List.all_eq_true.mp hz.2 k m
       rw [z] at this; cases this
      ·have nd:ks.Nodup:=op.nodup_iff.mp (bE fo)
       have eo:outs=iM ks:=uo (op.trans (dN ks).symm) fo (jj nd)
       rw [eo] at pv
       obtain ⟨k1,k2,k3⟩:=gg bW (Bv pv) hl
       exact h1 _ _ _ k1 k2 k3
     ·rw [if_neg hz] at h1; exact h1.elim
   | _=>exact h1.elim
 | _=>exact h1.elim
end
noncomputable def gP:List Val->Option (List Int)
 | []=>some []
 | .int i::r=>(gP r).map (i :: ·)
 | _::_=>none
theorem lG:∀ {us:List Val} {a:List Int},gP us=some a->us=a.map Val.int:=by
 intro us
 induction us with
 | nil=>intro a h; cases h; rfl
 | cons u r ih=>
  intro a h
  cases u with
  | int i=>
   replace h:(gP r).map (i :: ·)=some a:=h
   cases z:gP r with
   | none=>rw [z] at h; cases h
   | some b=>rw [z] at h; cases h; rw [ih z]; rfl
  | _=>cases h
theorem kB (a:List Int):gP (a.map Val.int)=some a:=by
 induction a with
 | nil=>rfl
 | cons x a ih=>show (gP (a.map Val.int)).map (x :: ·)=_; rw [ih]; rfl
noncomputable def LR (us ws:List Val) (st:ah):Res Val:=match gP us,gP ws with
 | some a,some b=>if a≠[]/\b≠[] then .ok (.bl (!(SO.lexLt a b))) st else .bad
 | _,_=>.bad
noncomputable def IF:F2
 | .int i,.int j,st=>.ok (.bl (decide (j<=i))) st
 | .tup us,.tup ws,st=>LR us ws st
 | _,_,_=>.bad
theorem IG {a b:List Int} {st:ah} (ha:a≠[]) (hb:b≠[]):IF (.tup (a.map Val.int)) (.tup (b.map Val.int)) st=.ok (.bl (!(SO.lexLt a b))) st:=by
 show LR _ _ _=_
 unfold LR
 rw [kB,kB]
 exact if_pos ⟨ha,hb⟩
section
variable {X:Cx} {E:XK}
theorem aS.r_ {K:PySem.W.Frag} {ρ:List Addr} {H:Hp}:∀ {a:List Int} {vs:List V},aS K ρ H (a.map Val.int) vs->vs=a.map V.int:=by
 intro a
 induction a with
 | nil=>intro vs h; exact h.dJ
 | cons x a ih=>
  intro vs h
  obtain ⟨v,r,rfl,q1,q2⟩:=aS.bV h
  rw [Rl.cj q1,ih q2]; rfl
theorem IH (hu:X.A.units<cLine):c9 X (compareOp .GtE) (fun x y H Q=>∃ a b xs ys,x=.ref a/\y=.ref b/\xs≠[]/\ys≠[]/\ju X.K H a (xs.map V.int)/\ju X.K H b (ys.map V.int)/\Q (.bl (!(SO.lexLt xs ys))) H):=by
 intro pins s σ H x y v u Q I rx ry h
 obtain ⟨a,b,xs,ys,rfl,rfl,n1,n2,ha,hb,q⟩:=h
 cases rx
 cases ry
 obtain ⟨aD,r1,p1,_⟩:=I.tuple ha
 obtain ⟨cY,r2,p2,_⟩:=I.tuple hb
 obtain ⟨o,ho,hc,n,hd⟩:=id p1
 obtain ⟨o2,ti,wH,m,hd2⟩:=id p2
 exact SO.IE hu ⟨n1,a,o,aD.toArray,n,rfl,ho,hc,hd,i4 r1⟩ ⟨n2,b,o2,cY.toArray,m,rfl,ti,wH,hd2,i4 r2⟩ ⟨.bl _,H,I,rfl,q⟩
theorem II (hu:X.A.units+64<cLine):c9 X (compareOp .GtE) (rM (wo X) E IF):=by
 refine c9.imp (c9.or Kj (IH (by lia))) ?_
 rintro x y H Q ⟨ρ,st,u,w,sr,r1,r2,h⟩
 cases u with
 | int i=>
  cases w with
  | int j=>exact .inl ⟨i,j,r1.cj,r2.cj,cN sr h⟩
  | _=>exact h.elim
 | tup us=>
  cases w with
  | tup ws=>
   replace h:wR (wo X) E (Rl (wo X).K) ρ H Q (LR us ws st):=h
   unfold LR at h
   cases z1:gP us with
   | none=>rw [z1] at h; exact h.elim
   | some a=>
    cases z2:gP ws with
    | none=>rw [z1,z2] at h; exact h.elim
    | some b=>
     rw [z1,z2] at h
     dsimp only at h
     by_cases hz:a≠[]/\b≠[]
     ·rw [if_pos hz] at h
      rw [lG z1] at r1
      rw [lG z2] at r2
      obtain ⟨p,vs,rfl,hp,rp⟩:=r1.fe
      obtain ⟨p2,O8,rfl,CI,SI⟩:=r2.fe
      rw [aS.r_ rp] at hp
      rw [aS.r_ SI] at CI
      exact .inr ⟨p,p2,a,b,rfl,rfl,hz.1,hz.2,hp,CI,cN sr h⟩
     ·rw [if_neg hz] at h; exact h.elim
  | _=>exact h.elim
 | _=>exact h.elim
end
section
variable {X:Cx} {E:XK}
variable {x:Str} {p pos kp:Pos} {e ed:Expr} {m md:ME}
end
end MN
namespace PM
open PySem PySem.Spec L2 MN
open PyProof.Rows hiding St
noncomputable def aE:FN:=mU 2 4 (aI (aL 2 (mC (.int 0))) (aI (fL (bM (ag ltV (ae 1) (ak dZ (aa (ae 0) aj)))) (aL 2 (ag aZ (ae 0) (ae 1))) bh) (aI (aL 3 (ag bR (ag cw (ag cb (ag bR (ae 2) (mC (.int 2147483629))) (ag cw (mC (.int 7919)) (ag cb (ae 1) (mC (.int 1))))) (mC (.int 48271))) (mC (.int 2147483647)))) (aI (aL 3 (ag bR (ag cw (ag bR (ag cw (ae 3) (ae 3)) (mC (.int 2147483629))) (mC (.int 69621))) (mC (.int 2147483647)))) (aR (ag cb (ag cw (ag cb (ag cw (ag cL (ae 2) (mC (.int 2147483629))) (mC (.int 2147483647))) (ae 3)) (mC (.int 2147483629))) (ag bR (ag cw (ae 3) (ae 3)) (mC (.int 2147483629)))))))))
noncomputable def dw:FN:=mU 2 3 (aI (aL 2 (ag bR (ag cw (ag cb (ag cb (ag bR (ae 0) (mC (.int 1000000007))) (ag cw (mC (.int 7919)) (ae 1))) (mC (.int 11))) (mC (.int 48271))) (mC (.int 2147483647)))) (aR (ag bR (ag cw (ae 2) (ag cb (ag bR (ag cL (ae 2) (mC (.int 7))) (mC (.int 65536))) (mC (.int 3)))) (mC (.int 2147483647)))))
noncomputable def bw:FN:=mU 2 2 (aI (fL (bM (ag e9 (ae 1) (mC (.int 0)))) (aR (ag mV (ag bR (ae 0) (mC (.int 7))) (mC (.int 3)))) bh) (aI (fL (bM (ag e9 (ae 1) (mC (.int 1)))) (aR (ag mV (ag bR (ae 0) (mC (.int 199))) (mC (.int 99)))) bh) (aR (ag mV (ag bR (ag cw (ag cw (ae 0) (ae 0)) (mC (.int 69621))) (ag cb (ag cw (mC (.int 2)) (ag AA (mC (.int 10)) (mC (.int 20)))) (mC (.int 1)))) (ag AA (mC (.int 10)) (mC (.int 20)))))))
noncomputable def bT:FN:=mU 1 4 (aI (aL 1 rR) (aI (gJ (fA (ae 0)) (eu [(aName 2),(aName 3)]) (lu (ae 1) (ae 2) (ag cb (gA (ae 1) (ae 2) (mC (.int 0))) (ae 3)))) (aR (cD 1 [1] (fA (lF (ae 1))) (aName 0) (bM (ag iL (ag de (ae 1) (ae 0)) (mC (.int 0)))) (d8 (aa (ae 0) (aa (ag de (ae 1) (ae 0)) aj)))))))
noncomputable def cV:FN:=mU 2 5 (aI (fL (cQ (bM (AJ "list" (ae 0)))) (aR (mC (.bl false))) bh) (aI (aL 2 (mC .bD)) (aI (gJ (fA (ae 0)) (aName 3) (aI (fL (fw (cQ (bM (AJ "tuple" (ae 3)))) (fw (bM (ag iL (ak dZ (aa (ae 3) aj)) (mC (.int 2)))) (fw (cQ (bM (AJ "tuple" (ag aZ (ae 3) (mC (.int 0)))))) (bM (ag iL (ak dZ (aa (ag aZ (ae 3) (mC (.int 0))) aj)) (ae 1)))))) (aR (mC (.bl false))) bh) (aI (gJ (fA (ag aZ (ae 3) (mC (.int 0)))) (aName 4) (fL (fw (cQ (bM (ak PM.dY (aa (ae 4) aj)))) (bM (ag ltV (ae 4) (mC (.int 0))))) (aR (mC (.bl false))) bh)) (aI (fL (fw (cQ (bM (ak PM.dY (aa (ag aZ (ae 3) (mC (.int 1))) aj)))) (fw (bM (ag e9 (ag aZ (ae 3) (mC (.int 1))) (mC (.int 0)))) (kg (bM (ag (CM true) (ae 2) (mC .bD))) (bM (ag IF (ag aZ (ae 3) (mC (.int 0))) (ae 2)))))) (aR (mC (.bl false))) bh) (aL 2 (ag aZ (ae 3) (mC (.int 0)))))))) (aR (mC (.bl true))))))
end PM
namespace DL
open PySem
section
variable {prog:Program} {w:World} {A:Around} {E:Value->Shared->Prop} {s:Shared}
theorem Ex:typeLookup (.type "list") "keys" = pure none:=by
 rw [typeLookup_type,builtinLookup_eq_fast]
 kernel_rfl
theorem yQ {a:Addr} {o:Obj} {xs:Array Value} {k:Nat} {Q:Option Value->Shared->Prop} (hx:s.heap.get? a=some o) (hc:o.cls=.type "list") (pJ:o.data=.seq xs k) (hd:o.dict=none) (hA:A.handled=none)
  (h:∀ h' tk,(∀ b u,s.heap.get? b=some u->h'.get? b=some u)->Q none { s with heap:=h',toks:=tk }):wpAny (model prog w) A (getAttr? (.ref a) "keys") Q E s:=by
 obtain ⟨c,Uj,dat,sl⟩:=o
 simp only at hc pJ hd
 subst hc pJ hd
 obtain ⟨hp,g,d,tk,os⟩:=s
 have hT:∀ Nm,(⟨hp,g,d,Nm,os⟩:Shared).TypeIs (.ref a) "list":=fun _=>⟨_,hx,rfl⟩
 have q1:=sub_AttributeError
 have q3:=F.slot_list_getattribute.lookup
 have q4:=F.slot_list_getattribute.bind (.ref a)
 have q5:=am_list_getattr_none
 unfold getAttr? getAttrBy? getAttrBy
 repeat (any_goals (first | assumption | exact hT _ | ((with_reducible show wpAny _ _ (call (Value.builtin "list.__getattribute__") _ _) _ _ _); refine call_meets F.slot_list_getattribute (hT _) am_entry_list_getattribute (F.args_list_getattribute_2 _ _) (meets_getattribute_miss_list a xs k sl "keys" _ Ex (by decide) (by size_fits)) ⟨hx,hA,fun h' Nm e JI=>?_⟩) | wp_step))
 obtain ⟨t',u',he⟩:=JI.there
 show wpAny _ _ (getattributeRaised _ _ _ _ _ _ _) _ _ _
 unfold getattributeRaised
 repeat (any_goals (first | assumption | wp_step))
 exact h _ _ JI.keeps
noncomputable def lH {K:Type} [DecidableEq K] (knd:KeyKind prog w K) (h:Heap) (u:Value) (q:List K × Addr × Value):Prop:=
 ∃ a o aD n,u=.ref a/\h.get? a=some o/\o.cls=.type "tuple" /\ o.data=.seq aD n/\aD.toList=[.ref q.2.1,q.2.2]/\(tupleKind knd).is h q.1 q.2.1
noncomputable def Keeps (h h':Heap):Prop:=∀ b u,h.get? b=some u->h'.get? b=some u
variable {K:Type} [DecidableEq K] {knd:KeyKind prog w K}
theorem Bx {h h':Heap} {k:List K} {a:Addr} (x:(tupleKind knd).is h k a) (hk:Keeps h h'):(tupleKind knd).is h' k a:=by
 obtain ⟨o,aD,n,h1,r⟩:=x
 exact ⟨o,aD,n,hk _ _ h1,r⟩
theorem lH.mono {h h':Heap} {u:Value} {q:List K × Addr × Value} (x:lH knd h u q) (hk:Keeps h h'):lH knd h' u q:=by
 obtain ⟨a,o,aD,n,e,h1,h2,h3,h4,h5⟩:=x
 exact ⟨a,o,aD,n,e,hk _ _ h1,h2,h3,h4,Bx h5 hk⟩
noncomputable def putAll (qs:List (List K × Addr × Value)):List (List K × Addr × Value)->List (List K × Addr × Value):=fun xs=>qs.foldl (fun xs q=>storedH xs q.1 q.2.1 q.2.2) xs
theorem lI {h h':Heap} {d it:Addr} {xs:List (List K × Addr × Value)} (x:h.DictOfH (tupleKind knd) d xs) (hk:∀ b u,b≠it->h.get? b=some u->h'.get? b=some u) (hd:d≠it) (hi:∀ u,h.get? it=some u->u.cls≠.type "tuple"):h'.DictOfH (tupleKind knd) d xs:=by
 obtain ⟨o,es,ep,ho,a1,a2,a3,a4,a5⟩:=x
 refine ⟨o,es,ep,hk _ _ hd ho,a1,a2,a3,fun y hy=>?_,a5⟩
 obtain ⟨o,aD,n,h1,h2,r⟩:=a4 y hy
 exact ⟨o,aD,n,hk _ _ (fun z=>hi o (by rw [<-z]; exact h1) h2) h1,h2,r⟩
theorem vK (xs:List (List K × Addr × Value)) (q:List K × Addr × Value):(storedH xs q.1 q.2.1 q.2.2).length<=xs.length+1:=by
 unfold storedH
 split
 ·rw [List.length_map]; lia
 ·rw [List.length_append]; exact Nat.le_refl _
theorem oD:entryFor table "dict.update.loop" = some Builtin.«dict.update.loop»:=entryFor_of_tree (by kernel_rfl)
theorem ip:plainId "dict.update.loop" = true:=by decide +kernel
theorem LS {B:Heap} {l d it:Addr} {items:Array Value} {R:Result->Shared->Prop} (hh:A.in1.handled=none) (hu:A.in1.units<cLine) (hl:B.IsList l items) (hd:B.get? d=none) (hi:B.get? it=none) (Pm:d≠it):∀ (qs:List (List K × Addr × Value)) (j:Nat) (xs:List (List K × Addr × Value)) (s:Shared),j+qs.length=items.size->(∀ i q,qs[i]?=some q->∃ u,items[j+i]?=some u/\lH knd B u q)->Keeps B s.heap->s.heap.IsListIter it l j->s.heap.DictOfH (tupleKind knd) d xs->xs.length+qs.length<=sizeLine ->
  (∀ h' tk,Keeps B h'->h'.DictOfH (tupleKind knd) d (putAll qs xs)->R (.ok (.ret .none)) { s with heap:=h',toks:=tk }) ->
  codeAny (model prog w) A (.builtin "dict.update.loop" ⟨[.ref d,.ref it,rawInt (j:Int),.none],[]⟩) R s:=by
 have keep:∀ {h h':Heap} {x:Addr},Keeps B h->B.get? x=none->Heap.SameBut x h h'->Keeps B h':=fun hk hx hs b u e=>(hs.2 b (fun z=>by rw [z,hx] at e; cases e)).trans (hk b u e)
 intro qs
 induction qs with
 | nil=>
  intro j xs s hj hq hk hit Pn hz hR
  refine codeAny_builtin oD ?_
  rw [Around.under_plainId ip _]
  show wpAny _ A.in1 (pyNext (.ref it) >>= _) _ _ s
  obtain ⟨ol,Po,Pp⟩:=id hl
  refine wpAny_bind (wpAny_pyNext_list_end hh hit ⟨ol,hk _ _ Po,Pp⟩ (Array.getElem?_eq_none (by simp at hj; lia)) fun h' hx=>?_)
  refine wpAny_bind (wpAny_pure (wpAny_pure (hR h' s.toks (fun b u e=>hx b u (fun z=>by rw [z,hi] at e; cases e) (hk b u e)) ?_)))
  obtain ⟨oi,i1,i2,_⟩:=hit
  exact lI Pn hx Pm fun u e z=>by
   rw [i1] at e
   cases e
   rw [i2] at z
   exact absurd (Value.type.inj z) (by decide)
 | cons q qs ih=>
  intro j xs s hj hq hk hit Pn hz hR
  obtain ⟨u,SJ,hp⟩:=hq 0 q rfl
  refine codeAny_builtin oD ?_
  rw [Around.under_plainId ip _]
  show wpAny _ A.in1 (pyNext (.ref it) >>= _) _ _ s
  obtain ⟨ol,Po,Pp⟩:=id hl
  refine wpAny_bind (wpAny_pyNext_list_item hit ⟨ol,hk _ _ Po,Pp⟩ SJ fun h1 Pq cH=>?_)
  have k1:Keeps B h1:=keep hk hi cH
  obtain ⟨a,o,aD,n,rfl,g1,g2,g3,g4,g5⟩:=hp.mono k1
  have d1:h1.DictOfH (tupleKind knd) d xs:=lI Pn (fun b u hb e=>(cH.2 b hb).trans e) Pm fun u e z=>by
   obtain ⟨oi,i1,i2,_⟩:=hit
   rw [i1] at e
   cases e
   rw [i2] at z
   exact absurd (Value.type.inj z) (by decide)
  dsimp only
  refine wpAny_bind (wpAny_holding (wpAny_bind (wpAny_tryCatch ?_)))
  unfold Builtin.Dict.pairItems
  refine wpAny_bind (wpAny_typeOf (T:="tuple") ⟨o,g1,g2⟩ ?_)
  rw [if_pos (by decide)]
  refine wpAny_bind (wpAny_seqItems g1 g3 ?_)
  refine wpAny_pure ?_
  show wpAny _ _ (match aD.toList with | [k,v]=>_ | l=>_) _ _ _
  rw [g4]
  dsimp only
  refine wpAny_holding (wpAny_dictSet_heap (hsz:=by simp at hz; lia) hu g5 d1 fun h2 d2 dk=>?_)
  have k2:Keeps B h2:=keep k1 hd dk
  refine wpAny_pure ⟨plainId_quiet ip _,?_⟩
  have Pr:h2.IsListIter it l (j+1):=by
   obtain ⟨oi,i1,r⟩:=Pq
   exact ⟨oi,(dk.2 it (Ne.symm Pm)).trans i1,r⟩
  have:=ih (j+1) _ { s with heap:=h2,toks:=s.toks+(tupleKind knd).draws q.1 } (by simp at hj; lia) (fun i q' e=>by
   have:=hq (i+1) q' e
   rwa [show j+(i+1)=j+1+i by lia] at this) k2 Pr d2 (by have:=vK xs q; simp at hz; lia) fun h' tk a b=>hR h' tk a b
  exact this
theorem LU {l:Addr} {o:Obj} {items:Array Value} {n:Nat} {qs:List (List K × Addr × Value)} {Q:Value->Shared->Prop} (hh:A.handled=none) (hu:A.units+2<cLine) (ho:s.heap.get? l=some o) (hc:o.cls=.type "list") (pJ:o.data=.seq items n) (Pt:o.dict=none)
  (hq:∀ (i:Nat) q,qs[i]?=some q->∃ u,items[i]?=some u/\lH knd s.heap u q) (hlen:qs.length=items.size) (hz:qs.length<=sizeLine)
  (h:∀ h' tk,Keeps s.heap h'->h'.DictOfH (tupleKind knd) s.heap.objs.size (putAll qs [])->Q (.ref s.heap.objs.size) { s with heap:=h',toks:=tk }):wpAny (model prog w) A (call (.type "dict") [.ref l]) Q E s:=by
 refine callType_codes (Q₁:=fun obj s₁=>obj=.ref s.heap.objs.size/\s₁ = { s with heap:=s.heap.push { cls:=.type "dict",data:=.dict #[] } }) F.kt_called_dict (F.kt_typeCall_dict_1 _) F.entry_dict_init (kt_code_dict_new _ ⟨rfl,rfl⟩) ?_
 rintro obj s₁ ⟨rfl,rfl⟩
 obtain ⟨h0,e0⟩:∃ h0,h0=s.heap.push { cls:=.type "dict",data:=.dict #[] }:=⟨_,rfl⟩
 have new:h0.DictOfH (tupleKind knd) s.heap.objs.size []:=by rw [e0]; exact Heap.DictOfH.new s.heap
 have k0:Keeps s.heap h0:=fun b u e=>by rw [e0]; exact Heap.get?_push_of_some _ e
 have T:({ s with heap:=h0 }:Shared).TypeIs (.ref s.heap.objs.size) "dict":=Heap.DictOfH.typeIs (s:={ s with heap:=h0 }) new
 rw [<-e0]
 refine ⟨T,F.args_dict_init_2 _ _,?_⟩
 unfold Builtin.«dict.__init__»
 refine wpAny_bind ?_
 unfold Builtin.Dict.selfAndRest
 refine wpAny_bind (wpAny_notOrdered_dict T ?_)
 show wpAny _ _ (pure (s.heap.objs.size,[Value.ref l])) _ _ _
 refine wpAny_pure ?_
 show wpAny _ _ (Builtin.Dict.updateFrom "dict.__init__" s.heap.objs.size (.ref l) [] .none) _ _ _
 unfold Builtin.Dict.updateFrom
 refine wpAny_bind (wpAny_typeOf (T:="list") ⟨o,k0 _ _ ho,hc⟩ ?_)
 rw [if_pos (by decide)]
 refine wpAny_bind (yQ (s:={ s with heap:=h0 }) (k0 _ _ ho) hc pJ Pt hh fun h1 tk k1=>?_)
 rw [if_pos (show (none:Option Value).isNone=true from rfl)]
 refine wpAny_bind (wpAny_rule ?_)
 have hl:s.heap.IsList l items:=⟨o,ho,hc,n,pJ⟩
 have Pu:Keeps s.heap h1:=fun b u e=>k1 b u (k0 b u e)
 refine wpAny_bind (wpAny_pyIter_list (s:={ s with heap:=h1,toks:=tk }) (items:=items) ⟨o,Pu _ _ ho,hc,n,pJ⟩ ?_)
 have fresh:s.heap.get? h1.objs.size=none:=by
  cases z:s.heap.get? h1.objs.size with
  | none=>rfl
  | some u=>exact absurd (Heap.lt_size (Pu _ _ z)) (Nat.lt_irrefl _)
 have lt:s.heap.objs.size<h1.objs.size:=by
  obtain ⟨q,_,_,hq,_⟩:=new
  exact Heap.lt_size (k1 _ _ hq)
 refine wpAny_pure ⟨plainId_quiet ip _,?_⟩
 obtain ⟨h2,e2⟩:∃ h2,h2=h1.push { cls:=.type "list_iterator",data:=.fields #[.ref l,.int 0 0] }:=⟨_,rfl⟩
 have k2:∀ b u,h1.get? b=some u->h2.get? b=some u:=fun b u e=>by rw [e2]; exact Heap.get?_push_of_some _ e
 have n0:∀ u,h0.get? h1.objs.size=some u->u.cls≠.type "tuple":=fun u e=>absurd (Heap.lt_size (k1 _ _ e)) (Nat.lt_irrefl _)
 have:=LS (knd:=knd) (A:=A.in1) (B:=s.heap) (l:=l) (d:=s.heap.objs.size) (it:=h1.objs.size) (items:=items) (R:=wants (fun r s₂=>r=.none/\Q (.ref s.heap.objs.size) s₂) E) hh hu hl (Heap.get?_none_of_le (Nat.le_refl _)) fresh (Nat.ne_of_lt lt)
  qs 0 [] { s with heap:=h2,toks:=tk } (by lia) (fun i q e=>by rw [Nat.zero_add]; exact hq i q e) (fun b u e=>k2 b u (Pu b u e)) ⟨_,by rw [e2]; exact Heap.get?_push_size _ rfl,rfl,rfl⟩ (lI new (fun b u _ e=>k2 b u (k1 b u e)) (Nat.ne_of_lt lt) n0) (by simpa using hz) (fun h' Nm a b=>⟨rfl,h h' Nm a b⟩)
 rw [e2] at this
 exact this
end
end DL
namespace L2
open PySem PySem.Spec PyProof.Rows
noncomputable def Pw (H:Hp) (v:V) (q:List Key × V):Prop:=∃ b c,v=.ref b/\H b=some (.tup [.ref c,q.2])/\H c=some (.tup (q.1.map kV))
noncomputable def putL (jS az:List (List Key × V)):List (List Key × V):=jS.foldl (fun a q=>putK a q.1 q.2) az
noncomputable def IJ (K:PySem.W.Frag):List V->Hp->VK->Prop:=fun xs H Q=>∃ a vs jS,xs=[.ref a]/\kT K H a vs/\Paired (Pw H) vs jS/\∀ p,H p=none->Q (.ref p) (upd H p (.dT (putL jS [])))
theorem IK {H:Hp} {jS:List (List Key × V)} {qs:List (List Key × Addr × Value)} (h:KT H jS qs):∀ {az:List (List Key × V)} {xs:List (List Key × Addr × Value)},KT H az xs->KT H (putL jS az) (DL.putAll qs xs):=by
 induction h with
 | nil=>exact fun r=>r
 | @cons p q ps qs a _ ih=>
  intro az xs r
  have:=r.put p.1 a.2.1 a.2.2
  rw [a.1] at this
  exact ih (show KT H (putK az p.1 p.2) (storedH xs q.1 q.2.1 q.2.2) from by rw [a.1]; exact this)
theorem uq:∀ (jS az:List (List Key × V)),(putL jS az).length<=az.length+jS.length
 | [],az=>Nat.le_refl _
 | p::ps,az=>by
  have h1:=uq ps (putK az p.1 p.2)
  have h2:=iP az p.1 p.2
  show (putL ps (putK az p.1 p.2)).length<=_
  rw [List.length_cons]
  lia
theorem vL {X:Cx} (hh:X.A.handled=none) (hu:X.A.units+64<cLine):bt X (.type "dict") (IJ X.K):=by
 intro pins s σ H xs us Q I rx h
 obtain ⟨a,vs,jS,rfl,hs,pr,q⟩:=h
 obtain ⟨u,rfl,r1⟩:=vals1 rx
 cases r1
 obtain ⟨aD,rv,⟨o,n,ho,hc,Pt,pJ⟩,hz⟩:=I.list hs
 have key:∀ {vs:List V} {jS:List (List Key × V)} {aD:List Value},Paired (Pw H) vs jS->Vals vs aD->∃ qs:List (List Key × Addr × Value),qs.length=aD.length/\KT H jS qs/\∀ (i:Nat) q,qs[i]?=some q->∃ u,aD[i]?=some u/\DL.lH (cg X.prog X.w) s.heap u q:=by
  intro vs jS aD p
  induction p generalizing aD with
  | nil=>
   intro v
   cases v
   exact ⟨[],rfl,.nil,fun i q e=>by cases e⟩
  | @cons x y xs ys b _ ih=>
   intro v
   cases v with
   | cons v1 v2=>
    obtain ⟨qs,l,k,al⟩:=ih v2
    obtain ⟨b,c,rfl,hb,JX⟩:=b
    cases v1
    obtain ⟨_,Uk,Jx,o2,g1,g2,n2,g3⟩:=(show bx X.prog X.w H s.heap b (.tup [.ref c,y.2]) from I.bK b _ hb)
    obtain ⟨w1,w2,rfl,z1,z2⟩:=vals2 Jx
    cases z1
    refine ⟨(y.1,c,w2)::qs,by rw [List.length_cons,List.length_cons,l],.cons ⟨rfl,JX,z2⟩ k,fun i q e=>?_⟩
    cases i with
    | zero=>
     cases e
     exact ⟨_,rfl,b,o2,_,n2,rfl,g1,g2,g3,rfl,k9 I.bK JX⟩
    | succ i=>exact al i q e
 obtain ⟨qs,ql,kt,al⟩:=key pr rv
 have lv:vs.length=aD.length:=rv.length
 have lp:jS.length=qs.length:=Paired.length kt
 refine DL.LU (knd:=cg X.prog X.w) (qs:=qs) hh (by lia) ho hc pJ Pt (fun i q e=>?_) (by rw [ql,List.size_toArray]) (by lia) fun h' tk kp dd=>?_
 ·obtain ⟨u,e1,e2⟩:=al i q e
  exact ⟨u,by rw [List.getElem?_toArray]; exact e1,e2⟩
 ·have hp:H s.heap.objs.size=none:=I.bK.fresh (Nat.le_refl _)
  obtain ⟨ob,es,ep,b1,b2,b3,b4,_,b5⟩:=dd
  have hl:=uq jS []
  refine ⟨.ref s.heap.objs.size,_,I.laid (t':=tk) kp (Nat.le_refl _) (show bx X.prog X.w _ h' _ (.dT (putL jS [])) from ⟨by simp at hl; lia,beq_eq_false_iff_ne.mpr (Ne.symm (Nat.ne_of_lt I.big)),_,(IK kt .nil).keeps fun c ys ec=>?_,ob,es,ep,b1,b2,b3,b4,b5⟩),rfl,q _ hp⟩
  rw [aU (fun z=>by rw [z,hp] at ec; cases ec)]
  exact ec
end L2
namespace MN
open PySem PySem.Spec L2
open PyProof.Rows hiding St
noncomputable def yR:List Val->Option (List (List Key × Val))
 | []=>some []
 | .tup [k,v]::r=>match h_ k,yR r with
  | some q,some l=>some ((q,v)::l)
  | _,_=>none
 | _=>none
noncomputable def putAll (l:List (List Key × Val)) (a:List (List Key × Val)):List (List Key × Val):=l.foldl (fun a q=>rO a q.1 q.2) a
noncomputable def vM:FN
 | [.loc n],st=>match itemsOf st n with
  | some us=>match yR us with
   | some l=>.ok (.loc st.length) (st++[.dT (putAll l [])])
   | none=>.bad
  | none=>.bad
 | _,_=>.bad
section
variable {K:PySem.W.Frag} {ρ:List Addr} {H:Hp}
theorem xy:∀ {us:List Val} {vs:List V} {l:List (List Key × Val)},aS K ρ H us vs->yR us=some l->∃ jS,Paired (Pw H) vs jS/\eG K ρ H l jS
 | [],vs,l,r,h=>by
  cases h
  rw [r.dJ]
  exact ⟨[],.nil,eG.nil⟩
 | u::us,vs,l,r,h=>by
  obtain ⟨v,pF,rfl,r1,r2⟩:=r.bV
  unfold yR at h
  split at h
  ·rename_i e; cases e
  ·rename_i k x sU e
   cases e
   split at h
   ·rename_i q l' e1 e2
    cases h
    obtain ⟨jS,p1,p2⟩:=xy r2 e2
    obtain ⟨b,zs,rfl,hb,rb⟩:=r1.HD
    obtain ⟨z1,z2,rfl,rk,rx⟩:=rb.QY
    obtain ⟨c,rfl,hc⟩:=kh rk e1
    exact ⟨(q,z2)::jS,.cons ⟨b,c,rfl,hb,hc⟩ p1,eG.cons rx p2⟩
   ·cases h
  ·cases h
theorem xA:∀ {l:List (List Key × Val)} {jS:List (List Key × V)} {a:List (List Key × Val)} {b:List (List Key × V)},eG K ρ H l jS->eG K ρ H a b->eG K ρ H (putAll l a) (putL jS b)
 | [],jS,a,b,p,r=>by rw [p.dJ]; exact r
 | (k,u)::l,jS,a,b,p,r=>by
  obtain ⟨v,l',rfl,r',p'⟩:=p.bV
  show eG K ρ H (putAll l (rO a k u)) (putL l' (putK b k v))
  exact xA p' (r.put k r')
end
theorem yS {X:Cx} {E:XK} (hh:X.A.handled=none) (hu:X.A.units+64<cLine):bt X (.type "dict") (cM (wo X) E vM):=by
 refine bt.imp (vL hh hu) ?_
 rintro xs H Q ⟨ρ,st,us,sr,r,h⟩
 unfold vM at h
 split at h
 ·rename_i n
  obtain ⟨v,rfl,r1⟩:=r.tN
  obtain ⟨a,rfl,ha⟩:=r1.cZ
  split at h
  ·rename_i ws e
   split at h
   ·rename_i l hl
    obtain ⟨vs,hs,rv⟩:=bc sr e ha
    obtain ⟨jS,p1,p2⟩:=xy rv hl
    refine ⟨a,vs,jS,rfl,hs,p1,fun p hp=>?_⟩
    have s:=c_ (o:=.dT (putL jS [])) hp
    obtain ⟨k1,k2,k3⟩:=tY sr hp (c:=.dT (putAll l [])) ⟨_,bU,(xA p2 eG.nil).mono (Step.snoc p s)⟩
    exact h _ _ _ k1 k2 k3
   ·exact h.elim
  ·exact h.elim
 ·exact h.elim
end MN
namespace DL
open PySem PyProof.Rows
section
variable {prog:Program} {w:World} {A:Around} {E:Value->Shared->Prop} {s:Shared}
end
end DL
namespace L2
open PySem PySem.Spec PyProof.Rows
end L2
namespace MN
open PySem PySem.Spec L2
open PyProof.Rows hiding St
end MN
namespace PM
open PySem PySem.Spec L2 MN
open PyProof.Rows hiding St
end PM
namespace L2
open PySem PySem.Spec PyProof.Rows
section
variable {X:Cx}
end
end L2
namespace MN
open PySem PySem.Spec L2
open PyProof.Rows hiding St
section
variable {X:Cx} {E:XK}
end
end MN
namespace PM
open PySem PySem.Spec L2 MN
open PyProof.Rows hiding St
noncomputable def joined:FN:=mU 2 2 (aR (ak ff (aa (cD 2 [] (iH false false (aa (ae 0) (aa (ae 1) aj))) (eu [(aName 0),(aName 1)]) bz (ag cb (ae 0) (ae 1))) aj)))
end PM
namespace SO
open PySem PySem.W PyProof.Rows
section
variable {prog:Program} {w:World} {A:Around} {E:Value->Shared->Prop} {s:Shared}
theorem Ey {a b:Addr} {oa ob:Obj} {us vs:Array Value} {n m:Nat} {xs ys:List Int} {P:PySem.Fin->Shared->Prop} (ha:s.heap.get? a=some oa) (SH:oa.cls=.type "tuple") (Pf:oa.data=.seq us n)
  (hb:s.heap.get? b=some ob) (Pg:ob.cls=.type "tuple") (j7:ob.data=.seq vs m) (ia:IntsAre us.toList xs) (ib:IntsAre vs.toList ys) (h:P (.done (.ret (.bool (lexLt ys xs)))) s) :
  wpAny (model prog w) A (Builtin.«tuple.__gt__» ⟨[.ref a,.ref b],[]⟩) P E s:=by
 show wpAny _ _ (isInstance (.ref b) (.type "tuple") >>= _) _ _ s
 refine wpAny_bind (wpAny_isInstance (T:="tuple") ⟨ob,hb,Pg⟩ isSubtype_tuple_tuple ?_)
 simp only [Bool.not_true,Bool.false_eq_true,if_false]
 refine wpAny_bind (wpAny_tupleItemsOf ha Pf (wpAny_bind (wpAny_tupleItemsOf hb j7 ?_)))
 refine wpAny_bind ?_
 refine wpAny_forIn_list _ (fun rest r s'=>r.1=none/\s'=s/\∃ x' y' sU pF,rest=List.zip sU pF/\IntsAre sU x'/\IntsAre pF y'/\lexLt y' x'=lexLt ys xs/\sU.length+vs.size=pF.length+us.size) _ ?_ ?_ _ _
  ⟨rfl,rfl,xs,ys,us.toList,vs.toList,rfl,ia,ib,rfl,by rw [Array.length_toList,Array.length_toList,Nat.add_comm]⟩
 ·rintro ⟨u,v⟩ rest r s' ⟨hr,rfl,x',y',sU,pF,hz,hx,hy,hl,hs⟩
  cases hx with
  | nil=>cases hz
  | @cons i t Lf x1 Lp=>
   cases hy with
   | nil=>cases hz
   | @cons j t2 Ph y1 Pj=>
    rw [List.zip_cons_cons] at hz
    injection hz with Pk Pl
    cases Pk
    refine wpAny_bind (wpAny_eqBool_int ?_)
    replace hl:(if j=i then lexLt y1 x1 else decide (j<i))=lexLt ys xs:=hl
    by_cases e:i=j
    ·rw [if_pos e.symm] at hl
     rw [beq_iff_eq.mpr e]
     simp only [Bool.not_true,Bool.false_eq_true,if_false]
     refine wpAny_pure ⟨rfl,rfl,x1,y1,Lf,Ph,Pl,Lp,Pj,hl,?_⟩
     rw [List.length_cons,List.length_cons] at hs
     lia
    ·rw [if_neg fun z=>e z.symm] at hl
     rw [beq_eq_false_iff_ne.mpr e]
     simp only [Bool.not_false,if_true]
     refine wpAny_bind (wpAny_rule ?_)
     refine wpAny_bind (show wpAny _ _ (richCompare .Gt (.int i t) (.int j t2)) _ _ _ from gt_int ?_)
     rw [show decide (i>j)=lexLt ys xs from hl]
     exact wpAny_bind (wpAny_pure (wpAny_pure (wpAny_pure h)))
 ·rintro ⟨r1,r2⟩ s' ⟨hr,rfl,x',y',sU,pF,hz,hx,hy,hl,hs⟩
  simp only at hr
  subst hr
  refine wpAny_pure ?_
  have hb:decide (us.size>vs.size)=lexLt ys xs:=by
   rw [<-hl]
   cases hx with
   | nil=>
    cases hy with
    | nil=>rw [decide_eq_false (by simp at hs; lia)]; rfl
    | cons _ _ _=>rw [decide_eq_false (by rw [List.length_cons,List.length_nil] at hs; lia)]; rfl
   | cons _ _ _=>
    cases hy with
    | nil=>rw [decide_eq_true (by rw [List.length_cons,List.length_nil] at hs; lia)]; rfl
    | cons _ _ _=>cases hz
  show P (.done (.ret (.bool (decide (us.size>vs.size))))) s'
  rw [hb]
  exact h
theorem Ez {a b:Addr} {xs ys:List Int} {Q:Value->Shared->Prop} (hu:A.units<cLine) (h1:ef s.heap (.ref a) xs) (h2:ef s.heap (.ref b) ys) (h:Q (.bool (lexLt ys xs)) s) :
  wpAny (model prog w) A (richCompare .Gt (.ref a) (.ref b)) Q E s:=by
 obtain ⟨_,a',o,aD,n,ea,ho,hc,hd,hi⟩:=h1
 obtain ⟨_,b',o2,cY,n2,eb,ti,wH,hd2,CO⟩:=h2
 cases ea
 cases eb
 refine wpAny_richCompare_same_room (op:=.Gt) (T:="tuple") ⟨o,ho,hc⟩ ⟨o2,ti,wH⟩ PySem.F.slot_tuple_gt ?_ hu
 refine wpAny_call_entry PySem.F.slot_tuple_gt ⟨o,ho,hc⟩ PySem.F.entry_tuple_gt (Ey ho hc hd ti wH hd2 hi CO ?_) (PySem.F.args_tuple_gt_2 _ _)
 exact ⟨_,rfl,(fun e=>nomatch e),h⟩
end
end SO
namespace MN
open PySem PySem.Spec L2
open PyProof.Rows hiding St
section
variable {X:Cx} {E:XK}
end
end MN
namespace L2
open PySem PySem.Spec PyProof.Rows
section
variable {X:Cx} {L:mS} {pins:List (Addr × Obj)} {σ:St} {H:Hp} {s:Shared} {f c c':Addr} {i k:Nat} {y:Str} {v x:V} {u:Value} {Q:VK} {E:Value->Shared->Prop}
end
section
variable {X:Cx} {L:mS} {c:Addr} {i k:Nat} {y x:Str} {p pos kp:Pos} {e ek:Expr} {t te:TE}
end
end L2
namespace MN
open PySem PySem.Spec L2
open PyProof.Rows hiding St
open Classical in
section
variable {X:Cx} {E:XK} {L:mS} {k:Nat} {mb:ME} {f c c':Addr} {Q:VK}
end
section
variable {X:Cx} {E:XK} {pos p lp kp:Pos} {e:Expr} {m mb:ME} {x y:Str} {L:Eh} {k:Nat} {c cd T:Addr}
end
end MN
namespace HT
open PySem PySem.Spec PyProof.Rows
section
variable {prog:Program} {w:World} {A:Around} {E:Value->Shared->Prop} {s:Shared}
end
end HT
namespace L2
open PySem PySem.Spec PyProof.Rows
section
variable {X:Cx} {e es:Expr} {te:TE} {pos p2:Pos}
end
end L2
namespace MN
open PySem PySem.Spec L2
open PyProof.Rows hiding St
section
variable {X:Cx} {E:XK} {pos p2 q1 q2:Pos} {e:Expr} {m:ME}
end
end MN
namespace SO
open PySem PySem.W PyProof.Rows
section
variable {prog:Program} {w:World} {A:Around} {E:Value->Shared->Prop} {s:Shared} {t:Addr} {us:List Value} {ns:List Int}
end
end SO
namespace L2
open PySem PySem.Spec PyProof.Rows
end L2
namespace MN
open PySem PySem.Spec L2
open PyProof.Rows hiding St
section
variable {X:Cx} {E:XK}
end
section
variable {K:PySem.W.Frag} {ρ:List Addr} {H:Hp}
end
section
variable {X:Cx} {E:XK}
end
end MN
namespace PM
open PySem PySem.Spec L2 MN
open PyProof.Rows hiding St
noncomputable def dS:FN:=mU 2 2 (aR (ak yx (aa (cD 2 [] (iH false false (aa (ae 0) (aa (ae 1) aj))) (eu [(aName 0),(aName 1)]) bz (ag M9 (ae 0) (ae 1))) aj)))
noncomputable def gn:FN:=mU 2 2 (aR (ak ff (aa (cD 2 [] (iH false false (aa (ae 0) (aa (ae 1) aj))) (eu [(aName 0),(aName 1)]) bz (ag mV (ae 0) (ae 1))) aj)))
end PM
namespace L2
open PySem PySem.Spec PyProof.Rows
structure fT (k:Nat) (A:Around):Prop where
 dp:A.depth+3*k+5<recursionLimit
 un:A.units+16*k+200<cLine
theorem fT.room {k:Nat} {A:Around} (r:fT k A):eM k { A with handled:=none }:=⟨rfl,r.dp,r.un⟩
theorem fT.mono {j k:Nat} {A:Around} (r:fT k A) (h:j<=k):fT j A:=⟨by have:=r.dp; lia,by have:=r.un; lia⟩
theorem fT.units {k:Nat} {A:Around} (r:fT k A):A.units+64<cLine:=by have:=r.un; lia
theorem fT.mark {k:Nat} {A:Around} (r:eM k A) (v:Option Value):fT k (A.mark v):=⟨r.dp,r.un⟩
structure LV (ea:Addr) (oe:Obj) (outer:List Env) (H:Hp) (s:Shared):Prop where
 get:s.heap.get? ea=some oe
 no:H ea=none
 out:ea ∉ fK outer
 dat:∀ v,oe.data≠.cell v
noncomputable def JK (CX:uU) (P:Program) (w:World) (K:PySem.W.Frag) (mg:Str->Option Value) (base:Heap) (N:List Str) (qual:Str) (scope:Scope) (f:Addr) (cd:Value) (A:Around) (outer:List Env) (s:Shared) (H:Hp) (E:XK) (ea:Addr) (oe:Obj):Cx:=
 { gU CX P w K mg base N qual scope f cd A outer s H E with calm:=false,pn:=[(ea,oe)] }
theorem IL {CX:uU} {P:Program} {w:World} {K:PySem.W.Frag} {mg:Str->Option Value} {base:Heap} {k:Nat} {f:Addr} {name qual:Str} {params:Arguments} {body:List Stmt} {scope:Scope} {dV kV doc pm cU ct oc:Value} {an od:Option Addr}
  {yc:Array (Option Value)} {N ps:List Str} (lk:K.lookup f=some ⟨oc,od,.func (PySem.W.fnOf name qual params body scope dV kV doc pm an cU ct),yc⟩) (nE:PySem.W.codeIn K cU qual=true) (S:bg N ps scope)
  {A:Around} {outer:List Env} {s:Shared} {H:Hp} {args:Args} {us:List Value} {vs:List V} {Q:VK} {E:XK} {ea:Addr} {oe:Obj} (hr:fT (k+1) A) (e0:u_ P w K mg base A outer s H) (hb:BindsTo s (PySem.W.fnOf name qual params body scope dV kV doc pm an cU ct) args (ps.zip us)) (r:Vals vs us) (hl:vs.length=ps.length) (hx:LV ea oe outer H s)
  (tf:∃ t,jZ (JK CX P w K mg base N qual scope f cU A outer s H E ea oe) body t/\t { nx:=fun _ H'=>Q .bD H',rt:=Q } (start N vs) H) :
  codeAny (model P w) A (.call (.ref f) args) (CR CX outer P w H s Q E) s:=by
 have KX:K.In s.heap:=e0.mod.Fu.keeps fun b o e=>(e0.bs b o e).1
 have lim:s.heap.NoLimit:=e0.mod.nolimit.keeps fun b o e=>(e0.bs b o e).1
 have zV:∀ y∈ps.zip us,scope.names.lookup y.1=some .local\/(scope.names.lookup y.1=some .cell/\((cellsFrom (s.heap.objs.size+1) scope.names []).lookup y.1).isSome=true):=fun ⟨n,v⟩ hy=>by
  rcases S.par n (List.of_mem_zip hy).1 with q | q
  ·exact .inl q
  ·exact .inr ⟨q,PySem.W.cellsFrom_some _ _ _ (.inl q)⟩
 refine codeAny_call_function (A:=A) (show _ from hr.room.depth) (KX _ _ lk) rfl S.co S.gen rfl (PySem.W.codeRec_of KX nE) (hb _ _ _ _ ?_)
 refine wpAny_newFunctionEnv_cells S.kind zV fun env he s1 x=>?_
 subst he
 refine ⟨lim.keeps x.toInCall.keep,codeAny_func ?_⟩
 obtain ⟨t,ht,hq⟩:=tf
 have e1:u_ P w K mg base { A with handled:=none } outer s H:=⟨e0.frames,e0.mod,e0.bs,e0.CC,e0.iN,e0.zB,e0.bK,e0.bare⟩
 have I0:Inv (gU CX P w K mg base N qual scope f cU { A with handled:=none } outer s H E) [] (start N vs) H s1:=p8 S rfl e1 hl r x
 have I:Inv (JK CX P w K mg base N qual scope f cU A outer s H E ea oe) [] (start N vs) H s1:=by
  refine ⟨⟨I0.ok.mod,I0.ok.kind,I0.ok.glob,I0.ok.blt,I0.ok.above,I0.ok.inj,I0.ok.has,I0.ok.Fv,fun h=>(by cases h),I0.ok.frames,I0.ok.CB,I0.ok.ML,I0.ok.bs,I0.ok.CC,I0.ok.sZ,I0.ok.xX,I0.ok.iN,I0.ok.zB⟩,I0.os,I0.bare,I0.base,I0.loc,I0.cell,I0.free,I0.fN,fun p hp=>?_,I0.bK,I0.len⟩
  have SK:p=(ea,oe):=by simpa [JK] using hp
  subst SK
  refine ⟨x.toInCall.keep _ _ hx.get,hx.no,?_,hx.out,hx.dat⟩
  exact Nat.ne_of_lt (Heap.lt_size hx.get)
 refine wpAny_mono (ht [] s1 (start N vs) H _ I hq) (fun fl s' hs=>?_) fun e s' hs=>hs
 have fin:∀ {σ':St} {H':Hp} {v:V} {u:Value},Inv (JK CX P w K mg base N qual scope f cU A outer s H E ea oe) [] σ' H' s'->RelV v u->Q v H'->CE outer P w H s Q u s':=
  fun {σ' H' v u} J rv q=>⟨v,H',J.os,J.bare,J.base,J.bK,rv,q⟩
 cases fl with
 | ret u=>
  obtain ⟨v,σ',H',J,rv,q⟩:=hs
  exact fin J rv q
 | next=>
  obtain ⟨σ',H',J,q⟩:=hs
  exact fin (v:=V.bD) (u:=Value.none) J rfl q
 | brk=>
  obtain ⟨_,_,_,q⟩:=hs
  exact False.elim q
 | cont=>
  obtain ⟨_,_,_,q⟩:=hs
  exact False.elim q
end L2
namespace MN
open PySem PySem.Spec L2
open PyProof.Rows hiding St
noncomputable def qq (P:Program) (w:World) (K:PySem.W.Frag) (mg:Str->Option Value) (base:Heap) (x:Str) (k:Nat) (F:Str->ah->Res Val):Prop:=
 ∃ (fa:Addr) (fd:FuncData) (ps:List Str),mg x=some (.ref fa)/\PySem.W.keepIn K (.ref fa)=true/\Binds K fd ps []/\ps.length=1 /\
  ∀ (A:Around) (outer:List PySem.Env) (s:Shared) (H:Hp) (ea:Addr) (oe:Obj) (C:Addr) (c:Str) (Q:VK) (args:Args),fT k A->u_ P w K mg base A outer s H->BindsTo s fd args (ps.zip [.ref ea])->LV ea oe outer H s->mg c=some (.ref C)->oe.cls=.ref C ->
   (∃ ρ st,SR K ρ st H/\wR ⟨K,mg,[]⟩ E0 (Rl K) ρ H Q (F c st))->codeAny (model P w) A (.call (.ref fa) args) (CR (k_ P w) outer P w H s Q E0) s
noncomputable def Px (n:Nat) (body:MB):Str->ah->Res Val:=fun c st=>(body (some (.exc c)::List.replicate n none) st).fin
section
variable {P:Program} {w:World} {K:PySem.W.Frag} {mg:Str->Option Value} {base:Heap}
theorem qq.mk {x p:Str} {st:Stmt} {f:Addr} {fd:FuncData} {N:List Str} {k:Nat} {body:MB} (F:j_ K x x st f fd) (hm:mg x=some (.ref f)) (S:bg (p::N) [p] (aC st))
  (hb:∀ (kV doc pm:Value) (an:Option Addr) (cU ct:Value) (us:List Value),us.length=1->bindArgs (PySem.W.fnOf x x (fF st) (dj st) (aC st) .none kV doc pm an cU ct) ⟨us,[]⟩=pure ([p].zip us))
  (h:∀ (cU:Value) (A:Around) (outer:List PySem.Env) (s:Shared) (H:Hp) (ea:Addr) (oe:Obj),fT k (A.deeper (envOfC x (aC st) s.heap.objs.size f cU)) ->
   jZ (JK (k_ P w) P w K mg base (p::N) x (aC st) f cU A outer s H E0 ea oe) (dj st) (tS (JK (k_ P w) P w K mg base (p::N) x (aC st) f cU A outer s H E0 ea oe) E0 body)) :
  qq P w K mg base x (k+1) (Px N.length body):=by
 refine ⟨f,fd,[p],hm,F.kp,F.binds hb,rfl,fun A outer s H ea oe C c Q args hr e0 SM hx hc zH q=>?_⟩
 obtain ⟨ρ,ar,sr,q⟩:=q
 obtain ⟨oc,od,kV,doc,pm,an,cU,ct,yc,rfl,lk,nE⟩:=F.ex
 have SN:fT k (A.deeper (envOfC x (aC st) s.heap.objs.size f cU)):=by
  have:=(hr.room).deeper (envOfC x (aC st) s.heap.objs.size f cU)
  exact ⟨this.dp,this.un⟩
 refine IL (vs:=[V.ref ea]) (E:=E0) lk nE S hr e0 SM (.cons rfl .nil) rfl hx ⟨_,h cU A outer s H ea oe SN,some (.exc c)::List.replicate N.length none,ρ,ar,?_,sr,?_⟩
 ·refine ⟨by simp [L2.start],fun i u e=>?_⟩
  cases i with
  | zero=>
   cases e
   exact ⟨.ref ea,rfl,ea,oe,C,rfl,List.mem_singleton.mpr rfl,hc,zH⟩
  | succ i=>
   rw [List.getElem?_cons_succ,List.getElem?_replicate] at e
   split at e <;> cases e
 ·unfold Px at q
  revert q
  cases body (some (.exc c)::List.replicate N.length none) ar with
  | nx μ cJ=>exact fun q ρ' H' σ' e s _=>q ρ' H' .bD e s Rl.tO
  | rt v cJ=>exact fun q=>q
  | er c μ cJ=>exact fun q=>q
  | bk μ cJ=>exact fun q=>q.elim
  | ct μ cJ=>exact fun q=>q.elim
  | bad=>exact fun q=>q.elim
end
noncomputable def gE (i:Nat) (F:Str->ah->Res Val):ME:=fun μ st=>match μ[i]? with
 | some (some (.exc c))=>Lq (F c st)
 | _=>.bad
section
variable {X:Cx} {E:XK} {pos p q1:Pos} {x n:Str} {k j:Nat} {F:Str->ah->Res Val}
theorem By (i:Nat) (G:qq X.prog X.w X.K X.mg X.base x k F) (hr:fT k X.A) (hg:Gl X x) (hN:X.N[i]?=some n:=by rfl) (hv:CZ X.env.scope n:=by first | exact Or.inl rfl | exact Or.inr (Or.inl rfl)) (hd:(n==("__debug__":Str))=false:=by decide) (nE:(n==("__classdict__":Str))=false:=by decide) (j7:(x==("__debug__":Str))=false:=by decide)
  (he:starEach [.Name n q1] X.env=(false,eval (.Name n q1) X.env)::starEach [] X.env:=by rfl) (iF:(backTo pos (starEach [] X.env)).any (·.1)=false:=by rfl) :
  PE X (.Call (.Name x p) [.Name n q1] [] pos) (tE X E (gE i F)):=by
 obtain ⟨fa,fd,ps,hm,hk,hb,SQ,run⟩:=G
 intro pins s σ H Q I h
 obtain ⟨μ,ρ,st,rs,sr,h⟩:=h
 unfold gE at h
 split at h
 ·rename_i c hμ
  obtain ⟨v,hσ,ea,oe,C,rfl,JC,SS,zH⟩:=rs.at_ i _ hμ
  have pin:=I.pin (ea,oe) (List.mem_append_left _ JC)
  refine wpAny_Call_Name_kw (jb I hg hm ?_ j7)
  refine PySem.W.callWith_K (h₀:=X.base) I.ok.mod.Fu hk (cT ((fE (qU hN hv hd nE) kY he) pos pins s σ H (fun vs H1=>vs=[.ref ea]/\H1=H) I ⟨_,hσ,rfl,rfl⟩) fun us s1 ⟨vs,H1,I1,r,e1,e2⟩=>⟨I1.lY,?_⟩) he iF
  subst e1 e2
  obtain ⟨u,rfl,ru⟩:=vals1 r
  cases ru
  have Bz:=I1.pin (ea,oe) (List.mem_append_left _ JC)
  have Nn:=hb s1 [.ref ea] I1.lY (by rw [List.append_nil,SQ]; rfl)
  rw [List.append_nil] at Nn
  refine wpAny_call (codeAny_mono (run X.A X.stack s1 H1 ea oe C c Q ⟨[.ref ea],[]⟩ hr I1.G4 Nn ⟨Bz.1,Bz.2.1,fun hb=>(List.mem_cons.mp (I1.kU ea hb)).elim Bz.2.2.1 Bz.2.2.2.1,Bz.2.2.2.2⟩ SS zH ⟨ρ,st,sr,?_⟩) fun r s' hq=>?_)
  ·revert h
   cases F c st with
   | ok y cJ=>exact fun h=>h
   | err c cJ=>exact fun h=>h.elim
   | bad=>exact fun h=>h.elim
  ·cases r with
   | error e=>obtain ⟨_,_,_,_,_,z⟩:=hq; exact z.elim
   | ok fl=>
    cases fl with
    | ret u=>exact I1.after hq
    | next=>exact False.elim hq
    | brk=>exact False.elim hq
    | cont=>exact False.elim hq
 ·exact h.elim
end
end MN
namespace L2
open PySem PySem.Spec PyProof.Rows
section
variable {X:Cx}
theorem qr {x:V}:∀ {xs:List V} {us:List Value},Vals xs us->xs.all gI=true->us.countP (Js x)=xs.countP fun y=>uW y x
 | _,_,.nil,_=>rfl
 | y::xs,u::us,.cons r t,f=>by
  rw [List.all_cons,Bool.and_eq_true] at f
  rw [List.countP_cons,List.countP_cons,vf r f.1,qr t f.2]
noncomputable def IM:V->List V->Hp->VK->Prop:=fun x vs H Q=>∃ l xs y,x=.ref l/\vs=[y]/\H l=some (.lst xs)/\gI y=true/\xs.all gI=true/\Q (.int ((xs.countP fun z=>uW z y:Nat):Int)) H
theorem BA:tm X "list.count" IM:=by
 intro pins s σ H x vs v us Q I rx rv h
 obtain ⟨l,xs,y,rfl,rfl,hH,fy,fs,q⟩:=h
 cases rx
 obtain ⟨u,rfl,ru⟩:=rv.one
 obtain ⟨z,aD,n,r,hl,e⟩:=I.vg hH
 refine call_meets PySem.F.slot_list_count ⟨_,e,rfl⟩ PySem.F.entry_list_count (PySem.F.args_list_count_2 _ _) (SeqAt.list_countAt l aD.toArray n none #[] u (Js y)) ⟨e,fun w hw=>nL ru fy r fs w (by simpa using hw),?_⟩
 refine ⟨.int _,H,I.tok _,⟨_,rfl⟩,?_⟩
 rw [show aD.toArray.toList=aD from rfl,qr r fs]
 exact q
noncomputable def IP:V->List V->Hp->VK->Prop:=fun x vs H Q=>∃ l xs y j,x=.ref l/\vs=[y]/\H l=some (.lst xs)/\gI y=true/\xs.all gI=true/\(∃ z,xs[j]?=some z/\uW z y=true)/\(∀ m z,m<j->xs[m]?=some z->uW z y=false)/\Q (.int ((j:Nat):Int)) H
theorem BB:tm X "list.index" IP:=by
 intro pins s σ H x vs v us Q I rx rv h
 obtain ⟨l,xs,y,j,rfl,rfl,hH,fy,fs,⟨z,hz,ez⟩,G9,q⟩:=h
 cases rx
 obtain ⟨u,rfl,ru⟩:=rv.one
 obtain ⟨hsz,aD,n,r,hl,e⟩:=I.vg hH
 have at_:∀ (m:Nat) (hm:m<aD.toArray.size),∃ z,xs[m]?=some z/\Js y aD.toArray[m]=uW z y:=by
  intro m hm
  have Py:m<aD.length:=by simpa using hm
  obtain ⟨z,hz⟩:∃ z,xs[m]?=some z:=⟨_,List.getElem?_eq_getElem (by lia)⟩
  obtain ⟨w,hw,tj⟩:=r.get hz
  have e1:aD.toArray[m]=w:=by
   have:=List.getElem?_eq_getElem Py
   rw [this] at hw
   simpa using hw
  refine ⟨z,hz,?_⟩
  rw [e1,vf tj (List.all_eq_true.mp fs z (List.mem_of_getElem? hz))]
 have hj:j<aD.toArray.size:=by
  have:=(List.getElem?_eq_some_iff.mp hz).1
  simp; lia
 have Pz:(j:Int)<2 ^ 63-1:=by
  have:=(List.getElem?_eq_some_iff.mp hz).1
  rw [sizeLine_eq] at hsz
  lia
 refine call_meets PySem.F.slot_list_index ⟨_,e,rfl⟩ PySem.F.entry_list_index (PySem.F.args_list_index_2 _ _) (SeqAt.list_indexAt l aD.toArray n none #[] u (Js y) j hj Pz ?_ ?_) ⟨e,fun w hw=>nL ru fy r fs w (by simpa using hw),?_⟩
 ·obtain ⟨z',h1,h2⟩:=at_ j hj
  rw [h2]
  rw [hz] at h1
  cases h1
  exact ez
 ·intro m hm SU
  obtain ⟨z',h1,h2⟩:=at_ m hm
  rw [h2]
  exact G9 m z' SU h1
 ·exact ⟨.int _,H,I.tok _,⟨_,rfl⟩,q⟩
end
end L2
namespace MN
open PySem PySem.Spec L2
open PyProof.Rows hiding St
noncomputable def i5:FM
 | .loc n,[u],st=>match st[n]? with
  | some (.lst us)=>if flat u=true/\us.all flat=true then .ok (.int ((us.countP fun y=>CL y u:Nat):Int)) st else .bad
  | _=>.bad
 | _,_,_=>.bad
noncomputable def jT:FM
 | .loc n,[u],st=>match st[n]? with
  | some (.lst us)=>if flat u=true/\us.all flat=true then (match us.findIdx? (fun y=>CL y u) with | some j=>.ok (.int ((j:Nat):Int)) st | none=>.bad) else .bad
  | _=>.bad
 | _,_,_=>.bad
section
variable {X:Cx} {E:XK}
theorem oE {K:PySem.W.Frag} {ρ:List Addr} {H:Hp} {u:Val} {x:V} (f:flat u=true) (r:Rl K ρ H u x):∀ {us:List Val} {vs:List V},us.all flat=true->aS K ρ H us vs->vs.all gI=true/\(vs.map fun y=>uW y x)=us.map fun y=>CL y u
 | [],vs,_,h=>by rw [h.dJ]; exact ⟨rfl,rfl⟩
 | w::us,vs,hf,h=>by
  obtain ⟨v,r',rfl,h2,h3⟩:=h.bV
  rw [List.all_cons,Bool.and_eq_true] at hf
  obtain ⟨a,b,c⟩:=nX hf.1 f h2 r
  obtain ⟨d,e⟩:=oE f r hf.2 h3
  exact ⟨by rw [List.all_cons,a,d]; rfl,by rw [List.map_cons,List.map_cons,c,e]⟩
theorem mD {α:Type} (f:α->Bool) (l:List α):l.countP f=(l.map f).countP id:=by rw [List.countP_map]; rfl
theorem yT:tm X "list.count" (JD (wo X) E i5):=by
 refine tm.imp BA ?_
 rintro x xs H Q ⟨ρ,st,u,us,sr,r1,r2,h⟩
 unfold i5 at h
 split at h
 ·rename_i n v
  obtain ⟨a,rfl,ha⟩:=r1.cZ
  obtain ⟨y,rfl,ry⟩:=r2.tN
  split at h
  ·rename_i ws hw
   split at h
   ·rename_i hz
    obtain ⟨vs,hH,rv⟩:=sr.cell n _ a hw ha
    obtain ⟨q1,q2⟩:=oE hz.1 ry hz.2 rv
    refine ⟨a,vs,y,rfl,rfl,hH,(nX hz.1 hz.1 ry ry).1,q1,?_⟩
    rw [mD (fun z=>uW z y),q2,<-mD]
    exact h ρ _ _ (Step.refl _ _) sr (Rl.mkInt _)
   ·exact h.elim
  ·exact h.elim
 ·exact h.elim
theorem yU:tm X "list.index" (JD (wo X) E jT):=by
 refine tm.imp BB ?_
 rintro x xs H Q ⟨ρ,st,u,us,sr,r1,r2,h⟩
 unfold jT at h
 split at h
 ·rename_i n v
  obtain ⟨a,rfl,ha⟩:=r1.cZ
  obtain ⟨y,rfl,ry⟩:=r2.tN
  split at h
  ·rename_i ws hw
   split at h
   ·rename_i hz
    obtain ⟨vs,hH,rv⟩:=sr.cell n _ a hw ha
    obtain ⟨q1,q2⟩:=oE hz.1 ry hz.2 rv
    split at h
    ·rename_i j hj
     have at_:∀ (m:Nat) (z:V),vs[m]?=some z->∃ w,ws[m]?=some w/\uW z y=CL w v:=by
      intro m z JL
      have e:(vs.map fun y'=>uW y' y)[m]?=(ws.map fun y'=>CL y' v)[m]?:=by rw [q2]
      rw [List.getElem?_map,List.getElem?_map,JL] at e
      cases Ge:ws[m]? with
      | none=>rw [Ge] at e; cases e
      | some w=>rw [Ge] at e; exact ⟨w,rfl,Option.some.inj e⟩
     obtain ⟨PB,SV,SW⟩:=List.findIdx?_eq_some_iff_getElem.mp hj
     have hl:=rv.length
     refine ⟨a,vs,y,j,rfl,rfl,hH,(nX hz.1 hz.1 ry ry).1,q1,?_,?_,h ρ _ _ (Step.refl _ _) sr (Rl.mkInt _)⟩
     ·obtain ⟨z,JL⟩:∃ z,vs[j]?=some z:=⟨_,List.getElem?_eq_getElem (by lia)⟩
      obtain ⟨w,Ge,e⟩:=at_ j z JL
      refine ⟨z,JL,?_⟩
      rw [List.getElem?_eq_getElem PB] at Ge
      cases Ge
      rw [e]; exact SV
     ·intro m z hm JL
      obtain ⟨w,Ge,e⟩:=at_ m z JL
      rw [List.getElem?_eq_getElem (by lia)] at Ge
      cases Ge
      rw [e]
      simpa using SW m hm
    ·exact h.elim
   ·exact h.elim
  ·exact h.elim
 ·exact h.elim
variable {o e:Expr} {es:List Expr} {mo:ME} {ms:MA} {apos a7:Pos}
theorem BC (ho:PE X o (tE X E mo)) (ha:PA X (e::es) (tL X E ms))
  (fO:attributeBase o "count" X.env (eval o X.env)=eval o X.env:=by rfl)
  (rm:((backTo a7 (starEach (e::es) X.env)).all (fun x => !x.1)&&(backToKw a7 (keywordEach [] X.env)).all (fun x=>x.1.isSome)
   && decide ((e::es).length+([]:List Keyword).length+(if ([]:List Keyword).isEmpty then 0 else 1)<30))=true:=by rfl)
  (fP:(apos.endLine==a7.line)=true:=by rfl) (hs:starEach (e::es) X.env=(false,eval e X.env)::starEach es X.env:=by rfl) (gW:(backTo a7 (starEach es X.env)).any (·.1)=false:=by rfl) :
  PE X (.Call (.Attribute o "count" apos) (e::es) [] a7) (tE X E (fH i5 mo ms)):=vy PySem.F.slot_list_count PySem.F.type_list_count yT ho ha fO rm fP hs gW
theorem BD (ho:PE X o (tE X E mo)) (ha:PA X (e::es) (tL X E ms))
  (fO:attributeBase o "index" X.env (eval o X.env)=eval o X.env:=by rfl)
  (rm:((backTo a7 (starEach (e::es) X.env)).all (fun x => !x.1)&&(backToKw a7 (keywordEach [] X.env)).all (fun x=>x.1.isSome)
   && decide ((e::es).length+([]:List Keyword).length+(if ([]:List Keyword).isEmpty then 0 else 1)<30))=true:=by rfl)
  (fP:(apos.endLine==a7.line)=true:=by rfl) (hs:starEach (e::es) X.env=(false,eval e X.env)::starEach es X.env:=by rfl) (gW:(backTo a7 (starEach es X.env)).any (·.1)=false:=by rfl) :
  PE X (.Call (.Attribute o "index" apos) (e::es) [] a7) (tE X E (fH jT mo ms)):=vy PySem.F.slot_list_index PySem.F.type_list_index yU ho ha fO rm fP hs gW
end
end MN
namespace SO
open PySem PySem.W PyProof.Rows
theorem qt {K:Type} [DecidableEq K]:∀ {xs:List (K × Addr × Value)} {j:Nat} {k:K} {p:Addr × Value},(xs.map (·.1)).Nodup->xs[j]?=some (k,p)->xs.eraseIdx j=xs.filter fun x=>decide (x.1≠k)
 | [],_,_,_,_,h=>by cases h
 | x::xs,0,k,p,hn,h=>by
  cases h
  rw [List.map_cons,List.nodup_cons] at hn
  rw [List.eraseIdx_cons_zero,List.filter_cons_of_neg (by simp)]
  exact (List.filter_eq_self.mpr fun y hy=>by
   have:y.1≠k:=fun e=>hn.1 (List.mem_map.mpr ⟨y,hy,e⟩)
   simpa using this).symm
 | x::xs,j+1,k,p,hn,h=>by
  rw [List.map_cons,List.nodup_cons] at hn
  rw [List.getElem?_cons_succ] at h
  have ne:x.1≠k:=fun e=>hn.1 (List.mem_map.mpr ⟨(k,p),List.mem_of_getElem? h,e.symm⟩)
  rw [List.eraseIdx_cons_succ,List.filter_cons_of_pos (by simpa using ne),qt hn.2 h]
theorem qu {α β:Type} (f:α->β):∀ (l:List α) (j:Nat),(l.map f).eraseIdx j=(l.eraseIdx j).map f
 | [],_=>rfl
 | _::_,0=>rfl
 | x::l,j+1=>by
  show f x::(l.map f).eraseIdx j=f x::(l.eraseIdx j).map f
  rw [qu f l j]
section
variable {prog:Program} {w:World} {K:Type} [DecidableEq K] {knd:HeapKind prog w K} {A:Around} {E:Value->Shared->Prop} {s:Shared}
theorem sd {d a:Addr} {xs:List (K × Addr × Value)} {k:K} {p:Addr × Value} {Q:Option DictEntry->Shared->Prop} (hu:knd.room A) (yb:knd.is s.heap k a) (hm:s.heap.DictOfH knd d xs) (hp:atKey xs k=some p) (hsz:xs.length<=sizeLine)
  (hQ:∀ e h',e.val=p.2->h'.DictOfH knd d (xs.filter fun x=>decide (x.1≠k))->Heap.SameBut d s.heap h'->Q (some e) { s with heap:=h',toks:=s.toks+knd.draws k }) :
  wpAny (model prog w) A (Builtin.Dict.takeOut d (.ref a)) Q E s:=by
 obtain ⟨o,es,ep,ho,hc,hd,he,K8,hn⟩:=hm
 unfold Builtin.Dict.takeOut
 try with_reducible refine wpAny_holding ?_
 refine wpAny_bind (knd.pyHash hu yb (wpAny_bind (wpAny_dictFind_heap (s:={ s with toks:=s.toks+knd.draws k }) hu yb ho hd he K8 hn ?_ ?_)))
 ·intro G9
  rw [atKey_none_of_get G9] at hp
  cases hp
 ·intro j q hj
  rw [atKey_of_get hn hj] at hp
  cases hp
  refine wpAny_bind (wpAny_dictEntries (s:={ s with toks:=s.toks+knd.draws k }) ho hd ?_)
  rw [entry_at he j,hj]
  have er:=qt hn hj
  have sub:∀ x∈xs.filter (fun x=>decide (x.1≠k)),x∈xs:=fun x hx=>(List.mem_filter.mp hx).1
  refine wpAny_bind (wpAny_updateDictKeys (hz:=by have e:=size_of_entries he; lia) (s:={ s with toks:=s.toks+knd.draws k }) ho hd (wpAny_pure (hQ _ _ rfl ⟨_,_,ep+1,Heap.get?_update_self _ ho (Obj.isFreed_of_dict (Obj.data_mapDictKeys hd _)),
   hc.mapDictKeys _,Obj.data_mapDictKeys hd _,?_,?_,?_⟩ (Heap.SameBut.update ..))))
  ·rw [<-er]
   have PB:j<es.size:=by
    rw [size_of_entries he]
    rcases Nat.lt_or_ge j xs.length with z | z
    ·exact z
    ·rw [List.getElem?_eq_none z] at hj; cases hj
   rw [Array.eraseIdxIfInBounds,dif_pos PB,Array.toList_eraseIdx,he,qu]
  ·intro x hx
   exact knd.keeps (K8 x (sub x hx)) ho hd (Heap.SameBut.update ..)
  ·exact List.Nodup.sublist ((List.filter_sublist).map _) hn
theorem yV (d a:Addr):MeetsIn prog w (Builtin.«dict.pop» ⟨[.ref d,.ref a],[]⟩) (fun A R s=>knd.room A.in1/\∃ k xs p,knd.is s.heap k a/\s.heap.DictOfH knd d xs/\xs.length<=sizeLine/\atKey xs k=some p /\
   ∀ h',h'.DictOfH knd d (xs.filter fun x=>decide (x.1≠k))->Heap.SameBut d s.heap h'->R (.ok (.ret p.2)) { s with heap:=h',toks:=s.toks+knd.draws k }):=
 .of_wp fun A R s ⟨hu,k,xs,p,yb,hm,hsz,hp,h⟩=>by
  unfold Builtin.«dict.pop»
  refine wpAny_bind ?_
  unfold Builtin.Dict.keyAndDefault
  refine wpAny_bind (wpAny_notOrdered_dict hm.typeIs ?_)
  show wpAny _ _ (pure (d,Value.ref a,none)) _ _ s
  refine wpAny_pure ?_
  obtain ⟨o,es,ep,ho,hc,hd,he,K8,hn⟩:=id hm
  have vG:es.isEmpty=false:=by
   cases z:es.isEmpty with
   | false=>rfl
   | true=>
    have z':es = #[]:=by simpa using z
    rw [z'] at he
    cases xs with
    | nil=>cases hp
    | cons x xs=>simp at he
  dsimp only [keyPart]
  simp only [Option.isSome_none,Bool.false_eq_true,if_false]
  refine wpAny_bind (wpAny_dictEntries ho hd (wpAny_bind (wpAny_pure ?_)))
  rw [vG]
  simp only [Bool.false_eq_true,if_false]
  refine wpAny_bind (sd hu yb hm hp hsz fun e h' ev Py Ng=>?_)
  simp only [Option.isNone_some,Bool.false_eq_true,if_false]
  exact wpAny_bind (wpAny_letGo (wpAny_pure ⟨e.val,rfl,by rw [ev]; exact h h' Py Ng⟩))
end
section
variable {prog:Program} {w:World} {A:Around} {E:Value->Shared->Prop} {s:Shared} {d:Addr} {es:Array DictEntry} {ep:Nat}
theorem EA (hd:(d==sysModules)=false):MeetsIn prog w (Builtin.«dict.__len__» ⟨[.ref d],[]⟩) (fun _ R s=>∃ es ep,gM s.heap d es ep/\R (.ok (.ret (.int es.size s.toks))) { s with toks:=s.toks+1 }):=
 .of_wp fun A R s ⟨es,ep,⟨o,ho,hc,pJ⟩,h⟩=>by
  show wpAny _ _ (dictSize d >>= _) _ _ s
  unfold dictSize
  refine wpAny_bind (wpAny_bind (wpAny_dictEntries ho pJ (wpAny_pure ?_)))
  show wpAny _ _ (Builtin.Dict.pendingCount d >>= _) _ _ s
  refine wpAny_bind (wpAny_pendingCount_other hd ?_)
  refine wpAny_ret_mkInt ?_
  rw [Nat.add_zero]; exact h
theorem EB {Q:Value->Shared->Prop} (hd:(d==sysModules)=false) (x:gM s.heap d es ep) (Ky:(es.size:Int)<2 ^ 63)
  (h:Q (.int es.size (s.toks+1)) { s with toks:=s.toks+1+1 }):wpAny (model prog w) A (call (.builtin "len") [.ref d]) Q E s:=by
 refine Calls.call_function_entry kind_len plain_len entry_len (args_len1 _) ?_
 unfold Builtin.«len»
 refine wpAny_bind (m:=oneArg "len" _) (wpAny_pure ?_)
 refine wpAny_bind (m:=callSpecial? (.ref d) (Str.ofString "__len__")) (wpAny_callSpecial?_slot (name:=Str.ofString "__len__") x.ty PySem.F.slot_dict_len
  (call_meetsIn PySem.F.slot_dict_len x.ty PySem.F.entry_dict_len (PySem.F.args_dict_len_1 _) (EA hd) ⟨es,ep,x,?_⟩))
 show wpAny _ _ _ _ _ { s with toks:=s.toks+1 }
 refine wpAny_bind (wpAny_holding (wpAny_pure ?_))
 refine wpAny_bind (wpAny_letGo ?_)
 show wpAny _ _ (if ((es.size:Nat):Int)<0 then _ else _) _ _ _
 rw [if_neg (by lia)]
 show wpAny _ _ (if ((es.size:Nat):Int) ≥ 2 ^ 63 then _ else _) _ _ _
 rw [if_neg (by lia)]
 exact wpAny_bind (wpAny_mkInt (wpAny_pure ⟨_,rfl,h⟩))
end
noncomputable def se (b:Value × List Int):List (Value × List Int)->Value × List Int
 | []=>b
 | x::r=>se (if lexLt b.2 x.2=true then x else b) r
section
variable {prog:Program} {w:World} {A:Around} {E:Value->Shared->Prop} {I d S:Addr} {es:Array DictEntry} {ep:Nat} {zs:List (Value × List Int)} {R:Result->Shared->Prop}
theorem EC (hh:A.in1.handled=none) (hu:A.in1.units<cLine) (hI:d≠I) (IQ:S≠I) (Np:S≠d) (hz:es.toList.map (·.key)=zs.map (·.1)):∀ (k j:Nat) (s:Shared) (b:Value × List Int) (c:Nat),zs.length-j=k->j<=zs.length->(s.heap.IsKeyIter I d j es.size ep/\gM s.heap d es ep) ->
  s.heap.get? S=some (seqObj "list" #[b.1,b.1] c)->(∀ z∈b::zs,ef s.heap z.1 z.2) ->
  (∀ h' tk,(∀ b o,b≠S->b≠I->s.heap.get? b=some o->h'.get? b=some o)->R (.ok (.ret (se b (zs.drop j)).1)) { s with heap:=h',toks:=tk }) ->
  codeAny (model prog w) A (.builtin "max.loop" ⟨[.ref I,.none,.ref S],[]⟩) R s:=by
 have W:=lE (prog:=prog) (w:=w) (A:=A.in1) (es:=es) (ep:=ep) hh I hI
 have hsz:es.size=zs.length:=by
  have:=congrArg List.length hz
  simpa using this
 have ur:(toString "max" ++ toString ".loop":String) = "max.loop":=by decide
 intro k
 induction k with
 | zero=>
  intro j s b c hk hj st hS hT hR
  have e:j=es.size:=by lia
  refine codeAny_builtin PySem.F.entry_max_loop ?_
  rw [Around.under_plainId PySem.F.plain_max_loop _]
  show wpAny _ A.in1 (seqItems? (.ref S) >>= _) _ _ s; refine wpAny_bind (wpAny_seqItems hS rfl ?_)
  show wpAny _ A.in1 (tryCatch (pyNext (.ref I)) _ >>= _) _ _ s; refine wpAny_bind (wpAny_tryCatch (W.done s _ _ (e ▸ st) fun h' tk hm=>?_))
  have CQ:=hm S _ (by simp [IQ]) hS
  show wpAny _ A.in1 (updateSeq S (fun _ => #[]) >>= _) _ _ _
  refine wpAny_bind (wpAny_updateSeq CQ rfl (wpAny_bind (wpAny_letGo (wpAny_pure ?_))))
  have:=hR ((h'.update S (Obj.mapSeq fun _ => #[]))) tk fun b o h1 h2 e=>(Heap.get?_update_other _ _ (Ne.symm h1)).trans (hm b o (by simp [h2]) e)
  rw [List.drop_eq_nil_of_le (by lia)] at this
  exact this
 | succ k ih=>
  intro j s b c hk hj st hS hT hR
  have pC:j<es.size:=by lia
  refine codeAny_builtin PySem.F.entry_max_loop ?_
  rw [Around.under_plainId PySem.F.plain_max_loop _]
  show wpAny _ A.in1 (seqItems? (.ref S) >>= _) _ _ s; refine wpAny_bind (wpAny_seqItems hS rfl ?_)
  show wpAny _ A.in1 (tryCatch (pyNext (.ref I)) _ >>= _) _ _ s; refine wpAny_bind (wpAny_tryCatch (W.item j s _ _ pC st fun v h' tk hP ar hm=>?_))
  have CQ:=hm S _ (by simp [IQ]) hS
  obtain ⟨_,rfl⟩:=hP
  have PD:j<zs.length:=by lia
  have ev:es[j].key=zs[j].1:=by
   have:=congrArg (fun l=>l[j]?) hz
   simp only [List.getElem?_map,Array.getElem?_toList] at this
   rw [Array.getElem?_eq_getElem pC,List.getElem?_eq_getElem PD] at this
   simpa using this
  obtain ⟨z,ez⟩:∃ z,z=zs[j]:=⟨_,rfl⟩
  rw [ev,<-ez]
  have ed:zs.drop j=z::zs.drop (j+1):=by rw [ez]; exact List.drop_eq_getElem_cons PD
  have mz:z∈zs:=by rw [ez]; exact List.getElem_mem PD
  have qv:∀ z∈b::zs,ef h' z.1 z.2:=fun z hz=>(hT z hz).to fun a o ha hc=>hm a o (fun q=>by
   rw [List.mem_singleton] at q
   obtain ⟨oI,eI,cI,_⟩:=st.1
   rw [q,eI] at ha
   cases ha
   rw [cI] at hc
   exact absurd hc (by decide)) ha
  have t1:=qv z (List.mem_cons_of_mem _ mz)
  have t2:=qv b List.mem_cons_self
  obtain ⟨_,a1,_,_,_,e1,_⟩:=id t1
  obtain ⟨_,a2,_,_,_,e2,_⟩:=id t2
  show wpAny _ A.in1 (tryCatch (holding [z.1,z.1] (richCompare .Gt z.1 b.1 >>= _)) _ >>= _) _ _ _
  have cmp:∀ {Q:Value->Shared->Prop} {E:Value->Shared->Prop},Q (.bool (lexLt b.2 z.2)) { s with heap:=h',toks:=tk }->wpAny (model prog w) A.in1 (richCompare .Gt z.1 b.1) Q E { s with heap:=h',toks:=tk }:=by
   intro Q E q
   rw [e1,e2]
   rw [e1] at t1
   rw [e2] at t2
   exact Ez hu t1 t2 q
  refine wpAny_bind (wpAny_tryCatch (wpAny_holding (wpAny_bind (cmp ?_))))
  refine wpAny_bind (wpAny_holding (wpAny_truthy_bool (wpAny_bind (wpAny_letGo (wpAny_pure ?_)))))
  cases c1:lexLt b.2 z.2 with
  | true=>
   simp only [if_true]
   refine wpAny_bind (wpAny_updateSeq CQ rfl (wpAny_bind (wpAny_letGo ?_)))
   rw [ur]
   have LW:∀ a o,a≠S->h'.get? a=some o->(h'.update S (Obj.mapSeq fun _ => #[z.1,z.1])).get? a=some o:=fun a o ne e=>(Heap.get?_update_other _ _ (Ne.symm ne)).trans e
   refine wpAny_pure ⟨plainId_quiet PySem.F.plain_max_loop _,ih (j+1) _ z _ (by lia) (by lia) (W.frame _ _ _ ar fun b hb o e=>?_) (Heap.get?_update_self _ CQ rfl) (fun y hy=>(qv y (by
     rcases List.mem_cons.mp hy with rfl | hy
     ·exact List.mem_cons_of_mem _ mz
     ·exact List.mem_cons_of_mem _ hy)).to fun a o ha hc=>LW a o (fun q=>by rw [q,CQ] at ha; cases ha; exact absurd (show Value.type "list" = Value.type "tuple" from hc) (by decide)) ha) fun h2 PF K6=>?_⟩
   ·exact (Heap.get?_update_other _ _ (fun z:S=b=>by rw [<-z] at hb; simp [IQ,Np] at hb)).trans e
   ·have:=hR h2 PF fun b o h1 h3 e=>K6 b o h1 h3 ((Heap.get?_update_other _ _ (Ne.symm h1)).trans (hm b o (by simp [h3]) e))
    rw [ed] at this
    replace this:R (.ok (.ret (se (if lexLt b.2 z.2=true then z else b) (zs.drop (j+1))).1)) _:=this
    rw [if_pos c1] at this
    exact this
  | false=>
   simp only [Bool.false_eq_true,if_false]
   refine wpAny_bind (wpAny_letGo ?_)
   rw [ur]
   refine wpAny_pure ⟨plainId_quiet PySem.F.plain_max_loop _,ih (j+1) _ b c (by lia) (by lia) ar CQ qv fun h2 PF K6=>?_⟩
   have:=hR h2 PF fun b o h1 h3 e=>K6 b o h1 h3 (hm b o (by simp [h3]) e)
   rw [ed] at this
   replace this:R (.ok (.ret (se (if lexLt b.2 z.2=true then z else b) (zs.drop (j+1))).1)) _:=this
   rw [if_neg (by rw [c1]; exact Bool.false_ne_true)] at this
   exact this
theorem ED {s:Shared} {z:Value × List Int} {Q:Value->Shared->Prop} (hh:A.handled=none) (hu:A.units+1<cLine) (lo:(d==sysModules)=false) (x:gM s.heap d es ep) (hz:es.toList.map (·.key)=(z::zs).map (·.1)) (hT:∀ y∈z::zs,ef s.heap y.1 y.2)
  (h:∀ h' tk,(∀ b o,s.heap.get? b=some o->h'.get? b=some o)->Q (se z zs).1 { s with heap:=h',toks:=tk }):wpAny (model prog w) A (call (.builtin "max") [.ref d]) Q E s:=by
 have ur:(toString "max" ++ toString ".loop":String) = "max.loop":=by decide
 refine call_function_tree PySem.F.kind_max PySem.F.plain_max PySem.F.entry_max (PySem.F.args_max1 _) ?_
 show wpAny _ A.in1 (Builtin.Builtins.bindParams "max" ["key","default"] 0 ⟨[],[]⟩ >>= _) _ _ s
 refine wpAny_bind (wpAny_of_eq (show Builtin.Builtins.bindParams "max" ["key","default"] 0 ⟨[],[]⟩=pure [none,none] from rfl) ?_)
 refine wpAny_bind (wpAny_pure ?_)
 refine wpAny_bind (uc lo x ?_)
 refine wpAny_bind (wpAny_newObj_type ?_)
 rw [ur]
 refine wpAny_pure ⟨plainId_quiet PySem.F.plain_max_loop _,?_⟩
 obtain ⟨I,eI⟩:∃ I,I=s.heap.objs.size:=⟨_,rfl⟩
 obtain ⟨h1,e1⟩:∃ h1,h1=s.heap.push { cls:=.type "dict_keyiterator",data:=.fields #[.ref d,.int 0 0,.int es.size 0,.int ep 0] }:=⟨_,rfl⟩
 obtain ⟨S,eS⟩:∃ S,S=h1.objs.size:=⟨_,rfl⟩
 obtain ⟨h2,e2⟩:∃ h2,h2=h1.push (seqObj "list" #[] 0):=⟨_,rfl⟩
 have pC:d<s.heap.objs.size:=x.lt
 have PJ:S=I+1:=by rw [eS,e1,eI,Heap.size_push]
 have hI:d≠I:=by rw [eI]; exact Nat.ne_of_lt pC
 have IQ:S≠I:=by rw [PJ]; exact Nat.succ_ne_self I
 have Np:S≠d:=by rw [PJ,eI]; exact Nat.ne_of_gt (Nat.lt_succ_of_lt pC)
 have k2:∀ b o,s.heap.get? b=some o->h2.get? b=some o:=fun b o e=>by rw [e2,e1]; exact Heap.get?_push_of_some _ (Heap.get?_push_of_some _ e)
 have st:h2.IsKeyIter I d 0 es.size ep/\gM h2 d es ep:=by
  constructor
  ·refine ⟨{ cls:=.type "dict_keyiterator",data:=.fields #[.ref d,.int 0 0,.int es.size 0,.int ep 0] },?_,rfl,rfl⟩
   rw [e2,e1,eI]
   exact Heap.get?_push_of_some _ (Heap.get?_push_size _ rfl)
  ·exact x.to fun o e=>k2 d o e
 have hS:h2.get? S=some (seqObj "list" #[] 0):=by rw [e2,eS]; exact Heap.get?_push_size _ rfl
 show codeAny (model prog w) A (.builtin "max.loop" ⟨[.ref s.heap.objs.size,.none,.ref (s.heap.push { cls:=.type "dict_keyiterator",data:=.fields #[.ref d,.int 0 0,.int es.size 0,.int ep 0] }).objs.size],[]⟩) _ { s with heap:=(s.heap.push { cls:=.type "dict_keyiterator",data:=.fields #[.ref d,.int 0 0,.int es.size 0,.int ep 0] }).push (seqObj "list" #[] 0) }
 rw [<-e1,<-e2,<-eS,<-eI]
 have W:=lE (prog:=prog) (w:=w) (A:=A.in1) (es:=es) (ep:=ep) hh I hI
 have hsz:es.size=zs.length+1:=by
  have:=congrArg List.length hz
  simpa using this
 have fresh:∀ b o,s.heap.get? b=some o->b≠S/\b≠I:=fun b o e=>by
  have q:=Heap.lt_size e
  exact ⟨by rw [PJ,eI]; exact Nat.ne_of_lt (Nat.lt_succ_of_lt q),by rw [eI]; exact Nat.ne_of_lt q⟩
 refine codeAny_builtin PySem.F.entry_max_loop ?_
 rw [Around.under_plainId PySem.F.plain_max_loop _]
 show wpAny _ A.in1 (seqItems? (.ref S) >>= _) _ _ _; refine wpAny_bind (wpAny_seqItems (s:={ s with heap:=h2 }) hS rfl ?_)
 show wpAny _ A.in1 (tryCatch (pyNext (.ref I)) _ >>= _) _ _ _
 refine wpAny_bind (wpAny_tryCatch (W.item 0 { s with heap:=h2 } _ _ (by lia) st fun v h' tk hP ar hm=>?_))
 have CQ:=hm S _ (by simp [IQ]) hS
 obtain ⟨h0,rfl⟩:=hP
 have ev:es[0].key=z.1:=by
  have:=congrArg (fun l=>l[0]?) hz
  simp only [List.getElem?_map,Array.getElem?_toList] at this
  rw [Array.getElem?_eq_getElem h0] at this
  simpa using this
 rw [ev]
 show wpAny _ A.in1 (updateSeq S (fun _ => #[z.1,z.1]) >>= _) _ _ _
 refine wpAny_bind (wpAny_updateSeq CQ rfl ?_)
 rw [ur]
 have qv:∀ y∈z::zs,ef h' y.1 y.2:=fun y hy=>(hT y hy).to fun a o ha hc=>hm a o (fun q=>(fresh a o ha).2 (List.mem_singleton.mp q)) (k2 a o ha)
 have fin:=EC (prog:=prog) (w:=w) (A:=A) (ep:=ep) (zs:=z::zs) (R:=fun r s'=>match r with | .ok (.ret v)=>Q v s' | .ok _=>False | .error e=>E e s') hh hu hI IQ Np hz _ 1 { s with heap:=h'.update S (Obj.mapSeq fun _ => #[z.1,z.1]),toks:=tk } z _ rfl (by simp) (W.frame _ _ _ ar fun b hb o e=>(Heap.get?_update_other _ _ (fun z:S=b=>by rw [<-z] at hb; simp [IQ,Np] at hb)).trans e)
  (Heap.get?_update_self _ CQ rfl) (fun y hy=>(qv y (by
    rcases List.mem_cons.mp hy with rfl | hy
    ·exact List.mem_cons_self
    ·exact hy)).to fun a o ha hc=>(Heap.get?_update_other _ _ (fun q:S=a=>by rw [<-q,CQ] at ha; cases ha; exact absurd (show Value.type "list" = Value.type "tuple" from hc) (by decide))).trans ha) fun h3 SX SY=>?_
 ·exact wpAny_pure ⟨plainId_quiet PySem.F.plain_max_loop _,fin⟩
 ·refine h h3 SX fun b o e=>?_
  have f:=fresh b o e
  exact SY b o f.1 f.2 ((Heap.get?_update_other _ _ (Ne.symm f.1)).trans (hm b o (by simp [f.2]) (k2 b o e)))
end
noncomputable def vN (k:List Int):List (List Int)->List Int
 | []=>k
 | x::r=>vN (if lexLt k x=true then x else k) r
theorem uu:∀ (l:List (Value × List Int)) (b:Value × List Int),se b l∈b::l
 | [],b=>List.mem_cons_self
 | x::r,b=>by
  show se (if lexLt b.2 x.2=true then x else b) r∈_
  rcases List.mem_cons.mp (uu r (if lexLt b.2 x.2=true then x else b)) with h | h
  ·rw [h]
   split
   ·exact List.mem_cons_of_mem _ List.mem_cons_self
   ·exact List.mem_cons_self
  ·exact List.mem_cons_of_mem _ (List.mem_cons_of_mem _ h)
theorem uv:∀ (l:List (Value × List Int)) (b:Value × List Int),(se b l).2=vN b.2 (l.map (·.2))
 | [],b=>rfl
 | x::r,b=>by
  show (se (if lexLt b.2 x.2=true then x else b) r).2=vN (if lexLt b.2 x.2=true then x.2 else b.2) (r.map (·.2))
  rw [uv r]
  split <;> rfl
noncomputable def gf (f:Nat->Int):Nat->Int
 | 0=>f 0
 | j+1=>if f (j+1)<gf f j then f (j+1) else gf f j
theorem mE (f:Nat->Int):∀ j,f (argBest (fun i j=>decide (f i<f j)) j)=gf f j
 | 0=>rfl
 | j+1=>by
  have ih:=mE f j
  show f (if decide (f (j+1)<f (argBest (fun i j=>decide (f i<f j)) j))=true then j+1 else argBest (fun i j=>decide (f i<f j)) j)=if f (j+1)<gf f j then f (j+1) else gf f j
  rw [ih]
  by_cases c:f (j+1)<gf f j
  ·rw [if_pos (decide_eq_true c),if_pos c]
  ·rw [if_neg (by rw [decide_eq_false c]; exact Bool.false_ne_true),if_neg c,ih]
theorem oF {f g:Nat->Int}:∀ {j:Nat},(∀ i,i<=j->f i=g i)->gf f j=gf g j
 | 0,h=>h 0 (Nat.le_refl _)
 | j+1,h=>by
  unfold gf
  rw [oF (j:=j) fun i hi=>h i (by lia),h (j+1) (Nat.le_refl _)]
section
variable {prog:Program} {w:World} {A:Around} {E:Value->Shared->Prop} {s:Shared} {l:Addr} {us:List Value} {ns:List Int}
theorem vO (h:IntsAre us ns):∃ xs:Array (Int × Tok),us.toArray=intItems xs/\xs.size=ns.length/\∀ i,numAt xs i=ns.getD i 0:=by
 have:∃ l:List (Int × Tok),us=l.map (fun p=>Value.int p.1 p.2)/\l.map (·.1)=ns:=by
  induction h with
  | nil=>exact ⟨[],rfl,rfl⟩
  | cons n t _ ih=>
   obtain ⟨l,e1,e2⟩:=ih
   exact ⟨(n,t)::l,by rw [e1]; rfl,by rw [<-e2]; rfl⟩
 obtain ⟨l,rfl,rfl⟩:=this
 refine ⟨l.toArray,by simp [intItems],by simp,fun i=>?_⟩
 unfold numAt
 rw [List.getElem?_toArray,List.getD_eq_getElem?_getD,List.getElem?_map]
theorem yW {Q:Value->Shared->Prop} (hh:A.handled=none) (hl:s.heap.IsTuple l us.toArray) (ia:IntsAre us ns) (vG:ns≠[])
  (h:∀ t h' tk,(∀ b o,s.heap.get? b=some o->h'.get? b=some o)->Q (.int (gf (fun i=>ns.getD i 0) (ns.length-1)) t) { s with heap:=h',toks:=tk }) :
  wpAny (model prog w) A (call (.builtin "min") [.ref l]) Q E s:=by
 obtain ⟨xs,ex,sx,nx⟩:=vO ia
 rw [ex] at hl
 have pC:l<s.heap.objs.size:=by obtain ⟨_,e,_⟩:=id hl; exact Heap.lt_size e
 have PL:0<xs.size:=by
  rw [sx]
  cases ns with
  | nil=>exact absurd rfl vG
  | cons=>exact Nat.succ_pos _
 refine call_min_walk (wpAny_pyIter_tuple hl ?_)
 refine ⟨_,[_,l],[_],_,_,_,_,rfl,Walks.tuple (A:=A.in1) hh _ l (Nat.ne_of_lt pC) (intItems xs),
  ⟨⟨_,Heap.get?_push_size _ rfl,rfl,rfl⟩,hl.push _⟩,fun c hc=>?_,by simpa [intItems] using PL,CmpOf.ints_lt (numAt xs) (fun _ _=>intItems_at),fun v h' tk hP hk=>?_⟩
 ·show c<(s.heap.push _).objs.size
  rw [Heap.size_push]
  rcases List.mem_cons.mp hc with rfl | hc
  ·exact Nat.lt_succ_self _
  ·rcases List.mem_cons.mp hc with rfl | hc
   ·exact Nat.lt_succ_of_lt pC
   ·cases hc
 ·have hold:∀ c o,s.heap.get? c=some o->h'.get? c=some o:=fun c o e=>by
   refine hk c o (fun hm=>?_) (Heap.get?_push_of_some _ e)
   rcases List.mem_cons.mp hm with e1 | hm
   ·have:=Heap.lt_size e; rw [e1] at this; exact Nat.lt_irrefl _ this
   ·cases hm
  obtain ⟨t,rfl⟩:=intItems_at hP
  have ev:numAt xs (argBest (fun i j=>decide (numAt xs i<numAt xs j)) ((intItems xs).size-1))=gf (fun i=>ns.getD i 0) (ns.length-1):=by
   rw [mE (numAt xs),show (intItems xs).size-1=ns.length-1 by rw [<-sx]; simp [intItems]]
   exact oF fun i _=>nx i
  rw [ev]
  exact h t h' tk hold
end
end SO
namespace L2
open PySem PySem.Spec PyProof.Rows
theorem KT.drop {H:Hp} {az:List (List Key × V)} {xs:List (List Key × Addr × Value)} (r:KT H az xs) (k:List Key):KT H (l7 az k) (xs.filter fun x=>decide (x.1≠k)):=by
 induction r with
 | nil=>exact .nil
 | @cons p q ps qs h t ih=>
  obtain ⟨h1,h2,h3⟩:=h
  unfold l7 at ih ⊢
  by_cases e:p.1=k
  ·rw [List.filter_cons_of_neg (by simp [e]),List.filter_cons_of_neg (by simp [<-h1,e])]; exact ih
  ·rw [List.filter_cons_of_pos (by simp [e]),List.filter_cons_of_pos (by simp [<-h1,e])]; exact .cons ⟨h1,h2,h3⟩ ih
section
variable {X:Cx} {pins:List (Addr × Obj)} {σ:St} {H:Hp} {s:Shared} {a b:Addr} {az:List (List Key × V)} {k:List Key} {A:Around} {E:Value->Shared->Prop}
theorem IS {v:V} {Q:Value->Shared->Prop} (hu:A.units+1<cLine) (I:Inv X pins σ H s) (e:H a=some (.dT az)) (eb:H b=some (.tup (k.map kV))) (l:gs az k=some v)
  (h:∀ w' s',Inv X pins σ (upd H a (.dT (l7 az k))) s'->RelV v w'->Q w' s'):wpAny (model X.prog X.w) A (call (.builtin "dict.pop") [.ref a,.ref b]) Q E s:=by
 obtain ⟨z,hd,xs,rel,dd⟩:=FH I.bK e
 obtain ⟨w',hw,tj⟩:=j5.some_of (v:=v) (o:=(atKey xs k).map (·.2)) (by rw [<-l]; exact rel.val k)
 cases hk:atKey xs k with
 | none=>rw [hk] at hw; cases hw
 | some p=>
  rw [hk] at hw
  replace hw:p.2=w':=Option.some.inj hw
  refine call_meetsIn PySem.F.slot_dict_pop dd.typeIs PySem.F.entry_dict_pop (PySem.F.args_dict_pop_2 _ _) (SO.yV (knd:=tupleKind (cg X.prog X.w)) a b) ⟨tupleKind_room_in1 hu,k,xs,p,k9 I.bK eb,dd,by rw [<-Paired.length rel]; exact z,hk,fun h' Ju hs=>h p.2 _ ?_ (by rw [hw]; exact tj)⟩
  obtain ⟨q,es,ep,hq,h2,h3,h4,_,h5⟩:=Ju
  refine rq I (by rw [e]; exact True.intro) hs ⟨q,hq⟩ ⟨Nat.le_trans (Ac az k) z,hd,_,(rel.drop k).keeps fun c ys ec=>?_,q,es,ep,hq,h2,h3,h4,h5⟩
  rw [aU (Ft ec e (fun z=>nomatch z))]
  exact ec
end
noncomputable def IT (td ty:TE):TE:=fun σ H Q=>td σ H fun x H1=>∃ a,x=.ref a/\KL H1 a/\ty σ H1 fun y H2=>∃ az k v b,H2 a=some (.dT az)/\y=.ref b/\H2 b=some (.tup (k.map kV))/\gs az k=some v/\Q v (upd H2 a (.dT (l7 az k)))
section
variable {X:Cx} {o e:Expr} {apos a7:Pos} {td ty:TE}
theorem BE (hu:X.A.units+1<cLine) (ho:PE X o td) (he:PE X e ty) (m:M1 X o "pop" apos e a7):PE X (.Call (.Attribute o "pop" apos) [e] [] a7) (IT td ty):=by
 intro pins s σ H Q I h
 refine wpAny_Call_method m.base m.Oy m.line PySem.F.plainAttrs_dict PySem.F.slot_dict_pop PySem.F.type_dict_pop (cT (ho pins s σ H _ I h) fun u s1 ⟨x,H1,I1,rx,a,ex,d,q1⟩=>?_)
 subst ex
 obtain rfl:u=Value.ref a:=rx
 obtain ⟨t1,t2,_⟩:=Af I1 d
 refine ⟨t1,t2,?_⟩
 rw [m.trees]
 refine Calls.callWith_builtin rfl (Calls.evalArgs_plain (Calls.spliced_cons (cT (he pins s1 σ H1 _ I1 q1) fun iv s2 ⟨y,H2,I2,ry,az,k,v,b,ea,ey,eb,l,q2⟩=>Calls.spliced_nil ?_)))
 subst ey
 obtain rfl:iv=Value.ref b:=ry
 exact IS hu I2 ea eb l fun w' s3 I3 tj=>⟨v,_,I3,tj,q2⟩
theorem yX:bt X (.builtin "len") (fun xs H Q=>∃ a az,xs=[V.ref a]/\H a=some (.dT az)/\Q (.int az.length) H):=by
 intro pins s σ H xs us Q I r h
 obtain ⟨a,az,rfl,ha,q⟩:=h
 obtain ⟨u,rfl,ru⟩:=vals1 r
 cases ru
 obtain ⟨z,lo,ys,pr,o,es,ep,h1,h2,h3,h4,h5⟩:=(show bx X.prog X.w H s.heap a (.dT az) from I.bK a _ ha)
 have el:es.size=az.length:=by
  have:=congrArg List.length h4
  rw [Array.length_toList,List.length_map] at this
  rw [this,<-Paired.length pr]
 refine SO.EB lo ⟨o,h1,h2.1,h3⟩ (by rw [sizeLine_eq] at z; lia) ⟨.int az.length,H,I.tok _,⟨_,by rw [el]⟩,q⟩
theorem yY (hc:X.calm=true) (hu:X.A.units+1<cLine):bt X (.builtin "max") (fun xs H Q=>∃ (d:Addr) (az:List (List Key × V)) (k:List Int) (ks:List (List Int)),xs=[.ref d]/\H d=some (.dT az)/\az.map (·.1)=(k::ks).map iK/\(∀ x∈k::ks,x≠[])/\∀ a,H a=some (.tup ((SO.vN k ks).map V.int))->Q (.ref a) H):=by
 intro pins s σ H xs us Q I r h
 obtain ⟨d,az,k,ks,rfl,hd,hk,vG,q⟩:=h
 obtain ⟨u,rfl,ru⟩:=vals1 r
 cases ru
 obtain ⟨_,lo,xs,pr,o,es,ep,h1,h2,h3,h4,h5⟩:=(show bx X.prog X.w H s.heap d (.dT az) from I.bK d _ hd)
 have key:∀ {az:List (List Key × V)} {xs:List (List Key × Addr × Value)} {ks:List (List Int)},KT H az xs->az.map (·.1)=ks.map iK->(∀ k∈ks,k≠[]) ->
   ∃ zs:List (Value × List Int),zs.map (·.1)=xs.map (fun x=>Value.ref x.2.1)/\zs.map (·.2)=ks/\∀ z∈zs,SO.ef s.heap z.1 z.2/\∃ a,z.1=.ref a/\H a=some (.tup (z.2.map V.int)):=by
  intro az xs ks pr
  induction pr generalizing ks with
  | nil=>
   intro e _
   cases ks with
   | nil=>exact ⟨[],rfl,rfl,fun z m=>by cases m⟩
   | cons=>cases e
  | @cons p x ps ys a _ ih=>
   intro e ne
   cases ks with
   | nil=>cases e
   | cons k ks=>
    injection e with e1 e2
    replace e1:p.1=iK k:=e1
    obtain ⟨zs,i1,i2,i3⟩:=ih e2 fun k m=>ne k (List.mem_cons_of_mem _ m)
    have ht:H x.2.1=some (.tup (k.map V.int)):=by rw [<-LQ,<-e1]; exact a.2.1
    obtain ⟨_,aD,rv,o,g1,g2,n,g3⟩:=(show bx X.prog X.w H s.heap x.2.1 (.tup (k.map V.int)) from I.bK _ _ ht)
    refine ⟨(.ref x.2.1,k)::zs,by rw [List.map_cons,List.map_cons,i1],by rw [List.map_cons,i2],fun z m=>?_⟩
    rcases List.mem_cons.mp m with m | m
    ·rw [m]; exact ⟨⟨ne k List.mem_cons_self,x.2.1,o,aD.toArray,n,rfl,g1,g2,g3,i4 rv⟩,_,rfl,ht⟩
    ·exact i3 z m
 obtain ⟨zs,z1,z2,z3⟩:=key pr hk vG
 have ev:es.toList.map (·.key)=zs.map (·.1):=by rw [z1,h4,List.map_map]; rfl
 cases zs with
 | nil=>cases z2
 | cons z zs=>
  injection z2 with e1 e2
  replace e1:z.2=k:=e1
  replace e2:zs.map (·.2)=ks:=e2
  refine SO.ED (I.ok.hd hc) hu lo ⟨o,h1,h2.1,h3⟩ ev (fun y hy=>(z3 y hy).1) fun h' tk kp=>?_
  obtain ⟨_,a,ea,ha⟩:=z3 _ (SO.uu zs z)
  rw [SO.uv,e1,e2] at ha
  rw [ea]
  exact ⟨.ref a,H,I.kept kp,rfl,q a ha⟩
theorem yZ (hh:X.A.handled=none):bt X (.builtin "min") (fun xs H Q=>∃ a ns,xs=[.ref a]/\ju X.K H a (ns.map V.int)/\ns≠[]/\Q (.int (SO.gf (fun i=>ns.getD i 0) (ns.length-1))) H):=by
 rintro pins s σ H xs ws Q I r ⟨a,ns,rfl,ha,vG,q⟩
 obtain ⟨u,rfl,ru⟩:=vals1 r
 cases ru
 obtain ⟨aD,r1,p1,_⟩:=I.tuple ha
 obtain ⟨o,ho,hc,n,hd⟩:=id p1
 exact SO.yW hh ⟨o,ho,hc,n,hd⟩ (i4 r1) vG fun t h' tk kp=>⟨.int _,H,I.kept kp,⟨t,rfl⟩,q⟩
end
end L2
namespace MN
open PySem PySem.Spec L2
open PyProof.Rows hiding St kindOf
section
variable {κ:Type} [DecidableEq κ]
noncomputable def uw (az:List (κ × Val)) (k:κ):List (κ × Val):=az.filter fun kv=>decide (kv.1≠k)
theorem eG.drop {K:PySem.W.Frag} {ρ:List Addr} {H:Hp} (k:κ):∀ {az:List (κ × Val)} {l:List (κ × V)},eG K ρ H az l->eG K ρ H (uw az k) (l7 l k)
 | [],l,p=>by rw [p.dJ]; exact eG.nil
 | (k',u)::az,l,p=>by
  obtain ⟨v,l',rfl,r,p'⟩:=p.bV
  have ih:=eG.drop k p'
  unfold uw l7 at ih ⊢
  by_cases e:k'=k
  ·rw [List.filter_cons_of_neg (by simp [e]),List.filter_cons_of_neg (by simp [e])]; exact ih
  ·rw [List.filter_cons_of_pos (by simp [e]),List.filter_cons_of_pos (by simp [e])]; exact eG.cons r ih
end
noncomputable def BF (d k:Val) (st:ah):Res Val:=match d with
 | .loc n=>match st[n]? with
  | some (.dT az)=>match h_ k with
   | some ks=>match pH az ks with
    | some v=>.ok v (st.set n (.dT (uw az ks)))
    | none=>.bad
   | none=>.bad
  | _=>.bad
 | _=>.bad
noncomputable def xB (d k:ME):ME:=fun μ st=>(d μ st).bind fun dv aV=>if oq aV dv=true then (k μ aV).bind fun kv cJ=>BF dv kv cJ else .bad
noncomputable def vP:FN
 | [.loc n],st=>match st[n]? with
  | some (.dT az)=>.ok (.int az.length) st
  | _=>.bad
 | _,_=>.bad
noncomputable def vQ:FN
 | [.loc n],st=>match st[n]? with
  | some (.dT az)=>match kA (az.map (·.1)) with
   | some (k::ks)=>if (k::ks).all (fun k => !k.isEmpty)=true then .ok (tupI (SO.vN k ks)) st else .bad
   | _=>.bad
  | _=>.bad
 | _,_=>.bad
noncomputable def pK:FN
 | [.tup us],st=>match gP us with
  | some (n::ns)=>.ok (.int (SO.gf (fun i=>(n::ns).getD i 0) ns.length)) st
  | _=>.bad
 | _,_=>.bad
section
variable {X:Cx} {E:XK} {o e:Expr} {apos a7:Pos} {md mk:ME}
theorem EE (hu:X.A.units+64<cLine) (ho:PE X o (tE X E md)) (he:PE X e (tE X E mk)) (m:M1 X o "pop" apos e a7:=by exact ⟨rfl,rfl,rfl,rfl⟩):PE X (.Call (.Attribute o "pop" apos) [e] [] a7) (tE X E (xB md mk)):=by
 refine PE.imp (BE (by lia) ho he m) ?_
 rintro σ H Q ⟨μ,ρ,st,rs,sr,h⟩
 refine go μ ρ st rs sr h fun d aV ρ1 H1 x e1 bW r1 h1=>?_
 split at h1
 ·rename_i hd
  obtain ⟨a,rfl,ia⟩:=xg bW r1 hd
  refine ⟨a,rfl,ia,?_⟩
  refine go μ ρ1 aV (rs.mono e1) bW h1 fun k cJ ρ2 H2 y e2 pE r2 h2=>?_
  have S0:=Rl.mono e2 _ _ r1
  unfold BF at h2
  split at h2
  ·rename_i n
   obtain ⟨a',ea,ha⟩:=S0.cZ
   cases ea
   split at h2
   ·rename_i az hn
    obtain ⟨l,hl,p⟩:=pE.cell n _ a hn ha
    split at h2
    ·rename_i ks hk
     obtain ⟨b,rfl,hb⟩:=kh r2 hk
     split at h2
     ·rename_i v hv
      rcases p.val ks with ⟨z,_⟩ | ⟨u',v',z,zv,rv⟩
      ·rw [hv] at z; cases z
      ·rw [hv] at z
       cases z
       have IU:Step ρ2 H2 ρ2 (upd H2 a (.dT (l7 l ks))):=Step.put hl (fun _ z=>by cases z) (fun _ _ z=>by cases z)
       refine ⟨l,ks,v',b,hl,rfl,hb,zv,h2 ρ2 _ v' IU ?_ (Rl.mono IU _ _ rv)⟩
       exact pE.set hn rfl rfl ha hl (fun _ z=>by cases z) (fun _ _ z=>by cases z) ⟨_,bU,(p.drop ks).mono IU⟩
     ·exact h2.elim
    ·exact h2.elim
   ·exact h2.elim
  ·exact h2.elim
 ·exact h1.elim
theorem vR:bt X (.builtin "len") (cM (wo X) E vP):=by
 refine bt.imp yX ?_
 rintro xs H Q ⟨ρ,st,us,sr,r,h⟩
 unfold vP at h
 split at h
 ·rename_i n
  obtain ⟨v,rfl,r1⟩:=r.tN
  obtain ⟨a,rfl,ha⟩:=r1.cZ
  split at h
  ·rename_i az hn
   obtain ⟨l,hl,p⟩:=sr.cell n _ a hn ha
   refine ⟨a,l,rfl,hl,?_⟩
   rw [<-p.length]; exact du sr h
  ·exact h.elim
 ·exact h.elim
theorem vS (hc:X.calm=true) (hu:X.A.units+64<cLine):bt X (.builtin "max") (cM (wo X) E vQ):=by
 refine bt.imp (yY hc (by lia)) ?_
 rintro xs H Q ⟨ρ,st,us,sr,r,h⟩
 unfold vQ at h
 split at h
 ·rename_i n
  obtain ⟨v,rfl,r1⟩:=r.tN
  obtain ⟨a,rfl,ha⟩:=r1.cZ
  split at h
  ·rename_i az hn
   obtain ⟨l,hl,p⟩:=sr.cell n _ a hn ha
   split at h
   ·rename_i k ks hk
    split at h
    ·rename_i hz
     refine ⟨a,l,k,ks,rfl,hl,by rw [<-p.1]; exact uk hk,fun x m z=>?_,fun b hb=>h ρ H _ (Step.refl _ _) sr (Rl.nU hb (aS.ints _))⟩
     have:=List.all_eq_true.mp hz x m
     rw [z] at this; cases this
    ·exact h.elim
   ·exact h.elim
  ·exact h.elim
 ·exact h.elim
theorem vT (hh:X.A.handled=none):bt X (.builtin "min") (cM (wo X) E pK):=by
 refine bt.imp (yZ hh) ?_
 rintro xs H Q ⟨ρ,st,us,sr,r,h⟩
 unfold pK at h
 split at h
 ·rename_i ws
  obtain ⟨v,rfl,r1⟩:=r.tN
  split at h
  ·rename_i n ns hk
   rw [lG hk] at r1
   obtain ⟨a,vs,rfl,ha,ra⟩:=r1.fe
   rw [aS.r_ ra] at ha
   exact ⟨a,n::ns,rfl,ha,by simp,du sr h⟩
  ·exact h.elim
 ·exact h.elim
end
end MN
namespace L2
open PySem PySem.Spec PyProof.Rows PySem.W
section
variable {X:Cx}
theorem pL:bt X (.builtin "isinstance") (fun xs H Q=>∃ (ea:Addr) (oe:Obj) (C D:Addr) (b:Bool),xs=[.ref ea,.ref D]/\(ea,oe)∈X.pn/\oe.cls=.ref C/\iX X.K C/\kitOne X.K (.ref C) (.ref D)=some b/\Q (.bl b) H):=by
 intro pins s σ H xs us Q I r h
 obtain ⟨ea,oe,C,D,b,rfl,hp,hc,hq,hk,q⟩:=h
 have he:=(I.pin (ea,oe) (List.mem_append_left _ hp)).1
 obtain ⟨u,u2,rfl,ru,Hu⟩:=vals2 r
 cases ru
 cases Hu
 exact kia_one (A3 hc hq) I.lY he hk (by intro z; cases z) fun tk=>⟨.bl b,H,I.tok tk,rfl,q⟩
end
end L2
namespace MN
open PySem PySem.Spec L2
open PyProof.Rows hiding St
noncomputable def cS (sub:Str->Str->Option Bool) (qs:List Str) (i:Nat) (x:Str):ME:=fun μ st=>match μ[i]? with
 | some (some (.exc c))=>if qs.contains c then (match sub c x with
  | some b=>.ok (.bl b) st
  | none=>.bad) else .bad
 | _=>.bad
section
variable {X:Cx} {E:XK} {pos p q1 q2:Pos} {n x:Str} {tab:List (Str × Str × Bool)} {qs:List Str}
theorem cE (i:Nat) (hS:dH X.K X.mg tab) (hQ:pI X.K X.mg qs) (h:Ea X.K X.mg x) (hg:Gl X "isinstance") (hm:X.mg "isinstance" = none) (JG:Gl X x) (hN:X.N[i]?=some n:=by rfl) (hv:CZ X.env.scope n:=by first | exact Or.inl rfl | exact Or.inr (Or.inl rfl))
  (hd:(n==("__debug__":Str))=false:=by decide) (nE:(n==("__classdict__":Str))=false:=by decide) (JH:(x==("__debug__":Str))=false:=by decide)
  (hs:starEach [.Name n q1,.Name x q2] X.env=(false,eval (.Name n q1) X.env)::starEach [.Name x q2] X.env:=by rfl) (dk:starEach [.Name x q2] X.env=(false,eval (.Name x q2) X.env)::starEach [] X.env:=by rfl)
  (iF:(backTo pos (starEach [.Name x q2] X.env)).any (·.1)=false:=by rfl):PE X (.Call (.Name "isinstance" p) [.Name n q1,.Name x q2] [] pos) (tE X E (cS (bp tab) qs i x)):=by
 obtain ⟨D,hD,_,_⟩:=h
 refine PE.imp (j8 pL hg hm PyProof.Rows.boot_isinstance (fE (qU (i:=i) hN hv hd nE) (fE (wF (v:=.ref D) JG hD rfl JH) kY dk) hs) (by decide) (by decide) hs iF) ?_
 rintro σ H Q ⟨μ,ρ,st,rs,sr,h⟩
 unfold cS at h
 split at h
 ·rename_i c e
  split at h
  ·rename_i S1
   split at h
   ·rename_i b eb
    obtain ⟨w,e',a,oe,C,rfl,hp,hC,ho⟩:=rs.at_ i _ e
    obtain ⟨C',Rk,hq⟩:=hQ.at_ S1
    have hC:X.mg c=some (.ref C):=hC
    rw [hC] at Rk
    cases Rk
    refine ⟨_,e',a,oe,C,D,b,rfl,hp,ho,hq,?_,cN sr h⟩
    have k:=hS.Ll c x b C D eb hC hD
    unfold PySem.W.kitOne
    split
    ·rename_i z
     have z:=beq_iff_eq.mp z
     cases z
     rw [hq.kc] at k
     exact k
    ·exact k
   ·exact h.elim
  ·exact h.elim
 ·exact h.elim
end
section
variable {P:Program} {w:World} {K:PySem.W.Frag} {mg:Str->Option Value} {base:Heap}
end
end MN
namespace PM
open PySem PySem.Spec L2 MN
open PyProof.Rows hiding St
noncomputable def b_:FN:=mU 3 7 (gJ (fA (ae 1)) (eu [(aName 3),(aName 4)]) (aI (aL 5 (ak PM.joined (aa (ae 3) (aa (ag aZ (ae 2) (mC (.int 0))) aj)))) (aI (aL 6 (ag mV (gA (ae 0) (ae 5) (mC (.int 0))) (ag cw (ag aZ (ae 2) (mC (.int 1))) (ae 4)))) (fL (bM (ag e9 (ae 6) (mC (.int 0)))) (cR (xB (ae 0) (ae 5))) (lu (ae 0) (ae 5) (ae 6))))))
noncomputable def a9:FN:=mU 2 7 (aI (aL 2 (bb aj)) (aI (gJ (fA (ae 0)) (eu [(aName 3),(aName 4)]) (gJ (fA (ae 1)) (eu [(aName 5),(aName 6)]) (cR (fH bX (ae 2) (aa (d8 (aa (ak ff (aa (cD 1 [3,5] (cz (aa (ak dZ (aa (ae 3) aj)) aj)) (aName 0) bz (ag cb (ag aZ (ae 1) (ae 0)) (ag aZ (ae 2) (ae 0)))) aj)) (aa (ag cw (ae 4) (ae 6)) aj))) aj))))) (aR (ak PM.bT (aa (ae 2) aj)))))
noncomputable def bo:FN:=mU 2 2 (aR (ak PM.bT (aa (ag cb (ae 0) (ae 1)) aj)))
noncomputable def aW:FN:=mU 5 8 (aI (aL 5 (bb aj)) (aI (gJ (cz (aa (ae 2) aj)) (aName 6) (aI (aL 7 (ak ff (aa (cD 1 [0,6,3] (cz (aa (ae 1) aj)) (aName 0) bz (ag bR (ak PM.dw (aa (ae 1) (aa (ag cb (ag cw (mC (.int 5)) (ae 2)) (ae 0)) aj))) (ag cb (ae 3) (mC (.int 1))))) aj))) (cR (fH bX (ae 5) (aa (d8 (aa (ae 7) (aa (ak PM.bw (aa (ak PM.dw (aa (ae 0) (aa (ag cb (ag cw (mC (.int 5)) (ae 6)) (mC (.int 4))) aj))) (aa (ae 4) aj))) aj))) aj))))) (aR (ak PM.bT (aa (ae 5) aj)))))
noncomputable def aQ:FN:=mU 2 6 (aI (aL 2 (ak vM (aa (ae 0) aj))) (aI (aL 3 (bb aj)) (aI (gw (bM (ag M_ (ak vP (aa (ae 2) aj)) (mC (.int 0)))) (aI (aL 4 (ak vQ (aa (ae 2) aj))) (aI (fL (fw (cQ (bM (ak PM.dS (aa (ag aZ (ag aZ (ae 1) (mC (.int 0))) (mC (.int 0))) (aa (ae 4) aj))))) (bM (ag iL (ag bR (ag de (ae 2) (ae 4)) (ag aZ (ag aZ (ae 1) (mC (.int 0))) (mC (.int 1)))) (mC (.int 0))))) (aR (mC .bD)) bh) (aI (aL 5 (d8 (aa (ak PM.gn (aa (ae 4) (aa (ag aZ (ag aZ (ae 1) (mC (.int 0))) (mC (.int 0))) aj))) (aa (ag cL (ag de (ae 2) (ae 4)) (ag aZ (ag aZ (ae 1) (mC (.int 0))) (mC (.int 1)))) aj)))) (aI (cR (fH bX (ae 3) (aa (ae 5) aj))) (cR (ak PM.b_ (aa (ae 2) (aa (ae 1) (aa (ae 5) aj)))))))))) (aR (ae 3)))))
noncomputable def bA:FN:=mU 2 4 (aI (aL 2 (bb aj)) (aI (gw (bM (ag iL (ae 0) (bb aj))) (aI (aL 3 (ak ff (aa (cD 1 [1,0] (cz (aa (ak dZ (aa (ag aZ (ag aZ (ae 1) (mC (.int 0))) (mC (.int 0))) aj)) aj)) (aName 0) bz (ag mV (ag aZ (ag aZ (ag aZ (ae 2) (mC (.int 0))) (mC (.int 0))) (ae 0)) (ag aZ (ag aZ (ag aZ (ae 1) (mC (.int 0))) (mC (.int 0))) (ae 0)))) aj))) (aI (fL (fw (bM (ag ltV (ak pK (aa (ae 3) aj)) (mC (.int 0)))) (bM (ag iL (ag bR (ag aZ (ag aZ (ae 0) (mC (.int 0))) (mC (.int 1))) (ag aZ (ag aZ (ae 1) (mC (.int 0))) (mC (.int 1)))) (mC (.int 0))))) (aR (mC .bD)) bh) (aI (cR (fH bX (ae 2) (aa (d8 (aa (ae 3) (aa (ag cL (ag aZ (ag aZ (ae 0) (mC (.int 0))) (mC (.int 1))) (ag aZ (ag aZ (ae 1) (mC (.int 0))) (mC (.int 1)))) aj))) aj))) (aL 0 (ak PM.bo (aa (ae 0) (aa (cD 1 [] (fA (ak PM.a9 (aa (Ed (ae 2) (kl (mW (mC (.int 1)))) kj) (aa (ae 1) aj)))) (aName 0) bz (d8 (aa (ag aZ (ae 0) (mC (.int 0))) (aa (mW (ag aZ (ae 0) (mC (.int 1)))) aj)))) aj)))))))) (aR (ae 2))))
noncomputable def aX:FN:=mU 2 3 (aI (fL (bM (ag e9 (ak dZ (aa (ae 1) aj)) (mC (.int 0)))) (jH "ByNought" (aa (mC (.str "no sum is divided by nought")) aj)) bh) (aI (aL 2 (ak PM.aQ (aa (ae 0) (aa (ae 1) aj)))) (aI (fL (bM (ag (CM false) (ae 2) (mC .bD))) (jH "NotWhole" (aa (mC (.str "no sum makes the first one of the second")) aj)) bh) (aR (ae 2)))))
end PM
namespace MN
open PySem PySem.Spec L2
open PyProof.Rows hiding St
section
variable {K:PySem.W.Frag} {h:Heap} {mg:Str->Option Value}
noncomputable def oG (K:PySem.W.Frag) (x:Str) (st:Stmt):Prop:=∃ (f:Addr) (fd:FuncData),j_ K x x st f fd/\PySem.W.nsIn K mainGlobals x=some (some (.ref f))
theorem oG.mk {x:Str} {st:Stmt} {f:Addr} {oc:Value} {od an:Option Addr} {yc:Array (Option Value)} {kV doc pm cU ct:Value} (a:PySem.W.nsIn K mainGlobals x=some (some (.ref f))) (l:K.lookup f=some ⟨oc,od,.func (PySem.W.fnOf x x (fF st) (dj st) (aC st) .none kV doc pm an cU ct),yc⟩)
  (c:PySem.W.codeIn K cU x=true) (k:PySem.W.keepIn K (.ref f)=true):oG K x st:=⟨f,_,Ab l c k,a⟩
theorem oG.get {x:Str} {st:Stmt} (H:oG K x st) (X:K.In h) (G:h.Ns mainGlobals mg):∃ f fd,j_ K x x st f fd/\mg x=some (.ref f):=let ⟨f,fd,F,a⟩:=H; ⟨f,fd,F,PySem.W.mg_of X G a⟩
inductive vU (K:PySem.W.Frag):List Str->Prop
 | nil:vU K []
 | cons {x:Str} {r:List Str} (a:PySem.W.nsIn K mainGlobals x=some none) (t:vU K r):vU K (x::r)
@[reducible] def IV (mg:Str->Option Value):List Str->Prop
 | []=>True
 | x::r=>mg x=none/\IV mg r
theorem vU.get (X:K.In h) (G:h.Ns mainGlobals mg):∀ {l:List Str},vU K l->IV mg l
 | _,.nil=>trivial
 | _,.cons a t=>⟨PySem.W.mg_none_of X G a,t.get X G⟩
inductive vV (K:PySem.W.Frag):List Str->Prop
 | nil:vV K []
 | cons {x:Str} {r:List Str} {C:Addr} (a:PySem.W.nsIn K mainGlobals x=some (some (.ref C))) (e:PySem.W.excIn K C Q1 "ValueError.__new__" = true) (s:PySem.W.subIn K (.ref C) (.type "BaseException")=some true) (t:vV K r):vV K (x::r)
@[reducible] def IW (K:PySem.W.Frag) (mg:Str->Option Value):List Str->Prop
 | []=>True
 | x::r=>Ea K mg x/\IW K mg r
theorem vV.get (X:K.In h) (G:h.Ns mainGlobals mg):∀ {l:List Str},vV K l->IW K mg l
 | _,.nil=>trivial
 | _,.cons a e s t=>⟨⟨_,PySem.W.mg_of X G a,e,s⟩,t.get X G⟩
inductive oH (K:PySem.W.Frag):List (Str × Str × Bool)->Prop
 | nil:oH K []
 | cons {c x:Str} {b:Bool} {C D:Addr} {cd:ClassData} {r:List (Str × Str × Bool)} (h1:PySem.W.nsIn K mainGlobals c=some (some (.ref C))) (h2:PySem.W.nsIn K mainGlobals x=some (some (.ref D))) (h3:PySem.W.clsIn K D=some cd) (h4:PySem.W.typeIn K (.ref D)=some (.type "type")) (h5:PySem.W.subIn K (.ref C) (.ref D)=some b) (t:oH K r):oH K ((c,x,b)::r)
inductive oJ (K:PySem.W.Frag):List Str->Prop
 | nil:oJ K []
 | cons {c:Str} {C:Addr} {r:List Str} (h1:PySem.W.nsIn K mainGlobals c=some (some (.ref C))) (h3:PySem.W.kitOne K (.ref C) (.type "ValueError")=some true) (t:oJ K r):oJ K (c::r)
noncomputable def LX (l:List Str):List (Str × Str × Bool):=l.map fun c=>(c,"ValueError",true)
theorem oJ.get (X:K.In h) (G:h.Ns mainGlobals mg) (n:PySem.W.nsIn K mainGlobals "ValueError" = some none):∀ {l:List Str},oJ K l->dH K mg (LX l)
 | _,.nil=>.nil
 | _,.cons h1 h3 t=>.blt (PySem.W.mg_of X G h1) (PySem.W.mg_none_of X G n) jv h3 (t.get X G n)
theorem oH.get (X:K.In h) (G:h.Ns mainGlobals mg) {l':List (Str × Str × Bool)} (S:dH K mg l'):∀ {l:List (Str × Str × Bool)},oH K l->dH K mg (l++l')
 | _,.nil=>S
 | _,.cons h1 h2 h3 h4 h5 t=>.own (PySem.W.mg_of X G h1) (PySem.W.mg_of X G h2) (yE h3 h4 h5) (t.get X G S)
inductive vX (K:PySem.W.Frag):List Str->Prop
 | nil:vX K []
 | cons {x:Str} {r:List Str} {C:Addr} (a:PySem.W.nsIn K mainGlobals x=some (some (.ref C))) (q:L2.rS K C=true) (t:vX K r):vX K (x::r)
theorem vX.get (X:K.In h) (G:h.Ns mainGlobals mg):∀ {l:List Str},vX K l->pI K mg l
 | _,.nil=>.nil
 | _,.cons a q t=>.cons (PySem.W.mg_of X G a) q (t.get X G)
theorem pI.known {l:List Str} (Q:pI K mg l):Known mg (HY l):=fun c hc=>let ⟨C,h,_⟩:=Q.at_ hc; ⟨C,h⟩
end
section
variable {X:Cx} {E:XK} {pos:Pos} {a b:Expr} {ma mb:ME}
theorem cB (ha:PE X a (tE X E ma)) (hb:PE X b (tE X E mb)):PE X (.BinOp a .Add b pos) (tE X E (ag cb ma mb)):=lh D0 ha hb
theorem lJ (ha:PE X a (tE X E ma)) (hb:PE X b (tE X E mb)):PE X (.BinOp a .Sub b pos) (tE X E (ag mV ma mb)):=lh D2 ha hb
theorem c6 (ha:PE X a (tE X E ma)) (hb:PE X b (tE X E mb)):PE X (.BinOp a .Mult b pos) (tE X E (ag cw ma mb)):=lh D3 ha hb
theorem iq (ha:PE X a (tE X E ma)) (hb:PE X b (tE X E mb)):PE X (.BinOp a .FloorDiv b pos) (tE X E (ag cL ma mb)):=lh AD ha hb
theorem bZ (ha:PE X a (tE X E ma)) (hb:PE X b (tE X E mb)):PE X (.BinOp a .Mod b pos) (tE X E (ag bR ma mb)):=lh D4 ha hb
theorem BG (ha:PE X a (tE X E ma)) (hb:PE X b (tE X E mb)):PE X (.BinOp a .Pow b pos) (tE X E (ag AA ma mb)):=lh D5 ha hb
theorem BH (ha:PE X a (tE X E ma)) (hb:PE X b (tE X E mb)):PT X (.Compare a [.Lt] [b] pos) (tT X E (bM (ag ltV ma mb))):=iR HI ha hb
theorem LY (ha:PE X a (tE X E ma)) (hb:PE X b (tE X E mb)):PT X (.Compare a [.Gt] [b] pos) (tT X E (bM (ag M_ ma mb))):=iR HK ha hb
theorem jA (hu:X.A.units+64<cLine) (ha:PE X a (tE X E ma)) (hb:PE X b (tE X E mb)):PT X (.Compare a [.Eq] [b] pos) (tT X E (bM (ag e9 ma mb))):=iR (AG hu) ha hb
theorem i6 (hu:X.A.units+64<cLine) (ha:PE X a (tE X E ma)) (hb:PE X b (tE X E mb)):PT X (.Compare a [.NotEq] [b] pos) (tT X E (bM (ag iL ma mb))):=iR (HM hu) ha hb
theorem qw (hu:X.A.units+64<cLine) (ha:PE X a (tE X E ma)) (hb:PE X b (tE X E mb)):PE X (.Compare a [.Eq] [b] pos) (tE X E (ag e9 ma mb)):=Av (AG hu) ha hb
end
end MN
namespace EF
open PySem PySem.Spec L2 MN
open PyProof.Rows hiding St
noncomputable def LZ:List (Str × Str × Bool):=[(("ByNought":Str),("ByNought":Str),true),(("ByNought":Str),("NotWhole":Str),false),(("ByNought":Str),("NoMeet":Str),false),(("ByNought":Str),("NoParts":Str),false),(("ByNought":Str),("NoCount":Str),false),(("ByNought":Str),("NoInverse":Str),false),(("ByNought":Str),("NoLead":Str),false),(("ByNought":Str),("NoOrder":Str),false),(("ByNought":Str),("NoPrime":Str),false),(("ByNought":Str),("NoRing":Str),false),(("ByNought":Str),("NoSums":Str),false),(("ByNought":Str),("NoTerm":Str),false),(("ByNought":Str),("NotPlain":Str),false),(("ByNought":Str),("NotWritten":Str),false),(("ByNought":Str),("NoUnknowns":Str),false),(("ByNought":Str),("AlgebraError":Str),true),(("NotWhole":Str),("ByNought":Str),false),(("NotWhole":Str),("NotWhole":Str),true),(("NotWhole":Str),("NoMeet":Str),false),(("NotWhole":Str),("NoParts":Str),false),(("NotWhole":Str),("NoCount":Str),false),(("NotWhole":Str),("NoInverse":Str),false),(("NotWhole":Str),("NoLead":Str),false),(("NotWhole":Str),("NoOrder":Str),false),(("NotWhole":Str),("NoPrime":Str),false),(("NotWhole":Str),("NoRing":Str),false),(("NotWhole":Str),("NoSums":Str),false),(("NotWhole":Str),("NoTerm":Str),false),(("NotWhole":Str),("NotPlain":Str),false),(("NotWhole":Str),("NotWritten":Str),false),(("NotWhole":Str),("NoUnknowns":Str),false),(("NotWhole":Str),("AlgebraError":Str),true)]
noncomputable def tab:List (Str × Str × Bool):=LZ++LX ["ByNought","NotWhole"]
noncomputable def kn:List Str:=["ByNought","NotWhole"]
noncomputable def a8:Str->ah->Res Val:=Px 1 (aI (aL 1 (bb (aa (cS (bp tab) kn 0 "ByNought") (aa (cS (bp tab) kn 0 "NotWhole") (aa (cS (bp tab) kn 0 "NoMeet") aj))))) (aI (aL 1 (ag cb (ae 1) (bb (aa (cS (bp tab) kn 0 "NoParts") (aa (cS (bp tab) kn 0 "NoCount") (aa (cS (bp tab) kn 0 "NoInverse") aj)))))) (aI (aL 1 (ag cb (ae 1) (bb (aa (cS (bp tab) kn 0 "NoLead") (aa (cS (bp tab) kn 0 "NoOrder") (aa (cS (bp tab) kn 0 "NoPrime") aj)))))) (aI (aL 1 (ag cb (ae 1) (bb (aa (cS (bp tab) kn 0 "NoRing") (aa (cS (bp tab) kn 0 "NoSums") (aa (cS (bp tab) kn 0 "NoTerm") aj)))))) (aI (aL 1 (ag cb (ae 1) (bb (aa (cS (bp tab) kn 0 "NotPlain") (aa (cS (bp tab) kn 0 "NotWritten") (aa (cS (bp tab) kn 0 "NoUnknowns") aj)))))) (aI (fL (fw (cQ (bM (cS (bp tab) kn 0 "AlgebraError"))) (fw (cQ (bM (yD (bp tab) 0 "ValueError"))) (bM (ag iL (fH i5 (ae 1) (aa (mC (.bl true)) aj)) (mC (.int 1)))))) (aR (mW (mC (.int 1)))) bh) (aR (fH jT (ae 1) (aa (mC (.bl true)) aj)))))))))
noncomputable def bf:FN:=mU 2 3 (om (oj (HY kn) (aR (ak PM.aX (zD (aa (ae 0) (aa (ae 1) aj))))) (CN (bp tab) "AlgebraError" 2 (aR (gE 2 a8)) vz)))
noncomputable def qy:MB:=(aR (rF (ag e9 (ak PM.aX (aa (ag aZ (ae 8) (mC (.int 0))) (aa (ag aZ (ae 8) (mC (.int 1))) aj))) (ae 10)) (ag e9 (ae 8) (bb (aa (ae 5) (aa (ae 4) aj))))))
noncomputable def qA:MB:=(aI (cR (AX jL (ae 9))) qy)
noncomputable def qD:MB:=(aI (fL (bM (ag iL (ak PM.aX (aa (ag aZ (ae 8) (mC (.int 0))) (aa (ag aZ (ae 8) (mC (.int 1))) aj))) (ae 10))) (aR (mC (.bl false))) bh) qA)
noncomputable def qE:MB:=(aI (cR (fH bX (ae 9) (aa (mC (.int 0)) aj))) qD)
noncomputable def qF:MB:=(aI (fL (fw (cQ (bM (ak PM.cV (aa (ae 9) (aa (ae 1) aj))))) (bM (ag iL (ae 9) (ae 10)))) (aR (mC (.bl false))) bh) qE)
noncomputable def lK:MB:=(aI (fL (bM (ag (CM false) (ae 10) (mC .bD))) (aR (rF (ag e9 (ae 9) (mC (.int 1))) (ag e9 (ae 8) (bb (aa (ae 5) (aa (ae 4) aj)))))) bh) qF)
noncomputable def jk:MB:=(aI (aL 10 (ak PM.bA (aa (ae 5) (aa (ae 4) aj)))) lK)
noncomputable def lM:MB:=(aI (fL (bM (ag e9 (ae 4) (bb aj))) (aR (rF (ag e9 (ae 9) (mC (.int 0))) (ag e9 (ak bf (aa (bb aj) (aa (bb aj) aj))) (mC (.int 0))))) bh) jk)
noncomputable def lO:MB:=(aI (fL (bM (ag iL (ae 8) (bb (aa (ae 5) (aa (ae 4) aj))))) (aR (mC (.bl false))) bh) lM)
noncomputable def eV:MB:=(aI (aL 9 (ak bf (aa (ag aZ (ae 8) (mC (.int 0))) (aa (ag aZ (ae 8) (mC (.int 1))) aj)))) lO)
noncomputable def lP:MB:=(aI (aL 8 (bb (aa (ak pG (aa (ae 5) aj)) (aa (ak pG (aa (ae 4) aj)) aj)))) eV)
noncomputable def kC:MB:=(aI (fL (bM (ag e9 (ag bR (ag cL (ak PM.aE (aa (ae 0) (aa (mC (.int 1)) aj))) (mC (.int 36))) (mC (.int 8))) (mC (.int 1)))) (aL 4 (bb aj)) bh) lP)
noncomputable def gQ:MB:=(aI (fL (bM (ag e9 (ae 6) (mC (.int 3)))) (aL 5 (ak PM.bo (aa (ae 5) (aa (bb (aa (d8 (aa (ak ff (aa (ag cw (bb (aa (mC (.int 0)) aj)) (ae 1)) aj)) (aa (ag cb (mC (.int 1)) (ag bR (ak PM.aE (aa (ae 0) (aa (mC (.int 4)) aj))) (mC (.int 9)))) aj))) aj)) aj)))) bh) kC)
noncomputable def gR:MB:=(aI (fL (kg (bM (ag e9 (ae 6) (mC (.int 2)))) (bM (ag iL (ae 5) (bb aj)))) (aI (aL 7 (ag bR (ak PM.aE (aa (ae 0) (aa (mC (.int 4)) aj))) (ak dZ (aa (ae 5) aj)))) (aL 5 (ak PM.bo (aa (ae 5) (aa (bb (aa (d8 (aa (ag aZ (ag aZ (ae 5) (ae 7)) (mC (.int 0))) (aa (mC (.int 1)) aj))) aj)) aj))))) bh) gQ)
noncomputable def fU:MB:=(aI (fL (bM (ag e9 (ae 6) (mC (.int 1)))) (aL 5 (ak PM.bo (aa (ae 5) (aa (ak PM.aW (aa (ak PM.aE (aa (ae 0) (aa (mC (.int 4)) aj))) (aa (ae 1) (aa (mC (.int 1)) (aa (mC (.int 7)) (aa (ae 2) aj)))))) aj)))) bh) gR)
noncomputable def uz:MB:=(aI (aL 6 (ag bR (ag cL (ak PM.aE (aa (ae 0) (aa (mC (.int 1)) aj))) (mC (.int 9))) (mC (.int 4)))) fU)
noncomputable def uA:MB:=(aI (aL 5 (ak PM.a9 (aa (ae 3) (aa (ae 4) aj)))) uz)
noncomputable def uB:MB:=(aI (aL 4 (ak PM.aW (aa (ak PM.aE (aa (ae 0) (aa (mC (.int 3)) aj))) (aa (ae 1) (aa (ag bR (ag cL (ak PM.aE (aa (ae 0) (aa (mC (.int 0)) aj))) (mC (.int 24))) (mC (.int 6))) (aa (mC (.int 3)) (aa (ag bR (ag cL (ak PM.aE (aa (ae 0) (aa (mC (.int 1)) aj))) (mC (.int 3))) (mC (.int 3))) aj))))))) uA)
noncomputable def uC:MB:=(aI (aL 3 (ak PM.aW (aa (ak PM.aE (aa (ae 0) (aa (mC (.int 2)) aj))) (aa (ae 1) (aa (ag bR (ag cL (ak PM.aE (aa (ae 0) (aa (mC (.int 0)) aj))) (mC (.int 4))) (mC (.int 6))) (aa (mC (.int 3)) (aa (ae 2) aj))))))) uB)
noncomputable def oK:MB:=(aI (aL 2 (ag bR (ak PM.aE (aa (ae 0) (aa (mC (.int 1)) aj))) (mC (.int 3)))) uC)
noncomputable def BI:FN:=mU 1 11 (aI (aL 1 (ag cb (mC (.int 1)) (ag bR (ak PM.aE (aa (ae 0) (aa (mC (.int 0)) aj))) (mC (.int 4))))) oK)
end EF
namespace PG
open PySem PySem.Spec L2 MN
open PyProof.Rows hiding St kindOf
noncomputable def FP:List Int:=[2,3,5,7,11,13,17,19,23,29,31]
noncomputable def PN (n:Int):Bool:=FP.contains n || (decide (2<=n)&&decide (n<=997)&&FP.all fun p => !(n.fmod p==0))
end PG
namespace S2
end S2
namespace PG
open PySem PySem.Spec L2 MN
open PyProof.Rows hiding St kindOf
noncomputable def jB (n:Int):Bool:=n==0 || PN n
theorem y7 {p:Int} (h:PN p=true):2<=p/\p<=997:=by
 unfold PN at h
 rw [Bool.or_eq_true] at h
 rcases h with h | h
 ·have:p∈FP:=by simpa using h
  simp only [FP,List.mem_cons,List.not_mem_nil,or_false] at this
  omega
 ·simp only [Bool.and_eq_true,decide_eq_true_eq] at h
  omega
theorem BJ {p:Int} (hp:0<p) (i:Int):i.fmod p=i % p:=Int.fmod_eq_emod_of_nonneg i (by lia)
theorem EG {ns:List Int} {k:Int} (h0:0<=k) (h1:k<(ns.length:Int)):∃ c:Int,L2.px (ns.map Val.int) k=some (.int c):=by
 have hk:k.toNat<ns.length:=by lia
 refine ⟨ns[k.toNat],?_⟩
 have e:=L2.jc (xs:=ns.map Val.int) (j:=k.toNat) (v:=.int ns[k.toNat]) (by rw [List.getElem?_map,List.getElem?_eq_getElem hk]; rfl)
 rw [show ((k.toNat:Nat):Int)=k by lia] at e
 exact e
theorem fV {m:Int} (hm:0<m) (i:Int):0<=i.fmod m/\i.fmod m<m:=by
 rw [BJ hm]; exact ⟨Int.emod_nonneg _ (by lia),Int.emod_lt_of_pos _ hm⟩
theorem vY {j:Int} (h:0<j) (h1:j<2 ^ 64):Dz j:=by
 refine Dz.of (k:=64) (by lia) ?_ (by decide)
 show j.natAbs<2 ^ 64
 lia
noncomputable def S3 (n:Int) (u:Val):Bool:=match u with
 | .int b=>decide (b<n)&&(n.fmod b==0)
 | _=>false
noncomputable def Dg (n:Int):List Val:=(bH 2 30).filter (S3 n)
noncomputable def vZ (lo:Int) (n:Nat):List Int:=(List.range n).map fun (i:Nat)=>lo+(i:Int)
theorem fj (lo:Int) (n:Nat):bH lo n=(vZ lo n).map Val.int:=by unfold bH vZ; rw [List.map_map]; rfl
theorem at_getD {ns:List Int} {i:Int} (h0:0<=i) (h1:i<(ns.length:Int)):L2.px (ns.map Val.int) i=some (.int (ns.getD i.toNat 0)):=by
 have hk:i.toNat<ns.length:=by lia
 have e:=L2.jc (xs:=ns.map Val.int) (j:=i.toNat) (v:=.int ns[i.toNat]) (by rw [List.getElem?_map,List.getElem?_eq_getElem hk]; rfl)
 rw [show ((i.toNat:Nat):Int)=i by lia] at e
 rw [e,List.getD_eq_getElem?_getD,List.getElem?_eq_getElem hk]; rfl
theorem BK {n:Nat} {ns:List Int} {k:Int} {st:ah} (h:itemsOf st n=some (ns.map Val.int)) (k0:0<=k) (k1:k<=1000):∃ o,PM.aE [.loc n,.int k] st=.ok (.int o) st:=by
 have len:((List.map Val.int ns).length:Int)=(ns.length:Int):=by rw [List.length_map]
 have dz:Dz 2147483629:=vY (by decide) (by decide)
 have fin:∀ c:Int,((decide (k<((List.map Val.int ns).length:Int))=false/\c=0)\/(decide (k<((List.map Val.int ns).length:Int))=true/\L2.px (ns.map Val.int) k=some (.int c)))->∃ o,PM.aE [.loc n,.int k] st=.ok (.int o) st:=by
  intro c hc
  have q1:=fV (m:=2147483647) (by decide) ((c.fmod 2147483629+7919*(k+1))*48271)
  generalize hx:((c.fmod 2147483629+7919*(k+1))*48271).fmod 2147483647=x at q1
  have q2:=fV (m:=2147483629) (by decide) (x*x)
  have q3:=fV (m:=2147483647) (by decide) ((x*x).fmod 2147483629*69621)
  generalize hy:((x*x).fmod 2147483629*69621).fmod 2147483647=y at q3
  refine ⟨(c.fdiv 2147483629*2147483647+y)*2147483629+(y*y).fmod 2147483629,?_⟩
  have m1:∀ s,cw (.int x) (.int x) s=.ok (.int (x*x)) s:=fun s=>jz (by lia) (by lia)
  have m2:∀ s,cw (.int y) (.int y) s=.ok (.int (y*y)) s:=fun s=>jz (by lia) (by lia)
  rcases hc with ⟨h1,rfl⟩ | ⟨h1,h2⟩
  ·simp only [PM.aE,dF,aw,aT,ay,lC,gB,jw,gC,fS,d_,qi,ig,xj,rT,jM,ie,gD,dP,jf,au,nr,cF,fB,jN,jQ,FZ,jy,A_,jx,List.map_cons,List.map_nil,List.cons_append,List.nil_append,List.replicate_succ,List.replicate_zero,List.set_cons_zero,List.set_cons_succ,Nat.reduceSub,List.length_cons,List.length_nil,Nat.reduceAdd,kq h,h1,dI (j:=2147483629) (by decide),jz (i:=7919) (by decide) (by decide),mul_r (j:=48271) (by decide) (by decide),dI (j:=2147483647) (by decide),hx,m1,mul_r (j:=69621) (by decide) (by decide),hy,m2,div_ii dz,mul_r (j:=2147483647) (by decide) (by decide),mul_r (j:=2147483629) (by decide) (by decide)]
  ·simp only [PM.aE,dF,aw,aT,ay,lC,gB,jw,gC,fS,d_,qi,rY,xj,rT,jM,ie,gD,dP,jf,au,cF,fB,jN,jQ,FZ,jy,A_,jx,List.map_cons,List.map_nil,List.cons_append,List.nil_append,List.replicate_succ,List.replicate_zero,List.set_cons_zero,List.set_cons_succ,Nat.reduceSub,List.length_cons,List.length_nil,Nat.reduceAdd,kq h,h1,oA h h2,dI (j:=2147483629) (by decide),jz (i:=7919) (by decide) (by decide),mul_r (j:=48271) (by decide) (by decide),dI (j:=2147483647) (by decide),hx,m1,mul_r (j:=69621) (by decide) (by decide),hy,m2,div_ii dz,mul_r (j:=2147483647) (by decide) (by decide),mul_r (j:=2147483629) (by decide) (by decide)]
 by_cases hk:k<(ns.length:Int)
 ·obtain ⟨c,hc⟩:=EG k0 hk
  exact fin c (.inr ⟨decide_eq_true (by rw [len]; exact hk),hc⟩)
 ·exact fin 0 (.inl ⟨decide_eq_false (by rw [len]; exact hk),rfl⟩)
theorem v9 (c kind:Int) (c0:0<=c) (c1:c<2147483647):∃ v,(∀ st,PM.bw [.int c,.int kind] st=.ok (.int v) st)/\-(10 ^ 20)<=v/\v<=10 ^ 20:=by
 have cp:zP 10 20:=by decide
 have tn:(10:Int) ^ Int.toNat 20=100000000000000000000:=by decide
 have m1:∀ s,cw (.int c) (.int c) s=.ok (.int (c*c)) s:=fun s=>jz (by lia) (by lia)
 by_cases h0:kind=0
 ·have e0:(kind==0)=true:=by rw [h0]; rfl
  have q:=fV (m:=7) (by decide) c
  refine ⟨c.fmod 7-3,fun st=>?_,by lia,by lia⟩
  simp only [PM.bw,dF,aw,aT,A4,lC,gB,jw,gC,qi,rY,rT,jM,ie,au,cF,fB,vF,xn,jy,jx,List.map_cons,List.map_nil,List.cons_append,List.nil_append,List.replicate_zero,Nat.reduceSub,List.length_cons,List.length_nil,Nat.reduceAdd,e0,dI (j:=7) (by decide)]
 ·have e0:(kind==0)=false:=by simpa using h0
  by_cases h1:kind=1
  ·have e1:(kind==1)=true:=by rw [h1]; rfl
   have q:=fV (m:=199) (by decide) c
   refine ⟨c.fmod 199-99,fun st=>?_,by lia,by lia⟩
   simp only [PM.bw,dF,aw,aT,ay,A4,lC,gB,jw,gC,qi,rY,ig,rT,jM,ie,au,nr,cF,fB,vF,xn,jy,jx,List.map_cons,List.map_nil,List.cons_append,List.nil_append,List.replicate_zero,Nat.reduceSub,List.length_cons,List.length_nil,Nat.reduceAdd,e0,e1,dI (j:=199) (by decide)]
  ·have e1:(kind==1)=false:=by simpa using h1
   have q:=fV (m:=2*100000000000000000000+1) (by decide) (c*c*69621)
   refine ⟨(c*c*69621).fmod (2*100000000000000000000+1)-100000000000000000000,fun st=>?_,by lia,by lia⟩
   simp only [PM.bw,dF,aw,aT,ay,lC,gB,jw,gC,qi,ig,rT,jM,ie,au,nr,cF,fB,jQ,vF,xn,jy,jx,List.map_cons,List.map_nil,List.cons_append,List.nil_append,List.replicate_zero,Nat.reduceSub,List.length_cons,List.length_nil,Nat.reduceAdd,e0,e1,m1,mul_r (j:=69621) (by decide) (by decide),Ig cp,tn,jz (i:=2) (by decide) (by decide),dI (j:=2*100000000000000000000+1) (by decide)]
noncomputable abbrev aA:=List Int × Int
noncomputable def tV (t:aA):Val:=.tup [tupI t.1,.int t.2]
noncomputable def eD (t:aA):List Key × Val:=(iK t.1,.int t.2)
noncomputable def aO (A:List aA) (k:List Int):Int:=((A.find? fun p=>decide (p.1=k)).map (·.2)).getD 0
noncomputable def fC (A:List aA) (k:List Int) (v:Int):List aA:=if A.any (fun p=>decide (p.1=k)) then A.map (fun p=>if p.1=k then (p.1,v) else p) else A++[(k,v)]
theorem BL (a k:List Int):decide (iK a=iK k)=decide (a=k):=by
 by_cases h:a=k
 ·rw [h,decide_eq_true rfl,decide_eq_true rfl]
 ·rw [decide_eq_false h,decide_eq_false fun e=>h (vJ e)]
theorem sf (k:List Int):∀ A:List aA,pH (A.map eD) (iK k)=(A.find? fun p=>decide (p.1=k)).map fun p=>Val.int p.2
 | []=>rfl
 | p::A=>by
  unfold pH
  rw [List.map_cons,List.find?_cons,List.find?_cons]
  show Option.map _ (match decide (iK p.1=iK k) with | true=>some (eD p) | false=>_)=_
  rw [BL]
  cases decide (p.1=k) with
  | true=>rfl
  | false=>exact sf k A
theorem BM (k:List Int):∀ A:List aA,((A.map eD).any fun kv=>decide (kv.1=iK k))=A.any fun p=>decide (p.1=k)
 | []=>rfl
 | p::A=>by
  rw [List.map_cons,List.any_cons,List.any_cons,BM k A]
  show (decide (iK p.1=iK k) || _)=_
  rw [BL]
theorem xC (A:List aA) (k:List Int) (v:Int):rO (A.map eD) (iK k) (.int v)=(fC A k v).map eD:=by
 unfold rO fC
 rw [BM]
 by_cases h:(A.any fun p=>decide (p.1=k))=true
 ·rw [if_pos h,if_pos h,List.map_map,List.map_map]
  refine List.map_congr_left fun p _=>?_
  show (if iK p.1=iK k then (iK p.1,Val.int v) else eD p)=eD (if p.1=k then (p.1,v) else p)
  by_cases e:p.1=k
  ·rw [if_pos e,if_pos (by rw [e])]; rfl
  ·rw [if_neg e,if_neg fun z=>e (vJ z)]
 ·rw [if_neg h,if_neg h,List.map_append]; rfl
theorem jl (k:List Int):h_ (tupI k)=some (iK k):=by
 have h:∀ k:List Int,keysOf (k.map Val.int)=some (iK k):=by
  intro k
  induction k with
  | nil=>rfl
  | cons x k ih=>
   rw [List.map_cons]
   unfold keysOf
   show (match keyOf (Val.int x),keysOf (k.map Val.int) with | some a,some b=>some (a::b) | _,_=>none)=_
   rw [ih]; rfl
 show keysOf (k.map Val.int)=_
 exact h k
theorem sh {st:ah} {d:Nat} {A:List aA} (h:st[d]?=some (.dT (A.map eD))) (k:List Int):ki st (.loc d) (tupI k)=some ((A.find? fun p=>decide (p.1=k)).map fun p=>Val.int p.2):=by
 unfold ki
 dsimp only
 rw [h]
 dsimp only
 rw [jl,Option.map_some,sf]
theorem qG {st:ah} {d:Nat} {A:List aA} (h:st[d]?=some (.dT (A.map eD))) (hl:A.length<sizeLine) (k:List Int) (v:Int):jK st (.loc d) (tupI k) (.int v)=some (st.set d (.dT ((fC A k v).map eD))):=by
 unfold jK
 dsimp only
 rw [h]
 dsimp only
 rw [if_pos (by rw [List.length_map]; exact hl),jl,Option.map_some,xC]
theorem qH (A:List aA) (k:List Int):((A.find? fun p=>decide (p.1=k)).map fun p=>Val.int p.2).getD (.int 0)=.int (aO A k):=by
 unfold aO
 cases A.find? fun p=>decide (p.1=k) with
 | none=>rfl
 | some p=>rfl
theorem y8 {A:List aA} {k:List Int} {v:Int}:(fC A k v).map (·.1)=if A.any (fun p=>decide (p.1=k)) then A.map (·.1) else A.map (·.1)++[k]:=by
 unfold fC
 by_cases h:(A.any fun p=>decide (p.1=k))=true
 ·rw [if_pos h,if_pos h,List.map_map]
  refine List.map_congr_left fun p _=>?_
  show (if p.1=k then (p.1,v) else p).1=p.1
  split <;> rfl
 ·rw [if_neg h,if_neg h,List.map_append]; rfl
theorem si {A:List aA} {k:List Int}:(A.any fun p=>decide (p.1=k))=true↔k∈A.map (·.1):=by
 rw [List.any_eq_true,List.mem_map]
 constructor
 ·rintro ⟨p,hp,e⟩; exact ⟨p,hp,of_decide_eq_true e⟩
 ·rintro ⟨p,hp,e⟩; exact ⟨p,hp,decide_eq_true e⟩
theorem jU {A:List aA} (h:(A.map (·.1)).Nodup) (k:List Int) (v:Int):((fC A k v).map (·.1)).Nodup:=by
 rw [y8]
 by_cases c:(A.any fun p=>decide (p.1=k))=true
 ·rw [if_pos c]; exact h
 ·rw [if_neg c]
  refine List.nodup_append.mpr ⟨h,List.pairwise_singleton _ _,?_⟩
  intro a ha b hb e
  rw [List.mem_singleton.mp hb] at e
  exact c (si.mpr (e ▸ ha))
theorem uD {A:List aA} {k:List Int} {v:Int}:(fC A k v).length<=A.length+1:=by
 unfold fC
 split
 ·rw [List.length_map]; lia
 ·rw [List.length_append]; exact Nat.le_refl _
theorem oM {A:List aA} {k:List Int} {v:Int} {t:aA} (h:t∈fC A k v):t∈A\/t=(k,v):=by
 unfold fC at h
 split at h
 ·obtain ⟨p,hp,e⟩:=List.mem_map.mp h
  by_cases c:p.1=k
  ·rw [if_pos c] at e; right; rw [<-e,c]
  ·rw [if_neg c] at e; left; rw [<-e]; exact hp
 ·rcases List.mem_append.mp h with h | h
  ·exact .inl h
  ·exact .inr (List.mem_singleton.mp h)
theorem uE {A:List aA} {k:List Int} (h:k∈A.map (·.1)):(k,aO A k)∈A:=by
 unfold aO
 cases z:A.find? fun p=>decide (p.1=k) with
 | none=>
  rw [List.find?_eq_none] at z
  obtain ⟨p,hp,e⟩:=List.mem_map.mp h
  exact absurd (decide_eq_true e) (z p hp)
 | some p=>
  have e:=List.find?_some z
  have m:=List.mem_of_find?_eq_some z
  have e':p.1=k:=of_decide_eq_true e
  show (k,p.2)∈A
  rw [<-e']; exact m
theorem v_ {A:List aA} {k:List Int} {b:Int} (b0:0<=b) (h:∀ t∈A,-b<=t.2/\t.2<=b):-b<=aO A k/\aO A k<=b:=by
 unfold aO
 cases z:A.find? fun p=>decide (p.1=k) with
 | none=>show -b<=0/\(0:Int)<=b; lia
 | some p=>exact h p (List.mem_of_find?_eq_some z)
noncomputable abbrev y9:MB:=lu (ae 1) (ae 2) (ag cb (gA (ae 1) (ae 2) (mC (.int 0))) (ae 3))
theorem BN {s:ah} {p d:Nat} {A:List aA} {k:List Int} {v:Int} (h:s[d]?=some (.dT (A.map eD))) (hl:A.length<sizeLine) :
  y9 [some (.loc p),some (.loc d),some (tupI k),some (.int v)] s=.nx [some (.loc p),some (.loc d),some (tupI k),some (.int v)] (s.set d (.dT ((fC A k (aO A k+v)).map eD))):=by
 have hd:oq s (.loc d)=true:=by
  unfold oq
  dsimp only
  rw [h]
 have e1:gA (ae 1) (ae 2) (mC (.int 0)) [some (.loc p),some (.loc d),some (tupI k),some (.int v)] s=.ok (.int (aO A k)) s:=by
  show (if oq s (.loc d)=true then (match ki s (.loc d) (tupI k) with | some o=>Res.ok (o.getD (.int 0)) s | none=>.bad) else .bad)=_
  rw [if_pos hd,sh h k]
  show Res.ok (Option.getD _ (Val.int 0)) s=_
  rw [qH]
 have e2:ag cb (gA (ae 1) (ae 2) (mC (.int 0))) (ae 3) [some (.loc p),some (.loc d),some (tupI k),some (.int v)] s=.ok (.int (aO A k+v)) s:=by
  unfold ag
  rw [e1]; rfl
 unfold y9 lu
 rw [e2]
 show (match jK s (.loc d) (tupI k) (.int (aO A k+v)) with | some mT=>dm.nx _ mT | none=>.bad)=_
 rw [qG h hl]
theorem set_dict (st:ah) (a b:List (List Key × Val)):(st++[Cell.dT a]).set st.length (.dT b)=st++[.dT b]:=Bf st _ _
theorem sj (st:ah) (a:List (List Key × Val)):(st++[Cell.dT a])[st.length]?=some (.dT a):=by
 rw [List.getElem?_append_right (Nat.le_refl _),Nat.sub_self]; rfl
noncomputable def told (A:List aA):List aA:=((iM (A.map (·.1))).filter fun k=>aO A k !=0).map fun k=>(k,aO A k)
noncomputable def Gf:Val->List Int
 | .tup us=>(gP us).getD []
 | _=>[]
theorem uF (k:List Int):Gf (tupI k)=k:=by
 show (gP (k.map Val.int)).getD []=k
 rw [kB]; rfl
theorem sk {s:ah} {d:Nat} {A:List aA} {k:List Int} (h:s[d]?=some (.dT (A.map eD))) (hk:k∈A.map (·.1)):de (.loc d) (tupI k) s=.ok (.int (aO A k)) s:=by
 unfold de
 rw [sh h k]
 unfold aO
 cases z:A.find? fun p=>decide (p.1=k) with
 | none=>
  rw [List.find?_eq_none] at z
  obtain ⟨p,hp,e⟩:=List.mem_map.mp hk
  exact absurd (decide_eq_true e) (z p hp)
 | some p=>rfl
noncomputable abbrev L4:MT:=bM (ag iL (ag de (ae 1) (ae 0)) (mC (.int 0)))
noncomputable abbrev L5:ME:=d8 (aa (ae 0) (aa (ag de (ae 1) (ae 0)) aj))
theorem BO {g:ah->Prop} {s:ah} {d:Nat} {A:List aA} (hg:g s) (h:s[d]?=some (.dT (A.map eD))):fg g (aName 0) L4 L5 ((iM (A.map (·.1))).map tupI) [none,some (.loc d)] s []=.ok ((told A).map tV) s:=by
 have:=cP (a:=aName 0) (c:=L4) (e:=L5) hg (fun τ=>∃ x,τ=[x,some (.loc d)]) (fun v=>aO A (Gf v) !=0) (fun v=>.tup [v,.int (aO A (Gf v))]) ((iM (A.map (·.1))).map tupI) [none,some (.loc d)] [] ⟨_,rfl⟩ ?_
 ·rw [this,List.nil_append]
  congr 1
  unfold told
  rw [List.filter_map,List.map_map,List.map_map]
  have e:((fun v=>aO A (Gf v) !=0) ∘ tupI)=fun k=>aO A k !=0:=by
   funext k
   show (aO A (Gf (tupI k)) !=0)=_
   rw [uF]
  rw [e]
  refine List.map_congr_left fun k _=>?_
  show Val.tup [tupI k,.int (aO A (Gf (tupI k)))]=_
  rw [uF]; rfl
 ·rintro u hu τ ⟨x,rfl⟩
  obtain ⟨k,hk,rfl⟩:=List.mem_map.mp hu
  have S4:=(dN _).mem_iff.mp hk
  have e0:ae 0 [some (tupI k),some (.loc d)] s=.ok (tupI k) s:=rfl
  have e1:ag de (ae 1) (ae 0) [some (tupI k),some (.loc d)] s=.ok (.int (aO A k)) s:=by
   show de (.loc d) (tupI k) s=_
   exact sk h S4
  refine ⟨[some (tupI k),some (.loc d)],rfl,⟨_,rfl⟩,?_,fun _=>?_⟩
  ·rw [uF]
   show bM (ag iL (ag de (ae 1) (ae 0)) (mC (.int 0))) [some (tupI k),some (.loc d)] s=_
   rw [ie,gB,e1]
   simp only [aw,jw,gC,rT,jM,xo]
   rfl
  ·rw [uF]
   simp only [rX,dP,e0,e1,aw,fS,d_,gD,A6]
   exact if_pos (by rw [sizeLine_eq]; show 2<=16777216; decide)
theorem BP {m:ME} {μ:MN.Env} {st:ah}:lF m μ st=(m μ st).ic Bu:=ko
noncomputable def wa (a k:Int):Int:=((a.fmod 1000000007+7919*k+11)*48271).fmod 2147483647
noncomputable def uG (a k:Int):Int:=(wa a k*(((wa a k).fdiv 7).fmod 65536+3)).fmod 2147483647
theorem EI (a k:Int):0<=uG a k/\uG a k<2147483647:=fV (by decide) _
theorem BQ (a k:Int) (st:ah):PM.dw [.int a,.int k] st=.ok (.int (uG a k)) st:=by
 have d7:Dz 7:=vY (by decide) (by decide)
 have q1:0<=wa a k/\wa a k<2147483647:=fV (by decide) _
 have hx:((a.fmod 1000000007+7919*k+11)*48271).fmod 2147483647=wa a k:=rfl
 have m1:∀ (j:Int) s,cw (.int (wa a k)) (.int j) s=.ok (.int (wa a k*j)) s:=fun j s=>jz (by lia) (by lia)
 simp only [PM.dw,dF,aw,aT,ay,lC,gB,jw,gC,qi,xj,rT,au,cF,jN,jQ,jy,jx,List.map_cons,List.map_nil,List.cons_append,List.nil_append,List.replicate_succ,List.replicate_zero,List.set_cons_zero,List.set_cons_succ,Nat.reduceSub,List.length_cons,List.length_nil,Nat.reduceAdd,dI (j:=1000000007) (by decide),jz (i:=7919) (by decide) (by decide),mul_r (j:=48271) (by decide) (by decide),dI (j:=2147483647) (by decide),hx,div_ii d7,dI (j:=65536) (by decide),m1]
 rfl
noncomputable def fD (cell k power:Int) (many:Nat):List Int:=(vZ 0 many).map fun j=>(uG cell (5*k+j)).fmod (power+1)
theorem BR (cell k power:Int) (many:Nat):(fD cell k power many).length=many:=by
 unfold fD vZ
 rw [List.length_map,List.length_map,List.length_range]
theorem EJ {cell k power:Int} {many:Nat} (hp:0<=power):∀ e∈fD cell k power many,0<=e:=by
 intro e he
 obtain ⟨j,_,rfl⟩:=List.mem_map.mp he
 exact (fV (by lia) _).1
noncomputable abbrev JM:ME:=ag bR (ak PM.dw (aa (ae 1) (aa (ag cb (ag cw (mC (.int 5)) (ae 2)) (ae 0)) aj))) (ag cb (ae 3) (mC (.int 1)))
theorem y_ {cell k power:Int} {many:Nat} (hp:0<=power) (s:ah):fg (fun _=>True) (aName 0) bz JM (bH 0 many) [none,some (.int cell),some (.int k),some (.int power)] s []=.ok ((fD cell k power many).map Val.int) s:=by
 have:=cP (a:=aName 0) (c:=bz) (e:=JM) (g:=fun _=>True) (st:=s) trivial (fun τ=>∃ x,τ=[x,some (.int cell),some (.int k),some (.int power)]) (fun _=>true)
  (fun v=>match v with | .int j=>.int ((uG cell (5*k+j)).fmod (power+1)) | _=>v) (bH 0 many) [none,some (.int cell),some (.int k),some (.int power)] [] ⟨_,rfl⟩ ?_
 ·rw [this,List.nil_append,fj,List.filter_eq_self.mpr fun _ _=>rfl,List.map_map]
  unfold fD
  rw [List.map_map]
  rfl
 ·rintro u hu τ ⟨x,rfl⟩
  rw [fj] at hu
  obtain ⟨j,hj,rfl⟩:=List.mem_map.mp hu
  refine ⟨_,rfl,⟨_,rfl⟩,rfl,fun _=>?_⟩
  simp only [JM,aw,gB,jw,gC,fS,d_,rT,gD,dP,jf,jQ,jy,jx,List.set_cons_zero,jz (i:=5) (by decide) (by decide),BQ,dI (j:=power+1) (by lia)]
structure dO (many:Nat) (D:List aA):Prop where
 iI:SO.dG (D.map (·.1))
 len:∀ t∈D,t.1.length=many
 nn:∀ t∈D,∀ e∈t.1,0<=e
 nz:∀ t∈D,t.2≠0
noncomputable abbrev L6:MB:=aI (aL 7 (ak ff (aa (cD 1 [0,6,3] (cz (aa (ae 1) aj)) (aName 0) bz JM) aj))) (cR (fH bX (ae 5) (aa (d8 (aa (ae 7) (aa (ak PM.bw (aa (ak PM.dw (aa (ae 0) (aa (ag cb (ag cw (mC (.int 5)) (ae 6)) (mC (.int 4))) aj))) (aa (ae 4) aj))) aj))) aj)))
theorem EL {cell terms power kind k v:Int} {many:Nat} {st g:ah} {P:List aA} {x7:Option Val} (hm:many<=4) (hp:0<=power) (hP:P.length<=63)
  (hv:∀ s,PM.bw [.int (uG cell (5*k+4)),.int kind] s=.ok (.int v) s) :
  L6 [some (.int cell),some (.int many),some (.int terms),some (.int power),some (.int kind),some (.loc st.length),some (.int k),x7] (st ++ .lst (P.map tV)::g) =
   .nx [some (.int cell),some (.int many),some (.int terms),some (.int power),some (.int kind),some (.loc st.length),some (.int k),some (tupI (fD cell k power many))] (st ++ .lst ((P++[(fD cell k power many,v)]).map tV)::(g++[.lst ((fD cell k power many).map Val.int)])):=by
 obtain ⟨M,hM⟩:∃ M:Int,M=(many:Int):=⟨_,rfl⟩
 obtain ⟨s,hs⟩:∃ s,st++Cell.lst (P.map tV)::g=s:=⟨_,rfl⟩
 rw [hs,<-hM]
 have Nq:=r0 (st:=s) (j:=M) (by lia) (by lia)
 rw [show M.toNat=many by lia] at Nq
 have rl:(bH 0 many).length=many:=by rw [fj]; unfold vZ; rw [List.length_map,List.length_map,List.length_range]
 have Lg:lq 1 [0,6,3] [some (Val.int cell),some (.int M),some (.int terms),some (.int power),some (.int kind),some (.loc st.length),some (.int k),x7]=[none,some (.int cell),some (.int k),some (.int power)]:=rfl
 have sz:many<=sizeLine:=by rw [sizeLine_eq]; lia
 have comp:cD 1 [0,6,3] (cz (aa (ae 1) aj)) (aName 0) bz JM [some (.int cell),some (.int M),some (.int terms),some (.int power),some (.int kind),some (.loc st.length),some (.int k),x7] s=.ok (.loc s.length) (s++[.lst ((fD cell k power many).map Val.int)]):=by
  have a1:cz (aa (ae 1) aj) [some (Val.int cell),some (.int M),some (.int terms),some (.int power),some (.int kind),some (.loc st.length),some (.int k),x7] s=.ok (bH 0 many,fun _=>True) s:=by
   simp only [aw,fS,d_,gD,dP,rZ,jy,jx,Nq]
  rw [ij,a1,aw,jP,if_pos (by rw [rl]; exact sz),Lg,y_ hp,aw,oz]
 obtain ⟨s2,dk⟩:∃ s2,s++[Cell.lst ((fD cell k power many).map Val.int)]=s2:=⟨_,rfl⟩
 have tup:ff [.loc s.length] s2=.ok (tupI (fD cell k power many)) s2:=by
  rw [<-dk]; exact ik (aP s _)
 have PQ:aL 7 (ak ff (aa (cD 1 [0,6,3] (cz (aa (ae 1) aj)) (aName 0) bz JM) aj)) [some (.int cell),some (.int M),some (.int terms),some (.int power),some (.int kind),some (.loc st.length),some (.int k),x7] s =
   .nx [some (.int cell),some (.int M),some (.int terms),some (.int power),some (.int kind),some (.loc st.length),some (.int k),some (tupI (fD cell k power many))] s2:=by
  rw [jN,jf,dP,comp,aw,fS,gD,aw,d_,aw,dk,tup]; rfl
 have cellAt:s2[st.length]?=some (.lst (P.map tV)):=by
  rw [<-dk,<-hs,List.append_assoc]
  exact Io st _ _
 have ap:=gL (v:=tV (fD cell k power many,v)) cellAt (by rw [List.length_map,sizeLine_eq]; lia)
 have arg:aa (d8 (aa (ae 7) (aa (ak PM.bw (aa (ak PM.dw (aa (ae 0) (aa (ag cb (ag cw (mC (.int 5)) (ae 6)) (mC (.int 4))) aj))) (aa (ae 4) aj))) aj))) aj
   [some (.int cell),some (.int M),some (.int terms),some (.int power),some (.int kind),some (.loc st.length),some (.int k),some (tupI (fD cell k power many))] s2=.ok [tV (fD cell k power many,v)] s2:=by
  have v7:ae 7 [some (Val.int cell),some (.int M),some (.int terms),some (.int power),some (.int kind),some (.loc st.length),some (.int k),some (tupI (fD cell k power many))] s2=.ok (tupI (fD cell k power many)) s2:=rfl
  simp only [dP,rX,v7,aw,gB,jw,gC,fS,d_,A6,rT,gD,dP,rX,jf,jQ,jy,jx,List.length_cons,List.length_nil,Nat.reduceAdd,sizeLine_eq,Nat.reduceLeDiff,↓reduceIte,jz (i:=5) (by decide) (by decide),BQ,hv]
  rfl
 have v5:ae 5 [some (Val.int cell),some (.int M),some (.int terms),some (.int power),some (.int kind),some (.loc st.length),some (.int k),some (tupI (fD cell k power many))] s2=.ok (.loc st.length) s2:=rfl
 have es:s2.set st.length (.lst (P.map tV++[tV (fD cell k power many,v)]))=st ++ .lst ((P++[(fD cell k power many,v)]).map tV)::(g++[.lst ((fD cell k power many).map Val.int)]):=by
  rw [<-dk,<-hs,List.append_assoc]
  show (st++Cell.lst (P.map tV)::(g++[.lst ((fD cell k power many).map Val.int)])).set _ _=_
  rw [r9,List.map_append]; rfl
 unfold L6
 rw [<-es,au,PQ,ay,gk,jR,v5,aw,oB cellAt,arg,aw,t9,ap]
 rfl
noncomputable def IX:Val->aA
 | .tup [k,.int n]=>(Gf k,n)
 | _=>([],0)
theorem Gg (t:aA):IX (tV t)=t:=by
 show (Gf (tupI t.1),t.2)=t
 rw [uF]
theorem EM {k:List Int} {a:Nat} (h:a<k.length) (s:ah):aZ (tupI k) (.int (a:Int)) s=.ok (.int (k.getD a 0)) s:=by
 have:=at_getD (ns:=k) (i:=(a:Int)) (by lia) (by lia)
 rw [Int.toNat_natCast] at this
 exact ve this
noncomputable abbrev Nr:MB:=fL (fw (cQ (bM (ak PM.dY (aa (ae 4) aj)))) (bM (ag ltV (ae 4) (mC (.int 0))))) (aR (mC (.bl false))) bh
theorem BS {p:Nat} {M:Int} {k:List Int} {x2 x4:Option Val} {v:Val} {st:ah} (hk:∀ e∈k,0<=e) :
  ∃ y,forL (fun _=>True) (aName 4) Nr (k.map Val.int) [some (.loc p),some (.int M),x2,some v,x4] st=.nx [some (.loc p),some (.int M),x2,some v,y] st:=by
 obtain ⟨μ',ar,e,rfl,y,rfl⟩:=fh (g:=fun _=>True) (a:=aName 4) (body:=Nr) (fun _ μ s'=>s'=st/\∃ y,μ=[some (.loc p),some (.int M),x2,some v,y]) (k.map Val.int) 0 [some (.loc p),some (.int M),x2,some v,x4] st
  (by
   rintro i u μ s' hu ⟨rfl,y,rfl⟩
   refine ⟨trivial,?_⟩
   obtain ⟨e,he,rfl⟩:=List.mem_map.mp (List.mem_of_getElem? hu)
   refine ⟨[some (.loc p),some (.int M),x2,some v,some (.int e)],rfl,_,s',.inl (?_:_=dm.nx [some (.loc p),some (.int M),x2,some v,some (.int e)] s'),rfl,_,rfl⟩
   have c:fw (cQ (bM (ak PM.dY (aa (ae 4) aj)))) (bM (ag ltV (ae 4) (mC (.int 0)))) [some (.loc p),some (.int M),x2,some v,some (.int e)] s'=.ok (decide (e<0)) s':=rfl
   rw [decide_eq_false (by have:=hk e he; lia)] at c
   show fL _ _ _ _ s'=_
   rw [fB,c,aT,ig]
   rfl)
  (fun _ _ _=>trivial) ⟨rfl,_,rfl⟩
 exact ⟨y,e⟩
noncomputable abbrev IY:MT:=fw (cQ (bM (AJ "tuple" (ae 3)))) (fw (bM (ag iL (ak dZ (aa (ae 3) aj)) (mC (.int 2)))) (fw (cQ (bM (AJ "tuple" (ag aZ (ae 3) (mC (.int 0)))))) (bM (ag iL (ak dZ (aa (ag aZ (ae 3) (mC (.int 0))) aj)) (ae 1)))))
noncomputable abbrev EN:MT:=fw (cQ (bM (ak PM.dY (aa (ag aZ (ae 3) (mC (.int 1))) aj)))) (fw (bM (ag e9 (ag aZ (ae 3) (mC (.int 1))) (mC (.int 0)))) (kg (bM (ag (CM true) (ae 2) (mC .bD))) (bM (ag IF (ag aZ (ae 3) (mC (.int 0))) (ae 2)))))
noncomputable abbrev Nt:MB:=aI (fL IY (aR (mC (.bl false))) bh) (aI (gJ (fA (ag aZ (ae 3) (mC (.int 0)))) (aName 4) Nr) (aI (fL EN (aR (mC (.bl false))) bh) (aL 2 (ag aZ (ae 3) (mC (.int 0))))))
noncomputable def Last (v:Val) (k:List Int):Prop:=v=.bD\/∃ l,v=tupI l/\l≠[]/\SO.lexLt k l=true
theorem EO {p many:Nat} {t:aA} {v:Val} {x4:Option Val} {st:ah} (hl:t.1.length=many) (hm:1<=many) (hk:∀ e∈t.1,0<=e) (hz:t.2≠0) (hv:Last v t.1) :
  ∃ y,Nt [some (.loc p),some (.int (many:Int)),some v,some (tV t),x4] st=.nx [some (.loc p),some (.int (many:Int)),some (tupI t.1),some (tV t),y] st:=by
 obtain ⟨y,ei⟩:=BS (p:=p) (M:=(many:Int)) (x2:=some v) (x4:=x4) (v:=tV t) (st:=st) hk
 refine ⟨y,?_⟩
 have c1:IY [some (.loc p),some (.int (many:Int)),some v,some (tV t),x4] st=.ok (!(((t.1.map Val.int).length:Int)==(many:Int))) st:=rfl
 rw [List.length_map,hl,beq_self_eq_true] at c1
 have s1:fL IY (aR (mC (.bl false))) bh [some (.loc p),some (.int (many:Int)),some v,some (tV t),x4] st=.nx [some (.loc p),some (.int (many:Int)),some v,some (tV t),x4] st:=by
  rw [fB,c1,aT,Bool.not_true,ig]
  rfl
 have i0:∀ (y:Option Val),ag aZ (ae 3) (mC (.int 0)) [some (.loc p),some (.int (many:Int)),some v,some (tV t),y] st=.ok (tupI t.1) st:=fun _=>rfl
 have s2:gJ (fA (ag aZ (ae 3) (mC (.int 0)))) (aName 4) Nr [some (.loc p),some (.int (many:Int)),some v,some (tV t),x4] st=.nx [some (.loc p),some (.int (many:Int)),some v,some (tV t),y] st:=by
  rw [jO,gm,i0,aw]
  show (t8 (.tup (t.1.map Val.int)) st).FV _ _=_
  rw [yI,aT,oy]
  exact ei
 have nz:(t.2==0)=false:=beq_eq_false_iff_ne.mpr hz
 have ne:t.1≠[]:=fun z=>by rw [z] at hl; simp at hl; lia
 have w1:cQ (bM (ak PM.dY (aa (ag aZ (ae 3) (mC (.int 1))) aj))) [some (.loc p),some (.int (many:Int)),some v,some (tV t),y] st=.ok false st:=rfl
 have w2:bM (ag e9 (ag aZ (ae 3) (mC (.int 1))) (mC (.int 0))) [some (.loc p),some (.int (many:Int)),some v,some (tV t),y] st=.ok (t.2==0) st:=rfl
 rw [nz] at w2
 have w3:kg (bM (ag (CM true) (ae 2) (mC .bD))) (bM (ag IF (ag aZ (ae 3) (mC (.int 0))) (ae 2))) [some (.loc p),some (.int (many:Int)),some v,some (tV t),y] st=.ok false st:=by
  rcases hv with rfl | ⟨l,rfl,nl,lt⟩
  ·rfl
  ·have ge:IF (tupI t.1) (tupI l) st=.ok (.bl (!(SO.lexLt t.1 l))) st:=IG ne nl
   rw [lt] at ge
   show bM (ag IF (ag aZ (ae 3) (mC (.int 0))) (ae 2)) _ st=_
   have v2:ae 2 [some (.loc p),some (.int (many:Int)),some (tupI l),some (tV t),y] st=.ok (tupI l) st:=rfl
   have S5:ag aZ (ae 3) (mC (.int 0)) [some (.loc p),some (.int (many:Int)),some (tupI l),some (tV t),y] st=.ok (tupI t.1) st:=rfl
   rw [ie,gB,S5,aw,jw,v2,aw,gC,ge,aw]
   rfl
 have c3:EN [some (.loc p),some (.int (many:Int)),some v,some (tV t),y] st=.ok false st:=by
  unfold EN
  rw [ow,w1,aw,nq,ow,w2,aw,nq]
  exact w3
 have s3:fL EN (aR (mC (.bl false))) bh [some (.loc p),some (.int (many:Int)),some v,some (tV t),y] st=.nx [some (.loc p),some (.int (many:Int)),some v,some (tV t),y] st:=by
  rw [fB,c3,aT,ig]
  rfl
 unfold Nt
 rw [au,s1,ay,au,s2,ay,au,s3,ay,jN,i0,aT]
 rfl
theorem zd {p many:Nat} {D:List aA} {st:ah} (hc:st[p]?=some (.lst (D.map tV))) (S:dO many D) (hm:1<=many):PM.cV [.loc p,.int (many:Int)] st=.ok (.bl true) st:=by
 have h:=LH hc
 have fa:∀ i j (hi:i<D.length) (hj:j<D.length),i<j->SO.lexLt (D[j]).1 (D[i]).1=true:=by
  intro i j hi hj Q7
  have:=S.iI
  unfold SO.dG at this
  rw [List.pairwise_map,List.pairwise_iff_getElem] at this
  exact this i j hi hj Q7
 obtain ⟨μ',ar,e,rfl,v,x3,x4,rfl,_⟩:=fh (g:=fun ar=>itemsOf ar p=some (D.map tV)) (a:=aName 3) (body:=Nt)
  (fun i μ s'=>s'=st/\∃ v x3 x4,μ=[some (.loc p),some (.int (many:Int)),some v,x3,x4]/\∀ (hi:i<D.length),Last v (D[i]).1)
  (D.map tV) 0 [some (.loc p),some (.int (many:Int)),some .bD,none,none] st
  (by
   rintro i u μ s' hu ⟨rfl,v,x3,x4,rfl,hv⟩
   rw [Nat.zero_add] at hv ⊢
   refine ⟨h,?_⟩
   rw [List.getElem?_map] at hu
   have hi:i<D.length:=by
    rcases Nat.lt_or_ge i D.length with q | q
    ·exact q
    ·rw [List.getElem?_eq_none q] at hu; cases hu
   rw [List.getElem?_eq_getElem hi] at hu
   have mt:D[i]∈D:=List.getElem_mem hi
   cases hu
   obtain ⟨y,es⟩:=EO (p:=p) (x4:=x4) (st:=s') (S.len _ mt) hm (S.nn _ mt) (S.nz _ mt) (hv hi)
   refine ⟨_,rfl,_,s',.inl es,rfl,_,_,_,rfl,fun hj=>.inr ⟨(D[i]).1,rfl,fun z=>?_,fa i (i+1) hi hj (Nat.lt_succ_self _)⟩⟩
   have:=S.len _ mt
   rw [z] at this
   simp at this
   lia)
  (fun μ s hp=>by obtain ⟨rfl,_⟩:=hp; exact h)
  ⟨rfl,_,none,none,rfl,fun _=>.inl rfl⟩
 have first:fL (cQ (bM (AJ "list" (ae 0)))) (aR (mC (.bl false))) bh [some (.loc p),some (.int (many:Int)),none,none,none] ar=.nx [some (.loc p),some (.int (many:Int)),none,none,none] ar:=by
  simp only [aw,aT,Ib,ig,jM,ie,rW,Ly,nr,fB,A_,Bool.not_true,is_list hc]
 have second:aL 2 (mC .bD) [some (.loc p),some (.int (many:Int)),none,none,none] ar=.nx [some (.loc p),some (.int (many:Int)),some .bD,none,none] ar:=rfl
 have v0:ae 0 [some (Val.loc p),some (.int (many:Int)),some .bD,none,none] ar=.ok (.loc p) ar:=rfl
 unfold PM.cV
 rw [dF (np:=2) (us:=[Val.loc p,.int (many:Int)]) rfl]
 show (aI (fL (cQ (bM (AJ "list" (ae 0)))) (aR (mC (.bl false))) bh) (aI (aL 2 (mC .bD)) (aI (gJ (fA (ae 0)) (aName 3) Nt) (aR (mC (.bl true))))) [some (.loc p),some (.int (many:Int)),none,none,none] ar).fin=_
 rw [au,first,ay,au,second,ay,au,jO,gm,v0,aw,eQ h,aT,oy,e,ay]
 rfl
section
variable {μ:MN.Env} {s s1 s2:ah} {a b:ME} {f:F2} {x y:Val} {r:Res Val} {t u:MT} {c:Bool} {B:MB}
theorem aK (h1:a μ s=.ok x s1) (h2:b μ s1=.ok y s2):ag f a b μ s=f x y s2:=by
 show (a μ s).bind _=_
 rw [h1]
 show (b μ s1).bind _=_
 rw [h2]
theorem bI (h:a μ s=.ok (.bl c) s1):bM a μ s=.ok c s1:=by rw [ie,h]; rfl
theorem BU (h1:t μ s=.ok false s1) (h2:u μ s1=.ok false s2):fw t u μ s=.ok false s2:=by rw [ow,h1,aw,nq,h2]
theorem BV (h:t μ s=.ok true s1):cQ t μ s=.ok false s1:=by rw [rW,h]; rfl
theorem eJ (h:t μ s=.ok false s1):fL t B bh μ s=.nx μ s1:=by rw [fB,h,aT,ig]; rfl
theorem wb (h1:a μ s=.ok (.bl true) s1) (h2:b μ s1=r):rF a b μ s=r:=by rw [Ia,h1,aw,Ei,h2]
end
theorem IZ (t:aA):qm 14 (tV t)=true:=by
 show (dQ 12 (t.1.map Val.int)&&(true&&true))=true
 rw [mB]; rfl
theorem wc (D:List aA):dQ 14 (D.map tV)=true:=jh fun u hu=>by
 obtain ⟨t,_,rfl⟩:=List.mem_map.mp hu
 exact IZ t
theorem aB {s:ah} {n:Nat} {c:Cell} (h:s[n]?=some c) (more:ah):(s++more)[n]?=some c:=by
 have:n<s.length:=by
  rcases Nat.lt_or_ge n s.length with q | q
  ·exact q
  ·rw [List.getElem?_eq_none q] at h; cases h
 rw [List.getElem?_append_left this]; exact h
theorem kD {s:ah} {n:Nat} {c:Cell} (h:s[n]?=some c):n<s.length:=by
 rcases Nat.lt_or_ge n s.length with q | q
 ·exact q
 ·rw [List.getElem?_eq_none q] at h; cases h
theorem fW {s:ah} {n m:Nat} {c k:Cell} (h:s[n]?=some c) (ne:m≠n):(s.set m k)[n]?=some c:=by
 rw [List.getElem?_set_ne ne]; exact h
noncomputable def bC (r n:Int):Int:=if r=0 then n else n.fmod r
noncomputable def zg (A:List aA):List aA:=(iM (A.map (·.1))).map fun k=>(k,aO A k)
noncomputable def kE (r:Int) (A:List aA):List aA:=((zg A).map fun t=>(t.1,bC r t.2)).filter fun t=>t.2 !=0
noncomputable def dg (P:List aA):List aA:=P.foldl (fun A t=>fC A t.1 (aO A t.1+t.2)) []
theorem zh (P:List aA) (t:aA):dg (P++[t])=fC (dg P) t.1 (aO (dg P) t.1+t.2):=by
 unfold dg
 rw [List.foldl_append]; rfl
theorem fold_all (K:List (List Int)):∀ (P A:List aA),(A.map (·.1)).Nodup->(∀ t∈A,t.1∈K)->(∀ t∈P,t.1∈K) ->
  ((P.foldl (fun A t=>fC A t.1 (aO A t.1+t.2)) A).map (·.1)).Nodup/\(P.foldl (fun A t=>fC A t.1 (aO A t.1+t.2)) A).length<=A.length+P.length/\∀ t∈P.foldl (fun A t=>fC A t.1 (aO A t.1+t.2)) A,t.1∈K
 | [],A,h1,h2,_=>⟨h1,by simp,h2⟩
 | t::P,A,h1,h2,h3=>by
  have ih:=fold_all K P (fC A t.1 (aO A t.1+t.2)) (jU h1 _ _) (fun q hq=>by
   rcases oM hq with hq | rfl
   ·exact h2 q hq
   ·exact h3 t List.mem_cons_self) (fun q hq=>h3 q (List.mem_cons_of_mem _ hq))
  refine ⟨ih.1,Nat.le_trans ih.2.1 ?_,ih.2.2⟩
  have:=uD (A:=A) (k:=t.1) (v:=aO A t.1+t.2)
  rw [List.length_cons]
  lia
theorem fm (P:List aA):((dg P).map (·.1)).Nodup/\(dg P).length<=P.length/\∀ t∈dg P,t.1∈P.map (·.1):=by
 have:=fold_all (P.map (·.1)) P [] List.nodup_nil (fun t ht=>by cases ht) (fun t ht=>List.mem_map.mpr ⟨t,ht,rfl⟩)
 refine ⟨this.1,?_,this.2.2⟩
 have:=this.2.1
 simp at this
 exact this
noncomputable def JN (r:Int) (A:List aA) (ks:List (List Int)):List aA:=(ks.map fun k=>(k,bC r (aO A k))).filter fun t=>t.2 !=0
theorem oN (r:Int) (A:List aA):JN r A (iM (A.map (·.1)))=kE r A:=by
 unfold JN kE zg
 rw [List.map_map]; rfl
theorem ER (r:Int) (A:List aA) (ks:List (List Int)):(JN r A ks).length<=ks.length:=by
 unfold JN
 refine Nat.le_trans (List.length_filter_le _ _) ?_
 rw [List.length_map]; exact Nat.le_refl _
structure Good (many:Nat) (t:aA):Prop where
 len:t.1.length=many
 rg:∀ e∈t.1,0<=e/\e<=99
section
variable {μ:MN.Env} {s s1 s2:ah} {m:ME} {o j:Int} {t:MT} {B:MB}
theorem i7 (h:m μ s=.ok (.int o) s1) (hj:¬ j=0):ag bR m (mC (.int j)) μ s=.ok (.int (o.fmod j)) s1:=by
 rw [aK h (y:=.int j) (s2:=s1) rfl]; exact dI hj
theorem oO (h:m μ s=.ok (.int o) s1) (hj:Dz j):ag cL m (mC (.int j)) μ s=.ok (.int (o.fdiv j)) s1:=by
 rw [aK h (y:=.int j) (s2:=s1) rfl]; exact div_ii hj
theorem i8 (h:m μ s=.ok (.int o) s1):ag e9 m (mC (.int j)) μ s=.ok (.bl (o==j)) s1:=by
 rw [aK h (y:=.int j) (s2:=s1) rfl]; exact xn
theorem br {i:Nat} {v:Val} (h:m μ s=.ok v s1):aL i m μ s=.nx (μ.set i (some v)) s1:=by
 rw [jN,h,aT]; rfl
theorem gG {C:MB} (h:t μ s=.ok true s1):fL t B C μ s=B μ s1:=by rw [fB,h,aT,rY]
theorem d4 {v:Val} (h:m μ s=.ok v s1):aa m aj μ s=.ok [v] s1:=by rw [dP,h,aw,fS,gD,aw,d_]
theorem d5 {m2:ME} {v w:Val} (h:m μ s=.ok v s1) (h2:m2 μ s1=.ok w s2):aa m (aa m2 aj) μ s=.ok [v,w] s2:=by rw [dP,h,aw,fS,d4 h2,aw,d_]
theorem jC {m2:MA} {v:Val} {ws:List Val} (h:m μ s=.ok v s1) (h2:m2 μ s1=.ok ws s2):aa m m2 μ s=.ok (v::ws) s2:=by rw [dP,h,aw,fS,h2,aw,d_]
theorem call_of {f:FN} {a:MA} {vs:List Val} (h:a μ s=.ok vs s1):ak f a μ s=f vs s1:=by rw [jf,h,aw]
theorem lR {a:MA} {vs:List Val} (h:a μ s=.ok vs s1) (hl:vs.length<=1000):d8 a μ s=.ok (.tup vs) s1:=by
 rw [rX,h,aw,A6]
 exact if_pos (by rw [sizeLine_eq]; lia)
theorem c8 {a:MA} {vs:List Val} (h:a μ s=.ok vs s1) (hl:vs.length<=1000):bb a μ s=.ok (.loc s1.length) (s1++[.lst vs]):=by
 rw [A7,h,aw,FY]
 exact if_pos (by rw [sizeLine_eq]; lia)
theorem BW {a:MA} (h:a μ s=.ok [.int j] s1) (h1:-(2 ^ 62)<=j) (h2:j<2 ^ 62):cz a μ s=.ok (bH 0 j.toNat,fun _=>True) s1:=by
 rw [rZ,h,aw,r0 h1 h2]
end
noncomputable def gF (A:List aA) (t:aA):List aA:=fC A t.1 (aO A t.1+t.2)
theorem ES (P:List aA):dg P=P.foldl gF []:=rfl
theorem eZ {A:List aA} {k:List Int} (h:k ∉ A.map (·.1)):aO A k=0:=by
 unfold aO
 have:(A.find? fun p=>decide (p.1=k))=none:=by
  rw [List.find?_eq_none]
  intro p hp z
  exact h (List.mem_map.mpr ⟨p,hp,of_decide_eq_true z⟩)
 rw [this]; rfl
theorem oP {A:List aA} {k:List Int} (v:Int) (h:k ∉ A.map (·.1)):fC A k v=A++[(k,v)]:=by
 unfold fC
 rw [if_neg fun z=>h (si.mp z)]
theorem BX {A P:List aA} {t:aA} (h:((A++t::P).map (·.1)).Nodup):t.1 ∉ A.map (·.1)/\((A++[t]++P).map (·.1)).Nodup:=by
 refine ⟨?_,by rw [List.append_assoc]; exact h⟩
 rw [List.map_append,List.map_cons,List.nodup_append] at h
 exact fun m=>h.2.2 _ m _ List.mem_cons_self rfl
theorem qI:∀ (P A:List aA),((A++P).map (·.1)).Nodup->P.foldl gF A=A++P
 | [],A,_=>by rw [List.append_nil]; rfl
 | t::P,A,h=>by
  have n:=BX h
  show P.foldl gF (gF A t)=_
  unfold gF
  rw [eZ n.1,oP _ n.1,Int.zero_add]
  have:=qI P (A++[t]) n.2
  rw [List.append_assoc] at this
  exact this
theorem zi {D:List aA} (h:(D.map (·.1)).Nodup):dg D=D:=qI D [] h
theorem uH:∀ (P A:List aA),((A++P).map (·.1)).Nodup->MN.putAll (P.map eD) (A.map eD)=(A++P).map eD
 | [],A,_=>by rw [List.append_nil]; rfl
 | t::P,A,h=>by
  have n:=BX h
  show MN.putAll (P.map eD) (rO (A.map eD) (iK t.1) (.int t.2))=_
  rw [xC,oP _ n.1]
  have:=uH P (A++[t]) n.2
  rw [List.append_assoc] at this
  exact this
theorem BY:∀ D:List aA,yR (D.map tV)=some (D.map eD)
 | []=>rfl
 | t::D=>by
  show (match h_ (tupI t.1),yR (D.map tV) with
   | some q,some l=>some ((q,Val.int t.2)::l)
   | _,_=>none)=_
  rw [jl,BY D]; rfl
theorem I_ {p:Nat} {D:List aA} {st:ah} (h:itemsOf st p=some (D.map tV)) (nd:(D.map (·.1)).Nodup):vM [.loc p] st=.ok (.loc st.length) (st++[.dT (D.map eD)]):=by
 unfold vM
 dsimp only
 rw [h]
 dsimp only
 rw [BY]
 dsimp only
 have:=uH D [] nd
 rw [List.map_nil,List.nil_append] at this
 rw [this]
theorem fI {D:List aA} (nd:(D.map (·.1)).Nodup) {t:aA} (ht:t∈D):aO D t.1=t.2:=by
 have m:=uE (A:=D) (k:=t.1) (List.mem_map.mpr ⟨t,ht,rfl⟩)
 have:(t.1,aO D t.1)=t:=by
  have inj:∀ a∈D,∀ b∈D,a.1=b.1->a=b:=by
   intro a ha b hb e
   have p:=List.pairwise_map.mp nd
   exact Classical.byContradiction fun ne=>by
    rcases List.mem_iff_getElem.mp ha with ⟨i,hi,rfl⟩
    rcases List.mem_iff_getElem.mp hb with ⟨j,hj,rfl⟩
    have q:=List.pairwise_iff_getElem.mp p
    rcases Nat.lt_trichotomy i j with c | c | c
    ·exact q i j hi hj c e
    ·subst c; exact ne rfl
    ·exact q j i hj hi c e.symm
  exact inj _ m _ ht rfl
 exact congrArg (·.2) this
theorem wd (r:Int) {A:List aA} (nd:(A.map (·.1)).Nodup):SO.dG ((kE r A).map (·.1)):=by
 rw [<-oN]
 unfold JN
 rw [List.filter_map,List.map_map]
 have:(((iM (A.map (·.1))).filter ((fun t=>t.2 !=0) ∘ fun k=>(k,bC r (aO A k)))).map ((fun t=>t.1) ∘ fun k=>(k,bC r (aO A k))))=(iM (A.map (·.1))).filter ((fun t:aA=>t.2 !=0) ∘ fun k=>(k,bC r (aO A k))):=by
  have:((fun t:aA=>t.1) ∘ fun k:List Int=>(k,bC r (aO A k)))=id:=rfl
  rw [this,List.map_id]
 rw [this]
 exact List.Pairwise.sublist List.filter_sublist (jj nd)
theorem oQ {B:Int} (b0:0<=B):∀ (P A:List aA) (m:Nat),(∀ t∈P,-B<=t.2/\t.2<=B)->(∀ t∈A,-(m*B)<=t.2/\t.2<=m*B)->∀ t∈P.foldl gF A,-((m+P.length:Nat)*B)<=t.2/\t.2<=(m+P.length:Nat)*B
 | [],A,m,_,h=>h
 | p::P,A,m,hp,h=>by
  have e:((m+1:Nat):Int)*B=m*B+B:=by rw [Int.natCast_add,Int.add_mul]; simp
  have mb:0<=(m:Int)*B:=Int.mul_nonneg (Int.natCast_nonneg _) b0
  have q:=hp p List.mem_cons_self
  have ih:=oQ b0 P (gF A p) (m+1) (fun t ht=>hp t (List.mem_cons_of_mem _ ht)) (fun t ht=>by
   rw [e]
   rcases oM ht with ht | rfl
   ·have:=h t ht; lia
   ·have:=v_ (k:=p.1) mb h
    dsimp only
    lia)
  intro t ht
  have:=ih t ht
  rw [List.length_cons,show m+(P.length+1)=m+1+P.length by lia]
  exact this
theorem we {B:Int} (b0:0<=B) {P:List aA} (hp:∀ t∈P,-B<=t.2/\t.2<=B):∀ t∈dg P,-(P.length*B)<=t.2/\t.2<=P.length*B:=by
 have:=oQ b0 P [] 0 hp (fun t ht=>by cases ht)
 rw [Nat.zero_add] at this
 exact this
theorem uI {r:Int} {A:List aA} {t:aA} (h:t∈kE r A):∃ q∈A,t.1=q.1/\t.2=bC r q.2:=by
 unfold kE at h
 obtain ⟨u,hu,rfl⟩:=List.mem_map.mp (List.mem_filter.mp h).1
 unfold zg at hu
 obtain ⟨k,hk,rfl⟩:=List.mem_map.mp hu
 exact ⟨_,uE ((dN _).mem_iff.mp hk),rfl,rfl⟩
theorem BZ (r:Int) (A:List aA):(kE r A).length<=A.length:=by
 rw [<-oN]
 refine Nat.le_trans (ER _ _ _) ?_
 rw [(dN _).length_eq,List.length_map]; exact Nat.le_refl _
theorem jV {many:Nat} (h1:1<=many) {k:List Int} (h:k.length=many):k≠[]:=fun z=>by
 rw [z] at h
 simp at h
 lia
noncomputable def chg (g:Int->Int) (L:List aA):List aA:=L.map fun t=>(t.1,g t.2)
theorem ET (g:Int->Int) (L:List aA):(chg g L).length=L.length:=List.length_map _
theorem Ja {μ:MN.Env} {m e:ME} {k:Nat} {caps:List Nat} {a:AS} {g:Int->Int} {s s1:ah} {p:Nat} {L:List aA} (I:MN.Env->Prop) (hm:m μ s=.ok (.loc p) s1) (h:itemsOf s1 p=some (L.map tV)) (hl:L.length<=1000000) (hI:I (lq k caps μ))
  (hs:∀ t∈L,∀ τ,I τ->∃ τ1,a (tV t) τ=some τ1/\I τ1/\e τ1 s1=.ok (tV (t.1,g t.2)) s1) :
  cD k caps (fA m) a bz e μ s=.ok (.loc s1.length) (s1++[.lst ((chg g L).map tV)]):=by
 have cp:=cP (a:=a) (c:=bz) (e:=e) (g:=fun ar=>itemsOf ar p=some (L.map tV)) (st:=s1) h I (fun _=>true) (fun v=>tV ((IX v).1,g (IX v).2)) (L.map tV) (lq k caps μ) [] hI (by
  intro u hu τ hτ
  obtain ⟨t,ht,rfl⟩:=List.mem_map.mp hu
  obtain ⟨τ1,h1,h2,h3⟩:=hs t ht τ hτ
  exact ⟨τ1,h1,h2,rfl,fun _=>by rw [Gg]; exact h3⟩)
 have ee:(List.filter (fun _=>true) (L.map tV)).map (fun v=>tV ((IX v).1,g (IX v).2))=(chg g L).map tV:=by
  unfold chg
  rw [List.filter_eq_self.mpr fun _ _=>rfl,List.map_map,List.map_map]
  refine List.map_congr_left fun t _=>?_
  show tV ((IX (tV t)).1,g (IX (tV t)).2)=_
  rw [Gg]; rfl
 rw [ee,List.nil_append] at cp
 rw [ij,gm,hm,aw,eQ h,aw,jP,if_pos (by rw [List.length_map,sizeLine_eq]; lia),cp,aw,oz]
section
variable {r:Int} {p q many:Nat} {D P:List aA} {C:Int} {st:ah}
noncomputable def zE (many:Nat):List Int:=List.replicate many 0
theorem B0 (many:Nat):qb many [Val.int 0]=(zE many).map Val.int:=by
 unfold qb zE
 induction many with
 | zero=>rfl
 | succ k ih=>
  rw [List.replicate_succ,List.replicate_succ,List.flatten_cons,List.map_cons,ih]
  rfl
end
section
variable {many:Nat} {s:ah}
end
section
variable {μ:MN.Env} {s s1:ah} {a m:ME} {k:Int} {x:Val}
theorem L7 (h:a μ s=.ok x s) (h1:m μ s=.ok (.int k) s):Ed a (kl m) kj μ s=Ec (some k) none x s:=by
 rw [LC,h,aw,O6,Bc,h1,aw,O7,aw,LD,Bb,aw,LF]
end
theorem pick {st:ah} {n:Nat} {us:List Val} {i:Int} (h:itemsOf st n=some us) (h0:0<=i) (h1:i<(us.length:Int)):∃ v∈us,aZ (.loc n) (.int i) st=.ok v st:=by
 obtain ⟨j,hj⟩:∃ j:Nat,(j:Int)=i:=⟨i.toNat,by lia⟩
 have hl:j<us.length:=by lia
 refine ⟨us[j],List.getElem_mem hl,?_⟩
 rw [<-hj]
 exact oA h (L2.jc (List.getElem?_eq_getElem hl))
section
variable {r n C:Int} {p q many:Nat} {D P:List aA} {st:ah}
end
section
variable {r n C:Int} {p q many:Nat} {D P:List aA} {st:ah}
end
section
variable {r n C:Int} {p q many:Nat} {D P:List aA}
end
theorem lS {k:Nat} {i:Int} (h:-((2:Int) ^ k)<=i/\i<=(2:Int) ^ k):f_ (k+1) i:=by
 show i.natAbs<2 ^ (k+1)
 have:((2 ^ k:Nat):Int)=(2:Int) ^ k:=by simp
 have h2:2 ^ (k+1)=2 ^ k*2:=Nat.pow_succ ..
 have h3:0<2 ^ k:=Nat.two_pow_pos k
 lia
section
variable {L:mS} {mb:ME} {u x:Val} {n:Nat}
end
theorem fX (n:Int):bC 0 n=n:=if_pos rfl
theorem fY {r:Int} (h:0<r) (n:Int):bC r n=n % r:=by
 unfold bC
 rw [if_neg (by lia),Int.fmod_eq_emod_of_nonneg n (by lia)]
theorem nv {r:Int} (hr:jB r=true):r=0\/(2<=r/\r<=997):=by
 unfold jB at hr
 rcases Bool.or_eq_true _ _ |>.mp hr with h | h
 ·exact .inl (by simpa using h)
 ·have:=y7 h; exact .inr (by lia)
section
variable {r:Int}
theorem B3 (hr:jB r=true) (a b:Int):bC r (bC r a*bC r b)=bC r (a*b):=by
 rcases nv hr with rfl | h
 ·rw [fX,fX,fX,fX]
 ·rw [fY (by lia),fY (by lia),fY (by lia),fY (by lia),<-Int.mul_emod]
theorem EU (hr:jB r=true) (a:Int):bC r (bC r a)=bC r a:=by
 rcases nv hr with rfl | h
 ·rw [fX,fX]
 ·rw [fY (by lia),fY (by lia),Int.emod_emod]
theorem B4 (hr:jB r=true) (a b:Int):bC r (a*bC r b)=bC r (a*b):=by
 rw [<-B3 hr,EU hr,B3 hr]
theorem B5 (hr:jB r=true) (a b:Int):bC r (bC r a+bC r b)=bC r (a+b):=by
 rcases nv hr with rfl | h
 ·rw [fX,fX,fX,fX]
 ·rw [fY (by lia),fY (by lia),fY (by lia),fY (by lia),<-Int.add_emod]
theorem EV (hr:jB r=true):bC r 0=0:=by
 rcases nv hr with rfl | h
 ·rw [fX]
 ·rw [fY (by lia)]; exact Int.zero_emod _
end
section
variable {r x:Int} {M:Eh}
end
theorem fZ:∀ es pt:List Int,iV (es.map Val.int) (pt.map Val.int)=(es.zip pt).map fun p=>Val.tup [.int p.1,.int p.2]
 | [],_=>by cases ‹List Int› <;> rfl
 | _::_,[]=>rfl
 | e::es,x::pt=>by
  show Val.tup [.int e,.int x]::iV (es.map Val.int) (pt.map Val.int)=_
  rw [fZ es pt]; rfl
section
variable {r:Int} {M:Eh} {q p:Nat} {es pt:List Int} {st:ah}
end
theorem Gh {lo:Int} {n i:Nat} {u:Val} (h:(bH lo n)[i]?=some u):i<n/\u=.int (lo+(i:Int)):=by
 unfold bH at h
 have CJ:=fG h
 rw [List.length_map,List.length_range] at CJ
 rw [List.getElem?_map,List.getElem?_range CJ] at h
 exact ⟨CJ,(Option.some.inj h).symm⟩
theorem B6 (lo:Int) (n:Nat):(bH lo n).length=n:=by unfold bH; rw [List.length_map,List.length_range]
section
variable {r:Int} {q p:Nat} {pt:List Int} {st:ah} {t:aA}
end
section
variable {r:Int} {p a many:Nat} {D:List aA} {st:ah} {k:List Int}
end
section
variable {r:Int} {p a many:Nat} {D:List aA} {st:ah} {t:aA}
end
section
variable {ns:List Int} {r:Int} {many:Nat} {st:ah}
end
noncomputable def aF (a b:List Int):List Int:=List.zipWith (· + ·) a b
noncomputable def eB (A B:List aA):List aA:=A.flatMap fun s=>B.map fun t=>(aF s.1 t.1,s.2*t.2)
noncomputable def ir (r:Int) (P:List aA):List aA:=kE r (dg P)
noncomputable def bJ (f:List Int->Int):List aA->Int
 | []=>0
 | t::L=>f t.1*t.2+bJ f L
theorem gS {many:Nat} {a b:List Int} (ha:a.length=many) (hb:b.length=many):(aF a b).length=many:=by
 unfold aF; rw [List.length_zipWith,ha,hb,Nat.min_self]
theorem qJ (s:aA) (A B:List aA):eB (s::A) B=(B.map fun t=>(aF s.1 t.1,s.2*t.2))++eB A B:=rfl
theorem kF (A B:List aA):(eB A B).length=A.length*B.length:=by
 induction A with
 | nil=>rw [List.length_nil,Nat.zero_mul]; rfl
 | cons s A ih=>rw [qJ,List.length_append,List.length_map,ih,List.length_cons,Nat.succ_mul,Nat.add_comm]
theorem oR {A B:List aA} {t:aA} (h:t∈eB A B):∃ a∈A,∃ b∈B,t=(aF a.1 b.1,a.2*b.2):=by
 obtain ⟨a,ha,h⟩:=List.mem_flatMap.mp h
 obtain ⟨b,hb,rfl⟩:=List.mem_map.mp h
 exact ⟨a,ha,b,hb,rfl⟩
section
variable {f g:List Int->Int}
theorem iu (A B:List aA):bJ f (A++B)=bJ f A+bJ f B:=by
 induction A with
 | nil=>rw [List.nil_append]; show _=0+_; rw [Int.zero_add]
 | cons t A ih=>rw [List.cons_append]; show f t.1*t.2+bJ f (A++B)=f t.1*t.2+bJ f A+bJ f B; rw [ih,Int.add_assoc]
theorem B7 (L:List aA):bJ (fun _=>0) L=0:=by
 induction L with
 | nil=>rfl
 | cons t L ih=>show 0*t.2+_=0; rw [ih,Int.zero_mul]; rfl
theorem EW (L:List aA):bJ (fun k=>f k+g k) L=bJ f L+bJ g L:=by
 induction L with
 | nil=>rfl
 | cons t L ih=>show (f t.1+g t.1)*t.2+_=f t.1*t.2+bJ f L+(g t.1*t.2+bJ g L); rw [ih,Int.add_mul]; lia
theorem EY (c:Int) (L:List aA):bJ (fun k=>f k*c) L=bJ f L*c:=by
 induction L with
 | nil=>show 0=0*c; rw [Int.zero_mul]
 | cons t L ih=>show f t.1*c*t.2+_=(f t.1*t.2+bJ f L)*c; rw [ih,Int.add_mul,Int.mul_assoc,Int.mul_comm c,<-Int.mul_assoc]
theorem EZ (s:aA) (B:List aA):bJ f (B.map fun t=>(aF s.1 t.1,s.2*t.2))=bJ (fun b=>f (aF s.1 b)) B*s.2:=by
 induction B with
 | nil=>show 0=0*s.2; rw [Int.zero_mul]
 | cons t B ih=>show f (aF s.1 t.1)*(s.2*t.2)+bJ f (B.map _)=(f (aF s.1 t.1)*t.2+bJ _ B)*s.2; rw [ih,Int.add_mul,Int.mul_comm s.2 t.2,Int.mul_assoc]
theorem B8 (A B:List aA):bJ f (eB A B)=bJ (fun a=>bJ (fun b=>f (aF a b)) B) A:=by
 induction A with
 | nil=>rfl
 | cons s A ih=>rw [qJ,iu,EZ,ih]; rfl
theorem B9 {h:List Int->List Int->Int} (A B:List aA):bJ (fun a=>bJ (fun b=>h a b) B) A=bJ (fun b=>bJ (fun a=>h a b) A) B:=by
 induction A with
 | nil=>show 0=bJ (fun _=>0) B; rw [B7]
 | cons s A ih=>
  show bJ (fun b=>h s.1 b) B*s.2+_=bJ (fun b=>h s.1 b*s.2+bJ (fun a=>h a b) A) B
  rw [EW,EY,ih]
theorem oS {A B:List aA} (p:A.Perm B):bJ f A=bJ f B:=by
 induction p with
 | nil=>rfl
 | cons x _ ih=>show f x.1*x.2+_=f x.1*x.2+_; rw [ih]
 | swap x y L=>show f y.1*y.2+(f x.1*x.2+_)=f x.1*x.2+(f y.1*y.2+_); lia
 | trans _ _ i j=>rw [i,j]
theorem oT {k:List Int} {v:Int}:∀ A:List aA,k ∉ A.map (·.1)->A.map (fun p=>if p.1=k then (p.1,v) else p)=A
 | [],_=>rfl
 | p::A,h=>by
  rw [List.map_cons] at h
  rw [List.map_cons,if_neg fun z=>h (List.mem_cons.mpr (.inl z.symm)),oT A fun z=>h (List.mem_cons.mpr (.inr z))]
theorem iw {A:List aA} {p:aA} {k:List Int} (h:p.1=k):aO (p::A) k=p.2:=by
 unfold aO; rw [List.find?_cons_of_pos (by simpa using h)]; rfl
theorem ix {A:List aA} {p:aA} {k:List Int} (h:¬ p.1=k):aO (p::A) k=aO A k:=by
 unfold aO; rw [List.find?_cons_of_neg (by simpa using h)]
theorem oU {k:List Int} {v:Int}:∀ A:List aA,(A.map (·.1)).Nodup->k∈A.map (·.1)->bJ f (A.map fun p=>if p.1=k then (p.1,v) else p)=bJ f A+f k*(v-aO A k)
 | [],_,h=>by cases h
 | p::A,nd,h=>by
  rw [List.map_cons] at nd h
  obtain ⟨n1,n2⟩:=List.nodup_cons.mp nd
  rw [List.map_cons]
  by_cases e:p.1=k
  ·rw [if_pos e,iw e,oT A (by rw [<-e]; exact n1)]
   show f p.1*v+bJ f A=f p.1*p.2+bJ f A+f k*(v-p.2)
   rw [e,Int.mul_sub]; lia
  ·rw [if_neg e,ix e]
   have h':k∈A.map (·.1):=(List.mem_cons.mp h).resolve_left fun z=>e z.symm
   have:=oU (v:=v) A n2 h'
   show f p.1*p.2+_=f p.1*p.2+bJ f A+_
   rw [this]; lia
theorem xD {A:List aA} {k:List Int} {v:Int} (nd:(A.map (·.1)).Nodup):bJ f (fC A k v)=bJ f A+f k*(v-aO A k):=by
 by_cases h:k∈A.map (·.1)
 ·unfold fC
  rw [if_pos (si.mpr h),oU A nd h]
 ·rw [oP v h,iu,eZ h,Int.sub_zero]
  show bJ f A+(f k*v+0)=_
  rw [Int.add_zero]
theorem uJ:∀ (P A:List aA),(A.map (·.1)).Nodup->bJ f (P.foldl gF A)=bJ f A+bJ f P
 | [],A,_=>by show bJ f A=bJ f A+0; rw [Int.add_zero]
 | t::P,A,nd=>by
  rw [List.foldl_cons,uJ P (gF A t) (jU nd _ _)]
  show bJ f (fC A t.1 (aO A t.1+t.2))+bJ f P=bJ f A+(f t.1*t.2+bJ f P)
  rw [xD nd,show aO A t.1+t.2-aO A t.1=t.2 by lia]; lia
theorem oV (P:List aA):bJ f (dg P)=bJ f P:=by
 rw [ES,uJ P [] List.nodup_nil]; show 0+_=_; rw [Int.zero_add]
theorem B_ {A:List aA} (nd:(A.map (·.1)).Nodup):bJ f (zg A)=bJ f A:=by
 refine oS ?_
 have e:A=(A.map (·.1)).map fun k=>(k,aO A k):=by
  rw [List.map_map]
  conv=>lhs; rw [<-List.map_id A]
  exact List.map_congr_left fun t ht=>by
   show t=(t.1,aO A t.1)
   rw [fI nd ht]
 unfold zg
 conv=>rhs; rw [e]
 exact (dN _).map _
end
section
variable {r:Int}
theorem xE (hr:jB r=true) {f:List Int->Int}:∀ L:List aA,bC r (bJ f ((L.map fun t=>(t.1,bC r t.2)).filter fun t=>t.2 !=0))=bC r (bJ f L)
 | []=>rfl
 | t::L=>by
  have ih:=xE hr (f:=f) L
  have e1:bC r (bJ f (t::L))=bC r (f t.1*bC r t.2+bJ f ((L.map fun t=>(t.1,bC r t.2)).filter fun t=>t.2 !=0)):=by
   show bC r (f t.1*t.2+bJ f L)=_
   rw [<-B5 hr,<-ih,<-B4 hr (f t.1) t.2,B5 hr]
  rw [e1,List.map_cons,List.filter_cons]
  dsimp only
  by_cases z:bC r t.2=0
  ·rw [if_neg (by simp [z]),z,Int.mul_zero,Int.zero_add]
  ·rw [if_pos (by simpa using z)]; rfl
noncomputable def Eqv (r:Int) (P Q:List aA):Prop:=∀ f,bC r (bJ f P)=bC r (bJ f Q)
theorem Jb (hr:jB r=true) (P:List aA):Eqv r (ir r P) P:=fun f=>by
 show bC r (bJ f (((zg (dg P)).map fun t=>(t.1,bC r t.2)).filter fun t=>t.2 !=0))=_
 rw [xE hr,B_ (fm P).1,oV]
theorem dy {k:List Int}:∀ A:List aA,(A.map (·.1)).Nodup->bJ (fun x=>if x=k then 1 else 0) A=aO A k
 | [],_=>rfl
 | p::A,nd=>by
  rw [List.map_cons] at nd
  obtain ⟨n1,n2⟩:=List.nodup_cons.mp nd
  show (if p.1=k then (1:Int) else 0)*p.2+bJ _ A=_
  rw [dy A n2]
  by_cases e:p.1=k
  ·rw [if_pos e,iw e,eZ (by rw [<-e]; exact n1)]; lia
  ·rw [if_neg e,ix e]; lia
theorem ny (A:List aA):kE r A=((iM (A.map (·.1))).filter fun k=>bC r (aO A k) !=0).map fun k=>(k,bC r (aO A k)):=by
 rw [<-oN]
 unfold JN
 rw [List.filter_map]; rfl
theorem L8 (hr:jB r=true) {P Q:List aA} (h:Eqv r P Q):ir r P=ir r Q:=by
 have gp:=(fm P).1
 have gq:=(fm Q).1
 have F:(fun k=>bC r (aO (dg P) k))=fun k=>bC r (aO (dg Q) k):=by
  funext k
  have:=h fun x=>if x=k then 1 else 0
  rw [<-oV P,<-oV Q,dy _ gp,dy _ gq] at this
  exact this
 unfold ir
 rw [ny,ny]
 have fk:∀ k,bC r (aO (dg P) k)=bC r (aO (dg Q) k):=fun k=>congrFun F k
 have fp:SO.dG ((iM ((dg P).map (·.1))).filter fun k=>bC r (aO (dg P) k) !=0):=List.Pairwise.filter _ (jj gp)
 have fq:SO.dG ((iM ((dg Q).map (·.1))).filter fun k=>bC r (aO (dg Q) k) !=0):=List.Pairwise.filter _ (jj gq)
 have mem:∀ (A:List aA) (k:List Int),(k∈(iM (A.map (·.1))).filter fun k=>bC r (aO A k) !=0)↔bC r (aO A k)≠0:=by
  intro A k
  rw [List.mem_filter,(dN _).mem_iff]
  refine ⟨fun q=>by simpa using q.2,fun q=>⟨?_,by simpa using q⟩⟩
  by_cases e:k∈A.map (·.1)
  ·exact e
  ·rw [eZ e,EV hr] at q
   exact absurd rfl q
 have pm:((iM ((dg P).map (·.1))).filter fun k=>bC r (aO (dg P) k) !=0).Perm ((iM ((dg Q).map (·.1))).filter fun k=>bC r (aO (dg Q) k) !=0):=
  (List.perm_ext_iff_of_nodup (bE fp) (bE fq)).mpr fun k=>by rw [mem,mem,fk]
 rw [uo pm fp fq]
 exact List.map_congr_left fun k _=>by rw [fk]
end
theorem E2 (a b:List Int):(a.zip b).map (fun p=>p.1+p.2)=aF a b:=by
 unfold aF
 induction a generalizing b with
 | nil=>rfl
 | cons x a ih=>cases b with
  | nil=>rfl
  | cons y b=>rw [List.zip_cons_cons,List.map_cons,ih b,List.zipWith_cons_cons]
noncomputable def nn:Val->Int
 | .tup [.int i,.int j]=>i+j
 | _=>0
theorem zj {a b:List Int} (h:a.length<=10) (s:ah):PM.joined [tupI a,tupI b] s=.ok (tupI (aF a b)) (s++[.lst ((aF a b).map Val.int)]):=by
 have cp:=cP (a:=eu [aName 0,aName 1]) (c:=bz) (e:=ag cb (ae 0) (ae 1)) (g:=fun _=>True/\True) (st:=s) ⟨trivial,trivial⟩ (fun τ=>∃ x y,τ=[x,y]) (fun _=>true) (fun v=>.int (nn v)) (iV (a.map Val.int) (b.map Val.int)) [none,none] [] ⟨_,_,rfl⟩ (by
  rintro u hu τ ⟨x,y,rfl⟩
  rw [fZ] at hu
  obtain ⟨p,hp,rfl⟩:=List.mem_map.mp hu
  exact ⟨[some (.int p.1),some (.int p.2)],rfl,⟨_,_,rfl⟩,rfl,fun _=>rfl⟩)
 have e:((iV (a.map Val.int) (b.map Val.int)).filter fun _=>true).map (fun v=>Val.int (nn v))=(aF a b).map Val.int:=by
  rw [List.filter_eq_self.mpr fun _ _=>rfl,fZ,List.map_map,<-E2,List.map_map]; rfl
 rw [e,List.nil_append] at cp
 have zl:(iV (a.map Val.int) (b.map Val.int)).length<=sizeLine:=by
  rw [fZ,List.length_map,List.length_zip,sizeLine_eq]; lia
 have comp:cD 2 [] (iH false false (aa (ae 0) (aa (ae 1) aj))) (eu [(aName 0),(aName 1)]) bz (ag cb (ae 0) (ae 1)) [some (tupI a),some (tupI b)] s=.ok (.loc s.length) (s++[.lst ((aF a b).map Val.int)]):=by
  rw [ij,Ba,d5 (v:=tupI a) (w:=tupI b) (s1:=s) (s2:=s) rfl rfl,aw]
  show (Ej false false [.tup (a.map Val.int),.tup (b.map Val.int)] s).ic _=_
  rw [xk,aw,jP,if_pos zl]
  show (fg _ _ _ _ _ [none,none] s []).ic A8=_
  rw [cp,aw,oz]
 unfold PM.joined
 rw [dF (np:=2) (us:=[tupI a,tupI b]) rfl]
 show (aR (ak ff (aa (cD 2 [] (iH false false (aa (ae 0) (aa (ae 1) aj))) (eu [(aName 0),(aName 1)]) bz (ag cb (ae 0) (ae 1))) aj)) [some (tupI a),some (tupI b)] s).fin=_
 rw [cF,call_of (d4 comp),ik (aP s _)]
 rfl
theorem r9 (st g:ah) (c c':Cell):(st++c::g).set st.length c'=st++c'::g:=by
 rw [List.set_append_right _ _ (Nat.le_refl _),Nat.sub_self]; rfl
theorem sq (st g:ah) (c:Cell):(st++c::g)[st.length]?=some c:=by
 rw [List.getElem?_append_right (Nat.le_refl _),Nat.sub_self]; rfl
noncomputable def iy (s:aA) (B:List aA):List aA:=B.map fun t=>(aF s.1 t.1,s.2*t.2)
theorem qK (A B:List aA) (s:aA):eB (A++[s]) B=eB A B++iy s B:=by
 unfold eB iy; rw [List.flatMap_append]; simp
theorem E3 {μ:MN.Env} {s:ah} {o:ME} {a:MA} {n:Nat} {us:List Val} {v:Val} (ho:o μ s=.ok (.loc n) s) {s1:ah} (h0:s[n]?=some (.lst us)) (ha:a μ s=.ok [v] s1) (h:s1[n]?=some (.lst us)) (hl:us.length<1000000):cR (fH bX o a) μ s=.nx μ (s1.set n (.lst (us++[v]))):=by
 rw [gk,jR,ho,aw,oB h0,ha,aw,t9,gL h (by rw [sizeLine_eq]; lia),aT]; rfl
noncomputable def natOf:Val->Nat
 | .int i=>i.toNat
 | _=>0
theorem xF:∀ (a b:List Int),a.length=b.length->(List.range a.length).map (fun i=>a.getD i 0+b.getD i 0)=aF a b
 | [],[],_=>rfl
 | x::a,y::b,h=>by
  have ih:=xF a b (by simpa using h)
  rw [List.length_cons,List.range_succ_eq_map,List.map_cons,List.map_map]
  show _=(x+y)::aF a b
  rw [<-ih]; rfl
section
variable {r:Int} {many b:Nat} {P X:List aA}
theorem wg (P:List aA):(ir r P).length<=P.length:=Nat.le_trans (BZ _ _) (fm P).2.1
theorem aY {s:ah} {n:Nat} {us:List Val} (h:s[n]?=some (.lst us)):itemsOf s n=some us:=by unfold itemsOf; rw [h]
end
noncomputable def pA:Val->Int × Int
 | .tup [.int i,.int j]=>(i,j)
 | _=>(0,0)
theorem xG {e:ME} {g:Int->Int->Val} {a b:List Int} {s:ah} (ha:a.length<=100) (he:∀ i j,e [some (.int i),some (.int j)] s=.ok (g i j) s) :
  cD 2 [] (iH false false (aa (ae 0) (aa (ae 1) aj))) (eu [(aName 0),(aName 1)]) bz e [some (tupI a),some (tupI b)] s=.ok (.loc s.length) (s++[.lst ((a.zip b).map fun p=>g p.1 p.2)]):=by
 have cp:=cP (a:=eu [aName 0,aName 1]) (c:=bz) (e:=e) (g:=fun _=>True/\True) (st:=s) ⟨trivial,trivial⟩ (fun τ=>∃ x y,τ=[x,y]) (fun _=>true) (fun v=>g (pA v).1 (pA v).2) (iV (a.map Val.int) (b.map Val.int)) [none,none] [] ⟨_,_,rfl⟩ (by
  rintro u hu τ ⟨x,y,rfl⟩
  rw [fZ] at hu
  obtain ⟨p,hp,rfl⟩:=List.mem_map.mp hu
  exact ⟨[some (.int p.1),some (.int p.2)],rfl,⟨_,_,rfl⟩,rfl,fun _=>he p.1 p.2⟩)
 have e2:((iV (a.map Val.int) (b.map Val.int)).filter fun _=>true).map (fun v=>g (pA v).1 (pA v).2)=(a.zip b).map fun p=>g p.1 p.2:=by
  rw [List.filter_eq_self.mpr fun _ _=>rfl,fZ,List.map_map]; rfl
 rw [e2,List.nil_append] at cp
 have zl:(iV (a.map Val.int) (b.map Val.int)).length<=sizeLine:=by
  rw [fZ,List.length_map,List.length_zip,sizeLine_eq]; lia
 rw [ij,Ba,d5 (v:=tupI a) (w:=tupI b) (s1:=s) (s2:=s) rfl rfl,aw]
 show (Ej false false [.tup (a.map Val.int),.tup (b.map Val.int)] s).ic _=_
 rw [xk,aw,jP,if_pos zl]
 show (fg _ _ _ _ _ [none,none] s []).ic A8=_
 rw [cp,aw,oz]
noncomputable def cK (f:Int->Int->Int) (a b:List Int):List Int:=(a.zip b).map fun p=>f p.1 p.2
theorem PR {F:FN} {e:ME} {f:Int->Int->Int} {a b:List Int} {s:ah} (hF:F=mU 2 2 (aR (ak ff (aa (cD 2 [] (iH false false (aa (ae 0) (aa (ae 1) aj))) (eu [(aName 0),(aName 1)]) bz e) aj)))) (ha:a.length<=100) (he:∀ i j,e [some (.int i),some (.int j)] s=.ok (.int (f i j)) s) :
  ∃ g,F [tupI a,tupI b] s=.ok (tupI (cK f a b)) (s++g):=by
 refine ⟨[.lst ((a.zip b).map fun p=>Val.int (f p.1 p.2))],?_⟩
 rw [hF,dF (np:=2) (us:=[tupI a,tupI b]) rfl]
 show (aR (ak ff (aa (cD 2 [] (iH false false (aa (ae 0) (aa (ae 1) aj))) (eu [(aName 0),(aName 1)]) bz e) aj)) [some (tupI a),some (tupI b)] s).fin=_
 rw [cF,call_of (d4 (xG (g:=fun i j=>.int (f i j)) ha he)),ik (aP s _),aT]
 show Res.ok (Val.tup _) _=_
 unfold cK tupI
 rw [List.map_map]
 rfl
theorem E5 {a b:List Int} (ha:a.length<=100) (s:ah):∃ g,PM.gn [tupI a,tupI b] s=.ok (tupI (cK (· - ·) a b)) (s++g):=PR rfl ha fun i j=>rfl
theorem uK {α:Type} (f:α->Bool):∀ l:List α,mm (l.map fun p=>Val.bl (f p))=some (l.map f)
 | []=>rfl
 | p::l=>by show (mm (l.map fun p=>Val.bl (f p))).map (f p :: ·)=_; rw [uK f l]; rfl
theorem wj {a b:List Int} (ha:a.length<=100) (s:ah):∃ g,PM.dS [tupI a,tupI b] s=.ok (.bl ((a.zip b).all fun p=>decide (p.1<=p.2))) (s++g):=by
 refine ⟨[.lst ((a.zip b).map fun p=>Val.bl (decide (p.1<=p.2)))],?_⟩
 unfold PM.dS
 rw [dF (np:=2) (us:=[tupI a,tupI b]) rfl]
 show (aR (ak yx (aa (cD 2 [] (iH false false (aa (ae 0) (aa (ae 1) aj))) (eu [(aName 0),(aName 1)]) bz (ag M9 (ae 0) (ae 1))) aj)) [some (tupI a),some (tupI b)] s).fin=_
 have c:=xG (e:=ag M9 (ae 0) (ae 1)) (g:=fun i j=>.bl (decide (i<=j))) (a:=a) (b:=b) (s:=s) ha fun i j=>rfl
 have al:yx [.loc s.length] (s++[.lst ((a.zip b).map fun p=>Val.bl (decide (p.1<=p.2)))])=.ok (.bl ((a.zip b).all fun p=>decide (p.1<=p.2))) (s++[.lst ((a.zip b).map fun p=>Val.bl (decide (p.1<=p.2)))]):=by
  unfold yx
  dsimp only
  rw [aP s _]
  dsimp only
  rw [uK (fun p:Int × Int=>decide (p.1<=p.2))]
  dsimp only
  rw [List.all_map]; rfl
 rw [cF,call_of (d4 c),al,aT]
 rfl
end PG
namespace PG
noncomputable def gx (e:List Int) (i:Nat):Int:=e.getD i 0
noncomputable def vW (e:List Int):Int:=64*gx e 0+16*gx e 1+4*gx e 2+gx e 3
structure su (e:List Int):Prop where
 n0:0<=gx e 0
 n1:0<=gx e 1
 n2:0<=gx e 2
 n3:0<=gx e 3
 a0:gx e 0<=7
 a1:3*gx e 0+gx e 1<=28
 a3:48*gx e 0+12*gx e 1+3*gx e 2+gx e 3<=448
 av:vW e<=595
noncomputable def kG (e:List Int):Int:=((gx e 0*29+gx e 1)*150+gx e 2)*449+gx e 3
theorem Jc (i:Nat):gx [] i=0:=rfl
theorem fJ:∀ {a b:List Int} (i:Nat),a.length=b.length->gx (aF a b) i=gx a i+gx b i
 | [],[],i,_=>by simp [aF,gx]
 | x::a,y::b,0,h=>rfl
 | x::a,y::b,i+1,h=>fJ (a:=a) (b:=b) i (by simpa using h)
 | [],y::b,_,h=>by simp at h
 | x::a,[],_,h=>by simp at h
theorem oW:∀ {a b:List Int} (i:Nat),a.length=b.length->gx (cK (· - ·) a b) i=gx a i-gx b i
 | [],[],i,_=>by simp [cK,gx]
 | x::a,y::b,0,h=>rfl
 | x::a,y::b,i+1,h=>oW (a:=a) (b:=b) i (by simpa using h)
 | [],y::b,_,h=>by simp at h
 | x::a,[],_,h=>by simp at h
theorem sub_len {a b:List Int} (h:a.length=b.length):(cK (· - ·) a b).length=a.length:=by
 unfold cK; rw [List.length_map,List.length_zip,h,Nat.min_self]
theorem uL:∀ {a b:List Int},a.length=b.length->aF (cK (· - ·) a b) b=a
 | [],[],_=>rfl
 | x::a,y::b,h=>by
  show (x-y+y)::aF (cK (· - ·) a b) b=_
  rw [uL (by simpa using h)]
  congr 1; lia
 | [],y::b,h=>by simp at h
 | x::a,[],h=>by simp at h
theorem join_comm (a b:List Int):aF a b=aF b a:=by
 unfold aF
 rw [List.zipWith_comm]
 congr 1
 funext x y
 exact Int.add_comm y x
theorem oX:∀ {a b c:List Int},a.length=b.length->a.length=c.length->SO.lexLt (aF a c) (aF b c)=SO.lexLt a b
 | [],[],[],_,_=>rfl
 | x::a,y::b,z::c,h1,h2=>by
  have ih:=oX (a:=a) (b:=b) (c:=c) (by simpa using h1) (by simpa using h2)
  show (if x+z=y+z then SO.lexLt (aF a c) (aF b c) else decide (x+z<y+z))=if x=y then SO.lexLt a b else decide (x<y)
  rw [ih]
  by_cases e:x=y
  ·rw [if_pos e,if_pos (by lia)]
  ·rw [if_neg e,if_neg (by lia)]
   by_cases q:x<y
   ·rw [decide_eq_true q,decide_eq_true (by lia)]
   ·rw [decide_eq_false q,decide_eq_false (by lia)]
 | [],_::_,_,h,_=>by simp at h
 | _::_,[],_,h,_=>by simp at h
 | [],[],_::_,_,h=>by simp at h
 | _::_,_::_,[],_,h=>by simp at h
inductive zo (a b:List Int):Prop
 | S6 (h:gx a 0<gx b 0):zo a b
 | S7 (e:gx a 0=gx b 0) (h:gx a 1<gx b 1):zo a b
 | at2 (e:gx a 0=gx b 0) (e1:gx a 1=gx b 1) (h:gx a 2<gx b 2):zo a b
 | S8 (e:gx a 0=gx b 0) (e1:gx a 1=gx b 1) (e2:gx a 2=gx b 2) (h:gx a 3<gx b 3):zo a b
theorem E7 {many:Nat} {a b:List Int} (hm:many<=4) (ha:a.length=many) (hb:b.length=many) (h:SO.lexLt a b=true):zo a b:=by
 have un:∀ (x y:Int) (r q:List Int),SO.lexLt (x::r) (y::q)=true->x<y\/(x=y/\SO.lexLt r q=true):=by
  intro x y r q h
  replace h:(if x=y then SO.lexLt r q else decide (x<y))=true:=h
  by_cases e:x=y
  ·rw [if_pos e] at h; exact .inr ⟨e,h⟩
  ·rw [if_neg e] at h; exact .inl (of_decide_eq_true h)
 match a,b with
 | [],[]=>cases h
 | [],_::_=>simp at ha hb; lia
 | _::_,[]=>cases h
 | a0::a,b0::b=>
  rcases un _ _ _ _ h with q | ⟨e0,h⟩
  ·exact .S6 q
  match a,b with
  | [],[]=>cases h
  | [],_::_=>simp at ha hb; lia
  | _::_,[]=>cases h
  | a1::a,b1::b=>
   rcases un _ _ _ _ h with q | ⟨e1,h⟩
   ·exact .S7 e0 q
   match a,b with
   | [],[]=>cases h
   | [],_::_=>simp at ha hb; lia
   | _::_,[]=>cases h
   | a2::a,b2::b=>
    rcases un _ _ _ _ h with q | ⟨e2,h⟩
    ·exact .at2 e0 e1 q
    match a,b with
    | [],[]=>cases h
    | [],_::_=>simp at ha hb; lia
    | _::_,[]=>cases h
    | a3::a,b3::b=>
     rcases un _ _ _ _ h with q | ⟨e3,h⟩
     ·exact .S8 e0 e1 e2 q
     match a,b with
     | [],[]=>cases h
     | [],_::_=>simp at ha hb; lia
     | _::_,[]=>cases h
     | a4::a,b4::b=>simp at ha; lia
theorem su.z2 {e:List Int} (h:su e):gx e 2<=149/\gx e 3<=448/\gx e 1<=28:=by
 have:=h.n0; have:=h.n1; have:=h.n2; have:=h.n3; have:=h.a1; have:=h.a3
 lia
theorem su.code {e:List Int} (h:su e):0<=kG e/\kG e<15625200:=by
 have:=h.z2; have:=h.n0; have:=h.n1; have:=h.n2; have:=h.n3; have:=h.a0
 unfold kG; lia
theorem su.lt {a b:List Int} (ha:su a) (hb:su b) (d:zo a b):kG a<kG b:=by
 have:=ha.z2; have:=ha.n0; have:=ha.n1; have:=ha.n2; have:=ha.n3; have:=ha.a0
 have:=hb.z2; have:=hb.n0; have:=hb.n1; have:=hb.n2; have:=hb.n3; have:=hb.a0
 unfold kG
 cases d <;> lia
theorem lT {many:Nat} (hm:many<=4):∀ {l:List (List Int)} {c:Nat},SO.dG l->(∀ e∈l,e.length=many/\su e/\kG e<c)->l.length<=c
 | [],c,_,_=>Nat.zero_le _
 | k::l,c,f,h=>by
  obtain ⟨f1,f2⟩:=List.pairwise_cons.mp f
  obtain ⟨hk,rk,ck⟩:=h k List.mem_cons_self
  have cn:=rk.code
  have:=lT (c:=(kG k).toNat) hm f2 fun e he=>by
   obtain ⟨Rm,re,_⟩:=h e (List.mem_cons_of_mem _ he)
   have:=re.lt rk (E7 hm Rm hk (f1 e he))
   exact ⟨Rm,re,by lia⟩
  rw [List.length_cons]
  lia
noncomputable def L9 (e:List Int):Prop:=∀ i,0<=gx e i/\gx e i<=3
theorem su.step {many:Nat} {t l b s:List Int} (hm:many<=4) (h:su t) (ht:t.length=many) (hl:l.length=many) (hb:b.length=many) (es:s=cK (· - ·) t l) (sl:L9 l) (sb:L9 b) (hd:∀ i,gx l i<=gx t i) (pC:SO.lexLt b l=true) :
  su (aF s b)/\vW (aF s b)+1<=vW t:=by
 have ls:s.length=b.length:=by rw [es,sub_len (by rw [ht,hl]),ht,hb]
 have g:∀ i,gx (aF s b) i=gx t i-gx l i+gx b i:=fun i=>by rw [fJ i ls,es,oW i (by rw [ht,hl])]
 have D:=E7 hm hb hl pC
 have g0:=g 0; have g1:=g 1; have g2:=g 2; have g3:=g 3
 have l0:=sl 0; have l1:=sl 1; have l2:=sl 2; have l3:=sl 3
 have b0:=sb 0; have b1:=sb 1; have b2:=sb 2; have b3:=sb 3
 have d0:=hd 0; have d1:=hd 1; have d2:=hd 2; have d3:=hd 3
 have:=h.a0; have:=h.a1; have:=h.a3; have av:=h.av
 unfold vW at av
 have v:vW (aF s b)+1<=vW t:=by
  unfold vW
  cases D <;> lia
 refine ⟨⟨by lia,by lia,by lia,by lia,?_,?_,?_,?_⟩,v⟩
 ·cases D <;> lia
 ·cases D <;> lia
 ·cases D <;> lia
 ·have:=h.av; lia
theorem su.of {e:List Int} (h:∀ i,0<=gx e i/\gx e i<=7):su e:=by
 have h0:=h 0; have h1:=h 1; have h2:=h 2; have h3:=h 3
 exact ⟨by lia,by lia,by lia,by lia,by lia,by lia,by lia,by unfold vW; lia⟩
end PG
namespace PG
open PySem PySem.Spec L2 MN
open PyProof.Rows hiding St kindOf
theorem JO (n:Int):bC 0 n=n:=by unfold bC; rw [if_pos rfl]
theorem Ca (f:List Int->Int) (P:List aA):bJ f (ir 0 P)=bJ f P:=by
 have:=Jb (r:=0) rfl P f
 rwa [JO,JO] at this
theorem Gi {P Q:List aA} (h:∀ f,bJ f P=bJ f Q):ir 0 P=ir 0 Q:=L8 rfl fun f=>by rw [h f]
theorem oY (P:List aA):SO.dG ((ir 0 P).map (·.1)):=wd 0 (fm P).1
theorem L_ (P:List aA):((ir 0 P).map (·.1)).Nodup:=bE (oY P)
theorem iz {P:List aA} {t:aA} (h:t∈ir 0 P):t.1∈P.map (·.1)/\t.2≠0:=by
 obtain ⟨q,hq,e1,e2⟩:=uI h
 refine ⟨by rw [e1]; exact List.mem_map.mpr (List.mem_map.mp ((fm P).2.2 q hq)),?_⟩
 unfold ir kE at h
 simpa using (List.mem_filter.mp h).2
theorem wk {many:Nat} {P:List aA} (h:∀ t∈P,t.1.length=many/\∀ e∈t.1,0<=e):dO many (ir 0 P):=by
 have key:∀ t∈ir 0 P,t.1.length=many/\∀ e∈t.1,0<=e:=fun t ht=>by
  obtain ⟨q,hq,e⟩:=List.mem_map.mp (iz ht).1
  rw [<-e]; exact h q hq
 exact ⟨oY P,fun t ht=>(key t ht).1,fun t ht=>(key t ht).2,fun t ht=>(iz ht).2⟩
theorem E9 {A:List aA} (nd:(A.map (·.1)).Nodup) (nz:∀ t∈A,t.2≠0):(ir 0 A).Perm A:=by
 unfold ir
 rw [zi nd,ny]
 have e1:((iM (A.map (·.1))).filter fun k=>bC 0 (aO A k) !=0)=iM (A.map (·.1)):=List.filter_eq_self.mpr fun k hk=>by
  obtain ⟨t,ht,e⟩:=List.mem_map.mp ((dN _).mem_iff.mp hk)
  rw [JO,<-e,fI nd ht]
  simpa using nz t ht
 rw [e1]
 have e2:((A.map (·.1)).map fun k=>(k,bC 0 (aO A k)))=A:=by
  rw [List.map_map]
  conv=>rhs; rw [<-List.map_id A]
  exact List.map_congr_left fun t ht=>by
   show (t.1,bC 0 (aO A t.1))=t
   rw [JO,fI nd ht]
 have:=(dN (A.map (·.1))).map fun k=>(k,bC 0 (aO A k))
 rwa [e2] at this
theorem qL {A D:List aA} (p:A.Perm D) (nd:(A.map (·.1)).Nodup) (k:List Int):aO A k=aO D k:=by
 rw [<-dy A nd,<-dy D ((p.map _).nodup_iff.mp nd),oS p]
noncomputable def qM (q:aA) (A:List aA) (b:aA):List aA:=
 if aO A (aF b.1 q.1)-q.2*b.2=0 then A.filter fun p=>decide (p.1≠aF b.1 q.1) else fC A (aF b.1 q.1) (aO A (aF b.1 q.1)-q.2*b.2)
theorem uM {f:List Int->Int} {k:List Int}:∀ A:List aA,(A.map (·.1)).Nodup->bJ f (A.filter fun p=>decide (p.1≠k))=bJ f A-f k*aO A k
 | [],_=>by show (0:Int)=0-f k*0; lia
 | p::A,nd=>by
  rw [List.map_cons] at nd
  obtain ⟨n1,n2⟩:=List.nodup_cons.mp nd
  have ih:=uM (f:=f) (k:=k) A n2
  by_cases e:p.1=k
  ·rw [List.filter_cons_of_neg (by simp [e]),ih,iw e,eZ (by rw [<-e]; exact n1)]
   show _=f p.1*p.2+bJ f A-f k*p.2
   rw [e]; lia
  ·rw [List.filter_cons_of_pos (by simp [e]),ix e]
   show f p.1*p.2+bJ f (A.filter fun p=>decide (p.1≠k))=f p.1*p.2+bJ f A-f k*aO A k
   rw [ih]; lia
structure Tk (A:List aA):Prop where
 nd:(A.map (·.1)).Nodup
 nz:∀ t∈A,t.2≠0
theorem Jd {q b:aA} {A:List aA} (h:Tk A):Tk (qM q A b)/\(qM q A b).length<=A.length+1/\∀ f,bJ f (qM q A b)=bJ f A-f (aF q.1 b.1)*(q.2*b.2):=by
 unfold qM
 by_cases z:aO A (aF b.1 q.1)-q.2*b.2=0
 ·rw [if_pos z]
  refine ⟨⟨List.Nodup.sublist ((List.filter_sublist).map _) h.nd,fun t ht=>h.nz t (List.mem_filter.mp ht).1⟩,Nat.le_succ_of_le (List.length_filter_le _ _),fun f=>?_⟩
  rw [uM A h.nd,join_comm q.1 b.1,show aO A (aF b.1 q.1)=q.2*b.2 by lia]
 ·rw [if_neg z]
  refine ⟨⟨jU h.nd _ _,fun t ht=>?_⟩,uD,fun f=>?_⟩
  ·rcases oM ht with ht | rfl
   ·exact h.nz t ht
   ·exact z
  ·rw [xD h.nd,join_comm q.1 b.1,show aO A (aF b.1 q.1)-q.2*b.2-aO A (aF b.1 q.1) = -(q.2*b.2) by lia,Int.mul_neg]
   lia
theorem wm {q:aA}:∀ (B A:List aA),Tk A->Tk (B.foldl (qM q) A)/\(B.foldl (qM q) A).length<=A.length+B.length/\∀ f,bJ f (B.foldl (qM q) A)=bJ f A-bJ f (iy q B)
 | [],A,h=>⟨h,Nat.le_refl _,fun f=>by show bJ f A=bJ f A-0; lia⟩
 | b::B,A,h=>by
  obtain ⟨h1,h2,h3⟩:=Jd (q:=q) (b:=b) h
  obtain ⟨k1,k2,k3⟩:=wm B (qM q A b) h1
  refine ⟨k1,by rw [List.length_cons]; show (B.foldl (qM q) (qM q A b)).length<=_; lia,fun f=>?_⟩
  show bJ f (B.foldl (qM q) (qM q A b))=bJ f A-(f (aF q.1 b.1)*(q.2*b.2)+bJ f (iy q B))
  rw [k3,h3]; lia
theorem kH (f:List Int->Int):∀ L:List aA,bJ f (chg (fun n => -n) L) = -bJ f L
 | []=>rfl
 | t::L=>by
  show f t.1 * -t.2+bJ f (chg (fun n => -n) L) = -(f t.1*t.2+bJ f L)
  rw [kH f L,Int.mul_neg]; lia
noncomputable def wq (B D:List aA) (q:aA):List aA:=ir 0 (D++chg (fun n => -n) (iy q B))
theorem xH (f:List Int->Int) (B D:List aA) (q:aA):bJ f (wq B D q)=bJ f D-bJ f (iy q B):=by
 unfold wq
 rw [Ca,iu,kH]; lia
theorem E_ {q:aA} {A D B:List aA} (h:Tk A) (p:A.Perm D):Tk (B.foldl (qM q) A)/\(B.foldl (qM q) A).Perm (wq B D q):=by
 obtain ⟨k1,_,k3⟩:=wm (q:=q) B A h
 refine ⟨k1,?_⟩
 have e:ir 0 (B.foldl (qM q) A)=wq B D q:=by
  refine Gi fun f=>?_
  rw [k3,iu,kH,oS p]; lia
 rw [<-e]
 exact (E9 k1.nd k1.nz).symm
theorem Cb (q:aA) (B:List aA):eB [q] B=iy q B:=by
 show (B.map fun t=>(aF q.1 t.1,q.2*t.2))++[]=_
 rw [List.append_nil]; rfl
theorem Fb (q:aA) (B D:List aA):ir 0 (D++chg (fun n => -n) (ir 0 (eB [q] B)))=wq B D q:=by
 refine Gi fun f=>?_
 rw [iu,kH,Ca,Cb,iu,kH]
theorem Cc {t:aA} {r:List aA} (f:SO.dG ((t::r).map (·.1))):∀ {ks:List (List Int)} {k:List Int},(k::ks).Perm ((t::r).map (·.1))->SO.vN k ks=t.1:=by
 intro ks k p
 have top:∀ x∈k::ks,x=t.1\/SO.lexLt x t.1=true:=fun x hx=>by
  have:=p.mem_iff.mp hx
  rw [List.map_cons] at this f
  rcases List.mem_cons.mp this with e | m
  ·exact .inl e
  ·exact .inr ((List.pairwise_cons.mp f).1 x m)
 have has:t.1∈k::ks:=p.mem_iff.mpr List.mem_cons_self
 clear p f
 induction ks generalizing k with
 | nil=>
  rcases List.mem_cons.mp has with e | m
  ·exact e.symm
  ·cases m
 | cons x ks ih=>
  show SO.vN (if SO.lexLt k x=true then x else k) ks=t.1
  refine ih (fun y hy=>?_) ?_
  ·rcases List.mem_cons.mp hy with e | m
   ·rw [e]; split
    ·exact top x (List.mem_cons_of_mem _ List.mem_cons_self)
    ·exact top k List.mem_cons_self
   ·exact top y (List.mem_cons_of_mem _ (List.mem_cons_of_mem _ m))
  ·rcases List.mem_cons.mp has with e | m
   ·rw [<-e]
    have nx:¬ SO.lexLt t.1 x=true:=fun z=>by
     rcases top x (List.mem_cons_of_mem _ List.mem_cons_self) with e2 | m2
     ·rw [e2,SO.eT] at z; cases z
     ·rw [SO.il z] at m2; cases m2
    rw [if_neg nx]
    exact List.mem_cons_self
   ·rcases List.mem_cons.mp m with e | m
    ·rw [<-e]
     by_cases z:SO.lexLt k t.1=true
     ·rw [if_pos z]; exact List.mem_cons_self
     ·rw [if_neg z]
      rcases top k List.mem_cons_self with e2 | m2
      ·rw [e2]; exact List.mem_cons_self
      ·exact absurd m2 z
    ·exact List.mem_cons_of_mem _ m
noncomputable def wt (l t:aA):Bool:=((l.1.zip t.1).all fun p=>decide (p.1<=p.2))&&(t.2.fmod l.2==0)
noncomputable def m6 (l t:aA):aA:=(cK (· - ·) t.1 l.1,t.2.fdiv l.2)
theorem wu:∀ {a b:List Int},a.length=b.length->((a.zip b).all fun p=>decide (p.1<=p.2))=true->∀ i,gx a i<=gx b i
 | [],[],_,_,i=>by rw [Jc]; exact Int.le_refl _
 | x::a,y::b,h,q,0=>by
  rw [List.zip_cons_cons,List.all_cons,Bool.and_eq_true] at q
  exact of_decide_eq_true q.1
 | x::a,y::b,h,q,i+1=>by
  rw [List.zip_cons_cons,List.all_cons,Bool.and_eq_true] at q
  exact wu (a:=a) (b:=b) (by simpa using h) q.2 i
 | [],_::_,h,_,_=>by simp at h
 | _::_,[],h,_,_=>by simp at h
theorem Cd {e:List Int} {i:Nat} (h:i<e.length):gx e i∈e:=by
 unfold gx
 rw [List.getD_eq_getElem?_getD,List.getElem?_eq_getElem h]
 exact List.getElem_mem h
theorem sv {e:List Int} {x:Int} (h:x∈e):∃ i,gx e i=x:=by
 obtain ⟨i,hi,e1⟩:=List.mem_iff_getElem.mp h
 refine ⟨i,?_⟩
 unfold gx
 rw [List.getD_eq_getElem?_getD,List.getElem?_eq_getElem hi]
 exact e1
structure Nu (many:Nat) (D Q:List aA):Prop where
 sD:dO many D
 sQ:dO many Q
 lD:D.length<=15625200
 lQ:Q.length<=15625200
inductive Dv (many:Nat) (B:List aA) (l:aA):List aA->List aA->Option (List aA)->Prop
 | done {Q:List aA} (h:Nu many [] Q):Dv many B l [] Q (some Q)
 | stop {t:aA} {r Q:List aA} (h:Nu many (t::r) Q) (n:wt l t=false):Dv many B l (t::r) Q none
 | more {t:aA} {r Q:List aA} {R:Option (List aA)} (h:Nu many (t::r) Q) (n:wt l t=true) (m:∀ b∈B,MulOk (m6 l t).2 b.2) (k:Dv many B l (wq B (t::r) (m6 l t)) (Q++[m6 l t]) R):Dv many B l (t::r) Q R
structure CS (many:Nat) (l:aA) (B row:List aA):Prop where
 m1:1<=many
 m4:many<=4
 sB:dO many (l::B)
 sm:∀ b∈l::B,L9 b.1
 lB:B.length<=4
 nB:∀ b∈l::B,f_ 70 b.2
 nR:∀ k,f_ 150 (aO row k)
 dR:(row.map (·.1)).Nodup
noncomputable def bB (v:Int):Nat:=80*(596-v).toNat+150
structure Div (many:Nat) (l:aA) (B row D Q:List aA):Prop where
 sD:dO many D
 rD:∀ t∈D,su t.1
 lQ:∀ s∈Q,s.1.length=many
 rQ:∀ s∈Q,su (aF s.1 l.1)
 nQ:∀ s∈Q,∀ e∈s.1,0<=e
 zQ:∀ s∈Q,s.2≠0
 fQ:SO.dG (Q.map fun s=>aF s.1 l.1)
 ab:∀ s∈Q,∀ t∈D,SO.lexLt t.1 (aF s.1 l.1)=true
 eq:∀ f,bJ f D+bJ f (eB Q (l::B))=bJ f row
 big:∀ s∈Q,f_ (bB (vW (aF s.1 l.1))) s.2
theorem f_.add {k:Nat} {x y:Int} (h1:f_ k x) (h2:f_ k y):f_ (k+1) (x+y):=by
 have h1:x.natAbs<2 ^ k:=h1
 have h2:y.natAbs<2 ^ k:=h2
 show (x+y).natAbs<2 ^ (k+1)
 rw [Nat.pow_succ]
 lia
theorem f_.neg {k:Nat} {x:Int} (h:f_ k x):f_ k (-x):=by
 have h:x.natAbs<2 ^ k:=h
 show (-x).natAbs<2 ^ k
 lia
theorem oZ (k:Nat):f_ k 0:=by
 show (0:Int).natAbs<2 ^ k
 exact Nat.pow_pos (by decide)
theorem Ce {a b c:List Int} (h1:a.length=c.length) (h2:b.length=c.length) (h:aF a c=aF b c):a=b:=by
 induction a generalizing b c with
 | nil=>
  cases b with
  | nil=>rfl
  | cons=>cases c <;> simp at h1 h2
 | cons x a ih=>
  cases b with
  | nil=>cases c <;> simp at h1 h2
  | cons y b=>
   cases c with
   | nil=>simp at h1
   | cons z c=>
    injection h with e1 e2
    have e1:x+z=y+z:=e1
    rw [ih (by simpa using h1) (by simpa using h2) e2,show x=y by lia]
theorem Cf {many:Nat} {b e:List Int} (hb:b.length=many):∀ Q:List aA,(Q.map (·.1)).Nodup->(∀ s∈Q,s.1.length=many)->bJ (fun s=>if aF s b=e then 1 else 0) Q=0\/∃ s∈Q,aF s.1 b=e/\bJ (fun s=>if aF s b=e then 1 else 0) Q=s.2
 | [],_,_=>.inl rfl
 | s::Q,nd,hl=>by
  rw [List.map_cons] at nd
  obtain ⟨n1,n2⟩:=List.nodup_cons.mp nd
  have lQ:=fun x hx=>hl x (List.mem_cons_of_mem _ hx)
  have ih:=Cf (e:=e) hb Q n2 lQ
  have ex:bJ (fun s=>if aF s b=e then 1 else 0) (s::Q)=(if aF s.1 b=e then 1 else 0)*s.2+bJ (fun s=>if aF s b=e then 1 else 0) Q:=rfl
  rw [ex]
  by_cases z:aF s.1 b=e
  ·right
   refine ⟨s,List.mem_cons_self,z,?_⟩
   rw [if_pos z]
   rcases ih with h | ⟨x,hx,h1,_⟩
   ·rw [h]; lia
   ·have:=Ce (by rw [lQ x hx,hb]) (by rw [hl s List.mem_cons_self,hb]) (h1.trans z.symm)
    exact absurd (List.mem_map.mpr ⟨x,hx,this⟩) n1
  ·rw [if_neg z]
   rcases ih with h | ⟨x,hx,h1,h2⟩
   ·left; rw [h]; lia
   ·right; exact ⟨x,List.mem_cons_of_mem _ hx,h1,by rw [h2]; lia⟩
theorem xI {φ:List Int->Int} {K:Nat}:∀ L:List aA,(∀ b∈L,f_ K (φ b.1)/\f_ 70 b.2)->f_ (K+70+L.length) (bJ φ L)
 | [],_=>oZ _
 | b::L,h=>by
  have ih:=xI (φ:=φ) (K:=K) L fun x hx=>h x (List.mem_cons_of_mem _ hx)
  obtain ⟨h1,h2⟩:=h b List.mem_cons_self
  have:=f_.mul h1 h2
  rw [List.length_cons,<-Nat.add_assoc]
  exact f_.add (this.mono (by lia)) ih
theorem xJ {a b:List Int} (h:a.length=b.length):vW (aF a b)=vW a+vW b:=by
 unfold vW
 rw [fJ 0 h,fJ 1 h,fJ 2 h,fJ 3 h]; lia
theorem Ma {many:Nat} {b l:List Int} (hm:many<=4) (hb:b.length=many) (hl:l.length=many) (sb:L9 b) (sl:L9 l) (h:SO.lexLt b l=true):vW b+1<=vW l:=by
 have D:=E7 hm hb hl h
 have l0:=sl 0; have l1:=sl 1; have l2:=sl 2; have l3:=sl 3
 have b0:=sb 0; have b1:=sb 1; have b2:=sb 2; have b3:=sb 3
 unfold vW
 cases D <;> lia
section
variable {many:Nat} {l:aA} {B row D Q r:List aA} {t:aA}
theorem CS.lt (C:CS many l B row):∀ b∈B,SO.lexLt b.1 l.1=true:=fun b hb=>(List.pairwise_cons.mp (by have:=C.sB.iI; rwa [List.map_cons] at this)).1 b.1 (List.mem_map.mpr ⟨b,hb,rfl⟩)
theorem Div.nd (C:CS many l B row) (I:Div many l B row D Q):(Q.map (·.1)).Nodup:=by
 have h:=bE I.fQ
 have e:(Q.map fun s=>aF s.1 l.1)=(Q.map (·.1)).map fun s=>aF s l.1:=by rw [List.map_map]; rfl
 rw [e] at h
 exact List.Pairwise.of_map _ (fun a b z e=>z (by rw [e])) h
theorem Div.head (C:CS many l B row) (I:Div many l B row (t::r) Q):f_ (bB (vW t.1)) t.2:=by
 have nd:=I.nd C
 have lt:t.1.length=many:=I.sD.len t List.mem_cons_self
 have ll:l.1.length=many:=C.sB.len l List.mem_cons_self
 have rt:=I.rD t List.mem_cons_self
 have nD:((t::r).map (·.1)).Nodup:=bE I.sD.iI
 have e0:=I.eq fun x=>if x=t.1 then 1 else 0
 rw [dy _ nD,dy _ C.dR,fI nD List.mem_cons_self,B8,B9] at e0
 obtain ⟨φ,hφ⟩:∃ φ:List Int->Int,φ=fun b=>bJ (fun a=>if aF a b=t.1 then 1 else 0) Q:=⟨_,rfl⟩
 have e1:bJ (fun b=>bJ (fun a=>if aF a b=t.1 then (1:Int) else 0) Q) (l::B)=φ l.1*l.2+bJ φ B:=by rw [hφ]; rfl
 rw [e1] at e0
 have φl:φ l.1=0:=by
  rw [hφ]
  rcases Cf (e:=t.1) ll Q nd I.lQ with h | ⟨s,hs,h1,_⟩
  ·exact h
  ·have:=I.ab s hs t List.mem_cons_self
   rw [h1,SO.eT] at this
   cases this
 rw [φl] at e0
 obtain ⟨K,hK⟩:∃ K,K=80*(595-vW t.1).toNat+150:=⟨_,rfl⟩
 have av:=rt.av
 have S9:bB (vW t.1)=K+80:=by unfold bB; lia
 have φb:∀ b∈B,f_ K (φ b.1)/\f_ 70 b.2:=fun b hb=>by
  have lb:b.1.length=many:=C.sB.len b (List.mem_cons_of_mem _ hb)
  refine ⟨?_,C.nB b (List.mem_cons_of_mem _ hb)⟩
  rw [hφ]
  rcases Cf (e:=t.1) lb Q nd I.lQ with h | ⟨s,hs,h1,h2⟩
  ·show f_ K (bJ _ Q)
   rw [h]; exact oZ _
  ·show f_ K (bJ _ Q)
   rw [h2]
   refine (I.big s hs).mono ?_
   have v1:=Ma C.m4 lb ll (C.sm b (List.mem_cons_of_mem _ hb)) (C.sm l List.mem_cons_self) (C.lt b hb)
   have ls:=I.lQ s hs
   have v2:=xJ (a:=s.1) (b:=l.1) (by rw [ls,ll])
   have v3:=xJ (a:=s.1) (b:=b.1) (by rw [ls,lb])
   rw [h1] at v3
   unfold bB
   lia
 have L:=xI B φb
 have lB:=C.lB
 have nR:=C.nR t.1
 have e2:t.2=aO row t.1 + -(bJ φ B):=by rw [Int.zero_mul] at e0; lia
 rw [e2,S9]
 exact (f_.add (k:=K+74) (nR.mono (by lia)) (f_.neg (L.mono (by lia)))).mono (by lia)
theorem Div.Fc (C:CS many l B row) (I:Div many l B row D Q):Nu many D Q:=by
 have ll:l.1.length=many:=C.sB.len l List.mem_cons_self
 refine ⟨I.sD,⟨?_,I.lQ,I.nQ,I.zQ⟩,?_,?_⟩
 ·have h:=I.fQ
  unfold SO.dG at h ⊢
  rw [List.pairwise_map] at h ⊢
  exact List.Pairwise.imp_of_mem (fun {a b} ha hb q=>by rwa [oX (by rw [I.lQ a ha,I.lQ b hb]) (by rw [I.lQ b hb,ll])] at q) h
 ·have:=lT (c:=15625200) C.m4 I.sD.iI fun e he=>by
   obtain ⟨t,ht,rfl⟩:=List.mem_map.mp he
   exact ⟨I.sD.len t ht,I.rD t ht,(I.rD t ht).code.2⟩
  rwa [List.length_map] at this
 ·have:=lT (c:=15625200) C.m4 I.fQ fun e he=>by
   obtain ⟨s,hs,rfl⟩:=List.mem_map.mp he
   exact ⟨gS (I.lQ s hs) ll,I.rQ s hs,(I.rQ s hs).code.2⟩
  rwa [List.length_map] at this
theorem qN (C:CS many l B row) (lt:t.1.length=many) (n:wt l t=true):(∀ i,gx l.1 i<=gx t.1 i)/\(m6 l t).1.length=many/\aF (m6 l t).1 l.1=t.1/\(m6 l t).2*l.2=t.2:=by
 have ll:l.1.length=many:=C.sB.len l List.mem_cons_self
 unfold wt at n
 rw [Bool.and_eq_true] at n
 refine ⟨wu (by rw [ll,lt]) n.1,by show (cK _ _ _).length=_; rw [sub_len (by rw [lt,ll]),lt],uL (by rw [lt,ll]),?_⟩
 have e:=Int.fmod_add_mul_fdiv t.2 l.2
 have z:t.2.fmod l.2=0:=by simpa using n.2
 rw [z] at e
 show t.2.fdiv l.2*l.2=t.2
 rw [Int.mul_comm]; rwa [Int.zero_add] at e
theorem xK {K:Nat} (C:CS many l B row) (h:(m6 l t).2*l.2=t.2) (b:f_ K t.2):f_ K (m6 l t).2:=by
 have nz:=C.sB.nz l List.mem_cons_self
 have e:(m6 l t).2.natAbs*l.2.natAbs=t.2.natAbs:=by rw [<-Int.natAbs_mul,h]
 refine b.le ?_
 rw [<-e]
 exact Nat.le_mul_of_pos_right _ (by lia)
theorem Div.step (C:CS many l B row) (I:Div many l B row (t::r) Q) (n:wt l t=true):Div many l B row (wq (l::B) (t::r) (m6 l t)) (Q++[m6 l t])/\∀ x∈wq (l::B) (t::r) (m6 l t),SO.lexLt x.1 t.1=true:=by
 have lt:t.1.length=many:=I.sD.len t List.mem_cons_self
 have ll:l.1.length=many:=C.sB.len l List.mem_cons_self
 have rt:=I.rD t List.mem_cons_self
 obtain ⟨q1,q2,q3,q4⟩:=qN C lt n
 have hb:=xK C q4 (I.head C)
 obtain ⟨q,hq⟩:∃ q,q=m6 l t:=⟨_,rfl⟩
 have qs:q.1=cK (· - ·) t.1 l.1:=by rw [hq]; rfl
 rw [<-hq] at q2 q3 q4 hb ⊢
 have nD:((t::r).map (·.1)).Nodup:=bE I.sD.iI
 have fr:=List.pairwise_cons.mp (show ((t::r).map (·.1)).Pairwise _ from I.sD.iI)
 have S_:∀ e∈q.1,0<=e:=fun e he=>by
  obtain ⟨i,hi⟩:=sv he
  rw [<-hi,qs,oW i (by rw [lt,ll])]
  have:=q1 i
  lia
 -- xT terms of xT row
 have rb:∀ b∈B,su (aF q.1 b.1)/\SO.lexLt (aF q.1 b.1) t.1=true:=fun b hb=>by
  have lb:b.1.length=many:=C.sB.len b (List.mem_cons_of_mem _ hb)
  refine ⟨(su.step C.m4 rt lt ll lb qs (C.sm l List.mem_cons_self) (C.sm b (List.mem_cons_of_mem _ hb)) q1 (C.lt b hb)).1,?_⟩
  rw [<-q3,join_comm q.1 b.1,join_comm q.1 l.1,oX (by rw [lb,ll]) (by rw [lb,q2])]
  exact C.lt b hb
 have cancel:∀ x∈wq (l::B) (t::r) q,x.1≠t.1:=fun x hx e=>by
  have nx:=L_ ((t::r)++chg (fun n => -n) (iy q (l::B)))
  have g:=fI nx hx
  rw [e,<-dy _ nx] at g
  have g2:=xH (fun y=>if y=t.1 then 1 else 0) (l::B) (t::r) q
  unfold wq at g2
  rw [g,dy _ nD,fI nD List.mem_cons_self] at g2
  have PU:∀ L:List aA,(∀ b∈L,aF q.1 b.1≠t.1)->bJ (fun y=>if y=t.1 then (1:Int) else 0) (iy q L)=0:=by
   intro L
   induction L with
   | nil=>intro _; rfl
   | cons b L ih=>
    intro h
    show (if aF q.1 b.1=t.1 then (1:Int) else 0)*(q.2*b.2)+bJ _ (iy q L)=0
    rw [if_neg (h b List.mem_cons_self),ih fun x hx=>h x (List.mem_cons_of_mem _ hx)]
    lia
  have rl:bJ (fun y=>if y=t.1 then (1:Int) else 0) (iy q (l::B))=t.2:=by
   show (if aF q.1 l.1=t.1 then (1:Int) else 0)*(q.2*l.2)+bJ _ (iy q B)=t.2
   rw [if_pos q3,q4,PU B fun b hb z=>by
    have:=(rb b hb).2
    rw [z,SO.eT] at this
    cases this]
   lia
  rw [rl] at g2
  exact (iz hx).2 (by lia)
 have mem:∀ x∈wq (l::B) (t::r) q,x.1∈r.map (·.1)\/∃ b∈B,x.1=aF q.1 b.1:=fun x hx=>by
  have:=(iz hx).1
  rw [List.map_append] at this
  rcases List.mem_append.mp this with h | h
  ·rw [List.map_cons] at h
   rcases List.mem_cons.mp h with e | h
   ·exact absurd e (cancel x hx)
   ·exact .inl h
  ·obtain ⟨y,hy,e⟩:=List.mem_map.mp h
   unfold chg at hy
   obtain ⟨z,hz,rfl⟩:=List.mem_map.mp hy
   unfold iy at hz
   obtain ⟨b,hb,rfl⟩:=List.mem_map.mp hz
   rcases List.mem_cons.mp hb with rfl | hb
   ·exact absurd (e.symm.trans q3) (cancel x hx)
   ·exact .inr ⟨b,hb,e.symm⟩
 have low:∀ x∈wq (l::B) (t::r) q,SO.lexLt x.1 t.1=true:=fun x hx=>by
  rcases mem x hx with h | ⟨b,hb,e⟩
  ·exact fr.1 _ h
  ·rw [e]; exact (rb b hb).2
 have good:∀ x∈wq (l::B) (t::r) q,x.1.length=many/\(∀ e∈x.1,0<=e)/\su x.1:=fun x hx=>by
  rcases mem x hx with h | ⟨b,hb,e⟩
  ·obtain ⟨y,hy,e⟩:=List.mem_map.mp h
   have PV:=List.mem_cons_of_mem t hy
   rw [<-e]
   exact ⟨I.sD.len y PV,I.sD.nn y PV,I.rD y PV⟩
  ·have lb:b.1.length=many:=C.sB.len b (List.mem_cons_of_mem _ hb)
   rw [e]
   refine ⟨gS q2 lb,fun z hz=>?_,(rb b hb).1⟩
   obtain ⟨i,hi⟩:=sv hz
   rw [<-hi,fJ i (by rw [q2,lb]),qs,oW i (by rw [lt,ll])]
   have:=q1 i
   have:=(C.sm b (List.mem_cons_of_mem _ hb) i).1
   lia
 have mq:∀ s∈Q++[q],s∈Q\/s=q:=fun s hs=>by
  rcases List.mem_append.mp hs with h | h
  ·exact .inl h
  ·exact .inr (List.mem_singleton.mp h)
 refine ⟨⟨⟨oY _,fun x hx=>(good x hx).1,fun x hx=>(good x hx).2.1,fun x hx=>(iz hx).2⟩,fun x hx=>(good x hx).2.2,fun s hs=>?_,fun s hs=>?_,fun s hs=>?_,fun s hs=>?_,?_,fun s hs x hx=>?_,fun f=>?_,fun s hs=>?_⟩,low⟩
 ·rcases mq s hs with h | rfl
  ·exact I.lQ s h
  ·exact q2
 ·rcases mq s hs with h | rfl
  ·exact I.rQ s h
  ·rw [q3]; exact rt
 ·rcases mq s hs with h | rfl
  ·exact I.nQ s h
  ·exact S_
 ·rcases mq s hs with h | rfl
  ·exact I.zQ s h
  ·intro z
   rw [z,Int.zero_mul] at q4
   exact I.sD.nz t List.mem_cons_self q4.symm
 ·rw [List.map_append]
  refine List.pairwise_append.mpr ⟨I.fQ,List.pairwise_singleton _ _,fun a ha b hb=>?_⟩
  obtain ⟨s,hs,rfl⟩:=List.mem_map.mp ha
  rw [List.map_singleton] at hb
  rw [List.mem_singleton.mp hb,q3]
  exact I.ab s hs t List.mem_cons_self
 ·rcases mq s hs with h | rfl
  ·exact SO.kr (low x hx) (I.ab s h t List.mem_cons_self)
  ·rw [q3]; exact low x hx
 ·rw [xH,qK,iu,<-I.eq f]; lia
 ·rcases mq s hs with h | rfl
  ·exact I.big s h
  ·rw [q3]; exact hb
theorem Mb (C:CS many l B row):∀ (n:Nat) (D Q:List aA),Div many l B row D Q->(∀ t r,D=t::r->kG t.1<n)->∃ R,Dv many (l::B) l D Q R:=by
 intro n
 induction n with
 | zero=>
  intro D Q I h
  cases D with
  | nil=>exact ⟨_,.done (I.Fc C)⟩
  | cons t r=>
   have:=h t r rfl
   have:=(I.rD t List.mem_cons_self).code.1
   lia
 | succ n ih=>
  intro D Q I h
  cases D with
  | nil=>exact ⟨_,.done (I.Fc C)⟩
  | cons t r=>
   cases k:wt l t with
   | false=>exact ⟨_,.stop (I.Fc C) k⟩
   | true=>
    obtain ⟨I2,low⟩:=I.step C k
    have lt:t.1.length=many:=I.sD.len t List.mem_cons_self
    obtain ⟨R,hR⟩:=ih _ _ I2 fun t' r' e=>by
     have m:t'∈wq (l::B) (t::r) (m6 l t):=by rw [e]; exact List.mem_cons_self
     have:=(I2.rD t' m).lt (I.rD t List.mem_cons_self) (E7 C.m4 (I2.sD.len t' m) lt (low t' m))
     have:=h t r rfl
     lia
    refine ⟨R,.more (I.Fc C) k (fun b hb=>?_) hR⟩
    have bq:=xK C (qN C lt k).2.2.2 (I.head C)
    refine .inl ⟨Sz.of bq ?_,Sz.of (C.nB b hb) (by decide)⟩
    have v0:0<=vW t.1:=by
     have:=I.rD t List.mem_cons_self
     have:=this.n0; have:=(I.rD t List.mem_cons_self).n1; have:=(I.rD t List.mem_cons_self).n2; have:=(I.rD t List.mem_cons_self).n3
     unfold vW; lia
    unfold bB
    lia
end
theorem zr {p:Nat} {P:List aA} {st:ah} (h:itemsOf st p=some (P.map tV)) (hl:P.length<16000000) :
  ∃ x2 x3,forL (fun ar=>itemsOf ar p=some (P.map tV)) (eu [aName 2,aName 3]) y9 (P.map tV) [some (.loc p),some (.loc st.length),none,none] (st++[.dT []])=.nx [some (.loc p),some (.loc st.length),x2,x3] (st++[.dT ((dg P).map eD)]):=by
 have hg:∀ (A:List aA),itemsOf (st++[.dT (A.map eD)]) p=some (P.map tV):=fun A=>bN h _
 obtain ⟨μ',ar,e,rfl,x2,x3,rfl⟩:=fh (g:=fun ar=>itemsOf ar p=some (P.map tV)) (a:=eu [aName 2,aName 3]) (body:=y9)
  (fun i μ s'=>s'=st++[.dT ((dg (P.take i)).map eD)]/\∃ x2 x3,μ=[some (.loc p),some (.loc st.length),x2,x3])
  (P.map tV) 0 [some (.loc p),some (.loc st.length),none,none] (st++[.dT []])
  (by
   rintro i u μ s' hu ⟨rfl,x2,x3,rfl⟩
   rw [Nat.zero_add]
   refine ⟨hg _,?_⟩
   rw [List.getElem?_map] at hu
   have hi:i<P.length:=by
    rcases Nat.lt_or_ge i P.length with q | q
    ·exact q
    ·rw [List.getElem?_eq_none q] at hu; cases hu
   rw [List.getElem?_eq_getElem hi] at hu
   obtain ⟨t,ht⟩:∃ t,t=P[i]:=⟨_,rfl⟩
   rw [<-ht] at hu
   cases hu
   have tk:P.take (i+1)=P.take i++[t]:=by
    rw [List.take_succ,List.getElem?_eq_getElem hi,<-ht]; rfl
   have lA:=(fm (P.take i)).2.1
   rw [List.length_take] at lA
   have ad:=BN (p:=p) (k:=t.1) (v:=t.2) (sj st ((dg (P.take i)).map eD)) (by rw [sizeLine_eq]; lia)
   rw [set_dict,<-zh,<-tk] at ad
   exact ⟨_,rfl,_,_,.inl ad,rfl,_,_,rfl⟩)
  (fun μ s hp=>by obtain ⟨rfl,_⟩:=hp; exact hg _)
  ⟨rfl,none,none,rfl⟩
 rw [Nat.zero_add,List.length_map,List.take_of_length_le (Nat.le_refl _)] at e
 exact ⟨x2,x3,e⟩
theorem Fd (P:List aA):told (dg P)=ir 0 P:=by
 unfold told ir
 rw [ny]
 have e:(fun k=>bC 0 (aO (dg P) k))=fun k=>aO (dg P) k:=funext fun k=>JO _
 show _=((iM ((dg P).map (·.1))).filter fun k=>(fun k=>bC 0 (aO (dg P) k)) k !=0).map fun k=>(k,(fun k=>bC 0 (aO (dg P) k)) k)
 rw [e]
theorem jW {p:Nat} {P:List aA} {st:ah} (h:itemsOf st p=some (P.map tV)) (vG:∀ t∈P,t.1≠[]) (hl:P.length<16000000) :
  ∃ c1 c2,PM.bT [.loc p] st=.ok (.loc (st.length+2)) (st++[c1,c2,.lst ((ir 0 P).map tV)]):=by
 obtain ⟨x2,x3,e⟩:=zr h hl
 obtain ⟨A,hA⟩:∃ A,A=dg P:=⟨_,rfl⟩
 have G:=fm P
 rw [<-Fd]
 rw [<-hA] at e G ⊢
 obtain ⟨s,hs⟩:∃ s,s=st++[Cell.dT (A.map eD)]:=⟨_,rfl⟩
 have hd:s[st.length]?=some (.dT (A.map eD)):=by rw [hs]; exact sj st _
 have Mc:(A.map eD).map (·.1)=(A.map (·.1)).map iK:=by rw [List.map_map,List.map_map]; rfl
 have lA:=G.2.1
 have Ta:=Ew (ks:=A.map (·.1)) hd Mc (by rw [List.length_map,sizeLine_eq]; lia) (fun k hk=>by
  obtain ⟨t,ht,rfl⟩:=List.mem_map.mp hk
  obtain ⟨q,hq,e⟩:=List.mem_map.mp (G.2.2 t ht)
  rw [<-e]; exact vG q hq)
 obtain ⟨s2,dk⟩:∃ s2,s2=s++[Cell.lst ((iM (A.map (·.1))).map tupI)]:=⟨_,rfl⟩
 have ls:s.length=st.length+1:=by rw [hs,List.length_append]; rfl
 have hd2:s2[st.length]?=some (.dT (A.map eD)):=by
  rw [dk,List.getElem?_append_left (by lia)]; exact hd
 have hit:itemsOf s2 s.length=some ((iM (A.map (·.1))).map tupI):=by rw [dk]; exact aP s _
 have hc:=BO (g:=fun ar=>itemsOf ar s.length=some ((iM (A.map (·.1))).map tupI)) hit hd2
 have hlen:((iM (A.map (·.1))).map tupI).length<=sizeLine:=by
  rw [List.length_map,(dN _).length_eq,List.length_map,sizeLine_eq]; lia
 refine ⟨.dT (A.map eD),.lst ((iM (A.map (·.1))).map tupI),?_⟩
 have Lg:lq 1 [1] [some (Val.loc p),some (Val.loc st.length),x2,x3]=[none,some (.loc st.length)]:=rfl
 have comp:cD 1 [1] (fA (lF (ae 1))) (aName 0) L4 L5 [some (.loc p),some (.loc st.length),x2,x3] s=.ok (.loc s2.length) (s2++[.lst ((told A).map tV)]):=by
  have v1:ae 1 [some (.loc p),some (.loc st.length),x2,x3] s=.ok (.loc st.length) s:=rfl
  rw [ij,gm,BP,v1,aw,Ta,<-dk,aw,eQ hit,aw,jP,if_pos hlen,Lg,hc,aw,oz]
 have fl:gJ (fA (ae 0)) (eu [aName 2,aName 3]) y9 [some (.loc p),some (.loc st.length),none,none] (st++[.dT []])=.nx [some (.loc p),some (.loc st.length),x2,x3] s:=by
  have v0:ae 0 [some (.loc p),some (.loc st.length),none,none] (st++[.dT []])=.ok (.loc p) (st++[.dT []]):=rfl
  rw [jO,gm,v0,aw,eQ (bN h _),aT,oy,hs]
  exact e
 have l2:s2.length=st.length+2:=by rw [dk,List.length_append,ls]; rfl
 have es:s2++[Cell.lst ((told A).map tV)]=st++[.dT (A.map eD),.lst ((iM (A.map (·.1))).map tupI),.lst ((told A).map tV)]:=by
  rw [dk,hs,List.append_assoc,List.append_assoc]; rfl
 rw [<-es,<-l2]
 have start:aL 1 rR [some (.loc p),none,none,none] st=.nx [some (.loc p),some (.loc st.length),none,none] (st++[.dT []]):=rfl
 have ret:aR (cD 1 [1] (fA (lF (ae 1))) (aName 0) L4 L5) [some (.loc p),some (.loc st.length),x2,x3] s=.rt (.loc s2.length) (s2++[.lst ((told A).map tV)]):=by
  rw [cF,comp]; rfl
 unfold PM.bT
 rw [dF (np:=1) (us:=[Val.loc p]) rfl]
 show (aI (aL 1 rR) (aI (gJ (fA (ae 0)) (eu [aName 2,aName 3]) y9) (aR (cD 1 [1] (fA (lF (ae 1))) (aName 0) L4 L5))) [some (.loc p),none,none,none] st).fin=_
 rw [au,start,ay,au,fl,ay,ret]
 rfl
noncomputable def pM (st ar:ah) (k:Nat) (D:List aA):Prop:=(∃ g,ar=st++g)/\st.length<=k/\ar[k]?=some (.lst (D.map tV))
theorem pM.it {st ar:ah} {k:Nat} {D:List aA} (h:pM st ar k D):itemsOf ar k=some (D.map tV):=aY h.2.2
theorem pM.old {st ar:ah} {k n:Nat} {D:List aA} {c:Cell} (h:pM st ar k D) (e:st[n]?=some c):ar[n]?=some c:=by
 obtain ⟨⟨g,rfl⟩,_⟩:=h
 exact aB e g
theorem pM.Fe {st ar:ah} {k n:Nat} {D:List aA} {us:List Val} (h:pM st ar k D) (e:itemsOf st n=some us):itemsOf ar n=some us:=by
 obtain ⟨⟨g,rfl⟩,_⟩:=h
 exact bN e g
theorem mF {p q:Nat} {P R:List aA} {st:ah} (hp:st[p]?=some (.lst (P.map tV))) (hq:st[q]?=some (.lst (R.map tV))) (vG:∀ t∈P++R,t.1≠[]) (hl:P.length+R.length<16000000) :
  ∃ k ar,PM.bo [.loc p,.loc q] st=.ok (.loc k) ar/\pM st ar k (ir 0 (P++R)):=by
 obtain ⟨s1,cH⟩:∃ s1,s1=st++[Cell.lst ((P++R).map tV)]:=⟨_,rfl⟩
 have i1:itemsOf s1 st.length=some ((P++R).map tV):=by rw [cH]; exact aP st _
 obtain ⟨c1,c2,e⟩:=jW i1 vG (by rw [List.length_append]; exact hl)
 have l1:s1.length=st.length+1:=by rw [cH,List.length_append]; rfl
 refine ⟨s1.length+2,s1++[c1,c2,.lst ((ir 0 (P++R)).map tV)],?_,⟨⟨[Cell.lst ((P++R).map tV),c1,c2,.lst ((ir 0 (P++R)).map tV)],by rw [cH,List.append_assoc]; rfl⟩,by lia,?_⟩⟩
 ·unfold PM.bo
  rw [dF (np:=2) (us:=[Val.loc p,.loc q]) rfl]
  show (aR (ak PM.bT (aa (ag cb (ae 0) (ae 1)) aj)) [some (.loc p),some (.loc q)] st).fin=_
  have ad:ag cb (ae 0) (ae 1) [some (.loc p),some (.loc q)] st=.ok (.loc st.length) s1:=by
   rw [aK (x:=.loc p) (y:=.loc q) (s1:=st) (s2:=st) rfl rfl]
   show (match st[p]?,st[q]? with | some (.lst us),some (.lst ws)=>if us.length+ws.length<=sizeLine then Res.ok (Val.loc st.length) (st++[Cell.lst (us++ws)]) else .bad | _,_=>.bad)=_
   rw [hp,hq]
   dsimp only
   rw [if_pos (by rw [List.length_map,List.length_map,sizeLine_eq]; lia),cH,List.map_append]
  rw [cF,call_of (d4 ad),e,aT]; rfl
 ·rw [List.getElem?_append_right (by lia),show s1.length+2-s1.length=2 by lia]; rfl
noncomputable abbrev PX:ME:=ag cb (ag aZ (ae 1) (ae 0)) (ag aZ (ae 2) (ae 0))
noncomputable abbrev Md:ME:=cD 1 [3,5] (cz (aa (ak dZ (aa (ae 3) aj)) aj)) (aName 0) bz PX
theorem Ff {μ:MN.Env} {a b:List Int} {s:ah} (hc:lq 1 [3,5] μ=[none,some (tupI a),some (tupI b)]) (v3:ae 3 μ s=.ok (tupI a) s) (hl:a.length=b.length) (h:a.length<=10):Md μ s=.ok (.loc s.length) (s++[.lst ((aF a b).map Val.int)]):=by
 have cp:=cP (a:=aName 0) (c:=bz) (e:=PX) (g:=fun _=>True) (st:=s) trivial (fun τ=>∃ x,τ=[x,some (tupI a),some (tupI b)]) (fun _=>true) (fun v=>.int (a.getD (natOf v) 0+b.getD (natOf v) 0)) (bH 0 a.length) [none,some (tupI a),some (tupI b)] [] ⟨_,rfl⟩ (by
  rintro v hv τ ⟨x,rfl⟩
  obtain ⟨i,PY⟩:=List.getElem?_of_mem hv
  obtain ⟨hi,rfl⟩:=Gh PY
  refine ⟨[some (.int (0+(i:Int))),some (tupI a),some (tupI b)],rfl,⟨_,rfl⟩,rfl,fun _=>?_⟩
  rw [Int.zero_add]
  have e1:ag aZ (ae 1) (ae 0) [some (.int (i:Int)),some (tupI a),some (tupI b)] s=.ok (.int (a.getD i 0)) s:=by
   rw [aK (x:=tupI a) (y:=.int (i:Int)) (s1:=s) (s2:=s) rfl rfl,EM hi]
  have e2:ag aZ (ae 2) (ae 0) [some (.int (i:Int)),some (tupI a),some (tupI b)] s=.ok (.int (b.getD i 0)) s:=by
   rw [aK (x:=tupI b) (y:=.int (i:Int)) (s1:=s) (s2:=s) rfl rfl,EM (by lia)]
  unfold PX
  rw [aK e1 e2,jQ]
  rfl)
 have e:((bH 0 a.length).filter fun _=>true).map (fun v=>Val.int (a.getD (natOf v) 0+b.getD (natOf v) 0))=(aF a b).map Val.int:=by
  rw [List.filter_eq_self.mpr fun _ _=>rfl,<-xF a b hl]
  unfold bH
  rw [List.map_map,List.map_map]
  refine List.map_congr_left fun i _=>?_
  show Val.int (a.getD (natOf (.int (0+(i:Int)))) 0+b.getD (natOf (.int (0+(i:Int)))) 0)=_
  rw [Int.zero_add]; rfl
 rw [e,List.nil_append] at cp
 have len:ak dZ (aa (ae 3) aj) μ s=.ok (.int (a.length:Int)) s:=by
  rw [call_of (d4 v3)]
  show dZ [.tup (a.map Val.int)] s=_
  rw [xp,List.length_map]
 unfold Md
 rw [ij,BW (d4 len) (by lia) (by lia),aw,Int.toNat_natCast,jP,if_pos (by rw [B6,sizeLine_eq]; lia),hc,cp,aw,oz]
noncomputable abbrev PZ:MB:=cR (fH bX (ae 2) (aa (d8 (aa (ak ff (aa Md aj)) (aa (ag cw (ae 4) (ae 6)) aj))) aj))
theorem Cg {q:Nat} {u:aA} {B L0:List aA} {st g0:ah} {x0 z5 z6:Option Val} (hq:itemsOf st q=some (B.map tV)) (hs:u.1.length<=10) (hB:∀ t∈B,u.1.length=t.1.length/\MulOk u.2 t.2) (hl:L0.length+B.length<1000000) :
  ∃ y5 y6 g,forL (fun ar=>itemsOf ar q=some (B.map tV)) (eu [aName 5,aName 6]) PZ (B.map tV) [x0,some (.loc q),some (.loc st.length),some (tupI u.1),some (.int u.2),z5,z6] (st ++ .lst (L0.map tV)::g0)=.nx [x0,some (.loc q),some (.loc st.length),some (tupI u.1),some (.int u.2),y5,y6] (st ++ .lst ((L0++iy u B).map tV)::g):=by
 have hg:∀ g:ah,itemsOf (st++g) q=some (B.map tV):=fun g=>bN hq _
 obtain ⟨μ',ar,e,g,rfl,y5,y6,rfl⟩:=fh (g:=fun ar=>itemsOf ar q=some (B.map tV)) (a:=eu [aName 5,aName 6]) (body:=PZ)
  (fun i μ s'=>∃ g,s'=st ++ .lst ((L0++iy u (B.take i)).map tV)::g/\∃ y5 y6,μ=[x0,some (.loc q),some (.loc st.length),some (tupI u.1),some (.int u.2),y5,y6])
  (B.map tV) 0 [x0,some (.loc q),some (.loc st.length),some (tupI u.1),some (.int u.2),z5,z6] (st ++ .lst (L0.map tV)::g0)
  (by
   rintro i v μ s' hu ⟨g,rfl,y5,y6,rfl⟩
   rw [Nat.zero_add]
   refine ⟨hg _,?_⟩
   rw [List.getElem?_map] at hu
   have hi:i<B.length:=by
    rcases Nat.lt_or_ge i B.length with z | z
    ·exact z
    ·rw [List.getElem?_eq_none z] at hu; cases hu
   rw [List.getElem?_eq_getElem hi] at hu
   obtain ⟨t,ht⟩:∃ t,t=B[i]:=⟨_,rfl⟩
   rw [<-ht] at hu
   cases hu
   have tB:t∈B:=by rw [ht]; exact List.getElem_mem hi
   have tk:B.take (i+1)=B.take i++[t]:=by
    rw [List.take_succ,List.getElem?_eq_getElem hi,<-ht]; rfl
   obtain ⟨L,hL⟩:∃ L,L=L0++iy u (B.take i):=⟨_,rfl⟩
   have lL:L.length<1000000:=by
    rw [hL,List.length_append]
    unfold iy
    rw [List.length_map,List.length_take]; lia
   have sn:L0++iy u (B.take (i+1))=L++[(aF u.1 t.1,u.2*t.2)]:=by
    rw [hL,tk]; unfold iy; rw [List.map_append,List.append_assoc]; rfl
   rw [<-hL,sn]
   obtain ⟨s1,cH⟩:∃ s1,s1=st++Cell.lst (L.map tV)::g:=⟨_,rfl⟩
   obtain ⟨g1,Tb⟩:∃ g1,g1=g++[Cell.lst ((aF u.1 t.1).map Val.int)]:=⟨_,rfl⟩
   have dk:s1++[Cell.lst ((aF u.1 t.1).map Val.int)]=st++Cell.lst (L.map tV)::g1:=by
    rw [cH,Tb,List.append_assoc]; rfl
   refine ⟨[x0,some (.loc q),some (.loc st.length),some (tupI u.1),some (.int u.2),some (tupI t.1),some (.int t.2)],rfl,[x0,some (.loc q),some (.loc st.length),some (tupI u.1),some (.int u.2),some (tupI t.1),some (.int t.2)],st++Cell.lst ((L++[(aF u.1 t.1,u.2*t.2)]).map tV)::g1,.inl ?_,g1,rfl,_,_,rfl⟩
   rw [<-cH]
   have f1:ak ff (aa Md aj) [x0,some (.loc q),some (.loc st.length),some (tupI u.1),some (.int u.2),some (tupI t.1),some (.int t.2)] s1=.ok (tupI (aF u.1 t.1)) (s1++[Cell.lst ((aF u.1 t.1).map Val.int)]):=by
    rw [call_of (d4 (Ff (a:=u.1) (b:=t.1) rfl rfl (hB t tB).1 hs)),ik (aP s1 _)]
    rfl
   rw [dk] at f1
   have m:∀ s2,ag cw (ae 4) (ae 6) [x0,some (.loc q),some (.loc st.length),some (tupI u.1),some (.int u.2),some (tupI t.1),some (.int t.2)] s2=.ok (.int (u.2*t.2)) s2:=fun s2=>by
    rw [aK (x:=.int u.2) (y:=.int t.2) (s1:=s2) (s2:=s2) rfl rfl,r6 (hB t tB).2]
   have f2:=E3 (μ:=[x0,some (.loc q),some (.loc st.length),some (tupI u.1),some (.int u.2),some (tupI t.1),some (.int t.2)]) (s:=s1) (s1:=st++Cell.lst (L.map tV)::g1) (o:=ae 2) (a:=aa (d8 (aa (ak ff (aa Md aj)) (aa (ag cw (ae 4) (ae 6)) aj))) aj) (n:=st.length) (us:=L.map tV) (v:=tV (aF u.1 t.1,u.2*t.2)) rfl (by rw [cH]; exact sq _ _ _) (d4 (lR (d5 f1 (m _)) (by show 2<=1000; decide))) (sq _ _ _) (by rw [List.length_map]; exact lL)
   rw [r9] at f2
   show cR _ _ _=_
   rw [f2,List.map_append]
   rfl)
  (fun μ s hp=>by obtain ⟨g,rfl,_⟩:=hp; exact hg _)
  ⟨g0,by rw [List.take_zero]; show _=st++Cell.lst ((L0++[]).map tV)::g0; rw [List.append_nil],z5,z6,rfl⟩
 rw [Nat.zero_add,List.length_map,List.take_of_length_le (Nat.le_refl _)] at e
 exact ⟨y5,y6,g,e⟩
noncomputable abbrev P0:MB:=gJ (fA (ae 1)) (eu [aName 5,aName 6]) PZ
theorem Ci {p q many:Nat} {A B:List aA} {st:ah} (hp:itemsOf st p=some (A.map tV)) (hq:itemsOf st q=some (B.map tV)) (h4:many<=4) (hA:∀ t∈A,t.1.length=many) (hB:∀ t∈B,t.1.length=many) (hm:∀ s∈A,∀ t∈B,MulOk s.2 t.2) (hl:A.length*B.length<1000000) :
  ∃ y3 y4 y5 y6 g,forL (fun ar=>itemsOf ar p=some (A.map tV)) (eu [aName 3,aName 4]) P0 (A.map tV) [some (.loc p),some (.loc q),some (.loc st.length),none,none,none,none] (st++[.lst []])=.nx [some (.loc p),some (.loc q),some (.loc st.length),y3,y4,y5,y6] (st ++ .lst ((eB A B).map tV)::g):=by
 have hg:∀ g:ah,itemsOf (st++g) p=some (A.map tV):=fun g=>bN hp _
 obtain ⟨μ',ar,e,g,rfl,y3,y4,y5,y6,rfl⟩:=fh (g:=fun ar=>itemsOf ar p=some (A.map tV)) (a:=eu [aName 3,aName 4]) (body:=P0)
  (fun i μ s'=>∃ g,s'=st ++ .lst ((eB (A.take i) B).map tV)::g/\∃ y3 y4 y5 y6,μ=[some (.loc p),some (.loc q),some (.loc st.length),y3,y4,y5,y6])
  (A.map tV) 0 [some (.loc p),some (.loc q),some (.loc st.length),none,none,none,none] (st++[.lst []])
  (by
   rintro i v μ s' hu ⟨g,rfl,y3,y4,y5,y6,rfl⟩
   rw [Nat.zero_add]
   refine ⟨hg _,?_⟩
   rw [List.getElem?_map] at hu
   have hi:i<A.length:=by
    rcases Nat.lt_or_ge i A.length with z | z
    ·exact z
    ·rw [List.getElem?_eq_none z] at hu; cases hu
   rw [List.getElem?_eq_getElem hi] at hu
   obtain ⟨t,ht⟩:∃ t,t=A[i]:=⟨_,rfl⟩
   rw [<-ht] at hu
   cases hu
   have tA:t∈A:=by rw [ht]; exact List.getElem_mem hi
   have tk:A.take (i+1)=A.take i++[t]:=by
    rw [List.take_succ,List.getElem?_eq_getElem hi,<-ht]; rfl
   have lL:(eB (A.take i) B).length+B.length<1000000:=by
    rw [kF,List.length_take,<-Nat.succ_mul]
    refine Nat.lt_of_le_of_lt (Nat.mul_le_mul_right _ ?_) hl
    lia
   obtain ⟨z5,z6,g1,en⟩:=Cg (q:=q) (u:=t) (B:=B) (L0:=eB (A.take i) B) (st:=st) (g0:=g) (x0:=some (.loc p)) (z5:=y5) (z6:=y6) hq (by rw [hA t tA]; lia) (fun b hb=>⟨by rw [hA t tA,hB b hb],hm t tA b hb⟩) lL
   rw [<-qK,<-tk] at en
   refine ⟨[some (.loc p),some (.loc q),some (.loc st.length),some (tupI t.1),some (.int t.2),y5,y6],rfl,[some (.loc p),some (.loc q),some (.loc st.length),some (tupI t.1),some (.int t.2),z5,z6],_,.inl ?_,g1,rfl,_,_,_,_,rfl⟩
   have v2:∀ s,ae 1 [some (.loc p),some (.loc q),some (.loc st.length),some (tupI t.1),some (.int t.2),y5,y6] s=.ok (.loc q) s:=fun _=>rfl
   show gJ _ _ _ _ _=_
   rw [jO,gm,v2,aw,eQ (bN hq _),aT,oy,en])
  (fun μ s hp=>by obtain ⟨g,rfl,_⟩:=hp; exact hg _)
  ⟨[],rfl,none,none,none,none,rfl⟩
 rw [Nat.zero_add,List.length_map,List.take_of_length_le (Nat.le_refl _)] at e
 exact ⟨y3,y4,y5,y6,g,e⟩
theorem kI {p q many:Nat} {A B:List aA} {st:ah} (hp:itemsOf st p=some (A.map tV)) (hq:itemsOf st q=some (B.map tV)) (h1:1<=many) (h4:many<=4) (hA:∀ t∈A,t.1.length=many) (hB:∀ t∈B,t.1.length=many) (hm:∀ s∈A,∀ t∈B,MulOk s.2 t.2) (hl:A.length*B.length<1000000) :
  ∃ k ar,PM.a9 [.loc p,.loc q] st=.ok (.loc k) ar/\pM st ar k (ir 0 (eB A B)):=by
 obtain ⟨y3,y4,y5,y6,g,e⟩:=Ci hp hq h4 hA hB hm hl
 obtain ⟨s1,cH⟩:∃ s1,s1=st++Cell.lst ((eB A B).map tV)::g:=⟨_,rfl⟩
 rw [<-cH] at e
 have it:itemsOf s1 st.length=some ((eB A B).map tV):=by
  rw [cH]
  unfold itemsOf
  rw [sq]
 obtain ⟨c1,c2,et⟩:=jW it (fun t ht=>by
  obtain ⟨a,ha,b,hb,rfl⟩:=oR ht
  exact jV h1 (gS (hA a ha) (hB b hb))) (by rw [kF]; lia)
 have l1:s1.length=st.length+(g.length+1):=by rw [cH,List.length_append]; rfl
 refine ⟨s1.length+2,s1++[c1,c2,.lst ((ir 0 (eB A B)).map tV)],?_,⟨(Cell.lst ((eB A B).map tV)::g)++[c1,c2,.lst ((ir 0 (eB A B)).map tV)],by rw [cH,List.append_assoc]⟩,by lia,?_⟩
 ·have v1:∀ s,ae 0 [some (.loc p),some (.loc q),some (.loc st.length),none,none,none,none] s=.ok (.loc p) s:=fun _=>rfl
  have x2:aL 2 (bb aj) [some (.loc p),some (.loc q),none,none,none,none,none] st=.nx [some (.loc p),some (.loc q),some (.loc st.length),none,none,none,none] (st++[.lst []]):=br (v:=.loc st.length) (c8 (vs:=[]) rfl (by decide))
  unfold PM.a9
  rw [dF (np:=2) (us:=[Val.loc p,.loc q]) rfl]
  show (aI (aL 2 (bb aj)) (aI (gJ (fA (ae 0)) (eu [aName 3,aName 4]) P0) (aR (ak PM.bT (aa (ae 2) aj)))) [some (.loc p),some (.loc q),none,none,none,none,none] st).fin=_
  rw [au,x2,ay,au,jO,gm,v1,aw,eQ (bN hp _),aT,oy,e,ay,cF,call_of (d4 (v:=.loc st.length) (s1:=s1) rfl),et,aT]
  rfl
 ·rw [List.getElem?_append_right (by lia),show s1.length+2-s1.length=2 by lia]; rfl
theorem Fg {cell k power:Int} {many:Nat} (hp:0<=power):∀ e∈fD cell k power many,e<=power:=by
 intro e he
 unfold fD at he
 obtain ⟨j,_,rfl⟩:=List.mem_map.mp he
 have:=fV (m:=power+1) (by lia) (uG cell (5*k+j))
 lia
structure CT (many:Nat) (power:Int) (n:Nat) (D:List aA):Prop where
 s:dO many D
 hi:∀ t∈D,∀ e∈t.1,e<=power
 l:D.length<=n
 b:∀ t∈D,-(n*10 ^ 20)<=t.2/\t.2<=n*10 ^ 20
theorem o4 {B:Int} (b0:0<=B) {P:List aA} (hp:∀ t∈P,-B<=t.2/\t.2<=B):∀ t∈ir 0 P,-(P.length*B)<=t.2/\t.2<=P.length*B:=fun t ht=>by
 obtain ⟨q,hq,e1,e2⟩:=uI ht
 rw [e2,JO]
 exact we b0 hp q hq
theorem iA {cell terms power kind:Int} {many:Nat} (Tc:1<=many) (hm:many<=4) (t0:0<=terms) (t1:terms<=60) (p0:0<=power) (st:ah) :
  ∃ k ar D,PM.aW [.int cell,.int many,.int terms,.int power,.int kind] st=.ok (.loc k) ar/\pM st ar k D/\CT many power terms.toNat D:=by
 have Nq:=r0 (st:=st++[.lst []]) (j:=terms) (by lia) (by lia)
 obtain ⟨μ',ar,e,P,g,x6,x7,rfl,rfl,hP,hk⟩:=fh (g:=fun _=>True) (a:=aName 6) (body:=L6)
  (fun i μ s'=>∃ (P:List aA) (g:ah) (x6 x7:Option Val),s'=st ++ .lst (P.map tV)::g/\μ=[some (.int cell),some (.int many),some (.int terms),some (.int power),some (.int kind),some (.loc st.length),x6,x7]/\P.length=i/\∀ t∈P,(t.1.length=many/\∀ e∈t.1,0<=e)/\(∀ e∈t.1,e<=power)/\-(10 ^ 20)<=t.2/\t.2<=10 ^ 20)
  (bH 0 terms.toNat) 0 [some (.int cell),some (.int many),some (.int terms),some (.int power),some (.int kind),some (.loc st.length),none,none] (st++[.lst []])
  (by
   rintro i u μ s' hu ⟨P,g,x6,x7,rfl,rfl,hP,hk⟩
   rw [Nat.zero_add] at hP ⊢
   refine ⟨trivial,?_⟩
   rw [fj] at hu
   obtain ⟨k,Ul,rfl⟩:=List.mem_map.mp (List.mem_of_getElem? hu)
   have hi:i<terms.toNat:=by
    have:=fG hu
    rw [List.length_map] at this; unfold vZ at this; rw [List.length_map,List.length_range] at this; exact this
   have mr:=EI cell (5*k+4)
   obtain ⟨v,hv,v1,v2⟩:=v9 (uG cell (5*k+4)) kind mr.1 mr.2
   refine ⟨_,rfl,_,_,.inl (EL hm p0 (by lia) hv),P++[(fD cell k power many,v)],_,_,_,rfl,rfl,by rw [List.length_append,hP]; rfl,fun t ht=>?_⟩
   rcases List.mem_append.mp ht with ht | ht
   ·exact hk t ht
   ·rw [List.mem_singleton.mp ht]
    exact ⟨⟨BR _ _ _ _,EJ p0⟩,Fg p0,v1,v2⟩)
  (fun _ _ _=>trivial) ⟨[],[],none,none,rfl,rfl,rfl,fun t m=>(by cases m)⟩
 rw [Nat.zero_add] at hP
 have Td:P.length=terms.toNat:=by
  rw [hP,fj]; unfold vZ; rw [List.length_map,List.length_map,List.length_range]
 obtain ⟨s,hs⟩:∃ s,s=st++Cell.lst (P.map tV)::g:=⟨_,rfl⟩
 have hc:itemsOf s st.length=some (P.map tV):=by rw [hs]; unfold itemsOf; rw [sq]
 obtain ⟨c1,c2,et⟩:=jW hc (fun t ht=>jV Tc (hk t ht).1.1) (by lia)
 have l1:s.length=st.length+(g.length+1):=by rw [hs,List.length_append]; rfl
 refine ⟨s.length+2,s++[c1,c2,.lst ((ir 0 P).map tV)],ir 0 P,?_,⟨⟨Cell.lst (P.map tV)::g++[c1,c2,.lst ((ir 0 P).map tV)],by rw [hs,List.append_assoc]⟩,by lia,?_⟩,⟨wk fun t ht=>(hk t ht).1,fun t ht=>?_,by have:=wg (r:=0) P; lia,fun t ht=>?_⟩⟩
 ·have first:aL 5 (bb aj) [some (.int cell),some (.int many),some (.int terms),some (.int power),some (.int kind),none,none,none] st=.nx [some (.int cell),some (.int many),some (.int terms),some (.int power),some (.int kind),some (.loc st.length),none,none] (st++[.lst []]):=by
   simp only [aw,aT,FY,xj,gD,A7,jN,List.set_cons_zero,List.set_cons_succ,List.length_nil,sizeLine_eq,Nat.reduceLeDiff,↓reduceIte]
  have loop:gJ (cz (aa (ae 2) aj)) (aName 6) L6 [some (.int cell),some (.int many),some (.int terms),some (.int power),some (.int kind),some (.loc st.length),none,none] (st++[.lst []])=.nx [some (.int cell),some (.int many),some (.int terms),some (.int power),some (.int kind),some (.loc st.length),x6,x7] s:=by
   have a1:cz (aa (ae 2) aj) [some (Val.int cell),some (.int many),some (.int terms),some (.int power),some (.int kind),some (.loc st.length),none,none] (st++[.lst []])=.ok (bH 0 terms.toNat,fun _=>True) (st++[.lst []]):=by
    simp only [aw,fS,d_,gD,dP,rZ,jy,jx,Nq]
   rw [jO,a1,aT,oy,hs]
   exact e
  unfold PM.aW
  rw [dF (np:=5) (us:=[Val.int cell,.int many,.int terms,.int power,.int kind]) rfl]
  show (aI (aL 5 (bb aj)) (aI (gJ (cz (aa (ae 2) aj)) (aName 6) L6) (aR (ak PM.bT (aa (ae 5) aj)))) [some (.int cell),some (.int many),some (.int terms),some (.int power),some (.int kind),none,none,none] st).fin=_
  rw [au,first,ay,au,loop,ay,cF,call_of (d4 (v:=.loc st.length) (s1:=s) rfl),et]
  rfl
 ·rw [List.getElem?_append_right (by lia),show s.length+2-s.length=2 by lia]; rfl
 ·obtain ⟨q,hq,e⟩:=List.mem_map.mp (iz ht).1
  rw [<-e]; exact (hk q hq).2.1
 ·have:=o4 (B:=10 ^ 20) (by decide) (fun t ht=>(hk t ht).2.2) t ht
  rw [Td] at this
  exact this
structure Kp (d a:Nat) (s s':ah):Prop where
 len:s.length<=s'.length
 at_:∀ n c,n≠d->n≠a->s[n]?=some c->s'[n]?=some c
theorem Kp.Me {d a:Nat} {s:ah}:Kp d a s s:=⟨Nat.le_refl _,fun _ _ _ _ h=>h⟩
theorem Kp.trans {d a:Nat} {s s1 s2:ah} (h:Kp d a s s1) (k:Kp d a s1 s2):Kp d a s s2:=⟨Nat.le_trans h.len k.len,fun n c h1 h2 e=>k.at_ n c h1 h2 (h.at_ n c h1 h2 e)⟩
theorem Kp.app {d a:Nat} {s:ah} (g:ah):Kp d a s (s++g):=⟨by rw [List.length_append]; lia,fun n c _ _ e=>aB e g⟩
theorem Kp.Mf {d a:Nat} {s:ah} (c:Cell):Kp d a s (s.set d c):=⟨by rw [List.length_set]; exact Nat.le_refl _,fun n c' h1 _ e=>by rw [List.getElem?_set_ne (Ne.symm h1)]; exact e⟩
theorem Kp.P_ {d a:Nat} {s:ah} (c:Cell):Kp d a s (s.set a c):=⟨by rw [List.length_set]; exact Nat.le_refl _,fun n c' _ h1 e=>by rw [List.getElem?_set_ne (Ne.symm h1)]; exact e⟩
theorem get_set {s:ah} {d:Nat} {c c':Cell} (h:s[d]?=some c):(s.set d c')[d]?=some c':=by
 rw [List.getElem?_set_self (kD h)]
theorem xM (k:List Int):∀ A:List aA,uw (A.map eD) (iK k)=(A.filter fun p=>decide (p.1≠k)).map eD
 | []=>rfl
 | p::A=>by
  have ih:=xM k A
  unfold uw at ih ⊢
  rw [List.map_cons]
  by_cases e:p.1=k
  ·rw [List.filter_cons_of_neg (by show ¬ decide (iK p.1≠iK k)=true; simp [e]),List.filter_cons_of_neg (by simp [e])]; exact ih
  ·rw [List.filter_cons_of_pos (by show decide (iK p.1≠iK k)=true; exact decide_eq_true fun z=>e (vJ z)),List.filter_cons_of_pos (by simp [e]),List.map_cons,ih]
theorem find_some {A:List aA} {k:List Int} (h:k∈A.map (·.1)):∃ v,(A.find? fun p=>decide (p.1=k)).map (fun p=>Val.int p.2)=some v:=by
 cases z:A.find? fun p=>decide (p.1=k) with
 | none=>
  rw [List.find?_eq_none] at z
  obtain ⟨p,hp,e⟩:=List.mem_map.mp h
  exact absurd (decide_eq_true e) (z p hp)
 | some p=>exact ⟨_,rfl⟩
theorem Bd {s:ah} {d:Nat} {A:List aA} {k:List Int} (h:s[d]?=some (.dT (A.map eD))) (hk:k∈A.map (·.1)):∃ v,BF (.loc d) (tupI k) s=.ok v (s.set d (.dT ((A.filter fun p=>decide (p.1≠k)).map eD))):=by
 obtain ⟨v,hv⟩:=find_some hk
 refine ⟨v,?_⟩
 unfold BF
 dsimp only
 rw [h]
 dsimp only
 rw [jl]
 dsimp only
 rw [sf,hv]
 dsimp only
 rw [xM]
theorem xN {s:ah} {d:Nat} {A:List aA} (h:s[d]?=some (.dT (A.map eD))):oq s (.loc d)=true:=by
 unfold oq
 dsimp only
 rw [h]
theorem Cj {md mk mx:ME} {μ:MN.Env} {s:ah} {d:Nat} {A:List aA} {k:List Int} (h:s[d]?=some (.dT (A.map eD))) (h1:md μ s=.ok (.loc d) s) (h2:mk μ s=.ok (tupI k) s) (h3:mx μ s=.ok (.int 0) s):gA md mk mx μ s=.ok (.int (aO A k)) s:=by
 unfold gA
 rw [h1]
 show (if oq s (.loc d)=true then _ else Res.bad)=_
 rw [if_pos (xN h),h2]
 show ((mx μ s).bind _)=_
 rw [h3]
 show (match ki s (.loc d) (tupI k) with | some o=>Res.ok (o.getD (.int 0)) s | none=>.bad)=_
 rw [sh h k]
 show Res.ok (Option.getD _ (Val.int 0)) s=_
 rw [qH]
noncomputable abbrev Nv:MB:=aI (aL 5 (ak PM.joined (aa (ae 3) (aa (ag aZ (ae 2) (mC (.int 0))) aj)))) (aI (aL 6 (ag mV (gA (ae 0) (ae 5) (mC (.int 0))) (ag cw (ag aZ (ae 2) (mC (.int 1))) (ae 4)))) (fL (bM (ag e9 (ae 6) (mC (.int 0)))) (cR (xB (ae 0) (ae 5))) (lu (ae 0) (ae 5) (ae 6))))
theorem Fh {s:ah} {d:Nat} {A:List aA} {q b:aA} {x1 x5 x6:Option Val} (h:s[d]?=some (.dT (A.map eD))) (hl:A.length<sizeLine) (hb:b.1.length<=10) (hm:MulOk q.2 b.2) (nz:q.2*b.2≠0) :
  ∃ s' y5 y6,Nv [some (.loc d),x1,some (tV q),some (tupI b.1),some (.int b.2),x5,x6] s=.nx [some (.loc d),x1,some (tV q),some (tupI b.1),some (.int b.2),y5,y6] s'/\s'[d]?=some (.dT ((qM q A b).map eD))/\∀ a,Kp d a s s':=by
 obtain ⟨k,hk⟩:∃ k,k=aF b.1 q.1:=⟨_,rfl⟩
 obtain ⟨v,hv⟩:∃ v,v=aO A k-q.2*b.2:=⟨_,rfl⟩
 obtain ⟨s1,cH⟩:∃ s1,s1=s++[Cell.lst (k.map Val.int)]:=⟨_,rfl⟩
 have h1:s1[d]?=some (.dT (A.map eD)):=by rw [cH]; exact aB h _
 have f1:aL 5 (ak PM.joined (aa (ae 3) (aa (ag aZ (ae 2) (mC (.int 0))) aj))) [some (.loc d),x1,some (tV q),some (tupI b.1),some (.int b.2),x5,x6] s=.nx [some (.loc d),x1,some (tV q),some (tupI b.1),some (.int b.2),some (tupI k),x6] s1:=by
  refine br (v:=tupI k) ?_
  rw [call_of (d5 (v:=tupI b.1) (s1:=s) rfl (w:=tupI q.1) (s2:=s) rfl),zj hb,cH,hk]
 have f2:aL 6 (ag mV (gA (ae 0) (ae 5) (mC (.int 0))) (ag cw (ag aZ (ae 2) (mC (.int 1))) (ae 4))) [some (.loc d),x1,some (tV q),some (tupI b.1),some (.int b.2),some (tupI k),x6] s1=.nx [some (.loc d),x1,some (tV q),some (tupI b.1),some (.int b.2),some (tupI k),some (.int v)] s1:=by
  refine br (v:=.int v) ?_
  have g:=Cj (md:=ae 0) (mk:=ae 5) (mx:=mC (.int 0)) (μ:=[some (.loc d),x1,some (tV q),some (tupI b.1),some (.int b.2),some (tupI k),x6]) (k:=k) h1 rfl rfl rfl
  have m:ag cw (ag aZ (ae 2) (mC (.int 1))) (ae 4) [some (.loc d),x1,some (tV q),some (tupI b.1),some (.int b.2),some (tupI k),x6] s1=.ok (.int (q.2*b.2)) s1:=by
   rw [aK (x:=.int q.2) (s1:=s1) rfl (y:=.int b.2) (s2:=s1) rfl]; exact r6 hm
  rw [aK g m,hv]; rfl
 have sA:bM (ag e9 (ae 6) (mC (.int 0))) [some (.loc d),x1,some (tV q),some (tupI b.1),some (.int b.2),some (tupI k),some (.int v)] s1=.ok (v==0) s1:=bI (i8 (o:=v) rfl)
 have kp:∀ c a,Kp d a s (s1.set d c):=fun c a=>by rw [cH]; exact (Kp.app _).trans (Kp.Mf c)
 unfold Nv
 rw [au,f1,ay,au,f2,ay]
 by_cases z:v=0
 ·have mk:k∈A.map (·.1):=by
   by_cases m:k∈A.map (·.1)
   ·exact m
   ·rw [eZ m] at hv
    lia
  obtain ⟨u,hu⟩:=Bd h1 mk
  refine ⟨s1.set d (.dT ((A.filter fun p=>decide (p.1≠k)).map eD)),some (tupI k),some (.int v),?_,?_,kp _⟩
  ·rw [gG (by rw [sA,z]; rfl)]
   have e:xB (ae 0) (ae 5) [some (.loc d),x1,some (tV q),some (tupI b.1),some (.int b.2),some (tupI k),some (.int v)] s1=.ok u (s1.set d (.dT ((A.filter fun p=>decide (p.1≠k)).map eD))):=by
    show (if oq s1 (.loc d)=true then BF (.loc d) (tupI k) s1 else Res.bad)=_
    rw [if_pos (xN h1),hu]
   rw [gk,e,aT]; rfl
  ·rw [get_set h1]
   unfold qM
   rw [if_pos (by rw [<-hk,<-hv]; exact z),<-hk]
 ·refine ⟨s1.set d (.dT ((fC A k v).map eD)),some (tupI k),some (.int v),?_,?_,kp _⟩
  ·rw [fB,sA,aT,show (v==0)=false by simpa using z,ig]
   show (match jK s1 (.loc d) (tupI k) (.int v) with | some mT=>dm.nx _ mT | none=>.bad)=_
   rw [qG h1 hl]
  ·rw [get_set h1]
   unfold qM
   rw [if_neg (by rw [<-hk,<-hv]; exact z),<-hk,<-hv]
theorem lU {s:ah} {d b:Nat} {A B:List aA} {q:aA} (h:s[d]?=some (.dT (A.map eD))) (hB:s[b]?=some (.lst (B.map tV))) (T:Tk A) (hl:A.length+B.length<sizeLine) (hb:∀ x∈B,x.1.length<=10) (hm:∀ x∈B,MulOk q.2 x.2) (nz:∀ x∈B,q.2*x.2≠0) :
  ∃ s',PM.b_ [.loc d,.loc b,tV q] s=.ok .bD s'/\s'[d]?=some (.dT ((B.foldl (qM q) A).map eD))/\∀ a,Kp d a s s':=by
 have db:b≠d:=fun z=>by rw [z,h] at hB; cases hB
 obtain ⟨μ',s',e,hd,Um,K,y3,y4,y5,y6,rfl⟩:=fh (g:=fun ar=>itemsOf ar b=some (B.map tV)) (a:=eu [aName 3,aName 4]) (body:=Nv)
  (fun i μ s'=>s'[d]?=some (.dT (((B.take i).foldl (qM q) A).map eD))/\s'[b]?=some (.lst (B.map tV))/\(∀ a,Kp d a s s')/\∃ y3 y4 y5 y6,μ=[some (.loc d),some (.loc b),some (tV q),y3,y4,y5,y6])
  (B.map tV) 0 [some (.loc d),some (.loc b),some (tV q),none,none,none,none] s
  (by
   rintro i u μ s1 hu ⟨hd,Rn,K,y3,y4,y5,y6,rfl⟩
   rw [Nat.zero_add] at hd ⊢
   refine ⟨aY Rn,?_⟩
   rw [List.getElem?_map] at hu
   have hi:i<B.length:=by
    rcases Nat.lt_or_ge i B.length with z | z
    ·exact z
    ·rw [List.getElem?_eq_none z] at hu; cases hu
   rw [List.getElem?_eq_getElem hi] at hu
   obtain ⟨t,ht⟩:∃ t,t=B[i]:=⟨_,rfl⟩
   rw [<-ht] at hu
   cases hu
   have tB:t∈B:=by rw [ht]; exact List.getElem_mem hi
   have tk:B.take (i+1)=B.take i++[t]:=by
    rw [List.take_succ,List.getElem?_eq_getElem hi,<-ht]; rfl
   have lA:=(wm (q:=q) (B.take i) A T).2.1
   rw [List.length_take] at lA
   obtain ⟨s2,z5,z6,e2,d2,K2⟩:=Fh (q:=q) (b:=t) (x1:=some (.loc b)) (x5:=y5) (x6:=y6) hd (by lia) (hb t tB) (hm t tB) (nz t tB)
   refine ⟨[some (.loc d),some (.loc b),some (tV q),some (tupI t.1),some (.int t.2),y5,y6],rfl,_,s2,.inl e2,?_,(K2 d).at_ b _ db db Rn,fun a=>(K a).trans (K2 a),_,_,_,_,rfl⟩
   rw [tk,List.foldl_append]
   exact d2)
  (fun μ s hp=>aY hp.2.1)
  ⟨by rw [List.take_zero]; exact h,hB,fun a=>Kp.Me,none,none,none,none,rfl⟩
 rw [Nat.zero_add,List.length_map,List.take_of_length_le (Nat.le_refl _)] at hd
 refine ⟨s',?_,hd,K⟩
 unfold PM.b_
 rw [dF (np:=3) (us:=[Val.loc d,.loc b,tV q]) rfl]
 show (gJ (fA (ae 1)) (eu [aName 3,aName 4]) Nv [some (.loc d),some (.loc b),some (tV q),none,none,none,none] s).fin=_
 have v1:ae 1 [some (.loc d),some (.loc b),some (tV q),none,none,none,none] s=.ok (.loc b) s:=rfl
 rw [jO,gm,v1,aw,eQ (aY hB),aT,oy,e]
 rfl
noncomputable abbrev qT:MT:=bM (ag M_ (ak vP (aa (ae 2) aj)) (mC (.int 0)))
noncomputable abbrev Gj:ME:=ag aZ (ag aZ (ae 1) (mC (.int 0))) (mC (.int 0))
noncomputable abbrev Fi:ME:=ag aZ (ag aZ (ae 1) (mC (.int 0))) (mC (.int 1))
noncomputable abbrev qB:MB:=aI (aL 4 (ak vQ (aa (ae 2) aj))) (aI (fL (fw (cQ (bM (ak PM.dS (aa Gj (aa (ae 4) aj))))) (bM (ag iL (ag bR (ag de (ae 2) (ae 4)) Fi) (mC (.int 0))))) (aR (mC .bD)) bh) (aI (aL 5 (d8 (aa (ak PM.gn (aa (ae 4) (aa Gj aj))) (aa (ag cL (ag de (ae 2) (ae 4)) Fi) aj)))) (aI (cR (fH bX (ae 3) (aa (ae 5) aj))) (cR (ak PM.b_ (aa (ae 2) (aa (ae 1) (aa (ae 5) aj))))))))
theorem sC {s:ah} {b:Nat} {l:aA} {B:List aA} (h:s[b]?=some (.lst ((l::B).map tV))):aZ (.loc b) (.int 0) s=.ok (tV l) s:=oA (aY h) (jc (j:=0) rfl)
theorem len_dict {s:ah} {d:Nat} {A:List aA} (h:s[d]?=some (.dT (A.map eD))):vP [.loc d] s=.ok (.int (A.length:Int)) s:=by
 unfold vP
 dsimp only
 rw [h]
 dsimp only
 rw [List.length_map]
theorem Ck {s:ah} {d many:Nat} {A r:List aA} {t:aA} (h:s[d]?=some (.dT (A.map eD))) (p:A.Perm (t::r)) (f:SO.dG ((t::r).map (·.1))) (hm:1<=many) (hl:∀ x∈t::r,x.1.length=many):vQ [.loc d] s=.ok (tupI t.1) s:=by
 have ek:(A.map eD).map (·.1)=(A.map (·.1)).map iK:=by rw [List.map_map,List.map_map]; rfl
 unfold vQ
 dsimp only
 rw [h]
 dsimp only
 rw [ek,um]
 cases A with
 | nil=>have:=p.length_eq; simp at this
 | cons x A=>
  rw [List.map_cons]
  dsimp only
  have al:((x.1::A.map (·.1)).all fun k => !k.isEmpty)=true:=List.all_eq_true.mpr fun k hk=>by
   rw [<-List.map_cons (f:=(·.1)) (a:=x)] at hk
   obtain ⟨y,hy,rfl⟩:=List.mem_map.mp hk
   have:=jV hm (hl y (p.mem_iff.mp hy))
   cases z:y.1 with
   | nil=>exact absurd z this
   | cons=>rfl
  rw [if_pos al,Cc f (by have:=p.map (·.1); rwa [List.map_cons] at this)]
theorem wx {t u:MT} {μ:MN.Env} {s s1:ah} {a b:Bool} (h1:t μ s=.ok a s1) (h2:u μ s1=.ok b s1):fw t u μ s=.ok (a || b) s1:=by
 cases a with
 | true=>rw [ow,h1,aw]; rfl
 | false=>rw [ow,h1,aw,nq,h2]; rfl
theorem Fj {t:MT} {μ:MN.Env} {s s1:ah} {a:Bool} (h:t μ s=.ok a s1):cQ t μ s=.ok (!a) s1:=by rw [rW,h]; rfl
noncomputable abbrev qC:MB:=aI (aL 5 (d8 (aa (ak PM.gn (aa (ae 4) (aa Gj aj))) (aa (ag cL (ag de (ae 2) (ae 4)) Fi) aj)))) (aI (cR (fH bX (ae 3) (aa (ae 5) aj))) (cR (ak PM.b_ (aa (ae 2) (aa (ae 1) (aa (ae 5) aj))))))
section
variable {many d a b:Nat} {l t:aA} {A B r:List aA} {s:ah} {x0 x4 x5:Option Val} {μ:MN.Env}
theorem Cm (hμ:μ=[x0,some (.loc b),some (.loc d),some (.loc a),some (tupI t.1),x5]) (hb:s[b]?=some (.lst ((l::B).map tV))):Gj μ s=.ok (tupI l.1) s:=by
 have:ag aZ (ae 1) (mC (.int 0)) μ s=.ok (tV l) s:=by
  rw [hμ,aK (x:=.loc b) (s1:=s) rfl (y:=.int 0) (s2:=s) rfl]; exact sC hb
 unfold Gj
 rw [aK this (y:=.int 0) (s2:=s) rfl]; rfl
theorem Cn (hμ:μ=[x0,some (.loc b),some (.loc d),some (.loc a),some (tupI t.1),x5]) (hb:s[b]?=some (.lst ((l::B).map tV))):Fi μ s=.ok (.int l.2) s:=by
 have:ag aZ (ae 1) (mC (.int 0)) μ s=.ok (tV l) s:=by
  rw [hμ,aK (x:=.loc b) (s1:=s) rfl (y:=.int 0) (s2:=s) rfl]; exact sC hb
 unfold Fi
 rw [aK this (y:=.int 1) (s2:=s) rfl]; rfl
theorem xO (m1:1<=many) (m4:many<=4) (ll:l.1.length=many) (lz:l.2≠0) (S:dO many (t::r)) (p:A.Perm (t::r)) (T:Tk A) (hd:s[d]?=some (.dT (A.map eD))) (hb:s[b]?=some (.lst ((l::B).map tV))) :
  ∃ g,(wt l t=false->qB [x0,some (.loc b),some (.loc d),some (.loc a),x4,x5] s=.rt .bD (s++g))/\(wt l t=true->qB [x0,some (.loc b),some (.loc d),some (.loc a),x4,x5] s=qC [x0,some (.loc b),some (.loc d),some (.loc a),some (tupI t.1),x5] (s++g)) /\
   ag de (ae 2) (ae 4) [x0,some (.loc b),some (.loc d),some (.loc a),some (tupI t.1),x5] (s++g)=.ok (.int t.2) (s++g):=by
 have lt:t.1.length=many:=S.len t List.mem_cons_self
 have mt:t.1∈A.map (·.1):=(p.map _).mem_iff.mpr (by rw [List.map_cons]; exact List.mem_cons_self)
 have gt:aO A t.1=t.2:=by rw [qL p T.nd]; exact fI (bE S.iI) List.mem_cons_self
 obtain ⟨g1,hdiv⟩:=wj (a:=l.1) (b:=t.1) (by lia) s
 obtain ⟨s1,cH⟩:∃ s1,s1=s++g1:=⟨_,rfl⟩
 refine ⟨g1,?_⟩
 rw [<-cH] at hdiv ⊢
 have JP:s1[d]?=some (.dT (A.map eD)):=by rw [cH]; exact aB hd _
 have xP:s1[b]?=some (.lst ((l::B).map tV)):=by rw [cH]; exact aB hb _
 obtain ⟨μ,hμ⟩:∃ μ:MN.Env,μ=[x0,some (.loc b),some (.loc d),some (.loc a),some (tupI t.1),x5]:=⟨_,rfl⟩
 have f1:aL 4 (ak vQ (aa (ae 2) aj)) [x0,some (.loc b),some (.loc d),some (.loc a),x4,x5] s=.nx μ s:=by
  rw [hμ]
  refine br (v:=tupI t.1) ?_
  rw [call_of (d4 (v:=.loc d) (s1:=s) rfl)]
  exact Ck hd p S.iI m1 S.len
 have dv:bM (ak PM.dS (aa Gj (aa (ae 4) aj))) μ s=.ok ((l.1.zip t.1).all fun p=>decide (p.1<=p.2)) s1:=by
  refine bI ?_
  rw [call_of (d5 (Cm hμ hb) (w:=tupI t.1) (s2:=s) (by rw [hμ]; rfl))]
  exact hdiv
 have g:ag de (ae 2) (ae 4) μ s1=.ok (.int t.2) s1:=by
  rw [hμ,aK (x:=.loc d) (s1:=s1) rfl (y:=tupI t.1) (s2:=s1) rfl,sk JP mt,gt]
 have md:bM (ag iL (ag bR (ag de (ae 2) (ae 4)) Fi) (mC (.int 0))) μ s1=.ok (!(t.2.fmod l.2==0)) s1:=by
  have e1:ag bR (ag de (ae 2) (ae 4)) Fi μ s1=.ok (.int (t.2.fmod l.2)) s1:=by
   rw [aK g (Cn hμ xP)]; exact dI lz
  refine bI ?_
  rw [aK e1 (y:=.int 0) (s2:=s1) rfl,xo]
 have sA:=wx (Fj dv) md
 rw [<-hμ]
 have ok:((!((l.1.zip t.1).all fun p=>decide (p.1<=p.2))) || !(t.2.fmod l.2==0)) = !wt l t:=by
  unfold wt; rw [Bool.not_and]
 rw [ok] at sA
 refine ⟨fun z=>?_,fun z=>?_,g⟩
 ·unfold qB
  rw [au,f1,ay,au,gG (by rw [sA,z]; rfl)]; rfl
 ·unfold qB
  rw [au,f1,ay,au,eJ (by rw [sA,z]; rfl),ay]
end
noncomputable def Mg (R:Option (List aA)) (s':ah) (a:Nat) (rt nx:Prop):Prop:=match R with
 | none=>rt
 | some Q'=>s'[a]?=some (.lst (Q'.map tV))/\nx
noncomputable def Je (R:Option (List aA)) (s s':ah) (r e:Res Val):Prop:=match R with
 | none=>r=e
 | some Q=>∃ k,s.length<=k/\s'[k]?=some (.lst (Q.map tV))/\r=.ok (.loc k) s'
theorem Jf {many:Nat} {l:aA} {B:List aA} (m1:1<=many) (m4:many<=4) (lB:B.length<=100) (sB:dO many (l::B)) (dz:Dz l.2) {D Q:List aA} {R:Option (List aA)} (V:Dv many (l::B) l D Q R) :
  ∀ {s:ah} {d a b:Nat} {A:List aA} {x0 x4 x5:Option Val},A.Perm D->Tk A->s[d]?=some (.dT (A.map eD))->s[a]?=some (.lst (Q.map tV))->s[b]?=some (.lst ((l::B).map tV))->b≠a ->
   ∃ n res s',cf qT qB n [x0,some (.loc b),some (.loc d),some (.loc a),x4,x5] s=some res/\Kp d a s s'/\Mg R s' a (res=.rt .bD s') (∃ y4 y5,res=.nx [x0,some (.loc b),some (.loc d),some (.loc a),y4,y5] s'):=by
 have ll:l.1.length=many:=sB.len l List.mem_cons_self
 have lz:l.2≠0:=sB.nz l List.mem_cons_self
 have sA:∀ {s:ah} {d a b:Nat} {A:List aA} {x0 x4 x5:Option Val},s[d]?=some (.dT (A.map eD))->qT [x0,some (.loc b),some (.loc d),some (.loc a),x4,x5] s=.ok (decide (0<(A.length:Int))) s:=by
  intro s d a b A x0 x4 x5 h
  refine bI ?_
  rw [aK (show ak vP (aa (ae 2) aj) [x0,some (.loc b),some (.loc d),some (.loc a),x4,x5] s=.ok (.int (A.length:Int)) s by rw [call_of (d4 (v:=.loc d) (s1:=s) rfl)]; exact len_dict h) (y:=.int 0) (s2:=s) rfl]
  rfl
 induction V with
 | done h=>
  intro s d a b A x0 x4 x5 p T hd ha hb ne
  refine ⟨1,_,s,?_,Kp.Me,ha,x4,x5,rfl⟩
  have e:=p.length_eq
  unfold cf
  rw [sA hd,decide_eq_false (by rw [e]; decide)]
 | @stop t r Q h n=>
  intro s d a b A x0 x4 x5 p T hd ha hb ne
  have e:=p.length_eq
  obtain ⟨g,f,_,_⟩:=xO (x0:=x0) (x4:=x4) (x5:=x5) (a:=a) m1 m4 ll lz h.sD p T hd hb
  refine ⟨1,_,s++g,?_,Kp.app g,rfl⟩
  unfold cf
  rw [sA hd,decide_eq_true (by rw [e,List.length_cons]; lia)]
  dsimp only
  rw [f n]
 | @more t r Q R h n m k ih=>
  intro s d a b A x0 x4 x5 p T hd ha hb ne
  have e:=p.length_eq
  obtain ⟨g,_,f,gd⟩:=xO (x0:=x0) (x4:=x4) (x5:=x5) (a:=a) m1 m4 ll lz h.sD p T hd hb
  have f:=f n
  obtain ⟨s1,cH⟩:∃ s1,s1=s++g:=⟨_,rfl⟩
  have K1:Kp d a s s1:=by rw [cH]; exact Kp.app g
  rw [<-cH] at f gd
  have JP:s1[d]?=some (.dT (A.map eD)):=by rw [cH]; exact aB hd _
  have Nw:s1[a]?=some (.lst (Q.map tV)):=by rw [cH]; exact aB ha _
  have xP:s1[b]?=some (.lst ((l::B).map tV)):=by rw [cH]; exact aB hb _
  have lt:t.1.length=many:=h.sD.len t List.mem_cons_self
  have da:d≠a:=fun z=>by rw [z,Nw] at JP; cases JP
  have db:b≠d:=fun z=>by rw [z,JP] at xP; cases xP
  obtain ⟨g2,Gk⟩:=E5 (a:=t.1) (b:=l.1) (by lia) s1
  obtain ⟨s2,dk⟩:∃ s2,s2=s1++g2:=⟨_,rfl⟩
  rw [<-dk] at Gk
  have hd2:s2[d]?=some (.dT (A.map eD)):=by rw [dk]; exact aB JP _
  have Jg:s2[a]?=some (.lst (Q.map tV)):=by rw [dk]; exact aB Nw _
  have yt:s2[b]?=some (.lst ((l::B).map tV)):=by rw [dk]; exact aB xP _
  have mt:t.1∈A.map (·.1):=(p.map _).mem_iff.mpr (by rw [List.map_cons]; exact List.mem_cons_self)
  have gt:aO A t.1=t.2:=by rw [qL p T.nd]; exact fI (bE h.sD.iI) List.mem_cons_self
  obtain ⟨μ,hμ⟩:∃ μ:MN.Env,μ=[x0,some (.loc b),some (.loc d),some (.loc a),some (tupI t.1),x5]:=⟨_,rfl⟩
  obtain ⟨μ2,gH⟩:∃ μ2:MN.Env,μ2=[x0,some (.loc b),some (.loc d),some (.loc a),some (tupI t.1),some (tV (m6 l t))]:=⟨_,rfl⟩
  have Te:ag de (ae 2) (ae 4) μ s2=.ok (.int t.2) s2:=by
   rw [hμ,aK (x:=.loc d) (s1:=s2) rfl (y:=tupI t.1) (s2:=s2) rfl,sk hd2 mt,gt]
  have c1:aL 5 (d8 (aa (ak PM.gn (aa (ae 4) (aa Gj aj))) (aa (ag cL (ag de (ae 2) (ae 4)) Fi) aj))) μ s1=.nx μ2 s2:=by
   have e1:ak PM.gn (aa (ae 4) (aa Gj aj)) μ s1=.ok (tupI (cK (· - ·) t.1 l.1)) s2:=by
    rw [call_of (d5 (v:=tupI t.1) (s1:=s1) (by rw [hμ]; rfl) (Cm hμ xP))]; exact Gk
   have e2:ag cL (ag de (ae 2) (ae 4)) Fi μ s2=.ok (.int (t.2.fdiv l.2)) s2:=by
    rw [aK Te (Cn hμ yt)]; exact div_ii dz
   rw [br (lR (d5 e1 e2) (by show 2<=1000; decide)),hμ,gH]
   rfl
  obtain ⟨s3,mG⟩:∃ s3,s3=s2.set a (.lst ((Q++[m6 l t]).map tV)):=⟨_,rfl⟩
  have OE:s3[d]?=some (.dT (A.map eD)):=by rw [mG]; exact fW hd2 (Ne.symm da)
  have Mi:s3[b]?=some (.lst ((l::B).map tV)):=by rw [mG]; exact fW yt (Ne.symm ne)
  have Mj:s3[a]?=some (.lst ((Q++[m6 l t]).map tV)):=by rw [mG]; exact get_set Jg
  have c2:cR (fH bX (ae 3) (aa (ae 5) aj)) μ2 s2=.nx μ2 s3:=by
   have v3:ae 3 μ2 s2=.ok (.loc a) s2:=by rw [gH]; rfl
   have arg:aa (ae 5) aj μ2 s2=.ok [tV (m6 l t)] s2:=by rw [gH]; rfl
   have lQ:=h.lQ
   rw [gk,jR,v3,aw,oB Jg,arg,aw,t9,gL Jg (by rw [List.length_map,sizeLine_eq]; lia),aT,mG,List.map_append]
   rfl
  have qz:(m6 l t).2≠0:=by
   have n':=n
   unfold wt at n'
   rw [Bool.and_eq_true] at n'
   have z:t.2.fmod l.2=0:=by simpa using n'.2
   have e:=Int.fmod_add_mul_fdiv t.2 l.2
   rw [z] at e
   intro y
   have y':t.2.fdiv l.2=0:=y
   rw [y',Int.mul_zero] at e
   exact h.sD.nz t List.mem_cons_self (by lia)
  have lD:=h.lD
  obtain ⟨s4,et,Tf,K4⟩:=lU (q:=m6 l t) (B:=l::B) OE Mi T (by rw [e,List.length_cons (as:=B),sizeLine_eq]; lia) (fun x hx=>by rw [sB.len x hx]; lia) m (fun x hx=>Int.mul_ne_zero qz (sB.nz x hx))
  have c3:cR (ak PM.b_ (aa (ae 2) (aa (ae 1) (aa (ae 5) aj)))) μ2 s3=.nx μ2 s4:=by
   have arg:aa (ae 2) (aa (ae 1) (aa (ae 5) aj)) μ2 s3=.ok [.loc d,.loc b,tV (m6 l t)] s3:=by rw [gH]; rfl
   rw [gk,call_of arg,et,aT]; rfl
  have Tg:s4[a]?=some (.lst ((Q++[m6 l t]).map tV)):=(K4 d).at_ a _ (Ne.symm da) (Ne.symm da) Mj
  have Ak:s4[b]?=some (.lst ((l::B).map tV)):=(K4 d).at_ b _ db db Mi
  obtain ⟨T',p'⟩:=E_ (q:=m6 l t) (B:=l::B) T p
  obtain ⟨n',res,s',ew,K',fin⟩:=ih (x0:=x0) (x4:=some (tupI t.1)) (x5:=some (tV (m6 l t))) p' T' Tf Tg Ak ne
  refine ⟨n'+1,res,s',?_,((K1.trans (show Kp d a s1 s2 by rw [dk]; exact Kp.app g2)).trans (show Kp d a s2 s3 by rw [mG]; exact Kp.P_ _)).trans ((K4 a).trans K'),fin⟩
  unfold cf
  rw [sA hd,decide_eq_true (by rw [e,List.length_cons]; lia)]
  dsimp only
  rw [f,<-hμ]
  unfold qC
  rw [au,c1,ay,au,c2,ay,c3]
  dsimp only
  rw [gH]
  exact ew
noncomputable def Ext (s s':ah):Prop:=s.length<=s'.length/\∀ (n:Nat) (c:Cell),s[n]?=some c->s'[n]?=some c
theorem o5 {many:Nat} {l:aA} {B D:List aA} {R:Option (List aA)} {s:ah} {p b:Nat} (m1:1<=many) (m4:many<=4) (lB:B.length<=100) (sB:dO many (l::B)) (dz:Dz l.2) (sD:dO many D) (V:Dv many (l::B) l D [] R) (hp:s[p]?=some (.lst (D.map tV))) (hb:s[b]?=some (.lst ((l::B).map tV))) :
  ∃ s',Ext s s'/\Je R s s' (PM.aQ [.loc p,.loc b] s) (.ok .bD s'):=by
 obtain ⟨s1,cH⟩:∃ s1,s1=s++[Cell.dT (D.map eD)]:=⟨_,rfl⟩
 obtain ⟨s2,dk⟩:∃ s2,s2=s1++[Cell.lst []]:=⟨_,rfl⟩
 have l1:s1.length=s.length+1:=by rw [cH,List.length_append]; rfl
 have hd:s2[s.length]?=some (.dT (D.map eD)):=by rw [dk]; exact aB (by rw [cH]; exact sj s _) _
 have ha:s2[s1.length]?=some (.lst (([]:List aA).map tV)):=by rw [dk]; exact eR s1 _
 have yt:s2[b]?=some (.lst ((l::B).map tV)):=by rw [dk,cH]; exact aB (aB hb _) _
 have lb:=kD hb
 have T:Tk D:=⟨bE sD.iI,sD.nz⟩
 obtain ⟨n,res,s',ew,K,fin⟩:=Jf m1 m4 lB sB dz V (x0:=some (.loc p)) (x4:=none) (x5:=none) (List.Perm.refl D) T hd ha yt (by lia)
 have E:Ext s s':=⟨by have:=K.len; rw [dk,List.length_append,l1] at this; lia,fun n c h=>by
  have ln:=kD h
  exact K.at_ n c (by lia) (by lia) (by rw [dk,cH]; exact aB (aB h _) _)⟩
 refine ⟨s',E,?_⟩
 have c1:aL 2 (ak vM (aa (ae 0) aj)) [some (.loc p),some (.loc b),none,none,none,none] s=.nx [some (.loc p),some (.loc b),some (.loc s.length),none,none,none] s1:=by
  refine br (v:=.loc s.length) ?_
  rw [call_of (d4 (v:=.loc p) (s1:=s) rfl),I_ (aY hp) T.nd,cH]
 have c2:aL 3 (bb aj) [some (.loc p),some (.loc b),some (.loc s.length),none,none,none] s1=.nx [some (.loc p),some (.loc b),some (.loc s.length),some (.loc s1.length),none,none] s2:=by
  rw [br (c8 (vs:=[]) (s1:=s1) rfl (by decide)),dk]; rfl
 have run:PM.aQ [.loc p,.loc b] s=(aI (gw qT qB) (aR (ae 3)) [some (.loc p),some (.loc b),some (.loc s.length),some (.loc s1.length),none,none] s2).fin:=by
  unfold PM.aQ
  rw [dF (np:=2) (us:=[Val.loc p,.loc b]) rfl]
  show (aI (aL 2 (ak vM (aa (ae 0) aj))) (aI (aL 3 (bb aj)) (aI (gw qT qB) (aR (ae 3)))) [some (.loc p),some (.loc b),none,none,none,none] s).fin=_
  rw [au,c1,ay,au,c2,ay]
 cases R with
 | none=>
  show PM.aQ [.loc p,.loc b] s=.ok .bD s'
  have fin:res=.rt .bD s':=fin
  rw [run,au,je ew,fin]; rfl
 | some Q=>
  obtain ⟨hQ,y4,y5,e⟩:=fin
  refine ⟨s1.length,by lia,hQ,?_⟩
  rw [run,au,je ew,e,ay]; rfl
theorem o6 (f:Nat->Int):∀ j,SO.gf f j<0↔∃ i,i<=j/\f i<0
 | 0=>⟨fun h=>⟨0,Nat.le_refl _,h⟩,fun ⟨i,hi,h⟩=>by
   have:i=0:=by lia
   rw [this] at h; exact h⟩
 | j+1=>by
  have ih:=o6 f j
  show (if f (j+1)<SO.gf f j then f (j+1) else SO.gf f j)<0↔_
  constructor
  ·intro h
   by_cases c:f (j+1)<SO.gf f j
   ·rw [if_pos c] at h; exact ⟨j+1,Nat.le_refl _,h⟩
   ·rw [if_neg c] at h
    obtain ⟨i,hi,q⟩:=ih.mp h
    exact ⟨i,by lia,q⟩
  ·rintro ⟨i,hi,q⟩
   by_cases c:f (j+1)<SO.gf f j
   ·rw [if_pos c]
    by_cases e:i=j+1
    ·rw [e] at q; exact q
    ·have:=ih.mpr ⟨i,by lia,q⟩; lia
   ·rw [if_neg c]
    by_cases e:i=j+1
    ·rw [e] at q; lia
    ·exact ih.mpr ⟨i,by lia,q⟩
theorem qO:∀ {a b:List Int},a.length=b.length->(∀ i,i<a.length->gx a i<=gx b i)->((a.zip b).all fun p=>decide (p.1<=p.2))=true
 | [],[],_,_=>rfl
 | x::a,y::b,h,q=>by
  rw [List.zip_cons_cons,List.all_cons,Bool.and_eq_true]
  exact ⟨decide_eq_true (q 0 (by simp)),qO (by simpa using h) fun i hi=>q (i+1) (by simpa using hi)⟩
 | [],_::_,h,_=>by simp at h
 | _::_,[],h,_=>by simp at h
theorem xQ {l t:List Int} (h:l.length=t.length) (h1:1<=t.length):decide (SO.gf (fun i=>(cK (· - ·) t l).getD i 0) ((cK (· - ·) t l).length-1)<0) = !((l.zip t).all fun p=>decide (p.1<=p.2)):=by
 have ln:(cK (· - ·) t l).length=t.length:=sub_len h.symm
 have g:∀ i,(cK (· - ·) t l).getD i 0=gx t i-gx l i:=fun i=>oW i h.symm
 cases z:(l.zip t).all fun p=>decide (p.1<=p.2) with
 | true=>
  have q:=wu h z
  refine decide_eq_false fun c=>?_
  obtain ⟨i,_,c⟩:=(o6 _ _).mp c
  rw [g] at c
  have:=q i
  lia
 | false=>
  refine decide_eq_true ((o6 _ _).mpr ?_)
  refine Classical.byContradiction fun no=>?_
  have:((l.zip t).all fun p=>decide (p.1<=p.2))=true:=qO h fun i hi=>by
   refine Classical.byContradiction fun c=>no ⟨i,by lia,?_⟩
   show (cK (· - ·) t l).getD i 0<0
   rw [g]; lia
  rw [z] at this; cases this
noncomputable abbrev Gm:MT:=bM (ag iL (ae 0) (bb aj))
noncomputable abbrev Qa:ME:=ag mV (ag aZ (ag aZ (ag aZ (ae 2) (mC (.int 0))) (mC (.int 0))) (ae 0)) (ag aZ (ag aZ (ag aZ (ae 1) (mC (.int 0))) (mC (.int 0))) (ae 0))
noncomputable abbrev Mk:ME:=cD 1 [1,0] (cz (aa (ak dZ (aa (ag aZ (ag aZ (ae 1) (mC (.int 0))) (mC (.int 0))) aj)) aj)) (aName 0) bz Qa
noncomputable abbrev CU:ME:=ag aZ (ag aZ (ae 0) (mC (.int 0))) (mC (.int 1))
noncomputable abbrev CV:ME:=ag aZ (ag aZ (ae 1) (mC (.int 0))) (mC (.int 1))
noncomputable abbrev Qb:ME:=d8 (aa (ag aZ (ae 0) (mC (.int 0))) (aa (mW (ag aZ (ae 0) (mC (.int 1)))) aj))
noncomputable abbrev Qc:MB:=aL 0 (ak PM.bo (aa (ae 0) (aa (cD 1 [] (fA (ak PM.a9 (aa (Ed (ae 2) (kl (mW (mC (.int 1)))) kj) (aa (ae 1) aj)))) (aName 0) bz Qb) aj)))
noncomputable abbrev zt:MB:=aI (aL 3 (ak ff (aa Mk aj))) (aI (fL (fw (bM (ag ltV (ak pK (aa (ae 3) aj)) (mC (.int 0)))) (bM (ag iL (ag bR CU CV) (mC (.int 0))))) (aR (mC .bD)) bh) (aI (cR (fH bX (ae 2) (aa (d8 (aa (ae 3) (aa (ag cL CU CV) aj))) aj))) Qc))
section
variable {many p b a:Nat} {l t:aA} {B r Q:List aA} {s:ah} {x3:Option Val} {μ:MN.Env}
theorem Ro {m:ME} {n:Nat} {x:aA} {L:List aA} (hm:m μ s=.ok (.loc n) s) (h:s[n]?=some (.lst ((x::L).map tV))):ag aZ m (mC (.int 0)) μ s=.ok (tV x) s:=by
 rw [aK hm (y:=.int 0) (s2:=s) rfl]; exact sC h
theorem Jh {m:ME} {n:Nat} {x:aA} {L:List aA} (hm:m μ s=.ok (.loc n) s) (h:s[n]?=some (.lst ((x::L).map tV))):ag aZ (ag aZ m (mC (.int 0))) (mC (.int 0)) μ s=.ok (tupI x.1) s:=by
 rw [aK (Ro hm h) (y:=.int 0) (s2:=s) rfl]; rfl
theorem Fl {m:ME} {n:Nat} {x:aA} {L:List aA} (hm:m μ s=.ok (.loc n) s) (h:s[n]?=some (.lst ((x::L).map tV))):ag aZ (ag aZ m (mC (.int 0))) (mC (.int 1)) μ s=.ok (.int x.2) s:=by
 rw [aK (Ro hm h) (y:=.int 1) (s2:=s) rfl]; rfl
theorem xR (hp:s[p]?=some (.lst ((t::r).map tV))) (hb:s[b]?=some (.lst ((l::B).map tV))) (hl:l.1.length=t.1.length) (JQ:t.1.length<=10):Mk [some (.loc p),some (.loc b),some (.loc a),x3] s=.ok (.loc s.length) (s++[.lst ((cK (· - ·) t.1 l.1).map Val.int)]):=by
 have cp:=cP (a:=aName 0) (c:=bz) (e:=Qa) (g:=fun _=>True) (st:=s) trivial (fun τ=>∃ x,τ=[x,some (.loc b),some (.loc p)]) (fun _=>true) (fun v=>.int (t.1.getD (natOf v) 0-l.1.getD (natOf v) 0)) (bH 0 l.1.length) [none,some (.loc b),some (.loc p)] [] ⟨_,rfl⟩ (by
  rintro v hv τ ⟨x,rfl⟩
  obtain ⟨i,PY⟩:=List.getElem?_of_mem hv
  obtain ⟨hi,rfl⟩:=Gh PY
  refine ⟨[some (.int (0+(i:Int))),some (.loc b),some (.loc p)],rfl,⟨_,rfl⟩,rfl,fun _=>?_⟩
  rw [Int.zero_add]
  have e1:ag aZ (ag aZ (ag aZ (ae 2) (mC (.int 0))) (mC (.int 0))) (ae 0) [some (.int (i:Int)),some (.loc b),some (.loc p)] s=.ok (.int (t.1.getD i 0)) s:=by
   rw [aK (Jh (m:=ae 2) rfl hp) (y:=.int (i:Int)) (s2:=s) rfl,EM (by lia)]
  have e2:ag aZ (ag aZ (ag aZ (ae 1) (mC (.int 0))) (mC (.int 0))) (ae 0) [some (.int (i:Int)),some (.loc b),some (.loc p)] s=.ok (.int (l.1.getD i 0)) s:=by
   rw [aK (Jh (m:=ae 1) rfl hb) (y:=.int (i:Int)) (s2:=s) rfl,EM hi]
  unfold Qa
  rw [aK e1 e2]
  rfl)
 have e:((bH 0 l.1.length).filter fun _=>true).map (fun v=>Val.int (t.1.getD (natOf v) 0-l.1.getD (natOf v) 0))=(cK (· - ·) t.1 l.1).map Val.int:=by
  have rg:∀ (a b:List Int),a.length=b.length->(List.range a.length).map (fun i=>a.getD i 0-b.getD i 0)=cK (· - ·) a b:=by
   intro a
   induction a with
   | nil=>intro b h; cases b with
    | nil=>rfl
    | cons=>simp at h
   | cons x a ih=>
    intro b h
    cases b with
    | nil=>simp at h
    | cons y b=>
     have:=ih b (by simpa using h)
     rw [List.length_cons,List.range_succ_eq_map,List.map_cons,List.map_map]
     show _=(x-y)::cK (· - ·) a b
     rw [<-this]; rfl
  rw [List.filter_eq_self.mpr fun _ _=>rfl,<-rg t.1 l.1 hl.symm,<-hl]
  unfold bH
  rw [List.map_map,List.map_map]
  refine List.map_congr_left fun i _=>?_
  show Val.int (t.1.getD (natOf (.int (0+(i:Int)))) 0-l.1.getD (natOf (.int (0+(i:Int)))) 0)=_
  rw [Int.zero_add]; rfl
 rw [e,List.nil_append] at cp
 have len:ak dZ (aa (ag aZ (ag aZ (ae 1) (mC (.int 0))) (mC (.int 0))) aj) [some (.loc p),some (.loc b),some (.loc a),x3] s=.ok (.int (l.1.length:Int)) s:=by
  rw [call_of (d4 (Jh (m:=ae 1) rfl hb))]
  show dZ [.tup (l.1.map Val.int)] s=_
  rw [xp,List.length_map]
 have hc:lq 1 [1,0] [some (Val.loc p),some (.loc b),some (.loc a),x3]=[none,some (.loc b),some (.loc p)]:=rfl
 unfold Mk
 rw [ij,BW (d4 len) (by lia) (by lia),aw,Int.toNat_natCast,jP,if_pos (by rw [B6,sizeLine_eq]; lia),hc,cp,aw,oz]
theorem xS {K:List Int} (h:1<=K.length):pK [tupI K] s=.ok (.int (SO.gf (fun i=>K.getD i 0) (K.length-1))) s:=by
 unfold pK tupI
 dsimp only
 rw [kB]
 cases K with
 | nil=>simp at h
 | cons x K=>rfl
theorem Co (Q:List aA) (q:aA):vC ((Q++[q]).map tV) (some (-1)) none=[tV q]:=by
 have ln:((Q++[q]).map tV).length=Q.length+1:=by rw [List.length_map,List.length_append]; rfl
 have e1:HT.eh (Q.length+1) 0 (some (-1))=Q.length:=by
  have:=HT.qW (-1) (Q.length+1) 0
  rw [if_pos (by decide)] at this
  lia
 unfold vC
 rw [ln,e1,HT.zW,List.map_append,List.drop_append_of_le_length (by rw [List.length_map]; lia),List.drop_eq_nil_of_le (by rw [List.length_map]; lia),show Q.length+1-Q.length=1 by lia]
 rfl
theorem Fm (m1:1<=many) (m4:many<=4) (lB:B.length<=100) (sB:dO many (l::B)) (dz:Dz l.2) {D Q:List aA} {R:Option (List aA)} (V:Dv many (l::B) l D Q R) :
  ∀ {s:ah} {p a b:Nat} {x3:Option Val},s[p]?=some (.lst (D.map tV))->s[a]?=some (.lst (Q.map tV))->s[b]?=some (.lst ((l::B).map tV))->b≠a->p≠a ->
   ∃ n res s',cf Gm zt n [some (.loc p),some (.loc b),some (.loc a),x3] s=some res/\Kp a a s s'/\Mg R s' a (res=.rt .bD s') (∃ y0 y3,res=.nx [y0,some (.loc b),some (.loc a),y3] s'):=by
 have ll:l.1.length=many:=sB.len l List.mem_cons_self
 have lz:l.2≠0:=sB.nz l List.mem_cons_self
 have sA:∀ {s:ah} {p a b:Nat} {D:List aA} {x3:Option Val},s[p]?=some (.lst (D.map tV))->Gm [some (.loc p),some (.loc b),some (.loc a),x3] s=.ok (!D.isEmpty) (s++[.lst []]):=by
  intro s p a b D x3 h
  refine bI ?_
  rw [aK (x:=.loc p) (s1:=s) rfl (c8 (vs:=[]) (s1:=s) rfl (by decide)),ne_nil (aY (aB h _)) (aP s _)]
  cases D <;> rfl
 induction V with
 | done h=>
  intro s p a b x3 hp ha hb ne np
  refine ⟨1,_,s++[.lst []],?_,Kp.app _,aB ha _,some (.loc p),x3,rfl⟩
  unfold cf
  rw [sA hp]
  rfl
 | @stop t r Q h n=>
  intro s p a b x3 hp ha hb ne np
  have lt:t.1.length=many:=h.sD.len t List.mem_cons_self
  obtain ⟨s1,cH⟩:∃ s1,s1=s++[Cell.lst []]:=⟨_,rfl⟩
  have zu:s1[p]?=some (.lst ((t::r).map tV)):=by rw [cH]; exact aB hp _
  have xP:s1[b]?=some (.lst ((l::B).map tV)):=by rw [cH]; exact aB hb _
  obtain ⟨s2,dk⟩:∃ s2,s2=s1++[Cell.lst ((cK (· - ·) t.1 l.1).map Val.int)]:=⟨_,rfl⟩
  have CI:s2[p]?=some (.lst ((t::r).map tV)):=by rw [dk]; exact aB zu _
  have yt:s2[b]?=some (.lst ((l::B).map tV)):=by rw [dk]; exact aB xP _
  obtain ⟨μ,hμ⟩:∃ μ:MN.Env,μ=[some (.loc p),some (.loc b),some (.loc a),some (tupI (cK (· - ·) t.1 l.1))]:=⟨_,rfl⟩
  have c1:aL 3 (ak ff (aa Mk aj)) [some (.loc p),some (.loc b),some (.loc a),x3] s1=.nx μ s2:=by
   rw [hμ]
   refine br (v:=tupI (cK (· - ·) t.1 l.1)) ?_
   rw [call_of (d4 (xR zu xP (by rw [ll,lt]) (by lia))),ik (aP s1 _),dk]; rfl
  have mn:bM (ag ltV (ak pK (aa (ae 3) aj)) (mC (.int 0))) μ s2=.ok (!((l.1.zip t.1).all fun p=>decide (p.1<=p.2))) s2:=by
   refine bI ?_
   have e:ak pK (aa (ae 3) aj) μ s2=.ok (.int (SO.gf (fun i=>(cK (· - ·) t.1 l.1).getD i 0) ((cK (· - ·) t.1 l.1).length-1))) s2:=by
    rw [call_of (d4 (v:=tupI (cK (· - ·) t.1 l.1)) (s1:=s2) (by rw [hμ]; rfl))]
    exact xS (by rw [sub_len (by rw [lt,ll])]; lia)
   rw [aK e (y:=.int 0) (s2:=s2) rfl,<-xQ (by rw [ll,lt]) (by lia)]
   rfl
  have md:bM (ag iL (ag bR CU CV) (mC (.int 0))) μ s2=.ok (!(t.2.fmod l.2==0)) s2:=by
   have e1:ag bR CU CV μ s2=.ok (.int (t.2.fmod l.2)) s2:=by
    rw [aK (Fl (m:=ae 0) (by rw [hμ]; rfl) CI) (Fl (m:=ae 1) (by rw [hμ]; rfl) yt)]; exact dI lz
   refine bI ?_
   rw [aK e1 (y:=.int 0) (s2:=s2) rfl,xo]
  have tt:=wx mn md
  have ok:((!((l.1.zip t.1).all fun p=>decide (p.1<=p.2))) || !(t.2.fmod l.2==0)) = !wt l t:=by
   unfold wt; rw [Bool.not_and]
  rw [ok,n] at tt
  refine ⟨1,.rt .bD s2,s2,?_,?_,rfl⟩
  ·unfold cf
   rw [sA hp]
   show (match zt [some (.loc p),some (.loc b),some (.loc a),x3] (s++[Cell.lst []]) with | .nx μ' ar=>cf Gm zt 0 μ' ar | .ct μ' ar=>cf Gm zt 0 μ' ar | .bk μ' ar=>some (.nx μ' ar) | .rt v ar=>some (.rt v ar) | .er c μ' ar=>some (.er c μ' ar) | .bad=>some .bad)=_
   rw [<-cH]
   have:zt [some (.loc p),some (.loc b),some (.loc a),x3] s1=.rt .bD s2:=by
    unfold zt
    rw [au,c1,ay,au,gG (by rw [tt]; rfl)]; rfl
   rw [this]
  ·rw [dk,cH]; exact (Kp.app _).trans (Kp.app _)
 | @more t r Q R h n m k ih=>
  intro s p a b x3 hp ha hb ne np
  have lt:t.1.length=many:=h.sD.len t List.mem_cons_self
  obtain ⟨s1,cH⟩:∃ s1,s1=s++[Cell.lst []]:=⟨_,rfl⟩
  have zu:s1[p]?=some (.lst ((t::r).map tV)):=by rw [cH]; exact aB hp _
  have xP:s1[b]?=some (.lst ((l::B).map tV)):=by rw [cH]; exact aB hb _
  have Nw:s1[a]?=some (.lst (Q.map tV)):=by rw [cH]; exact aB ha _
  obtain ⟨s2,dk⟩:∃ s2,s2=s1++[Cell.lst ((cK (· - ·) t.1 l.1).map Val.int)]:=⟨_,rfl⟩
  have CI:s2[p]?=some (.lst ((t::r).map tV)):=by rw [dk]; exact aB zu _
  have yt:s2[b]?=some (.lst ((l::B).map tV)):=by rw [dk]; exact aB xP _
  have Jg:s2[a]?=some (.lst (Q.map tV)):=by rw [dk]; exact aB Nw _
  obtain ⟨μ,hμ⟩:∃ μ:MN.Env,μ=[some (.loc p),some (.loc b),some (.loc a),some (tupI (cK (· - ·) t.1 l.1))]:=⟨_,rfl⟩
  have c1:aL 3 (ak ff (aa Mk aj)) [some (.loc p),some (.loc b),some (.loc a),x3] s1=.nx μ s2:=by
   rw [hμ]
   refine br (v:=tupI (cK (· - ·) t.1 l.1)) ?_
   rw [call_of (d4 (xR zu xP (by rw [ll,lt]) (by lia))),ik (aP s1 _),dk]; rfl
  have mn:bM (ag ltV (ak pK (aa (ae 3) aj)) (mC (.int 0))) μ s2=.ok (!((l.1.zip t.1).all fun p=>decide (p.1<=p.2))) s2:=by
   refine bI ?_
   have e:ak pK (aa (ae 3) aj) μ s2=.ok (.int (SO.gf (fun i=>(cK (· - ·) t.1 l.1).getD i 0) ((cK (· - ·) t.1 l.1).length-1))) s2:=by
    rw [call_of (d4 (v:=tupI (cK (· - ·) t.1 l.1)) (s1:=s2) (by rw [hμ]; rfl))]
    exact xS (by rw [sub_len (by rw [lt,ll])]; lia)
   rw [aK e (y:=.int 0) (s2:=s2) rfl,<-xQ (by rw [ll,lt]) (by lia)]
   rfl
  have R1:∀ {s:ah},s[p]?=some (.lst ((t::r).map tV))->CU μ s=.ok (.int t.2) s:=fun {s} hp=>Fl (m:=ae 0) (by rw [hμ]; rfl) hp
  have L1:∀ {s:ah},s[b]?=some (.lst ((l::B).map tV))->CV μ s=.ok (.int l.2) s:=fun {s} hb=>Fl (m:=ae 1) (by rw [hμ]; rfl) hb
  have md:bM (ag iL (ag bR CU CV) (mC (.int 0))) μ s2=.ok (!(t.2.fmod l.2==0)) s2:=by
   have e1:ag bR CU CV μ s2=.ok (.int (t.2.fmod l.2)) s2:=by
    rw [aK (R1 CI) (L1 yt)]; exact dI lz
   refine bI ?_
   rw [aK e1 (y:=.int 0) (s2:=s2) rfl,xo]
  have tt:=wx mn md
  have ok:((!((l.1.zip t.1).all fun p=>decide (p.1<=p.2))) || !(t.2.fmod l.2==0)) = !wt l t:=by
   unfold wt; rw [Bool.not_and]
  rw [ok,n] at tt
  obtain ⟨q,hq⟩:∃ q,q=m6 l t:=⟨_,rfl⟩
  rw [<-hq] at ih m
  obtain ⟨s3,mG⟩:∃ s3,s3=s2.set a (.lst ((Q++[q]).map tV)):=⟨_,rfl⟩
  have Th:s3[p]?=some (.lst ((t::r).map tV)):=by rw [mG]; exact fW CI (Ne.symm np)
  have Mi:s3[b]?=some (.lst ((l::B).map tV)):=by rw [mG]; exact fW yt (Ne.symm ne)
  have Mj:s3[a]?=some (.lst ((Q++[q]).map tV)):=by rw [mG]; exact get_set Jg
  have c2:cR (fH bX (ae 2) (aa (d8 (aa (ae 3) (aa (ag cL CU CV) aj))) aj)) μ s2=.nx μ s3:=by
   have v2:ae 2 μ s2=.ok (.loc a) s2:=by rw [hμ]; rfl
   have e2:ag cL CU CV μ s2=.ok (.int (t.2.fdiv l.2)) s2:=by
    rw [aK (R1 CI) (L1 yt)]; exact div_ii dz
   have arg:aa (d8 (aa (ae 3) (aa (ag cL CU CV) aj))) aj μ s2=.ok [tV q] s2:=by
    rw [hq]
    exact d4 (lR (d5 (v:=tupI (cK (· - ·) t.1 l.1)) (s1:=s2) (by rw [hμ]; rfl) e2) (by show 2<=1000; decide))
   have lQ:=h.lQ
   rw [gk,jR,v2,aw,oB Jg,arg,aw,t9,gL Jg (by rw [List.length_map,sizeLine_eq]; lia),aT,mG,List.map_append]
   rfl
  obtain ⟨s4,Fn⟩:∃ s4,s4=s3++[Cell.lst [tV q]]:=⟨_,rfl⟩
  have c3:Ed (ae 2) (kl (mW (mC (.int 1)))) kj μ s3=.ok (.loc s3.length) s4:=by
   rw [L7 (x:=.loc a) (k:=-1) (by rw [hμ]; rfl) rfl,Ij (aY Mj),Co,Fn]
  have q2:q.1.length=many:=by rw [hq]; show (cK _ _ _).length=_; rw [sub_len (by rw [lt,ll]),lt]
  obtain ⟨k5,s5,e5,N5⟩:=kI (p:=s3.length) (q:=b) (A:=[q]) (B:=l::B) (st:=s4) (by rw [Fn]; exact aP s3 _) (aY (by rw [Fn]; exact aB Mi _)) m1 m4 (fun x hx=>by rw [List.mem_singleton.mp hx]; exact q2) sB.len (fun x hx y hy=>by rw [List.mem_singleton.mp hx]; exact m y hy) (by rw [List.length_singleton,List.length_cons]; lia)
  have c4:ak PM.a9 (aa (Ed (ae 2) (kl (mW (mC (.int 1)))) kj) (aa (ae 1) aj)) μ s3=.ok (.loc k5) s5:=by
   rw [call_of (d5 c3 (w:=.loc b) (s2:=s4) (by rw [hμ]; rfl))]; exact e5
  have l5:(ir 0 (eB [q] (l::B))).length<=101:=by
   have:=wg (r:=0) (eB [q] (l::B))
   rw [kF,List.length_singleton,List.length_cons] at this
   lia
  have c5:=Ja (μ:=μ) (m:=ak PM.a9 (aa (Ed (ae 2) (kl (mW (mC (.int 1)))) kj) (aa (ae 1) aj))) (e:=Qb) (k:=1) (caps:=[]) (a:=aName 0) (g:=fun n => -n) (fun τ=>∃ x,τ=[x]) c4 N5.it (by lia) ⟨none,rfl⟩ (by
   rintro x hx τ ⟨y,rfl⟩
   refine ⟨[some (tV x)],rfl,⟨_,rfl⟩,?_⟩
   have e1:mW (ag aZ (ae 0) (mC (.int 1))) [some (tV x)] s5=.ok (.int (-x.2)) s5:=rfl
   exact lR (d5 (v:=tupI x.1) (s1:=s5) rfl e1) (by show 2<=1000; decide))
  obtain ⟨N,hN⟩:∃ N,N=chg (fun n => -n) (ir 0 (eB [q] (l::B))):=⟨_,rfl⟩
  rw [<-hN] at c5
  obtain ⟨s6,JR⟩:∃ s6,s6=s5++[Cell.lst (N.map tV)]:=⟨_,rfl⟩
  rw [<-JR] at c5
  have Ti:s6[p]?=some (.lst ((t::r).map tV)):=by rw [JR]; exact aB (N5.old (by rw [Fn]; exact aB Th _)) _
  have Tj:s6[s5.length]?=some (.lst (N.map tV)):=by rw [JR]; exact eR s5 _
  have lN:N.length<=101:=by rw [hN,ET]; exact l5
  have kN:∀ x∈N,x.1.length=many:=fun x hx=>by
   rw [hN] at hx
   unfold chg at hx
   obtain ⟨y,hy,rfl⟩:=List.mem_map.mp hx
   obtain ⟨z,hz,e⟩:=List.mem_map.mp (iz hy).1
   obtain ⟨u,hu,v,hv,rfl⟩:=oR hz
   show y.1.length=many
   rw [<-e]
   exact gS (by rw [List.mem_singleton.mp hu]; exact q2) (sB.len v hv)
  have lD:=h.lD
  obtain ⟨k7,s7,e7,N7⟩:=mF (P:=t::r) (R:=N) Ti Tj (fun x hx=>by
   rcases List.mem_append.mp hx with hx | hx
   ·exact jV m1 (h.sD.len x hx)
   ·exact jV m1 (kN x hx)) (by lia)
  have nx:ir 0 ((t::r)++N)=wq (l::B) (t::r) q:=by rw [hN]; exact Fb q (l::B) (t::r)
  rw [nx] at N7
  have c7:Qc μ s3=.nx [some (.loc k7),some (.loc b),some (.loc a),some (tupI (cK (· - ·) t.1 l.1))] s7:=by
   have:ak PM.bo (aa (ae 0) (aa (cD 1 [] (fA (ak PM.a9 (aa (Ed (ae 2) (kl (mW (mC (.int 1)))) kj) (aa (ae 1) aj)))) (aName 0) bz Qb) aj)) μ s3=.ok (.loc k7) s7:=by
    rw [call_of (d5 (v:=.loc p) (s1:=s3) (by rw [hμ]; rfl) c5)]; exact e7
   unfold Qc
   rw [br this,hμ]; rfl
  have Qd:∀ {n:Nat} {c:Cell},s3[n]?=some c->s7[n]?=some c:=fun {n c} e=>N7.old (by rw [JR]; exact aB (N5.old (by rw [Fn]; exact aB e _)) _)
  have Tn:s3.length<=s7.length:=by
   obtain ⟨⟨g5,Qe⟩,_⟩:=N5
   obtain ⟨⟨g7,To⟩,_⟩:=N7
   rw [To,JR,Qe,Fn]
   simp only [List.length_append]
   lia
  have pa:k7≠a:=by
   have:=kD Mj
   have:s3.length<=s6.length:=by
    obtain ⟨⟨g5,Qe⟩,_⟩:=N5
    rw [JR,Qe,Fn]
    simp only [List.length_append]
    lia
   have:=N7.2.1
   lia
  obtain ⟨n',res,s',ew,K',fin⟩:=ih (p:=k7) (x3:=some (tupI (cK (· - ·) t.1 l.1))) N7.2.2 (Qd Mj) (Qd Mi) ne pa
  have K3:Kp a a s s3:=by rw [mG,dk,cH]; exact ((Kp.app _).trans (Kp.app _)).trans (Kp.Mf _)
  refine ⟨n'+1,res,s',?_,(K3.trans ⟨Tn,fun n c _ _ e=>Qd e⟩).trans K',fin⟩
  unfold cf
  rw [sA hp]
  have:zt [some (.loc p),some (.loc b),some (.loc a),x3] s1=.nx [some (.loc k7),some (.loc b),some (.loc a),some (tupI (cK (· - ·) t.1 l.1))] s7:=by
   unfold zt
   rw [au,c1,ay,au,eJ (by rw [tt]; rfl),ay,au,c2,ay,c7]
  show (match zt [some (.loc p),some (.loc b),some (.loc a),x3] (s++[Cell.lst []]) with | .nx μ' ar=>cf Gm zt n' μ' ar | .ct μ' ar=>cf Gm zt n' μ' ar | .bk μ' ar=>some (.nx μ' ar) | .rt v ar=>some (.rt v ar) | .er c μ' ar=>some (.er c μ' ar) | .bad=>some .bad)=_
  rw [<-cH,this]
  exact ew
theorem m7 {D:List aA} {R:Option (List aA)} (m1:1<=many) (m4:many<=4) (lB:B.length<=100) (sB:dO many (l::B)) (dz:Dz l.2) (V:Dv many (l::B) l D [] R) (hp:s[p]?=some (.lst (D.map tV))) (hb:s[b]?=some (.lst ((l::B).map tV))) :
  ∃ s',Ext s s'/\Je R s s' (PM.bA [.loc p,.loc b] s) (.ok .bD s'):=by
 obtain ⟨s1,cH⟩:∃ s1,s1=s++[Cell.lst []]:=⟨_,rfl⟩
 have ha:s1[s.length]?=some (.lst (([]:List aA).map tV)):=by rw [cH]; exact eR s _
 have xP:s1[b]?=some (.lst ((l::B).map tV)):=by rw [cH]; exact aB hb _
 have zu:s1[p]?=some (.lst (D.map tV)):=by rw [cH]; exact aB hp _
 have lb:=kD hb
 have lp:=kD hp
 obtain ⟨n,res,s',ew,K,fin⟩:=Fm m1 m4 lB sB dz V (x3:=none) zu ha xP (by lia) (by lia)
 have E:Ext s s':=⟨by have:=K.len; rw [cH,List.length_append] at this; lia,fun n c h=>by
  have ln:=kD h
  exact K.at_ n c (by lia) (by lia) (by rw [cH]; exact aB h _)⟩
 refine ⟨s',E,?_⟩
 have c1:aL 2 (bb aj) [some (.loc p),some (.loc b),none,none] s=.nx [some (.loc p),some (.loc b),some (.loc s.length),none] s1:=by
  rw [br (c8 (vs:=[]) (s1:=s) rfl (by decide)),cH]; rfl
 have run:PM.bA [.loc p,.loc b] s=(aI (gw Gm zt) (aR (ae 2)) [some (.loc p),some (.loc b),some (.loc s.length),none] s1).fin:=by
  unfold PM.bA
  rw [dF (np:=2) (us:=[Val.loc p,.loc b]) rfl]
  show (aI (aL 2 (bb aj)) (aI (gw Gm zt) (aR (ae 2))) [some (.loc p),some (.loc b),none,none] s).fin=_
  rw [au,c1,ay]
 cases R with
 | none=>
  show PM.bA [.loc p,.loc b] s=.ok .bD s'
  have fin:res=.rt .bD s':=fin
  rw [run,au,je ew,fin]; rfl
 | some Q=>
  obtain ⟨hQ,y0,y3,e⟩:=fin
  refine ⟨s.length,Nat.le_refl _,hQ,?_⟩
  rw [run,au,je ew,e,ay]; rfl
end
end PG
namespace EF
open PySem PySem.Spec L2 MN PG
open PyProof.Rows hiding St kindOf
theorem Tp {μ:MN.Env} {s:ah} {c x:Str} {b:Bool} (h:μ[0]?=some (some (.exc c))) (hk:kn.contains c=true) (hs:bp tab c x=some b):cS (bp tab) kn 0 x μ s=.ok (.bl b) s:=by
 unfold cS
 rw [h]
 dsimp only
 rw [if_pos hk,hs]
theorem Cp {μ:MN.Env} {s:ah} {m1 m2 m3:ME} {u v w:Val} (h1:m1 μ s=.ok u s) (h2:m2 μ s=.ok v s) (h3:m3 μ s=.ok w s):aa m1 (aa m2 (aa m3 aj)) μ s=.ok [u,v,w] s:=jC h1 (d5 h2 h3)
theorem jm {e:Option Val} {s:ah} {n:Nat} {us vs:List Val} {a:MA} (h:s[n]?=some (.lst us)) (ha:a [e,some (.loc n)] s=.ok vs s) (hl:us.length<=100) (hv:vs.length<=100) :
  ∃ m s',aL 1 (ag cb (ae 1) (bb a)) [e,some (.loc n)] s=.nx [e,some (.loc m)] s'/\(∃ g,s'=s++g)/\s'[m]?=some (.lst (us++vs)):=by
 obtain ⟨s1,cH⟩:∃ s1,s1=s++[Cell.lst vs]:=⟨_,rfl⟩
 have h1:s1[n]?=some (.lst us):=by rw [cH]; exact aB h _
 have h2:s1[s.length]?=some (.lst vs):=by rw [cH]; exact eR s _
 refine ⟨s1.length,s1++[.lst (us++vs)],?_,⟨[.lst vs,.lst (us++vs)],by rw [cH,List.append_assoc]; rfl⟩,eR s1 _⟩
 have ad:ag cb (ae 1) (bb a) [e,some (.loc n)] s=.ok (.loc s1.length) (s1++[.lst (us++vs)]):=by
  rw [aK (x:=.loc n) (s1:=s) rfl (c8 ha (by lia)),<-cH]
  show (match s1[n]?,s1[s.length]? with | some (.lst us),some (.lst ws)=>if us.length+ws.length<=sizeLine then Res.ok (Val.loc s1.length) (s1++[Cell.lst (us++ws)]) else .bad | _,_=>.bad)=_
  rw [h1,h2]
  dsimp only
  rw [if_pos (by rw [sizeLine_eq]; lia)]
 rw [br ad]; rfl
theorem qP {c:Str} {b0 b1 b2 b3 b4 b5 b6 b7 b8 b9 b10 b11 b12 b13 b14:Bool} {j:Nat} (hk:kn.contains c=true) (h0:bp tab c "ByNought" = some b0) (h1:bp tab c "NotWhole" = some b1) (h2:bp tab c "NoMeet" = some b2) (h3:bp tab c "NoParts" = some b3) (h4:bp tab c "NoCount" = some b4) (h5:bp tab c "NoInverse" = some b5)
  (h6:bp tab c "NoLead" = some b6) (h7:bp tab c "NoOrder" = some b7) (h8:bp tab c "NoPrime" = some b8) (h9:bp tab c "NoRing" = some b9) (JQ:bp tab c "NoSums" = some b10) (Jy:bp tab c "NoTerm" = some b11) (Ml:bp tab c "NotPlain" = some b12) (Mn:bp tab c "NotWritten" = some b13) (Mo:bp tab c "NoUnknowns" = some b14)
  (hA:bp tab c "AlgebraError" = some true) (hV:bp tab c "ValueError" = some true) (hc:([b0,b1,b2,b3,b4,b5,b6,b7,b8,b9,b10,b11,b12,b13,b14].map Val.bl).countP (fun y=>CL y (.bl true))=1) (hj:([b0,b1,b2,b3,b4,b5,b6,b7,b8,b9,b10,b11,b12,b13,b14].map Val.bl).findIdx? (fun y=>CL y (.bl true))=some j) (st:ah) :
  ∃ g,a8 c st=.ok (.int (j:Int)) (st++g):=by
 have q:∀ {x:Str} {b:Bool} {y:Option Val} {s:ah},bp tab c x=some b->cS (bp tab) kn 0 x [some (.exc c),y] s=.ok (.bl b) s:=fun {x b y s} h=>Tp rfl hk h
 obtain ⟨s1,cH⟩:∃ s1,s1=st++[Cell.lst [Val.bl b0,.bl b1,.bl b2]]:=⟨_,rfl⟩
 have f1:aL 1 (bb (aa (cS (bp tab) kn 0 "ByNought") (aa (cS (bp tab) kn 0 "NotWhole") (aa (cS (bp tab) kn 0 "NoMeet") aj)))) [some (.exc c),none] st=.nx [some (.exc c),some (.loc st.length)] s1:=by
  rw [br (c8 (Cp (q h0) (q h1) (q h2)) (by show 3<=1000; decide)),cH]; rfl
 have a1:s1[st.length]?=some (.lst [Val.bl b0,.bl b1,.bl b2]):=by rw [cH]; exact eR st _
 obtain ⟨m2,s2,f2,⟨g2,e2⟩,a2⟩:=jm (e:=some (.exc c)) a1 (Cp (q h3) (q h4) (q h5)) (by show 3<=100; decide) (by show 3<=100; decide)
 obtain ⟨m3,s3,f3,⟨g3,e3⟩,a3⟩:=jm (e:=some (.exc c)) a2 (Cp (q h6) (q h7) (q h8)) (by show 6<=100; decide) (by show 3<=100; decide)
 obtain ⟨m4,s4,f4,⟨g4,e4⟩,a4⟩:=jm (e:=some (.exc c)) a3 (Cp (q h9) (q JQ) (q Jy)) (by show 9<=100; decide) (by show 3<=100; decide)
 obtain ⟨m5,s5,f5,⟨g5,e5⟩,a5⟩:=jm (e:=some (.exc c)) a4 (Cp (q Ml) (q Mn) (q Mo)) (by show 12<=100; decide) (by show 3<=100; decide)
 replace a5:s5[m5]?=some (.lst ([b0,b1,b2,b3,b4,b5,b6,b7,b8,b9,b10,b11,b12,b13,b14].map Val.bl)):=a5
 obtain ⟨bs,Nn⟩:∃ bs,bs=[b0,b1,b2,b3,b4,b5,b6,b7,b8,b9,b10,b11,b12,b13,b14]:=⟨_,rfl⟩
 rw [<-Nn] at a5 hc hj
 have fl:(bs.map Val.bl).all flat=true:=List.all_eq_true.mpr fun x hx=>by
  obtain ⟨b,_,rfl⟩:=List.mem_map.mp hx
  rfl
 refine ⟨[Cell.lst [Val.bl b0,.bl b1,.bl b2]]++g2++g3++g4++g5,?_⟩
 have es:st++([Cell.lst [Val.bl b0,.bl b1,.bl b2]]++g2++g3++g4++g5)=s5:=by
  rw [e5,e4,e3,e2,cH]; simp only [List.append_assoc]
 rw [es]
 have v1:∀ s,ae 1 [some (.exc c),some (.loc m5)] s=.ok (.loc m5) s:=fun _=>rfl
 have cnt:fH i5 (ae 1) (aa (mC (.bl true)) aj) [some (.exc c),some (.loc m5)] s5=.ok (.int 1) s5:=by
  rw [jR,v1,aw,oB a5]
  show i5 (.loc m5) [.bl true] s5=_
  unfold i5
  dsimp only
  rw [a5]
  dsimp only
  rw [if_pos ⟨rfl,fl⟩,hc]; rfl
 have idx:fH jT (ae 1) (aa (mC (.bl true)) aj) [some (.exc c),some (.loc m5)] s5=.ok (.int (j:Int)) s5:=by
  rw [jR,v1,aw,oB a5]
  show jT (.loc m5) [.bl true] s5=_
  unfold jT
  dsimp only
  rw [a5]
  dsimp only
  rw [if_pos ⟨rfl,fl⟩,hj]
 have tA:cQ (bM (cS (bp tab) kn 0 "AlgebraError")) [some (.exc c),some (.loc m5)] s5=.ok false s5:=BV (bI (q hA))
 have Qf:yD (bp tab) 0 "ValueError" [some (.exc c),some (.loc m5)] s5=.ok (.bl true) s5:=by
  show (match bp tab c "ValueError" with | some true=>Res.ok (Val.bl true) s5 | _=>.bad)=_
  rw [hV]
 have Tq:cQ (bM (yD (bp tab) 0 "ValueError")) [some (.exc c),some (.loc m5)] s5=.ok false s5:=BV (bI Qf)
 have tC:bM (ag iL (fH i5 (ae 1) (aa (mC (.bl true)) aj)) (mC (.int 1))) [some (.exc c),some (.loc m5)] s5=.ok false s5:=by
  refine bI ?_
  rw [aK cnt (y:=.int 1) (s2:=s5) rfl]; rfl
 have f6:=eJ (B:=aR (mW (mC (.int 1)))) (BU tA (BU Tq tC))
 show (aI _ _ [some (.exc c),none] st).fin=_
 rw [au,f1,ay,au,f2,ay,au,f3,ay,au,f4,ay,au,f5,ay,au,f6,ay,cF,idx,aT]
 rfl
theorem kJ (st:ah):∃ g,a8 "ByNought" st=.ok (.int 0) (st++g):=
 qP (c:="ByNought") (b0:=true) (b1:=false) (b2:=false) (b3:=false) (b4:=false) (b5:=false) (b6:=false) (b7:=false) (b8:=false) (b9:=false) (b10:=false) (b11:=false) (b12:=false) (b13:=false) (b14:=false) (j:=0) (by decide +kernel) (by decide +kernel) (by decide +kernel) (by decide +kernel) (by decide +kernel) (by decide +kernel) (by decide +kernel) (by decide +kernel) (by decide +kernel) (by decide +kernel) (by decide +kernel) (by decide +kernel) (by decide +kernel) (by decide +kernel) (by decide +kernel) (by decide +kernel) (by decide +kernel) (by decide +kernel) rfl rfl st
theorem uN (st:ah):∃ g,a8 "NotWhole" st=.ok (.int 1) (st++g):=
 qP (c:="NotWhole") (b0:=false) (b1:=true) (b2:=false) (b3:=false) (b4:=false) (b5:=false) (b6:=false) (b7:=false) (b8:=false) (b9:=false) (b10:=false) (b11:=false) (b12:=false) (b13:=false) (b14:=false) (j:=1) (by decide +kernel) (by decide +kernel) (by decide +kernel) (by decide +kernel) (by decide +kernel) (by decide +kernel) (by decide +kernel) (by decide +kernel) (by decide +kernel) (by decide +kernel) (by decide +kernel) (by decide +kernel) (by decide +kernel) (by decide +kernel) (by decide +kernel) (by decide +kernel) (by decide +kernel) (by decide +kernel) rfl rfl st
theorem iJ {s:ah} {p b:Nat} (hb:itemsOf s b=some []):PM.aX [.loc p,.loc b] s=.err "ByNought" s:=by
 unfold PM.aX
 rw [dF (np:=2) (us:=[Val.loc p,.loc b]) rfl]
 show (aI (fL (bM (ag e9 (ak dZ (aa (ae 1) aj)) (mC (.int 0)))) (jH "ByNought" (aa (mC (.str "no sum is divided by nought")) aj)) bh) _ [some (.loc p),some (.loc b),none] s).fin=_
 have t:bM (ag e9 (ak dZ (aa (ae 1) aj)) (mC (.int 0))) [some (.loc p),some (.loc b),none] s=.ok true s:=by
  refine bI ?_
  rw [i8 (show ak dZ (aa (ae 1) aj) [some (.loc p),some (.loc b),none] s=.ok (.int 0) s by rw [call_of (d4 (v:=.loc b) (s1:=s) rfl),kq hb]; rfl)]
  rfl
 rw [au,gG t]
 rfl
section
variable {many:Nat} {l:aA} {B D:List aA} {R:Option (List aA)} {s:ah} {p b:Nat}
theorem i9 (m1:1<=many) (m4:many<=4) (lB:B.length<=100) (sB:dO many (l::B)) (dz:Dz l.2) (sD:dO many D) (V:Dv many (l::B) l D [] R) (hp:s[p]?=some (.lst (D.map tV))) (hb:s[b]?=some (.lst ((l::B).map tV))) :
  ∃ s',Ext s s'/\Je R s s' (PM.aX [.loc p,.loc b] s) (.err "NotWhole" s'):=by
 obtain ⟨s',E,fin⟩:=o5 m1 m4 lB sB dz sD V hp hb
 refine ⟨s',E,?_⟩
 have t:bM (ag e9 (ak dZ (aa (ae 1) aj)) (mC (.int 0))) [some (.loc p),some (.loc b),none] s=.ok false s:=by
  refine bI ?_
  rw [i8 (show ak dZ (aa (ae 1) aj) [some (.loc p),some (.loc b),none] s=.ok (.int ((B.length:Int)+1)) s by rw [call_of (d4 (v:=.loc b) (s1:=s) rfl),kq (aY hb),List.length_map,List.length_cons]; rfl)]
  have:((B.length:Int)+1==0)=false:=by rw [beq_eq_false_iff_ne]; lia
  rw [this]
 have run:∀ v,PM.aQ [.loc p,.loc b] s=.ok v s'->PM.aX [.loc p,.loc b] s=(aI (fL (bM (ag (CM false) (ae 2) (mC .bD))) (jH "NotWhole" (aa (mC (.str "no sum makes the first one of the second")) aj)) bh) (aR (ae 2)) [some (.loc p),some (.loc b),some v] s').fin:=by
  intro v h
  unfold PM.aX
  rw [dF (np:=2) (us:=[Val.loc p,.loc b]) rfl]
  show (aI (fL (bM (ag e9 (ak dZ (aa (ae 1) aj)) (mC (.int 0)))) (jH "ByNought" (aa (mC (.str "no sum is divided by nought")) aj)) bh) (aI (aL 2 (ak PM.aQ (aa (ae 0) (aa (ae 1) aj)))) _) [some (.loc p),some (.loc b),none] s).fin=_
  rw [au,eJ t,ay,au,br (show ak PM.aQ (aa (ae 0) (aa (ae 1) aj)) [some (.loc p),some (.loc b),none] s=.ok v s' by rw [call_of (d5 (v:=.loc p) (s1:=s) rfl (w:=.loc b) (s2:=s) rfl)]; exact h),ay]
  rfl
 cases R with
 | none=>
  show PM.aX [.loc p,.loc b] s=.err "NotWhole" s'
  rw [run .bD fin]
  rfl
 | some Q=>
  obtain ⟨k,hk,hQ,e⟩:=fin
  refine ⟨k,hk,hQ,?_⟩
  rw [run _ e]
  rfl
theorem o7 {c:Str} {j:Int} {s':ah} (hc:kn.contains c=true) (hA:bp tab c "AlgebraError" = some true) (h:PM.aX [.loc p,.loc b] s=.err c s') (hk:∀ st,∃ g,a8 c st=.ok (.int j) (st++g)):∃ g,bf [.loc p,.loc b] s=.ok (.int j) (s'++g):=by
 obtain ⟨g,hg⟩:=hk s'
 refine ⟨g,?_⟩
 unfold bf
 rw [dF (np:=2) (us:=[Val.loc p,.loc b]) rfl]
 show (om (oj (HY kn) (aR (ak PM.aX (zD (aa (ae 0) (aa (ae 1) aj))))) (CN (bp tab) "AlgebraError" 2 (aR (gE 2 a8)) vz)) [some (.loc p),some (.loc b),none] s).fin=_
 have arg:zD (aa (ae 0) (aa (ae 1) aj)) [some (Val.loc p),some (.loc b),none] s=.ok [.loc p,.loc b] s:=rfl
 have bd:aR (ak PM.aX (zD (aa (ae 0) (aa (ae 1) aj)))) [some (.loc p),some (.loc b),none] s=.er c [some (.loc p),some (.loc b),none] s':=by
  rw [cF,call_of arg,h]; rfl
 have hd:CN (bp tab) "AlgebraError" 2 (aR (gE 2 a8)) vz c [some (.loc p),some (.loc b),none] s'=.rt (.int j) (s'++g):=by
  unfold CN
  rw [hA]
  show vA (aR (gE 2 a8) [some (.loc p),some (.loc b),some (.exc c)] s')=_
  have:gE 2 a8 [some (.loc p),some (.loc b),some (.exc c)] s'=.ok (.int j) (s'++g):=by
   show Lq (a8 c s')=_
   rw [hg]; rfl
  rw [cF,this]; rfl
 have tr:oj (HY kn) (aR (ak PM.aX (zD (aa (ae 0) (aa (ae 1) aj))))) (CN (bp tab) "AlgebraError" 2 (aR (gE 2 a8)) vz) [some (.loc p),some (.loc b),none] s=.rt (.int j) (s'++g):=by
  unfold oj
  rw [bd]
  dsimp only
  rw [if_pos (show HY kn c=true from hc),hd]
 unfold om
 rw [tr]
 rfl
theorem Cq {k:Nat} {s':ah} (h:PM.aX [.loc p,.loc b] s=.ok (.loc k) s'):bf [.loc p,.loc b] s=.ok (.loc k) s':=by
 unfold bf
 rw [dF (np:=2) (us:=[Val.loc p,.loc b]) rfl]
 show (om (oj (HY kn) (aR (ak PM.aX (zD (aa (ae 0) (aa (ae 1) aj))))) (CN (bp tab) "AlgebraError" 2 (aR (gE 2 a8)) vz)) [some (.loc p),some (.loc b),none] s).fin=_
 have arg:zD (aa (ae 0) (aa (ae 1) aj)) [some (Val.loc p),some (.loc b),none] s=.ok [.loc p,.loc b] s:=rfl
 have bd:aR (ak PM.aX (zD (aa (ae 0) (aa (ae 1) aj)))) [some (.loc p),some (.loc b),none] s=.rt (.loc k) s':=by
  rw [cF,call_of arg,h]; rfl
 have tr:oj (HY kn) (aR (ak PM.aX (zD (aa (ae 0) (aa (ae 1) aj))))) (CN (bp tab) "AlgebraError" 2 (aR (gE 2 a8)) vz) [some (.loc p),some (.loc b),none] s=.rt (.loc k) s':=by
  unfold oj
  rw [bd]
 unfold om
 rw [tr]
 rfl
end
theorem Ji (t:aA):qm 13 (tV t)=true:=by
 show (dQ 11 (t.1.map Val.int)&&(true&&true))=true
 rw [mB]; rfl
theorem Jj (D:List aA):dQ 13 (D.map tV)=true:=jh fun u hu=>by
 obtain ⟨t,_,rfl⟩:=List.mem_map.mp hu
 exact Ji t
theorem Cr {s:ah} {h m a b a' b':Nat} {D B:List aA} (hh:itemsOf s h=some [.loc a,.loc b]) (hm:itemsOf s m=some [.loc a',.loc b']) (ha:itemsOf s a=some (D.map tV)) (Le:itemsOf s a'=some (D.map tV)) (hb:itemsOf s b=some (B.map tV)) (Tr:itemsOf s b'=some (B.map tV)) :
  j4 16 s (.loc h) (.loc m)=some true:=by
 have one:∀ {x y:Nat} {L:List aA},itemsOf s x=some (L.map tV)->itemsOf s y=some (L.map tV)->j4 15 s (.loc x) (.loc y)=some true:=by
  intro x y L h1 h2
  unfold j4
  simp only [vw,h1,h2]
  exact jg s 13 _ (Jj L)
 unfold j4
 simp only [vw,hh,hm]
 show (match j4 15 s (.loc a) (.loc a'),(match j4 15 s (.loc b) (.loc b'),some true with | some a,some b=>some (a&&b) | _,_=>none) with | some a,some b=>some (a&&b) | _,_=>none)=_
 rw [one ha Le,one hb Tr]
 rfl
structure mH (s:ah) (h a b p q:Nat) (D B:List aA):Prop where
 hh:s[h]?=some (.lst [.loc a,.loc b])
 ha:s[a]?=some (.lst (D.map tV))
 hb:s[b]?=some (.lst (B.map tV))
 hp:s[p]?=some (.lst (D.map tV))
 hq:s[q]?=some (.lst (B.map tV))
theorem mH.to {s s':ah} {h a b p q:Nat} {D B:List aA} (H:mH s h a b p q D B) (E:∀ (n:Nat) (c:Cell),s[n]?=some c->s'[n]?=some c):mH s' h a b p q D B:=⟨E _ _ H.hh,E _ _ H.ha,E _ _ H.hb,E _ _ H.hp,E _ _ H.hq⟩
theorem mH.set {s:ah} {h a b p q k:Nat} {c:Cell} {D B:List aA} (H:mH s h a b p q D B) (h1:k≠h) (h2:k≠a) (h3:k≠b) (h4:k≠p) (h5:k≠q):mH (s.set k c) h a b p q D B:=⟨fW H.hh h1,fW H.ha h2,fW H.hb h3,fW H.hp h4,fW H.hq h5⟩
section
variable {s:ah} {h a b p q:Nat} {D B:List aA} {μ:MN.Env}
theorem mH.eq (H:mH s h a b p q D B) {m8 m5 m4:ME} (v8:m8 μ s=.ok (.loc h) s) (v5:∀ s,m5 μ s=.ok (.loc p) s) (v4:∀ s,m4 μ s=.ok (.loc q) s):ag e9 m8 (bb (aa m5 (aa m4 aj))) μ s=.ok (.bl true) (s++[.lst [.loc p,.loc q]]):=by
 have l:=c8 (d5 (v5 s) (v4 s)) (by show 2<=1000; decide)
 rw [aK v8 l]
 unfold e9
 rw [Cr (aY (aB H.hh _)) (aP s _) (aY (aB H.ha _)) (aY (aB H.hp _)) (aY (aB H.hb _)) (aY (aB H.hq _))]
theorem mH.ne (H:mH s h a b p q D B) {m8 m5 m4:ME} (v8:m8 μ s=.ok (.loc h) s) (v5:∀ s,m5 μ s=.ok (.loc p) s) (v4:∀ s,m4 μ s=.ok (.loc q) s):ag iL m8 (bb (aa m5 (aa m4 aj))) μ s=.ok (.bl false) (s++[.lst [.loc p,.loc q]]):=by
 have l:=c8 (d5 (v5 s) (v4 s)) (by show 2<=1000; decide)
 rw [aK v8 l]
 unfold iL
 rw [Cr (aY (aB H.hh _)) (aP s _) (aY (aB H.ha _)) (aY (aB H.hp _)) (aY (aB H.hb _)) (aY (aB H.hq _))]
 rfl
theorem mH.args (H:mH s h a b p q D B) {m8:ME} (v8:∀ s,m8 μ s=.ok (.loc h) s):aa (ag aZ m8 (mC (.int 0))) (aa (ag aZ m8 (mC (.int 1))) aj) μ s=.ok [.loc a,.loc b] s:=by
 have e0:ag aZ m8 (mC (.int 0)) μ s=.ok (.loc a) s:=by
  rw [aK (v8 s) (y:=.int 0) (s2:=s) rfl]; exact oA (aY H.hh) (jc (j:=0) rfl)
 have e1:ag aZ m8 (mC (.int 1)) μ s=.ok (.loc b) s:=by
  rw [aK (v8 s) (y:=.int 1) (s2:=s) rfl]; exact oA (aY H.hh) (jc (j:=1) rfl)
 exact d5 e0 e1
end
theorem wy {s:ah} {h a b p q many:Nat} {D:List aA} {x0 x2 x3 x6 x7:Option Val} (H:mH s h a b p q D []) :
  ∃ ar,eV [x0,some (.int (many:Int)),x2,x3,some (.loc q),some (.loc p),x6,x7,some (.loc h),none,none] s=.rt (.bl true) ar:=by
 obtain ⟨g1,e1⟩:=o7 (c:="ByNought") (by decide +kernel) (by decide +kernel) (iJ (p:=a) (aY H.hb)) kJ
 obtain ⟨μ,hμ⟩:∃ μ:MN.Env,μ=[x0,some (.int (many:Int)),x2,x3,some (.loc q),some (.loc p),x6,x7,some (.loc h),some (.int 0),none]:=⟨_,rfl⟩
 obtain ⟨s1,cH⟩:∃ s1,s1=s++g1:=⟨_,rfl⟩
 have Qg:aL 9 (ak bf (aa (ag aZ (ae 8) (mC (.int 0))) (aa (ag aZ (ae 8) (mC (.int 1))) aj))) [x0,some (.int (many:Int)),x2,x3,some (.loc q),some (.loc p),x6,x7,some (.loc h),none,none] s=.nx μ s1:=by
  rw [br (show ak bf (aa (ag aZ (ae 8) (mC (.int 0))) (aa (ag aZ (ae 8) (mC (.int 1))) aj)) [x0,some (.int (many:Int)),x2,x3,some (.loc q),some (.loc p),x6,x7,some (.loc h),none,none] s=.ok (.int 0) s1 by rw [call_of (H.args (m8:=ae 8) fun _=>rfl),cH]; exact e1),hμ]
  rfl
 have H1:mH s1 h a b p q D []:=H.to fun n c e=>by rw [cH]; exact aB e _
 have v8:∀ s,ae 8 μ s=.ok (.loc h) s:=fun _=>by rw [hμ]; rfl
 have v5:∀ s,ae 5 μ s=.ok (.loc p) s:=fun _=>by rw [hμ]; rfl
 have v4:∀ s,ae 4 μ s=.ok (.loc q) s:=fun _=>by rw [hμ]; rfl
 obtain ⟨s2,dk⟩:∃ s2,s2=s1++[Cell.lst [Val.loc p,.loc q]]:=⟨_,rfl⟩
 have Mp:=eJ (B:=aR (mC (.bl false))) (bI (H1.ne (v8 s1) v5 v4))
 rw [<-dk] at Mp
 have H2:mH s2 h a b p q D []:=H1.to fun n c e=>by rw [dk]; exact aB e _
 obtain ⟨s3,mG⟩:∃ s3,s3=s2++[Cell.lst []]:=⟨_,rfl⟩
 have H3:mH s3 h a b p q D []:=H2.to fun n c e=>by rw [mG]; exact aB e _
 have Ts:bM (ag e9 (ae 4) (bb aj)) μ s2=.ok true s3:=by
  refine bI ?_
  rw [aK (v4 s2) (c8 (vs:=[]) (s1:=s2) rfl (by decide)),<-mG,eq_nil (aY H3.hq) (by rw [mG]; exact aP s2 _)]
  rfl
 obtain ⟨s4,Fn⟩:∃ s4,s4=s3++[Cell.lst []]:=⟨_,rfl⟩
 obtain ⟨s5,Jk⟩:∃ s5,s5=s4++[Cell.lst []]:=⟨_,rfl⟩
 obtain ⟨g5,e5⟩:=o7 (c:="ByNought") (s:=s5) (by decide +kernel) (by decide +kernel) (iJ (s:=s5) (p:=s3.length) (b:=s4.length) (by rw [Jk]; exact aP s4 _)) kJ
 have r2:ag e9 (ak bf (aa (bb aj) (aa (bb aj) aj))) (mC (.int 0)) μ s3=.ok (.bl true) (s5++g5):=by
  have l1:bb aj μ s3=.ok (.loc s3.length) s4:=by rw [Fn]; exact c8 (vs:=[]) (s1:=s3) rfl (by decide)
  have l2:bb aj μ s4=.ok (.loc s4.length) s5:=by rw [Jk]; exact c8 (vs:=[]) (s1:=s4) rfl (by decide)
  rw [i8 (show ak bf (aa (bb aj) (aa (bb aj) aj)) μ s3=.ok (.int 0) (s5++g5) by rw [call_of (d5 l1 l2)]; exact e5)]
  rfl
 have r1:ag e9 (ae 9) (mC (.int 0)) μ s3=.ok (.bl true) s3:=by
  rw [i8 (o:=0) (show ae 9 μ s3=.ok (.int 0) s3 by rw [hμ]; rfl)]; rfl
 refine ⟨s5++g5,?_⟩
 unfold eV
 rw [au,Qg,ay]
 unfold lO
 rw [au,Mp,ay]
 unfold lM
 rw [au,gG Ts,cF,wb r1 r2,aT]
 rfl
noncomputable def Mq (R:Option (List aA)) (s s1:ah) (v:Val):Prop:=match R with
 | none=>v=.int 1
 | some Q=>∃ k,v=.loc k/\s.length<=k/\s1[k]?=some (.lst (Q.map tV))
theorem Fo {s:ah} {h a b p q many:Nat} {l:aA} {B D:List aA} {R:Option (List aA)} {x0 x2 x3 x6 x7:Option Val} (m1:1<=many) (m4:many<=4) (lB:B.length<=100) (sB:dO many (l::B)) (dz:Dz l.2) (sD:dO many D) (V:Dv many (l::B) l D [] R) (sR:∀ Q,R=some Q->dO many Q/\Q.length<=15625200) (H:mH s h a b p q D (l::B)) :
  ∃ ar,eV [x0,some (.int (many:Int)),x2,x3,some (.loc q),some (.loc p),x6,x7,some (.loc h),none,none] s=.rt (.bl true) ar:=by
 obtain ⟨s0,E0,fq⟩:=i9 m1 m4 lB sB dz sD V H.ha H.hb
 -- xT value Tt is told
 obtain ⟨v,s1,et,E1,hv⟩:∃ v s1,bf [.loc a,.loc b] s=.ok v s1/\Ext s s1/\Mq R s s1 v:=by
  cases R with
  | none=>
   obtain ⟨g,e⟩:=o7 (c:="NotWhole") (by decide +kernel) (by decide +kernel) fq uN
   exact ⟨_,_,e,⟨by rw [List.length_append]; have:=E0.1; lia,fun n c h=>aB (E0.2 n c h) _⟩,rfl⟩
  | some Q=>
   obtain ⟨k,hk,hQ,e⟩:=fq
   exact ⟨_,_,Cq e,E0,k,rfl,hk,hQ⟩
 obtain ⟨μ,hμ⟩:∃ μ:MN.Env,μ=[x0,some (.int (many:Int)),x2,x3,some (.loc q),some (.loc p),x6,x7,some (.loc h),some v,none]:=⟨_,rfl⟩
 have Qg:aL 9 (ak bf (aa (ag aZ (ae 8) (mC (.int 0))) (aa (ag aZ (ae 8) (mC (.int 1))) aj))) [x0,some (.int (many:Int)),x2,x3,some (.loc q),some (.loc p),x6,x7,some (.loc h),none,none] s=.nx μ s1:=by
  rw [br (show ak bf (aa (ag aZ (ae 8) (mC (.int 0))) (aa (ag aZ (ae 8) (mC (.int 1))) aj)) [x0,some (.int (many:Int)),x2,x3,some (.loc q),some (.loc p),x6,x7,some (.loc h),none,none] s=.ok v s1 by rw [call_of (H.args (m8:=ae 8) fun _=>rfl)]; exact et),hμ]
  rfl
 have H1:mH s1 h a b p q D (l::B):=H.to E1.2
 have v8:∀ s,ae 8 μ s=.ok (.loc h) s:=fun _=>by rw [hμ]; rfl
 have v5:∀ s,ae 5 μ s=.ok (.loc p) s:=fun _=>by rw [hμ]; rfl
 have v4:∀ s,ae 4 μ s=.ok (.loc q) s:=fun _=>by rw [hμ]; rfl
 obtain ⟨s2,dk⟩:∃ s2,s2=s1++[Cell.lst [Val.loc p,.loc q]]:=⟨_,rfl⟩
 have Mp:=eJ (B:=aR (mC (.bl false))) (bI (H1.ne (v8 s1) v5 v4))
 rw [<-dk] at Mp
 have H2:mH s2 h a b p q D (l::B):=H1.to fun n c e=>by rw [dk]; exact aB e _
 obtain ⟨s3,mG⟩:∃ s3,s3=s2++[Cell.lst []]:=⟨_,rfl⟩
 have H3:mH s3 h a b p q D (l::B):=H2.to fun n c e=>by rw [mG]; exact aB e _
 have Tu:fL (bM (ag e9 (ae 4) (bb aj))) (aR (rF (ag e9 (ae 9) (mC (.int 0))) (ag e9 (ak bf (aa (bb aj) (aa (bb aj) aj))) (mC (.int 0))))) bh μ s2=.nx μ s3:=by
  refine eJ (bI ?_)
  rw [aK (v4 s2) (c8 (vs:=[]) (s1:=s2) rfl (by decide)),<-mG,eq_nil (aY H3.hq) (by rw [mG]; exact aP s2 _)]
  rfl
 have Rp:∀ (n:Nat) (c:Cell),s1[n]?=some c->s3[n]?=some c:=fun n c e=>by rw [mG,dk]; exact aB (aB e _) _
 obtain ⟨s4,E4,fd⟩:=m7 m1 m4 lB sB dz V H3.hp H3.hq
 have H4:mH s4 h a b p q D (l::B):=H3.to E4.2
 have Gn:aa (ae 5) (aa (ae 4) aj) μ s3=.ok [.loc p,.loc q] s3:=d5 (v5 s3) (v4 s3)
 have head:∀ r,jk μ s3=r->eV [x0,some (.int (many:Int)),x2,x3,some (.loc q),some (.loc p),x6,x7,some (.loc h),none,none] s=r:=fun r er=>by
  unfold eV
  rw [au,Qg,ay]
  unfold lO
  rw [au,Mp,ay]
  unfold lM
  rw [au,Tu,ay,er]
 cases R with
 | none=>
  have Tv:v=.int 1:=hv
  obtain ⟨μ2,gH⟩:∃ μ2:MN.Env,μ2=[x0,some (.int (many:Int)),x2,x3,some (.loc q),some (.loc p),x6,x7,some (.loc h),some v,some .bD]:=⟨_,rfl⟩
  have Qh:aL 10 (ak PM.bA (aa (ae 5) (aa (ae 4) aj))) μ s3=.nx μ2 s4:=by
   rw [br (show ak PM.bA (aa (ae 5) (aa (ae 4) aj)) μ s3=.ok .bD s4 by rw [call_of Gn]; exact fd),hμ,gH]; rfl
  have w8:∀ s,ae 8 μ2 s=.ok (.loc h) s:=fun _=>by rw [gH]; rfl
  have w5:∀ s,ae 5 μ2 s=.ok (.loc p) s:=fun _=>by rw [gH]; rfl
  have w4:∀ s,ae 4 μ2 s=.ok (.loc q) s:=fun _=>by rw [gH]; rfl
  have Tw:bM (ag (CM false) (ae 10) (mC .bD)) μ2 s4=.ok true s4:=by rw [gH]; rfl
  have r1:ag e9 (ae 9) (mC (.int 1)) μ2 s4=.ok (.bl true) s4:=by
   rw [i8 (o:=1) (show ae 9 μ2 s4=.ok (.int 1) s4 by rw [gH,Tv]; rfl)]; rfl
  refine ⟨s4++[.lst [.loc p,.loc q]],head _ ?_⟩
  unfold jk
  rw [au,Qh,ay]
  unfold lK
  rw [au,gG Tw,cF,wb r1 (H4.eq (w8 s4) w5 w4),aT]
  rfl
 | some Q=>
  obtain ⟨k,hk,k0,Rq⟩:=hv
  obtain ⟨d,d0,Rr,ed⟩:=fd
  obtain ⟨sQ,lQ⟩:=sR Q rfl
  subst hk
  obtain ⟨μ2,gH⟩:∃ μ2:MN.Env,μ2=[x0,some (.int (many:Int)),x2,x3,some (.loc q),some (.loc p),x6,x7,some (.loc h),some (.loc k),some (.loc d)]:=⟨_,rfl⟩
  have Qh:aL 10 (ak PM.bA (aa (ae 5) (aa (ae 4) aj))) μ s3=.nx μ2 s4:=by
   rw [br (show ak PM.bA (aa (ae 5) (aa (ae 4) aj)) μ s3=.ok (.loc d) s4 by rw [call_of Gn]; exact ed),hμ,gH]; rfl
  have w8:∀ s,ae 8 μ2 s=.ok (.loc h) s:=fun _=>by rw [gH]; rfl
  have w5:∀ s,ae 5 μ2 s=.ok (.loc p) s:=fun _=>by rw [gH]; rfl
  have w4:∀ s,ae 4 μ2 s=.ok (.loc q) s:=fun _=>by rw [gH]; rfl
  have w9:∀ s,ae 9 μ2 s=.ok (.loc k) s:=fun _=>by rw [gH]; rfl
  have Qi:∀ s,ae 10 μ2 s=.ok (.loc d) s:=fun _=>by rw [gH]; rfl
  have w1:∀ s,ae 1 μ2 s=.ok (.int (many:Int)) s:=fun _=>by rw [gH]; rfl
  have Tx:fL (bM (ag (CM false) (ae 10) (mC .bD))) (aR (rF (ag e9 (ae 9) (mC (.int 1))) (ag e9 (ae 8) (bb (aa (ae 5) (aa (ae 4) aj)))))) bh μ2 s4=.nx μ2 s4:=eJ (by rw [gH]; rfl)
  have Mr:s4[k]?=some (.lst (Q.map tV)):=E4.2 _ _ (Rp _ _ Rq)
  have Tz:fL (fw (cQ (bM (ak PM.cV (aa (ae 9) (aa (ae 1) aj))))) (bM (ag iL (ae 9) (ae 10)))) (aR (mC (.bl false))) bh μ2 s4=.nx μ2 s4:=by
   refine eJ (BU (s1:=s4) (BV (bI ?_)) (bI ?_))
   ·rw [call_of (d5 (w9 s4) (w1 s4))]; exact zd Mr sQ m1
   ·rw [aK (w9 s4) (Qi s4)]; exact t_ (aY Mr) (aY Rr) (wc Q)
  obtain ⟨s5,Jk⟩:∃ s5,s5=s4.set k (.lst (Q.map tV++[.int 0])):=⟨_,rfl⟩
  have TB:cR (fH bX (ae 9) (aa (mC (.int 0)) aj)) μ2 s4=.nx μ2 s5:=by
   have arg:aa (mC (.int 0)) aj μ2 s4=.ok [.int 0] s4:=rfl
   rw [gk,jR,w9 s4,aw,oB Mr,arg,aw,t9,gL Mr (by rw [List.length_map,sizeLine_eq]; lia),aT,Jk]; rfl
  have CW:∀ {n:Nat} {c:Cell},s[n]?=some c->k≠n:=fun {n c} e=>by have:=kD e; lia
  have H5:mH s5 h a b p q D (l::B):=by rw [Jk]; exact H4.set (CW H.hh) (CW H.ha) (CW H.hb) (CW H.hp) (CW H.hq)
  have kd:k≠d:=by
   have:=kD (Rp _ _ Rq)
   lia
  have Ms:s5[d]?=some (.lst (Q.map tV)):=by rw [Jk]; exact fW Rr kd
  have TC:s5[k]?=some (.lst (Q.map tV++[.int 0])):=by rw [Jk]; exact get_set Mr
  obtain ⟨s6,E6,k6,l6,TF,e6⟩:=i9 m1 m4 lB sB dz sD V H5.ha H5.hb
  have Mt:fL (bM (ag iL (ak PM.aX (aa (ag aZ (ae 8) (mC (.int 0))) (aa (ag aZ (ae 8) (mC (.int 1))) aj))) (ae 10))) (aR (mC (.bl false))) bh μ2 s5=.nx μ2 s6:=by
   refine eJ (bI ?_)
   rw [aK (show ak PM.aX (aa (ag aZ (ae 8) (mC (.int 0))) (aa (ag aZ (ae 8) (mC (.int 1))) aj)) μ2 s5=.ok (.loc k6) s6 by rw [call_of (H5.args w8)]; exact e6) (Qi s6)]
   exact t_ (aY TF) (aY (E6.2 _ _ Ms)) (wc Q)
  have Rt:s6[k]?=some (.lst (Q.map tV++[.int 0])):=E6.2 _ _ TC
  have H6:mH s6 h a b p q D (l::B):=H5.to E6.2
  obtain ⟨s7,Qj⟩:∃ s7,s7=s6.set k (.lst []):=⟨_,rfl⟩
  have TH:cR (AX jL (ae 9)) μ2 s6=.nx μ2 s7:=by
   rw [gk,Im,w9 s6,aw,LG Rt,Be Rt,aT,Qj]; rfl
  have H7:mH s7 h a b p q D (l::B):=by rw [Qj]; exact H6.set (CW H.hh) (CW H.ha) (CW H.hb) (CW H.hp) (CW H.hq)
  have Qk:s7[d]?=some (.lst (Q.map tV)):=by rw [Qj]; exact fW (E6.2 _ _ Ms) kd
  obtain ⟨s8,E8,k8,l8,TJ,e8⟩:=i9 m1 m4 lB sB dz sD V H7.ha H7.hb
  have H8:mH s8 h a b p q D (l::B):=H7.to E8.2
  have r1:ag e9 (ak PM.aX (aa (ag aZ (ae 8) (mC (.int 0))) (aa (ag aZ (ae 8) (mC (.int 1))) aj))) (ae 10) μ2 s7=.ok (.bl true) s8:=by
   rw [aK (show ak PM.aX (aa (ag aZ (ae 8) (mC (.int 0))) (aa (ag aZ (ae 8) (mC (.int 1))) aj)) μ2 s7=.ok (.loc k8) s8 by rw [call_of (H7.args w8)]; exact e8) (Qi s8)]
   exact Bh (aY TJ) (aY (E8.2 _ _ Qk)) (wc Q)
  refine ⟨s8++[.lst [.loc p,.loc q]],head _ ?_⟩
  unfold jk
  rw [au,Qh,ay]
  unfold lK
  rw [au,Tx,ay]
  unfold qF
  rw [au,Tz,ay]
  unfold qE
  rw [au,TB,ay]
  unfold qD
  rw [au,Mt,ay]
  unfold qA
  rw [au,TH,ay]
  unfold qy
  rw [cF,wb r1 (H8.eq (w8 s8) w5 w4),aT]
  rfl
structure Mu (many:Nat) (D:List aA):Prop where
 s:dO many D
 hi:∀ t∈D,∀ e∈t.1,e<=7
 b:∀ t∈D,f_ 150 t.2
theorem sE {e:List Int} {m:Int} (h0:∀ x∈e,0<=x) (h1:∀ x∈e,x<=m) (hm:0<=m):∀ i,0<=gx e i/\gx e i<=m:=fun i=>by
 rcases Nat.lt_or_ge i e.length with h | h
 ·exact ⟨h0 _ (Cd h),h1 _ (Cd h)⟩
 ·unfold gx
  rw [List.getD_eq_getElem?_getD,List.getElem?_eq_none h]
  exact ⟨Int.le_refl _,hm⟩
theorem lS {k:Nat} {x b:Int} (h:-b<=x/\x<=b) (hb:b<2 ^ k):f_ k x:=by
 show x.natAbs<2 ^ k
 have:(2:Int) ^ k=((2 ^ k:Nat):Int):=by rw [Int.natCast_pow]; rfl
 lia
theorem Cs {many:Nat} {B:List aA} {l:aA} {D Q:List aA} {R:Option (List aA)} (V:Dv many B l D Q R):∀ Q',R=some Q'->dO many Q'/\Q'.length<=15625200:=by
 induction V with
 | done h=>intro Q' e; cases e; exact ⟨h.sQ,h.lQ⟩
 | stop h n=>intro Q' e; cases e
 | more h n m k ih=>exact ih
theorem Ct {s:ah} {p q many:Nat} {B D:List aA} {x0 x2 x3 x6 x7:Option Val} (m1:1<=many) (m4:many<=4) (dB:CT many 3 5 B) (dD:Mu many D) (hp:s[p]?=some (.lst (D.map tV))) (hq:s[q]?=some (.lst (B.map tV))) :
  ∃ ar,lP [x0,some (.int (many:Int)),x2,x3,some (.loc q),some (.loc p),x6,x7,none,none,none] s=.rt (.bl true) ar:=by
 obtain ⟨s1,cH⟩:∃ s1,s1=s++[Cell.lst (D.map tV)]:=⟨_,rfl⟩
 obtain ⟨s2,dk⟩:∃ s2,s2=s1++[Cell.lst (B.map tV)]:=⟨_,rfl⟩
 obtain ⟨s3,mG⟩:∃ s3,s3=s2++[Cell.lst [Val.loc s.length,.loc s1.length]]:=⟨_,rfl⟩
 have TK:aL 8 (bb (aa (ak pG (aa (ae 5) aj)) (aa (ak pG (aa (ae 4) aj)) aj))) [x0,some (.int (many:Int)),x2,x3,some (.loc q),some (.loc p),x6,x7,none,none,none] s=.nx [x0,some (.int (many:Int)),x2,x3,some (.loc q),some (.loc p),x6,x7,some (.loc s2.length),none,none] s3:=by
  have a1:ak pG (aa (ae 5) aj) [x0,some (.int (many:Int)),x2,x3,some (.loc q),some (.loc p),x6,x7,none,none,none] s=.ok (.loc s.length) s1:=by
   rw [call_of (d4 (v:=.loc p) (s1:=s) rfl),xr (aY hp),cH]
  have a2:ak pG (aa (ae 4) aj) [x0,some (.int (many:Int)),x2,x3,some (.loc q),some (.loc p),x6,x7,none,none,none] s1=.ok (.loc s1.length) s2:=by
   rw [call_of (d4 (v:=.loc q) (s1:=s1) rfl),xr (aY (by rw [cH]; exact aB hq _)),dk]
  rw [br (c8 (d5 a1 a2) (by show 2<=1000; decide)),<-mG]
  rfl
 have o3:∀ {n:Nat} {c:Cell},s[n]?=some c->s3[n]?=some c:=fun {n c} e=>by rw [mG,dk,cH]; exact aB (aB (aB e _) _) _
 have H:mH s3 s2.length s.length s1.length p q D B:=⟨by rw [mG]; exact eR s2 _,by rw [mG,dk,cH]; exact aB (aB (eR s _) _) _,by rw [mG,dk]; exact aB (eR s1 _) _,o3 hp,o3 hq⟩
 have fin:∃ ar,eV [x0,some (.int (many:Int)),x2,x3,some (.loc q),some (.loc p),x6,x7,some (.loc s2.length),none,none] s3=.rt (.bl true) ar:=by
  cases B with
  | nil=>exact wy H
  | cons l B=>
   have C:CS many l B D:=by
    refine ⟨m1,m4,dB.s,fun b hb=>sE (dB.s.nn b hb) (dB.hi b hb) (by decide),by have:=dB.l; rw [List.length_cons] at this; lia,fun b hb=>lS (dB.b b hb) (by decide),fun k=>?_,bE dD.s.iI⟩
    by_cases m:k∈D.map (·.1)
    ·obtain ⟨t,ht,e⟩:=List.mem_map.mp m
     rw [<-e,fI (bE dD.s.iI) ht]
     exact dD.b t ht
    ·rw [eZ m]; exact oZ _
   have I:Div many l B D D []:=⟨dD.s,fun t ht=>su.of (sE (dD.s.nn t ht) (dD.hi t ht) (by decide)),fun s h=>(by cases h),fun s h=>(by cases h),fun s h=>(by cases h),fun s h=>(by cases h),List.Pairwise.nil,fun s h=>(by cases h),fun f=>by show bJ f D+0=_; lia,fun s h=>(by cases h)⟩
   obtain ⟨R,V⟩:=Mb C 15625200 D [] I fun t r e=>((I.rD t (by rw [e]; exact List.mem_cons_self)).code).2
   exact Fo m1 m4 (by have:=C.lB; lia) dB.s (Dz.of (dB.s.nz l List.mem_cons_self) (C.nB l List.mem_cons_self) (by decide)) dD.s V (Cs V) H
 obtain ⟨ar,e⟩:=fin
 refine ⟨ar,?_⟩
 unfold lP
 rw [au,TK,ay,e]
theorem i_ {ns:List Int} {s:ah} {k:Int} (hi:itemsOf s 0=some (ns.map Val.int)) (k0:0<=k) (k1:k<=1000):∃ o,∀ r:MN.Env,ak PM.aE (aa (ae 0) (aa (mC (.int k)) aj)) (some (.loc 0)::r) s=.ok (.int o) s:=by
 obtain ⟨o,e⟩:=BK hi k0 k1
 exact ⟨o,fun r=>by rw [call_of (d5 (v:=.loc 0) (s1:=s) rfl (w:=.int k) (s2:=s) rfl)]; exact e⟩
theorem Mv {ns:List Int} {s:ah} {p q many:Nat} {B D:List aA} {x2 x3 x6 x7:Option Val} (hi:itemsOf s 0=some (ns.map Val.int)) (m1:1<=many) (m4:many<=4) (dB:CT many 3 5 B) (dD:Mu many D) (hp:s[p]?=some (.lst (D.map tV))) (hq:s[q]?=some (.lst (B.map tV))) :
  ∃ ar,kC [some (.loc 0),some (.int (many:Int)),x2,x3,some (.loc q),some (.loc p),x6,x7,none,none,none] s=.rt (.bl true) ar:=by
 obtain ⟨o,eo⟩:=i_ (k:=1) hi (by decide) (by decide)
 obtain ⟨μ,hμ⟩:∃ μ:MN.Env,μ=[some (.loc 0),some (.int (many:Int)),x2,x3,some (.loc q),some (.loc p),x6,x7,none,none,none]:=⟨_,rfl⟩
 have sA:bM (ag e9 (ag bR (ag cL (ak PM.aE (aa (ae 0) (aa (mC (.int 1)) aj))) (mC (.int 36))) (mC (.int 8))) (mC (.int 1))) μ s=.ok ((o.fdiv 36).fmod 8==1) s:=
  bI (i8 (i7 (oO (by rw [hμ]; exact eo _) (vY (by decide) (by decide))) (by decide)))
 unfold kC
 rw [<-hμ,au]
 cases hb:((o.fdiv 36).fmod 8==1) with
 | false=>
  rw [hb] at sA
  rw [eJ sA,ay,hμ]
  exact Ct m1 m4 dB dD hp hq
 | true=>
  rw [hb] at sA
  obtain ⟨s1,cH⟩:∃ s1,s1=s++[Cell.lst []]:=⟨_,rfl⟩
  have f:aL 4 (bb aj) μ s=.nx [some (.loc 0),some (.int (many:Int)),x2,x3,some (.loc s.length),some (.loc p),x6,x7,none,none,none] s1:=by
   rw [br (c8 (vs:=[]) (s1:=s) rfl (by decide)),cH,hμ]; rfl
  rw [gG sA,f,ay]
  exact Ct (B:=[]) m1 m4 ⟨⟨List.Pairwise.nil,fun t h=>(by cases h),fun t h=>(by cases h),fun t h=>(by cases h)⟩,fun t h=>(by cases h),Nat.zero_le _,fun t h=>(by cases h)⟩ dD (by rw [cH]; exact aB hp _) (by rw [cH]; exact eR s _)
structure JS (many:Nat) (D:List aA):Prop where
 s:dO many D
 hi:∀ t∈D,∀ e∈t.1,e<=7
 l:D.length<=25
 b:∀ t∈D,-(625*10 ^ 40)<=t.2/\t.2<=625*10 ^ 40
theorem JS.to {many:Nat} {D:List aA} (h:JS many D):Mu many D:=⟨h.s,h.hi,fun t ht=>lS (h.b t ht) (by decide)⟩
structure Gd (many:Nat) (t:aA):Prop where
 l:t.1.length=many
 n:∀ e∈t.1,0<=e
 hi:∀ e∈t.1,e<=7
 b:-(625*10 ^ 40)<=t.2/\t.2<=625*10 ^ 40
theorem sF {many:Nat} {D X:List aA} (h:JS many D) (hX:∀ t∈X,Gd many t) (lX:X.length<=1):Mu many (ir 0 (D++X)):=by
 have g:∀ t∈D++X,Gd many t:=fun t ht=>by
  rcases List.mem_append.mp ht with ht | ht
  ·exact ⟨h.s.len t ht,h.s.nn t ht,h.hi t ht,h.b t ht⟩
  ·exact hX t ht
 refine ⟨wk fun t ht=>⟨(g t ht).l,(g t ht).n⟩,fun t ht=>?_,fun t ht=>?_⟩
 ·obtain ⟨q,hq,e⟩:=List.mem_map.mp (iz ht).1
  rw [<-e]; exact (g q hq).hi
 ·have b:=o4 (B:=625*10 ^ 40) (by decide) (fun t ht=>(g t ht).b) t ht
  have l:((D++X).length:Int)<=26:=by
   rw [List.length_append]
   have:=h.l
   lia
  have l0:(0:Int)<=((D++X).length:Int):=Int.natCast_nonneg _
  exact lS (b:=26*(625*10 ^ 40)) (by lia) (by decide)
theorem o8 {many p x:Nat} {s:ah} {D X:List aA} (m1:1<=many) (h:JS many D) (hX:∀ t∈X,Gd many t) (lX:X.length<=1) (hp:s[p]?=some (.lst (D.map tV))) (hx:s[x]?=some (.lst (X.map tV))) :
  ∃ k s',PM.bo [.loc p,.loc x] s=.ok (.loc k) s'/\pM s s' k (ir 0 (D++X)):=
 mF hp hx (fun t ht=>by
  rcases List.mem_append.mp ht with ht | ht
  ·exact jV m1 (h.s.len t ht)
  ·exact jV m1 (hX t ht).l) (by have:=h.l; lia)
theorem Mw {ns:List Int} {s:ah} {p q many:Nat} {B D:List aA} {kind w:Int} {x3:Option Val} (hi:itemsOf s 0=some (ns.map Val.int)) (m1:1<=many) (m4:many<=4) (dB:CT many 3 5 B) (dD:JS many D) (hp:s[p]?=some (.lst (D.map tV))) (hq:s[q]?=some (.lst (B.map tV))) :
  ∃ ar,fU [some (.loc 0),some (.int (many:Int)),some (.int kind),x3,some (.loc q),some (.loc p),some (.int w),none,none,none,none] s=.rt (.bl true) ar:=by
 obtain ⟨μ,hμ⟩:∃ μ:MN.Env,μ=[some (.loc 0),some (.int (many:Int)),some (.int kind),x3,some (.loc q),some (.loc p),some (.int w),none,none,none,none]:=⟨_,rfl⟩
 have v6:∀ s,ae 6 μ s=.ok (.int w) s:=fun _=>by rw [hμ]; rfl
 have v5:∀ s,ae 5 μ s=.ok (.loc p) s:=fun _=>by rw [hμ]; rfl
 have v1:∀ s,ae 1 μ s=.ok (.int (many:Int)) s:=fun _=>by rw [hμ]; rfl
 have v2:∀ s,ae 2 μ s=.ok (.int kind) s:=fun _=>by rw [hμ]; rfl
 have t:∀ (j:Int) s,bM (ag e9 (ae 6) (mC (.int j))) μ s=.ok (w==j) s:=fun j s=>bI (i8 (v6 s))
 -- xT ends
 have Cu:∀ {s':ah} {k:Nat} {D':List aA} {x7:Option Val},(∃ g,s'=s++g)->s'[k]?=some (.lst (D'.map tV))->Mu many D'->∃ ar,kC [some (.loc 0),some (.int (many:Int)),some (.int kind),x3,some (.loc q),some (.loc k),some (.int w),x7,none,none,none] s'=.rt (.bl true) ar:=by
  rintro s' k D' x7 ⟨g,rfl⟩ hk hD
  exact Mv (bN hi g) m1 m4 dB hD hk (aB hq g)
 obtain ⟨o,eo⟩:=i_ (k:=4) hi (by decide) (by decide)
 by_cases w1:w=1
 ·-- a drawn term more
  obtain ⟨x,s1,X,ex,N,dX⟩:=iA (cell:=o) (terms:=1) (power:=7) (kind:=kind) m1 m4 (by decide) (by decide) (by decide) s
  have gX:∀ t∈X,Gd many t:=fun t ht=>by
   have b:=dX.b t ht
   refine ⟨dX.s.len t ht,dX.s.nn t ht,dX.hi t ht,?_⟩
   have:((Int.toNat 1:Nat):Int)=1:=rfl
   rw [this] at b
   lia
  obtain ⟨k,s2,e2,N2⟩:=o8 m1 dD gX dX.l (N.old hp) N.2.2
  have f6:fL (bM (ag e9 (ae 6) (mC (.int 1)))) (aL 5 (ak PM.bo (aa (ae 5) (aa (ak PM.aW (aa (ak PM.aE (aa (ae 0) (aa (mC (.int 4)) aj))) (aa (ae 1) (aa (mC (.int 1)) (aa (mC (.int 7)) (aa (ae 2) aj)))))) aj)))) bh μ s=.nx [some (.loc 0),some (.int (many:Int)),some (.int kind),x3,some (.loc q),some (.loc k),some (.int w),none,none,none,none] s2:=by
   have a:aa (ak PM.aE (aa (ae 0) (aa (mC (.int 4)) aj))) (aa (ae 1) (aa (mC (.int 1)) (aa (mC (.int 7)) (aa (ae 2) aj)))) μ s=.ok [.int o,.int (many:Int),.int 1,.int 7,.int kind] s:=
    jC (by rw [hμ]; exact eo _) (jC (v1 s) (jC (v:=.int 1) (s1:=s) rfl (d5 (v:=.int 7) (s1:=s) rfl (v2 s))))
   have c:ak PM.aW (aa (ak PM.aE (aa (ae 0) (aa (mC (.int 4)) aj))) (aa (ae 1) (aa (mC (.int 1)) (aa (mC (.int 7)) (aa (ae 2) aj))))) μ s=.ok (.loc x) s1:=by
    rw [call_of a]; exact ex
   rw [gG (by rw [t,w1]; rfl),br (show ak PM.bo _ μ s=.ok (.loc k) s2 by rw [call_of (d5 (v5 s) c)]; exact e2),hμ]
   rfl
  obtain ⟨⟨g1,O0⟩,_⟩:=id N
  obtain ⟨⟨g2,O1⟩,_⟩:=id N2
  obtain ⟨ar,ee⟩:=Cu (x7:=none) ⟨g1++g2,by rw [O1,O0,List.append_assoc]⟩ N2.2.2 (sF dD gX dX.l)
  refine ⟨ar,?_⟩
  unfold fU
  rw [<-hμ,au,f6,ay]
  unfold gR
  have u6:∀ s,ae 6 [some (.loc 0),some (.int (many:Int)),some (.int kind),x3,some (.loc q),some (.loc k),some (.int w),none,none,none,none] s=.ok (.int w) s:=fun _=>rfl
  rw [au,eJ (t:=kg _ _) (s1:=s2) (by rw [rV,bI (i8 (u6 s2)),aw,w1]; rfl),ay]
  unfold gQ
  rw [au,eJ (s1:=s2) (by rw [bI (i8 (u6 s2)),w1]; rfl),ay,ee]
 ·have f6:=eJ (B:=aL 5 (ak PM.bo (aa (ae 5) (aa (ak PM.aW (aa (ak PM.aE (aa (ae 0) (aa (mC (.int 4)) aj))) (aa (ae 1) (aa (mC (.int 1)) (aa (mC (.int 7)) (aa (ae 2) aj)))))) aj)))) (show bM (ag e9 (ae 6) (mC (.int 1))) μ s=.ok false s by rw [t,show (w==1)=false by simpa using w1])
  obtain ⟨s1,cH⟩:∃ s1,s1=s++[Cell.lst []]:=⟨_,rfl⟩
  have zu:s1[p]?=some (.lst (D.map tV)):=by rw [cH]; exact aB hp _
  have nD:bM (ag iL (ae 5) (bb aj)) μ s=.ok (!D.isEmpty) s1:=by
   refine bI ?_
   rw [aK (v5 s) (c8 (vs:=[]) (s1:=s) rfl (by decide)),<-cH,ne_nil (aY zu) (by rw [cH]; exact aP s _)]
   cases D <;> rfl
  by_cases w2:w=2
  ·have Ru:∀ (x5 x7:Option Val) (s:ah),fL (bM (ag e9 (ae 6) (mC (.int 3)))) (aL 5 (ak PM.bo (aa (ae 5) (aa (bb (aa (d8 (aa (ak ff (aa (ag cw (bb (aa (mC (.int 0)) aj)) (ae 1)) aj)) (aa (ag cb (mC (.int 1)) (ag bR (ak PM.aE (aa (ae 0) (aa (mC (.int 4)) aj))) (mC (.int 9)))) aj))) aj)) aj)))) bh [some (.loc 0),some (.int (many:Int)),some (.int kind),x3,some (.loc q),x5,some (.int w),x7,none,none,none] s=.nx [some (.loc 0),some (.int (many:Int)),some (.int kind),x3,some (.loc q),x5,some (.int w),x7,none,none,none] s:=fun x5 x7 s=>eJ (by rw [bI (i8 (o:=w) (s1:=s) rfl),w2]; rfl)
   have an:kg (bM (ag e9 (ae 6) (mC (.int 2)))) (bM (ag iL (ae 5) (bb aj))) μ s=.ok (!D.isEmpty) s1:=by
    rw [rV,t,aw,w2]; exact nD
   cases D with
   | nil=>
    obtain ⟨ar,ee⟩:=Cu (x7:=none) ⟨_,cH⟩ zu dD.to
    refine ⟨ar,?_⟩
    unfold fU
    rw [<-hμ,au,f6,ay]
    unfold gR
    rw [au,eJ an,ay]
    unfold gQ
    rw [au,hμ,Ru,ay,ee]
   | cons d D=>
    obtain ⟨n,hn⟩:∃ n:Int,n=(((d::D).length:Nat):Int):=⟨_,rfl⟩
    have n0:0<n:=by rw [hn,List.length_cons]; lia
    obtain ⟨o1,TL⟩:=i_ (s:=s1) (k:=4) (by rw [cH]; exact bN hi _) (by decide) (by decide)
    have q4:=fV (m:=n) n0 o1
    obtain ⟨j,hj⟩:∃ j,j=o1.fmod n:=⟨_,rfl⟩
    rw [<-hj] at q4
    obtain ⟨μ7,Fp⟩:∃ μ7:MN.Env,μ7=[some (.loc 0),some (.int (many:Int)),some (.int kind),x3,some (.loc q),some (.loc p),some (.int w),some (.int j),none,none,none]:=⟨_,rfl⟩
    have g1:aL 7 (ag bR (ak PM.aE (aa (ae 0) (aa (mC (.int 4)) aj))) (ak dZ (aa (ae 5) aj))) μ s1=.nx μ7 s1:=by
     have e1:ak PM.aE (aa (ae 0) (aa (mC (.int 4)) aj)) μ s1=.ok (.int o1) s1:=by rw [hμ]; exact TL _
     have e2:ak dZ (aa (ae 5) aj) μ s1=.ok (.int n) s1:=by rw [call_of (d4 (v5 s1)),kq (aY zu),List.length_map,hn]
     rw [br (show ag bR _ _ μ s1=.ok (.int j) s1 by rw [aK e1 e2,hj]; exact dI (by lia)),hμ,Fp]
     rfl
    obtain ⟨v,hv,ev⟩:=pick (i:=j) (aY zu) q4.1 (by rw [List.length_map,<-hn]; exact q4.2)
    obtain ⟨u,hu,rfl⟩:=List.mem_map.mp hv
    obtain ⟨s2,dk⟩:∃ s2,s2=s1++[Cell.lst ([((u.1,1):aA)].map tV)]:=⟨_,rfl⟩
    have gX:∀ t∈[((u.1,1):aA)],Gd many t:=fun t ht=>by
     rw [List.mem_singleton.mp ht]
     exact ⟨dD.s.len u hu,dD.s.nn u hu,dD.hi u hu,by show -(625*10 ^ 40)<=(1:Int)/\(1:Int)<=625*10 ^ 40; decide⟩
    obtain ⟨k,s3,e3,N3⟩:=o8 (s:=s2) (x:=s1.length) m1 dD gX (Nat.le_refl _) (by rw [dk]; exact aB zu _) (by rw [dk]; exact eR s1 _)
    have g2:aL 5 (ak PM.bo (aa (ae 5) (aa (bb (aa (d8 (aa (ag aZ (ag aZ (ae 5) (ae 7)) (mC (.int 0))) (aa (mC (.int 1)) aj))) aj)) aj))) μ7 s1=.nx [some (.loc 0),some (.int (many:Int)),some (.int kind),x3,some (.loc q),some (.loc k),some (.int w),some (.int j),none,none,none] s3:=by
     have w5:∀ s,ae 5 μ7 s=.ok (.loc p) s:=fun _=>by rw [Fp]; rfl
     have w7:∀ s,ae 7 μ7 s=.ok (.int j) s:=fun _=>by rw [Fp]; rfl
     have i1:ag aZ (ae 5) (ae 7) μ7 s1=.ok (tV u) s1:=by rw [aK (w5 s1) (w7 s1)]; exact ev
     have i2:ag aZ (ag aZ (ae 5) (ae 7)) (mC (.int 0)) μ7 s1=.ok (tupI u.1) s1:=by rw [aK i1 (y:=.int 0) (s2:=s1) rfl]; rfl
     have l:bb (aa (d8 (aa (ag aZ (ag aZ (ae 5) (ae 7)) (mC (.int 0))) (aa (mC (.int 1)) aj))) aj) μ7 s1=.ok (.loc s1.length) s2:=by
      rw [c8 (d4 (lR (d5 i2 (w:=.int 1) (s2:=s1) rfl) (by show 2<=1000; decide))) (by show 1<=1000; decide),dk]; rfl
     rw [br (show ak PM.bo _ μ7 s1=.ok (.loc k) s3 by rw [call_of (d5 (w5 s1) l)]; exact e3),Fp]
     rfl
    obtain ⟨⟨g3,Ql⟩,_⟩:=id N3
    obtain ⟨ar,ee⟩:=Cu (x7:=some (.int j)) ⟨[Cell.lst [],Cell.lst ([((u.1,1):aA)].map tV)]++g3,by rw [Ql,dk,cH]; simp only [List.append_assoc]; rfl⟩ N3.2.2 (sF dD gX (Nat.le_refl _))
    refine ⟨ar,?_⟩
    unfold fU
    rw [<-hμ,au,f6,ay]
    unfold gR
    rw [au,gG an,au,g1,ay,g2,ay]
    unfold gQ
    rw [au,Ru,ay,ee]
  ·have f7:fL (kg (bM (ag e9 (ae 6) (mC (.int 2)))) (bM (ag iL (ae 5) (bb aj)))) (aI (aL 7 (ag bR (ak PM.aE (aa (ae 0) (aa (mC (.int 4)) aj))) (ak dZ (aa (ae 5) aj)))) (aL 5 (ak PM.bo (aa (ae 5) (aa (bb (aa (d8 (aa (ag aZ (ag aZ (ae 5) (ae 7)) (mC (.int 0))) (aa (mC (.int 1)) aj))) aj)) aj))))) bh μ s=.nx μ s:=eJ (by rw [rV,t,aw,show (w==2)=false by simpa using w2]; rfl)
   by_cases w3:w=3
   ·obtain ⟨sa,Mx⟩:∃ sa,sa=s++[Cell.lst [Val.int 0]]:=⟨_,rfl⟩
    obtain ⟨sb,My⟩:∃ sb,sb=sa++[Cell.lst ((zE many).map Val.int)]:=⟨_,rfl⟩
    obtain ⟨o2,TM⟩:=i_ (s:=sb) (k:=4) (by rw [My,Mx]; exact bN (bN hi _) _) (by decide) (by decide)
    have q9:=fV (m:=9) (by decide) o2
    obtain ⟨c,hc⟩:∃ c,c=1+o2.fmod 9:=⟨_,rfl⟩
    obtain ⟨sc,Nx⟩:∃ sc,sc=sb++[Cell.lst ([((zE many,c):aA)].map tV)]:=⟨_,rfl⟩
    have gX:∀ t∈[((zE many,c):aA)],Gd many t:=fun t ht=>by
     rw [List.mem_singleton.mp ht]
     have z:∀ e∈zE many,e=0:=fun e he=>by unfold zE at he; exact (List.mem_replicate.mp he).2
     exact ⟨by show (zE many).length=many; unfold zE; exact List.length_replicate ..,fun e he=>by rw [z e he]; exact Int.le_refl _,fun e he=>by rw [z e he]; decide,by show -(625*10 ^ 40)<=c/\c<=625*10 ^ 40; lia⟩
    have TN:sb[p]?=some (.lst (D.map tV)):=by rw [My,Mx]; exact aB (aB hp _) _
    obtain ⟨k,s3,e3,N3⟩:=o8 (s:=sc) (x:=sb.length) m1 dD gX (Nat.le_refl _) (by rw [Nx]; exact aB TN _) (by rw [Nx]; exact eR sb _)
    have f8:fL (bM (ag e9 (ae 6) (mC (.int 3)))) (aL 5 (ak PM.bo (aa (ae 5) (aa (bb (aa (d8 (aa (ak ff (aa (ag cw (bb (aa (mC (.int 0)) aj)) (ae 1)) aj)) (aa (ag cb (mC (.int 1)) (ag bR (ak PM.aE (aa (ae 0) (aa (mC (.int 4)) aj))) (mC (.int 9)))) aj))) aj)) aj)))) bh μ s=.nx [some (.loc 0),some (.int (many:Int)),some (.int kind),x3,some (.loc q),some (.loc k),some (.int w),none,none,none,none] s3:=by
     have l0:bb (aa (mC (.int 0)) aj) μ s=.ok (.loc s.length) sa:=by rw [Mx]; exact c8 (d4 (v:=.int 0) (s1:=s) rfl) (by show 1<=1000; decide)
     have mu:ag cw (bb (aa (mC (.int 0)) aj)) (ae 1) μ s=.ok (.loc sa.length) sb:=by
      rw [aK l0 (v1 sa)]
      show (match sa[s.length]? with | some (.lst us)=>if -(2 ^ 63)<=(many:Int)/\(many:Int)<2 ^ 63/\us.length*(many:Int).toNat<=sizeLine then Res.ok (Val.loc sa.length) (sa++[Cell.lst (qb (many:Int).toNat us)]) else .bad | _=>.bad)=_
      rw [show sa[s.length]?=some (Cell.lst [Val.int 0]) by rw [Mx]; exact eR s _]
      dsimp only
      rw [if_pos ⟨by lia,by lia,by rw [Int.toNat_natCast,sizeLine_eq]; show 1*many<=_; lia⟩,Int.toNat_natCast,B0,My]
     have tu:ak ff (aa (ag cw (bb (aa (mC (.int 0)) aj)) (ae 1)) aj) μ s=.ok (tupI (zE many)) sb:=by
      rw [call_of (d4 mu),ik (by rw [My]; exact aP sa _)]; rfl
     have ad:ag cb (mC (.int 1)) (ag bR (ak PM.aE (aa (ae 0) (aa (mC (.int 4)) aj))) (mC (.int 9))) μ sb=.ok (.int c) sb:=by
      rw [aK (x:=.int 1) (s1:=sb) rfl (i7 (j:=9) (show ak PM.aE _ μ sb=.ok (.int o2) sb by rw [hμ]; exact TM _) (by decide)),hc]; rfl
     have l:bb (aa (d8 (aa (ak ff (aa (ag cw (bb (aa (mC (.int 0)) aj)) (ae 1)) aj)) (aa (ag cb (mC (.int 1)) (ag bR (ak PM.aE (aa (ae 0) (aa (mC (.int 4)) aj))) (mC (.int 9)))) aj))) aj) μ s=.ok (.loc sb.length) sc:=by
      rw [c8 (d4 (lR (d5 tu ad) (by show 2<=1000; decide))) (by show 1<=1000; decide),Nx]; rfl
     rw [gG (by rw [t,w3]; rfl),br (show ak PM.bo _ μ s=.ok (.loc k) s3 by rw [call_of (d5 (v5 s) l)]; exact e3),hμ]
     rfl
    obtain ⟨⟨g3,Ql⟩,_⟩:=id N3
    obtain ⟨ar,ee⟩:=Cu (x7:=none) ⟨[Cell.lst [Val.int 0],Cell.lst ((zE many).map Val.int),Cell.lst ([((zE many,c):aA)].map tV)]++g3,by rw [Ql,Nx,My,Mx]; simp only [List.append_assoc]; rfl⟩ N3.2.2 (sF dD gX (Nat.le_refl _))
    refine ⟨ar,?_⟩
    unfold fU
    rw [<-hμ,au,f6,ay]
    unfold gR
    rw [au,f7,ay]
    unfold gQ
    rw [au,f8,ay,ee]
   ·obtain ⟨ar,ee⟩:=Cu (x7:=none) ⟨[],(List.append_nil s).symm⟩ hp dD.to
    refine ⟨ar,?_⟩
    unfold fU
    rw [<-hμ,au,f6,ay]
    unfold gR
    rw [au,f7,ay]
    unfold gQ
    rw [au,eJ (by rw [t,show (w==3)=false by simpa using w3]),ay,hμ,ee]
theorem uO {many n m:Nat} {p:Int} {D:List aA} (h:CT many p n D) (hn:n<=m):CT many p m D:=⟨h.s,h.hi,Nat.le_trans h.l hn,fun t ht=>by
 have b:=h.b t ht
 have e:(n:Int)*10 ^ 20<=(m:Int)*10 ^ 20:=Int.mul_le_mul_of_nonneg_right (by lia) (by decide)
 lia⟩
theorem Cv {many:Nat} {A B:List aA} (hA:CT many 3 5 A) (hB:CT many 3 5 B):JS many (ir 0 (eB A B)):=by
 have g:∀ t∈eB A B,t.1.length=many/\(∀ e∈t.1,0<=e)/\(∀ e∈t.1,e<=7)/\-(25*10 ^ 40)<=t.2/\t.2<=25*10 ^ 40:=fun t ht=>by
  obtain ⟨a,ha,b,hb,rfl⟩:=oR ht
  have la:=hA.s.len a ha
  have lb:=hB.s.len b hb
  have ga:=sE (hA.s.nn a ha) (hA.hi a ha) (by decide)
  have gb:=sE (hB.s.nn b hb) (hB.hi b hb) (by decide)
  refine ⟨gS la lb,fun e he=>?_,fun e he=>?_,?_⟩
  ·obtain ⟨i,hi⟩:=sv he
   rw [<-hi,fJ i (by rw [la,lb])]
   have:=ga i; have:=gb i; lia
  ·obtain ⟨i,hi⟩:=sv he
   rw [<-hi,fJ i (by rw [la,lb])]
   have:=ga i; have:=gb i; lia
  ·have xa:=hA.b a ha
   have xb:=hB.b b hb
   have ab:(a.2*b.2).natAbs<=(5*10 ^ 20)*(5*10 ^ 20):=by
    rw [Int.natAbs_mul]
    exact Nat.mul_le_mul (by lia) (by lia)
   show -(25*10 ^ 40)<=a.2*b.2/\a.2*b.2<=25*10 ^ 40
   lia
 have lp:(eB A B).length<=25:=by
  rw [kF]
  exact Nat.mul_le_mul hA.l hB.l
 refine ⟨wk fun t ht=>⟨(g t ht).1,(g t ht).2.1⟩,fun t ht=>?_,Nat.le_trans (wg _) lp,fun t ht=>?_⟩
 ·obtain ⟨q,hq,e⟩:=List.mem_map.mp (iz ht).1
  rw [<-e]; exact (g q hq).2.2.1
 ·have b:=o4 (B:=25*10 ^ 40) (by decide) (fun t ht=>(g t ht).2.2.2) t ht
  have l0:(0:Int)<=((eB A B).length:Int):=Int.natCast_nonneg _
  lia
theorem Cw (c:Cell) (ns:List Int) (hl:ns.length<=63) (hi:itemsOf [c] 0=some (ns.map Val.int)):∃ ar,BI [.loc 0] [c]=.ok (.bl true) ar:=by
  obtain ⟨s,hs⟩:∃ s:ah,s=[c]:=⟨_,rfl⟩
  rw [<-hs] at hi ⊢
  obtain ⟨o0,e0⟩:=i_ (k:=0) hi (by decide) (by decide)
  obtain ⟨o1,e1⟩:=i_ (k:=1) hi (by decide) (by decide)
  obtain ⟨o2,e2⟩:=i_ (k:=2) hi (by decide) (by decide)
  have q0:=fV (m:=4) (by decide) o0
  obtain ⟨many,hm⟩:∃ many:Nat,(many:Int)=1+o0.fmod 4:=⟨(1+o0.fmod 4).toNat,by lia⟩
  have m1:1<=many:=by lia
  have m4:many<=4:=by lia
  obtain ⟨kind,hk⟩:∃ kind,kind=o1.fmod 3:=⟨_,rfl⟩
  have f0:aL 1 (ag cb (mC (.int 1)) (ag bR (ak PM.aE (aa (ae 0) (aa (mC (.int 0)) aj))) (mC (.int 4)))) [some (.loc 0),none,none,none,none,none,none,none,none,none,none] s=.nx [some (.loc 0),some (.int (many:Int)),none,none,none,none,none,none,none,none,none] s:=by
    rw [br (show ag cb _ _ _ s=.ok (.int (many:Int)) s by rw [aK (x:=.int 1) (s1:=s) rfl (i7 (j:=4) (e0 _) (by decide)),hm]; rfl)]
    rfl
  have f1:aL 2 (ag bR (ak PM.aE (aa (ae 0) (aa (mC (.int 1)) aj))) (mC (.int 3))) [some (.loc 0),some (.int (many:Int)),none,none,none,none,none,none,none,none,none] s=.nx [some (.loc 0),some (.int (many:Int)),some (.int kind),none,none,none,none,none,none,none,none] s:=by
    rw [br (i7 (j:=3) (e1 _) (by decide)),<-hk]; rfl
  have q2:=fV (m:=6) (by decide) (o0.fdiv 4)
  obtain ⟨a,s1,A,ea,NA,dA⟩:=iA (cell:=o2) (terms:=(o0.fdiv 4).fmod 6) (power:=3) (kind:=kind) m1 m4 (by lia) (by lia) (by decide) s
  have Ny:CT many 3 5 A:=uO dA (by lia)
  have f2:aL 3 (ak PM.aW (aa (ak PM.aE (aa (ae 0) (aa (mC (.int 2)) aj))) (aa (ae 1) (aa (ag bR (ag cL (ak PM.aE (aa (ae 0) (aa (mC (.int 0)) aj))) (mC (.int 4))) (mC (.int 6))) (aa (mC (.int 3)) (aa (ae 2) aj)))))) [some (.loc 0),some (.int (many:Int)),some (.int kind),none,none,none,none,none,none,none,none] s=.nx [some (.loc 0),some (.int (many:Int)),some (.int kind),some (.loc a),none,none,none,none,none,none,none] s1:=by
    rw [br (show ak PM.aW _ _ s=.ok (.loc a) s1 by
      rw [call_of (jC (e2 _) (jC (v:=.int (many:Int)) (s1:=s) rfl (jC (i7 (j:=6) (oO (j:=4) (e0 _) (vY (by decide) (by decide))) (by decide)) (d5 (v:=.int 3) (s1:=s) rfl (w:=.int kind) (s2:=s) rfl))))]
      exact ea)]
    rfl
  have Nz:=NA.Fe hi
  obtain ⟨p0,u0⟩:=i_ (k:=0) Nz (by decide) (by decide)
  obtain ⟨p1,u1⟩:=i_ (k:=1) Nz (by decide) (by decide)
  obtain ⟨p3,u3⟩:=i_ (k:=3) Nz (by decide) (by decide)
  have q3:=fV (m:=6) (by decide) (p0.fdiv 24)
  obtain ⟨b,s2,B,eb,NB,dB⟩:=iA (cell:=p3) (terms:=(p0.fdiv 24).fmod 6) (power:=3) (kind:=(p1.fdiv 3).fmod 3) m1 m4 (by lia) (by lia) (by decide) s1
  have Mz:CT many 3 5 B:=uO dB (by lia)
  have f3:aL 4 (ak PM.aW (aa (ak PM.aE (aa (ae 0) (aa (mC (.int 3)) aj))) (aa (ae 1) (aa (ag bR (ag cL (ak PM.aE (aa (ae 0) (aa (mC (.int 0)) aj))) (mC (.int 24))) (mC (.int 6))) (aa (mC (.int 3)) (aa (ag bR (ag cL (ak PM.aE (aa (ae 0) (aa (mC (.int 1)) aj))) (mC (.int 3))) (mC (.int 3))) aj)))))) [some (.loc 0),some (.int (many:Int)),some (.int kind),some (.loc a),none,none,none,none,none,none,none] s1=.nx [some (.loc 0),some (.int (many:Int)),some (.int kind),some (.loc a),some (.loc b),none,none,none,none,none,none] s2:=by
    rw [br (show ak PM.aW _ _ s1=.ok (.loc b) s2 by
      rw [call_of (jC (u3 _) (jC (v:=.int (many:Int)) (s1:=s1) rfl (jC (i7 (j:=6) (oO (j:=24) (u0 _) (vY (by decide) (by decide))) (by decide)) (d5 (v:=.int 3) (s1:=s1) rfl (i7 (j:=3) (oO (j:=3) (u1 _) (vY (by decide) (by decide))) (by decide))))))]
      exact eb)]
    rfl
  have CO:=NB.Fe Nz
  have mo:∀ x∈A,∀ y∈B,MulOk x.2 y.2:=fun x hx y hy=>.inl ⟨Sz.of (k:=70) (lS (Ny.b x hx) (by decide)) (by decide),Sz.of (k:=70) (lS (Mz.b y hy) (by decide)) (by decide)⟩
  obtain ⟨r,s3,er,NR⟩:=kI (NB.Fe NA.it) NB.it m1 m4 Ny.s.len Mz.s.len mo (by have:=Nat.mul_le_mul Ny.l Mz.l; lia)
  have f4:aL 5 (ak PM.a9 (aa (ae 3) (aa (ae 4) aj))) [some (.loc 0),some (.int (many:Int)),some (.int kind),some (.loc a),some (.loc b),none,none,none,none,none,none] s2=.nx [some (.loc 0),some (.int (many:Int)),some (.int kind),some (.loc a),some (.loc b),some (.loc r),none,none,none,none,none] s3:=by
    rw [br (show ak PM.a9 _ _ s2=.ok (.loc r) s3 by rw [call_of (d5 (v:=.loc a) (s1:=s2) rfl (w:=.loc b) (s2:=s2) rfl)]; exact er)]
    rfl
  have Rv:=NR.Fe CO
  obtain ⟨z1,w1⟩:=i_ (k:=1) Rv (by decide) (by decide)
  have f5:aL 6 (ag bR (ag cL (ak PM.aE (aa (ae 0) (aa (mC (.int 1)) aj))) (mC (.int 9))) (mC (.int 4))) [some (.loc 0),some (.int (many:Int)),some (.int kind),some (.loc a),some (.loc b),some (.loc r),none,none,none,none,none] s3=.nx [some (.loc 0),some (.int (many:Int)),some (.int kind),some (.loc a),some (.loc b),some (.loc r),some (.int ((z1.fdiv 9).fmod 4)),none,none,none,none] s3:=by
    rw [br (i7 (j:=4) (oO (j:=9) (w1 _) (vY (by decide) (by decide))) (by decide))]; rfl
  obtain ⟨ar,ee⟩:=Mw (kind:=kind) (w:=(z1.fdiv 9).fmod 4) (x3:=some (.loc a)) Rv m1 m4 Mz (Cv Ny Mz) NR.2.2 (NR.old NB.2.2)
  refine ⟨ar,?_⟩
  unfold BI
  rw [dF (np:=1) (us:=[Val.loc 0]) rfl]
  show (aI _ oK [some (.loc 0),none,none,none,none,none,none,none,none,none,none] s).fin=_
  rw [au,f0,ay]
  unfold oK
  rw [au,f1,ay]
  unfold uC
  rw [au,f2,ay]
  unfold uB
  rw [au,f3,ay]
  unfold uA
  rw [au,f4,ay]
  unfold uz
  rw [au,f5,ay,ee]
  rfl
end EF
namespace EF
open PySem PySem.Spec L2 MN
open PyProof.Rows hiding St
noncomputable def top (i:Nat):Stmt:=PySem.Challenge.pw_polyring_k27_quotients.main.body.getD i (.Pass ⟨0,0,0,0⟩)
structure Txt (K:PySem.W.Frag) (mg:Str->Option Value):Prop where
 b:IV mg ["ValueError","all","bool","dict","int","isinstance","len","list","max","min","range","sorted","tuple","zip"]
 c:IW K mg ["AlgebraError","NoRing","NoPrime","NoInverse","NotWhole","NoUnknowns","NoTerm","NoCount","NoLead","NoOrder","NotWritten","ByNought","NoMeet","NoParts","NotPlain","NoSums"]
 sub:dH K mg tab
 qx:pI K mg EF.kn
theorem aM {X:Cx} {E:XK} {e:Expr} {m:ME} {i:Nat} {x:Str} {pos pos':Pos} (hN:X.N.Nodup) (he:PE X e (tE X E m)) (hi:X.N[i]?=some x:=by rfl) (hx:Loc X.env.scope x:=by first | exact Or.inl rfl | exact Or.inr rfl) (hs:swapsWith e (some (.Name x pos')) pos.line X.env=pure false:=by rfl) (hf:X.fn x=true\/X.env.scope.names.lookup x=some .local:=by first | exact .inl rfl | exact .inr rfl | assumption):PS X (.Assign [.Name x pos'] e pos) (tS X E (aL i m)):=rL i hN he hi hx hs hf
section
variable {P:Program} {w:World} {K:PySem.W.Frag} {mg:Str->Option Value} {base:Heap}
theorem kK:(["mine","theirs"]:List Str).Nodup:=by decide +kernel
theorem wz:bg ["one","other"] ["one","other"] (aC (top 18)):=⟨rfl,rfl,rfl,by decide +kernel,rfl,by decide +kernel,by decide +kernel⟩
theorem wA {f:Addr} {fd:FuncData} (F:j_ K "divides" "divides" (top 18) f fd) (hm:mg "divides" = some (.ref f)) (T:Txt K mg) :FnAt P w K mg base "divides" 1 PM.dS:=
 FnAt.mk F hm wz (fun _ _ _ _ _ _=>km fun _ _=>rfl) fun cU A outer s H E hr=>
  by
   refine aJ ?_
   refine bj ?_
   refine dc ?_ (by rfl) T.b.2.1 PyProof.Rows.boot_all ?_
   ·exact (yy hr.hd)
   refine ai ?_ aq
   refine gj (N:=["mine","theirs"]) (k:=2) rfl rfl (tW (cl:=[]) (caps:=[]) (by rfl) .nil (by rfl) (by rfl) (by rfl) (by rfl) (by rfl) (by rfl)) ?_ (fun _ _ _ _=>?_) (fun _ _ _ _=>hZ) (fun _ _ _ _=>?_)
   ·refine vq false false (by rfl) T.b.2.2.2.2.2.2.2.2.2.2.2.2.2.1 ?_
    refine ai (af 0) ?_
    exact (ai (af 1) aq)
   ·refine jI rfl ?_
    refine cy (bG 0 kK) ?_
    exact (cy (bG 1 kK) hU)
   refine Av ?_ (af 0) (af 1)
   exact HJ
theorem qQ:(["mine","theirs"]:List Str).Nodup:=by decide +kernel
theorem Fq:bg ["one","other"] ["one","other"] (aC (top 19)):=⟨rfl,rfl,rfl,by decide +kernel,rfl,by decide +kernel,by decide +kernel⟩
theorem Fs {f:Addr} {fd:FuncData} (F:j_ K "less" "less" (top 19) f fd) (hm:mg "less" = some (.ref f)) (T:Txt K mg) :FnAt P w K mg base "less" 1 PM.gn:=
 FnAt.mk F hm Fq (fun _ _ _ _ _ _=>km fun _ _=>rfl) fun cU A outer s H E hr=>
  by
   refine aJ ?_
   refine bj ?_
   refine dq ?_ (by rfl) T.b.2.2.2.2.2.2.2.2.2.2.2.2.1 PyProof.Rows.boot_tuple ?_
   ·exact fM
   refine ai ?_ aq
   refine gj (N:=["mine","theirs"]) (k:=2) rfl rfl (tW (cl:=[]) (caps:=[]) (by rfl) .nil (by rfl) (by rfl) (by rfl) (by rfl) (by rfl) (by rfl)) ?_ (fun _ _ _ _=>?_) (fun _ _ _ _=>hZ) (fun _ _ _ _=>?_)
   ·refine vq false false (by rfl) T.b.2.2.2.2.2.2.2.2.2.2.2.2.2.1 ?_
    refine ai (af 0) ?_
    exact (ai (af 1) aq)
   ·refine jI rfl ?_
    refine cy (bG 0 qQ) ?_
    exact (cy (bG 1 qQ) hU)
   exact (lJ (af 0) (af 1))
theorem mI:(["one","other"]:List Str).Nodup:=by decide +kernel
theorem zx:bg ["exponents","others"] ["exponents","others"] (aC (top 21)):=⟨rfl,rfl,rfl,by decide +kernel,rfl,by decide +kernel,by decide +kernel⟩
theorem zy {f:Addr} {fd:FuncData} (F:j_ K "joined" "joined" (top 21) f fd) (hm:mg "joined" = some (.ref f)) (T:Txt K mg) :FnAt P w K mg base "joined" 1 PM.joined:=
 FnAt.mk F hm zx (fun _ _ _ _ _ _=>km fun _ _=>rfl) fun cU A outer s H E hr=>
  by
   refine aJ ?_
   refine bj ?_
   refine dq ?_ (by rfl) T.b.2.2.2.2.2.2.2.2.2.2.2.2.1 PyProof.Rows.boot_tuple ?_
   ·exact fM
   refine ai ?_ aq
   refine gj (N:=["one","other"]) (k:=2) rfl rfl (tW (cl:=[]) (caps:=[]) (by rfl) .nil (by rfl) (by rfl) (by rfl) (by rfl) (by rfl) (by rfl)) ?_ (fun _ _ _ _=>?_) (fun _ _ _ _=>hZ) (fun _ _ _ _=>?_)
   ·refine vq false false (by rfl) T.b.2.2.2.2.2.2.2.2.2.2.2.2.2.1 ?_
    refine ai (af 0) ?_
    exact (ai (af 1) aq)
   ·refine jI rfl ?_
    refine cy (bG 0 mI) ?_
    exact (cy (bG 1 mI) hU)
   exact (cB (af 0) (af 1))
theorem eg:bg ["_law_script","_law_k","_law_cell_here","_law_mark"] ["_law_script","_law_k"] (aC (top 27)):=⟨rfl,rfl,rfl,by decide +kernel,rfl,by decide +kernel,by decide +kernel⟩
theorem sG {f:Addr} {fd:FuncData} (F:j_ K "_law_cell" "_law_cell" (top 27) f fd) (hm:mg "_law_cell" = some (.ref f)) (T:Txt K mg) :FnAt P w K mg base "_law_cell" 1 PM.aE:=
 FnAt.mk F hm eg (fun _ _ _ _ _ _=>km fun _ _=>rfl) fun cU A outer s H E hr=>
  by
   refine ax (rL 2 eg.nd ao) ?_
   refine ax ?_ ?_
   ·refine dE ?_ ?_ cA
    ·refine BH (af 1) ?_
     refine dc ?_ (by rfl) T.b.2.2.2.2.2.2.1 PySem.boot_len ?_
     ·exact eO
     exact (ai (af 0) aq)
    refine aJ ?_
    refine aM ?_ ?_
    ·exact eg.nd
    exact (aN (af 0) (af 1))
   refine ax ?_ ?_
   ·refine aM ?_ ?_
    ·exact eg.nd
    refine bZ ?_ ao
    refine c6 ?_ ao
    refine cB ?_ ?_
    ·exact (bZ (af 2) ao)
    refine c6 ao ?_
    exact (cB (af 1) ao)
   refine ax ?_ ?_
   ·refine aM ?_ ?_
    ·exact eg.nd
    refine bZ ?_ ao
    refine c6 ?_ ao
    refine bZ ?_ ao
    exact (c6 (af 3) (af 3))
   refine aJ ?_
   refine bj ?_
   refine cB ?_ ?_
   ·refine c6 ?_ ao
    refine cB ?_ (af 3)
    refine c6 ?_ ao
    exact (iq (af 2) ao)
   refine bZ ?_ ao
   exact (c6 (af 3) (af 3))
theorem pN:bg ["_law_found"] ["_law_found"] (aC (top 28)):=⟨rfl,rfl,rfl,by decide +kernel,rfl,by decide +kernel,by decide +kernel⟩
theorem pO {f:Addr} {fd:FuncData} (F:j_ K "_law_whole" "_law_whole" (top 28) f fd) (hm:mg "_law_whole" = some (.ref f)) (T:Txt K mg) :FnAt P w K mg base "_law_whole" 1 PM.dY:=
 FnAt.mk F hm pN (fun _ _ _ _ _ _=>Eg fun _=>rfl) fun cU A outer s H E hr=>
  by
   refine aJ ?_
   refine bj ?_
   refine rH ?_ ?_
   ·exact (nZ AM (by rfl) T.b.2.2.2.2.2.1 (by rfl) T.b.2.2.2.2.1 PyProof.Rows.boot_int (af 0))
   refine rG ?_
   refine HG ?_
   exact (nZ yz (by rfl) T.b.2.2.2.2.2.1 (by rfl) T.b.2.2.1 PyProof.Rows.boot_bool (af 0))
theorem jD:bg ["_law_cell_here","_law_k","_law_mark"] ["_law_cell_here","_law_k"] (aC (top 29)):=⟨rfl,rfl,rfl,by decide +kernel,rfl,by decide +kernel,by decide +kernel⟩
theorem pP {f:Addr} {fd:FuncData} (F:j_ K "_law_mixed" "_law_mixed" (top 29) f fd) (hm:mg "_law_mixed" = some (.ref f)) (T:Txt K mg) :FnAt P w K mg base "_law_mixed" 1 PM.dw:=
 FnAt.mk F hm jD (fun _ _ _ _ _ _=>km fun _ _=>rfl) fun cU A outer s H E hr=>
  by
   refine ax ?_ ?_
   ·refine aM ?_ ?_
    ·exact jD.nd
    refine bZ ?_ ao
    refine c6 ?_ ao
    refine cB ?_ ao
    refine cB ?_ ?_
    ·exact (bZ (af 0) ao)
    exact (c6 ao (af 1))
   refine aJ ?_
   refine bj ?_
   refine bZ ?_ ao
   refine c6 (af 2) ?_
   refine cB ?_ ao
   refine bZ ?_ ao
   exact (iq (af 2) ao)
theorem o9:bg ["_law_cell_here","_law_kind"] ["_law_cell_here","_law_kind"] (aC (top 30)):=⟨rfl,rfl,rfl,by decide +kernel,rfl,by decide +kernel,by decide +kernel⟩
theorem o_ {f:Addr} {fd:FuncData} (F:j_ K "_law_number" "_law_number" (top 30) f fd) (hm:mg "_law_number" = some (.ref f)) (T:Txt K mg) :FnAt P w K mg base "_law_number" 1 PM.bw:=
 FnAt.mk F hm o9 (fun _ _ _ _ _ _=>km fun _ _=>rfl) fun cU A outer s H E hr=>
  by
   refine ax ?_ ?_
   ·refine dE ?_ ?_ cA
    ·exact (jA hr.units (af 1) ao)
    refine aJ ?_
    refine bj ?_
    refine lJ ?_ ao
    exact (bZ (af 0) ao)
   refine ax ?_ ?_
   ·refine dE ?_ ?_ cA
    ·exact (jA hr.units (af 1) ao)
    refine aJ ?_
    refine bj ?_
    refine lJ ?_ ao
    exact (bZ (af 0) ao)
   refine aJ ?_
   refine bj ?_
   refine lJ ?_ (BG ao ao)
   refine bZ ?_ ?_
   ·refine c6 ?_ ao
    exact (c6 (af 0) (af 0))
   refine cB ?_ ao
   exact (c6 ao (BG ao ao))
theorem sH:(["_law_exponents","_law_found"]:List Str).Nodup:=by decide +kernel
theorem gr:bg ["_law_pairs","_law_found","_law_exponents","_law_number_here"] ["_law_pairs"] (aC (top 31)):=⟨rfl,rfl,rfl,by decide +kernel,rfl,by decide +kernel,by decide +kernel⟩
theorem uP {f:Addr} {fd:FuncData} (F:j_ K "_law_sum" "_law_sum" (top 31) f fd) (hm:mg "_law_sum" = some (.ref f)) (T:Txt K mg) :FnAt P w K mg base "_law_sum" 1 PM.bT:=
 FnAt.mk F hm gr (fun _ _ _ _ _ _=>Eg fun _=>rfl) fun cU A outer s H E hr=>
  by
   refine ax (rL 1 gr.nd AV) ?_
   refine ax ?_ ?_
   ·refine jJ d9 rfl ?_ ?_ ?_
    ·exact (iU (af 0))
    ·refine jI rfl ?_
     refine cy (bG 2 gr.nd) ?_
     exact (cy (bG 3 gr.nd) hU)
    refine aJ ?_
    refine xh hr.units (af 1) (af 2) ?_
    refine cB ?_ (af 3)
    exact (tZ hr.units (af 1) (af 2) ao)
   refine aJ ?_
   refine bj ?_
   refine gj (N:=["_law_exponents","_law_found"]) (k:=1) rfl rfl (tW (cl:=[("_law_found",s.heap.objs.size+1)]) (caps:=[1]) (by rfl) (.cons (c:=s.heap.objs.size+1) (by rfl) (by rfl) (by first | exact Or.inl rfl | exact Or.inr rfl) (by first | exact Or.inl rfl | exact Or.inr rfl) .nil) (by rfl) (by rfl) (by rfl) (by rfl) (by rfl) (by rfl)) ?_ (fun _ _ _ _=>?_) (fun _ _ _ _=>?_) (fun _ _ _ _=>?_)
   ·refine iU ?_
    exact (Bw (by rfl) (by rfl) T.b.2.2.2.2.2.2.2.2.2.2.2.1 PyProof.Rows.Boot.«sorted» (af 1))
   ·exact (bG 0 sH)
   ·refine D7 ?_
    refine i6 hr.units ?_ ao
    exact (nk hr.units (af 1) (af 0))
   refine iT ?_
   refine ai (af 0) ?_
   refine ai ?_ aq
   exact (nk hr.units (af 1) (af 0))
theorem cW:bg ["_law_error","_law_found"] ["_law_error"] (aC (top 37)):=⟨rfl,rfl,rfl,by decide +kernel,rfl,by decide +kernel,by decide +kernel⟩
theorem pQ {f:Addr} {fd:FuncData} (F:j_ K "_law_kinds" "_law_kinds" (top 37) f fd) (hm:mg "_law_kinds" = some (.ref f)) (T:Txt K mg) :qq P w K mg base "_law_kinds" 1 a8:=
 qq.mk F hm cW (fun _ _ _ _ _ _=>Eg fun _=>rfl) fun cU A outer s H ea oe hr=>
  by
   refine ax ?_ ?_
   ·refine aM ?_ ?_
    ·exact cW.nd
    refine cm ?_
    refine ai (cE 0 T.sub T.qx T.c.2.2.2.2.2.2.2.2.2.2.2.1 (by rfl) T.b.2.2.2.2.2.1 (by rfl)) ?_
    refine ai (cE 0 T.sub T.qx T.c.2.2.2.2.1 (by rfl) T.b.2.2.2.2.2.1 (by rfl)) ?_
    exact (ai (cE 0 T.sub T.qx T.c.2.2.2.2.2.2.2.2.2.2.2.2.1 (by rfl) T.b.2.2.2.2.2.1 (by rfl)) aq)
   refine ax ?_ ?_
   ·refine aM ?_ ?_
    ·exact cW.nd
    refine cB (af 1) ?_
    refine cm ?_
    refine ai (cE 0 T.sub T.qx T.c.2.2.2.2.2.2.2.2.2.2.2.2.2.1 (by rfl) T.b.2.2.2.2.2.1 (by rfl)) ?_
    refine ai (cE 0 T.sub T.qx T.c.2.2.2.2.2.2.2.1 (by rfl) T.b.2.2.2.2.2.1 (by rfl)) ?_
    exact (ai (cE 0 T.sub T.qx T.c.2.2.2.1 (by rfl) T.b.2.2.2.2.2.1 (by rfl)) aq)
   refine ax ?_ ?_
   ·refine aM ?_ ?_
    ·exact cW.nd
    refine cB (af 1) ?_
    refine cm ?_
    refine ai (cE 0 T.sub T.qx T.c.2.2.2.2.2.2.2.2.1 (by rfl) T.b.2.2.2.2.2.1 (by rfl)) ?_
    refine ai (cE 0 T.sub T.qx T.c.2.2.2.2.2.2.2.2.2.1 (by rfl) T.b.2.2.2.2.2.1 (by rfl)) ?_
    exact (ai (cE 0 T.sub T.qx T.c.2.2.1 (by rfl) T.b.2.2.2.2.2.1 (by rfl)) aq)
   refine ax ?_ ?_
   ·refine aM ?_ ?_
    ·exact cW.nd
    refine cB (af 1) ?_
    refine cm ?_
    refine ai (cE 0 T.sub T.qx T.c.2.1 (by rfl) T.b.2.2.2.2.2.1 (by rfl)) ?_
    refine ai (cE 0 T.sub T.qx T.c.2.2.2.2.2.2.2.2.2.2.2.2.2.2.2.1 (by rfl) T.b.2.2.2.2.2.1 (by rfl)) ?_
    exact (ai (cE 0 T.sub T.qx T.c.2.2.2.2.2.2.1 (by rfl) T.b.2.2.2.2.2.1 (by rfl)) aq)
   refine ax ?_ ?_
   ·refine aM ?_ ?_
    ·exact cW.nd
    refine cB (af 1) ?_
    refine cm ?_
    refine ai (cE 0 T.sub T.qx T.c.2.2.2.2.2.2.2.2.2.2.2.2.2.2.1 (by rfl) T.b.2.2.2.2.2.1 (by rfl)) ?_
    refine ai (cE 0 T.sub T.qx T.c.2.2.2.2.2.2.2.2.2.2.1 (by rfl) T.b.2.2.2.2.2.1 (by rfl)) ?_
    exact (ai (cE 0 T.sub T.qx T.c.2.2.2.2.2.1 (by rfl) T.b.2.2.2.2.2.1 (by rfl)) aq)
   refine ax ?_ ?_
   ·refine dE ?_ ?_ cA
    ·refine rK ?_
     refine iS ?_ ?_
     ·refine hG ?_
      exact (g_ (cE 0 T.sub T.qx T.c.1 (by rfl) T.b.2.2.2.2.2.1 (by rfl)))
     refine iS ?_ ?_
     ·refine hG ?_
      exact (g_ (Eb 0 T.sub T.b.1 jv (by rfl) T.b.2.2.2.2.2.1 (by rfl)))
     refine jG ?_
     refine i6 hr.units ?_ ao
     exact (BC (af 1) (FU aq))
    refine aJ ?_
    exact (bj (vn ao))
   refine aJ ?_
   refine bj ?_
   exact (BD (af 1) (FU aq))
theorem cG:bg ["left","by","step","exponents","number","place","rest"] ["left","by","step"] (aC (top 25)):=⟨rfl,rfl,rfl,by decide +kernel,rfl,by decide +kernel,by decide +kernel⟩
theorem lV {f:Addr} {fd:FuncData} (F:j_ K "take_multiple" "take_multiple" (top 25) f fd) (hm:mg "take_multiple" = some (.ref f)) (T:Txt K mg) (Cy:FnAt P w K mg base "joined" 1 PM.joined):FnAt P w K mg base "take_multiple" 2 PM.b_:=
 FnAt.mk F hm cG (fun _ _ _ _ _ _=>Lo fun _ _ _=>rfl) fun cU A outer s H E hr=>
  by
   refine aJ ?_
   refine jJ d9 rfl ?_ ?_ ?_
   ·exact (iU (af 1))
   ·refine jI rfl ?_
    refine cy (bG 3 cG.nd) ?_
    exact (cy (bG 4 cG.nd) hU)
   refine ax ?_ ?_
   ·refine aM ?_ ?_
    ·exact cG.nd
    refine bu Cy hr (by decide) (by rfl) aG ?_
    refine ai (af 3) ?_
    refine ai ?_ aq
    exact (aN (af 2) ao)
   refine ax ?_ ?_
   ·refine aM ?_ ?_
    ·exact cG.nd
    refine lJ ?_ ?_
    ·exact (tZ hr.units (af 0) (af 5) ao)
    refine c6 ?_ (af 4)
    exact (aN (af 2) ao)
   refine aJ ?_
   refine dE ?_ ?_ ?_
   ·exact (jA hr.units (af 6) ao)
   ·refine aJ ?_
    refine gi ?_
    exact (EE hr.units (af 0) (af 5))
   refine aJ ?_
   exact (xh hr.units (af 0) (af 5) (af 6))
theorem pb:(["_law_k","_law_one","_law_other"]:List Str).Nodup:=by decide +kernel
theorem cX:bg ["_law_ones","_law_others","_law_pairs","_law_one","_law_number_here","_law_other","_law_more"] ["_law_ones","_law_others"] (aC (top 32)):=⟨rfl,rfl,rfl,by decide +kernel,rfl,by decide +kernel,by decide +kernel⟩
theorem pR {f:Addr} {fd:FuncData} (F:j_ K "_law_times" "_law_times" (top 32) f fd) (hm:mg "_law_times" = some (.ref f)) (T:Txt K mg) (f9:FnAt P w K mg base "_law_sum" 1 PM.bT):FnAt P w K mg base "_law_times" 2 PM.a9:=
 FnAt.mk F hm cX (fun _ _ _ _ _ _=>km fun _ _=>rfl) fun cU A outer s H E hr=>
  by
   refine ax ?_ ?_
   ·refine aM ?_ ?_
    ·exact cX.nd
    exact (cm aq)
   refine ax ?_ ?_
   ·refine jJ d9 rfl ?_ ?_ ?_
    ·exact (iU (af 0))
    ·refine jI rfl ?_
     refine cy (bG 3 cX.nd) ?_
     exact (cy (bG 4 cX.nd) hU)
    refine aJ ?_
    refine jJ d9 rfl ?_ ?_ ?_
    ·exact (iU (af 1))
    ·refine jI rfl ?_
     refine cy (bG 5 cX.nd) ?_
     exact (cy (bG 6 cX.nd) hU)
    refine aJ ?_
    refine gi ?_
    refine gK (af 2) ?_
    refine ai ?_ aq
    refine iT ?_
    refine ai ?_ ?_
    ·refine dq ?_ (by rfl) T.b.2.2.2.2.2.2.2.2.2.2.2.2.1 PyProof.Rows.boot_tuple ?_
     ·exact fM
     refine ai ?_ aq
     refine gj (N:=["_law_k","_law_one","_law_other"]) (k:=1) rfl rfl (AZ (cl:=[("_law_one",s.heap.objs.size+1),("_law_other",s.heap.objs.size+2)]) (cl':=[("_law_other",s.heap.objs.size+2),("_law_one",s.heap.objs.size+1)]) (caps:=[3,5]) (caps':=[5,3]) (by rfl) (.cons (c:=s.heap.objs.size+1) (by rfl) (by rfl) (by first | exact Or.inl rfl | exact Or.inr rfl) (by first | exact Or.inl rfl | exact Or.inr rfl) (.cons (c:=s.heap.objs.size+2) (by rfl) (by rfl) (by first | exact Or.inl rfl | exact Or.inr rfl) (by first | exact Or.inl rfl | exact Or.inr rfl) .nil)) (.cons (c:=s.heap.objs.size+2) (by rfl) (by rfl) (by first | exact Or.inl rfl | exact Or.inr rfl) (by first | exact Or.inl rfl | exact Or.inr rfl) (.cons (c:=s.heap.objs.size+1) (by rfl) (by rfl) (by first | exact Or.inl rfl | exact Or.inr rfl) (by first | exact Or.inl rfl | exact Or.inr rfl) .nil)) (by rfl) (by rfl) (by rfl) (by rfl) (by rfl) (by rfl)) ?_ (fun _ _ _ _=>?_) (fun _ _ _ _=>hZ) (fun _ _ _ _=>?_)
     ·refine jd (by rfl) T.b.2.2.2.2.2.2.2.2.2.2.1 ?_
      refine ai ?_ aq
      refine dc ?_ (by rfl) T.b.2.2.2.2.2.2.1 PySem.boot_len ?_
      ·exact eO
      exact (ai (af 3) aq)
     ·exact (bG 0 pb)
     refine cB ?_ ?_
     ·exact (aN (af 1) (af 0))
     exact (aN (af 2) (af 0))
    refine ai ?_ aq
    exact (c6 (af 4) (af 6))
   refine aJ ?_
   refine bj ?_
   refine bu f9 hr (by decide) (by rfl) aG ?_
   exact (ai (af 2) aq)
theorem sI:bg ["_law_ones","_law_others"] ["_law_ones","_law_others"] (aC (top 33)):=⟨rfl,rfl,rfl,by decide +kernel,rfl,by decide +kernel,by decide +kernel⟩
theorem sJ {f:Addr} {fd:FuncData} (F:j_ K "_law_plus" "_law_plus" (top 33) f fd) (hm:mg "_law_plus" = some (.ref f)) (T:Txt K mg) (f9:FnAt P w K mg base "_law_sum" 1 PM.bT):FnAt P w K mg base "_law_plus" 2 PM.bo:=
 FnAt.mk F hm sI (fun _ _ _ _ _ _=>km fun _ _=>rfl) fun cU A outer s H E hr=>
  by
   refine aJ ?_
   refine bj ?_
   refine bu f9 hr (by decide) (by rfl) aG ?_
   refine ai ?_ aq
   exact (cB (af 0) (af 1))
theorem pe:(["_law_j","_law_cell_here","_law_k","_law_power"]:List Str).Nodup:=by decide +kernel
theorem e_:bg ["_law_cell_here","_law_many","_law_terms","_law_power","_law_kind","_law_pairs","_law_k","_law_exponents"] ["_law_cell_here","_law_many","_law_terms","_law_power","_law_kind"] (aC (top 34)):=⟨rfl,rfl,rfl,by decide +kernel,rfl,by decide +kernel,by decide +kernel⟩
theorem pS {f:Addr} {fd:FuncData} (F:j_ K "_law_drawn" "_law_drawn" (top 34) f fd) (hm:mg "_law_drawn" = some (.ref f)) (T:Txt K mg) (kL:FnAt P w K mg base "_law_mixed" 1 PM.dw) (pT:FnAt P w K mg base "_law_number" 1 PM.bw) (f9:FnAt P w K mg base "_law_sum" 1 PM.bT):FnAt P w K mg base "_law_drawn" 2 PM.aW:=
 FnAt.mk F hm e_ (fun _ _ _ _ _ _=>O4 fun _ _ _ _ _=>rfl) fun cU A outer s H E hr=>
  by
   refine ax ?_ ?_
   ·refine aM ?_ ?_
    ·exact e_.nd
    exact (cm aq)
   refine ax ?_ ?_
   ·refine jJ d9 rfl ?_ (bG 6 e_.nd) ?_
    ·refine jd (by rfl) T.b.2.2.2.2.2.2.2.2.2.2.1 ?_
     exact (ai (af 2) aq)
    refine ax ?_ ?_
    ·refine aM ?_ ?_
     ·exact e_.nd
     refine dq ?_ (by rfl) T.b.2.2.2.2.2.2.2.2.2.2.2.2.1 PyProof.Rows.boot_tuple ?_
     ·exact fM
     refine ai ?_ aq
     refine gj (N:=["_law_j","_law_cell_here","_law_k","_law_power"]) (k:=1) rfl rfl (AZ (cl:=[("_law_cell_here",s.heap.objs.size+1),("_law_k",s.heap.objs.size+3),("_law_power",s.heap.objs.size+2)]) (cl':=[("_law_power",s.heap.objs.size+2),("_law_k",s.heap.objs.size+3),("_law_cell_here",s.heap.objs.size+1)]) (caps:=[0,6,3]) (caps':=[3,6,0]) (by rfl) (.cons (c:=s.heap.objs.size+1) (by rfl) (by rfl) (by first | exact Or.inl rfl | exact Or.inr rfl) (by first | exact Or.inl rfl | exact Or.inr rfl) (.cons (c:=s.heap.objs.size+3) (by rfl) (by rfl) (by first | exact Or.inl rfl | exact Or.inr rfl) (by first | exact Or.inl rfl | exact Or.inr rfl) (.cons (c:=s.heap.objs.size+2) (by rfl) (by rfl) (by first | exact Or.inl rfl | exact Or.inr rfl) (by first | exact Or.inl rfl | exact Or.inr rfl) .nil))) (.cons (c:=s.heap.objs.size+2) (by rfl) (by rfl) (by first | exact Or.inl rfl | exact Or.inr rfl) (by first | exact Or.inl rfl | exact Or.inr rfl) (.cons (c:=s.heap.objs.size+3) (by rfl) (by rfl) (by first | exact Or.inl rfl | exact Or.inr rfl) (by first | exact Or.inl rfl | exact Or.inr rfl) (.cons (c:=s.heap.objs.size+1) (by rfl) (by rfl) (by first | exact Or.inl rfl | exact Or.inr rfl) (by first | exact Or.inl rfl | exact Or.inr rfl) .nil))) (by rfl) (by rfl) (by rfl) (by rfl) (by rfl) (by rfl)) ?_ (fun _ _ _ _=>?_) (fun _ _ _ _=>hZ) (fun _ _ _ _=>?_)
     ·refine jd (by rfl) T.b.2.2.2.2.2.2.2.2.2.2.1 ?_
      exact (ai (af 1) aq)
     ·exact (bG 0 pe)
     refine bZ ?_ ?_
     ·refine bu kL hr (by decide) (by rfl) Lh ?_
      refine ai (af 1) ?_
      refine ai ?_ aq
      refine cB ?_ (af 0)
      exact (c6 ao (af 2))
     exact (cB (af 3) ao)
    refine aJ ?_
    refine gi ?_
    refine gK (af 5) ?_
    refine ai ?_ aq
    refine iT ?_
    refine ai (af 7) ?_
    refine ai ?_ aq
    refine bu pT hr (by decide) (by rfl) aG ?_
    refine ai ?_ ?_
    ·refine bu kL hr (by decide) (by rfl) aG ?_
     refine ai (af 0) ?_
     refine ai ?_ aq
     refine cB ?_ ao
     exact (c6 ao (af 6))
    exact (ai (af 4) aq)
   refine aJ ?_
   refine bj ?_
   refine bu f9 hr (by decide) (by rfl) aG ?_
   exact (ai (af 5) aq)
theorem dh:bg ["_law_found","_law_many","_law_last","_law_term","_law_exponent"] ["_law_found","_law_many"] (aC (top 35)):=⟨rfl,rfl,rfl,by decide +kernel,rfl,by decide +kernel,by decide +kernel⟩
theorem pf {f:Addr} {fd:FuncData} (F:j_ K "_law_is_sum" "_law_is_sum" (top 35) f fd) (hm:mg "_law_is_sum" = some (.ref f)) (T:Txt K mg) (kM:FnAt P w K mg base "_law_whole" 1 PM.dY):FnAt P w K mg base "_law_is_sum" 2 PM.cV:=
 FnAt.mk F hm dh (fun _ _ _ _ _ _=>km fun _ _=>rfl) fun cU A outer s H E hr=>
  by
   refine ax ?_ ?_
   ·refine dE ?_ ?_ cA
    ·refine hG ?_
     refine g_ ?_
     exact (nZ yA (by rfl) T.b.2.2.2.2.2.1 (by rfl) T.b.2.2.2.2.2.2.2.1 PyProof.Rows.boot_list (af 0))
    exact (aJ (bj ke))
   refine ax (rL 2 dh.nd lg) ?_
   refine ax ?_ ?_
   ·refine jJ d9 rfl ?_ (bG 3 dh.nd) ?_
    ·exact (iU (af 0))
    refine ax ?_ ?_
    ·refine dE ?_ ?_ cA
     ·refine rK ?_
      refine iS ?_ ?_
      ·refine hG ?_
       refine g_ ?_
       exact (nZ n_ (by rfl) T.b.2.2.2.2.2.1 (by rfl) T.b.2.2.2.2.2.2.2.2.2.2.2.2.1 PyProof.Rows.boot_tuple (af 3))
      refine iS ?_ ?_
      ·refine i6 hr.units ?_ ao
       refine dc ?_ (by rfl) T.b.2.2.2.2.2.2.1 PySem.boot_len ?_
       ·exact eO
       exact (ai (af 3) aq)
      refine iS ?_ ?_
      ·refine hG ?_
       refine g_ ?_
       refine nZ n_ (by rfl) T.b.2.2.2.2.2.1 (by rfl) T.b.2.2.2.2.2.2.2.2.2.2.2.2.1 PyProof.Rows.boot_tuple ?_
       exact (aN (af 3) ao)
      refine jG ?_
      refine i6 hr.units ?_ (af 1)
      refine dc ?_ (by rfl) T.b.2.2.2.2.2.2.1 PySem.boot_len ?_
      ·exact eO
      refine ai ?_ aq
      exact (aN (af 3) ao)
     exact (aJ (bj ke))
    refine ax ?_ ?_
    ·refine jJ d9 rfl ?_ (bG 4 dh.nd) ?_
     ·refine iU ?_
      exact (aN (af 3) ao)
     refine aJ ?_
     refine dE ?_ ?_ cA
     ·refine rK ?_
      refine iS ?_ ?_
      ·refine hG ?_
       refine g_ ?_
       refine bu kM hr (by decide) (by rfl) aG ?_
       exact (ai (af 4) aq)
      refine jG ?_
      exact (BH (af 4) ao)
     exact (aJ (bj ke))
    refine ax ?_ ?_
    ·refine dE ?_ ?_ cA
     ·refine rK ?_
      refine iS ?_ ?_
      ·refine hG ?_
       refine g_ ?_
       refine bu kM hr (by decide) (by rfl) aG ?_
       refine ai ?_ aq
       exact (aN (af 3) ao)
      refine iS ?_ ?_
      ·refine jA hr.units ?_ ao
       exact (aN (af 3) ao)
      refine jG ?_
      refine rK ?_
      refine Aw ?_ ?_
      ·refine iR ?_ (af 2) lg
       exact yw
      refine wU ?_
      refine iR ?_ ?_ (af 2)
      ·exact (II hr.units)
      exact (aN (af 3) ao)
     exact (aJ (bj ke))
    refine aJ ?_
    refine aM ?_ ?_
    ·exact dh.nd
    exact (aN (af 3) ao)
   exact (aJ (bj ke))
theorem bQ:bg ["row","by","left","answer","top","step"] ["row","by"] (aC (top 24)):=⟨rfl,rfl,rfl,by decide +kernel,rfl,by decide +kernel,by decide +kernel⟩
theorem ja {f:Addr} {fd:FuncData} (F:j_ K "quotient_if_whole" "quotient_if_whole" (top 24) f fd) (hm:mg "quotient_if_whole" = some (.ref f)) (T:Txt K mg) (zz:FnAt P w K mg base "divides" 1 PM.dS) (Jl:FnAt P w K mg base "less" 1 PM.gn) (m9:FnAt P w K mg base "take_multiple" 2 PM.b_):FnAt P w K mg base "quotient_if_whole" 3 PM.aQ:=
 FnAt.mk F hm bQ (fun _ _ _ _ _ _=>km fun _ _=>rfl) fun cU A outer s H E hr=>
  by
   refine ax ?_ ?_
   ·refine aM ?_ ?_
    ·exact bQ.nd
    refine dq ?_ (by rfl) T.b.2.2.2.1 PyProof.Rows.boot_dict ?_
    ·exact (yS hr.hd hr.units)
    exact (ai (af 0) aq)
   refine ax ?_ ?_
   ·refine aM ?_ ?_
    ·exact bQ.nd
    exact (cm aq)
   refine ax ?_ ?_
   ·refine tR d9 ?_ ?_
    ·refine LY ?_ ao
     refine dc ?_ (by rfl) T.b.2.2.2.2.2.2.1 PySem.boot_len ?_
     ·exact vR
     exact (ai (af 2) aq)
    refine ax ?_ ?_
    ·refine aM ?_ ?_
     ·exact bQ.nd
     refine dc ?_ (by rfl) T.b.2.2.2.2.2.2.2.2.1 PyProof.Rows.Boot.«max» ?_
     ·exact (vS (by rfl) hr.units)
     exact (ai (af 2) aq)
    refine ax ?_ ?_
    ·refine dE ?_ ?_ cA
     ·refine rK ?_
      refine iS ?_ ?_
      ·refine hG ?_
       refine g_ ?_
       refine bu zz hr (by decide) (by rfl) aG ?_
       refine ai ?_ ?_
       ·refine aN ?_ ao
        exact (aN (af 1) ao)
       exact (ai (af 4) aq)
      refine jG ?_
      refine i6 hr.units ?_ ao
      refine bZ ?_ ?_
      ·exact (nk hr.units (af 2) (af 4))
      refine aN ?_ ao
      exact (aN (af 1) ao)
     exact (aJ (bj lg))
    refine ax ?_ ?_
    ·refine aM ?_ ?_
     ·exact bQ.nd
     refine iT ?_
     refine ai ?_ ?_
     ·refine bu Jl hr (by decide) (by rfl) aG ?_
      refine ai (af 4) ?_
      refine ai ?_ aq
      refine aN ?_ ao
      exact (aN (af 1) ao)
     refine ai ?_ aq
     refine iq ?_ ?_
     ·exact (nk hr.units (af 2) (af 4))
     refine aN ?_ ao
     exact (aN (af 1) ao)
    refine ax ?_ ?_
    ·refine gi ?_
     refine gK (af 3) ?_
     exact (ai (af 5) aq)
    refine aJ ?_
    refine gi ?_
    refine bu m9 hr (by decide) (by rfl) aG ?_
    refine ai (af 2) ?_
    refine ai (af 1) ?_
    exact (ai (af 5) aq)
   refine aJ ?_
   exact (bj (af 3))
theorem kP:(["_law_k","_law_by","_law_row"]:List Str).Nodup:=by decide +kernel
theorem kQ:(["_law_term"]:List Str).Nodup:=by decide +kernel
theorem dC:bg ["_law_row","_law_by","_law_found","_law_high"] ["_law_row","_law_by"] (aC (top 36)):=⟨rfl,rfl,rfl,by decide +kernel,rfl,by decide +kernel,by decide +kernel⟩
theorem lW {f:Addr} {fd:FuncData} (F:j_ K "_law_quotient" "_law_quotient" (top 36) f fd) (hm:mg "_law_quotient" = some (.ref f)) (T:Txt K mg) (iB:FnAt P w K mg base "_law_times" 2 PM.a9) (ft:FnAt P w K mg base "_law_plus" 2 PM.bo):FnAt P w K mg base "_law_quotient" 3 PM.bA:=
 FnAt.mk F hm dC (fun _ _ _ _ _ _=>km fun _ _=>rfl) fun cU A outer s H E hr=>
  by
   refine ax ?_ ?_
   ·refine aM ?_ ?_
    ·exact dC.nd
    exact (cm aq)
   refine ax ?_ ?_
   ·refine tR d9 ?_ ?_
    ·exact (i6 hr.units (af 0) (cm aq))
    refine ax ?_ ?_
    ·refine aM ?_ ?_
     ·exact dC.nd
     refine dq ?_ (by rfl) T.b.2.2.2.2.2.2.2.2.2.2.2.2.1 PyProof.Rows.boot_tuple ?_
     ·exact fM
     refine ai ?_ aq
     refine gj (N:=["_law_k","_law_by","_law_row"]) (k:=1) rfl rfl (AZ (cl:=[("_law_by",s.heap.objs.size+2),("_law_row",s.heap.objs.size+1)]) (cl':=[("_law_row",s.heap.objs.size+1),("_law_by",s.heap.objs.size+2)]) (caps:=[1,0]) (caps':=[0,1]) (by rfl) (.cons (c:=s.heap.objs.size+2) (by rfl) (by rfl) (by first | exact Or.inl rfl | exact Or.inr rfl) (by first | exact Or.inl rfl | exact Or.inr rfl) (.cons (c:=s.heap.objs.size+1) (by rfl) (by rfl) (by first | exact Or.inl rfl | exact Or.inr rfl) (by first | exact Or.inl rfl | exact Or.inr rfl) .nil)) (.cons (c:=s.heap.objs.size+1) (by rfl) (by rfl) (by first | exact Or.inl rfl | exact Or.inr rfl) (by first | exact Or.inl rfl | exact Or.inr rfl) (.cons (c:=s.heap.objs.size+2) (by rfl) (by rfl) (by first | exact Or.inl rfl | exact Or.inr rfl) (by first | exact Or.inl rfl | exact Or.inr rfl) .nil)) (by rfl) (by rfl) (by rfl) (by rfl) (by rfl) (by rfl)) ?_ (fun _ _ _ _=>?_) (fun _ _ _ _=>hZ) (fun _ _ _ _=>?_)
     ·refine jd (by rfl) T.b.2.2.2.2.2.2.2.2.2.2.1 ?_
      refine ai ?_ aq
      refine dc ?_ (by rfl) T.b.2.2.2.2.2.2.1 PySem.boot_len ?_
      ·exact eO
      refine ai ?_ aq
      refine aN ?_ ao
      exact (aN (af 1) ao)
     ·exact (bG 0 kP)
     refine lJ ?_ ?_
     ·refine aN ?_ (af 0)
      refine aN ?_ ao
      exact (aN (af 2) ao)
     refine aN ?_ (af 0)
     refine aN ?_ ao
     exact (aN (af 1) ao)
    refine ax ?_ ?_
    ·refine dE ?_ ?_ cA
     ·refine rK ?_
      refine iS ?_ ?_
      ·refine BH ?_ ao
       refine dc ?_ (by rfl) T.b.2.2.2.2.2.2.2.2.2.1 PyProof.Rows.Boot.«min» ?_
       ·exact (vT hr.hd)
       exact (ai (af 3) aq)
      refine jG ?_
      refine i6 hr.units ?_ ao
      refine bZ ?_ ?_
      ·refine aN ?_ ao
       exact (aN (af 0) ao)
      refine aN ?_ ao
      exact (aN (af 1) ao)
     exact (aJ (bj lg))
    refine ax ?_ ?_
    ·refine gi ?_
     refine gK (af 2) ?_
     refine ai ?_ aq
     refine iT ?_
     refine ai (af 3) ?_
     refine ai ?_ aq
     refine iq ?_ ?_
     ·refine aN ?_ ao
      exact (aN (af 0) ao)
     refine aN ?_ ao
     exact (aN (af 1) ao)
    refine aJ ?_
    refine aM ?_ ?_
    ·exact dC.nd
    refine bu ft hr (by decide) (by rfl) aG ?_
    refine ai (af 0) ?_
    refine ai ?_ aq
    refine gj (N:=["_law_term"]) (k:=1) rfl rfl (tW (cl:=[]) (caps:=[]) (by rfl) .nil (by rfl) (by rfl) (by rfl) (by rfl) (by rfl) (by rfl)) ?_ (fun _ _ _ _=>?_) (fun _ _ _ _=>hZ) (fun _ _ _ _=>?_)
    ·refine iU ?_
     refine bu iB hr (by decide) (by rfl) aG ?_
     refine ai ?_ ?_
     ·refine Lm (af 2) ?_ Ee
      exact (Ef (vn ao))
     exact (ai (af 1) aq)
    ·exact (bG 0 kQ)
    refine iT ?_
    refine ai ?_ ?_
    ·exact (aN (af 0) ao)
    refine ai ?_ aq
    refine vn ?_
    exact (aN (af 0) ao)
   refine aJ ?_
   exact (bj (af 2))
theorem mJ:bg ["row","by","answer"] ["row","by"] (aC (top 23)):=⟨rfl,rfl,rfl,by decide +kernel,rfl,by decide +kernel,by decide +kernel⟩
theorem uQ {f:Addr} {fd:FuncData} (F:j_ K "quotient" "quotient" (top 23) f fd) (hm:mg "quotient" = some (.ref f)) (T:Txt K mg) (js:FnAt P w K mg base "quotient_if_whole" 3 PM.aQ):FnAt P w K mg base "quotient" 4 PM.aX:=
 FnAt.mk F hm mJ (fun _ _ _ _ _ _=>km fun _ _=>rfl) fun cU A outer s H E hr=>
  by
   refine ax ?_ ?_
   ·refine dE ?_ ?_ cA
    ·refine jA hr.units ?_ ao
     refine dc ?_ (by rfl) T.b.2.2.2.2.2.2.1 PySem.boot_len ?_
     ·exact eO
     exact (ai (af 1) aq)
    refine aJ ?_
    exact (qf oo rfl T.c.2.2.2.2.2.2.2.2.2.2.2.1 (by rfl) (AW aq))
   refine ax ?_ ?_
   ·refine aM ?_ ?_
    ·exact mJ.nd
    refine bu js hr (by decide) (by rfl) aG ?_
    refine ai (af 0) ?_
    exact (ai (af 1) aq)
   refine ax ?_ ?_
   ·refine dE ?_ ?_ cA
    ·refine iR ?_ (af 2) lg
     exact AI
    refine aJ ?_
    exact (qf oo rfl T.c.2.2.2.2.1 (by rfl) (AW aq))
   refine aJ ?_
   exact (bj (af 2))
theorem kR:bg ["_law_row","_law_by","_law_error"] ["_law_row","_law_by"] (aC (top 38)):=⟨rfl,rfl,rfl,by decide +kernel,rfl,by decide +kernel,by decide +kernel⟩
theorem sL {f:Addr} {fd:FuncData} (F:j_ K "_law_told" "_law_told" (top 38) f fd) (hm:mg "_law_told" = some (.ref f)) (T:Txt K mg) (sM:qq P w K mg base "_law_kinds" 1 a8) (iC:FnAt P w K mg base "quotient" 4 PM.aX):FnAt P w K mg base "_law_told" 5 bf:=
 FnAt.mk F hm kR (fun _ _ _ _ _ _=>km fun _ _=>rfl) fun cU A outer s H E hr=>
  by
   refine aJ ?_
   refine HS T.qx.known ⟨fun _=>rfl,rfl,rfl⟩ ?_ ?_
   ·refine D_ ?_
    refine D9 ?_
    refine HV iC hr (by decide) (by rfl) (fun _=>rfl) (fun _=>?_)
    refine ai (af 0) ?_
    exact (ai (af 1) aq)
   refine HZ (i:=2) T.sub kR.nd T.c.1 (by rfl) (fun _ _=>?_) HR
   refine aJ ?_
   exact (bj (By 2 sM ((fT.mark hr _).mono (by decide)) (by rfl)))
theorem dU:bg ["_law_script","_law_many","_law_kind","_law_one","_law_by","_law_row","_law_way","_law_k","_law_handed","_law_found","_law_due"] ["_law_script"] (aC (top 39)):=⟨rfl,rfl,rfl,by decide +kernel,rfl,by decide +kernel,by decide +kernel⟩
theorem Jm {f:Addr} {fd:FuncData} (F:j_ K "law" "law" (top 39) f fd) (T:Txt K mg) (bF:FnAt P w K mg base "_law_cell" 1 PM.aE) (iB:FnAt P w K mg base "_law_times" 2 PM.a9) (ft:FnAt P w K mg base "_law_plus" 2 PM.bo) (iD:FnAt P w K mg base "_law_drawn" 2 PM.aW) (pU:FnAt P w K mg base "_law_is_sum" 2 PM.cV) (m_:FnAt P w K mg base "_law_quotient" 3 PM.bA) (iC:FnAt P w K mg base "quotient" 4 PM.aX) (mK:FnAt P w K mg base "_law_told" 5 bf):iO P w K mg base (k_ P w) 6 f fd ["_law_script"] (HH ⟨K,mg,[]⟩ BI):=
 Az F dU fun cU A outer s H E hr=>
  by
   refine ax ?_ ?_
   ·refine aM ?_ ?_
    ·exact dU.nd
    refine cB ao ?_
    refine bZ ?_ ao
    refine bu bF hr (by decide) (by rfl) aG ?_
    exact (ai (af 0) (cO aq))
   refine ax ?_ ?_
   ·refine aM ?_ ?_
    ·exact dU.nd
    refine bZ ?_ ao
    refine bu bF hr (by decide) (by rfl) aG ?_
    exact (ai (af 0) (cO aq))
   refine ax ?_ ?_
   ·refine aM ?_ ?_
    ·exact dU.nd
    refine bu iD hr (by decide) (by rfl) aG ?_
    refine ai ?_ ?_
    ·refine bu bF hr (by decide) (by rfl) aG ?_
     exact (ai (af 0) (cO aq))
    refine ai (af 1) ?_
    refine ai ?_ ?_
    ·refine bZ ?_ ao
     refine iq ?_ ao
     refine bu bF hr (by decide) (by rfl) aG ?_
     exact (ai (af 0) (cO aq))
    refine cO ?_
    exact (ai (af 2) aq)
   refine ax ?_ ?_
   ·refine aM ?_ ?_
    ·exact dU.nd
    refine bu iD hr (by decide) (by rfl) aG ?_
    refine ai ?_ ?_
    ·refine bu bF hr (by decide) (by rfl) aG ?_
     exact (ai (af 0) (cO aq))
    refine ai (af 1) ?_
    refine ai ?_ ?_
    ·refine bZ ?_ ao
     refine iq ?_ ao
     refine bu bF hr (by decide) (by rfl) aG ?_
     exact (ai (af 0) (cO aq))
    refine cO ?_
    refine ai ?_ aq
    refine bZ ?_ ao
    refine iq ?_ ao
    refine bu bF hr (by decide) (by rfl) aG ?_
    exact (ai (af 0) (cO aq))
   refine ax ?_ ?_
   ·refine aM ?_ ?_
    ·exact dU.nd
    refine bu iB hr (by decide) (by rfl) aG ?_
    refine ai (af 3) ?_
    exact (ai (af 4) aq)
   refine ax ?_ ?_
   ·refine aM ?_ ?_
    ·exact dU.nd
    refine bZ ?_ ao
    refine iq ?_ ao
    refine bu bF hr (by decide) (by rfl) aG ?_
    exact (ai (af 0) (cO aq))
   refine ax ?_ ?_
   ·refine dE ?_ ?_ cA
    ·exact (jA hr.units (af 6) ao)
    refine aJ ?_
    refine aM ?_ ?_
    ·exact dU.nd
    refine bu ft hr (by decide) (by rfl) aG ?_
    refine ai (af 5) ?_
    refine ai ?_ aq
    refine bu iD hr (by decide) (by rfl) aG ?_
    refine ai ?_ ?_
    ·refine bu bF hr (by decide) (by rfl) aG ?_
     exact (ai (af 0) (cO aq))
    refine ai (af 1) ?_
    refine cO ?_
    refine cO ?_
    exact (ai (af 2) aq)
   refine ax ?_ ?_
   ·refine dE ?_ ?_ cA
    ·refine rK ?_
     refine Aw ?_ ?_
     ·exact (jA hr.units (af 6) ao)
     refine wU ?_
     exact (i6 hr.units (af 5) (cm aq))
    refine ax ?_ ?_
    ·refine aM ?_ ?_
     ·exact dU.nd
     refine bZ ?_ ?_
     ·refine bu bF hr (by decide) (by rfl) aG ?_
      exact (ai (af 0) (cO aq))
     refine dc ?_ (by rfl) T.b.2.2.2.2.2.2.1 PySem.boot_len ?_
     ·exact eO
     exact (ai (af 5) aq)
    refine aJ ?_
    refine aM ?_ ?_
    ·exact dU.nd
    refine bu ft hr (by decide) (by rfl) aG ?_
    refine ai (af 5) ?_
    refine ai ?_ aq
    refine cm ?_
    refine ai ?_ aq
    refine iT ?_
    refine ai ?_ (cO aq)
    refine aN ?_ ao
    exact (aN (af 5) (af 7))
   refine ax ?_ ?_
   ·refine dE ?_ ?_ cA
    ·exact (jA hr.units (af 6) ao)
    refine aJ ?_
    refine aM ?_ ?_
    ·exact dU.nd
    refine bu ft hr (by decide) (by rfl) aG ?_
    refine ai (af 5) ?_
    refine ai ?_ aq
    refine cm ?_
    refine ai ?_ aq
    refine iT ?_
    refine ai ?_ ?_
    ·refine dq ?_ (by rfl) T.b.2.2.2.2.2.2.2.2.2.2.2.2.1 PyProof.Rows.boot_tuple ?_
     ·exact fM
     refine ai ?_ aq
     refine c6 ?_ (af 1)
     exact (cm (cO aq))
    refine ai ?_ aq
    refine cB ao ?_
    refine bZ ?_ ao
    refine bu bF hr (by decide) (by rfl) aG ?_
    exact (ai (af 0) (cO aq))
   refine ax ?_ ?_
   ·refine dE ?_ ?_ cA
    ·refine jA hr.units ?_ ao
     refine bZ ?_ ao
     refine iq ?_ ao
     refine bu bF hr (by decide) (by rfl) aG ?_
     exact (ai (af 0) (cO aq))
    refine aJ ?_
    refine aM ?_ ?_
    ·exact dU.nd
    exact (cm aq)
   refine ax ?_ ?_
   ·refine aM ?_ ?_
    ·exact dU.nd
    refine cm ?_
    refine ai ?_ ?_
    ·refine dq ?_ (by rfl) T.b.2.2.2.2.2.2.2.1 PyProof.Rows.boot_list ?_
     ·exact qc
     exact (ai (af 5) aq)
    refine ai ?_ aq
    refine dq ?_ (by rfl) T.b.2.2.2.2.2.2.2.1 PyProof.Rows.boot_list ?_
    ·exact qc
    exact (ai (af 4) aq)
   refine ax ?_ ?_
   ·refine aM ?_ ?_
    ·exact dU.nd
    refine bu mK hr (by decide) (by rfl) aG ?_
    refine ai ?_ ?_
    ·exact (aN (af 8) ao)
    refine ai ?_ aq
    exact (aN (af 8) ao)
   refine ax ?_ ?_
   ·refine dE ?_ ?_ cA
    ·refine i6 hr.units (af 8) ?_
     refine cm ?_
     refine ai (af 5) ?_
     exact (ai (af 4) aq)
    exact (aJ (bj ke))
   refine ax ?_ ?_
   ·refine dE ?_ ?_ cA
    ·exact (jA hr.units (af 4) (cm aq))
    refine aJ ?_
    refine bj ?_
    refine rH ?_ ?_
    ·exact (qw hr.units (af 9) ao)
    refine rG ?_
    refine qw hr.units ?_ ao
    refine bu mK hr (by decide) (by rfl) aG ?_
    refine ai (cm aq) ?_
    exact (ai (cm aq) aq)
   refine ax ?_ ?_
   ·refine aM ?_ ?_
    ·exact dU.nd
    refine bu m_ hr (by decide) (by rfl) aG ?_
    refine ai (af 5) ?_
    exact (ai (af 4) aq)
   refine ax ?_ ?_
   ·refine dE ?_ ?_ cA
    ·refine iR ?_ (af 10) lg
     exact AI
    refine aJ ?_
    refine bj ?_
    refine rH ?_ ?_
    ·exact (qw hr.units (af 9) ao)
    refine rG ?_
    refine qw hr.units (af 8) ?_
    refine cm ?_
    refine ai (af 5) ?_
    exact (ai (af 4) aq)
   refine ax ?_ ?_
   ·refine dE ?_ ?_ cA
    ·refine rK ?_
     refine iS ?_ ?_
     ·refine hG ?_
      refine g_ ?_
      refine bu pU hr (by decide) (by rfl) aG ?_
      refine ai (af 9) ?_
      exact (ai (af 1) aq)
     refine jG ?_
     exact (i6 hr.units (af 9) (af 10))
    exact (aJ (bj ke))
   refine ax ?_ ?_
   ·refine gi ?_
    exact (gK (af 9) (cO aq))
   refine ax ?_ ?_
   ·refine dE ?_ ?_ cA
    ·refine i6 hr.units ?_ (af 10)
     refine bu iC hr (by decide) (by rfl) aG ?_
     refine ai ?_ ?_
     ·exact (aN (af 8) ao)
     refine ai ?_ aq
     exact (aN (af 8) ao)
    exact (aJ (bj ke))
   refine ax ?_ ?_
   ·refine gi ?_
    exact (AY (af 9))
   refine aJ ?_
   refine bj ?_
   refine rH ?_ ?_
   ·refine qw hr.units ?_ (af 10)
    refine bu iC hr (by decide) (by rfl) aG ?_
    refine ai ?_ ?_
    ·exact (aN (af 8) ao)
    refine ai ?_ aq
    exact (aN (af 8) ao)
   refine rG ?_
   refine qw hr.units (af 8) ?_
   refine cm ?_
   refine ai (af 5) ?_
   exact (ai (af 4) aq)
end
theorem all_mk {l:PySem.W.OpenLaw} {w:World} {K:PySem.W.Frag} {h:Heap} {mg:Str->Option Value} {fa:Addr} (X:K.In h) (G:h.Ns mainGlobals mg) (TQ:mg "law" = some (.ref fa))
  {Mt:Addr} {Qm MC:Option Addr} {Qn:Array (Option Value)} {Qo MD MF MG Jn MJ:Value}
  (h0:oG K "divides" (top 18))
  (h1:oG K "less" (top 19))
  (h2:oG K "joined" (top 21))
  (h3:oG K "_law_cell" (top 27))
  (h4:oG K "_law_whole" (top 28))
  (h5:oG K "_law_mixed" (top 29))
  (h6:oG K "_law_number" (top 30))
  (h7:oG K "_law_sum" (top 31))
  (h8:oG K "_law_kinds" (top 37))
  (h9:oG K "take_multiple" (top 25))
  (JQ:oG K "_law_times" (top 32))
  (Jy:oG K "_law_plus" (top 33))
  (Ml:oG K "_law_drawn" (top 34))
  (Mn:oG K "_law_is_sum" (top 35))
  (Mo:oG K "quotient_if_whole" (top 24))
  (Qp:oG K "_law_quotient" (top 36))
  (Qq:oG K "quotient" (top 23))
  (Qr:oG K "_law_told" (top 38))
  (Qs:PySem.W.nsIn K mainGlobals "law" = some (some (.ref Mt))) (Qt:K.lookup Mt=some ⟨Qo,Qm,.func (PySem.W.fnOf "law" "law" (fF (top 39)) (dj (top 39)) (aC (top 39)) .none MD MF MG MC Jn MJ),Qn⟩) (Qu:PySem.W.codeIn K Jn "law" = true) (Qv:PySem.W.keepIn K (.ref Mt)=true)
  (zb:vU K ["ValueError","all","bool","dict","int","isinstance","len","list","max","min","range","sorted","tuple","zip"])
  (zc:vV K ["AlgebraError","NoRing","NoPrime","NoInverse","NotWhole","NoUnknowns","NoTerm","NoCount","NoLead","NoOrder","NotWritten","ByNought","NoMeet","NoParts","NotPlain","NoSums"])
  (zp:oH K LZ) (zv:oJ K ["ByNought","NotWhole"]) (zw:PySem.W.nsIn K mainGlobals "ValueError" = some none) (zq:vX K kn) :
  ∃ fd:FuncData,(∀ (s:Shared) (v:Value),BindsTo s fd ⟨[v],[]⟩ [("_law_script",v)])/\∀ base:Heap,K.In base->base.Ns mainGlobals mg->iO l.prog w K mg base (k_ l.prog w) 6 fa fd ["_law_script"] (xf K):=by
 have e:=TQ.symm.trans (PySem.W.mg_of X G Qs)
 cases e
 have T:Txt K mg:=⟨zb.get X G,zc.get X G,zp.get X G (zv.get X G zw),zq.get X G⟩
 obtain ⟨_,_,F0,g0⟩:=h0.get X G
 have zA:=fun (base:Heap)=>wA (P:=l.prog) (w:=w) (base:=base) F0 g0 T
 obtain ⟨_,_,F1,g1⟩:=h1.get X G
 have Jo:=fun (base:Heap)=>Fs (P:=l.prog) (w:=w) (base:=base) F1 g1 T
 obtain ⟨_,_,F2,g2⟩:=h2.get X G
 have Cz:=fun (base:Heap)=>zy (P:=l.prog) (w:=w) (base:=base) F2 g2 T
 obtain ⟨_,_,F3,g3⟩:=h3.get X G
 have uR:=fun (base:Heap)=>sG (P:=l.prog) (w:=w) (base:=base) F3 g3 T
 obtain ⟨_,_,F4,g4⟩:=h4.get X G
 have sN:=fun (base:Heap)=>pO (P:=l.prog) (w:=w) (base:=base) F4 g4 T
 obtain ⟨_,_,F5,g5⟩:=h5.get X G
 have sO:=fun (base:Heap)=>pP (P:=l.prog) (w:=w) (base:=base) F5 g5 T
 obtain ⟨_,_,F6,g6⟩:=h6.get X G
 have pV:=fun (base:Heap)=>o_ (P:=l.prog) (w:=w) (base:=base) F6 g6 T
 obtain ⟨_,_,F7,g7⟩:=h7.get X G
 have jX:=fun (base:Heap)=>uP (P:=l.prog) (w:=w) (base:=base) F7 g7 T
 obtain ⟨_,_,F8,g8⟩:=h8.get X G
 have sP:=fun (base:Heap)=>pQ (P:=l.prog) (w:=w) (base:=base) F8 g8 T
 obtain ⟨_,_,F9,g9⟩:=h9.get X G
 have nc:=fun (base:Heap)=>lV (P:=l.prog) (w:=w) (base:=base) F9 g9 T (Cz base)
 obtain ⟨_,_,TR,TU⟩:=JQ.get X G
 have kS:=fun (base:Heap)=>pR (P:=l.prog) (w:=w) (base:=base) TR TU T (jX base)
 obtain ⟨_,_,TV,TX⟩:=Jy.get X G
 have mL:=fun (base:Heap)=>sJ (P:=l.prog) (w:=w) (base:=base) TV TX T (jX base)
 obtain ⟨_,_,TY,TZ⟩:=Ml.get X G
 have sS:=fun (base:Heap)=>pS (P:=l.prog) (w:=w) (base:=base) TY TZ T (sO base) (pV base) (jX base)
 obtain ⟨_,_,T1,T2⟩:=Mn.get X G
 have pW:=fun (base:Heap)=>pf (P:=l.prog) (w:=w) (base:=base) T1 T2 T (sN base)
 obtain ⟨_,_,T3,T4⟩:=Mo.get X G
 have jt:=fun (base:Heap)=>ja (P:=l.prog) (w:=w) (base:=base) T3 T4 T (zA base) (Jo base) (nc base)
 obtain ⟨_,_,T5,T6⟩:=Qp.get X G
 have ng:=fun (base:Heap)=>lW (P:=l.prog) (w:=w) (base:=base) T5 T6 T (kS base) (mL base)
 obtain ⟨_,_,T7,T8⟩:=Qq.get X G
 have ph:=fun (base:Heap)=>uQ (P:=l.prog) (w:=w) (base:=base) T7 T8 T (jt base)
 obtain ⟨_,_,T9,T_⟩:=Qr.get X G
 have uS:=fun (base:Heap)=>sL (P:=l.prog) (w:=w) (base:=base) T9 T_ T (sP base) (ph base)
 refine ⟨PySem.W.fnOf "law" "law" (fF (top 39)) (dj (top 39)) (aC (top 39)) .none MD MF MG MC Jn MJ,fun s v=>.of_eq rfl,fun base _ _=>?_⟩
 exact (Jm (Ab (st:=top 39) Qt Qu Qv) T (uR base) (kS base) (mL base) (sS base) (pW base) (ng base) (ph base) (uS base)).imp fun _ _ _ _ h=>HX Cw h
end EF
namespace PySem.W.Fast
def tw3131310144378724622:=()
def tw9536245087509432355:=()
def tw2368641753254942696:=()
def tw7552205100039555471:=()
def tw7833455643548661135:=()
def tw6039770517095846775:=()
def tw10800336768495213130:=()
def tw4689581216232420757:=()
def tw13118206407675600770:=()
def tw1139044940830564912:=()
def tw15109254889859910861:=()
def tw14904368368817926143:=()
def tw8395162443337784853:=()
def tw11555111108744032623:=()
def tw15483737181922804460:=()
def tw4385987782675888357:=()
end PySem.W.Fast
open PySem PySem.W PyProof.Rows
set_option maxHeartbeats 0 in
theorem PySem.Challenge.cw_polyring_k27_quotients_holds : PySem.Challenge.rw_polyring_k27_quotients.Holds := by
 w_on; o_law; k_head; (case hw=>w_witness2)
 k_fill
 refine MN.AU (l:=PySem.Challenge.rw_polyring_k27_quotients) (k:=6) (x:="_law_script") rfl rfl ⟨rfl,by decide,by decide⟩ (fun w h Y=>PySem.W.kIn_of Y) ?F
 case F=>
  intro w mg fa h KX G KC
  refine' EF.all_mk KX G KC ?h0 ?h1 ?h2 ?h3 ?h4 ?h5 ?h6 ?h7 ?h8 ?h9 ?JQ ?Jy ?Ml ?Mn ?Mo ?Qp ?Qq ?Qr ?Qs ?Qt ?Qu ?Qv ?zb ?zc ?zp ?zv ?zw ?zq
  (case h0 | h1 | h2 | h3 | h4 | h5 | h6 | h7 | h8 | h9 | JQ | Jy | Ml | Mn | Mo | Qp | Qq | Qr=>refine' MN.oG.mk ?a ?l ?c ?k; (case a=>k_is); (case l=>k_is); (case c=>k_is); (case k=>k_is); skip)
  (case Qs=>k_is)
  (case Qt=>k_is)
  (case Qu=>k_is)
  (case Qv=>k_is)
  case zb=>
   repeat (refine' MN.vU.cons ?a ?_; (case a=>k_is); skip)
   exact .nil
  case zc=>
   repeat (refine' MN.vV.cons ?a ?e ?s ?_; (case a=>k_is); (case e=>k_exc); (case s=>k_is); skip)
   exact .nil
  case zp=>
   repeat (refine' MN.oH.cons ?a ?b ?c ?d ?e ?_; (case a=>k_is); (case b=>k_is); (case c=>k_is); (case d=>k_is); (case e=>first | k_is | kit_is); skip)
   exact .nil
  case zv=>
   repeat (refine' MN.oJ.cons ?a ?e ?_; (case a=>k_is); (case e=>first | k_is | kit_is); skip)
   exact .nil
  (case zw=>k_is)
  case zq=>
   repeat (refine' MN.vX.cons ?a ?e ?_; (case a=>k_is); (case e=>first | k_is | kit_is | rfl | decide +kernel); skip)
   exact .nil
