import PyProof.Rows.All
import Wide.All
import OpenK.AllK
import Wide.FinOn
import Lean
import PyProof.EqAt
import PyProof.EqKinds
import PyProof.TupleCall
import KE.KRevSl
import KE.KUnpack
import PyProof.SumAny
import PyProof.WalksS
import PyProof.NeKinds
import PyProof.ZipIter
import PyProof.WalkInts
import PyProof.AttrMissHeap
import KE.KDictOf
import PyProof.ListRange
import PyProof.P3Eq
import PyProof.NeData
import PyProof.P3In
import PyProof.IsRules
import PyProof.ReprRoads
import PyProof.ReprBulk
import PyProof.ReprRoom
import PyProof.CallFns
import PySem.Challenge.RW_gatepapers_k33_is_circuit
set_option Elab.async false
set_option linter.all false
set_option maxRecDepth 100000
set_option genSizeOf false
set_option genSizeOfSpec false
namespace L2
open PySem PySem.Spec PyProof.Rows
noncomputable abbrev Key:=Sum Int Str
noncomputable def keyIs:Key->Value->Bool
 | .inl k,v=>Value.isInt k v
 | .inr x,v=>Value.isStrOf x v
noncomputable def keyH (w:World):Key->Int
 | .inl k=>hashInt k
 | .inr x=>hashStr w x
theorem keyIs_shape:∀ {k:Key} {v:Value},keyIs k v = true->(∃ i t,k = Sum.inl i/\v = Value.int i t)\/(∃ x t,k = Sum.inr x/\v = Value.str x t)
 | .inl i,v,h=>by
  obtain ⟨t,e⟩:=Value.isInt_shape (k:=i) (v:=v) h
  exact .inl ⟨i,t,rfl,e⟩
 | .inr x,v,h=>by
  obtain ⟨t,e⟩:=Value.isStrOf_shape (x:=x) (v:=v) h
  exact .inr ⟨x,t,rfl,e⟩
theorem key_ll (a b:Int):decide ((Sum.inl a:Key) = Sum.inl b) = (a == b):=by
 by_cases e:a = b
 ·subst e; simp
 ·have h:¬ (Sum.inl a:Key) = Sum.inl b:=fun q=>e (Sum.inl.inj q)
  rw [decide_eq_false h]
  exact (beq_eq_false_iff_ne.mpr e).symm
theorem key_rr (a b:Str):decide ((Sum.inr a:Key) = Sum.inr b) = decide (a = b):=by
 by_cases e:a = b
 ·subst e; simp
 ·have h:¬ (Sum.inr a:Key) = Sum.inr b:=fun q=>e (Sum.inr.inj q)
  rw [decide_eq_false h,decide_eq_false e]
theorem key_lr (a:Int) (b:Str):decide ((Sum.inl a:Key) = Sum.inr b) = false:=decide_eq_false (fun q=>nomatch q)
theorem key_rl (a:Str) (b:Int):decide ((Sum.inr a:Key) = Sum.inl b) = false:=decide_eq_false (fun q=>nomatch q)
noncomputable def mixKind (prog:Program) (w:World):PySem.KeyKind prog w Key where
 is:=keyIs
 hash:=keyH w
 inj:=fun v a b ha hb=>by
  rcases keyIs_shape ha with ⟨i,t,rfl,rfl⟩ | ⟨x,t,rfl,rfl⟩
  ·rcases keyIs_shape hb with ⟨j,u,rfl,e⟩ | ⟨y,u,rfl,e⟩
   ·injection e with e1 _; rw [e1]
   ·exact nomatch e
  ·rcases keyIs_shape hb with ⟨j,u,rfl,e⟩ | ⟨y,u,rfl,e⟩
   ·exact nomatch e
   ·injection e with e1 _; rw [e1]
 byValue:=fun k v h=>by
  rcases keyIs_shape h with ⟨i,t,rfl,rfl⟩ | ⟨x,t,rfl,rfl⟩ <;> rfl
 pyHash:=fun hv h=>by
  rcases keyIs_shape hv with ⟨i,t,rfl,rfl⟩ | ⟨x,t,rfl,rfl⟩
  ·exact wpAny_pyHash_int h
  ·exact wpAny_pyHash_str h
 eqBool:=fun hu hv h=>by
  rcases keyIs_shape hu with ⟨i,t,rfl,rfl⟩ | ⟨x,t,rfl,rfl⟩
  ·rcases keyIs_shape hv with ⟨j,u,rfl,rfl⟩ | ⟨y,u,rfl,rfl⟩
   ·rw [key_ll] at h; exact wpAny_eqBool_int h
   ·rw [key_lr] at h; exact SeqAt.EqAt.int_str i t y u _ _ _ _ h
  ·rcases keyIs_shape hv with ⟨j,u,rfl,rfl⟩ | ⟨y,u,rfl,rfl⟩
   ·rw [key_rl] at h; exact SeqAt.EqAt.str_int x t j u _ _ _ _ h
   ·rw [key_rr] at h; exact wpAny_eqBool_str h
 «strs»:=fun k x t v h=>by
  rcases keyIs_shape h with ⟨i,u,rfl,e⟩ | ⟨y,u,rfl,e⟩
  ·exact nomatch e
  ·injection e with e1 _
   subst e1
   cases v <;> rfl
end L2
namespace L2
open PySem PySem.Spec PyProof.Rows
inductive V where
 | non | bl (b:Bool) | int (i:Int) | str (x:Str) | byt (b:Array UInt8) | flt (b:UInt64) | ref (a:Addr) | ty (n:String)
 deriving DecidableEq
noncomputable def RelV:V->Value->Prop
 | .non,u=>u = Value.none
 | .bl b,u=>u = Value.bool b
 | .int i,u=>∃ t,u = Value.int i t
 | .str x,u=>∃ t,u = Value.str x t
 | .byt b,u=>∃ t,u = Value.bytes b t
 | .flt b,u=>∃ t,u = Value.float b t
 | .ref a,u=>u = Value.ref a
 | .ty n,u=>u = Value.type n
noncomputable abbrev Vals:List V->List Value->Prop:=Paired RelV
theorem Vals.length {xs:List V} {us:List Value} (r:Vals xs us):xs.length = us.length:=Paired.length r
theorem Vals.get:∀ {xs:List V} {us:List Value} {i:Nat} {x:V},Vals xs us->xs[i]? = some x->∃ u,us[i]? = some u/\RelV x u
 | _,_,_,_,.nil,e=>by simp at e
 | _,_,0,_,.cons r _,e=>by simp at e; subst e; exact ⟨_,rfl,r⟩
 | _,_,i + 1,x,.cons _ t,e=>by
  obtain ⟨u,h1,h2⟩:=Vals.get (i:=i) (x:=x) t (by simpa using e)
  exact ⟨u,by simpa using h1,h2⟩
theorem Vals.set {x:V} {u:Value} (r:RelV x u):∀ {xs:List V} {us:List Value} (i:Nat),Vals xs us->Vals (xs.set i x) (us.set i u)
 | _,_,_,.nil=>.nil
 | _,_,0,.cons _ t=>.cons r t
 | _,_,i + 1,.cons q t=>.cons q (Vals.set r i t)
theorem Vals.append:∀ {xs ys:List V} {us ws:List Value},Vals xs us->Vals ys ws->Vals (xs ++ ys) (us ++ ws)
 | _,_,_,_,.nil,s=>s
 | _,_,_,_,.cons r t,s=>.cons r (Vals.append t s)
theorem Vals.take:∀ {xs:List V} {us:List Value} (n:Nat),Vals xs us->Vals (xs.take n) (us.take n)
 | _,_,0,_=>.nil
 | _,_,_ + 1,.nil=>.nil
 | _,_,n + 1,.cons r t=>.cons r (Vals.take n t)
theorem Vals.drop:∀ {xs:List V} {us:List Value} (n:Nat),Vals xs us->Vals (xs.drop n) (us.drop n)
 | _,_,0,r=>r
 | _,_,_ + 1,.nil=>.nil
 | _,_,n + 1,.cons _ t=>Vals.drop n t
theorem Vals.none_of:∀ {xs:List V} {us:List Value} {i:Nat},Vals xs us->xs[i]? = none->us[i]? = none:=fun {xs us i} r e=>by
 have h1:=r.length
 have h2:xs.length<=i:=List.getElem?_eq_none_iff.mp e
 exact List.getElem?_eq_none_iff.mpr (by omega)
noncomputable def RelO:Option V->Option Value->Prop
 | some v,some u=>RelV v u
 | none,none=>True
 | _,_=>False
noncomputable def KV {κ:Type}:List (κ × V)->List (κ × Value)->Prop:=Paired fun (p:κ × V) (q:κ × Value)=>p.1 = q.1/\RelV p.2 q.2
noncomputable def kV:Key->V
 | .inl i=>.int i
 | .inr x=>.str x
inductive HO where
 | lst (xs:List V)
 | tup (xs:List V)
 | dK (kvs:List (Key × V)) | dT (kvs:List (List Key × V))
 | set (S:Int->Bool) (n:Nat)
 | ins (C dx:Addr) (fs:List (Str × V))
 | own (x:Addr)
 | xd (fs:List (Str × V))
 | met (f x:Addr)
 | rng (lo hi:Int)
 | frz (o:Obj) (u:HO)
 | tbl (ps:Array Value)
 | ext (φ:Heap->Prop)
noncomputable abbrev Hp:=Addr->Option HO
noncomputable def upd (H:Hp) (a:Addr) (o:HO):Hp:=fun b=>if b = a then some o else H b
theorem upd_same {H:Hp} {a:Addr} {o:HO}:upd H a o a = some o:=by unfold upd; rw [if_pos rfl]
theorem upd_ne {H:Hp} {a b:Addr} {o:HO} (h:b ≠ a):upd H a o b = H b:=by unfold upd; rw [if_neg h]
theorem ne_of_none {H:Hp} {a b:Addr} {o:HO} (h:H a = some o) (h':H b = none):a ≠ b:=by
 intro e; subst e; rw [h] at h'; cases h'
section
variable (P:Program) (w:World)
noncomputable def ObjOk (H:Hp) (h:Heap) (a:Addr):HO->Prop
 | .lst xs=>xs.length<=sizeLine/\∃ (its:List Value) (n:Nat),Vals xs its/\h.get? a = some { cls:=.type "list",data:=.seq its.toArray n }
 | .tup xs=>xs.length<=sizeLine/\∃ its:List Value,Vals xs its/\IsTup h a its.toArray
 | .dK kvs=>kvs.length<=sizeLine/\(a == sysModules) = false/\∃ vs,KV kvs vs/\h.DictOf (mixKind P w) a vs
 | .dT kvs=>kvs.length<=sizeLine/\(a == sysModules) = false/\∃ xs:List (List Key × Addr × Value),
   Paired (fun (p:List Key × V) (q:List Key × Addr × Value)=>p.1 = q.1/\H q.2.1 = some (.tup (p.1.map kV))/\RelV p.2 q.2.2) kvs xs/\
   ∃ o es ep,h.get? a = some o/\o.ExactDict/\o.data = .dict es ep/\es.toList = xs.map (entryOfKey (tupleKind (mixKind P w)))/\(xs.map (·.1)).Nodup
 | .set S n=>h.SetOf (intKind P w) a S n
 | .ins C dx fs=>H dx = some (.own a)/\fs.length<=1000/\dx ≠ a/\h.get? a = some (PySem.W.instObj C dx)/\
   ∃ mA,h.Ns1 dx mA/\(∀ f,RelO (fs.lookup f) (mA f))/\PySem.Within mA (fs.map (·.1))
 | .own _=>∃ o,h.get? a = some o
 | .xd fs=>∃ mA,h.Ns1 a mA/\∀ f,RelO (fs.lookup f) (mA f)
 | .rng lo hi=>∃ t u v,h.get? a = some { cls:=.type "range",data:=.fields #[.int lo t,.int hi u,.int 1 v] }
 | .frz o u=>h.get? a = some o/\ObjOk H h a u
 | .tbl ps=>h.get? a = some { cls:=.none,data:=.fields ps }
 | .met f x=>h.get? a = some (PySem.W.methodObj (.ref f) (.ref x))
 | .ext φ=>φ h/\(∃ o,h.get? a = some o)/\∀ h1 h2:Heap,φ h1->(∀ o,h1.get? a = some o->h2.get? a = some o)->φ h2
noncomputable def HOk (H:Hp) (h:Heap):Prop:=∀ a o,H a = some o->ObjOk P w H h a o
end
section
variable {P:Program} {w:World} {H H':Hp} {h h':Heap} {a:Addr} {o:HO}
theorem ObjOk.lt (x:ObjOk P w H h a o):a < h.objs.size:=by
 cases o with
 | lst xs=>obtain ⟨_,_,_,_,e⟩:=x; exact Heap.lt_size e
 | tup xs=>obtain ⟨_,_,_,p⟩:=x; exact p.lt
 | dK kvs=>obtain ⟨_,_,_,_,o,_,_,e,_⟩:=x; exact Heap.lt_size e
 | dT kvs=>obtain ⟨_,_,_,_,o,_,_,e,_⟩:=x; exact Heap.lt_size e
 | set S n=>obtain ⟨o,_,_,_,e,_⟩:=x; exact Heap.lt_size e
 | ins C dx fs=>obtain ⟨_,_,_,e,_⟩:=x; exact Heap.lt_size e
 | own y=>obtain ⟨_,e⟩:=x; exact Heap.lt_size e
 | xd fs=>obtain ⟨_,⟨_,_,_,e,_⟩,_⟩:=x; exact Heap.lt_size e
 | rng lo hi=>obtain ⟨_,_,_,e⟩:=x; exact Heap.lt_size e
 | frz ob u=>obtain ⟨e,_⟩:=x; exact Heap.lt_size e
 | tbl ps=>exact Heap.lt_size (show h.get? a = some _ from x)
 | met f y=>exact Heap.lt_size (show h.get? a = some _ from x)
 | ext φ=>obtain ⟨_,⟨_,e⟩,_⟩:=x; exact Heap.lt_size e
theorem Paired.mapP {α β:Type} {F G:α->β->Prop}:∀ {l₁:List α} {l₂:List β},Paired F l₁ l₂->(∀ a b,F a b->G a b)->Paired G l₁ l₂
 | _,_,.nil,_=>.nil
 | _,_,.cons r t,f=>.cons (f _ _ r) (Paired.mapP t f)
theorem ObjOk.stay (x:ObjOk P w H h a o) (k:∀ b u,(b = a\/H b = some (.own a))->h.get? b = some u->h'.get? b = some u)
  (ho:∀ b,H b = some (.own a)->H' b = some (.own a)) (ht:∀ b xs,H b = some (.tup xs)->H' b = some (.tup xs)):ObjOk P w H' h' a o:=by
 induction o with
 | lst xs=>obtain ⟨z,its,n,r,e⟩:=x; exact ⟨z,its,n,r,k _ _ (.inl rfl) e⟩
 | tup xs=>obtain ⟨z,its,r,ob,e,c⟩:=x; exact ⟨z,its,r,ob,k _ _ (.inl rfl) e,c⟩
 | dK kvs=>obtain ⟨z,y,vs,r,ob,es,ep,e,c⟩:=x; exact ⟨z,y,vs,r,ob,es,ep,k _ _ (.inl rfl) e,c⟩
 | dT kvs=>
  obtain ⟨z,y,xs,r,ob,es,ep,e,c⟩:=x
  exact ⟨z,y,xs,Paired.mapP r fun p q z=>⟨z.1,ht _ _ z.2.1,z.2.2⟩,ob,es,ep,k _ _ (.inl rfl) e,c⟩
 | set S n=>obtain ⟨ob,es,ep,t,e,c⟩:=x; exact ⟨ob,es,ep,t,k _ _ (.inl rfl) e,c⟩
 | ins C dx fs=>
  obtain ⟨d,z,ne,e,mA,⟨od,es,ep,e2,c⟩,r⟩:=x
  exact ⟨ho _ d,z,ne,k _ _ (.inl rfl) e,mA,⟨od,es,ep,k _ _ (.inr d) e2,c⟩,r⟩
 | own y=>obtain ⟨ob,e⟩:=x; exact ⟨ob,k _ _ (.inl rfl) e⟩
 | xd fs=>obtain ⟨mA,⟨od,es,ep,e,c⟩,r⟩:=x; exact ⟨mA,⟨od,es,ep,k _ _ (.inl rfl) e,c⟩,r⟩
 | rng lo hi=>obtain ⟨t,u,v,e⟩:=x; exact ⟨t,u,v,k _ _ (.inl rfl) e⟩
 | frz ob u ih=>obtain ⟨e,q⟩:=x; exact ⟨k _ _ (.inl rfl) e,ih q⟩
 | tbl ps=>
  have e:h.get? a = some { cls:=.none,data:=.fields ps }:=x
  show h'.get? a = some { cls:=.none,data:=.fields ps }
  exact k a _ (.inl rfl) e
 | met f y=>
  have e:h.get? a = some (PySem.W.methodObj (.ref f) (.ref y)):=x
  show h'.get? a = some (PySem.W.methodObj (.ref f) (.ref y))
  exact k a _ (.inl rfl) e
 | ext φ=>obtain ⟨p,⟨o,e⟩,st⟩:=x; exact ⟨st _ _ p fun o q=>k _ _ (.inl rfl) q,⟨o,k _ _ (.inl rfl) e⟩,st⟩
theorem HOk.lt (x:HOk P w H h) (e:H a = some o):a < h.objs.size:=(x a o e).lt
theorem HOk.fresh (x:HOk P w H h) (e:h.objs.size<=a):H a = none:=by
 cases q:H a with
 | none=>rfl
 | some u=>exact absurd (Nat.lt_of_lt_of_le (x.lt q) e) (Nat.lt_irrefl _)
theorem HOk.kept (x:HOk P w H h) (k:∀ b u,h.get? b = some u->h'.get? b = some u):HOk P w H h':=fun a o e=>
 (x a o e).stay (fun b u _ q=>k b u q) (fun _ q=>q) fun _ _ q=>q
theorem HOk.laid (x:HOk P w H h) (k:∀ b u,h.get? b = some u->h'.get? b = some u) (hp:h.objs.size<=a) (new:ObjOk P w (upd H a o) h' a o):HOk P w (upd H a o) h':=fun b u e=>by
 have hn:=x.fresh hp
 by_cases hb:b = a
 ·subst hb; rw [upd_same] at e; cases e; exact new
 ·rw [upd_ne hb] at e
  exact (x b u e).stay (fun c v _ q=>k c v q) (fun c q=>by rw [upd_ne (ne_of_none q hn)]; exact q) fun c xs q=>by rw [upd_ne (ne_of_none q hn)]; exact q
end
noncomputable def Rd (H:Hp) (a:Addr) (u:HO):Prop:=H a = some u\/∃ o,H a = some (.frz o u)
theorem Rd.ok {P:Program} {w:World} {H:Hp} {h:Heap} {a:Addr} {u:HO} (r:Rd H a u) (x:HOk P w H h):ObjOk P w H h a u:=by
 rcases r with r | ⟨o,r⟩
 ·exact x a u r
 ·obtain ⟨_,q⟩:=x a _ r
  exact q
noncomputable def Mut:Option HO->Prop
 | some (.lst _)=>True
 | some (.dK _)=>True
 | some (.dT _)=>True
 | some (.set _ _)=>True
 | some (.ins _ _ _)=>True
 | some (.ext _)=>True
 | _=>False
section
variable {P:Program} {w:World} {H:Hp} {h h':Heap} {x e:Addr} {o':HO}
theorem HOk.write (ok:HOk P w H h) (mu:Mut (H x)) (he:e = x\/H e = some (.own x)) (k:∀ b u,b ≠ e->h.get? b = some u->h'.get? b = some u) (heo:∃ u,h'.get? e = some u)
  (new:ObjOk P w (upd H x o') h' x o'):HOk P w (upd H x o') h':=fun b u q=>by
 have nown:∀ c y,H c = some (.own y)->c ≠ x:=fun c y r z=>by subst z; rw [r] at mu; exact mu
 have ntup:∀ c xs,H c = some (.tup xs)->c ≠ x:=fun c xs r z=>by subst z; rw [r] at mu; exact mu
 by_cases hb:b = x
 ·subst hb; rw [upd_same] at q; cases q; exact new
 ·rw [upd_ne hb] at q
  by_cases hbe:b = e
  ·have q':H b = some (.own x):=by
    rcases he with z | z
    ·exact absurd (hbe.trans z) hb
    ·rw [hbe]; exact z
   rw [q] at q'; cases q'
   obtain ⟨v,hv⟩:=heo
   exact ⟨v,by rw [hbe]; exact hv⟩
  ·refine (ok b u q).stay (fun c v hc r=>k c v ?_ r) (fun c r=>by rw [upd_ne (nown c b r)]; exact r) fun c xs r=>by rw [upd_ne (ntup c xs r)]; exact r
   rcases hc with rfl | hc
   ·exact hbe
   ·rintro rfl
    rcases he with z | z
    ·exact nown c b hc z
    ·rw [hc] at z; cases z; exact hb rfl
end
structure Un (fs ex:List Addr) (H H':Hp) (h h':Heap):Prop where
 keep:∀ b o,h.get? b = some o->H b = none->b ∉ fs->b ∉ ex->h'.get? b = some o
 slot:∀ b o,h.get? b = some o->H b = none->b ∈ fs->b ∉ ex->∃ sl,h'.get? b = some { o with slots:=sl }
 free:∀ b o,h.get? b = some o->H b = none->b ∉ ex->H' b = none
 there:∀ b o,h.get? b = some o->b ∉ ex->∃ o',h'.get? b = some o'
 tups:∀ b xs,H b = some (.tup xs)->H' b = some (.tup xs)
 frzs:∀ b o u,H b = some (.frz o u)->H' b = some (.frz o u)
 tbls:∀ b ps,H b = some (.tbl ps)->∃ more,H' b = some (.tbl (ps ++ more))
section
variable {fs fs' ex ex':List Addr} {H H1 H2:Hp} {h h1 h2 h':Heap} {a x e:Addr} {o:HO}
theorem Un.any (u:Un fs ex H H1 h h1) {b:Addr} {ob:Obj} (q:h.get? b = some ob) (n:H b = none) (hx:b ∉ ex):∃ sl,h1.get? b = some { ob with slots:=sl }:=by
 by_cases hb:b ∈ fs
 ·exact u.slot b ob q n hb hx
 ·exact ⟨ob.slots,u.keep b ob q n hb hx⟩
theorem Un.kept (k:∀ b u,h.get? b = some u->h'.get? b = some u):Un fs ex H H h h':=
 ⟨fun b ob q _ _ _=>k b ob q,fun b ob q _ _ _=>⟨ob.slots,k b ob q⟩,fun _ _ _ n _=>n,fun b ob q _=>⟨ob,k b ob q⟩,fun _ _ q=>q,fun _ _ _ q=>q,fun _ ps q=>⟨#[],by rw [q]; simp⟩⟩
theorem Un.refl:Un fs ex H H h h:=Un.kept fun _ _ q=>q
theorem Un.laid (k:∀ b u,h.get? b = some u->h'.get? b = some u) (hp:h.objs.size<=a) (hn:H a = none):Un fs ex H (upd H a o) h h' where
 keep:=fun b u q _ _ _=>k b u q
 slot:=fun b u q _ _ _=>⟨u.slots,k b u q⟩
 free:=fun b u q n _=>by rw [upd_ne (Nat.ne_of_lt (Nat.lt_of_lt_of_le (Heap.lt_size q) hp))]; exact n
 there:=fun b u q _=>⟨u,k b u q⟩
 tups:=fun b xs q=>by rw [upd_ne (ne_of_none q hn)]; exact q
 frzs:=fun b u xs q=>by rw [upd_ne (ne_of_none q hn)]; exact q
 tbls:=fun b ps q=>⟨#[],by rw [upd_ne (ne_of_none q hn),q]; simp⟩
theorem Un.write (mu:Mut (H x)) (he:e = x\/H e = some (.own x)) (k:∀ b u,b ≠ e->h.get? b = some u->h'.get? b = some u) (heo:∃ u,h'.get? e = some u):Un fs ex H (upd H x o) h h':=by
 have hx:∀ b,H b = none->b ≠ x:=fun b n z=>by subst z; rw [n] at mu; exact mu
 have hb:∀ b,H b = none->b ≠ e:=fun b n z=>by
  subst z
  rcases he with r | r
  ·exact hx b n r
  ·rw [n] at r; cases r
 have hm:∀ b u,H b = some u->¬ Mut (some u)->b ≠ x:=fun b u q nm z=>by subst z; rw [q] at mu; exact nm mu
 refine ⟨fun b u q n _ _=>k b u (hb b n) q,fun b u q n _ _=>⟨u.slots,k b u (hb b n) q⟩,fun b u q n _=>by rw [upd_ne (hx b n)]; exact n,fun b u q _=>?_,
  fun b xs q=>by rw [upd_ne (hm b _ q fun z=>z)]; exact q,fun b u xs q=>by rw [upd_ne (hm b _ q fun z=>z)]; exact q,fun b ps q=>⟨#[],by rw [upd_ne (hm b _ q fun z=>z),q]; simp⟩⟩
 by_cases hbe:b = e
 ·subst hbe; exact heo
 ·exact ⟨u,k b u hbe q⟩
end
noncomputable def trk (h:Heap) (H:Hp):List Addr:=(List.range h.objs.size).filter fun a=>(H a).isSome
noncomputable def hidT (h:Heap) (H:Hp):Heap:=PySem.W.hideAll h (trk h H)
theorem hidT_size (h:Heap) (H:Hp):(hidT h H).objs.size = h.objs.size:=PySem.W.hideAll_size _ _
theorem hidT_get {h:Heap} {H:Hp} {b:Addr} {o:Obj} (e:h.get? b = some o) (n:H b = none):(hidT h H).get? b = some o:=
 PySem.W.hideAll_get _ e fun hm=>by
  have q:(H b).isSome = true:=(List.mem_filter.mp hm).2
  rw [n] at q; simp at q
theorem of_hidT {h:Heap} {H:Hp} {b:Addr} {o:Obj} (e:(hidT h H).get? b = some o):h.get? b = some o/\H b = none:=by
 have e':h.get? b = some o:=PySem.W.of_hideAll (trk h H) e
 refine ⟨e',?_⟩
 cases q:H b with
 | none=>rfl
 | some x=>
  have hm:b ∈ trk h H:=List.mem_filter.mpr ⟨List.mem_range.mpr (Heap.lt_size e'),by simp [q]⟩
  have z:(hidT h H).get? b = none:=PySem.W.hideAll_none (trk h H) hm
  rw [z] at e; cases e
noncomputable def allNews (g h:Heap) (L:Addr):List (Addr × Obj):=(List.range h.objs.size).filterMap fun a=>if a = L\/(g.get? a).isSome = true then none else (h.get? a).map fun o=>(a,o)
noncomputable def rest (g h:Heap) (L d:Addr):List (Addr × Obj):=(allNews g h L).filter fun p=>decide (p.1 ≠ d)
end L2
namespace L2
open PySem PySem.Spec PyProof.Rows
structure Mod (K:PySem.W.Frag) (mg:Str->Option Value) (base:Heap):Prop where
 kin:K.In base
 glob:base.Ns mainGlobals mg
 blt:∃ mb,base.Ns builtinsNs mb/\∀ x:Str,x ≠ "__name__"->mb x = bootBuiltins x
 nolimit:base.NoLimit
structure Cx where
 prog:Program
 w:World
 K:PySem.W.Frag
 mg:Str->Option Value
 base:Heap
 A:Around
 N:List Str
 s₀:Shared
 H₀:Hp
 env:Env
 outer:List Env
 stack:List Env
 ex:List Addr
 fn:Str->Bool
 calm:Bool
 pn:List (Addr × Obj)
 xe:Value->Shared->Prop
noncomputable def frs (l:List Env):List Addr:=l.filterMap (·.frame)
noncomputable abbrev Cx.fs (X:Cx):List Addr:=frs X.outer
noncomputable def Vis (sc:Scope) (x:Str):Prop:=sc.names.lookup x = some .local\/sc.names.lookup x = some .cell\/sc.names.lookup x = some .free
noncomputable def Loc (sc:Scope) (x:Str):Prop:=sc.names.lookup x = some .local\/sc.names.lookup x = some .cell
noncomputable def Look (env:Env) (h:Heap) (m:Str->Option Value) (x:Str) (u:Value):Prop:=
 (env.kindOf x = some .local/\m x = some u)\/((env.kindOf x = some .cell\/env.kindOf x = some .free)/\∃ c,env.cells.lookup x = some c/\h.IsCell c (some u))
structure Cx.Ok (X:Cx):Prop where
 mod:Mod X.K X.mg X.base
 kind:X.env.scope.kind = .function
 glob:X.env.globals = mainGlobals
 blt:X.env.builtins = builtinsNs
 above:X.s₀.heap.objs.size<=X.env.locals
 inj:∀ x y c,X.env.cells.lookup x = some c->X.env.cells.lookup y = some c->x = y
 has:∀ x,(X.env.kindOf x = some .cell\/X.env.kindOf x = some .free)->∃ c,X.env.cells.lookup x = some c
 cab:∀ x c,X.fn x = true->X.env.cells.lookup x = some c->X.s₀.heap.objs.size<=c
 hd:X.calm = true->X.A.handled = none
 frames:X.A.frames = some X.stack
 stk:X.stack = X.outer\/(X.stack = X.env :: X.outer/\X.env.frame = some X.env.locals)
 exf:∀ b ∈ X.ex,b ≠ X.env.locals/\∀ x c,X.env.cells.lookup x = some c->c ≠ b
 bs:∀ b o,X.base.get? b = some o->X.s₀.heap.get? b = some o/\X.H₀ b = none
 bsz:X.base.objs.size<=X.s₀.heap.objs.size
 noex:∀ b o,X.base.get? b = some o->b ∉ X.ex
 exfs:∀ b ∈ X.ex,b ∉ X.fs
 funs:X.s₀.heap.FunFrames X.base X.outer
 frf:∀ b ∈ X.fs,X.H₀ b = none
structure Inv (X:Cx) (pins:List (Addr × Obj)) (σ:List (Option V)) (H:Hp) (s:Shared):Prop where
 ok:X.Ok
 os:s.os = X.s₀.os
 bare:AllBare s.gens
 base:Un X.fs X.ex X.H₀ H X.s₀.heap s.heap
 loc:∃ m,s.heap.Ns X.env.locals m/\∀ (i:Nat) (x:Str) (v:V),X.N[i]? = some x->σ[i]? = some (some v)->Vis X.env.scope x->∃ u,RelV v u/\Look X.env s.heap m x u
 cell:∀ x c,X.env.cells.lookup x = some c->∃ v,s.heap.IsCell c v
 free:H X.env.locals = none
 freeC:∀ x c,X.env.cells.lookup x = some c->H c = none
 pin:∀ p ∈ X.pn ++ pins,s.heap.get? p.1 = some p.2/\H p.1 = none/\p.1 ≠ X.env.locals/\p.1 ∉ X.fs/\∀ v,p.2.data ≠ .cell v
 hok:HOk X.prog X.w H s.heap
 len:σ.length = X.N.length
section
variable {X:Cx} {pins:List (Addr × Obj)} {σ:List (Option V)} {H H':Hp} {s:Shared} {h':Heap}
theorem Cx.Ok.nofr (ok:X.Ok) {b:Addr} {o:Obj} (e:X.base.get? b = some o):b ∉ X.fs:=fun hb=>by
 have:=(ok.funs.mem hb).1
 rw [e] at this; cases this
theorem Inv.bs (I:Inv X pins σ H s):∀ b o,X.base.get? b = some o->s.heap.get? b = some o/\H b = none:=fun b o e=>
 ⟨I.base.keep b o (I.ok.bs b o e).1 (I.ok.bs b o e).2 (I.ok.nofr e) (I.ok.noex b o e),I.base.free b o (I.ok.bs b o e).1 (I.ok.bs b o e).2 (I.ok.noex b o e)⟩
theorem Inv.bk (I:Inv X pins σ H s):∀ b o,X.base.get? b = some o->s.heap.get? b = some o:=fun b o e=>(I.bs b o e).1
theorem Inv.mod (I:Inv X pins σ H s):Mod X.K X.mg X.base:=I.ok.mod
theorem Inv.kIn (I:Inv X pins σ H s):X.K.In s.heap:=I.ok.mod.kin.keeps I.bk
theorem Inv.lt (I:Inv X pins σ H s):X.env.locals < s.heap.objs.size:=let ⟨_,hn,_⟩:=I.loc; hn.lt
theorem Inv.sz (I:Inv X pins σ H s):X.s₀.heap.objs.size<=s.heap.objs.size:=Nat.le_trans I.ok.above (Nat.le_of_lt I.lt)
theorem Inv.nofs (I:Inv X pins σ H s) {a:Addr} (h:s.heap.objs.size<=a):a ∉ X.fs:=fun hb=>by
 obtain ⟨_,o,ho,_⟩:=I.ok.funs.mem hb
 exact absurd (Nat.lt_of_lt_of_le (Heap.lt_size ho) (Nat.le_trans I.sz h)) (Nat.lt_irrefl _)
theorem Inv.cne (I:Inv X pins σ H s):∀ x c,X.env.cells.lookup x = some c->c ≠ X.env.locals:=fun x c e z=>by
 obtain ⟨v,o,ho,hd⟩:=I.cell x c e
 obtain ⟨m,⟨o',es,ep,ho',hd',_⟩,_⟩:=I.loc
 rw [z,ho'] at ho; cases ho; rw [hd'] at hd; cases hd
theorem Inv.funs (I:Inv X pins σ H s):s.heap.FunFrames X.base X.outer:=by
 have all:∀ (l:List Env),(∀ b ∈ frs l,b ∈ X.fs)->X.s₀.heap.FunFrames X.base l->s.heap.FunFrames X.base l:=by
  intro l
  induction l with
  | nil=>intro _ _; trivial
  | cons env r ih=>
   intro hs hl
   obtain ⟨hk,⟨L,o,hf,hn,ho,hd⟩,hr⟩:=hl
   have hL:L ∈ X.fs:=hs L (by unfold frs; rw [List.filterMap_cons,hf]; exact List.mem_cons_self)
   obtain ⟨sl,e⟩:=I.base.slot L o ho (I.ok.frf L hL) hL fun z=>I.ok.exfs L z hL
   exact ⟨hk,⟨L,_,hf,hn,e,hd⟩,ih (fun b hb=>hs b (by unfold frs; rw [List.filterMap_cons,hf]; exact List.mem_cons_of_mem _ hb)) hr⟩
 exact all X.outer (fun _ hb=>hb) I.ok.funs
theorem Inv.stack (I:Inv X pins σ H s):s.heap.FunFrames X.base X.stack:=by
 rcases I.ok.stk with e | ⟨e,hf⟩
 ·rw [e]; exact I.funs
 ·rw [e]
  obtain ⟨m,hn,_⟩:=I.loc
  refine .cons (by rw [I.ok.kind]; decide) hf hn ?_ I.funs
  exact Heap.get?_none_of_le (Nat.le_trans I.ok.bsz I.ok.above)
theorem Inv.stkSub (I:Inv X pins σ H s):∀ b ∈ frs X.stack,b ∈ X.env.locals :: X.fs:=fun b hb=>by
 rcases I.ok.stk with e | ⟨e,hf⟩
 ·rw [e] at hb; exact List.mem_cons_of_mem _ hb
 ·rw [e] at hb
  unfold frs at hb
  rw [List.filterMap_cons,hf] at hb
  exact hb
theorem Inv.stkFree (I:Inv X pins σ H s):∀ b ∈ frs X.stack,H b = none:=fun b hb=>by
 rcases List.mem_cons.mp (I.stkSub b hb) with e | hb
 ·rw [e]; exact I.free
 ·obtain ⟨_,o,ho,_⟩:=I.ok.funs.mem hb
  exact I.base.free b o ho (I.ok.frf b hb) fun z=>I.ok.exfs b z hb
theorem Inv.step {g':Array GenState} {t':Nat} {d':Drawn} {ch:List Addr} (I:Inv X pins σ H s)
  (hch:∀ b ∈ ch,(b ∈ X.ex\/X.s₀.heap.objs.size<=b)/\b ≠ X.env.locals/\(∀ x c,X.env.cells.lookup x = some c->c ≠ b)/\∀ p ∈ X.pn ++ pins,p.1 ≠ b)
  (keep:∀ b o,b ≠ X.env.locals->b ∉ X.fs->b ∉ ch->s.heap.get? b = some o->H b = none->h'.get? b = some o)
  (slot:∀ b o,b ≠ X.env.locals->b ∈ X.fs->b ∉ ch->s.heap.get? b = some o->H b = none->∃ sl,h'.get? b = some { o with slots:=sl }) (free:∀ b o,b ∉ ch->s.heap.get? b = some o->H b = none->H' b = none)
  (there:∀ b o,b ∉ ch->s.heap.get? b = some o->∃ o',h'.get? b = some o')
  (tups:∀ b xs,H b = some (.tup xs)->H' b = some (.tup xs)) (frzs:∀ b o u,H b = some (.frz o u)->H' b = some (.frz o u)) (tbls:∀ b ps,H b = some (.tbl ps)->∃ more,H' b = some (.tbl (ps ++ more)))
  (ns:∀ m,s.heap.Ns X.env.locals m->h'.Ns X.env.locals m) (hok:HOk X.prog X.w H' h') (hg:AllBare g') :
  Inv X pins σ H' { s with heap:=h',gens:=g',drawn:=d',toks:=t' }:=by
 have neL:∀ b o,X.s₀.heap.get? b = some o->b ≠ X.env.locals:=fun b o e=>Nat.ne_of_lt (Nat.lt_of_lt_of_le (Heap.lt_size e) I.ok.above)
 have neC:∀ b o,X.s₀.heap.get? b = some o->b ∉ X.ex->b ∉ ch:=fun b o e hx hb=>by
  rcases (hch b hb).1 with z | z
  ·exact hx z
  ·exact absurd (Nat.lt_of_lt_of_le (Heap.lt_size e) z) (Nat.lt_irrefl _)
 have cellK:∀ x c,X.env.cells.lookup x = some c->∀ v,s.heap.IsCell c v->h'.IsCell c v:=fun x c e v ⟨o,ho,hd⟩=>by
  have nch:c ∉ ch:=fun z=>(hch c z).2.2.1 x c e rfl
  by_cases hc:c ∈ X.fs
  ·obtain ⟨sl,q⟩:=slot c o (I.cne x c e) hc nch ho (I.freeC x c e)
   exact ⟨_,q,hd⟩
  ·exact ⟨o,keep c o (I.cne x c e) hc nch ho (I.freeC x c e),hd⟩
 refine ⟨I.ok,I.os,hg,⟨fun b o e n hb hx=>?_,fun b o e n hb hx=>?_,fun b o e n hx=>?_,fun b o e hx=>?_,fun b xs e=>tups b xs (I.base.tups b xs e),fun b o xs e=>frzs b o xs (I.base.frzs b o xs e),fun b ps e=>?_⟩,?_,fun x c e=>?_,?_,fun x c e=>?_,fun p hp=>?_,hok,I.len⟩
 ·exact keep b o (neL b o e) hb (neC b o e hx) (I.base.keep b o e n hb hx) (I.base.free b o e n hx)
 ·obtain ⟨sl,e1⟩:=I.base.slot b o e n hb hx
  obtain ⟨sl',e2⟩:=slot b _ (neL b o e) hb (neC b o e hx) e1 (I.base.free b o e n hx)
  exact ⟨sl',e2⟩
 ·obtain ⟨o',e1⟩:=I.base.there b o e hx
  exact free b o' (neC b o e hx) e1 (I.base.free b o e n hx)
 ·obtain ⟨o',e1⟩:=I.base.there b o e hx
  exact there b o' (neC b o e hx) e1
 ·obtain ⟨m1,e1⟩:=I.base.tbls b ps e
  obtain ⟨m2,e2⟩:=tbls b _ e1
  exact ⟨m1 ++ m2,by rw [e2,Array.append_assoc]⟩
 ·obtain ⟨m,hn,hl⟩:=I.loc
  refine ⟨m,ns m hn,fun i x v e1 e2 e3=>?_⟩
  obtain ⟨u,r,l⟩:=hl i x v e1 e2 e3
  refine ⟨u,r,?_⟩
  rcases l with l | ⟨k,c,e,z⟩
  ·exact .inl l
  ·exact .inr ⟨k,c,e,cellK x c e _ z⟩
 ·obtain ⟨v,z⟩:=I.cell x c e
  exact ⟨v,cellK x c e v z⟩
 ·obtain ⟨m,⟨o,_,_,ho,_⟩,_⟩:=I.loc
  exact free _ o (fun z=>(hch _ z).2.1 rfl) ho I.free
 ·obtain ⟨v,o,ho,hd⟩:=I.cell x c e
  exact free c o (fun z=>(hch c z).2.2.1 x c e rfl) ho (I.freeC x c e)
 ·obtain ⟨e,n,ne,nf,d⟩:=I.pin p hp
  have nch:p.1 ∉ ch:=fun z=>(hch p.1 z).2.2.2 p hp rfl
  exact ⟨keep p.1 p.2 ne nf nch e n,free p.1 p.2 nch e n,ne,nf,d⟩
theorem Inv.un {t':Nat} (I:Inv X pins σ H s) (u:Un X.fs [] H H' s.heap h') (hok:HOk X.prog X.w H' h'):Inv X pins σ H' { s with heap:=h',toks:=t' }:=by
 obtain ⟨m,⟨o,es,ep,ho,r⟩,_⟩:=id I.loc
 obtain ⟨sl,hL⟩:=u.any ho I.free (by simp)
 exact I.step (g':=s.gens) (d':=s.drawn) (ch:=[]) (fun _ z=>nomatch z) (fun b o _ hb _ e n=>u.keep b o e n hb (by simp)) (fun b o _ hb _ e n=>u.slot b o e n hb (by simp)) (fun b o _ e n=>u.free b o e n (by simp)) (fun b o _ e=>u.there b o e (by simp)) u.tups u.frzs u.tbls (fun m' hm=>by
  obtain ⟨o',es',ep',ho',r'⟩:=hm
  rw [ho] at ho'; cases ho'
  exact ⟨_,es',ep',hL,r'⟩) hok I.bare
theorem Inv.call {g':Array GenState} {t':Nat} {d':Drawn} {ch:List Addr} (I:Inv X pins σ H s) (u:Un (frs X.stack) ch H H' s.heap h') (hok:HOk X.prog X.w H' h') (hg:AllBare g')
  (hch:∀ b ∈ ch,(b ∈ X.ex\/X.s₀.heap.objs.size<=b)/\b ≠ X.env.locals/\(∀ x c,X.env.cells.lookup x = some c->c ≠ b)/\∀ p ∈ X.pn ++ pins,p.1 ≠ b) :
  Inv X pins σ H' { s with heap:=h',gens:=g',drawn:=d',toks:=t' }:=by
 obtain ⟨m,⟨o,es,ep,ho,r⟩,_⟩:=id I.loc
 obtain ⟨sl,hL⟩:=u.any ho I.free fun z=>(hch _ z).2.1 rfl
 exact I.step (ch:=ch) hch (fun b o hL hb hc e n=>u.keep b o e n (fun z=>(List.mem_cons.mp (I.stkSub b z)).elim hL hb) hc) (fun b o _ _ hc e n=>u.any e n hc) (fun b o hc e n=>u.free b o e n hc) (fun b o hc e=>u.there b o e hc) u.tups u.frzs u.tbls (fun m' hm=>by
  obtain ⟨o',es',ep',ho',r'⟩:=hm
  rw [ho] at ho'; cases ho'
  exact ⟨_,es',ep',hL,r'⟩) hok hg
theorem Inv.turned {t':Nat} {it:Addr} (I:Inv X pins σ H s) (k:∀ b o,b ≠ it->s.heap.get? b = some o->h'.get? b = some o) (hn:H it = none) (hL:it ≠ X.env.locals)
  (h1:it ∈ X.ex\/X.s₀.heap.objs.size<=it) (h2:∀ x c,X.env.cells.lookup x = some c->c ≠ it) (h3:∀ p ∈ X.pn ++ pins,p.1 ≠ it):Inv X pins σ H { s with heap:=h',toks:=t' }:=by
 have nit:∀ b u,H b = some u->b ≠ it:=fun b u e z=>by rw [z,hn] at e; cases e
 refine I.step (g':=s.gens) (d':=s.drawn) (ch:=[it]) (fun b hb=>?_) (fun b o _ _ hc e _=>k b o (fun z=>hc (by simp [z])) e) (fun b o _ _ hc e _=>⟨o.slots,k b o (fun z=>hc (by simp [z])) e⟩) (fun _ _ _ _ n=>n)
  (fun b o hc e=>⟨o,k b o (fun z=>hc (by simp [z])) e⟩) (fun _ _ e=>e) (fun _ _ _ e=>e) (fun b ps e=>⟨#[],by rw [e]; simp⟩) (fun m hm=>?_) (fun b u e=>?_) I.bare
 ·have e:b = it:=by simpa using hb
  subst e
  exact ⟨h1,hL,h2,h3⟩
 ·obtain ⟨o,es,ep,ho,r⟩:=hm
  exact ⟨o,es,ep,k _ o (Ne.symm hL) ho,r⟩
 ·refine (I.hok b u e).stay (fun c v hc q=>k c v ?_ q) (fun _ q=>q) fun _ _ q=>q
  rcases hc with z | z
  ·rw [z]; exact nit b u e
  ·exact nit c _ z
theorem Inv.tok (I:Inv X pins σ H s) (t:Nat):Inv X pins σ H { s with toks:=t }:=I.un (h':=s.heap) (t':=t) Un.refl I.hok
theorem Inv.kept {t':Nat} (I:Inv X pins σ H s) (k:∀ b u,s.heap.get? b = some u->h'.get? b = some u):Inv X pins σ H { s with heap:=h',toks:=t' }:=I.un (Un.kept k) (I.hok.kept k)
theorem Inv.laid {a:Addr} {o:HO} {t':Nat} (I:Inv X pins σ H s) (k:∀ b u,s.heap.get? b = some u->h'.get? b = some u) (hp:s.heap.objs.size<=a) (new:ObjOk X.prog X.w (upd H a o) h' a o) :
  Inv X pins σ (upd H a o) { s with heap:=h',toks:=t' }:=I.un (Un.laid k hp (I.hok.fresh hp)) (I.hok.laid k hp new)
theorem Inv.write {x e:Addr} {o:HO} {t':Nat} (I:Inv X pins σ H s) (mu:Mut (H x)) (he:e = x\/H e = some (.own x)) (k:∀ b u,b ≠ e->s.heap.get? b = some u->h'.get? b = some u) (heo:∃ u,h'.get? e = some u)
  (new:ObjOk X.prog X.w (upd H x o) h' x o):Inv X pins σ (upd H x o) { s with heap:=h',toks:=t' }:=I.un (Un.write mu he k heo) (I.hok.write mu he k heo new)
theorem Inv.pins_of {pins':List (Addr × Obj)} (I:Inv X pins σ H s) (h:∀ p ∈ pins',s.heap.get? p.1 = some p.2/\H p.1 = none/\p.1 ≠ X.env.locals/\p.1 ∉ X.fs/\∀ v,p.2.data ≠ .cell v):Inv X pins' σ H s:=
 ⟨I.ok,I.os,I.bare,I.base,I.loc,I.cell,I.free,I.freeC,fun p hp=>(List.mem_append.mp hp).elim (fun z=>I.pin p (List.mem_append_left _ z)) (h p),I.hok,I.len⟩
theorem nodup_ix {N:List Str} (hN:N.Nodup) {i j:Nat} {x:Str} (a:N[i]? = some x) (b:N[j]? = some x):i = j:=by
 obtain ⟨h1,e1⟩:=List.getElem?_eq_some_iff.mp a
 obtain ⟨h2,e2⟩:=List.getElem?_eq_some_iff.mp b
 exact (List.getElem_inj hN).mp (e1.trans e2.symm)
theorem store_ok2 {M:Model} {A:Around} {E:Value->Shared->Prop} {i:Nat} {x:Str} {v:V} {u:Value} {Q:Unit->Shared->Prop} (I:Inv X pins σ H s) (hN:X.N.Nodup) (hi:X.N[i]? = some x) (hx:Loc X.env.scope x) (r:RelV v u)
  (h:∀ s',Inv X pins (σ.set i (some v)) H s'->(∃ a,Heap.SameBut a s.heap s'.heap/\(a = X.env.locals\/X.env.cells.lookup x = some a))->Q () s') (hf:X.fn x = true\/X.env.scope.names.lookup x = some .local:=by first | exact .inl rfl | exact .inr rfl | assumption):wpAny M A (storeName X.env x u) Q E s:=by
 obtain ⟨m,hn,hl⟩:=id I.loc
 have hcls:(X.env.scope.kind == .class || (X.env.scope.kind == .module && X.env.locals != X.env.globals)) = false:=by rw [I.ok.kind]; rfl
 have hiσ:i < σ.length:=by rw [I.len]; exact (List.getElem?_eq_some_iff.mp hi).1
 have cne:=I.cne
 have tracked:∀ {a:Addr} {h':Heap},(∃ o,s.heap.get? a = some o/\H a = none)->Heap.SameBut a s.heap h'->HOk X.prog X.w H h':=fun {a h'} ha hs b ob e=>by
  obtain ⟨_,_,hfree⟩:=ha
  refine (I.hok b ob e).stay (fun c w' hc q=>(hs.2 c ?_).trans q) (fun _ q=>q) fun _ _ q=>q
  rintro rfl
  rcases hc with rfl | hc
  ·rw [hfree] at e; cases e
  ·rw [hfree] at hc; cases hc
 rcases hx with hk | hk
 ·refine wpAny_storeName_local hk hn (fun h' hn' hs=>?_) hcls
  obtain ⟨oL,_,_,hoL,_⟩:=id hn
  refine h _ ⟨I.ok,I.os,I.bare,⟨fun b o e n hb hx=>?_,fun b o e n hb hx=>?_,I.base.free,fun b o e hx=>?_,I.base.tups,I.base.frzs,I.base.tbls⟩,⟨_,hn',fun j y v' e1 e2 e3=>?_⟩,fun y c e=>?_,I.free,I.freeC,fun p hp=>?_,tracked ⟨oL,hoL,I.free⟩ hs,by simpa using I.len⟩ ⟨_,hs,.inl rfl⟩
  ·exact (hs.2 b (Nat.ne_of_lt (Nat.lt_of_lt_of_le (Heap.lt_size e) I.ok.above))).trans (I.base.keep b o e n hb hx)
  ·obtain ⟨sl,e1⟩:=I.base.slot b o e n hb hx
   exact ⟨sl,(hs.2 b (Nat.ne_of_lt (Nat.lt_of_lt_of_le (Heap.lt_size e) I.ok.above))).trans e1⟩
  ·obtain ⟨o',e1⟩:=I.base.there b o e hx
   exact ⟨o',(hs.2 b (Nat.ne_of_lt (Nat.lt_of_lt_of_le (Heap.lt_size e) I.ok.above))).trans e1⟩
  ·by_cases hj:j = i
   ·subst hj
    rw [hi] at e1; cases e1
    rw [List.getElem?_set_self hiσ] at e2
    cases e2
    exact ⟨u,r,.inl ⟨hk,by simp⟩⟩
   ·rw [List.getElem?_set_ne (Ne.symm hj)] at e2
    obtain ⟨u',r',q⟩:=hl j y v' e1 e2 e3
    refine ⟨u',r',?_⟩
    rcases q with ⟨k,e⟩ | ⟨k,c,e,z⟩
    ·refine .inl ⟨k,?_⟩
     have:y ≠ x:=fun e=>hj (nodup_ix hN e1 (e ▸ hi))
     simp [this,e]
    ·exact .inr ⟨k,c,e,z.sameBut hs (cne y c e)⟩
  ·obtain ⟨w',z⟩:=I.cell y c e
   exact ⟨w',z.sameBut hs (cne y c e)⟩
  ·obtain ⟨e,n,ne,nf,d⟩:=I.pin p hp
   exact ⟨(hs.2 p.1 ne).trans e,n,ne,nf,d⟩
 ·have hfn:X.fn x = true:=by
   rcases hf with z | z
   ·exact z
   ·rw [z] at hk; cases hk
  obtain ⟨c,hc⟩:=I.ok.has x (.inl hk)
  obtain ⟨w',z⟩:=I.cell x c hc
  refine wpAny_storeName_cell I.ok.kind hk hc z (fun h' hc' hs=>?_)
  obtain ⟨oc,hoc,hocd⟩:=id z
  refine h { s with heap:=h' } ⟨I.ok,I.os,I.bare,⟨fun b o e n hb hx=>?_,fun b o e n hb hx=>?_,I.base.free,fun b o e hx=>?_,I.base.tups,I.base.frzs,I.base.tbls⟩,⟨m,hn.sameBut hs (Ne.symm (cne x c hc)),fun j y v' e1 e2 e3=>?_⟩,fun y c' e=>?_,I.free,I.freeC,fun p hp=>?_,tracked ⟨oc,hoc,I.freeC x c hc⟩ hs,by simpa using I.len⟩ ⟨c,hs,.inr hc⟩
  ·exact (hs.2 b (Nat.ne_of_lt (Nat.lt_of_lt_of_le (Heap.lt_size e) (I.ok.cab x c hfn hc)))).trans (I.base.keep b o e n hb hx)
  ·obtain ⟨sl,e1⟩:=I.base.slot b o e n hb hx
   exact ⟨sl,(hs.2 b (Nat.ne_of_lt (Nat.lt_of_lt_of_le (Heap.lt_size e) (I.ok.cab x c hfn hc)))).trans e1⟩
  ·obtain ⟨o',e1⟩:=I.base.there b o e hx
   exact ⟨o',(hs.2 b (Nat.ne_of_lt (Nat.lt_of_lt_of_le (Heap.lt_size e) (I.ok.cab x c hfn hc)))).trans e1⟩
  ·by_cases hj:j = i
   ·subst hj
    rw [hi] at e1; cases e1
    rw [List.getElem?_set_self hiσ] at e2
    cases e2
    exact ⟨u,r,.inr ⟨.inl hk,c,hc,hc'⟩⟩
   ·rw [List.getElem?_set_ne (Ne.symm hj)] at e2
    obtain ⟨u',r',q⟩:=hl j y v' e1 e2 e3
    refine ⟨u',r',?_⟩
    rcases q with q | ⟨k,c',e,z'⟩
    ·exact .inl q
    ·refine .inr ⟨k,c',e,z'.sameBut hs ?_⟩
     rintro rfl
     exact hj (nodup_ix hN e1 (I.ok.inj _ _ _ e hc ▸ hi))
  ·by_cases hcc:c' = c
   ·subst hcc; exact ⟨_,hc'⟩
   ·obtain ⟨w2,z2⟩:=I.cell y c' e
    exact ⟨w2,z2.sameBut hs hcc⟩
  ·obtain ⟨e,n,ne,nf,d⟩:=I.pin p hp
   refine ⟨(hs.2 p.1 ?_).trans e,n,ne,nf,d⟩
   intro q
   rw [q,hoc] at e
   have q':oc = p.2:=Option.some.inj e
   exact d w' (by rw [<- q']; exact hocd)
theorem store_ok {M:Model} {A:Around} {E:Value->Shared->Prop} {i:Nat} {x:Str} {v:V} {u:Value} {Q:Unit->Shared->Prop} (I:Inv X pins σ H s) (hN:X.N.Nodup) (hi:X.N[i]? = some x) (hx:Loc X.env.scope x) (r:RelV v u)
  (h:∀ s',Inv X pins (σ.set i (some v)) H s'->Q () s') (hf:X.fn x = true\/X.env.scope.names.lookup x = some .local:=by first | exact .inl rfl | exact .inr rfl | assumption):wpAny M A (storeName X.env x u) Q E s:=
 store_ok2 I hN hi hx r (fun s' I' _=>h s' I') hf
theorem Inv.call' {s':Shared} {ch:List Addr} (I:Inv X pins σ H s) (ho:s'.os = s.os) (u:Un (frs X.stack) ch H H' s.heap s'.heap) (hok:HOk X.prog X.w H' s'.heap) (hg:AllBare s'.gens)
  (hch:∀ b ∈ ch,(b ∈ X.ex\/X.s₀.heap.objs.size<=b)/\b ≠ X.env.locals/\(∀ x c,X.env.cells.lookup x = some c->c ≠ b)/\∀ p ∈ X.pn ++ pins,p.1 ≠ b):Inv X pins σ H' s':=by
 obtain ⟨h',g',d',t',o'⟩:=s'
 have e:o' = s.os:=ho
 subst e
 exact I.call (g':=g') (t':=t') (d':=d') u hok hg hch
end
noncomputable abbrev XK:=Value->Option Addr->Hp->Prop
noncomputable abbrev St:=List (Option V)
noncomputable abbrev VK:=V->Hp->Prop
noncomputable abbrev TE:=St->Hp->VK->Prop
noncomputable abbrev TT:=St->Hp->(Bool->Hp->Prop)->Prop
noncomputable abbrev TA:=St->Hp->(List V->Hp->Prop)->Prop
structure Ends where
 nx:St->Hp->Prop
 rt:VK
 bk:St->Hp->Prop:=fun _ _=>False
 ct:St->Hp->Prop:=fun _ _=>False
noncomputable abbrev TS:=Ends->St->Hp->Prop
noncomputable def EP (X:Cx) (pins:List (Addr × Obj)) (σ:St) (Q:VK) (u:Value) (s':Shared):Prop:=∃ v H',Inv X pins σ H' s'/\RelV v u/\Q v H'
noncomputable def TP (X:Cx) (pins:List (Addr × Obj)) (σ:St) (Q:Bool->Hp->Prop) (b:Bool) (s':Shared):Prop:=∃ H',Inv X pins σ H' s'/\Q b H'
noncomputable def AP (X:Cx) (pins:List (Addr × Obj)) (σ:St) (Q:List V->Hp->Prop) (us:List Value) (s':Shared):Prop:=∃ vs H',Inv X pins σ H' s'/\Vals vs us/\Q vs H'
noncomputable def SP (X:Cx) (pins:List (Addr × Obj)) (D:Ends) (f:Flow) (s':Shared):Prop:=
 match f with
 | .next=>∃ σ' H',Inv X pins σ' H' s'/\D.nx σ' H'
 | .brk=>∃ σ' H',Inv X pins σ' H' s'/\D.bk σ' H'
 | .cont=>∃ σ' H',Inv X pins σ' H' s'/\D.ct σ' H'
 | .ret u=>∃ v σ' H',Inv X pins σ' H' s'/\RelV v u/\D.rt v H'
noncomputable def PE (X:Cx) (e:Expr) (t:TE):Prop:=
 ∀ (pins:List (Addr × Obj)) (s:Shared) (σ:St) (H:Hp) (Q:VK),Inv X pins σ H s->t σ H Q->wpAny (model X.prog X.w) X.A (eval e X.env) (EP X pins σ Q) X.xe s
noncomputable def PT (X:Cx) (e:Expr) (t:TT):Prop:=
 ∀ (pins:List (Addr × Obj)) (s:Shared) (σ:St) (H:Hp) (Q:Bool->Hp->Prop),Inv X pins σ H s->t σ H Q->wpAny (model X.prog X.w) X.A (isTrue e X.env (eval e X.env)) (TP X pins σ Q) X.xe s
noncomputable def PW (X:Cx) (e:Expr) (t:TT):Prop:=
 ∀ (whole:Sem Value) (pins:List (Addr × Obj)) (s:Shared) (σ:St) (H:Hp) (Q:Bool->Hp->Prop),Inv X pins σ H s->t σ H Q->wpAny (model X.prog X.w) X.A (isTrue e X.env whole) (TP X pins σ Q) X.xe s
noncomputable def PA (X:Cx) (es:List Expr) (t:TA):Prop:=
 ∀ (pos:Pos) (pins:List (Addr × Obj)) (s:Shared) (σ:St) (H:Hp) (Q:List V->Hp->Prop),Inv X pins σ H s->t σ H Q->wpAny (model X.prog X.w) X.A (spliced (backTo pos (starEach es X.env))) (AP X pins σ Q) X.xe s
noncomputable def PS (X:Cx) (st:Stmt) (t:TS):Prop:=
 ∀ (pins:List (Addr × Obj)) (s:Shared) (σ:St) (H:Hp) (D:Ends),Inv X pins σ H s->t D σ H->wpAny (model X.prog X.w) X.A (exec st X.env) (SP X pins D) X.xe s
noncomputable def PSs (X:Cx) (st:List Stmt) (t:TS):Prop:=
 ∀ (pins:List (Addr × Obj)) (s:Shared) (σ:St) (H:Hp) (D:Ends),Inv X pins σ H s->t D σ H->wpAny (model X.prog X.w) X.A (execs st X.env) (SP X pins D) X.xe s
theorem thn {α:Type} {t:Sem α} {Q Q':α->Shared->Prop} {M:Model} {A:Around} {E:Value->Shared->Prop} {s:Shared} (h:wpAny M A t Q E s) (hQ:∀ a s,Q a s->Q' a s):wpAny M A t Q' E s:=wpAny_mono h hQ fun _ _ x=>x
end L2
namespace L2
open PySem PySem.Spec PyProof.Rows
section
variable {X:Cx}
noncomputable def tVar (i:Nat):TE:=fun σ H Q=>∃ v,σ[i]? = some (some v)/\Q v H
noncomputable def tC (v:V):TE:=fun _ H Q=>Q v H
theorem pe_var {i:Nat} {x:Str} {pos:Pos} (hN:X.N[i]? = some x) (hv:Vis X.env.scope x) (hd:(x == ("__debug__":Str)) = false:=by decide) (hcd:(x == ("__classdict__":Str)) = false:=by decide):PE X (.Name x pos) (tVar i):=by
 intro pins s σ H Q I h
 obtain ⟨v,e,h⟩:=h
 obtain ⟨m,hn,hl⟩:=I.loc
 obtain ⟨u,r,l⟩:=hl i x v hN e hv
 have fin:EP X pins σ Q u s:=⟨v,H,I,r,h⟩
 rcases l with ⟨hk,hm⟩ | ⟨hk,c,hc,hcell⟩
 ·exact wpAny_Name (wpAny_loadName_local I.ok.kind hk hn hm fin) hd
 ·rcases hk with hk | hk
  ·exact wpAny_Name (wpAny_loadName_cell I.ok.kind hk hc hcell fin) hd
  ·exact wpAny_Name (wpAny_loadName_free I.ok.kind hk hc hcell fin hcd) hd
theorem pe_int {i j pos}:PE X (.Constant (.int i) j pos) (tC (.int i)):=fun _ _ _ H _ I h=>wpAny_Constant_int ⟨.int i,H,I.tok _,⟨_,rfl⟩,h⟩
theorem pe_bl {b j pos}:PE X (.Constant (.bool b) j pos) (tC (.bl b)):=fun _ _ _ H _ I h=>Constant_bool ⟨.bl b,H,I,rfl,h⟩
theorem pe_non {j pos}:PE X (.Constant .none j pos) (tC .non):=fun _ _ _ H _ I h=>Constant_none ⟨.non,H,I,rfl,h⟩
theorem pe_str {x j pos}:PE X (.Constant (.str x) j pos) (tC (.str x)):=fun _ _ _ H _ I h=>Calls.Constant_str ⟨.str x,H,I.tok _,⟨_,rfl⟩,h⟩
noncomputable def Gl (X:Cx) (x:Str):Prop:=X.env.kindOf x = some .globalImplicit
theorem ld_glob {E:Value->Shared->Prop} {pins:List (Addr × Obj)} {s:Shared} {σ:St} {H:Hp} {x:Str} {u:Value} {pos:Pos} {Q:Value->Shared->Prop} (I:Inv X pins σ H s) (hg:Gl X x) (hm:X.mg x = some u) (h:Q u s)
  (hd:(x == ("__debug__":Str)) = false:=by decide):wpAny (model X.prog X.w) X.A (eval (.Name x pos) X.env) Q E s:=
 Calls.Name_function_global I.ok.kind hg (Calls.loadGlobal_global (by rw [I.ok.glob]; exact I.mod.glob.keeps I.bk) hm h) hd
theorem ld_blt {E:Value->Shared->Prop} {pins:List (Addr × Obj)} {s:Shared} {σ:St} {H:Hp} {x:Str} {u:Value} {pos:Pos} {Q:Value->Shared->Prop} (I:Inv X pins σ H s) (hg:Gl X x) (hm:X.mg x = none) (hv:bootBuiltins x = some u) (h:Q u s)
  (hn:x ≠ "__name__":=by decide) (hd:(x == ("__debug__":Str)) = false:=by decide):wpAny (model X.prog X.w) X.A (eval (.Name x pos) X.env) Q E s:=by
 obtain ⟨mb,h1,h2⟩:=I.mod.blt
 exact Calls.Name_function_global I.ok.kind hg (Calls.loadGlobal_builtin (by rw [I.ok.glob]; exact I.mod.glob.keeps I.bk) hm (by rw [I.ok.blt]; exact h1.keeps I.bk) ((h2 x hn).trans hv) h) hd
theorem pe_glob {x:Str} {v:V} {u:Value} {pos:Pos} (hg:Gl X x) (hm:X.mg x = some u) (r:RelV v u) (hd:(x == ("__debug__":Str)) = false:=by decide):PE X (.Name x pos) (tC v):=
 fun _ _ _ H _ I h=>ld_glob I hg hm ⟨v,H,I,r,h⟩ hd
theorem pe_bltn {x:Str} {v:V} {u:Value} {pos:Pos} (hg:Gl X x) (hm:X.mg x = none) (hv:bootBuiltins x = some u) (r:RelV v u) (hn:x ≠ "__name__":=by decide) (hd:(x == ("__debug__":Str)) = false:=by decide):PE X (.Name x pos) (tC v):=
 fun _ _ _ H _ I h=>ld_blt I hg hm hv ⟨v,H,I,r,h⟩ hn hd
variable {a b:Expr} {ta tb:TE} {pos:Pos}
variable {tA tB':TT} {rest:List Expr}
noncomputable def tAnd (t u:TT):TT:=fun σ H Q=>t σ H fun c H1=>if c = true then u σ H1 Q else Q false H1
noncomputable def tOr (t u:TT):TT:=fun σ H Q=>t σ H fun c H1=>if c = true then Q true H1 else u σ H1 Q
noncomputable def tNot (t:TT):TT:=fun σ H Q=>t σ H fun c H1=>Q (!c) H1
theorem pw_and1 (ha:PT X a tA):PW X (.BoolOp .And [a] pos) tA:=by
 intro wh pins s σ H Q I h
 refine isTrue_and (thn (ha pins s σ H Q I h) fun c s1 e=>?_)
 cases c with
 | true=>exact isTrue_and_nil e
 | false=>exact e
theorem pw_or1 (ha:PT X a tA):PW X (.BoolOp .Or [a] pos) tA:=by
 intro wh pins s σ H Q I h
 refine isTrue_or (thn (ha pins s σ H Q I h) fun c s1 e=>?_)
 cases c with
 | false=>exact isTrue_or_nil e
 | true=>exact e
theorem pw_and (ha:PT X a tA) (hb:PW X (.BoolOp .And (b :: rest) pos) tB'):PW X (.BoolOp .And (a :: b :: rest) pos) (tAnd tA tB'):=by
 intro wh pins s σ H Q I h
 refine isTrue_and (thn (ha pins s σ H _ I h) fun c s1 ⟨H1,I1,q1⟩=>?_)
 cases c with
 | true=>exact hb wh pins s1 σ H1 Q I1 q1
 | false=>exact ⟨H1,I1,q1⟩
theorem pw_or (ha:PT X a tA) (hb:PW X (.BoolOp .Or (b :: rest) pos) tB'):PW X (.BoolOp .Or (a :: b :: rest) pos) (tOr tA tB'):=by
 intro wh pins s σ H Q I h
 refine isTrue_or (thn (ha pins s σ H _ I h) fun c s1 ⟨H1,I1,q1⟩=>?_)
 cases c with
 | true=>exact ⟨H1,I1,q1⟩
 | false=>exact hb wh pins s1 σ H1 Q I1 q1
theorem pt_not (ha:PT X a tA):PT X (.UnaryOp .Not a pos) (tNot tA):=by
 intro pins s σ H Q I h
 exact isTrue_not (ha pins s σ H (fun c H1=>Q (!c) H1) I h)
noncomputable def tAndV (ta tb:TE):TE:=fun σ H Q=>ta σ H fun x H1=>∃ c,x = .bl c/\if c = true then tb σ H1 Q else Q (.bl false) H1
noncomputable def tOrV (ta tb:TE):TE:=fun σ H Q=>ta σ H fun x H1=>∃ c,x = .bl c/\if c = true then Q (.bl true) H1 else tb σ H1 Q
theorem pe_one {op} {t:TE} (h:PE X a t):PE X (.BoolOp op [a] pos) t:=fun pins s σ H Q I hw=>BoolOp_one (h pins s σ H Q I hw)
theorem pe_and (ha:PE X a ta) (hb:PE X (.BoolOp .And (b :: rest) pos) tb):PE X (.BoolOp .And (a :: b :: rest) pos) (tAndV ta tb):=by
 intro pins s σ H Q I h
 refine BoolOp_and (thn (ha pins s σ H _ I h) fun v s1 ⟨x,H1,I1,r1,q1⟩=>?_)
 obtain ⟨c,rfl,q1⟩:=q1
 cases r1
 refine wpAny_truthy_bool ?_
 cases c with
 | true=>exact hb pins s1 σ H1 Q I1 q1
 | false=>exact ⟨.bl false,H1,I1,rfl,q1⟩
theorem pe_or (ha:PE X a ta) (hb:PE X (.BoolOp .Or (b :: rest) pos) tb):PE X (.BoolOp .Or (a :: b :: rest) pos) (tOrV ta tb):=by
 intro pins s σ H Q I h
 refine BoolOp_or (thn (ha pins s σ H _ I h) fun v s1 ⟨x,H1,I1,r1,q1⟩=>?_)
 obtain ⟨c,rfl,q1⟩:=q1
 cases r1
 refine wpAny_truthy_bool ?_
 cases c with
 | false=>exact hb pins s1 σ H1 Q I1 q1
 | true=>exact ⟨.bl true,H1,I1,rfl,q1⟩
end
end L2
namespace L2
open PySem PySem.Spec PyProof.Rows
noncomputable def SqL (K:PySem.W.Frag) (H:Hp) (a:Addr) (xs:List V):Prop:=
 Rd H a (.lst xs)\/
  ∃ (o:Obj) (its:Array Value) (n:Nat),K.lookup a = some o/\o.cls = .type "list"/\o.dict = none/\o.data = .seq its n/\its.size<=sizeLine/\Vals xs its.toList
noncomputable def SqT (K:PySem.W.Frag) (H:Hp) (a:Addr) (xs:List V):Prop:=
 Rd H a (.tup xs)\/
  ∃ (o:Obj) (its:Array Value) (n:Nat),K.lookup a = some o/\o.cls = .type "tuple"/\o.data = .seq its n/\its.size<=sizeLine/\Vals xs its.toList
noncomputable def absV:Value->Option V
 | .none=>some .non
 | .bool b=>some (.bl b)
 | .int i _=>some (.int i)
 | .str x _=>some (.str x)
 | .bytes b _=>some (.byt b)
 | .float b _=>some (.flt b)
 | .ref a=>some (.ref a)
 | .type n=>some (.ty n)
 | _=>none
theorem RelV.abs {x:V} {u:Value} (r:RelV x u):absV u = some x:=by
 cases x with
 | non=>cases r; rfl
 | bl _=>cases r; rfl
 | int _=>obtain ⟨t,rfl⟩:=r; rfl
 | str _=>obtain ⟨t,rfl⟩:=r; rfl
 | byt _=>obtain ⟨t,rfl⟩:=r; rfl
 | flt _=>obtain ⟨t,rfl⟩:=r; rfl
 | ref _=>cases r; rfl
 | ty _=>cases r; rfl
theorem RelV.inj {x y:V} {u:Value} (r:RelV x u) (q:RelV y u):x = y:=Option.some.inj (r.abs.symm.trans q.abs)
theorem Vals.inj:∀ {xs ys:List V} {us:List Value},Vals xs us->Vals ys us->xs = ys
 | _,_,_,.nil,.nil=>rfl
 | _,_,_,.cons r t,.cons r' t'=>by rw [r.inj r',Vals.inj t t']
section
variable {X:Cx} {pins:List (Addr × Obj)} {σ:St} {H:Hp} {s:Shared} {a:Addr} {xs ys:List V}
theorem SqL.of {K:PySem.W.Frag} (h:H a = some (.lst xs)):SqL K H a xs:=.inl (.inl h)
theorem SqT.of {K:PySem.W.Frag} (h:H a = some (.tup xs)):SqT K H a xs:=.inl (.inl h)
theorem Inv.list (I:Inv X pins σ H s) (h:SqL X.K H a xs):∃ its:List Value,Vals xs its/\PlainL s.heap a its.toArray/\xs.length<=sizeLine:=by
 rcases h with h | ⟨o,its,n,hk,hc,hd,hs,hz,r⟩
 ·obtain ⟨z,its,n,r,e⟩:=h.ok I.hok
  exact ⟨its,r,⟨_,n,e,rfl,rfl,rfl⟩,z⟩
 ·refine ⟨its.toList,r,⟨o,n,I.kIn a o hk,hc,hd,by simpa using hs⟩,?_⟩
  have e:=r.length
  simp only [Array.length_toList] at e
  omega
theorem Inv.tuple (I:Inv X pins σ H s) (h:SqT X.K H a xs):∃ its:List Value,Vals xs its/\IsTup s.heap a its.toArray/\xs.length<=sizeLine:=by
 rcases h with h | ⟨o,its,n,hk,hc,hs,hz,r⟩
 ·obtain ⟨z,its,r,p⟩:=h.ok I.hok
  exact ⟨its,r,p,z⟩
 ·refine ⟨its.toList,r,⟨o,I.kIn a o hk,hc,n,by simpa using hs⟩,?_⟩
  have e:=r.length
  simp only [Array.length_toList] at e
  omega
theorem Inv.list_inj (I:Inv X pins σ H s) (h:SqL X.K H a xs) (h':SqL X.K H a ys):xs = ys:=by
 obtain ⟨its,r,⟨o,n,e,_,_,d⟩,_⟩:=I.list h
 obtain ⟨its',r',⟨o',n',e',_,_,d'⟩,_⟩:=I.list h'
 rw [e] at e'; cases e'
 rw [d] at d'
 injection d' with d1 _
 have:its = its':=by simpa using congrArg Array.toList d1
 subst this
 exact r.inj r'
theorem Inv.tuple_inj (I:Inv X pins σ H s) (h:SqT X.K H a xs) (h':SqT X.K H a ys):xs = ys:=by
 obtain ⟨its,r,⟨o,e,_,n,d⟩,_⟩:=I.tuple h
 obtain ⟨its',r',⟨o',e',_,n',d'⟩,_⟩:=I.tuple h'
 rw [e] at e'; cases e'
 rw [d] at d'
 injection d' with d1 _
 have:its = its':=by simpa using congrArg Array.toList d1
 subst this
 exact r.inj r'
end
noncomputable abbrev Cx.wish (X:Cx) (E:Value->Shared->Prop):Cx:={ X with xe:=E }
noncomputable abbrev Cx.nox (X:Cx):Cx:=X.wish fun _ _=>False
theorem Cx.Ok.wish {X:Cx} (ok:X.Ok) (E:Value->Shared->Prop):(X.wish E).Ok:=
 ⟨ok.mod,ok.kind,ok.glob,ok.blt,ok.above,ok.inj,ok.has,ok.cab,ok.hd,ok.frames,ok.stk,ok.exf,ok.bs,ok.bsz,ok.noex,ok.exfs,ok.funs,ok.frf⟩
theorem Cx.Ok.unwish {X:Cx} {E:Value->Shared->Prop} (ok:(X.wish E).Ok):X.Ok:=
 ⟨ok.mod,ok.kind,ok.glob,ok.blt,ok.above,ok.inj,ok.has,ok.cab,ok.hd,ok.frames,ok.stk,ok.exf,ok.bs,ok.bsz,ok.noex,ok.exfs,ok.funs,ok.frf⟩
section
variable {X:Cx} {pins:List (Addr × Obj)} {σ:St} {H:Hp} {s:Shared} {E:Value->Shared->Prop}
theorem Inv.wish (I:Inv X pins σ H s) (E:Value->Shared->Prop):Inv (X.wish E) pins σ H s:=⟨I.ok.wish E,I.os,I.bare,I.base,I.loc,I.cell,I.free,I.freeC,I.pin,I.hok,I.len⟩
theorem Inv.unwish (I:Inv (X.wish E) pins σ H s):Inv X pins σ H s:=⟨I.ok.unwish,I.os,I.bare,I.base,I.loc,I.cell,I.free,I.freeC,I.pin,I.hok,I.len⟩
theorem SP.unwish {D:Ends} {f:Flow} {s':Shared} (h:SP (X.wish E) pins D f s'):SP X pins D f s':=by
 cases f with
 | next=>obtain ⟨σ',H',I,q⟩:=h; exact ⟨σ',H',I.unwish,q⟩
 | brk=>obtain ⟨σ',H',I,q⟩:=h; exact ⟨σ',H',I.unwish,q⟩
 | cont=>obtain ⟨σ',H',I,q⟩:=h; exact ⟨σ',H',I.unwish,q⟩
 | ret u=>obtain ⟨v,σ',H',I,r,q⟩:=h; exact ⟨v,σ',H',I.unwish,r,q⟩
theorem PSs.nox {st:List Stmt} {t:TS} (h:PSs X.nox st t):PSs X st t:=fun pins s σ H D I hw=>
 wpAny_mono (h pins s σ H D (I.wish _) hw) (fun _ _ q=>q.unwish) fun _ _ z=>False.elim z
end
section
variable {X:Cx} {st:Stmt} {rest:List Stmt} {t u:TS} {e:Expr} {te:TE} {pos:Pos}
noncomputable def tNext:TS:=fun D σ H=>D.nx σ H
noncomputable def tSeq (t u:TS):TS:=fun D σ H=>t { D with nx:=u D } σ H
theorem pss_nil:PSs X [] tNext:=fun _ _ σ H _ I h=>wpAny_execs_nil ⟨σ,H,I,h⟩
theorem pss_cons (h1:PS X st t) (h2:PSs X rest u):PSs X (st :: rest) (tSeq t u):=by
 intro pins s σ H D I h
 refine wpAny_execs_cons (thn (h1 pins s σ H { D with nx:=u D } I h) fun f s1 q=>?_)
 cases f with
 | next=>
  obtain ⟨σ',H',I',q⟩:=q
  exact h2 pins s1 σ' H' D I' q
 | ret v=>exact q
 | brk=>exact q
 | cont=>exact q
noncomputable def tCont:TS:=fun D σ H=>D.ct σ H
theorem ps_pass:PS X (.Pass pos) tNext:=fun _ _ σ H _ I h=>wpAny_Pass ⟨σ,H,I,h⟩
theorem ps_continue:PS X (.Continue pos) tCont:=fun _ _ σ H _ I h=>wpAny_Continue ⟨σ,H,I,h⟩
theorem Inv.quiet {pins:List (Addr × Obj)} {σ:St} {H:Hp} {s:Shared} (I:Inv X pins σ H s):interactive X.env = false:=by simp [interactive,I.ok.kind]
theorem ps_doc {x j pos pos'}:PS X (.Expr (.Constant (.str x) j pos) pos') tNext:=fun _ s σ H _ I h=>wpAny_Expr (Calls.Constant_str (show SP X _ _ .next { s with toks:=s.toks + 1 } from ⟨σ,H,I.tok _,h⟩)) I.quiet
noncomputable def tDrop (te:TE):TS:=fun D σ H=>te σ H fun _ H1=>D.nx σ H1
theorem ps_expr (he:PE X e te) (hs:swapsWith e none pos.line X.env = pure false:=by rfl):PS X (.Expr e pos) (tDrop te):=by
 intro pins s σ H D I h
 exact wpAny_Expr_any (thn (he pins s σ H _ I h) fun v s1 ⟨x,H1,I1,r1,q1⟩=>⟨σ,H1,I1,q1⟩) I.quiet hs
noncomputable def tRet (te:TE):TS:=fun D σ H=>te σ H D.rt
theorem ps_ret (he:PE X e te):PS X (.Return (some e) pos) (tRet te):=by
 intro pins s σ H D I h
 exact wpAny_Return_some (thn (he pins s σ H _ I h) fun v s1 ⟨x,H1,I1,r1,q1⟩=>⟨x,σ,H1,I1,r1,q1⟩)
noncomputable def tIfS (c:TT) (t u:TS):TS:=fun D σ H=>c σ H fun b H1=>if b = true then t D σ H1 else u D σ H1
theorem ps_if {c:Expr} {a b:List Stmt} {tc:TT} (hc:PT X c tc) (ha:PSs X a t) (hb:PSs X b u):PS X (.If c a b pos) (tIfS tc t u):=by
 intro pins s σ H D I h
 refine wpAny_If (thn (hc pins s σ H _ I h) fun d s1 ⟨H1,I1,q1⟩=>?_)
 cases d with
 | true=>exact ha pins s1 σ H1 D I1 q1
 | false=>exact hb pins s1 σ H1 D I1 q1
end
noncomputable abbrev TG:=V->St->Hp->(St->Hp->Prop)->Prop
noncomputable abbrev TGs:=List V->St->Hp->(St->Hp->Prop)->Prop
noncomputable def PG (X:Cx) (target:Expr) (t:TG):Prop:=
 ∀ (pins:List (Addr × Obj)) (s:Shared) (σ:St) (H:Hp) (v:V) (u:Value) (Q:St->Hp->Prop),Inv X pins σ H s->RelV v u->t v σ H Q->
  wpAny (model X.prog X.w) X.A (assign target X.env u) (fun _ s'=>∃ σ' H',Inv X pins σ' H' s'/\Q σ' H') X.xe s
noncomputable def PGs (X:Cx) (ts:List Expr) (t:TGs):Prop:=
 ∀ (pins:List (Addr × Obj)) (s:Shared) (σ:St) (H:Hp) (vs:List V) (us:List Value) (Q:St->Hp->Prop),Inv X pins σ H s->Vals vs us->t vs σ H Q->
  wpAny (model X.prog X.w) X.A (assignInOrder ((assignEach ts X.env).map (·.2)) us) (fun _ s'=>∃ σ' H',Inv X pins σ' H' s'/\Q σ' H') X.xe s
noncomputable abbrev TSet:=V->V->V->Hp->(Hp->Prop)->Prop
noncomputable def PSet (X:Cx) (t:TSet):Prop:=
 ∀ (pins:List (Addr × Obj)) (s:Shared) (σ:St) (H:Hp) (o i v:V) (ov iv u:Value) (Q:Hp->Prop),Inv X pins σ H s->RelV o ov->RelV i iv->RelV v u->t o i v H Q->
  wpAny (model X.prog X.w) X.A (setItem ov iv u) (fun _ s'=>∃ H',Inv X pins σ H' s'/\Q H') X.xe s
section
variable {X:Cx} {pos:Pos}
noncomputable def gName (i:Nat):TG:=fun v σ H Q=>Q (σ.set i (some v)) H
theorem pg_name {i:Nat} {x:Str} (hN:X.N.Nodup) (hi:X.N[i]? = some x) (hx:Loc X.env.scope x) (hf:X.fn x = true\/X.env.scope.names.lookup x = some .local:=by first | exact .inl rfl | exact .inr rfl | assumption):PG X (.Name x pos) (gName i):=by
 intro pins s σ H v u Q I r h
 exact wpAny_assign_Name (store_ok I hN hi hx r (fun s' I'=>⟨_,H,I',h⟩) hf)
noncomputable def gNil:TGs:=fun vs σ H Q=>vs = []/\Q σ H
noncomputable def gCons (t:TG) (u:TGs):TGs:=fun vs σ H Q=>∃ v r,vs = v :: r/\t v σ H fun σ' H'=>u r σ' H' Q
theorem pgs_nil:PGs X [] gNil:=by
 intro pins s σ H vs us Q I r h
 obtain ⟨e,h⟩:=h
 subst e
 cases r
 exact assignInOrder_nil ⟨σ,H,I,h⟩
theorem pgs_cons {e:Expr} {es:List Expr} {t:TG} {u:TGs} (h1:PG X e t) (h2:PGs X es u)
  (hs:(assignEach (e :: es) X.env).map (·.2) = assign e X.env :: (assignEach es X.env).map (·.2):=by rfl):PGs X (e :: es) (gCons t u):=by
 intro pins s σ H vs us Q I r h
 obtain ⟨v,vr,e1,h⟩:=h
 subst e1
 cases r with
 | cons r rr=>
  rw [hs]
  refine assignInOrder_cons (thn (h1 pins s σ H _ _ _ I r h) fun _ s1 ⟨σ1,H1,I1,q1⟩=>?_)
  exact h2 pins s1 σ1 H1 _ _ Q I1 rr q1
noncomputable def gTup (K:PySem.W.Frag) (n:Nat) (t:TGs):TG:=fun v σ H Q=>∃ a xs,v = .ref a/\SqT K H a xs/\xs.length = n/\t xs σ H Q
theorem pg_tup {es:List Expr} {k:Nat} {t:TGs} {n:Nat} (hc:X.calm = true) (h:PGs X es t)
  (hn:(assignEach es X.env).length = n:=by rfl) (hst:(assignEach es X.env).findIdx? (·.1) = none:=by rfl):PG X (.Tuple es k pos) (gTup X.K n t):=by
 intro pins s σ H v u Q I r hw
 obtain ⟨a,xs,e1,hq,hl,hw⟩:=hw
 subst e1
 cases r
 obtain ⟨its,rv,ht,hz⟩:=I.tuple hq
 refine assign_Tuple_tuple (I.ok.hd hc) ht (by simp [hn,<- hl,rv.length]) hst fun h' hx=>?_
 have I1:Inv X pins σ H { s with heap:=h' }:=I.kept (t':=s.toks) fun b o e=>hx b o (Nat.ne_of_lt (Heap.lt_size e)) e
 exact h pins _ σ H xs _ Q I1 (by simpa using rv) hw
noncomputable def gSub (to ti:TE) (t:TSet):TG:=fun v σ H Q=>to σ H fun o H1=>ti σ H1 fun i H2=>t o i v H2 fun H3=>Q σ H3
theorem pg_sub {o i:Expr} {to ti:TE} {t:TSet} (ho:PE X o to) (hi:PE X i ti) (hs:PSet X t)
  (ha:∀ v,assign (.Subscript o i pos) X.env v = (do
   let ov <- holding [v] (eval o X.env)
   let iv <- holding [v,ov] (eval i X.env)
   standAt pos
   holding [v,ov,iv] (setItem ov iv v)
   release [v,ov,iv] []):=by intro _; rfl):PG X (.Subscript o i pos) (gSub to ti t):=by
 intro pins s σ H v u Q I r h
 rw [ha]
 refine wpAny_bind (wpAny_holding (thn (ho pins s σ H _ I h) fun ov s1 ⟨x,H1,I1,r1,q1⟩=>?_))
 refine wpAny_bind (wpAny_holding (thn (hi pins s1 σ H1 _ I1 q1) fun iv s2 ⟨y,H2,I2,r2,q2⟩=>?_))
 refine wpAny_bind (wpAny_standAt (wpAny_bind (wpAny_holding (thn (hs pins s2 σ H2 x y v ov iv u _ I2 r1 r2 r q2) fun _ s3 ⟨H3,I3,q3⟩=>?_))))
 exact wpAny_release ⟨σ,H3,I3,q3⟩
noncomputable def tAsg (te:TE) (g:TG):TS:=fun D σ H=>te σ H fun x H1=>g x σ H1 D.nx
theorem ps_asg {tg e:Expr} {te:TE} {g:TG} (he:PE X e te) (hg:PG X tg g) (hs:swapsWithSole [tg] e pos.line X.env = pure false:=by rfl) (hw:swappedStores [tg] e X.env = pure none:=by rfl)
  (h1:(assignEach [tg] X.env).map (·.2) = [assign tg X.env]:=by rfl):PS X (.Assign [tg] e pos) (tAsg te g):=by
 intro pins s σ H D I h
 refine wpAny_Assign_stores (thn (he pins s σ H _ I h) fun v s1 ⟨x,H1,I1,r1,q1⟩=>?_) hs hw
 rw [h1]
 exact thn (hg pins s1 σ H1 x v _ I1 r1 q1) fun _ s2 q=>q
theorem ps_set {i:Nat} {x:Str} {e:Expr} {te:TE} {pos':Pos} (hN:X.N.Nodup) (hi:X.N[i]? = some x) (hx:Loc X.env.scope x) (he:PE X e te) (hs:swapsWith e (some (.Name x pos')) pos.line X.env = pure false:=by rfl) (hf:X.fn x = true\/X.env.scope.names.lookup x = some .local:=by first | exact .inl rfl | exact .inr rfl | assumption) :
  PS X (.Assign [.Name x pos'] e pos) (tAsg te (gName i)):=by
 intro pins s σ H D I h
 refine wpAny_Assign_Name (thn (he pins s σ H _ I h) fun v s1 ⟨y,H1,I1,r1,q1⟩=>?_) hs
 exact store_ok I1 hN hi hx r1 (fun s2 I2=>⟨_,H1,I2,q1⟩) hf
end
section
variable {X:Cx} {pos:Pos}
end
structure It where
 go:Nat->Hp->Prop
 yld:Nat->Hp->V->Hp->Prop
 stop:Nat->Hp->Prop
noncomputable def FpOk (X:Cx) (pins:List (Addr × Obj)) (H:Hp) (b:Addr):Prop:=
 H b = none/\b ≠ X.env.locals/\b ∉ X.fs/\(b ∈ X.ex\/X.s₀.heap.objs.size<=b)/\(∀ x c,X.env.cells.lookup x = some c->c ≠ b)/\∀ p ∈ X.pn ++ pins,p.1 ≠ b
theorem Inv.fpOk {X:Cx} {pins:List (Addr × Obj)} {σ:St} {H H':Hp} {s:Shared} {b:Addr} (I:Inv X pins σ H s) (hb:s.heap.objs.size<=b) (hn:H' b = none):FpOk X pins H' b:=by
 refine ⟨hn,Nat.ne_of_gt (Nat.lt_of_lt_of_le I.lt hb),I.nofs hb,.inr (Nat.le_trans I.sz hb),fun x c e z=>?_,fun p hp z=>?_⟩
 ·obtain ⟨v,q⟩:=I.cell x c e
  exact absurd (Nat.lt_of_lt_of_le q.lt (by rw [z]; exact hb)) (Nat.lt_irrefl _)
 ·exact absurd (Nat.lt_of_lt_of_le (Heap.lt_size (I.pin p hp).1) (by rw [z]; exact hb)) (Nat.lt_irrefl _)
structure Turn (P:Program) (w:World) (K:PySem.W.Frag) (tg:Expr) (J:It) (fp:List Addr) (it:Addr) (tn:Nat->Heap->Prop):Prop where
 mem:it ∈ fp
 obj:∀ i h,tn i h->∀ b ∈ fp,∃ o,h.get? b = some o/\∀ v,o.data ≠ .cell v
 keep:∀ i h h',tn i h->(∀ b ∈ fp,∀ o,h.get? b = some o->h'.get? b = some o)->tn i h'
 item:∀ (X:Cx),X.prog = P->X.w = w->X.K = K->X.calm = true->∀ (i:Nat) (pins:List (Addr × Obj)) (s:Shared) (σ:St) (H:Hp) (E:Value->Shared->Prop),Inv X pins σ H s->(∀ b ∈ fp,FpOk X pins H b)->tn i s.heap->J.go i H->
  wpAny (model P w) X.A (pyNext (.ref it)) (fun r s1=>∃ u,r = some u/\
   wpAny (model P w) X.A (letOwnedTupleGo tg (.ref it) u) (fun _ s2=>∃ x H',Inv X pins σ H' s2/\RelV x u/\J.yld i H x H'/\tn (i + 1) s2.heap/\∀ b ∈ fp,H' b = none) E s1) E s
 done:∀ (X:Cx),X.prog = P->X.w = w->X.K = K->X.calm = true->∀ (i:Nat) (pins:List (Addr × Obj)) (s:Shared) (σ:St) (H:Hp) (E:Value->Shared->Prop),Inv X pins σ H s->(∀ b ∈ fp,FpOk X pins H b)->tn i s.heap->J.stop i H->
  wpAny (model P w) X.A (pyNext (.ref it)) (fun r s1=>r = none/\Inv X pins σ H s1) E s
 self:∀ (A:Around) (i:Nat) (s:Shared) (Q:Value->Shared->Prop) (E:Value->Shared->Prop),tn i s.heap->Q (.ref it) s->wpAny (model P w) A (pyIter (.ref it)) Q E s
noncomputable abbrev TI:=St->Hp->(It->Hp->Prop)->Prop
noncomputable def PIE (X:Cx) (pins:List (Addr × Obj)) (σ:St) (tg:Expr) (R:It->Hp->Prop) (itv:Value) (s2:Shared):Prop:=
 ∃ (it:Addr) (fp:List Addr) (tn:Nat->Heap->Prop) (J:It) (H':Hp),itv = .ref it/\Inv X pins σ H' s2/\Turn X.prog X.w X.K tg J fp it tn/\tn 0 s2.heap/\(∀ b ∈ fp,FpOk X pins H' b)/\R J H'
noncomputable def PI (X:Cx) (tg iter:Expr) (wi:TI):Prop:=
 ∀ (pins:List (Addr × Obj)) (s:Shared) (σ:St) (H:Hp) (R:It->Hp->Prop),Inv X pins σ H s->wi σ H R->
  wpAny (model X.prog X.w) X.A (eval iter X.env) (fun v s1=>wpAny (model X.prog X.w) X.A (pyIter v) (PIE X pins σ tg R) X.xe s1) X.xe s
theorem go_of {M:Model} {A:Around} {E:Value->Shared->Prop} {s:Shared} {tg:Expr} {it:Addr} {u:Value} {o:Obj} {n:String} {vs:Array Value} {Q:Unit->Shared->Prop} (ho:s.heap.get? it = some o) (hc:o.cls = .type n) (hd:o.data = .fields vs)
    (hn:["enumerate","zip","dict_itemiterator","dict_reverseitemiterator","odict_iterator","itertools.zip_longest","itertools.pairwise"].contains n = false) (hQ:Q () s):wpAny M A (letOwnedTupleGo tg (.ref it) u) Q E s:=by
  unfold letOwnedTupleGo
  cases tg <;> first
    | exact wpAny_pure hQ
    | (cases u <;> first
        | exact wpAny_pure hQ
        | (refine wpAny_bind (wpAny_load ho ?_)
           rw [hc,hd]
           show wpAny M A (if (["enumerate","zip","dict_itemiterator","dict_reverseitemiterator","odict_iterator","itertools.zip_longest","itertools.pairwise"].contains n && vs[0]? == some (rawInt _)) = true then _ else _) Q E s
           rw [if_neg (by intro h; rw [hn,Bool.false_and] at h; cases h)]
           exact wpAny_pure hQ))
noncomputable def Itl (K:PySem.W.Frag) (a:Addr):It:=
 ⟨fun i H=>∃ xs x,SqL K H a xs/\xs[i]? = some x,fun i H x H'=>H' = H/\∀ xs,SqL K H a xs->xs[i]? = some x,fun i H=>∃ xs,SqL K H a xs/\xs.length<=i⟩
noncomputable def Itt (K:PySem.W.Frag) (a:Addr):It:=
 ⟨fun i H=>∃ xs x,SqT K H a xs/\xs[i]? = some x,fun i H x H'=>H' = H/\∀ xs,SqT K H a xs->xs[i]? = some x,fun i H=>∃ xs,SqT K H a xs/\xs.length<=i⟩
noncomputable def Itr (lo:Int) (n:Nat):It:=⟨fun i _=>i < n,fun i H x H'=>H' = H/\x = .int (lo + i),fun i _=>n<=i⟩
theorem turn_list {P:Program} {w:World} {K:PySem.W.Frag} {tg:Expr} (a it:Addr):Turn P w K tg (Itl K a) [it] it (fun i h=>h.IsListIter it a i) where
 mem:=by simp
 obj:=fun i h st b hb=>by
  have e:b = it:=by simpa using hb
  subst e
  obtain ⟨o,e,c,d⟩:=st
  exact ⟨o,e,fun v z=>by rw [d] at z; cases z⟩
 keep:=fun i h h' st k=>st.at fun o e=>k it (by simp) o e
 item:=by
  intro X hP hw hK hc i pins s σ H E I hf st hg
  subst hP hw hK
  obtain ⟨xs,x,hq,hx⟩:=hg
  obtain ⟨its,rv,p,hz⟩:=I.list hq
  obtain ⟨u,hu,ru⟩:=rv.get hx
  obtain ⟨f0,f1,f2,f3,f4,f5⟩:=hf it (by simp)
  refine wpAny_pyNext_list_item st p.isList (x:=u) (by simpa using hu) fun h' st' sb=>?_
  have I1:Inv X pins σ H { s with heap:=h' }:=I.turned (t':=s.toks) (fun b o hb e=>(sb.2 b hb).trans e) f0 f1 f3 f4 f5
  obtain ⟨o,e,c,d⟩:=id st'
  exact ⟨u,rfl,go_of (s:={ s with heap:=h' }) e c d (by decide) ⟨x,H,I1,ru,⟨rfl,fun ys hy=>by rw [I.list_inj hy hq]; exact hx⟩,st',fun b hb=>(hf b hb).1⟩⟩
 done:=by
  intro X hP hw hK hc i pins s σ H E I hf st hg
  subst hP hw hK
  obtain ⟨xs,hq,hx⟩:=hg
  obtain ⟨its,rv,p,hz⟩:=I.list hq
  obtain ⟨f0,f1,f2,f3,f4,f5⟩:=hf it (by simp)
  have hl:=rv.length
  exact wpAny_pyNext_list_end (I.ok.hd hc) st p.isList (by simp; omega) fun h' eb=>⟨rfl,I.turned (t':=s.toks) (fun b o hb e=>eb b o hb e) f0 f1 f3 f4 f5⟩
 self:=fun _ _ _ _ _ st h=>wpAny_pyIter_listiter st h
theorem turn_tuple {P:Program} {w:World} {K:PySem.W.Frag} {tg:Expr} (a it:Addr):Turn P w K tg (Itt K a) [it] it (fun i h=>h.IsTupleIter it a i) where
 mem:=by simp
 obj:=fun i h st b hb=>by
  have e:b = it:=by simpa using hb
  subst e
  obtain ⟨o,e,c,d⟩:=st
  exact ⟨o,e,fun v z=>by rw [d] at z; cases z⟩
 keep:=fun i h h' st k=>st.at fun o e=>k it (by simp) o e
 item:=by
  intro X hP hw hK hc i pins s σ H E I hf st hg
  subst hP hw hK
  obtain ⟨xs,x,hq,hx⟩:=hg
  obtain ⟨its,rv,p,hz⟩:=I.tuple hq
  obtain ⟨u,hu,ru⟩:=rv.get hx
  obtain ⟨f0,f1,f2,f3,f4,f5⟩:=hf it (by simp)
  refine wpAny_pyNext_tuple_item st (show s.heap.IsTuple a its.toArray from p) (x:=u) (by simpa using hu) fun h' st' sb=>?_
  have I1:Inv X pins σ H { s with heap:=h' }:=I.turned (t':=s.toks) (fun b o hb e=>(sb.2 b hb).trans e) f0 f1 f3 f4 f5
  obtain ⟨o,e,c,d⟩:=id st'
  exact ⟨u,rfl,go_of (s:={ s with heap:=h' }) e c d (by decide) ⟨x,H,I1,ru,⟨rfl,fun ys hy=>by rw [I.tuple_inj hy hq]; exact hx⟩,st',fun b hb=>(hf b hb).1⟩⟩
 done:=by
  intro X hP hw hK hc i pins s σ H E I hf st hg
  subst hP hw hK
  obtain ⟨xs,hq,hx⟩:=hg
  obtain ⟨its,rv,p,hz⟩:=I.tuple hq
  obtain ⟨f0,f1,f2,f3,f4,f5⟩:=hf it (by simp)
  have hl:=rv.length
  exact wpAny_pyNext_tuple_end (I.ok.hd hc) st (show s.heap.IsTuple a its.toArray from p) (by simp; omega) fun h' eb=>⟨rfl,I.turned (t':=s.toks) (fun b o hb e=>eb b o hb e) f0 f1 f3 f4 f5⟩
 self:=fun _ _ _ _ _ st h=>wpAny_pyIter_tupleiter st h
theorem turn_range {P:Program} {w:World} {K:PySem.W.Frag} {tg:Expr} (it:Addr) (lo:Int) (n:Nat):Turn P w K tg (Itr lo n) [it] it (fun i h=>IsRangeIter h it (lo + (i:Nat) * 1) ((n:Int) - (i:Nat)) 1) where
 mem:=by simp
 obj:=fun i h st b hb=>by
  have e:b = it:=by simpa using hb
  subst e
  exact ⟨_,st,fun v z=>by
   have z':Data.fields _ = Data.cell v:=z
   cases z'⟩
 keep:=fun i h h' st k=>k it (by simp) _ st
 item:=by
  intro X hP hw hK hc i pins s σ H E I hf st hg
  subst hP hw hK
  obtain ⟨f0,f1,f2,f3,f4,f5⟩:=hf it (by simp)
  have W:=Walks.range (prog:=X.prog) (w:=X.w) (I.ok.hd hc) it lo 1 n
  refine W.item i s _ _ hg st fun v h' tk hv st' kk=>?_
  obtain ⟨t,rfl⟩:=hv
  have I1:Inv X pins σ H { s with heap:=h',toks:=tk }:=I.turned (fun b o hb e=>kk b o (by simpa using hb) e) f0 f1 f3 f4 f5
  refine ⟨_,rfl,go_of (s:={ s with heap:=h',toks:=tk }) (n:="range_iterator") st' rfl rfl (by decide) ⟨.int (lo + i),H,I1,⟨t,?_⟩,⟨rfl,rfl⟩,st',fun b hb=>(hf b hb).1⟩⟩
  rw [Int.mul_one]
 done:=by
  intro X hP hw hK hc i pins s σ H E I hf st hg
  subst hP hw hK
  obtain ⟨f0,f1,f2,f3,f4,f5⟩:=hf it (by simp)
  exact wpAny_pyNext_range_end (I.ok.hd hc) st (by have:n<=i:=hg; omega) fun h' eb=>⟨rfl,I.turned (t':=s.toks) (fun b o hb e=>eb b o hb e) f0 f1 f3 f4 f5⟩
 self:=fun _ _ _ _ _ st h=>wpAny_pyIter_rangeiter st h
end L2
namespace L2
open PySem PySem.Spec PyProof.Rows
section
variable {X:Cx} {tg:Expr}
noncomputable def iList (K:PySem.W.Frag) (tl:TE):TI:=fun σ H R=>tl σ H fun x H1=>∃ a,x = .ref a/\(∃ xs,SqL K H1 a xs)/\R (Itl K a) H1
noncomputable def iTup (K:PySem.W.Frag) (tl:TE):TI:=fun σ H R=>tl σ H fun x H1=>∃ a,x = .ref a/\(∃ xs,SqT K H1 a xs)/\R (Itt K a) H1
theorem pi_list {l:Expr} {tl:TE} (hl:PE X l tl):PI X tg l (iList X.K tl):=by
 intro pins s σ H R I h
 refine thn (hl pins s σ H _ I h) fun v s1 ⟨x,H1,I1,r1,q1⟩=>?_
 obtain ⟨a,e,⟨xs,hq⟩,q⟩:=q1
 subst e
 cases r1
 obtain ⟨its,rv,p,hz⟩:=I1.list hq
 refine wpAny_pyIter_list p.isList ?_
 refine ⟨s1.heap.objs.size,[s1.heap.objs.size],_,_,H1,rfl,I1.kept (t':=s1.toks) fun b o e=>Heap.get?_push_of_some _ e,turn_list a _,⟨_,Heap.get?_push_size _ rfl,rfl,rfl⟩,fun b hb=>?_,q⟩
 have e:b = s1.heap.objs.size:=by simpa using hb
 subst e
 exact I1.fpOk (Nat.le_refl _) (I1.hok.fresh (Nat.le_refl _))
theorem pi_tup {l:Expr} {tl:TE} (hl:PE X l tl):PI X tg l (iTup X.K tl):=by
 intro pins s σ H R I h
 refine thn (hl pins s σ H _ I h) fun v s1 ⟨x,H1,I1,r1,q1⟩=>?_
 obtain ⟨a,e,⟨xs,hq⟩,q⟩:=q1
 subst e
 cases r1
 obtain ⟨its,rv,p,hz⟩:=I1.tuple hq
 refine wpAny_pyIter_tuple (show s1.heap.IsTuple a its.toArray from p) ?_
 refine ⟨s1.heap.objs.size,[s1.heap.objs.size],_,_,H1,rfl,I1.kept (t':=s1.toks) fun b o e=>Heap.get?_push_of_some _ e,turn_tuple a _,⟨_,Heap.get?_push_size _ rfl,rfl,rfl⟩,fun b hb=>?_,q⟩
 have e:b = s1.heap.objs.size:=by simpa using hb
 subst e
 exact I1.fpOk (Nat.le_refl _) (I1.hok.fresh (Nat.le_refl _))
theorem range_it {pins:List (Addr × Obj)} {σ:St} {H:Hp} {s:Shared} {R:It->Hp->Prop} {E:Value->Shared->Prop} {lo hi:Int} {t u v:Tok} {tk:Nat} (I:Inv X pins σ H s) (h1:-(2 ^ 62)<=lo) (h2:lo < 2 ^ 62) (h3:-(2 ^ 62)<=hi) (h4:hi < 2 ^ 62)
  (q:R (Itr lo (hi - lo).toNat) H):wpAny (model X.prog X.w) X.A (pyIter (.ref s.heap.objs.size)) (PIE X pins σ tg R) E { s with heap:=s.heap.push { cls:=.type "range",data:=.fields #[.int lo t,.int hi u,.int 1 v] },toks:=tk }:=by
 refine wpAny_pyIter_range (IsRange.new ..) (small_one h1 h2 h3 h4) ?_
 have I1:Inv X pins σ H { s with heap:=s.heap.push { cls:=.type "range",data:=.fields #[.int lo t,.int hi u,.int 1 v] },toks:=tk }:=I.kept fun b o e=>Heap.get?_push_of_some _ e
 refine ⟨(s.heap.push { cls:=.type "range",data:=.fields #[.int lo t,.int hi u,.int 1 v] }).objs.size,[(s.heap.push { cls:=.type "range",data:=.fields #[.int lo t,.int hi u,.int 1 v] }).objs.size],_,_,H,rfl,
  I1.kept (t':=tk) fun b o e=>Heap.get?_push_of_some _ e,turn_range _ lo (hi - lo).toNat,?_,fun b hb=>?_,q⟩
 ·have e1:lo + ((0:Nat):Int) * 1 = lo:=by simp
  have e2:(((hi - lo).toNat:Nat):Int) - ((0:Nat):Int) = Builtin.Range.rangeSize lo hi 1:=by rw [rangeSize_one]; split <;> omega
  show IsRangeIter _ _ (lo + ((0:Nat):Int) * 1) ((((hi - lo).toNat:Nat):Int) - ((0:Nat):Int)) 1
  rw [e1,e2]
  exact Heap.get?_push_size _ rfl
 ·have e:b = (s.heap.push { cls:=.type "range",data:=.fields #[.int lo t,.int hi u,.int 1 v] }).objs.size:=by simpa using hb
  subst e
  exact I1.fpOk (Nat.le_refl _) (I1.hok.fresh (Nat.le_refl _))
noncomputable def iRng1 (ta:TA):TI:=fun σ H R=>ta σ H fun vs H1=>∃ j:Int,vs = [.int j]/\-(2 ^ 62)<=j/\j < 2 ^ 62/\R (Itr 0 j.toNat) H1
noncomputable def iRng2 (ta:TA):TI:=fun σ H R=>ta σ H fun vs H1=>∃ i j:Int,vs = [.int i,.int j]/\(-(2 ^ 62)<=i/\i < 2 ^ 62/\-(2 ^ 62)<=j/\j < 2 ^ 62)/\R (Itr i (j - i).toNat) H1
theorem pi_range1 {a:Expr} {ta:TA} {p pos:Pos} (hg:Gl X "range") (hm:X.mg "range" = none) (ha:PA X [a] ta) (hs:starEach [a] X.env = [(false,eval a X.env)]:=by rfl):PI X tg (.Call (.Name "range" p) [a] [] pos) (iRng1 ta):=by
 intro pins s σ H R I h
 refine Call_ (ld_blt I hg hm boot_range (PyProof.Rows.callWith_type1 (thn (ha pos pins s σ H _ I h) fun us s1 ⟨vs,H1,I1,r1,q1⟩=>?_) hs rfl))
 obtain ⟨j,e,q1,q2,q⟩:=q1
 subst e
 cases r1 with
 | cons r rr=>
  cases rr
  obtain ⟨t,rfl⟩:=r
  exact call_range_1 (range_it I1 (by omega) (by omega) q1 q2 (by simpa using q))
theorem pi_range2 {a b:Expr} {ta:TA} {p pos:Pos} (hg:Gl X "range") (hm:X.mg "range" = none) (ha:PA X [a,b] ta) (hs:starEach [a,b] X.env = [(false,eval a X.env),(false,eval b X.env)]:=by rfl) (hs2:starEach [b] X.env = [(false,eval b X.env)]:=by rfl) :
  PI X tg (.Call (.Name "range" p) [a,b] [] pos) (iRng2 ta):=by
 intro pins s σ H R I h
 refine Call_ (ld_blt I hg hm boot_range (PyProof.Rows.callWith_type1 (thn (ha pos pins s σ H _ I h) fun us s1 ⟨vs,H1,I1,r1,q1⟩=>?_) (by rw [hs,hs2]) (by rw [hs2]; rfl)))
 obtain ⟨i,j,e,⟨q1,q2,q3,q4⟩,q⟩:=q1
 subst e
 cases r1 with
 | cons r rr=>
  cases rr with
  | cons r' rr=>
   cases rr
   obtain ⟨t,rfl⟩:=r
   obtain ⟨t',rfl⟩:=r'
   exact call_range_2 (range_it I1 q1 q2 q3 q4 q)
noncomputable def tFor (wi:TI) (g:TG) (tb:TS):TS:=fun D σ H=>wi σ H fun J H1=>∃ W:Nat->Nat->St->Hp->Prop,(∃ m,W 0 m σ H1)/\∀ i m σ H,W i m σ H->
 (J.stop i H/\D.nx σ H)\/(J.go i H/\∃ N:St->Hp->Prop,(∀ σ' H',N σ' H'->∃ m',m' < m/\W (i + 1) m' σ' H')/\∀ x H',J.yld i H x H'->g x σ H' fun σ2 H2=>tb { D with nx:=N,ct:=N,bk:=D.nx } σ2 H2)
noncomputable def pinsAt (fp:List Addr) (h:Heap):List (Addr × Obj):=fp.filterMap fun b=>(h.get? b).map fun o=>(b,o)
theorem mem_pinsAt {fp:List Addr} {h:Heap} {b:Addr} {o:Obj} (hb:b ∈ fp) (e:h.get? b = some o):(b,o) ∈ pinsAt fp h:=List.mem_filterMap.mpr ⟨b,hb,by rw [e]; rfl⟩
theorem of_pinsAt {fp:List Addr} {h:Heap} {p:Addr × Obj} (hp:p ∈ pinsAt fp h):p.1 ∈ fp/\h.get? p.1 = some p.2:=by
 obtain ⟨b,hb,e⟩:=List.mem_filterMap.mp hp
 cases q:h.get? b with
 | none=>rw [q] at e; cases e
 | some o=>
  rw [q] at e
  have e':(b,o) = p:=Option.some.inj e
  subst e'
  exact ⟨hb,q⟩
theorem Inv.pinned {pins:List (Addr × Obj)} {σ:St} {H:Hp} {s:Shared} {fp:List Addr} (I:Inv X pins σ H s) (hf:∀ b ∈ fp,FpOk X pins H b) (ho:∀ b ∈ fp,∃ o,s.heap.get? b = some o/\∀ v,o.data ≠ .cell v):Inv X (pins ++ pinsAt fp s.heap) σ H s:=
 I.pins_of fun p hp=>(List.mem_append.mp hp).elim (fun z=>I.pin p (List.mem_append_right _ z)) fun z=>by
  obtain ⟨hb,e⟩:=of_pinsAt z
  obtain ⟨f0,f1,f2,_⟩:=hf p.1 hb
  obtain ⟨o,e',d⟩:=ho p.1 hb
  rw [e] at e'; cases e'
  exact ⟨e,f0,f1,f2,d⟩
theorem Inv.unpinned {pins pl:List (Addr × Obj)} {σ:St} {H:Hp} {s:Shared} (I:Inv X (pins ++ pl) σ H s):Inv X pins σ H s:=I.pins_of fun p hp=>I.pin p (List.mem_append_right _ (List.mem_append_left _ hp))
theorem ps_for {iter:Expr} {body:List Stmt} {wi:TI} {g:TG} {tb:TS} {pos:Pos} (hp:PassesOwn (model X.prog X.w) X.A X.env X.xe) (hc:X.calm = true) (hi:PI X tg iter wi) (hg:PG X tg g) (hb:PSs X body tb)
  (hs:∀ x,foldedSetIterable iter X.env x = pure x:=by intro _; rfl):PS X (.For tg iter body [] pos) (tFor wi g tb):=by
 intro pins s σ H D I h
 refine wpAny_For (thn (hi pins s σ H _ I h) fun v s1 h1=>thn h1 fun itv s2 h2=>?_) hs
 obtain ⟨it,fp,tn,J,H2,e,I2,T,st2,f2,W,⟨m0,w0⟩,turn⟩:=h2
 subst e
 -- what stays true of the iterator's objects through the loop
 have stat:∀ {H':Hp},(∀ b ∈ fp,H' b = none)->∀ b ∈ fp,FpOk X pins H' b:=fun hn b hb=>⟨hn b hb,(f2 b hb).2⟩
 refine codeAny_forLoop_any (fun n s'=>∃ i σ' H',Inv X pins σ' H' s'/\tn i s'.heap/\(∀ b ∈ fp,H' b = none)/\W i n σ' H') ?_ m0 ⟨0,σ,H2,I2,st2,fun b hb=>(f2 b hb).1,w0⟩
 rintro n s3 ⟨i,σ3,H3,I3,st3,fr3,w3⟩
 rcases turn i n σ3 H3 w3 with ⟨stop,qn⟩ | ⟨go,N,hN,step⟩
 ·refine wpAny_passesOwn hp (thn (T.done X rfl rfl rfl hc i pins s3 σ3 H3 X.xe I3 (stat fr3) st3 stop) fun r s4 ⟨hr,I4⟩=>?_)
  subst hr
  exact wpAny_execs_nil ⟨σ3,H3,I4,qn⟩
 ·refine wpAny_passesOwn hp (thn (T.item X rfl rfl rfl hc i pins s3 σ3 H3 X.xe I3 (stat fr3) st3 go) fun r s4 ⟨u,hr,h4⟩=>?_)
  subst hr
  refine wpAny_passesOwn hp (thn h4 fun _ s5 ⟨x,H5,I5,r5,y5,st5,fr5⟩=>?_)
  have I5':=I5.pinned (stat fr5) (T.obj _ _ st5)
  refine wpAny_passesOwn hp (thn (hg _ s5 σ3 H5 x u _ I5' r5 (step x H5 y5)) fun _ s6 ⟨σ6,H6,I6,q6⟩=>?_)
  refine wpAny_passesOwn hp (thn (hb _ s6 σ6 H6 _ I6 q6) fun f s7 q7=>?_)
  have again:∀ {σ7:St} {H7:Hp},Inv X (pins ++ pinsAt fp s5.heap) σ7 H7 s7->N σ7 H7->∃ m,m < n/\∃ i σ' H',Inv X pins σ' H' s7/\tn i s7.heap/\(∀ b ∈ fp,H' b = none)/\W i m σ' H':=fun {σ7 H7} I7 n7=>by
   obtain ⟨m',hm,w7⟩:=hN σ7 H7 n7
   refine ⟨m',hm,i + 1,σ7,H7,I7.unpinned,T.keep _ _ _ st5 fun b hb o e=>(I7.pin (b,o) (List.mem_append_right _ (List.mem_append_right _ (mem_pinsAt hb e)))).1,fun b hb=>?_,w7⟩
   obtain ⟨o,e,d⟩:=T.obj _ _ st5 b hb
   exact (I7.pin (b,o) (List.mem_append_right _ (List.mem_append_right _ (mem_pinsAt hb e)))).2.1
  cases f with
  | next=>obtain ⟨σ7,H7,I7,n7⟩:=q7; exact again I7 n7
  | cont=>obtain ⟨σ7,H7,I7,n7⟩:=q7; exact again I7 n7
  | brk=>obtain ⟨σ7,H7,I7,q7⟩:=q7; exact ⟨σ7,H7,I7.unpinned,q7⟩
  | ret v=>obtain ⟨x7,σ7,H7,I7,r7,q7⟩:=q7; exact ⟨x7,σ7,H7,I7.unpinned,r7,q7⟩
end
end L2
namespace L2
open PySem PySem.Spec PyProof.Rows
noncomputable abbrev R2:=V->V->Hp->VK->Prop
noncomputable def OpR (X:Cx) (f:Value->Value->Sem Value) (r:R2):Prop:=
 ∀ (pins:List (Addr × Obj)) (s:Shared) (σ:St) (H:Hp) (x y:V) (v u:Value) (Q:VK),Inv X pins σ H s->RelV x v->RelV y u->r x y H Q->
  wpAny (model X.prog X.w) X.A (f v u) (EP X pins σ Q) X.xe s
noncomputable def UnR (X:Cx) (f:Value->Sem Value) (r:V->Hp->VK->Prop):Prop:=
 ∀ (pins:List (Addr × Obj)) (s:Shared) (σ:St) (H:Hp) (x:V) (v:Value) (Q:VK),Inv X pins σ H s->RelV x v->r x H Q->
  wpAny (model X.prog X.w) X.A (f v) (EP X pins σ Q) X.xe s
noncomputable def CallR (X:Cx) (f:Value) (r:List V->Hp->VK->Prop):Prop:=
 ∀ (pins:List (Addr × Obj)) (s:Shared) (σ:St) (H:Hp) (xs:List V) (us:List Value) (Q:VK),Inv X pins σ H s->Vals xs us->r xs H Q->
  wpAny (model X.prog X.w) X.A (call f us) (EP X pins σ Q) X.xe s
noncomputable def TruR (X:Cx) (r:V->Hp->(Bool->Hp->Prop)->Prop):Prop:=
 ∀ (pins:List (Addr × Obj)) (s:Shared) (σ:St) (H:Hp) (x:V) (v:Value) (Q:Bool->Hp->Prop),Inv X pins σ H s->RelV x v->r x H Q->
  wpAny (model X.prog X.w) X.A (truthy v) (TP X pins σ Q) X.xe s
noncomputable def tOp (r:R2) (ta tb:TE):TE:=fun σ H Q=>ta σ H fun x H1=>tb σ H1 fun y H2=>r x y H2 Q
noncomputable def tUn (r:V->Hp->VK->Prop) (ta:TE):TE:=fun σ H Q=>ta σ H fun x H1=>r x H1 Q
noncomputable def rI (C:Int->Int->Prop) (g:Int->Int->V):R2:=fun x y H Q=>∃ i j,x = .int i/\y = .int j/\C i j/\Q (g i j) H
noncomputable def rI0 (g:Int->Int->V):R2:=fun x y H Q=>∃ i j,x = .int i/\y = .int j/\Q (g i j) H
noncomputable def rU (g:Int->V):V->Hp->VK->Prop:=fun x H Q=>∃ i,x = .int i/\Q (g i) H
section
variable {X:Cx} {a b c:Expr} {ta tb tc:TE} {pos:Pos}
theorem binT (ha:PE X a ta) (hb:PE X b tb) {pins:List (Addr × Obj)} {s:Shared} {σ:St} {H:Hp} {R:V->V->Hp->Prop} (I:Inv X pins σ H s)
  (h:ta σ H fun x H1=>tb σ H1 fun y H2=>R x y H2) {Q:Value->Shared->Prop} {f:Value->Value->Sem Value}
  (hf:∀ v u s2 x y H2,Inv X pins σ H2 s2->RelV x v->RelV y u->R x y H2->wpAny (model X.prog X.w) X.A (f v u) Q X.xe s2) :
  wpAny (model X.prog X.w) X.A (eval a X.env) (fun v s₁=>wpAny (model X.prog X.w) X.A (eval b X.env) (fun u s₂=>wpAny (model X.prog X.w) X.A (f v u) Q X.xe s₂) X.xe s₁) X.xe s:=by
 refine thn (ha pins s σ H _ I h) fun v s1 ⟨x,H1,I1,r1,q1⟩=>?_
 refine thn (hb pins s1 σ H1 _ I1 q1) fun u s2 ⟨y,H2,I2,r2,q2⟩=>?_
 exact hf v u s2 x y H2 I2 r1 r2 q2
theorem pe_op {op:Operator} {r:R2} (ho:OpR X (binaryOp op) r) (ha:PE X a ta) (hb:PE X b tb):PE X (.BinOp a op b pos) (tOp r ta tb):=by
 intro pins s σ H Q I h
 exact wpAny_BinOp (binT ha hb I h fun v u s2 x y H2 I2 rx ry q=>ho pins s2 σ H2 x y v u Q I2 rx ry q)
theorem pe_un {op:UnaryOp} {r:V->Hp->VK->Prop} (ho:UnR X (unaryOp op) r) (ha:PE X a ta):PE X (.UnaryOp op a pos) (tUn r ta):=by
 intro pins s σ H Q I h
 exact UnaryOp_ (thn (ha pins s σ H _ I h) fun v s1 ⟨x,H1,I1,r1,q1⟩=>ho pins s1 σ H1 x v Q I1 r1 q1)
theorem opI {f:Value->Value->Sem Value} {C:Int->Int->Prop} {g:Int->Int->Int}
  (rule:∀ (i j:Int) (t u:Tok) (s:Shared) (Q:Value->Shared->Prop) (E:Value->Shared->Prop),C i j->Q (.int (g i j) s.toks) { s with toks:=s.toks + 1 }->wpAny (model X.prog X.w) X.A (f (.int i t) (.int j u)) Q E s) :
  OpR X f (rI C fun i j=>.int (g i j)):=by
 intro pins s σ H x y v u Q I rx ry h
 obtain ⟨i,j,rfl,rfl,hc,q⟩:=h
 obtain ⟨t,rfl⟩:=rx
 obtain ⟨t',rfl⟩:=ry
 exact rule i j t t' s _ _ hc ⟨.int (g i j),H,I.tok _,⟨_,rfl⟩,q⟩
theorem opI0 {f:Value->Value->Sem Value} {g:Int->Int->Int}
  (rule:∀ (i j:Int) (t u:Tok) (s:Shared) (Q:Value->Shared->Prop) (E:Value->Shared->Prop),Q (.int (g i j) s.toks) { s with toks:=s.toks + 1 }->wpAny (model X.prog X.w) X.A (f (.int i t) (.int j u)) Q E s) :
  OpR X f (rI0 fun i j=>.int (g i j)):=by
 intro pins s σ H x y v u Q I rx ry h
 obtain ⟨i,j,rfl,rfl,q⟩:=h
 obtain ⟨t,rfl⟩:=rx
 obtain ⟨t',rfl⟩:=ry
 exact rule i j t t' s _ _ ⟨.int (g i j),H,I.tok _,⟨_,rfl⟩,q⟩
theorem opB0 {f:Value->Value->Sem Value} {g:Int->Int->Bool}
  (rule:∀ (i j:Int) (t u:Tok) (s:Shared) (Q:Value->Shared->Prop) (E:Value->Shared->Prop),Q (.bool (g i j)) s->wpAny (model X.prog X.w) X.A (f (.int i t) (.int j u)) Q E s) :
  OpR X f (rI0 fun i j=>.bl (g i j)):=by
 intro pins s σ H x y v u Q I rx ry h
 obtain ⟨i,j,rfl,rfl,q⟩:=h
 obtain ⟨t,rfl⟩:=rx
 obtain ⟨t',rfl⟩:=ry
 exact rule i j t t' s _ _ ⟨.bl (g i j),H,I,rfl,q⟩
noncomputable def CPow (i j:Int):Prop:=0<=j/\j<=1000000/\i.natAbs < 2 ^ 64
theorem two_pow_nn (k:Nat):(0:Int)<=2 ^ k:=by
 rw [two_pow_cast]
 exact Int.natCast_nonneg _
theorem op_add:OpR X (binaryOp .Add) (rI0 fun i j=>.int (i + j)):=opI0 fun _ _ _ _ _ _ _ q=>add_int q
theorem op_sub:OpR X (binaryOp .Sub) (rI0 fun i j=>.int (i - j)):=opI0 fun _ _ _ _ _ _ _ q=>sub_int q
theorem op_mod:OpR X (binaryOp .Mod) (rI (fun _ j=>0 < j) fun i j=>.int (i % j)):=opI fun i j _ _ _ _ _ hc q=>by
 have h1:(0:Int) < j:=hc
 exact mod_int' (by omega) (by rw [Int.fmod_eq_emod_of_nonneg i (by omega)]; exact q)
theorem op_pow:OpR X (binaryOp .Pow) (rI CPow fun i j=>.int (i ^ j.toNat)):=opI fun _ _ _ _ _ _ _ hc q=>pow_int_small hc.1 hc.2.1 hc.2.2 q
theorem op_shr:OpR X (binaryOp .RShift) (rI (fun _ j=>0<=j) fun i j=>.int (i / 2 ^ j.toNat)):=opI fun i j _ _ _ _ _ hc q=>
 rshift_int hc (by rw [Int.fdiv_eq_ediv_of_nonneg i (two_pow_nn _)]; exact q)
theorem op_and:OpR X (binaryOp .BitAnd) (rI0 fun i j=>.int (Builtin.bitAnd i j)):=opI0 fun _ _ _ _ _ _ _ q=>and_int q
theorem op_or:OpR X (binaryOp .BitOr) (rI0 fun i j=>.int (Builtin.bitOr i j)):=opI0 fun _ _ _ _ _ _ _ q=>or_int q
theorem op_xor:OpR X (binaryOp .BitXor) (rI0 fun i j=>.int (Builtin.bitXor i j)):=opI0 fun _ _ _ _ _ _ _ q=>xor_int q
theorem unI {f:Value->Sem Value} {g:Int->Int}
  (rule:∀ (i:Int) (t:Tok) (s:Shared) (Q:Value->Shared->Prop) (E:Value->Shared->Prop),Q (.int (g i) s.toks) { s with toks:=s.toks + 1 }->wpAny (model X.prog X.w) X.A (f (.int i t)) Q E s) :
  UnR X f (rU fun i=>.int (g i)):=by
 intro pins s σ H x v Q I rx h
 obtain ⟨i,rfl,q⟩:=h
 obtain ⟨t,rfl⟩:=rx
 exact rule i t s _ _ ⟨.int (g i),H,I.tok _,⟨_,rfl⟩,q⟩
theorem un_neg:UnR X (unaryOp .USub) (rU fun i=>.int (-i)):=unI fun _ _ _ _ _ q=>neg_int q
end
section
variable {X:Cx} {a b c:Expr} {ta tb tc:TE} {pos:Pos}
theorem op_lt:OpR X (compareOp .Lt) (rI0 fun i j=>.bl (decide (i < j))):=opB0 fun _ _ _ _ _ _ _ q=>lt_int q
theorem op_le:OpR X (compareOp .LtE) (rI0 fun i j=>.bl (decide (i<=j))):=opB0 fun _ _ _ _ _ _ _ q=>le_int q
theorem op_gt:OpR X (compareOp .Gt) (rI0 fun i j=>.bl (decide (j < i))):=opB0 fun _ _ _ _ _ _ _ q=>gt_int q
theorem op_ge:OpR X (compareOp .GtE) (rI0 fun i j=>.bl (decide (j<=i))):=opB0 fun _ _ _ _ _ _ _ q=>ge_int q
theorem pe_cmpR {op:CmpOp} {r:R2} (ho:OpR X (compareOp op) r) (ha:PE X a ta) (hb:PE X b tb) (hm:behindInMarks op b = false):PE X (.Compare a [op] [b] pos) (tOp r ta tb):=by
 intro pins s σ H Q I h
 exact wpAny_Compare1 (binT ha hb I h fun v u s2 x y H2 I2 rx ry q=>ho pins s2 σ H2 x y v u Q I2 rx ry q) hm
noncomputable def tTest (t:TE):TT:=fun σ H Q=>t σ H fun x H'=>∃ k,x = .bl k/\Q k H'
theorem pt_cmpR {op:CmpOp} {r:R2} (ho:OpR X (compareOp op) r) (ha:PE X a ta) (hb:PE X b tb) (hm:behindInMarks op b = false):PT X (.Compare a [op] [b] pos) (tTest (tOp r ta tb)):=by
 intro pins s σ H Q I h
 refine wpAny_isTrue_Compare1 (thn (ha pins s σ H _ I h) fun v s1 ⟨x,H1,I1,r1,q1⟩=>thn (hb pins s1 σ H1 _ I1 q1) fun u s2 ⟨y,H2,I2,r2,q2⟩=>
  thn (ho pins s2 σ H2 x y v u _ I2 r1 r2 q2) fun c s3 ⟨z,H3,I3,r3,k,e,q3⟩=>?_) hm
 subst e
 cases r3
 exact wpAny_truthy_bool ⟨H3,I3,q3⟩
noncomputable def tChain (r r':R2) (ta tb tc:TE):TE:=fun σ H Q=>ta σ H fun x H1=>tb σ H1 fun y H2=>r x y H2 fun z H3=>∃ k,z = .bl k/\
 (if k = true then tc σ H3 fun w' H4=>r' y w' H4 Q else Q (.bl false) H3)
theorem pe_chain {op op':CmpOp} {r r':R2} (ho:OpR X (compareOp op) r) (ho':OpR X (compareOp op') r') (ha:PE X a ta) (hb:PE X b tb) (hc:PE X c tc)
  (hm:lastMarks [op,op'] [b,c] = false:=by with_unfolding_all rfl):PE X (.Compare a [op,op'] [b,c] pos) (tChain r r' ta tb tc):=by
 intro pins s σ H Q I h
 refine Compare_chain (thn (ha pins s σ H _ I h) fun v s1 ⟨x,H1,I1,r1,q1⟩=>chain_link (thn (hb pins s1 σ H1 _ I1 q1) fun u s2 ⟨y,H2,I2,r2,q2⟩=>
  thn (ho pins s2 σ H2 x y v u _ I2 r1 r2 q2) fun d s3 ⟨z,H3,I3,r3,k,e,q3⟩=>?_)) hm
 subst e
 cases r3
 refine wpAny_truthy_bool ?_
 cases k with
 | false=>exact ite_ff ⟨.bl false,H3,I3,rfl,q3⟩
 | true=>exact ite_tt (chain_last (thn (hc pins s3 σ H3 _ I3 q3) fun w' s4 ⟨z',H4,I4,r4,q4⟩=>ho' pins s4 σ H4 y z' u w' Q I4 r2 r4 q4))
noncomputable def TruV (K:PySem.W.Frag) (x:V) (H:Hp) (k:Bool):Prop:=
 match x with
 | .non=>k = false
 | .bl b=>k = b
 | .int i=>k = (i != 0)
 | .str y=>y.length<=sizeLine/\k = ((y.length:Int) != 0)
 | .byt y=>y.size<=sizeLine/\k = ((y.size:Int) != 0)
 | .ref p=>(∃ xs,SqL K H p xs/\k = !xs.isEmpty)\/(∃ xs,SqT K H p xs/\k = !xs.isEmpty)\/∃ kvs,H p = some (.dK kvs)/\k = !kvs.isEmpty
 | _=>False
theorem isEmpty_kv {κ:Type} {kvs:List (κ × V)} {vs:List (κ × Value)} (r:KV kvs vs):(!vs.isEmpty) = !kvs.isEmpty:=by
 cases r <;> rfl
theorem isEmpty_of {xs:List V} {its:List Value} (r:Vals xs its):(!its.toArray.isEmpty) = !xs.isEmpty:=by
 cases r <;> simp
theorem line63:(sizeLine:Nat) < 2 ^ 63:=by rw [sizeLine_eq]; decide
theorem tru_ok:TruR X (fun x H Q=>∃ k,TruV X.K x H k/\Q k H):=by
 intro pins s σ H x v Q I rx h
 obtain ⟨k,e,q⟩:=h
 have hl:=line63
 have hs:sizeLine = 16777216:=sizeLine_eq
 cases x with
 | non=>
  cases rx
  have e':k = false:=e
  subst e'
  exact truthy_none ⟨H,I,q⟩
 | bl b=>
  cases rx
  have e':k = b:=e
  subst e'
  exact wpAny_truthy_bool ⟨H,I,q⟩
 | int i=>
  obtain ⟨t,rfl⟩:=rx
  have e':k = (i != 0):=e
  subst e'
  exact PySem.P.truthy_int ⟨H,I,q⟩
 | str y=>
  obtain ⟨t,rfl⟩:=rx
  obtain ⟨hy,e'⟩:y.length<=sizeLine/\k = ((y.length:Int) != 0):=e
  subst e'
  exact PySem.P.truthy_str (by omega) ⟨H,I.tok _,q⟩
 | byt y=>
  obtain ⟨t,rfl⟩:=rx
  obtain ⟨hy,e'⟩:y.size<=sizeLine/\k = ((y.size:Int) != 0):=e
  subst e'
  exact PySem.W.truthy_bytes (by omega) ⟨H,I.tok _,q⟩
 | ref p=>
  cases rx
  have e':(∃ xs,SqL X.K H p xs/\k = !xs.isEmpty)\/(∃ xs,SqT X.K H p xs/\k = !xs.isEmpty)\/∃ kvs,H p = some (.dK kvs)/\k = !kvs.isEmpty:=e
  rcases e' with ⟨xs,hx,e'⟩ | ⟨xs,hx,e'⟩ | ⟨kvs,hx,e'⟩
  ·subst e'
   obtain ⟨its,r,pl,hz⟩:=I.list hx
   have hlen:=r.length
   exact wpAny_truthy_list pl.isList (by simp only [List.size_toArray]; omega) ⟨H,I.tok _,by rw [isEmpty_of r]; exact q⟩
  ·subst e'
   obtain ⟨its,r,pl,hz⟩:=I.tuple hx
   have hlen:=r.length
   exact truthy_tuple pl (by simp only [List.size_toArray]; omega) ⟨H,I.tok _,by rw [isEmpty_of r]; exact q⟩
  ·subst e'
   obtain ⟨hz,hS,vs,r,m⟩:kvs.length<=sizeLine/\(p == sysModules) = false/\∃ vs,KV kvs vs/\s.heap.DictOf (mixKind X.prog X.w) p vs:=I.hok p _ hx
   have hlen:kvs.length = vs.length:=Paired.length r
   exact wpAny_truthy_dict hS m (by omega) ⟨H,I.tok _,by rw [isEmpty_kv r]; exact q⟩
 | _=>exact (show False from e).elim
theorem pt_truth (ha:PE X a ta) (he:∀ whole,isTrue a X.env whole = (do let v <- whole; standAt a.pos; holding [v] (truthy v))) :
  PT X a (fun σ H Q=>ta σ H fun x H'=>∃ k,TruV X.K x H' k/\Q k H'):=by
 intro pins s σ H Q I h
 exact isTrue_plain (thn (ha pins s σ H _ I h) fun v s1 ⟨x,H1,I1,r1,q1⟩=>tru_ok pins s1 σ H1 x v Q I1 r1 q1) (he _)
theorem vals1 {x:V} {us:List Value} (r:Vals [x] us):∃ u,us = [u]/\RelV x u:=by
 cases r with
 | cons r1 r2=>cases r2; exact ⟨_,rfl,r1⟩
theorem vals2 {x y:V} {us:List Value} (r:Vals [x,y] us):∃ u w',us = [u,w']/\RelV x u/\RelV y w':=by
 cases r with
 | cons r1 r2=>
  cases r2 with
  | cons r3 r4=>cases r4; exact ⟨_,_,rfl,r1,r3⟩
theorem call_min2 (hc:X.calm = true):CallR X (.builtin "min") (fun xs H Q=>∃ i j,xs = [.int i,.int j]/\Q (.int (if j < i then j else i)) H):=by
 intro pins s σ H xs us Q I r h
 obtain ⟨i,j,rfl,q⟩:=h
 obtain ⟨u,w',rfl,⟨t,rfl⟩,⟨t',rfl⟩⟩:=vals2 r
 refine min_two_ints (I.ok.hd hc) fun h' tk k=>⟨_,H,I.kept k,?_,q⟩
 by_cases hj:j < i
 ·rw [if_pos hj,if_pos hj]; exact ⟨_,rfl⟩
 ·rw [if_neg hj,if_neg hj]; exact ⟨_,rfl⟩
end
end L2
namespace L2
open PySem PySem.Spec PyProof.Rows
structure ObjM (h:Heap) (x dx C:Addr) (mA:Str->Option Value):Prop where
 obj:h.get? x = some (PySem.W.instObj C dx)
 ns:h.Ns1 dx mA
 ne:dx ≠ x
theorem lookIn_ns {h:Heap} {dx:Addr} {mA:Str->Option Value} (n:h.Ns1 dx mA):∃ od,h.get? dx = some od/\∀ name,PySem.W.lookIn name od = some (mA name):=by
 obtain ⟨o,es,ep,ho,hd,hk,_,hm⟩:=n
 refine ⟨o,ho,fun name=>?_⟩
 have e:=hm name
 unfold nsFind findBy at e
 rw [<- Array.find?_toList] at e
 unfold PySem.W.lookIn
 rw [hd]
 dsimp only
 split
 ·rename_i y q
  rw [q] at e
  exact congrArg some e
 ·rename_i q
  rw [q] at e
  have a:es.toList.any (·.refKey) = false:=by
   rw [List.any_eq_false]
   intro y hy
   obtain ⟨z,t,hkey⟩:=hk y (Array.mem_toList_iff.mp hy)
   simp [DictEntry.refKey,hkey]
  have a':¬ es.toList.any (·.refKey) = true:=by rw [a]; exact Bool.false_ne_true
  rw [if_neg a']
  exact congrArg some e
theorem ObjM.look {h:Heap} {x dx C:Addr} {mA:Str->Option Value} (I:ObjM h x dx C mA):∃ od,PySem.W.InstAt h x (PySem.W.instObj C dx) C (some od)/\∀ name,PySem.W.lookIn name od = some (mA name):=
 let ⟨od,ho,hl⟩:=lookIn_ns I.ns
 ⟨od,⟨I.obj,rfl,rfl,ho⟩,hl⟩
section
variable {prog:Program} {w:World} {A:Around} {E:Value->Shared->Prop} {s:Shared} {K:PySem.W.Frag} {x dx C f:Addr} {mA:Str->Option Value} {name:Str} {v:Value}
end
section
variable {P:Program} {w:World} {H H':Hp} {h h':Heap} {a C dx:Addr} {fs fs':List (Str × V)}
theorem ins_get (hok:HOk P w H h) (e:H a = some (.ins C dx fs)):∃ mA,ObjM h a dx C mA/\(∀ f,RelO (fs.lookup f) (mA f))/\PySem.Within mA (fs.map (·.1))/\fs.length<=1000/\H dx = some (.own a):=by
 obtain ⟨d,z,ne,ob,mA,n,r,q⟩:=(show ObjOk P w H h a (.ins C dx fs) from hok a _ e)
 exact ⟨mA,⟨ob,n,ne⟩,r,q,z,d⟩
end
structure Cls (K:PySem.W.Frag) (C:Addr):Prop where
 pg:PySem.W.plainGet K C Str.empty = true
 hd:PySem.W.hasDictIn K C = true
 po:PySem.W.plainOver K C = true
 sa:PySem.W.findIn K (.ref C) "__setattr__" = some (some (.builtin "object.__setattr__"))
theorem Cls.get {K:PySem.W.Frag} {C:Addr} (c:Cls K C) (f:Str):PySem.W.plainGet K C f = true:=c.pg
structure Con (K:PySem.W.Frag) (C:Addr) (f:Str) (v:V) (u:Value):Prop where
 at_:PySem.W.findIn K (.ref C) f = some (some u)
 rel:RelV v u
 get:PySem.W.specialIn K u "__get__" = some none
 cp:PySem.W.copiedNames.contains f = false
structure Meth (K:PySem.W.Frag) (C:Addr) (m:Str) (f:Addr):Prop where
 at_:PySem.W.findIn K (.ref C) m = some (some (.ref f))
 fn:PySem.W.isFn K (.ref f) = true
 kp:PySem.W.keepIn K (.ref f) = true
section
variable {X:Cx} {pins:List (Addr × Obj)} {σ:St} {H:Hp} {s:Shared} {a C dx:Addr} {fs:List (Str × V)} {f:Str} {v:V} {A:Around} {E:Value->Shared->Prop}
end
section
variable {X:Cx} {o e value:Expr} {f:Str} {pos pos' tpos:Pos} {ta tv:TE}
end
section
variable {X:Cx} {pins:List (Addr × Obj)} {σ:St} {H:Hp} {s:Shared} {A:Around} {E:Value->Shared->Prop} {Q:Value->Shared->Prop} {c:Value} {b:Bool}
inductive TyOf (K:PySem.W.Frag) (H:Hp):V->Value->Prop where
 | non:TyOf K H .non (.type "NoneType")
 | bl (x:Bool):TyOf K H (.bl x) (.type "bool")
 | int (i:Int):TyOf K H (.int i) (.type "int")
 | str (x:Str):TyOf K H (.str x) (.type "str")
 | flt (x:UInt64):TyOf K H (.flt x) (.type "float")
 | lst {a:Addr} {xs:List V} (e:H a = some (.lst xs)):TyOf K H (.ref a) (.type "list")
 | frz {a:Addr} {o:Obj} {xs:List V} (e:H a = some (.frz o (.lst xs))):TyOf K H (.ref a) (.type "list")
 | tup {a:Addr} {xs:List V} (e:H a = some (.tup xs)):TyOf K H (.ref a) (.type "tuple")
 | dK {a:Addr} {kvs:List (Key × V)} (e:H a = some (.dK kvs)):TyOf K H (.ref a) (.type "dict")
 | dT {a:Addr} {kvs:List (List Key × V)} (e:H a = some (.dT kvs)):TyOf K H (.ref a) (.type "dict")
 | ins {a C dx:Addr} {fs:List (Str × V)} (e:H a = some (.ins C dx fs)) (cl:Cls K C) (ha:PySem.W.findIn K (.ref C) "__class__" = some (some (.builtin "object.__class__")))
   (hn:PySem.W.specialIn K (.builtin "object.__class__") "__get__" = some (some (.builtin "getset_descriptor.__get__"))) (htk:PySem.W.takesIn K (.builtin "object.__class__") = some true)
   (hm:PySem.W.mroIn K C (.type "object") = some true):TyOf K H (.ref a) (.ref C)
theorem isinst_ok {x:V} {u t:Value} (I:Inv X pins σ H s) (rx:RelV x u) (ty:TyOf X.K H x t) (e:PySem.W.kitOne X.K t c = some b) (h:∀ tk,Q (.bool b) { s with toks:=tk }) :
  wpAny (model X.prog X.w) A (call (.builtin "isinstance") [u,c]) Q E s:=by
 cases ty with
 | non=>cases (show u = Value.none from rx); exact PySem.W.kia_one PySem.W.kitx_none I.kIn True.intro e (fun z=>nomatch z) h
 | bl y=>cases (show u = Value.bool y from rx); exact PySem.W.kia_one PySem.W.kitx_bool I.kIn True.intro e (fun z=>nomatch z) h
 | int i=>obtain ⟨t,q⟩:=(show ∃ t,u = Value.int i t from rx); cases q; exact PySem.W.kia_one PySem.W.kitx_int I.kIn True.intro e (fun z=>nomatch z) h
 | str y=>obtain ⟨t,q⟩:=(show ∃ t,u = Value.str y t from rx); cases q; exact PySem.W.kia_one PySem.W.kitx_str I.kIn True.intro e (fun z=>nomatch z) h
 | flt y=>obtain ⟨t,q⟩:=(show ∃ t,u = Value.float y t from rx); cases q; exact PySem.W.kia_one PySem.W.kitx_float I.kIn True.intro e (fun z=>nomatch z) h
 | @lst a xs ea=>
  cases (show u = Value.ref a from rx)
  obtain ⟨_,_,n,_,h1⟩:=(show ObjOk X.prog X.w H s.heap a (.lst xs) from I.hok a _ ea)
  exact PySem.W.kia_one PySem.W.kitx_list I.kIn ⟨_,h1,rfl⟩ e (fun z=>nomatch z) h
 | @frz a ob xs ea=>
  cases (show u = Value.ref a from rx)
  obtain ⟨_,_,_,n,_,h1⟩:=(show ObjOk X.prog X.w H s.heap a (.frz ob (.lst xs)) from I.hok a _ ea)
  exact PySem.W.kia_one PySem.W.kitx_list I.kIn ⟨_,h1,rfl⟩ e (fun z=>nomatch z) h
 | @tup a xs ea=>
  cases (show u = Value.ref a from rx)
  obtain ⟨_,_,_,p⟩:=(show ObjOk X.prog X.w H s.heap a (.tup xs) from I.hok a _ ea)
  obtain ⟨o,h1,h2,_⟩:=p
  exact PySem.W.kia_one PySem.W.kitx_tuple I.kIn ⟨o,h1,h2⟩ e (fun z=>nomatch z) h
 | @dK a kvs ea=>
  cases (show u = Value.ref a from rx)
  obtain ⟨_,_,vs,_,p⟩:=(show ObjOk X.prog X.w H s.heap a (.dK kvs) from I.hok a _ ea)
  obtain ⟨o,es,ep,h1,h2,_⟩:=p
  exact PySem.W.kia_one PySem.W.kitx_dict I.kIn ⟨o,h1,h2.1⟩ e (fun z=>nomatch z) h
 | @dT a kvs ea=>
  cases (show u = Value.ref a from rx)
  obtain ⟨_,_,xs,_,o,es,ep,h1,h2,_⟩:=(show ObjOk X.prog X.w H s.heap a (.dT kvs) from I.hok a _ ea)
  exact PySem.W.kia_one PySem.W.kitx_dict I.kIn ⟨o,h1,h2.1⟩ e (fun z=>nomatch z) h
 | @ins a C dx fs ea cl ha hn htk hm=>
  cases (show u = Value.ref a from rx)
  obtain ⟨mA,O,_⟩:=ins_get I.hok ea
  obtain ⟨od,J,_⟩:=O.look
  exact PySem.W.kia_one (PySem.W.kitx_own (cl.get _) cl.hd ha hn htk hm) I.kIn J e (fun z=>nomatch z) h
end
end L2
namespace L2
open PySem PySem.Spec PyProof.Rows
structure Room (k:Nat) (A:Around):Prop where
 hd:A.handled = none
 dp:A.depth + 3 * k + 5 < recursionLimit
 un:A.units + 16 * k + 200 < cLine
 gd:A.guards = some []
theorem Room.mono {j k:Nat} {A:Around} (r:Room k A) (h:j<=k):Room j A:=⟨r.hd,by have:=r.dp; omega,by have:=r.un; omega,r.gd⟩
theorem Room.deeper {k:Nat} {A:Around} (r:Room (k + 1) A) (env:Env):Room k (A.deeper env):=
 ⟨r.hd,by have:=r.dp; show A.depth + 1 + 3 * k + 5 < _; omega,by have:=r.un; show A.units + 3 + 16 * k + 200 < _; omega,r.gd⟩
theorem Room.depth {k:Nat} {A:Around} (r:Room k A):A.depth < recursionLimit:=by have:=r.dp; omega
noncomputable def tNil:TA:=fun _ H Q=>Q [] H
noncomputable def tCons (ta:TE) (tr:TA):TA:=fun σ H Q=>ta σ H fun x H1=>tr σ H1 fun xs H2=>Q (x :: xs) H2
section
variable {X:Cx} {e:Expr} {es:List Expr} {te:TE} {t:TA} {pos:Pos}
theorem pa_nil:PA X [] tNil:=fun _ _ _ _ H Q I h=>Calls.spliced_nil ⟨[],H,I,.nil,h⟩
theorem pa_cons (ha:PE X e te) (hr:PA X es t) (hs:starEach (e :: es) X.env = (false,eval e X.env) :: starEach es X.env:=by rfl):PA X (e :: es) (tCons te t):=by
 intro pos pins s σ H Q I h
 rw [hs]
 show wpAny _ _ (spliced ((false,eval e X.env) :: backTo pos (starEach es X.env))) _ _ s
 refine Calls.spliced_cons (thn (ha pins s σ H _ I h) fun u s1 ⟨x,H1,I1,r1,q1⟩=>?_)
 exact thn (hr pos pins s1 σ H1 _ I1 q1) fun us s2 ⟨xs,H2,I2,r2,q2⟩=>⟨x :: xs,H2,I2,.cons r1 r2,q2⟩
noncomputable def tTup (t:TA):TE:=fun σ H Q=>t σ H fun xs H1=>xs.length<=sizeLine/\∀ p,H1 p = none->Q (.ref p) (upd H1 p (.tup xs))
noncomputable def tLst (t:TA):TE:=fun σ H Q=>t σ H fun xs H1=>xs.length<=sizeLine/\∀ p,H1 p = none->Q (.ref p) (upd H1 p (.lst xs))
theorem pe_tup {x1} (h:PA X es t):PE X (.Tuple es x1 pos) (tTup t):=by
 intro pins s σ H Q I hq
 refine wpAny_Tuple_spliced (thn (h pos pins s σ H _ I hq) fun us s1 ⟨xs,H1,I1,r,z,q⟩=>⟨by rw [<- r.length]; exact z,?_⟩)
 have hf:H1 s1.heap.objs.size = none:=I1.hok.fresh (Nat.le_refl _)
 refine ⟨.ref s1.heap.objs.size,upd H1 s1.heap.objs.size (.tup xs),I1.laid (t':=s1.toks) (fun b u e=>Heap.get?_push_of_some _ e) (Nat.le_refl _) ?_,rfl,q _ hf⟩
 exact ⟨z,us,r,⟨_,Heap.get?_push_size _ rfl,rfl,_,rfl⟩⟩
theorem pe_lst (h:PA X es t):PE X (.List es pos) (tLst t):=by
 intro pins s σ H Q I hq
 refine wpAny_List_spliced (thn (h pos pins s σ H _ I hq) fun us s1 ⟨xs,H1,I1,r,z,q⟩=>⟨by rw [<- r.length]; exact z,?_⟩)
 have hf:H1 s1.heap.objs.size = none:=I1.hok.fresh (Nat.le_refl _)
 refine ⟨.ref s1.heap.objs.size,upd H1 s1.heap.objs.size (.lst xs),I1.laid (t':=s1.toks) (fun b u e=>Heap.get?_push_of_some _ e) (Nat.le_refl _) ?_,rfl,q _ hf⟩
 exact ⟨z,us,0,r,Heap.get?_push_size _ rfl⟩
end
noncomputable abbrev Sp:=List V->Hp->VK->XK->Prop
noncomputable abbrev CXT:=List Env->Hp->Shared->XK->Value->Shared->Prop
structure Env0 (P:Program) (w:World) (K:PySem.W.Frag) (mg:Str->Option Value) (base:Heap) (A:Around) (outer:List Env) (s:Shared) (H:Hp):Prop where
 frames:A.frames = some outer
 mod:Mod K mg base
 bs:∀ b o,base.get? b = some o->s.heap.get? b = some o/\H b = none
 bsz:base.objs.size<=s.heap.objs.size
 funs:s.heap.FunFrames base outer
 frf:∀ b ∈ frs outer,H b = none
 hok:HOk P w H s.heap
 bare:AllBare s.gens
noncomputable def CE (outer:List Env) (P:Program) (w:World) (H:Hp) (s:Shared) (Q:VK) (u:Value) (s':Shared):Prop:=
 ∃ v H',s'.os = s.os/\AllBare s'.gens/\Un (frs outer) [] H H' s.heap s'.heap/\HOk P w H' s'.heap/\RelV v u/\Q v H'
noncomputable def CR (CX:CXT) (outer:List Env) (P:Program) (w:World) (H:Hp) (s:Shared) (Q:VK) (E:XK) (r:Result) (s':Shared):Prop:=
 match r with
 | .ok (.ret u)=>CE outer P w H s Q u s'
 | .ok _=>False
 | .error e=>CX outer H s E e s'
structure FnOk (P:Program) (w:World) (K:PySem.W.Frag) (mg:Str->Option Value) (base:Heap) (CX:CXT) (k:Nat) (f:Addr) (fd:FuncData) (ps:List Str) (sp:Sp):Prop where
 len:∀ vs H Q E,sp vs H Q E->vs.length = ps.length
 run:∀ (A:Around) (outer:List Env) (s:Shared) (H:Hp) (args:Args) (us:List Value) (vs:List V) (Q:VK) (E:XK),Room k A->Env0 P w K mg base A outer s H->BindsTo s fd args (ps.zip us)->Vals vs us->sp vs H Q E->
  codeAny (model P w) A (.call (.ref f) args) (CR CX outer P w H s Q E) s
theorem FnOk.mono {P:Program} {w:World} {K:PySem.W.Frag} {mg:Str->Option Value} {base:Heap} {CX:CXT} {j k:Nat} {f:Addr} {fd:FuncData} {ps:List Str} {sp:Sp} (F:FnOk P w K mg base CX j f fd ps sp) (h:j<=k) :
  FnOk P w K mg base CX k f fd ps sp:=⟨F.len,fun A outer s H args us vs Q E hr=>F.run A outer s H args us vs Q E (hr.mono h)⟩
theorem FnOk.imp {P:Program} {w:World} {K:PySem.W.Frag} {mg:Str->Option Value} {base:Heap} {CX:CXT} {k:Nat} {f:Addr} {fd:FuncData} {ps:List Str} {sp sp':Sp} (F:FnOk P w K mg base CX k f fd ps sp)
  (h:∀ vs H Q E,sp' vs H Q E->sp vs H Q E):FnOk P w K mg base CX k f fd ps sp':=
 ⟨fun vs H Q E q=>F.len vs H Q E (h _ _ _ _ q),fun A outer s H args us vs Q E hr he hb hv hs=>F.run A outer s H args us vs Q E hr he hb hv (h _ _ _ _ hs)⟩
section
variable {X:Cx} {pins:List (Addr × Obj)} {σ:St} {H:Hp} {s s':Shared}
theorem Inv.env0 (I:Inv X pins σ H s):Env0 X.prog X.w X.K X.mg X.base X.A X.stack s H:=
 ⟨I.ok.frames,I.ok.mod,I.bs,Nat.le_trans I.ok.bsz I.sz,I.stack,I.stkFree,I.hok,I.bare⟩
theorem Inv.after {Q:VK} {u:Value} (I:Inv X pins σ H s) (h:CE X.stack X.prog X.w H s Q u s'):EP X pins σ Q u s':=by
 obtain ⟨v,H',os,bare,un,hok,r,q⟩:=h
 obtain ⟨hh,g,d,t,os'⟩:=s'
 obtain rfl:os' = s.os:=os
 exact ⟨v,H',I.call (h':=hh) (g':=g) (d':=d) (t':=t) (ch:=[]) un hok bare (fun b z=>absurd z (by simp)),r,q⟩
end
noncomputable def tCall (sp:Sp) (dvs:List V) (E:XK) (t:TA):TE:=fun σ H Q=>t σ H fun vs H1=>sp (vs ++ dvs) H1 Q E
noncomputable def Binds (K:PySem.W.Frag) (fd:FuncData) (ps:List Str) (ds:List Value):Prop:=
 ∀ (s:Shared) (us:List Value),K.In s.heap->(us ++ ds).length = ps.length->BindsTo s fd ⟨us,[]⟩ (ps.zip (us ++ ds))
theorem Binds.all {K:PySem.W.Frag} {fd:FuncData} {ps:List Str} (h:∀ us:List Value,us.length = ps.length->bindArgs fd ⟨us,[]⟩ = pure (ps.zip us)):Binds K fd ps []:=fun s us _ hl=>by
 rw [List.append_nil] at hl ⊢
 exact .of_eq (h us hl)
noncomputable def Passes (CX:CXT) (X:Cx) (E:XK):Prop:=∀ (pins:List (Addr × Obj)) (σ:St) (H:Hp) (s:Shared) (e:Value) (s':Shared),Inv X pins σ H s->CX X.stack H s E e s'->X.xe e s'
section
variable {X:Cx} {CX:CXT} {k:Nat} {f C:Addr} {fd:FuncData} {ps:List Str} {sp:Sp} {dvs:List V} {ds:List Value} {E:XK} {x m:Str} {p pos apos:Pos} {e o:Expr} {es:List Expr} {ta:TE} {t:TA}
theorem run_fn {pins:List (Addr × Obj)} {σ:St} {H:Hp} {s:Shared} {Q:VK} {us:List Value} {vs:List V} (F:FnOk X.prog X.w X.K X.mg X.base CX k f fd ps sp) (hr:Room k X.A) (hb:Binds X.K fd ps ds) (hd:Vals dvs ds) (hx:Passes CX X E)
  (I:Inv X pins σ H s) (r:Vals vs us) (h:sp (vs ++ dvs) H Q E):wpAny (model X.prog X.w) X.A (call (.ref f) us) (EP X pins σ Q) X.xe s:=by
 have r2:Vals (vs ++ dvs) (us ++ ds):=r.append hd
 have hl:(us ++ ds).length = ps.length:=by rw [<- r2.length]; exact F.len _ _ _ _ h
 refine wpAny_call (codeAny_mono (F.run X.A X.stack s H ⟨us,[]⟩ (us ++ ds) (vs ++ dvs) Q E hr I.env0 (hb s us I.kIn hl) r2 h) fun r s' hq=>?_)
 cases r with
 | error e=>exact hx pins σ H s e s' I hq
 | ok fl=>
  cases fl with
  | ret u=>exact I.after hq
  | next=>exact False.elim hq
  | brk=>exact False.elim hq
  | cont=>exact False.elim hq
theorem pe_call (F:FnOk X.prog X.w X.K X.mg X.base CX k f fd ps sp) (hr:Room k X.A) (hg:Gl X x) (hm:X.mg x = some (.ref f)) (hk:PySem.W.keepIn X.K (.ref f) = true) (hb:Binds X.K fd ps ds) (hd:Vals dvs ds) (hx:Passes CX X E)
  (ha:PA X (e :: es) t) (hdb:(x == ("__debug__":Str)) = false:=by decide) (he:starEach (e :: es) X.env = (false,eval e X.env) :: starEach es X.env:=by rfl) (hpl:(backTo pos (starEach es X.env)).any (·.1) = false:=by rfl) :
  PE X (.Call (.Name x p) (e :: es) [] pos) (tCall sp dvs E t):=by
 intro pins s σ H Q I h
 refine wpAny_Call_Name_kw (ld_glob I hg hm ?_ hdb)
 refine PySem.W.callWith_K (h₀:=X.base) I.ok.mod.kin hk (thn (ha pos pins s σ H _ I h) fun us s1 ⟨vs,H1,I1,r,q⟩=>⟨I1.kIn,?_⟩) he hpl
 exact run_fn F hr hb hd hx I1 r q
theorem pe_call0 (F:FnOk X.prog X.w X.K X.mg X.base CX k f fd ps sp) (hr:Room k X.A) (hg:Gl X x) (hm:X.mg x = some (.ref f)) (hk:PySem.W.keepIn X.K (.ref f) = true) (hb:Binds X.K fd ps ds) (hd:Vals dvs ds) (hx:Passes CX X E)
  (hdb:(x == ("__debug__":Str)) = false:=by decide):PE X (.Call (.Name x p) [] [] pos) (tCall sp dvs E tNil):=by
 intro pins s σ H Q I h
 refine wpAny_Call_Name_kw (ld_glob I hg hm ?_ hdb)
 exact PySem.W.callWith_K0 I.kIn hk (run_fn (us:=[]) F hr hb hd hx I .nil h)
structure Mk (K:PySem.W.Frag) (C f:Addr):Prop where
 makes:PySem.W.makesIn K C = true
 init:PySem.W.findIn K (.ref C) "__init__" = some (some (.ref f))
 fn:PySem.W.isFn K (.ref f) = true
 kp:PySem.W.keepIn K (.ref C) = true
end
section
variable {X:Cx} {CX:CXT} {k:Nat} {f C:Addr} {fd:FuncData} {ps ks:List Str} {sp:Sp} {E:XK} {x m:Str} {p pos apos kpos:Pos} {e o:Expr} {es:List Expr} {kws:List Keyword} {te ta:TE} {t tk:TA} {nm:Option Str}
structure KBinds (K:PySem.W.Frag) (fd:FuncData) (ps ks:List Str) (g:List Value->List Value->List Value) (gV:List V->List V->List V):Prop where
 to:∀ (s:Shared) (us ws:List Value),K.In s.heap->(g us ws).length = ps.length->BindsTo s fd ⟨us,ks.zip ws⟩ (ps.zip (g us ws))
 rel:∀ {vs:List V} {us:List Value} {zs:List V} {ws:List Value},Vals vs us->Vals zs ws->Vals (gV vs zs) (g us ws)
variable {g:List Value->List Value->List Value} {gV:List V->List V->List V}
end
structure FnScope (N P:List Str) (sc:Scope):Prop where
 kind:sc.kind = .function
 co:sc.isCoroutine = false
 gen:sc.isGenerator = false
 nd:N.Nodup
 pre:N.take P.length = P
 par:∀ x ∈ P,sc.names.lookup x = some .local\/sc.names.lookup x = some .cell
 nofree:∀ y ∈ sc.names,y.2 ≠ .free
theorem bindL_out {kindOf:Str->Option NameKind} {x:Str}:∀ {binds:List (Str × Value)} {m:Str->Option Value},(∀ v,(x,v) ∉ binds)->bindL kindOf binds m x = m x
 | [],_,_=>rfl
 | (n,v) :: r,m,h=>by
  unfold bindL
  rw [bindL_out fun w hw=>h w (List.mem_cons_of_mem _ hw)]
  split
  ·have:x ≠ n:=by rintro rfl; exact h v List.mem_cons_self
   simp [this]
  ·rfl
theorem bindC_out {kindOf:Str->Option NameKind} {x:Str}:∀ {binds:List (Str × Value)} {m:Str->Option Value},(∀ v,(x,v) ∉ binds)->bindC kindOf binds m x = m x
 | [],_,_=>rfl
 | (n,v) :: r,m,h=>by
  unfold bindC
  rw [bindC_out fun w hw=>h w (List.mem_cons_of_mem _ hw)]
  split
  ·rfl
  ·have:x ≠ n:=by rintro rfl; exact h v List.mem_cons_self
   simp [this]
theorem bindL_get {kindOf:Str->Option NameKind} {x:Str} {v:Value}:∀ {P:List Str} {vs:List Value} {i:Nat} {m:Str->Option Value},P.Nodup->P[i]? = some x->vs[i]? = some v->kindOf x = some .local->
  bindL kindOf (P.zip vs) m x = some v
 | [],_,_,_,_,h,_,_=>by simp at h
 | _ :: _,[],_,_,_,_,h,_=>by simp at h
 | p :: P,w :: vs,0,m,nd,h1,h2,hk=>by
  simp at h1 h2; subst h1; subst h2
  show bindL kindOf ((p,w) :: P.zip vs) m p = _
  unfold bindL
  rw [bindL_out fun v hv=>(List.nodup_cons.mp nd).1 (List.of_mem_zip hv).1,if_pos hk]
  simp
 | p :: P,w :: vs,i + 1,m,nd,h1,h2,hk=>by
  show bindL kindOf ((p,w) :: P.zip vs) m x = _
  unfold bindL
  exact bindL_get (i:=i) (List.nodup_cons.mp nd).2 (by simpa using h1) (by simpa using h2) hk
theorem bindC_get {kindOf:Str->Option NameKind} {x:Str} {v:Value}:∀ {P:List Str} {vs:List Value} {i:Nat} {m:Str->Option Value},P.Nodup->P[i]? = some x->vs[i]? = some v->kindOf x ≠ some .local->
  bindC kindOf (P.zip vs) m x = some v
 | [],_,_,_,_,h,_,_=>by simp at h
 | _ :: _,[],_,_,_,_,h,_=>by simp at h
 | p :: P,w :: vs,0,m,nd,h1,h2,hk=>by
  simp at h1 h2; subst h1; subst h2
  show bindC kindOf ((p,w) :: P.zip vs) m p = _
  unfold bindC
  rw [bindC_out fun v hv=>(List.nodup_cons.mp nd).1 (List.of_mem_zip hv).1,if_neg hk]
  simp
 | p :: P,w :: vs,i + 1,m,nd,h1,h2,hk=>by
  show bindC kindOf ((p,w) :: P.zip vs) m x = _
  unfold bindC
  exact bindC_get (i:=i) (List.nodup_cons.mp nd).2 (by simpa using h1) (by simpa using h2) hk
noncomputable def start (N:List Str) (vs:List V):St:=vs.map some ++ List.replicate (N.length - vs.length) none
noncomputable def cxOf (CX:CXT) (P:Program) (w:World) (K:PySem.W.Frag) (mg:Str->Option Value) (base:Heap) (N:List Str) (qual:Str) (scope:Scope) (f:Addr) (cd:Value) (A:Around) (outer:List Env) (s:Shared) (H:Hp) (E:XK):Cx where
 prog:=P
 w:=w
 K:=K
 mg:=mg
 base:=base
 A:=A.deeper (envOfC qual scope s.heap.objs.size f cd)
 N:=N
 s₀:=s
 H₀:=H
 env:=envOfC qual scope s.heap.objs.size f cd
 outer:=outer
 stack:=envOfC qual scope s.heap.objs.size f cd :: outer
 ex:=[]
 calm:=true
 fn:=fun _=>true
 pn:=[]
 xe:=fun e s'=>wpAny (model P w) (A.deeper (envOfC qual scope s.heap.objs.size f cd)) (leaving (envOfC qual scope s.heap.objs.size f cd) e) (fun _ s''=>CX outer H s E e s'') (fun e' s''=>CX outer H s E e' s'') s'
theorem cell_has {sc:Scope} {n:Nat} {x:Str} (h:sc.names.lookup x = some .cell):∃ c,(cellsFrom n sc.names []).lookup x = some c:=by
 have q:=PySem.W.cellsFrom_some sc.names n [] (.inl h)
 exact Option.isSome_iff_exists.mp q
theorem inv_start {CX:CXT} {P:Program} {w:World} {K:PySem.W.Frag} {mg:Str->Option Value} {base:Heap} {N ps:List Str} {qual:Str} {scope:Scope} {f:Addr} {cd:Value} {A:Around} {outer:List Env} {s s1:Shared} {H:Hp} {E:XK} {us:List Value} {vs:List V}
  (S:FnScope N ps scope) (hd:A.handled = none) (e0:Env0 P w K mg base A outer s H) (hl:vs.length = ps.length) (r:Vals vs us)
  (x:InCallC s s.heap.objs.size (bindL (envOfC qual scope s.heap.objs.size f cd).kindOf (ps.zip us) fun _=>none) (cellsFrom (s.heap.objs.size + 1) scope.names []) (bindC (envOfC qual scope s.heap.objs.size f cd).kindOf (ps.zip us) fun _=>none) s1) :
  Inv (cxOf CX P w K mg base N qual scope f cd A outer s H E) [] (start N vs) H s1:=by
 have hpl:ps.length<=N.length:=by have:=congrArg List.length S.pre; rw [List.length_take] at this; omega
 obtain ⟨h1,tk,rfl,hk⟩:=x.done
 have noA:∀ b:Addr,b ∉ (cxOf CX P w K mg base N qual scope f cd A outer s H E).ex:=fun b z=>absurd (show b ∈ ([]:List Addr) from z) (by simp)
 refine ⟨⟨e0.mod,S.kind,rfl,rfl,Nat.le_refl _,fun y z c h1 h2=>?_,fun y hy=>?_,fun y c _ h=>?_,fun _=>hd,Around.frames_deeper e0.frames,.inr ⟨rfl,rfl⟩,fun b z=>absurd z (noA b),e0.bs,e0.bsz,fun b _ _=>noA b,fun b z=>absurd z (noA b),e0.funs,e0.frf⟩,
  rfl,e0.bare,Un.kept hk,⟨_,x.toInCall.ns,fun i y v h1 h2 h3=>?_⟩,fun y c h=>⟨_,x.cell y c h⟩,e0.hok.fresh (Nat.le_refl _),fun y c h=>?_,fun p hp=>absurd (show p ∈ ([]:List (Addr × Obj)) from hp) (by simp),e0.hok.kept hk,?_⟩
 ·exact name_of_addr x.apart (PySem.mem_of_lookup h1) (PySem.mem_of_lookup h2)
 ·have hy:scope.names.lookup y = some .cell\/scope.names.lookup y = some .free:=hy
  rcases hy with hy | hy
  ·exact cell_has hy
  ·exact absurd rfl (S.nofree _ (PySem.mem_of_lookup hy))
 ·exact Nat.le_of_lt (x.above y c (PySem.mem_of_lookup h))
 ·have hi:i < vs.length:=by
   unfold start at h2
   by_cases hi:i < vs.length
   ·exact hi
   ·rw [List.getElem?_append_right (by simpa using hi)] at h2
    rw [List.getElem?_replicate] at h2
    split at h2 <;> cases h2
  have ha:vs[i]? = some v:=by
   unfold start at h2
   rw [List.getElem?_append_left (by simpa using hi),List.getElem?_map] at h2
   cases e:vs[i]? with
   | none=>rw [e] at h2; cases h2
   | some a=>rw [e] at h2; cases h2; rfl
  obtain ⟨u,hu,rv⟩:=r.get ha
  have hp:ps[i]? = some y:=by
   rw [<- S.pre,List.getElem?_take_of_lt (by omega)]; exact h1
  have ndP:ps.Nodup:=by rw [<- S.pre]; exact S.nd.sublist (List.take_sublist _ _)
  refine ⟨u,rv,?_⟩
  rcases S.par y (List.mem_of_getElem? hp) with k | k
  ·exact .inl ⟨k,bindL_get ndP hp hu k⟩
  ·obtain ⟨c,e⟩:=cell_has (n:=s.heap.objs.size + 1) k
   refine .inr ⟨.inl k,c,e,?_⟩
   have q:=x.cell y c e
   rw [bindC_get ndP hp hu (by show scope.names.lookup y ≠ _; rw [k]; decide)] at q
   exact q
 ·exact e0.hok.fresh (Nat.le_of_lt (x.above y c (PySem.mem_of_lookup h)))
 ·unfold start
  show _ = N.length
  rw [List.length_append,List.length_map,List.length_replicate]
  omega
theorem fn_of {CX:CXT} {P:Program} {w:World} {K:PySem.W.Frag} {mg:Str->Option Value} {base:Heap} {k:Nat} {f:Addr} {name qual:Str} {params:Arguments} {body:List Stmt} {scope:Scope} {dV kV doc pm cdv ct oc:Value} {an od:Option Addr}
  {osl:Array (Option Value)} {N ps:List Str} {sp:Sp} (lk:K.lookup f = some ⟨oc,od,.func (PySem.W.fnOf name qual params body scope dV kV doc pm an cdv ct),osl⟩) (hcd:PySem.W.codeIn K cdv qual = true) (S:FnScope N ps scope)
  (len:∀ vs H Q E,sp vs H Q E->vs.length = ps.length)
  (hbody:∀ (A:Around) (outer:List Env) (s:Shared) (H:Hp) (vs:List V) (Q:VK) (E:XK),Room k (A.deeper (envOfC qual scope s.heap.objs.size f cdv))->sp vs H Q E->
   ∃ t,PSs (cxOf CX P w K mg base N qual scope f cdv A outer s H E) body t/\t { nx:=fun _ H'=>Q .non H',rt:=Q } (start N vs) H) :
  FnOk P w K mg base CX (k + 1) f (PySem.W.fnOf name qual params body scope dV kV doc pm an cdv ct) ps sp:=by
 refine ⟨len,fun A outer s H args us vs Q E hr e0 hb r hsp=>?_⟩
 have hl:=len _ _ _ _ hsp
 have KX:K.In s.heap:=e0.mod.kin.keeps fun b o e=>(e0.bs b o e).1
 have lim:s.heap.NoLimit:=e0.mod.nolimit.keeps fun b o e=>(e0.bs b o e).1
 have hkind:∀ y ∈ ps.zip us,scope.names.lookup y.1 = some .local\/(scope.names.lookup y.1 = some .cell/\((cellsFrom (s.heap.objs.size + 1) scope.names []).lookup y.1).isSome = true):=fun ⟨n,v⟩ hy=>by
  rcases S.par n (List.of_mem_zip hy).1 with q | q
  ·exact .inl q
  ·exact .inr ⟨q,PySem.W.cellsFrom_some _ _ _ (.inl q)⟩
 refine codeAny_call_function hr.depth (KX _ _ lk) rfl S.co S.gen rfl (PySem.W.codeRec_of KX hcd) (hb _ _ _ _ ?_)
 refine wpAny_newFunctionEnv_cells S.kind hkind fun env he s1 x=>?_
 subst he
 refine ⟨lim.keeps x.toInCall.keep,codeAny_func ?_⟩
 obtain ⟨t,ht,hq⟩:=hbody A outer s H vs Q E (hr.deeper _) hsp
 have I:Inv (cxOf CX P w K mg base N qual scope f cdv A outer s H E) [] (start N vs) H s1:=inv_start S hr.hd e0 hl r x
 refine wpAny_mono (ht [] s1 (start N vs) H _ I hq) (fun fl s' hs=>?_) fun e s' hs=>hs
 have fin:∀ {σ':St} {H':Hp} {v:V} {u:Value},Inv (cxOf CX P w K mg base N qual scope f cdv A outer s H E) [] σ' H' s'->RelV v u->Q v H'->CE outer P w H s Q u s':=
  fun {σ' H' v u} J rv q=>⟨v,H',J.os,J.bare,J.base,J.hok,rv,q⟩
 cases fl with
 | ret u=>
  obtain ⟨v,σ',H',J,rv,q⟩:=hs
  exact fin J rv q
 | next=>
  obtain ⟨σ',H',J,q⟩:=hs
  exact fin (v:=V.non) (u:=Value.none) J rfl q
 | brk=>
  obtain ⟨_,_,_,q⟩:=hs
  exact False.elim q
 | cont=>
  obtain ⟨_,_,_,q⟩:=hs
  exact False.elim q
end L2
namespace L2
open PySem PySem.Spec PyProof.Rows
section
variable {X:Cx} {x:Str} {p pos:Pos} {e:Expr} {es:List Expr} {t:TA} {id T:String} {r:List V->Hp->VK->Prop}
noncomputable def tCB (r:List V->Hp->VK->Prop) (t:TA):TE:=fun σ H Q=>t σ H fun vs H1=>r vs H1 Q
theorem pe_callB (hc:CallR X (.builtin id) r) (hg:Gl X x) (hm:X.mg x = none) (hv:bootBuiltins x = some (.builtin id)) (ha:PA X (e :: es) t) (hn:x ≠ "__name__":=by decide) (hdb:(x == ("__debug__":Str)) = false:=by decide)
  (he:starEach (e :: es) X.env = (false,eval e X.env) :: starEach es X.env:=by rfl) (hpl:(backTo pos (starEach es X.env)).any (·.1) = false:=by rfl):PE X (.Call (.Name x p) (e :: es) [] pos) (tCB r t):=by
 intro pins s σ H Q I h
 refine wpAny_Call_Name_kw (ld_blt I hg hm hv ?_ hn hdb)
 exact PyProof.Rows.callWith_builtin1 (thn (ha pos pins s σ H _ I h) fun us s1 ⟨vs,H1,I1,r1,q1⟩=>hc pins s1 σ H1 vs us Q I1 r1 q1) he hpl
theorem pe_callTy (hc:CallR X (.type T) r) (hg:Gl X x) (hm:X.mg x = none) (hv:bootBuiltins x = some (.type T)) (ha:PA X (e :: es) t) (hn:x ≠ "__name__":=by decide) (hdb:(x == ("__debug__":Str)) = false:=by decide)
  (he:starEach (e :: es) X.env = (false,eval e X.env) :: starEach es X.env:=by rfl) (hpl:(backTo pos (starEach es X.env)).any (·.1) = false:=by rfl):PE X (.Call (.Name x p) (e :: es) [] pos) (tCB r t):=by
 intro pins s σ H Q I h
 refine wpAny_Call_Name_kw (ld_blt I hg hm hv ?_ hn hdb)
 exact PyProof.Rows.callWith_type1 (thn (ha pos pins s σ H _ I h) fun us s1 ⟨vs,H1,I1,r1,q1⟩=>hc pins s1 σ H1 vs us Q I1 r1 q1) he hpl
end
end L2
namespace HT
open PySem PyProof.Rows
section
open PySem.SeqAt
open PySem.AutoSeq1 (wpAny_loadPart')
open PySem.MeetsSeq PySem.MeetsSeq2 PySem.MeetsSeq3
end
section
variable {prog:Program} {w:World} {A:Around} {E:Value->Shared->Prop} {s:Shared}
theorem cat_tup {t b:Addr} {vs ws:List Value} {Q:Value->Shared->Prop} (ht:IsTup s.heap t vs.toArray) (hb:IsTup s.heap b ws.toArray) (hv:vs ≠ [])
  (h1:ws = []->Q (.ref t) s) (h2:ws ≠ []->Q (.ref s.heap.objs.size) { s with heap:=s.heap.push { cls:=.type "tuple",data:=.seq (vs ++ ws).toArray } })
  (hsz:vs.length + ws.length<=sizeLine):wpAny (model prog w) A (binaryOp .Add (.ref t) (.ref b)) Q E s:=by
 obtain ⟨⟨cls,dd,data,sl⟩,ho,hc,n,hd⟩:=id ht
 obtain ⟨⟨cls2,dd2,data2,sl2⟩,ho2,hc2,n2,hd2⟩:=id hb
 simp only at hc hd hc2 hd2
 subst hc hd hc2 hd2
 have e:vs.toArray ++ ws.toArray = (vs ++ ws).toArray:=by simp
 by_cases hw:ws = []
 ·exact concat_meets ⟨_,ho,rfl⟩ ⟨_,ho2,rfl⟩ noFill_tuple_add seq_tuple_add PySem.F.slot_tuple_add PySem.F.entry_tuple_add (PySem.F.args_tuple_add_2 _ _)
   (tuple_addW1 t b vs.toArray ws.toArray n n2 dd dd2 sl sl2 (by simpa using hv) (by simp [hw])) ⟨ho,ho2,h1 hw⟩
 ·refine concat_meets ⟨_,ho,rfl⟩ ⟨_,ho2,rfl⟩ noFill_tuple_add seq_tuple_add PySem.F.slot_tuple_add PySem.F.entry_tuple_add (PySem.F.args_tuple_add_2 _ _)
   (tuple_addW2 t b vs.toArray ws.toArray n n2 dd dd2 sl sl2 (by simpa using hv) (by simpa using hw) (by rw [List.size_toArray,List.size_toArray]; exact hsz)) ⟨ho,ho2,?_⟩
  rw [e]
  exact h2 hw
noncomputable def sIx (n d:Nat):Option Int->Nat
 | none=>d
 | some v=>if v < 0 then (v + (n:Int)).toNat else min v.toNat n
theorem sIx_none (n d:Nat):sIx n d none = d:=rfl
theorem sIx_nat (n d k:Nat):sIx n d (some (k:Int)) = min k n:=by
 show (if (k:Int) < 0 then ((k:Int) + (n:Int)).toNat else min (k:Int).toNat n) = min k n
 rw [if_neg (by omega),Int.toNat_natCast]
theorem sIx_le (n d:Nat) (hd:d<=n) (o:Option Int):sIx n d o<=n:=by
 cases o with
 | none=>exact hd
 | some v=>
  show (if v < 0 then (v + (n:Int)).toNat else min v.toNat n)<=n
  by_cases hv:v < 0
  ·rw [if_pos hv]; omega
  ·rw [if_neg hv]; exact Nat.min_le_right _ _
theorem clip_eq (v:Int) (n d:Nat):(if v < 0 then max (v + (n:Int)) 0 else min v (n:Int)) = ((sIx n d (some v):Nat):Int):=by
 show (if v < 0 then max (v + (n:Int)) 0 else min v (n:Int)) = (((if v < 0 then (v + (n:Int)).toNat else min v.toNat n):Nat):Int)
 by_cases hv:v < 0
 ·simp only [if_pos hv]; omega
 ·simp only [if_neg hv]; omega
theorem adjust_gen (lo hi:Option Int) (n:Nat):Builtin.Slice.sliceAdjust lo hi 1 (n:Int) = (((sIx n 0 lo:Nat):Int),((sIx n n hi:Nat):Int)):=by
 have h1:¬ ((1:Int) < 0):=by omega
 unfold Builtin.Slice.sliceAdjust
 simp only [h1,if_false]
 refine Prod.ext ?_ ?_
 ·cases lo with
  | none=>rfl
  | some v=>exact clip_eq v n 0
 ·cases hi with
  | none=>rfl
  | some v=>exact clip_eq v n n
theorem places_gen (i j:Nat):Builtin.Slice.slicePlaces (i:Int) (j:Int) 1 = j - i:=by
 unfold Builtin.Slice.slicePlaces
 have h1:(1:Int) > 0:=by omega
 simp only [h1,if_true,Int.ediv_one]
 split <;> omega
theorem slicePart_ {v:Value} {o:Option Int} {Q:Option Int->Shared->Prop} (p:IsPart v o) (h:Q o s):wpAny (model prog w) A (Builtin.Slice.slicePartIndex v) Q E s:=by
 cases p with
 | none=>exact slicePart_none h
 | int i t=>exact slicePart_int h
theorem sliceApplied_gen {sl:Addr} {vl vu:Value} {lo hi:Option Int} {n:Nat} {Q:Int × Int × Nat->Shared->Prop} (hs:s.heap.IsSliceOf sl vl vu .none) (pl:IsPart vl lo) (pu:IsPart vu hi)
  (h:Q (((sIx n 0 lo:Nat):Int),1,sIx n n hi - sIx n 0 lo) s):wpAny (model prog w) A (Builtin.Slice.sliceApplied (.ref sl) (pure (n:Int))) Q E s:=by
 obtain ⟨os,hos,hcs,hds⟩:=id hs
 unfold Builtin.Slice.sliceApplied Builtin.Slice.sliceFields
 refine wpAny_bind (wpAny_bind (wpAny_field hos hds (x:=vl) rfl (wpAny_bind (wpAny_field hos hds (x:=vu) rfl (wpAny_bind (wpAny_field hos hds (x:=.none) rfl (wpAny_pure ?_)))))))
 refine wpAny_bind (slicePart_none ?_)
 show wpAny _ _ (if ((1:Int) == 0) = true then _ else _) _ _ s
 rw [if_neg (by decide)]
 refine wpAny_bind (slicePart_ pl (wpAny_bind (slicePart_ pu (wpAny_bind (wpAny_pure ?_)))))
 show wpAny _ _ (match Builtin.Slice.sliceAdjust lo hi 1 (n:Int) with | (lo,hi)=>pure (lo,(1:Int),Builtin.Slice.slicePlaces lo hi 1)) _ _ s
 rw [adjust_gen lo hi n]
 show wpAny _ _ (pure (((sIx n 0 lo:Nat):Int),(1:Int),Builtin.Slice.slicePlaces ((sIx n 0 lo:Nat):Int) ((sIx n n hi:Nat):Int) 1)) _ _ s
 rw [places_gen]
 exact wpAny_pure h
theorem pick_gen (xs:Array Value) (i k:Nat):((List.range k).filterMap fun (m:Nat)=>xs[((i:Int) + (m:Int) * 1).toNat]?).toArray = ((xs.toList.drop i).take k).toArray:=by
 have e:(fun (m:Nat)=>xs[((i:Int) + (m:Int) * 1).toNat]?) = fun m=>xs[i + m]?:=by
  funext m
  have:((i:Int) + (m:Int) * 1).toNat = i + m:=by omega
  rw [this]
 rw [e]
 have:=pick_run xs i k
 rw [List.filterMap_map] at this
 have e2:((fun x=>xs[x]?) ∘ fun x=>i + x) = fun m=>xs[i + m]?:=rfl
 rw [e2] at this
 rw [this]
theorem getItem_tuple_cut {t sl:Addr} {items:Array Value} {vl vu:Value} {lo hi:Option Int} {Q:Value->Shared->Prop} (ht:IsTup s.heap t items) (hs:s.heap.IsSliceOf sl vl vu .none) (pl:IsPart vl lo) (pu:IsPart vu hi)
  (hw:¬ (sIx items.size 0 lo = 0/\sIx items.size items.size hi = items.size))
  (h:Q (.ref s.heap.objs.size) { s with heap:=s.heap.push { cls:=.type "tuple",data:=.seq ((items.toList.drop (sIx items.size 0 lo)).take (sIx items.size items.size hi - sIx items.size 0 lo)).toArray } })
  (hsz:items.size<=sizeLine):wpAny (model prog w) A (getItem (.ref t) (.ref sl)) Q E s:=by
 have htake:sizeOk (.seq ((items.toList.drop (sIx items.size 0 lo)).take (sIx items.size items.size hi - sIx items.size 0 lo)).toArray):=by
  show ((items.toList.drop (sIx items.size 0 lo)).take (sIx items.size items.size hi - sIx items.size 0 lo)).toArray.size<=sizeLine
  rw [List.size_toArray,List.length_take,List.length_drop,Array.length_toList]
  omega
 have hj:sIx items.size items.size hi<=items.size:=sIx_le _ _ (Nat.le_refl _) hi
 obtain ⟨os,hos,hcs,hds⟩:=id hs
 have hTs:s.TypeIs (.ref sl) "slice":=⟨os,hos,hcs⟩
 unfold getItem
 try with_reducible refine wpAny_holding ?_
 first | refine wpAny_bind (wpAny_pure ?_) | skip
 refine wpAny_bind (wpAny_sequenceKey ht.typeIs (by decide) ?_)
 refine wpAny_bind (wpAny_callSpecial?_slot (name:=Str.ofString "__getitem__") ht.typeIs PyProof.Rows.slot_tuple_getitem
  (wpAny_call_entry PyProof.Rows.slot_tuple_getitem ht.typeIs entry_tuple_getitem ?_ (args_tuple_getitem _ _)))
 show wpAny _ _ (Builtin.Tuple.tupleItemsOf (.ref t) >>= _) _ _ s
 refine wpAny_bind (tupleItemsOf_ ht ?_)
 refine wpAny_bind (wpAny_typeOf hTs ?_)
 rw [if_pos (by decide)]
 refine wpAny_bind (sliceApplied_gen hs pl pu ?_)
 have hno:¬ ((((sIx items.size 0 lo:Nat):Int) == 0 && (1:Int) == 1 && (sIx items.size items.size hi - sIx items.size 0 lo) == items.size) = true):=by
  intro q
  rw [Bool.and_eq_true,Bool.and_eq_true] at q
  have q1:((sIx items.size 0 lo:Nat):Int) = 0:=eq_of_beq q.1.1
  have q2:sIx items.size items.size hi - sIx items.size 0 lo = items.size:=eq_of_beq q.2
  exact hw ⟨by omega,by omega⟩
 show wpAny _ _ (if (((sIx items.size 0 lo:Nat):Int) == 0 && (1:Int) == 1 && (sIx items.size items.size hi - sIx items.size 0 lo) == items.size) = true then _ else _) _ _ s
 rw [if_neg hno,pick_gen]
 first
  | exact wpAny_bind (m:=Builtin.Tuple.tupleExact _) (wpAny_newObj_type (wpAny_pure ⟨_,rfl,wpAny_pure h⟩) htake)
  | exact wpAny_bind (m:=Builtin.Tuple.tupleExact _) (wpAny_newObj_type (wpAny_bind (wpAny_pure (wpAny_pure ⟨_,rfl,wpAny_pure h⟩))) htake)
  | exact wpAny_bind (wpAny_bind (m:=Builtin.Tuple.tupleExact _) (wpAny_newObj_type (wpAny_pure (wpAny_pure ⟨_,rfl,wpAny_pure h⟩)) htake))
  | exact wpAny_bind (wpAny_bind (m:=Builtin.Tuple.tupleExact _) (wpAny_newObj_type (wpAny_pure ⟨_,rfl,wpAny_pure h⟩) htake))
end
end HT
namespace L2
open PySem PySem.Spec PyProof.Rows
noncomputable abbrev TO:=St->Hp->(Option Int->Hp->Prop)->Prop
noncomputable def PO (X:Cx) (e:Option Expr) (t:TO):Prop:=
 ∀ (pins:List (Addr × Obj)) (s:Shared) (σ:St) (H:Hp) (Q:Option Int->Hp->Prop),Inv X pins σ H s->t σ H Q->
  wpAny (model X.prog X.w) X.A (evalPart e X.env) (fun u s'=>∃ o H',Inv X pins σ H' s'/\IsPart u o/\Q o H') X.xe s
noncomputable def tNoPart:TO:=fun _ H Q=>Q none H
noncomputable def tPart (t:TE):TO:=fun σ H Q=>t σ H fun x H1=>∃ i,x = .int i/\Q (some i) H1
section
variable {X:Cx} {e:Expr} {te:TE} {lo hi:Option Expr} {tl th:TO} {pos p2:Pos}
theorem po_none:PO X none tNoPart:=by
 intro pins s σ H Q I h
 rw [evalPart_none]
 exact wpAny_pure ⟨none,H,I,.none,h⟩
theorem po_some (h:PE X e te):PO X (some e) (tPart te):=by
 intro pins s σ H Q I hw
 rw [evalPart_some]
 refine thn (h pins s σ H _ I hw) fun u s1 ⟨x,H1,I1,r1,q1⟩=>?_
 obtain ⟨i,rfl,q⟩:=q1
 obtain ⟨t,rfl⟩:=r1
 exact ⟨some i,H1,I1,.int i t,q⟩
noncomputable def SlR (X:Cx) (r:V->Option Int->Option Int->Hp->VK->Prop):Prop:=
 ∀ (pins:List (Addr × Obj)) (s:Shared) (σ:St) (H:Hp) (x:V) (v vl vu:Value) (lo hi:Option Int) (sl:Addr) (Q:VK),Inv X pins σ H s->RelV x v->s.heap.IsSliceOf sl vl vu .none->IsPart vl lo->IsPart vu hi->r x lo hi H Q->
  ∃ T id,typeLookup (.type T) "__getitem__" = pure (some (.builtin id))/\s.TypeIs v T/\wpAny (model X.prog X.w) X.A (getItem v (.ref sl)) (EP X pins σ Q) X.xe s
theorem SlR.or {r r':V->Option Int->Option Int->Hp->VK->Prop} (h:SlR X r) (h':SlR X r'):SlR X (fun x lo hi H Q=>r x lo hi H Q\/r' x lo hi H Q):=by
 intro pins s σ H x v vl vu lo hi sl Q I rx hs pl pu q
 rcases q with q | q
 ·exact h pins s σ H x v vl vu lo hi sl Q I rx hs pl pu q
 ·exact h' pins s σ H x v vl vu lo hi sl Q I rx hs pl pu q
noncomputable def tSl (r:V->Option Int->Option Int->Hp->VK->Prop) (te:TE) (tl th:TO):TE:=fun σ H Q=>te σ H fun x H1=>tl σ H1 fun l H2=>th σ H2 fun u H3=>r x l u H3 Q
theorem pe_slice {r:V->Option Int->Option Int->Hp->VK->Prop} (hr:SlR X r) (he:PE X e te) (hl:PO X lo tl) (hu:PO X hi th):PE X (.Subscript e (.Slice lo hi none p2) pos) (tSl r te tl th):=by
 intro pins s σ H Q I h
 refine Subscript_ (thn (he pins s σ H _ I h) fun v s1 ⟨x,H1,I1,r1,q1⟩=>?_)
 refine wpAny_Slice (thn (hl pins s1 σ H1 _ I1 q1) fun vl s2 ⟨l,H2,I2,pl,q2⟩=>thn (hu pins s2 σ H2 _ I2 q2) fun vu s3 ⟨u,H3,I3,pu,q3⟩=>?_)
 rw [evalPart_none]
 refine wpAny_pure ?_
 have I4:Inv X pins σ H3 { s3 with heap:=s3.heap.push { cls:=.type "slice",data:=.fields #[vl,vu,.none] } }:=I3.kept (t':=s3.toks) fun b ob q=>Heap.get?_push_of_some _ q
 obtain ⟨T,id,hT,ht,hg⟩:=hr pins { s3 with heap:=s3.heap.push { cls:=.type "slice",data:=.fields #[vl,vu,.none] } } σ H3 x v vl vu l u s3.heap.objs.size Q I4 r1 (Heap.IsSliceOf.new ..) pl pu q3
 show wpAny (model X.prog X.w) X.A (subscriptTail e (.Slice lo hi none p2) v (.ref s3.heap.objs.size)) (EP X pins σ Q) X.xe { s3 with heap:=s3.heap.push { cls:=.type "slice",data:=.fields #[vl,vu,.none] } }
 exact tail_any (ops:=[.ref s3.heap.objs.size,v]) ht hT hg (by with_unfolding_all rfl)
noncomputable def cutV (xs:List V) (lo hi:Option Int):List V:=(xs.drop (HT.sIx xs.length 0 lo)).take (HT.sIx xs.length xs.length hi - HT.sIx xs.length 0 lo)
theorem cutV_length (xs:List V) (lo hi:Option Int):(cutV xs lo hi).length<=xs.length:=by
 unfold cutV
 rw [List.length_take,List.length_drop]
 omega
noncomputable def rSlT (K:PySem.W.Frag):V->Option Int->Option Int->Hp->VK->Prop:=fun x lo hi H Q=>∃ a xs,x = .ref a/\SqT K H a xs/\
 ¬ (HT.sIx xs.length 0 lo = 0/\HT.sIx xs.length xs.length hi = xs.length)/\∀ p,H p = none->Q (.ref p) (upd H p (.tup (cutV xs lo hi)))
theorem sl_tup:SlR X (rSlT X.K):=by
 intro pins s σ H x v vl vu lo hi sl Q I rx hs pl pu h
 obtain ⟨a,xs,rfl,hx,hw,q⟩:=h
 cases rx
 obtain ⟨its,r,ht,hz⟩:=I.tuple hx
 have hlen:its.toArray.size = xs.length:=by rw [List.size_toArray]; exact r.length.symm
 refine ⟨"tuple",_,PyProof.Rows.slot_tuple_getitem.lookup,ht.typeIs,?_⟩
 refine HT.getItem_tuple_cut ht hs pl pu (by rw [hlen]; exact hw) ?_ (by rw [hlen]; exact hz)
 rw [hlen]
 refine ⟨.ref s.heap.objs.size,_,I.laid (t':=s.toks) (o:=.tup (cutV xs lo hi)) (fun b ob q=>Heap.get?_push_of_some _ q) (Nat.le_refl _) ?_,rfl,q _ (I.hok.fresh (Nat.le_refl _))⟩
 exact ⟨Nat.le_trans (cutV_length xs lo hi) hz,_,(r.drop (HT.sIx xs.length 0 lo)).take (HT.sIx xs.length xs.length hi - HT.sIx xs.length 0 lo),IsTup.new _ _⟩
noncomputable def rCatT (K:PySem.W.Frag):R2:=fun x y H Q=>∃ a b xs ys,x = .ref a/\y = .ref b/\SqT K H a xs/\SqT K H b ys/\xs ≠ []/\xs.length + ys.length<=sizeLine/\
 (ys = []->Q (.ref a) H)/\(ys ≠ []->∀ p,H p = none->Q (.ref p) (upd H p (.tup (xs ++ ys))))
theorem Vals.nil_iff {xs:List V} {us:List Value} (r:Vals xs us):us = [] ↔ xs = []:=by
 cases r with
 | nil=>simp
 | cons _ _=>simp
theorem op_catT:OpR X (binaryOp .Add) (rCatT X.K):=by
 intro pins s σ H x y v u Q I rx ry h
 obtain ⟨a,b,xs,ys,rfl,rfl,ha,hb,hx,hz,q1,q2⟩:=h
 cases rx
 cases ry
 obtain ⟨its,r1,p1,_⟩:=I.tuple ha
 obtain ⟨its2,r2,p2,_⟩:=I.tuple hb
 refine HT.cat_tup p1 p2 (fun z=>hx (r1.nil_iff.mp z)) (fun z=>⟨.ref a,H,I,rfl,q1 (r2.nil_iff.mp z)⟩) (fun z=>?_) (by rw [<- r1.length,<- r2.length]; exact hz)
 refine ⟨.ref s.heap.objs.size,_,I.laid (t':=s.toks) (o:=.tup (xs ++ ys)) (fun b ob q=>Heap.get?_push_of_some _ q) (Nat.le_refl _) ?_,rfl,q2 (fun w=>z (r2.nil_iff.mpr w)) _ (I.hok.fresh (Nat.le_refl _))⟩
 exact ⟨by rw [List.length_append]; exact hz,_,r1.append r2,IsTup.new _ _⟩
end
end L2
namespace L2
open PySem PySem.Spec PyProof.Rows
noncomputable def ixN (n:Nat) (i:Int):Option Nat:=if 0<=i then (if i < n then some i.toNat else none) else if -(n:Int)<=i then some (i + n).toNat else none
noncomputable def atI {α:Type} (xs:List α) (i:Int):Option α:=(ixN xs.length i).bind fun j=>xs[j]?
theorem ixN_seq {n:Nat} {i:Int} {j:Nat} (h:ixN n i = some j):seqIndex? i n = some j/\j < n/\-(n:Int)<=i/\i < n:=by
 unfold ixN at h
 by_cases h0:0<=i
 ·rw [if_pos h0] at h
  by_cases h1:i < n
  ·rw [if_pos h1] at h
   have e:i.toNat = j:=Option.some.inj h
   exact ⟨by rw [seqIndex_of h0 h1,e],by omega,by omega,h1⟩
  ·rw [if_neg h1] at h; cases h
 ·rw [if_neg h0] at h
  by_cases h1:-(n:Int)<=i
  ·rw [if_pos h1] at h
   have e:(i + n).toNat = j:=Option.some.inj h
   exact ⟨by rw [seqIndex_neg (by omega) h1,e],by omega,h1,by omega⟩
  ·rw [if_neg h1] at h; cases h
theorem atI_get {α:Type} {xs:List α} {i:Int} {v:α} (h:atI xs i = some v):∃ j,seqIndex? i xs.length = some j/\xs[j]? = some v/\j < xs.length/\-(xs.length:Int)<=i/\i < xs.length:=by
 unfold atI at h
 cases e:ixN xs.length i with
 | none=>rw [e] at h; cases h
 | some j=>
  rw [e] at h
  obtain ⟨h1,h2,h3,h4⟩:=ixN_seq e
  exact ⟨j,h1,h,h2,h3,h4⟩
noncomputable def PlainIx (b:Expr):Prop:=∀ o i,subscripted b false o i = operate [o,i] (getItem o i)
noncomputable def IxR (X:Cx) (r:R2):Prop:=
 ∀ (value slice:Expr) (pins:List (Addr × Obj)) (s:Shared) (σ:St) (H:Hp) (x y:V) (v u:Value) (Q:VK),Inv X pins σ H s->RelV x v->RelV y u->r x y H Q->
  subscripted slice false v u = operate [v,u] (getItem v u)->wpAny (model X.prog X.w) X.A (subscriptTail value slice v u) (EP X pins σ Q) X.xe s
noncomputable def MtR (X:Cx) (id:String) (r:V->List V->Hp->VK->Prop):Prop:=
 ∀ (pins:List (Addr × Obj)) (s:Shared) (σ:St) (H:Hp) (x:V) (xs:List V) (v:Value) (us:List Value) (Q:VK),Inv X pins σ H s->RelV x v->Vals xs us->r x xs H Q->
  wpAny (model X.prog X.w) X.A (call (.builtin id) (v :: us)) (EP X pins σ Q) X.xe s
section
variable {X:Cx} {a b:Expr} {ta tb:TE} {pos:Pos}
theorem IxR.or {r r':R2} (h:IxR X r) (h':IxR X r'):IxR X (fun x y H Q=>r x y H Q\/r' x y H Q):=by
 intro value slice pins s σ H x y v u Q I rx ry q hs
 rcases q with q | q
 ·exact h value slice pins s σ H x y v u Q I rx ry q hs
 ·exact h' value slice pins s σ H x y v u Q I rx ry q hs
theorem pe_ix {r:R2} (hr:IxR X r) (ha:PE X a ta) (hb:PE X b tb) (hs:PlainIx b):PE X (.Subscript a b pos) (tOp r ta tb):=by
 intro pins s σ H Q I h
 exact Subscript_ (binT ha hb I h fun v u s2 x y H2 I2 rx ry q=>hr a b pins s2 σ H2 x y v u Q I2 rx ry q (hs _ _))
noncomputable def rIxL (K:PySem.W.Frag):R2:=fun x y H Q=>∃ p xs i v,x = .ref p/\y = .int i/\SqL K H p xs/\atI xs i = some v/\Q v H
noncomputable def rIxT (K:PySem.W.Frag):R2:=fun x y H Q=>∃ p xs i v,x = .ref p/\y = .int i/\SqT K H p xs/\atI xs i = some v/\Q v H
noncomputable def rIxS:R2:=fun x y H Q=>∃ z i c,x = .str z/\y = .int i/\z.length<=sizeLine/\atI z.cps.toList i = some c/\Q (.str ⟨#[c]⟩) H
theorem ix_list:IxR X (rIxL X.K):=by
 intro value slice pins s σ H x y v u Q I rx ry h hs
 obtain ⟨p,xs,i,z,rfl,rfl,hq,he,q⟩:=h
 cases rx
 obtain ⟨t,rfl⟩:=ry
 obtain ⟨its,r,pl,hz⟩:=I.list hq
 obtain ⟨j,h1,h2,h3,h4,h5⟩:=atI_get he
 obtain ⟨w,ew,rw'⟩:=r.get h2
 have hl:=r.length
 have hn:=line63
 have fin:EP X pins σ Q w s:=⟨z,H,I,rw',q⟩
 by_cases h0:0<=i
 ·have hj:i.toNat = j:=by
   rw [seqIndex_of h0 h5] at h1
   exact Option.some.inj h1
  exact item_listR pl.isList h0 (by omega) (by rw [hj]; simpa using ew) fin hs
 ·have hj:(i + (its.toArray.size:Int)).toNat = j:=by
   rw [seqIndex_neg (by omega) h4] at h1
   rw [List.size_toArray,<- hl]
   exact Option.some.inj h1
  exact subscriptTail_builtinR (x:=w) pl.isList.typeIs slot_list_getitem.lookup
   (wpAny_getItem_list_neg (Q:=fun r s'=>r = w/\EP X pins σ Q r s') pl.isList (by omega) (by rw [List.size_toArray] <;> omega) (by omega) (by rw [hj]; simpa using ew) ⟨rfl,fin⟩) hs
theorem ix_tup:IxR X (rIxT X.K):=by
 intro value slice pins s σ H x y v u Q I rx ry h hs
 obtain ⟨p,xs,i,z,rfl,rfl,hq,he,q⟩:=h
 cases rx
 obtain ⟨t,rfl⟩:=ry
 obtain ⟨its,r,pl,hz⟩:=I.tuple hq
 obtain ⟨j,h1,h2,h3,h4,h5⟩:=atI_get he
 obtain ⟨w,ew,rw'⟩:=r.get h2
 have hl:=r.length
 have hn:=line63
 have fin:EP X pins σ Q w s:=⟨z,H,I,rw',q⟩
 exact subscriptTail_builtinR (x:=w) pl.typeIs slot_tuple_getitem.lookup
  (getItem_tuple (j:=j) (Q:=fun r s'=>r = w/\EP X pins σ Q r s') pl (by omega) (by omega) (by rw [List.size_toArray,<- hl]; exact h1) (by simpa using ew) ⟨rfl,fin⟩) hs
theorem ix_str:IxR X rIxS:=by
 intro value slice pins s σ H x y v u Q I rx ry h hs
 obtain ⟨z,i,c,rfl,rfl,hz,he,q⟩:=h
 obtain ⟨t,rfl⟩:=rx
 obtain ⟨t',rfl⟩:=ry
 obtain ⟨j,h1,h2,h3,h4,h5⟩:=atI_get he
 have hl:z.cps.toList.length = z.length:=by simp [Str.length]
 rw [hl] at h1 h4 h5
 have hn:=line63
 exact tail_any (typeIs_str s z t) slot_str_getitem.lookup (getItem_str (c:=c) (by
  have e1:decide (i < -(2 ^ 63:Int)) = false:=decide_eq_false (by omega)
  have e2:decide (i ≥ 2 ^ 63) = false:=decide_eq_false (by omega)
  rw [e1,e2,Bool.or_false]) (by rw [h1]; simpa using h2) ⟨.str ⟨#[c]⟩,H,I.tok _,⟨_,rfl⟩,q⟩) hs
noncomputable def rIx (K:PySem.W.Frag):R2:=fun x y H Q=>rIxL K x y H Q\/rIxT K x y H Q\/rIxS x y H Q
theorem ix_seq:IxR X (rIx X.K):=ix_list.or (ix_tup.or ix_str)
theorem mapSeq_set (its:List Value) (n j:Nat) (u:Value):Obj.mapSeq (·.setIfInBounds j u) { cls:=.type "list",data:=.seq its.toArray n } = { cls:=.type "list",data:=.seq (its.set j u).toArray n }:=by
 simp [Obj.mapSeq]
theorem Inv.lst {pins:List (Addr × Obj)} {σ:St} {H:Hp} {s:Shared} {p:Addr} {xs:List V} (I:Inv X pins σ H s) (h:H p = some (.lst xs)) :
  ∃ (its:List Value) (n:Nat),Vals xs its/\s.heap.get? p = some { cls:=.type "list",data:=.seq its.toArray n }/\xs.length<=sizeLine:=by
 obtain ⟨z,its,n,r,e⟩:=I.hok p _ h
 exact ⟨its,n,r,e,z⟩
theorem Inv.lstUpd {pins:List (Addr × Obj)} {σ:St} {H:Hp} {s:Shared} {p:Addr} {xs ys:List V} {its its':List Value} {n n':Nat} {f:Obj->Obj} (I:Inv X pins σ H s) (h:H p = some (.lst xs))
  (ho:s.heap.get? p = some { cls:=.type "list",data:=.seq its.toArray n }) (hf:f { cls:=.type "list",data:=.seq its.toArray n } = { cls:=.type "list",data:=.seq its'.toArray n' }) (r:Vals ys its') (hz:ys.length<=sizeLine) (t:Nat) :
  Inv X pins σ (upd H p (.lst ys)) { s with heap:=s.heap.update p f,toks:=t }:=by
 have e:(s.heap.update p f).get? p = some { cls:=.type "list",data:=.seq its'.toArray n' }:=by
  rw [Heap.get?_update_self f ho (by rw [hf] <;> rfl),hf]
 refine I.write (x:=p) (e:=p) (by rw [h]; trivial) (.inl rfl) (fun b u hb q=>(Heap.get?_update_other _ _ (Ne.symm hb)).trans q) ⟨_,e⟩ ?_
 exact ⟨hz,its',n',r,e⟩
noncomputable def rSetL:V->V->V->Hp->(Hp->Prop)->Prop:=fun o i v H Q=>∃ p xs k j,o = .ref p/\i = .int k/\H p = some (.lst xs)/\ixN xs.length k = some j/\Q (upd H p (.lst (xs.set j v)))
theorem set_list:PSet X rSetL:=by
 intro pins s σ H o i v ov iv u Q I ro ri rv h
 obtain ⟨p,xs,k,j,rfl,rfl,hp,hj,q⟩:=h
 cases ro
 obtain ⟨t,rfl⟩:=ri
 obtain ⟨its,n,r,ho,hz⟩:=I.lst hp
 obtain ⟨h1,h2,h3,h4⟩:=ixN_seq hj
 have hl:=r.length
 have hn:=line63
 have I':Inv X pins σ (upd H p (.lst (xs.set j v))) { s with heap:=s.heap.update p (Obj.mapSeq (·.setIfInBounds j u)) }:=
  I.lstUpd hp ho (mapSeq_set its n j u) (r.set rv j) (by rw [List.length_set]; exact hz) s.toks
 by_cases h0:0<=k
 ·have hk:k.toNat = j:=by
   rw [seqIndex_of h0 h4] at h1
   exact Option.some.inj h1
  exact PySem.W.ki_setAt ho h0 (by omega) (by rw [List.size_toArray,<- hl]; exact h4) (by rw [hk]; exact ⟨_,I',q⟩)
 ·have hk:(k + (its.toArray.size:Int)).toNat = j:=by
   rw [seqIndex_neg (by omega) h3] at h1
   rw [List.size_toArray,<- hl]
   exact Option.some.inj h1
  exact PySem.W.ki_setBack ho (by omega) (by rw [List.size_toArray,<- hl]; exact h3) (by omega) (by rw [hk]; exact ⟨_,I',q⟩)
theorem slice_bounds (lo hi:Option Int) (n:Nat):(sliceBounds lo hi none n).1 = ((HT.sIx n 0 lo:Nat):Int)/\(sliceBounds lo hi none n).2.1 = ((HT.sIx n n hi:Nat):Int)/\(sliceBounds lo hi none n).2.2 = 1:=by
 refine ⟨?_,?_,rfl⟩
 ·cases lo with
  | none=>simp [sliceBounds,HT.sIx]
  | some i=>
   simp only [sliceBounds,HT.sIx,Option.getD_none,show (1:Int) > 0 by decide,if_true]
   by_cases h:i < 0
   ·simp only [h,if_true] <;> omega
   ·simp only [h,if_false] <;> omega
 ·cases hi with
  | none=>simp [sliceBounds,HT.sIx]
  | some i=>
   simp only [sliceBounds,HT.sIx,Option.getD_none,show (1:Int) > 0 by decide,if_true]
   by_cases h:i < 0
   ·simp only [h,if_true] <;> omega
   ·simp only [h,if_false] <;> omega
theorem slicePick_cut (its:List Value) (lo hi:Option Int):slicePick its.toArray lo hi none = ((its.drop (HT.sIx its.length 0 lo)).take (HT.sIx its.length its.length hi - HT.sIx its.length 0 lo)).toArray:=by
 obtain ⟨h1,h2,h3⟩:=slice_bounds lo hi its.toArray.size
 unfold slicePick
 rw [h1,h2,h3]
 simp only [sliceRange_one,pick_run,List.size_toArray] <;> rfl
noncomputable def rSlL (K:PySem.W.Frag):V->Option Int->Option Int->Hp->VK->Prop:=fun x lo hi H Q=>∃ a xs,x = .ref a/\SqL K H a xs/\∀ p,H p = none->Q (.ref p) (upd H p (.lst (cutV xs lo hi)))
theorem sl_list:SlR X (rSlL X.K):=by
 intro pins s σ H x v vl vu lo hi sl Q I rx hs pl pu h
 obtain ⟨a,xs,rfl,hx,q⟩:=h
 cases rx
 obtain ⟨its,r,ht,hz⟩:=I.list hx
 have hlen:=r.length
 refine ⟨"list",_,slot_list_getitem.lookup,ht.isList.typeIs,?_⟩
 refine wpAny_getItem_list_slice ht.isList hs pl pu .none (by simp) ?_ (by rw [List.size_toArray] <;> omega)
 rw [slicePick_cut,<- hlen]
 refine ⟨.ref s.heap.objs.size,_,I.laid (t':=s.toks) (o:=.lst (cutV xs lo hi)) (fun b ob q=>Heap.get?_push_of_some _ q) (Nat.le_refl _) ?_,rfl,q _ (I.hok.fresh (Nat.le_refl _))⟩
 exact ⟨Nat.le_trans (cutV_length xs lo hi) hz,_,0,(r.drop (HT.sIx xs.length 0 lo)).take (HT.sIx xs.length xs.length hi - HT.sIx xs.length 0 lo),Heap.get?_push_size _ rfl⟩
theorem call_len_seq:CallR X (.builtin "len") (fun xs H Q=>∃ p ys,xs = [.ref p]/\(SqL X.K H p ys\/SqT X.K H p ys)/\Q (.int ys.length) H):=by
 intro pins s σ H xs us Q I r h
 obtain ⟨p,ys,rfl,hq,q⟩:=h
 obtain ⟨u,rfl,rx⟩:=vals1 r
 cases rx
 have hn:=line63
 rcases hq with hq | hq
 ·obtain ⟨its,r',pl,hz⟩:=I.list hq
  have hlen:=r'.length
  exact Calls.call_len_list pl.isList (by simp only [List.size_toArray] <;> omega) ⟨.int ys.length,H,I.tok _,⟨s.toks + 1,by rw [List.size_toArray,hlen]⟩,q⟩
 ·obtain ⟨its,r',pl,hz⟩:=I.tuple hq
  have hlen:=r'.length
  exact len_tuple pl (by simp only [List.size_toArray] <;> omega) ⟨.int ys.length,H,I.tok _,⟨s.toks + 1,by rw [List.size_toArray,hlen]⟩,q⟩
theorem call_len_str:CallR X (.builtin "len") (fun xs H Q=>∃ z,xs = [.str z]/\z.length<=sizeLine/\Q (.int z.length) H):=by
 intro pins s σ H xs us Q I r h
 obtain ⟨z,rfl,hz,q⟩:=h
 obtain ⟨u,rfl,t,rfl⟩:=vals1 r
 have hn:=line63
 exact len_str (by omega) ⟨.int z.length,H,I.tok _,⟨_,rfl⟩,q⟩
theorem CallR.or {f:Value} {r r':List V->Hp->VK->Prop} (h:CallR X f r) (h':CallR X f r'):CallR X f (fun xs H Q=>r xs H Q\/r' xs H Q):=by
 intro pins s σ H xs us Q I rs q
 rcases q with q | q
 ·exact h pins s σ H xs us Q I rs q
 ·exact h' pins s σ H xs us Q I rs q
theorem call_list_of:CallR X (.type "list") (fun xs H Q=>∃ p ys,xs = [.ref p]/\(SqL X.K H p ys\/SqT X.K H p ys)/\∀ l,H l = none->Q (.ref l) (upd H l (.lst ys))):=by
 intro pins s σ H xs us Q I r h
 obtain ⟨p,ys,rfl,hq,q⟩:=h
 obtain ⟨u,rfl,rx⟩:=vals1 r
 cases rx
 have fin:∀ (its:List Value),Vals ys its->ys.length<=sizeLine->∀ (h':Heap) (c':Nat),(∀ b o',s.heap.get? b = some o'->h'.get? b = some o')->
   h'.get? s.heap.objs.size = some { cls:=.type "list",dict:=none,data:=.seq its.toArray c',slots:=#[] }->EP X pins σ Q (.ref s.heap.objs.size) { s with heap:=h' }:=fun its r' hz h' c' kp e=>
  ⟨.ref s.heap.objs.size,_,I.laid (t':=s.toks) kp (Nat.le_refl _) (show ObjOk X.prog X.w _ h' _ (.lst ys) from ⟨hz,its,c',r',e⟩),rfl,q _ (I.hok.fresh (Nat.le_refl _))⟩
 rcases hq with hq | hq
 ·obtain ⟨its,r',pl,hz⟩:=I.list hq
  have hlen:=r'.length
  obtain ⟨o,ho,hc,n,hd⟩:=pl.isList
  exact call_list_seq p (.inl rfl) ho hc hd (fun h' c' kp e=>fin its r' hz h' c' kp e) (by simp only [List.size_toArray] <;> omega)
 ·obtain ⟨its,r',pl,hz⟩:=I.tuple hq
  have hlen:=r'.length
  obtain ⟨o,ho,hc,n,hd⟩:=pl
  exact call_list_seq p (.inr rfl) ho hc hd (fun h' c' kp e=>fin its r' hz h' c' kp e) (by simp only [List.size_toArray] <;> omega)
theorem call_tuple_of:CallR X (.type "tuple") (fun xs H Q=>∃ p ys,xs = [.ref p]/\((SqL X.K H p ys/\∀ l,H l = none->Q (.ref l) (upd H l (.tup ys)))\/(SqT X.K H p ys/\Q (.ref p) H))):=by
 intro pins s σ H xs us Q I r h
 obtain ⟨p,ys,rfl,h⟩:=h
 obtain ⟨u,rfl,rx⟩:=vals1 r
 cases rx
 rcases h with ⟨hq,q⟩ | ⟨hq,q⟩
 ·obtain ⟨its,r',pl,hz⟩:=I.list hq
  have hlen:=r'.length
  refine call_tuple_list pl.isList (fun h' kp=>?_) (by simp only [List.size_toArray] <;> omega)
  have I1:Inv X pins σ H { s with heap:=h' }:=I.kept (t':=s.toks) kp
  have I2:Inv X pins σ (upd H h'.objs.size (.tup ys)) { s with heap:=h'.push { cls:=.type "tuple",data:=.seq its.toArray } }:=
   I1.laid (t':=s.toks) (fun b o e=>Heap.get?_push_of_some _ e) (Nat.le_refl _) (show ObjOk X.prog X.w _ _ _ (.tup ys) from ⟨hz,its,r',IsTup.new _ _⟩)
  exact ⟨.ref h'.objs.size,_,I2,rfl,q _ (I1.hok.fresh (Nat.le_refl _))⟩
 ·obtain ⟨its,r',pl,hz⟩:=I.tuple hq
  exact call_tuple_same pl ⟨.ref p,H,I,rfl,q⟩
noncomputable def tyV (K:PySem.W.Frag) (T:String) (x:V) (H:Hp):Prop:=match x with
 | .str _=>T = "str"
 | .int _=>T = "int"
 | .ref p=>(T = "list"/\∃ xs,SqL K H p xs)\/(T = "tuple"/\∃ o,K.lookup p = some o/\o.cls = .type "tuple"/\o.dict = none)\/
   (T = "dict"/\((∃ kvs,H p = some (.dK kvs))\/∃ kvs,H p = some (.dT kvs)))\/(T = "set"/\∃ S n,H p = some (.set S n))
 | _=>False
theorem tyV_is {pins:List (Addr × Obj)} {σ:St} {H:Hp} {s:Shared} {T:String} {x:V} {v:Value} (I:Inv X pins σ H s) (r:RelV x v) (ty:tyV X.K T x H) :
  s.TypeIs v T/\∀ a,v = .ref a->∃ ob,s.heap.get? a = some ob/\ob.dict = none:=by
 cases x with
 | str z=>
  obtain ⟨t,rfl⟩:=r
  cases (show T = "str" from ty)
  exact ⟨typeIs_str s z t,fun _ e=>nomatch e⟩
 | int i=>
  obtain ⟨t,rfl⟩:=r
  cases (show T = "int" from ty)
  exact ⟨typeIs_int s i t,fun _ e=>nomatch e⟩
 | ref p=>
  cases r
  rcases ty with ⟨rfl,xs,hq⟩ | ⟨rfl,o,hk,hc,hd⟩ | ⟨rfl,hk⟩ | ⟨rfl,S,n,hk⟩
  ·obtain ⟨its,_,pl,_⟩:=I.list hq
   refine ⟨pl.isList.typeIs,fun a e=>?_⟩
   cases e
   obtain ⟨o,n,e,c,hd,_⟩:=pl
   exact ⟨o,e,hd⟩
  ·refine ⟨⟨o,I.kIn p o hk,hc⟩,fun a e=>?_⟩
   cases e
   exact ⟨o,I.kIn _ o hk,hd⟩
  ·have z:∃ o,s.heap.get? p = some o/\o.ExactDict:=by
    rcases hk with ⟨kvs,hk⟩ | ⟨kvs,hk⟩
    ·obtain ⟨_,_,_,_,o,_,_,e,ex,_⟩:=I.hok p _ hk
     exact ⟨o,e,ex⟩
    ·obtain ⟨_,_,_,_,o,_,_,e,ex,_⟩:=I.hok p _ hk
     exact ⟨o,e,ex⟩
   obtain ⟨o,e,ex⟩:=z
   refine ⟨⟨o,e,ex.1⟩,fun a e2=>?_⟩
   cases e2
   exact ⟨o,e,ex.2.1⟩
  ·obtain ⟨o,_,_,_,e,ex,_⟩:=I.hok p _ hk
   refine ⟨⟨o,e,ex.1⟩,fun a e2=>?_⟩
   cases e2
   exact ⟨o,e,ex.2.1⟩
 | _=>exact False.elim ty
noncomputable def tBM0 (K:PySem.W.Frag) (T:String) (r:V->List V->Hp->VK->Prop) (to:TE):TE:=fun σ H Q=>to σ H fun x H1=>tyV K T x H1/\r x [] H1 Q
noncomputable def tBM (K:PySem.W.Frag) (T:String) (r:V->List V->Hp->VK->Prop) (to:TE) (t:TA):TE:=fun σ H Q=>to σ H fun x H1=>tyV K T x H1/\t σ H1 fun xs H2=>r x xs H2 Q
variable {o e:Expr} {es:List Expr} {to:TE} {t:TA} {name:Str} {apos cpos:Pos} {T id:String} {r:V->List V->Hp->VK->Prop}
theorem pe_bm0 (pa:PlainAttrs T) (slot:Slot T name id) (hty:typeOf (.builtin id) = pure (.type "method_descriptor")) (hm:MtR X id r) (ho:PE X o to)
  (hbase:attributeBase o name X.env (eval o X.env) = eval o X.env:=by rfl) (hline:(apos.endLine == cpos.line) = true:=by rfl):PE X (.Call (.Attribute o name apos) [] [] cpos) (tBM0 X.K T r to):=by
 intro pins s σ H Q I h
 refine wpAny_Call_method0_late hbase hline (thn (ho pins s σ H _ I h) fun v s1 ⟨x,H1,I1,r1,ty,q1⟩=>?_)
 obtain ⟨h1,h2⟩:=tyV_is I1 r1 ty
 exact ⟨T,id,pa,slot,hty,h1,h2,Calls.callWith_builtin rfl (PySem.evalArgs_none (hm pins s1 σ H1 x [] v [] Q I1 r1 .nil q1))⟩
theorem pe_bm (pa:PlainAttrs T) (slot:Slot T name id) (hty:typeOf (.builtin id) = pure (.type "method_descriptor")) (hm:MtR X id r) (ho:PE X o to) (ha:PA X (e :: es) t)
  (hbase:attributeBase o name X.env (eval o X.env) = eval o X.env:=by rfl)
  (hfew:((backTo cpos (starEach (e :: es) X.env)).all (fun x=>!x.1) && (backToKw cpos (keywordEach [] X.env)).all (fun x=>x.1.isSome)
   && decide ((e :: es).length + ([]:List Keyword).length + (if ([]:List Keyword).isEmpty then 0 else 1) < 30)) = true:=by rfl)
  (hline:(apos.endLine == cpos.line) = true:=by rfl) (hs:starEach (e :: es) X.env = (false,eval e X.env) :: starEach es X.env:=by rfl) (hplain:(backTo cpos (starEach es X.env)).any (·.1) = false:=by rfl) :
  PE X (.Call (.Attribute o name apos) (e :: es) [] cpos) (tBM X.K T r to t):=by
 intro pins s σ H Q I h
 refine wpAny_Call_method_late hbase hfew hline rfl (thn (ho pins s σ H _ I h) fun v s1 ⟨x,H1,I1,r1,ty,q1⟩=>?_)
 obtain ⟨h1,h2⟩:=tyV_is I1 r1 ty
 refine ⟨T,id,pa,slot,hty,h1,h2,?_⟩
 have hA:=ha cpos pins s1 σ H1 _ I1 q1
 rw [hs] at hA ⊢
 refine Calls.callWith_builtin (by show (false || (backTo cpos (starEach es X.env)).any (·.1)) = false; rw [hplain] <;> rfl) (Calls.evalArgs_plain ?_)
 exact thn hA fun us s2 ⟨vs,H2,I2,r2,q2⟩=>hm pins s2 σ H2 x vs v us Q I2 r1 r2 q2
/- xs.append(e),list.index on a module's tuple .. are MtR facts of 06m -/
end
end L2
namespace L2
open PySem PySem.Spec PyProof.Rows
noncomputable def MtM (X:Cx) (id:String) (r:V->List V->Hp->VK->Prop):Prop:=
 ∀ (pins:List (Addr × Obj)) (s:Shared) (σ:St) (H:Hp) (x:V) (xs:List V) (v:Value) (us:List Value) (Q:VK),Inv X pins σ H s->RelV x v->Vals xs us->r x xs H Q->
  wpAny (model X.prog X.w) X.A (call (.builtin id) (v :: us)) (EP X pins σ Q) X.xe s
theorem Vals.one:∀ {x:V} {us:List Value},Vals [x] us->∃ u,us = [u]/\RelV x u
 | _,_,.cons r .nil=>⟨_,rfl,r⟩
theorem Vals.reverse {xs:List V} {us:List Value} (h:Vals xs us):Vals xs.reverse us.reverse:=by
 induction h with
 | nil=>exact .nil
 | cons r t ih=>rw [List.reverse_cons,List.reverse_cons]; exact Vals.append ih (.cons r .nil)
theorem Vals.rep {xs:List V} {us:List Value} (h:Vals xs us):∀ k:Nat,Vals (List.replicate k xs).flatten (List.replicate k us).flatten
 | 0=>.nil
 | k + 1=>by
  rw [List.replicate_succ,List.replicate_succ,List.flatten_cons,List.flatten_cons]
  exact Vals.append h (Vals.rep h k)
theorem foldl_rep (its:List Value):∀ (k:Nat) (acc:List Value),
  List.foldl (fun x1 x2=>x1 ++ x2) acc.toArray (List.replicate k its.toArray) = (acc ++ (List.replicate k its).flatten).toArray
 | 0,acc=>by simp
 | k + 1,acc=>by
  have e:acc.toArray ++ its.toArray = (acc ++ its).toArray:=by simp
  have e2:(acc ++ its) ++ (List.replicate k its).flatten = acc ++ (List.replicate (k + 1) its).flatten:=by
   rw [List.replicate_succ,List.flatten_cons,List.append_assoc]
  rw [<- e2,<- foldl_rep its k (acc ++ its),<- e,List.replicate_succ,List.foldl_cons]
section
variable {X:Cx} {pins:List (Addr × Obj)} {σ:St} {H:Hp} {s:Shared} {l b:Addr} {xs ys zs:List V}
theorem Inv.lset {its its':List Value} {n:Nat} {f:Array Value->Array Value} {t':Nat} (I:Inv X pins σ H s) (hH:H l = some (.lst xs))
  (e:s.heap.get? l = some { cls:=.type "list",data:=.seq its.toArray n }) (hf:f its.toArray = its'.toArray) (hv:Vals ys its') (hz:ys.length<=sizeLine) :
  Inv X pins σ (upd H l (.lst ys)) { s with heap:=s.heap.update l (Obj.mapSeq f),toks:=t' }:=by
 have q:=PySem.IsL.update e f
 rw [hf] at q
 refine I.write (x:=l) (e:=l) (by rw [hH]; exact trivial) (.inl rfl) (fun b' u hb hu=>(Heap.get?_update_other s.heap (Obj.mapSeq f) (Ne.symm hb)).trans hu) ⟨_,q⟩ ?_
 exact ⟨hz,its',_,hv,q⟩
theorem Inv.lnew {its:List Value} {t':Nat} (I:Inv X pins σ H s) (hv:Vals ys its) (hz:ys.length<=sizeLine) :
  Inv X pins σ (upd H s.heap.objs.size (.lst ys)) { s with heap:=s.heap.push { cls:=.type "list",data:=.seq its.toArray },toks:=t' }:=
 I.laid (fun _ _ q=>Heap.get?_push_of_some _ q) (Nat.le_refl _) ⟨hz,its,0,hv,Heap.get?_push_size _ rfl⟩
theorem Inv.fresh (I:Inv X pins σ H s):H s.heap.objs.size = none:=I.hok.fresh (Nat.le_refl _)
theorem Inv.lstM (I:Inv X pins σ H s) (hH:H l = some (.lst xs)):xs.length<=sizeLine/\∃ (its:List Value) (n:Nat),Vals xs its/\xs.length = its.length/\s.heap.get? l = some { cls:=.type "list",data:=.seq its.toArray n }:=by
 obtain ⟨z,its,n,r,e⟩:=I.hok l _ hH
 exact ⟨z,its,n,r,r.length,e⟩
theorem notLongL {n:Nat} (h:n<=sizeLine):Builtin.List.listTooLong n = false:=by
 unfold Builtin.List.listTooLong
 exact decide_eq_false (by omega)
end
section
variable {X:Cx}
noncomputable def rAppend:V->List V->Hp->VK->Prop:=fun x vs H Q=>∃ l xs y,x = .ref l/\vs = [y]/\H l = some (.lst xs)/\xs.length < sizeLine/\Q .non (upd H l (.lst (xs ++ [y])))
theorem mt_append:MtM X "list.append" rAppend:=by
 intro pins s σ H x vs v us Q I rx rv h
 obtain ⟨l,xs,y,rfl,rfl,hH,hz,q⟩:=h
 cases rx
 obtain ⟨u,rfl,ru⟩:=rv.one
 obtain ⟨z,its,n,r,hl,e⟩:=I.lstM hH
 refine call_meets F.slot_list_append ⟨_,e,rfl⟩ F.entry_list_append (F.args_list_append_2 _ _) (PySem.list_append l its.toArray n u (by rw [List.size_toArray]; omega)) ⟨e,?_⟩
 refine ⟨.non,_,I.lset (its':=its ++ [u]) hH e (by simp) (r.append (.cons ru .nil)) ?_,rfl,q⟩
 rw [List.length_append,List.length_singleton]
 omega
noncomputable def rExtend:V->List V->Hp->VK->Prop:=fun x vs H Q=>∃ l b xs zs,x = .ref l/\vs = [.ref b]/\H l = some (.lst xs)/\H b = some (.lst zs)/\xs.length + zs.length<=sizeLine/\Q .non (upd H l (.lst (xs ++ zs)))
theorem mt_extend:MtM X "list.extend" rExtend:=by
 intro pins s σ H x vs v us Q I rx rv h
 obtain ⟨l,b,xs,zs,rfl,rfl,hH,hB,hz,q⟩:=h
 cases rx
 obtain ⟨u,rfl,ru⟩:=rv.one
 cases ru
 obtain ⟨z,its,n,r,hl,e⟩:=I.lstM hH
 obtain ⟨z2,its2,n2,r2,hl2,e2⟩:=I.lstM hB
 have hsz:its.toArray.size + its2.toArray.size<=sizeLine:=by rw [List.size_toArray,List.size_toArray]; omega
 have hlong:¬ (!its.toArray.isEmpty && Builtin.List.listTooLong (its.toArray.size + its2.toArray.size)) = true:=by
  rw [notLongL hsz,Bool.and_false]
  exact Bool.false_ne_true
 refine call_meets F.slot_list_extend ⟨_,e,rfl⟩ F.entry_list_extend (F.args_list_extend_2 _ _)
  (AutoSeq1.list_extend_list_list_0 l its.toArray n b its2.toArray n2 hlong (by rw [List.size_toArray]; omega) (by omega)) ⟨e,e2,?_⟩
 refine ⟨.non,_,I.lset (its':=its ++ its2) hH e (by simp) (r.append r2) ?_,rfl,q⟩
 rw [List.length_append]
 omega
noncomputable def rCat:R2:=fun x y H Q=>∃ l b xs zs,x = .ref l/\y = .ref b/\H l = some (.lst xs)/\H b = some (.lst zs)/\xs.length + zs.length<=sizeLine/\∀ p,H p = none->Q (.ref p) (upd H p (.lst (xs ++ zs)))
theorem op_cat:OpR X (binaryOp .Add) rCat:=by
 intro pins s σ H x y v u Q I rx ry h
 obtain ⟨l,b,xs,zs,rfl,rfl,hH,hB,hz,q⟩:=h
 cases rx
 cases ry
 obtain ⟨z,its,n,r,hl,e⟩:=I.lstM hH
 obtain ⟨z2,its2,n2,r2,hl2,e2⟩:=I.lstM hB
 refine PySem.P.add_list e e2 ?_ (by rw [List.size_toArray,List.size_toArray]; omega)
 have ea:its.toArray ++ its2.toArray = (its ++ its2).toArray:=by simp
 rw [ea]
 exact ⟨.ref _,_,I.lnew (t':=s.toks) (r.append r2) (by rw [List.length_append]; omega),rfl,q _ I.fresh⟩
noncomputable def rRep:R2:=fun x y H Q=>∃ l k xs,x = .ref l/\y = .int k/\H l = some (.lst xs)/\-(2 ^ 63)<=k/\k < 2 ^ 63/\xs.length * k.toNat<=sizeLine/\
 ∀ p,H p = none->Q (.ref p) (upd H p (.lst (List.replicate k.toNat xs).flatten))
theorem len_rep {α:Type} (xs:List α) (k:Nat):(List.replicate k xs).flatten.length = k * xs.length:=by
 induction k with
 | zero=>simp
 | succ k ih=>rw [List.replicate_succ,List.flatten_cons,List.length_append,ih,Nat.succ_mul,Nat.add_comm]
theorem op_rep:OpR X (binaryOp .Mult) rRep:=by
 intro pins s σ H x y v u Q I rx ry h
 obtain ⟨l,k,xs,rfl,rfl,hH,h1,h2,hz,q⟩:=h
 cases rx
 obtain ⟨t,rfl⟩:=ry
 obtain ⟨z,its,n,r,hl,e⟩:=I.lstM hH
 have hlen:its.toArray.size * k.toNat<=sizeLine:=by rw [List.size_toArray,<- hl]; exact hz
 have hcap:¬ its.toArray.size * k.toNat > (2 ^ 63 - 1) / 8:=by
  have:(sizeLine:Nat)<=(2 ^ 63 - 1) / 8:=by decide
  omega
 have hfit:¬ (!Builtin.List.listFitsIndex k) = true:=by
  rw [fitsIndex_both h1 h2]
  exact Bool.false_ne_true
 have hlong:¬ Builtin.List.listTooLong (its.toArray.size * k.toNat) = true:=by
  rw [notLongL hlen]
  exact Bool.false_ne_true
 have hnew:List.foldl (fun x1 x2=>x1 ++ x2) #[] (List.replicate (if its.toArray.isEmpty = true then 0 else k.toNat) its.toArray) = (List.replicate k.toNat its).flatten.toArray:=by
  have f0:∀ m:Nat,List.foldl (fun x1 x2=>x1 ++ x2) #[] (List.replicate m its.toArray) = (List.replicate m its).flatten.toArray:=fun m=>by
   have:=foldl_rep its m []
   rw [List.nil_append] at this
   exact this
  rw [f0]
  cases its with
  | nil=>simp
  | cons a r'=>rw [if_neg (by simp)]
 refine wpAny_binaryOp_repeat_ref (T:="list") (U:="int") (by decide) ⟨_,e,rfl⟩ (fun s'=>typeIs_int s' k t) noFill_list_mul F.fills_int_mul F.slot_int_rmul repeat_list F.slot_int_index.lookup
  (call_meets F.slot_int_rmul (typeIs_int s k t) F.entry_int_rmul (F.args_int_rmul_2 _ _) (int___rmul___int_list k t l its.toArray n)
   ⟨e,rfl,⟨_,e,rfl⟩,call_meets F.slot_list_mul ⟨_,e,rfl⟩ F.entry_list_mul (F.args_list_mul_2 _ _) (AutoListH.list___mul___list_int_3 l its.toArray n k t hfit hcap hlong) ⟨e,?_⟩⟩)
 rw [hnew]
 exact ⟨.ref _,_,I.lnew (t':=s.toks) (r.rep k.toNat) (by rw [len_rep,Nat.mul_comm]; exact hz),rfl,q _ I.fresh⟩
end
section
variable {prog:Program} {w:World} {A:Around} {E:Value->Shared->Prop} {s:Shared}
end
section
variable {X:Cx}
end
end L2
namespace Att
open PySem PySem.W PySem.Calls PyProof.Rows
theorem ints_of_wellAll {P:Params} {h:Heap}:∀ (ns:List Int) (vs:List Value),WellAll P h vs (ns.map WData.int)->IntsAre vs ns:=by
 intro ns
 induction ns with
 | nil=>
  intro vs w
  rw [List.map_nil] at w
  cases w
  exact .nil
 | cons n ns ih=>
  intro vs w
  rw [List.map_cons] at w
  cases w with
  | cons a b=>
   cases a
   exact .cons _ _ (ih _ b)
theorem script_of {l:OpenLaw} {n:Nat} (hn:l.most = some n) {P:Params} {h:Heap} {args:List WData} {vals:List Value}
  (hpre:l.row.toRowW.claim.pre args = true) (hwl:WellAll P h vals args) :
  ∃ a vs ns,vals = [Value.ref a]/\args = [WData.list (ns.map WData.int)]/\h.get? a = some { cls:=.type "list",data:=.seq vs.toArray }/\IntsAre vs ns/\ns.length<=n:=by
 have hsh:WShape.hasAll [] args [.list .int] = true:=(pre_splitW hpre).1
 have hc:l.pre.holds [] { args:=args } = true:=(pre_splitW hpre).2
 obtain ⟨d,r,rfl,h1,h2⟩:=hasAllW_cons hsh
 obtain rfl:=hasAllW_nil h2
 obtain ⟨xs,rfl,h3⟩:=hasW_list h1
 obtain ⟨ns,rfl⟩:=items_int h3
 have hlen:ns.length<=n:=by
  unfold OpenLaw.pre at hc
  have h4:(WTm.not (.lt (.lit (.int (n:Int))) (.len (.arg 0)))).holds [] { args:=[.list (ns.map .int)] } = true:=by
   have h4:=(holds_andW hc).1
   rw [hn] at h4
   exact h4
  have h5:=condW_of h4 (w_not (w_lt w_lit (w_len_list (w_arg rfl))))
  rw [List.length_map] at h5
  refine Nat.le_of_not_lt fun q=>?_
  have q':(n:Int) < ((ns.length:Nat):Int):=by omega
  first
   | (rw [decide_eq_true q'] at h5; exact absurd h5 (by decide))
   | (simp at h5; omega)
 cases hwl with
 | cons w1 w2=>
  cases w2
  cases w1 with
  | list ho hall=>exact ⟨_,_,ns,rfl,rfl,ho,ints_of_wellAll ns _ hall,hlen⟩
theorem post_true (l:OpenLaw) (args:List WData):l.row.toRowW.claim.post args (.bool true) args = true:=
 postW_of (r:=l.row.toRowW) (X:=(true == true))
  (show WShape.has [] (.bool true) .bool = true by first | rfl | decide | simp [WShape.has,WShape.arms,WShape.armsAll])
  (show (WTm.eq .res (.lit (.bool true))).value [] { args:=args,res:=some (.bool true),after:=args } = some (.bool (true == true)) from w_eq_bool (w_res rfl) w_lit) rfl
theorem attach_call {l:OpenLaw} {n:Nat} {q:Program} {loose:List Str} {XP:(Str->Option Value)->Heap->Prop} {YP:World->Heap->Prop} {d:DefRec}
  (hn:l.most = some n) (hdf:d.params.defaults = [])
  (call:∀ (w:World) (s₀ s₁:Shared) (mg mb:Str->Option Value) (fa:Addr) (o:Obj) (pm cd doc:Value) (a:Addr) (vs:List Value) (ns:List Int),
   Ground q loose [] XP w s₀ mg mb s₁.heap->YP w s₁.heap->
   s₁.heap.get? fa = some o->o.data = .func (docDef d.name d.params d.body d.scope pm cd doc)->s₁.heap.CodeRec cd d.name->mg d.name = some (.ref fa)->
   s₁.heap.get? a = some { cls:=.type "list",data:=.seq vs.toArray }->IntsAre vs ns->ns.length<=n->s₁.gens = #[]->
   codeAny (model l.prog w) callerA (.call (.ref fa) ⟨[.ref a],[]⟩) (fun r s'=>r = .ok (.ret (.bool true))/\OldK s₁.heap s'.heap/\s'.os = s₁.os/\AllBare s'.gens) s₁) :
  WalkO q loose XP YP l.row.toRowW d [] (fun f vs=>PySem.call f vs):=by
 intro w s₀ s₁ mg mb G Y fa o pm cd doc dV kV ho hd hcd hD hmg hg args vals as hpre hlay hrd hwl hlo
 obtain rfl:dV = .none:=Dflts.none hD hdf
 obtain rfl:kV = .none:=Dflts.noKw hD
 obtain ⟨a,vs,ns,rfl,rfl,hobj,hints,hlen⟩:=script_of hn hpre hwl
 refine enter_call (codeAny_mono (call w s₀ s₁ mg mb fa o pm cd doc a vs ns G Y ho (fd_plain hd) hcd hmg hobj hints hlen hg) fun r s' hq=>?_)
 obtain ⟨rfl,h2,h3,h4⟩:=hq
 exact ⟨.inl ⟨.bool true,.bool true,[],rfl,fun _=>rfl,.bool true,post_true l _,fun _=>⟨List.Pairwise.nil,fun _ hm=>(nomatch hm)⟩⟩,h2,h3,h4⟩
section
variable {prog:Program} {w:World} {A:Around} {E:Value->Shared->Prop} {s:Shared} {K:Frag}
end
end Att
namespace L2
open PySem PySem.Spec PyProof.Rows
theorem vals_ints:∀ {vs:List Value} {ns:List Int},IntsAre vs ns->Vals (ns.map V.int) vs
 | _,_,.nil=>.nil
 | _,_,.cons n t h=>.cons ⟨t,rfl⟩ (vals_ints h)
noncomputable def Only (H:Hp):Prop:=∀ b,H b = none\/∃ o xs,H b = some (.frz o (.lst xs))
theorem law_call {P:Program} {w:World} {K:PySem.W.Frag} {mg mb:Str->Option Value} {CX:CXT} {k:Nat} {fa a:Addr} {fd:FuncData} {x:Str} {sp:Sp} {s₁:Shared} {vs:List Value} {ns:List Int}
  (KX:K.In s₁.heap) (hns:s₁.heap.Ns mainGlobals mg) (hb:s₁.heap.Ns builtinsNs mb) (hbb:∀ x:Str,x ≠ "__name__"->mb x = bootBuiltins x) (hlim:s₁.heap.NoLimit) (hg:s₁.gens = #[])
  (ha:s₁.heap.get? a = some { cls:=.type "list",data:=.seq vs.toArray }) (hi:IntsAre vs ns) (hl:ns.length<=sizeLine) (hr:Room k callerA)
  (F:∀ base:Heap,K.In base->base.Ns mainGlobals mg->FnOk P w K mg base CX k fa fd [x] sp) (hbind:∀ (s:Shared) (u:Value),BindsTo s fd ⟨[u],[]⟩ [(x,u)])
  (hsp:∀ H:Hp,Only H->SqL K H a (ns.map V.int)->sp [.ref a] H (fun v _=>v = .bl true) fun _ _ _=>False)
  (hCX:∀ H e s',CX [] H s₁ (fun _ _ _=>False) e s'->False) :
  codeAny (model P w) callerA (.call (.ref fa) ⟨[.ref a],[]⟩) (fun r s'=>r = .ok (.ret (.bool true))/\OldK s₁.heap s'.heap/\s'.os = s₁.os/\AllBare s'.gens) s₁:=by
 have rv:=vals_ints hi
 have lenV:=hi.length
 -- from an abstract heap in which nothing but the script may be tracked
 have core:∀ H:Hp,Only H->SqL K H a (ns.map V.int)->HOk P w H s₁.heap->(∀ b,H b ≠ none->b = a)->(H a ≠ none->K.lookup a = none)->
   codeAny (model P w) callerA (.call (.ref fa) ⟨[.ref a],[]⟩) (fun r s'=>r = .ok (.ret (.bool true))/\OldK s₁.heap s'.heap/\s'.os = s₁.os/\AllBare s'.gens) s₁:=by
  intro H hO hS hok hA hK
  have base_of:∀ {b:Addr} {o:Obj},s₁.heap.get? b = some o->H b = none->(hidT s₁.heap H).get? b = some o:=fun e n=>hidT_get e n
  have noA:∀ {b:Addr} {o:Obj} {es:Array DictEntry} {ep:Nat},s₁.heap.get? b = some o->o.data = .dict es ep->H b = none:=fun {b o es ep} e d=>by
   cases q:H b with
   | none=>rfl
   | some u=>
    have e':b = a:=hA b (by rw [q]; simp)
    subst e'
    rw [ha] at e; cases e
    have d':Data.seq vs.toArray _ = Data.dict es ep:=d
    cases d'
  have nsK:∀ {b:Addr} {m:Str->Option Value},s₁.heap.Ns b m->(hidT s₁.heap H).Ns b m:=fun {b m} ⟨o,es,ep,e,d,r⟩=>⟨o,es,ep,base_of e (noA e d),d,r⟩
  have hKb:K.In (hidT s₁.heap H):=fun b o e=>base_of (KX b o e) (by
   cases q:H b with
   | none=>rfl
   | some u=>
    have e':b = a:=hA b (by rw [q]; simp)
    subst e'
    rw [hK (by rw [q]; simp)] at e; cases e)
  have hM:Mod K mg (hidT s₁.heap H):=⟨hKb,nsK hns,⟨mb,nsK hb,hbb⟩,let ⟨mc,h1,h2⟩:=hlim; ⟨mc,nsK h1,h2⟩⟩
  have e0:Env0 P w K mg (hidT s₁.heap H) callerA [] s₁ H:=⟨rfl,hM,fun b o e=>of_hidT e,Nat.le_of_eq (hidT_size _ _),trivial,fun b hb=>absurd (show b ∈ ([]:List Addr) from hb) (by simp),hok,.of_eq hg⟩
  refine codeAny_mono ((F _ hKb (nsK hns)).run callerA [] s₁ H ⟨[.ref a],[]⟩ [.ref a] [.ref a] _ _ hr e0 (hbind s₁ (.ref a)) (.cons rfl .nil) (hsp H hO hS)) fun r s' h=>?_
  cases r with
  | error e=>exact (hCX H e s' h).elim
  | ok fl=>
   cases fl with
   | next=>exact False.elim h
   | brk=>exact False.elim h
   | cont=>exact False.elim h
   | ret u=>
    obtain ⟨v,H',os,bare,un,hok',r',q⟩:=h
    have q':v = .bl true:=q
    subst q'
    obtain rfl:u = Value.bool true:=r'
    refine ⟨rfl,OldK.of_keep fun b o e=>?_,os,bare⟩
    cases q:H b with
    | none=>exact un.keep b o e q (by intro z; exact absurd (show b ∈ ([]:List Addr) from z) (by simp)) (by simp)
    | some u=>
     rcases hO b with z | ⟨ob,xs,z⟩
     ·rw [q] at z; cases z
     ·have z2:=un.frzs b ob _ z
      obtain ⟨e1,_⟩:=hok b _ z
      obtain ⟨e2,_⟩:=hok' b _ z2
      rw [e] at e1; cases e1
      exact e2
 cases hk:K.lookup a with
 | some o=>
  -- the script is one of the module's own objects
  have e:=KX a o hk
  rw [ha] at e
  cases e
  refine core (fun _=>none) (fun _=>.inl rfl) (.inr ⟨_,vs.toArray,_,hk,rfl,rfl,rfl,by rw [List.size_toArray,lenV]; exact hl,by simpa using rv⟩) (fun b u z=>by have z':(none:Option HO) = some u:=z; cases z') (fun b z=>absurd rfl z) fun z=>absurd rfl z
 | none=>
  refine core (fun b=>if b = a then some (.frz { cls:=.type "list",data:=.seq vs.toArray } (.lst (ns.map V.int))) else none) (fun b=>?_) (.inl (.inr ⟨{ cls:=.type "list",data:=.seq vs.toArray },if_pos rfl⟩)) (fun b u z=>?_) (fun b z=>?_) fun _=>hk
  ·by_cases hb:b = a
   ·exact .inr ⟨_,_,if_pos hb⟩
   ·exact .inl (if_neg hb)
  ·by_cases hb:b = a
   ·have z':=(if_pos hb).symm.trans z
    cases z'
    subst hb
    exact ⟨ha,by rw [List.length_map]; exact hl,vs,_,rv,ha⟩
   ·have z':=(if_neg hb).symm.trans z
    cases z'
  ·by_cases hb:b = a
   ·exact hb
   ·exact absurd (if_neg hb) z
end L2
namespace L2
open PySem PySem.Spec PyProof.Rows
theorem walk_of {l:PySem.W.OpenLaw} {n k:Nat} {q:Program} {loose:List Str} {XP:(Str->Option Value)->Heap->Prop} {YP:World->Heap->Prop} {d:DefRec} {K:Params->PySem.W.Frag} {CX:World->CXT} {sp:World->Sp} {x:Str}
  (hn:l.most = some n) (hn2:n<=sizeLine) (hdf:d.params.defaults = []) (hr:Room k callerA)
  (hY:∀ (w:World) (h:Heap),YP w h->(K w.params).In h)
  (F:∀ (w:World) (mg:Str->Option Value) (fa:Addr) (h:Heap),(K w.params).In h->h.Ns mainGlobals mg->mg d.name = some (.ref fa)->
   ∃ fd:FuncData,(∀ (s:Shared) (u:Value),BindsTo s fd ⟨[u],[]⟩ [(x,u)])/\
    ∀ base:Heap,(K w.params).In base->base.Ns mainGlobals mg->FnOk l.prog w (K w.params) mg base (CX w) k fa fd [x] (sp w))
  (hsp:∀ (w:World) (H:Hp) (a:Addr) (ns:List Int),ns.length<=n->Only H->SqL (K w.params) H a (ns.map V.int)->sp w [.ref a] H (fun v _=>v = .bl true) fun _ _ _=>False)
  (hCX:∀ (w:World) (H:Hp) (s:Shared) (e:Value) (s':Shared),CX w [] H s (fun _ _ _=>False) e s'->False) :
  PySem.W.WalkO q loose XP YP l.row.toRowW d [] (fun f vs=>PySem.call f vs):=by
 refine Att.attach_call hn hdf fun w s₀ s₁ mg mb fa o pm cd doc a vs ns G Y ho hd hcd hmg hobj hints hlen hg=>?_
 have KX:=hY w _ Y
 obtain ⟨fd,hb,hF⟩:=F w mg fa _ KX G.T.g hmg
 exact law_call KX G.T.g G.T.b G.T.builtins G.T.nolimit hg hobj hints (Nat.le_trans hlen hn2) hr hF hb (fun H hO hS=>hsp w H a ns hlen hO hS) fun H e s'=>hCX w H s₁ e s'
end L2
namespace L2
open PySem PySem.Spec PyProof.Rows
noncomputable def defArgs (s:Stmt):Arguments:=match s with
 | .FunctionDef _ a _ _ _ _ _ _ _ _=>a
 | _=>{ posonlyargs:=[],args:=[],vararg:=none,kwonlyargs:=[],kw_defaults:=[],kwarg:=none,defaults:=[] }
noncomputable def defBody (s:Stmt):List Stmt:=match s with
 | .FunctionDef _ _ b _ _ _ _ _ _ _=>b
 | _=>[]
noncomputable def defScope (s:Stmt):Scope:=match s with
 | .FunctionDef _ _ _ _ _ _ sc _ _ _=>sc
 | _=>{ kind:=.function,names:=[],isGenerator:=false,isCoroutine:=false }
noncomputable abbrev CX0:CXT:=fun _ _ _ _ _ _=>False
noncomputable abbrev E0:XK:=fun _ _ _=>False
theorem pass0 {X:Cx}:Passes CX0 X E0:=fun _ _ _ _ _ _ _ h=>h.elim
structure Fun (K:PySem.W.Frag) (x qual:Str) (st:Stmt) (f:Addr) (fd:FuncData):Prop where
 ex:∃ (oc:Value) (od:Option Addr) (kV doc pm:Value) (an:Option Addr) (cdv ct:Value) (osl:Array (Option Value)),
  fd = PySem.W.fnOf x qual (defArgs st) (defBody st) (defScope st) .none kV doc pm an cdv ct/\K.lookup f = some ⟨oc,od,.func fd,osl⟩/\PySem.W.codeIn K cdv qual = true
 kp:PySem.W.keepIn K (.ref f) = true
section
variable {P:Program} {w:World} {K:PySem.W.Frag} {mg:Str->Option Value} {base:Heap}
theorem Fun.ok {x qual:Str} {st:Stmt} {f:Addr} {fd:FuncData} {N ps:List Str} {k:Nat} {sp:Sp} (F:Fun K x qual st f fd) (S:FnScope N ps (defScope st)) (len:∀ vs H Q E,sp vs H Q E->vs.length = ps.length)
  (hbody:∀ (cdv:Value) (A:Around) (outer:List Env) (s:Shared) (H:Hp) (vs:List V) (Q:VK) (E:XK),Room k (A.deeper (envOfC qual (defScope st) s.heap.objs.size f cdv))->sp vs H Q E->
   ∃ t,PSs (cxOf CX0 P w K mg base N qual (defScope st) f cdv A outer s H E).nox (defBody st) t/\t { nx:=fun _ H'=>Q .non H',rt:=Q } (start N vs) H):FnOk P w K mg base CX0 (k + 1) f fd ps sp:=by
 obtain ⟨oc,od,kV,doc,pm,an,cdv,ct,osl,rfl,lk,hcd⟩:=F.ex
 refine fn_of lk hcd S len fun A outer s H vs Q E hr hsp=>?_
 obtain ⟨t,h,q⟩:=hbody cdv A outer s H vs Q E hr hsp
 exact ⟨t,h.nox,q⟩
theorem Fun.binds {x qual:Str} {st:Stmt} {f:Addr} {fd:FuncData} {ps:List Str} (F:Fun K x qual st f fd)
  (h:∀ (kV doc pm:Value) (an:Option Addr) (cdv ct:Value) (us:List Value),us.length = ps.length->bindArgs (PySem.W.fnOf x qual (defArgs st) (defBody st) (defScope st) .none kV doc pm an cdv ct) ⟨us,[]⟩ = pure (ps.zip us)):Binds K fd ps []:=by
 obtain ⟨oc,od,kV,doc,pm,an,cdv,ct,osl,rfl,lk,hcd⟩:=F.ex
 exact .all (h kV doc pm an cdv ct)
theorem fun_mk {x qual:Str} {st:Stmt} {f:Addr} {oc:Value} {od an:Option Addr} {osl:Array (Option Value)} {kV doc pm cdv ct:Value} (l:K.lookup f = some ⟨oc,od,.func (PySem.W.fnOf x qual (defArgs st) (defBody st) (defScope st) .none kV doc pm an cdv ct),osl⟩)
  (c:PySem.W.codeIn K cdv qual = true) (k:PySem.W.keepIn K (.ref f) = true):Fun K x qual st f (PySem.W.fnOf x qual (defArgs st) (defBody st) (defScope st) .none kV doc pm an cdv ct):=⟨⟨oc,od,kV,doc,pm,an,cdv,ct,osl,rfl,l,c⟩,k⟩
end
section
variable {X:Cx}
end
theorem iteF {A B:Prop} (h:B):if false = true then A else B:=by
 rw [if_neg Bool.false_ne_true]
 exact h
theorem iteT {A B:Prop} (h:A):if true = true then A else B:=by
 rw [if_pos rfl]
 exact h
noncomputable def Same (H H':Hp):Prop:=∀ b o,H b = some o->H' b = some o
theorem Same.refl (H:Hp):Same H H:=fun _ _ h=>h
theorem Same.trans {H H1 H2:Hp} (a:Same H H1) (b:Same H1 H2):Same H H2:=fun c o h=>b c o (a c o h)
theorem Same.free {H H':Hp} (e:Same H H') {l:Addr} (h:H' l = Option.none):H l = Option.none:=by
 cases q:H l with
 | none=>rfl
 | some o=>
  rw [e l o q] at h
  cases h
end L2
set_option maxHeartbeats 4000000
namespace HT
open PySem PySem.Spec PyProof.Rows
section
variable {prog:Program} {w:World} {A:Around} {E:Value->Shared->Prop} {s:Shared}
theorem cat_tup0 {t b:Addr} {ws:List Value} {Q:Value->Shared->Prop} (ht:IsTup s.heap t #[]) (hb:IsTup s.heap b ws.toArray) (h1:Q (.ref b) s):wpAny (model prog w) A (binaryOp .Add (.ref t) (.ref b)) Q E s:=by
 obtain ⟨⟨c1,d1,e1,s1⟩,a1,a2,n,a3⟩:=id ht
 obtain ⟨⟨c2,d2,e2,s2⟩,b1,b2,n2,b3⟩:=id hb
 simp only at a2 a3 b2 b3
 subst a2 a3 b2 b3
 exact concat_meets ⟨_,a1,rfl⟩ ⟨_,b1,rfl⟩ noFill_tuple_add seq_tuple_add PySem.F.slot_tuple_add PySem.F.entry_tuple_add (PySem.F.args_tuple_add_2 _ _) (tuple_addW0 t b #[] ws.toArray n n2 d1 d2 s1 s2 (by simp)) ⟨a1,b1,h1⟩
theorem getItem_tuple_all {t sl:Addr} {its:Array Value} {vl vu:Value} {lo hi:Option Int} {Q:Value->Shared->Prop} (ht:IsTup s.heap t its) (hs:s.heap.IsSliceOf sl vl vu .none) (pl:IsPart vl lo) (pu:IsPart vu hi)
  (h0:sIx its.size 0 lo = 0) (h1:sIx its.size its.size hi = its.size) (h:Q (.ref t) s):wpAny (model prog w) A (getItem (.ref t) (.ref sl)) Q E s:=by
 obtain ⟨os,hos,hcs,hds⟩:=id hs
 have tS:s.TypeIs (.ref sl) "slice":=⟨os,hos,hcs⟩
 unfold getItem
 try with_reducible refine wpAny_holding ?_
 first | refine wpAny_bind (wpAny_pure ?_) | skip
 refine wpAny_bind (wpAny_sequenceKey ht.typeIs (by decide) ?_)
 refine wpAny_bind (wpAny_callSpecial?_slot (name:=Str.ofString "__getitem__") ht.typeIs PyProof.Rows.slot_tuple_getitem (wpAny_call_entry PyProof.Rows.slot_tuple_getitem ht.typeIs entry_tuple_getitem ?_ (args_tuple_getitem _ _)))
 show wpAny _ _ (Builtin.Tuple.tupleItemsOf (.ref t) >>= _) _ _ s
 refine wpAny_bind (tupleItemsOf_ ht ?_)
 refine wpAny_bind (wpAny_typeOf tS ?_)
 rw [if_pos (by decide)]
 refine wpAny_bind (sliceApplied_gen hs pl pu ?_)
 rw [h0,h1]
 show wpAny _ _ (if ((((0:Nat):Int)) == 0 && (1:Int) == 1 && (its.size - 0) == its.size) = true then _ else _) _ _ s
 rw [if_pos (by simp)]
 refine wpAny_bind (m:=Builtin.Tuple.tupleIsExact _) ?_
 unfold Builtin.Tuple.tupleIsExact
 refine wpAny_bind (wpAny_typeOf ht.typeIs (wpAny_pure ?_))
 rw [if_pos (by decide)]
 first
  | exact wpAny_bind (wpAny_rule (wpAny_pure ⟨_,rfl,wpAny_pure h⟩))
  | exact wpAny_pure ⟨_,rfl,wpAny_pure h⟩
  | exact wpAny_bind (wpAny_pure (wpAny_pure ⟨_,rfl,wpAny_pure h⟩))
end
end HT
namespace L2
open PySem PySem.Spec PyProof.Rows
section
variable {X:Cx}
theorem op_catT0:OpR X (binaryOp .Add) (fun x y H Q=>∃ a b ys,x = .ref a/\y = .ref b/\SqT X.K H a []/\SqT X.K H b ys/\Q (.ref b) H):=by
 intro pins s σ H x y v u Q I rx ry h
 obtain ⟨a,b,ys,rfl,rfl,ha,hb,q⟩:=h
 cases rx
 cases ry
 obtain ⟨its,r1,p1,_⟩:=I.tuple ha
 obtain ⟨its2,r2,p2,_⟩:=I.tuple hb
 cases r1
 exact HT.cat_tup0 p1 p2 ⟨.ref b,H,I,rfl,q⟩
theorem sl_tupW:SlR X (fun x lo hi H Q=>∃ a xs,x = .ref a/\SqT X.K H a xs/\HT.sIx xs.length 0 lo = 0/\HT.sIx xs.length xs.length hi = xs.length/\Q (.ref a) H):=by
 intro pins s σ H x v vl vu lo hi sl Q I rx hs pl pu h
 obtain ⟨a,xs,rfl,hx,h0,h1,q⟩:=h
 cases rx
 obtain ⟨its,r,ht,hz⟩:=I.tuple hx
 have hn:its.toArray.size = xs.length:=by rw [List.size_toArray]; exact r.length.symm
 exact ⟨"tuple",_,PyProof.Rows.slot_tuple_getitem.lookup,ht.typeIs,HT.getItem_tuple_all ht hs pl pu (by rw [hn]; exact h0) (by rw [hn]; exact h1) ⟨.ref a,H,I,rfl,q⟩⟩
end
end L2
namespace L2
open PySem PySem.Spec PyProof.Rows
section
variable {κ:Type} [DecidableEq κ]
noncomputable def putK (kvs:List (κ × V)) (k:κ) (v:V):List (κ × V):=
 if (kvs.any fun kv=>decide (kv.1 = k)) = true then kvs.map (fun kv=>if kv.1 = k then (kv.1,v) else kv) else kvs ++ [(k,v)]
theorem KV.length {kvs:List (κ × V)} {vs:List (κ × Value)} (r:KV kvs vs):kvs.length = vs.length:=Paired.length r
end
section
variable {P:Program} {w:World} {H:Hp} {h:Heap} {a:Addr}
theorem rd_of {u:HO} (ok:HOk P w H h) (e:Rd H a u):ObjOk P w H h a u:=e.ok ok
theorem dk_rd {kvs:List (Key × V)} (ok:HOk P w H h) (e:Rd H a (.dK kvs)):kvs.length<=sizeLine/\(a == sysModules) = false/\∃ vs,KV kvs vs/\h.DictOf (mixKind P w) a vs:=
 show ObjOk P w H h a (.dK kvs) from rd_of ok e
theorem dk_of {kvs:List (Key × V)} (ok:HOk P w H h) (e:H a = some (.dK kvs)):kvs.length<=sizeLine/\(a == sysModules) = false/\∃ vs,KV kvs vs/\h.DictOf (mixKind P w) a vs:=dk_rd ok (.inl e)
end
noncomputable def DPut (H:Hp) (a:Addr) (y v:V) (H':Hp):Prop:=
 (∃ kvs k,H a = some (.dK kvs)/\y = kV k/\kvs.length < sizeLine/\H' = upd H a (.dK (putK kvs k v)))\/
 ∃ kvs k b,H a = some (.dT kvs)/\y = .ref b/\H b = some (.tup (k.map kV))/\kvs.length < sizeLine/\H' = upd H a (.dT (putK kvs k v))
section
variable {X:Cx} {pins:List (Addr × Obj)} {σ:St} {H:Hp} {s:Shared} {a:Addr} {y v:V} {u r:Value} {o:Option V} {A:Around} {E:Value->Shared->Prop}
theorem Inv.big (I:Inv X pins σ H s):sysModules < s.heap.objs.size:=by
 have h:mainGlobals < s.heap.objs.size:=(I.mod.glob.keeps I.bk).lt
 exact Nat.lt_trans (by decide) h
end
section
variable {X:Cx} {pins:List (Addr × Obj)} {σ:St} {H:Hp} {s:Shared} {a:Addr} {kvs:List (Key × V)} {k:Key} {u:Value} {A:Around} {E:Value->Shared->Prop}
theorem d_len {Q:Value->Shared->Prop} (I:Inv X pins σ H s) (e:Rd H a (.dK kvs)) (h:∀ t s',Inv X pins σ H s'->Q (.int kvs.length t) s'):wpAny (model X.prog X.w) A (call (.builtin "len") [.ref a]) Q E s:=by
 obtain ⟨z,hd,vs,rel,dd⟩:=dk_rd I.hok e
 refine call_len_dict hd dd (by rw [<- rel.length]; rw [sizeLine_eq] at z; omega) ?_
 rw [<- rel.length]
 exact h _ _ (I.tok _)
end
section
variable {X:Cx} {o i e value:Expr} {pos pos' tpos:Pos} {td ty tv:TE}
end
theorem dk_empty {P:Program} {w:World} {H:Hp} (h:Heap) (hb:sysModules < h.objs.size):ObjOk P w H (h.push { cls:=.type "dict",data:=.dict #[] }) h.objs.size (.dK []):=
 ⟨Nat.zero_le _,beq_eq_false_iff_ne.mpr (Ne.symm (Nat.ne_of_lt hb)),[],.nil,Heap.DictOf.new h⟩
theorem dt_empty {P:Program} {w:World} {H:Hp} (h:Heap) (hb:sysModules < h.objs.size):ObjOk P w H (h.push { cls:=.type "dict",data:=.dict #[] }) h.objs.size (.dT []):=
 ⟨Nat.zero_le _,beq_eq_false_iff_ne.mpr (Ne.symm (Nat.ne_of_lt hb)),[],.nil,_,#[],0,Heap.get?_push_size _ rfl,⟨rfl,rfl,rfl⟩,rfl,rfl,List.nodup_nil⟩
noncomputable def tDNewK:TE:=fun _ H Q=>∀ p,H p = none->Q (.ref p) (upd H p (.dK []))
noncomputable def tDNewT:TE:=fun _ H Q=>∀ p,H p = none->Q (.ref p) (upd H p (.dT []))
section
variable {X:Cx} {pos:Pos}
theorem pe_dnewK:PE X (.Dict [] [] pos) tDNewK:=fun pins s σ H Q I h=>
 wpAny_Dict_empty ⟨.ref s.heap.objs.size,_,I.laid (a:=s.heap.objs.size) (o:=.dK []) (t':=s.toks) (fun _ _ q=>Heap.get?_push_of_some _ q) (Nat.le_refl _) (dk_empty s.heap I.big),rfl,h _ (I.hok.fresh (Nat.le_refl _))⟩
theorem pe_dnewT:PE X (.Dict [] [] pos) tDNewT:=fun pins s σ H Q I h=>
 wpAny_Dict_empty ⟨.ref s.heap.objs.size,_,I.laid (a:=s.heap.objs.size) (o:=.dT []) (t':=s.toks) (fun _ _ q=>Heap.get?_push_of_some _ q) (Nat.le_refl _) (dt_empty s.heap I.big),rfl,h _ (I.hok.fresh (Nat.le_refl _))⟩
end
structure M1 (X:Cx) (o:Expr) (m:Str) (apos:Pos) (e:Expr) (cpos:Pos):Prop where
 base:attributeBase o m X.env (eval o X.env) = eval o X.env
 few:((backTo cpos (starEach [e] X.env)).all (fun x=>!x.1) && (backToKw cpos (keywordEach [] X.env)).all (fun x=>x.1.isSome)
  && decide (([e]:List Expr).length + ([]:List Keyword).length + (if ([]:List Keyword).isEmpty then 0 else 1) < 30)) = true
 line:(apos.endLine == cpos.line) = true
 trees:backTo cpos (starEach [e] X.env) = [(false,eval e X.env)]
structure M2 (X:Cx) (o:Expr) (m:Str) (apos:Pos) (e f:Expr) (cpos:Pos):Prop where
 base:attributeBase o m X.env (eval o X.env) = eval o X.env
 few:((backTo cpos (starEach [e,f] X.env)).all (fun x=>!x.1) && (backToKw cpos (keywordEach [] X.env)).all (fun x=>x.1.isSome)
  && decide (([e,f]:List Expr).length + ([]:List Keyword).length + (if ([]:List Keyword).isEmpty then 0 else 1) < 30)) = true
 line:(apos.endLine == cpos.line) = true
 trees:backTo cpos (starEach [e,f] X.env) = [(false,eval e X.env),(false,eval f X.env)]
section
variable {X:Cx} {pins:List (Addr × Obj)} {σ:St} {H:Hp} {s:Shared} {a:Addr} {y d:V} {u r:Value} {o:Option V} {A:Around} {E:Value->Shared->Prop}
end
section
variable {X:Cx} {o e f:Expr} {apos cpos:Pos} {td ty tx:TE}
end
section
variable {X:Cx} {pins:List (Addr × Obj)} {σ:St} {H:Hp} {s:Shared} {a:Addr} {kvs:List (Key × V)} {A:Around} {E:Value->Shared->Prop}
end
section
variable {X:Cx} {pins:List (Addr × Obj)} {σ:St} {H:Hp} {s:Shared} {a:Addr} {y:V} {u:Value} {A:Around} {E:Value->Shared->Prop}
end
end L2
namespace L2
open PySem PySem.Spec PyProof.Rows
noncomputable def clOf (cells:List (Str × Addr)):List (Str × NameKind)->List (Str × Addr)->List (Str × Addr)
 | [],acc=>acc
 | (n,k) :: r,acc=>clOf cells r (if k = .free then (match cells.lookup n with | some c=>(n,c) :: acc | none=>acc) else acc)
theorem clOf_sub {cells:List (Str × Addr)}:∀ {names:List (Str × NameKind)} {acc:List (Str × Addr)},(∀ x c,acc.lookup x = some c->cells.lookup x = some c)->
  ∀ x c,(clOf cells names acc).lookup x = some c->cells.lookup x = some c
 | [],_,h=>h
 | (n,k) :: r,acc,h=>by
  unfold clOf
  refine clOf_sub (names:=r) fun x c=>?_
  split
  ·cases e:cells.lookup n with
   | none=>exact h x c
   | some d=>
    dsimp only
    intro q
    rw [List.lookup_cons] at q
    cases hx:x == n with
    | true=>
     rw [hx] at q
     have:x = n:=by simpa using hx
     subst this
     cases q
     exact e
    | false=>
     rw [hx] at q
     exact h x c q
  ·exact h x c
theorem clOf_keep {cells:List (Str × Addr)}:∀ {names:List (Str × NameKind)} {acc:List (Str × Addr)} {x:Str},(∃ c,acc.lookup x = some c)->∃ c,(clOf cells names acc).lookup x = some c
 | [],_,_,h=>h
 | (n,k) :: r,acc,x,h=>by
  unfold clOf
  refine clOf_keep (names:=r) ?_
  split
  ·cases e:cells.lookup n with
   | none=>exact h
   | some d=>
    dsimp only
    rw [List.lookup_cons]
    cases x == n with
    | true=>exact ⟨d,rfl⟩
    | false=>exact h
  ·exact h
theorem clOf_has {cells:List (Str × Addr)}:∀ {names:List (Str × NameKind)} {acc:List (Str × Addr)} {x:Str},(x,NameKind.free) ∈ names->(∃ c,cells.lookup x = some c)->∃ c,(clOf cells names acc).lookup x = some c
 | (n,k) :: r,acc,x,h,hc=>by
  unfold clOf
  rcases List.mem_cons.mp h with e | h
  ·cases e
   obtain ⟨c,hc⟩:=hc
   refine clOf_keep ⟨c,?_⟩
   rw [if_pos rfl,hc]
   simp
  ·exact clOf_has h hc
theorem closureFor_is {scope:Scope} {env:Env} (h:∀ y ∈ scope.names,y.2 = .free->∃ c,env.cells.lookup y.1 = some c):closureFor scope env = pure (clOf env.cells scope.names []):=by
 have key:∀ (names:List (Str × NameKind)) (acc:List (Str × Addr)),(∀ y ∈ names,y.2 = .free->∃ c,env.cells.lookup y.1 = some c)->
   (forIn names acc fun (x:Str × NameKind) (r:List (Str × Addr))=>(match x with | (name,kind)=>if (kind == .free) = true then do let a <- cellOf env name; pure (ForInStep.yield ((name,a) :: r)) else pure (ForInStep.yield r):Sem (ForInStep (List (Str × Addr))))) = pure (clOf env.cells names acc):=by
  intro names
  induction names with
  | nil=>intro acc _; rfl
  | cons y r ih=>
   intro acc hh
   obtain ⟨n,k⟩:=y
   rw [List.forIn_cons]
   dsimp only
   by_cases hk:k = .free
   ·obtain ⟨c,hc⟩:=hh (n,k) List.mem_cons_self hk
    subst hk
    have e:cellOf env n = pure c:=by unfold cellOf; rw [hc]
    rw [e]
    simp only [beq_self_eq_true,if_true,pure_bind]
    rw [ih _ fun y hy=>hh y (List.mem_cons_of_mem _ hy)]
    conv=>rhs; unfold clOf
    rw [if_pos rfl]
    have hc':env.cells.lookup n = some c:=hc
    rw [hc']
   ·have e:(k == NameKind.free) = false:=by simpa using hk
    rw [e]
    simp only [Bool.false_eq_true,if_false,pure_bind]
    rw [ih _ fun y hy=>hh y (List.mem_cons_of_mem _ hy)]
    conv=>rhs; unfold clOf
    rw [if_neg hk]
 unfold closureFor
 exact (congrArg (fun m=>m >>= fun r=>pure r) (key scope.names [] h)).trans (by simp)
theorem cellsFrom_app:∀ (names:List (Str × NameKind)) (n:Nat) (acc:List (Str × Addr)),cellsFrom n names acc = cellsFrom n names [] ++ acc
 | [],n,acc=>rfl
 | (x,k) :: r,n,acc=>by
  unfold cellsFrom
  split
  ·rw [cellsFrom_app r (n + 1) ((x,n) :: acc),cellsFrom_app r (n + 1) [(x,n)],List.append_assoc]; rfl
  ·exact cellsFrom_app r n acc
theorem cf_at {x:Str} {c:Addr}:∀ {names:List (Str × NameKind)} {n:Nat} {acc:List (Str × Addr)},(cellsFrom n names acc).lookup x = some c->((x,NameKind.cell) ∈ names/\n<=c)\/acc.lookup x = some c
 | [],_,_,h=>.inr h
 | (y,k) :: r,n,acc,h=>by
  unfold cellsFrom at h
  split at h
  ·rename_i hk
   have hk:k = .cell:=by simpa using hk
   subst hk
   rcases cf_at h with ⟨h1,h2⟩ | h1
   ·exact .inl ⟨List.mem_cons_of_mem _ h1,Nat.le_of_succ_le h2⟩
   ·rw [List.lookup_cons] at h1
    cases hx:x == y with
    | true=>
     rw [hx] at h1
     have:x = y:=by simpa using hx
     subst this
     cases h1
     exact .inl ⟨List.mem_cons_self,Nat.le_refl _⟩
    | false=>rw [hx] at h1; exact .inr h1
  ·rcases cf_at h with ⟨h1,h2⟩ | h1
   ·exact .inl ⟨List.mem_cons_of_mem _ h1,h2⟩
   ·exact .inr h1
theorem cf_off {x:Str}:∀ {names:List (Str × NameKind)} {n:Nat} {acc:List (Str × Addr)},(x,NameKind.cell) ∉ names->(cellsFrom n names acc).lookup x = acc.lookup x
 | [],_,_,_=>rfl
 | (y,k) :: r,n,acc,h=>by
  unfold cellsFrom
  have hr:(x,NameKind.cell) ∉ r:=fun z=>h (List.mem_cons_of_mem _ z)
  split
  ·rename_i hk
   have hk:k = .cell:=by simpa using hk
   subst hk
   rw [cf_off hr,List.lookup_cons]
   have:(x == y) = false:=by
    have:x ≠ y:=fun z=>h (by rw [z]; exact List.mem_cons_self)
    simpa using this
   rw [this]
  ·exact cf_off hr
theorem cf_has {x:Str}:∀ {names:List (Str × NameKind)} {n:Nat} {acc:List (Str × Addr)},((x,NameKind.cell) ∈ names\/∃ c,acc.lookup x = some c)->∃ c,(cellsFrom n names acc).lookup x = some c
 | [],_,_,h=>by
  rcases h with h | h
  ·simp at h
  ·exact h
 | (y,k) :: r,n,acc,h=>by
  unfold cellsFrom
  split
  ·rename_i hk
   have hk:k = .cell:=by simpa using hk
   subst hk
   refine cf_has ?_
   by_cases hx:x = y
   ·subst hx
    exact .inr ⟨n,by rw [List.lookup_cons]; simp⟩
   ·have e:(x == y) = false:=by simpa using hx
    rcases h with h | h
    ·rcases List.mem_cons.mp h with z | z
     ·exact absurd (by cases z; rfl) hx
     ·exact .inl z
    ·exact .inr (by rw [List.lookup_cons,e]; exact h)
  ·rename_i hk
   refine cf_has ?_
   rcases h with h | h
   ·rcases List.mem_cons.mp h with z | z
    ·exact absurd (by cases z; rfl) hk
    ·exact .inl z
   ·exact .inr h
theorem cf_new {x:Str} {m:Nat}:∀ {names:List (Str × NameKind)} {n:Nat} {acc:List (Str × Addr)},((x,NameKind.cell) ∈ names\/∀ c,acc.lookup x = some c->m<=c)->m<=n->∀ c,(cellsFrom n names acc).lookup x = some c->m<=c
 | [],_,_,h,_,c,e=>by
  rcases h with h | h
  ·simp at h
  ·exact h c e
 | (y,k) :: r,n,acc,h,hm,c,e=>by
  unfold cellsFrom at e
  split at e
  ·rename_i hk
   have hk:k = .cell:=by simpa using hk
   subst hk
   refine cf_new ?_ (Nat.le_succ_of_le hm) c e
   by_cases hx:x = y
   ·subst hx
    refine .inr fun c e=>?_
    rw [List.lookup_cons] at e
    simp at e
    exact e ▸ hm
   ·have e2:(x == y) = false:=by simpa using hx
    rcases h with h | h
    ·rcases List.mem_cons.mp h with z | z
     ·exact absurd (by cases z; rfl) hx
     ·exact .inl z
    ·exact .inr (by intro c e; rw [List.lookup_cons,e2] at e; exact h c e)
  ·rename_i hk
   refine cf_new ?_ hm c e
   rcases h with h | h
   ·rcases List.mem_cons.mp h with z | z
    ·exact absurd (by cases z; rfl) hk
    ·exact .inl z
   ·exact .inr h
theorem cf_inj:∀ {names:List (Str × NameKind)} {n:Nat} {acc:List (Str × Addr)},(∀ x c,acc.lookup x = some c->c < n)->(∀ x y c,acc.lookup x = some c->acc.lookup y = some c->x = y)->∀ x y c,(cellsFrom n names acc).lookup x = some c->(cellsFrom n names acc).lookup y = some c->x = y
 | [],_,_,_,h=>h
 | (z,k) :: r,n,acc,hb,h=>by
  unfold cellsFrom
  split
  ·refine cf_inj (fun x c e=>?_) fun x y c e1 e2=>?_
   ·rw [List.lookup_cons] at e
    cases hx:x == z with
    | true=>rw [hx] at e; cases e; exact Nat.lt_succ_self _
    | false=>rw [hx] at e; exact Nat.lt_succ_of_lt (hb x c e)
   ·rw [List.lookup_cons] at e1 e2
    cases hx:x == z with
    | true=>
     rw [hx] at e1; cases e1
     cases hy:y == z with
     | true=>rw [(by simpa using hx:x = z),(by simpa using hy:y = z)]
     | false=>rw [hy] at e2; exact absurd (hb y _ e2) (Nat.lt_irrefl _)
    | false=>
     rw [hx] at e1
     cases hy:y == z with
     | true=>rw [hy] at e2; cases e2; exact absurd (hb x _ e1) (Nat.lt_irrefl _)
     | false=>rw [hy] at e2; exact h x y c e1 e2
  ·exact cf_inj hb h
noncomputable def clN (cells:List (Str × Addr)) (names:List (Str × NameKind)) (C:Addr):List (Str × Addr):=cellsFrom (C + 1) names (clOf cells names [])
theorem clN_at {cells:List (Str × Addr)} {names:List (Str × NameKind)} {C:Addr} {x:Str} {c:Addr} (h:(clN cells names C).lookup x = some c):C + 1<=c\/cells.lookup x = some c:=by
 rcases cf_at h with h | h
 ·exact .inl h.2
 ·exact .inr (clOf_sub (fun _ _ z=>by cases z) x c h)
theorem wpAny_newEnvC {M:Model} {A:Around} {E:Value->Shared->Prop} {s:Shared} {scope:Scope} {globals:Addr} {cl:List (Str × Addr)} {qual:Str} {outer:Env} {Q:Env->Shared->Prop}
  (hQ:Q (newEnv scope s.heap.objs.size globals (cellsFrom (s.heap.objs.size + 1) scope.names cl) qual none .none (some outer) builtinsNs) { s with heap:=pushCells (s.heap.push { cls:=.type "dict",data:=.dict #[] }) scope.names }) :
  wpAny M A (newFunctionEnv scope globals cl [] qual none .none (some outer)) Q E s:=by
 simp only [newFunctionEnv,Option.isSome_some,if_true]
 refine wpAny_bind (wpAny_alloc ?_)
 refine wpAny_bind (wpAny_layCells _ (fun name kind cells=>by cases hkc:kind == NameKind.cell <;> simp [hkc]) _ _ _ _ ?_)
 rw [show ({ s with heap:=s.heap.push { cls:=.type "dict",data:=.dict #[] } }:Shared).heap.objs.size = s.heap.objs.size + 1 from Heap.size_push ..]
 rw [List.forIn_nil]
 exact wpAny_bind (wpAny_pure (wpAny_pure hQ))
noncomputable def compX (X:Cx) (N':List Str) (scope:Scope) (C:Addr) (s:Shared) (H:Hp) (ex:List Addr):Cx where
 prog:=X.prog
 w:=X.w
 K:=X.K
 mg:=X.mg
 base:=X.base
 A:=X.A
 N:=N'
 s₀:=s
 H₀:=H
 env:=compEnvC scope (clN X.env.cells scope.names C) C X.env
 outer:=X.stack
 stack:=X.stack
 ex:=ex
 fn:=fun x=>scope.names.lookup x == some .cell
 calm:=X.calm
 pn:=[]
 xe:=fun _ _=>False
theorem lookup_mem {α β:Type} [BEq α] [LawfulBEq α]:∀ {l:List (α × β)} {x:α} {y:β},l.lookup x = some y->(x,y) ∈ l
 | (a,b) :: r,x,y,h=>by
  rw [List.lookup_cons] at h
  cases e:x == a with
  | true=>
   rw [e] at h
   have:x = a:=by simpa using e
   subst this
   cases h
   exact List.mem_cons_self
  | false=>
   rw [e] at h
   exact List.mem_cons_of_mem _ (lookup_mem h)
theorem lookup_relabel {scope:Scope} {env:Env} {x:Str} (h:(relabel scope env).names.lookup x = some .cell\/(relabel scope env).names.lookup x = some .free):(x,NameKind.cell) ∈ scope.names\/(x,NameKind.free) ∈ scope.names:=by
 have key:∀ k,(k = NameKind.cell\/k = NameKind.free)->(x,k) ∈ (relabel scope env).names->(x,NameKind.cell) ∈ scope.names\/(x,NameKind.free) ∈ scope.names:=fun k hk hm=>by
  obtain ⟨⟨n,k'⟩,hy,e⟩:=List.mem_map.mp hm
  dsimp only at e
  split at e
  ·rename_i q
   have:k' = NameKind.free:=by
    simp only [Bool.and_eq_true,beq_iff_eq] at q
    exact q.1.1
   subst this
   cases e
   exact .inr hy
  ·cases e
   rcases hk with rfl | rfl
   ·exact .inl hy
   ·exact .inr hy
 rcases h with h | h
 ·exact key _ (.inl rfl) (lookup_mem h)
 ·exact key _ (.inr rfl) (lookup_mem h)
section
variable {X:Cx} {pins:List (Addr × Obj)} {σ:St} {H:Hp} {s:Shared}
theorem compX_ok (I:Inv X pins σ H s) {fp:List Addr} {N':List Str} {scope:Scope} {C:Addr} (hf:∀ b ∈ fp,FpOk X pins H b) (hfo:∀ b ∈ fp,b < s.heap.objs.size) (hkind:scope.kind = .function) (hC:s.heap.objs.size<=C)
  (hfree:∀ y ∈ scope.names,y.2 = .free->X.env.kindOf y.1 = some .cell\/X.env.kindOf y.1 = some .free):(compX X N' scope C s H fp).Ok where
 mod:=I.ok.mod
 kind:=hkind
 glob:=I.ok.glob
 blt:=I.ok.blt
 above:=hC
 inj:=cf_inj (fun x c h=>by
   obtain ⟨v,o,g,_⟩:=I.cell x c (clOf_sub (fun _ _ z=>by cases z) x c h)
   exact Nat.lt_succ_of_lt (Nat.lt_of_lt_of_le (Heap.lt_size g) hC)) fun x y c h1 h2=>I.ok.inj x y c (clOf_sub (fun _ _ z=>by cases z) x c h1) (clOf_sub (fun _ _ z=>by cases z) y c h2)
 has:=fun x hx=>by
  rcases lookup_relabel hx with m | m
  ·exact cf_has (.inl m)
  ·exact cf_has (.inr (clOf_has m (I.ok.has x (hfree _ m rfl))))
 cab:=fun x c h e=>by
  have h:scope.names.lookup x = some .cell:=by simpa [compX] using h
  exact Nat.le_trans hC (Nat.le_of_succ_le (cf_new (.inl (lookup_mem h)) (Nat.le_refl _) c e))
 hd:=I.ok.hd
 frames:=I.ok.frames
 stk:=.inl rfl
 exf:=fun b hb=>⟨Nat.ne_of_lt (Nat.lt_of_lt_of_le (hfo b hb) hC),fun x c h=>by
  rcases clN_at h with h | h
  ·exact Nat.ne_of_gt (Nat.lt_of_lt_of_le (Nat.lt_succ_of_lt (Nat.lt_of_lt_of_le (hfo b hb) hC)) h)
  ·exact (hf b hb).2.2.2.2.1 x c h⟩
 bs:=I.bs
 bsz:=Nat.le_trans I.ok.bsz I.sz
 noex:=fun b o e hb=>by
  obtain ⟨_,_,_,h,_⟩:=hf b hb
  rcases h with h | h
  ·exact I.ok.noex b o e h
  ·exact absurd (Nat.lt_of_lt_of_le (Heap.lt_size e) (Nat.le_trans I.ok.bsz h)) (Nat.lt_irrefl _)
 exfs:=fun b hb hz=>by
  obtain ⟨_,h1,h2,_⟩:=hf b hb
  rcases List.mem_cons.mp (I.stkSub b hz) with e | e
  ·exact h1 e
  ·exact h2 e
 funs:=I.stack
 frf:=I.stkFree
noncomputable def capSt (σ:St) (cap:List (Option Nat)):St:=cap.map fun o=>o.bind fun i=>(σ[i]?).join
structure CompOk (X:Cx) (N':List Str) (scope:Scope) (cap:List (Option Nat)):Prop where
 kind:scope.kind = .function
 cell:∀ y ∈ scope.names,y.2 = .cell->scope.names.lookup y.1 = some .cell
 names:∀ y ∈ scope.names,y.2 = .local->scope.names.lookup y.1 = some .local
 free:∀ y ∈ scope.names,y.2 = .free->X.env.kindOf y.1 = some .cell\/X.env.kindOf y.1 = some .free
 len:cap.length = N'.length
 cap:∀ (j i:Nat) (x:Str),N'[j]? = some x->cap[j]? = some (some i)->X.N[i]? = some x/\scope.names.lookup x = some .free/\(X.env.kindOf x = some .cell\/X.env.kindOf x = some .free)
theorem relabel_free {scope:Scope} {env:Env} {x:Str}:∀ {names:List (Str × NameKind)},names.lookup x = some .free->
  (names.map fun (n,k)=>if (k == NameKind.free && env.scope.kind == .function && env.kindOf n == some .cell) then (n,NameKind.cell) else (n,k)).lookup x = some .cell\/
  (names.map fun (n,k)=>if (k == NameKind.free && env.scope.kind == .function && env.kindOf n == some .cell) then (n,NameKind.cell) else (n,k)).lookup x = some .free
 | (n,k) :: r,h=>by
  have ih:=@relabel_free scope env x r
  show List.lookup x ((if (k == NameKind.free && env.scope.kind == .function && env.kindOf n == some .cell) = true then (n,NameKind.cell) else (n,k)) :: _) = _\/List.lookup x ((if (k == NameKind.free && env.scope.kind == .function && env.kindOf n == some .cell) = true then (n,NameKind.cell) else (n,k)) :: _) = _
  cases hx:x == n with
  | true=>
   simp only [List.lookup_cons,hx] at h
   cases h
   by_cases hc:(NameKind.free == NameKind.free && env.scope.kind == .function && env.kindOf n == some .cell) = true
   ·rw [if_pos hc]; left; simp only [List.lookup_cons,hx]
   ·rw [if_neg hc]; right; simp only [List.lookup_cons,hx]
  | false=>
   simp only [List.lookup_cons,hx] at h
   by_cases hc:(k == NameKind.free && env.scope.kind == .function && env.kindOf n == some .cell) = true
   ·rw [if_pos hc]; simp only [List.lookup_cons,hx]; exact ih h
   ·rw [if_neg hc]; simp only [List.lookup_cons,hx]; exact ih h
theorem inv_comp (I:Inv X pins σ H s) {fp:List Addr} {N':List Str} {scope:Scope} {cap:List (Option Nat)} {C D:Addr} {h₁:Heap} {tk n:Nat} {m:Str->Option Value} (O:CompOk X N' scope cap) (hf:∀ b ∈ fp,FpOk X pins H b) (hfo:∀ b ∈ fp,b < s.heap.objs.size)
  (hC:s.heap.objs.size<=C) (hD:s.heap.objs.size<=D) (hDC:D < C) (hcs:∀ x c,(cellsFrom (C + 1) scope.names []).lookup x = some c->h₁.IsCell c none) (hn:h₁.Ns C m) (old:∀ b o,s.heap.get? b = some o->h₁.get? b = some o)
  (new:h₁.get? D = some { cls:=.type "list",data:=.seq ([]:List Value).toArray n }) :
  Inv (compX X N' scope C s H fp) [] (capSt σ cap) (upd H D (.lst [])) { s with heap:=h₁,toks:=tk }:=by
 have sub:∀ x c,(clOf X.env.cells scope.names []).lookup x = some c->X.env.cells.lookup x = some c:=clOf_sub (fun _ _ z=>by cases z)
 have offc:∀ x,scope.names.lookup x = some .free->(clN X.env.cells scope.names C).lookup x = (clOf X.env.cells scope.names []).lookup x:=fun x h=>cf_off fun z=>by
  have:=O.cell _ z rfl
  rw [h] at this
  cases this
 refine ⟨compX_ok I hf hfo O.kind hC O.free,rfl,I.bare,Un.laid old hD (I.hok.fresh hD),⟨m,hn,fun j x v h1 h2 h3=>?_⟩,fun x c e=>?_,?_,fun x c e=>?_,fun p hp=>absurd hp (by simp [compX]),I.hok.laid old hD ⟨Nat.zero_le _,[],n,.nil,new⟩,?_⟩
 ·have h2':(capSt σ cap)[j]? = some (some v):=h2
  unfold capSt at h2'
  rw [List.getElem?_map] at h2'
  cases hc:cap[j]? with
  | none=>rw [hc] at h2'; cases h2'
  | some o=>
   rw [hc] at h2'
   cases o with
   | none=>cases h2'
   | some i=>
    have hv:(σ[i]?).join = some v:=by simpa using h2'
    have hv2:σ[i]? = some (some v):=by
     cases q:σ[i]? with
     | none=>rw [q] at hv; cases hv
     | some z=>rw [q] at hv; have:z = some v:=hv; rw [this]
    obtain ⟨c1,c2,c3⟩:=O.cap j i x h1 hc
    obtain ⟨mo,hno,hl⟩:=I.loc
    have vis:Vis X.env.scope x:=c3.elim (fun z=>.inr (.inl z)) fun z=>.inr (.inr z)
    obtain ⟨u,ru,l⟩:=hl i x v c1 hv2 vis
    refine ⟨u,ru,?_⟩
    rcases l with ⟨k,_⟩ | ⟨_,c,ec,ic⟩
    ·rcases c3 with z | z
     ·rw [z] at k; cases k
     ·rw [z] at k; cases k
    ·obtain ⟨c',ec'⟩:=clOf_has (cells:=X.env.cells) (acc:=[]) (lookup_mem c2) ⟨c,ec⟩
     have e2:=sub x c' ec'
     rw [ec] at e2
     cases e2
     obtain ⟨oc,hoc,hdc⟩:=ic
     exact .inr ⟨relabel_free (scope:=scope) c2,c,(offc x c2).trans ec',oc,old _ _ hoc,hdc⟩
 ·have e:(clN X.env.cells scope.names C).lookup x = some c:=e
  unfold clN at e
  rw [cellsFrom_app,List.lookup_append] at e
  cases q:(cellsFrom (C + 1) scope.names []).lookup x with
  | some c'=>
   rw [q] at e
   cases e
   exact ⟨none,hcs x _ q⟩
  | none=>
   rw [q] at e
   obtain ⟨v,oc,hoc,hdc⟩:=I.cell x c (sub x c e)
   exact ⟨v,oc,old _ _ hoc,hdc⟩
 ·rw [show (compX X N' scope C s H fp).env.locals = C from rfl,upd_ne (Ne.symm (Nat.ne_of_lt hDC))]
  exact I.hok.fresh hC
 ·rcases clN_at e with e' | e'
  ·rw [upd_ne (Nat.ne_of_gt (Nat.lt_trans hDC e'))]
   exact I.hok.fresh (Nat.le_trans hC (Nat.le_of_succ_le e'))
  ·obtain ⟨v,oc,hoc,hdc⟩:=I.cell x c e'
   rw [upd_ne (Nat.ne_of_lt (Nat.lt_of_lt_of_le (Heap.lt_size hoc) hD))]
   exact I.freeC x c e'
 ·show (capSt σ cap).length = N'.length
  unfold capSt
  rw [List.length_map,O.len]
theorem inv_back (I:Inv X pins σ H s) {fp:List Addr} {N':List Str} {scope:Scope} {C:Addr} {σ':St} {H':Hp} {s':Shared} {h':Heap} (hf:∀ b ∈ fp,FpOk X pins H b) (J:Inv (compX X N' scope C s H fp) [] σ' H' s') (hsb:Heap.SameBut C s'.heap h') :
  Inv X pins σ H' { s' with heap:=h' }:=by
 have hC:s.heap.objs.size<=C:=J.ok.above
 have neC:∀ b o,s.heap.get? b = some o->b ≠ C:=fun b o e=>Nat.ne_of_lt (Nat.lt_of_lt_of_le (Heap.lt_size e) hC)
 have U:Un (frs X.stack) fp H H' s.heap s'.heap:=J.base
 refine I.call' (s':={ s' with heap:=h' }) (ch:=fp) (J.os) ⟨fun b o e n h1 h2=>?_,fun b o e n h1 h2=>?_,U.free,fun b o e h2=>?_,U.tups,U.frzs,U.tbls⟩ (fun b o e=>?_) J.bare fun b hb=>?_
 ·exact (hsb.2 b (neC b o e)).trans (U.keep b o e n h1 h2)
 ·obtain ⟨sl,q⟩:=U.slot b o e n h1 h2
  exact ⟨sl,(hsb.2 b (neC b o e)).trans q⟩
 ·obtain ⟨o',q⟩:=U.there b o e h2
  exact ⟨o',(hsb.2 b (neC b o e)).trans q⟩
 ·have fr:H' C = none:=J.free
  refine (J.hok b o e).stay (fun c v hc q=>(hsb.2 c ?_).trans q) (fun _ q=>q) fun _ _ q=>q
  rintro rfl
  rcases hc with rfl | hc
  ·rw [fr] at e; cases e
  ·rw [fr] at hc; cases hc
 ·obtain ⟨h0,h1,h2,h3,h4,h5⟩:=hf b hb
  exact ⟨h3,h1,h4,h5⟩
theorem compLoop_any {prog:Program} {w:World} {A:Around} {R:Result->Shared->Prop} {s:Shared} {elt target iter:Expr} {ifs:List Expr} {scope:Scope} {pos:Pos} {it acc:Value} {env:Env} (I:Nat->Shared->Prop)
  (turn:∀ n s,I n s->wpAny (model prog w) A (pyNext it) (fun r s₁=>match r with
   | none=>R (.ok .next) s₁
   | some v=>wpAny (model prog w) A (letOwnedTupleGo target it v) (fun _ s₁'=>wpAny (model prog w) A (assign target env v) (fun _ s₂=>
     wpAny (model prog w) A (forIn ifs true fun c r=>if r = true then do let ok <- isTrue c env (eval c env); pure (ForInStep.yield ok) else pure (ForInStep.yield r)) (fun ok s₃=>
      if ok = true then wpAny (model prog w) A (eval elt env) (fun x s₄=>
       wpAny (model prog w) A (call (.builtin "list.append") [acc,x]) (fun _ s₅=>∃ m,m < n/\I m s₅) (fun _ _=>False) s₄) (fun _ _=>False) s₃
      else ∃ m,m < n/\I m s₃) (fun _ _=>False) s₂) (fun _ _=>False) s₁') (fun _ _=>False) s₁) (fun _ _=>False) s)
  (n:Nat) (h:I n s) :
  codeAny (model prog w) A (.compLoop (.ListComp elt [⟨target,iter,ifs,0⟩] scope pos) 0 it acc env) R s:=by
 refine codeAny_loop rfl I (fun n s hI=>?_) n h
 show wpAny _ A ((compTurn (.ListComp elt [⟨target,iter,ifs,0⟩] scope pos) 0 it acc env).onRaise (fun x=>do noteFrame x env; theTreesLotGoes x)) _ _ s
 refine wpAny_noted ?_
 rw [compTurn_list]
 refine wpAny_bind (wpAny_standAt (wpAny_bind (wpAny_mono (turn n s hI) (fun r s₁ h₁=>?_) fun _ _ h'=>h'.elim)))
 cases r with
 | none=>exact wpAny_pure h₁
 | some v=>
  refine wpAny_bind (wpAny_mono h₁ (fun _ s₁' h₁'=>?_) fun _ _ h'=>h'.elim)
  refine wpAny_bind (wpAny_mono h₁' (fun _ s₂ h₂=>wpAny_bind (wpAny_mono h₂ (fun ok s₃ h₃=>?_) fun _ _ h'=>h'.elim)) fun _ _ h'=>h'.elim)
  cases ok with
  | false=>exact wpAny_pure ⟨rfl,h₃⟩
  | true=>
   exact wpAny_bind (wpAny_bind (wpAny_mono h₃ (fun x s₄ h₄=>wpAny_bind (wpAny_mono h₄ (fun _ s₅ h₅=>wpAny_pure (wpAny_pure ⟨rfl,h₅⟩)) fun _ _ h'=>h'.elim)) fun _ _ h'=>h'.elim))
end
end L2
namespace L2
open PySem PySem.Spec PyProof.Rows
section
variable {X:Cx} {pins:List (Addr × Obj)} {σ:List (Option V)} {H:Hp} {s:Shared} {h':Heap}
theorem Inv.junk {C:Addr} (I:Inv X pins σ H s) (hs:Heap.SameBut C s.heap h') (h0:X.s₀.heap.objs.size<=C) (hL:X.env.locals ≠ C) (hc:∀ x c,X.env.cells.lookup x = some c->c ≠ C) (hp:∀ p ∈ X.pn ++ pins,p.1 ≠ C) (hH:H C = none):Inv X pins σ H { s with heap:=h' }:=by
 have ne:∀ b o,X.s₀.heap.get? b = some o->b ≠ C:=fun b o e=>Nat.ne_of_lt (Nat.lt_of_lt_of_le (Heap.lt_size e) h0)
 obtain ⟨m,hn,hl⟩:=id I.loc
 refine ⟨I.ok,I.os,I.bare,⟨fun b o e n hb hx=>?_,fun b o e n hb hx=>?_,I.base.free,fun b o e hx=>?_,I.base.tups,I.base.frzs,I.base.tbls⟩,⟨m,hn.sameBut hs hL,fun j y v' e1 e2 e3=>?_⟩,fun y c e=>?_,I.free,I.freeC,fun p hpp=>?_,fun b ob e=>?_,I.len⟩
 ·exact (hs.2 b (ne b o e)).trans (I.base.keep b o e n hb hx)
 ·obtain ⟨sl,e1⟩:=I.base.slot b o e n hb hx
  exact ⟨sl,(hs.2 b (ne b o e)).trans e1⟩
 ·obtain ⟨o',e1⟩:=I.base.there b o e hx
  exact ⟨o',(hs.2 b (ne b o e)).trans e1⟩
 ·obtain ⟨u',r',q⟩:=hl j y v' e1 e2 e3
  refine ⟨u',r',?_⟩
  rcases q with ⟨k,e⟩ | ⟨k,c,e,z⟩
  ·exact .inl ⟨k,e⟩
  ·refine .inr ⟨k,c,e,?_⟩
   obtain ⟨o,g,d⟩:=z
   exact ⟨o,(hs.2 c (hc y c e)).trans g,d⟩
 ·obtain ⟨v,o,g,d⟩:=I.cell y c e
  exact ⟨v,o,(hs.2 c (hc y c e)).trans g,d⟩
 ·obtain ⟨g,r⟩:=I.pin p hpp
  exact ⟨(hs.2 _ (hp p hpp)).trans g,r⟩
 ·refine (I.hok b ob e).stay (fun c w' hcc q=>(hs.2 c ?_).trans q) (fun _ q=>q) fun _ _ q=>q
  rintro rfl
  rcases hcc with rfl | hcc
  ·rw [hH] at e; cases e
  ·rw [hH] at hcc; cases hcc
noncomputable def tRev (te tst:TE):TE:=fun σ H Q=>te σ H fun x H1=>tst σ H1 fun y H2=>∃ a xs,x = .ref a/\y = .int (-1)/\SqL X.K H2 a xs/\∀ p,H2 p = none->Q (.ref p) (upd H2 p (.lst xs.reverse))
theorem pe_rev {e st:Expr} {te tst:TE} {p2 pos:Pos} (he:PE X e te) (hst:PE X st tst):PE X (.Subscript e (.Slice none none (some st) p2) pos) (tRev (X:=X) te tst):=by
 intro pins s σ H Q I h
 refine Subscript_ (thn (he pins s σ H _ I h) fun v s1 ⟨x,H1,I1,r1,q1⟩=>?_)
 refine wpAny_Slice ?_
 rw [evalPart_none]
 refine wpAny_pure (wpAny_pure ?_)
 refine thn (hst pins s1 σ H1 _ I1 q1) fun vst s3 ⟨y,H3,I3,r3,q3⟩=>?_
 obtain ⟨a,xs,rfl,rfl,hx,q⟩:=q3
 obtain ⟨t,rfl⟩:=r3
 cases r1
 have I4:Inv X pins σ H3 { s3 with heap:=s3.heap.push { cls:=.type "slice",data:=.fields #[.none,.none,.int (-1) t] } }:=I3.kept (t':=s3.toks) fun b ob q=>Heap.get?_push_of_some _ q
 obtain ⟨its,r,ht,hz⟩:=I4.list hx
 show wpAny (model X.prog X.w) X.A (subscriptTail e (.Slice none none (some st) p2) (.ref a) (.ref s3.heap.objs.size)) (EP X pins σ Q) X.xe { s3 with heap:=s3.heap.push { cls:=.type "slice",data:=.fields #[.none,.none,.int (-1) t] } }
 refine tail_any (ops:=[.ref a,.ref s3.heap.objs.size]) ht.isList.typeIs slot_list_getitem.lookup ?_ (by with_unfolding_all rfl)
 refine wpAny_getItem_list_slice ht.isList (Heap.IsSliceOf.new ..) .none .none (.int _ _) (by simp) ?_ (by rw [List.size_toArray,<- r.length]; exact hz)
 rw [PySem.W.krv_pick]
 refine ⟨.ref _,_,I4.laid (t':=s3.toks) (o:=.lst xs.reverse) (fun b ob q=>Heap.get?_push_of_some _ q) (Nat.le_refl _) ?_,rfl,q _ (I4.hok.fresh (Nat.le_refl _))⟩
 exact ⟨by rw [List.length_reverse]; exact hz,_,0,r.reverse,Heap.get?_push_size _ rfl⟩
noncomputable def gLst (K:PySem.W.Frag) (n:Nat) (t:TGs):TG:=fun v σ H Q=>∃ a xs,v = .ref a/\SqL K H a xs/\xs.length = n/\t xs σ H Q
theorem pg_lst {es:List Expr} {k:Nat} {t:TGs} {n:Nat} {pos:Pos} (hc:X.calm = true) (h:PGs X es t)
  (hn:(assignEach es X.env).length = n) (hst:(assignEach es X.env).findIdx? (·.1) = none):PG X (.Tuple es k pos) (gLst X.K n t):=by
 intro pins s σ H v u Q I r hw
 obtain ⟨a,xs,e1,hq,hl,hw⟩:=hw
 subst e1
 cases r
 obtain ⟨its,rv,ht,hz⟩:=I.list hq
 rw [assign_Tuple]
 refine wpAny_bind (wpAny_standAt ?_)
 unfold unpack
 rw [hst,show (assignEach es X.env).length = its.toArray.size by rw [hn,<- hl,rv.length,List.size_toArray]]
 refine wpAny_bind (wpAny_holding (PySem.W.kun_itemsOf (I.ok.hd hc) ht.isList fun h' hx=>?_))
 have I1:Inv X pins σ H { s with heap:=h' }:=I.kept (t':=s.toks) fun b o e=>hx b o (Nat.ne_of_lt (Heap.lt_size e)) e
 exact h pins _ σ H xs _ Q I1 (by simpa using rv) hw
theorem preSum_take (ns:List Int):∀ j,j<=ns.length->PySem.preSum (fun i=>(ns[i]?).getD 0) j = (ns.take j).sum
 | 0,_=>by simp [PySem.preSum]
 | j + 1,h=>by
  have ih:=preSum_take ns j (by omega)
  show PySem.preSum (fun i=>(ns[i]?).getD 0) j + (ns[j]?).getD 0 = _
  have e:ns.take (j + 1) = ns.take j ++ [ns[j]]:=by rw [List.take_add_one,List.getElem?_eq_getElem (by omega)]; rfl
  rw [ih,e,List.sum_append,List.getElem?_eq_getElem (by omega)]
  simp
theorem call_sum_list (hc:X.calm = true):CallR X (.builtin "sum") (fun xs H Q=>∃ (p:Addr) (ns:List Int),xs = [.ref p]/\SqL X.K H p (ns.map V.int)/\Q (.int ns.sum) H):=by
 intro pins s σ H xs us Q I r h
 obtain ⟨p,ns,rfl,hq,q⟩:=h
 obtain ⟨u,rfl,rx⟩:=vals1 r
 cases rx
 obtain ⟨its,rv,pl,hz⟩:=I.list hq
 have hlen:=rv.length
 have hh:X.A.in1.handled = none:=I.ok.hd hc
 have hnz:p ≠ s.heap.objs.size:=by
  obtain ⟨o,n,e,_⟩:=pl
  exact Nat.ne_of_lt (Heap.lt_size e)
 refine PySem.call_sum_walkAnyS (wpAny_pyIter_list pl.isList ?_)
 have hp:(s.heap.push { cls:=.type "list_iterator",data:=.fields #[.ref p,.int 0 0] }).IsList p its.toArray:=by
  obtain ⟨o,e,r⟩:=pl.isList
  exact ⟨o,Heap.get?_push_of_some _ e,r⟩
 refine ⟨s.heap.objs.size,_,_,_,_,_,_,fun i=>(ns[i]?).getD 0,rfl,(Walks.list hh s.heap.objs.size p hnz its.toArray).toS,⟨⟨_,Heap.get?_push_size _ rfl,rfl,rfl⟩,hp⟩,fun b hb=>?_,fun i v hP=>?_,fun s' t' mv=>?_⟩
 ·show b < (s.heap.push _).objs.size
  rw [Heap.size_push]
  rcases List.mem_cons.mp hb with rfl | hb
  ·exact Nat.lt_succ_self _
  ·rw [List.mem_singleton.mp hb]
   obtain ⟨o,n,e,_⟩:=pl
   exact Nat.lt_succ_of_lt (Heap.lt_size e)
 ·have hP':its[i]? = some v:=by simpa using hP
  cases hb:ns[i]? with
  | none=>
   have h1:(ns.map V.int)[i]? = none:=by rw [List.getElem?_map,hb]; rfl
   rw [rv.none_of h1] at hP'
   cases hP'
  | some b=>
   have h1:(ns.map V.int)[i]? = some (.int b):=by rw [List.getElem?_map,hb]; rfl
   obtain ⟨u,e1,e2⟩:=rv.get h1
   rw [hP'] at e1
   cases e1
   obtain ⟨t,rfl⟩:=e2
   refine ⟨t,?_⟩
   simp only [hb,Option.getD_some]
 ·obtain ⟨h',g',d',t2,o'⟩:=s'
  obtain ⟨m1,m2,m3,m4,m5⟩:=mv
  have m2':g' = s.gens:=m2
  have m3':d' = s.drawn:=m3
  have m4':o' = s.os:=m4
  subst m2' m3' m4'
  have hl:its.toArray.size = ns.length:=by rw [List.size_toArray,<- hlen,List.length_map]
  have e:PySem.preSum (fun i=>(ns[i]?).getD 0) its.toArray.size = ns.sum:=by
   rw [hl,preSum_take ns _ (Nat.le_refl _),List.take_length]
  rw [e]
  refine ⟨.int ns.sum,H,I.kept (h':=h') (t':=t2) fun b o eb=>m1 b o (fun z=>?_) (Heap.get?_push_of_some _ eb),⟨t',rfl⟩,q⟩
  have:=Heap.lt_size eb
  rw [List.mem_singleton.mp z] at this
  exact Nat.lt_irrefl _ this
end
end L2
namespace G
open PySem PySem.Spec PyProof.Rows L2
inductive D where
 | non | bl (b:Bool) | int (i:Int) | str (x:Str) | lst (xs:List D) | tup (xs:List D) | scr (ns:List Int) | dic (ks:List Key) (vs:List D)
noncomputable def KnL (K:PySem.W.Frag) (a:Addr) (xs:List V):Prop:=
 ∃ (o:Obj) (its:Array Value) (n:Nat),K.lookup a = some o/\o.cls = .type "list"/\o.dict = none/\o.data = .seq its n/\its.size<=sizeLine/\Vals xs its.toList
mutual
noncomputable def Rp (K:PySem.W.Frag) (H:Hp) (S:List Addr):D->V->Prop
 | .non,v=>v = .non
 | .bl b,v=>v = .bl b
 | .int i,v=>v = .int i
 | .str x,v=>v = .str x
 | .lst ds,v=>∃ a xs,v = .ref a/\a ∉ S/\H a = some (.lst xs)/\RpL K H S ds xs
 | .tup ds,v=>∃ a xs,v = .ref a/\a ∉ S/\H a = some (.tup xs)/\RpL K H S ds xs
 | .scr ns,v=>∃ a,v = .ref a/\((a ∉ S/\Rd H a (.lst (ns.map V.int)))\/KnL K a (ns.map V.int))
 | .dic ks vs,v=>∃ a kvs,v = .ref a/\a ∉ S/\H a = some (.dK kvs)/\kvs.map (·.1) = ks/\RpL K H S vs (kvs.map (·.2))
noncomputable def RpL (K:PySem.W.Frag) (H:Hp) (S:List Addr):List D->List V->Prop
 | [],xs=>xs = []
 | d :: ds,xs=>∃ y ys,xs = y :: ys/\Rp K H S d y/\RpL K H S ds ys
end
section
variable {K:PySem.W.Frag} {H H':Hp} {S S':List Addr}
end
inductive Kd where
 | sh | fr | bo
 deriving DecidableEq
noncomputable def VR (K:PySem.W.Frag) (H0 H:Hp) (S:List Addr):Kd->D->V->Prop
 | .sh,d,v=>Rp K H S d v
 | .fr,.lst ds,v=>∃ a xs,v = .ref a/\H0 a = none/\H a = some (.lst xs)/\RpL K H (a :: S) ds xs
 | .bo,.lst ds,v=>∃ a xs,v = .ref a/\H a = some (.lst xs)/\RpL K H S ds xs
 | _,_,_=>False
section
variable {K:PySem.W.Frag} {H0 H H':Hp} {S:List Addr}
end
end G
namespace G
open PySem PySem.Spec PyProof.Rows L2
section
variable {X:Cx}
section
variable {pins:List (Addr × Obj)} {s:Shared} {σ:L2.St} {H:Hp}
end
end
noncomputable def Ite (K:PySem.W.Frag) (a:Addr):It:=
 ⟨fun i H=>∃ xs x,SqL K H a xs/\xs[i]? = some x,fun i H x H'=>∃ p v,H p = none/\H' = upd H p (.tup [.int i,v])/\x = .ref p/\∀ xs,SqL K H a xs->xs[i]? = some v,fun i H=>∃ xs,SqL K H a xs/\xs.length<=i⟩
theorem turn_enum {P:Program} {w:World} {K:PySem.W.Frag} {es:List Expr} {kk:Nat} {tp:Pos} (a e it:Addr) (hne:e ≠ it):Turn P w K (.Tuple es kk tp) (Ite K a) [e,it] e (fun i h=>(∃ old,IsEnum h e it ((i:Nat):Int) old)/\h.IsListIter it a i) where
 mem:=by simp
 obj:=fun i h st b hb=>by
  obtain ⟨⟨old,h1⟩,o,h2,h3,h4⟩:=st
  rcases List.mem_cons.mp hb with rfl | hb
  ·exact ⟨_,h1,fun v z=>by
    have z':Data.fields _ = Data.cell v:=z
    cases z'⟩
  ·have:b = it:=by simpa using hb
   subst this
   exact ⟨o,h2,fun v z=>by rw [h4] at z; cases z⟩
 keep:=fun i h h' st k=>by
  obtain ⟨⟨old,h1⟩,h2⟩:=st
  exact ⟨⟨old,k e (by simp) _ h1⟩,h2.at fun o q=>k it (by simp) o q⟩
 item:=by
  intro X hP hw hK hc i pins s σ H E I hf st hg
  subst hP hw hK
  obtain ⟨⟨old,he⟩,hit⟩:=st
  obtain ⟨xs,x,hq,hx⟩:=hg
  obtain ⟨its,rv,p,hz⟩:=I.list hq
  obtain ⟨u,hu,ru⟩:=rv.get hx
  obtain ⟨f0,f1,f2,f3,f4,f5⟩:=hf e (by simp)
  obtain ⟨g0,g1,g2,g3,g4,g5⟩:=hf it (by simp)
  have hes:=Heap.lt_size he
  refine wpAny_pyNext_enum_item he hit p.isList (x:=u) (by simpa using hu) hne fun h1 ho hit1 ht hs1 kk1=>?_
  refine ⟨_,rfl,wpAny_letOwnedTupleGo_enum ho fun h2 he2 sb2=>?_⟩
  have sb2':Heap.SameBut e h1 h2:=sb2
  have step1:∀ b o,b ≠ e->b ≠ it->s.heap.get? b = some o->h2.get? b = some o:=fun b o n1 n2 q=>(sb2'.2 b n1).trans (kk1 b o n1 n2 q)
  have fr:=I.hok.fresh (Nat.le_refl s.heap.objs.size)
  have htup:h2.get? s.heap.objs.size = some { cls:=.type "tuple",data:=.seq #[.int i s.toks,u] }:=(sb2'.2 _ (Nat.ne_of_gt hes)).trans ht
  have I1:Inv X pins σ (upd H s.heap.objs.size (.tup [.int i,x])) { s with heap:=h2,toks:=s.toks + 1 }:=by
   have nit:∀ b o,H b = some o->b ≠ e/\b ≠ it:=fun b o q=>⟨(fun z=>by rw [z,f0] at q; cases q),(fun z=>by rw [z,g0] at q; cases q)⟩
   have hok':HOk X.prog X.w (upd H s.heap.objs.size (.tup [.int i,x])) h2:=fun b o q=>by
    by_cases hb:b = s.heap.objs.size
    ·subst hb
     rw [upd_same] at q
     cases q
     exact ⟨(by show 2<=sizeLine; decide),[.int i s.toks,u],.cons ⟨_,rfl⟩ (.cons ru .nil),_,htup,rfl,_,rfl⟩
    ·rw [upd_ne hb] at q
     refine (I.hok b o q).stay (fun c v hc' q'=>step1 c v ?_ ?_ q') (fun c q'=>by rw [upd_ne (ne_of_none q' fr)]; exact q') fun c ys q'=>by rw [upd_ne (ne_of_none q' fr)]; exact q'
     ·rcases hc' with rfl | hc'
      ·exact (nit _ _ q).1
      ·exact (nit _ _ hc').1
     ·rcases hc' with rfl | hc'
      ·exact (nit _ _ q).2
      ·exact (nit _ _ hc').2
   refine I.step (g':=s.gens) (d':=s.drawn) (t':=s.toks + 1) (ch:=[e,it]) (fun b hb=>?_) (fun b o _ _ hcx q _=>step1 b o (fun z=>hcx (by simp [z])) (fun z=>hcx (by simp [z])) q)
    (fun b o _ _ hcx q _=>⟨o.slots,step1 b o (fun z=>hcx (by simp [z])) (fun z=>hcx (by simp [z])) q⟩) (fun b o hcx q n=>by rw [upd_ne (Nat.ne_of_lt (Heap.lt_size q))]; exact n)
    (fun b o hcx q=>⟨o,step1 b o (fun z=>hcx (by simp [z])) (fun z=>hcx (by simp [z])) q⟩) (fun b ys q=>by rw [upd_ne (ne_of_none q fr)]; exact q) (fun b o z q=>by rw [upd_ne (ne_of_none q fr)]; exact q)
    (fun b ps q=>⟨#[],by rw [upd_ne (ne_of_none q fr),q]; simp⟩) (fun m hm=>?_) hok' I.bare
   ·rcases List.mem_cons.mp hb with rfl | hb
    ·exact ⟨f3,f1,f4,f5⟩
    ·have:b = it:=by simpa using hb
     subst this
     exact ⟨g3,g1,g4,g5⟩
   ·obtain ⟨o,es',ep,ho',r'⟩:=hm
    exact ⟨o,es',ep,step1 _ o (Ne.symm f1) (Ne.symm g1) ho',r'⟩
  refine ⟨.ref s.heap.objs.size,_,I1,rfl,⟨s.heap.objs.size,x,fr,rfl,rfl,fun ys hy=>by rw [I.list_inj hy hq]; exact hx⟩,⟨⟨u,by
    have:(((i + 1:Nat):Int)) = (i:Int) + 1:=by omega
    rw [this]; exact he2⟩,hit1.extBut sb2'.extBut (Ne.symm hne)⟩,fun b hb=>?_⟩
  have hb0:=(hf b hb).1
  have hlt:b < s.heap.objs.size:=by
   rcases List.mem_cons.mp hb with rfl | hb
   ·exact hes
   ·have:b = it:=by simpa using hb
    subst this
    obtain ⟨o,q,_⟩:=hit
    exact Heap.lt_size q
  rw [upd_ne (Nat.ne_of_lt hlt)]
  exact hb0
 done:=by
  intro X hP hw hK hc i pins s σ H E I hf st hg
  subst hP hw hK
  obtain ⟨⟨old,he⟩,hit⟩:=st
  obtain ⟨xs,hq,hx⟩:=hg
  obtain ⟨its,rv,p,hz⟩:=I.list hq
  obtain ⟨f0,f1,f2,f3,f4,f5⟩:=hf it (by simp)
  have hl:=rv.length
  exact wpAny_pyNext_enum_end (I.ok.hd hc) he hit p.isList (by simp; omega) fun h' eb=>⟨rfl,I.turned (t':=s.toks) (fun b o hb q=>eb b o hb q) f0 f1 f3 f4 f5⟩
 self:=fun _ _ _ _ _ st h=>let ⟨_,q⟩:=st.1; wpAny_pyIter_enum q h
section
variable {X:Cx}
noncomputable def iEnum (K:PySem.W.Frag) (ta:TA):TI:=fun σ H R=>ta σ H fun vs H1=>∃ a,vs = [.ref a]/\(∃ xs,SqL K H1 a xs)/\R (Ite K a) H1
theorem pi_enum {a:Expr} {ta:TA} {p pos:Pos} {es:List Expr} {kk:Nat} {tp:Pos} (hg:Gl X "enumerate") (hm:X.mg "enumerate" = none) (ha:PA X [a] ta) (hs:starEach [a] X.env = [(false,eval a X.env)]) :
  PI X (.Tuple es kk tp) (.Call (.Name "enumerate" p) [a] [] pos) (iEnum X.K ta):=by
 intro pins s σ H R I h
 refine Call_ (ld_blt I hg hm boot_enumerate (PyProof.Rows.callWith_type1 (thn (ha pos pins s σ H _ I h) fun us s1 ⟨vs,H1,I1,r1,q1⟩=>?_) hs rfl))
 obtain ⟨l,e,⟨xs,hq⟩,q⟩:=q1
 subst e
 obtain ⟨u,rfl,rx⟩:=vals1 r1
 cases rx
 obtain ⟨its,rv,pl,hz⟩:=I1.list hq
 refine call_enumerate_list pl.isList fun h' he hit hsz hk=>?_
 refine wpAny_pyIter_enum (s:={ s1 with heap:=h' }) he ?_
 have I2:Inv X pins σ H1 { s1 with heap:=h' }:=I1.kept (t':=s1.toks) hk
 refine ⟨s1.heap.objs.size + 1,[s1.heap.objs.size + 1,s1.heap.objs.size],_,_,H1,rfl,I2,turn_enum l _ _ (Nat.ne_of_gt (Nat.lt_succ_self _)),⟨⟨_,he⟩,hit⟩,fun b hb=>?_,q⟩
 have hb':s1.heap.objs.size<=b:=by
  rcases List.mem_cons.mp hb with rfl | hb
  ·exact Nat.le_succ _
  ·have:b = s1.heap.objs.size:=by simpa using hb
   rw [this]; exact Nat.le_refl _
 exact I1.fpOk hb' (I1.hok.fresh hb')
end
end G
namespace G
open PySem PySem.Spec PyProof.Rows L2
section
variable {X:Cx}
end
end G
namespace G
open PySem PySem.Spec PyProof.Rows L2
section
variable {X:Cx}
end
end G
namespace G
open PySem PySem.Spec PyProof.Rows L2
end G
namespace G
open PySem PySem.Spec PyProof.Rows L2
section
variable {X:Cx}
end
end G
namespace G
open PySem PySem.Spec PyProof.Rows L2
section
variable {X:Cx}
end
end G
namespace L2
open PySem PySem.Spec PyProof.Rows
section
variable {X:Cx} {pins:List (Addr × Obj)} {σ:St} {H:Hp} {s:Shared}
noncomputable def tCompF (wi:TI) (g:TG) (tt:TT) (te:TE) (cap:List (Option Nat)):TE:=fun σ H Q=>wi σ H fun J H1=>∀ D,H1 D = none->∃ W:Nat->Nat->St->Hp->Prop,(∃ m,W 0 m (capSt σ cap) (upd H1 D (.lst [])))/\∀ i m σ' H',W i m σ' H'->
 (J.stop i H'/\Q (.ref D) H')\/(J.go i H'/\∀ x H2,J.yld i H' x H2->g x σ' H2 fun σ2 H3=>tt σ2 H3 fun ok H3=>if ok = true then te σ2 H3 fun y H4=>∃ ys,H4 D = some (.lst ys)/\ys.length < sizeLine/\∃ m',m' < m/\W (i + 1) m' σ2 (upd H4 D (.lst (ys ++ [y]))) else ∃ m',m' < m/\W (i + 1) m' σ2 H3)
noncomputable def PTs (X:Cx) (ifs:List Expr) (tt:TT):Prop:=∀ (pins:List (Addr × Obj)) (s:Shared) (σ:St) (H:Hp) (Q:Bool->Hp->Prop),Inv X pins σ H s->tt σ H Q->
 wpAny (model X.prog X.w) X.A (forIn ifs true fun c r=>if r = true then do let ok <- isTrue c X.env (eval c X.env); pure (ForInStep.yield ok) else pure (ForInStep.yield r)) (TP X pins σ Q) X.xe s
theorem pts_nil {X:Cx}:PTs X [] (fun _ H Q=>Q true H):=fun pins s σ H Q I h=>wpAny_tests_nil ⟨H,I,h⟩
theorem pts_one {X:Cx} {c:Expr} {t:TT} (h:PT X c t):PTs X [c] t:=fun pins s σ H Q I q=>wpAny_tests_one (h pins s σ H Q I q)
theorem compF_run {ifs:List Expr} {tt:TT} {tg elt iter:Expr} {scope:Scope} {pos cpos:Pos} {N':List Str} {cap:List (Option Nat)} {wi:TI} {g:TG} {te:TE} {use:Option (Value->Sem Unit)} {E:Value->Shared->Prop} {Q':Value->Shared->Prop} (hc:X.calm = true) (O:CompOk X N' scope cap)
  (hi:PI X tg iter wi) (hg:∀ C s H ex,PG (compX X N' scope C s H ex) tg g) (ht:∀ C s H ex,PTs (compX X N' scope C s H ex) ifs tt) (he:∀ C s H ex,PE (compX X N' scope C s H ex) elt te) {Q:VK} (I:Inv X pins σ H s) (h:tCompF wi g tt te cap σ H Q)
  (hs:∀ x,foldedSetIterable iter X.env x = pure x) (hX:X.xe = E)
  (hQ:∀ (C D:Addr) (s1:Shared) (H1:Hp) (fp:List Addr) (σ':St) (H':Hp) (s':Shared),Inv X pins σ H1 s1->(∀ b ∈ fp,FpOk X pins H1 b)->Inv (compX X N' scope C s1 H1 fp) [] σ' H' s'->Q (.ref D) H'->
   compPost (model X.prog X.w) X.A E use Q' (.ref D) C (.ok .next) s') :
  wpAny (model X.prog X.w) X.A (comprehension (.ListComp elt [⟨tg,iter,ifs,0⟩] scope pos) scope X.env cpos (newList []) false (eval iter X.env) use) Q' E s:=by
 have hcl:closureFor scope X.env = pure (clOf X.env.cells scope.names []):=closureFor_is fun y hy e=>I.ok.has _ (O.free y hy e)
 refine wpAny_comprehension_free (g:=⟨tg,iter,ifs,0⟩) (gs:=[]) rfl hs hcl O.kind O.names ?_
 subst hX
 refine thn (hi pins s σ H _ I h) fun v s1 h1=>thn h1 fun itv s2 h2=>?_
 obtain ⟨it,fp,tn,J,H2,e,I2,T,st2,f2,hW⟩:=h2
 subst e
 refine wpAny_newObj_type (wpAny_newEnvC ?_)
 dsimp only
 generalize hH2:s2.heap.push { cls:=.type "list",dict:=none,data:=.seq ([]:List Value).toArray } = HH
 have hCs:HH.objs.size = s2.heap.objs.size + 1:=by rw [<- hH2,Heap.size_push]
 have hDC:s2.heap.objs.size < HH.objs.size:=by rw [hCs]; exact Nat.lt_succ_self _
 generalize hh1:pushCells (HH.push { cls:=.type "dict",data:=.dict #[] }) scope.names = h₁
 have kp:∀ b o,HH.get? b = some o->h₁.get? b = some o:=fun b o e=>hh1 ▸ pushCells_keeps _ _ b o (Heap.get?_push_of_some _ e)
 have hns₁:h₁.Ns HH.objs.size fun _=>none:=hh1 ▸ (Heap.Ns.new HH (.type "dict")).keeps (pushCells_keeps _ _)
 have hcs:∀ x c,(cellsFrom (HH.objs.size + 1) scope.names []).lookup x = some c->h₁.IsCell c none:=fun x c e=>by
  have ok:=cellsFrom_ok scope.names (HH.push { cls:=.type "dict",data:=.dict #[] }) 0 [] ⟨fun _ _ hm=>(nomatch hm),List.Pairwise.nil⟩ (Nat.zero_le _)
  rw [Heap.size_push] at ok
  exact hh1 ▸ (ok.empty x c (lookup_mem e)).1
 have old:∀ b o,s2.heap.get? b = some o->h₁.get? b = some o:=fun b o e=>kp b o (hH2 ▸ Heap.get?_push_of_some _ e)
 have new:h₁.get? s2.heap.objs.size = some { cls:=.type "list",data:=.seq ([]:List Value).toArray }:=kp _ _ (hH2 ▸ Heap.get?_push_size _ rfl)
 have hfo:∀ b ∈ fp,b < s2.heap.objs.size:=fun b hb=>let ⟨o,e,_⟩:=T.obj 0 _ st2 b hb; Heap.lt_size e
 have hfree:=I2.hok.fresh (Nat.le_refl s2.heap.objs.size)
 obtain ⟨W,⟨m0,w0⟩,turn⟩:=hW s2.heap.objs.size hfree
 have J0:=inv_comp (tk:=s2.toks) I2 O f2 hfo (C:=HH.objs.size) (D:=s2.heap.objs.size) (by rw [hCs]; exact Nat.le_succ _) (Nat.le_refl _) hDC hcs hns₁ old new
 have st0:tn 0 h₁:=T.keep 0 _ _ st2 fun b _ o e=>old b o e
 have fr0:∀ b ∈ fp,(upd H2 s2.heap.objs.size (.lst [])) b = none:=fun b hb=>by
  rw [upd_ne (Nat.ne_of_lt (hfo b hb))]
  exact (f2 b hb).1
 have stat:∀ {H':Hp},(∀ b ∈ fp,H' b = none)->∀ b ∈ fp,FpOk (compX X N' scope HH.objs.size s2 H2 fp) [] H' b:=fun hn b hb=>
  ⟨hn b hb,(J0.ok.exf b hb).1,J0.ok.exfs b hb,.inl hb,(J0.ok.exf b hb).2,fun p hp=>absurd hp (by simp [compX])⟩
 have loop:codeAny (model X.prog X.w) X.A (.compLoop (.ListComp elt [⟨tg,iter,ifs,0⟩] scope pos) 0 (.ref it) (.ref s2.heap.objs.size) (compEnvC scope (clN X.env.cells scope.names HH.objs.size) HH.objs.size X.env))
   (compPost (model X.prog X.w) X.A X.xe use Q' (.ref s2.heap.objs.size) HH.objs.size) { s2 with heap:=h₁,toks:=s2.toks }:=by
  refine compLoop_any (fun n s'=>∃ i σ' H',Inv (compX X N' scope HH.objs.size s2 H2 fp) [] σ' H' s'/\tn i s'.heap/\(∀ b ∈ fp,H' b = none)/\W i n σ' H') ?_ m0 ⟨0,_,_,J0,st0,fr0,w0⟩
  rintro n s3 ⟨i,σ3,H3,I3,st3,fr3,w3⟩
  rcases turn i n σ3 H3 w3 with ⟨stop,qn⟩ | ⟨go,step⟩
  ·refine thn (T.done (compX X N' scope HH.objs.size s2 H2 fp) rfl rfl rfl hc i [] s3 σ3 H3 _ I3 (stat fr3) st3 stop) fun r s4 ⟨hr,I4⟩=>?_
   subst hr
   exact hQ _ _ s2 H2 fp σ3 H3 s4 I2 f2 I4 qn
  ·refine thn (T.item (compX X N' scope HH.objs.size s2 H2 fp) rfl rfl rfl hc i [] s3 σ3 H3 _ I3 (stat fr3) st3 go) fun r s4 ⟨u,hr,h4⟩=>?_
   subst hr
   refine thn h4 fun _ s5 ⟨x,H5,I5,r5,y5,st5,fr5⟩=>?_
   have I5':=I5.pinned (stat fr5) (T.obj _ _ st5)
   refine thn (hg _ _ _ _ _ s5 σ3 H5 x u _ I5' r5 (step x H5 y5)) fun _ s6 ⟨σ6,H6,I6,q6⟩=>?_
   refine thn (ht _ _ _ _ _ s6 σ6 H6 _ I6 q6) fun ok s6' ⟨H6',I6',q6'⟩=>?_
   cases ok with
   | false=>
    rw [if_neg Bool.false_ne_true] at q6' ⊢
    obtain ⟨m',hm,w7⟩:=q6'
    refine ⟨m',hm,i + 1,σ6,_,I6'.unpinned,T.keep _ _ _ st5 fun b hb o e=>(I6'.pin (b,o) (List.mem_append_right _ (List.mem_append_right _ (mem_pinsAt hb e)))).1,fun b hb=>?_,w7⟩
    obtain ⟨o,e,d⟩:=T.obj _ _ st5 b hb
    exact (I6'.pin (b,o) (List.mem_append_right _ (List.mem_append_right _ (mem_pinsAt hb e)))).2.1
   | true=>
   rw [if_pos rfl] at q6' ⊢
   refine thn (he _ _ _ _ _ s6' σ6 H6' _ I6' q6') fun yv s7 ⟨y,H7,I7,r7,ys,hD,hz,m',hm,w7⟩=>?_
   refine thn (mt_append _ s7 σ6 H7 (.ref s2.heap.objs.size) [y] (.ref s2.heap.objs.size) [yv] (fun v H'=>v = .non/\H' = upd H7 s2.heap.objs.size (.lst (ys ++ [y]))) I7 rfl (.cons r7 .nil) ⟨_,ys,y,rfl,rfl,hD,hz,rfl,rfl⟩) fun _ s8 ⟨_,H8,I8,_,_,e8⟩=>?_
   subst e8
   refine ⟨m',hm,i + 1,σ6,_,I8.unpinned,T.keep _ _ _ st5 fun b hb o e=>(I8.pin (b,o) (List.mem_append_right _ (List.mem_append_right _ (mem_pinsAt hb e)))).1,fun b hb=>?_,w7⟩
   obtain ⟨o,e,d⟩:=T.obj _ _ st5 b hb
   exact (I8.pin (b,o) (List.mem_append_right _ (List.mem_append_right _ (mem_pinsAt hb e)))).2.1
 exact codeAny_compStart_list loop (T.self _ 0 _ _ _ st0 loop)
theorem pe_compF {ifs:List Expr} {tt:TT} {tg elt iter:Expr} {scope:Scope} {pos:Pos} {N':List Str} {cap:List (Option Nat)} {wi:TI} {g:TG} {te:TE} (hc:X.calm = true) (O:CompOk X N' scope cap)
  (hi:PI X tg iter wi) (hg:∀ C s H ex,PG (compX X N' scope C s H ex) tg g) (ht:∀ C s H ex,PTs (compX X N' scope C s H ex) ifs tt) (he:∀ C s H ex,PE (compX X N' scope C s H ex) elt te)
  (hs:∀ x,foldedSetIterable iter X.env x = pure x:=by intro _; rfl):PE X (.ListComp elt [⟨tg,iter,ifs,0⟩] scope pos) (tCompF wi g tt te cap):=by
 intro pins s σ H Q I h
 rw [eval_ListComp]
 refine compF_run (use:=none) (Q':=EP X pins σ Q) hc O hi hg ht he I h hs rfl fun C D s1 H1 fp σ' H' s' I1 f1 J q=>?_
 obtain ⟨m,hn,_⟩:=J.loc
 exact ⟨m,hn,fun h' hsb=>⟨.ref D,H',inv_back I1 f1 J hsb,rfl,q⟩⟩
theorem ps_setCF {ifs:List Expr} {tt:TT} {tg elt iter:Expr} {scope:Scope} {cpos pos' pos:Pos} {N':List Str} {cap:List (Option Nat)} {wi:TI} {g:TG} {te:TE} {i:Nat} {x:Str} (hc:X.calm = true) (O:CompOk X N' scope cap)
  (hi:PI X tg iter wi) (hg:∀ C s H ex,PG (compX X N' scope C s H ex) tg g) (ht:∀ C s H ex,PTs (compX X N' scope C s H ex) ifs tt) (he:∀ C s H ex,PE (compX X N' scope C s H ex) elt te) (hs:∀ x,foldedSetIterable iter X.env x = pure x)
  (hN:X.N.Nodup) (hix:X.N[i]? = some x) (hx:Loc X.env.scope x) (hf:X.fn x = true\/X.env.scope.names.lookup x = some .local)
  (hsw:swapsWith (.ListComp elt [⟨tg,iter,ifs,0⟩] scope cpos) (some (.Name x pos')) pos.line X.env = pure true) :
  PS X (.Assign [.Name x pos'] (.ListComp elt [⟨tg,iter,ifs,0⟩] scope cpos) pos) (tAsg (tCompF wi g tt te cap) (gName i)):=by
 intro pins s σ H D I h
 rw [exec_Assign_Name_used _ _ _ _ hsw]
 refine wpAny_bind (wpAny_standAt (wpAny_bind ?_))
 show wpAny _ _ (do let _ <- comprehension (.ListComp elt [⟨tg,iter,ifs,0⟩] scope cpos) scope X.env _ (newList []) false (eval iter X.env) (some (assign (.Name x pos') X.env))) _ _ s
 refine wpAny_bind (wpAny_mono (compF_run (use:=some (assign (.Name x pos') X.env)) (Q':=fun _ s'=>∃ σ' H',Inv X pins σ' H' s'/\D.nx σ' H') hc O hi hg ht he I h hs rfl fun C D1 s1 H1 fp σ' H' s' I1 f1 J q=>?_) (fun _ s' hq=>wpAny_pure (wpAny_pure hq)) fun _ _ e=>e)
 show wpAny _ _ (assign (.Name x pos') X.env (.ref D1)) _ _ s'
 have I2:Inv X pins σ H' s':=inv_back I1 f1 J (Heap.SameBut.refl C s'.heap)
 have hC:s1.heap.objs.size<=C:=J.ok.above
 have old:∀ b o,s1.heap.get? b = some o->b ≠ C:=fun b o e=>Nat.ne_of_lt (Nat.lt_of_lt_of_le (Heap.lt_size e) hC)
 obtain ⟨m1,⟨oL,_,_,gL,_⟩,_⟩:=id I1.loc
 have hL:X.env.locals ≠ C:=old _ _ gL
 have hcl:∀ x c,X.env.cells.lookup x = some c->c ≠ C:=fun x c e=>by
  obtain ⟨v,o,g,_⟩:=I1.cell x c e
  exact old _ _ g
 have hpn:∀ p ∈ X.pn ++ pins,p.1 ≠ C:=fun p hp=>old _ _ (I1.pin p hp).1
 have h0:X.s₀.heap.objs.size<=C:=by
  refine Nat.le_trans ?_ hC
  exact Nat.le_of_lt (Nat.lt_of_le_of_lt I1.ok.above (Heap.lt_size gL))
 obtain ⟨m,hn,_⟩:=J.loc
 refine wpAny_assign_Name (store_ok2 I2 hN hix hx (v:=.ref D1) rfl (fun s3 I3 hsb=>?_) hf)
 obtain ⟨a,hsb,ha⟩:=hsb
 have hCa:C ≠ a:=by
  rcases ha with rfl | ha
  ·exact Ne.symm hL
  ·exact Ne.symm (hcl _ _ ha)
 exact ⟨m,hn.sameBut hsb hCa,fun h' hs'=>⟨_,H',I3.junk hs' h0 hL hcl hpn J.free,q⟩⟩
end
end L2
set_option autoImplicit false
namespace J
open PySem PySem.Spec PyProof.Rows L2
noncomputable abbrev DK:=Key ⊕ List Key
inductive Hd where
 | lst | tup | dic (t:Nat) (ks:List DK) | obj (c:Str) (ns:List Str)
 deriving DecidableEq
inductive D where
 | non | bl (b:Bool) | int (i:Int) | str (x:Str) | scr (ns:List Int) | nd (h:Hd) (ds:List D)
noncomputable abbrev D.lst (ds:List D):D:=.nd .lst ds
noncomputable abbrev D.tup (ds:List D):D:=.nd .tup ds
noncomputable abbrev D.dic (t:Nat) (ks:List DK) (ds:List D):D:=.nd (.dic t ks) ds
noncomputable abbrev D.obj (c:Str) (ns:List Str) (ds:List D):D:=.nd (.obj c ns) ds
noncomputable def Hd.mu:Hd->Bool
 | .tup=>false
 | _=>true
noncomputable def KnL (K:PySem.W.Frag) (a:Addr) (xs:List V):Prop:=
 ∃ (o:Obj) (its:Array Value) (n:Nat),K.lookup a = some o/\o.cls = .type "list"/\o.dict = none/\o.data = .seq its n/\its.size<=sizeLine/\Vals xs its.toList
noncomputable def HdOk (K:PySem.W.Frag) (o:HO):Hd->List V->Prop
 | .lst,xs=>o = .lst xs
 | .tup,xs=>o = .tup xs
 | .dic t ks,xs=>(t = 0/\∃ kvs:List (Key × V),o = .dK kvs/\ks = kvs.map (fun p=>Sum.inl p.1)/\xs = kvs.map (·.2))\/(t = 1/\∃ kvs:List (List Key × V),o = .dT kvs/\ks = kvs.map (fun p=>Sum.inr p.1)/\xs = kvs.map (·.2))
 | .obj c ns,xs=>∃ C dx,PySem.W.nsIn K mainGlobals c = some (some (.ref C))/\o = .ins C dx (ns.zip xs)/\ns.length = xs.length
noncomputable abbrev Pr:=Addr->Prop
mutual
noncomputable def Rp (K:PySem.W.Frag) (H:Hp) (S:Pr):D->V->Prop
 | .non,v=>v = .non
 | .bl b,v=>v = .bl b
 | .int i,v=>v = .int i
 | .str x,v=>v = .str x
 | .scr ns,v=>∃ a,v = .ref a/\((¬ S a/\Rd H a (.lst (ns.map V.int)))\/KnL K a (ns.map V.int))
 | .nd h ds,v=>∃ a o xs,v = .ref a/\¬ S a/\H a = some o/\HdOk K o h xs/\RpL K H S ds xs
noncomputable def RpL (K:PySem.W.Frag) (H:Hp) (S:Pr):List D->List V->Prop
 | [],xs=>xs = []
 | d :: ds,xs=>∃ y ys,xs = y :: ys/\Rp K H S d y/\RpL K H S ds ys
end
section
variable {K:PySem.W.Frag} {H H':Hp} {S S':Pr}
mutual
theorem Rp.go (k:∀ b o,¬ S b->H b = some o->H' b = some o/\¬ S' b):∀ {d:D} {v:V},Rp K H S d v->Rp K H' S' d v
 | .non,_,h=>h
 | .bl _,_,h=>h
 | .int _,_,h=>h
 | .str _,_,h=>h
 | .scr ns,v,h=>by
  unfold Rp at h ⊢
  obtain ⟨a,e,h⟩:=h
  refine ⟨a,e,?_⟩
  rcases h with ⟨n,g | ⟨o,g⟩⟩ | h
  ·exact .inl ⟨(k _ _ n g).2,.inl (k _ _ n g).1⟩
  ·exact .inl ⟨(k _ _ n g).2,.inr ⟨o,(k _ _ n g).1⟩⟩
  ·exact .inr h
 | .nd hd ds,v,h=>by
  unfold Rp at h ⊢
  obtain ⟨a,o,xs,e,n,g,q,r⟩:=h
  exact ⟨a,o,xs,e,(k _ _ n g).2,(k _ _ n g).1,q,RpL.go k r⟩
theorem RpL.go (k:∀ b o,¬ S b->H b = some o->H' b = some o/\¬ S' b):∀ {ds:List D} {vs:List V},RpL K H S ds vs->RpL K H' S' ds vs
 | [],_,h=>by unfold RpL at h ⊢; exact h
 | d :: ds,_,h=>by
  unfold RpL at h ⊢
  obtain ⟨y,ys,e,r,t⟩:=h
  exact ⟨y,ys,e,Rp.go k r,RpL.go k t⟩
end
theorem Rp.same (s:Same H H') {d:D} {v:V} (h:Rp K H S d v):Rp K H' S d v:=h.go fun b o n e=>⟨s b o e,n⟩
theorem RpL.same (s:Same H H') {d:List D} {v:List V} (h:RpL K H S d v):RpL K H' S d v:=h.go fun b o n e=>⟨s b o e,n⟩
theorem Rp.weak (k:∀ b,S' b->S b) {d:D} {v:V} (h:Rp K H S d v):Rp K H S' d v:=h.go fun b o n e=>⟨e,fun z=>n (k b z)⟩
theorem RpL.weak (k:∀ b,S' b->S b) {d:List D} {v:List V} (h:RpL K H S d v):RpL K H S' d v:=h.go fun b o n e=>⟨e,fun z=>n (k b z)⟩
theorem RpL.len:∀ {ds:List D} {vs:List V},RpL K H S ds vs->vs.length = ds.length
 | [],_,h=>by unfold RpL at h; rw [h]; rfl
 | d :: ds,_,h=>by
  unfold RpL at h
  obtain ⟨y,ys,rfl,_,t⟩:=h
  rw [List.length_cons,List.length_cons,RpL.len t]
theorem RpL.nil:RpL K H S [] []:=by unfold RpL; rfl
theorem RpL.cons {d:D} {v:V} {ds:List D} {vs:List V} (h1:Rp K H S d v) (h2:RpL K H S ds vs):RpL K H S (d :: ds) (v :: vs):=by unfold RpL; exact ⟨v,vs,rfl,h1,h2⟩
theorem RpL.nil_inv {vs:List V} (h:RpL K H S [] vs):vs = []:=by unfold RpL at h; exact h
theorem RpL.cons_inv {d:D} {ds:List D} {vs:List V} (h:RpL K H S (d :: ds) vs):∃ y ys,vs = y :: ys/\Rp K H S d y/\RpL K H S ds ys:=by unfold RpL at h; exact h
theorem RpL.getD:∀ {ds:List D} {vs:List V} {i:Nat} {d:D},RpL K H S ds vs->ds[i]? = some d->∃ v,vs[i]? = some v/\Rp K H S d v
 | [],_,_,_,_,e=>by simp at e
 | d :: ds,_,0,d',h,e=>by obtain ⟨y,ys,rfl,r,t⟩:=h.cons_inv; simp at e; subst e; exact ⟨y,rfl,r⟩
 | d :: ds,_,i + 1,d',h,e=>by obtain ⟨y,ys,rfl,r,t⟩:=h.cons_inv; simpa using RpL.getD t (by simpa using e)
theorem RpL.append:∀ {ds es:List D} {vs us:List V},RpL K H S ds vs->RpL K H S es us->RpL K H S (ds ++ es) (vs ++ us)
 | [],_,_,_,h,g=>by rw [h.nil_inv]; exact g
 | d :: ds,_,_,_,h,g=>by obtain ⟨y,ys,rfl,r,t⟩:=h.cons_inv; exact .cons r (RpL.append t g)
theorem RpL.take:∀ {ds:List D} {vs:List V} (n:Nat),RpL K H S ds vs->RpL K H S (ds.take n) (vs.take n)
 | _,_,0,_=>by simpa using RpL.nil
 | [],_,_ + 1,h=>by rw [h.nil_inv]; simpa using RpL.nil
 | d :: ds,_,n + 1,h=>by obtain ⟨y,ys,rfl,r,t⟩:=h.cons_inv; exact .cons r (RpL.take n t)
theorem RpL.drop:∀ {ds:List D} {vs:List V} (n:Nat),RpL K H S ds vs->RpL K H S (ds.drop n) (vs.drop n)
 | _,_,0,h=>h
 | [],_,_ + 1,h=>by rw [h.nil_inv]; simpa using RpL.nil
 | d :: ds,_,n + 1,h=>by obtain ⟨y,ys,rfl,r,t⟩:=h.cons_inv; exact RpL.drop n t
theorem RpL.reverse {ds:List D} {vs:List V} (h:RpL K H S ds vs):RpL K H S ds.reverse vs.reverse:=by
 induction ds generalizing vs with
 | nil=>rw [h.nil_inv]; exact .nil
 | cons d ds ih=>obtain ⟨y,ys,rfl,r,t⟩:=h.cons_inv; rw [List.reverse_cons,List.reverse_cons]; exact (ih t).append (.cons r .nil)
theorem RpL.rep {ds:List D} {vs:List V} (h:RpL K H S ds vs):∀ n:Nat,RpL K H S (List.replicate n ds).flatten (List.replicate n vs).flatten
 | 0=>by simpa using RpL.nil
 | n + 1=>by simpa [List.replicate_succ] using h.append (h.rep n)
theorem RpL.ints:∀ ns:List Int,RpL K H S (ns.map D.int) (ns.map V.int)
 | []=>.nil
 | n :: ns=>.cons (by unfold Rp; rfl) (RpL.ints ns)
end
mutual
noncomputable def imD:D->Bool
 | .nd h ds=>!h.mu && imL ds
 | .scr _=>false
 | _=>true
noncomputable def imL:List D->Bool
 | []=>true
 | d :: ds=>imD d && imL ds
end
noncomputable def MuOk (H:Hp) (S:Pr):Prop:=∀ a,S a->∃ o,H a = some o/\∀ xs,o ≠ .tup xs
section
variable {K:PySem.W.Frag} {H:Hp} {S S':Pr}
mutual
theorem Rp.im (m:MuOk H S'):∀ {d:D} {v:V},imD d = true->Rp K H S d v->Rp K H S' d v
 | .non,_,_,h=>h
 | .bl _,_,_,h=>h
 | .int _,_,_,h=>h
 | .str _,_,_,h=>h
 | .scr ns,v,i,h=>by simp [imD] at i
 | .nd hd ds,v,i,h=>by
  unfold Rp at h ⊢
  obtain ⟨a,o,xs,e,n,g,q,r⟩:=h
  rw [imD,Bool.and_eq_true] at i
  refine ⟨a,o,xs,e,fun z=>?_,g,q,RpL.im m i.2 r⟩
  obtain ⟨o',e',ne⟩:=m a z
  rw [g] at e'; cases e'
  cases hd with
  | tup=>exact ne _ q
  | _=>exact absurd i.1 (by simp [Hd.mu])
theorem RpL.im (m:MuOk H S'):∀ {ds:List D} {vs:List V},imL ds = true->RpL K H S ds vs->RpL K H S' ds vs
 | [],_,_,h=>by unfold RpL at h ⊢; exact h
 | d :: ds,_,i,h=>by
  rw [imL,Bool.and_eq_true] at i
  obtain ⟨y,ys,rfl,r,t⟩:=h.cons_inv
  exact .cons (Rp.im m i.1 r) (RpL.im m i.2 t)
end
end
inductive Ow where
 | fz | own (es:List Ow) (r:Ow)
mutual
noncomputable def Tr (K:PySem.W.Frag) (H:Hp) (S:Pr):D->Ow->V->Pr->Prop
 | .nd h ds,.own es r,v,F=>∃ a o xs F',v = .ref a/\H a = some o/\HdOk K o h xs/\(h.mu = true->¬ F' a)/\(h.mu = false->¬ S a)/\(∀ b,F b ↔ (h.mu = true/\b = a)\/F' b)/\TrL K H S ds es r xs F'
 | d,_,v,F=>(∀ b,¬ F b)/\Rp K H S d v
noncomputable def TrL (K:PySem.W.Frag) (H:Hp) (S:Pr):List D->List Ow->Ow->List V->Pr->Prop
 | [],_,_,xs,F=>xs = []/\∀ b,¬ F b
 | d :: ds,es,r,xs,F=>∃ y ys F1 F2,xs = y :: ys/\(∀ b,F b ↔ F1 b\/F2 b)/\(∀ b,F1 b->¬ F2 b)/\Tr K H S d (es.headD r) y F1/\TrL K H S ds es.tail r ys F2
end
section
variable {K:PySem.W.Frag} {H H':Hp} {S S':Pr}
mutual
theorem Tr.go:∀ {d:D} {k:Ow} {v:V} {F:Pr},(∀ b o,(¬ S b\/F b)->H b = some o->H' b = some o)->(∀ b o,H b = some o->¬ S b->¬ S' b)->Tr K H S d k v F->Tr K H' S' d k v F
 | .non,_,_,_,k1,k2,h=>by unfold Tr at h ⊢; exact ⟨h.1,h.2⟩
 | .bl _,_,_,_,k1,k2,h=>by unfold Tr at h ⊢; exact ⟨h.1,h.2⟩
 | .int _,_,_,_,k1,k2,h=>by unfold Tr at h ⊢; exact ⟨h.1,h.2⟩
 | .str _,_,_,_,k1,k2,h=>by unfold Tr at h ⊢; exact ⟨h.1,h.2⟩
 | .scr ns,_,_,_,k1,k2,h=>by unfold Tr at h ⊢; exact ⟨h.1,h.2.go fun b o n e=>⟨k1 b o (.inl n) e,k2 b o e n⟩⟩
 | .nd hd ds,.fz,_,_,k1,k2,h=>by unfold Tr at h ⊢; exact ⟨h.1,h.2.go fun b o n e=>⟨k1 b o (.inl n) e,k2 b o e n⟩⟩
 | .nd hd ds,.own es r,v,F,k1,k2,h=>by
  unfold Tr at h ⊢
  obtain ⟨a,o,xs,F',e,g,q,n1,n2,hF,t⟩:=h
  have hg:H' a = some o:=by
   cases hm:hd.mu with
   | true=>exact k1 a o (.inr ((hF a).mpr (.inl ⟨hm,rfl⟩))) g
   | false=>exact k1 a o (.inl (n2 hm)) g
  refine ⟨a,o,xs,F',e,hg,q,n1,fun hm=>k2 a o g (n2 hm),hF,TrL.go (fun b o h=>k1 b o (h.imp id fun z=>(hF b).mpr (.inr z))) k2 t⟩
theorem TrL.go:∀ {ds:List D} {es:List Ow} {r:Ow} {vs:List V} {F:Pr},(∀ b o,(¬ S b\/F b)->H b = some o->H' b = some o)->(∀ b o,H b = some o->¬ S b->¬ S' b)->TrL K H S ds es r vs F->TrL K H' S' ds es r vs F
 | [],_,_,_,_,_,_,h=>by unfold TrL at h ⊢; exact h
 | d :: ds,es,r,vs,F,k1,k2,h=>by
  unfold TrL at h ⊢
  obtain ⟨y,ys,F1,F2,e,hF,dj,h1,h2⟩:=h
  exact ⟨y,ys,F1,F2,e,hF,dj,Tr.go (fun b o h=>k1 b o (h.imp id fun z=>(hF b).mpr (.inl z))) k2 h1,TrL.go (fun b o h=>k1 b o (h.imp id fun z=>(hF b).mpr (.inr z))) k2 h2⟩
end
mutual
theorem Tr.rp:∀ {d:D} {k:Ow} {v:V} {F:Pr},(∀ b,S' b->S b/\¬ F b)->Tr K H S d k v F->Rp K H S' d v
 | .non,_,_,_,k2,h=>by unfold Tr at h; exact h.2
 | .bl _,_,_,_,k2,h=>by unfold Tr at h; exact h.2
 | .int _,_,_,_,k2,h=>by unfold Tr at h; exact h.2
 | .str _,_,_,_,k2,h=>by unfold Tr at h; exact h.2
 | .scr ns,_,_,_,k2,h=>by unfold Tr at h; exact h.2.weak fun b z=>(k2 b z).1
 | .nd hd ds,.fz,_,_,k2,h=>by unfold Tr at h; exact h.2.weak fun b z=>(k2 b z).1
 | .nd hd ds,.own es r,v,F,k2,h=>by
  unfold Tr at h
  unfold Rp
  obtain ⟨a,o,xs,F',e,g,q,n1,n2,hF,t⟩:=h
  refine ⟨a,o,xs,e,fun z=>?_,g,q,TrL.rp (fun b z=>⟨(k2 b z).1,fun z2=>(k2 b z).2 ((hF b).mpr (.inr z2))⟩) t⟩
  cases hm:hd.mu with
  | true=>exact (k2 a z).2 ((hF a).mpr (.inl ⟨hm,rfl⟩))
  | false=>exact n2 hm (k2 a z).1
theorem TrL.rp:∀ {ds:List D} {es:List Ow} {r:Ow} {vs:List V} {F:Pr},(∀ b,S' b->S b/\¬ F b)->TrL K H S ds es r vs F->RpL K H S' ds vs
 | [],_,_,_,_,_,h=>by unfold TrL at h; unfold RpL; exact h.1
 | d :: ds,es,r,vs,F,k2,h=>by
  unfold TrL at h
  obtain ⟨y,ys,F1,F2,rfl,hF,dj,h1,h2⟩:=h
  exact .cons (Tr.rp (fun b z=>⟨(k2 b z).1,fun z2=>(k2 b z).2 ((hF b).mpr (.inl z2))⟩) h1) (TrL.rp (fun b z=>⟨(k2 b z).1,fun z2=>(k2 b z).2 ((hF b).mpr (.inr z2))⟩) h2)
end
theorem Tr.rd {d:D} {k:Ow} {v:V} {F:Pr} (h:Tr K H S d k v F):Rp K H (fun _=>False) d v:=h.rp fun b z=>z.elim
theorem Tr.fz {d:D} {v:V} (h:Rp K H S d v):Tr K H S d .fz v (fun _=>False):=by
 cases d <;> (unfold Tr; exact ⟨fun b z=>z,h⟩)
theorem Tr.fz_inv {d:D} {v:V} {F:Pr} (h:Tr K H S d .fz v F):(∀ b,¬ F b)/\Rp K H S d v:=by
 cases d <;> (unfold Tr at h; exact h)
mutual
theorem Tr.dom:∀ {d:D} {k:Ow} {v:V} {F:Pr},Tr K H S d k v F->∀ b,F b->∃ o,H b = some o/\∀ xs,o ≠ .tup xs
 | .non,_,_,_,h=>by unfold Tr at h; exact fun b z=>absurd z (h.1 b)
 | .bl _,_,_,_,h=>by unfold Tr at h; exact fun b z=>absurd z (h.1 b)
 | .int _,_,_,_,h=>by unfold Tr at h; exact fun b z=>absurd z (h.1 b)
 | .str _,_,_,_,h=>by unfold Tr at h; exact fun b z=>absurd z (h.1 b)
 | .scr ns,_,_,_,h=>by unfold Tr at h; exact fun b z=>absurd z (h.1 b)
 | .nd hd ds,.fz,_,_,h=>by unfold Tr at h; exact fun b z=>absurd z (h.1 b)
 | .nd hd ds,.own es r,v,F,h=>by
  unfold Tr at h
  obtain ⟨a,o,xs,F',e,g,q,n1,n2,hF,t⟩:=h
  intro b z
  rcases (hF b).mp z with ⟨hm,rfl⟩ | z
  ·refine ⟨o,g,fun ys he=>?_⟩
   subst he
   cases hd with
   | tup=>exact absurd hm (by simp [Hd.mu])
   | lst=>cases q
   | dic t ks=>rcases q with ⟨_,_,e,_⟩ | ⟨_,_,e,_⟩ <;> cases e
   | obj c ns=>obtain ⟨_,_,_,e,_⟩:=q; cases e
  ·exact TrL.dom t b z
theorem TrL.dom:∀ {ds:List D} {es:List Ow} {r:Ow} {vs:List V} {F:Pr},TrL K H S ds es r vs F->∀ b,F b->∃ o,H b = some o/\∀ xs,o ≠ .tup xs
 | [],_,_,_,_,h=>by unfold TrL at h; exact fun b z=>absurd z (h.2 b)
 | d :: ds,es,r,vs,F,h=>by
  unfold TrL at h
  obtain ⟨y,ys,F1,F2,e,hF,dj,h1,h2⟩:=h
  intro b z
  rcases (hF b).mp z with z | z
  ·exact Tr.dom h1 b z
  ·exact TrL.dom h2 b z
end
end
end J
namespace J
open PySem PySem.Spec L2
noncomputable abbrev Gh:=Addr->Option (Option Nat)
noncomputable def Sx (g:Gh) (F:Pr):Pr:=fun b=>g b ≠ none\/F b
noncomputable abbrev Sg (g:Gh):Pr:=fun b=>g b ≠ none
inductive Kd where
 | sh | fr (k:Ow) | bo (i:Nat) (k:Ow)
noncomputable def VR1 (K:PySem.W.Frag) (H:Hp) (g:Gh) (Ft:Pr):Kd->D->V->Pr->Prop
 | .sh,d,v,F=>(∀ b,¬ F b)/\Rp K H (Sx g Ft) d v
 | .fr k,d,v,F=>Tr K H (Sx g Ft) d k v F
 | .bo i k,d,v,F=>(∀ b,¬ F b)/\∃ F0,(∀ b,F0 b->g b = some (some i))/\Tr K H (Sx g Ft) d k v F0
noncomputable def VRL (K:PySem.W.Frag) (H:Hp) (g:Gh) (Ft:Pr):List (Kd × D)->List V->Pr->Prop
 | [],vs,F=>vs = []/\∀ b,¬ F b
 | (kd,d) :: r,vs,F=>∃ y ys F1 F2,vs = y :: ys/\(∀ b,F b ↔ F1 b\/F2 b)/\(∀ b,F1 b->¬ F2 b)/\VR1 K H g Ft kd d y F1/\VRL K H g Ft r ys F2
noncomputable def VR (K:PySem.W.Frag) (g:Gh) (H0 H:Hp) (kd:Kd) (d:D) (v:V):Prop:=∃ F:Pr,(∀ b,F b->H0 b = none)/\VR1 K H g F kd d v F
noncomputable def VRs (K:PySem.W.Frag) (g:Gh) (H0 H:Hp) (kds:List (Kd × D)) (vs:List V):Prop:=∃ F:Pr,(∀ b,F b->H0 b = none)/\VRL K H g F kds vs F
section
variable {K:PySem.W.Frag} {H H' H0 H1:Hp} {g:Gh} {Ft Ft' F:Pr}
theorem VR1.go {kd:Kd} {d:D} {v:V} (s:Same H H') (k2:∀ b o,H b = some o->Ft' b->Ft b) (h:VR1 K H g Ft kd d v F):VR1 K H' g Ft' kd d v F:=by
 have k3:∀ b o,H b = some o->¬ Sx g Ft b->¬ Sx g Ft' b:=fun b o e n z=>n (z.imp id (k2 b o e))
 cases kd with
 | sh=>exact ⟨h.1,h.2.go fun b o n e=>⟨s b o e,k3 b o e n⟩⟩
 | fr k=>exact Tr.go (fun b o _ e=>s b o e) k3 h
 | bo i k=>obtain ⟨h1,F0,h2,h3⟩:=h; exact ⟨h1,F0,h2,Tr.go (fun b o _ e=>s b o e) k3 h3⟩
theorem VR1.dom {kd:Kd} {d:D} {v:V} (h:VR1 K H g Ft kd d v F):∀ b,F b->∃ o,H b = some o/\∀ xs,o ≠ .tup xs:=by
 cases kd with
 | sh=>exact fun b z=>absurd z (h.1 b)
 | fr k=>exact Tr.dom h
 | bo i k=>exact fun b z=>absurd z (h.1 b)
theorem VRL.dom:∀ {kds:List (Kd × D)} {vs:List V} {F:Pr},VRL K H g Ft kds vs F->∀ b,F b->∃ o,H b = some o/\∀ xs,o ≠ .tup xs
 | [],_,_,h=>fun b z=>absurd z (h.2 b)
 | (kd,d) :: r,_,_,h=>by
  obtain ⟨y,ys,F1,F2,e,hF,dj,h1,h2⟩:=h
  intro b z
  rcases (hF b).mp z with z | z
  ·exact h1.dom b z
  ·exact VRL.dom h2 b z
theorem VR.same {kd:Kd} {d:D} {v:V} (s:Same H H') (h:VR K g H0 H kd d v):VR K g H0 H' kd d v:=
 let ⟨F,h1,h2⟩:=h; ⟨F,h1,h2.go s fun _ _ _ z=>z⟩
theorem VR.older {kd:Kd} {d:D} {v:V} (s:Same H0 H1) (h:VR K g H1 H kd d v):VR K g H0 H kd d v:=
 let ⟨F,h1,h2⟩:=h; ⟨F,fun b z=>s.free (h1 b z),h2⟩
theorem VR1.rd {kd:Kd} {d:D} {v:V} (h:VR1 K H g Ft kd d v F):Rp K H (fun _=>False) d v:=by
 cases kd with
 | sh=>exact h.2.weak fun b z=>z.elim
 | fr k=>exact Tr.rd h
 | bo i k=>obtain ⟨_,F0,_,h3⟩:=h; exact h3.rd
theorem VR.rd {kd:Kd} {d:D} {v:V} (h:VR K g H0 H kd d v):Rp K H (fun _=>False) d v:=let ⟨F,h1,h2⟩:=h; h2.rd
theorem VRL.rd:∀ {kds:List (Kd × D)} {vs:List V} {F:Pr},VRL K H g Ft kds vs F->RpL K H (fun _=>False) (kds.map (·.2)) vs
 | [],_,_,h=>by rw [h.1]; exact .nil
 | (kd,d) :: r,_,_,h=>by
  obtain ⟨y,ys,F1,F2,rfl,hF,dj,h1,h2⟩:=h
  exact .cons h1.rd (VRL.rd h2)
noncomputable def okS:Kd->D->Bool
 | .bo _ _,d=>imD d
 | _,_=>true
theorem MuOk.same {S:Pr} (m:MuOk H S) (s:Same H H'):MuOk H' S:=fun a z=>let ⟨o,e,n⟩:=m a z; ⟨o,s a o e,n⟩
theorem VR1.sh {S:Pr} {kd:Kd} {d:D} {v:V} (ok:okS kd d = true) (m:MuOk H S) (hS:∀ b,S b->(g b ≠ none\/Ft b)/\¬ F b) (h:VR1 K H g Ft kd d v F):Rp K H S d v:=by
 cases kd with
 | sh=>exact h.2.weak fun b z=>(hS b z).1
 | fr k=>exact Tr.rp (fun b z=>⟨(hS b z).1,(hS b z).2⟩) h
 | bo i k=>obtain ⟨_,F0,h2,h3⟩:=h; exact h3.rd.im m ok
theorem VR.sh {kd:Kd} {d:D} {v:V} (ok:okS kd d = true) (m:MuOk H0 (Sg g)) (s:Same H0 H) (h:VR K g H0 H kd d v):Rp K H (Sg g) d v:=by
 obtain ⟨F,h1,h2⟩:=h
 refine h2.sh ok (m.same s) fun b z=>⟨.inl z,fun z2=>?_⟩
 obtain ⟨o,e,_⟩:=m b z
 rw [h1 b z2] at e; cases e
theorem VRL.sh {S:Pr} (m:MuOk H S):∀ {kds:List (Kd × D)} {vs:List V} {F:Pr},(kds.all fun p=>okS p.1 p.2) = true->(∀ b,S b->(g b ≠ none\/Ft b)/\¬ F b)->VRL K H g Ft kds vs F->RpL K H S (kds.map (·.2)) vs
 | [],_,_,_,_,h=>by rw [h.1]; exact .nil
 | (kd,d) :: r,_,F,ok,hS,h=>by
  obtain ⟨y,ys,F1,F2,rfl,hF,dj,h1,h2⟩:=h
  rw [List.all_cons,Bool.and_eq_true] at ok
  exact .cons (h1.sh ok.1 m fun b z=>⟨(hS b z).1,fun z2=>(hS b z).2 ((hF b).mpr (.inl z2))⟩) (VRL.sh m ok.2 (fun b z=>⟨(hS b z).1,fun z2=>(hS b z).2 ((hF b).mpr (.inr z2))⟩) h2)
theorem VRs.sh {kds:List (Kd × D)} {vs:List V} (ok:(kds.all fun p=>okS p.1 p.2) = true) (m:MuOk H0 (Sg g)) (s:Same H0 H) (h:VRs K g H0 H kds vs):RpL K H (Sg g) (kds.map (·.2)) vs:=by
 obtain ⟨F,h1,h2⟩:=h
 refine h2.sh (m.same s) ok fun b z=>⟨.inl z,fun z2=>?_⟩
 obtain ⟨o,e,_⟩:=m b z
 rw [h1 b z2] at e; cases e
theorem VRs.rd {kds:List (Kd × D)} {vs:List V} (h:VRs K g H0 H kds vs):RpL K H (fun _=>False) (kds.map (·.2)) vs:=let ⟨F,h1,h2⟩:=h; h2.rd
theorem VRs.nil:VRs K g H0 H [] []:=⟨fun _=>False,fun b z=>z.elim,rfl,fun b z=>z⟩
open Classical in
noncomputable def Gh.plus (g:Gh) (F:Pr):Gh:=fun b=>if F b then some none else g b
theorem plus_S (b:Addr):Sg (g.plus F) b ↔ Sg g b\/F b:=by
 unfold Gh.plus Sg
 by_cases h:F b
 ·simp [h]
 ·simp [h]
theorem plus_sl {b:Addr} {i:Nat} (h:g.plus F b = some (some i)):g b = some (some i):=by
 unfold Gh.plus at h
 split at h
 ·cases h
 ·exact h
theorem sl_plus {b:Addr} {i:Nat} (h:g b = some (some i)) (n:¬ F b):g.plus F b = some (some i):=by
 unfold Gh.plus
 rw [if_neg n]; exact h
theorem VR1.unplus {F1:Pr} {kd:Kd} {d:D} {v:V} (h:VR1 K H (g.plus F1) Ft kd d v F):VR1 K H g (fun b=>F1 b\/Ft b) kd d v F:=by
 have k3:∀ b o,H b = some o->¬ Sx (g.plus F1) Ft b->¬ Sx g (fun b=>F1 b\/Ft b) b:=fun b o e n z=>n (z.elim (fun z=>.inl ((plus_S b).mpr (.inl z))) fun z=>z.elim (fun z=>.inl ((plus_S b).mpr (.inr z))) .inr)
 cases kd with
 | sh=>exact ⟨h.1,h.2.go fun b o n e=>⟨e,k3 b o e n⟩⟩
 | fr k=>exact Tr.go (fun b o _ e=>e) k3 h
 | bo i k=>obtain ⟨h1,F0,h2,h3⟩:=h; exact ⟨h1,F0,fun b z=>plus_sl (h2 b z),Tr.go (fun b o _ e=>e) k3 h3⟩
theorem VRL.unplus {F1:Pr}:∀ {kds:List (Kd × D)} {vs:List V} {F:Pr},VRL K H (g.plus F1) Ft kds vs F->VRL K H g (fun b=>F1 b\/Ft b) kds vs F
 | [],_,_,h=>h
 | (kd,d) :: r,_,_,h=>by
  obtain ⟨y,ys,F1,F2,e,hF,dj,h1,h2⟩:=h
  exact ⟨y,ys,F1,F2,e,hF,dj,h1.unplus,VRL.unplus h2⟩
theorem VRs.cons {kd:Kd} {d:D} {v:V} {kds:List (Kd × D)} {vs:List V} {F1:Pr} (s:Same H0 H) (s1:Same H H') (a1:∀ b,F1 b->H0 b = none) (a2:VR1 K H g F1 kd d v F1) (h2:VRs K (g.plus F1) H H' kds vs):VRs K g H0 H' ((kd,d) :: kds) (v :: vs):=by
 obtain ⟨F2,b1,b2⟩:=h2
 have dd:=a2.dom
 refine ⟨fun b=>F1 b\/F2 b,fun b z=>z.elim (a1 b) fun z=>s.free (b1 b z),v,vs,F1,F2,rfl,fun b=>Iff.rfl,fun b z1 z2=>?_,a2.go s1 fun b o e z=>z.elim id fun z=>?_,b2.unplus⟩
 ·obtain ⟨o,e,_⟩:=dd b z1
  rw [b1 b z2] at e; cases e
 ·rw [b1 b z] at e; cases e
theorem VRs.one {kd:Kd} {d:D} {vs:List V} (h:VRs K g H0 H [(kd,d)] vs):∃ v,vs = [v]/\VR K g H0 H kd d v:=by
 obtain ⟨F,h1,y,ys,F1,F2,rfl,hF,dj,h3,h4,h5⟩:=h
 subst h4
 have e:∀ b,F b->F1 b:=fun b z=>((hF b).mp z).elim id fun z=>absurd z (h5 b)
 exact ⟨y,rfl,F1,fun b z=>h1 b ((hF b).mpr (.inl z)),h3.go (fun _ _ h=>h) fun b _ _ z=>(hF b).mpr (.inl z)⟩
end
structure Sl where
 lk:Bool
 k:Ow
 d:D
noncomputable abbrev Ro:=List (Option Sl)
noncomputable def isFz:Ow->Bool
 | .fz=>true
 | _=>false
noncomputable def slKd (i:Nat) (s:Sl):Kd × D:=(if isFz s.k then .sh else .bo i s.k,s.d)
structure SE (K:PySem.W.Frag) (g:Gh) (ρ:Ro) (σ:St) (H:Hp):Prop where
 slot:∀ (i:Nat) (s:Sl),ρ[i]? = some (some s)->∃ v F,σ[i]? = some (some v)/\(∀ b,F b->g b = some (some i))/\Tr K H (Sg g) s.d s.k v F
 mu:MuOk H (Sg g)
 len:ρ.length = σ.length
section
variable {K:PySem.W.Frag} {H H' H0 H1:Hp} {g g':Gh} {ρ:Ro} {σ:St}
theorem SE.same (h:SE K g ρ σ H) (s:Same H H'):SE K g ρ σ H':=
 ⟨fun i sl e=>let ⟨v,F,e1,e2,e3⟩:=h.slot i sl e; ⟨v,F,e1,e2,e3.go (fun b o _ e=>s b o e) fun b o _ n=>n⟩,h.mu.same s,h.len⟩
theorem isFz_eq {k:Ow} (h:isFz k = true):k = .fz:=by cases k with | fz=>rfl | own es r=>cases h
theorem SE.get (h:SE K g ρ σ H) {i:Nat} {s:Sl} (e:ρ[i]? = some (some s)):∃ v,σ[i]? = some (some v)/\VR K g H H (slKd i s).1 (slKd i s).2 v:=by
 obtain ⟨v,F,e1,e2,e3⟩:=h.slot i s e
 refine ⟨v,e1,fun _=>False,fun b z=>z.elim,?_⟩
 have t:Tr K H (Sx g fun _=>False) s.d s.k v F:=e3.go (fun _ _ _ h=>h) fun b o _ n z=>n (z.elim id fun z=>z.elim)
 unfold slKd
 cases hk:isFz s.k with
 | true=>
  rw [isFz_eq hk] at t
  exact ⟨fun b z=>z,t.fz_inv.2⟩
 | false=>exact ⟨fun b z=>z,F,e2,t⟩
theorem SE.plus {F:Pr} (h:SE K g ρ σ H) (s:Same H H') (hF:∀ b,F b->H b = none) (dd:∀ b,F b->∃ o,H' b = some o/\∀ xs,o ≠ .tup xs):SE K (g.plus F) ρ σ H':=by
 refine ⟨fun i sl e=>?_,fun b z=>?_,h.len⟩
 ·obtain ⟨v,F0,e1,e2,e3⟩:=h.slot i sl e
  refine ⟨v,F0,e1,fun b z=>sl_plus (e2 b z) fun z2=>?_,e3.go (fun b o _ e=>s b o e) fun b o e n z=>?_⟩
  ·obtain ⟨o,q,_⟩:=e3.dom b z
   rw [hF b z2] at q; cases q
  ·rcases (plus_S b).mp z with z | z
   ·exact n z
   ·rw [hF b z] at e; cases e
 ·rcases (plus_S b).mp z with z | z
  ·exact h.mu.same s b z
  ·exact dd b z
end
section
variable (X:Cx)
noncomputable def wE (e:Expr):TE:=fun σ H Q=>∀ pins s,Inv X pins σ H s->wpAny (model X.prog X.w) X.A (eval e X.env) (EP X pins σ Q) X.xe s
noncomputable def wT (e:Expr):TT:=fun σ H Q=>∀ pins s,Inv X pins σ H s->wpAny (model X.prog X.w) X.A (isTrue e X.env (eval e X.env)) (TP X pins σ Q) X.xe s
noncomputable def wW (e:Expr):TT:=fun σ H Q=>∀ whole pins s,Inv X pins σ H s->wpAny (model X.prog X.w) X.A (isTrue e X.env whole) (TP X pins σ Q) X.xe s
noncomputable def wA (es:List Expr):TA:=fun σ H Q=>∀ pos pins s,Inv X pins σ H s->wpAny (model X.prog X.w) X.A (spliced (backTo pos (starEach es X.env))) (AP X pins σ Q) X.xe s
noncomputable def wG (tg:Expr):TG:=fun v σ H Q=>∀ pins s u,Inv X pins σ H s->RelV v u->wpAny (model X.prog X.w) X.A (assign tg X.env u) (fun _ s'=>∃ σ' H',Inv X pins σ' H' s'/\Q σ' H') X.xe s
noncomputable def wI (tg iter:Expr):TI:=fun σ H R=>∀ pins s,Inv X pins σ H s->wpAny (model X.prog X.w) X.A (eval iter X.env) (fun v s1=>wpAny (model X.prog X.w) X.A (pyIter v) (PIE X pins σ tg R) X.xe s1) X.xe s
end
section
variable {X:Cx}
theorem pe_w {e:Expr}:PE X e (wE X e):=fun pins s σ H Q I h=>h pins s I
theorem pt_w {e:Expr}:PT X e (wT X e):=fun pins s σ H Q I h=>h pins s I
theorem pw_w {e:Expr}:PW X e (wW X e):=fun wh pins s σ H Q I h=>h wh pins s I
theorem pa_w {es:List Expr}:PA X es (wA X es):=fun pos pins s σ H Q I h=>h pos pins s I
theorem pi_w {tg iter:Expr}:PI X tg iter (wI X tg iter):=fun pins s σ H R I h=>h pins s I
theorem pg_w {tg:Expr}:PG X tg (wG X tg):=fun pins s σ H v u Q I r h=>h pins s u I r
theorem pe_le {e:Expr} {t:TE} (p:PE X e t) {σ:St} {H:Hp} {Q:VK} (h:t σ H Q):wE X e σ H Q:=fun pins s I=>p pins s σ H Q I h
theorem pt_le {e:Expr} {t:TT} (p:PT X e t) {σ:St} {H:Hp} {Q:Bool->Hp->Prop} (h:t σ H Q):wT X e σ H Q:=fun pins s I=>p pins s σ H Q I h
theorem pw_le {e:Expr} {t:TT} (p:PW X e t) {σ:St} {H:Hp} {Q:Bool->Hp->Prop} (h:t σ H Q):wW X e σ H Q:=fun wh pins s I=>p wh pins s σ H Q I h
theorem pa_le {es:List Expr} {t:TA} (p:PA X es t) {σ:St} {H:Hp} {Q:List V->Hp->Prop} (h:t σ H Q):wA X es σ H Q:=fun pos pins s I=>p pos pins s σ H Q I h
theorem pi_le {tg iter:Expr} {t:TI} (p:PI X tg iter t) {σ:St} {H:Hp} {R:It->Hp->Prop} (h:t σ H R):wI X tg iter σ H R:=fun pins s I=>p pins s σ H R I h
theorem pg_le {tg:Expr} {t:TG} (p:PG X tg t) {v:V} {σ:St} {H:Hp} {Q:St->Hp->Prop} (h:t v σ H Q):wG X tg v σ H Q:=fun pins s u I r=>p pins s σ H v u Q I r h
end
noncomputable def SndE (X:Cx) (f:Ro->Option (Kd × D)) (e:Expr):Prop:=∀ ρ kd d,f ρ = some (kd,d)->∀ g σ H Q,SE X.K g ρ σ H->(∀ v H',Same H H'->VR X.K g H H' kd d v->Q v H')->wE X e σ H Q
noncomputable def SndT (X:Cx) (f:Ro->Option Bool) (e:Expr):Prop:=∀ ρ b,f ρ = some b->∀ g σ H Q,SE X.K g ρ σ H->(∀ H',Same H H'->Q b H')->wT X e σ H Q
noncomputable def SndA (X:Cx) (f:Ro->Option (List (Kd × D))) (es:List Expr):Prop:=∀ ρ kds,f ρ = some kds->∀ g σ H Q,SE X.K g ρ σ H->(∀ vs H',Same H H'->VRs X.K g H H' kds vs->Q vs H')->wA X es σ H Q
end J
set_option exponentiation.threshold 5000
namespace J
open PySem PySem.Spec L2
mutual
noncomputable def py:D->PyData
 | .non=>.none
 | .bl b=>.bool b
 | .int i=>.int i
 | .str x=>.str x
 | .scr ns=>.list (ns.map .int)
 | .nd .lst ds=>.list (pyL ds)
 | .nd .tup ds=>.tuple (pyL ds)
 | .nd (.dic _ _) _=>.dict []
 | .nd (.obj _ _) _=>.none
noncomputable def pyL:List D->List PyData
 | []=>[]
 | d :: ds=>py d :: pyL ds
end
mutual
noncomputable def pok:Nat->D->Bool
 | _,.non=>true
 | _,.bl _=>true
 | _,.int _=>true
 | _,.str x=>PyData.strOk x
 | n,.scr _=>decide (1<=n)
 | n,.nd .lst ds=>decide (1<=n) && pokL (n - 1) ds
 | n,.nd .tup ds=>decide (1<=n) && pokL (n - 1) ds
 | _,.nd (.dic _ _) _=>false
 | _,.nd (.obj _ _) _=>false
noncomputable def pokL:Nat->List D->Bool
 | _,[]=>true
 | n,d :: ds=>pok n d && pokL n ds
end
section
variable {X:Cx} {pins:List (Addr × Obj)} {σ:L2.St} {H:Hp} {s:Shared} {S:Pr}
theorem readsAll_ints {h:Heap}:∀ {ns:List Int} {us:List Value},Vals (ns.map V.int) us->∃ as,ReadsAll h us (ns.map .int) as
 | [],_,.nil=>⟨_,.nil⟩
 | n :: ns,_,.cons r t=>by
  obtain ⟨t',e⟩:=(show ∃ t,_ = Value.int n t from r)
  subst e
  obtain ⟨as,q⟩:=readsAll_ints t
  exact ⟨_,.cons (.int n t') q⟩
theorem int_lay:∀ ns:List Int,PyData.canLayAll0 (ns.map .int) = true/\PyData.depthAll (ns.map .int) = 0
 | []=>by simp [PyData.canLayAll0,PyData.depthAll]
 | n :: ns=>by
  have:=int_lay ns
  simp [PyData.canLayAll0,PyData.depthAll,PyData.canLay0,PyData.depth,this]
mutual
theorem reads_of (I:Inv X pins σ H s):∀ {d:D} {n:Nat} {v:V} {u:Value},pok n d = true->Rp X.K H S d v->RelV v u->(∃ as,Reads s.heap u (py d) as)/\(py d).canLay0 = true/\(py d).depth<=n
 | .non,n,v,u,_,r,e=>by unfold Rp at r; subst r; cases e; simp only [py]; exact ⟨⟨_,.none⟩,by simp [PyData.canLay0],by simp [PyData.depth]⟩
 | .bl b,n,v,u,_,r,e=>by unfold Rp at r; subst r; cases e; simp only [py]; exact ⟨⟨_,.bool b⟩,by simp [PyData.canLay0],by simp [PyData.depth]⟩
 | .int i,n,v,u,_,r,e=>by unfold Rp at r; subst r; obtain ⟨t,rfl⟩:=e; simp only [py]; exact ⟨⟨_,.int i t⟩,by simp [PyData.canLay0],by simp [PyData.depth]⟩
 | .str x,n,v,u,h,r,e=>by unfold Rp at r; subst r; obtain ⟨t,rfl⟩:=e; simp only [py]; exact ⟨⟨_,.str x t⟩,by simpa [PyData.canLay0,pok] using h,by simp [PyData.depth]⟩
 | .scr ns,n,v,u,h,r,e=>by
  unfold Rp at r
  obtain ⟨a,rfl,r⟩:=r
  cases e
  have q:SqL X.K H a (ns.map V.int):=r.elim (fun r=>.inl r.2) .inr
  obtain ⟨its,vs,⟨o,m,g1,g2,g3,g4⟩,z⟩:=I.list q
  obtain ⟨as,ra⟩:=readsAll_ints (h:=s.heap) vs
  simp only [py]
  have hn:1<=n:=by simpa [pok] using h
  exact ⟨⟨_,.list g1 g2 g4 (by simpa using ra)⟩,by simpa [PyData.canLay0] using (int_lay ns).1,by simp [PyData.depth,(int_lay ns).2,hn]⟩
 | .nd .lst ds,n,v,u,h,r,e=>by
  unfold Rp at r
  obtain ⟨a,o,xs,rfl,na,g,q,rl⟩:=r
  cases e
  have q:o = .lst xs:=q
  subst q
  obtain ⟨its,vs,⟨o,m,g1,g2,g3,g4⟩,z⟩:=I.list (SqL.of g)
  simp only [pok,Bool.and_eq_true,decide_eq_true_eq] at h
  obtain ⟨⟨as,ra⟩,l1,l2⟩:=reads_ofL I h.2 rl vs
  simp only [py]
  exact ⟨⟨_,.list g1 g2 g4 (by simpa using ra)⟩,by simpa [PyData.canLay0] using l1,by simp only [PyData.depth]; omega⟩
 | .nd .tup ds,n,v,u,h,r,e=>by
  unfold Rp at r
  obtain ⟨a,o,xs,rfl,na,g,q,rl⟩:=r
  cases e
  have q:o = .tup xs:=q
  subst q
  obtain ⟨its,vs,⟨o,g1,g2,m,g4⟩,z⟩:=I.tuple (SqT.of g)
  simp only [pok,Bool.and_eq_true,decide_eq_true_eq] at h
  obtain ⟨⟨as,ra⟩,l1,l2⟩:=reads_ofL I h.2 rl vs
  simp only [py]
  exact ⟨⟨_,.tuple g1 g2 g4 (by simpa using ra)⟩,by simpa [PyData.canLay0] using l1,by simp only [PyData.depth]; omega⟩
 | .nd (.dic _ _) _,n,v,u,h,r,e=>by simp [pok] at h
 | .nd (.obj _ _) _,n,v,u,h,r,e=>by simp [pok] at h
theorem reads_ofL (I:Inv X pins σ H s):∀ {ds:List D} {n:Nat} {xs:List V} {us:List Value},pokL n ds = true->RpL X.K H S ds xs->Vals xs us->(∃ as,ReadsAll s.heap us (pyL ds) as)/\PyData.canLayAll0 (pyL ds) = true/\PyData.depthAll (pyL ds)<=n
 | [],n,xs,us,_,r,e=>by rw [r.nil_inv] at e; cases e; simp only [pyL]; exact ⟨⟨_,.nil⟩,by simp [PyData.canLayAll0],by simp [PyData.depthAll]⟩
 | d :: ds,n,xs,us,h,r,e=>by
  obtain ⟨y,ys,rfl,r1,r2⟩:=r.cons_inv
  simp only [pokL,Bool.and_eq_true] at h
  cases e with
  | cons e1 e2=>
   obtain ⟨⟨as,ra⟩,l1,l2⟩:=reads_of I h.1 r1 e1
   obtain ⟨⟨bs,rb⟩,m1,m2⟩:=reads_ofL I h.2 r2 e2
   simp only [pyL]
   exact ⟨⟨_,.cons ra rb⟩,by simp [PyData.canLayAll0,l1,m1],by simp only [PyData.depthAll]; omega⟩
end
end
noncomputable def eqD (x y:D):Bool:=PyData.eqv (py x) (py y)
noncomputable def lim:Nat:=2 ^ 4000
noncomputable abbrev flatO:Ow:=.own [] .fz
noncomputable def flatK:Ow->Bool
 | .fz=>true
 | .own es r=>es.all isFz && isFz r
noncomputable def okE:Kd->List D->Bool
 | .bo _ k,ds=>flatK k || imL ds
 | _,_=>true
noncomputable abbrev KD:=Kd × D
noncomputable def intOp:Operator->Int->Int->Option Int
 | .Add,i,j=>some (i + j)
 | .Sub,i,j=>some (i - j)
 | .Mult,i,j=>if i.natAbs < lim/\j.natAbs < lim then some (i * j) else none
 | .FloorDiv,i,j=>if 0 < j/\j.natAbs < lim then some (i / j) else none
 | .Mod,i,j=>if 0 < j then some (i % j) else none
 | .LShift,i,j=>if 0<=j/\j<=1000000/\i.natAbs < lim then some (i * 2 ^ j.toNat) else none
 | .Pow,i,j=>if 0<=j/\j<=1000000/\i.natAbs < 2 ^ 64 then some (i ^ j.toNat) else none
 | .RShift,i,j=>if 0<=j then some (i / 2 ^ j.toNat) else none
 | .BitAnd,i,j=>some (Builtin.bitAnd i j)
 | .BitOr,i,j=>some (Builtin.bitOr i j)
 | .BitXor,i,j=>some (Builtin.bitXor i j)
 | _,_,_=>none
noncomputable def lstOp (op:Operator) (k:Kd) (xs:List D) (y:KD):Option KD:=match op with
 | .Add=>(match y.2 with
  | .nd hd ys=>(match hd with
   | .lst=>if okE k xs = true/\okE y.1 ys = true/\xs.length + ys.length<=100000 then some (.fr flatO,.lst (xs ++ ys)) else none
   | _=>none)
  | _=>none)
 | .Mult=>(match y.2 with
  | .int n=>if okE k xs = true/\0<=n/\n<=100000/\xs.length * n.toNat<=100000 then some (.fr flatO,.lst (List.replicate n.toNat xs).flatten) else none
  | _=>none)
 | _=>none
noncomputable def tupOp (op:Operator) (k:Kd) (xs:List D) (y:KD):Option KD:=match op with
 | .Add=>(match y.2 with
  | .nd hd ys=>(match hd with
   | .tup=>if okE k xs = true/\okE y.1 ys = true/\xs.length + ys.length<=100000 then some (.sh,.tup (xs ++ ys)) else none
   | _=>none)
  | _=>none)
 | _=>none
noncomputable def binD (op:Operator) (x y:KD):Option KD:=match x.2 with
 | .int i=>(match y.2 with | .int j=>(match intOp op i j with | some z=>some (.sh,.int z) | none=>none) | _=>none)
 | .nd hd xs=>(match hd with | .lst=>lstOp op x.1 xs y | .tup=>tupOp op x.1 xs y | _=>none)
 | _=>none
theorem int_bin {op:Operator} {i j z:Int} {k k':Kd} (h:intOp op i j = some z):binD op (k,.int i) (k',.int j) = some (.sh,.int z):=by
 show (match intOp op i j with | some z=>some (Kd.sh,D.int z) | none=>none) = _
 rw [h]
theorem ifS {p:Prop} [Decidable p] {α:Type} {a b:α} (h:(if p then some a else none) = some b):p/\b = a:=by
 by_cases hp:p
 ·rw [if_pos hp] at h; cases h; exact ⟨hp,rfl⟩
 ·rw [if_neg hp] at h; cases h
theorem size_small {n:Nat} (h:n<=100000):n<=sizeLine:=Nat.le_trans h (by decide)
section
variable {K:PySem.W.Frag} {H H' H0:Hp} {S:Pr} {g:Gh}
theorem Rp.int {i:Int} {v:V} (h:Rp K H S (.int i) v):v = .int i:=by unfold Rp at h; exact h
theorem Rp.bl {i:Bool} {v:V} (h:Rp K H S (.bl i) v):v = .bl i:=by unfold Rp at h; exact h
theorem Rp.str {i:Str} {v:V} (h:Rp K H S (.str i) v):v = .str i:=by unfold Rp at h; exact h
theorem Rp.non {v:V} (h:Rp K H S .non v):v = .non:=by unfold Rp at h; exact h
theorem Rp.nd {hd:Hd} {ds:List D} {v:V} (h:Rp K H S (.nd hd ds) v):∃ a o xs,v = .ref a/\¬ S a/\H a = some o/\HdOk K o hd xs/\RpL K H S ds xs:=by unfold Rp at h; exact h
theorem Rp.scr {ns:List Int} {v:V} (h:Rp K H S (.scr ns) v):∃ a,v = .ref a/\SqL K H a (ns.map V.int):=by
 unfold Rp at h
 obtain ⟨a,e,h⟩:=h
 exact ⟨a,e,h.elim (fun h=>.inl h.2) .inr⟩
theorem vInt {i:Int}:VR K g H0 H .sh (.int i) (.int i):=⟨fun _=>False,fun _ z=>z.elim,fun _ z=>z,by unfold Rp; rfl⟩
theorem vBl {i:Bool}:VR K g H0 H .sh (.bl i) (.bl i):=⟨fun _=>False,fun _ z=>z.elim,fun _ z=>z,by unfold Rp; rfl⟩
theorem vStr {i:Str}:VR K g H0 H .sh (.str i) (.str i):=⟨fun _=>False,fun _ z=>z.elim,fun _ z=>z,by unfold Rp; rfl⟩
theorem vNon:VR K g H0 H .sh .non .non:=⟨fun _=>False,fun _ z=>z.elim,fun _ z=>z,by unfold Rp; rfl⟩
theorem vSh {d:D} {v:V} (h:Rp K H (Sg g) d v):VR K g H0 H .sh d v:=⟨fun _=>False,fun _ z=>z.elim,fun _ z=>z,h.weak fun b z=>z.elim id fun z=>z.elim⟩
theorem same_upd {p:Addr} {o:HO} (hp:H p = none):Same H (upd H p o):=fun b u q=>by rw [upd_ne (ne_of_none q hp)]; exact q
theorem TrL.ofFz:∀ {ds:List D} {xs:List V},RpL K H S ds xs->TrL K H S ds [] .fz xs fun _=>False
 | [],_,h=>by unfold TrL; exact ⟨h.nil_inv,fun _ z=>z⟩
 | d :: ds,_,h=>by
  obtain ⟨y,ys,rfl,r,t⟩:=h.cons_inv
  unfold TrL
  exact ⟨y,ys,_,_,rfl,fun b=>⟨.inl,fun z=>z.elim id id⟩,fun _ z=>z.elim,Tr.fz r,TrL.ofFz t⟩
theorem vNew {p:Addr} {ds:List D} {xs:List V} (hp:H p = none) (r:RpL K H (Sg g) ds xs):VR K g H (upd H p (.lst xs)) (.fr flatO) (.lst ds) (.ref p):=by
 refine ⟨fun b=>b = p,fun b z=>z ▸ hp,?_⟩
 show Tr K _ _ _ _ _ _
 unfold Tr
 refine ⟨p,_,xs,fun _=>False,rfl,upd_same,rfl,fun _ z=>z,(fun h=>nomatch h),fun b=>⟨fun z=>.inl ⟨rfl,z⟩,fun z=>z.elim (fun z=>z.2) fun z=>z.elim⟩,.ofFz (r.go fun b o n e=>⟨same_upd hp b o e,fun z=>z.elim n fun z=>?_⟩)⟩
 subst z; rw [hp] at e; cases e
theorem vTup {p:Addr} {ds:List D} {xs:List V} (m:MuOk H (Sg g)) (hp:H p = none) (r:RpL K H (Sg g) ds xs):VR K g H (upd H p (.tup xs)) .sh (.tup ds) (.ref p):=by
 refine vSh ?_
 unfold Rp
 refine ⟨p,_,xs,rfl,fun z=>?_,upd_same,rfl,r.same (same_upd hp)⟩
 obtain ⟨o,e,_⟩:=m p z
 rw [hp] at e; cases e
theorem flat_fz {es:List Ow} {r:Ow} (h:flatK (.own es r) = true):(∀ e ∈ es,e = .fz)/\r = .fz:=by
 simp only [flatK,Bool.and_eq_true,List.all_eq_true] at h
 exact ⟨fun e he=>isFz_eq (h.1 e he),isFz_eq h.2⟩
theorem TrL.flat:∀ {ds:List D} {es:List Ow} {xs:List V} {F:Pr},(∀ e ∈ es,e = .fz)->TrL K H S ds es .fz xs F->(∀ b,¬ F b)/\RpL K H S ds xs
 | [],_,_,_,_,h=>by unfold TrL at h; exact ⟨h.2,by rw [h.1]; exact .nil⟩
 | d :: ds,es,_,_,he,h=>by
  unfold TrL at h
  obtain ⟨y,ys,F1,F2,rfl,hF,dj,h1,h2⟩:=h
  have e:es.headD .fz = .fz:=by
   cases es with
   | nil=>rfl
   | cons a r=>exact he a (.head _)
  rw [e] at h1
  obtain ⟨n1,r1⟩:=h1.fz_inv
  obtain ⟨n2,r2⟩:=TrL.flat (fun e q=>he e (by cases es with | nil=>cases q | cons a r=>exact .tail _ q)) h2
  exact ⟨fun b z=>((hF b).mp z).elim (n1 b) (n2 b),.cons r1 r2⟩
theorem VR.items {kd:Kd} {hd:Hd} {ds:List D} {v:V} (ok:okE kd ds = true) (m:MuOk H0 (Sg g)) (s:Same H0 H) (h:VR K g H0 H kd (.nd hd ds) v):∃ a o xs,v = .ref a/\H a = some o/\HdOk K o hd xs/\RpL K H (Sg g) ds xs:=by
 have ns:∀ {kd':Kd},okS kd' (.nd hd ds) = true->VR K g H0 H kd' (.nd hd ds) v->∃ a o xs,v = .ref a/\H a = some o/\HdOk K o hd xs/\RpL K H (Sg g) ds xs:=fun ok h=>by
  obtain ⟨a,o,xs,e,_,q1,q2,q3⟩:=(h.sh ok m s).nd
  exact ⟨a,o,xs,e,q1,q2,q3⟩
 cases kd with
 | sh=>exact ns rfl h
 | fr k=>exact ns rfl h
 | bo i k=>
  simp only [okE,Bool.or_eq_true] at ok
  rcases ok with ok | ok
  ·obtain ⟨F,h1,h2,F0,h3,h4⟩:=h
   cases k with
   | fz=>
    obtain ⟨_,r⟩:=h4.fz_inv
    obtain ⟨a,o,xs,e,_,q1,q2,q3⟩:=r.nd
    exact ⟨a,o,xs,e,q1,q2,q3.weak fun b z=>.inl z⟩
   | own es r=>
    obtain ⟨he,rfl⟩:=flat_fz ok
    unfold Tr at h4
    obtain ⟨a,o,xs,F',e,q1,q2,n1,n2,hF,t⟩:=h4
    exact ⟨a,o,xs,e,q1,q2,(t.flat he).2.weak fun b z=>.inl z⟩
  ·obtain ⟨a,o,xs,e,_,q1,q2,q3⟩:=h.rd.nd
   exact ⟨a,o,xs,e,q1,q2,q3.im (m.same s) ok⟩
end
noncomputable def rBin (K:PySem.W.Frag) (op:Operator):R2:=fun x y H Q=>∃ g H0 kx ky kd d,MuOk H0 (Sg g)/\Same H0 H/\VR K g H0 H kx.1 kx.2 x/\VR K g H0 H ky.1 ky.2 y/\binD op kx ky = some (kd,d)/\∀ v H',Same H H'->VR K g H H' kd d v->Q v H'
theorem mulOk {i j:Int} (h:i.natAbs < lim/\j.natAbs < lim):IntMulOk i j:=
 IntMulOk.of_bits (Nat.le_trans (PyProof.Rows.intBits_le (k:=4000) h.1) (by decide)) (Nat.le_trans (PyProof.Rows.intBits_le (k:=4000) h.2) (by decide))
theorem log_lim {j:Int} (h:j.natAbs < lim):j.natAbs.log2 < 9000:=by
 by_cases z:j.natAbs = 0
 ·rw [z]; decide
 ·exact Nat.lt_of_lt_of_le ((Nat.log2_lt z).mpr h) (by decide)
theorem op_mulW {X:Cx}:OpR X (binaryOp .Mult) (rI (fun i j=>i.natAbs < lim/\j.natAbs < lim) fun i j=>.int (i * j)):=opI fun _ _ _ _ _ _ _ hc q=>PyProof.Rows.mul_int q (mulOk hc)
theorem op_fdivW {X:Cx}:OpR X (binaryOp .FloorDiv) (rI (fun i j=>0 < j/\j.natAbs < lim) fun i j=>.int (i / j)):=opI fun i j _ _ _ _ _ hc q=>by
 have h1:(0:Int) < j:=hc.1
 exact PyProof.Rows.floordiv_int (by omega) (by rw [Int.fdiv_eq_ediv_of_nonneg i (by omega)]; exact q) (.inl (PyProof.noPylong_of_log2 (log_lim hc.2)))
theorem op_shlW {X:Cx}:OpR X (binaryOp .LShift) (rI (fun i j=>0<=j/\j<=1000000/\i.natAbs < lim) fun i j=>.int (i * 2 ^ j.toNat)):=opI fun i j _ _ _ _ _ hc q=>by
 have hb:=PyProof.Rows.intBits_le (k:=4000) hc.2.2
 exact PyProof.Rows.lshift_int hc.1 (by have:=hc.2.1; omega) q
theorem op_bin {X:Cx} (op:Operator):OpR X (binaryOp op) (rBin X.K op):=by
 intro pins s σ H x y v u Q I rx ry h
 obtain ⟨g,H0,⟨kx,dx⟩,⟨ky,dy⟩,kd,d,m,sm,tx,ty,hb,q⟩:=h
 dsimp only at tx ty
 cases dx with
 | int i=>cases dy with
  | int j=>
   obtain ⟨rfl,rfl⟩:x = .int i/\y = .int j:=⟨tx.rd.int,ty.rd.int⟩
   have hb:(match intOp op i j with | some z=>some (Kd.sh,D.int z) | none=>none) = some (kd,d):=hb
   cases hz:intOp op i j with
   | none=>rw [hz] at hb; cases hb
   | some z=>
    rw [hz] at hb
    cases hb
    have q:Q (.int z) H:=q _ H (Same.refl H) vInt
    cases op with
    | Add=>cases hz; exact op_add pins s σ H _ _ v u Q I rx ry ⟨_,_,rfl,rfl,q⟩
    | Sub=>cases hz; exact op_sub pins s σ H _ _ v u Q I rx ry ⟨_,_,rfl,rfl,q⟩
    | Mult=>obtain ⟨hm,rfl⟩:=ifS (show (if _ then some (i * j) else none) = some z from hz); exact op_mulW pins s σ H _ _ v u Q I rx ry ⟨_,_,rfl,rfl,hm,q⟩
    | FloorDiv=>obtain ⟨hm,rfl⟩:=ifS (show (if _ then some (i / j) else none) = some z from hz); exact op_fdivW pins s σ H _ _ v u Q I rx ry ⟨_,_,rfl,rfl,hm,q⟩
    | Mod=>obtain ⟨hm,rfl⟩:=ifS (show (if _ then some (i % j) else none) = some z from hz); exact op_mod pins s σ H _ _ v u Q I rx ry ⟨_,_,rfl,rfl,hm,q⟩
    | LShift=>obtain ⟨hm,rfl⟩:=ifS (show (if _ then some (i * 2 ^ j.toNat) else none) = some z from hz); exact op_shlW pins s σ H _ _ v u Q I rx ry ⟨_,_,rfl,rfl,hm,q⟩
    | Pow=>obtain ⟨hm,rfl⟩:=ifS (show (if _ then some (i ^ j.toNat) else none) = some z from hz); exact op_pow pins s σ H _ _ v u Q I rx ry ⟨_,_,rfl,rfl,hm,q⟩
    | RShift=>obtain ⟨hm,rfl⟩:=ifS (show (if _ then some (i / 2 ^ j.toNat) else none) = some z from hz); exact op_shr pins s σ H _ _ v u Q I rx ry ⟨_,_,rfl,rfl,hm,q⟩
    | BitAnd=>cases hz; exact op_and pins s σ H _ _ v u Q I rx ry ⟨_,_,rfl,rfl,q⟩
    | BitOr=>cases hz; exact op_or pins s σ H _ _ v u Q I rx ry ⟨_,_,rfl,rfl,q⟩
    | BitXor=>cases hz; exact op_xor pins s σ H _ _ v u Q I rx ry ⟨_,_,rfl,rfl,q⟩
    | _=>cases hz
  | _=>cases hb
 | nd hd xs=>cases hd with
  | lst=>cases op with
   | Add=>cases dy with
    | nd hd' ys=>cases hd' with
     | lst=>
      obtain ⟨hz,e⟩:=ifS (show (if _ then some (Kd.fr flatO,D.lst (xs ++ ys)) else none) = some (kd,d) from hb)
      cases e
      obtain ⟨a,o,us,rfl,ga,qa,ra⟩:=tx.items hz.1 m sm
      obtain ⟨b,o',vs,rfl,gb,qb,rb⟩:=ty.items hz.2.1 m sm
      cases (show o = _ from qa)
      cases (show o' = _ from qb)
      refine op_cat pins s σ H _ _ v u Q I rx ry ⟨a,b,us,vs,rfl,rfl,ga,gb,by rw [ra.len,rb.len]; exact size_small hz.2.2,fun p hp=>q _ _ (same_upd hp) (vNew hp (ra.append rb))⟩
     | _=>cases hb
    | _=>cases hb
   | Mult=>cases dy with
    | int n=>
     obtain ⟨hz,e⟩:=ifS (show (if _ then some (Kd.fr flatO,D.lst (List.replicate n.toNat xs).flatten) else none) = some (kd,d) from hb)
     cases e
     obtain ⟨a,o,us,rfl,ga,qa,ra⟩:=tx.items hz.1 m sm
     cases (show o = _ from qa)
     obtain rfl:=ty.rd.int
     refine op_rep pins s σ H _ _ v u Q I rx ry ⟨a,_,us,rfl,rfl,ga,by omega,by omega,by rw [ra.len]; exact size_small hz.2.2.2,fun p hp=>q _ _ (same_upd hp) (vNew hp (ra.rep _))⟩
    | _=>cases hb
   | _=>cases hb
  | tup=>cases op with
   | Add=>cases dy with
    | nd hd' ys=>cases hd' with
     | tup=>
      obtain ⟨hz,e⟩:=ifS (show (if _ then some (Kd.sh,D.tup (xs ++ ys)) else none) = some (kd,d) from hb)
      cases e
      obtain ⟨a,o,us,rfl,ga,qa,ra⟩:=tx.items hz.1 m sm
      obtain ⟨b,o',vs,rfl,gb,qb,rb⟩:=ty.items hz.2.1 m sm
      cases (show o = _ from qa)
      cases (show o' = _ from qb)
      by_cases hx:xs = []
      ·subst hx
       have hu:us = []:=List.length_eq_zero_iff.mp (by rw [ra.len]; rfl)
       subst hu
       refine op_catT0 pins s σ H _ _ v u Q I rx ry ⟨a,b,vs,rfl,rfl,.of ga,.of gb,?_⟩
       refine q _ H (Same.refl H) (vSh ?_)
       unfold Rp
       refine ⟨b,_,vs,rfl,fun z=>?_,gb,rfl,by simpa using rb⟩
       obtain ⟨o,e,n⟩:=m.same sm b z
       rw [gb] at e; cases e; exact n _ rfl
      refine op_catT pins s σ H _ _ v u Q I rx ry ⟨a,b,us,vs,rfl,rfl,.of ga,.of gb,fun e=>hx (by have:=ra.len; rw [e] at this; exact List.length_eq_zero_iff.mp this.symm),by rw [ra.len,rb.len]; exact size_small hz.2.2,fun e=>?_,fun _ p hp=>q _ _ (same_upd hp) (vTup (m.same sm) hp (ra.append rb))⟩
      subst e
      refine q _ H (Same.refl H) (vSh ?_)
      unfold Rp
      refine ⟨a,_,us,rfl,fun z=>?_,ga,rfl,by simpa using ra.append rb⟩
      obtain ⟨o,e,n⟩:=m.same sm a z
      rw [ga] at e; cases e; exact n _ rfl
     | _=>cases hb
    | _=>cases hb
   | _=>cases hb
  | _=>cases hb
 | _=>cases hb
end J
namespace J
open PySem PySem.Spec L2
section
variable {K:PySem.W.Frag} {H:Hp} {S:Pr}
end
noncomputable def isNon:D->Bool
 | .non=>true
 | _=>false
noncomputable def isBl (b:Bool):D->Bool
 | .bl c=>c == b
 | _=>false
noncomputable def cmpD (op:CmpOp) (x y:D):Option Bool:=
 match op with
 | .Lt=>(match x,y with | .int i,.int j=>some (decide (i < j)) | _,_=>none)
 | .LtE=>(match x,y with | .int i,.int j=>some (decide (i<=j)) | _,_=>none)
 | .Gt=>(match x,y with | .int i,.int j=>some (decide (j < i)) | _,_=>none)
 | .GtE=>(match x,y with | .int i,.int j=>some (decide (j<=i)) | _,_=>none)
 | .Eq=>if pok 90 x = true/\pok 90 y = true then some (eqD x y) else none
 | .NotEq=>if pok 90 x = true/\pok 90 y = true then some (!eqD x y) else none
 | .In=>none
 | .NotIn=>none
 | .Is=>(match y with
  | .non=>some (isNon x)
  | .bl b=>some (isBl b x)
  | _=>none)
 | .IsNot=>(match y with
  | .non=>some (!isNon x)
  | .bl b=>some (!isBl b x)
  | _=>none)
noncomputable abbrev Nv:Pr:=fun _=>False
noncomputable def rCmp (K:PySem.W.Frag) (op:CmpOp):R2:=fun x y H Q=>∃ dx dy b,Rp K H Nv dx x/\Rp K H Nv dy y/\cmpD op dx dy = some b/\Q (.bl b) H
theorem op_cmp {X:Cx} (hu:X.A.units + 100 < cLine) (op:CmpOp):OpR X (compareOp op) (rCmp X.K op):=by
 intro pins s σ H x y v u Q I rx ry h
 obtain ⟨dx,dy,b,tx,ty,hb,q⟩:=h
 have hu1:X.A.units + 1 < cLine:=by omega
 have fin:∀ {b':Bool},b' = b->EP X pins σ Q (.bool b') s:=fun e=>⟨.bl b,H,I,by rw [e]; rfl,q⟩
 have isV:∀ (b':Bool),dy = .bl b'->plainIs v u = true/\(v == u) = isBl b' dx:=fun b' e=>by
  subst e
  have ey:=ty.bl; subst ey; cases ry
  cases dx with
  | non=>have e:=tx.non; subst e; cases rx; exact ⟨rfl,rfl⟩
  | bl c=>have e:=tx.bl; subst e; cases rx; exact ⟨rfl,by cases c <;> cases b' <;> rfl⟩
  | int i=>have e:=tx.int; subst e; obtain ⟨t,rfl⟩:=rx; exact ⟨rfl,rfl⟩
  | str i=>have e:=tx.str; subst e; obtain ⟨t,rfl⟩:=rx; exact ⟨rfl,rfl⟩
  | scr ns=>obtain ⟨a,rfl,_⟩:=tx.scr; cases rx; exact ⟨rfl,rfl⟩
  | nd hd ds=>obtain ⟨a,o,xs,rfl,_⟩:=tx.nd; cases rx; exact ⟨rfl,rfl⟩
 have isN:dy = .non->plainIs v u = true/\(v == u) = isNon dx:=fun e=>by
  subst e
  have ey:=ty.non; subst ey; cases ry
  cases dx with
  | non=>have e:=tx.non; subst e; cases rx; exact ⟨rfl,rfl⟩
  | bl c=>have e:=tx.bl; subst e; cases rx; exact ⟨rfl,by cases c <;> rfl⟩
  | int i=>have e:=tx.int; subst e; obtain ⟨t,rfl⟩:=rx; exact ⟨rfl,rfl⟩
  | str i=>have e:=tx.str; subst e; obtain ⟨t,rfl⟩:=rx; exact ⟨rfl,rfl⟩
  | scr ns=>obtain ⟨a,rfl,_⟩:=tx.scr; cases rx; exact ⟨rfl,rfl⟩
  | nd hd ds=>obtain ⟨a,o,xs,rfl,_⟩:=tx.nd; cases rx; exact ⟨rfl,rfl⟩
 cases op with
 | Lt=>
  simp only [cmpD] at hb
  split at hb
  ·cases hb; obtain rfl:=tx.int; obtain rfl:=ty.int
   exact op_lt pins s σ H _ _ v u Q I rx ry ⟨_,_,rfl,rfl,q⟩
  ·cases hb
 | LtE=>
  simp only [cmpD] at hb
  split at hb
  ·cases hb; obtain rfl:=tx.int; obtain rfl:=ty.int
   exact op_le pins s σ H _ _ v u Q I rx ry ⟨_,_,rfl,rfl,q⟩
  ·cases hb
 | Gt=>
  simp only [cmpD] at hb
  split at hb
  ·cases hb; obtain rfl:=tx.int; obtain rfl:=ty.int
   exact op_gt pins s σ H _ _ v u Q I rx ry ⟨_,_,rfl,rfl,q⟩
  ·cases hb
 | GtE=>
  simp only [cmpD] at hb
  split at hb
  ·cases hb; obtain rfl:=tx.int; obtain rfl:=ty.int
   exact op_ge pins s σ H _ _ v u Q I rx ry ⟨_,_,rfl,rfl,q⟩
  ·cases hb
 | Eq=>
  simp only [cmpD] at hb
  split at hb
  ·rename_i hp
   cases hb
   obtain ⟨⟨as,ra⟩,a1,a2⟩:=reads_of I hp.1 tx rx
   obtain ⟨⟨bs,rb⟩,b1,b2⟩:=reads_of I hp.2 ty ry
   exact SeqAt.compareEq_reads ra rb a1 b1 (by omega) (fin rfl)
  ·cases hb
 | NotEq=>
  simp only [cmpD] at hb
  split at hb
  ·rename_i hp
   cases hb
   obtain ⟨⟨as,ra⟩,a1,a2⟩:=reads_of I hp.1 tx rx
   obtain ⟨⟨bs,rb⟩,b1,b2⟩:=reads_of I hp.2 ty ry
   exact SeqAt.compareNe_reads ra rb a1 b1 (by omega) (fin rfl)
  ·cases hb
 | In=>cases hb
 | NotIn=>cases hb
 | Is=>
  simp only [cmpD] at hb
  split at hb
  ·cases hb
   obtain ⟨p,e⟩:=isN rfl
   exact wpAny_is_plain p (fin e)
  ·cases hb
   obtain ⟨p,e⟩:=isV _ rfl
   exact wpAny_is_plain p (fin e)
  ·cases hb
 | IsNot=>
  simp only [cmpD] at hb
  split at hb
  ·cases hb
   obtain ⟨p,e⟩:=isN rfl
   exact wpAny_isNot_plain p (fin (by rw [e]))
  ·cases hb
   obtain ⟨p,e⟩:=isV _ rfl
   exact wpAny_isNot_plain p (fin (by rw [e]))
  ·cases hb
noncomputable def truD:D->Option Bool
 | .non=>some false
 | .bl b=>some b
 | .int i=>some (i != 0)
 | .scr ns=>some (!ns.isEmpty)
 | .nd .lst xs=>some (!xs.isEmpty)
 | .nd .tup xs=>some (!xs.isEmpty)
 | _=>none
theorem RpL.empty {K:PySem.W.Frag} {H:Hp} {S:Pr} {ds:List D} {vs:List V} (h:RpL K H S ds vs):vs.isEmpty = ds.isEmpty:=by
 have:=h.len
 cases vs <;> cases ds <;> simp_all
theorem tru_of {K:PySem.W.Frag} {H:Hp} {S:Pr} {d:D} {v:V} {b:Bool} (t:Rp K H S d v) (h:truD d = some b):TruV K v H b:=by
 cases d with
 | non=>obtain rfl:=t.non; cases h; rfl
 | bl k=>obtain rfl:=t.bl; cases h; rfl
 | int i=>obtain rfl:=t.int; cases h; rfl
 | str x=>cases h
 | scr ns=>
  obtain ⟨a,rfl,g⟩:=t.scr
  cases h
  exact .inl ⟨_,g,by cases ns <;> rfl⟩
 | nd hd xs=>
  obtain ⟨a,o,us,rfl,_,g,q,r⟩:=t.nd
  cases hd with
  | lst=>cases h; cases (show o = _ from q); exact .inl ⟨us,.of g,by rw [r.empty]⟩
  | tup=>cases h; cases (show o = _ from q); exact .inr (.inl ⟨us,.of g,by rw [r.empty]⟩)
  | dic t ks=>cases h
  | obj c ns=>cases h
end J
namespace J
open PySem PySem.Spec L2
noncomputable def Ow.ch:Ow->Nat->Ow
 | .fz,_=>.fz
 | .own es r,i=>es.getD i r
noncomputable def chK:Kd->Nat->Kd
 | .sh,_=>.sh
 | .fr k,i=>(match k.ch i with | .fz=>.sh | c=>.fr c)
 | .bo j k,i=>(match k.ch i with | .fz=>.sh | c=>.bo j c)
section
variable {K:PySem.W.Frag} {H H' H0:Hp} {S:Pr} {g:Gh}
theorem TrL.len:∀ {ds:List D} {es:List Ow} {r:Ow} {xs:List V} {F:Pr},TrL K H S ds es r xs F->xs.length = ds.length
 | [],_,_,_,_,h=>by unfold TrL at h; rw [h.1]; rfl
 | d :: ds,es,r,xs,F,h=>by
  unfold TrL at h
  obtain ⟨y,ys,F1,F2,rfl,_,_,_,h2⟩:=h
  rw [List.length_cons,List.length_cons,TrL.len h2]
theorem TrL.get:∀ {ds:List D} {es:List Ow} {r:Ow} {xs:List V} {F:Pr} {i:Nat} {d:D},TrL K H S ds es r xs F->ds[i]? = some d->∃ x Fi,xs[i]? = some x/\(∀ b,Fi b->F b)/\Tr K H S d (es.getD i r) x Fi
 | [],_,_,_,_,_,_,h,e=>by simp at e
 | d :: ds,es,r,xs,F,0,d',h,e=>by
  unfold TrL at h
  obtain ⟨y,ys,F1,F2,rfl,hF,_,h1,h2⟩:=h
  simp at e
  subst e
  exact ⟨y,F1,rfl,fun b z=>(hF b).mpr (.inl z),by cases es <;> simpa using h1⟩
 | d :: ds,es,r,xs,F,i + 1,d',h,e=>by
  unfold TrL at h
  obtain ⟨y,ys,F1,F2,rfl,hF,_,h1,h2⟩:=h
  obtain ⟨x,Fi,e1,e2,e3⟩:=TrL.get h2 (by simpa using e)
  exact ⟨x,Fi,by simpa using e1,fun b z=>(hF b).mpr (.inr (e2 b z)),by cases es <;> simpa using e3⟩
theorem VR.ch {kd:Kd} {hd:Hd} {ds:List D} {v:V} (h:VR K g H0 H kd (.nd hd ds) v):∃ a o xs,v = .ref a/\H a = some o/\HdOk K o hd xs/\xs.length = ds.length/\∀ (i:Nat) d,ds[i]? = some d->∃ x,xs[i]? = some x/\VR K g H0 H (chK kd i) d x:=by
 obtain ⟨F,h1,h2⟩:=h
 have shc:∀ {S':Pr},(∀ b,g b ≠ none->S' b)->Rp K H S' (.nd hd ds) v->∃ a o xs,v = .ref a/\H a = some o/\HdOk K o hd xs/\xs.length = ds.length/\∀ (i:Nat) d,ds[i]? = some d->∃ x,xs[i]? = some x/\VR K g H0 H .sh d x:=fun hs r=>by
  obtain ⟨a,o,xs,e,n,q1,q2,q3⟩:=r.nd
  refine ⟨a,o,xs,e,q1,q2,q3.len,fun i d e=>?_⟩
  obtain ⟨x,e1,e2⟩:=q3.getD e
  exact ⟨x,e1,vSh (e2.weak fun b z=>hs b z)⟩
 cases kd with
 | sh=>exact shc (fun b z=>.inl z) h2.2
 | fr k=>
  have h2:Tr K H (Sx g F) _ k v F:=h2
  cases k with
  | fz=>
   obtain ⟨a,o,xs,e,q1,q2,q3,q4⟩:=shc (fun b z=>.inl z) h2.fz_inv.2
   exact ⟨a,o,xs,e,q1,q2,q3,q4⟩
  | own es r=>
   unfold Tr at h2
   obtain ⟨a,o,xs,F',e,q1,q2,n1,n2,hF,t⟩:=h2
   refine ⟨a,o,xs,e,q1,q2,t.len,fun i d e=>?_⟩
   obtain ⟨x,Fi,e1,e2,e3⟩:=t.get e
   refine ⟨x,e1,?_⟩
   have hs:∀ b o,H b = some o->¬ Sx g F b->¬ Sx g Fi b:=fun b o _ n z=>n (z.imp id fun z=>(hF b).mpr (.inr (e2 b z)))
   show VR K g H0 H (match es.getD i r with | .fz=>.sh | c=>.fr c) d x
   cases hc:es.getD i r with
   | fz=>
    rw [hc] at e3
    exact vSh (e3.fz_inv.2.weak fun b z=>.inl z)
   | own es' r'=>
    rw [hc] at e3
    exact ⟨Fi,fun b z=>h1 b ((hF b).mpr (.inr (e2 b z))),e3.go (fun _ _ _ h=>h) hs⟩
 | bo j k=>
  obtain ⟨hn,F0,h3,h4⟩:=h2
  cases k with
  | fz=>
   obtain ⟨a,o,xs,e,q1,q2,q3,q4⟩:=shc (fun b z=>.inl z) h4.fz_inv.2
   exact ⟨a,o,xs,e,q1,q2,q3,q4⟩
  | own es r=>
   unfold Tr at h4
   obtain ⟨a,o,xs,F',e,q1,q2,n1,n2,hF,t⟩:=h4
   refine ⟨a,o,xs,e,q1,q2,t.len,fun i d e=>?_⟩
   obtain ⟨x,Fi,e1,e2,e3⟩:=t.get e
   refine ⟨x,e1,?_⟩
   show VR K g H0 H (match es.getD i r with | .fz=>.sh | c=>.bo j c) d x
   cases hc:es.getD i r with
   | fz=>
    rw [hc] at e3
    exact vSh (e3.fz_inv.2.weak fun b z=>.inl z)
   | own es' r'=>
    rw [hc] at e3
    exact ⟨F,h1,hn,Fi,fun b z=>h3 b ((hF b).mpr (.inr (e2 b z))),e3⟩
end
structure Cz where
 sc:Scope
 N:List Str
 fn:Str->Bool
noncomputable abbrev Fn:=List D->Option KD
structure Tab where
 fn:Str->Option Fn
 fm:Str->Option (PySem.W.Frag->Sp)
 cst:Str->Option D
noncomputable def ixOf (x:Str):List Str->Option Nat
 | []=>none
 | y :: r=>if x = y then some 0 else (ixOf x r).map (· + 1)
theorem ixOf_get {x:Str}:∀ {N:List Str} {i:Nat},ixOf x N = some i->N[i]? = some x
 | [],_,h=>by cases h
 | y :: r,i,h=>by
  unfold ixOf at h
  split at h
  ·rename_i e
   cases h
   simp [e]
  ·cases q:ixOf x r with
   | none=>rw [q] at h; cases h
   | some j=>
    rw [q] at h
    cases h
    simpa using ixOf_get q
noncomputable def visB (sc:Scope) (x:Str):Bool:=sc.names.lookup x == some .local || sc.names.lookup x == some .cell || sc.names.lookup x == some .free
noncomputable def locB (c:Cz) (x:Str):Bool:=c.sc.names.lookup x == some .local || (c.fn x && c.sc.names.lookup x == some .cell)
noncomputable def ownC (scope:Scope) (x:Str):Bool:=scope.names.lookup x == some .cell
noncomputable def glB (sc:Scope) (x:Str):Bool:=sc.names.lookup x == some .globalImplicit
theorem visB_ok {sc:Scope} {x:Str} (h:visB sc x = true):Vis sc x:=by
 simp only [visB,Bool.or_eq_true,beq_iff_eq] at h
 rcases h with (h | h) | h
 ·exact .inl h
 ·exact .inr (.inl h)
 ·exact .inr (.inr h)
noncomputable def nameOk (x:Str):Bool:=!(x == ("__debug__":Str)) && !(x == ("__classdict__":Str))
noncomputable def spF (K:PySem.W.Frag) (φ:Fn):Sp:=fun vs H Q _=>∃ ds g kd d,RpL K H (Sg g) ds vs/\MuOk H (Sg g)/\φ ds = some (kd,d)/\∀ v H',Same H H'->VR K g H H' kd d v->Q v H'
noncomputable def bltNames:List Str:=["len","isinstance","int","bool","list","all","range","enumerate","str","sum","min","max","abs","tuple","zip","dict","sorted","reversed","any","set","repr"]
structure TabOk (X:Cx) (Γ:Tab):Prop where
 fn:∀ x φ,Γ.fn x = some φ->∃ k f fd ps,FnOk X.prog X.w X.K X.mg X.base CX0 k f fd ps (spF X.K φ)/\Room k X.A/\X.mg x = some (.ref f)/\PySem.W.keepIn X.K (.ref f) = true/\Binds X.K fd ps []/\(x == ("__debug__":Str)) = false
 fm:∀ x sp,Γ.fm x = some sp->∃ k f fd ps,FnOk X.prog X.w X.K X.mg X.base CX0 k f fd ps (sp X.K)/\Room k X.A/\X.mg x = some (.ref f)/\PySem.W.keepIn X.K (.ref f) = true/\Binds X.K fd ps []/\(x == ("__debug__":Str)) = false
 bl:∀ x ∈ bltNames,X.mg x = none
 units:X.A.units + 100 < cLine
 gd:X.A.guards = some []
 cst:∀ x d,Γ.cst x = some d->∃ u v,X.mg x = some u/\RelV v u/\(∀ H S,Rp X.K H S d v)/\(x == ("__debug__":Str)) = false
structure CxOk (X:Cx) (Γ:Tab) (c:Cz):Prop where
 sc:X.env.scope = c.sc
 N:X.N = c.N
 fn:∀ x,c.fn x = true->X.fn x = true
 calm:X.calm = true
 nd:c.N.Nodup
 tab:TabOk X Γ
section
variable {X:Cx} {Γ:Tab} {c:Cz}
theorem gl_of (O:CxOk X Γ c) {x:Str} (h:glB c.sc x = true):Gl X x:=by
 show X.env.scope.names.lookup x = _
 rw [O.sc]
 simpa [glB] using h
theorem loc_of (O:CxOk X Γ c) {x:Str} (h:locB c x = true):Loc X.env.scope x/\(X.fn x = true\/X.env.scope.names.lookup x = some .local):=by
 simp only [locB,Bool.or_eq_true,Bool.and_eq_true,beq_iff_eq] at h
 rw [O.sc]
 rcases h with h | h
 ·exact ⟨.inl h,.inr h⟩
 ·exact ⟨.inr h.2,.inl (O.fn x h.1)⟩
noncomputable def oVar (i:Nat) (o:Option (Option Sl)):Option KD:=match o with | some (some s)=>some (slKd i s) | _=>none
noncomputable def cVar (c:Cz) (x:Str):Option Nat:=match ixOf x c.N with | some i=>if visB c.sc x && nameOk x then some i else none | none=>none
theorem s_var (O:CxOk X Γ c) {x:Str} {i:Nat} (hc:cVar c x = some i) (pos:Pos):SndE X (fun ρ=>oVar i ρ[i]?) (.Name x pos):=by
 intro ρ kd d h g σ H Q se q
 unfold cVar at hc
 split at hc
 ·rename_i j hj
  split at hc
  ·rename_i hv
   cases hc
   simp only [Bool.and_eq_true,nameOk,Bool.not_eq_true'] at hv
   dsimp only [oVar] at h
   split at h
   ·rename_i sl e
    cases h
    obtain ⟨v,e1,e2⟩:=se.get e
    exact pe_le (pe_var (i:=i) (by rw [O.N]; exact ixOf_get hj) (by rw [O.sc]; exact visB_ok hv.1) hv.2.1 hv.2.2) ⟨v,e1,q v H (Same.refl H) e2⟩
   ·cases h
  ·cases hc
 ·cases hc
theorem s_int (i:Int) (j:Nat) (pos:Pos):SndE X (fun _=>some (.sh,.int i)) (.Constant (.int i) j pos):=by
 intro ρ kd d h g σ H Q se q
 cases h
 exact pe_le pe_int (q _ H (Same.refl H) vInt)
theorem s_bl (i:Bool) (j:Nat) (pos:Pos):SndE X (fun _=>some (.sh,.bl i)) (.Constant (.bool i) j pos):=by
 intro ρ kd d h g σ H Q se q
 cases h
 exact pe_le pe_bl (q _ H (Same.refl H) vBl)
theorem s_non (j:Nat) (pos:Pos):SndE X (fun _=>some (.sh,.non)) (.Constant .none j pos):=by
 intro ρ kd d h g σ H Q se q
 cases h
 exact pe_le pe_non (q _ H (Same.refl H) vNon)
theorem s_str (x:Str) (j:Nat) (pos:Pos):SndE X (fun _=>some (.sh,.str x)) (.Constant (.str x) j pos):=by
 intro ρ kd d h g σ H Q se q
 cases h
 exact pe_le pe_str (q _ H (Same.refl H) vStr)
theorem s_cst (O:CxOk X Γ c) {x:Str} {d:D} (hg:glB c.sc x = true) (e:Γ.cst x = some d) (pos:Pos):SndE X (fun _=>some (.sh,d)) (.Name x pos):=by
 intro ρ kd d' h g σ H Q se q
 cases h
 obtain ⟨u,v,h1,h2,h3,h4⟩:=O.tab.cst x d e
 exact pe_le (pe_glob (gl_of O hg) h1 h2 h4) (q v H (Same.refl H) (vSh (h3 H _)))
theorem two {fa fb:Ro->Option KD} {a b:Expr} (ha:SndE X fa a) (hb:SndE X fb b) {ρ:Ro} {ka kb:Kd} {da db:D} (ea:fa ρ = some (ka,da)) (eb:fb ρ = some (kb,db)) {g:Gh} {σ:L2.St} {H:Hp} {R:V->V->Hp->Prop} (se:SE X.K g ρ σ H)
  (q:∀ x y H',Same H H'->VR X.K g H H' ka da x->VR X.K g H H' kb db y->R x y H'):wE X a σ H fun x H1=>wE X b σ H1 fun y H2=>R x y H2:=
 ha ρ ka da ea g σ H _ se fun x H1 s1 v1=>hb ρ kb db eb g σ H1 _ (se.same s1) fun y H2 s2 v2=>q x y H2 (s1.trans s2) (v1.same s2) (v2.older s1)
noncomputable def oBin (op:Operator) (a b:Option KD):Option KD:=match a,b with
 | some x,some y=>binD op x y
 | _,_=>none
theorem s_bin {fa fb:Ro->Option KD} {a b:Expr} {op:Operator} {pos:Pos} (ha:SndE X fa a) (hb:SndE X fb b):SndE X (fun ρ=>oBin op (fa ρ) (fb ρ)) (.BinOp a op b pos):=by
 intro ρ kd d h g σ H Q se q
 dsimp only [oBin] at h
 split at h
 ·rename_i x y ea eb
  exact pe_le (pe_op (op_bin op) pe_w pe_w) (two ha hb ea eb se fun vx vy H' s r1 r2=>⟨g,H,x,y,kd,d,se.mu,s,r1,r2,h,fun v H2 s2 r=>q v H2 (s.trans s2) (r.older s)⟩)
 ·cases h
noncomputable def oCmp (op:CmpOp) (a b:Option KD):Option Bool:=match a,b with
 | some (_,x),some (_,y)=>cmpD op x y
 | _,_=>none
noncomputable def bV (o:Option Bool):Option KD:=o.map fun b=>(.sh,.bl b)
theorem s_cmp {fa fb:Ro->Option KD} {a b:Expr} {op:CmpOp} {pos:Pos} (O:CxOk X Γ c) (hm:behindInMarks op b = false) (ha:SndE X fa a) (hb:SndE X fb b):SndE X (fun ρ=>bV (oCmp op (fa ρ) (fb ρ))) (.Compare a [op] [b] pos):=by
 intro ρ kd d h g σ H Q se q
 cases hc:oCmp op (fa ρ) (fb ρ) with
 | none=>simp only [hc,bV] at h; cases h
 | some r=>
  simp only [hc,bV] at h
  cases h
  unfold oCmp at hc
  split at hc
  ·rename_i ka x kb y ea eb
   exact pe_le (pe_cmpR (op_cmp O.tab.units op) pe_w pe_w hm) (two ha hb ea eb se fun vx vy H' s vx' vy'=>⟨x,y,r,vx'.rd,vy'.rd,hc,q _ H' s vBl⟩)
  ·cases hc
theorem t_cmp {fa fb:Ro->Option KD} {a b:Expr} {op:CmpOp} {pos:Pos} (O:CxOk X Γ c) (hm:behindInMarks op b = false) (ha:SndE X fa a) (hb:SndE X fb b):SndT X (fun ρ=>oCmp op (fa ρ) (fb ρ)) (.Compare a [op] [b] pos):=by
 intro ρ r hc g σ H Q se q
 dsimp only [oCmp] at hc
 split at hc
 ·rename_i ka x kb y ea eb
  exact pt_le (pt_cmpR (op_cmp O.tab.units op) pe_w pe_w hm) (two ha hb ea eb se fun vx vy H' s vx' vy'=>⟨x,y,r,vx'.rd,vy'.rd,hc,r,rfl,q H' s⟩)
 ·cases hc
noncomputable def oChain (op op':CmpOp) (a b z:Option KD):Option Bool:=match a,b with
 | some (_,x),some (_,y)=>(match cmpD op x y with
  | some true=>(match z with | some (_,z)=>cmpD op' y z | none=>none)
  | some false=>some false
  | none=>none)
 | _,_=>none
theorem chain_read {fa fb fc:Ro->Option KD} {a b e:Expr} {op op':CmpOp} (ha:SndE X fa a) (hb:SndE X fb b) (he:SndE X fc e) {ρ:Ro} {r:Bool} (h:oChain op op' (fa ρ) (fb ρ) (fc ρ) = some r) {g:Gh} {σ:L2.St} {H:Hp} {Q:VK} (se:SE X.K g ρ σ H) (q:∀ H',Same H H'->Q (.bl r) H') :
  tChain (rCmp X.K op) (rCmp X.K op') (wE X a) (wE X b) (wE X e) σ H Q:=by
 unfold oChain at h
 split at h
 ·rename_i ka x kb y ea eb
  split at h
  ·rename_i h1
   split at h
   ·rename_i kz z ez
    refine two ha hb ea eb se fun vx vy H' s vx' vy'=>⟨x,y,true,vx'.rd,vy'.rd,h1,true,rfl,?_⟩
    exact iteT (he ρ kz z ez g σ H' _ (se.same s) fun vz H2 s2 vz'=>⟨y,z,r,(vy'.same s2).rd,vz'.rd,h,q H2 (s.trans s2)⟩)
   ·cases h
  ·rename_i h1
   cases h
   exact two ha hb ea eb se fun vx vy H' s vx' vy'=>⟨x,y,false,vx'.rd,vy'.rd,h1,false,rfl,iteF (q H' s)⟩
  ·cases h
 ·cases h
theorem s_chain {fa fb fc:Ro->Option KD} {a b e:Expr} {op op':CmpOp} {pos:Pos} (O:CxOk X Γ c) (hm:behindInMarks op' e = false) (ha:SndE X fa a) (hb:SndE X fb b) (he:SndE X fc e):SndE X (fun ρ=>bV (oChain op op' (fa ρ) (fb ρ) (fc ρ))) (.Compare a [op,op'] [b,e] pos):=by
 intro ρ kd d h g σ H Q se q
 cases hc:oChain op op' (fa ρ) (fb ρ) (fc ρ) with
 | none=>simp only [hc,bV] at h; cases h
 | some r=>
  simp only [hc,bV] at h
  cases h
  exact pe_le (pe_chain (op_cmp O.tab.units op) (op_cmp O.tab.units op') pe_w pe_w pe_w hm) (chain_read ha hb he hc se (Q:=Q) fun H' s=>q _ H' s vBl)
noncomputable def oNeg (a:Option KD):Option KD:=match a with | some (_,.int i)=>some (.sh,.int (-i)) | _=>none
theorem s_neg {fa:Ro->Option KD} {a:Expr} {pos:Pos} (ha:SndE X fa a):SndE X (fun ρ=>oNeg (fa ρ)) (.UnaryOp .USub a pos):=by
 intro ρ kd d h g σ H Q se q
 dsimp only [oNeg] at h
 split at h
 ·rename_i ka i ea
  cases h
  exact pe_le (pe_un un_neg pe_w) (ha ρ _ _ ea g σ H _ se fun v H' s r=>⟨i,r.rd.int,q _ H' s vInt⟩)
 ·cases h
noncomputable def oTru (a:Option KD):Option Bool:=match a with | some (_,d)=>truD d | none=>none
theorem s_not {fa:Ro->Option KD} {a:Expr} {pos:Pos} (ha:SndE X fa a):SndE X (fun ρ=>bV ((oTru (fa ρ)).map (!·))) (.UnaryOp .Not a pos):=by
 intro ρ kd d h g σ H Q se q
 cases e:oTru (fa ρ) with
 | none=>simp only [e,bV] at h; cases h
 | some b=>
  simp only [e,bV] at h
  cases h
  unfold oTru at e
  split at e
  ·rename_i k d e1
   intro pins s I
   refine PyProof.Rows.UnaryOp_ (thn (ha ρ _ _ e1 g σ H (fun v H'=>TruV X.K v H' b/\Q (.bl (!b)) H') se (fun v H' s vr=>⟨tru_of vr.rd e,q _ H' s vBl⟩) pins s I) fun v s1 ⟨x,H1,I1,r1,t1,q1⟩=>?_)
   exact PyProof.Rows.not_of (thn (tru_ok pins s1 σ H1 x v (fun k H2=>Q (.bl (!k)) H2) I1 r1 ⟨b,t1,q1⟩) fun k s2 ⟨H2,I2,q2⟩=>⟨.bl (!k),H2,I2,rfl,q2⟩)
  ·cases e
theorem t_not {fa:Ro->Option Bool} {a:Expr} {pos:Pos} (ha:SndT X fa a):SndT X (fun ρ=>(fa ρ).map (!·)) (.UnaryOp .Not a pos):=by
 intro ρ r h g σ H Q se q
 cases e:fa ρ with
 | none=>simp only [e] at h; cases h
 | some b=>
  simp only [e] at h
  cases h
  exact pt_le (pt_not pt_w) (ha ρ b e g σ H _ se fun H' s=>q H' s)
theorem t_tru {fa:Ro->Option KD} {a:Expr} (ha:SndE X fa a) (hp:∀ whole,isTrue a X.env whole = (do let v <- whole; standAt a.pos; holding [v] (truthy v))):SndT X (fun ρ=>oTru (fa ρ)) a:=by
 intro ρ r h g σ H Q se q
 dsimp only [oTru] at h
 split at h
 ·rename_i k d e
  exact pt_le (pt_truth pe_w hp) (ha ρ _ _ e g σ H _ se fun v H' s vr=>⟨r,tru_of vr.rd h,q H' s⟩)
 ·cases h
noncomputable def noStar:Expr->Bool
 | .Starred ..=>false
 | _=>true
theorem star_of {e:Expr} {es:List Expr} {env:Env} (h:noStar e = true):starEach (e :: es) env = (false,eval e env) :: starEach es env:=by
 cases e <;> first | rfl | cases h
theorem back_any {env:Env} {pos:Pos} {es:List Expr} (h:es.all noStar = true):(backTo pos (starEach es env)).any (·.1) = false:=by
  have key:∀ es:List Expr,es.all noStar = true->∀ p ∈ starEach es env,p.1 = false:=by
    intro es
    induction es with
    | nil=>intro _ p hp; cases hp
    | cons e es ih=>
      intro h p hp
      simp only [List.all_cons,Bool.and_eq_true] at h
      rw [star_of h.1] at hp
      rcases List.mem_cons.mp hp with rfl | hp
      · rfl
      · exact ih h.2 p hp
  have k2:=key es h
  cases e:starEach es env with
  | nil=>rfl
  | cons p r=>
    rw [e] at k2
    have h0:∀ q ∈ backTo pos (p :: r),q.1 = false:=by
      intro q hq
      unfold backTo at hq
      first
        | exact k2 q hq
        | (simp only [List.mem_map,List.mem_cons] at hq
           first
             | (obtain ⟨z,hz,rfl⟩:=hq; exact k2 z (by simpa using hz))
             | (rcases hq with rfl | hq
                · exact k2 p (by simp)
                · first
                    | exact k2 q (by simp [hq])
                    | (obtain ⟨z,hz,rfl⟩:=hq; exact k2 z (by simp [hz]))))
    rw [List.any_eq_false]
    intro q hq
    rw [h0 q hq]
    decide
noncomputable def oCons (a:Option KD) (r:Option (List KD)):Option (List KD):=match a,r with | some x,some xs=>some (x :: xs) | _,_=>none
theorem s_argsN:SndA X (fun _=>some []) []:=by
 intro ρ kds h g σ H Q se q
 cases h
 exact pa_le pa_nil (q [] H (Same.refl H) .nil)
theorem s_argsC {fa:Ro->Option KD} {fr:Ro->Option (List KD)} {e:Expr} {es:List Expr} (hn:noStar e = true) (ha:SndE X fa e) (hr:SndA X fr es):SndA X (fun ρ=>oCons (fa ρ) (fr ρ)) (e :: es):=by
 intro ρ kds h g σ H Q se q
 dsimp only [oCons] at h
 split at h
 ·rename_i x xs e1 e2
  cases h
  obtain ⟨k,d⟩:=x
  refine pa_le (pa_cons pe_w pa_w (star_of hn)) (ha ρ k d e1 g σ H _ se fun v H1 s1 r1=>?_)
  obtain ⟨F1,a1,a2⟩:=r1
  exact hr ρ xs e2 (g.plus F1) σ H1 _ (se.plus s1 a1 a2.dom) fun vs H2 s2 r2=>q (v :: vs) H2 (s1.trans s2) (.cons s1 s2 a1 a2 r2)
 ·cases h
theorem VRs.two {K:PySem.W.Frag} {g:Gh} {H0 H:Hp} {k k':Kd} {d d':D} {vs:List V} (h:VRs K g H0 H [(k,d),(k',d')] vs):∃ v v',vs = [v,v']/\VR K g H0 H k d v/\VR K g H0 H k' d' v':=by
 obtain ⟨F,h1,y,ys,F1,F2,rfl,hF,dj,h3,z,zs,F3,F4,rfl,hF2,dj2,h5,rfl,h7⟩:=h
 have e:∀ b,F b ↔ F1 b\/F3 b:=fun b=>(hF b).trans ⟨fun z=>z.imp id fun z=>((hF2 b).mp z).elim id fun z=>absurd z (h7 b),fun z=>z.imp id fun z=>(hF2 b).mpr (.inl z)⟩
 refine ⟨y,z,rfl,⟨F1,fun b z=>h1 b ((e b).mpr (.inl z)),h3.go (fun _ _ h=>h) fun b _ _ z=>(e b).mpr (.inl z)⟩,⟨F3,fun b z=>h1 b ((e b).mpr (.inr z)),h5.go (fun _ _ h=>h) fun b _ _ z=>(e b).mpr (.inr z)⟩⟩
end
end J
namespace J
open PySem PySem.Spec L2
mutual
noncomputable def Ow.eq:Ow->Ow->Bool
 | .fz,.fz=>true
 | .own es r,.own es' r'=>Ow.eqs es es' && Ow.eq r r'
 | _,_=>false
noncomputable def Ow.eqs:List Ow->List Ow->Bool
 | [],[]=>true
 | a :: as,b :: bs=>Ow.eq a b && Ow.eqs as bs
 | _,_=>false
end
mutual
theorem Ow.eq_ok:∀ {a b:Ow},Ow.eq a b = true->a = b
 | .fz,.fz,_=>rfl
 | .own es r,.own es' r',h=>by
  simp only [Ow.eq,Bool.and_eq_true] at h
  rw [Ow.eqs_ok h.1,Ow.eq_ok h.2]
 | .fz,.own _ _,h=>by simp [Ow.eq] at h
 | .own _ _,.fz,h=>by simp [Ow.eq] at h
theorem Ow.eqs_ok:∀ {a b:List Ow},Ow.eqs a b = true->a = b
 | [],[],_=>rfl
 | a :: as,b :: bs,h=>by
  simp only [Ow.eqs,Bool.and_eq_true] at h
  rw [Ow.eq_ok h.1,Ow.eqs_ok h.2]
 | [],_ :: _,h=>by simp [Ow.eqs] at h
 | _ :: _,[],h=>by simp [Ow.eqs] at h
end
noncomputable def fit1 (k:Ow) (p:KD):Bool:=match k with
 | .fz=>okS p.1 p.2
 | k=>(match p.1 with | .fr c=>c.eq k | _=>false)
noncomputable def fitL:List Ow->Ow->List KD->Bool
 | _,_,[]=>true
 | es,r,p :: ps=>fit1 (es.headD r) p && fitL es.tail r ps
section
variable {K:PySem.W.Frag} {H H' H0:Hp} {g:Gh} {Ft F:Pr}
theorem VR1.fit {k:Ow} {p:KD} {v:V} (h:fit1 k p = true) (m:MuOk H (Sx g Ft)) (hd:∀ b,F b->g b = none) (hs:∀ b,F b->Ft b) (r:VR1 K H g Ft p.1 p.2 v F):∃ F2:Pr,(∀ b,F2 b->F b)/\∀ S':Pr,(∀ b,S' b->H b = none\/g b ≠ none\/F2 b\/(Ft b/\¬ F b))->Tr K H S' p.2 k v F2:=by
 obtain ⟨kd,d⟩:=p
 cases k with
 | fz=>
  refine ⟨fun _=>False,fun b z=>z.elim,fun S' hS=>.fz ?_⟩
  have r1:Rp K H (fun b=>S' b/\H b ≠ none) d v:=by
   cases kd with
   | sh=>
    refine r.2.weak fun b z=>?_
    rcases hS b z.1 with q | q | q | q
    ·exact absurd q z.2
    ·exact .inl q
    ·exact q.elim
    ·exact .inr q.1
   | fr c=>
    refine Tr.rp (fun b z=>?_) r
    rcases hS b z.1 with q | q | q | q
    ·exact absurd q z.2
    ·exact ⟨.inl q,fun z2=>q (hd b z2)⟩
    ·exact q.elim
    ·exact ⟨.inr q.1,q.2⟩
   | bo i c=>
    refine r.rd.im (fun b z=>?_) h
    rcases hS b z.1 with q | q | q | q
    ·exact absurd q z.2
    ·exact m b (.inl q)
    ·exact q.elim
    ·exact m b (.inr q.1)
  exact r1.go fun b o n e=>⟨e,fun z=>n ⟨z,by rw [e]; exact fun h=>by cases h⟩⟩
 | own es r'=>
  cases kd with
  | sh=>cases h
  | bo i c=>cases h
  | fr c=>
   have h:c.eq (.own es r') = true:=h
   rw [Ow.eq_ok h] at r
   refine ⟨F,fun b z=>z,fun S' hS=>Tr.go (fun _ _ _ e=>e) (fun b o e n z=>?_) r⟩
   rcases hS b z with q | q | q | q
   ·rw [e] at q; cases q
   ·exact n (.inl q)
   ·exact n (.inr (hs b q))
   ·exact n (.inr q.1)
theorem VRL.fit:∀ {kds:List KD} {es:List Ow} {r:Ow} {vs:List V} {F:Pr},fitL es r kds = true->MuOk H (Sx g Ft)->(∀ b,F b->g b = none)->(∀ b,F b->Ft b)->VRL K H g Ft kds vs F->
  ∃ F2:Pr,(∀ b,F2 b->F b)/\∀ S':Pr,(∀ b,S' b->H b = none\/g b ≠ none\/F2 b\/(Ft b/\¬ F b))->TrL K H S' (kds.map (·.2)) es r vs F2
 | [],es,r,vs,F,_,_,_,_,h=>⟨fun _=>False,fun b z=>z.elim,fun S' hS=>by unfold List.map TrL; exact ⟨h.1,fun b z=>z⟩⟩
 | p :: ps,es,r,vs,F,hf,m,hd,hs,h=>by
  obtain ⟨y,ys,F1,F2,rfl,hF,dj,h1,h2⟩:=h
  unfold fitL at hf
  rw [Bool.and_eq_true] at hf
  obtain ⟨G1,a1,a2⟩:=VR1.fit hf.1 m (fun b z=>hd b ((hF b).mpr (.inl z))) (fun b z=>hs b ((hF b).mpr (.inl z))) h1
  obtain ⟨G2,b1,b2⟩:=VRL.fit hf.2 m (fun b z=>hd b ((hF b).mpr (.inr z))) (fun b z=>hs b ((hF b).mpr (.inr z))) h2
  refine ⟨fun b=>G1 b\/G2 b,fun b z=>(hF b).mpr (z.imp (a1 b) (b1 b)),fun S' hS=>?_⟩
  show TrL K H S' (p.2 :: ps.map (·.2)) es r (y :: ys) _
  unfold TrL
  refine ⟨y,ys,G1,G2,rfl,fun b=>Iff.rfl,fun b z1 z2=>dj b (a1 b z1) (b1 b z2),a2 S' fun b z=>?_,b2 S' fun b z=>?_⟩
  ·rcases hS b z with q | q | (q | q) | q
   ·exact .inl q
   ·exact .inr (.inl q)
   ·exact .inr (.inr (.inl q))
   ·exact .inr (.inr (.inr ⟨hs b ((hF b).mpr (.inr (b1 b q))),fun z=>dj b z (b1 b q)⟩))
   ·exact .inr (.inr (.inr ⟨q.1,fun z=>q.2 ((hF b).mpr (.inl z))⟩))
  ·rcases hS b z with q | q | (q | q) | q
   ·exact .inl q
   ·exact .inr (.inl q)
   ·exact .inr (.inr (.inr ⟨hs b ((hF b).mpr (.inl (a1 b q))),fun z=>dj b (a1 b q) z⟩))
   ·exact .inr (.inr (.inl q))
   ·exact .inr (.inr (.inr ⟨q.1,fun z=>q.2 ((hF b).mpr (.inr z))⟩))
theorem VRs.node {kds:List KD} {es:List Ow} {r:Ow} {vs:List V} {p:Addr} {hd:Hd} {o:HO} (hf:fitL es r kds = true) (m:MuOk H0 (Sg g)) (s:Same H0 H) (h:VRs K g H0 H kds vs) (hp:H p = none) (ho:HdOk K o hd vs) (hm:hd.mu = true) :
  VR K g H0 (upd H p o) (.fr (.own es r)) (.nd hd (kds.map (·.2))) (.ref p):=by
 obtain ⟨F,h1,h2⟩:=h
 have hgF:∀ b,F b->g b = none:=fun b z=>by
  cases e:g b with
  | none=>rfl
  | some i=>
   obtain ⟨o,q,_⟩:=m b (by rw [Sg,e]; exact fun h=>by cases h)
   rw [h1 b z] at q; cases q
 have mm:MuOk H (Sx g F):=fun b z=>z.elim (fun z=>m.same s b z) (fun z=>h2.dom b z)
 obtain ⟨F2,a1,a2⟩:=h2.fit hf mm hgF fun b z=>z
 have np:¬ F2 p:=fun z=>by
  obtain ⟨o,q,_⟩:=h2.dom p (a1 p z)
  rw [hp] at q; cases q
 refine ⟨fun b=>b = p\/F2 b,fun b z=>z.elim (fun z=>z ▸ s.free hp) fun z=>h1 b (a1 b z),?_⟩
 show Tr _ _ _ _ _ _ _
 unfold Tr
 refine ⟨p,o,vs,F2,rfl,upd_same,ho,fun _=>np,fun h=>by (rw [hm] at h; cases h),fun b=>⟨fun z=>z.imp (fun z=>⟨hm,z⟩) id,fun z=>z.imp (fun z=>z.2) id⟩,?_⟩
 refine (a2 (fun b=>g b ≠ none\/F2 b) fun b z=>.inr (z.imp id fun z=>.inl z)).go (fun b o' _ e=>same_upd hp b o' e) fun b o' e n z=>?_
 rcases z with z | z | z
 ·exact n (.inl z)
 ·subst z; rw [hp] at e; cases e
 ·exact n (.inr z)
theorem VRs.tupO {kds:List KD} {es:List Ow} {r:Ow} {vs:List V} {p:Addr} (hf:fitL es r kds = true) (m:MuOk H0 (Sg g)) (s:Same H0 H) (h:VRs K g H0 H kds vs) (hp:H p = none) :
  VR K g H0 (upd H p (.tup vs)) (.fr (.own es r)) (.tup (kds.map (·.2))) (.ref p):=by
 obtain ⟨F,h1,h2⟩:=h
 have hgF:∀ b,F b->g b = none:=fun b z=>by
  cases e:g b with
  | none=>rfl
  | some i=>
   obtain ⟨o,q,_⟩:=m b (by rw [Sg,e]; exact fun h=>by cases h)
   rw [h1 b z] at q; cases q
 have mm:MuOk H (Sx g F):=fun b z=>z.elim (fun z=>m.same s b z) (fun z=>h2.dom b z)
 obtain ⟨F2,a1,a2⟩:=h2.fit hf mm hgF fun b z=>z
 have np:¬ F2 p:=fun z=>by
  obtain ⟨o,q,_⟩:=h2.dom p (a1 p z)
  rw [hp] at q; cases q
 refine ⟨F2,fun b z=>h1 b (a1 b z),?_⟩
 show Tr _ _ _ _ _ _ _
 unfold Tr
 refine ⟨p,_,vs,F2,rfl,upd_same,rfl,(fun h=>nomatch h),fun _ z=>?_,fun b=>⟨fun z=>.inr z,fun z=>z.elim (fun z=>nomatch z.1) id⟩,?_⟩
 ·rcases z with z | z
  ·obtain ⟨o,q,_⟩:=m.same s p z
   rw [hp] at q; cases q
  ·exact np z
 ·exact (a2 (fun b=>g b ≠ none\/F2 b) fun b z=>.inr (z.imp id fun z=>.inl z)).go (fun b o' _ e=>same_upd hp b o' e) fun b o' e n z=>n z
end
noncomputable def oLst (k:Ow) (a:Option (List KD)):Option KD:=match a with
 | some kds=>(match k with | .own es r=>if fitL es r kds = true/\kds.length<=100000 then some (.fr (.own es r),.lst (kds.map (·.2))) else none | .fz=>none)
 | none=>none
noncomputable def oTup (k:Ow) (a:Option (List KD)):Option KD:=match a with
 | some kds=>(match k with
  | .own es r=>if fitL es r kds = true/\kds.length<=100000 then some (.fr (.own es r),.tup (kds.map (·.2))) else none
  | .fz=>if (kds.all fun p=>okS p.1 p.2) = true/\kds.length<=100000 then some (.sh,.tup (kds.map (·.2))) else none)
 | none=>none
section
variable {X:Cx} {Γ:Tab} {c:Cz}
theorem VRs.len {K:PySem.W.Frag} {g:Gh} {H0 H:Hp} {kds:List KD} {vs:List V} (h:VRs K g H0 H kds vs):vs.length = kds.length:=by
 have:=h.rd.len
 rw [List.length_map] at this
 exact this
theorem s_lst {k:Ow} {f:Ro->Option (List KD)} {es:List Expr} {pos:Pos} (hf:SndA X f es):SndE X (fun ρ=>oLst k (f ρ)) (.List es pos):=by
 intro ρ kd d h g σ H Q se q
 dsimp only [oLst] at h
 split at h
 ·rename_i kds e
  split at h
  ·split at h
   ·rename_i hz
    cases h
    refine pe_le (pe_lst pa_w) (hf ρ kds e g σ H _ se fun vs H1 s1 r1=>⟨by rw [r1.len]; exact size_small hz.2,fun p hp=>?_⟩)
    exact q _ _ (s1.trans (same_upd hp)) (r1.node hz.1 se.mu s1 hp rfl rfl)
   ·cases h
  ·cases h
 ·cases h
theorem s_tup {k:Ow} {f:Ro->Option (List KD)} {es:List Expr} {n:Nat} {pos:Pos} (hf:SndA X f es):SndE X (fun ρ=>oTup k (f ρ)) (.Tuple es n pos):=by
 intro ρ kd d h g σ H Q se q
 dsimp only [oTup] at h
 split at h
 ·rename_i kds e
  split at h
  ·split at h
   ·rename_i hz
    cases h
    refine pe_le (pe_tup pa_w) (hf ρ kds e g σ H _ se fun vs H1 s1 r1=>⟨by rw [r1.len]; exact size_small hz.2,fun p hp=>?_⟩)
    exact q _ _ (s1.trans (same_upd hp)) (r1.tupO hz.1 se.mu s1 hp)
   ·cases h
  ·split at h
   ·rename_i hz
    cases h
    refine pe_le (pe_tup pa_w) (hf ρ kds e g σ H _ se fun vs H1 s1 r1=>⟨by rw [r1.len]; exact size_small hz.2,fun p hp=>?_⟩)
    exact q _ _ (s1.trans (same_upd hp)) ((vTup (se.mu.same s1) hp (r1.sh hz.1 se.mu s1)).older s1)
   ·cases h
 ·cases h
noncomputable def plainIx:Expr->Bool
 | .Slice ..=>false
 | _=>true
theorem plainIx_ok {b:Expr} (h:plainIx b = true):PlainIx b:=by
 intro o i
 cases b <;> first | rfl | cases h
noncomputable def chr1 (z:Str) (i:Int):Option Str:=(L2.atI z.cps.toList i).map fun c=>⟨#[c]⟩
noncomputable def oIx (a b:Option KD):Option KD:=match a,b with
 | some (ka,.nd .lst xs),some (_,.int i)=>(match ixN xs.length i with | some j=>(xs[j]?).map fun d=>(chK ka j,d) | none=>none)
 | some (ka,.nd .tup xs),some (_,.int i)=>(match ixN xs.length i with | some j=>(xs[j]?).map fun d=>(chK ka j,d) | none=>none)
 | some (_,.scr ns),some (_,.int i)=>(L2.atI ns i).map fun d=>(.sh,.int d)
 | some (_,.str z),some (_,.int i)=>if z.length<=100000 then (chr1 z i).map fun d=>(.sh,.str d) else none
 | some (ka,.nd (.dic t ks) xs),some (_,kd)=>none
 | _,_=>none
theorem atI_map {α β:Type} (f:α->β) (xs:List α) (i:Int):L2.atI (xs.map f) i = (L2.atI xs i).map f:=by
 unfold L2.atI
 rw [List.length_map]
 cases ixN xs.length i with
 | none=>rfl
 | some j=>simp
theorem s_ix (O:CxOk X Γ c) {fa fb:Ro->Option KD} {a b:Expr} {pos:Pos} (ha:SndE X fa a) (hb:SndE X fb b) (hp:plainIx b = true):SndE X (fun ρ=>oIx (fa ρ) (fb ρ)) (.Subscript a b pos):=by
 intro ρ kd d h g σ H Q se q
 dsimp only [oIx] at h
 split at h
 ·rename_i ka xs kb i ea eb
  split at h
  ·rename_i j hj
   cases e:xs[j]? with
   | none=>rw [e] at h; cases h
   | some d'=>
    rw [e] at h
    cases h
    refine pe_le (pe_ix ix_seq pe_w pe_w (plainIx_ok hp)) (two ha hb ea eb se fun x y H' s rx ry=>?_)
    obtain ⟨p,o,us,rfl,g1,q1,l1,c1⟩:=rx.ch
    cases (show o = _ from q1)
    obtain rfl:=ry.rd.int
    obtain ⟨v,e1,e2⟩:=c1 j _ e
    exact .inl ⟨p,us,i,v,rfl,rfl,.of g1,by unfold L2.atI; rw [l1,hj]; exact e1,q v H' s e2⟩
  ·cases h
 ·rename_i ka xs kb i ea eb
  split at h
  ·rename_i j hj
   cases e:xs[j]? with
   | none=>rw [e] at h; cases h
   | some d'=>
    rw [e] at h
    cases h
    refine pe_le (pe_ix ix_seq pe_w pe_w (plainIx_ok hp)) (two ha hb ea eb se fun x y H' s rx ry=>?_)
    obtain ⟨p,o,us,rfl,g1,q1,l1,c1⟩:=rx.ch
    cases (show o = _ from q1)
    obtain rfl:=ry.rd.int
    obtain ⟨v,e1,e2⟩:=c1 j _ e
    exact .inr (.inl ⟨p,us,i,v,rfl,rfl,.of g1,by unfold L2.atI; rw [l1,hj]; exact e1,q v H' s e2⟩)
  ·cases h
 ·rename_i ka ns kb i ea eb
  cases e:L2.atI ns i with
  | none=>rw [e] at h; cases h
  | some d'=>
   rw [e] at h
   cases h
   refine pe_le (pe_ix ix_seq pe_w pe_w (plainIx_ok hp)) (two ha hb ea eb se fun x y H' s rx ry=>?_)
   obtain ⟨p,rfl,g1⟩:=rx.rd.scr
   obtain rfl:=ry.rd.int
   exact .inl ⟨p,_,i,.int d',rfl,rfl,g1,by rw [atI_map,e]; rfl,q _ H' s vInt⟩
 ·rename_i ka z kb i ea eb
  split at h
  ·rename_i hz
   unfold chr1 at h
   cases e:L2.atI z.cps.toList i with
   | none=>rw [e] at h; cases h
   | some d'=>
    rw [e] at h
    cases h
    refine pe_le (pe_ix ix_seq pe_w pe_w (plainIx_ok hp)) (two ha hb ea eb se fun x y H' s rx ry=>?_)
    obtain rfl:=rx.rd.str
    obtain rfl:=ry.rd.int
    exact .inr (.inr ⟨z,i,d',rfl,rfl,size_small hz,e,q _ H' s vStr⟩)
  ·cases h
 ·cases h
 ·cases h
noncomputable def cutD (xs:List D) (lo hi:Option Int):List D:=(xs.drop (HT.sIx xs.length 0 lo)).take (HT.sIx xs.length xs.length hi - HT.sIx xs.length 0 lo)
theorem RpL.cut {K:PySem.W.Frag} {H:Hp} {S:Pr} {ds:List D} {vs:List V} (h:RpL K H S ds vs) (lo hi:Option Int):RpL K H S (cutD ds lo hi) (cutV vs lo hi):=by
 unfold cutD cutV
 rw [h.len]
 exact (h.drop _).take _
noncomputable def wO (X:Cx) (e:Option Expr):TO:=fun σ H Q=>∃ t,PO X e t/\t σ H Q
theorem po_w {e:Option Expr}:PO X e (wO X e):=fun pins s σ H Q I h=>let ⟨t,p,q⟩:=h; p pins s σ H Q I q
noncomputable def SndO (X:Cx) (f:Ro->Option (Option Int)) (e:Option Expr):Prop:=∀ ρ o,f ρ = some o->∀ g σ H Q,SE X.K g ρ σ H->(∀ H',Same H H'->Q o H')->wO X e σ H Q
noncomputable def oInt (a:Option KD):Option (Option Int):=match a with | some (_,.int i)=>some (some i) | _=>none
theorem s_optN:SndO X (fun _=>some none) none:=fun ρ o h g σ H Q se q=>by cases h; exact ⟨_,po_none,q H (Same.refl H)⟩
theorem s_optS {f:Ro->Option KD} {e:Expr} (hf:SndE X f e):SndO X (fun ρ=>oInt (f ρ)) (some e):=fun ρ o h g σ H Q se q=>by
 dsimp only [oInt] at h
 split at h
 ·rename_i k i ea
  cases h
  exact ⟨_,po_some pe_w,hf ρ _ _ ea g σ H _ se fun v H' s r=>⟨i,r.rd.int,q H' s⟩⟩
 ·cases h
noncomputable def oSl (a:Option KD) (lo hi:Option (Option Int)):Option KD:=match a,lo,hi with
 | some (ka,.nd .lst xs),some l,some u=>if okE ka xs = true then some (.fr flatO,.lst (cutD xs l u)) else none
 | some (_,.scr ns),some l,some u=>some (.fr flatO,.lst (cutD (ns.map .int) l u))
 | some (ka,.nd .tup xs),some l,some u=>if okE ka xs = true then some (.sh,.tup (cutD xs l u)) else none
 | _,_,_=>none
theorem s_sl {fa:Ro->Option KD} {fl fh:Ro->Option (Option Int)} {a:Expr} {lo hi:Option Expr} {p2 pos:Pos} (ha:SndE X fa a) (hl:SndO X fl lo) (hh:SndO X fh hi):SndE X (fun ρ=>oSl (fa ρ) (fl ρ) (fh ρ)) (.Subscript a (.Slice lo hi none p2) pos):=by
 intro ρ kd d h g σ H Q se q
 dsimp only [oSl] at h
 split at h
 ·rename_i ka xs l u ea el eu
  split at h
  ·rename_i hk
   cases h
   refine pe_le (pe_slice sl_list pe_w po_w po_w) (ha ρ _ _ ea g σ H _ se fun x H1 s1 rx=>hl ρ _ el g σ H1 _ (se.same s1) fun H2 s2=>hh ρ _ eu g σ H2 _ ((se.same s1).same s2) fun H3 s3=>?_)
   obtain ⟨p,o,us,rfl,g1,q1,r⟩:=((rx.same s2).same s3).items hk se.mu ((s1.trans s2).trans s3)
   cases (show o = _ from q1)
   exact ⟨p,us,rfl,.of g1,fun p' hp'=>q _ _ (((s1.trans s2).trans s3).trans (same_upd hp')) ((vNew hp' (r.cut l u)).older ((s1.trans s2).trans s3))⟩
  ·cases h
 ·rename_i ka ns l u ea el eu
  cases h
  refine pe_le (pe_slice sl_list pe_w po_w po_w) (ha ρ _ _ ea g σ H _ se fun x H1 s1 rx=>hl ρ _ el g σ H1 _ (se.same s1) fun H2 s2=>hh ρ _ eu g σ H2 _ ((se.same s1).same s2) fun H3 s3=>?_)
  obtain ⟨p,rfl,g1⟩:=((rx.same s2).same s3).rd.scr
  exact ⟨p,_,rfl,g1,fun p' hp'=>q _ _ (((s1.trans s2).trans s3).trans (same_upd hp')) ((vNew hp' ((RpL.ints ns).cut l u)).older ((s1.trans s2).trans s3))⟩
 ·rename_i ka xs l u ea el eu
  split at h
  ·rename_i hk
   cases h
   refine pe_le (pe_slice (sl_tup.or sl_tupW) pe_w po_w po_w) (ha ρ _ _ ea g σ H _ se fun x H1 s1 rx=>hl ρ _ el g σ H1 _ (se.same s1) fun H2 s2=>hh ρ _ eu g σ H2 _ ((se.same s1).same s2) fun H3 s3=>?_)
   obtain ⟨p,o,us,rfl,g1,q1,r⟩:=((rx.same s2).same s3).items hk se.mu ((s1.trans s2).trans s3)
   cases (show o = _ from q1)
   by_cases hw:HT.sIx xs.length 0 l = 0/\HT.sIx xs.length xs.length u = xs.length
   ·refine .inr ⟨p,us,rfl,.of g1,by rw [r.len]; exact hw.1,by rw [r.len]; exact hw.2,q _ H3 ((s1.trans s2).trans s3) (vSh ?_)⟩
    have e:cutD xs l u = xs:=by unfold cutD; rw [hw.1,hw.2,List.drop_zero,Nat.sub_zero,List.take_length]
    rw [e]
    unfold Rp
    refine ⟨p,_,us,rfl,fun z=>?_,g1,rfl,r⟩
    obtain ⟨o,e,n⟩:=(se.mu.same ((s1.trans s2).trans s3)) p z
    rw [g1] at e; cases e; exact n _ rfl
   ·exact .inl ⟨p,us,rfl,.of g1,by rw [r.len]; exact hw,fun p' hp'=>q _ _ (((s1.trans s2).trans s3).trans (same_upd hp')) ((vTup (se.mu.same ((s1.trans s2).trans s3)) hp' (r.cut l u)).older ((s1.trans s2).trans s3))⟩
  ·cases h
 ·cases h
noncomputable def oRev (a b:Option KD):Option KD:=match a,b with
 | some (ka,.nd .lst xs),some (_,.int i)=>if i = -1/\okE ka xs = true then some (.fr flatO,.lst xs.reverse) else none
 | _,_=>none
theorem s_rev {fa fs:Ro->Option KD} {a st:Expr} {p2 pos:Pos} (ha:SndE X fa a) (hs:SndE X fs st):SndE X (fun ρ=>oRev (fa ρ) (fs ρ)) (.Subscript a (.Slice none none (some st) p2) pos):=by
 intro ρ kd d h g σ H Q se q
 dsimp only [oRev] at h
 split at h
 ·rename_i ka xs kb i ea eb
  split at h
  ·rename_i hi
   obtain ⟨rfl,hk⟩:=hi
   cases h
   refine pe_le (pe_rev pe_w pe_w) (two ha hs ea eb se fun x y H' s rx ry=>?_)
   obtain ⟨p,o,us,rfl,g1,q1,r⟩:=rx.items hk se.mu s
   cases (show o = _ from q1)
   obtain rfl:=ry.rd.int
   exact ⟨p,us,rfl,rfl,.of g1,fun p' hp'=>q _ _ (s.trans (same_upd hp')) ((vNew hp' r.reverse).older s)⟩
  ·cases h
 ·cases h
end
end J
namespace J
open PySem PySem.Spec L2
mutual
noncomputable def rok:Nat->D->Bool
 | _,.non=>true
 | _,.bl _=>true
 | _,.int i=>decide (i.natAbs < 10 ^ 70)
 | _,.str x=>PyData.strOk (reprText x) && x.cps.toList.all fun c=>decide (c < 16 ^ 8)
 | _,.scr _=>false
 | n,.nd .lst ds=>decide (1<=n) && rokL (n - 1) ds
 | n,.nd .tup ds=>decide (1<=n) && rokL (n - 1) ds
 | n,.nd (.dic t ks) _=>decide (1<=n) && (decide (t = 0) && ks.isEmpty)
 | _,.nd (.obj _ _) _=>false
noncomputable def rokL:Nat->List D->Bool
 | _,[]=>true
 | n,d :: ds=>rok n d && rokL n ds
end
mutual
noncomputable def bkD:D->Nat
 | .str x=>x.cps.size
 | .nd .lst ds=>bkL ds
 | .nd .tup ds=>bkL ds
 | _=>0
noncomputable def bkL:List D->Nat
 | []=>0
 | d :: ds=>bkD d + 1 + bkL ds
end
theorem ok_app (x y:Str):PyData.strOk (x ++ y) = (PyData.strOk x && PyData.strOk y):=by
 show (x.cps ++ y.cps).all _ = _
 rw [Array.all_append]
 rfl
theorem ok_str (s:String):PyData.strOk (Str.ofString s) = true:=by
 rw [Str.ofString_eq_toList]
 show ((s.toList.map Char.toNat).toArray.all fun c=>decide (c < 0x110000)) = true
 rw [List.all_toArray,List.all_eq_true]
 intro c hc
 obtain ⟨k,_,rfl⟩:=List.mem_map.mp hc
 have:=k.valid
 simp only [decide_eq_true_eq]
 show k.val.toNat < _
 rcases this with h | ⟨_,h⟩
 ·have h:k.val.toNat < 0xd800:=h
  omega
 ·exact h
theorem ok_join (sep:Str) (hs:PyData.strOk sep = true):∀ ts:List Str,(∀ t ∈ ts,PyData.strOk t = true)->PyData.strOk (Str.join sep ts) = true
 | [],_=>by unfold Str.join; decide +kernel
 | [x],h=>h x List.mem_cons_self
 | x :: y :: r,h=>by
  show PyData.strOk (x ++ sep ++ Str.join sep (y :: r)) = true
  rw [ok_app,ok_app,hs,h x List.mem_cons_self,ok_join sep hs (y :: r) fun t ht=>h t (List.mem_cons_of_mem _ ht)]
  rfl
theorem ok_from:∀ (ts:List Str) (k:Nat) (acc:Str),PyData.strOk acc = true->(∀ t ∈ ts,PyData.strOk t = true)->PyData.strOk (textFrom k acc ts) = true
 | [],_,acc,h,_=>h
 | t :: ts,k,acc,h,ht=>by
  unfold textFrom
  refine ok_from ts (k + 1) _ ?_ fun u hu=>ht u (List.mem_cons_of_mem _ hu)
  rw [ok_app,ok_app,h,ht t List.mem_cons_self,ok_str]
  rfl
theorem ten70:(10:Nat) ^ 70 < 2 ^ 1920:=by decide +kernel
mutual
theorem rok_ok:∀ {d:D} {n:Nat},rok n d = true->(py d).showable = true/\(py d).leavesShort 72 = true/\(py d).bulk = bkD d/\(py d).depth<=n/\PyData.strOk (py d).shown = true
 | .non,n,_=>by simp only [py,bkD]; exact ⟨rfl,rfl,rfl,Nat.zero_le _,ok_str "None"⟩
 | .bl b,n,_=>by
  simp only [py,bkD]
  refine ⟨rfl,rfl,rfl,Nat.zero_le _,?_⟩
  cases b
  ·exact ok_str "False"
  ·exact ok_str "True"
 | .int i,n,h=>by
  simp only [rok,decide_eq_true_eq] at h
  simp only [py,bkD]
  refine ⟨decide_eq_true (log2_small (Nat.lt_trans h ten70)),decide_eq_true ?_,rfl,Nat.zero_le _,ok_str _⟩
  have e:=int_text_length_le10 (k:=70) (by decide) h
  show (Str.ofString (toString i)).length<=72
  rw [ofString_length]
  omega
 | .str x,n,h=>by
  simp only [rok,Bool.and_eq_true] at h
  simp only [py,bkD]
  exact ⟨rfl,h.2,rfl,Nat.zero_le _,h.1⟩
 | .scr _,n,h=>by simp [rok] at h
 | .nd .lst ds,n,h=>by
  simp only [rok,Bool.and_eq_true,decide_eq_true_eq] at h
  obtain ⟨h1,h2,h3,h4,h5⟩:=rokL_ok h.2
  simp only [py,bkD]
  refine ⟨h1,h2,h3,by simp only [PyData.depth]; omega,?_⟩
  simp only [PyData.shown]
  unfold listText
  rw [ok_app,ok_from _ _ _ (ok_str "[") h5,ok_str]
  rfl
 | .nd .tup ds,n,h=>by
  simp only [rok,Bool.and_eq_true,decide_eq_true_eq] at h
  obtain ⟨h1,h2,h3,h4,h5⟩:=rokL_ok h.2
  simp only [py,bkD]
  refine ⟨h1,h2,h3,by simp only [PyData.depth]; omega,?_⟩
  simp only [PyData.shown]
  unfold tupleText
  rw [ok_app,ok_app,ok_join _ (ok_str ", ") _ h5,ok_str,ok_str]
  rfl
 | .nd (.dic t ks) ds,n,h=>by
  simp only [rok,Bool.and_eq_true,decide_eq_true_eq] at h
  simp only [py,bkD]
  refine ⟨rfl,rfl,rfl,by simp only [PyData.depth,PyData.depthKv]; omega,?_⟩
  simp only [PyData.shown,PyData.shownKv]
  unfold dictText
  rw [ok_app,ok_app,ok_str,ok_str,ok_join _ (ok_str ", ") [] nofun]
  rfl
 | .nd (.obj _ _) _,n,h=>by simp [rok] at h
theorem rokL_ok:∀ {ds:List D} {n:Nat},rokL n ds = true->PyData.showableAll (pyL ds) = true/\PyData.leavesShortAll 72 (pyL ds) = true/\PyData.bulkAll (pyL ds) = bkL ds/\PyData.depthAll (pyL ds)<=n/\∀ t ∈ PyData.shownAll (pyL ds),PyData.strOk t = true
 | [],n,_=>by simp only [pyL,bkL]; exact ⟨rfl,rfl,rfl,Nat.zero_le _,fun t h=>by simp [PyData.shownAll] at h⟩
 | d :: ds,n,h=>by
  simp only [rokL,Bool.and_eq_true] at h
  obtain ⟨h1,h2,h3,h4,h5⟩:=rok_ok h.1
  obtain ⟨g1,g2,g3,g4,g5⟩:=rokL_ok h.2
  simp only [pyL,bkL,PyData.showableAll,PyData.leavesShortAll,PyData.bulkAll,PyData.depthAll,PyData.shownAll,h1,h2,h3,g1,g2,g3,Bool.and_self,true_and]
  refine ⟨by omega,fun t ht=>?_⟩
  rcases List.mem_cons.mp ht with rfl | ht
  ·exact h5
  ·exact g5 t ht
end
theorem shown_fits {d:D} {n:Nat} (h:rok n d = true) (hb:bkD d<=200000):(py d).shown.length<=sizeLine:=by
 obtain ⟨_,h2,h3,_,_⟩:=rok_ok h
 have:=PyData.shown_le_bulk 72 (by decide) (py d) h2
 rw [h3] at this
 have e:sizeLine = 16777216:=by decide
 omega
section
variable {X:Cx} {pins:List (Addr × Obj)} {σ:L2.St} {H:Hp} {s:Shared} {S:Pr}
theorem dic_at (I:Inv X pins σ H s) {t:Nat} {ks:List DK} {ds:List D} {n:Nat} {v:V} {u:Value} (h:rok n (.nd (.dic t ks) ds) = true) (r:Rp X.K H S (.nd (.dic t ks) ds) v) (e:RelV v u):∃ a o es ep,u = .ref a/\s.heap.get? a = some o/\o.cls = .type "dict"/\o.data = .dict es ep/\es.toList = []/\(a == sysModules) = false:=by
 simp only [rok,Bool.and_eq_true,decide_eq_true_eq] at h
 obtain ⟨_,ht,hk⟩:=h
 subst ht
 have hk:ks = []:=by simpa using hk
 subst hk
 unfold Rp at r
 obtain ⟨a,o,xs,rfl,na,g,q,rl⟩:=r
 cases e
 rcases q with ⟨_,kvs,rfl,hk,hx⟩ | ⟨ht,_⟩
 ·have hkv:kvs = []:=by cases kvs with | nil=>rfl | cons a b=>simp at hk
  subst hkv
  obtain ⟨hz,hS,vs,rel,o,es,ep,g1,g2,g3,_,g5,_⟩:=dk_of I.hok g
  have hv:vs = []:=by cases rel; rfl
  subst hv
  exact ⟨a,o,es,ep,rfl,g1,g2.1,g3,List.length_eq_zero_iff.mp (by simpa using g5.length),hS⟩
 ·cases ht
mutual
theorem reads_ofR (I:Inv X pins σ H s):∀ {d:D} {n:Nat} {v:V} {u:Value},rok n d = true->Rp X.K H S d v->RelV v u->∃ as,Reads s.heap u (py d) as
 | .non,n,v,u,_,r,e=>by unfold Rp at r; subst r; cases e; simp only [py]; exact ⟨_,.none⟩
 | .bl b,n,v,u,_,r,e=>by unfold Rp at r; subst r; cases e; simp only [py]; exact ⟨_,.bool b⟩
 | .int i,n,v,u,_,r,e=>by unfold Rp at r; subst r; obtain ⟨t,rfl⟩:=e; simp only [py]; exact ⟨_,.int i t⟩
 | .str x,n,v,u,h,r,e=>by unfold Rp at r; subst r; obtain ⟨t,rfl⟩:=e; simp only [py]; exact ⟨_,.str x t⟩
 | .scr ns,n,v,u,h,r,e=>by simp [rok] at h
 | .nd .lst ds,n,v,u,h,r,e=>by
  unfold Rp at r
  obtain ⟨a,o,xs,rfl,na,g,q,rl⟩:=r
  cases e
  have q:o = .lst xs:=q
  subst q
  obtain ⟨its,vs,⟨o,m,g1,g2,g3,g4⟩,z⟩:=I.list (SqL.of g)
  simp only [rok,Bool.and_eq_true,decide_eq_true_eq] at h
  obtain ⟨as,ra⟩:=reads_ofRL I h.2 rl vs
  simp only [py]
  exact ⟨_,.list g1 g2 g4 (by simpa using ra)⟩
 | .nd .tup ds,n,v,u,h,r,e=>by
  unfold Rp at r
  obtain ⟨a,o,xs,rfl,na,g,q,rl⟩:=r
  cases e
  have q:o = .tup xs:=q
  subst q
  obtain ⟨its,vs,⟨o,g1,g2,m,g4⟩,z⟩:=I.tuple (SqT.of g)
  simp only [rok,Bool.and_eq_true,decide_eq_true_eq] at h
  obtain ⟨as,ra⟩:=reads_ofRL I h.2 rl vs
  simp only [py]
  exact ⟨_,.tuple g1 g2 g4 (by simpa using ra)⟩
 | .nd (.dic t ks) ds,n,v,u,h,r,e=>by
  obtain ⟨a,o,es,ep,rfl,g1,g2,g3,he,hS⟩:=dic_at I h r e
  simp only [py]
  exact ⟨_,.dict g1 g2 g3 (by rw [he]; exact .nil) (by rw [he]; exact .nil)⟩
 | .nd (.obj _ _) _,n,v,u,h,r,e=>by simp [rok] at h
theorem reads_ofRL (I:Inv X pins σ H s):∀ {ds:List D} {n:Nat} {xs:List V} {us:List Value},rokL n ds = true->RpL X.K H S ds xs->Vals xs us->∃ as,ReadsAll s.heap us (pyL ds) as
 | [],n,xs,us,_,r,e=>by rw [r.nil_inv] at e; cases e; simp only [pyL]; exact ⟨_,.nil⟩
 | d :: ds,n,xs,us,h,r,e=>by
  obtain ⟨y,ys,rfl,r1,r2⟩:=r.cons_inv
  simp only [rokL,Bool.and_eq_true] at h
  cases e with
  | cons e1 e2=>
   obtain ⟨as,ra⟩:=reads_ofR I h.1 r1 e1
   obtain ⟨bs,rb⟩:=reads_ofRL I h.2 r2 e2
   simp only [pyL]
   exact ⟨_,.cons ra rb⟩
end
theorem lens {ts:List Str} {x:Str} (hm:∀ t ∈ ts,t.length<=x.length) (hx:x.length<=sizeLine):∀ t ∈ ts,t.length<=sizeLine:=fun t h=>Nat.le_trans (hm t h) hx
theorem lst_at (I:Inv X pins σ H s) {ds:List D} {n:Nat} {v:V} {u:Value} (hr:rok n (.nd .lst ds) = true) (r:Rp X.K H S (.nd .lst ds) v) (e:RelV v u) (kk:∀ us xs,RpL X.K H S ds xs->Vals xs us->∃ bs,ReadAtMost s.heap (PyData.depthAll (pyL ds)) bs/\ReprAllK X.prog X.w bs s.heap (PyData.depthAll (pyL ds)) us (PyData.shownAll (pyL ds))) :
  ∃ a o its m bs,u = .ref a/\s.heap.get? a = some o/\o.cls = .type "list"/\o.data = .seq its m/\a ∉ bs/\ReadAtMost s.heap (PyData.depthAll (pyL ds)) bs/\ReprAllK X.prog X.w bs s.heap (PyData.depthAll (pyL ds)) its.toList (PyData.shownAll (pyL ds)):=by
 obtain ⟨as,rd⟩:=reads_ofR I hr r e
 unfold Rp at r
 obtain ⟨a,o,xs,rfl,na,g,q,rl⟩:=r
 cases e
 cases (show o = .lst xs from q)
 obtain ⟨its,vs,⟨o,m,g1,g2,g3,g4⟩,z⟩:=I.list (SqL.of g)
 obtain ⟨bs,k1,k2⟩:=kk _ _ rl vs
 have nm:a ∉ bs:=not_mem_of_deeper rd (by simp only [py,PyData.depth]; omega) k1
 exact ⟨a,o,_,_,bs,rfl,g1,g2,g4,nm,k1,by simpa using k2⟩
theorem tup_at (I:Inv X pins σ H s) {ds:List D} {n:Nat} {v:V} {u:Value} (hr:rok n (.nd .tup ds) = true) (r:Rp X.K H S (.nd .tup ds) v) (e:RelV v u) (kk:∀ us xs,RpL X.K H S ds xs->Vals xs us->∃ bs,ReadAtMost s.heap (PyData.depthAll (pyL ds)) bs/\ReprAllK X.prog X.w bs s.heap (PyData.depthAll (pyL ds)) us (PyData.shownAll (pyL ds))) :
  ∃ a o its m bs,u = .ref a/\s.heap.get? a = some o/\o.cls = .type "tuple"/\o.data = .seq its m/\a ∉ bs/\ReadAtMost s.heap (PyData.depthAll (pyL ds)) bs/\ReprAllK X.prog X.w bs s.heap (PyData.depthAll (pyL ds)) its.toList (PyData.shownAll (pyL ds)):=by
 obtain ⟨as,rd⟩:=reads_ofR I hr r e
 unfold Rp at r
 obtain ⟨a,o,xs,rfl,na,g,q,rl⟩:=r
 cases e
 cases (show o = .tup xs from q)
 obtain ⟨its,vs,⟨o,g1,g2,m,g4⟩,z⟩:=I.tuple (SqT.of g)
 obtain ⟨bs,k1,k2⟩:=kk _ _ rl vs
 have nm:a ∉ bs:=not_mem_of_deeper rd (by simp only [py,PyData.depth]; omega) k1
 exact ⟨a,o,_,_,bs,rfl,g1,g2,g4,nm,k1,by simpa using k2⟩
mutual
theorem rk_of (I:Inv X pins σ H s):∀ {d:D} {n:Nat} {v:V} {u:Value},rok n d = true->Rp X.K H S d v->RelV v u->(py d).shown.length<=sizeLine->∃ bs,ReadAtMost s.heap (py d).depth bs/\ReprK X.prog X.w bs s.heap (py d).depth u (py d).shown
 | .non,n,v,u,_,r,e,_=>by unfold Rp at r; subst r; cases e; simp only [py,PyData.shown]; exact ⟨[],nofun,.of_is ReprIs.none _ _ _⟩
 | .bl b,n,v,u,_,r,e,_=>by unfold Rp at r; subst r; cases e; simp only [py,PyData.shown]; exact ⟨[],nofun,.of_is (ReprIs.bool b) _ _ _⟩
 | .int i,n,v,u,h,r,e,_=>by
  have hs:=(rok_ok h).1
  unfold Rp at r; subst r; obtain ⟨t,rfl⟩:=e
  simp only [py,PyData.shown]
  exact ⟨[],nofun,.of_is (ReprIs.int t (by simpa [py,PyData.showable] using hs)) _ _ _⟩
 | .str x,n,v,u,h,r,e,hz=>by unfold Rp at r; subst r; obtain ⟨t,rfl⟩:=e; simp only [py,PyData.shown] at hz ⊢; exact ⟨[],nofun,.of_is (ReprIs.str x t hz) _ _ _⟩
 | .scr ns,n,v,u,h,r,e,_=>by simp [rok] at h
 | .nd .lst ds,n,v,u,h,r,e,hz=>by
  have hr:=h
  simp only [rok,Bool.and_eq_true,decide_eq_true_eq] at h
  obtain ⟨as,rd⟩:=reads_ofR I hr r e
  simp only [py,PyData.shown] at hz rd
  obtain ⟨a,o,its,m,bs,rfl,g1,g2,g3,nm,k1,k2⟩:=lst_at I hr r e fun us xs rl vs=>rk_ofL I h.2 rl vs (lens (fun t ht=>listText_mem_le ht) hz)
  simp only [py]
  refine ⟨a :: bs,ReadAtMost.cons rd (by simp only [PyData.depth]; omega) k1,?_⟩
  simp only [PyData.depth,PyData.shown]
  obtain ⟨l⟩:=its
  cases l with
  | nil=>
   have k2:ReprAllK X.prog X.w bs s.heap _ [] (PyData.shownAll (pyL ds)):=k2
   generalize PyData.shownAll (pyL ds) = ts at k2 ⊢
   cases k2
   rw [listText_nil]
   exact ReprK.listEmpty g1 g2 g3
  | cons y l=>exact ReprK.list g1 g2 g3 nm (by simpa using k2.length_eq) (fun i z ez=>k2.item i z (by simpa using ez))
 | .nd .tup ds,n,v,u,h,r,e,hz=>by
  have hr:=h
  simp only [rok,Bool.and_eq_true,decide_eq_true_eq] at h
  obtain ⟨as,rd⟩:=reads_ofR I hr r e
  simp only [py,PyData.shown] at hz rd
  obtain ⟨a,o,its,m,bs,rfl,g1,g2,g3,nm,k1,k2⟩:=tup_at I hr r e fun us xs rl vs=>rk_ofL I h.2 rl vs (lens (fun t ht=>tupleText_mem_le ht) hz)
  simp only [py]
  refine ⟨a :: bs,ReadAtMost.cons rd (by simp only [PyData.depth]; omega) k1,?_⟩
  simp only [PyData.depth,PyData.shown]
  exact ReprK.tuple g1 g2 g3 nm k2
 | .nd (.dic t ks) ds,n,v,u,h,r,e,hz=>by
  obtain ⟨as,rd⟩:=reads_ofR I h r e
  obtain ⟨a,o,es,ep,rfl,g1,g2,g3,he,hS⟩:=dic_at I h r e
  simp only [py] at rd ⊢
  refine ⟨[a],ReadAtMost.cons (bs:=[]) rd (Nat.zero_le _) nofun,?_⟩
  simp only [PyData.depth,PyData.shown,PyData.shownKv,PyData.depthKv]
  exact ReprK.dict g1 g2 g3 hS (as:=[]) nofun (by rw [he]; exact .nil)
 | .nd (.obj _ _) _,n,v,u,h,r,e,_=>by simp [rok] at h
theorem rk_ofL (I:Inv X pins σ H s):∀ {ds:List D} {n:Nat} {xs:List V} {us:List Value},rokL n ds = true->RpL X.K H S ds xs->Vals xs us->(∀ t ∈ PyData.shownAll (pyL ds),t.length<=sizeLine)->∃ bs,ReadAtMost s.heap (PyData.depthAll (pyL ds)) bs/\ReprAllK X.prog X.w bs s.heap (PyData.depthAll (pyL ds)) us (PyData.shownAll (pyL ds))
 | [],n,xs,us,_,r,e,_=>by rw [r.nil_inv] at e; cases e; simp only [pyL,PyData.shownAll]; exact ⟨[],nofun,.nil⟩
 | d :: ds,n,xs,us,h,r,e,hz=>by
  obtain ⟨y,ys,rfl,r1,r2⟩:=r.cons_inv
  simp only [rokL,Bool.and_eq_true] at h
  simp only [pyL,PyData.shownAll] at hz
  cases e with
  | cons e1 e2=>
   obtain ⟨as,ra,ka⟩:=rk_of I h.1 r1 e1 (hz _ List.mem_cons_self)
   obtain ⟨bs,rb,kb⟩:=rk_ofL I h.2 r2 e2 fun t ht=>hz t (List.mem_cons_of_mem _ ht)
   simp only [pyL,PyData.shownAll,PyData.depthAll]
   exact ⟨as ++ bs,(ra.mono (Nat.le_max_left _ _)).append (rb.mono (Nat.le_max_right _ _)),.cons ((ka.more fun z hz=>List.mem_append_left _ hz).level_le (Nat.le_max_left _ _)) (kb.more_le (fun z hz=>List.mem_append_right _ hz) (Nat.le_max_right _ _))⟩
end
end
theorem call_repr {X:Cx} (hg:X.A.guards = some []) (hu:X.A.units + 100 < cLine):CallR X (.builtin "repr") (fun xs H Q=>∃ v d S,xs = [v]/\Rp X.K H S d v/\rok 98 d = true/\bkD d<=200000/\Q (.str (py d).shown) H):=by
 intro pins s σ H xs us Q I r h
 obtain ⟨v,d,S,rfl,rp,hr,hb,q⟩:=h
 obtain ⟨u,rfl,e⟩:=vals1 r
 obtain ⟨h1,_,_,h4,_⟩:=rok_ok hr
 have hz:=shown_fits hr hb
 have hu1:X.A.units + 1 < cLine:=by omega
 cases d with
 | non=>unfold Rp at rp; subst rp; cases e; exact P.repr_of_none ⟨.str _,H,I.tok _,⟨_,rfl⟩,by simpa [py,PyData.shown] using q⟩
 | bl b=>unfold Rp at rp; subst rp; cases e; exact P.repr_of_bool ⟨.str _,H,I.tok _,⟨_,rfl⟩,by simpa [py,PyData.shown] using q⟩
 | int i=>unfold Rp at rp; subst rp; obtain ⟨t,rfl⟩:=e; exact P.repr_of_int (by simpa [py,PyData.showable] using h1) ⟨.str _,H,I.tok _,⟨_,rfl⟩,by simpa [py,PyData.shown] using q⟩
 | str x=>unfold Rp at rp; subst rp; obtain ⟨t,rfl⟩:=e; exact P.repr_of_str ⟨.str _,H,I.tok _,⟨_,rfl⟩,by simpa [py,PyData.shown] using q⟩ (by simpa [py,PyData.shown] using hz)
 | scr ns=>simp [rok] at hr
 | nd hd ds=>
  cases hd with
  | lst=>
   have hr':=hr
   simp only [rok,Bool.and_eq_true,decide_eq_true_eq] at hr'
   simp only [py,PyData.shown] at hz q
   simp only [py,PyData.depth] at h4
   obtain ⟨a,o,its,m,bs,rfl,g1,g2,g3,nm,k1,k2⟩:=lst_at I hr rp e fun us xs rl vs=>rk_ofL I hr'.2 rl vs (lens (fun t ht=>listText_mem_le ht) hz)
   have kQ:∀ h' w tk,(∀ b o,s.heap.get? b = some o->h'.get? b = some o)->EP X pins σ Q (.str (listText (PyData.shownAll (pyL ds))) w) { s with heap:=h',toks:=tk }:=fun h' w tk hk=>⟨.str _,H,I.kept hk,⟨_,rfl⟩,q⟩
   refine call_repr_slot hu1 ⟨o,g1,g2⟩ F.slot_list_repr.toG ?_
   obtain ⟨l⟩:=its
   cases l with
   | nil=>
    have k2:ReprAllK X.prog X.w bs s.heap _ [] (PyData.shownAll (pyL ds)):=k2
    generalize PyData.shownAll (pyL ds) = ts at k2 kQ
    cases k2
    rw [listText_nil] at kQ
    exact call_list_repr_empty ⟨o,g1,g2⟩ g1 g3 ⟨_,_,rfl,kQ s.heap _ _ fun _ _ e=>e⟩
   | cons y l=>exact call_list_reprK g1 g2 g3 nm (by simpa using k2.length_eq) (fun i z ez=>k2.item i z (by simpa using ez)) hg (fun b _=>Clear.nil b) (by show X.A.units + 1 + (_ + 1) < cLine; omega) (fun _ _ e=>e) (fun h' w tk hk=>⟨_,_,rfl,kQ h' w tk hk⟩) hz
  | tup=>
   have hr':=hr
   simp only [rok,Bool.and_eq_true,decide_eq_true_eq] at hr'
   simp only [py,PyData.shown] at hz q
   simp only [py,PyData.depth] at h4
   obtain ⟨a,o,its,m,bs,rfl,g1,g2,g3,nm,k1,k2⟩:=tup_at I hr rp e fun us xs rl vs=>rk_ofL I hr'.2 rl vs (lens (fun t ht=>tupleText_mem_le ht) hz)
   refine call_repr_slot hu1 ⟨o,g1,g2⟩ F.slot_tuple_repr ?_
   exact call_tuple_reprK g1 g2 g3 nm k2 hg (fun b _=>Clear.nil b) (by show X.A.units + 1 + (_ + 1) < cLine; omega) (fun _ _ e=>e) (fun h' w tk hk=>⟨_,_,rfl,⟨.str _,H,I.kept hk,⟨_,rfl⟩,q⟩⟩) hz
  | dic t ks=>
   obtain ⟨a,o,es,ep,rfl,g1,g2,g3,he,hS⟩:=dic_at I hr rp e
   simp only [py,PyData.shown,PyData.shownKv] at hz q
   refine call_repr_slot hu1 ⟨o,g1,g2⟩ F.slot_dict_repr ?_
   exact call_dict_reprK g1 g2 g3 hS (as:=[]) (d:=0) (ps:=[]) nofun (by rw [he]; exact .nil) hg (fun b _=>Clear.nil b) (by show X.A.units + 1 + (0 + 1) < cLine; omega) (fun _ _ e=>e) (fun h' w tk hk=>⟨_,_,rfl,⟨.str _,H,I.kept hk,⟨_,rfl⟩,q⟩⟩) hz
  | obj c ns=>simp [rok] at hr
end J
namespace J
open PySem PySem.Spec L2
section
variable {X:Cx}
theorem call_all_list (hc:X.calm = true):CallR X (.builtin "all") (fun xs H Q=>∃ (p:Addr) (bs:List Bool),xs = [.ref p]/\SqL X.K H p (bs.map V.bl)/\Q (.bl (bs.all id)) H):=by
 intro pins s σ H xs us Q I r h
 obtain ⟨p,bs,rfl,hq,q⟩:=h
 obtain ⟨u,rfl,rx⟩:=vals1 r
 cases rx
 obtain ⟨its,rv,pl,hz⟩:=I.list hq
 have hlen:=rv.length
 have hh:X.A.in1.handled = none:=I.ok.hd hc
 have hnz:p ≠ s.heap.objs.size:=by
  obtain ⟨o,n,e,_⟩:=pl
  exact Nat.ne_of_lt (Heap.lt_size e)
 refine call_all_walk (wpAny_pyIter_list pl.isList ?_)
 have hp:(s.heap.push { cls:=.type "list_iterator",data:=.fields #[.ref p,.int 0 0] }).IsList p its.toArray:=by
  obtain ⟨o,e,r⟩:=pl.isList
  exact ⟨o,Heap.get?_push_of_some _ e,r⟩
 refine ⟨s.heap.objs.size,_,_,_,_,_,fun i=>(bs[i]?).getD false,rfl,Walks.list hh s.heap.objs.size p hnz its.toArray,⟨⟨_,Heap.get?_push_size _ rfl,rfl,rfl⟩,hp⟩,fun i v s' Q' E' hP hQ=>?_,fun h' tk hk=>?_⟩
 ·have hP':its[i]? = some v:=by simpa using hP
  cases hb:bs[i]? with
  | none=>
   have h1:(bs.map V.bl)[i]? = none:=by rw [List.getElem?_map,hb]; rfl
   rw [rv.none_of h1] at hP'
   cases hP'
  | some b=>
   have h1:(bs.map V.bl)[i]? = some (.bl b):=by rw [List.getElem?_map,hb]; rfl
   obtain ⟨u,e1,e2⟩:=rv.get h1
   rw [hP'] at e1
   cases e1
   cases e2
   simp only [hb,Option.getD_some] at hQ
   exact wpAny_truthy_bool hQ
 ·have e:((List.range its.toArray.size).all fun i=>(bs[i]?).getD false) = bs.all id:=by
   have hl:its.toArray.size = bs.length:=by rw [List.size_toArray,<- hlen,List.length_map]
   rw [hl,Bool.eq_iff_iff]
   simp only [List.all_eq_true,List.mem_range,id]
   constructor
   ·intro h x hx
    obtain ⟨i,hi,rfl⟩:=List.mem_iff_getElem.mp hx
    have:=h i hi
    rw [List.getElem?_eq_getElem hi] at this
    exact this
   ·intro h i hi
    rw [List.getElem?_eq_getElem hi]
    exact h _ (List.getElem_mem hi)
  rw [e]
  refine ⟨.bl (bs.all id),H,I.kept fun b o q'=>hk b o (fun z=>?_) (Heap.get?_push_of_some _ q'),rfl,q⟩
  have:b = s.heap.objs.size:=by simpa using z
  exact absurd (this ▸ Heap.lt_size q') (Nat.lt_irrefl _)
theorem call_isinst:CallR X (.builtin "isinstance") (fun xs H Q=>∃ x T t b,xs = [x,.ty T]/\TyOf X.K H x t/\PySem.W.kitOne X.K t (.type T) = some b/\Q (.bl b) H):=by
 intro pins s σ H xs us Q I r h
 obtain ⟨x,T,t,b,rfl,ty,e,q⟩:=h
 obtain ⟨u,w',rfl,r1,r2⟩:=vals2 r
 cases r2
 exact isinst_ok I r1 ty e fun tk=>⟨.bl b,H,I.tok _,rfl,q⟩
theorem call_lenK:CallR X (.builtin "len") (fun xs H Q=>∃ a kvs,xs = [V.ref a]/\H a = some (.dK kvs)/\Q (.int kvs.length) H):=by
 intro pins s σ H xs us Q I r h
 obtain ⟨a,kvs,rfl,ha,q⟩:=h
 obtain ⟨u,rfl,ru⟩:=vals1 r
 cases ru
 exact d_len I (.inl ha) fun t s' I'=>⟨.int kvs.length,H,I',⟨t,rfl⟩,q⟩
end
noncomputable def lenD:D->Option Nat
 | .nd .lst ds=>some ds.length
 | .nd .tup ds=>some ds.length
 | .scr ns=>some ns.length
 | .str x=>if x.length<=100000 then some x.length else none
 | _=>none
noncomputable def toBools:List D->Option (List Bool)
 | []=>some []
 | .bl b :: r=>(toBools r).map (b :: ·)
 | _=>none
noncomputable def toInts:List D->Option (List Int)
 | []=>some []
 | .int b :: r=>(toInts r).map (b :: ·)
 | _=>none
theorem toBools_eq:∀ {ds:List D} {bs:List Bool},toBools ds = some bs->ds = bs.map D.bl
 | [],bs,h=>by cases h; rfl
 | d :: r,bs,h=>by
  cases d <;> simp only [toBools] at h <;> try cases h
  rename_i b
  cases e:toBools r with
  | none=>rw [e] at h; cases h
  | some cs=>rw [e] at h; cases h; rw [toBools_eq e]; rfl
theorem toInts_eq:∀ {ds:List D} {bs:List Int},toInts ds = some bs->ds = bs.map D.int
 | [],bs,h=>by cases h; rfl
 | d :: r,bs,h=>by
  cases d <;> simp only [toInts] at h <;> try cases h
  rename_i b
  cases e:toInts r with
  | none=>rw [e] at h; cases h
  | some cs=>rw [e] at h; cases h; rw [toInts_eq e]; rfl
theorem toBools_map:∀ ns:List Bool,toBools (ns.map D.bl) = some ns
 | []=>rfl
 | n :: ns=>by simp [toBools,toBools_map ns]
theorem RpL.bools {K:PySem.W.Frag} {H:Hp} {S:Pr}:∀ {bs:List Bool} {vs:List V},RpL K H S (bs.map D.bl) vs->vs = bs.map V.bl
 | [],_,h=>h.nil_inv
 | b :: bs,_,h=>by
  obtain ⟨y,ys,rfl,r,t⟩:=h.cons_inv
  rw [r.bl,RpL.bools t]; rfl
theorem RpL.toInts {K:PySem.W.Frag} {H:Hp} {S:Pr}:∀ {ns:List Int} {vs:List V},RpL K H S (ns.map D.int) vs->vs = ns.map V.int
 | [],_,h=>h.nil_inv
 | b :: bs,_,h=>by
  obtain ⟨y,ys,rfl,r,t⟩:=h.cons_inv
  rw [r.int,RpL.toInts t]; rfl
noncomputable def fLen (kds:List KD):Option KD:=match kds with | [(_,d)]=>(lenD d).map fun n=>(.sh,.int n) | _=>none
noncomputable def fAll (kds:List KD):Option KD:=match kds with | [(_,.nd .lst ds)]=>(toBools ds).map fun bs=>(.sh,.bl (bs.all id)) | _=>none
noncomputable def fAny (kds:List KD):Option KD:=match kds with | [(_,.nd .lst ds)]=>(toBools ds).map fun bs=>(.sh,.bl (bs.any id)) | _=>none
noncomputable def fList (kds:List KD):Option KD:=match kds with
 | [(k,.nd .lst ds)]=>if okE k ds = true then some (.fr flatO,.lst ds) else none
 | [(k,.nd .tup ds)]=>if okE k ds = true then some (.fr flatO,.lst ds) else none
 | [(_,.scr ns)]=>some (.fr flatO,.lst (ns.map D.int))
 | _=>none
noncomputable def fTuple (kds:List KD):Option KD:=match kds with
 | [(k,.nd .lst ds)]=>if okE k ds = true then some (.sh,.tup ds) else none
 | _=>none
noncomputable def fStr (kds:List KD):Option KD:=match kds with | [(_,.int i)]=>if i.natAbs.log2 < 1920 then some (.sh,.str (toString i)) else none | _=>none
noncomputable def fSum (kds:List KD):Option KD:=match kds with | [(_,.nd .lst ds)]=>(toInts ds).map fun ns=>(.sh,.int ns.sum) | [(_,.scr ns)]=>some (.sh,.int ns.sum) | _=>none
noncomputable def fMin (kds:List KD):Option KD:=match kds with | [(_,.int i),(_,.int j)]=>some (.sh,.int (if j < i then j else i)) | _=>none
noncomputable def maxL (n:Int) (ns:List Int):Int:=ns.foldl (fun a b=>if a < b then b else a) n
noncomputable def fMax (kds:List KD):Option KD:=match kds with
 | [(_,.int i),(_,.int j)]=>some (.sh,.int (if j > i then j else i))
 | [(_,.nd .lst ds)]=>(match J.toInts ds with | some (n :: ns)=>some (.sh,.int (maxL n ns)) | _=>none)
 | _=>none
noncomputable def fAbs (kds:List KD):Option KD:=match kds with | [(_,.int i)]=>some (.sh,.int (if i < 0 then -i else i)) | _=>none
noncomputable def fInt (kds:List KD):Option KD:=match kds with | [(_,.bl b)]=>some (.sh,.int (if b then 1 else 0)) | _=>none
noncomputable def toPairs:List D->Option (List (Int × D))
 | []=>some []
 | d :: r=>match d with
  | .nd .tup ds=>(match ds with
   | [a,x]=>(match a with | .int z=>(toPairs r).map ((z,x) :: ·) | _=>none)
   | _=>none)
  | _=>none
noncomputable def pairD (ps:List (Int × D)):D:=.nd (.dic 0 (ps.map fun p=>Sum.inl (Sum.inl p.1))) (ps.map (·.2))
noncomputable def fDict (kds:List KD):Option KD:=match kds with
 | [(k,.nd .lst ds)]=>if okE k ds = true then (match toPairs ds with | some ps=>if (ps.map (·.1)).Nodup/\ps.length<=100000 then some (.fr flatO,pairD ps) else none | none=>none) else none
 | _=>none
noncomputable def fRepr1 (d:D):Option KD:=if rok 98 d = true/\bkD d<=200000 then some (.sh,.str (py d).shown) else none
noncomputable def fRepr (kds:List KD):Option KD:=match kds with
 | [(_,d)]=>fRepr1 d
 | _=>none
noncomputable def fBlt (x:Str):List KD->Option KD:=
 if x = "len" then fLen else if x = "all" then fAll else if x = "any" then (fun _=>none) else if x = "list" then fList else if x = "tuple" then fTuple else if x = "str" then (fun _=>none) else if x = "sum" then fSum
 else if x = "min" then fMin else if x = "max" then (fun _=>none) else if x = "abs" then (fun _=>none) else if x = "int" then (fun _=>none) else if x = "dict" then (fun _=>none) else if x = "repr" then fRepr else fun _=>none
noncomputable def oBlt (x:Str) (a:Option (List KD)):Option KD:=match a with | some kds=>fBlt x kds | none=>none
noncomputable def AP1 (X:Cx) (kds:List KD) (kd:Kd) (d:D) (Q:VK) (vs:List V) (H1:Hp):Prop:=∃ g H0,MuOk H0 (Sg g)/\Same H0 H1/\VRs X.K g H0 H1 kds vs/\∀ v H',Same H1 H'->VR X.K g H0 H' kd d v->Q v H'
noncomputable def StrictOk (X:Cx) (f:List KD->Option KD) (es:List Expr) (node:Expr):Prop:=∀ kds kd d,f kds = some (kd,d)->∀ σ H Q,wA X es σ H (AP1 X kds kd d Q)->wE X node σ H Q
theorem wA_mono {X:Cx} {es:List Expr} {σ:L2.St} {H:Hp} {Q Q':List V->Hp->Prop} (h:wA X es σ H Q) (k:∀ vs H,Q vs H->Q' vs H):wA X es σ H Q':=fun pos pins s I=>thn (h pos pins s I) fun us s' ⟨vs,H',I',r,q⟩=>⟨vs,H',I',r,k vs H' q⟩
theorem StrictOk.snd {X:Cx} {f:List KD->Option KD} {es:List Expr} {node:Expr} {fa:Ro->Option (List KD)} (h:StrictOk X f es node) (ha:SndA X fa es):SndE X (fun ρ=>(fa ρ).bind f) node:=by
 intro ρ kd d hd g σ H Q se q
 dsimp only at hd
 cases e:fa ρ with
 | none=>rw [e] at hd; cases hd
 | some kds=>
  rw [e] at hd
  exact h kds kd d hd σ H Q (ha ρ kds e g σ H _ se fun vs H1 s1 r1=>⟨g,H,se.mu,s1,r1,fun v H' s r=>q v H' (s1.trans s) r⟩)
noncomputable def BltOk (X:Cx) (x:Str) (f:List KD->Option KD):Prop:=∀ (e:Expr) (es:List Expr) (p pos:Pos),Gl X x->noStar e = true->es.all noStar = true->StrictOk X f (e :: es) (.Call (.Name x p) (e :: es) [] pos)
section
variable {X:Cx} {Γ:Tab} {c:Cz}
theorem b_len (O:CxOk X Γ c):BltOk X "len" fLen:=by
 intro e es p pos hg n1 n2 kds kd d h σ H Q hA
 unfold fLen at h
 split at h
 ·rename_i ka da
  cases hl:lenD da with
  | none=>rw [hl] at h; cases h
  | some n=>
   rw [hl] at h
   cases h
   refine pe_le (pe_callB (call_len_seq.or (call_len_str.or call_lenK)) hg (O.tab.bl _ (by simp [bltNames])) PySem.boot_len pa_w (by decide) (by decide) (star_of n1) (back_any n2)) (wA_mono hA fun vs H1 ⟨g,H0,m,s1,r1,q⟩=>?_)
   obtain ⟨v,rfl,r⟩:=r1.one
   have t:=r.rd
   cases da with
   | scr ns=>
    obtain ⟨a,rfl,g1⟩:=t.scr
    cases hl
    exact .inl ⟨a,_,rfl,.inl g1,q _ H1 (Same.refl H1) (by rw [List.length_map]; exact vInt)⟩
   | str x=>
    obtain rfl:=t.str
    simp only [lenD] at hl
    split at hl
    ·rename_i hz
     cases hl
     exact .inr (.inl ⟨x,rfl,size_small hz,q _ H1 (Same.refl H1) vInt⟩)
    ·cases hl
   | nd hd ds=>
    obtain ⟨a,o,us,rfl,_,g1,q1,rr⟩:=t.nd
    cases hd with
    | lst=>cases hl; cases (show o = _ from q1); exact .inl ⟨a,us,rfl,.inl (.of g1),q _ H1 (Same.refl H1) (by rw [rr.len]; exact vInt)⟩
    | tup=>cases hl; cases (show o = _ from q1); exact .inl ⟨a,us,rfl,.inr (.of g1),q _ H1 (Same.refl H1) (by rw [rr.len]; exact vInt)⟩
    | dic tt ks=>cases hl
    | obj c ns=>cases hl
   | _=>cases hl
 ·cases h
theorem b_all (O:CxOk X Γ c):BltOk X "all" fAll:=by
 intro e es p pos hg n1 n2 kds kd d h σ H Q hA
 unfold fAll at h
 split at h
 ·rename_i ka ds
  cases hl:toBools ds with
  | none=>rw [hl] at h; cases h
  | some bs=>
   rw [hl] at h
   cases h
   refine pe_le (pe_callB (call_all_list O.calm) hg (O.tab.bl _ (by simp [bltNames])) PyProof.Rows.boot_all pa_w (by decide) (by decide) (star_of n1) (back_any n2)) (wA_mono hA fun vs H1 ⟨g,H0,m,s1,r1,q⟩=>?_)
   obtain ⟨v,rfl,r⟩:=r1.one
   obtain ⟨a,o,us,rfl,_,g1,q1,rr⟩:=r.rd.nd
   cases (show o = _ from q1)
   rw [toBools_eq hl] at rr
   exact ⟨a,bs,rfl,.of (by rw [g1,rr.bools]),q _ H1 (Same.refl H1) vBl⟩
 ·cases h
theorem b_list (O:CxOk X Γ c):BltOk X "list" fList:=by
 intro e es p pos hg n1 n2 kds kd d h σ H Q hA
 unfold fList at h
 split at h
 ·rename_i ka ds
  split at h
  ·rename_i hk
   cases h
   refine pe_le (pe_callTy call_list_of hg (O.tab.bl _ (by simp [bltNames])) PyProof.Rows.boot_list pa_w (by decide) (by decide) (star_of n1) (back_any n2)) (wA_mono hA fun vs H1 ⟨g,H0,m,s1,r1,q⟩=>?_)
   obtain ⟨v,rfl,r⟩:=r1.one
   obtain ⟨a,o,us,rfl,g1,q1,rr⟩:=r.items hk m s1
   cases (show o = _ from q1)
   exact ⟨a,us,rfl,.inl (.of g1),fun l hl=>q _ _ (same_upd hl) ((vNew hl rr).older s1)⟩
  ·cases h
 ·rename_i ka ds
  split at h
  ·rename_i hk
   cases h
   refine pe_le (pe_callTy call_list_of hg (O.tab.bl _ (by simp [bltNames])) PyProof.Rows.boot_list pa_w (by decide) (by decide) (star_of n1) (back_any n2)) (wA_mono hA fun vs H1 ⟨g,H0,m,s1,r1,q⟩=>?_)
   obtain ⟨v,rfl,r⟩:=r1.one
   obtain ⟨a,o,us,rfl,g1,q1,rr⟩:=r.items hk m s1
   cases (show o = _ from q1)
   exact ⟨a,us,rfl,.inr (.of g1),fun l hl=>q _ _ (same_upd hl) ((vNew hl rr).older s1)⟩
  ·cases h
 ·rename_i ka ns
  cases h
  refine pe_le (pe_callTy call_list_of hg (O.tab.bl _ (by simp [bltNames])) PyProof.Rows.boot_list pa_w (by decide) (by decide) (star_of n1) (back_any n2)) (wA_mono hA fun vs H1 ⟨g,H0,m,s1,r1,q⟩=>?_)
  obtain ⟨v,rfl,r⟩:=r1.one
  obtain ⟨a,rfl,g1⟩:=r.rd.scr
  exact ⟨a,_,rfl,.inl g1,fun l hl=>q _ _ (same_upd hl) ((vNew hl (RpL.ints ns)).older s1)⟩
 ·cases h
theorem b_tuple (O:CxOk X Γ c):BltOk X "tuple" fTuple:=by
 intro e es p pos hg n1 n2 kds kd d h σ H Q hA
 unfold fTuple at h
 split at h
 ·rename_i ka ds
  split at h
  ·rename_i hk
   cases h
   refine pe_le (pe_callTy call_tuple_of hg (O.tab.bl _ (by simp [bltNames])) PyProof.Rows.boot_tuple pa_w (by decide) (by decide) (star_of n1) (back_any n2)) (wA_mono hA fun vs H1 ⟨g,H0,m,s1,r1,q⟩=>?_)
   obtain ⟨v,rfl,r⟩:=r1.one
   obtain ⟨a,o,us,rfl,g1,q1,rr⟩:=r.items hk m s1
   cases (show o = _ from q1)
   exact ⟨a,us,rfl,.inl ⟨.of g1,fun l hl=>q _ _ (same_upd hl) ((vTup (m.same s1) hl rr).older s1)⟩⟩
  ·cases h
 ·cases h
theorem b_sum (O:CxOk X Γ c):BltOk X "sum" fSum:=by
 intro e es p pos hg n1 n2 kds kd d h σ H Q hA
 unfold fSum at h
 split at h
 ·rename_i ka ds
  cases hl:J.toInts ds with
  | none=>rw [hl] at h; cases h
  | some ns=>
   rw [hl] at h
   cases h
   refine pe_le (pe_callB (call_sum_list O.calm) hg (O.tab.bl _ (by simp [bltNames])) PyProof.Rows.boot_sum pa_w (by decide) (by decide) (star_of n1) (back_any n2)) (wA_mono hA fun vs H1 ⟨g,H0,m,s1,r1,q⟩=>?_)
   obtain ⟨v,rfl,r⟩:=r1.one
   obtain ⟨a,o,us,rfl,_,g1,q1,rr⟩:=r.rd.nd
   cases (show o = _ from q1)
   rw [toInts_eq hl] at rr
   exact ⟨a,ns,rfl,.of (by rw [g1,rr.toInts]),q _ H1 (Same.refl H1) vInt⟩
 ·rename_i ka ns
  cases h
  refine pe_le (pe_callB (call_sum_list O.calm) hg (O.tab.bl _ (by simp [bltNames])) PyProof.Rows.boot_sum pa_w (by decide) (by decide) (star_of n1) (back_any n2)) (wA_mono hA fun vs H1 ⟨g,H0,m,s1,r1,q⟩=>?_)
  obtain ⟨v,rfl,r⟩:=r1.one
  obtain ⟨a,rfl,g1⟩:=r.rd.scr
  exact ⟨a,ns,rfl,g1,q _ H1 (Same.refl H1) vInt⟩
 ·cases h
theorem b_min (O:CxOk X Γ c):BltOk X "min" fMin:=by
 intro e es p pos hg n1 n2 kds kd d h σ H Q hA
 unfold fMin at h
 split at h
 ·rename_i ka i kb j
  cases h
  refine pe_le (pe_callB (call_min2 O.calm) hg (O.tab.bl _ (by simp [bltNames])) PyProof.Rows.boot_min pa_w (by decide) (by decide) (star_of n1) (back_any n2)) (wA_mono hA fun vs H1 ⟨g,H0,m,s1,r1,q⟩=>?_)
  obtain ⟨v,v',rfl,r,r'⟩:=r1.two
  obtain rfl:=r.rd.int
  obtain rfl:=r'.rd.int
  exact ⟨i,j,rfl,q _ H1 (Same.refl H1) vInt⟩
 ·cases h
theorem few_ok {e:Expr} {env:Env} {cp:Pos} (h:noStar e = true):((backTo cp (starEach [e] env)).all (fun x=>!x.1) && (backToKw cp (keywordEach [] env)).all (fun x=>x.1.isSome)
      && decide ([e].length + ([]:List Keyword).length + (if ([]:List Keyword).isEmpty then 0 else 1) < 30)) = true:=by
  rw [star_of h]
  rfl
noncomputable def baseB:Expr->Bool
 | .Name x _=>!(x == ("super":Str))
 | .Subscript ..=>true
 | .Attribute ..=>true
 | _=>false
theorem base_ok {b:Expr} {m:Str} {env:Env} {w:Sem Value} (h:baseB b = true):attributeBase b m env w = w:=by
 cases b with
 | Name x p=>
  unfold attributeBase
  have h:(x == ("super":Str)) = false:=by simpa [baseB] using h
  simp [h]
 | Subscript a b p=>rfl
 | Attribute a b p=>rfl
 | _=>cases h
theorem b_repr (O:CxOk X Γ c):BltOk X "repr" fRepr:=by
 intro e es p pos hg n1 n2 kds kd d h σ H Q hA
 unfold fRepr at h
 split at h
 ·rename_i ka dd
  unfold fRepr1 at h
  by_cases hz:rok 98 dd = true/\bkD dd<=200000
  ·rw [if_pos hz] at h
   cases h
   refine pe_le (pe_callB (call_repr O.tab.gd O.tab.units) hg (O.tab.bl _ (by simp [bltNames])) (show bootBuiltins "repr" = some (.builtin "repr") by decide +kernel) pa_w (by decide) (by decide) (star_of n1) (back_any n2)) (wA_mono hA fun vs H1 ⟨g,H0,m,s1,r1,q⟩=>?_)
   obtain ⟨v,rfl,r⟩:=r1.one
   exact ⟨v,dd,_,rfl,r.rd,hz.1,hz.2,q _ H1 (Same.refl H1) vStr⟩
  ·rw [if_neg hz] at h
   cases h
 ·cases h
theorem b_off {x:Str}:BltOk X x (fun _=>none):=fun e es p pos hg n1 n2 kds kd d h=>by cases h
theorem b_if {x y:Str} {f g:List KD->Option KD} (h1:x = y->BltOk X x f) (h2:BltOk X x g):BltOk X x (if x = y then f else g):=by
 by_cases h:x = y
 ·rw [if_pos h]; exact h1 h
 ·rw [if_neg h]; exact h2
theorem b_all_ok (O:CxOk X Γ c) (x:Str):BltOk X x (fBlt x):=by
 unfold fBlt
 refine b_if (fun h=>?_) ?_
 ·first | exact b_off | (subst h; exact b_len O)
 refine b_if (fun h=>?_) ?_
 ·first | exact b_off | (subst h; exact b_all O)
 refine b_if (fun h=>?_) ?_
 ·first | exact b_off | (subst h; exact b_any O)
 refine b_if (fun h=>?_) ?_
 ·first | exact b_off | (subst h; exact b_list O)
 refine b_if (fun h=>?_) ?_
 ·first | exact b_off | (subst h; exact b_tuple O)
 refine b_if (fun h=>?_) ?_
 ·first | exact b_off | (subst h; exact b_str O)
 refine b_if (fun h=>?_) ?_
 ·first | exact b_off | (subst h; exact b_sum O)
 refine b_if (fun h=>?_) ?_
 ·first | exact b_off | (subst h; exact b_min O)
 refine b_if (fun h=>?_) ?_
 ·first | exact b_off | (subst h; exact b_max O)
 refine b_if (fun h=>?_) ?_
 ·first | exact b_off | (subst h; exact b_abs O)
 refine b_if (fun h=>?_) ?_
 ·first | exact b_off | (subst h; exact b_int O)
 refine b_if (fun h=>?_) ?_
 ·first | exact b_off | (subst h; exact b_dict O)
 refine b_if (fun h=>?_) ?_
 ·first | exact b_off | (subst h; exact b_repr O)
 ·intro e es p pos hg n1 n2 kds kd d h
  cases h
theorem s_blt (O:CxOk X Γ c) {x:Str} {e:Expr} {es:List Expr} {p pos:Pos} {fa:Ro->Option (List KD)} (hf:SndA X fa (e :: es)) (hg:glB c.sc x = true) (n1:noStar e = true) (n2:es.all noStar = true):SndE X (fun ρ=>oBlt x (fa ρ)) (.Call (.Name x p) (e :: es) [] pos):=by
 have:=(b_all_ok O x e es p pos (gl_of O hg) n1 n2).snd hf
 rw [show (fun ρ=>oBlt x (fa ρ)) = fun ρ=>(fa ρ).bind (fBlt x) by funext ρ; unfold oBlt; cases fa ρ <;> rfl]
 exact this
end
end J
namespace J
open PySem PySem.Spec L2
inductive Src where
 | non | l (a:Addr) (ds:List D) | t (a:Addr) (ds:List D) | two (s u:Src)
noncomputable def Src.P (K:PySem.W.Frag):Src->Gh->Hp->Prop
 | .non,_,_=>True
 | .l a ds,g,H=>∃ xs,SqL K H a xs/\RpL K H (Sg g) ds xs
 | .t a ds,g,H=>∃ xs,SqT K H a xs/\RpL K H (Sg g) ds xs
 | .two s u,g,H=>s.P K g H/\u.P K g H
noncomputable def Src.isL (b:Addr):Src->Prop
 | .non=>False
 | .l a _=>a = b
 | .t _ _=>False
 | .two s u=>s.isL b\/u.isL b
noncomputable def Src.isT (b:Addr):Src->Prop
 | .non=>False
 | .l _ _=>False
 | .t a _=>a = b
 | .two s u=>s.isT b\/u.isT b
noncomputable def Src.from (g:Gh) (H:Hp) (bs:List Nat):Src->Prop
 | .non=>True
 | .l a _=>g a = none\/∃ i ∈ bs,g a = some (some i)
 | .t a _=>g a = none
 | .two s u=>s.from g H bs/\u.from g H bs
theorem Src.from.from_l {g:Gh} {H:Hp} {bs:List Nat} {b:Addr}:∀ {s:Src},s.from g H bs->s.isL b->g b = none\/∃ i ∈ bs,g b = some (some i)
 | .l a _,h,e=>by cases (show a = b from e); exact h
 | .two s u,h,e=>by
  rcases (show s.isL b\/u.isL b from e) with e | e
  ·exact Src.from.from_l (show s.from g H bs/\u.from g H bs from h).1 e
  ·exact Src.from.from_l (show s.from g H bs/\u.from g H bs from h).2 e
 | .non,_,e=>e.elim
 | .t _ _,_,e=>e.elim
theorem Src.from.from_t {g:Gh} {H:Hp} {bs:List Nat} {b:Addr}:∀ {s:Src},s.from g H bs->s.isT b->g b = none
 | .t a _,h,e=>by cases (show a = b from e); exact h
 | .two s u,h,e=>by
  rcases (show s.isT b\/u.isT b from e) with e | e
  ·exact Src.from.from_t (show s.from g H bs/\u.from g H bs from h).1 e
  ·exact Src.from.from_t (show s.from g H bs/\u.from g H bs from h).2 e
 | .non,_,e=>e.elim
 | .l _ _,_,e=>e.elim
theorem Src.from.from_H {g:Gh} {H H':Hp} {bs:List Nat}:∀ {s:Src},s.from g H bs->s.from g H' bs
 | .t a _,h=>h
 | .l a _,h=>h
 | .non,_=>trivial
 | .two s u,h=>⟨Src.from.from_H (show s.from g H bs/\u.from g H bs from h).1,Src.from.from_H (show s.from g H bs/\u.from g H bs from h).2⟩
section
variable {K:PySem.W.Frag} {H H':Hp} {g g':Gh}
theorem sqL_mono {a:Addr} {xs:List V} (k:∀ o,H a = some o->H' a = some o) (h:SqL K H a xs):SqL K H' a xs:=by
 rcases h with (h | ⟨o,h⟩) | h
 ·exact .inl (.inl (k _ h))
 ·exact .inl (.inr ⟨o,k _ h⟩)
 ·exact .inr h
theorem sqT_mono {a:Addr} {xs:List V} (k:∀ o,H a = some o->H' a = some o) (h:SqT K H a xs):SqT K H' a xs:=by
 rcases h with (h | ⟨o,h⟩) | h
 ·exact .inl (.inl (k _ h))
 ·exact .inl (.inr ⟨o,k _ h⟩)
 ·exact .inr h
theorem Src.mono (k2:∀ b o,H b = some o->¬ Sg g b->¬ Sg g' b):∀ {s:Src},(∀ b o,(¬ Sg g b\/s.isL b)->H b = some o->H' b = some o)->(∀ a,s.isT a->g a = none)->s.P K g H->s.P K g' H'
 | .non,_,_,_=>trivial
 | .l a ds,k,ht,h=>by
  obtain ⟨xs,h1,h2⟩:=h
  exact ⟨xs,sqL_mono (fun o e=>k a o (.inr rfl) e) h1,h2.go fun b o n e=>⟨k b o (.inl n) e,k2 b o e n⟩⟩
 | .t a ds,k,ht,h=>by
  obtain ⟨xs,h1,h2⟩:=h
  exact ⟨xs,sqT_mono (fun o e=>k a o (.inl (by rw [Sg,ht a rfl]; simp)) e) h1,h2.go fun b o n e=>⟨k b o (.inl n) e,k2 b o e n⟩⟩
 | .two s u,k,ht,h=>⟨Src.mono k2 (fun b o z=>k b o (z.imp id .inl)) (fun a z=>ht a (.inl z)) (show s.P K g H/\u.P K g H from h).1,Src.mono k2 (fun b o z=>k b o (z.imp id .inr)) (fun a z=>ht a (.inr z)) (show s.P K g H/\u.P K g H from h).2⟩
end
noncomputable def ItOk (K:PySem.W.Frag) (J:It) (s:Src) (ds:List D):Prop:=∀ (i:Nat) (g:Gh) (H:Hp),s.P K g H->MuOk H (Sg g)->
 (ds.length<=i->J.stop i H)/\∀ d,ds[i]? = some d->J.go i H/\∀ x H',J.yld i H x H'->Same H H'/\Rp K H' (Sg g) d x
section
variable {K:PySem.W.Frag}
theorem it_l {a:Addr} {ds:List D}:ItOk K (Itl K a) (.l a ds) ds:=by
 rintro i g H ⟨us,g1,r⟩ m
 refine ⟨fun hi=>⟨us,g1,by rw [r.len]; exact hi⟩,fun d hd=>?_⟩
 obtain ⟨x,e1,e2⟩:=r.getD hd
 refine ⟨⟨us,x,g1,e1⟩,fun y H' hy=>?_⟩
 obtain ⟨rfl,hy⟩:=hy
 have:=hy us g1
 rw [e1] at this
 cases this
 exact ⟨Same.refl _,e2⟩
theorem it_t {a:Addr} {ds:List D}:ItOk K (Itt K a) (.t a ds) ds:=by
 rintro i g H ⟨us,g1,r⟩ m
 refine ⟨fun hi=>⟨us,g1,by rw [r.len]; exact hi⟩,fun d hd=>?_⟩
 obtain ⟨x,e1,e2⟩:=r.getD hd
 refine ⟨⟨us,x,g1,e1⟩,fun y H' hy=>?_⟩
 obtain ⟨rfl,hy⟩:=hy
 have:=hy us g1
 rw [e1] at this
 cases this
 exact ⟨Same.refl _,e2⟩
theorem it_e {a:Addr} {ds:List D}:ItOk K (G.Ite K a) (.l a ds) (ds.mapIdx fun i d=>D.tup [.int i,d]):=by
 rintro i g H ⟨us,g1,r⟩ m
 refine ⟨fun hi=>⟨us,g1,by rw [r.len]; simpa using hi⟩,fun d hd=>?_⟩
 rw [List.getElem?_mapIdx] at hd
 cases q:ds[i]? with
 | none=>rw [q] at hd; cases hd
 | some d'=>
  rw [q] at hd
  cases hd
  obtain ⟨x,e1,e2⟩:=r.getD q
  refine ⟨⟨us,x,g1,e1⟩,fun y H' hy=>?_⟩
  obtain ⟨p,v,hp,rfl,rfl,hy⟩:=hy
  have:=hy us g1
  rw [e1] at this
  cases this
  refine ⟨same_upd hp,?_⟩
  unfold Rp
  refine ⟨p,_,_,rfl,fun z=>?_,upd_same,rfl,.cons (by unfold Rp; rfl) (.cons (e2.same (same_upd hp)) .nil)⟩
  obtain ⟨o,q,_⟩:=m p z
  rw [hp] at q; cases q
theorem it_r (lo:Int) (n:Nat):ItOk K (Itr lo n) .non ((List.range n).map fun (k:Nat)=>D.int (lo + (k:Int))):=by
 rintro i g H _ m
 refine ⟨fun hi=>(by have hi':n<=i:=(by simpa using hi); exact hi'),fun d hd=>?_⟩
 rw [List.getElem?_map] at hd
 cases q:(List.range n)[i]? with
 | none=>rw [q] at hd; cases hd
 | some j=>
  rw [q] at hd
  cases hd
  have hlt:i < n:=by
   have:=(List.getElem?_eq_some_iff.mp q).1
   simpa using this
  have hj:j = i:=by
   rw [List.getElem?_range hlt] at q
   cases q
   rfl
  subst hj
  refine ⟨hlt,fun x H' hy=>?_⟩
  obtain ⟨rfl,rfl⟩:=hy
  exact ⟨Same.refl _,by unfold Rp; rfl⟩
end
noncomputable def SndI (X:Cx) (f:Ro->Option (List Nat × List D)) (tg iter:Expr):Prop:=∀ ρ bs ds,f ρ = some (bs,ds)->∀ g σ H R,SE X.K g ρ σ H->
 (∀ J s H1,Same H H1->ItOk X.K J s ds->s.P X.K g H1->s.from g H bs->R J H1)->wI X tg iter σ H R
noncomputable def boOf:Kd->List Nat
 | .bo i _=>[i]
 | _=>[]
noncomputable def oSeqL (a:Option KD):Option (List Nat × List D):=match a with
 | some (k,.nd .lst ds)=>if okE k ds = true then some (boOf k,ds) else none
 | some (_,.scr ns)=>some ([],ns.map D.int)
 | _=>none
noncomputable def oSeq (a:Option KD):Option (List Nat × List D):=match a with
 | some (k,.nd .tup ds)=>if okE k ds = true then some ([],ds) else none
 | a=>oSeqL a
noncomputable def oEnm (a:Option KD):Option (List Nat × List D):=(oSeqL a).map fun p=>(p.1,p.2.mapIdx fun i d=>D.tup [.int i,d])
noncomputable def rangeOk (i j:Int):Bool:=decide (-(2 ^ 62)<=i) && decide (i < 2 ^ 62) && decide (-(2 ^ 62)<=j) && decide (j < 2 ^ 62) && decide (j - i<=100000)
noncomputable def rngD (i j:Int):List D:=(List.range (j - i).toNat).map fun (k:Nat)=>D.int (i + (k:Int))
noncomputable def oRng (a b:Option KD):Option (List Nat × List D):=match a,b with
 | some (_,.int i),some (_,.int j)=>if rangeOk i j then some ([],rngD i j) else none
 | _,_=>none
noncomputable def isTup:Expr->Bool
 | .Tuple ..=>true
 | _=>false
section
variable {X:Cx} {Γ:Tab} {c:Cz}
theorem VR.scrK {K:PySem.W.Frag} {H H1:Hp} {g:Gh} {k:Kd} {ns:List Int} {v:V} (h:VR K g H H1 k (.scr ns) v):∃ a,v = .ref a/\((g a = none/\Rd H1 a (.lst (ns.map V.int)))\/KnL K a (ns.map V.int)):=by
 have key:∀ {S:Pr},(∀ b,g b ≠ none->S b)->Rp K H1 S (.scr ns) v->∃ a,v = .ref a/\((g a = none/\Rd H1 a (.lst (ns.map V.int)))\/KnL K a (ns.map V.int)):=fun hs r=>by
  unfold Rp at r
  obtain ⟨a,e,r⟩:=r
  refine ⟨a,e,r.imp (fun r=>⟨?_,r.2⟩) id⟩
  cases q:g a with
  | none=>rfl
  | some i=>exact absurd (hs a (by rw [q]; simp)) r.1
 obtain ⟨F,h1,h2⟩:=h
 cases k with
 | sh=>exact key (fun b z=>.inl z) h2.2
 | fr k=>have h2:Tr _ _ _ _ _ _ _:=h2; unfold Tr at h2; exact key (fun b z=>.inl z) h2.2
 | bo i k=>obtain ⟨_,F0,_,h4⟩:=h2; unfold Tr at h4; exact key (fun b z=>.inl z) h4.2
theorem seqL_src {K:PySem.W.Frag} {H H1:Hp} {g:Gh} {k:Kd} {d:D} {v:V} {bs:List Nat} {ds:List D} (m:MuOk H (Sg g)) (s1:Same H H1) (h:VR K g H H1 k d v) (e:oSeqL (some (k,d)) = some (bs,ds)) :
  ∃ a s,v = .ref a/\(∃ xs,SqL K H1 a xs)/\ItOk K (Itl K a) s ds/\ItOk K (G.Ite K a) s (ds.mapIdx fun i d=>D.tup [.int i,d])/\s.P K g H1/\s.from g H bs:=by
 unfold oSeqL at e
 split at e
 ·rename_i k' ds' e'
  cases e'
  split at e
  ·rename_i hk
   cases e
   obtain ⟨a,o,us,rfl,g1,q1,rr⟩:=h.items hk m s1
   cases (show o = _ from q1)
   refine ⟨a,.l a ds,rfl,⟨us,.of g1⟩,it_l,it_e,⟨us,.of g1,rr⟩,?_⟩
   have nn:∀ {S:Pr},(∀ b,g b ≠ none->S b)->¬ S a->g a = none:=fun hs n=>by
    cases q:g a with
    | none=>rfl
    | some i=>exact absurd (hs a (by rw [q]; simp)) n
   cases k with
   | sh=>
    left
    obtain ⟨F,h1,h2,h3⟩:=h
    obtain ⟨a',o',xs',e1,n1,_⟩:=h3.nd
    cases e1
    exact nn (fun b z=>.inl z) n1
   | fr k=>
    left
    obtain ⟨a',o',xs',e1,n1,_⟩:=(h.sh rfl m s1).nd
    cases e1
    exact nn (fun b z=>z) n1
   | bo i k=>
    obtain ⟨F,h1,h2,F0,h3,h4⟩:=h
    cases k with
    | fz=>
     left
     obtain ⟨a',o',xs',e1,n1,_⟩:=h4.fz_inv.2.nd
     cases e1
     exact nn (fun b z=>.inl z) n1
    | own es r=>
     right
     unfold Tr at h4
     obtain ⟨a',o',xs',F',e1,_,_,_,_,hF,_⟩:=h4
     cases e1
     exact ⟨i,List.mem_singleton.mpr rfl,h3 a ((hF a).mpr (.inl ⟨rfl,rfl⟩))⟩
  ·cases e
 ·rename_i k' ns e'
  cases e'
  cases e
  obtain ⟨a,rfl,q⟩:=h.scrK
  rcases q with ⟨q1,q2⟩ | q
  ·exact ⟨a,.l a _,rfl,⟨_,.inl q2⟩,it_l,it_e,⟨_,.inl q2,RpL.ints ns⟩,.inl q1⟩
  ·refine ⟨a,.non,rfl,⟨_,.inr q⟩,fun i g' H' _ m'=>it_l i g' H' ⟨_,.inr q,RpL.ints ns⟩ m',fun i g' H' _ m'=>it_e i g' H' ⟨_,.inr q,RpL.ints ns⟩ m',trivial,trivial⟩
 ·cases e
theorem s_itL {fa:Ro->Option KD} {tg e:Expr} (ha:SndE X fa e):SndI X (fun ρ=>oSeq (fa ρ)) tg e:=by
 intro ρ bs ds h g σ H R se q
 dsimp only at h
 cases ea:fa ρ with
 | none=>rw [ea] at h; cases h
 | some kd=>
  obtain ⟨k,d⟩:=kd
  rw [ea] at h
  by_cases ht:∃ ds',d = .tup ds'
  ·obtain ⟨ds',rfl⟩:=ht
   simp only [oSeq] at h
   split at h
   ·rename_i hk
    cases h
    refine pi_le (pi_tup pe_w) (ha ρ k _ ea g σ H _ se fun v H1 s1 r1=>?_)
    obtain ⟨a,o,us,rfl,g1,q1,rr⟩:=r1.items hk se.mu s1
    cases (show o = _ from q1)
    refine ⟨a,rfl,⟨us,.of g1⟩,q _ (.t a ds) H1 s1 it_t ⟨us,.of g1,rr⟩ ?_⟩
    cases q2:g a with
    | none=>exact q2
    | some i=>
     obtain ⟨o,e1,n⟩:=se.mu.same s1 a (by rw [Sg,q2]; simp)
     rw [g1] at e1
     cases e1
     exact absurd rfl (n us)
   ·cases h
  ·have h':oSeqL (some (k,d)) = some (bs,ds):=by
    cases d with
    | nd hd ds'=>cases hd with
     | tup=>exact absurd ⟨ds',rfl⟩ ht
     | _=>exact h
    | _=>exact h
   refine pi_le (pi_list pe_w) (ha ρ k d ea g σ H _ se fun v H1 s1 r1=>?_)
   obtain ⟨a,s,rfl,h1,h2,_,h3,h4⟩:=seqL_src se.mu s1 r1 h'
   exact ⟨a,rfl,h1,q _ s H1 s1 h2 h3 h4⟩
theorem s_itE (O:CxOk X Γ c) {fa:Ro->Option KD} {tg e:Expr} {p pos:Pos} (hg:glB c.sc "enumerate" = true) (hn:noStar e = true) (ht:isTup tg = true) (ha:SndE X fa e):SndI X (fun ρ=>oEnm (fa ρ)) tg (.Call (.Name "enumerate" p) [e] [] pos):=by
 intro ρ bs ds h g σ H R se q
 dsimp only at h
 cases ea:fa ρ with
 | none=>rw [ea] at h; cases h
 | some kd=>
  obtain ⟨k,d⟩:=kd
  rw [ea] at h
  unfold oEnm at h
  cases h':oSeqL (some (k,d)) with
  | none=>rw [h'] at h; cases h
  | some r=>
   obtain ⟨bs',ds'⟩:=r
   rw [h'] at h
   cases h
   cases tg with
   | Tuple es kk tp=>
    refine pi_le (G.pi_enum (gl_of O hg) (O.tab.bl _ (by simp [bltNames])) (pa_cons pe_w pa_nil (star_of hn)) (star_of hn)) (ha ρ _ _ ea g σ H _ se fun v H1 s1 r1=>?_)
    obtain ⟨a,s,rfl,h1,_,h2,h3,h4⟩:=seqL_src se.mu s1 r1 h'
    exact ⟨a,rfl,h1,q _ s H1 s1 h2 h3 h4⟩
   | _=>exact absurd ht (by simp [isTup])
theorem s_itR1 (O:CxOk X Γ c) {fa:Ro->Option KD} {tg e:Expr} {p pos:Pos} (hg:glB c.sc "range" = true) (hn:noStar e = true) (ha:SndE X fa e):SndI X (fun ρ=>oRng (some (.sh,.int 0)) (fa ρ)) tg (.Call (.Name "range" p) [e] [] pos):=by
 intro ρ bs ds h g σ H R se q
 dsimp only [oRng] at h
 split at h
 ·rename_i k1 i k2 j e1 ea
  cases e1
  split at h
  ·rename_i hr
   simp only [rangeOk,Bool.and_eq_true,decide_eq_true_eq] at hr
   cases h
   refine pi_le (pi_range1 (gl_of O hg) (O.tab.bl _ (by simp [bltNames])) (pa_cons pe_w pa_nil (star_of hn)) (star_of hn)) (ha ρ _ _ ea g σ H _ se fun v H1 s1 r1=>?_)
   obtain rfl:=r1.rd.int
   refine ⟨j,rfl,hr.1.1.2,hr.1.2,q _ .non H1 s1 ?_ trivial trivial⟩
   unfold rngD
   rw [Int.sub_zero]
   exact it_r 0 _
  ·cases h
 ·cases h
theorem s_itR2 (O:CxOk X Γ c) {fa fb:Ro->Option KD} {tg e e2:Expr} {p pos:Pos} (hg:glB c.sc "range" = true) (hn:noStar e = true) (hn2:noStar e2 = true) (ha:SndE X fa e) (hb:SndE X fb e2):SndI X (fun ρ=>oRng (fa ρ) (fb ρ)) tg (.Call (.Name "range" p) [e,e2] [] pos):=by
 intro ρ bs ds h g σ H R se q
 dsimp only [oRng] at h
 split at h
 ·rename_i k1 i k2 j ea eb
  split at h
  ·rename_i hr
   simp only [rangeOk,Bool.and_eq_true,decide_eq_true_eq] at hr
   cases h
   refine pi_le (pi_range2 (gl_of O hg) (O.tab.bl _ (by simp [bltNames])) (pa_cons pe_w (pa_cons pe_w pa_nil (star_of hn2)) (star_of hn)) (by rw [star_of hn,star_of hn2]; rfl) (star_of hn2)) ?_
   refine two ha hb ea eb se fun x y H1 s1 rx ry=>?_
   obtain rfl:=rx.rd.int
   obtain rfl:=ry.rd.int
   exact ⟨i,j,rfl,⟨hr.1.1.1.1,hr.1.1.1.2,hr.1.1.2,hr.1.2⟩,q _ .non H1 s1 (it_r i _) trivial trivial⟩
  ·cases h
 ·cases h
noncomputable def tyD:D->Option String
 | .non=>some "NoneType"
 | .bl _=>some "bool"
 | .int _=>some "int"
 | .str _=>some "str"
 | .scr _=>none
 | .nd .lst _=>some "list"
 | .nd .tup _=>some "tuple"
 | .nd (.dic 0 _) _=>some "dict"
 | _=>none
noncomputable def isiD (T:Str) (d:D):Option Bool:=match tyD d with
 | some t=>if T = "int" then some (t == "int" || t == "bool") else if T = "bool" then some (t == "bool") else if T = "list" then some (t == "list") else if T = "tuple" then some (t == "tuple") else if T = "str" then some (t == "str") else if T = "dict" then some (t == "dict") else none
 | none=>none
theorem ty_of {K:PySem.W.Frag} {H:Hp} {S:Pr} {d:D} {v:V} {t:String} (h:Rp K H S d v) (e:tyD d = some t):TyOf K H v (.type t):=by
 cases d with
 | non=>obtain rfl:=h.non; cases e; exact .non
 | bl b=>obtain rfl:=h.bl; cases e; exact .bl b
 | int b=>obtain rfl:=h.int; cases e; exact .int b
 | str b=>obtain rfl:=h.str; cases e; exact .str b
 | scr b=>cases e
 | nd hd ds=>
  obtain ⟨a,o,xs,rfl,_,g,q,r⟩:=h.nd
  cases hd with
  | lst=>cases e; cases (show o = _ from q); exact .lst g
  | tup=>cases e; cases (show o = _ from q); exact .tup g
  | dic t ks=>
   cases t with
   | succ t=>cases e
   | zero=>
    cases e
    rcases q with ⟨_,kvs,rfl,_⟩ | ⟨h0,_⟩
    ·exact .dK g
    ·cases h0
  | obj c ns=>cases e
noncomputable def isiNames:List Str:=["int","bool","list","tuple","str","dict"]
theorem isi_kit {K:PySem.W.Frag} {T:Str} {d:D} {b:Bool} (h:isiD T d = some b):∃ t T',tyD d = some t/\T ∈ isiNames/\bootBuiltins T = some (.type T')/\PySem.W.kitOne K (.type t) (.type T') = some b:=by
 unfold isiD at h
 split at h
 ·rename_i t ht
  have hm:t ∈ (["NoneType","bool","int","str","list","tuple","dict"]:List String):=by
   cases d with
   | nd hd ds=>cases hd with
    | dic tt ks=>cases tt <;> cases ht <;> simp
    | _=>cases ht <;> simp
   | _=>cases ht <;> simp
  simp only [List.mem_cons,List.not_mem_nil,or_false] at hm
  split at h
  ·rename_i e; subst e; refine ⟨t,"int",ht,by simp [isiNames],by rfl,?_⟩
   rcases hm with rfl | rfl | rfl | rfl | rfl | rfl | rfl <;> cases h <;> with_unfolding_all rfl
  ·split at h
   ·rename_i e; subst e; refine ⟨t,"bool",ht,by simp [isiNames],by rfl,?_⟩
    rcases hm with rfl | rfl | rfl | rfl | rfl | rfl | rfl <;> cases h <;> with_unfolding_all rfl
   ·split at h
    ·rename_i e; subst e; refine ⟨t,"list",ht,by simp [isiNames],by rfl,?_⟩
     rcases hm with rfl | rfl | rfl | rfl | rfl | rfl | rfl <;> cases h <;> with_unfolding_all rfl
    ·split at h
     ·rename_i e; subst e; refine ⟨t,"tuple",ht,by simp [isiNames],by rfl,?_⟩
      rcases hm with rfl | rfl | rfl | rfl | rfl | rfl | rfl <;> cases h <;> with_unfolding_all rfl
     ·split at h
      ·rename_i e; subst e; refine ⟨t,"str",ht,by simp [isiNames],by rfl,?_⟩
       rcases hm with rfl | rfl | rfl | rfl | rfl | rfl | rfl <;> cases h <;> with_unfolding_all rfl
      ·split at h
       ·rename_i e; subst e; refine ⟨t,"dict",ht,by simp [isiNames],by rfl,?_⟩
        rcases hm with rfl | rfl | rfl | rfl | rfl | rfl | rfl <;> cases h <;> with_unfolding_all rfl
       ·cases h
 ·cases h
noncomputable def oIsi (T:Str) (a:Option KD):Option KD:=match a with | some (_,d)=>bV (isiD T d) | none=>none
theorem s_isi (O:CxOk X Γ c) {fa:Ro->Option KD} {a:Expr} {T:Str} {p p2 pos:Pos} (hg:glB c.sc "isinstance" = true) (hgT:glB c.sc T = true) (hn:noStar a = true) (ha:SndE X fa a):SndE X (fun ρ=>oIsi T (fa ρ)) (.Call (.Name "isinstance" p) [a,.Name T p2] [] pos):=by
 intro ρ kd d h g σ H Q se q
 dsimp only [oIsi] at h
 split at h
 ·rename_i ka da ea
  cases hi:isiD T da with
  | none=>rw [hi] at h; cases h
  | some b=>
   rw [hi] at h
   cases h
   obtain ⟨t,T',h1,h2,h3,h4⟩:=isi_kit (K:=X.K) hi
   have hT:T ∈ bltNames/\T ≠ "__name__"/\(T == ("__debug__":Str)) = false:=by
    simp only [isiNames,List.mem_cons,List.not_mem_nil,or_false] at h2
    rcases h2 with rfl | rfl | rfl | rfl | rfl | rfl <;> exact ⟨by simp [bltNames],by decide,by decide⟩
   refine pe_le (pe_callB call_isinst (gl_of O hg) (O.tab.bl _ (by simp [bltNames])) PyProof.Rows.boot_isinstance (pa_cons pe_w (pa_cons (pe_bltn (v:=.ty T') (gl_of O hgT) (O.tab.bl _ hT.1) h3 rfl hT.2.1 hT.2.2) pa_nil (star_of rfl)) (star_of hn)) (by decide) (by decide) (star_of hn) (back_any rfl)) ?_
   exact ha ρ _ _ ea g σ H _ se fun v H1 s1 r1=>⟨v,T',_,b,rfl,ty_of r1.rd h1,h4,q _ H1 s1 vBl⟩
 ·cases h
end
end J
namespace J
open PySem PySem.Spec L2
mutual
noncomputable def cleanT:D->Ow->Bool
 | .nd _ ds,.own es r=>cleanL ds es r
 | d,_=>imD d
noncomputable def cleanL:List D->List Ow->Ow->Bool
 | [],_,_=>true
 | d :: ds,es,r=>cleanT d (es.headD r) && cleanL ds es.tail r
end
section
variable {K:PySem.W.Frag} {H H' H0:Hp} {S S':Pr} {g:Gh}
mutual
theorem Tr.clean (m:MuOk H S'):∀ {d:D} {k:Ow} {v:V} {F:Pr},cleanT d k = true->Tr K H S d k v F->Tr K H S' d k v F
 | .non,_,_,_,c,h=>by unfold Tr at h ⊢; exact ⟨h.1,h.2.im m rfl⟩
 | .bl _,_,_,_,c,h=>by unfold Tr at h ⊢; exact ⟨h.1,h.2.im m rfl⟩
 | .int _,_,_,_,c,h=>by unfold Tr at h ⊢; exact ⟨h.1,h.2.im m rfl⟩
 | .str _,_,_,_,c,h=>by unfold Tr at h ⊢; exact ⟨h.1,h.2.im m rfl⟩
 | .scr ns,k,_,_,c,h=>by simp [cleanT,imD] at c
 | .nd hd ds,.fz,_,_,c,h=>by
  have c:imD (.nd hd ds) = true:=by simpa [cleanT] using c
  unfold Tr at h ⊢
  exact ⟨h.1,h.2.im m c⟩
 | .nd hd ds,.own es r,v,F,c,h=>by
  have c:cleanL ds es r = true:=by simpa [cleanT] using c
  unfold Tr at h ⊢
  obtain ⟨a,o,xs,F',e,q1,q2,n1,n2,hF,t⟩:=h
  refine ⟨a,o,xs,F',e,q1,q2,n1,fun hm z=>?_,hF,TrL.clean m c t⟩
  obtain ⟨o',e',n⟩:=m a z
  rw [q1] at e'; cases e'
  cases hd with
  | tup=>exact n _ q2
  | _=>exact absurd hm (by simp [Hd.mu])
theorem TrL.clean (m:MuOk H S'):∀ {ds:List D} {es:List Ow} {r:Ow} {vs:List V} {F:Pr},cleanL ds es r = true->TrL K H S ds es r vs F->TrL K H S' ds es r vs F
 | [],_,_,_,_,_,h=>by unfold TrL at h ⊢; exact h
 | d :: ds,es,r,vs,F,c,h=>by
  simp only [cleanL,Bool.and_eq_true] at c
  unfold TrL at h ⊢
  obtain ⟨y,ys,F1,F2,e,hF,dj,h1,h2⟩:=h
  exact ⟨y,ys,F1,F2,e,hF,dj,Tr.clean m c.1 h1,TrL.clean m c.2 h2⟩
end
noncomputable def cleanK:Kd->D->Bool
 | .sh,d=>imD d
 | .fr k,d=>cleanT d k
 | .bo _ _,_=>false
theorem VR.clean {g':Gh} {kd:Kd} {d:D} {v:V} (c:cleanK kd d = true) (m:MuOk H0 (Sg g)) (s:Same H0 H) (h:VR K g' H0 H kd d v):VR K g H0 H kd d v:=by
 obtain ⟨F,h1,h2⟩:=h
 have mm:MuOk H (Sx g F):=fun b z=>z.elim (fun z=>m.same s b z) fun z=>h2.dom b z
 refine ⟨F,h1,?_⟩
 cases kd with
 | sh=>exact ⟨h2.1,h2.2.im mm c⟩
 | fr k=>exact Tr.clean mm c h2
 | bo i k=>cases c
end
noncomputable def isBo:Kd->Bool
 | .bo _ _=>true
 | _=>false
noncomputable def fFn (φ:Fn) (kds:List KD):Option KD:=
 match φ (kds.map (·.2)) with
 | some (kd,d)=>if (kds.all fun p=>okS p.1 p.2) = true then (if isBo kd = true then none else some (kd,d)) else if cleanK kd d = true then some (kd,d) else none
 | none=>none
noncomputable def oFn (φ:Option Fn) (a:Option (List KD)):Option KD:=match φ,a with | some φ,some kds=>fFn φ kds | _,_=>none
section
variable {X:Cx} {Γ:Tab} {c:Cz}
theorem fn_post (K:PySem.W.Frag) {φ:Fn} {kds:List KD} {kd:Kd} {d:D} (h:fFn φ kds = some (kd,d)) {g:Gh} {H0 H:Hp} {vs:List V} {Q:VK} {E:XK} (m:MuOk H0 (Sg g)) (s:Same H0 H) (r:VRs K g H0 H kds vs) (q:∀ v H',Same H H'->VR K g H0 H' kd d v->Q v H'):spF K φ vs H Q E:=by
 unfold fFn at h
 split at h
 ·rename_i kd' d' e'
  split at h
  ·rename_i ok
   split at h
   ·cases h
   ·cases h
    exact ⟨_,g,_,_,r.sh ok m s,m.same s,e',fun v H2 s2 r2=>q v H2 s2 (r2.older s)⟩
  ·split at h
   ·rename_i cl
    cases h
    exact ⟨_,fun _=>none,_,_,r.rd.go (fun b o n e=>⟨e,fun z=>z rfl⟩),fun a z=>absurd rfl z,e',fun v H2 s2 r2=>q v H2 s2 ((r2.clean cl (m.same s) s2).older s)⟩
   ·cases h
 ·cases h
theorem s_fn (O:CxOk X Γ c) {x:Str} {e:Expr} {es:List Expr} {p pos:Pos} {fa:Ro->Option (List KD)} (hf:SndA X fa (e :: es)) (hg:glB c.sc x = true) (n1:noStar e = true) (n2:es.all noStar = true):SndE X (fun ρ=>oFn (Γ.fn x) (fa ρ)) (.Call (.Name x p) (e :: es) [] pos):=by
 intro ρ kd d h g σ H Q se q
 dsimp only [oFn] at h
 split at h
 ·rename_i φ kds hφ he
  obtain ⟨n,fa',fd,ps,F,hr,hm,hk,hb,hdb⟩:=O.tab.fn x φ hφ
  refine pe_le (pe_call (E:=E0) F hr (gl_of O hg) hm hk hb .nil pass0 pa_w hdb (star_of n1) (back_any n2)) (hf ρ _ he g σ H _ se fun vs H1 s1 r1=>?_)
  rw [List.append_nil]
  exact fn_post X.K h se.mu s1 r1 fun v H2 s2 r2=>q v H2 (s1.trans s2) r2
 ·cases h
theorem s_fn0 (O:CxOk X Γ c) {x:Str} {p pos:Pos} (hg:glB c.sc x = true):SndE X (fun _=>oFn (Γ.fn x) (some [])) (.Call (.Name x p) [] [] pos):=by
 intro ρ kd d h g σ H Q se q
 dsimp only [oFn] at h
 split at h
 ·rename_i φ kds hφ he
  cases he
  obtain ⟨n,fa',fd,ps,F,hr,hm,hk,hb,hdb⟩:=O.tab.fn x φ hφ
  refine pe_le (pe_call0 (E:=E0) F hr (gl_of O hg) hm hk hb .nil pass0 hdb) ?_
  exact fn_post (E:=fun _ _ _=>False) X.K h se.mu (Same.refl H) VRs.nil fun v H2 s2 r2=>q v H2 s2 r2
 ·cases h
end
inductive IT where
 | nm (i:Nat)
 | tp (ts:List IT)
mutual
noncomputable def tgI:IT->D->Option (List (Nat × D))
 | .nm i,d=>some [(i,d)]
 | .tp ts,.nd .tup ds=>tgIs ts ds
 | _,_=>none
noncomputable def tgIs:List IT->List D->Option (List (Nat × D))
 | [],[]=>some []
 | t :: ts,d :: ds=>match tgI t d,tgIs ts ds with
  | some a,some b=>some (a ++ b)
  | _,_=>none
 | _,_=>none
end
noncomputable def shS (d:D):Sl:=⟨false,.fz,d⟩
noncomputable def setAll:List (Nat × D)->Ro->Ro
 | [],ρ=>ρ
 | (i,d) :: r,ρ=>setAll r (ρ.set i (some (shS d)))
noncomputable def cTgs (f:Expr->Option IT):List Expr->Option (List IT)
 | []=>some []
 | e :: es=>match f e,cTgs f es with
  | some a,some b=>some (a :: b)
  | _,_=>none
noncomputable def cTg (c:Cz):Nat->Expr->Option IT
 | 0,_=>none
 | n + 1,e=>match e with
  | .Name x _=>if locB c x then (ixOf x c.N).map .nm else none
  | .Tuple es _ _=>if es.all noStar then (cTgs (cTg c n) es).map .tp else none
  | _=>none
theorem SE.set {K:PySem.W.Frag} {g:Gh} {ρ:Ro} {σ:L2.St} {H:Hp} (h:SE K g ρ σ H) (i:Nat) {d:D} {v:V} (r:Rp K H (Sg g) d v):SE K g (ρ.set i (some (shS d))) (σ.set i (some v)) H:=by
 refine ⟨fun j sl e=>?_,h.mu,by simp [h.len]⟩
 by_cases hj:j = i
 ·subst hj
  have hlt:j < ρ.length:=by
   have:=(List.getElem?_eq_some_iff.mp e).1
   simpa using this
  rw [List.getElem?_set_self hlt] at e
  cases e
  exact ⟨v,_,List.getElem?_set_self (by rw [<- h.len]; exact hlt),fun b z=>z.elim,.fz r⟩
 ·rw [List.getElem?_set_ne (Ne.symm hj)] at e ⊢
  exact h.slot j sl e
theorem SE.pass {K:PySem.W.Frag} {g:Gh} {ρ:Ro} {σ:L2.St} {H:Hp} (h:SE K g ρ σ H) (i:Nat) {v:V} (n:∀ sl,ρ[i]? ≠ some (some sl)):SE K g ρ (σ.set i (some v)) H:=by
 refine ⟨fun j sl e=>?_,h.mu,by simp [h.len]⟩
 have hj:j ≠ i:=fun z=>n sl (z ▸ e)
 rw [List.getElem?_set_ne (Ne.symm hj)]
 exact h.slot j sl e
noncomputable def setV:List (Nat × V)->L2.St->L2.St
 | [],σ=>σ
 | (i,v) :: r,σ=>setV r (σ.set i (some v))
theorem setV_app:∀ (a b:List (Nat × V)) (σ:L2.St),setV (a ++ b) σ = setV b (setV a σ)
 | [],_,_=>rfl
 | (i,v) :: a,b,σ=>setV_app a b _
section
variable {X:Cx} {Γ:Tab} {c:Cz}
noncomputable def RpP (K:PySem.W.Frag) (H:Hp) (S:Pr):List (Nat × D)->List (Nat × V)->Prop
 | [],vs=>vs = []
 | (i,d) :: r,vs=>∃ v ws,vs = (i,v) :: ws/\Rp K H S d v/\RpP K H S r ws
theorem RpP.app {K:PySem.W.Frag} {H:Hp} {S:Pr}:∀ {a b:List (Nat × D)} {x y:List (Nat × V)},RpP K H S a x->RpP K H S b y->RpP K H S (a ++ b) (x ++ y)
 | [],_,_,_,h,g=>by rw [(show _ = [] from h)]; exact g
 | (i,d) :: a,b,_,y,h,g=>by
  obtain ⟨v,ws,rfl,h1,h2⟩:=h
  exact ⟨v,ws ++ y,rfl,h1,RpP.app h2 g⟩
mutual
noncomputable def gIT (K:PySem.W.Frag):IT->TG
 | .nm i=>gName i
 | .tp ts=>gTup K ts.length (gITs K ts)
noncomputable def gITs (K:PySem.W.Frag):List IT->TGs
 | []=>gNil
 | t :: ts=>gCons (gIT K t) (gITs K ts)
end
mutual
theorem gIT_run {K:PySem.W.Frag} {S:Pr} {H:Hp}:∀ {t:IT} {d:D} {ps:List (Nat × D)} {v:V} {σ:L2.St} {Q:L2.St->Hp->Prop},tgI t d = some ps->Rp K H S d v->(∀ vs,RpP K H S ps vs->Q (setV vs σ) H)->gIT K t v σ H Q
 | .nm i,d,ps,v,σ,Q,ht,r,q=>by
  simp only [tgI] at ht
  cases ht
  simp only [gIT]
  exact q [(i,v)] ⟨v,[],rfl,r,rfl⟩
 | .tp ts,d,ps,v,σ,Q,ht,r,q=>by
  cases d with
  | nd hd ds=>
   cases hd with
   | tup=>
    simp only [tgI] at ht
    obtain ⟨a,o,xs,rfl,_,g1,q1,rl⟩:=r.nd
    cases (show o = _ from q1)
    obtain ⟨h1,h2⟩:=gITs_run ht rl q
    simp only [gIT]
    exact ⟨a,xs,rfl,.of g1,h2,h1⟩
   | _=>simp [tgI] at ht
  | _=>simp [tgI] at ht
theorem gITs_run {K:PySem.W.Frag} {S:Pr} {H:Hp}:∀ {ts:List IT} {ds:List D} {ps:List (Nat × D)} {vs:List V} {σ:L2.St} {Q:L2.St->Hp->Prop},tgIs ts ds = some ps->RpL K H S ds vs->(∀ ws,RpP K H S ps ws->Q (setV ws σ) H)->gITs K ts vs σ H Q/\vs.length = ts.length
 | [],[],ps,vs,σ,Q,ht,r,q=>by
  simp only [tgIs] at ht
  cases ht
  simp only [gITs]
  rw [r.nil_inv]
  exact ⟨⟨rfl,q [] rfl⟩,rfl⟩
 | t :: ts,d :: ds,ps,vs,σ,Q,ht,r,q=>by
  simp only [tgIs] at ht
  split at ht
  ·rename_i a b ha hb
   cases ht
   obtain ⟨y,ys,rfl,r1,r2⟩:=r.cons_inv
   simp only [gITs]
   have len:=(gITs_run (σ:=σ) (Q:=fun _ _=>True) hb r2 fun _ _=>trivial).2
   refine ⟨⟨y,ys,rfl,gIT_run ha r1 fun vs1 h1=>(gITs_run hb r2 fun vs2 h2=>?_).1⟩,by simp [len]⟩
   have:=q (vs1 ++ vs2) (h1.app h2)
   rw [setV_app] at this
   exact this
  ·cases ht
 | [],_ :: _,ps,vs,σ,Q,ht,r,q=>by simp [tgIs] at ht
 | _ :: _,[],ps,vs,σ,Q,ht,r,q=>by simp [tgIs] at ht
end
theorem assignEach_cons {e:Expr} {es:List Expr} {env:Env} (h:noStar e = true):assignEach (e :: es) env = (false,assign e env) :: assignEach es env:=by
 cases e <;> first | rfl | cases h
theorem pg_IT (O:CxOk X Γ c):∀ (n:Nat) {e:Expr} {t:IT},cTg c n e = some t->PG X e (gIT X.K t)
 | 0,e,t,h=>by cases h
 | n + 1,e,t,h=>by
  have ih:∀ {e:Expr} {t:IT},cTg c n e = some t->PG X e (gIT X.K t):=fun h=>pg_IT O n h
  have lst:∀ {es:List Expr} {ts:List IT},es.all noStar = true->cTgs (cTg c n) es = some ts->PGs X es (gITs X.K ts)/\(assignEach es X.env).length = ts.length/\(assignEach es X.env).findIdx? (·.1) = none:=by
   intro es
   induction es with
   | nil=>intro ts _ h; cases h; simp only [gITs]; exact ⟨pgs_nil,rfl,rfl⟩
   | cons e es ihe=>
    intro ts hn h
    rw [List.all_cons,Bool.and_eq_true] at hn
    unfold cTgs at h
    split at h
    ·rename_i a b ha hb
     cases h
     obtain ⟨g1,g2,g3⟩:=ihe hn.2 hb
     simp only [gITs]
     refine ⟨pgs_cons (ih ha) g1 (by rw [assignEach_cons hn.1]; rfl),by rw [assignEach_cons hn.1,List.length_cons,g2]; rfl,?_⟩
     rw [assignEach_cons hn.1,List.findIdx?_cons]
     simp [g3]
    ·cases h
  unfold cTg at h
  split at h
  ·rename_i x p
   split at h
   ·rename_i hl
    cases hi:ixOf x c.N with
    | none=>rw [hi] at h; cases h
    | some i=>
     rw [hi] at h
     cases h
     have l:=loc_of O hl
     simp only [gIT]
     exact pg_name (i:=i) (by rw [O.N]; exact O.nd) (by rw [O.N]; exact ixOf_get hi) l.1 l.2
   ·cases h
  ·rename_i es k p
   split at h
   ·rename_i hn
    cases hs:cTgs (cTg c n) es with
    | none=>rw [hs] at h; cases h
    | some ts=>
     rw [hs] at h
     cases h
     obtain ⟨g1,g2,g3⟩:=lst hn hs
     simp only [gIT]
     exact pg_tup O.calm g1 g2 g3
   ·cases h
  ·cases h
theorem SE.setAll {K:PySem.W.Frag} {g:Gh} {H:Hp}:∀ {ps:List (Nat × D)} {vs:List (Nat × V)} {ρ:Ro} {σ:L2.St},RpP K H (Sg g) ps vs->SE K g ρ σ H->SE K g (setAll ps ρ) (setV vs σ) H
 | [],vs,ρ,σ,h,se=>by rw [(show vs = [] from h)]; exact se
 | (i,d) :: ps,vs,ρ,σ,h,se=>by
  obtain ⟨v,ws,rfl,h1,h2⟩:=h
  exact SE.setAll (ρ:=ρ.set i (some (shS d))) (vs:=ws) (σ:=σ.set i (some v)) h2 (se.set i h1)
noncomputable def noneAt (ps:List (Nat × D)) (ρ:Ro):Bool:=ps.all fun p=>match ρ[p.1]? with | some none=>true | _=>false
theorem SE.passAll {K:PySem.W.Frag} {g:Gh} {H:Hp} {S:Pr}:∀ {ps:List (Nat × D)} {vs:List (Nat × V)} {ρ:Ro} {σ:L2.St},RpP K H S ps vs->noneAt ps ρ = true->SE K g ρ σ H->SE K g ρ (setV vs σ) H/\∀ (j:Nat) sl,ρ[j]? = some (some sl)->(setV vs σ)[j]? = σ[j]?
 | [],vs,ρ,σ,h,_,se=>by rw [(show vs = [] from h)]; exact ⟨se,fun _ _ _=>rfl⟩
 | (i,d) :: ps,vs,ρ,σ,h,hn,se=>by
  obtain ⟨v,ws,rfl,h1,h2⟩:=h
  simp only [noneAt,List.all_cons,Bool.and_eq_true] at hn
  have ni:∀ sl,ρ[i]? ≠ some (some sl):=fun sl e=>by
   have:=hn.1
   rw [e] at this
   cases this
  obtain ⟨a1,a2⟩:=SE.passAll h2 (by simpa [noneAt] using hn.2) (se.pass i (v:=v) ni)
  exact ⟨a1,fun j sl e=>(a2 j sl e).trans (List.getElem?_set_ne (fun z=>ni sl (by rw [z]; exact e)))⟩
end
end J
namespace J
open PySem PySem.Spec L2
noncomputable def Gh.re (m:Nat->Option Nat) (g:Gh):Gh:=fun b=>match g b with
 | some (some i)=>some (m i)
 | x=>x
section
variable {K:PySem.W.Frag} {H H':Hp} {g:Gh} {F F2:Pr} {m:Nat->Option Nat}
theorem re_S (b:Addr):Sg (g.re m) b ↔ Sg g b:=by
 unfold Gh.re Sg
 cases h:g b with
 | none=>simp [h]
 | some x=>cases x <;> simp [h]
theorem plus_plus:(g.plus F).plus F2 = g.plus (fun b=>F b\/F2 b):=by
 funext b
 unfold Gh.plus
 by_cases h2:F2 b
 ·simp [h2]
 ·by_cases h1:F b
  ·simp [h1]
  ·simp [h1,h2]
theorem plus_at {b:Addr} (h:F b):g.plus F b = some none:=by
 unfold Gh.plus
 rw [if_pos h]
theorem SE.upd {ρ:Ro} {σ:L2.St} {p:Addr} {o:HO} (h:SE K g ρ σ H) (hp:g p = some none) (ho:∀ xs,o ≠ .tup xs):SE K g ρ σ (upd H p o):=by
 have kk:∀ b o',b ≠ p->H b = some o'->L2.upd H p o b = some o':=fun b o' n e=>by rw [upd_ne n]; exact e
 refine ⟨fun i sl e=>?_,fun b z=>?_,h.len⟩
 ·obtain ⟨v,F,e1,e2,e3⟩:=h.slot i sl e
  refine ⟨v,F,e1,e2,e3.go (fun b o' hb e=>kk b o' (fun z=>?_) e) fun _ _ _ n=>n⟩
  subst z
  rcases hb with hb | hb
  ·exact hb (by rw [Sg,hp]; simp)
  ·rw [e2 b hb] at hp
   cases hp
 ·by_cases hb:b = p
  ·exact ⟨o,by rw [hb]; exact upd_same,ho⟩
  ·obtain ⟨o',e,n⟩:=h.mu b z
   exact ⟨o',kk b o' hb e,n⟩
noncomputable def capRo (ρ:Ro) (cap:List (Option Nat)):Ro:=cap.map fun o=>o.bind fun i=>(ρ[i]?).join
noncomputable def capM (cap:List (Option Nat)) (i:Nat):Option Nat:=cap.findIdx? fun o=>o == some i
noncomputable def capOk (cap:List (Option Nat)):Bool:=decide (cap.filterMap id).Nodup
theorem capM_at:∀ {cap:List (Option Nat)} {j i:Nat},(cap.filterMap id).Nodup->cap[j]? = some (some i)->capM cap i = some j
 | [],j,i,_,e=>by simp at e
 | o :: cap,0,i,hn,e=>by
  simp at e
  subst e
  simp [capM,List.findIdx?_cons]
 | o :: cap,j + 1,i,hn,e=>by
  have e':cap[j]? = some (some i):=by simpa using e
  have hm:i ∈ cap.filterMap id:=List.mem_filterMap.mpr ⟨some i,List.mem_of_getElem? e',rfl⟩
  have hno:(o == some i) = false:=by
   cases o with
   | none=>rfl
   | some k=>
    simp only [List.filterMap_cons,id] at hn
    have:=(List.nodup_cons.mp hn).1
    simp only [beq_eq_false_iff_ne,ne_eq,Option.some.injEq]
    intro z
    subst z
    exact this hm
  have hn':(cap.filterMap id).Nodup:=by
   cases o with
   | none=>simpa using hn
   | some k=>simp only [List.filterMap_cons,id] at hn; exact (List.nodup_cons.mp hn).2
  have ih:=capM_at hn' e'
  unfold capM at ih ⊢
  rw [List.findIdx?_cons,hno,ih]
  rfl
theorem SE.cap {ρ:Ro} {σ:L2.St} (h:SE K g ρ σ H) {cap:List (Option Nat)} (hc:capOk cap = true):SE K (g.re (capM cap)) (capRo ρ cap) (capSt σ cap) H:=by
 refine ⟨fun j sl e=>?_,fun b z=>h.mu b ((re_S b).mp z),by simp [capRo,capSt]⟩
 unfold capRo at e
 unfold capSt
 rw [List.getElem?_map] at e ⊢
 cases q:cap[j]? with
 | none=>rw [q] at e; cases e
 | some o=>
  rw [q] at e
  cases o with
  | none=>cases e
  | some i=>
   have e':(ρ[i]?).join = some sl:=by simpa using e
   have e2:ρ[i]? = some (some sl):=by
    cases z:ρ[i]? with
    | none=>rw [z] at e'; cases e'
    | some w=>rw [z] at e'; have:w = some sl:=e'; rw [this]
   obtain ⟨v,F,g1,g2,g3⟩:=h.slot i sl e2
   refine ⟨v,F,by simp [g1],fun b z=>?_,g3.go (fun _ _ _ h=>h) fun b o _ n z=>n ((re_S b).mp z)⟩
   unfold Gh.re
   rw [g2 b z]
   show some (capM cap i) = _
   rw [capM_at (by simpa [capOk] using hc) q]
end
noncomputable def relS (scope sc:Scope):Scope:=
 { scope with names:=scope.names.map fun (n,k)=>if (k == .free && sc.kind == .function && sc.names.lookup n == some .cell) then (n,.cell) else (n,k) }
theorem relS_ok {scope:Scope} {env:Env} {sc:Scope} (h:env.scope = sc):relabel scope env = relS scope sc:=by
 subst h
 rfl
noncomputable def capOf (c:Cz) (scope:Scope):List (Option Nat):=scope.names.map fun (x,k)=>if k = .free then ixOf x c.N else none
noncomputable def namesOf (scope:Scope):List Str:=scope.names.map (·.1)
noncomputable def compChk (c:Cz) (scope:Scope):Bool:=
 scope.kind == .function && decide (namesOf scope).Nodup && capOk (capOf c scope) && scope.names.all fun (x,k)=>(k != .free || c.sc.names.lookup x == some .cell || c.sc.names.lookup x == some .free)
theorem lookup_nodup:∀ {l:List (Str × NameKind)} {x:Str} {k:NameKind},(l.map (·.1)).Nodup->(x,k) ∈ l->l.lookup x = some k
 | (y,j) :: r,x,k,hn,hm=>by
  rw [List.lookup_cons]
  rw [List.map_cons,List.nodup_cons] at hn
  rcases List.mem_cons.mp hm with e | hm
  ·cases e
   simp
  ·have:x ≠ y:=fun z=>hn.1 (by rw [<- z]; exact List.mem_map.mpr ⟨(x,k),hm,rfl⟩)
   have e:(x == y) = false:=by simpa using this
   rw [e]
   exact lookup_nodup hn.2 hm
theorem compChk_ok {X:Cx} {Γ:Tab} {c:Cz} {scope:Scope} (O:CxOk X Γ c) (h:compChk c scope = true):CompOk X (namesOf scope) scope (capOf c scope):=by
 simp only [compChk,Bool.and_eq_true,decide_eq_true_eq,List.all_eq_true,beq_iff_eq] at h
 obtain ⟨⟨⟨h1,h2⟩,_⟩,h3⟩:=h
 have hk:∀ x,X.env.kindOf x = c.sc.names.lookup x:=fun x=>by show X.env.scope.names.lookup x = _; rw [O.sc]
 have free:∀ y ∈ scope.names,y.2 = .free->X.env.kindOf y.1 = some .cell\/X.env.kindOf y.1 = some .free:=fun y hy e=>by
  have:=h3 y hy
  simp only [Bool.or_eq_true,bne_iff_ne,beq_iff_eq] at this
  rw [hk]
  rcases this with (z | z) | z
  ·exact absurd e z
  ·exact .inl z
  ·exact .inr z
 refine ⟨h1,fun y hy e=>?_,fun y hy e=>?_,free,by simp [capOf,namesOf],fun j i x hj hc=>?_⟩
 ·obtain ⟨x,k⟩:=y
  have e':k = .cell:=e
  subst e'
  exact lookup_nodup h2 hy
 ·obtain ⟨x,k⟩:=y
  have e':k = .local:=e
  subst e'
  exact lookup_nodup h2 hy
 ·unfold namesOf at hj
  unfold capOf at hc
  rw [List.getElem?_map] at hj hc
  cases q:scope.names[j]? with
  | none=>rw [q] at hj; cases hj
  | some y=>
   rw [q] at hj hc
   obtain ⟨y,k⟩:=y
   cases hj
   have hc':(if k = .free then ixOf y c.N else none) = some i:=by simpa using hc
   split at hc'
   ·rename_i e
    subst e
    have hm:=List.mem_of_getElem? q
    exact ⟨by rw [O.N]; exact ixOf_get hc',lookup_nodup h2 hm,free _ hm rfl⟩
   ·cases hc'
theorem cx_comp {X:Cx} {Γ:Tab} {c:Cz} {scope:Scope} (O:CxOk X Γ c) (h:compChk c scope = true) (C:Addr) (s:Shared) (H:Hp) (ex:List Addr):CxOk (compX X (namesOf scope) scope C s H ex) Γ ⟨relS scope c.sc,namesOf scope,ownC scope⟩:=by
 simp only [compChk,Bool.and_eq_true,decide_eq_true_eq] at h
 exact ⟨relS_ok O.sc,rfl,fun x z=>z,O.calm,h.1.1.2,⟨O.tab.fn,O.tab.fm,O.tab.bl,O.tab.units,O.tab.gd,O.tab.cst⟩⟩
noncomputable def eltI (tg:IT) (ft:Ro->Option Bool) (fe:Ro->Option KD) (ρ0:Ro) (d:D):Option (Option KD):=match tgI tg d with
 | some ps=>if noneAt ps ρ0 = true then (match ft (setAll ps ρ0) with | some true=>(fe (setAll ps ρ0)).map some | some false=>some none | none=>none) else none
 | none=>none
noncomputable def evMap (r:Ow) (f:D->Option (Option KD)):List D->Option (List D)
 | []=>some []
 | d :: ds=>match f d,evMap r f ds with
  | some (some kd),some ys=>if fit1 r kd = true then some (kd.2 :: ys) else none
  | some none,some ys=>some ys
  | _,_=>none
theorem evMap_app {r:Ow} {f:D->Option (Option KD)}:∀ {a b:List D} {ys:List D},evMap r f (a ++ b) = some ys->∃ x y,evMap r f a = some x/\evMap r f b = some y/\ys = x ++ y
 | [],b,ys,h=>⟨[],ys,rfl,h,rfl⟩
 | d :: a,b,ys,h=>by
  rw [List.cons_append] at h
  unfold evMap at h
  split at h
  ·rename_i kd zs e1 e2
   split at h
   ·rename_i hf
    cases h
    obtain ⟨x,y,h1,h2,rfl⟩:=evMap_app e2
    exact ⟨kd.2 :: x,y,by simp [evMap,e1,h1,hf],h2,rfl⟩
   ·cases h
  ·rename_i zs e1 e2
   cases h
   obtain ⟨x,y,h1,h2,rfl⟩:=evMap_app e2
   exact ⟨x,y,by simp [evMap,e1,h1],h2,rfl⟩
  ·cases h
theorem evMap_snoc {r:Ow} {f:D->Option (Option KD)} {a:List D} {d:D} {x:List D} (h:evMap r f a = some x) {y:List D} (h1:evMap r f [d] = some y):evMap r f (a ++ [d]) = some (x ++ y):=by
 induction a generalizing x with
 | nil=>cases h; exact h1
 | cons e a ih=>
  unfold evMap at h
  rw [List.cons_append]
  unfold evMap
  split at h
  ·rename_i kd zs e1 e2
   split at h
   ·rename_i hf
    cases h
    rw [e1,ih e2]
    simp [hf]
   ·cases h
  ·rename_i zs e1 e2
   cases h
   rw [e1,ih e2]
  ·cases h
theorem evMap_step {r:Ow} {f:D->Option (Option KD)} {ds ys:List D} (h:evMap r f ds = some ys) {i:Nat} {d:D} (e:ds[i]? = some d) {x:List D} (hx:evMap r f (ds.take i) = some x) :
  (f d = some none/\evMap r f (ds.take (i + 1)) = some x)\/∃ kd,f d = some (some kd)/\fit1 r kd = true/\evMap r f (ds.take (i + 1)) = some (x ++ [kd.2]):=by
 have hs:ds = ds.take i ++ (d :: ds.drop (i + 1)):=by
  obtain ⟨hl,rfl⟩:=List.getElem?_eq_some_iff.mp e
  rw [<- List.drop_eq_getElem_cons hl,List.take_append_drop]
 have ht:ds.take (i + 1) = ds.take i ++ [d]:=by rw [List.take_add_one,e]; rfl
 rw [hs] at h
 obtain ⟨_,y,_,h2,_⟩:=evMap_app h
 unfold evMap at h2
 rw [ht]
 split at h2
 ·rename_i kd zs e1 e2
  split at h2
  ·rename_i hf
   exact .inr ⟨kd,e1,hf,evMap_snoc hx (by simp [evMap,e1,hf])⟩
  ·cases h2
 ·rename_i zs e1 e2
  exact .inl ⟨e1,by simpa using evMap_snoc hx (y:=[]) (by simp [evMap,e1])⟩
 ·cases h2
noncomputable def oComp (r:Ow) (it:Option (List Nat × List D)) (f:D->Option (Option KD)):Option KD:=match it with
 | some (_,ds)=>if ds.length<=100000 then (match evMap r f ds with | some ys=>some (.fr (.own [] r),.lst ys) | none=>none) else none
 | none=>none
theorem evMap_len {r:Ow} {f:D->Option (Option KD)}:∀ {ds ys:List D},evMap r f ds = some ys->ys.length<=ds.length
 | [],ys,h=>by cases h; exact Nat.le_refl _
 | d :: ds,ys,h=>by
  unfold evMap at h
  split at h
  ·rename_i kd zs e1 e2
   split at h
   ·cases h; have:=evMap_len e2; simp; omega
   ·cases h
  ·rename_i zs e1 e2
   cases h; have:=evMap_len e2; simp; omega
  ·cases h
section
variable {K:PySem.W.Frag} {H:Hp} {S:Pr}
theorem TrL.snoc:∀ {ds:List D} {r:Ow} {us:List V} {F F2:Pr} {d:D} {v:V},TrL K H S ds [] r us F->Tr K H S d r v F2->(∀ b,F b->¬ F2 b)->TrL K H S (ds ++ [d]) [] r (us ++ [v]) (fun b=>F b\/F2 b)
 | [],r,us,F,F2,d,v,h,t,dj=>by
  unfold TrL at h
  obtain ⟨rfl,hn⟩:=h
  show TrL K H S [d] [] r [v] _
  unfold TrL
  refine ⟨v,[],F2,fun _=>False,rfl,fun b=>⟨fun z=>.inl (z.elim (fun z=>absurd z (hn b)) id),fun z=>z.elim .inr fun z=>z.elim⟩,fun _ _ z=>z,t,?_⟩
  unfold TrL
  exact ⟨rfl,fun _ z=>z⟩
 | e :: ds,r,us,F,F2,d,v,h,t,dj=>by
  unfold TrL at h
  obtain ⟨y,ys,F1,F3,rfl,hF,dj1,h1,h2⟩:=h
  show TrL K H S (e :: (ds ++ [d])) [] r (y :: (ys ++ [v])) _
  unfold TrL
  refine ⟨y,ys ++ [v],F1,fun b=>F3 b\/F2 b,rfl,fun b=>?_,fun b z1 z2=>?_,h1,TrL.snoc h2 t fun b z=>dj b ((hF b).mpr (.inr z))⟩
  ·show F b\/F2 b ↔ F1 b\/F3 b\/F2 b
   rw [hF b,or_assoc]
  ·rcases z2 with z2 | z2
   ·exact dj1 b z1 z2
   ·exact dj b ((hF b).mpr (.inl z1)) z2
end
end J
namespace J
open PySem PySem.Spec L2
noncomputable def wTs (X:Cx) (ifs:List Expr):TT:=fun σ H Q=>∀ pins s,Inv X pins σ H s->wpAny (model X.prog X.w) X.A (forIn ifs true fun c r=>if r = true then do let ok <- isTrue c X.env (eval c X.env); pure (ForInStep.yield ok) else pure (ForInStep.yield r)) (TP X pins σ Q) X.xe s
theorem pts_le {X:Cx} {ifs:List Expr} {tt:TT} (p:PTs X ifs tt) {σ:L2.St} {H:Hp} {Q:Bool->Hp->Prop} (h:tt σ H Q):wTs X ifs σ H Q:=fun pins s I=>p pins s σ H Q I h
noncomputable def SndTs (X:Cx) (f:Ro->Option Bool) (ifs:List Expr):Prop:=∀ ρ b,f ρ = some b->∀ g σ H Q,SE X.K g ρ σ H->(∀ H',Same H H'->Q b H')->wTs X ifs σ H Q
theorem s_tsN {X:Cx}:SndTs X (fun _=>some true) []:=fun ρ b h g σ H Q se q=>by cases h; exact pts_le pts_nil (q H (Same.refl H))
theorem s_ts1 {X:Cx} {f:Ro->Option Bool} {e:Expr} (h:SndT X f e):SndTs X f [e]:=fun ρ b hb g σ H Q se q=>pts_le (pts_one pt_w) (h ρ b hb g σ H Q se q)
section
variable {X:Cx} {Γ:Tab} {c:Cz}
theorem comp_t (O:CxOk X Γ c) {r:Ow} {fi:Ro->Option (List Nat × List D)} {ft:Ro->Option Bool} {fe:Ro->Option KD} {elt tg iter:Expr} {ifs:List Expr} {scope:Scope} {t:IT} {n:Nat} (hck:compChk c scope = true) (hi:SndI X fi tg iter)
  (htg:cTg ⟨relS scope c.sc,namesOf scope,ownC scope⟩ n tg = some t)
  (hft:∀ C s H ex,SndTs (compX X (namesOf scope) scope C s H ex) ft ifs) (hfe:∀ C s H ex,SndE (compX X (namesOf scope) scope C s H ex) fe elt)
  {ρ:Ro} {kd:Kd} {d:D} (h:oComp r (fi ρ) (eltI t ft fe (capRo ρ (capOf c scope))) = some (kd,d)) {g:Gh} {σ:L2.St} {H:Hp} {Q:VK} (se:SE X.K g ρ σ H) (q:∀ v H',Same H H'->VR X.K g H H' kd d v->Q v H') :
  tCompF (wI X tg iter) (fun v σ H Q=>∀ C s H0 ex,wG (compX X (namesOf scope) scope C s H0 ex) tg v σ H Q) (fun σ H Q=>∀ C s H0 ex,wTs (compX X (namesOf scope) scope C s H0 ex) ifs σ H Q) (fun σ H Q=>∀ C s H0 ex,wE (compX X (namesOf scope) scope C s H0 ex) elt σ H Q) (capOf c scope) σ H Q:=by
 have hcap:capOk (capOf c scope) = true:=by
  simp only [compChk,Bool.and_eq_true] at hck
  exact hck.1.2
 unfold oComp at h
 split at h
 ·rename_i bs ds hit
  split at h
  ·rename_i hlen
   split at h
   ·rename_i ys hm
    cases h
    have CO:=cx_comp O hck
    refine hi ρ bs ds hit g σ H _ se fun jj src H1 s1 jt sp sf D hD=>?_
    have se1:SE X.K (g.re (capM (capOf c scope))) (capRo ρ (capOf c scope)) (capSt σ (capOf c scope)) H1:=(se.same s1).cap hcap
    generalize hg':g.re (capM (capOf c scope)) = g' at se1
    have gS:∀ b,Sg g' b ↔ Sg g b:=fun b=>by rw [<- hg']; exact re_S b
    generalize hρ:capRo ρ (capOf c scope) = ρc at se1 hm
    generalize hσ:capSt σ (capOf c scope) = σc at se1
    clear hρ hσ
    refine ⟨fun i m σ' H'=>m = ds.length - i/\i<=ds.length/\∃ (Fi:Pr) (us:List V) (yi:List J.D),evMap r (eltI t ft fe ρc) (ds.take i) = some yi/\(∀ b,Fi b->H1 b = none/\b ≠ D)/\SE X.K (g'.plus fun b=>b = D\/Fi b) ρc σ' H'/\
      (∀ b o,H1 b = some o->H' b = some o)/\H' D = some (.lst us)/\TrL X.K H' (Sx g fun b=>b = D\/Fi b) yi [] r us Fi,
     ⟨ds.length,by simp,Nat.zero_le _,fun _=>False,[],[],by simp [evMap],fun b z=>z.elim,?_,fun b o e=>same_upd hD _ _ e,upd_same,by unfold TrL; exact ⟨rfl,fun _ z=>z⟩⟩,?_⟩
    ·exact se1.plus (same_upd hD) (fun b z=>z.elim (fun z=>z ▸ hD) fun z=>z.elim) fun b z=>z.elim (fun z=>⟨.lst [],z ▸ upd_same,fun xs h=>by cases h⟩) fun z=>z.elim
    rintro i m σ' H' ⟨rfl,hi',Fi,us,yi,hyi,hFi,se',kk,gD,tr⟩
    have gpS:∀ b,Sg (g'.plus fun b=>b = D\/Fi b) b ↔ Sx g (fun b=>b = D\/Fi b) b:=fun b=>(plus_S b).trans (or_congr (gS b) Iff.rfl)
    have hnew:∀ b o,H1 b = some o->¬ (b = D\/Fi b):=fun b o e z=>z.elim (fun z=>by rw [z,hD] at e; cases e) fun z=>by rw [(hFi b z).1] at e; cases e
    have sp':src.P X.K (g'.plus fun b=>b = D\/Fi b) H':=Src.mono (fun b o e n z=>((gpS b).mp z).elim n (hnew b o e)) (fun b o _ e=>kk b o e) (fun a e=>sf.from_t e) sp
    obtain ⟨j1,j2⟩:=jt i _ H' sp' se'.mu
    by_cases hlt:i < ds.length
    ·have hd:ds[i]? = some ds[i]:=List.getElem?_eq_getElem hlt
     obtain ⟨go,yl⟩:=j2 _ hd
     refine .inr ⟨go,fun x H2 hy C s0 H0 ex=>?_⟩
     obtain ⟨s2,rx⟩:=yl x H2 hy
     have st:=evMap_step hm hd hyi
     have stuck:∃ o,eltI t ft fe ρc ds[i] = some o:=by
      rcases st with ⟨e,_⟩ | ⟨kd,e,_⟩
      ·exact ⟨_,e⟩
      ·exact ⟨_,e⟩
     obtain ⟨o0,ho0⟩:=stuck
     have he:=ho0
     unfold eltI at he
     split at he
     ·rename_i ps hps
      split at he
      ·rename_i hno
       refine pg_le (pg_IT (CO C s0 H0 ex) n htg) (gIT_run hps rx fun vs hvs C1 s01 H01 ex1=>?_)
       have t1:=SE.setAll hvs (se'.same s2)
       obtain ⟨t2,t3⟩:=SE.passAll hvs hno (se'.same s2)
       split at he
       ·rename_i hT
        -- the test holds
        refine hft C1 s01 H01 ex1 _ true hT _ _ _ _ t1 fun H3 s3=>iteT fun C2 s02 H02 ex2=>?_
        cases hke:fe (setAll ps ρc) with
        | none=>rw [hke] at he; cases he
        | some ke=>
         rw [hke] at he
         cases he
         obtain ⟨ky,y⟩:=ke
         have st2:fit1 r (ky,y) = true/\evMap r (eltI t ft fe ρc) (ds.take (i + 1)) = some (yi ++ [y]):=by
          rcases st with ⟨e,_⟩ | ⟨kd,e,e2,e3⟩
          ·rw [ho0] at e; cases e
          ·rw [ho0] at e; cases e; exact ⟨e2,e3⟩
         refine hfe C2 s02 H02 ex2 _ ky y hke _ _ H3 _ (t1.same s3) fun vy H4 s4 r4=>?_
         obtain ⟨Fy,y1,y2⟩:=r4
         have s24:Same H' H4:=(s2.trans s3).trans s4
         have seE:SE X.K (g'.plus fun b=>b = D\/Fi b) ρc (setV vs σ') H3:=t2.same s3
         have hgy:∀ b,Fy b->(g'.plus fun b=>b = D\/Fi b) b = none:=fun b z=>by
          cases e:(g'.plus fun b=>b = D\/Fi b) b with
          | none=>rfl
          | some k=>
           obtain ⟨o,q2,_⟩:=seE.mu b (by rw [Sg,e]; simp)
           rw [y1 b z] at q2; cases q2
         have mm:MuOk H4 (Sx (g'.plus fun b=>b = D\/Fi b) Fy):=fun b z=>z.elim (fun z=>seE.mu.same s4 b z) fun z=>y2.dom b z
         obtain ⟨F2,a1,a2⟩:=VR1.fit (p:=(ky,y)) st2.1 mm hgy (fun b z=>z) y2
         have gD4:H4 D = some (.lst us):=s24 _ _ gD
         have nF2D:¬ F2 D:=fun z=>by have:=y1 D (a1 D z); rw [(s2.trans s3) _ _ gD] at this; cases this
         have nF2:∀ b,F2 b->H' b = none:=fun b z=>(s2.trans s3).free (y1 b (a1 b z))
         have hul:us.length<=i:=by
          rw [tr.len]
          exact Nat.le_trans (evMap_len hyi) (by rw [List.length_take]; omega)
         have kD:∀ b o,b ≠ D->H4 b = some o->upd H4 D (.lst (us ++ [vy])) b = some o:=fun b o n e=>by rw [upd_ne n]; exact e
         refine ⟨us,gD4,Nat.lt_of_le_of_lt hul (Nat.lt_of_lt_of_le hlt (size_small hlen)),ds.length - (i + 1),by omega,rfl,hlt,fun b=>Fi b\/F2 b,us ++ [vy],yi ++ [y],st2.2,fun b z=>?_,?_,fun b o e=>?_,upd_same,?_⟩
         ·rcases z with z | z
          ·exact hFi b z
          ·refine ⟨?_,fun e=>nF2D (e ▸ z)⟩
           cases e:H1 b with
           | none=>rfl
           | some o=>have:=nF2 b z; rw [kk b o e] at this; cases this
         ·have e1:(g'.plus fun b=>b = D\/(Fi b\/F2 b)) = (g'.plus fun b=>b = D\/Fi b).plus F2:=by
           rw [plus_plus]
           congr 1
           funext b
           exact propext ⟨fun z=>z.elim (fun z=>.inl (.inl z)) fun z=>z.elim (fun z=>.inl (.inr z)) .inr,fun z=>z.elim (fun z=>z.elim .inl fun z=>.inr (.inl z)) fun z=>.inr (.inr z)⟩
          rw [e1]
          refine SE.upd (seE.plus s4 (fun b z=>y1 b (a1 b z)) fun b z=>y2.dom b (a1 b z)) ?_ (fun xs h=>by cases h)
          rw [plus_plus]
          exact plus_at (.inl (.inl rfl))
         ·exact kD b o (fun z=>hnew b o e (.inl z)) (s24 _ _ (kk b o e))
         ·refine TrL.snoc (tr.go (fun b o hb e=>kD b o (fun z=>?_) (s24 _ _ e)) fun b o e n z=>?_) ((a2 (fun b=>g b ≠ none\/b = D\/Fi b\/F2 b) fun b z=>?_).go (fun b o hb e=>kD b o (fun z=>?_) e) fun b o e n z=>n z) fun b z1 z2=>?_
          ·subst z
           exact hb.elim (fun z=>z (.inr (.inl rfl))) fun z=>(hFi b z).2 rfl
          ·rcases z with z | z | z | z
           ·exact n (.inl z)
           ·exact n (.inr (.inl z))
           ·exact n (.inr (.inr z))
           ·rw [nF2 b z] at e; cases e
          ·rcases z with z | z | z | z
           ·exact .inr (.inl ((gpS b).mpr (.inl z)))
           ·exact .inr (.inl ((gpS b).mpr (.inr (.inl z))))
           ·exact .inr (.inl ((gpS b).mpr (.inr (.inr z))))
           ·exact .inr (.inr (.inl z))
          ·subst z
           exact hb.elim (fun z=>z (.inr (.inl rfl))) nF2D
          ·obtain ⟨o,e,_⟩:=tr.dom b z1
           rw [nF2 b z2] at e; cases e
       ·rename_i hT
        cases he
        have st2:evMap r (eltI t ft fe ρc) (ds.take (i + 1)) = some yi:=by
         rcases st with ⟨_,e⟩ | ⟨kd,e,_⟩
         ·exact e
         ·rw [ho0] at e; cases e
        refine hft C1 s01 H01 ex1 _ false hT _ _ _ _ t1 fun H3 s3=>iteF ?_
        have s23:=s2.trans s3
        exact ⟨ds.length - (i + 1),by omega,rfl,hlt,Fi,us,yi,st2,hFi,t2.same s3,fun b o e=>s23 _ _ (kk b o e),s23 _ _ gD,tr.go (fun b o _ e=>s23 _ _ e) fun _ _ _ n=>n⟩
       ·cases he
      ·cases he
     ·cases he
    ·have e:i = ds.length:=by omega
     subst e
     rw [List.take_length,hm] at hyi
     cases hyi
     refine .inl ⟨j1 (Nat.le_refl _),q _ H' (fun b o e=>kk b o (s1 _ _ e)) ⟨fun b=>b = D\/Fi b,fun b z=>s1.free (z.elim (fun z=>z ▸ hD) fun z=>(hFi b z).1),?_⟩⟩
     show Tr _ _ _ _ _ _ _
     unfold Tr
     exact ⟨D,_,us,Fi,rfl,gD,rfl,fun _ z=>(hFi D z).2 rfl,(fun h=>nomatch h),fun b=>⟨fun z=>z.imp (fun z=>⟨rfl,z⟩) id,fun z=>z.imp (fun z=>z.2) id⟩,tr⟩
   ·cases h
  ·cases h
 ·cases h
noncomputable def notSet:Expr->Bool
 | .Set ..=>false
 | _=>true
theorem notSet_ok {e:Expr} {env:Env} (h:notSet e = true) (x:Value):foldedSetIterable e env x = pure x:=by
 cases e <;> first | rfl | cases h
theorem s_comp (O:CxOk X Γ c) {r:Ow} {fi:Ro->Option (List Nat × List D)} {ft:Ro->Option Bool} {fe:Ro->Option KD} {elt tg iter:Expr} {ifs:List Expr} {scope:Scope} {pos:Pos} {t:IT} {n:Nat} (hck:compChk c scope = true) (hns:notSet iter = true) (hi:SndI X fi tg iter)
  (htg:cTg ⟨relS scope c.sc,namesOf scope,ownC scope⟩ n tg = some t)
  (hft:∀ C s H ex,SndTs (compX X (namesOf scope) scope C s H ex) ft ifs) (hfe:∀ C s H ex,SndE (compX X (namesOf scope) scope C s H ex) fe elt) :
  SndE X (fun ρ=>oComp r (fi ρ) (eltI t ft fe (capRo ρ (capOf c scope)))) (.ListComp elt [⟨tg,iter,ifs,0⟩] scope pos):=by
 intro ρ kd d h g σ H Q se q
 exact pe_le (pe_compF (N':=namesOf scope) (cap:=capOf c scope) O.calm (compChk_ok O hck) pi_w
  (fun C s H0 ex pins s' σ' H' v u Q' I r hh=>pg_w pins s' σ' H' v u Q' I r (hh C s H0 ex)) (fun C s H0 ex pins s' σ' H' Q' I hh=>hh C s H0 ex pins s' I) (fun C s H0 ex pins s' σ' H' Q' I hh=>hh C s H0 ex pins s' I) (notSet_ok hns)) (comp_t O hck hi htg hft hfe h se q)
end
end J
namespace J
open PySem PySem.Spec L2
mutual
inductive IE where
 | var (i:Nat)
 | lit (d:D)
 | bin (op:Operator) (a b:IE)
 | cmp (op:CmpOp) (a b:IE)
 | chain (op op':CmpOp) (a b d:IE)
 | neg (a:IE)
 | not (a:IE)
 | bool (op:BoolOp) (es:IEs)
 | ifx (t a b:IE)
 | lst (k:Ow) (es:IEs)
 | tup (k:Ow) (es:IEs)
 | dnew (t:Nat)
 | ix (a b:IE)
 | sl (a:IE) (lo hi:IO)
 | rev (a st:IE)
 | maxd (a b:IE)
 | idx (a b:IE)
 | lrng (a:IE)
 | isi (T:Str) (a:IE)
 | fn (i:Nat) (es:IEs)
 | blt (x:Str) (es:IEs)
 | comp (r:Ow) (cap:List (Option Nat)) (tg:IT) (it:II) (ts:IO) (elt:IE)
inductive IEs where
 | nil
 | cons (a:IE) (r:IEs)
inductive IO where
 | non
 | som (a:IE)
inductive II where
 | e (a:IE)
 | rng (a b:IE)
 | enm (a:IE)
 | zp (a b:IE)
end
noncomputable def oDnew (t:Nat):Option KD:=if t = 0\/t = 1 then some (.fr flatO,.dic t [] []) else none
mutual
noncomputable def evI (Γ:Nat->Option Fn):IE->Ro->Option KD
 | .var i,ρ=>oVar i ρ[i]?
 | .lit d,_=>some (.sh,d)
 | .bin op a b,ρ=>oBin op (evI Γ a ρ) (evI Γ b ρ)
 | .cmp op a b,ρ=>bV (oCmp op (evI Γ a ρ) (evI Γ b ρ))
 | .chain op op' a b d,ρ=>bV (oChain op op' (evI Γ a ρ) (evI Γ b ρ) (evI Γ d ρ))
 | .neg a,ρ=>oNeg (evI Γ a ρ)
 | .not a,ρ=>bV ((oTru (evI Γ a ρ)).map (!·))
 | .bool op es,ρ=>evIB Γ op es ρ
 | .ifx t a b,ρ=>none
 | .lst k es,ρ=>oLst k (evIs Γ es ρ)
 | .tup k es,ρ=>oTup k (evIs Γ es ρ)
 | .dnew t,_=>oDnew t
 | .ix a b,ρ=>oIx (evI Γ a ρ) (evI Γ b ρ)
 | .sl a lo hi,ρ=>oSl (evI Γ a ρ) (evIO Γ lo ρ) (evIO Γ hi ρ)
 | .rev a b,ρ=>oRev (evI Γ a ρ) (evI Γ b ρ)
 | .maxd a b,ρ=>none
 | .idx a b,ρ=>none
 | .lrng a,ρ=>none
 | .isi T a,ρ=>oIsi T (evI Γ a ρ)
 | .fn i es,ρ=>oFn (Γ i) (evIs Γ es ρ)
 | .blt x es,ρ=>oBlt x (evIs Γ es ρ)
 | .comp r cap tg it ts elt,ρ=>oComp r (evII Γ it ρ) (eltI tg (evITs Γ ts) (evI Γ elt) (capRo ρ cap))
noncomputable def evIT (Γ:Nat->Option Fn):IE->Ro->Option Bool
 | .cmp op a b,ρ=>oCmp op (evI Γ a ρ) (evI Γ b ρ)
 | .chain op op' a b d,ρ=>none
 | .not a,ρ=>(evIT Γ a ρ).map (!·)
 | .bool op es,ρ=>evIBT Γ op es ρ
 | .var i,ρ=>oTru (oVar i ρ[i]?)
 | .ix a b,ρ=>oTru (oIx (evI Γ a ρ) (evI Γ b ρ))
 | .isi T a,ρ=>oTru (oIsi T (evI Γ a ρ))
 | .fn i es,ρ=>oTru (oFn (Γ i) (evIs Γ es ρ))
 | .blt x es,ρ=>oTru (oBlt x (evIs Γ es ρ))
 | _,_=>none
noncomputable def evITs (Γ:Nat->Option Fn):IO->Ro->Option Bool
 | .non,_=>some true
 | .som a,ρ=>evIT Γ a ρ
noncomputable def evIs (Γ:Nat->Option Fn):IEs->Ro->Option (List KD)
 | .nil,_=>some []
 | .cons a r,ρ=>oCons (evI Γ a ρ) (evIs Γ r ρ)
noncomputable def evIB (Γ:Nat->Option Fn) (op:BoolOp):IEs->Ro->Option KD
 | .nil,_=>none
 | .cons a r,ρ=>match r with
  | .nil=>evI Γ a ρ
  | .cons _ _=>(match evI Γ a ρ with
   | some (_,.bl x)=>if (op == .And) = x then evIB Γ op r ρ else some (.sh,.bl x)
   | _=>none)
noncomputable def evIBT (Γ:Nat->Option Fn) (op:BoolOp):IEs->Ro->Option Bool
 | .nil,_=>none
 | .cons a r,ρ=>match r with
  | .nil=>evIT Γ a ρ
  | .cons _ _=>(match evIT Γ a ρ with
   | some x=>if (op == .And) = x then evIBT Γ op r ρ else some x
   | none=>none)
noncomputable def evIO (Γ:Nat->Option Fn):IO->Ro->Option (Option Int)
 | .non,_=>some none
 | .som a,ρ=>oInt (evI Γ a ρ)
noncomputable def evII (Γ:Nat->Option Fn):II->Ro->Option (List Nat × List D)
 | .e a,ρ=>oSeq (evI Γ a ρ)
 | .rng a b,ρ=>oRng (evI Γ a ρ) (evI Γ b ρ)
 | .enm a,ρ=>oEnm (evI Γ a ρ)
 | .zp a b,ρ=>none
end
structure Nms where
 fns:List Str
 cs:List (Str × D)
 an:Nat->Nat->Option Ow:=fun _ _=>none
 md:Nat->Nat->Option Bool:=fun _ _=>none
 io:Nat->Option (List Bool):=fun _=>none
 vw:Nat->Nat->List Nat:=fun _ _=>[]
noncomputable def tabOf (fns:Nms) (Γ:Nat->Option Fn) (fm:Str->Option (PySem.W.Frag->Sp)):Tab:=⟨fun x=>(ixOf x fns.fns).bind Γ,fm,fun x=>fns.cs.lookup x⟩
noncomputable def cArgs (f:Expr->Option IE):List Expr->Option IEs
 | []=>some .nil
 | e :: es=>if noStar e then (match f e,cArgs f es with | some a,some r=>some (.cons a r) | _,_=>none) else none
noncomputable def cList (f:Expr->Option IE):List Expr->Option IEs
 | []=>some .nil
 | e :: es=>match f e,cList f es with | some a,some r=>some (.cons a r) | _,_=>none
noncomputable def cIt (c:Cz) (f:Expr->Option IE) (tg iter:Expr):Option II:=
 match iter with
 | .Call (.Name x _) [a] [] _=>
  if x = "range" then (if glB c.sc "range" && noStar a then (f a).map (.rng (.lit (.int 0))) else none)
  else if x = "enumerate" then (if glB c.sc "enumerate" && noStar a && isTup tg then (f a).map .enm else none)
  else (f iter).map .e
 | .Call (.Name x _) [a,b] [] _=>
  if x = "range" then (if glB c.sc "range" && noStar a && noStar b then (match f a,f b with | some a,some b=>some (.rng a b) | _,_=>none) else none)
  else if x = "zip" then (if glB c.sc "zip" && noStar a && noStar b && isTup tg then (match f a,f b with | some a,some b=>some (.zp a b) | _,_=>none) else none)
  else (f iter).map .e
 | _=>(f iter).map .e
noncomputable def cOpt (f:Expr->Option IE):Option Expr->Option IO
 | none=>some .non
 | some e=>(f e).map .som
noncomputable def cTests (f:Expr->Option IE):List Expr->Option IO
 | []=>some .non
 | [e]=>(f e).map .som
 | _=>none
noncomputable def cCall (fns:Nms) (c:Cz) (f:Expr->Option IE) (x:Str) (es:List Expr):Option IE:=
 if glB c.sc x && es.all noStar then (match cArgs f es with | some ies=>(match ixOf x fns.fns with | some i=>(match fns.io i with | some _=>none | none=>some (.fn i ies)) | none=>some (.blt x ies)) | none=>none) else none
noncomputable def truK:IE->Bool
 | .var _ | .ix .. | .isi .. | .fn .. | .blt ..=>true
 | _=>false
noncomputable def onlyT (o:Option IE):Option IE:=match o with | some ie=>if truK ie then some ie else none | none=>none
noncomputable def Nms.kL (fns:Nms) (p:Pos):Ow:=(fns.an p.line p.col).getD flatO
noncomputable def Nms.kT (fns:Nms) (p:Pos):Ow:=(fns.an p.line p.col).getD .fz
noncomputable def cCst:Const->Option IE
 | .int i=>some (.lit (.int i))
 | .bool i=>some (.lit (.bl i))
 | .none=>some (.lit .non)
 | .str x=>some (.lit (.str x))
 | _=>none
noncomputable def cCmp (f:Expr->Option IE) (a:Expr) (ops:List CmpOp) (bs:List Expr):Option IE:=match ops with
 | []=>none
 | op :: ops=>match bs with
  | []=>none
  | b :: bs=>match ops with
   | []=>(match bs with
    | []=>if behindInMarks op b then none else match f a,f b with | some a,some b=>some (.cmp op a b) | _,_=>none
    | _ :: _=>none)
   | op' :: ops=>match ops with
    | _ :: _=>none
    | []=>match bs with
     | []=>none
     | d :: bs=>match bs with
      | _ :: _=>none
      | []=>if behindInMarks op' d then none else match f a,f b,f d with | some a,some b,some d=>some (.chain op op' a b d) | _,_,_=>none
noncomputable def cSub (f:Expr->Option IE) (a b:Expr):Option IE:=match b with
 | .Slice lo hi st _=>(match st with
  | none=>(match f a,cOpt f lo,cOpt f hi with | some a,some lo,some hi=>some (.sl a lo hi) | _,_,_=>none)
  | some st=>(match lo with
   | some _=>none
   | none=>(match hi with
    | some _=>none
    | none=>(match f a,f st with | some a,some b=>some (.rev a b) | _,_=>none))))
 | b=>if plainIx b then (match f a,f b with | some a,some b=>some (.ix a b) | _,_=>none) else none
noncomputable def cIsi (c:Cz) (f:Expr->Option IE) (as:List Expr):Option IE:=match as with
 | []=>none
 | a :: as=>match as with
  | []=>none
  | t :: as=>match as with
   | _ :: _=>none
   | []=>match t with
    | .Name T _=>if glB c.sc "isinstance" && glB c.sc T && noStar a then (f a).map (.isi T) else none
    | _=>none
noncomputable def cMaxd (c:Cz) (f:Expr->Option IE) (g:Expr) (as:List Expr) (ks:List Keyword):Option IE:=match g with
 | .Name x _=>(match as with
  | []=>none
  | a :: as=>(match as with
   | _ :: _=>none
   | []=>(match ks with
    | []=>none
    | k :: ks=>(match ks with
     | _ :: _=>none
     | []=>if x = "max"/\k.arg = some "default"/\glB c.sc "max" = true/\noStar a = true then (match f a,f k.value with | some a,some b=>some (.maxd a b) | _,_=>none) else none))))
 | _=>none
noncomputable def cLrng (c:Cz) (f:Expr->Option IE) (x:Str) (as:List Expr):Option IE:=none
noncomputable def cIdx (f:Expr->Option IE) (o:Expr) (m:Str) (ap:Pos) (as:List Expr) (pos:Pos):Option IE:=none
noncomputable def cFn (fns:Nms) (c:Cz) (f:Expr->Option IE) (g:Expr) (as:List Expr) (ks:List Keyword) (pos:Pos):Option IE:=match ks with
 | k :: ks=>cMaxd c f g as (k :: ks)
 | []=>match g with
  | .Name x _=>if x = "isinstance" then cIsi c f as else (match as with
   | []=>if glB c.sc x then (match ixOf x fns.fns with | some i=>(match fns.io i with | some _=>none | none=>some (.fn i .nil)) | none=>none) else none
   | a :: es=>match cLrng c f x (a :: es) with | some r=>some r | none=>cCall fns c f x (a :: es))
  | .Attribute o m ap=>cIdx f o m ap as pos
  | _=>none
noncomputable def cCo (fns:Nms) (c:Cz) (fE fT:Cz->Expr->Option IE) (elt:Expr) (gs:List Comprehension) (scope:Scope) (p:Pos):Option IE:=match gs with
 | []=>none
 | g :: gs=>match gs with
  | _ :: _=>none
  | []=>if g.is_async = 0 then (if notSet g.iter && compChk c scope then (match cTg ⟨relS scope c.sc,namesOf scope,ownC scope⟩ 4 g.target,cIt c (fE c) g.target g.iter,cTests (fT ⟨relS scope c.sc,namesOf scope,ownC scope⟩) g.ifs,fE ⟨relS scope c.sc,namesOf scope,ownC scope⟩ elt with
   | some t,some it,some ts,some el=>some (.comp ((fns.an p.line p.col).getD .fz) (capOf c scope) t it ts el) | _,_,_,_=>none) else none) else none
mutual
noncomputable def cE (fns:Nms):Nat->Cz->Expr->Option IE
 | 0,_,_=>none
 | n + 1,c,e=>match e with
  | .Name x p=>(match ixOf x c.N with | some _=>(match fns.md p.line p.col with | none=>(cVar c x).map .var | some _=>none) | none=>if glB c.sc x then (fns.cs.lookup x).map .lit else none)
  | .Constant v _ _=>cCst v
  | .BinOp a op b _=>match cE fns n c a,cE fns n c b with | some a,some b=>some (.bin op a b) | _,_=>none
  | .Compare a ops bs _=>cCmp (cE fns n c) a ops bs
  | .UnaryOp op a _=>(match op with | .USub=>(cE fns n c a).map .neg | .Not=>(cE fns n c a).map .not | _=>none)
  | .BoolOp op es _=>(cList (cE fns n c) es).map (.bool op)
  | .IfExp t a b _=>match cT fns n c t,cE fns n c a,cE fns n c b with | some t,some a,some b=>some (.ifx t a b) | _,_,_=>none
  | .List es p=>(cArgs (cE fns n c) es).map (.lst (fns.kL p))
  | .Tuple es _ p=>(cArgs (cE fns n c) es).map (.tup (fns.kT p))
  | .Dict ks vs p=>(match ks with | _ :: _=>none | []=>(match vs with | _ :: _=>none | []=>some (.dnew (match fns.an p.line p.col with | some _=>1 | none=>0))))
  | .Subscript a b _=>cSub (cE fns n c) a b
  | .Call g as ks pos=>cFn fns c (cE fns n c) g as ks pos
  | .ListComp elt gs scope p=>cCo fns c (cE fns n) (cT fns n) elt gs scope p
  | _=>none
noncomputable def cT (fns:Nms):Nat->Cz->Expr->Option IE
 | 0,_,_=>none
 | n + 1,c,e=>match e with
  | .Compare a ops bs _=>cCmp (cE fns n c) a ops bs
  | .UnaryOp op a _=>(match op with | .Not=>(cT fns n c a).map .not | _=>none)
  | .BoolOp op es _=>(cList (cT fns n c) es).map (.bool op)
  | .Name x p=>onlyT (cE fns n c (.Name x p))
  | .Call f as ks p=>onlyT (cE fns n c (.Call f as ks p))
  | .Subscript a b p=>onlyT (cE fns n c (.Subscript a b p))
  | _=>none
end
theorem offE {X:Cx} {f:Ro->Option KD} {e:Expr} (h:∀ ρ,f ρ = none):SndE X f e:=fun ρ kd d hh=>by rw [h] at hh; cases hh
theorem offT {X:Cx} {f:Ro->Option Bool} {e:Expr} (h:∀ ρ,f ρ = none):SndT X f e:=fun ρ b hh=>by rw [h] at hh; cases hh
theorem offI {X:Cx} {f:Ro->Option (List Nat × List D)} {tg e:Expr} (h:∀ ρ,f ρ = none):SndI X f tg e:=fun ρ b d hh=>by rw [h] at hh; cases hh
theorem mapS {α β:Type} {o:Option α} {g:α->β} {b:β} (h:o.map g = some b):∃ a,o = some a/\b = g a:=by
 cases o with
 | none=>cases h
 | some a=>cases h; exact ⟨a,rfl,rfl⟩
theorem truK_ok {Γ:Nat->Option Fn} {ie:IE} (h:truK ie = true):evIT Γ ie = fun ρ=>oTru (evI Γ ie ρ):=by
 funext ρ
 cases ie with
 | var i=>rw [evIT,evI]
 | ix a b=>rw [evIT,evI]
 | isi T a=>rw [evIT,evI]
 | fn i es=>rw [evIT,evI]
 | blt x es=>rw [evIT,evI]
 | _=>cases h
theorem ev_lit {Γ:Nat->Option Fn} (d:D):evI Γ (.lit d) = fun _=>some (.sh,d):=by
 funext ρ; unfold evI; rfl
theorem onlyT_ok {o:Option IE} {ie:IE} (h:onlyT o = some ie):o = some ie/\truK ie = true:=by
 unfold onlyT at h
 split at h
 ·split at h
  ·rename_i hk; cases h; exact ⟨rfl,hk⟩
  ·cases h
 ·cases h
section
variable {X:Cx} {c:Cz} (fns:Nms) (Γ:Nat->Option Fn) {fm:Str->Option (PySem.W.Frag->Sp)}
theorem s_dnew {t:Nat} {pos:Pos}:SndE X (fun _=>oDnew t) (.Dict [] [] pos):=by
 intro ρ kd d h g σ H Q se q
 dsimp only [oDnew] at h
 split at h
 ·rename_i ht
  cases h
  have mk:∀ {p:Addr} {o:HO},H p = none->HdOk X.K o (.dic t []) []->VR X.K g H (upd H p o) (.fr flatO) (.dic t [] []) (.ref p):=fun {p o} hp ho=>
   VRs.node (kds:=[]) (es:=[]) (r:=.fz) (vs:=[]) (hd:=.dic t []) rfl se.mu (Same.refl H) .nil hp ho rfl
  rcases ht with rfl | rfl
  ·exact pe_le pe_dnewK fun p hp=>q _ _ (same_upd hp) (mk hp (.inl ⟨rfl,[],rfl,rfl,rfl⟩))
  ·exact pe_le pe_dnewT fun p hp=>q _ _ (same_upd hp) (mk hp (.inr ⟨rfl,[],rfl,rfl,rfl⟩))
 ·cases h
theorem s_argsL {f:Expr->Option IE} (hf:∀ e ie,f e = some ie->SndE X (evI Γ ie) e):∀ {es:List Expr} {ies:IEs},cArgs f es = some ies->SndA X (evIs Γ ies) es/\es.all noStar = true
 | [],ies,h=>by
  cases h
  refine ⟨?_,rfl⟩
  have:evIs Γ .nil = fun _=>some []:=by funext ρ; unfold evIs; rfl
  rw [this]; exact s_argsN
 | e :: es,ies,h=>by
  unfold cArgs at h
  split at h
  ·rename_i hn
   split at h
   ·rename_i a r ha hr
    cases h
    obtain ⟨h1,h2⟩:=s_argsL hf hr
    refine ⟨?_,by rw [List.all_cons,hn,h2]; rfl⟩
    have:evIs Γ (.cons a r) = fun ρ=>oCons (evI Γ a ρ) (evIs Γ r ρ):=by funext ρ; rw [evIs]
    rw [this]
    exact s_argsC hn (hf e a ha) h1
   ·cases h
  ·cases h
theorem s_boolE {f:Expr->Option IE} (hf:∀ e ie,f e = some ie->SndE X (evI Γ ie) e) (op:BoolOp) (pos:Pos):∀ {es:List Expr} {ies:IEs},cList f es = some ies->SndE X (evIB Γ op ies) (.BoolOp op es pos)
 | [],ies,h=>by cases h; intro ρ k d h; unfold evIB at h; cases h
 | [a],ies,h=>by
  unfold cList cList at h
  split at h
  ·rename_i a' r ha hr
   cases h
   cases hr
   intro ρ k d h g σ H Q se q
   unfold evIB at h
   exact pe_le (pe_one pe_w) (hf a a' ha ρ k d h g σ H Q se q)
  ·cases h
 | a :: b :: es,ies,h=>by
  unfold cList at h
  split at h
  ·rename_i a' r ha hr
   cases h
   have rest:=s_boolE hf op pos hr
   have hr2:∃ b' r',r = .cons b' r':=by
    unfold cList at hr
    split at hr
    ·cases hr; exact ⟨_,_,rfl⟩
    ·cases hr
   obtain ⟨b',r',rfl⟩:=hr2
   intro ρ k d h g σ H Q se q
   unfold evIB at h
   dsimp only at h
   split at h
   ·rename_i ka x ea
    split at h
    ·rename_i hx
     cases op with
     | And=>
      refine pe_le (pe_and pe_w pe_w) (hf a a' ha ρ _ _ ea g σ H _ se fun v H1 s1 r=>⟨x,r.rd.bl,?_⟩)
      have:x = true:=by rw [<- hx]; rfl
      rw [if_pos this]
      exact rest ρ k d h g σ H1 Q (se.same s1) fun v2 H2 s2 r2=>q v2 H2 (s1.trans s2) (r2.older s1)
     | Or=>
      refine pe_le (pe_or pe_w pe_w) (hf a a' ha ρ _ _ ea g σ H _ se fun v H1 s1 r=>⟨x,r.rd.bl,?_⟩)
      have:x = false:=by rw [<- hx]; rfl
      rw [if_neg (by rw [this]; decide)]
      exact rest ρ k d h g σ H1 Q (se.same s1) fun v2 H2 s2 r2=>q v2 H2 (s1.trans s2) (r2.older s1)
    ·rename_i hx
     cases h
     cases op with
     | And=>
      refine pe_le (pe_and pe_w pe_w) (hf a a' ha ρ _ _ ea g σ H _ se fun v H1 s1 r=>⟨x,r.rd.bl,?_⟩)
      have:x = false:=by cases x with | true=>exact absurd rfl hx | false=>rfl
      subst this
      rw [if_neg (by decide)]
      exact q _ H1 s1 vBl
     | Or=>
      refine pe_le (pe_or pe_w pe_w) (hf a a' ha ρ _ _ ea g σ H _ se fun v H1 s1 r=>⟨x,r.rd.bl,?_⟩)
      have:x = true:=by cases x with | false=>exact absurd rfl hx | true=>rfl
      subst this
      rw [if_pos rfl]
      exact q _ H1 s1 vBl
   ·cases h
  ·cases h
theorem w_boolT {f:Expr->Option IE} (hf:∀ e ie,f e = some ie->SndT X (evIT Γ ie) e) (op:BoolOp) (pos:Pos):∀ {es:List Expr} {ies:IEs},cList f es = some ies->∀ ρ r,evIBT Γ op ies ρ = some r->∀ g σ H Q,SE X.K g ρ σ H->(∀ H',Same H H'->Q r H')->wW X (.BoolOp op es pos) σ H Q
 | [],ies,h,ρ,r,hr,g,σ,H,Q,se,q=>by cases h; unfold evIBT at hr; cases hr
 | [a],ies,h,ρ,r,hb,g,σ,H,Q,se,q=>by
  unfold cList cList at h
  split at h
  ·rename_i a' r' ha hr
   cases h
   cases hr
   unfold evIBT at hb
   have h1:=hf a a' ha ρ r hb g σ H Q se q
   cases op with
   | And=>exact pw_le (pw_and1 pt_w) h1
   | Or=>exact pw_le (pw_or1 pt_w) h1
  ·cases h
 | a :: b :: es,ies,h,ρ,r,hb,g,σ,H,Q,se,q=>by
  unfold cList at h
  split at h
  ·rename_i a' r0 ha hr
   cases h
   have rest:=w_boolT hf op pos hr ρ r
   have hr2:∃ b' r',r0 = .cons b' r':=by
    unfold cList at hr
    split at hr
    ·cases hr; exact ⟨_,_,rfl⟩
    ·cases hr
   obtain ⟨b',r',rfl⟩:=hr2
   unfold evIBT at hb
   dsimp only at hb
   split at hb
   ·rename_i x ea
    split at hb
    ·rename_i hx
     cases op with
     | And=>
      refine pw_le (pw_and pt_w pw_w) (hf a a' ha ρ x ea g σ H _ se fun H1 s1=>?_)
      have:x = true:=by rw [<- hx]; rfl
      rw [if_pos this]
      exact rest hb g σ H1 Q (se.same s1) fun H2 s2=>q H2 (s1.trans s2)
     | Or=>
      refine pw_le (pw_or pt_w pw_w) (hf a a' ha ρ x ea g σ H _ se fun H1 s1=>?_)
      have:x = false:=by rw [<- hx]; rfl
      rw [if_neg (by rw [this]; decide)]
      exact rest hb g σ H1 Q (se.same s1) fun H2 s2=>q H2 (s1.trans s2)
    ·rename_i hx
     cases hb
     cases op with
     | And=>
      refine pw_le (pw_and pt_w pw_w) (hf a a' ha ρ r ea g σ H _ se fun H1 s1=>?_)
      have:r = false:=by cases r with | true=>exact absurd rfl hx | false=>rfl
      subst this
      rw [if_neg (by decide)]
      exact q H1 s1
     | Or=>
      refine pw_le (pw_or pt_w pw_w) (hf a a' ha ρ r ea g σ H _ se fun H1 s1=>?_)
      have:r = true:=by cases r with | false=>exact absurd rfl hx | true=>rfl
      subst this
      rw [if_pos rfl]
      exact q H1 s1
   ·cases hb
  ·cases h
theorem s_callR (O:CxOk X (tabOf fns Γ fm) c) {f:Expr->Option IE} (hf:∀ e ie,f e = some ie->SndE X (evI Γ ie) e) {x:Str} {a:Expr} {es:List Expr} {p pos:Pos} {ie:IE} (h:cCall fns c f x (a :: es) = some ie):SndE X (evI Γ ie) (.Call (.Name x p) (a :: es) [] pos):=by
 unfold cCall at h
 split at h
 ·rename_i hg
  rw [Bool.and_eq_true,List.all_cons,Bool.and_eq_true] at hg
  split at h
  ·rename_i ies ha
   have hA:=(s_argsL Γ hf ha).1
   split at h
   ·rename_i i hi
    split at h
    ·cases h
    cases h
    have e:evI Γ (.fn i ies) = fun ρ=>oFn ((tabOf fns Γ fm).fn x) (evIs Γ ies ρ):=by
     funext ρ
     unfold evI tabOf
     dsimp only
     rw [hi]; rfl
    rw [e]
    exact s_fn O hA hg.1 hg.2.1 hg.2.2
   ·cases h
    first | (refine offE fun ρ=>?_; rw [evI]; done) | (have e:evI Γ (.blt x ies) = fun ρ=>oBlt x (evIs Γ ies ρ):=(by funext ρ; unfold evI; rfl); rw [e]; exact s_blt O hA hg.1 hg.2.1 hg.2.2)
  ·cases h
 ·cases h
theorem s_itI (O:CxOk X (tabOf fns Γ fm) c) {f:Expr->Option IE} (hf:∀ e ie,f e = some ie->SndE X (evI Γ ie) e) {tg iter:Expr} {it:II} (h:cIt c f tg iter = some it):SndI X (evII Γ it) tg iter:=by
 have one:∀ {it:II},(f iter).map .e = some it->SndI X (evII Γ it) tg iter:=fun h=>by
  obtain ⟨a,ha,rfl⟩:=mapS h
  first | (refine offI fun ρ=>?_; rw [evII]; done) | (have e:evII Γ (.e a) = fun ρ=>oSeq (evI Γ a ρ):=(by funext ρ; unfold evII; rfl); rw [e]; exact s_itL (hf _ _ ha))
 unfold cIt at h
 split at h
 ·rename_i x p a pos
  split at h
  ·rename_i hx
   subst hx
   split at h
   ·rename_i hg
    rw [Bool.and_eq_true] at hg
    obtain ⟨a',ha,rfl⟩:=mapS h
    first | (refine offI fun ρ=>?_; rw [evII]; done) | (have e:evII Γ (.rng (.lit (.int 0)) a') = fun ρ=>oRng (some (.sh,.int 0)) (evI Γ a' ρ):=(by funext ρ; unfold evII; conv=>lhs; arg 1; unfold evI); rw [e]; exact s_itR1 O hg.1 hg.2 (hf _ _ ha))
   ·cases h
  ·split at h
   ·rename_i hx
    subst hx
    split at h
    ·rename_i hg
     simp only [Bool.and_eq_true] at hg
     obtain ⟨a',ha,rfl⟩:=mapS h
     first | (refine offI fun ρ=>?_; rw [evII]; done) | (have e:evII Γ (.enm a') = fun ρ=>oEnm (evI Γ a' ρ):=(by funext ρ; unfold evII; rfl); rw [e]; exact s_itE O hg.1.1 hg.1.2 hg.2 (hf _ _ ha))
    ·cases h
   ·exact one h
 ·rename_i x p a b pos
  split at h
  ·rename_i hx
   subst hx
   split at h
   ·rename_i hg
    simp only [Bool.and_eq_true] at hg
    split at h
    ·rename_i a' b' ha hb
     cases h
     first | (refine offI fun ρ=>?_; rw [evII]; done) | (have e:evII Γ (.rng a' b') = fun ρ=>oRng (evI Γ a' ρ) (evI Γ b' ρ):=(by funext ρ; unfold evII; rfl); rw [e]; exact s_itR2 O hg.1.1 hg.1.2 hg.2 (hf _ _ ha) (hf _ _ hb))
    ·cases h
   ·cases h
  ·split at h
   ·rename_i hx
    subst hx
    split at h
    ·rename_i hg
     simp only [Bool.and_eq_true] at hg
     split at h
     ·rename_i a' b' ha hb
      cases h
      first | (refine offI fun ρ=>?_; unfold evII; try rfl; done) | (have e:evII Γ (.zp a' b') = fun ρ=>oZip (evI Γ a' ρ) (evI Γ b' ρ):=(by funext ρ; unfold evII; rfl); rw [e]; exact s_itZ O hg.1.1.1 hg.1.1.2 hg.1.2 hg.2 (hf _ _ ha) (hf _ _ hb))
     ·cases h
    ·cases h
   ·exact one h
 ·exact one h
theorem s_cstR {v:Const} {k:Nat} {pos:Pos} {ie:IE} (h:cCst v = some ie):SndE X (evI Γ ie) (.Constant v k pos):=by
 cases v with
 | int i=>cases h; rw [ev_lit]; exact s_int _ _ _
 | bool i=>cases h; rw [ev_lit]; exact s_bl _ _ _
 | none=>cases h; rw [ev_lit]; exact s_non _ _
 | str i=>cases h; rw [ev_lit]; exact s_str _ _ _
 | _=>cases h
theorem cCmp_ok {f:Expr->Option IE} {a:Expr} {ops:List CmpOp} {bs:List Expr} {ie:IE} (h:cCmp f a ops bs = some ie):(∃ op b a' b',ops = [op]/\bs = [b]/\behindInMarks op b = false/\f a = some a'/\f b = some b'/\ie = .cmp op a' b')\/(∃ op op' b d a' b' d',ops = [op,op']/\bs = [b,d]/\behindInMarks op' d = false/\f a = some a'/\f b = some b'/\f d = some d'/\ie = .chain op op' a' b' d'):=by
 cases ops with
 | nil=>cases h
 | cons op ops=>cases bs with
  | nil=>cases h
  | cons b bs=>cases ops with
   | nil=>cases bs with
    | cons _ _=>cases h
    | nil=>
     dsimp only [cCmp] at h
     split at h
     ·cases h
     ·rename_i hm
      split at h
      ·rename_i a' b' ha hb
       cases h
       exact .inl ⟨op,b,a',b',rfl,rfl,by simpa using hm,ha,hb,rfl⟩
      ·cases h
   | cons op' ops=>cases ops with
    | cons _ _=>cases h
    | nil=>cases bs with
     | nil=>cases h
     | cons d bs=>cases bs with
      | cons _ _=>cases h
      | nil=>
       dsimp only [cCmp] at h
       split at h
       ·cases h
       ·rename_i hm
        split at h
        ·rename_i a' b' d' ha hb hd
         cases h
         exact .inr ⟨op,op',b,d,a',b',d',rfl,rfl,by simpa using hm,ha,hb,hd,rfl⟩
        ·cases h
theorem s_opt {f:Expr->Option IE} (hf:∀ e ie,f e = some ie->SndE X (evI Γ ie) e) {o:Option Expr} {io:IO} (h:cOpt f o = some io):SndO X (evIO Γ io) o:=by
 cases o with
 | none=>
  cases h
  have e:evIO Γ .non = fun _=>some none:=by funext ρ; unfold evIO; rfl
  rw [e]; exact s_optN
 | some e=>
  obtain ⟨a,ha,rfl⟩:=mapS h
  have e:evIO Γ (.som a) = fun ρ=>oInt (evI Γ a ρ):=by funext ρ; unfold evIO; rfl
  rw [e]; exact s_optS (hf _ _ ha)
theorem s_tests {f:Expr->Option IE} (hf:∀ e ie,f e = some ie->SndT X (evIT Γ ie) e) {o:List Expr} {io:IO} (h:cTests f o = some io):SndTs X (evITs Γ io) o:=by
 unfold cTests at h
 split at h
 ·cases h
  have e:evITs Γ .non = fun _=>some true:=by funext ρ; unfold evITs; rfl
  rw [e]; exact s_tsN
 ·obtain ⟨a,ha,rfl⟩:=mapS h
  have e:evITs Γ (.som a) = evIT Γ a:=by funext ρ; conv=>lhs; unfold evITs
  rw [e]; exact s_ts1 (hf _ _ ha)
 ·cases h
theorem s_subR (O:CxOk X (tabOf fns Γ fm) c) {f:Expr->Option IE} (hE:∀ e ie,f e = some ie->SndE X (evI Γ ie) e) {a b:Expr} {pos:Pos} {ie:IE} (h:cSub f a b = some ie):SndE X (evI Γ ie) (.Subscript a b pos):=by
 unfold cSub at h
 split at h
 ·rename_i lo hi st p
  cases st with
  | none=>
   dsimp only at h
   split at h
   ·rename_i a' lo' hi' ha hlo hhi
    cases h
    first | (refine offE fun ρ=>?_; rw [evI]; done) | (rw [show evI Γ (.sl a' lo' hi') = fun ρ=>oSl (evI Γ a' ρ) (evIO Γ lo' ρ) (evIO Γ hi' ρ) by funext ρ; conv=>lhs; unfold evI]; exact s_sl (hE _ _ ha) (s_opt Γ hE hlo) (s_opt Γ hE hhi))
   ·cases h
  | some st=>cases lo with
   | some _=>cases h
   | none=>cases hi with
    | some _=>cases h
    | none=>
     dsimp only at h
     split at h
     ·rename_i a' b' ha hb
      cases h
      first | (refine offE fun ρ=>?_; rw [evI]; done) | (rw [show evI Γ (.rev a' b') = fun ρ=>oRev (evI Γ a' ρ) (evI Γ b' ρ) by funext ρ; conv=>lhs; unfold evI]; exact s_rev (hE _ _ ha) (hE _ _ hb))
     ·cases h
 ·split at h
  ·rename_i hp
   split at h
   ·rename_i a' b' ha hb
    cases h
    first | (refine offE fun ρ=>?_; rw [evI]; done) | (rw [show evI Γ (.ix a' b') = fun ρ=>oIx (evI Γ a' ρ) (evI Γ b' ρ) by funext ρ; conv=>lhs; unfold evI]; exact s_ix O (hE _ _ ha) (hE _ _ hb) hp)
   ·cases h
  ·cases h
theorem s_isiR (O:CxOk X (tabOf fns Γ fm) c) {f:Expr->Option IE} (hE:∀ e ie,f e = some ie->SndE X (evI Γ ie) e) {as:List Expr} {p pos:Pos} {ie:IE} (h:cIsi c f as = some ie):SndE X (evI Γ ie) (.Call (.Name "isinstance" p) as [] pos):=by
 cases as with
 | nil=>cases h
 | cons a as=>cases as with
  | nil=>cases h
  | cons t as=>cases as with
   | cons _ _=>cases h
   | nil=>
    dsimp only [cIsi] at h
    split at h
    ·split at h
     ·rename_i hg
      simp only [Bool.and_eq_true] at hg
      obtain ⟨a',ha,rfl⟩:=mapS h
      first | (refine offE fun ρ=>?_; rw [evI]; done) | (rw [show evI Γ (.isi _ a') = fun ρ=>oIsi _ (evI Γ a' ρ) by funext ρ; conv=>lhs; unfold evI]; exact s_isi O hg.1.1 hg.1.2 hg.2 (hE _ _ ha))
     ·cases h
    ·cases h
theorem s_maxR (O:CxOk X (tabOf fns Γ fm) c) {f:Expr->Option IE} (hE:∀ e ie,f e = some ie->SndE X (evI Γ ie) e) {g:Expr} {as:List Expr} {ks:List Keyword} {pos:Pos} {ie:IE} (h:cMaxd c f g as ks = some ie):SndE X (evI Γ ie) (.Call g as ks pos):=by
 cases g with
 | Name x p=>cases as with
  | nil=>cases h
  | cons a as=>cases as with
   | cons _ _=>cases h
   | nil=>cases ks with
    | nil=>cases h
    | cons k ks=>cases ks with
     | cons _ _=>cases h
     | nil=>
      cases k with
      | mk kn kv kp=>
       dsimp only [cMaxd] at h
       split at h
       ·rename_i hc
        obtain ⟨rfl,rfl,h1,h2⟩:=hc
        split at h
        ·rename_i a' b' ha hb
         cases h
         first | (refine offE fun ρ=>?_; rw [evI]; done) | (rw [show evI Γ (.maxd a' b') = fun ρ=>oMaxd (evI Γ a' ρ) (evI Γ b' ρ) by funext ρ; conv=>lhs; unfold evI]; exact s_maxd O (gl_of O h1) h2 (hE _ _ ha) (hE _ _ hb))
        ·cases h
       ·cases h
 | _=>cases h
theorem s_lrngR (O:CxOk X (tabOf fns Γ fm) c) {f:Expr->Option IE} (hE:∀ e ie,f e = some ie->SndE X (evI Γ ie) e) {x:Str} {as:List Expr} {p pos:Pos} {ie:IE} (h:cLrng c f x as = some ie):SndE X (evI Γ ie) (.Call (.Name x p) as [] pos):=by cases h
theorem s_idxR (O:CxOk X (tabOf fns Γ fm) c) {f:Expr->Option IE} (hE:∀ e ie,f e = some ie->SndE X (evI Γ ie) e) {o:Expr} {m:Str} {ap:Pos} {as:List Expr} {pos:Pos} {ie:IE} (h:cIdx f o m ap as pos = some ie):SndE X (evI Γ ie) (.Call (.Attribute o m ap) as [] pos):=by cases h
theorem s_fnR (O:CxOk X (tabOf fns Γ fm) c) {f:Expr->Option IE} (hE:∀ e ie,f e = some ie->SndE X (evI Γ ie) e) {g:Expr} {as:List Expr} {ks:List Keyword} {pos:Pos} {ie:IE} (h:cFn fns c f g as ks pos = some ie):SndE X (evI Γ ie) (.Call g as ks pos):=by
 cases ks with
 | cons _ _=>exact s_maxR fns Γ O hE h
 | nil=>
  dsimp only [cFn] at h
  split at h
  ·rename_i x p
   split at h
   ·rename_i hx
    subst hx
    exact s_isiR fns Γ O hE h
   ·cases as with
    | cons a es=>
     dsimp only at h
     split at h
     ·rename_i r hr
      cases h
      exact s_lrngR fns Γ O hE hr
     ·exact s_callR fns Γ O hE h
    | nil=>
     dsimp only at h
     split at h
     ·rename_i hg
      split at h
      ·rename_i i hi
       split at h
       ·cases h
       ·cases h
        rw [show evI Γ (.fn i .nil) = fun ρ=>oFn (Γ i) (some []) by funext ρ; rw [evI,evIs]]
        have:=s_fn0 (p:=p) (pos:=pos) O hg
        rw [show (tabOf fns Γ fm).fn x = Γ i from by show (ixOf x fns.fns).bind Γ = _; rw [hi]; rfl] at this
        exact this
      ·cases h
     ·cases h
  ·exact s_idxR fns Γ O hE h
  ·cases h
theorem s_coR (O:CxOk X (tabOf fns Γ fm) c) {fE fT:Cz->Expr->Option IE} (ihE:∀ X c,CxOk X (tabOf fns Γ fm) c->∀ e ie,fE c e = some ie->SndE X (evI Γ ie) e) (ihT:∀ X c,CxOk X (tabOf fns Γ fm) c->∀ e ie,fT c e = some ie->SndT X (evIT Γ ie) e) {elt:Expr} {gs:List Comprehension} {scope:Scope} {pos:Pos} {ie:IE} (h:cCo fns c fE fT elt gs scope pos = some ie):SndE X (evI Γ ie) (.ListComp elt gs scope pos):=by
 cases gs with
 | nil=>cases h
 | cons g gs=>cases gs with
  | cons _ _=>cases h
  | nil=>
   dsimp only [cCo] at h
   split at h
   ·rename_i h0
    split at h
    ·rename_i hn
     rw [Bool.and_eq_true] at hn
     split at h
     ·rename_i t it ts el ht hit hts hel
      cases h
      rw [show evI Γ (.comp _ (capOf c _) t it ts el) = fun ρ=>oComp _ (evII Γ it ρ) (eltI t (evITs Γ ts) (evI Γ el) (capRo ρ (capOf c _))) by funext ρ; conv=>lhs; unfold evI]
      have CO:=cx_comp O hn.2
      cases g with
      | mk tg iter ifs as=>
       subst h0
       exact s_comp O hn.2 hn.1 (s_itI fns Γ O (ihE X c O) hit) ht (fun C s H ex=>s_tests Γ (ihT _ _ (CO C s H ex)) hts) (fun C s H ex=>ihE _ _ (CO C s H ex) _ _ hel)
     ·cases h
    ·cases h
   ·cases h
end
section
variable (fns:Nms) (Γ:Nat->Option Fn) {fm:Str->Option (PySem.W.Frag->Sp)}
theorem snd_both:∀ n:Nat,(∀ X c,CxOk X (tabOf fns Γ fm) c->∀ e ie,cE fns n c e = some ie->SndE X (evI Γ ie) e)/\(∀ X c,CxOk X (tabOf fns Γ fm) c->∀ e ie,cT fns n c e = some ie->SndT X (evIT Γ ie) e)
 | 0=>⟨fun X c O e ie h=>by (unfold cE at h; cases h),fun X c O e ie h=>by (unfold cT at h; cases h)⟩
 | n + 1=>by
  obtain ⟨ihE,ihT⟩:=snd_both n
  refine ⟨fun X c O e ie h=>?_,fun X c O e ie h=>?_⟩
  ·have hE:=ihE X c O
   have hT:=ihT X c O
   cases e with
   | Name x p=>
    dsimp only [cE] at h
    split at h
    ·split at h
     rotate_left
     ·cases h
     obtain ⟨i,hi,rfl⟩:=mapS h
     have e:evI Γ (.var i) = fun ρ=>oVar i ρ[i]?:=by funext ρ; unfold evI; rfl
     rw [e]; exact s_var O hi p
    ·split at h
     ·rename_i hg
      obtain ⟨d,hd,rfl⟩:=mapS h
      have e:evI Γ (.lit d) = fun _=>some (.sh,d):=by funext ρ; unfold evI; rfl
      rw [e]; exact s_cst O hg hd p
     ·cases h
   | Constant v k pos=>exact s_cstR Γ h
   | BinOp a op b pos=>
    dsimp only [cE] at h
    split at h
    ·rename_i a' b' ha hb
     cases h
     first | (refine offE fun ρ=>?_; rw [evI]; done) | (rw [show evI Γ (.bin _ a' b') = fun ρ=>oBin _ (evI Γ a' ρ) (evI Γ b' ρ) by funext ρ; conv=>lhs; unfold evI]; exact s_bin (hE _ _ ha) (hE _ _ hb))
    ·cases h
   | Compare a ops bs pos=>
    rcases cCmp_ok (show cCmp (cE fns n c) a ops bs = some ie from h) with ⟨op,b,a',b',rfl,rfl,hm,ha,hb,rfl⟩ | ⟨op,op',b,d,a',b',d',rfl,rfl,hm,ha,hb,hd,rfl⟩
    ·first | (refine offE fun ρ=>?_; rw [evI]; done) | (rw [show evI Γ (.cmp _ a' b') = fun ρ=>bV (oCmp _ (evI Γ a' ρ) (evI Γ b' ρ)) by funext ρ; conv=>lhs; unfold evI]; exact s_cmp O hm (hE _ _ ha) (hE _ _ hb))
    ·first | (refine offE fun ρ=>?_; rw [evI]; done) | (rw [show evI Γ (.chain _ _ a' b' d') = fun ρ=>bV (oChain _ _ (evI Γ a' ρ) (evI Γ b' ρ) (evI Γ d' ρ)) by funext ρ; conv=>lhs; unfold evI]; exact s_chain O hm (hE _ _ ha) (hE _ _ hb) (hE _ _ hd))
   | UnaryOp op a pos=>cases op with
    | USub=>
     obtain ⟨a',ha,rfl⟩:=mapS (show (cE fns n c a).map .neg = some ie from h)
     first | (refine offE fun ρ=>?_; rw [evI]; done) | (rw [show evI Γ (.neg a') = fun ρ=>oNeg (evI Γ a' ρ) by funext ρ; conv=>lhs; unfold evI]; exact s_neg (hE _ _ ha))
    | Not=>
     obtain ⟨a',ha,rfl⟩:=mapS (show (cE fns n c a).map .not = some ie from h)
     first | (refine offE fun ρ=>?_; rw [evI]; done) | (rw [show evI Γ (.not a') = fun ρ=>bV ((oTru (evI Γ a' ρ)).map (!·)) by funext ρ; conv=>lhs; unfold evI]; exact s_not (hE _ _ ha))
    | _=>cases h
   | BoolOp op es pos=>
    obtain ⟨a',ha,rfl⟩:=mapS (show (cList (cE fns n c) es).map (.bool op) = some ie from h)
    first | (refine offE fun ρ=>?_; rw [evI]; done) | (rw [show evI Γ (.bool _ a') = evIB Γ _ a' by funext ρ; conv=>lhs; unfold evI]; exact s_boolE Γ hE _ _ ha)
   | IfExp t a b pos=>
    dsimp only [cE] at h
    split at h
    ·rename_i t' a' b' ht ha hb
     cases h
     first | (refine offE fun ρ=>?_; rw [evI]; done) | (rw [show evI Γ (.ifx t' a' b') = fun ρ=>oIf (evIT Γ t' ρ) (evI Γ a' ρ) (evI Γ b' ρ) by funext ρ; conv=>lhs; unfold evI]; exact s_if (hT _ _ ht) (hE _ _ ha) (hE _ _ hb))
    ·cases h
   | List es p=>
    obtain ⟨a',ha,rfl⟩:=mapS (show (cArgs (cE fns n c) es).map (.lst (fns.kL p)) = some ie from h)
    first | (refine offE fun ρ=>?_; rw [evI]; done) | (rw [show evI Γ (.lst _ a') = fun ρ=>oLst _ (evIs Γ a' ρ) by funext ρ; conv=>lhs; unfold evI]; exact s_lst (s_argsL Γ hE ha).1)
   | Tuple es k p=>
    obtain ⟨a',ha,rfl⟩:=mapS (show (cArgs (cE fns n c) es).map (.tup (fns.kT p)) = some ie from h)
    first | (refine offE fun ρ=>?_; rw [evI]; done) | (rw [show evI Γ (.tup _ a') = fun ρ=>oTup _ (evIs Γ a' ρ) by funext ρ; conv=>lhs; unfold evI]; exact s_tup (s_argsL Γ hE ha).1)
   | Dict ks vs p=>cases ks with
    | cons _ _=>cases h
    | nil=>cases vs with
     | cons _ _=>cases h
     | nil=>
      cases h
      first | (refine offE fun ρ=>?_; rw [evI]; done) | (rw [show ∀ t,evI Γ (.dnew t) = fun _=>oDnew t by intro t; funext ρ; unfold evI; rfl]; exact s_dnew)
   | Subscript a b pos=>exact s_subR fns Γ O hE h
   | Call g as ks pos=>exact s_fnR fns Γ O hE h
   | ListComp elt gs scope pos=>exact s_coR fns Γ O ihE ihT h
   | _=>cases h
  ·have hE:=ihE X c O
   have hT:=ihT X c O
   cases e with
   | Compare a ops bs pos=>
    rcases cCmp_ok (show cCmp (cE fns n c) a ops bs = some ie from h) with ⟨op,b,a',b',rfl,rfl,hm,ha,hb,rfl⟩ | ⟨op,op',b,d,a',b',d',rfl,rfl,hm,ha,hb,hd,rfl⟩
    ·first | (refine offT fun ρ=>?_; rw [evIT]; done) | (rw [show evIT Γ (.cmp _ a' b') = fun ρ=>oCmp _ (evI Γ a' ρ) (evI Γ b' ρ) by funext ρ; conv=>lhs; unfold evIT]; exact t_cmp O hm (hE _ _ ha) (hE _ _ hb))
    ·first | (refine offT fun ρ=>?_; rw [evIT]; done) | (rw [show evIT Γ (.chain _ _ a' b' d') = fun ρ=>oChain _ _ (evI Γ a' ρ) (evI Γ b' ρ) (evI Γ d' ρ) by funext ρ; conv=>lhs; unfold evIT]; exact t_chain O hm (hE _ _ ha) (hE _ _ hb) (hE _ _ hd))
   | UnaryOp op a pos=>cases op with
    | Not=>
     obtain ⟨a',ha,rfl⟩:=mapS (show (cT fns n c a).map .not = some ie from h)
     first | (refine offT fun ρ=>?_; rw [evIT]; done) | (rw [show evIT Γ (.not a') = fun ρ=>(evIT Γ a' ρ).map (!·) by funext ρ; conv=>lhs; unfold evIT]; exact t_not (hT _ _ ha))
    | _=>cases h
   | BoolOp op es pos=>
    obtain ⟨a',ha,rfl⟩:=mapS (show (cList (cT fns n c) es).map (.bool op) = some ie from h)
    first | (refine offT fun ρ=>?_; rw [evIT]; done) | (rw [show evIT Γ (.bool _ a') = evIBT Γ _ a' by funext ρ; conv=>lhs; unfold evIT]; exact fun ρ b h g σ H Q se q=>fun pins s I=>w_boolT Γ hT _ _ ha ρ b h g σ H Q se q _ pins s I)
   | Name x p=>
    obtain ⟨h1,h2⟩:=onlyT_ok (show onlyT (cE fns n c _) = some ie from h)
    rw [truK_ok h2]; exact t_tru (hE _ _ h1) (fun _=>rfl)
   | Call g as ks p=>
    obtain ⟨h1,h2⟩:=onlyT_ok (show onlyT (cE fns n c _) = some ie from h)
    rw [truK_ok h2]; exact t_tru (hE _ _ h1) (fun _=>rfl)
   | Subscript a b p=>
    obtain ⟨h1,h2⟩:=onlyT_ok (show onlyT (cE fns n c _) = some ie from h)
    rw [truK_ok h2]; exact t_tru (hE _ _ h1) (fun _=>rfl)
   | _=>cases h
end
end J
namespace J
open PySem PySem.Spec L2
structure Evo (g:Gh) (H:Hp) (g':Gh) (H':Hp) (F:Pr):Prop where
 keep:∀ b o,(∀ i,g b ≠ some (some i))->H b = some o->H' b = some o
 out:∀ b,g b = some none ↔ g' b = some none
 new:∀ b i,g' b = some (some i)->(∃ j,g b = some (some j))\/H b = none
 tmp:∀ b,F b->g' b = none/\((∃ j,g b = some (some j))\/H b = none)
 dom:∀ b o,H b = some o->∃ o',H' b = some o'
section
variable {K:PySem.W.Frag} {H H' H1 H2:Hp} {g g' g1 g2:Gh} {F F1 F2:Pr}
theorem Evo.refl (g:Gh) (H:Hp):Evo g H g H (fun _=>False):=⟨fun _ _ _ e=>e,fun _=>Iff.rfl,fun b i e=>.inl ⟨i,e⟩,fun _ z=>z.elim,fun _ o e=>⟨o,e⟩⟩
theorem Evo.froz (e:Evo g H g' H' F) {b:Addr} {o:HO} (h:H b = some o) (n:g b = none):g' b = none/\¬ F b:=by
 refine ⟨?_,fun z=>?_⟩
 ·cases q:g' b with
  | none=>rfl
  | some x=>
   cases x with
   | none=>have:=(e.out b).mpr q; rw [n] at this; cases this
   | some i=>
    rcases e.new b i q with ⟨j,q⟩ | q
    ·rw [n] at q; cases q
    ·rw [h] at q; cases q
 ·rcases (e.tmp b z).2 with ⟨j,q⟩ | q
  ·rw [n] at q; cases q
  ·rw [h] at q; cases q
open Classical in
noncomputable def Gh.minus (g:Gh) (F:Pr):Gh:=fun b=>if F b then none else g b
theorem minus_at {b:Addr} (h:F b):g.minus F b = none:=by unfold Gh.minus; rw [if_pos h]
theorem minus_ne {b:Addr} (h:¬ F b):g.minus F b = g b:=by unfold Gh.minus; rw [if_neg h]
theorem minus_some {b:Addr} {x:Option Nat} (h:g.minus F b = some x):g b = some x/\¬ F b:=by
 unfold Gh.minus at h
 split at h
 ·cases h
 ·rename_i n; exact ⟨h,n⟩
theorem plus_ne {b:Addr} (h:¬ F b):g.plus F b = g b:=by unfold Gh.plus; rw [if_neg h]
theorem Evo.trans (a:Evo g H g1 H1 F1) (b:Evo (g1.plus F1) H1 g2 H2 F2):Evo g H (g2.minus F1) H2 (fun b=>F1 b\/F2 b):=by
 have of2:∀ c,¬ F1 c->∀ j,(g1.plus F1) c = some (some j)->(∃ k,g c = some (some k))\/H c = none:=fun c n j e=>by
  rw [plus_ne n] at e
  exact a.new c j e
 have h1:∀ c,H1 c = none->H c = none:=fun c q=>by
  cases e:H c with
  | none=>rfl
  | some o=>obtain ⟨o',q'⟩:=a.dom c o e; rw [q] at q'; cases q'
 refine ⟨fun c o n e=>?_,fun c=>⟨fun q=>?_,fun q=>?_⟩,fun c i q=>?_,fun c z=>?_,fun c o e=>?_⟩
 ·refine b.keep c o (fun i q=>?_) (a.keep c o n e)
  have nf:=plus_sl q
  rcases a.new c i nf with ⟨j,q⟩ | q
  ·exact n j q
  ·rw [e] at q; cases q
 ·have nF:¬ F1 c:=fun z=>by
   have:=(a.tmp c z).1
   rw [(a.out c).mp q] at this; cases this
  rw [minus_ne nF]
  exact (b.out c).mp (by rw [plus_ne nF]; exact (a.out c).mp q)
 ·obtain ⟨q1,nF⟩:=minus_some q
  have:=(b.out c).mpr q1
  rw [plus_ne nF] at this
  exact (a.out c).mpr this
 ·obtain ⟨q1,nF⟩:=minus_some q
  rcases b.new c i q1 with ⟨j,q⟩ | q
  ·exact of2 c nF j q
  ·exact .inr (h1 c q)
 ·rcases z with z | z
  ·exact ⟨minus_at z,(a.tmp c z).2⟩
  ·obtain ⟨t1,t2⟩:=b.tmp c z
   by_cases zF:F1 c
   ·exact ⟨minus_at zF,(a.tmp c zF).2⟩
   ·refine ⟨by rw [minus_ne zF]; exact t1,?_⟩
    rcases t2 with ⟨j,q⟩ | q
    ·exact of2 c zF j q
    ·exact .inr (h1 c q)
 ·obtain ⟨o1,e1⟩:=a.dom c o e
  exact b.dom c o1 e1
theorem VR1.evo {kd:Kd} {d:D} {v:V} (hb:isBo kd = false) (b:Evo (g1.plus F1) H1 g2 H2 F2) (h:VR1 K H1 g1 F1 kd d v F1):VR1 K H2 (g2.minus F1) (fun c=>F1 c\/F2 c) kd d v F1:=by
 have k1:∀ c o,(¬ Sx g1 F1 c\/F1 c)->H1 c = some o->H2 c = some o:=fun c o n e=>by
  refine b.keep c o (fun i q=>?_) e
  rcases n with n | n
  ·exact n (.inl (by rw [plus_sl q]; simp))
  ·rw [plus_at n] at q; cases q
 have k2:∀ c o,H1 c = some o->¬ Sx g1 F1 c->¬ Sx (g2.minus F1) (fun c=>F1 c\/F2 c) c:=fun c o e n z=>by
  have nF:¬ F1 c:=fun z=>n (.inr z)
  have gn:(g1.plus F1) c = none:=by
   rw [plus_ne nF]
   cases q:g1 c with
   | none=>rfl
   | some x=>exact absurd (.inl (by rw [q]; simp)) n
  obtain ⟨f1,f2⟩:=b.froz e gn
  rcases z with z | z | z
  ·rw [minus_ne nF] at z
   exact z f1
  ·exact nF z
  ·exact f2 z
 cases kd with
 | sh=>exact ⟨h.1,h.2.go fun c o n e=>⟨k1 c o (.inl n) e,k2 c o e n⟩⟩
 | fr k=>exact Tr.go k1 k2 h
 | bo i k=>cases hb
theorem sx_evo (b:Evo (g1.plus F1) H1 g2 H2 F2) (c:Addr):Sx (g2.minus F1) (fun c=>F1 c\/F2 c) c ↔ Sx g2 F2 c:=by
 by_cases h:F1 c
 ·have:g2 c = some none:=(b.out c).mp (plus_at h)
  exact ⟨fun _=>.inl (by rw [this]; simp),fun _=>.inr (.inl h)⟩
 ·refine ⟨fun z=>z.elim (fun z=>.inl (by rw [minus_ne h] at z; exact z)) fun z=>z.elim (fun z=>absurd z h) .inr,fun z=>z.elim (fun z=>.inl (by rw [minus_ne h]; exact z)) fun z=>.inr (.inr z)⟩
theorem plus_evo (b:Evo (g1.plus F1) H1 g2 H2 F2):(g2.minus F1).plus (fun c=>F1 c\/F2 c) = g2.plus F2:=by
 funext c
 by_cases h2:F2 c
 ·rw [plus_at h2,plus_at (.inr h2)]
 ·by_cases h:F1 c
  ·rw [plus_at (.inl h),plus_ne h2]
   exact ((b.out c).mp (plus_at h)).symm
  ·rw [plus_ne h2,plus_ne (fun z=>z.elim h h2),minus_ne h]
theorem VR1.evoR {kd:Kd} {d:D} {v:V} {F:Pr} (b:Evo (g1.plus F1) H1 g2 H2 F2) (h:VR1 K H2 g2 F2 kd d v F):VR1 K H2 (g2.minus F1) (fun c=>F1 c\/F2 c) kd d v F:=by
 have k2:∀ c o,H2 c = some o->¬ Sx g2 F2 c->¬ Sx (g2.minus F1) (fun c=>F1 c\/F2 c) c:=fun c o _ n z=>n ((sx_evo b c).mp z)
 cases kd with
 | sh=>exact ⟨h.1,h.2.go fun c o n e=>⟨e,k2 c o e n⟩⟩
 | fr k=>exact Tr.go (fun _ _ _ e=>e) k2 h
 | bo i k=>
  obtain ⟨h1,F0,h2,h3⟩:=h
  refine ⟨h1,F0,fun c z=>?_,Tr.go (fun _ _ _ e=>e) k2 h3⟩
  rw [minus_ne (fun z1=>?_)]
  ·exact h2 c z
  ·have:=h2 c z
   rw [(b.out c).mp (plus_at z1)] at this
   cases this
theorem VRL.evoR (b:Evo (g1.plus F1) H1 g2 H2 F2):∀ {kds:List KD} {vs:List V} {F:Pr},VRL K H2 g2 F2 kds vs F->VRL K H2 (g2.minus F1) (fun c=>F1 c\/F2 c) kds vs F
 | [],_,_,h=>h
 | (kd,d) :: r,_,_,h=>by
  obtain ⟨y,ys,G1,G2,e,hF,dj,h1,h2⟩:=h
  exact ⟨y,ys,G1,G2,e,hF,dj,h1.evoR b,VRL.evoR b h2⟩
theorem evo_cons {ρ2:Ro} {σ:L2.St} {kd:Kd} {d:D} {v:V} {kds:List KD} {vs:List V} (hb:isBo kd = false) (a:Evo g H g1 H1 F1) (r1:VR1 K H1 g1 F1 kd d v F1) (b:Evo (g1.plus F1) H1 g2 H2 F2) (se:SE K (g2.plus F2) ρ2 σ H2) (r2:VRL K H2 g2 F2 kds vs F2) :
  Evo g H (g2.minus F1) H2 (fun c=>F1 c\/F2 c)/\SE K ((g2.minus F1).plus (fun c=>F1 c\/F2 c)) ρ2 σ H2/\VRL K H2 (g2.minus F1) (fun c=>F1 c\/F2 c) ((kd,d) :: kds) (v :: vs) (fun c=>F1 c\/F2 c):=by
 refine ⟨a.trans b,by rw [plus_evo b]; exact se,v,vs,F1,F2,rfl,fun c=>Iff.rfl,fun c z1 z2=>?_,r1.evo hb b,r2.evoR b⟩
 have:=(b.out c).mp (plus_at z1)
 rw [(b.tmp c z2).1] at this
 cases this
end
noncomputable abbrev MR:=Option (Kd × D × Ro)
noncomputable def SndM (X:Cx) (f:Ro->MR) (e:Expr):Prop:=∀ ρ kd d ρ',f ρ = some (kd,d,ρ')->∀ g σ H Q,SE X.K g ρ σ H->
 (∀ v g' H' F,Evo g H g' H' F->SE X.K (g'.plus F) ρ' σ H'->VR1 X.K H' g' F kd d v F->Q v H')->wE X e σ H Q
noncomputable def SndAM (X:Cx) (f:Ro->Option (List KD × Ro)) (es:List Expr):Prop:=∀ ρ kds ρ',f ρ = some (kds,ρ')->∀ g σ H Q,SE X.K g ρ σ H->
 (∀ vs g' H' F,Evo g H g' H' F->SE X.K (g'.plus F) ρ' σ H'->VRL X.K H' g' F kds vs F->Q vs H')->wA X es σ H Q
noncomputable def SndTM (X:Cx) (f:Ro->Option (Bool × Ro)) (e:Expr):Prop:=∀ ρ b ρ',f ρ = some (b,ρ')->∀ g σ H Q,SE X.K g ρ σ H->
 (∀ g' H',Evo g H g' H' (fun _=>False)->SE X.K g' ρ' σ H'->Q b H')->wT X e σ H Q
section
variable {X:Cx}
theorem evo_same {g:Gh} {H H':Hp} {F:Pr} (s:Same H H') (hF:∀ b,F b->H b = none) (hg:∀ b,F b->g b = none):Evo g H g H' F:=
 ⟨fun b o _ e=>s b o e,fun _=>Iff.rfl,fun b i e=>.inl ⟨i,e⟩,fun b z=>⟨hg b z,.inr (hF b z)⟩,fun b o e=>⟨o,s b o e⟩⟩
theorem mu_none {g:Gh} {H:Hp} (m:MuOk H (Sg g)) {b:Addr} (h:H b = none):g b = none:=by
 cases e:g b with
 | none=>rfl
 | some x=>obtain ⟨o,q,_⟩:=m b (by rw [Sg,e]; simp); rw [h] at q; cases q
theorem SndE.m {f:Ro->Option KD} {e:Expr} (h:SndE X f e):SndM X (fun ρ=>(f ρ).map fun p=>(p.1,p.2,ρ)) e:=by
 intro ρ kd d ρ' hr g σ H Q se q
 dsimp only at hr
 cases hf:f ρ with
 | none=>rw [hf] at hr; cases hr
 | some p=>
  rw [hf] at hr
  cases hr
  refine h ρ p.1 p.2 hf g σ H Q se fun v H' s ⟨F,h1,h2⟩=>?_
  exact q v g H' F (evo_same s h1 fun b z=>mu_none se.mu (h1 b z)) (se.plus s h1 h2.dom) h2
theorem SndT.m {f:Ro->Option Bool} {e:Expr} (h:SndT X f e):SndTM X (fun ρ=>(f ρ).map fun p=>(p,ρ)) e:=by
 intro ρ b ρ' hr g σ H Q se q
 dsimp only at hr
 cases hf:f ρ with
 | none=>rw [hf] at hr; cases hr
 | some p=>
  rw [hf] at hr
  cases hr
  exact h ρ b hf g σ H Q se fun H' s=>q g H' (evo_same s (fun _ z=>z.elim) fun _ z=>z.elim) (se.same s)
noncomputable def imK (kd:Kd) (d:D):Kd:=match kd with
 | .bo i k=>if imD d = true then .sh else .bo i k
 | k=>k
theorem VR1.im {K:PySem.W.Frag} {H:Hp} {g:Gh} {F:Pr} {kd:Kd} {d:D} {v:V} (m:MuOk H (Sg (g.plus F))) (h:VR1 K H g F kd d v F):VR1 K H g F (imK kd d) d v F:=by
 cases kd with
 | sh=>exact h
 | fr k=>exact h
 | bo i k=>
  unfold imK
  dsimp only
  split
  ·rename_i hi
   refine ⟨h.1,h.rd.im (fun b z=>m b ((plus_S b).mpr z)) hi⟩
  ·exact h
noncomputable def oConsM (a:MR) (r:Ro->Option (List KD × Ro)):Option (List KD × Ro):=match a with
 | some (kd,d,ρ1)=>if isBo (imK kd d) = true then none else (match r ρ1 with | some (kds,ρ2)=>some ((imK kd d,d) :: kds,ρ2) | none=>none)
 | none=>none
theorem s_consM {fa:Ro->MR} {fr:Ro->Option (List KD × Ro)} {e:Expr} {es:List Expr} (hn:noStar e = true) (ha:SndM X fa e) (hr:SndAM X fr es):SndAM X (fun ρ=>oConsM (fa ρ) fr) (e :: es):=by
 intro ρ kds ρ' h g σ H Q se q
 dsimp only [oConsM] at h
 split at h
 ·rename_i kd d ρ1 e1
  split at h
  ·cases h
  ·rename_i hb
   split at h
   ·rename_i kds' ρ2 e2
    cases h
    refine pa_le (pa_cons pe_w pa_w (star_of hn)) (ha ρ kd d ρ1 e1 g σ H _ se fun v g1 H1 F1 ev1 se1 r1=>hr ρ1 kds' ρ' e2 (g1.plus F1) σ H1 _ se1 fun vs g2 H2 F2 ev2 se2 r2=>?_)
    obtain ⟨c1,c2,c3⟩:=evo_cons (by simpa using hb) ev1 (r1.im se1.mu) ev2 se2 r2
    exact q (v :: vs) _ H2 _ c1 c2 c3
   ·cases h
 ·cases h
noncomputable def oFinM (a:MR) (r:Ro->Option (List KD)):Option (List KD × Ro):=match a with
 | some (kd,d,ρ1)=>(match r ρ1 with | some kds=>some ((kd,d) :: kds,ρ1) | none=>none)
 | none=>none
theorem evo_fin {K:PySem.W.Frag} {H H1 H2:Hp} {g g1:Gh} {F1:Pr} {ρ1:Ro} {σ:L2.St} {kd:Kd} {d:D} {v:V} {kds:List KD} {vs:List V} (a:Evo g H g1 H1 F1) (se:SE K (g1.plus F1) ρ1 σ H1) (r1:VR1 K H1 g1 F1 kd d v F1) (s:Same H1 H2) (r2:VRs K (g1.plus F1) H1 H2 kds vs) :
  ∃ F,Evo g H g1 H2 F/\SE K (g1.plus F) ρ1 σ H2/\VRL K H2 g1 F ((kd,d) :: kds) (v :: vs) F:=by
 obtain ⟨F2,b1,b2⟩:=r2
 have hd:∀ c,F2 c->g1 c = none/\¬ F1 c:=fun c z=>by
  have:=mu_none se.mu (b1 c z)
  by_cases h:F1 c
  ·rw [plus_at h] at this; cases this
  ·rw [plus_ne h] at this; exact ⟨this,h⟩
 have h1:∀ c,H1 c = none->H c = none:=fun c q=>by
  cases e:H c with
  | none=>rfl
  | some o=>obtain ⟨o',q'⟩:=a.dom c o e; rw [q] at q'; cases q'
 refine ⟨fun c=>F1 c\/F2 c,⟨fun c o n e=>s c o (a.keep c o n e),a.out,a.new,fun c z=>z.elim (a.tmp c) fun z=>⟨(hd c z).1,.inr (h1 c (b1 c z))⟩,fun c o e=>let ⟨o',q⟩:=a.dom c o e; ⟨o',s c o' q⟩⟩,?_,v,vs,F1,F2,rfl,fun c=>Iff.rfl,fun c z1 z2=>(hd c z2).2 z1,?_,b2.unplus⟩
 ·rw [<- plus_plus]
  exact se.plus s b1 b2.dom
 ·exact r1.go s fun c o e z=>z.elim id fun z=>by rw [b1 c z] at e; cases e
theorem s_finM {fa:Ro->MR} {fr:Ro->Option (List KD)} {e:Expr} {es:List Expr} (hn:noStar e = true) (ha:SndM X fa e) (hr:SndA X fr es):SndAM X (fun ρ=>oFinM (fa ρ) fr) (e :: es):=by
 intro ρ kds ρ' h g σ H Q se q
 dsimp only [oFinM] at h
 split at h
 ·rename_i kd d ρ1 e1
  split at h
  ·rename_i kds' e2
   cases h
   refine pa_le (pa_cons pe_w pa_w (star_of hn)) (ha ρ kd d ρ' e1 g σ H _ se fun v g1 H1 F1 ev1 se1 r1=>hr ρ' kds' e2 (g1.plus F1) σ H1 _ se1 fun vs H2 s2 r2=>?_)
   obtain ⟨F,c1,c2,c3⟩:=evo_fin ev1 se1 r1 s2 r2
   exact q (v :: vs) g1 H2 F c1 c2 c3
  ·cases h
 ·cases h
open Classical in
noncomputable def offF (H:Hp) (F:Pr):Hp:=fun b=>if F b then none else H b
theorem off_same {H:Hp} {F:Pr}:Same (offF H F) H:=fun b o e=>by
 unfold offF at e
 split at e
 ·cases e
 ·exact e
theorem off_mu {K:PySem.W.Frag} {g:Gh} {H:Hp} {F:Pr} {ρ:Ro} {σ:L2.St} (se:SE K (g.plus F) ρ σ H) (hg:∀ b,F b->g b = none):MuOk (offF H F) (Sg g):=fun b z=>by
 have nF:¬ F b:=fun z2=>z (hg b z2)
 obtain ⟨o,e,n⟩:=se.mu b ((plus_S b).mpr (.inl z))
 exact ⟨o,by unfold offF; rw [if_neg nF]; exact e,n⟩
theorem evo_op {K:PySem.W.Frag} {g g1:Gh} {H H1 H2:Hp} {F F2:Pr} {ρ1:Ro} {σ:L2.St} (a:Evo g H g1 H1 F) (se:SE K (g1.plus F) ρ1 σ H1) (s:Same H1 H2) (h1:∀ b,F2 b->offF H1 F b = none) (dm:∀ b,F2 b->∃ o,H2 b = some o/\∀ xs,o ≠ .tup xs):Evo g H g1 H2 F2/\SE K (g1.plus F2) ρ1 σ H2:=by
 have hF:∀ b,F2 b->F b\/H1 b = none:=fun b z=>by
  have:=h1 b z
  unfold offF at this
  split at this
  ·rename_i q; exact .inl q
  ·exact .inr this
 have hn:∀ c,H1 c = none->H c = none:=fun c q=>by
  cases e:H c with
  | none=>rfl
  | some o=>obtain ⟨o',q'⟩:=a.dom c o e; rw [q] at q'; cases q'
 have hg2:∀ b,F2 b->g1 b = none:=fun b z=>by
  rcases hF b z with q | q
  ·exact (a.tmp b q).1
  ·have:=mu_none se.mu q
   by_cases h:F b
   ·rw [plus_at h] at this; cases this
   ·rw [plus_ne h] at this; exact this
 refine ⟨⟨fun c o n e=>s c o (a.keep c o n e),a.out,a.new,fun c z=>⟨hg2 c z,(hF c z).elim (fun q=>(a.tmp c q).2) fun q=>.inr (hn c q)⟩,fun c o e=>let ⟨o',q⟩:=a.dom c o e; ⟨o',s c o' q⟩⟩,?_⟩
 refine ⟨fun i sl e=>?_,fun b z=>?_,se.len⟩
 ·obtain ⟨v,F0,e1,e2,e3⟩:=se.slot i sl e
  refine ⟨v,F0,e1,fun b z=>?_,e3.go (fun b o _ e=>s b o e) fun b o e n z=>?_⟩
  ·have:=plus_sl (e2 b z)
   exact sl_plus this fun z2=>by rw [hg2 b z2] at this; cases this
  ·rcases (plus_S b).mp z with z | z
   ·exact n ((plus_S b).mpr (.inl z))
   ·rcases hF b z with q | q
    ·exact n ((plus_S b).mpr (.inr q))
    ·rw [q] at e; cases e
 ·rcases (plus_S b).mp z with z | z
  ·obtain ⟨o,e,n⟩:=se.mu b ((plus_S b).mpr (.inl z))
   exact ⟨o,s b o e,n⟩
  ·exact dm b z
theorem VRL.off {K:PySem.W.Frag} {g:Gh} {H:Hp} {F:Pr} {kds:List KD} {vs:List V} (h:VRL K H g F kds vs F):VRs K g (offF H F) H kds vs:=⟨F,fun b z=>by unfold offF; rw [if_pos z],h⟩
theorem StrictOk.m {f:List KD->Option KD} {es:List Expr} {node:Expr} {fa:Ro->Option (List KD × Ro)} (h:StrictOk X f es node) (ha:SndAM X fa es):SndM X (fun ρ=>(fa ρ).bind fun p=>(f p.1).map fun q=>(q.1,q.2,p.2)) node:=by
 intro ρ kd d ρ' hd g σ H Q se q
 dsimp only at hd
 cases e:fa ρ with
 | none=>rw [e] at hd; cases hd
 | some p=>
  obtain ⟨kds,ρ1⟩:=p
  rw [e] at hd
  dsimp only [Option.bind_some] at hd
  cases e2:f kds with
  | none=>rw [e2] at hd; cases hd
  | some r=>
   rw [e2] at hd
   cases hd
   refine h kds r.1 r.2 e2 σ H Q (ha ρ kds _ e g σ H _ se fun vs g1 H1 F ev se1 r1=>⟨g1,offF H1 F,off_mu se1 fun b z=>(ev.tmp b z).1,off_same,r1.off,fun v H2 s2 r2=>?_⟩)
   obtain ⟨F2,b1,b2⟩:=r2
   obtain ⟨c1,c2⟩:=evo_op ev se1 s2 b1 b2.dom
   exact q v g1 H2 F2 c1 c2 b2
end
end J
namespace J
open PySem PySem.Spec L2
noncomputable abbrev KV2:=Ow × D
noncomputable abbrev Fm:=List KV2->Option (Kd × D × List (Option KV2))
noncomputable def slP (p:KV2):Option Sl:=some ⟨false,p.1,p.2⟩
noncomputable def slQ (p:Option KV2):Option Sl:=p.map fun p=>⟨false,p.1,p.2⟩
noncomputable def spM (K:PySem.W.Frag) (φ:Fm):Sp:=fun vs H Q _=>∃ ks g kd d outs,SE K g (ks.map slP) (vs.map some) H/\φ ks = some (kd,d,outs)/\
 ∀ v g' H' F,Evo g H g' H' F->SE K (g'.plus F) (outs.map slQ) (vs.map some) H'->VR1 K H' g' F kd d v F->Q v H'
inductive RA where
 | ref (i:Nat) | val (kd:Kd) (d:D)
section
variable {K:PySem.W.Frag} {H H1 H2:Hp} {g g1 g2:Gh} {F1 F2:Pr} {σ:L2.St}
theorem plus_no {g:Gh} {F:Pr} (h:∀ b,¬ F b):g.plus F = g:=by
 funext b
 exact plus_ne (h b)
end
section
variable {X:Cx}
noncomputable def oRefA (i:Nat) (o:Option (Option Sl)) (r:Option (List RA × Ro)):Option (List RA × Ro):=match o,r with
 | some (some _),some (ras,ρ')=>some (.ref i :: ras,ρ')
 | _,_=>none
noncomputable def oValA (a:MR) (r:Ro->Option (List RA × Ro)):Option (List RA × Ro):=match a with
 | some (kd,d,ρ1)=>if isBo (imK kd d) = true then none else (match r ρ1 with | some (ras,ρ2)=>some (.val (imK kd d) d :: ras,ρ2) | none=>none)
 | none=>none
end
noncomputable def handed (ρ:Ro):List RA->Option (List KV2)
 | []=>some []
 | .ref i :: r=>match ρ[i]?,handed ρ r with
  | some (some ⟨false,k,d⟩),some ks=>some ((k,d) :: ks)
  | _,_=>none
 | .val kd d :: r=>if isBo kd = true then none else (handed ρ r).map ((.fz,d) :: ·)
noncomputable def taken:List RA->Ro->Ro->Ro
 | .ref i :: r,o :: os,ρ=>taken r os (ρ.set i o)
 | .val _ _ :: r,_ :: os,ρ=>taken r os ρ
 | _,_,ρ=>ρ
section
end
end J
namespace J
open PySem PySem.Spec L2
section
variable {K:PySem.W.Frag} {H H1 H2:Hp} {g g1:Gh} {F:Pr} {σ:L2.St} {ρ:Ro}
end
end J
namespace J
open PySem PySem.Spec L2
noncomputable def clr (ps:List (Nat × D)) (ρ:Ro):Ro:=ps.foldl (fun ρ p=>ρ.set p.1 none) ρ
noncomputable abbrev IR:=Option (List Nat × List D × Ro)
noncomputable def SndIM (X:Cx) (f:Ro->IR) (tg iter:Expr):Prop:=∀ ρ bs ds ρ1,f ρ = some (bs,ds,ρ1)->∀ g σ H R,SE X.K g ρ σ H->
 (∀ J s g1 H1,Evo g H g1 H1 (fun _=>False)->SE X.K g1 ρ1 σ H1->ItOk X.K J s ds->s.P X.K g1 H1->s.from g1 H1 bs->R J H1)->wI X tg iter σ H R
noncomputable def oIp (a:Option (List Nat × List D)) (ρ:Ro):IR:=match a with | some (bs,ds)=>some (bs,ds,ρ) | none=>none
theorem SndI.m {X:Cx} {f:Ro->Option (List Nat × List D)} {tg iter:Expr} (h:SndI X f tg iter):SndIM X (fun ρ=>oIp (f ρ) ρ) tg iter:=by
 intro ρ bs ds ρ1 hf g σ H R se q
 dsimp only [oIp] at hf
 split at hf
 ·rename_i bs' ds' e
  cases hf
  refine h ρ bs ds e g σ H R se fun J s H1 s1 jt sp sf=>q J s g H1 (evo_same s1 (fun _ z=>z.elim) fun _ z=>z.elim) (se.same s1) jt sp sf.from_H
 ·cases hf
noncomputable def capR (cap:List (Option Nat)):List RA:=cap.map fun o=>match o with | some i=>.ref i | none=>.val .sh .non
theorem setV_ne {K:PySem.W.Frag} {H:Hp} {S:Pr}:∀ {ps:List (Nat × D)} {vs:List (Nat × V)} {σ:L2.St} {j:Nat},RpP K H S ps vs->(∀ p ∈ ps,p.1 ≠ j)->(setV vs σ)[j]? = σ[j]?
 | [],vs,σ,j,h,_=>by rw [(show vs = [] from h)]; rfl
 | (i,d) :: ps,vs,σ,j,h,hn=>by
  obtain ⟨v,ws,rfl,_,h2⟩:=h
  show (setV ws (σ.set i (some v)))[j]? = _
  rw [setV_ne h2 fun p hp=>hn p (List.mem_cons_of_mem _ hp),List.getElem?_set_ne (hn (i,d) List.mem_cons_self)]
section
variable {X:Cx} {Γ:Tab} {c:Cz}
theorem Evo.drop {g g':Gh} {H H':Hp} {F F2:Pr} (a:Evo g H g' H' F) (h:∀ b,F2 b->F b):Evo g H g' H' F2:=⟨a.keep,a.out,a.new,fun b z=>a.tmp b (h b z),a.dom⟩
theorem SE.drop {K:PySem.W.Frag} {g:Gh} {H:Hp} {F F2:Pr} {ρ:Ro} {σ:L2.St} (se:SE K (g.plus F) ρ σ H) (h:∀ b,F2 b->F b) (hg:∀ b,F b->g b = none):SE K (g.plus F2) ρ σ H:=by
 have sub:∀ b,Sg (g.plus F2) b->Sg (g.plus F) b:=fun b z=>(plus_S b).mpr (((plus_S b).mp z).imp id (h b))
 refine ⟨fun i sl e=>?_,fun b z=>se.mu b (sub b z),se.len⟩
 obtain ⟨v,F0,e1,e2,e3⟩:=se.slot i sl e
 refine ⟨v,F0,e1,fun b z=>?_,e3.go (fun _ _ _ e=>e) fun b o _ n z=>n (sub b z)⟩
 have q:=plus_sl (e2 b z)
 exact sl_plus q fun z2=>by rw [hg b (h b z2)] at q; cases q
end
end J
namespace J
open PySem PySem.Spec L2
noncomputable def w2 (X:Cx) (a b:Expr) (σ:L2.St) (H:Hp) (R:List V->Hp->Prop):Prop:=wE X a σ H fun x H1=>wE X b σ H1 fun y H2=>R [x,y] H2
noncomputable def Snd2M (X:Cx) (f:Ro->Option (List KD × Ro)) (a b:Expr):Prop:=∀ ρ kds ρ',f ρ = some (kds,ρ')->∀ g σ H Q,SE X.K g ρ σ H->
 (∀ vs g' H' F,Evo g H g' H' F->SE X.K (g'.plus F) ρ' σ H'->VRL X.K H' g' F kds vs F->Q vs H')->w2 X a b σ H Q
section
variable {X:Cx} {Γ:Tab} {c:Cz}
theorem VR.one {K:PySem.W.Frag} {g:Gh} {H0 H:Hp} {kd:Kd} {d:D} {v:V} (h:VR K g H0 H kd d v):VRs K g H0 H [(kd,d)] [v]:=by
 obtain ⟨F,h1,h2⟩:=h
 exact ⟨F,h1,v,[],F,fun _=>False,rfl,fun b=>⟨.inl,fun z=>z.elim id fun z=>z.elim⟩,fun _ _ z=>z,h2,rfl,fun _ z=>z⟩
theorem s_2fin {fa:Ro->MR} {fb:Ro->Option KD} {a b:Expr} (ha:SndM X fa a) (hb:SndE X fb b):Snd2M X (fun ρ=>oFinM (fa ρ) fun ρ=>oCons (fb ρ) (some [])) a b:=by
 intro ρ kds ρ' h g σ H Q se q
 dsimp only [oFinM] at h
 split at h
 ·rename_i kd d ρ1 e1
  split at h
  ·rename_i kds' e2
   cases h
   unfold oCons at e2
   split at e2
   ·rename_i x xs ex exs
    cases e2
    cases exs
    obtain ⟨kb,db⟩:=x
    refine ha ρ kd d ρ' e1 g σ H _ se fun v g1 H1 F1 ev1 se1 r1=>hb ρ' kb db ex (g1.plus F1) σ H1 _ se1 fun w H2 s2 r2=>?_
    obtain ⟨F',c1,c2,c3⟩:=evo_fin (kds:=[(kb,db)]) (vs:=[w]) ev1 se1 r1 s2 r2.one
    exact q [v,w] g1 H2 F' c1 c2 c3
   ·cases e2
  ·cases h
 ·cases h
theorem s_2cons {fa fb:Ro->MR} {a b:Expr} (ha:SndM X fa a) (hb:SndM X fb b):Snd2M X (fun ρ=>oConsM (fa ρ) fun ρ=>oFinM (fb ρ) fun _=>some []) a b:=by
 intro ρ kds ρ' h g σ H Q se q
 dsimp only [oConsM] at h
 split at h
 ·rename_i kd d ρ1 e1
  split at h
  ·cases h
  ·rename_i hbo
   split at h
   ·rename_i kds' ρ2 e2
    cases h
    unfold oFinM at e2
    split at e2
    ·rename_i kb db ρ3 e3
     cases e2
     refine ha ρ kd d ρ1 e1 g σ H _ se fun v g1 H1 F1 ev1 se1 r1=>hb ρ1 kb db ρ' e3 (g1.plus F1) σ H1 _ se1 fun w g2 H2 F2 ev2 se2 r2=>?_
     have r2':VRL X.K H2 g2 F2 [(kb,db)] [w] F2:=⟨w,[],F2,fun _=>False,rfl,fun b=>⟨.inl,fun z=>z.elim id fun z=>z.elim⟩,fun _ _ z=>z,r2,rfl,fun _ z=>z⟩
     obtain ⟨c1,c2,c3⟩:=evo_cons (by simpa using hbo) ev1 (r1.im se1.mu) ev2 se2 r2'
     exact q [v,w] _ H2 _ c1 c2 c3
    ·cases e2
   ·cases h
 ·cases h
theorem n_lst {k:Ow} {es:List Expr} {pos:Pos}:StrictOk X (fun kds=>oLst k (some kds)) es (.List es pos):=by
 intro kds kd d h σ H Q hA
 dsimp only [oLst] at h
 split at h
 ·split at h
  ·rename_i hz
   cases h
   refine pe_le (pe_lst pa_w) (wA_mono hA fun vs H1 ⟨g,H0,m,s1,r1,q⟩=>⟨by rw [r1.len]; exact size_small hz.2,fun p hp=>?_⟩)
   exact q _ _ (same_upd hp) (r1.node hz.1 m s1 hp rfl rfl)
  ·cases h
 ·cases h
theorem n_tup {k:Ow} {es:List Expr} {n:Nat} {pos:Pos}:StrictOk X (fun kds=>oTup k (some kds)) es (.Tuple es n pos):=by
 intro kds kd d h σ H Q hA
 dsimp only [oTup] at h
 split at h
 ·split at h
  ·rename_i hz
   cases h
   refine pe_le (pe_tup pa_w) (wA_mono hA fun vs H1 ⟨g,H0,m,s1,r1,q⟩=>⟨by rw [r1.len]; exact size_small hz.2,fun p hp=>?_⟩)
   exact q _ _ (same_upd hp) (r1.tupO hz.1 m s1 hp)
  ·cases h
 ·split at h
  ·rename_i hz
   cases h
   refine pe_le (pe_tup pa_w) (wA_mono hA fun vs H1 ⟨g,H0,m,s1,r1,q⟩=>⟨by rw [r1.len]; exact size_small hz.2,fun p hp=>?_⟩)
   exact q _ _ (same_upd hp) ((vTup (m.same s1) hp (r1.sh hz.1 m s1)).older s1)
  ·cases h
theorem n_fn (O:CxOk X Γ c) {x:Str} {φ:Fn} {e:Expr} {es:List Expr} {p pos:Pos} (hφ:Γ.fn x = some φ) (hg:glB c.sc x = true) (n1:noStar e = true) (n2:es.all noStar = true):StrictOk X (fFn φ) (e :: es) (.Call (.Name x p) (e :: es) [] pos):=by
 intro kds kd d h σ H Q hA
 obtain ⟨n,fa',fd,ps,F,hr,hm,hk,hb,hdb⟩:=O.tab.fn x φ hφ
 refine pe_le (pe_call (E:=E0) F hr (gl_of O hg) hm hk hb .nil pass0 pa_w hdb (star_of n1) (back_any n2)) (wA_mono hA fun vs H1 ⟨g,H0,m,s1,r1,q⟩=>?_)
 rw [List.append_nil]
 exact fn_post X.K h m s1 r1 q
noncomputable def oMov (i:Nat) (ρ:Ro):MR:=match ρ[i]? with
 | some (some ⟨false,k,d⟩)=>if isFz k = true then some (.sh,d,ρ) else some (.fr k,d,ρ.set i none)
 | _=>none
noncomputable def oFrz (i:Nat) (ρ:Ro):MR:=match ρ[i]? with
 | some (some ⟨false,k,d⟩)=>some (.sh,d,ρ.set i (some ⟨false,.fz,d⟩))
 | _=>none
open Classical in
noncomputable def Gh.off (g:Gh) (i:Nat):Gh:=fun b=>if g b = some (some i) then none else g b
theorem off_S {g:Gh} {i:Nat} {b:Addr} (h:Sg (g.off i) b):Sg g b/\g b ≠ some (some i):=by
 by_cases n:g b = some (some i)
 ·exact absurd (by unfold Gh.off; rw [if_pos n]) h
 ·refine ⟨fun z=>h ?_,n⟩
  unfold Gh.off
  rw [if_neg n]
  exact z
theorem off_eq {g:Gh} {i:Nat} {b:Addr} (h:g b ≠ some (some i)):g.off i b = g b:=by unfold Gh.off; rw [if_neg h]
theorem off_at {g:Gh} {i:Nat} {b:Addr} (h:g b = some (some i)):g.off i b = none:=by unfold Gh.off; rw [if_pos h]
theorem off_some {g:Gh} {i:Nat} {b:Addr} {x:Option Nat} (h:g.off i b = some x):g b = some x/\x ≠ some i:=by
 unfold Gh.off at h
 split at h
 ·cases h
 ·rename_i n; exact ⟨h,fun z=>n (by rw [h,z])⟩
theorem evo_off {g:Gh} {H:Hp} {i:Nat} {F:Pr} (hF:∀ b,F b->g b = some (some i)):Evo g H (g.off i) H F:=by
 refine ⟨fun _ _ _ e=>e,fun b=>⟨fun e=>?_,fun e=>(off_some e).1⟩,fun b j e=>.inl ⟨j,(off_some e).1⟩,fun b z=>⟨off_at (hF b z),.inl ⟨i,hF b z⟩⟩,fun _ o e=>⟨o,e⟩⟩
 rw [off_eq (by rw [e]; simp)]; exact e
theorem se_off {K:PySem.W.Frag} {g:Gh} {H:Hp} {i:Nat} {F:Pr} {ρ ρ':Ro} {σ:L2.St} (se:SE K g ρ σ H) (hF:∀ b,F b->g b = some (some i)) (hl:ρ'.length = ρ.length) (hs:∀ (j:Nat) sl,ρ'[j]? = some (some sl)->(j ≠ i/\ρ[j]? = some (some sl))\/(∃ v,σ[j]? = some (some v)/\sl.k = .fz/\Rp K H (Sg ((g.off i).plus F)) sl.d v)):SE K ((g.off i).plus F) ρ' σ H:=by
 have sub:∀ b,Sg ((g.off i).plus F) b->Sg g b:=fun b z=>((plus_S b).mp z).elim (fun z=>(off_S z).1) fun z=>by rw [Sg,hF b z]; simp
 refine ⟨fun j sl e=>?_,fun b z=>se.mu b (sub b z),by rw [hl]; exact se.len⟩
 rcases hs j sl e with ⟨hj,e1⟩ | ⟨v,e1,e2,e3⟩
 ·obtain ⟨v,F0,q1,q2,q3⟩:=se.slot j sl e1
  refine ⟨v,F0,q1,fun b z=>?_,q3.go (fun _ _ _ e=>e) fun b o _ n z=>n (sub b z)⟩
  have q4:=q2 b z
  refine sl_plus ?_ fun z2=>by rw [hF b z2] at q4; cases q4; exact hj rfl
  rw [off_eq (by rw [q4]; intro z; cases z; exact hj rfl)]; exact q4
 ·obtain ⟨lk,k,d⟩:=sl
  have e2:k = .fz:=e2
  subst e2
  exact ⟨v,fun _=>False,e1,fun b z=>z.elim,.fz e3⟩
theorem name_at (O:CxOk X Γ c) {x:Str} {i:Nat} (hc:cVar c x = some i) (pos:Pos) {σ:L2.St} {H:Hp} {v:V} {Q:VK} (e:σ[i]? = some (some v)) (q:Q v H):wE X (.Name x pos) σ H Q:=by
 unfold cVar at hc
 split at hc
 ·rename_i j hj
  split at hc
  ·rename_i hv
   cases hc
   simp only [Bool.and_eq_true,nameOk,Bool.not_eq_true'] at hv
   exact pe_le (pe_var (i:=i) (by rw [O.N]; exact ixOf_get hj) (by rw [O.sc]; exact visB_ok hv.1) hv.2.1 hv.2.2) ⟨v,e,q⟩
  ·cases hc
 ·cases hc
theorem s_mov (O:CxOk X Γ c) {x:Str} {i:Nat} (hc:cVar c x = some i) (pos:Pos):SndM X (oMov i) (.Name x pos):=by
 intro ρ kd d ρ' h g σ H Q se q
 unfold oMov at h
 split at h
 ·rename_i k d' e
  obtain ⟨v,F0,e1,e2,e3⟩:=se.slot i _ e
  split at h
  ·rename_i hk
   cases h
   have hk':=isFz_eq hk
   subst hk'
   refine name_at O hc pos e1 (q v g H (fun _=>False) (.refl g H) (by rw [plus_no fun _ z=>z]; exact se) ⟨fun _ z=>z,?_⟩)
   exact e3.fz_inv.2.weak fun b z=>z.elim id fun z=>z.elim
  ·cases h
   refine name_at O hc pos e1 (q v (g.off i) H F0 (evo_off e2) (se_off se e2 (by simp) fun j sl e4=>?_) ?_)
   ·by_cases hj:j = i
    ·subst hj
     have hlt:j < ρ.length:=by
      have:=(List.getElem?_eq_some_iff.mp e4).1
      simpa using this
     rw [List.getElem?_set_self hlt] at e4
     cases e4
    ·rw [List.getElem?_set_ne (Ne.symm hj)] at e4
     exact .inl ⟨hj,e4⟩
   ·show Tr _ _ _ _ _ _ _
    exact e3.go (fun _ _ _ e=>e) fun b o _ n z=>n (z.elim (fun z=>(off_S z).1) fun z=>by rw [Sg,e2 b z]; simp)
 ·cases h
theorem s_frz (O:CxOk X Γ c) {x:Str} {i:Nat} (hc:cVar c x = some i) (pos:Pos):SndM X (oFrz i) (.Name x pos):=by
 intro ρ kd d ρ' h g σ H Q se q
 unfold oFrz at h
 split at h
 ·rename_i k d' e
  cases h
  obtain ⟨v,F0,e1,e2,e3⟩:=se.slot i _ e
  have r:Rp X.K H (Sg ((g.off i).plus fun _=>False)) d v:=e3.rp fun b z=>((plus_S b).mp z).elim (fun z=>⟨(off_S z).1,fun z2=>(off_S z).2 (e2 b z2)⟩) fun z=>z.elim
  refine name_at O hc pos e1 (q v (g.off i) H (fun _=>False) (evo_off fun _ z=>z.elim) (se_off se (fun _ z=>z.elim) (by simp) fun j sl e4=>?_) ⟨fun _ z=>z,?_⟩)
  ·by_cases hj:j = i
   ·subst hj
    have hlt:j < ρ.length:=by
     have:=(List.getElem?_eq_some_iff.mp e4).1
     simpa using this
    rw [List.getElem?_set_self hlt] at e4
    cases e4
    exact .inr ⟨v,e1,rfl,r⟩
   ·rw [List.getElem?_set_ne (Ne.symm hj)] at e4
    exact .inl ⟨hj,e4⟩
  ·exact r.weak fun b z=>(plus_S b).mpr z
 ·cases h
end
end J
namespace J
open PySem PySem.Spec L2
section
variable {K:PySem.W.Frag} {H:Hp} {S:Pr}
theorem TrL.focus:∀ {ds:List D} {es:List Ow} {r:Ow} {xs:List V} {F:Pr} {j:Nat} {d:D},TrL K H S ds es r xs F->ds[j]? = some d->∃ (x:V) (Fj Fr:Pr),xs[j]? = some x/\(∀ b,F b ↔ Fj b\/Fr b)/\(∀ b,Fj b->¬ Fr b)/\Tr K H S d (es.getD j r) x Fj/\
  ∀ (H':Hp) (S':Pr) (d':D) (Fj':Pr),(∀ b o,(¬ S b\/Fr b)->H b = some o->H' b = some o)->(∀ b o,H b = some o->¬ S b->¬ S' b)->Tr K H' S' d' (es.getD j r) x Fj'->(∀ b,Fj' b->¬ Fr b)->TrL K H' S' (ds.set j d') es r xs (fun b=>Fj' b\/Fr b)
 | [],_,_,_,_,_,_,h,e=>by simp at e
 | d0 :: ds,es,r,xs,F,0,d,h,e=>by
  unfold TrL at h
  obtain ⟨y,ys,F1,F2,rfl,hF,dj,h1,h2⟩:=h
  simp at e
  subst e
  refine ⟨y,F1,F2,rfl,hF,dj,by cases es <;> simpa using h1,fun H' S' d' Fj' k1 k2 t dj'=>?_⟩
  show TrL K H' S' (d' :: ds) es r (y :: ys) _
  unfold TrL
  exact ⟨y,ys,Fj',F2,rfl,fun b=>Iff.rfl,dj',by cases es <;> simpa using t,h2.go k1 k2⟩
 | d0 :: ds,es,r,xs,F,j + 1,d,h,e=>by
  unfold TrL at h
  obtain ⟨y,ys,F1,F2,rfl,hF,dj,h1,h2⟩:=h
  obtain ⟨x,Fj,Fr,e1,e2,e3,e4,e5⟩:=TrL.focus h2 (by simpa using e)
  have eg:es.tail.getD j r = es.getD (j + 1) r:=by cases es <;> simp
  rw [eg] at e4
  refine ⟨x,Fj,fun b=>F1 b\/Fr b,by simpa using e1,fun b=>?_,fun b z1 z2=>?_,e4,fun H' S' d' Fj' k1 k2 t dj'=>?_⟩
  ·rw [hF b,e2 b]
   exact ⟨fun z=>z.elim (fun z=>.inr (.inl z)) fun z=>z.imp id .inr,fun z=>z.elim (fun z=>.inr (.inl z)) fun z=>z.imp id .inr⟩
  ·rcases z2 with z2 | z2
   ·exact dj b z2 ((e2 b).mpr (.inl z1))
   ·exact e3 b z1 z2
  ·show TrL K H' S' (d0 :: ds.set j d') es r (y :: ys) _
   unfold TrL
   refine ⟨y,ys,F1,fun b=>Fj' b\/Fr b,rfl,fun b=>⟨fun z=>z.elim (fun z=>.inr (.inl z)) fun z=>z.imp id .inr,fun z=>z.elim (fun z=>.inr (.inl z)) fun z=>z.imp id .inr⟩,fun b z1 z2=>?_,h1.go (fun b o hb e=>k1 b o (hb.imp id .inl) e) k2,e5 H' S' d' Fj' (fun b o hb e=>k1 b o (hb.imp id .inr) e) k2 (by rw [eg]; exact t) fun b z1 z2=>dj' b z1 (.inr z2)⟩
   rcases z2 with z2 | z2
   ·exact dj' b z2 (.inl z1)
   ·exact dj b z1 ((e2 b).mpr (.inr z2))
noncomputable def FP (K:PySem.W.Frag) (H:Hp) (S:Pr) (k:Ow) (v:V) (F:Pr) (k1:Ow) (d1:D) (v1:V) (up:D->D):Prop:=∃ (F1 Fr:Pr),(∀ b,F b ↔ F1 b\/Fr b)/\(∀ b,F1 b->¬ Fr b)/\Tr K H S d1 k1 v1 F1/\
  ∀ (H':Hp) (S':Pr) (d1':D) (F1':Pr),(∀ b o,(¬ S b\/Fr b)->H b = some o->H' b = some o)->(∀ b o,H b = some o->¬ S b->¬ S' b)->Tr K H' S' d1' k1 v1 F1'->(∀ b,F1' b->¬ Fr b)->Tr K H' S' (up d1') k v (fun b=>F1' b\/Fr b)
theorem FP.root {d:D} {k:Ow} {v:V} {F:Pr} (h:Tr K H S d k v F):FP K H S k v F k d v id:=by
 refine ⟨F,fun _=>False,fun b=>⟨.inl,fun z=>z.elim id fun z=>z.elim⟩,fun _ _ z=>z,h,fun H' S' d1' F1' k1 k2 t dj=>?_⟩
 have eF:(fun b=>F1' b\/False) = F1':=by funext b; exact propext ⟨fun z=>z.elim id fun z=>z.elim,.inl⟩
 rw [eF]
 exact t
theorem FP.same {H2:Hp} {k k1:Ow} {v v1:V} {F:Pr} {d1:D} {up:D->D} (h:FP K H S k v F k1 d1 v1 up) (s:Same H H2):FP K H2 S k v F k1 d1 v1 up:=by
 obtain ⟨F1,Fr,h1,h2,h3,h4⟩:=h
 exact ⟨F1,Fr,h1,h2,h3.go (fun b o _ e=>s b o e) fun _ _ _ n=>n,fun H' S' d1' F1' k1 k2 t dj=>h4 H' S' d1' F1' (fun b o hb e=>k1 b o hb (s b o e)) (fun b o e n=>k2 b o (s b o e) n) t dj⟩
theorem FP.step {k:Ow} {es:List Ow} {r:Ow} {v v1:V} {F:Pr} {hd:Hd} {ds:List D} {up:D->D} {j:Nat} {d:D} (h:FP K H S k v F (.own es r) (.nd hd ds) v1 up) (hj:ds[j]? = some d):∃ a o xs x,v1 = .ref a/\H a = some o/\HdOk K o hd xs/\xs.length = ds.length/\xs[j]? = some x/\FP K H S k v F (es.getD j r) d x (fun z=>up (.nd hd (ds.set j z))):=by
 obtain ⟨F1,Fr,h1,h2,h3,h4⟩:=h
 unfold Tr at h3
 obtain ⟨a,o,xs,F',rfl,q1,q2,n1,n2,hF,t⟩:=h3
 obtain ⟨x,Fj,Fq,e1,e2,e3,e4,e5⟩:=t.focus hj
 refine ⟨a,o,xs,x,rfl,q1,q2,t.len,e1,Fj,fun b=>(hd.mu = true/\b = a)\/Fq b\/Fr b,fun b=>?_,fun b z1 z2=>?_,e4,fun H' S' d1' F1' k1 k2 t1 dj'=>?_⟩
 ·rw [h1 b,hF b,e2 b]
  exact ⟨fun z=>z.elim (fun z=>z.elim (fun z=>.inr (.inl z)) fun z=>z.imp id fun z=>.inr (.inl z)) fun z=>.inr (.inr (.inr z)),fun z=>z.elim (fun z=>.inl (.inr (.inl z))) fun z=>z.elim (fun z=>.inl (.inl z)) fun z=>z.elim (fun z=>.inl (.inr (.inr z))) .inr⟩
 ·rcases z2 with ⟨hm,rfl⟩ | z2 | z2
  ·exact n1 hm ((e2 b).mpr (.inl z1))
  ·exact e3 b z1 z2
  ·exact h2 b ((hF b).mpr (.inr ((e2 b).mpr (.inl z1)))) z2
 ·have t3:=e5 H' S' d1' F1' (fun b o hb e=>k1 b o (hb.imp id fun z=>.inr (.inl z)) e) k2 t1 fun b z1 z2=>dj' b z1 (.inr (.inl z2))
  have ha:H' a = some o:=by
   cases hm:hd.mu with
   | true=>exact k1 a o (.inr (.inl ⟨hm,rfl⟩)) q1
   | false=>exact k1 a o (.inl (n2 hm)) q1
  have tn:Tr K H' S' (.nd hd (ds.set j d1')) (.own es r) (.ref a) (fun b=>(hd.mu = true/\b = a)\/(F1' b\/Fq b)):=by
   unfold Tr
   exact ⟨a,o,xs,fun b=>F1' b\/Fq b,rfl,ha,q2,fun hm z=>z.elim (fun z=>dj' a z (.inl ⟨hm,rfl⟩)) fun z=>n1 hm ((e2 a).mpr (.inr z)),fun hm=>k2 a o q1 (n2 hm),fun b=>Iff.rfl,t3⟩
  have t4:=h4 H' S' _ _ (fun b o hb e=>k1 b o (hb.imp id fun z=>.inr (.inr z)) e) k2 tn fun b z1 z2=>by
   rcases z1 with ⟨hm,rfl⟩ | z1 | z1
   ·exact h2 b ((hF b).mpr (.inl ⟨hm,rfl⟩)) z2
   ·exact dj' b z1 (.inr (.inr z2))
   ·exact h2 b ((hF b).mpr (.inr ((e2 b).mpr (.inr z1)))) z2
  have eF:(fun b=>((hd.mu = true/\b = a)\/(F1' b\/Fq b))\/Fr b) = fun b=>F1' b\/((hd.mu = true/\b = a)\/Fq b\/Fr b):=by
   funext b
   exact propext ⟨fun z=>z.elim (fun z=>z.elim (fun z=>.inr (.inl z)) fun z=>z.imp id fun z=>.inr (.inl z)) fun z=>.inr (.inr (.inr z)),fun z=>z.elim (fun z=>.inl (.inr (.inl z))) fun z=>z.elim (fun z=>.inl (.inl z)) fun z=>z.elim (fun z=>.inl (.inr (.inr z))) .inr⟩
  rw [eF] at t4
  exact t4
end
noncomputable def posOf (hd:Hd) (n:Nat) (x:D):Option Nat:=match hd with
 | .lst=>(match x with | .int z=>ixN n z | _=>none)
 | .tup=>(match x with | .int z=>ixN n z | _=>none)
 | .dic t ks=>none
 | .obj _ _=>none
noncomputable def stepP (p:Option (Ow × D × (D->D))) (x:Option KD):Option (Ow × D × (D->D)):=match p,x with
 | some (.own es r,.nd hd ds,up),some (_,dx)=>(match posOf hd ds.length dx with
  | some j=>(match ds[j]? with | some d=>some (es.getD j r,d,fun z=>up (.nd hd (ds.set j z))) | none=>none)
  | none=>none)
 | _,_=>none
noncomputable def rootP (o:Option (Option Sl)):Option (Ow × D × (D->D)):=match o with
 | some (some ⟨false,k,d⟩)=>some (k,d,id)
 | _=>none
noncomputable def SndP (X:Cx) (i:Nat) (f:Ro->Option (Ow × D × (D->D))) (e:Expr):Prop:=∀ ρ k1 d1 up,f ρ = some (k1,d1,up)->∀ g σ H Q,SE X.K g ρ σ H->
 (∀ v1 H' v F k d,Same H H'->ρ[i]? = some (some ⟨false,k,d⟩)->σ[i]? = some (some v)->(∀ b,F b->g b = some (some i))->FP X.K H' (Sg g) k v F k1 d1 v1 up->Q v1 H')->wE X e σ H Q
section
variable {X:Cx} {Γ:Tab} {c:Cz}
theorem p_root (O:CxOk X Γ c) {x:Str} {i:Nat} (hc:cVar c x = some i) (pos:Pos):SndP X i (fun ρ=>rootP ρ[i]?) (.Name x pos):=by
 intro ρ k1 d1 up h g σ H Q se q
 dsimp only [rootP] at h
 split at h
 ·rename_i k d e
  cases h
  obtain ⟨v,F,e1,e2,e3⟩:=se.slot i _ e
  exact name_at O hc pos e1 (q v H v F k1 d1 (Same.refl H) e e1 e2 (.root e3))
 ·cases h
theorem p_step (O:CxOk X Γ c) {i:Nat} {fp:Ro->Option (Ow × D × (D->D))} {fb:Ro->Option KD} {a b:Expr} {pos:Pos} (ha:SndP X i fp a) (hb:SndE X fb b) (hp:plainIx b = true):SndP X i (fun ρ=>stepP (fp ρ) (fb ρ)) (.Subscript a b pos):=by
 intro ρ k1 d1 up h g σ H Q se q
 dsimp only [stepP] at h
 split at h
 ·rename_i es r hd ds up0 kx dx ep ex
  split at h
  ·rename_i j hj
   split at h
   ·rename_i dj ej
    cases h
    cases hd with
    | lst=>
     refine pe_le (pe_ix ix_seq pe_w pe_w (plainIx_ok hp)) (ha ρ _ _ _ ep g σ H _ se fun v1 H1 v F k d s1 e1 e2 e3 fp1=>hb ρ _ _ ex g σ H1 _ (se.same s1) fun y H2 s2 r2=>?_)
     cases dx with
     | int z=>
      obtain rfl:=r2.rd.int
      obtain ⟨a',o,xs,x,rfl,q1,q2,l,ex',fp2⟩:=(fp1.same s2).step ej
      cases (show o = _ from q2)
      exact .inl ⟨a',xs,z,x,rfl,rfl,.of q1,by unfold L2.atI; rw [l,(show ixN ds.length z = some j from hj)]; exact ex',q x H2 v F k d (s1.trans s2) e1 e2 e3 fp2⟩
     | _=>cases hj
    | tup=>
     refine pe_le (pe_ix ix_seq pe_w pe_w (plainIx_ok hp)) (ha ρ _ _ _ ep g σ H _ se fun v1 H1 v F k d s1 e1 e2 e3 fp1=>hb ρ _ _ ex g σ H1 _ (se.same s1) fun y H2 s2 r2=>?_)
     cases dx with
     | int z=>
      obtain rfl:=r2.rd.int
      obtain ⟨a',o,xs,x,rfl,q1,q2,l,ex',fp2⟩:=(fp1.same s2).step ej
      cases (show o = _ from q2)
      exact .inr (.inl ⟨a',xs,z,x,rfl,rfl,.of q1,by unfold L2.atI; rw [l,(show ixN ds.length z = some j from hj)]; exact ex',q x H2 v F k d (s1.trans s2) e1 e2 e3 fp2⟩)
     | _=>cases hj
    | dic t ks=>cases hj
    | obj c ns=>cases hj
   ·cases h
  ·cases h
 ·cases h
end
open Classical in
noncomputable def Gh.give (g:Gh) (F:Pr) (i:Nat):Gh:=fun b=>if F b then some (some i) else g b
section
variable {K:PySem.W.Frag} {H:Hp} {g:Gh} {F:Pr} {ρ:Ro} {σ:L2.St}
theorem give_at {F2:Pr} {i:Nat} {b:Addr} (h:F2 b):g.give F2 i b = some (some i):=by unfold Gh.give; rw [if_pos h]
theorem give_ne {F2:Pr} {i:Nat} {b:Addr} (h:¬ F2 b):g.give F2 i b = g b:=by unfold Gh.give; rw [if_neg h]
theorem give_S {F2:Pr} {i:Nat} {b:Addr}:Sg (g.give F2 i) b ↔ Sg g b\/F2 b:=by
 by_cases h:F2 b
 ·exact ⟨fun _=>.inr h,fun _=>by rw [Sg,give_at h]; simp⟩
 ·exact ⟨fun z=>.inl (by rw [Sg,give_ne h] at z; exact z),fun z=>z.elim (fun z=>by rw [Sg,give_ne h]; exact z) fun z=>absurd z h⟩
structure NodeAt (K:PySem.W.Frag) (H:Hp) (g:Gh) (F:Pr) (ρ:Ro) (σ:L2.St) (i:Nat) (k:Ow) (es:List Ow) (r:Ow) (hd:Hd) (ds:List D) (up:D->D) (a:Addr) (o:HO) (xs:List V) (F':Pr):Prop where
 at_:H a = some o
 ok:HdOk K o hd xs
 kids:TrL K H (Sg (g.plus F)) ds es r xs F'
 lab:∀ b,F' b->g b = some (some i)
 nin:¬ F' a
 own:g a = some (some i)
 put:∀ (o':HO) (hd':Hd) (ds':List D) (xs':List V) (F2 F3:Pr),hd'.mu = true->HdOk K o' hd' xs'->(∀ xs,o' ≠ .tup xs)->(∀ b,F2 b->F b)->(∀ b,F3 b->F' b\/F2 b)->TrL K H (Sg (g.give F2 i)) ds' es r xs' F3->
  SE K (g.give F2 i) (ρ.set i (some ⟨false,k,up (.nd hd' ds')⟩)) σ (upd H a o')
theorem FP.node {i:Nat} {k:Ow} {d:D} {v v1:V} {Fi:Pr} {es:List Ow} {r:Ow} {hd:Hd} {ds:List D} {up:D->D} (se:SE K (g.plus F) ρ σ H) (hg:∀ b,F b->g b = none) (e:ρ[i]? = some (some ⟨false,k,d⟩)) (hv:σ[i]? = some (some v)) (lb:∀ b,Fi b->(g.plus F) b = some (some i))
  (fp:FP K H (Sg (g.plus F)) k v Fi (.own es r) (.nd hd ds) v1 up) (hm:hd.mu = true):∃ a o xs F',v1 = .ref a/\NodeAt K H g F ρ σ i k es r hd ds up a o xs F':=by
 obtain ⟨F1,Fr,h1,h2,h3,h4⟩:=fp
 unfold Tr at h3
 obtain ⟨a,o,xs,F',rfl,q1,q2,n1,n2,hF,t⟩:=h3
 have gl:∀ b,Fi b->g b = some (some i):=fun b z=>plus_sl (lb b z)
 have ga:g a = some (some i):=gl a ((h1 a).mpr (.inl ((hF a).mpr (.inl ⟨hm,rfl⟩))))
 have gF:∀ b,F' b->g b = some (some i):=fun b z=>gl b ((h1 b).mpr (.inl ((hF b).mpr (.inr z))))
 refine ⟨a,o,xs,F',rfl,q1,q2,t,gF,n1 hm,ga,fun o' hd' ds' xs' F2 F3 hm' ok' nt s2 s3 t'=>?_⟩
 have sub:∀ b,Sg (g.give F2 i) b->Sg (g.plus F) b:=fun b z=>(plus_S b).mpr ((give_S.mp z).imp id (s2 b))
 have kb:∀ b o2,b ≠ a->H b = some o2->upd H a o' b = some o2:=fun b o2 n e=>by rw [upd_ne n]; exact e
 have nF2:∀ b,F2 b->g b = none:=fun b z=>hg b (s2 b z)
 have nF3a:¬ F3 a:=fun z=>(s3 a z).elim (n1 hm) fun z=>by rw [nF2 a z] at ga; cases ga
 refine ⟨fun j sl ej=>?_,fun b z=>?_,by simp [se.len]⟩
 ·by_cases hj:j = i
  ·subst hj
   have hlt:j < ρ.length:=by
    have:=(List.getElem?_eq_some_iff.mp ej).1
    simpa using this
   rw [List.getElem?_set_self hlt] at ej
   cases ej
   have tn:Tr K (upd H a o') (Sg (g.give F2 j)) (.nd hd' ds') (.own es r) (.ref a) (fun b=>b = a\/F3 b):=by
    unfold Tr
    refine ⟨a,o',xs',F3,rfl,upd_same,ok',fun _=>nF3a,fun h=>by (rw [hm'] at h; cases h),fun b=>⟨fun z=>z.imp (fun z=>⟨hm',z⟩) id,fun z=>z.imp (fun z=>z.2) id⟩,t'.go (fun b o2 hb e=>kb b o2 (fun z=>?_) e) fun _ _ _ n=>n⟩
    subst z
    rcases hb with hb | hb
    ·exact hb (give_S.mpr (.inl (by rw [Sg,ga]; simp)))
    ·exact nF3a hb
   refine ⟨v,_,hv,fun b z=>?_,h4 (upd H a o') (Sg (g.give F2 j)) _ _ (fun b o2 hb e=>kb b o2 (fun z=>?_) e) (fun b o2 _ n z=>n (sub b z)) tn fun b z1 z2=>?_⟩
   ·rcases z with (rfl | z) | z
    ·rw [give_ne (fun z=>by rw [nF2 b z] at ga; cases ga)]; exact ga
    ·by_cases z2:F2 b
     ·exact give_at z2
     ·rw [give_ne z2]
      exact (s3 b z).elim (gF b) fun z=>absurd z z2
    ·have:=gl b ((h1 b).mpr (.inr z))
     rw [give_ne (fun z=>by rw [nF2 b z] at this; cases this)]; exact this
   ·subst z
    rcases hb with hb | hb
    ·exact hb ((plus_S b).mpr (.inl (by rw [Sg,ga]; simp)))
    ·exact h2 b ((hF b).mpr (.inl ⟨hm,rfl⟩)) hb
   ·rcases z1 with rfl | z1
    ·exact h2 b ((hF b).mpr (.inl ⟨hm,rfl⟩)) z2
    ·rcases s3 b z1 with z | z
     ·exact h2 b ((hF b).mpr (.inr z)) z2
     ·have:=gl b ((h1 b).mpr (.inr z2))
      rw [nF2 b z] at this; cases this
  ·rw [List.getElem?_set_ne (Ne.symm hj)] at ej
   obtain ⟨w,Fj,e1,e2,e3⟩:=se.slot j sl ej
   have gj:∀ b,Fj b->g b = some (some j):=fun b z=>plus_sl (e2 b z)
   refine ⟨w,Fj,e1,fun b z=>?_,e3.go (fun b o2 hb e=>kb b o2 (fun z=>?_) e) fun b o2 _ n z=>n (sub b z)⟩
   ·have:=gj b z
    rw [give_ne (fun z=>by rw [nF2 b z] at this; cases this)]; exact this
   ·subst z
    rcases hb with hb | hb
    ·exact hb ((plus_S b).mpr (.inl (by rw [Sg,ga]; simp)))
    ·rw [gj b hb] at ga
     cases ga
     exact hj rfl
 ·by_cases hb:b = a
  ·exact ⟨o',by rw [hb]; exact upd_same,nt⟩
  ·obtain ⟨o2,e2,n⟩:=se.mu b (sub b z)
   exact ⟨o2,kb b o2 hb e2,n⟩
theorem Evo.give {g0:Gh} {H0:Hp} {i:Nat} {F2:Pr} {a:Addr} {o':HO} (ev:Evo g0 H0 g H F) (s2:∀ b,F2 b->F b) (ga:g a = some (some i)):Evo g0 H0 (g.give F2 i) (L2.upd H a o') (fun _=>False):=by
 have nF2:∀ b,F2 b->g b = none:=fun b z=>(ev.tmp b (s2 b z)).1
 refine ⟨fun b o n e=>?_,fun b=>⟨fun e=>?_,fun e=>?_⟩,fun b j e=>?_,fun _ z=>z.elim,fun b o e=>?_⟩
 ·rw [upd_ne (fun z=>?_)]
  ·exact ev.keep b o n e
  ·subst z
   rcases ev.new b i ga with ⟨j,q⟩ | q
   ·exact n j q
   ·rw [e] at q; cases q
 ·have:=(ev.out b).mp e
  rw [give_ne (fun z=>by rw [nF2 b z] at this; cases this)]; exact this
 ·by_cases z:F2 b
  ·rw [give_at z] at e; cases e
  ·rw [give_ne z] at e; exact (ev.out b).mpr e
 ·by_cases z:F2 b
  ·exact (ev.tmp b (s2 b z)).2
  ·rw [give_ne z] at e; exact ev.new b j e
 ·by_cases hb:b = a
  ·exact ⟨o',by rw [hb]; exact upd_same⟩
  ·obtain ⟨o2,q⟩:=ev.dom b o e
   exact ⟨o2,by rw [upd_ne hb]; exact q⟩
end
end J
namespace L2
open PySem PySem.Spec PyProof.Rows
section
variable {X:Cx}
end
end L2
namespace J
open PySem PySem.Spec L2
noncomputable def mutD (m:Str) (es:List Ow) (r:Ow) (ds:List D) (as:List KD):Option (D × List D):=
 if m = "append" then (match as with | [x]=>if es.length<=ds.length/\fit1 r x = true/\ds.length < 100000 then some (.non,ds ++ [x.2]) else none | _=>none)
 else if m = "extend" then (match as with | [(k,.nd .lst ys)]=>if flatK (.own es r) = true/\okE k ys = true/\isBo k = false/\ds.length + ys.length<=100000 then some (.non,ds ++ ys) else none | _=>none)
 else none
noncomputable def rMut (m:Str):V->List V->Hp->VK->Prop:=
 if m = "append" then rAppend else if m = "extend" then rExtend else fun _ _ _ _=>False
section
variable {K:PySem.W.Frag} {H:Hp} {g g0:Gh} {H0:Hp} {F F':Pr} {ρ:Ro} {σ:L2.St} {i:Nat} {k:Ow} {es:List Ow} {r:Ow} {ds:List D} {up:D->D} {a:Addr} {o:HO} {xs:List V}
theorem give_no:g.give (fun _=>False) i = g:=by funext b; exact give_ne fun z=>z
theorem TrL.snoc2 {S:Pr}:∀ {ds:List D} {es:List Ow} {r:Ow} {us:List V} {F F2:Pr} {d:D} {v:V},es.length<=ds.length->TrL K H S ds es r us F->Tr K H S d r v F2->(∀ b,F b->¬ F2 b)->TrL K H S (ds ++ [d]) es r (us ++ [v]) (fun b=>F b\/F2 b)
 | [],es,r,us,F,F2,d,v,hl,h,t,dj=>by
  have:es = []:=List.length_eq_zero_iff.mp (Nat.le_zero.mp hl)
  subst this
  exact TrL.snoc h t dj
 | e :: ds,es,r,us,F,F2,d,v,hl,h,t,dj=>by
  unfold TrL at h
  obtain ⟨y,ys,F1,F3,rfl,hF,dj1,h1,h2⟩:=h
  show TrL K H S (e :: (ds ++ [d])) es r (y :: (ys ++ [v])) _
  unfold TrL
  refine ⟨y,ys ++ [v],F1,fun b=>F3 b\/F2 b,rfl,fun b=>?_,fun b z1 z2=>?_,h1,TrL.snoc2 (by cases es <;> simp at hl ⊢; omega) h2 t fun b z=>dj b ((hF b).mpr (.inr z))⟩
  ·show F b\/F2 b ↔ F1 b\/F3 b\/F2 b
   rw [hF b,or_assoc]
  ·rcases z2 with z2 | z2
   ·exact dj1 b z1 z2
   ·exact dj b ((hF b).mpr (.inl z1)) z2
theorem TrL.ofFlat {S:Pr}:∀ {ds:List D} {es:List Ow} {xs:List V},(∀ e ∈ es,e = .fz)->RpL K H S ds xs->TrL K H S ds es .fz xs fun _=>False
 | [],_,_,_,h=>by unfold TrL; exact ⟨h.nil_inv,fun _ z=>z⟩
 | d :: ds,es,_,he,h=>by
  obtain ⟨y,ys,rfl,r,t⟩:=h.cons_inv
  unfold TrL
  refine ⟨y,ys,_,_,rfl,fun b=>⟨.inl,fun z=>z.elim id id⟩,fun _ z=>z.elim,?_,TrL.ofFlat (fun e q=>he e (by cases es with | nil=>cases q | cons a r=>exact .tail _ q)) t⟩
  have e:es.headD .fz = .fz:=by
   cases es with
   | nil=>rfl
   | cons a r=>exact he a (.head _)
  rw [e]
  exact Tr.fz r
theorem mut_core {m:Str} {as:List KD} {vs:List V} {d':D} {ds':List D} {Q:VK} (h:mutD m es r ds as = some (d',ds')) (nd:NodeAt K H g F ρ σ i k es r .lst ds up a o xs F') (ev:Evo g0 H0 g H F) (se:SE K (g.plus F) ρ σ H) (ra:VRL K H g F as vs F)
  (q:∀ v g' H' Fv,Evo g0 H0 g' H' Fv->SE K (g'.plus Fv) (ρ.set i (some ⟨false,k,up (.lst ds')⟩)) σ H'->VR1 K H' g' Fv .sh d' v Fv->Q v H'):rMut m (.ref a) vs H Q:=by
 have ho:o = .lst xs:=nd.ok
 subst ho
 have hF:∀ b,F b->g b = none:=fun b z=>(ev.tmp b z).1
 have mm:MuOk H (Sx g F):=fun b z=>se.mu b ((plus_S b).mpr z)
 have sx:∀ b,Sg (g.plus F) b ↔ Sx g F b:=fun b=>plus_S b
 -- behind the change
 have fin:∀ {xs':List V} {F2 F3:Pr} {v:V},(∀ b,F2 b->F b)->(∀ b,F3 b->F' b\/F2 b)->TrL K H (Sg (g.give F2 i)) ds' es r xs' F3->Rp K (upd H a (.lst xs')) (Sg (g.give F2 i)) d' v->Q v (upd H a (.lst xs')):=fun {xs' F2 F3 v} s2 s3 t rv=>by
  refine q v (g.give F2 i) _ (fun _=>False) (ev.give s2 nd.own) ?_ ⟨fun _ z=>z,rv.weak fun b z=>z.elim id fun z=>z.elim⟩
  rw [plus_no fun _ z=>z]
  exact nd.put (.lst xs') .lst ds' xs' F2 F3 rfl rfl (fun _ h=>by cases h) s2 s3 t
 have old:∀ {F2:Pr},(∀ b,F2 b->F b)->∀ b o,H b = some o->¬ Sg (g.plus F) b->¬ Sg (g.give F2 i) b:=fun s2 b o _ n z=>n ((plus_S b).mpr ((give_S.mp z).imp id (s2 b)))
 have flat:flatK (.own es r) = true->(∀ e ∈ es,e = .fz)/\r = .fz/\RpL K H (Sg g) ds xs:=fun hf=>by
  obtain ⟨he,hr⟩:=flat_fz hf
  refine ⟨he,hr,?_⟩
  have:=nd.kids
  rw [hr] at this
  exact (this.flat he).2.weak fun b z=>(plus_S b).mpr (.inl z)
 have rpU:∀ {d:D} {v:V} {xs':List V},Rp K H (Sg g) d v->Rp K (upd H a (.lst xs')) (Sg g) d v:=fun r=>r.go fun b o n e=>⟨by rw [upd_ne (fun z=>n (by rw [z,Sg,nd.own]; simp))]; exact e,n⟩
 unfold mutD at h
 unfold rMut
 split at h
 ·rename_i hm
  rw [if_pos hm]
  split at h
  ·rename_i x
   split at h
   ·rename_i hc
    cases h
    obtain ⟨y,ys,F1,F2',rfl,hF1,dj,r1,rfl,hn⟩:=ra
    have e1:∀ b,F b ↔ F1 b:=fun b=>⟨fun z=>((hF1 b).mp z).elim id fun z=>absurd z (hn b),fun z=>(hF1 b).mpr (.inl z)⟩
    obtain ⟨F2,a1,a2⟩:=VR1.fit hc.2.1 mm (fun b z=>hF b ((e1 b).mpr z)) (fun b z=>(e1 b).mpr z) r1
    refine ⟨a,xs,y,rfl,rfl,nd.at_,by rw [nd.kids.len]; exact Nat.lt_of_lt_of_le hc.2.2 (size_small (Nat.le_refl _)),?_⟩
    refine fin (F2:=F2) (F3:=fun b=>F' b\/F2 b) (fun b z=>(e1 b).mpr (a1 b z)) (fun b z=>z) (TrL.snoc2 hc.1 (nd.kids.go (fun _ _ _ e=>e) (old fun b z=>(e1 b).mpr (a1 b z))) (a2 _ fun b z=>?_) fun b z1 z2=>?_) (by unfold Rp; rfl)
    ·rcases give_S.mp z with z | z
     ·exact .inr (.inl z)
     ·exact .inr (.inr (.inl z))
    ·have:=nd.lab b z1
     rw [hF b ((e1 b).mpr (a1 b z2))] at this; cases this
   ·cases h
  ·cases h
 ·rename_i hm
  rw [if_neg hm]
  split at h
  ·rename_i hm2
   rw [if_pos hm2]
   split at h
   ·rename_i kk ys
    split at h
    ·rename_i hc
     cases h
     obtain ⟨he,hr,rl⟩:=flat hc.1
     subst hr
     obtain ⟨v,rfl,rv⟩:=ra.off.one
     obtain ⟨b,o,zs,rfl,gb,qb,rb⟩:=rv.items hc.2.1 (off_mu se hF) off_same
     cases (show o = _ from qb)
     refine ⟨a,b,xs,zs,rfl,rfl,nd.at_,gb,by rw [rl.len,rb.len]; exact size_small hc.2.2.2,?_⟩
     exact fin (F2:=fun _=>False) (F3:=fun _=>False) (fun _ z=>z.elim) (fun _ z=>z.elim) (by rw [give_no]; exact .ofFlat he (rl.append rb)) (by unfold Rp; rfl)
    ·cases h
   ·cases h
  ·cases h
end
noncomputable def mNames:List Str:=["append","extend"]
noncomputable def oMut (m:Str) (i:Nat) (p:Option (Ow × D × (D->D))) (as:Option (List KD)) (ρ:Ro):MR:=match p,as with
 | some (.own es r,.nd .lst ds,up),some as=>(match mutD m es r ds as,ρ[i]? with
  | some (d',ds'),some (some ⟨false,k,_⟩)=>some (.sh,d',ρ.set i (some ⟨false,k,up (.lst ds')⟩))
  | _,_=>none)
 | _,_=>none
section
variable {X:Cx} {Γ:Tab} {c:Cz}
theorem mt_mut {m:Str} (hm:m ∈ mNames):∃ id,Slot "list" m id/\typeOf (.builtin id) = pure (.type "method_descriptor")/\MtR X id (rMut m):=by
 simp only [mNames,List.mem_cons,List.not_mem_nil,or_false] at hm
 rcases hm with rfl | rfl
 ·exact ⟨_,PySem.F.slot_list_append,PySem.F.type_list_append,mt_append⟩
 ·exact ⟨_,PySem.F.slot_list_extend,PySem.F.type_list_extend,mt_extend⟩
theorem s_mut0 {i:Nat} {m:Str} {b:Expr} {ap cp:Pos} {fp:Ro->Option (Ow × D × (D->D))} (hm:m ∈ mNames) (hp:SndP X i fp b) (hb:baseB b = true) (hl:(ap.endLine == cp.line) = true):SndM X (fun ρ=>oMut m i (fp ρ) (some []) ρ) (.Call (.Attribute b m ap) [] [] cp):=by
 intro ρ kd d ρ' h g σ H Q se q
 dsimp only [oMut] at h
 split at h
 ·rename_i es r ds up as ep ea
  cases ea
  split at h
  ·rename_i d' ds' k dd em ei
   cases h
   obtain ⟨mid,s1,s2,s3⟩:=mt_mut (X:=X) hm
   refine pe_le (pe_bm0 PySem.F.plainAttrs_list s1 s2 s3 pe_w (base_ok hb) hl) (hp ρ _ _ _ ep g σ H _ se fun v1 H1 v F k0 d0 sm e1 e2 e3 f1=>?_)
   rw [ei] at e1
   cases e1
   have se1:SE X.K (g.plus fun _=>False) ρ σ H1:=by rw [plus_no fun _ z=>z]; exact se.same sm
   have eg:g.plus (fun _=>False) = g:=plus_no fun _ z=>z
   obtain ⟨a,o,xs,F',rfl,nd⟩:=FP.node (F:=fun _=>False) se1 (fun _ z=>z.elim) ei e2 (by rw [eg]; exact e3) (by rw [eg]; exact f1) rfl
   have ho:o = .lst xs:=nd.ok
   subst ho
   exact ⟨.inl ⟨rfl,xs,.of nd.at_⟩,mut_core em nd (evo_same sm (fun _ z=>z.elim) fun _ z=>z.elim) se1 ⟨rfl,fun _ z=>z⟩ q⟩
  ·cases h
 ·cases h
theorem few_ok2 {e e':Expr} {env:Env} {cp:Pos} (h:noStar e = true) (h':noStar e' = true):((backTo cp (starEach [e,e'] env)).all (fun x=>!x.1) && (backToKw cp (keywordEach [] env)).all (fun x=>x.1.isSome)
      && decide ([e,e'].length + ([]:List Keyword).length + (if ([]:List Keyword).isEmpty then 0 else 1) < 30)) = true:=by
  rw [star_of h,star_of h']
  rfl
theorem s_mut2 {i:Nat} {m:Str} {b e e':Expr} {ap cp:Pos} {fp:Ro->Option (Ow × D × (D->D))} {fa:Ro->Option (List KD)} (hm:m ∈ mNames) (hp:SndP X i fp b) (ha:SndA X fa [e,e']) (hb:baseB b = true) (hn:noStar e = true) (hn':noStar e' = true) (hl:(ap.endLine == cp.line) = true):SndM X (fun ρ=>oMut m i (fp ρ) (fa ρ) ρ) (.Call (.Attribute b m ap) [e,e'] [] cp):=by
 intro ρ kd d ρ' h g σ H Q se q
 dsimp only [oMut] at h
 split at h
 ·rename_i es r ds up as ep ea
  split at h
  ·rename_i d' ds' k dd em ei
   cases h
   obtain ⟨mid,s1,s2,s3⟩:=mt_mut (X:=X) hm
   refine pe_le (pe_bm PySem.F.plainAttrs_list s1 s2 s3 pe_w pa_w (base_ok hb) (few_ok2 hn hn') hl (star_of hn) (by rw [star_of hn']; rfl)) (hp ρ _ _ _ ep g σ H _ se fun v1 H1 v F k0 d0 sm e1 e2 e3 f1=>?_)
   rw [ei] at e1
   cases e1
   have eg:g.plus (fun _=>False) = g:=plus_no fun _ z=>z
   have sq:∃ xs,SqL X.K H1 (match v1 with | .ref a=>a | _=>0) xs/\∃ a,v1 = .ref a:=by
    obtain ⟨a,o,xs,F',rfl,nd⟩:=FP.node (F:=fun _=>False) (by rw [eg]; exact se.same sm) (fun _ z=>z.elim) ei e2 (by rw [eg]; exact e3) (by rw [eg]; exact f1) rfl
    have ho:o = .lst xs:=nd.ok
    subst ho
    exact ⟨xs,.of nd.at_,a,rfl⟩
   obtain ⟨xs0,sq1,a0,rfl⟩:=sq
   refine ⟨.inl ⟨rfl,xs0,sq1⟩,ha ρ as ea g σ H1 _ (se.same sm) fun ys H2 s2' r2=>?_⟩
   obtain ⟨Fy,y1,y2⟩:=r2
   have sy:=(se.same sm).plus s2' y1 y2.dom
   have hgy:∀ b,Fy b->g b = none:=fun b z=>mu_none (se.same sm).mu (y1 b z)
   have f3:FP X.K H2 (Sg (g.plus Fy)) k v F (.own es r) (.lst ds) (.ref a0) up:=by
    obtain ⟨F1,Fr,q1,q2,q3,q4⟩:=f1
    have k2:∀ b o,H1 b = some o->¬ Sg g b->¬ Sg (g.plus Fy) b:=fun b o e n z=>((plus_S b).mp z).elim n fun z=>by rw [y1 b z] at e; cases e
    refine ⟨F1,Fr,q1,q2,q3.go (fun b o _ e=>s2' b o e) k2,fun H' S' d1' F1' t1 t2 t3 t4=>q4 H' S' d1' F1' (fun b o hb e=>t1 b o (hb.imp (fun n=>k2 b o e n) id) (s2' b o e)) (fun b o e n=>t2 b o (s2' b o e) (k2 b o e n)) t3 t4⟩
   obtain ⟨a,o,xs,F',e4,nd⟩:=FP.node (F:=Fy) sy hgy ei e2 (fun b z=>sl_plus (e3 b z) fun z2=>by have:=e3 b z; rw [hgy b z2] at this; cases this) f3 rfl
   cases e4
   exact mut_core em nd (evo_same (sm.trans s2') (fun b z=>sm.free (y1 b z)) hgy) sy y2 q
  ·cases h
 ·cases h
theorem s_mut1 {i:Nat} {m:Str} {b e:Expr} {ap cp:Pos} {fp:Ro->Option (Ow × D × (D->D))} {fa:Ro->Option KD} (hm:m ∈ mNames) (hp:SndP X i fp b) (ha:SndE X fa e) (hb:baseB b = true) (hn:noStar e = true) (hl:(ap.endLine == cp.line) = true):SndM X (fun ρ=>oMut m i (fp ρ) (oCons (fa ρ) (some [])) ρ) (.Call (.Attribute b m ap) [e] [] cp):=by
 intro ρ kd d ρ' h g σ H Q se q
 dsimp only [oMut] at h
 split at h
 ·rename_i es r ds up as ep ea
  split at h
  ·rename_i d' ds' k dd em ei
   cases h
   obtain ⟨mid,s1,s2,s3⟩:=mt_mut (X:=X) hm
   refine pe_le (pe_bm PySem.F.plainAttrs_list s1 s2 s3 pe_w (pa_cons pe_w pa_nil (star_of hn)) (base_ok hb) (few_ok hn) hl (star_of hn) rfl) (hp ρ _ _ _ ep g σ H _ se fun v1 H1 v F k0 d0 sm e1 e2 e3 f1=>?_)
   rw [ei] at e1
   cases e1
   unfold oCons at ea
   split at ea
   ·rename_i x xs' ex exs
    cases exs
    cases ea
    obtain ⟨kx,dx⟩:=x
    have eg:g.plus (fun _=>False) = g:=plus_no fun _ z=>z
    have sq:∃ xs,SqL X.K H1 (match v1 with | .ref a=>a | _=>0) xs/\∃ a,v1 = .ref a:=by
     obtain ⟨a,o,xs,F',rfl,nd⟩:=FP.node (F:=fun _=>False) (by rw [eg]; exact se.same sm) (fun _ z=>z.elim) ei e2 (by rw [eg]; exact e3) (by rw [eg]; exact f1) rfl
     have ho:o = .lst xs:=nd.ok
     subst ho
     exact ⟨xs,.of nd.at_,a,rfl⟩
    obtain ⟨xs0,sq1,a0,rfl⟩:=sq
    refine ⟨.inl ⟨rfl,xs0,sq1⟩,ha ρ kx dx ex g σ H1 _ (se.same sm) fun y H2 s2' r2=>?_⟩
    obtain ⟨Fy,y1,y2⟩:=r2
    have sy:=(se.same sm).plus s2' y1 y2.dom
    have hgy:∀ b,Fy b->g b = none:=fun b z=>mu_none (se.same sm).mu (y1 b z)
    have f2':=f1.same s2'
    have f3:FP X.K H2 (Sg (g.plus Fy)) k v F (.own es r) (.lst ds) (.ref a0) up:=by
     obtain ⟨F1,Fr,q1,q2,q3,q4⟩:=f1
     have k2:∀ b o,H1 b = some o->¬ Sg g b->¬ Sg (g.plus Fy) b:=fun b o e n z=>((plus_S b).mp z).elim n fun z=>by rw [y1 b z] at e; cases e
     refine ⟨F1,Fr,q1,q2,q3.go (fun b o _ e=>s2' b o e) k2,fun H' S' d1' F1' t1 t2 t3 t4=>q4 H' S' d1' F1' (fun b o hb e=>t1 b o (hb.imp (fun n=>k2 b o e n) id) (s2' b o e)) (fun b o e n=>t2 b o (s2' b o e) (k2 b o e n)) t3 t4⟩
    obtain ⟨a,o,xs,F',e4,nd⟩:=FP.node (F:=Fy) sy hgy ei e2 (fun b z=>sl_plus (e3 b z) fun z2=>by have:=e3 b z; rw [hgy b z2] at this; cases this) f3 rfl
    cases e4
    exact mut_core em nd (evo_same (sm.trans s2') (fun b z=>sm.free (y1 b z)) hgy) sy ⟨y,[],Fy,fun _=>False,rfl,fun b=>⟨.inl,fun z=>z.elim id fun z=>z.elim⟩,fun _ _ z=>z,y2,rfl,fun _ z=>z⟩ q
   ·cases ea
  ·cases h
 ·cases h
end
end J
namespace J
open PySem PySem.Spec L2
noncomputable abbrev noF:Pr:=fun _=>False
noncomputable def frzN:List Nat->Ro->Ro
 | [],ρ=>ρ
 | i :: is,ρ=>frzN is (match ρ[i]? with | some (some ⟨false,k,d⟩)=>ρ.set i (some ⟨false,.fz,d⟩) | _=>ρ)
inductive BP where
 | nm (i:Nat)
 | ix (b:BP) (e:IE)
noncomputable def BP.slot:BP->Nat
 | .nm i=>i
 | .ix b _=>b.slot
noncomputable def evP (Γ:Nat->Option Fn):BP->Ro->Option (Ow × D × (D->D))
 | .nm i,ρ=>rootP ρ[i]?
 | .ix b e,ρ=>stepP (evP Γ b ρ) (evI Γ e ρ)
mutual
inductive ME where
 | p (e:IE)
 | mv (i:Nat)
 | fz (i:Nat)
 | io (f:Nat) (as:MAs)
 | fn (f:Nat) (as:MEs)
 | blt (x:Str) (as:MEs)
 | tup (k:Ow) (as:MEs)
 | lst (k:Ow) (as:MEs)
 | bin (op:Operator) (as:MEs)
 | cmp (op:CmpOp) (as:MEs)
 | ix (as:MEs)
 | slh (as:MEs)
 | ifx (t:MT) (a b:ME)
 | comp (r:Ow) (cap:List (Option Nat)) (tg:IT) (it:MI) (ts:MO) (elt:ME)
 | mut (m:Str) (b:BP) (as:IEs)
 | mutM (m:Str) (i:Nat) (a:ME)
inductive MI where
 | p (it:II)
 | e (a:ME)
 | enm (a:ME)
 | rng (a:ME)
inductive MAs where
 | nil
 | ref (i:Nat) (r:MAs)
 | val (a:ME) (r:MAs)
inductive MEs where
 | fin (a:ME) (r:IEs)
 | cons (a:ME) (r:MEs)
inductive MT where
 | p (e:IE)
 | cmp (op:CmpOp) (as:MEs)
 | not (t:MT)
 | bool (op:BoolOp) (ts:MTs)
 | tru (a:ME)
 | vw (is:List Nat) (e:IE)
inductive MTs where
 | one (t:MT)
 | cons (t:MT) (r:MTs)
inductive MO where
 | non
 | som (t:MT)
end
noncomputable def oS (f:List KD->Option KD) (a:Option (List KD × Ro)):MR:=match a with
 | some (kds,ρ)=>(match f kds with | some (kd,d)=>some (kd,d,ρ) | none=>none)
 | none=>none
noncomputable def oTCmp (op:CmpOp) (a:Option (List KD × Ro)):Option (Bool × Ro):=match a with
 | some ([x,y],ρ)=>(match cmpD op x.2 y.2 with | some b=>some (b,ρ) | none=>none)
 | _=>none
noncomputable def oPm (a:Option KD) (ρ:Ro):MR:=match a with | some (kd,d)=>some (kd,d,ρ) | none=>none
noncomputable def oTb (a:Option Bool) (ρ:Ro):Option (Bool × Ro):=match a with | some b=>some (b,ρ) | none=>none
noncomputable def oTBool (op:BoolOp) (a:Option (Bool × Ro)) (r:Ro->Option (Bool × Ro)):Option (Bool × Ro):=match a with
 | some (x,ρ)=>if (op == .And) = x then r ρ else some (x,ρ)
 | none=>none
structure GG where
 fn:Nat->Option Fn
 fm:Nat->Option Fm
mutual
noncomputable def evM (Γ:GG):ME->Ro->MR
 | .p e,ρ=>oPm (evI Γ.fn e ρ) ρ
 | .mv i,ρ=>oMov i ρ
 | .fz i,ρ=>oFrz i ρ
 | .io f as,ρ=>none
 | .fn f as,ρ=>(match Γ.fn f with | some φ=>oS (fFn φ) (evMs Γ as ρ) | none=>none)
 | .blt x as,ρ=>none
 | .tup k as,ρ=>oS (fun kds=>oTup k (some kds)) (evMs Γ as ρ)
 | .lst k as,ρ=>oS (fun kds=>oLst k (some kds)) (evMs Γ as ρ)
 | .bin op as,ρ=>none
 | .cmp op as,ρ=>none
 | .ix as,ρ=>none
 | .slh as,ρ=>none
 | .ifx t a b,ρ=>none
 | .comp r cap tg it ts elt,ρ=>none
 | .mut m b as,ρ=>oMut m b.slot (evP Γ.fn b ρ) (evIs Γ.fn as ρ) ρ
 | .mutM m i a,ρ=>none
noncomputable def evMI (Γ:GG):MI->Ro->IR
 | .p it,ρ=>oIp (evII Γ.fn it ρ) ρ
 | .e a,ρ=>none
 | .enm a,ρ=>none
 | .rng a,ρ=>none
noncomputable def evMA (Γ:GG):MAs->Ro->Option (List RA × Ro)
 | .nil,ρ=>some ([],ρ)
 | .ref i r,ρ=>oRefA i ρ[i]? (evMA Γ r ρ)
 | .val a r,ρ=>oValA (evM Γ a ρ) (evMA Γ r)
noncomputable def evMs (Γ:GG):MEs->Ro->Option (List KD × Ro)
 | .fin a r,ρ=>oFinM (evM Γ a ρ) (evIs Γ.fn r)
 | .cons a r,ρ=>oConsM (evM Γ a ρ) (evMs Γ r)
noncomputable def evMT (Γ:GG):MT->Ro->Option (Bool × Ro)
 | .p e,ρ=>oTb (evIT Γ.fn e ρ) ρ
 | .vw is e,ρ=>none
 | .cmp op as,ρ=>none
 | .not t,ρ=>none
 | .bool op ts,ρ=>none
 | .tru a,ρ=>none
noncomputable def evMTs (Γ:GG) (op:BoolOp):MTs->Ro->Option (Bool × Ro)
 | .one t,ρ=>evMT Γ t ρ
 | .cons t r,ρ=>oTBool op (evMT Γ t ρ) (evMTs Γ op r)
noncomputable def evMO (Γ:GG):MO->Ro->Option (Bool × Ro)
 | .non,ρ=>some (true,ρ)
 | .som t,ρ=>evMT Γ t ρ
end
theorem offM {X:Cx} {f:Ro->MR} {e:Expr} (h:∀ ρ,f ρ = none):SndM X f e:=fun ρ kd d ρ' hh=>by rw [h] at hh; cases hh
theorem offTM {X:Cx} {f:Ro->Option (Bool × Ro)} {e:Expr} (h:∀ ρ,f ρ = none):SndTM X f e:=fun ρ kd d hh=>by rw [h] at hh; cases hh
theorem offIM {X:Cx} {f:Ro->IR} {tg e:Expr} (h:∀ ρ,f ρ = none):SndIM X f tg e:=fun ρ bs ds ρ' hh=>by rw [h] at hh; cases hh
noncomputable def cMs (f:Expr->Option ME) (g:Expr->Option IE):List Expr->Option MEs
 | []=>none
 | e :: es=>if noStar e then (match cArgs g es with
  | some r=>(f e).map fun a=>.fin a r
  | none=>(match f e,cMs f g es with | some a,some r=>some (.cons a r) | _,_=>none)) else none
noncomputable def cMA (c:Cz) (f:Expr->Option ME):List Bool->List Expr->Option MAs
 | _,[]=>some .nil
 | true :: fl,.Name x _ :: es=>(match cVar c x,cMA c f fl es with | some i,some r=>some (.ref i r) | _,_=>none)
 | fl,e :: es=>if noStar e then (match f e,cMA c f fl.tail es with | some a,some r=>some (.val a r) | _,_=>none) else none
noncomputable def cItM (c:Cz) (f:Expr->Option ME) (it:Option II) (tg iter:Expr):Option MI:=match it with
 | some it=>some (.p it)
 | none=>match iter with
  | .Call (.Name x _) [a] [] _=>
   if x = "range" then (if glB c.sc "range" && noStar a then (f a).map .rng else none)
   else if x = "enumerate" then (if glB c.sc "enumerate" && noStar a && isTup tg then (f a).map .enm else none)
   else (f iter).map .e
  | _=>(f iter).map .e
noncomputable def cTs (f:Expr->Option MT):List Expr->Option MTs
 | []=>none
 | [e]=>(f e).map .one
 | e :: es=>match f e,cTs f es with | some a,some r=>some (.cons a r) | _,_=>none
noncomputable def cBP (c:Cz) (f:Expr->Option IE):Nat->Expr->Option BP
 | 0,_=>none
 | n + 1,e=>match e with
  | .Name x _=>(cVar c x).map .nm
  | .Subscript a b _=>if plainIx b then (match cBP c f n a,f b with | some p,some e=>some (.ix p e) | _,_=>none) else none
  | _=>none
noncomputable def mOk (m:Str) (b:Expr) (ap cp:Pos):Bool:=mNames.contains m && baseB b && (ap.endLine == cp.line)
noncomputable def cMN (fns:Nms) (c:Cz) (x:Str) (p:Pos):Option ME:=match fns.md p.line p.col with
 | none=>none
 | some true=>(cVar c x).map .mv
 | some false=>(cVar c x).map .fz
noncomputable def cMf (fns:Nms) (c:Cz) (fM:Expr->Option ME) (fE:Expr->Option IE) (x:Str) (as:List Expr):Option ME:=match as with
 | []=>none
 | a :: es=>if glB c.sc x && (a :: es).all noStar then (match ixOf x fns.fns with
  | some i=>(match fns.io i with
   | some fl=>(cMA c fM fl (a :: es)).map (.io i)
   | none=>(cMs fM fE (a :: es)).map (.fn i))
  | none=>(cMs fM fE (a :: es)).map (.blt x)) else none
noncomputable def cMm (c:Cz) (fM:Expr->Option ME) (fE:Expr->Option IE) (b:Expr) (m:Str) (ap cp:Pos) (as:List Expr):Option ME:=match as with
 | []=>if mOk m b ap cp then (cBP c fE 6 b).map fun p=>.mut m p .nil else none
 | e :: es=>match es with
  | e2 :: es2=>(match es2 with
   | _ :: _=>none
   | []=>if mOk m b ap cp && (noStar e && noStar e2) then (match fE e with
    | some a1=>(match fE e2 with | some a2=>(cBP c fE 6 b).map fun p=>.mut m p (.cons a1 (.cons a2 .nil)) | none=>none)
    | none=>none) else none)
  | []=>if mOk m b ap cp && noStar e then (match fE e with
   | some e'=>(cBP c fE 6 b).map fun p=>.mut m p (.cons e' .nil)
   | none=>(match b with | .Name x _=>(match cVar c x,fM e with | some i,some a=>some (.mutM m i a) | _,_=>none) | _=>none)) else none
noncomputable def cMc (fns:Nms) (c:Cz) (fM:Expr->Option ME) (fE:Expr->Option IE) (g:Expr) (as:List Expr) (ks:List Keyword) (cp:Pos):Option ME:=match ks with
 | _ :: _=>none
 | []=>match g with
  | .Name x _=>cMf fns c fM fE x as
  | .Attribute b m ap=>cMm c fM fE b m ap cp as
  | _=>none
noncomputable def cMcm {α:Type} (k:CmpOp->MEs->α) (fM:Expr->Option ME) (fE:Expr->Option IE) (a:Expr) (ops:List CmpOp) (bs:List Expr):Option α:=match ops with
 | []=>none
 | op :: ops=>match ops with
  | _ :: _=>none
  | []=>match bs with
   | []=>none
   | b :: bs=>match bs with
    | _ :: _=>none
    | []=>if behindInMarks op b then none else (cMs fM fE [a,b]).map (k op)
noncomputable def cTestsM (f:Expr->Option MT):List Expr->Option MO
 | []=>some .non
 | [e]=>(f e).map .som
 | _=>none
noncomputable def cCoM (fns:Nms) (c:Cz) (fM:Cz->Expr->Option ME) (fE:Cz->Expr->Option IE) (fT:Cz->Expr->Option MT) (elt:Expr) (gs:List Comprehension) (scope:Scope) (p:Pos):Option ME:=match gs with
 | []=>none
 | g :: gs=>match gs with
  | _ :: _=>none
  | []=>if g.is_async = 0 then (if notSet g.iter && compChk c scope then (match cTg ⟨relS scope c.sc,namesOf scope,ownC scope⟩ 4 g.target,cItM c (fM c) (cIt c (fE c) g.target g.iter) g.target g.iter,cTestsM (fT ⟨relS scope c.sc,namesOf scope,ownC scope⟩) g.ifs,fM ⟨relS scope c.sc,namesOf scope,ownC scope⟩ elt with
    | some t,some it,some ts,some el=>some (.comp ((fns.an p.line p.col).getD .fz) (capOf c scope) t it ts el) | _,_,_,_=>none) else none) else none
noncomputable def hiOf:Expr->Option Expr
 | .Slice none (some hi) none _=>some hi
 | _=>none
theorem hiOf_is {b hi:Expr} (h:hiOf b = some hi):∃ p,b = .Slice none (some hi) none p:=by
 unfold hiOf at h
 split at h
 ·cases h; exact ⟨_,rfl⟩
 ·cases h
mutual
noncomputable def cM (fns:Nms):Nat->Cz->Expr->Option ME
 | 0,_,_=>none
 | n + 1,c,e=>match cE fns n c e with
  | some ie=>some (.p ie)
  | none=>match e with
   | .Name x p=>cMN fns c x p
   | .Call g as ks cp=>cMc fns c (cM fns n c) (cE fns n c) g as ks cp
   | .Tuple es _ p=>(cMs (cM fns n c) (cE fns n c) es).map (.tup (fns.kT p))
   | .List es p=>(cMs (cM fns n c) (cE fns n c) es).map (.lst (fns.kL p))
   | .BinOp a op b _=>(cMs (cM fns n c) (cE fns n c) [a,b]).map (.bin op)
   | .Compare a ops bs _=>cMcm ME.cmp (cM fns n c) (cE fns n c) a ops bs
   | .Subscript a b _=>if plainIx b then (cMs (cM fns n c) (cE fns n c) [a,b]).map .ix else (match hiOf b with | some hi=>(cMs (cM fns n c) (cE fns n c) [a,hi]).map .slh | none=>none)
   | .IfExp t a b _=>match cMT fns n c t,cM fns n c a,cM fns n c b with | some t,some a,some b=>some (.ifx t a b) | _,_,_=>none
   | .ListComp elt gs scope p=>cCoM fns c (cM fns n) (cE fns n) (cMT fns n) elt gs scope p
   | _=>none
noncomputable def cMT (fns:Nms):Nat->Cz->Expr->Option MT
 | 0,_,_=>none
 | n + 1,c,e=>match cT fns n c e with
  | some ie=>(match fns.vw e.pos.line e.pos.col with | []=>some (.p ie) | i :: is=>some (.vw (i :: is) ie))
  | none=>match e with
   | .Compare a ops bs _=>cMcm MT.cmp (cM fns n c) (cE fns n c) a ops bs
   | .UnaryOp op a _=>(match op with | .Not=>(cMT fns n c a).map .not | _=>none)
   | .BoolOp op es _=>(cTs (cMT fns n c) es).map (.bool op)
   | .Call f as ks p=>(cM fns n c (.Call f as ks p)).map .tru
   | .Subscript a b p=>(cM fns n c (.Subscript a b p)).map .tru
   | .Name x p=>(cM fns n c (.Name x p)).map .tru
   | .Constant k j p=>(cM fns n c (.Constant k j p)).map .tru
   | _=>none
end
noncomputable def fmOf (fns:Nms) (Γ:GG):Str->Option (PySem.W.Frag->Sp):=fun x=>(ixOf x fns.fns).bind fun i=>(Γ.fm i).map fun φ=>fun K=>spM K φ
noncomputable abbrev tabG (fns:Nms) (Γ:GG):Tab:=tabOf fns Γ.fn (fmOf fns Γ)
section
variable {X:Cx} {c:Cz} (fns:Nms) (Γ:GG)
theorem s_itMI {fm:Str->Option (PySem.W.Frag->Sp)} (O:CxOk X (tabOf fns Γ.fn fm) c) {f:Expr->Option ME} {fe:Expr->Option IE} (hf:∀ e a,f e = some a->SndM X (evM Γ a) e) (hE:∀ e ie,fe e = some ie->SndE X (evI Γ.fn ie) e) {tg iter:Expr} {it:MI} (h:cItM c f (cIt c fe tg iter) tg iter = some it):SndIM X (evMI Γ it) tg iter:=by
 have pl:∀ {it:MI},(f iter).map MI.e = some it->SndIM X (evMI Γ it) tg iter:=fun h=>by
  obtain ⟨a,ha,rfl⟩:=mapS h
  first | (refine offIM fun ρ=>?_; rw [evMI]; done) | (rw [show evMI Γ (.e a) = fun ρ=>oIt oSeq (evM Γ a ρ) by funext ρ; rw [evMI]]; exact s_imE (hf _ _ ha))
 unfold cItM at h
 split at h
 ·rename_i it' hit
  cases h
  first | (refine offIM fun ρ=>?_; rw [evMI]; done) | (rw [show evMI Γ (.p it') = fun ρ=>oIp (evII Γ.fn it' ρ) ρ by funext ρ; rw [evMI]]; exact (s_itI fns Γ.fn O hE hit).m)
 ·split at h
  ·rename_i x p a pos _
   split at h
   ·rename_i hx
    subst hx
    split at h
    ·rename_i hg
     rw [Bool.and_eq_true] at hg
     obtain ⟨a',ha,rfl⟩:=mapS h
     first | (refine offIM fun ρ=>?_; rw [evMI]; done) | (rw [show evMI Γ (.rng a') = fun ρ=>oIt (oRng (some (.sh,.int 0))) (evM Γ a' ρ) by funext ρ; rw [evMI]]; exact s_imR O hg.1 hg.2 (hf _ _ ha))
    ·cases h
   ·split at h
    ·rename_i hx
     subst hx
     split at h
     ·rename_i hg
      rw [Bool.and_eq_true,Bool.and_eq_true] at hg
      obtain ⟨a',ha,rfl⟩:=mapS h
      first | (refine offIM fun ρ=>?_; rw [evMI]; done) | (rw [show evMI Γ (.enm a') = fun ρ=>oIt oEnm (evM Γ a' ρ) by funext ρ; rw [evMI]]; exact s_imEnm O hg.1.1 hg.1.2 hg.2 (hf _ _ ha))
     ·cases h
    ·exact pl h
  ·exact pl h
theorem oS_bind (f:List KD->Option KD) (fa:Ro->Option (List KD × Ro)):(fun ρ=>oS f (fa ρ)) = fun ρ=>(fa ρ).bind fun p=>(f p.1).map fun q=>(q.1,q.2,p.2):=by
 funext ρ
 unfold oS
 cases fa ρ with
 | none=>rfl
 | some p=>
  obtain ⟨kds,ρ'⟩:=p
  dsimp only [Option.bind_some]
  cases f kds with
  | none=>rfl
  | some q=>rfl
theorem m_pure {e:Expr} {ie:IE} (h:SndE X (evI Γ.fn ie) e):SndM X (evM Γ (.p ie)) e:=by
 have:=h.m
 rw [show (fun ρ=>(evI Γ.fn ie ρ).map fun p=>(p.1,p.2,ρ)) = evM Γ (.p ie) by funext ρ; rw [evM]; unfold oPm; cases evI Γ.fn ie ρ <;> rfl] at this
 exact this
theorem s_msL {f:Expr->Option ME} {g:Expr->Option IE} (hf:∀ e a,f e = some a->SndM X (evM Γ a) e) (hg:∀ e a,g e = some a->SndE X (evI Γ.fn a) e):∀ {es:List Expr} {as:MEs},cMs f g es = some as->SndAM X (evMs Γ as) es
 | [],as,h=>by cases h
 | e :: es,as,h=>by
  unfold cMs at h
  split at h
  ·rename_i hn
   split at h
   ·rename_i r hr
    obtain ⟨a,ha,rfl⟩:=mapS h
    rw [show evMs Γ (.fin a r) = fun ρ=>oFinM (evM Γ a ρ) (evIs Γ.fn r) by funext ρ; conv=>lhs; rw [evMs]]
    exact s_finM hn (hf _ _ ha) (s_argsL Γ.fn hg hr).1
   ·split at h
    ·rename_i a r ha hr
     cases h
     rw [show evMs Γ (.cons a r) = fun ρ=>oConsM (evM Γ a ρ) (evMs Γ r) by funext ρ; conv=>lhs; rw [evMs]]
     exact s_consM hn (hf _ _ ha) (s_msL hf hg hr)
    ·cases h
  ·cases h
theorem s_ms2 {f:Expr->Option ME} {g:Expr->Option IE} (hf:∀ e a,f e = some a->SndM X (evM Γ a) e) (hg:∀ e a,g e = some a->SndE X (evI Γ.fn a) e) {a b:Expr} {as:MEs} (h:cMs f g [a,b] = some as):Snd2M X (evMs Γ as) a b:=by
 unfold cMs at h
 split at h
 ·rename_i hn
  split at h
  ·rename_i r hr
   obtain ⟨a',ha,rfl⟩:=mapS h
   unfold cArgs cArgs at hr
   split at hr
   ·split at hr
    ·rename_i b' r' hb' hr'
     cases hr; cases hr'
     rw [show evMs Γ (.fin a' (.cons b' .nil)) = fun ρ=>oFinM (evM Γ a' ρ) fun ρ=>oCons (evI Γ.fn b' ρ) (some []) by
      funext ρ
      simp only [evMs,evIs]
      try rfl]
     exact s_2fin (hf _ _ ha) (hg _ _ hb')
    ·cases hr
   ·cases hr
  ·split at h
   ·rename_i a' r ha hr
    cases h
    unfold cMs at hr
    split at hr
    ·split at hr
     ·rename_i r' hr'
      cases hr'
      obtain ⟨b',hb,rfl⟩:=mapS hr
      rw [show evMs Γ (.cons a' (.fin b' .nil)) = fun ρ=>oConsM (evM Γ a' ρ) fun ρ=>oFinM (evM Γ b' ρ) fun _=>some [] by
       funext ρ
       simp only [evMs,evIs]
       try rfl]
      exact s_2cons (hf _ _ ha) (hf _ _ hb)
     ·rename_i q
      exact absurd q (by simp [cArgs])
    ·cases hr
   ·cases h
 ·cases h
theorem evo_seq {g g1 g2:Gh} {H H1 H2:Hp} {F2:Pr} (a:Evo g H g1 H1 (fun _=>False)) (b:Evo g1 H1 g2 H2 F2):Evo g H g2 H2 F2:=by
 have t:=a.trans (F1:=fun _=>False) (g2:=g2) (H2:=H2) (F2:=F2) (by rw [plus_no fun _ z=>z]; exact b)
 have e1:g2.minus (fun _=>False) = g2:=by funext c; exact minus_ne fun z=>z
 rw [e1] at t
 exact t.drop fun c z=>.inr z
theorem s_bp {Γt:Tab} (O:CxOk X Γt c) {f:Expr->Option IE} (hf:∀ e a,f e = some a->SndE X (evI Γ.fn a) e):∀ (n:Nat) {e:Expr} {b:BP},cBP c f n e = some b->SndP X b.slot (evP Γ.fn b) e
 | 0,e,b,h=>by cases h
 | n + 1,e,b,h=>by
  unfold cBP at h
  split at h
  ·rename_i x p
   obtain ⟨i,hi,rfl⟩:=mapS h
   exact p_root O hi p
  ·rename_i a b' p
   split at h
   ·rename_i hp
    split at h
    ·rename_i q e' hq he
     cases h
     exact p_step O (s_bp O hf n hq) (hf _ _ he) hp
    ·cases h
   ·cases h
  ·cases h
theorem mOk_ok {m:Str} {b:Expr} {ap cp:Pos} (h:mOk m b ap cp = true):m ∈ mNames/\baseB b = true/\(ap.endLine == cp.line) = true:=by
 simp only [mOk,Bool.and_eq_true] at h
 exact ⟨by simpa using h.1.1,h.1.2,h.2⟩
theorem s_mN {x:Str} {p:Pos} {a:ME} (O:CxOk X (tabG fns Γ) c) (h:cMN fns c x p = some a):SndM X (evM Γ a) (.Name x p):=by
 unfold cMN at h
 split at h
 ·cases h
 ·obtain ⟨i,hi,rfl⟩:=mapS h
  first | (refine offM fun ρ=>?_; rw [evM]; done) | (rw [show evM Γ (.mv i) = oMov i by funext ρ; rw [evM]]; exact s_mov O hi p)
 ·obtain ⟨i,hi,rfl⟩:=mapS h
  first | (refine offM fun ρ=>?_; rw [evM]; done) | (rw [show evM Γ (.fz i) = oFrz i by funext ρ; rw [evM]]; exact s_frz O hi p)
theorem s_ioR (O:CxOk X (tabG fns Γ) c) {fM:Expr->Option ME} (hM:∀ e a,fM e = some a->SndM X (evM Γ a) e) {x:Str} {p pos:Pos} {a':Expr} {es:List Expr} {fl:List Bool} {i:Nat} {a:ME} (h:(cMA c fM fl (a' :: es)).map (.io i) = some a) (h1:glB c.sc x = true) (h2:noStar a' = true) (h3:es.all noStar = true) (hi:ixOf x fns.fns = some i):SndM X (evM Γ a) (.Call (.Name x p) (a' :: es) [] pos):=by
 obtain ⟨as,ha,rfl⟩:=mapS h
 first
  | (refine offM fun ρ=>?_; rw [evM]; done)
  | (cases hφ:Γ.fm i with
   | none=>
    intro ρ kd d ρ' hh
    rw [evM,hφ] at hh
    cases hh
   | some φ=>
    rw [show evM Γ (.io i as) = fun ρ=>oIo (some φ) (evMA Γ as ρ) by funext ρ; rw [evM,hφ]]
    refine s_io O (φ:=φ) ?_ h1 h2 h3 (s_ma Γ O hM ha)
    show fmOf fns Γ x = _
    unfold fmOf
    rw [hi,Option.bind_some,hφ]
    rfl)
theorem s_mf (O:CxOk X (tabG fns Γ) c) {fM:Expr->Option ME} {fE:Expr->Option IE} (hM:∀ e a,fM e = some a->SndM X (evM Γ a) e) (hE:∀ e ie,fE e = some ie->SndE X (evI Γ.fn ie) e) {x:Str} {p:Pos} {as:List Expr} {pos:Pos} {a:ME} (h:cMf fns c fM fE x as = some a):SndM X (evM Γ a) (.Call (.Name x p) as [] pos):=by
 cases as with
 | nil=>cases h
 | cons a' es=>
  dsimp only [cMf] at h
  split at h
  ·rename_i hg
   rw [Bool.and_eq_true,List.all_cons,Bool.and_eq_true] at hg
   split at h
   ·rename_i i hi
    split at h
    ·rename_i fl hfl
     exact s_ioR fns Γ O hM h hg.1 hg.2.1 hg.2.2 hi
    ·obtain ⟨as,ha,rfl⟩:=mapS h
     first
     | (refine offM fun ρ=>?_; rw [evM]; done)
     | cases hφ:Γ.fn i with
      | none=>
       intro ρ kd d ρ' hh
       rw [evM,hφ] at hh
       cases hh
      | some φ=>
       rw [show evM Γ (.fn i as) = fun ρ=>oS (fFn φ) (evMs Γ as ρ) by funext ρ; rw [evM,hφ],oS_bind]
       refine (n_fn O (φ:=φ) ?_ hg.1 hg.2.1 hg.2.2).m (s_msL Γ hM hE ha)
       show (ixOf x fns.fns).bind Γ.fn = _
       rw [hi]; exact hφ
   ·obtain ⟨as,ha,rfl⟩:=mapS h
    first | (refine offM fun ρ=>?_; rw [evM]; done) | (rw [show evM Γ (.blt x as) = fun ρ=>oS (fBlt x) (evMs Γ as ρ) by funext ρ; rw [evM],oS_bind]; exact (b_all_ok O x a' es p pos (gl_of O hg.1) hg.2.1 hg.2.2).m (s_msL Γ hM hE ha))
  ·cases h
theorem s_mm (O:CxOk X (tabG fns Γ) c) {fM:Expr->Option ME} {fE:Expr->Option IE} (hM:∀ e a,fM e = some a->SndM X (evM Γ a) e) (hE:∀ e ie,fE e = some ie->SndE X (evI Γ.fn ie) e) {b:Expr} {m:Str} {ap cp:Pos} {as:List Expr} {a:ME} (h:cMm c fM fE b m ap cp as = some a):SndM X (evM Γ a) (.Call (.Attribute b m ap) as [] cp):=by
 cases as with
 | nil=>
  dsimp only [cMm] at h
  split at h
  ·rename_i hk
   obtain ⟨h1,h2,h3⟩:=mOk_ok hk
   obtain ⟨p,hp,rfl⟩:=mapS h
   first | (refine offM fun ρ=>?_; rw [evM]; done) | (rw [show ∀ m,evM Γ (.mut m p .nil) = fun ρ=>oMut m p.slot (evP Γ.fn p ρ) (some []) ρ by intro m; funext ρ; rw [evM,evIs]]; exact s_mut0 h1 (s_bp Γ O hE _ hp) h2 h3)
  ·cases h
 | cons e es=>cases es with
  | cons e2 es2=>cases es2 with
   | cons _ _=>cases h
   | nil=>
    dsimp only [cMm] at h
    split at h
    ·rename_i hk
     rw [Bool.and_eq_true,Bool.and_eq_true] at hk
     obtain ⟨h1,h2,h3⟩:=mOk_ok hk.1
     split at h
     ·rename_i a1 he1
      split at h
      ·rename_i a2 he2
       obtain ⟨p,hp,rfl⟩:=mapS h
       first | (refine offM fun ρ=>?_; rw [evM]; done) | (rw [show ∀ m,evM Γ (.mut m p (.cons a1 (.cons a2 .nil))) = fun ρ=>oMut m p.slot (evP Γ.fn p ρ) (oCons (evI Γ.fn a1 ρ) (oCons (evI Γ.fn a2 ρ) (some []))) ρ by intro m; funext ρ; rw [evM,evIs,evIs,evIs]]; exact s_mut2 h1 (s_bp Γ O hE _ hp) (s_argsC hk.2.1 (hE _ _ he1) (s_argsC hk.2.2 (hE _ _ he2) s_argsN)) h2 hk.2.1 hk.2.2 h3)
      ·cases h
     ·cases h
    ·cases h
  | nil=>
   dsimp only [cMm] at h
   split at h
   ·rename_i hk
    rw [Bool.and_eq_true] at hk
    obtain ⟨h1,h2,h3⟩:=mOk_ok hk.1
    split at h
    ·rename_i e' he
     obtain ⟨p,hp,rfl⟩:=mapS h
     first | (refine offM fun ρ=>?_; rw [evM]; done) | (rw [show ∀ m,evM Γ (.mut m p (.cons e' .nil)) = fun ρ=>oMut m p.slot (evP Γ.fn p ρ) (oCons (evI Γ.fn e' ρ) (some [])) ρ by intro m; funext ρ; rw [evM,evIs,evIs]]; exact s_mut1 h1 (s_bp Γ O hE _ hp) (hE _ _ he) h2 hk.2 h3)
    ·split at h
     ·split at h
      ·rename_i i a' hi ha
       cases h
       first | (refine offM fun ρ=>?_; rw [evM]; done) | (rw [show ∀ m,evM Γ (.mutM m i a') = fun ρ=>oMutM m i ρ[i]? (evM Γ a' ρ) by intro m; funext ρ; conv=>lhs; rw [evM]]; exact s_mutM O h1 hi (hM _ _ ha) h2 hk.2 h3)
      ·cases h
     ·cases h
   ·cases h
theorem s_mc (O:CxOk X (tabG fns Γ) c) {fM:Expr->Option ME} {fE:Expr->Option IE} (hM:∀ e a,fM e = some a->SndM X (evM Γ a) e) (hE:∀ e ie,fE e = some ie->SndE X (evI Γ.fn ie) e) {g:Expr} {as:List Expr} {ks:List Keyword} {pos:Pos} {a:ME} (h:cMc fns c fM fE g as ks pos = some a):SndM X (evM Γ a) (.Call g as ks pos):=by
 cases ks with
 | cons _ _=>cases h
 | nil=>
  dsimp only [cMc] at h
  split at h
  ·exact s_mf fns Γ O hM hE h
  ·exact s_mm fns Γ O hM hE h
  ·cases h
theorem cMcm_ok {α:Type} {k:CmpOp->MEs->α} {fM:Expr->Option ME} {fE:Expr->Option IE} {a:Expr} {ops:List CmpOp} {bs:List Expr} {r:α} (h:cMcm k fM fE a ops bs = some r):∃ op b as,ops = [op]/\bs = [b]/\behindInMarks op b = false/\cMs fM fE [a,b] = some as/\r = k op as:=by
 cases ops with
 | nil=>cases h
 | cons op ops=>cases ops with
  | cons _ _=>cases h
  | nil=>cases bs with
   | nil=>cases h
   | cons b bs=>cases bs with
    | cons _ _=>cases h
    | nil=>
     dsimp only [cMcm] at h
     split at h
     ·cases h
     ·rename_i hm
      obtain ⟨as,ha,rfl⟩:=mapS h
      exact ⟨op,b,as,rfl,rfl,by simpa using hm,ha,rfl⟩
theorem cCoM_ok {fM:Cz->Expr->Option ME} {fE:Cz->Expr->Option IE} {fT:Cz->Expr->Option MT} {elt:Expr} {gs:List Comprehension} {scope:Scope} {p:Pos} {a:ME} (h:cCoM fns c fM fE fT elt gs scope p = some a):∃ tg iter ifs t it ts el,gs = [⟨tg,iter,ifs,0⟩]/\notSet iter = true/\compChk c scope = true/\cTg ⟨relS scope c.sc,namesOf scope,ownC scope⟩ 4 tg = some t/\cItM c (fM c) (cIt c (fE c) tg iter) tg iter = some it/\cTestsM (fT ⟨relS scope c.sc,namesOf scope,ownC scope⟩) ifs = some ts/\fM ⟨relS scope c.sc,namesOf scope,ownC scope⟩ elt = some el/\a = .comp ((fns.an p.line p.col).getD .fz) (capOf c scope) t it ts el:=by
 cases gs with
 | nil=>cases h
 | cons g gs=>cases gs with
  | cons _ _=>cases h
  | nil=>
   dsimp only [cCoM] at h
   split at h
   ·rename_i h0
    split at h
    ·rename_i hn
     rw [Bool.and_eq_true] at hn
     split at h
     ·rename_i t it ts el ht hit hts hel
      cases h
      cases g with
      | mk tg iter ifs as=>
       subst h0
       exact ⟨tg,iter,ifs,t,it,ts,el,rfl,hn.1,hn.2,ht,hit,hts,hel,rfl⟩
     ·cases h
    ·cases h
   ·cases h
theorem s_tcmp {Γt:Tab} (O:CxOk X Γt c) {op:CmpOp} {as:MEs} {x b:Expr} {p:Pos} (hm:behindInMarks op b = false) (h:Snd2M X (evMs Γ as) x b):SndTM X (evMT Γ (.cmp op as)) (.Compare x [op] [b] p):=by
  first
    | (refine offTM fun ρ=>?_; rw [evMT]; done)
    | (have:=t_cmpM (pos:=p) O hm h
       have e:evMT Γ (.cmp op as) = fun ρ=>((evMs Γ as ρ).bind fun p=>(match p.1 with | [x,y]=>(cmpD op x.2 y.2).map fun b=>(b,p.2) | _=>none)):=by
         funext ρ
         rw [evMT]
         unfold oTCmp
         cases evMs Γ as ρ with
         | none=>rfl
         | some p=>
           obtain ⟨kds,ρ'⟩:=p
           dsimp only [Option.bind_some]
           match kds with
           | []=>rfl
           | [_]=>rfl
           | [x,y]=>dsimp only; cases cmpD op x.2 y.2 <;> rfl
           | _ :: _ :: _ :: _=>rfl
       rw [e]
       exact this)
theorem tru_ok {f:Expr->Option ME} (hM:∀ e a,f e = some a->SndM X (evM Γ a) e) {e:Expr} {t:MT} (h:(f e).map MT.tru = some t) (hp:∀ whole,isTrue e X.env whole = (do let v <- whole; standAt e.pos; holding [v] (truthy v))):SndTM X (evMT Γ t) e:=by
 obtain ⟨a',ha,rfl⟩:=mapS h
 first | (refine offTM fun ρ=>?_; rw [evMT]; done) | (rw [show evMT Γ (.tru a') = fun ρ=>oTTru (evM Γ a' ρ) by funext ρ; conv=>lhs; rw [evMT]]; exact t_truM (hM _ _ ha) hp)
theorem snd_m:∀ n:Nat,(∀ X c,CxOk X (tabG fns Γ) c->∀ e a,cM fns n c e = some a->SndM X (evM Γ a) e)/\(∀ X c,CxOk X (tabG fns Γ) c->∀ e t,cMT fns n c e = some t->SndTM X (evMT Γ t) e)
 | 0=>⟨fun X c O e a h=>by (unfold cM at h; cases h),fun X c O e a h=>by (unfold cMT at h; cases h)⟩
 | n + 1=>by
  obtain ⟨ihM,ihT⟩:=snd_m n
  have pure:=snd_both (fm:=fmOf fns Γ) fns Γ.fn n
  refine ⟨fun X c O e a h=>?_,fun X c O e a h=>?_⟩
  ·have hE:=pure.1 X c O
   have hM:=ihM X c O
   have hT:=ihT X c O
   unfold cM at h
   split at h
   ·rename_i ie hi
    cases h
    exact m_pure Γ (hE _ _ hi)
   ·cases e with
    | Name x p=>exact s_mN fns Γ O h
    | Call g as ks pos=>exact s_mc fns Γ O hM hE h
    | Tuple es k p=>
     obtain ⟨as,ha,rfl⟩:=mapS (show (cMs (cM fns n c) (cE fns n c) es).map (.tup (fns.kT p)) = some a from h)
     first | (refine offM fun ρ=>?_; rw [evM]; done) | (rw [show ∀ k,evM Γ (.tup k as) = fun ρ=>oS (fun kds=>oTup k (some kds)) (evMs Γ as ρ) by intro k; funext ρ; rw [evM],oS_bind]; exact n_tup.m (s_msL Γ hM hE ha))
    | List es p=>
     obtain ⟨as,ha,rfl⟩:=mapS (show (cMs (cM fns n c) (cE fns n c) es).map (.lst (fns.kL p)) = some a from h)
     first | (refine offM fun ρ=>?_; rw [evM]; done) | (rw [show ∀ k,evM Γ (.lst k as) = fun ρ=>oS (fun kds=>oLst k (some kds)) (evMs Γ as ρ) by intro k; funext ρ; rw [evM],oS_bind]; exact n_lst.m (s_msL Γ hM hE ha))
    | BinOp x op y p=>
     obtain ⟨as,ha,rfl⟩:=mapS (show (cMs (cM fns n c) (cE fns n c) [x,y]).map (.bin op) = some a from h)
     first | (refine offM fun ρ=>?_; rw [evM]; done) | (rw [show ∀ op,evM Γ (.bin op as) = fun ρ=>oS (f2 (binD op)) (evMs Γ as ρ) by intro k; funext ρ; rw [evM],oS_bind]; exact n_bin.m (s_ms2 Γ hM hE ha))
    | Compare x ops bs p=>
     obtain ⟨op,b,as,rfl,rfl,hm,ha,rfl⟩:=cMcm_ok (show cMcm ME.cmp (cM fns n c) (cE fns n c) x ops bs = some a from h)
     first | (refine offM fun ρ=>?_; rw [evM]; done) | (rw [show ∀ op,evM Γ (.cmp op as) = fun ρ=>oS (f2 fun x y=>bV (cmpD op x.2 y.2)) (evMs Γ as ρ) by intro k; funext ρ; rw [evM],oS_bind]; exact (n_cmp O hm).m (s_ms2 Γ hM hE ha))
    | Subscript x b p=>
     dsimp only at h
     split at h
     ·rename_i hp
      obtain ⟨as,ha,rfl⟩:=mapS h
      first | (refine offM fun ρ=>?_; rw [evM]; done) | (rw [show evM Γ (.ix as) = fun ρ=>oS (f2 fIx) (evMs Γ as ρ) by funext ρ; rw [evM],oS_bind]; exact (n_ix O hp).m (s_ms2 Γ hM hE ha))
     ·split at h
      ·rename_i hi hhi
       obtain ⟨p2,rfl⟩:=hiOf_is hhi
       obtain ⟨as,ha,rfl⟩:=mapS h
       first | (refine offM fun ρ=>?_; rw [evM]; done) | (rw [show evM Γ (.slh as) = fun ρ=>oS (f2 fSlh) (evMs Γ as ρ) by funext ρ; rw [evM],oS_bind]; exact n_slh.m (s_ms2 Γ hM hE ha))
      ·cases h
    | IfExp t x b p=>
     dsimp only at h
     split at h
     ·rename_i t' a' b' ht ha hb
      cases h
      first | (refine offM fun ρ=>?_; rw [evM]; done) | (rw [show evM Γ (.ifx t' a' b') = fun ρ=>oIfM (evMT Γ t' ρ) (evM Γ a') (evM Γ b') by funext ρ; conv=>lhs; rw [evM]]; exact s_ifM (hT _ _ ht) (hM _ _ ha) (hM _ _ hb))
     ·cases h
    | ListComp elt gs scope p=>
     obtain ⟨tg,iter,ifs,t,it,ts,el,rfl,hn1,hn2,ht,hit,hts,hel,rfl⟩:=cCoM_ok fns (show cCoM fns c (cM fns n) (cE fns n) (cMT fns n) elt gs scope p = some a from h)
     have CO:=cx_comp O hn2
     first | (refine offM fun ρ=>?_; rw [evM]; done) | (rw [show ∀ r cap,evM Γ (.comp r cap t it ts el) = fun ρ=>oCompM r (evMI Γ it ρ) (eltM cap t (evMO Γ ts) (evM Γ el)) cap by intro r cap; funext ρ; conv=>lhs; rw [evM]]; exact s_compM O hn2 hn1 (s_itMI fns Γ O hM hE hit) ht (fun C s H ex=>s_testsM Γ (ihT _ _ (CO C s H ex)) hts) (fun C s H ex=>ihM _ _ (CO C s H ex) _ _ hel))
    | _=>cases h
  ·have hE:=pure.1 X c O
   have hM:=ihM X c O
   have hT:=ihT X c O
   unfold cMT at h
   split at h
   ·rename_i ie hi
    split at h
    ·cases h
     have:=(pure.2 X c O _ _ hi).m
     rw [show (fun ρ=>(evIT Γ.fn ie ρ).map fun p=>(p,ρ)) = evMT Γ (.p ie) by funext ρ; rw [evMT]; unfold oTb; cases evIT Γ.fn ie ρ <;> rfl] at this
     exact this
    ·rename_i i is _
     cases h
     first | (refine offTM fun ρ=>?_; rw [evMT]; done) | (rw [show evMT Γ (.vw (i :: is) ie) = fun ρ=>oTb (evIT Γ.fn ie (frzN (i :: is) ρ)) ρ by funext ρ; rw [evMT]]; exact t_vw (pure.2 X c O _ _ hi))
   ·cases e with
    | Compare x ops bs p=>
     obtain ⟨op,b,as,rfl,rfl,hm,ha,rfl⟩:=cMcm_ok (show cMcm MT.cmp (cM fns n c) (cE fns n c) x ops bs = some a from h)
     exact s_tcmp Γ O hm (s_ms2 Γ hM hE ha)
    | UnaryOp op x p=>cases op with
     | Not=>
      obtain ⟨t,ht,rfl⟩:=mapS (show (cMT fns n c x).map .not = some a from h)
      first | (refine offTM fun ρ=>?_; rw [evMT]; done) | (rw [show evMT Γ (.not t) = fun ρ=>match evMT Γ t ρ with | some (b,ρ')=>some (!b,ρ') | none=>none by funext ρ; conv=>lhs; rw [evMT]]; exact t_notM (hT _ _ ht))
     | _=>cases h
    | BoolOp op es p=>
     obtain ⟨ts,ht,rfl⟩:=mapS (show (cTs (cMT fns n c) es).map (.bool op) = some a from h)
     first | (refine offTM fun ρ=>?_; rw [evMT]; done) | (rw [show ∀ op,evMT Γ (.bool op ts) = evMTs Γ op ts by intro op; funext ρ; conv=>lhs; rw [evMT]]; exact fun ρ b ρ' h g σ H Q se q=>fun pins s I=>w_boolM Γ hT _ _ ht ρ b ρ' h g σ H Q se q _ pins s I)
    | Call f as ks p=>exact tru_ok Γ hM (show (cM fns n c (.Call f as ks p)).map .tru = some a from h) (fun _=>rfl)
    | Subscript x b p=>exact tru_ok Γ hM (show (cM fns n c (.Subscript x b p)).map .tru = some a from h) (fun _=>rfl)
    | Name x p=>exact tru_ok Γ hM (show (cM fns n c (.Name x p)).map .tru = some a from h) (fun _=>rfl)
    | Constant k j p=>exact tru_ok Γ hM (show (cM fns n c (.Constant k j p)).map .tru = some a from h) (fun _=>rfl)
    | _=>cases h
end
end J
namespace J
open PySem PySem.Spec L2
inductive Res where
 | nx (ρ:Ro) | rt (kd:Kd) (d:D) (ρ:Ro) | ct (ρ:Ro) | bk (ρ:Ro)
noncomputable def PinOk (pn:List Nat) (σ σ':L2.St):Prop:=∀ i ∈ pn,σ'[i]? = σ[i]?
noncomputable def EndM (K:PySem.W.Frag) (pn:List Nat) (g:Gh) (H:Hp) (σ:L2.St) (Dn:Ends):Res->Prop
 | .nx ρ'=>∀ σ' g' H',Evo g H g' H' noF->SE K g' ρ' σ' H'->PinOk pn σ σ'->Dn.nx σ' H'
 | .rt kd d ρ'=>∀ v σ' g' H' F,Evo g H g' H' F->SE K (g'.plus F) ρ' σ' H'->PinOk pn σ σ'->VR1 K H' g' F kd d v F->Dn.rt v H'
 | .ct ρ'=>∀ σ' g' H',Evo g H g' H' noF->SE K g' ρ' σ' H'->PinOk pn σ σ'->Dn.ct σ' H'
 | .bk ρ'=>∀ σ' g' H',Evo g H g' H' noF->SE K g' ρ' σ' H'->PinOk pn σ σ'->Dn.bk σ' H'
noncomputable def wSs (X:Cx) (st:List Stmt):TS:=fun Dn σ H=>∀ pins s,Inv X pins σ H s->wpAny (model X.prog X.w) X.A (execs st X.env) (SP X pins Dn) X.xe s
noncomputable def wSt (X:Cx) (st:Stmt):TS:=fun Dn σ H=>∀ pins s,Inv X pins σ H s->wpAny (model X.prog X.w) X.A (exec st X.env) (SP X pins Dn) X.xe s
theorem pss_w {X:Cx} {st:List Stmt}:PSs X st (wSs X st):=fun pins s σ H D I h=>h pins s I
theorem ps_w {X:Cx} {st:Stmt}:PS X st (wSt X st):=fun pins s σ H D I h=>h pins s I
theorem ps_le {X:Cx} {st:Stmt} {t:TS} (p:PS X st t) {Dn:Ends} {σ:L2.St} {H:Hp} (h:t Dn σ H):wSt X st Dn σ H:=fun pins s I=>p pins s σ H Dn I h
theorem pss_le {X:Cx} {st:List Stmt} {t:TS} (p:PSs X st t) {Dn:Ends} {σ:L2.St} {H:Hp} (h:t Dn σ H):wSs X st Dn σ H:=fun pins s I=>p pins s σ H Dn I h
noncomputable def SndS (X:Cx) (pn:List Nat) (f:Ro->Option Res) (st:Stmt):Prop:=∀ ρ r,f ρ = some r->∀ g σ H Dn,SE X.K g ρ σ H->EndM X.K pn g H σ Dn r->wSt X st Dn σ H
noncomputable def SndB (X:Cx) (pn:List Nat) (f:Ro->Option Res) (st:List Stmt):Prop:=∀ ρ r,f ρ = some r->∀ g σ H Dn,SE X.K g ρ σ H->EndM X.K pn g H σ Dn r->wSs X st Dn σ H
section
variable {K:PySem.W.Frag} {H H' H1:Hp} {g g' g1:Gh} {F F1 F2:Pr} {ρ:Ro} {σ σ' σ1:L2.St} {pn:List Nat}
theorem PinOk.refl:PinOk pn σ σ:=fun _ _=>rfl
theorem PinOk.trans {σ2:L2.St} (a:PinOk pn σ σ1) (b:PinOk pn σ1 σ2):PinOk pn σ σ2:=fun i h=>(b i h).trans (a i h)
theorem PinOk.set {i:Nat} {v:Option V} (h:i ∉ pn):PinOk pn σ (σ.set i v):=fun j hj=>List.getElem?_set_ne fun z=>h (by rw [z]; exact hj)
theorem EndM.from {Dn:Ends} {r:Res} (h:EndM K pn g H σ Dn r) (ev:Evo g H g1 H1 noF) (pk:PinOk pn σ σ1):EndM K pn g1 H1 σ1 Dn r:=by
 cases r with
 | nx ρ'=>exact fun σ' g' H' e s p=>h σ' g' H' (evo_seq ev e) s (pk.trans p)
 | rt kd d ρ'=>exact fun v σ' g' H' F e s p r=>h v σ' g' H' F (evo_seq ev e) s (pk.trans p) r
 | ct ρ'=>exact fun σ' g' H' e s p=>h σ' g' H' (evo_seq ev e) s (pk.trans p)
 | bk ρ'=>exact fun σ' g' H' e s p=>h σ' g' H' (evo_seq ev e) s (pk.trans p)
theorem put1 {i:Nat} {d:D} {k:Ow} {v:V} {S:Pr} (ev:Evo g H g1 H1 F) (se:SE K (g1.plus F) ρ σ H1) (hF:∀ b,F b ↔ F1 b\/F2 b) (dj:∀ b,F1 b->¬ F2 b) (hS:∀ b,Sx g1 F b->S b) (t:Tr K H1 S d k v F1) :
  Evo g H (g1.give F1 i) H1 F2/\SE K ((g1.give F1 i).plus F2) (ρ.set i (some ⟨false,k,d⟩)) (σ.set i (some v)) H1/\∀ b,Sx (g1.give F1 i) F2 b ↔ Sx g1 F b:=by
 have n1:∀ b,F1 b->g1 b = none:=fun b z=>(ev.tmp b ((hF b).mpr (.inl z))).1
 have hs:∀ b,Sx (g1.give F1 i) F2 b ↔ Sx g1 F b:=fun b=>by
  unfold Sx
  rw [hF b]
  constructor
  ·rintro (z | z)
   ·exact (give_S.mp z).imp id .inl
   ·exact .inr (.inr z)
  ·rintro (z | z | z)
   ·exact .inl (give_S.mpr (.inl z))
   ·exact .inl (give_S.mpr (.inr z))
   ·exact .inr z
 have hp:∀ b,Sg ((g1.give F1 i).plus F2) b ↔ Sx g1 F b:=fun b=>(plus_S b).trans (hs b)
 have sub:∀ b,Sg ((g1.give F1 i).plus F2) b->Sg (g1.plus F) b:=fun b z=>(plus_S b).mpr ((hp b).mp z)
 refine ⟨⟨ev.keep,fun b=>⟨fun e=>?_,fun e=>?_⟩,fun b j e=>?_,fun b z=>?_,ev.dom⟩,⟨fun j sl e=>?_,fun b z=>se.mu b (sub b z),by simp [se.len]⟩,hs⟩
 ·have:=(ev.out b).mp e
  rw [give_ne (fun z=>by rw [n1 b z] at this; cases this)]; exact this
 ·by_cases z:F1 b
  ·rw [give_at z] at e; cases e
  ·rw [give_ne z] at e; exact (ev.out b).mpr e
 ·by_cases z:F1 b
  ·exact (ev.tmp b ((hF b).mpr (.inl z))).2
  ·rw [give_ne z] at e; exact ev.new b j e
 ·have:=ev.tmp b ((hF b).mpr (.inr z))
  exact ⟨by rw [give_ne fun z1=>dj b z1 z]; exact this.1,this.2⟩
 ·by_cases hj:j = i
  ·subst hj
   have hlt:j < ρ.length:=by
    have:=(List.getElem?_eq_some_iff.mp e).1
    simpa using this
   rw [List.getElem?_set_self hlt] at e
   cases e
   refine ⟨v,F1,List.getElem?_set_self (by rw [<- se.len]; exact hlt),fun b z=>sl_plus (give_at z) (dj b z),t.go (fun _ _ _ e=>e) fun b o _ n z=>n (hS b ((hp b).mp z))⟩
  ·rw [List.getElem?_set_ne (Ne.symm hj)] at e ⊢
   obtain ⟨w,Fj,e1,e2,e3⟩:=se.slot j sl e
   refine ⟨w,Fj,e1,fun b z=>?_,e3.go (fun _ _ _ e=>e) fun b o _ n z=>n (sub b z)⟩
   have q:=plus_sl (e2 b z)
   have nF:¬ F b:=fun z2=>by rw [(ev.tmp b z2).1] at q; cases q
   refine sl_plus ?_ fun z2=>nF ((hF b).mpr (.inr z2))
   rw [give_ne fun z2=>nF ((hF b).mpr (.inl z2))]; exact q
noncomputable def kOf:Kd->Ow
 | .fr k=>k
 | _=>.fz
theorem VR1.tr {kd:Kd} {d:D} {v:V} (hb:isBo kd = false) (h:VR1 K H g F kd d v F):Tr K H (Sx g F) d (kOf kd) v F:=by
 cases kd with
 | sh=>
  have e:F = noF:=by funext b; exact propext ⟨h.1 b,fun z=>z.elim⟩
  rw [show kOf .sh = .fz from rfl]
  have:=Tr.fz h.2
  rw [e] at this ⊢
  exact this
 | fr k=>exact h
 | bo i k=>cases hb
end
noncomputable def noComp:Expr->Bool
 | .ListComp .. | .SetComp .. | .DictComp ..=>false
 | _=>true
theorem swap_ok {e:Expr} {t:Option Expr} {n:Nat} {env:Env} (h:noComp e = true):swapsWith e t n env = pure false:=by
 cases e <;> first | rfl | cases h
noncomputable def noTup:Expr->Bool
 | .Tuple ..=>false
 | _=>true
theorem swapT_sole {es:List Expr} {k:Nat} {tp:Pos} {e:Expr} {n:Nat} {env:Env}:swapsWithSole [.Tuple es k tp] e n env = pure false:=by
 cases e <;> rfl
theorem swapT_st {es:List Expr} {k:Nat} {tp:Pos} {e:Expr} {env:Env} (h:noTup e = true):swappedStores [.Tuple es k tp] e env = pure none:=by
 cases e <;> first | rfl | cases h
noncomputable def oAsg (pn:List Nat) (i:Nat) (a:MR):Option Res:=match a with
 | some (kd,d,ρ1)=>if isBo (imK kd d) = true\/i ∈ pn then none else some (.nx (ρ1.set i (some ⟨false,kOf (imK kd d),d⟩)))
 | none=>none
section
variable {X:Cx} {Γ:Tab} {c:Cz} {pn:List Nat}
theorem asg_post {K:PySem.W.Frag} {g g1:Gh} {H H1:Hp} {F:Pr} {ρ1:Ro} {σ:L2.St} {i:Nat} {kd:Kd} {d:D} {v:V} {r:Res} {Dn:Ends} (h:oAsg pn i (some (kd,d,ρ1)) = some r) (q:EndM K pn g H σ Dn r) (ev:Evo g H g1 H1 F) (se:SE K (g1.plus F) ρ1 σ H1) (vr:VR1 K H1 g1 F kd d v F):Dn.nx (σ.set i (some v)) H1:=by
 unfold oAsg at h
 dsimp only at h
 split at h
 ·cases h
 ·rename_i hb
  cases h
  rw [not_or] at hb
  have vr1:=vr.im se.mu
  obtain ⟨c1,c2,_⟩:=put1 (i:=i) (F2:=noF) ev se (fun b=>⟨.inl,fun z=>z.elim id fun z=>z.elim⟩) (fun _ _ z=>z) (fun _ z=>z) (vr1.tr (by simpa using hb.1))
  exact q _ _ H1 c1 (by rw [plus_no fun _ z=>z] at c2; exact c2) (PinOk.set hb.2)
theorem s_asg (O:CxOk X Γ c) {f:Ro->MR} {x:Str} {i:Nat} {e:Expr} {p pos:Pos} (hl:locB c x = true) (hi:ixOf x c.N = some i) (hn:noComp e = true) (hf:SndM X f e):SndS X pn (fun ρ=>oAsg pn i (f ρ)) (.Assign [.Name x p] e pos):=by
 intro ρ r h g σ H Dn se q
 have l:=loc_of O hl
 cases hf':f ρ with
 | none=>dsimp only at h; rw [hf'] at h; cases h
 | some w=>
  obtain ⟨kd,d,ρ1⟩:=w
  dsimp only at h
  rw [hf'] at h
  exact ps_le (ps_set (i:=i) (by rw [O.N]; exact O.nd) (by rw [O.N]; exact ixOf_get hi) l.1 pe_w (swap_ok hn) l.2) (hf ρ kd d ρ1 hf' g σ H _ se fun v g1 H1 F ev se1 vr=>asg_post h q ev se1 vr)
noncomputable def tgsN:List Nat->TGs
 | []=>gNil
 | i :: is=>gCons (gName i) (tgsN is)
noncomputable def putN:List Nat->List D->List Ow->Ow->Ro->Ro
 | i :: is,d :: ds,es,r,ρ=>putN is ds es.tail r (ρ.set i (some ⟨false,es.headD r,d⟩))
 | _,_,_,_,ρ=>ρ
theorem putN_run {K:PySem.W.Frag} {g:Gh} {H H1:Hp} {σ0:L2.St} {Q:L2.St->Hp->Prop}:∀ {is:List Nat} {ds:List D} {es:List Ow} {r:Ow} {vs:List V} {g1:Gh} {F S:Pr} {ρ:Ro} {σ:L2.St},is.length = ds.length->(∀ i ∈ is,i ∉ pn)->Evo g H g1 H1 F->SE K (g1.plus F) ρ σ H1->(∀ b,Sx g1 F b->S b)->TrL K H1 S ds es r vs F->PinOk pn σ0 σ->
  (∀ g2 σ2,Evo g H g2 H1 noF->SE K g2 (putN is ds es r ρ) σ2 H1->PinOk pn σ0 σ2->Q σ2 H1)->tgsN is vs σ H1 Q
 | [],[],es,r,vs,g1,F,S,ρ,σ,hl,hp,ev,se,hS,t,pk,q=>by
  unfold TrL at t
  have e:F = noF:=by funext b; exact propext ⟨t.2 b,fun z=>z.elim⟩
  subst e
  exact ⟨t.1,q g1 σ ev (by rw [plus_no fun _ z=>z] at se; exact se) pk⟩
 | [],_ :: _,_,_,_,_,_,_,_,_,hl,_,_,_,_,_,_,_=>by simp at hl
 | _ :: _,[],_,_,_,_,_,_,_,_,hl,_,_,_,_,_,_,_=>by simp at hl
 | i :: is,d :: ds,es,r,vs,g1,F,S,ρ,σ,hl,hp,ev,se,hS,t,pk,q=>by
  unfold TrL at t
  obtain ⟨y,ys,F1,F2,rfl,hF,dj,t1,t2⟩:=t
  obtain ⟨c1,c2,c3⟩:=put1 (i:=i) ev se hF dj hS t1
  exact ⟨y,ys,rfl,putN_run (by simpa using hl) (fun j hj=>hp j (List.mem_cons_of_mem _ hj)) c1 c2 (fun b z=>hS b ((c3 b).mp z)) t2 (pk.trans (PinOk.set (hp i List.mem_cons_self))) q⟩
noncomputable def partsK (kd:Kd) (ds:List D):Option (List Ow × Ow):=match kd with
 | .sh=>some ([],.fz)
 | .fr (.own es r)=>some (es,r)
 | .fr .fz=>some ([],.fz)
 | .bo _ _=>if imL ds = true then some ([],.fz) else none
theorem VR1.parts {K:PySem.W.Frag} {H:Hp} {g:Gh} {F:Pr} {kd:Kd} {hd:Hd} {ds:List D} {v:V} {es:List Ow} {r:Ow} (hh:hd = .tup\/hd = .lst) (hk:partsK kd ds = some (es,r)) (m:MuOk H (Sx g F)) (h:VR1 K H g F kd (.nd hd ds) v F):∃ a o xs F',v = .ref a/\H a = some o/\HdOk K o hd xs/\(∀ b,F' b->F b)/\TrL K H (Sx g F) ds es r xs F':=by
 have fl:∀ {d:List D} {xs:List V},RpL K H (Sx g F) d xs->TrL K H (Sx g F) d [] .fz xs noF:=fun h=>.ofFlat (fun e z=>by cases z) h
 cases kd with
 | sh=>
  cases hk
  obtain ⟨a,o,xs,rfl,_,g1,q1,rl⟩:=h.2.nd
  exact ⟨a,o,xs,noF,rfl,g1,q1,fun _ z=>z.elim,fl rl⟩
 | fr k=>
  cases k with
  | fz=>
   cases hk
   obtain ⟨a,o,xs,rfl,_,g1,q1,rl⟩:=(Tr.fz_inv h).2.nd
   exact ⟨a,o,xs,noF,rfl,g1,q1,fun _ z=>z.elim,fl rl⟩
  | own es' r'=>
   cases hk
   have h':Tr K H (Sx g F) (.nd hd ds) (.own es r) v F:=h
   unfold Tr at h'
   obtain ⟨a,o,xs,F',rfl,g1,q1,_,_,hF,t⟩:=h'
   exact ⟨a,o,xs,F',rfl,g1,q1,fun b z=>(hF b).mpr (.inr z),t⟩
 | bo i k=>
  simp only [partsK] at hk
  split at hk
  ·rename_i hi
   cases hk
   obtain ⟨a,o,xs,rfl,_,g1,q1,rl⟩:=h.rd.nd
   exact ⟨a,o,xs,noF,rfl,g1,q1,fun _ z=>z.elim,fl (rl.im m hi)⟩
  ·cases hk
noncomputable def oUnp (pn:List Nat) (is:List Nat) (a:MR):Option Res:=match a with
 | some (kd,.nd .tup ds,ρ1)=>(match partsK kd ds with | some (es,r)=>if is.length = ds.length/\(is.all fun i=>!pn.contains i) = true then some (.nx (putN is ds es r ρ1)) else none | none=>none)
 | some (kd,.nd .lst ds,ρ1)=>(match partsK kd ds with | some (es,r)=>if is.length = ds.length/\(is.all fun i=>!pn.contains i) = true then some (.nx (putN is ds es r ρ1)) else none | none=>none)
 | _=>none
noncomputable def cNms (c:Cz):List Expr->Option (List Nat)
 | []=>some []
 | .Name x _ :: r=>if locB c x then (match ixOf x c.N,cNms c r with | some i,some is=>some (i :: is) | _,_=>none) else none
 | _=>none
theorem pgs_nms (O:CxOk X Γ c):∀ {es:List Expr} {is:List Nat},cNms c es = some is->PGs X es (tgsN is)/\(assignEach es X.env).length = is.length/\(assignEach es X.env).findIdx? (·.1) = none
 | [],is,h=>by cases h; exact ⟨pgs_nil,rfl,rfl⟩
 | e :: es,is,h=>by
  cases e with
  | Name x p=>
   unfold cNms at h
   split at h
   ·rename_i hl
    split at h
    ·rename_i i is' hi his
     cases h
     have l:=loc_of O hl
     obtain ⟨g1,g2,g3⟩:=pgs_nms O his
     refine ⟨pgs_cons (pg_name (i:=i) (by rw [O.N]; exact O.nd) (by rw [O.N]; exact ixOf_get hi) l.1 l.2) g1,?_,?_⟩
     ·show (assignEach es X.env).length + 1 = _
      rw [g2]; rfl
     ·show ((false,assign (.Name x p) X.env) :: assignEach es X.env).findIdx? (·.1) = none
      rw [List.findIdx?_cons]
      simp [g3]
    ·cases h
   ·cases h
  | _=>cases h
theorem s_unp (O:CxOk X Γ c) {f:Ro->MR} {es:List Expr} {is:List Nat} {k:Nat} {e:Expr} {tp pos:Pos} (hf:SndM X f e) (h1:cNms c es = some is) (hn:noTup e = true):SndS X pn (fun ρ=>oUnp pn is (f ρ)) (.Assign [.Tuple es k tp] e pos):=by
 intro ρ r h g σ H Dn se q
 obtain ⟨g1,g2,g3⟩:=pgs_nms O h1
 have pin:(is.all fun i=>!pn.contains i) = true->∀ i ∈ is,i ∉ pn:=fun h i hi=>by
  have:=List.all_eq_true.mp h i hi
  simpa using this
 dsimp only [oUnp] at h
 split at h
 ·rename_i kd ds ρ1 he
  split at h
  ·rename_i ks r0 hk
   split at h
   ·rename_i hl
    cases h
    refine ps_le (ps_asg pe_w (pg_tup O.calm g1 g2 g3) swapT_sole (swapT_st hn)) (hf ρ _ _ _ he g σ H _ se fun v g' H1 F ev se1 vr=>?_)
    obtain ⟨a,o,xs,F',rfl,ga,qa,sF,t⟩:=vr.parts (.inl rfl) hk fun b z=>se1.mu b ((plus_S b).mpr z)
    cases (show o = _ from qa)
    refine ⟨a,xs,rfl,.of ga,by rw [t.len,hl.1],putN_run hl.1 (pin hl.2) (ev.drop sF) (se1.drop sF fun b z=>(ev.tmp b z).1) (fun b z=>z.imp id (sF b)) t PinOk.refl fun g2 σ2 e2 s2 p2=>q σ2 g2 H1 e2 s2 p2⟩
   ·cases h
  ·cases h
 ·rename_i kd ds ρ1 he
  split at h
  ·rename_i ks r0 hk
   split at h
   ·rename_i hl
    cases h
    refine ps_le (ps_asg pe_w (pg_lst O.calm g1 g2 g3) swapT_sole (swapT_st hn)) (hf ρ _ _ _ he g σ H _ se fun v g' H1 F ev se1 vr=>?_)
    obtain ⟨a,o,xs,F',rfl,ga,qa,sF,t⟩:=vr.parts (.inr rfl) hk fun b z=>se1.mu b ((plus_S b).mpr z)
    cases (show o = _ from qa)
    refine ⟨a,xs,rfl,.of ga,by rw [t.len,hl.1],putN_run hl.1 (pin hl.2) (ev.drop sF) (se1.drop sF fun b z=>(ev.tmp b z).1) (fun b z=>z.imp id (sF b)) t PinOk.refl fun g2 σ2 e2 s2 p2=>q σ2 g2 H1 e2 s2 p2⟩
   ·cases h
  ·cases h
 ·cases h
noncomputable def oRet (a:MR):Option Res:=match a with
 | some (kd,d,ρ1)=>if isBo (imK kd d) = true then none else some (.rt (imK kd d) d ρ1)
 | none=>none
theorem s_ret {f:Ro->MR} {e:Expr} {pos:Pos} (hf:SndM X f e):SndS X pn (fun ρ=>oRet (f ρ)) (.Return (some e) pos):=by
 intro ρ r h g σ H Dn se q
 dsimp only [oRet] at h
 split at h
 ·rename_i kd d ρ1 he
  split at h
  ·cases h
  ·cases h
   exact ps_le (ps_ret pe_w) (hf ρ _ _ _ he g σ H _ se fun v g1 H1 F ev se1 vr=>q v σ g1 H1 F ev se1 PinOk.refl (vr.im se1.mu))
 ·cases h
noncomputable def oExp (a:MR):Option Res:=match a with
 | some (_,_,ρ1)=>some (.nx ρ1)
 | none=>none
theorem s_exp {f:Ro->MR} {e:Expr} {pos:Pos} (hn:noComp e = true) (hf:SndM X f e):SndS X pn (fun ρ=>oExp (f ρ)) (.Expr e pos):=by
 intro ρ r h g σ H Dn se q
 dsimp only [oExp] at h
 split at h
 ·rename_i kd d ρ1 he
  cases h
  refine ps_le (ps_expr pe_w (swap_ok hn)) (hf ρ _ _ _ he g σ H _ se fun v g1 H1 F ev se1 vr=>q σ g1 H1 (ev.drop fun _ z=>z.elim) ?_ PinOk.refl)
  have:=se1.drop (F2:=noF) (fun _ z=>z.elim) fun b z=>(ev.tmp b z).1
  rw [plus_no fun _ z=>z] at this
  exact this
 ·cases h
theorem s_doc {x:Str} {j:Nat} {pos pos':Pos}:SndS X pn (fun ρ=>some (.nx ρ)) (.Expr (.Constant (.str x) j pos) pos'):=by
 intro ρ r h g σ H Dn se q
 cases h
 exact ps_le ps_doc (q σ g H (.refl g H) se PinOk.refl)
noncomputable def oIfR (t:Option (Bool × Ro)) (a b:Ro->Option Res):Option Res:=match t with
 | some (true,ρ)=>a ρ
 | some (false,ρ)=>b ρ
 | none=>none
theorem s_ifS {ft:Ro->Option (Bool × Ro)} {fa fb:Ro->Option Res} {t:Expr} {a b:List Stmt} {pos:Pos} (ht:SndTM X ft t) (ha:SndB X pn fa a) (hb:SndB X pn fb b):SndS X pn (fun ρ=>oIfR (ft ρ) fa fb) (.If t a b pos):=by
 intro ρ r h g σ H Dn se q
 dsimp only [oIfR] at h
 split at h
 ·rename_i ρ1 e
  exact ps_le (ps_if pt_w pss_w pss_w) (ht ρ _ _ e g σ H _ se fun g1 H1 ev se1=>iteT (ha ρ1 r h g1 σ H1 Dn se1 (q.from ev PinOk.refl)))
 ·rename_i ρ1 e
  exact ps_le (ps_if pt_w pss_w pss_w) (ht ρ _ _ e g σ H _ se fun g1 H1 ev se1=>iteF (hb ρ1 r h g1 σ H1 Dn se1 (q.from ev PinOk.refl)))
 ·cases h
noncomputable def oSeq2 (a:Option Res) (b:Ro->Option Res):Option Res:=match a with
 | some (.nx ρ)=>b ρ
 | r=>r
theorem b_nil:SndB X pn (fun ρ=>some (.nx ρ)) []:=by
 intro ρ r h g σ H Dn se q
 cases h
 exact pss_le pss_nil (q σ g H (.refl g H) se PinOk.refl)
theorem b_cons {fa fb:Ro->Option Res} {s:Stmt} {st:List Stmt} (ha:SndS X pn fa s) (hb:SndB X pn fb st):SndB X pn (fun ρ=>oSeq2 (fa ρ) fb) (s :: st):=by
 intro ρ r h g σ H Dn se q
 dsimp only at h
 refine pss_le (pss_cons ps_w pss_w) ?_
 cases e:fa ρ with
 | none=>rw [e] at h; cases h
 | some ra=>
  rw [e] at h
  cases ra with
  | nx ρ1=>exact ha ρ _ e g σ H _ se fun σ1 g1 H1 ev se1 pk=>hb ρ1 r h g1 σ1 H1 Dn se1 (q.from ev pk)
  | rt kd d ρ1=>cases h; exact ha ρ _ e g σ H _ se q
  | ct ρ1=>cases h; exact ha ρ _ e g σ H _ se q
  | bk ρ1=>cases h; exact ha ρ _ e g σ H _ se q
theorem s_cont {pos:Pos}:SndS X pn (fun ρ=>some (.ct ρ)) (.Continue pos):=by
 intro ρ r h g σ H Dn se q
 cases h
 exact ps_le ps_continue (q σ g H (.refl g H) se PinOk.refl)
theorem s_pass {pos:Pos}:SndS X pn (fun ρ=>some (.nx ρ)) (.Pass pos):=by
 intro ρ r h g σ H Dn se q
 cases h
 exact ps_le ps_pass (q σ g H (.refl g H) se PinOk.refl)
end
end J
namespace J
open PySem PySem.Spec L2
open Classical in
noncomputable def Gh.lend (g:Gh) (bs:List Nat):Gh:=fun b=>if ∃ i ∈ bs,g b = some (some i) then some none else g b
open Classical in
noncomputable def Gh.unlend (g' g:Gh) (bs:List Nat):Gh:=fun b=>if ∃ i ∈ bs,g b = some (some i) then g b else g' b
noncomputable def clrN:List Nat->Ro->Ro
 | [],ρ=>ρ
 | i :: is,ρ=>clrN is (ρ.set i none)
noncomputable def rst:List Nat->Ro->Ro->Ro
 | [],_,ρ'=>ρ'
 | i :: is,ρ,ρ'=>rst is ρ (ρ'.set i (ρ[i]?).join)
section
variable {K:PySem.W.Frag} {H H' H1:Hp} {g g' g1:Gh} {F:Pr} {ρ ρ':Ro} {σ σ':L2.St} {bs:List Nat}
theorem lend_S (b:Addr):Sg (g.lend bs) b ↔ Sg g b:=by
 unfold Gh.lend Sg
 dsimp only
 by_cases h:∃ i ∈ bs,g b = some (some i)
 ·rw [if_pos h]
  obtain ⟨i,_,e⟩:=h
  simp [e]
 ·rw [if_neg h]
theorem lend_sl {b:Addr} {j:Nat} (h:g.lend bs b = some (some j)):g b = some (some j)/\j ∉ bs:=by
 unfold Gh.lend at h
 split at h
 ·cases h
 ·rename_i n; exact ⟨h,fun z=>n ⟨j,z,h⟩⟩
theorem lend_at {b:Addr} {i:Nat} (hi:i ∈ bs) (h:g b = some (some i)):g.lend bs b = some none:=by
 unfold Gh.lend; rw [if_pos ⟨i,hi,h⟩]
theorem lend_ne {b:Addr} (h:∀ i ∈ bs,g b ≠ some (some i)):g.lend bs b = g b:=by
 unfold Gh.lend; rw [if_neg fun ⟨i,hi,e⟩=>h i hi e]
theorem clrN_len:∀ {is:List Nat} {ρ:Ro},(clrN is ρ).length = ρ.length
 | [],_=>rfl
 | i :: is,ρ=>by unfold clrN; rw [clrN_len]; simp
theorem clrN_some:∀ {is:List Nat} {ρ:Ro} {j:Nat} {sl:Sl},(clrN is ρ)[j]? = some (some sl)->ρ[j]? = some (some sl)/\j ∉ is
 | [],_,_,_,h=>⟨h,by simp⟩
 | i :: is,ρ,j,sl,h=>by
  unfold clrN at h
  obtain ⟨h1,h2⟩:=clrN_some h
  have hne:j ≠ i:=fun z=>by
   subst z
   have hlt:j < ρ.length:=by
    have:=(List.getElem?_eq_some_iff.mp h1).1
    simpa using this
   rw [List.getElem?_set_self hlt] at h1
   cases h1
  rw [List.getElem?_set_ne (Ne.symm hne)] at h1
  exact ⟨h1,by simp [hne,h2]⟩
theorem rst_len:∀ {is:List Nat} {ρ ρ':Ro},(rst is ρ ρ').length = ρ'.length
 | [],_,_=>rfl
 | i :: is,ρ,ρ'=>by unfold rst; rw [rst_len]; simp
theorem rst_some:∀ {is:List Nat} {ρ ρ':Ro} {j:Nat} {sl:Sl},(rst is ρ ρ')[j]? = some (some sl)->(j ∈ is/\ρ[j]? = some (some sl))\/(j ∉ is/\ρ'[j]? = some (some sl))
 | [],_,_,_,_,h=>.inr ⟨by simp,h⟩
 | i :: is,ρ,ρ',j,sl,h=>by
  unfold rst at h
  rcases rst_some h with ⟨h1,h2⟩ | ⟨h1,h2⟩
  ·exact .inl ⟨List.mem_cons_of_mem _ h1,h2⟩
  ·by_cases hj:j = i
   ·subst hj
    have hlt:j < ρ'.length:=by
     have:=(List.getElem?_eq_some_iff.mp h2).1
     simpa using this
    rw [List.getElem?_set_self hlt] at h2
    refine .inl ⟨List.mem_cons_self,?_⟩
    have:(ρ[j]?).join = some sl:=by simpa using h2
    cases q:ρ[j]? with
    | none=>rw [q] at this; cases this
    | some o=>rw [q] at this; have:o = some sl:=this; rw [this]
   ·rw [List.getElem?_set_ne (Ne.symm hj)] at h2
    exact .inr ⟨by simp [hj,h1],h2⟩
theorem SE.clrN (h:SE K g ρ σ H) (is:List Nat):SE K g (clrN is ρ) σ H:=⟨fun i sl e=>h.slot i sl (clrN_some e).1,h.mu,by rw [clrN_len]; exact h.len⟩
theorem SE.lend (h:SE K g ρ σ H) (bs:List Nat):SE K (g.lend bs) (J.clrN bs ρ) σ H:=by
 refine ⟨fun i sl e=>?_,fun b z=>h.mu b ((lend_S b).mp z),by rw [clrN_len]; exact h.len⟩
 obtain ⟨e1,hn⟩:=clrN_some e
 obtain ⟨v,F,q1,q2,q3⟩:=h.slot i sl e1
 refine ⟨v,F,q1,fun b z=>?_,q3.go (fun _ _ _ e=>e) fun b o _ n z=>n ((lend_S b).mp z)⟩
 have:=q2 b z
 rw [lend_ne fun j hj e=>by rw [this] at e; cases e; exact hn hj]; exact this
theorem unlend_at {b:Addr} (h:∃ i ∈ bs,g b = some (some i)):g'.unlend g bs b = g b:=by unfold Gh.unlend; rw [if_pos h]
theorem unlend_ne {b:Addr} (h:¬ ∃ i ∈ bs,g b = some (some i)):g'.unlend g bs b = g' b:=by unfold Gh.unlend; rw [if_neg h]
theorem unlend_post (h:SE K g ρ σ H) (ev:Evo (g.lend bs) H g' H' F) (se:SE K (g'.plus F) ρ' σ' H') (pk:PinOk bs σ σ') :
  Evo g H (g'.unlend g bs) H' F/\SE K ((g'.unlend g bs).plus F) (rst bs ρ ρ') σ' H'/\∀ b,Sg (g'.unlend g bs) b->Sg g' b:=by
 have ho:∀ b,(∃ i ∈ bs,g b = some (some i))->g' b = some none:=fun b ⟨i,hi,e⟩=>(ev.out b).mp (lend_at hi e)
 have sub:∀ b,Sg (g'.unlend g bs) b->Sg g' b:=fun b z=>by
  by_cases q:∃ i ∈ bs,g b = some (some i)
  ·rw [Sg,ho b q]; simp
  ·rw [Sg,unlend_ne q] at z; exact z
 have subp:∀ b,Sg ((g'.unlend g bs).plus F) b->Sg (g'.plus F) b:=fun b z=>(plus_S b).mpr (((plus_S b).mp z).imp (sub b) id)
 have hFn:∀ b,F b->¬ ∃ i ∈ bs,g b = some (some i):=fun b z q=>by have:=ho b q; rw [(ev.tmp b z).1] at this; cases this
 refine ⟨⟨fun b o n e=>ev.keep b o (fun i q=>n i (lend_sl q).1) e,fun b=>⟨fun e=>?_,fun e=>?_⟩,fun b j e=>?_,fun b z=>?_,ev.dom⟩,⟨fun j sl e=>?_,fun b z=>se.mu b (subp b z),by rw [rst_len]; exact se.len⟩,sub⟩
 ·have n:¬ ∃ i ∈ bs,g b = some (some i):=fun ⟨i,_,q⟩=>by rw [e] at q; cases q
  rw [unlend_ne n]
  exact (ev.out b).mp (by rw [lend_ne fun i hi q=>n ⟨i,hi,q⟩]; exact e)
 ·by_cases q:∃ i ∈ bs,g b = some (some i)
  ·rw [unlend_at q] at e; exact e
  ·rw [unlend_ne q] at e
   have:=(ev.out b).mpr e
   rw [lend_ne fun i hi z=>q ⟨i,hi,z⟩] at this
   exact this
 ·by_cases q:∃ i ∈ bs,g b = some (some i)
  ·obtain ⟨i,_,q⟩:=q; exact .inl ⟨i,q⟩
  ·rw [unlend_ne q] at e
   exact (ev.new b j e).imp (fun ⟨j,z⟩=>⟨j,(lend_sl z).1⟩) id
 ·have t:=ev.tmp b z
  exact ⟨by rw [unlend_ne (hFn b z)]; exact t.1,t.2.imp (fun ⟨j,z⟩=>⟨j,(lend_sl z).1⟩) id⟩
 ·rcases rst_some e with ⟨hj,e1⟩ | ⟨hj,e1⟩
  ·obtain ⟨v,Fj,q1,q2,q3⟩:=h.slot j sl e1
   refine ⟨v,Fj,by rw [pk j hj]; exact q1,fun b z=>?_,q3.go (fun b o hb e=>ev.keep b o (fun i q=>?_) e) fun b o e n z=>?_⟩
   ·have:∃ i ∈ bs,g b = some (some i):=⟨j,hj,q2 b z⟩
    exact sl_plus (by rw [unlend_at this]; exact q2 b z) fun z2=>hFn b z2 this
   ·obtain ⟨q,hn⟩:=lend_sl q
    rcases hb with hb | hb
    ·exact hb (by rw [Sg,q]; simp)
    ·rw [q2 b hb] at q; cases q; exact hn hj
   ·have gn:g b = none:=by
     cases q:g b with
     | none=>rfl
     | some x=>exact absurd (by rw [Sg,q]; simp) n
    obtain ⟨f1,f2⟩:=ev.froz e (by rw [lend_ne fun i _ z=>by rw [gn] at z; cases z]; exact gn)
    rcases (plus_S b).mp z with z | z
    ·exact sub b z f1
    ·exact f2 z
  ·obtain ⟨v,Fj,q1,q2,q3⟩:=se.slot j sl e1
   refine ⟨v,Fj,q1,fun b z=>?_,q3.go (fun _ _ _ e=>e) fun b o _ n z=>n (subp b z)⟩
   have q:=plus_sl (q2 b z)
   refine sl_plus ?_ fun z2=>by rw [(ev.tmp b z2).1] at q; cases q
   rw [unlend_ne fun z2=>by rw [ho b z2] at q; cases q]; exact q
theorem VR1.unlend {kd:Kd} {d:D} {v:V} (hb:isBo kd = false) (sub:∀ b,Sg g b->Sg g' b) (h:VR1 K H g' F kd d v F):VR1 K H g F kd d v F:=by
 have k2:∀ b,Sx g F b->Sx g' F b:=fun b z=>z.imp (sub b) id
 cases kd with
 | sh=>exact ⟨h.1,h.2.weak k2⟩
 | fr k=>exact Tr.go (fun _ _ _ e=>e) (fun b o _ n z=>n (k2 b z)) h
 | bo i k=>cases hb
theorem src_evo {s:Src} {gi:Gh} {Hi:Hp} (hp:s.P K g H1) (hf:s.from g H bs) (ev:Evo (g.lend bs) H1 gi Hi noF):s.P K gi Hi:=by
 have fz:∀ b o,H1 b = some o->¬ Sg g b->Hi b = some o/\¬ Sg gi b:=fun b o e n=>by
  have n':g.lend bs b = none:=by
   cases q:g.lend bs b with
   | none=>rfl
   | some x=>exact absurd ((lend_S b).mp (by rw [Sg,q]; simp)) n
  obtain ⟨f1,f2⟩:=ev.froz e n'
  exact ⟨ev.keep b o (fun i q=>by rw [n'] at q; cases q) e,fun z=>z f1⟩
 refine Src.mono (g:=g) (H:=H1) (fun b o e n=>(fz b o e n).2) (fun b o hb e=>?_) (fun a e=>hf.from_t e) hp
 rcases hb with hb | hb
 ·exact (fz b o e hb).1
 ·rcases hf.from_l hb with hf | ⟨i,hm,hf⟩
  ·exact (fz b o e (by rw [Sg,hf]; simp)).1
  ·exact ev.keep b o (fun j q=>by rw [lend_at hm hf] at q; cases q) e
end
noncomputable def fForM (pn fg:List Nat) (tg:IT) (fb:Ro->Option Res):List D->Ro->Option Res
 | [],ρ=>some (.nx (clrN fg ρ))
 | d :: ds,ρ=>match tgI tg d with
  | some ps=>if (ps.all fun p=>!pn.contains p.1) = true then (match fb (setAll ps (clrN fg ρ)) with
   | some (.nx ρ2)=>fForM pn fg tg fb ds ρ2
   | some (.ct ρ2)=>fForM pn fg tg fb ds ρ2
   | some (.bk ρ2)=>some (.nx (clrN fg ρ2))
   | some (.rt k d ρ2)=>some (.rt k d ρ2)
   | none=>none) else none
  | none=>none
noncomputable def tForL (J:It) (g:TG) (tb:TS):TS:=fun D σ H1=>∃ W:Nat->Nat->L2.St->Hp->Prop,(∃ m,W 0 m σ H1)/\∀ i m σ H,W i m σ H->
 (J.stop i H/\D.nx σ H)\/(J.go i H/\∃ N:L2.St->Hp->Prop,(∀ σ' H',N σ' H'->∃ m',m' < m/\W (i + 1) m' σ' H')/\∀ x H',J.yld i H x H'->g x σ H' fun σ2 H2=>tb { D with nx:=N,ct:=N,bk:=D.nx } σ2 H2)
section
variable {X:Cx} {Γ:Tab} {c:Cz} {pn:List Nat}
theorem setV_pin {K:PySem.W.Frag} {H:Hp} {S:Pr} {ps:List (Nat × D)} {vs:List (Nat × V)} {σ:L2.St} (h:RpP K H S ps vs) (hp:(ps.all fun p=>!pn.contains p.1) = true):PinOk pn σ (setV vs σ):=fun i hi=>setV_ne h fun p hp' z=>by
 have:=List.all_eq_true.mp hp p hp'
 rw [z] at this
 simp [hi] at this
theorem for_runM (O:CxOk X Γ c) {fg:List Nat} {fb:Ro->Option Res} {tg:Expr} {t:IT} {n:Nat} {body:List Stmt} (htg:cTg c n tg = some t) (hb:SndB X pn fb body) {jj:It} {src:Src} {ds:List D} {g g0:Gh} {bs:List Nat} {H H1:Hp} {Dn:Ends} {ρ:Ro} {σ:L2.St} {r:Res}
  (se:SE X.K (g.lend bs) ρ σ H1) (jt:ItOk X.K jj src ds) (sp:src.P X.K g H1) (sf:src.from g H bs) (h:fForM pn fg t fb ds ρ = some r) (q:EndM X.K pn (g.lend bs) H1 σ Dn r) :
  tForL jj (wG X tg) (wSs X body) Dn σ H1:=by
 refine ⟨fun i m σ' H'=>m = ds.length - i/\i<=ds.length/\∃ ρ' g',SE X.K g' ρ' σ' H'/\Evo (g.lend bs) H1 g' H' noF/\PinOk pn σ σ'/\fForM pn fg t fb (ds.drop i) ρ' = some r,
  ⟨ds.length,by simp,Nat.zero_le _,ρ,g.lend bs,se,.refl _ _,PinOk.refl,by simpa using h⟩,?_⟩
 rintro i m σ' H' ⟨rfl,hi',ρ',g',se',ev',pk',hrest⟩
 obtain ⟨j1,j2⟩:=jt i g' H' (src_evo sp sf ev') se'.mu
 by_cases hlt:i < ds.length
 ·have hd:ds[i]? = some ds[i]:=List.getElem?_eq_getElem hlt
  obtain ⟨go,yl⟩:=j2 _ hd
  rw [List.drop_eq_getElem_cons hlt] at hrest
  unfold fForM at hrest
  split at hrest
  ·rename_i ps hps
   split at hrest
   ·rename_i hpn
    refine .inr ⟨go,fun σ2 H2=>ds.length - (i + 1) = ds.length - (i + 1)/\i + 1<=ds.length/\∃ ρ' g',SE X.K g' ρ' σ2 H2/\Evo (g.lend bs) H1 g' H2 noF/\PinOk pn σ σ2/\fForM pn fg t fb (ds.drop (i + 1)) ρ' = some r,fun σ2 H2 hN=>⟨ds.length - (i + 1),by omega,hN⟩,fun x H2 hy=>?_⟩
    obtain ⟨s2,rx⟩:=yl x H2 hy
    refine pg_le (pg_IT O n htg) (gIT_run hps rx fun vs hvs=>?_)
    have se2:=SE.setAll hvs ((se'.clrN fg).same s2)
    have ev2:Evo (g.lend bs) H1 g' H2 noF:=evo_seq ev' (evo_same s2 (fun _ z=>z.elim) fun _ z=>z.elim)
    have pk2:=pk'.trans (setV_pin (σ:=σ') hvs hpn)
    split at hrest
    ·rename_i ρ2 hbody
     exact hb _ _ hbody g' _ H2 _ se2 fun σ4 g4 H4 ev4 se4 pk4=>⟨rfl,hlt,ρ2,g4,se4,evo_seq ev2 ev4,pk2.trans pk4,hrest⟩
    ·rename_i ρ2 hbody
     exact hb _ _ hbody g' _ H2 _ se2 fun σ4 g4 H4 ev4 se4 pk4=>⟨rfl,hlt,ρ2,g4,se4,evo_seq ev2 ev4,pk2.trans pk4,hrest⟩
    ·rename_i ρ2 hbody
     cases hrest
     exact hb _ _ hbody g' _ H2 _ se2 fun σ4 g4 H4 ev4 se4 pk4=>q σ4 g4 H4 (evo_seq ev2 ev4) (se4.clrN fg) (pk2.trans pk4)
    ·rename_i k d ρ2 hbody
     cases hrest
     exact hb _ _ hbody g' _ H2 _ se2 fun v σ4 g4 H4 F4 ev4 se4 pk4 r4=>q v σ4 g4 H4 F4 (evo_seq ev2 ev4) se4 (pk2.trans pk4) r4
    ·cases hrest
   ·cases hrest
  ·cases hrest
 ·have e:i = ds.length:=by omega
  subst e
  rw [List.drop_length] at hrest
  cases hrest
  exact .inl ⟨j1 (Nat.le_refl _),q σ' g' H' ev' (se'.clrN fg) pk'⟩
noncomputable def oBack (bs:List Nat) (ρ:Ro) (r:Option Res):Option Res:=match r with
 | some (.nx ρ')=>some (.nx (rst bs ρ ρ'))
 | some (.rt k d ρ')=>if isBo k = true then none else some (.rt k d (rst bs ρ ρ'))
 | _=>none
noncomputable def oForM (pn fg:List Nat) (tg:IT) (fb:List Nat->Ro->Option Res) (it:IR):Option Res:=match it with
 | some (bs,ds,ρ)=>oBack bs ρ (fForM (pn ++ bs) fg tg (fb (pn ++ bs)) ds (clrN bs ρ))
 | none=>none
theorem PinOk.left {a b:List Nat} {σ σ':L2.St} (h:PinOk (a ++ b) σ σ'):PinOk a σ σ':=fun i hi=>h i (List.mem_append_left _ hi)
theorem PinOk.right {a b:List Nat} {σ σ':L2.St} (h:PinOk (a ++ b) σ σ'):PinOk b σ σ':=fun i hi=>h i (List.mem_append_right _ hi)
theorem s_forM (O:CxOk X Γ c) (hp:PassesOwn (model X.prog X.w) X.A X.env X.xe) {fg:List Nat} {fi:Ro->IR} {fb:List Nat->Ro->Option Res} {tg iter:Expr} {t:IT} {n:Nat} {body:List Stmt} {pos:Pos} (htg:cTg c n tg = some t) (hi:SndIM X fi tg iter) (hb:∀ pn,SndB X pn (fb pn) body) (hs:notSet iter = true) :
  SndS X pn (fun ρ=>oForM pn fg t fb (fi ρ)) (.For tg iter body [] pos):=by
 intro ρ r h g σ H Dn se q
 dsimp only [oForM] at h
 split at h
 ·rename_i bs ds ρ0 hit
  refine ps_le (ps_for hp O.calm pi_w pg_w pss_w (notSet_ok hs)) (hi ρ bs ds ρ0 hit g σ H _ se fun jj src g1 H1 ev1 se1 jt sp sf=>?_)
  have q1:=q.from ev1 PinOk.refl
  show tForL jj (wG X tg) (wSs X body) Dn σ H1
  unfold oBack at h
  split at h
  ·rename_i ρ' hf
   cases h
   refine for_runM (g0:=g1) O htg (hb _) (se1.lend bs) jt sp sf hf fun σ' g' H' ev se' pk=>?_
   obtain ⟨c1,c2,_⟩:=unlend_post (F:=noF) se1 ev (by rw [plus_no fun _ z=>z]; exact se') pk.right
   exact q1 σ' _ H' c1 (by rw [plus_no fun _ z=>z] at c2; exact c2) pk.left
  ·rename_i k d ρ' hf
   split at h
   ·cases h
   ·rename_i hk
    cases h
    refine for_runM (g0:=g1) O htg (hb _) (se1.lend bs) jt sp sf hf fun v σ' g' H' F ev se' pk vr=>?_
    obtain ⟨c1,c2,c3⟩:=unlend_post se1 ev se' pk.right
    exact q1 v σ' _ H' F c1 c2 pk.left (vr.unlend (by simpa using hk) c3)
  ·cases h
 ·cases h
end
end J
namespace J
open PySem PySem.Spec L2
section
variable {X:Cx} {Γ:Tab} {c:Cz} {pn:List Nat}
end
end J
namespace J
open PySem PySem.Spec L2
section
variable {K:PySem.W.Frag} {H:Hp} {S:Pr}
theorem TrL.setAt:∀ {ds:List D} {es:List Ow} {r:Ow} {xs:List V} {F F2:Pr} {j:Nat} {d:D} {v:V},TrL K H S ds es r xs F->j < ds.length->Tr K H S d (es.getD j r) v F2->(∀ b,F b->¬ F2 b)->∃ F3:Pr,(∀ b,F3 b->F b\/F2 b)/\TrL K H S (ds.set j d) es r (xs.set j v) F3
 | [],_,_,_,_,_,_,_,_,_,hj,_,_=>by simp at hj
 | d0 :: ds,es,r,xs,F,F2,0,d,v,h,hj,t,dj=>by
  unfold TrL at h
  obtain ⟨y,ys,F1,F3,rfl,hF,dj1,h1,h2⟩:=h
  refine ⟨fun b=>F2 b\/F3 b,fun b z=>z.elim .inr fun z=>.inl ((hF b).mpr (.inr z)),?_⟩
  show TrL K H S (d :: ds) es r (v :: ys) _
  unfold TrL
  exact ⟨v,ys,F2,F3,rfl,fun b=>Iff.rfl,fun b z1 z2=>dj b ((hF b).mpr (.inr z2)) z1,by cases es <;> simpa using t,h2⟩
 | d0 :: ds,es,r,xs,F,F2,j + 1,d,v,h,hj,t,dj=>by
  unfold TrL at h
  obtain ⟨y,ys,F1,F3,rfl,hF,dj1,h1,h2⟩:=h
  have eg:es.tail.getD j r = es.getD (j + 1) r:=by cases es <;> simp
  obtain ⟨F4,a1,a2⟩:=TrL.setAt (j:=j) (d:=d) (v:=v) (F2:=F2) h2 (by simpa using hj) (by rw [eg]; exact t) fun b z=>dj b ((hF b).mpr (.inr z))
  refine ⟨fun b=>F1 b\/F4 b,fun b z=>z.elim (fun z=>.inl ((hF b).mpr (.inl z))) fun z=>(a1 b z).imp (fun z=>(hF b).mpr (.inr z)) id,?_⟩
  show TrL K H S (d0 :: ds.set j d) es r (y :: ys.set j v) _
  unfold TrL
  refine ⟨y,_,F1,F4,rfl,fun b=>Iff.rfl,fun b z1 z2=>?_,h1,a2⟩
  rcases a1 b z2 with z | z
  ·exact dj1 b z1 z
  ·exact dj b ((hF b).mpr (.inl z1)) z
end
noncomputable def putD (es:List Ow) (r:Ow) (hd:Hd) (ds:List D) (dx:D) (x:KD):Option (Hd × List D):=match hd with
 | .lst=>(match dx with | .int z=>(match ixN ds.length z with | some j=>if fit1 (es.getD j r) x = true then some (.lst,ds.set j x.2) else none | none=>none) | _=>none)
 | .dic t ks=>none
 | _=>none
noncomputable def oPut (i:Nat) (fp:Ro->Option (Ow × D × (D->D))) (fk:Ro->Option KD) (a:MR):Option Res:=match a with
 | some (kd,d,ρ1)=>(match fp ρ1,fk ρ1,ρ1[i]? with
  | some (.own es r,.nd hd ds,up),some (_,dx),some (some ⟨false,k,_⟩)=>(match putD es r hd ds dx (imK kd d,d) with
   | some (hd',ds')=>some (.nx (ρ1.set i (some ⟨false,k,up (.nd hd' ds')⟩)))
   | none=>none)
  | _,_,_=>none)
 | none=>none
theorem swap_sole {o b e:Expr} {sp:Pos} {n:Nat} {env:Env}:swapsWithSole [.Subscript o b sp] e n env = pure false:=by
 cases e <;> rfl
theorem swap_st {o b e:Expr} {sp:Pos} {env:Env}:swappedStores [.Subscript o b sp] e env = pure none:=by
 cases e <;> rfl
section
variable {X:Cx} {Γ:Tab} {c:Cz} {pn:List Nat}
theorem put_core {K:PySem.W.Frag} {H H0:Hp} {g g0:Gh} {F F':Pr} {ρ:Ro} {σ:L2.St} {i:Nat} {k:Ow} {es:List Ow} {r:Ow} {hd:Hd} {ds:List D} {up:D->D} {a:Addr} {o:HO} {xs:List V} {x:KD} {v:V} {Dn:Ends} {hd':Hd} {ds':List D} {dx:D} {y:V} {S:Pr}
  (hpd:putD es r hd ds dx x = some (hd',ds')) (nd:NodeAt K H g F ρ σ i k es r hd ds up a o xs F') (ev:Evo g0 H0 g H F) (se:SE K (g.plus F) ρ σ H) (vr:VR1 K H g F x.1 x.2 v F) (ry:Rp K H S dx y)
  (q:EndM K pn g0 H0 σ Dn (.nx (ρ.set i (some ⟨false,k,up (.nd hd' ds')⟩)))) :
  (∃ z j,hd = .lst/\y = .int z/\o = .lst xs/\H a = some o/\ixN xs.length z = some j/\Dn.nx σ (upd H a (.lst (xs.set j v))))\/((∃ t ks,hd = .dic t ks)/\∃ H4,DPut H a y v H4/\Dn.nx σ H4):=by
 have hF:∀ b,F b->g b = none:=fun b z=>(ev.tmp b z).1
 have mm:MuOk H (Sx g F):=fun b z=>se.mu b ((plus_S b).mpr z)
 have sub:∀ (F2:Pr),(∀ b,F2 b->F b)->∀ b,Sg (g.give F2 i) b->Sg (g.plus F) b:=fun F2 s2 b z=>(plus_S b).mpr ((give_S.mp z).imp id (s2 b))
 have fin:∀ {kc:Ow},fit1 kc x = true->∃ F2:Pr,(∀ b,F2 b->F b)/\Tr K H (Sg (g.give F2 i)) x.2 kc v F2/\(∀ b,F' b->¬ F2 b):=fun {kc} hf=>by
  obtain ⟨F2,a1,a2⟩:=VR1.fit (p:=x) hf mm hF (fun b z=>z) vr
  refine ⟨F2,a1,a2 _ fun b z=>?_,fun b z1 z2=>by have:=nd.lab b z1; rw [hF b (a1 b z2)] at this; cases this⟩
  exact (give_S.mp z).elim (fun z=>.inr (.inl z)) fun z=>.inr (.inr (.inl z))
 have out:∀ {o':HO} {F2:Pr},(∀ b,F2 b->F b)->SE K (g.give F2 i) (ρ.set i (some ⟨false,k,up (.nd hd' ds')⟩)) σ (upd H a o')->Dn.nx σ (upd H a o'):=fun {o' F2} s2 s=>q σ _ _ (ev.give s2 nd.own) s PinOk.refl
 unfold putD at hpd
 split at hpd
 ·split at hpd
  ·rename_i z
   split at hpd
   ·rename_i j hj
    split at hpd
    ·rename_i hf
     cases hpd
     obtain ⟨F2,b1,b2,b3⟩:=fin hf
     have ho:o = .lst xs:=nd.ok
     have hlen:=nd.kids.len
     have hj':j < ds.length:=(ixN_seq hj).2.1
     obtain ⟨F3,c1,c2⟩:=(nd.kids.go (S':=Sg (g.give F2 i)) (fun _ _ _ e=>e) fun b o _ n z=>n (sub F2 b1 b z)).setAt hj' b2 b3
     exact .inl ⟨z,j,rfl,ry.int,ho,nd.at_,by rw [hlen]; exact hj,out b1 (nd.put (.lst (xs.set j v)) .lst _ _ F2 F3 rfl rfl (fun xs h=>by cases h) b1 c1 c2)⟩
    ·cases hpd
   ·cases hpd
  ·cases hpd
 ·cases hpd
 ·cases hpd
theorem s_put (O:CxOk X Γ c) {f:Ro->MR} {i:Nat} {fp:Ro->Option (Ow × D × (D->D))} {fk:Ro->Option KD} {b k e:Expr} {sp pos:Pos} (hf:SndM X f e) (hp:SndP X i fp b) (hk:SndE X fk k) (hpl:plainIx k = true) (hn:noComp e = true):SndS X pn (fun ρ=>oPut i fp fk (f ρ)) (.Assign [.Subscript b k sp] e pos):=by
 intro ρ r h g σ H Dn se q
 dsimp only [oPut] at h
 split at h
 ·rename_i kd d ρ1 he
  split at h
  ·rename_i es r0 hd ds up kx dx kk d0 ep ek ei
   split at h
   ·rename_i hd' ds' hpd
    cases h
    have mu:hd.mu = true:=by
     cases hd with
     | tup=>simp [putD] at hpd
     | _=>rfl
    have core:∀ v g1 H1 F,Evo g H g1 H1 F->SE X.K (g1.plus F) ρ1 σ H1->VR1 X.K H1 g1 F kd d v F->∀ v1 H2 w Fi k' d',Same H1 H2->ρ1[i]? = some (some ⟨false,k',d'⟩)->σ[i]? = some (some w)->(∀ b,Fi b->(g1.plus F) b = some (some i))->FP X.K H2 (Sg (g1.plus F)) k' w Fi (.own es r0) (.nd hd ds) v1 up->∀ y H3,Same H2 H3->VR X.K (g1.plus F) H2 H3 kx dx y->
      ∃ a o xs F',v1 = .ref a/\NodeAt X.K H3 g1 F ρ1 σ i kk es r0 hd ds up a o xs F'/\((∃ z j,hd = .lst/\y = .int z/\o = .lst xs/\H3 a = some o/\ixN xs.length z = some j/\Dn.nx σ (upd H3 a (.lst (xs.set j v))))\/((∃ t ks,hd = .dic t ks)/\∃ H4,DPut H3 a y v H4/\Dn.nx σ H4)):=by
     intro v g1 H1 F ev se1 vr v1 H2 w Fi k' d' s2 ei' ew lb fp1 y H3 s3 ry
     rw [ei] at ei'
     cases ei'
     have s23:=s2.trans s3
     have se3:=se1.same s23
     have ev3:Evo g H g1 H3 F:=⟨fun b o n e=>s23 _ _ (ev.keep b o n e),ev.out,ev.new,ev.tmp,fun b o e=>let ⟨o',q1⟩:=ev.dom b o e; ⟨o',s23 _ _ q1⟩⟩
     obtain ⟨a,o,xs,F',rfl,nd⟩:=FP.node se3 (fun b z=>(ev.tmp b z).1) ei ew lb (fp1.same s3) mu
     exact ⟨a,o,xs,F',rfl,nd,put_core (x:=(imK kd d,d)) hpd nd ev3 se3 ((vr.im se1.mu).go s23 fun _ _ _ z=>z) ry.rd q⟩
    cases hd with
    | lst=>
     refine ps_le (ps_asg pe_w (pg_sub pe_w pe_w set_list (by intro v; cases k <;> first | rfl | cases hpl)) swap_sole swap_st) ?_
     refine hf ρ _ _ _ he g σ H _ se fun v g1 H1 F ev se1 vr=>hp ρ1 _ _ _ ep (g1.plus F) σ H1 _ se1 fun v1 H2 w Fi k' d' s2 ei' ew lb fp1=>hk ρ1 _ _ ek (g1.plus F) σ H2 _ (se1.same s2) fun y H3 s3 ry=>?_
     obtain ⟨a,o,xs,F',rfl,nd,fin⟩:=core v g1 H1 F ev se1 vr v1 H2 w Fi k' d' s2 ei' ew lb fp1 y H3 s3 ry
     rcases fin with ⟨z,j,_,rfl,rfl,g3,hj,fin⟩ | ⟨⟨t,ks,z⟩,_⟩
     ·exact ⟨a,xs,z,j,rfl,rfl,g3,hj,fin⟩
     ·cases z
    | dic t ks=>simp [putD] at hpd
    | tup=>cases mu
    | obj c ns=>simp [putD] at hpd
   ·cases h
  ·cases h
 ·cases h
end
end J
namespace J
open PySem PySem.Spec L2
mutual
inductive IS where
 | asg (i:Nat) (a:ME)
 | unp (is:List Nat) (a:ME)
 | aug (i:Nat) (op:Operator) (a:ME)
 | put (b:BP) (k:IE) (a:ME)
 | ret (a:ME)
 | retN
 | ifs (t:MT) (a b:ISs)
 | fo (fg:List Nat) (tg:IT) (it:MI) (b:ISs)
 | wh (fg:List Nat) (t:MT) (b:ISs)
 | pas
 | brk
 | cnt
 | exp (a:ME)
 | pre (is:List Nat) (s:IS)
 | fap (i x:Nat) (v:Int)
inductive ISs where
 | nil
 | cons (s:IS) (r:ISs)
end
mutual
noncomputable def exS (Γ:GG) (N:Nat):IS->List Nat->Ro->Option Res
 | .asg i a,pn,ρ=>oAsg pn i (evM Γ a ρ)
 | .unp is a,pn,ρ=>oUnp pn is (evM Γ a ρ)
 | .aug i op a,pn,ρ=>none
 | .put b k a,_,ρ=>oPut b.slot (evP Γ.fn b) (evI Γ.fn k) (evM Γ a ρ)
 | .ret a,_,ρ=>oRet (evM Γ a ρ)
 | .retN,_,ρ=>none
 | .ifs t a b,pn,ρ=>oIfR (evMT Γ t ρ) (exB Γ N a pn) (exB Γ N b pn)
 | .fo fg tg it b,pn,ρ=>oForM pn fg tg (exB Γ N b) (evMI Γ it ρ)
 | .wh fg t b,pn,ρ=>none
 | .pas,_,ρ=>some (.nx ρ)
 | .brk,_,ρ=>none
 | .cnt,_,ρ=>some (.ct ρ)
 | .exp a,_,ρ=>oExp (evM Γ a ρ)
 | .pre is s,pn,ρ=>none
 | .fap i x v,pn,ρ=>none
noncomputable def exB (Γ:GG) (N:Nat):ISs->List Nat->Ro->Option Res
 | .nil,_,ρ=>some (.nx ρ)
 | .cons s r,pn,ρ=>oSeq2 (exS Γ N s pn ρ) (exB Γ N r pn)
end
theorem offS {X:Cx} {pn:List Nat} {f:Ro->Option Res} {e:Stmt} (h:∀ ρ,f ρ = none):SndS X pn f e:=fun ρ r hh=>by rw [h] at hh; cases hh
structure An where
 fg:Nat->List Nat:=fun _=>[]
 pz:Nat->List Nat:=fun _=>[]
 fa:Nat->Bool:=fun _=>false
noncomputable def cSeq (f:Stmt->Option IS):List Stmt->Option ISs
 | []=>some .nil
 | s :: r=>match f s,cSeq f r with | some a,some b=>some (.cons a b) | _,_=>none
noncomputable def stLine:Stmt->Nat
 | .Assign _ _ p=>p.line
 | .AugAssign _ _ _ p=>p.line
 | .Return _ p=>p.line
 | .Expr _ p=>p.line
 | .If _ _ _ p=>p.line
 | .For _ _ _ _ p=>p.line
 | .While _ _ _ p=>p.line
 | _=>0
noncomputable def isComp1:Expr->Bool
 | .ListComp _ gs _ _=>(match gs with | []=>false | g :: gs=>(match gs with | []=>g.is_async == 0 | _ :: _=>false))
 | _=>false
noncomputable def wrapP (l:List Nat) (s:Option IS):Option IS:=match l,s with
 | [],s=>s
 | l,some s=>some (.pre l s)
 | _,none=>none
noncomputable def isDoc:Expr->Bool
 | .Constant (.str _) _ _=>true
 | _=>false
noncomputable def cAs (fns:Nms) (m:Nat) (c:Cz) (ts:List Expr) (e:Expr):Option IS:=match ts with
 | []=>none
 | t :: ts=>match ts with
  | _ :: _=>none
  | []=>match t with
   | .Name x _=>if locB c x && (noComp e || isComp1 e) then (match ixOf x c.N,cM fns (m + 1) c e with | some i,some a=>some (.asg i a) | _,_=>none) else none
   | .Tuple es _ _=>if noTup e then (match cNms c es,cM fns (m + 1) c e with | some is,some a=>some (.unp is a) | _,_=>none) else none
   | .Subscript b k _=>if plainIx k && noComp e then (match cBP c (cE fns (m + 1) c) 6 b,cE fns (m + 1) c k,cM fns (m + 1) c e with | some b,some k,some a=>some (.put b k a) | _,_,_=>none) else none
   | _=>none
noncomputable def cAg (fns:Nms) (m:Nat) (c:Cz) (t:Expr) (op:Operator) (e:Expr):Option IS:=match t with
 | .Name x _=>if locB c x then (match ixOf x c.N,cM fns (m + 1) c e with | some i,some a=>some (.aug i op a) | _,_=>none) else none
 | _=>none
noncomputable def cFap (c:Cz) (tg iter:Expr) (body:List Stmt):Option IS:=none
noncomputable def cFo (fns:Nms) (an:An) (m:Nat) (c:Cz) (rec:List Stmt->Option ISs) (tg iter:Expr) (body els:List Stmt) (p:Pos):Option IS:=match els with
 | _ :: _=>none
 | []=>if an.fa p.line then cFap c tg iter body else if notSet iter then (match cTg c 4 tg,cItM c (cM fns (m + 1) c) (cIt c (cE fns (m + 1) c) tg iter) tg iter,rec body with | some t,some it,some b=>some (.fo (an.fg p.line) t it b) | _,_,_=>none) else none
noncomputable def cS1 (fns:Nms) (an:An) (m:Nat) (c:Cz) (rec:List Stmt->Option ISs):Stmt->Option IS
 | .Assign ts e _=>cAs fns m c ts e
 | .AugAssign t op e _=>cAg fns m c t op e
 | .Return e _=>(match e with | some e=>(cM fns (m + 1) c e).map .ret | none=>some .retN)
 | .Expr e _=>if isDoc e then some .pas else if noComp e then (cM fns (m + 1) c e).map .exp else none
 | .If t a b _=>(match cMT fns (m + 1) c t,rec a,rec b with | some t,some a,some b=>some (.ifs t a b) | _,_,_=>none)
 | .For tg iter body els p=>cFo fns an m c rec tg iter body els p
 | .While t body els p=>(match els with | _ :: _=>none | []=>(match cMT fns (m + 1) c t,rec body with | some t,some b=>some (.wh (an.fg p.line) t b) | _,_=>none))
 | .Pass _=>some .pas
 | .Break _=>some .brk
 | .Continue _=>some .cnt
 | _=>none
noncomputable def cS (fns:Nms) (an:An) (m:Nat) (c:Cz):Nat->Stmt->Option IS
 | 0,_=>none
 | n + 1,s=>wrapP (an.pz (stLine s)) (cS1 fns an m c (cSeq (cS fns an m c n)) s)
noncomputable abbrev cB (fns:Nms) (an:An) (m:Nat) (c:Cz) (n:Nat):List Stmt->Option ISs:=cSeq (cS fns an m c n)
section
variable {X:Cx} {c:Cz} (fns:Nms) (Γ:GG)
theorem swap_comp {elt tg iter:Expr} {ifs:List Expr} {scope:Scope} {cp p:Pos} {x:Str} {n:Nat} {env:Env}:∃ b:Bool,swapsWith (.ListComp elt [⟨tg,iter,ifs,0⟩] scope cp) (some (.Name x p)) n env = pure b:=⟨_,rfl⟩
theorem s_asgC {pn:List Nat} (O:CxOk X (tabG fns Γ) c) {m i:Nat} {x:Str} {e:Expr} {a:ME} {p pos:Pos} (hl:locB c x = true) (hi:ixOf x c.N = some i) (hc:isComp1 e = true) (ha:cM fns (m + 1) c e = some a):SndS X pn (fun ρ=>oAsg pn i (evM Γ a ρ)) (.Assign [.Name x p] e pos):=by
 have hs:∃ elt tg iter ifs scope cp,e = .ListComp elt [⟨tg,iter,ifs,0⟩] scope cp:=by
  cases e with
  | ListComp elt gs scope cp=>cases gs with
   | nil=>cases hc
   | cons g gs=>cases gs with
    | cons _ _=>cases hc
    | nil=>
     cases g with
     | mk tg iter ifs as=>
      have h0:as = 0:=eq_of_beq (show (as == 0) = true from hc)
      subst h0
      exact ⟨_,_,_,_,_,_,rfl⟩
  | _=>cases hc
 obtain ⟨elt,tg,iter,ifs,scope,cp,rfl⟩:=hs
 have l:=loc_of O hl
 have hf:=(snd_m fns Γ (m + 1)).1 X c O _ _ ha
 intro ρ r h g σ H Dn se q
 cases hf':evM Γ a ρ with
 | none=>dsimp only at h; rw [hf'] at h; cases h
 | some w=>
  obtain ⟨kd,d,ρ1⟩:=w
  dsimp only at h
  rw [hf'] at h
  obtain ⟨b,hb⟩:=swap_comp (elt:=elt) (tg:=tg) (iter:=iter) (ifs:=ifs) (scope:=scope) (cp:=cp) (p:=p) (x:=x) (n:=pos.line) (env:=X.env)
  cases b with
  | false=>exact ps_le (ps_set (i:=i) (by rw [O.N]; exact O.nd) (by rw [O.N]; exact ixOf_get hi) l.1 pe_w hb l.2) (hf ρ kd d ρ1 hf' g σ H _ se fun v g1 H1 F ev se1 vr=>asg_post h q ev se1 vr)
  | true=>
   have fin:∀ {hck:compChk c scope = true} {hns:notSet iter = true},tCompF (wI X tg iter) (fun v σ H Q=>∀ C s H0 ex,wG (compX X (namesOf scope) scope C s H0 ex) tg v σ H Q) (fun σ H Q=>∀ C s H0 ex,wTs (compX X (namesOf scope) scope C s H0 ex) ifs σ H Q) (fun σ H Q=>∀ C s H0 ex,wE (compX X (namesOf scope) scope C s H0 ex) elt σ H Q) (capOf c scope) σ H (fun v H1=>gName i v σ H1 Dn.nx)->wSt X (.Assign [.Name x p] (.ListComp elt [⟨tg,iter,ifs,0⟩] scope cp) pos) Dn σ H:=fun {hck hns} ht=>
    ps_le (ps_setCF (N':=namesOf scope) (cap:=capOf c scope) O.calm (compChk_ok O hck) pi_w
     (fun C s H0 ex pins s' σ' H' v u Q' I r hh=>pg_w pins s' σ' H' v u Q' I r (hh C s H0 ex)) (fun C s H0 ex pins s' σ' H' Q' I hh=>hh C s H0 ex pins s' I) (fun C s H0 ex pins s' σ' H' Q' I hh=>hh C s H0 ex pins s' I) (notSet_ok hns)
     (by rw [O.N]; exact O.nd) (by rw [O.N]; exact ixOf_get hi) l.1 l.2 hb) ht
   have post:∀ v g' H' F,Evo g H g' H' F->SE X.K (g'.plus F) ρ1 σ H'->VR1 X.K H' g' F kd d v F->gName i v σ H' Dn.nx:=fun v g1 H1 F ev se1 vr=>asg_post h q ev se1 vr
   cases hce:cE fns m c (.ListComp elt [⟨tg,iter,ifs,0⟩] scope cp) with
   | some ie=>
    have ha2:some (ME.p ie) = some a:=by rw [<- ha,cM,hce]
    cases ha2
    cases m with
    | zero=>unfold cE at hce; cases hce
    | succ m=>
     have hie:cCo fns c (cE fns m) (cT fns m) elt [⟨tg,iter,ifs,0⟩] scope cp = some ie:=hce
     unfold cCo at hie
     dsimp only at hie
     rw [if_pos rfl] at hie
     split at hie
     ·rename_i hn
      rw [Bool.and_eq_true] at hn
      split at hie
      ·rename_i t it ts el ht hit hts hel
       cases hie
       have pure:=snd_both (fm:=fmOf fns Γ) fns Γ.fn m
       have CO:=cx_comp O hn.2
       have hv:evI Γ.fn (.comp ((fns.an cp.line cp.col).getD Ow.fz) (capOf c scope) t it ts el) ρ = some (kd,d)/\ρ1 = ρ:=by
        rw [evM] at hf'
        unfold oPm at hf'
        split at hf'
        ·rename_i e'
         cases hf'
         exact ⟨e',rfl⟩
        ·cases hf'
       obtain ⟨hv,rfl⟩:=hv
       unfold evI at hv
       exact fin (hck:=hn.2) (hns:=hn.1) (comp_t O hn.2 (s_itI fns Γ.fn O (pure.1 X c O) hit) ht (fun C s H ex=>s_tests Γ.fn (pure.2 _ _ (CO C s H ex)) hts) (fun C s H ex=>pure.1 _ _ (CO C s H ex) _ _ hel) hv se fun v H' s ⟨F,h1,h2⟩=>
        post v g H' F (evo_same s h1 fun b z=>mu_none se.mu (h1 b z)) (se.plus s h1 h2.dom) h2)
      ·cases hie
     ·cases hie
   | none=>
    have ha2:cCoM fns c (cM fns m) (cE fns m) (cMT fns m) elt [⟨tg,iter,ifs,0⟩] scope cp = some a:=by
     rw [cM,hce] at ha
     exact ha
    obtain ⟨tg',iter',ifs',t,it,ts,el,hq,hn1,hn2,ht,hit,hts,hel,rfl⟩:=cCoM_ok fns ha2
    cases hq
    have pure:=snd_both (fm:=fmOf fns Γ) fns Γ.fn m
    have CO:=cx_comp O hn2
    rw [evM] at hf'
    first | (cases hf'; done) | exact fin (hck:=hn2) (hns:=hn1) (compM_t O hn2 (s_itMI fns Γ O ((snd_m fns Γ m).1 X c O) (pure.1 X c O) hit) ht (fun C s H ex=>s_testsM Γ ((snd_m fns Γ m).2 _ _ (CO C s H ex)) hts) (fun C s H ex=>(snd_m fns Γ m).1 _ _ (CO C s H ex) _ _ hel) hf' se post)
theorem s_seqC {f:Stmt->Option IS} {N:Nat} (hf:∀ s a,f s = some a->∀ pn,SndS X pn (exS Γ N a pn) s):∀ {st:List Stmt} {b:ISs},cSeq f st = some b->∀ pn,SndB X pn (exB Γ N b pn) st
 | [],b,h,pn=>by
  cases h
  rw [show exB Γ N .nil pn = fun ρ=>some (.nx ρ) by funext ρ; rw [exB]]
  exact b_nil
 | s :: st,b,h,pn=>by
  unfold cSeq at h
  split at h
  ·rename_i a r ha hr
   cases h
   rw [show exB Γ N (.cons a r) pn = fun ρ=>oSeq2 (exS Γ N a pn ρ) (exB Γ N r pn) by funext ρ; conv=>lhs; rw [exB]]
   exact b_cons (hf s a ha pn) (s_seqC hf hr pn)
  ·cases h
theorem s_as (O:CxOk X (tabG fns Γ) c) {m N:Nat} {ts:List Expr} {e:Expr} {pos:Pos} {a:IS} (h:cAs fns m c ts e = some a) (pn:List Nat):SndS X pn (exS Γ N a pn) (.Assign ts e pos):=by
 have hM:=(snd_m fns Γ (m + 1)).1 X c O
 have hE:=(snd_both (fm:=fmOf fns Γ) fns Γ.fn (m + 1)).1 X c O
 cases ts with
 | nil=>cases h
 | cons t ts=>cases ts with
  | cons _ _=>cases h
  | nil=>cases t with
   | Name x p=>
    dsimp only [cAs] at h
    split at h
    ·rename_i hl
     rw [Bool.and_eq_true,Bool.or_eq_true] at hl
     split at h
     ·rename_i i a' hi ha
      cases h
      rw [show exS Γ N (.asg i a') pn = fun ρ=>oAsg pn i (evM Γ a' ρ) by funext ρ; rw [exS]]
      rcases hl.2 with hc | hc
      ·exact s_asg O hl.1 hi hc (hM _ _ ha)
      ·exact s_asgC fns Γ O hl.1 hi hc ha
     ·cases h
    ·cases h
   | Tuple es k p=>
    dsimp only [cAs] at h
    split at h
    ·rename_i hn
     split at h
     ·rename_i is a' his ha
      cases h
      first | (refine offS fun ρ=>?_; rw [exS]; done) | (rw [show exS Γ N (.unp is a') pn = fun ρ=>oUnp pn is (evM Γ a' ρ) by funext ρ; rw [exS]]; exact s_unp O (hM _ _ ha) his hn)
     ·cases h
    ·cases h
   | Subscript b k p=>
    dsimp only [cAs] at h
    split at h
    ·rename_i hn
     rw [Bool.and_eq_true] at hn
     split at h
     ·rename_i b' k' a' hb hk ha
      cases h
      first | (refine offS fun ρ=>?_; rw [exS]; done) | (rw [show exS Γ N (.put b' k' a') pn = fun ρ=>oPut b'.slot (evP Γ.fn b') (evI Γ.fn k') (evM Γ a' ρ) by funext ρ; rw [exS]]; exact s_put O (hM _ _ ha) (s_bp Γ O hE _ hb) (hE _ _ hk) hn.1 hn.2)
     ·cases h
    ·cases h
   | _=>cases h
theorem s_ag (O:CxOk X (tabG fns Γ) c) {m N:Nat} {t:Expr} {op:Operator} {e:Expr} {pos:Pos} {a:IS} (h:cAg fns m c t op e = some a) (pn:List Nat):SndS X pn (exS Γ N a pn) (.AugAssign t op e pos):=by
 have hM:=(snd_m fns Γ (m + 1)).1 X c O
 cases t with
 | Name x p=>
  dsimp only [cAg] at h
  split at h
  ·rename_i hl
   split at h
   ·rename_i i a' hi ha
    cases h
    first | (refine offS fun ρ=>?_; rw [exS]; done) | (rw [show ∀ op,exS Γ N (.aug i op a') pn = fun ρ=>oAug pn i op ρ[i]? (evM Γ a' ρ) by intro op; funext ρ; rw [exS]]; exact s_aug O hl hi (hM _ _ ha))
   ·cases h
  ·cases h
 | _=>cases h
theorem s_fapR {Γt:Tab} (O:CxOk X Γt c) (hp:PassesOwn (model X.prog X.w) X.A X.env X.xe) {N:Nat} {tg iter:Expr} {body:List Stmt} {pos:Pos} {a:IS} (h:cFap c tg iter body = some a) (pn:List Nat):SndS X pn (exS Γ N a pn) (.For tg iter body [] pos):=by cases h
theorem snd_s (O:CxOk X (tabG fns Γ) c) (hp:PassesOwn (model X.prog X.w) X.A X.env X.xe) {an:An} {m N:Nat}:∀ (n:Nat) {s:Stmt} {a:IS},cS fns an m c n s = some a->∀ pn,SndS X pn (exS Γ N a pn) s
 | 0,s,a,h,pn=>by cases h
 | n + 1,s,a,h,pn=>by
  have hM:=(snd_m fns Γ (m + 1)).1 X c O
  have hT:=(snd_m fns Γ (m + 1)).2 X c O
  have hE:=(snd_both (fm:=fmOf fns Γ) fns Γ.fn (m + 1)).1 X c O
  have hB:∀ {st:List Stmt} {b:ISs},cSeq (cS fns an m c n) st = some b->∀ pn,SndB X pn (exB Γ N b pn) st:=fun h=>s_seqC Γ (fun s a h=>snd_s O hp n h) h
  have main:∀ {a:IS},cS1 fns an m c (cSeq (cS fns an m c n)) s = some a->SndS X pn (exS Γ N a pn) s:=fun {a} h=>by
   cases s with
   | Assign ts e pos=>exact s_as fns Γ O h pn
   | AugAssign t op e pos=>exact s_ag fns Γ O h pn
   | Return e pos=>cases e with
    | some e=>
     obtain ⟨a',ha,rfl⟩:=mapS (show (cM fns (m + 1) c e).map .ret = some a from h)
     first | (refine offS fun ρ=>?_; rw [exS]; done) | (rw [show exS Γ N (.ret a') pn = fun ρ=>oRet (evM Γ a' ρ) by funext ρ; rw [exS]]; exact s_ret (hM _ _ ha))
    | none=>
     cases h
     first | (refine offS fun ρ=>?_; rw [exS]; done) | (rw [show exS Γ N .retN pn = fun ρ=>some (.rt .sh .non ρ) by funext ρ; rw [exS]]; exact s_retN)
   | Expr e pos=>
    dsimp only [cS1] at h
    split at h
    ·rename_i hd
     cases h
     rw [show exS Γ N .pas pn = fun ρ=>some (.nx ρ) by funext ρ; rw [exS]]
     unfold isDoc at hd
     split at hd
     ·exact s_doc
     ·cases hd
    ·split at h
     ·rename_i hn
      obtain ⟨a',ha,rfl⟩:=mapS h
      first | (refine offS fun ρ=>?_; rw [exS]; done) | (rw [show exS Γ N (.exp a') pn = fun ρ=>oExp (evM Γ a' ρ) by funext ρ; rw [exS]]; exact s_exp hn (hM _ _ ha))
     ·cases h
   | If t x y pos=>
    dsimp only [cS1] at h
    split at h
    ·rename_i t' a' b' ht ha hb
     cases h
     first | (refine offS fun ρ=>?_; rw [exS]; done) | (rw [show exS Γ N (.ifs t' a' b') pn = fun ρ=>oIfR (evMT Γ t' ρ) (exB Γ N a' pn) (exB Γ N b' pn) by funext ρ; conv=>lhs; rw [exS]]; exact s_ifS (hT _ _ ht) (hB ha pn) (hB hb pn))
    ·cases h
   | For tg iter body els pos=>cases els with
    | cons _ _=>cases h
    | nil=>
     dsimp only [cS1,cFo] at h
     split at h
     ·exact s_fapR Γ O hp h pn
     ·split at h
      ·rename_i hn
       split at h
       ·rename_i t' it' b' ht hit hb
        cases h
        first | (refine offS fun ρ=>?_; rw [exS]; done) | (rw [show ∀ fg,exS Γ N (.fo fg t' it' b') pn = fun ρ=>oForM pn fg t' (exB Γ N b') (evMI Γ it' ρ) by intro fg; funext ρ; conv=>lhs; rw [exS]]; exact s_forM O hp ht (s_itMI fns Γ O hM hE hit) (hB hb) hn)
       ·cases h
      ·cases h
   | While t body els pos=>cases els with
    | cons _ _=>cases h
    | nil=>
     dsimp only [cS1] at h
     split at h
     ·rename_i t' b' ht hb
      cases h
      first | (refine offS fun ρ=>?_; rw [exS]; done) | (rw [show ∀ fg,exS Γ N (.wh fg t' b') pn = fWhl fg (evMT Γ t') (exB Γ N b' pn) N by intro fg; funext ρ; conv=>lhs; rw [exS]]; exact s_whl hp (hT _ _ ht) (hB hb pn) N)
     ·cases h
   | Pass pos=>
    cases h
    first | (refine offS fun ρ=>?_; rw [exS]; done) | (rw [show exS Γ N .pas pn = fun ρ=>some (.nx ρ) by funext ρ; rw [exS]]; exact s_pass)
   | Break pos=>
    cases h
    first | (refine offS fun ρ=>?_; rw [exS]; done) | (rw [show exS Γ N .brk pn = fun ρ=>some (.bk ρ) by funext ρ; rw [exS]]; exact s_brk)
   | Continue pos=>
    cases h
    first | (refine offS fun ρ=>?_; rw [exS]; done) | (rw [show exS Γ N .cnt pn = fun ρ=>some (.ct ρ) by funext ρ; rw [exS]]; exact s_cont)
   | _=>cases h
  unfold cS at h
  unfold wrapP at h
  split at h
  ·exact main h
  ·rename_i a' ha _
   cases h
   first | (refine offS fun ρ=>?_; rw [exS]; done) | (rw [show ∀ l,exS Γ N (.pre l a') pn = fun ρ=>exS Γ N a' pn (frzN l ρ) by intro l; funext ρ; conv=>lhs; rw [exS]]; exact s_pre _ (main ha))
  ·cases h
end
end J
namespace J
open PySem PySem.Spec L2
noncomputable def Le {α:Type} (a b:Option α):Prop:=∀ r,a = some r->b = some r
theorem Le.refl {α:Type} (a:Option α):Le a a:=fun _ h=>h
structure TabF (P:Program) (w:World) (K:PySem.W.Frag) (mg:Str->Option Value) (base:Heap) (Γ:Tab) (k:Nat):Prop where
 fn:∀ x φ,Γ.fn x = some φ->∃ f fd ps,FnOk P w K mg base CX0 k f fd ps (spF K φ)/\mg x = some (.ref f)/\PySem.W.keepIn K (.ref f) = true/\Binds K fd ps []/\(x == ("__debug__":Str)) = false
 fm:∀ x sp,Γ.fm x = some sp->∃ f fd ps,FnOk P w K mg base CX0 k f fd ps (sp K)/\mg x = some (.ref f)/\PySem.W.keepIn K (.ref f) = true/\Binds K fd ps []/\(x == ("__debug__":Str)) = false
 bl:∀ x ∈ bltNames,mg x = none
 cst:∀ x d,Γ.cst x = some d->∃ u v,mg x = some u/\RelV v u/\(∀ H S,Rp K H S d v)/\(x == ("__debug__":Str)) = false
noncomputable def iniM (k:Nat) (ks:List KV2):Ro:=ks.map slP ++ List.replicate (k - ks.length) none
noncomputable def shK (d:D):KV2:=(.fz,d)
noncomputable def oDef (r:Option Res):Option KD:=match r with
 | some (.rt kd d _)=>if isBo kd = true then none else some (kd,d)
 | some (.nx _)=>some (.sh,.non)
 | _=>none
noncomputable def defI (Γ:GG) (N m k:Nat) (body:ISs) (ds:List D):Option KD:=if ds.length = m then oDef (exB Γ N body [] (iniM k (ds.map shK))) else none
noncomputable def outs (m:Nat) (pn:List Nat) (ρ:Ro):List (Option KV2):=(List.range m).map fun j=>if j ∈ pn then (match ρ[j]? with | some (some ⟨false,k,d⟩)=>some (k,d) | _=>none) else none
noncomputable def cDef (fns:Nms) (an:An) (n:Nat) (N:List Str) (st:Stmt):Option ISs:=cB fns an n ⟨defScope st,N,fun _=>true⟩ n (defBody st)
theorem start_get {N:List Str} {vs:List V} {i:Nat} (h:i < vs.length):(start N vs)[i]? = (vs.map some)[i]?:=by
 unfold L2.start
 rw [List.getElem?_append_left (by simpa using h)]
theorem ini_se {K:PySem.W.Frag} {H:Hp} {g:Gh} {N:List Str} {ks:List KV2} {vs:List V} (se:SE K g (ks.map slP) (vs.map some) H) (hl:ks.length<=N.length):SE K g (iniM N.length ks) (start N vs) H:=by
 have hv:ks.length = vs.length:=by simpa using se.len
 refine ⟨fun i sl e=>?_,se.mu,?_⟩
 ·unfold iniM at e
  by_cases hi:i < ks.length
  ·rw [List.getElem?_append_left (by simpa using hi)] at e
   obtain ⟨v,F,q1,q2,q3⟩:=se.slot i sl e
   exact ⟨v,F,by rw [start_get (by rw [<- hv]; exact hi)]; exact q1,q2,q3⟩
  ·rw [List.getElem?_append_right (by simpa using hi),List.getElem?_replicate] at e
   split at e <;> cases e
 ·unfold iniM L2.start
  simp only [List.length_append,List.length_map,List.length_replicate]
  omega
theorem sh_se {K:PySem.W.Frag} {H:Hp} {g:Gh} {ds:List D} {vs:List V} (r:RpL K H (Sg g) ds vs) (m:MuOk H (Sg g)):SE K g ((ds.map shK).map slP) (vs.map some) H:=by
 refine ⟨fun i sl e=>?_,m,by simp [r.len]⟩
 rw [List.getElem?_map,List.getElem?_map] at e
 cases q:ds[i]? with
 | none=>rw [q] at e; cases e
 | some d=>
  rw [q] at e
  cases e
  obtain ⟨v,e1,e2⟩:=r.getD q
  exact ⟨v,noF,by rw [List.getElem?_map,e1]; rfl,fun _ z=>z.elim,.fz e2⟩
theorem re_none {g:Gh} {b:Addr} {i:Nat}:g.re (fun _=>none) b ≠ some (some i):=fun e=>by
 unfold Gh.re at e
 cases q:g b with
 | none=>rw [q] at e; cases e
 | some x=>cases x <;> (rw [q] at e; cases e)
theorem re_outN {g:Gh} {b:Addr} (h:g b ≠ none):g.re (fun _=>none) b = some none:=by
 unfold Gh.re
 cases q:g b with
 | none=>exact absurd q h
 | some x=>cases x <;> rfl
theorem pure_post {K:PySem.W.Frag} {g g':Gh} {H H':Hp} {F:Pr} (ev:Evo (g.re fun _=>none) H g' H' F):Same H H'/\(∀ b,F b->H b = none)/\∀ b,Sg g b->Sg g' b:=
 ⟨fun b o e=>ev.keep b o (fun i q=>re_none q) e,fun b z=>(ev.tmp b z).2.elim (fun ⟨j,q⟩=>absurd q re_none) id,fun b z=>by rw [Sg,(ev.out b).mp (re_outN z)]; simp⟩
section
variable {P:Program} {w:World} {K:PySem.W.Frag} {mg:Str->Option Value} {base:Heap} {fns:Nms} {Γ:GG} {x qual:Str} {st:Stmt} {f:Addr} {fd:FuncData} {N ps:List Str} {k n M:Nat} {an:An} {body:ISs}
theorem def_okI (F:Fun K x qual st f fd) (S:FnScope N ps (defScope st)) (T:TabF P w K mg base (tabG fns Γ) k) (hc:cDef fns an n N st = some body) :
  FnOk P w K mg base CX0 (k + 1) f fd ps (spF K (defI Γ M ps.length N.length body)):=by
 have hN:ps.length<=N.length:=by
  have:=congrArg List.length S.pre
  rw [List.length_take] at this
  omega
 refine F.ok S (fun vs H Q E h=>?_) (fun cdv A outer s H vs Q E hr h=>?_)
 ·obtain ⟨ds,g,k',d,r,dm,hφ,q⟩:=h
  unfold defI at hφ
  split at hφ
  ·rename_i hl
   rw [r.len,hl]
  ·cases hφ
 ·obtain ⟨ds,g,k',d,r,dm,hφ,q⟩:=h
  unfold defI at hφ
  split at hφ
  ·rename_i hl
   have O:CxOk (cxOf CX0 P w K mg base N qual (defScope st) f cdv A outer s H E).nox (tabG fns Γ) ⟨defScope st,N,fun _=>true⟩:=
    ⟨rfl,rfl,fun _ _=>rfl,rfl,S.nd,⟨fun y φ hy=>by
     obtain ⟨g,gd,qs,h1,h2,h3,h4,h5⟩:=T.fn y φ hy
     exact ⟨k,g,gd,qs,h1,hr,h2,h3,h4,h5⟩,fun y φ hy=>by
     obtain ⟨g,gd,qs,h1,h2,h3,h4,h5⟩:=T.fm y φ hy
     exact ⟨k,g,gd,qs,h1,hr,h2,h3,h4,h5⟩,T.bl,(by have h:=hr.un; exact Nat.lt_of_le_of_lt (Nat.le_trans (Nat.add_le_add_left (by decide:100<=200) _) (Nat.add_le_add_right (Nat.le_add_right _ _) 200)) h),hr.gd,T.cst⟩⟩
   have m0:MuOk H (Sg (g.re fun _=>none)):=fun b z=>dm b ((re_S b).mp z)
   have r0:RpL K H (Sg (g.re fun _=>none)) ds vs:=r.weak fun b z=>(re_S b).mp z
   have se:=ini_se (N:=N) (sh_se r0 m0) (by simpa [hl] using hN)
   have sb:SndB _ [] (exB Γ M body []) (defBody st):=s_seqC Γ (fun s is h=>snd_s fns Γ O PassesOwn.never n h) hc []
   refine ⟨_,pss_w,?_⟩
   unfold oDef at hφ
   split at hφ
   ·rename_i k2 d2 ρ2 hex
    split at hφ
    ·cases hφ
    ·rename_i hb
     cases hφ
     refine sb _ _ hex _ (start N vs) H _ se fun v σ' g' H' F ev se' pk vr=>?_
     obtain ⟨p1,p2,p3⟩:=pure_post (K:=K) ev
     exact q v H' p1 ⟨F,p2,vr.unlend (by simpa using hb) p3⟩
   ·rename_i ρ' hex
    cases hφ
    refine sb _ _ hex _ (start N vs) H _ se fun σ' g' H' ev se' pk=>?_
    obtain ⟨p1,p2,p3⟩:=pure_post (K:=K) ev
    exact q .non H' p1 vNon
   ·cases hφ
  ·cases hφ
end
noncomputable def addN {α:Type} (Γ:Nat->Option α) (i:Nat) (φ:α):Nat->Option α:=fun j=>if j = i then some φ else Γ j
noncomputable abbrev GG.addI (Γ:GG) (i:Nat) (φ:Fn):GG:=⟨addN Γ.fn i φ,Γ.fm⟩
theorem spF_le {K:PySem.W.Frag} {φ ψ:Fn} (h:∀ ds,Le (ψ ds) (φ ds)) {vs:List V} {H:Hp} {Q:VK} {E:XK} (s:spF K ψ vs H Q E):spF K φ vs H Q E:=by
 obtain ⟨ds,S,k,d,h1,h2,h3,h4⟩:=s
 exact ⟨ds,S,k,d,h1,h2,h ds _ h3,h4⟩
section
variable {P:Program} {w:World} {K:PySem.W.Frag} {mg:Str->Option Value} {base:Heap} {fns:Nms} {Γ:GG} {x qual:Str} {st:Stmt} {f:Addr} {fd:FuncData} {N ps:List Str} {k n M i:Nat} {an:An} {body:ISs}
theorem TabF.up (T:TabF P w K mg base (tabG fns Γ) k):TabF P w K mg base (tabG fns Γ) (k + 1):=
  ⟨fun y φ hy=>by obtain ⟨g,gd,qs,h1,h2,h3,h4,h5⟩:=T.fn y φ hy; exact ⟨g,gd,qs,h1.mono (Nat.le_succ k),h2,h3,h4,h5⟩,
   fun y φ hy=>by obtain ⟨g,gd,qs,h1,h2,h3,h4,h5⟩:=T.fm y φ hy; exact ⟨g,gd,qs,h1.mono (Nat.le_succ k),h2,h3,h4,h5⟩,T.bl,T.cst⟩
theorem TabF.addI {ψ:Fn} (T:TabF P w K mg base (tabG fns Γ) k) (F:Fun K x qual st f fd) (S:FnScope N ps (defScope st)) (hm:mg x = some (.ref f)) (hb:Binds K fd ps []) (hd:(x == ("__debug__":Str)) = false)
  (hi:fns.fns[i]? = some x) (hc:cDef fns an n N st = some body) (hψ:∀ ds,Le (ψ ds) (defI Γ M ps.length N.length body ds)):TabF P w K mg base (tabG fns (Γ.addI i ψ)) (k + 1):=by
 refine ⟨fun y φ hy=>?_,T.up.fm,T.bl,T.cst⟩
 have hy:(ixOf y fns.fns).bind (addN Γ.fn i ψ) = some φ:=hy
 cases hj:ixOf y fns.fns with
 | none=>rw [hj] at hy; cases hy
 | some j=>
  rw [hj] at hy
  have hy':addN Γ.fn i ψ j = some φ:=hy
  unfold addN at hy'
  split at hy'
  ·rename_i e
   subst e
   cases hy'
   have hyx:y = x:=by
    have:=ixOf_get hj
    rw [hi] at this
    exact (Option.some.inj this).symm
   subst hyx
   exact ⟨f,fd,ps,(def_okI (n:=n) (an:=an) (M:=M) F S T hc).imp fun vs H Q E s=>spF_le hψ s,hm,F.kp,hb,hd⟩
  ·exact T.up.fn y φ (by show (ixOf y fns.fns).bind Γ.fn = _; rw [hj]; exact hy')
end
theorem law_sp {K:PySem.W.Frag} {φ:Fn} {H:Hp} {a:Addr} {ns:List Int} (hS:SqL K H a (ns.map V.int)) (h:φ [.scr ns] = some (.sh,.bl true)):spF K φ [.ref a] H (fun v _=>v = .bl true) fun _ _ _=>False:=by
 refine ⟨[.scr ns],fun _=>none,.sh,.bl true,.cons ?_ .nil,fun b z=>absurd rfl z,h,fun v H' _ r=>r.rd.bl⟩
 unfold Rp
 refine ⟨a,rfl,?_⟩
 rcases hS with h | h
 ·exact .inl ⟨fun z=>z rfl,h⟩
 ·exact .inr h
end J
namespace J
open PySem PySem.Spec L2
noncomputable def Wp {α:Type} (a:Option α) (Q:α->Prop):Prop:=∃ r,a = some r/\Q r
theorem Wp.mono {α:Type} {a:Option α} {Q R:α->Prop} (h:Wp a Q) (k:∀ r,Q r->R r):Wp a R:=let ⟨r,e,q⟩:=h; ⟨r,e,k r q⟩
theorem wp_some {α:Type} {r:α} {Q:α->Prop} (q:Q r):Wp (some r) Q:=⟨r,rfl,q⟩
section
variable {Γ:Nat->Option Fn} {ρ:Ro} {Q:KD->Prop}
theorem we_var {i:Nat} {s:Sl} (h:ρ[i]? = some (some s)) (q:Q (slKd i s)):Wp (evI Γ (.var i) ρ) Q:=⟨_,by rw [evI,h]; rfl,q⟩
theorem we_lit {d:D} (q:Q (.sh,d)):Wp (evI Γ (.lit d) ρ) Q:=⟨_,by rw [evI],q⟩
theorem we_bin {op:Operator} {a b:IE} (h:Wp (evI Γ a ρ) fun x=>Wp (evI Γ b ρ) fun y=>Wp (binD op x y) Q):Wp (evI Γ (.bin op a b) ρ) Q:=by
 obtain ⟨x,ex,y,ey,z,ez,q⟩:=h
 exact ⟨z,by rw [evI,ex,ey]; exact ez,q⟩
theorem we_cmp {op:CmpOp} {a b:IE} (h:Wp (evI Γ a ρ) fun x=>Wp (evI Γ b ρ) fun y=>Wp (cmpD op x.2 y.2) fun r=>Q (.sh,.bl r)):Wp (evI Γ (.cmp op a b) ρ) Q:=by
 obtain ⟨x,ex,y,ey,z,ez,q⟩:=h
 exact ⟨_,by rw [evI,ex,ey]; show bV (cmpD op x.2 y.2) = _; rw [ez]; rfl,q⟩
theorem we_lst {k:Ow} {es:IEs} (h:Wp (evIs Γ es ρ) fun kds=>Wp (oLst k (some kds)) Q):Wp (evI Γ (.lst k es) ρ) Q:=by
 obtain ⟨x,ex,z,ez,q⟩:=h
 exact ⟨z,by rw [evI,ex]; exact ez,q⟩
theorem we_tup {k:Ow} {es:IEs} (h:Wp (evIs Γ es ρ) fun kds=>Wp (oTup k (some kds)) Q):Wp (evI Γ (.tup k es) ρ) Q:=by
 obtain ⟨x,ex,z,ez,q⟩:=h
 exact ⟨z,by rw [evI,ex]; exact ez,q⟩
theorem we_ix {a b:IE} (h:Wp (evI Γ a ρ) fun x=>Wp (evI Γ b ρ) fun y=>Wp (oIx (some x) (some y)) Q):Wp (evI Γ (.ix a b) ρ) Q:=by
 obtain ⟨x,ex,y,ey,z,ez,q⟩:=h
 exact ⟨z,by rw [evI,ex,ey]; exact ez,q⟩
theorem we_sl {a:IE} {lo hi:IO} (h:Wp (evI Γ a ρ) fun x=>Wp (evIO Γ lo ρ) fun l=>Wp (evIO Γ hi ρ) fun u=>Wp (oSl (some x) (some l) (some u)) Q):Wp (evI Γ (.sl a lo hi) ρ) Q:=by
 obtain ⟨x,ex,l,el,u,eu,z,ez,q⟩:=h
 exact ⟨z,by rw [evI,ex,el,eu]; exact ez,q⟩
theorem we_fn {i:Nat} {φ:Fn} {es:IEs} (hΓ:Γ i = some φ) (h:Wp (evIs Γ es ρ) fun kds=>Wp (fFn φ kds) Q):Wp (evI Γ (.fn i es) ρ) Q:=by
 obtain ⟨x,ex,z,ez,q⟩:=h
 exact ⟨z,by rw [evI,ex,hΓ]; exact ez,q⟩
theorem we_blt {x:Str} {es:IEs} (h:Wp (evIs Γ es ρ) fun kds=>Wp (fBlt x kds) Q):Wp (evI Γ (.blt x es) ρ) Q:=by
 obtain ⟨y,ey,z,ez,q⟩:=h
 exact ⟨z,by rw [evI,ey]; exact ez,q⟩
theorem we_isi {T:Str} {a:IE} (h:Wp (evI Γ a ρ) fun x=>Wp (isiD T x.2) fun b=>Q (.sh,.bl b)):Wp (evI Γ (.isi T a) ρ) Q:=by
 obtain ⟨y,ey,z,ez,q⟩:=h
 exact ⟨_,by rw [evI,ey]; show bV (isiD T y.2) = _; rw [ez]; rfl,q⟩
theorem we_bool1 {op:BoolOp} {a:IE} (h:Wp (evI Γ a ρ) Q):Wp (evI Γ (.bool op (.cons a .nil)) ρ) Q:=by
 obtain ⟨y,ey,q⟩:=h
 exact ⟨y,by rw [evI,evIB]; exact ey,q⟩
theorem we_boolC {op:BoolOp} {a b:IE} {r:IEs} (h:Wp (evI Γ a ρ) fun x=>∃ z,x.2 = .bl z/\((op == .And) = z->Wp (evI Γ (.bool op (.cons b r)) ρ) Q)/\((op == .And) ≠ z->Q (.sh,.bl z))):Wp (evI Γ (.bool op (.cons a (.cons b r))) ρ) Q:=by
 obtain ⟨⟨k,d⟩,ey,z,hz,q1,q2⟩:=h
 have hz:d = .bl z:=hz
 subst hz
 by_cases hh:(op == .And) = z
 ·obtain ⟨y,e2,q⟩:=q1 hh
  rw [evI] at e2
  exact ⟨y,by rw [evI,evIB,ey]; exact (if_pos hh).trans e2,q⟩
 ·exact ⟨_,by rw [evI,evIB,ey]; exact if_neg hh,q2 hh⟩
theorem we_comp {r:Ow} {cap:List (Option Nat)} {tg:IT} {it:II} {ts:IO} {elt:IE} (h:Wp (evII Γ it ρ) fun p=>p.2.length<=100000/\Wp (evMap r (eltI tg (evITs Γ ts) (evI Γ elt) (capRo ρ cap)) p.2) fun ys=>Q (.fr (.own [] r),.lst ys)):Wp (evI Γ (.comp r cap tg it ts elt) ρ) Q:=by
 obtain ⟨p,ep,hl,ys,ey,q⟩:=h
 obtain ⟨bs,ds⟩:=p
 exact ⟨_,by rw [evI,ep]; show (if ds.length<=100000 then _ else _) = _; rw [if_pos hl,ey],q⟩
variable {T:Bool->Prop}
theorem wt_cmp {op:CmpOp} {a b:IE} (h:Wp (evI Γ a ρ) fun x=>Wp (evI Γ b ρ) fun y=>Wp (cmpD op x.2 y.2) T):Wp (evIT Γ (.cmp op a b) ρ) T:=by
 obtain ⟨x,ex,y,ey,z,ez,q⟩:=h
 exact ⟨_,by rw [evIT,ex,ey]; exact ez,q⟩
theorem wt_not {a:IE} (h:Wp (evIT Γ a ρ) fun b=>T (!b)):Wp (evIT Γ (.not a) ρ) T:=by
 obtain ⟨x,ex,q⟩:=h
 exact ⟨_,by rw [evIT,ex]; rfl,q⟩
theorem wt_bool1 {op:BoolOp} {a:IE} (h:Wp (evIT Γ a ρ) T):Wp (evIT Γ (.bool op (.cons a .nil)) ρ) T:=by
 obtain ⟨y,ey,q⟩:=h
 exact ⟨y,by rw [evIT,evIBT]; exact ey,q⟩
theorem wt_boolC {op:BoolOp} {a b:IE} {r:IEs} (h:Wp (evIT Γ a ρ) fun z=>((op == .And) = z->Wp (evIT Γ (.bool op (.cons b r)) ρ) T)/\((op == .And) ≠ z->T z)):Wp (evIT Γ (.bool op (.cons a (.cons b r))) ρ) T:=by
 obtain ⟨z,ey,q1,q2⟩:=h
 by_cases hh:(op == .And) = z
 ·obtain ⟨y,e2,q⟩:=q1 hh
  rw [evIT] at e2
  exact ⟨y,by rw [evIT,evIBT,ey]; exact (if_pos hh).trans e2,q⟩
 ·exact ⟨_,by rw [evIT,evIBT,ey]; exact if_neg hh,q2 hh⟩
theorem wt_tru {a:IE} (ht:truK a = true) (h:Wp (evI Γ a ρ) fun x=>Wp (truD x.2) T):Wp (evIT Γ a ρ) T:=by
 obtain ⟨x,ex,b,eb,q⟩:=h
 exact ⟨b,by rw [truK_ok ht]; show oTru (evI Γ a ρ) = _; rw [ex]; exact eb,q⟩
variable {L:List KD->Prop}
theorem ws_nil (q:L []):Wp (evIs Γ .nil ρ) L:=⟨_,by rw [evIs],q⟩
theorem ws_cons {a:IE} {r:IEs} (h:Wp (evI Γ a ρ) fun x=>Wp (evIs Γ r ρ) fun xs=>L (x :: xs)):Wp (evIs Γ (.cons a r) ρ) L:=by
 obtain ⟨x,ex,xs,exs,q⟩:=h
 exact ⟨_,by rw [evIs,ex,exs]; rfl,q⟩
theorem wo_non {P:Option Int->Prop} (q:P none):Wp (evIO Γ .non ρ) P:=⟨_,by rw [evIO],q⟩
theorem wo_som {P:Option Int->Prop} {a:IE} (h:Wp (evI Γ a ρ) fun x=>∃ i,x.2 = .int i/\P (some i)):Wp (evIO Γ (.som a) ρ) P:=by
 obtain ⟨⟨k,d⟩,ex,i,hi,q⟩:=h
 have hi:d = .int i:=hi
 subst hi
 exact ⟨_,by rw [evIO,ex]; rfl,q⟩
variable {P:List Nat × List D->Prop}
theorem wi_e {a:IE} (h:Wp (evI Γ a ρ) fun x=>Wp (oSeq (some x)) P):Wp (evII Γ (.e a) ρ) P:=by
 obtain ⟨x,ex,z,ez,q⟩:=h
 exact ⟨z,by rw [evII,ex]; exact ez,q⟩
theorem wi_enm {a:IE} (h:Wp (evI Γ a ρ) fun x=>Wp (oEnm (some x)) P):Wp (evII Γ (.enm a) ρ) P:=by
 obtain ⟨x,ex,z,ez,q⟩:=h
 exact ⟨z,by rw [evII,ex]; exact ez,q⟩
theorem wi_rng {a b:IE} (h:Wp (evI Γ a ρ) fun x=>Wp (evI Γ b ρ) fun y=>Wp (oRng (some x) (some y)) P):Wp (evII Γ (.rng a b) ρ) P:=by
 obtain ⟨x,ex,y,ey,z,ez,q⟩:=h
 exact ⟨z,by rw [evII,ex,ey]; exact ez,q⟩
end
section
variable {Q:KD->Prop} {k k':Kd} {i j:Int}
theorem wb_add (q:Q (.sh,.int (i + j))):Wp (binD .Add (k,.int i) (k',.int j)) Q:=wp_some q
theorem wb_sub (q:Q (.sh,.int (i - j))):Wp (binD .Sub (k,.int i) (k',.int j)) Q:=wp_some q
theorem wb_mul (h:i.natAbs < lim/\j.natAbs < lim) (q:Q (.sh,.int (i * j))):Wp (binD .Mult (k,.int i) (k',.int j)) Q:=⟨_,int_bin (if_pos h),q⟩
theorem wb_fdiv (h:0 < j/\j.natAbs < lim) (q:Q (.sh,.int (i / j))):Wp (binD .FloorDiv (k,.int i) (k',.int j)) Q:=⟨_,int_bin (if_pos h),q⟩
theorem wb_mod (h:0 < j) (q:Q (.sh,.int (i % j))):Wp (binD .Mod (k,.int i) (k',.int j)) Q:=⟨_,int_bin (if_pos h),q⟩
theorem wb_pow (h:0<=j/\j<=1000000/\i.natAbs < 2 ^ 64) (q:Q (.sh,.int (i ^ j.toNat))):Wp (binD .Pow (k,.int i) (k',.int j)) Q:=⟨_,int_bin (if_pos h),q⟩
theorem wb_shl (h:0<=j/\j<=1000000/\i.natAbs < lim) (q:Q (.sh,.int (i * 2 ^ j.toNat))):Wp (binD .LShift (k,.int i) (k',.int j)) Q:=⟨_,int_bin (if_pos h),q⟩
theorem wb_cat {xs ys:List D} (h:okE k xs = true/\okE k' ys = true/\xs.length + ys.length<=100000) (q:Q (.fr flatO,.lst (xs ++ ys))):Wp (binD .Add (k,.lst xs) (k',.lst ys)) Q:=⟨_,if_pos h,q⟩
variable {T:Bool->Prop}
theorem wc_lt (q:T (decide (i < j))):Wp (cmpD .Lt (.int i) (.int j)) T:=wp_some q
theorem wc_le (q:T (decide (i<=j))):Wp (cmpD .LtE (.int i) (.int j)) T:=wp_some q
theorem wc_gt (q:T (decide (j < i))):Wp (cmpD .Gt (.int i) (.int j)) T:=wp_some q
theorem wc_eqD {x y:D} (h:pok 90 x = true/\pok 90 y = true) (q:T (eqD x y)):Wp (cmpD .Eq x y) T:=⟨_,if_pos h,q⟩
theorem wc_neD {x y:D} (h:pok 90 x = true/\pok 90 y = true) (q:T (!eqD x y)):Wp (cmpD .NotEq x y) T:=⟨_,if_pos h,q⟩
theorem eqD_int:eqD (.int i) (.int j) = decide (i = j):=by
 unfold eqD py
 simp [PyData.eqv]
 try rfl
theorem wc_eq (q:T (decide (i = j))):Wp (cmpD .Eq (.int i) (.int j)) T:=wc_eqD ⟨rfl,rfl⟩ (by rw [eqD_int]; exact q)
theorem wc_ne (q:T (!decide (i = j))):Wp (cmpD .NotEq (.int i) (.int j)) T:=wc_neD ⟨rfl,rfl⟩ (by rw [eqD_int]; exact q)
theorem wc_isB {b c:Bool} (q:T (c == b)):Wp (cmpD .Is (.bl c) (.bl b)) T:=wp_some q
variable {xs:List D} {d:D} {n:Nat}
theorem wx_lst {z:Int} (hj:ixN xs.length z = some n) (hd:xs[n]? = some d) (q:Q (chK k n,d)):Wp (oIx (some (k,.nd .lst xs)) (some (k',.int z))) Q:=⟨_,by show (match ixN xs.length z with | some j=>(xs[j]?).map (fun d=>(chK k j,d)) | none=>none) = _; rw [hj]; show (xs[n]?).map _ = _; rw [hd]; rfl,q⟩
theorem wx_tup {z:Int} (hj:ixN xs.length z = some n) (hd:xs[n]? = some d) (q:Q (chK k n,d)):Wp (oIx (some (k,.nd .tup xs)) (some (k',.int z))) Q:=⟨_,by show (match ixN xs.length z with | some j=>(xs[j]?).map (fun d=>(chK k j,d)) | none=>none) = _; rw [hj]; show (xs[n]?).map _ = _; rw [hd]; rfl,q⟩
theorem ixN_nat {m:Nat} {z:Int} (h0:0<=z) (h1:z < m):ixN m z = some z.toNat:=by unfold ixN; rw [if_pos h0,if_pos h1]
end
theorem wl_len {Q:KD->Prop} {k:Kd} {d:D} {n:Nat} (h:lenD d = some n) (q:Q (.sh,.int n)):Wp (fBlt "len" [(k,d)]) Q:=by
 refine ⟨(.sh,.int n),?_,q⟩
 have e:fBlt "len" = fLen:=by unfold fBlt; rw [if_pos rfl]
 rw [e]
 unfold fLen
 dsimp only
 rw [h]
 rfl
theorem wl_min {Q:KD->Prop} {k k':Kd} {i j:Int} (q:Q (.sh,.int (if j < i then j else i))):Wp (fBlt "min" [(k,.int i),(k',.int j)]) Q:=⟨_,rfl,q⟩
theorem wl_list {Q:KD->Prop} {k:Kd} {ds:List D} (h:okE k ds = true) (q:Q (.fr flatO,.lst ds)):Wp (fBlt "list" [(k,.nd .lst ds)]) Q:=⟨_,if_pos h,q⟩
theorem wl_tuple {Q:KD->Prop} {k:Kd} {ds:List D} (h:okE k ds = true) (q:Q (.sh,.tup ds)):Wp (fBlt "tuple" [(k,.nd .lst ds)]) Q:=⟨_,if_pos h,q⟩
theorem wl_all {Q:KD->Prop} {k:Kd} {bs:List Bool} (q:Q (.sh,.bl (bs.all id))):Wp (fBlt "all" [(k,.nd .lst (bs.map D.bl))]) Q:=by
 refine ⟨(.sh,.bl (bs.all id)),?_,q⟩
 have e:fBlt "all" [(k,.nd .lst (bs.map D.bl))] = (toBools (bs.map D.bl)).map fun bs=>(Kd.sh,D.bl (bs.all id)):=rfl
 rw [e,toBools_map]
 rfl
theorem wl_repr {Q:KD->Prop} {k:Kd} {d:D} (h:rok 98 d = true/\bkD d<=200000) (q:Q (.sh,.str (py d).shown)):Wp (fBlt "repr" [(k,d)]) Q:=by
 refine ⟨(.sh,.str (py d).shown),?_,q⟩
 have e:fBlt "repr" [(k,d)] = fRepr [(k,d)]:=rfl
 rw [e]
 exact if_pos h
theorem wf_fn {φ:Fn} {kds:List KD} {Q:KD->Prop} (h:Wp (φ (kds.map (·.2))) fun r=>isBo r.1 = false/\((kds.all fun p=>okS p.1 p.2) = true\/cleanK r.1 r.2 = true)/\Q r):Wp (fFn φ kds) Q:=by
 obtain ⟨⟨kd,d⟩,e,hb,ho,q⟩:=h
 refine ⟨(kd,d),?_,q⟩
 unfold fFn
 rw [e]
 dsimp only
 by_cases ha:(kds.all fun p=>okS p.1 p.2) = true
 ·rw [if_pos ha,if_neg (by simpa using hb)]
 ·rw [if_neg ha,if_pos (ho.resolve_left ha)]
section
variable {Γ:GG} {ρ:Ro} {Q:Kd × D × Ro->Prop}
theorem wm_p {e:IE} (h:Wp (evI Γ.fn e ρ) fun x=>Q (x.1,x.2,ρ)):Wp (evM Γ (.p e) ρ) Q:=by
 obtain ⟨x,ex,q⟩:=h
 exact ⟨_,by rw [evM,ex]; rfl,q⟩
theorem wm_mv {i:Nat} {es:List Ow} {r:Ow} {d:D} (h:ρ[i]? = some (some ⟨false,.own es r,d⟩)) (q:Q (.fr (.own es r),d,ρ.set i none)):Wp (evM Γ (.mv i) ρ) Q:=⟨_,by rw [evM]; unfold oMov; rw [h]; rfl,q⟩
theorem wm_fz {i:Nat} {k:Ow} {d:D} (h:ρ[i]? = some (some ⟨false,k,d⟩)) (q:Q (.sh,d,ρ.set i (some ⟨false,.fz,d⟩))):Wp (evM Γ (.fz i) ρ) Q:=⟨_,by rw [evM]; unfold oFrz; rw [h],q⟩
theorem wm_fn {f:Nat} {φ:Fn} {as:MEs} (hφ:Γ.fn f = some φ) (h:Wp (evMs Γ as ρ) fun p=>Wp (fFn φ p.1) fun r=>Q (r.1,r.2,p.2)):Wp (evM Γ (.fn f as) ρ) Q:=by
 obtain ⟨⟨kds,ρ1⟩,ea,r,er,q⟩:=h
 exact ⟨_,by rw [evM,hφ]; show oS (fFn φ) _ = _; rw [ea]; show (match fFn φ kds with | some (kd,d)=>some (kd,d,ρ1) | none=>none) = _; rw [er],q⟩
theorem oS_of {f:List KD->Option KD} {a:Option (List KD × Ro)} (h:Wp a fun p=>Wp (f p.1) fun r=>Q (r.1,r.2,p.2)):Wp (oS f a) Q:=by
 obtain ⟨⟨kds,ρ1⟩,ea,r,er,q⟩:=h
 exact ⟨_,by rw [ea]; show (match f kds with | some (kd,d)=>some (kd,d,ρ1) | none=>none) = _; rw [er],q⟩
theorem wm_tup {k:Ow} {as:MEs} (h:Wp (evMs Γ as ρ) fun p=>Wp (oTup k (some p.1)) fun r=>Q (r.1,r.2,p.2)):Wp (evM Γ (.tup k as) ρ) Q:=by rw [evM]; exact oS_of h
theorem wm_appP {i:Nat} {e:IE} (h:Wp (evI Γ.fn e ρ) fun x=>∃ es r ds,ρ[i]? = some (some ⟨false,.own es r,.nd .lst ds⟩)/\(es.length<=ds.length/\fit1 r x = true/\ds.length < 100000)/\Q (.sh,.non,ρ.set i (some ⟨false,.own es r,.lst (ds ++ [x.2])⟩))):Wp (evM Γ (.mut "append" (.nm i) (.cons e .nil)) ρ) Q:=by
 obtain ⟨x,ex,es,r,ds,h1,h2,q⟩:=h
 refine ⟨_,?_,q⟩
 rw [evM,evIs,evIs,ex]
 show oMut "append" i (evP Γ.fn (.nm i) ρ) (some [x]) ρ = _
 rw [evP,h1]
 show (match mutD "append" es r ds [x],ρ[i]? with | some (d',ds'),some (some ⟨false,k,_⟩)=>some (Kd.sh,d',ρ.set i (some ⟨false,k,id (.lst ds')⟩)) | _,_=>none) = _
 have:mutD "append" es r ds [x] = some (.non,ds ++ [x.2]):=if_pos h2
 rw [this,h1]
 rfl
variable {A:List RA × Ro->Prop}
variable {S:List KD × Ro->Prop}
theorem wl_fin {a:ME} {r:IEs} (h:Wp (evM Γ a ρ) fun x=>Wp (evIs Γ.fn r x.2.2) fun xs=>S ((x.1,x.2.1) :: xs,x.2.2)):Wp (evMs Γ (.fin a r) ρ) S:=by
 obtain ⟨⟨kd,d,ρ1⟩,ea,xs,ex,q⟩:=h
 refine ⟨_,?_,q⟩
 rw [evMs,ea]
 show (match evIs Γ.fn r ρ1 with | some kds=>some ((kd,d) :: kds,ρ1) | none=>none) = _
 dsimp only at ex
 rw [ex]
theorem wl_cons {a:ME} {r:MEs} (h:Wp (evM Γ a ρ) fun x=>isBo (imK x.1 x.2.1) = false/\Wp (evMs Γ r x.2.2) fun p=>S ((imK x.1 x.2.1,x.2.1) :: p.1,p.2)):Wp (evMs Γ (.cons a r) ρ) S:=by
 obtain ⟨⟨kd,d,ρ1⟩,ea,hb,⟨kds,ρ2⟩,er,q⟩:=h
 refine ⟨_,?_,q⟩
 rw [evMs,ea]
 show (if isBo (imK kd d) = true then none else _) = _
 dsimp only at hb er
 rw [if_neg (by rw [hb]; decide),er]
variable {T:Bool × Ro->Prop}
theorem wmt_p {e:IE} (h:Wp (evIT Γ.fn e ρ) fun b=>T (b,ρ)):Wp (evMT Γ (.p e) ρ) T:=by
 obtain ⟨x,ex,q⟩:=h
 exact ⟨_,by rw [evMT,ex]; rfl,q⟩
variable {I:List Nat × List D × Ro->Prop}
theorem wmi_p {it:II} (h:Wp (evII Γ.fn it ρ) fun p=>I (p.1,p.2,ρ)):Wp (evMI Γ (.p it) ρ) I:=by
 obtain ⟨x,ex,q⟩:=h
 exact ⟨_,by rw [evMI,ex]; rfl,q⟩
end
theorem wo_rng {k k':Kd} {i j:Int} {P:List Nat × List D->Prop} (h:rangeOk i j = true) (q:P ([],rngD i j)):Wp (oRng (some (k,.int i)) (some (k',.int j))) P:=⟨_,if_pos h,q⟩
theorem rangeOk_of {i j:Int} (h1:-100000<=i) (h2:i<=100000) (h3:-100000<=j) (h4:j<=100000) (h5:j - i<=100000):rangeOk i j = true:=by
 simp only [rangeOk,Bool.and_eq_true,decide_eq_true_eq]
 omega
theorem rngD_get {i j:Int} {n:Nat} {d:D} (h:(rngD i j)[n]? = some d):d = .int (i + n)/\i + n < j:=by
 unfold rngD at h
 rw [List.getElem?_map] at h
 obtain ⟨m,hm,rfl⟩:=mapS h
 have hl:=(List.getElem?_eq_some_iff.mp hm).1
 rw [List.length_range] at hl
 rw [List.getElem?_range hl] at hm
 cases hm
 exact ⟨rfl,by omega⟩
theorem rngD_len {i j:Int}:(rngD i j).length = (j - i).toNat:=by simp [rngD]
theorem wo_lst {k:Kd} {ds:List D} {P:List Nat × List D->Prop} (h:okE k ds = true) (q:P (boOf k,ds)):Wp (oSeq (some (k,.nd .lst ds))) P:=⟨_,if_pos h,q⟩
theorem wo_tup {k:Kd} {ds:List D} {P:List Nat × List D->Prop} (h:okE k ds = true) (q:P ([],ds)):Wp (oSeq (some (k,.nd .tup ds))) P:=⟨_,if_pos h,q⟩
noncomputable def Kt (Γ:GG) (N:Nat) (rest:ISs) (pn:List Nat) (Q:Res->Prop):Res->Prop
 | .nx ρ=>Wp (exB Γ N rest pn ρ) Q
 | r=>Q r
section
variable {Γ:GG} {N:Nat} {pn:List Nat} {ρ:Ro} {Q:Res->Prop} {rest:ISs}
theorem kt_nx (h:Wp (exB Γ N rest pn ρ) Q):Kt Γ N rest pn Q (.nx ρ):=h
theorem kt_rt {k:Kd} {d:D} (h:Q (.rt k d ρ)):Kt Γ N rest pn Q (.rt k d ρ):=h
theorem kt_ct (h:Q (.ct ρ)):Kt Γ N rest pn Q (.ct ρ):=h
theorem w_nil (q:Q (.nx ρ)):Wp (exB Γ N .nil pn ρ) Q:=⟨_,by rw [exB],q⟩
theorem w_cons {s:IS} (h:Wp (exS Γ N s pn ρ) (Kt Γ N rest pn Q)):Wp (exB Γ N (.cons s rest) pn ρ) Q:=by
 obtain ⟨r,er,q⟩:=h
 cases r with
 | nx ρ1=>obtain ⟨z,ez,q⟩:=q; exact ⟨z,by rw [exB,er]; exact ez,q⟩
 | rt k d ρ1=>exact ⟨_,by rw [exB,er]; rfl,q⟩
 | ct ρ1=>exact ⟨_,by rw [exB,er]; rfl,q⟩
 | bk ρ1=>exact ⟨_,by rw [exB,er]; rfl,q⟩
theorem w_asg {i:Nat} {a:ME} (h:Wp (evM Γ a ρ) fun x=>(isBo (imK x.1 x.2.1) = false/\i ∉ pn)/\Wp (exB Γ N rest pn (x.2.2.set i (some ⟨false,kOf (imK x.1 x.2.1),x.2.1⟩))) Q):Wp (exB Γ N (.cons (.asg i a) rest) pn ρ) Q:=by
 obtain ⟨⟨kd,d,ρ1⟩,ea,hb,w⟩:=h
 refine w_cons ⟨.nx _,?_,kt_nx w⟩
 rw [exS,ea]
 exact if_neg (by dsimp only at hb; rw [hb.1]; simpa using hb.2)
theorem w_unpT {is:List Nat} {a:ME} (h:Wp (evM Γ a ρ) fun x=>∃ ds es r,x.2.1 = .nd .tup ds/\partsK x.1 ds = some (es,r)/\(is.length = ds.length/\(is.all fun i=>!pn.contains i) = true)/\Wp (exB Γ N rest pn (putN is ds es r x.2.2)) Q):Wp (exB Γ N (.cons (.unp is a) rest) pn ρ) Q:=by
 obtain ⟨⟨kd,d,ρ1⟩,ea,ds,es,r,hd,hk,hl,w⟩:=h
 dsimp only at hd hk
 subst hd
 refine w_cons ⟨.nx _,?_,kt_nx w⟩
 rw [exS,ea]
 show (match partsK kd ds with | some (es,r)=>if is.length = ds.length/\(is.all fun i=>!pn.contains i) = true then some (Res.nx (putN is ds es r ρ1)) else none | none=>none) = _
 rw [hk]
 exact if_pos hl
theorem w_unpL {is:List Nat} {a:ME} (h:Wp (evM Γ a ρ) fun x=>∃ ds es r,x.2.1 = .nd .lst ds/\partsK x.1 ds = some (es,r)/\(is.length = ds.length/\(is.all fun i=>!pn.contains i) = true)/\Wp (exB Γ N rest pn (putN is ds es r x.2.2)) Q):Wp (exB Γ N (.cons (.unp is a) rest) pn ρ) Q:=by
 obtain ⟨⟨kd,d,ρ1⟩,ea,ds,es,r,hd,hk,hl,w⟩:=h
 dsimp only at hd hk
 subst hd
 refine w_cons ⟨.nx _,?_,kt_nx w⟩
 rw [exS,ea]
 show (match partsK kd ds with | some (es,r)=>if is.length = ds.length/\(is.all fun i=>!pn.contains i) = true then some (Res.nx (putN is ds es r ρ1)) else none | none=>none) = _
 rw [hk]
 exact if_pos hl
theorem w_put {b:BP} {k:IE} {a:ME} (h:Wp (evM Γ a ρ) fun x=>Wp (evP Γ.fn b x.2.2) fun p=>Wp (evI Γ.fn k x.2.2) fun y=>∃ es r hd ds kk d0,p.1 = .own es r/\p.2.1 = .nd hd ds/\x.2.2[b.slot]? = some (some ⟨false,kk,d0⟩)/\Wp (putD es r hd ds y.2 (imK x.1 x.2.1,x.2.1)) fun z=>Wp (exB Γ N rest pn (x.2.2.set b.slot (some ⟨false,kk,p.2.2 (.nd z.1 z.2)⟩))) Q):Wp (exB Γ N (.cons (.put b k a) rest) pn ρ) Q:=by
 obtain ⟨⟨kd,d,ρ1⟩,ea,⟨pk,pd,up⟩,ep,⟨ky,dy⟩,ey,es,r,hd,ds,kk,d0,e1,e2,e3,⟨hd',ds'⟩,ez,w⟩:=h
 dsimp only at e1 e2 e3 ep ey ez
 subst e1 e2
 refine w_cons ⟨.nx _,?_,kt_nx w⟩
 rw [exS,ea]
 unfold oPut
 dsimp only
 rw [ep,ey,e3]
 dsimp only
 rw [ez]
theorem w_ret {a:ME} (h:Wp (evM Γ a ρ) fun x=>isBo (imK x.1 x.2.1) = false/\Q (.rt (imK x.1 x.2.1) x.2.1 x.2.2)):Wp (exB Γ N (.cons (.ret a) rest) pn ρ) Q:=by
 obtain ⟨⟨kd,d,ρ1⟩,ea,hb,q⟩:=h
 refine w_cons ⟨.rt _ _ _,?_,kt_rt q⟩
 rw [exS,ea]
 exact if_neg (by dsimp only at hb; rw [hb]; decide)
theorem w_exp {a:ME} (h:Wp (evM Γ a ρ) fun x=>Wp (exB Γ N rest pn x.2.2) Q):Wp (exB Γ N (.cons (.exp a) rest) pn ρ) Q:=by
 obtain ⟨⟨kd,d,ρ1⟩,ea,w⟩:=h
 refine w_cons ⟨.nx _,?_,kt_nx w⟩
 rw [exS,ea]
 rfl
theorem w_cnt (h:Q (.ct ρ)):Wp (exB Γ N (.cons .cnt rest) pn ρ) Q:=w_cons ⟨.ct _,by rw [exS],kt_ct h⟩
theorem w_ifs {t:MT} {a b:ISs} (h:Wp (evMT Γ t ρ) fun p=>(p.1 = true->Wp (exB Γ N a pn p.2) (Kt Γ N rest pn Q))/\(p.1 = false->Wp (exB Γ N b pn p.2) (Kt Γ N rest pn Q))):Wp (exB Γ N (.cons (.ifs t a b) rest) pn ρ) Q:=by
 obtain ⟨⟨r,ρ1⟩,er,q1,q2⟩:=h
 cases r with
 | true=>obtain ⟨x,ex,q⟩:=q1 rfl; exact w_cons ⟨x,by rw [exS,er]; exact ex,q⟩
 | false=>obtain ⟨x,ex,q⟩:=q2 rfl; exact w_cons ⟨x,by rw [exS,er]; exact ex,q⟩
theorem fFor_inv {fg:List Nat} {tg:IT} {fb:Ro->Option Res} (I:Nat->Ro->Prop):∀ (ds:List D) (j:Nat) (ρ:Ro),I j ρ->(∀ (i:Nat) d ρ,ds[i]? = some d->I (j + i) ρ->∃ ps,tgI tg d = some ps/\(ps.all fun p=>!pn.contains p.1) = true/\Wp (fb (setAll ps (clrN fg ρ))) fun r=>∃ ρ',(r = .nx ρ'\/r = .ct ρ')/\I (j + i + 1) ρ')->
  ∃ ρ',fForM pn fg tg fb ds ρ = some (.nx (clrN fg ρ'))/\I (j + ds.length) ρ'
 | [],j,ρ,h0,_=>⟨ρ,rfl,h0⟩
 | d :: ds,j,ρ,h0,hs=>by
  obtain ⟨ps,e1,e2,r,er,ρ1,hr,h1⟩:=hs 0 d ρ rfl h0
  obtain ⟨ρ2,e3,h2⟩:=fFor_inv I ds (j + 1) ρ1 h1 fun i d' ρ' e hI=>by
   have:=hs (i + 1) d' ρ' (by simpa using e) (by rw [show j + (i + 1) = j + 1 + i by omega]; exact hI)
   rw [show j + (i + 1) + 1 = j + 1 + i + 1 by omega] at this
   exact this
  refine ⟨ρ2,?_,by rw [List.length_cons,show j + (ds.length + 1) = j + 1 + ds.length by omega]; exact h2⟩
  unfold fForM
  rw [e1]
  dsimp only
  rw [if_pos e2,er]
  rcases hr with rfl | rfl
  ·exact e3
  ·exact e3
theorem w_for {fg:List Nat} {tg:IT} {it:MI} {b:ISs} (h:Wp (evMI Γ it ρ) fun p=>∃ I:Nat->Ro->Prop,I 0 (clrN p.1 p.2.2)/\(∀ (i:Nat) d ρ,p.2.1[i]? = some d->I i ρ->∃ ps,tgI tg d = some ps/\(ps.all fun q=>!(pn ++ p.1).contains q.1) = true/\Wp (exB Γ N b (pn ++ p.1) (setAll ps (clrN fg ρ))) fun r=>∃ ρ',(r = .nx ρ'\/r = .ct ρ')/\I (i + 1) ρ')/\
  ∀ ρ',I p.2.1.length ρ'->Wp (exB Γ N rest pn (rst p.1 p.2.2 (clrN fg ρ'))) Q):Wp (exB Γ N (.cons (.fo fg tg it b) rest) pn ρ) Q:=by
 obtain ⟨⟨bs,ds,ρ0⟩,ep,I,h0,hs,hq⟩:=h
 obtain ⟨ρ',e1,h1⟩:=fFor_inv (pn:=pn ++ bs) I ds 0 (clrN bs ρ0) h0 fun i d ρ e hI=>by
  have:=hs i d ρ e (by simpa using hI)
  simpa using this
 refine w_cons ⟨.nx _,?_,kt_nx (hq ρ' (by simpa using h1))⟩
 rw [exS,ep]
 show oBack bs ρ0 (fForM (pn ++ bs) fg tg (exB Γ N b (pn ++ bs)) ds (clrN bs ρ0)) = _
 rw [e1]
 rfl
end
theorem wmap {r:Ow} {f:D->Option (Option KD)} {Q:List D->Prop} {ds:List D} (P:Nat->D->Prop) (hs:∀ (i:Nat) d,ds[i]? = some d->Wp (f d) fun o=>∃ kd,o = some kd/\fit1 r kd = true/\P i kd.2) (hq:∀ ys,ys.length = ds.length->(∀ (i:Nat) y,ys[i]? = some y->P i y)->Q ys):Wp (evMap r f ds) Q:=by
 have key:∀ (ds:List D) (j:Nat),(∀ (i:Nat) d,ds[i]? = some d->Wp (f d) fun o=>∃ kd,o = some kd/\fit1 r kd = true/\P (j + i) kd.2)->∃ ys,evMap r f ds = some ys/\ys.length = ds.length/\∀ (i:Nat) y,ys[i]? = some y->P (j + i) y:=by
  intro ds
  induction ds with
  | nil=>intro j _; exact ⟨[],rfl,rfl,fun i y e=>by simp at e⟩
  | cons d ds ih=>
   intro j h
   obtain ⟨o,eo,kd,rfl,hf,hp⟩:=h 0 d rfl
   obtain ⟨ys,e1,e2,e3⟩:=ih (j + 1) fun i d' e=>by
    have:=h (i + 1) d' (by simpa using e)
    rw [show j + (i + 1) = j + 1 + i by omega] at this
    exact this
   refine ⟨kd.2 :: ys,by simp [evMap,eo,e1,hf],by simp [e2],fun i y e=>?_⟩
   cases i with
   | zero=>simp at e; subst e; exact hp
   | succ i=>
    rw [show j + (i + 1) = j + 1 + i by omega]
    exact e3 i y (by simpa using e)
 obtain ⟨ys,e1,e2,e3⟩:=key ds 0 fun i d e=>by simpa using hs i d e
 exact ⟨ys,e1,hq ys e2 fun i y e=>by simpa using e3 i y e⟩
theorem w_elt {tg:IT} {ft:Ro->Option Bool} {fe:Ro->Option KD} {ρ0:Ro} {d:D} {ps:List (Nat × D)} {Q:Option KD->Prop} (h1:tgI tg d = some ps) (h2:noneAt ps ρ0 = true) (ht:ft (setAll ps ρ0) = some true) (h:Wp (fe (setAll ps ρ0)) fun x=>Q (some x)):Wp (eltI tg ft fe ρ0 d) Q:=by
 obtain ⟨x,ex,q⟩:=h
 refine ⟨_,?_,q⟩
 unfold eltI
 rw [h1]
 dsimp only
 rw [if_pos h2,ht]
 dsimp only
 rw [ex]
 rfl
theorem wd_I {Γ:GG} {N m k:Nat} {body:ISs} {ds:List D} {Q:KD->Prop} (hl:ds.length = m) (h:Wp (exB Γ N body [] (iniM k (ds.map shK))) fun r=>Wp (oDef (some r)) Q):Wp (defI Γ N m k body ds) Q:=by
 obtain ⟨r,er,z,ez,q⟩:=h
 exact ⟨z,by unfold defI; rw [if_pos hl,er]; exact ez,q⟩
theorem od_rt {kd:Kd} {d:D} {ρ:Ro} {Q:KD->Prop} (hb:isBo kd = false) (q:Q (kd,d)):Wp (oDef (some (.rt kd d ρ))) Q:=⟨_,if_neg (by rw [hb]; decide),q⟩
end J
namespace J
open PySem PySem.Spec L2
theorem put_of {p1:Ow} {p2:D} {o:Option (Option Sl)} {es:List Ow} {r:Ow} {hd:Hd} {ds:List D} {kk:Ow} {d0:D} {P:List Ow->Ow->Hd->List D->Ow->D->Prop} (e1:p1 = .own es r) (e2:p2 = .nd hd ds) (e3:o = some (some ⟨false,kk,d0⟩)) (h:P es r hd ds kk d0):∃ es r hd ds kk d0,p1 = .own es r/\p2 = .nd hd ds/\o = some (some ⟨false,kk,d0⟩)/\P es r hd ds kk d0:=⟨es,r,hd,ds,kk,d0,e1,e2,e3,h⟩
theorem wr_P {Γ:Nat->Option Fn} {b:BP} {ρ:Ro} {r:Ow × D × (D->D)} {Q:Ow × D × (D->D)->Prop} (h:evP Γ b ρ = some r) (q:Q r):Wp (evP Γ b ρ) Q:=⟨r,h,q⟩
theorem wr_lst {k:Ow} {a:Option (List KD)} {r:KD} {Q:KD->Prop} (h:oLst k a = some r) (q:Q r):Wp (oLst k a) Q:=⟨r,h,q⟩
theorem wr_tup {k:Ow} {a:Option (List KD)} {r:KD} {Q:KD->Prop} (h:oTup k a = some r) (q:Q r):Wp (oTup k a) Q:=⟨r,h,q⟩
theorem wl_lenL {Q:KD->Prop} {k:Kd} {ds:List D} (q:Q (.sh,.int ds.length)):Wp (fBlt "len" [(k,.nd .lst ds)]) Q:=wl_len rfl q
theorem wl_lenT {Q:KD->Prop} {k:Kd} {ds:List D} (q:Q (.sh,.int ds.length)):Wp (fBlt "len" [(k,.nd .tup ds)]) Q:=wl_len rfl q
theorem ten130:(10:Nat) ^ 130<=2 ^ 4000:=by decide +kernel
theorem lim_of {x:Int} (h1:-10 ^ 130 < x) (h2:x < 10 ^ 130):x.natAbs < lim:=by
 have h3:x.natAbs < 10 ^ 130:=by omega
 unfold lim
 exact Nat.lt_of_lt_of_le h3 ten130
end J
namespace J
open PySem PySem.Spec L2
mutual
theorem pok_lay:∀ {d:D} {n:Nat},pok n d = true->(py d).canLay0 = true
 | .non,_,_=>by simp [py,PyData.canLay0]
 | .bl _,_,_=>by simp [py,PyData.canLay0]
 | .int _,_,_=>by simp [py,PyData.canLay0]
 | .str x,_,h=>by simpa [py,PyData.canLay0,pok] using h
 | .scr ns,_,_=>by simpa [py,PyData.canLay0] using (int_lay ns).1
 | .nd .lst ds,n,h=>by
  simp only [pok,Bool.and_eq_true] at h
  simpa [py,PyData.canLay0] using pok_layL h.2
 | .nd .tup ds,n,h=>by
  simp only [pok,Bool.and_eq_true] at h
  simpa [py,PyData.canLay0] using pok_layL h.2
 | .nd (.dic _ _) _,n,h=>by simp [pok] at h
 | .nd (.obj _ _) _,n,h=>by simp [pok] at h
theorem pok_layL:∀ {ds:List D} {n:Nat},pokL n ds = true->PyData.canLayAll0 (pyL ds) = true
 | [],_,_=>by simp [pyL,PyData.canLayAll0]
 | d :: ds,n,h=>by
  simp only [pokL,Bool.and_eq_true] at h
  simp [pyL,PyData.canLayAll0,pok_lay h.1,pok_layL h.2]
end
theorem eqD_refl {d:D} {n:Nat} (h:pok n d = true):eqD d d = true:=by unfold eqD; exact PySem.SeqAt.eqv_refl _ (pok_lay h)
theorem fFor_invR {pn fg:List Nat} {tg:IT} {fb:Ro->Option Res} (I:Nat->Ro->Prop) (R:Kd->D->Ro->Prop):∀ (ds:List D) (j:Nat) (ρ:Ro),I j ρ->(∀ (i:Nat) d ρ,ds[i]? = some d->I (j + i) ρ->∃ ps,tgI tg d = some ps/\(ps.all fun p=>!pn.contains p.1) = true/\Wp (fb (setAll ps (clrN fg ρ))) fun r=>(∃ ρ',(r = .nx ρ'\/r = .ct ρ')/\I (j + i + 1) ρ')\/∃ k d ρ',r = .rt k d ρ'/\R k d ρ')->
  (∃ ρ',fForM pn fg tg fb ds ρ = some (.nx (clrN fg ρ'))/\I (j + ds.length) ρ')\/∃ k d ρ',fForM pn fg tg fb ds ρ = some (.rt k d ρ')/\R k d ρ'
 | [],j,ρ,h0,_=>.inl ⟨ρ,rfl,h0⟩
 | d :: ds,j,ρ,h0,hs=>by
  obtain ⟨ps,e1,e2,r,er,hr⟩:=hs 0 d ρ rfl h0
  rcases hr with ⟨ρ1,hr,h1⟩ | ⟨k,d',ρ1,rfl,hR⟩
  ·rcases fFor_invR I R ds (j + 1) ρ1 h1 fun i d' ρ' e hI=>(by
    have:=hs (i + 1) d' ρ' (by simpa using e) (by rw [show j + (i + 1) = j + 1 + i by omega]; exact hI)
    rw [show j + (i + 1) + 1 = j + 1 + i + 1 by omega] at this
    exact this) with ⟨ρ2,e3,h2⟩ | ⟨k,d',ρ2,e3,h2⟩
   ·refine .inl ⟨ρ2,?_,by rw [List.length_cons,show j + (ds.length + 1) = j + 1 + ds.length by omega]; exact h2⟩
    unfold fForM
    rw [e1]
    dsimp only
    rw [if_pos e2,er]
    rcases hr with rfl | rfl
    ·exact e3
    ·exact e3
   ·refine .inr ⟨k,d',ρ2,?_,h2⟩
    unfold fForM
    rw [e1]
    dsimp only
    rw [if_pos e2,er]
    rcases hr with rfl | rfl
    ·exact e3
    ·exact e3
  ·refine .inr ⟨k,d',ρ1,?_,hR⟩
   unfold fForM
   rw [e1]
   dsimp only
   rw [if_pos e2,er]
theorem w_forR {Γ:GG} {N:Nat} {pn:List Nat} {ρ:Ro} {Q:Res->Prop} {rest:ISs} {fg:List Nat} {tg:IT} {it:MI} {b:ISs} (h:Wp (evMI Γ it ρ) fun p=>∃ (I:Nat->Ro->Prop) (R:Kd->D->Ro->Prop),I 0 (clrN p.1 p.2.2)/\(∀ (i:Nat) d ρ,p.2.1[i]? = some d->I i ρ->∃ ps,tgI tg d = some ps/\(ps.all fun q=>!(pn ++ p.1).contains q.1) = true/\Wp (exB Γ N b (pn ++ p.1) (setAll ps (clrN fg ρ))) fun r=>(∃ ρ',(r = .nx ρ'\/r = .ct ρ')/\I (i + 1) ρ')\/∃ k d ρ',r = .rt k d ρ'/\R k d ρ')/\
  (∀ ρ',I p.2.1.length ρ'->Wp (exB Γ N rest pn (rst p.1 p.2.2 (clrN fg ρ'))) Q)/\∀ k d ρ',R k d ρ'->isBo k = false/\Q (.rt k d (rst p.1 p.2.2 ρ'))):Wp (exB Γ N (.cons (.fo fg tg it b) rest) pn ρ) Q:=by
 obtain ⟨⟨bs,ds,ρ0⟩,ep,I,R,h0,hs,hq,hR⟩:=h
 rcases fFor_invR (pn:=pn ++ bs) I R ds 0 (clrN bs ρ0) h0 (fun i d ρ e hI=>by
  have:=hs i d ρ e (by simpa using hI)
  simpa using this) with ⟨ρ',e1,h1⟩ | ⟨k,d,ρ',e1,h1⟩
 ·refine w_cons ⟨.nx _,?_,kt_nx (hq ρ' (by simpa using h1))⟩
  rw [exS,ep]
  show oBack bs ρ0 (fForM (pn ++ bs) fg tg (exB Γ N b (pn ++ bs)) ds (clrN bs ρ0)) = _
  rw [e1]
  rfl
 ·obtain ⟨hb,q⟩:=hR k d ρ' h1
  refine w_cons ⟨.rt _ _ _,?_,kt_rt q⟩
  rw [exS,ep]
  show oBack bs ρ0 (fForM (pn ++ bs) fg tg (exB Γ N b (pn ++ bs)) ds (clrN bs ρ0)) = _
  rw [e1]
  exact if_neg (by rw [hb]; decide)
theorem map_bl {α:Type} {f:α->Bool} {l:List α} {ys:List D} (hl:ys.length = l.length) (h:∀ (i:Nat) y,ys[i]? = some y->∃ a,l[i]? = some a/\y = .bl (f a)):ys = (l.map f).map D.bl:=by
 refine List.ext_getElem? fun i=>?_
 cases e:ys[i]? with
 | none=>
  have:l.length<=i:=by rw [<- hl]; exact List.getElem?_eq_none_iff.mp e
  rw [List.getElem?_eq_none (by simpa using this)]
 | some y=>
  obtain ⟨a,ea,rfl⟩:=h i y e
  simp [ea]
end J
section
open PySem L2 J
local macro_rules | `(tactic| walk_at "nm")=>`(tactic| simp only [slKd,isFz,chK,Ow.ch,List.getD_nil,List.getD_cons_zero,List.getD_cons_succ,List.getD_eq_getElem?_getD,List.getElem?_nil,Option.getD_none,imK,imD,imL,Hd.mu,kOf,isBo,iniM,slP,slQ,shK,shS,taken,setAll,clrN,rst,capRo,capR,clr,List.foldl,List.length_cons,List.length_nil,Nat.sub_self,Nat.reduceSub,Nat.reduceAdd,Option.map_some,Option.map_none,Option.bind_some,Option.bind_none,Option.join,List.getElem?_cons_zero,List.getElem?_cons_succ,List.map_cons,List.map_nil,List.set_cons_zero,List.set_cons_succ,List.set_nil,List.replicate_succ,List.replicate_zero,List.cons_append,List.nil_append,reduceIte,Bool.false_eq_true,Int.reduceToNat,Int.reducePow,Int.reduceMul,Int.reduceAdd,Int.reduceSub,Int.reduceNeg,BP.slot,id,true_and])
local macro_rules | `(tactic| walk_at "sx")=>`(tactic| (first | with_reducible refine w_asg ?_ | with_reducible refine w_exp ?_ | with_reducible refine w_ret ?_ | with_reducible refine w_put ?_ | with_reducible refine w_pas ?_ | with_reducible refine w_nil ?_))
namespace K33
open PySem L2 J
noncomputable def top (i:Nat):Stmt:=PySem.Challenge.pw_gatepapers_k33_is_circuit.main.body.getD i (.Pass ⟨0,0,0,0⟩)
noncomputable def fns:Nms:=⟨["is_whole","is_below","is_table","is_circuit","is_tuple","is_memory","is_gate","_law_mixed","_law_numbers","_law_whole","_law_sizes","_law_places","_law_circuit","_law_copy","_law_below","_law_is_gate","_law_is_circuit","_law_deep","_law_odd","_law_put","_law_part_spoilt","_law_spoilt","law"],[("MOST_PLACES",.int 3)],fun _ _=>none,fun l c=>match l,c with | 107,26=>some false | 108,11=>some true | 120,11=>some true | 157,37=>some false | 41,11=>some true | 79,22=>some true | 79,37=>some true | _,_=>none,fun _=>none,fun _ _=>[]⟩
noncomputable def an:An:=⟨fun l=>match l with | 38=>[4] | 44=>[3,4,5] | 49=>[5] | 74=>[9,10,11,12] | 100=>[4,3] | 106=>[1] | 158=>[3,4,5] | _=>[],fun _=>[],fun _=>false⟩
noncomputable abbrev s0:Stmt:=top 1
noncomputable def b0:ISs:=(.cons (.ret (.p (.bool .And (.cons (.isi "int" (.var 0)) (.cons (.not (.isi "bool" (.var 0))) .nil))))) .nil)
theorem cr0:cDef fns an 60 ["thing"] s0 = some b0:=by rfl
theorem sc0:FnScope ["thing"] ["thing"] (defScope s0):=⟨rfl,rfl,rfl,by decide +kernel,rfl,by decide +kernel,by decide +kernel⟩
noncomputable abbrev s1:Stmt:=top 2
noncomputable def b1:ISs:=(.cons (.ret (.p (.bool .And (.cons (.fn 0 (.cons (.var 0) .nil)) (.cons (.chain .LtE .Lt (.lit (.int 0)) (.var 0) (.var 1)) .nil))))) .nil)
theorem cr1:cDef fns an 60 ["thing","bound"] s1 = some b1:=by rfl
theorem sc1:FnScope ["thing","bound"] ["thing","bound"] (defScope s1):=⟨rfl,rfl,rfl,by decide +kernel,rfl,by decide +kernel,by decide +kernel⟩
noncomputable abbrev s2:Stmt:=top 5
noncomputable def b2:ISs:=(.cons (.ifs (.p (.bool .Or (.cons (.not (.fn 0 (.cons (.var 0) .nil))) (.cons (.not (.fn 0 (.cons (.var 1) .nil))) .nil)))) (.cons (.ret (.p (.lit (.bl false)))) .nil) .nil) (.cons (.ifs (.p (.bool .Or (.cons (.cmp .Lt (.var 1) (.lit (.int 0))) (.cons (.cmp .Gt (.var 1) (.lit (.int 3))) .nil)))) (.cons (.ret (.p (.lit (.bl false)))) .nil) .nil) (.cons (.ret (.p (.chain .LtE .Lt (.lit (.int 0)) (.var 0) (.bin .LShift (.lit (.int 1)) (.bin .LShift (.lit (.int 1)) (.var 1)))))) .nil)))
theorem cr2:cDef fns an 60 ["thing","many"] s2 = some b2:=by rfl
theorem sc2:FnScope ["thing","many"] ["thing","many"] (defScope s2):=⟨rfl,rfl,rfl,by decide +kernel,rfl,by decide +kernel,by decide +kernel⟩
noncomputable abbrev s3:Stmt:=top 7
noncomputable def b3:ISs:=(.cons (.ifs (.p (.not (.fn 4 (.cons (.var 0) (.cons (.lit (.int 4)) .nil))))) (.cons (.ret (.p (.lit (.bl false)))) .nil) .nil) (.cons (.unp [1,2,3,4] (.p (.var 0))) (.cons (.ifs (.p (.bool .Or (.cons (.not (.fn 0 (.cons (.var 1) .nil))) (.cons (.cmp .Lt (.var 1) (.lit (.int 0))) .nil)))) (.cons (.ret (.p (.lit (.bl false)))) .nil) .nil) (.cons (.ifs (.p (.bool .Or (.cons (.not (.isi "list" (.var 2))) (.cons (.not (.isi "list" (.var 3))) (.cons (.not (.isi "list" (.var 4))) .nil))))) (.cons (.ret (.p (.lit (.bl false)))) .nil) .nil) (.cons (.asg 5 (.p (.bin .Add (.var 1) (.blt "len" (.cons (.var 2) .nil))))) (.cons (.asg 6 (.p (.bin .Add (.var 5) (.blt "len" (.cons (.var 3) .nil))))) (.cons (.ret (.p (.bool .And (.cons (.blt "all" (.cons (.comp .fz [none,none,none,some 6] (.nm 1) (.e (.var 2)) .non (.fn 5 (.cons (.var 1) (.cons (.var 3) .nil)))) .nil)) (.cons (.blt "all" (.cons (.comp .fz [none,none,none,none,some 5] (.tp [(.nm 1),(.nm 2)]) (.enm (.var 3)) .non (.fn 6 (.cons (.var 2) (.cons (.bin .Add (.var 4) (.var 1)) .nil)))) .nil)) (.cons (.blt "all" (.cons (.comp .fz [none,none,none,some 6] (.nm 1) (.e (.var 4)) .non (.fn 1 (.cons (.var 1) (.cons (.var 3) .nil)))) .nil)) .nil)))))) .nil)))))))
theorem cr3:cDef fns an 60 ["thing","ins","memories","gates","outs","ahead","many"] s3 = some b3:=by rfl
theorem sc3:FnScope ["thing","ins","memories","gates","outs","ahead","many"] ["thing"] (defScope s3):=⟨rfl,rfl,rfl,by decide +kernel,rfl,by decide +kernel,by decide +kernel⟩
noncomputable abbrev s4:Stmt:=top 8
noncomputable def b4:ISs:=(.cons (.ret (.p (.bool .And (.cons (.isi "tuple" (.var 0)) (.cons (.cmp .Eq (.blt "len" (.cons (.var 0) .nil)) (.var 1)) .nil))))) .nil)
theorem cr4:cDef fns an 60 ["thing","many"] s4 = some b4:=by rfl
theorem sc4:FnScope ["thing","many"] ["thing","many"] (defScope s4):=⟨rfl,rfl,rfl,by decide +kernel,rfl,by decide +kernel,by decide +kernel⟩
noncomputable abbrev s5:Stmt:=top 9
noncomputable def b5:ISs:=(.cons (.ret (.p (.bool .And (.cons (.fn 4 (.cons (.var 0) (.cons (.lit (.int 2)) .nil))) (.cons (.fn 1 (.cons (.ix (.var 0) (.lit (.int 0))) (.cons (.lit (.int 2)) .nil))) (.cons (.fn 1 (.cons (.ix (.var 0) (.lit (.int 1))) (.cons (.var 1) .nil))) .nil)))))) .nil)
theorem cr5:cDef fns an 60 ["thing","many"] s5 = some b5:=by rfl
theorem sc5:FnScope ["thing","many"] ["thing","many"] (defScope s5):=⟨rfl,rfl,rfl,by decide +kernel,rfl,by decide +kernel,by decide +kernel⟩
noncomputable abbrev s6:Stmt:=top 10
noncomputable def b6:ISs:=(.cons (.ifs (.p (.bool .Or (.cons (.not (.fn 4 (.cons (.var 0) (.cons (.lit (.int 2)) .nil)))) (.cons (.not (.isi "tuple" (.ix (.var 0) (.lit (.int 1))))) .nil)))) (.cons (.ret (.p (.lit (.bl false)))) .nil) .nil) (.cons (.ret (.p (.bool .And (.cons (.fn 2 (.cons (.ix (.var 0) (.lit (.int 0))) (.cons (.blt "len" (.cons (.ix (.var 0) (.lit (.int 1))) .nil)) .nil))) (.cons (.blt "all" (.cons (.comp .fz [none,none,none,some 1] (.nm 1) (.e (.ix (.var 0) (.lit (.int 1)))) .non (.fn 1 (.cons (.var 1) (.cons (.var 3) .nil)))) .nil)) .nil))))) .nil))
theorem cr6:cDef fns an 60 ["thing","own"] s6 = some b6:=by rfl
theorem sc6:FnScope ["thing","own"] ["thing","own"] (defScope s6):=⟨rfl,rfl,rfl,by decide +kernel,rfl,by decide +kernel,by decide +kernel⟩
noncomputable abbrev s7:Stmt:=top 12
noncomputable def b7:ISs:=(.cons (.asg 2 (.p (.bin .Mod (.var 0) (.lit (.int 2147483647))))) (.cons (.asg 3 (.p (.lst (.own [] .fz) .nil))) (.cons (.fo [4] (.nm 4) (.p (.rng (.lit (.int 0)) (.var 1))) (.cons (.asg 2 (.p (.bin .Mod (.bin .Add (.bin .Add (.bin .Mult (.var 2) (.lit (.int 48271))) (.bin .Mult (.bin .Mult (.lit (.int 7)) (.var 4)) (.var 4))) (.lit (.int 11))) (.lit (.int 2147483629))))) (.cons (.exp (.mut "append" (.nm 3) (.cons (.bin .FloorDiv (.bin .Mod (.bin .Add (.bin .Add (.bin .Mult (.var 2) (.var 2)) (.bin .Mult (.lit (.int 3)) (.var 2))) (.var 4)) (.lit (.int 2147483587))) (.lit (.int 7))) .nil))) .nil))) (.cons (.ret (.mv 3)) .nil))))
theorem cr7:cDef fns an 60 ["_law_cell","_law_many","_law_at","_law_found","_law_k"] s7 = some b7:=by rfl
theorem sc7:FnScope ["_law_cell","_law_many","_law_at","_law_found","_law_k"] ["_law_cell","_law_many"] (defScope s7):=⟨rfl,rfl,rfl,by decide +kernel,rfl,by decide +kernel,by decide +kernel⟩
noncomputable abbrev s8:Stmt:=top 13
noncomputable def b8:ISs:=(.cons (.asg 2 (.p (.lst (.own [] .fz) .nil))) (.cons (.fo [3,4,5] (.nm 3) (.p (.e (.sl (.var 0) .non (.som (.lit (.int 63)))))) (.cons (.ifs (.p (.cmp .Lt (.var 3) (.bin .Pow (.lit (.int 10)) (.lit (.int 18))))) (.cons (.exp (.mut "extend" (.nm 2) (.cons (.fn 7 (.cons (.var 3) (.cons (.lit (.int 6)) .nil))) .nil))) (.cons .cnt .nil)) .nil) (.cons (.asg 4 (.p (.var 3))) (.cons (.fo [5] (.nm 5) (.p (.rng (.lit (.int 0)) (.lit (.int 60)))) (.cons (.ifs (.p (.cmp .Gt (.var 4) (.lit (.int 0)))) (.cons (.exp (.mut "append" (.nm 2) (.cons (.bin .Mod (.var 4) (.lit (.int 10007))) .nil))) (.cons (.asg 4 (.p (.bin .FloorDiv (.var 4) (.lit (.int 10007))))) .nil)) .nil) .nil)) .nil)))) (.cons (.asg 2 (.p (.sl (.var 2) .non (.som (.var 1))))) (.cons (.ret (.p (.bin .Add (.var 2) (.fn 7 (.cons (.bin .Add (.blt "sum" (.cons (.var 0) .nil)) (.blt "len" (.cons (.var 0) .nil))) (.cons (.bin .Sub (.var 1) (.blt "len" (.cons (.var 2) .nil))) .nil)))))) .nil))))
theorem cr8:cDef fns an 60 ["_law_script","_law_many","_law_found","_law_cell","_law_left","_law_k"] s8 = some b8:=by rfl
theorem sc8:FnScope ["_law_script","_law_many","_law_found","_law_cell","_law_left","_law_k"] ["_law_script","_law_many"] (defScope s8):=⟨rfl,rfl,rfl,by decide +kernel,rfl,by decide +kernel,by decide +kernel⟩
noncomputable abbrev s9:Stmt:=top 14
noncomputable def b9:ISs:=(.cons (.ret (.p (.bool .And (.cons (.isi "int" (.var 0)) (.cons (.not (.isi "bool" (.var 0))) .nil))))) .nil)
theorem cr9:cDef fns an 60 ["_law_found"] s9 = some b9:=by rfl
theorem sc9:FnScope ["_law_found"] ["_law_found"] (defScope s9):=⟨rfl,rfl,rfl,by decide +kernel,rfl,by decide +kernel,by decide +kernel⟩
noncomputable abbrev s10:Stmt:=top 15
noncomputable def b10:ISs:=(.cons (.ifs (.p (.cmp .Eq (.bin .Mod (.ix (.var 0) (.lit (.int 0))) (.lit (.int 8))) (.lit (.int 5)))) (.cons (.ret (.p (.lst (.own [] .fz) (.cons (.bin .Mod (.bin .FloorDiv (.ix (.var 0) (.lit (.int 0))) (.lit (.int 8))) (.lit (.int 41))) (.cons (.bin .Mod (.ix (.var 0) (.lit (.int 1))) (.lit (.int 41))) (.cons (.bin .Add (.lit (.int 20)) (.bin .Mod (.ix (.var 0) (.lit (.int 2))) (.lit (.int 41)))) (.cons (.bin .Mod (.ix (.var 0) (.lit (.int 3))) (.lit (.int 41))) .nil))))))) .nil) .nil) (.cons (.ret (.p (.lst (.own [] .fz) (.cons (.bin .Mod (.bin .FloorDiv (.ix (.var 0) (.lit (.int 0))) (.lit (.int 8))) (.lit (.int 4))) (.cons (.bin .Mod (.ix (.var 0) (.lit (.int 1))) (.lit (.int 5))) (.cons (.bin .Mod (.ix (.var 0) (.lit (.int 2))) (.lit (.int 10))) (.cons (.bin .Mod (.ix (.var 0) (.lit (.int 3))) (.lit (.int 4))) .nil))))))) .nil))
theorem cr10:cDef fns an 60 ["_law_xs"] s10 = some b10:=by rfl
theorem sc10:FnScope ["_law_xs"] ["_law_xs"] (defScope s10):=⟨rfl,rfl,rfl,by decide +kernel,rfl,by decide +kernel,by decide +kernel⟩
noncomputable abbrev s11:Stmt:=top 16
noncomputable def b11:ISs:=(.cons (.asg 2 (.p (.bin .Mult (.blt "min" (.cons (.var 1) (.cons (.lit (.int 1)) .nil))) (.bin .Mod (.ix (.var 0) (.lit (.int 0))) (.lit (.int 4)))))) (.cons (.ifs (.p (.cmp .Eq (.bin .Mod (.bin .FloorDiv (.ix (.var 0) (.lit (.int 0))) (.lit (.int 4))) (.lit (.int 3))) (.lit (.int 0)))) (.cons (.ret (.p (.blt "tuple" (.cons (.comp .fz [none,none,none,some 1] (.nm 1) (.e (.sl (.var 0) (.som (.lit (.int 2))) (.som (.bin .Add (.lit (.int 2)) (.var 2))))) .non (.bin .Sub (.bin .Sub (.var 3) (.lit (.int 1))) (.bin .Mod (.var 1) (.blt "min" (.cons (.var 3) (.cons (.lit (.int 4)) .nil)))))) .nil)))) .nil) .nil) (.cons (.ret (.p (.blt "tuple" (.cons (.comp .fz [none,none,some 1] (.nm 1) (.e (.sl (.var 0) (.som (.lit (.int 2))) (.som (.bin .Add (.lit (.int 2)) (.var 2))))) .non (.bin .Mod (.var 1) (.var 2))) .nil)))) .nil)))
theorem cr11:cDef fns an 60 ["_law_xs","_law_place","_law_many"] s11 = some b11:=by rfl
theorem sc11:FnScope ["_law_xs","_law_place","_law_many"] ["_law_xs","_law_place"] (defScope s11):=⟨rfl,rfl,rfl,by decide +kernel,rfl,by decide +kernel,by decide +kernel⟩
noncomputable abbrev s12:Stmt:=top 17
noncomputable def b12:ISs:=(.cons (.unp [1,2,3,4] (.p (.fn 10 (.cons (.var 0) .nil)))) (.cons (.asg 5 (.p (.bin .Add (.var 1) (.var 2)))) (.cons (.asg 6 (.p (.bin .Add (.var 5) (.var 3)))) (.cons (.ifs (.p (.cmp .Eq (.var 6) (.lit (.int 0)))) (.cons (.ret (.p (.tup .fz (.cons (.lit (.int 0)) (.cons (.lst (.own [] .fz) .nil) (.cons (.lst (.own [] .fz) .nil) (.cons (.lst (.own [] .fz) .nil) .nil))))))) .nil) .nil) (.cons (.asg 7 (.p (.comp .fz [none,none,some 6] (.nm 1) (.e (.sl (.var 0) (.som (.lit (.int 4))) (.som (.bin .Add (.lit (.int 4)) (.var 2))))) .non (.tup .fz (.cons (.bin .Mod (.var 1) (.lit (.int 2))) (.cons (.bin .Mod (.bin .FloorDiv (.var 1) (.lit (.int 2))) (.var 2)) .nil)))))) (.cons (.asg 8 (.p (.lst (.own [] .fz) .nil))) (.cons (.fo [9,10,11,12] (.nm 9) (.p (.rng (.lit (.int 0)) (.var 3))) (.cons (.asg 10 (.p (.bin .Add (.lit (.int 50)) (.bin .Mult (.lit (.int 5)) (.var 9))))) (.cons (.asg 11 (.p (.fn 11 (.cons (.sl (.var 0) (.som (.var 10)) (.som (.bin .Add (.var 10) (.lit (.int 5))))) (.cons (.bin .Add (.var 5) (.var 9)) .nil))))) (.cons (.asg 12 (.p (.bin .Mod (.ix (.var 0) (.bin .Add (.var 10) (.lit (.int 1)))) (.ix (.lst (.own [] .fz) (.cons (.lit (.int 2)) (.cons (.lit (.int 4)) (.cons (.lit (.int 16)) (.cons (.lit (.int 256)) .nil))))) (.blt "len" (.cons (.var 11) .nil)))))) (.cons (.exp (.mut "append" (.nm 8) (.cons (.tup .fz (.cons (.var 12) (.cons (.var 11) .nil))) .nil))) .nil))))) (.cons (.ret (.tup .fz (.cons (.p (.var 1)) (.cons (.mv 7) (.fin (.mv 8) (.cons (.comp .fz [none,none,some 6] (.nm 1) (.e (.sl (.var 0) (.som (.lit (.int 360))) (.som (.bin .Add (.lit (.int 360)) (.var 4))))) .non (.bin .Mod (.var 1) (.var 2))) .nil)))))) .nil))))))))
theorem cr12:cDef fns an 60 ["_law_xs","_law_ins","_law_many","_law_gates_here","_law_outs_here","_law_first","_law_most","_law_memories","_law_gates","_law_k","_law_at","_law_places_here","_law_table"] s12 = some b12:=by rfl
theorem sc12:FnScope ["_law_xs","_law_ins","_law_many","_law_gates_here","_law_outs_here","_law_first","_law_most","_law_memories","_law_gates","_law_k","_law_at","_law_places_here","_law_table"] ["_law_xs"] (defScope s12):=⟨rfl,rfl,rfl,by decide +kernel,rfl,by decide +kernel,by decide +kernel⟩
noncomputable abbrev s13:Stmt:=top 18
noncomputable def b13:ISs:=(.cons (.ret (.p (.tup .fz (.cons (.ix (.var 0) (.lit (.int 0))) (.cons (.blt "list" (.cons (.ix (.var 0) (.lit (.int 1))) .nil)) (.cons (.blt "list" (.cons (.ix (.var 0) (.lit (.int 2))) .nil)) (.cons (.blt "list" (.cons (.ix (.var 0) (.lit (.int 3))) .nil)) .nil))))))) .nil)
theorem cr13:cDef fns an 60 ["_law_circuit_here"] s13 = some b13:=by rfl
theorem sc13:FnScope ["_law_circuit_here"] ["_law_circuit_here"] (defScope s13):=⟨rfl,rfl,rfl,by decide +kernel,rfl,by decide +kernel,by decide +kernel⟩
noncomputable abbrev s14:Stmt:=top 19
noncomputable def b14:ISs:=(.cons (.ret (.p (.bool .And (.cons (.fn 9 (.cons (.var 0) .nil)) (.cons (.chain .LtE .Lt (.lit (.int 0)) (.var 0) (.var 1)) .nil))))) .nil)
theorem cr14:cDef fns an 60 ["_law_thing","_law_most"] s14 = some b14:=by rfl
theorem sc14:FnScope ["_law_thing","_law_most"] ["_law_thing","_law_most"] (defScope s14):=⟨rfl,rfl,rfl,by decide +kernel,rfl,by decide +kernel,by decide +kernel⟩
noncomputable abbrev s15:Stmt:=top 20
noncomputable def b15:ISs:=(.cons (.ifs (.p (.bool .Or (.cons (.not (.isi "tuple" (.var 0))) (.cons (.cmp .NotEq (.blt "len" (.cons (.var 0) .nil)) (.lit (.int 2))) (.cons (.not (.isi "tuple" (.ix (.var 0) (.lit (.int 1))))) (.cons (.cmp .Gt (.blt "len" (.cons (.ix (.var 0) (.lit (.int 1))) .nil)) (.lit (.int 3))) .nil)))))) (.cons (.ret (.p (.lit (.bl false)))) .nil) .nil) (.cons (.ifs (.p (.not (.fn 14 (.cons (.ix (.var 0) (.lit (.int 0))) (.cons (.ix (.lst (.own [] .fz) (.cons (.lit (.int 2)) (.cons (.lit (.int 4)) (.cons (.lit (.int 16)) (.cons (.lit (.int 256)) .nil))))) (.blt "len" (.cons (.ix (.var 0) (.lit (.int 1))) .nil))) .nil))))) (.cons (.ret (.p (.lit (.bl false)))) .nil) .nil) (.cons (.ret (.p (.blt "all" (.cons (.comp .fz [none,none,none,some 1] (.nm 1) (.e (.ix (.var 0) (.lit (.int 1)))) .non (.fn 14 (.cons (.var 1) (.cons (.var 3) .nil)))) .nil)))) .nil)))
theorem cr15:cDef fns an 60 ["_law_thing","_law_place"] s15 = some b15:=by rfl
theorem sc15:FnScope ["_law_thing","_law_place"] ["_law_thing","_law_place"] (defScope s15):=⟨rfl,rfl,rfl,by decide +kernel,rfl,by decide +kernel,by decide +kernel⟩
noncomputable abbrev s16:Stmt:=top 21
noncomputable def b16:ISs:=(.cons (.ifs (.p (.bool .Or (.cons (.not (.isi "tuple" (.var 0))) (.cons (.cmp .NotEq (.blt "len" (.cons (.var 0) .nil)) (.lit (.int 4))) (.cons (.not (.fn 9 (.cons (.ix (.var 0) (.lit (.int 0))) .nil))) (.cons (.cmp .Lt (.ix (.var 0) (.lit (.int 0))) (.lit (.int 0))) .nil)))))) (.cons (.ret (.p (.lit (.bl false)))) .nil) .nil) (.cons (.ifs (.p (.bool .Or (.cons (.not (.isi "list" (.ix (.var 0) (.lit (.int 1))))) (.cons (.not (.isi "list" (.ix (.var 0) (.lit (.int 2))))) (.cons (.not (.isi "list" (.ix (.var 0) (.lit (.int 3))))) .nil))))) (.cons (.ret (.p (.lit (.bl false)))) .nil) .nil) (.cons (.asg 1 (.p (.bin .Add (.ix (.var 0) (.lit (.int 0))) (.blt "len" (.cons (.ix (.var 0) (.lit (.int 1))) .nil))))) (.cons (.asg 2 (.p (.bin .Add (.var 1) (.blt "len" (.cons (.ix (.var 0) (.lit (.int 2))) .nil))))) (.cons (.fo [] (.nm 3) (.p (.e (.ix (.var 0) (.lit (.int 1))))) (.cons (.ifs (.p (.bool .Or (.cons (.not (.isi "tuple" (.var 3))) (.cons (.cmp .NotEq (.blt "len" (.cons (.var 3) .nil)) (.lit (.int 2))) (.cons (.not (.fn 14 (.cons (.ix (.var 3) (.lit (.int 0))) (.cons (.lit (.int 2)) .nil)))) (.cons (.not (.fn 14 (.cons (.ix (.var 3) (.lit (.int 1))) (.cons (.var 2) .nil)))) .nil)))))) (.cons (.ret (.p (.lit (.bl false)))) .nil) .nil) .nil)) (.cons (.fo [4,3] (.tp [(.nm 4),(.nm 3)]) (.p (.enm (.ix (.var 0) (.lit (.int 2))))) (.cons (.ifs (.p (.not (.fn 15 (.cons (.var 3) (.cons (.bin .Add (.var 1) (.var 4)) .nil))))) (.cons (.ret (.p (.lit (.bl false)))) .nil) .nil) .nil)) (.cons (.ret (.p (.blt "all" (.cons (.comp .fz [none,none,none,some 2] (.nm 1) (.e (.ix (.var 0) (.lit (.int 3)))) .non (.fn 14 (.cons (.var 1) (.cons (.var 3) .nil)))) .nil)))) .nil)))))))
theorem cr16:cDef fns an 60 ["_law_thing","_law_first","_law_most","_law_part","_law_k"] s16 = some b16:=by rfl
theorem sc16:FnScope ["_law_thing","_law_first","_law_most","_law_part","_law_k"] ["_law_thing"] (defScope s16):=⟨rfl,rfl,rfl,by decide +kernel,rfl,by decide +kernel,by decide +kernel⟩
noncomputable abbrev s17:Stmt:=top 22
noncomputable def b17:ISs:=(.cons (.asg 0 (.p (.lst (.own [] .fz) .nil))) (.cons (.fo [1] (.nm 1) (.p (.rng (.lit (.int 0)) (.lit (.int 90)))) (.cons (.asg 0 (.lst (.own [] .fz) (.fin (.fz 0) .nil))) .nil)) (.cons (.ret (.mv 0)) .nil)))
theorem cr17:cDef fns an 60 ["_law_deep_here","_law_k"] s17 = some b17:=by rfl
theorem sc17:FnScope ["_law_deep_here","_law_k"] [] (defScope s17):=⟨rfl,rfl,rfl,by decide +kernel,rfl,by decide +kernel,by decide +kernel⟩
noncomputable abbrev s18:Stmt:=top 23
noncomputable def b18:ISs:=(.cons (.asg 2 (.p (.lst (.own [] .fz) (.cons (.lit (.bl true)) (.cons (.lit (.bl false)) (.cons (.lit .non) (.cons (.lit (.str "")) (.cons (.lit (.str "0")) (.cons (.lst (.own [] .fz) .nil) (.cons (.tup .fz .nil) (.cons (.lst (.own [] .fz) (.cons (.lit (.int 0)) .nil)) (.cons (.tup .fz (.cons (.lit (.int 0)) (.cons (.lit (.int 0)) .nil))) (.cons (.dnew 0) (.cons (.neg (.lit (.int 1))) (.cons (.var 1) (.cons (.bin .Sub (.var 1) (.lit (.int 1))) (.cons (.bin .Add (.var 1) (.lit (.int 1))) (.cons (.bin .Add (.bin .Pow (.lit (.int 10)) (.lit (.int 59))) (.var 0)) (.cons (.lit (.int 0)) (.cons (.lit (.int 1)) (.cons (.lit (.int 2)) .nil))))))))))))))))))))) (.cons (.ret (.p (.ix (.bin .Add (.var 2) (.lst (.own [] .fz) (.cons (.fn 17 .nil) (.cons (.tup .fz (.cons (.lit (.int 0)) .nil)) (.cons (.tup .fz (.cons (.lit (.int 0)) (.cons (.tup .fz .nil) (.cons (.lit (.int 0)) .nil)))) (.cons (.lst (.own [] .fz) (.cons (.lit (.int 0)) (.cons (.lit (.int 0)) .nil))) (.cons (.tup .fz (.cons (.lit (.int 1)) (.cons (.tup .fz .nil) .nil))) (.cons (.tup .fz (.cons (.lit (.int 0)) (.cons (.lst (.own [] .fz) .nil) .nil))) .nil)))))))) (.bin .Mod (.var 0) (.lit (.int 24)))))) .nil))
theorem cr18:cDef fns an 60 ["_law_x","_law_bound","_law_menu"] s18 = some b18:=by rfl
theorem sc18:FnScope ["_law_x","_law_bound","_law_menu"] ["_law_x","_law_bound"] (defScope s18):=⟨rfl,rfl,rfl,by decide +kernel,rfl,by decide +kernel,by decide +kernel⟩
noncomputable abbrev s19:Stmt:=top 24
noncomputable def b19:ISs:=(.cons (.asg 3 (.p (.blt "list" (.cons (.var 0) .nil)))) (.cons (.ifs (.p (.cmp .Eq (.var 3) (.lst (.own [] .fz) .nil))) (.cons (.asg 3 (.p (.lst (.own [] .fz) (.cons (.var 2) .nil)))) .nil) (.cons (.put (.nm 3) (.bin .Mod (.var 1) (.blt "len" (.cons (.var 3) .nil))) (.p (.var 2))) .nil)) (.cons (.ifs (.p (.isi "tuple" (.var 0))) (.cons (.ret (.p (.blt "tuple" (.cons (.var 3) .nil)))) .nil) .nil) (.cons (.ret (.mv 3)) .nil))))
theorem cr19:cDef fns an 60 ["_law_row","_law_at","_law_thing","_law_some"] s19 = some b19:=by rfl
theorem sc19:FnScope ["_law_row","_law_at","_law_thing","_law_some"] ["_law_row","_law_at","_law_thing"] (defScope s19):=⟨rfl,rfl,rfl,by decide +kernel,rfl,by decide +kernel,by decide +kernel⟩
noncomputable abbrev s20:Stmt:=top 25
noncomputable def b20:ISs:=(.cons (.asg 4 (.p (.lst (.own [] .fz) (.cons (.bin .Add (.bin .Add (.ix (.var 2) (.lit (.int 0))) (.blt "len" (.cons (.ix (.var 2) (.lit (.int 1))) .nil))) (.blt "len" (.cons (.ix (.var 2) (.lit (.int 2))) .nil))) (.cons (.bin .Add (.bin .Add (.ix (.var 2) (.lit (.int 0))) (.blt "len" (.cons (.ix (.var 2) (.lit (.int 1))) .nil))) (.var 1)) .nil))))) (.cons (.ifs (.p (.not (.isi "tuple" (.var 0)))) (.cons (.ret (.p (.fn 18 (.cons (.ix (.var 3) (.lit (.int 0))) (.cons (.ix (.var 4) (.lit (.int 0))) .nil))))) .nil) .nil) (.cons (.ifs (.p (.cmp .Eq (.bin .Mod (.ix (.var 3) (.lit (.int 1))) (.lit (.int 4))) (.lit (.int 0)))) (.cons (.ret (.p (.fn 18 (.cons (.ix (.var 3) (.lit (.int 0))) (.cons (.ix (.var 4) (.lit (.int 0))) .nil))))) .nil) .nil) (.cons (.ifs (.p (.isi "tuple" (.ix (.var 0) (.lit (.int 1))))) (.cons (.ifs (.p (.cmp .Eq (.bin .Mod (.ix (.var 3) (.lit (.int 1))) (.lit (.int 4))) (.lit (.int 1)))) (.cons (.ret (.p (.tup .fz (.cons (.fn 18 (.cons (.ix (.var 3) (.lit (.int 0))) (.cons (.ix (.lst (.own [] .fz) (.cons (.lit (.int 2)) (.cons (.lit (.int 4)) (.cons (.lit (.int 16)) (.cons (.lit (.int 256)) .nil))))) (.blt "len" (.cons (.ix (.var 0) (.lit (.int 1))) .nil))) .nil))) (.cons (.ix (.var 0) (.lit (.int 1))) .nil))))) .nil) .nil) (.cons (.ifs (.p (.cmp .Eq (.bin .Mod (.ix (.var 3) (.lit (.int 1))) (.lit (.int 4))) (.lit (.int 2)))) (.cons (.ret (.p (.tup .fz (.cons (.ix (.var 0) (.lit (.int 0))) (.cons (.fn 19 (.cons (.ix (.var 0) (.lit (.int 1))) (.cons (.ix (.var 3) (.lit (.int 2))) (.cons (.fn 18 (.cons (.ix (.var 3) (.lit (.int 0))) (.cons (.ix (.var 4) (.lit (.int 1))) .nil))) .nil)))) .nil))))) .nil) .nil) (.cons (.ret (.p (.tup .fz (.cons (.ix (.var 0) (.lit (.int 0))) (.cons (.ix (.lst (.own [] .fz) (.cons (.blt "list" (.cons (.ix (.var 0) (.lit (.int 1))) .nil)) (.cons (.bin .Add (.ix (.var 0) (.lit (.int 1))) (.tup .fz (.cons (.lit (.int 0)) .nil))) (.cons (.sl (.ix (.var 0) (.lit (.int 1))) (.som (.lit (.int 1))) .non) (.cons (.lit .non) .nil))))) (.bin .Mod (.ix (.var 3) (.lit (.int 2))) (.lit (.int 4)))) .nil))))) .nil))) .nil) (.cons (.ifs (.p (.cmp .Eq (.bin .Mod (.ix (.var 3) (.lit (.int 1))) (.lit (.int 4))) (.lit (.int 1)))) (.cons (.ret (.p (.tup .fz (.cons (.fn 18 (.cons (.ix (.var 3) (.lit (.int 0))) (.cons (.lit (.int 2)) .nil))) (.cons (.ix (.var 0) (.lit (.int 1))) .nil))))) .nil) .nil) (.cons (.ifs (.p (.cmp .Eq (.bin .Mod (.ix (.var 3) (.lit (.int 1))) (.lit (.int 4))) (.lit (.int 2)))) (.cons (.ret (.p (.tup .fz (.cons (.ix (.var 0) (.lit (.int 0))) (.cons (.fn 18 (.cons (.ix (.var 3) (.lit (.int 0))) (.cons (.ix (.var 4) (.lit (.int 0))) .nil))) .nil))))) .nil) .nil) (.cons (.ret (.p (.ix (.lst (.own [] .fz) (.cons (.blt "list" (.cons (.var 0) .nil)) (.cons (.bin .Add (.var 0) (.tup .fz (.cons (.lit (.int 0)) .nil))) (.cons (.sl (.var 0) .non (.som (.lit (.int 1)))) (.cons (.tup .fz (.cons (.ix (.var 0) (.lit (.int 1))) (.cons (.ix (.var 0) (.lit (.int 0))) .nil))) .nil))))) (.bin .Mod (.ix (.var 3) (.lit (.int 2))) (.lit (.int 4)))))) .nil)))))))
theorem cr20:cDef fns an 60 ["_law_part","_law_number","_law_circuit_here","_law_xs","_law_bounds"] s20 = some b20:=by rfl
theorem sc20:FnScope ["_law_part","_law_number","_law_circuit_here","_law_xs","_law_bounds"] ["_law_part","_law_number","_law_circuit_here","_law_xs"] (defScope s20):=⟨rfl,rfl,rfl,by decide +kernel,rfl,by decide +kernel,by decide +kernel⟩
noncomputable abbrev s21:Stmt:=top 26
noncomputable def b21:ISs:=(.cons (.asg 2 (.p (.blt "list" (.cons (.var 0) .nil)))) (.cons (.asg 3 (.p (.bin .Mod (.ix (.var 1) (.lit (.int 0))) (.lit (.int 8))))) (.cons (.ifs (.p (.cmp .Eq (.var 3) (.lit (.int 0)))) (.cons (.ret (.p (.ix (.lst (.own [] .fz) (.cons (.blt "list" (.cons (.var 2) .nil)) (.cons (.blt "tuple" (.cons (.sl (.var 2) .non (.som (.lit (.int 3)))) .nil)) (.cons (.blt "tuple" (.cons (.bin .Add (.var 2) (.lst (.own [] .fz) (.cons (.lst (.own [] .fz) .nil) .nil))) .nil)) (.cons (.lit .non) (.cons (.lit (.str "circuit")) (.cons (.blt "tuple" (.cons (.rev (.var 2) (.neg (.lit (.int 1)))) .nil)) .nil))))))) (.bin .Mod (.ix (.var 1) (.lit (.int 1))) (.lit (.int 6)))))) .nil) .nil) (.cons (.ifs (.p (.cmp .Eq (.var 3) (.lit (.int 1)))) (.cons (.put (.nm 2) (.lit (.int 0)) (.p (.ix (.lst (.own [] .fz) (.cons (.fn 18 (.cons (.ix (.var 1) (.lit (.int 1))) (.cons (.ix (.var 0) (.lit (.int 0))) .nil))) (.cons (.bin .Add (.ix (.var 0) (.lit (.int 0))) (.lit (.int 1))) (.cons (.bin .Sub (.ix (.var 0) (.lit (.int 0))) (.lit (.int 1))) .nil)))) (.bin .Mod (.ix (.var 1) (.lit (.int 2))) (.lit (.int 3)))))) (.cons (.ifs (.p (.bool .And (.cons (.fn 9 (.cons (.ix (.var 2) (.lit (.int 0))) .nil)) (.cons (.cmp .Gt (.ix (.var 2) (.lit (.int 0))) (.lit (.int 400))) .nil)))) (.cons (.put (.nm 2) (.lit (.int 0)) (.p (.lit (.int 400)))) .nil) .nil) (.cons (.ret (.p (.blt "tuple" (.cons (.var 2) .nil)))) .nil))) .nil) (.cons (.asg 4 (.p (.bin .Add (.lit (.int 1)) (.bin .Mod (.ix (.var 1) (.lit (.int 1))) (.lit (.int 3)))))) (.cons (.ifs (.p (.bool .Or (.cons (.cmp .Eq (.var 3) (.lit (.int 2))) (.cons (.cmp .Eq (.ix (.var 2) (.var 4)) (.lst (.own [] .fz) .nil)) .nil)))) (.cons (.put (.nm 2) (.var 4) (.p (.ix (.lst (.own [] .fz) (.cons (.blt "tuple" (.cons (.ix (.var 2) (.var 4)) .nil)) (.cons (.lit .non) (.cons (.bin .Add (.ix (.var 2) (.var 4)) (.lst (.own [] .fz) (.cons (.fn 18 (.cons (.ix (.var 1) (.lit (.int 3))) (.cons (.lit (.int 0)) .nil))) .nil))) (.cons (.dnew 0) (.cons (.sl (.ix (.var 2) (.var 4)) .non (.som (.neg (.lit (.int 1))))) .nil)))))) (.bin .Mod (.ix (.var 1) (.lit (.int 2))) (.lit (.int 5)))))) (.cons (.ret (.p (.blt "tuple" (.cons (.var 2) .nil)))) .nil)) .nil) (.cons (.asg 5 (.p (.bin .Mod (.ix (.var 1) (.lit (.int 2))) (.blt "len" (.cons (.ix (.var 2) (.var 4)) .nil))))) (.cons (.put (.nm 2) (.var 4) (.p (.fn 19 (.cons (.ix (.var 2) (.var 4)) (.cons (.var 5) (.cons (.fn 20 (.cons (.ix (.ix (.var 2) (.var 4)) (.var 5)) (.cons (.var 5) (.cons (.var 0) (.cons (.sl (.var 1) (.som (.lit (.int 3))) (.som (.lit (.int 6)))) .nil))))) .nil)))))) (.cons (.ret (.p (.blt "tuple" (.cons (.var 2) .nil)))) .nil)))))))))
theorem cr21:cDef fns an 60 ["_law_circuit_here","_law_xs","_law_parts","_law_way","_law_at","_law_number"] s21 = some b21:=by rfl
theorem sc21:FnScope ["_law_circuit_here","_law_xs","_law_parts","_law_way","_law_at","_law_number"] ["_law_circuit_here","_law_xs"] (defScope s21):=⟨rfl,rfl,rfl,by decide +kernel,rfl,by decide +kernel,by decide +kernel⟩
noncomputable abbrev s22:Stmt:=top 27
noncomputable def b22:ISs:=(.cons (.asg 1 (.p (.fn 8 (.cons (.var 0) (.cons (.lit (.int 480)) .nil))))) (.cons (.asg 2 (.fn 12 (.fin (.fz 1) .nil))) (.cons (.fo [3,4,5] (.nm 3) (.p (.rng (.lit (.int 0)) (.lit (.int 8)))) (.cons (.ifs (.p (.cmp .IsNot (.fn 3 (.cons (.fn 13 (.cons (.var 2) .nil)) .nil)) (.lit (.bl true)))) (.cons (.ret (.p (.lit (.bl false)))) .nil) .nil) (.cons (.asg 4 (.p (.fn 21 (.cons (.fn 13 (.cons (.var 2) .nil)) (.cons (.sl (.var 1) (.som (.bin .Add (.lit (.int 410)) (.bin .Mult (.lit (.int 6)) (.var 3)))) (.som (.bin .Add (.lit (.int 416)) (.bin .Mult (.lit (.int 6)) (.var 3))))) .nil))))) (.cons (.asg 5 (.p (.fn 3 (.cons (.var 4) .nil)))) (.cons (.ifs (.p (.bool .Or (.cons (.not (.isi "bool" (.var 5))) (.cons (.cmp .NotEq (.var 5) (.fn 16 (.cons (.var 4) .nil))) .nil)))) (.cons (.ret (.p (.lit (.bl false)))) .nil) .nil) (.cons (.ifs (.p (.cmp .NotEq (.blt "repr" (.cons (.var 4) .nil)) (.blt "repr" (.cons (.fn 21 (.cons (.fn 13 (.cons (.var 2) .nil)) (.cons (.sl (.var 1) (.som (.bin .Add (.lit (.int 410)) (.bin .Mult (.lit (.int 6)) (.var 3)))) (.som (.bin .Add (.lit (.int 416)) (.bin .Mult (.lit (.int 6)) (.var 3))))) .nil))) .nil)))) (.cons (.ret (.p (.lit (.bl false)))) .nil) .nil) .nil)))))) (.cons (.asg 6 (.p (.fn 13 (.cons (.var 2) .nil)))) (.cons (.ret (.p (.bool .And (.cons (.cmp .Is (.fn 3 (.cons (.var 6) .nil)) (.lit (.bl true))) (.cons (.cmp .Eq (.var 6) (.var 2)) .nil))))) .nil)))))
theorem cr22:cDef fns an 60 ["_law_script","_law_xs","_law_circuit_here","_law_k","_law_thing","_law_found","_law_handed"] s22 = some b22:=by rfl
theorem sc22:FnScope ["_law_script","_law_xs","_law_circuit_here","_law_k","_law_thing","_law_found","_law_handed"] ["_law_script"] (defScope s22):=⟨rfl,rfl,rfl,by decide +kernel,rfl,by decide +kernel,by decide +kernel⟩
noncomputable def Γ0:GG:=⟨fun _=>none,fun _=>none⟩
noncomputable def ψ0:Fn:=defI Γ0 1000 1 1 b0
theorem h0:∀ ds,Le (ψ0 ds) (defI Γ0 1000 1 1 b0 ds):=fun _=>Le.refl _
noncomputable def Γ_0:GG:=Γ0.addI 0 ψ0
noncomputable def ψ1:Fn:=defI Γ_0 1000 2 2 b1
theorem h1:∀ ds,Le (ψ1 ds) (defI Γ_0 1000 2 2 b1 ds):=fun _=>Le.refl _
noncomputable def Γ_1:GG:=Γ_0.addI 1 ψ1
noncomputable def ψ2:Fn:=defI Γ_1 1000 2 2 b2
theorem h2:∀ ds,Le (ψ2 ds) (defI Γ_1 1000 2 2 b2 ds):=fun _=>Le.refl _
noncomputable def Γ_2:GG:=Γ_1.addI 2 ψ2
noncomputable def ψ4:Fn:=defI Γ_2 1000 2 2 b4
theorem h4:∀ ds,Le (ψ4 ds) (defI Γ_2 1000 2 2 b4 ds):=fun _=>Le.refl _
noncomputable def Γ_4:GG:=Γ_2.addI 4 ψ4
noncomputable def ψ5:Fn:=defI Γ_4 1000 2 2 b5
theorem h5:∀ ds,Le (ψ5 ds) (defI Γ_4 1000 2 2 b5 ds):=fun _=>Le.refl _
noncomputable def Γ_5:GG:=Γ_4.addI 5 ψ5
noncomputable def ψ6:Fn:=defI Γ_5 1000 2 2 b6
theorem h6:∀ ds,Le (ψ6 ds) (defI Γ_5 1000 2 2 b6 ds):=fun _=>Le.refl _
noncomputable def Γ_6:GG:=Γ_5.addI 6 ψ6
noncomputable def ψ3:Fn:=defI Γ_6 1000 1 7 b3
theorem h3:∀ ds,Le (ψ3 ds) (defI Γ_6 1000 1 7 b3 ds):=fun _=>Le.refl _
noncomputable def Γ_3:GG:=Γ_6.addI 3 ψ3
noncomputable def ψ7:Fn:=defI Γ_3 1000 2 5 b7
theorem h7:∀ ds,Le (ψ7 ds) (defI Γ_3 1000 2 5 b7 ds):=fun _=>Le.refl _
noncomputable def Γ_7:GG:=Γ_3.addI 7 ψ7
noncomputable def ψ8:Fn:=defI Γ_7 1000 2 6 b8
theorem h8:∀ ds,Le (ψ8 ds) (defI Γ_7 1000 2 6 b8 ds):=fun _=>Le.refl _
noncomputable def Γ_8:GG:=Γ_7.addI 8 ψ8
noncomputable def ψ9:Fn:=defI Γ_8 1000 1 1 b9
theorem h9:∀ ds,Le (ψ9 ds) (defI Γ_8 1000 1 1 b9 ds):=fun _=>Le.refl _
noncomputable def Γ_9:GG:=Γ_8.addI 9 ψ9
noncomputable def ψ10:Fn:=defI Γ_9 1000 1 1 b10
theorem h10:∀ ds,Le (ψ10 ds) (defI Γ_9 1000 1 1 b10 ds):=fun _=>Le.refl _
noncomputable def Γ_10:GG:=Γ_9.addI 10 ψ10
noncomputable def ψ11:Fn:=defI Γ_10 1000 2 3 b11
theorem h11:∀ ds,Le (ψ11 ds) (defI Γ_10 1000 2 3 b11 ds):=fun _=>Le.refl _
noncomputable def Γ_11:GG:=Γ_10.addI 11 ψ11
noncomputable def ψ12:Fn:=defI Γ_11 1000 1 13 b12
theorem h12:∀ ds,Le (ψ12 ds) (defI Γ_11 1000 1 13 b12 ds):=fun _=>Le.refl _
noncomputable def Γ_12:GG:=Γ_11.addI 12 ψ12
noncomputable def ψ13:Fn:=defI Γ_12 1000 1 1 b13
theorem h13:∀ ds,Le (ψ13 ds) (defI Γ_12 1000 1 1 b13 ds):=fun _=>Le.refl _
noncomputable def Γ_13:GG:=Γ_12.addI 13 ψ13
noncomputable def ψ14:Fn:=defI Γ_13 1000 2 2 b14
theorem h14:∀ ds,Le (ψ14 ds) (defI Γ_13 1000 2 2 b14 ds):=fun _=>Le.refl _
noncomputable def Γ_14:GG:=Γ_13.addI 14 ψ14
noncomputable def ψ15:Fn:=defI Γ_14 1000 2 2 b15
theorem h15:∀ ds,Le (ψ15 ds) (defI Γ_14 1000 2 2 b15 ds):=fun _=>Le.refl _
noncomputable def Γ_15:GG:=Γ_14.addI 15 ψ15
noncomputable def ψ16:Fn:=defI Γ_15 1000 1 5 b16
theorem h16:∀ ds,Le (ψ16 ds) (defI Γ_15 1000 1 5 b16 ds):=fun _=>Le.refl _
noncomputable def Γ_16:GG:=Γ_15.addI 16 ψ16
noncomputable def ψ17:Fn:=defI Γ_16 1000 0 2 b17
theorem h17:∀ ds,Le (ψ17 ds) (defI Γ_16 1000 0 2 b17 ds):=fun _=>Le.refl _
noncomputable def Γ_17:GG:=Γ_16.addI 17 ψ17
noncomputable def ψ18:Fn:=defI Γ_17 1000 2 3 b18
theorem h18:∀ ds,Le (ψ18 ds) (defI Γ_17 1000 2 3 b18 ds):=fun _=>Le.refl _
noncomputable def Γ_18:GG:=Γ_17.addI 18 ψ18
noncomputable def ψ19:Fn:=defI Γ_18 1000 3 4 b19
theorem h19:∀ ds,Le (ψ19 ds) (defI Γ_18 1000 3 4 b19 ds):=fun _=>Le.refl _
noncomputable def Γ_19:GG:=Γ_18.addI 19 ψ19
noncomputable def ψ20:Fn:=defI Γ_19 1000 4 5 b20
theorem h20:∀ ds,Le (ψ20 ds) (defI Γ_19 1000 4 5 b20 ds):=fun _=>Le.refl _
noncomputable def Γ_20:GG:=Γ_19.addI 20 ψ20
noncomputable def ψ21:Fn:=defI Γ_20 1000 2 6 b21
theorem h21:∀ ds,Le (ψ21 ds) (defI Γ_20 1000 2 6 b21 ds):=fun _=>Le.refl _
noncomputable def Γ_21:GG:=Γ_20.addI 21 ψ21
noncomputable def ψ22:Fn:=defI Γ_21 1000 1 7 b22
theorem h22:∀ ds,Le (ψ22 ds) (defI Γ_21 1000 1 7 b22 ds):=fun _=>Le.refl _
end K33
namespace K33
open PySem L2 J
noncomputable abbrev k0:Ow:=.own [] .fz
noncomputable abbrev iL (xs:List Int):List D:=xs.map .int
theorem iL_get {xs:List Int} {i:Nat} {d:D} (h:(iL xs)[i]? = some d):∃ x,xs[i]? = some x/\d = .int x:=by
 rw [List.getElem?_map] at h
 obtain ⟨e,he,rfl⟩:=mapS h
 exact ⟨e,he,rfl⟩
theorem wo_enm {k:Kd} {ds:List D} {P:List Nat × List D->Prop} (h:okE k ds = true) (q:P (boOf k,ds.mapIdx fun i d=>D.tup [.int i,d])):Wp (oEnm (some (k,.nd .lst ds))) P:=⟨(boOf k,ds.mapIdx fun i d=>D.tup [.int i,d]),by unfold oEnm; rw [show oSeqL (some (k,.nd .lst ds)) = some (boOf k,ds) from if_pos h]; rfl,q⟩
theorem enm_get {ds:List D} {i:Nat} {d:D} (h:(ds.mapIdx fun i d=>D.tup [.int i,d])[i]? = some d):∃ e,ds[i]? = some e/\d = .tup [.int i,e]:=by
 rw [List.getElem?_mapIdx] at h
 obtain ⟨e,he,rfl⟩:=mapS h
 exact ⟨e,he,rfl⟩
theorem we_chain2 {Γ:Nat->Option Fn} {ρ:Ro} {op op':CmpOp} {a b d:IE} {Q:KD->Prop} (h:Wp (evI Γ a ρ) fun x=>Wp (evI Γ b ρ) fun y=>Wp (cmpD op x.2 y.2) fun r=>(r = true->Wp (evI Γ d ρ) fun z=>Wp (cmpD op' y.2 z.2) fun r=>Q (.sh,.bl r))/\(r = false->Q (.sh,.bl false))):Wp (evI Γ (.chain op op' a b d) ρ) Q:=by
 obtain ⟨x,ex,y,ey,r,er,q1,q2⟩:=h
 cases r with
 | true=>
  obtain ⟨z,ez,w,ew,q⟩:=q1 rfl
  refine ⟨(.sh,.bl w),?_,q⟩
  rw [evI,ex,ey,ez]
  unfold oChain
  dsimp only
  rw [er]
  dsimp only
  rw [ew]
  rfl
 | false=>
  refine ⟨(.sh,.bl false),?_,q2 rfl⟩
  rw [evI,ex,ey]
  unfold oChain
  dsimp only
  rw [er]
  rfl
noncomputable def isW:D->Bool
 | .int _=>true
 | _=>false
noncomputable def bel (d:D) (b:Int):Bool:=match d with
 | .int i=>decide (0<=i) && decide (i < b)
 | _=>false
noncomputable def isT (d:D) (k:Int):Bool:=match d with
 | .nd .tup ds=>decide ((ds.length:Int) = k)
 | _=>false
noncomputable def tupB:D->Bool
 | .nd .tup _=>true
 | _=>false
noncomputable def lstB:D->Bool
 | .nd .lst _=>true
 | _=>false
noncomputable def its:D->List D
 | .nd _ ds=>ds
 | _=>[]
noncomputable def at_ (d:D) (i:Nat):D:=(its d).getD i .non
noncomputable def whl:D->Int
 | .int i=>i
 | _=>0
noncomputable def memD (d:D) (many:Int):Bool:=isT d 2 && (bel (at_ d 0) 2 && bel (at_ d 1) many)
noncomputable def tabD (d:D) (k:Nat):Bool:=decide (k<=3) && bel d ((2 ^ 2 ^ k:Nat):Int)
noncomputable def gateD (d:D) (own:Int):Bool:=isT d 2 && (tupB (at_ d 1) && (tabD (at_ d 0) (its (at_ d 1)).length && ((its (at_ d 1)).map (bel · own)).all id))
noncomputable def gAll (f:Int) (gs:List D):Bool:=((gs.mapIdx fun i g=>(i,g)).map fun p=>gateD p.2 (f + p.1)).all id
noncomputable def circB (ins:Int) (ms gs os:List D):Bool:=decide (0<=ins) && ((ms.map (memD · (ins + ms.length + gs.length))).all id && (gAll (ins + ms.length) gs && (os.map (bel · (ins + ms.length + gs.length))).all id))
noncomputable def circD (d:D):Bool:=isT d 4 && (isW (at_ d 0) && (lstB (at_ d 1) && (lstB (at_ d 2) && (lstB (at_ d 3) && circB (whl (at_ d 0)) (its (at_ d 1)) (its (at_ d 2)) (its (at_ d 3))))))
theorem rok_nd {n:Nat} {ds:List D} (h:rok n (.nd .tup ds) = true\/rok n (.nd .lst ds) = true):∀ d ∈ ds,rok (n - 1) d = true:=by
 have key:∀ {m:Nat} {l:List D},rokL m l = true->∀ d ∈ l,rok m d = true:=by
  intro m l
  induction l with
  | nil=>intro _ d hd; simp at hd
  | cons a l ih=>
   intro h d hd
   simp only [rokL,Bool.and_eq_true] at h
   rcases List.mem_cons.mp hd with rfl | hd
   ·exact h.1
   ·exact ih h.2 d hd
 rcases h with h | h
 ·simp only [rok,Bool.and_eq_true] at h; exact key h.2
 ·simp only [rok,Bool.and_eq_true] at h; exact key h.2
noncomputable def Ev (Γ:Nat->Option Fn) (e:IE) (ρ:Ro) (b:Bool):Prop:=Wp (evI Γ e ρ) fun r=>r = (.sh,.bl b)
noncomputable def Et (Γ:Nat->Option Fn) (e:IE) (ρ:Ro) (b:Bool):Prop:=Wp (evIT Γ e ρ) fun r=>r = b
section
variable {Γ:Nat->Option Fn} {ρ:Ro} {a b:IE} {r:IEs} {z w:Bool}
theorem Ev.and (ha:Ev Γ a ρ z) (hb:z = true->Ev Γ (.bool .And (.cons b r)) ρ w):Ev Γ (.bool .And (.cons a (.cons b r))) ρ (z && w):=by
 refine we_boolC (ha.mono fun x hx=>?_)
 subst hx
 refine ⟨z,rfl,fun e=>(hb (Eq.symm e)).mono fun y hy=>?_,fun e=>?_⟩
 ·rw [hy,show z = true from Eq.symm e]; rfl
 ·have:z = false:=by cases z with | false=>rfl | true=>exact absurd rfl e
  rw [this]; rfl
theorem Ev.one {op:BoolOp} (ha:Ev Γ a ρ z):Ev Γ (.bool op (.cons a .nil)) ρ z:=we_bool1 ha
theorem Ev.fn {i:Nat} {φ:Fn} {es:IEs} {ds:List D} (hΓ:Γ i = some φ) (he:Wp (evIs Γ es ρ) fun kds=>kds.map (·.2) = ds) (hφ:φ ds = some (.sh,.bl z)):Ev Γ (.fn i es) ρ z:=by
 refine we_fn hΓ (he.mono fun kds hk=>wf_fn ⟨_,?_,rfl,.inr rfl,rfl⟩)
 rw [hk]; exact hφ
theorem Et.or (ha:Et Γ a ρ z) (hb:z = false->Et Γ (.bool .Or (.cons b r)) ρ w):Et Γ (.bool .Or (.cons a (.cons b r))) ρ (z || w):=by
 refine wt_boolC (ha.mono fun x hx=>?_)
 subst hx
 refine ⟨fun e=>(hb (Eq.symm e)).mono fun y hy=>?_,fun e=>?_⟩
 ·rw [hy,show x = false from Eq.symm e]; rfl
 ·have:x = true:=by cases x with | true=>rfl | false=>exact absurd rfl e
  rw [this]; rfl
theorem Et.one {op:BoolOp} (ha:Et Γ a ρ z):Et Γ (.bool op (.cons a .nil)) ρ z:=wt_bool1 ha
theorem Et.not (ha:Et Γ a ρ z):Et Γ (.not a) ρ (!z):=wt_not (ha.mono fun x hx=>by rw [hx])
theorem Et.ev (ht:truK a = true) (ha:Ev Γ a ρ z):Et Γ a ρ z:=wt_tru ht (ha.mono fun x hx=>by subst hx; exact ⟨z,rfl,rfl⟩)
end
section
variable {Γ:GG} {N:Nat} {pn:List Nat} {ρ:Ro} {Q:Res->Prop} {rest:ISs}
theorem ret_ev {e:IE} {b:Bool} {R:KD->Prop} (h:Ev Γ.fn e ρ b) (q:R (.sh,.bl b)):Wp (exB Γ N (.cons (.ret (.p e)) rest) pn ρ) fun r=>Wp (oDef (some r)) R:=
 w_ret (wm_p (h.mono fun x hx=>by subst hx; exact ⟨rfl,od_rt rfl q⟩))
theorem if_et {t:IE} {z:Bool} {a b:ISs} (h:Et Γ.fn t ρ z) (h1:z = true->Wp (exB Γ N a pn ρ) (Kt Γ N rest pn Q)) (h2:z = false->Wp (exB Γ N b pn ρ) (Kt Γ N rest pn Q)):Wp (exB Γ N (.cons (.ifs (.p t) a b) rest) pn ρ) Q:=
 w_ifs (wmt_p (h.mono fun x hx=>by subst hx; exact ⟨h1,h2⟩))
theorem kt_fin {R:KD->Prop} (h:R (.sh,.bl false)):Wp (exB Γ N (.cons (.ret (.p (.lit (.bl false)))) .nil) pn ρ) (Kt Γ N rest pn fun r=>Wp (oDef (some r)) R):=
 w_ret (wm_p (we_lit ⟨rfl,kt_rt (od_rt rfl h)⟩))
theorem kt_go (h:Wp (exB Γ N rest pn ρ) Q):Wp (exB Γ N .nil pn ρ) (Kt Γ N rest pn Q):=w_nil (kt_nx h)
end
theorem wp_eq {φ:Option KD} {r:KD} (h:Wp φ fun x=>x = r):φ = some r:=by obtain ⟨x,e,rfl⟩:=h; exact e
theorem whole_eq {d:D} {n:Nat} (h:rok n d = true):ψ0 [d] = some (.sh,.bl (isW d)):=by
 cases d with
 | non=>rfl
 | bl _=>rfl
 | int _=>rfl
 | str _=>rfl
 | scr _=>simp [rok] at h
 | nd hd ds=>cases hd with
  | lst=>rfl
  | tup=>rfl
  | dic t ks=>simp only [rok,Bool.and_eq_true,decide_eq_true_eq] at h; obtain ⟨_,rfl,_⟩:=h; rfl
  | obj _ _=>simp [rok] at h
theorem lwhole_eq {d:D} {n:Nat} (h:rok n d = true):ψ9 [d] = some (.sh,.bl (isW d)):=by
 cases d with
 | non=>rfl
 | bl _=>rfl
 | int _=>rfl
 | str _=>rfl
 | scr _=>simp [rok] at h
 | nd hd ds=>cases hd with
  | lst=>rfl
  | tup=>rfl
  | dic t ks=>simp only [rok,Bool.and_eq_true,decide_eq_true_eq] at h; obtain ⟨_,rfl,_⟩:=h; rfl
  | obj _ _=>simp [rok] at h
theorem isW_int {d:D} (h:isW d = true):∃ i,d = .int i:=by
 cases d with
 | int i=>exact ⟨i,rfl⟩
 | _=>cases h
theorem args1 {Γ:Nat->Option Fn} {ρ:Ro} {a:IE} {d:D} (h:Wp (evI Γ a ρ) fun x=>x.2 = d):Wp (evIs Γ (.cons a .nil) ρ) fun kds=>kds.map (·.2) = [d]:=ws_cons (h.mono fun x hx=>ws_nil (by subst hx; rfl))
theorem args2 {Γ:Nat->Option Fn} {ρ:Ro} {a b:IE} {d e:D} (h:Wp (evI Γ a ρ) fun x=>x.2 = d) (k:Wp (evI Γ b ρ) fun x=>x.2 = e):Wp (evIs Γ (.cons a (.cons b .nil)) ρ) fun kds=>kds.map (·.2) = [d,e]:=ws_cons (h.mono fun x hx=>ws_cons (k.mono fun y hy=>ws_nil (by subst hx hy; rfl)))
theorem chain_ev {Γ:Nat->Option Fn} {ρ:Ro} {a b:IE} {i j:Int} (ha:Wp (evI Γ a ρ) fun x=>x.2 = .int i) (hb:Wp (evI Γ b ρ) fun x=>x.2 = .int j):Ev Γ (.chain .LtE .Lt (.lit (.int 0)) a b) ρ (bel (.int i) j):=by
 refine we_chain2 (we_lit (ha.mono fun x hx=>?_))
 obtain ⟨kx,dx⟩:=x
 cases (show dx = _ from hx)
 refine wc_le ⟨fun e=>hb.mono fun y hy=>?_,fun e=>?_⟩
 ·obtain ⟨ky,dy⟩:=y
  cases (show dy = _ from hy)
  refine wc_lt ?_
  unfold bel; dsimp only; rw [e]; rfl
 ·unfold bel; dsimp only; rw [e]; rfl
theorem below_of {Γ:GG} {φ:Fn} {i:Nat} {d:D} {n:Nat} {b:Int} (hΓ:Γ.fn i = some φ) (hφ:φ [d] = some (.sh,.bl (isW d))):defI Γ 1000 2 2 (.cons (.ret (.p (.bool .And (.cons (.fn i (.cons (.var 0) .nil)) (.cons (.chain .LtE .Lt (.lit (.int 0)) (.var 0) (.var 1)) .nil))))) .nil) [d,.int b] = some (.sh,.bl (bel d b)):=by
 refine wp_eq (wd_I rfl ?_)
 walk_at "nm"
 have hb:bel d b = (isW d && bel d b):=by cases d <;> rfl
 rw [hb]
 refine ret_ev (.and (.fn hΓ (args1 (we_var rfl rfl)) hφ) fun e=>?_) rfl
 obtain ⟨j,rfl⟩:=isW_int e
 exact .one (chain_ev (we_var rfl rfl) (we_var rfl rfl))
theorem below_eq {d:D} {n:Nat} {b:Int} (h:rok n d = true):ψ1 [d,.int b] = some (.sh,.bl (bel d b)):=below_of (n:=n) rfl (whole_eq h)
theorem lbelow_eq {d:D} {n:Nat} {b:Int} (h:rok n d = true):ψ14 [d,.int b] = some (.sh,.bl (bel d b)):=below_of (n:=n) rfl (lwhole_eq h)
theorem isi_tup {Γ:Nat->Option Fn} {ρ:Ro} {a:IE} {d:D} {n:Nat} (h:rok n d = true) (ha:Wp (evI Γ a ρ) fun x=>x.2 = d):Ev Γ (.isi "tuple" a) ρ (tupB d):=by
 refine we_isi (ha.mono fun x hx=>?_)
 subst hx
 cases hd:x.2 with
 | non=>exact ⟨_,rfl,rfl⟩
 | bl _=>exact ⟨_,rfl,rfl⟩
 | int _=>exact ⟨_,rfl,rfl⟩
 | str _=>exact ⟨_,rfl,rfl⟩
 | scr _=>rw [hd] at h; simp [rok] at h
 | nd k ds=>cases k with
  | lst=>exact ⟨_,rfl,rfl⟩
  | tup=>exact ⟨_,rfl,rfl⟩
  | dic t ks=>rw [hd] at h; simp only [rok,Bool.and_eq_true,decide_eq_true_eq] at h; obtain ⟨_,rfl,_⟩:=h; exact ⟨_,rfl,rfl⟩
  | obj _ _=>rw [hd] at h; simp [rok] at h
theorem isi_lst {Γ:Nat->Option Fn} {ρ:Ro} {a:IE} {d:D} {n:Nat} (h:rok n d = true) (ha:Wp (evI Γ a ρ) fun x=>x.2 = d):Ev Γ (.isi "list" a) ρ (lstB d):=by
 refine we_isi (ha.mono fun x hx=>?_)
 subst hx
 cases hd:x.2 with
 | non=>exact ⟨_,rfl,rfl⟩
 | bl _=>exact ⟨_,rfl,rfl⟩
 | int _=>exact ⟨_,rfl,rfl⟩
 | str _=>exact ⟨_,rfl,rfl⟩
 | scr _=>rw [hd] at h; simp [rok] at h
 | nd k ds=>cases k with
  | lst=>exact ⟨_,rfl,rfl⟩
  | tup=>exact ⟨_,rfl,rfl⟩
  | dic t ks=>rw [hd] at h; simp only [rok,Bool.and_eq_true,decide_eq_true_eq] at h; obtain ⟨_,rfl,_⟩:=h; exact ⟨_,rfl,rfl⟩
  | obj _ _=>rw [hd] at h; simp [rok] at h
theorem len_at {Γ:Nat->Option Fn} {ρ:Ro} {a:IE} {ds:List D} {hd:Hd} (hh:hd = .tup\/hd = .lst) (ha:Wp (evI Γ a ρ) fun x=>x.2 = .nd hd ds):Wp (evI Γ (.blt "len" (.cons a .nil)) ρ) fun x=>x = (.sh,.int ds.length):=by
 refine we_blt (ws_cons (ha.mono fun x hx=>ws_nil ?_))
 obtain ⟨kx,dx⟩:=x
 cases (show dx = _ from hx)
 rcases hh with rfl | rfl
 ·exact wl_lenT rfl
 ·exact wl_lenL rfl
theorem eq_at {Γ:Nat->Option Fn} {ρ:Ro} {a b:IE} {i j:Int} (ha:Wp (evI Γ a ρ) fun x=>x = (.sh,.int i)) (hb:Wp (evI Γ b ρ) fun x=>x.2 = .int j):Ev Γ (.cmp .Eq a b) ρ (decide (i = j)):=by
 refine we_cmp (ha.mono fun x hx=>hb.mono fun y hy=>?_)
 obtain ⟨ky,dy⟩:=y
 subst hx
 cases (show dy = _ from hy)
 exact wc_eq rfl
theorem tuple_eq {d:D} {n:Nat} {k:Int} (h:rok n d = true):ψ4 [d,.int k] = some (.sh,.bl (isT d k)):=by
 unfold ψ4
 refine wp_eq (wd_I rfl ?_)
 unfold b4
 walk_at "nm"
 have hb:isT d k = (tupB d && isT d k):=by
  cases d with
  | nd hd ds=>cases hd <;> rfl
  | _=>rfl
 rw [hb]
 refine ret_ev (.and (isi_tup h (we_var rfl rfl)) fun e=>.one ?_) rfl
 cases d with
 | nd hd ds=>cases hd with
  | tup=>exact eq_at (len_at (.inl rfl) (we_var rfl rfl)) (we_var rfl rfl)
  | _=>cases e
 | _=>cases e
theorem isT_two {d:D} (h:isT d 2 = true):∃ a b,d = .nd .tup [a,b]:=by
 unfold isT at h
 split at h
 ·rename_i ds
  have h:(ds.length:Int) = 2:=of_decide_eq_true h
  match ds,h with
  | [a,b],_=>exact ⟨a,b,rfl⟩
 ·cases h
theorem ix_tup {Γ:Nat->Option Fn} {ρ:Ro} {a:IE} {ds:List D} {d:D} {i:Nat} (ha:Wp (evI Γ a ρ) fun x=>x.2 = .nd .tup ds) (hi:ds[i]? = some d):Wp (evI Γ (.ix a (.lit (.int i))) ρ) fun x=>x.2 = d:=by
 refine we_ix (ha.mono fun x hx=>we_lit ?_)
 obtain ⟨kx,dx⟩:=x
 cases (show dx = _ from hx)
 have hl:=(List.getElem?_eq_some_iff.mp hi).1
 exact wx_tup (n:=i) (by rw [ixN_nat (by omega) (by omega)]; rfl) hi rfl
theorem memory_eq {d:D} {n:Nat} {many:Int} (h:rok n d = true):ψ5 [d,.int many] = some (.sh,.bl (memD d many)):=by
 unfold ψ5
 refine wp_eq (wd_I rfl ?_)
 unfold b5
 walk_at "nm"
 have hb:memD d many = (isT d 2 && memD d many):=by unfold memD; cases isT d 2 <;> rfl
 rw [hb]
 refine ret_ev (.and (.fn (φ:=ψ4) rfl (args2 (we_var rfl rfl) (we_lit rfl)) (tuple_eq h)) fun e=>?_) rfl
 obtain ⟨a,b,rfl⟩:=isT_two e
 have ha:=rok_nd (.inl h) a (by simp)
 have hb:=rok_nd (.inl h) b (by simp)
 show Ev _ _ _ (bel a 2 && bel b many)
 exact .and (.fn (φ:=ψ1) rfl (args2 (ix_tup (i:=0) (we_var rfl rfl) rfl) (we_lit rfl)) (below_eq ha)) fun _=>.one (.fn (φ:=ψ1) rfl (args2 (ix_tup (i:=1) (we_var rfl rfl) rfl) (we_var rfl rfl)) (below_eq hb))
end K33
namespace K33
open PySem L2 J
theorem all_ev {Γ:Nat->Option Fn} {ρ:Ro} {a:IE} {cap:List (Option Nat)} {i:Nat} {φ:Fn} {ds:List D} {b:Int} {f:D->Bool} (hs:Wp (evII Γ (.e a) ρ) fun p=>p.2 = ds) (hl:ds.length<=100000) (hc:capRo ρ cap = [none,none,none,some ⟨false,.fz,.int b⟩]) (hΓ:Γ i = some φ) (hf:∀ d ∈ ds,φ [d,.int b] = some (.sh,.bl (f d))) :
  Ev Γ (.blt "all" (.cons (.comp .fz cap (.nm 1) (.e a) .non (.fn i (.cons (.var 1) (.cons (.var 3) .nil)))) .nil)) ρ ((ds.map f).all id):=by
 refine we_blt (ws_cons (we_comp (hs.mono fun p hp=>?_)))
 obtain ⟨bs,es⟩:=p
 cases (show es = _ from hp)
 refine ⟨hl,?_⟩
 rw [hc]
 refine wmap (fun j y=>∃ g,ds[j]? = some g/\y = .bl (f g)) (fun j d hd=>?_) fun ys hy hp=>?_
 ·refine w_elt (ps:=[(1,d)]) rfl rfl rfl ?_
  refine we_fn hΓ (ws_cons (we_var rfl (ws_cons (we_var rfl (ws_nil (wf_fn ⟨_,hf d (List.mem_of_getElem? hd),rfl,.inr rfl,?_⟩))))))
  exact ⟨_,rfl,rfl,d,hd,rfl⟩
 ·rw [map_bl (l:=ds) (f:=f) hy hp]
  exact ws_nil (wl_all rfl)
theorem et_lt {Γ:Nat->Option Fn} {ρ:Ro} {a b:IE} {i j:Int} (ha:Wp (evI Γ a ρ) fun x=>x.2 = .int i) (hb:Wp (evI Γ b ρ) fun x=>x.2 = .int j):Et Γ (.cmp .Lt a b) ρ (decide (i < j)):=by
 refine wt_cmp (ha.mono fun x hx=>hb.mono fun y hy=>?_)
 obtain ⟨kx,dx⟩:=x
 obtain ⟨ky,dy⟩:=y
 cases (show dx = _ from hx)
 cases (show dy = _ from hy)
 exact wc_lt rfl
theorem et_gt {Γ:Nat->Option Fn} {ρ:Ro} {a b:IE} {i j:Int} (ha:Wp (evI Γ a ρ) fun x=>x.2 = .int i) (hb:Wp (evI Γ b ρ) fun x=>x.2 = .int j):Et Γ (.cmp .Gt a b) ρ (decide (j < i)):=by
 refine wt_cmp (ha.mono fun x hx=>hb.mono fun y hy=>?_)
 obtain ⟨kx,dx⟩:=x
 obtain ⟨ky,dy⟩:=y
 cases (show dx = _ from hx)
 cases (show dy = _ from hy)
 exact wc_gt rfl
theorem et_ne {Γ:Nat->Option Fn} {ρ:Ro} {a b:IE} {i j:Int} (ha:Wp (evI Γ a ρ) fun x=>x.2 = .int i) (hb:Wp (evI Γ b ρ) fun x=>x.2 = .int j):Et Γ (.cmp .NotEq a b) ρ (!decide (i = j)):=by
 refine wt_cmp (ha.mono fun x hx=>hb.mono fun y hy=>?_)
 obtain ⟨kx,dx⟩:=x
 obtain ⟨ky,dy⟩:=y
 cases (show dx = _ from hx)
 cases (show dy = _ from hy)
 exact wc_ne rfl
theorem et_eq {Γ:Nat->Option Fn} {ρ:Ro} {a b:IE} {i j:Int} (ha:Wp (evI Γ a ρ) fun x=>x.2 = .int i) (hb:Wp (evI Γ b ρ) fun x=>x.2 = .int j):Et Γ (.cmp .Eq a b) ρ (decide (i = j)):=by
 refine wt_cmp (ha.mono fun x hx=>hb.mono fun y hy=>?_)
 obtain ⟨kx,dx⟩:=x
 obtain ⟨ky,dy⟩:=y
 cases (show dx = _ from hx)
 cases (show dy = _ from hy)
 exact wc_eq rfl
theorem len_int {Γ:Nat->Option Fn} {ρ:Ro} {a:IE} {ds:List D} {hd:Hd} (hh:hd = .tup\/hd = .lst) (ha:Wp (evI Γ a ρ) fun x=>x.2 = .nd hd ds):Wp (evI Γ (.blt "len" (.cons a .nil)) ρ) fun x=>x.2 = .int ds.length:=(len_at hh ha).mono fun x hx=>by rw [hx]
theorem pw_small {k:Nat} (h:k<=3):0<=(1:Int) * 2 ^ k/\(1:Int) * 2 ^ k<=8/\(1:Int) * 2 ^ ((1:Int) * 2 ^ k).toNat = ((2 ^ 2 ^ k:Nat):Int):=by
 have:k = 0\/k = 1\/k = 2\/k = 3:=by omega
 rcases this with rfl | rfl | rfl | rfl <;> decide
theorem table_eq {d:D} {n k:Nat} (h:rok n d = true):ψ2 [d,.int k] = some (.sh,.bl (tabD d k)):=by
 unfold ψ2
 refine wp_eq (wd_I rfl ?_)
 unfold b2
 walk_at "nm"
 refine if_et (.or (.not (.ev rfl (.fn (φ:=ψ0) (ds:=[d]) rfl (args1 (we_var rfl rfl)) (whole_eq h)))) fun _=>.one (.not (.ev rfl (.fn (φ:=ψ0) (z:=true) rfl (args1 (we_var rfl rfl)) rfl)))) (fun e=>kt_fin ?_) fun e=>kt_go ?_
 ·have:isW d = false:=by simpa using e
  have:bel d ((2 ^ 2 ^ k:Nat):Int) = false:=by cases d <;> first | rfl | cases this
  unfold tabD; rw [this,Bool.and_false]
 obtain ⟨i,rfl⟩:=isW_int (show isW d = true by simpa using e)
 refine if_et (.or (et_lt (we_var rfl rfl) (we_lit rfl)) fun _=>.one (et_gt (we_var rfl rfl) (we_lit rfl))) (fun e=>kt_fin ?_) fun e=>kt_go ?_
 ·simp only [Bool.or_eq_true,decide_eq_true_eq] at e
  have:¬ k<=3:=by omega
  unfold tabD; rw [decide_eq_false this,Bool.false_and]
 ·simp only [Bool.or_eq_false_iff,decide_eq_false_iff_not] at e
  have hk:k<=3:=by omega
  obtain ⟨p1,p2,p3⟩:=pw_small hk
  have:tabD (.int i) k = bel (.int i) ((2 ^ 2 ^ k:Nat):Int):=by unfold tabD; rw [decide_eq_true hk,Bool.true_and]
  rw [this]
  refine ret_ev (chain_ev (we_var rfl rfl) ?_) rfl
  refine we_bin (we_lit (we_bin (we_lit (we_var rfl (wb_shl ⟨by omega,by omega,by decide⟩ ?_)))))
  rw [show ((k:Int)).toNat = k from rfl]
  refine wb_shl ⟨by omega,by omega,by decide⟩ ?_
  rw [p3]
theorem gate_shape {d:D}:(isT d 2 = true/\∃ a b,d = .nd .tup [a,b])\/(isT d 2 = false/\∀ own,gateD d own = false):=by
 cases h:isT d 2 with
 | true=>exact .inl ⟨rfl,isT_two h⟩
 | false=>
  refine .inr ⟨rfl,fun own=>?_⟩
  unfold gateD
  rw [h]; rfl
theorem seq_tup {Γ:Nat->Option Fn} {ρ:Ro} {a:IE} {ds:List D} (ha:Wp (evI Γ a ρ) fun x=>x = (.sh,.nd .tup ds)):Wp (evII Γ (.e a) ρ) fun p=>p.2 = ds:=wi_e (ha.mono fun x hx=>by subst hx; exact wo_tup rfl rfl)
theorem seq_lst {Γ:Nat->Option Fn} {ρ:Ro} {a:IE} {ds:List D} (ha:Wp (evI Γ a ρ) fun x=>x = (.sh,.nd .lst ds)):Wp (evII Γ (.e a) ρ) fun p=>p.2 = ds:=wi_e (ha.mono fun x hx=>by subst hx; exact wo_lst rfl rfl)
theorem ix_tupS {Γ:Nat->Option Fn} {ρ:Ro} {a:IE} {ds:List D} {d:D} {i:Nat} (ha:Wp (evI Γ a ρ) fun x=>x = (.sh,.nd .tup ds)) (hi:ds[i]? = some d):Wp (evI Γ (.ix a (.lit (.int i))) ρ) fun x=>x = (.sh,d):=by
 refine we_ix (ha.mono fun x hx=>we_lit ?_)
 subst hx
 have hl:=(List.getElem?_eq_some_iff.mp hi).1
 exact wx_tup (n:=i) (by rw [ixN_nat (by omega) (by omega)]; rfl) hi rfl
theorem toD {Γ:Nat->Option Fn} {ρ:Ro} {a:IE} {d:D} (h:Wp (evI Γ a ρ) fun x=>x = (.sh,d)):Wp (evI Γ a ρ) fun x=>x.2 = d:=h.mono fun x hx=>by rw [hx]
theorem gate_tup {a b:D} (h:tupB b = false) (own:Int):gateD (.nd .tup [a,b]) own = false:=by
 show (true && (tupB b && _)) = false
 rw [h]; rfl
theorem gate_eq {d:D} {n:Nat} {own:Int} (h:rok n d = true) (hw:bkD d<=90000):ψ6 [d,.int own] = some (.sh,.bl (gateD d own)):=by
 unfold ψ6
 refine wp_eq (wd_I rfl ?_)
 unfold b6
 walk_at "nm"
 rcases gate_shape (d:=d) with ⟨e,a,b,rfl⟩ | ⟨e,hg⟩
 ·have ha:=rok_nd (.inl h) a (by simp)
  have hb:=rok_nd (.inl h) b (by simp)
  have v0:∀ {Γ:Nat->Option Fn},Wp (evI Γ (.var 0) [some ⟨false,.fz,.nd .tup [a,b]⟩,some ⟨false,.fz,.int own⟩]) fun x=>x = (.sh,.nd .tup [a,b]):=we_var rfl rfl
  refine if_et (.or (.not (.ev rfl (.fn (φ:=ψ4) (ds:=[.nd .tup [a,b],.int 2]) rfl (args2 (we_var rfl rfl) (we_lit rfl)) (tuple_eq h)))) fun _=>.one (.not (.ev rfl (isi_tup hb (toD (ix_tupS (i:=1) v0 rfl)))))) (fun e=>kt_fin ?_) fun e=>kt_go ?_
  ·have:tupB b = false:=by simpa [isT] using e
   rw [gate_tup this]
  ·have hbt:tupB b = true:=by simpa [isT] using e
   cases b with
   | nd hd ps=>cases hd with
    | tup=>
     have hl:ps.length<=100000:=by
      have:∀ l:List D,l.length<=bkL l:=fun l=>by
       induction l with
       | nil=>exact Nat.zero_le _
       | cons x l ih=>simp only [List.length_cons,bkL]; omega
      have h1:=this ps
      simp only [bkD,bkL] at hw
      omega
     show Wp _ fun r=>Wp (oDef (some r)) fun x=>x = (.sh,.bl (tabD a ps.length && (ps.map (bel · own)).all id))
     refine ret_ev (.and (.fn (φ:=ψ2) rfl (args2 (toD (ix_tupS (i:=0) v0 rfl)) (len_int (.inl rfl) (toD (ix_tupS (i:=1) v0 rfl)))) (table_eq ha)) fun _=>.one (all_ev (seq_tup (ix_tupS (i:=1) v0 rfl)) hl rfl (φ:=ψ1) rfl fun d hd=>below_eq (rok_nd (.inl hb) d hd))) rfl
    | _=>cases hbt
   | _=>cases hbt
 ·refine if_et (.or (w:=true) (.not (.ev rfl (.fn (φ:=ψ4) (ds:=[d,.int 2]) rfl (args2 (we_var rfl rfl) (we_lit rfl)) (tuple_eq h)))) fun e'=>by rw [e] at e'; cases e') (fun _=>kt_fin (by rw [hg])) fun e'=>by rw [e] at e'; cases e'
end K33
namespace K33
open PySem L2 J
theorem len_bk:∀ l:List D,l.length<=bkL l
 | []=>Nat.zero_le _
 | x :: l=>by have:=len_bk l; simp only [List.length_cons,bkL]; omega
theorem bk_mem:∀ {l:List D} {d:D},d ∈ l->bkD d<=bkL l
 | x :: l,d,h=>by
  simp only [bkL]
  rcases List.mem_cons.mp h with rfl | h
  ·omega
  ·have:=bk_mem h; omega
theorem pw_at {Γ:Nat->Option Fn} {ρ:Ro} {e:IE} {k:Nat} (hk:k<=3) (he:Wp (evI Γ e ρ) fun x=>x = (.sh,.int k)):Wp (evI Γ (.ix (.lst (.own [] .fz) (.cons (.lit (.int 2)) (.cons (.lit (.int 4)) (.cons (.lit (.int 16)) (.cons (.lit (.int 256)) .nil))))) e) ρ) fun x=>x = (.sh,.int ((2 ^ 2 ^ k:Nat):Int)):=by
 refine we_ix (we_lst (ws_cons (we_lit (ws_cons (we_lit (ws_cons (we_lit (ws_cons (we_lit (ws_nil (wr_lst (r:=(.fr k0,.lst [.int 2,.int 4,.int 16,.int 256])) rfl (he.mono fun x hx=>?_))))))))))))
 subst hx
 have:k = 0\/k = 1\/k = 2\/k = 3:=by omega
 rcases this with rfl | rfl | rfl | rfl
 ·exact wx_lst (n:=0) rfl rfl rfl
 ·exact wx_lst (n:=1) rfl rfl rfl
 ·exact wx_lst (n:=2) rfl rfl rfl
 ·exact wx_lst (n:=3) rfl rfl rfl
theorem tupB_is {d:D} (h:tupB d = true):∃ ds,d = .nd .tup ds:=by
 cases d with
 | nd hd ds=>cases hd with
  | tup=>exact ⟨ds,rfl⟩
  | _=>cases h
 | _=>cases h
theorem lstB_is {d:D} (h:lstB d = true):∃ ds,d = .nd .lst ds:=by
 cases d with
 | nd hd ds=>cases hd with
  | lst=>exact ⟨ds,rfl⟩
  | _=>cases h
 | _=>cases h
theorem isT_not {d:D} {k:Int} (h:tupB d = false):isT d k = false:=by
 cases d with
 | nd hd ds=>cases hd with
  | tup=>cases h
  | _=>rfl
 | _=>rfl
theorem gate_not {d:D} (h:tupB d = false) (own:Int):gateD d own = false:=by unfold gateD; rw [isT_not h]; rfl
theorem gate_len {ds:List D} (h:¬ (ds.length:Int) = 2) (own:Int):gateD (.nd .tup ds) own = false:=by unfold gateD; rw [show isT (.nd .tup ds) 2 = false from decide_eq_false h]; rfl
theorem lgate_eq {d:D} {n:Nat} {own:Int} (h:rok n d = true) (hw:bkD d<=90000):ψ15 [d,.int own] = some (.sh,.bl (gateD d own)):=by
 unfold ψ15
 refine wp_eq (wd_I rfl ?_)
 unfold b15
 walk_at "nm"
 cases ht:tupB d with
 | false=>exact if_et (.or (z:=true) (w:=true) (by have:=isi_tup (Γ:=Γ_14.fn) (a:=.var 0) (ρ:=[some ⟨false,.fz,d⟩,some ⟨false,.fz,.int own⟩]) h (we_var rfl rfl); rw [ht] at this; exact .not (.ev rfl this)) fun e=>by cases e) (fun _=>kt_fin (by rw [gate_not ht])) fun e=>by cases e
 | true=>
  obtain ⟨ds,rfl⟩:=tupB_is ht
  have v0:∀ {Γ:Nat->Option Fn},Wp (evI Γ (.var 0) [some ⟨false,.fz,.nd .tup ds⟩,some ⟨false,.fz,.int own⟩]) fun x=>x = (.sh,.nd .tup ds):=we_var rfl rfl
  by_cases h2:(ds.length:Int) = 2
  ·obtain ⟨a,b,rfl⟩:∃ a b,ds = [a,b]:=by
    match ds,h2 with
    | [a,b],_=>exact ⟨a,b,rfl⟩
   have ha:=rok_nd (.inl h) a (by simp)
   have hb:=rok_nd (.inl h) b (by simp)
   have t1:∀ {Γ:Nat->Option Fn},Et Γ (.not (.isi "tuple" (.var 0))) [some ⟨false,.fz,.nd .tup [a,b]⟩,some ⟨false,.fz,.int own⟩] false:=.not (z:=true) (.ev rfl (isi_tup h (toD v0)))
   have t2:∀ {Γ:Nat->Option Fn},Et Γ (.cmp .NotEq (.blt "len" (.cons (.var 0) .nil)) (.lit (.int 2))) [some ⟨false,.fz,.nd .tup [a,b]⟩,some ⟨false,.fz,.int own⟩] false:=et_ne (i:=2) (j:=2) (len_int (.inl rfl) (toD v0)) (we_lit rfl)
   have t3:∀ {Γ:Nat->Option Fn},Et Γ (.not (.isi "tuple" (.ix (.var 0) (.lit (.int 1))))) [some ⟨false,.fz,.nd .tup [a,b]⟩,some ⟨false,.fz,.int own⟩] (!tupB b):=.not (.ev rfl (isi_tup hb (toD (ix_tupS (i:=1) v0 rfl))))
   cases hbt:tupB b with
   | false=>
    rw [hbt] at t3
    exact if_et (.or t1 fun _=>.or t2 fun _=>.or (w:=true) t3 fun e=>by cases e) (fun _=>kt_fin (by rw [gate_tup hbt])) fun e=>by cases e
   | true=>
    obtain ⟨ps,rfl⟩:=tupB_is hbt
    have hl:ps.length<=100000:=by
     have h1:=len_bk ps
     simp only [bkD,bkL] at hw
     omega
    refine if_et (.or t1 fun _=>.or t2 fun _=>.or t3 fun _=>.one (et_gt (i:=ps.length) (j:=3) (len_int (.inl rfl) (toD (ix_tupS (i:=1) v0 rfl))) (we_lit rfl))) (fun e=>kt_fin ?_) fun e=>kt_go ?_
    ·have:(3:Int) < ps.length:=by simpa [tupB] using e
     show _ = (Kd.sh,D.bl (tabD a ps.length && _))
     unfold tabD
     rw [decide_eq_false (by omega),Bool.false_and,Bool.false_and]
    ·have hk:ps.length<=3:=by
      have:¬ (3:Int) < ps.length:=by simpa [tupB] using e
      omega
     have hg:gateD (.nd .tup [a,.nd .tup ps]) own = (bel a ((2 ^ 2 ^ ps.length:Nat):Int) && (ps.map (bel · own)).all id):=by
      show (tabD a ps.length && (ps.map (bel · own)).all id) = _
      unfold tabD
      rw [decide_eq_true hk,Bool.true_and]
     rw [hg]
     refine if_et (.not (.ev rfl (.fn (φ:=ψ14) (ds:=[a,.int ((2 ^ 2 ^ ps.length:Nat):Int)]) rfl (args2 (toD (ix_tupS (i:=0) v0 rfl)) (toD (pw_at hk (len_at (.inl rfl) (toD (ix_tupS (i:=1) v0 rfl)))))) (lbelow_eq ha)))) (fun e=>kt_fin ?_) fun e=>kt_go ?_
     ·rw [show bel a ((2 ^ 2 ^ ps.length:Nat):Int) = false by simpa using e,Bool.false_and]
     ·rw [show bel a ((2 ^ 2 ^ ps.length:Nat):Int) = true by simpa using e,Bool.true_and]
      exact ret_ev (all_ev (seq_tup (ix_tupS (i:=1) v0 rfl)) hl rfl (φ:=ψ14) rfl fun d hd=>lbelow_eq (rok_nd (.inl hb) d hd)) rfl
  ·have t1:∀ {Γ:Nat->Option Fn},Et Γ (.not (.isi "tuple" (.var 0))) [some ⟨false,.fz,.nd .tup ds⟩,some ⟨false,.fz,.int own⟩] false:=.not (z:=true) (.ev rfl (isi_tup h (toD v0)))
   refine if_et (.or t1 fun _=>.or (w:=true) (et_ne (i:=ds.length) (j:=2) (len_int (.inl rfl) (toD v0)) (we_lit rfl)) fun e=>?_) (fun _=>kt_fin (by rw [gate_len h2])) fun e=>?_
   ·rw [decide_eq_false h2] at e; cases e
   ·rw [decide_eq_false h2] at e; cases e
theorem all_enm {Γ:Nat->Option Fn} {ρ:Ro} {a:IE} {cap:List (Option Nat)} {i:Nat} {φ:Fn} {gs:List D} {f:Int} (ha:Wp (evI Γ a ρ) fun x=>x = (.sh,.nd .lst gs)) (hl:gs.length<=100000) (hc:capRo ρ cap = [none,none,none,none,some ⟨false,.fz,.int f⟩]) (hΓ:Γ i = some φ) (hf:∀ d ∈ gs,∀ b,φ [d,.int b] = some (.sh,.bl (gateD d b))) :
  Ev Γ (.blt "all" (.cons (.comp .fz cap (.tp [(.nm 1),(.nm 2)]) (.enm a) .non (.fn i (.cons (.var 2) (.cons (.bin .Add (.var 4) (.var 1)) .nil)))) .nil)) ρ (gAll f gs):=by
 refine we_blt (ws_cons (we_comp (wi_enm (ha.mono fun x hx=>?_))))
 subst hx
 refine wo_enm rfl ⟨by rw [List.length_mapIdx]; exact hl,?_⟩
 rw [hc]
 refine wmap (fun j y=>∃ g,(gs.mapIdx fun i g=>(i,g))[j]? = some g/\y = .bl (gateD g.2 (f + g.1))) (fun j d hd=>?_) fun ys hy hp=>?_
 ·obtain ⟨e,he,rfl⟩:=enm_get hd
  refine w_elt (ps:=[(1,.int j),(2,e)]) rfl rfl rfl ?_
  refine we_fn hΓ (ws_cons (we_var rfl (ws_cons (we_bin (we_var rfl (we_var rfl (wb_add (ws_nil (wf_fn ⟨_,hf e (List.mem_of_getElem? he) (f + j),rfl,.inr rfl,?_⟩)))))))))
  exact ⟨_,rfl,rfl,(j,e),by rw [List.getElem?_mapIdx,he]; rfl,rfl⟩
 ·rw [map_bl (l:=gs.mapIdx fun i g=>(i,g)) (f:=fun p=>gateD p.2 (f + p.1)) (by rw [hy,List.length_mapIdx,List.length_mapIdx]) hp]
  exact ws_nil (wl_all rfl)
theorem isT_four {d:D} (h:isT d 4 = true):∃ a b c e,d = .nd .tup [a,b,c,e]:=by
 unfold isT at h
 split at h
 ·rename_i ds
  have h:(ds.length:Int) = 4:=of_decide_eq_true h
  match ds,h with
  | [a,b,c,e],_=>exact ⟨a,b,c,e,rfl⟩
 ·cases h
theorem circ_not {d:D} (h:isT d 4 = false):circD d = false:=by unfold circD; rw [h]; rfl
theorem circ_no1 {a b c e:D} (h:isW a = false\/lstB b = false\/lstB c = false\/lstB e = false):circD (.nd .tup [a,b,c,e]) = false:=by
 show (true && (isW a && (lstB b && (lstB c && (lstB e && _))))) = false
 rcases h with h | h | h | h <;> rw [h] <;> simp only [Bool.false_and,Bool.and_false]
theorem circ_neg {i:Int} {b c e:D} (h:i < 0):circD (.nd .tup [.int i,b,c,e]) = false:=by
 show (true && (true && (lstB b && (lstB c && (lstB e && (decide (0<=i) && _)))))) = false
 rw [decide_eq_false (Int.not_le.mpr h)]
 simp only [Bool.false_and,Bool.and_false]
theorem circ_eq {d:D} {n:Nat} (h:rok n d = true) (hw:bkD d<=90000):ψ3 [d] = some (.sh,.bl (circD d)):=by
 unfold ψ3
 refine wp_eq (wd_I rfl ?_)
 unfold b3
 walk_at "nm"
 refine if_et (.not (.ev rfl (.fn (φ:=ψ4) (ds:=[d,.int 4]) rfl (args2 (we_var rfl rfl) (we_lit rfl)) (tuple_eq h)))) (fun e=>kt_fin (by rw [circ_not (by simpa using e)])) fun e=>kt_go ?_
 obtain ⟨a,b,c,o,rfl⟩:=isT_four (show isT d 4 = true by simpa using e)
 have ha:=rok_nd (.inl h) a (by simp)
 have hb:=rok_nd (.inl h) b (by simp)
 have hc:=rok_nd (.inl h) c (by simp)
 have ho:=rok_nd (.inl h) o (by simp)
 with_reducible refine w_unpT ?_
 refine wm_p (we_var rfl ⟨_,_,_,rfl,rfl,⟨rfl,rfl⟩,?_⟩)
 simp only [putN,List.headD,List.tail]
 walk_at "nm"
 cases hi:isW a with
 | false=>exact if_et (.or (w:=true) (.not (.ev rfl (.fn (φ:=ψ0) (ds:=[a]) (z:=false) rfl (args1 (we_var rfl rfl)) (by rw [whole_eq ha,hi])))) fun e=>by cases e) (fun _=>kt_fin (by rw [circ_no1 (.inl hi)])) fun e=>by cases e
 | true=>
  obtain ⟨i,rfl⟩:=isW_int hi
  refine if_et (.or (.not (.ev rfl (.fn (φ:=ψ0) (ds:=[.int i]) (z:=true) rfl (args1 (we_var rfl rfl)) rfl))) fun _=>.one (et_lt (i:=i) (j:=0) (we_var rfl rfl) (we_lit rfl))) (fun e=>kt_fin ?_) fun e=>kt_go ?_
  ·rw [circ_neg (by simpa using e)]
  have hi0:0<=i:=by simpa using e
  refine if_et (.or (.not (.ev rfl (isi_lst (d:=b) hb (we_var rfl rfl)))) fun _=>.or (.not (.ev rfl (isi_lst (d:=c) hc (we_var rfl rfl)))) fun _=>.one (.not (.ev rfl (isi_lst (d:=o) ho (we_var rfl rfl))))) (fun e=>kt_fin ?_) fun e=>kt_go ?_
  ·have:lstB b = false\/lstB c = false\/lstB o = false:=by simpa using e
   rw [circ_no1 (.inr this)]
  ·have e:lstB b = true/\lstB c = true/\lstB o = true:=by simpa using e
   obtain ⟨ms,rfl⟩:=lstB_is e.1
   obtain ⟨gs,rfl⟩:=lstB_is e.2.1
   obtain ⟨os,rfl⟩:=lstB_is e.2.2
   simp only [bkD,bkL] at hw
   have l1:=len_bk ms
   have l2:=len_bk gs
   have l3:=len_bk os
   walk_at "sx"
   refine wm_p (we_bin (we_var rfl ((len_at (.inr rfl) (we_var rfl rfl)).mono fun x hx=>?_)))
   subst hx
   refine wb_add ⟨⟨rfl,by decide⟩,?_⟩
   walk_at "nm"
   walk_at "sx"
   refine wm_p (we_bin (we_var rfl ((len_at (.inr rfl) (we_var rfl rfl)).mono fun x hx=>?_)))
   subst hx
   refine wb_add ⟨⟨rfl,by decide⟩,?_⟩
   walk_at "nm"
   show Wp _ fun r=>Wp (oDef (some r)) fun x=>x = (.sh,.bl (decide (0<=i) && _))
   rw [decide_eq_true hi0,Bool.true_and]
   refine ret_ev (.and (all_ev (ds:=ms) (b:=i + ms.length + gs.length) (f:=(memD · (i + ms.length + gs.length))) (seq_lst (we_var rfl rfl)) (by omega) rfl (φ:=ψ5) rfl fun d hd=>memory_eq (rok_nd (.inr hb) d hd)) fun _=>.and (all_enm (gs:=gs) (f:=i + ms.length) (we_var rfl rfl) (by omega) rfl (φ:=ψ6) rfl fun d hd b=>gate_eq (rok_nd (.inr hc) d hd) (by have:=bk_mem hd; omega)) fun _=>.one (all_ev (ds:=os) (b:=i + ms.length + gs.length) (f:=(bel · (i + ms.length + gs.length))) (seq_lst (we_var rfl rfl)) (by omega) rfl (φ:=ψ1) rfl fun d hd=>below_eq (rok_nd (.inr ho) d hd))) rfl
end K33
namespace K33
open PySem L2 J
theorem all_false {α:Type} {f:α->Bool} {l:List α} {x:α} (h:x ∈ l) (e:f x = false):(l.map f).all id = false:=by
 rw [List.all_eq_false]
 exact ⟨f x,List.mem_map.mpr ⟨x,h,rfl⟩,by simp [e]⟩
theorem all_true {α:Type} {f:α->Bool} {l:List α} (h:∀ x ∈ l,f x = true):(l.map f).all id = true:=by
 rw [List.all_eq_true]
 intro b hb
 obtain ⟨x,hx,rfl⟩:=List.mem_map.mp hb
 exact h x hx
theorem mem_test {Γ:Nat->Option Fn} {ρ:Ro} {p:D} {n:Nat} {many:Int} (hΓ:Γ 14 = some ψ14) (h:rok n p = true) (h3:ρ[3]? = some (some ⟨false,.fz,p⟩)) (h2:ρ[2]? = some (some ⟨false,.fz,.int many⟩)) :
  Et Γ (.bool .Or (.cons (.not (.isi "tuple" (.var 3))) (.cons (.cmp .NotEq (.blt "len" (.cons (.var 3) .nil)) (.lit (.int 2))) (.cons (.not (.fn 14 (.cons (.ix (.var 3) (.lit (.int 0))) (.cons (.lit (.int 2)) .nil)))) (.cons (.not (.fn 14 (.cons (.ix (.var 3) (.lit (.int 1))) (.cons (.var 2) .nil)))) .nil))))) ρ (!memD p many):=by
 have v3:Wp (evI Γ (.var 3) ρ) fun x=>x = (.sh,p):=we_var h3 rfl
 have t1:Et Γ (.not (.isi "tuple" (.var 3))) ρ (!tupB p):=.not (.ev rfl (isi_tup h (toD v3)))
 cases ht:tupB p with
 | false=>
  rw [ht] at t1
  have:memD p many = false:=by unfold memD; rw [isT_not ht]; rfl
  rw [this]
  exact .or (w:=true) t1 fun e=>by cases e
 | true=>
  rw [ht] at t1
  obtain ⟨ds,rfl⟩:=tupB_is ht
  by_cases hl:(ds.length:Int) = 2
  ·obtain ⟨a,b,rfl⟩:∃ a b,ds = [a,b]:=by
    match ds,hl with
    | [a,b],_=>exact ⟨a,b,rfl⟩
   have ha:=rok_nd (.inl h) a (by simp)
   have hb:=rok_nd (.inl h) b (by simp)
   have t2:Et Γ (.cmp .NotEq (.blt "len" (.cons (.var 3) .nil)) (.lit (.int 2))) ρ false:=et_ne (i:=2) (j:=2) (len_int (.inl rfl) (toD v3)) (we_lit rfl)
   have e:(!memD (.nd .tup [a,b]) many) = (false || (false || (!bel a 2 || !bel b many))):=by
    show (!(bel a 2 && bel b many)) = _
    cases bel a 2 <;> cases bel b many <;> rfl
   rw [e]
   exact .or t1 fun _=>.or t2 fun _=>.or (.not (.ev rfl (.fn (φ:=ψ14) (ds:=[a,.int 2]) hΓ (args2 (toD (ix_tupS (i:=0) v3 rfl)) (we_lit rfl)) (lbelow_eq ha)))) fun _=>.one (.not (.ev rfl (.fn (φ:=ψ14) (ds:=[b,.int many]) hΓ (args2 (toD (ix_tupS (i:=1) v3 rfl)) (we_var h2 rfl)) (lbelow_eq hb))))
  ·have:memD (.nd .tup ds) many = false:=by unfold memD; rw [show isT (.nd .tup ds) 2 = false from decide_eq_false hl]; rfl
   rw [this]
   have t2:Et Γ (.cmp .NotEq (.blt "len" (.cons (.var 3) .nil)) (.lit (.int 2))) ρ true:=by
    have:=et_ne (Γ:=Γ) (ρ:=ρ) (i:=ds.length) (j:=2) (len_int (.inl rfl) (toD v3)) (we_lit rfl)
    rw [decide_eq_false hl] at this
    exact this
   exact .or t1 fun _=>.or (w:=true) t2 fun e=>by cases e
theorem lcirc_eq {d:D} {n:Nat} (h:rok n d = true) (hw:bkD d<=90000):ψ16 [d] = some (.sh,.bl (circD d)):=by
 unfold ψ16
 refine wp_eq (wd_I rfl ?_)
 unfold b16
 walk_at "nm"
 cases ht:tupB d with
 | false=>
  have:circD d = false:=circ_not (isT_not ht)
  rw [this]
  exact if_et (.or (z:=true) (w:=true) (by have:=isi_tup (Γ:=Γ_15.fn) (a:=.var 0) (ρ:=[some ⟨false,.fz,d⟩,none,none,none,none]) h (we_var rfl rfl); rw [ht] at this; exact .not (.ev rfl this)) fun e=>by cases e) (fun _=>kt_fin rfl) fun e=>by cases e
 | true=>
  obtain ⟨ds,rfl⟩:=tupB_is ht
  have v0:∀ {Γ:Nat->Option Fn} {a b c e:Option Sl},Wp (evI Γ (.var 0) [some ⟨false,.fz,.nd .tup ds⟩,a,b,c,e]) fun x=>x = (.sh,.nd .tup ds):=we_var rfl rfl
  have t1:∀ {Γ:Nat->Option Fn} {a b c e:Option Sl},Et Γ (.not (.isi "tuple" (.var 0))) [some ⟨false,.fz,.nd .tup ds⟩,a,b,c,e] false:=.not (z:=true) (.ev rfl (isi_tup h (toD v0)))
  by_cases hl:(ds.length:Int) = 4
  ·obtain ⟨a,b,c,o,rfl⟩:∃ a b c o,ds = [a,b,c,o]:=by
    match ds,hl with
    | [a,b,c,o],_=>exact ⟨a,b,c,o,rfl⟩
   have ha:=rok_nd (.inl h) a (by simp)
   have hb:=rok_nd (.inl h) b (by simp)
   have hc:=rok_nd (.inl h) c (by simp)
   have ho:=rok_nd (.inl h) o (by simp)
   have t2:∀ {Γ:Nat->Option Fn} {x y z w:Option Sl},Et Γ (.cmp .NotEq (.blt "len" (.cons (.var 0) .nil)) (.lit (.int 4))) [some ⟨false,.fz,.nd .tup [a,b,c,o]⟩,x,y,z,w] false:=et_ne (i:=4) (j:=4) (len_int (.inl rfl) (toD v0)) (we_lit rfl)
   cases hi:isW a with
   | false=>
    rw [circ_no1 (.inl hi)]
    exact if_et (.or t1 fun _=>.or t2 fun _=>.or (w:=true) (.not (.ev rfl (.fn (φ:=ψ9) (ds:=[a]) (z:=false) rfl (args1 (toD (ix_tupS (i:=0) v0 rfl))) (by rw [lwhole_eq ha,hi])))) fun e=>by cases e) (fun _=>kt_fin rfl) fun e=>by cases e
   | true=>
    obtain ⟨i,rfl⟩:=isW_int hi
    refine if_et (.or t1 fun _=>.or t2 fun _=>.or (.not (.ev rfl (.fn (φ:=ψ9) (ds:=[.int i]) (z:=true) rfl (args1 (toD (ix_tupS (i:=0) v0 rfl))) rfl))) fun _=>.one (et_lt (i:=i) (j:=0) (toD (ix_tupS (i:=0) v0 rfl)) (we_lit rfl))) (fun e=>kt_fin ?_) fun e=>kt_go ?_
    ·rw [circ_neg (by simpa using e)]
    have hi0:0<=i:=by simpa using e
    refine if_et (.or (.not (.ev rfl (isi_lst (d:=b) hb (toD (ix_tupS (i:=1) v0 rfl))))) fun _=>.or (.not (.ev rfl (isi_lst (d:=c) hc (toD (ix_tupS (i:=2) v0 rfl))))) fun _=>.one (.not (.ev rfl (isi_lst (d:=o) ho (toD (ix_tupS (i:=3) v0 rfl)))))) (fun e=>kt_fin ?_) fun e=>kt_go ?_
    ·have:lstB b = false\/lstB c = false\/lstB o = false:=by simpa using e
     rw [circ_no1 (.inr this)]
    ·have e:lstB b = true/\lstB c = true/\lstB o = true:=by simpa using e
     obtain ⟨ms,rfl⟩:=lstB_is e.1
     obtain ⟨gs,rfl⟩:=lstB_is e.2.1
     obtain ⟨os,rfl⟩:=lstB_is e.2.2
     simp only [bkD,bkL] at hw
     have l1:=len_bk ms
     have l2:=len_bk gs
     have l3:=len_bk os
     have hC:circD (.nd .tup [.int i,.nd .lst ms,.nd .lst gs,.nd .lst os]) = ((ms.map (memD · (i + ms.length + gs.length))).all id && (gAll (i + ms.length) gs && (os.map (bel · (i + ms.length + gs.length))).all id)):=by
      show circB i ms gs os = _
      unfold circB
      rw [decide_eq_true hi0,Bool.true_and]
     rw [hC]
     walk_at "sx"
     refine wm_p (we_bin ((ix_tupS (i:=0) v0 rfl).mono fun x hx=>(len_at (ds:=ms) (.inr rfl) (toD (ix_tupS (i:=1) v0 rfl))).mono fun y hy=>?_))
     subst hx hy
     refine wb_add ⟨⟨rfl,by decide⟩,?_⟩
     walk_at "nm"
     walk_at "sx"
     refine wm_p (we_bin (we_var rfl ((len_at (ds:=gs) (.inr rfl) (toD (ix_tupS (i:=2) v0 rfl))).mono fun y hy=>?_)))
     subst hy
     refine wb_add ⟨⟨rfl,by decide⟩,?_⟩
     walk_at "nm"
     generalize hM:(i + ms.length + gs.length:Int) = M
     generalize hF:(i + ms.length:Int) = F
     with_reducible refine w_forR ?_
     refine wmi_p (wi_e ((ix_tupS (i:=1) v0 rfl).mono fun x hx=>?_))
     subst hx
     refine wo_lst rfl ?_
     refine ⟨fun k ρ=>(∀ j < k,∀ p,ms[j]? = some p->memD p M = true)/\∃ x,ρ = [some ⟨false,.fz,.nd .tup [.int i,.nd .lst ms,.nd .lst gs,.nd .lst os]⟩,some ⟨false,.fz,.int F⟩,some ⟨false,.fz,.int M⟩,x,none],fun k d ρ=>k = .sh/\d = .bl false/\(ms.map (memD · M)).all id = false,⟨fun j hj=>absurd hj (Nat.not_lt_zero j),_,rfl⟩,fun k p ρ hp hI=>?_,fun ρ' hI=>?_,fun k d ρ' hR=>?_⟩
     ·obtain ⟨h1,x,rfl⟩:=hI
      have hp:ms[k]? = some p:=hp
      have hpm:=List.mem_of_getElem? hp
      refine ⟨[(3,p)],rfl,rfl,?_⟩
      walk_at "nm"
      refine if_et (mem_test (p:=p) (many:=M) rfl (rok_nd (.inr hb) p hpm) rfl rfl) (fun e=>?_) fun e=>?_
      ·refine w_ret (wm_p (we_lit ⟨rfl,kt_rt (.inr ⟨_,_,_,rfl,rfl,rfl,all_false (f:=(memD · M)) hpm (by simpa using e)⟩)⟩))
      ·refine w_nil (kt_nx (w_nil (.inl ⟨_,.inl rfl,fun j hj q hq=>?_,_,rfl⟩)))
       rcases Nat.lt_succ_iff_lt_or_eq.mp hj with hj | rfl
       ·exact h1 j hj q hq
       ·rw [hp] at hq; cases hq; simpa using e
     ·obtain ⟨h1,x,rfl⟩:=hI
      have hA:(ms.map (memD · M)).all id = true:=all_true fun p hp=>by
       obtain ⟨j,hj,rfl⟩:=List.getElem_of_mem hp
       exact h1 j hj _ (List.getElem?_eq_getElem hj)
      rw [hA,Bool.true_and]
      walk_at "nm"
      with_reducible refine w_forR ?_
      refine wmi_p (wi_enm ((ix_tupS (i:=2) v0 rfl).mono fun x hx=>?_))
      subst hx
      refine wo_enm rfl ?_
      refine ⟨fun k ρ=>(∀ j < k,∀ p,gs[j]? = some p->gateD p (F + j) = true)/\∃ x y,ρ = [some ⟨false,.fz,.nd .tup [.int i,.nd .lst ms,.nd .lst gs,.nd .lst os]⟩,some ⟨false,.fz,.int F⟩,some ⟨false,.fz,.int M⟩,x,y],fun k d ρ=>k = .sh/\d = .bl false/\gAll F gs = false,⟨fun j hj=>absurd hj (Nat.not_lt_zero j),_,_,rfl⟩,fun k p ρ hp hI=>?_,fun ρ' hI=>?_,fun k d ρ' hR=>?_⟩
      ·obtain ⟨h1,x,y,rfl⟩:=hI
       obtain ⟨e,he,rfl⟩:=enm_get hp
       have hpm:=List.mem_of_getElem? he
       refine ⟨[(4,.int k),(3,e)],rfl,rfl,?_⟩
       walk_at "nm"
       refine if_et (.not (.ev rfl (.fn (φ:=ψ15) (ds:=[e,.int (F + k)]) rfl (args2 (we_var rfl rfl) (we_bin (we_var rfl (we_var rfl (wb_add rfl))))) (lgate_eq (rok_nd (.inr hc) e hpm) (by have:=bk_mem hpm; omega))))) (fun ez=>?_) fun ez=>?_
       ·refine w_ret (wm_p (we_lit ⟨rfl,kt_rt (.inr ⟨_,_,_,rfl,rfl,rfl,?_⟩)⟩))
        refine all_false (f:=fun p=>gateD p.2 (F + p.1)) (x:=(k,e)) (List.mem_of_getElem? (i:=k) (by rw [List.getElem?_mapIdx,he]; rfl)) (by simpa using ez)
       ·refine w_nil (kt_nx (w_nil (.inl ⟨_,.inl rfl,fun j hj q hq=>?_,_,_,rfl⟩)))
        rcases Nat.lt_succ_iff_lt_or_eq.mp hj with hj | rfl
        ·exact h1 j hj q hq
        ·rw [he] at hq; cases hq; simpa using ez
      ·obtain ⟨h1,x,y,rfl⟩:=hI
       have h1:∀ j < gs.length,∀ p,gs[j]? = some p->gateD p (F + j) = true:=by simpa [List.length_mapIdx] using h1
       have hG:gAll F gs = true:=all_true fun p hp=>by
        obtain ⟨j,hj,rfl⟩:=List.getElem_of_mem hp
        rw [List.length_mapIdx] at hj
        simp only [List.getElem_mapIdx]
        exact h1 j hj _ (List.getElem?_eq_getElem hj)
       rw [hG,Bool.true_and]
       walk_at "nm"
       exact ret_ev (all_ev (ds:=os) (b:=M) (f:=(bel · M)) (seq_lst (ix_tupS (i:=3) v0 rfl)) (by omega) rfl (φ:=ψ14) rfl fun d hd=>lbelow_eq (rok_nd (.inr ho) d hd)) rfl
      ·obtain ⟨rfl,rfl,hR⟩:=hR
       refine ⟨rfl,od_rt rfl ?_⟩
       rw [hR]; rfl
     ·obtain ⟨rfl,rfl,hR⟩:=hR
      refine ⟨rfl,od_rt rfl ?_⟩
      rw [hR]; rfl
  ·have:circD (.nd .tup ds) = false:=circ_not (decide_eq_false hl)
   rw [this]
   refine if_et (.or t1 fun _=>.or (w:=true) (et_ne (i:=ds.length) (j:=4) (len_int (.inl rfl) (toD v0)) (we_lit rfl)) fun e=>?_) (fun _=>kt_fin rfl) fun e=>?_
   ·rw [decide_eq_false hl] at e; cases e
   ·rw [decide_eq_false hl] at e; cases e
end K33
namespace K33
open PySem L2 J
structure Cc where
 ins:Int
 ms:List (Int × Int)
 gl:List (Int × List Int)
 os:List Int
noncomputable def gD (g:Int × List Int):D:=.tup [.int g.1,.tup (iL g.2)]
noncomputable def mD (m:Int × Int):D:=.tup [.int m.1,.int m.2]
noncomputable def Cc.d (c:Cc):D:=.tup [.int c.ins,.lst (c.ms.map mD),.lst (c.gl.map gD),.lst (iL c.os)]
structure Cc.Ok (c:Cc):Prop where
 i0:0<=c.ins
 i1:c.ins<=100
 m1:c.ms.length<=100
 g1:c.gl.length<=100
 o1:c.os.length<=100
 mb:∀ m ∈ c.ms,(m.1 = 0\/m.1 = 1)/\0<=m.2/\m.2 < c.ins + c.ms.length + c.gl.length
 gp:∀ (k:Nat) g,c.gl[k]? = some g->g.2.length<=3/\∀ p ∈ g.2,0<=p/\p < c.ins + c.ms.length + k
 ob:∀ o ∈ c.os,0<=o/\o < c.ins + c.ms.length + c.gl.length
 tb:∀ g ∈ c.gl,0<=g.1/\g.1 < ((2 ^ 2 ^ g.2.length:Nat):Int)
theorem map_int {α:Type} {f:α->Int} {l:List α} {ys:List D} (hl:ys.length = l.length) (h:∀ (i:Nat) y,ys[i]? = some y->∃ a,l[i]? = some a/\y = .int (f a)):ys = iL (l.map f):=by
 refine List.ext_getElem? fun i=>?_
 cases e:ys[i]? with
 | none=>
  have:l.length<=i:=by rw [<- hl]; exact List.getElem?_eq_none_iff.mp e
  rw [List.getElem?_eq_none (by simpa using this)]
 | some y=>
  obtain ⟨a,ea,rfl⟩:=h i y e
  simp [ea]
theorem pok_iL {n:Nat}:∀ ps:List Int,pokL n (iL ps) = true
 | []=>rfl
 | p :: ps=>by simp only [List.map_cons,pokL,pok,Bool.true_and]; exact pok_iL ps
theorem pok_gates {n:Nat} (hn:2<=n):∀ gl:List (Int × List Int),pokL n (gl.map gD) = true
 | []=>rfl
 | g :: gl=>by
  simp only [List.map_cons,pokL,Bool.and_eq_true]
  refine ⟨?_,pok_gates hn gl⟩
  simp only [gD,pok,pokL,Bool.and_true,Bool.true_and,Bool.and_eq_true,decide_eq_true_eq]
  exact ⟨by omega,by omega,pok_iL _⟩
theorem pok_ms {n:Nat} (hn:1<=n):∀ ms:List (Int × Int),pokL n (ms.map mD) = true
 | []=>rfl
 | g :: gl=>by
  simp only [List.map_cons,pokL,Bool.and_eq_true]
  refine ⟨?_,pok_ms hn gl⟩
  simp only [mD,pok,pokL,Bool.and_true,Bool.true_and,decide_eq_true_eq]
  omega
theorem pok_d {c:Cc} {n:Nat} (hn:10<=n):pok n c.d = true:=by
 simp only [Cc.d,pok,pokL,Bool.and_true,Bool.true_and,Bool.and_eq_true,decide_eq_true_eq]
 exact ⟨by omega,⟨by omega,pok_ms (by omega) _⟩,⟨by omega,pok_gates (by omega) _⟩,by omega,pok_iL _⟩
noncomputable def IV (Γ:Nat->Option Fn) (e:IE) (ρ:Ro) (i:Int):Prop:=Wp (evI Γ e ρ) fun x=>x = (.sh,.int i)
noncomputable def LV (Γ:Nat->Option Fn) (e:IE) (ρ:Ro) (xs:List Int):Prop:=Wp (evI Γ e ρ) fun x=>x = (.sh,.lst (iL xs))
theorem limS {x:Int} (h0:0<=x) (h1:x < 10 ^ 30):x.natAbs < lim:=lim_of (by omega) (by omega)
theorem rng0 {m:Int} (h0:0<=m) (h1:m<=1000):rangeOk 0 m = true:=rangeOk_of (by omega) (by omega) (by omega) (by omega) (by omega)
noncomputable def nt (xs:List Int) (i:Nat):Int:=xs.getD i 0
theorem nt_get {xs:List Int} {i:Nat} (h:i < xs.length):(iL xs)[i]? = some (.int (nt xs i)):=by unfold nt; rw [List.getElem?_map,List.getD_eq_getElem?_getD,List.getElem?_eq_getElem h]; rfl
section
variable {Γ:Nat->Option Fn} {ρ:Ro} {a b:IE} {i j:Int}
theorem IV.lit:IV Γ (.lit (.int i)) ρ i:=we_lit rfl
theorem IV.var {n:Nat} (h:ρ[n]? = some (some ⟨false,.fz,.int i⟩)):IV Γ (.var n) ρ i:=we_var h rfl
theorem IV.add (ha:IV Γ a ρ i) (hb:IV Γ b ρ j):IV Γ (.bin .Add a b) ρ (i + j):=we_bin (ha.mono fun x hx=>hb.mono fun y hy=>by subst hx hy; exact wb_add rfl)
theorem IV.sub (ha:IV Γ a ρ i) (hb:IV Γ b ρ j):IV Γ (.bin .Sub a b) ρ (i - j):=we_bin (ha.mono fun x hx=>hb.mono fun y hy=>by subst hx hy; exact wb_sub rfl)
theorem IV.mul (h:i.natAbs < lim/\j.natAbs < lim) (ha:IV Γ a ρ i) (hb:IV Γ b ρ j):IV Γ (.bin .Mult a b) ρ (i * j):=we_bin (ha.mono fun x hx=>hb.mono fun y hy=>by subst hx hy; exact wb_mul h rfl)
theorem IV.mod (h:0 < j) (ha:IV Γ a ρ i) (hb:IV Γ b ρ j):IV Γ (.bin .Mod a b) ρ (i % j):=we_bin (ha.mono fun x hx=>hb.mono fun y hy=>by subst hx hy; exact wb_mod h rfl)
theorem IV.fdiv (h:0 < j/\j.natAbs < lim) (ha:IV Γ a ρ i) (hb:IV Γ b ρ j):IV Γ (.bin .FloorDiv a b) ρ (i / j):=we_bin (ha.mono fun x hx=>hb.mono fun y hy=>by subst hx hy; exact wb_fdiv h rfl)
theorem IV.min (ha:IV Γ a ρ i) (hb:IV Γ b ρ j):IV Γ (.blt "min" (.cons a (.cons b .nil))) ρ (if j < i then j else i):=we_blt (ws_cons (ha.mono fun x hx=>ws_cons (hb.mono fun y hy=>ws_nil (by subst hx hy; exact wl_min rfl))))
theorem IV.ix {xs:List Int} {n:Nat} (ha:LV Γ a ρ xs) (hb:IV Γ b ρ n) (h:n < xs.length):IV Γ (.ix a b) ρ (nt xs n):=we_ix (ha.mono fun x hx=>hb.mono fun y hy=>by
 subst hx hy
 exact wx_lst (n:=n) (by rw [ixN_nat (Int.natCast_nonneg n) (by rw [List.length_map]; exact Int.ofNat_lt.mpr h)]; rfl) (nt_get h) rfl)
theorem IV.eq (ha:IV Γ a ρ i) (hb:IV Γ b ρ j):Et Γ (.cmp .Eq a b) ρ (decide (i = j)):=wt_cmp (ha.mono fun x hx=>hb.mono fun y hy=>by subst hx hy; exact wc_eq rfl)
theorem IV.lt (ha:IV Γ a ρ i) (hb:IV Γ b ρ j):Et Γ (.cmp .Lt a b) ρ (decide (i < j)):=wt_cmp (ha.mono fun x hx=>hb.mono fun y hy=>by subst hx hy; exact wc_lt rfl)
theorem IV.gt (ha:IV Γ a ρ i) (hb:IV Γ b ρ j):Et Γ (.cmp .Gt a b) ρ (decide (j < i)):=wt_cmp (ha.mono fun x hx=>hb.mono fun y hy=>by subst hx hy; exact wc_gt rfl)
theorem IV.len {xs:List D} (ha:Wp (evI Γ a ρ) fun x=>x.2 = .nd .lst xs):IV Γ (.blt "len" (.cons a .nil)) ρ xs.length:=len_at (.inr rfl) ha
end
theorem asg_iv {Γ:GG} {N:Nat} {pn:List Nat} {ρ:Ro} {Q:Res->Prop} {rest:ISs} {n:Nat} {e:IE} {i:Int} (h:IV Γ.fn e ρ i) (hn:n ∉ pn) (w:Wp (exB Γ N rest pn (ρ.set n (some ⟨false,.fz,.int i⟩))) Q):Wp (exB Γ N (.cons (.asg n (.p e)) rest) pn ρ) Q:=
 w_asg (wm_p (h.mono fun x hx=>by subst hx; exact ⟨⟨rfl,hn⟩,w⟩))
theorem ret_nb0 {Γ:GG} {N:Nat} {pn:List Nat} {ρ:Ro} {rest:ISs} {Q:Res->Prop} {e:IE} (h:Wp (evI Γ.fn e ρ) fun x=>isBo (imK x.1 x.2) = false/\Q (.rt (imK x.1 x.2) x.2 ρ)):Wp (exB Γ N (.cons (.ret (.p e)) rest) pn ρ) Q:=w_ret (wm_p h)
theorem md_bd (x:Int) {m:Int} (h:0 < m):0<=x % m/\x % m < m:=⟨Int.emod_nonneg _ (Int.ne_of_gt h),Int.emod_lt_of_pos _ h⟩
theorem copy_ok {c:Cc} {Q:KD->Prop} (q:Q (.sh,c.d)):Wp (ψ13 [c.d]) Q:=by
 unfold ψ13 Cc.d
 refine wd_I rfl ?_
 unfold b13
 walk_at "nm"
 have v0:∀ {Γ:Nat->Option Fn},Wp (evI Γ (.var 0) [some ⟨false,.fz,.tup [.int c.ins,.lst (c.ms.map mD),.lst (c.gl.map gD),.lst (iL c.os)]⟩]) fun x=>x = (.sh,.tup [.int c.ins,.lst (c.ms.map mD),.lst (c.gl.map gD),.lst (iL c.os)]):=we_var rfl rfl
 have li:∀ {Γ:Nat->Option Fn} {ρ:Ro} {a:IE} {xs:List D},(Wp (evI Γ a ρ) fun x=>x = (.sh,.lst xs))->Wp (evI Γ (.blt "list" (.cons a .nil)) ρ) fun x=>x = (.fr flatO,.lst xs):=fun h=>we_blt (ws_cons (h.mono fun x hx=>ws_nil (by subst hx; exact wl_list rfl rfl)))
 walk_at "sx"
 refine wm_p (we_tup (ws_cons ((ix_tupS (i:=0) v0 rfl).mono fun x hx=>ws_cons ((li (ix_tupS (i:=1) v0 rfl)).mono fun y hy=>ws_cons ((li (ix_tupS (i:=2) v0 rfl)).mono fun z hz=>ws_cons ((li (ix_tupS (i:=3) v0 rfl)).mono fun w hw=>ws_nil ?_))))))
 subst hx hy hz hw
 exact wr_tup (r:=(.sh,.tup [.int c.ins,.lst (c.ms.map mD),.lst (c.gl.map gD),.lst (iL c.os)])) rfl ⟨rfl,od_rt rfl q⟩
noncomputable def Nn (xs:List Int):Prop:=∀ x ∈ xs,0<=x/\x < 10 ^ 30
theorem Nn.app {a b:List Int} (h:Nn a) (k:Nn b):Nn (a ++ b):=fun c hc=>(List.mem_append.mp hc).elim (h c) (k c)
theorem cut_none {xs:List Int} {m:Int} (h:0<=m):cutD (iL xs) none (some m) = iL (xs.take m.toNat):=by
 unfold cutD
 rw [HT.sIx_none,show (some m) = some ((m.toNat:Nat):Int) by rw [Int.toNat_of_nonneg h],HT.sIx_nat,List.drop_zero,List.length_map,Nat.sub_zero,<- List.map_take]
 congr 1
 rw [Nat.min_comm]
 exact (List.take_eq_take_iff.mpr (by omega))
theorem cut_two {xs:List Int} {a b:Int} (h:0<=a) (h':a<=b) (hb:b<=xs.length):∃ ys,cutD (iL xs) (some a) (some b) = iL ys/\(ys.length:Int) = b - a/\∀ y ∈ ys,y ∈ xs:=by
 refine ⟨(xs.drop a.toNat).take (b.toNat - a.toNat),?_,by simp; omega,fun y hy=>List.mem_of_mem_drop (List.mem_of_mem_take hy)⟩
 unfold cutD
 rw [show (some a) = some ((a.toNat:Nat):Int) by rw [Int.toNat_of_nonneg h],show (some b) = some ((b.toNat:Nat):Int) by rw [Int.toNat_of_nonneg (by omega)],HT.sIx_nat,HT.sIx_nat,List.length_map,Nat.min_eq_left (by omega),Nat.min_eq_left (by omega),<- List.map_drop,<- List.map_take]
theorem iL_snoc (xs:List Int) (x:Int):iL xs ++ [.int x] = iL (xs ++ [x]):=by unfold iL; rw [List.map_append]; rfl
theorem Nn.snoc {xs:List Int} {x:Int} (h:Nn xs) (h0:0<=x) (h1:x < 10 ^ 30):Nn (xs ++ [x]):=h.app fun y hy=>by rw [List.mem_singleton.mp hy]; exact ⟨h0,h1⟩
theorem app_iv {Γ:GG} {N:Nat} {pn:List Nat} {ρ:Ro} {Q:Res->Prop} {rest:ISs} {n:Nat} {e:IE} {i:Int} {xs:List Int} (hs:ρ[n]? = some (some ⟨false,k0,.lst (iL xs)⟩)) (hl:xs.length < 100000) (h:IV Γ.fn e ρ i) (w:Wp (exB Γ N rest pn (ρ.set n (some ⟨false,k0,.lst (iL (xs ++ [i]))⟩))) Q):Wp (exB Γ N (.cons (.exp (.mut "append" (.nm n) (.cons e .nil))) rest) pn ρ) Q:=
 w_exp (wm_appP (h.mono fun x hx=>by
  subst hx
  refine ⟨_,_,_,hs,⟨Nat.zero_le _,rfl,by rw [List.length_map]; exact hl⟩,?_⟩
  rw [<- iL_snoc] at w
  exact w))
theorem mixed_ok {cell many:Int} {Q:KD->Prop} (h0:0<=many) (h1:many<=1000) (q:∀ xs,(xs.length:Int) = many->Nn xs->Q (.fr k0,.lst (iL xs))):Wp (ψ7 [.int cell,.int many]) Q:=by
 unfold ψ7
 refine wd_I rfl ?_
 unfold b7
 walk_at "nm"
 refine asg_iv (.mod (by decide) (.var rfl) .lit) (by decide) ?_
 walk_at "nm"
 walk_at "sx"
 refine wm_p (we_lst (ws_nil (wr_lst (r:=(.fr k0,.lst [])) rfl ⟨⟨rfl,by decide⟩,?_⟩)))
 walk_at "nm"
 with_reducible refine w_for ?_
 refine wmi_p (wi_rng (we_lit (we_var rfl (wo_rng (rng0 h0 h1) ?_))))
 refine ⟨fun i ρ=>∃ xs a at_,xs.length = i/\Nn xs/\0<=at_/\at_ < 2147483647/\ρ = [some ⟨false,.fz,.int cell⟩,some ⟨false,.fz,.int many⟩,some ⟨false,.fz,.int at_⟩,some ⟨false,k0,.lst (iL xs)⟩,a],⟨[],none,_,rfl,(fun x hx=>nomatch hx),(md_bd _ (by decide)).1,(md_bd _ (by decide)).2,rfl⟩,fun i d ρ hd hI=>?_,fun ρ' hI=>?_⟩
 ·obtain ⟨xs,a,at_,hl,hn,ha0,ha1,rfl⟩:=hI
  obtain ⟨hd',he2⟩:=rngD_get hd
  rw [Int.zero_add] at hd' he2
  subst hd'
  refine ⟨[(4,.int i)],rfl,rfl,?_⟩
  walk_at "nm"
  have hk:0<=(i:Int)/\(i:Int) < 1000:=⟨Int.natCast_nonneg i,Int.lt_of_lt_of_le he2 h1⟩
  generalize (i:Int) = k at hk
  have b7:0<=7 * k/\7 * k < 10 ^ 30:=by omega
  have bk:=limS hk.1 (Int.lt_trans hk.2 (by decide))
  refine asg_iv (.mod (by decide) (.add (.add (.mul ⟨limS ha0 (Int.lt_trans ha1 (by decide)),limS (by decide) (by decide)⟩ (.var rfl) .lit) (.mul ⟨limS b7.1 b7.2,bk⟩ (.mul ⟨limS (by decide) (by decide),bk⟩ .lit (.var rfl)) (.var rfl))) .lit) .lit) (by decide) ?_
  have hz:=md_bd (at_ * 48271 + 7 * k * k + 11) (show (0:Int) < 2147483629 by decide)
  generalize (at_ * 48271 + 7 * k * k + 11) % 2147483629 = z at hz
  walk_at "nm"
  have bz:=limS hz.1 (Int.lt_trans hz.2 (by decide))
  refine app_iv rfl (by omega) (.fdiv ⟨by decide,limS (by decide) (by decide)⟩ (.mod (by decide) (.add (.add (.mul ⟨bz,bz⟩ (.var rfl) (.var rfl)) (.mul ⟨limS (by decide) (by decide),bz⟩ .lit (.var rfl))) (.var rfl)) .lit) .lit) ?_
  walk_at "nm"
  have hr:=md_bd (z * z + 3 * z + k) (show (0:Int) < 2147483587 by decide)
  generalize (z * z + 3 * z + k) % 2147483587 = r at hr
  exact w_nil ⟨_,.inl rfl,_,_,z,by rw [List.length_append,hl]; rfl,hn.snoc (Int.ediv_nonneg hr.1 (by decide)) (by omega),hz.1,Int.lt_trans hz.2 (by decide),rfl⟩
 ·obtain ⟨xs,a,at_,hl,hn,ha0,ha1,rfl⟩:=hI
  walk_at "nm"
  walk_at "sx"
  refine wm_mv rfl ⟨rfl,od_rt rfl (q xs ?_ hn)⟩
  rw [hl,rngD_len]
  omega
theorem wm_ext {Γ:GG} {ρ:Ro} {Q:Kd × D × Ro->Prop} {i:Nat} {e:IE} {es:List Ow} {r:Ow} {ds:List D} (hs:ρ[i]? = some (some ⟨false,.own es r,.nd .lst ds⟩))
  (h:Wp (evI Γ.fn e ρ) fun x=>∃ ys,x.2 = .nd .lst ys/\(flatK (.own es r) = true/\okE x.1 ys = true/\isBo x.1 = false/\ds.length + ys.length<=100000)/\Q (.sh,.non,ρ.set i (some ⟨false,.own es r,.lst (ds ++ ys)⟩))):Wp (evM Γ (.mut "extend" (.nm i) (.cons e .nil)) ρ) Q:=by
 obtain ⟨⟨k,d⟩,ex,ys,hy,h2,q⟩:=h
 dsimp only at hy h2
 subst hy
 refine ⟨_,?_,q⟩
 rw [evM,evIs,evIs,ex]
 show oMut "extend" i (evP Γ.fn (.nm i) ρ) (some [(k,.nd .lst ys)]) ρ = _
 rw [evP,hs]
 show (match mutD "extend" es r ds [(k,.nd .lst ys)],ρ[i]? with | some (d',ds'),some (some ⟨false,k,_⟩)=>some (Kd.sh,d',ρ.set i (some ⟨false,k,id (.lst ds')⟩)) | _,_=>none) = _
 have:mutD "extend" es r ds [(k,.nd .lst ys)] = some (.non,ds ++ ys):=by
  unfold mutD
  rw [if_neg (by decide),if_pos rfl]
  exact if_pos h2
 rw [this,hs]
 rfl
theorem numbers_ok {ns:List Int} {many:Int} {Q:KD->Prop} (h0:0<=many) (h1:many<=1000) (q:∀ xs,(xs.length:Int) = many->Nn xs->Q (.fr k0,.lst (iL xs))):Wp (ψ8 [.scr ns,.int many]) Q:=by
 unfold ψ8
 refine wd_I rfl ?_
 unfold b8
 walk_at "nm"
 walk_at "sx"
 refine wm_p (we_lst (ws_nil (wr_lst (r:=(.fr k0,.lst [])) rfl ⟨⟨rfl,by decide⟩,?_⟩)))
 walk_at "nm"
 with_reducible refine w_for ?_
 refine wmi_p (wi_e (we_sl (we_var rfl (wo_non (wo_som (we_lit ⟨63,rfl,⟨_,rfl,?_⟩⟩))))))
 rw [cut_none (by decide)]
 refine wo_lst rfl ?_
 generalize hc:ns.take (Int.toNat 63) = cs
 have lc:cs.length<=63:=by rw [<- hc,List.length_take]; exact Nat.min_le_left _ _
 refine ⟨fun i ρ=>∃ xs a b e,xs.length<=60 * i/\Nn xs/\ρ = [some ⟨false,.fz,.scr ns⟩,some ⟨false,.fz,.int many⟩,some ⟨false,k0,.lst (iL xs)⟩,a,b,e],⟨[],none,none,none,Nat.zero_le _,(fun x hx=>nomatch hx),rfl⟩,fun i d ρ hd hI=>?_,fun ρ' hI=>?_⟩
 ·obtain ⟨xs,a,b,e,hl,hn,rfl⟩:=hI
  obtain ⟨cell,hci,rfl⟩:=iL_get hd
  have hil:=(List.getElem?_eq_some_iff.mp hci).1
  refine ⟨[(3,.int cell)],rfl,rfl,?_⟩
  walk_at "nm"
  have hx6:xs.length<=4000:=by omega
  refine if_et (IV.lt (i:=cell) (.var rfl) (j:=10 ^ 18) (we_bin (we_lit (we_lit (wb_pow (by decide) rfl))))) (fun _=>?_) fun _=>kt_go ?_
  ·walk_at "sx"
   refine wm_ext rfl (we_fn (φ:=ψ7) rfl (ws_cons (we_var rfl (ws_cons (we_lit (ws_nil (wf_fn (mixed_ok (by decide) (by decide) fun ys hy hyn=>⟨rfl,.inl rfl,?_⟩))))))))
   have hy6:ys.length = 6:=Int.ofNat.inj hy
   refine ⟨_,rfl,⟨rfl,rfl,rfl,by rw [List.length_map,List.length_map]; omega⟩,?_⟩
   walk_at "nm"
   with_reducible refine w_cnt ?_
   refine kt_ct ⟨_,.inr rfl,xs ++ ys,some ⟨false,.fz,.int cell⟩,none,none,by rw [List.length_append]; omega,hn.app hyn,?_⟩
   rw [show iL (xs ++ ys) = iL xs ++ iL ys from List.map_append]
  ·refine asg_iv (.var rfl) (by decide) ?_
   walk_at "nm"
   with_reducible refine w_for ?_
   refine wmi_p (wi_rng (we_lit (we_lit (wo_rng (by decide) ?_))))
   refine ⟨fun j ρ=>∃ ys,∃ left:Int,∃ e,ys.length<=60 * i + j/\Nn ys/\ρ = [some ⟨false,.fz,.scr ns⟩,some ⟨false,.fz,.int many⟩,some ⟨false,k0,.lst (iL ys)⟩,some ⟨false,.fz,.int cell⟩,some ⟨false,.fz,.int left⟩,e],⟨xs,cell,none,hl,hn,rfl⟩,fun j d ρ hd hI=>?_,fun ρ' hI=>?_⟩
   ·obtain ⟨ys,left,e,hly,hny,rfl⟩:=hI
    obtain ⟨hd',he2⟩:=rngD_get hd
    rw [Int.zero_add] at hd' he2
    subst hd'
    refine ⟨[(5,.int j)],rfl,rfl,?_⟩
    walk_at "nm"
    refine if_et (IV.gt (i:=left) (.var rfl) (j:=0) .lit) (fun _=>?_) fun _=>kt_go ?_
    ·refine app_iv rfl (by omega) (.mod (by decide) (.var rfl) .lit) ?_
     walk_at "nm"
     refine asg_iv (.fdiv ⟨by decide,limS (by decide) (by decide)⟩ (.var rfl) .lit) (by decide) ?_
     walk_at "nm"
     have hr:=md_bd left (show (0:Int) < 10007 by decide)
     exact w_nil (kt_nx (w_nil ⟨_,.inl rfl,_,_,_,by rw [List.length_append]; exact Nat.add_le_add_right hly 1,hny.snoc hr.1 (Int.lt_trans hr.2 (by decide)),rfl⟩))
    ·exact w_nil ⟨_,.inl rfl,ys,left,_,Nat.le_succ_of_le hly,hny,rfl⟩
   ·obtain ⟨ys,left,e,hly,hny,rfl⟩:=hI
    have hly:ys.length<=60 * i + 60:=hly
    walk_at "nm"
    exact w_nil ⟨_,.inl rfl,ys,_,_,_,hly,hny,rfl⟩
 ·obtain ⟨xs,a,b,e,hl,hn,rfl⟩:=hI
  walk_at "nm"
  walk_at "sx"
  refine wm_p (we_sl (we_var rfl (wo_non (wo_som (we_var rfl ⟨many,rfl,⟨_,rfl,?_⟩⟩)))))
  rw [cut_none h0]
  refine ⟨⟨rfl,by decide⟩,?_⟩
  walk_at "nm"
  generalize hz:xs.take many.toNat = zs
  have hzl:(zs.length:Int)<=many:=by rw [<- hz,List.length_take]; omega
  have hzn:Nn zs:=fun x hx=>hn x (List.mem_of_mem_take (hz ▸ hx))
  walk_at "sx"
  refine wm_p (we_bin (we_var rfl (we_fn (φ:=ψ7) rfl (ws_cons (we_bin (we_blt (ws_cons (we_var rfl (ws_nil ⟨_,rfl,we_blt (ws_cons (we_var rfl (ws_nil (wl_len rfl (wb_add ?_)))))⟩)))))))))
  refine ws_cons (we_bin (we_var rfl ((IV.len (xs:=iL zs) (we_var rfl rfl)).mono fun y hy=>?_)))
  subst hy
  refine wb_sub (ws_nil (wf_fn ?_))
  rw [List.length_map]
  refine mixed_ok (Int.sub_nonneg_of_le hzl) (by omega) fun ys hy hyn=>⟨rfl,.inl rfl,?_⟩
  have hyl:(zs.length:Int) + ys.length = many:=by omega
  refine wb_cat ⟨rfl,rfl,by rw [List.length_map,List.length_map]; omega⟩ ?_
  rw [<- List.map_append]
  exact ⟨rfl,od_rt rfl (q _ (by rw [List.length_append,Int.natCast_add]; exact hyl) (hzn.app hyn))⟩
theorem sizes_ok {xs:List Int} {Q:KD->Prop} (hl:480<=xs.length) (hn:Nn xs) (q:∀ a b c d:Int,0<=a->a<=40->0<=b->b<=40->0<=c->c<=60->0<=d->d<=40->Q (.fr k0,.lst [.int a,.int b,.int c,.int d])):Wp (ψ10 [.lst (iL xs)]) Q:=by
 unfold ψ10
 refine wd_I rfl ?_
 unfold b10
 walk_at "nm"
 have v0:∀ {Γ:Nat->Option Fn},LV Γ (.var 0) [some ⟨false,.fz,.lst (iL xs)⟩] xs:=we_var rfl rfl
 have x:∀ {Γ:Nat->Option Fn} (n:Nat),n < 480->IV Γ (.ix (.var 0) (.lit (.int n))) [some ⟨false,.fz,.lst (iL xs)⟩] (nt xs n):=fun n h=>.ix v0 .lit (Nat.lt_of_lt_of_le h hl)
 have dv:∀ {Γ:Nat->Option Fn} (m:Int),0 < m->IV Γ (.bin .Mod (.bin .FloorDiv (.ix (.var 0) (.lit (.int 0))) (.lit (.int 8))) (.lit (.int m))) [some ⟨false,.fz,.lst (iL xs)⟩] (nt xs 0 / 8 % m):=fun m h=>.mod h (.fdiv ⟨by decide,limS (by decide) (by decide)⟩ (x 0 (by decide)) .lit) .lit
 have le:∀ {y m:Int},0<=y/\y < m + 1->0<=y/\y<=m:=fun h=>⟨h.1,Int.le_of_lt_add_one h.2⟩
 refine if_et (IV.eq (i:=nt xs 0 % 8) (j:=5) (.mod (by decide) (x 0 (by decide)) .lit) .lit) (fun _=>?_) fun _=>kt_go ?_
 ·refine ret_nb0 (we_lst (ws_cons ((dv 41 (by decide)).mono fun a ha=>ws_cons ((IV.mod (j:=41) (by decide) (x 1 (by decide)) .lit).mono fun b hb=>ws_cons ((IV.add (.lit (i:=20)) (IV.mod (j:=41) (by decide) (x 2 (by decide)) .lit)).mono fun c hc=>ws_cons ((IV.mod (j:=41) (by decide) (x 3 (by decide)) .lit).mono fun d hd=>ws_nil ?_))))))
  subst ha hb hc hd
  have a3:=md_bd (nt xs 2) (show (0:Int) < 41 by decide)
  obtain ⟨u1,u2⟩:=le (m:=40) (md_bd (nt xs 0 / 8) (by decide))
  obtain ⟨w1,w2⟩:=le (m:=40) (md_bd (nt xs 1) (by decide))
  obtain ⟨t1,t2⟩:=le (m:=40) (md_bd (nt xs 3) (by decide))
  exact wr_lst (r:=(.fr k0,.lst [_,_,_,_])) rfl ⟨rfl,od_rt rfl (q _ _ _ _ u1 u2 w1 w2 (by omega) (by omega) t1 t2)⟩
 ·refine ret_nb0 (we_lst (ws_cons ((dv 4 (by decide)).mono fun a ha=>ws_cons ((IV.mod (j:=5) (by decide) (x 1 (by decide)) .lit).mono fun b hb=>ws_cons ((IV.mod (j:=10) (by decide) (x 2 (by decide)) .lit).mono fun c hc=>ws_cons ((IV.mod (j:=4) (by decide) (x 3 (by decide)) .lit).mono fun d hd=>ws_nil ?_))))))
  subst ha hb hc hd
  have lt:∀ {y m k:Int},0<=y/\y < m->m<=k->0<=y/\y<=k:=fun h hk=>⟨h.1,Int.le_trans (Int.le_of_lt h.2) hk⟩
  obtain ⟨u1,u2⟩:=lt (k:=40) (md_bd (nt xs 0 / 8) (m:=4) (by decide)) (by decide)
  obtain ⟨w1,w2⟩:=lt (k:=40) (md_bd (nt xs 1) (m:=5) (by decide)) (by decide)
  obtain ⟨s1,s2⟩:=lt (k:=60) (md_bd (nt xs 2) (m:=10) (by decide)) (by decide)
  obtain ⟨t1,t2⟩:=lt (k:=40) (md_bd (nt xs 3) (m:=4) (by decide)) (by decide)
  exact wr_lst (r:=(.fr k0,.lst [_,_,_,_])) rfl ⟨rfl,od_rt rfl (q _ _ _ _ u1 u2 w1 w2 s1 s2 t1 t2)⟩
end K33
namespace K33
open PySem L2 J
theorem sl2 {Γ:Nat->Option Fn} {ρ:Ro} {a lo hi:IE} {xs ys:List Int} {l h:Int} {P:List Nat × List D->Prop} (ha:LV Γ a ρ xs) (hl:IV Γ lo ρ l) (hh:IV Γ hi ρ h) (e:cutD (iL xs) (some l) (some h) = iL ys) (q:P ([],iL ys)):Wp (evII Γ (.e (.sl a (.som lo) (.som hi))) ρ) P:=by
 refine wi_e (we_sl (ha.mono fun x hx=>wo_som (hl.mono fun y hy=>⟨l,by rw [hy],wo_som (hh.mono fun z hz=>⟨h,by rw [hz],⟨(.fr flatO,.lst (iL ys)),?_,wo_lst rfl q⟩⟩)⟩)))
 subst hx
 rw [<- e]; rfl
theorem comp_iv {Γ:Nat->Option Fn} {ρ:Ro} {cap:List (Option Nat)} {it:II} {e:IE} {ys:List Int} {f:Int->Int} {Q:KD->Prop} (hs:Wp (evII Γ it ρ) fun p=>p.2 = iL ys) (hl:ys.length<=100000) (hn:noneAt [(1,.int 0)] (capRo ρ cap) = true) (he:∀ y ∈ ys,IV Γ e (setAll [(1,.int y)] (capRo ρ cap)) (f y)) (q:Q (.fr k0,.lst (iL (ys.map f)))):Wp (evI Γ (.comp .fz cap (.nm 1) it .non e) ρ) Q:=by
 refine we_comp (hs.mono fun p hp=>?_)
 obtain ⟨bs,ds⟩:=p
 cases (show ds = _ from hp)
 refine ⟨by rw [List.length_map]; exact hl,?_⟩
 refine wmap (fun i y=>∃ g,ys[i]? = some g/\y = .int (f g)) (fun i d hd=>?_) fun zs hz hp=>?_
 ·obtain ⟨g,hg,rfl⟩:=iL_get hd
  refine w_elt (ps:=[(1,.int g)]) rfl hn rfl ((he g (List.mem_of_getElem? hg)).mono fun x hx=>?_)
  subst hx
  exact ⟨_,rfl,rfl,g,hg,rfl⟩
 ·rw [map_int (l:=ys) (f:=f) (by rw [hz,List.length_map]) hp]
  exact q
theorem places_ok {xs:List Int} {pl:Int} {Q:KD->Prop} (hl:xs.length = 5) (hn:Nn xs) (hp:0<=pl) (hp2:pl<=1000) (q:∀ ps:List Int,ps.length<=3->(∀ p ∈ ps,0<=p/\p < pl)->Q (.sh,.tup (iL ps))):Wp (ψ11 [.lst (iL xs),.int pl]) Q:=by
 unfold ψ11
 refine wd_I rfl ?_
 unfold b11
 walk_at "nm"
 have v0:∀ {Γ:Nat->Option Fn} {a b:Option Sl},LV Γ (.var 0) [some ⟨false,.fz,.lst (iL xs)⟩,a,b] xs:=we_var rfl rfl
 have x0:∀ {Γ:Nat->Option Fn} {a b:Option Sl},IV Γ (.ix (.var 0) (.lit (.int 0))) [some ⟨false,.fz,.lst (iL xs)⟩,a,b] (nt xs 0):=IV.ix (n:=0) v0 .lit (by omega)
 have m4:=md_bd (nt xs 0) (show (0:Int) < 4 by decide)
 have hi1:0<=(if (1:Int) < pl then (1:Int) else pl)/\(if (1:Int) < pl then (1:Int) else pl)<=1/\(if (1:Int) < pl then (1:Int) else pl)<=pl:=by split <;> omega
 refine asg_iv (.mul ⟨limS hi1.1 (Int.lt_of_le_of_lt hi1.2.1 (by decide)),limS m4.1 (Int.lt_trans m4.2 (by decide))⟩ (.min (.var rfl) .lit) (.mod (by decide) x0 .lit)) (by decide) ?_
 generalize (if (1:Int) < pl then (1:Int) else pl) = w at hi1
 have hm0:0<=w * (nt xs 0 % 4)/\w * (nt xs 0 % 4)<=3/\(0 < w * (nt xs 0 % 4)->0 < pl):=by
  have:w = 0\/w = 1:=by omega
  rcases this with rfl | rfl <;> omega
 generalize w * (nt xs 0 % 4) = many at hm0
 walk_at "nm"
 obtain ⟨ys,ec,yl,ym⟩:=cut_two (xs:=xs) (a:=2) (b:=2 + many) (by decide) (by omega) (by omega)
 have yl3:ys.length<=3:=by omega
 have tl:∀ (f:Int->Int),(∀ x,0<=x->0 < pl->0<=f x/\f x < pl)->∀ p ∈ ys.map f,0<=p/\p < pl:=fun f hf p hp=>by
  obtain ⟨y,hy,rfl⟩:=List.mem_map.mp hp
  have:0 < ys.length:=List.length_pos_of_mem hy
  exact hf y (hn y (ym y hy)).1 (hm0.2.2 (by omega))
 have hpp:∀ y ∈ ys,0 < pl:=fun y hy=>hm0.2.2 (by have:0 < ys.length:=List.length_pos_of_mem hy; omega)
 have src:∀ {Γ:Nat->Option Fn},Wp (evII Γ (.e (.sl (.var 0) (.som (.lit (.int 2))) (.som (.bin .Add (.lit (.int 2)) (.var 2))))) [some ⟨false,.fz,.lst (iL xs)⟩,some ⟨false,.fz,.int pl⟩,some ⟨false,.fz,.int many⟩]) fun p=>p.2 = iL ys:=sl2 v0 .lit (.add .lit (.var rfl)) ec rfl
 refine if_et (IV.eq (i:=nt xs 0 / 4 % 3) (j:=0) (.mod (by decide) (.fdiv ⟨by decide,limS (by decide) (by decide)⟩ x0 .lit) .lit) .lit) (fun _=>?_) fun _=>kt_go ?_
 ·refine ret_nb0 (we_blt (ws_cons (comp_iv (f:=fun y=>pl - 1 - y % (if (4:Int) < pl then 4 else pl)) src (Nat.le_trans yl3 (by decide)) rfl (fun y hy=>.sub (.sub (.var rfl) .lit) (.mod (by have:=hpp y hy; split <;> omega) (.var rfl) (.min (.var rfl) .lit))) (ws_nil (wl_tuple rfl ⟨rfl,od_rt rfl (q _ (by rw [List.length_map]; exact yl3) (tl _ fun x h0 h1=>?_))⟩)))))
  have:=md_bd x (m:=if (4:Int) < pl then 4 else pl) (by split <;> omega)
  generalize hv:x % (if (4:Int) < pl then 4 else pl) = v at this
  split at this <;> omega
 ·exact ret_nb0 (we_blt (ws_cons (comp_iv (f:=fun y=>y % pl) src (Nat.le_trans yl3 (by decide)) rfl (fun y hy=>.mod (hpp y hy) (.var rfl) (.var rfl)) (ws_nil (wl_tuple rfl ⟨rfl,od_rt rfl (q _ (by rw [List.length_map]; exact yl3) (tl _ fun x h0 h1=>md_bd x h1))⟩)))))
theorem map_D {α:Type} {f:α->D} {l:List α} {ys:List D} (hl:ys.length = l.length) (h:∀ (i:Nat) y,ys[i]? = some y->∃ a,l[i]? = some a/\y = f a):ys = l.map f:=by
 refine List.ext_getElem? fun i=>?_
 cases e:ys[i]? with
 | none=>
  have:l.length<=i:=by rw [<- hl]; exact List.getElem?_eq_none_iff.mp e
  rw [List.getElem?_eq_none (by simpa using this)]
 | some y=>
  obtain ⟨a,ea,rfl⟩:=h i y e
  simp [ea]
theorem circuit_ok {xs:List Int} {Q:KD->Prop} (hl:xs.length = 480) (hn:Nn xs) (q:∀ c:Cc,c.Ok->c.ins<=40->c.ms.length<=40->Q (.sh,c.d)):Wp (ψ12 [.lst (iL xs)]) Q:=by
 unfold ψ12
 refine wd_I rfl ?_
 unfold b12
 walk_at "nm"
 with_reducible refine w_unpL ?_
 refine wm_p (we_fn (φ:=ψ10) rfl (ws_cons (we_var rfl (ws_nil (wf_fn (sizes_ok (Nat.le_of_eq hl.symm) hn fun a b c d ha ha1 hb hb1 hc hc1 hd hd1=>⟨rfl,.inl rfl,_,_,_,rfl,rfl,⟨rfl,rfl⟩,?_⟩))))))
 simp only [putN,List.headD,List.tail]
 walk_at "nm"
 refine asg_iv (.add (.var rfl) (.var rfl)) (by decide) ?_
 walk_at "nm"
 refine asg_iv (.add (.var rfl) (.var rfl)) (by decide) ?_
 walk_at "nm"
 generalize hfi:a + b = first
 generalize hmo:first + c = most
 have hfb:0<=first/\first<=80:=by omega
 refine if_et (IV.eq (i:=most) (j:=0) (.var rfl) .lit) (fun h=>?_) fun h=>kt_go ?_
 ·have em:∀ {Γ:Nat->Option Fn} {ρ:Ro},Wp (evI Γ (.lst (.own [] .fz) .nil) ρ) fun x=>x = (.fr k0,.lst []):=we_lst (ws_nil (wr_lst (r:=(.fr k0,.lst [])) rfl rfl))
  refine ret_nb0 (we_tup (ws_cons (we_lit (ws_cons (em.mono fun x hx=>ws_cons (em.mono fun y hy=>ws_cons (em.mono fun z hz=>ws_nil ?_)))))))
  subst hx hy hz
  exact wr_tup (r:=(.sh,.tup [.int 0,.lst [],.lst [],.lst []])) rfl ⟨rfl,od_rt rfl (q ⟨0,[],[],[]⟩ ⟨by decide,by decide,by decide,by decide,by decide,fun m hm=>(nomatch hm),fun k g hg=>(nomatch hg),fun m hm=>(nomatch hm),fun m hm=>(nomatch hm)⟩ (by decide) (by decide))⟩
 have hmp:0 < most:=by
  have:¬ most = 0:=of_decide_eq_false h
  omega
 have v0:∀ {Γ:Nat->Option Fn} {r:Ro},LV Γ (.var 0) (some ⟨false,.fz,.lst (iL xs)⟩ :: r) xs:=we_var rfl rfl
 obtain ⟨ys,ec,yl,ym⟩:=cut_two (xs:=xs) (a:=4) (b:=4 + b) (by decide) (by omega) (by omega)
 walk_at "sx"
 refine wm_p (we_comp (sl2 v0 .lit (.add .lit (.var rfl)) ec ⟨by rw [List.length_map]; omega,?_⟩))
 refine wmap (fun i y=>∃ g,ys[i]? = some g/\y = mD (g % 2,g / 2 % most)) (fun i d hd=>?_) fun zs hz hp=>?_
 ·obtain ⟨p,hg,rfl⟩:=iL_get hd
  refine w_elt (ps:=[(1,.int p)]) rfl rfl rfl (we_tup (ws_cons ((IV.mod (i:=p) (j:=2) (by decide) (.var rfl) .lit).mono fun x hx=>ws_cons ((IV.mod (i:=p / 2) (j:=most) hmp (.fdiv ⟨by decide,limS (by decide) (by decide)⟩ (.var rfl) .lit) (.var rfl)).mono fun y hy=>ws_nil ?_))))
  subst hx hy
  exact wr_tup (r:=(.sh,mD (p % 2,p / 2 % most))) rfl ⟨_,rfl,rfl,p,hg,rfl⟩
 rw [map_D (l:=ys) (f:=fun g=>mD (g % 2,g / 2 % most)) (by rw [hz,List.length_map]) hp]
 generalize hms:(ys.map fun g=>(g % 2,g / 2 % most)) = ms
 have hmsD:(ys.map fun g=>mD (g % 2,g / 2 % most)) = ms.map mD:=by rw [<- hms,List.map_map]; rfl
 have hml:(ms.length:Int) = b:=by rw [<- hms,List.length_map]; omega
 have hmb:∀ m ∈ ms,(m.1 = 0\/m.1 = 1)/\0<=m.2/\m.2 < most:=fun m hm=>by
  rw [<- hms] at hm
  obtain ⟨y,hy,rfl⟩:=List.mem_map.mp hm
  exact ⟨Int.emod_two_eq y,md_bd (y / 2) hmp⟩
 rw [hmsD]
 refine ⟨⟨rfl,by decide⟩,?_⟩
 walk_at "nm"
 walk_at "sx"
 refine wm_p (we_lst (ws_nil (wr_lst (r:=(.fr k0,.lst [])) rfl ⟨⟨rfl,by decide⟩,?_⟩)))
 walk_at "nm"
 with_reducible refine w_for ?_
 refine wmi_p (wi_rng (we_lit (we_var rfl (wo_rng (rng0 hc (Int.le_trans hc1 (by decide))) ?_))))
 refine ⟨fun i ρ=>∃ gl x1 x2 x3 x4,gl.length = i/\(∀ (k:Nat) g,gl[k]? = some g->g.2.length<=3/\∀ p ∈ g.2,0<=p/\p < first + k)/\(∀ g ∈ gl,0<=g.1/\g.1 < ((2 ^ 2 ^ g.2.length:Nat):Int))/\ρ = [some ⟨false,.fz,.lst (iL xs)⟩,some ⟨false,.fz,.int a⟩,some ⟨false,.fz,.int b⟩,some ⟨false,.fz,.int c⟩,some ⟨false,.fz,.int d⟩,some ⟨false,.fz,.int first⟩,some ⟨false,.fz,.int most⟩,some ⟨false,k0,.lst (ms.map mD)⟩,some ⟨false,k0,.lst (gl.map gD)⟩,x1,x2,x3,x4],⟨[],none,none,none,none,rfl,(fun k g hg=>nomatch hg),(fun g hg=>nomatch hg),rfl⟩,fun i d' ρ hd' hI=>?_,fun ρ' hI=>?_⟩
 ·obtain ⟨gl,x1,x2,x3,x4,hgl,hgp,hgt,rfl⟩:=hI
  obtain ⟨hd',he2⟩:=rngD_get hd'
  rw [Int.zero_add] at hd' he2
  subst hd'
  have hi60:i < 60:=by omega
  refine ⟨[(9,.int i)],rfl,rfl,?_⟩
  walk_at "nm"
  refine asg_iv (.add .lit (.mul ⟨limS (by decide) (by decide),limS (Int.natCast_nonneg i) (by omega)⟩ .lit (.var rfl))) (by decide) ?_
  obtain ⟨at_,hat⟩:∃ n:Nat,(50 + 5 * (i:Int)) = n:=⟨50 + 5 * i,by omega⟩
  rw [hat]
  walk_at "nm"
  have hat2:at_ + 5<=480:=by omega
  obtain ⟨us,eu,ul,um⟩:=cut_two (xs:=xs) (a:=at_) (b:=at_ + 5) (Int.natCast_nonneg _) (by omega) (by omega)
  walk_at "sx"
  refine wm_p (we_fn (φ:=ψ11) rfl (ws_cons (we_sl (v0.mono fun x hx=>wo_som (we_var rfl ⟨(at_:Int),rfl,wo_som (we_bin (we_var rfl (we_lit (wb_add ⟨(at_:Int) + 5,rfl,⟨(.fr flatO,.lst (iL us)),?_,?_⟩⟩))))⟩)))))
  ·subst hx
   rw [<- eu]; rfl
  refine ws_cons ((IV.add (i:=first) (j:=i) (.var rfl) (.var rfl)).mono fun y hy=>ws_nil (wf_fn ?_))
  subst hy
  refine places_ok (by omega) (fun x hx=>hn x (um x hx)) (by omega) (by omega) fun ps hp3 hpb=>⟨rfl,.inl rfl,⟨rfl,by decide⟩,?_⟩
  walk_at "nm"
  have hw:0 < ((2 ^ 2 ^ ps.length:Nat):Int):=Int.ofNat_lt.mpr (Nat.two_pow_pos _)
  have x1v:∀ {Γ:Nat->Option Fn} {y1 y2 y3 y4 y5 y6 y7 y8 y9 y11 y12:Option Sl},IV Γ (.ix (.var 0) (.bin .Add (.var 10) (.lit (.int 1)))) [some ⟨false,.fz,.lst (iL xs)⟩,y1,y2,y3,y4,y5,y6,y7,y8,y9,some ⟨false,.fz,.int at_⟩,y11,y12] (nt xs (at_ + 1)):=.ix (n:=at_ + 1) v0 (by rw [Int.natCast_add]; exact .add (.var rfl) .lit) (by omega)
  have p4:∀ {Γ:Nat->Option Fn} {y0 y1 y2 y3 y4 y5 y6 y7 y8 y9 y10 y12:Option Sl},IV Γ (.ix (.lst (.own [] .fz) (.cons (.lit (.int 2)) (.cons (.lit (.int 4)) (.cons (.lit (.int 16)) (.cons (.lit (.int 256)) .nil))))) (.blt "len" (.cons (.var 11) .nil))) [y0,y1,y2,y3,y4,y5,y6,y7,y8,y9,y10,some ⟨false,.fz,.tup (iL ps)⟩,y12] ((2 ^ 2 ^ ps.length:Nat):Int):=by
   intro Γ y0 y1 y2 y3 y4 y5 y6 y7 y8 y9 y10 y12
   have:=pw_at (Γ:=Γ) (ρ:=[y0,y1,y2,y3,y4,y5,y6,y7,y8,y9,y10,some ⟨false,.fz,.tup (iL ps)⟩,y12]) (e:=.blt "len" (.cons (.var 11) .nil)) (k:=(iL ps).length) (by rw [List.length_map]; exact hp3) (len_at (ds:=iL ps) (.inl rfl) (we_var rfl rfl))
   rw [List.length_map] at this
   exact this
  refine asg_iv (.mod hw x1v p4) (by decide) ?_
  have hb2:=md_bd (nt xs (at_ + 1)) hw
  generalize nt xs (at_ + 1) % ((2 ^ 2 ^ ps.length:Nat):Int) = tv at hb2
  walk_at "nm"
  refine w_exp (wm_appP (we_tup (ws_cons (we_var rfl (ws_cons (we_var rfl (ws_nil (wr_tup (r:=(.sh,gD (tv,ps))) rfl ⟨_,_,_,rfl,⟨Nat.zero_le _,rfl,by rw [List.length_map]; omega⟩,?_⟩))))))))
  walk_at "nm"
  refine w_nil ⟨_,.inl rfl,gl ++ [(tv,ps)],_,_,_,_,by rw [List.length_append,hgl]; rfl,fun k g hg=>?_,fun g hg=>(List.mem_append.mp hg).elim (hgt g) fun z=>by rw [List.mem_singleton.mp z]; exact hb2,by rw [List.map_append]; rfl⟩
  by_cases hk:k < gl.length
  ·rw [List.getElem?_append_left hk] at hg
   exact hgp k g hg
  ·rw [List.getElem?_append_right (Nat.le_of_not_lt hk)] at hg
   have hk0:k - gl.length = 0:=by
    have:=(List.getElem?_eq_some_iff.mp hg).1
    exact Nat.lt_one_iff.mp this
   rw [hk0] at hg
   cases hg
   have hki:k = i:=by omega
   subst hki
   exact ⟨hp3,hpb⟩
 ·obtain ⟨gl,x1,x2,x3,x4,hgl,hgp,hgt,rfl⟩:=hI
  have hgl2:(gl.length:Int) = c:=by rw [hgl,rngD_len]; omega
  obtain ⟨ws,ew,wl,wm⟩:=cut_two (xs:=xs) (a:=360) (b:=360 + d) (by decide) (by omega) (by omega)
  walk_at "nm"
  walk_at "sx"
  refine wm_tup (wl_cons (wm_p (we_var rfl ⟨rfl,?_⟩)))
  refine wl_cons (wm_mv rfl ⟨rfl,?_⟩)
  refine wl_fin (wm_mv rfl ?_)
  walk_at "nm"
  refine ws_cons (comp_iv (ys:=ws) (f:=fun g=>g % most) (sl2 v0 .lit (.add .lit (.var rfl)) ew rfl) (by omega) rfl (fun y hy=>.mod hmp (.var rfl) (.var rfl)) (ws_nil ?_))
  refine wr_tup (r:=(.sh,.tup [.int a,.lst (ms.map mD),.lst (gl.map gD),.lst (iL (ws.map fun g=>g % most))])) rfl ⟨rfl,od_rt rfl ?_⟩
  have e1:(a + ms.length:Int) = first:=by omega
  have e2:(a + ms.length + gl.length:Int) = most:=by omega
  refine q ⟨a,ms,gl,ws.map fun g=>g % most⟩ ⟨ha,Int.le_trans ha1 (by decide),?_,?_,?_,fun m hm=>?_,fun k g hg=>?_,fun o ho=>?_,hgt⟩ ha1 ?_
  ·dsimp only; omega
  ·dsimp only; omega
  ·dsimp only; rw [List.length_map]; omega
  ·dsimp only; rw [e2]; exact hmb m hm
  ·dsimp only; rw [e1]; exact hgp k g hg
  ·obtain ⟨x,_,rfl⟩:=List.mem_map.mp ho
   dsimp only; rw [e2]; exact md_bd x hmp
  ·dsimp only; omega
end K33
namespace K33
open PySem L2 J
mutual
theorem rok_mono:∀ {d:D} {n m:Nat},n<=m->rok n d = true->rok m d = true
 | .non,_,_,_,h=>by simp only [rok]
 | .bl _,_,_,_,h=>by simp only [rok]
 | .int _,_,_,_,h=>by simp only [rok] at h ⊢; exact h
 | .str _,_,_,_,h=>by simp only [rok] at h ⊢; exact h
 | .scr _,_,_,_,h=>by simp [rok] at h
 | .nd .lst ds,n,m,hn,h=>by
  simp only [rok,Bool.and_eq_true,decide_eq_true_eq] at h ⊢
  exact ⟨by omega,rokL_mono (by omega) h.2⟩
 | .nd .tup ds,n,m,hn,h=>by
  simp only [rok,Bool.and_eq_true,decide_eq_true_eq] at h ⊢
  exact ⟨by omega,rokL_mono (by omega) h.2⟩
 | .nd (.dic _ _) _,n,m,hn,h=>by
  simp only [rok,Bool.and_eq_true,decide_eq_true_eq] at h ⊢
  exact ⟨by omega,h.2⟩
 | .nd (.obj _ _) _,_,_,_,h=>by simp [rok] at h
theorem rokL_mono:∀ {ds:List D} {n m:Nat},n<=m->rokL n ds = true->rokL m ds = true
 | [],_,_,_,_=>by simp only [rokL]
 | d :: ds,n,m,hn,h=>by
  simp only [rokL,Bool.and_eq_true] at h ⊢
  exact ⟨rok_mono hn h.1,rokL_mono hn h.2⟩
end
noncomputable def Sm (n w:Nat) (d:D):Prop:=rok n d = true/\bkD d<=w
noncomputable def SmL (n w:Nat) (ds:List D):Prop:=rokL n ds = true/\bkL ds<=w
theorem Sm.mono {n m w v:Nat} {d:D} (h:Sm n w d) (hn:n<=m) (hw:w<=v):Sm m v d:=⟨rok_mono hn h.1,Nat.le_trans h.2 hw⟩
theorem SmL.mono {n m w v:Nat} {d:List D} (h:SmL n w d) (hn:n<=m) (hw:w<=v):SmL m v d:=⟨rokL_mono hn h.1,Nat.le_trans h.2 hw⟩
theorem sm_int {n w:Nat} {i:Int} (h1:-10 ^ 70 < i) (h2:i < 10 ^ 70):Sm n w (.int i):=⟨by simp only [rok,decide_eq_true_eq]; omega,Nat.zero_le _⟩
theorem sm_lst {n w:Nat} {ds:List D} (h:SmL n w ds):Sm (n + 1) w (.nd .lst ds):=⟨by simp only [rok,Bool.and_eq_true,decide_eq_true_eq]; exact ⟨by omega,h.1⟩,by simp only [bkD]; exact h.2⟩
theorem sm_tup {n w:Nat} {ds:List D} (h:SmL n w ds):Sm (n + 1) w (.nd .tup ds):=⟨by simp only [rok,Bool.and_eq_true,decide_eq_true_eq]; exact ⟨by omega,h.1⟩,by simp only [bkD]; exact h.2⟩
theorem smL_nil {n w:Nat}:SmL n w []:=⟨by simp only [rokL],Nat.zero_le _⟩
theorem smL_cons {n w v:Nat} {d:D} {ds:List D} (h:Sm n w d) (k:SmL n v ds):SmL n (w + 1 + v) (d :: ds):=⟨by simp only [rokL,Bool.and_eq_true]; exact ⟨h.1,k.1⟩,by have:=h.2; have:=k.2; simp only [bkL]; omega⟩
theorem rokL_iff {n:Nat}:∀ {ds:List D},rokL n ds = true ↔ ∀ d ∈ ds,rok n d = true
 | []=>by simp [rokL]
 | d :: ds=>by simp [rokL,rokL_iff (ds:=ds)]
theorem bkL_app:∀ (a b:List D),bkL (a ++ b) = bkL a + bkL b
 | [],b=>by simp [bkL]
 | x :: a,b=>by simp only [List.cons_append,bkL,bkL_app a b]; omega
theorem smL_app {n w v:Nat} {a b:List D} (h:SmL n w a) (k:SmL n v b):SmL n (w + v) (a ++ b):=by
 refine ⟨rokL_iff.mpr fun d hd=>(List.mem_append.mp hd).elim (rokL_iff.mp h.1 d) (rokL_iff.mp k.1 d),?_⟩
 have:=h.2
 have:=k.2
 rw [bkL_app]; omega
theorem bk_take (l:List D) (i:Nat):bkL (l.take i)<=bkL l:=by
 have:=bkL_app (l.take i) (l.drop i)
 rw [List.take_append_drop] at this
 omega
theorem bk_drop (l:List D) (i:Nat):bkL (l.drop i)<=bkL l:=by
 have:=bkL_app (l.take i) (l.drop i)
 rw [List.take_append_drop] at this
 omega
theorem smL_cut {n w:Nat} {l:List D} {lo hi:Option Int} (h:SmL n w l):SmL n w (cutD l lo hi):=by
 unfold cutD
 refine ⟨rokL_iff.mpr fun d hd=>rokL_iff.mp h.1 d (List.mem_of_mem_drop (List.mem_of_mem_take hd)),?_⟩
 exact Nat.le_trans (bk_take _ _) (Nat.le_trans (bk_drop _ _) h.2)
theorem bk_rev:∀ l:List D,bkL l.reverse = bkL l
 | []=>rfl
 | x :: l=>by rw [List.reverse_cons,bkL_app,bk_rev l]; simp only [bkL]; omega
theorem smL_rev {n w:Nat} {l:List D} (h:SmL n w l):SmL n w l.reverse:=⟨rokL_iff.mpr fun d hd=>rokL_iff.mp h.1 d (List.mem_reverse.mp hd),by rw [bk_rev]; exact h.2⟩
theorem bk_set:∀ (l:List D) (i:Nat) (x:D),bkL (l.set i x)<=bkL l + bkD x
 | [],i,x=>by simp [bkL]
 | y :: l,0,x=>by simp only [List.set_cons_zero,bkL]; omega
 | y :: l,i + 1,x=>by have:=bk_set l i x; simp only [List.set_cons_succ,bkL]; omega
theorem smL_set {n w v:Nat} {l:List D} {i:Nat} {x:D} (h:SmL n w l) (k:Sm n v x):SmL n (w + v) (l.set i x):=by
 refine ⟨rokL_iff.mpr fun d hd=>?_,?_⟩
 ·rcases List.mem_or_eq_of_mem_set hd with hd | rfl
  ·exact rokL_iff.mp h.1 d hd
  ·exact k.1
 ·have:=bk_set l i x
  have:=h.2
  have:=k.2
  omega
theorem smL_map {α:Type} {n v:Nat} {f:α->D}:∀ {l:List α},(∀ x ∈ l,Sm n v (f x))->SmL n (l.length * (v + 1)) (l.map f)
 | [],_=>smL_nil
 | x :: l,h=>by
  have:=smL_cons (h x List.mem_cons_self) (smL_map (l:=l) fun y hy=>h y (List.mem_cons_of_mem _ hy))
  refine this.mono (Nat.le_refl _) ?_
  rw [List.length_cons,Nat.succ_mul]
  omega
theorem smL_ints {n:Nat} {l:List Int} (h:∀ x ∈ l,-10 ^ 70 < x/\x < 10 ^ 70):SmL n l.length (iL l):=(smL_map (v:=0) fun x hx=>sm_int (h x hx).1 (h x hx).2).mono (Nat.le_refl _) (by omega)
theorem nb_S {k:Kd} {d:D} (h:isBo k = false):okS k d = true:=by cases k <;> first | rfl | cases h
theorem nb_im {k:Kd} {d:D} (h:isBo k = false):imK k d = k:=by cases k <;> first | rfl | cases h
noncomputable def Nb (P:D->Prop) (x:KD):Prop:=isBo x.1 = false/\P x.2
section
variable {Γ:Nat->Option Fn} {ρ:Ro} {P:D->Prop} {Q:KD->Prop}
noncomputable def All (m:Nat) (P:D->Prop) (kds:List KD):Prop:=kds.length = m/\∀ p ∈ kds,Nb P p
theorem es_nil:Wp (evIs Γ .nil ρ) (All 0 P):=ws_nil ⟨rfl,fun p h=>by simp at h⟩
theorem es_cons {a:IE} {r:IEs} {m:Nat} (ha:Wp (evI Γ a ρ) (Nb P)) (hr:Wp (evIs Γ r ρ) (All m P)):Wp (evIs Γ (.cons a r) ρ) (All (m + 1) P):=
 ws_cons (ha.mono fun x hx=>hr.mono fun xs hxs=>⟨by rw [List.length_cons,hxs.1],fun p hp=>(List.mem_cons.mp hp).elim (fun e=>e ▸ hx) (hxs.2 p)⟩)
theorem fit_all:∀ {kds:List KD},(∀ p ∈ kds,isBo p.1 = false)->fitL [] .fz kds = true
 | [],_=>rfl
 | p :: ps,h=>by
  show (fit1 .fz p && fitL [] .fz ps) = true
  rw [fit_all fun q hq=>h q (List.mem_cons_of_mem _ hq)]
  show (okS p.1 p.2 && true) = true
  rw [nb_S (h p List.mem_cons_self)]; rfl
theorem oLst_ok {kds:List KD} (h:∀ p ∈ kds,isBo p.1 = false) (hl:kds.length<=1000):oLst (.own [] .fz) (some kds) = some (.fr k0,.lst (kds.map fun p:KD=>p.2)):=by
 show (if fitL [] .fz kds = true/\kds.length<=100000 then some (Kd.fr (.own [] .fz),D.lst (kds.map fun p:KD=>p.2)) else none) = _
 exact if_pos ⟨fit_all h,by omega⟩
theorem oTup_ok {kds:List KD} (h:∀ p ∈ kds,isBo p.1 = false) (hl:kds.length<=1000):oTup .fz (some kds) = some (.sh,.tup (kds.map fun p:KD=>p.2)):=by
 show (if (kds.all fun p=>okS p.1 p.2) = true/\kds.length<=100000 then some (Kd.sh,D.tup (kds.map fun p:KD=>p.2)) else none) = _
 refine if_pos ⟨?_,by omega⟩
 rw [List.all_eq_true]
 exact fun p hp=>nb_S (h p hp)
theorem pick_disp {es:IEs} {e:IE} {m:Nat} (hes:Wp (evIs Γ es ρ) (All m P)) (he:Wp (evI Γ e ρ) fun x=>∃ i:Int,x.2 = .int i/\0<=i/\i < m) (hm:m<=1000) (q:∀ d,P d->Q (.sh,d)):Wp (evI Γ (.ix (.lst (.own [] .fz) es) e) ρ) Q:=by
 refine we_ix (we_lst (hes.mono fun kds hk=>?_))
 refine ⟨_,oLst_ok (fun p hp=>(hk.2 p hp).1) (by have:=hk.1; omega),he.mono fun y hy=>?_⟩
 obtain ⟨ky,dy⟩:=y
 obtain ⟨i,hi,h0,h1⟩:=hy
 cases (show dy = _ from hi)
 have hl:i.toNat < (kds.map fun p:KD=>p.2).length:=by rw [List.length_map,hk.1]; omega
 refine wx_lst (n:=i.toNat) (ixN_nat h0 (by rw [List.length_map,hk.1]; exact h1)) (List.getElem?_eq_getElem hl) ?_
 have hmem:=List.getElem_mem hl
 obtain ⟨p,hp,e⟩:=List.mem_map.mp hmem
 exact q _ (e ▸ (hk.2 p hp).2)
theorem nb_lst {es:IEs} {R:List D->Prop} (hes:Wp (evIs Γ es ρ) fun kds=>(∀ p ∈ kds,isBo p.1 = false)/\kds.length<=1000/\R (kds.map (·.2))) (q:∀ ds,R ds->Q (.fr k0,.lst ds)):Wp (evI Γ (.lst (.own [] .fz) es) ρ) Q:=by
 exact we_lst (hes.mono fun kds hk=>⟨_,oLst_ok hk.1 hk.2.1,q _ hk.2.2⟩)
theorem we_neg {a:IE} {i:Int} (h:Wp (evI Γ a ρ) fun x=>x.2 = .int i) (q:Q (.sh,.int (-i))):Wp (evI Γ (.neg a) ρ) Q:=by
 obtain ⟨⟨k,d⟩,e,hd⟩:=h
 cases (show d = _ from hd)
 exact ⟨_,by rw [evI,e]; rfl,q⟩
theorem we_dnew0 (q:Q (.fr flatO,.dic 0 [] [])):Wp (evI Γ (.dnew 0) ρ) Q:=⟨_,by rw [evI]; rfl,q⟩
theorem nbl {d:D} (h:P d):Wp (evI Γ (.lit d) ρ) (Nb P):=we_lit ⟨rfl,h⟩
end
noncomputable def deepN:Nat->D
 | 0=>.lst []
 | n + 1=>.lst [deepN n]
theorem deep_run:ψ17 [] = some (.fr k0,deepN 90):=by kernel_rfl
theorem deep_sm:Sm 91 90 (deepN 90):=by constructor <;> decide +kernel
theorem pow59:(10:Int) ^ (59:Int).toNat = 10 ^ 59:=rfl
theorem odd_ok {x b:Int} {Q:KD->Prop} (hx:0<=x) (hx2:x < 10 ^ 30) (hb:-10 ^ 30 < b) (hb2:b < 10 ^ 30) (q:∀ d,Sm 91 90 d->Q (.sh,d)):Wp (ψ18 [.int x,.int b]) Q:=by
 unfold ψ18
 refine wd_I rfl ?_
 unfold b18
 walk_at "nm"
 have lim59:(10:Int).natAbs < 2 ^ 64:=by decide
 walk_at "sx"
 refine wm_p (nb_lst (R:=fun ds=>ds.length = 18/\∀ d ∈ ds,Sm 91 90 d) ?_ fun ds hds=>⟨⟨rfl,by decide⟩,?_⟩)
 ·have sI:∀ {i:Int},-10 ^ 70 < i->i < 10 ^ 70->Sm 91 90 (.int i):=fun h1 h2=>sm_int h1 h2
  have cl:∀ {d:D},rok 91 d = true->bkD d<=90->Sm 91 90 d:=fun h1 h2=>⟨h1,h2⟩
  have key:Wp (evIs Γ_17.fn (.cons (.lit (.bl true)) (.cons (.lit (.bl false)) (.cons (.lit .non) (.cons (.lit (.str "")) (.cons (.lit (.str "0")) (.cons (.lst (.own [] .fz) .nil) (.cons (.tup .fz .nil) (.cons (.lst (.own [] .fz) (.cons (.lit (.int 0)) .nil)) (.cons (.tup .fz (.cons (.lit (.int 0)) (.cons (.lit (.int 0)) .nil))) (.cons (.dnew 0) (.cons (.neg (.lit (.int 1))) (.cons (.var 1) (.cons (.bin .Sub (.var 1) (.lit (.int 1))) (.cons (.bin .Add (.var 1) (.lit (.int 1))) (.cons (.bin .Add (.bin .Pow (.lit (.int 10)) (.lit (.int 59))) (.var 0)) (.cons (.lit (.int 0)) (.cons (.lit (.int 1)) (.cons (.lit (.int 2)) .nil)))))))))))))))))) [some ⟨false,.fz,.int x⟩,some ⟨false,.fz,.int b⟩,none]) (All 18 (Sm 91 90)):=by
   refine es_cons (nbl (cl (by decide +kernel) (by decide +kernel))) (es_cons (nbl (cl (by decide +kernel) (by decide +kernel))) (es_cons (nbl (cl (by decide +kernel) (by decide +kernel))) (es_cons (nbl (cl (by decide +kernel) (by decide +kernel))) (es_cons (nbl (cl (by decide +kernel) (by decide +kernel))) ?_))))
   refine es_cons (we_lst (ws_nil (wr_lst (r:=(.fr k0,.lst [])) rfl ⟨rfl,cl (by decide +kernel) (by decide +kernel)⟩))) ?_
   refine es_cons (we_tup (ws_nil (wr_tup (r:=(.sh,.tup [])) rfl ⟨rfl,cl (by decide +kernel) (by decide +kernel)⟩))) ?_
   refine es_cons (we_lst (ws_cons (we_lit (ws_nil (wr_lst (r:=(.fr k0,.lst [.int 0])) rfl ⟨rfl,cl (by decide +kernel) (by decide +kernel)⟩))))) ?_
   refine es_cons (we_tup (ws_cons (we_lit (ws_cons (we_lit (ws_nil (wr_tup (r:=(.sh,.tup [.int 0,.int 0])) rfl ⟨rfl,cl (by decide +kernel) (by decide +kernel)⟩))))))) ?_
   refine es_cons (we_dnew0 ⟨rfl,cl (by decide +kernel) (by decide +kernel)⟩) ?_
   refine es_cons (we_neg (we_lit rfl) ⟨rfl,cl (by decide +kernel) (by decide +kernel)⟩) ?_
   refine es_cons (we_var rfl ⟨rfl,sI (by omega) (by omega)⟩) ?_
   refine es_cons (we_bin (we_var rfl (we_lit (wb_sub ⟨rfl,sI (by omega) (by omega)⟩)))) ?_
   refine es_cons (we_bin (we_var rfl (we_lit (wb_add ⟨rfl,sI (by omega) (by omega)⟩)))) ?_
   refine es_cons (we_bin (we_bin (we_lit (we_lit (wb_pow ⟨by decide,by decide,lim59⟩ (we_var rfl (wb_add ⟨rfl,sI (by rw [pow59]; omega) (by rw [pow59]; omega)⟩))))))) ?_
   exact es_cons (nbl (cl (by decide +kernel) (by decide +kernel))) (es_cons (nbl (cl (by decide +kernel) (by decide +kernel))) (es_cons (nbl (cl (by decide +kernel) (by decide +kernel))) es_nil))
  refine key.mono fun kds hk=>⟨fun p hp=>(hk.2 p hp).1,by rw [hk.1]; decide,by rw [List.length_map,hk.1],fun d hd=>?_⟩
  obtain ⟨p,hp,rfl⟩:=List.mem_map.mp hd
  exact (hk.2 p hp).2
 walk_at "nm"
 walk_at "sx"
 have cl:∀ {d:D},rok 91 d = true->bkD d<=90->Sm 91 90 d:=fun h1 h2=>⟨h1,h2⟩
 refine wm_p (we_ix (we_bin (we_var rfl (we_lst ?_))))
 refine ws_cons (we_fn (φ:=ψ17) rfl (ws_nil (wf_fn ⟨_,deep_run,rfl,.inl rfl,?_⟩)))
 refine ws_cons (we_tup (ws_cons (we_lit (ws_nil (wr_tup (r:=(.sh,.tup [.int 0])) rfl ?_)))))
 refine ws_cons (we_tup (ws_cons (we_lit (ws_cons (we_tup (ws_nil (wr_tup (r:=(.sh,.tup [])) rfl (ws_cons (we_lit (ws_nil (wr_tup (r:=(.sh,.tup [.int 0,.tup [],.int 0])) rfl ?_)))))))))))
 refine ws_cons (we_lst (ws_cons (we_lit (ws_cons (we_lit (ws_nil (wr_lst (r:=(.fr k0,.lst [.int 0,.int 0])) rfl ?_)))))))
 refine ws_cons (we_tup (ws_cons (we_lit (ws_cons (we_tup (ws_nil (wr_tup (r:=(.sh,.tup [])) rfl (ws_nil (wr_tup (r:=(.sh,.tup [.int 1,.tup []])) rfl ?_)))))))))
 refine ws_cons (we_tup (ws_cons (we_lit (ws_cons (we_lst (ws_nil (wr_lst (r:=(.fr k0,.lst [])) rfl (ws_nil (wr_tup (r:=(.sh,.tup [.int 0,.lst []])) rfl ?_)))))))))
 refine ws_nil (wr_lst (r:=(.fr k0,.lst [deepN 90,.tup [.int 0],.tup [.int 0,.tup [],.int 0],.lst [.int 0,.int 0],.tup [.int 1,.tup []],.tup [.int 0,.lst []]])) rfl ?_)
 refine wb_cat ⟨rfl,rfl,by rw [hds.1]; decide⟩ ?_
 refine we_bin (we_var rfl (we_lit (wb_mod (by decide) ?_)))
 have hall:∀ d ∈ ds ++ [deepN 90,.tup [.int 0],.tup [.int 0,.tup [],.int 0],.lst [.int 0,.int 0],.tup [.int 1,.tup []],.tup [.int 0,.lst []]],Sm 91 90 d:=fun d hd=>by
  rcases List.mem_append.mp hd with hd | hd
  ·exact hds.2 d hd
  ·simp only [List.mem_cons,List.not_mem_nil,or_false] at hd
   rcases hd with rfl | rfl | rfl | rfl | rfl | rfl
   ·exact deep_sm
   all_goals exact cl (by decide +kernel) (by decide +kernel)
 generalize hL:ds ++ [deepN 90,.tup [.int 0],.tup [.int 0,.tup [],.int 0],.lst [.int 0,.int 0],.tup [.int 1,.tup []],.tup [.int 0,.lst []]] = L at hall
 have hlen:L.length = 24:=by rw [<- hL,List.length_append,hds.1]; rfl
 have hi:0<=x % 24/\x % 24 < 24:=⟨Int.emod_nonneg _ (by decide),Int.emod_lt_of_pos _ (by decide)⟩
 have hlt:(x % 24).toNat < L.length:=by omega
 refine wx_lst (n:=(x % 24).toNat) (ixN_nat hi.1 (by omega)) (List.getElem?_eq_getElem hlt) ?_
 exact ⟨rfl,od_rt rfl (q _ (hall _ (List.getElem_mem hlt)))⟩
end K33
namespace K33
open PySem L2 J
section
variable {Γ:GG} {N:Nat} {pn:List Nat} {ρ:Ro} {rest:ISs} {R:KD->Prop}
theorem ret_nb {Q:Res->Prop} {e:IE} (hQ:∀ k d,isBo k = false->R (k,d)->Q (.rt k d ρ)) (h:Wp (evI Γ.fn e ρ) fun x=>isBo x.1 = false/\R x):Wp (exB Γ N (.cons (.ret (.p e)) rest) pn ρ) Q:=
 w_ret (wm_p (h.mono fun x hx=>by
  obtain ⟨k,d⟩:=x
  obtain ⟨h1,h2⟩:=hx
  dsimp only at h1
  dsimp only
  rw [nb_im h1]
  exact ⟨h1,hQ k d h1 h2⟩))
end
theorem wl_listT {Q:KD->Prop} {k:Kd} {ds:List D} (h:okE k ds = true) (q:Q (.fr flatO,.lst ds)):Wp (fBlt "list" [(k,.nd .tup ds)]) Q:=⟨_,if_pos h,q⟩
theorem wr_putL {Q:Hd × List D->Prop} {ds:List D} {z:Int} {j:Nat} {x:KD} (hj:ixN ds.length z = some j) (hx:okS x.1 x.2 = true) (q:Q (.lst,ds.set j x.2)):Wp (putD [] .fz .lst ds (.int z) x) Q:=by
 refine ⟨(.lst,ds.set j x.2),?_,q⟩
 show (match ixN ds.length z with | some j=>if fit1 (([]:List Ow).getD j .fz) x = true then some (Hd.lst,ds.set j x.2) else none | none=>none) = _
 rw [hj]
 exact if_pos hx
theorem eqE {xs:List D}:eqD (.lst xs) (.lst []) = xs.isEmpty:=by
 cases xs with
 | nil=>rfl
 | cons p ps=>rfl
theorem pokN {n:Nat} {xs:List D} (h:pokL n xs = true):pok (n + 1) (.lst xs) = true:=by
 show (decide (1<=n + 1) && pokL (n + 1 - 1) xs) = true
 rw [decide_eq_true (by omega),Nat.add_sub_cancel,h]; rfl
theorem put_ok {hd:Hd} {xs:List D} {at_:Int} {t:D} {n w v:Nat} {Q:KD->Prop} (hh:hd = .tup\/hd = .lst) (hp:pokL 89 xs = true) (h0:0<=at_) (hx:SmL n w xs) (ht:Sm n v t) (q:∀ ys k,isBo k = false->SmL n (w + v + 1) ys->Q (k,.nd hd ys)):Wp (ψ19 [.nd hd xs,.int at_,t]) Q:=by
 unfold ψ19
 refine wd_I rfl ?_
 unfold b19
 walk_at "nm"
 have hl:Wp (evI Γ_18.fn (.blt "list" (.cons (.var 0) .nil)) [some ⟨false,.fz,.nd hd xs⟩,some ⟨false,.fz,.int at_⟩,some ⟨false,.fz,t⟩,none]) fun x=>x = (.fr flatO,.lst xs):=by
  rcases hh with rfl | rfl
  ·exact we_blt (ws_cons (we_var rfl (ws_nil (wl_listT rfl rfl))))
  ·exact we_blt (ws_cons (we_var rfl (ws_nil (wl_list rfl rfl))))
 walk_at "sx"
 refine wm_p (hl.mono fun x hx=>?_)
 subst hx
 refine ⟨⟨rfl,by decide⟩,?_⟩
 walk_at "nm"
 have fin:∀ ys,SmL n (w + v + 1) ys->Wp (exB Γ_18 1000 (.cons (.ifs (.p (.isi "tuple" (.var 0))) (.cons (.ret (.p (.blt "tuple" (.cons (.var 3) .nil)))) .nil) .nil) (.cons (.ret (.mv 3)) .nil)) [] [some ⟨false,.fz,.nd hd xs⟩,some ⟨false,.fz,.int at_⟩,some ⟨false,.fz,t⟩,some ⟨false,k0,.lst ys⟩]) fun r=>Wp (oDef (some r)) Q:=fun ys hy=>by
  rcases hh with rfl | rfl
  ·refine if_et (z:=true) (.ev rfl (we_isi (we_var rfl ⟨true,rfl,rfl⟩))) (fun _=>?_) fun e=>by cases e
   refine ret_nb (R:=Q) (fun k d h1 h2=>od_rt h1 h2) (we_blt (ws_cons (we_var rfl (ws_nil (wl_tuple rfl ⟨rfl,q ys .sh rfl hy⟩)))))
  ·refine if_et (z:=false) (.ev rfl (we_isi (we_var rfl ⟨false,rfl,rfl⟩))) (fun e=>by cases e) fun _=>kt_go ?_
   refine w_ret (wm_mv rfl ⟨rfl,?_⟩)
   exact od_rt rfl (q ys (.fr k0) rfl hy)
 refine if_et (z:=xs.isEmpty) (wt_cmp (we_var rfl (we_lst (ws_nil (wr_lst (r:=(.fr k0,.lst [])) rfl (wc_eqD ⟨pokN hp,rfl⟩ eqE)))))) (fun e=>?_) fun e=>?_
 ·walk_at "sx"
  refine wm_p (we_lst (ws_cons (we_var rfl (ws_nil (wr_lst (r:=(.fr k0,.lst [t])) rfl ⟨⟨rfl,by decide⟩,?_⟩)))))
  walk_at "nm"
  refine w_nil (kt_nx ?_)
  exact fin [t] ((smL_cons ht (smL_nil (w:=0))).mono (Nat.le_refl _) (by omega))
 ·have hne:0 < xs.length:=by
   cases xs with
   | nil=>cases e
   | cons a b=>exact Nat.succ_pos _
  have hm:0<=at_ % (xs.length:Int)/\at_ % (xs.length:Int) < xs.length:=⟨Int.emod_nonneg _ (by omega),Int.emod_lt_of_pos _ (by omega)⟩
  walk_at "sx"
  refine wm_p (we_var rfl ?_)
  refine wr_P rfl ?_
  refine we_bin (we_var rfl (we_blt (ws_cons (we_var rfl (ws_nil (wl_lenL (wb_mod (by omega) ?_)))))))
  refine put_of rfl rfl rfl ?_
  refine wr_putL (ixN_nat hm.1 hm.2) rfl ?_
  walk_at "nm"
  refine w_nil (kt_nx ?_)
  exact fin _ ((smL_set hx ht).mono (Nat.le_refl _) (by omega))
end K33
namespace K33
open PySem L2 J
noncomputable def Lo (x:Int):Prop:=-10 ^ 20 < x/\x < 10 ^ 20
noncomputable def PartOk (p:D):Prop:=(∃ o,p = .int o)\/(∃ m:Int × Int,p = mD m/\Lo m.1/\Lo m.2)\/∃ g:Int × List Int,p = gD g/\Lo g.1/\g.2.length<=3/\∀ x ∈ g.2,Lo x
theorem mod_ix {Γ:Nat->Option Fn} {ρ:Ro} {a:IE} {i m:Int} (hm:0 < m) (ha:Wp (evI Γ a ρ) fun x=>x.2 = .int i):Wp (evI Γ (.bin .Mod a (.lit (.int m))) ρ) fun x=>x.2 = .int (i % m):=by
 refine we_bin (ha.mono fun x hx=>we_lit ?_)
 obtain ⟨k,d⟩:=x
 cases (show d = _ from hx)
 exact wb_mod hm rfl
theorem sub_mod {Γ:Nat->Option Fn} {ρ:Ro} {a:IE} {i:Int} {m:Nat} (hm:0 < m) (ha:Wp (evI Γ a ρ) fun x=>x.2 = .int i):Wp (evI Γ (.bin .Mod a (.lit (.int m))) ρ) fun x=>∃ i:Int,x.2 = .int i/\0<=i/\i < m:=(mod_ix (by omega) ha).mono fun x hx=>⟨_,hx,Int.emod_nonneg _ (by omega),Int.emod_lt_of_pos _ (by omega)⟩
theorem ix_iL {Γ:Nat->Option Fn} {ρ:Ro} {a:IE} {xs:List Int} {x:Int} {i:Nat} (ha:Wp (evI Γ a ρ) fun y=>y = (.sh,.lst (iL xs))) (hi:xs[i]? = some x):Wp (evI Γ (.ix a (.lit (.int i))) ρ) fun y=>y = (.sh,.int x):=by
 refine we_ix (ha.mono fun y hy=>we_lit ?_)
 subst hy
 have hl:=(List.getElem?_eq_some_iff.mp hi).1
 exact wx_lst (n:=i) (by rw [ixN_nat (by omega) (by rw [List.length_map]; omega)]; rfl) (by rw [List.getElem?_map,hi]; rfl) rfl
theorem wb_catT {Q:KD->Prop} {k k':Kd} {xs ys:List D} (h:okE k xs = true/\okE k' ys = true/\xs.length + ys.length<=100000) (q:Q (.sh,.tup (xs ++ ys))):Wp (binD .Add (k,.tup xs) (k',.tup ys)) Q:=⟨_,if_pos h,q⟩
theorem wsl_t {k:Kd} {xs:List D} {lo hi:Option Int} {Q:KD->Prop} (h:okE k xs = true) (q:Q (.sh,.tup (cutD xs lo hi))):Wp (oSl (some (k,.nd .tup xs)) (some lo) (some hi)) Q:=⟨_,if_pos h,q⟩
theorem wsl {k:Kd} {xs:List D} {lo hi:Option Int} {Q:KD->Prop} (h:okE k xs = true) (q:Q (.fr flatO,.lst (cutD xs lo hi))):Wp (oSl (some (k,.nd .lst xs)) (some lo) (some hi)) Q:=⟨_,if_pos h,q⟩
theorem odd_at {Γ:Nat->Option Fn} {ρ:Ro} {a b:IE} {x c:Int} {Q:KD->Prop} (hΓ:Γ 18 = some ψ18) (hx:0<=x) (hx2:x < 10 ^ 30) (hc:-10 ^ 30 < c) (hc2:c < 10 ^ 30) (ha:Wp (evI Γ a ρ) fun y=>y = (.sh,.int x)) (hb:Wp (evI Γ b ρ) fun y=>y = (.sh,.int c)) (q:∀ d,Sm 91 90 d->Q (.sh,d)):Wp (evI Γ (.fn 18 (.cons a (.cons b .nil))) ρ) Q:=by
 refine we_fn hΓ (ws_cons (ha.mono fun y hy=>ws_cons (hb.mono fun z hz=>ws_nil (wf_fn ?_))))
 subst hy hz
 obtain ⟨r,e,hr⟩:=odd_ok (Q:=fun r=>∃ d,Sm 91 90 d/\r = (.sh,d)) hx hx2 hc hc2 fun d hd=>⟨d,hd,rfl⟩
 obtain ⟨d,hd,rfl⟩:=hr
 exact ⟨_,e,rfl,.inl rfl,q d hd⟩
theorem sm_mD {m:Int × Int} (h1:Lo m.1) (h2:Lo m.2):SmL 1 4 [.int m.1,.int m.2]:=by
 have a:=h1; have b:=h2
 unfold Lo at a b
 exact (smL_cons (sm_int (w:=0) (by omega) (by omega)) (smL_cons (sm_int (w:=0) (by omega) (by omega)) (smL_nil (w:=0)))).mono (Nat.le_refl _) (by decide)
theorem part_ok {c:Cc} {p:D} {nu:Int} {x0 x1 x2:Int} {Q:KD->Prop} (hc:c.Ok) (hp:PartOk p) (hn:0<=nu) (hn2:nu<=1000) (h0:0<=x0) (h0':x0 < 10 ^ 30) (h2:0<=x2) (q:∀ d k,isBo k = false->Sm 93 200 d->Q (k,d)):Wp (ψ20 [p,.int nu,c.d,.lst (iL [x0,x1,x2])]) Q:=by
 have i0:=hc.i0; have i1:=hc.i1; have m1:=hc.m1; have g1:=hc.g1
 unfold ψ20 Cc.d
 refine wd_I rfl ?_
 unfold b20
 walk_at "nm"
 have v2:∀ {Γ:Nat->Option Fn} {x y z w:Option Sl},Wp (evI Γ (.var 2) [x,y,some ⟨false,.fz,.tup [.int c.ins,.lst (c.ms.map mD),.lst (c.gl.map gD),.lst (iL c.os)]⟩,z,w]) fun x=>x = (.sh,.tup [.int c.ins,.lst (c.ms.map mD),.lst (c.gl.map gD),.lst (iL c.os)]):=we_var rfl rfl
 walk_at "sx"
 refine wm_p (we_lst (ws_cons (we_bin (we_bin ((ix_tupS (i:=0) v2 rfl).mono fun x hx=>(len_at (ds:=c.ms.map mD) (.inr rfl) (toD (ix_tupS (i:=1) v2 rfl))).mono fun y hy=>?_)))))
 subst hx hy
 refine wb_add ((len_at (ds:=c.gl.map gD) (.inr rfl) (toD (ix_tupS (i:=2) v2 rfl))).mono fun y hy=>?_)
 subst hy
 refine wb_add (ws_cons (we_bin (we_bin ((ix_tupS (i:=0) v2 rfl).mono fun x hx=>(len_at (ds:=c.ms.map mD) (.inr rfl) (toD (ix_tupS (i:=1) v2 rfl))).mono fun y hy=>?_))))
 subst hx hy
 refine wb_add (we_var rfl (wb_add ?_))
 rw [List.length_map,List.length_map]
 refine ws_nil (wr_lst (r:=(.fr k0,.lst [.int (c.ins + c.ms.length + c.gl.length),.int (c.ins + c.ms.length + nu)])) rfl ⟨⟨rfl,by decide⟩,?_⟩)
 walk_at "nm"
 generalize hB0:(c.ins + c.ms.length + c.gl.length:Int) = B0
 generalize hB1:(c.ins + c.ms.length + nu:Int) = B1
 have b0:-10 ^ 30 < B0/\B0 < 10 ^ 30:=by omega
 have b1:-10 ^ 30 < B1/\B1 < 10 ^ 30:=by omega
 generalize D.tup [.int c.ins,.lst (c.ms.map mD),.lst (c.gl.map gD),.lst (iL c.os)] = cd at *
 have v3:∀ {Γ:Nat->Option Fn} {x y z w:Option Sl},Wp (evI Γ (.var 3) [x,y,z,some ⟨false,.fz,.lst [.int x0,.int x1,.int x2]⟩,w]) fun x=>x = (.sh,.lst (iL [x0,x1,x2])):=we_var rfl rfl
 have v40:∀ {Γ:Nat->Option Fn} {x y z w:Option Sl},Wp (evI Γ (.ix (.var 4) (.lit (.int 0))) [x,y,z,w,some ⟨false,k0,.lst [.int B0,.int B1]⟩]) fun x=>x = (.sh,.int B0):=we_ix (we_var rfl (we_lit (wx_lst (n:=0) rfl rfl rfl)))
 have v41:∀ {Γ:Nat->Option Fn} {x y z w:Option Sl},Wp (evI Γ (.ix (.var 4) (.lit (.int 1))) [x,y,z,w,some ⟨false,k0,.lst [.int B0,.int B1]⟩]) fun x=>x = (.sh,.int B1):=we_ix (we_var rfl (we_lit (wx_lst (n:=1) rfl rfl rfl)))
 have tst:∀ {Γ:Nat->Option Fn} {x y z w:Option Sl} (r:Int),Et Γ (.cmp .Eq (.bin .Mod (.ix (.var 3) (.lit (.int 1))) (.lit (.int 4))) (.lit (.int r))) [x,y,z,some ⟨false,.fz,.lst [.int x0,.int x1,.int x2]⟩,w] (decide (x1 % 4 = r)):=fun r=>et_eq (mod_ix (by decide) (toD (ix_iL (i:=1) v3 rfl))) (we_lit rfl)
 have pk:∀ {Γ:Nat->Option Fn} {x y z w:Option Sl},Wp (evI Γ (.bin .Mod (.ix (.var 3) (.lit (.int 2))) (.lit (.int 4))) [x,y,z,some ⟨false,.fz,.lst [.int x0,.int x1,.int x2]⟩,w]) fun x=>∃ i:Int,x.2 = .int i/\0<=i/\i < (4:Nat):=sub_mod (m:=4) (by decide) (toD (ix_iL (i:=2) v3 rfl))
 have q91:∀ d k,isBo k = false->Sm 91 90 d->Q (k,d):=fun d k hk hd=>q d k hk (hd.mono (by decide) (by decide))
 rcases hp with ⟨o,rfl⟩ | ⟨m,rfl,l1,l2⟩ | ⟨g,rfl,l1,l2,l3⟩
 ·refine if_et (z:=true) (.not (z:=false) (.ev rfl (we_isi (we_var rfl ⟨false,rfl,rfl⟩)))) (fun _=>?_) fun e=>by cases e
  exact ret_nb (R:=Q) (fun k d h1 h2=>od_rt h1 h2) (odd_at rfl h0 h0' b0.1 b0.2 (ix_iL (i:=0) v3 rfl) v40 fun d hd=>⟨rfl,q91 d .sh rfl hd⟩)
 ·unfold mD
  have v0:∀ {Γ:Nat->Option Fn} {x y z w:Option Sl},Wp (evI Γ (.var 0) [some ⟨false,.fz,.tup [.int m.1,.int m.2]⟩,x,y,z,w]) fun x=>x = (.sh,.tup [.int m.1,.int m.2]):=we_var rfl rfl
  have sm:=sm_mD l1 l2
  refine if_et (z:=false) (.not (z:=true) (.ev rfl (we_isi (we_var rfl ⟨true,rfl,rfl⟩)))) (fun e=>by cases e) fun _=>kt_go ?_
  refine if_et (tst 0) (fun _=>?_) fun _=>kt_go ?_
  ·exact ret_nb (R:=Q) (fun k d h1 h2=>od_rt h1 h2) (odd_at rfl h0 h0' b0.1 b0.2 (ix_iL (i:=0) v3 rfl) v40 fun d hd=>⟨rfl,q91 d .sh rfl hd⟩)
  refine if_et (z:=false) (.ev rfl (we_isi ((ix_tupS (i:=1) v0 rfl).mono fun x hx=>by subst hx; exact ⟨false,rfl,rfl⟩))) (fun e=>by cases e) fun _=>kt_go ?_
  have u:Lo m.1/\Lo m.2:=⟨l1,l2⟩
  unfold Lo at u
  refine if_et (tst 1) (fun _=>?_) fun _=>kt_go ?_
  ·refine ret_nb (R:=Q) (fun k d h1 h2=>od_rt h1 h2) (we_tup (ws_cons (odd_at rfl h0 h0' (c:=2) (by decide) (by decide) (ix_iL (i:=0) v3 rfl) (we_lit rfl) fun d hd=>?_)))
   refine ws_cons ((ix_tupS (i:=1) v0 rfl).mono fun x hx=>ws_nil ?_)
   subst hx
   refine wr_tup (r:=(.sh,.tup [d,.int m.2])) rfl ⟨rfl,q _ _ rfl ?_⟩
   exact (sm_tup (smL_cons hd (smL_cons (sm_int (w:=0) (by omega) (by omega)) (smL_nil (w:=0))))).mono (by decide) (by decide)
  refine if_et (tst 2) (fun _=>?_) fun _=>kt_go ?_
  ·refine ret_nb (R:=Q) (fun k d h1 h2=>od_rt h1 h2) (we_tup (ws_cons ((ix_tupS (i:=0) v0 rfl).mono fun x hx=>?_)))
   subst hx
   refine ws_cons (odd_at rfl h0 h0' b0.1 b0.2 (ix_iL (i:=0) v3 rfl) v40 fun d hd=>?_)
   refine ws_nil (wr_tup (r:=(.sh,.tup [.int m.1,d])) rfl ⟨rfl,q _ _ rfl ?_⟩)
   exact (sm_tup (smL_cons (sm_int (w:=0) (by omega) (by omega)) (smL_cons hd (smL_nil (w:=0))))).mono (by decide) (by decide)
  refine ret_nb (R:=Q) (fun k d h1 h2=>od_rt h1 h2) (pick_disp (P:=Sm 93 200) (m:=4) ?_ pk (by decide) fun d hd=>⟨rfl,q d .sh rfl hd⟩)
  refine es_cons (we_blt (ws_cons (v0.mono fun x hx=>ws_nil ?_))) (es_cons (we_bin (v0.mono fun x hx=>we_tup (ws_cons (we_lit (ws_nil (wr_tup (r:=(.sh,.tup [.int 0])) rfl ?_)))))) (es_cons (we_sl (v0.mono fun x hx=>wo_non (wo_som (we_lit ⟨1,rfl,?_⟩)))) (es_cons (we_tup (ws_cons ((ix_tupS (i:=1) v0 rfl).mono fun x hx=>ws_cons ((ix_tupS (i:=0) v0 rfl).mono fun y hy=>ws_nil ?_)))) es_nil)))
  ·subst hx
   exact wl_listT rfl ⟨rfl,(sm_lst sm).mono (by decide) (by decide)⟩
  ·subst hx
   exact wb_catT ⟨rfl,rfl,by simp⟩ ⟨rfl,(sm_tup (smL_app sm (smL_cons (sm_int (i:=0) (w:=0) (by decide) (by decide)) (smL_nil (w:=0))))).mono (by decide) (by decide)⟩
  ·subst hx
   exact wsl_t rfl ⟨rfl,(sm_tup (smL_cut sm)).mono (by decide) (by decide)⟩
  ·subst hx hy
   refine wr_tup (r:=(.sh,.tup [.int m.2,.int m.1])) rfl ⟨rfl,?_⟩
   exact (sm_tup (sm_mD (m:=(m.2,m.1)) l2 l1)).mono (by decide) (by decide)
 ·unfold gD
  have v0:∀ {Γ:Nat->Option Fn} {x y z w:Option Sl},Wp (evI Γ (.var 0) [some ⟨false,.fz,.tup [.int g.1,.tup (iL g.2)]⟩,x,y,z,w]) fun x=>x = (.sh,.tup [.int g.1,.tup (iL g.2)]):=we_var rfl rfl
  have u:=l1
  unfold Lo at u
  have sp:SmL 1 3 (iL g.2):=(smL_ints fun x hx=>by have:=l3 x hx; unfold Lo at this; omega).mono (Nat.le_refl _) l2
  have s1:∀ {n w:Nat},Sm n w (.int g.1):=sm_int (by omega) (by omega)
  refine if_et (z:=false) (.not (z:=true) (.ev rfl (we_isi (we_var rfl ⟨true,rfl,rfl⟩)))) (fun e=>by cases e) fun _=>kt_go ?_
  refine if_et (tst 0) (fun _=>?_) fun _=>kt_go ?_
  ·exact ret_nb (R:=Q) (fun k d h1 h2=>od_rt h1 h2) (odd_at rfl h0 h0' b0.1 b0.2 (ix_iL (i:=0) v3 rfl) v40 fun d hd=>⟨rfl,q91 d .sh rfl hd⟩)
  refine if_et (z:=true) (.ev rfl (we_isi ((ix_tupS (i:=1) v0 rfl).mono fun x hx=>by subst hx; exact ⟨true,rfl,rfl⟩))) (fun _=>?_) fun e=>by cases e
  refine if_et (tst 1) (fun _=>?_) fun _=>kt_go ?_
  ·have p4:=pw_at (Γ:=Γ_19.fn) (ρ:=[some ⟨false,.fz,.tup [.int g.1,.tup (iL g.2)]⟩,some ⟨false,.fz,.int nu⟩,some ⟨false,.fz,cd⟩,some ⟨false,.fz,.lst [.int x0,.int x1,.int x2]⟩,some ⟨false,k0,.lst [.int B0,.int B1]⟩]) (k:=(iL g.2).length) (by rw [List.length_map]; exact l2) (len_at (ds:=iL g.2) (.inl rfl) (toD (ix_tupS (i:=1) v0 rfl)))
   have hw:-10 ^ 30 < ((2 ^ 2 ^ (iL g.2).length:Nat):Int)/\((2 ^ 2 ^ (iL g.2).length:Nat):Int) < 10 ^ 30:=by
    rw [List.length_map]
    have:g.2.length = 0\/g.2.length = 1\/g.2.length = 2\/g.2.length = 3:=by omega
    rcases this with h | h | h | h <;> rw [h] <;> decide
   refine ret_nb (R:=Q) (fun k d h1 h2=>od_rt h1 h2) (we_tup (ws_cons (odd_at rfl h0 h0' hw.1 hw.2 (ix_iL (i:=0) v3 rfl) p4 fun d hd=>?_)))
   refine ws_cons ((ix_tupS (i:=1) v0 rfl).mono fun x hx=>ws_nil ?_)
   subst hx
   refine wr_tup (r:=(.sh,.tup [d,.tup (iL g.2)])) rfl ⟨rfl,q _ _ rfl ?_⟩
   exact (sm_tup (smL_cons hd (smL_cons ((sm_tup sp).mono (by decide) (Nat.le_refl _)) (smL_nil (w:=0))))).mono (by decide) (by decide)
  refine if_et (tst 2) (fun _=>?_) fun _=>kt_go ?_
  ·refine ret_nb (R:=Q) (fun k d h1 h2=>od_rt h1 h2) (we_tup (ws_cons ((ix_tupS (i:=0) v0 rfl).mono fun x hx=>?_)))
   subst hx
   refine ws_cons (we_fn (φ:=ψ19) rfl (ws_cons ((ix_tupS (i:=1) v0 rfl).mono fun x hx=>ws_cons ((ix_iL (i:=2) v3 rfl).mono fun y hy=>?_))))
   refine ws_cons (odd_at rfl h0 h0' b1.1 b1.2 (ix_iL (i:=0) v3 rfl) v41 fun d hd=>ws_nil (wf_fn ?_))
   subst hx hy
   refine put_ok (hd:=.tup) (xs:=iL g.2) (n:=91) (w:=3) (v:=90) (.inl rfl) (pok_iL _) h2 (sp.mono (by decide) (Nat.le_refl _)) hd fun ys k hk hy=>⟨hk,.inl rfl,ws_nil ?_⟩
   refine ⟨_,oTup_ok (fun p hp=>?_) (by simp),rfl,q _ _ rfl ?_⟩
   ·simp only [List.mem_cons,List.not_mem_nil,or_false] at hp
    rcases hp with rfl | rfl
    ·rfl
    ·exact hk
   ·exact (sm_tup (smL_cons (s1 (n:=92) (w:=0)) (smL_cons (sm_tup hy) (smL_nil (w:=0))))).mono (by decide) (by decide)
  refine ret_nb (R:=Q) (fun k d h1 h2=>od_rt h1 h2) (we_tup (ws_cons ((ix_tupS (i:=0) v0 rfl).mono fun x hx=>?_)))
  subst hx
  refine ws_cons (pick_disp (P:=Sm 91 10) (m:=4) ?_ pk (by decide) fun d hd=>ws_nil ?_)
  ·refine es_cons (we_blt (ws_cons ((ix_tupS (i:=1) v0 rfl).mono fun x hx=>ws_nil ?_))) (es_cons (we_bin ((ix_tupS (i:=1) v0 rfl).mono fun x hx=>we_tup (ws_cons (we_lit (ws_nil (wr_tup (r:=(.sh,.tup [.int 0])) rfl ?_)))))) (es_cons (we_sl ((ix_tupS (i:=1) v0 rfl).mono fun x hx=>wo_som (we_lit ⟨1,rfl,wo_non ?_⟩))) (es_cons (nbl ⟨rfl,by decide⟩) es_nil)))
   ·subst hx
    exact wl_listT rfl ⟨rfl,(sm_lst sp).mono (by decide) (by decide)⟩
   ·subst hx
    exact wb_catT ⟨rfl,rfl,by rw [List.length_map]; simp; omega⟩ ⟨rfl,(sm_tup (smL_app sp (smL_cons (sm_int (i:=0) (w:=0) (by decide) (by decide)) (smL_nil (w:=0))))).mono (by decide) (by decide)⟩
   ·subst hx
    exact wsl_t rfl ⟨rfl,(sm_tup (smL_cut sp)).mono (by decide) (by decide)⟩
  ·refine wr_tup (r:=(.sh,.tup [.int g.1,d])) rfl ⟨rfl,q _ _ rfl ?_⟩
   exact (sm_tup (smL_cons (s1 (n:=91) (w:=0)) (smL_cons hd (smL_nil (w:=0))))).mono (by decide) (by decide)
end K33
namespace K33
open PySem L2 J
noncomputable def Cc.ps (c:Cc):List D:=[.int c.ins,.lst (c.ms.map mD),.lst (c.gl.map gD),.lst (iL c.os)]
structure RowOk (xs:List D):Prop where
 pk:pokL 89 xs = true
 sm:SmL 2 600 xs
 pt:∀ p ∈ xs,PartOk p
 ln:xs.length<=1000
theorem row_ms {c:Cc} (hc:c.Ok):RowOk (c.ms.map mD):=by
 have i1:=hc.i1; have m1:=hc.m1; have g1:=hc.g1; have i0:=hc.i0
 have lo:∀ m ∈ c.ms,Lo m.1/\Lo m.2:=fun m hm=>by
  obtain ⟨h1,h2,h3⟩:=hc.mb m hm
  unfold Lo
  omega
 refine ⟨pok_ms (by decide) _,?_,fun p hp=>?_,by rw [List.length_map]; omega⟩
 ·refine (smL_map (v:=4) fun m hm=>?_).mono (n:=2) (Nat.le_refl _) (by omega)
  exact sm_tup (sm_mD (lo m hm).1 (lo m hm).2)
 ·obtain ⟨m,hm,rfl⟩:=List.mem_map.mp hp
  exact .inr (.inl ⟨m,rfl,lo m hm⟩)
theorem row_gl {c:Cc} (hc:c.Ok):RowOk (c.gl.map gD):=by
 have i1:=hc.i1; have m1:=hc.m1; have g1:=hc.g1; have i0:=hc.i0
 have lo:∀ g ∈ c.gl,Lo g.1/\g.2.length<=3/\∀ x ∈ g.2,Lo x:=fun g hg=>by
  obtain ⟨k,hk,rfl⟩:=List.getElem_of_mem hg
  obtain ⟨h1,h2⟩:=hc.gp k _ (List.getElem?_eq_getElem hk)
  obtain ⟨h3,h4⟩:=hc.tb _ hg
  refine ⟨?_,h1,fun x hx=>?_⟩
  ·generalize c.gl[k].2.length = l at h1 h4
   have:((2 ^ 2 ^ l:Nat):Int)<=256:=by
    have:l = 0\/l = 1\/l = 2\/l = 3:=by omega
    rcases this with rfl | rfl | rfl | rfl <;> decide
   unfold Lo
   omega
  ·have:=h2 x hx
   unfold Lo
   omega
 refine ⟨pok_gates (by decide) _,?_,fun p hp=>?_,by rw [List.length_map]; omega⟩
 ·refine (smL_map (v:=5) fun g hg=>?_).mono (n:=2) (Nat.le_refl _) (by omega)
  obtain ⟨l1,l2,l3⟩:=lo g hg
  have u:=l1
  unfold Lo at u
  have sp:SmL 0 3 (iL g.2):=(smL_ints fun x hx=>by have:=l3 x hx; unfold Lo at this; omega).mono (Nat.le_refl _) l2
  exact sm_tup ((smL_cons (sm_int (w:=0) (by omega) (by omega)) (smL_cons (sm_tup sp) (smL_nil (w:=0)))).mono (Nat.le_refl _) (by decide))
 ·obtain ⟨g,hg,rfl⟩:=List.mem_map.mp hp
  exact .inr (.inr ⟨g,rfl,lo g hg⟩)
theorem row_os {c:Cc} (hc:c.Ok):RowOk (iL c.os):=by
 have i1:=hc.i1; have m1:=hc.m1; have g1:=hc.g1; have i0:=hc.i0; have o1:=hc.o1
 refine ⟨pok_iL _,?_,fun p hp=>?_,by rw [List.length_map]; omega⟩
 ·exact (smL_ints fun x hx=>by have:=hc.ob x hx; omega).mono (Nat.le_refl _) (by omega)
 ·obtain ⟨g,hg,rfl⟩:=List.mem_map.mp hp
  exact .inl ⟨g,rfl⟩
theorem row_at {c:Cc} (hc:c.Ok) {j:Nat} (h1:1<=j) (h2:j<=3):∃ xs,c.ps[j]? = some (.lst xs)/\RowOk xs:=by
 have:j = 1\/j = 2\/j = 3:=by omega
 rcases this with rfl | rfl | rfl
 ·exact ⟨_,rfl,row_ms hc⟩
 ·exact ⟨_,rfl,row_gl hc⟩
 ·exact ⟨_,rfl,row_os hc⟩
theorem ps_sm {c:Cc} (hc:c.Ok):SmL 3 2000 c.ps:=by
 have i1:=hc.i1; have i0:=hc.i0
 exact (smL_cons (sm_int (w:=0) (by omega) (by omega)) (smL_cons (sm_lst (row_ms hc).sm) (smL_cons (sm_lst (row_gl hc).sm) (smL_cons (sm_lst (row_os hc).sm) (smL_nil (w:=0)))))).mono (Nat.le_refl _) (by decide)
theorem we_rev {Γ:Nat->Option Fn} {ρ:Ro} {a b:IE} {Q:KD->Prop} (h:Wp (evI Γ a ρ) fun x=>Wp (evI Γ b ρ) fun y=>Wp (oRev (some x) (some y)) Q):Wp (evI Γ (.rev a b) ρ) Q:=by
 obtain ⟨x,ex,y,ey,z,ez,q⟩:=h
 exact ⟨z,by rw [evI,ex,ey]; exact ez,q⟩
theorem wrev {k k':Kd} {xs:List D} {Q:KD->Prop} (h:okE k xs = true) (q:Q (.fr flatO,.lst xs.reverse)):Wp (oRev (some (k,.nd .lst xs)) (some (k',.int (-1)))) Q:=⟨_,if_pos ⟨rfl,h⟩,q⟩
theorem mod_ixS {Γ:Nat->Option Fn} {ρ:Ro} {a:IE} {i m:Int} (hm:0 < m) (ha:Wp (evI Γ a ρ) fun x=>x = (.sh,.int i)):Wp (evI Γ (.bin .Mod a (.lit (.int m))) ρ) fun x=>x = (.sh,.int (i % m)):=by
 refine we_bin (ha.mono fun x hx=>we_lit ?_)
 subst hx
 exact wb_mod hm rfl
theorem Et.and {Γ:Nat->Option Fn} {ρ:Ro} {a b:IE} {r:IEs} {z w:Bool} (ha:Et Γ a ρ z) (hb:z = true->Et Γ (.bool .And (.cons b r)) ρ w):Et Γ (.bool .And (.cons a (.cons b r))) ρ (z && w):=by
 refine wt_boolC (ha.mono fun x hx=>?_)
 subst hx
 refine ⟨fun e=>(hb (Eq.symm e)).mono fun y hy=>?_,fun e=>?_⟩
 ·rw [hy,show x = true from Eq.symm e]; rfl
 ·have:x = false:=by cases x with | false=>rfl | true=>exact absurd rfl e
  rw [this]; rfl
theorem spoilt_ok {c:Cc} {z0 z1 z2 z3 z4 z5:Int} {Q:KD->Prop} (hc:c.Ok) (b1:0<=z1/\z1 < 10 ^ 30) (b2:0<=z2/\z2 < 10 ^ 30) (b3:0<=z3/\z3 < 10 ^ 30) (b5:0<=z5/\z5 < 10 ^ 30) (q:∀ d k,isBo k = false->Sm 95 4000 d->Q (k,d)):Wp (ψ21 [c.d,.lst (iL [z0,z1,z2,z3,z4,z5])]) Q:=by
 have i0:=hc.i0; have i1:=hc.i1
 have hps:=ps_sm hc
 have e0:c.d = .tup c.ps:=rfl
 have hp0:c.ps[0]? = some (.int c.ins):=rfl
 have hpl:c.ps.length = 4:=rfl
 unfold ψ21
 refine wd_I rfl ?_
 unfold b21
 show Wp (exB _ _ _ _ [some ⟨false,.fz,.tup c.ps⟩,some ⟨false,.fz,.lst (iL [z0,z1,z2,z3,z4,z5])⟩,none,none,none,none]) _
 have v0:∀ {Γ:Nat->Option Fn} {x1 x2 x3 x4 x5:Option Sl},Wp (evI Γ (.var 0) [some ⟨false,.fz,.tup c.ps⟩,x1,x2,x3,x4,x5]) fun x=>x = (.sh,.tup c.ps):=we_var rfl rfl
 have v1:∀ {Γ:Nat->Option Fn} {x0 x2 x3 x4 x5:Option Sl},Wp (evI Γ (.var 1) [x0,some ⟨false,.fz,.lst (iL [z0,z1,z2,z3,z4,z5])⟩,x2,x3,x4,x5]) fun x=>x = (.sh,.lst (iL [z0,z1,z2,z3,z4,z5])):=we_var rfl rfl
 have v2:∀ {Γ:Nat->Option Fn} {x0 x1 x3 x4 x5:Option Sl} {L:List D},Wp (evI Γ (.var 2) [x0,x1,some ⟨false,k0,.lst L⟩,x3,x4,x5]) fun x=>x = (.bo 2 k0,.lst L):=we_var rfl rfl
 have x2at:∀ {Γ:Nat->Option Fn} {ρ:Ro} {e:IE} {L:List D} {d:D} {j:Nat} {x0 x1 x3 x4 x5:Option Sl},ρ = [x0,x1,some ⟨false,k0,.lst L⟩,x3,x4,x5]->L[j]? = some d->(Wp (evI Γ e ρ) fun x=>x.2 = .int j)->Wp (evI Γ (.ix (.var 2) e) ρ) fun x=>x = (.sh,d):=by
  intro Γ ρ e L d j x0 x1 x3 x4 x5 hρ hj he
  subst hρ
  refine we_ix (v2.mono fun x hx=>he.mono fun y hy=>?_)
  subst hx
  obtain ⟨ky,dy⟩:=y
  cases (show dy = _ from hy)
  have hl:=(List.getElem?_eq_some_iff.mp hj).1
  exact wx_lst (n:=j) (by rw [ixN_nat (by omega) (by omega)]; rfl) hj rfl
 have fin:∀ {Q':Res->Prop} {rest:ISs} {x0 x1 x3 x4 x5:Option Sl} {L:List D},(∀ k d,isBo k = false->Q (k,d)->Q' (.rt k d [x0,x1,some ⟨false,k0,.lst L⟩,x3,x4,x5]))->SmL 94 4000 L->Wp (exB Γ_20 1000 (.cons (.ret (.p (.blt "tuple" (.cons (.var 2) .nil)))) rest) [] [x0,x1,some ⟨false,k0,.lst L⟩,x3,x4,x5]) Q':=by
  intro Q' rest x0 x1 x3 x4 x5 L hQ hL
  refine ret_nb (R:=Q) hQ (we_blt (ws_cons (v2.mono fun x hx=>ws_nil ?_)))
  subst hx
  exact wl_tuple rfl ⟨rfl,q _ _ rfl (sm_tup hL)⟩
 walk_at "sx"
 refine wm_p (we_blt (ws_cons (v0.mono fun x hx=>ws_nil ?_)))
 subst hx
 refine wl_listT rfl ⟨⟨rfl,by decide⟩,?_⟩
 walk_at "nm"
 walk_at "sx"
 refine wm_p ((mod_ixS (m:=8) (by decide) (ix_iL (i:=0) v1 rfl)).mono fun x hx=>?_)
 subst hx
 refine ⟨⟨rfl,by decide⟩,?_⟩
 walk_at "nm"
 have h94:∀ {L:List D} {w:Nat},SmL 3 2000 L->2000<=w->SmL 94 w L:=fun h hw=>h.mono (by decide) hw
 refine if_et (et_eq (i:=z0 % 8) (j:=0) (we_var rfl rfl) (we_lit rfl)) (fun _=>?_) fun _=>kt_go ?_
 ·refine ret_nb (R:=Q) (fun k d h1 h2=>od_rt h1 h2) (pick_disp (P:=Sm 95 4000) (m:=6) ?_ (sub_mod (m:=6) (by decide) (toD (ix_iL (i:=1) v1 rfl))) (by decide) fun d hd=>⟨rfl,q d .sh rfl hd⟩)
  refine es_cons (we_blt (ws_cons (v2.mono fun x hx=>ws_nil ?_))) (es_cons (we_blt (ws_cons (we_sl (v2.mono fun x hx=>wo_non (wo_som (we_lit ⟨3,rfl,?_⟩)))))) (es_cons (we_blt (ws_cons (we_bin (v2.mono fun x hx=>we_lst (ws_cons (we_lst (ws_nil (wr_lst (r:=(.fr k0,.lst [])) rfl (ws_nil (wr_lst (r:=(.fr k0,.lst [.lst []])) rfl ?_)))))))))) (es_cons (nbl ⟨rfl,by decide⟩) (es_cons (nbl ⟨by decide +kernel,by decide +kernel⟩) (es_cons (we_blt (ws_cons (we_rev (v2.mono fun x hx=>we_neg (we_lit rfl) ?_)))) es_nil)))))
  ·subst hx
   exact wl_list rfl ⟨rfl,(sm_lst hps).mono (by decide) (by decide)⟩
  ·subst hx
   refine wsl rfl (ws_nil (wl_tuple rfl ⟨rfl,?_⟩))
   exact (sm_tup (smL_cut hps)).mono (by decide) (by decide)
  ·subst hx
   refine wb_cat ⟨rfl,rfl,by rw [hpl]; decide⟩ (ws_nil (wl_tuple rfl ⟨rfl,?_⟩))
   exact (sm_tup (smL_app hps (smL_cons (v:=0) (sm_lst (n:=2) (w:=0) smL_nil) smL_nil))).mono (by decide) (by decide)
  ·subst hx
   refine wrev rfl (ws_nil (wl_tuple rfl ⟨rfl,?_⟩))
   exact (sm_tup (smL_rev hps)).mono (by decide) (by decide)
 refine if_et (et_eq (i:=z0 % 8) (j:=1) (we_var rfl rfl) (we_lit rfl)) (fun _=>?_) fun _=>kt_go ?_
 ·walk_at "sx"
  refine wm_p (pick_disp (P:=Sm 91 90) (m:=3) ?_ (sub_mod (m:=3) (by decide) (toD (ix_iL (i:=2) v1 rfl))) (by decide) fun d hd=>?_)
  ·refine es_cons (odd_at rfl b1.1 b1.2 (c:=c.ins) (by omega) (by omega) (ix_iL (i:=1) v1 rfl) (ix_tupS (i:=0) v0 hp0) fun d hd=>⟨rfl,hd⟩) (es_cons (we_bin ((ix_tupS (i:=0) v0 hp0).mono fun x hx=>we_lit ?_)) (es_cons (we_bin ((ix_tupS (i:=0) v0 hp0).mono fun x hx=>we_lit ?_)) es_nil))
   ·subst hx
    exact wb_add ⟨rfl,sm_int (by omega) (by omega)⟩
   ·subst hx
    exact wb_sub ⟨rfl,sm_int (by omega) (by omega)⟩
  ·refine wr_P rfl (we_lit (put_of rfl rfl rfl (wr_putL (j:=0) (by rw [hpl]; rfl) rfl ?_)))
   walk_at "nm"
   have hL1:SmL 94 3000 (c.ps.set 0 d):=(smL_set (h94 hps (Nat.le_refl _)) (hd.mono (by decide) (Nat.le_refl _))).mono (Nat.le_refl _) (by decide)
   have hg0:(c.ps.set 0 d)[0]? = some d:=rfl
   generalize c.ps.set 0 d = L1 at hL1 hg0
   have hl1:0 < L1.length:=(List.getElem?_eq_some_iff.mp hg0).1
   have tail:∀ {z:Bool} {Q':Res->Prop},(∀ k d ρ,isBo k = false->Q (k,d)->Q' (.rt k d ρ))->(Et Γ_20.fn (.bool .And (.cons (.fn 9 (.cons (.ix (.var 2) (.lit (.int 0))) .nil)) (.cons (.cmp .Gt (.ix (.var 2) (.lit (.int 0))) (.lit (.int 400))) .nil))) [some ⟨false,.fz,.tup c.ps⟩,some ⟨false,.fz,.lst (iL [z0,z1,z2,z3,z4,z5])⟩,some ⟨false,k0,.lst L1⟩,some ⟨false,.fz,.int (z0 % 8)⟩,none,none] z)->Wp (exB Γ_20 1000 (.cons (.ifs (.p (.bool .And (.cons (.fn 9 (.cons (.ix (.var 2) (.lit (.int 0))) .nil)) (.cons (.cmp .Gt (.ix (.var 2) (.lit (.int 0))) (.lit (.int 400))) .nil)))) (.cons (.put (.nm 2) (.lit (.int 0)) (.p (.lit (.int 400)))) .nil) .nil) (.cons (.ret (.p (.blt "tuple" (.cons (.var 2) .nil)))) .nil)) [] [some ⟨false,.fz,.tup c.ps⟩,some ⟨false,.fz,.lst (iL [z0,z1,z2,z3,z4,z5])⟩,some ⟨false,k0,.lst L1⟩,some ⟨false,.fz,.int (z0 % 8)⟩,none,none]) Q':=by
    intro z Q' hQ hz
    refine if_et hz (fun _=>?_) fun _=>kt_go (fin (fun k d h1 h2=>hQ k d _ h1 h2) (hL1.mono (Nat.le_refl _) (by decide)))
    walk_at "sx"
    refine wm_p (we_lit (wr_P rfl (we_lit (put_of rfl rfl rfl (wr_putL (j:=0) (by rw [ixN_nat (by decide) (by omega)]; rfl) rfl ?_)))))
    walk_at "nm"
    refine w_nil (kt_nx (fin (fun k d h1 h2=>hQ k d _ h1 h2) ?_))
    exact (smL_set (x:=.int 400) hL1 (sm_int (w:=0) (by decide) (by decide))).mono (Nat.le_refl _) (by decide)
   have x20:∀ {Γ:Nat->Option Fn},Wp (evI Γ (.ix (.var 2) (.lit (.int 0))) [some ⟨false,.fz,.tup c.ps⟩,some ⟨false,.fz,.lst (iL [z0,z1,z2,z3,z4,z5])⟩,some ⟨false,k0,.lst L1⟩,some ⟨false,.fz,.int (z0 % 8)⟩,none,none]) fun x=>x = (.sh,d):=x2at (j:=0) rfl hg0 (we_lit rfl)
   cases hw:isW d with
   | false=>exact tail (z:=false) (fun k d ρ h1 h2=>od_rt h1 h2) (.and (w:=true) (.ev rfl (.fn (φ:=ψ9) (ds:=[d]) (z:=false) rfl (args1 (toD x20)) (by rw [lwhole_eq hd.1,hw]))) fun e=>by cases e)
   | true=>
    obtain ⟨i,rfl⟩:=isW_int hw
    exact tail (fun k d ρ h1 h2=>od_rt h1 h2) (.and (.ev rfl (.fn (φ:=ψ9) (ds:=[.int i]) (z:=true) rfl (args1 (toD x20)) rfl)) fun _=>.one (et_gt (toD x20) (we_lit rfl)))
 walk_at "sx"
 refine wm_p (we_bin (we_lit ((mod_ixS (m:=3) (by decide) (ix_iL (i:=1) v1 rfl)).mono fun x hx=>?_)))
 subst hx
 refine wb_add ⟨⟨rfl,by decide⟩,?_⟩
 obtain ⟨j,ej⟩:∃ j:Nat,1 + z1 % 3 = j:=⟨(1 + z1 % 3).toNat,by omega⟩
 have hj:1<=j/\j<=3:=by omega
 rw [ej]
 walk_at "nm"
 obtain ⟨xs,hxs,hr⟩:=row_at hc hj.1 hj.2
 have x24:∀ {Γ:Nat->Option Fn} {x0 x1 x3 x5:Option Sl},Wp (evI Γ (.ix (.var 2) (.var 4)) [x0,x1,some ⟨false,k0,.lst c.ps⟩,x3,some ⟨false,.fz,.int j⟩,x5]) fun x=>x = (.sh,.lst xs):=x2at rfl hxs (we_var rfl rfl)
 have ixj:ixN c.ps.length (j:Int) = some j:=by rw [ixN_nat (by omega) (by rw [hpl]; omega)]; rfl
 refine if_et (.or (et_eq (i:=z0 % 8) (j:=2) (we_var rfl rfl) (we_lit rfl)) fun _=>.one (z:=xs.isEmpty) (wt_cmp (x24.mono fun x hx=>we_lst (ws_nil (wr_lst (r:=(.fr k0,.lst [])) rfl ?_))))) (fun _=>?_) fun e=>kt_go ?_
 ·subst hx
  exact wc_eqD ⟨pokN hr.pk,rfl⟩ eqE
 ·walk_at "sx"
  refine wm_p (pick_disp (P:=Sm 92 1000) (m:=5) ?_ (sub_mod (m:=5) (by decide) (toD (ix_iL (i:=2) v1 rfl))) (by decide) fun d hd=>?_)
  ·refine es_cons (we_blt (ws_cons (x24.mono fun x hx=>ws_nil ?_))) (es_cons (nbl ⟨rfl,by decide⟩) (es_cons (we_bin (x24.mono fun x hx=>we_lst (ws_cons (odd_at rfl b3.1 b3.2 (c:=0) (by decide) (by decide) (ix_iL (i:=3) v1 rfl) (we_lit rfl) fun d hd=>ws_nil (wr_lst (r:=(.fr k0,.lst [d])) rfl ?_))))) (es_cons (we_dnew0 ⟨rfl,by decide +kernel,by decide +kernel⟩) (es_cons (we_sl (x24.mono fun x hx=>wo_non (wo_som (we_neg (we_lit rfl) ⟨-1,rfl,?_⟩)))) es_nil))))
   ·subst hx
    exact wl_tuple rfl ⟨rfl,(sm_tup hr.sm).mono (by decide) (by decide)⟩
   ·subst hx
    refine wb_cat ⟨rfl,rfl,by have:=hr.ln; simp; omega⟩ ⟨rfl,?_⟩
    exact (sm_lst (smL_app (hr.sm.mono (m:=91) (by decide) (Nat.le_refl _)) (smL_cons hd (smL_nil (w:=0))))).mono (by decide) (by decide)
   ·subst hx
    exact wsl rfl ⟨rfl,(sm_lst (smL_cut hr.sm)).mono (by decide) (by decide)⟩
  ·refine wr_P rfl (we_var rfl (put_of rfl rfl rfl (wr_putL ixj rfl ?_)))
   walk_at "nm"
   refine fin (fun k d h1 h2=>od_rt h1 h2) ?_
   exact (smL_set (h94 hps (Nat.le_refl _)) (hd.mono (by decide) (Nat.le_refl _))).mono (Nat.le_refl _) (by decide)
 ·have hne:0 < xs.length:=by
   have e:¬ z0 % 8 = 2/\xs.isEmpty = false:=by simpa using e
   cases xs with
   | nil=>cases e.2
   | cons a b=>exact Nat.succ_pos _
  have hln:=hr.ln
  walk_at "sx"
  refine wm_p (we_bin ((ix_iL (i:=2) v1 rfl).mono fun x hx=>(len_at (ds:=xs) (.inr rfl) (toD x24)).mono fun y hy=>?_))
  subst hx hy
  refine wb_mod (by omega) ⟨⟨rfl,by decide⟩,?_⟩
  obtain ⟨n5,e5⟩:∃ n:Nat,z2 % (xs.length:Int) = n:=⟨(z2 % (xs.length:Int)).toNat,by have:=Int.emod_nonneg z2 (show (xs.length:Int) ≠ 0 by omega); omega⟩
  have h5:n5 < xs.length:=by have:=Int.emod_lt_of_pos z2 (show 0 < (xs.length:Int) by omega); omega
  rw [e5]
  walk_at "nm"
  walk_at "sx"
  refine wm_p (we_fn (φ:=ψ19) rfl (ws_cons (x24.mono fun x hx=>ws_cons (we_var rfl (ws_cons ?_)))))
  subst hx
  have hpart:=hr.pt _ (List.getElem_mem h5)
  refine we_fn (φ:=ψ20) rfl (ws_cons (we_ix (x24.mono fun x hx=>we_var rfl ?_)))
  subst hx
  refine wx_lst (n:=n5) (by rw [ixN_nat (by omega) (by omega)]; rfl) (List.getElem?_eq_getElem h5) ?_
  refine ws_cons (we_var rfl (ws_cons (we_var rfl (ws_cons (we_sl (v1.mono fun x hx=>wo_som (we_lit ⟨3,rfl,wo_som (we_lit ⟨6,rfl,?_⟩)⟩)))))))
  subst hx
  refine wsl rfl (ws_nil (wf_fn ?_))
  show Wp (ψ20 [xs[n5],.int n5,c.d,.lst (iL [z3,z4,z5])]) _
  refine part_ok hc hpart (by omega) (by omega) b3.1 b3.2 b5.1 fun d k hk hd=>⟨hk,.inl rfl,ws_nil (wf_fn ?_)⟩
  show Wp (ψ19 [.nd .lst xs,.int n5,d]) _
  refine put_ok (n:=93) (w:=600) (v:=200) (.inr rfl) hr.pk (by omega) (hr.sm.mono (by decide) (Nat.le_refl _)) hd fun ys k' hk' hys=>⟨hk',.inl ?_,?_⟩
  ·show (okS .sh _ && (okS .sh _ && (okS k d && true))) = true
   rw [nb_S hk]; rfl
  ·refine wr_P rfl (we_var rfl (put_of rfl rfl rfl (wr_putL ixj ?_ ?_)))
   ·dsimp only
    rw [nb_im hk']
    exact nb_S hk'
   ·walk_at "nm"
    refine fin (fun k d h1 h2=>od_rt h1 h2) ?_
    exact (smL_set (h94 hps (Nat.le_refl _)) (sm_lst hys)).mono (Nat.le_refl _) (by decide)
end K33
namespace K33
open PySem L2 J
theorem circ_true {c:Cc} (hc:c.Ok):circD c.d = true:=by
 have i0:=hc.i0
 show (decide (0<=c.ins) && (((c.ms.map mD).map (memD · (c.ins + (c.ms.map mD).length + (c.gl.map gD).length))).all id && (gAll (c.ins + (c.ms.map mD).length) (c.gl.map gD) && ((iL c.os).map (bel · (c.ins + (c.ms.map mD).length + (c.gl.map gD).length))).all id))) = true
 rw [List.length_map,List.length_map,decide_eq_true i0,all_true (l:=c.ms.map mD) fun d hd=>?_,all_true (l:=iL c.os) fun d hd=>?_]
 ·rw [Bool.true_and,Bool.true_and,Bool.and_true]
  refine all_true fun p hp=>?_
  obtain ⟨j,hj,rfl⟩:=List.getElem_of_mem hp
  rw [List.length_mapIdx,List.length_map] at hj
  simp only [List.getElem_mapIdx,List.getElem_map]
  obtain ⟨h1,h2⟩:=hc.gp j _ (List.getElem?_eq_getElem hj)
  obtain ⟨h3,h4⟩:=hc.tb _ (List.getElem_mem hj)
  show (tabD (.int c.gl[j].1) (iL c.gl[j].2).length && ((iL c.gl[j].2).map (bel · (c.ins + c.ms.length + j))).all id) = true
  rw [List.length_map,all_true (l:=iL c.gl[j].2) fun d hd=>?_]
  ·unfold tabD bel
   dsimp only
   rw [decide_eq_true h1,decide_eq_true h3,decide_eq_true h4]
   rfl
  ·obtain ⟨x,hx,rfl⟩:=List.mem_map.mp hd
   have:=h2 x hx
   unfold bel
   dsimp only
   rw [decide_eq_true this.1,decide_eq_true this.2]
   rfl
 ·obtain ⟨x,hx,rfl⟩:=List.mem_map.mp hd
  have:=hc.ob x hx
  unfold bel
  dsimp only
  rw [decide_eq_true this.1,decide_eq_true this.2]
  rfl
 ·obtain ⟨m,hm,rfl⟩:=List.mem_map.mp hd
  obtain ⟨h1,h2,h3⟩:=hc.mb m hm
  show (bel (.int m.1) 2 && bel (.int m.2) _) = true
  unfold bel
  dsimp only
  rw [decide_eq_true (show 0<=m.1 by omega),decide_eq_true (show m.1 < 2 by omega),decide_eq_true h2,decide_eq_true h3]
  rfl
theorem copy_eq {c:Cc}:ψ13 [c.d] = some (.sh,c.d):=wp_eq (copy_ok rfl)
theorem sm_d {c:Cc} (hc:c.Ok):Sm 4 2000 c.d:=sm_tup (ps_sm hc)
theorem spoilt_eq {c:Cc} {ys:List Int} (hc:c.Ok) (hl:ys.length = 6) (hb:∀ y ∈ ys,0<=y/\y < 10 ^ 30):∃ k d,ψ21 [c.d,.lst (iL ys)] = some (k,d)/\isBo k = false/\Sm 95 4000 d:=by
 match ys,hl with
 | [z0,z1,z2,z3,z4,z5],_=>
  obtain ⟨r,e,k,d,rfl,h1,h2⟩:=spoilt_ok (Q:=fun r=>∃ k d,r = (k,d)/\isBo k = false/\Sm 95 4000 d) (z0:=z0) (z4:=z4) hc (hb z1 (by simp)) (hb z2 (by simp)) (hb z3 (by simp)) (hb z5 (by simp)) fun d k hk hd=>⟨k,d,rfl,hk,hd⟩
  exact ⟨k,d,e,h1,h2⟩
theorem wc_isnB {b c:Bool} {T:Bool->Prop} (q:T (!(c == b))):Wp (cmpD .IsNot (.bl c) (.bl b)) T:=wp_some q
theorem law_wp {ns:List Int}:Wp (ψ22 [.scr ns]) fun r=>r = (.sh,.bl true):=by
 unfold ψ22
 refine wd_I rfl ?_
 unfold b22
 walk_at "nm"
 walk_at "sx"
 refine wm_p (we_fn (φ:=ψ8) rfl (ws_cons (we_var rfl (ws_cons (we_lit (ws_nil (wf_fn (numbers_ok (by decide) (by decide) fun xs hl hn=>⟨rfl,.inl rfl,⟨rfl,by decide⟩,?_⟩))))))))
 have hl:xs.length = 480:=by omega
 walk_at "nm"
 walk_at "sx"
 refine wm_fn (φ:=ψ12) rfl (wl_fin (wm_fz rfl (ws_nil (wf_fn (circuit_ok hl hn fun c hc _ _=>⟨rfl,.inl rfl,⟨rfl,by decide⟩,?_⟩)))))
 walk_at "nm"
 have hsd:=sm_d hc
 have hct:ψ3 [c.d] = some (.sh,.bl true):=by rw [circ_eq hsd.1 (Nat.le_trans hsd.2 (by decide)),circ_true hc]
 generalize hcd:c.d = cd at *
 with_reducible refine w_for ?_
 refine wmi_p (wi_rng (we_lit (we_lit (wo_rng (by decide) ?_))))
 refine ⟨fun i ρ=>∃ a b e,ρ = [some ⟨false,.fz,.scr ns⟩,some ⟨false,.fz,.lst (iL xs)⟩,some ⟨false,.fz,cd⟩,a,b,e,none],⟨_,_,_,rfl⟩,fun i d ρ hd hI=>?_,fun ρ' hI=>?_⟩
 ·obtain ⟨a,b,e,rfl⟩:=hI
  obtain ⟨hd',hi⟩:=rngD_get hd
  rw [Int.zero_add] at hd' hi
  subst hd'
  refine ⟨[(3,.int i)],rfl,rfl,?_⟩
  walk_at "nm"
  have cp:∀ {Γ:Nat->Option Fn} {x0 x1 x3 x4 x5:Option Sl},Γ 13 = some ψ13->Wp (evI Γ (.fn 13 (.cons (.var 2) .nil)) [x0,x1,some ⟨false,.fz,cd⟩,x3,x4,x5,none]) fun x=>x = (.sh,cd):=fun h=>we_fn h (ws_cons (we_var rfl (ws_nil (wf_fn ⟨_,by rw [<- hcd]; exact copy_eq,rfl,.inl rfl,by rw [hcd]⟩))))
  refine if_et (z:=false) (wt_cmp (we_fn (φ:=ψ3) rfl (ws_cons ((cp rfl).mono fun x hx=>ws_nil (wf_fn ?_))))) (fun e=>by cases e) fun _=>kt_go ?_
  ·subst hx
   exact ⟨_,hct,rfl,.inl rfl,we_lit (wc_isnB rfl)⟩
  obtain ⟨ys,ec,yl,ym⟩:=cut_two (xs:=xs) (a:=410 + 6 * i) (b:=416 + 6 * i) (by omega) (by omega) (by omega)
  obtain ⟨k,d,es,hk,hsm⟩:=spoilt_eq (ys:=ys) hc (by omega) fun y hy=>hn y (ym y hy)
  rw [hcd] at es
  have sp:∀ {Γ:Nat->Option Fn} {x0 x4 x5:Option Sl},Γ 13 = some ψ13->Γ 21 = some ψ21->Wp (evI Γ (.fn 21 (.cons (.fn 13 (.cons (.var 2) .nil)) (.cons (.sl (.var 1) (.som (.bin .Add (.lit (.int 410)) (.bin .Mult (.lit (.int 6)) (.var 3)))) (.som (.bin .Add (.lit (.int 416)) (.bin .Mult (.lit (.int 6)) (.var 3))))) .nil))) [x0,some ⟨false,.fz,.lst (iL xs)⟩,some ⟨false,.fz,cd⟩,some ⟨false,.fz,.int i⟩,x4,x5,none]) fun x=>x = (k,d):=fun h1 h2=>by
   refine we_fn h2 (ws_cons ((cp h1).mono fun x hx=>ws_cons (we_sl (we_var rfl (wo_som (we_bin (we_lit (we_bin (we_lit (we_var rfl (wb_mul ⟨by decide,lim_of (by omega) (by omega)⟩ (wb_add ⟨_,rfl,?_⟩))))))))))))
   refine wo_som (we_bin (we_lit (we_bin (we_lit (we_var rfl (wb_mul ⟨by decide,lim_of (by omega) (by omega)⟩ (wb_add ⟨_,rfl,?_⟩)))))))
   subst hx
   refine ⟨(.fr flatO,.lst (iL ys)),by rw [<- ec]; rfl,ws_nil (wf_fn ⟨_,es,hk,.inl rfl,rfl⟩)⟩
  have hc98:rok 98 d = true/\bkD d<=200000:=⟨rok_mono (by decide) hsm.1,Nat.le_trans hsm.2 (by decide)⟩
  have hcir:ψ3 [d] = some (.sh,.bl (circD d)):=circ_eq hsm.1 (Nat.le_trans hsm.2 (by decide))
  have hlcir:ψ16 [d] = some (.sh,.bl (circD d)):=lcirc_eq hsm.1 (Nat.le_trans hsm.2 (by decide))
  have hstr:pok 90 (.str (py d).shown) = true:=(rok_ok hsm.1).2.2.2.2
  walk_at "sx"
  refine wm_p ((sp rfl rfl).mono fun x hx=>?_)
  subst hx
  refine ⟨⟨by rw [nb_im hk]; exact hk,by decide⟩,?_⟩
  rw [nb_im (k:=(k,d).1) hk]
  show Wp (exB _ _ _ _ [some ⟨false,.fz,.scr ns⟩,some ⟨false,.fz,.lst (iL xs)⟩,some ⟨false,.fz,cd⟩,some ⟨false,.fz,.int i⟩,some ⟨false,kOf k,d⟩,none,none]) _
  have v4:∀ {Γ:Nat->Option Fn} {x5:Option Sl},Wp (evI Γ (.var 4) [some ⟨false,.fz,.scr ns⟩,some ⟨false,.fz,.lst (iL xs)⟩,some ⟨false,.fz,cd⟩,some ⟨false,.fz,.int i⟩,some ⟨false,kOf k,d⟩,x5,none]) fun x=>x.2 = d:=we_var rfl rfl
  walk_at "sx"
  refine wm_p (we_fn (φ:=ψ3) rfl ((args1 v4).mono fun kds hkds=>wf_fn ?_))
  rw [hkds]
  refine ⟨_,hcir,rfl,.inr rfl,⟨rfl,by decide⟩,?_⟩
  show Wp (exB _ _ _ _ [some ⟨false,.fz,.scr ns⟩,some ⟨false,.fz,.lst (iL xs)⟩,some ⟨false,.fz,cd⟩,some ⟨false,.fz,.int i⟩,some ⟨false,kOf k,d⟩,some ⟨false,.fz,.bl (circD d)⟩,none]) _
  refine if_et (.or (z:=false) (w:=false) (.not (z:=true) (.ev rfl (we_isi (we_var rfl ⟨true,rfl,rfl⟩)))) fun _=>.one (wt_cmp (we_var rfl (we_fn (φ:=ψ16) rfl ((args1 v4).mono fun kds hkds=>wf_fn ?_))))) (fun e=>by cases e) fun _=>kt_go ?_
  ·rw [hkds]
   refine ⟨_,hlcir,rfl,.inr rfl,wc_neD ⟨rfl,rfl⟩ ?_⟩
   show (!eqD (.bl (circD d)) (.bl (circD d))) = false
   cases circD d <;> rfl
  refine if_et (z:=false) (wt_cmp (we_blt (ws_cons (v4.mono fun x hx=>ws_nil ?_)))) (fun e=>by cases e) fun _=>kt_go ?_
  ·obtain ⟨kx,dx⟩:=x
   cases (show dx = _ from hx)
   refine wl_repr hc98 (we_blt (ws_cons ((sp rfl rfl).mono fun y hy=>ws_nil ?_)))
   subst hy
   refine wl_repr hc98 (wc_neD ⟨hstr,hstr⟩ ?_)
   rw [eqD_refl hstr]
   rfl
  exact w_nil ⟨_,.inl rfl,_,_,_,rfl⟩
 ·obtain ⟨a,b,e,rfl⟩:=hI
  walk_at "nm"
  walk_at "sx"
  refine wm_p (we_fn (φ:=ψ13) rfl (ws_cons (we_var rfl (ws_nil (wf_fn ⟨_,by rw [<- hcd]; exact copy_eq,rfl,.inl rfl,?_⟩)))))
  rw [hcd]
  refine ⟨⟨rfl,by decide⟩,?_⟩
  show Wp (exB _ _ _ _ [some ⟨false,.fz,.scr ns⟩,some ⟨false,.fz,.lst (iL xs)⟩,some ⟨false,.fz,cd⟩,none,none,none,some ⟨false,.fz,cd⟩]) _
  have hpk:pok 90 cd = true:=by rw [<- hcd]; exact pok_d (by decide)
  refine ret_ev (.and (z:=true) (w:=true) (we_cmp (we_fn (φ:=ψ3) rfl (ws_cons (we_var rfl (ws_nil (wf_fn ⟨_,hct,rfl,.inl rfl,we_lit (wc_isB rfl)⟩)))))) fun _=>.one (we_cmp (we_var rfl (we_var rfl (wc_eqD ⟨hpk,hpk⟩ ?_))))) rfl
  show (Kd.sh,D.bl (eqD cd cd)) = _
  rw [eqD_refl hpk]
theorem law_true (ns:List Int) (_:ns.length<=63):ψ22 [.scr ns] = some (.sh,.bl true):=wp_eq law_wp
end K33
namespace K33
open PySem L2 J
theorem all_mk {l:PySem.W.OpenLaw} {w:World} {K:PySem.W.Frag} {h:Heap} {mg:Str->Option Value} {fa f0 f1 f2 f3 f4 f5 f6 f7 f8 f9 f10 f11 f12 f13 f14 f15 f16 f17 f18 f19 f20 f21 f22:Addr} (X:K.In h) (G:h.Ns mainGlobals mg) (hfa:mg "law" = some (.ref fa))
  {od0 an0 od1 an1 od2 an2 od3 an3 od4 an4 od5 an5 od6 an6 od7 an7 od8 an8 od9 an9 od10 an10 od11 an11 od12 an12 od13 an13 od14 an14 od15 an15 od16 an16 od17 an17 od18 an18 od19 an19 od20 an20 od21 an21 od22 an22:Option Addr} {sl0 sl1 sl2 sl3 sl4 sl5 sl6 sl7 sl8 sl9 sl10 sl11 sl12 sl13 sl14 sl15 sl16 sl17 sl18 sl19 sl20 sl21 sl22:Array (Option Value)} {oc0 kV0 dc0 pm0 cd0 ct0 oc1 kV1 dc1 pm1 cd1 ct1 oc2 kV2 dc2 pm2 cd2 ct2 oc3 kV3 dc3 pm3 cd3 ct3 oc4 kV4 dc4 pm4 cd4 ct4 oc5 kV5 dc5 pm5 cd5 ct5 oc6 kV6 dc6 pm6 cd6 ct6 oc7 kV7 dc7 pm7 cd7 ct7 oc8 kV8 dc8 pm8 cd8 ct8 oc9 kV9 dc9 pm9 cd9 ct9 oc10 kV10 dc10 pm10 cd10 ct10 oc11 kV11 dc11 pm11 cd11 ct11 oc12 kV12 dc12 pm12 cd12 ct12 oc13 kV13 dc13 pm13 cd13 ct13 oc14 kV14 dc14 pm14 cd14 ct14 oc15 kV15 dc15 pm15 cd15 ct15 oc16 kV16 dc16 pm16 cd16 ct16 oc17 kV17 dc17 pm17 cd17 ct17 oc18 kV18 dc18 pm18 cd18 ct18 oc19 kV19 dc19 pm19 cd19 ct19 oc20 kV20 dc20 pm20 cd20 ct20 oc21 kV21 dc21 pm21 cd21 ct21 oc22 kV22 dc22 pm22 cd22 ct22:Value}
  (a0:PySem.W.nsIn K mainGlobals "is_whole" = some (some (.ref f0))) (l0:K.lookup f0 = some ⟨oc0,od0,.func (PySem.W.fnOf "is_whole" "is_whole" (defArgs s0) (defBody s0) (defScope s0) .none kV0 dc0 pm0 an0 cd0 ct0),sl0⟩) (c0:PySem.W.codeIn K cd0 "is_whole" = true) (k0:PySem.W.keepIn K (.ref f0) = true)
  (a1:PySem.W.nsIn K mainGlobals "is_below" = some (some (.ref f1))) (l1:K.lookup f1 = some ⟨oc1,od1,.func (PySem.W.fnOf "is_below" "is_below" (defArgs s1) (defBody s1) (defScope s1) .none kV1 dc1 pm1 an1 cd1 ct1),sl1⟩) (c1:PySem.W.codeIn K cd1 "is_below" = true) (k1:PySem.W.keepIn K (.ref f1) = true)
  (a2:PySem.W.nsIn K mainGlobals "is_table" = some (some (.ref f2))) (l2:K.lookup f2 = some ⟨oc2,od2,.func (PySem.W.fnOf "is_table" "is_table" (defArgs s2) (defBody s2) (defScope s2) .none kV2 dc2 pm2 an2 cd2 ct2),sl2⟩) (c2:PySem.W.codeIn K cd2 "is_table" = true) (k2:PySem.W.keepIn K (.ref f2) = true)
  (a3:PySem.W.nsIn K mainGlobals "is_circuit" = some (some (.ref f3))) (l3:K.lookup f3 = some ⟨oc3,od3,.func (PySem.W.fnOf "is_circuit" "is_circuit" (defArgs s3) (defBody s3) (defScope s3) .none kV3 dc3 pm3 an3 cd3 ct3),sl3⟩) (c3:PySem.W.codeIn K cd3 "is_circuit" = true) (k3:PySem.W.keepIn K (.ref f3) = true)
  (a4:PySem.W.nsIn K mainGlobals "is_tuple" = some (some (.ref f4))) (l4:K.lookup f4 = some ⟨oc4,od4,.func (PySem.W.fnOf "is_tuple" "is_tuple" (defArgs s4) (defBody s4) (defScope s4) .none kV4 dc4 pm4 an4 cd4 ct4),sl4⟩) (c4:PySem.W.codeIn K cd4 "is_tuple" = true) (k4:PySem.W.keepIn K (.ref f4) = true)
  (a5:PySem.W.nsIn K mainGlobals "is_memory" = some (some (.ref f5))) (l5:K.lookup f5 = some ⟨oc5,od5,.func (PySem.W.fnOf "is_memory" "is_memory" (defArgs s5) (defBody s5) (defScope s5) .none kV5 dc5 pm5 an5 cd5 ct5),sl5⟩) (c5:PySem.W.codeIn K cd5 "is_memory" = true) (k5:PySem.W.keepIn K (.ref f5) = true)
  (a6:PySem.W.nsIn K mainGlobals "is_gate" = some (some (.ref f6))) (l6:K.lookup f6 = some ⟨oc6,od6,.func (PySem.W.fnOf "is_gate" "is_gate" (defArgs s6) (defBody s6) (defScope s6) .none kV6 dc6 pm6 an6 cd6 ct6),sl6⟩) (c6:PySem.W.codeIn K cd6 "is_gate" = true) (k6:PySem.W.keepIn K (.ref f6) = true)
  (a7:PySem.W.nsIn K mainGlobals "_law_mixed" = some (some (.ref f7))) (l7:K.lookup f7 = some ⟨oc7,od7,.func (PySem.W.fnOf "_law_mixed" "_law_mixed" (defArgs s7) (defBody s7) (defScope s7) .none kV7 dc7 pm7 an7 cd7 ct7),sl7⟩) (c7:PySem.W.codeIn K cd7 "_law_mixed" = true) (k7:PySem.W.keepIn K (.ref f7) = true)
  (a8:PySem.W.nsIn K mainGlobals "_law_numbers" = some (some (.ref f8))) (l8:K.lookup f8 = some ⟨oc8,od8,.func (PySem.W.fnOf "_law_numbers" "_law_numbers" (defArgs s8) (defBody s8) (defScope s8) .none kV8 dc8 pm8 an8 cd8 ct8),sl8⟩) (c8:PySem.W.codeIn K cd8 "_law_numbers" = true) (k8:PySem.W.keepIn K (.ref f8) = true)
  (a9:PySem.W.nsIn K mainGlobals "_law_whole" = some (some (.ref f9))) (l9:K.lookup f9 = some ⟨oc9,od9,.func (PySem.W.fnOf "_law_whole" "_law_whole" (defArgs s9) (defBody s9) (defScope s9) .none kV9 dc9 pm9 an9 cd9 ct9),sl9⟩) (c9:PySem.W.codeIn K cd9 "_law_whole" = true) (k9:PySem.W.keepIn K (.ref f9) = true)
  (a10:PySem.W.nsIn K mainGlobals "_law_sizes" = some (some (.ref f10))) (l10:K.lookup f10 = some ⟨oc10,od10,.func (PySem.W.fnOf "_law_sizes" "_law_sizes" (defArgs s10) (defBody s10) (defScope s10) .none kV10 dc10 pm10 an10 cd10 ct10),sl10⟩) (c10:PySem.W.codeIn K cd10 "_law_sizes" = true) (k10:PySem.W.keepIn K (.ref f10) = true)
  (a11:PySem.W.nsIn K mainGlobals "_law_places" = some (some (.ref f11))) (l11:K.lookup f11 = some ⟨oc11,od11,.func (PySem.W.fnOf "_law_places" "_law_places" (defArgs s11) (defBody s11) (defScope s11) .none kV11 dc11 pm11 an11 cd11 ct11),sl11⟩) (c11:PySem.W.codeIn K cd11 "_law_places" = true) (k11:PySem.W.keepIn K (.ref f11) = true)
  (a12:PySem.W.nsIn K mainGlobals "_law_circuit" = some (some (.ref f12))) (l12:K.lookup f12 = some ⟨oc12,od12,.func (PySem.W.fnOf "_law_circuit" "_law_circuit" (defArgs s12) (defBody s12) (defScope s12) .none kV12 dc12 pm12 an12 cd12 ct12),sl12⟩) (c12:PySem.W.codeIn K cd12 "_law_circuit" = true) (k12:PySem.W.keepIn K (.ref f12) = true)
  (a13:PySem.W.nsIn K mainGlobals "_law_copy" = some (some (.ref f13))) (l13:K.lookup f13 = some ⟨oc13,od13,.func (PySem.W.fnOf "_law_copy" "_law_copy" (defArgs s13) (defBody s13) (defScope s13) .none kV13 dc13 pm13 an13 cd13 ct13),sl13⟩) (c13:PySem.W.codeIn K cd13 "_law_copy" = true) (k13:PySem.W.keepIn K (.ref f13) = true)
  (a14:PySem.W.nsIn K mainGlobals "_law_below" = some (some (.ref f14))) (l14:K.lookup f14 = some ⟨oc14,od14,.func (PySem.W.fnOf "_law_below" "_law_below" (defArgs s14) (defBody s14) (defScope s14) .none kV14 dc14 pm14 an14 cd14 ct14),sl14⟩) (c14:PySem.W.codeIn K cd14 "_law_below" = true) (k14:PySem.W.keepIn K (.ref f14) = true)
  (a15:PySem.W.nsIn K mainGlobals "_law_is_gate" = some (some (.ref f15))) (l15:K.lookup f15 = some ⟨oc15,od15,.func (PySem.W.fnOf "_law_is_gate" "_law_is_gate" (defArgs s15) (defBody s15) (defScope s15) .none kV15 dc15 pm15 an15 cd15 ct15),sl15⟩) (c15:PySem.W.codeIn K cd15 "_law_is_gate" = true) (k15:PySem.W.keepIn K (.ref f15) = true)
  (a16:PySem.W.nsIn K mainGlobals "_law_is_circuit" = some (some (.ref f16))) (l16:K.lookup f16 = some ⟨oc16,od16,.func (PySem.W.fnOf "_law_is_circuit" "_law_is_circuit" (defArgs s16) (defBody s16) (defScope s16) .none kV16 dc16 pm16 an16 cd16 ct16),sl16⟩) (c16:PySem.W.codeIn K cd16 "_law_is_circuit" = true) (k16:PySem.W.keepIn K (.ref f16) = true)
  (a17:PySem.W.nsIn K mainGlobals "_law_deep" = some (some (.ref f17))) (l17:K.lookup f17 = some ⟨oc17,od17,.func (PySem.W.fnOf "_law_deep" "_law_deep" (defArgs s17) (defBody s17) (defScope s17) .none kV17 dc17 pm17 an17 cd17 ct17),sl17⟩) (c17:PySem.W.codeIn K cd17 "_law_deep" = true) (k17:PySem.W.keepIn K (.ref f17) = true)
  (a18:PySem.W.nsIn K mainGlobals "_law_odd" = some (some (.ref f18))) (l18:K.lookup f18 = some ⟨oc18,od18,.func (PySem.W.fnOf "_law_odd" "_law_odd" (defArgs s18) (defBody s18) (defScope s18) .none kV18 dc18 pm18 an18 cd18 ct18),sl18⟩) (c18:PySem.W.codeIn K cd18 "_law_odd" = true) (k18:PySem.W.keepIn K (.ref f18) = true)
  (a19:PySem.W.nsIn K mainGlobals "_law_put" = some (some (.ref f19))) (l19:K.lookup f19 = some ⟨oc19,od19,.func (PySem.W.fnOf "_law_put" "_law_put" (defArgs s19) (defBody s19) (defScope s19) .none kV19 dc19 pm19 an19 cd19 ct19),sl19⟩) (c19:PySem.W.codeIn K cd19 "_law_put" = true) (k19:PySem.W.keepIn K (.ref f19) = true)
  (a20:PySem.W.nsIn K mainGlobals "_law_part_spoilt" = some (some (.ref f20))) (l20:K.lookup f20 = some ⟨oc20,od20,.func (PySem.W.fnOf "_law_part_spoilt" "_law_part_spoilt" (defArgs s20) (defBody s20) (defScope s20) .none kV20 dc20 pm20 an20 cd20 ct20),sl20⟩) (c20:PySem.W.codeIn K cd20 "_law_part_spoilt" = true) (k20:PySem.W.keepIn K (.ref f20) = true)
  (a21:PySem.W.nsIn K mainGlobals "_law_spoilt" = some (some (.ref f21))) (l21:K.lookup f21 = some ⟨oc21,od21,.func (PySem.W.fnOf "_law_spoilt" "_law_spoilt" (defArgs s21) (defBody s21) (defScope s21) .none kV21 dc21 pm21 an21 cd21 ct21),sl21⟩) (c21:PySem.W.codeIn K cd21 "_law_spoilt" = true) (k21:PySem.W.keepIn K (.ref f21) = true)
  (a22:PySem.W.nsIn K mainGlobals "law" = some (some (.ref f22))) (l22:K.lookup f22 = some ⟨oc22,od22,.func (PySem.W.fnOf "law" "law" (defArgs s22) (defBody s22) (defScope s22) .none kV22 dc22 pm22 an22 cd22 ct22),sl22⟩) (c22:PySem.W.codeIn K cd22 "law" = true) (k22:PySem.W.keepIn K (.ref f22) = true)
  {tq0:Tok} (q0:PySem.W.nsIn K mainGlobals "MOST_PLACES" = some (some (.int 3 tq0)))
  (z0:PySem.W.nsIn K mainGlobals "len" = some none)
  (z1:PySem.W.nsIn K mainGlobals "isinstance" = some none)
  (z2:PySem.W.nsIn K mainGlobals "int" = some none)
  (z3:PySem.W.nsIn K mainGlobals "bool" = some none)
  (z4:PySem.W.nsIn K mainGlobals "list" = some none)
  (z5:PySem.W.nsIn K mainGlobals "all" = some none)
  (z6:PySem.W.nsIn K mainGlobals "range" = some none)
  (z7:PySem.W.nsIn K mainGlobals "enumerate" = some none)
  (z8:PySem.W.nsIn K mainGlobals "str" = some none)
  (z9:PySem.W.nsIn K mainGlobals "sum" = some none)
  (z10:PySem.W.nsIn K mainGlobals "min" = some none)
  (z11:PySem.W.nsIn K mainGlobals "max" = some none)
  (z12:PySem.W.nsIn K mainGlobals "abs" = some none)
  (z13:PySem.W.nsIn K mainGlobals "tuple" = some none)
  (z14:PySem.W.nsIn K mainGlobals "zip" = some none)
  (z15:PySem.W.nsIn K mainGlobals "dict" = some none)
  (z16:PySem.W.nsIn K mainGlobals "sorted" = some none)
  (z17:PySem.W.nsIn K mainGlobals "reversed" = some none)
  (z18:PySem.W.nsIn K mainGlobals "any" = some none)
  (z19:PySem.W.nsIn K mainGlobals "set" = some none)
  (z20:PySem.W.nsIn K mainGlobals "repr" = some none)
  : ∃ fd:FuncData,(∀ (s:Shared) (v:Value),BindsTo s fd ⟨[v],[]⟩ [("_law_script",v)])/\∀ base:Heap,K.In base->base.Ns mainGlobals mg->FnOk l.prog w K mg base CX0 23 fa fd ["_law_script"] (spF K ψ22):=by
 have e:=hfa.symm.trans (PySem.W.mg_of X G a22)
 cases e
 have F0:=fun_mk (st:=s0) l0 c0 k0
 have B0:=F0.binds (ps:=["thing"]) fun _ _ _ _ _ _ us hl=>match us,hl with | [_],_=>rfl
 have F1:=fun_mk (st:=s1) l1 c1 k1
 have B1:=F1.binds (ps:=["thing","bound"]) fun _ _ _ _ _ _ us hl=>match us,hl with | [_,_],_=>rfl
 have F2:=fun_mk (st:=s2) l2 c2 k2
 have B2:=F2.binds (ps:=["thing","many"]) fun _ _ _ _ _ _ us hl=>match us,hl with | [_,_],_=>rfl
 have F3:=fun_mk (st:=s3) l3 c3 k3
 have B3:=F3.binds (ps:=["thing"]) fun _ _ _ _ _ _ us hl=>match us,hl with | [_],_=>rfl
 have F4:=fun_mk (st:=s4) l4 c4 k4
 have B4:=F4.binds (ps:=["thing","many"]) fun _ _ _ _ _ _ us hl=>match us,hl with | [_,_],_=>rfl
 have F5:=fun_mk (st:=s5) l5 c5 k5
 have B5:=F5.binds (ps:=["thing","many"]) fun _ _ _ _ _ _ us hl=>match us,hl with | [_,_],_=>rfl
 have F6:=fun_mk (st:=s6) l6 c6 k6
 have B6:=F6.binds (ps:=["thing","own"]) fun _ _ _ _ _ _ us hl=>match us,hl with | [_,_],_=>rfl
 have F7:=fun_mk (st:=s7) l7 c7 k7
 have B7:=F7.binds (ps:=["_law_cell","_law_many"]) fun _ _ _ _ _ _ us hl=>match us,hl with | [_,_],_=>rfl
 have F8:=fun_mk (st:=s8) l8 c8 k8
 have B8:=F8.binds (ps:=["_law_script","_law_many"]) fun _ _ _ _ _ _ us hl=>match us,hl with | [_,_],_=>rfl
 have F9:=fun_mk (st:=s9) l9 c9 k9
 have B9:=F9.binds (ps:=["_law_found"]) fun _ _ _ _ _ _ us hl=>match us,hl with | [_],_=>rfl
 have F10:=fun_mk (st:=s10) l10 c10 k10
 have B10:=F10.binds (ps:=["_law_xs"]) fun _ _ _ _ _ _ us hl=>match us,hl with | [_],_=>rfl
 have F11:=fun_mk (st:=s11) l11 c11 k11
 have B11:=F11.binds (ps:=["_law_xs","_law_place"]) fun _ _ _ _ _ _ us hl=>match us,hl with | [_,_],_=>rfl
 have F12:=fun_mk (st:=s12) l12 c12 k12
 have B12:=F12.binds (ps:=["_law_xs"]) fun _ _ _ _ _ _ us hl=>match us,hl with | [_],_=>rfl
 have F13:=fun_mk (st:=s13) l13 c13 k13
 have B13:=F13.binds (ps:=["_law_circuit_here"]) fun _ _ _ _ _ _ us hl=>match us,hl with | [_],_=>rfl
 have F14:=fun_mk (st:=s14) l14 c14 k14
 have B14:=F14.binds (ps:=["_law_thing","_law_most"]) fun _ _ _ _ _ _ us hl=>match us,hl with | [_,_],_=>rfl
 have F15:=fun_mk (st:=s15) l15 c15 k15
 have B15:=F15.binds (ps:=["_law_thing","_law_place"]) fun _ _ _ _ _ _ us hl=>match us,hl with | [_,_],_=>rfl
 have F16:=fun_mk (st:=s16) l16 c16 k16
 have B16:=F16.binds (ps:=["_law_thing"]) fun _ _ _ _ _ _ us hl=>match us,hl with | [_],_=>rfl
 have F17:=fun_mk (st:=s17) l17 c17 k17
 have B17:=F17.binds (ps:=[]) fun _ _ _ _ _ _ us hl=>match us,hl with | [],_=>rfl
 have F18:=fun_mk (st:=s18) l18 c18 k18
 have B18:=F18.binds (ps:=["_law_x","_law_bound"]) fun _ _ _ _ _ _ us hl=>match us,hl with | [_,_],_=>rfl
 have F19:=fun_mk (st:=s19) l19 c19 k19
 have B19:=F19.binds (ps:=["_law_row","_law_at","_law_thing"]) fun _ _ _ _ _ _ us hl=>match us,hl with | [_,_,_],_=>rfl
 have F20:=fun_mk (st:=s20) l20 c20 k20
 have B20:=F20.binds (ps:=["_law_part","_law_number","_law_circuit_here","_law_xs"]) fun _ _ _ _ _ _ us hl=>match us,hl with | [_,_,_,_],_=>rfl
 have F21:=fun_mk (st:=s21) l21 c21 k21
 have B21:=F21.binds (ps:=["_law_circuit_here","_law_xs"]) fun _ _ _ _ _ _ us hl=>match us,hl with | [_,_],_=>rfl
 have F22:=fun_mk (st:=s22) l22 c22 k22
 have B22:=F22.binds (ps:=["_law_script"]) fun _ _ _ _ _ _ us hl=>match us,hl with | [_],_=>rfl
 refine ⟨PySem.W.fnOf "law" "law" (defArgs s22) (defBody s22) (defScope s22) .none kV22 dc22 pm22 an22 cd22 ct22,fun s v=>.of_eq rfl,fun base _ _=>?_⟩
 have T0:TabF l.prog w K mg base (tabG fns Γ0) 0:=⟨fun x φ hx=>by (have hx:(ixOf x fns.fns).bind Γ0.fn = some φ:=hx; cases q:ixOf x fns.fns <;> rw [q] at hx <;> cases hx),fun x φ hx=>by (have hx:(ixOf x fns.fns).bind (fun i=>(Γ0.fm i).map fun φ=>fun K=>spM K φ) = some φ:=hx; cases q:ixOf x fns.fns <;> rw [q] at hx <;> cases hx),(fun x hx=>by
  simp only [bltNames,List.mem_cons,List.not_mem_nil,or_false] at hx
  rcases hx with rfl | rfl | rfl | rfl | rfl | rfl | rfl | rfl | rfl | rfl | rfl | rfl | rfl | rfl | rfl | rfl | rfl | rfl | rfl | rfl | rfl
  ·exact PySem.W.mg_none_of X G z0
  ·exact PySem.W.mg_none_of X G z1
  ·exact PySem.W.mg_none_of X G z2
  ·exact PySem.W.mg_none_of X G z3
  ·exact PySem.W.mg_none_of X G z4
  ·exact PySem.W.mg_none_of X G z5
  ·exact PySem.W.mg_none_of X G z6
  ·exact PySem.W.mg_none_of X G z7
  ·exact PySem.W.mg_none_of X G z8
  ·exact PySem.W.mg_none_of X G z9
  ·exact PySem.W.mg_none_of X G z10
  ·exact PySem.W.mg_none_of X G z11
  ·exact PySem.W.mg_none_of X G z12
  ·exact PySem.W.mg_none_of X G z13
  ·exact PySem.W.mg_none_of X G z14
  ·exact PySem.W.mg_none_of X G z15
  ·exact PySem.W.mg_none_of X G z16
  ·exact PySem.W.mg_none_of X G z17
  ·exact PySem.W.mg_none_of X G z18
  ·exact PySem.W.mg_none_of X G z19
  ·exact PySem.W.mg_none_of X G z20),fun x d hx=>by
  have hx:List.lookup x fns.cs = some d:=hx
  simp only [fns,List.lookup] at hx
  split at hx
  ·rename_i e; have e:=eq_of_beq e; subst e; cases hx; exact ⟨_,.int 3,PySem.W.mg_of X G q0,⟨_,rfl⟩,fun H S=>(by unfold Rp; rfl),by decide⟩
  ·cases hx⟩
 have T1:=T0.addI (i:=0) (ψ:=ψ0) F0 sc0 (PySem.W.mg_of X G a0) B0 rfl rfl cr0 h0
 have T2:=T1.addI (i:=1) (ψ:=ψ1) F1 sc1 (PySem.W.mg_of X G a1) B1 rfl rfl cr1 h1
 have T3:=T2.addI (i:=2) (ψ:=ψ2) F2 sc2 (PySem.W.mg_of X G a2) B2 rfl rfl cr2 h2
 have T4:=T3.addI (i:=4) (ψ:=ψ4) F4 sc4 (PySem.W.mg_of X G a4) B4 rfl rfl cr4 h4
 have T5:=T4.addI (i:=5) (ψ:=ψ5) F5 sc5 (PySem.W.mg_of X G a5) B5 rfl rfl cr5 h5
 have T6:=T5.addI (i:=6) (ψ:=ψ6) F6 sc6 (PySem.W.mg_of X G a6) B6 rfl rfl cr6 h6
 have T7:=T6.addI (i:=3) (ψ:=ψ3) F3 sc3 (PySem.W.mg_of X G a3) B3 rfl rfl cr3 h3
 have T8:=T7.addI (i:=7) (ψ:=ψ7) F7 sc7 (PySem.W.mg_of X G a7) B7 rfl rfl cr7 h7
 have T9:=T8.addI (i:=8) (ψ:=ψ8) F8 sc8 (PySem.W.mg_of X G a8) B8 rfl rfl cr8 h8
 have T10:=T9.addI (i:=9) (ψ:=ψ9) F9 sc9 (PySem.W.mg_of X G a9) B9 rfl rfl cr9 h9
 have T11:=T10.addI (i:=10) (ψ:=ψ10) F10 sc10 (PySem.W.mg_of X G a10) B10 rfl rfl cr10 h10
 have T12:=T11.addI (i:=11) (ψ:=ψ11) F11 sc11 (PySem.W.mg_of X G a11) B11 rfl rfl cr11 h11
 have T13:=T12.addI (i:=12) (ψ:=ψ12) F12 sc12 (PySem.W.mg_of X G a12) B12 rfl rfl cr12 h12
 have T14:=T13.addI (i:=13) (ψ:=ψ13) F13 sc13 (PySem.W.mg_of X G a13) B13 rfl rfl cr13 h13
 have T15:=T14.addI (i:=14) (ψ:=ψ14) F14 sc14 (PySem.W.mg_of X G a14) B14 rfl rfl cr14 h14
 have T16:=T15.addI (i:=15) (ψ:=ψ15) F15 sc15 (PySem.W.mg_of X G a15) B15 rfl rfl cr15 h15
 have T17:=T16.addI (i:=16) (ψ:=ψ16) F16 sc16 (PySem.W.mg_of X G a16) B16 rfl rfl cr16 h16
 have T18:=T17.addI (i:=17) (ψ:=ψ17) F17 sc17 (PySem.W.mg_of X G a17) B17 rfl rfl cr17 h17
 have T19:=T18.addI (i:=18) (ψ:=ψ18) F18 sc18 (PySem.W.mg_of X G a18) B18 rfl rfl cr18 h18
 have T20:=T19.addI (i:=19) (ψ:=ψ19) F19 sc19 (PySem.W.mg_of X G a19) B19 rfl rfl cr19 h19
 have T21:=T20.addI (i:=20) (ψ:=ψ20) F20 sc20 (PySem.W.mg_of X G a20) B20 rfl rfl cr20 h20
 have T22:=T21.addI (i:=21) (ψ:=ψ21) F21 sc21 (PySem.W.mg_of X G a21) B21 rfl rfl cr21 h21
 exact (def_okI (n:=60) (an:=an) F22 sc22 T22 cr22).imp fun vs H Q E s=>spF_le h22 s
theorem walk {l:PySem.W.OpenLaw} {q:Program} {loose:List Str} {XP:(Str->Option Value)->Heap->Prop} {YP:World->Heap->Prop} {d:DefRec} {K:Params->PySem.W.Frag} (hn:l.most = some 63) (hdf:d.params.defaults = [])
  (hY:∀ (w:World) (h:Heap),YP w h->(K w.params).In h)
  (F:∀ (w:World) (mg:Str->Option Value) (fa:Addr) (h:Heap),(K w.params).In h->h.Ns mainGlobals mg->mg d.name = some (.ref fa)->
   ∃ fd:FuncData,(∀ (s:Shared) (u:Value),BindsTo s fd ⟨[u],[]⟩ [("_law_script",u)])/\∀ base:Heap,(K w.params).In base->base.Ns mainGlobals mg->FnOk l.prog w (K w.params) mg base CX0 23 fa fd ["_law_script"] (spF (K w.params) ψ22)) :
  PySem.W.WalkO q loose XP YP l.row.toRowW d [] (fun f vs=>PySem.call f vs):=
 L2.walk_of (n:=63) (k:=23) (x:="_law_script") (CX:=fun _=>CX0) (sp:=fun w=>spF (K w.params) ψ22) hn (by decide) hdf ⟨rfl,by decide,by decide,rfl⟩ hY F (fun _ _ a ns hl _ hS=>law_sp hS (law_true ns hl)) fun _ _ _ _ _ z=>z
end K33
open PySem PySem.W PyProof.Rows
set_option maxRecDepth 100000 in
set_option maxHeartbeats 0 in
theorem PySem.Challenge.cw_gatepapers_k33_is_circuit_holds : PySem.Challenge.rw_gatepapers_k33_is_circuit.Holds := by
 w_on; o_law; k_head; (case hw=>w_witness2)
 k_fill
 refine K33.walk (l:=PySem.Challenge.rw_gatepapers_k33_is_circuit) rfl rfl (fun w h Y=>PySem.W.kIn_of Y) ?F
 case F=>
  intro w mg fa h KX G hmg
  refine' K33.all_mk KX G hmg ?a0 ?l0 ?c0 ?k0 ?a1 ?l1 ?c1 ?k1 ?a2 ?l2 ?c2 ?k2 ?a3 ?l3 ?c3 ?k3 ?a4 ?l4 ?c4 ?k4 ?a5 ?l5 ?c5 ?k5 ?a6 ?l6 ?c6 ?k6 ?a7 ?l7 ?c7 ?k7 ?a8 ?l8 ?c8 ?k8 ?a9 ?l9 ?c9 ?k9 ?a10 ?l10 ?c10 ?k10 ?a11 ?l11 ?c11 ?k11 ?a12 ?l12 ?c12 ?k12 ?a13 ?l13 ?c13 ?k13 ?a14 ?l14 ?c14 ?k14 ?a15 ?l15 ?c15 ?k15 ?a16 ?l16 ?c16 ?k16 ?a17 ?l17 ?c17 ?k17 ?a18 ?l18 ?c18 ?k18 ?a19 ?l19 ?c19 ?k19 ?a20 ?l20 ?c20 ?k20 ?a21 ?l21 ?c21 ?k21 ?a22 ?l22 ?c22 ?k22 ?q0 ?z0 ?z1 ?z2 ?z3 ?z4 ?z5 ?z6 ?z7 ?z8 ?z9 ?z10 ?z11 ?z12 ?z13 ?z14 ?z15 ?z16 ?z17 ?z18 ?z19 ?z20
  (case a0=>k_is)
  (case l0=>k_is)
  (case c0=>k_is)
  (case k0=>k_is)
  (case a1=>k_is)
  (case l1=>k_is)
  (case c1=>k_is)
  (case k1=>k_is)
  (case a2=>k_is)
  (case l2=>k_is)
  (case c2=>k_is)
  (case k2=>k_is)
  (case a3=>k_is)
  (case l3=>k_is)
  (case c3=>k_is)
  (case k3=>k_is)
  (case a4=>k_is)
  (case l4=>k_is)
  (case c4=>k_is)
  (case k4=>k_is)
  (case a5=>k_is)
  (case l5=>k_is)
  (case c5=>k_is)
  (case k5=>k_is)
  (case a6=>k_is)
  (case l6=>k_is)
  (case c6=>k_is)
  (case k6=>k_is)
  (case a7=>k_is)
  (case l7=>k_is)
  (case c7=>k_is)
  (case k7=>k_is)
  (case a8=>k_is)
  (case l8=>k_is)
  (case c8=>k_is)
  (case k8=>k_is)
  (case a9=>k_is)
  (case l9=>k_is)
  (case c9=>k_is)
  (case k9=>k_is)
  (case a10=>k_is)
  (case l10=>k_is)
  (case c10=>k_is)
  (case k10=>k_is)
  (case a11=>k_is)
  (case l11=>k_is)
  (case c11=>k_is)
  (case k11=>k_is)
  (case a12=>k_is)
  (case l12=>k_is)
  (case c12=>k_is)
  (case k12=>k_is)
  (case a13=>k_is)
  (case l13=>k_is)
  (case c13=>k_is)
  (case k13=>k_is)
  (case a14=>k_is)
  (case l14=>k_is)
  (case c14=>k_is)
  (case k14=>k_is)
  (case a15=>k_is)
  (case l15=>k_is)
  (case c15=>k_is)
  (case k15=>k_is)
  (case a16=>k_is)
  (case l16=>k_is)
  (case c16=>k_is)
  (case k16=>k_is)
  (case a17=>k_is)
  (case l17=>k_is)
  (case c17=>k_is)
  (case k17=>k_is)
  (case a18=>k_is)
  (case l18=>k_is)
  (case c18=>k_is)
  (case k18=>k_is)
  (case a19=>k_is)
  (case l19=>k_is)
  (case c19=>k_is)
  (case k19=>k_is)
  (case a20=>k_is)
  (case l20=>k_is)
  (case c20=>k_is)
  (case k20=>k_is)
  (case a21=>k_is)
  (case l21=>k_is)
  (case c21=>k_is)
  (case k21=>k_is)
  (case a22=>k_is)
  (case l22=>k_is)
  (case c22=>k_is)
  (case k22=>k_is)
  (case q0=>k_is)
  (case z0=>k_is)
  (case z1=>k_is)
  (case z2=>k_is)
  (case z3=>k_is)
  (case z4=>k_is)
  (case z5=>k_is)
  (case z6=>k_is)
  (case z7=>k_is)
  (case z8=>k_is)
  (case z9=>k_is)
  (case z10=>k_is)
  (case z11=>k_is)
  (case z12=>k_is)
  (case z13=>k_is)
  (case z14=>k_is)
  (case z15=>k_is)
  (case z16=>k_is)
  (case z17=>k_is)
  (case z18=>k_is)
  (case z19=>k_is)
  (case z20=>k_is)
end
