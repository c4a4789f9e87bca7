import PyProof.Rows.All
import Wide.All
import OpenK.AllK
import Wide.FinOn
import Lean
import PyProof.EqAt
import PyProof.EqKinds
import PyProof.TupleCall
import KE.KRevSl
import KE.KUnpack
import PyProof.SumAny
import PyProof.WalksS
import PyProof.NeKinds
import PyProof.ZipIter
import PyProof.WalkInts
import PyProof.AttrMissHeap
import KE.KDictOf
import PyProof.ListRange
import PyProof.StrWalks
import PyProof.StrOps2
import PyProof.Rows.SetFrom
import PyProof.P3Eq
import PyProof.NeData
import PyProof.P3In
import PyProof.IsRules
import PyProof.ReprRoads
import PyProof.ReprBulk
import PyProof.ReprRoom
import PyProof.CallFns
import PySem.Challenge.RW_gatepapers_k89_what_is_a_shelf
set_option Elab.async false
set_option linter.all false
set_option maxRecDepth 100000
set_option genSizeOf false
set_option genSizeOfSpec false
namespace L2
open PySem PySem.Spec PyProof.Rows
noncomputable abbrev Key:=Sum Int Str
noncomputable def keyIs:Key->Value->Bool
 | .inl k,v=>Value.isInt k v
 | .inr x,v=>Value.isStrOf x v
noncomputable def keyH (w:World):Key->Int
 | .inl k=>hashInt k
 | .inr x=>hashStr w x
theorem keyIs_shape:∀ {k:Key} {v:Value},keyIs k v = true->(∃ i t,k = Sum.inl i/\v = Value.int i t)\/(∃ x t,k = Sum.inr x/\v = Value.str x t)
 | .inl i,v,h=>by
  obtain ⟨t,e⟩:=Value.isInt_shape (k:=i) (v:=v) h
  exact .inl ⟨i,t,rfl,e⟩
 | .inr x,v,h=>by
  obtain ⟨t,e⟩:=Value.isStrOf_shape (x:=x) (v:=v) h
  exact .inr ⟨x,t,rfl,e⟩
theorem keyIs_int (i:Int) (t:Tok):keyIs (.inl i) (.int i t) = true:=by simp [keyIs,Value.isInt]
theorem keyIs_str (x:Str) (t:Tok):keyIs (.inr x) (.str x t) = true:=by simp [keyIs,Value.isStrOf]
theorem key_ll (a b:Int):decide ((Sum.inl a:Key) = Sum.inl b) = (a == b):=by
 by_cases e:a = b
 ·subst e; simp
 ·have h:¬ (Sum.inl a:Key) = Sum.inl b:=fun q=>e (Sum.inl.inj q)
  rw [decide_eq_false h]
  exact (beq_eq_false_iff_ne.mpr e).symm
theorem key_rr (a b:Str):decide ((Sum.inr a:Key) = Sum.inr b) = decide (a = b):=by
 by_cases e:a = b
 ·subst e; simp
 ·have h:¬ (Sum.inr a:Key) = Sum.inr b:=fun q=>e (Sum.inr.inj q)
  rw [decide_eq_false h,decide_eq_false e]
theorem key_lr (a:Int) (b:Str):decide ((Sum.inl a:Key) = Sum.inr b) = false:=decide_eq_false (fun q=>nomatch q)
theorem key_rl (a:Str) (b:Int):decide ((Sum.inr a:Key) = Sum.inl b) = false:=decide_eq_false (fun q=>nomatch q)
noncomputable def mixKind (prog:Program) (w:World):PySem.KeyKind prog w Key where
 is:=keyIs
 hash:=keyH w
 inj:=fun v a b ha hb=>by
  rcases keyIs_shape ha with ⟨i,t,rfl,rfl⟩ | ⟨x,t,rfl,rfl⟩
  ·rcases keyIs_shape hb with ⟨j,u,rfl,e⟩ | ⟨y,u,rfl,e⟩
   ·injection e with e1 _; rw [e1]
   ·exact nomatch e
  ·rcases keyIs_shape hb with ⟨j,u,rfl,e⟩ | ⟨y,u,rfl,e⟩
   ·exact nomatch e
   ·injection e with e1 _; rw [e1]
 byValue:=fun k v h=>by
  rcases keyIs_shape h with ⟨i,t,rfl,rfl⟩ | ⟨x,t,rfl,rfl⟩ <;> rfl
 pyHash:=fun hv h=>by
  rcases keyIs_shape hv with ⟨i,t,rfl,rfl⟩ | ⟨x,t,rfl,rfl⟩
  ·exact wpAny_pyHash_int h
  ·exact wpAny_pyHash_str h
 eqBool:=fun hu hv h=>by
  rcases keyIs_shape hu with ⟨i,t,rfl,rfl⟩ | ⟨x,t,rfl,rfl⟩
  ·rcases keyIs_shape hv with ⟨j,u,rfl,rfl⟩ | ⟨y,u,rfl,rfl⟩
   ·rw [key_ll] at h; exact wpAny_eqBool_int h
   ·rw [key_lr] at h; exact SeqAt.EqAt.int_str i t y u _ _ _ _ h
  ·rcases keyIs_shape hv with ⟨j,u,rfl,rfl⟩ | ⟨y,u,rfl,rfl⟩
   ·rw [key_rl] at h; exact SeqAt.EqAt.str_int x t j u _ _ _ _ h
   ·rw [key_rr] at h; exact wpAny_eqBool_str h
 «strs»:=fun k x t v h=>by
  rcases keyIs_shape h with ⟨i,u,rfl,e⟩ | ⟨y,u,rfl,e⟩
  ·exact nomatch e
  ·injection e with e1 _
   subst e1
   cases v <;> rfl
theorem mixKind_int (prog:Program) (w:World) (i:Int) (t:Tok):(mixKind prog w).is (.inl i) (.int i t) = true:=keyIs_int i t
theorem mixKind_str (prog:Program) (w:World) (x:Str) (t:Tok):(mixKind prog w).is (.inr x) (.str x t) = true:=keyIs_str x t
end L2
namespace L2
open PySem PySem.Spec PyProof.Rows
inductive V where
 | non | bl (b:Bool) | int (i:Int) | str (x:Str) | byt (b:Array UInt8) | flt (b:UInt64) | ref (a:Addr) | ty (n:String)
 deriving DecidableEq
noncomputable def RelV:V->Value->Prop
 | .non,u=>u = Value.none
 | .bl b,u=>u = Value.bool b
 | .int i,u=>∃ t,u = Value.int i t
 | .str x,u=>∃ t,u = Value.str x t
 | .byt b,u=>∃ t,u = Value.bytes b t
 | .flt b,u=>∃ t,u = Value.float b t
 | .ref a,u=>u = Value.ref a
 | .ty n,u=>u = Value.type n
noncomputable abbrev Vals:List V->List Value->Prop:=Paired RelV
theorem Vals.length {xs:List V} {us:List Value} (r:Vals xs us):xs.length = us.length:=Paired.length r
theorem Vals.get:∀ {xs:List V} {us:List Value} {i:Nat} {x:V},Vals xs us->xs[i]? = some x->∃ u,us[i]? = some u/\RelV x u
 | _,_,_,_,.nil,e=>by simp at e
 | _,_,0,_,.cons r _,e=>by simp at e; subst e; exact ⟨_,rfl,r⟩
 | _,_,i + 1,x,.cons _ t,e=>by
  obtain ⟨u,h1,h2⟩:=Vals.get (i:=i) (x:=x) t (by simpa using e)
  exact ⟨u,by simpa using h1,h2⟩
theorem Vals.set {x:V} {u:Value} (r:RelV x u):∀ {xs:List V} {us:List Value} (i:Nat),Vals xs us->Vals (xs.set i x) (us.set i u)
 | _,_,_,.nil=>.nil
 | _,_,0,.cons _ t=>.cons r t
 | _,_,i + 1,.cons q t=>.cons q (Vals.set r i t)
theorem Vals.append:∀ {xs ys:List V} {us ws:List Value},Vals xs us->Vals ys ws->Vals (xs ++ ys) (us ++ ws)
 | _,_,_,_,.nil,s=>s
 | _,_,_,_,.cons r t,s=>.cons r (Vals.append t s)
theorem Vals.take:∀ {xs:List V} {us:List Value} (n:Nat),Vals xs us->Vals (xs.take n) (us.take n)
 | _,_,0,_=>.nil
 | _,_,_ + 1,.nil=>.nil
 | _,_,n + 1,.cons r t=>.cons r (Vals.take n t)
theorem Vals.drop:∀ {xs:List V} {us:List Value} (n:Nat),Vals xs us->Vals (xs.drop n) (us.drop n)
 | _,_,0,r=>r
 | _,_,_ + 1,.nil=>.nil
 | _,_,n + 1,.cons _ t=>Vals.drop n t
theorem Vals.none_of:∀ {xs:List V} {us:List Value} {i:Nat},Vals xs us->xs[i]? = none->us[i]? = none:=fun {xs us i} r e=>by
 have h1:=r.length
 have h2:xs.length<=i:=List.getElem?_eq_none_iff.mp e
 exact List.getElem?_eq_none_iff.mpr (by omega)
noncomputable def RelO:Option V->Option Value->Prop
 | some v,some u=>RelV v u
 | none,none=>True
 | _,_=>False
noncomputable def KV {κ:Type}:List (κ × V)->List (κ × Value)->Prop:=Paired fun (p:κ × V) (q:κ × Value)=>p.1 = q.1/\RelV p.2 q.2
noncomputable def kV:Key->V
 | .inl i=>.int i
 | .inr x=>.str x
inductive HO where
 | lst (xs:List V)
 | tup (xs:List V)
 | dK (kvs:List (Key × V)) | dT (kvs:List (List Key × V))
 | set (S:Int->Bool) (n:Nat)
 | ins (C dx:Addr) (fs:List (Str × V))
 | own (x:Addr)
 | xd (fs:List (Str × V))
 | met (f x:Addr)
 | rng (lo hi:Int)
 | frz (o:Obj) (u:HO)
 | tbl (ps:Array Value)
 | ext (φ:Heap->Prop)
noncomputable abbrev Hp:=Addr->Option HO
noncomputable def upd (H:Hp) (a:Addr) (o:HO):Hp:=fun b=>if b = a then some o else H b
theorem upd_same {H:Hp} {a:Addr} {o:HO}:upd H a o a = some o:=by unfold upd; rw [if_pos rfl]
theorem upd_ne {H:Hp} {a b:Addr} {o:HO} (h:b ≠ a):upd H a o b = H b:=by unfold upd; rw [if_neg h]
theorem ne_of {H:Hp} {a b:Addr} {o u:HO} (h:H a = some o) (h':H b = some u) (d:o ≠ u):a ≠ b:=by
 intro e; subst e; rw [h] at h'; exact d (Option.some.inj h')
theorem ne_of_none {H:Hp} {a b:Addr} {o:HO} (h:H a = some o) (h':H b = none):a ≠ b:=by
 intro e; subst e; rw [h] at h'; cases h'
section
variable (P:Program) (w:World)
noncomputable def ObjOk (H:Hp) (h:Heap) (a:Addr):HO->Prop
 | .lst xs=>xs.length<=sizeLine/\∃ (its:List Value) (n:Nat),Vals xs its/\h.get? a = some { cls:=.type "list",data:=.seq its.toArray n }
 | .tup xs=>xs.length<=sizeLine/\∃ its:List Value,Vals xs its/\IsTup h a its.toArray
 | .dK kvs=>kvs.length<=sizeLine/\(a == sysModules) = false/\∃ vs,KV kvs vs/\h.DictOf (mixKind P w) a vs
 | .dT kvs=>kvs.length<=sizeLine/\(a == sysModules) = false/\∃ xs:List (List Key × Addr × Value),
   Paired (fun (p:List Key × V) (q:List Key × Addr × Value)=>p.1 = q.1/\H q.2.1 = some (.tup (p.1.map kV))/\RelV p.2 q.2.2) kvs xs/\
   ∃ o es ep,h.get? a = some o/\o.ExactDict/\o.data = .dict es ep/\es.toList = xs.map (entryOfKey (tupleKind (mixKind P w)))/\(xs.map (·.1)).Nodup
 | .set S n=>h.SetOf (intKind P w) a S n
 | .ins C dx fs=>H dx = some (.own a)/\fs.length<=1000/\dx ≠ a/\h.get? a = some (PySem.W.instObj C dx)/\
   ∃ mA,h.Ns1 dx mA/\(∀ f,RelO (fs.lookup f) (mA f))/\PySem.Within mA (fs.map (·.1))
 | .own _=>∃ o,h.get? a = some o
 | .xd fs=>∃ mA,h.Ns1 a mA/\∀ f,RelO (fs.lookup f) (mA f)
 | .rng lo hi=>∃ t u v,h.get? a = some { cls:=.type "range",data:=.fields #[.int lo t,.int hi u,.int 1 v] }
 | .frz o u=>h.get? a = some o/\ObjOk H h a u
 | .tbl ps=>h.get? a = some { cls:=.none,data:=.fields ps }
 | .met f x=>h.get? a = some (PySem.W.methodObj (.ref f) (.ref x))
 | .ext φ=>φ h/\(∃ o,h.get? a = some o)/\∀ h1 h2:Heap,φ h1->(∀ o,h1.get? a = some o->h2.get? a = some o)->φ h2
noncomputable def HOk (H:Hp) (h:Heap):Prop:=∀ a o,H a = some o->ObjOk P w H h a o
end
section
variable {P:Program} {w:World} {H H':Hp} {h h':Heap} {a:Addr} {o:HO}
theorem ObjOk.lt (x:ObjOk P w H h a o):a < h.objs.size:=by
 cases o with
 | lst xs=>obtain ⟨_,_,_,_,e⟩:=x; exact Heap.lt_size e
 | tup xs=>obtain ⟨_,_,_,p⟩:=x; exact p.lt
 | dK kvs=>obtain ⟨_,_,_,_,o,_,_,e,_⟩:=x; exact Heap.lt_size e
 | dT kvs=>obtain ⟨_,_,_,_,o,_,_,e,_⟩:=x; exact Heap.lt_size e
 | set S n=>obtain ⟨o,_,_,_,e,_⟩:=x; exact Heap.lt_size e
 | ins C dx fs=>obtain ⟨_,_,_,e,_⟩:=x; exact Heap.lt_size e
 | own y=>obtain ⟨_,e⟩:=x; exact Heap.lt_size e
 | xd fs=>obtain ⟨_,⟨_,_,_,e,_⟩,_⟩:=x; exact Heap.lt_size e
 | rng lo hi=>obtain ⟨_,_,_,e⟩:=x; exact Heap.lt_size e
 | frz ob u=>obtain ⟨e,_⟩:=x; exact Heap.lt_size e
 | tbl ps=>exact Heap.lt_size (show h.get? a = some _ from x)
 | met f y=>exact Heap.lt_size (show h.get? a = some _ from x)
 | ext φ=>obtain ⟨_,⟨_,e⟩,_⟩:=x; exact Heap.lt_size e
theorem Paired.mapP {α β:Type} {F G:α->β->Prop}:∀ {l₁:List α} {l₂:List β},Paired F l₁ l₂->(∀ a b,F a b->G a b)->Paired G l₁ l₂
 | _,_,.nil,_=>.nil
 | _,_,.cons r t,f=>.cons (f _ _ r) (Paired.mapP t f)
theorem ObjOk.stay (x:ObjOk P w H h a o) (k:∀ b u,(b = a\/H b = some (.own a))->h.get? b = some u->h'.get? b = some u)
  (ho:∀ b,H b = some (.own a)->H' b = some (.own a)) (ht:∀ b xs,H b = some (.tup xs)->H' b = some (.tup xs)):ObjOk P w H' h' a o:=by
 induction o with
 | lst xs=>obtain ⟨z,its,n,r,e⟩:=x; exact ⟨z,its,n,r,k _ _ (.inl rfl) e⟩
 | tup xs=>obtain ⟨z,its,r,ob,e,c⟩:=x; exact ⟨z,its,r,ob,k _ _ (.inl rfl) e,c⟩
 | dK kvs=>obtain ⟨z,y,vs,r,ob,es,ep,e,c⟩:=x; exact ⟨z,y,vs,r,ob,es,ep,k _ _ (.inl rfl) e,c⟩
 | dT kvs=>
  obtain ⟨z,y,xs,r,ob,es,ep,e,c⟩:=x
  exact ⟨z,y,xs,Paired.mapP r fun p q z=>⟨z.1,ht _ _ z.2.1,z.2.2⟩,ob,es,ep,k _ _ (.inl rfl) e,c⟩
 | set S n=>obtain ⟨ob,es,ep,t,e,c⟩:=x; exact ⟨ob,es,ep,t,k _ _ (.inl rfl) e,c⟩
 | ins C dx fs=>
  obtain ⟨d,z,ne,e,mA,⟨od,es,ep,e2,c⟩,r⟩:=x
  exact ⟨ho _ d,z,ne,k _ _ (.inl rfl) e,mA,⟨od,es,ep,k _ _ (.inr d) e2,c⟩,r⟩
 | own y=>obtain ⟨ob,e⟩:=x; exact ⟨ob,k _ _ (.inl rfl) e⟩
 | xd fs=>obtain ⟨mA,⟨od,es,ep,e,c⟩,r⟩:=x; exact ⟨mA,⟨od,es,ep,k _ _ (.inl rfl) e,c⟩,r⟩
 | rng lo hi=>obtain ⟨t,u,v,e⟩:=x; exact ⟨t,u,v,k _ _ (.inl rfl) e⟩
 | frz ob u ih=>obtain ⟨e,q⟩:=x; exact ⟨k _ _ (.inl rfl) e,ih q⟩
 | tbl ps=>
  have e:h.get? a = some { cls:=.none,data:=.fields ps }:=x
  show h'.get? a = some { cls:=.none,data:=.fields ps }
  exact k a _ (.inl rfl) e
 | met f y=>
  have e:h.get? a = some (PySem.W.methodObj (.ref f) (.ref y)):=x
  show h'.get? a = some (PySem.W.methodObj (.ref f) (.ref y))
  exact k a _ (.inl rfl) e
 | ext φ=>obtain ⟨p,⟨o,e⟩,st⟩:=x; exact ⟨st _ _ p fun o q=>k _ _ (.inl rfl) q,⟨o,k _ _ (.inl rfl) e⟩,st⟩
theorem HOk.lt (x:HOk P w H h) (e:H a = some o):a < h.objs.size:=(x a o e).lt
theorem HOk.fresh (x:HOk P w H h) (e:h.objs.size<=a):H a = none:=by
 cases q:H a with
 | none=>rfl
 | some u=>exact absurd (Nat.lt_of_lt_of_le (x.lt q) e) (Nat.lt_irrefl _)
theorem HOk.kept (x:HOk P w H h) (k:∀ b u,h.get? b = some u->h'.get? b = some u):HOk P w H h':=fun a o e=>
 (x a o e).stay (fun b u _ q=>k b u q) (fun _ q=>q) fun _ _ q=>q
theorem HOk.laid (x:HOk P w H h) (k:∀ b u,h.get? b = some u->h'.get? b = some u) (hp:h.objs.size<=a) (new:ObjOk P w (upd H a o) h' a o):HOk P w (upd H a o) h':=fun b u e=>by
 have hn:=x.fresh hp
 by_cases hb:b = a
 ·subst hb; rw [upd_same] at e; cases e; exact new
 ·rw [upd_ne hb] at e
  exact (x b u e).stay (fun c v _ q=>k c v q) (fun c q=>by rw [upd_ne (ne_of_none q hn)]; exact q) fun c xs q=>by rw [upd_ne (ne_of_none q hn)]; exact q
end
noncomputable def Rd (H:Hp) (a:Addr) (u:HO):Prop:=H a = some u\/∃ o,H a = some (.frz o u)
theorem Rd.ok {P:Program} {w:World} {H:Hp} {h:Heap} {a:Addr} {u:HO} (r:Rd H a u) (x:HOk P w H h):ObjOk P w H h a u:=by
 rcases r with r | ⟨o,r⟩
 ·exact x a u r
 ·obtain ⟨_,q⟩:=x a _ r
  exact q
noncomputable def Mut:Option HO->Prop
 | some (.lst _)=>True
 | some (.dK _)=>True
 | some (.dT _)=>True
 | some (.set _ _)=>True
 | some (.ins _ _ _)=>True
 | some (.ext _)=>True
 | _=>False
section
variable {P:Program} {w:World} {H:Hp} {h h':Heap} {x e:Addr} {o':HO}
theorem HOk.write (ok:HOk P w H h) (mu:Mut (H x)) (he:e = x\/H e = some (.own x)) (k:∀ b u,b ≠ e->h.get? b = some u->h'.get? b = some u) (heo:∃ u,h'.get? e = some u)
  (new:ObjOk P w (upd H x o') h' x o'):HOk P w (upd H x o') h':=fun b u q=>by
 have nown:∀ c y,H c = some (.own y)->c ≠ x:=fun c y r z=>by subst z; rw [r] at mu; exact mu
 have ntup:∀ c xs,H c = some (.tup xs)->c ≠ x:=fun c xs r z=>by subst z; rw [r] at mu; exact mu
 by_cases hb:b = x
 ·subst hb; rw [upd_same] at q; cases q; exact new
 ·rw [upd_ne hb] at q
  by_cases hbe:b = e
  ·have q':H b = some (.own x):=by
    rcases he with z | z
    ·exact absurd (hbe.trans z) hb
    ·rw [hbe]; exact z
   rw [q] at q'; cases q'
   obtain ⟨v,hv⟩:=heo
   exact ⟨v,by rw [hbe]; exact hv⟩
  ·refine (ok b u q).stay (fun c v hc r=>k c v ?_ r) (fun c r=>by rw [upd_ne (nown c b r)]; exact r) fun c xs r=>by rw [upd_ne (ntup c xs r)]; exact r
   rcases hc with rfl | hc
   ·exact hbe
   ·rintro rfl
    rcases he with z | z
    ·exact nown c b hc z
    ·rw [hc] at z; cases z; exact hb rfl
end
structure Un (fs ex:List Addr) (H H':Hp) (h h':Heap):Prop where
 keep:∀ b o,h.get? b = some o->H b = none->b ∉ fs->b ∉ ex->h'.get? b = some o
 slot:∀ b o,h.get? b = some o->H b = none->b ∈ fs->b ∉ ex->∃ sl,h'.get? b = some { o with slots:=sl }
 free:∀ b o,h.get? b = some o->H b = none->b ∉ ex->H' b = none
 there:∀ b o,h.get? b = some o->b ∉ ex->∃ o',h'.get? b = some o'
 tups:∀ b xs,H b = some (.tup xs)->H' b = some (.tup xs)
 frzs:∀ b o u,H b = some (.frz o u)->H' b = some (.frz o u)
 tbls:∀ b ps,H b = some (.tbl ps)->∃ more,H' b = some (.tbl (ps ++ more))
section
variable {fs fs' ex ex':List Addr} {H H1 H2:Hp} {h h1 h2 h':Heap} {a x e:Addr} {o:HO}
theorem Un.any (u:Un fs ex H H1 h h1) {b:Addr} {ob:Obj} (q:h.get? b = some ob) (n:H b = none) (hx:b ∉ ex):∃ sl,h1.get? b = some { ob with slots:=sl }:=by
 by_cases hb:b ∈ fs
 ·exact u.slot b ob q n hb hx
 ·exact ⟨ob.slots,u.keep b ob q n hb hx⟩
theorem Un.kept (k:∀ b u,h.get? b = some u->h'.get? b = some u):Un fs ex H H h h':=
 ⟨fun b ob q _ _ _=>k b ob q,fun b ob q _ _ _=>⟨ob.slots,k b ob q⟩,fun _ _ _ n _=>n,fun b ob q _=>⟨ob,k b ob q⟩,fun _ _ q=>q,fun _ _ _ q=>q,fun _ ps q=>⟨#[],by rw [q]; simp⟩⟩
theorem Un.refl:Un fs ex H H h h:=Un.kept fun _ _ q=>q
theorem Un.laid (k:∀ b u,h.get? b = some u->h'.get? b = some u) (hp:h.objs.size<=a) (hn:H a = none):Un fs ex H (upd H a o) h h' where
 keep:=fun b u q _ _ _=>k b u q
 slot:=fun b u q _ _ _=>⟨u.slots,k b u q⟩
 free:=fun b u q n _=>by rw [upd_ne (Nat.ne_of_lt (Nat.lt_of_lt_of_le (Heap.lt_size q) hp))]; exact n
 there:=fun b u q _=>⟨u,k b u q⟩
 tups:=fun b xs q=>by rw [upd_ne (ne_of_none q hn)]; exact q
 frzs:=fun b u xs q=>by rw [upd_ne (ne_of_none q hn)]; exact q
 tbls:=fun b ps q=>⟨#[],by rw [upd_ne (ne_of_none q hn),q]; simp⟩
theorem Un.write (mu:Mut (H x)) (he:e = x\/H e = some (.own x)) (k:∀ b u,b ≠ e->h.get? b = some u->h'.get? b = some u) (heo:∃ u,h'.get? e = some u):Un fs ex H (upd H x o) h h':=by
 have hx:∀ b,H b = none->b ≠ x:=fun b n z=>by subst z; rw [n] at mu; exact mu
 have hb:∀ b,H b = none->b ≠ e:=fun b n z=>by
  subst z
  rcases he with r | r
  ·exact hx b n r
  ·rw [n] at r; cases r
 have hm:∀ b u,H b = some u->¬ Mut (some u)->b ≠ x:=fun b u q nm z=>by subst z; rw [q] at mu; exact nm mu
 refine ⟨fun b u q n _ _=>k b u (hb b n) q,fun b u q n _ _=>⟨u.slots,k b u (hb b n) q⟩,fun b u q n _=>by rw [upd_ne (hx b n)]; exact n,fun b u q _=>?_,
  fun b xs q=>by rw [upd_ne (hm b _ q fun z=>z)]; exact q,fun b u xs q=>by rw [upd_ne (hm b _ q fun z=>z)]; exact q,fun b ps q=>⟨#[],by rw [upd_ne (hm b _ q fun z=>z),q]; simp⟩⟩
 by_cases hbe:b = e
 ·subst hbe; exact heo
 ·exact ⟨u,k b u hbe q⟩
end
noncomputable def trk (h:Heap) (H:Hp):List Addr:=(List.range h.objs.size).filter fun a=>(H a).isSome
noncomputable def hidT (h:Heap) (H:Hp):Heap:=PySem.W.hideAll h (trk h H)
theorem hidT_size (h:Heap) (H:Hp):(hidT h H).objs.size = h.objs.size:=PySem.W.hideAll_size _ _
theorem hidT_get {h:Heap} {H:Hp} {b:Addr} {o:Obj} (e:h.get? b = some o) (n:H b = none):(hidT h H).get? b = some o:=
 PySem.W.hideAll_get _ e fun hm=>by
  have q:(H b).isSome = true:=(List.mem_filter.mp hm).2
  rw [n] at q; simp at q
theorem of_hidT {h:Heap} {H:Hp} {b:Addr} {o:Obj} (e:(hidT h H).get? b = some o):h.get? b = some o/\H b = none:=by
 have e':h.get? b = some o:=PySem.W.of_hideAll (trk h H) e
 refine ⟨e',?_⟩
 cases q:H b with
 | none=>rfl
 | some x=>
  have hm:b ∈ trk h H:=List.mem_filter.mpr ⟨List.mem_range.mpr (Heap.lt_size e'),by simp [q]⟩
  have z:(hidT h H).get? b = none:=PySem.W.hideAll_none (trk h H) hm
  rw [z] at e; cases e
noncomputable def allNews (g h:Heap) (L:Addr):List (Addr × Obj):=(List.range h.objs.size).filterMap fun a=>if a = L\/(g.get? a).isSome = true then none else (h.get? a).map fun o=>(a,o)
noncomputable def rest (g h:Heap) (L d:Addr):List (Addr × Obj):=(allNews g h L).filter fun p=>decide (p.1 ≠ d)
end L2
namespace L2
open PySem PySem.Spec PyProof.Rows
structure Mod (K:PySem.W.Frag) (mg:Str->Option Value) (base:Heap):Prop where
 kin:K.In base
 glob:base.Ns mainGlobals mg
 blt:∃ mb,base.Ns builtinsNs mb/\∀ x:Str,x ≠ "__name__"->mb x = bootBuiltins x
 nolimit:base.NoLimit
structure Cx where
 prog:Program
 w:World
 K:PySem.W.Frag
 mg:Str->Option Value
 base:Heap
 A:Around
 N:List Str
 s₀:Shared
 H₀:Hp
 env:Env
 outer:List Env
 stack:List Env
 ex:List Addr
 fn:Str->Bool
 calm:Bool
 pn:List (Addr × Obj)
 xe:Value->Shared->Prop
noncomputable def frs (l:List Env):List Addr:=l.filterMap (·.frame)
noncomputable abbrev Cx.fs (X:Cx):List Addr:=frs X.outer
noncomputable def Vis (sc:Scope) (x:Str):Prop:=sc.names.lookup x = some .local\/sc.names.lookup x = some .cell\/sc.names.lookup x = some .free
noncomputable def Loc (sc:Scope) (x:Str):Prop:=sc.names.lookup x = some .local\/sc.names.lookup x = some .cell
noncomputable def Look (env:Env) (h:Heap) (m:Str->Option Value) (x:Str) (u:Value):Prop:=
 (env.kindOf x = some .local/\m x = some u)\/((env.kindOf x = some .cell\/env.kindOf x = some .free)/\∃ c,env.cells.lookup x = some c/\h.IsCell c (some u))
structure Cx.Ok (X:Cx):Prop where
 mod:Mod X.K X.mg X.base
 kind:X.env.scope.kind = .function
 glob:X.env.globals = mainGlobals
 blt:X.env.builtins = builtinsNs
 above:X.s₀.heap.objs.size<=X.env.locals
 inj:∀ x y c,X.env.cells.lookup x = some c->X.env.cells.lookup y = some c->x = y
 has:∀ x,(X.env.kindOf x = some .cell\/X.env.kindOf x = some .free)->∃ c,X.env.cells.lookup x = some c
 cab:∀ x c,X.fn x = true->X.env.cells.lookup x = some c->X.s₀.heap.objs.size<=c
 hd:X.calm = true->X.A.handled = none
 frames:X.A.frames = some X.stack
 stk:X.stack = X.outer\/(X.stack = X.env :: X.outer/\X.env.frame = some X.env.locals)
 exf:∀ b ∈ X.ex,b ≠ X.env.locals/\∀ x c,X.env.cells.lookup x = some c->c ≠ b
 bs:∀ b o,X.base.get? b = some o->X.s₀.heap.get? b = some o/\X.H₀ b = none
 bsz:X.base.objs.size<=X.s₀.heap.objs.size
 noex:∀ b o,X.base.get? b = some o->b ∉ X.ex
 exfs:∀ b ∈ X.ex,b ∉ X.fs
 funs:X.s₀.heap.FunFrames X.base X.outer
 frf:∀ b ∈ X.fs,X.H₀ b = none
structure Inv (X:Cx) (pins:List (Addr × Obj)) (σ:List (Option V)) (H:Hp) (s:Shared):Prop where
 ok:X.Ok
 os:s.os = X.s₀.os
 bare:AllBare s.gens
 base:Un X.fs X.ex X.H₀ H X.s₀.heap s.heap
 loc:∃ m,s.heap.Ns X.env.locals m/\∀ (i:Nat) (x:Str) (v:V),X.N[i]? = some x->σ[i]? = some (some v)->Vis X.env.scope x->∃ u,RelV v u/\Look X.env s.heap m x u
 cell:∀ x c,X.env.cells.lookup x = some c->∃ v,s.heap.IsCell c v
 free:H X.env.locals = none
 freeC:∀ x c,X.env.cells.lookup x = some c->H c = none
 pin:∀ p ∈ X.pn ++ pins,s.heap.get? p.1 = some p.2/\H p.1 = none/\p.1 ≠ X.env.locals/\p.1 ∉ X.fs/\∀ v,p.2.data ≠ .cell v
 hok:HOk X.prog X.w H s.heap
 len:σ.length = X.N.length
section
variable {X:Cx} {pins:List (Addr × Obj)} {σ:List (Option V)} {H H':Hp} {s:Shared} {h':Heap}
theorem Cx.Ok.nofr (ok:X.Ok) {b:Addr} {o:Obj} (e:X.base.get? b = some o):b ∉ X.fs:=fun hb=>by
 have:=(ok.funs.mem hb).1
 rw [e] at this; cases this
theorem Inv.bs (I:Inv X pins σ H s):∀ b o,X.base.get? b = some o->s.heap.get? b = some o/\H b = none:=fun b o e=>
 ⟨I.base.keep b o (I.ok.bs b o e).1 (I.ok.bs b o e).2 (I.ok.nofr e) (I.ok.noex b o e),I.base.free b o (I.ok.bs b o e).1 (I.ok.bs b o e).2 (I.ok.noex b o e)⟩
theorem Inv.bk (I:Inv X pins σ H s):∀ b o,X.base.get? b = some o->s.heap.get? b = some o:=fun b o e=>(I.bs b o e).1
theorem Inv.mod (I:Inv X pins σ H s):Mod X.K X.mg X.base:=I.ok.mod
theorem Inv.kIn (I:Inv X pins σ H s):X.K.In s.heap:=I.ok.mod.kin.keeps I.bk
theorem Inv.lt (I:Inv X pins σ H s):X.env.locals < s.heap.objs.size:=let ⟨_,hn,_⟩:=I.loc; hn.lt
theorem Inv.sz (I:Inv X pins σ H s):X.s₀.heap.objs.size<=s.heap.objs.size:=Nat.le_trans I.ok.above (Nat.le_of_lt I.lt)
theorem Inv.nofs (I:Inv X pins σ H s) {a:Addr} (h:s.heap.objs.size<=a):a ∉ X.fs:=fun hb=>by
 obtain ⟨_,o,ho,_⟩:=I.ok.funs.mem hb
 exact absurd (Nat.lt_of_lt_of_le (Heap.lt_size ho) (Nat.le_trans I.sz h)) (Nat.lt_irrefl _)
theorem Inv.cne (I:Inv X pins σ H s):∀ x c,X.env.cells.lookup x = some c->c ≠ X.env.locals:=fun x c e z=>by
 obtain ⟨v,o,ho,hd⟩:=I.cell x c e
 obtain ⟨m,⟨o',es,ep,ho',hd',_⟩,_⟩:=I.loc
 rw [z,ho'] at ho; cases ho; rw [hd'] at hd; cases hd
theorem Inv.funs (I:Inv X pins σ H s):s.heap.FunFrames X.base X.outer:=by
 have all:∀ (l:List Env),(∀ b ∈ frs l,b ∈ X.fs)->X.s₀.heap.FunFrames X.base l->s.heap.FunFrames X.base l:=by
  intro l
  induction l with
  | nil=>intro _ _; trivial
  | cons env r ih=>
   intro hs hl
   obtain ⟨hk,⟨L,o,hf,hn,ho,hd⟩,hr⟩:=hl
   have hL:L ∈ X.fs:=hs L (by unfold frs; rw [List.filterMap_cons,hf]; exact List.mem_cons_self)
   obtain ⟨sl,e⟩:=I.base.slot L o ho (I.ok.frf L hL) hL fun z=>I.ok.exfs L z hL
   exact ⟨hk,⟨L,_,hf,hn,e,hd⟩,ih (fun b hb=>hs b (by unfold frs; rw [List.filterMap_cons,hf]; exact List.mem_cons_of_mem _ hb)) hr⟩
 exact all X.outer (fun _ hb=>hb) I.ok.funs
theorem Inv.stack (I:Inv X pins σ H s):s.heap.FunFrames X.base X.stack:=by
 rcases I.ok.stk with e | ⟨e,hf⟩
 ·rw [e]; exact I.funs
 ·rw [e]
  obtain ⟨m,hn,_⟩:=I.loc
  refine .cons (by rw [I.ok.kind]; decide) hf hn ?_ I.funs
  exact Heap.get?_none_of_le (Nat.le_trans I.ok.bsz I.ok.above)
theorem Inv.stkSub (I:Inv X pins σ H s):∀ b ∈ frs X.stack,b ∈ X.env.locals :: X.fs:=fun b hb=>by
 rcases I.ok.stk with e | ⟨e,hf⟩
 ·rw [e] at hb; exact List.mem_cons_of_mem _ hb
 ·rw [e] at hb
  unfold frs at hb
  rw [List.filterMap_cons,hf] at hb
  exact hb
theorem Inv.stkFree (I:Inv X pins σ H s):∀ b ∈ frs X.stack,H b = none:=fun b hb=>by
 rcases List.mem_cons.mp (I.stkSub b hb) with e | hb
 ·rw [e]; exact I.free
 ·obtain ⟨_,o,ho,_⟩:=I.ok.funs.mem hb
  exact I.base.free b o ho (I.ok.frf b hb) fun z=>I.ok.exfs b z hb
theorem Inv.step {g':Array GenState} {t':Nat} {d':Drawn} {ch:List Addr} (I:Inv X pins σ H s)
  (hch:∀ b ∈ ch,(b ∈ X.ex\/X.s₀.heap.objs.size<=b)/\b ≠ X.env.locals/\(∀ x c,X.env.cells.lookup x = some c->c ≠ b)/\∀ p ∈ X.pn ++ pins,p.1 ≠ b)
  (keep:∀ b o,b ≠ X.env.locals->b ∉ X.fs->b ∉ ch->s.heap.get? b = some o->H b = none->h'.get? b = some o)
  (slot:∀ b o,b ≠ X.env.locals->b ∈ X.fs->b ∉ ch->s.heap.get? b = some o->H b = none->∃ sl,h'.get? b = some { o with slots:=sl }) (free:∀ b o,b ∉ ch->s.heap.get? b = some o->H b = none->H' b = none)
  (there:∀ b o,b ∉ ch->s.heap.get? b = some o->∃ o',h'.get? b = some o')
  (tups:∀ b xs,H b = some (.tup xs)->H' b = some (.tup xs)) (frzs:∀ b o u,H b = some (.frz o u)->H' b = some (.frz o u)) (tbls:∀ b ps,H b = some (.tbl ps)->∃ more,H' b = some (.tbl (ps ++ more)))
  (ns:∀ m,s.heap.Ns X.env.locals m->h'.Ns X.env.locals m) (hok:HOk X.prog X.w H' h') (hg:AllBare g') :
  Inv X pins σ H' { s with heap:=h',gens:=g',drawn:=d',toks:=t' }:=by
 have neL:∀ b o,X.s₀.heap.get? b = some o->b ≠ X.env.locals:=fun b o e=>Nat.ne_of_lt (Nat.lt_of_lt_of_le (Heap.lt_size e) I.ok.above)
 have neC:∀ b o,X.s₀.heap.get? b = some o->b ∉ X.ex->b ∉ ch:=fun b o e hx hb=>by
  rcases (hch b hb).1 with z | z
  ·exact hx z
  ·exact absurd (Nat.lt_of_lt_of_le (Heap.lt_size e) z) (Nat.lt_irrefl _)
 have cellK:∀ x c,X.env.cells.lookup x = some c->∀ v,s.heap.IsCell c v->h'.IsCell c v:=fun x c e v ⟨o,ho,hd⟩=>by
  have nch:c ∉ ch:=fun z=>(hch c z).2.2.1 x c e rfl
  by_cases hc:c ∈ X.fs
  ·obtain ⟨sl,q⟩:=slot c o (I.cne x c e) hc nch ho (I.freeC x c e)
   exact ⟨_,q,hd⟩
  ·exact ⟨o,keep c o (I.cne x c e) hc nch ho (I.freeC x c e),hd⟩
 refine ⟨I.ok,I.os,hg,⟨fun b o e n hb hx=>?_,fun b o e n hb hx=>?_,fun b o e n hx=>?_,fun b o e hx=>?_,fun b xs e=>tups b xs (I.base.tups b xs e),fun b o xs e=>frzs b o xs (I.base.frzs b o xs e),fun b ps e=>?_⟩,?_,fun x c e=>?_,?_,fun x c e=>?_,fun p hp=>?_,hok,I.len⟩
 ·exact keep b o (neL b o e) hb (neC b o e hx) (I.base.keep b o e n hb hx) (I.base.free b o e n hx)
 ·obtain ⟨sl,e1⟩:=I.base.slot b o e n hb hx
  obtain ⟨sl',e2⟩:=slot b _ (neL b o e) hb (neC b o e hx) e1 (I.base.free b o e n hx)
  exact ⟨sl',e2⟩
 ·obtain ⟨o',e1⟩:=I.base.there b o e hx
  exact free b o' (neC b o e hx) e1 (I.base.free b o e n hx)
 ·obtain ⟨o',e1⟩:=I.base.there b o e hx
  exact there b o' (neC b o e hx) e1
 ·obtain ⟨m1,e1⟩:=I.base.tbls b ps e
  obtain ⟨m2,e2⟩:=tbls b _ e1
  exact ⟨m1 ++ m2,by rw [e2,Array.append_assoc]⟩
 ·obtain ⟨m,hn,hl⟩:=I.loc
  refine ⟨m,ns m hn,fun i x v e1 e2 e3=>?_⟩
  obtain ⟨u,r,l⟩:=hl i x v e1 e2 e3
  refine ⟨u,r,?_⟩
  rcases l with l | ⟨k,c,e,z⟩
  ·exact .inl l
  ·exact .inr ⟨k,c,e,cellK x c e _ z⟩
 ·obtain ⟨v,z⟩:=I.cell x c e
  exact ⟨v,cellK x c e v z⟩
 ·obtain ⟨m,⟨o,_,_,ho,_⟩,_⟩:=I.loc
  exact free _ o (fun z=>(hch _ z).2.1 rfl) ho I.free
 ·obtain ⟨v,o,ho,hd⟩:=I.cell x c e
  exact free c o (fun z=>(hch c z).2.2.1 x c e rfl) ho (I.freeC x c e)
 ·obtain ⟨e,n,ne,nf,d⟩:=I.pin p hp
  have nch:p.1 ∉ ch:=fun z=>(hch p.1 z).2.2.2 p hp rfl
  exact ⟨keep p.1 p.2 ne nf nch e n,free p.1 p.2 nch e n,ne,nf,d⟩
theorem Inv.un {t':Nat} (I:Inv X pins σ H s) (u:Un X.fs [] H H' s.heap h') (hok:HOk X.prog X.w H' h'):Inv X pins σ H' { s with heap:=h',toks:=t' }:=by
 obtain ⟨m,⟨o,es,ep,ho,r⟩,_⟩:=id I.loc
 obtain ⟨sl,hL⟩:=u.any ho I.free (by simp)
 exact I.step (g':=s.gens) (d':=s.drawn) (ch:=[]) (fun _ z=>nomatch z) (fun b o _ hb _ e n=>u.keep b o e n hb (by simp)) (fun b o _ hb _ e n=>u.slot b o e n hb (by simp)) (fun b o _ e n=>u.free b o e n (by simp)) (fun b o _ e=>u.there b o e (by simp)) u.tups u.frzs u.tbls (fun m' hm=>by
  obtain ⟨o',es',ep',ho',r'⟩:=hm
  rw [ho] at ho'; cases ho'
  exact ⟨_,es',ep',hL,r'⟩) hok I.bare
theorem Inv.call {g':Array GenState} {t':Nat} {d':Drawn} {ch:List Addr} (I:Inv X pins σ H s) (u:Un (frs X.stack) ch H H' s.heap h') (hok:HOk X.prog X.w H' h') (hg:AllBare g')
  (hch:∀ b ∈ ch,(b ∈ X.ex\/X.s₀.heap.objs.size<=b)/\b ≠ X.env.locals/\(∀ x c,X.env.cells.lookup x = some c->c ≠ b)/\∀ p ∈ X.pn ++ pins,p.1 ≠ b) :
  Inv X pins σ H' { s with heap:=h',gens:=g',drawn:=d',toks:=t' }:=by
 obtain ⟨m,⟨o,es,ep,ho,r⟩,_⟩:=id I.loc
 obtain ⟨sl,hL⟩:=u.any ho I.free fun z=>(hch _ z).2.1 rfl
 exact I.step (ch:=ch) hch (fun b o hL hb hc e n=>u.keep b o e n (fun z=>(List.mem_cons.mp (I.stkSub b z)).elim hL hb) hc) (fun b o _ _ hc e n=>u.any e n hc) (fun b o hc e n=>u.free b o e n hc) (fun b o hc e=>u.there b o e hc) u.tups u.frzs u.tbls (fun m' hm=>by
  obtain ⟨o',es',ep',ho',r'⟩:=hm
  rw [ho] at ho'; cases ho'
  exact ⟨_,es',ep',hL,r'⟩) hok hg
theorem Inv.turned {t':Nat} {it:Addr} (I:Inv X pins σ H s) (k:∀ b o,b ≠ it->s.heap.get? b = some o->h'.get? b = some o) (hn:H it = none) (hL:it ≠ X.env.locals)
  (h1:it ∈ X.ex\/X.s₀.heap.objs.size<=it) (h2:∀ x c,X.env.cells.lookup x = some c->c ≠ it) (h3:∀ p ∈ X.pn ++ pins,p.1 ≠ it):Inv X pins σ H { s with heap:=h',toks:=t' }:=by
 have nit:∀ b u,H b = some u->b ≠ it:=fun b u e z=>by rw [z,hn] at e; cases e
 refine I.step (g':=s.gens) (d':=s.drawn) (ch:=[it]) (fun b hb=>?_) (fun b o _ _ hc e _=>k b o (fun z=>hc (by simp [z])) e) (fun b o _ _ hc e _=>⟨o.slots,k b o (fun z=>hc (by simp [z])) e⟩) (fun _ _ _ _ n=>n)
  (fun b o hc e=>⟨o,k b o (fun z=>hc (by simp [z])) e⟩) (fun _ _ e=>e) (fun _ _ _ e=>e) (fun b ps e=>⟨#[],by rw [e]; simp⟩) (fun m hm=>?_) (fun b u e=>?_) I.bare
 ·have e:b = it:=by simpa using hb
  subst e
  exact ⟨h1,hL,h2,h3⟩
 ·obtain ⟨o,es,ep,ho,r⟩:=hm
  exact ⟨o,es,ep,k _ o (Ne.symm hL) ho,r⟩
 ·refine (I.hok b u e).stay (fun c v hc q=>k c v ?_ q) (fun _ q=>q) fun _ _ q=>q
  rcases hc with z | z
  ·rw [z]; exact nit b u e
  ·exact nit c _ z
theorem Inv.tok (I:Inv X pins σ H s) (t:Nat):Inv X pins σ H { s with toks:=t }:=I.un (h':=s.heap) (t':=t) Un.refl I.hok
theorem Inv.kept {t':Nat} (I:Inv X pins σ H s) (k:∀ b u,s.heap.get? b = some u->h'.get? b = some u):Inv X pins σ H { s with heap:=h',toks:=t' }:=I.un (Un.kept k) (I.hok.kept k)
theorem Inv.laid {a:Addr} {o:HO} {t':Nat} (I:Inv X pins σ H s) (k:∀ b u,s.heap.get? b = some u->h'.get? b = some u) (hp:s.heap.objs.size<=a) (new:ObjOk X.prog X.w (upd H a o) h' a o) :
  Inv X pins σ (upd H a o) { s with heap:=h',toks:=t' }:=I.un (Un.laid k hp (I.hok.fresh hp)) (I.hok.laid k hp new)
theorem Inv.write {x e:Addr} {o:HO} {t':Nat} (I:Inv X pins σ H s) (mu:Mut (H x)) (he:e = x\/H e = some (.own x)) (k:∀ b u,b ≠ e->s.heap.get? b = some u->h'.get? b = some u) (heo:∃ u,h'.get? e = some u)
  (new:ObjOk X.prog X.w (upd H x o) h' x o):Inv X pins σ (upd H x o) { s with heap:=h',toks:=t' }:=I.un (Un.write mu he k heo) (I.hok.write mu he k heo new)
theorem Inv.pins_of {pins':List (Addr × Obj)} (I:Inv X pins σ H s) (h:∀ p ∈ pins',s.heap.get? p.1 = some p.2/\H p.1 = none/\p.1 ≠ X.env.locals/\p.1 ∉ X.fs/\∀ v,p.2.data ≠ .cell v):Inv X pins' σ H s:=
 ⟨I.ok,I.os,I.bare,I.base,I.loc,I.cell,I.free,I.freeC,fun p hp=>(List.mem_append.mp hp).elim (fun z=>I.pin p (List.mem_append_left _ z)) (h p),I.hok,I.len⟩
theorem nodup_ix {N:List Str} (hN:N.Nodup) {i j:Nat} {x:Str} (a:N[i]? = some x) (b:N[j]? = some x):i = j:=by
 obtain ⟨h1,e1⟩:=List.getElem?_eq_some_iff.mp a
 obtain ⟨h2,e2⟩:=List.getElem?_eq_some_iff.mp b
 exact (List.getElem_inj hN).mp (e1.trans e2.symm)
theorem store_ok2 {M:Model} {A:Around} {E:Value->Shared->Prop} {i:Nat} {x:Str} {v:V} {u:Value} {Q:Unit->Shared->Prop} (I:Inv X pins σ H s) (hN:X.N.Nodup) (hi:X.N[i]? = some x) (hx:Loc X.env.scope x) (r:RelV v u)
  (h:∀ s',Inv X pins (σ.set i (some v)) H s'->(∃ a,Heap.SameBut a s.heap s'.heap/\(a = X.env.locals\/X.env.cells.lookup x = some a))->Q () s') (hf:X.fn x = true\/X.env.scope.names.lookup x = some .local:=by first | exact .inl rfl | exact .inr rfl | assumption):wpAny M A (storeName X.env x u) Q E s:=by
 obtain ⟨m,hn,hl⟩:=id I.loc
 have hcls:(X.env.scope.kind == .class || (X.env.scope.kind == .module && X.env.locals != X.env.globals)) = false:=by rw [I.ok.kind]; rfl
 have hiσ:i < σ.length:=by rw [I.len]; exact (List.getElem?_eq_some_iff.mp hi).1
 have cne:=I.cne
 have tracked:∀ {a:Addr} {h':Heap},(∃ o,s.heap.get? a = some o/\H a = none)->Heap.SameBut a s.heap h'->HOk X.prog X.w H h':=fun {a h'} ha hs b ob e=>by
  obtain ⟨_,_,hfree⟩:=ha
  refine (I.hok b ob e).stay (fun c w' hc q=>(hs.2 c ?_).trans q) (fun _ q=>q) fun _ _ q=>q
  rintro rfl
  rcases hc with rfl | hc
  ·rw [hfree] at e; cases e
  ·rw [hfree] at hc; cases hc
 rcases hx with hk | hk
 ·refine wpAny_storeName_local hk hn (fun h' hn' hs=>?_) hcls
  obtain ⟨oL,_,_,hoL,_⟩:=id hn
  refine h _ ⟨I.ok,I.os,I.bare,⟨fun b o e n hb hx=>?_,fun b o e n hb hx=>?_,I.base.free,fun b o e hx=>?_,I.base.tups,I.base.frzs,I.base.tbls⟩,⟨_,hn',fun j y v' e1 e2 e3=>?_⟩,fun y c e=>?_,I.free,I.freeC,fun p hp=>?_,tracked ⟨oL,hoL,I.free⟩ hs,by simpa using I.len⟩ ⟨_,hs,.inl rfl⟩
  ·exact (hs.2 b (Nat.ne_of_lt (Nat.lt_of_lt_of_le (Heap.lt_size e) I.ok.above))).trans (I.base.keep b o e n hb hx)
  ·obtain ⟨sl,e1⟩:=I.base.slot b o e n hb hx
   exact ⟨sl,(hs.2 b (Nat.ne_of_lt (Nat.lt_of_lt_of_le (Heap.lt_size e) I.ok.above))).trans e1⟩
  ·obtain ⟨o',e1⟩:=I.base.there b o e hx
   exact ⟨o',(hs.2 b (Nat.ne_of_lt (Nat.lt_of_lt_of_le (Heap.lt_size e) I.ok.above))).trans e1⟩
  ·by_cases hj:j = i
   ·subst hj
    rw [hi] at e1; cases e1
    rw [List.getElem?_set_self hiσ] at e2
    cases e2
    exact ⟨u,r,.inl ⟨hk,by simp⟩⟩
   ·rw [List.getElem?_set_ne (Ne.symm hj)] at e2
    obtain ⟨u',r',q⟩:=hl j y v' e1 e2 e3
    refine ⟨u',r',?_⟩
    rcases q with ⟨k,e⟩ | ⟨k,c,e,z⟩
    ·refine .inl ⟨k,?_⟩
     have:y ≠ x:=fun e=>hj (nodup_ix hN e1 (e ▸ hi))
     simp [this,e]
    ·exact .inr ⟨k,c,e,z.sameBut hs (cne y c e)⟩
  ·obtain ⟨w',z⟩:=I.cell y c e
   exact ⟨w',z.sameBut hs (cne y c e)⟩
  ·obtain ⟨e,n,ne,nf,d⟩:=I.pin p hp
   exact ⟨(hs.2 p.1 ne).trans e,n,ne,nf,d⟩
 ·have hfn:X.fn x = true:=by
   rcases hf with z | z
   ·exact z
   ·rw [z] at hk; cases hk
  obtain ⟨c,hc⟩:=I.ok.has x (.inl hk)
  obtain ⟨w',z⟩:=I.cell x c hc
  refine wpAny_storeName_cell I.ok.kind hk hc z (fun h' hc' hs=>?_)
  obtain ⟨oc,hoc,hocd⟩:=id z
  refine h { s with heap:=h' } ⟨I.ok,I.os,I.bare,⟨fun b o e n hb hx=>?_,fun b o e n hb hx=>?_,I.base.free,fun b o e hx=>?_,I.base.tups,I.base.frzs,I.base.tbls⟩,⟨m,hn.sameBut hs (Ne.symm (cne x c hc)),fun j y v' e1 e2 e3=>?_⟩,fun y c' e=>?_,I.free,I.freeC,fun p hp=>?_,tracked ⟨oc,hoc,I.freeC x c hc⟩ hs,by simpa using I.len⟩ ⟨c,hs,.inr hc⟩
  ·exact (hs.2 b (Nat.ne_of_lt (Nat.lt_of_lt_of_le (Heap.lt_size e) (I.ok.cab x c hfn hc)))).trans (I.base.keep b o e n hb hx)
  ·obtain ⟨sl,e1⟩:=I.base.slot b o e n hb hx
   exact ⟨sl,(hs.2 b (Nat.ne_of_lt (Nat.lt_of_lt_of_le (Heap.lt_size e) (I.ok.cab x c hfn hc)))).trans e1⟩
  ·obtain ⟨o',e1⟩:=I.base.there b o e hx
   exact ⟨o',(hs.2 b (Nat.ne_of_lt (Nat.lt_of_lt_of_le (Heap.lt_size e) (I.ok.cab x c hfn hc)))).trans e1⟩
  ·by_cases hj:j = i
   ·subst hj
    rw [hi] at e1; cases e1
    rw [List.getElem?_set_self hiσ] at e2
    cases e2
    exact ⟨u,r,.inr ⟨.inl hk,c,hc,hc'⟩⟩
   ·rw [List.getElem?_set_ne (Ne.symm hj)] at e2
    obtain ⟨u',r',q⟩:=hl j y v' e1 e2 e3
    refine ⟨u',r',?_⟩
    rcases q with q | ⟨k,c',e,z'⟩
    ·exact .inl q
    ·refine .inr ⟨k,c',e,z'.sameBut hs ?_⟩
     rintro rfl
     exact hj (nodup_ix hN e1 (I.ok.inj _ _ _ e hc ▸ hi))
  ·by_cases hcc:c' = c
   ·subst hcc; exact ⟨_,hc'⟩
   ·obtain ⟨w2,z2⟩:=I.cell y c' e
    exact ⟨w2,z2.sameBut hs hcc⟩
  ·obtain ⟨e,n,ne,nf,d⟩:=I.pin p hp
   refine ⟨(hs.2 p.1 ?_).trans e,n,ne,nf,d⟩
   intro q
   rw [q,hoc] at e
   have q':oc = p.2:=Option.some.inj e
   exact d w' (by rw [<- q']; exact hocd)
theorem store_ok {M:Model} {A:Around} {E:Value->Shared->Prop} {i:Nat} {x:Str} {v:V} {u:Value} {Q:Unit->Shared->Prop} (I:Inv X pins σ H s) (hN:X.N.Nodup) (hi:X.N[i]? = some x) (hx:Loc X.env.scope x) (r:RelV v u)
  (h:∀ s',Inv X pins (σ.set i (some v)) H s'->Q () s') (hf:X.fn x = true\/X.env.scope.names.lookup x = some .local:=by first | exact .inl rfl | exact .inr rfl | assumption):wpAny M A (storeName X.env x u) Q E s:=
 store_ok2 I hN hi hx r (fun s' I' _=>h s' I') hf
theorem Inv.call' {s':Shared} {ch:List Addr} (I:Inv X pins σ H s) (ho:s'.os = s.os) (u:Un (frs X.stack) ch H H' s.heap s'.heap) (hok:HOk X.prog X.w H' s'.heap) (hg:AllBare s'.gens)
  (hch:∀ b ∈ ch,(b ∈ X.ex\/X.s₀.heap.objs.size<=b)/\b ≠ X.env.locals/\(∀ x c,X.env.cells.lookup x = some c->c ≠ b)/\∀ p ∈ X.pn ++ pins,p.1 ≠ b):Inv X pins σ H' s':=by
 obtain ⟨h',g',d',t',o'⟩:=s'
 have e:o' = s.os:=ho
 subst e
 exact I.call (g':=g') (t':=t') (d':=d') u hok hg hch
end
noncomputable abbrev XK:=Value->Option Addr->Hp->Prop
noncomputable abbrev St:=List (Option V)
noncomputable abbrev VK:=V->Hp->Prop
noncomputable abbrev TE:=St->Hp->VK->Prop
noncomputable abbrev TT:=St->Hp->(Bool->Hp->Prop)->Prop
noncomputable abbrev TA:=St->Hp->(List V->Hp->Prop)->Prop
structure Ends where
 nx:St->Hp->Prop
 rt:VK
 bk:St->Hp->Prop:=fun _ _=>False
 ct:St->Hp->Prop:=fun _ _=>False
noncomputable abbrev TS:=Ends->St->Hp->Prop
noncomputable def EP (X:Cx) (pins:List (Addr × Obj)) (σ:St) (Q:VK) (u:Value) (s':Shared):Prop:=∃ v H',Inv X pins σ H' s'/\RelV v u/\Q v H'
noncomputable def TP (X:Cx) (pins:List (Addr × Obj)) (σ:St) (Q:Bool->Hp->Prop) (b:Bool) (s':Shared):Prop:=∃ H',Inv X pins σ H' s'/\Q b H'
noncomputable def AP (X:Cx) (pins:List (Addr × Obj)) (σ:St) (Q:List V->Hp->Prop) (us:List Value) (s':Shared):Prop:=∃ vs H',Inv X pins σ H' s'/\Vals vs us/\Q vs H'
noncomputable def SP (X:Cx) (pins:List (Addr × Obj)) (D:Ends) (f:Flow) (s':Shared):Prop:=
 match f with
 | .next=>∃ σ' H',Inv X pins σ' H' s'/\D.nx σ' H'
 | .brk=>∃ σ' H',Inv X pins σ' H' s'/\D.bk σ' H'
 | .cont=>∃ σ' H',Inv X pins σ' H' s'/\D.ct σ' H'
 | .ret u=>∃ v σ' H',Inv X pins σ' H' s'/\RelV v u/\D.rt v H'
noncomputable def PE (X:Cx) (e:Expr) (t:TE):Prop:=
 ∀ (pins:List (Addr × Obj)) (s:Shared) (σ:St) (H:Hp) (Q:VK),Inv X pins σ H s->t σ H Q->wpAny (model X.prog X.w) X.A (eval e X.env) (EP X pins σ Q) X.xe s
noncomputable def PT (X:Cx) (e:Expr) (t:TT):Prop:=
 ∀ (pins:List (Addr × Obj)) (s:Shared) (σ:St) (H:Hp) (Q:Bool->Hp->Prop),Inv X pins σ H s->t σ H Q->wpAny (model X.prog X.w) X.A (isTrue e X.env (eval e X.env)) (TP X pins σ Q) X.xe s
noncomputable def PW (X:Cx) (e:Expr) (t:TT):Prop:=
 ∀ (whole:Sem Value) (pins:List (Addr × Obj)) (s:Shared) (σ:St) (H:Hp) (Q:Bool->Hp->Prop),Inv X pins σ H s->t σ H Q->wpAny (model X.prog X.w) X.A (isTrue e X.env whole) (TP X pins σ Q) X.xe s
noncomputable def PA (X:Cx) (es:List Expr) (t:TA):Prop:=
 ∀ (pos:Pos) (pins:List (Addr × Obj)) (s:Shared) (σ:St) (H:Hp) (Q:List V->Hp->Prop),Inv X pins σ H s->t σ H Q->wpAny (model X.prog X.w) X.A (spliced (backTo pos (starEach es X.env))) (AP X pins σ Q) X.xe s
noncomputable def PS (X:Cx) (st:Stmt) (t:TS):Prop:=
 ∀ (pins:List (Addr × Obj)) (s:Shared) (σ:St) (H:Hp) (D:Ends),Inv X pins σ H s->t D σ H->wpAny (model X.prog X.w) X.A (exec st X.env) (SP X pins D) X.xe s
noncomputable def PSs (X:Cx) (st:List Stmt) (t:TS):Prop:=
 ∀ (pins:List (Addr × Obj)) (s:Shared) (σ:St) (H:Hp) (D:Ends),Inv X pins σ H s->t D σ H->wpAny (model X.prog X.w) X.A (execs st X.env) (SP X pins D) X.xe s
theorem thn {α:Type} {t:Sem α} {Q Q':α->Shared->Prop} {M:Model} {A:Around} {E:Value->Shared->Prop} {s:Shared} (h:wpAny M A t Q E s) (hQ:∀ a s,Q a s->Q' a s):wpAny M A t Q' E s:=wpAny_mono h hQ fun _ _ x=>x
end L2
namespace L2
open PySem PySem.Spec PyProof.Rows
section
variable {X:Cx}
noncomputable def tVar (i:Nat):TE:=fun σ H Q=>∃ v,σ[i]? = some (some v)/\Q v H
noncomputable def tC (v:V):TE:=fun _ H Q=>Q v H
theorem pe_var {i:Nat} {x:Str} {pos:Pos} (hN:X.N[i]? = some x) (hv:Vis X.env.scope x) (hd:(x == ("__debug__":Str)) = false:=by decide) (hcd:(x == ("__classdict__":Str)) = false:=by decide):PE X (.Name x pos) (tVar i):=by
 intro pins s σ H Q I h
 obtain ⟨v,e,h⟩:=h
 obtain ⟨m,hn,hl⟩:=I.loc
 obtain ⟨u,r,l⟩:=hl i x v hN e hv
 have fin:EP X pins σ Q u s:=⟨v,H,I,r,h⟩
 rcases l with ⟨hk,hm⟩ | ⟨hk,c,hc,hcell⟩
 ·exact wpAny_Name (wpAny_loadName_local I.ok.kind hk hn hm fin) hd
 ·rcases hk with hk | hk
  ·exact wpAny_Name (wpAny_loadName_cell I.ok.kind hk hc hcell fin) hd
  ·exact wpAny_Name (wpAny_loadName_free I.ok.kind hk hc hcell fin hcd) hd
theorem pe_int {i j pos}:PE X (.Constant (.int i) j pos) (tC (.int i)):=fun _ _ _ H _ I h=>wpAny_Constant_int ⟨.int i,H,I.tok _,⟨_,rfl⟩,h⟩
theorem pe_bl {b j pos}:PE X (.Constant (.bool b) j pos) (tC (.bl b)):=fun _ _ _ H _ I h=>Constant_bool ⟨.bl b,H,I,rfl,h⟩
theorem pe_non {j pos}:PE X (.Constant .none j pos) (tC .non):=fun _ _ _ H _ I h=>Constant_none ⟨.non,H,I,rfl,h⟩
theorem pe_str {x j pos}:PE X (.Constant (.str x) j pos) (tC (.str x)):=fun _ _ _ H _ I h=>Calls.Constant_str ⟨.str x,H,I.tok _,⟨_,rfl⟩,h⟩
noncomputable def Gl (X:Cx) (x:Str):Prop:=X.env.kindOf x = some .globalImplicit
theorem ld_glob {E:Value->Shared->Prop} {pins:List (Addr × Obj)} {s:Shared} {σ:St} {H:Hp} {x:Str} {u:Value} {pos:Pos} {Q:Value->Shared->Prop} (I:Inv X pins σ H s) (hg:Gl X x) (hm:X.mg x = some u) (h:Q u s)
  (hd:(x == ("__debug__":Str)) = false:=by decide):wpAny (model X.prog X.w) X.A (eval (.Name x pos) X.env) Q E s:=
 Calls.Name_function_global I.ok.kind hg (Calls.loadGlobal_global (by rw [I.ok.glob]; exact I.mod.glob.keeps I.bk) hm h) hd
theorem ld_blt {E:Value->Shared->Prop} {pins:List (Addr × Obj)} {s:Shared} {σ:St} {H:Hp} {x:Str} {u:Value} {pos:Pos} {Q:Value->Shared->Prop} (I:Inv X pins σ H s) (hg:Gl X x) (hm:X.mg x = none) (hv:bootBuiltins x = some u) (h:Q u s)
  (hn:x ≠ "__name__":=by decide) (hd:(x == ("__debug__":Str)) = false:=by decide):wpAny (model X.prog X.w) X.A (eval (.Name x pos) X.env) Q E s:=by
 obtain ⟨mb,h1,h2⟩:=I.mod.blt
 exact Calls.Name_function_global I.ok.kind hg (Calls.loadGlobal_builtin (by rw [I.ok.glob]; exact I.mod.glob.keeps I.bk) hm (by rw [I.ok.blt]; exact h1.keeps I.bk) ((h2 x hn).trans hv) h) hd
theorem pe_glob {x:Str} {v:V} {u:Value} {pos:Pos} (hg:Gl X x) (hm:X.mg x = some u) (r:RelV v u) (hd:(x == ("__debug__":Str)) = false:=by decide):PE X (.Name x pos) (tC v):=
 fun _ _ _ H _ I h=>ld_glob I hg hm ⟨v,H,I,r,h⟩ hd
theorem pe_bltn {x:Str} {v:V} {u:Value} {pos:Pos} (hg:Gl X x) (hm:X.mg x = none) (hv:bootBuiltins x = some u) (r:RelV v u) (hn:x ≠ "__name__":=by decide) (hd:(x == ("__debug__":Str)) = false:=by decide):PE X (.Name x pos) (tC v):=
 fun _ _ _ H _ I h=>ld_blt I hg hm hv ⟨v,H,I,r,h⟩ hn hd
variable {a b:Expr} {ta tb:TE} {pos:Pos}
variable {tA tB':TT} {rest:List Expr}
noncomputable def tAnd (t u:TT):TT:=fun σ H Q=>t σ H fun c H1=>if c = true then u σ H1 Q else Q false H1
noncomputable def tOr (t u:TT):TT:=fun σ H Q=>t σ H fun c H1=>if c = true then Q true H1 else u σ H1 Q
noncomputable def tNot (t:TT):TT:=fun σ H Q=>t σ H fun c H1=>Q (!c) H1
theorem pw_and1 (ha:PT X a tA):PW X (.BoolOp .And [a] pos) tA:=by
 intro wh pins s σ H Q I h
 refine isTrue_and (thn (ha pins s σ H Q I h) fun c s1 e=>?_)
 cases c with
 | true=>exact isTrue_and_nil e
 | false=>exact e
theorem pw_or1 (ha:PT X a tA):PW X (.BoolOp .Or [a] pos) tA:=by
 intro wh pins s σ H Q I h
 refine isTrue_or (thn (ha pins s σ H Q I h) fun c s1 e=>?_)
 cases c with
 | false=>exact isTrue_or_nil e
 | true=>exact e
theorem pw_and (ha:PT X a tA) (hb:PW X (.BoolOp .And (b :: rest) pos) tB'):PW X (.BoolOp .And (a :: b :: rest) pos) (tAnd tA tB'):=by
 intro wh pins s σ H Q I h
 refine isTrue_and (thn (ha pins s σ H _ I h) fun c s1 ⟨H1,I1,q1⟩=>?_)
 cases c with
 | true=>exact hb wh pins s1 σ H1 Q I1 q1
 | false=>exact ⟨H1,I1,q1⟩
theorem pw_or (ha:PT X a tA) (hb:PW X (.BoolOp .Or (b :: rest) pos) tB'):PW X (.BoolOp .Or (a :: b :: rest) pos) (tOr tA tB'):=by
 intro wh pins s σ H Q I h
 refine isTrue_or (thn (ha pins s σ H _ I h) fun c s1 ⟨H1,I1,q1⟩=>?_)
 cases c with
 | true=>exact ⟨H1,I1,q1⟩
 | false=>exact hb wh pins s1 σ H1 Q I1 q1
theorem pt_not (ha:PT X a tA):PT X (.UnaryOp .Not a pos) (tNot tA):=by
 intro pins s σ H Q I h
 exact isTrue_not (ha pins s σ H (fun c H1=>Q (!c) H1) I h)
noncomputable def tAndV (ta tb:TE):TE:=fun σ H Q=>ta σ H fun x H1=>∃ c,x = .bl c/\if c = true then tb σ H1 Q else Q (.bl false) H1
noncomputable def tOrV (ta tb:TE):TE:=fun σ H Q=>ta σ H fun x H1=>∃ c,x = .bl c/\if c = true then Q (.bl true) H1 else tb σ H1 Q
theorem pe_one {op} {t:TE} (h:PE X a t):PE X (.BoolOp op [a] pos) t:=fun pins s σ H Q I hw=>BoolOp_one (h pins s σ H Q I hw)
theorem pe_and (ha:PE X a ta) (hb:PE X (.BoolOp .And (b :: rest) pos) tb):PE X (.BoolOp .And (a :: b :: rest) pos) (tAndV ta tb):=by
 intro pins s σ H Q I h
 refine BoolOp_and (thn (ha pins s σ H _ I h) fun v s1 ⟨x,H1,I1,r1,q1⟩=>?_)
 obtain ⟨c,rfl,q1⟩:=q1
 cases r1
 refine wpAny_truthy_bool ?_
 cases c with
 | true=>exact hb pins s1 σ H1 Q I1 q1
 | false=>exact ⟨.bl false,H1,I1,rfl,q1⟩
theorem pe_or (ha:PE X a ta) (hb:PE X (.BoolOp .Or (b :: rest) pos) tb):PE X (.BoolOp .Or (a :: b :: rest) pos) (tOrV ta tb):=by
 intro pins s σ H Q I h
 refine BoolOp_or (thn (ha pins s σ H _ I h) fun v s1 ⟨x,H1,I1,r1,q1⟩=>?_)
 obtain ⟨c,rfl,q1⟩:=q1
 cases r1
 refine wpAny_truthy_bool ?_
 cases c with
 | false=>exact hb pins s1 σ H1 Q I1 q1
 | true=>exact ⟨.bl true,H1,I1,rfl,q1⟩
end
end L2
namespace L2
open PySem PySem.Spec PyProof.Rows
noncomputable def SqL (K:PySem.W.Frag) (H:Hp) (a:Addr) (xs:List V):Prop:=
 Rd H a (.lst xs)\/
  ∃ (o:Obj) (its:Array Value) (n:Nat),K.lookup a = some o/\o.cls = .type "list"/\o.dict = none/\o.data = .seq its n/\its.size<=sizeLine/\Vals xs its.toList
noncomputable def SqT (K:PySem.W.Frag) (H:Hp) (a:Addr) (xs:List V):Prop:=
 Rd H a (.tup xs)\/
  ∃ (o:Obj) (its:Array Value) (n:Nat),K.lookup a = some o/\o.cls = .type "tuple"/\o.data = .seq its n/\its.size<=sizeLine/\Vals xs its.toList
noncomputable def absV:Value->Option V
 | .none=>some .non
 | .bool b=>some (.bl b)
 | .int i _=>some (.int i)
 | .str x _=>some (.str x)
 | .bytes b _=>some (.byt b)
 | .float b _=>some (.flt b)
 | .ref a=>some (.ref a)
 | .type n=>some (.ty n)
 | _=>none
theorem RelV.abs {x:V} {u:Value} (r:RelV x u):absV u = some x:=by
 cases x with
 | non=>cases r; rfl
 | bl _=>cases r; rfl
 | int _=>obtain ⟨t,rfl⟩:=r; rfl
 | str _=>obtain ⟨t,rfl⟩:=r; rfl
 | byt _=>obtain ⟨t,rfl⟩:=r; rfl
 | flt _=>obtain ⟨t,rfl⟩:=r; rfl
 | ref _=>cases r; rfl
 | ty _=>cases r; rfl
theorem RelV.inj {x y:V} {u:Value} (r:RelV x u) (q:RelV y u):x = y:=Option.some.inj (r.abs.symm.trans q.abs)
theorem Vals.inj:∀ {xs ys:List V} {us:List Value},Vals xs us->Vals ys us->xs = ys
 | _,_,_,.nil,.nil=>rfl
 | _,_,_,.cons r t,.cons r' t'=>by rw [r.inj r',Vals.inj t t']
section
variable {X:Cx} {pins:List (Addr × Obj)} {σ:St} {H:Hp} {s:Shared} {a:Addr} {xs ys:List V}
theorem SqL.of {K:PySem.W.Frag} (h:H a = some (.lst xs)):SqL K H a xs:=.inl (.inl h)
theorem SqT.of {K:PySem.W.Frag} (h:H a = some (.tup xs)):SqT K H a xs:=.inl (.inl h)
theorem Inv.list (I:Inv X pins σ H s) (h:SqL X.K H a xs):∃ its:List Value,Vals xs its/\PlainL s.heap a its.toArray/\xs.length<=sizeLine:=by
 rcases h with h | ⟨o,its,n,hk,hc,hd,hs,hz,r⟩
 ·obtain ⟨z,its,n,r,e⟩:=h.ok I.hok
  exact ⟨its,r,⟨_,n,e,rfl,rfl,rfl⟩,z⟩
 ·refine ⟨its.toList,r,⟨o,n,I.kIn a o hk,hc,hd,by simpa using hs⟩,?_⟩
  have e:=r.length
  simp only [Array.length_toList] at e
  omega
theorem Inv.tuple (I:Inv X pins σ H s) (h:SqT X.K H a xs):∃ its:List Value,Vals xs its/\IsTup s.heap a its.toArray/\xs.length<=sizeLine:=by
 rcases h with h | ⟨o,its,n,hk,hc,hs,hz,r⟩
 ·obtain ⟨z,its,r,p⟩:=h.ok I.hok
  exact ⟨its,r,p,z⟩
 ·refine ⟨its.toList,r,⟨o,I.kIn a o hk,hc,n,by simpa using hs⟩,?_⟩
  have e:=r.length
  simp only [Array.length_toList] at e
  omega
theorem Inv.list_inj (I:Inv X pins σ H s) (h:SqL X.K H a xs) (h':SqL X.K H a ys):xs = ys:=by
 obtain ⟨its,r,⟨o,n,e,_,_,d⟩,_⟩:=I.list h
 obtain ⟨its',r',⟨o',n',e',_,_,d'⟩,_⟩:=I.list h'
 rw [e] at e'; cases e'
 rw [d] at d'
 injection d' with d1 _
 have:its = its':=by simpa using congrArg Array.toList d1
 subst this
 exact r.inj r'
theorem Inv.tuple_inj (I:Inv X pins σ H s) (h:SqT X.K H a xs) (h':SqT X.K H a ys):xs = ys:=by
 obtain ⟨its,r,⟨o,e,_,n,d⟩,_⟩:=I.tuple h
 obtain ⟨its',r',⟨o',e',_,n',d'⟩,_⟩:=I.tuple h'
 rw [e] at e'; cases e'
 rw [d] at d'
 injection d' with d1 _
 have:its = its':=by simpa using congrArg Array.toList d1
 subst this
 exact r.inj r'
end
noncomputable abbrev Cx.wish (X:Cx) (E:Value->Shared->Prop):Cx:={ X with xe:=E }
noncomputable abbrev Cx.nox (X:Cx):Cx:=X.wish fun _ _=>False
theorem Cx.Ok.wish {X:Cx} (ok:X.Ok) (E:Value->Shared->Prop):(X.wish E).Ok:=
 ⟨ok.mod,ok.kind,ok.glob,ok.blt,ok.above,ok.inj,ok.has,ok.cab,ok.hd,ok.frames,ok.stk,ok.exf,ok.bs,ok.bsz,ok.noex,ok.exfs,ok.funs,ok.frf⟩
theorem Cx.Ok.unwish {X:Cx} {E:Value->Shared->Prop} (ok:(X.wish E).Ok):X.Ok:=
 ⟨ok.mod,ok.kind,ok.glob,ok.blt,ok.above,ok.inj,ok.has,ok.cab,ok.hd,ok.frames,ok.stk,ok.exf,ok.bs,ok.bsz,ok.noex,ok.exfs,ok.funs,ok.frf⟩
section
variable {X:Cx} {pins:List (Addr × Obj)} {σ:St} {H:Hp} {s:Shared} {E:Value->Shared->Prop}
theorem Inv.wish (I:Inv X pins σ H s) (E:Value->Shared->Prop):Inv (X.wish E) pins σ H s:=⟨I.ok.wish E,I.os,I.bare,I.base,I.loc,I.cell,I.free,I.freeC,I.pin,I.hok,I.len⟩
theorem Inv.unwish (I:Inv (X.wish E) pins σ H s):Inv X pins σ H s:=⟨I.ok.unwish,I.os,I.bare,I.base,I.loc,I.cell,I.free,I.freeC,I.pin,I.hok,I.len⟩
theorem SP.unwish {D:Ends} {f:Flow} {s':Shared} (h:SP (X.wish E) pins D f s'):SP X pins D f s':=by
 cases f with
 | next=>obtain ⟨σ',H',I,q⟩:=h; exact ⟨σ',H',I.unwish,q⟩
 | brk=>obtain ⟨σ',H',I,q⟩:=h; exact ⟨σ',H',I.unwish,q⟩
 | cont=>obtain ⟨σ',H',I,q⟩:=h; exact ⟨σ',H',I.unwish,q⟩
 | ret u=>obtain ⟨v,σ',H',I,r,q⟩:=h; exact ⟨v,σ',H',I.unwish,r,q⟩
theorem PSs.nox {st:List Stmt} {t:TS} (h:PSs X.nox st t):PSs X st t:=fun pins s σ H D I hw=>
 wpAny_mono (h pins s σ H D (I.wish _) hw) (fun _ _ q=>q.unwish) fun _ _ z=>False.elim z
end
section
variable {X:Cx} {st:Stmt} {rest:List Stmt} {t u:TS} {e:Expr} {te:TE} {pos:Pos}
noncomputable def tNext:TS:=fun D σ H=>D.nx σ H
noncomputable def tSeq (t u:TS):TS:=fun D σ H=>t { D with nx:=u D } σ H
theorem pss_nil:PSs X [] tNext:=fun _ _ σ H _ I h=>wpAny_execs_nil ⟨σ,H,I,h⟩
theorem pss_cons (h1:PS X st t) (h2:PSs X rest u):PSs X (st :: rest) (tSeq t u):=by
 intro pins s σ H D I h
 refine wpAny_execs_cons (thn (h1 pins s σ H { D with nx:=u D } I h) fun f s1 q=>?_)
 cases f with
 | next=>
  obtain ⟨σ',H',I',q⟩:=q
  exact h2 pins s1 σ' H' D I' q
 | ret v=>exact q
 | brk=>exact q
 | cont=>exact q
theorem ps_pass:PS X (.Pass pos) tNext:=fun _ _ σ H _ I h=>wpAny_Pass ⟨σ,H,I,h⟩
theorem Inv.quiet {pins:List (Addr × Obj)} {σ:St} {H:Hp} {s:Shared} (I:Inv X pins σ H s):interactive X.env = false:=by simp [interactive,I.ok.kind]
theorem ps_doc {x j pos pos'}:PS X (.Expr (.Constant (.str x) j pos) pos') tNext:=fun _ s σ H _ I h=>wpAny_Expr (Calls.Constant_str (show SP X _ _ .next { s with toks:=s.toks + 1 } from ⟨σ,H,I.tok _,h⟩)) I.quiet
noncomputable def tDrop (te:TE):TS:=fun D σ H=>te σ H fun _ H1=>D.nx σ H1
theorem ps_expr (he:PE X e te) (hs:swapsWith e none pos.line X.env = pure false:=by rfl):PS X (.Expr e pos) (tDrop te):=by
 intro pins s σ H D I h
 exact wpAny_Expr_any (thn (he pins s σ H _ I h) fun v s1 ⟨x,H1,I1,r1,q1⟩=>⟨σ,H1,I1,q1⟩) I.quiet hs
noncomputable def tRet (te:TE):TS:=fun D σ H=>te σ H D.rt
theorem ps_ret (he:PE X e te):PS X (.Return (some e) pos) (tRet te):=by
 intro pins s σ H D I h
 exact wpAny_Return_some (thn (he pins s σ H _ I h) fun v s1 ⟨x,H1,I1,r1,q1⟩=>⟨x,σ,H1,I1,r1,q1⟩)
noncomputable def tIfS (c:TT) (t u:TS):TS:=fun D σ H=>c σ H fun b H1=>if b = true then t D σ H1 else u D σ H1
theorem ps_if {c:Expr} {a b:List Stmt} {tc:TT} (hc:PT X c tc) (ha:PSs X a t) (hb:PSs X b u):PS X (.If c a b pos) (tIfS tc t u):=by
 intro pins s σ H D I h
 refine wpAny_If (thn (hc pins s σ H _ I h) fun d s1 ⟨H1,I1,q1⟩=>?_)
 cases d with
 | true=>exact ha pins s1 σ H1 D I1 q1
 | false=>exact hb pins s1 σ H1 D I1 q1
end
noncomputable abbrev TG:=V->St->Hp->(St->Hp->Prop)->Prop
noncomputable abbrev TGs:=List V->St->Hp->(St->Hp->Prop)->Prop
noncomputable def PG (X:Cx) (target:Expr) (t:TG):Prop:=
 ∀ (pins:List (Addr × Obj)) (s:Shared) (σ:St) (H:Hp) (v:V) (u:Value) (Q:St->Hp->Prop),Inv X pins σ H s->RelV v u->t v σ H Q->
  wpAny (model X.prog X.w) X.A (assign target X.env u) (fun _ s'=>∃ σ' H',Inv X pins σ' H' s'/\Q σ' H') X.xe s
noncomputable def PGs (X:Cx) (ts:List Expr) (t:TGs):Prop:=
 ∀ (pins:List (Addr × Obj)) (s:Shared) (σ:St) (H:Hp) (vs:List V) (us:List Value) (Q:St->Hp->Prop),Inv X pins σ H s->Vals vs us->t vs σ H Q->
  wpAny (model X.prog X.w) X.A (assignInOrder ((assignEach ts X.env).map (·.2)) us) (fun _ s'=>∃ σ' H',Inv X pins σ' H' s'/\Q σ' H') X.xe s
noncomputable abbrev TSet:=V->V->V->Hp->(Hp->Prop)->Prop
noncomputable def PSet (X:Cx) (t:TSet):Prop:=
 ∀ (pins:List (Addr × Obj)) (s:Shared) (σ:St) (H:Hp) (o i v:V) (ov iv u:Value) (Q:Hp->Prop),Inv X pins σ H s->RelV o ov->RelV i iv->RelV v u->t o i v H Q->
  wpAny (model X.prog X.w) X.A (setItem ov iv u) (fun _ s'=>∃ H',Inv X pins σ H' s'/\Q H') X.xe s
noncomputable abbrev TIp:=V->V->Hp->VK->Prop
noncomputable def PIp (X:Cx) (op:Operator) (t:TIp):Prop:=
 ∀ (pins:List (Addr × Obj)) (s:Shared) (σ:St) (H:Hp) (x y:V) (v u:Value) (Q:VK),Inv X pins σ H s->RelV x v->RelV y u->t x y H Q->
  wpAny (model X.prog X.w) X.A (inplaceOp op v u) (EP X pins σ Q) X.xe s
section
variable {X:Cx} {pos:Pos}
noncomputable def gName (i:Nat):TG:=fun v σ H Q=>Q (σ.set i (some v)) H
theorem pg_name {i:Nat} {x:Str} (hN:X.N.Nodup) (hi:X.N[i]? = some x) (hx:Loc X.env.scope x) (hf:X.fn x = true\/X.env.scope.names.lookup x = some .local:=by first | exact .inl rfl | exact .inr rfl | assumption):PG X (.Name x pos) (gName i):=by
 intro pins s σ H v u Q I r h
 exact wpAny_assign_Name (store_ok I hN hi hx r (fun s' I'=>⟨_,H,I',h⟩) hf)
noncomputable def gNil:TGs:=fun vs σ H Q=>vs = []/\Q σ H
noncomputable def gCons (t:TG) (u:TGs):TGs:=fun vs σ H Q=>∃ v r,vs = v :: r/\t v σ H fun σ' H'=>u r σ' H' Q
theorem pgs_nil:PGs X [] gNil:=by
 intro pins s σ H vs us Q I r h
 obtain ⟨e,h⟩:=h
 subst e
 cases r
 exact assignInOrder_nil ⟨σ,H,I,h⟩
theorem pgs_cons {e:Expr} {es:List Expr} {t:TG} {u:TGs} (h1:PG X e t) (h2:PGs X es u)
  (hs:(assignEach (e :: es) X.env).map (·.2) = assign e X.env :: (assignEach es X.env).map (·.2):=by rfl):PGs X (e :: es) (gCons t u):=by
 intro pins s σ H vs us Q I r h
 obtain ⟨v,vr,e1,h⟩:=h
 subst e1
 cases r with
 | cons r rr=>
  rw [hs]
  refine assignInOrder_cons (thn (h1 pins s σ H _ _ _ I r h) fun _ s1 ⟨σ1,H1,I1,q1⟩=>?_)
  exact h2 pins s1 σ1 H1 _ _ Q I1 rr q1
noncomputable def gTup (K:PySem.W.Frag) (n:Nat) (t:TGs):TG:=fun v σ H Q=>∃ a xs,v = .ref a/\SqT K H a xs/\xs.length = n/\t xs σ H Q
theorem pg_tup {es:List Expr} {k:Nat} {t:TGs} {n:Nat} (hc:X.calm = true) (h:PGs X es t)
  (hn:(assignEach es X.env).length = n:=by rfl) (hst:(assignEach es X.env).findIdx? (·.1) = none:=by rfl):PG X (.Tuple es k pos) (gTup X.K n t):=by
 intro pins s σ H v u Q I r hw
 obtain ⟨a,xs,e1,hq,hl,hw⟩:=hw
 subst e1
 cases r
 obtain ⟨its,rv,ht,hz⟩:=I.tuple hq
 refine assign_Tuple_tuple (I.ok.hd hc) ht (by simp [hn,<- hl,rv.length]) hst fun h' hx=>?_
 have I1:Inv X pins σ H { s with heap:=h' }:=I.kept (t':=s.toks) fun b o e=>hx b o (Nat.ne_of_lt (Heap.lt_size e)) e
 exact h pins _ σ H xs _ Q I1 (by simpa using rv) hw
noncomputable def gSub (to ti:TE) (t:TSet):TG:=fun v σ H Q=>to σ H fun o H1=>ti σ H1 fun i H2=>t o i v H2 fun H3=>Q σ H3
theorem pg_sub {o i:Expr} {to ti:TE} {t:TSet} (ho:PE X o to) (hi:PE X i ti) (hs:PSet X t)
  (ha:∀ v,assign (.Subscript o i pos) X.env v = (do
   let ov <- holding [v] (eval o X.env)
   let iv <- holding [v,ov] (eval i X.env)
   standAt pos
   holding [v,ov,iv] (setItem ov iv v)
   release [v,ov,iv] []):=by intro _; rfl):PG X (.Subscript o i pos) (gSub to ti t):=by
 intro pins s σ H v u Q I r h
 rw [ha]
 refine wpAny_bind (wpAny_holding (thn (ho pins s σ H _ I h) fun ov s1 ⟨x,H1,I1,r1,q1⟩=>?_))
 refine wpAny_bind (wpAny_holding (thn (hi pins s1 σ H1 _ I1 q1) fun iv s2 ⟨y,H2,I2,r2,q2⟩=>?_))
 refine wpAny_bind (wpAny_standAt (wpAny_bind (wpAny_holding (thn (hs pins s2 σ H2 x y v ov iv u _ I2 r1 r2 r q2) fun _ s3 ⟨H3,I3,q3⟩=>?_))))
 exact wpAny_release ⟨σ,H3,I3,q3⟩
noncomputable def tAsg (te:TE) (g:TG):TS:=fun D σ H=>te σ H fun x H1=>g x σ H1 D.nx
theorem ps_asg {tg e:Expr} {te:TE} {g:TG} (he:PE X e te) (hg:PG X tg g) (hs:swapsWithSole [tg] e pos.line X.env = pure false:=by rfl) (hw:swappedStores [tg] e X.env = pure none:=by rfl)
  (h1:(assignEach [tg] X.env).map (·.2) = [assign tg X.env]:=by rfl):PS X (.Assign [tg] e pos) (tAsg te g):=by
 intro pins s σ H D I h
 refine wpAny_Assign_stores (thn (he pins s σ H _ I h) fun v s1 ⟨x,H1,I1,r1,q1⟩=>?_) hs hw
 rw [h1]
 exact thn (hg pins s1 σ H1 x v _ I1 r1 q1) fun _ s2 q=>q
theorem ps_set {i:Nat} {x:Str} {e:Expr} {te:TE} {pos':Pos} (hN:X.N.Nodup) (hi:X.N[i]? = some x) (hx:Loc X.env.scope x) (he:PE X e te) (hs:swapsWith e (some (.Name x pos')) pos.line X.env = pure false:=by rfl) (hf:X.fn x = true\/X.env.scope.names.lookup x = some .local:=by first | exact .inl rfl | exact .inr rfl | assumption) :
  PS X (.Assign [.Name x pos'] e pos) (tAsg te (gName i)):=by
 intro pins s σ H D I h
 refine wpAny_Assign_Name (thn (he pins s σ H _ I h) fun v s1 ⟨y,H1,I1,r1,q1⟩=>?_) hs
 exact store_ok I1 hN hi hx r1 (fun s2 I2=>⟨_,H1,I2,q1⟩) hf
noncomputable def tAug (i:Nat) (te:TE) (ti:TIp):TS:=fun D σ H=>∃ x,σ[i]? = some (some x)/\te σ H fun y H1=>ti x y H1 fun z H2=>D.nx (σ.set i (some z)) H2
theorem ps_aug {i:Nat} {x:Str} {e:Expr} {te:TE} {op:Operator} {ti:TIp} {pos':Pos} (hN:X.N.Nodup) (hi:X.N[i]? = some x) (hx:Loc X.env.scope x) (he:PE X e te) (ho:PIp X op ti) (hf:X.fn x = true\/X.env.scope.names.lookup x = some .local:=by first | exact .inl rfl | exact .inr rfl | assumption) :
  PS X (.AugAssign (.Name x pos') op e pos) (tAug i te ti):=by
 intro pins s σ H D I h
 obtain ⟨v,e1,h⟩:=h
 obtain ⟨m,hn,hl⟩:=I.loc
 have vis:Vis X.env.scope x:=by rcases hx with k | k; exact .inl k; exact .inr (.inl k)
 obtain ⟨u,r,l⟩:=hl i x v hi e1 vis
 refine wpAny_AugAssign_Name ?_
 have go:wpAny (model X.prog X.w) X.A (eval e X.env) (fun w s₂=>wpAny (model X.prog X.w) X.A (inplaceOp op u w) (fun r s₃=>wpAny (model X.prog X.w) X.A (storeName X.env x r) (fun _=>SP X pins D .next) X.xe s₃) X.xe s₂) X.xe s:=by
  refine thn (he pins s σ H _ I h) fun w s1 ⟨y,H1,I1,r1,q1⟩=>?_
  refine thn (ho pins s1 σ H1 v y u w _ I1 r r1 q1) fun z s2 ⟨zv,H2,I2,r2,q2⟩=>?_
  exact store_ok I2 hN hi hx r2 (fun s3 I3=>⟨_,H2,I3,q2⟩) hf
 rcases l with ⟨hk,hm⟩ | ⟨hk,c,hc,hcell⟩
 ·exact wpAny_loadName_local I.ok.kind hk hn hm go
 ·rcases hk with hk | hk
  ·exact wpAny_loadName_cell I.ok.kind hk hc hcell go
  ·rcases hx with k | k
   ·have:X.env.scope.names.lookup x = some .free:=hk
    rw [k] at this; cases this
   ·have:X.env.scope.names.lookup x = some .free:=hk
    rw [k] at this; cases this
end
section
variable {X:Cx} {pos:Pos}
end
structure It where
 go:Nat->Hp->Prop
 yld:Nat->Hp->V->Hp->Prop
 stop:Nat->Hp->Prop
noncomputable def FpOk (X:Cx) (pins:List (Addr × Obj)) (H:Hp) (b:Addr):Prop:=
 H b = none/\b ≠ X.env.locals/\b ∉ X.fs/\(b ∈ X.ex\/X.s₀.heap.objs.size<=b)/\(∀ x c,X.env.cells.lookup x = some c->c ≠ b)/\∀ p ∈ X.pn ++ pins,p.1 ≠ b
theorem Inv.fpOk {X:Cx} {pins:List (Addr × Obj)} {σ:St} {H H':Hp} {s:Shared} {b:Addr} (I:Inv X pins σ H s) (hb:s.heap.objs.size<=b) (hn:H' b = none):FpOk X pins H' b:=by
 refine ⟨hn,Nat.ne_of_gt (Nat.lt_of_lt_of_le I.lt hb),I.nofs hb,.inr (Nat.le_trans I.sz hb),fun x c e z=>?_,fun p hp z=>?_⟩
 ·obtain ⟨v,q⟩:=I.cell x c e
  exact absurd (Nat.lt_of_lt_of_le q.lt (by rw [z]; exact hb)) (Nat.lt_irrefl _)
 ·exact absurd (Nat.lt_of_lt_of_le (Heap.lt_size (I.pin p hp).1) (by rw [z]; exact hb)) (Nat.lt_irrefl _)
structure Turn (P:Program) (w:World) (K:PySem.W.Frag) (tg:Expr) (J:It) (fp:List Addr) (it:Addr) (tn:Nat->Heap->Prop):Prop where
 mem:it ∈ fp
 obj:∀ i h,tn i h->∀ b ∈ fp,∃ o,h.get? b = some o/\∀ v,o.data ≠ .cell v
 keep:∀ i h h',tn i h->(∀ b ∈ fp,∀ o,h.get? b = some o->h'.get? b = some o)->tn i h'
 item:∀ (X:Cx),X.prog = P->X.w = w->X.K = K->X.calm = true->∀ (i:Nat) (pins:List (Addr × Obj)) (s:Shared) (σ:St) (H:Hp) (E:Value->Shared->Prop),Inv X pins σ H s->(∀ b ∈ fp,FpOk X pins H b)->tn i s.heap->J.go i H->
  wpAny (model P w) X.A (pyNext (.ref it)) (fun r s1=>∃ u,r = some u/\
   wpAny (model P w) X.A (letOwnedTupleGo tg (.ref it) u) (fun _ s2=>∃ x H',Inv X pins σ H' s2/\RelV x u/\J.yld i H x H'/\tn (i + 1) s2.heap/\∀ b ∈ fp,H' b = none) E s1) E s
 done:∀ (X:Cx),X.prog = P->X.w = w->X.K = K->X.calm = true->∀ (i:Nat) (pins:List (Addr × Obj)) (s:Shared) (σ:St) (H:Hp) (E:Value->Shared->Prop),Inv X pins σ H s->(∀ b ∈ fp,FpOk X pins H b)->tn i s.heap->J.stop i H->
  wpAny (model P w) X.A (pyNext (.ref it)) (fun r s1=>r = none/\Inv X pins σ H s1) E s
 self:∀ (A:Around) (i:Nat) (s:Shared) (Q:Value->Shared->Prop) (E:Value->Shared->Prop),tn i s.heap->Q (.ref it) s->wpAny (model P w) A (pyIter (.ref it)) Q E s
noncomputable abbrev TI:=St->Hp->(It->Hp->Prop)->Prop
noncomputable def PIE (X:Cx) (pins:List (Addr × Obj)) (σ:St) (tg:Expr) (R:It->Hp->Prop) (itv:Value) (s2:Shared):Prop:=
 ∃ (it:Addr) (fp:List Addr) (tn:Nat->Heap->Prop) (J:It) (H':Hp),itv = .ref it/\Inv X pins σ H' s2/\Turn X.prog X.w X.K tg J fp it tn/\tn 0 s2.heap/\(∀ b ∈ fp,FpOk X pins H' b)/\R J H'
noncomputable def PI (X:Cx) (tg iter:Expr) (wi:TI):Prop:=
 ∀ (pins:List (Addr × Obj)) (s:Shared) (σ:St) (H:Hp) (R:It->Hp->Prop),Inv X pins σ H s->wi σ H R->
  wpAny (model X.prog X.w) X.A (eval iter X.env) (fun v s1=>wpAny (model X.prog X.w) X.A (pyIter v) (PIE X pins σ tg R) X.xe s1) X.xe s
theorem go_of {M:Model} {A:Around} {E:Value->Shared->Prop} {s:Shared} {tg:Expr} {it:Addr} {u:Value} {o:Obj} {n:String} {vs:Array Value} {Q:Unit->Shared->Prop} (ho:s.heap.get? it = some o) (hc:o.cls = .type n) (hd:o.data = .fields vs)
    (hn:["enumerate","zip","dict_itemiterator","dict_reverseitemiterator","odict_iterator","itertools.zip_longest","itertools.pairwise"].contains n = false) (hQ:Q () s):wpAny M A (letOwnedTupleGo tg (.ref it) u) Q E s:=by
  unfold letOwnedTupleGo
  cases tg <;> first
    | exact wpAny_pure hQ
    | (cases u <;> first
        | exact wpAny_pure hQ
        | (refine wpAny_bind (wpAny_load ho ?_)
           rw [hc,hd]
           show wpAny M A (if (["enumerate","zip","dict_itemiterator","dict_reverseitemiterator","odict_iterator","itertools.zip_longest","itertools.pairwise"].contains n && vs[0]? == some (rawInt _)) = true then _ else _) Q E s
           rw [if_neg (by intro h; rw [hn,Bool.false_and] at h; cases h)]
           exact wpAny_pure hQ))
noncomputable def Itl (K:PySem.W.Frag) (a:Addr):It:=
 ⟨fun i H=>∃ xs x,SqL K H a xs/\xs[i]? = some x,fun i H x H'=>H' = H/\∀ xs,SqL K H a xs->xs[i]? = some x,fun i H=>∃ xs,SqL K H a xs/\xs.length<=i⟩
noncomputable def Itt (K:PySem.W.Frag) (a:Addr):It:=
 ⟨fun i H=>∃ xs x,SqT K H a xs/\xs[i]? = some x,fun i H x H'=>H' = H/\∀ xs,SqT K H a xs->xs[i]? = some x,fun i H=>∃ xs,SqT K H a xs/\xs.length<=i⟩
noncomputable def Itr (lo:Int) (n:Nat):It:=⟨fun i _=>i < n,fun i H x H'=>H' = H/\x = .int (lo + i),fun i _=>n<=i⟩
theorem turn_list {P:Program} {w:World} {K:PySem.W.Frag} {tg:Expr} (a it:Addr):Turn P w K tg (Itl K a) [it] it (fun i h=>h.IsListIter it a i) where
 mem:=by simp
 obj:=fun i h st b hb=>by
  have e:b = it:=by simpa using hb
  subst e
  obtain ⟨o,e,c,d⟩:=st
  exact ⟨o,e,fun v z=>by rw [d] at z; cases z⟩
 keep:=fun i h h' st k=>st.at fun o e=>k it (by simp) o e
 item:=by
  intro X hP hw hK hc i pins s σ H E I hf st hg
  subst hP hw hK
  obtain ⟨xs,x,hq,hx⟩:=hg
  obtain ⟨its,rv,p,hz⟩:=I.list hq
  obtain ⟨u,hu,ru⟩:=rv.get hx
  obtain ⟨f0,f1,f2,f3,f4,f5⟩:=hf it (by simp)
  refine wpAny_pyNext_list_item st p.isList (x:=u) (by simpa using hu) fun h' st' sb=>?_
  have I1:Inv X pins σ H { s with heap:=h' }:=I.turned (t':=s.toks) (fun b o hb e=>(sb.2 b hb).trans e) f0 f1 f3 f4 f5
  obtain ⟨o,e,c,d⟩:=id st'
  exact ⟨u,rfl,go_of (s:={ s with heap:=h' }) e c d (by decide) ⟨x,H,I1,ru,⟨rfl,fun ys hy=>by rw [I.list_inj hy hq]; exact hx⟩,st',fun b hb=>(hf b hb).1⟩⟩
 done:=by
  intro X hP hw hK hc i pins s σ H E I hf st hg
  subst hP hw hK
  obtain ⟨xs,hq,hx⟩:=hg
  obtain ⟨its,rv,p,hz⟩:=I.list hq
  obtain ⟨f0,f1,f2,f3,f4,f5⟩:=hf it (by simp)
  have hl:=rv.length
  exact wpAny_pyNext_list_end (I.ok.hd hc) st p.isList (by simp; omega) fun h' eb=>⟨rfl,I.turned (t':=s.toks) (fun b o hb e=>eb b o hb e) f0 f1 f3 f4 f5⟩
 self:=fun _ _ _ _ _ st h=>wpAny_pyIter_listiter st h
theorem turn_tuple {P:Program} {w:World} {K:PySem.W.Frag} {tg:Expr} (a it:Addr):Turn P w K tg (Itt K a) [it] it (fun i h=>h.IsTupleIter it a i) where
 mem:=by simp
 obj:=fun i h st b hb=>by
  have e:b = it:=by simpa using hb
  subst e
  obtain ⟨o,e,c,d⟩:=st
  exact ⟨o,e,fun v z=>by rw [d] at z; cases z⟩
 keep:=fun i h h' st k=>st.at fun o e=>k it (by simp) o e
 item:=by
  intro X hP hw hK hc i pins s σ H E I hf st hg
  subst hP hw hK
  obtain ⟨xs,x,hq,hx⟩:=hg
  obtain ⟨its,rv,p,hz⟩:=I.tuple hq
  obtain ⟨u,hu,ru⟩:=rv.get hx
  obtain ⟨f0,f1,f2,f3,f4,f5⟩:=hf it (by simp)
  refine wpAny_pyNext_tuple_item st (show s.heap.IsTuple a its.toArray from p) (x:=u) (by simpa using hu) fun h' st' sb=>?_
  have I1:Inv X pins σ H { s with heap:=h' }:=I.turned (t':=s.toks) (fun b o hb e=>(sb.2 b hb).trans e) f0 f1 f3 f4 f5
  obtain ⟨o,e,c,d⟩:=id st'
  exact ⟨u,rfl,go_of (s:={ s with heap:=h' }) e c d (by decide) ⟨x,H,I1,ru,⟨rfl,fun ys hy=>by rw [I.tuple_inj hy hq]; exact hx⟩,st',fun b hb=>(hf b hb).1⟩⟩
 done:=by
  intro X hP hw hK hc i pins s σ H E I hf st hg
  subst hP hw hK
  obtain ⟨xs,hq,hx⟩:=hg
  obtain ⟨its,rv,p,hz⟩:=I.tuple hq
  obtain ⟨f0,f1,f2,f3,f4,f5⟩:=hf it (by simp)
  have hl:=rv.length
  exact wpAny_pyNext_tuple_end (I.ok.hd hc) st (show s.heap.IsTuple a its.toArray from p) (by simp; omega) fun h' eb=>⟨rfl,I.turned (t':=s.toks) (fun b o hb e=>eb b o hb e) f0 f1 f3 f4 f5⟩
 self:=fun _ _ _ _ _ st h=>wpAny_pyIter_tupleiter st h
theorem turn_range {P:Program} {w:World} {K:PySem.W.Frag} {tg:Expr} (it:Addr) (lo:Int) (n:Nat):Turn P w K tg (Itr lo n) [it] it (fun i h=>IsRangeIter h it (lo + (i:Nat) * 1) ((n:Int) - (i:Nat)) 1) where
 mem:=by simp
 obj:=fun i h st b hb=>by
  have e:b = it:=by simpa using hb
  subst e
  exact ⟨_,st,fun v z=>by
   have z':Data.fields _ = Data.cell v:=z
   cases z'⟩
 keep:=fun i h h' st k=>k it (by simp) _ st
 item:=by
  intro X hP hw hK hc i pins s σ H E I hf st hg
  subst hP hw hK
  obtain ⟨f0,f1,f2,f3,f4,f5⟩:=hf it (by simp)
  have W:=Walks.range (prog:=X.prog) (w:=X.w) (I.ok.hd hc) it lo 1 n
  refine W.item i s _ _ hg st fun v h' tk hv st' kk=>?_
  obtain ⟨t,rfl⟩:=hv
  have I1:Inv X pins σ H { s with heap:=h',toks:=tk }:=I.turned (fun b o hb e=>kk b o (by simpa using hb) e) f0 f1 f3 f4 f5
  refine ⟨_,rfl,go_of (s:={ s with heap:=h',toks:=tk }) (n:="range_iterator") st' rfl rfl (by decide) ⟨.int (lo + i),H,I1,⟨t,?_⟩,⟨rfl,rfl⟩,st',fun b hb=>(hf b hb).1⟩⟩
  rw [Int.mul_one]
 done:=by
  intro X hP hw hK hc i pins s σ H E I hf st hg
  subst hP hw hK
  obtain ⟨f0,f1,f2,f3,f4,f5⟩:=hf it (by simp)
  exact wpAny_pyNext_range_end (I.ok.hd hc) st (by have:n<=i:=hg; omega) fun h' eb=>⟨rfl,I.turned (t':=s.toks) (fun b o hb e=>eb b o hb e) f0 f1 f3 f4 f5⟩
 self:=fun _ _ _ _ _ st h=>wpAny_pyIter_rangeiter st h
end L2
namespace L2
open PySem PySem.Spec PyProof.Rows
section
variable {X:Cx} {tg:Expr}
noncomputable def iList (K:PySem.W.Frag) (tl:TE):TI:=fun σ H R=>tl σ H fun x H1=>∃ a,x = .ref a/\(∃ xs,SqL K H1 a xs)/\R (Itl K a) H1
noncomputable def iTup (K:PySem.W.Frag) (tl:TE):TI:=fun σ H R=>tl σ H fun x H1=>∃ a,x = .ref a/\(∃ xs,SqT K H1 a xs)/\R (Itt K a) H1
theorem pi_list {l:Expr} {tl:TE} (hl:PE X l tl):PI X tg l (iList X.K tl):=by
 intro pins s σ H R I h
 refine thn (hl pins s σ H _ I h) fun v s1 ⟨x,H1,I1,r1,q1⟩=>?_
 obtain ⟨a,e,⟨xs,hq⟩,q⟩:=q1
 subst e
 cases r1
 obtain ⟨its,rv,p,hz⟩:=I1.list hq
 refine wpAny_pyIter_list p.isList ?_
 refine ⟨s1.heap.objs.size,[s1.heap.objs.size],_,_,H1,rfl,I1.kept (t':=s1.toks) fun b o e=>Heap.get?_push_of_some _ e,turn_list a _,⟨_,Heap.get?_push_size _ rfl,rfl,rfl⟩,fun b hb=>?_,q⟩
 have e:b = s1.heap.objs.size:=by simpa using hb
 subst e
 exact I1.fpOk (Nat.le_refl _) (I1.hok.fresh (Nat.le_refl _))
theorem pi_tup {l:Expr} {tl:TE} (hl:PE X l tl):PI X tg l (iTup X.K tl):=by
 intro pins s σ H R I h
 refine thn (hl pins s σ H _ I h) fun v s1 ⟨x,H1,I1,r1,q1⟩=>?_
 obtain ⟨a,e,⟨xs,hq⟩,q⟩:=q1
 subst e
 cases r1
 obtain ⟨its,rv,p,hz⟩:=I1.tuple hq
 refine wpAny_pyIter_tuple (show s1.heap.IsTuple a its.toArray from p) ?_
 refine ⟨s1.heap.objs.size,[s1.heap.objs.size],_,_,H1,rfl,I1.kept (t':=s1.toks) fun b o e=>Heap.get?_push_of_some _ e,turn_tuple a _,⟨_,Heap.get?_push_size _ rfl,rfl,rfl⟩,fun b hb=>?_,q⟩
 have e:b = s1.heap.objs.size:=by simpa using hb
 subst e
 exact I1.fpOk (Nat.le_refl _) (I1.hok.fresh (Nat.le_refl _))
theorem range_it {pins:List (Addr × Obj)} {σ:St} {H:Hp} {s:Shared} {R:It->Hp->Prop} {E:Value->Shared->Prop} {lo hi:Int} {t u v:Tok} {tk:Nat} (I:Inv X pins σ H s) (h1:-(2 ^ 62)<=lo) (h2:lo < 2 ^ 62) (h3:-(2 ^ 62)<=hi) (h4:hi < 2 ^ 62)
  (q:R (Itr lo (hi - lo).toNat) H):wpAny (model X.prog X.w) X.A (pyIter (.ref s.heap.objs.size)) (PIE X pins σ tg R) E { s with heap:=s.heap.push { cls:=.type "range",data:=.fields #[.int lo t,.int hi u,.int 1 v] },toks:=tk }:=by
 refine wpAny_pyIter_range (IsRange.new ..) (small_one h1 h2 h3 h4) ?_
 have I1:Inv X pins σ H { s with heap:=s.heap.push { cls:=.type "range",data:=.fields #[.int lo t,.int hi u,.int 1 v] },toks:=tk }:=I.kept fun b o e=>Heap.get?_push_of_some _ e
 refine ⟨(s.heap.push { cls:=.type "range",data:=.fields #[.int lo t,.int hi u,.int 1 v] }).objs.size,[(s.heap.push { cls:=.type "range",data:=.fields #[.int lo t,.int hi u,.int 1 v] }).objs.size],_,_,H,rfl,
  I1.kept (t':=tk) fun b o e=>Heap.get?_push_of_some _ e,turn_range _ lo (hi - lo).toNat,?_,fun b hb=>?_,q⟩
 ·have e1:lo + ((0:Nat):Int) * 1 = lo:=by simp
  have e2:(((hi - lo).toNat:Nat):Int) - ((0:Nat):Int) = Builtin.Range.rangeSize lo hi 1:=by rw [rangeSize_one]; split <;> omega
  show IsRangeIter _ _ (lo + ((0:Nat):Int) * 1) ((((hi - lo).toNat:Nat):Int) - ((0:Nat):Int)) 1
  rw [e1,e2]
  exact Heap.get?_push_size _ rfl
 ·have e:b = (s.heap.push { cls:=.type "range",data:=.fields #[.int lo t,.int hi u,.int 1 v] }).objs.size:=by simpa using hb
  subst e
  exact I1.fpOk (Nat.le_refl _) (I1.hok.fresh (Nat.le_refl _))
noncomputable def iRng1 (ta:TA):TI:=fun σ H R=>ta σ H fun vs H1=>∃ j:Int,vs = [.int j]/\-(2 ^ 62)<=j/\j < 2 ^ 62/\R (Itr 0 j.toNat) H1
noncomputable def iRng2 (ta:TA):TI:=fun σ H R=>ta σ H fun vs H1=>∃ i j:Int,vs = [.int i,.int j]/\(-(2 ^ 62)<=i/\i < 2 ^ 62/\-(2 ^ 62)<=j/\j < 2 ^ 62)/\R (Itr i (j - i).toNat) H1
theorem pi_range1 {a:Expr} {ta:TA} {p pos:Pos} (hg:Gl X "range") (hm:X.mg "range" = none) (ha:PA X [a] ta) (hs:starEach [a] X.env = [(false,eval a X.env)]:=by rfl):PI X tg (.Call (.Name "range" p) [a] [] pos) (iRng1 ta):=by
 intro pins s σ H R I h
 refine Call_ (ld_blt I hg hm boot_range (PyProof.Rows.callWith_type1 (thn (ha pos pins s σ H _ I h) fun us s1 ⟨vs,H1,I1,r1,q1⟩=>?_) hs rfl))
 obtain ⟨j,e,q1,q2,q⟩:=q1
 subst e
 cases r1 with
 | cons r rr=>
  cases rr
  obtain ⟨t,rfl⟩:=r
  exact call_range_1 (range_it I1 (by omega) (by omega) q1 q2 (by simpa using q))
theorem pi_range2 {a b:Expr} {ta:TA} {p pos:Pos} (hg:Gl X "range") (hm:X.mg "range" = none) (ha:PA X [a,b] ta) (hs:starEach [a,b] X.env = [(false,eval a X.env),(false,eval b X.env)]:=by rfl) (hs2:starEach [b] X.env = [(false,eval b X.env)]:=by rfl) :
  PI X tg (.Call (.Name "range" p) [a,b] [] pos) (iRng2 ta):=by
 intro pins s σ H R I h
 refine Call_ (ld_blt I hg hm boot_range (PyProof.Rows.callWith_type1 (thn (ha pos pins s σ H _ I h) fun us s1 ⟨vs,H1,I1,r1,q1⟩=>?_) (by rw [hs,hs2]) (by rw [hs2]; rfl)))
 obtain ⟨i,j,e,⟨q1,q2,q3,q4⟩,q⟩:=q1
 subst e
 cases r1 with
 | cons r rr=>
  cases rr with
  | cons r' rr=>
   cases rr
   obtain ⟨t,rfl⟩:=r
   obtain ⟨t',rfl⟩:=r'
   exact call_range_2 (range_it I1 q1 q2 q3 q4 q)
noncomputable def tFor (wi:TI) (g:TG) (tb:TS):TS:=fun D σ H=>wi σ H fun J H1=>∃ W:Nat->Nat->St->Hp->Prop,(∃ m,W 0 m σ H1)/\∀ i m σ H,W i m σ H->
 (J.stop i H/\D.nx σ H)\/(J.go i H/\∃ N:St->Hp->Prop,(∀ σ' H',N σ' H'->∃ m',m' < m/\W (i + 1) m' σ' H')/\∀ x H',J.yld i H x H'->g x σ H' fun σ2 H2=>tb { D with nx:=N,ct:=N,bk:=D.nx } σ2 H2)
noncomputable def pinsAt (fp:List Addr) (h:Heap):List (Addr × Obj):=fp.filterMap fun b=>(h.get? b).map fun o=>(b,o)
theorem mem_pinsAt {fp:List Addr} {h:Heap} {b:Addr} {o:Obj} (hb:b ∈ fp) (e:h.get? b = some o):(b,o) ∈ pinsAt fp h:=List.mem_filterMap.mpr ⟨b,hb,by rw [e]; rfl⟩
theorem of_pinsAt {fp:List Addr} {h:Heap} {p:Addr × Obj} (hp:p ∈ pinsAt fp h):p.1 ∈ fp/\h.get? p.1 = some p.2:=by
 obtain ⟨b,hb,e⟩:=List.mem_filterMap.mp hp
 cases q:h.get? b with
 | none=>rw [q] at e; cases e
 | some o=>
  rw [q] at e
  have e':(b,o) = p:=Option.some.inj e
  subst e'
  exact ⟨hb,q⟩
theorem Inv.pinned {pins:List (Addr × Obj)} {σ:St} {H:Hp} {s:Shared} {fp:List Addr} (I:Inv X pins σ H s) (hf:∀ b ∈ fp,FpOk X pins H b) (ho:∀ b ∈ fp,∃ o,s.heap.get? b = some o/\∀ v,o.data ≠ .cell v):Inv X (pins ++ pinsAt fp s.heap) σ H s:=
 I.pins_of fun p hp=>(List.mem_append.mp hp).elim (fun z=>I.pin p (List.mem_append_right _ z)) fun z=>by
  obtain ⟨hb,e⟩:=of_pinsAt z
  obtain ⟨f0,f1,f2,_⟩:=hf p.1 hb
  obtain ⟨o,e',d⟩:=ho p.1 hb
  rw [e] at e'; cases e'
  exact ⟨e,f0,f1,f2,d⟩
theorem Inv.unpinned {pins pl:List (Addr × Obj)} {σ:St} {H:Hp} {s:Shared} (I:Inv X (pins ++ pl) σ H s):Inv X pins σ H s:=I.pins_of fun p hp=>I.pin p (List.mem_append_right _ (List.mem_append_left _ hp))
theorem ps_for {iter:Expr} {body:List Stmt} {wi:TI} {g:TG} {tb:TS} {pos:Pos} (hp:PassesOwn (model X.prog X.w) X.A X.env X.xe) (hc:X.calm = true) (hi:PI X tg iter wi) (hg:PG X tg g) (hb:PSs X body tb)
  (hs:∀ x,foldedSetIterable iter X.env x = pure x:=by intro _; rfl):PS X (.For tg iter body [] pos) (tFor wi g tb):=by
 intro pins s σ H D I h
 refine wpAny_For (thn (hi pins s σ H _ I h) fun v s1 h1=>thn h1 fun itv s2 h2=>?_) hs
 obtain ⟨it,fp,tn,J,H2,e,I2,T,st2,f2,W,⟨m0,w0⟩,turn⟩:=h2
 subst e
 -- what stays true of the iterator's objects through the loop
 have stat:∀ {H':Hp},(∀ b ∈ fp,H' b = none)->∀ b ∈ fp,FpOk X pins H' b:=fun hn b hb=>⟨hn b hb,(f2 b hb).2⟩
 refine codeAny_forLoop_any (fun n s'=>∃ i σ' H',Inv X pins σ' H' s'/\tn i s'.heap/\(∀ b ∈ fp,H' b = none)/\W i n σ' H') ?_ m0 ⟨0,σ,H2,I2,st2,fun b hb=>(f2 b hb).1,w0⟩
 rintro n s3 ⟨i,σ3,H3,I3,st3,fr3,w3⟩
 rcases turn i n σ3 H3 w3 with ⟨stop,qn⟩ | ⟨go,N,hN,step⟩
 ·refine wpAny_passesOwn hp (thn (T.done X rfl rfl rfl hc i pins s3 σ3 H3 X.xe I3 (stat fr3) st3 stop) fun r s4 ⟨hr,I4⟩=>?_)
  subst hr
  exact wpAny_execs_nil ⟨σ3,H3,I4,qn⟩
 ·refine wpAny_passesOwn hp (thn (T.item X rfl rfl rfl hc i pins s3 σ3 H3 X.xe I3 (stat fr3) st3 go) fun r s4 ⟨u,hr,h4⟩=>?_)
  subst hr
  refine wpAny_passesOwn hp (thn h4 fun _ s5 ⟨x,H5,I5,r5,y5,st5,fr5⟩=>?_)
  have I5':=I5.pinned (stat fr5) (T.obj _ _ st5)
  refine wpAny_passesOwn hp (thn (hg _ s5 σ3 H5 x u _ I5' r5 (step x H5 y5)) fun _ s6 ⟨σ6,H6,I6,q6⟩=>?_)
  refine wpAny_passesOwn hp (thn (hb _ s6 σ6 H6 _ I6 q6) fun f s7 q7=>?_)
  have again:∀ {σ7:St} {H7:Hp},Inv X (pins ++ pinsAt fp s5.heap) σ7 H7 s7->N σ7 H7->∃ m,m < n/\∃ i σ' H',Inv X pins σ' H' s7/\tn i s7.heap/\(∀ b ∈ fp,H' b = none)/\W i m σ' H':=fun {σ7 H7} I7 n7=>by
   obtain ⟨m',hm,w7⟩:=hN σ7 H7 n7
   refine ⟨m',hm,i + 1,σ7,H7,I7.unpinned,T.keep _ _ _ st5 fun b hb o e=>(I7.pin (b,o) (List.mem_append_right _ (List.mem_append_right _ (mem_pinsAt hb e)))).1,fun b hb=>?_,w7⟩
   obtain ⟨o,e,d⟩:=T.obj _ _ st5 b hb
   exact (I7.pin (b,o) (List.mem_append_right _ (List.mem_append_right _ (mem_pinsAt hb e)))).2.1
  cases f with
  | next=>obtain ⟨σ7,H7,I7,n7⟩:=q7; exact again I7 n7
  | cont=>obtain ⟨σ7,H7,I7,n7⟩:=q7; exact again I7 n7
  | brk=>obtain ⟨σ7,H7,I7,q7⟩:=q7; exact ⟨σ7,H7,I7.unpinned,q7⟩
  | ret v=>obtain ⟨x7,σ7,H7,I7,r7,q7⟩:=q7; exact ⟨x7,σ7,H7,I7.unpinned,r7,q7⟩
end
end L2
namespace L2
open PySem PySem.Spec PyProof.Rows
noncomputable abbrev R2:=V->V->Hp->VK->Prop
noncomputable def OpR (X:Cx) (f:Value->Value->Sem Value) (r:R2):Prop:=
 ∀ (pins:List (Addr × Obj)) (s:Shared) (σ:St) (H:Hp) (x y:V) (v u:Value) (Q:VK),Inv X pins σ H s->RelV x v->RelV y u->r x y H Q->
  wpAny (model X.prog X.w) X.A (f v u) (EP X pins σ Q) X.xe s
noncomputable def UnR (X:Cx) (f:Value->Sem Value) (r:V->Hp->VK->Prop):Prop:=
 ∀ (pins:List (Addr × Obj)) (s:Shared) (σ:St) (H:Hp) (x:V) (v:Value) (Q:VK),Inv X pins σ H s->RelV x v->r x H Q->
  wpAny (model X.prog X.w) X.A (f v) (EP X pins σ Q) X.xe s
noncomputable def CallR (X:Cx) (f:Value) (r:List V->Hp->VK->Prop):Prop:=
 ∀ (pins:List (Addr × Obj)) (s:Shared) (σ:St) (H:Hp) (xs:List V) (us:List Value) (Q:VK),Inv X pins σ H s->Vals xs us->r xs H Q->
  wpAny (model X.prog X.w) X.A (call f us) (EP X pins σ Q) X.xe s
noncomputable def TruR (X:Cx) (r:V->Hp->(Bool->Hp->Prop)->Prop):Prop:=
 ∀ (pins:List (Addr × Obj)) (s:Shared) (σ:St) (H:Hp) (x:V) (v:Value) (Q:Bool->Hp->Prop),Inv X pins σ H s->RelV x v->r x H Q->
  wpAny (model X.prog X.w) X.A (truthy v) (TP X pins σ Q) X.xe s
noncomputable def tOp (r:R2) (ta tb:TE):TE:=fun σ H Q=>ta σ H fun x H1=>tb σ H1 fun y H2=>r x y H2 Q
noncomputable def tUn (r:V->Hp->VK->Prop) (ta:TE):TE:=fun σ H Q=>ta σ H fun x H1=>r x H1 Q
noncomputable def rI (C:Int->Int->Prop) (g:Int->Int->V):R2:=fun x y H Q=>∃ i j,x = .int i/\y = .int j/\C i j/\Q (g i j) H
noncomputable def rI0 (g:Int->Int->V):R2:=fun x y H Q=>∃ i j,x = .int i/\y = .int j/\Q (g i j) H
noncomputable def rU (g:Int->V):V->Hp->VK->Prop:=fun x H Q=>∃ i,x = .int i/\Q (g i) H
section
variable {X:Cx} {a b c:Expr} {ta tb tc:TE} {pos:Pos}
theorem binT (ha:PE X a ta) (hb:PE X b tb) {pins:List (Addr × Obj)} {s:Shared} {σ:St} {H:Hp} {R:V->V->Hp->Prop} (I:Inv X pins σ H s)
  (h:ta σ H fun x H1=>tb σ H1 fun y H2=>R x y H2) {Q:Value->Shared->Prop} {f:Value->Value->Sem Value}
  (hf:∀ v u s2 x y H2,Inv X pins σ H2 s2->RelV x v->RelV y u->R x y H2->wpAny (model X.prog X.w) X.A (f v u) Q X.xe s2) :
  wpAny (model X.prog X.w) X.A (eval a X.env) (fun v s₁=>wpAny (model X.prog X.w) X.A (eval b X.env) (fun u s₂=>wpAny (model X.prog X.w) X.A (f v u) Q X.xe s₂) X.xe s₁) X.xe s:=by
 refine thn (ha pins s σ H _ I h) fun v s1 ⟨x,H1,I1,r1,q1⟩=>?_
 refine thn (hb pins s1 σ H1 _ I1 q1) fun u s2 ⟨y,H2,I2,r2,q2⟩=>?_
 exact hf v u s2 x y H2 I2 r1 r2 q2
theorem pe_op {op:Operator} {r:R2} (ho:OpR X (binaryOp op) r) (ha:PE X a ta) (hb:PE X b tb):PE X (.BinOp a op b pos) (tOp r ta tb):=by
 intro pins s σ H Q I h
 exact wpAny_BinOp (binT ha hb I h fun v u s2 x y H2 I2 rx ry q=>ho pins s2 σ H2 x y v u Q I2 rx ry q)
theorem pe_un {op:UnaryOp} {r:V->Hp->VK->Prop} (ho:UnR X (unaryOp op) r) (ha:PE X a ta):PE X (.UnaryOp op a pos) (tUn r ta):=by
 intro pins s σ H Q I h
 exact UnaryOp_ (thn (ha pins s σ H _ I h) fun v s1 ⟨x,H1,I1,r1,q1⟩=>ho pins s1 σ H1 x v Q I1 r1 q1)
theorem opI {f:Value->Value->Sem Value} {C:Int->Int->Prop} {g:Int->Int->Int}
  (rule:∀ (i j:Int) (t u:Tok) (s:Shared) (Q:Value->Shared->Prop) (E:Value->Shared->Prop),C i j->Q (.int (g i j) s.toks) { s with toks:=s.toks + 1 }->wpAny (model X.prog X.w) X.A (f (.int i t) (.int j u)) Q E s) :
  OpR X f (rI C fun i j=>.int (g i j)):=by
 intro pins s σ H x y v u Q I rx ry h
 obtain ⟨i,j,rfl,rfl,hc,q⟩:=h
 obtain ⟨t,rfl⟩:=rx
 obtain ⟨t',rfl⟩:=ry
 exact rule i j t t' s _ _ hc ⟨.int (g i j),H,I.tok _,⟨_,rfl⟩,q⟩
theorem opI0 {f:Value->Value->Sem Value} {g:Int->Int->Int}
  (rule:∀ (i j:Int) (t u:Tok) (s:Shared) (Q:Value->Shared->Prop) (E:Value->Shared->Prop),Q (.int (g i j) s.toks) { s with toks:=s.toks + 1 }->wpAny (model X.prog X.w) X.A (f (.int i t) (.int j u)) Q E s) :
  OpR X f (rI0 fun i j=>.int (g i j)):=by
 intro pins s σ H x y v u Q I rx ry h
 obtain ⟨i,j,rfl,rfl,q⟩:=h
 obtain ⟨t,rfl⟩:=rx
 obtain ⟨t',rfl⟩:=ry
 exact rule i j t t' s _ _ ⟨.int (g i j),H,I.tok _,⟨_,rfl⟩,q⟩
theorem opB0 {f:Value->Value->Sem Value} {g:Int->Int->Bool}
  (rule:∀ (i j:Int) (t u:Tok) (s:Shared) (Q:Value->Shared->Prop) (E:Value->Shared->Prop),Q (.bool (g i j)) s->wpAny (model X.prog X.w) X.A (f (.int i t) (.int j u)) Q E s) :
  OpR X f (rI0 fun i j=>.bl (g i j)):=by
 intro pins s σ H x y v u Q I rx ry h
 obtain ⟨i,j,rfl,rfl,q⟩:=h
 obtain ⟨t,rfl⟩:=rx
 obtain ⟨t',rfl⟩:=ry
 exact rule i j t t' s _ _ ⟨.bl (g i j),H,I,rfl,q⟩
noncomputable def CPow (i j:Int):Prop:=0<=j/\j<=1000000/\i.natAbs < 2 ^ 64
theorem two_pow_nn (k:Nat):(0:Int)<=2 ^ k:=by
 rw [two_pow_cast]
 exact Int.natCast_nonneg _
theorem op_add:OpR X (binaryOp .Add) (rI0 fun i j=>.int (i + j)):=opI0 fun _ _ _ _ _ _ _ q=>add_int q
theorem op_sub:OpR X (binaryOp .Sub) (rI0 fun i j=>.int (i - j)):=opI0 fun _ _ _ _ _ _ _ q=>sub_int q
theorem op_mod:OpR X (binaryOp .Mod) (rI (fun _ j=>0 < j) fun i j=>.int (i % j)):=opI fun i j _ _ _ _ _ hc q=>by
 have h1:(0:Int) < j:=hc
 exact mod_int' (by omega) (by rw [Int.fmod_eq_emod_of_nonneg i (by omega)]; exact q)
theorem op_pow:OpR X (binaryOp .Pow) (rI CPow fun i j=>.int (i ^ j.toNat)):=opI fun _ _ _ _ _ _ _ hc q=>pow_int_small hc.1 hc.2.1 hc.2.2 q
theorem op_shr:OpR X (binaryOp .RShift) (rI (fun _ j=>0<=j) fun i j=>.int (i / 2 ^ j.toNat)):=opI fun i j _ _ _ _ _ hc q=>
 rshift_int hc (by rw [Int.fdiv_eq_ediv_of_nonneg i (two_pow_nn _)]; exact q)
theorem op_and:OpR X (binaryOp .BitAnd) (rI0 fun i j=>.int (Builtin.bitAnd i j)):=opI0 fun _ _ _ _ _ _ _ q=>and_int q
theorem op_or:OpR X (binaryOp .BitOr) (rI0 fun i j=>.int (Builtin.bitOr i j)):=opI0 fun _ _ _ _ _ _ _ q=>or_int q
theorem op_xor:OpR X (binaryOp .BitXor) (rI0 fun i j=>.int (Builtin.bitXor i j)):=opI0 fun _ _ _ _ _ _ _ q=>xor_int q
theorem iop_add:OpR X (inplaceOp .Add) (rI0 fun i j=>.int (i + j)):=opI0 fun _ _ _ _ _ _ _ q=>iadd_int q
theorem iop_sub:OpR X (inplaceOp .Sub) (rI0 fun i j=>.int (i - j)):=opI0 fun _ _ _ _ _ _ _ q=>isub_int q
theorem iop_mod:OpR X (inplaceOp .Mod) (rI (fun _ j=>0 < j) fun i j=>.int (i % j)):=opI fun i j _ _ _ _ _ hc q=>by
 have h1:(0:Int) < j:=hc
 exact imod_int (by omega) (by rw [Int.fmod_eq_emod_of_nonneg i (by omega)]; exact q)
theorem iop_shr:OpR X (inplaceOp .RShift) (rI (fun _ j=>0<=j) fun i j=>.int (i / 2 ^ j.toNat)):=opI fun i j _ _ _ _ _ hc q=>
 irshift_int hc (by rw [Int.fdiv_eq_ediv_of_nonneg i (two_pow_nn _)]; exact q)
theorem iop_and:OpR X (inplaceOp .BitAnd) (rI0 fun i j=>.int (Builtin.bitAnd i j)):=opI0 fun _ _ _ _ _ _ _ q=>iand_int q
theorem iop_or:OpR X (inplaceOp .BitOr) (rI0 fun i j=>.int (Builtin.bitOr i j)):=opI0 fun _ _ _ _ _ _ _ q=>ior_int q
theorem iop_xor:OpR X (inplaceOp .BitXor) (rI0 fun i j=>.int (Builtin.bitXor i j)):=opI0 fun _ _ _ _ _ _ _ q=>ixor_int q
theorem unI {f:Value->Sem Value} {g:Int->Int}
  (rule:∀ (i:Int) (t:Tok) (s:Shared) (Q:Value->Shared->Prop) (E:Value->Shared->Prop),Q (.int (g i) s.toks) { s with toks:=s.toks + 1 }->wpAny (model X.prog X.w) X.A (f (.int i t)) Q E s) :
  UnR X f (rU fun i=>.int (g i)):=by
 intro pins s σ H x v Q I rx h
 obtain ⟨i,rfl,q⟩:=h
 obtain ⟨t,rfl⟩:=rx
 exact rule i t s _ _ ⟨.int (g i),H,I.tok _,⟨_,rfl⟩,q⟩
theorem un_neg:UnR X (unaryOp .USub) (rU fun i=>.int (-i)):=unI fun _ _ _ _ _ q=>neg_int q
end
section
variable {X:Cx} {a b c:Expr} {ta tb tc:TE} {pos:Pos}
theorem fin_bl {pins:List (Addr × Obj)} {σ:St} {H:Hp} {s:Shared} {Q:VK} {k k':Bool} (I:Inv X pins σ H s) (q:Q (.bl k) H) (e:k = k'):EP X pins σ Q (.bool k') s:=by
 subst e
 exact ⟨.bl k,H,I,rfl,q⟩
theorem op_lt:OpR X (compareOp .Lt) (rI0 fun i j=>.bl (decide (i < j))):=opB0 fun _ _ _ _ _ _ _ q=>lt_int q
theorem op_le:OpR X (compareOp .LtE) (rI0 fun i j=>.bl (decide (i<=j))):=opB0 fun _ _ _ _ _ _ _ q=>le_int q
theorem op_gt:OpR X (compareOp .Gt) (rI0 fun i j=>.bl (decide (j < i))):=opB0 fun _ _ _ _ _ _ _ q=>gt_int q
theorem op_ge:OpR X (compareOp .GtE) (rI0 fun i j=>.bl (decide (j<=i))):=opB0 fun _ _ _ _ _ _ _ q=>ge_int q
theorem op_in_str:OpR X (compareOp .In) (fun x y H Q=>∃ i j,x = .str i/\y = .str j/\Q (.bl (!(Builtin.Str.occurrences j i 0 j.length 1).isEmpty)) H):=by
 intro pins s σ H x y v u Q I rx ry h
 obtain ⟨i,j,rfl,rfl,q⟩:=h
 obtain ⟨t,rfl⟩:=rx
 obtain ⟨t',rfl⟩:=ry
 exact in_str (fin_bl I q rfl)
theorem pe_cmpR {op:CmpOp} {r:R2} (ho:OpR X (compareOp op) r) (ha:PE X a ta) (hb:PE X b tb) (hm:behindInMarks op b = false):PE X (.Compare a [op] [b] pos) (tOp r ta tb):=by
 intro pins s σ H Q I h
 exact wpAny_Compare1 (binT ha hb I h fun v u s2 x y H2 I2 rx ry q=>ho pins s2 σ H2 x y v u Q I2 rx ry q) hm
noncomputable def tTest (t:TE):TT:=fun σ H Q=>t σ H fun x H'=>∃ k,x = .bl k/\Q k H'
theorem pt_cmpR {op:CmpOp} {r:R2} (ho:OpR X (compareOp op) r) (ha:PE X a ta) (hb:PE X b tb) (hm:behindInMarks op b = false):PT X (.Compare a [op] [b] pos) (tTest (tOp r ta tb)):=by
 intro pins s σ H Q I h
 refine wpAny_isTrue_Compare1 (thn (ha pins s σ H _ I h) fun v s1 ⟨x,H1,I1,r1,q1⟩=>thn (hb pins s1 σ H1 _ I1 q1) fun u s2 ⟨y,H2,I2,r2,q2⟩=>
  thn (ho pins s2 σ H2 x y v u _ I2 r1 r2 q2) fun c s3 ⟨z,H3,I3,r3,k,e,q3⟩=>?_) hm
 subst e
 cases r3
 exact wpAny_truthy_bool ⟨H3,I3,q3⟩
noncomputable def tChain (r r':R2) (ta tb tc:TE):TE:=fun σ H Q=>ta σ H fun x H1=>tb σ H1 fun y H2=>r x y H2 fun z H3=>∃ k,z = .bl k/\
 (if k = true then tc σ H3 fun w' H4=>r' y w' H4 Q else Q (.bl false) H3)
theorem pe_chain {op op':CmpOp} {r r':R2} (ho:OpR X (compareOp op) r) (ho':OpR X (compareOp op') r') (ha:PE X a ta) (hb:PE X b tb) (hc:PE X c tc)
  (hm:lastMarks [op,op'] [b,c] = false:=by with_unfolding_all rfl):PE X (.Compare a [op,op'] [b,c] pos) (tChain r r' ta tb tc):=by
 intro pins s σ H Q I h
 refine Compare_chain (thn (ha pins s σ H _ I h) fun v s1 ⟨x,H1,I1,r1,q1⟩=>chain_link (thn (hb pins s1 σ H1 _ I1 q1) fun u s2 ⟨y,H2,I2,r2,q2⟩=>
  thn (ho pins s2 σ H2 x y v u _ I2 r1 r2 q2) fun d s3 ⟨z,H3,I3,r3,k,e,q3⟩=>?_)) hm
 subst e
 cases r3
 refine wpAny_truthy_bool ?_
 cases k with
 | false=>exact ite_ff ⟨.bl false,H3,I3,rfl,q3⟩
 | true=>exact ite_tt (chain_last (thn (hc pins s3 σ H3 _ I3 q3) fun w' s4 ⟨z',H4,I4,r4,q4⟩=>ho' pins s4 σ H4 y z' u w' Q I4 r2 r4 q4))
theorem pt_chain {op op':CmpOp} {r r':R2} (ho:OpR X (compareOp op) r) (ho':OpR X (compareOp op') r') (ha:PE X a ta) (hb:PE X b tb) (hc:PE X c tc)
  (hm:lastMarks [op,op'] [b,c] = false:=by with_unfolding_all rfl):PT X (.Compare a [op,op'] [b,c] pos) (tTest (tChain r r' ta tb tc)):=by
 intro pins s σ H Q I h
 refine isTrue_chain (thn (ha pins s σ H _ I h) fun v s1 ⟨x,H1,I1,r1,q1⟩=>test_link (thn (hb pins s1 σ H1 _ I1 q1) fun u s2 ⟨y,H2,I2,r2,q2⟩=>
  thn (ho pins s2 σ H2 x y v u _ I2 r1 r2 q2) fun d s3 ⟨z,H3,I3,r3,k,e,q3⟩=>?_)) hm
 subst e
 cases r3
 refine wpAny_truthy_bool ?_
 cases k with
 | false=>
  obtain ⟨k',e',q'⟩:=q3
  cases e'
  exact ite_ff ⟨H3,I3,q'⟩
 | true=>
  refine ite_tt (test_last (thn (hc pins s3 σ H3 _ I3 q3) fun w' s4 ⟨z',H4,I4,r4,q4⟩=>thn (ho' pins s4 σ H4 y z' u w' _ I4 r2 r4 q4) fun d' s5 ⟨z2,H5,I5,r5,k2,e2,q5⟩=>?_))
  subst e2
  cases r5
  exact wpAny_truthy_bool ⟨H5,I5,q5⟩
noncomputable def TruV (K:PySem.W.Frag) (x:V) (H:Hp) (k:Bool):Prop:=
 match x with
 | .non=>k = false
 | .bl b=>k = b
 | .int i=>k = (i != 0)
 | .str y=>y.length<=sizeLine/\k = ((y.length:Int) != 0)
 | .byt y=>y.size<=sizeLine/\k = ((y.size:Int) != 0)
 | .ref p=>(∃ xs,SqL K H p xs/\k = !xs.isEmpty)\/(∃ xs,SqT K H p xs/\k = !xs.isEmpty)\/∃ kvs,H p = some (.dK kvs)/\k = !kvs.isEmpty
 | _=>False
theorem isEmpty_kv {κ:Type} {kvs:List (κ × V)} {vs:List (κ × Value)} (r:KV kvs vs):(!vs.isEmpty) = !kvs.isEmpty:=by
 cases r <;> rfl
theorem isEmpty_of {xs:List V} {its:List Value} (r:Vals xs its):(!its.toArray.isEmpty) = !xs.isEmpty:=by
 cases r <;> simp
theorem line63:(sizeLine:Nat) < 2 ^ 63:=by rw [sizeLine_eq]; decide
theorem tru_ok:TruR X (fun x H Q=>∃ k,TruV X.K x H k/\Q k H):=by
 intro pins s σ H x v Q I rx h
 obtain ⟨k,e,q⟩:=h
 have hl:=line63
 have hs:sizeLine = 16777216:=sizeLine_eq
 cases x with
 | non=>
  cases rx
  have e':k = false:=e
  subst e'
  exact truthy_none ⟨H,I,q⟩
 | bl b=>
  cases rx
  have e':k = b:=e
  subst e'
  exact wpAny_truthy_bool ⟨H,I,q⟩
 | int i=>
  obtain ⟨t,rfl⟩:=rx
  have e':k = (i != 0):=e
  subst e'
  exact PySem.P.truthy_int ⟨H,I,q⟩
 | str y=>
  obtain ⟨t,rfl⟩:=rx
  obtain ⟨hy,e'⟩:y.length<=sizeLine/\k = ((y.length:Int) != 0):=e
  subst e'
  exact PySem.P.truthy_str (by omega) ⟨H,I.tok _,q⟩
 | byt y=>
  obtain ⟨t,rfl⟩:=rx
  obtain ⟨hy,e'⟩:y.size<=sizeLine/\k = ((y.size:Int) != 0):=e
  subst e'
  exact PySem.W.truthy_bytes (by omega) ⟨H,I.tok _,q⟩
 | ref p=>
  cases rx
  have e':(∃ xs,SqL X.K H p xs/\k = !xs.isEmpty)\/(∃ xs,SqT X.K H p xs/\k = !xs.isEmpty)\/∃ kvs,H p = some (.dK kvs)/\k = !kvs.isEmpty:=e
  rcases e' with ⟨xs,hx,e'⟩ | ⟨xs,hx,e'⟩ | ⟨kvs,hx,e'⟩
  ·subst e'
   obtain ⟨its,r,pl,hz⟩:=I.list hx
   have hlen:=r.length
   exact wpAny_truthy_list pl.isList (by simp only [List.size_toArray]; omega) ⟨H,I.tok _,by rw [isEmpty_of r]; exact q⟩
  ·subst e'
   obtain ⟨its,r,pl,hz⟩:=I.tuple hx
   have hlen:=r.length
   exact truthy_tuple pl (by simp only [List.size_toArray]; omega) ⟨H,I.tok _,by rw [isEmpty_of r]; exact q⟩
  ·subst e'
   obtain ⟨hz,hS,vs,r,m⟩:kvs.length<=sizeLine/\(p == sysModules) = false/\∃ vs,KV kvs vs/\s.heap.DictOf (mixKind X.prog X.w) p vs:=I.hok p _ hx
   have hlen:kvs.length = vs.length:=Paired.length r
   exact wpAny_truthy_dict hS m (by omega) ⟨H,I.tok _,by rw [isEmpty_kv r]; exact q⟩
 | _=>exact (show False from e).elim
theorem pt_truth (ha:PE X a ta) (he:∀ whole,isTrue a X.env whole = (do let v <- whole; standAt a.pos; holding [v] (truthy v))) :
  PT X a (fun σ H Q=>ta σ H fun x H'=>∃ k,TruV X.K x H' k/\Q k H'):=by
 intro pins s σ H Q I h
 exact isTrue_plain (thn (ha pins s σ H _ I h) fun v s1 ⟨x,H1,I1,r1,q1⟩=>tru_ok pins s1 σ H1 x v Q I1 r1 q1) (he _)
theorem op_add_str:OpR X (binaryOp .Add) (fun x y H Q=>∃ i j,x = .str i/\y = .str j/\i.length + j.length<=sizeLine/\Q (.str (i ++ j)) H):=by
 intro pins s σ H x y v u Q I rx ry h
 obtain ⟨i,j,rfl,rfl,hz,q⟩:=h
 obtain ⟨t,rfl⟩:=rx
 obtain ⟨t',rfl⟩:=ry
 exact add_str (fun t' tk=>⟨.str (i ++ j),H,I.tok _,⟨_,rfl⟩,q⟩) hz
theorem iop_add_str:OpR X (inplaceOp .Add) (fun x y H Q=>∃ i j,x = .str i/\y = .str j/\i.length + j.length<=sizeLine/\Q (.str (i ++ j)) H):=by
 intro pins s σ H x y v u Q I rx ry h
 obtain ⟨i,j,rfl,rfl,hz,q⟩:=h
 obtain ⟨t,rfl⟩:=rx
 obtain ⟨t',rfl⟩:=ry
 exact iadd_str (fun t' tk=>⟨.str (i ++ j),H,I.tok _,⟨_,rfl⟩,q⟩) hz
theorem vals1 {x:V} {us:List Value} (r:Vals [x] us):∃ u,us = [u]/\RelV x u:=by
 cases r with
 | cons r1 r2=>cases r2; exact ⟨_,rfl,r1⟩
theorem vals2 {x y:V} {us:List Value} (r:Vals [x,y] us):∃ u w',us = [u,w']/\RelV x u/\RelV y w':=by
 cases r with
 | cons r1 r2=>
  cases r2 with
  | cons r3 r4=>cases r4; exact ⟨_,_,rfl,r1,r3⟩
end
end L2
namespace L2
open PySem PySem.Spec PyProof.Rows
structure ObjM (h:Heap) (x dx C:Addr) (mA:Str->Option Value):Prop where
 obj:h.get? x = some (PySem.W.instObj C dx)
 ns:h.Ns1 dx mA
 ne:dx ≠ x
theorem lookIn_ns {h:Heap} {dx:Addr} {mA:Str->Option Value} (n:h.Ns1 dx mA):∃ od,h.get? dx = some od/\∀ name,PySem.W.lookIn name od = some (mA name):=by
 obtain ⟨o,es,ep,ho,hd,hk,_,hm⟩:=n
 refine ⟨o,ho,fun name=>?_⟩
 have e:=hm name
 unfold nsFind findBy at e
 rw [<- Array.find?_toList] at e
 unfold PySem.W.lookIn
 rw [hd]
 dsimp only
 split
 ·rename_i y q
  rw [q] at e
  exact congrArg some e
 ·rename_i q
  rw [q] at e
  have a:es.toList.any (·.refKey) = false:=by
   rw [List.any_eq_false]
   intro y hy
   obtain ⟨z,t,hkey⟩:=hk y (Array.mem_toList_iff.mp hy)
   simp [DictEntry.refKey,hkey]
  have a':¬ es.toList.any (·.refKey) = true:=by rw [a]; exact Bool.false_ne_true
  rw [if_neg a']
  exact congrArg some e
theorem ObjM.look {h:Heap} {x dx C:Addr} {mA:Str->Option Value} (I:ObjM h x dx C mA):∃ od,PySem.W.InstAt h x (PySem.W.instObj C dx) C (some od)/\∀ name,PySem.W.lookIn name od = some (mA name):=
 let ⟨od,ho,hl⟩:=lookIn_ns I.ns
 ⟨od,⟨I.obj,rfl,rfl,ho⟩,hl⟩
section
variable {prog:Program} {w:World} {A:Around} {E:Value->Shared->Prop} {s:Shared} {K:PySem.W.Frag} {x dx C f:Addr} {mA:Str->Option Value} {name:Str} {v:Value}
end
theorem RelO.some_of {v:V} {o:Option Value} (r:RelO (some v) o):∃ u,o = some u/\RelV v u:=by
 cases o with
 | none=>exact (show False from r).elim
 | some u=>exact ⟨u,rfl,r⟩
section
variable {P:Program} {w:World} {H H':Hp} {h h':Heap} {a C dx:Addr} {fs fs':List (Str × V)}
theorem ins_get (hok:HOk P w H h) (e:H a = some (.ins C dx fs)):∃ mA,ObjM h a dx C mA/\(∀ f,RelO (fs.lookup f) (mA f))/\PySem.Within mA (fs.map (·.1))/\fs.length<=1000/\H dx = some (.own a):=by
 obtain ⟨d,z,ne,ob,mA,n,r,q⟩:=(show ObjOk P w H h a (.ins C dx fs) from hok a _ e)
 exact ⟨mA,⟨ob,n,ne⟩,r,q,z,d⟩
end
structure Cls (K:PySem.W.Frag) (C:Addr):Prop where
 pg:PySem.W.plainGet K C Str.empty = true
 hd:PySem.W.hasDictIn K C = true
 po:PySem.W.plainOver K C = true
 sa:PySem.W.findIn K (.ref C) "__setattr__" = some (some (.builtin "object.__setattr__"))
theorem Cls.get {K:PySem.W.Frag} {C:Addr} (c:Cls K C) (f:Str):PySem.W.plainGet K C f = true:=c.pg
structure Con (K:PySem.W.Frag) (C:Addr) (f:Str) (v:V) (u:Value):Prop where
 at_:PySem.W.findIn K (.ref C) f = some (some u)
 rel:RelV v u
 get:PySem.W.specialIn K u "__get__" = some none
 cp:PySem.W.copiedNames.contains f = false
structure Meth (K:PySem.W.Frag) (C:Addr) (m:Str) (f:Addr):Prop where
 at_:PySem.W.findIn K (.ref C) m = some (some (.ref f))
 fn:PySem.W.isFn K (.ref f) = true
 kp:PySem.W.keepIn K (.ref f) = true
section
variable {X:Cx} {pins:List (Addr × Obj)} {σ:St} {H:Hp} {s:Shared} {a C dx:Addr} {fs:List (Str × V)} {f:Str} {v:V} {A:Around} {E:Value->Shared->Prop}
end
section
variable {X:Cx} {o e value:Expr} {f:Str} {pos pos' tpos:Pos} {ta tv:TE}
end
section
variable {X:Cx} {pins:List (Addr × Obj)} {σ:St} {H:Hp} {s:Shared} {A:Around} {E:Value->Shared->Prop} {Q:Value->Shared->Prop} {c:Value} {b:Bool}
inductive TyOf (K:PySem.W.Frag) (H:Hp):V->Value->Prop where
 | non:TyOf K H .non (.type "NoneType")
 | bl (x:Bool):TyOf K H (.bl x) (.type "bool")
 | int (i:Int):TyOf K H (.int i) (.type "int")
 | str (x:Str):TyOf K H (.str x) (.type "str")
 | flt (x:UInt64):TyOf K H (.flt x) (.type "float")
 | lst {a:Addr} {xs:List V} (e:H a = some (.lst xs)):TyOf K H (.ref a) (.type "list")
 | frz {a:Addr} {o:Obj} {xs:List V} (e:H a = some (.frz o (.lst xs))):TyOf K H (.ref a) (.type "list")
 | tup {a:Addr} {xs:List V} (e:H a = some (.tup xs)):TyOf K H (.ref a) (.type "tuple")
 | dK {a:Addr} {kvs:List (Key × V)} (e:H a = some (.dK kvs)):TyOf K H (.ref a) (.type "dict")
 | dT {a:Addr} {kvs:List (List Key × V)} (e:H a = some (.dT kvs)):TyOf K H (.ref a) (.type "dict")
 | ins {a C dx:Addr} {fs:List (Str × V)} (e:H a = some (.ins C dx fs)) (cl:Cls K C) (ha:PySem.W.findIn K (.ref C) "__class__" = some (some (.builtin "object.__class__")))
   (hn:PySem.W.specialIn K (.builtin "object.__class__") "__get__" = some (some (.builtin "getset_descriptor.__get__"))) (htk:PySem.W.takesIn K (.builtin "object.__class__") = some true)
   (hm:PySem.W.mroIn K C (.type "object") = some true):TyOf K H (.ref a) (.ref C)
theorem isinst_ok {x:V} {u t:Value} (I:Inv X pins σ H s) (rx:RelV x u) (ty:TyOf X.K H x t) (e:PySem.W.kitOne X.K t c = some b) (h:∀ tk,Q (.bool b) { s with toks:=tk }) :
  wpAny (model X.prog X.w) A (call (.builtin "isinstance") [u,c]) Q E s:=by
 cases ty with
 | non=>cases (show u = Value.none from rx); exact PySem.W.kia_one PySem.W.kitx_none I.kIn True.intro e (fun z=>nomatch z) h
 | bl y=>cases (show u = Value.bool y from rx); exact PySem.W.kia_one PySem.W.kitx_bool I.kIn True.intro e (fun z=>nomatch z) h
 | int i=>obtain ⟨t,q⟩:=(show ∃ t,u = Value.int i t from rx); cases q; exact PySem.W.kia_one PySem.W.kitx_int I.kIn True.intro e (fun z=>nomatch z) h
 | str y=>obtain ⟨t,q⟩:=(show ∃ t,u = Value.str y t from rx); cases q; exact PySem.W.kia_one PySem.W.kitx_str I.kIn True.intro e (fun z=>nomatch z) h
 | flt y=>obtain ⟨t,q⟩:=(show ∃ t,u = Value.float y t from rx); cases q; exact PySem.W.kia_one PySem.W.kitx_float I.kIn True.intro e (fun z=>nomatch z) h
 | @lst a xs ea=>
  cases (show u = Value.ref a from rx)
  obtain ⟨_,_,n,_,h1⟩:=(show ObjOk X.prog X.w H s.heap a (.lst xs) from I.hok a _ ea)
  exact PySem.W.kia_one PySem.W.kitx_list I.kIn ⟨_,h1,rfl⟩ e (fun z=>nomatch z) h
 | @frz a ob xs ea=>
  cases (show u = Value.ref a from rx)
  obtain ⟨_,_,_,n,_,h1⟩:=(show ObjOk X.prog X.w H s.heap a (.frz ob (.lst xs)) from I.hok a _ ea)
  exact PySem.W.kia_one PySem.W.kitx_list I.kIn ⟨_,h1,rfl⟩ e (fun z=>nomatch z) h
 | @tup a xs ea=>
  cases (show u = Value.ref a from rx)
  obtain ⟨_,_,_,p⟩:=(show ObjOk X.prog X.w H s.heap a (.tup xs) from I.hok a _ ea)
  obtain ⟨o,h1,h2,_⟩:=p
  exact PySem.W.kia_one PySem.W.kitx_tuple I.kIn ⟨o,h1,h2⟩ e (fun z=>nomatch z) h
 | @dK a kvs ea=>
  cases (show u = Value.ref a from rx)
  obtain ⟨_,_,vs,_,p⟩:=(show ObjOk X.prog X.w H s.heap a (.dK kvs) from I.hok a _ ea)
  obtain ⟨o,es,ep,h1,h2,_⟩:=p
  exact PySem.W.kia_one PySem.W.kitx_dict I.kIn ⟨o,h1,h2.1⟩ e (fun z=>nomatch z) h
 | @dT a kvs ea=>
  cases (show u = Value.ref a from rx)
  obtain ⟨_,_,xs,_,o,es,ep,h1,h2,_⟩:=(show ObjOk X.prog X.w H s.heap a (.dT kvs) from I.hok a _ ea)
  exact PySem.W.kia_one PySem.W.kitx_dict I.kIn ⟨o,h1,h2.1⟩ e (fun z=>nomatch z) h
 | @ins a C dx fs ea cl ha hn htk hm=>
  cases (show u = Value.ref a from rx)
  obtain ⟨mA,O,_⟩:=ins_get I.hok ea
  obtain ⟨od,J,_⟩:=O.look
  exact PySem.W.kia_one (PySem.W.kitx_own (cl.get _) cl.hd ha hn htk hm) I.kIn J e (fun z=>nomatch z) h
end
end L2
namespace L2
open PySem PySem.Spec PyProof.Rows
structure Room (k:Nat) (A:Around):Prop where
 hd:A.handled = none
 dp:A.depth + 3 * k + 5 < recursionLimit
 un:A.units + 16 * k + 200 < cLine
 gd:A.guards = some []
theorem Room.mono {j k:Nat} {A:Around} (r:Room k A) (h:j<=k):Room j A:=⟨r.hd,by have:=r.dp; omega,by have:=r.un; omega,r.gd⟩
theorem Room.deeper {k:Nat} {A:Around} (r:Room (k + 1) A) (env:Env):Room k (A.deeper env):=
 ⟨r.hd,by have:=r.dp; show A.depth + 1 + 3 * k + 5 < _; omega,by have:=r.un; show A.units + 3 + 16 * k + 200 < _; omega,r.gd⟩
theorem Room.depth {k:Nat} {A:Around} (r:Room k A):A.depth < recursionLimit:=by have:=r.dp; omega
noncomputable def tNil:TA:=fun _ H Q=>Q [] H
noncomputable def tCons (ta:TE) (tr:TA):TA:=fun σ H Q=>ta σ H fun x H1=>tr σ H1 fun xs H2=>Q (x :: xs) H2
section
variable {X:Cx} {e:Expr} {es:List Expr} {te:TE} {t:TA} {pos:Pos}
theorem pa_nil:PA X [] tNil:=fun _ _ _ _ H Q I h=>Calls.spliced_nil ⟨[],H,I,.nil,h⟩
theorem pa_cons (ha:PE X e te) (hr:PA X es t) (hs:starEach (e :: es) X.env = (false,eval e X.env) :: starEach es X.env:=by rfl):PA X (e :: es) (tCons te t):=by
 intro pos pins s σ H Q I h
 rw [hs]
 show wpAny _ _ (spliced ((false,eval e X.env) :: backTo pos (starEach es X.env))) _ _ s
 refine Calls.spliced_cons (thn (ha pins s σ H _ I h) fun u s1 ⟨x,H1,I1,r1,q1⟩=>?_)
 exact thn (hr pos pins s1 σ H1 _ I1 q1) fun us s2 ⟨xs,H2,I2,r2,q2⟩=>⟨x :: xs,H2,I2,.cons r1 r2,q2⟩
noncomputable def tTup (t:TA):TE:=fun σ H Q=>t σ H fun xs H1=>xs.length<=sizeLine/\∀ p,H1 p = none->Q (.ref p) (upd H1 p (.tup xs))
noncomputable def tLst (t:TA):TE:=fun σ H Q=>t σ H fun xs H1=>xs.length<=sizeLine/\∀ p,H1 p = none->Q (.ref p) (upd H1 p (.lst xs))
theorem pe_tup {x1} (h:PA X es t):PE X (.Tuple es x1 pos) (tTup t):=by
 intro pins s σ H Q I hq
 refine wpAny_Tuple_spliced (thn (h pos pins s σ H _ I hq) fun us s1 ⟨xs,H1,I1,r,z,q⟩=>⟨by rw [<- r.length]; exact z,?_⟩)
 have hf:H1 s1.heap.objs.size = none:=I1.hok.fresh (Nat.le_refl _)
 refine ⟨.ref s1.heap.objs.size,upd H1 s1.heap.objs.size (.tup xs),I1.laid (t':=s1.toks) (fun b u e=>Heap.get?_push_of_some _ e) (Nat.le_refl _) ?_,rfl,q _ hf⟩
 exact ⟨z,us,r,⟨_,Heap.get?_push_size _ rfl,rfl,_,rfl⟩⟩
theorem pe_lst (h:PA X es t):PE X (.List es pos) (tLst t):=by
 intro pins s σ H Q I hq
 refine wpAny_List_spliced (thn (h pos pins s σ H _ I hq) fun us s1 ⟨xs,H1,I1,r,z,q⟩=>⟨by rw [<- r.length]; exact z,?_⟩)
 have hf:H1 s1.heap.objs.size = none:=I1.hok.fresh (Nat.le_refl _)
 refine ⟨.ref s1.heap.objs.size,upd H1 s1.heap.objs.size (.lst xs),I1.laid (t':=s1.toks) (fun b u e=>Heap.get?_push_of_some _ e) (Nat.le_refl _) ?_,rfl,q _ hf⟩
 exact ⟨z,us,0,r,Heap.get?_push_size _ rfl⟩
end
noncomputable abbrev Sp:=List V->Hp->VK->XK->Prop
noncomputable abbrev CXT:=List Env->Hp->Shared->XK->Value->Shared->Prop
structure Env0 (P:Program) (w:World) (K:PySem.W.Frag) (mg:Str->Option Value) (base:Heap) (A:Around) (outer:List Env) (s:Shared) (H:Hp):Prop where
 frames:A.frames = some outer
 mod:Mod K mg base
 bs:∀ b o,base.get? b = some o->s.heap.get? b = some o/\H b = none
 bsz:base.objs.size<=s.heap.objs.size
 funs:s.heap.FunFrames base outer
 frf:∀ b ∈ frs outer,H b = none
 hok:HOk P w H s.heap
 bare:AllBare s.gens
noncomputable def CE (outer:List Env) (P:Program) (w:World) (H:Hp) (s:Shared) (Q:VK) (u:Value) (s':Shared):Prop:=
 ∃ v H',s'.os = s.os/\AllBare s'.gens/\Un (frs outer) [] H H' s.heap s'.heap/\HOk P w H' s'.heap/\RelV v u/\Q v H'
noncomputable def CR (CX:CXT) (outer:List Env) (P:Program) (w:World) (H:Hp) (s:Shared) (Q:VK) (E:XK) (r:Result) (s':Shared):Prop:=
 match r with
 | .ok (.ret u)=>CE outer P w H s Q u s'
 | .ok _=>False
 | .error e=>CX outer H s E e s'
structure FnOk (P:Program) (w:World) (K:PySem.W.Frag) (mg:Str->Option Value) (base:Heap) (CX:CXT) (k:Nat) (f:Addr) (fd:FuncData) (ps:List Str) (sp:Sp):Prop where
 len:∀ vs H Q E,sp vs H Q E->vs.length = ps.length
 run:∀ (A:Around) (outer:List Env) (s:Shared) (H:Hp) (args:Args) (us:List Value) (vs:List V) (Q:VK) (E:XK),Room k A->Env0 P w K mg base A outer s H->BindsTo s fd args (ps.zip us)->Vals vs us->sp vs H Q E->
  codeAny (model P w) A (.call (.ref f) args) (CR CX outer P w H s Q E) s
theorem FnOk.mono {P:Program} {w:World} {K:PySem.W.Frag} {mg:Str->Option Value} {base:Heap} {CX:CXT} {j k:Nat} {f:Addr} {fd:FuncData} {ps:List Str} {sp:Sp} (F:FnOk P w K mg base CX j f fd ps sp) (h:j<=k) :
  FnOk P w K mg base CX k f fd ps sp:=⟨F.len,fun A outer s H args us vs Q E hr=>F.run A outer s H args us vs Q E (hr.mono h)⟩
theorem FnOk.imp {P:Program} {w:World} {K:PySem.W.Frag} {mg:Str->Option Value} {base:Heap} {CX:CXT} {k:Nat} {f:Addr} {fd:FuncData} {ps:List Str} {sp sp':Sp} (F:FnOk P w K mg base CX k f fd ps sp)
  (h:∀ vs H Q E,sp' vs H Q E->sp vs H Q E):FnOk P w K mg base CX k f fd ps sp':=
 ⟨fun vs H Q E q=>F.len vs H Q E (h _ _ _ _ q),fun A outer s H args us vs Q E hr he hb hv hs=>F.run A outer s H args us vs Q E hr he hb hv (h _ _ _ _ hs)⟩
section
variable {X:Cx} {pins:List (Addr × Obj)} {σ:St} {H:Hp} {s s':Shared}
theorem Inv.env0 (I:Inv X pins σ H s):Env0 X.prog X.w X.K X.mg X.base X.A X.stack s H:=
 ⟨I.ok.frames,I.ok.mod,I.bs,Nat.le_trans I.ok.bsz I.sz,I.stack,I.stkFree,I.hok,I.bare⟩
theorem Inv.after {Q:VK} {u:Value} (I:Inv X pins σ H s) (h:CE X.stack X.prog X.w H s Q u s'):EP X pins σ Q u s':=by
 obtain ⟨v,H',os,bare,un,hok,r,q⟩:=h
 obtain ⟨hh,g,d,t,os'⟩:=s'
 obtain rfl:os' = s.os:=os
 exact ⟨v,H',I.call (h':=hh) (g':=g) (d':=d) (t':=t) (ch:=[]) un hok bare (fun b z=>absurd z (by simp)),r,q⟩
end
noncomputable def tCall (sp:Sp) (dvs:List V) (E:XK) (t:TA):TE:=fun σ H Q=>t σ H fun vs H1=>sp (vs ++ dvs) H1 Q E
noncomputable def Binds (K:PySem.W.Frag) (fd:FuncData) (ps:List Str) (ds:List Value):Prop:=
 ∀ (s:Shared) (us:List Value),K.In s.heap->(us ++ ds).length = ps.length->BindsTo s fd ⟨us,[]⟩ (ps.zip (us ++ ds))
theorem Binds.all {K:PySem.W.Frag} {fd:FuncData} {ps:List Str} (h:∀ us:List Value,us.length = ps.length->bindArgs fd ⟨us,[]⟩ = pure (ps.zip us)):Binds K fd ps []:=fun s us _ hl=>by
 rw [List.append_nil] at hl ⊢
 exact .of_eq (h us hl)
noncomputable def Passes (CX:CXT) (X:Cx) (E:XK):Prop:=∀ (pins:List (Addr × Obj)) (σ:St) (H:Hp) (s:Shared) (e:Value) (s':Shared),Inv X pins σ H s->CX X.stack H s E e s'->X.xe e s'
section
variable {X:Cx} {CX:CXT} {k:Nat} {f C:Addr} {fd:FuncData} {ps:List Str} {sp:Sp} {dvs:List V} {ds:List Value} {E:XK} {x m:Str} {p pos apos:Pos} {e o:Expr} {es:List Expr} {ta:TE} {t:TA}
theorem run_fn {pins:List (Addr × Obj)} {σ:St} {H:Hp} {s:Shared} {Q:VK} {us:List Value} {vs:List V} (F:FnOk X.prog X.w X.K X.mg X.base CX k f fd ps sp) (hr:Room k X.A) (hb:Binds X.K fd ps ds) (hd:Vals dvs ds) (hx:Passes CX X E)
  (I:Inv X pins σ H s) (r:Vals vs us) (h:sp (vs ++ dvs) H Q E):wpAny (model X.prog X.w) X.A (call (.ref f) us) (EP X pins σ Q) X.xe s:=by
 have r2:Vals (vs ++ dvs) (us ++ ds):=r.append hd
 have hl:(us ++ ds).length = ps.length:=by rw [<- r2.length]; exact F.len _ _ _ _ h
 refine wpAny_call (codeAny_mono (F.run X.A X.stack s H ⟨us,[]⟩ (us ++ ds) (vs ++ dvs) Q E hr I.env0 (hb s us I.kIn hl) r2 h) fun r s' hq=>?_)
 cases r with
 | error e=>exact hx pins σ H s e s' I hq
 | ok fl=>
  cases fl with
  | ret u=>exact I.after hq
  | next=>exact False.elim hq
  | brk=>exact False.elim hq
  | cont=>exact False.elim hq
theorem pe_call (F:FnOk X.prog X.w X.K X.mg X.base CX k f fd ps sp) (hr:Room k X.A) (hg:Gl X x) (hm:X.mg x = some (.ref f)) (hk:PySem.W.keepIn X.K (.ref f) = true) (hb:Binds X.K fd ps ds) (hd:Vals dvs ds) (hx:Passes CX X E)
  (ha:PA X (e :: es) t) (hdb:(x == ("__debug__":Str)) = false:=by decide) (he:starEach (e :: es) X.env = (false,eval e X.env) :: starEach es X.env:=by rfl) (hpl:(backTo pos (starEach es X.env)).any (·.1) = false:=by rfl) :
  PE X (.Call (.Name x p) (e :: es) [] pos) (tCall sp dvs E t):=by
 intro pins s σ H Q I h
 refine wpAny_Call_Name_kw (ld_glob I hg hm ?_ hdb)
 refine PySem.W.callWith_K (h₀:=X.base) I.ok.mod.kin hk (thn (ha pos pins s σ H _ I h) fun us s1 ⟨vs,H1,I1,r,q⟩=>⟨I1.kIn,?_⟩) he hpl
 exact run_fn F hr hb hd hx I1 r q
theorem pe_call0 (F:FnOk X.prog X.w X.K X.mg X.base CX k f fd ps sp) (hr:Room k X.A) (hg:Gl X x) (hm:X.mg x = some (.ref f)) (hk:PySem.W.keepIn X.K (.ref f) = true) (hb:Binds X.K fd ps ds) (hd:Vals dvs ds) (hx:Passes CX X E)
  (hdb:(x == ("__debug__":Str)) = false:=by decide):PE X (.Call (.Name x p) [] [] pos) (tCall sp dvs E tNil):=by
 intro pins s σ H Q I h
 refine wpAny_Call_Name_kw (ld_glob I hg hm ?_ hdb)
 exact PySem.W.callWith_K0 I.kIn hk (run_fn (us:=[]) F hr hb hd hx I .nil h)
structure Mk (K:PySem.W.Frag) (C f:Addr):Prop where
 makes:PySem.W.makesIn K C = true
 init:PySem.W.findIn K (.ref C) "__init__" = some (some (.ref f))
 fn:PySem.W.isFn K (.ref f) = true
 kp:PySem.W.keepIn K (.ref C) = true
end
section
variable {X:Cx} {CX:CXT} {k:Nat} {f C:Addr} {fd:FuncData} {ps ks:List Str} {sp:Sp} {E:XK} {x m:Str} {p pos apos kpos:Pos} {e o:Expr} {es:List Expr} {kws:List Keyword} {te ta:TE} {t tk:TA} {nm:Option Str}
structure KBinds (K:PySem.W.Frag) (fd:FuncData) (ps ks:List Str) (g:List Value->List Value->List Value) (gV:List V->List V->List V):Prop where
 to:∀ (s:Shared) (us ws:List Value),K.In s.heap->(g us ws).length = ps.length->BindsTo s fd ⟨us,ks.zip ws⟩ (ps.zip (g us ws))
 rel:∀ {vs:List V} {us:List Value} {zs:List V} {ws:List Value},Vals vs us->Vals zs ws->Vals (gV vs zs) (g us ws)
variable {g:List Value->List Value->List Value} {gV:List V->List V->List V}
end
structure FnScope (N P:List Str) (sc:Scope):Prop where
 kind:sc.kind = .function
 co:sc.isCoroutine = false
 gen:sc.isGenerator = false
 nd:N.Nodup
 pre:N.take P.length = P
 par:∀ x ∈ P,sc.names.lookup x = some .local\/sc.names.lookup x = some .cell
 nofree:∀ y ∈ sc.names,y.2 ≠ .free
theorem bindL_out {kindOf:Str->Option NameKind} {x:Str}:∀ {binds:List (Str × Value)} {m:Str->Option Value},(∀ v,(x,v) ∉ binds)->bindL kindOf binds m x = m x
 | [],_,_=>rfl
 | (n,v) :: r,m,h=>by
  unfold bindL
  rw [bindL_out fun w hw=>h w (List.mem_cons_of_mem _ hw)]
  split
  ·have:x ≠ n:=by rintro rfl; exact h v List.mem_cons_self
   simp [this]
  ·rfl
theorem bindC_out {kindOf:Str->Option NameKind} {x:Str}:∀ {binds:List (Str × Value)} {m:Str->Option Value},(∀ v,(x,v) ∉ binds)->bindC kindOf binds m x = m x
 | [],_,_=>rfl
 | (n,v) :: r,m,h=>by
  unfold bindC
  rw [bindC_out fun w hw=>h w (List.mem_cons_of_mem _ hw)]
  split
  ·rfl
  ·have:x ≠ n:=by rintro rfl; exact h v List.mem_cons_self
   simp [this]
theorem bindL_get {kindOf:Str->Option NameKind} {x:Str} {v:Value}:∀ {P:List Str} {vs:List Value} {i:Nat} {m:Str->Option Value},P.Nodup->P[i]? = some x->vs[i]? = some v->kindOf x = some .local->
  bindL kindOf (P.zip vs) m x = some v
 | [],_,_,_,_,h,_,_=>by simp at h
 | _ :: _,[],_,_,_,_,h,_=>by simp at h
 | p :: P,w :: vs,0,m,nd,h1,h2,hk=>by
  simp at h1 h2; subst h1; subst h2
  show bindL kindOf ((p,w) :: P.zip vs) m p = _
  unfold bindL
  rw [bindL_out fun v hv=>(List.nodup_cons.mp nd).1 (List.of_mem_zip hv).1,if_pos hk]
  simp
 | p :: P,w :: vs,i + 1,m,nd,h1,h2,hk=>by
  show bindL kindOf ((p,w) :: P.zip vs) m x = _
  unfold bindL
  exact bindL_get (i:=i) (List.nodup_cons.mp nd).2 (by simpa using h1) (by simpa using h2) hk
theorem bindC_get {kindOf:Str->Option NameKind} {x:Str} {v:Value}:∀ {P:List Str} {vs:List Value} {i:Nat} {m:Str->Option Value},P.Nodup->P[i]? = some x->vs[i]? = some v->kindOf x ≠ some .local->
  bindC kindOf (P.zip vs) m x = some v
 | [],_,_,_,_,h,_,_=>by simp at h
 | _ :: _,[],_,_,_,_,h,_=>by simp at h
 | p :: P,w :: vs,0,m,nd,h1,h2,hk=>by
  simp at h1 h2; subst h1; subst h2
  show bindC kindOf ((p,w) :: P.zip vs) m p = _
  unfold bindC
  rw [bindC_out fun v hv=>(List.nodup_cons.mp nd).1 (List.of_mem_zip hv).1,if_neg hk]
  simp
 | p :: P,w :: vs,i + 1,m,nd,h1,h2,hk=>by
  show bindC kindOf ((p,w) :: P.zip vs) m x = _
  unfold bindC
  exact bindC_get (i:=i) (List.nodup_cons.mp nd).2 (by simpa using h1) (by simpa using h2) hk
noncomputable def start (N:List Str) (vs:List V):St:=vs.map some ++ List.replicate (N.length - vs.length) none
noncomputable def cxOf (CX:CXT) (P:Program) (w:World) (K:PySem.W.Frag) (mg:Str->Option Value) (base:Heap) (N:List Str) (qual:Str) (scope:Scope) (f:Addr) (cd:Value) (A:Around) (outer:List Env) (s:Shared) (H:Hp) (E:XK):Cx where
 prog:=P
 w:=w
 K:=K
 mg:=mg
 base:=base
 A:=A.deeper (envOfC qual scope s.heap.objs.size f cd)
 N:=N
 s₀:=s
 H₀:=H
 env:=envOfC qual scope s.heap.objs.size f cd
 outer:=outer
 stack:=envOfC qual scope s.heap.objs.size f cd :: outer
 ex:=[]
 calm:=true
 fn:=fun _=>true
 pn:=[]
 xe:=fun e s'=>wpAny (model P w) (A.deeper (envOfC qual scope s.heap.objs.size f cd)) (leaving (envOfC qual scope s.heap.objs.size f cd) e) (fun _ s''=>CX outer H s E e s'') (fun e' s''=>CX outer H s E e' s'') s'
theorem cell_has {sc:Scope} {n:Nat} {x:Str} (h:sc.names.lookup x = some .cell):∃ c,(cellsFrom n sc.names []).lookup x = some c:=by
 have q:=PySem.W.cellsFrom_some sc.names n [] (.inl h)
 exact Option.isSome_iff_exists.mp q
theorem inv_start {CX:CXT} {P:Program} {w:World} {K:PySem.W.Frag} {mg:Str->Option Value} {base:Heap} {N ps:List Str} {qual:Str} {scope:Scope} {f:Addr} {cd:Value} {A:Around} {outer:List Env} {s s1:Shared} {H:Hp} {E:XK} {us:List Value} {vs:List V}
  (S:FnScope N ps scope) (hd:A.handled = none) (e0:Env0 P w K mg base A outer s H) (hl:vs.length = ps.length) (r:Vals vs us)
  (x:InCallC s s.heap.objs.size (bindL (envOfC qual scope s.heap.objs.size f cd).kindOf (ps.zip us) fun _=>none) (cellsFrom (s.heap.objs.size + 1) scope.names []) (bindC (envOfC qual scope s.heap.objs.size f cd).kindOf (ps.zip us) fun _=>none) s1) :
  Inv (cxOf CX P w K mg base N qual scope f cd A outer s H E) [] (start N vs) H s1:=by
 have hpl:ps.length<=N.length:=by have:=congrArg List.length S.pre; rw [List.length_take] at this; omega
 obtain ⟨h1,tk,rfl,hk⟩:=x.done
 have noA:∀ b:Addr,b ∉ (cxOf CX P w K mg base N qual scope f cd A outer s H E).ex:=fun b z=>absurd (show b ∈ ([]:List Addr) from z) (by simp)
 refine ⟨⟨e0.mod,S.kind,rfl,rfl,Nat.le_refl _,fun y z c h1 h2=>?_,fun y hy=>?_,fun y c _ h=>?_,fun _=>hd,Around.frames_deeper e0.frames,.inr ⟨rfl,rfl⟩,fun b z=>absurd z (noA b),e0.bs,e0.bsz,fun b _ _=>noA b,fun b z=>absurd z (noA b),e0.funs,e0.frf⟩,
  rfl,e0.bare,Un.kept hk,⟨_,x.toInCall.ns,fun i y v h1 h2 h3=>?_⟩,fun y c h=>⟨_,x.cell y c h⟩,e0.hok.fresh (Nat.le_refl _),fun y c h=>?_,fun p hp=>absurd (show p ∈ ([]:List (Addr × Obj)) from hp) (by simp),e0.hok.kept hk,?_⟩
 ·exact name_of_addr x.apart (PySem.mem_of_lookup h1) (PySem.mem_of_lookup h2)
 ·have hy:scope.names.lookup y = some .cell\/scope.names.lookup y = some .free:=hy
  rcases hy with hy | hy
  ·exact cell_has hy
  ·exact absurd rfl (S.nofree _ (PySem.mem_of_lookup hy))
 ·exact Nat.le_of_lt (x.above y c (PySem.mem_of_lookup h))
 ·have hi:i < vs.length:=by
   unfold start at h2
   by_cases hi:i < vs.length
   ·exact hi
   ·rw [List.getElem?_append_right (by simpa using hi)] at h2
    rw [List.getElem?_replicate] at h2
    split at h2 <;> cases h2
  have ha:vs[i]? = some v:=by
   unfold start at h2
   rw [List.getElem?_append_left (by simpa using hi),List.getElem?_map] at h2
   cases e:vs[i]? with
   | none=>rw [e] at h2; cases h2
   | some a=>rw [e] at h2; cases h2; rfl
  obtain ⟨u,hu,rv⟩:=r.get ha
  have hp:ps[i]? = some y:=by
   rw [<- S.pre,List.getElem?_take_of_lt (by omega)]; exact h1
  have ndP:ps.Nodup:=by rw [<- S.pre]; exact S.nd.sublist (List.take_sublist _ _)
  refine ⟨u,rv,?_⟩
  rcases S.par y (List.mem_of_getElem? hp) with k | k
  ·exact .inl ⟨k,bindL_get ndP hp hu k⟩
  ·obtain ⟨c,e⟩:=cell_has (n:=s.heap.objs.size + 1) k
   refine .inr ⟨.inl k,c,e,?_⟩
   have q:=x.cell y c e
   rw [bindC_get ndP hp hu (by show scope.names.lookup y ≠ _; rw [k]; decide)] at q
   exact q
 ·exact e0.hok.fresh (Nat.le_of_lt (x.above y c (PySem.mem_of_lookup h)))
 ·unfold start
  show _ = N.length
  rw [List.length_append,List.length_map,List.length_replicate]
  omega
theorem fn_of {CX:CXT} {P:Program} {w:World} {K:PySem.W.Frag} {mg:Str->Option Value} {base:Heap} {k:Nat} {f:Addr} {name qual:Str} {params:Arguments} {body:List Stmt} {scope:Scope} {dV kV doc pm cdv ct oc:Value} {an od:Option Addr}
  {osl:Array (Option Value)} {N ps:List Str} {sp:Sp} (lk:K.lookup f = some ⟨oc,od,.func (PySem.W.fnOf name qual params body scope dV kV doc pm an cdv ct),osl⟩) (hcd:PySem.W.codeIn K cdv qual = true) (S:FnScope N ps scope)
  (len:∀ vs H Q E,sp vs H Q E->vs.length = ps.length)
  (hbody:∀ (A:Around) (outer:List Env) (s:Shared) (H:Hp) (vs:List V) (Q:VK) (E:XK),Room k (A.deeper (envOfC qual scope s.heap.objs.size f cdv))->sp vs H Q E->
   ∃ t,PSs (cxOf CX P w K mg base N qual scope f cdv A outer s H E) body t/\t { nx:=fun _ H'=>Q .non H',rt:=Q } (start N vs) H) :
  FnOk P w K mg base CX (k + 1) f (PySem.W.fnOf name qual params body scope dV kV doc pm an cdv ct) ps sp:=by
 refine ⟨len,fun A outer s H args us vs Q E hr e0 hb r hsp=>?_⟩
 have hl:=len _ _ _ _ hsp
 have KX:K.In s.heap:=e0.mod.kin.keeps fun b o e=>(e0.bs b o e).1
 have lim:s.heap.NoLimit:=e0.mod.nolimit.keeps fun b o e=>(e0.bs b o e).1
 have hkind:∀ y ∈ ps.zip us,scope.names.lookup y.1 = some .local\/(scope.names.lookup y.1 = some .cell/\((cellsFrom (s.heap.objs.size + 1) scope.names []).lookup y.1).isSome = true):=fun ⟨n,v⟩ hy=>by
  rcases S.par n (List.of_mem_zip hy).1 with q | q
  ·exact .inl q
  ·exact .inr ⟨q,PySem.W.cellsFrom_some _ _ _ (.inl q)⟩
 refine codeAny_call_function hr.depth (KX _ _ lk) rfl S.co S.gen rfl (PySem.W.codeRec_of KX hcd) (hb _ _ _ _ ?_)
 refine wpAny_newFunctionEnv_cells S.kind hkind fun env he s1 x=>?_
 subst he
 refine ⟨lim.keeps x.toInCall.keep,codeAny_func ?_⟩
 obtain ⟨t,ht,hq⟩:=hbody A outer s H vs Q E (hr.deeper _) hsp
 have I:Inv (cxOf CX P w K mg base N qual scope f cdv A outer s H E) [] (start N vs) H s1:=inv_start S hr.hd e0 hl r x
 refine wpAny_mono (ht [] s1 (start N vs) H _ I hq) (fun fl s' hs=>?_) fun e s' hs=>hs
 have fin:∀ {σ':St} {H':Hp} {v:V} {u:Value},Inv (cxOf CX P w K mg base N qual scope f cdv A outer s H E) [] σ' H' s'->RelV v u->Q v H'->CE outer P w H s Q u s':=
  fun {σ' H' v u} J rv q=>⟨v,H',J.os,J.bare,J.base,J.hok,rv,q⟩
 cases fl with
 | ret u=>
  obtain ⟨v,σ',H',J,rv,q⟩:=hs
  exact fin J rv q
 | next=>
  obtain ⟨σ',H',J,q⟩:=hs
  exact fin (v:=V.non) (u:=Value.none) J rfl q
 | brk=>
  obtain ⟨_,_,_,q⟩:=hs
  exact False.elim q
 | cont=>
  obtain ⟨_,_,_,q⟩:=hs
  exact False.elim q
end L2
namespace L2
open PySem PySem.Spec PyProof.Rows
section
variable {X:Cx} {x:Str} {p pos:Pos} {e:Expr} {es:List Expr} {t:TA} {id T:String} {r:List V->Hp->VK->Prop}
noncomputable def tCB (r:List V->Hp->VK->Prop) (t:TA):TE:=fun σ H Q=>t σ H fun vs H1=>r vs H1 Q
theorem pe_callB (hc:CallR X (.builtin id) r) (hg:Gl X x) (hm:X.mg x = none) (hv:bootBuiltins x = some (.builtin id)) (ha:PA X (e :: es) t) (hn:x ≠ "__name__":=by decide) (hdb:(x == ("__debug__":Str)) = false:=by decide)
  (he:starEach (e :: es) X.env = (false,eval e X.env) :: starEach es X.env:=by rfl) (hpl:(backTo pos (starEach es X.env)).any (·.1) = false:=by rfl):PE X (.Call (.Name x p) (e :: es) [] pos) (tCB r t):=by
 intro pins s σ H Q I h
 refine wpAny_Call_Name_kw (ld_blt I hg hm hv ?_ hn hdb)
 exact PyProof.Rows.callWith_builtin1 (thn (ha pos pins s σ H _ I h) fun us s1 ⟨vs,H1,I1,r1,q1⟩=>hc pins s1 σ H1 vs us Q I1 r1 q1) he hpl
theorem pe_callTy (hc:CallR X (.type T) r) (hg:Gl X x) (hm:X.mg x = none) (hv:bootBuiltins x = some (.type T)) (ha:PA X (e :: es) t) (hn:x ≠ "__name__":=by decide) (hdb:(x == ("__debug__":Str)) = false:=by decide)
  (he:starEach (e :: es) X.env = (false,eval e X.env) :: starEach es X.env:=by rfl) (hpl:(backTo pos (starEach es X.env)).any (·.1) = false:=by rfl):PE X (.Call (.Name x p) (e :: es) [] pos) (tCB r t):=by
 intro pins s σ H Q I h
 refine wpAny_Call_Name_kw (ld_blt I hg hm hv ?_ hn hdb)
 exact PyProof.Rows.callWith_type1 (thn (ha pos pins s σ H _ I h) fun us s1 ⟨vs,H1,I1,r1,q1⟩=>hc pins s1 σ H1 vs us Q I1 r1 q1) he hpl
end
end L2
namespace HT
open PySem PyProof.Rows
section
open PySem.SeqAt
open PySem.AutoSeq1 (wpAny_loadPart')
open PySem.MeetsSeq PySem.MeetsSeq2 PySem.MeetsSeq3
end
section
variable {prog:Program} {w:World} {A:Around} {E:Value->Shared->Prop} {s:Shared}
theorem cat_tup {t b:Addr} {vs ws:List Value} {Q:Value->Shared->Prop} (ht:IsTup s.heap t vs.toArray) (hb:IsTup s.heap b ws.toArray) (hv:vs ≠ [])
  (h1:ws = []->Q (.ref t) s) (h2:ws ≠ []->Q (.ref s.heap.objs.size) { s with heap:=s.heap.push { cls:=.type "tuple",data:=.seq (vs ++ ws).toArray } })
  (hsz:vs.length + ws.length<=sizeLine):wpAny (model prog w) A (binaryOp .Add (.ref t) (.ref b)) Q E s:=by
 obtain ⟨⟨cls,dd,data,sl⟩,ho,hc,n,hd⟩:=id ht
 obtain ⟨⟨cls2,dd2,data2,sl2⟩,ho2,hc2,n2,hd2⟩:=id hb
 simp only at hc hd hc2 hd2
 subst hc hd hc2 hd2
 have e:vs.toArray ++ ws.toArray = (vs ++ ws).toArray:=by simp
 by_cases hw:ws = []
 ·exact concat_meets ⟨_,ho,rfl⟩ ⟨_,ho2,rfl⟩ noFill_tuple_add seq_tuple_add PySem.F.slot_tuple_add PySem.F.entry_tuple_add (PySem.F.args_tuple_add_2 _ _)
   (tuple_addW1 t b vs.toArray ws.toArray n n2 dd dd2 sl sl2 (by simpa using hv) (by simp [hw])) ⟨ho,ho2,h1 hw⟩
 ·refine concat_meets ⟨_,ho,rfl⟩ ⟨_,ho2,rfl⟩ noFill_tuple_add seq_tuple_add PySem.F.slot_tuple_add PySem.F.entry_tuple_add (PySem.F.args_tuple_add_2 _ _)
   (tuple_addW2 t b vs.toArray ws.toArray n n2 dd dd2 sl sl2 (by simpa using hv) (by simpa using hw) (by rw [List.size_toArray,List.size_toArray]; exact hsz)) ⟨ho,ho2,?_⟩
  rw [e]
  exact h2 hw
noncomputable def sIx (n d:Nat):Option Int->Nat
 | none=>d
 | some v=>if v < 0 then (v + (n:Int)).toNat else min v.toNat n
theorem sIx_le (n d:Nat) (hd:d<=n) (o:Option Int):sIx n d o<=n:=by
 cases o with
 | none=>exact hd
 | some v=>
  show (if v < 0 then (v + (n:Int)).toNat else min v.toNat n)<=n
  by_cases hv:v < 0
  ·rw [if_pos hv]; omega
  ·rw [if_neg hv]; exact Nat.min_le_right _ _
theorem clip_eq (v:Int) (n d:Nat):(if v < 0 then max (v + (n:Int)) 0 else min v (n:Int)) = ((sIx n d (some v):Nat):Int):=by
 show (if v < 0 then max (v + (n:Int)) 0 else min v (n:Int)) = (((if v < 0 then (v + (n:Int)).toNat else min v.toNat n):Nat):Int)
 by_cases hv:v < 0
 ·simp only [if_pos hv]; omega
 ·simp only [if_neg hv]; omega
theorem adjust_gen (lo hi:Option Int) (n:Nat):Builtin.Slice.sliceAdjust lo hi 1 (n:Int) = (((sIx n 0 lo:Nat):Int),((sIx n n hi:Nat):Int)):=by
 have h1:¬ ((1:Int) < 0):=by omega
 unfold Builtin.Slice.sliceAdjust
 simp only [h1,if_false]
 refine Prod.ext ?_ ?_
 ·cases lo with
  | none=>rfl
  | some v=>exact clip_eq v n 0
 ·cases hi with
  | none=>rfl
  | some v=>exact clip_eq v n n
theorem places_gen (i j:Nat):Builtin.Slice.slicePlaces (i:Int) (j:Int) 1 = j - i:=by
 unfold Builtin.Slice.slicePlaces
 have h1:(1:Int) > 0:=by omega
 simp only [h1,if_true,Int.ediv_one]
 split <;> omega
theorem slicePart_ {v:Value} {o:Option Int} {Q:Option Int->Shared->Prop} (p:IsPart v o) (h:Q o s):wpAny (model prog w) A (Builtin.Slice.slicePartIndex v) Q E s:=by
 cases p with
 | none=>exact slicePart_none h
 | int i t=>exact slicePart_int h
theorem sliceApplied_gen {sl:Addr} {vl vu:Value} {lo hi:Option Int} {n:Nat} {Q:Int × Int × Nat->Shared->Prop} (hs:s.heap.IsSliceOf sl vl vu .none) (pl:IsPart vl lo) (pu:IsPart vu hi)
  (h:Q (((sIx n 0 lo:Nat):Int),1,sIx n n hi - sIx n 0 lo) s):wpAny (model prog w) A (Builtin.Slice.sliceApplied (.ref sl) (pure (n:Int))) Q E s:=by
 obtain ⟨os,hos,hcs,hds⟩:=id hs
 unfold Builtin.Slice.sliceApplied Builtin.Slice.sliceFields
 refine wpAny_bind (wpAny_bind (wpAny_field hos hds (x:=vl) rfl (wpAny_bind (wpAny_field hos hds (x:=vu) rfl (wpAny_bind (wpAny_field hos hds (x:=.none) rfl (wpAny_pure ?_)))))))
 refine wpAny_bind (slicePart_none ?_)
 show wpAny _ _ (if ((1:Int) == 0) = true then _ else _) _ _ s
 rw [if_neg (by decide)]
 refine wpAny_bind (slicePart_ pl (wpAny_bind (slicePart_ pu (wpAny_bind (wpAny_pure ?_)))))
 show wpAny _ _ (match Builtin.Slice.sliceAdjust lo hi 1 (n:Int) with | (lo,hi)=>pure (lo,(1:Int),Builtin.Slice.slicePlaces lo hi 1)) _ _ s
 rw [adjust_gen lo hi n]
 show wpAny _ _ (pure (((sIx n 0 lo:Nat):Int),(1:Int),Builtin.Slice.slicePlaces ((sIx n 0 lo:Nat):Int) ((sIx n n hi:Nat):Int) 1)) _ _ s
 rw [places_gen]
 exact wpAny_pure h
theorem pick_gen (xs:Array Value) (i k:Nat):((List.range k).filterMap fun (m:Nat)=>xs[((i:Int) + (m:Int) * 1).toNat]?).toArray = ((xs.toList.drop i).take k).toArray:=by
 have e:(fun (m:Nat)=>xs[((i:Int) + (m:Int) * 1).toNat]?) = fun m=>xs[i + m]?:=by
  funext m
  have:((i:Int) + (m:Int) * 1).toNat = i + m:=by omega
  rw [this]
 rw [e]
 have:=pick_run xs i k
 rw [List.filterMap_map] at this
 have e2:((fun x=>xs[x]?) ∘ fun x=>i + x) = fun m=>xs[i + m]?:=rfl
 rw [e2] at this
 rw [this]
theorem getItem_tuple_cut {t sl:Addr} {items:Array Value} {vl vu:Value} {lo hi:Option Int} {Q:Value->Shared->Prop} (ht:IsTup s.heap t items) (hs:s.heap.IsSliceOf sl vl vu .none) (pl:IsPart vl lo) (pu:IsPart vu hi)
  (hw:¬ (sIx items.size 0 lo = 0/\sIx items.size items.size hi = items.size))
  (h:Q (.ref s.heap.objs.size) { s with heap:=s.heap.push { cls:=.type "tuple",data:=.seq ((items.toList.drop (sIx items.size 0 lo)).take (sIx items.size items.size hi - sIx items.size 0 lo)).toArray } })
  (hsz:items.size<=sizeLine):wpAny (model prog w) A (getItem (.ref t) (.ref sl)) Q E s:=by
 have htake:sizeOk (.seq ((items.toList.drop (sIx items.size 0 lo)).take (sIx items.size items.size hi - sIx items.size 0 lo)).toArray):=by
  show ((items.toList.drop (sIx items.size 0 lo)).take (sIx items.size items.size hi - sIx items.size 0 lo)).toArray.size<=sizeLine
  rw [List.size_toArray,List.length_take,List.length_drop,Array.length_toList]
  omega
 have hj:sIx items.size items.size hi<=items.size:=sIx_le _ _ (Nat.le_refl _) hi
 obtain ⟨os,hos,hcs,hds⟩:=id hs
 have hTs:s.TypeIs (.ref sl) "slice":=⟨os,hos,hcs⟩
 unfold getItem
 try with_reducible refine wpAny_holding ?_
 first | refine wpAny_bind (wpAny_pure ?_) | skip
 refine wpAny_bind (wpAny_sequenceKey ht.typeIs (by decide) ?_)
 refine wpAny_bind (wpAny_callSpecial?_slot (name:=Str.ofString "__getitem__") ht.typeIs PyProof.Rows.slot_tuple_getitem
  (wpAny_call_entry PyProof.Rows.slot_tuple_getitem ht.typeIs entry_tuple_getitem ?_ (args_tuple_getitem _ _)))
 show wpAny _ _ (Builtin.Tuple.tupleItemsOf (.ref t) >>= _) _ _ s
 refine wpAny_bind (tupleItemsOf_ ht ?_)
 refine wpAny_bind (wpAny_typeOf hTs ?_)
 rw [if_pos (by decide)]
 refine wpAny_bind (sliceApplied_gen hs pl pu ?_)
 have hno:¬ ((((sIx items.size 0 lo:Nat):Int) == 0 && (1:Int) == 1 && (sIx items.size items.size hi - sIx items.size 0 lo) == items.size) = true):=by
  intro q
  rw [Bool.and_eq_true,Bool.and_eq_true] at q
  have q1:((sIx items.size 0 lo:Nat):Int) = 0:=eq_of_beq q.1.1
  have q2:sIx items.size items.size hi - sIx items.size 0 lo = items.size:=eq_of_beq q.2
  exact hw ⟨by omega,by omega⟩
 show wpAny _ _ (if (((sIx items.size 0 lo:Nat):Int) == 0 && (1:Int) == 1 && (sIx items.size items.size hi - sIx items.size 0 lo) == items.size) = true then _ else _) _ _ s
 rw [if_neg hno,pick_gen]
 first
  | exact wpAny_bind (m:=Builtin.Tuple.tupleExact _) (wpAny_newObj_type (wpAny_pure ⟨_,rfl,wpAny_pure h⟩) htake)
  | exact wpAny_bind (m:=Builtin.Tuple.tupleExact _) (wpAny_newObj_type (wpAny_bind (wpAny_pure (wpAny_pure ⟨_,rfl,wpAny_pure h⟩))) htake)
  | exact wpAny_bind (wpAny_bind (m:=Builtin.Tuple.tupleExact _) (wpAny_newObj_type (wpAny_pure (wpAny_pure ⟨_,rfl,wpAny_pure h⟩)) htake))
  | exact wpAny_bind (wpAny_bind (m:=Builtin.Tuple.tupleExact _) (wpAny_newObj_type (wpAny_pure ⟨_,rfl,wpAny_pure h⟩) htake))
end
end HT
namespace L2
open PySem PySem.Spec PyProof.Rows
noncomputable abbrev TO:=St->Hp->(Option Int->Hp->Prop)->Prop
noncomputable def PO (X:Cx) (e:Option Expr) (t:TO):Prop:=
 ∀ (pins:List (Addr × Obj)) (s:Shared) (σ:St) (H:Hp) (Q:Option Int->Hp->Prop),Inv X pins σ H s->t σ H Q->
  wpAny (model X.prog X.w) X.A (evalPart e X.env) (fun u s'=>∃ o H',Inv X pins σ H' s'/\IsPart u o/\Q o H') X.xe s
noncomputable def tNoPart:TO:=fun _ H Q=>Q none H
noncomputable def tPart (t:TE):TO:=fun σ H Q=>t σ H fun x H1=>∃ i,x = .int i/\Q (some i) H1
section
variable {X:Cx} {e:Expr} {te:TE} {lo hi:Option Expr} {tl th:TO} {pos p2:Pos}
theorem po_none:PO X none tNoPart:=by
 intro pins s σ H Q I h
 rw [evalPart_none]
 exact wpAny_pure ⟨none,H,I,.none,h⟩
theorem po_some (h:PE X e te):PO X (some e) (tPart te):=by
 intro pins s σ H Q I hw
 rw [evalPart_some]
 refine thn (h pins s σ H _ I hw) fun u s1 ⟨x,H1,I1,r1,q1⟩=>?_
 obtain ⟨i,rfl,q⟩:=q1
 obtain ⟨t,rfl⟩:=r1
 exact ⟨some i,H1,I1,.int i t,q⟩
noncomputable def SlR (X:Cx) (r:V->Option Int->Option Int->Hp->VK->Prop):Prop:=
 ∀ (pins:List (Addr × Obj)) (s:Shared) (σ:St) (H:Hp) (x:V) (v vl vu:Value) (lo hi:Option Int) (sl:Addr) (Q:VK),Inv X pins σ H s->RelV x v->s.heap.IsSliceOf sl vl vu .none->IsPart vl lo->IsPart vu hi->r x lo hi H Q->
  ∃ T id,typeLookup (.type T) "__getitem__" = pure (some (.builtin id))/\s.TypeIs v T/\wpAny (model X.prog X.w) X.A (getItem v (.ref sl)) (EP X pins σ Q) X.xe s
theorem SlR.or {r r':V->Option Int->Option Int->Hp->VK->Prop} (h:SlR X r) (h':SlR X r'):SlR X (fun x lo hi H Q=>r x lo hi H Q\/r' x lo hi H Q):=by
 intro pins s σ H x v vl vu lo hi sl Q I rx hs pl pu q
 rcases q with q | q
 ·exact h pins s σ H x v vl vu lo hi sl Q I rx hs pl pu q
 ·exact h' pins s σ H x v vl vu lo hi sl Q I rx hs pl pu q
noncomputable def tSl (r:V->Option Int->Option Int->Hp->VK->Prop) (te:TE) (tl th:TO):TE:=fun σ H Q=>te σ H fun x H1=>tl σ H1 fun l H2=>th σ H2 fun u H3=>r x l u H3 Q
theorem pe_slice {r:V->Option Int->Option Int->Hp->VK->Prop} (hr:SlR X r) (he:PE X e te) (hl:PO X lo tl) (hu:PO X hi th):PE X (.Subscript e (.Slice lo hi none p2) pos) (tSl r te tl th):=by
 intro pins s σ H Q I h
 refine Subscript_ (thn (he pins s σ H _ I h) fun v s1 ⟨x,H1,I1,r1,q1⟩=>?_)
 refine wpAny_Slice (thn (hl pins s1 σ H1 _ I1 q1) fun vl s2 ⟨l,H2,I2,pl,q2⟩=>thn (hu pins s2 σ H2 _ I2 q2) fun vu s3 ⟨u,H3,I3,pu,q3⟩=>?_)
 rw [evalPart_none]
 refine wpAny_pure ?_
 have I4:Inv X pins σ H3 { s3 with heap:=s3.heap.push { cls:=.type "slice",data:=.fields #[vl,vu,.none] } }:=I3.kept (t':=s3.toks) fun b ob q=>Heap.get?_push_of_some _ q
 obtain ⟨T,id,hT,ht,hg⟩:=hr pins { s3 with heap:=s3.heap.push { cls:=.type "slice",data:=.fields #[vl,vu,.none] } } σ H3 x v vl vu l u s3.heap.objs.size Q I4 r1 (Heap.IsSliceOf.new ..) pl pu q3
 show wpAny (model X.prog X.w) X.A (subscriptTail e (.Slice lo hi none p2) v (.ref s3.heap.objs.size)) (EP X pins σ Q) X.xe { s3 with heap:=s3.heap.push { cls:=.type "slice",data:=.fields #[vl,vu,.none] } }
 exact tail_any (ops:=[.ref s3.heap.objs.size,v]) ht hT hg (by with_unfolding_all rfl)
noncomputable def cutV (xs:List V) (lo hi:Option Int):List V:=(xs.drop (HT.sIx xs.length 0 lo)).take (HT.sIx xs.length xs.length hi - HT.sIx xs.length 0 lo)
theorem cutV_length (xs:List V) (lo hi:Option Int):(cutV xs lo hi).length<=xs.length:=by
 unfold cutV
 rw [List.length_take,List.length_drop]
 omega
noncomputable def rSlT (K:PySem.W.Frag):V->Option Int->Option Int->Hp->VK->Prop:=fun x lo hi H Q=>∃ a xs,x = .ref a/\SqT K H a xs/\
 ¬ (HT.sIx xs.length 0 lo = 0/\HT.sIx xs.length xs.length hi = xs.length)/\∀ p,H p = none->Q (.ref p) (upd H p (.tup (cutV xs lo hi)))
theorem sl_tup:SlR X (rSlT X.K):=by
 intro pins s σ H x v vl vu lo hi sl Q I rx hs pl pu h
 obtain ⟨a,xs,rfl,hx,hw,q⟩:=h
 cases rx
 obtain ⟨its,r,ht,hz⟩:=I.tuple hx
 have hlen:its.toArray.size = xs.length:=by rw [List.size_toArray]; exact r.length.symm
 refine ⟨"tuple",_,PyProof.Rows.slot_tuple_getitem.lookup,ht.typeIs,?_⟩
 refine HT.getItem_tuple_cut ht hs pl pu (by rw [hlen]; exact hw) ?_ (by rw [hlen]; exact hz)
 rw [hlen]
 refine ⟨.ref s.heap.objs.size,_,I.laid (t':=s.toks) (o:=.tup (cutV xs lo hi)) (fun b ob q=>Heap.get?_push_of_some _ q) (Nat.le_refl _) ?_,rfl,q _ (I.hok.fresh (Nat.le_refl _))⟩
 exact ⟨Nat.le_trans (cutV_length xs lo hi) hz,_,(r.drop (HT.sIx xs.length 0 lo)).take (HT.sIx xs.length xs.length hi - HT.sIx xs.length 0 lo),IsTup.new _ _⟩
noncomputable def rCatT (K:PySem.W.Frag):R2:=fun x y H Q=>∃ a b xs ys,x = .ref a/\y = .ref b/\SqT K H a xs/\SqT K H b ys/\xs ≠ []/\xs.length + ys.length<=sizeLine/\
 (ys = []->Q (.ref a) H)/\(ys ≠ []->∀ p,H p = none->Q (.ref p) (upd H p (.tup (xs ++ ys))))
theorem Vals.nil_iff {xs:List V} {us:List Value} (r:Vals xs us):us = [] ↔ xs = []:=by
 cases r with
 | nil=>simp
 | cons _ _=>simp
theorem op_catT:OpR X (binaryOp .Add) (rCatT X.K):=by
 intro pins s σ H x y v u Q I rx ry h
 obtain ⟨a,b,xs,ys,rfl,rfl,ha,hb,hx,hz,q1,q2⟩:=h
 cases rx
 cases ry
 obtain ⟨its,r1,p1,_⟩:=I.tuple ha
 obtain ⟨its2,r2,p2,_⟩:=I.tuple hb
 refine HT.cat_tup p1 p2 (fun z=>hx (r1.nil_iff.mp z)) (fun z=>⟨.ref a,H,I,rfl,q1 (r2.nil_iff.mp z)⟩) (fun z=>?_) (by rw [<- r1.length,<- r2.length]; exact hz)
 refine ⟨.ref s.heap.objs.size,_,I.laid (t':=s.toks) (o:=.tup (xs ++ ys)) (fun b ob q=>Heap.get?_push_of_some _ q) (Nat.le_refl _) ?_,rfl,q2 (fun w=>z (r2.nil_iff.mpr w)) _ (I.hok.fresh (Nat.le_refl _))⟩
 exact ⟨by rw [List.length_append]; exact hz,_,r1.append r2,IsTup.new _ _⟩
end
end L2
namespace L2
open PySem PySem.Spec PyProof.Rows
noncomputable def ixN (n:Nat) (i:Int):Option Nat:=if 0<=i then (if i < n then some i.toNat else none) else if -(n:Int)<=i then some (i + n).toNat else none
noncomputable def atI {α:Type} (xs:List α) (i:Int):Option α:=(ixN xs.length i).bind fun j=>xs[j]?
theorem ixN_seq {n:Nat} {i:Int} {j:Nat} (h:ixN n i = some j):seqIndex? i n = some j/\j < n/\-(n:Int)<=i/\i < n:=by
 unfold ixN at h
 by_cases h0:0<=i
 ·rw [if_pos h0] at h
  by_cases h1:i < n
  ·rw [if_pos h1] at h
   have e:i.toNat = j:=Option.some.inj h
   exact ⟨by rw [seqIndex_of h0 h1,e],by omega,by omega,h1⟩
  ·rw [if_neg h1] at h; cases h
 ·rw [if_neg h0] at h
  by_cases h1:-(n:Int)<=i
  ·rw [if_pos h1] at h
   have e:(i + n).toNat = j:=Option.some.inj h
   exact ⟨by rw [seqIndex_neg (by omega) h1,e],by omega,h1,by omega⟩
  ·rw [if_neg h1] at h; cases h
theorem atI_get {α:Type} {xs:List α} {i:Int} {v:α} (h:atI xs i = some v):∃ j,seqIndex? i xs.length = some j/\xs[j]? = some v/\j < xs.length/\-(xs.length:Int)<=i/\i < xs.length:=by
 unfold atI at h
 cases e:ixN xs.length i with
 | none=>rw [e] at h; cases h
 | some j=>
  rw [e] at h
  obtain ⟨h1,h2,h3,h4⟩:=ixN_seq e
  exact ⟨j,h1,h,h2,h3,h4⟩
noncomputable def PlainIx (b:Expr):Prop:=∀ o i,subscripted b false o i = operate [o,i] (getItem o i)
noncomputable def IxR (X:Cx) (r:R2):Prop:=
 ∀ (value slice:Expr) (pins:List (Addr × Obj)) (s:Shared) (σ:St) (H:Hp) (x y:V) (v u:Value) (Q:VK),Inv X pins σ H s->RelV x v->RelV y u->r x y H Q->
  subscripted slice false v u = operate [v,u] (getItem v u)->wpAny (model X.prog X.w) X.A (subscriptTail value slice v u) (EP X pins σ Q) X.xe s
noncomputable def MtR (X:Cx) (id:String) (r:V->List V->Hp->VK->Prop):Prop:=
 ∀ (pins:List (Addr × Obj)) (s:Shared) (σ:St) (H:Hp) (x:V) (xs:List V) (v:Value) (us:List Value) (Q:VK),Inv X pins σ H s->RelV x v->Vals xs us->r x xs H Q->
  wpAny (model X.prog X.w) X.A (call (.builtin id) (v :: us)) (EP X pins σ Q) X.xe s
section
variable {X:Cx} {a b:Expr} {ta tb:TE} {pos:Pos}
theorem IxR.or {r r':R2} (h:IxR X r) (h':IxR X r'):IxR X (fun x y H Q=>r x y H Q\/r' x y H Q):=by
 intro value slice pins s σ H x y v u Q I rx ry q hs
 rcases q with q | q
 ·exact h value slice pins s σ H x y v u Q I rx ry q hs
 ·exact h' value slice pins s σ H x y v u Q I rx ry q hs
theorem pe_ix {r:R2} (hr:IxR X r) (ha:PE X a ta) (hb:PE X b tb) (hs:PlainIx b):PE X (.Subscript a b pos) (tOp r ta tb):=by
 intro pins s σ H Q I h
 exact Subscript_ (binT ha hb I h fun v u s2 x y H2 I2 rx ry q=>hr a b pins s2 σ H2 x y v u Q I2 rx ry q (hs _ _))
noncomputable def rIxL (K:PySem.W.Frag):R2:=fun x y H Q=>∃ p xs i v,x = .ref p/\y = .int i/\SqL K H p xs/\atI xs i = some v/\Q v H
noncomputable def rIxT (K:PySem.W.Frag):R2:=fun x y H Q=>∃ p xs i v,x = .ref p/\y = .int i/\SqT K H p xs/\atI xs i = some v/\Q v H
noncomputable def rIxS:R2:=fun x y H Q=>∃ z i c,x = .str z/\y = .int i/\z.length<=sizeLine/\atI z.cps.toList i = some c/\Q (.str ⟨#[c]⟩) H
theorem ix_list:IxR X (rIxL X.K):=by
 intro value slice pins s σ H x y v u Q I rx ry h hs
 obtain ⟨p,xs,i,z,rfl,rfl,hq,he,q⟩:=h
 cases rx
 obtain ⟨t,rfl⟩:=ry
 obtain ⟨its,r,pl,hz⟩:=I.list hq
 obtain ⟨j,h1,h2,h3,h4,h5⟩:=atI_get he
 obtain ⟨w,ew,rw'⟩:=r.get h2
 have hl:=r.length
 have hn:=line63
 have fin:EP X pins σ Q w s:=⟨z,H,I,rw',q⟩
 by_cases h0:0<=i
 ·have hj:i.toNat = j:=by
   rw [seqIndex_of h0 h5] at h1
   exact Option.some.inj h1
  exact item_listR pl.isList h0 (by omega) (by rw [hj]; simpa using ew) fin hs
 ·have hj:(i + (its.toArray.size:Int)).toNat = j:=by
   rw [seqIndex_neg (by omega) h4] at h1
   rw [List.size_toArray,<- hl]
   exact Option.some.inj h1
  exact subscriptTail_builtinR (x:=w) pl.isList.typeIs slot_list_getitem.lookup
   (wpAny_getItem_list_neg (Q:=fun r s'=>r = w/\EP X pins σ Q r s') pl.isList (by omega) (by rw [List.size_toArray] <;> omega) (by omega) (by rw [hj]; simpa using ew) ⟨rfl,fin⟩) hs
theorem ix_tup:IxR X (rIxT X.K):=by
 intro value slice pins s σ H x y v u Q I rx ry h hs
 obtain ⟨p,xs,i,z,rfl,rfl,hq,he,q⟩:=h
 cases rx
 obtain ⟨t,rfl⟩:=ry
 obtain ⟨its,r,pl,hz⟩:=I.tuple hq
 obtain ⟨j,h1,h2,h3,h4,h5⟩:=atI_get he
 obtain ⟨w,ew,rw'⟩:=r.get h2
 have hl:=r.length
 have hn:=line63
 have fin:EP X pins σ Q w s:=⟨z,H,I,rw',q⟩
 exact subscriptTail_builtinR (x:=w) pl.typeIs slot_tuple_getitem.lookup
  (getItem_tuple (j:=j) (Q:=fun r s'=>r = w/\EP X pins σ Q r s') pl (by omega) (by omega) (by rw [List.size_toArray,<- hl]; exact h1) (by simpa using ew) ⟨rfl,fin⟩) hs
theorem ix_str:IxR X rIxS:=by
 intro value slice pins s σ H x y v u Q I rx ry h hs
 obtain ⟨z,i,c,rfl,rfl,hz,he,q⟩:=h
 obtain ⟨t,rfl⟩:=rx
 obtain ⟨t',rfl⟩:=ry
 obtain ⟨j,h1,h2,h3,h4,h5⟩:=atI_get he
 have hl:z.cps.toList.length = z.length:=by simp [Str.length]
 rw [hl] at h1 h4 h5
 have hn:=line63
 exact tail_any (typeIs_str s z t) slot_str_getitem.lookup (getItem_str (c:=c) (by
  have e1:decide (i < -(2 ^ 63:Int)) = false:=decide_eq_false (by omega)
  have e2:decide (i ≥ 2 ^ 63) = false:=decide_eq_false (by omega)
  rw [e1,e2,Bool.or_false]) (by rw [h1]; simpa using h2) ⟨.str ⟨#[c]⟩,H,I.tok _,⟨_,rfl⟩,q⟩) hs
noncomputable def rIx (K:PySem.W.Frag):R2:=fun x y H Q=>rIxL K x y H Q\/rIxT K x y H Q\/rIxS x y H Q
theorem ix_seq:IxR X (rIx X.K):=ix_list.or (ix_tup.or ix_str)
theorem mapSeq_set (its:List Value) (n j:Nat) (u:Value):Obj.mapSeq (·.setIfInBounds j u) { cls:=.type "list",data:=.seq its.toArray n } = { cls:=.type "list",data:=.seq (its.set j u).toArray n }:=by
 simp [Obj.mapSeq]
theorem Inv.lst {pins:List (Addr × Obj)} {σ:St} {H:Hp} {s:Shared} {p:Addr} {xs:List V} (I:Inv X pins σ H s) (h:H p = some (.lst xs)) :
  ∃ (its:List Value) (n:Nat),Vals xs its/\s.heap.get? p = some { cls:=.type "list",data:=.seq its.toArray n }/\xs.length<=sizeLine:=by
 obtain ⟨z,its,n,r,e⟩:=I.hok p _ h
 exact ⟨its,n,r,e,z⟩
theorem Inv.lstUpd {pins:List (Addr × Obj)} {σ:St} {H:Hp} {s:Shared} {p:Addr} {xs ys:List V} {its its':List Value} {n n':Nat} {f:Obj->Obj} (I:Inv X pins σ H s) (h:H p = some (.lst xs))
  (ho:s.heap.get? p = some { cls:=.type "list",data:=.seq its.toArray n }) (hf:f { cls:=.type "list",data:=.seq its.toArray n } = { cls:=.type "list",data:=.seq its'.toArray n' }) (r:Vals ys its') (hz:ys.length<=sizeLine) (t:Nat) :
  Inv X pins σ (upd H p (.lst ys)) { s with heap:=s.heap.update p f,toks:=t }:=by
 have e:(s.heap.update p f).get? p = some { cls:=.type "list",data:=.seq its'.toArray n' }:=by
  rw [Heap.get?_update_self f ho (by rw [hf] <;> rfl),hf]
 refine I.write (x:=p) (e:=p) (by rw [h]; trivial) (.inl rfl) (fun b u hb q=>(Heap.get?_update_other _ _ (Ne.symm hb)).trans q) ⟨_,e⟩ ?_
 exact ⟨hz,its',n',r,e⟩
noncomputable def rSetL:V->V->V->Hp->(Hp->Prop)->Prop:=fun o i v H Q=>∃ p xs k j,o = .ref p/\i = .int k/\H p = some (.lst xs)/\ixN xs.length k = some j/\Q (upd H p (.lst (xs.set j v)))
theorem set_list:PSet X rSetL:=by
 intro pins s σ H o i v ov iv u Q I ro ri rv h
 obtain ⟨p,xs,k,j,rfl,rfl,hp,hj,q⟩:=h
 cases ro
 obtain ⟨t,rfl⟩:=ri
 obtain ⟨its,n,r,ho,hz⟩:=I.lst hp
 obtain ⟨h1,h2,h3,h4⟩:=ixN_seq hj
 have hl:=r.length
 have hn:=line63
 have I':Inv X pins σ (upd H p (.lst (xs.set j v))) { s with heap:=s.heap.update p (Obj.mapSeq (·.setIfInBounds j u)) }:=
  I.lstUpd hp ho (mapSeq_set its n j u) (r.set rv j) (by rw [List.length_set]; exact hz) s.toks
 by_cases h0:0<=k
 ·have hk:k.toNat = j:=by
   rw [seqIndex_of h0 h4] at h1
   exact Option.some.inj h1
  exact PySem.W.ki_setAt ho h0 (by omega) (by rw [List.size_toArray,<- hl]; exact h4) (by rw [hk]; exact ⟨_,I',q⟩)
 ·have hk:(k + (its.toArray.size:Int)).toNat = j:=by
   rw [seqIndex_neg (by omega) h3] at h1
   rw [List.size_toArray,<- hl]
   exact Option.some.inj h1
  exact PySem.W.ki_setBack ho (by omega) (by rw [List.size_toArray,<- hl]; exact h3) (by omega) (by rw [hk]; exact ⟨_,I',q⟩)
theorem slice_bounds (lo hi:Option Int) (n:Nat):(sliceBounds lo hi none n).1 = ((HT.sIx n 0 lo:Nat):Int)/\(sliceBounds lo hi none n).2.1 = ((HT.sIx n n hi:Nat):Int)/\(sliceBounds lo hi none n).2.2 = 1:=by
 refine ⟨?_,?_,rfl⟩
 ·cases lo with
  | none=>simp [sliceBounds,HT.sIx]
  | some i=>
   simp only [sliceBounds,HT.sIx,Option.getD_none,show (1:Int) > 0 by decide,if_true]
   by_cases h:i < 0
   ·simp only [h,if_true] <;> omega
   ·simp only [h,if_false] <;> omega
 ·cases hi with
  | none=>simp [sliceBounds,HT.sIx]
  | some i=>
   simp only [sliceBounds,HT.sIx,Option.getD_none,show (1:Int) > 0 by decide,if_true]
   by_cases h:i < 0
   ·simp only [h,if_true] <;> omega
   ·simp only [h,if_false] <;> omega
theorem slicePick_cut (its:List Value) (lo hi:Option Int):slicePick its.toArray lo hi none = ((its.drop (HT.sIx its.length 0 lo)).take (HT.sIx its.length its.length hi - HT.sIx its.length 0 lo)).toArray:=by
 obtain ⟨h1,h2,h3⟩:=slice_bounds lo hi its.toArray.size
 unfold slicePick
 rw [h1,h2,h3]
 simp only [sliceRange_one,pick_run,List.size_toArray] <;> rfl
noncomputable def rSlL (K:PySem.W.Frag):V->Option Int->Option Int->Hp->VK->Prop:=fun x lo hi H Q=>∃ a xs,x = .ref a/\SqL K H a xs/\∀ p,H p = none->Q (.ref p) (upd H p (.lst (cutV xs lo hi)))
theorem sl_list:SlR X (rSlL X.K):=by
 intro pins s σ H x v vl vu lo hi sl Q I rx hs pl pu h
 obtain ⟨a,xs,rfl,hx,q⟩:=h
 cases rx
 obtain ⟨its,r,ht,hz⟩:=I.list hx
 have hlen:=r.length
 refine ⟨"list",_,slot_list_getitem.lookup,ht.isList.typeIs,?_⟩
 refine wpAny_getItem_list_slice ht.isList hs pl pu .none (by simp) ?_ (by rw [List.size_toArray] <;> omega)
 rw [slicePick_cut,<- hlen]
 refine ⟨.ref s.heap.objs.size,_,I.laid (t':=s.toks) (o:=.lst (cutV xs lo hi)) (fun b ob q=>Heap.get?_push_of_some _ q) (Nat.le_refl _) ?_,rfl,q _ (I.hok.fresh (Nat.le_refl _))⟩
 exact ⟨Nat.le_trans (cutV_length xs lo hi) hz,_,0,(r.drop (HT.sIx xs.length 0 lo)).take (HT.sIx xs.length xs.length hi - HT.sIx xs.length 0 lo),Heap.get?_push_size _ rfl⟩
theorem op_notIn_str:OpR X (compareOp .NotIn) (fun x y H Q=>∃ i j,x = .str i/\y = .str j/\Q (.bl (!(!(Builtin.Str.occurrences j i 0 j.length 1).isEmpty))) H):=by
 intro pins s σ H x y v u Q I rx ry h
 obtain ⟨i,j,rfl,rfl,q⟩:=h
 obtain ⟨t,rfl⟩:=rx
 obtain ⟨t',rfl⟩:=ry
 exact notIn_str ⟨.bl _,H,I,rfl,q⟩
theorem call_len_seq:CallR X (.builtin "len") (fun xs H Q=>∃ p ys,xs = [.ref p]/\(SqL X.K H p ys\/SqT X.K H p ys)/\Q (.int ys.length) H):=by
 intro pins s σ H xs us Q I r h
 obtain ⟨p,ys,rfl,hq,q⟩:=h
 obtain ⟨u,rfl,rx⟩:=vals1 r
 cases rx
 have hn:=line63
 rcases hq with hq | hq
 ·obtain ⟨its,r',pl,hz⟩:=I.list hq
  have hlen:=r'.length
  exact Calls.call_len_list pl.isList (by simp only [List.size_toArray] <;> omega) ⟨.int ys.length,H,I.tok _,⟨s.toks + 1,by rw [List.size_toArray,hlen]⟩,q⟩
 ·obtain ⟨its,r',pl,hz⟩:=I.tuple hq
  have hlen:=r'.length
  exact len_tuple pl (by simp only [List.size_toArray] <;> omega) ⟨.int ys.length,H,I.tok _,⟨s.toks + 1,by rw [List.size_toArray,hlen]⟩,q⟩
theorem call_len_str:CallR X (.builtin "len") (fun xs H Q=>∃ z,xs = [.str z]/\z.length<=sizeLine/\Q (.int z.length) H):=by
 intro pins s σ H xs us Q I r h
 obtain ⟨z,rfl,hz,q⟩:=h
 obtain ⟨u,rfl,t,rfl⟩:=vals1 r
 have hn:=line63
 exact len_str (by omega) ⟨.int z.length,H,I.tok _,⟨_,rfl⟩,q⟩
theorem CallR.or {f:Value} {r r':List V->Hp->VK->Prop} (h:CallR X f r) (h':CallR X f r'):CallR X f (fun xs H Q=>r xs H Q\/r' xs H Q):=by
 intro pins s σ H xs us Q I rs q
 rcases q with q | q
 ·exact h pins s σ H xs us Q I rs q
 ·exact h' pins s σ H xs us Q I rs q
theorem call_list_of:CallR X (.type "list") (fun xs H Q=>∃ p ys,xs = [.ref p]/\(SqL X.K H p ys\/SqT X.K H p ys)/\∀ l,H l = none->Q (.ref l) (upd H l (.lst ys))):=by
 intro pins s σ H xs us Q I r h
 obtain ⟨p,ys,rfl,hq,q⟩:=h
 obtain ⟨u,rfl,rx⟩:=vals1 r
 cases rx
 have fin:∀ (its:List Value),Vals ys its->ys.length<=sizeLine->∀ (h':Heap) (c':Nat),(∀ b o',s.heap.get? b = some o'->h'.get? b = some o')->
   h'.get? s.heap.objs.size = some { cls:=.type "list",dict:=none,data:=.seq its.toArray c',slots:=#[] }->EP X pins σ Q (.ref s.heap.objs.size) { s with heap:=h' }:=fun its r' hz h' c' kp e=>
  ⟨.ref s.heap.objs.size,_,I.laid (t':=s.toks) kp (Nat.le_refl _) (show ObjOk X.prog X.w _ h' _ (.lst ys) from ⟨hz,its,c',r',e⟩),rfl,q _ (I.hok.fresh (Nat.le_refl _))⟩
 rcases hq with hq | hq
 ·obtain ⟨its,r',pl,hz⟩:=I.list hq
  have hlen:=r'.length
  obtain ⟨o,ho,hc,n,hd⟩:=pl.isList
  exact call_list_seq p (.inl rfl) ho hc hd (fun h' c' kp e=>fin its r' hz h' c' kp e) (by simp only [List.size_toArray] <;> omega)
 ·obtain ⟨its,r',pl,hz⟩:=I.tuple hq
  have hlen:=r'.length
  obtain ⟨o,ho,hc,n,hd⟩:=pl
  exact call_list_seq p (.inr rfl) ho hc hd (fun h' c' kp e=>fin its r' hz h' c' kp e) (by simp only [List.size_toArray] <;> omega)
theorem call_tuple_of:CallR X (.type "tuple") (fun xs H Q=>∃ p ys,xs = [.ref p]/\((SqL X.K H p ys/\∀ l,H l = none->Q (.ref l) (upd H l (.tup ys)))\/(SqT X.K H p ys/\Q (.ref p) H))):=by
 intro pins s σ H xs us Q I r h
 obtain ⟨p,ys,rfl,h⟩:=h
 obtain ⟨u,rfl,rx⟩:=vals1 r
 cases rx
 rcases h with ⟨hq,q⟩ | ⟨hq,q⟩
 ·obtain ⟨its,r',pl,hz⟩:=I.list hq
  have hlen:=r'.length
  refine call_tuple_list pl.isList (fun h' kp=>?_) (by simp only [List.size_toArray] <;> omega)
  have I1:Inv X pins σ H { s with heap:=h' }:=I.kept (t':=s.toks) kp
  have I2:Inv X pins σ (upd H h'.objs.size (.tup ys)) { s with heap:=h'.push { cls:=.type "tuple",data:=.seq its.toArray } }:=
   I1.laid (t':=s.toks) (fun b o e=>Heap.get?_push_of_some _ e) (Nat.le_refl _) (show ObjOk X.prog X.w _ _ _ (.tup ys) from ⟨hz,its,r',IsTup.new _ _⟩)
  exact ⟨.ref h'.objs.size,_,I2,rfl,q _ (I1.hok.fresh (Nat.le_refl _))⟩
 ·obtain ⟨its,r',pl,hz⟩:=I.tuple hq
  exact call_tuple_same pl ⟨.ref p,H,I,rfl,q⟩
noncomputable def tyV (K:PySem.W.Frag) (T:String) (x:V) (H:Hp):Prop:=match x with
 | .str _=>T = "str"
 | .int _=>T = "int"
 | .ref p=>(T = "list"/\∃ xs,SqL K H p xs)\/(T = "tuple"/\∃ o,K.lookup p = some o/\o.cls = .type "tuple"/\o.dict = none)\/
   (T = "dict"/\((∃ kvs,H p = some (.dK kvs))\/∃ kvs,H p = some (.dT kvs)))\/(T = "set"/\∃ S n,H p = some (.set S n))
 | _=>False
theorem tyV_is {pins:List (Addr × Obj)} {σ:St} {H:Hp} {s:Shared} {T:String} {x:V} {v:Value} (I:Inv X pins σ H s) (r:RelV x v) (ty:tyV X.K T x H) :
  s.TypeIs v T/\∀ a,v = .ref a->∃ ob,s.heap.get? a = some ob/\ob.dict = none:=by
 cases x with
 | str z=>
  obtain ⟨t,rfl⟩:=r
  cases (show T = "str" from ty)
  exact ⟨typeIs_str s z t,fun _ e=>nomatch e⟩
 | int i=>
  obtain ⟨t,rfl⟩:=r
  cases (show T = "int" from ty)
  exact ⟨typeIs_int s i t,fun _ e=>nomatch e⟩
 | ref p=>
  cases r
  rcases ty with ⟨rfl,xs,hq⟩ | ⟨rfl,o,hk,hc,hd⟩ | ⟨rfl,hk⟩ | ⟨rfl,S,n,hk⟩
  ·obtain ⟨its,_,pl,_⟩:=I.list hq
   refine ⟨pl.isList.typeIs,fun a e=>?_⟩
   cases e
   obtain ⟨o,n,e,c,hd,_⟩:=pl
   exact ⟨o,e,hd⟩
  ·refine ⟨⟨o,I.kIn p o hk,hc⟩,fun a e=>?_⟩
   cases e
   exact ⟨o,I.kIn _ o hk,hd⟩
  ·have z:∃ o,s.heap.get? p = some o/\o.ExactDict:=by
    rcases hk with ⟨kvs,hk⟩ | ⟨kvs,hk⟩
    ·obtain ⟨_,_,_,_,o,_,_,e,ex,_⟩:=I.hok p _ hk
     exact ⟨o,e,ex⟩
    ·obtain ⟨_,_,_,_,o,_,_,e,ex,_⟩:=I.hok p _ hk
     exact ⟨o,e,ex⟩
   obtain ⟨o,e,ex⟩:=z
   refine ⟨⟨o,e,ex.1⟩,fun a e2=>?_⟩
   cases e2
   exact ⟨o,e,ex.2.1⟩
  ·obtain ⟨o,_,_,_,e,ex,_⟩:=I.hok p _ hk
   refine ⟨⟨o,e,ex.1⟩,fun a e2=>?_⟩
   cases e2
   exact ⟨o,e,ex.2.1⟩
 | _=>exact False.elim ty
noncomputable def tBM0 (K:PySem.W.Frag) (T:String) (r:V->List V->Hp->VK->Prop) (to:TE):TE:=fun σ H Q=>to σ H fun x H1=>tyV K T x H1/\r x [] H1 Q
noncomputable def tBM (K:PySem.W.Frag) (T:String) (r:V->List V->Hp->VK->Prop) (to:TE) (t:TA):TE:=fun σ H Q=>to σ H fun x H1=>tyV K T x H1/\t σ H1 fun xs H2=>r x xs H2 Q
variable {o e:Expr} {es:List Expr} {to:TE} {t:TA} {name:Str} {apos cpos:Pos} {T id:String} {r:V->List V->Hp->VK->Prop}
theorem pe_bm0 (pa:PlainAttrs T) (slot:Slot T name id) (hty:typeOf (.builtin id) = pure (.type "method_descriptor")) (hm:MtR X id r) (ho:PE X o to)
  (hbase:attributeBase o name X.env (eval o X.env) = eval o X.env:=by rfl) (hline:(apos.endLine == cpos.line) = true:=by rfl):PE X (.Call (.Attribute o name apos) [] [] cpos) (tBM0 X.K T r to):=by
 intro pins s σ H Q I h
 refine wpAny_Call_method0_late hbase hline (thn (ho pins s σ H _ I h) fun v s1 ⟨x,H1,I1,r1,ty,q1⟩=>?_)
 obtain ⟨h1,h2⟩:=tyV_is I1 r1 ty
 exact ⟨T,id,pa,slot,hty,h1,h2,Calls.callWith_builtin rfl (PySem.evalArgs_none (hm pins s1 σ H1 x [] v [] Q I1 r1 .nil q1))⟩
theorem pe_bm (pa:PlainAttrs T) (slot:Slot T name id) (hty:typeOf (.builtin id) = pure (.type "method_descriptor")) (hm:MtR X id r) (ho:PE X o to) (ha:PA X (e :: es) t)
  (hbase:attributeBase o name X.env (eval o X.env) = eval o X.env:=by rfl)
  (hfew:((backTo cpos (starEach (e :: es) X.env)).all (fun x=>!x.1) && (backToKw cpos (keywordEach [] X.env)).all (fun x=>x.1.isSome)
   && decide ((e :: es).length + ([]:List Keyword).length + (if ([]:List Keyword).isEmpty then 0 else 1) < 30)) = true:=by rfl)
  (hline:(apos.endLine == cpos.line) = true:=by rfl) (hs:starEach (e :: es) X.env = (false,eval e X.env) :: starEach es X.env:=by rfl) (hplain:(backTo cpos (starEach es X.env)).any (·.1) = false:=by rfl) :
  PE X (.Call (.Attribute o name apos) (e :: es) [] cpos) (tBM X.K T r to t):=by
 intro pins s σ H Q I h
 refine wpAny_Call_method_late hbase hfew hline rfl (thn (ho pins s σ H _ I h) fun v s1 ⟨x,H1,I1,r1,ty,q1⟩=>?_)
 obtain ⟨h1,h2⟩:=tyV_is I1 r1 ty
 refine ⟨T,id,pa,slot,hty,h1,h2,?_⟩
 have hA:=ha cpos pins s1 σ H1 _ I1 q1
 rw [hs] at hA ⊢
 refine Calls.callWith_builtin (by show (false || (backTo cpos (starEach es X.env)).any (·.1)) = false; rw [hplain] <;> rfl) (Calls.evalArgs_plain ?_)
 exact thn hA fun us s2 ⟨vs,H2,I2,r2,q2⟩=>hm pins s2 σ H2 x vs v us Q I2 r1 r2 q2
/- xs.append(e),list.index on a module's tuple .. are MtR facts of 06m -/
end
end L2
namespace L2
open PySem PySem.Spec PyProof.Rows
noncomputable def MtM (X:Cx) (id:String) (r:V->List V->Hp->VK->Prop):Prop:=
 ∀ (pins:List (Addr × Obj)) (s:Shared) (σ:St) (H:Hp) (x:V) (xs:List V) (v:Value) (us:List Value) (Q:VK),Inv X pins σ H s->RelV x v->Vals xs us->r x xs H Q->
  wpAny (model X.prog X.w) X.A (call (.builtin id) (v :: us)) (EP X pins σ Q) X.xe s
theorem Vals.one:∀ {x:V} {us:List Value},Vals [x] us->∃ u,us = [u]/\RelV x u
 | _,_,.cons r .nil=>⟨_,rfl,r⟩
theorem Vals.two:∀ {x y:V} {us:List Value},Vals [x,y] us->∃ u v,us = [u,v]/\RelV x u/\RelV y v
 | _,_,_,.cons r (.cons q .nil)=>⟨_,_,rfl,r,q⟩
theorem Vals.zero:∀ {us:List Value},Vals [] us->us = []
 | _,.nil=>rfl
theorem Vals.dropLast {xs:List V} {us:List Value} (h:Vals xs us):Vals xs.dropLast us.dropLast:=by
 induction h with
 | nil=>exact .nil
 | cons r t ih=>
  cases t with
  | nil=>exact .nil
  | cons q t'=>exact .cons r ih
theorem Vals.eraseIdx:∀ {xs:List V} {us:List Value} (i:Nat),Vals xs us->Vals (xs.eraseIdx i) (us.eraseIdx i)
 | _,_,_,.nil=>.nil
 | _,_,0,.cons _ t=>t
 | _,_,i + 1,.cons r t=>.cons r (Vals.eraseIdx i t)
theorem Vals.reverse {xs:List V} {us:List Value} (h:Vals xs us):Vals xs.reverse us.reverse:=by
 induction h with
 | nil=>exact .nil
 | cons r t ih=>rw [List.reverse_cons,List.reverse_cons]; exact Vals.append ih (.cons r .nil)
theorem Vals.rep {xs:List V} {us:List Value} (h:Vals xs us):∀ k:Nat,Vals (List.replicate k xs).flatten (List.replicate k us).flatten
 | 0=>.nil
 | k + 1=>by
  rw [List.replicate_succ,List.replicate_succ,List.flatten_cons,List.flatten_cons]
  exact Vals.append h (Vals.rep h k)
theorem erase_last {α:Type} (l:List α):l.eraseIdx (l.length - 1) = l.dropLast:=by
 induction l with
 | nil=>rfl
 | cons a r ih=>
  cases r with
  | nil=>rfl
  | cons b r=>
   have e:(a :: b :: r).length - 1 = ((b :: r).length - 1) + 1:=by
    have h1:(a :: b :: r).length = r.length + 2:=rfl
    have h2:(b :: r).length = r.length + 1:=rfl
    omega
   rw [e,List.eraseIdx_cons_succ,ih]
   all_goals rfl
theorem len_erase {α:Type}:∀ (l:List α) (i:Nat),(l.eraseIdx i).length<=l.length
 | [],_=>Nat.le_refl _
 | _ :: _,0=>Nat.le_succ _
 | _ :: r,i + 1=>Nat.succ_le_succ (len_erase r i)
theorem foldl_rep (its:List Value):∀ (k:Nat) (acc:List Value),
  List.foldl (fun x1 x2=>x1 ++ x2) acc.toArray (List.replicate k its.toArray) = (acc ++ (List.replicate k its).flatten).toArray
 | 0,acc=>by simp
 | k + 1,acc=>by
  have e:acc.toArray ++ its.toArray = (acc ++ its).toArray:=by simp
  have e2:(acc ++ its) ++ (List.replicate k its).flatten = acc ++ (List.replicate (k + 1) its).flatten:=by
   rw [List.replicate_succ,List.flatten_cons,List.append_assoc]
  rw [<- e2,<- foldl_rep its k (acc ++ its),<- e,List.replicate_succ,List.foldl_cons]
section
variable {X:Cx} {pins:List (Addr × Obj)} {σ:St} {H:Hp} {s:Shared} {l b:Addr} {xs ys zs:List V}
theorem Inv.lset {its its':List Value} {n:Nat} {f:Array Value->Array Value} {t':Nat} (I:Inv X pins σ H s) (hH:H l = some (.lst xs))
  (e:s.heap.get? l = some { cls:=.type "list",data:=.seq its.toArray n }) (hf:f its.toArray = its'.toArray) (hv:Vals ys its') (hz:ys.length<=sizeLine) :
  Inv X pins σ (upd H l (.lst ys)) { s with heap:=s.heap.update l (Obj.mapSeq f),toks:=t' }:=by
 have q:=PySem.IsL.update e f
 rw [hf] at q
 refine I.write (x:=l) (e:=l) (by rw [hH]; exact trivial) (.inl rfl) (fun b' u hb hu=>(Heap.get?_update_other s.heap (Obj.mapSeq f) (Ne.symm hb)).trans hu) ⟨_,q⟩ ?_
 exact ⟨hz,its',_,hv,q⟩
theorem Inv.lnew {its:List Value} {t':Nat} (I:Inv X pins σ H s) (hv:Vals ys its) (hz:ys.length<=sizeLine) :
  Inv X pins σ (upd H s.heap.objs.size (.lst ys)) { s with heap:=s.heap.push { cls:=.type "list",data:=.seq its.toArray },toks:=t' }:=
 I.laid (fun _ _ q=>Heap.get?_push_of_some _ q) (Nat.le_refl _) ⟨hz,its,0,hv,Heap.get?_push_size _ rfl⟩
theorem Inv.fresh (I:Inv X pins σ H s):H s.heap.objs.size = none:=I.hok.fresh (Nat.le_refl _)
theorem Inv.lstM (I:Inv X pins σ H s) (hH:H l = some (.lst xs)):xs.length<=sizeLine/\∃ (its:List Value) (n:Nat),Vals xs its/\xs.length = its.length/\s.heap.get? l = some { cls:=.type "list",data:=.seq its.toArray n }:=by
 obtain ⟨z,its,n,r,e⟩:=I.hok l _ hH
 exact ⟨z,its,n,r,r.length,e⟩
theorem notLongL {n:Nat} (h:n<=sizeLine):Builtin.List.listTooLong n = false:=by
 unfold Builtin.List.listTooLong
 exact decide_eq_false (by omega)
end
section
variable {X:Cx}
noncomputable def rAppend:V->List V->Hp->VK->Prop:=fun x vs H Q=>∃ l xs y,x = .ref l/\vs = [y]/\H l = some (.lst xs)/\xs.length < sizeLine/\Q .non (upd H l (.lst (xs ++ [y])))
theorem mt_append:MtM X "list.append" rAppend:=by
 intro pins s σ H x vs v us Q I rx rv h
 obtain ⟨l,xs,y,rfl,rfl,hH,hz,q⟩:=h
 cases rx
 obtain ⟨u,rfl,ru⟩:=rv.one
 obtain ⟨z,its,n,r,hl,e⟩:=I.lstM hH
 refine call_meets F.slot_list_append ⟨_,e,rfl⟩ F.entry_list_append (F.args_list_append_2 _ _) (PySem.list_append l its.toArray n u (by rw [List.size_toArray]; omega)) ⟨e,?_⟩
 refine ⟨.non,_,I.lset (its':=its ++ [u]) hH e (by simp) (r.append (.cons ru .nil)) ?_,rfl,q⟩
 rw [List.length_append,List.length_singleton]
 omega
noncomputable def rExtend:V->List V->Hp->VK->Prop:=fun x vs H Q=>∃ l b xs zs,x = .ref l/\vs = [.ref b]/\H l = some (.lst xs)/\H b = some (.lst zs)/\xs.length + zs.length<=sizeLine/\Q .non (upd H l (.lst (xs ++ zs)))
theorem mt_extend:MtM X "list.extend" rExtend:=by
 intro pins s σ H x vs v us Q I rx rv h
 obtain ⟨l,b,xs,zs,rfl,rfl,hH,hB,hz,q⟩:=h
 cases rx
 obtain ⟨u,rfl,ru⟩:=rv.one
 cases ru
 obtain ⟨z,its,n,r,hl,e⟩:=I.lstM hH
 obtain ⟨z2,its2,n2,r2,hl2,e2⟩:=I.lstM hB
 have hsz:its.toArray.size + its2.toArray.size<=sizeLine:=by rw [List.size_toArray,List.size_toArray]; omega
 have hlong:¬ (!its.toArray.isEmpty && Builtin.List.listTooLong (its.toArray.size + its2.toArray.size)) = true:=by
  rw [notLongL hsz,Bool.and_false]
  exact Bool.false_ne_true
 refine call_meets F.slot_list_extend ⟨_,e,rfl⟩ F.entry_list_extend (F.args_list_extend_2 _ _)
  (AutoSeq1.list_extend_list_list_0 l its.toArray n b its2.toArray n2 hlong (by rw [List.size_toArray]; omega) (by omega)) ⟨e,e2,?_⟩
 refine ⟨.non,_,I.lset (its':=its ++ its2) hH e (by simp) (r.append r2) ?_,rfl,q⟩
 rw [List.length_append]
 omega
noncomputable def rPop:V->List V->Hp->VK->Prop:=fun x vs H Q=>∃ l xs y,x = .ref l/\vs = []/\H l = some (.lst xs)/\xs[xs.length - 1]? = some y/\Q y (upd H l (.lst xs.dropLast))
theorem mt_pop:MtM X "list.pop" rPop:=by
 intro pins s σ H x vs v us Q I rx rv h
 obtain ⟨l,xs,y,rfl,rfl,hH,hy,q⟩:=h
 cases rx
 have hus:=rv.zero
 subst hus
 obtain ⟨z,its,n,r,hl,e⟩:=I.lstM hH
 obtain ⟨u,hu,ru⟩:=r.get hy
 have hy':its.toArray[its.toArray.size - 1]? = some u:=by
  show its.toArray[its.length - 1]? = some u
  rw [<- Array.getElem?_toList,<- hl]
  exact hu
 refine call_meets F.slot_list_pop ⟨_,e,rfl⟩ F.entry_list_pop (F.args_list_pop_1 _) (MeetsSeq.list_pop_last l its.toArray n u hy' (by rw [List.size_toArray]; omega)) ⟨e,?_⟩
 refine ⟨y,_,I.lset (its':=its.dropLast) hH e ?_ r.dropLast ?_,ru,q⟩
 ·show its.toArray.eraseIdxIfInBounds (its.toArray.size - 1) = its.dropLast.toArray
  rw [List.size_toArray,List.eraseIdxIfInBounds_toArray,erase_last]
 ·rw [List.length_dropLast]
  omega
noncomputable def rPopAt:V->List V->Hp->VK->Prop:=fun x vs H Q=>∃ l xs i k y,x = .ref l/\vs = [.int i]/\H l = some (.lst xs)/\-(2 ^ 63)<=i/\i < 2 ^ 63/\seqIndex? i xs.length = some k/\xs[k]? = some y/\Q y (upd H l (.lst (xs.eraseIdx k)))
theorem mt_popAt:MtM X "list.pop" rPopAt:=by
 intro pins s σ H x vs v us Q I rx rv h
 obtain ⟨l,xs,i,k,y,rfl,rfl,hH,h1,h2,hk,hy,q⟩:=h
 cases rx
 obtain ⟨u,rfl,ru⟩:=rv.one
 obtain ⟨t,rfl⟩:=ru
 obtain ⟨z,its,n,r,hl,e⟩:=I.lstM hH
 obtain ⟨w,hw,rw'⟩:=r.get hy
 refine call_meets F.slot_list_pop ⟨_,e,rfl⟩ F.entry_list_pop (F.args_list_pop_2 _ _)
  (MeetsSeq.list_pop_at l its.toArray n i t k w (fitsIndex_both h1 h2) (by rw [List.size_toArray,<- hl]; exact hk) (by rw [<- Array.getElem?_toList]; exact hw) (by rw [List.size_toArray]; omega)) ⟨e,?_⟩
 refine ⟨y,_,I.lset (its':=its.eraseIdx k) hH e ?_ (r.eraseIdx k) ?_,rw',q⟩
 ·show its.toArray.eraseIdxIfInBounds k = (its.eraseIdx k).toArray
  rw [List.eraseIdxIfInBounds_toArray]
 ·have:=len_erase xs k
  omega
noncomputable def rReverse:V->List V->Hp->VK->Prop:=fun x vs H Q=>∃ l xs,x = .ref l/\vs = []/\H l = some (.lst xs)/\Q .non (upd H l (.lst xs.reverse))
theorem mt_reverse:MtM X "list.reverse" rReverse:=by
 intro pins s σ H x vs v us Q I rx rv h
 obtain ⟨l,xs,rfl,rfl,hH,q⟩:=h
 cases rx
 have hus:=rv.zero
 subst hus
 obtain ⟨z,its,n,r,hl,e⟩:=I.lstM hH
 refine call_meets F.slot_list_reverse ⟨_,e,rfl⟩ F.entry_list_reverse (F.args_list_reverse_1 _) (AutoSeq1.list_reverse_list_0 l its.toArray n (by rw [List.size_toArray]; omega)) ⟨e,?_⟩
 refine ⟨.non,_,I.lset (its':=its.reverse) hH e (by simp) r.reverse ?_,rfl,q⟩
 rw [List.length_reverse]
 omega
noncomputable def rClear:V->List V->Hp->VK->Prop:=fun x vs H Q=>∃ l xs,x = .ref l/\vs = []/\H l = some (.lst xs)/\Q .non (upd H l (.lst []))
theorem mt_clear:MtM X "list.clear" rClear:=by
 intro pins s σ H x vs v us Q I rx rv h
 obtain ⟨l,xs,rfl,rfl,hH,q⟩:=h
 cases rx
 have hus:=rv.zero
 subst hus
 obtain ⟨z,its,n,r,hl,e⟩:=I.lstM hH
 refine call_meets F.slot_list_clear ⟨_,e,rfl⟩ F.entry_list_clear (F.args_list_clear_1 _) (AutoSeq1.list_clear_list_0 l its.toArray n (by rw [List.size_toArray]; omega)) ⟨e,?_⟩
 exact ⟨.non,_,I.lset (its':=[]) (ys:=[]) hH e rfl .nil (Nat.zero_le _),rfl,q⟩
noncomputable def rCat:R2:=fun x y H Q=>∃ l b xs zs,x = .ref l/\y = .ref b/\H l = some (.lst xs)/\H b = some (.lst zs)/\xs.length + zs.length<=sizeLine/\∀ p,H p = none->Q (.ref p) (upd H p (.lst (xs ++ zs)))
theorem op_cat:OpR X (binaryOp .Add) rCat:=by
 intro pins s σ H x y v u Q I rx ry h
 obtain ⟨l,b,xs,zs,rfl,rfl,hH,hB,hz,q⟩:=h
 cases rx
 cases ry
 obtain ⟨z,its,n,r,hl,e⟩:=I.lstM hH
 obtain ⟨z2,its2,n2,r2,hl2,e2⟩:=I.lstM hB
 refine PySem.P.add_list e e2 ?_ (by rw [List.size_toArray,List.size_toArray]; omega)
 have ea:its.toArray ++ its2.toArray = (its ++ its2).toArray:=by simp
 rw [ea]
 exact ⟨.ref _,_,I.lnew (t':=s.toks) (r.append r2) (by rw [List.length_append]; omega),rfl,q _ I.fresh⟩
noncomputable def rRep:R2:=fun x y H Q=>∃ l k xs,x = .ref l/\y = .int k/\H l = some (.lst xs)/\-(2 ^ 63)<=k/\k < 2 ^ 63/\xs.length * k.toNat<=sizeLine/\
 ∀ p,H p = none->Q (.ref p) (upd H p (.lst (List.replicate k.toNat xs).flatten))
theorem len_rep {α:Type} (xs:List α) (k:Nat):(List.replicate k xs).flatten.length = k * xs.length:=by
 induction k with
 | zero=>simp
 | succ k ih=>rw [List.replicate_succ,List.flatten_cons,List.length_append,ih,Nat.succ_mul,Nat.add_comm]
theorem op_rep:OpR X (binaryOp .Mult) rRep:=by
 intro pins s σ H x y v u Q I rx ry h
 obtain ⟨l,k,xs,rfl,rfl,hH,h1,h2,hz,q⟩:=h
 cases rx
 obtain ⟨t,rfl⟩:=ry
 obtain ⟨z,its,n,r,hl,e⟩:=I.lstM hH
 have hlen:its.toArray.size * k.toNat<=sizeLine:=by rw [List.size_toArray,<- hl]; exact hz
 have hcap:¬ its.toArray.size * k.toNat > (2 ^ 63 - 1) / 8:=by
  have:(sizeLine:Nat)<=(2 ^ 63 - 1) / 8:=by decide
  omega
 have hfit:¬ (!Builtin.List.listFitsIndex k) = true:=by
  rw [fitsIndex_both h1 h2]
  exact Bool.false_ne_true
 have hlong:¬ Builtin.List.listTooLong (its.toArray.size * k.toNat) = true:=by
  rw [notLongL hlen]
  exact Bool.false_ne_true
 have hnew:List.foldl (fun x1 x2=>x1 ++ x2) #[] (List.replicate (if its.toArray.isEmpty = true then 0 else k.toNat) its.toArray) = (List.replicate k.toNat its).flatten.toArray:=by
  have f0:∀ m:Nat,List.foldl (fun x1 x2=>x1 ++ x2) #[] (List.replicate m its.toArray) = (List.replicate m its).flatten.toArray:=fun m=>by
   have:=foldl_rep its m []
   rw [List.nil_append] at this
   exact this
  rw [f0]
  cases its with
  | nil=>simp
  | cons a r'=>rw [if_neg (by simp)]
 refine wpAny_binaryOp_repeat_ref (T:="list") (U:="int") (by decide) ⟨_,e,rfl⟩ (fun s'=>typeIs_int s' k t) noFill_list_mul F.fills_int_mul F.slot_int_rmul repeat_list F.slot_int_index.lookup
  (call_meets F.slot_int_rmul (typeIs_int s k t) F.entry_int_rmul (F.args_int_rmul_2 _ _) (int___rmul___int_list k t l its.toArray n)
   ⟨e,rfl,⟨_,e,rfl⟩,call_meets F.slot_list_mul ⟨_,e,rfl⟩ F.entry_list_mul (F.args_list_mul_2 _ _) (AutoListH.list___mul___list_int_3 l its.toArray n k t hfit hcap hlong) ⟨e,?_⟩⟩)
 rw [hnew]
 exact ⟨.ref _,_,I.lnew (t':=s.toks) (r.rep k.toNat) (by rw [len_rep,Nat.mul_comm]; exact hz),rfl,q _ I.fresh⟩
end
section
variable {prog:Program} {w:World} {A:Around} {E:Value->Shared->Prop} {s:Shared}
end
section
variable {X:Cx}
end
end L2
namespace Att
open PySem PySem.W PySem.Calls PyProof.Rows
theorem ints_of_wellAll {P:Params} {h:Heap}:∀ (ns:List Int) (vs:List Value),WellAll P h vs (ns.map WData.int)->IntsAre vs ns:=by
 intro ns
 induction ns with
 | nil=>
  intro vs w
  rw [List.map_nil] at w
  cases w
  exact .nil
 | cons n ns ih=>
  intro vs w
  rw [List.map_cons] at w
  cases w with
  | cons a b=>
   cases a
   exact .cons _ _ (ih _ b)
theorem script_of {l:OpenLaw} {n:Nat} (hn:l.most = some n) {P:Params} {h:Heap} {args:List WData} {vals:List Value}
  (hpre:l.row.toRowW.claim.pre args = true) (hwl:WellAll P h vals args) :
  ∃ a vs ns,vals = [Value.ref a]/\args = [WData.list (ns.map WData.int)]/\h.get? a = some { cls:=.type "list",data:=.seq vs.toArray }/\IntsAre vs ns/\ns.length<=n:=by
 have hsh:WShape.hasAll [] args [.list .int] = true:=(pre_splitW hpre).1
 have hc:l.pre.holds [] { args:=args } = true:=(pre_splitW hpre).2
 obtain ⟨d,r,rfl,h1,h2⟩:=hasAllW_cons hsh
 obtain rfl:=hasAllW_nil h2
 obtain ⟨xs,rfl,h3⟩:=hasW_list h1
 obtain ⟨ns,rfl⟩:=items_int h3
 have hlen:ns.length<=n:=by
  unfold OpenLaw.pre at hc
  have h4:(WTm.not (.lt (.lit (.int (n:Int))) (.len (.arg 0)))).holds [] { args:=[.list (ns.map .int)] } = true:=by
   have h4:=(holds_andW hc).1
   rw [hn] at h4
   exact h4
  have h5:=condW_of h4 (w_not (w_lt w_lit (w_len_list (w_arg rfl))))
  rw [List.length_map] at h5
  refine Nat.le_of_not_lt fun q=>?_
  have q':(n:Int) < ((ns.length:Nat):Int):=by omega
  first
   | (rw [decide_eq_true q'] at h5; exact absurd h5 (by decide))
   | (simp at h5; omega)
 cases hwl with
 | cons w1 w2=>
  cases w2
  cases w1 with
  | list ho hall=>exact ⟨_,_,ns,rfl,rfl,ho,ints_of_wellAll ns _ hall,hlen⟩
theorem post_true (l:OpenLaw) (args:List WData):l.row.toRowW.claim.post args (.bool true) args = true:=
 postW_of (r:=l.row.toRowW) (X:=(true == true))
  (show WShape.has [] (.bool true) .bool = true by first | rfl | decide | simp [WShape.has,WShape.arms,WShape.armsAll])
  (show (WTm.eq .res (.lit (.bool true))).value [] { args:=args,res:=some (.bool true),after:=args } = some (.bool (true == true)) from w_eq_bool (w_res rfl) w_lit) rfl
theorem attach_call {l:OpenLaw} {n:Nat} {q:Program} {loose:List Str} {XP:(Str->Option Value)->Heap->Prop} {YP:World->Heap->Prop} {d:DefRec}
  (hn:l.most = some n) (hdf:d.params.defaults = [])
  (call:∀ (w:World) (s₀ s₁:Shared) (mg mb:Str->Option Value) (fa:Addr) (o:Obj) (pm cd doc:Value) (a:Addr) (vs:List Value) (ns:List Int),
   Ground q loose [] XP w s₀ mg mb s₁.heap->YP w s₁.heap->
   s₁.heap.get? fa = some o->o.data = .func (docDef d.name d.params d.body d.scope pm cd doc)->s₁.heap.CodeRec cd d.name->mg d.name = some (.ref fa)->
   s₁.heap.get? a = some { cls:=.type "list",data:=.seq vs.toArray }->IntsAre vs ns->ns.length<=n->s₁.gens = #[]->
   codeAny (model l.prog w) callerA (.call (.ref fa) ⟨[.ref a],[]⟩) (fun r s'=>r = .ok (.ret (.bool true))/\OldK s₁.heap s'.heap/\s'.os = s₁.os/\AllBare s'.gens) s₁) :
  WalkO q loose XP YP l.row.toRowW d [] (fun f vs=>PySem.call f vs):=by
 intro w s₀ s₁ mg mb G Y fa o pm cd doc dV kV ho hd hcd hD hmg hg args vals as hpre hlay hrd hwl hlo
 obtain rfl:dV = .none:=Dflts.none hD hdf
 obtain rfl:kV = .none:=Dflts.noKw hD
 obtain ⟨a,vs,ns,rfl,rfl,hobj,hints,hlen⟩:=script_of hn hpre hwl
 refine enter_call (codeAny_mono (call w s₀ s₁ mg mb fa o pm cd doc a vs ns G Y ho (fd_plain hd) hcd hmg hobj hints hlen hg) fun r s' hq=>?_)
 obtain ⟨rfl,h2,h3,h4⟩:=hq
 exact ⟨.inl ⟨.bool true,.bool true,[],rfl,fun _=>rfl,.bool true,post_true l _,fun _=>⟨List.Pairwise.nil,fun _ hm=>(nomatch hm)⟩⟩,h2,h3,h4⟩
section
variable {prog:Program} {w:World} {A:Around} {E:Value->Shared->Prop} {s:Shared} {K:Frag}
end
end Att
namespace L2
open PySem PySem.Spec PyProof.Rows
theorem vals_ints:∀ {vs:List Value} {ns:List Int},IntsAre vs ns->Vals (ns.map V.int) vs
 | _,_,.nil=>.nil
 | _,_,.cons n t h=>.cons ⟨t,rfl⟩ (vals_ints h)
noncomputable def Only (H:Hp):Prop:=∀ b,H b = none\/∃ o xs,H b = some (.frz o (.lst xs))
theorem law_call {P:Program} {w:World} {K:PySem.W.Frag} {mg mb:Str->Option Value} {CX:CXT} {k:Nat} {fa a:Addr} {fd:FuncData} {x:Str} {sp:Sp} {s₁:Shared} {vs:List Value} {ns:List Int}
  (KX:K.In s₁.heap) (hns:s₁.heap.Ns mainGlobals mg) (hb:s₁.heap.Ns builtinsNs mb) (hbb:∀ x:Str,x ≠ "__name__"->mb x = bootBuiltins x) (hlim:s₁.heap.NoLimit) (hg:s₁.gens = #[])
  (ha:s₁.heap.get? a = some { cls:=.type "list",data:=.seq vs.toArray }) (hi:IntsAre vs ns) (hl:ns.length<=sizeLine) (hr:Room k callerA)
  (F:∀ base:Heap,K.In base->base.Ns mainGlobals mg->FnOk P w K mg base CX k fa fd [x] sp) (hbind:∀ (s:Shared) (u:Value),BindsTo s fd ⟨[u],[]⟩ [(x,u)])
  (hsp:∀ H:Hp,Only H->SqL K H a (ns.map V.int)->sp [.ref a] H (fun v _=>v = .bl true) fun _ _ _=>False)
  (hCX:∀ H e s',CX [] H s₁ (fun _ _ _=>False) e s'->False) :
  codeAny (model P w) callerA (.call (.ref fa) ⟨[.ref a],[]⟩) (fun r s'=>r = .ok (.ret (.bool true))/\OldK s₁.heap s'.heap/\s'.os = s₁.os/\AllBare s'.gens) s₁:=by
 have rv:=vals_ints hi
 have lenV:=hi.length
 -- from an abstract heap in which nothing but the script may be tracked
 have core:∀ H:Hp,Only H->SqL K H a (ns.map V.int)->HOk P w H s₁.heap->(∀ b,H b ≠ none->b = a)->(H a ≠ none->K.lookup a = none)->
   codeAny (model P w) callerA (.call (.ref fa) ⟨[.ref a],[]⟩) (fun r s'=>r = .ok (.ret (.bool true))/\OldK s₁.heap s'.heap/\s'.os = s₁.os/\AllBare s'.gens) s₁:=by
  intro H hO hS hok hA hK
  have base_of:∀ {b:Addr} {o:Obj},s₁.heap.get? b = some o->H b = none->(hidT s₁.heap H).get? b = some o:=fun e n=>hidT_get e n
  have noA:∀ {b:Addr} {o:Obj} {es:Array DictEntry} {ep:Nat},s₁.heap.get? b = some o->o.data = .dict es ep->H b = none:=fun {b o es ep} e d=>by
   cases q:H b with
   | none=>rfl
   | some u=>
    have e':b = a:=hA b (by rw [q]; simp)
    subst e'
    rw [ha] at e; cases e
    have d':Data.seq vs.toArray _ = Data.dict es ep:=d
    cases d'
  have nsK:∀ {b:Addr} {m:Str->Option Value},s₁.heap.Ns b m->(hidT s₁.heap H).Ns b m:=fun {b m} ⟨o,es,ep,e,d,r⟩=>⟨o,es,ep,base_of e (noA e d),d,r⟩
  have hKb:K.In (hidT s₁.heap H):=fun b o e=>base_of (KX b o e) (by
   cases q:H b with
   | none=>rfl
   | some u=>
    have e':b = a:=hA b (by rw [q]; simp)
    subst e'
    rw [hK (by rw [q]; simp)] at e; cases e)
  have hM:Mod K mg (hidT s₁.heap H):=⟨hKb,nsK hns,⟨mb,nsK hb,hbb⟩,let ⟨mc,h1,h2⟩:=hlim; ⟨mc,nsK h1,h2⟩⟩
  have e0:Env0 P w K mg (hidT s₁.heap H) callerA [] s₁ H:=⟨rfl,hM,fun b o e=>of_hidT e,Nat.le_of_eq (hidT_size _ _),trivial,fun b hb=>absurd (show b ∈ ([]:List Addr) from hb) (by simp),hok,.of_eq hg⟩
  refine codeAny_mono ((F _ hKb (nsK hns)).run callerA [] s₁ H ⟨[.ref a],[]⟩ [.ref a] [.ref a] _ _ hr e0 (hbind s₁ (.ref a)) (.cons rfl .nil) (hsp H hO hS)) fun r s' h=>?_
  cases r with
  | error e=>exact (hCX H e s' h).elim
  | ok fl=>
   cases fl with
   | next=>exact False.elim h
   | brk=>exact False.elim h
   | cont=>exact False.elim h
   | ret u=>
    obtain ⟨v,H',os,bare,un,hok',r',q⟩:=h
    have q':v = .bl true:=q
    subst q'
    obtain rfl:u = Value.bool true:=r'
    refine ⟨rfl,OldK.of_keep fun b o e=>?_,os,bare⟩
    cases q:H b with
    | none=>exact un.keep b o e q (by intro z; exact absurd (show b ∈ ([]:List Addr) from z) (by simp)) (by simp)
    | some u=>
     rcases hO b with z | ⟨ob,xs,z⟩
     ·rw [q] at z; cases z
     ·have z2:=un.frzs b ob _ z
      obtain ⟨e1,_⟩:=hok b _ z
      obtain ⟨e2,_⟩:=hok' b _ z2
      rw [e] at e1; cases e1
      exact e2
 cases hk:K.lookup a with
 | some o=>
  -- the script is one of the module's own objects
  have e:=KX a o hk
  rw [ha] at e
  cases e
  refine core (fun _=>none) (fun _=>.inl rfl) (.inr ⟨_,vs.toArray,_,hk,rfl,rfl,rfl,by rw [List.size_toArray,lenV]; exact hl,by simpa using rv⟩) (fun b u z=>by have z':(none:Option HO) = some u:=z; cases z') (fun b z=>absurd rfl z) fun z=>absurd rfl z
 | none=>
  refine core (fun b=>if b = a then some (.frz { cls:=.type "list",data:=.seq vs.toArray } (.lst (ns.map V.int))) else none) (fun b=>?_) (.inl (.inr ⟨{ cls:=.type "list",data:=.seq vs.toArray },if_pos rfl⟩)) (fun b u z=>?_) (fun b z=>?_) fun _=>hk
  ·by_cases hb:b = a
   ·exact .inr ⟨_,_,if_pos hb⟩
   ·exact .inl (if_neg hb)
  ·by_cases hb:b = a
   ·have z':=(if_pos hb).symm.trans z
    cases z'
    subst hb
    exact ⟨ha,by rw [List.length_map]; exact hl,vs,_,rv,ha⟩
   ·have z':=(if_neg hb).symm.trans z
    cases z'
  ·by_cases hb:b = a
   ·exact hb
   ·exact absurd (if_neg hb) z
end L2
namespace L2
open PySem PySem.Spec PyProof.Rows
theorem walk_of {l:PySem.W.OpenLaw} {n k:Nat} {q:Program} {loose:List Str} {XP:(Str->Option Value)->Heap->Prop} {YP:World->Heap->Prop} {d:DefRec} {K:Params->PySem.W.Frag} {CX:World->CXT} {sp:World->Sp} {x:Str}
  (hn:l.most = some n) (hn2:n<=sizeLine) (hdf:d.params.defaults = []) (hr:Room k callerA)
  (hY:∀ (w:World) (h:Heap),YP w h->(K w.params).In h)
  (F:∀ (w:World) (mg:Str->Option Value) (fa:Addr) (h:Heap),(K w.params).In h->h.Ns mainGlobals mg->mg d.name = some (.ref fa)->
   ∃ fd:FuncData,(∀ (s:Shared) (u:Value),BindsTo s fd ⟨[u],[]⟩ [(x,u)])/\
    ∀ base:Heap,(K w.params).In base->base.Ns mainGlobals mg->FnOk l.prog w (K w.params) mg base (CX w) k fa fd [x] (sp w))
  (hsp:∀ (w:World) (H:Hp) (a:Addr) (ns:List Int),ns.length<=n->Only H->SqL (K w.params) H a (ns.map V.int)->sp w [.ref a] H (fun v _=>v = .bl true) fun _ _ _=>False)
  (hCX:∀ (w:World) (H:Hp) (s:Shared) (e:Value) (s':Shared),CX w [] H s (fun _ _ _=>False) e s'->False) :
  PySem.W.WalkO q loose XP YP l.row.toRowW d [] (fun f vs=>PySem.call f vs):=by
 refine Att.attach_call hn hdf fun w s₀ s₁ mg mb fa o pm cd doc a vs ns G Y ho hd hcd hmg hobj hints hlen hg=>?_
 have KX:=hY w _ Y
 obtain ⟨fd,hb,hF⟩:=F w mg fa _ KX G.T.g hmg
 exact law_call KX G.T.g G.T.b G.T.builtins G.T.nolimit hg hobj hints (Nat.le_trans hlen hn2) hr hF hb (fun H hO hS=>hsp w H a ns hlen hO hS) fun H e s'=>hCX w H s₁ e s'
end L2
namespace L2
open PySem PySem.Spec PyProof.Rows
noncomputable def defArgs (s:Stmt):Arguments:=match s with
 | .FunctionDef _ a _ _ _ _ _ _ _ _=>a
 | _=>{ posonlyargs:=[],args:=[],vararg:=none,kwonlyargs:=[],kw_defaults:=[],kwarg:=none,defaults:=[] }
noncomputable def defBody (s:Stmt):List Stmt:=match s with
 | .FunctionDef _ _ b _ _ _ _ _ _ _=>b
 | _=>[]
noncomputable def defScope (s:Stmt):Scope:=match s with
 | .FunctionDef _ _ _ _ _ _ sc _ _ _=>sc
 | _=>{ kind:=.function,names:=[],isGenerator:=false,isCoroutine:=false }
noncomputable abbrev CX0:CXT:=fun _ _ _ _ _ _=>False
noncomputable abbrev E0:XK:=fun _ _ _=>False
theorem pass0 {X:Cx}:Passes CX0 X E0:=fun _ _ _ _ _ _ _ h=>h.elim
structure Fun (K:PySem.W.Frag) (x qual:Str) (st:Stmt) (f:Addr) (fd:FuncData):Prop where
 ex:∃ (oc:Value) (od:Option Addr) (kV doc pm:Value) (an:Option Addr) (cdv ct:Value) (osl:Array (Option Value)),
  fd = PySem.W.fnOf x qual (defArgs st) (defBody st) (defScope st) .none kV doc pm an cdv ct/\K.lookup f = some ⟨oc,od,.func fd,osl⟩/\PySem.W.codeIn K cdv qual = true
 kp:PySem.W.keepIn K (.ref f) = true
section
variable {P:Program} {w:World} {K:PySem.W.Frag} {mg:Str->Option Value} {base:Heap}
theorem Fun.ok {x qual:Str} {st:Stmt} {f:Addr} {fd:FuncData} {N ps:List Str} {k:Nat} {sp:Sp} (F:Fun K x qual st f fd) (S:FnScope N ps (defScope st)) (len:∀ vs H Q E,sp vs H Q E->vs.length = ps.length)
  (hbody:∀ (cdv:Value) (A:Around) (outer:List Env) (s:Shared) (H:Hp) (vs:List V) (Q:VK) (E:XK),Room k (A.deeper (envOfC qual (defScope st) s.heap.objs.size f cdv))->sp vs H Q E->
   ∃ t,PSs (cxOf CX0 P w K mg base N qual (defScope st) f cdv A outer s H E).nox (defBody st) t/\t { nx:=fun _ H'=>Q .non H',rt:=Q } (start N vs) H):FnOk P w K mg base CX0 (k + 1) f fd ps sp:=by
 obtain ⟨oc,od,kV,doc,pm,an,cdv,ct,osl,rfl,lk,hcd⟩:=F.ex
 refine fn_of lk hcd S len fun A outer s H vs Q E hr hsp=>?_
 obtain ⟨t,h,q⟩:=hbody cdv A outer s H vs Q E hr hsp
 exact ⟨t,h.nox,q⟩
theorem Fun.binds {x qual:Str} {st:Stmt} {f:Addr} {fd:FuncData} {ps:List Str} (F:Fun K x qual st f fd)
  (h:∀ (kV doc pm:Value) (an:Option Addr) (cdv ct:Value) (us:List Value),us.length = ps.length->bindArgs (PySem.W.fnOf x qual (defArgs st) (defBody st) (defScope st) .none kV doc pm an cdv ct) ⟨us,[]⟩ = pure (ps.zip us)):Binds K fd ps []:=by
 obtain ⟨oc,od,kV,doc,pm,an,cdv,ct,osl,rfl,lk,hcd⟩:=F.ex
 exact .all (h kV doc pm an cdv ct)
theorem fun_mk {x qual:Str} {st:Stmt} {f:Addr} {oc:Value} {od an:Option Addr} {osl:Array (Option Value)} {kV doc pm cdv ct:Value} (l:K.lookup f = some ⟨oc,od,.func (PySem.W.fnOf x qual (defArgs st) (defBody st) (defScope st) .none kV doc pm an cdv ct),osl⟩)
  (c:PySem.W.codeIn K cdv qual = true) (k:PySem.W.keepIn K (.ref f) = true):Fun K x qual st f (PySem.W.fnOf x qual (defArgs st) (defBody st) (defScope st) .none kV doc pm an cdv ct):=⟨⟨oc,od,kV,doc,pm,an,cdv,ct,osl,rfl,l,c⟩,k⟩
end
section
variable {X:Cx}
end
theorem iteF {A B:Prop} (h:B):if false = true then A else B:=by
 rw [if_neg Bool.false_ne_true]
 exact h
theorem iteT {A B:Prop} (h:A):if true = true then A else B:=by
 rw [if_pos rfl]
 exact h
noncomputable def Same (H H':Hp):Prop:=∀ b o,H b = some o->H' b = some o
theorem Same.refl (H:Hp):Same H H:=fun _ _ h=>h
theorem Same.trans {H H1 H2:Hp} (a:Same H H1) (b:Same H1 H2):Same H H2:=fun c o h=>b c o (a c o h)
theorem Same.free {H H':Hp} (e:Same H H') {l:Addr} (h:H' l = Option.none):H l = Option.none:=by
 cases q:H l with
 | none=>rfl
 | some o=>
  rw [e l o q] at h
  cases h
end L2
set_option maxHeartbeats 4000000
namespace HT
open PySem PySem.Spec PyProof.Rows
section
variable {prog:Program} {w:World} {A:Around} {E:Value->Shared->Prop} {s:Shared}
theorem cat_tup0 {t b:Addr} {ws:List Value} {Q:Value->Shared->Prop} (ht:IsTup s.heap t #[]) (hb:IsTup s.heap b ws.toArray) (h1:Q (.ref b) s):wpAny (model prog w) A (binaryOp .Add (.ref t) (.ref b)) Q E s:=by
 obtain ⟨⟨c1,d1,e1,s1⟩,a1,a2,n,a3⟩:=id ht
 obtain ⟨⟨c2,d2,e2,s2⟩,b1,b2,n2,b3⟩:=id hb
 simp only at a2 a3 b2 b3
 subst a2 a3 b2 b3
 exact concat_meets ⟨_,a1,rfl⟩ ⟨_,b1,rfl⟩ noFill_tuple_add seq_tuple_add PySem.F.slot_tuple_add PySem.F.entry_tuple_add (PySem.F.args_tuple_add_2 _ _) (tuple_addW0 t b #[] ws.toArray n n2 d1 d2 s1 s2 (by simp)) ⟨a1,b1,h1⟩
theorem getItem_tuple_all {t sl:Addr} {its:Array Value} {vl vu:Value} {lo hi:Option Int} {Q:Value->Shared->Prop} (ht:IsTup s.heap t its) (hs:s.heap.IsSliceOf sl vl vu .none) (pl:IsPart vl lo) (pu:IsPart vu hi)
  (h0:sIx its.size 0 lo = 0) (h1:sIx its.size its.size hi = its.size) (h:Q (.ref t) s):wpAny (model prog w) A (getItem (.ref t) (.ref sl)) Q E s:=by
 obtain ⟨os,hos,hcs,hds⟩:=id hs
 have tS:s.TypeIs (.ref sl) "slice":=⟨os,hos,hcs⟩
 unfold getItem
 try with_reducible refine wpAny_holding ?_
 first | refine wpAny_bind (wpAny_pure ?_) | skip
 refine wpAny_bind (wpAny_sequenceKey ht.typeIs (by decide) ?_)
 refine wpAny_bind (wpAny_callSpecial?_slot (name:=Str.ofString "__getitem__") ht.typeIs PyProof.Rows.slot_tuple_getitem (wpAny_call_entry PyProof.Rows.slot_tuple_getitem ht.typeIs entry_tuple_getitem ?_ (args_tuple_getitem _ _)))
 show wpAny _ _ (Builtin.Tuple.tupleItemsOf (.ref t) >>= _) _ _ s
 refine wpAny_bind (tupleItemsOf_ ht ?_)
 refine wpAny_bind (wpAny_typeOf tS ?_)
 rw [if_pos (by decide)]
 refine wpAny_bind (sliceApplied_gen hs pl pu ?_)
 rw [h0,h1]
 show wpAny _ _ (if ((((0:Nat):Int)) == 0 && (1:Int) == 1 && (its.size - 0) == its.size) = true then _ else _) _ _ s
 rw [if_pos (by simp)]
 refine wpAny_bind (m:=Builtin.Tuple.tupleIsExact _) ?_
 unfold Builtin.Tuple.tupleIsExact
 refine wpAny_bind (wpAny_typeOf ht.typeIs (wpAny_pure ?_))
 rw [if_pos (by decide)]
 first
  | exact wpAny_bind (wpAny_rule (wpAny_pure ⟨_,rfl,wpAny_pure h⟩))
  | exact wpAny_pure ⟨_,rfl,wpAny_pure h⟩
  | exact wpAny_bind (wpAny_pure (wpAny_pure ⟨_,rfl,wpAny_pure h⟩))
end
end HT
namespace L2
open PySem PySem.Spec PyProof.Rows
section
variable {X:Cx}
theorem op_catT0:OpR X (binaryOp .Add) (fun x y H Q=>∃ a b ys,x = .ref a/\y = .ref b/\SqT X.K H a []/\SqT X.K H b ys/\Q (.ref b) H):=by
 intro pins s σ H x y v u Q I rx ry h
 obtain ⟨a,b,ys,rfl,rfl,ha,hb,q⟩:=h
 cases rx
 cases ry
 obtain ⟨its,r1,p1,_⟩:=I.tuple ha
 obtain ⟨its2,r2,p2,_⟩:=I.tuple hb
 cases r1
 exact HT.cat_tup0 p1 p2 ⟨.ref b,H,I,rfl,q⟩
theorem sl_tupW:SlR X (fun x lo hi H Q=>∃ a xs,x = .ref a/\SqT X.K H a xs/\HT.sIx xs.length 0 lo = 0/\HT.sIx xs.length xs.length hi = xs.length/\Q (.ref a) H):=by
 intro pins s σ H x v vl vu lo hi sl Q I rx hs pl pu h
 obtain ⟨a,xs,rfl,hx,h0,h1,q⟩:=h
 cases rx
 obtain ⟨its,r,ht,hz⟩:=I.tuple hx
 have hn:its.toArray.size = xs.length:=by rw [List.size_toArray]; exact r.length.symm
 exact ⟨"tuple",_,PyProof.Rows.slot_tuple_getitem.lookup,ht.typeIs,HT.getItem_tuple_all ht hs pl pu (by rw [hn]; exact h0) (by rw [hn]; exact h1) ⟨.ref a,H,I,rfl,q⟩⟩
end
end L2
namespace L2
open PySem PySem.Spec PyProof.Rows
section
variable {κ:Type} [DecidableEq κ]
noncomputable def valV (kvs:List (κ × V)) (k:κ):Option V:=(kvs.find? fun kv=>decide (kv.1 = k)).map (·.2)
noncomputable def putK (kvs:List (κ × V)) (k:κ) (v:V):List (κ × V):=
 if (kvs.any fun kv=>decide (kv.1 = k)) = true then kvs.map (fun kv=>if kv.1 = k then (kv.1,v) else kv) else kvs ++ [(k,v)]
theorem valV_pos {p:κ × V} {r:List (κ × V)} {k:κ} (e:p.1 = k):valV (p :: r) k = some p.2:=by simp [valV,List.find?_cons,e]
theorem valV_neg {p:κ × V} {r:List (κ × V)} {k:κ} (e:¬ p.1 = k):valV (p :: r) k = valV r k:=by simp [valV,List.find?_cons,e]
theorem valV_any (k:κ):∀ kvs:List (κ × V),(kvs.any fun kv=>decide (kv.1 = k)) = (valV kvs k).isSome
 | []=>rfl
 | p :: r=>by
  rw [List.any_cons]
  by_cases e:p.1 = k
  ·simp only [valV_pos e,decide_eq_true e,Bool.true_or,Option.isSome_some]
  ·rw [valV_neg e,decide_eq_false e,Bool.false_or]; exact valV_any k r
theorem length_putK (kvs:List (κ × V)) (k:κ) (v:V):(putK kvs k v).length<=kvs.length + 1:=by
 unfold putK
 split
 ·rw [List.length_map]; omega
 ·rw [List.length_append,List.length_cons,List.length_nil]; omega
theorem RelO.isSome_eq {o:Option V} {u:Option Value} (r:RelO o u):o.isSome = u.isSome:=by
 cases o with
 | none=>cases u with
  | none=>rfl
  | some _=>exact (show False from r).elim
 | some _=>cases u with
  | none=>exact (show False from r).elim
  | some _=>rfl
theorem KV.val {kvs:List (κ × V)} {vs:List (κ × Value)} (r:KV kvs vs) (k:κ):RelO (valV kvs k) (valueAt vs k):=by
 unfold KV at r
 induction r with
 | nil=>exact True.intro
 | @cons p q ps qs h t ih=>
  obtain ⟨h1,h2⟩:=h
  by_cases e:p.1 = k
  ·have e':q.1 = k:=h1.symm.trans e
   have b:valueAt (q :: qs) k = some q.2:=by simp [valueAt,List.find?_cons,e']
   rw [valV_pos e,b]; exact h2
  ·have e':¬ q.1 = k:=fun z=>e (h1.trans z)
   have b:valueAt (q :: qs) k = valueAt qs k:=by simp [valueAt,List.find?_cons,e']
   rw [valV_neg e,b]; exact ih
theorem KV.any {kvs:List (κ × V)} {vs:List (κ × Value)} (r:KV kvs vs) (k:κ):(kvs.any fun kv=>decide (kv.1 = k)) = vs.any fun kv=>decide (kv.1 = k):=by
 unfold KV at r
 induction r with
 | nil=>rfl
 | cons h t ih=>rw [List.any_cons,List.any_cons,ih,h.1]
theorem KV.repl {kvs:List (κ × V)} {vs:List (κ × Value)} (r:KV kvs vs) (k:κ) {y:V} {u:Value} (ry:RelV y u) :
  KV (kvs.map fun kv=>if kv.1 = k then (kv.1,y) else kv) (vs.map fun kv=>if kv.1 = k then (kv.1,u) else kv):=by
 unfold KV at r ⊢
 induction r with
 | nil=>exact .nil
 | @cons p q ps qs h t ih=>
  rw [List.map_cons,List.map_cons]
  refine .cons ?_ ih
  obtain ⟨h1,h2⟩:=h
  by_cases e:p.1 = k
  ·rw [if_pos e,if_pos (h1.symm.trans e)]; exact ⟨h1,ry⟩
  ·rw [if_neg e,if_neg (fun z=>e (h1.trans z))]; exact ⟨h1,h2⟩
theorem KV.put {kvs:List (κ × V)} {vs:List (κ × Value)} (r:KV kvs vs) (k:κ) {y:V} {u:Value} (ry:RelV y u):KV (putK kvs k y) (stored vs k u):=by
 unfold putK stored
 rw [r.any k]
 by_cases e:(vs.any fun kv=>decide (kv.1 = k)) = true
 ·rw [if_pos e,if_pos e]; exact r.repl k ry
 ·rw [if_neg e,if_neg e]; exact Paired.snoc r ⟨rfl,ry⟩
theorem KV.length {kvs:List (κ × V)} {vs:List (κ × Value)} (r:KV kvs vs):kvs.length = vs.length:=Paired.length r
end
theorem kV_is {P:Program} {w:World} {k:Key} {u:Value} (r:RelV (kV k) u):(mixKind P w).is k u = true:=by
 cases k with
 | inl i=>obtain ⟨t,e⟩:=(show ∃ t,u = Value.int i t from r); subst e; exact mixKind_int P w i t
 | inr x=>obtain ⟨t,e⟩:=(show ∃ t,u = Value.str x t from r); subst e; exact mixKind_str P w x t
theorem items_are {P:Program} {w:World}:∀ {ks:List Key} {us:List Value},Vals (ks.map kV) us->ItemsAre (mixKind P w) ks us
 | [],_,r=>by rw [List.map_nil] at r; cases r; exact .nil
 | k :: ks,_,r=>by
  rw [List.map_cons] at r
  cases r with
  | cons h t=>exact .cons (kV_is h) (items_are t)
noncomputable abbrev KT (H:Hp):List (List Key × V)->List (List Key × Addr × Value)->Prop:=Paired fun p q=>p.1 = q.1/\H q.2.1 = some (.tup (p.1.map kV))/\RelV p.2 q.2.2
theorem KT.val {H:Hp} {kvs:List (List Key × V)} {xs:List (List Key × Addr × Value)} (r:KT H kvs xs) (k:List Key):RelO (valV kvs k) ((atKey xs k).map (·.2)):=by
 induction r with
 | nil=>exact True.intro
 | @cons p q ps qs h t ih=>
  obtain ⟨h1,_,h2⟩:=h
  by_cases e:p.1 = k
  ·have e':q.1 = k:=h1.symm.trans e
   have b:atKey (q :: qs) k = some q.2:=by simp [atKey,List.find?_cons,e']
   rw [valV_pos e,b]; exact h2
  ·have e':¬ q.1 = k:=fun z=>e (h1.trans z)
   have b:atKey (q :: qs) k = atKey qs k:=by simp [atKey,List.find?_cons,e']
   rw [valV_neg e,b]; exact ih
theorem KT.repl {H:Hp} {kvs:List (List Key × V)} {xs:List (List Key × Addr × Value)} (r:KT H kvs xs) (k:List Key) {y:V} {u:Value} (ry:RelV y u) :
  KT H (kvs.map fun kv=>if kv.1 = k then (kv.1,y) else kv) (xs.map (putAt k u)):=by
 induction r with
 | nil=>exact .nil
 | @cons p q ps qs h t ih=>
  rw [List.map_cons,List.map_cons]
  refine .cons ?_ ih
  obtain ⟨h1,h2,h3⟩:=h
  unfold putAt
  by_cases e:p.1 = k
  ·rw [if_pos e,if_pos (h1.symm.trans e)]; exact ⟨h1,h2,ry⟩
  ·rw [if_neg e,if_neg (fun z=>e (h1.trans z))]; exact ⟨h1,h2,h3⟩
theorem KT.put {H:Hp} {kvs:List (List Key × V)} {xs:List (List Key × Addr × Value)} (r:KT H kvs xs) (k:List Key) {b:Addr} {y:V} {u:Value} (hb:H b = some (.tup (k.map kV))) (ry:RelV y u) :
  KT H (putK kvs k y) (storedH xs k b u):=by
 have e:(kvs.any fun kv=>decide (kv.1 = k)) = (atKey xs k).isSome:=by
  rw [valV_any,(r.val k).isSome_eq,Option.isSome_map]
 unfold putK storedH
 rw [e]
 by_cases q:(atKey xs k).isSome = true
 ·rw [if_pos q,if_pos q]; exact r.repl k ry
 ·rw [if_neg q,if_neg q]; exact Paired.snoc r ⟨rfl,hb,ry⟩
theorem KT.keeps {H H':Hp} {kvs:List (List Key × V)} {xs:List (List Key × Addr × Value)} (r:KT H kvs xs) (ht:∀ b ys,H b = some (.tup ys)->H' b = some (.tup ys)):KT H' kvs xs:=
 Paired.mapP r fun _ _ z=>⟨z.1,ht _ _ z.2.1,z.2.2⟩
section
variable {P:Program} {w:World} {H:Hp} {h:Heap} {a:Addr}
theorem rd_of {u:HO} (ok:HOk P w H h) (e:Rd H a u):ObjOk P w H h a u:=e.ok ok
theorem dk_rd {kvs:List (Key × V)} (ok:HOk P w H h) (e:Rd H a (.dK kvs)):kvs.length<=sizeLine/\(a == sysModules) = false/\∃ vs,KV kvs vs/\h.DictOf (mixKind P w) a vs:=
 show ObjOk P w H h a (.dK kvs) from rd_of ok e
theorem dk_of {kvs:List (Key × V)} (ok:HOk P w H h) (e:H a = some (.dK kvs)):kvs.length<=sizeLine/\(a == sysModules) = false/\∃ vs,KV kvs vs/\h.DictOf (mixKind P w) a vs:=dk_rd ok (.inl e)
theorem key_of {ks:List Key} (ok:HOk P w H h) (e:H a = some (.tup (ks.map kV))):(tupleKind (mixKind P w)).is h ks a:=by
 obtain ⟨_,its,r,o,h1,h2,n,h3⟩:=(show ObjOk P w H h a (.tup (ks.map kV)) from ok a _ e)
 exact ⟨o,its.toArray,n,h1,h2,h3,by simpa using items_are r⟩
theorem dt_rd {kvs:List (List Key × V)} (ok:HOk P w H h) (e:Rd H a (.dT kvs)):kvs.length<=sizeLine/\(a == sysModules) = false/\
  ∃ xs,KT H kvs xs/\h.DictOfH (tupleKind (mixKind P w)) a xs:=by
 obtain ⟨z,y,xs,r,o,es,ep,h1,h2,h3,h4,h5⟩:=(show ObjOk P w H h a (.dT kvs) from rd_of ok e)
 refine ⟨z,y,xs,r,o,es,ep,h1,h2,h3,h4,fun x hx=>?_,h5⟩
 have all:∀ {l:List (List Key × V)} {m:List (List Key × Addr × Value)},KT H l m->∀ x ∈ m,(tupleKind (mixKind P w)).is h x.1 x.2.1:=by
  intro l m q
  induction q with
  | nil=>intro x hx; exact nomatch hx
  | @cons p q ps qs hq t ih=>
   intro x hx
   rcases List.mem_cons.mp hx with e | hx
   ·subst e
    exact key_of ok (by rw [<- hq.1]; exact hq.2.1)
   ·exact ih x hx
 exact all r x hx
theorem dt_of {kvs:List (List Key × V)} (ok:HOk P w H h) (e:H a = some (.dT kvs)):kvs.length<=sizeLine/\(a == sysModules) = false/\
  ∃ xs,KT H kvs xs/\h.DictOfH (tupleKind (mixKind P w)) a xs:=dt_rd ok (.inl e)
end
noncomputable def DGet (H:Hp) (a:Addr) (y:V) (r:Option V):Prop:=
 (∃ kvs k,Rd H a (.dK kvs)/\y = kV k/\r = valV kvs k)\/∃ kvs k b,Rd H a (.dT kvs)/\y = .ref b/\H b = some (.tup (k.map kV))/\r = valV kvs k
noncomputable def DPut (H:Hp) (a:Addr) (y v:V) (H':Hp):Prop:=
 (∃ kvs k,H a = some (.dK kvs)/\y = kV k/\kvs.length < sizeLine/\H' = upd H a (.dK (putK kvs k v)))\/
 ∃ kvs k b,H a = some (.dT kvs)/\y = .ref b/\H b = some (.tup (k.map kV))/\kvs.length < sizeLine/\H' = upd H a (.dT (putK kvs k v))
theorem DGet.k {H:Hp} {a:Addr} {kvs:List (Key × V)} {k:Key} (e:H a = some (.dK kvs)):DGet H a (kV k) (valV kvs k):=.inl ⟨kvs,k,.inl e,rfl,rfl⟩
theorem DGet.t {H:Hp} {a b:Addr} {kvs:List (List Key × V)} {k:List Key} (e:H a = some (.dT kvs)) (eb:H b = some (.tup (k.map kV))):DGet H a (.ref b) (valV kvs k):=.inr ⟨kvs,k,b,.inl e,rfl,eb,rfl⟩
theorem DPut.k {H:Hp} {a:Addr} {kvs:List (Key × V)} {k:Key} {v:V} (e:H a = some (.dK kvs)) (hl:kvs.length < sizeLine):DPut H a (kV k) v (upd H a (.dK (putK kvs k v))):=.inl ⟨kvs,k,e,rfl,hl,rfl⟩
theorem DPut.t {H:Hp} {a b:Addr} {kvs:List (List Key × V)} {k:List Key} {v:V} (e:H a = some (.dT kvs)) (eb:H b = some (.tup (k.map kV))) (hl:kvs.length < sizeLine) :
  DPut H a (.ref b) v (upd H a (.dT (putK kvs k v))):=.inr ⟨kvs,k,b,e,rfl,eb,hl,rfl⟩
section
variable {X:Cx} {pins:List (Addr × Obj)} {σ:St} {H:Hp} {s:Shared} {a:Addr} {y v:V} {u r:Value} {o:Option V} {A:Around} {E:Value->Shared->Prop}
theorem Inv.big (I:Inv X pins σ H s):sysModules < s.heap.objs.size:=by
 have h:mainGlobals < s.heap.objs.size:=(I.mod.glob.keeps I.bk).lt
 exact Nat.lt_trans (by decide) h
theorem d_getItem {Q:Value->Shared->Prop} (hu:A.units + 1 < cLine) (I:Inv X pins σ H s) (g:DGet H a y (some v)) (ry:RelV y u) (h:∀ w' s',Inv X pins σ H s'->RelV v w'->Q w' s') :
  wpAny (model X.prog X.w) A (getItem (.ref a) u) Q E s:=by
 rcases g with ⟨kvs,k,e,ey,l⟩ | ⟨kvs,k,b,e,ey,eb,l⟩
 ·subst ey
  obtain ⟨z,hd,vs,rel,dd⟩:=dk_rd I.hok e
  obtain ⟨w',hw,rw'⟩:=RelO.some_of (v:=v) (o:=valueAt vs k) (by rw [l]; exact rel.val k)
  exact wpAny_getItem_of (kV_is ry) dd.mapOf hw (h w' _ (I.tok _) rw')
 ·subst ey
  cases (show u = Value.ref b from ry)
  obtain ⟨z,hd,xs,rel,dd⟩:=dt_rd I.hok e
  obtain ⟨w',hw,rw'⟩:=RelO.some_of (v:=v) (o:=(atKey xs k).map (·.2)) (by rw [l]; exact rel.val k)
  obtain ⟨p,hp,hp2⟩:=Option.map_eq_some_iff.mp hw
  refine wpAny_getItem_heap (tupleKind_room_in1 hu) (key_of I.hok eb) dd hp ?_
  rw [hp2]
  exact h w' _ (I.tok _) rw'
theorem d_in {Q:Value->Shared->Prop} (hu:A.units + 1 < cLine) (I:Inv X pins σ H s) (g:DGet H a y o) (ry:RelV y u) (h:∀ s',Inv X pins σ H s'->Q (.bool o.isSome) s') :
  wpAny (model X.prog X.w) A (compareOp .In u (.ref a)) Q E s:=by
 rcases g with ⟨kvs,k,e,ey,l⟩ | ⟨kvs,k,b,e,ey,eb,l⟩
 ·subst ey
  obtain ⟨z,hd,vs,rel,dd⟩:=dk_rd I.hok e
  refine wpAny_in_of (kV_is ry) hd dd.mapOf ?_
  rw [<- (rel.val k).isSome_eq,<- l]
  exact h _ (I.tok _)
 ·subst ey
  cases (show u = Value.ref b from ry)
  obtain ⟨z,hd,xs,rel,dd⟩:=dt_rd I.hok e
  refine wpAny_in_heap (tupleKind_room_in1 hu) (key_of I.hok eb) hd dd ?_
  have q:=(rel.val k).isSome_eq
  rw [Option.isSome_map] at q
  rw [<- q,<- l]
  exact h _ (I.tok _)
theorem d_notIn {Q:Value->Shared->Prop} (hu:A.units + 1 < cLine) (I:Inv X pins σ H s) (g:DGet H a y o) (ry:RelV y u) (h:∀ s',Inv X pins σ H s'->Q (.bool (!o.isSome)) s') :
  wpAny (model X.prog X.w) A (compareOp .NotIn u (.ref a)) Q E s:=by
 rcases g with ⟨kvs,k,e,ey,l⟩ | ⟨kvs,k,b,e,ey,eb,l⟩
 ·subst ey
  obtain ⟨z,hd,vs,rel,dd⟩:=dk_rd I.hok e
  refine wpAny_notIn_of (kV_is ry) hd dd.mapOf ?_
  rw [<- (rel.val k).isSome_eq,<- l]
  exact h _ (I.tok _)
 ·subst ey
  cases (show u = Value.ref b from ry)
  obtain ⟨z,hd,xs,rel,dd⟩:=dt_rd I.hok e
  refine wpAny_notIn_heap (tupleKind_room_in1 hu) (key_of I.hok eb) hd dd ?_
  have q:=(rel.val k).isSome_eq
  rw [Option.isSome_map] at q
  rw [<- q,<- l]
  exact h _ (I.tok _)
theorem d_write {h':Heap} {t':Nat} {ob:HO} (I:Inv X pins σ H s) (mu:Mut (H a)) (hs:Heap.SameBut a s.heap h') (he:∃ q,h'.get? a = some q) (new:ObjOk X.prog X.w (upd H a ob) h' a ob) :
  Inv X pins σ (upd H a ob) { s with heap:=h',toks:=t' }:=
 I.write (x:=a) (e:=a) mu (.inl rfl) (fun b q hb z=>(hs.2 b hb).trans z) he new
theorem dk_new {P:Program} {w:World} {H':Hp} {h':Heap} {kvs:List (Key × V)} {vs:List (Key × Value)} (z:kvs.length<=sizeLine) (hd:(a == sysModules) = false) (rel:KV kvs vs) (dd:h'.DictOf (mixKind P w) a vs) :
  ObjOk P w H' h' a (.dK kvs):=⟨z,hd,vs,rel,dd⟩
theorem d_setItem {H':Hp} {Q:Unit->Shared->Prop} (hu:A.units + 1 < cLine) (I:Inv X pins σ H s) (g:DPut H a y v H') (ry:RelV y u) (rv:RelV v r) (h:∀ s',Inv X pins σ H' s'->Q () s') :
  wpAny (model X.prog X.w) A (setItem (.ref a) u r) Q E s:=by
 rcases g with ⟨kvs,k,e,ey,l,eH⟩ | ⟨kvs,k,b,e,ey,eb,l,eH⟩
 ·subst ey eH
  obtain ⟨z,hd,vs,rel,dd⟩:=dk_of I.hok e
  have hz:vs.length<=sizeLine:=by rw [<- rel.length]; exact z
  have hl:(putK kvs k v).length<=sizeLine:=by have:=length_putK kvs k v; omega
  refine wpAny_setItem_pairs (hsz:=hz) (kV_is ry) dd fun h' dd' hs=>h _ ?_
  have he:∃ q,h'.get? a = some q:=let ⟨q,_,_,hq,_⟩:=dd'; ⟨q,hq⟩
  exact d_write I (by rw [e]; exact True.intro) hs he (dk_new hl hd (rel.put k rv) dd')
 ·subst ey eH
  cases (show u = Value.ref b from ry)
  obtain ⟨z,hd,xs,rel,dd⟩:=dt_of I.hok e
  have hz:xs.length<=sizeLine:=by rw [<- Paired.length rel]; exact z
  have hl:(putK kvs k v).length<=sizeLine:=by have:=length_putK kvs k v; omega
  refine wpAny_setItem_heap (hsz:=hz) (tupleKind_room_in1 hu) (key_of I.hok eb) dd fun h' dd' hs=>h _ ?_
  obtain ⟨q,es,ep,hq,h2,h3,h4,_,h5⟩:=dd'
  refine d_write I (by rw [e]; exact True.intro) hs ⟨q,hq⟩ ⟨hl,hd,_,(rel.put k eb rv).keeps fun c ys ec=>?_,q,es,ep,hq,h2,h3,h4,h5⟩
  rw [upd_ne (ne_of ec e (fun z=>nomatch z))]
  exact ec
end
section
variable {X:Cx} {pins:List (Addr × Obj)} {σ:St} {H:Hp} {s:Shared} {a:Addr} {kvs:List (Key × V)} {k:Key} {u:Value} {A:Around} {E:Value->Shared->Prop}
theorem d_len {Q:Value->Shared->Prop} (I:Inv X pins σ H s) (e:Rd H a (.dK kvs)) (h:∀ t s',Inv X pins σ H s'->Q (.int kvs.length t) s'):wpAny (model X.prog X.w) A (call (.builtin "len") [.ref a]) Q E s:=by
 obtain ⟨z,hd,vs,rel,dd⟩:=dk_rd I.hok e
 refine call_len_dict hd dd (by rw [<- rel.length]; rw [sizeLine_eq] at z; omega) ?_
 rw [<- rel.length]
 exact h _ _ (I.tok _)
end
noncomputable def NoSl (i:Expr):Prop:=∀ ov iv,subscripted i false ov iv = operate [ov,iv] (getItem ov iv)
theorem subD_of {prog:Program} {w:World} {A:Around} {E:Value->Shared->Prop} {s:Shared} {env:Env} {value slice:Expr} {pos:Pos} {T id:String} {Q:Value->Shared->Prop}
  (hl:typeLookup (.type T) "__getitem__" = pure (some (.builtin id))) (hs:NoSl slice)
  (h:wpAny (model prog w) A (eval value env) (fun o s₁=>wpAny (model prog w) A (eval slice env) (fun i s₂=>s₂.TypeIs o T/\wpAny (model prog w) A (getItem o i) Q E s₂) E s₁) E s) :
  wpAny (model prog w) A (eval (.Subscript value slice pos) env) Q E s:=by
 refine Subscript_ (wpAny_mono h (fun o s₁ h₁=>wpAny_mono h₁ (fun i s₂ h₂=>?_) fun _ _ x=>x) fun _ _ x=>x)
 obtain ⟨hT,h₂⟩:=h₂
 unfold subscriptTail
 refine wpAny_bind ?_
 rw [getitemInPython_of_ne hT.not_modules]
 refine wpAny_bind (wpAny_specialOf hT hl ?_)
 have fin:wpAny (model prog w) A (subscripted slice false o i) (fun r s₃=>wpAny (model prog w) A (letTemporaryGo value o r >>= fun _=>pure r) Q E s₃) E s₂:=by
  rw [hs o i]
  exact wpAny_operating (wpAny_mono h₂ (fun r s₃ h₃=>wpAny_bind (wpAny_letTemporaryGo (wpAny_pure h₃))) fun _ _ x=>x)
 first
  | exact wpAny_pure (wpAny_bind fin)
  | exact wpAny_bind (wpAny_pure (wpAny_bind fin))
  | exact wpAny_bind fin
theorem dict_typeIs {X:Cx} {pins:List (Addr × Obj)} {σ:St} {H:Hp} {s:Shared} {a:Addr} {y:V} {o:Option V} (I:Inv X pins σ H s) (g:DGet H a y o):s.TypeIs (.ref a) "dict":=by
 rcases g with ⟨kvs,k,e,_,_⟩ | ⟨kvs,k,b,e,_,_,_⟩
 ·obtain ⟨_,_,vs,_,dd⟩:=dk_rd I.hok e
  exact dd.typeIs
 ·obtain ⟨_,_,xs,_,dd⟩:=dt_rd I.hok e
  exact dd.typeIs
noncomputable def tDGet (td ty:TE):TE:=fun σ H Q=>td σ H fun x H1=>ty σ H1 fun y H2=>∃ a v,x = .ref a/\DGet H2 a y (some v)/\Q v H2
noncomputable def sDPut (td ty tv:TE):TS:=fun D σ H=>tv σ H fun v H1=>td σ H1 fun x H2=>ty σ H2 fun y H3=>∃ a H4,x = .ref a/\DPut H3 a y v H4/\D.nx σ H4
section
variable {X:Cx} {o i e value:Expr} {pos pos' tpos:Pos} {td ty tv:TE}
theorem pe_dget (hu:X.A.units + 1 < cLine) (ho:PE X o td) (hi:PE X i ty) (hs:NoSl i):PE X (.Subscript o i pos) (tDGet td ty):=by
 intro pins s σ H Q I h
 refine subD_of PySem.F.slot_dict_getitem.lookup hs (thn (ho pins s σ H _ I h) fun u s1 ⟨x,H1,I1,rx,q1⟩=>thn (hi pins s1 σ H1 _ I1 q1) fun iv s2 ⟨y,H2,I2,ry,a,v,ex,g,q2⟩=>?_)
 subst ex
 obtain rfl:u = Value.ref a:=rx
 exact ⟨dict_typeIs I2 g,d_getItem hu I2 g ry fun w' s3 I3 rw'=>⟨v,H2,I3,rw',q2⟩⟩
theorem ps_dput (hu:X.A.units + 1 < cLine) (ho:PE X o td) (hi:PE X i ty) (hv:PE X value tv) (hs:swapsWith value (some (.Subscript o i pos')) pos.line X.env = pure false) :
  PS X (.Assign [.Subscript o i pos'] value pos) (sDPut td ty tv):=by
 intro pins s σ H D I h
 refine wpAny_Assign_Subscript (thn (hv pins s σ H _ I h) fun r s1 ⟨v,H1,I1,rv,q1⟩=>thn (ho pins s1 σ H1 _ I1 q1) fun u s2 ⟨x,H2,I2,rx,q2⟩=>thn (hi pins s2 σ H2 _ I2 q2) fun iv s3 ⟨y,H3,I3,ry,a,H4,ex,g,q3⟩=>?_) hs
 subst ex
 obtain rfl:u = Value.ref a:=rx
 exact d_setItem hu I3 g ry rv fun s4 I4=>⟨σ,H4,I4,q3⟩
end
theorem dk_empty {P:Program} {w:World} {H:Hp} (h:Heap) (hb:sysModules < h.objs.size):ObjOk P w H (h.push { cls:=.type "dict",data:=.dict #[] }) h.objs.size (.dK []):=
 ⟨Nat.zero_le _,beq_eq_false_iff_ne.mpr (Ne.symm (Nat.ne_of_lt hb)),[],.nil,Heap.DictOf.new h⟩
theorem dt_empty {P:Program} {w:World} {H:Hp} (h:Heap) (hb:sysModules < h.objs.size):ObjOk P w H (h.push { cls:=.type "dict",data:=.dict #[] }) h.objs.size (.dT []):=
 ⟨Nat.zero_le _,beq_eq_false_iff_ne.mpr (Ne.symm (Nat.ne_of_lt hb)),[],.nil,_,#[],0,Heap.get?_push_size _ rfl,⟨rfl,rfl,rfl⟩,rfl,rfl,List.nodup_nil⟩
noncomputable def tDNewK:TE:=fun _ H Q=>∀ p,H p = none->Q (.ref p) (upd H p (.dK []))
noncomputable def tDNewT:TE:=fun _ H Q=>∀ p,H p = none->Q (.ref p) (upd H p (.dT []))
section
variable {X:Cx} {pos:Pos}
theorem pe_dnewK:PE X (.Dict [] [] pos) tDNewK:=fun pins s σ H Q I h=>
 wpAny_Dict_empty ⟨.ref s.heap.objs.size,_,I.laid (a:=s.heap.objs.size) (o:=.dK []) (t':=s.toks) (fun _ _ q=>Heap.get?_push_of_some _ q) (Nat.le_refl _) (dk_empty s.heap I.big),rfl,h _ (I.hok.fresh (Nat.le_refl _))⟩
theorem pe_dnewT:PE X (.Dict [] [] pos) tDNewT:=fun pins s σ H Q I h=>
 wpAny_Dict_empty ⟨.ref s.heap.objs.size,_,I.laid (a:=s.heap.objs.size) (o:=.dT []) (t':=s.toks) (fun _ _ q=>Heap.get?_push_of_some _ q) (Nat.le_refl _) (dt_empty s.heap I.big),rfl,h _ (I.hok.fresh (Nat.le_refl _))⟩
end
noncomputable def tPairs:List (TE × TE)->St->Hp->(List (V × V)->Hp->Prop)->Prop
 | [],_,H,Q=>Q [] H
 | (tk,tv) :: r,σ,H,Q=>tk σ H fun x H1=>tv σ H1 fun y H2=>tPairs r σ H2 fun ps H3=>Q ((x,y) :: ps) H3
noncomputable abbrev VV:List (V × V)->List (Value × Value)->Prop:=Paired fun p q=>RelV p.1 q.1/\RelV p.2 q.2
noncomputable def PPs (X:Cx) (pos:Pos) (keys:List (Option Expr)) (values:List Expr) (trs:List (TE × TE)):Prop:=
 ∀ (pins:List (Addr × Obj)) (s:Shared) (σ:St) (H:Hp) (Q:List (V × V)->Hp->Prop),Inv X pins σ H s->tPairs trs σ H Q->
  wpAny (model X.prog X.w) X.A (evalPairs (pairTrees keys values X.env pos)) (fun vs s'=>∃ ps H',Inv X pins σ H' s'/\VV ps vs/\Q ps H') X.xe s
theorem pps_nil {X:Cx} {pos:Pos}:PPs X pos [] [] []:=fun pins s σ H Q I h=>pairTrees_nil_walk ⟨[],H,I,.nil,h⟩
theorem pps_cons {X:Cx} {pos:Pos} {k v:Expr} {ks:List (Option Expr)} {vs:List Expr} {tk tv:TE} {trs:List (TE × TE)} (hk:PE X k tk) (hv:PE X v tv) (hr:PPs X pos ks vs trs) :
  PPs X pos (some k :: ks) (v :: vs) ((tk,tv) :: trs):=fun pins s σ H Q I h=>
 pairTrees_cons_walk (thn (hk pins s σ H _ I h) fun u s1 ⟨x,H1,I1,rx,q1⟩=>thn (hv pins s1 σ H1 _ I1 q1) fun w2 s2 ⟨y,H2,I2,ry,q2⟩=>
  thn (hr pins s2 σ H2 _ I2 q2) fun ws s3 ⟨ps,H3,I3,rel,q3⟩=>⟨(x,y) :: ps,H3,I3,.cons ⟨rx,ry⟩ rel,q3⟩)
noncomputable def mergeK (kvs more:List (Key × V)):List (Key × V):=more.foldl (fun acc kv=>putK acc kv.1 kv.2) kvs
theorem KV.merge:∀ {more:List (Key × V)} {rs:List (Key × Value)} {kvs:List (Key × V)} {vs:List (Key × Value)},KV more rs->KV kvs vs->KV (mergeK kvs more) (merged vs rs):=by
 intro more rs kvs vs r
 unfold KV at r
 induction r generalizing kvs vs with
 | nil=>intro q; exact q
 | @cons p q ps qs h t ih=>
  intro r0
  have e:KV (putK kvs p.1 p.2) (stored vs q.1 q.2):=by
   have:=r0.put p.1 h.2
   rw [<- h.1]; exact this
  exact ih e
theorem length_mergeK:∀ (more kvs:List (Key × V)),(mergeK kvs more).length<=kvs.length + more.length
 | [],kvs=>by show kvs.length<=kvs.length + 0; omega
 | p :: r,kvs=>by
  have h1:=length_mergeK r (putK kvs p.1 p.2)
  have h2:=length_putK kvs p.1 p.2
  show (mergeK (putK kvs p.1 p.2) r).length<=_
  rw [List.length_cons]; omega
theorem carries_of {P:Program} {w:World}:∀ {kvs:List (Key × V)} {ws:List (Value × Value)},VV (kvs.map fun kv=>(kV kv.1,kv.2)) ws->∃ rs,Carries (mixKind P w) ws rs/\KV kvs rs
 | [],_,r=>by rw [List.map_nil] at r; cases r; exact ⟨[],True.intro,.nil⟩
 | p :: kvs,_,r=>by
  rw [List.map_cons] at r
  cases r with
  | @cons a b as bs h t=>
   obtain ⟨rs,c,q⟩:=carries_of (P:=P) (w:=w) t
   obtain ⟨b1,b2⟩:=b
   exact ⟨(p.1,b2) :: rs,⟨kV_is h.1,rfl,c⟩,.cons ⟨rfl,h.2⟩ q⟩
noncomputable def tDisp (trs:List (TE × TE)):TE:=fun σ H Q=>∀ p,H p = none->tPairs trs σ (upd H p (.dK [])) fun ps H2=>H2 p = some (.dK [])/\∃ kvs:List (Key × V),ps = kvs.map (fun kv=>(kV kv.1,kv.2))/\kvs.length<=15/\Q (.ref p) (upd H2 p (.dK (mergeK [] kvs)))
theorem pe_disp {X:Cx} {pos:Pos} {keys:List (Option Expr)} {values:List Expr} {trs:List (TE × TE)} (h:PPs X pos keys values trs) (hall:keys.all (·.isSome) = true) (hl:keys.length = values.length) (h0:keys ≠ [])
  (h15:keys.length<=15):PE X (.Dict keys values pos) (tDisp trs):=by
 intro pins s σ H Q I q
 have hn:=I.hok.fresh (Nat.le_refl s.heap.objs.size)
 have I1:=I.laid (a:=s.heap.objs.size) (o:=.dK []) (h':=s.heap.push { cls:=.type "dict",data:=.dict #[] }) (t':=s.toks) (fun _ _ q=>Heap.get?_push_of_some _ q) (Nat.le_refl _) (dk_empty s.heap I.big)
 refine wpAny_Dict_walk (knd:=mixKind X.prog X.w) hall hl h0 h15 (thn (h pins _ σ _ _ I1 (q _ hn)) fun ws s2 ⟨ps,H2,I2,rel,e,kvs,ep,lk,q2⟩=>?_)
 subst ep
 obtain ⟨rs,c,rk⟩:=carries_of (P:=X.prog) (w:=X.w) rel
 obtain ⟨z,hd,vs0,r0,dd⟩:=dk_of I2.hok e
 cases r0
 refine ⟨rs,c,dd,fun h' dd' hs=>⟨.ref s.heap.objs.size,_,?_,rfl,q2⟩⟩
 have hz:(mergeK [] kvs).length<=sizeLine:=by
  have h1:=length_mergeK kvs []
  rw [List.length_nil] at h1
  rw [sizeLine_eq]; omega
 have he:∃ q,h'.get? s.heap.objs.size = some q:=let ⟨q,_,_,hq,_⟩:=dd'; ⟨q,hq⟩
 exact d_write I2 (by rw [e]; exact True.intro) hs he (dk_new hz hd (rk.merge .nil) dd')
structure M1 (X:Cx) (o:Expr) (m:Str) (apos:Pos) (e:Expr) (cpos:Pos):Prop where
 base:attributeBase o m X.env (eval o X.env) = eval o X.env
 few:((backTo cpos (starEach [e] X.env)).all (fun x=>!x.1) && (backToKw cpos (keywordEach [] X.env)).all (fun x=>x.1.isSome)
  && decide (([e]:List Expr).length + ([]:List Keyword).length + (if ([]:List Keyword).isEmpty then 0 else 1) < 30)) = true
 line:(apos.endLine == cpos.line) = true
 trees:backTo cpos (starEach [e] X.env) = [(false,eval e X.env)]
structure M2 (X:Cx) (o:Expr) (m:Str) (apos:Pos) (e f:Expr) (cpos:Pos):Prop where
 base:attributeBase o m X.env (eval o X.env) = eval o X.env
 few:((backTo cpos (starEach [e,f] X.env)).all (fun x=>!x.1) && (backToKw cpos (keywordEach [] X.env)).all (fun x=>x.1.isSome)
  && decide (([e,f]:List Expr).length + ([]:List Keyword).length + (if ([]:List Keyword).isEmpty then 0 else 1) < 30)) = true
 line:(apos.endLine == cpos.line) = true
 trees:backTo cpos (starEach [e,f] X.env) = [(false,eval e X.env),(false,eval f X.env)]
section
variable {X:Cx} {pins:List (Addr × Obj)} {σ:St} {H:Hp} {s:Shared} {a:Addr} {y d:V} {u r:Value} {o:Option V} {A:Around} {E:Value->Shared->Prop}
end
section
variable {X:Cx} {o e f:Expr} {apos cpos:Pos} {td ty tx:TE}
end
section
variable {X:Cx} {pins:List (Addr × Obj)} {σ:St} {H:Hp} {s:Shared} {a:Addr} {kvs:List (Key × V)} {A:Around} {E:Value->Shared->Prop}
end
section
variable {X:Cx} {pins:List (Addr × Obj)} {σ:St} {H:Hp} {s:Shared} {a:Addr} {y:V} {u:Value} {A:Around} {E:Value->Shared->Prop}
end
end L2
namespace L2
open PySem PySem.Spec PyProof.Rows
noncomputable def clOf (cells:List (Str × Addr)):List (Str × NameKind)->List (Str × Addr)->List (Str × Addr)
 | [],acc=>acc
 | (n,k) :: r,acc=>clOf cells r (if k = .free then (match cells.lookup n with | some c=>(n,c) :: acc | none=>acc) else acc)
theorem clOf_sub {cells:List (Str × Addr)}:∀ {names:List (Str × NameKind)} {acc:List (Str × Addr)},(∀ x c,acc.lookup x = some c->cells.lookup x = some c)->
  ∀ x c,(clOf cells names acc).lookup x = some c->cells.lookup x = some c
 | [],_,h=>h
 | (n,k) :: r,acc,h=>by
  unfold clOf
  refine clOf_sub (names:=r) fun x c=>?_
  split
  ·cases e:cells.lookup n with
   | none=>exact h x c
   | some d=>
    dsimp only
    intro q
    rw [List.lookup_cons] at q
    cases hx:x == n with
    | true=>
     rw [hx] at q
     have:x = n:=by simpa using hx
     subst this
     cases q
     exact e
    | false=>
     rw [hx] at q
     exact h x c q
  ·exact h x c
theorem clOf_keep {cells:List (Str × Addr)}:∀ {names:List (Str × NameKind)} {acc:List (Str × Addr)} {x:Str},(∃ c,acc.lookup x = some c)->∃ c,(clOf cells names acc).lookup x = some c
 | [],_,_,h=>h
 | (n,k) :: r,acc,x,h=>by
  unfold clOf
  refine clOf_keep (names:=r) ?_
  split
  ·cases e:cells.lookup n with
   | none=>exact h
   | some d=>
    dsimp only
    rw [List.lookup_cons]
    cases x == n with
    | true=>exact ⟨d,rfl⟩
    | false=>exact h
  ·exact h
theorem clOf_has {cells:List (Str × Addr)}:∀ {names:List (Str × NameKind)} {acc:List (Str × Addr)} {x:Str},(x,NameKind.free) ∈ names->(∃ c,cells.lookup x = some c)->∃ c,(clOf cells names acc).lookup x = some c
 | (n,k) :: r,acc,x,h,hc=>by
  unfold clOf
  rcases List.mem_cons.mp h with e | h
  ·cases e
   obtain ⟨c,hc⟩:=hc
   refine clOf_keep ⟨c,?_⟩
   rw [if_pos rfl,hc]
   simp
  ·exact clOf_has h hc
theorem closureFor_is {scope:Scope} {env:Env} (h:∀ y ∈ scope.names,y.2 = .free->∃ c,env.cells.lookup y.1 = some c):closureFor scope env = pure (clOf env.cells scope.names []):=by
 have key:∀ (names:List (Str × NameKind)) (acc:List (Str × Addr)),(∀ y ∈ names,y.2 = .free->∃ c,env.cells.lookup y.1 = some c)->
   (forIn names acc fun (x:Str × NameKind) (r:List (Str × Addr))=>(match x with | (name,kind)=>if (kind == .free) = true then do let a <- cellOf env name; pure (ForInStep.yield ((name,a) :: r)) else pure (ForInStep.yield r):Sem (ForInStep (List (Str × Addr))))) = pure (clOf env.cells names acc):=by
  intro names
  induction names with
  | nil=>intro acc _; rfl
  | cons y r ih=>
   intro acc hh
   obtain ⟨n,k⟩:=y
   rw [List.forIn_cons]
   dsimp only
   by_cases hk:k = .free
   ·obtain ⟨c,hc⟩:=hh (n,k) List.mem_cons_self hk
    subst hk
    have e:cellOf env n = pure c:=by unfold cellOf; rw [hc]
    rw [e]
    simp only [beq_self_eq_true,if_true,pure_bind]
    rw [ih _ fun y hy=>hh y (List.mem_cons_of_mem _ hy)]
    conv=>rhs; unfold clOf
    rw [if_pos rfl]
    have hc':env.cells.lookup n = some c:=hc
    rw [hc']
   ·have e:(k == NameKind.free) = false:=by simpa using hk
    rw [e]
    simp only [Bool.false_eq_true,if_false,pure_bind]
    rw [ih _ fun y hy=>hh y (List.mem_cons_of_mem _ hy)]
    conv=>rhs; unfold clOf
    rw [if_neg hk]
 unfold closureFor
 exact (congrArg (fun m=>m >>= fun r=>pure r) (key scope.names [] h)).trans (by simp)
theorem cellsFrom_app:∀ (names:List (Str × NameKind)) (n:Nat) (acc:List (Str × Addr)),cellsFrom n names acc = cellsFrom n names [] ++ acc
 | [],n,acc=>rfl
 | (x,k) :: r,n,acc=>by
  unfold cellsFrom
  split
  ·rw [cellsFrom_app r (n + 1) ((x,n) :: acc),cellsFrom_app r (n + 1) [(x,n)],List.append_assoc]; rfl
  ·exact cellsFrom_app r n acc
theorem cf_at {x:Str} {c:Addr}:∀ {names:List (Str × NameKind)} {n:Nat} {acc:List (Str × Addr)},(cellsFrom n names acc).lookup x = some c->((x,NameKind.cell) ∈ names/\n<=c)\/acc.lookup x = some c
 | [],_,_,h=>.inr h
 | (y,k) :: r,n,acc,h=>by
  unfold cellsFrom at h
  split at h
  ·rename_i hk
   have hk:k = .cell:=by simpa using hk
   subst hk
   rcases cf_at h with ⟨h1,h2⟩ | h1
   ·exact .inl ⟨List.mem_cons_of_mem _ h1,Nat.le_of_succ_le h2⟩
   ·rw [List.lookup_cons] at h1
    cases hx:x == y with
    | true=>
     rw [hx] at h1
     have:x = y:=by simpa using hx
     subst this
     cases h1
     exact .inl ⟨List.mem_cons_self,Nat.le_refl _⟩
    | false=>rw [hx] at h1; exact .inr h1
  ·rcases cf_at h with ⟨h1,h2⟩ | h1
   ·exact .inl ⟨List.mem_cons_of_mem _ h1,h2⟩
   ·exact .inr h1
theorem cf_off {x:Str}:∀ {names:List (Str × NameKind)} {n:Nat} {acc:List (Str × Addr)},(x,NameKind.cell) ∉ names->(cellsFrom n names acc).lookup x = acc.lookup x
 | [],_,_,_=>rfl
 | (y,k) :: r,n,acc,h=>by
  unfold cellsFrom
  have hr:(x,NameKind.cell) ∉ r:=fun z=>h (List.mem_cons_of_mem _ z)
  split
  ·rename_i hk
   have hk:k = .cell:=by simpa using hk
   subst hk
   rw [cf_off hr,List.lookup_cons]
   have:(x == y) = false:=by
    have:x ≠ y:=fun z=>h (by rw [z]; exact List.mem_cons_self)
    simpa using this
   rw [this]
  ·exact cf_off hr
theorem cf_has {x:Str}:∀ {names:List (Str × NameKind)} {n:Nat} {acc:List (Str × Addr)},((x,NameKind.cell) ∈ names\/∃ c,acc.lookup x = some c)->∃ c,(cellsFrom n names acc).lookup x = some c
 | [],_,_,h=>by
  rcases h with h | h
  ·simp at h
  ·exact h
 | (y,k) :: r,n,acc,h=>by
  unfold cellsFrom
  split
  ·rename_i hk
   have hk:k = .cell:=by simpa using hk
   subst hk
   refine cf_has ?_
   by_cases hx:x = y
   ·subst hx
    exact .inr ⟨n,by rw [List.lookup_cons]; simp⟩
   ·have e:(x == y) = false:=by simpa using hx
    rcases h with h | h
    ·rcases List.mem_cons.mp h with z | z
     ·exact absurd (by cases z; rfl) hx
     ·exact .inl z
    ·exact .inr (by rw [List.lookup_cons,e]; exact h)
  ·rename_i hk
   refine cf_has ?_
   rcases h with h | h
   ·rcases List.mem_cons.mp h with z | z
    ·exact absurd (by cases z; rfl) hk
    ·exact .inl z
   ·exact .inr h
theorem cf_new {x:Str} {m:Nat}:∀ {names:List (Str × NameKind)} {n:Nat} {acc:List (Str × Addr)},((x,NameKind.cell) ∈ names\/∀ c,acc.lookup x = some c->m<=c)->m<=n->∀ c,(cellsFrom n names acc).lookup x = some c->m<=c
 | [],_,_,h,_,c,e=>by
  rcases h with h | h
  ·simp at h
  ·exact h c e
 | (y,k) :: r,n,acc,h,hm,c,e=>by
  unfold cellsFrom at e
  split at e
  ·rename_i hk
   have hk:k = .cell:=by simpa using hk
   subst hk
   refine cf_new ?_ (Nat.le_succ_of_le hm) c e
   by_cases hx:x = y
   ·subst hx
    refine .inr fun c e=>?_
    rw [List.lookup_cons] at e
    simp at e
    exact e ▸ hm
   ·have e2:(x == y) = false:=by simpa using hx
    rcases h with h | h
    ·rcases List.mem_cons.mp h with z | z
     ·exact absurd (by cases z; rfl) hx
     ·exact .inl z
    ·exact .inr (by intro c e; rw [List.lookup_cons,e2] at e; exact h c e)
  ·rename_i hk
   refine cf_new ?_ hm c e
   rcases h with h | h
   ·rcases List.mem_cons.mp h with z | z
    ·exact absurd (by cases z; rfl) hk
    ·exact .inl z
   ·exact .inr h
theorem cf_inj:∀ {names:List (Str × NameKind)} {n:Nat} {acc:List (Str × Addr)},(∀ x c,acc.lookup x = some c->c < n)->(∀ x y c,acc.lookup x = some c->acc.lookup y = some c->x = y)->∀ x y c,(cellsFrom n names acc).lookup x = some c->(cellsFrom n names acc).lookup y = some c->x = y
 | [],_,_,_,h=>h
 | (z,k) :: r,n,acc,hb,h=>by
  unfold cellsFrom
  split
  ·refine cf_inj (fun x c e=>?_) fun x y c e1 e2=>?_
   ·rw [List.lookup_cons] at e
    cases hx:x == z with
    | true=>rw [hx] at e; cases e; exact Nat.lt_succ_self _
    | false=>rw [hx] at e; exact Nat.lt_succ_of_lt (hb x c e)
   ·rw [List.lookup_cons] at e1 e2
    cases hx:x == z with
    | true=>
     rw [hx] at e1; cases e1
     cases hy:y == z with
     | true=>rw [(by simpa using hx:x = z),(by simpa using hy:y = z)]
     | false=>rw [hy] at e2; exact absurd (hb y _ e2) (Nat.lt_irrefl _)
    | false=>
     rw [hx] at e1
     cases hy:y == z with
     | true=>rw [hy] at e2; cases e2; exact absurd (hb x _ e1) (Nat.lt_irrefl _)
     | false=>rw [hy] at e2; exact h x y c e1 e2
  ·exact cf_inj hb h
noncomputable def clN (cells:List (Str × Addr)) (names:List (Str × NameKind)) (C:Addr):List (Str × Addr):=cellsFrom (C + 1) names (clOf cells names [])
theorem clN_at {cells:List (Str × Addr)} {names:List (Str × NameKind)} {C:Addr} {x:Str} {c:Addr} (h:(clN cells names C).lookup x = some c):C + 1<=c\/cells.lookup x = some c:=by
 rcases cf_at h with h | h
 ·exact .inl h.2
 ·exact .inr (clOf_sub (fun _ _ z=>by cases z) x c h)
theorem wpAny_newEnvC {M:Model} {A:Around} {E:Value->Shared->Prop} {s:Shared} {scope:Scope} {globals:Addr} {cl:List (Str × Addr)} {qual:Str} {outer:Env} {Q:Env->Shared->Prop}
  (hQ:Q (newEnv scope s.heap.objs.size globals (cellsFrom (s.heap.objs.size + 1) scope.names cl) qual none .none (some outer) builtinsNs) { s with heap:=pushCells (s.heap.push { cls:=.type "dict",data:=.dict #[] }) scope.names }) :
  wpAny M A (newFunctionEnv scope globals cl [] qual none .none (some outer)) Q E s:=by
 simp only [newFunctionEnv,Option.isSome_some,if_true]
 refine wpAny_bind (wpAny_alloc ?_)
 refine wpAny_bind (wpAny_layCells _ (fun name kind cells=>by cases hkc:kind == NameKind.cell <;> simp [hkc]) _ _ _ _ ?_)
 rw [show ({ s with heap:=s.heap.push { cls:=.type "dict",data:=.dict #[] } }:Shared).heap.objs.size = s.heap.objs.size + 1 from Heap.size_push ..]
 rw [List.forIn_nil]
 exact wpAny_bind (wpAny_pure (wpAny_pure hQ))
noncomputable def compX (X:Cx) (N':List Str) (scope:Scope) (C:Addr) (s:Shared) (H:Hp) (ex:List Addr):Cx where
 prog:=X.prog
 w:=X.w
 K:=X.K
 mg:=X.mg
 base:=X.base
 A:=X.A
 N:=N'
 s₀:=s
 H₀:=H
 env:=compEnvC scope (clN X.env.cells scope.names C) C X.env
 outer:=X.stack
 stack:=X.stack
 ex:=ex
 fn:=fun x=>scope.names.lookup x == some .cell
 calm:=X.calm
 pn:=[]
 xe:=fun _ _=>False
theorem lookup_mem {α β:Type} [BEq α] [LawfulBEq α]:∀ {l:List (α × β)} {x:α} {y:β},l.lookup x = some y->(x,y) ∈ l
 | (a,b) :: r,x,y,h=>by
  rw [List.lookup_cons] at h
  cases e:x == a with
  | true=>
   rw [e] at h
   have:x = a:=by simpa using e
   subst this
   cases h
   exact List.mem_cons_self
  | false=>
   rw [e] at h
   exact List.mem_cons_of_mem _ (lookup_mem h)
theorem lookup_relabel {scope:Scope} {env:Env} {x:Str} (h:(relabel scope env).names.lookup x = some .cell\/(relabel scope env).names.lookup x = some .free):(x,NameKind.cell) ∈ scope.names\/(x,NameKind.free) ∈ scope.names:=by
 have key:∀ k,(k = NameKind.cell\/k = NameKind.free)->(x,k) ∈ (relabel scope env).names->(x,NameKind.cell) ∈ scope.names\/(x,NameKind.free) ∈ scope.names:=fun k hk hm=>by
  obtain ⟨⟨n,k'⟩,hy,e⟩:=List.mem_map.mp hm
  dsimp only at e
  split at e
  ·rename_i q
   have:k' = NameKind.free:=by
    simp only [Bool.and_eq_true,beq_iff_eq] at q
    exact q.1.1
   subst this
   cases e
   exact .inr hy
  ·cases e
   rcases hk with rfl | rfl
   ·exact .inl hy
   ·exact .inr hy
 rcases h with h | h
 ·exact key _ (.inl rfl) (lookup_mem h)
 ·exact key _ (.inr rfl) (lookup_mem h)
section
variable {X:Cx} {pins:List (Addr × Obj)} {σ:St} {H:Hp} {s:Shared}
theorem compX_ok (I:Inv X pins σ H s) {fp:List Addr} {N':List Str} {scope:Scope} {C:Addr} (hf:∀ b ∈ fp,FpOk X pins H b) (hfo:∀ b ∈ fp,b < s.heap.objs.size) (hkind:scope.kind = .function) (hC:s.heap.objs.size<=C)
  (hfree:∀ y ∈ scope.names,y.2 = .free->X.env.kindOf y.1 = some .cell\/X.env.kindOf y.1 = some .free):(compX X N' scope C s H fp).Ok where
 mod:=I.ok.mod
 kind:=hkind
 glob:=I.ok.glob
 blt:=I.ok.blt
 above:=hC
 inj:=cf_inj (fun x c h=>by
   obtain ⟨v,o,g,_⟩:=I.cell x c (clOf_sub (fun _ _ z=>by cases z) x c h)
   exact Nat.lt_succ_of_lt (Nat.lt_of_lt_of_le (Heap.lt_size g) hC)) fun x y c h1 h2=>I.ok.inj x y c (clOf_sub (fun _ _ z=>by cases z) x c h1) (clOf_sub (fun _ _ z=>by cases z) y c h2)
 has:=fun x hx=>by
  rcases lookup_relabel hx with m | m
  ·exact cf_has (.inl m)
  ·exact cf_has (.inr (clOf_has m (I.ok.has x (hfree _ m rfl))))
 cab:=fun x c h e=>by
  have h:scope.names.lookup x = some .cell:=by simpa [compX] using h
  exact Nat.le_trans hC (Nat.le_of_succ_le (cf_new (.inl (lookup_mem h)) (Nat.le_refl _) c e))
 hd:=I.ok.hd
 frames:=I.ok.frames
 stk:=.inl rfl
 exf:=fun b hb=>⟨Nat.ne_of_lt (Nat.lt_of_lt_of_le (hfo b hb) hC),fun x c h=>by
  rcases clN_at h with h | h
  ·exact Nat.ne_of_gt (Nat.lt_of_lt_of_le (Nat.lt_succ_of_lt (Nat.lt_of_lt_of_le (hfo b hb) hC)) h)
  ·exact (hf b hb).2.2.2.2.1 x c h⟩
 bs:=I.bs
 bsz:=Nat.le_trans I.ok.bsz I.sz
 noex:=fun b o e hb=>by
  obtain ⟨_,_,_,h,_⟩:=hf b hb
  rcases h with h | h
  ·exact I.ok.noex b o e h
  ·exact absurd (Nat.lt_of_lt_of_le (Heap.lt_size e) (Nat.le_trans I.ok.bsz h)) (Nat.lt_irrefl _)
 exfs:=fun b hb hz=>by
  obtain ⟨_,h1,h2,_⟩:=hf b hb
  rcases List.mem_cons.mp (I.stkSub b hz) with e | e
  ·exact h1 e
  ·exact h2 e
 funs:=I.stack
 frf:=I.stkFree
noncomputable def capSt (σ:St) (cap:List (Option Nat)):St:=cap.map fun o=>o.bind fun i=>(σ[i]?).join
structure CompOk (X:Cx) (N':List Str) (scope:Scope) (cap:List (Option Nat)):Prop where
 kind:scope.kind = .function
 cell:∀ y ∈ scope.names,y.2 = .cell->scope.names.lookup y.1 = some .cell
 names:∀ y ∈ scope.names,y.2 = .local->scope.names.lookup y.1 = some .local
 free:∀ y ∈ scope.names,y.2 = .free->X.env.kindOf y.1 = some .cell\/X.env.kindOf y.1 = some .free
 len:cap.length = N'.length
 cap:∀ (j i:Nat) (x:Str),N'[j]? = some x->cap[j]? = some (some i)->X.N[i]? = some x/\scope.names.lookup x = some .free/\(X.env.kindOf x = some .cell\/X.env.kindOf x = some .free)
theorem relabel_free {scope:Scope} {env:Env} {x:Str}:∀ {names:List (Str × NameKind)},names.lookup x = some .free->
  (names.map fun (n,k)=>if (k == NameKind.free && env.scope.kind == .function && env.kindOf n == some .cell) then (n,NameKind.cell) else (n,k)).lookup x = some .cell\/
  (names.map fun (n,k)=>if (k == NameKind.free && env.scope.kind == .function && env.kindOf n == some .cell) then (n,NameKind.cell) else (n,k)).lookup x = some .free
 | (n,k) :: r,h=>by
  have ih:=@relabel_free scope env x r
  show List.lookup x ((if (k == NameKind.free && env.scope.kind == .function && env.kindOf n == some .cell) = true then (n,NameKind.cell) else (n,k)) :: _) = _\/List.lookup x ((if (k == NameKind.free && env.scope.kind == .function && env.kindOf n == some .cell) = true then (n,NameKind.cell) else (n,k)) :: _) = _
  cases hx:x == n with
  | true=>
   simp only [List.lookup_cons,hx] at h
   cases h
   by_cases hc:(NameKind.free == NameKind.free && env.scope.kind == .function && env.kindOf n == some .cell) = true
   ·rw [if_pos hc]; left; simp only [List.lookup_cons,hx]
   ·rw [if_neg hc]; right; simp only [List.lookup_cons,hx]
  | false=>
   simp only [List.lookup_cons,hx] at h
   by_cases hc:(k == NameKind.free && env.scope.kind == .function && env.kindOf n == some .cell) = true
   ·rw [if_pos hc]; simp only [List.lookup_cons,hx]; exact ih h
   ·rw [if_neg hc]; simp only [List.lookup_cons,hx]; exact ih h
theorem inv_comp (I:Inv X pins σ H s) {fp:List Addr} {N':List Str} {scope:Scope} {cap:List (Option Nat)} {C D:Addr} {h₁:Heap} {tk n:Nat} {m:Str->Option Value} (O:CompOk X N' scope cap) (hf:∀ b ∈ fp,FpOk X pins H b) (hfo:∀ b ∈ fp,b < s.heap.objs.size)
  (hC:s.heap.objs.size<=C) (hD:s.heap.objs.size<=D) (hDC:D < C) (hcs:∀ x c,(cellsFrom (C + 1) scope.names []).lookup x = some c->h₁.IsCell c none) (hn:h₁.Ns C m) (old:∀ b o,s.heap.get? b = some o->h₁.get? b = some o)
  (new:h₁.get? D = some { cls:=.type "list",data:=.seq ([]:List Value).toArray n }) :
  Inv (compX X N' scope C s H fp) [] (capSt σ cap) (upd H D (.lst [])) { s with heap:=h₁,toks:=tk }:=by
 have sub:∀ x c,(clOf X.env.cells scope.names []).lookup x = some c->X.env.cells.lookup x = some c:=clOf_sub (fun _ _ z=>by cases z)
 have offc:∀ x,scope.names.lookup x = some .free->(clN X.env.cells scope.names C).lookup x = (clOf X.env.cells scope.names []).lookup x:=fun x h=>cf_off fun z=>by
  have:=O.cell _ z rfl
  rw [h] at this
  cases this
 refine ⟨compX_ok I hf hfo O.kind hC O.free,rfl,I.bare,Un.laid old hD (I.hok.fresh hD),⟨m,hn,fun j x v h1 h2 h3=>?_⟩,fun x c e=>?_,?_,fun x c e=>?_,fun p hp=>absurd hp (by simp [compX]),I.hok.laid old hD ⟨Nat.zero_le _,[],n,.nil,new⟩,?_⟩
 ·have h2':(capSt σ cap)[j]? = some (some v):=h2
  unfold capSt at h2'
  rw [List.getElem?_map] at h2'
  cases hc:cap[j]? with
  | none=>rw [hc] at h2'; cases h2'
  | some o=>
   rw [hc] at h2'
   cases o with
   | none=>cases h2'
   | some i=>
    have hv:(σ[i]?).join = some v:=by simpa using h2'
    have hv2:σ[i]? = some (some v):=by
     cases q:σ[i]? with
     | none=>rw [q] at hv; cases hv
     | some z=>rw [q] at hv; have:z = some v:=hv; rw [this]
    obtain ⟨c1,c2,c3⟩:=O.cap j i x h1 hc
    obtain ⟨mo,hno,hl⟩:=I.loc
    have vis:Vis X.env.scope x:=c3.elim (fun z=>.inr (.inl z)) fun z=>.inr (.inr z)
    obtain ⟨u,ru,l⟩:=hl i x v c1 hv2 vis
    refine ⟨u,ru,?_⟩
    rcases l with ⟨k,_⟩ | ⟨_,c,ec,ic⟩
    ·rcases c3 with z | z
     ·rw [z] at k; cases k
     ·rw [z] at k; cases k
    ·obtain ⟨c',ec'⟩:=clOf_has (cells:=X.env.cells) (acc:=[]) (lookup_mem c2) ⟨c,ec⟩
     have e2:=sub x c' ec'
     rw [ec] at e2
     cases e2
     obtain ⟨oc,hoc,hdc⟩:=ic
     exact .inr ⟨relabel_free (scope:=scope) c2,c,(offc x c2).trans ec',oc,old _ _ hoc,hdc⟩
 ·have e:(clN X.env.cells scope.names C).lookup x = some c:=e
  unfold clN at e
  rw [cellsFrom_app,List.lookup_append] at e
  cases q:(cellsFrom (C + 1) scope.names []).lookup x with
  | some c'=>
   rw [q] at e
   cases e
   exact ⟨none,hcs x _ q⟩
  | none=>
   rw [q] at e
   obtain ⟨v,oc,hoc,hdc⟩:=I.cell x c (sub x c e)
   exact ⟨v,oc,old _ _ hoc,hdc⟩
 ·rw [show (compX X N' scope C s H fp).env.locals = C from rfl,upd_ne (Ne.symm (Nat.ne_of_lt hDC))]
  exact I.hok.fresh hC
 ·rcases clN_at e with e' | e'
  ·rw [upd_ne (Nat.ne_of_gt (Nat.lt_trans hDC e'))]
   exact I.hok.fresh (Nat.le_trans hC (Nat.le_of_succ_le e'))
  ·obtain ⟨v,oc,hoc,hdc⟩:=I.cell x c e'
   rw [upd_ne (Nat.ne_of_lt (Nat.lt_of_lt_of_le (Heap.lt_size hoc) hD))]
   exact I.freeC x c e'
 ·show (capSt σ cap).length = N'.length
  unfold capSt
  rw [List.length_map,O.len]
theorem inv_back (I:Inv X pins σ H s) {fp:List Addr} {N':List Str} {scope:Scope} {C:Addr} {σ':St} {H':Hp} {s':Shared} {h':Heap} (hf:∀ b ∈ fp,FpOk X pins H b) (J:Inv (compX X N' scope C s H fp) [] σ' H' s') (hsb:Heap.SameBut C s'.heap h') :
  Inv X pins σ H' { s' with heap:=h' }:=by
 have hC:s.heap.objs.size<=C:=J.ok.above
 have neC:∀ b o,s.heap.get? b = some o->b ≠ C:=fun b o e=>Nat.ne_of_lt (Nat.lt_of_lt_of_le (Heap.lt_size e) hC)
 have U:Un (frs X.stack) fp H H' s.heap s'.heap:=J.base
 refine I.call' (s':={ s' with heap:=h' }) (ch:=fp) (J.os) ⟨fun b o e n h1 h2=>?_,fun b o e n h1 h2=>?_,U.free,fun b o e h2=>?_,U.tups,U.frzs,U.tbls⟩ (fun b o e=>?_) J.bare fun b hb=>?_
 ·exact (hsb.2 b (neC b o e)).trans (U.keep b o e n h1 h2)
 ·obtain ⟨sl,q⟩:=U.slot b o e n h1 h2
  exact ⟨sl,(hsb.2 b (neC b o e)).trans q⟩
 ·obtain ⟨o',q⟩:=U.there b o e h2
  exact ⟨o',(hsb.2 b (neC b o e)).trans q⟩
 ·have fr:H' C = none:=J.free
  refine (J.hok b o e).stay (fun c v hc q=>(hsb.2 c ?_).trans q) (fun _ q=>q) fun _ _ q=>q
  rintro rfl
  rcases hc with rfl | hc
  ·rw [fr] at e; cases e
  ·rw [fr] at hc; cases hc
 ·obtain ⟨h0,h1,h2,h3,h4,h5⟩:=hf b hb
  exact ⟨h3,h1,h4,h5⟩
theorem compLoop_any {prog:Program} {w:World} {A:Around} {R:Result->Shared->Prop} {s:Shared} {elt target iter:Expr} {ifs:List Expr} {scope:Scope} {pos:Pos} {it acc:Value} {env:Env} (I:Nat->Shared->Prop)
  (turn:∀ n s,I n s->wpAny (model prog w) A (pyNext it) (fun r s₁=>match r with
   | none=>R (.ok .next) s₁
   | some v=>wpAny (model prog w) A (letOwnedTupleGo target it v) (fun _ s₁'=>wpAny (model prog w) A (assign target env v) (fun _ s₂=>
     wpAny (model prog w) A (forIn ifs true fun c r=>if r = true then do let ok <- isTrue c env (eval c env); pure (ForInStep.yield ok) else pure (ForInStep.yield r)) (fun ok s₃=>
      if ok = true then wpAny (model prog w) A (eval elt env) (fun x s₄=>
       wpAny (model prog w) A (call (.builtin "list.append") [acc,x]) (fun _ s₅=>∃ m,m < n/\I m s₅) (fun _ _=>False) s₄) (fun _ _=>False) s₃
      else ∃ m,m < n/\I m s₃) (fun _ _=>False) s₂) (fun _ _=>False) s₁') (fun _ _=>False) s₁) (fun _ _=>False) s)
  (n:Nat) (h:I n s) :
  codeAny (model prog w) A (.compLoop (.ListComp elt [⟨target,iter,ifs,0⟩] scope pos) 0 it acc env) R s:=by
 refine codeAny_loop rfl I (fun n s hI=>?_) n h
 show wpAny _ A ((compTurn (.ListComp elt [⟨target,iter,ifs,0⟩] scope pos) 0 it acc env).onRaise (fun x=>do noteFrame x env; theTreesLotGoes x)) _ _ s
 refine wpAny_noted ?_
 rw [compTurn_list]
 refine wpAny_bind (wpAny_standAt (wpAny_bind (wpAny_mono (turn n s hI) (fun r s₁ h₁=>?_) fun _ _ h'=>h'.elim)))
 cases r with
 | none=>exact wpAny_pure h₁
 | some v=>
  refine wpAny_bind (wpAny_mono h₁ (fun _ s₁' h₁'=>?_) fun _ _ h'=>h'.elim)
  refine wpAny_bind (wpAny_mono h₁' (fun _ s₂ h₂=>wpAny_bind (wpAny_mono h₂ (fun ok s₃ h₃=>?_) fun _ _ h'=>h'.elim)) fun _ _ h'=>h'.elim)
  cases ok with
  | false=>exact wpAny_pure ⟨rfl,h₃⟩
  | true=>
   exact wpAny_bind (wpAny_bind (wpAny_mono h₃ (fun x s₄ h₄=>wpAny_bind (wpAny_mono h₄ (fun _ s₅ h₅=>wpAny_pure (wpAny_pure ⟨rfl,h₅⟩)) fun _ _ h'=>h'.elim)) fun _ _ h'=>h'.elim))
end
end L2
namespace L2
open PySem PySem.Spec PyProof.Rows
section
variable {X:Cx} {pins:List (Addr × Obj)} {σ:List (Option V)} {H:Hp} {s:Shared} {h':Heap}
theorem Inv.junk {C:Addr} (I:Inv X pins σ H s) (hs:Heap.SameBut C s.heap h') (h0:X.s₀.heap.objs.size<=C) (hL:X.env.locals ≠ C) (hc:∀ x c,X.env.cells.lookup x = some c->c ≠ C) (hp:∀ p ∈ X.pn ++ pins,p.1 ≠ C) (hH:H C = none):Inv X pins σ H { s with heap:=h' }:=by
 have ne:∀ b o,X.s₀.heap.get? b = some o->b ≠ C:=fun b o e=>Nat.ne_of_lt (Nat.lt_of_lt_of_le (Heap.lt_size e) h0)
 obtain ⟨m,hn,hl⟩:=id I.loc
 refine ⟨I.ok,I.os,I.bare,⟨fun b o e n hb hx=>?_,fun b o e n hb hx=>?_,I.base.free,fun b o e hx=>?_,I.base.tups,I.base.frzs,I.base.tbls⟩,⟨m,hn.sameBut hs hL,fun j y v' e1 e2 e3=>?_⟩,fun y c e=>?_,I.free,I.freeC,fun p hpp=>?_,fun b ob e=>?_,I.len⟩
 ·exact (hs.2 b (ne b o e)).trans (I.base.keep b o e n hb hx)
 ·obtain ⟨sl,e1⟩:=I.base.slot b o e n hb hx
  exact ⟨sl,(hs.2 b (ne b o e)).trans e1⟩
 ·obtain ⟨o',e1⟩:=I.base.there b o e hx
  exact ⟨o',(hs.2 b (ne b o e)).trans e1⟩
 ·obtain ⟨u',r',q⟩:=hl j y v' e1 e2 e3
  refine ⟨u',r',?_⟩
  rcases q with ⟨k,e⟩ | ⟨k,c,e,z⟩
  ·exact .inl ⟨k,e⟩
  ·refine .inr ⟨k,c,e,?_⟩
   obtain ⟨o,g,d⟩:=z
   exact ⟨o,(hs.2 c (hc y c e)).trans g,d⟩
 ·obtain ⟨v,o,g,d⟩:=I.cell y c e
  exact ⟨v,o,(hs.2 c (hc y c e)).trans g,d⟩
 ·obtain ⟨g,r⟩:=I.pin p hpp
  exact ⟨(hs.2 _ (hp p hpp)).trans g,r⟩
 ·refine (I.hok b ob e).stay (fun c w' hcc q=>(hs.2 c ?_).trans q) (fun _ q=>q) fun _ _ q=>q
  rintro rfl
  rcases hcc with rfl | hcc
  ·rw [hH] at e; cases e
  ·rw [hH] at hcc; cases hcc
noncomputable def gLst (K:PySem.W.Frag) (n:Nat) (t:TGs):TG:=fun v σ H Q=>∃ a xs,v = .ref a/\SqL K H a xs/\xs.length = n/\t xs σ H Q
theorem pg_lst {es:List Expr} {k:Nat} {t:TGs} {n:Nat} {pos:Pos} (hc:X.calm = true) (h:PGs X es t)
  (hn:(assignEach es X.env).length = n) (hst:(assignEach es X.env).findIdx? (·.1) = none):PG X (.Tuple es k pos) (gLst X.K n t):=by
 intro pins s σ H v u Q I r hw
 obtain ⟨a,xs,e1,hq,hl,hw⟩:=hw
 subst e1
 cases r
 obtain ⟨its,rv,ht,hz⟩:=I.list hq
 rw [assign_Tuple]
 refine wpAny_bind (wpAny_standAt ?_)
 unfold unpack
 rw [hst,show (assignEach es X.env).length = its.toArray.size by rw [hn,<- hl,rv.length,List.size_toArray]]
 refine wpAny_bind (wpAny_holding (PySem.W.kun_itemsOf (I.ok.hd hc) ht.isList fun h' hx=>?_))
 have I1:Inv X pins σ H { s with heap:=h' }:=I.kept (t':=s.toks) fun b o e=>hx b o (Nat.ne_of_lt (Heap.lt_size e)) e
 exact h pins _ σ H xs _ Q I1 (by simpa using rv) hw
end
end L2
namespace G
open PySem PySem.Spec PyProof.Rows L2
inductive D where
 | non | bl (b:Bool) | int (i:Int) | str (x:Str) | lst (xs:List D) | tup (xs:List D) | scr (ns:List Int) | dic (ks:List Key) (vs:List D)
noncomputable def KnL (K:PySem.W.Frag) (a:Addr) (xs:List V):Prop:=
 ∃ (o:Obj) (its:Array Value) (n:Nat),K.lookup a = some o/\o.cls = .type "list"/\o.dict = none/\o.data = .seq its n/\its.size<=sizeLine/\Vals xs its.toList
mutual
noncomputable def Rp (K:PySem.W.Frag) (H:Hp) (S:List Addr):D->V->Prop
 | .non,v=>v = .non
 | .bl b,v=>v = .bl b
 | .int i,v=>v = .int i
 | .str x,v=>v = .str x
 | .lst ds,v=>∃ a xs,v = .ref a/\a ∉ S/\H a = some (.lst xs)/\RpL K H S ds xs
 | .tup ds,v=>∃ a xs,v = .ref a/\a ∉ S/\H a = some (.tup xs)/\RpL K H S ds xs
 | .scr ns,v=>∃ a,v = .ref a/\((a ∉ S/\Rd H a (.lst (ns.map V.int)))\/KnL K a (ns.map V.int))
 | .dic ks vs,v=>∃ a kvs,v = .ref a/\a ∉ S/\H a = some (.dK kvs)/\kvs.map (·.1) = ks/\RpL K H S vs (kvs.map (·.2))
noncomputable def RpL (K:PySem.W.Frag) (H:Hp) (S:List Addr):List D->List V->Prop
 | [],xs=>xs = []
 | d :: ds,xs=>∃ y ys,xs = y :: ys/\Rp K H S d y/\RpL K H S ds ys
end
section
variable {K:PySem.W.Frag} {H H':Hp} {S S':List Addr}
end
inductive Kd where
 | sh | fr | bo
 deriving DecidableEq
noncomputable def VR (K:PySem.W.Frag) (H0 H:Hp) (S:List Addr):Kd->D->V->Prop
 | .sh,d,v=>Rp K H S d v
 | .fr,.lst ds,v=>∃ a xs,v = .ref a/\H0 a = none/\H a = some (.lst xs)/\RpL K H (a :: S) ds xs
 | .bo,.lst ds,v=>∃ a xs,v = .ref a/\H a = some (.lst xs)/\RpL K H S ds xs
 | _,_,_=>False
section
variable {K:PySem.W.Frag} {H0 H H':Hp} {S:List Addr}
end
end G
namespace G
open PySem PySem.Spec PyProof.Rows L2
section
variable {X:Cx}
section
variable {pins:List (Addr × Obj)} {s:Shared} {σ:L2.St} {H:Hp}
end
end
noncomputable def Ite (K:PySem.W.Frag) (a:Addr):It:=
 ⟨fun i H=>∃ xs x,SqL K H a xs/\xs[i]? = some x,fun i H x H'=>∃ p v,H p = none/\H' = upd H p (.tup [.int i,v])/\x = .ref p/\∀ xs,SqL K H a xs->xs[i]? = some v,fun i H=>∃ xs,SqL K H a xs/\xs.length<=i⟩
theorem turn_enum {P:Program} {w:World} {K:PySem.W.Frag} {es:List Expr} {kk:Nat} {tp:Pos} (a e it:Addr) (hne:e ≠ it):Turn P w K (.Tuple es kk tp) (Ite K a) [e,it] e (fun i h=>(∃ old,IsEnum h e it ((i:Nat):Int) old)/\h.IsListIter it a i) where
 mem:=by simp
 obj:=fun i h st b hb=>by
  obtain ⟨⟨old,h1⟩,o,h2,h3,h4⟩:=st
  rcases List.mem_cons.mp hb with rfl | hb
  ·exact ⟨_,h1,fun v z=>by
    have z':Data.fields _ = Data.cell v:=z
    cases z'⟩
  ·have:b = it:=by simpa using hb
   subst this
   exact ⟨o,h2,fun v z=>by rw [h4] at z; cases z⟩
 keep:=fun i h h' st k=>by
  obtain ⟨⟨old,h1⟩,h2⟩:=st
  exact ⟨⟨old,k e (by simp) _ h1⟩,h2.at fun o q=>k it (by simp) o q⟩
 item:=by
  intro X hP hw hK hc i pins s σ H E I hf st hg
  subst hP hw hK
  obtain ⟨⟨old,he⟩,hit⟩:=st
  obtain ⟨xs,x,hq,hx⟩:=hg
  obtain ⟨its,rv,p,hz⟩:=I.list hq
  obtain ⟨u,hu,ru⟩:=rv.get hx
  obtain ⟨f0,f1,f2,f3,f4,f5⟩:=hf e (by simp)
  obtain ⟨g0,g1,g2,g3,g4,g5⟩:=hf it (by simp)
  have hes:=Heap.lt_size he
  refine wpAny_pyNext_enum_item he hit p.isList (x:=u) (by simpa using hu) hne fun h1 ho hit1 ht hs1 kk1=>?_
  refine ⟨_,rfl,wpAny_letOwnedTupleGo_enum ho fun h2 he2 sb2=>?_⟩
  have sb2':Heap.SameBut e h1 h2:=sb2
  have step1:∀ b o,b ≠ e->b ≠ it->s.heap.get? b = some o->h2.get? b = some o:=fun b o n1 n2 q=>(sb2'.2 b n1).trans (kk1 b o n1 n2 q)
  have fr:=I.hok.fresh (Nat.le_refl s.heap.objs.size)
  have htup:h2.get? s.heap.objs.size = some { cls:=.type "tuple",data:=.seq #[.int i s.toks,u] }:=(sb2'.2 _ (Nat.ne_of_gt hes)).trans ht
  have I1:Inv X pins σ (upd H s.heap.objs.size (.tup [.int i,x])) { s with heap:=h2,toks:=s.toks + 1 }:=by
   have nit:∀ b o,H b = some o->b ≠ e/\b ≠ it:=fun b o q=>⟨(fun z=>by rw [z,f0] at q; cases q),(fun z=>by rw [z,g0] at q; cases q)⟩
   have hok':HOk X.prog X.w (upd H s.heap.objs.size (.tup [.int i,x])) h2:=fun b o q=>by
    by_cases hb:b = s.heap.objs.size
    ·subst hb
     rw [upd_same] at q
     cases q
     exact ⟨(by show 2<=sizeLine; decide),[.int i s.toks,u],.cons ⟨_,rfl⟩ (.cons ru .nil),_,htup,rfl,_,rfl⟩
    ·rw [upd_ne hb] at q
     refine (I.hok b o q).stay (fun c v hc' q'=>step1 c v ?_ ?_ q') (fun c q'=>by rw [upd_ne (ne_of_none q' fr)]; exact q') fun c ys q'=>by rw [upd_ne (ne_of_none q' fr)]; exact q'
     ·rcases hc' with rfl | hc'
      ·exact (nit _ _ q).1
      ·exact (nit _ _ hc').1
     ·rcases hc' with rfl | hc'
      ·exact (nit _ _ q).2
      ·exact (nit _ _ hc').2
   refine I.step (g':=s.gens) (d':=s.drawn) (t':=s.toks + 1) (ch:=[e,it]) (fun b hb=>?_) (fun b o _ _ hcx q _=>step1 b o (fun z=>hcx (by simp [z])) (fun z=>hcx (by simp [z])) q)
    (fun b o _ _ hcx q _=>⟨o.slots,step1 b o (fun z=>hcx (by simp [z])) (fun z=>hcx (by simp [z])) q⟩) (fun b o hcx q n=>by rw [upd_ne (Nat.ne_of_lt (Heap.lt_size q))]; exact n)
    (fun b o hcx q=>⟨o,step1 b o (fun z=>hcx (by simp [z])) (fun z=>hcx (by simp [z])) q⟩) (fun b ys q=>by rw [upd_ne (ne_of_none q fr)]; exact q) (fun b o z q=>by rw [upd_ne (ne_of_none q fr)]; exact q)
    (fun b ps q=>⟨#[],by rw [upd_ne (ne_of_none q fr),q]; simp⟩) (fun m hm=>?_) hok' I.bare
   ·rcases List.mem_cons.mp hb with rfl | hb
    ·exact ⟨f3,f1,f4,f5⟩
    ·have:b = it:=by simpa using hb
     subst this
     exact ⟨g3,g1,g4,g5⟩
   ·obtain ⟨o,es',ep,ho',r'⟩:=hm
    exact ⟨o,es',ep,step1 _ o (Ne.symm f1) (Ne.symm g1) ho',r'⟩
  refine ⟨.ref s.heap.objs.size,_,I1,rfl,⟨s.heap.objs.size,x,fr,rfl,rfl,fun ys hy=>by rw [I.list_inj hy hq]; exact hx⟩,⟨⟨u,by
    have:(((i + 1:Nat):Int)) = (i:Int) + 1:=by omega
    rw [this]; exact he2⟩,hit1.extBut sb2'.extBut (Ne.symm hne)⟩,fun b hb=>?_⟩
  have hb0:=(hf b hb).1
  have hlt:b < s.heap.objs.size:=by
   rcases List.mem_cons.mp hb with rfl | hb
   ·exact hes
   ·have:b = it:=by simpa using hb
    subst this
    obtain ⟨o,q,_⟩:=hit
    exact Heap.lt_size q
  rw [upd_ne (Nat.ne_of_lt hlt)]
  exact hb0
 done:=by
  intro X hP hw hK hc i pins s σ H E I hf st hg
  subst hP hw hK
  obtain ⟨⟨old,he⟩,hit⟩:=st
  obtain ⟨xs,hq,hx⟩:=hg
  obtain ⟨its,rv,p,hz⟩:=I.list hq
  obtain ⟨f0,f1,f2,f3,f4,f5⟩:=hf it (by simp)
  have hl:=rv.length
  exact wpAny_pyNext_enum_end (I.ok.hd hc) he hit p.isList (by simp; omega) fun h' eb=>⟨rfl,I.turned (t':=s.toks) (fun b o hb q=>eb b o hb q) f0 f1 f3 f4 f5⟩
 self:=fun _ _ _ _ _ st h=>let ⟨_,q⟩:=st.1; wpAny_pyIter_enum q h
section
variable {X:Cx}
noncomputable def iEnum (K:PySem.W.Frag) (ta:TA):TI:=fun σ H R=>ta σ H fun vs H1=>∃ a,vs = [.ref a]/\(∃ xs,SqL K H1 a xs)/\R (Ite K a) H1
theorem pi_enum {a:Expr} {ta:TA} {p pos:Pos} {es:List Expr} {kk:Nat} {tp:Pos} (hg:Gl X "enumerate") (hm:X.mg "enumerate" = none) (ha:PA X [a] ta) (hs:starEach [a] X.env = [(false,eval a X.env)]) :
  PI X (.Tuple es kk tp) (.Call (.Name "enumerate" p) [a] [] pos) (iEnum X.K ta):=by
 intro pins s σ H R I h
 refine Call_ (ld_blt I hg hm boot_enumerate (PyProof.Rows.callWith_type1 (thn (ha pos pins s σ H _ I h) fun us s1 ⟨vs,H1,I1,r1,q1⟩=>?_) hs rfl))
 obtain ⟨l,e,⟨xs,hq⟩,q⟩:=q1
 subst e
 obtain ⟨u,rfl,rx⟩:=vals1 r1
 cases rx
 obtain ⟨its,rv,pl,hz⟩:=I1.list hq
 refine call_enumerate_list pl.isList fun h' he hit hsz hk=>?_
 refine wpAny_pyIter_enum (s:={ s1 with heap:=h' }) he ?_
 have I2:Inv X pins σ H1 { s1 with heap:=h' }:=I1.kept (t':=s1.toks) hk
 refine ⟨s1.heap.objs.size + 1,[s1.heap.objs.size + 1,s1.heap.objs.size],_,_,H1,rfl,I2,turn_enum l _ _ (Nat.ne_of_gt (Nat.lt_succ_self _)),⟨⟨_,he⟩,hit⟩,fun b hb=>?_,q⟩
 have hb':s1.heap.objs.size<=b:=by
  rcases List.mem_cons.mp hb with rfl | hb
  ·exact Nat.le_succ _
  ·have:b = s1.heap.objs.size:=by simpa using hb
   rw [this]; exact Nat.le_refl _
 exact I1.fpOk hb' (I1.hok.fresh hb')
end
end G
namespace G
open PySem PySem.Spec PyProof.Rows L2
section
variable {X:Cx}
end
end G
namespace G
open PySem PySem.Spec PyProof.Rows L2
section
variable {X:Cx}
end
end G
namespace G
open PySem PySem.Spec PyProof.Rows L2
end G
namespace G
open PySem PySem.Spec PyProof.Rows L2
section
variable {X:Cx}
end
end G
namespace G
open PySem PySem.Spec PyProof.Rows L2
section
variable {X:Cx}
end
end G
namespace L2
open PySem PySem.Spec PyProof.Rows
section
variable {X:Cx} {pins:List (Addr × Obj)} {σ:St} {H:Hp} {s:Shared}
noncomputable def tCompF (wi:TI) (g:TG) (tt:TT) (te:TE) (cap:List (Option Nat)):TE:=fun σ H Q=>wi σ H fun J H1=>∀ D,H1 D = none->∃ W:Nat->Nat->St->Hp->Prop,(∃ m,W 0 m (capSt σ cap) (upd H1 D (.lst [])))/\∀ i m σ' H',W i m σ' H'->
 (J.stop i H'/\Q (.ref D) H')\/(J.go i H'/\∀ x H2,J.yld i H' x H2->g x σ' H2 fun σ2 H3=>tt σ2 H3 fun ok H3=>if ok = true then te σ2 H3 fun y H4=>∃ ys,H4 D = some (.lst ys)/\ys.length < sizeLine/\∃ m',m' < m/\W (i + 1) m' σ2 (upd H4 D (.lst (ys ++ [y]))) else ∃ m',m' < m/\W (i + 1) m' σ2 H3)
noncomputable def PTs (X:Cx) (ifs:List Expr) (tt:TT):Prop:=∀ (pins:List (Addr × Obj)) (s:Shared) (σ:St) (H:Hp) (Q:Bool->Hp->Prop),Inv X pins σ H s->tt σ H Q->
 wpAny (model X.prog X.w) X.A (forIn ifs true fun c r=>if r = true then do let ok <- isTrue c X.env (eval c X.env); pure (ForInStep.yield ok) else pure (ForInStep.yield r)) (TP X pins σ Q) X.xe s
theorem pts_nil {X:Cx}:PTs X [] (fun _ H Q=>Q true H):=fun pins s σ H Q I h=>wpAny_tests_nil ⟨H,I,h⟩
theorem pts_one {X:Cx} {c:Expr} {t:TT} (h:PT X c t):PTs X [c] t:=fun pins s σ H Q I q=>wpAny_tests_one (h pins s σ H Q I q)
theorem compF_run {ifs:List Expr} {tt:TT} {tg elt iter:Expr} {scope:Scope} {pos cpos:Pos} {N':List Str} {cap:List (Option Nat)} {wi:TI} {g:TG} {te:TE} {use:Option (Value->Sem Unit)} {E:Value->Shared->Prop} {Q':Value->Shared->Prop} (hc:X.calm = true) (O:CompOk X N' scope cap)
  (hi:PI X tg iter wi) (hg:∀ C s H ex,PG (compX X N' scope C s H ex) tg g) (ht:∀ C s H ex,PTs (compX X N' scope C s H ex) ifs tt) (he:∀ C s H ex,PE (compX X N' scope C s H ex) elt te) {Q:VK} (I:Inv X pins σ H s) (h:tCompF wi g tt te cap σ H Q)
  (hs:∀ x,foldedSetIterable iter X.env x = pure x) (hX:X.xe = E)
  (hQ:∀ (C D:Addr) (s1:Shared) (H1:Hp) (fp:List Addr) (σ':St) (H':Hp) (s':Shared),Inv X pins σ H1 s1->(∀ b ∈ fp,FpOk X pins H1 b)->Inv (compX X N' scope C s1 H1 fp) [] σ' H' s'->Q (.ref D) H'->
   compPost (model X.prog X.w) X.A E use Q' (.ref D) C (.ok .next) s') :
  wpAny (model X.prog X.w) X.A (comprehension (.ListComp elt [⟨tg,iter,ifs,0⟩] scope pos) scope X.env cpos (newList []) false (eval iter X.env) use) Q' E s:=by
 have hcl:closureFor scope X.env = pure (clOf X.env.cells scope.names []):=closureFor_is fun y hy e=>I.ok.has _ (O.free y hy e)
 refine wpAny_comprehension_free (g:=⟨tg,iter,ifs,0⟩) (gs:=[]) rfl hs hcl O.kind O.names ?_
 subst hX
 refine thn (hi pins s σ H _ I h) fun v s1 h1=>thn h1 fun itv s2 h2=>?_
 obtain ⟨it,fp,tn,J,H2,e,I2,T,st2,f2,hW⟩:=h2
 subst e
 refine wpAny_newObj_type (wpAny_newEnvC ?_)
 dsimp only
 generalize hH2:s2.heap.push { cls:=.type "list",dict:=none,data:=.seq ([]:List Value).toArray } = HH
 have hCs:HH.objs.size = s2.heap.objs.size + 1:=by rw [<- hH2,Heap.size_push]
 have hDC:s2.heap.objs.size < HH.objs.size:=by rw [hCs]; exact Nat.lt_succ_self _
 generalize hh1:pushCells (HH.push { cls:=.type "dict",data:=.dict #[] }) scope.names = h₁
 have kp:∀ b o,HH.get? b = some o->h₁.get? b = some o:=fun b o e=>hh1 ▸ pushCells_keeps _ _ b o (Heap.get?_push_of_some _ e)
 have hns₁:h₁.Ns HH.objs.size fun _=>none:=hh1 ▸ (Heap.Ns.new HH (.type "dict")).keeps (pushCells_keeps _ _)
 have hcs:∀ x c,(cellsFrom (HH.objs.size + 1) scope.names []).lookup x = some c->h₁.IsCell c none:=fun x c e=>by
  have ok:=cellsFrom_ok scope.names (HH.push { cls:=.type "dict",data:=.dict #[] }) 0 [] ⟨fun _ _ hm=>(nomatch hm),List.Pairwise.nil⟩ (Nat.zero_le _)
  rw [Heap.size_push] at ok
  exact hh1 ▸ (ok.empty x c (lookup_mem e)).1
 have old:∀ b o,s2.heap.get? b = some o->h₁.get? b = some o:=fun b o e=>kp b o (hH2 ▸ Heap.get?_push_of_some _ e)
 have new:h₁.get? s2.heap.objs.size = some { cls:=.type "list",data:=.seq ([]:List Value).toArray }:=kp _ _ (hH2 ▸ Heap.get?_push_size _ rfl)
 have hfo:∀ b ∈ fp,b < s2.heap.objs.size:=fun b hb=>let ⟨o,e,_⟩:=T.obj 0 _ st2 b hb; Heap.lt_size e
 have hfree:=I2.hok.fresh (Nat.le_refl s2.heap.objs.size)
 obtain ⟨W,⟨m0,w0⟩,turn⟩:=hW s2.heap.objs.size hfree
 have J0:=inv_comp (tk:=s2.toks) I2 O f2 hfo (C:=HH.objs.size) (D:=s2.heap.objs.size) (by rw [hCs]; exact Nat.le_succ _) (Nat.le_refl _) hDC hcs hns₁ old new
 have st0:tn 0 h₁:=T.keep 0 _ _ st2 fun b _ o e=>old b o e
 have fr0:∀ b ∈ fp,(upd H2 s2.heap.objs.size (.lst [])) b = none:=fun b hb=>by
  rw [upd_ne (Nat.ne_of_lt (hfo b hb))]
  exact (f2 b hb).1
 have stat:∀ {H':Hp},(∀ b ∈ fp,H' b = none)->∀ b ∈ fp,FpOk (compX X N' scope HH.objs.size s2 H2 fp) [] H' b:=fun hn b hb=>
  ⟨hn b hb,(J0.ok.exf b hb).1,J0.ok.exfs b hb,.inl hb,(J0.ok.exf b hb).2,fun p hp=>absurd hp (by simp [compX])⟩
 have loop:codeAny (model X.prog X.w) X.A (.compLoop (.ListComp elt [⟨tg,iter,ifs,0⟩] scope pos) 0 (.ref it) (.ref s2.heap.objs.size) (compEnvC scope (clN X.env.cells scope.names HH.objs.size) HH.objs.size X.env))
   (compPost (model X.prog X.w) X.A X.xe use Q' (.ref s2.heap.objs.size) HH.objs.size) { s2 with heap:=h₁,toks:=s2.toks }:=by
  refine compLoop_any (fun n s'=>∃ i σ' H',Inv (compX X N' scope HH.objs.size s2 H2 fp) [] σ' H' s'/\tn i s'.heap/\(∀ b ∈ fp,H' b = none)/\W i n σ' H') ?_ m0 ⟨0,_,_,J0,st0,fr0,w0⟩
  rintro n s3 ⟨i,σ3,H3,I3,st3,fr3,w3⟩
  rcases turn i n σ3 H3 w3 with ⟨stop,qn⟩ | ⟨go,step⟩
  ·refine thn (T.done (compX X N' scope HH.objs.size s2 H2 fp) rfl rfl rfl hc i [] s3 σ3 H3 _ I3 (stat fr3) st3 stop) fun r s4 ⟨hr,I4⟩=>?_
   subst hr
   exact hQ _ _ s2 H2 fp σ3 H3 s4 I2 f2 I4 qn
  ·refine thn (T.item (compX X N' scope HH.objs.size s2 H2 fp) rfl rfl rfl hc i [] s3 σ3 H3 _ I3 (stat fr3) st3 go) fun r s4 ⟨u,hr,h4⟩=>?_
   subst hr
   refine thn h4 fun _ s5 ⟨x,H5,I5,r5,y5,st5,fr5⟩=>?_
   have I5':=I5.pinned (stat fr5) (T.obj _ _ st5)
   refine thn (hg _ _ _ _ _ s5 σ3 H5 x u _ I5' r5 (step x H5 y5)) fun _ s6 ⟨σ6,H6,I6,q6⟩=>?_
   refine thn (ht _ _ _ _ _ s6 σ6 H6 _ I6 q6) fun ok s6' ⟨H6',I6',q6'⟩=>?_
   cases ok with
   | false=>
    rw [if_neg Bool.false_ne_true] at q6' ⊢
    obtain ⟨m',hm,w7⟩:=q6'
    refine ⟨m',hm,i + 1,σ6,_,I6'.unpinned,T.keep _ _ _ st5 fun b hb o e=>(I6'.pin (b,o) (List.mem_append_right _ (List.mem_append_right _ (mem_pinsAt hb e)))).1,fun b hb=>?_,w7⟩
    obtain ⟨o,e,d⟩:=T.obj _ _ st5 b hb
    exact (I6'.pin (b,o) (List.mem_append_right _ (List.mem_append_right _ (mem_pinsAt hb e)))).2.1
   | true=>
   rw [if_pos rfl] at q6' ⊢
   refine thn (he _ _ _ _ _ s6' σ6 H6' _ I6' q6') fun yv s7 ⟨y,H7,I7,r7,ys,hD,hz,m',hm,w7⟩=>?_
   refine thn (mt_append _ s7 σ6 H7 (.ref s2.heap.objs.size) [y] (.ref s2.heap.objs.size) [yv] (fun v H'=>v = .non/\H' = upd H7 s2.heap.objs.size (.lst (ys ++ [y]))) I7 rfl (.cons r7 .nil) ⟨_,ys,y,rfl,rfl,hD,hz,rfl,rfl⟩) fun _ s8 ⟨_,H8,I8,_,_,e8⟩=>?_
   subst e8
   refine ⟨m',hm,i + 1,σ6,_,I8.unpinned,T.keep _ _ _ st5 fun b hb o e=>(I8.pin (b,o) (List.mem_append_right _ (List.mem_append_right _ (mem_pinsAt hb e)))).1,fun b hb=>?_,w7⟩
   obtain ⟨o,e,d⟩:=T.obj _ _ st5 b hb
   exact (I8.pin (b,o) (List.mem_append_right _ (List.mem_append_right _ (mem_pinsAt hb e)))).2.1
 exact codeAny_compStart_list loop (T.self _ 0 _ _ _ st0 loop)
theorem pe_compF {ifs:List Expr} {tt:TT} {tg elt iter:Expr} {scope:Scope} {pos:Pos} {N':List Str} {cap:List (Option Nat)} {wi:TI} {g:TG} {te:TE} (hc:X.calm = true) (O:CompOk X N' scope cap)
  (hi:PI X tg iter wi) (hg:∀ C s H ex,PG (compX X N' scope C s H ex) tg g) (ht:∀ C s H ex,PTs (compX X N' scope C s H ex) ifs tt) (he:∀ C s H ex,PE (compX X N' scope C s H ex) elt te)
  (hs:∀ x,foldedSetIterable iter X.env x = pure x:=by intro _; rfl):PE X (.ListComp elt [⟨tg,iter,ifs,0⟩] scope pos) (tCompF wi g tt te cap):=by
 intro pins s σ H Q I h
 rw [eval_ListComp]
 refine compF_run (use:=none) (Q':=EP X pins σ Q) hc O hi hg ht he I h hs rfl fun C D s1 H1 fp σ' H' s' I1 f1 J q=>?_
 obtain ⟨m,hn,_⟩:=J.loc
 exact ⟨m,hn,fun h' hsb=>⟨.ref D,H',inv_back I1 f1 J hsb,rfl,q⟩⟩
theorem ps_setCF {ifs:List Expr} {tt:TT} {tg elt iter:Expr} {scope:Scope} {cpos pos' pos:Pos} {N':List Str} {cap:List (Option Nat)} {wi:TI} {g:TG} {te:TE} {i:Nat} {x:Str} (hc:X.calm = true) (O:CompOk X N' scope cap)
  (hi:PI X tg iter wi) (hg:∀ C s H ex,PG (compX X N' scope C s H ex) tg g) (ht:∀ C s H ex,PTs (compX X N' scope C s H ex) ifs tt) (he:∀ C s H ex,PE (compX X N' scope C s H ex) elt te) (hs:∀ x,foldedSetIterable iter X.env x = pure x)
  (hN:X.N.Nodup) (hix:X.N[i]? = some x) (hx:Loc X.env.scope x) (hf:X.fn x = true\/X.env.scope.names.lookup x = some .local)
  (hsw:swapsWith (.ListComp elt [⟨tg,iter,ifs,0⟩] scope cpos) (some (.Name x pos')) pos.line X.env = pure true) :
  PS X (.Assign [.Name x pos'] (.ListComp elt [⟨tg,iter,ifs,0⟩] scope cpos) pos) (tAsg (tCompF wi g tt te cap) (gName i)):=by
 intro pins s σ H D I h
 rw [exec_Assign_Name_used _ _ _ _ hsw]
 refine wpAny_bind (wpAny_standAt (wpAny_bind ?_))
 show wpAny _ _ (do let _ <- comprehension (.ListComp elt [⟨tg,iter,ifs,0⟩] scope cpos) scope X.env _ (newList []) false (eval iter X.env) (some (assign (.Name x pos') X.env))) _ _ s
 refine wpAny_bind (wpAny_mono (compF_run (use:=some (assign (.Name x pos') X.env)) (Q':=fun _ s'=>∃ σ' H',Inv X pins σ' H' s'/\D.nx σ' H') hc O hi hg ht he I h hs rfl fun C D1 s1 H1 fp σ' H' s' I1 f1 J q=>?_) (fun _ s' hq=>wpAny_pure (wpAny_pure hq)) fun _ _ e=>e)
 show wpAny _ _ (assign (.Name x pos') X.env (.ref D1)) _ _ s'
 have I2:Inv X pins σ H' s':=inv_back I1 f1 J (Heap.SameBut.refl C s'.heap)
 have hC:s1.heap.objs.size<=C:=J.ok.above
 have old:∀ b o,s1.heap.get? b = some o->b ≠ C:=fun b o e=>Nat.ne_of_lt (Nat.lt_of_lt_of_le (Heap.lt_size e) hC)
 obtain ⟨m1,⟨oL,_,_,gL,_⟩,_⟩:=id I1.loc
 have hL:X.env.locals ≠ C:=old _ _ gL
 have hcl:∀ x c,X.env.cells.lookup x = some c->c ≠ C:=fun x c e=>by
  obtain ⟨v,o,g,_⟩:=I1.cell x c e
  exact old _ _ g
 have hpn:∀ p ∈ X.pn ++ pins,p.1 ≠ C:=fun p hp=>old _ _ (I1.pin p hp).1
 have h0:X.s₀.heap.objs.size<=C:=by
  refine Nat.le_trans ?_ hC
  exact Nat.le_of_lt (Nat.lt_of_le_of_lt I1.ok.above (Heap.lt_size gL))
 obtain ⟨m,hn,_⟩:=J.loc
 refine wpAny_assign_Name (store_ok2 I2 hN hix hx (v:=.ref D1) rfl (fun s3 I3 hsb=>?_) hf)
 obtain ⟨a,hsb,ha⟩:=hsb
 have hCa:C ≠ a:=by
  rcases ha with rfl | ha
  ·exact Ne.symm hL
  ·exact Ne.symm (hcl _ _ ha)
 exact ⟨m,hn.sameBut hsb hCa,fun h' hs'=>⟨_,H',I3.junk hs' h0 hL hcl hpn J.free,q⟩⟩
end
end L2
set_option autoImplicit false
namespace J
open PySem PySem.Spec PyProof.Rows L2
noncomputable abbrev DK:=Key ⊕ List Key
inductive Hd where
 | lst | tup | dic (t:Nat) (ks:List DK) | obj (c:Str) (ns:List Str)
 deriving DecidableEq
inductive D where
 | non | bl (b:Bool) | int (i:Int) | str (x:Str) | scr (ns:List Int) | nd (h:Hd) (ds:List D)
noncomputable abbrev D.lst (ds:List D):D:=.nd .lst ds
noncomputable abbrev D.tup (ds:List D):D:=.nd .tup ds
noncomputable abbrev D.dic (t:Nat) (ks:List DK) (ds:List D):D:=.nd (.dic t ks) ds
noncomputable abbrev D.obj (c:Str) (ns:List Str) (ds:List D):D:=.nd (.obj c ns) ds
noncomputable def Hd.mu:Hd->Bool
 | .tup=>false
 | _=>true
noncomputable def KnL (K:PySem.W.Frag) (a:Addr) (xs:List V):Prop:=
 ∃ (o:Obj) (its:Array Value) (n:Nat),K.lookup a = some o/\o.cls = .type "list"/\o.dict = none/\o.data = .seq its n/\its.size<=sizeLine/\Vals xs its.toList
noncomputable def HdOk (K:PySem.W.Frag) (o:HO):Hd->List V->Prop
 | .lst,xs=>o = .lst xs
 | .tup,xs=>o = .tup xs
 | .dic t ks,xs=>(t = 0/\∃ kvs:List (Key × V),o = .dK kvs/\ks = kvs.map (fun p=>Sum.inl p.1)/\xs = kvs.map (·.2))\/(t = 1/\∃ kvs:List (List Key × V),o = .dT kvs/\ks = kvs.map (fun p=>Sum.inr p.1)/\xs = kvs.map (·.2))
 | .obj c ns,xs=>∃ C dx,PySem.W.nsIn K mainGlobals c = some (some (.ref C))/\o = .ins C dx (ns.zip xs)/\ns.length = xs.length
noncomputable abbrev Pr:=Addr->Prop
mutual
noncomputable def Rp (K:PySem.W.Frag) (H:Hp) (S:Pr):D->V->Prop
 | .non,v=>v = .non
 | .bl b,v=>v = .bl b
 | .int i,v=>v = .int i
 | .str x,v=>v = .str x
 | .scr ns,v=>∃ a,v = .ref a/\((¬ S a/\Rd H a (.lst (ns.map V.int)))\/KnL K a (ns.map V.int))
 | .nd h ds,v=>∃ a o xs,v = .ref a/\¬ S a/\H a = some o/\HdOk K o h xs/\RpL K H S ds xs
noncomputable def RpL (K:PySem.W.Frag) (H:Hp) (S:Pr):List D->List V->Prop
 | [],xs=>xs = []
 | d :: ds,xs=>∃ y ys,xs = y :: ys/\Rp K H S d y/\RpL K H S ds ys
end
section
variable {K:PySem.W.Frag} {H H':Hp} {S S':Pr}
mutual
theorem Rp.go (k:∀ b o,¬ S b->H b = some o->H' b = some o/\¬ S' b):∀ {d:D} {v:V},Rp K H S d v->Rp K H' S' d v
 | .non,_,h=>h
 | .bl _,_,h=>h
 | .int _,_,h=>h
 | .str _,_,h=>h
 | .scr ns,v,h=>by
  unfold Rp at h ⊢
  obtain ⟨a,e,h⟩:=h
  refine ⟨a,e,?_⟩
  rcases h with ⟨n,g | ⟨o,g⟩⟩ | h
  ·exact .inl ⟨(k _ _ n g).2,.inl (k _ _ n g).1⟩
  ·exact .inl ⟨(k _ _ n g).2,.inr ⟨o,(k _ _ n g).1⟩⟩
  ·exact .inr h
 | .nd hd ds,v,h=>by
  unfold Rp at h ⊢
  obtain ⟨a,o,xs,e,n,g,q,r⟩:=h
  exact ⟨a,o,xs,e,(k _ _ n g).2,(k _ _ n g).1,q,RpL.go k r⟩
theorem RpL.go (k:∀ b o,¬ S b->H b = some o->H' b = some o/\¬ S' b):∀ {ds:List D} {vs:List V},RpL K H S ds vs->RpL K H' S' ds vs
 | [],_,h=>by unfold RpL at h ⊢; exact h
 | d :: ds,_,h=>by
  unfold RpL at h ⊢
  obtain ⟨y,ys,e,r,t⟩:=h
  exact ⟨y,ys,e,Rp.go k r,RpL.go k t⟩
end
theorem Rp.same (s:Same H H') {d:D} {v:V} (h:Rp K H S d v):Rp K H' S d v:=h.go fun b o n e=>⟨s b o e,n⟩
theorem RpL.same (s:Same H H') {d:List D} {v:List V} (h:RpL K H S d v):RpL K H' S d v:=h.go fun b o n e=>⟨s b o e,n⟩
theorem Rp.weak (k:∀ b,S' b->S b) {d:D} {v:V} (h:Rp K H S d v):Rp K H S' d v:=h.go fun b o n e=>⟨e,fun z=>n (k b z)⟩
theorem RpL.weak (k:∀ b,S' b->S b) {d:List D} {v:List V} (h:RpL K H S d v):RpL K H S' d v:=h.go fun b o n e=>⟨e,fun z=>n (k b z)⟩
theorem RpL.len:∀ {ds:List D} {vs:List V},RpL K H S ds vs->vs.length = ds.length
 | [],_,h=>by unfold RpL at h; rw [h]; rfl
 | d :: ds,_,h=>by
  unfold RpL at h
  obtain ⟨y,ys,rfl,_,t⟩:=h
  rw [List.length_cons,List.length_cons,RpL.len t]
theorem RpL.nil:RpL K H S [] []:=by unfold RpL; rfl
theorem RpL.cons {d:D} {v:V} {ds:List D} {vs:List V} (h1:Rp K H S d v) (h2:RpL K H S ds vs):RpL K H S (d :: ds) (v :: vs):=by unfold RpL; exact ⟨v,vs,rfl,h1,h2⟩
theorem RpL.nil_inv {vs:List V} (h:RpL K H S [] vs):vs = []:=by unfold RpL at h; exact h
theorem RpL.cons_inv {d:D} {ds:List D} {vs:List V} (h:RpL K H S (d :: ds) vs):∃ y ys,vs = y :: ys/\Rp K H S d y/\RpL K H S ds ys:=by unfold RpL at h; exact h
theorem RpL.getD:∀ {ds:List D} {vs:List V} {i:Nat} {d:D},RpL K H S ds vs->ds[i]? = some d->∃ v,vs[i]? = some v/\Rp K H S d v
 | [],_,_,_,_,e=>by simp at e
 | d :: ds,_,0,d',h,e=>by obtain ⟨y,ys,rfl,r,t⟩:=h.cons_inv; simp at e; subst e; exact ⟨y,rfl,r⟩
 | d :: ds,_,i + 1,d',h,e=>by obtain ⟨y,ys,rfl,r,t⟩:=h.cons_inv; simpa using RpL.getD t (by simpa using e)
theorem RpL.append:∀ {ds es:List D} {vs us:List V},RpL K H S ds vs->RpL K H S es us->RpL K H S (ds ++ es) (vs ++ us)
 | [],_,_,_,h,g=>by rw [h.nil_inv]; exact g
 | d :: ds,_,_,_,h,g=>by obtain ⟨y,ys,rfl,r,t⟩:=h.cons_inv; exact .cons r (RpL.append t g)
theorem RpL.take:∀ {ds:List D} {vs:List V} (n:Nat),RpL K H S ds vs->RpL K H S (ds.take n) (vs.take n)
 | _,_,0,_=>by simpa using RpL.nil
 | [],_,_ + 1,h=>by rw [h.nil_inv]; simpa using RpL.nil
 | d :: ds,_,n + 1,h=>by obtain ⟨y,ys,rfl,r,t⟩:=h.cons_inv; exact .cons r (RpL.take n t)
theorem RpL.drop:∀ {ds:List D} {vs:List V} (n:Nat),RpL K H S ds vs->RpL K H S (ds.drop n) (vs.drop n)
 | _,_,0,h=>h
 | [],_,_ + 1,h=>by rw [h.nil_inv]; simpa using RpL.nil
 | d :: ds,_,n + 1,h=>by obtain ⟨y,ys,rfl,r,t⟩:=h.cons_inv; exact RpL.drop n t
theorem RpL.reverse {ds:List D} {vs:List V} (h:RpL K H S ds vs):RpL K H S ds.reverse vs.reverse:=by
 induction ds generalizing vs with
 | nil=>rw [h.nil_inv]; exact .nil
 | cons d ds ih=>obtain ⟨y,ys,rfl,r,t⟩:=h.cons_inv; rw [List.reverse_cons,List.reverse_cons]; exact (ih t).append (.cons r .nil)
theorem RpL.rep {ds:List D} {vs:List V} (h:RpL K H S ds vs):∀ n:Nat,RpL K H S (List.replicate n ds).flatten (List.replicate n vs).flatten
 | 0=>by simpa using RpL.nil
 | n + 1=>by simpa [List.replicate_succ] using h.append (h.rep n)
theorem RpL.ints:∀ ns:List Int,RpL K H S (ns.map D.int) (ns.map V.int)
 | []=>.nil
 | n :: ns=>.cons (by unfold Rp; rfl) (RpL.ints ns)
theorem RpL.erase:∀ {ds:List D} {vs:List V} (n:Nat),RpL K H S ds vs->RpL K H S (ds.eraseIdx n) (vs.eraseIdx n)
 | [],_,_,h=>by rw [h.nil_inv]; simpa using RpL.nil
 | d :: ds,_,0,h=>by obtain ⟨y,ys,rfl,r,t⟩:=h.cons_inv; exact t
 | d :: ds,_,n + 1,h=>by obtain ⟨y,ys,rfl,r,t⟩:=h.cons_inv; exact .cons r (RpL.erase n t)
end
mutual
noncomputable def imD:D->Bool
 | .nd h ds=>!h.mu && imL ds
 | .scr _=>false
 | _=>true
noncomputable def imL:List D->Bool
 | []=>true
 | d :: ds=>imD d && imL ds
end
noncomputable def MuOk (H:Hp) (S:Pr):Prop:=∀ a,S a->∃ o,H a = some o/\∀ xs,o ≠ .tup xs
section
variable {K:PySem.W.Frag} {H:Hp} {S S':Pr}
mutual
theorem Rp.im (m:MuOk H S'):∀ {d:D} {v:V},imD d = true->Rp K H S d v->Rp K H S' d v
 | .non,_,_,h=>h
 | .bl _,_,_,h=>h
 | .int _,_,_,h=>h
 | .str _,_,_,h=>h
 | .scr ns,v,i,h=>by simp [imD] at i
 | .nd hd ds,v,i,h=>by
  unfold Rp at h ⊢
  obtain ⟨a,o,xs,e,n,g,q,r⟩:=h
  rw [imD,Bool.and_eq_true] at i
  refine ⟨a,o,xs,e,fun z=>?_,g,q,RpL.im m i.2 r⟩
  obtain ⟨o',e',ne⟩:=m a z
  rw [g] at e'; cases e'
  cases hd with
  | tup=>exact ne _ q
  | _=>exact absurd i.1 (by simp [Hd.mu])
theorem RpL.im (m:MuOk H S'):∀ {ds:List D} {vs:List V},imL ds = true->RpL K H S ds vs->RpL K H S' ds vs
 | [],_,_,h=>by unfold RpL at h ⊢; exact h
 | d :: ds,_,i,h=>by
  rw [imL,Bool.and_eq_true] at i
  obtain ⟨y,ys,rfl,r,t⟩:=h.cons_inv
  exact .cons (Rp.im m i.1 r) (RpL.im m i.2 t)
end
end
inductive Ow where
 | fz | own (es:List Ow) (r:Ow)
mutual
noncomputable def Tr (K:PySem.W.Frag) (H:Hp) (S:Pr):D->Ow->V->Pr->Prop
 | .nd h ds,.own es r,v,F=>∃ a o xs F',v = .ref a/\H a = some o/\HdOk K o h xs/\(h.mu = true->¬ F' a)/\(h.mu = false->¬ S a)/\(∀ b,F b ↔ (h.mu = true/\b = a)\/F' b)/\TrL K H S ds es r xs F'
 | d,_,v,F=>(∀ b,¬ F b)/\Rp K H S d v
noncomputable def TrL (K:PySem.W.Frag) (H:Hp) (S:Pr):List D->List Ow->Ow->List V->Pr->Prop
 | [],_,_,xs,F=>xs = []/\∀ b,¬ F b
 | d :: ds,es,r,xs,F=>∃ y ys F1 F2,xs = y :: ys/\(∀ b,F b ↔ F1 b\/F2 b)/\(∀ b,F1 b->¬ F2 b)/\Tr K H S d (es.headD r) y F1/\TrL K H S ds es.tail r ys F2
end
section
variable {K:PySem.W.Frag} {H H':Hp} {S S':Pr}
mutual
theorem Tr.go:∀ {d:D} {k:Ow} {v:V} {F:Pr},(∀ b o,(¬ S b\/F b)->H b = some o->H' b = some o)->(∀ b o,H b = some o->¬ S b->¬ S' b)->Tr K H S d k v F->Tr K H' S' d k v F
 | .non,_,_,_,k1,k2,h=>by unfold Tr at h ⊢; exact ⟨h.1,h.2⟩
 | .bl _,_,_,_,k1,k2,h=>by unfold Tr at h ⊢; exact ⟨h.1,h.2⟩
 | .int _,_,_,_,k1,k2,h=>by unfold Tr at h ⊢; exact ⟨h.1,h.2⟩
 | .str _,_,_,_,k1,k2,h=>by unfold Tr at h ⊢; exact ⟨h.1,h.2⟩
 | .scr ns,_,_,_,k1,k2,h=>by unfold Tr at h ⊢; exact ⟨h.1,h.2.go fun b o n e=>⟨k1 b o (.inl n) e,k2 b o e n⟩⟩
 | .nd hd ds,.fz,_,_,k1,k2,h=>by unfold Tr at h ⊢; exact ⟨h.1,h.2.go fun b o n e=>⟨k1 b o (.inl n) e,k2 b o e n⟩⟩
 | .nd hd ds,.own es r,v,F,k1,k2,h=>by
  unfold Tr at h ⊢
  obtain ⟨a,o,xs,F',e,g,q,n1,n2,hF,t⟩:=h
  have hg:H' a = some o:=by
   cases hm:hd.mu with
   | true=>exact k1 a o (.inr ((hF a).mpr (.inl ⟨hm,rfl⟩))) g
   | false=>exact k1 a o (.inl (n2 hm)) g
  refine ⟨a,o,xs,F',e,hg,q,n1,fun hm=>k2 a o g (n2 hm),hF,TrL.go (fun b o h=>k1 b o (h.imp id fun z=>(hF b).mpr (.inr z))) k2 t⟩
theorem TrL.go:∀ {ds:List D} {es:List Ow} {r:Ow} {vs:List V} {F:Pr},(∀ b o,(¬ S b\/F b)->H b = some o->H' b = some o)->(∀ b o,H b = some o->¬ S b->¬ S' b)->TrL K H S ds es r vs F->TrL K H' S' ds es r vs F
 | [],_,_,_,_,_,_,h=>by unfold TrL at h ⊢; exact h
 | d :: ds,es,r,vs,F,k1,k2,h=>by
  unfold TrL at h ⊢
  obtain ⟨y,ys,F1,F2,e,hF,dj,h1,h2⟩:=h
  exact ⟨y,ys,F1,F2,e,hF,dj,Tr.go (fun b o h=>k1 b o (h.imp id fun z=>(hF b).mpr (.inl z))) k2 h1,TrL.go (fun b o h=>k1 b o (h.imp id fun z=>(hF b).mpr (.inr z))) k2 h2⟩
end
mutual
theorem Tr.rp:∀ {d:D} {k:Ow} {v:V} {F:Pr},(∀ b,S' b->S b/\¬ F b)->Tr K H S d k v F->Rp K H S' d v
 | .non,_,_,_,k2,h=>by unfold Tr at h; exact h.2
 | .bl _,_,_,_,k2,h=>by unfold Tr at h; exact h.2
 | .int _,_,_,_,k2,h=>by unfold Tr at h; exact h.2
 | .str _,_,_,_,k2,h=>by unfold Tr at h; exact h.2
 | .scr ns,_,_,_,k2,h=>by unfold Tr at h; exact h.2.weak fun b z=>(k2 b z).1
 | .nd hd ds,.fz,_,_,k2,h=>by unfold Tr at h; exact h.2.weak fun b z=>(k2 b z).1
 | .nd hd ds,.own es r,v,F,k2,h=>by
  unfold Tr at h
  unfold Rp
  obtain ⟨a,o,xs,F',e,g,q,n1,n2,hF,t⟩:=h
  refine ⟨a,o,xs,e,fun z=>?_,g,q,TrL.rp (fun b z=>⟨(k2 b z).1,fun z2=>(k2 b z).2 ((hF b).mpr (.inr z2))⟩) t⟩
  cases hm:hd.mu with
  | true=>exact (k2 a z).2 ((hF a).mpr (.inl ⟨hm,rfl⟩))
  | false=>exact n2 hm (k2 a z).1
theorem TrL.rp:∀ {ds:List D} {es:List Ow} {r:Ow} {vs:List V} {F:Pr},(∀ b,S' b->S b/\¬ F b)->TrL K H S ds es r vs F->RpL K H S' ds vs
 | [],_,_,_,_,_,h=>by unfold TrL at h; unfold RpL; exact h.1
 | d :: ds,es,r,vs,F,k2,h=>by
  unfold TrL at h
  obtain ⟨y,ys,F1,F2,rfl,hF,dj,h1,h2⟩:=h
  exact .cons (Tr.rp (fun b z=>⟨(k2 b z).1,fun z2=>(k2 b z).2 ((hF b).mpr (.inl z2))⟩) h1) (TrL.rp (fun b z=>⟨(k2 b z).1,fun z2=>(k2 b z).2 ((hF b).mpr (.inr z2))⟩) h2)
end
theorem Tr.rd {d:D} {k:Ow} {v:V} {F:Pr} (h:Tr K H S d k v F):Rp K H (fun _=>False) d v:=h.rp fun b z=>z.elim
theorem Tr.fz {d:D} {v:V} (h:Rp K H S d v):Tr K H S d .fz v (fun _=>False):=by
 cases d <;> (unfold Tr; exact ⟨fun b z=>z,h⟩)
theorem Tr.fz_inv {d:D} {v:V} {F:Pr} (h:Tr K H S d .fz v F):(∀ b,¬ F b)/\Rp K H S d v:=by
 cases d <;> (unfold Tr at h; exact h)
mutual
theorem Tr.dom:∀ {d:D} {k:Ow} {v:V} {F:Pr},Tr K H S d k v F->∀ b,F b->∃ o,H b = some o/\∀ xs,o ≠ .tup xs
 | .non,_,_,_,h=>by unfold Tr at h; exact fun b z=>absurd z (h.1 b)
 | .bl _,_,_,_,h=>by unfold Tr at h; exact fun b z=>absurd z (h.1 b)
 | .int _,_,_,_,h=>by unfold Tr at h; exact fun b z=>absurd z (h.1 b)
 | .str _,_,_,_,h=>by unfold Tr at h; exact fun b z=>absurd z (h.1 b)
 | .scr ns,_,_,_,h=>by unfold Tr at h; exact fun b z=>absurd z (h.1 b)
 | .nd hd ds,.fz,_,_,h=>by unfold Tr at h; exact fun b z=>absurd z (h.1 b)
 | .nd hd ds,.own es r,v,F,h=>by
  unfold Tr at h
  obtain ⟨a,o,xs,F',e,g,q,n1,n2,hF,t⟩:=h
  intro b z
  rcases (hF b).mp z with ⟨hm,rfl⟩ | z
  ·refine ⟨o,g,fun ys he=>?_⟩
   subst he
   cases hd with
   | tup=>exact absurd hm (by simp [Hd.mu])
   | lst=>cases q
   | dic t ks=>rcases q with ⟨_,_,e,_⟩ | ⟨_,_,e,_⟩ <;> cases e
   | obj c ns=>obtain ⟨_,_,_,e,_⟩:=q; cases e
  ·exact TrL.dom t b z
theorem TrL.dom:∀ {ds:List D} {es:List Ow} {r:Ow} {vs:List V} {F:Pr},TrL K H S ds es r vs F->∀ b,F b->∃ o,H b = some o/\∀ xs,o ≠ .tup xs
 | [],_,_,_,_,h=>by unfold TrL at h; exact fun b z=>absurd z (h.2 b)
 | d :: ds,es,r,vs,F,h=>by
  unfold TrL at h
  obtain ⟨y,ys,F1,F2,e,hF,dj,h1,h2⟩:=h
  intro b z
  rcases (hF b).mp z with z | z
  ·exact Tr.dom h1 b z
  ·exact TrL.dom h2 b z
end
end
end J
namespace J
open PySem PySem.Spec L2
noncomputable abbrev Gh:=Addr->Option (Option Nat)
noncomputable def Sx (g:Gh) (F:Pr):Pr:=fun b=>g b ≠ none\/F b
noncomputable abbrev Sg (g:Gh):Pr:=fun b=>g b ≠ none
inductive Kd where
 | sh | fr (k:Ow) | bo (i:Nat) (k:Ow)
noncomputable def VR1 (K:PySem.W.Frag) (H:Hp) (g:Gh) (Ft:Pr):Kd->D->V->Pr->Prop
 | .sh,d,v,F=>(∀ b,¬ F b)/\Rp K H (Sx g Ft) d v
 | .fr k,d,v,F=>Tr K H (Sx g Ft) d k v F
 | .bo i k,d,v,F=>(∀ b,¬ F b)/\∃ F0,(∀ b,F0 b->g b = some (some i))/\Tr K H (Sx g Ft) d k v F0
noncomputable def VRL (K:PySem.W.Frag) (H:Hp) (g:Gh) (Ft:Pr):List (Kd × D)->List V->Pr->Prop
 | [],vs,F=>vs = []/\∀ b,¬ F b
 | (kd,d) :: r,vs,F=>∃ y ys F1 F2,vs = y :: ys/\(∀ b,F b ↔ F1 b\/F2 b)/\(∀ b,F1 b->¬ F2 b)/\VR1 K H g Ft kd d y F1/\VRL K H g Ft r ys F2
noncomputable def VR (K:PySem.W.Frag) (g:Gh) (H0 H:Hp) (kd:Kd) (d:D) (v:V):Prop:=∃ F:Pr,(∀ b,F b->H0 b = none)/\VR1 K H g F kd d v F
noncomputable def VRs (K:PySem.W.Frag) (g:Gh) (H0 H:Hp) (kds:List (Kd × D)) (vs:List V):Prop:=∃ F:Pr,(∀ b,F b->H0 b = none)/\VRL K H g F kds vs F
section
variable {K:PySem.W.Frag} {H H' H0 H1:Hp} {g:Gh} {Ft Ft' F:Pr}
theorem VR1.go {kd:Kd} {d:D} {v:V} (s:Same H H') (k2:∀ b o,H b = some o->Ft' b->Ft b) (h:VR1 K H g Ft kd d v F):VR1 K H' g Ft' kd d v F:=by
 have k3:∀ b o,H b = some o->¬ Sx g Ft b->¬ Sx g Ft' b:=fun b o e n z=>n (z.imp id (k2 b o e))
 cases kd with
 | sh=>exact ⟨h.1,h.2.go fun b o n e=>⟨s b o e,k3 b o e n⟩⟩
 | fr k=>exact Tr.go (fun b o _ e=>s b o e) k3 h
 | bo i k=>obtain ⟨h1,F0,h2,h3⟩:=h; exact ⟨h1,F0,h2,Tr.go (fun b o _ e=>s b o e) k3 h3⟩
theorem VR1.dom {kd:Kd} {d:D} {v:V} (h:VR1 K H g Ft kd d v F):∀ b,F b->∃ o,H b = some o/\∀ xs,o ≠ .tup xs:=by
 cases kd with
 | sh=>exact fun b z=>absurd z (h.1 b)
 | fr k=>exact Tr.dom h
 | bo i k=>exact fun b z=>absurd z (h.1 b)
theorem VRL.dom:∀ {kds:List (Kd × D)} {vs:List V} {F:Pr},VRL K H g Ft kds vs F->∀ b,F b->∃ o,H b = some o/\∀ xs,o ≠ .tup xs
 | [],_,_,h=>fun b z=>absurd z (h.2 b)
 | (kd,d) :: r,_,_,h=>by
  obtain ⟨y,ys,F1,F2,e,hF,dj,h1,h2⟩:=h
  intro b z
  rcases (hF b).mp z with z | z
  ·exact h1.dom b z
  ·exact VRL.dom h2 b z
theorem VR.same {kd:Kd} {d:D} {v:V} (s:Same H H') (h:VR K g H0 H kd d v):VR K g H0 H' kd d v:=
 let ⟨F,h1,h2⟩:=h; ⟨F,h1,h2.go s fun _ _ _ z=>z⟩
theorem VR.older {kd:Kd} {d:D} {v:V} (s:Same H0 H1) (h:VR K g H1 H kd d v):VR K g H0 H kd d v:=
 let ⟨F,h1,h2⟩:=h; ⟨F,fun b z=>s.free (h1 b z),h2⟩
theorem VR1.rd {kd:Kd} {d:D} {v:V} (h:VR1 K H g Ft kd d v F):Rp K H (fun _=>False) d v:=by
 cases kd with
 | sh=>exact h.2.weak fun b z=>z.elim
 | fr k=>exact Tr.rd h
 | bo i k=>obtain ⟨_,F0,_,h3⟩:=h; exact h3.rd
theorem VR.rd {kd:Kd} {d:D} {v:V} (h:VR K g H0 H kd d v):Rp K H (fun _=>False) d v:=let ⟨F,h1,h2⟩:=h; h2.rd
theorem VRL.rd:∀ {kds:List (Kd × D)} {vs:List V} {F:Pr},VRL K H g Ft kds vs F->RpL K H (fun _=>False) (kds.map (·.2)) vs
 | [],_,_,h=>by rw [h.1]; exact .nil
 | (kd,d) :: r,_,_,h=>by
  obtain ⟨y,ys,F1,F2,rfl,hF,dj,h1,h2⟩:=h
  exact .cons h1.rd (VRL.rd h2)
noncomputable def okS:Kd->D->Bool
 | .bo _ _,d=>imD d
 | _,_=>true
theorem MuOk.same {S:Pr} (m:MuOk H S) (s:Same H H'):MuOk H' S:=fun a z=>let ⟨o,e,n⟩:=m a z; ⟨o,s a o e,n⟩
theorem VR1.sh {S:Pr} {kd:Kd} {d:D} {v:V} (ok:okS kd d = true) (m:MuOk H S) (hS:∀ b,S b->(g b ≠ none\/Ft b)/\¬ F b) (h:VR1 K H g Ft kd d v F):Rp K H S d v:=by
 cases kd with
 | sh=>exact h.2.weak fun b z=>(hS b z).1
 | fr k=>exact Tr.rp (fun b z=>⟨(hS b z).1,(hS b z).2⟩) h
 | bo i k=>obtain ⟨_,F0,h2,h3⟩:=h; exact h3.rd.im m ok
theorem VR.sh {kd:Kd} {d:D} {v:V} (ok:okS kd d = true) (m:MuOk H0 (Sg g)) (s:Same H0 H) (h:VR K g H0 H kd d v):Rp K H (Sg g) d v:=by
 obtain ⟨F,h1,h2⟩:=h
 refine h2.sh ok (m.same s) fun b z=>⟨.inl z,fun z2=>?_⟩
 obtain ⟨o,e,_⟩:=m b z
 rw [h1 b z2] at e; cases e
theorem VRL.sh {S:Pr} (m:MuOk H S):∀ {kds:List (Kd × D)} {vs:List V} {F:Pr},(kds.all fun p=>okS p.1 p.2) = true->(∀ b,S b->(g b ≠ none\/Ft b)/\¬ F b)->VRL K H g Ft kds vs F->RpL K H S (kds.map (·.2)) vs
 | [],_,_,_,_,h=>by rw [h.1]; exact .nil
 | (kd,d) :: r,_,F,ok,hS,h=>by
  obtain ⟨y,ys,F1,F2,rfl,hF,dj,h1,h2⟩:=h
  rw [List.all_cons,Bool.and_eq_true] at ok
  exact .cons (h1.sh ok.1 m fun b z=>⟨(hS b z).1,fun z2=>(hS b z).2 ((hF b).mpr (.inl z2))⟩) (VRL.sh m ok.2 (fun b z=>⟨(hS b z).1,fun z2=>(hS b z).2 ((hF b).mpr (.inr z2))⟩) h2)
theorem VRs.sh {kds:List (Kd × D)} {vs:List V} (ok:(kds.all fun p=>okS p.1 p.2) = true) (m:MuOk H0 (Sg g)) (s:Same H0 H) (h:VRs K g H0 H kds vs):RpL K H (Sg g) (kds.map (·.2)) vs:=by
 obtain ⟨F,h1,h2⟩:=h
 refine h2.sh (m.same s) ok fun b z=>⟨.inl z,fun z2=>?_⟩
 obtain ⟨o,e,_⟩:=m b z
 rw [h1 b z2] at e; cases e
theorem VRs.rd {kds:List (Kd × D)} {vs:List V} (h:VRs K g H0 H kds vs):RpL K H (fun _=>False) (kds.map (·.2)) vs:=let ⟨F,h1,h2⟩:=h; h2.rd
theorem VRs.nil:VRs K g H0 H [] []:=⟨fun _=>False,fun b z=>z.elim,rfl,fun b z=>z⟩
open Classical in
noncomputable def Gh.plus (g:Gh) (F:Pr):Gh:=fun b=>if F b then some none else g b
theorem plus_S (b:Addr):Sg (g.plus F) b ↔ Sg g b\/F b:=by
 unfold Gh.plus Sg
 by_cases h:F b
 ·simp [h]
 ·simp [h]
theorem plus_sl {b:Addr} {i:Nat} (h:g.plus F b = some (some i)):g b = some (some i):=by
 unfold Gh.plus at h
 split at h
 ·cases h
 ·exact h
theorem sl_plus {b:Addr} {i:Nat} (h:g b = some (some i)) (n:¬ F b):g.plus F b = some (some i):=by
 unfold Gh.plus
 rw [if_neg n]; exact h
theorem VR1.unplus {F1:Pr} {kd:Kd} {d:D} {v:V} (h:VR1 K H (g.plus F1) Ft kd d v F):VR1 K H g (fun b=>F1 b\/Ft b) kd d v F:=by
 have k3:∀ b o,H b = some o->¬ Sx (g.plus F1) Ft b->¬ Sx g (fun b=>F1 b\/Ft b) b:=fun b o e n z=>n (z.elim (fun z=>.inl ((plus_S b).mpr (.inl z))) fun z=>z.elim (fun z=>.inl ((plus_S b).mpr (.inr z))) .inr)
 cases kd with
 | sh=>exact ⟨h.1,h.2.go fun b o n e=>⟨e,k3 b o e n⟩⟩
 | fr k=>exact Tr.go (fun b o _ e=>e) k3 h
 | bo i k=>obtain ⟨h1,F0,h2,h3⟩:=h; exact ⟨h1,F0,fun b z=>plus_sl (h2 b z),Tr.go (fun b o _ e=>e) k3 h3⟩
theorem VRL.unplus {F1:Pr}:∀ {kds:List (Kd × D)} {vs:List V} {F:Pr},VRL K H (g.plus F1) Ft kds vs F->VRL K H g (fun b=>F1 b\/Ft b) kds vs F
 | [],_,_,h=>h
 | (kd,d) :: r,_,_,h=>by
  obtain ⟨y,ys,F1,F2,e,hF,dj,h1,h2⟩:=h
  exact ⟨y,ys,F1,F2,e,hF,dj,h1.unplus,VRL.unplus h2⟩
theorem VRs.cons {kd:Kd} {d:D} {v:V} {kds:List (Kd × D)} {vs:List V} {F1:Pr} (s:Same H0 H) (s1:Same H H') (a1:∀ b,F1 b->H0 b = none) (a2:VR1 K H g F1 kd d v F1) (h2:VRs K (g.plus F1) H H' kds vs):VRs K g H0 H' ((kd,d) :: kds) (v :: vs):=by
 obtain ⟨F2,b1,b2⟩:=h2
 have dd:=a2.dom
 refine ⟨fun b=>F1 b\/F2 b,fun b z=>z.elim (a1 b) fun z=>s.free (b1 b z),v,vs,F1,F2,rfl,fun b=>Iff.rfl,fun b z1 z2=>?_,a2.go s1 fun b o e z=>z.elim id fun z=>?_,b2.unplus⟩
 ·obtain ⟨o,e,_⟩:=dd b z1
  rw [b1 b z2] at e; cases e
 ·rw [b1 b z] at e; cases e
theorem VRs.one {kd:Kd} {d:D} {vs:List V} (h:VRs K g H0 H [(kd,d)] vs):∃ v,vs = [v]/\VR K g H0 H kd d v:=by
 obtain ⟨F,h1,y,ys,F1,F2,rfl,hF,dj,h3,h4,h5⟩:=h
 subst h4
 have e:∀ b,F b->F1 b:=fun b z=>((hF b).mp z).elim id fun z=>absurd z (h5 b)
 exact ⟨y,rfl,F1,fun b z=>h1 b ((hF b).mpr (.inl z)),h3.go (fun _ _ h=>h) fun b _ _ z=>(hF b).mpr (.inl z)⟩
end
structure Sl where
 lk:Bool
 k:Ow
 d:D
noncomputable abbrev Ro:=List (Option Sl)
noncomputable def isFz:Ow->Bool
 | .fz=>true
 | _=>false
noncomputable def slKd (i:Nat) (s:Sl):Kd × D:=(if isFz s.k then .sh else .bo i s.k,s.d)
structure SE (K:PySem.W.Frag) (g:Gh) (ρ:Ro) (σ:St) (H:Hp):Prop where
 slot:∀ (i:Nat) (s:Sl),ρ[i]? = some (some s)->∃ v F,σ[i]? = some (some v)/\(∀ b,F b->g b = some (some i))/\Tr K H (Sg g) s.d s.k v F
 mu:MuOk H (Sg g)
 len:ρ.length = σ.length
section
variable {K:PySem.W.Frag} {H H' H0 H1:Hp} {g g':Gh} {ρ:Ro} {σ:St}
theorem SE.same (h:SE K g ρ σ H) (s:Same H H'):SE K g ρ σ H':=
 ⟨fun i sl e=>let ⟨v,F,e1,e2,e3⟩:=h.slot i sl e; ⟨v,F,e1,e2,e3.go (fun b o _ e=>s b o e) fun b o _ n=>n⟩,h.mu.same s,h.len⟩
theorem isFz_eq {k:Ow} (h:isFz k = true):k = .fz:=by cases k with | fz=>rfl | own es r=>cases h
theorem SE.get (h:SE K g ρ σ H) {i:Nat} {s:Sl} (e:ρ[i]? = some (some s)):∃ v,σ[i]? = some (some v)/\VR K g H H (slKd i s).1 (slKd i s).2 v:=by
 obtain ⟨v,F,e1,e2,e3⟩:=h.slot i s e
 refine ⟨v,e1,fun _=>False,fun b z=>z.elim,?_⟩
 have t:Tr K H (Sx g fun _=>False) s.d s.k v F:=e3.go (fun _ _ _ h=>h) fun b o _ n z=>n (z.elim id fun z=>z.elim)
 unfold slKd
 cases hk:isFz s.k with
 | true=>
  rw [isFz_eq hk] at t
  exact ⟨fun b z=>z,t.fz_inv.2⟩
 | false=>exact ⟨fun b z=>z,F,e2,t⟩
theorem SE.plus {F:Pr} (h:SE K g ρ σ H) (s:Same H H') (hF:∀ b,F b->H b = none) (dd:∀ b,F b->∃ o,H' b = some o/\∀ xs,o ≠ .tup xs):SE K (g.plus F) ρ σ H':=by
 refine ⟨fun i sl e=>?_,fun b z=>?_,h.len⟩
 ·obtain ⟨v,F0,e1,e2,e3⟩:=h.slot i sl e
  refine ⟨v,F0,e1,fun b z=>sl_plus (e2 b z) fun z2=>?_,e3.go (fun b o _ e=>s b o e) fun b o e n z=>?_⟩
  ·obtain ⟨o,q,_⟩:=e3.dom b z
   rw [hF b z2] at q; cases q
  ·rcases (plus_S b).mp z with z | z
   ·exact n z
   ·rw [hF b z] at e; cases e
 ·rcases (plus_S b).mp z with z | z
  ·exact h.mu.same s b z
  ·exact dd b z
end
section
variable (X:Cx)
noncomputable def wE (e:Expr):TE:=fun σ H Q=>∀ pins s,Inv X pins σ H s->wpAny (model X.prog X.w) X.A (eval e X.env) (EP X pins σ Q) X.xe s
noncomputable def wT (e:Expr):TT:=fun σ H Q=>∀ pins s,Inv X pins σ H s->wpAny (model X.prog X.w) X.A (isTrue e X.env (eval e X.env)) (TP X pins σ Q) X.xe s
noncomputable def wW (e:Expr):TT:=fun σ H Q=>∀ whole pins s,Inv X pins σ H s->wpAny (model X.prog X.w) X.A (isTrue e X.env whole) (TP X pins σ Q) X.xe s
noncomputable def wA (es:List Expr):TA:=fun σ H Q=>∀ pos pins s,Inv X pins σ H s->wpAny (model X.prog X.w) X.A (spliced (backTo pos (starEach es X.env))) (AP X pins σ Q) X.xe s
noncomputable def wG (tg:Expr):TG:=fun v σ H Q=>∀ pins s u,Inv X pins σ H s->RelV v u->wpAny (model X.prog X.w) X.A (assign tg X.env u) (fun _ s'=>∃ σ' H',Inv X pins σ' H' s'/\Q σ' H') X.xe s
noncomputable def wI (tg iter:Expr):TI:=fun σ H R=>∀ pins s,Inv X pins σ H s->wpAny (model X.prog X.w) X.A (eval iter X.env) (fun v s1=>wpAny (model X.prog X.w) X.A (pyIter v) (PIE X pins σ tg R) X.xe s1) X.xe s
end
section
variable {X:Cx}
theorem pe_w {e:Expr}:PE X e (wE X e):=fun pins s σ H Q I h=>h pins s I
theorem pt_w {e:Expr}:PT X e (wT X e):=fun pins s σ H Q I h=>h pins s I
theorem pw_w {e:Expr}:PW X e (wW X e):=fun wh pins s σ H Q I h=>h wh pins s I
theorem pa_w {es:List Expr}:PA X es (wA X es):=fun pos pins s σ H Q I h=>h pos pins s I
theorem pi_w {tg iter:Expr}:PI X tg iter (wI X tg iter):=fun pins s σ H R I h=>h pins s I
theorem pg_w {tg:Expr}:PG X tg (wG X tg):=fun pins s σ H v u Q I r h=>h pins s u I r
theorem pe_le {e:Expr} {t:TE} (p:PE X e t) {σ:St} {H:Hp} {Q:VK} (h:t σ H Q):wE X e σ H Q:=fun pins s I=>p pins s σ H Q I h
theorem pt_le {e:Expr} {t:TT} (p:PT X e t) {σ:St} {H:Hp} {Q:Bool->Hp->Prop} (h:t σ H Q):wT X e σ H Q:=fun pins s I=>p pins s σ H Q I h
theorem pw_le {e:Expr} {t:TT} (p:PW X e t) {σ:St} {H:Hp} {Q:Bool->Hp->Prop} (h:t σ H Q):wW X e σ H Q:=fun wh pins s I=>p wh pins s σ H Q I h
theorem pa_le {es:List Expr} {t:TA} (p:PA X es t) {σ:St} {H:Hp} {Q:List V->Hp->Prop} (h:t σ H Q):wA X es σ H Q:=fun pos pins s I=>p pos pins s σ H Q I h
theorem pi_le {tg iter:Expr} {t:TI} (p:PI X tg iter t) {σ:St} {H:Hp} {R:It->Hp->Prop} (h:t σ H R):wI X tg iter σ H R:=fun pins s I=>p pins s σ H R I h
theorem pg_le {tg:Expr} {t:TG} (p:PG X tg t) {v:V} {σ:St} {H:Hp} {Q:St->Hp->Prop} (h:t v σ H Q):wG X tg v σ H Q:=fun pins s u I r=>p pins s σ H v u Q I r h
end
noncomputable def SndE (X:Cx) (f:Ro->Option (Kd × D)) (e:Expr):Prop:=∀ ρ kd d,f ρ = some (kd,d)->∀ g σ H Q,SE X.K g ρ σ H->(∀ v H',Same H H'->VR X.K g H H' kd d v->Q v H')->wE X e σ H Q
noncomputable def SndT (X:Cx) (f:Ro->Option Bool) (e:Expr):Prop:=∀ ρ b,f ρ = some b->∀ g σ H Q,SE X.K g ρ σ H->(∀ H',Same H H'->Q b H')->wT X e σ H Q
noncomputable def SndA (X:Cx) (f:Ro->Option (List (Kd × D))) (es:List Expr):Prop:=∀ ρ kds,f ρ = some kds->∀ g σ H Q,SE X.K g ρ σ H->(∀ vs H',Same H H'->VRs X.K g H H' kds vs->Q vs H')->wA X es σ H Q
end J
namespace G
open PySem PySem.Spec L2 PyProof.Rows
section
variable {X:Cx}
end
end G
namespace G
open PySem PySem.Spec PyProof.Rows L2
noncomputable def Its (x:Str):It:=⟨fun i _=>i < x.cps.size,fun i H v H'=>H' = H/\∃ c,x.cps[i]? = some c/\v = .str ⟨#[c]⟩,fun i _=>x.cps.size<=i⟩
theorem turn_txt {P:Program} {w:World} {K:PySem.W.Frag} {tg:Expr} (it:Addr) (x:Str) (t:Tok) (ty:String)
  (hn:["enumerate","zip","dict_itemiterator","dict_reverseitemiterator","odict_iterator","itertools.zip_longest","itertools.pairwise"].contains ty = false)
  (W:∀ B:Around,B.handled = none->Walks P w B it [it] [it] x.cps.size (SignAt x) (fun i h=>h.IsStrIter it ty x t i))
  (hend:∀ (B:Around) (s:Shared) (Q:Option Value->Shared->Prop) (E:Value->Shared->Prop) (i:Nat),B.handled = none->s.heap.IsStrIter it ty x t i->x.cps[i]? = none->(∀ h',Heap.ExtBut it s.heap h'->Q none { s with heap:=h' })->wpAny (model P w) B (pyNext (.ref it)) Q E s)
  (hself:∀ (B:Around) (i:Nat) (s:Shared) (Q:Value->Shared->Prop) (E:Value->Shared->Prop),s.heap.IsStrIter it ty x t i->Q (.ref it) s->wpAny (model P w) B (pyIter (.ref it)) Q E s) :
  Turn P w K tg (Its x) [it] it (fun i h=>h.IsStrIter it ty x t i) where
 mem:=by simp
 obj:=fun i h st b hb=>by
  have e:b = it:=by simpa using hb
  subst e
  obtain ⟨o,e,c,d⟩:=st
  exact ⟨o,e,fun v z=>by rw [d] at z; cases z⟩
 keep:=fun i h h' st k=>let ⟨o,ho,r⟩:=st; ⟨o,k it (by simp) o ho,r⟩
 item:=by
  intro X hP hw hK hc i pins s σ H E I hf st hg
  subst hP hw hK
  obtain ⟨f0,f1,f2,f3,f4,f5⟩:=hf it (by simp)
  refine (W X.A (I.ok.hd hc)).item i s _ _ hg st fun v h' tk hv st' kk=>?_
  obtain ⟨z,u,hz,rfl⟩:=hv
  have I1:Inv X pins σ H { s with heap:=h',toks:=tk }:=I.turned (fun b o hb e=>kk b o (by simpa using hb) e) f0 f1 f3 f4 f5
  obtain ⟨o,e,c,d⟩:=id st'
  exact ⟨_,rfl,go_of (s:={ s with heap:=h',toks:=tk }) e c d hn ⟨.str ⟨#[z]⟩,H,I1,⟨u,rfl⟩,⟨rfl,z,hz,rfl⟩,st',fun b hb=>(hf b hb).1⟩⟩
 done:=by
  intro X hP hw hK hc i pins s σ H E I hf st hg
  subst hP hw hK
  obtain ⟨f0,f1,f2,f3,f4,f5⟩:=hf it (by simp)
  exact hend X.A s _ _ i (I.ok.hd hc) st (Array.getElem?_eq_none hg) fun h' eb=>⟨rfl,I.turned (t':=s.toks) (fun b o hb e=>eb b o hb e) f0 f1 f3 f4 f5⟩
 self:=hself
section
variable {X:Cx} {tg:Expr}
noncomputable def iTxt (tl:TE):TI:=fun σ H R=>tl σ H fun v H1=>∃ x,v = .str x/\R (Its x) H1
theorem pi_txt {l:Expr} {tl:TE} (hl:PE X l tl):PI X tg l (iTxt tl):=by
 intro pins s σ H R I h
 refine thn (hl pins s σ H _ I h) fun v s1 ⟨x',H1,I1,r1,q1⟩=>?_
 obtain ⟨x,rfl,q⟩:=q1
 obtain ⟨t,rfl⟩:=r1
 have fp:∀ b ∈ [s1.heap.objs.size],FpOk X pins H1 b:=fun b hb=>by
  have e:b = s1.heap.objs.size:=by simpa using hb
  subst e
  exact I1.fpOk (Nat.le_refl _) (I1.hok.fresh (Nat.le_refl _))
 cases ha:x.cps.all (· < 128) with
 | true=>
  refine wpAny_pyIter_ascii ha ⟨s1.heap.objs.size,[s1.heap.objs.size],_,_,H1,rfl,I1.kept (t':=s1.toks) fun b o e=>Heap.get?_push_of_some _ e,turn_txt _ x t "str_ascii_iterator" (by decide) (fun B hB=>Walks.strAscii hB _ x t) (fun B s Q E i hB st hx hQ=>wpAny_pyNext_ascii_end hB st hx hQ) (fun B i s Q E st hQ=>wpAny_pyIter_striter_ascii st hQ),⟨_,Heap.get?_push_size _ rfl,rfl,rfl⟩,fp,q⟩
 | false=>
  refine wpAny_pyIter_wide ha ⟨s1.heap.objs.size,[s1.heap.objs.size],_,_,H1,rfl,I1.kept (t':=s1.toks) fun b o e=>Heap.get?_push_of_some _ e,turn_txt _ x t "str_iterator" (by decide) (fun B hB=>Walks.strWide hB _ x t) (fun B s Q E i hB st hx hQ=>wpAny_pyNext_wide_end hB st hx hQ) (fun B i s Q E st hQ=>wpAny_pyIter_striter_wide st hQ),⟨_,Heap.get?_push_size _ rfl,rfl,rfl⟩,fp,q⟩
noncomputable def repS (x:Str) (n:Nat):Str:=⟨(List.replicate n x.cps).foldl (· ++ ·) #[]⟩
theorem foldl_none:∀ (n:Nat) (a:Array Nat),(List.replicate n #[]).foldl (· ++ ·) a = a
 | 0,a=>rfl
 | n + 1,a=>by rw [List.replicate_succ,List.foldl_cons,Array.append_empty]; exact foldl_none n a
theorem op_mulS:OpR X (binaryOp .Mult) (fun x y H Q=>∃ i n,x = .str i/\y = .int n/\n<=100000/\0<=n/\i.length<=100/\Q (.str (repS i n.toNat)) H):=by
 intro pins s σ H x y v u Q I rx ry h
 obtain ⟨i,n,rfl,rfl,h1,h0,h2,q⟩:=h
 obtain ⟨t,rfl⟩:=rx
 obtain ⟨t',rfl⟩:=ry
 have hle:i.length * n.toNat<=100 * 100000:=Nat.mul_le_mul h2 (by omega)
 refine P.mul_str (by rw [decide_eq_false (by omega),decide_eq_false (by omega)]; rfl) (fun hn _=>?_) (fun _ _=>?_) ?_
 ·have:((2 ^ 63 - 1:Int)) / n ≥ 100:=by
   rw [ge_iff_le,Int.le_ediv_iff_mul_le (by omega)]; omega
  intro hb
  have hb':(i.length:Int) > (2 ^ 63 - 1:Int) / n:=hb
  generalize (2 ^ 63 - 1:Int) / n = z at this hb'
  omega
 ·unfold Builtin.Str.tooLong
  rw [decide_eq_false]
  rw [sizeLine_eq]
  omega
 ·split
  ·rename_i hn
   have e:n.toNat = 0:=by omega
   rw [e] at q
   exact ⟨by decide,.str _,H,I.tok _,⟨_,rfl⟩,q⟩
  ·split
   ·rename_i hn hx
    have e:repS i n.toNat = i:=by
     simp only [Bool.or_eq_true,beq_iff_eq] at hx
     rcases hx with rfl | hx
     ·show (⟨#[] ++ i.cps⟩:Str) = i
      rw [Array.empty_append]
     ·have:i.cps = #[]:=Array.eq_empty_of_size_eq_zero hx
      unfold repS
      rw [this,foldl_none]
      obtain ⟨c⟩:=i
      simp only at this
      rw [this]
    rw [e] at q
    exact ⟨.str i,H,I,⟨_,rfl⟩,q⟩
   ·refine ⟨fits_reps ?_,.str _,H,I.tok _,⟨_,rfl⟩,q⟩
    unfold Builtin.Str.tooLong
    rw [decide_eq_false]
    rw [sizeLine_eq]
    omega
end
noncomputable abbrev Kk:=L2.Key
instance:LawfulBEq Kk where
 eq_of_beq:=fun {a b} h=>by
  cases a <;> cases b
  ·have h:_ == _:=h
   exact congrArg Sum.inl (eq_of_beq h)
  ·cases h
  ·cases h
  ·exact congrArg Sum.inr (eq_of_beq (show _ == _ from h))
 rfl:=fun {a}=>by
  cases a
  ·exact beq_self_eq_true (α:=Int) _
  ·exact beq_self_eq_true (α:=Str) _
noncomputable def metK (val:Nat->Kk):Nat->List Kk
 | 0=>[]
 | i + 1=>if (metK val i).any (· == val i) then metK val i else metK val i ++ [val i]
theorem metK_le (val:Nat->Kk):∀ i,(metK val i).length<=i
 | 0=>Nat.le_refl _
 | i + 1=>by
  have:=metK_le val i
  unfold metK
  split
  ·omega
  ·rw [List.length_append]; simp only [List.length_cons,List.length_nil]; omega
theorem metK_any (val:Nat->Kk) (i:Nat) (k:Kk):(metK val (i + 1)).any (· == k) = ((metK val i).any (· == k) || decide (k = val i)):=by
 show (if (metK val i).any (· == val i) then metK val i else metK val i ++ [val i]).any (· == k) = _
 by_cases h:(metK val i).any (· == val i) = true
 ·rw [if_pos h]
  by_cases e:k = val i
  ·rw [e,h]; rfl
  ·rw [decide_eq_false e,Bool.or_false]
 ·rw [if_neg h,List.any_append,List.any_cons,List.any_nil,Bool.or_false]
  congr 1
  by_cases e:k = val i
  ·rw [e]; simp
  ·rw [decide_eq_false e]
   exact beq_eq_false_iff_ne.mpr fun z=>e z.symm
theorem metK_len (val:Nat->Kk) (i:Nat):(metK val (i + 1)).length = if (metK val i).any (· == val i) then (metK val i).length else (metK val i).length + 1:=by
 show (if (metK val i).any (· == val i) then metK val i else metK val i ++ [val i]).length = _
 split
 ·rfl
 ·rw [List.length_append]; rfl
section
variable {prog:Program} {w:World} {A:Around} {R:Result->Shared->Prop} {J:Addr} {fp wr:List Addr} {GG:Array GenState->Array GenState->Prop} {n:Nat} {P:Nat->Value->Prop} {St:Nat->Shared->Prop}
theorem set_loop (W:WalksS prog w A.in1 J fp wr GG n P St) (S:Addr) (hSf:S ∉ fp) (val:Nat->Kk)
  (hval:∀ i v,P i v->keyIs (val i) v = true/\v.scannable = true) (hb:n + 1 < scanBound):∀ (k i:Nat) (s:Shared),n - i = k->i<=n->St i s->
   s.heap.SetOf (mixKind prog w) S (fun z=>(metK val i).any (· == z)) (metK val i).length->
   (∀ s',Moved (S :: wr) GG s s'->s'.heap.SetOf (mixKind prog w) S (fun z=>(metK val n).any (· == z)) (metK val n).length->R (.ok (.ret .none)) s')->
   codeAny (model prog w) A (.builtin "set.update.loop" ⟨[.ref S,.ref J],[]⟩) R s:=by
 have hw:S ∉ wr:=fun h=>hSf (W.sub _ h)
 have sb:∀ b ∈ wr,b ∈ S :: wr:=fun b hb=>List.mem_cons_of_mem _ hb
 intro k
 induction k with
 | zero=>
  intro i s hk hi st hS hR
  obtain rfl:i = n:=by omega
  refine codeAny_builtin F.entry_set_update_loop ?_
  rw [Around.under_plainId F.plain_set_update_loop _]
  show wpAny _ A.in1 (pyNext (.ref J) >>= _) _ _ s
  refine wpAny_bind (W.done s _ _ st fun s1 mv=>?_)
  show wpAny _ A.in1 (ret Value.none) _ _ s1
  refine wpAny_pure (hR s1 (mv.mono sb) ?_)
  obtain ⟨o,es,ep,t,ho,q⟩:=hS
  exact ⟨o,es,ep,t,mv.heap S _ hw ho,q⟩
 | succ k ih=>
  intro i s hk hi st hS hR
  have lt:i < n:=by omega
  refine codeAny_builtin F.entry_set_update_loop ?_
  rw [Around.under_plainId F.plain_set_update_loop _]
  show wpAny _ A.in1 (pyNext (.ref J) >>= _) _ _ s
  refine wpAny_bind (W.item i s _ _ lt st fun v s1 hp st1 mv=>?_)
  obtain ⟨hv1,hv2⟩:=hval i v hp
  have hS1:s1.heap.SetOf (mixKind prog w) S (fun z=>(metK val i).any (· == z)) (metK val i).length:=by
   obtain ⟨o,es,ep,t,ho,q⟩:=hS
   exact ⟨o,es,ep,t,mv.heap S _ hw ho,q⟩
  have room:(metK val i).length + 1 < scanBound:=by have:=metK_le val i; omega
  show wpAny _ A.in1 (holding [v] (setAdd S v) >>= _) _ _ s1
  refine wpAny_bind (wpAny_holding ?_)
  unfold setAdd
  refine wpAny_holding (wpAny_bind ((mixKind prog w).pyHash (k:=val i) hv1 ?_))
  refine wpAny_setAddHashed_of (knd:=mixKind prog w) (s:={ s1 with toks:=s1.toks + 1 }) hv1 hv2 hS1 room fun h' same hS2=>?_
  have hS3:=SetOf_congr (S':=fun z=>(metK val (i + 1)).any (· == z)) (n':=(metK val (i + 1)).length) hS2 (fun z=>(metK_any val i z).symm) (metK_len val i).symm
  refine wpAny_pure ⟨plainId_quiet F.plain_set_update_loop _,ih (i + 1) _ (by omega) lt (W.frame _ s1 _ _ st1 (Nat.le_succ _) fun b hb o e=>?_) hS3 fun s2 mv2 hS4=>hR s2 (Moved.trans W.gtrans ((mv.mono sb).then_heap (Nat.le_succ _) fun b o hb e=>?_) mv2) hS4⟩
  ·rw [same.2 b fun h:b = S=>hSf (h ▸ hb)]; exact e
  ·rw [same.2 b fun h:b = S=>hb (h ▸ List.mem_cons_self)]; exact e
end
section
variable {prog:Program} {w:World} {A:Around} {E:Value->Shared->Prop} {s:Shared}
noncomputable abbrev newSet (h:Heap) (led:Bool):Heap:=h.push { cls:=.type "set",dict:=none,data:=.set #[] 0 (.fresh 0 0 led) }
theorem set_list {l:Addr} {its:Array Value} {ks:List Kk} {Q:Value->Shared->Prop} (hh:A.handled = none) (hl:s.heap.IsList l its) (hk:∀ (i:Nat) v,its[i]? = some v->keyIs (ks.getD i (.inl 0)) v = true/\v.scannable = true) (hb:its.size + 1 < scanBound)
  (h:∀ (h':Heap) (tk:Nat),h'.SetOf (mixKind prog w) s.heap.objs.size (fun z=>(metK (fun i=>ks.getD i (.inl 0)) its.size).any (· == z)) (metK (fun i=>ks.getD i (.inl 0)) its.size).length->
   (∀ b o,b < s.heap.objs.size->s.heap.get? b = some o->h'.get? b = some o)->Q (.ref s.heap.objs.size) { s with heap:=h',toks:=tk }) :
  wpAny (model prog w) A (call (.type "set") [.ref l]) Q E s:=by
 obtain ⟨c,tl,hmro⟩:=PySem.F.called_set.mro
 have hmade:=PySem.F.called_set.made
 have hsub:=PySem.F.called_set.sub
 refine wpAny_call (codeAny_of_tree ?_)
 show wpAny _ _ (callAny (.type "set") _) _ _ _
 refine wpAny_pure ⟨Code.quiet_builtin _ (by decide +kernel),codeAny_builtin PySem.F.entry_type_call ?_⟩
 rw [Around.under_plain (weight_type_call_type "set" [.ref l] []) rfl]
 have h1:=PySem.F.called_set.notType
 have h2:=PySem.F.called_set.canCreate
 have hct:=PySem.F.typeCall_set_1 (.ref l)
 repeat (any_goals (first | assumption | wp_step))
 refine codeAny_mono (code_set_new_1 (.ref l) (E:=E) (Q₁:=fun r s₁=>∃ led:Bool,r = .ref s.heap.objs.size/\s₁ = { s with heap:=newSet s.heap led }) fun led=>⟨led,rfl,rfl⟩) fun r s₁ hr=>?_
 cases r with
 | error e=>exact hr
 | ok fl=>
  cases fl with
  | ret obj=>
   obtain ⟨led,rfl,rfl⟩:=hr
   have hS:(newSet s.heap led).get? s.heap.objs.size = some _:=Heap.get?_push_size _ rfl
   have hT:Shared.TypeIs { s with heap:=newSet s.heap led } (.ref s.heap.objs.size) "set":=⟨_,hS,rfl⟩
   have hli:=PySem.F.called_set.init.lookup
   have hbi:=PySem.F.called_set.init.bind (.ref s.heap.objs.size)
   repeat (any_goals (first | assumption | wp_step))
   refine codeAny_mono (codeAny_call_builtin (R:=wants (fun r s₂=>r = .none/\∃ h' tk,s₂ = { s with heap:=h',toks:=tk }/\h'.SetOf (mixKind prog w) s.heap.objs.size (fun z=>(metK (fun i=>ks.getD i (.inl 0)) its.size).any (· == z)) (metK (fun i=>ks.getD i (.inl 0)) its.size).length/\(∀ b o,b < s.heap.objs.size->s.heap.get? b = some o->h'.get? b = some o)) E) PySem.F.called_set.init.plain PySem.F.entry_set_init (check_set_init_1 hT ?_)) fun r₂ s₂ hr₂=>?_
   ·obtain ⟨⟨ocls,odict,odata,oslots⟩,hol,hcl,nl,hdl⟩:=hl
    simp only at hcl hdl
    subst hcl
    subst hdl
    have hol1:=Heap.get?_push_of_some { cls:=.type "set",dict:=none,data:=.set #[] 0 (.fresh 0 0 led) } hol
    have hl1:(newSet s.heap led).IsList l its:=⟨_,hol1,rfl,nl,rfl⟩
    have hsls:=PySem.F.sub_list_set
    have hslf:=PySem.F.sub_list_frozenset
    have hne:(Value.type "list" == Value.type "dict") = false:=by decide
    unfold Builtin.«set.__init__» noKeywords Builtin.Frozenset.updateFrom
    generalize hPI:pyIter = PI
    wp_walk
    subst hPI
    refine wpAny_pyIter_list hl1 (wpAny_bind (wpAny_runValue ?_))
    have lt:l < s.heap.objs.size:=Heap.lt_size hol
    have sz:(newSet s.heap led).objs.size = s.heap.objs.size + 1:=Heap.size_push ..
    refine set_loop (Walks.list (by simp [hh]) _ l (by rw [sz]; exact Nat.ne_of_lt (Nat.lt_succ_of_lt lt)) its).toS s.heap.objs.size (by rw [sz]; simp only [List.mem_cons,List.not_mem_nil,or_false,not_or]; exact ⟨Nat.ne_of_lt (Nat.lt_succ_self _),Nat.ne_of_gt lt⟩) (fun i=>ks.getD i (.inl 0)) hk hb (its.size - 0) 0 _ (by omega) (Nat.zero_le _) ⟨⟨_,Heap.get?_push_size _ rfl,rfl,rfl⟩,hl1.push _⟩ ?_ fun s' mv hS'=>?_
    ·have g1:=Heap.get?_push_of_some ({ cls:=.type "list_iterator",data:=.fields #[.ref l,.int 0 0] }:Obj) hS
     exact SetOf_congr ((setObjOf_fresh (knd:=mixKind prog w) led).setOf g1 (by unfold scanBound; omega)) (fun _=>rfl) rfl
    ·obtain ⟨h',g',d',tk',os'⟩:=s'
     obtain rfl:g' = s.gens:=mv.gens
     obtain rfl:d' = s.drawn:=mv.drawn
     obtain rfl:os' = s.os:=mv.os
     show wpAny _ _ _ _ _ _
     refine wpAny_pure ?_
     show wpAny _ _ (ret Value.none) _ _ _
     refine wpAny_pure ⟨rfl,h',tk',rfl,hS',fun b o hb e=>mv.heap b o ?_ (Heap.get?_push_of_some _ (Heap.get?_push_of_some _ e))⟩
     rw [sz]
     simp only [List.mem_cons,List.not_mem_nil,or_false,not_or]
     exact ⟨Nat.ne_of_lt hb,Nat.ne_of_lt (Nat.lt_succ_of_lt hb)⟩
   ·cases r₂ with
    | error e=>exact hr₂
    | ok fl₂=>
     cases fl₂ with
     | ret r=>
      obtain ⟨rfl,h',tk,rfl,hS',hk'⟩:=hr₂
      repeat (any_goals (first | assumption | wp_step))
      exact h _ _ hS' hk'
     | _=>exact hr₂.elim
  | _=>exact hr.elim
end
noncomputable def cntK (ks:List Kk):Nat:=(metK (fun i=>ks.getD i (.inl 0)) ks.length).length
section
variable {X:Cx}
noncomputable def tLset (ta:TA):TE:=fun σ H Q=>ta σ H fun vs H1=>∃ l ks,vs = [.ref l]/\SqL X.K H1 l (ks.map kV)/\ks.length<=4000/\Q (.int (cntK ks)) H1
theorem pe_lset {a:Expr} {ta:TA} {p p2 pos pos2:Pos} (hc:X.calm = true) (hg:Gl X "len") (hm:X.mg "len" = none) (hg2:Gl X "set") (hm2:X.mg "set" = none) (ha:PA X [a] ta) (hs:starEach [a] X.env = [(false,eval a X.env)])
  (hs2:starEach [.Call (.Name "set" p2) [a] [] pos2] X.env = [(false,eval (.Call (.Name "set" p2) [a] [] pos2) X.env)]:=by rfl) :
  PE X (.Call (.Name "len" p) [.Call (.Name "set" p2) [a] [] pos2] [] pos) (tLset (X:=X) ta):=by
 intro pins s σ H Q I h
 refine Call_ (ld_blt I hg hm boot_len (PyProof.Rows.callWith_builtin1 ?_ hs2 rfl))
 rw [hs2]
 refine Calls.spliced_cons ?_
 refine Call_ (ld_blt I hg2 hm2 PyProof.Rows.boot_set (PyProof.Rows.callWith_type1 (thn (ha pos2 pins s σ H _ I h) fun us s1 ⟨vs,H1,I1,r1,l,ks,e,hq,hz,q⟩=>?_) hs rfl))
 subst e
 obtain ⟨u,rfl,ru⟩:=r1.one
 cases ru
 obtain ⟨its,rv,pl,_⟩:=I1.list hq
 have hlen:its.length = ks.length:=by have:=rv.length; simpa using this.symm
 have hh:X.A.handled = none:=I1.ok.hd hc
 refine set_list (ks:=ks) hh pl.isList (fun i v hv=>?_) (by rw [List.size_toArray,hlen]; unfold scanBound; omega) fun h' tk hS hk=>Calls.spliced_nil ?_
 ·have hi:i < its.length:=by
   have:=(Array.getElem?_eq_some_iff.mp hv).1
   simpa using this
  have hi2:i < ks.length:=by omega
  obtain ⟨u,e1,e2⟩:=rv.get (show (ks.map kV)[i]? = some (kV ks[i]) by rw [List.getElem?_map,List.getElem?_eq_getElem hi2]; rfl)
  rw [List.getElem?_toArray] at hv
  rw [hv] at e1
  cases e1
  rw [List.getD_eq_getElem?_getD,List.getElem?_eq_getElem hi2]
  show keyIs ks[i] v = true/\_
  cases hki:ks[i] with
  | inl z=>rw [hki] at e2; obtain ⟨t,rfl⟩:=e2; exact ⟨keyIs_int z t,rfl⟩
  | inr z=>rw [hki] at e2; obtain ⟨t,rfl⟩:=e2; exact ⟨keyIs_str z t,rfl⟩
 ·have hsz:its.toArray.size = ks.length:=by rw [List.size_toArray,hlen]
  rw [hsz] at hS
  obtain ⟨o,ho,hex,es,ep,t,hd,_,_,hn,hf⟩:=hS.objOf
  have hc:(metK (fun i=>ks.getD i (.inl 0)) ks.length).length<=ks.length:=metK_le _ _
  have I2:Inv X pins σ H1 { s1 with heap:=h',toks:=tk }:=I1.kept fun b o e=>hk b o (Heap.lt_size e) e
  refine call_len_set ho hex hd hf (by omega) ⟨.int _,H1,I2.tok _,⟨_,rfl⟩,?_⟩
  rw [hn]
  exact q
end
end G
set_option exponentiation.threshold 5000
namespace J
open PySem PySem.Spec L2
mutual
noncomputable def py:D->PyData
 | .non=>.none
 | .bl b=>.bool b
 | .int i=>.int i
 | .str x=>.str x
 | .scr ns=>.list (ns.map .int)
 | .nd .lst ds=>.list (pyL ds)
 | .nd .tup ds=>.tuple (pyL ds)
 | .nd (.dic _ _) _=>.dict []
 | .nd (.obj _ _) _=>.none
noncomputable def pyL:List D->List PyData
 | []=>[]
 | d :: ds=>py d :: pyL ds
end
mutual
noncomputable def pok:Nat->D->Bool
 | _,.non=>true
 | _,.bl _=>true
 | _,.int _=>true
 | _,.str x=>PyData.strOk x
 | n,.scr _=>decide (1<=n)
 | n,.nd .lst ds=>decide (1<=n) && pokL (n - 1) ds
 | n,.nd .tup ds=>decide (1<=n) && pokL (n - 1) ds
 | _,.nd (.dic _ _) _=>false
 | _,.nd (.obj _ _) _=>false
noncomputable def pokL:Nat->List D->Bool
 | _,[]=>true
 | n,d :: ds=>pok n d && pokL n ds
end
section
variable {X:Cx} {pins:List (Addr × Obj)} {σ:L2.St} {H:Hp} {s:Shared} {S:Pr}
theorem readsAll_ints {h:Heap}:∀ {ns:List Int} {us:List Value},Vals (ns.map V.int) us->∃ as,ReadsAll h us (ns.map .int) as
 | [],_,.nil=>⟨_,.nil⟩
 | n :: ns,_,.cons r t=>by
  obtain ⟨t',e⟩:=(show ∃ t,_ = Value.int n t from r)
  subst e
  obtain ⟨as,q⟩:=readsAll_ints t
  exact ⟨_,.cons (.int n t') q⟩
theorem int_lay:∀ ns:List Int,PyData.canLayAll0 (ns.map .int) = true/\PyData.depthAll (ns.map .int) = 0
 | []=>by simp [PyData.canLayAll0,PyData.depthAll]
 | n :: ns=>by
  have:=int_lay ns
  simp [PyData.canLayAll0,PyData.depthAll,PyData.canLay0,PyData.depth,this]
mutual
theorem reads_of (I:Inv X pins σ H s):∀ {d:D} {n:Nat} {v:V} {u:Value},pok n d = true->Rp X.K H S d v->RelV v u->(∃ as,Reads s.heap u (py d) as)/\(py d).canLay0 = true/\(py d).depth<=n
 | .non,n,v,u,_,r,e=>by unfold Rp at r; subst r; cases e; simp only [py]; exact ⟨⟨_,.none⟩,by simp [PyData.canLay0],by simp [PyData.depth]⟩
 | .bl b,n,v,u,_,r,e=>by unfold Rp at r; subst r; cases e; simp only [py]; exact ⟨⟨_,.bool b⟩,by simp [PyData.canLay0],by simp [PyData.depth]⟩
 | .int i,n,v,u,_,r,e=>by unfold Rp at r; subst r; obtain ⟨t,rfl⟩:=e; simp only [py]; exact ⟨⟨_,.int i t⟩,by simp [PyData.canLay0],by simp [PyData.depth]⟩
 | .str x,n,v,u,h,r,e=>by unfold Rp at r; subst r; obtain ⟨t,rfl⟩:=e; simp only [py]; exact ⟨⟨_,.str x t⟩,by simpa [PyData.canLay0,pok] using h,by simp [PyData.depth]⟩
 | .scr ns,n,v,u,h,r,e=>by
  unfold Rp at r
  obtain ⟨a,rfl,r⟩:=r
  cases e
  have q:SqL X.K H a (ns.map V.int):=r.elim (fun r=>.inl r.2) .inr
  obtain ⟨its,vs,⟨o,m,g1,g2,g3,g4⟩,z⟩:=I.list q
  obtain ⟨as,ra⟩:=readsAll_ints (h:=s.heap) vs
  simp only [py]
  have hn:1<=n:=by simpa [pok] using h
  exact ⟨⟨_,.list g1 g2 g4 (by simpa using ra)⟩,by simpa [PyData.canLay0] using (int_lay ns).1,by simp [PyData.depth,(int_lay ns).2,hn]⟩
 | .nd .lst ds,n,v,u,h,r,e=>by
  unfold Rp at r
  obtain ⟨a,o,xs,rfl,na,g,q,rl⟩:=r
  cases e
  have q:o = .lst xs:=q
  subst q
  obtain ⟨its,vs,⟨o,m,g1,g2,g3,g4⟩,z⟩:=I.list (SqL.of g)
  simp only [pok,Bool.and_eq_true,decide_eq_true_eq] at h
  obtain ⟨⟨as,ra⟩,l1,l2⟩:=reads_ofL I h.2 rl vs
  simp only [py]
  exact ⟨⟨_,.list g1 g2 g4 (by simpa using ra)⟩,by simpa [PyData.canLay0] using l1,by simp only [PyData.depth]; omega⟩
 | .nd .tup ds,n,v,u,h,r,e=>by
  unfold Rp at r
  obtain ⟨a,o,xs,rfl,na,g,q,rl⟩:=r
  cases e
  have q:o = .tup xs:=q
  subst q
  obtain ⟨its,vs,⟨o,g1,g2,m,g4⟩,z⟩:=I.tuple (SqT.of g)
  simp only [pok,Bool.and_eq_true,decide_eq_true_eq] at h
  obtain ⟨⟨as,ra⟩,l1,l2⟩:=reads_ofL I h.2 rl vs
  simp only [py]
  exact ⟨⟨_,.tuple g1 g2 g4 (by simpa using ra)⟩,by simpa [PyData.canLay0] using l1,by simp only [PyData.depth]; omega⟩
 | .nd (.dic _ _) _,n,v,u,h,r,e=>by simp [pok] at h
 | .nd (.obj _ _) _,n,v,u,h,r,e=>by simp [pok] at h
theorem reads_ofL (I:Inv X pins σ H s):∀ {ds:List D} {n:Nat} {xs:List V} {us:List Value},pokL n ds = true->RpL X.K H S ds xs->Vals xs us->(∃ as,ReadsAll s.heap us (pyL ds) as)/\PyData.canLayAll0 (pyL ds) = true/\PyData.depthAll (pyL ds)<=n
 | [],n,xs,us,_,r,e=>by rw [r.nil_inv] at e; cases e; simp only [pyL]; exact ⟨⟨_,.nil⟩,by simp [PyData.canLayAll0],by simp [PyData.depthAll]⟩
 | d :: ds,n,xs,us,h,r,e=>by
  obtain ⟨y,ys,rfl,r1,r2⟩:=r.cons_inv
  simp only [pokL,Bool.and_eq_true] at h
  cases e with
  | cons e1 e2=>
   obtain ⟨⟨as,ra⟩,l1,l2⟩:=reads_of I h.1 r1 e1
   obtain ⟨⟨bs,rb⟩,m1,m2⟩:=reads_ofL I h.2 r2 e2
   simp only [pyL]
   exact ⟨⟨_,.cons ra rb⟩,by simp [PyData.canLayAll0,l1,m1],by simp only [PyData.depthAll]; omega⟩
end
end
noncomputable def eqD (x y:D):Bool:=PyData.eqv (py x) (py y)
noncomputable def lim:Nat:=2 ^ 4000
noncomputable abbrev flatO:Ow:=.own [] .fz
noncomputable def flatK:Ow->Bool
 | .fz=>true
 | .own es r=>es.all isFz && isFz r
noncomputable def okE:Kd->List D->Bool
 | .bo _ k,ds=>flatK k || imL ds
 | _,_=>true
noncomputable abbrev KD:=Kd × D
noncomputable def intOp:Operator->Int->Int->Option Int
 | .Add,i,j=>some (i + j)
 | .Sub,i,j=>some (i - j)
 | .Mult,i,j=>if i.natAbs < lim/\j.natAbs < lim then some (i * j) else none
 | .FloorDiv,i,j=>if 0 < j/\j.natAbs < lim then some (i / j) else none
 | .Mod,i,j=>if 0 < j then some (i % j) else none
 | .LShift,i,j=>if 0<=j/\j<=1000000/\i.natAbs < lim then some (i * 2 ^ j.toNat) else none
 | .Pow,i,j=>if 0<=j/\j<=1000000/\i.natAbs < 2 ^ 64 then some (i ^ j.toNat) else none
 | .RShift,i,j=>if 0<=j then some (i / 2 ^ j.toNat) else none
 | .BitAnd,i,j=>some (Builtin.bitAnd i j)
 | .BitOr,i,j=>some (Builtin.bitOr i j)
 | .BitXor,i,j=>some (Builtin.bitXor i j)
 | _,_,_=>none
noncomputable def lstOp (op:Operator) (k:Kd) (xs:List D) (y:KD):Option KD:=match op with
 | .Add=>(match y.2 with
  | .nd hd ys=>(match hd with
   | .lst=>if okE k xs = true/\okE y.1 ys = true/\xs.length + ys.length<=100000 then some (.fr flatO,.lst (xs ++ ys)) else none
   | _=>none)
  | _=>none)
 | .Mult=>(match y.2 with
  | .int n=>if okE k xs = true/\0<=n/\n<=100000/\xs.length * n.toNat<=100000 then some (.fr flatO,.lst (List.replicate n.toNat xs).flatten) else none
  | _=>none)
 | _=>none
noncomputable def tupOp (op:Operator) (k:Kd) (xs:List D) (y:KD):Option KD:=match op with
 | .Add=>(match y.2 with
  | .nd hd ys=>(match hd with
   | .tup=>if okE k xs = true/\okE y.1 ys = true/\xs.length + ys.length<=100000 then some (.sh,.tup (xs ++ ys)) else none
   | _=>none)
  | _=>none)
 | _=>none
noncomputable def strOp (op:Operator) (i:Str) (y:D):Option KD:=match op with
 | .Add=>(match y with | .str j=>if i.length + j.length<=100000 then some (.sh,.str (i ++ j)) else none | _=>none)
 | .Mult=>(match y with | .int n=>if n<=100000/\0<=n/\i.length<=100 then some (.sh,.str (G.repS i n.toNat)) else none | _=>none)
 | _=>none
noncomputable def binD (op:Operator) (x y:KD):Option KD:=match x.2 with
 | .int i=>(match y.2 with | .int j=>(match intOp op i j with | some z=>some (.sh,.int z) | none=>none) | _=>none)
 | .nd hd xs=>(match hd with | .lst=>lstOp op x.1 xs y | .tup=>tupOp op x.1 xs y | _=>none)
 | .str i=>strOp op i y.2
 | _=>none
theorem int_bin {op:Operator} {i j z:Int} {k k':Kd} (h:intOp op i j = some z):binD op (k,.int i) (k',.int j) = some (.sh,.int z):=by
 show (match intOp op i j with | some z=>some (Kd.sh,D.int z) | none=>none) = _
 rw [h]
theorem ifS {p:Prop} [Decidable p] {α:Type} {a b:α} (h:(if p then some a else none) = some b):p/\b = a:=by
 by_cases hp:p
 ·rw [if_pos hp] at h; cases h; exact ⟨hp,rfl⟩
 ·rw [if_neg hp] at h; cases h
theorem size_small {n:Nat} (h:n<=100000):n<=sizeLine:=Nat.le_trans h (by decide)
section
variable {K:PySem.W.Frag} {H H' H0:Hp} {S:Pr} {g:Gh}
theorem Rp.int {i:Int} {v:V} (h:Rp K H S (.int i) v):v = .int i:=by unfold Rp at h; exact h
theorem Rp.bl {i:Bool} {v:V} (h:Rp K H S (.bl i) v):v = .bl i:=by unfold Rp at h; exact h
theorem Rp.str {i:Str} {v:V} (h:Rp K H S (.str i) v):v = .str i:=by unfold Rp at h; exact h
theorem Rp.non {v:V} (h:Rp K H S .non v):v = .non:=by unfold Rp at h; exact h
theorem Rp.nd {hd:Hd} {ds:List D} {v:V} (h:Rp K H S (.nd hd ds) v):∃ a o xs,v = .ref a/\¬ S a/\H a = some o/\HdOk K o hd xs/\RpL K H S ds xs:=by unfold Rp at h; exact h
theorem Rp.scr {ns:List Int} {v:V} (h:Rp K H S (.scr ns) v):∃ a,v = .ref a/\SqL K H a (ns.map V.int):=by
 unfold Rp at h
 obtain ⟨a,e,h⟩:=h
 exact ⟨a,e,h.elim (fun h=>.inl h.2) .inr⟩
theorem vInt {i:Int}:VR K g H0 H .sh (.int i) (.int i):=⟨fun _=>False,fun _ z=>z.elim,fun _ z=>z,by unfold Rp; rfl⟩
theorem vBl {i:Bool}:VR K g H0 H .sh (.bl i) (.bl i):=⟨fun _=>False,fun _ z=>z.elim,fun _ z=>z,by unfold Rp; rfl⟩
theorem vStr {i:Str}:VR K g H0 H .sh (.str i) (.str i):=⟨fun _=>False,fun _ z=>z.elim,fun _ z=>z,by unfold Rp; rfl⟩
theorem vNon:VR K g H0 H .sh .non .non:=⟨fun _=>False,fun _ z=>z.elim,fun _ z=>z,by unfold Rp; rfl⟩
theorem vSh {d:D} {v:V} (h:Rp K H (Sg g) d v):VR K g H0 H .sh d v:=⟨fun _=>False,fun _ z=>z.elim,fun _ z=>z,h.weak fun b z=>z.elim id fun z=>z.elim⟩
theorem same_upd {p:Addr} {o:HO} (hp:H p = none):Same H (upd H p o):=fun b u q=>by rw [upd_ne (ne_of_none q hp)]; exact q
theorem TrL.ofFz:∀ {ds:List D} {xs:List V},RpL K H S ds xs->TrL K H S ds [] .fz xs fun _=>False
 | [],_,h=>by unfold TrL; exact ⟨h.nil_inv,fun _ z=>z⟩
 | d :: ds,_,h=>by
  obtain ⟨y,ys,rfl,r,t⟩:=h.cons_inv
  unfold TrL
  exact ⟨y,ys,_,_,rfl,fun b=>⟨.inl,fun z=>z.elim id id⟩,fun _ z=>z.elim,Tr.fz r,TrL.ofFz t⟩
theorem vNew {p:Addr} {ds:List D} {xs:List V} (hp:H p = none) (r:RpL K H (Sg g) ds xs):VR K g H (upd H p (.lst xs)) (.fr flatO) (.lst ds) (.ref p):=by
 refine ⟨fun b=>b = p,fun b z=>z ▸ hp,?_⟩
 show Tr K _ _ _ _ _ _
 unfold Tr
 refine ⟨p,_,xs,fun _=>False,rfl,upd_same,rfl,fun _ z=>z,(fun h=>nomatch h),fun b=>⟨fun z=>.inl ⟨rfl,z⟩,fun z=>z.elim (fun z=>z.2) fun z=>z.elim⟩,.ofFz (r.go fun b o n e=>⟨same_upd hp b o e,fun z=>z.elim n fun z=>?_⟩)⟩
 subst z; rw [hp] at e; cases e
theorem vTup {p:Addr} {ds:List D} {xs:List V} (m:MuOk H (Sg g)) (hp:H p = none) (r:RpL K H (Sg g) ds xs):VR K g H (upd H p (.tup xs)) .sh (.tup ds) (.ref p):=by
 refine vSh ?_
 unfold Rp
 refine ⟨p,_,xs,rfl,fun z=>?_,upd_same,rfl,r.same (same_upd hp)⟩
 obtain ⟨o,e,_⟩:=m p z
 rw [hp] at e; cases e
theorem flat_fz {es:List Ow} {r:Ow} (h:flatK (.own es r) = true):(∀ e ∈ es,e = .fz)/\r = .fz:=by
 simp only [flatK,Bool.and_eq_true,List.all_eq_true] at h
 exact ⟨fun e he=>isFz_eq (h.1 e he),isFz_eq h.2⟩
theorem TrL.flat:∀ {ds:List D} {es:List Ow} {xs:List V} {F:Pr},(∀ e ∈ es,e = .fz)->TrL K H S ds es .fz xs F->(∀ b,¬ F b)/\RpL K H S ds xs
 | [],_,_,_,_,h=>by unfold TrL at h; exact ⟨h.2,by rw [h.1]; exact .nil⟩
 | d :: ds,es,_,_,he,h=>by
  unfold TrL at h
  obtain ⟨y,ys,F1,F2,rfl,hF,dj,h1,h2⟩:=h
  have e:es.headD .fz = .fz:=by
   cases es with
   | nil=>rfl
   | cons a r=>exact he a (.head _)
  rw [e] at h1
  obtain ⟨n1,r1⟩:=h1.fz_inv
  obtain ⟨n2,r2⟩:=TrL.flat (fun e q=>he e (by cases es with | nil=>cases q | cons a r=>exact .tail _ q)) h2
  exact ⟨fun b z=>((hF b).mp z).elim (n1 b) (n2 b),.cons r1 r2⟩
theorem VR.items {kd:Kd} {hd:Hd} {ds:List D} {v:V} (ok:okE kd ds = true) (m:MuOk H0 (Sg g)) (s:Same H0 H) (h:VR K g H0 H kd (.nd hd ds) v):∃ a o xs,v = .ref a/\H a = some o/\HdOk K o hd xs/\RpL K H (Sg g) ds xs:=by
 have ns:∀ {kd':Kd},okS kd' (.nd hd ds) = true->VR K g H0 H kd' (.nd hd ds) v->∃ a o xs,v = .ref a/\H a = some o/\HdOk K o hd xs/\RpL K H (Sg g) ds xs:=fun ok h=>by
  obtain ⟨a,o,xs,e,_,q1,q2,q3⟩:=(h.sh ok m s).nd
  exact ⟨a,o,xs,e,q1,q2,q3⟩
 cases kd with
 | sh=>exact ns rfl h
 | fr k=>exact ns rfl h
 | bo i k=>
  simp only [okE,Bool.or_eq_true] at ok
  rcases ok with ok | ok
  ·obtain ⟨F,h1,h2,F0,h3,h4⟩:=h
   cases k with
   | fz=>
    obtain ⟨_,r⟩:=h4.fz_inv
    obtain ⟨a,o,xs,e,_,q1,q2,q3⟩:=r.nd
    exact ⟨a,o,xs,e,q1,q2,q3.weak fun b z=>.inl z⟩
   | own es r=>
    obtain ⟨he,rfl⟩:=flat_fz ok
    unfold Tr at h4
    obtain ⟨a,o,xs,F',e,q1,q2,n1,n2,hF,t⟩:=h4
    exact ⟨a,o,xs,e,q1,q2,(t.flat he).2.weak fun b z=>.inl z⟩
  ·obtain ⟨a,o,xs,e,_,q1,q2,q3⟩:=h.rd.nd
   exact ⟨a,o,xs,e,q1,q2,q3.im (m.same s) ok⟩
end
noncomputable def rBin (K:PySem.W.Frag) (op:Operator):R2:=fun x y H Q=>∃ g H0 kx ky kd d,MuOk H0 (Sg g)/\Same H0 H/\VR K g H0 H kx.1 kx.2 x/\VR K g H0 H ky.1 ky.2 y/\binD op kx ky = some (kd,d)/\∀ v H',Same H H'->VR K g H H' kd d v->Q v H'
theorem mulOk {i j:Int} (h:i.natAbs < lim/\j.natAbs < lim):IntMulOk i j:=
 IntMulOk.of_bits (Nat.le_trans (PyProof.Rows.intBits_le (k:=4000) h.1) (by decide)) (Nat.le_trans (PyProof.Rows.intBits_le (k:=4000) h.2) (by decide))
theorem log_lim {j:Int} (h:j.natAbs < lim):j.natAbs.log2 < 9000:=by
 by_cases z:j.natAbs = 0
 ·rw [z]; decide
 ·exact Nat.lt_of_lt_of_le ((Nat.log2_lt z).mpr h) (by decide)
theorem op_mulW {X:Cx}:OpR X (binaryOp .Mult) (rI (fun i j=>i.natAbs < lim/\j.natAbs < lim) fun i j=>.int (i * j)):=opI fun _ _ _ _ _ _ _ hc q=>PyProof.Rows.mul_int q (mulOk hc)
theorem op_fdivW {X:Cx}:OpR X (binaryOp .FloorDiv) (rI (fun i j=>0 < j/\j.natAbs < lim) fun i j=>.int (i / j)):=opI fun i j _ _ _ _ _ hc q=>by
 have h1:(0:Int) < j:=hc.1
 exact PyProof.Rows.floordiv_int (by omega) (by rw [Int.fdiv_eq_ediv_of_nonneg i (by omega)]; exact q) (.inl (PyProof.noPylong_of_log2 (log_lim hc.2)))
theorem op_shlW {X:Cx}:OpR X (binaryOp .LShift) (rI (fun i j=>0<=j/\j<=1000000/\i.natAbs < lim) fun i j=>.int (i * 2 ^ j.toNat)):=opI fun i j _ _ _ _ _ hc q=>by
 have hb:=PyProof.Rows.intBits_le (k:=4000) hc.2.2
 exact PyProof.Rows.lshift_int hc.1 (by have:=hc.2.1; omega) q
theorem op_bin {X:Cx} (op:Operator):OpR X (binaryOp op) (rBin X.K op):=by
 intro pins s σ H x y v u Q I rx ry h
 obtain ⟨g,H0,⟨kx,dx⟩,⟨ky,dy⟩,kd,d,m,sm,tx,ty,hb,q⟩:=h
 dsimp only at tx ty
 cases dx with
 | int i=>cases dy with
  | int j=>
   obtain ⟨rfl,rfl⟩:x = .int i/\y = .int j:=⟨tx.rd.int,ty.rd.int⟩
   have hb:(match intOp op i j with | some z=>some (Kd.sh,D.int z) | none=>none) = some (kd,d):=hb
   cases hz:intOp op i j with
   | none=>rw [hz] at hb; cases hb
   | some z=>
    rw [hz] at hb
    cases hb
    have q:Q (.int z) H:=q _ H (Same.refl H) vInt
    cases op with
    | Add=>cases hz; exact op_add pins s σ H _ _ v u Q I rx ry ⟨_,_,rfl,rfl,q⟩
    | Sub=>cases hz; exact op_sub pins s σ H _ _ v u Q I rx ry ⟨_,_,rfl,rfl,q⟩
    | Mult=>obtain ⟨hm,rfl⟩:=ifS (show (if _ then some (i * j) else none) = some z from hz); exact op_mulW pins s σ H _ _ v u Q I rx ry ⟨_,_,rfl,rfl,hm,q⟩
    | FloorDiv=>obtain ⟨hm,rfl⟩:=ifS (show (if _ then some (i / j) else none) = some z from hz); exact op_fdivW pins s σ H _ _ v u Q I rx ry ⟨_,_,rfl,rfl,hm,q⟩
    | Mod=>obtain ⟨hm,rfl⟩:=ifS (show (if _ then some (i % j) else none) = some z from hz); exact op_mod pins s σ H _ _ v u Q I rx ry ⟨_,_,rfl,rfl,hm,q⟩
    | LShift=>obtain ⟨hm,rfl⟩:=ifS (show (if _ then some (i * 2 ^ j.toNat) else none) = some z from hz); exact op_shlW pins s σ H _ _ v u Q I rx ry ⟨_,_,rfl,rfl,hm,q⟩
    | Pow=>obtain ⟨hm,rfl⟩:=ifS (show (if _ then some (i ^ j.toNat) else none) = some z from hz); exact op_pow pins s σ H _ _ v u Q I rx ry ⟨_,_,rfl,rfl,hm,q⟩
    | RShift=>obtain ⟨hm,rfl⟩:=ifS (show (if _ then some (i / 2 ^ j.toNat) else none) = some z from hz); exact op_shr pins s σ H _ _ v u Q I rx ry ⟨_,_,rfl,rfl,hm,q⟩
    | BitAnd=>cases hz; exact op_and pins s σ H _ _ v u Q I rx ry ⟨_,_,rfl,rfl,q⟩
    | BitOr=>cases hz; exact op_or pins s σ H _ _ v u Q I rx ry ⟨_,_,rfl,rfl,q⟩
    | BitXor=>cases hz; exact op_xor pins s σ H _ _ v u Q I rx ry ⟨_,_,rfl,rfl,q⟩
    | _=>cases hz
  | _=>cases hb
 | nd hd xs=>cases hd with
  | lst=>cases op with
   | Add=>cases dy with
    | nd hd' ys=>cases hd' with
     | lst=>
      obtain ⟨hz,e⟩:=ifS (show (if _ then some (Kd.fr flatO,D.lst (xs ++ ys)) else none) = some (kd,d) from hb)
      cases e
      obtain ⟨a,o,us,rfl,ga,qa,ra⟩:=tx.items hz.1 m sm
      obtain ⟨b,o',vs,rfl,gb,qb,rb⟩:=ty.items hz.2.1 m sm
      cases (show o = _ from qa)
      cases (show o' = _ from qb)
      refine op_cat pins s σ H _ _ v u Q I rx ry ⟨a,b,us,vs,rfl,rfl,ga,gb,by rw [ra.len,rb.len]; exact size_small hz.2.2,fun p hp=>q _ _ (same_upd hp) (vNew hp (ra.append rb))⟩
     | _=>cases hb
    | _=>cases hb
   | Mult=>cases dy with
    | int n=>
     obtain ⟨hz,e⟩:=ifS (show (if _ then some (Kd.fr flatO,D.lst (List.replicate n.toNat xs).flatten) else none) = some (kd,d) from hb)
     cases e
     obtain ⟨a,o,us,rfl,ga,qa,ra⟩:=tx.items hz.1 m sm
     cases (show o = _ from qa)
     obtain rfl:=ty.rd.int
     refine op_rep pins s σ H _ _ v u Q I rx ry ⟨a,_,us,rfl,rfl,ga,by omega,by omega,by rw [ra.len]; exact size_small hz.2.2.2,fun p hp=>q _ _ (same_upd hp) (vNew hp (ra.rep _))⟩
    | _=>cases hb
   | _=>cases hb
  | tup=>cases op with
   | Add=>cases dy with
    | nd hd' ys=>cases hd' with
     | tup=>
      obtain ⟨hz,e⟩:=ifS (show (if _ then some (Kd.sh,D.tup (xs ++ ys)) else none) = some (kd,d) from hb)
      cases e
      obtain ⟨a,o,us,rfl,ga,qa,ra⟩:=tx.items hz.1 m sm
      obtain ⟨b,o',vs,rfl,gb,qb,rb⟩:=ty.items hz.2.1 m sm
      cases (show o = _ from qa)
      cases (show o' = _ from qb)
      by_cases hx:xs = []
      ·subst hx
       have hu:us = []:=List.length_eq_zero_iff.mp (by rw [ra.len]; rfl)
       subst hu
       refine op_catT0 pins s σ H _ _ v u Q I rx ry ⟨a,b,vs,rfl,rfl,.of ga,.of gb,?_⟩
       refine q _ H (Same.refl H) (vSh ?_)
       unfold Rp
       refine ⟨b,_,vs,rfl,fun z=>?_,gb,rfl,by simpa using rb⟩
       obtain ⟨o,e,n⟩:=m.same sm b z
       rw [gb] at e; cases e; exact n _ rfl
      refine op_catT pins s σ H _ _ v u Q I rx ry ⟨a,b,us,vs,rfl,rfl,.of ga,.of gb,fun e=>hx (by have:=ra.len; rw [e] at this; exact List.length_eq_zero_iff.mp this.symm),by rw [ra.len,rb.len]; exact size_small hz.2.2,fun e=>?_,fun _ p hp=>q _ _ (same_upd hp) (vTup (m.same sm) hp (ra.append rb))⟩
      subst e
      refine q _ H (Same.refl H) (vSh ?_)
      unfold Rp
      refine ⟨a,_,us,rfl,fun z=>?_,ga,rfl,by simpa using ra.append rb⟩
      obtain ⟨o,e,n⟩:=m.same sm a z
      rw [ga] at e; cases e; exact n _ rfl
     | _=>cases hb
    | _=>cases hb
   | _=>cases hb
  | _=>cases hb
 | str i=>
  obtain rfl:=tx.rd.str
  cases op with
  | Add=>cases dy with
   | str j=>
    obtain rfl:=ty.rd.str
    obtain ⟨hz,e⟩:=ifS (show (if _ then some (Kd.sh,D.str (i ++ j)) else none) = some (kd,d) from hb)
    cases e
    exact op_add_str pins s σ H _ _ v u Q I rx ry ⟨i,j,rfl,rfl,size_small hz,q _ H (Same.refl H) vStr⟩
   | _=>cases hb
  | Mult=>cases dy with
   | int n=>
    obtain rfl:=ty.rd.int
    obtain ⟨hz,e⟩:=ifS (show (if _ then some (Kd.sh,D.str (G.repS i n.toNat)) else none) = some (kd,d) from hb)
    cases e
    exact G.op_mulS pins s σ H _ _ v u Q I rx ry ⟨i,n,rfl,rfl,hz.1,hz.2.1,hz.2.2,q _ H (Same.refl H) vStr⟩
   | _=>cases hb
  | _=>cases hb
 | _=>cases hb
end J
namespace J
open PySem PySem.Spec L2
noncomputable def toKey:D->Option Key
 | .int i=>some (.inl i)
 | .str x=>some (.inr x)
 | _=>none
noncomputable def toKeys:List D->Option (List Key)
 | []=>some []
 | d :: ds=>match toKey d,toKeys ds with
  | some k,some ks=>some (k :: ks)
  | _,_=>none
noncomputable def toDK:D->Option DK
 | .nd .tup ds=>(toKeys ds).map .inr
 | d=>(toKey d).map .inl
noncomputable def findK (ks:List DK) (k:DK):Option Nat:=ks.findIdx? fun x=>decide (x = k)
section
variable {K:PySem.W.Frag} {H:Hp} {S:Pr}
theorem toKey_v {d:D} {k:Key} {v:V} (h:toKey d = some k) (r:Rp K H S d v):v = kV k:=by
 cases d <;> simp only [toKey] at h <;> first | (cases h; done) | (cases h; first | exact r.int | exact r.str)
theorem toKeys_v:∀ {ds:List D} {ks:List Key} {vs:List V},toKeys ds = some ks->RpL K H S ds vs->vs = ks.map kV
 | [],ks,vs,h,r=>by cases h; exact r.nil_inv
 | d :: ds,ks,vs,h,r=>by
  obtain ⟨y,ys,rfl,r1,r2⟩:=r.cons_inv
  unfold toKeys at h
  split at h
  ·rename_i k ks' e1 e2
   cases h
   rw [toKey_v e1 r1,toKeys_v e2 r2]; rfl
  ·cases h
theorem toDK_v {d:D} {k:DK} {v:V} (h:toDK d = some k) (r:Rp K H S d v):(∃ x,k = .inl x/\v = kV x)\/∃ xs b,k = .inr xs/\v = .ref b/\H b = some (.tup (xs.map kV)):=by
 have sc:∀ {d:D},(toKey d).map Sum.inl = some k->Rp K H S d v->(∃ x,k = .inl x/\v = kV x):=fun {d} h r=>by
  cases e:toKey d with
  | none=>rw [e] at h; cases h
  | some x=>rw [e] at h; cases h; exact ⟨x,rfl,toKey_v e r⟩
 unfold toDK at h
 split at h
 ·rename_i ds
  cases e:toKeys ds with
  | none=>rw [e] at h; cases h
  | some ks=>
   rw [e] at h
   cases h
   obtain ⟨a,o,xs,rfl,_,g,q,rl⟩:=r.nd
   cases (show o = _ from q)
   rw [toKeys_v e rl] at g
   exact .inr ⟨ks,a,rfl,rfl,g⟩
 ·exact .inl (sc h r)
end
theorem valV_find {κ:Type} [DecidableEq κ]:∀ (kvs:List (κ × V)) (k:κ),valV kvs k = (kvs.findIdx? fun kv=>decide (kv.1 = k)).bind fun i=>(kvs.map (·.2))[i]?
 | [],k=>rfl
 | (a,b) :: r,k=>by
  have ih:=valV_find r k
  unfold valV at ih ⊢
  rw [List.find?_cons,List.findIdx?_cons]
  by_cases h:a = k
  ·simp [h]
  ·simp only [h,decide_false]
   rw [ih]
   cases e:r.findIdx? fun kv=>decide (kv.1 = k) with
   | none=>simp
   | some i=>simp
noncomputable def fitK (t:Nat):DK->Bool
 | .inl _=>t == 0
 | .inr _=>t == 1
theorem dget_of {K:PySem.W.Frag} {H:Hp} {S:Pr} {a:Addr} {o:HO} {t:Nat} {ks:List DK} {xs:List V} {d:D} {k:DK} {v:V} (g:H a = some o) (q:HdOk K o (.dic t ks) xs) (h:toDK d = some k) (r:Rp K H S d v) (hk:fitK t k = true) :
  DGet H a v ((findK ks k).bind fun i=>xs[i]?):=by
 rcases q with ⟨rfl,kvs,rfl,e1,e2⟩ | ⟨rfl,kvs,rfl,e1,e2⟩
 ·rcases toDK_v h r with ⟨x,rfl,rfl⟩ | ⟨ys,b,rfl,rfl,gb⟩
  ·have:=DGet.k (k:=x) g
   rw [valV_find] at this
   have e3:findK ks (.inl x) = kvs.findIdx? fun kv=>decide (kv.1 = x):=by
    unfold findK
    rw [e1,List.findIdx?_map]
    congr 1
    funext p
    simp [Sum.inl.injEq]
   rw [e3,e2]
   exact this
  ·cases hk
 ·rcases toDK_v h r with ⟨x,rfl,rfl⟩ | ⟨ys,b,rfl,rfl,gb⟩
  ·cases hk
  ·have:=DGet.t (k:=ys) g gb
   rw [valV_find] at this
   have e3:findK ks (.inr ys) = kvs.findIdx? fun kv=>decide (kv.1 = ys):=by
    unfold findK
    rw [e1,List.findIdx?_map]
    congr 1
    funext p
    simp [Sum.inr.injEq]
   rw [e3,e2]
   exact this
theorem find_lt {ks:List DK} {k:DK} {i:Nat} (h:findK ks k = some i):i < ks.length:=by
 unfold findK at h
 exact (List.findIdx?_eq_some_iff_findIdx_eq.mp h).1
theorem dic_len {K:PySem.W.Frag} {o:HO} {t:Nat} {ks:List DK} {xs:List V} (q:HdOk K o (.dic t ks) xs):ks.length = xs.length:=by
 rcases q with ⟨rfl,kvs,rfl,e1,e2⟩ | ⟨rfl,kvs,rfl,e1,e2⟩ <;> rw [e1,e2,List.length_map,List.length_map]
theorem dget_isSome {ks:List DK} {k:DK} {xs:List V} (hl:ks.length = xs.length):((findK ks k).bind fun i=>xs[i]?).isSome = (findK ks k).isSome:=by
 cases e:findK ks k with
 | none=>rfl
 | some i=>
  have:=find_lt e
  rw [Option.bind_some,List.getElem?_eq_getElem (by omega)]
  rfl
noncomputable def isNon:D->Bool
 | .non=>true
 | _=>false
noncomputable def isBl (b:Bool):D->Bool
 | .bl c=>c == b
 | _=>false
noncomputable def cmpD (op:CmpOp) (x y:D):Option Bool:=
 match op with
 | .Lt=>(match x,y with | .int i,.int j=>some (decide (i < j)) | _,_=>none)
 | .LtE=>(match x,y with | .int i,.int j=>some (decide (i<=j)) | _,_=>none)
 | .Gt=>(match x,y with | .int i,.int j=>some (decide (j < i)) | _,_=>none)
 | .GtE=>(match x,y with | .int i,.int j=>some (decide (j<=i)) | _,_=>none)
 | .Eq=>if pok 90 x = true/\pok 90 y = true then some (eqD x y) else none
 | .NotEq=>if pok 90 x = true/\pok 90 y = true then some (!eqD x y) else none
 | .In=>(match y with
  | .nd .lst ds=>if pok 90 x = true/\pokL 90 ds = true then some (ds.any fun z=>eqD z x) else none
  | .nd .tup ds=>if pok 90 x = true/\pokL 90 ds = true then some (ds.any fun z=>eqD z x) else none
  | .nd (.dic t ks) _=>(match toDK x with | some k=>if fitK t k = true then some (findK ks k).isSome else none | none=>none)
  | .str j=>(match x with | .str i=>some (!(Builtin.Str.occurrences j i 0 j.length 1).isEmpty) | _=>none)
  | _=>none)
 | .NotIn=>(match y with
  | .nd .lst ds=>if pok 90 x = true/\pokL 90 ds = true then some (!(ds.any fun z=>eqD z x)) else none
  | .nd .tup ds=>if pok 90 x = true/\pokL 90 ds = true then some (!(ds.any fun z=>eqD z x)) else none
  | .nd (.dic t ks) _=>(match toDK x with | some k=>if fitK t k = true then some (!(findK ks k).isSome) else none | none=>none)
  | .str j=>(match x with | .str i=>some (!(!(Builtin.Str.occurrences j i 0 j.length 1).isEmpty)) | _=>none)
  | _=>none)
 | .Is=>(match y with
  | .non=>some (isNon x)
  | .bl b=>some (isBl b x)
  | _=>none)
 | .IsNot=>(match y with
  | .non=>some (!isNon x)
  | .bl b=>some (!isBl b x)
  | _=>none)
noncomputable abbrev Nv:Pr:=fun _=>False
noncomputable def rCmp (K:PySem.W.Frag) (op:CmpOp):R2:=fun x y H Q=>∃ dx dy b,Rp K H Nv dx x/\Rp K H Nv dy y/\cmpD op dx dy = some b/\Q (.bl b) H
theorem any_eqD (x:D):∀ ds:List D,((pyL ds).any fun z=>PyData.eqv z (py x)) = ds.any fun z=>eqD z x
 | []=>by simp [pyL]
 | d :: ds=>by simp only [pyL,List.any_cons,any_eqD x ds]; rfl
theorem op_cmp {X:Cx} (hu:X.A.units + 100 < cLine) (op:CmpOp):OpR X (compareOp op) (rCmp X.K op):=by
 intro pins s σ H x y v u Q I rx ry h
 obtain ⟨dx,dy,b,tx,ty,hb,q⟩:=h
 have hu1:X.A.units + 1 < cLine:=by omega
 have fin:∀ {b':Bool},b' = b->EP X pins σ Q (.bool b') s:=fun e=>⟨.bl b,H,I,by rw [e]; rfl,q⟩
 have isV:∀ (b':Bool),dy = .bl b'->plainIs v u = true/\(v == u) = isBl b' dx:=fun b' e=>by
  subst e
  have ey:=ty.bl; subst ey; cases ry
  cases dx with
  | non=>have e:=tx.non; subst e; cases rx; exact ⟨rfl,rfl⟩
  | bl c=>have e:=tx.bl; subst e; cases rx; exact ⟨rfl,by cases c <;> cases b' <;> rfl⟩
  | int i=>have e:=tx.int; subst e; obtain ⟨t,rfl⟩:=rx; exact ⟨rfl,rfl⟩
  | str i=>have e:=tx.str; subst e; obtain ⟨t,rfl⟩:=rx; exact ⟨rfl,rfl⟩
  | scr ns=>obtain ⟨a,rfl,_⟩:=tx.scr; cases rx; exact ⟨rfl,rfl⟩
  | nd hd ds=>obtain ⟨a,o,xs,rfl,_⟩:=tx.nd; cases rx; exact ⟨rfl,rfl⟩
 have isN:dy = .non->plainIs v u = true/\(v == u) = isNon dx:=fun e=>by
  subst e
  have ey:=ty.non; subst ey; cases ry
  cases dx with
  | non=>have e:=tx.non; subst e; cases rx; exact ⟨rfl,rfl⟩
  | bl c=>have e:=tx.bl; subst e; cases rx; exact ⟨rfl,by cases c <;> rfl⟩
  | int i=>have e:=tx.int; subst e; obtain ⟨t,rfl⟩:=rx; exact ⟨rfl,rfl⟩
  | str i=>have e:=tx.str; subst e; obtain ⟨t,rfl⟩:=rx; exact ⟨rfl,rfl⟩
  | scr ns=>obtain ⟨a,rfl,_⟩:=tx.scr; cases rx; exact ⟨rfl,rfl⟩
  | nd hd ds=>obtain ⟨a,o,xs,rfl,_⟩:=tx.nd; cases rx; exact ⟨rfl,rfl⟩
 cases op with
 | Lt=>
  simp only [cmpD] at hb
  split at hb
  ·cases hb; obtain rfl:=tx.int; obtain rfl:=ty.int
   exact op_lt pins s σ H _ _ v u Q I rx ry ⟨_,_,rfl,rfl,q⟩
  ·cases hb
 | LtE=>
  simp only [cmpD] at hb
  split at hb
  ·cases hb; obtain rfl:=tx.int; obtain rfl:=ty.int
   exact op_le pins s σ H _ _ v u Q I rx ry ⟨_,_,rfl,rfl,q⟩
  ·cases hb
 | Gt=>
  simp only [cmpD] at hb
  split at hb
  ·cases hb; obtain rfl:=tx.int; obtain rfl:=ty.int
   exact op_gt pins s σ H _ _ v u Q I rx ry ⟨_,_,rfl,rfl,q⟩
  ·cases hb
 | GtE=>
  simp only [cmpD] at hb
  split at hb
  ·cases hb; obtain rfl:=tx.int; obtain rfl:=ty.int
   exact op_ge pins s σ H _ _ v u Q I rx ry ⟨_,_,rfl,rfl,q⟩
  ·cases hb
 | Eq=>
  simp only [cmpD] at hb
  split at hb
  ·rename_i hp
   cases hb
   obtain ⟨⟨as,ra⟩,a1,a2⟩:=reads_of I hp.1 tx rx
   obtain ⟨⟨bs,rb⟩,b1,b2⟩:=reads_of I hp.2 ty ry
   exact SeqAt.compareEq_reads ra rb a1 b1 (by omega) (fin rfl)
  ·cases hb
 | NotEq=>
  simp only [cmpD] at hb
  split at hb
  ·rename_i hp
   cases hb
   obtain ⟨⟨as,ra⟩,a1,a2⟩:=reads_of I hp.1 tx rx
   obtain ⟨⟨bs,rb⟩,b1,b2⟩:=reads_of I hp.2 ty ry
   exact SeqAt.compareNe_reads ra rb a1 b1 (by omega) (fin rfl)
  ·cases hb
 | In=>
  simp only [cmpD] at hb
  split at hb
  ·rename_i ds
   split at hb
   ·rename_i hp
    cases hb
    obtain ⟨⟨as,ra⟩,a1,a2⟩:=reads_of I hp.1 tx rx
    obtain ⟨⟨bs,rb⟩,b1,b2⟩:=reads_of (n:=91) I (by simp only [pok,Bool.and_eq_true]; exact ⟨rfl,hp.2⟩) ty ry
    simp only [py,PyData.canLay0,PyData.depth] at rb b1 b2
    exact SeqAt.in_list_reads rb ra b1 a1 (by omega) (fin (any_eqD _ _))
   ·cases hb
  ·rename_i ds
   split at hb
   ·rename_i hp
    cases hb
    obtain ⟨⟨as,ra⟩,a1,a2⟩:=reads_of I hp.1 tx rx
    obtain ⟨⟨bs,rb⟩,b1,b2⟩:=reads_of (n:=91) I (by simp only [pok,Bool.and_eq_true]; exact ⟨rfl,hp.2⟩) ty ry
    simp only [py,PyData.canLay0,PyData.depth] at rb b1 b2
    exact SeqAt.in_tuple_reads rb ra b1 a1 (by omega) (fin (any_eqD _ _))
   ·cases hb
  ·rename_i t ks vs
   split at hb
   ·rename_i k ek
    split at hb
    ·rename_i hf
     cases hb
     obtain ⟨a,o,xs,rfl,_,g,qd,rl⟩:=ty.nd
     cases ry
     refine d_in hu1 I (dget_of g qd ek tx hf) rx fun s3 I3=>⟨.bl _,H,I3,rfl,?_⟩
     rw [dget_isSome (dic_len qd)]
     exact q
    ·cases hb
   ·cases hb
  ·split at hb
   ·cases hb
    obtain rfl:=tx.str; obtain rfl:=ty.str
    exact op_in_str pins s σ H _ _ v u Q I rx ry ⟨_,_,rfl,rfl,q⟩
   ·cases hb
  ·cases hb
 | NotIn=>
  simp only [cmpD] at hb
  split at hb
  ·rename_i ds
   split at hb
   ·rename_i hp
    cases hb
    obtain ⟨⟨as,ra⟩,a1,a2⟩:=reads_of I hp.1 tx rx
    obtain ⟨⟨bs,rb⟩,b1,b2⟩:=reads_of (n:=91) I (by simp only [pok,Bool.and_eq_true]; exact ⟨rfl,hp.2⟩) ty ry
    simp only [py,PyData.canLay0,PyData.depth] at rb b1 b2
    exact SeqAt.notIn_list_reads rb ra b1 a1 (by omega) (fin (by rw [any_eqD]))
   ·cases hb
  ·rename_i ds
   split at hb
   ·rename_i hp
    cases hb
    obtain ⟨⟨as,ra⟩,a1,a2⟩:=reads_of I hp.1 tx rx
    obtain ⟨⟨bs,rb⟩,b1,b2⟩:=reads_of (n:=91) I (by simp only [pok,Bool.and_eq_true]; exact ⟨rfl,hp.2⟩) ty ry
    simp only [py,PyData.canLay0,PyData.depth] at rb b1 b2
    exact SeqAt.notIn_tuple_reads rb ra b1 a1 (by omega) (fin (by rw [any_eqD]))
   ·cases hb
  ·rename_i t ks vs
   split at hb
   ·rename_i k ek
    split at hb
    ·rename_i hf
     cases hb
     obtain ⟨a,o,xs,rfl,_,g,qd,rl⟩:=ty.nd
     cases ry
     refine d_notIn hu1 I (dget_of g qd ek tx hf) rx fun s3 I3=>⟨.bl _,H,I3,rfl,?_⟩
     rw [dget_isSome (dic_len qd)]
     exact q
    ·cases hb
   ·cases hb
  ·split at hb
   ·cases hb
    obtain rfl:=tx.str; obtain rfl:=ty.str
    exact op_notIn_str pins s σ H _ _ v u Q I rx ry ⟨_,_,rfl,rfl,q⟩
   ·cases hb
  ·cases hb
 | Is=>
  simp only [cmpD] at hb
  split at hb
  ·cases hb
   obtain ⟨p,e⟩:=isN rfl
   exact wpAny_is_plain p (fin e)
  ·cases hb
   obtain ⟨p,e⟩:=isV _ rfl
   exact wpAny_is_plain p (fin e)
  ·cases hb
 | IsNot=>
  simp only [cmpD] at hb
  split at hb
  ·cases hb
   obtain ⟨p,e⟩:=isN rfl
   exact wpAny_isNot_plain p (fin (by rw [e]))
  ·cases hb
   obtain ⟨p,e⟩:=isV _ rfl
   exact wpAny_isNot_plain p (fin (by rw [e]))
  ·cases hb
noncomputable def truD:D->Option Bool
 | .non=>some false
 | .bl b=>some b
 | .int i=>some (i != 0)
 | .scr ns=>some (!ns.isEmpty)
 | .nd .lst xs=>some (!xs.isEmpty)
 | .nd .tup xs=>some (!xs.isEmpty)
 | _=>none
theorem RpL.empty {K:PySem.W.Frag} {H:Hp} {S:Pr} {ds:List D} {vs:List V} (h:RpL K H S ds vs):vs.isEmpty = ds.isEmpty:=by
 have:=h.len
 cases vs <;> cases ds <;> simp_all
theorem tru_of {K:PySem.W.Frag} {H:Hp} {S:Pr} {d:D} {v:V} {b:Bool} (t:Rp K H S d v) (h:truD d = some b):TruV K v H b:=by
 cases d with
 | non=>obtain rfl:=t.non; cases h; rfl
 | bl k=>obtain rfl:=t.bl; cases h; rfl
 | int i=>obtain rfl:=t.int; cases h; rfl
 | str x=>cases h
 | scr ns=>
  obtain ⟨a,rfl,g⟩:=t.scr
  cases h
  exact .inl ⟨_,g,by cases ns <;> rfl⟩
 | nd hd xs=>
  obtain ⟨a,o,us,rfl,_,g,q,r⟩:=t.nd
  cases hd with
  | lst=>cases h; cases (show o = _ from q); exact .inl ⟨us,.of g,by rw [r.empty]⟩
  | tup=>cases h; cases (show o = _ from q); exact .inr (.inl ⟨us,.of g,by rw [r.empty]⟩)
  | dic t ks=>cases h
  | obj c ns=>cases h
end J
namespace J
open PySem PySem.Spec L2
noncomputable def Ow.ch:Ow->Nat->Ow
 | .fz,_=>.fz
 | .own es r,i=>es.getD i r
noncomputable def chK:Kd->Nat->Kd
 | .sh,_=>.sh
 | .fr k,i=>(match k.ch i with | .fz=>.sh | c=>.fr c)
 | .bo j k,i=>(match k.ch i with | .fz=>.sh | c=>.bo j c)
section
variable {K:PySem.W.Frag} {H H' H0:Hp} {S:Pr} {g:Gh}
theorem TrL.len:∀ {ds:List D} {es:List Ow} {r:Ow} {xs:List V} {F:Pr},TrL K H S ds es r xs F->xs.length = ds.length
 | [],_,_,_,_,h=>by unfold TrL at h; rw [h.1]; rfl
 | d :: ds,es,r,xs,F,h=>by
  unfold TrL at h
  obtain ⟨y,ys,F1,F2,rfl,_,_,_,h2⟩:=h
  rw [List.length_cons,List.length_cons,TrL.len h2]
theorem TrL.get:∀ {ds:List D} {es:List Ow} {r:Ow} {xs:List V} {F:Pr} {i:Nat} {d:D},TrL K H S ds es r xs F->ds[i]? = some d->∃ x Fi,xs[i]? = some x/\(∀ b,Fi b->F b)/\Tr K H S d (es.getD i r) x Fi
 | [],_,_,_,_,_,_,h,e=>by simp at e
 | d :: ds,es,r,xs,F,0,d',h,e=>by
  unfold TrL at h
  obtain ⟨y,ys,F1,F2,rfl,hF,_,h1,h2⟩:=h
  simp at e
  subst e
  exact ⟨y,F1,rfl,fun b z=>(hF b).mpr (.inl z),by cases es <;> simpa using h1⟩
 | d :: ds,es,r,xs,F,i + 1,d',h,e=>by
  unfold TrL at h
  obtain ⟨y,ys,F1,F2,rfl,hF,_,h1,h2⟩:=h
  obtain ⟨x,Fi,e1,e2,e3⟩:=TrL.get h2 (by simpa using e)
  exact ⟨x,Fi,by simpa using e1,fun b z=>(hF b).mpr (.inr (e2 b z)),by cases es <;> simpa using e3⟩
theorem VR.ch {kd:Kd} {hd:Hd} {ds:List D} {v:V} (h:VR K g H0 H kd (.nd hd ds) v):∃ a o xs,v = .ref a/\H a = some o/\HdOk K o hd xs/\xs.length = ds.length/\∀ (i:Nat) d,ds[i]? = some d->∃ x,xs[i]? = some x/\VR K g H0 H (chK kd i) d x:=by
 obtain ⟨F,h1,h2⟩:=h
 have shc:∀ {S':Pr},(∀ b,g b ≠ none->S' b)->Rp K H S' (.nd hd ds) v->∃ a o xs,v = .ref a/\H a = some o/\HdOk K o hd xs/\xs.length = ds.length/\∀ (i:Nat) d,ds[i]? = some d->∃ x,xs[i]? = some x/\VR K g H0 H .sh d x:=fun hs r=>by
  obtain ⟨a,o,xs,e,n,q1,q2,q3⟩:=r.nd
  refine ⟨a,o,xs,e,q1,q2,q3.len,fun i d e=>?_⟩
  obtain ⟨x,e1,e2⟩:=q3.getD e
  exact ⟨x,e1,vSh (e2.weak fun b z=>hs b z)⟩
 cases kd with
 | sh=>exact shc (fun b z=>.inl z) h2.2
 | fr k=>
  have h2:Tr K H (Sx g F) _ k v F:=h2
  cases k with
  | fz=>
   obtain ⟨a,o,xs,e,q1,q2,q3,q4⟩:=shc (fun b z=>.inl z) h2.fz_inv.2
   exact ⟨a,o,xs,e,q1,q2,q3,q4⟩
  | own es r=>
   unfold Tr at h2
   obtain ⟨a,o,xs,F',e,q1,q2,n1,n2,hF,t⟩:=h2
   refine ⟨a,o,xs,e,q1,q2,t.len,fun i d e=>?_⟩
   obtain ⟨x,Fi,e1,e2,e3⟩:=t.get e
   refine ⟨x,e1,?_⟩
   have hs:∀ b o,H b = some o->¬ Sx g F b->¬ Sx g Fi b:=fun b o _ n z=>n (z.imp id fun z=>(hF b).mpr (.inr (e2 b z)))
   show VR K g H0 H (match es.getD i r with | .fz=>.sh | c=>.fr c) d x
   cases hc:es.getD i r with
   | fz=>
    rw [hc] at e3
    exact vSh (e3.fz_inv.2.weak fun b z=>.inl z)
   | own es' r'=>
    rw [hc] at e3
    exact ⟨Fi,fun b z=>h1 b ((hF b).mpr (.inr (e2 b z))),e3.go (fun _ _ _ h=>h) hs⟩
 | bo j k=>
  obtain ⟨hn,F0,h3,h4⟩:=h2
  cases k with
  | fz=>
   obtain ⟨a,o,xs,e,q1,q2,q3,q4⟩:=shc (fun b z=>.inl z) h4.fz_inv.2
   exact ⟨a,o,xs,e,q1,q2,q3,q4⟩
  | own es r=>
   unfold Tr at h4
   obtain ⟨a,o,xs,F',e,q1,q2,n1,n2,hF,t⟩:=h4
   refine ⟨a,o,xs,e,q1,q2,t.len,fun i d e=>?_⟩
   obtain ⟨x,Fi,e1,e2,e3⟩:=t.get e
   refine ⟨x,e1,?_⟩
   show VR K g H0 H (match es.getD i r with | .fz=>.sh | c=>.bo j c) d x
   cases hc:es.getD i r with
   | fz=>
    rw [hc] at e3
    exact vSh (e3.fz_inv.2.weak fun b z=>.inl z)
   | own es' r'=>
    rw [hc] at e3
    exact ⟨F,h1,hn,Fi,fun b z=>h3 b ((hF b).mpr (.inr (e2 b z))),e3⟩
end
structure Cz where
 sc:Scope
 N:List Str
 fn:Str->Bool
noncomputable abbrev Fn:=List D->Option KD
structure Tab where
 fn:Str->Option Fn
 fm:Str->Option (PySem.W.Frag->Sp)
 cst:Str->Option D
noncomputable def ixOf (x:Str):List Str->Option Nat
 | []=>none
 | y :: r=>if x = y then some 0 else (ixOf x r).map (· + 1)
theorem ixOf_get {x:Str}:∀ {N:List Str} {i:Nat},ixOf x N = some i->N[i]? = some x
 | [],_,h=>by cases h
 | y :: r,i,h=>by
  unfold ixOf at h
  split at h
  ·rename_i e
   cases h
   simp [e]
  ·cases q:ixOf x r with
   | none=>rw [q] at h; cases h
   | some j=>
    rw [q] at h
    cases h
    simpa using ixOf_get q
noncomputable def visB (sc:Scope) (x:Str):Bool:=sc.names.lookup x == some .local || sc.names.lookup x == some .cell || sc.names.lookup x == some .free
noncomputable def locB (c:Cz) (x:Str):Bool:=c.sc.names.lookup x == some .local || (c.fn x && c.sc.names.lookup x == some .cell)
noncomputable def ownC (scope:Scope) (x:Str):Bool:=scope.names.lookup x == some .cell
noncomputable def glB (sc:Scope) (x:Str):Bool:=sc.names.lookup x == some .globalImplicit
theorem visB_ok {sc:Scope} {x:Str} (h:visB sc x = true):Vis sc x:=by
 simp only [visB,Bool.or_eq_true,beq_iff_eq] at h
 rcases h with (h | h) | h
 ·exact .inl h
 ·exact .inr (.inl h)
 ·exact .inr (.inr h)
noncomputable def nameOk (x:Str):Bool:=!(x == ("__debug__":Str)) && !(x == ("__classdict__":Str))
noncomputable def spF (K:PySem.W.Frag) (φ:Fn):Sp:=fun vs H Q _=>∃ ds g kd d,RpL K H (Sg g) ds vs/\MuOk H (Sg g)/\φ ds = some (kd,d)/\∀ v H',Same H H'->VR K g H H' kd d v->Q v H'
noncomputable def bltNames:List Str:=["len","isinstance","int","bool","list","all","range","enumerate","str","sum","min","max","abs","tuple","zip","dict","sorted","reversed","any","set","repr"]
structure TabOk (X:Cx) (Γ:Tab):Prop where
 fn:∀ x φ,Γ.fn x = some φ->∃ k f fd ps,FnOk X.prog X.w X.K X.mg X.base CX0 k f fd ps (spF X.K φ)/\Room k X.A/\X.mg x = some (.ref f)/\PySem.W.keepIn X.K (.ref f) = true/\Binds X.K fd ps []/\(x == ("__debug__":Str)) = false
 fm:∀ x sp,Γ.fm x = some sp->∃ k f fd ps,FnOk X.prog X.w X.K X.mg X.base CX0 k f fd ps (sp X.K)/\Room k X.A/\X.mg x = some (.ref f)/\PySem.W.keepIn X.K (.ref f) = true/\Binds X.K fd ps []/\(x == ("__debug__":Str)) = false
 bl:∀ x ∈ bltNames,X.mg x = none
 units:X.A.units + 100 < cLine
 gd:X.A.guards = some []
 cst:∀ x d,Γ.cst x = some d->∃ u v,X.mg x = some u/\RelV v u/\(∀ H S,Rp X.K H S d v)/\(x == ("__debug__":Str)) = false
structure CxOk (X:Cx) (Γ:Tab) (c:Cz):Prop where
 sc:X.env.scope = c.sc
 N:X.N = c.N
 fn:∀ x,c.fn x = true->X.fn x = true
 calm:X.calm = true
 nd:c.N.Nodup
 tab:TabOk X Γ
section
variable {X:Cx} {Γ:Tab} {c:Cz}
theorem gl_of (O:CxOk X Γ c) {x:Str} (h:glB c.sc x = true):Gl X x:=by
 show X.env.scope.names.lookup x = _
 rw [O.sc]
 simpa [glB] using h
theorem loc_of (O:CxOk X Γ c) {x:Str} (h:locB c x = true):Loc X.env.scope x/\(X.fn x = true\/X.env.scope.names.lookup x = some .local):=by
 simp only [locB,Bool.or_eq_true,Bool.and_eq_true,beq_iff_eq] at h
 rw [O.sc]
 rcases h with h | h
 ·exact ⟨.inl h,.inr h⟩
 ·exact ⟨.inr h.2,.inl (O.fn x h.1)⟩
noncomputable def oVar (i:Nat) (o:Option (Option Sl)):Option KD:=match o with | some (some s)=>some (slKd i s) | _=>none
noncomputable def cVar (c:Cz) (x:Str):Option Nat:=match ixOf x c.N with | some i=>if visB c.sc x && nameOk x then some i else none | none=>none
theorem s_var (O:CxOk X Γ c) {x:Str} {i:Nat} (hc:cVar c x = some i) (pos:Pos):SndE X (fun ρ=>oVar i ρ[i]?) (.Name x pos):=by
 intro ρ kd d h g σ H Q se q
 unfold cVar at hc
 split at hc
 ·rename_i j hj
  split at hc
  ·rename_i hv
   cases hc
   simp only [Bool.and_eq_true,nameOk,Bool.not_eq_true'] at hv
   dsimp only [oVar] at h
   split at h
   ·rename_i sl e
    cases h
    obtain ⟨v,e1,e2⟩:=se.get e
    exact pe_le (pe_var (i:=i) (by rw [O.N]; exact ixOf_get hj) (by rw [O.sc]; exact visB_ok hv.1) hv.2.1 hv.2.2) ⟨v,e1,q v H (Same.refl H) e2⟩
   ·cases h
  ·cases hc
 ·cases hc
theorem s_int (i:Int) (j:Nat) (pos:Pos):SndE X (fun _=>some (.sh,.int i)) (.Constant (.int i) j pos):=by
 intro ρ kd d h g σ H Q se q
 cases h
 exact pe_le pe_int (q _ H (Same.refl H) vInt)
theorem s_bl (i:Bool) (j:Nat) (pos:Pos):SndE X (fun _=>some (.sh,.bl i)) (.Constant (.bool i) j pos):=by
 intro ρ kd d h g σ H Q se q
 cases h
 exact pe_le pe_bl (q _ H (Same.refl H) vBl)
theorem s_non (j:Nat) (pos:Pos):SndE X (fun _=>some (.sh,.non)) (.Constant .none j pos):=by
 intro ρ kd d h g σ H Q se q
 cases h
 exact pe_le pe_non (q _ H (Same.refl H) vNon)
theorem s_str (x:Str) (j:Nat) (pos:Pos):SndE X (fun _=>some (.sh,.str x)) (.Constant (.str x) j pos):=by
 intro ρ kd d h g σ H Q se q
 cases h
 exact pe_le pe_str (q _ H (Same.refl H) vStr)
theorem s_cst (O:CxOk X Γ c) {x:Str} {d:D} (hg:glB c.sc x = true) (e:Γ.cst x = some d) (pos:Pos):SndE X (fun _=>some (.sh,d)) (.Name x pos):=by
 intro ρ kd d' h g σ H Q se q
 cases h
 obtain ⟨u,v,h1,h2,h3,h4⟩:=O.tab.cst x d e
 exact pe_le (pe_glob (gl_of O hg) h1 h2 h4) (q v H (Same.refl H) (vSh (h3 H _)))
theorem two {fa fb:Ro->Option KD} {a b:Expr} (ha:SndE X fa a) (hb:SndE X fb b) {ρ:Ro} {ka kb:Kd} {da db:D} (ea:fa ρ = some (ka,da)) (eb:fb ρ = some (kb,db)) {g:Gh} {σ:L2.St} {H:Hp} {R:V->V->Hp->Prop} (se:SE X.K g ρ σ H)
  (q:∀ x y H',Same H H'->VR X.K g H H' ka da x->VR X.K g H H' kb db y->R x y H'):wE X a σ H fun x H1=>wE X b σ H1 fun y H2=>R x y H2:=
 ha ρ ka da ea g σ H _ se fun x H1 s1 v1=>hb ρ kb db eb g σ H1 _ (se.same s1) fun y H2 s2 v2=>q x y H2 (s1.trans s2) (v1.same s2) (v2.older s1)
noncomputable def oBin (op:Operator) (a b:Option KD):Option KD:=match a,b with
 | some x,some y=>binD op x y
 | _,_=>none
theorem s_bin {fa fb:Ro->Option KD} {a b:Expr} {op:Operator} {pos:Pos} (ha:SndE X fa a) (hb:SndE X fb b):SndE X (fun ρ=>oBin op (fa ρ) (fb ρ)) (.BinOp a op b pos):=by
 intro ρ kd d h g σ H Q se q
 dsimp only [oBin] at h
 split at h
 ·rename_i x y ea eb
  exact pe_le (pe_op (op_bin op) pe_w pe_w) (two ha hb ea eb se fun vx vy H' s r1 r2=>⟨g,H,x,y,kd,d,se.mu,s,r1,r2,h,fun v H2 s2 r=>q v H2 (s.trans s2) (r.older s)⟩)
 ·cases h
noncomputable def oCmp (op:CmpOp) (a b:Option KD):Option Bool:=match a,b with
 | some (_,x),some (_,y)=>cmpD op x y
 | _,_=>none
noncomputable def bV (o:Option Bool):Option KD:=o.map fun b=>(.sh,.bl b)
theorem s_cmp {fa fb:Ro->Option KD} {a b:Expr} {op:CmpOp} {pos:Pos} (O:CxOk X Γ c) (hm:behindInMarks op b = false) (ha:SndE X fa a) (hb:SndE X fb b):SndE X (fun ρ=>bV (oCmp op (fa ρ) (fb ρ))) (.Compare a [op] [b] pos):=by
 intro ρ kd d h g σ H Q se q
 cases hc:oCmp op (fa ρ) (fb ρ) with
 | none=>simp only [hc,bV] at h; cases h
 | some r=>
  simp only [hc,bV] at h
  cases h
  unfold oCmp at hc
  split at hc
  ·rename_i ka x kb y ea eb
   exact pe_le (pe_cmpR (op_cmp O.tab.units op) pe_w pe_w hm) (two ha hb ea eb se fun vx vy H' s vx' vy'=>⟨x,y,r,vx'.rd,vy'.rd,hc,q _ H' s vBl⟩)
  ·cases hc
theorem t_cmp {fa fb:Ro->Option KD} {a b:Expr} {op:CmpOp} {pos:Pos} (O:CxOk X Γ c) (hm:behindInMarks op b = false) (ha:SndE X fa a) (hb:SndE X fb b):SndT X (fun ρ=>oCmp op (fa ρ) (fb ρ)) (.Compare a [op] [b] pos):=by
 intro ρ r hc g σ H Q se q
 dsimp only [oCmp] at hc
 split at hc
 ·rename_i ka x kb y ea eb
  exact pt_le (pt_cmpR (op_cmp O.tab.units op) pe_w pe_w hm) (two ha hb ea eb se fun vx vy H' s vx' vy'=>⟨x,y,r,vx'.rd,vy'.rd,hc,r,rfl,q H' s⟩)
 ·cases hc
noncomputable def oChain (op op':CmpOp) (a b z:Option KD):Option Bool:=match a,b with
 | some (_,x),some (_,y)=>(match cmpD op x y with
  | some true=>(match z with | some (_,z)=>cmpD op' y z | none=>none)
  | some false=>some false
  | none=>none)
 | _,_=>none
theorem chain_read {fa fb fc:Ro->Option KD} {a b e:Expr} {op op':CmpOp} (ha:SndE X fa a) (hb:SndE X fb b) (he:SndE X fc e) {ρ:Ro} {r:Bool} (h:oChain op op' (fa ρ) (fb ρ) (fc ρ) = some r) {g:Gh} {σ:L2.St} {H:Hp} {Q:VK} (se:SE X.K g ρ σ H) (q:∀ H',Same H H'->Q (.bl r) H') :
  tChain (rCmp X.K op) (rCmp X.K op') (wE X a) (wE X b) (wE X e) σ H Q:=by
 unfold oChain at h
 split at h
 ·rename_i ka x kb y ea eb
  split at h
  ·rename_i h1
   split at h
   ·rename_i kz z ez
    refine two ha hb ea eb se fun vx vy H' s vx' vy'=>⟨x,y,true,vx'.rd,vy'.rd,h1,true,rfl,?_⟩
    exact iteT (he ρ kz z ez g σ H' _ (se.same s) fun vz H2 s2 vz'=>⟨y,z,r,(vy'.same s2).rd,vz'.rd,h,q H2 (s.trans s2)⟩)
   ·cases h
  ·rename_i h1
   cases h
   exact two ha hb ea eb se fun vx vy H' s vx' vy'=>⟨x,y,false,vx'.rd,vy'.rd,h1,false,rfl,iteF (q H' s)⟩
  ·cases h
 ·cases h
theorem s_chain {fa fb fc:Ro->Option KD} {a b e:Expr} {op op':CmpOp} {pos:Pos} (O:CxOk X Γ c) (hm:behindInMarks op' e = false) (ha:SndE X fa a) (hb:SndE X fb b) (he:SndE X fc e):SndE X (fun ρ=>bV (oChain op op' (fa ρ) (fb ρ) (fc ρ))) (.Compare a [op,op'] [b,e] pos):=by
 intro ρ kd d h g σ H Q se q
 cases hc:oChain op op' (fa ρ) (fb ρ) (fc ρ) with
 | none=>simp only [hc,bV] at h; cases h
 | some r=>
  simp only [hc,bV] at h
  cases h
  exact pe_le (pe_chain (op_cmp O.tab.units op) (op_cmp O.tab.units op') pe_w pe_w pe_w hm) (chain_read ha hb he hc se (Q:=Q) fun H' s=>q _ H' s vBl)
theorem t_chain {fa fb fc:Ro->Option KD} {a b e:Expr} {op op':CmpOp} {pos:Pos} (O:CxOk X Γ c) (hm:behindInMarks op' e = false) (ha:SndE X fa a) (hb:SndE X fb b) (he:SndE X fc e):SndT X (fun ρ=>oChain op op' (fa ρ) (fb ρ) (fc ρ)) (.Compare a [op,op'] [b,e] pos):=by
 intro ρ r hc g σ H Q se q
 exact pt_le (pt_chain (op_cmp O.tab.units op) (op_cmp O.tab.units op') pe_w pe_w pe_w hm) (chain_read ha hb he hc se (Q:=fun x H'=>∃ k,x = .bl k/\Q k H') fun H' s=>⟨r,rfl,q H' s⟩)
noncomputable def oNeg (a:Option KD):Option KD:=match a with | some (_,.int i)=>some (.sh,.int (-i)) | _=>none
theorem s_neg {fa:Ro->Option KD} {a:Expr} {pos:Pos} (ha:SndE X fa a):SndE X (fun ρ=>oNeg (fa ρ)) (.UnaryOp .USub a pos):=by
 intro ρ kd d h g σ H Q se q
 dsimp only [oNeg] at h
 split at h
 ·rename_i ka i ea
  cases h
  exact pe_le (pe_un un_neg pe_w) (ha ρ _ _ ea g σ H _ se fun v H' s r=>⟨i,r.rd.int,q _ H' s vInt⟩)
 ·cases h
noncomputable def oTru (a:Option KD):Option Bool:=match a with | some (_,d)=>truD d | none=>none
theorem s_not {fa:Ro->Option KD} {a:Expr} {pos:Pos} (ha:SndE X fa a):SndE X (fun ρ=>bV ((oTru (fa ρ)).map (!·))) (.UnaryOp .Not a pos):=by
 intro ρ kd d h g σ H Q se q
 cases e:oTru (fa ρ) with
 | none=>simp only [e,bV] at h; cases h
 | some b=>
  simp only [e,bV] at h
  cases h
  unfold oTru at e
  split at e
  ·rename_i k d e1
   intro pins s I
   refine PyProof.Rows.UnaryOp_ (thn (ha ρ _ _ e1 g σ H (fun v H'=>TruV X.K v H' b/\Q (.bl (!b)) H') se (fun v H' s vr=>⟨tru_of vr.rd e,q _ H' s vBl⟩) pins s I) fun v s1 ⟨x,H1,I1,r1,t1,q1⟩=>?_)
   exact PyProof.Rows.not_of (thn (tru_ok pins s1 σ H1 x v (fun k H2=>Q (.bl (!k)) H2) I1 r1 ⟨b,t1,q1⟩) fun k s2 ⟨H2,I2,q2⟩=>⟨.bl (!k),H2,I2,rfl,q2⟩)
  ·cases e
theorem t_not {fa:Ro->Option Bool} {a:Expr} {pos:Pos} (ha:SndT X fa a):SndT X (fun ρ=>(fa ρ).map (!·)) (.UnaryOp .Not a pos):=by
 intro ρ r h g σ H Q se q
 cases e:fa ρ with
 | none=>simp only [e] at h; cases h
 | some b=>
  simp only [e] at h
  cases h
  exact pt_le (pt_not pt_w) (ha ρ b e g σ H _ se fun H' s=>q H' s)
theorem t_tru {fa:Ro->Option KD} {a:Expr} (ha:SndE X fa a) (hp:∀ whole,isTrue a X.env whole = (do let v <- whole; standAt a.pos; holding [v] (truthy v))):SndT X (fun ρ=>oTru (fa ρ)) a:=by
 intro ρ r h g σ H Q se q
 dsimp only [oTru] at h
 split at h
 ·rename_i k d e
  exact pt_le (pt_truth pe_w hp) (ha ρ _ _ e g σ H _ se fun v H' s vr=>⟨r,tru_of vr.rd h,q H' s⟩)
 ·cases h
noncomputable def noStar:Expr->Bool
 | .Starred ..=>false
 | _=>true
theorem star_of {e:Expr} {es:List Expr} {env:Env} (h:noStar e = true):starEach (e :: es) env = (false,eval e env) :: starEach es env:=by
 cases e <;> first | rfl | cases h
theorem back_any {env:Env} {pos:Pos} {es:List Expr} (h:es.all noStar = true):(backTo pos (starEach es env)).any (·.1) = false:=by
  have key:∀ es:List Expr,es.all noStar = true->∀ p ∈ starEach es env,p.1 = false:=by
    intro es
    induction es with
    | nil=>intro _ p hp; cases hp
    | cons e es ih=>
      intro h p hp
      simp only [List.all_cons,Bool.and_eq_true] at h
      rw [star_of h.1] at hp
      rcases List.mem_cons.mp hp with rfl | hp
      · rfl
      · exact ih h.2 p hp
  have k2:=key es h
  cases e:starEach es env with
  | nil=>rfl
  | cons p r=>
    rw [e] at k2
    have h0:∀ q ∈ backTo pos (p :: r),q.1 = false:=by
      intro q hq
      unfold backTo at hq
      first
        | exact k2 q hq
        | (simp only [List.mem_map,List.mem_cons] at hq
           first
             | (obtain ⟨z,hz,rfl⟩:=hq; exact k2 z (by simpa using hz))
             | (rcases hq with rfl | hq
                · exact k2 p (by simp)
                · first
                    | exact k2 q (by simp [hq])
                    | (obtain ⟨z,hz,rfl⟩:=hq; exact k2 z (by simp [hz]))))
    rw [List.any_eq_false]
    intro q hq
    rw [h0 q hq]
    decide
noncomputable def oCons (a:Option KD) (r:Option (List KD)):Option (List KD):=match a,r with | some x,some xs=>some (x :: xs) | _,_=>none
theorem s_argsN:SndA X (fun _=>some []) []:=by
 intro ρ kds h g σ H Q se q
 cases h
 exact pa_le pa_nil (q [] H (Same.refl H) .nil)
theorem s_argsC {fa:Ro->Option KD} {fr:Ro->Option (List KD)} {e:Expr} {es:List Expr} (hn:noStar e = true) (ha:SndE X fa e) (hr:SndA X fr es):SndA X (fun ρ=>oCons (fa ρ) (fr ρ)) (e :: es):=by
 intro ρ kds h g σ H Q se q
 dsimp only [oCons] at h
 split at h
 ·rename_i x xs e1 e2
  cases h
  obtain ⟨k,d⟩:=x
  refine pa_le (pa_cons pe_w pa_w (star_of hn)) (ha ρ k d e1 g σ H _ se fun v H1 s1 r1=>?_)
  obtain ⟨F1,a1,a2⟩:=r1
  exact hr ρ xs e2 (g.plus F1) σ H1 _ (se.plus s1 a1 a2.dom) fun vs H2 s2 r2=>q (v :: vs) H2 (s1.trans s2) (.cons s1 s2 a1 a2 r2)
 ·cases h
theorem VRs.two {K:PySem.W.Frag} {g:Gh} {H0 H:Hp} {k k':Kd} {d d':D} {vs:List V} (h:VRs K g H0 H [(k,d),(k',d')] vs):∃ v v',vs = [v,v']/\VR K g H0 H k d v/\VR K g H0 H k' d' v':=by
 obtain ⟨F,h1,y,ys,F1,F2,rfl,hF,dj,h3,z,zs,F3,F4,rfl,hF2,dj2,h5,rfl,h7⟩:=h
 have e:∀ b,F b ↔ F1 b\/F3 b:=fun b=>(hF b).trans ⟨fun z=>z.imp id fun z=>((hF2 b).mp z).elim id fun z=>absurd z (h7 b),fun z=>z.imp id fun z=>(hF2 b).mpr (.inl z)⟩
 refine ⟨y,z,rfl,⟨F1,fun b z=>h1 b ((e b).mpr (.inl z)),h3.go (fun _ _ h=>h) fun b _ _ z=>(e b).mpr (.inl z)⟩,⟨F3,fun b z=>h1 b ((e b).mpr (.inr z)),h5.go (fun _ _ h=>h) fun b _ _ z=>(e b).mpr (.inr z)⟩⟩
end
end J
namespace J
open PySem PySem.Spec L2
mutual
noncomputable def Ow.eq:Ow->Ow->Bool
 | .fz,.fz=>true
 | .own es r,.own es' r'=>Ow.eqs es es' && Ow.eq r r'
 | _,_=>false
noncomputable def Ow.eqs:List Ow->List Ow->Bool
 | [],[]=>true
 | a :: as,b :: bs=>Ow.eq a b && Ow.eqs as bs
 | _,_=>false
end
mutual
theorem Ow.eq_ok:∀ {a b:Ow},Ow.eq a b = true->a = b
 | .fz,.fz,_=>rfl
 | .own es r,.own es' r',h=>by
  simp only [Ow.eq,Bool.and_eq_true] at h
  rw [Ow.eqs_ok h.1,Ow.eq_ok h.2]
 | .fz,.own _ _,h=>by simp [Ow.eq] at h
 | .own _ _,.fz,h=>by simp [Ow.eq] at h
theorem Ow.eqs_ok:∀ {a b:List Ow},Ow.eqs a b = true->a = b
 | [],[],_=>rfl
 | a :: as,b :: bs,h=>by
  simp only [Ow.eqs,Bool.and_eq_true] at h
  rw [Ow.eq_ok h.1,Ow.eqs_ok h.2]
 | [],_ :: _,h=>by simp [Ow.eqs] at h
 | _ :: _,[],h=>by simp [Ow.eqs] at h
end
noncomputable def fit1 (k:Ow) (p:KD):Bool:=match k with
 | .fz=>okS p.1 p.2
 | k=>(match p.1 with | .fr c=>c.eq k | _=>false)
noncomputable def fitL:List Ow->Ow->List KD->Bool
 | _,_,[]=>true
 | es,r,p :: ps=>fit1 (es.headD r) p && fitL es.tail r ps
section
variable {K:PySem.W.Frag} {H H' H0:Hp} {g:Gh} {Ft F:Pr}
theorem VR1.fit {k:Ow} {p:KD} {v:V} (h:fit1 k p = true) (m:MuOk H (Sx g Ft)) (hd:∀ b,F b->g b = none) (hs:∀ b,F b->Ft b) (r:VR1 K H g Ft p.1 p.2 v F):∃ F2:Pr,(∀ b,F2 b->F b)/\∀ S':Pr,(∀ b,S' b->H b = none\/g b ≠ none\/F2 b\/(Ft b/\¬ F b))->Tr K H S' p.2 k v F2:=by
 obtain ⟨kd,d⟩:=p
 cases k with
 | fz=>
  refine ⟨fun _=>False,fun b z=>z.elim,fun S' hS=>.fz ?_⟩
  have r1:Rp K H (fun b=>S' b/\H b ≠ none) d v:=by
   cases kd with
   | sh=>
    refine r.2.weak fun b z=>?_
    rcases hS b z.1 with q | q | q | q
    ·exact absurd q z.2
    ·exact .inl q
    ·exact q.elim
    ·exact .inr q.1
   | fr c=>
    refine Tr.rp (fun b z=>?_) r
    rcases hS b z.1 with q | q | q | q
    ·exact absurd q z.2
    ·exact ⟨.inl q,fun z2=>q (hd b z2)⟩
    ·exact q.elim
    ·exact ⟨.inr q.1,q.2⟩
   | bo i c=>
    refine r.rd.im (fun b z=>?_) h
    rcases hS b z.1 with q | q | q | q
    ·exact absurd q z.2
    ·exact m b (.inl q)
    ·exact q.elim
    ·exact m b (.inr q.1)
  exact r1.go fun b o n e=>⟨e,fun z=>n ⟨z,by rw [e]; exact fun h=>by cases h⟩⟩
 | own es r'=>
  cases kd with
  | sh=>cases h
  | bo i c=>cases h
  | fr c=>
   have h:c.eq (.own es r') = true:=h
   rw [Ow.eq_ok h] at r
   refine ⟨F,fun b z=>z,fun S' hS=>Tr.go (fun _ _ _ e=>e) (fun b o e n z=>?_) r⟩
   rcases hS b z with q | q | q | q
   ·rw [e] at q; cases q
   ·exact n (.inl q)
   ·exact n (.inr (hs b q))
   ·exact n (.inr q.1)
theorem VRL.fit:∀ {kds:List KD} {es:List Ow} {r:Ow} {vs:List V} {F:Pr},fitL es r kds = true->MuOk H (Sx g Ft)->(∀ b,F b->g b = none)->(∀ b,F b->Ft b)->VRL K H g Ft kds vs F->
  ∃ F2:Pr,(∀ b,F2 b->F b)/\∀ S':Pr,(∀ b,S' b->H b = none\/g b ≠ none\/F2 b\/(Ft b/\¬ F b))->TrL K H S' (kds.map (·.2)) es r vs F2
 | [],es,r,vs,F,_,_,_,_,h=>⟨fun _=>False,fun b z=>z.elim,fun S' hS=>by unfold List.map TrL; exact ⟨h.1,fun b z=>z⟩⟩
 | p :: ps,es,r,vs,F,hf,m,hd,hs,h=>by
  obtain ⟨y,ys,F1,F2,rfl,hF,dj,h1,h2⟩:=h
  unfold fitL at hf
  rw [Bool.and_eq_true] at hf
  obtain ⟨G1,a1,a2⟩:=VR1.fit hf.1 m (fun b z=>hd b ((hF b).mpr (.inl z))) (fun b z=>hs b ((hF b).mpr (.inl z))) h1
  obtain ⟨G2,b1,b2⟩:=VRL.fit hf.2 m (fun b z=>hd b ((hF b).mpr (.inr z))) (fun b z=>hs b ((hF b).mpr (.inr z))) h2
  refine ⟨fun b=>G1 b\/G2 b,fun b z=>(hF b).mpr (z.imp (a1 b) (b1 b)),fun S' hS=>?_⟩
  show TrL K H S' (p.2 :: ps.map (·.2)) es r (y :: ys) _
  unfold TrL
  refine ⟨y,ys,G1,G2,rfl,fun b=>Iff.rfl,fun b z1 z2=>dj b (a1 b z1) (b1 b z2),a2 S' fun b z=>?_,b2 S' fun b z=>?_⟩
  ·rcases hS b z with q | q | (q | q) | q
   ·exact .inl q
   ·exact .inr (.inl q)
   ·exact .inr (.inr (.inl q))
   ·exact .inr (.inr (.inr ⟨hs b ((hF b).mpr (.inr (b1 b q))),fun z=>dj b z (b1 b q)⟩))
   ·exact .inr (.inr (.inr ⟨q.1,fun z=>q.2 ((hF b).mpr (.inl z))⟩))
  ·rcases hS b z with q | q | (q | q) | q
   ·exact .inl q
   ·exact .inr (.inl q)
   ·exact .inr (.inr (.inr ⟨hs b ((hF b).mpr (.inl (a1 b q))),fun z=>dj b (a1 b q) z⟩))
   ·exact .inr (.inr (.inl q))
   ·exact .inr (.inr (.inr ⟨q.1,fun z=>q.2 ((hF b).mpr (.inr z))⟩))
theorem VRs.node {kds:List KD} {es:List Ow} {r:Ow} {vs:List V} {p:Addr} {hd:Hd} {o:HO} (hf:fitL es r kds = true) (m:MuOk H0 (Sg g)) (s:Same H0 H) (h:VRs K g H0 H kds vs) (hp:H p = none) (ho:HdOk K o hd vs) (hm:hd.mu = true) :
  VR K g H0 (upd H p o) (.fr (.own es r)) (.nd hd (kds.map (·.2))) (.ref p):=by
 obtain ⟨F,h1,h2⟩:=h
 have hgF:∀ b,F b->g b = none:=fun b z=>by
  cases e:g b with
  | none=>rfl
  | some i=>
   obtain ⟨o,q,_⟩:=m b (by rw [Sg,e]; exact fun h=>by cases h)
   rw [h1 b z] at q; cases q
 have mm:MuOk H (Sx g F):=fun b z=>z.elim (fun z=>m.same s b z) (fun z=>h2.dom b z)
 obtain ⟨F2,a1,a2⟩:=h2.fit hf mm hgF fun b z=>z
 have np:¬ F2 p:=fun z=>by
  obtain ⟨o,q,_⟩:=h2.dom p (a1 p z)
  rw [hp] at q; cases q
 refine ⟨fun b=>b = p\/F2 b,fun b z=>z.elim (fun z=>z ▸ s.free hp) fun z=>h1 b (a1 b z),?_⟩
 show Tr _ _ _ _ _ _ _
 unfold Tr
 refine ⟨p,o,vs,F2,rfl,upd_same,ho,fun _=>np,fun h=>by (rw [hm] at h; cases h),fun b=>⟨fun z=>z.imp (fun z=>⟨hm,z⟩) id,fun z=>z.imp (fun z=>z.2) id⟩,?_⟩
 refine (a2 (fun b=>g b ≠ none\/F2 b) fun b z=>.inr (z.imp id fun z=>.inl z)).go (fun b o' _ e=>same_upd hp b o' e) fun b o' e n z=>?_
 rcases z with z | z | z
 ·exact n (.inl z)
 ·subst z; rw [hp] at e; cases e
 ·exact n (.inr z)
theorem VRs.tupO {kds:List KD} {es:List Ow} {r:Ow} {vs:List V} {p:Addr} (hf:fitL es r kds = true) (m:MuOk H0 (Sg g)) (s:Same H0 H) (h:VRs K g H0 H kds vs) (hp:H p = none) :
  VR K g H0 (upd H p (.tup vs)) (.fr (.own es r)) (.tup (kds.map (·.2))) (.ref p):=by
 obtain ⟨F,h1,h2⟩:=h
 have hgF:∀ b,F b->g b = none:=fun b z=>by
  cases e:g b with
  | none=>rfl
  | some i=>
   obtain ⟨o,q,_⟩:=m b (by rw [Sg,e]; exact fun h=>by cases h)
   rw [h1 b z] at q; cases q
 have mm:MuOk H (Sx g F):=fun b z=>z.elim (fun z=>m.same s b z) (fun z=>h2.dom b z)
 obtain ⟨F2,a1,a2⟩:=h2.fit hf mm hgF fun b z=>z
 have np:¬ F2 p:=fun z=>by
  obtain ⟨o,q,_⟩:=h2.dom p (a1 p z)
  rw [hp] at q; cases q
 refine ⟨F2,fun b z=>h1 b (a1 b z),?_⟩
 show Tr _ _ _ _ _ _ _
 unfold Tr
 refine ⟨p,_,vs,F2,rfl,upd_same,rfl,(fun h=>nomatch h),fun _ z=>?_,fun b=>⟨fun z=>.inr z,fun z=>z.elim (fun z=>nomatch z.1) id⟩,?_⟩
 ·rcases z with z | z
  ·obtain ⟨o,q,_⟩:=m.same s p z
   rw [hp] at q; cases q
  ·exact np z
 ·exact (a2 (fun b=>g b ≠ none\/F2 b) fun b z=>.inr (z.imp id fun z=>.inl z)).go (fun b o' _ e=>same_upd hp b o' e) fun b o' e n z=>n z
end
noncomputable def oLst (k:Ow) (a:Option (List KD)):Option KD:=match a with
 | some kds=>(match k with | .own es r=>if fitL es r kds = true/\kds.length<=100000 then some (.fr (.own es r),.lst (kds.map (·.2))) else none | .fz=>none)
 | none=>none
noncomputable def oTup (k:Ow) (a:Option (List KD)):Option KD:=match a with
 | some kds=>(match k with
  | .own es r=>if fitL es r kds = true/\kds.length<=100000 then some (.fr (.own es r),.tup (kds.map (·.2))) else none
  | .fz=>if (kds.all fun p=>okS p.1 p.2) = true/\kds.length<=100000 then some (.sh,.tup (kds.map (·.2))) else none)
 | none=>none
section
variable {X:Cx} {Γ:Tab} {c:Cz}
theorem VRs.len {K:PySem.W.Frag} {g:Gh} {H0 H:Hp} {kds:List KD} {vs:List V} (h:VRs K g H0 H kds vs):vs.length = kds.length:=by
 have:=h.rd.len
 rw [List.length_map] at this
 exact this
theorem s_lst {k:Ow} {f:Ro->Option (List KD)} {es:List Expr} {pos:Pos} (hf:SndA X f es):SndE X (fun ρ=>oLst k (f ρ)) (.List es pos):=by
 intro ρ kd d h g σ H Q se q
 dsimp only [oLst] at h
 split at h
 ·rename_i kds e
  split at h
  ·split at h
   ·rename_i hz
    cases h
    refine pe_le (pe_lst pa_w) (hf ρ kds e g σ H _ se fun vs H1 s1 r1=>⟨by rw [r1.len]; exact size_small hz.2,fun p hp=>?_⟩)
    exact q _ _ (s1.trans (same_upd hp)) (r1.node hz.1 se.mu s1 hp rfl rfl)
   ·cases h
  ·cases h
 ·cases h
theorem s_tup {k:Ow} {f:Ro->Option (List KD)} {es:List Expr} {n:Nat} {pos:Pos} (hf:SndA X f es):SndE X (fun ρ=>oTup k (f ρ)) (.Tuple es n pos):=by
 intro ρ kd d h g σ H Q se q
 dsimp only [oTup] at h
 split at h
 ·rename_i kds e
  split at h
  ·split at h
   ·rename_i hz
    cases h
    refine pe_le (pe_tup pa_w) (hf ρ kds e g σ H _ se fun vs H1 s1 r1=>⟨by rw [r1.len]; exact size_small hz.2,fun p hp=>?_⟩)
    exact q _ _ (s1.trans (same_upd hp)) (r1.tupO hz.1 se.mu s1 hp)
   ·cases h
  ·split at h
   ·rename_i hz
    cases h
    refine pe_le (pe_tup pa_w) (hf ρ kds e g σ H _ se fun vs H1 s1 r1=>⟨by rw [r1.len]; exact size_small hz.2,fun p hp=>?_⟩)
    exact q _ _ (s1.trans (same_upd hp)) ((vTup (se.mu.same s1) hp (r1.sh hz.1 se.mu s1)).older s1)
   ·cases h
 ·cases h
noncomputable def plainIx:Expr->Bool
 | .Slice ..=>false
 | _=>true
theorem plainIx_ok {b:Expr} (h:plainIx b = true):PlainIx b:=by
 intro o i
 cases b <;> first | rfl | cases h
noncomputable def chr1 (z:Str) (i:Int):Option Str:=(L2.atI z.cps.toList i).map fun c=>⟨#[c]⟩
noncomputable def oIx (a b:Option KD):Option KD:=match a,b with
 | some (ka,.nd .lst xs),some (_,.int i)=>(match ixN xs.length i with | some j=>(xs[j]?).map fun d=>(chK ka j,d) | none=>none)
 | some (ka,.nd .tup xs),some (_,.int i)=>(match ixN xs.length i with | some j=>(xs[j]?).map fun d=>(chK ka j,d) | none=>none)
 | some (_,.scr ns),some (_,.int i)=>(L2.atI ns i).map fun d=>(.sh,.int d)
 | some (_,.str z),some (_,.int i)=>if z.length<=100000 then (chr1 z i).map fun d=>(.sh,.str d) else none
 | some (ka,.nd (.dic t ks) xs),some (_,kd)=>(match toDK kd with
  | some k=>if fitK t k = true then (match findK ks k with | some j=>(xs[j]?).map fun d=>(chK ka j,d) | none=>none) else none
  | none=>none)
 | _,_=>none
theorem atI_map {α β:Type} (f:α->β) (xs:List α) (i:Int):L2.atI (xs.map f) i = (L2.atI xs i).map f:=by
 unfold L2.atI
 rw [List.length_map]
 cases ixN xs.length i with
 | none=>rfl
 | some j=>simp
theorem s_ix (O:CxOk X Γ c) {fa fb:Ro->Option KD} {a b:Expr} {pos:Pos} (ha:SndE X fa a) (hb:SndE X fb b) (hp:plainIx b = true):SndE X (fun ρ=>oIx (fa ρ) (fb ρ)) (.Subscript a b pos):=by
 intro ρ kd d h g σ H Q se q
 dsimp only [oIx] at h
 split at h
 ·rename_i ka xs kb i ea eb
  split at h
  ·rename_i j hj
   cases e:xs[j]? with
   | none=>rw [e] at h; cases h
   | some d'=>
    rw [e] at h
    cases h
    refine pe_le (pe_ix ix_seq pe_w pe_w (plainIx_ok hp)) (two ha hb ea eb se fun x y H' s rx ry=>?_)
    obtain ⟨p,o,us,rfl,g1,q1,l1,c1⟩:=rx.ch
    cases (show o = _ from q1)
    obtain rfl:=ry.rd.int
    obtain ⟨v,e1,e2⟩:=c1 j _ e
    exact .inl ⟨p,us,i,v,rfl,rfl,.of g1,by unfold L2.atI; rw [l1,hj]; exact e1,q v H' s e2⟩
  ·cases h
 ·rename_i ka xs kb i ea eb
  split at h
  ·rename_i j hj
   cases e:xs[j]? with
   | none=>rw [e] at h; cases h
   | some d'=>
    rw [e] at h
    cases h
    refine pe_le (pe_ix ix_seq pe_w pe_w (plainIx_ok hp)) (two ha hb ea eb se fun x y H' s rx ry=>?_)
    obtain ⟨p,o,us,rfl,g1,q1,l1,c1⟩:=rx.ch
    cases (show o = _ from q1)
    obtain rfl:=ry.rd.int
    obtain ⟨v,e1,e2⟩:=c1 j _ e
    exact .inr (.inl ⟨p,us,i,v,rfl,rfl,.of g1,by unfold L2.atI; rw [l1,hj]; exact e1,q v H' s e2⟩)
  ·cases h
 ·rename_i ka ns kb i ea eb
  cases e:L2.atI ns i with
  | none=>rw [e] at h; cases h
  | some d'=>
   rw [e] at h
   cases h
   refine pe_le (pe_ix ix_seq pe_w pe_w (plainIx_ok hp)) (two ha hb ea eb se fun x y H' s rx ry=>?_)
   obtain ⟨p,rfl,g1⟩:=rx.rd.scr
   obtain rfl:=ry.rd.int
   exact .inl ⟨p,_,i,.int d',rfl,rfl,g1,by rw [atI_map,e]; rfl,q _ H' s vInt⟩
 ·rename_i ka z kb i ea eb
  split at h
  ·rename_i hz
   unfold chr1 at h
   cases e:L2.atI z.cps.toList i with
   | none=>rw [e] at h; cases h
   | some d'=>
    rw [e] at h
    cases h
    refine pe_le (pe_ix ix_seq pe_w pe_w (plainIx_ok hp)) (two ha hb ea eb se fun x y H' s rx ry=>?_)
    obtain rfl:=rx.rd.str
    obtain rfl:=ry.rd.int
    exact .inr (.inr ⟨z,i,d',rfl,rfl,size_small hz,e,q _ H' s vStr⟩)
  ·cases h
 ·rename_i ka t ks xs kb dk ea eb
  split at h
  ·rename_i k hk
   split at h
   ·rename_i hf
    split at h
    ·rename_i j hj
     cases e:xs[j]? with
     | none=>rw [e] at h; cases h
     | some d'=>
      rw [e] at h
      cases h
      refine pe_le (pe_dget (by have:=O.tab.units; omega) pe_w pe_w (plainIx_ok hp)) (two ha hb ea eb se fun x y H' s rx ry=>?_)
      obtain ⟨p,o,us,rfl,g1,q1,l1,c1⟩:=rx.ch
      obtain ⟨v,e1,e2⟩:=c1 j _ e
      have dg:=dget_of g1 q1 hk ry.rd hf
      rw [hj,Option.bind_some,e1] at dg
      exact ⟨p,v,rfl,dg,q v H' s e2⟩
    ·cases h
   ·cases h
  ·cases h
 ·cases h
noncomputable def cutD (xs:List D) (lo hi:Option Int):List D:=(xs.drop (HT.sIx xs.length 0 lo)).take (HT.sIx xs.length xs.length hi - HT.sIx xs.length 0 lo)
theorem RpL.cut {K:PySem.W.Frag} {H:Hp} {S:Pr} {ds:List D} {vs:List V} (h:RpL K H S ds vs) (lo hi:Option Int):RpL K H S (cutD ds lo hi) (cutV vs lo hi):=by
 unfold cutD cutV
 rw [h.len]
 exact (h.drop _).take _
noncomputable def wO (X:Cx) (e:Option Expr):TO:=fun σ H Q=>∃ t,PO X e t/\t σ H Q
theorem po_w {e:Option Expr}:PO X e (wO X e):=fun pins s σ H Q I h=>let ⟨t,p,q⟩:=h; p pins s σ H Q I q
noncomputable def SndO (X:Cx) (f:Ro->Option (Option Int)) (e:Option Expr):Prop:=∀ ρ o,f ρ = some o->∀ g σ H Q,SE X.K g ρ σ H->(∀ H',Same H H'->Q o H')->wO X e σ H Q
noncomputable def oInt (a:Option KD):Option (Option Int):=match a with | some (_,.int i)=>some (some i) | _=>none
theorem s_optN:SndO X (fun _=>some none) none:=fun ρ o h g σ H Q se q=>by cases h; exact ⟨_,po_none,q H (Same.refl H)⟩
theorem s_optS {f:Ro->Option KD} {e:Expr} (hf:SndE X f e):SndO X (fun ρ=>oInt (f ρ)) (some e):=fun ρ o h g σ H Q se q=>by
 dsimp only [oInt] at h
 split at h
 ·rename_i k i ea
  cases h
  exact ⟨_,po_some pe_w,hf ρ _ _ ea g σ H _ se fun v H' s r=>⟨i,r.rd.int,q H' s⟩⟩
 ·cases h
noncomputable def oSl (a:Option KD) (lo hi:Option (Option Int)):Option KD:=match a,lo,hi with
 | some (ka,.nd .lst xs),some l,some u=>if okE ka xs = true then some (.fr flatO,.lst (cutD xs l u)) else none
 | some (_,.scr ns),some l,some u=>some (.fr flatO,.lst (cutD (ns.map .int) l u))
 | some (ka,.nd .tup xs),some l,some u=>if okE ka xs = true then some (.sh,.tup (cutD xs l u)) else none
 | _,_,_=>none
theorem s_sl {fa:Ro->Option KD} {fl fh:Ro->Option (Option Int)} {a:Expr} {lo hi:Option Expr} {p2 pos:Pos} (ha:SndE X fa a) (hl:SndO X fl lo) (hh:SndO X fh hi):SndE X (fun ρ=>oSl (fa ρ) (fl ρ) (fh ρ)) (.Subscript a (.Slice lo hi none p2) pos):=by
 intro ρ kd d h g σ H Q se q
 dsimp only [oSl] at h
 split at h
 ·rename_i ka xs l u ea el eu
  split at h
  ·rename_i hk
   cases h
   refine pe_le (pe_slice sl_list pe_w po_w po_w) (ha ρ _ _ ea g σ H _ se fun x H1 s1 rx=>hl ρ _ el g σ H1 _ (se.same s1) fun H2 s2=>hh ρ _ eu g σ H2 _ ((se.same s1).same s2) fun H3 s3=>?_)
   obtain ⟨p,o,us,rfl,g1,q1,r⟩:=((rx.same s2).same s3).items hk se.mu ((s1.trans s2).trans s3)
   cases (show o = _ from q1)
   exact ⟨p,us,rfl,.of g1,fun p' hp'=>q _ _ (((s1.trans s2).trans s3).trans (same_upd hp')) ((vNew hp' (r.cut l u)).older ((s1.trans s2).trans s3))⟩
  ·cases h
 ·rename_i ka ns l u ea el eu
  cases h
  refine pe_le (pe_slice sl_list pe_w po_w po_w) (ha ρ _ _ ea g σ H _ se fun x H1 s1 rx=>hl ρ _ el g σ H1 _ (se.same s1) fun H2 s2=>hh ρ _ eu g σ H2 _ ((se.same s1).same s2) fun H3 s3=>?_)
  obtain ⟨p,rfl,g1⟩:=((rx.same s2).same s3).rd.scr
  exact ⟨p,_,rfl,g1,fun p' hp'=>q _ _ (((s1.trans s2).trans s3).trans (same_upd hp')) ((vNew hp' ((RpL.ints ns).cut l u)).older ((s1.trans s2).trans s3))⟩
 ·rename_i ka xs l u ea el eu
  split at h
  ·rename_i hk
   cases h
   refine pe_le (pe_slice (sl_tup.or sl_tupW) pe_w po_w po_w) (ha ρ _ _ ea g σ H _ se fun x H1 s1 rx=>hl ρ _ el g σ H1 _ (se.same s1) fun H2 s2=>hh ρ _ eu g σ H2 _ ((se.same s1).same s2) fun H3 s3=>?_)
   obtain ⟨p,o,us,rfl,g1,q1,r⟩:=((rx.same s2).same s3).items hk se.mu ((s1.trans s2).trans s3)
   cases (show o = _ from q1)
   by_cases hw:HT.sIx xs.length 0 l = 0/\HT.sIx xs.length xs.length u = xs.length
   ·refine .inr ⟨p,us,rfl,.of g1,by rw [r.len]; exact hw.1,by rw [r.len]; exact hw.2,q _ H3 ((s1.trans s2).trans s3) (vSh ?_)⟩
    have e:cutD xs l u = xs:=by unfold cutD; rw [hw.1,hw.2,List.drop_zero,Nat.sub_zero,List.take_length]
    rw [e]
    unfold Rp
    refine ⟨p,_,us,rfl,fun z=>?_,g1,rfl,r⟩
    obtain ⟨o,e,n⟩:=(se.mu.same ((s1.trans s2).trans s3)) p z
    rw [g1] at e; cases e; exact n _ rfl
   ·exact .inl ⟨p,us,rfl,.of g1,by rw [r.len]; exact hw,fun p' hp'=>q _ _ (((s1.trans s2).trans s3).trans (same_upd hp')) ((vTup (se.mu.same ((s1.trans s2).trans s3)) hp' (r.cut l u)).older ((s1.trans s2).trans s3))⟩
  ·cases h
 ·cases h
end
end J
namespace J
open PySem PySem.Spec L2
mutual
noncomputable def rok:Nat->D->Bool
 | _,.non=>true
 | _,.bl _=>true
 | _,.int i=>decide (i.natAbs < 10 ^ 70)
 | _,.str x=>PyData.strOk (reprText x) && x.cps.toList.all fun c=>decide (c < 16 ^ 8)
 | _,.scr _=>false
 | n,.nd .lst ds=>decide (1<=n) && rokL (n - 1) ds
 | n,.nd .tup ds=>decide (1<=n) && rokL (n - 1) ds
 | n,.nd (.dic t ks) _=>decide (1<=n) && (decide (t = 0) && ks.isEmpty)
 | _,.nd (.obj _ _) _=>false
noncomputable def rokL:Nat->List D->Bool
 | _,[]=>true
 | n,d :: ds=>rok n d && rokL n ds
end
mutual
noncomputable def bkD:D->Nat
 | .str x=>x.cps.size
 | .nd .lst ds=>bkL ds
 | .nd .tup ds=>bkL ds
 | _=>0
noncomputable def bkL:List D->Nat
 | []=>0
 | d :: ds=>bkD d + 1 + bkL ds
end
section
variable {X:Cx} {pins:List (Addr × Obj)} {σ:L2.St} {H:Hp} {s:Shared} {S:Pr}
end
end J
namespace J
open PySem PySem.Spec L2
section
variable {X:Cx}
theorem call_all_list (hc:X.calm = true):CallR X (.builtin "all") (fun xs H Q=>∃ (p:Addr) (bs:List Bool),xs = [.ref p]/\SqL X.K H p (bs.map V.bl)/\Q (.bl (bs.all id)) H):=by
 intro pins s σ H xs us Q I r h
 obtain ⟨p,bs,rfl,hq,q⟩:=h
 obtain ⟨u,rfl,rx⟩:=vals1 r
 cases rx
 obtain ⟨its,rv,pl,hz⟩:=I.list hq
 have hlen:=rv.length
 have hh:X.A.in1.handled = none:=I.ok.hd hc
 have hnz:p ≠ s.heap.objs.size:=by
  obtain ⟨o,n,e,_⟩:=pl
  exact Nat.ne_of_lt (Heap.lt_size e)
 refine call_all_walk (wpAny_pyIter_list pl.isList ?_)
 have hp:(s.heap.push { cls:=.type "list_iterator",data:=.fields #[.ref p,.int 0 0] }).IsList p its.toArray:=by
  obtain ⟨o,e,r⟩:=pl.isList
  exact ⟨o,Heap.get?_push_of_some _ e,r⟩
 refine ⟨s.heap.objs.size,_,_,_,_,_,fun i=>(bs[i]?).getD false,rfl,Walks.list hh s.heap.objs.size p hnz its.toArray,⟨⟨_,Heap.get?_push_size _ rfl,rfl,rfl⟩,hp⟩,fun i v s' Q' E' hP hQ=>?_,fun h' tk hk=>?_⟩
 ·have hP':its[i]? = some v:=by simpa using hP
  cases hb:bs[i]? with
  | none=>
   have h1:(bs.map V.bl)[i]? = none:=by rw [List.getElem?_map,hb]; rfl
   rw [rv.none_of h1] at hP'
   cases hP'
  | some b=>
   have h1:(bs.map V.bl)[i]? = some (.bl b):=by rw [List.getElem?_map,hb]; rfl
   obtain ⟨u,e1,e2⟩:=rv.get h1
   rw [hP'] at e1
   cases e1
   cases e2
   simp only [hb,Option.getD_some] at hQ
   exact wpAny_truthy_bool hQ
 ·have e:((List.range its.toArray.size).all fun i=>(bs[i]?).getD false) = bs.all id:=by
   have hl:its.toArray.size = bs.length:=by rw [List.size_toArray,<- hlen,List.length_map]
   rw [hl,Bool.eq_iff_iff]
   simp only [List.all_eq_true,List.mem_range,id]
   constructor
   ·intro h x hx
    obtain ⟨i,hi,rfl⟩:=List.mem_iff_getElem.mp hx
    have:=h i hi
    rw [List.getElem?_eq_getElem hi] at this
    exact this
   ·intro h i hi
    rw [List.getElem?_eq_getElem hi]
    exact h _ (List.getElem_mem hi)
  rw [e]
  refine ⟨.bl (bs.all id),H,I.kept fun b o q'=>hk b o (fun z=>?_) (Heap.get?_push_of_some _ q'),rfl,q⟩
  have:b = s.heap.objs.size:=by simpa using z
  exact absurd (this ▸ Heap.lt_size q') (Nat.lt_irrefl _)
theorem call_isinst:CallR X (.builtin "isinstance") (fun xs H Q=>∃ x T t b,xs = [x,.ty T]/\TyOf X.K H x t/\PySem.W.kitOne X.K t (.type T) = some b/\Q (.bl b) H):=by
 intro pins s σ H xs us Q I r h
 obtain ⟨x,T,t,b,rfl,ty,e,q⟩:=h
 obtain ⟨u,w',rfl,r1,r2⟩:=vals2 r
 cases r2
 exact isinst_ok I r1 ty e fun tk=>⟨.bl b,H,I.tok _,rfl,q⟩
theorem call_lenK:CallR X (.builtin "len") (fun xs H Q=>∃ a kvs,xs = [V.ref a]/\H a = some (.dK kvs)/\Q (.int kvs.length) H):=by
 intro pins s σ H xs us Q I r h
 obtain ⟨a,kvs,rfl,ha,q⟩:=h
 obtain ⟨u,rfl,ru⟩:=vals1 r
 cases ru
 exact d_len I (.inl ha) fun t s' I'=>⟨.int kvs.length,H,I',⟨t,rfl⟩,q⟩
end
noncomputable def lenD:D->Option Nat
 | .nd .lst ds=>some ds.length
 | .nd .tup ds=>some ds.length
 | .nd (.dic 0 _) ds=>some ds.length
 | .scr ns=>some ns.length
 | .str x=>if x.length<=100000 then some x.length else none
 | _=>none
noncomputable def toBools:List D->Option (List Bool)
 | []=>some []
 | .bl b :: r=>(toBools r).map (b :: ·)
 | _=>none
noncomputable def toInts:List D->Option (List Int)
 | []=>some []
 | .int b :: r=>(toInts r).map (b :: ·)
 | _=>none
theorem toBools_eq:∀ {ds:List D} {bs:List Bool},toBools ds = some bs->ds = bs.map D.bl
 | [],bs,h=>by cases h; rfl
 | d :: r,bs,h=>by
  cases d <;> simp only [toBools] at h <;> try cases h
  rename_i b
  cases e:toBools r with
  | none=>rw [e] at h; cases h
  | some cs=>rw [e] at h; cases h; rw [toBools_eq e]; rfl
theorem toBools_map:∀ ns:List Bool,toBools (ns.map D.bl) = some ns
 | []=>rfl
 | n :: ns=>by simp [toBools,toBools_map ns]
theorem RpL.bools {K:PySem.W.Frag} {H:Hp} {S:Pr}:∀ {bs:List Bool} {vs:List V},RpL K H S (bs.map D.bl) vs->vs = bs.map V.bl
 | [],_,h=>h.nil_inv
 | b :: bs,_,h=>by
  obtain ⟨y,ys,rfl,r,t⟩:=h.cons_inv
  rw [r.bl,RpL.bools t]; rfl
noncomputable def fLen (kds:List KD):Option KD:=match kds with | [(_,d)]=>(lenD d).map fun n=>(.sh,.int n) | _=>none
noncomputable def fAll (kds:List KD):Option KD:=match kds with | [(_,.nd .lst ds)]=>(toBools ds).map fun bs=>(.sh,.bl (bs.all id)) | _=>none
noncomputable def fAny (kds:List KD):Option KD:=match kds with | [(_,.nd .lst ds)]=>(toBools ds).map fun bs=>(.sh,.bl (bs.any id)) | _=>none
noncomputable def fList (kds:List KD):Option KD:=match kds with
 | [(k,.nd .lst ds)]=>if okE k ds = true then some (.fr flatO,.lst ds) else none
 | [(k,.nd .tup ds)]=>if okE k ds = true then some (.fr flatO,.lst ds) else none
 | [(_,.scr ns)]=>some (.fr flatO,.lst (ns.map D.int))
 | _=>none
noncomputable def fTuple (kds:List KD):Option KD:=match kds with
 | [(k,.nd .lst ds)]=>if okE k ds = true then some (.sh,.tup ds) else none
 | _=>none
noncomputable def fStr (kds:List KD):Option KD:=match kds with | [(_,.int i)]=>if i.natAbs.log2 < 1920 then some (.sh,.str (toString i)) else none | _=>none
noncomputable def fSum (kds:List KD):Option KD:=match kds with | [(_,.nd .lst ds)]=>(toInts ds).map fun ns=>(.sh,.int ns.sum) | [(_,.scr ns)]=>some (.sh,.int ns.sum) | _=>none
noncomputable def fMin (kds:List KD):Option KD:=match kds with | [(_,.int i),(_,.int j)]=>some (.sh,.int (if j < i then j else i)) | _=>none
noncomputable def maxL (n:Int) (ns:List Int):Int:=ns.foldl (fun a b=>if a < b then b else a) n
noncomputable def fMax (kds:List KD):Option KD:=match kds with
 | [(_,.int i),(_,.int j)]=>some (.sh,.int (if j > i then j else i))
 | [(_,.nd .lst ds)]=>(match J.toInts ds with | some (n :: ns)=>some (.sh,.int (maxL n ns)) | _=>none)
 | _=>none
noncomputable def fAbs (kds:List KD):Option KD:=match kds with | [(_,.int i)]=>some (.sh,.int (if i < 0 then -i else i)) | _=>none
noncomputable def fInt (kds:List KD):Option KD:=match kds with | [(_,.bl b)]=>some (.sh,.int (if b then 1 else 0)) | _=>none
noncomputable def toPairs:List D->Option (List (Int × D))
 | []=>some []
 | d :: r=>match d with
  | .nd .tup ds=>(match ds with
   | [a,x]=>(match a with | .int z=>(toPairs r).map ((z,x) :: ·) | _=>none)
   | _=>none)
  | _=>none
noncomputable def pairD (ps:List (Int × D)):D:=.nd (.dic 0 (ps.map fun p=>Sum.inl (Sum.inl p.1))) (ps.map (·.2))
noncomputable def fDict (kds:List KD):Option KD:=match kds with
 | [(k,.nd .lst ds)]=>if okE k ds = true then (match toPairs ds with | some ps=>if (ps.map (·.1)).Nodup/\ps.length<=100000 then some (.fr flatO,pairD ps) else none | none=>none) else none
 | _=>none
noncomputable def fRepr1 (d:D):Option KD:=if rok 98 d = true/\bkD d<=200000 then some (.sh,.str (py d).shown) else none
noncomputable def fRepr (kds:List KD):Option KD:=match kds with
 | [(_,d)]=>fRepr1 d
 | _=>none
noncomputable def fBlt (x:Str):List KD->Option KD:=
 if x = "len" then fLen else if x = "all" then fAll else if x = "any" then (fun _=>none) else if x = "list" then fList else if x = "tuple" then fTuple else if x = "str" then (fun _=>none) else if x = "sum" then (fun _=>none)
 else if x = "min" then (fun _=>none) else if x = "max" then (fun _=>none) else if x = "abs" then (fun _=>none) else if x = "int" then (fun _=>none) else if x = "dict" then (fun _=>none) else if x = "repr" then (fun _=>none) else fun _=>none
noncomputable def oBlt (x:Str) (a:Option (List KD)):Option KD:=match a with | some kds=>fBlt x kds | none=>none
noncomputable def AP1 (X:Cx) (kds:List KD) (kd:Kd) (d:D) (Q:VK) (vs:List V) (H1:Hp):Prop:=∃ g H0,MuOk H0 (Sg g)/\Same H0 H1/\VRs X.K g H0 H1 kds vs/\∀ v H',Same H1 H'->VR X.K g H0 H' kd d v->Q v H'
noncomputable def StrictOk (X:Cx) (f:List KD->Option KD) (es:List Expr) (node:Expr):Prop:=∀ kds kd d,f kds = some (kd,d)->∀ σ H Q,wA X es σ H (AP1 X kds kd d Q)->wE X node σ H Q
theorem wA_mono {X:Cx} {es:List Expr} {σ:L2.St} {H:Hp} {Q Q':List V->Hp->Prop} (h:wA X es σ H Q) (k:∀ vs H,Q vs H->Q' vs H):wA X es σ H Q':=fun pos pins s I=>thn (h pos pins s I) fun us s' ⟨vs,H',I',r,q⟩=>⟨vs,H',I',r,k vs H' q⟩
theorem wE_mono {X:Cx} {e:Expr} {σ:L2.St} {H:Hp} {Q Q':VK} (h:wE X e σ H Q) (k:∀ v H,Q v H->Q' v H):wE X e σ H Q':=fun pins s I=>thn (h pins s I) fun u s' ⟨v,H',I',r,q⟩=>⟨v,H',I',r,k v H' q⟩
theorem StrictOk.snd {X:Cx} {f:List KD->Option KD} {es:List Expr} {node:Expr} {fa:Ro->Option (List KD)} (h:StrictOk X f es node) (ha:SndA X fa es):SndE X (fun ρ=>(fa ρ).bind f) node:=by
 intro ρ kd d hd g σ H Q se q
 dsimp only at hd
 cases e:fa ρ with
 | none=>rw [e] at hd; cases hd
 | some kds=>
  rw [e] at hd
  exact h kds kd d hd σ H Q (ha ρ kds e g σ H _ se fun vs H1 s1 r1=>⟨g,H,se.mu,s1,r1,fun v H' s r=>q v H' (s1.trans s) r⟩)
noncomputable def BltOk (X:Cx) (x:Str) (f:List KD->Option KD):Prop:=∀ (e:Expr) (es:List Expr) (p pos:Pos),Gl X x->noStar e = true->es.all noStar = true->StrictOk X f (e :: es) (.Call (.Name x p) (e :: es) [] pos)
section
variable {X:Cx} {Γ:Tab} {c:Cz}
theorem b_len (O:CxOk X Γ c):BltOk X "len" fLen:=by
 intro e es p pos hg n1 n2 kds kd d h σ H Q hA
 unfold fLen at h
 split at h
 ·rename_i ka da
  cases hl:lenD da with
  | none=>rw [hl] at h; cases h
  | some n=>
   rw [hl] at h
   cases h
   refine pe_le (pe_callB (call_len_seq.or (call_len_str.or call_lenK)) hg (O.tab.bl _ (by simp [bltNames])) PySem.boot_len pa_w (by decide) (by decide) (star_of n1) (back_any n2)) (wA_mono hA fun vs H1 ⟨g,H0,m,s1,r1,q⟩=>?_)
   obtain ⟨v,rfl,r⟩:=r1.one
   have t:=r.rd
   cases da with
   | scr ns=>
    obtain ⟨a,rfl,g1⟩:=t.scr
    cases hl
    exact .inl ⟨a,_,rfl,.inl g1,q _ H1 (Same.refl H1) (by rw [List.length_map]; exact vInt)⟩
   | str x=>
    obtain rfl:=t.str
    simp only [lenD] at hl
    split at hl
    ·rename_i hz
     cases hl
     exact .inr (.inl ⟨x,rfl,size_small hz,q _ H1 (Same.refl H1) vInt⟩)
    ·cases hl
   | nd hd ds=>
    obtain ⟨a,o,us,rfl,_,g1,q1,rr⟩:=t.nd
    cases hd with
    | lst=>cases hl; cases (show o = _ from q1); exact .inl ⟨a,us,rfl,.inl (.of g1),q _ H1 (Same.refl H1) (by rw [rr.len]; exact vInt)⟩
    | tup=>cases hl; cases (show o = _ from q1); exact .inl ⟨a,us,rfl,.inr (.of g1),q _ H1 (Same.refl H1) (by rw [rr.len]; exact vInt)⟩
    | dic tt ks=>
     cases tt with
     | succ tt=>cases hl
     | zero=>
      cases hl
      rcases q1 with ⟨_,kvs,rfl,e1,e2⟩ | ⟨h0,_⟩
      ·exact .inr (.inr ⟨a,kvs,rfl,g1,q _ H1 (Same.refl H1) (by rw [<- rr.len,e2,List.length_map]; exact vInt)⟩)
      ·cases h0
    | obj c ns=>cases hl
   | _=>cases hl
 ·cases h
theorem b_all (O:CxOk X Γ c):BltOk X "all" fAll:=by
 intro e es p pos hg n1 n2 kds kd d h σ H Q hA
 unfold fAll at h
 split at h
 ·rename_i ka ds
  cases hl:toBools ds with
  | none=>rw [hl] at h; cases h
  | some bs=>
   rw [hl] at h
   cases h
   refine pe_le (pe_callB (call_all_list O.calm) hg (O.tab.bl _ (by simp [bltNames])) PyProof.Rows.boot_all pa_w (by decide) (by decide) (star_of n1) (back_any n2)) (wA_mono hA fun vs H1 ⟨g,H0,m,s1,r1,q⟩=>?_)
   obtain ⟨v,rfl,r⟩:=r1.one
   obtain ⟨a,o,us,rfl,_,g1,q1,rr⟩:=r.rd.nd
   cases (show o = _ from q1)
   rw [toBools_eq hl] at rr
   exact ⟨a,bs,rfl,.of (by rw [g1,rr.bools]),q _ H1 (Same.refl H1) vBl⟩
 ·cases h
theorem b_list (O:CxOk X Γ c):BltOk X "list" fList:=by
 intro e es p pos hg n1 n2 kds kd d h σ H Q hA
 unfold fList at h
 split at h
 ·rename_i ka ds
  split at h
  ·rename_i hk
   cases h
   refine pe_le (pe_callTy call_list_of hg (O.tab.bl _ (by simp [bltNames])) PyProof.Rows.boot_list pa_w (by decide) (by decide) (star_of n1) (back_any n2)) (wA_mono hA fun vs H1 ⟨g,H0,m,s1,r1,q⟩=>?_)
   obtain ⟨v,rfl,r⟩:=r1.one
   obtain ⟨a,o,us,rfl,g1,q1,rr⟩:=r.items hk m s1
   cases (show o = _ from q1)
   exact ⟨a,us,rfl,.inl (.of g1),fun l hl=>q _ _ (same_upd hl) ((vNew hl rr).older s1)⟩
  ·cases h
 ·rename_i ka ds
  split at h
  ·rename_i hk
   cases h
   refine pe_le (pe_callTy call_list_of hg (O.tab.bl _ (by simp [bltNames])) PyProof.Rows.boot_list pa_w (by decide) (by decide) (star_of n1) (back_any n2)) (wA_mono hA fun vs H1 ⟨g,H0,m,s1,r1,q⟩=>?_)
   obtain ⟨v,rfl,r⟩:=r1.one
   obtain ⟨a,o,us,rfl,g1,q1,rr⟩:=r.items hk m s1
   cases (show o = _ from q1)
   exact ⟨a,us,rfl,.inr (.of g1),fun l hl=>q _ _ (same_upd hl) ((vNew hl rr).older s1)⟩
  ·cases h
 ·rename_i ka ns
  cases h
  refine pe_le (pe_callTy call_list_of hg (O.tab.bl _ (by simp [bltNames])) PyProof.Rows.boot_list pa_w (by decide) (by decide) (star_of n1) (back_any n2)) (wA_mono hA fun vs H1 ⟨g,H0,m,s1,r1,q⟩=>?_)
  obtain ⟨v,rfl,r⟩:=r1.one
  obtain ⟨a,rfl,g1⟩:=r.rd.scr
  exact ⟨a,_,rfl,.inl g1,fun l hl=>q _ _ (same_upd hl) ((vNew hl (RpL.ints ns)).older s1)⟩
 ·cases h
theorem b_tuple (O:CxOk X Γ c):BltOk X "tuple" fTuple:=by
 intro e es p pos hg n1 n2 kds kd d h σ H Q hA
 unfold fTuple at h
 split at h
 ·rename_i ka ds
  split at h
  ·rename_i hk
   cases h
   refine pe_le (pe_callTy call_tuple_of hg (O.tab.bl _ (by simp [bltNames])) PyProof.Rows.boot_tuple pa_w (by decide) (by decide) (star_of n1) (back_any n2)) (wA_mono hA fun vs H1 ⟨g,H0,m,s1,r1,q⟩=>?_)
   obtain ⟨v,rfl,r⟩:=r1.one
   obtain ⟨a,o,us,rfl,g1,q1,rr⟩:=r.items hk m s1
   cases (show o = _ from q1)
   exact ⟨a,us,rfl,.inl ⟨.of g1,fun l hl=>q _ _ (same_upd hl) ((vTup (m.same s1) hl rr).older s1)⟩⟩
  ·cases h
 ·cases h
theorem few_ok {e:Expr} {env:Env} {cp:Pos} (h:noStar e = true):((backTo cp (starEach [e] env)).all (fun x=>!x.1) && (backToKw cp (keywordEach [] env)).all (fun x=>x.1.isSome)
      && decide ([e].length + ([]:List Keyword).length + (if ([]:List Keyword).isEmpty then 0 else 1) < 30)) = true:=by
  rw [star_of h]
  rfl
noncomputable def baseB:Expr->Bool
 | .Name x _=>!(x == ("super":Str))
 | .Subscript ..=>true
 | .Attribute ..=>true
 | _=>false
theorem base_ok {b:Expr} {m:Str} {env:Env} {w:Sem Value} (h:baseB b = true):attributeBase b m env w = w:=by
 cases b with
 | Name x p=>
  unfold attributeBase
  have h:(x == ("super":Str)) = false:=by simpa [baseB] using h
  simp [h]
 | Subscript a b p=>rfl
 | Attribute a b p=>rfl
 | _=>cases h
noncomputable def oLset (a:Option KD):Option KD:=match a with
 | some (_,.nd .lst ds)=>(match toKeys ds with | some ks=>if ks.length<=4000 then some (.sh,.int (G.cntK ks)) else none | none=>none)
 | _=>none
theorem s_lset (O:CxOk X Γ c) {fa:Ro->Option KD} {a:Expr} {p p2 pos pos2:Pos} (hg:Gl X "len") (hg2:Gl X "set") (hn:noStar a = true) (ha:SndE X fa a):SndE X (fun ρ=>oLset (fa ρ)) (.Call (.Name "len" p) [.Call (.Name "set" p2) [a] [] pos2] [] pos):=by
 intro ρ kd d h g σ H Q se q
 dsimp only [oLset] at h
 split at h
 ·rename_i ka ds ea
  split at h
  ·rename_i ks hk
   obtain ⟨hz,e⟩:=ifS h
   cases e
   refine pe_le (G.pe_lset O.calm hg (O.tab.bl _ (by simp [bltNames])) hg2 (O.tab.bl _ (by simp [bltNames])) (pa_cons pe_w pa_nil (star_of hn)) (star_of hn)) (ha ρ _ _ ea g σ H _ se fun v H1 s1 r1=>?_)
   obtain ⟨a',o,us,rfl,_,g1,q1,rr⟩:=r1.rd.nd
   cases (show o = _ from q1)
   exact ⟨a',ks,rfl,.of (by rw [g1,toKeys_v hk rr]),hz,q _ H1 s1 vInt⟩
  ·cases h
 ·cases h
noncomputable def oDsp (k:D) (a:Option KD):Option KD:=match a with
 | some (kv,d)=>(match toKey k with | some x=>if okS kv d = true then some (.fr flatO,.nd (.dic 0 [Sum.inl x]) [d]) else none | none=>none)
 | none=>none
theorem s_dsp {fa:Ro->Option KD} {kD:D} {k a:Expr} {pos:Pos} (hk:SndE X (fun _=>some (.sh,kD)) k) (ha:SndE X fa a):SndE X (fun ρ=>oDsp kD (fa ρ)) (.Dict [some k] [a] pos):=by
 intro ρ kd d h g σ H Q se q
 dsimp only [oDsp] at h
 split at h
 ·rename_i kv dv ea
  split at h
  ·rename_i x hx
   obtain ⟨hz,e⟩:=ifS h
   cases e
   refine pe_le (pe_disp (pps_cons pe_w pe_w pps_nil) rfl rfl (by simp) (by simp)) fun p hp=>?_
   have se1:SE X.K (g.plus fun b=>b = p) ρ σ (upd H p (.dK [])):=se.plus (same_upd hp) (fun b z=>z ▸ hp) fun b z=>⟨.dK [],by rw [z]; exact upd_same,fun xs e=>nomatch e⟩
   refine hk ρ _ _ rfl _ σ _ _ se1 fun x1 H1 s1 rx=>ha ρ _ _ ea _ σ H1 _ (se1.same s1) fun y H2 s2 ry=>?_
   obtain rfl:=toKey_v hx rx.rd
   have rp:Rp X.K H2 (Sg (g.plus fun b=>b = p)) dv y:=ry.sh hz (se1.same s1).mu s2
   refine ⟨s2 _ _ (s1 _ _ upd_same),[(x,y)],rfl,by simp,q _ _ (fun b o e=>?_) ?_⟩
   ·rw [upd_ne (ne_of_none e hp)]
    exact s2 _ _ (s1 _ _ (same_upd hp b o e))
   ·refine ⟨fun b=>b = p,fun b z=>z ▸ hp,?_⟩
    show Tr X.K _ _ _ _ _ _
    unfold Tr
    refine ⟨p,_,[y],fun _=>False,rfl,upd_same,.inl ⟨rfl,[(x,y)],rfl,rfl,rfl⟩,fun _ z=>z,(fun h=>nomatch h),fun b=>⟨fun z=>.inl ⟨rfl,z⟩,fun z=>z.elim (fun z=>z.2) fun z=>z.elim⟩,.ofFz (.cons (rp.go fun b o n e=>?_) .nil)⟩
    have nb:¬ (Sg g b\/b = p):=fun z=>n ((plus_S b).mpr z)
    exact ⟨by rw [upd_ne fun z=>nb (.inr z)]; exact e,nb⟩
  ·cases h
 ·cases h
theorem b_off {x:Str}:BltOk X x (fun _=>none):=fun e es p pos hg n1 n2 kds kd d h=>by cases h
theorem b_if {x y:Str} {f g:List KD->Option KD} (h1:x = y->BltOk X x f) (h2:BltOk X x g):BltOk X x (if x = y then f else g):=by
 by_cases h:x = y
 ·rw [if_pos h]; exact h1 h
 ·rw [if_neg h]; exact h2
theorem b_all_ok (O:CxOk X Γ c) (x:Str):BltOk X x (fBlt x):=by
 unfold fBlt
 refine b_if (fun h=>?_) ?_
 ·first | exact b_off | (subst h; exact b_len O)
 refine b_if (fun h=>?_) ?_
 ·first | exact b_off | (subst h; exact b_all O)
 refine b_if (fun h=>?_) ?_
 ·first | exact b_off | (subst h; exact b_any O)
 refine b_if (fun h=>?_) ?_
 ·first | exact b_off | (subst h; exact b_list O)
 refine b_if (fun h=>?_) ?_
 ·first | exact b_off | (subst h; exact b_tuple O)
 refine b_if (fun h=>?_) ?_
 ·first | exact b_off | (subst h; exact b_str O)
 refine b_if (fun h=>?_) ?_
 ·first | exact b_off | (subst h; exact b_sum O)
 refine b_if (fun h=>?_) ?_
 ·first | exact b_off | (subst h; exact b_min O)
 refine b_if (fun h=>?_) ?_
 ·first | exact b_off | (subst h; exact b_max O)
 refine b_if (fun h=>?_) ?_
 ·first | exact b_off | (subst h; exact b_abs O)
 refine b_if (fun h=>?_) ?_
 ·first | exact b_off | (subst h; exact b_int O)
 refine b_if (fun h=>?_) ?_
 ·first | exact b_off | (subst h; exact b_dict O)
 refine b_if (fun h=>?_) ?_
 ·first | exact b_off | (subst h; exact b_repr O)
 ·intro e es p pos hg n1 n2 kds kd d h
  cases h
theorem s_blt (O:CxOk X Γ c) {x:Str} {e:Expr} {es:List Expr} {p pos:Pos} {fa:Ro->Option (List KD)} (hf:SndA X fa (e :: es)) (hg:glB c.sc x = true) (n1:noStar e = true) (n2:es.all noStar = true):SndE X (fun ρ=>oBlt x (fa ρ)) (.Call (.Name x p) (e :: es) [] pos):=by
 have:=(b_all_ok O x e es p pos (gl_of O hg) n1 n2).snd hf
 rw [show (fun ρ=>oBlt x (fa ρ)) = fun ρ=>(fa ρ).bind (fBlt x) by funext ρ; unfold oBlt; cases fa ρ <;> rfl]
 exact this
end
end J
namespace J
open PySem PySem.Spec L2
inductive Src where
 | non | l (a:Addr) (ds:List D) | t (a:Addr) (ds:List D) | two (s u:Src)
noncomputable def Src.P (K:PySem.W.Frag):Src->Gh->Hp->Prop
 | .non,_,_=>True
 | .l a ds,g,H=>∃ xs,SqL K H a xs/\RpL K H (Sg g) ds xs
 | .t a ds,g,H=>∃ xs,SqT K H a xs/\RpL K H (Sg g) ds xs
 | .two s u,g,H=>s.P K g H/\u.P K g H
noncomputable def Src.isL (b:Addr):Src->Prop
 | .non=>False
 | .l a _=>a = b
 | .t _ _=>False
 | .two s u=>s.isL b\/u.isL b
noncomputable def Src.isT (b:Addr):Src->Prop
 | .non=>False
 | .l _ _=>False
 | .t a _=>a = b
 | .two s u=>s.isT b\/u.isT b
noncomputable def Src.from (g:Gh) (H:Hp) (bs:List Nat):Src->Prop
 | .non=>True
 | .l a _=>g a = none\/∃ i ∈ bs,g a = some (some i)
 | .t a _=>g a = none
 | .two s u=>s.from g H bs/\u.from g H bs
theorem Src.from.from_l {g:Gh} {H:Hp} {bs:List Nat} {b:Addr}:∀ {s:Src},s.from g H bs->s.isL b->g b = none\/∃ i ∈ bs,g b = some (some i)
 | .l a _,h,e=>by cases (show a = b from e); exact h
 | .two s u,h,e=>by
  rcases (show s.isL b\/u.isL b from e) with e | e
  ·exact Src.from.from_l (show s.from g H bs/\u.from g H bs from h).1 e
  ·exact Src.from.from_l (show s.from g H bs/\u.from g H bs from h).2 e
 | .non,_,e=>e.elim
 | .t _ _,_,e=>e.elim
theorem Src.from.from_t {g:Gh} {H:Hp} {bs:List Nat} {b:Addr}:∀ {s:Src},s.from g H bs->s.isT b->g b = none
 | .t a _,h,e=>by cases (show a = b from e); exact h
 | .two s u,h,e=>by
  rcases (show s.isT b\/u.isT b from e) with e | e
  ·exact Src.from.from_t (show s.from g H bs/\u.from g H bs from h).1 e
  ·exact Src.from.from_t (show s.from g H bs/\u.from g H bs from h).2 e
 | .non,_,e=>e.elim
 | .l _ _,_,e=>e.elim
theorem Src.from.from_H {g:Gh} {H H':Hp} {bs:List Nat}:∀ {s:Src},s.from g H bs->s.from g H' bs
 | .t a _,h=>h
 | .l a _,h=>h
 | .non,_=>trivial
 | .two s u,h=>⟨Src.from.from_H (show s.from g H bs/\u.from g H bs from h).1,Src.from.from_H (show s.from g H bs/\u.from g H bs from h).2⟩
section
variable {K:PySem.W.Frag} {H H':Hp} {g g':Gh}
theorem sqL_mono {a:Addr} {xs:List V} (k:∀ o,H a = some o->H' a = some o) (h:SqL K H a xs):SqL K H' a xs:=by
 rcases h with (h | ⟨o,h⟩) | h
 ·exact .inl (.inl (k _ h))
 ·exact .inl (.inr ⟨o,k _ h⟩)
 ·exact .inr h
theorem sqT_mono {a:Addr} {xs:List V} (k:∀ o,H a = some o->H' a = some o) (h:SqT K H a xs):SqT K H' a xs:=by
 rcases h with (h | ⟨o,h⟩) | h
 ·exact .inl (.inl (k _ h))
 ·exact .inl (.inr ⟨o,k _ h⟩)
 ·exact .inr h
theorem Src.mono (k2:∀ b o,H b = some o->¬ Sg g b->¬ Sg g' b):∀ {s:Src},(∀ b o,(¬ Sg g b\/s.isL b)->H b = some o->H' b = some o)->(∀ a,s.isT a->g a = none)->s.P K g H->s.P K g' H'
 | .non,_,_,_=>trivial
 | .l a ds,k,ht,h=>by
  obtain ⟨xs,h1,h2⟩:=h
  exact ⟨xs,sqL_mono (fun o e=>k a o (.inr rfl) e) h1,h2.go fun b o n e=>⟨k b o (.inl n) e,k2 b o e n⟩⟩
 | .t a ds,k,ht,h=>by
  obtain ⟨xs,h1,h2⟩:=h
  exact ⟨xs,sqT_mono (fun o e=>k a o (.inl (by rw [Sg,ht a rfl]; simp)) e) h1,h2.go fun b o n e=>⟨k b o (.inl n) e,k2 b o e n⟩⟩
 | .two s u,k,ht,h=>⟨Src.mono k2 (fun b o z=>k b o (z.imp id .inl)) (fun a z=>ht a (.inl z)) (show s.P K g H/\u.P K g H from h).1,Src.mono k2 (fun b o z=>k b o (z.imp id .inr)) (fun a z=>ht a (.inr z)) (show s.P K g H/\u.P K g H from h).2⟩
end
noncomputable def ItOk (K:PySem.W.Frag) (J:It) (s:Src) (ds:List D):Prop:=∀ (i:Nat) (g:Gh) (H:Hp),s.P K g H->MuOk H (Sg g)->
 (ds.length<=i->J.stop i H)/\∀ d,ds[i]? = some d->J.go i H/\∀ x H',J.yld i H x H'->Same H H'/\Rp K H' (Sg g) d x
section
variable {K:PySem.W.Frag}
theorem it_l {a:Addr} {ds:List D}:ItOk K (Itl K a) (.l a ds) ds:=by
 rintro i g H ⟨us,g1,r⟩ m
 refine ⟨fun hi=>⟨us,g1,by rw [r.len]; exact hi⟩,fun d hd=>?_⟩
 obtain ⟨x,e1,e2⟩:=r.getD hd
 refine ⟨⟨us,x,g1,e1⟩,fun y H' hy=>?_⟩
 obtain ⟨rfl,hy⟩:=hy
 have:=hy us g1
 rw [e1] at this
 cases this
 exact ⟨Same.refl _,e2⟩
theorem it_t {a:Addr} {ds:List D}:ItOk K (Itt K a) (.t a ds) ds:=by
 rintro i g H ⟨us,g1,r⟩ m
 refine ⟨fun hi=>⟨us,g1,by rw [r.len]; exact hi⟩,fun d hd=>?_⟩
 obtain ⟨x,e1,e2⟩:=r.getD hd
 refine ⟨⟨us,x,g1,e1⟩,fun y H' hy=>?_⟩
 obtain ⟨rfl,hy⟩:=hy
 have:=hy us g1
 rw [e1] at this
 cases this
 exact ⟨Same.refl _,e2⟩
theorem it_e {a:Addr} {ds:List D}:ItOk K (G.Ite K a) (.l a ds) (ds.mapIdx fun i d=>D.tup [.int i,d]):=by
 rintro i g H ⟨us,g1,r⟩ m
 refine ⟨fun hi=>⟨us,g1,by rw [r.len]; simpa using hi⟩,fun d hd=>?_⟩
 rw [List.getElem?_mapIdx] at hd
 cases q:ds[i]? with
 | none=>rw [q] at hd; cases hd
 | some d'=>
  rw [q] at hd
  cases hd
  obtain ⟨x,e1,e2⟩:=r.getD q
  refine ⟨⟨us,x,g1,e1⟩,fun y H' hy=>?_⟩
  obtain ⟨p,v,hp,rfl,rfl,hy⟩:=hy
  have:=hy us g1
  rw [e1] at this
  cases this
  refine ⟨same_upd hp,?_⟩
  unfold Rp
  refine ⟨p,_,_,rfl,fun z=>?_,upd_same,rfl,.cons (by unfold Rp; rfl) (.cons (e2.same (same_upd hp)) .nil)⟩
  obtain ⟨o,q,_⟩:=m p z
  rw [hp] at q; cases q
theorem it_r (lo:Int) (n:Nat):ItOk K (Itr lo n) .non ((List.range n).map fun (k:Nat)=>D.int (lo + (k:Int))):=by
 rintro i g H _ m
 refine ⟨fun hi=>(by have hi':n<=i:=(by simpa using hi); exact hi'),fun d hd=>?_⟩
 rw [List.getElem?_map] at hd
 cases q:(List.range n)[i]? with
 | none=>rw [q] at hd; cases hd
 | some j=>
  rw [q] at hd
  cases hd
  have hlt:i < n:=by
   have:=(List.getElem?_eq_some_iff.mp q).1
   simpa using this
  have hj:j = i:=by
   rw [List.getElem?_range hlt] at q
   cases q
   rfl
  subst hj
  refine ⟨hlt,fun x H' hy=>?_⟩
  obtain ⟨rfl,rfl⟩:=hy
  exact ⟨Same.refl _,by unfold Rp; rfl⟩
end
noncomputable def SndI (X:Cx) (f:Ro->Option (List Nat × List D)) (tg iter:Expr):Prop:=∀ ρ bs ds,f ρ = some (bs,ds)->∀ g σ H R,SE X.K g ρ σ H->
 (∀ J s H1,Same H H1->ItOk X.K J s ds->s.P X.K g H1->s.from g H bs->R J H1)->wI X tg iter σ H R
noncomputable def boOf:Kd->List Nat
 | .bo i _=>[i]
 | _=>[]
noncomputable def oSeqL (a:Option KD):Option (List Nat × List D):=match a with
 | some (k,.nd .lst ds)=>if okE k ds = true then some (boOf k,ds) else none
 | some (_,.scr ns)=>some ([],ns.map D.int)
 | _=>none
noncomputable def sgnD (x:Str):List D:=x.cps.toList.map fun c=>D.str ⟨#[c]⟩
theorem it_s {K:PySem.W.Frag} (x:Str):ItOk K (G.Its x) .non (sgnD x):=by
 rintro i g H _ m
 refine ⟨fun hi=>(by have hi':x.cps.size<=i:=(by simpa [sgnD] using hi); exact hi'),fun d hd=>?_⟩
 unfold sgnD at hd
 rw [List.getElem?_map] at hd
 cases q:x.cps.toList[i]? with
 | none=>rw [q] at hd; cases hd
 | some z=>
  rw [q] at hd
  cases hd
  have q':x.cps[i]? = some z:=by simpa using q
  refine ⟨(Array.getElem?_eq_some_iff.mp q').1,fun v H' hy=>?_⟩
  obtain ⟨rfl,z',e1,rfl⟩:=hy
  rw [q'] at e1
  cases e1
  exact ⟨Same.refl _,by unfold Rp; rfl⟩
noncomputable def oSeq (a:Option KD):Option (List Nat × List D):=match a with
 | some (_,.str x)=>some ([],sgnD x)
 | some (k,.nd .tup ds)=>if okE k ds = true then some ([],ds) else none
 | a=>oSeqL a
noncomputable def oEnm (a:Option KD):Option (List Nat × List D):=(oSeqL a).map fun p=>(p.1,p.2.mapIdx fun i d=>D.tup [.int i,d])
noncomputable def rangeOk (i j:Int):Bool:=decide (-(2 ^ 62)<=i) && decide (i < 2 ^ 62) && decide (-(2 ^ 62)<=j) && decide (j < 2 ^ 62) && decide (j - i<=100000)
noncomputable def rngD (i j:Int):List D:=(List.range (j - i).toNat).map fun (k:Nat)=>D.int (i + (k:Int))
noncomputable def oRng (a b:Option KD):Option (List Nat × List D):=match a,b with
 | some (_,.int i),some (_,.int j)=>if rangeOk i j then some ([],rngD i j) else none
 | _,_=>none
noncomputable def isTup:Expr->Bool
 | .Tuple ..=>true
 | _=>false
section
variable {X:Cx} {Γ:Tab} {c:Cz}
theorem VR.scrK {K:PySem.W.Frag} {H H1:Hp} {g:Gh} {k:Kd} {ns:List Int} {v:V} (h:VR K g H H1 k (.scr ns) v):∃ a,v = .ref a/\((g a = none/\Rd H1 a (.lst (ns.map V.int)))\/KnL K a (ns.map V.int)):=by
 have key:∀ {S:Pr},(∀ b,g b ≠ none->S b)->Rp K H1 S (.scr ns) v->∃ a,v = .ref a/\((g a = none/\Rd H1 a (.lst (ns.map V.int)))\/KnL K a (ns.map V.int)):=fun hs r=>by
  unfold Rp at r
  obtain ⟨a,e,r⟩:=r
  refine ⟨a,e,r.imp (fun r=>⟨?_,r.2⟩) id⟩
  cases q:g a with
  | none=>rfl
  | some i=>exact absurd (hs a (by rw [q]; simp)) r.1
 obtain ⟨F,h1,h2⟩:=h
 cases k with
 | sh=>exact key (fun b z=>.inl z) h2.2
 | fr k=>have h2:Tr _ _ _ _ _ _ _:=h2; unfold Tr at h2; exact key (fun b z=>.inl z) h2.2
 | bo i k=>obtain ⟨_,F0,_,h4⟩:=h2; unfold Tr at h4; exact key (fun b z=>.inl z) h4.2
theorem seqL_src {K:PySem.W.Frag} {H H1:Hp} {g:Gh} {k:Kd} {d:D} {v:V} {bs:List Nat} {ds:List D} (m:MuOk H (Sg g)) (s1:Same H H1) (h:VR K g H H1 k d v) (e:oSeqL (some (k,d)) = some (bs,ds)) :
  ∃ a s,v = .ref a/\(∃ xs,SqL K H1 a xs)/\ItOk K (Itl K a) s ds/\ItOk K (G.Ite K a) s (ds.mapIdx fun i d=>D.tup [.int i,d])/\s.P K g H1/\s.from g H bs:=by
 unfold oSeqL at e
 split at e
 ·rename_i k' ds' e'
  cases e'
  split at e
  ·rename_i hk
   cases e
   obtain ⟨a,o,us,rfl,g1,q1,rr⟩:=h.items hk m s1
   cases (show o = _ from q1)
   refine ⟨a,.l a ds,rfl,⟨us,.of g1⟩,it_l,it_e,⟨us,.of g1,rr⟩,?_⟩
   have nn:∀ {S:Pr},(∀ b,g b ≠ none->S b)->¬ S a->g a = none:=fun hs n=>by
    cases q:g a with
    | none=>rfl
    | some i=>exact absurd (hs a (by rw [q]; simp)) n
   cases k with
   | sh=>
    left
    obtain ⟨F,h1,h2,h3⟩:=h
    obtain ⟨a',o',xs',e1,n1,_⟩:=h3.nd
    cases e1
    exact nn (fun b z=>.inl z) n1
   | fr k=>
    left
    obtain ⟨a',o',xs',e1,n1,_⟩:=(h.sh rfl m s1).nd
    cases e1
    exact nn (fun b z=>z) n1
   | bo i k=>
    obtain ⟨F,h1,h2,F0,h3,h4⟩:=h
    cases k with
    | fz=>
     left
     obtain ⟨a',o',xs',e1,n1,_⟩:=h4.fz_inv.2.nd
     cases e1
     exact nn (fun b z=>.inl z) n1
    | own es r=>
     right
     unfold Tr at h4
     obtain ⟨a',o',xs',F',e1,_,_,_,_,hF,_⟩:=h4
     cases e1
     exact ⟨i,List.mem_singleton.mpr rfl,h3 a ((hF a).mpr (.inl ⟨rfl,rfl⟩))⟩
  ·cases e
 ·rename_i k' ns e'
  cases e'
  cases e
  obtain ⟨a,rfl,q⟩:=h.scrK
  rcases q with ⟨q1,q2⟩ | q
  ·exact ⟨a,.l a _,rfl,⟨_,.inl q2⟩,it_l,it_e,⟨_,.inl q2,RpL.ints ns⟩,.inl q1⟩
  ·refine ⟨a,.non,rfl,⟨_,.inr q⟩,fun i g' H' _ m'=>it_l i g' H' ⟨_,.inr q,RpL.ints ns⟩ m',fun i g' H' _ m'=>it_e i g' H' ⟨_,.inr q,RpL.ints ns⟩ m',trivial,trivial⟩
 ·cases e
theorem s_itL {fa:Ro->Option KD} {tg e:Expr} (ha:SndE X fa e):SndI X (fun ρ=>oSeq (fa ρ)) tg e:=by
 intro ρ bs ds h g σ H R se q
 dsimp only at h
 cases ea:fa ρ with
 | none=>rw [ea] at h; cases h
 | some kd=>
  obtain ⟨k,d⟩:=kd
  rw [ea] at h
  by_cases hx:∃ x,d = .str x
  ·obtain ⟨x,rfl⟩:=hx
   cases h
   refine pi_le (G.pi_txt pe_w) (ha ρ k _ ea g σ H _ se fun v H1 s1 r1=>?_)
   obtain rfl:=r1.rd.str
   exact ⟨x,rfl,q _ .non H1 s1 (it_s x) trivial trivial⟩
  by_cases ht:∃ ds',d = .tup ds'
  ·obtain ⟨ds',rfl⟩:=ht
   simp only [oSeq] at h
   split at h
   ·rename_i hk
    cases h
    refine pi_le (pi_tup pe_w) (ha ρ k _ ea g σ H _ se fun v H1 s1 r1=>?_)
    obtain ⟨a,o,us,rfl,g1,q1,rr⟩:=r1.items hk se.mu s1
    cases (show o = _ from q1)
    refine ⟨a,rfl,⟨us,.of g1⟩,q _ (.t a ds) H1 s1 it_t ⟨us,.of g1,rr⟩ ?_⟩
    cases q2:g a with
    | none=>exact q2
    | some i=>
     obtain ⟨o,e1,n⟩:=se.mu.same s1 a (by rw [Sg,q2]; simp)
     rw [g1] at e1
     cases e1
     exact absurd rfl (n us)
   ·cases h
  ·have h':oSeqL (some (k,d)) = some (bs,ds):=by
    cases d with
    | nd hd ds'=>cases hd with
     | tup=>exact absurd ⟨ds',rfl⟩ ht
     | _=>exact h
    | str x=>exact absurd ⟨x,rfl⟩ hx
    | _=>exact h
   refine pi_le (pi_list pe_w) (ha ρ k d ea g σ H _ se fun v H1 s1 r1=>?_)
   obtain ⟨a,s,rfl,h1,h2,_,h3,h4⟩:=seqL_src se.mu s1 r1 h'
   exact ⟨a,rfl,h1,q _ s H1 s1 h2 h3 h4⟩
theorem s_itE (O:CxOk X Γ c) {fa:Ro->Option KD} {tg e:Expr} {p pos:Pos} (hg:glB c.sc "enumerate" = true) (hn:noStar e = true) (ht:isTup tg = true) (ha:SndE X fa e):SndI X (fun ρ=>oEnm (fa ρ)) tg (.Call (.Name "enumerate" p) [e] [] pos):=by
 intro ρ bs ds h g σ H R se q
 dsimp only at h
 cases ea:fa ρ with
 | none=>rw [ea] at h; cases h
 | some kd=>
  obtain ⟨k,d⟩:=kd
  rw [ea] at h
  unfold oEnm at h
  cases h':oSeqL (some (k,d)) with
  | none=>rw [h'] at h; cases h
  | some r=>
   obtain ⟨bs',ds'⟩:=r
   rw [h'] at h
   cases h
   cases tg with
   | Tuple es kk tp=>
    refine pi_le (G.pi_enum (gl_of O hg) (O.tab.bl _ (by simp [bltNames])) (pa_cons pe_w pa_nil (star_of hn)) (star_of hn)) (ha ρ _ _ ea g σ H _ se fun v H1 s1 r1=>?_)
    obtain ⟨a,s,rfl,h1,_,h2,h3,h4⟩:=seqL_src se.mu s1 r1 h'
    exact ⟨a,rfl,h1,q _ s H1 s1 h2 h3 h4⟩
   | _=>exact absurd ht (by simp [isTup])
theorem s_itR1 (O:CxOk X Γ c) {fa:Ro->Option KD} {tg e:Expr} {p pos:Pos} (hg:glB c.sc "range" = true) (hn:noStar e = true) (ha:SndE X fa e):SndI X (fun ρ=>oRng (some (.sh,.int 0)) (fa ρ)) tg (.Call (.Name "range" p) [e] [] pos):=by
 intro ρ bs ds h g σ H R se q
 dsimp only [oRng] at h
 split at h
 ·rename_i k1 i k2 j e1 ea
  cases e1
  split at h
  ·rename_i hr
   simp only [rangeOk,Bool.and_eq_true,decide_eq_true_eq] at hr
   cases h
   refine pi_le (pi_range1 (gl_of O hg) (O.tab.bl _ (by simp [bltNames])) (pa_cons pe_w pa_nil (star_of hn)) (star_of hn)) (ha ρ _ _ ea g σ H _ se fun v H1 s1 r1=>?_)
   obtain rfl:=r1.rd.int
   refine ⟨j,rfl,hr.1.1.2,hr.1.2,q _ .non H1 s1 ?_ trivial trivial⟩
   unfold rngD
   rw [Int.sub_zero]
   exact it_r 0 _
  ·cases h
 ·cases h
theorem s_itR2 (O:CxOk X Γ c) {fa fb:Ro->Option KD} {tg e e2:Expr} {p pos:Pos} (hg:glB c.sc "range" = true) (hn:noStar e = true) (hn2:noStar e2 = true) (ha:SndE X fa e) (hb:SndE X fb e2):SndI X (fun ρ=>oRng (fa ρ) (fb ρ)) tg (.Call (.Name "range" p) [e,e2] [] pos):=by
 intro ρ bs ds h g σ H R se q
 dsimp only [oRng] at h
 split at h
 ·rename_i k1 i k2 j ea eb
  split at h
  ·rename_i hr
   simp only [rangeOk,Bool.and_eq_true,decide_eq_true_eq] at hr
   cases h
   refine pi_le (pi_range2 (gl_of O hg) (O.tab.bl _ (by simp [bltNames])) (pa_cons pe_w (pa_cons pe_w pa_nil (star_of hn2)) (star_of hn)) (by rw [star_of hn,star_of hn2]; rfl) (star_of hn2)) ?_
   refine two ha hb ea eb se fun x y H1 s1 rx ry=>?_
   obtain rfl:=rx.rd.int
   obtain rfl:=ry.rd.int
   exact ⟨i,j,rfl,⟨hr.1.1.1.1,hr.1.1.1.2,hr.1.1.2,hr.1.2⟩,q _ .non H1 s1 (it_r i _) trivial trivial⟩
  ·cases h
 ·cases h
noncomputable def tyD:D->Option String
 | .non=>some "NoneType"
 | .bl _=>some "bool"
 | .int _=>some "int"
 | .str _=>some "str"
 | .scr _=>none
 | .nd .lst _=>some "list"
 | .nd .tup _=>some "tuple"
 | .nd (.dic 0 _) _=>some "dict"
 | _=>none
noncomputable def isiD (T:Str) (d:D):Option Bool:=match tyD d with
 | some t=>if T = "int" then some (t == "int" || t == "bool") else if T = "bool" then some (t == "bool") else if T = "list" then some (t == "list") else if T = "tuple" then some (t == "tuple") else if T = "str" then some (t == "str") else if T = "dict" then some (t == "dict") else none
 | none=>none
theorem ty_of {K:PySem.W.Frag} {H:Hp} {S:Pr} {d:D} {v:V} {t:String} (h:Rp K H S d v) (e:tyD d = some t):TyOf K H v (.type t):=by
 cases d with
 | non=>obtain rfl:=h.non; cases e; exact .non
 | bl b=>obtain rfl:=h.bl; cases e; exact .bl b
 | int b=>obtain rfl:=h.int; cases e; exact .int b
 | str b=>obtain rfl:=h.str; cases e; exact .str b
 | scr b=>cases e
 | nd hd ds=>
  obtain ⟨a,o,xs,rfl,_,g,q,r⟩:=h.nd
  cases hd with
  | lst=>cases e; cases (show o = _ from q); exact .lst g
  | tup=>cases e; cases (show o = _ from q); exact .tup g
  | dic t ks=>
   cases t with
   | succ t=>cases e
   | zero=>
    cases e
    rcases q with ⟨_,kvs,rfl,_⟩ | ⟨h0,_⟩
    ·exact .dK g
    ·cases h0
  | obj c ns=>cases e
noncomputable def isiNames:List Str:=["int","bool","list","tuple","str","dict"]
theorem isi_kit {K:PySem.W.Frag} {T:Str} {d:D} {b:Bool} (h:isiD T d = some b):∃ t T',tyD d = some t/\T ∈ isiNames/\bootBuiltins T = some (.type T')/\PySem.W.kitOne K (.type t) (.type T') = some b:=by
 unfold isiD at h
 split at h
 ·rename_i t ht
  have hm:t ∈ (["NoneType","bool","int","str","list","tuple","dict"]:List String):=by
   cases d with
   | nd hd ds=>cases hd with
    | dic tt ks=>cases tt <;> cases ht <;> simp
    | _=>cases ht <;> simp
   | _=>cases ht <;> simp
  simp only [List.mem_cons,List.not_mem_nil,or_false] at hm
  split at h
  ·rename_i e; subst e; refine ⟨t,"int",ht,by simp [isiNames],by rfl,?_⟩
   rcases hm with rfl | rfl | rfl | rfl | rfl | rfl | rfl <;> cases h <;> with_unfolding_all rfl
  ·split at h
   ·rename_i e; subst e; refine ⟨t,"bool",ht,by simp [isiNames],by rfl,?_⟩
    rcases hm with rfl | rfl | rfl | rfl | rfl | rfl | rfl <;> cases h <;> with_unfolding_all rfl
   ·split at h
    ·rename_i e; subst e; refine ⟨t,"list",ht,by simp [isiNames],by rfl,?_⟩
     rcases hm with rfl | rfl | rfl | rfl | rfl | rfl | rfl <;> cases h <;> with_unfolding_all rfl
    ·split at h
     ·rename_i e; subst e; refine ⟨t,"tuple",ht,by simp [isiNames],by rfl,?_⟩
      rcases hm with rfl | rfl | rfl | rfl | rfl | rfl | rfl <;> cases h <;> with_unfolding_all rfl
     ·split at h
      ·rename_i e; subst e; refine ⟨t,"str",ht,by simp [isiNames],by rfl,?_⟩
       rcases hm with rfl | rfl | rfl | rfl | rfl | rfl | rfl <;> cases h <;> with_unfolding_all rfl
      ·split at h
       ·rename_i e; subst e; refine ⟨t,"dict",ht,by simp [isiNames],by rfl,?_⟩
        rcases hm with rfl | rfl | rfl | rfl | rfl | rfl | rfl <;> cases h <;> with_unfolding_all rfl
       ·cases h
 ·cases h
noncomputable def oIsi (T:Str) (a:Option KD):Option KD:=match a with | some (_,d)=>bV (isiD T d) | none=>none
theorem s_isi (O:CxOk X Γ c) {fa:Ro->Option KD} {a:Expr} {T:Str} {p p2 pos:Pos} (hg:glB c.sc "isinstance" = true) (hgT:glB c.sc T = true) (hn:noStar a = true) (ha:SndE X fa a):SndE X (fun ρ=>oIsi T (fa ρ)) (.Call (.Name "isinstance" p) [a,.Name T p2] [] pos):=by
 intro ρ kd d h g σ H Q se q
 dsimp only [oIsi] at h
 split at h
 ·rename_i ka da ea
  cases hi:isiD T da with
  | none=>rw [hi] at h; cases h
  | some b=>
   rw [hi] at h
   cases h
   obtain ⟨t,T',h1,h2,h3,h4⟩:=isi_kit (K:=X.K) hi
   have hT:T ∈ bltNames/\T ≠ "__name__"/\(T == ("__debug__":Str)) = false:=by
    simp only [isiNames,List.mem_cons,List.not_mem_nil,or_false] at h2
    rcases h2 with rfl | rfl | rfl | rfl | rfl | rfl <;> exact ⟨by simp [bltNames],by decide,by decide⟩
   refine pe_le (pe_callB call_isinst (gl_of O hg) (O.tab.bl _ (by simp [bltNames])) PyProof.Rows.boot_isinstance (pa_cons pe_w (pa_cons (pe_bltn (v:=.ty T') (gl_of O hgT) (O.tab.bl _ hT.1) h3 rfl hT.2.1 hT.2.2) pa_nil (star_of rfl)) (star_of hn)) (by decide) (by decide) (star_of hn) (back_any rfl)) ?_
   exact ha ρ _ _ ea g σ H _ se fun v H1 s1 r1=>⟨v,T',_,b,rfl,ty_of r1.rd h1,h4,q _ H1 s1 vBl⟩
 ·cases h
end
end J
namespace J
open PySem PySem.Spec L2
mutual
noncomputable def cleanT:D->Ow->Bool
 | .nd _ ds,.own es r=>cleanL ds es r
 | d,_=>imD d
noncomputable def cleanL:List D->List Ow->Ow->Bool
 | [],_,_=>true
 | d :: ds,es,r=>cleanT d (es.headD r) && cleanL ds es.tail r
end
section
variable {K:PySem.W.Frag} {H H' H0:Hp} {S S':Pr} {g:Gh}
mutual
theorem Tr.clean (m:MuOk H S'):∀ {d:D} {k:Ow} {v:V} {F:Pr},cleanT d k = true->Tr K H S d k v F->Tr K H S' d k v F
 | .non,_,_,_,c,h=>by unfold Tr at h ⊢; exact ⟨h.1,h.2.im m rfl⟩
 | .bl _,_,_,_,c,h=>by unfold Tr at h ⊢; exact ⟨h.1,h.2.im m rfl⟩
 | .int _,_,_,_,c,h=>by unfold Tr at h ⊢; exact ⟨h.1,h.2.im m rfl⟩
 | .str _,_,_,_,c,h=>by unfold Tr at h ⊢; exact ⟨h.1,h.2.im m rfl⟩
 | .scr ns,k,_,_,c,h=>by simp [cleanT,imD] at c
 | .nd hd ds,.fz,_,_,c,h=>by
  have c:imD (.nd hd ds) = true:=by simpa [cleanT] using c
  unfold Tr at h ⊢
  exact ⟨h.1,h.2.im m c⟩
 | .nd hd ds,.own es r,v,F,c,h=>by
  have c:cleanL ds es r = true:=by simpa [cleanT] using c
  unfold Tr at h ⊢
  obtain ⟨a,o,xs,F',e,q1,q2,n1,n2,hF,t⟩:=h
  refine ⟨a,o,xs,F',e,q1,q2,n1,fun hm z=>?_,hF,TrL.clean m c t⟩
  obtain ⟨o',e',n⟩:=m a z
  rw [q1] at e'; cases e'
  cases hd with
  | tup=>exact n _ q2
  | _=>exact absurd hm (by simp [Hd.mu])
theorem TrL.clean (m:MuOk H S'):∀ {ds:List D} {es:List Ow} {r:Ow} {vs:List V} {F:Pr},cleanL ds es r = true->TrL K H S ds es r vs F->TrL K H S' ds es r vs F
 | [],_,_,_,_,_,h=>by unfold TrL at h ⊢; exact h
 | d :: ds,es,r,vs,F,c,h=>by
  simp only [cleanL,Bool.and_eq_true] at c
  unfold TrL at h ⊢
  obtain ⟨y,ys,F1,F2,e,hF,dj,h1,h2⟩:=h
  exact ⟨y,ys,F1,F2,e,hF,dj,Tr.clean m c.1 h1,TrL.clean m c.2 h2⟩
end
noncomputable def cleanK:Kd->D->Bool
 | .sh,d=>imD d
 | .fr k,d=>cleanT d k
 | .bo _ _,_=>false
theorem VR.clean {g':Gh} {kd:Kd} {d:D} {v:V} (c:cleanK kd d = true) (m:MuOk H0 (Sg g)) (s:Same H0 H) (h:VR K g' H0 H kd d v):VR K g H0 H kd d v:=by
 obtain ⟨F,h1,h2⟩:=h
 have mm:MuOk H (Sx g F):=fun b z=>z.elim (fun z=>m.same s b z) fun z=>h2.dom b z
 refine ⟨F,h1,?_⟩
 cases kd with
 | sh=>exact ⟨h2.1,h2.2.im mm c⟩
 | fr k=>exact Tr.clean mm c h2
 | bo i k=>cases c
end
noncomputable def isBo:Kd->Bool
 | .bo _ _=>true
 | _=>false
noncomputable def fFn (φ:Fn) (kds:List KD):Option KD:=
 match φ (kds.map (·.2)) with
 | some (kd,d)=>if (kds.all fun p=>okS p.1 p.2) = true then (if isBo kd = true then none else some (kd,d)) else if cleanK kd d = true then some (kd,d) else none
 | none=>none
noncomputable def oFn (φ:Option Fn) (a:Option (List KD)):Option KD:=match φ,a with | some φ,some kds=>fFn φ kds | _,_=>none
section
variable {X:Cx} {Γ:Tab} {c:Cz}
theorem fn_post (K:PySem.W.Frag) {φ:Fn} {kds:List KD} {kd:Kd} {d:D} (h:fFn φ kds = some (kd,d)) {g:Gh} {H0 H:Hp} {vs:List V} {Q:VK} {E:XK} (m:MuOk H0 (Sg g)) (s:Same H0 H) (r:VRs K g H0 H kds vs) (q:∀ v H',Same H H'->VR K g H0 H' kd d v->Q v H'):spF K φ vs H Q E:=by
 unfold fFn at h
 split at h
 ·rename_i kd' d' e'
  split at h
  ·rename_i ok
   split at h
   ·cases h
   ·cases h
    exact ⟨_,g,_,_,r.sh ok m s,m.same s,e',fun v H2 s2 r2=>q v H2 s2 (r2.older s)⟩
  ·split at h
   ·rename_i cl
    cases h
    exact ⟨_,fun _=>none,_,_,r.rd.go (fun b o n e=>⟨e,fun z=>z rfl⟩),fun a z=>absurd rfl z,e',fun v H2 s2 r2=>q v H2 s2 ((r2.clean cl (m.same s) s2).older s)⟩
   ·cases h
 ·cases h
theorem s_fn (O:CxOk X Γ c) {x:Str} {e:Expr} {es:List Expr} {p pos:Pos} {fa:Ro->Option (List KD)} (hf:SndA X fa (e :: es)) (hg:glB c.sc x = true) (n1:noStar e = true) (n2:es.all noStar = true):SndE X (fun ρ=>oFn (Γ.fn x) (fa ρ)) (.Call (.Name x p) (e :: es) [] pos):=by
 intro ρ kd d h g σ H Q se q
 dsimp only [oFn] at h
 split at h
 ·rename_i φ kds hφ he
  obtain ⟨n,fa',fd,ps,F,hr,hm,hk,hb,hdb⟩:=O.tab.fn x φ hφ
  refine pe_le (pe_call (E:=E0) F hr (gl_of O hg) hm hk hb .nil pass0 pa_w hdb (star_of n1) (back_any n2)) (hf ρ _ he g σ H _ se fun vs H1 s1 r1=>?_)
  rw [List.append_nil]
  exact fn_post X.K h se.mu s1 r1 fun v H2 s2 r2=>q v H2 (s1.trans s2) r2
 ·cases h
theorem s_fn0 (O:CxOk X Γ c) {x:Str} {p pos:Pos} (hg:glB c.sc x = true):SndE X (fun _=>oFn (Γ.fn x) (some [])) (.Call (.Name x p) [] [] pos):=by
 intro ρ kd d h g σ H Q se q
 dsimp only [oFn] at h
 split at h
 ·rename_i φ kds hφ he
  cases he
  obtain ⟨n,fa',fd,ps,F,hr,hm,hk,hb,hdb⟩:=O.tab.fn x φ hφ
  refine pe_le (pe_call0 (E:=E0) F hr (gl_of O hg) hm hk hb .nil pass0 hdb) ?_
  exact fn_post (E:=fun _ _ _=>False) X.K h se.mu (Same.refl H) VRs.nil fun v H2 s2 r2=>q v H2 s2 r2
 ·cases h
end
inductive IT where
 | nm (i:Nat)
 | tp (ts:List IT)
mutual
noncomputable def tgI:IT->D->Option (List (Nat × D))
 | .nm i,d=>some [(i,d)]
 | .tp ts,.nd .tup ds=>tgIs ts ds
 | _,_=>none
noncomputable def tgIs:List IT->List D->Option (List (Nat × D))
 | [],[]=>some []
 | t :: ts,d :: ds=>match tgI t d,tgIs ts ds with
  | some a,some b=>some (a ++ b)
  | _,_=>none
 | _,_=>none
end
noncomputable def shS (d:D):Sl:=⟨false,.fz,d⟩
noncomputable def setAll:List (Nat × D)->Ro->Ro
 | [],ρ=>ρ
 | (i,d) :: r,ρ=>setAll r (ρ.set i (some (shS d)))
noncomputable def cTgs (f:Expr->Option IT):List Expr->Option (List IT)
 | []=>some []
 | e :: es=>match f e,cTgs f es with
  | some a,some b=>some (a :: b)
  | _,_=>none
noncomputable def cTg (c:Cz):Nat->Expr->Option IT
 | 0,_=>none
 | n + 1,e=>match e with
  | .Name x _=>if locB c x then (ixOf x c.N).map .nm else none
  | .Tuple es _ _=>if es.all noStar then (cTgs (cTg c n) es).map .tp else none
  | _=>none
theorem SE.set {K:PySem.W.Frag} {g:Gh} {ρ:Ro} {σ:L2.St} {H:Hp} (h:SE K g ρ σ H) (i:Nat) {d:D} {v:V} (r:Rp K H (Sg g) d v):SE K g (ρ.set i (some (shS d))) (σ.set i (some v)) H:=by
 refine ⟨fun j sl e=>?_,h.mu,by simp [h.len]⟩
 by_cases hj:j = i
 ·subst hj
  have hlt:j < ρ.length:=by
   have:=(List.getElem?_eq_some_iff.mp e).1
   simpa using this
  rw [List.getElem?_set_self hlt] at e
  cases e
  exact ⟨v,_,List.getElem?_set_self (by rw [<- h.len]; exact hlt),fun b z=>z.elim,.fz r⟩
 ·rw [List.getElem?_set_ne (Ne.symm hj)] at e ⊢
  exact h.slot j sl e
theorem SE.pass {K:PySem.W.Frag} {g:Gh} {ρ:Ro} {σ:L2.St} {H:Hp} (h:SE K g ρ σ H) (i:Nat) {v:V} (n:∀ sl,ρ[i]? ≠ some (some sl)):SE K g ρ (σ.set i (some v)) H:=by
 refine ⟨fun j sl e=>?_,h.mu,by simp [h.len]⟩
 have hj:j ≠ i:=fun z=>n sl (z ▸ e)
 rw [List.getElem?_set_ne (Ne.symm hj)]
 exact h.slot j sl e
noncomputable def setV:List (Nat × V)->L2.St->L2.St
 | [],σ=>σ
 | (i,v) :: r,σ=>setV r (σ.set i (some v))
theorem setV_app:∀ (a b:List (Nat × V)) (σ:L2.St),setV (a ++ b) σ = setV b (setV a σ)
 | [],_,_=>rfl
 | (i,v) :: a,b,σ=>setV_app a b _
section
variable {X:Cx} {Γ:Tab} {c:Cz}
noncomputable def RpP (K:PySem.W.Frag) (H:Hp) (S:Pr):List (Nat × D)->List (Nat × V)->Prop
 | [],vs=>vs = []
 | (i,d) :: r,vs=>∃ v ws,vs = (i,v) :: ws/\Rp K H S d v/\RpP K H S r ws
theorem RpP.app {K:PySem.W.Frag} {H:Hp} {S:Pr}:∀ {a b:List (Nat × D)} {x y:List (Nat × V)},RpP K H S a x->RpP K H S b y->RpP K H S (a ++ b) (x ++ y)
 | [],_,_,_,h,g=>by rw [(show _ = [] from h)]; exact g
 | (i,d) :: a,b,_,y,h,g=>by
  obtain ⟨v,ws,rfl,h1,h2⟩:=h
  exact ⟨v,ws ++ y,rfl,h1,RpP.app h2 g⟩
mutual
noncomputable def gIT (K:PySem.W.Frag):IT->TG
 | .nm i=>gName i
 | .tp ts=>gTup K ts.length (gITs K ts)
noncomputable def gITs (K:PySem.W.Frag):List IT->TGs
 | []=>gNil
 | t :: ts=>gCons (gIT K t) (gITs K ts)
end
mutual
theorem gIT_run {K:PySem.W.Frag} {S:Pr} {H:Hp}:∀ {t:IT} {d:D} {ps:List (Nat × D)} {v:V} {σ:L2.St} {Q:L2.St->Hp->Prop},tgI t d = some ps->Rp K H S d v->(∀ vs,RpP K H S ps vs->Q (setV vs σ) H)->gIT K t v σ H Q
 | .nm i,d,ps,v,σ,Q,ht,r,q=>by
  simp only [tgI] at ht
  cases ht
  simp only [gIT]
  exact q [(i,v)] ⟨v,[],rfl,r,rfl⟩
 | .tp ts,d,ps,v,σ,Q,ht,r,q=>by
  cases d with
  | nd hd ds=>
   cases hd with
   | tup=>
    simp only [tgI] at ht
    obtain ⟨a,o,xs,rfl,_,g1,q1,rl⟩:=r.nd
    cases (show o = _ from q1)
    obtain ⟨h1,h2⟩:=gITs_run ht rl q
    simp only [gIT]
    exact ⟨a,xs,rfl,.of g1,h2,h1⟩
   | _=>simp [tgI] at ht
  | _=>simp [tgI] at ht
theorem gITs_run {K:PySem.W.Frag} {S:Pr} {H:Hp}:∀ {ts:List IT} {ds:List D} {ps:List (Nat × D)} {vs:List V} {σ:L2.St} {Q:L2.St->Hp->Prop},tgIs ts ds = some ps->RpL K H S ds vs->(∀ ws,RpP K H S ps ws->Q (setV ws σ) H)->gITs K ts vs σ H Q/\vs.length = ts.length
 | [],[],ps,vs,σ,Q,ht,r,q=>by
  simp only [tgIs] at ht
  cases ht
  simp only [gITs]
  rw [r.nil_inv]
  exact ⟨⟨rfl,q [] rfl⟩,rfl⟩
 | t :: ts,d :: ds,ps,vs,σ,Q,ht,r,q=>by
  simp only [tgIs] at ht
  split at ht
  ·rename_i a b ha hb
   cases ht
   obtain ⟨y,ys,rfl,r1,r2⟩:=r.cons_inv
   simp only [gITs]
   have len:=(gITs_run (σ:=σ) (Q:=fun _ _=>True) hb r2 fun _ _=>trivial).2
   refine ⟨⟨y,ys,rfl,gIT_run ha r1 fun vs1 h1=>(gITs_run hb r2 fun vs2 h2=>?_).1⟩,by simp [len]⟩
   have:=q (vs1 ++ vs2) (h1.app h2)
   rw [setV_app] at this
   exact this
  ·cases ht
 | [],_ :: _,ps,vs,σ,Q,ht,r,q=>by simp [tgIs] at ht
 | _ :: _,[],ps,vs,σ,Q,ht,r,q=>by simp [tgIs] at ht
end
theorem assignEach_cons {e:Expr} {es:List Expr} {env:Env} (h:noStar e = true):assignEach (e :: es) env = (false,assign e env) :: assignEach es env:=by
 cases e <;> first | rfl | cases h
theorem pg_IT (O:CxOk X Γ c):∀ (n:Nat) {e:Expr} {t:IT},cTg c n e = some t->PG X e (gIT X.K t)
 | 0,e,t,h=>by cases h
 | n + 1,e,t,h=>by
  have ih:∀ {e:Expr} {t:IT},cTg c n e = some t->PG X e (gIT X.K t):=fun h=>pg_IT O n h
  have lst:∀ {es:List Expr} {ts:List IT},es.all noStar = true->cTgs (cTg c n) es = some ts->PGs X es (gITs X.K ts)/\(assignEach es X.env).length = ts.length/\(assignEach es X.env).findIdx? (·.1) = none:=by
   intro es
   induction es with
   | nil=>intro ts _ h; cases h; simp only [gITs]; exact ⟨pgs_nil,rfl,rfl⟩
   | cons e es ihe=>
    intro ts hn h
    rw [List.all_cons,Bool.and_eq_true] at hn
    unfold cTgs at h
    split at h
    ·rename_i a b ha hb
     cases h
     obtain ⟨g1,g2,g3⟩:=ihe hn.2 hb
     simp only [gITs]
     refine ⟨pgs_cons (ih ha) g1 (by rw [assignEach_cons hn.1]; rfl),by rw [assignEach_cons hn.1,List.length_cons,g2]; rfl,?_⟩
     rw [assignEach_cons hn.1,List.findIdx?_cons]
     simp [g3]
    ·cases h
  unfold cTg at h
  split at h
  ·rename_i x p
   split at h
   ·rename_i hl
    cases hi:ixOf x c.N with
    | none=>rw [hi] at h; cases h
    | some i=>
     rw [hi] at h
     cases h
     have l:=loc_of O hl
     simp only [gIT]
     exact pg_name (i:=i) (by rw [O.N]; exact O.nd) (by rw [O.N]; exact ixOf_get hi) l.1 l.2
   ·cases h
  ·rename_i es k p
   split at h
   ·rename_i hn
    cases hs:cTgs (cTg c n) es with
    | none=>rw [hs] at h; cases h
    | some ts=>
     rw [hs] at h
     cases h
     obtain ⟨g1,g2,g3⟩:=lst hn hs
     simp only [gIT]
     exact pg_tup O.calm g1 g2 g3
   ·cases h
  ·cases h
theorem SE.setAll {K:PySem.W.Frag} {g:Gh} {H:Hp}:∀ {ps:List (Nat × D)} {vs:List (Nat × V)} {ρ:Ro} {σ:L2.St},RpP K H (Sg g) ps vs->SE K g ρ σ H->SE K g (setAll ps ρ) (setV vs σ) H
 | [],vs,ρ,σ,h,se=>by rw [(show vs = [] from h)]; exact se
 | (i,d) :: ps,vs,ρ,σ,h,se=>by
  obtain ⟨v,ws,rfl,h1,h2⟩:=h
  exact SE.setAll (ρ:=ρ.set i (some (shS d))) (vs:=ws) (σ:=σ.set i (some v)) h2 (se.set i h1)
noncomputable def noneAt (ps:List (Nat × D)) (ρ:Ro):Bool:=ps.all fun p=>match ρ[p.1]? with | some none=>true | _=>false
theorem SE.passAll {K:PySem.W.Frag} {g:Gh} {H:Hp} {S:Pr}:∀ {ps:List (Nat × D)} {vs:List (Nat × V)} {ρ:Ro} {σ:L2.St},RpP K H S ps vs->noneAt ps ρ = true->SE K g ρ σ H->SE K g ρ (setV vs σ) H/\∀ (j:Nat) sl,ρ[j]? = some (some sl)->(setV vs σ)[j]? = σ[j]?
 | [],vs,ρ,σ,h,_,se=>by rw [(show vs = [] from h)]; exact ⟨se,fun _ _ _=>rfl⟩
 | (i,d) :: ps,vs,ρ,σ,h,hn,se=>by
  obtain ⟨v,ws,rfl,h1,h2⟩:=h
  simp only [noneAt,List.all_cons,Bool.and_eq_true] at hn
  have ni:∀ sl,ρ[i]? ≠ some (some sl):=fun sl e=>by
   have:=hn.1
   rw [e] at this
   cases this
  obtain ⟨a1,a2⟩:=SE.passAll h2 (by simpa [noneAt] using hn.2) (se.pass i (v:=v) ni)
  exact ⟨a1,fun j sl e=>(a2 j sl e).trans (List.getElem?_set_ne (fun z=>ni sl (by rw [z]; exact e)))⟩
end
end J
namespace J
open PySem PySem.Spec L2
noncomputable def Gh.re (m:Nat->Option Nat) (g:Gh):Gh:=fun b=>match g b with
 | some (some i)=>some (m i)
 | x=>x
section
variable {K:PySem.W.Frag} {H H':Hp} {g:Gh} {F F2:Pr} {m:Nat->Option Nat}
theorem re_S (b:Addr):Sg (g.re m) b ↔ Sg g b:=by
 unfold Gh.re Sg
 cases h:g b with
 | none=>simp [h]
 | some x=>cases x <;> simp [h]
theorem plus_plus:(g.plus F).plus F2 = g.plus (fun b=>F b\/F2 b):=by
 funext b
 unfold Gh.plus
 by_cases h2:F2 b
 ·simp [h2]
 ·by_cases h1:F b
  ·simp [h1]
  ·simp [h1,h2]
theorem plus_at {b:Addr} (h:F b):g.plus F b = some none:=by
 unfold Gh.plus
 rw [if_pos h]
theorem SE.upd {ρ:Ro} {σ:L2.St} {p:Addr} {o:HO} (h:SE K g ρ σ H) (hp:g p = some none) (ho:∀ xs,o ≠ .tup xs):SE K g ρ σ (upd H p o):=by
 have kk:∀ b o',b ≠ p->H b = some o'->L2.upd H p o b = some o':=fun b o' n e=>by rw [upd_ne n]; exact e
 refine ⟨fun i sl e=>?_,fun b z=>?_,h.len⟩
 ·obtain ⟨v,F,e1,e2,e3⟩:=h.slot i sl e
  refine ⟨v,F,e1,e2,e3.go (fun b o' hb e=>kk b o' (fun z=>?_) e) fun _ _ _ n=>n⟩
  subst z
  rcases hb with hb | hb
  ·exact hb (by rw [Sg,hp]; simp)
  ·rw [e2 b hb] at hp
   cases hp
 ·by_cases hb:b = p
  ·exact ⟨o,by rw [hb]; exact upd_same,ho⟩
  ·obtain ⟨o',e,n⟩:=h.mu b z
   exact ⟨o',kk b o' hb e,n⟩
noncomputable def capRo (ρ:Ro) (cap:List (Option Nat)):Ro:=cap.map fun o=>o.bind fun i=>(ρ[i]?).join
noncomputable def capM (cap:List (Option Nat)) (i:Nat):Option Nat:=cap.findIdx? fun o=>o == some i
noncomputable def capOk (cap:List (Option Nat)):Bool:=decide (cap.filterMap id).Nodup
theorem capM_at:∀ {cap:List (Option Nat)} {j i:Nat},(cap.filterMap id).Nodup->cap[j]? = some (some i)->capM cap i = some j
 | [],j,i,_,e=>by simp at e
 | o :: cap,0,i,hn,e=>by
  simp at e
  subst e
  simp [capM,List.findIdx?_cons]
 | o :: cap,j + 1,i,hn,e=>by
  have e':cap[j]? = some (some i):=by simpa using e
  have hm:i ∈ cap.filterMap id:=List.mem_filterMap.mpr ⟨some i,List.mem_of_getElem? e',rfl⟩
  have hno:(o == some i) = false:=by
   cases o with
   | none=>rfl
   | some k=>
    simp only [List.filterMap_cons,id] at hn
    have:=(List.nodup_cons.mp hn).1
    simp only [beq_eq_false_iff_ne,ne_eq,Option.some.injEq]
    intro z
    subst z
    exact this hm
  have hn':(cap.filterMap id).Nodup:=by
   cases o with
   | none=>simpa using hn
   | some k=>simp only [List.filterMap_cons,id] at hn; exact (List.nodup_cons.mp hn).2
  have ih:=capM_at hn' e'
  unfold capM at ih ⊢
  rw [List.findIdx?_cons,hno,ih]
  rfl
theorem SE.cap {ρ:Ro} {σ:L2.St} (h:SE K g ρ σ H) {cap:List (Option Nat)} (hc:capOk cap = true):SE K (g.re (capM cap)) (capRo ρ cap) (capSt σ cap) H:=by
 refine ⟨fun j sl e=>?_,fun b z=>h.mu b ((re_S b).mp z),by simp [capRo,capSt]⟩
 unfold capRo at e
 unfold capSt
 rw [List.getElem?_map] at e ⊢
 cases q:cap[j]? with
 | none=>rw [q] at e; cases e
 | some o=>
  rw [q] at e
  cases o with
  | none=>cases e
  | some i=>
   have e':(ρ[i]?).join = some sl:=by simpa using e
   have e2:ρ[i]? = some (some sl):=by
    cases z:ρ[i]? with
    | none=>rw [z] at e'; cases e'
    | some w=>rw [z] at e'; have:w = some sl:=e'; rw [this]
   obtain ⟨v,F,g1,g2,g3⟩:=h.slot i sl e2
   refine ⟨v,F,by simp [g1],fun b z=>?_,g3.go (fun _ _ _ h=>h) fun b o _ n z=>n ((re_S b).mp z)⟩
   unfold Gh.re
   rw [g2 b z]
   show some (capM cap i) = _
   rw [capM_at (by simpa [capOk] using hc) q]
end
noncomputable def relS (scope sc:Scope):Scope:=
 { scope with names:=scope.names.map fun (n,k)=>if (k == .free && sc.kind == .function && sc.names.lookup n == some .cell) then (n,.cell) else (n,k) }
theorem relS_ok {scope:Scope} {env:Env} {sc:Scope} (h:env.scope = sc):relabel scope env = relS scope sc:=by
 subst h
 rfl
noncomputable def capOf (c:Cz) (scope:Scope):List (Option Nat):=scope.names.map fun (x,k)=>if k = .free then ixOf x c.N else none
noncomputable def namesOf (scope:Scope):List Str:=scope.names.map (·.1)
noncomputable def compChk (c:Cz) (scope:Scope):Bool:=
 scope.kind == .function && decide (namesOf scope).Nodup && capOk (capOf c scope) && scope.names.all fun (x,k)=>(k != .free || c.sc.names.lookup x == some .cell || c.sc.names.lookup x == some .free)
theorem lookup_nodup:∀ {l:List (Str × NameKind)} {x:Str} {k:NameKind},(l.map (·.1)).Nodup->(x,k) ∈ l->l.lookup x = some k
 | (y,j) :: r,x,k,hn,hm=>by
  rw [List.lookup_cons]
  rw [List.map_cons,List.nodup_cons] at hn
  rcases List.mem_cons.mp hm with e | hm
  ·cases e
   simp
  ·have:x ≠ y:=fun z=>hn.1 (by rw [<- z]; exact List.mem_map.mpr ⟨(x,k),hm,rfl⟩)
   have e:(x == y) = false:=by simpa using this
   rw [e]
   exact lookup_nodup hn.2 hm
theorem compChk_ok {X:Cx} {Γ:Tab} {c:Cz} {scope:Scope} (O:CxOk X Γ c) (h:compChk c scope = true):CompOk X (namesOf scope) scope (capOf c scope):=by
 simp only [compChk,Bool.and_eq_true,decide_eq_true_eq,List.all_eq_true,beq_iff_eq] at h
 obtain ⟨⟨⟨h1,h2⟩,_⟩,h3⟩:=h
 have hk:∀ x,X.env.kindOf x = c.sc.names.lookup x:=fun x=>by show X.env.scope.names.lookup x = _; rw [O.sc]
 have free:∀ y ∈ scope.names,y.2 = .free->X.env.kindOf y.1 = some .cell\/X.env.kindOf y.1 = some .free:=fun y hy e=>by
  have:=h3 y hy
  simp only [Bool.or_eq_true,bne_iff_ne,beq_iff_eq] at this
  rw [hk]
  rcases this with (z | z) | z
  ·exact absurd e z
  ·exact .inl z
  ·exact .inr z
 refine ⟨h1,fun y hy e=>?_,fun y hy e=>?_,free,by simp [capOf,namesOf],fun j i x hj hc=>?_⟩
 ·obtain ⟨x,k⟩:=y
  have e':k = .cell:=e
  subst e'
  exact lookup_nodup h2 hy
 ·obtain ⟨x,k⟩:=y
  have e':k = .local:=e
  subst e'
  exact lookup_nodup h2 hy
 ·unfold namesOf at hj
  unfold capOf at hc
  rw [List.getElem?_map] at hj hc
  cases q:scope.names[j]? with
  | none=>rw [q] at hj; cases hj
  | some y=>
   rw [q] at hj hc
   obtain ⟨y,k⟩:=y
   cases hj
   have hc':(if k = .free then ixOf y c.N else none) = some i:=by simpa using hc
   split at hc'
   ·rename_i e
    subst e
    have hm:=List.mem_of_getElem? q
    exact ⟨by rw [O.N]; exact ixOf_get hc',lookup_nodup h2 hm,free _ hm rfl⟩
   ·cases hc'
theorem cx_comp {X:Cx} {Γ:Tab} {c:Cz} {scope:Scope} (O:CxOk X Γ c) (h:compChk c scope = true) (C:Addr) (s:Shared) (H:Hp) (ex:List Addr):CxOk (compX X (namesOf scope) scope C s H ex) Γ ⟨relS scope c.sc,namesOf scope,ownC scope⟩:=by
 simp only [compChk,Bool.and_eq_true,decide_eq_true_eq] at h
 exact ⟨relS_ok O.sc,rfl,fun x z=>z,O.calm,h.1.1.2,⟨O.tab.fn,O.tab.fm,O.tab.bl,O.tab.units,O.tab.gd,O.tab.cst⟩⟩
noncomputable def eltI (tg:IT) (ft:Ro->Option Bool) (fe:Ro->Option KD) (ρ0:Ro) (d:D):Option (Option KD):=match tgI tg d with
 | some ps=>if noneAt ps ρ0 = true then (match ft (setAll ps ρ0) with | some true=>(fe (setAll ps ρ0)).map some | some false=>some none | none=>none) else none
 | none=>none
noncomputable def evMap (r:Ow) (f:D->Option (Option KD)):List D->Option (List D)
 | []=>some []
 | d :: ds=>match f d,evMap r f ds with
  | some (some kd),some ys=>if fit1 r kd = true then some (kd.2 :: ys) else none
  | some none,some ys=>some ys
  | _,_=>none
theorem evMap_app {r:Ow} {f:D->Option (Option KD)}:∀ {a b:List D} {ys:List D},evMap r f (a ++ b) = some ys->∃ x y,evMap r f a = some x/\evMap r f b = some y/\ys = x ++ y
 | [],b,ys,h=>⟨[],ys,rfl,h,rfl⟩
 | d :: a,b,ys,h=>by
  rw [List.cons_append] at h
  unfold evMap at h
  split at h
  ·rename_i kd zs e1 e2
   split at h
   ·rename_i hf
    cases h
    obtain ⟨x,y,h1,h2,rfl⟩:=evMap_app e2
    exact ⟨kd.2 :: x,y,by simp [evMap,e1,h1,hf],h2,rfl⟩
   ·cases h
  ·rename_i zs e1 e2
   cases h
   obtain ⟨x,y,h1,h2,rfl⟩:=evMap_app e2
   exact ⟨x,y,by simp [evMap,e1,h1],h2,rfl⟩
  ·cases h
theorem evMap_snoc {r:Ow} {f:D->Option (Option KD)} {a:List D} {d:D} {x:List D} (h:evMap r f a = some x) {y:List D} (h1:evMap r f [d] = some y):evMap r f (a ++ [d]) = some (x ++ y):=by
 induction a generalizing x with
 | nil=>cases h; exact h1
 | cons e a ih=>
  unfold evMap at h
  rw [List.cons_append]
  unfold evMap
  split at h
  ·rename_i kd zs e1 e2
   split at h
   ·rename_i hf
    cases h
    rw [e1,ih e2]
    simp [hf]
   ·cases h
  ·rename_i zs e1 e2
   cases h
   rw [e1,ih e2]
  ·cases h
theorem evMap_step {r:Ow} {f:D->Option (Option KD)} {ds ys:List D} (h:evMap r f ds = some ys) {i:Nat} {d:D} (e:ds[i]? = some d) {x:List D} (hx:evMap r f (ds.take i) = some x) :
  (f d = some none/\evMap r f (ds.take (i + 1)) = some x)\/∃ kd,f d = some (some kd)/\fit1 r kd = true/\evMap r f (ds.take (i + 1)) = some (x ++ [kd.2]):=by
 have hs:ds = ds.take i ++ (d :: ds.drop (i + 1)):=by
  obtain ⟨hl,rfl⟩:=List.getElem?_eq_some_iff.mp e
  rw [<- List.drop_eq_getElem_cons hl,List.take_append_drop]
 have ht:ds.take (i + 1) = ds.take i ++ [d]:=by rw [List.take_add_one,e]; rfl
 rw [hs] at h
 obtain ⟨_,y,_,h2,_⟩:=evMap_app h
 unfold evMap at h2
 rw [ht]
 split at h2
 ·rename_i kd zs e1 e2
  split at h2
  ·rename_i hf
   exact .inr ⟨kd,e1,hf,evMap_snoc hx (by simp [evMap,e1,hf])⟩
  ·cases h2
 ·rename_i zs e1 e2
  exact .inl ⟨e1,by simpa using evMap_snoc hx (y:=[]) (by simp [evMap,e1])⟩
 ·cases h2
noncomputable def oComp (r:Ow) (it:Option (List Nat × List D)) (f:D->Option (Option KD)):Option KD:=match it with
 | some (_,ds)=>if ds.length<=100000 then (match evMap r f ds with | some ys=>some (.fr (.own [] r),.lst ys) | none=>none) else none
 | none=>none
theorem evMap_len {r:Ow} {f:D->Option (Option KD)}:∀ {ds ys:List D},evMap r f ds = some ys->ys.length<=ds.length
 | [],ys,h=>by cases h; exact Nat.le_refl _
 | d :: ds,ys,h=>by
  unfold evMap at h
  split at h
  ·rename_i kd zs e1 e2
   split at h
   ·cases h; have:=evMap_len e2; simp; omega
   ·cases h
  ·rename_i zs e1 e2
   cases h; have:=evMap_len e2; simp; omega
  ·cases h
section
variable {K:PySem.W.Frag} {H:Hp} {S:Pr}
theorem TrL.snoc:∀ {ds:List D} {r:Ow} {us:List V} {F F2:Pr} {d:D} {v:V},TrL K H S ds [] r us F->Tr K H S d r v F2->(∀ b,F b->¬ F2 b)->TrL K H S (ds ++ [d]) [] r (us ++ [v]) (fun b=>F b\/F2 b)
 | [],r,us,F,F2,d,v,h,t,dj=>by
  unfold TrL at h
  obtain ⟨rfl,hn⟩:=h
  show TrL K H S [d] [] r [v] _
  unfold TrL
  refine ⟨v,[],F2,fun _=>False,rfl,fun b=>⟨fun z=>.inl (z.elim (fun z=>absurd z (hn b)) id),fun z=>z.elim .inr fun z=>z.elim⟩,fun _ _ z=>z,t,?_⟩
  unfold TrL
  exact ⟨rfl,fun _ z=>z⟩
 | e :: ds,r,us,F,F2,d,v,h,t,dj=>by
  unfold TrL at h
  obtain ⟨y,ys,F1,F3,rfl,hF,dj1,h1,h2⟩:=h
  show TrL K H S (e :: (ds ++ [d])) [] r (y :: (ys ++ [v])) _
  unfold TrL
  refine ⟨y,ys ++ [v],F1,fun b=>F3 b\/F2 b,rfl,fun b=>?_,fun b z1 z2=>?_,h1,TrL.snoc h2 t fun b z=>dj b ((hF b).mpr (.inr z))⟩
  ·show F b\/F2 b ↔ F1 b\/F3 b\/F2 b
   rw [hF b,or_assoc]
  ·rcases z2 with z2 | z2
   ·exact dj1 b z1 z2
   ·exact dj b ((hF b).mpr (.inl z1)) z2
end
end J
namespace J
open PySem PySem.Spec L2
noncomputable def wTs (X:Cx) (ifs:List Expr):TT:=fun σ H Q=>∀ pins s,Inv X pins σ H s->wpAny (model X.prog X.w) X.A (forIn ifs true fun c r=>if r = true then do let ok <- isTrue c X.env (eval c X.env); pure (ForInStep.yield ok) else pure (ForInStep.yield r)) (TP X pins σ Q) X.xe s
theorem pts_le {X:Cx} {ifs:List Expr} {tt:TT} (p:PTs X ifs tt) {σ:L2.St} {H:Hp} {Q:Bool->Hp->Prop} (h:tt σ H Q):wTs X ifs σ H Q:=fun pins s I=>p pins s σ H Q I h
noncomputable def SndTs (X:Cx) (f:Ro->Option Bool) (ifs:List Expr):Prop:=∀ ρ b,f ρ = some b->∀ g σ H Q,SE X.K g ρ σ H->(∀ H',Same H H'->Q b H')->wTs X ifs σ H Q
theorem s_tsN {X:Cx}:SndTs X (fun _=>some true) []:=fun ρ b h g σ H Q se q=>by cases h; exact pts_le pts_nil (q H (Same.refl H))
theorem s_ts1 {X:Cx} {f:Ro->Option Bool} {e:Expr} (h:SndT X f e):SndTs X f [e]:=fun ρ b hb g σ H Q se q=>pts_le (pts_one pt_w) (h ρ b hb g σ H Q se q)
section
variable {X:Cx} {Γ:Tab} {c:Cz}
theorem comp_t (O:CxOk X Γ c) {r:Ow} {fi:Ro->Option (List Nat × List D)} {ft:Ro->Option Bool} {fe:Ro->Option KD} {elt tg iter:Expr} {ifs:List Expr} {scope:Scope} {t:IT} {n:Nat} (hck:compChk c scope = true) (hi:SndI X fi tg iter)
  (htg:cTg ⟨relS scope c.sc,namesOf scope,ownC scope⟩ n tg = some t)
  (hft:∀ C s H ex,SndTs (compX X (namesOf scope) scope C s H ex) ft ifs) (hfe:∀ C s H ex,SndE (compX X (namesOf scope) scope C s H ex) fe elt)
  {ρ:Ro} {kd:Kd} {d:D} (h:oComp r (fi ρ) (eltI t ft fe (capRo ρ (capOf c scope))) = some (kd,d)) {g:Gh} {σ:L2.St} {H:Hp} {Q:VK} (se:SE X.K g ρ σ H) (q:∀ v H',Same H H'->VR X.K g H H' kd d v->Q v H') :
  tCompF (wI X tg iter) (fun v σ H Q=>∀ C s H0 ex,wG (compX X (namesOf scope) scope C s H0 ex) tg v σ H Q) (fun σ H Q=>∀ C s H0 ex,wTs (compX X (namesOf scope) scope C s H0 ex) ifs σ H Q) (fun σ H Q=>∀ C s H0 ex,wE (compX X (namesOf scope) scope C s H0 ex) elt σ H Q) (capOf c scope) σ H Q:=by
 have hcap:capOk (capOf c scope) = true:=by
  simp only [compChk,Bool.and_eq_true] at hck
  exact hck.1.2
 unfold oComp at h
 split at h
 ·rename_i bs ds hit
  split at h
  ·rename_i hlen
   split at h
   ·rename_i ys hm
    cases h
    have CO:=cx_comp O hck
    refine hi ρ bs ds hit g σ H _ se fun jj src H1 s1 jt sp sf D hD=>?_
    have se1:SE X.K (g.re (capM (capOf c scope))) (capRo ρ (capOf c scope)) (capSt σ (capOf c scope)) H1:=(se.same s1).cap hcap
    generalize hg':g.re (capM (capOf c scope)) = g' at se1
    have gS:∀ b,Sg g' b ↔ Sg g b:=fun b=>by rw [<- hg']; exact re_S b
    generalize hρ:capRo ρ (capOf c scope) = ρc at se1 hm
    generalize hσ:capSt σ (capOf c scope) = σc at se1
    clear hρ hσ
    refine ⟨fun i m σ' H'=>m = ds.length - i/\i<=ds.length/\∃ (Fi:Pr) (us:List V) (yi:List J.D),evMap r (eltI t ft fe ρc) (ds.take i) = some yi/\(∀ b,Fi b->H1 b = none/\b ≠ D)/\SE X.K (g'.plus fun b=>b = D\/Fi b) ρc σ' H'/\
      (∀ b o,H1 b = some o->H' b = some o)/\H' D = some (.lst us)/\TrL X.K H' (Sx g fun b=>b = D\/Fi b) yi [] r us Fi,
     ⟨ds.length,by simp,Nat.zero_le _,fun _=>False,[],[],by simp [evMap],fun b z=>z.elim,?_,fun b o e=>same_upd hD _ _ e,upd_same,by unfold TrL; exact ⟨rfl,fun _ z=>z⟩⟩,?_⟩
    ·exact se1.plus (same_upd hD) (fun b z=>z.elim (fun z=>z ▸ hD) fun z=>z.elim) fun b z=>z.elim (fun z=>⟨.lst [],z ▸ upd_same,fun xs h=>by cases h⟩) fun z=>z.elim
    rintro i m σ' H' ⟨rfl,hi',Fi,us,yi,hyi,hFi,se',kk,gD,tr⟩
    have gpS:∀ b,Sg (g'.plus fun b=>b = D\/Fi b) b ↔ Sx g (fun b=>b = D\/Fi b) b:=fun b=>(plus_S b).trans (or_congr (gS b) Iff.rfl)
    have hnew:∀ b o,H1 b = some o->¬ (b = D\/Fi b):=fun b o e z=>z.elim (fun z=>by rw [z,hD] at e; cases e) fun z=>by rw [(hFi b z).1] at e; cases e
    have sp':src.P X.K (g'.plus fun b=>b = D\/Fi b) H':=Src.mono (fun b o e n z=>((gpS b).mp z).elim n (hnew b o e)) (fun b o _ e=>kk b o e) (fun a e=>sf.from_t e) sp
    obtain ⟨j1,j2⟩:=jt i _ H' sp' se'.mu
    by_cases hlt:i < ds.length
    ·have hd:ds[i]? = some ds[i]:=List.getElem?_eq_getElem hlt
     obtain ⟨go,yl⟩:=j2 _ hd
     refine .inr ⟨go,fun x H2 hy C s0 H0 ex=>?_⟩
     obtain ⟨s2,rx⟩:=yl x H2 hy
     have st:=evMap_step hm hd hyi
     have stuck:∃ o,eltI t ft fe ρc ds[i] = some o:=by
      rcases st with ⟨e,_⟩ | ⟨kd,e,_⟩
      ·exact ⟨_,e⟩
      ·exact ⟨_,e⟩
     obtain ⟨o0,ho0⟩:=stuck
     have he:=ho0
     unfold eltI at he
     split at he
     ·rename_i ps hps
      split at he
      ·rename_i hno
       refine pg_le (pg_IT (CO C s0 H0 ex) n htg) (gIT_run hps rx fun vs hvs C1 s01 H01 ex1=>?_)
       have t1:=SE.setAll hvs (se'.same s2)
       obtain ⟨t2,t3⟩:=SE.passAll hvs hno (se'.same s2)
       split at he
       ·rename_i hT
        -- the test holds
        refine hft C1 s01 H01 ex1 _ true hT _ _ _ _ t1 fun H3 s3=>iteT fun C2 s02 H02 ex2=>?_
        cases hke:fe (setAll ps ρc) with
        | none=>rw [hke] at he; cases he
        | some ke=>
         rw [hke] at he
         cases he
         obtain ⟨ky,y⟩:=ke
         have st2:fit1 r (ky,y) = true/\evMap r (eltI t ft fe ρc) (ds.take (i + 1)) = some (yi ++ [y]):=by
          rcases st with ⟨e,_⟩ | ⟨kd,e,e2,e3⟩
          ·rw [ho0] at e; cases e
          ·rw [ho0] at e; cases e; exact ⟨e2,e3⟩
         refine hfe C2 s02 H02 ex2 _ ky y hke _ _ H3 _ (t1.same s3) fun vy H4 s4 r4=>?_
         obtain ⟨Fy,y1,y2⟩:=r4
         have s24:Same H' H4:=(s2.trans s3).trans s4
         have seE:SE X.K (g'.plus fun b=>b = D\/Fi b) ρc (setV vs σ') H3:=t2.same s3
         have hgy:∀ b,Fy b->(g'.plus fun b=>b = D\/Fi b) b = none:=fun b z=>by
          cases e:(g'.plus fun b=>b = D\/Fi b) b with
          | none=>rfl
          | some k=>
           obtain ⟨o,q2,_⟩:=seE.mu b (by rw [Sg,e]; simp)
           rw [y1 b z] at q2; cases q2
         have mm:MuOk H4 (Sx (g'.plus fun b=>b = D\/Fi b) Fy):=fun b z=>z.elim (fun z=>seE.mu.same s4 b z) fun z=>y2.dom b z
         obtain ⟨F2,a1,a2⟩:=VR1.fit (p:=(ky,y)) st2.1 mm hgy (fun b z=>z) y2
         have gD4:H4 D = some (.lst us):=s24 _ _ gD
         have nF2D:¬ F2 D:=fun z=>by have:=y1 D (a1 D z); rw [(s2.trans s3) _ _ gD] at this; cases this
         have nF2:∀ b,F2 b->H' b = none:=fun b z=>(s2.trans s3).free (y1 b (a1 b z))
         have hul:us.length<=i:=by
          rw [tr.len]
          exact Nat.le_trans (evMap_len hyi) (by rw [List.length_take]; omega)
         have kD:∀ b o,b ≠ D->H4 b = some o->upd H4 D (.lst (us ++ [vy])) b = some o:=fun b o n e=>by rw [upd_ne n]; exact e
         refine ⟨us,gD4,Nat.lt_of_le_of_lt hul (Nat.lt_of_lt_of_le hlt (size_small hlen)),ds.length - (i + 1),by omega,rfl,hlt,fun b=>Fi b\/F2 b,us ++ [vy],yi ++ [y],st2.2,fun b z=>?_,?_,fun b o e=>?_,upd_same,?_⟩
         ·rcases z with z | z
          ·exact hFi b z
          ·refine ⟨?_,fun e=>nF2D (e ▸ z)⟩
           cases e:H1 b with
           | none=>rfl
           | some o=>have:=nF2 b z; rw [kk b o e] at this; cases this
         ·have e1:(g'.plus fun b=>b = D\/(Fi b\/F2 b)) = (g'.plus fun b=>b = D\/Fi b).plus F2:=by
           rw [plus_plus]
           congr 1
           funext b
           exact propext ⟨fun z=>z.elim (fun z=>.inl (.inl z)) fun z=>z.elim (fun z=>.inl (.inr z)) .inr,fun z=>z.elim (fun z=>z.elim .inl fun z=>.inr (.inl z)) fun z=>.inr (.inr z)⟩
          rw [e1]
          refine SE.upd (seE.plus s4 (fun b z=>y1 b (a1 b z)) fun b z=>y2.dom b (a1 b z)) ?_ (fun xs h=>by cases h)
          rw [plus_plus]
          exact plus_at (.inl (.inl rfl))
         ·exact kD b o (fun z=>hnew b o e (.inl z)) (s24 _ _ (kk b o e))
         ·refine TrL.snoc (tr.go (fun b o hb e=>kD b o (fun z=>?_) (s24 _ _ e)) fun b o e n z=>?_) ((a2 (fun b=>g b ≠ none\/b = D\/Fi b\/F2 b) fun b z=>?_).go (fun b o hb e=>kD b o (fun z=>?_) e) fun b o e n z=>n z) fun b z1 z2=>?_
          ·subst z
           exact hb.elim (fun z=>z (.inr (.inl rfl))) fun z=>(hFi b z).2 rfl
          ·rcases z with z | z | z | z
           ·exact n (.inl z)
           ·exact n (.inr (.inl z))
           ·exact n (.inr (.inr z))
           ·rw [nF2 b z] at e; cases e
          ·rcases z with z | z | z | z
           ·exact .inr (.inl ((gpS b).mpr (.inl z)))
           ·exact .inr (.inl ((gpS b).mpr (.inr (.inl z))))
           ·exact .inr (.inl ((gpS b).mpr (.inr (.inr z))))
           ·exact .inr (.inr (.inl z))
          ·subst z
           exact hb.elim (fun z=>z (.inr (.inl rfl))) nF2D
          ·obtain ⟨o,e,_⟩:=tr.dom b z1
           rw [nF2 b z2] at e; cases e
       ·rename_i hT
        cases he
        have st2:evMap r (eltI t ft fe ρc) (ds.take (i + 1)) = some yi:=by
         rcases st with ⟨_,e⟩ | ⟨kd,e,_⟩
         ·exact e
         ·rw [ho0] at e; cases e
        refine hft C1 s01 H01 ex1 _ false hT _ _ _ _ t1 fun H3 s3=>iteF ?_
        have s23:=s2.trans s3
        exact ⟨ds.length - (i + 1),by omega,rfl,hlt,Fi,us,yi,st2,hFi,t2.same s3,fun b o e=>s23 _ _ (kk b o e),s23 _ _ gD,tr.go (fun b o _ e=>s23 _ _ e) fun _ _ _ n=>n⟩
       ·cases he
      ·cases he
     ·cases he
    ·have e:i = ds.length:=by omega
     subst e
     rw [List.take_length,hm] at hyi
     cases hyi
     refine .inl ⟨j1 (Nat.le_refl _),q _ H' (fun b o e=>kk b o (s1 _ _ e)) ⟨fun b=>b = D\/Fi b,fun b z=>s1.free (z.elim (fun z=>z ▸ hD) fun z=>(hFi b z).1),?_⟩⟩
     show Tr _ _ _ _ _ _ _
     unfold Tr
     exact ⟨D,_,us,Fi,rfl,gD,rfl,fun _ z=>(hFi D z).2 rfl,(fun h=>nomatch h),fun b=>⟨fun z=>z.imp (fun z=>⟨rfl,z⟩) id,fun z=>z.imp (fun z=>z.2) id⟩,tr⟩
   ·cases h
  ·cases h
 ·cases h
noncomputable def notSet:Expr->Bool
 | .Set ..=>false
 | _=>true
theorem notSet_ok {e:Expr} {env:Env} (h:notSet e = true) (x:Value):foldedSetIterable e env x = pure x:=by
 cases e <;> first | rfl | cases h
theorem s_comp (O:CxOk X Γ c) {r:Ow} {fi:Ro->Option (List Nat × List D)} {ft:Ro->Option Bool} {fe:Ro->Option KD} {elt tg iter:Expr} {ifs:List Expr} {scope:Scope} {pos:Pos} {t:IT} {n:Nat} (hck:compChk c scope = true) (hns:notSet iter = true) (hi:SndI X fi tg iter)
  (htg:cTg ⟨relS scope c.sc,namesOf scope,ownC scope⟩ n tg = some t)
  (hft:∀ C s H ex,SndTs (compX X (namesOf scope) scope C s H ex) ft ifs) (hfe:∀ C s H ex,SndE (compX X (namesOf scope) scope C s H ex) fe elt) :
  SndE X (fun ρ=>oComp r (fi ρ) (eltI t ft fe (capRo ρ (capOf c scope)))) (.ListComp elt [⟨tg,iter,ifs,0⟩] scope pos):=by
 intro ρ kd d h g σ H Q se q
 exact pe_le (pe_compF (N':=namesOf scope) (cap:=capOf c scope) O.calm (compChk_ok O hck) pi_w
  (fun C s H0 ex pins s' σ' H' v u Q' I r hh=>pg_w pins s' σ' H' v u Q' I r (hh C s H0 ex)) (fun C s H0 ex pins s' σ' H' Q' I hh=>hh C s H0 ex pins s' I) (fun C s H0 ex pins s' σ' H' Q' I hh=>hh C s H0 ex pins s' I) (notSet_ok hns)) (comp_t O hck hi htg hft hfe h se q)
end
end J
namespace J
open PySem PySem.Spec L2
mutual
inductive IE where
 | var (i:Nat)
 | lit (d:D)
 | bin (op:Operator) (a b:IE)
 | cmp (op:CmpOp) (a b:IE)
 | chain (op op':CmpOp) (a b d:IE)
 | neg (a:IE)
 | not (a:IE)
 | bool (op:BoolOp) (es:IEs)
 | ifx (t a b:IE)
 | lst (k:Ow) (es:IEs)
 | tup (k:Ow) (es:IEs)
 | dnew (t:Nat)
 | ix (a b:IE)
 | sl (a:IE) (lo hi:IO)
 | rev (a st:IE)
 | stp (a:IE) (lo:IO) (st:IE)
 | maxd (a b:IE)
 | idx (a b:IE)
 | lrng (a:IE)
 | lset (a:IE)
 | dsp (k:D) (a:IE)
 | isi (T:Str) (a:IE)
 | fn (i:Nat) (es:IEs)
 | blt (x:Str) (es:IEs)
 | comp (r:Ow) (cap:List (Option Nat)) (tg:IT) (it:II) (ts:IO) (elt:IE)
inductive IEs where
 | nil
 | cons (a:IE) (r:IEs)
inductive IO where
 | non
 | som (a:IE)
inductive II where
 | e (a:IE)
 | rng (a b:IE)
 | enm (a:IE)
 | zp (a b:IE)
end
noncomputable def oDnew (t:Nat):Option KD:=if t = 0\/t = 1 then some (.fr flatO,.dic t [] []) else none
mutual
noncomputable def evI (Γ:Nat->Option Fn):IE->Ro->Option KD
 | .var i,ρ=>oVar i ρ[i]?
 | .lit d,_=>some (.sh,d)
 | .bin op a b,ρ=>oBin op (evI Γ a ρ) (evI Γ b ρ)
 | .cmp op a b,ρ=>bV (oCmp op (evI Γ a ρ) (evI Γ b ρ))
 | .chain op op' a b d,ρ=>bV (oChain op op' (evI Γ a ρ) (evI Γ b ρ) (evI Γ d ρ))
 | .neg a,ρ=>oNeg (evI Γ a ρ)
 | .not a,ρ=>bV ((oTru (evI Γ a ρ)).map (!·))
 | .bool op es,ρ=>evIB Γ op es ρ
 | .ifx t a b,ρ=>none
 | .lst k es,ρ=>oLst k (evIs Γ es ρ)
 | .tup k es,ρ=>oTup k (evIs Γ es ρ)
 | .dnew t,_=>oDnew t
 | .ix a b,ρ=>oIx (evI Γ a ρ) (evI Γ b ρ)
 | .sl a lo hi,ρ=>oSl (evI Γ a ρ) (evIO Γ lo ρ) (evIO Γ hi ρ)
 | .rev a b,ρ=>none
 | .stp a lo st,ρ=>none
 | .maxd a b,ρ=>none
 | .idx a b,ρ=>none
 | .lrng a,ρ=>none
 | .lset a,ρ=>oLset (evI Γ a ρ)
 | .dsp k a,ρ=>oDsp k (evI Γ a ρ)
 | .isi T a,ρ=>oIsi T (evI Γ a ρ)
 | .fn i es,ρ=>oFn (Γ i) (evIs Γ es ρ)
 | .blt x es,ρ=>oBlt x (evIs Γ es ρ)
 | .comp r cap tg it ts elt,ρ=>oComp r (evII Γ it ρ) (eltI tg (evITs Γ ts) (evI Γ elt) (capRo ρ cap))
noncomputable def evIT (Γ:Nat->Option Fn):IE->Ro->Option Bool
 | .cmp op a b,ρ=>oCmp op (evI Γ a ρ) (evI Γ b ρ)
 | .chain op op' a b d,ρ=>oChain op op' (evI Γ a ρ) (evI Γ b ρ) (evI Γ d ρ)
 | .not a,ρ=>(evIT Γ a ρ).map (!·)
 | .bool op es,ρ=>evIBT Γ op es ρ
 | .var i,ρ=>oTru (oVar i ρ[i]?)
 | .ix a b,ρ=>oTru (oIx (evI Γ a ρ) (evI Γ b ρ))
 | .isi T a,ρ=>oTru (oIsi T (evI Γ a ρ))
 | .fn i es,ρ=>oTru (oFn (Γ i) (evIs Γ es ρ))
 | .blt x es,ρ=>oTru (oBlt x (evIs Γ es ρ))
 | _,_=>none
noncomputable def evITs (Γ:Nat->Option Fn):IO->Ro->Option Bool
 | .non,_=>some true
 | .som a,ρ=>evIT Γ a ρ
noncomputable def evIs (Γ:Nat->Option Fn):IEs->Ro->Option (List KD)
 | .nil,_=>some []
 | .cons a r,ρ=>oCons (evI Γ a ρ) (evIs Γ r ρ)
noncomputable def evIB (Γ:Nat->Option Fn) (op:BoolOp):IEs->Ro->Option KD
 | .nil,_=>none
 | .cons a r,ρ=>match r with
  | .nil=>evI Γ a ρ
  | .cons _ _=>(match evI Γ a ρ with
   | some (_,.bl x)=>if (op == .And) = x then evIB Γ op r ρ else some (.sh,.bl x)
   | _=>none)
noncomputable def evIBT (Γ:Nat->Option Fn) (op:BoolOp):IEs->Ro->Option Bool
 | .nil,_=>none
 | .cons a r,ρ=>match r with
  | .nil=>evIT Γ a ρ
  | .cons _ _=>(match evIT Γ a ρ with
   | some x=>if (op == .And) = x then evIBT Γ op r ρ else some x
   | none=>none)
noncomputable def evIO (Γ:Nat->Option Fn):IO->Ro->Option (Option Int)
 | .non,_=>some none
 | .som a,ρ=>oInt (evI Γ a ρ)
noncomputable def evII (Γ:Nat->Option Fn):II->Ro->Option (List Nat × List D)
 | .e a,ρ=>oSeq (evI Γ a ρ)
 | .rng a b,ρ=>oRng (evI Γ a ρ) (evI Γ b ρ)
 | .enm a,ρ=>oEnm (evI Γ a ρ)
 | .zp a b,ρ=>none
end
structure Nms where
 fns:List Str
 cs:List (Str × D)
 an:Nat->Nat->Option Ow:=fun _ _=>none
 md:Nat->Nat->Option Bool:=fun _ _=>none
 io:Nat->Option (List Bool):=fun _=>none
 vw:Nat->Nat->List Nat:=fun _ _=>[]
noncomputable def tabOf (fns:Nms) (Γ:Nat->Option Fn) (fm:Str->Option (PySem.W.Frag->Sp)):Tab:=⟨fun x=>(ixOf x fns.fns).bind Γ,fm,fun x=>fns.cs.lookup x⟩
noncomputable def cArgs (f:Expr->Option IE):List Expr->Option IEs
 | []=>some .nil
 | e :: es=>if noStar e then (match f e,cArgs f es with | some a,some r=>some (.cons a r) | _,_=>none) else none
noncomputable def cList (f:Expr->Option IE):List Expr->Option IEs
 | []=>some .nil
 | e :: es=>match f e,cList f es with | some a,some r=>some (.cons a r) | _,_=>none
noncomputable def cIt (c:Cz) (f:Expr->Option IE) (tg iter:Expr):Option II:=
 match iter with
 | .Call (.Name x _) [a] [] _=>
  if x = "range" then (if glB c.sc "range" && noStar a then (f a).map (.rng (.lit (.int 0))) else none)
  else if x = "enumerate" then (if glB c.sc "enumerate" && noStar a && isTup tg then (f a).map .enm else none)
  else (f iter).map .e
 | .Call (.Name x _) [a,b] [] _=>
  if x = "range" then (if glB c.sc "range" && noStar a && noStar b then (match f a,f b with | some a,some b=>some (.rng a b) | _,_=>none) else none)
  else if x = "zip" then (if glB c.sc "zip" && noStar a && noStar b && isTup tg then (match f a,f b with | some a,some b=>some (.zp a b) | _,_=>none) else none)
  else (f iter).map .e
 | _=>(f iter).map .e
noncomputable def cOpt (f:Expr->Option IE):Option Expr->Option IO
 | none=>some .non
 | some e=>(f e).map .som
noncomputable def cTests (f:Expr->Option IE):List Expr->Option IO
 | []=>some .non
 | [e]=>(f e).map .som
 | _=>none
noncomputable def cCall (fns:Nms) (c:Cz) (f:Expr->Option IE) (x:Str) (es:List Expr):Option IE:=
 if glB c.sc x && es.all noStar then (match cArgs f es with | some ies=>(match ixOf x fns.fns with | some i=>(match fns.io i with | some _=>none | none=>some (.fn i ies)) | none=>some (.blt x ies)) | none=>none) else none
noncomputable def truK:IE->Bool
 | .var _ | .ix .. | .isi .. | .fn .. | .blt ..=>true
 | _=>false
noncomputable def onlyT (o:Option IE):Option IE:=match o with | some ie=>if truK ie then some ie else none | none=>none
noncomputable def Nms.kL (fns:Nms) (p:Pos):Ow:=(fns.an p.line p.col).getD flatO
noncomputable def Nms.kT (fns:Nms) (p:Pos):Ow:=(fns.an p.line p.col).getD .fz
noncomputable def cCst:Const->Option IE
 | .int i=>some (.lit (.int i))
 | .bool i=>some (.lit (.bl i))
 | .none=>some (.lit .non)
 | .str x=>some (.lit (.str x))
 | _=>none
noncomputable def cCmp (f:Expr->Option IE) (a:Expr) (ops:List CmpOp) (bs:List Expr):Option IE:=match ops with
 | []=>none
 | op :: ops=>match bs with
  | []=>none
  | b :: bs=>match ops with
   | []=>(match bs with
    | []=>if behindInMarks op b then none else match f a,f b with | some a,some b=>some (.cmp op a b) | _,_=>none
    | _ :: _=>none)
   | op' :: ops=>match ops with
    | _ :: _=>none
    | []=>match bs with
     | []=>none
     | d :: bs=>match bs with
      | _ :: _=>none
      | []=>if behindInMarks op' d then none else match f a,f b,f d with | some a,some b,some d=>some (.chain op op' a b d) | _,_,_=>none
noncomputable def negB:Expr->Bool
 | .UnaryOp ..=>true
 | _=>false
noncomputable def cSub (f:Expr->Option IE) (a b:Expr):Option IE:=match b with
 | .Slice lo hi st _=>(match st with
  | none=>(match f a,cOpt f lo,cOpt f hi with | some a,some lo,some hi=>some (.sl a lo hi) | _,_,_=>none)
  | some st=>(match hi with
   | some _=>none
   | none=>if negB st then (match lo with
    | some _=>none
    | none=>(match f a,f st with | some a,some b=>some (.rev a b) | _,_=>none)) else (match f a,cOpt f lo,f st with | some a,some lo,some b=>some (.stp a lo b) | _,_,_=>none)))
 | b=>if plainIx b then (match f a,f b with | some a,some b=>some (.ix a b) | _,_=>none) else none
noncomputable def cIsi (c:Cz) (f:Expr->Option IE) (as:List Expr):Option IE:=match as with
 | []=>none
 | a :: as=>match as with
  | []=>none
  | t :: as=>match as with
   | _ :: _=>none
   | []=>match t with
    | .Name T _=>if glB c.sc "isinstance" && glB c.sc T && noStar a then (f a).map (.isi T) else none
    | _=>none
noncomputable def cMaxd (c:Cz) (f:Expr->Option IE) (g:Expr) (as:List Expr) (ks:List Keyword):Option IE:=match g with
 | .Name x _=>(match as with
  | []=>none
  | a :: as=>(match as with
   | _ :: _=>none
   | []=>(match ks with
    | []=>none
    | k :: ks=>(match ks with
     | _ :: _=>none
     | []=>if x = "max"/\k.arg = some "default"/\glB c.sc "max" = true/\noStar a = true then (match f a,f k.value with | some a,some b=>some (.maxd a b) | _,_=>none) else none))))
 | _=>none
noncomputable def cLrng (c:Cz) (f:Expr->Option IE) (x:Str) (as:List Expr):Option IE:=match as with
 | []=>none
 | a :: as=>match as with
  | _ :: _=>none
  | []=>match a with
   | .Call g bs ks _=>(match g with
    | .Name y _=>(match bs with
     | []=>none
     | b :: bs=>(match bs with
      | _ :: _=>none
      | []=>(match ks with
       | _ :: _=>none
       | []=>if x = "list"/\y = "range"/\glB c.sc "list" = true/\glB c.sc "range" = true/\noStar b = true then (f b).map .lrng else if x = "len"/\y = "set"/\glB c.sc "len" = true/\glB c.sc "set" = true/\noStar b = true then (f b).map .lset else none)))
    | _=>none)
   | _=>none
noncomputable def cIdx (f:Expr->Option IE) (o:Expr) (m:Str) (ap:Pos) (as:List Expr) (pos:Pos):Option IE:=none
noncomputable def cFn (fns:Nms) (c:Cz) (f:Expr->Option IE) (g:Expr) (as:List Expr) (ks:List Keyword) (pos:Pos):Option IE:=match ks with
 | k :: ks=>cMaxd c f g as (k :: ks)
 | []=>match g with
  | .Name x _=>if x = "isinstance" then cIsi c f as else (match as with
   | []=>if glB c.sc x then (match ixOf x fns.fns with | some i=>(match fns.io i with | some _=>none | none=>some (.fn i .nil)) | none=>none) else none
   | a :: es=>match cLrng c f x (a :: es) with | some r=>some r | none=>cCall fns c f x (a :: es))
  | .Attribute o m ap=>cIdx f o m ap as pos
  | _=>none
noncomputable def cCo (fns:Nms) (c:Cz) (fE fT:Cz->Expr->Option IE) (elt:Expr) (gs:List Comprehension) (scope:Scope) (p:Pos):Option IE:=match gs with
 | []=>none
 | g :: gs=>match gs with
  | _ :: _=>none
  | []=>if g.is_async = 0 then (if notSet g.iter && compChk c scope then (match cTg ⟨relS scope c.sc,namesOf scope,ownC scope⟩ 4 g.target,cIt c (fE c) g.target g.iter,cTests (fT ⟨relS scope c.sc,namesOf scope,ownC scope⟩) g.ifs,fE ⟨relS scope c.sc,namesOf scope,ownC scope⟩ elt with
   | some t,some it,some ts,some el=>some (.comp ((fns.an p.line p.col).getD .fz) (capOf c scope) t it ts el) | _,_,_,_=>none) else none) else none
noncomputable def cDsp (f:Expr->Option IE) (ks:List (Option Expr)) (vs:List Expr):Option IE:=match ks with
 | []=>none
 | k :: ks=>match ks with
  | _ :: _=>none
  | []=>match vs with
   | []=>none
   | v :: vs=>match vs with
    | _ :: _=>none
    | []=>match k with
     | none=>none
     | some k=>(match k with
      | .Constant z _ _=>(match cCst z with
       | some z=>(match z with
        | .lit d=>(f v).map (.dsp d)
        | _=>none)
       | none=>none)
      | _=>none)
mutual
noncomputable def cE (fns:Nms):Nat->Cz->Expr->Option IE
 | 0,_,_=>none
 | n + 1,c,e=>match e with
  | .Name x p=>if glB c.sc x then (fns.cs.lookup x).map .lit else (match fns.md p.line p.col with | none=>(cVar c x).map .var | some _=>none)
  | .Constant v _ _=>cCst v
  | .BinOp a op b _=>match cE fns n c a,cE fns n c b with | some a,some b=>some (.bin op a b) | _,_=>none
  | .Compare a ops bs _=>cCmp (cE fns n c) a ops bs
  | .UnaryOp op a _=>(match op with | .USub=>(cE fns n c a).map .neg | .Not=>(cE fns n c a).map .not | _=>none)
  | .BoolOp op es _=>(cList (cE fns n c) es).map (.bool op)
  | .IfExp t a b _=>match cT fns n c t,cE fns n c a,cE fns n c b with | some t,some a,some b=>some (.ifx t a b) | _,_,_=>none
  | .List es p=>(cArgs (cE fns n c) es).map (.lst (fns.kL p))
  | .Tuple es _ p=>(cArgs (cE fns n c) es).map (.tup (fns.kT p))
  | .Dict ks vs p=>(match ks with | _ :: _=>cDsp (cE fns n c) ks vs | []=>(match vs with | _ :: _=>none | []=>some (.dnew (match fns.an p.line p.col with | some _=>1 | none=>0))))
  | .Subscript a b _=>cSub (cE fns n c) a b
  | .Call g as ks pos=>cFn fns c (cE fns n c) g as ks pos
  | .ListComp elt gs scope p=>cCo fns c (cE fns n) (cT fns n) elt gs scope p
  | _=>none
noncomputable def cT (fns:Nms):Nat->Cz->Expr->Option IE
 | 0,_,_=>none
 | n + 1,c,e=>match e with
  | .Compare a ops bs _=>cCmp (cE fns n c) a ops bs
  | .UnaryOp op a _=>(match op with | .Not=>(cT fns n c a).map .not | _=>none)
  | .BoolOp op es _=>(cList (cT fns n c) es).map (.bool op)
  | .Name x p=>onlyT (cE fns n c (.Name x p))
  | .Call f as ks p=>onlyT (cE fns n c (.Call f as ks p))
  | .Subscript a b p=>onlyT (cE fns n c (.Subscript a b p))
  | _=>none
end
theorem offE {X:Cx} {f:Ro->Option KD} {e:Expr} (h:∀ ρ,f ρ = none):SndE X f e:=fun ρ kd d hh=>by rw [h] at hh; cases hh
theorem offI {X:Cx} {f:Ro->Option (List Nat × List D)} {tg e:Expr} (h:∀ ρ,f ρ = none):SndI X f tg e:=fun ρ b d hh=>by rw [h] at hh; cases hh
theorem mapS {α β:Type} {o:Option α} {g:α->β} {b:β} (h:o.map g = some b):∃ a,o = some a/\b = g a:=by
 cases o with
 | none=>cases h
 | some a=>cases h; exact ⟨a,rfl,rfl⟩
theorem truK_ok {Γ:Nat->Option Fn} {ie:IE} (h:truK ie = true):evIT Γ ie = fun ρ=>oTru (evI Γ ie ρ):=by
 funext ρ
 cases ie with
 | var i=>rw [evIT,evI]
 | ix a b=>rw [evIT,evI]
 | isi T a=>rw [evIT,evI]
 | fn i es=>rw [evIT,evI]
 | blt x es=>rw [evIT,evI]
 | _=>cases h
theorem ev_lit {Γ:Nat->Option Fn} (d:D):evI Γ (.lit d) = fun _=>some (.sh,d):=by
 funext ρ; unfold evI; rfl
theorem onlyT_ok {o:Option IE} {ie:IE} (h:onlyT o = some ie):o = some ie/\truK ie = true:=by
 unfold onlyT at h
 split at h
 ·split at h
  ·rename_i hk; cases h; exact ⟨rfl,hk⟩
  ·cases h
 ·cases h
section
variable {X:Cx} {c:Cz} (fns:Nms) (Γ:Nat->Option Fn) {fm:Str->Option (PySem.W.Frag->Sp)}
theorem s_dnew {t:Nat} {pos:Pos}:SndE X (fun _=>oDnew t) (.Dict [] [] pos):=by
 intro ρ kd d h g σ H Q se q
 dsimp only [oDnew] at h
 split at h
 ·rename_i ht
  cases h
  have mk:∀ {p:Addr} {o:HO},H p = none->HdOk X.K o (.dic t []) []->VR X.K g H (upd H p o) (.fr flatO) (.dic t [] []) (.ref p):=fun {p o} hp ho=>
   VRs.node (kds:=[]) (es:=[]) (r:=.fz) (vs:=[]) (hd:=.dic t []) rfl se.mu (Same.refl H) .nil hp ho rfl
  rcases ht with rfl | rfl
  ·exact pe_le pe_dnewK fun p hp=>q _ _ (same_upd hp) (mk hp (.inl ⟨rfl,[],rfl,rfl,rfl⟩))
  ·exact pe_le pe_dnewT fun p hp=>q _ _ (same_upd hp) (mk hp (.inr ⟨rfl,[],rfl,rfl,rfl⟩))
 ·cases h
theorem s_argsL {f:Expr->Option IE} (hf:∀ e ie,f e = some ie->SndE X (evI Γ ie) e):∀ {es:List Expr} {ies:IEs},cArgs f es = some ies->SndA X (evIs Γ ies) es/\es.all noStar = true
 | [],ies,h=>by
  cases h
  refine ⟨?_,rfl⟩
  have:evIs Γ .nil = fun _=>some []:=by funext ρ; unfold evIs; rfl
  rw [this]; exact s_argsN
 | e :: es,ies,h=>by
  unfold cArgs at h
  split at h
  ·rename_i hn
   split at h
   ·rename_i a r ha hr
    cases h
    obtain ⟨h1,h2⟩:=s_argsL hf hr
    refine ⟨?_,by rw [List.all_cons,hn,h2]; rfl⟩
    have:evIs Γ (.cons a r) = fun ρ=>oCons (evI Γ a ρ) (evIs Γ r ρ):=by funext ρ; rw [evIs]
    rw [this]
    exact s_argsC hn (hf e a ha) h1
   ·cases h
  ·cases h
theorem s_boolE {f:Expr->Option IE} (hf:∀ e ie,f e = some ie->SndE X (evI Γ ie) e) (op:BoolOp) (pos:Pos):∀ {es:List Expr} {ies:IEs},cList f es = some ies->SndE X (evIB Γ op ies) (.BoolOp op es pos)
 | [],ies,h=>by cases h; intro ρ k d h; unfold evIB at h; cases h
 | [a],ies,h=>by
  unfold cList cList at h
  split at h
  ·rename_i a' r ha hr
   cases h
   cases hr
   intro ρ k d h g σ H Q se q
   unfold evIB at h
   exact pe_le (pe_one pe_w) (hf a a' ha ρ k d h g σ H Q se q)
  ·cases h
 | a :: b :: es,ies,h=>by
  unfold cList at h
  split at h
  ·rename_i a' r ha hr
   cases h
   have rest:=s_boolE hf op pos hr
   have hr2:∃ b' r',r = .cons b' r':=by
    unfold cList at hr
    split at hr
    ·cases hr; exact ⟨_,_,rfl⟩
    ·cases hr
   obtain ⟨b',r',rfl⟩:=hr2
   intro ρ k d h g σ H Q se q
   unfold evIB at h
   dsimp only at h
   split at h
   ·rename_i ka x ea
    split at h
    ·rename_i hx
     cases op with
     | And=>
      refine pe_le (pe_and pe_w pe_w) (hf a a' ha ρ _ _ ea g σ H _ se fun v H1 s1 r=>⟨x,r.rd.bl,?_⟩)
      have:x = true:=by rw [<- hx]; rfl
      rw [if_pos this]
      exact rest ρ k d h g σ H1 Q (se.same s1) fun v2 H2 s2 r2=>q v2 H2 (s1.trans s2) (r2.older s1)
     | Or=>
      refine pe_le (pe_or pe_w pe_w) (hf a a' ha ρ _ _ ea g σ H _ se fun v H1 s1 r=>⟨x,r.rd.bl,?_⟩)
      have:x = false:=by rw [<- hx]; rfl
      rw [if_neg (by rw [this]; decide)]
      exact rest ρ k d h g σ H1 Q (se.same s1) fun v2 H2 s2 r2=>q v2 H2 (s1.trans s2) (r2.older s1)
    ·rename_i hx
     cases h
     cases op with
     | And=>
      refine pe_le (pe_and pe_w pe_w) (hf a a' ha ρ _ _ ea g σ H _ se fun v H1 s1 r=>⟨x,r.rd.bl,?_⟩)
      have:x = false:=by cases x with | true=>exact absurd rfl hx | false=>rfl
      subst this
      rw [if_neg (by decide)]
      exact q _ H1 s1 vBl
     | Or=>
      refine pe_le (pe_or pe_w pe_w) (hf a a' ha ρ _ _ ea g σ H _ se fun v H1 s1 r=>⟨x,r.rd.bl,?_⟩)
      have:x = true:=by cases x with | false=>exact absurd rfl hx | true=>rfl
      subst this
      rw [if_pos rfl]
      exact q _ H1 s1 vBl
   ·cases h
  ·cases h
theorem w_boolT {f:Expr->Option IE} (hf:∀ e ie,f e = some ie->SndT X (evIT Γ ie) e) (op:BoolOp) (pos:Pos):∀ {es:List Expr} {ies:IEs},cList f es = some ies->∀ ρ r,evIBT Γ op ies ρ = some r->∀ g σ H Q,SE X.K g ρ σ H->(∀ H',Same H H'->Q r H')->wW X (.BoolOp op es pos) σ H Q
 | [],ies,h,ρ,r,hr,g,σ,H,Q,se,q=>by cases h; unfold evIBT at hr; cases hr
 | [a],ies,h,ρ,r,hb,g,σ,H,Q,se,q=>by
  unfold cList cList at h
  split at h
  ·rename_i a' r' ha hr
   cases h
   cases hr
   unfold evIBT at hb
   have h1:=hf a a' ha ρ r hb g σ H Q se q
   cases op with
   | And=>exact pw_le (pw_and1 pt_w) h1
   | Or=>exact pw_le (pw_or1 pt_w) h1
  ·cases h
 | a :: b :: es,ies,h,ρ,r,hb,g,σ,H,Q,se,q=>by
  unfold cList at h
  split at h
  ·rename_i a' r0 ha hr
   cases h
   have rest:=w_boolT hf op pos hr ρ r
   have hr2:∃ b' r',r0 = .cons b' r':=by
    unfold cList at hr
    split at hr
    ·cases hr; exact ⟨_,_,rfl⟩
    ·cases hr
   obtain ⟨b',r',rfl⟩:=hr2
   unfold evIBT at hb
   dsimp only at hb
   split at hb
   ·rename_i x ea
    split at hb
    ·rename_i hx
     cases op with
     | And=>
      refine pw_le (pw_and pt_w pw_w) (hf a a' ha ρ x ea g σ H _ se fun H1 s1=>?_)
      have:x = true:=by rw [<- hx]; rfl
      rw [if_pos this]
      exact rest hb g σ H1 Q (se.same s1) fun H2 s2=>q H2 (s1.trans s2)
     | Or=>
      refine pw_le (pw_or pt_w pw_w) (hf a a' ha ρ x ea g σ H _ se fun H1 s1=>?_)
      have:x = false:=by rw [<- hx]; rfl
      rw [if_neg (by rw [this]; decide)]
      exact rest hb g σ H1 Q (se.same s1) fun H2 s2=>q H2 (s1.trans s2)
    ·rename_i hx
     cases hb
     cases op with
     | And=>
      refine pw_le (pw_and pt_w pw_w) (hf a a' ha ρ r ea g σ H _ se fun H1 s1=>?_)
      have:r = false:=by cases r with | true=>exact absurd rfl hx | false=>rfl
      subst this
      rw [if_neg (by decide)]
      exact q H1 s1
     | Or=>
      refine pw_le (pw_or pt_w pw_w) (hf a a' ha ρ r ea g σ H _ se fun H1 s1=>?_)
      have:r = true:=by cases r with | false=>exact absurd rfl hx | true=>rfl
      subst this
      rw [if_pos rfl]
      exact q H1 s1
   ·cases hb
  ·cases h
theorem s_callR (O:CxOk X (tabOf fns Γ fm) c) {f:Expr->Option IE} (hf:∀ e ie,f e = some ie->SndE X (evI Γ ie) e) {x:Str} {a:Expr} {es:List Expr} {p pos:Pos} {ie:IE} (h:cCall fns c f x (a :: es) = some ie):SndE X (evI Γ ie) (.Call (.Name x p) (a :: es) [] pos):=by
 unfold cCall at h
 split at h
 ·rename_i hg
  rw [Bool.and_eq_true,List.all_cons,Bool.and_eq_true] at hg
  split at h
  ·rename_i ies ha
   have hA:=(s_argsL Γ hf ha).1
   split at h
   ·rename_i i hi
    split at h
    ·cases h
    cases h
    have e:evI Γ (.fn i ies) = fun ρ=>oFn ((tabOf fns Γ fm).fn x) (evIs Γ ies ρ):=by
     funext ρ
     unfold evI tabOf
     dsimp only
     rw [hi]; rfl
    rw [e]
    exact s_fn O hA hg.1 hg.2.1 hg.2.2
   ·cases h
    first | (refine offE fun ρ=>?_; rw [evI]; done) | (have e:evI Γ (.blt x ies) = fun ρ=>oBlt x (evIs Γ ies ρ):=(by funext ρ; unfold evI; rfl); rw [e]; exact s_blt O hA hg.1 hg.2.1 hg.2.2)
  ·cases h
 ·cases h
theorem s_itI (O:CxOk X (tabOf fns Γ fm) c) {f:Expr->Option IE} (hf:∀ e ie,f e = some ie->SndE X (evI Γ ie) e) {tg iter:Expr} {it:II} (h:cIt c f tg iter = some it):SndI X (evII Γ it) tg iter:=by
 have one:∀ {it:II},(f iter).map .e = some it->SndI X (evII Γ it) tg iter:=fun h=>by
  obtain ⟨a,ha,rfl⟩:=mapS h
  first | (refine offI fun ρ=>?_; rw [evII]; done) | (have e:evII Γ (.e a) = fun ρ=>oSeq (evI Γ a ρ):=(by funext ρ; unfold evII; rfl); rw [e]; exact s_itL (hf _ _ ha))
 unfold cIt at h
 split at h
 ·rename_i x p a pos
  split at h
  ·rename_i hx
   subst hx
   split at h
   ·rename_i hg
    rw [Bool.and_eq_true] at hg
    obtain ⟨a',ha,rfl⟩:=mapS h
    first | (refine offI fun ρ=>?_; rw [evII]; done) | (have e:evII Γ (.rng (.lit (.int 0)) a') = fun ρ=>oRng (some (.sh,.int 0)) (evI Γ a' ρ):=(by funext ρ; unfold evII; conv=>lhs; arg 1; unfold evI); rw [e]; exact s_itR1 O hg.1 hg.2 (hf _ _ ha))
   ·cases h
  ·split at h
   ·rename_i hx
    subst hx
    split at h
    ·rename_i hg
     simp only [Bool.and_eq_true] at hg
     obtain ⟨a',ha,rfl⟩:=mapS h
     first | (refine offI fun ρ=>?_; rw [evII]; done) | (have e:evII Γ (.enm a') = fun ρ=>oEnm (evI Γ a' ρ):=(by funext ρ; unfold evII; rfl); rw [e]; exact s_itE O hg.1.1 hg.1.2 hg.2 (hf _ _ ha))
    ·cases h
   ·exact one h
 ·rename_i x p a b pos
  split at h
  ·rename_i hx
   subst hx
   split at h
   ·rename_i hg
    simp only [Bool.and_eq_true] at hg
    split at h
    ·rename_i a' b' ha hb
     cases h
     first | (refine offI fun ρ=>?_; rw [evII]; done) | (have e:evII Γ (.rng a' b') = fun ρ=>oRng (evI Γ a' ρ) (evI Γ b' ρ):=(by funext ρ; unfold evII; rfl); rw [e]; exact s_itR2 O hg.1.1 hg.1.2 hg.2 (hf _ _ ha) (hf _ _ hb))
    ·cases h
   ·cases h
  ·split at h
   ·rename_i hx
    subst hx
    split at h
    ·rename_i hg
     simp only [Bool.and_eq_true] at hg
     split at h
     ·rename_i a' b' ha hb
      cases h
      first | (refine offI fun ρ=>?_; unfold evII; try rfl; done) | (have e:evII Γ (.zp a' b') = fun ρ=>oZip (evI Γ a' ρ) (evI Γ b' ρ):=(by funext ρ; unfold evII; rfl); rw [e]; exact s_itZ O hg.1.1.1 hg.1.1.2 hg.1.2 hg.2 (hf _ _ ha) (hf _ _ hb))
     ·cases h
    ·cases h
   ·exact one h
 ·exact one h
theorem s_cstR {v:Const} {k:Nat} {pos:Pos} {ie:IE} (h:cCst v = some ie):SndE X (evI Γ ie) (.Constant v k pos):=by
 cases v with
 | int i=>cases h; rw [ev_lit]; exact s_int _ _ _
 | bool i=>cases h; rw [ev_lit]; exact s_bl _ _ _
 | none=>cases h; rw [ev_lit]; exact s_non _ _
 | str i=>cases h; rw [ev_lit]; exact s_str _ _ _
 | _=>cases h
theorem cCmp_ok {f:Expr->Option IE} {a:Expr} {ops:List CmpOp} {bs:List Expr} {ie:IE} (h:cCmp f a ops bs = some ie):(∃ op b a' b',ops = [op]/\bs = [b]/\behindInMarks op b = false/\f a = some a'/\f b = some b'/\ie = .cmp op a' b')\/(∃ op op' b d a' b' d',ops = [op,op']/\bs = [b,d]/\behindInMarks op' d = false/\f a = some a'/\f b = some b'/\f d = some d'/\ie = .chain op op' a' b' d'):=by
 cases ops with
 | nil=>cases h
 | cons op ops=>cases bs with
  | nil=>cases h
  | cons b bs=>cases ops with
   | nil=>cases bs with
    | cons _ _=>cases h
    | nil=>
     dsimp only [cCmp] at h
     split at h
     ·cases h
     ·rename_i hm
      split at h
      ·rename_i a' b' ha hb
       cases h
       exact .inl ⟨op,b,a',b',rfl,rfl,by simpa using hm,ha,hb,rfl⟩
      ·cases h
   | cons op' ops=>cases ops with
    | cons _ _=>cases h
    | nil=>cases bs with
     | nil=>cases h
     | cons d bs=>cases bs with
      | cons _ _=>cases h
      | nil=>
       dsimp only [cCmp] at h
       split at h
       ·cases h
       ·rename_i hm
        split at h
        ·rename_i a' b' d' ha hb hd
         cases h
         exact .inr ⟨op,op',b,d,a',b',d',rfl,rfl,by simpa using hm,ha,hb,hd,rfl⟩
        ·cases h
theorem s_opt {f:Expr->Option IE} (hf:∀ e ie,f e = some ie->SndE X (evI Γ ie) e) {o:Option Expr} {io:IO} (h:cOpt f o = some io):SndO X (evIO Γ io) o:=by
 cases o with
 | none=>
  cases h
  have e:evIO Γ .non = fun _=>some none:=by funext ρ; unfold evIO; rfl
  rw [e]; exact s_optN
 | some e=>
  obtain ⟨a,ha,rfl⟩:=mapS h
  have e:evIO Γ (.som a) = fun ρ=>oInt (evI Γ a ρ):=by funext ρ; unfold evIO; rfl
  rw [e]; exact s_optS (hf _ _ ha)
theorem s_tests {f:Expr->Option IE} (hf:∀ e ie,f e = some ie->SndT X (evIT Γ ie) e) {o:List Expr} {io:IO} (h:cTests f o = some io):SndTs X (evITs Γ io) o:=by
 unfold cTests at h
 split at h
 ·cases h
  have e:evITs Γ .non = fun _=>some true:=by funext ρ; unfold evITs; rfl
  rw [e]; exact s_tsN
 ·obtain ⟨a,ha,rfl⟩:=mapS h
  have e:evITs Γ (.som a) = evIT Γ a:=by funext ρ; conv=>lhs; unfold evITs
  rw [e]; exact s_ts1 (hf _ _ ha)
 ·cases h
theorem s_dspR {f:Expr->Option IE} (hE:∀ e ie,f e = some ie->SndE X (evI Γ ie) e) {ks:List (Option Expr)} {vs:List Expr} {pos:Pos} {ie:IE} (h:cDsp f ks vs = some ie):SndE X (evI Γ ie) (.Dict ks vs pos):=by
 cases ks with
 | nil=>cases h
 | cons k ks=>cases ks with
  | cons _ _=>cases h
  | nil=>cases vs with
   | nil=>cases h
   | cons v vs=>cases vs with
    | cons _ _=>cases h
    | nil=>cases k with
     | none=>cases h
     | some k=>cases k with
      | Constant z j p=>
       dsimp only [cDsp] at h
       cases hz:cCst z with
       | none=>rw [hz] at h; cases h
       | some z'=>
        rw [hz] at h
        cases z' with
        | lit d=>
         obtain ⟨a',ha,rfl⟩:=mapS h
         have hk:=s_cstR (X:=X) (k:=j) (pos:=p) Γ hz
         rw [ev_lit] at hk
         first | (refine offE fun ρ=>?_; rw [evI]; done) | (rw [show evI Γ (.dsp d a') = fun ρ=>oDsp d (evI Γ a' ρ) by funext ρ; conv=>lhs; unfold evI]; exact s_dsp hk (hE _ _ ha))
        | _=>cases h
      | _=>cases h
theorem s_subR (O:CxOk X (tabOf fns Γ fm) c) {f:Expr->Option IE} (hE:∀ e ie,f e = some ie->SndE X (evI Γ ie) e) {a b:Expr} {pos:Pos} {ie:IE} (h:cSub f a b = some ie):SndE X (evI Γ ie) (.Subscript a b pos):=by
 unfold cSub at h
 split at h
 ·rename_i lo hi st p
  cases st with
  | none=>
   dsimp only at h
   split at h
   ·rename_i a' lo' hi' ha hlo hhi
    cases h
    first | (refine offE fun ρ=>?_; rw [evI]; done) | (rw [show evI Γ (.sl a' lo' hi') = fun ρ=>oSl (evI Γ a' ρ) (evIO Γ lo' ρ) (evIO Γ hi' ρ) by funext ρ; conv=>lhs; unfold evI]; exact s_sl (hE _ _ ha) (s_opt Γ hE hlo) (s_opt Γ hE hhi))
   ·cases h
  | some st=>cases hi with
   | some _=>cases h
   | none=>
    dsimp only at h
    split at h
    ·cases lo with
     | some _=>cases h
     | none=>
      dsimp only at h
      split at h
      ·rename_i a' b' ha hb
       cases h
       first | (refine offE fun ρ=>?_; rw [evI]; done) | (rw [show evI Γ (.rev a' b') = fun ρ=>oRev (evI Γ a' ρ) (evI Γ b' ρ) by funext ρ; conv=>lhs; unfold evI]; exact s_rev (hE _ _ ha) (hE _ _ hb))
      ·cases h
    ·split at h
     ·rename_i a' lo' b' ha hlo hb
      cases h
      first | (refine offE fun ρ=>?_; rw [evI]; done) | (rw [show evI Γ (.stp a' lo' b') = fun ρ=>oStp (evI Γ a' ρ) (evIO Γ lo' ρ) (evI Γ b' ρ) by funext ρ; conv=>lhs; unfold evI]; exact s_stp (hE _ _ ha) (s_opt Γ hE hlo) (hE _ _ hb))
     ·cases h
 ·split at h
  ·rename_i hp
   split at h
   ·rename_i a' b' ha hb
    cases h
    first | (refine offE fun ρ=>?_; rw [evI]; done) | (rw [show evI Γ (.ix a' b') = fun ρ=>oIx (evI Γ a' ρ) (evI Γ b' ρ) by funext ρ; conv=>lhs; unfold evI]; exact s_ix O (hE _ _ ha) (hE _ _ hb) hp)
   ·cases h
  ·cases h
theorem s_isiR (O:CxOk X (tabOf fns Γ fm) c) {f:Expr->Option IE} (hE:∀ e ie,f e = some ie->SndE X (evI Γ ie) e) {as:List Expr} {p pos:Pos} {ie:IE} (h:cIsi c f as = some ie):SndE X (evI Γ ie) (.Call (.Name "isinstance" p) as [] pos):=by
 cases as with
 | nil=>cases h
 | cons a as=>cases as with
  | nil=>cases h
  | cons t as=>cases as with
   | cons _ _=>cases h
   | nil=>
    dsimp only [cIsi] at h
    split at h
    ·split at h
     ·rename_i hg
      simp only [Bool.and_eq_true] at hg
      obtain ⟨a',ha,rfl⟩:=mapS h
      first | (refine offE fun ρ=>?_; rw [evI]; done) | (rw [show evI Γ (.isi _ a') = fun ρ=>oIsi _ (evI Γ a' ρ) by funext ρ; conv=>lhs; unfold evI]; exact s_isi O hg.1.1 hg.1.2 hg.2 (hE _ _ ha))
     ·cases h
    ·cases h
theorem s_maxR (O:CxOk X (tabOf fns Γ fm) c) {f:Expr->Option IE} (hE:∀ e ie,f e = some ie->SndE X (evI Γ ie) e) {g:Expr} {as:List Expr} {ks:List Keyword} {pos:Pos} {ie:IE} (h:cMaxd c f g as ks = some ie):SndE X (evI Γ ie) (.Call g as ks pos):=by
 cases g with
 | Name x p=>cases as with
  | nil=>cases h
  | cons a as=>cases as with
   | cons _ _=>cases h
   | nil=>cases ks with
    | nil=>cases h
    | cons k ks=>cases ks with
     | cons _ _=>cases h
     | nil=>
      cases k with
      | mk kn kv kp=>
       dsimp only [cMaxd] at h
       split at h
       ·rename_i hc
        obtain ⟨rfl,rfl,h1,h2⟩:=hc
        split at h
        ·rename_i a' b' ha hb
         cases h
         first | (refine offE fun ρ=>?_; rw [evI]; done) | (rw [show evI Γ (.maxd a' b') = fun ρ=>oMaxd (evI Γ a' ρ) (evI Γ b' ρ) by funext ρ; conv=>lhs; unfold evI]; exact s_maxd O (gl_of O h1) h2 (hE _ _ ha) (hE _ _ hb))
        ·cases h
       ·cases h
 | _=>cases h
theorem s_lrngR (O:CxOk X (tabOf fns Γ fm) c) {f:Expr->Option IE} (hE:∀ e ie,f e = some ie->SndE X (evI Γ ie) e) {x:Str} {as:List Expr} {p pos:Pos} {ie:IE} (h:cLrng c f x as = some ie):SndE X (evI Γ ie) (.Call (.Name x p) as [] pos):=by
 cases as with
 | nil=>cases h
 | cons a as=>cases as with
  | cons _ _=>cases h
  | nil=>cases a with
   | Call g bs ks p2=>cases g with
    | Name y p3=>cases bs with
     | nil=>cases h
     | cons b bs=>cases bs with
      | cons _ _=>cases h
      | nil=>cases ks with
       | cons _ _=>cases h
       | nil=>
        dsimp only [cLrng] at h
        split at h
        ·rename_i hc
         obtain ⟨rfl,rfl,h1,h2,h3⟩:=hc
         obtain ⟨a',ha,rfl⟩:=mapS h
         first | (refine offE fun ρ=>?_; rw [evI]; done) | (rw [show evI Γ (.lrng a') = fun ρ=>oLrng (evI Γ a' ρ) by funext ρ; conv=>lhs; unfold evI]; exact s_lrng O (gl_of O h1) (gl_of O h2) h3 (hE _ _ ha))
        ·split at h
         ·rename_i hc
          obtain ⟨rfl,rfl,h1,h2,h3⟩:=hc
          obtain ⟨a',ha,rfl⟩:=mapS h
          first | (refine offE fun ρ=>?_; rw [evI]; done) | (rw [show evI Γ (.lset a') = fun ρ=>oLset (evI Γ a' ρ) by funext ρ; conv=>lhs; unfold evI]; exact s_lset O (gl_of O h1) (gl_of O h2) h3 (hE _ _ ha))
         ·cases h
    | _=>cases h
   | _=>cases h
theorem s_idxR (O:CxOk X (tabOf fns Γ fm) c) {f:Expr->Option IE} (hE:∀ e ie,f e = some ie->SndE X (evI Γ ie) e) {o:Expr} {m:Str} {ap:Pos} {as:List Expr} {pos:Pos} {ie:IE} (h:cIdx f o m ap as pos = some ie):SndE X (evI Γ ie) (.Call (.Attribute o m ap) as [] pos):=by cases h
theorem s_fnR (O:CxOk X (tabOf fns Γ fm) c) {f:Expr->Option IE} (hE:∀ e ie,f e = some ie->SndE X (evI Γ ie) e) {g:Expr} {as:List Expr} {ks:List Keyword} {pos:Pos} {ie:IE} (h:cFn fns c f g as ks pos = some ie):SndE X (evI Γ ie) (.Call g as ks pos):=by
 cases ks with
 | cons _ _=>exact s_maxR fns Γ O hE h
 | nil=>
  dsimp only [cFn] at h
  split at h
  ·rename_i x p
   split at h
   ·rename_i hx
    subst hx
    exact s_isiR fns Γ O hE h
   ·cases as with
    | cons a es=>
     dsimp only at h
     split at h
     ·rename_i r hr
      cases h
      exact s_lrngR fns Γ O hE hr
     ·exact s_callR fns Γ O hE h
    | nil=>
     dsimp only at h
     split at h
     ·rename_i hg
      split at h
      ·rename_i i hi
       split at h
       ·cases h
       ·cases h
        rw [show evI Γ (.fn i .nil) = fun ρ=>oFn (Γ i) (some []) by funext ρ; rw [evI,evIs]]
        have:=s_fn0 (p:=p) (pos:=pos) O hg
        rw [show (tabOf fns Γ fm).fn x = Γ i from by show (ixOf x fns.fns).bind Γ = _; rw [hi]; rfl] at this
        exact this
      ·cases h
     ·cases h
  ·exact s_idxR fns Γ O hE h
  ·cases h
theorem s_coR (O:CxOk X (tabOf fns Γ fm) c) {fE fT:Cz->Expr->Option IE} (ihE:∀ X c,CxOk X (tabOf fns Γ fm) c->∀ e ie,fE c e = some ie->SndE X (evI Γ ie) e) (ihT:∀ X c,CxOk X (tabOf fns Γ fm) c->∀ e ie,fT c e = some ie->SndT X (evIT Γ ie) e) {elt:Expr} {gs:List Comprehension} {scope:Scope} {pos:Pos} {ie:IE} (h:cCo fns c fE fT elt gs scope pos = some ie):SndE X (evI Γ ie) (.ListComp elt gs scope pos):=by
 cases gs with
 | nil=>cases h
 | cons g gs=>cases gs with
  | cons _ _=>cases h
  | nil=>
   dsimp only [cCo] at h
   split at h
   ·rename_i h0
    split at h
    ·rename_i hn
     rw [Bool.and_eq_true] at hn
     split at h
     ·rename_i t it ts el ht hit hts hel
      cases h
      rw [show evI Γ (.comp _ (capOf c _) t it ts el) = fun ρ=>oComp _ (evII Γ it ρ) (eltI t (evITs Γ ts) (evI Γ el) (capRo ρ (capOf c _))) by funext ρ; conv=>lhs; unfold evI]
      have CO:=cx_comp O hn.2
      cases g with
      | mk tg iter ifs as=>
       subst h0
       exact s_comp O hn.2 hn.1 (s_itI fns Γ O (ihE X c O) hit) ht (fun C s H ex=>s_tests Γ (ihT _ _ (CO C s H ex)) hts) (fun C s H ex=>ihE _ _ (CO C s H ex) _ _ hel)
     ·cases h
    ·cases h
   ·cases h
end
section
variable (fns:Nms) (Γ:Nat->Option Fn) {fm:Str->Option (PySem.W.Frag->Sp)}
theorem snd_both:∀ n:Nat,(∀ X c,CxOk X (tabOf fns Γ fm) c->∀ e ie,cE fns n c e = some ie->SndE X (evI Γ ie) e)/\(∀ X c,CxOk X (tabOf fns Γ fm) c->∀ e ie,cT fns n c e = some ie->SndT X (evIT Γ ie) e)
 | 0=>⟨fun X c O e ie h=>by (unfold cE at h; cases h),fun X c O e ie h=>by (unfold cT at h; cases h)⟩
 | n + 1=>by
  obtain ⟨ihE,ihT⟩:=snd_both n
  refine ⟨fun X c O e ie h=>?_,fun X c O e ie h=>?_⟩
  ·have hE:=ihE X c O
   have hT:=ihT X c O
   cases e with
   | Name x p=>
    dsimp only [cE] at h
    split at h
    ·rename_i hg
     obtain ⟨d,hd,rfl⟩:=mapS h
     have e:evI Γ (.lit d) = fun _=>some (.sh,d):=by funext ρ; unfold evI; rfl
     rw [e]; exact s_cst O hg hd p
    ·split at h
     ·obtain ⟨i,hi,rfl⟩:=mapS h
      have e:evI Γ (.var i) = fun ρ=>oVar i ρ[i]?:=by funext ρ; unfold evI; rfl
      rw [e]; exact s_var O hi p
     ·cases h
   | Constant v k pos=>exact s_cstR Γ h
   | BinOp a op b pos=>
    dsimp only [cE] at h
    split at h
    ·rename_i a' b' ha hb
     cases h
     first | (refine offE fun ρ=>?_; rw [evI]; done) | (rw [show evI Γ (.bin _ a' b') = fun ρ=>oBin _ (evI Γ a' ρ) (evI Γ b' ρ) by funext ρ; conv=>lhs; unfold evI]; exact s_bin (hE _ _ ha) (hE _ _ hb))
    ·cases h
   | Compare a ops bs pos=>
    rcases cCmp_ok (show cCmp (cE fns n c) a ops bs = some ie from h) with ⟨op,b,a',b',rfl,rfl,hm,ha,hb,rfl⟩ | ⟨op,op',b,d,a',b',d',rfl,rfl,hm,ha,hb,hd,rfl⟩
    ·first | (refine offE fun ρ=>?_; rw [evI]; done) | (rw [show evI Γ (.cmp _ a' b') = fun ρ=>bV (oCmp _ (evI Γ a' ρ) (evI Γ b' ρ)) by funext ρ; conv=>lhs; unfold evI]; exact s_cmp O hm (hE _ _ ha) (hE _ _ hb))
    ·first | (refine offE fun ρ=>?_; rw [evI]; done) | (rw [show evI Γ (.chain _ _ a' b' d') = fun ρ=>bV (oChain _ _ (evI Γ a' ρ) (evI Γ b' ρ) (evI Γ d' ρ)) by funext ρ; conv=>lhs; unfold evI]; exact s_chain O hm (hE _ _ ha) (hE _ _ hb) (hE _ _ hd))
   | UnaryOp op a pos=>cases op with
    | USub=>
     obtain ⟨a',ha,rfl⟩:=mapS (show (cE fns n c a).map .neg = some ie from h)
     first | (refine offE fun ρ=>?_; rw [evI]; done) | (rw [show evI Γ (.neg a') = fun ρ=>oNeg (evI Γ a' ρ) by funext ρ; conv=>lhs; unfold evI]; exact s_neg (hE _ _ ha))
    | Not=>
     obtain ⟨a',ha,rfl⟩:=mapS (show (cE fns n c a).map .not = some ie from h)
     first | (refine offE fun ρ=>?_; rw [evI]; done) | (rw [show evI Γ (.not a') = fun ρ=>bV ((oTru (evI Γ a' ρ)).map (!·)) by funext ρ; conv=>lhs; unfold evI]; exact s_not (hE _ _ ha))
    | _=>cases h
   | BoolOp op es pos=>
    obtain ⟨a',ha,rfl⟩:=mapS (show (cList (cE fns n c) es).map (.bool op) = some ie from h)
    first | (refine offE fun ρ=>?_; rw [evI]; done) | (rw [show evI Γ (.bool _ a') = evIB Γ _ a' by funext ρ; conv=>lhs; unfold evI]; exact s_boolE Γ hE _ _ ha)
   | IfExp t a b pos=>
    dsimp only [cE] at h
    split at h
    ·rename_i t' a' b' ht ha hb
     cases h
     first | (refine offE fun ρ=>?_; rw [evI]; done) | (rw [show evI Γ (.ifx t' a' b') = fun ρ=>oIf (evIT Γ t' ρ) (evI Γ a' ρ) (evI Γ b' ρ) by funext ρ; conv=>lhs; unfold evI]; exact s_if (hT _ _ ht) (hE _ _ ha) (hE _ _ hb))
    ·cases h
   | List es p=>
    obtain ⟨a',ha,rfl⟩:=mapS (show (cArgs (cE fns n c) es).map (.lst (fns.kL p)) = some ie from h)
    first | (refine offE fun ρ=>?_; rw [evI]; done) | (rw [show evI Γ (.lst _ a') = fun ρ=>oLst _ (evIs Γ a' ρ) by funext ρ; conv=>lhs; unfold evI]; exact s_lst (s_argsL Γ hE ha).1)
   | Tuple es k p=>
    obtain ⟨a',ha,rfl⟩:=mapS (show (cArgs (cE fns n c) es).map (.tup (fns.kT p)) = some ie from h)
    first | (refine offE fun ρ=>?_; rw [evI]; done) | (rw [show evI Γ (.tup _ a') = fun ρ=>oTup _ (evIs Γ a' ρ) by funext ρ; conv=>lhs; unfold evI]; exact s_tup (s_argsL Γ hE ha).1)
   | Dict ks vs p=>cases ks with
    | cons _ _=>exact s_dspR Γ hE h
    | nil=>cases vs with
     | cons _ _=>cases h
     | nil=>
      cases h
      first | (refine offE fun ρ=>?_; rw [evI]; done) | (rw [show ∀ t,evI Γ (.dnew t) = fun _=>oDnew t by intro t; funext ρ; unfold evI; rfl]; exact s_dnew)
   | Subscript a b pos=>exact s_subR fns Γ O hE h
   | Call g as ks pos=>exact s_fnR fns Γ O hE h
   | ListComp elt gs scope pos=>exact s_coR fns Γ O ihE ihT h
   | _=>cases h
  ·have hE:=ihE X c O
   have hT:=ihT X c O
   cases e with
   | Compare a ops bs pos=>
    rcases cCmp_ok (show cCmp (cE fns n c) a ops bs = some ie from h) with ⟨op,b,a',b',rfl,rfl,hm,ha,hb,rfl⟩ | ⟨op,op',b,d,a',b',d',rfl,rfl,hm,ha,hb,hd,rfl⟩
    ·first | (refine offT fun ρ=>?_; rw [evIT]; done) | (rw [show evIT Γ (.cmp _ a' b') = fun ρ=>oCmp _ (evI Γ a' ρ) (evI Γ b' ρ) by funext ρ; conv=>lhs; unfold evIT]; exact t_cmp O hm (hE _ _ ha) (hE _ _ hb))
    ·first | (refine offT fun ρ=>?_; rw [evIT]; done) | (rw [show evIT Γ (.chain _ _ a' b' d') = fun ρ=>oChain _ _ (evI Γ a' ρ) (evI Γ b' ρ) (evI Γ d' ρ) by funext ρ; conv=>lhs; unfold evIT]; exact t_chain O hm (hE _ _ ha) (hE _ _ hb) (hE _ _ hd))
   | UnaryOp op a pos=>cases op with
    | Not=>
     obtain ⟨a',ha,rfl⟩:=mapS (show (cT fns n c a).map .not = some ie from h)
     first | (refine offT fun ρ=>?_; rw [evIT]; done) | (rw [show evIT Γ (.not a') = fun ρ=>(evIT Γ a' ρ).map (!·) by funext ρ; conv=>lhs; unfold evIT]; exact t_not (hT _ _ ha))
    | _=>cases h
   | BoolOp op es pos=>
    obtain ⟨a',ha,rfl⟩:=mapS (show (cList (cT fns n c) es).map (.bool op) = some ie from h)
    first | (refine offT fun ρ=>?_; rw [evIT]; done) | (rw [show evIT Γ (.bool _ a') = evIBT Γ _ a' by funext ρ; conv=>lhs; unfold evIT]; exact fun ρ b h g σ H Q se q=>fun pins s I=>w_boolT Γ hT _ _ ha ρ b h g σ H Q se q _ pins s I)
   | Name x p=>
    obtain ⟨h1,h2⟩:=onlyT_ok (show onlyT (cE fns n c _) = some ie from h)
    rw [truK_ok h2]; exact t_tru (hE _ _ h1) (fun _=>rfl)
   | Call g as ks p=>
    obtain ⟨h1,h2⟩:=onlyT_ok (show onlyT (cE fns n c _) = some ie from h)
    rw [truK_ok h2]; exact t_tru (hE _ _ h1) (fun _=>rfl)
   | Subscript a b p=>
    obtain ⟨h1,h2⟩:=onlyT_ok (show onlyT (cE fns n c _) = some ie from h)
    rw [truK_ok h2]; exact t_tru (hE _ _ h1) (fun _=>rfl)
   | _=>cases h
end
end J
namespace J
open PySem PySem.Spec L2
structure Evo (g:Gh) (H:Hp) (g':Gh) (H':Hp) (F:Pr):Prop where
 keep:∀ b o,(∀ i,g b ≠ some (some i))->H b = some o->H' b = some o
 out:∀ b,g b = some none ↔ g' b = some none
 new:∀ b i,g' b = some (some i)->(∃ j,g b = some (some j))\/H b = none
 tmp:∀ b,F b->g' b = none/\((∃ j,g b = some (some j))\/H b = none)
 dom:∀ b o,H b = some o->∃ o',H' b = some o'
section
variable {K:PySem.W.Frag} {H H' H1 H2:Hp} {g g' g1 g2:Gh} {F F1 F2:Pr}
theorem Evo.refl (g:Gh) (H:Hp):Evo g H g H (fun _=>False):=⟨fun _ _ _ e=>e,fun _=>Iff.rfl,fun b i e=>.inl ⟨i,e⟩,fun _ z=>z.elim,fun _ o e=>⟨o,e⟩⟩
theorem Evo.froz (e:Evo g H g' H' F) {b:Addr} {o:HO} (h:H b = some o) (n:g b = none):g' b = none/\¬ F b:=by
 refine ⟨?_,fun z=>?_⟩
 ·cases q:g' b with
  | none=>rfl
  | some x=>
   cases x with
   | none=>have:=(e.out b).mpr q; rw [n] at this; cases this
   | some i=>
    rcases e.new b i q with ⟨j,q⟩ | q
    ·rw [n] at q; cases q
    ·rw [h] at q; cases q
 ·rcases (e.tmp b z).2 with ⟨j,q⟩ | q
  ·rw [n] at q; cases q
  ·rw [h] at q; cases q
open Classical in
noncomputable def Gh.minus (g:Gh) (F:Pr):Gh:=fun b=>if F b then none else g b
theorem minus_at {b:Addr} (h:F b):g.minus F b = none:=by unfold Gh.minus; rw [if_pos h]
theorem minus_ne {b:Addr} (h:¬ F b):g.minus F b = g b:=by unfold Gh.minus; rw [if_neg h]
theorem minus_some {b:Addr} {x:Option Nat} (h:g.minus F b = some x):g b = some x/\¬ F b:=by
 unfold Gh.minus at h
 split at h
 ·cases h
 ·rename_i n; exact ⟨h,n⟩
theorem plus_ne {b:Addr} (h:¬ F b):g.plus F b = g b:=by unfold Gh.plus; rw [if_neg h]
theorem Evo.trans (a:Evo g H g1 H1 F1) (b:Evo (g1.plus F1) H1 g2 H2 F2):Evo g H (g2.minus F1) H2 (fun b=>F1 b\/F2 b):=by
 have of2:∀ c,¬ F1 c->∀ j,(g1.plus F1) c = some (some j)->(∃ k,g c = some (some k))\/H c = none:=fun c n j e=>by
  rw [plus_ne n] at e
  exact a.new c j e
 have h1:∀ c,H1 c = none->H c = none:=fun c q=>by
  cases e:H c with
  | none=>rfl
  | some o=>obtain ⟨o',q'⟩:=a.dom c o e; rw [q] at q'; cases q'
 refine ⟨fun c o n e=>?_,fun c=>⟨fun q=>?_,fun q=>?_⟩,fun c i q=>?_,fun c z=>?_,fun c o e=>?_⟩
 ·refine b.keep c o (fun i q=>?_) (a.keep c o n e)
  have nf:=plus_sl q
  rcases a.new c i nf with ⟨j,q⟩ | q
  ·exact n j q
  ·rw [e] at q; cases q
 ·have nF:¬ F1 c:=fun z=>by
   have:=(a.tmp c z).1
   rw [(a.out c).mp q] at this; cases this
  rw [minus_ne nF]
  exact (b.out c).mp (by rw [plus_ne nF]; exact (a.out c).mp q)
 ·obtain ⟨q1,nF⟩:=minus_some q
  have:=(b.out c).mpr q1
  rw [plus_ne nF] at this
  exact (a.out c).mpr this
 ·obtain ⟨q1,nF⟩:=minus_some q
  rcases b.new c i q1 with ⟨j,q⟩ | q
  ·exact of2 c nF j q
  ·exact .inr (h1 c q)
 ·rcases z with z | z
  ·exact ⟨minus_at z,(a.tmp c z).2⟩
  ·obtain ⟨t1,t2⟩:=b.tmp c z
   by_cases zF:F1 c
   ·exact ⟨minus_at zF,(a.tmp c zF).2⟩
   ·refine ⟨by rw [minus_ne zF]; exact t1,?_⟩
    rcases t2 with ⟨j,q⟩ | q
    ·exact of2 c zF j q
    ·exact .inr (h1 c q)
 ·obtain ⟨o1,e1⟩:=a.dom c o e
  exact b.dom c o1 e1
theorem VR1.evo {kd:Kd} {d:D} {v:V} (hb:isBo kd = false) (b:Evo (g1.plus F1) H1 g2 H2 F2) (h:VR1 K H1 g1 F1 kd d v F1):VR1 K H2 (g2.minus F1) (fun c=>F1 c\/F2 c) kd d v F1:=by
 have k1:∀ c o,(¬ Sx g1 F1 c\/F1 c)->H1 c = some o->H2 c = some o:=fun c o n e=>by
  refine b.keep c o (fun i q=>?_) e
  rcases n with n | n
  ·exact n (.inl (by rw [plus_sl q]; simp))
  ·rw [plus_at n] at q; cases q
 have k2:∀ c o,H1 c = some o->¬ Sx g1 F1 c->¬ Sx (g2.minus F1) (fun c=>F1 c\/F2 c) c:=fun c o e n z=>by
  have nF:¬ F1 c:=fun z=>n (.inr z)
  have gn:(g1.plus F1) c = none:=by
   rw [plus_ne nF]
   cases q:g1 c with
   | none=>rfl
   | some x=>exact absurd (.inl (by rw [q]; simp)) n
  obtain ⟨f1,f2⟩:=b.froz e gn
  rcases z with z | z | z
  ·rw [minus_ne nF] at z
   exact z f1
  ·exact nF z
  ·exact f2 z
 cases kd with
 | sh=>exact ⟨h.1,h.2.go fun c o n e=>⟨k1 c o (.inl n) e,k2 c o e n⟩⟩
 | fr k=>exact Tr.go k1 k2 h
 | bo i k=>cases hb
theorem sx_evo (b:Evo (g1.plus F1) H1 g2 H2 F2) (c:Addr):Sx (g2.minus F1) (fun c=>F1 c\/F2 c) c ↔ Sx g2 F2 c:=by
 by_cases h:F1 c
 ·have:g2 c = some none:=(b.out c).mp (plus_at h)
  exact ⟨fun _=>.inl (by rw [this]; simp),fun _=>.inr (.inl h)⟩
 ·refine ⟨fun z=>z.elim (fun z=>.inl (by rw [minus_ne h] at z; exact z)) fun z=>z.elim (fun z=>absurd z h) .inr,fun z=>z.elim (fun z=>.inl (by rw [minus_ne h]; exact z)) fun z=>.inr (.inr z)⟩
theorem plus_evo (b:Evo (g1.plus F1) H1 g2 H2 F2):(g2.minus F1).plus (fun c=>F1 c\/F2 c) = g2.plus F2:=by
 funext c
 by_cases h2:F2 c
 ·rw [plus_at h2,plus_at (.inr h2)]
 ·by_cases h:F1 c
  ·rw [plus_at (.inl h),plus_ne h2]
   exact ((b.out c).mp (plus_at h)).symm
  ·rw [plus_ne h2,plus_ne (fun z=>z.elim h h2),minus_ne h]
theorem VR1.evoR {kd:Kd} {d:D} {v:V} {F:Pr} (b:Evo (g1.plus F1) H1 g2 H2 F2) (h:VR1 K H2 g2 F2 kd d v F):VR1 K H2 (g2.minus F1) (fun c=>F1 c\/F2 c) kd d v F:=by
 have k2:∀ c o,H2 c = some o->¬ Sx g2 F2 c->¬ Sx (g2.minus F1) (fun c=>F1 c\/F2 c) c:=fun c o _ n z=>n ((sx_evo b c).mp z)
 cases kd with
 | sh=>exact ⟨h.1,h.2.go fun c o n e=>⟨e,k2 c o e n⟩⟩
 | fr k=>exact Tr.go (fun _ _ _ e=>e) k2 h
 | bo i k=>
  obtain ⟨h1,F0,h2,h3⟩:=h
  refine ⟨h1,F0,fun c z=>?_,Tr.go (fun _ _ _ e=>e) k2 h3⟩
  rw [minus_ne (fun z1=>?_)]
  ·exact h2 c z
  ·have:=h2 c z
   rw [(b.out c).mp (plus_at z1)] at this
   cases this
theorem VRL.evoR (b:Evo (g1.plus F1) H1 g2 H2 F2):∀ {kds:List KD} {vs:List V} {F:Pr},VRL K H2 g2 F2 kds vs F->VRL K H2 (g2.minus F1) (fun c=>F1 c\/F2 c) kds vs F
 | [],_,_,h=>h
 | (kd,d) :: r,_,_,h=>by
  obtain ⟨y,ys,G1,G2,e,hF,dj,h1,h2⟩:=h
  exact ⟨y,ys,G1,G2,e,hF,dj,h1.evoR b,VRL.evoR b h2⟩
theorem evo_cons {ρ2:Ro} {σ:L2.St} {kd:Kd} {d:D} {v:V} {kds:List KD} {vs:List V} (hb:isBo kd = false) (a:Evo g H g1 H1 F1) (r1:VR1 K H1 g1 F1 kd d v F1) (b:Evo (g1.plus F1) H1 g2 H2 F2) (se:SE K (g2.plus F2) ρ2 σ H2) (r2:VRL K H2 g2 F2 kds vs F2) :
  Evo g H (g2.minus F1) H2 (fun c=>F1 c\/F2 c)/\SE K ((g2.minus F1).plus (fun c=>F1 c\/F2 c)) ρ2 σ H2/\VRL K H2 (g2.minus F1) (fun c=>F1 c\/F2 c) ((kd,d) :: kds) (v :: vs) (fun c=>F1 c\/F2 c):=by
 refine ⟨a.trans b,by rw [plus_evo b]; exact se,v,vs,F1,F2,rfl,fun c=>Iff.rfl,fun c z1 z2=>?_,r1.evo hb b,r2.evoR b⟩
 have:=(b.out c).mp (plus_at z1)
 rw [(b.tmp c z2).1] at this
 cases this
end
noncomputable abbrev MR:=Option (Kd × D × Ro)
noncomputable def SndM (X:Cx) (f:Ro->MR) (e:Expr):Prop:=∀ ρ kd d ρ',f ρ = some (kd,d,ρ')->∀ g σ H Q,SE X.K g ρ σ H->
 (∀ v g' H' F,Evo g H g' H' F->SE X.K (g'.plus F) ρ' σ H'->VR1 X.K H' g' F kd d v F->Q v H')->wE X e σ H Q
noncomputable def SndAM (X:Cx) (f:Ro->Option (List KD × Ro)) (es:List Expr):Prop:=∀ ρ kds ρ',f ρ = some (kds,ρ')->∀ g σ H Q,SE X.K g ρ σ H->
 (∀ vs g' H' F,Evo g H g' H' F->SE X.K (g'.plus F) ρ' σ H'->VRL X.K H' g' F kds vs F->Q vs H')->wA X es σ H Q
noncomputable def SndTM (X:Cx) (f:Ro->Option (Bool × Ro)) (e:Expr):Prop:=∀ ρ b ρ',f ρ = some (b,ρ')->∀ g σ H Q,SE X.K g ρ σ H->
 (∀ g' H',Evo g H g' H' (fun _=>False)->SE X.K g' ρ' σ H'->Q b H')->wT X e σ H Q
section
variable {X:Cx}
theorem evo_same {g:Gh} {H H':Hp} {F:Pr} (s:Same H H') (hF:∀ b,F b->H b = none) (hg:∀ b,F b->g b = none):Evo g H g H' F:=
 ⟨fun b o _ e=>s b o e,fun _=>Iff.rfl,fun b i e=>.inl ⟨i,e⟩,fun b z=>⟨hg b z,.inr (hF b z)⟩,fun b o e=>⟨o,s b o e⟩⟩
theorem mu_none {g:Gh} {H:Hp} (m:MuOk H (Sg g)) {b:Addr} (h:H b = none):g b = none:=by
 cases e:g b with
 | none=>rfl
 | some x=>obtain ⟨o,q,_⟩:=m b (by rw [Sg,e]; simp); rw [h] at q; cases q
theorem SndE.m {f:Ro->Option KD} {e:Expr} (h:SndE X f e):SndM X (fun ρ=>(f ρ).map fun p=>(p.1,p.2,ρ)) e:=by
 intro ρ kd d ρ' hr g σ H Q se q
 dsimp only at hr
 cases hf:f ρ with
 | none=>rw [hf] at hr; cases hr
 | some p=>
  rw [hf] at hr
  cases hr
  refine h ρ p.1 p.2 hf g σ H Q se fun v H' s ⟨F,h1,h2⟩=>?_
  exact q v g H' F (evo_same s h1 fun b z=>mu_none se.mu (h1 b z)) (se.plus s h1 h2.dom) h2
theorem SndT.m {f:Ro->Option Bool} {e:Expr} (h:SndT X f e):SndTM X (fun ρ=>(f ρ).map fun p=>(p,ρ)) e:=by
 intro ρ b ρ' hr g σ H Q se q
 dsimp only at hr
 cases hf:f ρ with
 | none=>rw [hf] at hr; cases hr
 | some p=>
  rw [hf] at hr
  cases hr
  exact h ρ b hf g σ H Q se fun H' s=>q g H' (evo_same s (fun _ z=>z.elim) fun _ z=>z.elim) (se.same s)
noncomputable def imK (kd:Kd) (d:D):Kd:=match kd with
 | .bo i k=>if imD d = true then .sh else .bo i k
 | k=>k
theorem VR1.im {K:PySem.W.Frag} {H:Hp} {g:Gh} {F:Pr} {kd:Kd} {d:D} {v:V} (m:MuOk H (Sg (g.plus F))) (h:VR1 K H g F kd d v F):VR1 K H g F (imK kd d) d v F:=by
 cases kd with
 | sh=>exact h
 | fr k=>exact h
 | bo i k=>
  unfold imK
  dsimp only
  split
  ·rename_i hi
   refine ⟨h.1,h.rd.im (fun b z=>m b ((plus_S b).mpr z)) hi⟩
  ·exact h
noncomputable def oConsM (a:MR) (r:Ro->Option (List KD × Ro)):Option (List KD × Ro):=match a with
 | some (kd,d,ρ1)=>if isBo (imK kd d) = true then none else (match r ρ1 with | some (kds,ρ2)=>some ((imK kd d,d) :: kds,ρ2) | none=>none)
 | none=>none
theorem s_consM {fa:Ro->MR} {fr:Ro->Option (List KD × Ro)} {e:Expr} {es:List Expr} (hn:noStar e = true) (ha:SndM X fa e) (hr:SndAM X fr es):SndAM X (fun ρ=>oConsM (fa ρ) fr) (e :: es):=by
 intro ρ kds ρ' h g σ H Q se q
 dsimp only [oConsM] at h
 split at h
 ·rename_i kd d ρ1 e1
  split at h
  ·cases h
  ·rename_i hb
   split at h
   ·rename_i kds' ρ2 e2
    cases h
    refine pa_le (pa_cons pe_w pa_w (star_of hn)) (ha ρ kd d ρ1 e1 g σ H _ se fun v g1 H1 F1 ev1 se1 r1=>hr ρ1 kds' ρ' e2 (g1.plus F1) σ H1 _ se1 fun vs g2 H2 F2 ev2 se2 r2=>?_)
    obtain ⟨c1,c2,c3⟩:=evo_cons (by simpa using hb) ev1 (r1.im se1.mu) ev2 se2 r2
    exact q (v :: vs) _ H2 _ c1 c2 c3
   ·cases h
 ·cases h
noncomputable def oFinM (a:MR) (r:Ro->Option (List KD)):Option (List KD × Ro):=match a with
 | some (kd,d,ρ1)=>(match r ρ1 with | some kds=>some ((kd,d) :: kds,ρ1) | none=>none)
 | none=>none
theorem evo_fin {K:PySem.W.Frag} {H H1 H2:Hp} {g g1:Gh} {F1:Pr} {ρ1:Ro} {σ:L2.St} {kd:Kd} {d:D} {v:V} {kds:List KD} {vs:List V} (a:Evo g H g1 H1 F1) (se:SE K (g1.plus F1) ρ1 σ H1) (r1:VR1 K H1 g1 F1 kd d v F1) (s:Same H1 H2) (r2:VRs K (g1.plus F1) H1 H2 kds vs) :
  ∃ F,Evo g H g1 H2 F/\SE K (g1.plus F) ρ1 σ H2/\VRL K H2 g1 F ((kd,d) :: kds) (v :: vs) F:=by
 obtain ⟨F2,b1,b2⟩:=r2
 have hd:∀ c,F2 c->g1 c = none/\¬ F1 c:=fun c z=>by
  have:=mu_none se.mu (b1 c z)
  by_cases h:F1 c
  ·rw [plus_at h] at this; cases this
  ·rw [plus_ne h] at this; exact ⟨this,h⟩
 have h1:∀ c,H1 c = none->H c = none:=fun c q=>by
  cases e:H c with
  | none=>rfl
  | some o=>obtain ⟨o',q'⟩:=a.dom c o e; rw [q] at q'; cases q'
 refine ⟨fun c=>F1 c\/F2 c,⟨fun c o n e=>s c o (a.keep c o n e),a.out,a.new,fun c z=>z.elim (a.tmp c) fun z=>⟨(hd c z).1,.inr (h1 c (b1 c z))⟩,fun c o e=>let ⟨o',q⟩:=a.dom c o e; ⟨o',s c o' q⟩⟩,?_,v,vs,F1,F2,rfl,fun c=>Iff.rfl,fun c z1 z2=>(hd c z2).2 z1,?_,b2.unplus⟩
 ·rw [<- plus_plus]
  exact se.plus s b1 b2.dom
 ·exact r1.go s fun c o e z=>z.elim id fun z=>by rw [b1 c z] at e; cases e
theorem s_finM {fa:Ro->MR} {fr:Ro->Option (List KD)} {e:Expr} {es:List Expr} (hn:noStar e = true) (ha:SndM X fa e) (hr:SndA X fr es):SndAM X (fun ρ=>oFinM (fa ρ) fr) (e :: es):=by
 intro ρ kds ρ' h g σ H Q se q
 dsimp only [oFinM] at h
 split at h
 ·rename_i kd d ρ1 e1
  split at h
  ·rename_i kds' e2
   cases h
   refine pa_le (pa_cons pe_w pa_w (star_of hn)) (ha ρ kd d ρ' e1 g σ H _ se fun v g1 H1 F1 ev1 se1 r1=>hr ρ' kds' e2 (g1.plus F1) σ H1 _ se1 fun vs H2 s2 r2=>?_)
   obtain ⟨F,c1,c2,c3⟩:=evo_fin ev1 se1 r1 s2 r2
   exact q (v :: vs) g1 H2 F c1 c2 c3
  ·cases h
 ·cases h
open Classical in
noncomputable def offF (H:Hp) (F:Pr):Hp:=fun b=>if F b then none else H b
theorem off_same {H:Hp} {F:Pr}:Same (offF H F) H:=fun b o e=>by
 unfold offF at e
 split at e
 ·cases e
 ·exact e
theorem off_mu {K:PySem.W.Frag} {g:Gh} {H:Hp} {F:Pr} {ρ:Ro} {σ:L2.St} (se:SE K (g.plus F) ρ σ H) (hg:∀ b,F b->g b = none):MuOk (offF H F) (Sg g):=fun b z=>by
 have nF:¬ F b:=fun z2=>z (hg b z2)
 obtain ⟨o,e,n⟩:=se.mu b ((plus_S b).mpr (.inl z))
 exact ⟨o,by unfold offF; rw [if_neg nF]; exact e,n⟩
theorem evo_op {K:PySem.W.Frag} {g g1:Gh} {H H1 H2:Hp} {F F2:Pr} {ρ1:Ro} {σ:L2.St} (a:Evo g H g1 H1 F) (se:SE K (g1.plus F) ρ1 σ H1) (s:Same H1 H2) (h1:∀ b,F2 b->offF H1 F b = none) (dm:∀ b,F2 b->∃ o,H2 b = some o/\∀ xs,o ≠ .tup xs):Evo g H g1 H2 F2/\SE K (g1.plus F2) ρ1 σ H2:=by
 have hF:∀ b,F2 b->F b\/H1 b = none:=fun b z=>by
  have:=h1 b z
  unfold offF at this
  split at this
  ·rename_i q; exact .inl q
  ·exact .inr this
 have hn:∀ c,H1 c = none->H c = none:=fun c q=>by
  cases e:H c with
  | none=>rfl
  | some o=>obtain ⟨o',q'⟩:=a.dom c o e; rw [q] at q'; cases q'
 have hg2:∀ b,F2 b->g1 b = none:=fun b z=>by
  rcases hF b z with q | q
  ·exact (a.tmp b q).1
  ·have:=mu_none se.mu q
   by_cases h:F b
   ·rw [plus_at h] at this; cases this
   ·rw [plus_ne h] at this; exact this
 refine ⟨⟨fun c o n e=>s c o (a.keep c o n e),a.out,a.new,fun c z=>⟨hg2 c z,(hF c z).elim (fun q=>(a.tmp c q).2) fun q=>.inr (hn c q)⟩,fun c o e=>let ⟨o',q⟩:=a.dom c o e; ⟨o',s c o' q⟩⟩,?_⟩
 refine ⟨fun i sl e=>?_,fun b z=>?_,se.len⟩
 ·obtain ⟨v,F0,e1,e2,e3⟩:=se.slot i sl e
  refine ⟨v,F0,e1,fun b z=>?_,e3.go (fun b o _ e=>s b o e) fun b o e n z=>?_⟩
  ·have:=plus_sl (e2 b z)
   exact sl_plus this fun z2=>by rw [hg2 b z2] at this; cases this
  ·rcases (plus_S b).mp z with z | z
   ·exact n ((plus_S b).mpr (.inl z))
   ·rcases hF b z with q | q
    ·exact n ((plus_S b).mpr (.inr q))
    ·rw [q] at e; cases e
 ·rcases (plus_S b).mp z with z | z
  ·obtain ⟨o,e,n⟩:=se.mu b ((plus_S b).mpr (.inl z))
   exact ⟨o,s b o e,n⟩
  ·exact dm b z
theorem VRL.off {K:PySem.W.Frag} {g:Gh} {H:Hp} {F:Pr} {kds:List KD} {vs:List V} (h:VRL K H g F kds vs F):VRs K g (offF H F) H kds vs:=⟨F,fun b z=>by unfold offF; rw [if_pos z],h⟩
theorem StrictOk.m {f:List KD->Option KD} {es:List Expr} {node:Expr} {fa:Ro->Option (List KD × Ro)} (h:StrictOk X f es node) (ha:SndAM X fa es):SndM X (fun ρ=>(fa ρ).bind fun p=>(f p.1).map fun q=>(q.1,q.2,p.2)) node:=by
 intro ρ kd d ρ' hd g σ H Q se q
 dsimp only at hd
 cases e:fa ρ with
 | none=>rw [e] at hd; cases hd
 | some p=>
  obtain ⟨kds,ρ1⟩:=p
  rw [e] at hd
  dsimp only [Option.bind_some] at hd
  cases e2:f kds with
  | none=>rw [e2] at hd; cases hd
  | some r=>
   rw [e2] at hd
   cases hd
   refine h kds r.1 r.2 e2 σ H Q (ha ρ kds _ e g σ H _ se fun vs g1 H1 F ev se1 r1=>⟨g1,offF H1 F,off_mu se1 fun b z=>(ev.tmp b z).1,off_same,r1.off,fun v H2 s2 r2=>?_⟩)
   obtain ⟨F2,b1,b2⟩:=r2
   obtain ⟨c1,c2⟩:=evo_op ev se1 s2 b1 b2.dom
   exact q v g1 H2 F2 c1 c2 b2
end
end J
namespace J
open PySem PySem.Spec L2
noncomputable abbrev KV2:=Ow × D
noncomputable abbrev Fm:=List KV2->Option (Kd × D × List (Option KV2))
noncomputable def slP (p:KV2):Option Sl:=some ⟨false,p.1,p.2⟩
noncomputable def slQ (p:Option KV2):Option Sl:=p.map fun p=>⟨false,p.1,p.2⟩
noncomputable def spM (K:PySem.W.Frag) (φ:Fm):Sp:=fun vs H Q _=>∃ ks g kd d outs,SE K g (ks.map slP) (vs.map some) H/\φ ks = some (kd,d,outs)/\
 ∀ v g' H' F,Evo g H g' H' F->SE K (g'.plus F) (outs.map slQ) (vs.map some) H'->VR1 K H' g' F kd d v F->Q v H'
inductive RA where
 | ref (i:Nat) | val (kd:Kd) (d:D)
noncomputable def VRA (K:PySem.W.Frag) (H:Hp) (g:Gh) (Ft:Pr) (σ:L2.St):List RA->List V->Pr->Prop
 | [],vs,F=>vs = []/\∀ b,¬ F b
 | .ref i :: r,vs,F=>∃ y ys,vs = y :: ys/\σ[i]? = some (some y)/\VRA K H g Ft σ r ys F
 | .val kd d :: r,vs,F=>∃ y ys F1 F2,vs = y :: ys/\(∀ b,F b ↔ F1 b\/F2 b)/\(∀ b,F1 b->¬ F2 b)/\VR1 K H g Ft kd d y F1/\VRA K H g Ft σ r ys F2
noncomputable def SndRA (X:Cx) (f:Ro->Option (List RA × Ro)) (es:List Expr):Prop:=∀ ρ ras ρ',f ρ = some (ras,ρ')->∀ g σ H Q,SE X.K g ρ σ H->
 (∀ vs g' H' F,Evo g H g' H' F->SE X.K (g'.plus F) ρ' σ H'->VRA X.K H' g' F σ ras vs F->Q vs H')->wA X es σ H Q
section
variable {K:PySem.W.Frag} {H H1 H2:Hp} {g g1 g2:Gh} {F1 F2:Pr} {σ:L2.St}
theorem VRA.evoR (b:Evo (g1.plus F1) H1 g2 H2 F2):∀ {ras:List RA} {vs:List V} {F:Pr},VRA K H2 g2 F2 σ ras vs F->VRA K H2 (g2.minus F1) (fun c=>F1 c\/F2 c) σ ras vs F
 | [],_,_,h=>h
 | .ref i :: r,_,_,h=>by
  obtain ⟨y,ys,e,e2,h2⟩:=h
  exact ⟨y,ys,e,e2,VRA.evoR b h2⟩
 | .val kd d :: r,_,_,h=>by
  obtain ⟨y,ys,G1,G2,e,hF,dj,h1,h2⟩:=h
  exact ⟨y,ys,G1,G2,e,hF,dj,h1.evoR b,VRA.evoR b h2⟩
theorem plus_no {g:Gh} {F:Pr} (h:∀ b,¬ F b):g.plus F = g:=by
 funext b
 exact plus_ne (h b)
end
section
variable {X:Cx}
theorem s_raN:SndRA X (fun ρ=>some ([],ρ)) []:=by
 intro ρ ras ρ' h g σ H Q se q
 cases h
 refine pa_le pa_nil (q [] g H (fun _=>False) (.refl g H) ?_ ⟨rfl,fun _ z=>z⟩)
 rw [plus_no fun _ z=>z]
 exact se
noncomputable def oRefA (i:Nat) (o:Option (Option Sl)) (r:Option (List RA × Ro)):Option (List RA × Ro):=match o,r with
 | some (some _),some (ras,ρ')=>some (.ref i :: ras,ρ')
 | _,_=>none
theorem s_raR {Γ:Tab} {c:Cz} (O:CxOk X Γ c) {x:Str} {i:Nat} {p:Pos} {es:List Expr} {fr:Ro->Option (List RA × Ro)} (hc:cVar c x = some i) (hr:SndRA X fr es):SndRA X (fun ρ=>oRefA i ρ[i]? (fr ρ)) (.Name x p :: es):=by
 intro ρ ras ρ' h g σ H Q se q
 dsimp only [oRefA] at h
 split at h
 ·rename_i sl ras' ρ2 e1 e2
  cases h
  have hv:SndE X (fun ρ=>oVar i ρ[i]?) (.Name x p):=s_var O hc p
  obtain ⟨v0,ev0,_⟩:=se.get e1
  -- the name gives that very value
  refine pa_le (pa_cons pe_w pa_w (star_of rfl)) ?_
  unfold cVar at hc
  split at hc
  ·rename_i j hj
   split at hc
   ·rename_i hv
    cases hc
    simp only [Bool.and_eq_true,nameOk,Bool.not_eq_true'] at hv
    refine pe_le (pe_var (i:=i) (by rw [O.N]; exact ixOf_get hj) (by rw [O.sc]; exact visB_ok hv.1) hv.2.1 hv.2.2) ⟨v0,ev0,?_⟩
    exact hr ρ ras' ρ' e2 g σ H _ se fun vs g' H' F ev se' r=>q (v0 :: vs) g' H' F ev se' ⟨v0,vs,rfl,ev0,r⟩
   ·cases hc
  ·cases hc
 ·cases h
noncomputable def oValA (a:MR) (r:Ro->Option (List RA × Ro)):Option (List RA × Ro):=match a with
 | some (kd,d,ρ1)=>if isBo (imK kd d) = true then none else (match r ρ1 with | some (ras,ρ2)=>some (.val (imK kd d) d :: ras,ρ2) | none=>none)
 | none=>none
theorem s_raV {fa:Ro->MR} {fr:Ro->Option (List RA × Ro)} {e:Expr} {es:List Expr} (hn:noStar e = true) (ha:SndM X fa e) (hr:SndRA X fr es):SndRA X (fun ρ=>oValA (fa ρ) fr) (e :: es):=by
 intro ρ ras ρ' h g σ H Q se q
 dsimp only [oValA] at h
 split at h
 ·rename_i kd d ρ1 e1
  split at h
  ·cases h
  ·rename_i hb
   split at h
   ·rename_i ras' ρ2 e2
    cases h
    refine pa_le (pa_cons pe_w pa_w (star_of hn)) (ha ρ kd d ρ1 e1 g σ H _ se fun v g1 H1 F1 ev1 se1 r1=>hr ρ1 ras' ρ' e2 (g1.plus F1) σ H1 _ se1 fun vs g2 H2 F2 ev2 se2 r2=>?_)
    refine q (v :: vs) _ H2 _ (ev1.trans ev2) (by rw [plus_evo ev2]; exact se2) ⟨v,vs,F1,F2,rfl,fun c=>Iff.rfl,fun c z1 z2=>?_,(r1.im se1.mu).evo (by simpa using hb) ev2,r2.evoR ev2⟩
    have:=(ev2.out c).mp (plus_at z1)
    rw [(ev2.tmp c z2).1] at this
    cases this
   ·cases h
 ·cases h
end
noncomputable def refs:List RA->List Nat
 | []=>[]
 | .ref i :: r=>i :: refs r
 | .val _ _ :: r=>refs r
noncomputable def handed (ρ:Ro):List RA->Option (List KV2)
 | []=>some []
 | .ref i :: r=>match ρ[i]?,handed ρ r with
  | some (some ⟨false,k,d⟩),some ks=>some ((k,d) :: ks)
  | _,_=>none
 | .val kd d :: r=>if isBo kd = true then none else (handed ρ r).map ((.fz,d) :: ·)
noncomputable def taken:List RA->Ro->Ro->Ro
 | .ref i :: r,o :: os,ρ=>taken r os (ρ.set i o)
 | .val _ _ :: r,_ :: os,ρ=>taken r os ρ
 | _,_,ρ=>ρ
noncomputable def atR (ras:List RA) (i:Nat):Option Nat:=ras.findIdx? fun a=>match a with | .ref j=>j == i | _=>false
noncomputable def oIo (φ:Option Fm) (a:Option (List RA × Ro)):MR:=match φ,a with
 | some φ,some (ras,ρ)=>if (refs ras).Nodup then (match handed ρ ras with
  | some ks=>(match φ ks with
   | some (kd,d,outs)=>if isBo kd = true\/outs.length ≠ ras.length then none else some (kd,d,taken ras (outs.map slQ) ρ)
   | none=>none)
  | none=>none) else none
 | _,_=>none
section
theorem handed_get {ρ:Ro}:∀ {ras:List RA} {ks:List KV2},handed ρ ras = some ks->ks.length = ras.length/\∀ (j:Nat) a,ras[j]? = some a->∃ k d,ks[j]? = some (k,d)/\(match a with | .ref i=>ρ[i]? = some (some ⟨false,k,d⟩) | .val kd d'=>k = .fz/\d = d'/\isBo kd = false)
 | [],ks,h=>by cases h; exact ⟨rfl,fun j a e=>by simp at e⟩
 | .ref i :: r,ks,h=>by
  unfold handed at h
  split at h
  ·rename_i k d ks' e1 e2
   cases h
   obtain ⟨l,g⟩:=handed_get e2
   refine ⟨by simp [l],fun j a e=>?_⟩
   cases j with
   | zero=>simp at e; subst e; exact ⟨k,d,rfl,e1⟩
   | succ j=>simpa using g j a (by simpa using e)
  ·cases h
 | .val kd d :: r,ks,h=>by
  unfold handed at h
  split at h
  ·cases h
  ·rename_i hb
   obtain ⟨ks',e,rfl⟩:=mapS h
   obtain ⟨l,g⟩:=handed_get e
   refine ⟨by simp [l],fun j a e=>?_⟩
   cases j with
   | zero=>simp at e; subst e; exact ⟨.fz,d,rfl,rfl,rfl,by simpa using hb⟩
   | succ j=>simpa using g j a (by simpa using e)
theorem atR_some:∀ {ras:List RA} {i j:Nat},atR ras i = some j->ras[j]? = some (.ref i)
 | [],i,j,h=>by simp [atR] at h
 | a :: r,i,j,h=>by
  unfold atR at h
  rw [List.findIdx?_cons] at h
  cases a with
  | ref k=>
   by_cases e:k = i
   ·subst e; simp at h; subst h; rfl
   ·have e':(k == i) = false:=by simpa using e
    simp only [e'] at h
    obtain ⟨j',h',rfl⟩:=mapS (by simpa using h)
    simpa using atR_some (ras:=r) (by unfold atR; exact h')
  | val kd d=>
   simp only at h
   obtain ⟨j',h',rfl⟩:=mapS (by simpa using h)
   simpa using atR_some (ras:=r) (by unfold atR; exact h')
theorem refs_mem:∀ {ras:List RA} {j i:Nat},ras[j]? = some (.ref i)->i ∈ refs ras
 | [],_,_,h=>by simp at h
 | a :: r,0,i,h=>by simp at h; subst h; exact List.mem_cons_self
 | .ref k :: r,j + 1,i,h=>List.mem_cons_of_mem _ (refs_mem (by simpa using h))
 | .val kd d :: r,j + 1,i,h=>refs_mem (ras:=r) (by simpa using h)
theorem atR_at:∀ {ras:List RA} {j i:Nat},(refs ras).Nodup->ras[j]? = some (.ref i)->atR ras i = some j
 | [],_,_,_,h=>by simp at h
 | .ref k :: r,0,i,_,h=>by simp at h; subst h; simp [atR,List.findIdx?_cons]
 | .val kd d :: r,0,i,_,h=>by simp at h
 | .ref k :: r,j + 1,i,hn,h=>by
  have hm:=refs_mem (ras:=r) (j:=j) (i:=i) (by simpa using h)
  have hn':k ∉ refs r/\(refs r).Nodup:=List.nodup_cons.mp hn
  have e:(k == i) = false:=by
   simp only [beq_eq_false_iff_ne,ne_eq]
   intro z
   subst z
   exact hn'.1 hm
  have ih:=atR_at hn'.2 (by simpa using h:r[j]? = some (.ref i))
  unfold atR at ih ⊢
  rw [List.findIdx?_cons]
  simp only [e,ih]
  rfl
 | .val kd d :: r,j + 1,i,hn,h=>by
  have ih:=atR_at (ras:=r) hn (by simpa using h:r[j]? = some (.ref i))
  unfold atR at ih ⊢
  rw [List.findIdx?_cons]
  simp only [ih]
  rfl
theorem taken_len:∀ {ras:List RA} {outs:Ro} {ρ:Ro},(taken ras outs ρ).length = ρ.length
 | [],_,_=>rfl
 | .ref i :: r,[],_=>rfl
 | .val _ _ :: r,[],_=>rfl
 | .ref i :: r,o :: os,ρ=>by simp only [taken]; rw [taken_len]; simp
 | .val _ _ :: r,o :: os,ρ=>by simp only [taken]; exact taken_len
theorem taken_get:∀ {ras:List RA} {outs:Ro} {ρ:Ro},(refs ras).Nodup->outs.length = ras.length->∀ (i:Nat) sl,(taken ras outs ρ)[i]? = some (some sl)->(i ∉ refs ras/\ρ[i]? = some (some sl))\/∃ (j:Nat),ras[j]? = some (RA.ref i)/\outs[j]? = some (some sl)
 | [],outs,ρ,_,_,i,sl,h=>by cases outs <;> exact .inl ⟨by simp [refs],h⟩
 | .ref k :: r,[],ρ,_,hl,i,sl,h=>by simp at hl
 | .val kd d :: r,[],ρ,_,hl,i,sl,h=>by simp at hl
 | .val kd d :: r,o :: os,ρ,hn,hl,i,sl,h=>by
  simp only [taken] at h
  rcases taken_get (ras:=r) hn (by simpa using hl) i sl h with ⟨q1,q2⟩ | ⟨j,q1,q2⟩
  ·exact .inl ⟨q1,q2⟩
  ·exact .inr ⟨j + 1,by simpa using q1,by simpa using q2⟩
 | .ref k :: r,o :: os,ρ,hn,hl,i,sl,h=>by
  simp only [taken] at h
  have hn':k ∉ refs r/\(refs r).Nodup:=List.nodup_cons.mp hn
  rcases taken_get (ras:=r) hn'.2 (by simpa using hl) i sl h with ⟨q1,q2⟩ | ⟨j,q1,q2⟩
  ·by_cases e:i = k
   ·subst e
    have hlt:i < ρ.length:=by
     have:=(List.getElem?_eq_some_iff.mp q2).1
     simpa using this
    rw [List.getElem?_set_self hlt] at q2
    exact .inr ⟨0,rfl,q2⟩
   ·rw [List.getElem?_set_ne (Ne.symm e)] at q2
    exact .inl ⟨by simp only [refs,List.mem_cons,not_or]; exact ⟨e,q1⟩,q2⟩
  ·exact .inr ⟨j + 1,by simpa using q1,by simpa using q2⟩
end
end J
namespace J
open PySem PySem.Spec L2
section
variable {K:PySem.W.Frag} {H H1 H2:Hp} {g g1:Gh} {F:Pr} {σ:L2.St} {ρ:Ro}
theorem VRA.get {Ft:Pr}:∀ {ras:List RA} {vs:List V} {F:Pr},VRA K H g Ft σ ras vs F->vs.length = ras.length/\∀ (j:Nat) a,ras[j]? = some a->∃ y,vs[j]? = some y/\(match a with | .ref i=>σ[i]? = some (some y) | .val kd d=>∃ Fj:Pr,(∀ b,Fj b->F b)/\VR1 K H g Ft kd d y Fj)
 | [],vs,F,h=>by obtain ⟨rfl,_⟩:=h; exact ⟨rfl,fun j a e=>by simp at e⟩
 | .ref i :: r,vs,F,h=>by
  obtain ⟨y,ys,rfl,e,h2⟩:=h
  obtain ⟨l,q⟩:=VRA.get h2
  refine ⟨by simp [l],fun j a ea=>?_⟩
  cases j with
  | zero=>simp at ea; subst ea; exact ⟨y,rfl,e⟩
  | succ j=>simpa using q j a (by simpa using ea)
 | .val kd d :: r,vs,F,h=>by
  obtain ⟨y,ys,F1,F2,rfl,hF,dj,h1,h2⟩:=h
  obtain ⟨l,q⟩:=VRA.get h2
  refine ⟨by simp [l],fun j a ea=>?_⟩
  cases j with
  | zero=>simp at ea; subst ea; exact ⟨y,rfl,F1,fun b z=>(hF b).mpr (.inl z),h1⟩
  | succ j=>
   obtain ⟨y',e1,e2⟩:=q j a (by simpa using ea)
   refine ⟨y',by simpa using e1,?_⟩
   cases a with
   | ref i=>exact e2
   | val kd d=>obtain ⟨Fj,f1,f2⟩:=e2; exact ⟨Fj,fun b z=>(hF b).mpr (.inr (f1 b z)),f2⟩
theorem io_in {ras:List RA} {ks:List KV2} {vs:List V} (hn:(refs ras).Nodup) (hh:handed ρ ras = some ks) (hg:∀ b,F b->g1 b = none) (se:SE K (g1.plus F) ρ σ H1) (r:VRA K H1 g1 F σ ras vs F):SE K (g1.re (atR ras)) (ks.map slP) (vs.map some) H1:=by
 obtain ⟨lk,gk⟩:=handed_get hh
 obtain ⟨lv,gv⟩:=r.get
 have gS:∀ b,Sg (g1.re (atR ras)) b->Sg (g1.plus F) b:=fun b z=>(plus_S b).mpr (.inl ((re_S b).mp z))
 refine ⟨fun j sl e=>?_,fun b z=>se.mu b (gS b z),by simp [lk,lv]⟩
 rw [List.getElem?_map] at e
 cases ek:ks[j]? with
 | none=>rw [ek] at e; cases e
 | some p=>
  rw [ek] at e
  cases e
  have hj:j < ras.length:=by rw [<- lk]; exact (List.getElem?_eq_some_iff.mp ek).1
  have ea:ras[j]? = some ras[j]:=List.getElem?_eq_getElem hj
  obtain ⟨k,d,ek',m⟩:=gk j _ ea
  rw [ek] at ek'
  cases ek'
  obtain ⟨y,ey,m2⟩:=gv j _ ea
  generalize ras[j] = a at ea m m2
  cases a with
  | ref i=>
   have m:ρ[i]? = some (some ⟨false,k,d⟩):=m
   have m2:σ[i]? = some (some y):=m2
   obtain ⟨v,Fi,e1,e2,e3⟩:=se.slot i _ m
   rw [m2] at e1
   cases e1
   refine ⟨y,Fi,by simp [ey],fun b z=>?_,e3.go (fun _ _ _ e=>e) fun b o _ n z=>n (gS b z)⟩
   unfold Gh.re
   rw [plus_sl (e2 b z)]
   show some (atR ras i) = _
   rw [atR_at hn ea]
  | val kd' d'=>
   obtain ⟨rfl,rfl,hb⟩:k = .fz/\d = d'/\isBo kd' = false:=m
   obtain ⟨Fj,f1,f2⟩:=m2
   refine ⟨y,fun _=>False,by simp [ey],fun b z=>z.elim,.fz ?_⟩
   have hS:∀ b,Sg (g1.re (atR ras)) b->g1 b ≠ none:=fun b z=>(re_S b).mp z
   cases kd' with
   | sh=>exact f2.2.weak fun b z=>.inl (hS b z)
   | fr c=>exact Tr.rp (fun b z=>⟨.inl (hS b z),fun z2=>hS b z (hg b (f1 b z2))⟩) f2
   | bo i c=>cases hb
noncomputable def backG (g1 gc:Gh) (ras:List RA):Gh:=fun b=>match gc b with
 | some (some j)=>(match ras[j]? with | some (.ref i)=>some (some i) | _=>none)
 | some none=>g1 b
 | none=>none
theorem back_in {gc:Gh} {ras:List RA} {b:Addr} {j i:Nat} (h:gc b = some (some j)) (e:ras[j]? = some (.ref i)):backG g1 gc ras b = some (some i):=by
 unfold backG
 rw [h]
 dsimp only
 rw [e]
theorem back_out {gc:Gh} {ras:List RA} {b:Addr} (h:gc b = some none):backG g1 gc ras b = g1 b:=by unfold backG; rw [h]
theorem back_no {gc:Gh} {ras:List RA} {b:Addr} (h:gc b = none):backG g1 gc ras b = none:=by unfold backG; rw [h]
theorem back_cases {gc:Gh} {ras:List RA} {b:Addr} {x:Option Nat} (h:backG g1 gc ras b = some x):(∃ j i,gc b = some (some j)/\ras[j]? = some (.ref i)/\x = some i)\/(gc b = some none/\g1 b = some x):=by
 unfold backG at h
 split at h
 ·rename_i j e
  split at h
  ·rename_i i e2; cases h; exact .inl ⟨j,i,e,e2,rfl⟩
  ·cases h
 ·rename_i e; exact .inr ⟨e,h⟩
 ·cases h
theorem re_sl {m:Nat->Option Nat} {b:Addr} {j:Nat} (h:g.re m b = some (some j)):∃ i,g b = some (some i)/\m i = some j:=by
 unfold Gh.re at h
 cases q:g b with
 | none=>simp [q] at h
 | some x=>
  cases x with
  | none=>simp [q] at h
  | some i=>simp [q] at h; exact ⟨i,rfl,h⟩
theorem re_no {m:Nat->Option Nat} {b:Addr} (h:g b = none):g.re m b = none:=by unfold Gh.re; rw [h]
theorem re_o {m:Nat->Option Nat} {b:Addr} (h:g b = some none):g.re m b = some none:=by unfold Gh.re; rw [h]
theorem re_s {m:Nat->Option Nat} {b:Addr} {i:Nat} (h:g b = some (some i)):g.re m b = some (m i):=by unfold Gh.re; rw [h]
theorem back_post {ras:List RA} {kd:Kd} {d:D} {v:V} {gc:Gh} {Fr:Pr} {ρc:Ro} {σc:L2.St} (hn:(refs ras).Nodup) (hol:ρc.length = ras.length) (hbo:isBo kd = false) (a:Evo g H g1 H1 F) (se:SE K (g1.plus F) ρ σ H1)
  (hσ:∀ (j i:Nat) sl w,ras[j]? = some (.ref i)->ρc[j]? = some (some sl)->σc[j]? = some (some w)->σ[i]? = some (some w))
  (ev:Evo (g1.re (atR ras)) H1 gc H2 Fr) (sec:SE K (gc.plus Fr) ρc σc H2) (rv:VR1 K H2 gc Fr kd d v Fr) :
  Evo g H (backG g1 gc ras) H2 Fr/\SE K ((backG g1 gc ras).plus Fr) (taken ras ρc ρ) σ H2/\VR1 K H2 (backG g1 gc ras) Fr kd d v Fr:=by
 have hn0:∀ c,H1 c = none->H c = none:=fun c q=>by
  cases e:H c with
  | none=>rfl
  | some o=>obtain ⟨o',q'⟩:=a.dom c o e; rw [q] at q'; cases q'
 -- frozen ones stay so
 have froz:∀ b o,H1 b = some o->g1 b = none->backG g1 gc ras b = none/\¬ Fr b:=fun b o e n=>by
  obtain ⟨f1,f2⟩:=ev.froz e (re_no n)
  exact ⟨back_no f1,f2⟩
 have slotF:∀ b i,g1 b = some (some i)->(∃ j,g b = some (some j))\/H b = none:=fun b i e=>a.new b i e
 have fromS:∀ b j,gc b = some (some j)->(∃ k,g b = some (some k))\/H b = none:=fun b j e=>by
  rcases ev.new b j e with ⟨k,q⟩ | q
  ·obtain ⟨i,q1,_⟩:=re_sl q
   exact slotF b i q1
  ·exact .inr (hn0 b q)
 have evo:Evo g H (backG g1 gc ras) H2 Fr:=by
  refine ⟨fun b o n e=>?_,fun b=>⟨fun e=>?_,fun e=>?_⟩,fun b i e=>?_,fun b z=>?_,fun b o e=>?_⟩
  ·refine ev.keep b o (fun j q=>?_) (a.keep b o n e)
   obtain ⟨i,q1,_⟩:=re_sl q
   rcases a.new b i q1 with ⟨k,q2⟩ | q2
   ·exact n k q2
   ·rw [e] at q2; cases q2
  ·have e1:=(a.out b).mp e
   have e2:=(ev.out b).mp (re_o e1)
   rw [back_out e2]; exact e1
  ·rcases back_cases e with ⟨j,i,_,_,z⟩ | ⟨_,e1⟩
   ·cases z
   ·exact (a.out b).mpr e1
  ·rcases back_cases e with ⟨j,i',e1,_,_⟩ | ⟨_,e1⟩
   ·exact fromS b j e1
   ·exact slotF b i e1
  ·obtain ⟨t1,t2⟩:=ev.tmp b z
   refine ⟨back_no t1,?_⟩
   rcases t2 with ⟨j,q⟩ | q
   ·obtain ⟨i,q1,_⟩:=re_sl q
    exact slotF b i q1
   ·exact .inr (hn0 b q)
  ·obtain ⟨o1,e1⟩:=a.dom b o e
   exact ev.dom b o1 e1
 have gcS:∀ b,Sg (backG g1 gc ras) b->Sg gc b:=fun b z z2=>z (back_no z2)
 refine ⟨evo,⟨fun i sl e=>?_,fun b z=>?_,by rw [taken_len]; exact se.len⟩,?_⟩
 ·rcases taken_get hn hol i sl e with ⟨ni,e1⟩ | ⟨j,ej,eo⟩
  ·-- a slot that was not handed in
   obtain ⟨w,Fi,e2,e3,e4⟩:=se.slot i sl e1
   have lab:∀ b,Fi b->g1 b = some (some i)/\gc b = some none:=fun b z=>by
    have q1:=plus_sl (e3 b z)
    refine ⟨q1,(ev.out b).mp ?_⟩
    rw [re_s q1]
    cases q2:atR ras i with
    | none=>rfl
    | some j=>exact absurd (refs_mem (atR_some q2)) ni
   refine ⟨w,Fi,e2,fun b z=>?_,e4.go (fun b o hb e=>ev.keep b o (fun j q=>?_) e) fun b o e n z=>?_⟩
   ·obtain ⟨l1,l2⟩:=lab b z
    refine sl_plus (by rw [back_out l2]; exact l1) fun z2=>?_
    rw [(ev.tmp b z2).1] at l2; cases l2
   ·obtain ⟨k,q1,q2⟩:=re_sl q
    rcases hb with hb | hb
    ·exact hb ((plus_S b).mpr (.inl (by rw [Sg,q1]; simp)))
    ·rw [(lab b hb).1] at q1
     cases q1
     exact absurd (refs_mem (atR_some q2)) ni
   ·have nF:g1 b = none:=by
     cases q1:g1 b with
     | none=>rfl
     | some x=>exact absurd ((plus_S b).mpr (.inl (by rw [Sg,q1]; simp))) n
    obtain ⟨f1,f2⟩:=froz b o e nF
    rcases (plus_S b).mp z with z | z
    ·exact z f1
    ·exact f2 z
  ·-- one that was
   obtain ⟨w,Fj,e2,e3,e4⟩:=sec.slot j sl eo
   refine ⟨w,Fj,hσ j i sl w ej eo e2,fun b z=>?_,e4.go (fun _ _ _ e=>e) fun b o e n z=>?_⟩
   ·have q1:=plus_sl (e3 b z)
    refine sl_plus (back_in q1 ej) fun z2=>?_
    rw [(ev.tmp b z2).1] at q1; cases q1
   ·rcases (plus_S b).mp z with z | z
    ·exact n ((plus_S b).mpr (.inl (gcS b z)))
    ·exact n ((plus_S b).mpr (.inr z))
 ·rcases (plus_S b).mp z with z | z
  ·exact sec.mu b ((plus_S b).mpr (.inl (gcS b z)))
  ·exact sec.mu b ((plus_S b).mpr (.inr z))
 ·have k2:∀ b o,H2 b = some o->¬ Sx gc Fr b->¬ Sx (backG g1 gc ras) Fr b:=fun b o _ n z=>n (z.imp (gcS b) id)
  cases kd with
  | sh=>exact ⟨rv.1,rv.2.go fun b o n e=>⟨e,k2 b o e n⟩⟩
  | fr k=>exact Tr.go (fun _ _ _ e=>e) k2 rv
  | bo i k=>cases hbo
theorem io_post {φ:Fm} {ras:List RA} {vs:List V} {kd:Kd} {d:D} {ρ2:Ro} {Q:VK} {E:XK} (h:oIo (some φ) (some (ras,ρ)) = some (kd,d,ρ2)) (a:Evo g H g1 H1 F) (se:SE K (g1.plus F) ρ σ H1) (r:VRA K H1 g1 F σ ras vs F)
  (q:∀ v g' H' F',Evo g H g' H' F'->SE K (g'.plus F') ρ2 σ H'->VR1 K H' g' F' kd d v F'->Q v H'):spM K φ vs H1 Q E:=by
 unfold oIo at h
 dsimp only at h
 split at h
 ·rename_i hn
  split at h
  ·rename_i ks hh
   split at h
   ·rename_i kd' d' outs hφ
    split at h
    ·cases h
    ·rename_i hc
     cases h
     have hbo:isBo kd = false:=by
      cases e:isBo kd with
      | false=>rfl
      | true=>exact absurd (.inl e) hc
     have hol:outs.length = ras.length:=Classical.byContradiction fun z=>hc (.inr z)
     refine ⟨ks,g1.re (atR ras),kd,d,outs,io_in hn hh (fun b z=>(a.tmp b z).1) se r,hφ,fun v gc H2 Fr ev sec rv=>?_⟩
     obtain ⟨_,gv⟩:=r.get
     obtain ⟨c1,c2,c3⟩:=back_post hn (by rw [List.length_map]; exact hol) hbo a se (fun j i sl w ej _ ew=>by
      obtain ⟨y,ey,m⟩:=gv j _ ej
      have m:σ[i]? = some (some y):=m
      rw [List.getElem?_map,ey] at ew
      cases ew
      exact m) ev sec rv
     exact q v _ H2 Fr c1 c2 c3
   ·cases h
  ·cases h
 ·cases h
end
end J
namespace J
open PySem PySem.Spec L2
noncomputable def clr (ps:List (Nat × D)) (ρ:Ro):Ro:=ps.foldl (fun ρ p=>ρ.set p.1 none) ρ
noncomputable abbrev IR:=Option (List Nat × List D × Ro)
noncomputable def SndIM (X:Cx) (f:Ro->IR) (tg iter:Expr):Prop:=∀ ρ bs ds ρ1,f ρ = some (bs,ds,ρ1)->∀ g σ H R,SE X.K g ρ σ H->
 (∀ J s g1 H1,Evo g H g1 H1 (fun _=>False)->SE X.K g1 ρ1 σ H1->ItOk X.K J s ds->s.P X.K g1 H1->s.from g1 H1 bs->R J H1)->wI X tg iter σ H R
noncomputable def oIp (a:Option (List Nat × List D)) (ρ:Ro):IR:=match a with | some (bs,ds)=>some (bs,ds,ρ) | none=>none
theorem SndI.m {X:Cx} {f:Ro->Option (List Nat × List D)} {tg iter:Expr} (h:SndI X f tg iter):SndIM X (fun ρ=>oIp (f ρ) ρ) tg iter:=by
 intro ρ bs ds ρ1 hf g σ H R se q
 dsimp only [oIp] at hf
 split at hf
 ·rename_i bs' ds' e
  cases hf
  refine h ρ bs ds e g σ H R se fun J s H1 s1 jt sp sf=>q J s g H1 (evo_same s1 (fun _ z=>z.elim) fun _ z=>z.elim) (se.same s1) jt sp sf.from_H
 ·cases hf
noncomputable def capR (cap:List (Option Nat)):List RA:=cap.map fun o=>match o with | some i=>.ref i | none=>.val .sh .non
theorem setV_ne {K:PySem.W.Frag} {H:Hp} {S:Pr}:∀ {ps:List (Nat × D)} {vs:List (Nat × V)} {σ:L2.St} {j:Nat},RpP K H S ps vs->(∀ p ∈ ps,p.1 ≠ j)->(setV vs σ)[j]? = σ[j]?
 | [],vs,σ,j,h,_=>by rw [(show vs = [] from h)]; rfl
 | (i,d) :: ps,vs,σ,j,h,hn=>by
  obtain ⟨v,ws,rfl,_,h2⟩:=h
  show (setV ws (σ.set i (some v)))[j]? = _
  rw [setV_ne h2 fun p hp=>hn p (List.mem_cons_of_mem _ hp),List.getElem?_set_ne (hn (i,d) List.mem_cons_self)]
section
variable {X:Cx} {Γ:Tab} {c:Cz}
theorem Evo.drop {g g':Gh} {H H':Hp} {F F2:Pr} (a:Evo g H g' H' F) (h:∀ b,F2 b->F b):Evo g H g' H' F2:=⟨a.keep,a.out,a.new,fun b z=>a.tmp b (h b z),a.dom⟩
theorem SE.drop {K:PySem.W.Frag} {g:Gh} {H:Hp} {F F2:Pr} {ρ:Ro} {σ:L2.St} (se:SE K (g.plus F) ρ σ H) (h:∀ b,F2 b->F b) (hg:∀ b,F b->g b = none):SE K (g.plus F2) ρ σ H:=by
 have sub:∀ b,Sg (g.plus F2) b->Sg (g.plus F) b:=fun b z=>(plus_S b).mpr (((plus_S b).mp z).imp id (h b))
 refine ⟨fun i sl e=>?_,fun b z=>se.mu b (sub b z),se.len⟩
 obtain ⟨v,F0,e1,e2,e3⟩:=se.slot i sl e
 refine ⟨v,F0,e1,fun b z=>?_,e3.go (fun _ _ _ e=>e) fun b o _ n z=>n (sub b z)⟩
 have q:=plus_sl (e2 b z)
 exact sl_plus q fun z2=>by rw [hg b (h b z2)] at q; cases q
end
end J
namespace J
open PySem PySem.Spec L2
noncomputable def w2 (X:Cx) (a b:Expr) (σ:L2.St) (H:Hp) (R:List V->Hp->Prop):Prop:=wE X a σ H fun x H1=>wE X b σ H1 fun y H2=>R [x,y] H2
noncomputable def Snd2M (X:Cx) (f:Ro->Option (List KD × Ro)) (a b:Expr):Prop:=∀ ρ kds ρ',f ρ = some (kds,ρ')->∀ g σ H Q,SE X.K g ρ σ H->
 (∀ vs g' H' F,Evo g H g' H' F->SE X.K (g'.plus F) ρ' σ H'->VRL X.K H' g' F kds vs F->Q vs H')->w2 X a b σ H Q
noncomputable def Strict2 (X:Cx) (f:List KD->Option KD) (a b node:Expr):Prop:=∀ kds kd d,f kds = some (kd,d)->∀ σ H Q,w2 X a b σ H (AP1 X kds kd d Q)->wE X node σ H Q
section
variable {X:Cx} {Γ:Tab} {c:Cz}
theorem Strict2.m {f:List KD->Option KD} {a b node:Expr} {fa:Ro->Option (List KD × Ro)} (h:Strict2 X f a b node) (ha:Snd2M X fa a b):SndM X (fun ρ=>(fa ρ).bind fun p=>(f p.1).map fun q=>(q.1,q.2,p.2)) node:=by
 intro ρ kd d ρ' hd g σ H Q se q
 dsimp only at hd
 cases e:fa ρ with
 | none=>rw [e] at hd; cases hd
 | some p=>
  obtain ⟨kds,ρ1⟩:=p
  rw [e] at hd
  dsimp only [Option.bind_some] at hd
  cases e2:f kds with
  | none=>rw [e2] at hd; cases hd
  | some r=>
   rw [e2] at hd
   cases hd
   refine h kds r.1 r.2 e2 σ H Q (ha ρ kds _ e g σ H _ se fun vs g1 H1 F ev se1 r1=>⟨g1,offF H1 F,off_mu se1 fun b z=>(ev.tmp b z).1,off_same,r1.off,fun v H2 s2 r2=>?_⟩)
   obtain ⟨F2,b1,b2⟩:=r2
   obtain ⟨c1,c2⟩:=evo_op ev se1 s2 b1 b2.dom
   exact q v g1 H2 F2 c1 c2 b2
theorem VR.one {K:PySem.W.Frag} {g:Gh} {H0 H:Hp} {kd:Kd} {d:D} {v:V} (h:VR K g H0 H kd d v):VRs K g H0 H [(kd,d)] [v]:=by
 obtain ⟨F,h1,h2⟩:=h
 exact ⟨F,h1,v,[],F,fun _=>False,rfl,fun b=>⟨.inl,fun z=>z.elim id fun z=>z.elim⟩,fun _ _ z=>z,h2,rfl,fun _ z=>z⟩
theorem s_2fin {fa:Ro->MR} {fb:Ro->Option KD} {a b:Expr} (ha:SndM X fa a) (hb:SndE X fb b):Snd2M X (fun ρ=>oFinM (fa ρ) fun ρ=>oCons (fb ρ) (some [])) a b:=by
 intro ρ kds ρ' h g σ H Q se q
 dsimp only [oFinM] at h
 split at h
 ·rename_i kd d ρ1 e1
  split at h
  ·rename_i kds' e2
   cases h
   unfold oCons at e2
   split at e2
   ·rename_i x xs ex exs
    cases e2
    cases exs
    obtain ⟨kb,db⟩:=x
    refine ha ρ kd d ρ' e1 g σ H _ se fun v g1 H1 F1 ev1 se1 r1=>hb ρ' kb db ex (g1.plus F1) σ H1 _ se1 fun w H2 s2 r2=>?_
    obtain ⟨F',c1,c2,c3⟩:=evo_fin (kds:=[(kb,db)]) (vs:=[w]) ev1 se1 r1 s2 r2.one
    exact q [v,w] g1 H2 F' c1 c2 c3
   ·cases e2
  ·cases h
 ·cases h
theorem s_2cons {fa fb:Ro->MR} {a b:Expr} (ha:SndM X fa a) (hb:SndM X fb b):Snd2M X (fun ρ=>oConsM (fa ρ) fun ρ=>oFinM (fb ρ) fun _=>some []) a b:=by
 intro ρ kds ρ' h g σ H Q se q
 dsimp only [oConsM] at h
 split at h
 ·rename_i kd d ρ1 e1
  split at h
  ·cases h
  ·rename_i hbo
   split at h
   ·rename_i kds' ρ2 e2
    cases h
    unfold oFinM at e2
    split at e2
    ·rename_i kb db ρ3 e3
     cases e2
     refine ha ρ kd d ρ1 e1 g σ H _ se fun v g1 H1 F1 ev1 se1 r1=>hb ρ1 kb db ρ' e3 (g1.plus F1) σ H1 _ se1 fun w g2 H2 F2 ev2 se2 r2=>?_
     have r2':VRL X.K H2 g2 F2 [(kb,db)] [w] F2:=⟨w,[],F2,fun _=>False,rfl,fun b=>⟨.inl,fun z=>z.elim id fun z=>z.elim⟩,fun _ _ z=>z,r2,rfl,fun _ z=>z⟩
     obtain ⟨c1,c2,c3⟩:=evo_cons (by simpa using hbo) ev1 (r1.im se1.mu) ev2 se2 r2'
     exact q [v,w] _ H2 _ c1 c2 c3
    ·cases e2
   ·cases h
 ·cases h
noncomputable def f2 (f:KD->KD->Option KD):List KD->Option KD
 | [x,y]=>f x y
 | _=>none
theorem n_bin {op:Operator} {a b:Expr} {pos:Pos}:Strict2 X (f2 (binD op)) a b (.BinOp a op b pos):=by
 intro kds kd d h σ H Q hA
 match kds,h with
 | [x,y],h=>
  refine pe_le (pe_op (op_bin op) pe_w pe_w) (wE_mono hA fun vx H1 h1=>wE_mono h1 fun vy H2 ⟨g,H0,m,s,r,q⟩=>?_)
  obtain ⟨v,v',e,r1,r2⟩:=r.two
  cases e
  exact ⟨g,H0,x,y,kd,d,m,s,r1,r2,h,fun v H' s' r'=>q v H' s' (r'.older s)⟩
theorem t_cmpM (O:CxOk X Γ c) {op:CmpOp} {a b:Expr} {pos:Pos} {fa:Ro->Option (List KD × Ro)} (hm:behindInMarks op b = false) (ha:Snd2M X fa a b):SndTM X (fun ρ=>(fa ρ).bind fun p=>(match p.1 with | [x,y]=>(cmpD op x.2 y.2).map fun b=>(b,p.2) | _=>none)) (.Compare a [op] [b] pos):=by
 intro ρ bb ρ' h g σ H Q se q
 dsimp only at h
 cases e:fa ρ with
 | none=>rw [e] at h; cases h
 | some p=>
  obtain ⟨kds,ρ1⟩:=p
  rw [e] at h
  dsimp only [Option.bind_some] at h
  split at h
  ·rename_i x y
   obtain ⟨r0,hc,e2⟩:=mapS h
   cases e2
   have hh:w2 X a b σ H (fun vs H2=>∀ v w,vs = [v,w]->rCmp X.K op v w H2 fun z H3=>∃ k,z = .bl k/\Q k H3):=ha ρ _ _ e g σ H _ se (fun vs g1 H1 F ev se1 r=>?_)
   ·refine pt_le (pt_cmpR (op_cmp O.tab.units op) pe_w pe_w hm) ?_
    show wE X a σ H fun vx H1=>wE X b σ H1 fun vy H2=>rCmp X.K op vx vy H2 fun z H3=>∃ k,z = .bl k/\Q k H3
    exact wE_mono hh fun vx H1 h1=>wE_mono h1 fun vy H2 h2=>h2 vx vy rfl
   intro v w evs
   subst evs
   obtain ⟨v',w',e3,r1,r2⟩:=r.off.two
   cases e3
   have cl:=evo_op (F2:=fun _=>False) ev se1 (Same.refl H1) (fun b z=>z.elim) (fun b z=>z.elim)
   exact ⟨x.2,y.2,bb,r1.rd,r2.rd,hc,bb,rfl,q g1 H1 cl.1 (by have:=cl.2; rw [plus_no fun _ z=>z] at this; exact this)⟩
  ·cases h
noncomputable def fSlh (x y:KD):Option KD:=match x.2 with
 | .nd hd xs=>(match hd with
  | .lst=>(match y.2 with | .int j=>if okE x.1 xs = true then some (.fr flatO,.lst (cutD xs none (some j))) else none | _=>none)
  | _=>none)
 | _=>none
theorem n_slh {a b:Expr} {p2 pos:Pos}:Strict2 X (f2 fSlh) a b (.Subscript a (.Slice none (some b) none p2) pos):=by
 intro kds kd d h σ H Q hA
 match kds,h with
 | [x,y],h0=>
  have h:fSlh x y = some (kd,d):=h0
  clear h0
  obtain ⟨kx,dx⟩:=x
  obtain ⟨ky,dy⟩:=y
  cases dx with
  | nd hd xs=>cases hd with
   | lst=>cases dy with
    | int j=>
     obtain ⟨hk,e⟩:=ifS (show (if okE kx xs = true then some (Kd.fr flatO,D.lst (cutD xs none (some j))) else none) = some (kd,d) from h)
     cases e
     refine pe_le (pe_slice sl_list pe_w po_none (po_some pe_w)) (wE_mono hA fun vx H1 h1=>wE_mono h1 fun vy H2 ⟨g,H0,m,s,r,q⟩=>?_)
     obtain ⟨v,v',e,r1,r2⟩:=r.two
     cases e
     obtain rfl:=r2.rd.int
     obtain ⟨p,o,us,rfl,g1,q1,rr⟩:=r1.items hk m s
     cases (show o = _ from q1)
     exact ⟨j,rfl,p,us,rfl,.of g1,fun p' hp'=>q _ _ (same_upd hp') ((vNew hp' (rr.cut none (some j))).older s)⟩
    | _=>cases h
   | _=>cases h
  | _=>cases h
noncomputable def fIx:KD->KD->Option KD:=fun x y=>oIx (some x) (some y)
theorem n_ix (O:CxOk X Γ c) {a b:Expr} {pos:Pos} (hp:plainIx b = true):Strict2 X (f2 fIx) a b (.Subscript a b pos):=by
 intro kds kd d h σ H Q hA
 match kds,h with
 | [x,y],h0=>
  have h:oIx (some x) (some y) = some (kd,d):=h0
  clear h0
  obtain ⟨kx,dx⟩:=x
  obtain ⟨ky,dy⟩:=y
  have mono:∀ {R:V->V->Hp->Prop},(∀ vx vy H2 g H0,MuOk H0 (Sg g)->Same H0 H2->VR X.K g H0 H2 kx dx vx->VR X.K g H0 H2 ky dy vy->(∀ v H',Same H2 H'->VR X.K g H0 H' kd d v->Q v H')->R vx vy H2)->wE X a σ H fun vx H1=>wE X b σ H1 fun vy H2=>R vx vy H2:=fun k=>
   wE_mono hA fun vx H1 h1=>wE_mono h1 fun vy H2 ⟨g,H0,m,s,r,q⟩=>by
    obtain ⟨v,v',e,r1,r2⟩:=r.two
    cases e
    exact k vx vy H2 g H0 m s r1 r2 q
  unfold oIx at h
  split at h
  ·rename_i ka xs kb i e1 e2
   cases e1; cases e2
   split at h
   ·rename_i j hj
    cases e:xs[j]? with
    | none=>rw [e] at h; cases h
    | some d'=>
     rw [e] at h
     cases h
     refine pe_le (pe_ix ix_seq pe_w pe_w (plainIx_ok hp)) (mono fun vx vy H2 g H0 m s rx ry q=>?_)
     obtain ⟨p,o,us,rfl,g1,q1,l1,c1⟩:=rx.ch
     cases (show o = _ from q1)
     obtain rfl:=ry.rd.int
     obtain ⟨v,ev,e2⟩:=c1 j _ e
     exact .inl ⟨p,us,i,v,rfl,rfl,.of g1,by unfold L2.atI; rw [l1,hj]; exact ev,q v H2 (Same.refl H2) e2⟩
   ·cases h
  ·rename_i ka xs kb i e1 e2
   cases e1; cases e2
   split at h
   ·rename_i j hj
    cases e:xs[j]? with
    | none=>rw [e] at h; cases h
    | some d'=>
     rw [e] at h
     cases h
     refine pe_le (pe_ix ix_seq pe_w pe_w (plainIx_ok hp)) (mono fun vx vy H2 g H0 m s rx ry q=>?_)
     obtain ⟨p,o,us,rfl,g1,q1,l1,c1⟩:=rx.ch
     cases (show o = _ from q1)
     obtain rfl:=ry.rd.int
     obtain ⟨v,ev,e2⟩:=c1 j _ e
     exact .inr (.inl ⟨p,us,i,v,rfl,rfl,.of g1,by unfold L2.atI; rw [l1,hj]; exact ev,q v H2 (Same.refl H2) e2⟩)
   ·cases h
  ·rename_i ka ns kb i e1 e2
   cases e1; cases e2
   cases e:L2.atI ns i with
   | none=>rw [e] at h; cases h
   | some d'=>
    rw [e] at h
    cases h
    refine pe_le (pe_ix ix_seq pe_w pe_w (plainIx_ok hp)) (mono fun vx vy H2 g H0 m s rx ry q=>?_)
    obtain ⟨p,rfl,g1⟩:=rx.rd.scr
    obtain rfl:=ry.rd.int
    exact .inl ⟨p,_,i,.int d',rfl,rfl,g1,by rw [atI_map,e]; rfl,q _ H2 (Same.refl H2) vInt⟩
  ·rename_i ka z kb i e1 e2
   cases e1; cases e2
   split at h
   ·rename_i hz
    unfold chr1 at h
    cases e:L2.atI z.cps.toList i with
    | none=>rw [e] at h; cases h
    | some d'=>
     rw [e] at h
     cases h
     refine pe_le (pe_ix ix_seq pe_w pe_w (plainIx_ok hp)) (mono fun vx vy H2 g H0 m s rx ry q=>?_)
     obtain rfl:=rx.rd.str
     obtain rfl:=ry.rd.int
     exact .inr (.inr ⟨z,i,d',rfl,rfl,size_small hz,e,q _ H2 (Same.refl H2) vStr⟩)
   ·cases h
  ·rename_i ka t ks xs kb dk e1 e2
   cases e1; cases e2
   split at h
   ·rename_i k hk
    split at h
    ·rename_i hf
     split at h
     ·rename_i j hj
      cases e:xs[j]? with
      | none=>rw [e] at h; cases h
      | some d'=>
       rw [e] at h
       cases h
       refine pe_le (pe_dget (by have:=O.tab.units; omega) pe_w pe_w (plainIx_ok hp)) (mono fun vx vy H2 g H0 m s rx ry q=>?_)
       obtain ⟨p,o,us,rfl,g1,q1,l1,c1⟩:=rx.ch
       obtain ⟨v,ev,e2⟩:=c1 j _ e
       have dg:=dget_of g1 q1 hk ry.rd hf
       rw [hj,Option.bind_some,ev] at dg
       exact ⟨p,v,rfl,dg,q v H2 (Same.refl H2) e2⟩
     ·cases h
    ·cases h
   ·cases h
  ·cases h
theorem n_lst {k:Ow} {es:List Expr} {pos:Pos}:StrictOk X (fun kds=>oLst k (some kds)) es (.List es pos):=by
 intro kds kd d h σ H Q hA
 dsimp only [oLst] at h
 split at h
 ·split at h
  ·rename_i hz
   cases h
   refine pe_le (pe_lst pa_w) (wA_mono hA fun vs H1 ⟨g,H0,m,s1,r1,q⟩=>⟨by rw [r1.len]; exact size_small hz.2,fun p hp=>?_⟩)
   exact q _ _ (same_upd hp) (r1.node hz.1 m s1 hp rfl rfl)
  ·cases h
 ·cases h
theorem n_tup {k:Ow} {es:List Expr} {n:Nat} {pos:Pos}:StrictOk X (fun kds=>oTup k (some kds)) es (.Tuple es n pos):=by
 intro kds kd d h σ H Q hA
 dsimp only [oTup] at h
 split at h
 ·split at h
  ·rename_i hz
   cases h
   refine pe_le (pe_tup pa_w) (wA_mono hA fun vs H1 ⟨g,H0,m,s1,r1,q⟩=>⟨by rw [r1.len]; exact size_small hz.2,fun p hp=>?_⟩)
   exact q _ _ (same_upd hp) (r1.tupO hz.1 m s1 hp)
  ·cases h
 ·split at h
  ·rename_i hz
   cases h
   refine pe_le (pe_tup pa_w) (wA_mono hA fun vs H1 ⟨g,H0,m,s1,r1,q⟩=>⟨by rw [r1.len]; exact size_small hz.2,fun p hp=>?_⟩)
   exact q _ _ (same_upd hp) ((vTup (m.same s1) hp (r1.sh hz.1 m s1)).older s1)
  ·cases h
theorem s_io (O:CxOk X Γ c) {x:Str} {φ:Fm} {e:Expr} {es:List Expr} {p pos:Pos} {fa:Ro->Option (List RA × Ro)} (hφ:Γ.fm x = some fun K=>spM K φ) (hg:glB c.sc x = true) (n1:noStar e = true) (n2:es.all noStar = true) (ha:SndRA X fa (e :: es)) :
  SndM X (fun ρ=>oIo (some φ) (fa ρ)) (.Call (.Name x p) (e :: es) [] pos):=by
 intro ρ kd d ρ' h g σ H Q se q
 obtain ⟨n,fa',fd,ps,F,hr,hm,hk,hb,hdb⟩:=O.tab.fm x _ hφ
 dsimp only at h
 cases hf:fa ρ with
 | none=>rw [hf] at h; cases h
 | some pr=>
  obtain ⟨ras,ρ1⟩:=pr
  rw [hf] at h
  refine pe_le (pe_call (E:=E0) F hr (gl_of O hg) hm hk hb .nil pass0 pa_w hdb (star_of n1) (back_any n2)) (ha ρ ras ρ1 hf g σ H _ se fun vs g1 H1 Fv ev se1 r1=>?_)
  rw [List.append_nil]
  exact io_post h ev se1 r1 q
noncomputable def oMov (i:Nat) (ρ:Ro):MR:=match ρ[i]? with
 | some (some ⟨false,k,d⟩)=>if isFz k = true then some (.sh,d,ρ) else some (.fr k,d,ρ.set i none)
 | _=>none
noncomputable def oFrz (i:Nat) (ρ:Ro):MR:=match ρ[i]? with
 | some (some ⟨false,k,d⟩)=>some (.sh,d,ρ.set i (some ⟨false,.fz,d⟩))
 | _=>none
open Classical in
noncomputable def Gh.off (g:Gh) (i:Nat):Gh:=fun b=>if g b = some (some i) then none else g b
theorem off_S {g:Gh} {i:Nat} {b:Addr} (h:Sg (g.off i) b):Sg g b/\g b ≠ some (some i):=by
 by_cases n:g b = some (some i)
 ·exact absurd (by unfold Gh.off; rw [if_pos n]) h
 ·refine ⟨fun z=>h ?_,n⟩
  unfold Gh.off
  rw [if_neg n]
  exact z
theorem off_eq {g:Gh} {i:Nat} {b:Addr} (h:g b ≠ some (some i)):g.off i b = g b:=by unfold Gh.off; rw [if_neg h]
theorem off_at {g:Gh} {i:Nat} {b:Addr} (h:g b = some (some i)):g.off i b = none:=by unfold Gh.off; rw [if_pos h]
theorem off_some {g:Gh} {i:Nat} {b:Addr} {x:Option Nat} (h:g.off i b = some x):g b = some x/\x ≠ some i:=by
 unfold Gh.off at h
 split at h
 ·cases h
 ·rename_i n; exact ⟨h,fun z=>n (by rw [h,z])⟩
theorem evo_off {g:Gh} {H:Hp} {i:Nat} {F:Pr} (hF:∀ b,F b->g b = some (some i)):Evo g H (g.off i) H F:=by
 refine ⟨fun _ _ _ e=>e,fun b=>⟨fun e=>?_,fun e=>(off_some e).1⟩,fun b j e=>.inl ⟨j,(off_some e).1⟩,fun b z=>⟨off_at (hF b z),.inl ⟨i,hF b z⟩⟩,fun _ o e=>⟨o,e⟩⟩
 rw [off_eq (by rw [e]; simp)]; exact e
theorem se_off {K:PySem.W.Frag} {g:Gh} {H:Hp} {i:Nat} {F:Pr} {ρ ρ':Ro} {σ:L2.St} (se:SE K g ρ σ H) (hF:∀ b,F b->g b = some (some i)) (hl:ρ'.length = ρ.length) (hs:∀ (j:Nat) sl,ρ'[j]? = some (some sl)->(j ≠ i/\ρ[j]? = some (some sl))\/(∃ v,σ[j]? = some (some v)/\sl.k = .fz/\Rp K H (Sg ((g.off i).plus F)) sl.d v)):SE K ((g.off i).plus F) ρ' σ H:=by
 have sub:∀ b,Sg ((g.off i).plus F) b->Sg g b:=fun b z=>((plus_S b).mp z).elim (fun z=>(off_S z).1) fun z=>by rw [Sg,hF b z]; simp
 refine ⟨fun j sl e=>?_,fun b z=>se.mu b (sub b z),by rw [hl]; exact se.len⟩
 rcases hs j sl e with ⟨hj,e1⟩ | ⟨v,e1,e2,e3⟩
 ·obtain ⟨v,F0,q1,q2,q3⟩:=se.slot j sl e1
  refine ⟨v,F0,q1,fun b z=>?_,q3.go (fun _ _ _ e=>e) fun b o _ n z=>n (sub b z)⟩
  have q4:=q2 b z
  refine sl_plus ?_ fun z2=>by rw [hF b z2] at q4; cases q4; exact hj rfl
  rw [off_eq (by rw [q4]; intro z; cases z; exact hj rfl)]; exact q4
 ·obtain ⟨lk,k,d⟩:=sl
  have e2:k = .fz:=e2
  subst e2
  exact ⟨v,fun _=>False,e1,fun b z=>z.elim,.fz e3⟩
theorem name_at (O:CxOk X Γ c) {x:Str} {i:Nat} (hc:cVar c x = some i) (pos:Pos) {σ:L2.St} {H:Hp} {v:V} {Q:VK} (e:σ[i]? = some (some v)) (q:Q v H):wE X (.Name x pos) σ H Q:=by
 unfold cVar at hc
 split at hc
 ·rename_i j hj
  split at hc
  ·rename_i hv
   cases hc
   simp only [Bool.and_eq_true,nameOk,Bool.not_eq_true'] at hv
   exact pe_le (pe_var (i:=i) (by rw [O.N]; exact ixOf_get hj) (by rw [O.sc]; exact visB_ok hv.1) hv.2.1 hv.2.2) ⟨v,e,q⟩
  ·cases hc
 ·cases hc
theorem s_mov (O:CxOk X Γ c) {x:Str} {i:Nat} (hc:cVar c x = some i) (pos:Pos):SndM X (oMov i) (.Name x pos):=by
 intro ρ kd d ρ' h g σ H Q se q
 unfold oMov at h
 split at h
 ·rename_i k d' e
  obtain ⟨v,F0,e1,e2,e3⟩:=se.slot i _ e
  split at h
  ·rename_i hk
   cases h
   have hk':=isFz_eq hk
   subst hk'
   refine name_at O hc pos e1 (q v g H (fun _=>False) (.refl g H) (by rw [plus_no fun _ z=>z]; exact se) ⟨fun _ z=>z,?_⟩)
   exact e3.fz_inv.2.weak fun b z=>z.elim id fun z=>z.elim
  ·cases h
   refine name_at O hc pos e1 (q v (g.off i) H F0 (evo_off e2) (se_off se e2 (by simp) fun j sl e4=>?_) ?_)
   ·by_cases hj:j = i
    ·subst hj
     have hlt:j < ρ.length:=by
      have:=(List.getElem?_eq_some_iff.mp e4).1
      simpa using this
     rw [List.getElem?_set_self hlt] at e4
     cases e4
    ·rw [List.getElem?_set_ne (Ne.symm hj)] at e4
     exact .inl ⟨hj,e4⟩
   ·show Tr _ _ _ _ _ _ _
    exact e3.go (fun _ _ _ e=>e) fun b o _ n z=>n (z.elim (fun z=>(off_S z).1) fun z=>by rw [Sg,e2 b z]; simp)
 ·cases h
theorem s_frz (O:CxOk X Γ c) {x:Str} {i:Nat} (hc:cVar c x = some i) (pos:Pos):SndM X (oFrz i) (.Name x pos):=by
 intro ρ kd d ρ' h g σ H Q se q
 unfold oFrz at h
 split at h
 ·rename_i k d' e
  cases h
  obtain ⟨v,F0,e1,e2,e3⟩:=se.slot i _ e
  have r:Rp X.K H (Sg ((g.off i).plus fun _=>False)) d v:=e3.rp fun b z=>((plus_S b).mp z).elim (fun z=>⟨(off_S z).1,fun z2=>(off_S z).2 (e2 b z2)⟩) fun z=>z.elim
  refine name_at O hc pos e1 (q v (g.off i) H (fun _=>False) (evo_off fun _ z=>z.elim) (se_off se (fun _ z=>z.elim) (by simp) fun j sl e4=>?_) ⟨fun _ z=>z,?_⟩)
  ·by_cases hj:j = i
   ·subst hj
    have hlt:j < ρ.length:=by
     have:=(List.getElem?_eq_some_iff.mp e4).1
     simpa using this
    rw [List.getElem?_set_self hlt] at e4
    cases e4
    exact .inr ⟨v,e1,rfl,r⟩
   ·rw [List.getElem?_set_ne (Ne.symm hj)] at e4
    exact .inl ⟨hj,e4⟩
  ·exact r.weak fun b z=>(plus_S b).mpr z
 ·cases h
theorem evo_dropN {K:PySem.W.Frag} {g g1:Gh} {H H1:Hp} {F:Pr} {ρ1:Ro} {σ:L2.St} (ev:Evo g H g1 H1 F) (se:SE K (g1.plus F) ρ1 σ H1):Evo g H g1 H1 (fun _=>False)/\SE K g1 ρ1 σ H1:=by
 refine ⟨ev.drop fun _ z=>z.elim,?_⟩
 have:=se.drop (F2:=fun _=>False) (fun _ z=>z.elim) fun b z=>(ev.tmp b z).1
 rw [plus_no fun _ z=>z] at this
 exact this
noncomputable def oIt (g:Option KD->Option (List Nat × List D)) (a:MR):IR:=match a with
 | some (kd,d,ρ1)=>oIp (g (some (imK kd d,d))) ρ1
 | none=>none
theorem oIt_ok {g:Option KD->Option (List Nat × List D)} {a:MR} {bs:List Nat} {ds:List D} {ρ1:Ro} (h:oIt g a = some (bs,ds,ρ1)):∃ kd d,a = some (kd,d,ρ1)/\g (some (imK kd d,d)) = some (bs,ds):=by
 unfold oIt at h
 split at h
 ·rename_i kd d ρ2
  unfold oIp at h
  split at h
  ·rename_i e
   cases h
   exact ⟨kd,d,rfl,e⟩
  ·cases h
 ·cases h
theorem s_imR (O:CxOk X Γ c) {fa:Ro->MR} {tg e:Expr} {p pos:Pos} (hg:glB c.sc "range" = true) (hn:noStar e = true) (ha:SndM X fa e):SndIM X (fun ρ=>oIt (oRng (some (.sh,.int 0))) (fa ρ)) tg (.Call (.Name "range" p) [e] [] pos):=by
 intro ρ bs ds ρ1 h g σ H R se q
 obtain ⟨kd,d,ea,h⟩:=oIt_ok h
 unfold oRng at h
 split at h
 ·rename_i k1 i k2 j e1 e2
  cases e1
  cases e2
  split at h
  ·rename_i hr
   simp only [rangeOk,Bool.and_eq_true,decide_eq_true_eq] at hr
   cases h
   refine pi_le (pi_range1 (gl_of O hg) (O.tab.bl _ (by simp [bltNames])) (pa_cons pe_w pa_nil (star_of hn)) (star_of hn)) (ha ρ _ _ _ ea g σ H _ se fun v g1 H1 F ev se1 vr=>?_)
   obtain rfl:=vr.rd.int
   obtain ⟨ev2,se2⟩:=evo_dropN ev se1
   refine ⟨j,rfl,hr.1.1.2,hr.1.2,q _ .non g1 H1 ev2 se2 ?_ trivial trivial⟩
   unfold rngD
   rw [Int.sub_zero]
   exact it_r 0 _
  ·cases h
 ·cases h
end
end J
namespace J
open PySem PySem.Spec L2
section
variable {K:PySem.W.Frag} {H:Hp} {S:Pr}
theorem TrL.focus:∀ {ds:List D} {es:List Ow} {r:Ow} {xs:List V} {F:Pr} {j:Nat} {d:D},TrL K H S ds es r xs F->ds[j]? = some d->∃ (x:V) (Fj Fr:Pr),xs[j]? = some x/\(∀ b,F b ↔ Fj b\/Fr b)/\(∀ b,Fj b->¬ Fr b)/\Tr K H S d (es.getD j r) x Fj/\
  ∀ (H':Hp) (S':Pr) (d':D) (Fj':Pr),(∀ b o,(¬ S b\/Fr b)->H b = some o->H' b = some o)->(∀ b o,H b = some o->¬ S b->¬ S' b)->Tr K H' S' d' (es.getD j r) x Fj'->(∀ b,Fj' b->¬ Fr b)->TrL K H' S' (ds.set j d') es r xs (fun b=>Fj' b\/Fr b)
 | [],_,_,_,_,_,_,h,e=>by simp at e
 | d0 :: ds,es,r,xs,F,0,d,h,e=>by
  unfold TrL at h
  obtain ⟨y,ys,F1,F2,rfl,hF,dj,h1,h2⟩:=h
  simp at e
  subst e
  refine ⟨y,F1,F2,rfl,hF,dj,by cases es <;> simpa using h1,fun H' S' d' Fj' k1 k2 t dj'=>?_⟩
  show TrL K H' S' (d' :: ds) es r (y :: ys) _
  unfold TrL
  exact ⟨y,ys,Fj',F2,rfl,fun b=>Iff.rfl,dj',by cases es <;> simpa using t,h2.go k1 k2⟩
 | d0 :: ds,es,r,xs,F,j + 1,d,h,e=>by
  unfold TrL at h
  obtain ⟨y,ys,F1,F2,rfl,hF,dj,h1,h2⟩:=h
  obtain ⟨x,Fj,Fr,e1,e2,e3,e4,e5⟩:=TrL.focus h2 (by simpa using e)
  have eg:es.tail.getD j r = es.getD (j + 1) r:=by cases es <;> simp
  rw [eg] at e4
  refine ⟨x,Fj,fun b=>F1 b\/Fr b,by simpa using e1,fun b=>?_,fun b z1 z2=>?_,e4,fun H' S' d' Fj' k1 k2 t dj'=>?_⟩
  ·rw [hF b,e2 b]
   exact ⟨fun z=>z.elim (fun z=>.inr (.inl z)) fun z=>z.imp id .inr,fun z=>z.elim (fun z=>.inr (.inl z)) fun z=>z.imp id .inr⟩
  ·rcases z2 with z2 | z2
   ·exact dj b z2 ((e2 b).mpr (.inl z1))
   ·exact e3 b z1 z2
  ·show TrL K H' S' (d0 :: ds.set j d') es r (y :: ys) _
   unfold TrL
   refine ⟨y,ys,F1,fun b=>Fj' b\/Fr b,rfl,fun b=>⟨fun z=>z.elim (fun z=>.inr (.inl z)) fun z=>z.imp id .inr,fun z=>z.elim (fun z=>.inr (.inl z)) fun z=>z.imp id .inr⟩,fun b z1 z2=>?_,h1.go (fun b o hb e=>k1 b o (hb.imp id .inl) e) k2,e5 H' S' d' Fj' (fun b o hb e=>k1 b o (hb.imp id .inr) e) k2 (by rw [eg]; exact t) fun b z1 z2=>dj' b z1 (.inr z2)⟩
   rcases z2 with z2 | z2
   ·exact dj' b z2 (.inl z1)
   ·exact dj b z1 ((e2 b).mpr (.inr z2))
noncomputable def FP (K:PySem.W.Frag) (H:Hp) (S:Pr) (k:Ow) (v:V) (F:Pr) (k1:Ow) (d1:D) (v1:V) (up:D->D):Prop:=∃ (F1 Fr:Pr),(∀ b,F b ↔ F1 b\/Fr b)/\(∀ b,F1 b->¬ Fr b)/\Tr K H S d1 k1 v1 F1/\
  ∀ (H':Hp) (S':Pr) (d1':D) (F1':Pr),(∀ b o,(¬ S b\/Fr b)->H b = some o->H' b = some o)->(∀ b o,H b = some o->¬ S b->¬ S' b)->Tr K H' S' d1' k1 v1 F1'->(∀ b,F1' b->¬ Fr b)->Tr K H' S' (up d1') k v (fun b=>F1' b\/Fr b)
theorem FP.root {d:D} {k:Ow} {v:V} {F:Pr} (h:Tr K H S d k v F):FP K H S k v F k d v id:=by
 refine ⟨F,fun _=>False,fun b=>⟨.inl,fun z=>z.elim id fun z=>z.elim⟩,fun _ _ z=>z,h,fun H' S' d1' F1' k1 k2 t dj=>?_⟩
 have eF:(fun b=>F1' b\/False) = F1':=by funext b; exact propext ⟨fun z=>z.elim id fun z=>z.elim,.inl⟩
 rw [eF]
 exact t
theorem FP.same {H2:Hp} {k k1:Ow} {v v1:V} {F:Pr} {d1:D} {up:D->D} (h:FP K H S k v F k1 d1 v1 up) (s:Same H H2):FP K H2 S k v F k1 d1 v1 up:=by
 obtain ⟨F1,Fr,h1,h2,h3,h4⟩:=h
 exact ⟨F1,Fr,h1,h2,h3.go (fun b o _ e=>s b o e) fun _ _ _ n=>n,fun H' S' d1' F1' k1 k2 t dj=>h4 H' S' d1' F1' (fun b o hb e=>k1 b o hb (s b o e)) (fun b o e n=>k2 b o (s b o e) n) t dj⟩
theorem FP.step {k:Ow} {es:List Ow} {r:Ow} {v v1:V} {F:Pr} {hd:Hd} {ds:List D} {up:D->D} {j:Nat} {d:D} (h:FP K H S k v F (.own es r) (.nd hd ds) v1 up) (hj:ds[j]? = some d):∃ a o xs x,v1 = .ref a/\H a = some o/\HdOk K o hd xs/\xs.length = ds.length/\xs[j]? = some x/\FP K H S k v F (es.getD j r) d x (fun z=>up (.nd hd (ds.set j z))):=by
 obtain ⟨F1,Fr,h1,h2,h3,h4⟩:=h
 unfold Tr at h3
 obtain ⟨a,o,xs,F',rfl,q1,q2,n1,n2,hF,t⟩:=h3
 obtain ⟨x,Fj,Fq,e1,e2,e3,e4,e5⟩:=t.focus hj
 refine ⟨a,o,xs,x,rfl,q1,q2,t.len,e1,Fj,fun b=>(hd.mu = true/\b = a)\/Fq b\/Fr b,fun b=>?_,fun b z1 z2=>?_,e4,fun H' S' d1' F1' k1 k2 t1 dj'=>?_⟩
 ·rw [h1 b,hF b,e2 b]
  exact ⟨fun z=>z.elim (fun z=>z.elim (fun z=>.inr (.inl z)) fun z=>z.imp id fun z=>.inr (.inl z)) fun z=>.inr (.inr (.inr z)),fun z=>z.elim (fun z=>.inl (.inr (.inl z))) fun z=>z.elim (fun z=>.inl (.inl z)) fun z=>z.elim (fun z=>.inl (.inr (.inr z))) .inr⟩
 ·rcases z2 with ⟨hm,rfl⟩ | z2 | z2
  ·exact n1 hm ((e2 b).mpr (.inl z1))
  ·exact e3 b z1 z2
  ·exact h2 b ((hF b).mpr (.inr ((e2 b).mpr (.inl z1)))) z2
 ·have t3:=e5 H' S' d1' F1' (fun b o hb e=>k1 b o (hb.imp id fun z=>.inr (.inl z)) e) k2 t1 fun b z1 z2=>dj' b z1 (.inr (.inl z2))
  have ha:H' a = some o:=by
   cases hm:hd.mu with
   | true=>exact k1 a o (.inr (.inl ⟨hm,rfl⟩)) q1
   | false=>exact k1 a o (.inl (n2 hm)) q1
  have tn:Tr K H' S' (.nd hd (ds.set j d1')) (.own es r) (.ref a) (fun b=>(hd.mu = true/\b = a)\/(F1' b\/Fq b)):=by
   unfold Tr
   exact ⟨a,o,xs,fun b=>F1' b\/Fq b,rfl,ha,q2,fun hm z=>z.elim (fun z=>dj' a z (.inl ⟨hm,rfl⟩)) fun z=>n1 hm ((e2 a).mpr (.inr z)),fun hm=>k2 a o q1 (n2 hm),fun b=>Iff.rfl,t3⟩
  have t4:=h4 H' S' _ _ (fun b o hb e=>k1 b o (hb.imp id fun z=>.inr (.inr z)) e) k2 tn fun b z1 z2=>by
   rcases z1 with ⟨hm,rfl⟩ | z1 | z1
   ·exact h2 b ((hF b).mpr (.inl ⟨hm,rfl⟩)) z2
   ·exact dj' b z1 (.inr (.inr z2))
   ·exact h2 b ((hF b).mpr (.inr ((e2 b).mpr (.inr z1)))) z2
  have eF:(fun b=>((hd.mu = true/\b = a)\/(F1' b\/Fq b))\/Fr b) = fun b=>F1' b\/((hd.mu = true/\b = a)\/Fq b\/Fr b):=by
   funext b
   exact propext ⟨fun z=>z.elim (fun z=>z.elim (fun z=>.inr (.inl z)) fun z=>z.imp id fun z=>.inr (.inl z)) fun z=>.inr (.inr (.inr z)),fun z=>z.elim (fun z=>.inl (.inr (.inl z))) fun z=>z.elim (fun z=>.inl (.inl z)) fun z=>z.elim (fun z=>.inl (.inr (.inr z))) .inr⟩
  rw [eF] at t4
  exact t4
end
noncomputable def posOf (hd:Hd) (n:Nat) (x:D):Option Nat:=match hd with
 | .lst=>(match x with | .int z=>ixN n z | _=>none)
 | .tup=>(match x with | .int z=>ixN n z | _=>none)
 | .dic t ks=>(match toDK x with | some k=>if fitK t k = true then findK ks k else none | none=>none)
 | .obj _ _=>none
noncomputable def stepP (p:Option (Ow × D × (D->D))) (x:Option KD):Option (Ow × D × (D->D)):=match p,x with
 | some (.own es r,.nd hd ds,up),some (_,dx)=>(match posOf hd ds.length dx with
  | some j=>(match ds[j]? with | some d=>some (es.getD j r,d,fun z=>up (.nd hd (ds.set j z))) | none=>none)
  | none=>none)
 | _,_=>none
noncomputable def rootP (o:Option (Option Sl)):Option (Ow × D × (D->D)):=match o with
 | some (some ⟨false,k,d⟩)=>some (k,d,id)
 | _=>none
noncomputable def SndP (X:Cx) (i:Nat) (f:Ro->Option (Ow × D × (D->D))) (e:Expr):Prop:=∀ ρ k1 d1 up,f ρ = some (k1,d1,up)->∀ g σ H Q,SE X.K g ρ σ H->
 (∀ v1 H' v F k d,Same H H'->ρ[i]? = some (some ⟨false,k,d⟩)->σ[i]? = some (some v)->(∀ b,F b->g b = some (some i))->FP X.K H' (Sg g) k v F k1 d1 v1 up->Q v1 H')->wE X e σ H Q
section
variable {X:Cx} {Γ:Tab} {c:Cz}
theorem p_root (O:CxOk X Γ c) {x:Str} {i:Nat} (hc:cVar c x = some i) (pos:Pos):SndP X i (fun ρ=>rootP ρ[i]?) (.Name x pos):=by
 intro ρ k1 d1 up h g σ H Q se q
 dsimp only [rootP] at h
 split at h
 ·rename_i k d e
  cases h
  obtain ⟨v,F,e1,e2,e3⟩:=se.slot i _ e
  exact name_at O hc pos e1 (q v H v F k1 d1 (Same.refl H) e e1 e2 (.root e3))
 ·cases h
theorem p_step (O:CxOk X Γ c) {i:Nat} {fp:Ro->Option (Ow × D × (D->D))} {fb:Ro->Option KD} {a b:Expr} {pos:Pos} (ha:SndP X i fp a) (hb:SndE X fb b) (hp:plainIx b = true):SndP X i (fun ρ=>stepP (fp ρ) (fb ρ)) (.Subscript a b pos):=by
 intro ρ k1 d1 up h g σ H Q se q
 dsimp only [stepP] at h
 split at h
 ·rename_i es r hd ds up0 kx dx ep ex
  split at h
  ·rename_i j hj
   split at h
   ·rename_i dj ej
    cases h
    cases hd with
    | lst=>
     refine pe_le (pe_ix ix_seq pe_w pe_w (plainIx_ok hp)) (ha ρ _ _ _ ep g σ H _ se fun v1 H1 v F k d s1 e1 e2 e3 fp1=>hb ρ _ _ ex g σ H1 _ (se.same s1) fun y H2 s2 r2=>?_)
     cases dx with
     | int z=>
      obtain rfl:=r2.rd.int
      obtain ⟨a',o,xs,x,rfl,q1,q2,l,ex',fp2⟩:=(fp1.same s2).step ej
      cases (show o = _ from q2)
      exact .inl ⟨a',xs,z,x,rfl,rfl,.of q1,by unfold L2.atI; rw [l,(show ixN ds.length z = some j from hj)]; exact ex',q x H2 v F k d (s1.trans s2) e1 e2 e3 fp2⟩
     | _=>cases hj
    | tup=>
     refine pe_le (pe_ix ix_seq pe_w pe_w (plainIx_ok hp)) (ha ρ _ _ _ ep g σ H _ se fun v1 H1 v F k d s1 e1 e2 e3 fp1=>hb ρ _ _ ex g σ H1 _ (se.same s1) fun y H2 s2 r2=>?_)
     cases dx with
     | int z=>
      obtain rfl:=r2.rd.int
      obtain ⟨a',o,xs,x,rfl,q1,q2,l,ex',fp2⟩:=(fp1.same s2).step ej
      cases (show o = _ from q2)
      exact .inr (.inl ⟨a',xs,z,x,rfl,rfl,.of q1,by unfold L2.atI; rw [l,(show ixN ds.length z = some j from hj)]; exact ex',q x H2 v F k d (s1.trans s2) e1 e2 e3 fp2⟩)
     | _=>cases hj
    | dic t ks=>
     simp only [posOf] at hj
     split at hj
     ·rename_i kk hk
      split at hj
      ·rename_i hf
       refine pe_le (pe_dget (by have:=O.tab.units; omega) pe_w pe_w (plainIx_ok hp)) (ha ρ _ _ _ ep g σ H _ se fun v1 H1 v F k d s1 e1 e2 e3 fp1=>hb ρ _ _ ex g σ H1 _ (se.same s1) fun y H2 s2 r2=>?_)
       obtain ⟨a',o,xs,x,rfl,q1,q2,l,ex',fp2⟩:=(fp1.same s2).step ej
       have dg:=dget_of q1 q2 hk r2.rd hf
       rw [hj,Option.bind_some,ex'] at dg
       exact ⟨a',x,rfl,dg,q x H2 v F k d (s1.trans s2) e1 e2 e3 fp2⟩
      ·cases hj
     ·cases hj
    | obj c ns=>cases hj
   ·cases h
  ·cases h
 ·cases h
end
open Classical in
noncomputable def Gh.give (g:Gh) (F:Pr) (i:Nat):Gh:=fun b=>if F b then some (some i) else g b
section
variable {K:PySem.W.Frag} {H:Hp} {g:Gh} {F:Pr} {ρ:Ro} {σ:L2.St}
theorem give_at {F2:Pr} {i:Nat} {b:Addr} (h:F2 b):g.give F2 i b = some (some i):=by unfold Gh.give; rw [if_pos h]
theorem give_ne {F2:Pr} {i:Nat} {b:Addr} (h:¬ F2 b):g.give F2 i b = g b:=by unfold Gh.give; rw [if_neg h]
theorem give_S {F2:Pr} {i:Nat} {b:Addr}:Sg (g.give F2 i) b ↔ Sg g b\/F2 b:=by
 by_cases h:F2 b
 ·exact ⟨fun _=>.inr h,fun _=>by rw [Sg,give_at h]; simp⟩
 ·exact ⟨fun z=>.inl (by rw [Sg,give_ne h] at z; exact z),fun z=>z.elim (fun z=>by rw [Sg,give_ne h]; exact z) fun z=>absurd z h⟩
structure NodeAt (K:PySem.W.Frag) (H:Hp) (g:Gh) (F:Pr) (ρ:Ro) (σ:L2.St) (i:Nat) (k:Ow) (es:List Ow) (r:Ow) (hd:Hd) (ds:List D) (up:D->D) (a:Addr) (o:HO) (xs:List V) (F':Pr):Prop where
 at_:H a = some o
 ok:HdOk K o hd xs
 kids:TrL K H (Sg (g.plus F)) ds es r xs F'
 lab:∀ b,F' b->g b = some (some i)
 nin:¬ F' a
 own:g a = some (some i)
 put:∀ (o':HO) (hd':Hd) (ds':List D) (xs':List V) (F2 F3:Pr),hd'.mu = true->HdOk K o' hd' xs'->(∀ xs,o' ≠ .tup xs)->(∀ b,F2 b->F b)->(∀ b,F3 b->F' b\/F2 b)->TrL K H (Sg (g.give F2 i)) ds' es r xs' F3->
  SE K (g.give F2 i) (ρ.set i (some ⟨false,k,up (.nd hd' ds')⟩)) σ (upd H a o')
theorem FP.node {i:Nat} {k:Ow} {d:D} {v v1:V} {Fi:Pr} {es:List Ow} {r:Ow} {hd:Hd} {ds:List D} {up:D->D} (se:SE K (g.plus F) ρ σ H) (hg:∀ b,F b->g b = none) (e:ρ[i]? = some (some ⟨false,k,d⟩)) (hv:σ[i]? = some (some v)) (lb:∀ b,Fi b->(g.plus F) b = some (some i))
  (fp:FP K H (Sg (g.plus F)) k v Fi (.own es r) (.nd hd ds) v1 up) (hm:hd.mu = true):∃ a o xs F',v1 = .ref a/\NodeAt K H g F ρ σ i k es r hd ds up a o xs F':=by
 obtain ⟨F1,Fr,h1,h2,h3,h4⟩:=fp
 unfold Tr at h3
 obtain ⟨a,o,xs,F',rfl,q1,q2,n1,n2,hF,t⟩:=h3
 have gl:∀ b,Fi b->g b = some (some i):=fun b z=>plus_sl (lb b z)
 have ga:g a = some (some i):=gl a ((h1 a).mpr (.inl ((hF a).mpr (.inl ⟨hm,rfl⟩))))
 have gF:∀ b,F' b->g b = some (some i):=fun b z=>gl b ((h1 b).mpr (.inl ((hF b).mpr (.inr z))))
 refine ⟨a,o,xs,F',rfl,q1,q2,t,gF,n1 hm,ga,fun o' hd' ds' xs' F2 F3 hm' ok' nt s2 s3 t'=>?_⟩
 have sub:∀ b,Sg (g.give F2 i) b->Sg (g.plus F) b:=fun b z=>(plus_S b).mpr ((give_S.mp z).imp id (s2 b))
 have kb:∀ b o2,b ≠ a->H b = some o2->upd H a o' b = some o2:=fun b o2 n e=>by rw [upd_ne n]; exact e
 have nF2:∀ b,F2 b->g b = none:=fun b z=>hg b (s2 b z)
 have nF3a:¬ F3 a:=fun z=>(s3 a z).elim (n1 hm) fun z=>by rw [nF2 a z] at ga; cases ga
 refine ⟨fun j sl ej=>?_,fun b z=>?_,by simp [se.len]⟩
 ·by_cases hj:j = i
  ·subst hj
   have hlt:j < ρ.length:=by
    have:=(List.getElem?_eq_some_iff.mp ej).1
    simpa using this
   rw [List.getElem?_set_self hlt] at ej
   cases ej
   have tn:Tr K (upd H a o') (Sg (g.give F2 j)) (.nd hd' ds') (.own es r) (.ref a) (fun b=>b = a\/F3 b):=by
    unfold Tr
    refine ⟨a,o',xs',F3,rfl,upd_same,ok',fun _=>nF3a,fun h=>by (rw [hm'] at h; cases h),fun b=>⟨fun z=>z.imp (fun z=>⟨hm',z⟩) id,fun z=>z.imp (fun z=>z.2) id⟩,t'.go (fun b o2 hb e=>kb b o2 (fun z=>?_) e) fun _ _ _ n=>n⟩
    subst z
    rcases hb with hb | hb
    ·exact hb (give_S.mpr (.inl (by rw [Sg,ga]; simp)))
    ·exact nF3a hb
   refine ⟨v,_,hv,fun b z=>?_,h4 (upd H a o') (Sg (g.give F2 j)) _ _ (fun b o2 hb e=>kb b o2 (fun z=>?_) e) (fun b o2 _ n z=>n (sub b z)) tn fun b z1 z2=>?_⟩
   ·rcases z with (rfl | z) | z
    ·rw [give_ne (fun z=>by rw [nF2 b z] at ga; cases ga)]; exact ga
    ·by_cases z2:F2 b
     ·exact give_at z2
     ·rw [give_ne z2]
      exact (s3 b z).elim (gF b) fun z=>absurd z z2
    ·have:=gl b ((h1 b).mpr (.inr z))
     rw [give_ne (fun z=>by rw [nF2 b z] at this; cases this)]; exact this
   ·subst z
    rcases hb with hb | hb
    ·exact hb ((plus_S b).mpr (.inl (by rw [Sg,ga]; simp)))
    ·exact h2 b ((hF b).mpr (.inl ⟨hm,rfl⟩)) hb
   ·rcases z1 with rfl | z1
    ·exact h2 b ((hF b).mpr (.inl ⟨hm,rfl⟩)) z2
    ·rcases s3 b z1 with z | z
     ·exact h2 b ((hF b).mpr (.inr z)) z2
     ·have:=gl b ((h1 b).mpr (.inr z2))
      rw [nF2 b z] at this; cases this
  ·rw [List.getElem?_set_ne (Ne.symm hj)] at ej
   obtain ⟨w,Fj,e1,e2,e3⟩:=se.slot j sl ej
   have gj:∀ b,Fj b->g b = some (some j):=fun b z=>plus_sl (e2 b z)
   refine ⟨w,Fj,e1,fun b z=>?_,e3.go (fun b o2 hb e=>kb b o2 (fun z=>?_) e) fun b o2 _ n z=>n (sub b z)⟩
   ·have:=gj b z
    rw [give_ne (fun z=>by rw [nF2 b z] at this; cases this)]; exact this
   ·subst z
    rcases hb with hb | hb
    ·exact hb ((plus_S b).mpr (.inl (by rw [Sg,ga]; simp)))
    ·rw [gj b hb] at ga
     cases ga
     exact hj rfl
 ·by_cases hb:b = a
  ·exact ⟨o',by rw [hb]; exact upd_same,nt⟩
  ·obtain ⟨o2,e2,n⟩:=se.mu b (sub b z)
   exact ⟨o2,kb b o2 hb e2,n⟩
theorem Evo.give {g0:Gh} {H0:Hp} {i:Nat} {F2:Pr} {a:Addr} {o':HO} (ev:Evo g0 H0 g H F) (s2:∀ b,F2 b->F b) (ga:g a = some (some i)):Evo g0 H0 (g.give F2 i) (L2.upd H a o') (fun _=>False):=by
 have nF2:∀ b,F2 b->g b = none:=fun b z=>(ev.tmp b (s2 b z)).1
 refine ⟨fun b o n e=>?_,fun b=>⟨fun e=>?_,fun e=>?_⟩,fun b j e=>?_,fun _ z=>z.elim,fun b o e=>?_⟩
 ·rw [upd_ne (fun z=>?_)]
  ·exact ev.keep b o n e
  ·subst z
   rcases ev.new b i ga with ⟨j,q⟩ | q
   ·exact n j q
   ·rw [e] at q; cases q
 ·have:=(ev.out b).mp e
  rw [give_ne (fun z=>by rw [nF2 b z] at this; cases this)]; exact this
 ·by_cases z:F2 b
  ·rw [give_at z] at e; cases e
  ·rw [give_ne z] at e; exact (ev.out b).mpr e
 ·by_cases z:F2 b
  ·exact (ev.tmp b (s2 b z)).2
  ·rw [give_ne z] at e; exact ev.new b j e
 ·by_cases hb:b = a
  ·exact ⟨o',by rw [hb]; exact upd_same⟩
  ·obtain ⟨o2,q⟩:=ev.dom b o e
   exact ⟨o2,by rw [upd_ne hb]; exact q⟩
end
end J
namespace L2
open PySem PySem.Spec PyProof.Rows
section
variable {X:Cx}
noncomputable def rInsert:V->List V->Hp->VK->Prop:=fun x vs H Q=>∃ l xs i y,x = .ref l/\vs = [.int i,y]/\H l = some (.lst xs)/\0<=i/\i<=100000/\xs.length < sizeLine/\Q .non (upd H l (.lst (xs.take i.toNat ++ y :: xs.drop i.toNat)))
theorem mt_insert:MtM X "list.insert" rInsert:=by
 intro pins s σ H x vs v us Q I rx rv h
 obtain ⟨l,xs,i,y,rfl,rfl,hH,h0,h1,hz,q⟩:=h
 cases rx
 obtain ⟨u1,u2,rfl,⟨t,rfl⟩,ru⟩:=rv.two
 obtain ⟨z,its,n,r,hl,e⟩:=I.lstM hH
 have hfit:¬ (!Builtin.List.listFitsIndex i) = true:=by
  have:Builtin.List.listFitsIndex i = true:=by
   unfold Builtin.List.listFitsIndex
   simp only [Bool.and_eq_true,decide_eq_true_eq]
   omega
  rw [this]; decide
 refine call_meets F.slot_list_insert ⟨_,e,rfl⟩ F.entry_list_insert (F.args_list_insert_3 _ _ _) (AutoSeq1.list_insert_list_int_val_1 l its.toArray n i t u2 hfit (by rw [List.size_toArray]; omega)) ⟨e,?_⟩
 refine ⟨.non,_,I.lset (its':=its.take i.toNat ++ u2 :: its.drop i.toNat) hH e ?_ ((r.take _).append (.cons ru (r.drop _))) ?_,rfl,q⟩
 ·show ((its.toArray.extract 0 (if i < 0 then (i + (its.toArray.size:Int)).toNat else min i.toNat its.toArray.size)).push u2 ++ its.toArray.extract (if i < 0 then (i + (its.toArray.size:Int)).toNat else min i.toNat its.toArray.size)) = _
  rw [if_neg (by omega)]
  have e1:its.take (min i.toNat its.toArray.size) = its.take i.toNat:=by rw [List.size_toArray,<- List.take_take,List.take_length]
  have e2:its.drop (min i.toNat its.toArray.size) = its.drop i.toNat:=by
   rw [List.size_toArray]
   by_cases h:i.toNat<=its.length
   ·rw [Nat.min_eq_left h]
   ·rw [Nat.min_eq_right (by omega),List.drop_length,List.drop_eq_nil_of_le (by omega)]
  rw [<- e1,<- e2]
  generalize min i.toNat its.toArray.size = k
  apply Array.ext'
  simp [List.extract_eq_take_drop]
  exact List.take_of_length_le (by simp)
 ·rw [List.length_append,List.length_cons,List.length_take,List.length_drop]
  omega
end
end L2
namespace J
open PySem PySem.Spec L2
noncomputable def mutD (m:Str) (es:List Ow) (r:Ow) (ds:List D) (as:List KD):Option (D × List D):=
 if m = "append" then (match as with | [x]=>if es.length<=ds.length/\fit1 r x = true/\ds.length < 100000 then some (.non,ds ++ [x.2]) else none | _=>none)
 else if m = "extend" then (match as with | [(k,.nd .lst ys)]=>if flatK (.own es r) = true/\okE k ys = true/\isBo k = false/\ds.length + ys.length<=100000 then some (.non,ds ++ ys) else none | _=>none)
 else if m = "clear" then (match as with | []=>some (.non,[]) | _=>none)
 else if m = "pop" then (match as with
  | []=>if flatK (.own es r) = true then (ds[ds.length - 1]?).map fun d=>(d,ds.dropLast) else none
  | [(_,.int z)]=>if flatK (.own es r) = true/\-(2 ^ 63)<=z/\z < 2 ^ 63 then (match seqIndex? z ds.length with | some j=>(ds[j]?).map fun d=>(d,ds.eraseIdx j) | none=>none) else none
  | _=>none)
 else if m = "reverse" then (match as with | []=>if flatK (.own es r) = true then some (.non,ds.reverse) else none | _=>none)
 else if m = "insert" then (match as with
  | [(_,.int z),(k,d)]=>if flatK (.own es r) = true/\okS k d = true/\0<=z/\z<=100000/\ds.length < 100000 then some (.non,ds.take z.toNat ++ d :: ds.drop z.toNat) else none
  | _=>none)
 else none
noncomputable def rMut (m:Str):V->List V->Hp->VK->Prop:=
 if m = "append" then rAppend else if m = "extend" then rExtend else if m = "clear" then rClear else if m = "pop" then (fun x vs H Q=>rPop x vs H Q\/rPopAt x vs H Q) else if m = "reverse" then rReverse else if m = "insert" then rInsert else fun _ _ _ _=>False
section
variable {K:PySem.W.Frag} {H:Hp} {g g0:Gh} {H0:Hp} {F F':Pr} {ρ:Ro} {σ:L2.St} {i:Nat} {k:Ow} {es:List Ow} {r:Ow} {ds:List D} {up:D->D} {a:Addr} {o:HO} {xs:List V}
theorem give_no:g.give (fun _=>False) i = g:=by funext b; exact give_ne fun z=>z
theorem TrL.snoc2 {S:Pr}:∀ {ds:List D} {es:List Ow} {r:Ow} {us:List V} {F F2:Pr} {d:D} {v:V},es.length<=ds.length->TrL K H S ds es r us F->Tr K H S d r v F2->(∀ b,F b->¬ F2 b)->TrL K H S (ds ++ [d]) es r (us ++ [v]) (fun b=>F b\/F2 b)
 | [],es,r,us,F,F2,d,v,hl,h,t,dj=>by
  have:es = []:=List.length_eq_zero_iff.mp (Nat.le_zero.mp hl)
  subst this
  exact TrL.snoc h t dj
 | e :: ds,es,r,us,F,F2,d,v,hl,h,t,dj=>by
  unfold TrL at h
  obtain ⟨y,ys,F1,F3,rfl,hF,dj1,h1,h2⟩:=h
  show TrL K H S (e :: (ds ++ [d])) es r (y :: (ys ++ [v])) _
  unfold TrL
  refine ⟨y,ys ++ [v],F1,fun b=>F3 b\/F2 b,rfl,fun b=>?_,fun b z1 z2=>?_,h1,TrL.snoc2 (by cases es <;> simp at hl ⊢; omega) h2 t fun b z=>dj b ((hF b).mpr (.inr z))⟩
  ·show F b\/F2 b ↔ F1 b\/F3 b\/F2 b
   rw [hF b,or_assoc]
  ·rcases z2 with z2 | z2
   ·exact dj1 b z1 z2
   ·exact dj b ((hF b).mpr (.inl z1)) z2
theorem TrL.ofFlat {S:Pr}:∀ {ds:List D} {es:List Ow} {xs:List V},(∀ e ∈ es,e = .fz)->RpL K H S ds xs->TrL K H S ds es .fz xs fun _=>False
 | [],_,_,_,h=>by unfold TrL; exact ⟨h.nil_inv,fun _ z=>z⟩
 | d :: ds,es,_,he,h=>by
  obtain ⟨y,ys,rfl,r,t⟩:=h.cons_inv
  unfold TrL
  refine ⟨y,ys,_,_,rfl,fun b=>⟨.inl,fun z=>z.elim id id⟩,fun _ z=>z.elim,?_,TrL.ofFlat (fun e q=>he e (by cases es with | nil=>cases q | cons a r=>exact .tail _ q)) t⟩
  have e:es.headD .fz = .fz:=by
   cases es with
   | nil=>rfl
   | cons a r=>exact he a (.head _)
  rw [e]
  exact Tr.fz r
theorem mut_core {m:Str} {as:List KD} {vs:List V} {d':D} {ds':List D} {Q:VK} (h:mutD m es r ds as = some (d',ds')) (nd:NodeAt K H g F ρ σ i k es r .lst ds up a o xs F') (ev:Evo g0 H0 g H F) (se:SE K (g.plus F) ρ σ H) (ra:VRL K H g F as vs F)
  (q:∀ v g' H' Fv,Evo g0 H0 g' H' Fv->SE K (g'.plus Fv) (ρ.set i (some ⟨false,k,up (.lst ds')⟩)) σ H'->VR1 K H' g' Fv .sh d' v Fv->Q v H'):rMut m (.ref a) vs H Q:=by
 have ho:o = .lst xs:=nd.ok
 subst ho
 have hF:∀ b,F b->g b = none:=fun b z=>(ev.tmp b z).1
 have mm:MuOk H (Sx g F):=fun b z=>se.mu b ((plus_S b).mpr z)
 have sx:∀ b,Sg (g.plus F) b ↔ Sx g F b:=fun b=>plus_S b
 -- behind the change
 have fin:∀ {xs':List V} {F2 F3:Pr} {v:V},(∀ b,F2 b->F b)->(∀ b,F3 b->F' b\/F2 b)->TrL K H (Sg (g.give F2 i)) ds' es r xs' F3->Rp K (upd H a (.lst xs')) (Sg (g.give F2 i)) d' v->Q v (upd H a (.lst xs')):=fun {xs' F2 F3 v} s2 s3 t rv=>by
  refine q v (g.give F2 i) _ (fun _=>False) (ev.give s2 nd.own) ?_ ⟨fun _ z=>z,rv.weak fun b z=>z.elim id fun z=>z.elim⟩
  rw [plus_no fun _ z=>z]
  exact nd.put (.lst xs') .lst ds' xs' F2 F3 rfl rfl (fun _ h=>by cases h) s2 s3 t
 have old:∀ {F2:Pr},(∀ b,F2 b->F b)->∀ b o,H b = some o->¬ Sg (g.plus F) b->¬ Sg (g.give F2 i) b:=fun s2 b o _ n z=>n ((plus_S b).mpr ((give_S.mp z).imp id (s2 b)))
 have flat:flatK (.own es r) = true->(∀ e ∈ es,e = .fz)/\r = .fz/\RpL K H (Sg g) ds xs:=fun hf=>by
  obtain ⟨he,hr⟩:=flat_fz hf
  refine ⟨he,hr,?_⟩
  have:=nd.kids
  rw [hr] at this
  exact (this.flat he).2.weak fun b z=>(plus_S b).mpr (.inl z)
 have rpU:∀ {d:D} {v:V} {xs':List V},Rp K H (Sg g) d v->Rp K (upd H a (.lst xs')) (Sg g) d v:=fun r=>r.go fun b o n e=>⟨by rw [upd_ne (fun z=>n (by rw [z,Sg,nd.own]; simp))]; exact e,n⟩
 unfold mutD at h
 unfold rMut
 split at h
 ·rename_i hm
  rw [if_pos hm]
  split at h
  ·rename_i x
   split at h
   ·rename_i hc
    cases h
    obtain ⟨y,ys,F1,F2',rfl,hF1,dj,r1,rfl,hn⟩:=ra
    have e1:∀ b,F b ↔ F1 b:=fun b=>⟨fun z=>((hF1 b).mp z).elim id fun z=>absurd z (hn b),fun z=>(hF1 b).mpr (.inl z)⟩
    obtain ⟨F2,a1,a2⟩:=VR1.fit hc.2.1 mm (fun b z=>hF b ((e1 b).mpr z)) (fun b z=>(e1 b).mpr z) r1
    refine ⟨a,xs,y,rfl,rfl,nd.at_,by rw [nd.kids.len]; exact Nat.lt_of_lt_of_le hc.2.2 (size_small (Nat.le_refl _)),?_⟩
    refine fin (F2:=F2) (F3:=fun b=>F' b\/F2 b) (fun b z=>(e1 b).mpr (a1 b z)) (fun b z=>z) (TrL.snoc2 hc.1 (nd.kids.go (fun _ _ _ e=>e) (old fun b z=>(e1 b).mpr (a1 b z))) (a2 _ fun b z=>?_) fun b z1 z2=>?_) (by unfold Rp; rfl)
    ·rcases give_S.mp z with z | z
     ·exact .inr (.inl z)
     ·exact .inr (.inr (.inl z))
    ·have:=nd.lab b z1
     rw [hF b ((e1 b).mpr (a1 b z2))] at this; cases this
   ·cases h
  ·cases h
 ·rename_i hm
  rw [if_neg hm]
  split at h
  ·rename_i hm2
   rw [if_pos hm2]
   split at h
   ·rename_i kk ys
    split at h
    ·rename_i hc
     cases h
     obtain ⟨he,hr,rl⟩:=flat hc.1
     subst hr
     obtain ⟨v,rfl,rv⟩:=ra.off.one
     obtain ⟨b,o,zs,rfl,gb,qb,rb⟩:=rv.items hc.2.1 (off_mu se hF) off_same
     cases (show o = _ from qb)
     refine ⟨a,b,xs,zs,rfl,rfl,nd.at_,gb,by rw [rl.len,rb.len]; exact size_small hc.2.2.2,?_⟩
     exact fin (F2:=fun _=>False) (F3:=fun _=>False) (fun _ z=>z.elim) (fun _ z=>z.elim) (by rw [give_no]; exact .ofFlat he (rl.append rb)) (by unfold Rp; rfl)
    ·cases h
   ·cases h
  ·rename_i hm2
   rw [if_neg hm2]
   split at h
   ·rename_i hm3
    rw [if_pos hm3]
    split at h
    ·cases h
     obtain ⟨rfl,_⟩:=ra
     refine ⟨a,xs,rfl,rfl,nd.at_,?_⟩
     exact fin (F2:=fun _=>False) (F3:=fun _=>False) (fun _ z=>z.elim) (fun _ z=>z.elim) (by unfold TrL; exact ⟨rfl,fun _ z=>z⟩) (by unfold Rp; rfl)
    ·cases h
   ·rename_i hm3
    rw [if_neg hm3]
    split at h
    ·rename_i hm4
     rw [if_pos hm4]
     split at h
     ·split at h
      ·rename_i hf
       obtain ⟨he,hr,rl⟩:=flat hf
       subst hr
       obtain ⟨rfl,_⟩:=ra
       obtain ⟨dd,hd',e⟩:=mapS h
       cases e
       obtain ⟨y,ey,ry⟩:=rl.getD hd'
       rw [<- rl.len] at ey
       refine .inl ⟨a,xs,y,rfl,rfl,nd.at_,ey,?_⟩
       refine fin (F2:=fun _=>False) (F3:=fun _=>False) (fun _ z=>z.elim) (fun _ z=>z.elim) (by
        rw [give_no,List.dropLast_eq_take,List.dropLast_eq_take,rl.len]
        exact .ofFlat he (rl.take _)) (by rw [give_no]; exact rpU ry)
      ·cases h
     ·rename_i kz z
      split at h
      ·rename_i hc
       obtain ⟨he,hr,rl⟩:=flat hc.1
       subst hr
       obtain ⟨v,rfl,rv⟩:=ra.off.one
       obtain rfl:=rv.rd.int
       split at h
       ·rename_i j hj
        obtain ⟨dd,hd',e⟩:=mapS h
        cases e
        obtain ⟨y,ey,ry⟩:=rl.getD hd'
        refine .inr ⟨a,xs,z,j,y,rfl,rfl,nd.at_,hc.2.1,hc.2.2,by rw [rl.len]; exact hj,ey,?_⟩
        exact fin (F2:=fun _=>False) (F3:=fun _=>False) (fun _ z=>z.elim) (fun _ z=>z.elim) (by rw [give_no]; exact .ofFlat he (rl.erase _)) (by rw [give_no]; exact rpU ry)
       ·cases h
      ·cases h
     ·cases h
    ·rename_i hm4
     rw [if_neg hm4]
     split at h
     ·rename_i hm5
      rw [if_pos hm5]
      split at h
      ·split at h
       ·rename_i hf
        cases h
        obtain ⟨he,hr,rl⟩:=flat hf
        subst hr
        obtain ⟨rfl,_⟩:=ra
        refine ⟨a,xs,rfl,rfl,nd.at_,?_⟩
        exact fin (F2:=fun _=>False) (F3:=fun _=>False) (fun _ z=>z.elim) (fun _ z=>z.elim) (by rw [give_no]; exact .ofFlat he rl.reverse) (by unfold Rp; rfl)
       ·cases h
      ·cases h
     ·rename_i hm5
      rw [if_neg hm5]
      split at h
      ·rename_i hm6
       rw [if_pos hm6]
       split at h
       ·rename_i kz z kd dd
        split at h
        ·rename_i hc
         cases h
         obtain ⟨he,hr,rl⟩:=flat hc.1
         subst hr
         obtain ⟨v1,v2,rfl,r1,r2⟩:=ra.off.two
         obtain rfl:=r1.rd.int
         have ry:=r2.sh hc.2.1 (off_mu se hF) off_same
         refine ⟨a,xs,z,v2,rfl,rfl,nd.at_,hc.2.2.1,hc.2.2.2.1,by rw [rl.len]; exact Nat.lt_of_lt_of_le hc.2.2.2.2 (size_small (Nat.le_refl _)),?_⟩
         exact fin (F2:=fun _=>False) (F3:=fun _=>False) (fun _ z=>z.elim) (fun _ z=>z.elim) (by rw [give_no]; exact .ofFlat he ((rl.take _).append (.cons ry (rl.drop _)))) (by unfold Rp; rfl)
        ·cases h
       ·cases h
      ·cases h
end
noncomputable def mNames:List Str:=["append","extend","clear","pop","reverse","insert"]
noncomputable def oMut (m:Str) (i:Nat) (p:Option (Ow × D × (D->D))) (as:Option (List KD)) (ρ:Ro):MR:=match p,as with
 | some (.own es r,.nd .lst ds,up),some as=>(match mutD m es r ds as,ρ[i]? with
  | some (d',ds'),some (some ⟨false,k,_⟩)=>some (.sh,d',ρ.set i (some ⟨false,k,up (.lst ds')⟩))
  | _,_=>none)
 | _,_=>none
section
variable {X:Cx} {Γ:Tab} {c:Cz}
theorem mt_mut {m:Str} (hm:m ∈ mNames):∃ id,Slot "list" m id/\typeOf (.builtin id) = pure (.type "method_descriptor")/\MtR X id (rMut m):=by
 simp only [mNames,List.mem_cons,List.not_mem_nil,or_false] at hm
 rcases hm with rfl | rfl | rfl | rfl | rfl | rfl
 ·exact ⟨_,PySem.F.slot_list_append,PySem.F.type_list_append,mt_append⟩
 ·exact ⟨_,PySem.F.slot_list_extend,PySem.F.type_list_extend,mt_extend⟩
 ·exact ⟨_,PySem.F.slot_list_clear,PySem.F.type_list_clear,mt_clear⟩
 ·refine ⟨_,PySem.F.slot_list_pop,PySem.F.type_list_pop,?_⟩
  intro pins s σ H x vs v us Q I rx rv h
  rcases h with h | h
  ·exact mt_pop pins s σ H x vs v us Q I rx rv h
  ·exact mt_popAt pins s σ H x vs v us Q I rx rv h
 ·exact ⟨_,PySem.F.slot_list_reverse,PySem.F.type_list_reverse,mt_reverse⟩
 ·exact ⟨_,PySem.F.slot_list_insert,PySem.F.type_list_insert,mt_insert⟩
theorem s_mut0 {i:Nat} {m:Str} {b:Expr} {ap cp:Pos} {fp:Ro->Option (Ow × D × (D->D))} (hm:m ∈ mNames) (hp:SndP X i fp b) (hb:baseB b = true) (hl:(ap.endLine == cp.line) = true):SndM X (fun ρ=>oMut m i (fp ρ) (some []) ρ) (.Call (.Attribute b m ap) [] [] cp):=by
 intro ρ kd d ρ' h g σ H Q se q
 dsimp only [oMut] at h
 split at h
 ·rename_i es r ds up as ep ea
  cases ea
  split at h
  ·rename_i d' ds' k dd em ei
   cases h
   obtain ⟨mid,s1,s2,s3⟩:=mt_mut (X:=X) hm
   refine pe_le (pe_bm0 PySem.F.plainAttrs_list s1 s2 s3 pe_w (base_ok hb) hl) (hp ρ _ _ _ ep g σ H _ se fun v1 H1 v F k0 d0 sm e1 e2 e3 f1=>?_)
   rw [ei] at e1
   cases e1
   have se1:SE X.K (g.plus fun _=>False) ρ σ H1:=by rw [plus_no fun _ z=>z]; exact se.same sm
   have eg:g.plus (fun _=>False) = g:=plus_no fun _ z=>z
   obtain ⟨a,o,xs,F',rfl,nd⟩:=FP.node (F:=fun _=>False) se1 (fun _ z=>z.elim) ei e2 (by rw [eg]; exact e3) (by rw [eg]; exact f1) rfl
   have ho:o = .lst xs:=nd.ok
   subst ho
   exact ⟨.inl ⟨rfl,xs,.of nd.at_⟩,mut_core em nd (evo_same sm (fun _ z=>z.elim) fun _ z=>z.elim) se1 ⟨rfl,fun _ z=>z⟩ q⟩
  ·cases h
 ·cases h
theorem few_ok2 {e e':Expr} {env:Env} {cp:Pos} (h:noStar e = true) (h':noStar e' = true):((backTo cp (starEach [e,e'] env)).all (fun x=>!x.1) && (backToKw cp (keywordEach [] env)).all (fun x=>x.1.isSome)
      && decide ([e,e'].length + ([]:List Keyword).length + (if ([]:List Keyword).isEmpty then 0 else 1) < 30)) = true:=by
  rw [star_of h,star_of h']
  rfl
theorem s_mut2 {i:Nat} {m:Str} {b e e':Expr} {ap cp:Pos} {fp:Ro->Option (Ow × D × (D->D))} {fa:Ro->Option (List KD)} (hm:m ∈ mNames) (hp:SndP X i fp b) (ha:SndA X fa [e,e']) (hb:baseB b = true) (hn:noStar e = true) (hn':noStar e' = true) (hl:(ap.endLine == cp.line) = true):SndM X (fun ρ=>oMut m i (fp ρ) (fa ρ) ρ) (.Call (.Attribute b m ap) [e,e'] [] cp):=by
 intro ρ kd d ρ' h g σ H Q se q
 dsimp only [oMut] at h
 split at h
 ·rename_i es r ds up as ep ea
  split at h
  ·rename_i d' ds' k dd em ei
   cases h
   obtain ⟨mid,s1,s2,s3⟩:=mt_mut (X:=X) hm
   refine pe_le (pe_bm PySem.F.plainAttrs_list s1 s2 s3 pe_w pa_w (base_ok hb) (few_ok2 hn hn') hl (star_of hn) (by rw [star_of hn']; rfl)) (hp ρ _ _ _ ep g σ H _ se fun v1 H1 v F k0 d0 sm e1 e2 e3 f1=>?_)
   rw [ei] at e1
   cases e1
   have eg:g.plus (fun _=>False) = g:=plus_no fun _ z=>z
   have sq:∃ xs,SqL X.K H1 (match v1 with | .ref a=>a | _=>0) xs/\∃ a,v1 = .ref a:=by
    obtain ⟨a,o,xs,F',rfl,nd⟩:=FP.node (F:=fun _=>False) (by rw [eg]; exact se.same sm) (fun _ z=>z.elim) ei e2 (by rw [eg]; exact e3) (by rw [eg]; exact f1) rfl
    have ho:o = .lst xs:=nd.ok
    subst ho
    exact ⟨xs,.of nd.at_,a,rfl⟩
   obtain ⟨xs0,sq1,a0,rfl⟩:=sq
   refine ⟨.inl ⟨rfl,xs0,sq1⟩,ha ρ as ea g σ H1 _ (se.same sm) fun ys H2 s2' r2=>?_⟩
   obtain ⟨Fy,y1,y2⟩:=r2
   have sy:=(se.same sm).plus s2' y1 y2.dom
   have hgy:∀ b,Fy b->g b = none:=fun b z=>mu_none (se.same sm).mu (y1 b z)
   have f3:FP X.K H2 (Sg (g.plus Fy)) k v F (.own es r) (.lst ds) (.ref a0) up:=by
    obtain ⟨F1,Fr,q1,q2,q3,q4⟩:=f1
    have k2:∀ b o,H1 b = some o->¬ Sg g b->¬ Sg (g.plus Fy) b:=fun b o e n z=>((plus_S b).mp z).elim n fun z=>by rw [y1 b z] at e; cases e
    refine ⟨F1,Fr,q1,q2,q3.go (fun b o _ e=>s2' b o e) k2,fun H' S' d1' F1' t1 t2 t3 t4=>q4 H' S' d1' F1' (fun b o hb e=>t1 b o (hb.imp (fun n=>k2 b o e n) id) (s2' b o e)) (fun b o e n=>t2 b o (s2' b o e) (k2 b o e n)) t3 t4⟩
   obtain ⟨a,o,xs,F',e4,nd⟩:=FP.node (F:=Fy) sy hgy ei e2 (fun b z=>sl_plus (e3 b z) fun z2=>by have:=e3 b z; rw [hgy b z2] at this; cases this) f3 rfl
   cases e4
   exact mut_core em nd (evo_same (sm.trans s2') (fun b z=>sm.free (y1 b z)) hgy) sy y2 q
  ·cases h
 ·cases h
theorem s_mut1 {i:Nat} {m:Str} {b e:Expr} {ap cp:Pos} {fp:Ro->Option (Ow × D × (D->D))} {fa:Ro->Option KD} (hm:m ∈ mNames) (hp:SndP X i fp b) (ha:SndE X fa e) (hb:baseB b = true) (hn:noStar e = true) (hl:(ap.endLine == cp.line) = true):SndM X (fun ρ=>oMut m i (fp ρ) (oCons (fa ρ) (some [])) ρ) (.Call (.Attribute b m ap) [e] [] cp):=by
 intro ρ kd d ρ' h g σ H Q se q
 dsimp only [oMut] at h
 split at h
 ·rename_i es r ds up as ep ea
  split at h
  ·rename_i d' ds' k dd em ei
   cases h
   obtain ⟨mid,s1,s2,s3⟩:=mt_mut (X:=X) hm
   refine pe_le (pe_bm PySem.F.plainAttrs_list s1 s2 s3 pe_w (pa_cons pe_w pa_nil (star_of hn)) (base_ok hb) (few_ok hn) hl (star_of hn) rfl) (hp ρ _ _ _ ep g σ H _ se fun v1 H1 v F k0 d0 sm e1 e2 e3 f1=>?_)
   rw [ei] at e1
   cases e1
   unfold oCons at ea
   split at ea
   ·rename_i x xs' ex exs
    cases exs
    cases ea
    obtain ⟨kx,dx⟩:=x
    have eg:g.plus (fun _=>False) = g:=plus_no fun _ z=>z
    have sq:∃ xs,SqL X.K H1 (match v1 with | .ref a=>a | _=>0) xs/\∃ a,v1 = .ref a:=by
     obtain ⟨a,o,xs,F',rfl,nd⟩:=FP.node (F:=fun _=>False) (by rw [eg]; exact se.same sm) (fun _ z=>z.elim) ei e2 (by rw [eg]; exact e3) (by rw [eg]; exact f1) rfl
     have ho:o = .lst xs:=nd.ok
     subst ho
     exact ⟨xs,.of nd.at_,a,rfl⟩
    obtain ⟨xs0,sq1,a0,rfl⟩:=sq
    refine ⟨.inl ⟨rfl,xs0,sq1⟩,ha ρ kx dx ex g σ H1 _ (se.same sm) fun y H2 s2' r2=>?_⟩
    obtain ⟨Fy,y1,y2⟩:=r2
    have sy:=(se.same sm).plus s2' y1 y2.dom
    have hgy:∀ b,Fy b->g b = none:=fun b z=>mu_none (se.same sm).mu (y1 b z)
    have f2':=f1.same s2'
    have f3:FP X.K H2 (Sg (g.plus Fy)) k v F (.own es r) (.lst ds) (.ref a0) up:=by
     obtain ⟨F1,Fr,q1,q2,q3,q4⟩:=f1
     have k2:∀ b o,H1 b = some o->¬ Sg g b->¬ Sg (g.plus Fy) b:=fun b o e n z=>((plus_S b).mp z).elim n fun z=>by rw [y1 b z] at e; cases e
     refine ⟨F1,Fr,q1,q2,q3.go (fun b o _ e=>s2' b o e) k2,fun H' S' d1' F1' t1 t2 t3 t4=>q4 H' S' d1' F1' (fun b o hb e=>t1 b o (hb.imp (fun n=>k2 b o e n) id) (s2' b o e)) (fun b o e n=>t2 b o (s2' b o e) (k2 b o e n)) t3 t4⟩
    obtain ⟨a,o,xs,F',e4,nd⟩:=FP.node (F:=Fy) sy hgy ei e2 (fun b z=>sl_plus (e3 b z) fun z2=>by have:=e3 b z; rw [hgy b z2] at this; cases this) f3 rfl
    cases e4
    exact mut_core em nd (evo_same (sm.trans s2') (fun b z=>sm.free (y1 b z)) hgy) sy ⟨y,[],Fy,fun _=>False,rfl,fun b=>⟨.inl,fun z=>z.elim id fun z=>z.elim⟩,fun _ _ z=>z,y2,rfl,fun _ z=>z⟩ q
   ·cases ea
  ·cases h
 ·cases h
noncomputable def oMutMs (m:Str) (i:Nat) (o:Option (Option Sl)) (a:Option (List KD × Ro)):MR:=match o with
 | some (some ⟨false,.own _ _,.nd .lst _⟩)=>(match a with | some (kds,ρ1)=>oMut m i (rootP ρ1[i]?) (some kds) ρ1 | none=>none)
 | _=>none
theorem s_mutMs (O:CxOk X Γ c) {i:Nat} {m x:Str} {p:Pos} {e e':Expr} {ap cp:Pos} {fa:Ro->Option (List KD × Ro)} (hm:m ∈ mNames) (hc:cVar c x = some i) (ha:SndAM X fa [e,e']) (hb:baseB (.Name x p) = true) (hn:noStar e = true) (hn':noStar e' = true) (hl:(ap.endLine == cp.line) = true):SndM X (fun ρ=>oMutMs m i ρ[i]? (fa ρ)) (.Call (.Attribute (.Name x p) m ap) [e,e'] [] cp):=by
 intro ρ kd d ρ' h g σ H Q se q
 dsimp only [oMutMs] at h
 split at h
 ·rename_i es0 r0 ds0 ei
  split at h
  ·rename_i kds ρ1 ex
   obtain ⟨mid,s1,s2,s3⟩:=mt_mut (X:=X) hm
   obtain ⟨v,F,e1,e2,e3⟩:=se.slot i _ ei
   have e3':=e3
   unfold Tr at e3'
   obtain ⟨a0,o0,xs0,F0',rfl,g1,q1,_⟩:=e3'
   have q1:o0 = .lst xs0:=q1
   subst q1
   refine pe_le (pe_bm PySem.F.plainAttrs_list s1 s2 s3 pe_w pa_w (base_ok hb) (few_ok2 hn hn') hl (star_of hn) (by rw [star_of hn']; rfl)) (name_at O hc p e1 ⟨.inl ⟨rfl,xs0,.of g1⟩,ha ρ kds ρ1 ex g σ H _ se fun ys g1 H1 F1 ev se1 r1=>?_⟩)
   unfold oMut at h
   split at h
   ·rename_i es r ds up as ep ea
    cases ea
    split at h
    ·rename_i d' ds' k dd em ei1
     cases h
     have:rootP ρ1[i]? = some (k,dd,id):=by rw [ei1]; rfl
     rw [this] at ep
     cases ep
     obtain ⟨w,Fi,w1,w2,w3⟩:=se1.slot i _ ei1
     rw [e1] at w1
     cases w1
     obtain ⟨a,o,xs,F',e4,nd⟩:=FP.node (F:=F1) se1 (fun b z=>(ev.tmp b z).1) ei1 e1 w2 (.root w3) rfl
     cases e4
     exact mut_core em nd ev se1 r1 q
    ·cases h
   ·cases h
  ·cases h
 ·cases h
end
end J
namespace J
open PySem PySem.Spec L2
noncomputable abbrev noF:Pr:=fun _=>False
noncomputable def frzN:List Nat->Ro->Ro
 | [],ρ=>ρ
 | i :: is,ρ=>frzN is (match ρ[i]? with | some (some ⟨false,k,d⟩)=>ρ.set i (some ⟨false,.fz,d⟩) | _=>ρ)
inductive BP where
 | nm (i:Nat)
 | ix (b:BP) (e:IE)
noncomputable def BP.slot:BP->Nat
 | .nm i=>i
 | .ix b _=>b.slot
noncomputable def evP (Γ:Nat->Option Fn):BP->Ro->Option (Ow × D × (D->D))
 | .nm i,ρ=>rootP ρ[i]?
 | .ix b e,ρ=>stepP (evP Γ b ρ) (evI Γ e ρ)
mutual
inductive ME where
 | p (e:IE)
 | mv (i:Nat)
 | fz (i:Nat)
 | io (f:Nat) (as:MAs)
 | fn (f:Nat) (as:MEs)
 | blt (x:Str) (as:MEs)
 | tup (k:Ow) (as:MEs)
 | lst (k:Ow) (as:MEs)
 | bin (op:Operator) (as:MEs)
 | cmp (op:CmpOp) (as:MEs)
 | ix (as:MEs)
 | slh (as:MEs)
 | ifx (t:MT) (a b:ME)
 | comp (r:Ow) (cap:List (Option Nat)) (tg:IT) (it:MI) (ts:MO) (elt:ME)
 | mut (m:Str) (b:BP) (as:IEs)
 | mutM (m:Str) (i:Nat) (a:ME)
 | mutMs (m:Str) (i:Nat) (as:MEs)
inductive MI where
 | p (it:II)
 | e (a:ME)
 | enm (a:ME)
 | rng (a:ME)
inductive MAs where
 | nil
 | ref (i:Nat) (r:MAs)
 | val (a:ME) (r:MAs)
inductive MEs where
 | fin (a:ME) (r:IEs)
 | cons (a:ME) (r:MEs)
inductive MT where
 | p (e:IE)
 | cmp (op:CmpOp) (as:MEs)
 | not (t:MT)
 | bool (op:BoolOp) (ts:MTs)
 | tru (a:ME)
 | vw (is:List Nat) (e:IE)
inductive MTs where
 | one (t:MT)
 | cons (t:MT) (r:MTs)
inductive MO where
 | non
 | som (t:MT)
end
noncomputable def oS (f:List KD->Option KD) (a:Option (List KD × Ro)):MR:=match a with
 | some (kds,ρ)=>(match f kds with | some (kd,d)=>some (kd,d,ρ) | none=>none)
 | none=>none
noncomputable def oTCmp (op:CmpOp) (a:Option (List KD × Ro)):Option (Bool × Ro):=match a with
 | some ([x,y],ρ)=>(match cmpD op x.2 y.2 with | some b=>some (b,ρ) | none=>none)
 | _=>none
noncomputable def oPm (a:Option KD) (ρ:Ro):MR:=match a with | some (kd,d)=>some (kd,d,ρ) | none=>none
noncomputable def oTb (a:Option Bool) (ρ:Ro):Option (Bool × Ro):=match a with | some b=>some (b,ρ) | none=>none
noncomputable def oTBool (op:BoolOp) (a:Option (Bool × Ro)) (r:Ro->Option (Bool × Ro)):Option (Bool × Ro):=match a with
 | some (x,ρ)=>if (op == .And) = x then r ρ else some (x,ρ)
 | none=>none
structure GG where
 fn:Nat->Option Fn
 fm:Nat->Option Fm
mutual
noncomputable def evM (Γ:GG):ME->Ro->MR
 | .p e,ρ=>oPm (evI Γ.fn e ρ) ρ
 | .mv i,ρ=>oMov i ρ
 | .fz i,ρ=>oFrz i ρ
 | .io f as,ρ=>oIo (Γ.fm f) (evMA Γ as ρ)
 | .fn f as,ρ=>none
 | .blt x as,ρ=>none
 | .tup k as,ρ=>oS (fun kds=>oTup k (some kds)) (evMs Γ as ρ)
 | .lst k as,ρ=>oS (fun kds=>oLst k (some kds)) (evMs Γ as ρ)
 | .bin op as,ρ=>oS (f2 (binD op)) (evMs Γ as ρ)
 | .cmp op as,ρ=>none
 | .ix as,ρ=>oS (f2 fIx) (evMs Γ as ρ)
 | .slh as,ρ=>oS (f2 fSlh) (evMs Γ as ρ)
 | .ifx t a b,ρ=>none
 | .comp r cap tg it ts elt,ρ=>none
 | .mut m b as,ρ=>oMut m b.slot (evP Γ.fn b ρ) (evIs Γ.fn as ρ) ρ
 | .mutM m i a,ρ=>none
 | .mutMs m i as,ρ=>oMutMs m i ρ[i]? (evMs Γ as ρ)
noncomputable def evMI (Γ:GG):MI->Ro->IR
 | .p it,ρ=>oIp (evII Γ.fn it ρ) ρ
 | .e a,ρ=>none
 | .enm a,ρ=>none
 | .rng a,ρ=>oIt (oRng (some (.sh,.int 0))) (evM Γ a ρ)
noncomputable def evMA (Γ:GG):MAs->Ro->Option (List RA × Ro)
 | .nil,ρ=>some ([],ρ)
 | .ref i r,ρ=>oRefA i ρ[i]? (evMA Γ r ρ)
 | .val a r,ρ=>oValA (evM Γ a ρ) (evMA Γ r)
noncomputable def evMs (Γ:GG):MEs->Ro->Option (List KD × Ro)
 | .fin a r,ρ=>oFinM (evM Γ a ρ) (evIs Γ.fn r)
 | .cons a r,ρ=>oConsM (evM Γ a ρ) (evMs Γ r)
noncomputable def evMT (Γ:GG):MT->Ro->Option (Bool × Ro)
 | .p e,ρ=>oTb (evIT Γ.fn e ρ) ρ
 | .vw is e,ρ=>none
 | .cmp op as,ρ=>oTCmp op (evMs Γ as ρ)
 | .not t,ρ=>none
 | .bool op ts,ρ=>none
 | .tru a,ρ=>none
noncomputable def evMTs (Γ:GG) (op:BoolOp):MTs->Ro->Option (Bool × Ro)
 | .one t,ρ=>evMT Γ t ρ
 | .cons t r,ρ=>oTBool op (evMT Γ t ρ) (evMTs Γ op r)
noncomputable def evMO (Γ:GG):MO->Ro->Option (Bool × Ro)
 | .non,ρ=>some (true,ρ)
 | .som t,ρ=>evMT Γ t ρ
end
theorem offM {X:Cx} {f:Ro->MR} {e:Expr} (h:∀ ρ,f ρ = none):SndM X f e:=fun ρ kd d ρ' hh=>by rw [h] at hh; cases hh
theorem offTM {X:Cx} {f:Ro->Option (Bool × Ro)} {e:Expr} (h:∀ ρ,f ρ = none):SndTM X f e:=fun ρ kd d hh=>by rw [h] at hh; cases hh
theorem offIM {X:Cx} {f:Ro->IR} {tg e:Expr} (h:∀ ρ,f ρ = none):SndIM X f tg e:=fun ρ bs ds ρ' hh=>by rw [h] at hh; cases hh
noncomputable def cMs (f:Expr->Option ME) (g:Expr->Option IE):List Expr->Option MEs
 | []=>none
 | e :: es=>if noStar e then (match cArgs g es with
  | some r=>(f e).map fun a=>.fin a r
  | none=>(match f e,cMs f g es with | some a,some r=>some (.cons a r) | _,_=>none)) else none
noncomputable def cMA (c:Cz) (f:Expr->Option ME):List Bool->List Expr->Option MAs
 | _,[]=>some .nil
 | true :: fl,.Name x _ :: es=>(match cVar c x,cMA c f fl es with | some i,some r=>some (.ref i r) | _,_=>none)
 | fl,e :: es=>if noStar e then (match f e,cMA c f fl.tail es with | some a,some r=>some (.val a r) | _,_=>none) else none
noncomputable def cItM (c:Cz) (f:Expr->Option ME) (it:Option II) (tg iter:Expr):Option MI:=match it with
 | some it=>some (.p it)
 | none=>match iter with
  | .Call (.Name x _) [a] [] _=>
   if x = "range" then (if glB c.sc "range" && noStar a then (f a).map .rng else none)
   else if x = "enumerate" then (if glB c.sc "enumerate" && noStar a && isTup tg then (f a).map .enm else none)
   else (f iter).map .e
  | _=>(f iter).map .e
noncomputable def cTs (f:Expr->Option MT):List Expr->Option MTs
 | []=>none
 | [e]=>(f e).map .one
 | e :: es=>match f e,cTs f es with | some a,some r=>some (.cons a r) | _,_=>none
noncomputable def cBP (c:Cz) (f:Expr->Option IE):Nat->Expr->Option BP
 | 0,_=>none
 | n + 1,e=>match e with
  | .Name x _=>(cVar c x).map .nm
  | .Subscript a b _=>if plainIx b then (match cBP c f n a,f b with | some p,some e=>some (.ix p e) | _,_=>none) else none
  | _=>none
noncomputable def mOk (m:Str) (b:Expr) (ap cp:Pos):Bool:=mNames.contains m && baseB b && (ap.endLine == cp.line)
noncomputable def cMN (fns:Nms) (c:Cz) (x:Str) (p:Pos):Option ME:=match fns.md p.line p.col with
 | none=>none
 | some true=>(cVar c x).map .mv
 | some false=>(cVar c x).map .fz
noncomputable def cMf (fns:Nms) (c:Cz) (fM:Expr->Option ME) (fE:Expr->Option IE) (x:Str) (as:List Expr):Option ME:=match as with
 | []=>none
 | a :: es=>if glB c.sc x && (a :: es).all noStar then (match ixOf x fns.fns with
  | some i=>(match fns.io i with
   | some fl=>(cMA c fM fl (a :: es)).map (.io i)
   | none=>(cMs fM fE (a :: es)).map (.fn i))
  | none=>(cMs fM fE (a :: es)).map (.blt x)) else none
noncomputable def cMm (c:Cz) (fM:Expr->Option ME) (fE:Expr->Option IE) (b:Expr) (m:Str) (ap cp:Pos) (as:List Expr):Option ME:=match as with
 | []=>if mOk m b ap cp then (cBP c fE 6 b).map fun p=>.mut m p .nil else none
 | e :: es=>match es with
  | e2 :: es2=>(match es2 with
   | _ :: _=>none
   | []=>if mOk m b ap cp && (noStar e && noStar e2) then (match fE e with
    | some a1=>(match fE e2 with | some a2=>(cBP c fE 6 b).map fun p=>.mut m p (.cons a1 (.cons a2 .nil)) | none=>none)
    | none=>(match b with | .Name x _=>(match cVar c x,cMs fM fE [e,e2] with | some i,some as=>some (.mutMs m i as) | _,_=>none) | _=>none)) else none)
  | []=>if mOk m b ap cp && noStar e then (match fE e with
   | some e'=>(cBP c fE 6 b).map fun p=>.mut m p (.cons e' .nil)
   | none=>(match b with | .Name x _=>(match cVar c x,fM e with | some i,some a=>some (.mutM m i a) | _,_=>none) | _=>none)) else none
noncomputable def cMc (fns:Nms) (c:Cz) (fM:Expr->Option ME) (fE:Expr->Option IE) (g:Expr) (as:List Expr) (ks:List Keyword) (cp:Pos):Option ME:=match ks with
 | _ :: _=>none
 | []=>match g with
  | .Name x _=>cMf fns c fM fE x as
  | .Attribute b m ap=>cMm c fM fE b m ap cp as
  | _=>none
noncomputable def cMcm {α:Type} (k:CmpOp->MEs->α) (fM:Expr->Option ME) (fE:Expr->Option IE) (a:Expr) (ops:List CmpOp) (bs:List Expr):Option α:=match ops with
 | []=>none
 | op :: ops=>match ops with
  | _ :: _=>none
  | []=>match bs with
   | []=>none
   | b :: bs=>match bs with
    | _ :: _=>none
    | []=>if behindInMarks op b then none else (cMs fM fE [a,b]).map (k op)
noncomputable def cTestsM (f:Expr->Option MT):List Expr->Option MO
 | []=>some .non
 | [e]=>(f e).map .som
 | _=>none
noncomputable def cCoM (fns:Nms) (c:Cz) (fM:Cz->Expr->Option ME) (fE:Cz->Expr->Option IE) (fT:Cz->Expr->Option MT) (elt:Expr) (gs:List Comprehension) (scope:Scope) (p:Pos):Option ME:=match gs with
 | []=>none
 | g :: gs=>match gs with
  | _ :: _=>none
  | []=>if g.is_async = 0 then (if notSet g.iter && compChk c scope then (match cTg ⟨relS scope c.sc,namesOf scope,ownC scope⟩ 4 g.target,cItM c (fM c) (cIt c (fE c) g.target g.iter) g.target g.iter,cTestsM (fT ⟨relS scope c.sc,namesOf scope,ownC scope⟩) g.ifs,fM ⟨relS scope c.sc,namesOf scope,ownC scope⟩ elt with
    | some t,some it,some ts,some el=>some (.comp ((fns.an p.line p.col).getD .fz) (capOf c scope) t it ts el) | _,_,_,_=>none) else none) else none
noncomputable def hiOf:Expr->Option Expr
 | .Slice none (some hi) none _=>some hi
 | _=>none
theorem hiOf_is {b hi:Expr} (h:hiOf b = some hi):∃ p,b = .Slice none (some hi) none p:=by
 unfold hiOf at h
 split at h
 ·cases h; exact ⟨_,rfl⟩
 ·cases h
mutual
noncomputable def cM (fns:Nms):Nat->Cz->Expr->Option ME
 | 0,_,_=>none
 | n + 1,c,e=>match cE fns n c e with
  | some ie=>some (.p ie)
  | none=>match e with
   | .Name x p=>cMN fns c x p
   | .Call g as ks cp=>cMc fns c (cM fns n c) (cE fns n c) g as ks cp
   | .Tuple es _ p=>(cMs (cM fns n c) (cE fns n c) es).map (.tup (fns.kT p))
   | .List es p=>(cMs (cM fns n c) (cE fns n c) es).map (.lst (fns.kL p))
   | .BinOp a op b _=>(cMs (cM fns n c) (cE fns n c) [a,b]).map (.bin op)
   | .Compare a ops bs _=>cMcm ME.cmp (cM fns n c) (cE fns n c) a ops bs
   | .Subscript a b _=>if plainIx b then (cMs (cM fns n c) (cE fns n c) [a,b]).map .ix else (match hiOf b with | some hi=>(cMs (cM fns n c) (cE fns n c) [a,hi]).map .slh | none=>none)
   | .IfExp t a b _=>match cMT fns n c t,cM fns n c a,cM fns n c b with | some t,some a,some b=>some (.ifx t a b) | _,_,_=>none
   | .ListComp elt gs scope p=>cCoM fns c (cM fns n) (cE fns n) (cMT fns n) elt gs scope p
   | _=>none
noncomputable def cMT (fns:Nms):Nat->Cz->Expr->Option MT
 | 0,_,_=>none
 | n + 1,c,e=>match cT fns n c e with
  | some ie=>(match fns.vw e.pos.line e.pos.col with | []=>some (.p ie) | i :: is=>some (.vw (i :: is) ie))
  | none=>match e with
   | .Compare a ops bs _=>cMcm MT.cmp (cM fns n c) (cE fns n c) a ops bs
   | .UnaryOp op a _=>(match op with | .Not=>(cMT fns n c a).map .not | _=>none)
   | .BoolOp op es _=>(cTs (cMT fns n c) es).map (.bool op)
   | .Call f as ks p=>(cM fns n c (.Call f as ks p)).map .tru
   | .Subscript a b p=>(cM fns n c (.Subscript a b p)).map .tru
   | .Name x p=>(cM fns n c (.Name x p)).map .tru
   | .Constant k j p=>(cM fns n c (.Constant k j p)).map .tru
   | _=>none
end
noncomputable def fmOf (fns:Nms) (Γ:GG):Str->Option (PySem.W.Frag->Sp):=fun x=>(ixOf x fns.fns).bind fun i=>(Γ.fm i).map fun φ=>fun K=>spM K φ
noncomputable abbrev tabG (fns:Nms) (Γ:GG):Tab:=tabOf fns Γ.fn (fmOf fns Γ)
section
variable {X:Cx} {c:Cz} (fns:Nms) (Γ:GG)
theorem s_itMI {fm:Str->Option (PySem.W.Frag->Sp)} (O:CxOk X (tabOf fns Γ.fn fm) c) {f:Expr->Option ME} {fe:Expr->Option IE} (hf:∀ e a,f e = some a->SndM X (evM Γ a) e) (hE:∀ e ie,fe e = some ie->SndE X (evI Γ.fn ie) e) {tg iter:Expr} {it:MI} (h:cItM c f (cIt c fe tg iter) tg iter = some it):SndIM X (evMI Γ it) tg iter:=by
 have pl:∀ {it:MI},(f iter).map MI.e = some it->SndIM X (evMI Γ it) tg iter:=fun h=>by
  obtain ⟨a,ha,rfl⟩:=mapS h
  first | (refine offIM fun ρ=>?_; rw [evMI]; done) | (rw [show evMI Γ (.e a) = fun ρ=>oIt oSeq (evM Γ a ρ) by funext ρ; rw [evMI]]; exact s_imE (hf _ _ ha))
 unfold cItM at h
 split at h
 ·rename_i it' hit
  cases h
  first | (refine offIM fun ρ=>?_; rw [evMI]; done) | (rw [show evMI Γ (.p it') = fun ρ=>oIp (evII Γ.fn it' ρ) ρ by funext ρ; rw [evMI]]; exact (s_itI fns Γ.fn O hE hit).m)
 ·split at h
  ·rename_i x p a pos _
   split at h
   ·rename_i hx
    subst hx
    split at h
    ·rename_i hg
     rw [Bool.and_eq_true] at hg
     obtain ⟨a',ha,rfl⟩:=mapS h
     first | (refine offIM fun ρ=>?_; rw [evMI]; done) | (rw [show evMI Γ (.rng a') = fun ρ=>oIt (oRng (some (.sh,.int 0))) (evM Γ a' ρ) by funext ρ; rw [evMI]]; exact s_imR O hg.1 hg.2 (hf _ _ ha))
    ·cases h
   ·split at h
    ·rename_i hx
     subst hx
     split at h
     ·rename_i hg
      rw [Bool.and_eq_true,Bool.and_eq_true] at hg
      obtain ⟨a',ha,rfl⟩:=mapS h
      first | (refine offIM fun ρ=>?_; rw [evMI]; done) | (rw [show evMI Γ (.enm a') = fun ρ=>oIt oEnm (evM Γ a' ρ) by funext ρ; rw [evMI]]; exact s_imEnm O hg.1.1 hg.1.2 hg.2 (hf _ _ ha))
     ·cases h
    ·exact pl h
  ·exact pl h
theorem oS_bind (f:List KD->Option KD) (fa:Ro->Option (List KD × Ro)):(fun ρ=>oS f (fa ρ)) = fun ρ=>(fa ρ).bind fun p=>(f p.1).map fun q=>(q.1,q.2,p.2):=by
 funext ρ
 unfold oS
 cases fa ρ with
 | none=>rfl
 | some p=>
  obtain ⟨kds,ρ'⟩:=p
  dsimp only [Option.bind_some]
  cases f kds with
  | none=>rfl
  | some q=>rfl
theorem m_pure {e:Expr} {ie:IE} (h:SndE X (evI Γ.fn ie) e):SndM X (evM Γ (.p ie)) e:=by
 have:=h.m
 rw [show (fun ρ=>(evI Γ.fn ie ρ).map fun p=>(p.1,p.2,ρ)) = evM Γ (.p ie) by funext ρ; rw [evM]; unfold oPm; cases evI Γ.fn ie ρ <;> rfl] at this
 exact this
theorem s_msL {f:Expr->Option ME} {g:Expr->Option IE} (hf:∀ e a,f e = some a->SndM X (evM Γ a) e) (hg:∀ e a,g e = some a->SndE X (evI Γ.fn a) e):∀ {es:List Expr} {as:MEs},cMs f g es = some as->SndAM X (evMs Γ as) es
 | [],as,h=>by cases h
 | e :: es,as,h=>by
  unfold cMs at h
  split at h
  ·rename_i hn
   split at h
   ·rename_i r hr
    obtain ⟨a,ha,rfl⟩:=mapS h
    rw [show evMs Γ (.fin a r) = fun ρ=>oFinM (evM Γ a ρ) (evIs Γ.fn r) by funext ρ; conv=>lhs; rw [evMs]]
    exact s_finM hn (hf _ _ ha) (s_argsL Γ.fn hg hr).1
   ·split at h
    ·rename_i a r ha hr
     cases h
     rw [show evMs Γ (.cons a r) = fun ρ=>oConsM (evM Γ a ρ) (evMs Γ r) by funext ρ; conv=>lhs; rw [evMs]]
     exact s_consM hn (hf _ _ ha) (s_msL hf hg hr)
    ·cases h
  ·cases h
theorem s_ms2 {f:Expr->Option ME} {g:Expr->Option IE} (hf:∀ e a,f e = some a->SndM X (evM Γ a) e) (hg:∀ e a,g e = some a->SndE X (evI Γ.fn a) e) {a b:Expr} {as:MEs} (h:cMs f g [a,b] = some as):Snd2M X (evMs Γ as) a b:=by
 unfold cMs at h
 split at h
 ·rename_i hn
  split at h
  ·rename_i r hr
   obtain ⟨a',ha,rfl⟩:=mapS h
   unfold cArgs cArgs at hr
   split at hr
   ·split at hr
    ·rename_i b' r' hb' hr'
     cases hr; cases hr'
     rw [show evMs Γ (.fin a' (.cons b' .nil)) = fun ρ=>oFinM (evM Γ a' ρ) fun ρ=>oCons (evI Γ.fn b' ρ) (some []) by
      funext ρ
      simp only [evMs,evIs]
      try rfl]
     exact s_2fin (hf _ _ ha) (hg _ _ hb')
    ·cases hr
   ·cases hr
  ·split at h
   ·rename_i a' r ha hr
    cases h
    unfold cMs at hr
    split at hr
    ·split at hr
     ·rename_i r' hr'
      cases hr'
      obtain ⟨b',hb,rfl⟩:=mapS hr
      rw [show evMs Γ (.cons a' (.fin b' .nil)) = fun ρ=>oConsM (evM Γ a' ρ) fun ρ=>oFinM (evM Γ b' ρ) fun _=>some [] by
       funext ρ
       simp only [evMs,evIs]
       try rfl]
      exact s_2cons (hf _ _ ha) (hf _ _ hb)
     ·rename_i q
      exact absurd q (by simp [cArgs])
    ·cases hr
   ·cases h
 ·cases h
theorem s_ma {Γt:Tab} (O:CxOk X Γt c) {f:Expr->Option ME} (hf:∀ e a,f e = some a->SndM X (evM Γ a) e):∀ {fl:List Bool} {es:List Expr} {as:MAs},cMA c f fl es = some as->SndRA X (evMA Γ as) es
 | fl,[],as,h=>by
  have:as = .nil:=by
   unfold cMA at h
   cases h; rfl
  subst this
  rw [show evMA Γ .nil = fun ρ=>some ([],ρ) by funext ρ; rw [evMA]]
  exact s_raN
 | fl,e :: es,as,h=>by
  have val:∀ {fl':List Bool} {as:MAs},(if noStar e then (match f e,cMA c f fl' es with | some a,some r=>some (MAs.val a r) | _,_=>none) else none) = some as->SndRA X (evMA Γ as) (e :: es):=fun h=>by
   split at h
   ·rename_i hn
    split at h
    ·rename_i a r ha hr
     cases h
     rw [show evMA Γ (.val a r) = fun ρ=>oValA (evM Γ a ρ) (evMA Γ r) by funext ρ; conv=>lhs; rw [evMA]]
     exact s_raV hn (hf _ _ ha) (s_ma O hf hr)
    ·cases h
   ·cases h
  unfold cMA at h
  split at h
  ·rename_i q; cases q
  ·rename_i fl' x p es' q
   cases q
   split at h
   ·rename_i i r hi hr
    cases h
    rw [show evMA Γ (.ref i r) = fun ρ=>oRefA i ρ[i]? (evMA Γ r ρ) by funext ρ; conv=>lhs; rw [evMA]]
    exact s_raR O hi (s_ma O hf hr)
   ·cases h
  ·rename_i fl' e' es' q
   cases q
   exact val h
theorem evo_seq {g g1 g2:Gh} {H H1 H2:Hp} {F2:Pr} (a:Evo g H g1 H1 (fun _=>False)) (b:Evo g1 H1 g2 H2 F2):Evo g H g2 H2 F2:=by
 have t:=a.trans (F1:=fun _=>False) (g2:=g2) (H2:=H2) (F2:=F2) (by rw [plus_no fun _ z=>z]; exact b)
 have e1:g2.minus (fun _=>False) = g2:=by funext c; exact minus_ne fun z=>z
 rw [e1] at t
 exact t.drop fun c z=>.inr z
theorem s_bp {Γt:Tab} (O:CxOk X Γt c) {f:Expr->Option IE} (hf:∀ e a,f e = some a->SndE X (evI Γ.fn a) e):∀ (n:Nat) {e:Expr} {b:BP},cBP c f n e = some b->SndP X b.slot (evP Γ.fn b) e
 | 0,e,b,h=>by cases h
 | n + 1,e,b,h=>by
  unfold cBP at h
  split at h
  ·rename_i x p
   obtain ⟨i,hi,rfl⟩:=mapS h
   exact p_root O hi p
  ·rename_i a b' p
   split at h
   ·rename_i hp
    split at h
    ·rename_i q e' hq he
     cases h
     exact p_step O (s_bp O hf n hq) (hf _ _ he) hp
    ·cases h
   ·cases h
  ·cases h
theorem mOk_ok {m:Str} {b:Expr} {ap cp:Pos} (h:mOk m b ap cp = true):m ∈ mNames/\baseB b = true/\(ap.endLine == cp.line) = true:=by
 simp only [mOk,Bool.and_eq_true] at h
 exact ⟨by simpa using h.1.1,h.1.2,h.2⟩
theorem s_mN {x:Str} {p:Pos} {a:ME} (O:CxOk X (tabG fns Γ) c) (h:cMN fns c x p = some a):SndM X (evM Γ a) (.Name x p):=by
 unfold cMN at h
 split at h
 ·cases h
 ·obtain ⟨i,hi,rfl⟩:=mapS h
  first | (refine offM fun ρ=>?_; rw [evM]; done) | (rw [show evM Γ (.mv i) = oMov i by funext ρ; rw [evM]]; exact s_mov O hi p)
 ·obtain ⟨i,hi,rfl⟩:=mapS h
  first | (refine offM fun ρ=>?_; rw [evM]; done) | (rw [show evM Γ (.fz i) = oFrz i by funext ρ; rw [evM]]; exact s_frz O hi p)
theorem s_ioR (O:CxOk X (tabG fns Γ) c) {fM:Expr->Option ME} (hM:∀ e a,fM e = some a->SndM X (evM Γ a) e) {x:Str} {p pos:Pos} {a':Expr} {es:List Expr} {fl:List Bool} {i:Nat} {a:ME} (h:(cMA c fM fl (a' :: es)).map (.io i) = some a) (h1:glB c.sc x = true) (h2:noStar a' = true) (h3:es.all noStar = true) (hi:ixOf x fns.fns = some i):SndM X (evM Γ a) (.Call (.Name x p) (a' :: es) [] pos):=by
 obtain ⟨as,ha,rfl⟩:=mapS h
 first
  | (refine offM fun ρ=>?_; rw [evM]; done)
  | (cases hφ:Γ.fm i with
   | none=>
    intro ρ kd d ρ' hh
    rw [evM,hφ] at hh
    cases hh
   | some φ=>
    rw [show evM Γ (.io i as) = fun ρ=>oIo (some φ) (evMA Γ as ρ) by funext ρ; rw [evM,hφ]]
    refine s_io O (φ:=φ) ?_ h1 h2 h3 (s_ma Γ O hM ha)
    show fmOf fns Γ x = _
    unfold fmOf
    rw [hi,Option.bind_some,hφ]
    rfl)
theorem s_mf (O:CxOk X (tabG fns Γ) c) {fM:Expr->Option ME} {fE:Expr->Option IE} (hM:∀ e a,fM e = some a->SndM X (evM Γ a) e) (hE:∀ e ie,fE e = some ie->SndE X (evI Γ.fn ie) e) {x:Str} {p:Pos} {as:List Expr} {pos:Pos} {a:ME} (h:cMf fns c fM fE x as = some a):SndM X (evM Γ a) (.Call (.Name x p) as [] pos):=by
 cases as with
 | nil=>cases h
 | cons a' es=>
  dsimp only [cMf] at h
  split at h
  ·rename_i hg
   rw [Bool.and_eq_true,List.all_cons,Bool.and_eq_true] at hg
   split at h
   ·rename_i i hi
    split at h
    ·rename_i fl hfl
     exact s_ioR fns Γ O hM h hg.1 hg.2.1 hg.2.2 hi
    ·obtain ⟨as,ha,rfl⟩:=mapS h
     first
     | (refine offM fun ρ=>?_; rw [evM]; done)
     | cases hφ:Γ.fn i with
      | none=>
       intro ρ kd d ρ' hh
       rw [evM,hφ] at hh
       cases hh
      | some φ=>
       rw [show evM Γ (.fn i as) = fun ρ=>oS (fFn φ) (evMs Γ as ρ) by funext ρ; rw [evM,hφ],oS_bind]
       refine (n_fn O (φ:=φ) ?_ hg.1 hg.2.1 hg.2.2).m (s_msL Γ hM hE ha)
       show (ixOf x fns.fns).bind Γ.fn = _
       rw [hi]; exact hφ
   ·obtain ⟨as,ha,rfl⟩:=mapS h
    first | (refine offM fun ρ=>?_; rw [evM]; done) | (rw [show evM Γ (.blt x as) = fun ρ=>oS (fBlt x) (evMs Γ as ρ) by funext ρ; rw [evM],oS_bind]; exact (b_all_ok O x a' es p pos (gl_of O hg.1) hg.2.1 hg.2.2).m (s_msL Γ hM hE ha))
  ·cases h
theorem s_mm (O:CxOk X (tabG fns Γ) c) {fM:Expr->Option ME} {fE:Expr->Option IE} (hM:∀ e a,fM e = some a->SndM X (evM Γ a) e) (hE:∀ e ie,fE e = some ie->SndE X (evI Γ.fn ie) e) {b:Expr} {m:Str} {ap cp:Pos} {as:List Expr} {a:ME} (h:cMm c fM fE b m ap cp as = some a):SndM X (evM Γ a) (.Call (.Attribute b m ap) as [] cp):=by
 cases as with
 | nil=>
  dsimp only [cMm] at h
  split at h
  ·rename_i hk
   obtain ⟨h1,h2,h3⟩:=mOk_ok hk
   obtain ⟨p,hp,rfl⟩:=mapS h
   first | (refine offM fun ρ=>?_; rw [evM]; done) | (rw [show ∀ m,evM Γ (.mut m p .nil) = fun ρ=>oMut m p.slot (evP Γ.fn p ρ) (some []) ρ by intro m; funext ρ; rw [evM,evIs]]; exact s_mut0 h1 (s_bp Γ O hE _ hp) h2 h3)
  ·cases h
 | cons e es=>cases es with
  | cons e2 es2=>cases es2 with
   | cons _ _=>cases h
   | nil=>
    dsimp only [cMm] at h
    split at h
    ·rename_i hk
     rw [Bool.and_eq_true,Bool.and_eq_true] at hk
     obtain ⟨h1,h2,h3⟩:=mOk_ok hk.1
     split at h
     ·rename_i a1 he1
      split at h
      ·rename_i a2 he2
       obtain ⟨p,hp,rfl⟩:=mapS h
       first | (refine offM fun ρ=>?_; rw [evM]; done) | (rw [show ∀ m,evM Γ (.mut m p (.cons a1 (.cons a2 .nil))) = fun ρ=>oMut m p.slot (evP Γ.fn p ρ) (oCons (evI Γ.fn a1 ρ) (oCons (evI Γ.fn a2 ρ) (some []))) ρ by intro m; funext ρ; rw [evM,evIs,evIs,evIs]]; exact s_mut2 h1 (s_bp Γ O hE _ hp) (s_argsC hk.2.1 (hE _ _ he1) (s_argsC hk.2.2 (hE _ _ he2) s_argsN)) h2 hk.2.1 hk.2.2 h3)
      ·cases h
     ·split at h
      ·split at h
       ·rename_i i as hi ha
        cases h
        first | (refine offM fun ρ=>?_; rw [evM]; done) | (rw [show ∀ m,evM Γ (.mutMs m i as) = fun ρ=>oMutMs m i ρ[i]? (evMs Γ as ρ) by intro m; funext ρ; conv=>lhs; rw [evM]]; exact s_mutMs O h1 hi (s_msL Γ hM hE ha) h2 hk.2.1 hk.2.2 h3)
       ·cases h
      ·cases h
    ·cases h
  | nil=>
   dsimp only [cMm] at h
   split at h
   ·rename_i hk
    rw [Bool.and_eq_true] at hk
    obtain ⟨h1,h2,h3⟩:=mOk_ok hk.1
    split at h
    ·rename_i e' he
     obtain ⟨p,hp,rfl⟩:=mapS h
     first | (refine offM fun ρ=>?_; rw [evM]; done) | (rw [show ∀ m,evM Γ (.mut m p (.cons e' .nil)) = fun ρ=>oMut m p.slot (evP Γ.fn p ρ) (oCons (evI Γ.fn e' ρ) (some [])) ρ by intro m; funext ρ; rw [evM,evIs,evIs]]; exact s_mut1 h1 (s_bp Γ O hE _ hp) (hE _ _ he) h2 hk.2 h3)
    ·split at h
     ·split at h
      ·rename_i i a' hi ha
       cases h
       first | (refine offM fun ρ=>?_; rw [evM]; done) | (rw [show ∀ m,evM Γ (.mutM m i a') = fun ρ=>oMutM m i ρ[i]? (evM Γ a' ρ) by intro m; funext ρ; conv=>lhs; rw [evM]]; exact s_mutM O h1 hi (hM _ _ ha) h2 hk.2 h3)
      ·cases h
     ·cases h
   ·cases h
theorem s_mc (O:CxOk X (tabG fns Γ) c) {fM:Expr->Option ME} {fE:Expr->Option IE} (hM:∀ e a,fM e = some a->SndM X (evM Γ a) e) (hE:∀ e ie,fE e = some ie->SndE X (evI Γ.fn ie) e) {g:Expr} {as:List Expr} {ks:List Keyword} {pos:Pos} {a:ME} (h:cMc fns c fM fE g as ks pos = some a):SndM X (evM Γ a) (.Call g as ks pos):=by
 cases ks with
 | cons _ _=>cases h
 | nil=>
  dsimp only [cMc] at h
  split at h
  ·exact s_mf fns Γ O hM hE h
  ·exact s_mm fns Γ O hM hE h
  ·cases h
theorem cMcm_ok {α:Type} {k:CmpOp->MEs->α} {fM:Expr->Option ME} {fE:Expr->Option IE} {a:Expr} {ops:List CmpOp} {bs:List Expr} {r:α} (h:cMcm k fM fE a ops bs = some r):∃ op b as,ops = [op]/\bs = [b]/\behindInMarks op b = false/\cMs fM fE [a,b] = some as/\r = k op as:=by
 cases ops with
 | nil=>cases h
 | cons op ops=>cases ops with
  | cons _ _=>cases h
  | nil=>cases bs with
   | nil=>cases h
   | cons b bs=>cases bs with
    | cons _ _=>cases h
    | nil=>
     dsimp only [cMcm] at h
     split at h
     ·cases h
     ·rename_i hm
      obtain ⟨as,ha,rfl⟩:=mapS h
      exact ⟨op,b,as,rfl,rfl,by simpa using hm,ha,rfl⟩
theorem cCoM_ok {fM:Cz->Expr->Option ME} {fE:Cz->Expr->Option IE} {fT:Cz->Expr->Option MT} {elt:Expr} {gs:List Comprehension} {scope:Scope} {p:Pos} {a:ME} (h:cCoM fns c fM fE fT elt gs scope p = some a):∃ tg iter ifs t it ts el,gs = [⟨tg,iter,ifs,0⟩]/\notSet iter = true/\compChk c scope = true/\cTg ⟨relS scope c.sc,namesOf scope,ownC scope⟩ 4 tg = some t/\cItM c (fM c) (cIt c (fE c) tg iter) tg iter = some it/\cTestsM (fT ⟨relS scope c.sc,namesOf scope,ownC scope⟩) ifs = some ts/\fM ⟨relS scope c.sc,namesOf scope,ownC scope⟩ elt = some el/\a = .comp ((fns.an p.line p.col).getD .fz) (capOf c scope) t it ts el:=by
 cases gs with
 | nil=>cases h
 | cons g gs=>cases gs with
  | cons _ _=>cases h
  | nil=>
   dsimp only [cCoM] at h
   split at h
   ·rename_i h0
    split at h
    ·rename_i hn
     rw [Bool.and_eq_true] at hn
     split at h
     ·rename_i t it ts el ht hit hts hel
      cases h
      cases g with
      | mk tg iter ifs as=>
       subst h0
       exact ⟨tg,iter,ifs,t,it,ts,el,rfl,hn.1,hn.2,ht,hit,hts,hel,rfl⟩
     ·cases h
    ·cases h
   ·cases h
theorem s_tcmp {Γt:Tab} (O:CxOk X Γt c) {op:CmpOp} {as:MEs} {x b:Expr} {p:Pos} (hm:behindInMarks op b = false) (h:Snd2M X (evMs Γ as) x b):SndTM X (evMT Γ (.cmp op as)) (.Compare x [op] [b] p):=by
  first
    | (refine offTM fun ρ=>?_; rw [evMT]; done)
    | (have:=t_cmpM (pos:=p) O hm h
       have e:evMT Γ (.cmp op as) = fun ρ=>((evMs Γ as ρ).bind fun p=>(match p.1 with | [x,y]=>(cmpD op x.2 y.2).map fun b=>(b,p.2) | _=>none)):=by
         funext ρ
         rw [evMT]
         unfold oTCmp
         cases evMs Γ as ρ with
         | none=>rfl
         | some p=>
           obtain ⟨kds,ρ'⟩:=p
           dsimp only [Option.bind_some]
           match kds with
           | []=>rfl
           | [_]=>rfl
           | [x,y]=>dsimp only; cases cmpD op x.2 y.2 <;> rfl
           | _ :: _ :: _ :: _=>rfl
       rw [e]
       exact this)
theorem tru_ok {f:Expr->Option ME} (hM:∀ e a,f e = some a->SndM X (evM Γ a) e) {e:Expr} {t:MT} (h:(f e).map MT.tru = some t) (hp:∀ whole,isTrue e X.env whole = (do let v <- whole; standAt e.pos; holding [v] (truthy v))):SndTM X (evMT Γ t) e:=by
 obtain ⟨a',ha,rfl⟩:=mapS h
 first | (refine offTM fun ρ=>?_; rw [evMT]; done) | (rw [show evMT Γ (.tru a') = fun ρ=>oTTru (evM Γ a' ρ) by funext ρ; conv=>lhs; rw [evMT]]; exact t_truM (hM _ _ ha) hp)
theorem snd_m:∀ n:Nat,(∀ X c,CxOk X (tabG fns Γ) c->∀ e a,cM fns n c e = some a->SndM X (evM Γ a) e)/\(∀ X c,CxOk X (tabG fns Γ) c->∀ e t,cMT fns n c e = some t->SndTM X (evMT Γ t) e)
 | 0=>⟨fun X c O e a h=>by (unfold cM at h; cases h),fun X c O e a h=>by (unfold cMT at h; cases h)⟩
 | n + 1=>by
  obtain ⟨ihM,ihT⟩:=snd_m n
  have pure:=snd_both (fm:=fmOf fns Γ) fns Γ.fn n
  refine ⟨fun X c O e a h=>?_,fun X c O e a h=>?_⟩
  ·have hE:=pure.1 X c O
   have hM:=ihM X c O
   have hT:=ihT X c O
   unfold cM at h
   split at h
   ·rename_i ie hi
    cases h
    exact m_pure Γ (hE _ _ hi)
   ·cases e with
    | Name x p=>exact s_mN fns Γ O h
    | Call g as ks pos=>exact s_mc fns Γ O hM hE h
    | Tuple es k p=>
     obtain ⟨as,ha,rfl⟩:=mapS (show (cMs (cM fns n c) (cE fns n c) es).map (.tup (fns.kT p)) = some a from h)
     first | (refine offM fun ρ=>?_; rw [evM]; done) | (rw [show ∀ k,evM Γ (.tup k as) = fun ρ=>oS (fun kds=>oTup k (some kds)) (evMs Γ as ρ) by intro k; funext ρ; rw [evM],oS_bind]; exact n_tup.m (s_msL Γ hM hE ha))
    | List es p=>
     obtain ⟨as,ha,rfl⟩:=mapS (show (cMs (cM fns n c) (cE fns n c) es).map (.lst (fns.kL p)) = some a from h)
     first | (refine offM fun ρ=>?_; rw [evM]; done) | (rw [show ∀ k,evM Γ (.lst k as) = fun ρ=>oS (fun kds=>oLst k (some kds)) (evMs Γ as ρ) by intro k; funext ρ; rw [evM],oS_bind]; exact n_lst.m (s_msL Γ hM hE ha))
    | BinOp x op y p=>
     obtain ⟨as,ha,rfl⟩:=mapS (show (cMs (cM fns n c) (cE fns n c) [x,y]).map (.bin op) = some a from h)
     first | (refine offM fun ρ=>?_; rw [evM]; done) | (rw [show ∀ op,evM Γ (.bin op as) = fun ρ=>oS (f2 (binD op)) (evMs Γ as ρ) by intro k; funext ρ; rw [evM],oS_bind]; exact n_bin.m (s_ms2 Γ hM hE ha))
    | Compare x ops bs p=>
     obtain ⟨op,b,as,rfl,rfl,hm,ha,rfl⟩:=cMcm_ok (show cMcm ME.cmp (cM fns n c) (cE fns n c) x ops bs = some a from h)
     first | (refine offM fun ρ=>?_; rw [evM]; done) | (rw [show ∀ op,evM Γ (.cmp op as) = fun ρ=>oS (f2 fun x y=>bV (cmpD op x.2 y.2)) (evMs Γ as ρ) by intro k; funext ρ; rw [evM],oS_bind]; exact (n_cmp O hm).m (s_ms2 Γ hM hE ha))
    | Subscript x b p=>
     dsimp only at h
     split at h
     ·rename_i hp
      obtain ⟨as,ha,rfl⟩:=mapS h
      first | (refine offM fun ρ=>?_; rw [evM]; done) | (rw [show evM Γ (.ix as) = fun ρ=>oS (f2 fIx) (evMs Γ as ρ) by funext ρ; rw [evM],oS_bind]; exact (n_ix O hp).m (s_ms2 Γ hM hE ha))
     ·split at h
      ·rename_i hi hhi
       obtain ⟨p2,rfl⟩:=hiOf_is hhi
       obtain ⟨as,ha,rfl⟩:=mapS h
       first | (refine offM fun ρ=>?_; rw [evM]; done) | (rw [show evM Γ (.slh as) = fun ρ=>oS (f2 fSlh) (evMs Γ as ρ) by funext ρ; rw [evM],oS_bind]; exact n_slh.m (s_ms2 Γ hM hE ha))
      ·cases h
    | IfExp t x b p=>
     dsimp only at h
     split at h
     ·rename_i t' a' b' ht ha hb
      cases h
      first | (refine offM fun ρ=>?_; rw [evM]; done) | (rw [show evM Γ (.ifx t' a' b') = fun ρ=>oIfM (evMT Γ t' ρ) (evM Γ a') (evM Γ b') by funext ρ; conv=>lhs; rw [evM]]; exact s_ifM (hT _ _ ht) (hM _ _ ha) (hM _ _ hb))
     ·cases h
    | ListComp elt gs scope p=>
     obtain ⟨tg,iter,ifs,t,it,ts,el,rfl,hn1,hn2,ht,hit,hts,hel,rfl⟩:=cCoM_ok fns (show cCoM fns c (cM fns n) (cE fns n) (cMT fns n) elt gs scope p = some a from h)
     have CO:=cx_comp O hn2
     first | (refine offM fun ρ=>?_; rw [evM]; done) | (rw [show ∀ r cap,evM Γ (.comp r cap t it ts el) = fun ρ=>oCompM r (evMI Γ it ρ) (eltM cap t (evMO Γ ts) (evM Γ el)) cap by intro r cap; funext ρ; conv=>lhs; rw [evM]]; exact s_compM O hn2 hn1 (s_itMI fns Γ O hM hE hit) ht (fun C s H ex=>s_testsM Γ (ihT _ _ (CO C s H ex)) hts) (fun C s H ex=>ihM _ _ (CO C s H ex) _ _ hel))
    | _=>cases h
  ·have hE:=pure.1 X c O
   have hM:=ihM X c O
   have hT:=ihT X c O
   unfold cMT at h
   split at h
   ·rename_i ie hi
    split at h
    ·cases h
     have:=(pure.2 X c O _ _ hi).m
     rw [show (fun ρ=>(evIT Γ.fn ie ρ).map fun p=>(p,ρ)) = evMT Γ (.p ie) by funext ρ; rw [evMT]; unfold oTb; cases evIT Γ.fn ie ρ <;> rfl] at this
     exact this
    ·rename_i i is _
     cases h
     first | (refine offTM fun ρ=>?_; rw [evMT]; done) | (rw [show evMT Γ (.vw (i :: is) ie) = fun ρ=>oTb (evIT Γ.fn ie (frzN (i :: is) ρ)) ρ by funext ρ; rw [evMT]]; exact t_vw (pure.2 X c O _ _ hi))
   ·cases e with
    | Compare x ops bs p=>
     obtain ⟨op,b,as,rfl,rfl,hm,ha,rfl⟩:=cMcm_ok (show cMcm MT.cmp (cM fns n c) (cE fns n c) x ops bs = some a from h)
     exact s_tcmp Γ O hm (s_ms2 Γ hM hE ha)
    | UnaryOp op x p=>cases op with
     | Not=>
      obtain ⟨t,ht,rfl⟩:=mapS (show (cMT fns n c x).map .not = some a from h)
      first | (refine offTM fun ρ=>?_; rw [evMT]; done) | (rw [show evMT Γ (.not t) = fun ρ=>match evMT Γ t ρ with | some (b,ρ')=>some (!b,ρ') | none=>none by funext ρ; conv=>lhs; rw [evMT]]; exact t_notM (hT _ _ ht))
     | _=>cases h
    | BoolOp op es p=>
     obtain ⟨ts,ht,rfl⟩:=mapS (show (cTs (cMT fns n c) es).map (.bool op) = some a from h)
     first | (refine offTM fun ρ=>?_; rw [evMT]; done) | (rw [show ∀ op,evMT Γ (.bool op ts) = evMTs Γ op ts by intro op; funext ρ; conv=>lhs; rw [evMT]]; exact fun ρ b ρ' h g σ H Q se q=>fun pins s I=>w_boolM Γ hT _ _ ht ρ b ρ' h g σ H Q se q _ pins s I)
    | Call f as ks p=>exact tru_ok Γ hM (show (cM fns n c (.Call f as ks p)).map .tru = some a from h) (fun _=>rfl)
    | Subscript x b p=>exact tru_ok Γ hM (show (cM fns n c (.Subscript x b p)).map .tru = some a from h) (fun _=>rfl)
    | Name x p=>exact tru_ok Γ hM (show (cM fns n c (.Name x p)).map .tru = some a from h) (fun _=>rfl)
    | Constant k j p=>exact tru_ok Γ hM (show (cM fns n c (.Constant k j p)).map .tru = some a from h) (fun _=>rfl)
    | _=>cases h
end
end J
namespace J
open PySem PySem.Spec L2
inductive Res where
 | nx (ρ:Ro) | rt (kd:Kd) (d:D) (ρ:Ro) | ct (ρ:Ro) | bk (ρ:Ro)
noncomputable def PinOk (pn:List Nat) (σ σ':L2.St):Prop:=∀ i ∈ pn,σ'[i]? = σ[i]?
noncomputable def EndM (K:PySem.W.Frag) (pn:List Nat) (g:Gh) (H:Hp) (σ:L2.St) (Dn:Ends):Res->Prop
 | .nx ρ'=>∀ σ' g' H',Evo g H g' H' noF->SE K g' ρ' σ' H'->PinOk pn σ σ'->Dn.nx σ' H'
 | .rt kd d ρ'=>∀ v σ' g' H' F,Evo g H g' H' F->SE K (g'.plus F) ρ' σ' H'->PinOk pn σ σ'->VR1 K H' g' F kd d v F->Dn.rt v H'
 | .ct ρ'=>∀ σ' g' H',Evo g H g' H' noF->SE K g' ρ' σ' H'->PinOk pn σ σ'->Dn.ct σ' H'
 | .bk ρ'=>∀ σ' g' H',Evo g H g' H' noF->SE K g' ρ' σ' H'->PinOk pn σ σ'->Dn.bk σ' H'
noncomputable def wSs (X:Cx) (st:List Stmt):TS:=fun Dn σ H=>∀ pins s,Inv X pins σ H s->wpAny (model X.prog X.w) X.A (execs st X.env) (SP X pins Dn) X.xe s
noncomputable def wSt (X:Cx) (st:Stmt):TS:=fun Dn σ H=>∀ pins s,Inv X pins σ H s->wpAny (model X.prog X.w) X.A (exec st X.env) (SP X pins Dn) X.xe s
theorem pss_w {X:Cx} {st:List Stmt}:PSs X st (wSs X st):=fun pins s σ H D I h=>h pins s I
theorem ps_w {X:Cx} {st:Stmt}:PS X st (wSt X st):=fun pins s σ H D I h=>h pins s I
theorem ps_le {X:Cx} {st:Stmt} {t:TS} (p:PS X st t) {Dn:Ends} {σ:L2.St} {H:Hp} (h:t Dn σ H):wSt X st Dn σ H:=fun pins s I=>p pins s σ H Dn I h
theorem pss_le {X:Cx} {st:List Stmt} {t:TS} (p:PSs X st t) {Dn:Ends} {σ:L2.St} {H:Hp} (h:t Dn σ H):wSs X st Dn σ H:=fun pins s I=>p pins s σ H Dn I h
noncomputable def SndS (X:Cx) (pn:List Nat) (f:Ro->Option Res) (st:Stmt):Prop:=∀ ρ r,f ρ = some r->∀ g σ H Dn,SE X.K g ρ σ H->EndM X.K pn g H σ Dn r->wSt X st Dn σ H
noncomputable def SndB (X:Cx) (pn:List Nat) (f:Ro->Option Res) (st:List Stmt):Prop:=∀ ρ r,f ρ = some r->∀ g σ H Dn,SE X.K g ρ σ H->EndM X.K pn g H σ Dn r->wSs X st Dn σ H
section
variable {K:PySem.W.Frag} {H H' H1:Hp} {g g' g1:Gh} {F F1 F2:Pr} {ρ:Ro} {σ σ' σ1:L2.St} {pn:List Nat}
theorem PinOk.refl:PinOk pn σ σ:=fun _ _=>rfl
theorem PinOk.trans {σ2:L2.St} (a:PinOk pn σ σ1) (b:PinOk pn σ1 σ2):PinOk pn σ σ2:=fun i h=>(b i h).trans (a i h)
theorem PinOk.set {i:Nat} {v:Option V} (h:i ∉ pn):PinOk pn σ (σ.set i v):=fun j hj=>List.getElem?_set_ne fun z=>h (by rw [z]; exact hj)
theorem EndM.from {Dn:Ends} {r:Res} (h:EndM K pn g H σ Dn r) (ev:Evo g H g1 H1 noF) (pk:PinOk pn σ σ1):EndM K pn g1 H1 σ1 Dn r:=by
 cases r with
 | nx ρ'=>exact fun σ' g' H' e s p=>h σ' g' H' (evo_seq ev e) s (pk.trans p)
 | rt kd d ρ'=>exact fun v σ' g' H' F e s p r=>h v σ' g' H' F (evo_seq ev e) s (pk.trans p) r
 | ct ρ'=>exact fun σ' g' H' e s p=>h σ' g' H' (evo_seq ev e) s (pk.trans p)
 | bk ρ'=>exact fun σ' g' H' e s p=>h σ' g' H' (evo_seq ev e) s (pk.trans p)
theorem put1 {i:Nat} {d:D} {k:Ow} {v:V} {S:Pr} (ev:Evo g H g1 H1 F) (se:SE K (g1.plus F) ρ σ H1) (hF:∀ b,F b ↔ F1 b\/F2 b) (dj:∀ b,F1 b->¬ F2 b) (hS:∀ b,Sx g1 F b->S b) (t:Tr K H1 S d k v F1) :
  Evo g H (g1.give F1 i) H1 F2/\SE K ((g1.give F1 i).plus F2) (ρ.set i (some ⟨false,k,d⟩)) (σ.set i (some v)) H1/\∀ b,Sx (g1.give F1 i) F2 b ↔ Sx g1 F b:=by
 have n1:∀ b,F1 b->g1 b = none:=fun b z=>(ev.tmp b ((hF b).mpr (.inl z))).1
 have hs:∀ b,Sx (g1.give F1 i) F2 b ↔ Sx g1 F b:=fun b=>by
  unfold Sx
  rw [hF b]
  constructor
  ·rintro (z | z)
   ·exact (give_S.mp z).imp id .inl
   ·exact .inr (.inr z)
  ·rintro (z | z | z)
   ·exact .inl (give_S.mpr (.inl z))
   ·exact .inl (give_S.mpr (.inr z))
   ·exact .inr z
 have hp:∀ b,Sg ((g1.give F1 i).plus F2) b ↔ Sx g1 F b:=fun b=>(plus_S b).trans (hs b)
 have sub:∀ b,Sg ((g1.give F1 i).plus F2) b->Sg (g1.plus F) b:=fun b z=>(plus_S b).mpr ((hp b).mp z)
 refine ⟨⟨ev.keep,fun b=>⟨fun e=>?_,fun e=>?_⟩,fun b j e=>?_,fun b z=>?_,ev.dom⟩,⟨fun j sl e=>?_,fun b z=>se.mu b (sub b z),by simp [se.len]⟩,hs⟩
 ·have:=(ev.out b).mp e
  rw [give_ne (fun z=>by rw [n1 b z] at this; cases this)]; exact this
 ·by_cases z:F1 b
  ·rw [give_at z] at e; cases e
  ·rw [give_ne z] at e; exact (ev.out b).mpr e
 ·by_cases z:F1 b
  ·exact (ev.tmp b ((hF b).mpr (.inl z))).2
  ·rw [give_ne z] at e; exact ev.new b j e
 ·have:=ev.tmp b ((hF b).mpr (.inr z))
  exact ⟨by rw [give_ne fun z1=>dj b z1 z]; exact this.1,this.2⟩
 ·by_cases hj:j = i
  ·subst hj
   have hlt:j < ρ.length:=by
    have:=(List.getElem?_eq_some_iff.mp e).1
    simpa using this
   rw [List.getElem?_set_self hlt] at e
   cases e
   refine ⟨v,F1,List.getElem?_set_self (by rw [<- se.len]; exact hlt),fun b z=>sl_plus (give_at z) (dj b z),t.go (fun _ _ _ e=>e) fun b o _ n z=>n (hS b ((hp b).mp z))⟩
  ·rw [List.getElem?_set_ne (Ne.symm hj)] at e ⊢
   obtain ⟨w,Fj,e1,e2,e3⟩:=se.slot j sl e
   refine ⟨w,Fj,e1,fun b z=>?_,e3.go (fun _ _ _ e=>e) fun b o _ n z=>n (sub b z)⟩
   have q:=plus_sl (e2 b z)
   have nF:¬ F b:=fun z2=>by rw [(ev.tmp b z2).1] at q; cases q
   refine sl_plus ?_ fun z2=>nF ((hF b).mpr (.inr z2))
   rw [give_ne fun z2=>nF ((hF b).mpr (.inl z2))]; exact q
noncomputable def kOf:Kd->Ow
 | .fr k=>k
 | _=>.fz
theorem VR1.tr {kd:Kd} {d:D} {v:V} (hb:isBo kd = false) (h:VR1 K H g F kd d v F):Tr K H (Sx g F) d (kOf kd) v F:=by
 cases kd with
 | sh=>
  have e:F = noF:=by funext b; exact propext ⟨h.1 b,fun z=>z.elim⟩
  rw [show kOf .sh = .fz from rfl]
  have:=Tr.fz h.2
  rw [e] at this ⊢
  exact this
 | fr k=>exact h
 | bo i k=>cases hb
end
noncomputable def noComp:Expr->Bool
 | .ListComp .. | .SetComp .. | .DictComp ..=>false
 | _=>true
theorem swap_ok {e:Expr} {t:Option Expr} {n:Nat} {env:Env} (h:noComp e = true):swapsWith e t n env = pure false:=by
 cases e <;> first | rfl | cases h
noncomputable def noTup:Expr->Bool
 | .Tuple ..=>false
 | _=>true
theorem swapT_sole {es:List Expr} {k:Nat} {tp:Pos} {e:Expr} {n:Nat} {env:Env}:swapsWithSole [.Tuple es k tp] e n env = pure false:=by
 cases e <;> rfl
theorem swapT_st {es:List Expr} {k:Nat} {tp:Pos} {e:Expr} {env:Env} (h:noTup e = true):swappedStores [.Tuple es k tp] e env = pure none:=by
 cases e <;> first | rfl | cases h
noncomputable def oAsg (pn:List Nat) (i:Nat) (a:MR):Option Res:=match a with
 | some (kd,d,ρ1)=>if isBo (imK kd d) = true\/i ∈ pn then none else some (.nx (ρ1.set i (some ⟨false,kOf (imK kd d),d⟩)))
 | none=>none
section
variable {X:Cx} {Γ:Tab} {c:Cz} {pn:List Nat}
theorem asg_post {K:PySem.W.Frag} {g g1:Gh} {H H1:Hp} {F:Pr} {ρ1:Ro} {σ:L2.St} {i:Nat} {kd:Kd} {d:D} {v:V} {r:Res} {Dn:Ends} (h:oAsg pn i (some (kd,d,ρ1)) = some r) (q:EndM K pn g H σ Dn r) (ev:Evo g H g1 H1 F) (se:SE K (g1.plus F) ρ1 σ H1) (vr:VR1 K H1 g1 F kd d v F):Dn.nx (σ.set i (some v)) H1:=by
 unfold oAsg at h
 dsimp only at h
 split at h
 ·cases h
 ·rename_i hb
  cases h
  rw [not_or] at hb
  have vr1:=vr.im se.mu
  obtain ⟨c1,c2,_⟩:=put1 (i:=i) (F2:=noF) ev se (fun b=>⟨.inl,fun z=>z.elim id fun z=>z.elim⟩) (fun _ _ z=>z) (fun _ z=>z) (vr1.tr (by simpa using hb.1))
  exact q _ _ H1 c1 (by rw [plus_no fun _ z=>z] at c2; exact c2) (PinOk.set hb.2)
theorem s_asg (O:CxOk X Γ c) {f:Ro->MR} {x:Str} {i:Nat} {e:Expr} {p pos:Pos} (hl:locB c x = true) (hi:ixOf x c.N = some i) (hn:noComp e = true) (hf:SndM X f e):SndS X pn (fun ρ=>oAsg pn i (f ρ)) (.Assign [.Name x p] e pos):=by
 intro ρ r h g σ H Dn se q
 have l:=loc_of O hl
 cases hf':f ρ with
 | none=>dsimp only at h; rw [hf'] at h; cases h
 | some w=>
  obtain ⟨kd,d,ρ1⟩:=w
  dsimp only at h
  rw [hf'] at h
  exact ps_le (ps_set (i:=i) (by rw [O.N]; exact O.nd) (by rw [O.N]; exact ixOf_get hi) l.1 pe_w (swap_ok hn) l.2) (hf ρ kd d ρ1 hf' g σ H _ se fun v g1 H1 F ev se1 vr=>asg_post h q ev se1 vr)
noncomputable def tgsN:List Nat->TGs
 | []=>gNil
 | i :: is=>gCons (gName i) (tgsN is)
noncomputable def putN:List Nat->List D->List Ow->Ow->Ro->Ro
 | i :: is,d :: ds,es,r,ρ=>putN is ds es.tail r (ρ.set i (some ⟨false,es.headD r,d⟩))
 | _,_,_,_,ρ=>ρ
theorem putN_run {K:PySem.W.Frag} {g:Gh} {H H1:Hp} {σ0:L2.St} {Q:L2.St->Hp->Prop}:∀ {is:List Nat} {ds:List D} {es:List Ow} {r:Ow} {vs:List V} {g1:Gh} {F S:Pr} {ρ:Ro} {σ:L2.St},is.length = ds.length->(∀ i ∈ is,i ∉ pn)->Evo g H g1 H1 F->SE K (g1.plus F) ρ σ H1->(∀ b,Sx g1 F b->S b)->TrL K H1 S ds es r vs F->PinOk pn σ0 σ->
  (∀ g2 σ2,Evo g H g2 H1 noF->SE K g2 (putN is ds es r ρ) σ2 H1->PinOk pn σ0 σ2->Q σ2 H1)->tgsN is vs σ H1 Q
 | [],[],es,r,vs,g1,F,S,ρ,σ,hl,hp,ev,se,hS,t,pk,q=>by
  unfold TrL at t
  have e:F = noF:=by funext b; exact propext ⟨t.2 b,fun z=>z.elim⟩
  subst e
  exact ⟨t.1,q g1 σ ev (by rw [plus_no fun _ z=>z] at se; exact se) pk⟩
 | [],_ :: _,_,_,_,_,_,_,_,_,hl,_,_,_,_,_,_,_=>by simp at hl
 | _ :: _,[],_,_,_,_,_,_,_,_,hl,_,_,_,_,_,_,_=>by simp at hl
 | i :: is,d :: ds,es,r,vs,g1,F,S,ρ,σ,hl,hp,ev,se,hS,t,pk,q=>by
  unfold TrL at t
  obtain ⟨y,ys,F1,F2,rfl,hF,dj,t1,t2⟩:=t
  obtain ⟨c1,c2,c3⟩:=put1 (i:=i) ev se hF dj hS t1
  exact ⟨y,ys,rfl,putN_run (by simpa using hl) (fun j hj=>hp j (List.mem_cons_of_mem _ hj)) c1 c2 (fun b z=>hS b ((c3 b).mp z)) t2 (pk.trans (PinOk.set (hp i List.mem_cons_self))) q⟩
noncomputable def partsK (kd:Kd) (ds:List D):Option (List Ow × Ow):=match kd with
 | .sh=>some ([],.fz)
 | .fr (.own es r)=>some (es,r)
 | .fr .fz=>some ([],.fz)
 | .bo _ _=>if imL ds = true then some ([],.fz) else none
theorem VR1.parts {K:PySem.W.Frag} {H:Hp} {g:Gh} {F:Pr} {kd:Kd} {hd:Hd} {ds:List D} {v:V} {es:List Ow} {r:Ow} (hh:hd = .tup\/hd = .lst) (hk:partsK kd ds = some (es,r)) (m:MuOk H (Sx g F)) (h:VR1 K H g F kd (.nd hd ds) v F):∃ a o xs F',v = .ref a/\H a = some o/\HdOk K o hd xs/\(∀ b,F' b->F b)/\TrL K H (Sx g F) ds es r xs F':=by
 have fl:∀ {d:List D} {xs:List V},RpL K H (Sx g F) d xs->TrL K H (Sx g F) d [] .fz xs noF:=fun h=>.ofFlat (fun e z=>by cases z) h
 cases kd with
 | sh=>
  cases hk
  obtain ⟨a,o,xs,rfl,_,g1,q1,rl⟩:=h.2.nd
  exact ⟨a,o,xs,noF,rfl,g1,q1,fun _ z=>z.elim,fl rl⟩
 | fr k=>
  cases k with
  | fz=>
   cases hk
   obtain ⟨a,o,xs,rfl,_,g1,q1,rl⟩:=(Tr.fz_inv h).2.nd
   exact ⟨a,o,xs,noF,rfl,g1,q1,fun _ z=>z.elim,fl rl⟩
  | own es' r'=>
   cases hk
   have h':Tr K H (Sx g F) (.nd hd ds) (.own es r) v F:=h
   unfold Tr at h'
   obtain ⟨a,o,xs,F',rfl,g1,q1,_,_,hF,t⟩:=h'
   exact ⟨a,o,xs,F',rfl,g1,q1,fun b z=>(hF b).mpr (.inr z),t⟩
 | bo i k=>
  simp only [partsK] at hk
  split at hk
  ·rename_i hi
   cases hk
   obtain ⟨a,o,xs,rfl,_,g1,q1,rl⟩:=h.rd.nd
   exact ⟨a,o,xs,noF,rfl,g1,q1,fun _ z=>z.elim,fl (rl.im m hi)⟩
  ·cases hk
noncomputable def oUnp (pn:List Nat) (is:List Nat) (a:MR):Option Res:=match a with
 | some (kd,.nd .tup ds,ρ1)=>(match partsK kd ds with | some (es,r)=>if is.length = ds.length/\(is.all fun i=>!pn.contains i) = true then some (.nx (putN is ds es r ρ1)) else none | none=>none)
 | some (kd,.nd .lst ds,ρ1)=>(match partsK kd ds with | some (es,r)=>if is.length = ds.length/\(is.all fun i=>!pn.contains i) = true then some (.nx (putN is ds es r ρ1)) else none | none=>none)
 | _=>none
noncomputable def cNms (c:Cz):List Expr->Option (List Nat)
 | []=>some []
 | .Name x _ :: r=>if locB c x then (match ixOf x c.N,cNms c r with | some i,some is=>some (i :: is) | _,_=>none) else none
 | _=>none
theorem pgs_nms (O:CxOk X Γ c):∀ {es:List Expr} {is:List Nat},cNms c es = some is->PGs X es (tgsN is)/\(assignEach es X.env).length = is.length/\(assignEach es X.env).findIdx? (·.1) = none
 | [],is,h=>by cases h; exact ⟨pgs_nil,rfl,rfl⟩
 | e :: es,is,h=>by
  cases e with
  | Name x p=>
   unfold cNms at h
   split at h
   ·rename_i hl
    split at h
    ·rename_i i is' hi his
     cases h
     have l:=loc_of O hl
     obtain ⟨g1,g2,g3⟩:=pgs_nms O his
     refine ⟨pgs_cons (pg_name (i:=i) (by rw [O.N]; exact O.nd) (by rw [O.N]; exact ixOf_get hi) l.1 l.2) g1,?_,?_⟩
     ·show (assignEach es X.env).length + 1 = _
      rw [g2]; rfl
     ·show ((false,assign (.Name x p) X.env) :: assignEach es X.env).findIdx? (·.1) = none
      rw [List.findIdx?_cons]
      simp [g3]
    ·cases h
   ·cases h
  | _=>cases h
theorem s_unp (O:CxOk X Γ c) {f:Ro->MR} {es:List Expr} {is:List Nat} {k:Nat} {e:Expr} {tp pos:Pos} (hf:SndM X f e) (h1:cNms c es = some is) (hn:noTup e = true):SndS X pn (fun ρ=>oUnp pn is (f ρ)) (.Assign [.Tuple es k tp] e pos):=by
 intro ρ r h g σ H Dn se q
 obtain ⟨g1,g2,g3⟩:=pgs_nms O h1
 have pin:(is.all fun i=>!pn.contains i) = true->∀ i ∈ is,i ∉ pn:=fun h i hi=>by
  have:=List.all_eq_true.mp h i hi
  simpa using this
 dsimp only [oUnp] at h
 split at h
 ·rename_i kd ds ρ1 he
  split at h
  ·rename_i ks r0 hk
   split at h
   ·rename_i hl
    cases h
    refine ps_le (ps_asg pe_w (pg_tup O.calm g1 g2 g3) swapT_sole (swapT_st hn)) (hf ρ _ _ _ he g σ H _ se fun v g' H1 F ev se1 vr=>?_)
    obtain ⟨a,o,xs,F',rfl,ga,qa,sF,t⟩:=vr.parts (.inl rfl) hk fun b z=>se1.mu b ((plus_S b).mpr z)
    cases (show o = _ from qa)
    refine ⟨a,xs,rfl,.of ga,by rw [t.len,hl.1],putN_run hl.1 (pin hl.2) (ev.drop sF) (se1.drop sF fun b z=>(ev.tmp b z).1) (fun b z=>z.imp id (sF b)) t PinOk.refl fun g2 σ2 e2 s2 p2=>q σ2 g2 H1 e2 s2 p2⟩
   ·cases h
  ·cases h
 ·rename_i kd ds ρ1 he
  split at h
  ·rename_i ks r0 hk
   split at h
   ·rename_i hl
    cases h
    refine ps_le (ps_asg pe_w (pg_lst O.calm g1 g2 g3) swapT_sole (swapT_st hn)) (hf ρ _ _ _ he g σ H _ se fun v g' H1 F ev se1 vr=>?_)
    obtain ⟨a,o,xs,F',rfl,ga,qa,sF,t⟩:=vr.parts (.inr rfl) hk fun b z=>se1.mu b ((plus_S b).mpr z)
    cases (show o = _ from qa)
    refine ⟨a,xs,rfl,.of ga,by rw [t.len,hl.1],putN_run hl.1 (pin hl.2) (ev.drop sF) (se1.drop sF fun b z=>(ev.tmp b z).1) (fun b z=>z.imp id (sF b)) t PinOk.refl fun g2 σ2 e2 s2 p2=>q σ2 g2 H1 e2 s2 p2⟩
   ·cases h
  ·cases h
 ·cases h
noncomputable def oRet (a:MR):Option Res:=match a with
 | some (kd,d,ρ1)=>if isBo (imK kd d) = true then none else some (.rt (imK kd d) d ρ1)
 | none=>none
theorem s_ret {f:Ro->MR} {e:Expr} {pos:Pos} (hf:SndM X f e):SndS X pn (fun ρ=>oRet (f ρ)) (.Return (some e) pos):=by
 intro ρ r h g σ H Dn se q
 dsimp only [oRet] at h
 split at h
 ·rename_i kd d ρ1 he
  split at h
  ·cases h
  ·cases h
   exact ps_le (ps_ret pe_w) (hf ρ _ _ _ he g σ H _ se fun v g1 H1 F ev se1 vr=>q v σ g1 H1 F ev se1 PinOk.refl (vr.im se1.mu))
 ·cases h
noncomputable def oExp (a:MR):Option Res:=match a with
 | some (_,_,ρ1)=>some (.nx ρ1)
 | none=>none
theorem s_exp {f:Ro->MR} {e:Expr} {pos:Pos} (hn:noComp e = true) (hf:SndM X f e):SndS X pn (fun ρ=>oExp (f ρ)) (.Expr e pos):=by
 intro ρ r h g σ H Dn se q
 dsimp only [oExp] at h
 split at h
 ·rename_i kd d ρ1 he
  cases h
  refine ps_le (ps_expr pe_w (swap_ok hn)) (hf ρ _ _ _ he g σ H _ se fun v g1 H1 F ev se1 vr=>q σ g1 H1 (ev.drop fun _ z=>z.elim) ?_ PinOk.refl)
  have:=se1.drop (F2:=noF) (fun _ z=>z.elim) fun b z=>(ev.tmp b z).1
  rw [plus_no fun _ z=>z] at this
  exact this
 ·cases h
theorem s_doc {x:Str} {j:Nat} {pos pos':Pos}:SndS X pn (fun ρ=>some (.nx ρ)) (.Expr (.Constant (.str x) j pos) pos'):=by
 intro ρ r h g σ H Dn se q
 cases h
 exact ps_le ps_doc (q σ g H (.refl g H) se PinOk.refl)
noncomputable def oIfR (t:Option (Bool × Ro)) (a b:Ro->Option Res):Option Res:=match t with
 | some (true,ρ)=>a ρ
 | some (false,ρ)=>b ρ
 | none=>none
theorem s_ifS {ft:Ro->Option (Bool × Ro)} {fa fb:Ro->Option Res} {t:Expr} {a b:List Stmt} {pos:Pos} (ht:SndTM X ft t) (ha:SndB X pn fa a) (hb:SndB X pn fb b):SndS X pn (fun ρ=>oIfR (ft ρ) fa fb) (.If t a b pos):=by
 intro ρ r h g σ H Dn se q
 dsimp only [oIfR] at h
 split at h
 ·rename_i ρ1 e
  exact ps_le (ps_if pt_w pss_w pss_w) (ht ρ _ _ e g σ H _ se fun g1 H1 ev se1=>iteT (ha ρ1 r h g1 σ H1 Dn se1 (q.from ev PinOk.refl)))
 ·rename_i ρ1 e
  exact ps_le (ps_if pt_w pss_w pss_w) (ht ρ _ _ e g σ H _ se fun g1 H1 ev se1=>iteF (hb ρ1 r h g1 σ H1 Dn se1 (q.from ev PinOk.refl)))
 ·cases h
noncomputable def oSeq2 (a:Option Res) (b:Ro->Option Res):Option Res:=match a with
 | some (.nx ρ)=>b ρ
 | r=>r
theorem b_nil:SndB X pn (fun ρ=>some (.nx ρ)) []:=by
 intro ρ r h g σ H Dn se q
 cases h
 exact pss_le pss_nil (q σ g H (.refl g H) se PinOk.refl)
theorem b_cons {fa fb:Ro->Option Res} {s:Stmt} {st:List Stmt} (ha:SndS X pn fa s) (hb:SndB X pn fb st):SndB X pn (fun ρ=>oSeq2 (fa ρ) fb) (s :: st):=by
 intro ρ r h g σ H Dn se q
 dsimp only at h
 refine pss_le (pss_cons ps_w pss_w) ?_
 cases e:fa ρ with
 | none=>rw [e] at h; cases h
 | some ra=>
  rw [e] at h
  cases ra with
  | nx ρ1=>exact ha ρ _ e g σ H _ se fun σ1 g1 H1 ev se1 pk=>hb ρ1 r h g1 σ1 H1 Dn se1 (q.from ev pk)
  | rt kd d ρ1=>cases h; exact ha ρ _ e g σ H _ se q
  | ct ρ1=>cases h; exact ha ρ _ e g σ H _ se q
  | bk ρ1=>cases h; exact ha ρ _ e g σ H _ se q
theorem s_pass {pos:Pos}:SndS X pn (fun ρ=>some (.nx ρ)) (.Pass pos):=by
 intro ρ r h g σ H Dn se q
 cases h
 exact ps_le ps_pass (q σ g H (.refl g H) se PinOk.refl)
end
end J
namespace J
open PySem PySem.Spec L2
open Classical in
noncomputable def Gh.lend (g:Gh) (bs:List Nat):Gh:=fun b=>if ∃ i ∈ bs,g b = some (some i) then some none else g b
open Classical in
noncomputable def Gh.unlend (g' g:Gh) (bs:List Nat):Gh:=fun b=>if ∃ i ∈ bs,g b = some (some i) then g b else g' b
noncomputable def clrN:List Nat->Ro->Ro
 | [],ρ=>ρ
 | i :: is,ρ=>clrN is (ρ.set i none)
noncomputable def rst:List Nat->Ro->Ro->Ro
 | [],_,ρ'=>ρ'
 | i :: is,ρ,ρ'=>rst is ρ (ρ'.set i (ρ[i]?).join)
section
variable {K:PySem.W.Frag} {H H' H1:Hp} {g g' g1:Gh} {F:Pr} {ρ ρ':Ro} {σ σ':L2.St} {bs:List Nat}
theorem lend_S (b:Addr):Sg (g.lend bs) b ↔ Sg g b:=by
 unfold Gh.lend Sg
 dsimp only
 by_cases h:∃ i ∈ bs,g b = some (some i)
 ·rw [if_pos h]
  obtain ⟨i,_,e⟩:=h
  simp [e]
 ·rw [if_neg h]
theorem lend_sl {b:Addr} {j:Nat} (h:g.lend bs b = some (some j)):g b = some (some j)/\j ∉ bs:=by
 unfold Gh.lend at h
 split at h
 ·cases h
 ·rename_i n; exact ⟨h,fun z=>n ⟨j,z,h⟩⟩
theorem lend_at {b:Addr} {i:Nat} (hi:i ∈ bs) (h:g b = some (some i)):g.lend bs b = some none:=by
 unfold Gh.lend; rw [if_pos ⟨i,hi,h⟩]
theorem lend_ne {b:Addr} (h:∀ i ∈ bs,g b ≠ some (some i)):g.lend bs b = g b:=by
 unfold Gh.lend; rw [if_neg fun ⟨i,hi,e⟩=>h i hi e]
theorem clrN_len:∀ {is:List Nat} {ρ:Ro},(clrN is ρ).length = ρ.length
 | [],_=>rfl
 | i :: is,ρ=>by unfold clrN; rw [clrN_len]; simp
theorem clrN_some:∀ {is:List Nat} {ρ:Ro} {j:Nat} {sl:Sl},(clrN is ρ)[j]? = some (some sl)->ρ[j]? = some (some sl)/\j ∉ is
 | [],_,_,_,h=>⟨h,by simp⟩
 | i :: is,ρ,j,sl,h=>by
  unfold clrN at h
  obtain ⟨h1,h2⟩:=clrN_some h
  have hne:j ≠ i:=fun z=>by
   subst z
   have hlt:j < ρ.length:=by
    have:=(List.getElem?_eq_some_iff.mp h1).1
    simpa using this
   rw [List.getElem?_set_self hlt] at h1
   cases h1
  rw [List.getElem?_set_ne (Ne.symm hne)] at h1
  exact ⟨h1,by simp [hne,h2]⟩
theorem rst_len:∀ {is:List Nat} {ρ ρ':Ro},(rst is ρ ρ').length = ρ'.length
 | [],_,_=>rfl
 | i :: is,ρ,ρ'=>by unfold rst; rw [rst_len]; simp
theorem rst_some:∀ {is:List Nat} {ρ ρ':Ro} {j:Nat} {sl:Sl},(rst is ρ ρ')[j]? = some (some sl)->(j ∈ is/\ρ[j]? = some (some sl))\/(j ∉ is/\ρ'[j]? = some (some sl))
 | [],_,_,_,_,h=>.inr ⟨by simp,h⟩
 | i :: is,ρ,ρ',j,sl,h=>by
  unfold rst at h
  rcases rst_some h with ⟨h1,h2⟩ | ⟨h1,h2⟩
  ·exact .inl ⟨List.mem_cons_of_mem _ h1,h2⟩
  ·by_cases hj:j = i
   ·subst hj
    have hlt:j < ρ'.length:=by
     have:=(List.getElem?_eq_some_iff.mp h2).1
     simpa using this
    rw [List.getElem?_set_self hlt] at h2
    refine .inl ⟨List.mem_cons_self,?_⟩
    have:(ρ[j]?).join = some sl:=by simpa using h2
    cases q:ρ[j]? with
    | none=>rw [q] at this; cases this
    | some o=>rw [q] at this; have:o = some sl:=this; rw [this]
   ·rw [List.getElem?_set_ne (Ne.symm hj)] at h2
    exact .inr ⟨by simp [hj,h1],h2⟩
theorem SE.clrN (h:SE K g ρ σ H) (is:List Nat):SE K g (clrN is ρ) σ H:=⟨fun i sl e=>h.slot i sl (clrN_some e).1,h.mu,by rw [clrN_len]; exact h.len⟩
theorem SE.lend (h:SE K g ρ σ H) (bs:List Nat):SE K (g.lend bs) (J.clrN bs ρ) σ H:=by
 refine ⟨fun i sl e=>?_,fun b z=>h.mu b ((lend_S b).mp z),by rw [clrN_len]; exact h.len⟩
 obtain ⟨e1,hn⟩:=clrN_some e
 obtain ⟨v,F,q1,q2,q3⟩:=h.slot i sl e1
 refine ⟨v,F,q1,fun b z=>?_,q3.go (fun _ _ _ e=>e) fun b o _ n z=>n ((lend_S b).mp z)⟩
 have:=q2 b z
 rw [lend_ne fun j hj e=>by rw [this] at e; cases e; exact hn hj]; exact this
theorem unlend_at {b:Addr} (h:∃ i ∈ bs,g b = some (some i)):g'.unlend g bs b = g b:=by unfold Gh.unlend; rw [if_pos h]
theorem unlend_ne {b:Addr} (h:¬ ∃ i ∈ bs,g b = some (some i)):g'.unlend g bs b = g' b:=by unfold Gh.unlend; rw [if_neg h]
theorem unlend_post (h:SE K g ρ σ H) (ev:Evo (g.lend bs) H g' H' F) (se:SE K (g'.plus F) ρ' σ' H') (pk:PinOk bs σ σ') :
  Evo g H (g'.unlend g bs) H' F/\SE K ((g'.unlend g bs).plus F) (rst bs ρ ρ') σ' H'/\∀ b,Sg (g'.unlend g bs) b->Sg g' b:=by
 have ho:∀ b,(∃ i ∈ bs,g b = some (some i))->g' b = some none:=fun b ⟨i,hi,e⟩=>(ev.out b).mp (lend_at hi e)
 have sub:∀ b,Sg (g'.unlend g bs) b->Sg g' b:=fun b z=>by
  by_cases q:∃ i ∈ bs,g b = some (some i)
  ·rw [Sg,ho b q]; simp
  ·rw [Sg,unlend_ne q] at z; exact z
 have subp:∀ b,Sg ((g'.unlend g bs).plus F) b->Sg (g'.plus F) b:=fun b z=>(plus_S b).mpr (((plus_S b).mp z).imp (sub b) id)
 have hFn:∀ b,F b->¬ ∃ i ∈ bs,g b = some (some i):=fun b z q=>by have:=ho b q; rw [(ev.tmp b z).1] at this; cases this
 refine ⟨⟨fun b o n e=>ev.keep b o (fun i q=>n i (lend_sl q).1) e,fun b=>⟨fun e=>?_,fun e=>?_⟩,fun b j e=>?_,fun b z=>?_,ev.dom⟩,⟨fun j sl e=>?_,fun b z=>se.mu b (subp b z),by rw [rst_len]; exact se.len⟩,sub⟩
 ·have n:¬ ∃ i ∈ bs,g b = some (some i):=fun ⟨i,_,q⟩=>by rw [e] at q; cases q
  rw [unlend_ne n]
  exact (ev.out b).mp (by rw [lend_ne fun i hi q=>n ⟨i,hi,q⟩]; exact e)
 ·by_cases q:∃ i ∈ bs,g b = some (some i)
  ·rw [unlend_at q] at e; exact e
  ·rw [unlend_ne q] at e
   have:=(ev.out b).mpr e
   rw [lend_ne fun i hi z=>q ⟨i,hi,z⟩] at this
   exact this
 ·by_cases q:∃ i ∈ bs,g b = some (some i)
  ·obtain ⟨i,_,q⟩:=q; exact .inl ⟨i,q⟩
  ·rw [unlend_ne q] at e
   exact (ev.new b j e).imp (fun ⟨j,z⟩=>⟨j,(lend_sl z).1⟩) id
 ·have t:=ev.tmp b z
  exact ⟨by rw [unlend_ne (hFn b z)]; exact t.1,t.2.imp (fun ⟨j,z⟩=>⟨j,(lend_sl z).1⟩) id⟩
 ·rcases rst_some e with ⟨hj,e1⟩ | ⟨hj,e1⟩
  ·obtain ⟨v,Fj,q1,q2,q3⟩:=h.slot j sl e1
   refine ⟨v,Fj,by rw [pk j hj]; exact q1,fun b z=>?_,q3.go (fun b o hb e=>ev.keep b o (fun i q=>?_) e) fun b o e n z=>?_⟩
   ·have:∃ i ∈ bs,g b = some (some i):=⟨j,hj,q2 b z⟩
    exact sl_plus (by rw [unlend_at this]; exact q2 b z) fun z2=>hFn b z2 this
   ·obtain ⟨q,hn⟩:=lend_sl q
    rcases hb with hb | hb
    ·exact hb (by rw [Sg,q]; simp)
    ·rw [q2 b hb] at q; cases q; exact hn hj
   ·have gn:g b = none:=by
     cases q:g b with
     | none=>rfl
     | some x=>exact absurd (by rw [Sg,q]; simp) n
    obtain ⟨f1,f2⟩:=ev.froz e (by rw [lend_ne fun i _ z=>by rw [gn] at z; cases z]; exact gn)
    rcases (plus_S b).mp z with z | z
    ·exact sub b z f1
    ·exact f2 z
  ·obtain ⟨v,Fj,q1,q2,q3⟩:=se.slot j sl e1
   refine ⟨v,Fj,q1,fun b z=>?_,q3.go (fun _ _ _ e=>e) fun b o _ n z=>n (subp b z)⟩
   have q:=plus_sl (q2 b z)
   refine sl_plus ?_ fun z2=>by rw [(ev.tmp b z2).1] at q; cases q
   rw [unlend_ne fun z2=>by rw [ho b z2] at q; cases q]; exact q
theorem VR1.unlend {kd:Kd} {d:D} {v:V} (hb:isBo kd = false) (sub:∀ b,Sg g b->Sg g' b) (h:VR1 K H g' F kd d v F):VR1 K H g F kd d v F:=by
 have k2:∀ b,Sx g F b->Sx g' F b:=fun b z=>z.imp (sub b) id
 cases kd with
 | sh=>exact ⟨h.1,h.2.weak k2⟩
 | fr k=>exact Tr.go (fun _ _ _ e=>e) (fun b o _ n z=>n (k2 b z)) h
 | bo i k=>cases hb
theorem src_evo {s:Src} {gi:Gh} {Hi:Hp} (hp:s.P K g H1) (hf:s.from g H bs) (ev:Evo (g.lend bs) H1 gi Hi noF):s.P K gi Hi:=by
 have fz:∀ b o,H1 b = some o->¬ Sg g b->Hi b = some o/\¬ Sg gi b:=fun b o e n=>by
  have n':g.lend bs b = none:=by
   cases q:g.lend bs b with
   | none=>rfl
   | some x=>exact absurd ((lend_S b).mp (by rw [Sg,q]; simp)) n
  obtain ⟨f1,f2⟩:=ev.froz e n'
  exact ⟨ev.keep b o (fun i q=>by rw [n'] at q; cases q) e,fun z=>z f1⟩
 refine Src.mono (g:=g) (H:=H1) (fun b o e n=>(fz b o e n).2) (fun b o hb e=>?_) (fun a e=>hf.from_t e) hp
 rcases hb with hb | hb
 ·exact (fz b o e hb).1
 ·rcases hf.from_l hb with hf | ⟨i,hm,hf⟩
  ·exact (fz b o e (by rw [Sg,hf]; simp)).1
  ·exact ev.keep b o (fun j q=>by rw [lend_at hm hf] at q; cases q) e
end
noncomputable def fForM (pn fg:List Nat) (tg:IT) (fb:Ro->Option Res):List D->Ro->Option Res
 | [],ρ=>some (.nx (clrN fg ρ))
 | d :: ds,ρ=>match tgI tg d with
  | some ps=>if (ps.all fun p=>!pn.contains p.1) = true then (match fb (setAll ps (clrN fg ρ)) with
   | some (.nx ρ2)=>fForM pn fg tg fb ds ρ2
   | some (.ct ρ2)=>fForM pn fg tg fb ds ρ2
   | some (.bk ρ2)=>some (.nx (clrN fg ρ2))
   | some (.rt k d ρ2)=>some (.rt k d ρ2)
   | none=>none) else none
  | none=>none
noncomputable def tForL (J:It) (g:TG) (tb:TS):TS:=fun D σ H1=>∃ W:Nat->Nat->L2.St->Hp->Prop,(∃ m,W 0 m σ H1)/\∀ i m σ H,W i m σ H->
 (J.stop i H/\D.nx σ H)\/(J.go i H/\∃ N:L2.St->Hp->Prop,(∀ σ' H',N σ' H'->∃ m',m' < m/\W (i + 1) m' σ' H')/\∀ x H',J.yld i H x H'->g x σ H' fun σ2 H2=>tb { D with nx:=N,ct:=N,bk:=D.nx } σ2 H2)
section
variable {X:Cx} {Γ:Tab} {c:Cz} {pn:List Nat}
theorem setV_pin {K:PySem.W.Frag} {H:Hp} {S:Pr} {ps:List (Nat × D)} {vs:List (Nat × V)} {σ:L2.St} (h:RpP K H S ps vs) (hp:(ps.all fun p=>!pn.contains p.1) = true):PinOk pn σ (setV vs σ):=fun i hi=>setV_ne h fun p hp' z=>by
 have:=List.all_eq_true.mp hp p hp'
 rw [z] at this
 simp [hi] at this
theorem for_runM (O:CxOk X Γ c) {fg:List Nat} {fb:Ro->Option Res} {tg:Expr} {t:IT} {n:Nat} {body:List Stmt} (htg:cTg c n tg = some t) (hb:SndB X pn fb body) {jj:It} {src:Src} {ds:List D} {g g0:Gh} {bs:List Nat} {H H1:Hp} {Dn:Ends} {ρ:Ro} {σ:L2.St} {r:Res}
  (se:SE X.K (g.lend bs) ρ σ H1) (jt:ItOk X.K jj src ds) (sp:src.P X.K g H1) (sf:src.from g H bs) (h:fForM pn fg t fb ds ρ = some r) (q:EndM X.K pn (g.lend bs) H1 σ Dn r) :
  tForL jj (wG X tg) (wSs X body) Dn σ H1:=by
 refine ⟨fun i m σ' H'=>m = ds.length - i/\i<=ds.length/\∃ ρ' g',SE X.K g' ρ' σ' H'/\Evo (g.lend bs) H1 g' H' noF/\PinOk pn σ σ'/\fForM pn fg t fb (ds.drop i) ρ' = some r,
  ⟨ds.length,by simp,Nat.zero_le _,ρ,g.lend bs,se,.refl _ _,PinOk.refl,by simpa using h⟩,?_⟩
 rintro i m σ' H' ⟨rfl,hi',ρ',g',se',ev',pk',hrest⟩
 obtain ⟨j1,j2⟩:=jt i g' H' (src_evo sp sf ev') se'.mu
 by_cases hlt:i < ds.length
 ·have hd:ds[i]? = some ds[i]:=List.getElem?_eq_getElem hlt
  obtain ⟨go,yl⟩:=j2 _ hd
  rw [List.drop_eq_getElem_cons hlt] at hrest
  unfold fForM at hrest
  split at hrest
  ·rename_i ps hps
   split at hrest
   ·rename_i hpn
    refine .inr ⟨go,fun σ2 H2=>ds.length - (i + 1) = ds.length - (i + 1)/\i + 1<=ds.length/\∃ ρ' g',SE X.K g' ρ' σ2 H2/\Evo (g.lend bs) H1 g' H2 noF/\PinOk pn σ σ2/\fForM pn fg t fb (ds.drop (i + 1)) ρ' = some r,fun σ2 H2 hN=>⟨ds.length - (i + 1),by omega,hN⟩,fun x H2 hy=>?_⟩
    obtain ⟨s2,rx⟩:=yl x H2 hy
    refine pg_le (pg_IT O n htg) (gIT_run hps rx fun vs hvs=>?_)
    have se2:=SE.setAll hvs ((se'.clrN fg).same s2)
    have ev2:Evo (g.lend bs) H1 g' H2 noF:=evo_seq ev' (evo_same s2 (fun _ z=>z.elim) fun _ z=>z.elim)
    have pk2:=pk'.trans (setV_pin (σ:=σ') hvs hpn)
    split at hrest
    ·rename_i ρ2 hbody
     exact hb _ _ hbody g' _ H2 _ se2 fun σ4 g4 H4 ev4 se4 pk4=>⟨rfl,hlt,ρ2,g4,se4,evo_seq ev2 ev4,pk2.trans pk4,hrest⟩
    ·rename_i ρ2 hbody
     exact hb _ _ hbody g' _ H2 _ se2 fun σ4 g4 H4 ev4 se4 pk4=>⟨rfl,hlt,ρ2,g4,se4,evo_seq ev2 ev4,pk2.trans pk4,hrest⟩
    ·rename_i ρ2 hbody
     cases hrest
     exact hb _ _ hbody g' _ H2 _ se2 fun σ4 g4 H4 ev4 se4 pk4=>q σ4 g4 H4 (evo_seq ev2 ev4) (se4.clrN fg) (pk2.trans pk4)
    ·rename_i k d ρ2 hbody
     cases hrest
     exact hb _ _ hbody g' _ H2 _ se2 fun v σ4 g4 H4 F4 ev4 se4 pk4 r4=>q v σ4 g4 H4 F4 (evo_seq ev2 ev4) se4 (pk2.trans pk4) r4
    ·cases hrest
   ·cases hrest
  ·cases hrest
 ·have e:i = ds.length:=by omega
  subst e
  rw [List.drop_length] at hrest
  cases hrest
  exact .inl ⟨j1 (Nat.le_refl _),q σ' g' H' ev' (se'.clrN fg) pk'⟩
noncomputable def oBack (bs:List Nat) (ρ:Ro) (r:Option Res):Option Res:=match r with
 | some (.nx ρ')=>some (.nx (rst bs ρ ρ'))
 | some (.rt k d ρ')=>if isBo k = true then none else some (.rt k d (rst bs ρ ρ'))
 | _=>none
noncomputable def oForM (pn fg:List Nat) (tg:IT) (fb:List Nat->Ro->Option Res) (it:IR):Option Res:=match it with
 | some (bs,ds,ρ)=>oBack bs ρ (fForM (pn ++ bs) fg tg (fb (pn ++ bs)) ds (clrN bs ρ))
 | none=>none
theorem PinOk.left {a b:List Nat} {σ σ':L2.St} (h:PinOk (a ++ b) σ σ'):PinOk a σ σ':=fun i hi=>h i (List.mem_append_left _ hi)
theorem PinOk.right {a b:List Nat} {σ σ':L2.St} (h:PinOk (a ++ b) σ σ'):PinOk b σ σ':=fun i hi=>h i (List.mem_append_right _ hi)
theorem s_forM (O:CxOk X Γ c) (hp:PassesOwn (model X.prog X.w) X.A X.env X.xe) {fg:List Nat} {fi:Ro->IR} {fb:List Nat->Ro->Option Res} {tg iter:Expr} {t:IT} {n:Nat} {body:List Stmt} {pos:Pos} (htg:cTg c n tg = some t) (hi:SndIM X fi tg iter) (hb:∀ pn,SndB X pn (fb pn) body) (hs:notSet iter = true) :
  SndS X pn (fun ρ=>oForM pn fg t fb (fi ρ)) (.For tg iter body [] pos):=by
 intro ρ r h g σ H Dn se q
 dsimp only [oForM] at h
 split at h
 ·rename_i bs ds ρ0 hit
  refine ps_le (ps_for hp O.calm pi_w pg_w pss_w (notSet_ok hs)) (hi ρ bs ds ρ0 hit g σ H _ se fun jj src g1 H1 ev1 se1 jt sp sf=>?_)
  have q1:=q.from ev1 PinOk.refl
  show tForL jj (wG X tg) (wSs X body) Dn σ H1
  unfold oBack at h
  split at h
  ·rename_i ρ' hf
   cases h
   refine for_runM (g0:=g1) O htg (hb _) (se1.lend bs) jt sp sf hf fun σ' g' H' ev se' pk=>?_
   obtain ⟨c1,c2,_⟩:=unlend_post (F:=noF) se1 ev (by rw [plus_no fun _ z=>z]; exact se') pk.right
   exact q1 σ' _ H' c1 (by rw [plus_no fun _ z=>z] at c2; exact c2) pk.left
  ·rename_i k d ρ' hf
   split at h
   ·cases h
   ·rename_i hk
    cases h
    refine for_runM (g0:=g1) O htg (hb _) (se1.lend bs) jt sp sf hf fun v σ' g' H' F ev se' pk vr=>?_
    obtain ⟨c1,c2,c3⟩:=unlend_post se1 ev se' pk.right
    exact q1 v σ' _ H' F c1 c2 pk.left (vr.unlend (by simpa using hk) c3)
  ·cases h
 ·cases h
noncomputable def augD (op:Operator) (x y:D):Option D:=match op,x,y with
 | .Add,.int i,.int j=>some (.int (i + j))
 | .Add,.str i,.str j=>if i.length + j.length<=100000 then some (.str (i ++ j)) else none
 | .Sub,.int i,.int j=>some (.int (i - j))
 | .Mod,.int i,.int j=>if 0 < j then some (.int (i % j)) else none
 | .RShift,.int i,.int j=>if 0<=j then some (.int (i / 2 ^ j.toNat)) else none
 | .BitAnd,.int i,.int j=>some (.int (Builtin.bitAnd i j))
 | .BitOr,.int i,.int j=>some (.int (Builtin.bitOr i j))
 | .BitXor,.int i,.int j=>some (.int (Builtin.bitXor i j))
 | _,_,_=>none
noncomputable def atomV:D->Option V
 | .int i=>some (.int i)
 | .str x=>some (.str x)
 | .bl b=>some (.bl b)
 | .non=>some .non
 | _=>none
theorem atomV_rp {K:PySem.W.Frag} {H:Hp} {S:Pr} {d:D} {v:V} (h:atomV d = some v):Rp K H S d v:=by
 cases d <;> first | (cases h; unfold Rp; rfl) | cases h
theorem atomV_of {K:PySem.W.Frag} {H:Hp} {S:Pr} {d:D} {v u:V} (h:atomV d = some v) (r:Rp K H S d u):u = v:=by
 cases d <;> first | (cases h; unfold Rp at r; exact r) | cases h
theorem augD_atom {op:Operator} {x y z:D} (h:augD op x y = some z):∃ u v w,atomV x = some u/\atomV y = some v/\atomV z = some w:=by
 unfold augD at h
 split at h <;> first | (cases h; exact ⟨_,_,_,rfl,rfl,rfl⟩) | (split at h <;> first | (cases h; exact ⟨_,_,_,rfl,rfl,rfl⟩) | cases h) | cases h
noncomputable def rAug (op:Operator):V->V->Hp->VK->Prop:=fun x y H Q=>∃ dx dy dz u,atomV dx = some x/\atomV dy = some y/\augD op dx dy = some dz/\atomV dz = some u/\Q u H
theorem ip_aug (op:Operator):PIp X op (rAug op):=by
 intro pins s σ H x y v u Q I rx ry h
 obtain ⟨dx,dy,dz,w,hx,hy,hd,hz,q⟩:=h
 unfold augD at hd
 split at hd
 ·cases hd; cases hx; cases hy; cases hz
  exact iop_add pins s σ H _ _ v u Q I rx ry ⟨_,_,rfl,rfl,q⟩
 ·split at hd
  ·rename_i hl
   cases hd; cases hx; cases hy; cases hz
   exact iop_add_str pins s σ H _ _ v u Q I rx ry ⟨_,_,rfl,rfl,size_small hl,q⟩
  ·cases hd
 ·cases hd; cases hx; cases hy; cases hz
  exact iop_sub pins s σ H _ _ v u Q I rx ry ⟨_,_,rfl,rfl,q⟩
 ·split at hd
  ·rename_i hl
   cases hd; cases hx; cases hy; cases hz
   exact iop_mod pins s σ H _ _ v u Q I rx ry ⟨_,_,rfl,rfl,hl,q⟩
  ·cases hd
 ·split at hd
  ·rename_i hl
   cases hd; cases hx; cases hy; cases hz
   exact iop_shr pins s σ H _ _ v u Q I rx ry ⟨_,_,rfl,rfl,hl,q⟩
  ·cases hd
 ·cases hd; cases hx; cases hy; cases hz
  exact iop_and pins s σ H _ _ v u Q I rx ry ⟨_,_,rfl,rfl,q⟩
 ·cases hd; cases hx; cases hy; cases hz
  exact iop_or pins s σ H _ _ v u Q I rx ry ⟨_,_,rfl,rfl,q⟩
 ·cases hd; cases hx; cases hy; cases hz
  exact iop_xor pins s σ H _ _ v u Q I rx ry ⟨_,_,rfl,rfl,q⟩
 ·cases hd
noncomputable def oAug (pn:List Nat) (i:Nat) (op:Operator) (o:Option (Option Sl)) (a:MR):Option Res:=match o,a with
 | some (some s),some (_,dy,ρ1)=>if i ∈ pn then none else (match augD op s.d dy with | some dz=>some (.nx (ρ1.set i (some (shS dz)))) | none=>none)
 | _,_=>none
theorem s_aug (O:CxOk X Γ c) {f:Ro->MR} {x:Str} {i:Nat} {op:Operator} {e:Expr} {p pos:Pos} (hl:locB c x = true) (hi:ixOf x c.N = some i) (hf:SndM X f e):SndS X pn (fun ρ=>oAug pn i op ρ[i]? (f ρ)) (.AugAssign (.Name x p) op e pos):=by
 intro ρ r h g σ H Dn se q
 have l:=loc_of O hl
 dsimp only [oAug] at h
 split at h
 ·rename_i sl ky dy ρ1 hs he
  split at h
  ·cases h
  ·rename_i hp
   split at h
   ·rename_i dz hd
    cases h
    obtain ⟨ux,uy,uz,ax,ay,az⟩:=augD_atom hd
    obtain ⟨v,F0,e1,e2,e3⟩:=se.slot i _ hs
    have ev:=atomV_of ax e3.rd
    subst ev
    refine ps_le (ps_aug (i:=i) (by rw [O.N]; exact O.nd) (by rw [O.N]; exact ixOf_get hi) l.1 pe_w (ip_aug op) l.2) ⟨_,e1,hf ρ _ _ _ he g σ H _ se fun y g1 H1 F ev1 se1 r1=>?_⟩
    have ey:=atomV_of ay r1.rd
    subst ey
    refine ⟨_,_,dz,uz,ax,ay,hd,az,?_⟩
    have se2:=se1.drop (F2:=noF) (fun _ z=>z.elim) fun b z=>(ev1.tmp b z).1
    rw [plus_no fun _ z=>z] at se2
    exact q _ g1 H1 (ev1.drop fun _ z=>z.elim) (se2.set i (atomV_rp az)) (PinOk.set hp)
   ·cases h
 ·cases h
end
end J
namespace J
open PySem PySem.Spec L2
section
variable {X:Cx} {Γ:Tab} {c:Cz} {pn:List Nat}
end
end J
namespace J
open PySem PySem.Spec L2
theorem put_set {κ:Type} [DecidableEq κ] {v:V}:∀ (kvs:List (κ × V)) (k:κ) (j:Nat),(kvs.map (·.1)).Nodup->kvs.findIdx? (fun kv=>decide (kv.1 = k)) = some j->(kvs.map (fun kv=>if kv.1 = k then (kv.1,v) else kv)).map (·.2) = (kvs.map (·.2)).set j v
 | [],k,j,_,h=>by simp at h
 | (a,b) :: r,k,j,hn,h=>by
  rw [List.findIdx?_cons] at h
  rw [List.map_cons,List.nodup_cons] at hn
  by_cases e:a = k
  ·subst e
   simp at h
   subst h
   have:r.map (fun kv=>if kv.1 = a then (kv.1,v) else kv) = r:=by
    conv=>rhs; rw [<- List.map_id r]
    refine List.map_congr_left fun kv hk=>?_
    rw [if_neg fun z=>hn.1 (List.mem_map.mpr ⟨kv,hk,z⟩)]
    rfl
   simp [this]
  ·simp only [e,decide_false] at h
   obtain ⟨j',h',rfl⟩:=mapS (by simpa using h)
   have:=put_set (v:=v) r k j' hn.2 h'
   simp only [List.map_cons,e,if_false,List.set_cons_succ,this]
theorem put_fst {κ:Type} [DecidableEq κ] {v:V} (kvs:List (κ × V)) (k:κ):(kvs.map (fun kv=>if kv.1 = k then (kv.1,v) else kv)).map (·.1) = kvs.map (·.1):=by
 rw [List.map_map]
 refine List.map_congr_left fun kv _=>?_
 simp only [Function.comp]
 split <;> rfl
theorem find_any {κ:Type} [DecidableEq κ] {kvs:List (κ × V)} {k:κ}:(kvs.any fun kv=>decide (kv.1 = k)) = (kvs.findIdx? fun kv=>decide (kv.1 = k)).isSome:=by
 rw [List.findIdx?_isSome]
theorem nodup_inj {α β:Type} {f:α->β}:∀ {l:List α},(l.map f).Nodup->l.Nodup
 | [],_=>.nil
 | a :: l,h=>by
  rw [List.map_cons,List.nodup_cons] at h
  exact List.nodup_cons.mpr ⟨fun z=>h.1 (List.mem_map_of_mem z),nodup_inj h.2⟩
theorem dput_of {K:PySem.W.Frag} {H:Hp} {S:Pr} {a:Addr} {o:HO} {t:Nat} {ks:List DK} {xs:List V} {d:D} {k:DK} {y v:V} (g:H a = some o) (q:HdOk K o (.dic t ks) xs) (h:toDK d = some k) (r:Rp K H S d y) (hk:fitK t k = true) (hz:xs.length < sizeLine) :
  (∀ j,findK ks k = some j->ks.Nodup->∃ o',DPut H a y v (upd H a o')/\(∀ xs,o' ≠ .tup xs)/\HdOk K o' (.dic t ks) (xs.set j v))/\(findK ks k = none->∃ o',DPut H a y v (upd H a o')/\(∀ xs,o' ≠ .tup xs)/\HdOk K o' (.dic t (ks ++ [k])) (xs ++ [v])):=by
 rcases q with ⟨rfl,kvs,rfl,e1,e2⟩ | ⟨rfl,kvs,rfl,e1,e2⟩
 ·rcases toDK_v h r with ⟨x,rfl,rfl⟩ | ⟨ys,b,rfl,rfl,gb⟩
  ·have e3:findK ks (.inl x) = kvs.findIdx? fun kv=>decide (kv.1 = x):=by
    unfold findK
    rw [e1,List.findIdx?_map]
    congr 1
    funext p
    simp [Sum.inl.injEq]
   have hl:kvs.length < sizeLine:=by rw [e2] at hz; simpa using hz
   have dp:=DPut.k (k:=x) (v:=v) g hl
   refine ⟨fun j hj hn=>⟨_,dp,(fun xs h=>by cases h),.inl ⟨rfl,_,rfl,?_,?_⟩⟩,fun hj=>⟨_,dp,(fun xs h=>by cases h),.inl ⟨rfl,_,rfl,?_,?_⟩⟩⟩
   ·rw [e3] at hj
    unfold putK
    rw [find_any,hj,if_pos (by rfl),e1]
    have:=congrArg (List.map (Sum.inl:Key->DK)) (put_fst (v:=v) kvs x)
    simp only [List.map_map] at this ⊢
    exact this.symm
   ·rw [e3] at hj
    unfold putK
    rw [find_any,hj,if_pos (by rfl),e2]
    have hn':(kvs.map (·.1)).Nodup:=by
     rw [e1] at hn
     have:kvs.map (fun p=>(Sum.inl p.1:DK)) = (kvs.map (·.1)).map Sum.inl:=by rw [List.map_map]; rfl
     rw [this] at hn
     exact nodup_inj hn
    exact (put_set kvs x j hn' hj).symm
   ·rw [e3] at hj
    unfold putK
    rw [find_any,hj,if_neg (by simp),e1]
    simp
   ·rw [e3] at hj
    unfold putK
    rw [find_any,hj,if_neg (by simp),e2]
    simp
  ·cases hk
 ·rcases toDK_v h r with ⟨x,rfl,rfl⟩ | ⟨ys,b,rfl,rfl,gb⟩
  ·cases hk
  ·have e3:findK ks (.inr ys) = kvs.findIdx? fun kv=>decide (kv.1 = ys):=by
    unfold findK
    rw [e1,List.findIdx?_map]
    congr 1
    funext p
    simp [Sum.inr.injEq]
   have hl:kvs.length < sizeLine:=by rw [e2] at hz; simpa using hz
   have dp:=DPut.t (k:=ys) (v:=v) g gb hl
   refine ⟨fun j hj hn=>⟨_,dp,(fun xs h=>by cases h),.inr ⟨rfl,_,rfl,?_,?_⟩⟩,fun hj=>⟨_,dp,(fun xs h=>by cases h),.inr ⟨rfl,_,rfl,?_,?_⟩⟩⟩
   ·rw [e3] at hj
    unfold putK
    rw [find_any,hj,if_pos (by rfl),e1]
    have:=congrArg (List.map (Sum.inr:List Key->DK)) (put_fst (v:=v) kvs ys)
    simp only [List.map_map] at this ⊢
    exact this.symm
   ·rw [e3] at hj
    unfold putK
    rw [find_any,hj,if_pos (by rfl),e2]
    have hn':(kvs.map (·.1)).Nodup:=by
     rw [e1] at hn
     have:kvs.map (fun p=>(Sum.inr p.1:DK)) = (kvs.map (·.1)).map Sum.inr:=by rw [List.map_map]; rfl
     rw [this] at hn
     exact nodup_inj hn
    exact (put_set kvs ys j hn' hj).symm
   ·rw [e3] at hj
    unfold putK
    rw [find_any,hj,if_neg (by simp),e1]
    simp
   ·rw [e3] at hj
    unfold putK
    rw [find_any,hj,if_neg (by simp),e2]
    simp
section
variable {K:PySem.W.Frag} {H:Hp} {S:Pr}
theorem TrL.setAt:∀ {ds:List D} {es:List Ow} {r:Ow} {xs:List V} {F F2:Pr} {j:Nat} {d:D} {v:V},TrL K H S ds es r xs F->j < ds.length->Tr K H S d (es.getD j r) v F2->(∀ b,F b->¬ F2 b)->∃ F3:Pr,(∀ b,F3 b->F b\/F2 b)/\TrL K H S (ds.set j d) es r (xs.set j v) F3
 | [],_,_,_,_,_,_,_,_,_,hj,_,_=>by simp at hj
 | d0 :: ds,es,r,xs,F,F2,0,d,v,h,hj,t,dj=>by
  unfold TrL at h
  obtain ⟨y,ys,F1,F3,rfl,hF,dj1,h1,h2⟩:=h
  refine ⟨fun b=>F2 b\/F3 b,fun b z=>z.elim .inr fun z=>.inl ((hF b).mpr (.inr z)),?_⟩
  show TrL K H S (d :: ds) es r (v :: ys) _
  unfold TrL
  exact ⟨v,ys,F2,F3,rfl,fun b=>Iff.rfl,fun b z1 z2=>dj b ((hF b).mpr (.inr z2)) z1,by cases es <;> simpa using t,h2⟩
 | d0 :: ds,es,r,xs,F,F2,j + 1,d,v,h,hj,t,dj=>by
  unfold TrL at h
  obtain ⟨y,ys,F1,F3,rfl,hF,dj1,h1,h2⟩:=h
  have eg:es.tail.getD j r = es.getD (j + 1) r:=by cases es <;> simp
  obtain ⟨F4,a1,a2⟩:=TrL.setAt (j:=j) (d:=d) (v:=v) (F2:=F2) h2 (by simpa using hj) (by rw [eg]; exact t) fun b z=>dj b ((hF b).mpr (.inr z))
  refine ⟨fun b=>F1 b\/F4 b,fun b z=>z.elim (fun z=>.inl ((hF b).mpr (.inl z))) fun z=>(a1 b z).imp (fun z=>(hF b).mpr (.inr z)) id,?_⟩
  show TrL K H S (d0 :: ds.set j d) es r (y :: ys.set j v) _
  unfold TrL
  refine ⟨y,_,F1,F4,rfl,fun b=>Iff.rfl,fun b z1 z2=>?_,h1,a2⟩
  rcases a1 b z2 with z | z
  ·exact dj1 b z1 z
  ·exact dj b ((hF b).mpr (.inl z1)) z
end
noncomputable def putD (es:List Ow) (r:Ow) (hd:Hd) (ds:List D) (dx:D) (x:KD):Option (Hd × List D):=match hd with
 | .lst=>(match dx with | .int z=>(match ixN ds.length z with | some j=>if fit1 (es.getD j r) x = true then some (.lst,ds.set j x.2) else none | none=>none) | _=>none)
 | .dic t ks=>(match toDK dx with
  | some k=>if fitK t k = true/\ds.length < 100000 then (match findK ks k with
   | some j=>if fit1 (es.getD j r) x = true/\ks.Nodup/\j < ds.length then some (.dic t ks,ds.set j x.2) else none
   | none=>if es.length<=ds.length/\fit1 r x = true then some (.dic t (ks ++ [k]),ds ++ [x.2]) else none) else none
  | none=>none)
 | _=>none
noncomputable def oPut (i:Nat) (fp:Ro->Option (Ow × D × (D->D))) (fk:Ro->Option KD) (a:MR):Option Res:=match a with
 | some (kd,d,ρ1)=>(match fp ρ1,fk ρ1,ρ1[i]? with
  | some (.own es r,.nd hd ds,up),some (_,dx),some (some ⟨false,k,_⟩)=>(match putD es r hd ds dx (imK kd d,d) with
   | some (hd',ds')=>some (.nx (ρ1.set i (some ⟨false,k,up (.nd hd' ds')⟩)))
   | none=>none)
  | _,_,_=>none)
 | none=>none
theorem swap_sole {o b e:Expr} {sp:Pos} {n:Nat} {env:Env}:swapsWithSole [.Subscript o b sp] e n env = pure false:=by
 cases e <;> rfl
theorem swap_st {o b e:Expr} {sp:Pos} {env:Env}:swappedStores [.Subscript o b sp] e env = pure none:=by
 cases e <;> rfl
section
variable {X:Cx} {Γ:Tab} {c:Cz} {pn:List Nat}
theorem put_core {K:PySem.W.Frag} {H H0:Hp} {g g0:Gh} {F F':Pr} {ρ:Ro} {σ:L2.St} {i:Nat} {k:Ow} {es:List Ow} {r:Ow} {hd:Hd} {ds:List D} {up:D->D} {a:Addr} {o:HO} {xs:List V} {x:KD} {v:V} {Dn:Ends} {hd':Hd} {ds':List D} {dx:D} {y:V} {S:Pr}
  (hpd:putD es r hd ds dx x = some (hd',ds')) (nd:NodeAt K H g F ρ σ i k es r hd ds up a o xs F') (ev:Evo g0 H0 g H F) (se:SE K (g.plus F) ρ σ H) (vr:VR1 K H g F x.1 x.2 v F) (ry:Rp K H S dx y)
  (q:EndM K pn g0 H0 σ Dn (.nx (ρ.set i (some ⟨false,k,up (.nd hd' ds')⟩)))) :
  (∃ z j,hd = .lst/\y = .int z/\o = .lst xs/\H a = some o/\ixN xs.length z = some j/\Dn.nx σ (upd H a (.lst (xs.set j v))))\/((∃ t ks,hd = .dic t ks)/\∃ H4,DPut H a y v H4/\Dn.nx σ H4):=by
 have hF:∀ b,F b->g b = none:=fun b z=>(ev.tmp b z).1
 have mm:MuOk H (Sx g F):=fun b z=>se.mu b ((plus_S b).mpr z)
 have sub:∀ (F2:Pr),(∀ b,F2 b->F b)->∀ b,Sg (g.give F2 i) b->Sg (g.plus F) b:=fun F2 s2 b z=>(plus_S b).mpr ((give_S.mp z).imp id (s2 b))
 have fin:∀ {kc:Ow},fit1 kc x = true->∃ F2:Pr,(∀ b,F2 b->F b)/\Tr K H (Sg (g.give F2 i)) x.2 kc v F2/\(∀ b,F' b->¬ F2 b):=fun {kc} hf=>by
  obtain ⟨F2,a1,a2⟩:=VR1.fit (p:=x) hf mm hF (fun b z=>z) vr
  refine ⟨F2,a1,a2 _ fun b z=>?_,fun b z1 z2=>by have:=nd.lab b z1; rw [hF b (a1 b z2)] at this; cases this⟩
  exact (give_S.mp z).elim (fun z=>.inr (.inl z)) fun z=>.inr (.inr (.inl z))
 have out:∀ {o':HO} {F2:Pr},(∀ b,F2 b->F b)->SE K (g.give F2 i) (ρ.set i (some ⟨false,k,up (.nd hd' ds')⟩)) σ (upd H a o')->Dn.nx σ (upd H a o'):=fun {o' F2} s2 s=>q σ _ _ (ev.give s2 nd.own) s PinOk.refl
 unfold putD at hpd
 split at hpd
 ·split at hpd
  ·rename_i z
   split at hpd
   ·rename_i j hj
    split at hpd
    ·rename_i hf
     cases hpd
     obtain ⟨F2,b1,b2,b3⟩:=fin hf
     have ho:o = .lst xs:=nd.ok
     have hlen:=nd.kids.len
     have hj':j < ds.length:=(ixN_seq hj).2.1
     obtain ⟨F3,c1,c2⟩:=(nd.kids.go (S':=Sg (g.give F2 i)) (fun _ _ _ e=>e) fun b o _ n z=>n (sub F2 b1 b z)).setAt hj' b2 b3
     exact .inl ⟨z,j,rfl,ry.int,ho,nd.at_,by rw [hlen]; exact hj,out b1 (nd.put (.lst (xs.set j v)) .lst _ _ F2 F3 rfl rfl (fun xs h=>by cases h) b1 c1 c2)⟩
    ·cases hpd
   ·cases hpd
  ·cases hpd
 ·rename_i t ks
  split at hpd
  ·rename_i kk hk
   split at hpd
   ·rename_i hfk
    have hlen:=nd.kids.len
    obtain ⟨p1,p2⟩:=dput_of (v:=v) nd.at_ nd.ok hk ry hfk.1 (by rw [hlen]; exact Nat.lt_of_lt_of_le hfk.2 (size_small (Nat.le_refl _)))
    split at hpd
    ·rename_i j hj
     split at hpd
     ·rename_i hf
      cases hpd
      obtain ⟨o',d1,d2,d3⟩:=p1 j hj hf.2.1
      obtain ⟨F2,b1,b2,b3⟩:=fin hf.1
      obtain ⟨F3,c1,c2⟩:=(nd.kids.go (S':=Sg (g.give F2 i)) (fun _ _ _ e=>e) fun b o _ n z=>n (sub F2 b1 b z)).setAt hf.2.2 b2 b3
      exact .inr ⟨⟨t,ks,rfl⟩,_,d1,out b1 (nd.put o' (.dic t ks) _ _ F2 F3 rfl d3 d2 b1 c1 c2)⟩
     ·cases hpd
    ·rename_i hj
     split at hpd
     ·rename_i hf
      cases hpd
      obtain ⟨o',d1,d2,d3⟩:=p2 hj
      obtain ⟨F2,b1,b2,b3⟩:=fin hf.2
      have c2:=TrL.snoc2 hf.1 (nd.kids.go (S':=Sg (g.give F2 i)) (fun _ _ _ e=>e) fun b o _ n z=>n (sub F2 b1 b z)) b2 b3
      exact .inr ⟨⟨t,ks,rfl⟩,_,d1,out b1 (nd.put o' (.dic t (ks ++ [kk])) _ _ F2 _ rfl d3 d2 b1 (fun b z=>z) c2)⟩
     ·cases hpd
   ·cases hpd
  ·cases hpd
 ·cases hpd
theorem s_put (O:CxOk X Γ c) {f:Ro->MR} {i:Nat} {fp:Ro->Option (Ow × D × (D->D))} {fk:Ro->Option KD} {b k e:Expr} {sp pos:Pos} (hf:SndM X f e) (hp:SndP X i fp b) (hk:SndE X fk k) (hpl:plainIx k = true) (hn:noComp e = true):SndS X pn (fun ρ=>oPut i fp fk (f ρ)) (.Assign [.Subscript b k sp] e pos):=by
 intro ρ r h g σ H Dn se q
 dsimp only [oPut] at h
 split at h
 ·rename_i kd d ρ1 he
  split at h
  ·rename_i es r0 hd ds up kx dx kk d0 ep ek ei
   split at h
   ·rename_i hd' ds' hpd
    cases h
    have mu:hd.mu = true:=by
     cases hd with
     | tup=>simp [putD] at hpd
     | _=>rfl
    have core:∀ v g1 H1 F,Evo g H g1 H1 F->SE X.K (g1.plus F) ρ1 σ H1->VR1 X.K H1 g1 F kd d v F->∀ v1 H2 w Fi k' d',Same H1 H2->ρ1[i]? = some (some ⟨false,k',d'⟩)->σ[i]? = some (some w)->(∀ b,Fi b->(g1.plus F) b = some (some i))->FP X.K H2 (Sg (g1.plus F)) k' w Fi (.own es r0) (.nd hd ds) v1 up->∀ y H3,Same H2 H3->VR X.K (g1.plus F) H2 H3 kx dx y->
      ∃ a o xs F',v1 = .ref a/\NodeAt X.K H3 g1 F ρ1 σ i kk es r0 hd ds up a o xs F'/\((∃ z j,hd = .lst/\y = .int z/\o = .lst xs/\H3 a = some o/\ixN xs.length z = some j/\Dn.nx σ (upd H3 a (.lst (xs.set j v))))\/((∃ t ks,hd = .dic t ks)/\∃ H4,DPut H3 a y v H4/\Dn.nx σ H4)):=by
     intro v g1 H1 F ev se1 vr v1 H2 w Fi k' d' s2 ei' ew lb fp1 y H3 s3 ry
     rw [ei] at ei'
     cases ei'
     have s23:=s2.trans s3
     have se3:=se1.same s23
     have ev3:Evo g H g1 H3 F:=⟨fun b o n e=>s23 _ _ (ev.keep b o n e),ev.out,ev.new,ev.tmp,fun b o e=>let ⟨o',q1⟩:=ev.dom b o e; ⟨o',s23 _ _ q1⟩⟩
     obtain ⟨a,o,xs,F',rfl,nd⟩:=FP.node se3 (fun b z=>(ev.tmp b z).1) ei ew lb (fp1.same s3) mu
     exact ⟨a,o,xs,F',rfl,nd,put_core (x:=(imK kd d,d)) hpd nd ev3 se3 ((vr.im se1.mu).go s23 fun _ _ _ z=>z) ry.rd q⟩
    cases hd with
    | lst=>
     refine ps_le (ps_asg pe_w (pg_sub pe_w pe_w set_list (by intro v; cases k <;> first | rfl | cases hpl)) swap_sole swap_st) ?_
     refine hf ρ _ _ _ he g σ H _ se fun v g1 H1 F ev se1 vr=>hp ρ1 _ _ _ ep (g1.plus F) σ H1 _ se1 fun v1 H2 w Fi k' d' s2 ei' ew lb fp1=>hk ρ1 _ _ ek (g1.plus F) σ H2 _ (se1.same s2) fun y H3 s3 ry=>?_
     obtain ⟨a,o,xs,F',rfl,nd,fin⟩:=core v g1 H1 F ev se1 vr v1 H2 w Fi k' d' s2 ei' ew lb fp1 y H3 s3 ry
     rcases fin with ⟨z,j,_,rfl,rfl,g3,hj,fin⟩ | ⟨⟨t,ks,z⟩,_⟩
     ·exact ⟨a,xs,z,j,rfl,rfl,g3,hj,fin⟩
     ·cases z
    | dic t ks=>
     refine ps_le (ps_dput (by have:=O.tab.units; omega) pe_w pe_w pe_w (swap_ok hn)) ?_
     refine hf ρ _ _ _ he g σ H _ se fun v g1 H1 F ev se1 vr=>hp ρ1 _ _ _ ep (g1.plus F) σ H1 _ se1 fun v1 H2 w Fi k' d' s2 ei' ew lb fp1=>hk ρ1 _ _ ek (g1.plus F) σ H2 _ (se1.same s2) fun y H3 s3 ry=>?_
     obtain ⟨a,o,xs,F',rfl,nd,fin⟩:=core v g1 H1 F ev se1 vr v1 H2 w Fi k' d' s2 ei' ew lb fp1 y H3 s3 ry
     rcases fin with ⟨z,j,zz,_⟩ | ⟨_,H4,d1,fin⟩
     ·cases zz
     ·exact ⟨a,H4,rfl,d1,fin⟩
    | tup=>cases mu
    | obj c ns=>simp [putD] at hpd
   ·cases h
  ·cases h
 ·cases h
end
end J
namespace J
open PySem PySem.Spec L2
mutual
inductive IS where
 | asg (i:Nat) (a:ME)
 | unp (is:List Nat) (a:ME)
 | aug (i:Nat) (op:Operator) (a:ME)
 | put (b:BP) (k:IE) (a:ME)
 | ret (a:ME)
 | retN
 | ifs (t:MT) (a b:ISs)
 | fo (fg:List Nat) (tg:IT) (it:MI) (b:ISs)
 | wh (fg:List Nat) (t:MT) (b:ISs)
 | pas
 | brk
 | cnt
 | exp (a:ME)
 | pre (is:List Nat) (s:IS)
 | fap (i x:Nat) (v:Int)
inductive ISs where
 | nil
 | cons (s:IS) (r:ISs)
end
mutual
noncomputable def exS (Γ:GG) (N:Nat):IS->List Nat->Ro->Option Res
 | .asg i a,pn,ρ=>oAsg pn i (evM Γ a ρ)
 | .unp is a,pn,ρ=>oUnp pn is (evM Γ a ρ)
 | .aug i op a,pn,ρ=>oAug pn i op ρ[i]? (evM Γ a ρ)
 | .put b k a,_,ρ=>oPut b.slot (evP Γ.fn b) (evI Γ.fn k) (evM Γ a ρ)
 | .ret a,_,ρ=>oRet (evM Γ a ρ)
 | .retN,_,ρ=>none
 | .ifs t a b,pn,ρ=>oIfR (evMT Γ t ρ) (exB Γ N a pn) (exB Γ N b pn)
 | .fo fg tg it b,pn,ρ=>oForM pn fg tg (exB Γ N b) (evMI Γ it ρ)
 | .wh fg t b,pn,ρ=>none
 | .pas,_,ρ=>some (.nx ρ)
 | .brk,_,ρ=>none
 | .cnt,_,ρ=>none
 | .exp a,_,ρ=>oExp (evM Γ a ρ)
 | .pre is s,pn,ρ=>none
 | .fap i x v,pn,ρ=>none
noncomputable def exB (Γ:GG) (N:Nat):ISs->List Nat->Ro->Option Res
 | .nil,_,ρ=>some (.nx ρ)
 | .cons s r,pn,ρ=>oSeq2 (exS Γ N s pn ρ) (exB Γ N r pn)
end
theorem offS {X:Cx} {pn:List Nat} {f:Ro->Option Res} {e:Stmt} (h:∀ ρ,f ρ = none):SndS X pn f e:=fun ρ r hh=>by rw [h] at hh; cases hh
structure An where
 fg:Nat->List Nat:=fun _=>[]
 pz:Nat->List Nat:=fun _=>[]
 fa:Nat->Bool:=fun _=>false
noncomputable def cSeq (f:Stmt->Option IS):List Stmt->Option ISs
 | []=>some .nil
 | s :: r=>match f s,cSeq f r with | some a,some b=>some (.cons a b) | _,_=>none
noncomputable def stLine:Stmt->Nat
 | .Assign _ _ p=>p.line
 | .AugAssign _ _ _ p=>p.line
 | .Return _ p=>p.line
 | .Expr _ p=>p.line
 | .If _ _ _ p=>p.line
 | .For _ _ _ _ p=>p.line
 | .While _ _ _ p=>p.line
 | _=>0
noncomputable def isComp1:Expr->Bool
 | .ListComp _ gs _ _=>(match gs with | []=>false | g :: gs=>(match gs with | []=>g.is_async == 0 | _ :: _=>false))
 | _=>false
noncomputable def wrapP (l:List Nat) (s:Option IS):Option IS:=match l,s with
 | [],s=>s
 | l,some s=>some (.pre l s)
 | _,none=>none
noncomputable def isDoc:Expr->Bool
 | .Constant (.str _) _ _=>true
 | _=>false
noncomputable def cAs (fns:Nms) (m:Nat) (c:Cz) (ts:List Expr) (e:Expr):Option IS:=match ts with
 | []=>none
 | t :: ts=>match ts with
  | _ :: _=>none
  | []=>match t with
   | .Name x _=>if locB c x && (noComp e || isComp1 e) then (match ixOf x c.N,cM fns (m + 1) c e with | some i,some a=>some (.asg i a) | _,_=>none) else none
   | .Tuple es _ _=>if noTup e then (match cNms c es,cM fns (m + 1) c e with | some is,some a=>some (.unp is a) | _,_=>none) else none
   | .Subscript b k _=>if plainIx k && noComp e then (match cBP c (cE fns (m + 1) c) 6 b,cE fns (m + 1) c k,cM fns (m + 1) c e with | some b,some k,some a=>some (.put b k a) | _,_,_=>none) else none
   | _=>none
noncomputable def cAg (fns:Nms) (m:Nat) (c:Cz) (t:Expr) (op:Operator) (e:Expr):Option IS:=match t with
 | .Name x _=>if locB c x then (match ixOf x c.N,cM fns (m + 1) c e with | some i,some a=>some (.aug i op a) | _,_=>none) else none
 | _=>none
noncomputable def cFap (c:Cz) (tg iter:Expr) (body:List Stmt):Option IS:=none
noncomputable def cFo (fns:Nms) (an:An) (m:Nat) (c:Cz) (rec:List Stmt->Option ISs) (tg iter:Expr) (body els:List Stmt) (p:Pos):Option IS:=match els with
 | _ :: _=>none
 | []=>if an.fa p.line then cFap c tg iter body else if notSet iter then (match cTg c 4 tg,cItM c (cM fns (m + 1) c) (cIt c (cE fns (m + 1) c) tg iter) tg iter,rec body with | some t,some it,some b=>some (.fo (an.fg p.line) t it b) | _,_,_=>none) else none
noncomputable def cS1 (fns:Nms) (an:An) (m:Nat) (c:Cz) (rec:List Stmt->Option ISs):Stmt->Option IS
 | .Assign ts e _=>cAs fns m c ts e
 | .AugAssign t op e _=>cAg fns m c t op e
 | .Return e _=>(match e with | some e=>(cM fns (m + 1) c e).map .ret | none=>some .retN)
 | .Expr e _=>if isDoc e then some .pas else if noComp e then (cM fns (m + 1) c e).map .exp else none
 | .If t a b _=>(match cMT fns (m + 1) c t,rec a,rec b with | some t,some a,some b=>some (.ifs t a b) | _,_,_=>none)
 | .For tg iter body els p=>cFo fns an m c rec tg iter body els p
 | .While t body els p=>(match els with | _ :: _=>none | []=>(match cMT fns (m + 1) c t,rec body with | some t,some b=>some (.wh (an.fg p.line) t b) | _,_=>none))
 | .Pass _=>some .pas
 | .Break _=>some .brk
 | .Continue _=>some .cnt
 | _=>none
noncomputable def cS (fns:Nms) (an:An) (m:Nat) (c:Cz):Nat->Stmt->Option IS
 | 0,_=>none
 | n + 1,s=>wrapP (an.pz (stLine s)) (cS1 fns an m c (cSeq (cS fns an m c n)) s)
noncomputable abbrev cB (fns:Nms) (an:An) (m:Nat) (c:Cz) (n:Nat):List Stmt->Option ISs:=cSeq (cS fns an m c n)
section
variable {X:Cx} {c:Cz} (fns:Nms) (Γ:GG)
theorem swap_comp {elt tg iter:Expr} {ifs:List Expr} {scope:Scope} {cp p:Pos} {x:Str} {n:Nat} {env:Env}:∃ b:Bool,swapsWith (.ListComp elt [⟨tg,iter,ifs,0⟩] scope cp) (some (.Name x p)) n env = pure b:=⟨_,rfl⟩
theorem s_asgC {pn:List Nat} (O:CxOk X (tabG fns Γ) c) {m i:Nat} {x:Str} {e:Expr} {a:ME} {p pos:Pos} (hl:locB c x = true) (hi:ixOf x c.N = some i) (hc:isComp1 e = true) (ha:cM fns (m + 1) c e = some a):SndS X pn (fun ρ=>oAsg pn i (evM Γ a ρ)) (.Assign [.Name x p] e pos):=by
 have hs:∃ elt tg iter ifs scope cp,e = .ListComp elt [⟨tg,iter,ifs,0⟩] scope cp:=by
  cases e with
  | ListComp elt gs scope cp=>cases gs with
   | nil=>cases hc
   | cons g gs=>cases gs with
    | cons _ _=>cases hc
    | nil=>
     cases g with
     | mk tg iter ifs as=>
      have h0:as = 0:=eq_of_beq (show (as == 0) = true from hc)
      subst h0
      exact ⟨_,_,_,_,_,_,rfl⟩
  | _=>cases hc
 obtain ⟨elt,tg,iter,ifs,scope,cp,rfl⟩:=hs
 have l:=loc_of O hl
 have hf:=(snd_m fns Γ (m + 1)).1 X c O _ _ ha
 intro ρ r h g σ H Dn se q
 cases hf':evM Γ a ρ with
 | none=>dsimp only at h; rw [hf'] at h; cases h
 | some w=>
  obtain ⟨kd,d,ρ1⟩:=w
  dsimp only at h
  rw [hf'] at h
  obtain ⟨b,hb⟩:=swap_comp (elt:=elt) (tg:=tg) (iter:=iter) (ifs:=ifs) (scope:=scope) (cp:=cp) (p:=p) (x:=x) (n:=pos.line) (env:=X.env)
  cases b with
  | false=>exact ps_le (ps_set (i:=i) (by rw [O.N]; exact O.nd) (by rw [O.N]; exact ixOf_get hi) l.1 pe_w hb l.2) (hf ρ kd d ρ1 hf' g σ H _ se fun v g1 H1 F ev se1 vr=>asg_post h q ev se1 vr)
  | true=>
   have fin:∀ {hck:compChk c scope = true} {hns:notSet iter = true},tCompF (wI X tg iter) (fun v σ H Q=>∀ C s H0 ex,wG (compX X (namesOf scope) scope C s H0 ex) tg v σ H Q) (fun σ H Q=>∀ C s H0 ex,wTs (compX X (namesOf scope) scope C s H0 ex) ifs σ H Q) (fun σ H Q=>∀ C s H0 ex,wE (compX X (namesOf scope) scope C s H0 ex) elt σ H Q) (capOf c scope) σ H (fun v H1=>gName i v σ H1 Dn.nx)->wSt X (.Assign [.Name x p] (.ListComp elt [⟨tg,iter,ifs,0⟩] scope cp) pos) Dn σ H:=fun {hck hns} ht=>
    ps_le (ps_setCF (N':=namesOf scope) (cap:=capOf c scope) O.calm (compChk_ok O hck) pi_w
     (fun C s H0 ex pins s' σ' H' v u Q' I r hh=>pg_w pins s' σ' H' v u Q' I r (hh C s H0 ex)) (fun C s H0 ex pins s' σ' H' Q' I hh=>hh C s H0 ex pins s' I) (fun C s H0 ex pins s' σ' H' Q' I hh=>hh C s H0 ex pins s' I) (notSet_ok hns)
     (by rw [O.N]; exact O.nd) (by rw [O.N]; exact ixOf_get hi) l.1 l.2 hb) ht
   have post:∀ v g' H' F,Evo g H g' H' F->SE X.K (g'.plus F) ρ1 σ H'->VR1 X.K H' g' F kd d v F->gName i v σ H' Dn.nx:=fun v g1 H1 F ev se1 vr=>asg_post h q ev se1 vr
   cases hce:cE fns m c (.ListComp elt [⟨tg,iter,ifs,0⟩] scope cp) with
   | some ie=>
    have ha2:some (ME.p ie) = some a:=by rw [<- ha,cM,hce]
    cases ha2
    cases m with
    | zero=>unfold cE at hce; cases hce
    | succ m=>
     have hie:cCo fns c (cE fns m) (cT fns m) elt [⟨tg,iter,ifs,0⟩] scope cp = some ie:=hce
     unfold cCo at hie
     dsimp only at hie
     rw [if_pos rfl] at hie
     split at hie
     ·rename_i hn
      rw [Bool.and_eq_true] at hn
      split at hie
      ·rename_i t it ts el ht hit hts hel
       cases hie
       have pure:=snd_both (fm:=fmOf fns Γ) fns Γ.fn m
       have CO:=cx_comp O hn.2
       have hv:evI Γ.fn (.comp ((fns.an cp.line cp.col).getD Ow.fz) (capOf c scope) t it ts el) ρ = some (kd,d)/\ρ1 = ρ:=by
        rw [evM] at hf'
        unfold oPm at hf'
        split at hf'
        ·rename_i e'
         cases hf'
         exact ⟨e',rfl⟩
        ·cases hf'
       obtain ⟨hv,rfl⟩:=hv
       unfold evI at hv
       exact fin (hck:=hn.2) (hns:=hn.1) (comp_t O hn.2 (s_itI fns Γ.fn O (pure.1 X c O) hit) ht (fun C s H ex=>s_tests Γ.fn (pure.2 _ _ (CO C s H ex)) hts) (fun C s H ex=>pure.1 _ _ (CO C s H ex) _ _ hel) hv se fun v H' s ⟨F,h1,h2⟩=>
        post v g H' F (evo_same s h1 fun b z=>mu_none se.mu (h1 b z)) (se.plus s h1 h2.dom) h2)
      ·cases hie
     ·cases hie
   | none=>
    have ha2:cCoM fns c (cM fns m) (cE fns m) (cMT fns m) elt [⟨tg,iter,ifs,0⟩] scope cp = some a:=by
     rw [cM,hce] at ha
     exact ha
    obtain ⟨tg',iter',ifs',t,it,ts,el,hq,hn1,hn2,ht,hit,hts,hel,rfl⟩:=cCoM_ok fns ha2
    cases hq
    have pure:=snd_both (fm:=fmOf fns Γ) fns Γ.fn m
    have CO:=cx_comp O hn2
    rw [evM] at hf'
    first | (cases hf'; done) | exact fin (hck:=hn2) (hns:=hn1) (compM_t O hn2 (s_itMI fns Γ O ((snd_m fns Γ m).1 X c O) (pure.1 X c O) hit) ht (fun C s H ex=>s_testsM Γ ((snd_m fns Γ m).2 _ _ (CO C s H ex)) hts) (fun C s H ex=>(snd_m fns Γ m).1 _ _ (CO C s H ex) _ _ hel) hf' se post)
theorem s_seqC {f:Stmt->Option IS} {N:Nat} (hf:∀ s a,f s = some a->∀ pn,SndS X pn (exS Γ N a pn) s):∀ {st:List Stmt} {b:ISs},cSeq f st = some b->∀ pn,SndB X pn (exB Γ N b pn) st
 | [],b,h,pn=>by
  cases h
  rw [show exB Γ N .nil pn = fun ρ=>some (.nx ρ) by funext ρ; rw [exB]]
  exact b_nil
 | s :: st,b,h,pn=>by
  unfold cSeq at h
  split at h
  ·rename_i a r ha hr
   cases h
   rw [show exB Γ N (.cons a r) pn = fun ρ=>oSeq2 (exS Γ N a pn ρ) (exB Γ N r pn) by funext ρ; conv=>lhs; rw [exB]]
   exact b_cons (hf s a ha pn) (s_seqC hf hr pn)
  ·cases h
theorem s_as (O:CxOk X (tabG fns Γ) c) {m N:Nat} {ts:List Expr} {e:Expr} {pos:Pos} {a:IS} (h:cAs fns m c ts e = some a) (pn:List Nat):SndS X pn (exS Γ N a pn) (.Assign ts e pos):=by
 have hM:=(snd_m fns Γ (m + 1)).1 X c O
 have hE:=(snd_both (fm:=fmOf fns Γ) fns Γ.fn (m + 1)).1 X c O
 cases ts with
 | nil=>cases h
 | cons t ts=>cases ts with
  | cons _ _=>cases h
  | nil=>cases t with
   | Name x p=>
    dsimp only [cAs] at h
    split at h
    ·rename_i hl
     rw [Bool.and_eq_true,Bool.or_eq_true] at hl
     split at h
     ·rename_i i a' hi ha
      cases h
      rw [show exS Γ N (.asg i a') pn = fun ρ=>oAsg pn i (evM Γ a' ρ) by funext ρ; rw [exS]]
      rcases hl.2 with hc | hc
      ·exact s_asg O hl.1 hi hc (hM _ _ ha)
      ·exact s_asgC fns Γ O hl.1 hi hc ha
     ·cases h
    ·cases h
   | Tuple es k p=>
    dsimp only [cAs] at h
    split at h
    ·rename_i hn
     split at h
     ·rename_i is a' his ha
      cases h
      first | (refine offS fun ρ=>?_; rw [exS]; done) | (rw [show exS Γ N (.unp is a') pn = fun ρ=>oUnp pn is (evM Γ a' ρ) by funext ρ; rw [exS]]; exact s_unp O (hM _ _ ha) his hn)
     ·cases h
    ·cases h
   | Subscript b k p=>
    dsimp only [cAs] at h
    split at h
    ·rename_i hn
     rw [Bool.and_eq_true] at hn
     split at h
     ·rename_i b' k' a' hb hk ha
      cases h
      first | (refine offS fun ρ=>?_; rw [exS]; done) | (rw [show exS Γ N (.put b' k' a') pn = fun ρ=>oPut b'.slot (evP Γ.fn b') (evI Γ.fn k') (evM Γ a' ρ) by funext ρ; rw [exS]]; exact s_put O (hM _ _ ha) (s_bp Γ O hE _ hb) (hE _ _ hk) hn.1 hn.2)
     ·cases h
    ·cases h
   | _=>cases h
theorem s_ag (O:CxOk X (tabG fns Γ) c) {m N:Nat} {t:Expr} {op:Operator} {e:Expr} {pos:Pos} {a:IS} (h:cAg fns m c t op e = some a) (pn:List Nat):SndS X pn (exS Γ N a pn) (.AugAssign t op e pos):=by
 have hM:=(snd_m fns Γ (m + 1)).1 X c O
 cases t with
 | Name x p=>
  dsimp only [cAg] at h
  split at h
  ·rename_i hl
   split at h
   ·rename_i i a' hi ha
    cases h
    first | (refine offS fun ρ=>?_; rw [exS]; done) | (rw [show ∀ op,exS Γ N (.aug i op a') pn = fun ρ=>oAug pn i op ρ[i]? (evM Γ a' ρ) by intro op; funext ρ; rw [exS]]; exact s_aug O hl hi (hM _ _ ha))
   ·cases h
  ·cases h
 | _=>cases h
theorem s_fapR {Γt:Tab} (O:CxOk X Γt c) (hp:PassesOwn (model X.prog X.w) X.A X.env X.xe) {N:Nat} {tg iter:Expr} {body:List Stmt} {pos:Pos} {a:IS} (h:cFap c tg iter body = some a) (pn:List Nat):SndS X pn (exS Γ N a pn) (.For tg iter body [] pos):=by cases h
theorem snd_s (O:CxOk X (tabG fns Γ) c) (hp:PassesOwn (model X.prog X.w) X.A X.env X.xe) {an:An} {m N:Nat}:∀ (n:Nat) {s:Stmt} {a:IS},cS fns an m c n s = some a->∀ pn,SndS X pn (exS Γ N a pn) s
 | 0,s,a,h,pn=>by cases h
 | n + 1,s,a,h,pn=>by
  have hM:=(snd_m fns Γ (m + 1)).1 X c O
  have hT:=(snd_m fns Γ (m + 1)).2 X c O
  have hE:=(snd_both (fm:=fmOf fns Γ) fns Γ.fn (m + 1)).1 X c O
  have hB:∀ {st:List Stmt} {b:ISs},cSeq (cS fns an m c n) st = some b->∀ pn,SndB X pn (exB Γ N b pn) st:=fun h=>s_seqC Γ (fun s a h=>snd_s O hp n h) h
  have main:∀ {a:IS},cS1 fns an m c (cSeq (cS fns an m c n)) s = some a->SndS X pn (exS Γ N a pn) s:=fun {a} h=>by
   cases s with
   | Assign ts e pos=>exact s_as fns Γ O h pn
   | AugAssign t op e pos=>exact s_ag fns Γ O h pn
   | Return e pos=>cases e with
    | some e=>
     obtain ⟨a',ha,rfl⟩:=mapS (show (cM fns (m + 1) c e).map .ret = some a from h)
     first | (refine offS fun ρ=>?_; rw [exS]; done) | (rw [show exS Γ N (.ret a') pn = fun ρ=>oRet (evM Γ a' ρ) by funext ρ; rw [exS]]; exact s_ret (hM _ _ ha))
    | none=>
     cases h
     first | (refine offS fun ρ=>?_; rw [exS]; done) | (rw [show exS Γ N .retN pn = fun ρ=>some (.rt .sh .non ρ) by funext ρ; rw [exS]]; exact s_retN)
   | Expr e pos=>
    dsimp only [cS1] at h
    split at h
    ·rename_i hd
     cases h
     rw [show exS Γ N .pas pn = fun ρ=>some (.nx ρ) by funext ρ; rw [exS]]
     unfold isDoc at hd
     split at hd
     ·exact s_doc
     ·cases hd
    ·split at h
     ·rename_i hn
      obtain ⟨a',ha,rfl⟩:=mapS h
      first | (refine offS fun ρ=>?_; rw [exS]; done) | (rw [show exS Γ N (.exp a') pn = fun ρ=>oExp (evM Γ a' ρ) by funext ρ; rw [exS]]; exact s_exp hn (hM _ _ ha))
     ·cases h
   | If t x y pos=>
    dsimp only [cS1] at h
    split at h
    ·rename_i t' a' b' ht ha hb
     cases h
     first | (refine offS fun ρ=>?_; rw [exS]; done) | (rw [show exS Γ N (.ifs t' a' b') pn = fun ρ=>oIfR (evMT Γ t' ρ) (exB Γ N a' pn) (exB Γ N b' pn) by funext ρ; conv=>lhs; rw [exS]]; exact s_ifS (hT _ _ ht) (hB ha pn) (hB hb pn))
    ·cases h
   | For tg iter body els pos=>cases els with
    | cons _ _=>cases h
    | nil=>
     dsimp only [cS1,cFo] at h
     split at h
     ·exact s_fapR Γ O hp h pn
     ·split at h
      ·rename_i hn
       split at h
       ·rename_i t' it' b' ht hit hb
        cases h
        first | (refine offS fun ρ=>?_; rw [exS]; done) | (rw [show ∀ fg,exS Γ N (.fo fg t' it' b') pn = fun ρ=>oForM pn fg t' (exB Γ N b') (evMI Γ it' ρ) by intro fg; funext ρ; conv=>lhs; rw [exS]]; exact s_forM O hp ht (s_itMI fns Γ O hM hE hit) (hB hb) hn)
       ·cases h
      ·cases h
   | While t body els pos=>cases els with
    | cons _ _=>cases h
    | nil=>
     dsimp only [cS1] at h
     split at h
     ·rename_i t' b' ht hb
      cases h
      first | (refine offS fun ρ=>?_; rw [exS]; done) | (rw [show ∀ fg,exS Γ N (.wh fg t' b') pn = fWhl fg (evMT Γ t') (exB Γ N b' pn) N by intro fg; funext ρ; conv=>lhs; rw [exS]]; exact s_whl hp (hT _ _ ht) (hB hb pn) N)
     ·cases h
   | Pass pos=>
    cases h
    first | (refine offS fun ρ=>?_; rw [exS]; done) | (rw [show exS Γ N .pas pn = fun ρ=>some (.nx ρ) by funext ρ; rw [exS]]; exact s_pass)
   | Break pos=>
    cases h
    first | (refine offS fun ρ=>?_; rw [exS]; done) | (rw [show exS Γ N .brk pn = fun ρ=>some (.bk ρ) by funext ρ; rw [exS]]; exact s_brk)
   | Continue pos=>
    cases h
    first | (refine offS fun ρ=>?_; rw [exS]; done) | (rw [show exS Γ N .cnt pn = fun ρ=>some (.ct ρ) by funext ρ; rw [exS]]; exact s_cont)
   | _=>cases h
  unfold cS at h
  unfold wrapP at h
  split at h
  ·exact main h
  ·rename_i a' ha _
   cases h
   first | (refine offS fun ρ=>?_; rw [exS]; done) | (rw [show ∀ l,exS Γ N (.pre l a') pn = fun ρ=>exS Γ N a' pn (frzN l ρ) by intro l; funext ρ; conv=>lhs; rw [exS]]; exact s_pre _ (main ha))
  ·cases h
end
end J
namespace J
open PySem PySem.Spec L2
noncomputable def Le {α:Type} (a b:Option α):Prop:=∀ r,a = some r->b = some r
theorem Le.refl {α:Type} (a:Option α):Le a a:=fun _ h=>h
structure TabF (P:Program) (w:World) (K:PySem.W.Frag) (mg:Str->Option Value) (base:Heap) (Γ:Tab) (k:Nat):Prop where
 fn:∀ x φ,Γ.fn x = some φ->∃ f fd ps,FnOk P w K mg base CX0 k f fd ps (spF K φ)/\mg x = some (.ref f)/\PySem.W.keepIn K (.ref f) = true/\Binds K fd ps []/\(x == ("__debug__":Str)) = false
 fm:∀ x sp,Γ.fm x = some sp->∃ f fd ps,FnOk P w K mg base CX0 k f fd ps (sp K)/\mg x = some (.ref f)/\PySem.W.keepIn K (.ref f) = true/\Binds K fd ps []/\(x == ("__debug__":Str)) = false
 bl:∀ x ∈ bltNames,mg x = none
 cst:∀ x d,Γ.cst x = some d->∃ u v,mg x = some u/\RelV v u/\(∀ H S,Rp K H S d v)/\(x == ("__debug__":Str)) = false
noncomputable def iniM (k:Nat) (ks:List KV2):Ro:=ks.map slP ++ List.replicate (k - ks.length) none
noncomputable def shK (d:D):KV2:=(.fz,d)
noncomputable def oDef (r:Option Res):Option KD:=match r with
 | some (.rt kd d _)=>if isBo kd = true then none else some (kd,d)
 | some (.nx _)=>some (.sh,.non)
 | _=>none
noncomputable def defI (Γ:GG) (N m k:Nat) (body:ISs) (ds:List D):Option KD:=if ds.length = m then oDef (exB Γ N body [] (iniM k (ds.map shK))) else none
noncomputable def outs (m:Nat) (pn:List Nat) (ρ:Ro):List (Option KV2):=(List.range m).map fun j=>if j ∈ pn then (match ρ[j]? with | some (some ⟨false,k,d⟩)=>some (k,d) | _=>none) else none
noncomputable def oDefM (m:Nat) (pn:List Nat) (r:Option Res):Option (Kd × D × List (Option KV2)):=match r with
 | some (.rt kd d ρ)=>if isBo kd = true then none else some (kd,d,outs m pn ρ)
 | some (.nx ρ)=>some (.sh,.non,outs m pn ρ)
 | _=>none
noncomputable def defM (Γ:GG) (N m k:Nat) (pn:List Nat) (body:ISs) (ks:List KV2):Option (Kd × D × List (Option KV2)):=if ks.length = m then oDefM m pn (exB Γ N body pn (iniM k ks)) else none
noncomputable def cDef (fns:Nms) (an:An) (n:Nat) (N:List Str) (st:Stmt):Option ISs:=cB fns an n ⟨defScope st,N,fun _=>true⟩ n (defBody st)
theorem start_get {N:List Str} {vs:List V} {i:Nat} (h:i < vs.length):(start N vs)[i]? = (vs.map some)[i]?:=by
 unfold L2.start
 rw [List.getElem?_append_left (by simpa using h)]
theorem ini_se {K:PySem.W.Frag} {H:Hp} {g:Gh} {N:List Str} {ks:List KV2} {vs:List V} (se:SE K g (ks.map slP) (vs.map some) H) (hl:ks.length<=N.length):SE K g (iniM N.length ks) (start N vs) H:=by
 have hv:ks.length = vs.length:=by simpa using se.len
 refine ⟨fun i sl e=>?_,se.mu,?_⟩
 ·unfold iniM at e
  by_cases hi:i < ks.length
  ·rw [List.getElem?_append_left (by simpa using hi)] at e
   obtain ⟨v,F,q1,q2,q3⟩:=se.slot i sl e
   exact ⟨v,F,by rw [start_get (by rw [<- hv]; exact hi)]; exact q1,q2,q3⟩
  ·rw [List.getElem?_append_right (by simpa using hi),List.getElem?_replicate] at e
   split at e <;> cases e
 ·unfold iniM L2.start
  simp only [List.length_append,List.length_map,List.length_replicate]
  omega
theorem sh_se {K:PySem.W.Frag} {H:Hp} {g:Gh} {ds:List D} {vs:List V} (r:RpL K H (Sg g) ds vs) (m:MuOk H (Sg g)):SE K g ((ds.map shK).map slP) (vs.map some) H:=by
 refine ⟨fun i sl e=>?_,m,by simp [r.len]⟩
 rw [List.getElem?_map,List.getElem?_map] at e
 cases q:ds[i]? with
 | none=>rw [q] at e; cases e
 | some d=>
  rw [q] at e
  cases e
  obtain ⟨v,e1,e2⟩:=r.getD q
  exact ⟨v,noF,by rw [List.getElem?_map,e1]; rfl,fun _ z=>z.elim,.fz e2⟩
theorem re_none {g:Gh} {b:Addr} {i:Nat}:g.re (fun _=>none) b ≠ some (some i):=fun e=>by
 unfold Gh.re at e
 cases q:g b with
 | none=>rw [q] at e; cases e
 | some x=>cases x <;> (rw [q] at e; cases e)
theorem re_outN {g:Gh} {b:Addr} (h:g b ≠ none):g.re (fun _=>none) b = some none:=by
 unfold Gh.re
 cases q:g b with
 | none=>exact absurd q h
 | some x=>cases x <;> rfl
theorem pure_post {K:PySem.W.Frag} {g g':Gh} {H H':Hp} {F:Pr} (ev:Evo (g.re fun _=>none) H g' H' F):Same H H'/\(∀ b,F b->H b = none)/\∀ b,Sg g b->Sg g' b:=
 ⟨fun b o e=>ev.keep b o (fun i q=>re_none q) e,fun b z=>(ev.tmp b z).2.elim (fun ⟨j,q⟩=>absurd q re_none) id,fun b z=>by rw [Sg,(ev.out b).mp (re_outN z)]; simp⟩
section
variable {P:Program} {w:World} {K:PySem.W.Frag} {mg:Str->Option Value} {base:Heap} {fns:Nms} {Γ:GG} {x qual:Str} {st:Stmt} {f:Addr} {fd:FuncData} {N ps:List Str} {k n M:Nat} {an:An} {body:ISs}
theorem def_okI (F:Fun K x qual st f fd) (S:FnScope N ps (defScope st)) (T:TabF P w K mg base (tabG fns Γ) k) (hc:cDef fns an n N st = some body) :
  FnOk P w K mg base CX0 (k + 1) f fd ps (spF K (defI Γ M ps.length N.length body)):=by
 have hN:ps.length<=N.length:=by
  have:=congrArg List.length S.pre
  rw [List.length_take] at this
  omega
 refine F.ok S (fun vs H Q E h=>?_) (fun cdv A outer s H vs Q E hr h=>?_)
 ·obtain ⟨ds,g,k',d,r,dm,hφ,q⟩:=h
  unfold defI at hφ
  split at hφ
  ·rename_i hl
   rw [r.len,hl]
  ·cases hφ
 ·obtain ⟨ds,g,k',d,r,dm,hφ,q⟩:=h
  unfold defI at hφ
  split at hφ
  ·rename_i hl
   have O:CxOk (cxOf CX0 P w K mg base N qual (defScope st) f cdv A outer s H E).nox (tabG fns Γ) ⟨defScope st,N,fun _=>true⟩:=
    ⟨rfl,rfl,fun _ _=>rfl,rfl,S.nd,⟨fun y φ hy=>by
     obtain ⟨g,gd,qs,h1,h2,h3,h4,h5⟩:=T.fn y φ hy
     exact ⟨k,g,gd,qs,h1,hr,h2,h3,h4,h5⟩,fun y φ hy=>by
     obtain ⟨g,gd,qs,h1,h2,h3,h4,h5⟩:=T.fm y φ hy
     exact ⟨k,g,gd,qs,h1,hr,h2,h3,h4,h5⟩,T.bl,(by have h:=hr.un; exact Nat.lt_of_le_of_lt (Nat.le_trans (Nat.add_le_add_left (by decide:100<=200) _) (Nat.add_le_add_right (Nat.le_add_right _ _) 200)) h),hr.gd,T.cst⟩⟩
   have m0:MuOk H (Sg (g.re fun _=>none)):=fun b z=>dm b ((re_S b).mp z)
   have r0:RpL K H (Sg (g.re fun _=>none)) ds vs:=r.weak fun b z=>(re_S b).mp z
   have se:=ini_se (N:=N) (sh_se r0 m0) (by simpa [hl] using hN)
   have sb:SndB _ [] (exB Γ M body []) (defBody st):=s_seqC Γ (fun s is h=>snd_s fns Γ O PassesOwn.never n h) hc []
   refine ⟨_,pss_w,?_⟩
   unfold oDef at hφ
   split at hφ
   ·rename_i k2 d2 ρ2 hex
    split at hφ
    ·cases hφ
    ·rename_i hb
     cases hφ
     refine sb _ _ hex _ (start N vs) H _ se fun v σ' g' H' F ev se' pk vr=>?_
     obtain ⟨p1,p2,p3⟩:=pure_post (K:=K) ev
     exact q v H' p1 ⟨F,p2,vr.unlend (by simpa using hb) p3⟩
   ·rename_i ρ' hex
    cases hφ
    refine sb _ _ hex _ (start N vs) H _ se fun σ' g' H' ev se' pk=>?_
    obtain ⟨p1,p2,p3⟩:=pure_post (K:=K) ev
    exact q .non H' p1 vNon
   ·cases hφ
  ·cases hφ
theorem outs_some {m:Nat} {pn:List Nat} {ρ:Ro} {j:Nat} {sl:Sl} (h:((outs m pn ρ).map slQ)[j]? = some (some sl)):j < m/\j ∈ pn/\ρ[j]? = some (some sl):=by
 unfold outs at h
 rw [List.getElem?_map,List.getElem?_map] at h
 by_cases hj:j < m
 ·rw [List.getElem?_range hj] at h
  simp only [Option.map_some,Option.some.injEq] at h
  split at h
  ·rename_i hp
   split at h
   ·rename_i k d e
    cases h
    exact ⟨hj,hp,e⟩
   ·cases h
  ·cases h
 ·rw [List.getElem?_eq_none (by simpa using hj)] at h
  cases h
theorem outs_len {m:Nat} {pn:List Nat} {ρ:Ro}:(outs m pn ρ).length = m:=by simp [outs]
theorem def_okM {pn:List Nat} (F:Fun K x qual st f fd) (S:FnScope N ps (defScope st)) (T:TabF P w K mg base (tabG fns Γ) k) (hc:cDef fns an n N st = some body) :
  FnOk P w K mg base CX0 (k + 1) f fd ps (spM K (defM Γ M ps.length N.length pn body)):=by
 have hN:ps.length<=N.length:=by
  have:=congrArg List.length S.pre
  rw [List.length_take] at this
  omega
 refine F.ok S (fun vs H Q E h=>?_) (fun cdv A outer s H vs Q E hr h=>?_)
 ·obtain ⟨ks,g,k',d,os,se,hφ,q⟩:=h
  unfold defM at hφ
  split at hφ
  ·rename_i hl
   have:=se.len
   simp only [List.length_map] at this
   rw [<- this,hl]
  ·cases hφ
 ·obtain ⟨ks,g,k',d,os,se,hφ,q⟩:=h
  unfold defM at hφ
  split at hφ
  ·rename_i hl
   have hv:ks.length = vs.length:=by simpa using se.len
   have O:CxOk (cxOf CX0 P w K mg base N qual (defScope st) f cdv A outer s H E).nox (tabG fns Γ) ⟨defScope st,N,fun _=>true⟩:=
    ⟨rfl,rfl,fun _ _=>rfl,rfl,S.nd,⟨fun y φ hy=>by
     obtain ⟨g,gd,qs,h1,h2,h3,h4,h5⟩:=T.fn y φ hy
     exact ⟨k,g,gd,qs,h1,hr,h2,h3,h4,h5⟩,fun y φ hy=>by
     obtain ⟨g,gd,qs,h1,h2,h3,h4,h5⟩:=T.fm y φ hy
     exact ⟨k,g,gd,qs,h1,hr,h2,h3,h4,h5⟩,T.bl,(by have h:=hr.un; exact Nat.lt_of_le_of_lt (Nat.le_trans (Nat.add_le_add_left (by decide:100<=200) _) (Nat.add_le_add_right (Nat.le_add_right _ _) 200)) h),hr.gd,T.cst⟩⟩
   have se0:=ini_se (N:=N) se (by rw [hl]; exact hN)
   have sb:SndB _ pn (exB Γ M body pn) (defBody st):=s_seqC Γ (fun s is h=>snd_s fns Γ O PassesOwn.never n h) hc pn
   have fin:∀ {g':Gh} {H':Hp} {F:Pr} {σ':L2.St} {ρ':Ro},SE K (g'.plus F) ρ' σ' H'->PinOk pn (start N vs) σ'->SE K (g'.plus F) ((outs ps.length pn ρ').map slQ) (vs.map some) H':=fun {g' H' F σ' ρ'} s1 pk=>by
    refine ⟨fun j sl e=>?_,s1.mu,by simp [outs_len,<- hv,hl]⟩
    obtain ⟨h1,h2,h3⟩:=outs_some e
    obtain ⟨v,Fj,q1,q2,q3⟩:=s1.slot j sl h3
    exact ⟨v,Fj,by rw [<- q1,pk j h2,start_get (by rw [<- hv,hl]; exact h1)],q2,q3⟩
   refine ⟨_,pss_w,?_⟩
   unfold oDefM at hφ
   split at hφ
   ·rename_i k2 d2 ρ2 hex
    split at hφ
    ·cases hφ
    ·rename_i hb
     cases hφ
     exact sb _ _ hex _ (start N vs) H _ se0 fun v σ' g' H' F ev se' pk vr=>q v g' H' F ev (fin se' pk) vr
   ·rename_i ρ' hex
    cases hφ
    refine sb _ _ hex _ (start N vs) H _ se0 fun σ' g' H' ev se' pk=>q .non g' H' noF ev (fin (by rw [plus_no fun _ z=>z]; exact se') pk) ⟨fun _ z=>z,by unfold Rp; rfl⟩
   ·cases hφ
  ·cases hφ
end
noncomputable def addN {α:Type} (Γ:Nat->Option α) (i:Nat) (φ:α):Nat->Option α:=fun j=>if j = i then some φ else Γ j
noncomputable abbrev GG.addI (Γ:GG) (i:Nat) (φ:Fn):GG:=⟨addN Γ.fn i φ,Γ.fm⟩
noncomputable abbrev GG.addM (Γ:GG) (i:Nat) (φ:Fm):GG:=⟨Γ.fn,addN Γ.fm i φ⟩
theorem spF_le {K:PySem.W.Frag} {φ ψ:Fn} (h:∀ ds,Le (ψ ds) (φ ds)) {vs:List V} {H:Hp} {Q:VK} {E:XK} (s:spF K ψ vs H Q E):spF K φ vs H Q E:=by
 obtain ⟨ds,S,k,d,h1,h2,h3,h4⟩:=s
 exact ⟨ds,S,k,d,h1,h2,h ds _ h3,h4⟩
theorem spM_le {K:PySem.W.Frag} {φ ψ:Fm} (h:∀ ds,Le (ψ ds) (φ ds)) {vs:List V} {H:Hp} {Q:VK} {E:XK} (s:spM K ψ vs H Q E):spM K φ vs H Q E:=by
 obtain ⟨ks,g,kd,d,os,h1,h2,h3⟩:=s
 exact ⟨ks,g,kd,d,os,h1,h ks _ h2,h3⟩
section
variable {P:Program} {w:World} {K:PySem.W.Frag} {mg:Str->Option Value} {base:Heap} {fns:Nms} {Γ:GG} {x qual:Str} {st:Stmt} {f:Addr} {fd:FuncData} {N ps:List Str} {k n M i:Nat} {an:An} {body:ISs}
theorem TabF.up (T:TabF P w K mg base (tabG fns Γ) k):TabF P w K mg base (tabG fns Γ) (k + 1):=
  ⟨fun y φ hy=>by obtain ⟨g,gd,qs,h1,h2,h3,h4,h5⟩:=T.fn y φ hy; exact ⟨g,gd,qs,h1.mono (Nat.le_succ k),h2,h3,h4,h5⟩,
   fun y φ hy=>by obtain ⟨g,gd,qs,h1,h2,h3,h4,h5⟩:=T.fm y φ hy; exact ⟨g,gd,qs,h1.mono (Nat.le_succ k),h2,h3,h4,h5⟩,T.bl,T.cst⟩
theorem TabF.addI {ψ:Fn} (T:TabF P w K mg base (tabG fns Γ) k) (F:Fun K x qual st f fd) (S:FnScope N ps (defScope st)) (hm:mg x = some (.ref f)) (hb:Binds K fd ps []) (hd:(x == ("__debug__":Str)) = false)
  (hi:fns.fns[i]? = some x) (hc:cDef fns an n N st = some body) (hψ:∀ ds,Le (ψ ds) (defI Γ M ps.length N.length body ds)):TabF P w K mg base (tabG fns (Γ.addI i ψ)) (k + 1):=by
 refine ⟨fun y φ hy=>?_,T.up.fm,T.bl,T.cst⟩
 have hy:(ixOf y fns.fns).bind (addN Γ.fn i ψ) = some φ:=hy
 cases hj:ixOf y fns.fns with
 | none=>rw [hj] at hy; cases hy
 | some j=>
  rw [hj] at hy
  have hy':addN Γ.fn i ψ j = some φ:=hy
  unfold addN at hy'
  split at hy'
  ·rename_i e
   subst e
   cases hy'
   have hyx:y = x:=by
    have:=ixOf_get hj
    rw [hi] at this
    exact (Option.some.inj this).symm
   subst hyx
   exact ⟨f,fd,ps,(def_okI (n:=n) (an:=an) (M:=M) F S T hc).imp fun vs H Q E s=>spF_le hψ s,hm,F.kp,hb,hd⟩
  ·exact T.up.fn y φ (by show (ixOf y fns.fns).bind Γ.fn = _; rw [hj]; exact hy')
theorem TabF.addM {ψ:Fm} {pn:List Nat} (T:TabF P w K mg base (tabG fns Γ) k) (F:Fun K x qual st f fd) (S:FnScope N ps (defScope st)) (hm:mg x = some (.ref f)) (hb:Binds K fd ps []) (hd:(x == ("__debug__":Str)) = false)
  (hi:fns.fns[i]? = some x) (hc:cDef fns an n N st = some body) (hψ:∀ ds,Le (ψ ds) (defM Γ M ps.length N.length pn body ds)):TabF P w K mg base (tabG fns (Γ.addM i ψ)) (k + 1):=by
 refine ⟨T.up.fn,fun y sp hy=>?_,T.bl,T.cst⟩
 have hy:(ixOf y fns.fns).bind (fun j=>(addN Γ.fm i ψ j).map fun φ=>fun K=>spM K φ) = some sp:=hy
 cases hj:ixOf y fns.fns with
 | none=>rw [hj] at hy; cases hy
 | some j=>
  rw [hj] at hy
  obtain ⟨φ,hy',rfl⟩:=mapS (show (addN Γ.fm i ψ j).map _ = some sp from hy)
  unfold addN at hy'
  split at hy'
  ·rename_i e
   subst e
   cases hy'
   have hyx:y = x:=by
    have:=ixOf_get hj
    rw [hi] at this
    exact (Option.some.inj this).symm
   subst hyx
   exact ⟨f,fd,ps,(def_okM (n:=n) (an:=an) (M:=M) (pn:=pn) F S T hc).imp fun vs H Q E s=>spM_le hψ s,hm,F.kp,hb,hd⟩
  ·exact T.up.fm y _ (by show fmOf fns Γ y = _; unfold fmOf; rw [hj,Option.bind_some,hy']; rfl)
end
theorem law_sp {K:PySem.W.Frag} {φ:Fn} {H:Hp} {a:Addr} {ns:List Int} (hS:SqL K H a (ns.map V.int)) (h:φ [.scr ns] = some (.sh,.bl true)):spF K φ [.ref a] H (fun v _=>v = .bl true) fun _ _ _=>False:=by
 refine ⟨[.scr ns],fun _=>none,.sh,.bl true,.cons ?_ .nil,fun b z=>absurd rfl z,h,fun v H' _ r=>r.rd.bl⟩
 unfold Rp
 refine ⟨a,rfl,?_⟩
 rcases hS with h | h
 ·exact .inl ⟨fun z=>z rfl,h⟩
 ·exact .inr h
theorem us1 {P:List Value->Prop} (h:∀ a,P [a]):∀ us:List Value,us.length = 1->P us
 | [a],_=>h a
theorem us2 {P:List Value->Prop} (h:∀ a b,P [a,b]):∀ us:List Value,us.length = 2->P us
 | [a,b],_=>h a b
theorem us3 {P:List Value->Prop} (h:∀ a b c,P [a,b,c]):∀ us:List Value,us.length = 3->P us
 | [a,b,c],_=>h a b c
theorem us4 {P:List Value->Prop} (h:∀ a b c d,P [a,b,c,d]):∀ us:List Value,us.length = 4->P us
 | [a,b,c,d],_=>h a b c d
end J
namespace J
open PySem PySem.Spec L2
noncomputable def Wp {α:Type} (a:Option α) (Q:α->Prop):Prop:=∃ r,a = some r/\Q r
theorem Wp.mono {α:Type} {a:Option α} {Q R:α->Prop} (h:Wp a Q) (k:∀ r,Q r->R r):Wp a R:=let ⟨r,e,q⟩:=h; ⟨r,e,k r q⟩
theorem wp_some {α:Type} {r:α} {Q:α->Prop} (q:Q r):Wp (some r) Q:=⟨r,rfl,q⟩
section
variable {Γ:Nat->Option Fn} {ρ:Ro} {Q:KD->Prop}
theorem we_var {i:Nat} {s:Sl} (h:ρ[i]? = some (some s)) (q:Q (slKd i s)):Wp (evI Γ (.var i) ρ) Q:=⟨_,by rw [evI,h]; rfl,q⟩
theorem we_lit {d:D} (q:Q (.sh,d)):Wp (evI Γ (.lit d) ρ) Q:=⟨_,by rw [evI],q⟩
theorem we_bin {op:Operator} {a b:IE} (h:Wp (evI Γ a ρ) fun x=>Wp (evI Γ b ρ) fun y=>Wp (binD op x y) Q):Wp (evI Γ (.bin op a b) ρ) Q:=by
 obtain ⟨x,ex,y,ey,z,ez,q⟩:=h
 exact ⟨z,by rw [evI,ex,ey]; exact ez,q⟩
theorem we_cmp {op:CmpOp} {a b:IE} (h:Wp (evI Γ a ρ) fun x=>Wp (evI Γ b ρ) fun y=>Wp (cmpD op x.2 y.2) fun r=>Q (.sh,.bl r)):Wp (evI Γ (.cmp op a b) ρ) Q:=by
 obtain ⟨x,ex,y,ey,z,ez,q⟩:=h
 exact ⟨_,by rw [evI,ex,ey]; show bV (cmpD op x.2 y.2) = _; rw [ez]; rfl,q⟩
theorem we_not {a:IE} (h:Wp (evI Γ a ρ) fun x=>Wp (truD x.2) fun b=>Q (.sh,.bl (!b))):Wp (evI Γ (.not a) ρ) Q:=by
 obtain ⟨x,ex,b,eb,q⟩:=h
 exact ⟨_,by rw [evI,ex]; show bV ((truD x.2).map _) = _; rw [eb]; rfl,q⟩
theorem we_lst {k:Ow} {es:IEs} (h:Wp (evIs Γ es ρ) fun kds=>Wp (oLst k (some kds)) Q):Wp (evI Γ (.lst k es) ρ) Q:=by
 obtain ⟨x,ex,z,ez,q⟩:=h
 exact ⟨z,by rw [evI,ex]; exact ez,q⟩
theorem we_tup {k:Ow} {es:IEs} (h:Wp (evIs Γ es ρ) fun kds=>Wp (oTup k (some kds)) Q):Wp (evI Γ (.tup k es) ρ) Q:=by
 obtain ⟨x,ex,z,ez,q⟩:=h
 exact ⟨z,by rw [evI,ex]; exact ez,q⟩
theorem we_ix {a b:IE} (h:Wp (evI Γ a ρ) fun x=>Wp (evI Γ b ρ) fun y=>Wp (oIx (some x) (some y)) Q):Wp (evI Γ (.ix a b) ρ) Q:=by
 obtain ⟨x,ex,y,ey,z,ez,q⟩:=h
 exact ⟨z,by rw [evI,ex,ey]; exact ez,q⟩
theorem we_sl {a:IE} {lo hi:IO} (h:Wp (evI Γ a ρ) fun x=>Wp (evIO Γ lo ρ) fun l=>Wp (evIO Γ hi ρ) fun u=>Wp (oSl (some x) (some l) (some u)) Q):Wp (evI Γ (.sl a lo hi) ρ) Q:=by
 obtain ⟨x,ex,l,el,u,eu,z,ez,q⟩:=h
 exact ⟨z,by rw [evI,ex,el,eu]; exact ez,q⟩
theorem we_lset {a:IE} (h:Wp (evI Γ a ρ) fun x=>Wp (oLset (some x)) Q):Wp (evI Γ (.lset a) ρ) Q:=by
 obtain ⟨x,ex,z,ez,q⟩:=h
 exact ⟨z,by rw [evI,ex]; exact ez,q⟩
theorem we_dsp {k:D} {a:IE} (h:Wp (evI Γ a ρ) fun x=>Wp (oDsp k (some x)) Q):Wp (evI Γ (.dsp k a) ρ) Q:=by
 obtain ⟨x,ex,z,ez,q⟩:=h
 exact ⟨z,by rw [evI,ex]; exact ez,q⟩
theorem we_fn {i:Nat} {φ:Fn} {es:IEs} (hΓ:Γ i = some φ) (h:Wp (evIs Γ es ρ) fun kds=>Wp (fFn φ kds) Q):Wp (evI Γ (.fn i es) ρ) Q:=by
 obtain ⟨x,ex,z,ez,q⟩:=h
 exact ⟨z,by rw [evI,ex,hΓ]; exact ez,q⟩
theorem we_blt {x:Str} {es:IEs} (h:Wp (evIs Γ es ρ) fun kds=>Wp (fBlt x kds) Q):Wp (evI Γ (.blt x es) ρ) Q:=by
 obtain ⟨y,ey,z,ez,q⟩:=h
 exact ⟨z,by rw [evI,ey]; exact ez,q⟩
theorem we_isi {T:Str} {a:IE} (h:Wp (evI Γ a ρ) fun x=>Wp (isiD T x.2) fun b=>Q (.sh,.bl b)):Wp (evI Γ (.isi T a) ρ) Q:=by
 obtain ⟨y,ey,z,ez,q⟩:=h
 exact ⟨_,by rw [evI,ey]; show bV (isiD T y.2) = _; rw [ez]; rfl,q⟩
theorem we_bool1 {op:BoolOp} {a:IE} (h:Wp (evI Γ a ρ) Q):Wp (evI Γ (.bool op (.cons a .nil)) ρ) Q:=by
 obtain ⟨y,ey,q⟩:=h
 exact ⟨y,by rw [evI,evIB]; exact ey,q⟩
theorem we_boolC {op:BoolOp} {a b:IE} {r:IEs} (h:Wp (evI Γ a ρ) fun x=>∃ z,x.2 = .bl z/\((op == .And) = z->Wp (evI Γ (.bool op (.cons b r)) ρ) Q)/\((op == .And) ≠ z->Q (.sh,.bl z))):Wp (evI Γ (.bool op (.cons a (.cons b r))) ρ) Q:=by
 obtain ⟨⟨k,d⟩,ey,z,hz,q1,q2⟩:=h
 have hz:d = .bl z:=hz
 subst hz
 by_cases hh:(op == .And) = z
 ·obtain ⟨y,e2,q⟩:=q1 hh
  rw [evI] at e2
  exact ⟨y,by rw [evI,evIB,ey]; exact (if_pos hh).trans e2,q⟩
 ·exact ⟨_,by rw [evI,evIB,ey]; exact if_neg hh,q2 hh⟩
theorem we_comp {r:Ow} {cap:List (Option Nat)} {tg:IT} {it:II} {ts:IO} {elt:IE} (h:Wp (evII Γ it ρ) fun p=>p.2.length<=100000/\Wp (evMap r (eltI tg (evITs Γ ts) (evI Γ elt) (capRo ρ cap)) p.2) fun ys=>Q (.fr (.own [] r),.lst ys)):Wp (evI Γ (.comp r cap tg it ts elt) ρ) Q:=by
 obtain ⟨p,ep,hl,ys,ey,q⟩:=h
 obtain ⟨bs,ds⟩:=p
 exact ⟨_,by rw [evI,ep]; show (if ds.length<=100000 then _ else _) = _; rw [if_pos hl,ey],q⟩
variable {T:Bool->Prop}
theorem wt_cmp {op:CmpOp} {a b:IE} (h:Wp (evI Γ a ρ) fun x=>Wp (evI Γ b ρ) fun y=>Wp (cmpD op x.2 y.2) T):Wp (evIT Γ (.cmp op a b) ρ) T:=by
 obtain ⟨x,ex,y,ey,z,ez,q⟩:=h
 exact ⟨_,by rw [evIT,ex,ey]; exact ez,q⟩
theorem wt_not {a:IE} (h:Wp (evIT Γ a ρ) fun b=>T (!b)):Wp (evIT Γ (.not a) ρ) T:=by
 obtain ⟨x,ex,q⟩:=h
 exact ⟨_,by rw [evIT,ex]; rfl,q⟩
theorem wt_bool1 {op:BoolOp} {a:IE} (h:Wp (evIT Γ a ρ) T):Wp (evIT Γ (.bool op (.cons a .nil)) ρ) T:=by
 obtain ⟨y,ey,q⟩:=h
 exact ⟨y,by rw [evIT,evIBT]; exact ey,q⟩
theorem wt_boolC {op:BoolOp} {a b:IE} {r:IEs} (h:Wp (evIT Γ a ρ) fun z=>((op == .And) = z->Wp (evIT Γ (.bool op (.cons b r)) ρ) T)/\((op == .And) ≠ z->T z)):Wp (evIT Γ (.bool op (.cons a (.cons b r))) ρ) T:=by
 obtain ⟨z,ey,q1,q2⟩:=h
 by_cases hh:(op == .And) = z
 ·obtain ⟨y,e2,q⟩:=q1 hh
  rw [evIT] at e2
  exact ⟨y,by rw [evIT,evIBT,ey]; exact (if_pos hh).trans e2,q⟩
 ·exact ⟨_,by rw [evIT,evIBT,ey]; exact if_neg hh,q2 hh⟩
theorem wt_tru {a:IE} (ht:truK a = true) (h:Wp (evI Γ a ρ) fun x=>Wp (truD x.2) T):Wp (evIT Γ a ρ) T:=by
 obtain ⟨x,ex,b,eb,q⟩:=h
 exact ⟨b,by rw [truK_ok ht]; show oTru (evI Γ a ρ) = _; rw [ex]; exact eb,q⟩
variable {L:List KD->Prop}
theorem ws_nil (q:L []):Wp (evIs Γ .nil ρ) L:=⟨_,by rw [evIs],q⟩
theorem ws_cons {a:IE} {r:IEs} (h:Wp (evI Γ a ρ) fun x=>Wp (evIs Γ r ρ) fun xs=>L (x :: xs)):Wp (evIs Γ (.cons a r) ρ) L:=by
 obtain ⟨x,ex,xs,exs,q⟩:=h
 exact ⟨_,by rw [evIs,ex,exs]; rfl,q⟩
theorem wo_non {P:Option Int->Prop} (q:P none):Wp (evIO Γ .non ρ) P:=⟨_,by rw [evIO],q⟩
theorem wo_som {P:Option Int->Prop} {a:IE} (h:Wp (evI Γ a ρ) fun x=>∃ i,x.2 = .int i/\P (some i)):Wp (evIO Γ (.som a) ρ) P:=by
 obtain ⟨⟨k,d⟩,ex,i,hi,q⟩:=h
 have hi:d = .int i:=hi
 subst hi
 exact ⟨_,by rw [evIO,ex]; rfl,q⟩
variable {P:List Nat × List D->Prop}
theorem wi_e {a:IE} (h:Wp (evI Γ a ρ) fun x=>Wp (oSeq (some x)) P):Wp (evII Γ (.e a) ρ) P:=by
 obtain ⟨x,ex,z,ez,q⟩:=h
 exact ⟨z,by rw [evII,ex]; exact ez,q⟩
theorem wi_rng {a b:IE} (h:Wp (evI Γ a ρ) fun x=>Wp (evI Γ b ρ) fun y=>Wp (oRng (some x) (some y)) P):Wp (evII Γ (.rng a b) ρ) P:=by
 obtain ⟨x,ex,y,ey,z,ez,q⟩:=h
 exact ⟨z,by rw [evII,ex,ey]; exact ez,q⟩
end
section
variable {Q:KD->Prop} {k k':Kd} {i j:Int}
theorem wb_add (q:Q (.sh,.int (i + j))):Wp (binD .Add (k,.int i) (k',.int j)) Q:=wp_some q
theorem wb_sub (q:Q (.sh,.int (i - j))):Wp (binD .Sub (k,.int i) (k',.int j)) Q:=wp_some q
theorem wb_mul (h:i.natAbs < lim/\j.natAbs < lim) (q:Q (.sh,.int (i * j))):Wp (binD .Mult (k,.int i) (k',.int j)) Q:=⟨_,int_bin (if_pos h),q⟩
theorem wb_fdiv (h:0 < j/\j.natAbs < lim) (q:Q (.sh,.int (i / j))):Wp (binD .FloorDiv (k,.int i) (k',.int j)) Q:=⟨_,int_bin (if_pos h),q⟩
theorem wb_mod (h:0 < j) (q:Q (.sh,.int (i % j))):Wp (binD .Mod (k,.int i) (k',.int j)) Q:=⟨_,int_bin (if_pos h),q⟩
theorem wb_pow (h:0<=j/\j<=1000000/\i.natAbs < 2 ^ 64) (q:Q (.sh,.int (i ^ j.toNat))):Wp (binD .Pow (k,.int i) (k',.int j)) Q:=⟨_,int_bin (if_pos h),q⟩
theorem wb_shl (h:0<=j/\j<=1000000/\i.natAbs < lim) (q:Q (.sh,.int (i * 2 ^ j.toNat))):Wp (binD .LShift (k,.int i) (k',.int j)) Q:=⟨_,int_bin (if_pos h),q⟩
theorem wb_cat {xs ys:List D} (h:okE k xs = true/\okE k' ys = true/\xs.length + ys.length<=100000) (q:Q (.fr flatO,.lst (xs ++ ys))):Wp (binD .Add (k,.lst xs) (k',.lst ys)) Q:=⟨_,if_pos h,q⟩
variable {T:Bool->Prop}
theorem wc_lt (q:T (decide (i < j))):Wp (cmpD .Lt (.int i) (.int j)) T:=wp_some q
theorem wc_le (q:T (decide (i<=j))):Wp (cmpD .LtE (.int i) (.int j)) T:=wp_some q
theorem wc_gt (q:T (decide (j < i))):Wp (cmpD .Gt (.int i) (.int j)) T:=wp_some q
theorem wc_ge (q:T (decide (j<=i))):Wp (cmpD .GtE (.int i) (.int j)) T:=wp_some q
theorem wc_eqD {x y:D} (h:pok 90 x = true/\pok 90 y = true) (q:T (eqD x y)):Wp (cmpD .Eq x y) T:=⟨_,if_pos h,q⟩
theorem wc_neD {x y:D} (h:pok 90 x = true/\pok 90 y = true) (q:T (!eqD x y)):Wp (cmpD .NotEq x y) T:=⟨_,if_pos h,q⟩
theorem eqD_int:eqD (.int i) (.int j) = decide (i = j):=by
 unfold eqD py
 simp [PyData.eqv]
 try rfl
theorem wc_eq (q:T (decide (i = j))):Wp (cmpD .Eq (.int i) (.int j)) T:=wc_eqD ⟨rfl,rfl⟩ (by rw [eqD_int]; exact q)
theorem wc_ne (q:T (!decide (i = j))):Wp (cmpD .NotEq (.int i) (.int j)) T:=wc_neD ⟨rfl,rfl⟩ (by rw [eqD_int]; exact q)
theorem wc_isB {b c:Bool} (q:T (c == b)):Wp (cmpD .Is (.bl c) (.bl b)) T:=wp_some q
variable {xs:List D} {d:D} {n:Nat}
theorem wx_lst {z:Int} (hj:ixN xs.length z = some n) (hd:xs[n]? = some d) (q:Q (chK k n,d)):Wp (oIx (some (k,.nd .lst xs)) (some (k',.int z))) Q:=⟨_,by show (match ixN xs.length z with | some j=>(xs[j]?).map (fun d=>(chK k j,d)) | none=>none) = _; rw [hj]; show (xs[n]?).map _ = _; rw [hd]; rfl,q⟩
theorem wx_tup {z:Int} (hj:ixN xs.length z = some n) (hd:xs[n]? = some d) (q:Q (chK k n,d)):Wp (oIx (some (k,.nd .tup xs)) (some (k',.int z))) Q:=⟨_,by show (match ixN xs.length z with | some j=>(xs[j]?).map (fun d=>(chK k j,d)) | none=>none) = _; rw [hj]; show (xs[n]?).map _ = _; rw [hd]; rfl,q⟩
theorem ixN_nat {m:Nat} {z:Int} (h0:0<=z) (h1:z < m):ixN m z = some z.toNat:=by unfold ixN; rw [if_pos h0,if_pos h1]
end
theorem wl_len {Q:KD->Prop} {k:Kd} {d:D} {n:Nat} (h:lenD d = some n) (q:Q (.sh,.int n)):Wp (fBlt "len" [(k,d)]) Q:=by
 refine ⟨(.sh,.int n),?_,q⟩
 have e:fBlt "len" = fLen:=by unfold fBlt; rw [if_pos rfl]
 rw [e]
 unfold fLen
 dsimp only
 rw [h]
 rfl
theorem wl_list {Q:KD->Prop} {k:Kd} {ds:List D} (h:okE k ds = true) (q:Q (.fr flatO,.lst ds)):Wp (fBlt "list" [(k,.nd .lst ds)]) Q:=⟨_,if_pos h,q⟩
theorem wl_tuple {Q:KD->Prop} {k:Kd} {ds:List D} (h:okE k ds = true) (q:Q (.sh,.tup ds)):Wp (fBlt "tuple" [(k,.nd .lst ds)]) Q:=⟨_,if_pos h,q⟩
theorem wl_all {Q:KD->Prop} {k:Kd} {bs:List Bool} (q:Q (.sh,.bl (bs.all id))):Wp (fBlt "all" [(k,.nd .lst (bs.map D.bl))]) Q:=by
 refine ⟨(.sh,.bl (bs.all id)),?_,q⟩
 have e:fBlt "all" [(k,.nd .lst (bs.map D.bl))] = (toBools (bs.map D.bl)).map fun bs=>(Kd.sh,D.bl (bs.all id)):=rfl
 rw [e,toBools_map]
 rfl
theorem wf_fn {φ:Fn} {kds:List KD} {Q:KD->Prop} (h:Wp (φ (kds.map (·.2))) fun r=>isBo r.1 = false/\((kds.all fun p=>okS p.1 p.2) = true\/cleanK r.1 r.2 = true)/\Q r):Wp (fFn φ kds) Q:=by
 obtain ⟨⟨kd,d⟩,e,hb,ho,q⟩:=h
 refine ⟨(kd,d),?_,q⟩
 unfold fFn
 rw [e]
 dsimp only
 by_cases ha:(kds.all fun p=>okS p.1 p.2) = true
 ·rw [if_pos ha,if_neg (by simpa using hb)]
 ·rw [if_neg ha,if_pos (ho.resolve_left ha)]
section
variable {Γ:GG} {ρ:Ro} {Q:Kd × D × Ro->Prop}
theorem wm_p {e:IE} (h:Wp (evI Γ.fn e ρ) fun x=>Q (x.1,x.2,ρ)):Wp (evM Γ (.p e) ρ) Q:=by
 obtain ⟨x,ex,q⟩:=h
 exact ⟨_,by rw [evM,ex]; rfl,q⟩
theorem wm_mv {i:Nat} {es:List Ow} {r:Ow} {d:D} (h:ρ[i]? = some (some ⟨false,.own es r,d⟩)) (q:Q (.fr (.own es r),d,ρ.set i none)):Wp (evM Γ (.mv i) ρ) Q:=⟨_,by rw [evM]; unfold oMov; rw [h]; rfl,q⟩
theorem wm_fz {i:Nat} {k:Ow} {d:D} (h:ρ[i]? = some (some ⟨false,k,d⟩)) (q:Q (.sh,d,ρ.set i (some ⟨false,.fz,d⟩))):Wp (evM Γ (.fz i) ρ) Q:=⟨_,by rw [evM]; unfold oFrz; rw [h],q⟩
theorem wm_io {f:Nat} {φ:Fm} {as:MAs} (hφ:Γ.fm f = some φ) (h:Wp (evMA Γ as ρ) fun p=>(refs p.1).Nodup/\∃ ks,handed p.2 p.1 = some ks/\Wp (φ ks) fun o=>isBo o.1 = false/\o.2.2.length = p.1.length/\Q (o.1,o.2.1,taken p.1 (o.2.2.map slQ) p.2)):Wp (evM Γ (.io f as) ρ) Q:=by
 obtain ⟨⟨ras,ρ1⟩,ea,hn,ks,hk,⟨kd,d,os⟩,eo,hb,hl,q⟩:=h
 refine ⟨_,?_,q⟩
 rw [evM,hφ,ea]
 unfold oIo
 dsimp only
 rw [if_pos hn,hk]
 dsimp only
 rw [eo]
 dsimp only
 exact if_neg (by rw [hb]; simpa using hl)
theorem oS_of {f:List KD->Option KD} {a:Option (List KD × Ro)} (h:Wp a fun p=>Wp (f p.1) fun r=>Q (r.1,r.2,p.2)):Wp (oS f a) Q:=by
 obtain ⟨⟨kds,ρ1⟩,ea,r,er,q⟩:=h
 exact ⟨_,by rw [ea]; show (match f kds with | some (kd,d)=>some (kd,d,ρ1) | none=>none) = _; rw [er],q⟩
theorem wm_tup {k:Ow} {as:MEs} (h:Wp (evMs Γ as ρ) fun p=>Wp (oTup k (some p.1)) fun r=>Q (r.1,r.2,p.2)):Wp (evM Γ (.tup k as) ρ) Q:=by rw [evM]; exact oS_of h
theorem wm_lst {k:Ow} {as:MEs} (h:Wp (evMs Γ as ρ) fun p=>Wp (oLst k (some p.1)) fun r=>Q (r.1,r.2,p.2)):Wp (evM Γ (.lst k as) ρ) Q:=by rw [evM]; exact oS_of h
theorem wm_bin {op:Operator} {as:MEs} (h:Wp (evMs Γ as ρ) fun p=>∃ x y,p.1 = [x,y]/\Wp (binD op x y) fun r=>Q (r.1,r.2,p.2)):Wp (evM Γ (.bin op as) ρ) Q:=by
 rw [evM]
 exact oS_of (h.mono fun p ⟨x,y,e,w⟩=>by rw [e]; exact w)
theorem wm_ix {as:MEs} (h:Wp (evMs Γ as ρ) fun p=>∃ x y,p.1 = [x,y]/\Wp (oIx (some x) (some y)) fun r=>Q (r.1,r.2,p.2)):Wp (evM Γ (.ix as) ρ) Q:=by
 rw [evM]
 exact oS_of (h.mono fun p ⟨x,y,e,w⟩=>by rw [e]; exact w)
theorem wm_insM {i:Nat} {as:MEs} {es0:List Ow} {r0:Ow} {ds0:List D} (h0:ρ[i]? = some (some ⟨false,.own es0 r0,.nd .lst ds0⟩)) (h:Wp (evMs Γ as ρ) fun p=>∃ es r ds k1 z k2 d,p.1 = [(k1,.int z),(k2,d)]/\p.2[i]? = some (some ⟨false,.own es r,.nd .lst ds⟩)/\(flatK (.own es r) = true/\okS k2 d = true/\0<=z/\z<=100000/\ds.length < 100000)/\Q (.sh,.non,p.2.set i (some ⟨false,.own es r,.lst (ds.take z.toNat ++ d :: ds.drop z.toNat)⟩))):Wp (evM Γ (.mutMs "insert" i as) ρ) Q:=by
 obtain ⟨⟨kds,ρ1⟩,ea,es,r,ds,k1,z,k2,d,e1,h1,h2,q⟩:=h
 dsimp only at e1 h1 q
 subst e1
 refine ⟨_,?_,q⟩
 rw [evM,ea,h0]
 show oMut "insert" i (rootP ρ1[i]?) (some [(k1,.int z),(k2,d)]) ρ1 = _
 rw [h1]
 show (match mutD "insert" es r ds [(k1,.int z),(k2,d)],ρ1[i]? with | some (d',ds'),some (some ⟨false,k,_⟩)=>some (Kd.sh,d',ρ1.set i (some ⟨false,k,id (.lst ds')⟩)) | _,_=>none) = _
 have:mutD "insert" es r ds [(k1,.int z),(k2,d)] = some (.non,ds.take z.toNat ++ d :: ds.drop z.toNat):=if_pos h2
 rw [this,h1]
 rfl
theorem wm_appP {i:Nat} {e:IE} (h:Wp (evI Γ.fn e ρ) fun x=>∃ es r ds,ρ[i]? = some (some ⟨false,.own es r,.nd .lst ds⟩)/\(es.length<=ds.length/\fit1 r x = true/\ds.length < 100000)/\Q (.sh,.non,ρ.set i (some ⟨false,.own es r,.lst (ds ++ [x.2])⟩))):Wp (evM Γ (.mut "append" (.nm i) (.cons e .nil)) ρ) Q:=by
 obtain ⟨x,ex,es,r,ds,h1,h2,q⟩:=h
 refine ⟨_,?_,q⟩
 rw [evM,evIs,evIs,ex]
 show oMut "append" i (evP Γ.fn (.nm i) ρ) (some [x]) ρ = _
 rw [evP,h1]
 show (match mutD "append" es r ds [x],ρ[i]? with | some (d',ds'),some (some ⟨false,k,_⟩)=>some (Kd.sh,d',ρ.set i (some ⟨false,k,id (.lst ds')⟩)) | _,_=>none) = _
 have:mutD "append" es r ds [x] = some (.non,ds ++ [x.2]):=if_pos h2
 rw [this,h1]
 rfl
variable {A:List RA × Ro->Prop}
theorem wa_nil (q:A ([],ρ)):Wp (evMA Γ .nil ρ) A:=⟨_,by rw [evMA],q⟩
theorem wa_ref {i:Nat} {s:Sl} {r:MAs} (hs:ρ[i]? = some (some s)) (h:Wp (evMA Γ r ρ) fun p=>A (.ref i :: p.1,p.2)):Wp (evMA Γ (.ref i r) ρ) A:=by
 obtain ⟨⟨ras,ρ1⟩,ea,q⟩:=h
 exact ⟨_,by rw [evMA,hs,ea]; rfl,q⟩
theorem wa_val {a:ME} {r:MAs} (h:Wp (evM Γ a ρ) fun x=>isBo (imK x.1 x.2.1) = false/\Wp (evMA Γ r x.2.2) fun p=>A (.val (imK x.1 x.2.1) x.2.1 :: p.1,p.2)):Wp (evMA Γ (.val a r) ρ) A:=by
 obtain ⟨⟨kd,d,ρ1⟩,ea,hb,⟨ras,ρ2⟩,er,q⟩:=h
 refine ⟨_,?_,q⟩
 rw [evMA,ea]
 show (if isBo (imK kd d) = true then none else _) = _
 dsimp only at hb er
 rw [if_neg (by rw [hb]; decide),er]
variable {S:List KD × Ro->Prop}
theorem wl_fin {a:ME} {r:IEs} (h:Wp (evM Γ a ρ) fun x=>Wp (evIs Γ.fn r x.2.2) fun xs=>S ((x.1,x.2.1) :: xs,x.2.2)):Wp (evMs Γ (.fin a r) ρ) S:=by
 obtain ⟨⟨kd,d,ρ1⟩,ea,xs,ex,q⟩:=h
 refine ⟨_,?_,q⟩
 rw [evMs,ea]
 show (match evIs Γ.fn r ρ1 with | some kds=>some ((kd,d) :: kds,ρ1) | none=>none) = _
 dsimp only at ex
 rw [ex]
theorem wl_cons {a:ME} {r:MEs} (h:Wp (evM Γ a ρ) fun x=>isBo (imK x.1 x.2.1) = false/\Wp (evMs Γ r x.2.2) fun p=>S ((imK x.1 x.2.1,x.2.1) :: p.1,p.2)):Wp (evMs Γ (.cons a r) ρ) S:=by
 obtain ⟨⟨kd,d,ρ1⟩,ea,hb,⟨kds,ρ2⟩,er,q⟩:=h
 refine ⟨_,?_,q⟩
 rw [evMs,ea]
 show (if isBo (imK kd d) = true then none else _) = _
 dsimp only at hb er
 rw [if_neg (by rw [hb]; decide),er]
variable {T:Bool × Ro->Prop}
theorem wmt_p {e:IE} (h:Wp (evIT Γ.fn e ρ) fun b=>T (b,ρ)):Wp (evMT Γ (.p e) ρ) T:=by
 obtain ⟨x,ex,q⟩:=h
 exact ⟨_,by rw [evMT,ex]; rfl,q⟩
theorem wmt_cmp {op:CmpOp} {as:MEs} (h:Wp (evMs Γ as ρ) fun p=>∃ x y,p.1 = [x,y]/\Wp (cmpD op x.2 y.2) fun b=>T (b,p.2)):Wp (evMT Γ (.cmp op as) ρ) T:=by
 obtain ⟨⟨kds,ρ1⟩,ea,x,y,e,b,eb,q⟩:=h
 dsimp only at e
 subst e
 exact ⟨_,by rw [evMT,ea]; show (match cmpD op x.2 y.2 with | some b=>some (b,ρ1) | none=>none) = _; rw [eb],q⟩
variable {I:List Nat × List D × Ro->Prop}
theorem wmi_p {it:II} (h:Wp (evII Γ.fn it ρ) fun p=>I (p.1,p.2,ρ)):Wp (evMI Γ (.p it) ρ) I:=by
 obtain ⟨x,ex,q⟩:=h
 exact ⟨_,by rw [evMI,ex]; rfl,q⟩
theorem oIt_of {g:Option KD->Option (List Nat × List D)} {a:MR} (h:Wp a fun x=>Wp (g (some (imK x.1 x.2.1,x.2.1))) fun p=>I (p.1,p.2,x.2.2)):Wp (oIt g a) I:=by
 obtain ⟨⟨kd,d,ρ1⟩,ea,p,ep,q⟩:=h
 exact ⟨_,by rw [ea]; show oIp (g (some (imK kd d,d))) ρ1 = _; dsimp only at ep; rw [ep]; rfl,q⟩
theorem wmi_rng {a:ME} (h:Wp (evM Γ a ρ) fun x=>Wp (oRng (some (.sh,.int 0)) (some (imK x.1 x.2.1,x.2.1))) fun p=>I (p.1,p.2,x.2.2)):Wp (evMI Γ (.rng a) ρ) I:=by rw [evMI]; exact oIt_of h
end
theorem wo_rng {k k':Kd} {i j:Int} {P:List Nat × List D->Prop} (h:rangeOk i j = true) (q:P ([],rngD i j)):Wp (oRng (some (k,.int i)) (some (k',.int j))) P:=⟨_,if_pos h,q⟩
theorem rngD_get {i j:Int} {n:Nat} {d:D} (h:(rngD i j)[n]? = some d):d = .int (i + n)/\i + n < j:=by
 unfold rngD at h
 rw [List.getElem?_map] at h
 obtain ⟨m,hm,rfl⟩:=mapS h
 have hl:=(List.getElem?_eq_some_iff.mp hm).1
 rw [List.length_range] at hl
 rw [List.getElem?_range hl] at hm
 cases hm
 exact ⟨rfl,by omega⟩
theorem wo_lst {k:Kd} {ds:List D} {P:List Nat × List D->Prop} (h:okE k ds = true) (q:P (boOf k,ds)):Wp (oSeq (some (k,.nd .lst ds))) P:=⟨_,if_pos h,q⟩
noncomputable def Kt (Γ:GG) (N:Nat) (rest:ISs) (pn:List Nat) (Q:Res->Prop):Res->Prop
 | .nx ρ=>Wp (exB Γ N rest pn ρ) Q
 | r=>Q r
section
variable {Γ:GG} {N:Nat} {pn:List Nat} {ρ:Ro} {Q:Res->Prop} {rest:ISs}
theorem kt_nx (h:Wp (exB Γ N rest pn ρ) Q):Kt Γ N rest pn Q (.nx ρ):=h
theorem kt_rt {k:Kd} {d:D} (h:Q (.rt k d ρ)):Kt Γ N rest pn Q (.rt k d ρ):=h
theorem w_nil (q:Q (.nx ρ)):Wp (exB Γ N .nil pn ρ) Q:=⟨_,by rw [exB],q⟩
theorem w_cons {s:IS} (h:Wp (exS Γ N s pn ρ) (Kt Γ N rest pn Q)):Wp (exB Γ N (.cons s rest) pn ρ) Q:=by
 obtain ⟨r,er,q⟩:=h
 cases r with
 | nx ρ1=>obtain ⟨z,ez,q⟩:=q; exact ⟨z,by rw [exB,er]; exact ez,q⟩
 | rt k d ρ1=>exact ⟨_,by rw [exB,er]; rfl,q⟩
 | ct ρ1=>exact ⟨_,by rw [exB,er]; rfl,q⟩
 | bk ρ1=>exact ⟨_,by rw [exB,er]; rfl,q⟩
theorem w_asg {i:Nat} {a:ME} (h:Wp (evM Γ a ρ) fun x=>(isBo (imK x.1 x.2.1) = false/\i ∉ pn)/\Wp (exB Γ N rest pn (x.2.2.set i (some ⟨false,kOf (imK x.1 x.2.1),x.2.1⟩))) Q):Wp (exB Γ N (.cons (.asg i a) rest) pn ρ) Q:=by
 obtain ⟨⟨kd,d,ρ1⟩,ea,hb,w⟩:=h
 refine w_cons ⟨.nx _,?_,kt_nx w⟩
 rw [exS,ea]
 exact if_neg (by dsimp only at hb; rw [hb.1]; simpa using hb.2)
theorem w_unpT {is:List Nat} {a:ME} (h:Wp (evM Γ a ρ) fun x=>∃ ds es r,x.2.1 = .nd .tup ds/\partsK x.1 ds = some (es,r)/\(is.length = ds.length/\(is.all fun i=>!pn.contains i) = true)/\Wp (exB Γ N rest pn (putN is ds es r x.2.2)) Q):Wp (exB Γ N (.cons (.unp is a) rest) pn ρ) Q:=by
 obtain ⟨⟨kd,d,ρ1⟩,ea,ds,es,r,hd,hk,hl,w⟩:=h
 dsimp only at hd hk
 subst hd
 refine w_cons ⟨.nx _,?_,kt_nx w⟩
 rw [exS,ea]
 show (match partsK kd ds with | some (es,r)=>if is.length = ds.length/\(is.all fun i=>!pn.contains i) = true then some (Res.nx (putN is ds es r ρ1)) else none | none=>none) = _
 rw [hk]
 exact if_pos hl
theorem w_put {b:BP} {k:IE} {a:ME} (h:Wp (evM Γ a ρ) fun x=>Wp (evP Γ.fn b x.2.2) fun p=>Wp (evI Γ.fn k x.2.2) fun y=>∃ es r hd ds kk d0,p.1 = .own es r/\p.2.1 = .nd hd ds/\x.2.2[b.slot]? = some (some ⟨false,kk,d0⟩)/\Wp (putD es r hd ds y.2 (imK x.1 x.2.1,x.2.1)) fun z=>Wp (exB Γ N rest pn (x.2.2.set b.slot (some ⟨false,kk,p.2.2 (.nd z.1 z.2)⟩))) Q):Wp (exB Γ N (.cons (.put b k a) rest) pn ρ) Q:=by
 obtain ⟨⟨kd,d,ρ1⟩,ea,⟨pk,pd,up⟩,ep,⟨ky,dy⟩,ey,es,r,hd,ds,kk,d0,e1,e2,e3,⟨hd',ds'⟩,ez,w⟩:=h
 dsimp only at e1 e2 e3 ep ey ez
 subst e1 e2
 refine w_cons ⟨.nx _,?_,kt_nx w⟩
 rw [exS,ea]
 unfold oPut
 dsimp only
 rw [ep,ey,e3]
 dsimp only
 rw [ez]
theorem w_ret {a:ME} (h:Wp (evM Γ a ρ) fun x=>isBo (imK x.1 x.2.1) = false/\Q (.rt (imK x.1 x.2.1) x.2.1 x.2.2)):Wp (exB Γ N (.cons (.ret a) rest) pn ρ) Q:=by
 obtain ⟨⟨kd,d,ρ1⟩,ea,hb,q⟩:=h
 refine w_cons ⟨.rt _ _ _,?_,kt_rt q⟩
 rw [exS,ea]
 exact if_neg (by dsimp only at hb; rw [hb]; decide)
theorem w_exp {a:ME} (h:Wp (evM Γ a ρ) fun x=>Wp (exB Γ N rest pn x.2.2) Q):Wp (exB Γ N (.cons (.exp a) rest) pn ρ) Q:=by
 obtain ⟨⟨kd,d,ρ1⟩,ea,w⟩:=h
 refine w_cons ⟨.nx _,?_,kt_nx w⟩
 rw [exS,ea]
 rfl
theorem w_ifs {t:MT} {a b:ISs} (h:Wp (evMT Γ t ρ) fun p=>(p.1 = true->Wp (exB Γ N a pn p.2) (Kt Γ N rest pn Q))/\(p.1 = false->Wp (exB Γ N b pn p.2) (Kt Γ N rest pn Q))):Wp (exB Γ N (.cons (.ifs t a b) rest) pn ρ) Q:=by
 obtain ⟨⟨r,ρ1⟩,er,q1,q2⟩:=h
 cases r with
 | true=>obtain ⟨x,ex,q⟩:=q1 rfl; exact w_cons ⟨x,by rw [exS,er]; exact ex,q⟩
 | false=>obtain ⟨x,ex,q⟩:=q2 rfl; exact w_cons ⟨x,by rw [exS,er]; exact ex,q⟩
theorem fFor_inv {fg:List Nat} {tg:IT} {fb:Ro->Option Res} (I:Nat->Ro->Prop):∀ (ds:List D) (j:Nat) (ρ:Ro),I j ρ->(∀ (i:Nat) d ρ,ds[i]? = some d->I (j + i) ρ->∃ ps,tgI tg d = some ps/\(ps.all fun p=>!pn.contains p.1) = true/\Wp (fb (setAll ps (clrN fg ρ))) fun r=>∃ ρ',(r = .nx ρ'\/r = .ct ρ')/\I (j + i + 1) ρ')->
  ∃ ρ',fForM pn fg tg fb ds ρ = some (.nx (clrN fg ρ'))/\I (j + ds.length) ρ'
 | [],j,ρ,h0,_=>⟨ρ,rfl,h0⟩
 | d :: ds,j,ρ,h0,hs=>by
  obtain ⟨ps,e1,e2,r,er,ρ1,hr,h1⟩:=hs 0 d ρ rfl h0
  obtain ⟨ρ2,e3,h2⟩:=fFor_inv I ds (j + 1) ρ1 h1 fun i d' ρ' e hI=>by
   have:=hs (i + 1) d' ρ' (by simpa using e) (by rw [show j + (i + 1) = j + 1 + i by omega]; exact hI)
   rw [show j + (i + 1) + 1 = j + 1 + i + 1 by omega] at this
   exact this
  refine ⟨ρ2,?_,by rw [List.length_cons,show j + (ds.length + 1) = j + 1 + ds.length by omega]; exact h2⟩
  unfold fForM
  rw [e1]
  dsimp only
  rw [if_pos e2,er]
  rcases hr with rfl | rfl
  ·exact e3
  ·exact e3
theorem w_for {fg:List Nat} {tg:IT} {it:MI} {b:ISs} (h:Wp (evMI Γ it ρ) fun p=>∃ I:Nat->Ro->Prop,I 0 (clrN p.1 p.2.2)/\(∀ (i:Nat) d ρ,p.2.1[i]? = some d->I i ρ->∃ ps,tgI tg d = some ps/\(ps.all fun q=>!(pn ++ p.1).contains q.1) = true/\Wp (exB Γ N b (pn ++ p.1) (setAll ps (clrN fg ρ))) fun r=>∃ ρ',(r = .nx ρ'\/r = .ct ρ')/\I (i + 1) ρ')/\
  ∀ ρ',I p.2.1.length ρ'->Wp (exB Γ N rest pn (rst p.1 p.2.2 (clrN fg ρ'))) Q):Wp (exB Γ N (.cons (.fo fg tg it b) rest) pn ρ) Q:=by
 obtain ⟨⟨bs,ds,ρ0⟩,ep,I,h0,hs,hq⟩:=h
 obtain ⟨ρ',e1,h1⟩:=fFor_inv (pn:=pn ++ bs) I ds 0 (clrN bs ρ0) h0 fun i d ρ e hI=>by
  have:=hs i d ρ e (by simpa using hI)
  simpa using this
 refine w_cons ⟨.nx _,?_,kt_nx (hq ρ' (by simpa using h1))⟩
 rw [exS,ep]
 show oBack bs ρ0 (fForM (pn ++ bs) fg tg (exB Γ N b (pn ++ bs)) ds (clrN bs ρ0)) = _
 rw [e1]
 rfl
end
theorem wmap {r:Ow} {f:D->Option (Option KD)} {Q:List D->Prop} {ds:List D} (P:Nat->D->Prop) (hs:∀ (i:Nat) d,ds[i]? = some d->Wp (f d) fun o=>∃ kd,o = some kd/\fit1 r kd = true/\P i kd.2) (hq:∀ ys,ys.length = ds.length->(∀ (i:Nat) y,ys[i]? = some y->P i y)->Q ys):Wp (evMap r f ds) Q:=by
 have key:∀ (ds:List D) (j:Nat),(∀ (i:Nat) d,ds[i]? = some d->Wp (f d) fun o=>∃ kd,o = some kd/\fit1 r kd = true/\P (j + i) kd.2)->∃ ys,evMap r f ds = some ys/\ys.length = ds.length/\∀ (i:Nat) y,ys[i]? = some y->P (j + i) y:=by
  intro ds
  induction ds with
  | nil=>intro j _; exact ⟨[],rfl,rfl,fun i y e=>by simp at e⟩
  | cons d ds ih=>
   intro j h
   obtain ⟨o,eo,kd,rfl,hf,hp⟩:=h 0 d rfl
   obtain ⟨ys,e1,e2,e3⟩:=ih (j + 1) fun i d' e=>by
    have:=h (i + 1) d' (by simpa using e)
    rw [show j + (i + 1) = j + 1 + i by omega] at this
    exact this
   refine ⟨kd.2 :: ys,by simp [evMap,eo,e1,hf],by simp [e2],fun i y e=>?_⟩
   cases i with
   | zero=>simp at e; subst e; exact hp
   | succ i=>
    rw [show j + (i + 1) = j + 1 + i by omega]
    exact e3 i y (by simpa using e)
 obtain ⟨ys,e1,e2,e3⟩:=key ds 0 fun i d e=>by simpa using hs i d e
 exact ⟨ys,e1,hq ys e2 fun i y e=>by simpa using e3 i y e⟩
theorem w_elt {tg:IT} {ft:Ro->Option Bool} {fe:Ro->Option KD} {ρ0:Ro} {d:D} {ps:List (Nat × D)} {Q:Option KD->Prop} (h1:tgI tg d = some ps) (h2:noneAt ps ρ0 = true) (ht:ft (setAll ps ρ0) = some true) (h:Wp (fe (setAll ps ρ0)) fun x=>Q (some x)):Wp (eltI tg ft fe ρ0 d) Q:=by
 obtain ⟨x,ex,q⟩:=h
 refine ⟨_,?_,q⟩
 unfold eltI
 rw [h1]
 dsimp only
 rw [if_pos h2,ht]
 dsimp only
 rw [ex]
 rfl
theorem wd_I {Γ:GG} {N m k:Nat} {body:ISs} {ds:List D} {Q:KD->Prop} (hl:ds.length = m) (h:Wp (exB Γ N body [] (iniM k (ds.map shK))) fun r=>Wp (oDef (some r)) Q):Wp (defI Γ N m k body ds) Q:=by
 obtain ⟨r,er,z,ez,q⟩:=h
 exact ⟨z,by unfold defI; rw [if_pos hl,er]; exact ez,q⟩
theorem wd_M {Γ:GG} {N m k:Nat} {pn:List Nat} {body:ISs} {ks:List KV2} {Q:Kd × D × List (Option KV2)->Prop} (hl:ks.length = m) (h:Wp (exB Γ N body pn (iniM k ks)) fun r=>Wp (oDefM m pn (some r)) Q):Wp (defM Γ N m k pn body ks) Q:=by
 obtain ⟨r,er,z,ez,q⟩:=h
 exact ⟨z,by unfold defM; rw [if_pos hl,er]; exact ez,q⟩
theorem od_rt {kd:Kd} {d:D} {ρ:Ro} {Q:KD->Prop} (hb:isBo kd = false) (q:Q (kd,d)):Wp (oDef (some (.rt kd d ρ))) Q:=⟨_,if_neg (by rw [hb]; decide),q⟩
theorem om_rt {m:Nat} {pn:List Nat} {kd:Kd} {d:D} {ρ:Ro} {Q:Kd × D × List (Option KV2)->Prop} (hb:isBo kd = false) (q:Q (kd,d,outs m pn ρ)):Wp (oDefM m pn (some (.rt kd d ρ))) Q:=⟨_,if_neg (by rw [hb]; decide),q⟩
theorem om_nx {m:Nat} {pn:List Nat} {ρ:Ro} {Q:Kd × D × List (Option KV2)->Prop} (q:Q (.sh,.non,outs m pn ρ)):Wp (oDefM m pn (some (.nx ρ))) Q:=⟨_,rfl,q⟩
end J
namespace J
open PySem PySem.Spec L2
theorem put_of {p1:Ow} {p2:D} {o:Option (Option Sl)} {es:List Ow} {r:Ow} {hd:Hd} {ds:List D} {kk:Ow} {d0:D} {P:List Ow->Ow->Hd->List D->Ow->D->Prop} (e1:p1 = .own es r) (e2:p2 = .nd hd ds) (e3:o = some (some ⟨false,kk,d0⟩)) (h:P es r hd ds kk d0):∃ es r hd ds kk d0,p1 = .own es r/\p2 = .nd hd ds/\o = some (some ⟨false,kk,d0⟩)/\P es r hd ds kk d0:=⟨es,r,hd,ds,kk,d0,e1,e2,e3,h⟩
theorem wr_P {Γ:Nat->Option Fn} {b:BP} {ρ:Ro} {r:Ow × D × (D->D)} {Q:Ow × D × (D->D)->Prop} (h:evP Γ b ρ = some r) (q:Q r):Wp (evP Γ b ρ) Q:=⟨r,h,q⟩
theorem wr_put {es:List Ow} {k:Ow} {hd:Hd} {ds:List D} {d:D} {x:KD} {r:Hd × List D} {Q:Hd × List D->Prop} (h:putD es k hd ds d x = some r) (q:Q r):Wp (putD es k hd ds d x) Q:=⟨r,h,q⟩
theorem ten130:(10:Nat) ^ 130<=2 ^ 4000:=by decide +kernel
theorem lim_of {x:Int} (h1:-10 ^ 130 < x) (h2:x < 10 ^ 130):x.natAbs < lim:=by
 have h3:x.natAbs < 10 ^ 130:=by omega
 unfold lim
 exact Nat.lt_of_lt_of_le h3 ten130
end J
namespace J
open PySem PySem.Spec L2
mutual
theorem pok_lay:∀ {d:D} {n:Nat},pok n d = true->(py d).canLay0 = true
 | .non,_,_=>by simp [py,PyData.canLay0]
 | .bl _,_,_=>by simp [py,PyData.canLay0]
 | .int _,_,_=>by simp [py,PyData.canLay0]
 | .str x,_,h=>by simpa [py,PyData.canLay0,pok] using h
 | .scr ns,_,_=>by simpa [py,PyData.canLay0] using (int_lay ns).1
 | .nd .lst ds,n,h=>by
  simp only [pok,Bool.and_eq_true] at h
  simpa [py,PyData.canLay0] using pok_layL h.2
 | .nd .tup ds,n,h=>by
  simp only [pok,Bool.and_eq_true] at h
  simpa [py,PyData.canLay0] using pok_layL h.2
 | .nd (.dic _ _) _,n,h=>by simp [pok] at h
 | .nd (.obj _ _) _,n,h=>by simp [pok] at h
theorem pok_layL:∀ {ds:List D} {n:Nat},pokL n ds = true->PyData.canLayAll0 (pyL ds) = true
 | [],_,_=>by simp [pyL,PyData.canLayAll0]
 | d :: ds,n,h=>by
  simp only [pokL,Bool.and_eq_true] at h
  simp [pyL,PyData.canLayAll0,pok_lay h.1,pok_layL h.2]
end
theorem eqD_refl {d:D} {n:Nat} (h:pok n d = true):eqD d d = true:=by unfold eqD; exact PySem.SeqAt.eqv_refl _ (pok_lay h)
theorem pokL_of {n:Nat}:∀ {ds:List D},(∀ d ∈ ds,pok n d = true)->pokL n ds = true
 | [],_=>rfl
 | d :: ds,h=>by simp only [pokL,Bool.and_eq_true]; exact ⟨h d List.mem_cons_self,pokL_of fun d hd=>h d (List.mem_cons_of_mem _ hd)⟩
theorem map_bl {α:Type} {f:α->Bool} {l:List α} {ys:List D} (hl:ys.length = l.length) (h:∀ (i:Nat) y,ys[i]? = some y->∃ a,l[i]? = some a/\y = .bl (f a)):ys = (l.map f).map D.bl:=by
 refine List.ext_getElem? fun i=>?_
 cases e:ys[i]? with
 | none=>
  have:l.length<=i:=by rw [<- hl]; exact List.getElem?_eq_none_iff.mp e
  rw [List.getElem?_eq_none (by simpa using this)]
 | some y=>
  obtain ⟨a,ea,rfl⟩:=h i y e
  simp [ea]
end J
section
open PySem L2 J
local macro_rules | `(tactic| walk_at "nm")=>`(tactic| simp only [slKd,isFz,chK,Ow.ch,List.getD_nil,List.getD_cons_zero,List.getD_cons_succ,List.getD_eq_getElem?_getD,List.getElem?_nil,Option.getD_none,imK,imD,imL,Hd.mu,kOf,isBo,iniM,slP,slQ,shK,shS,taken,setAll,clrN,rst,capRo,capR,clr,List.foldl,List.length_cons,List.length_nil,Nat.sub_self,Nat.reduceSub,Nat.reduceAdd,Option.map_some,Option.map_none,Option.bind_some,Option.bind_none,Option.join,List.getElem?_cons_zero,List.getElem?_cons_succ,List.map_cons,List.map_nil,List.set_cons_zero,List.set_cons_succ,List.set_nil,List.replicate_succ,List.replicate_zero,List.cons_append,List.nil_append,reduceIte,Bool.false_eq_true,Int.reduceToNat,Int.reducePow,Int.reduceMul,Int.reduceAdd,Int.reduceSub,Int.reduceNeg,BP.slot,id,true_and])
namespace K89
open PySem L2 J
noncomputable def top (i:Nat):Stmt:=PySem.Challenge.pw_gatepapers_k89_what_is_a_shelf.main.body.getD i (.Pass ⟨0,0,0,0⟩)
noncomputable def fns:Nms:=⟨["is_whole","bits_of","number_of","is_table","told","all_bits","hangs","fixed","is_tuple","is_shelf","is_shelf_gate","is_gate_name","is_from","_law_begun","_law_load","_law_next","_law_size","_law_name","_law_hangs","_law_shelf","_law_whole","_law_named","_law_is_row","_law_is_shelf","_law_part","_law_nested","_law_odd","law"],[("MOST_PLACES",.int 3),("NOT",.int 1),("BOTH",.int 8),("LETTERS",.str "abcdefghijklmnopqrstuvwxyz"),("MOST_LETTERS",.int 8),("FEWEST_ON_SHELF",.int 2),("MOST_ON_SHELF",.int 20),("MOST_COST",.int 1000)],fun _ _=>none,fun l c=>match l,c with | 115,11=>some true | 142,16=>some false | 145,32=>some false | 148,22=>some false | 149,43=>some false | 152,55=>some false | 157,22=>some false | 158,11=>some true | 177,11=>some false | _,_=>none,fun i=>match i with | 14=>some [true] | 15=>some [true,false] | 16=>some [true,false,false] | 19=>some [true,false] | 24=>some [true,false,false] | 26=>some [true,false] | _=>none,fun _ _=>[]⟩
noncomputable def an:An:=⟨fun l=>match l with | 8=>[2,3] | 95=>[3] | 102=>[4,5,6,7] | 113=>[9] | 156=>[2] | 181=>[3,4,5,6] | _=>[],fun _=>[],fun _=>false⟩
noncomputable abbrev s0:Stmt:=top 1
noncomputable def b0:ISs:=(.cons (.ret (.p (.bool .And (.cons (.isi "int" (.var 0)) (.cons (.not (.isi "bool" (.var 0))) .nil))))) .nil)
theorem cr0:cDef fns an 60 ["thing"] s0 = some b0:=by rfl
theorem sc0:FnScope ["thing"] ["thing"] (defScope s0):=⟨rfl,rfl,rfl,by decide +kernel,rfl,by decide +kernel,by decide +kernel⟩
noncomputable abbrev s1:Stmt:=top 2
noncomputable def b1:ISs:=(.cons (.ret (.p (.comp .fz [none,none,some 0] (.nm 1) (.rng (.lit (.int 0)) (.var 1)) .non (.bin .BitAnd (.bin .RShift (.var 2) (.var 1)) (.lit (.int 1)))))) .nil)
theorem cr1:cDef fns an 60 ["number","width"] s1 = some b1:=by rfl
theorem sc1:FnScope ["number","width"] ["number","width"] (defScope s1):=⟨rfl,rfl,rfl,by decide +kernel,rfl,by decide +kernel,by decide +kernel⟩
noncomputable abbrev s2:Stmt:=top 3
noncomputable def b2:ISs:=(.cons (.asg 1 (.p (.lit (.int 0)))) (.cons (.fo [2,3] (.tp [(.nm 2),(.nm 3)]) (.p (.enm (.var 0))) (.cons (.aug 1 .Add (.p (.bin .LShift (.var 3) (.var 2)))) .nil)) (.cons (.ret (.p (.var 1))) .nil)))
theorem cr2:cDef fns an 60 ["bits","number","k","bit"] s2 = some b2:=by rfl
theorem sc2:FnScope ["bits","number","k","bit"] ["bits"] (defScope s2):=⟨rfl,rfl,rfl,by decide +kernel,rfl,by decide +kernel,by decide +kernel⟩
noncomputable abbrev s3:Stmt:=top 6
noncomputable def b3:ISs:=(.cons (.ifs (.p (.bool .Or (.cons (.not (.fn 0 (.cons (.var 0) .nil))) (.cons (.not (.fn 0 (.cons (.var 1) .nil))) .nil)))) (.cons (.ret (.p (.lit (.bl false)))) .nil) .nil) (.cons (.ifs (.p (.bool .Or (.cons (.cmp .Lt (.var 1) (.lit (.int 0))) (.cons (.cmp .Gt (.var 1) (.lit (.int 3))) .nil)))) (.cons (.ret (.p (.lit (.bl false)))) .nil) .nil) (.cons (.ret (.p (.chain .LtE .Lt (.lit (.int 0)) (.var 0) (.bin .LShift (.lit (.int 1)) (.bin .LShift (.lit (.int 1)) (.var 1)))))) .nil)))
theorem cr3:cDef fns an 60 ["thing","many"] s3 = some b3:=by rfl
theorem sc3:FnScope ["thing","many"] ["thing","many"] (defScope s3):=⟨rfl,rfl,rfl,by decide +kernel,rfl,by decide +kernel,by decide +kernel⟩
noncomputable abbrev s4:Stmt:=top 7
noncomputable def b4:ISs:=(.cons (.ret (.p (.bin .BitAnd (.bin .RShift (.var 0) (.fn 2 (.cons (.var 1) .nil))) (.lit (.int 1))))) .nil)
theorem cr4:cDef fns an 60 ["table","bits"] s4 = some b4:=by rfl
theorem sc4:FnScope ["table","bits"] ["table","bits"] (defScope s4):=⟨rfl,rfl,rfl,by decide +kernel,rfl,by decide +kernel,by decide +kernel⟩
noncomputable abbrev s5:Stmt:=top 8
noncomputable def b5:ISs:=(.cons (.ret (.p (.comp .fz [none,none,none,some 0] (.nm 1) (.rng (.lit (.int 0)) (.bin .LShift (.lit (.int 1)) (.var 0))) .non (.fn 1 (.cons (.var 1) (.cons (.var 3) .nil)))))) .nil)
theorem cr5:cDef fns an 60 ["many"] s5 = some b5:=by rfl
theorem sc5:FnScope ["many"] ["many"] (defScope s5):=⟨rfl,rfl,rfl,by decide +kernel,rfl,by decide +kernel,by decide +kernel⟩
noncomputable abbrev s6:Stmt:=top 9
noncomputable def b6:ISs:=(.cons (.ret (.p (.cmp .NotEq (.fn 7 (.cons (.var 0) (.cons (.var 1) (.cons (.var 2) (.cons (.lit (.int 0)) .nil))))) (.fn 7 (.cons (.var 0) (.cons (.var 1) (.cons (.var 2) (.cons (.lit (.int 1)) .nil)))))))) .nil)
theorem cr6:cDef fns an 60 ["table","many","k"] s6 = some b6:=by rfl
theorem sc6:FnScope ["table","many","k"] ["table","many","k"] (defScope s6):=⟨rfl,rfl,rfl,by decide +kernel,rfl,by decide +kernel,by decide +kernel⟩
noncomputable abbrev s7:Stmt:=top 10
noncomputable def b7:ISs:=(.cons (.ret (.p (.fn 2 (.cons (.comp .fz [none,none,none,some 3,some 2,some 0] (.nm 1) (.e (.fn 5 (.cons (.bin .Sub (.var 1) (.lit (.int 1))) .nil))) .non (.fn 4 (.cons (.var 5) (.cons (.bin .Add (.bin .Add (.sl (.var 1) .non (.som (.var 4))) (.lst (.own [] .fz) (.cons (.var 3) .nil))) (.sl (.var 1) (.som (.var 4)) .non)) .nil)))) .nil)))) .nil)
theorem cr7:cDef fns an 60 ["table","many","k","bit"] s7 = some b7:=by rfl
theorem sc7:FnScope ["table","many","k","bit"] ["table","many","k","bit"] (defScope s7):=⟨rfl,rfl,rfl,by decide +kernel,rfl,by decide +kernel,by decide +kernel⟩
noncomputable abbrev s8:Stmt:=top 12
noncomputable def b8:ISs:=(.cons (.ret (.p (.bool .And (.cons (.isi "tuple" (.var 0)) (.cons (.cmp .Eq (.blt "len" (.cons (.var 0) .nil)) (.var 1)) .nil))))) .nil)
theorem cr8:cDef fns an 60 ["thing","many"] s8 = some b8:=by rfl
theorem sc8:FnScope ["thing","many"] ["thing","many"] (defScope s8):=⟨rfl,rfl,rfl,by decide +kernel,rfl,by decide +kernel,by decide +kernel⟩
noncomputable abbrev s9:Stmt:=top 21
noncomputable def b9:ISs:=(.cons (.ifs (.p (.bool .Or (.cons (.not (.isi "list" (.var 0))) (.cons (.not (.chain .LtE .LtE (.lit (.int 2)) (.blt "len" (.cons (.var 0) .nil)) (.lit (.int 20)))) .nil)))) (.cons (.ret (.p (.lit (.bl false)))) .nil) .nil) (.cons (.ifs (.p (.not (.blt "all" (.cons (.comp .fz [none,none,none] (.nm 1) (.e (.var 0)) .non (.fn 10 (.cons (.var 1) .nil))) .nil)))) (.cons (.ret (.p (.lit (.bl false)))) .nil) .nil) (.cons (.asg 1 (.p (.comp .fz [none,none,none,none,none] (.tp [(.nm 1),(.nm 2),(.nm 3),(.nm 4)]) (.e (.var 0)) .non (.var 1)))) (.cons (.asg 2 (.p (.comp .fz [none,none,none,none,none] (.tp [(.nm 1),(.nm 2),(.nm 3),(.nm 4)]) (.e (.var 0)) .non (.tup .fz (.cons (.var 2) (.cons (.var 3) .nil)))))) (.cons (.ret (.p (.bool .And (.cons (.cmp .Eq (.lset (.var 1)) (.blt "len" (.cons (.var 1) .nil))) (.cons (.cmp .In (.tup .fz (.cons (.lit (.int 1)) (.cons (.lit (.int 1)) .nil))) (.var 2)) (.cons (.cmp .In (.tup .fz (.cons (.lit (.int 2)) (.cons (.lit (.int 8)) .nil))) (.var 2)) .nil)))))) .nil)))))
theorem cr9:cDef fns an 60 ["thing","names","kinds"] s9 = some b9:=by rfl
theorem sc9:FnScope ["thing","names","kinds"] ["thing"] (defScope s9):=⟨rfl,rfl,rfl,by decide +kernel,rfl,by decide +kernel,by decide +kernel⟩
noncomputable abbrev s10:Stmt:=top 22
noncomputable def b10:ISs:=(.cons (.ifs (.p (.bool .Or (.cons (.not (.fn 8 (.cons (.var 0) (.cons (.lit (.int 4)) .nil)))) (.cons (.not (.fn 11 (.cons (.ix (.var 0) (.lit (.int 0))) .nil))) .nil)))) (.cons (.ret (.p (.lit (.bl false)))) .nil) .nil) (.cons (.unp [1,2,3,4] (.p (.var 0))) (.cons (.ifs (.p (.bool .Or (.cons (.not (.fn 12 (.cons (.var 2) (.cons (.lit (.int 1)) (.cons (.lit (.int 3)) .nil))))) (.cons (.not (.fn 12 (.cons (.var 4) (.cons (.lit (.int 1)) (.cons (.lit (.int 1000)) .nil))))) .nil)))) (.cons (.ret (.p (.lit (.bl false)))) .nil) .nil) (.cons (.ret (.p (.bool .And (.cons (.fn 3 (.cons (.var 3) (.cons (.var 2) .nil))) (.cons (.blt "all" (.cons (.comp .fz [none,none,none,some 2,some 3] (.nm 1) (.rng (.lit (.int 0)) (.var 2)) .non (.fn 6 (.cons (.var 4) (.cons (.var 3) (.cons (.var 1) .nil))))) .nil)) .nil))))) .nil))))
theorem cr10:cDef fns an 60 ["thing","name","many","table","cost"] s10 = some b10:=by rfl
theorem sc10:FnScope ["thing","name","many","table","cost"] ["thing"] (defScope s10):=⟨rfl,rfl,rfl,by decide +kernel,rfl,by decide +kernel,by decide +kernel⟩
noncomputable abbrev s11:Stmt:=top 23
noncomputable def b11:ISs:=(.cons (.ifs (.p (.bool .Or (.cons (.not (.isi "str" (.var 0))) (.cons (.not (.chain .LtE .LtE (.lit (.int 1)) (.blt "len" (.cons (.var 0) .nil)) (.lit (.int 8)))) .nil)))) (.cons (.ret (.p (.lit (.bl false)))) .nil) .nil) (.cons (.ret (.p (.blt "all" (.cons (.comp .fz [none,none,none] (.nm 1) (.e (.var 0)) .non (.cmp .In (.var 1) (.lit (.str "abcdefghijklmnopqrstuvwxyz")))) .nil)))) .nil))
theorem cr11:cDef fns an 60 ["thing"] s11 = some b11:=by rfl
theorem sc11:FnScope ["thing"] ["thing"] (defScope s11):=⟨rfl,rfl,rfl,by decide +kernel,rfl,by decide +kernel,by decide +kernel⟩
noncomputable abbrev s12:Stmt:=top 24
noncomputable def b12:ISs:=(.cons (.ret (.p (.bool .And (.cons (.fn 0 (.cons (.var 0) .nil)) (.cons (.chain .LtE .LtE (.var 1) (.var 0) (.var 2)) .nil))))) .nil)
theorem cr12:cDef fns an 60 ["thing","least","most"] s12 = some b12:=by rfl
theorem sc12:FnScope ["thing","least","most"] ["thing","least","most"] (defScope s12):=⟨rfl,rfl,rfl,by decide +kernel,rfl,by decide +kernel,by decide +kernel⟩
noncomputable abbrev s13:Stmt:=top 26
noncomputable def b13:ISs:=(.cons (.ret (.p (.lst (.own [] .fz) (.cons (.lit (.int 0)) (.cons (.blt "list" (.cons (.sl (.var 0) .non (.som (.lit (.int 63)))) .nil)) (.cons (.lit (.int 0)) .nil)))))) .nil)
theorem cr13:cDef fns an 60 ["_law_script"] s13 = some b13:=by rfl
theorem sc13:FnScope ["_law_script"] ["_law_script"] (defScope s13):=⟨rfl,rfl,rfl,by decide +kernel,rfl,by decide +kernel,by decide +kernel⟩
noncomputable abbrev s14:Stmt:=top 27
noncomputable def b14:ISs:=(.cons (.asg 1 (.p (.ix (.var 0) (.lit (.int 1))))) (.cons (.asg 2 (.p (.ix (.var 0) (.lit (.int 2))))) (.cons (.put (.nm 0) (.lit (.int 2)) (.p (.bin .Add (.var 2) (.lit (.int 1))))) (.cons (.asg 3 (.p (.lit (.int 0)))) (.cons (.ifs (.p (.cmp .Gt (.blt "len" (.cons (.var 1) .nil)) (.lit (.int 0)))) (.cons (.asg 3 (.p (.ix (.var 1) (.bin .Mod (.var 2) (.blt "len" (.cons (.var 1) .nil)))))) .nil) .nil) (.cons (.ifs (.p (.bool .And (.cons (.cmp .Lt (.var 2) (.blt "len" (.cons (.var 1) .nil))) (.cons (.cmp .GtE (.var 3) (.bin .Pow (.lit (.int 10)) (.lit (.int 18)))) .nil)))) (.cons (.put (.nm 0) (.lit (.int 0)) (.p (.bin .Mod (.var 3) (.bin .Mult (.bin .Pow (.lit (.int 10)) (.lit (.int 60))) (.bin .Pow (.lit (.int 10)) (.lit (.int 60))))))) .nil) (.cons (.asg 4 (.p (.bin .Add (.bin .Add (.bin .Mod (.var 3) (.bin .Pow (.lit (.int 10)) (.lit (.int 30)))) (.bin .Mult (.bin .Mult (.var 2) (.var 2)) (.lit (.int 7919)))) (.lit (.int 11))))) (.cons (.asg 4 (.p (.bin .Mod (.bin .Mult (.var 4) (.lit (.int 618970019642690137449562111))) (.bin .Add (.bin .Pow (.lit (.int 10)) (.lit (.int 30))) (.lit (.int 57)))))) (.cons (.put (.nm 0) (.lit (.int 0)) (.p (.bin .Add (.bin .Mod (.bin .Mult (.var 4) (.var 4)) (.bin .Add (.bin .Pow (.lit (.int 10)) (.lit (.int 31))) (.lit (.int 33)))) (.bin .Pow (.lit (.int 10)) (.lit (.int 9)))))) .nil)))) .nil))))))
theorem cr14:cDef fns an 60 ["_law_state","_law_cells","_law_tour","_law_cell","_law_far"] s14 = some b14:=by rfl
theorem sc14:FnScope ["_law_state","_law_cells","_law_tour","_law_cell","_law_far"] ["_law_state"] (defScope s14):=⟨rfl,rfl,rfl,by decide +kernel,rfl,by decide +kernel,by decide +kernel⟩
noncomputable abbrev s15:Stmt:=top 28
noncomputable def b15:ISs:=(.cons (.ifs (.p (.cmp .Lt (.ix (.var 0) (.lit (.int 0))) (.var 1))) (.cons (.exp (.io 14 (.ref 0 .nil))) .nil) .nil) (.cons (.asg 2 (.p (.ix (.var 0) (.lit (.int 0))))) (.cons (.put (.nm 0) (.lit (.int 0)) (.p (.bin .FloorDiv (.var 2) (.var 1)))) (.cons (.ret (.p (.bin .Mod (.var 2) (.var 1)))) .nil))))
theorem cr15:cDef fns an 60 ["_law_state","_law_many","_law_number"] s15 = some b15:=by rfl
theorem sc15:FnScope ["_law_state","_law_many","_law_number"] ["_law_state","_law_many"] (defScope s15):=⟨rfl,rfl,rfl,by decide +kernel,rfl,by decide +kernel,by decide +kernel⟩
noncomputable abbrev s16:Stmt:=top 29
noncomputable def b16:ISs:=(.cons (.ifs (.cmp .Eq (.fin (.io 15 (.ref 0 (.val (.p (.lit (.int 8))) .nil))) (.cons (.lit (.int 0)) .nil))) (.cons (.ret (.io 15 (.ref 0 (.val (.p (.bin .Add (.var 2) (.lit (.int 1)))) .nil)))) .nil) .nil) (.cons (.ret (.io 15 (.ref 0 (.val (.p (.bin .Add (.var 1) (.lit (.int 1)))) .nil)))) .nil))
theorem cr16:cDef fns an 60 ["_law_state","_law_few","_law_most"] s16 = some b16:=by rfl
theorem sc16:FnScope ["_law_state","_law_few","_law_most"] ["_law_state","_law_few","_law_most"] (defScope s16):=⟨rfl,rfl,rfl,by decide +kernel,rfl,by decide +kernel,by decide +kernel⟩
noncomputable abbrev s17:Stmt:=top 30
noncomputable def b17:ISs:=(.cons (.asg 2 (.p (.lit (.str "abcdefghijklmnopqrstuvwxyz")))) (.cons (.ifs (.p (.cmp .Eq (.bin .Mod (.var 0) (.lit (.int 3))) (.lit (.int 0)))) (.cons (.ret (.p (.bin .Mult (.ix (.var 2) (.bin .Mod (.bin .Add (.bin .FloorDiv (.var 0) (.lit (.int 64))) (.bin .FloorDiv (.var 1) (.lit (.int 8)))) (.lit (.int 26)))) (.bin .Add (.lit (.int 1)) (.bin .Mod (.bin .Add (.var 0) (.bin .Mult (.lit (.int 3)) (.var 1))) (.lit (.int 8))))))) .nil) .nil) (.cons (.asg 3 (.p (.bin .Add (.lit (.int 1)) (.bin .Mod (.var 0) (.lit (.int 8)))))) (.cons (.asg 4 (.p (.bin .Mod (.bin .FloorDiv (.var 0) (.lit (.int 8))) (.var 3)))) (.cons (.asg 5 (.p (.ix (.var 2) (.bin .Mod (.bin .FloorDiv (.var 0) (.lit (.int 64))) (.lit (.int 26)))))) (.cons (.asg 6 (.p (.ix (.var 2) (.bin .Mod (.bin .Add (.bin .FloorDiv (.var 0) (.lit (.int 1664))) (.var 1)) (.lit (.int 26)))))) (.cons (.ret (.p (.bin .Add (.bin .Add (.bin .Mult (.var 5) (.var 4)) (.var 6)) (.bin .Mult (.var 5) (.bin .Sub (.bin .Sub (.var 3) (.lit (.int 1))) (.var 4)))))) .nil)))))))
theorem cr17:cDef fns an 60 ["_law_seed","_law_k","_law_letters","_law_size_here","_law_spot","_law_rest","_law_own"] s17 = some b17:=by rfl
theorem sc17:FnScope ["_law_seed","_law_k","_law_letters","_law_size_here","_law_spot","_law_rest","_law_own"] ["_law_seed","_law_k"] (defScope s17):=⟨rfl,rfl,rfl,by decide +kernel,rfl,by decide +kernel,by decide +kernel⟩
noncomputable abbrev s18:Stmt:=top 31
noncomputable def b18:ISs:=(.cons (.fo [3] (.nm 3) (.p (.rng (.lit (.int 0)) (.bin .LShift (.lit (.int 1)) (.var 1)))) (.cons (.ifs (.p (.cmp .NotEq (.bin .BitAnd (.bin .RShift (.var 0) (.var 3)) (.lit (.int 1))) (.bin .BitAnd (.bin .RShift (.var 0) (.bin .BitXor (.var 3) (.bin .LShift (.lit (.int 1)) (.var 2)))) (.lit (.int 1))))) (.cons (.ret (.p (.lit (.bl true)))) .nil) .nil) .nil)) (.cons (.ret (.p (.lit (.bl false)))) .nil))
theorem cr18:cDef fns an 60 ["_law_table","_law_many","_law_k","_law_row"] s18 = some b18:=by rfl
theorem sc18:FnScope ["_law_table","_law_many","_law_k","_law_row"] ["_law_table","_law_many","_law_k"] (defScope s18):=⟨rfl,rfl,rfl,by decide +kernel,rfl,by decide +kernel,by decide +kernel⟩
noncomputable abbrev s19:Stmt:=top 32
noncomputable def b19:ISs:=(.cons (.asg 2 (.io 15 (.ref 0 (.val (.p (.lit (.int 43264))) .nil)))) (.cons (.asg 3 (.p (.lst (.own [] .fz) .nil))) (.cons (.fo [4,5,6,7] (.nm 4) (.rng (.bin .Add (.cons (.p (.lit (.int 2))) (.fin (.io 16 (.ref 0 (.val (.p (.bin .Sub (.var 1) (.lit (.int 2)))) (.val (.p (.lit (.int 18))) .nil)))) .nil)))) (.cons (.asg 5 (.p (.ix (.tup .fz (.cons (.lit (.int 1)) (.cons (.lit (.int 2)) .nil))) (.bin .Mod (.var 4) (.lit (.int 2)))))) (.cons (.asg 6 (.p (.ix (.tup .fz (.cons (.lit (.int 1)) (.cons (.lit (.int 8)) .nil))) (.bin .Mod (.var 4) (.lit (.int 2)))))) (.cons (.ifs (.p (.cmp .Gt (.var 4) (.lit (.int 1)))) (.cons (.asg 5 (.ix (.cons (.p (.tup .fz (.cons (.lit (.int 1)) (.cons (.lit (.int 2)) (.cons (.lit (.int 2)) (.cons (.lit (.int 3)) (.cons (.lit (.int 3)) (.cons (.lit (.int 3)) .nil)))))))) (.fin (.io 15 (.ref 0 (.val (.p (.lit (.int 6))) .nil))) .nil)))) (.cons (.asg 6 (.io 15 (.ref 0 (.val (.p (.bin .LShift (.lit (.int 1)) (.bin .LShift (.lit (.int 1)) (.var 5)))) .nil)))) .nil)) .nil) (.cons (.ifs (.p (.not (.blt "all" (.cons (.comp .fz [none,none,none,some 5,some 6] (.nm 1) (.rng (.lit (.int 0)) (.var 5)) .non (.fn 18 (.cons (.var 4) (.cons (.var 3) (.cons (.var 1) .nil))))) .nil)))) (.cons (.asg 6 (.p (.ix (.tup .fz (.cons (.lit (.int 1)) (.cons (.lit (.int 14)) (.cons (.lit (.int 216)) .nil)))) (.bin .Sub (.var 5) (.lit (.int 1)))))) .nil) .nil) (.cons (.asg 7 (.bin .Add (.cons (.p (.lit (.int 1))) (.fin (.ix (.cons (.tup .fz (.cons (.io 15 (.ref 0 (.val (.p (.lit (.int 6))) .nil))) (.fin (.io 15 (.ref 0 (.val (.p (.lit (.int 1000))) .nil))) .nil))) (.fin (.bin .FloorDiv (.fin (.io 15 (.ref 0 (.val (.p (.lit (.int 3))) .nil))) (.cons (.lit (.int 2)) .nil))) .nil))) .nil)))) (.cons (.exp (.mut "append" (.nm 3) (.cons (.tup .fz (.cons (.fn 17 (.cons (.var 2) (.cons (.var 4) .nil))) (.cons (.var 5) (.cons (.var 6) (.cons (.var 7) .nil))))) .nil))) .nil))))))) (.cons (.asg 8 (.p (.lst (.own [] .fz) .nil))) (.cons (.fo [9] (.nm 9) (.p (.e (.var 3))) (.cons (.exp (.mutMs "insert" 8 (.fin (.io 15 (.ref 0 (.val (.p (.bin .Add (.blt "len" (.cons (.var 8) .nil)) (.lit (.int 1)))) .nil))) (.cons (.var 9) .nil)))) .nil)) (.cons (.ret (.mv 8)) .nil))))))
theorem cr19:cDef fns an 60 ["_law_state","_law_most","_law_seed","_law_rows","_law_k","_law_many","_law_table","_law_cost","_law_mixed","_law_row"] s19 = some b19:=by rfl
theorem sc19:FnScope ["_law_state","_law_most","_law_seed","_law_rows","_law_k","_law_many","_law_table","_law_cost","_law_mixed","_law_row"] ["_law_state","_law_most"] (defScope s19):=⟨rfl,rfl,rfl,by decide +kernel,rfl,by decide +kernel,by decide +kernel⟩
noncomputable abbrev s20:Stmt:=top 33
noncomputable def b20:ISs:=(.cons (.ret (.p (.bool .And (.cons (.isi "int" (.var 0)) (.cons (.not (.isi "bool" (.var 0))) (.cons (.chain .LtE .LtE (.lit (.int 1)) (.var 0) (.var 1)) .nil)))))) .nil)
theorem cr20:cDef fns an 60 ["_law_thing","_law_most"] s20 = some b20:=by rfl
theorem sc20:FnScope ["_law_thing","_law_most"] ["_law_thing","_law_most"] (defScope s20):=⟨rfl,rfl,rfl,by decide +kernel,rfl,by decide +kernel,by decide +kernel⟩
noncomputable abbrev s21:Stmt:=top 34
noncomputable def b21:ISs:=(.cons (.ifs (.p (.bool .Or (.cons (.not (.isi "str" (.var 0))) (.cons (.not (.chain .LtE .LtE (.lit (.int 1)) (.blt "len" (.cons (.var 0) .nil)) (.lit (.int 8)))) .nil)))) (.cons (.ret (.p (.lit (.bl false)))) .nil) .nil) (.cons (.ret (.p (.blt "all" (.cons (.comp .fz [none,none] (.nm 1) (.e (.var 0)) .non (.cmp .In (.var 1) (.lit (.str "abcdefghijklmnopqrstuvwxyz")))) .nil)))) .nil))
theorem cr21:cDef fns an 60 ["_law_thing"] s21 = some b21:=by rfl
theorem sc21:FnScope ["_law_thing"] ["_law_thing"] (defScope s21):=⟨rfl,rfl,rfl,by decide +kernel,rfl,by decide +kernel,by decide +kernel⟩
noncomputable abbrev s22:Stmt:=top 35
noncomputable def b22:ISs:=(.cons (.ifs (.p (.bool .Or (.cons (.not (.isi "tuple" (.var 0))) (.cons (.cmp .NotEq (.blt "len" (.cons (.var 0) .nil)) (.lit (.int 4))) (.cons (.not (.fn 21 (.cons (.ix (.var 0) (.lit (.int 0))) .nil))) .nil))))) (.cons (.ret (.p (.lit (.bl false)))) .nil) .nil) (.cons (.ifs (.p (.bool .Or (.cons (.not (.fn 20 (.cons (.ix (.var 0) (.lit (.int 1))) (.cons (.lit (.int 3)) .nil)))) (.cons (.not (.fn 20 (.cons (.ix (.var 0) (.lit (.int 3))) (.cons (.lit (.int 1000)) .nil)))) .nil)))) (.cons (.ret (.p (.lit (.bl false)))) .nil) .nil) (.cons (.ifs (.p (.bool .Or (.cons (.not (.isi "int" (.ix (.var 0) (.lit (.int 2))))) (.cons (.isi "bool" (.ix (.var 0) (.lit (.int 2)))) (.cons (.not (.chain .LtE .Lt (.lit (.int 0)) (.ix (.var 0) (.lit (.int 2))) (.bin .LShift (.lit (.int 1)) (.bin .LShift (.lit (.int 1)) (.ix (.var 0) (.lit (.int 1))))))) .nil))))) (.cons (.ret (.p (.lit (.bl false)))) .nil) .nil) (.cons (.ret (.p (.blt "all" (.cons (.comp .fz [none,none,none,some 0] (.nm 1) (.rng (.lit (.int 0)) (.ix (.var 0) (.lit (.int 1)))) .non (.fn 18 (.cons (.ix (.var 3) (.lit (.int 2))) (.cons (.ix (.var 3) (.lit (.int 1))) (.cons (.var 1) .nil))))) .nil)))) .nil))))
theorem cr22:cDef fns an 60 ["_law_row"] s22 = some b22:=by rfl
theorem sc22:FnScope ["_law_row"] ["_law_row"] (defScope s22):=⟨rfl,rfl,rfl,by decide +kernel,rfl,by decide +kernel,by decide +kernel⟩
noncomputable abbrev s23:Stmt:=top 36
noncomputable def b23:ISs:=(.cons (.ifs (.p (.bool .Or (.cons (.not (.isi "list" (.var 0))) (.cons (.not (.chain .LtE .LtE (.lit (.int 2)) (.blt "len" (.cons (.var 0) .nil)) (.lit (.int 20)))) (.cons (.not (.blt "all" (.cons (.comp .fz [none,none,none] (.nm 1) (.e (.var 0)) .non (.fn 22 (.cons (.var 1) .nil))) .nil))) .nil))))) (.cons (.ret (.p (.lit (.bl false)))) .nil) .nil) (.cons (.asg 1 (.p (.comp .fz [none,none] (.nm 1) (.e (.var 0)) .non (.ix (.var 1) (.lit (.int 0)))))) (.cons (.ifs (.p (.cmp .NotEq (.lset (.var 1)) (.blt "len" (.cons (.var 1) .nil)))) (.cons (.ret (.p (.lit (.bl false)))) .nil) .nil) (.cons (.ret (.p (.bool .And (.cons (.cmp .In (.tup .fz (.cons (.lit (.int 1)) (.cons (.lit (.int 1)) .nil))) (.comp .fz [none,none] (.nm 1) (.e (.var 0)) .non (.sl (.var 1) (.som (.lit (.int 1))) (.som (.lit (.int 3)))))) (.cons (.cmp .In (.tup .fz (.cons (.lit (.int 2)) (.cons (.lit (.int 8)) .nil))) (.comp .fz [none,none] (.nm 1) (.e (.var 0)) .non (.sl (.var 1) (.som (.lit (.int 1))) (.som (.lit (.int 3)))))) .nil))))) .nil))))
theorem cr23:cDef fns an 60 ["_law_thing","_law_names"] s23 = some b23:=by rfl
theorem sc23:FnScope ["_law_thing","_law_names"] ["_law_thing"] (defScope s23):=⟨rfl,rfl,rfl,by decide +kernel,rfl,by decide +kernel,by decide +kernel⟩
noncomputable abbrev s24:Stmt:=top 37
noncomputable def b24:ISs:=(.cons (.unp [3,4,5,6] (.p (.ix (.var 1) (.var 2)))) (.cons (.asg 7 (.io 15 (.ref 0 (.val (.p (.lit (.int 5))) .nil)))) (.cons (.ifs (.p (.cmp .Eq (.var 7) (.lit (.int 0)))) (.cons (.asg 8 (.p (.lst (.own [] .fz) (.cons (.lit (.str "")) (.cons (.bin .Mult (.lit (.str "a")) (.lit (.int 9))) (.cons (.lit (.str "A")) (.cons (.lit (.str "a1")) (.cons (.lit (.str "a b")) (.cons (.lit (.str "a\n")) (.cons (.lit .non) (.cons (.lit (.int 5)) (.cons (.tup .fz (.cons (.lit (.str "a")) .nil)) (.cons (.ix (.ix (.var 1) (.bin .Sub (.var 2) (.lit (.int 1)))) (.lit (.int 0))) (.cons (.lit (.str "abcdefgh")) (.cons (.lst (.own [] .fz) .nil) (.cons (.lst (.own [] .fz) (.cons (.lit (.str "a")) .nil)) (.cons (.dnew 0) .nil))))))))))))))))) (.cons (.ret (.tup .fz (.fin (.ix (.cons (.fz 8) (.fin (.io 15 (.ref 0 (.val (.p (.blt "len" (.cons (.var 8) .nil))) .nil))) .nil))) (.cons (.var 4) (.cons (.var 5) (.cons (.var 6) .nil)))))) .nil)) .nil) (.cons (.ifs (.p (.cmp .Eq (.var 7) (.lit (.int 1)))) (.cons (.asg 9 (.p (.lst (.own [] .fz) (.cons (.lit (.int 0)) (.cons (.lit (.int 4)) (.cons (.neg (.lit (.int 1))) (.cons (.lit (.bl true)) (.cons (.lit .non) (.cons (.lit (.str "2")) (.cons (.bin .Pow (.lit (.int 10)) (.lit (.int 20))) (.cons (.lit (.int 1)) (.cons (.lit (.int 2)) (.cons (.lit (.int 3)) (.cons (.lst (.own [] .fz) .nil) (.cons (.dnew 0) .nil))))))))))))))) (.cons (.ret (.tup .fz (.cons (.p (.var 3)) (.fin (.ix (.cons (.fz 9) (.fin (.io 15 (.ref 0 (.val (.p (.blt "len" (.cons (.var 9) .nil))) .nil))) .nil))) (.cons (.var 5) (.cons (.var 6) .nil)))))) .nil)) .nil) (.cons (.ifs (.p (.cmp .Eq (.var 7) (.lit (.int 2)))) (.cons (.asg 10 (.p (.lst (.own [] .fz) (.cons (.neg (.lit (.int 1))) (.cons (.bin .LShift (.lit (.int 1)) (.bin .LShift (.lit (.int 1)) (.var 4))) (.cons (.lit (.bl true)) (.cons (.lit .non) (.cons (.lit (.str "8")) (.cons (.tup .fz (.cons (.lit (.int 8)) .nil)) (.cons (.bin .Pow (.lit (.int 10)) (.lit (.int 30))) (.cons (.lit (.int 0)) (.cons (.bin .Sub (.bin .LShift (.lit (.int 1)) (.bin .LShift (.lit (.int 1)) (.var 4))) (.lit (.int 1))) (.cons (.lit (.int 10)) (.cons (.lit (.int 12)) (.cons (.lit (.int 170)) (.cons (.lit (.int 204)) .nil)))))))))))))))) (.cons (.asg 10 (.bin .Add (.cons (.fz 10) (.fin (.lst (.own [] .fz) (.cons (.p (.lit (.int 240))) (.cons (.p (.lit (.int 15))) (.cons (.p (.lit (.int 85))) (.cons (.p (.lit (.int 1))) (.cons (.p (.lit (.int 8))) (.cons (.p (.lit (.int 216))) (.fin (.io 15 (.ref 0 (.val (.p (.lit (.int 256))) .nil))) (.cons (.lst (.own [] .fz) .nil) (.cons (.dnew 0) .nil)))))))))) .nil)))) (.cons (.ret (.tup .fz (.cons (.p (.var 3)) (.cons (.p (.var 4)) (.fin (.ix (.cons (.fz 10) (.fin (.io 15 (.ref 0 (.val (.p (.blt "len" (.cons (.var 10) .nil))) .nil))) .nil))) (.cons (.var 6) .nil)))))) .nil))) .nil) (.cons (.ifs (.p (.cmp .Eq (.var 7) (.lit (.int 3)))) (.cons (.asg 11 (.p (.lst (.own [] .fz) (.cons (.lit (.int 0)) (.cons (.neg (.lit (.int 3))) (.cons (.lit (.int 1001)) (.cons (.bin .Pow (.lit (.int 10)) (.lit (.int 40))) (.cons (.lit (.bl true)) (.cons (.lit .non) (.cons (.lit (.str "3")) (.cons (.lit (.int 1)) (.cons (.lit (.int 1000)) (.cons (.lst (.own [] .fz) .nil) (.cons (.dnew 0) .nil)))))))))))))) (.cons (.ret (.tup .fz (.cons (.p (.var 3)) (.cons (.p (.var 4)) (.cons (.p (.var 5)) (.fin (.ix (.cons (.fz 11) (.fin (.io 15 (.ref 0 (.val (.p (.blt "len" (.cons (.var 11) .nil))) .nil))) .nil))) .nil)))))) .nil)) .nil) (.cons (.ret (.ix (.cons (.p (.lst (.own [] .fz) (.cons (.lst (.own [] .fz) (.cons (.var 3) (.cons (.var 4) (.cons (.var 5) (.cons (.var 6) .nil))))) (.cons (.tup .fz (.cons (.var 3) (.cons (.var 4) (.cons (.var 5) .nil)))) (.cons (.bin .Add (.ix (.var 1) (.var 2)) (.tup .fz (.cons (.lit (.int 1)) .nil))) (.cons (.tup .fz .nil) (.cons (.lit .non) (.cons (.var 3) .nil)))))))) (.fin (.io 15 (.ref 0 (.val (.p (.lit (.int 6))) .nil))) .nil)))) .nil)))))))
theorem cr24:cDef fns an 60 ["_law_state","_law_rows","_law_at","_law_name_here","_law_many","_law_table","_law_cost","_law_part_here","_law_names","_law_sizes","_law_tables","_law_costs"] s24 = some b24:=by rfl
theorem sc24:FnScope ["_law_state","_law_rows","_law_at","_law_name_here","_law_many","_law_table","_law_cost","_law_part_here","_law_names","_law_sizes","_law_tables","_law_costs"] ["_law_state","_law_rows","_law_at"] (defScope s24):=⟨rfl,rfl,rfl,by decide +kernel,rfl,by decide +kernel,by decide +kernel⟩
noncomputable abbrev s25:Stmt:=top 38
noncomputable def b25:ISs:=(.cons (.asg 1 (.p (.lst (.own [] .fz) .nil))) (.cons (.fo [2] (.nm 2) (.p (.rng (.lit (.int 0)) (.var 0))) (.cons (.asg 1 (.lst (.own [] .fz) (.fin (.fz 1) (.cons (.var 2) .nil)))) .nil)) (.cons (.ret (.mv 1)) .nil)))
theorem cr25:cDef fns an 60 ["_law_deep","_law_thing","_law_tour"] s25 = some b25:=by rfl
theorem sc25:FnScope ["_law_deep","_law_thing","_law_tour"] ["_law_deep"] (defScope s25):=⟨rfl,rfl,rfl,by decide +kernel,rfl,by decide +kernel,by decide +kernel⟩
noncomputable abbrev s26:Stmt:=top 39
noncomputable def b26:ISs:=(.cons (.asg 2 (.io 15 (.ref 0 (.val (.p (.lit (.int 12))) .nil)))) (.cons (.ifs (.p (.cmp .Lt (.var 2) (.lit (.int 6)))) (.cons (.asg 3 (.io 15 (.ref 0 (.val (.p (.blt "len" (.cons (.var 1) .nil))) .nil)))) (.cons (.ret (.bin .Add (.fin (.bin .Add (.cons (.p (.sl (.var 1) .non (.som (.var 3)))) (.fin (.lst (.own [] .fz) (.fin (.io 24 (.ref 0 (.val (.p (.var 1)) (.val (.p (.var 3)) .nil)))) .nil)) .nil))) (.cons (.sl (.var 1) (.som (.bin .Add (.var 3) (.lit (.int 1)))) .non) .nil)))) .nil)) .nil) (.cons (.ifs (.p (.cmp .Eq (.var 2) (.lit (.int 6)))) (.cons (.ret (.p (.comp .fz [none,none] (.nm 1) (.e (.var 1)) (.som (.cmp .NotEq (.sl (.var 1) (.som (.lit (.int 1))) (.som (.lit (.int 3)))) (.tup .fz (.cons (.lit (.int 1)) (.cons (.lit (.int 1)) .nil))))) (.var 1)))) .nil) .nil) (.cons (.ifs (.p (.cmp .Eq (.var 2) (.lit (.int 7)))) (.cons (.ret (.p (.comp .fz [none,none] (.nm 1) (.e (.var 1)) (.som (.cmp .NotEq (.sl (.var 1) (.som (.lit (.int 1))) (.som (.lit (.int 3)))) (.tup .fz (.cons (.lit (.int 2)) (.cons (.lit (.int 8)) .nil))))) (.var 1)))) .nil) .nil) (.cons (.ifs (.p (.cmp .Eq (.var 2) (.lit (.int 8)))) (.cons (.asg 4 (.p (.bin .Add (.bin .Add (.comp .fz [none,none] (.nm 1) (.rng (.lit (.int 0)) (.lit (.int 8))) .non (.bin .Mult (.lit (.str "z")) (.bin .Add (.var 1) (.lit (.int 1))))) (.comp .fz [none,none] (.nm 1) (.rng (.lit (.int 0)) (.lit (.int 8))) .non (.bin .Mult (.lit (.str "y")) (.bin .Add (.var 1) (.lit (.int 1)))))) (.lst (.own [] .fz) (.cons (.lit (.str "xx")) (.cons (.lit (.str "xy")) (.cons (.lit (.str "xz")) (.cons (.lit (.str "xzz")) (.cons (.lit (.str "xyz")) .nil))))))))) (.cons (.asg 5 (.p (.comp .fz [none,none,some 1] (.nm 1) (.e (.var 4)) (.som (.cmp .NotIn (.var 1) (.comp .fz [none,none] (.nm 1) (.e (.var 2)) .non (.ix (.var 1) (.lit (.int 0)))))) (.tup .fz (.cons (.var 1) (.cons (.lit (.int 2)) (.cons (.lit (.int 14)) (.cons (.lit (.int 3)) .nil)))))))) (.cons (.ret (.slh (.cons (.p (.bin .Add (.var 1) (.var 5))) (.fin (.bin .Add (.cons (.p (.lit (.int 20))) (.fin (.io 15 (.ref 0 (.val (.p (.lit (.int 2))) .nil))) .nil))) .nil)))) .nil))) .nil) (.cons (.ifs (.p (.cmp .Eq (.var 2) (.lit (.int 9)))) (.cons (.ret (.p (.sl (.var 1) .non (.som (.lit (.int 1)))))) .nil) .nil) (.cons (.ifs (.p (.cmp .Eq (.var 2) (.lit (.int 10)))) (.cons (.ret (.p (.blt "tuple" (.cons (.var 1) .nil)))) .nil) .nil) (.cons (.asg 6 (.p (.lst (.own [] .fz) (.cons (.lit .non) (.cons (.lit (.int 5)) (.cons (.lit (.str "shelf")) (.cons (.dnew 0) (.cons (.lst (.own [] .fz) .nil) (.cons (.tup .fz .nil) (.cons (.lst (.own [] .fz) (.cons (.lst (.own [] .fz) .nil) .nil)) (.cons (.lst (.own [] .fz) (.cons (.lit .non) (.cons (.lit .non) .nil))) (.cons (.dsp (.str "a") (.var 1)) (.cons (.lit (.bl true)) (.cons (.fn 25 (.cons (.lit (.int 99)) .nil)) .nil)))))))))))))) (.cons (.ret (.ix (.cons (.fz 6) (.fin (.io 15 (.ref 0 (.val (.p (.blt "len" (.cons (.var 6) .nil))) .nil))) .nil)))) .nil)))))))))
theorem cr26:cDef fns an 60 ["_law_state","_law_rows","_law_way","_law_at","_law_more","_law_some","_law_things"] s26 = some b26:=by rfl
theorem sc26:FnScope ["_law_state","_law_rows","_law_way","_law_at","_law_more","_law_some","_law_things"] ["_law_state","_law_rows"] (defScope s26):=⟨rfl,rfl,rfl,by decide +kernel,rfl,by decide +kernel,by decide +kernel⟩
noncomputable abbrev s27:Stmt:=top 40
noncomputable def b27:ISs:=(.cons (.asg 1 (.p (.fn 13 (.cons (.var 0) .nil)))) (.cons (.asg 2 (.io 19 (.ref 1 (.val (.p (.lit (.int 20))) .nil)))) (.cons (.fo [3,4,5,6] (.nm 3) (.p (.rng (.lit (.int 0)) (.lit (.int 10)))) (.cons (.asg 4 (.p (.blt "list" (.cons (.var 2) .nil)))) (.cons (.ifs (.p (.bool .Or (.cons (.cmp .IsNot (.fn 9 (.cons (.var 4) .nil)) (.lit (.bl true))) (.cons (.cmp .NotEq (.var 4) (.var 2)) .nil)))) (.cons (.ret (.p (.lit (.bl false)))) .nil) .nil) (.cons (.asg 5 (.io 26 (.ref 1 (.val (.p (.blt "list" (.cons (.var 2) .nil))) .nil)))) (.cons (.asg 6 (.p (.fn 9 (.cons (.var 5) .nil)))) (.cons (.ifs (.p (.bool .Or (.cons (.bool .And (.cons (.fn 23 (.cons (.var 5) .nil)) (.cons (.cmp .IsNot (.var 6) (.lit (.bl true))) .nil))) (.cons (.bool .And (.cons (.not (.fn 23 (.cons (.var 5) .nil))) (.cons (.cmp .IsNot (.var 6) (.lit (.bl false))) .nil))) .nil)))) (.cons (.ret (.p (.lit (.bl false)))) .nil) .nil) .nil)))))) (.cons (.ret (.p (.cmp .Is (.fn 9 (.cons (.blt "list" (.cons (.var 2) .nil)) .nil)) (.lit (.bl true))))) .nil))))
theorem cr27:cDef fns an 60 ["_law_script","_law_state","_law_rows","_law_tour","_law_good","_law_thing","_law_found"] s27 = some b27:=by rfl
theorem sc27:FnScope ["_law_script","_law_state","_law_rows","_law_tour","_law_good","_law_thing","_law_found"] ["_law_script"] (defScope s27):=⟨rfl,rfl,rfl,by decide +kernel,rfl,by decide +kernel,by decide +kernel⟩
noncomputable def Γ0:GG:=⟨fun _=>none,fun _=>none⟩
noncomputable def ψ0:Fn:=defI Γ0 1000 1 1 b0
theorem h0:∀ ds,Le (ψ0 ds) (defI Γ0 1000 1 1 b0 ds):=fun _=>Le.refl _
noncomputable def Γ_0:GG:=Γ0.addI 0 ψ0
noncomputable def ψ1:Fn:=defI Γ_0 1000 2 2 b1
theorem h1:∀ ds,Le (ψ1 ds) (defI Γ_0 1000 2 2 b1 ds):=fun _=>Le.refl _
noncomputable def Γ_1:GG:=Γ_0.addI 1 ψ1
noncomputable def ψ2:Fn:=defI Γ_1 1000 1 4 b2
theorem h2:∀ ds,Le (ψ2 ds) (defI Γ_1 1000 1 4 b2 ds):=fun _=>Le.refl _
noncomputable def Γ_2:GG:=Γ_1.addI 2 ψ2
noncomputable def ψ3:Fn:=defI Γ_2 1000 2 2 b3
theorem h3:∀ ds,Le (ψ3 ds) (defI Γ_2 1000 2 2 b3 ds):=fun _=>Le.refl _
noncomputable def Γ_3:GG:=Γ_2.addI 3 ψ3
noncomputable def ψ4:Fn:=defI Γ_3 1000 2 2 b4
theorem h4:∀ ds,Le (ψ4 ds) (defI Γ_3 1000 2 2 b4 ds):=fun _=>Le.refl _
noncomputable def Γ_4:GG:=Γ_3.addI 4 ψ4
noncomputable def ψ5:Fn:=defI Γ_4 1000 1 1 b5
theorem h5:∀ ds,Le (ψ5 ds) (defI Γ_4 1000 1 1 b5 ds):=fun _=>Le.refl _
noncomputable def Γ_5:GG:=Γ_4.addI 5 ψ5
noncomputable def ψ7:Fn:=defI Γ_5 1000 4 4 b7
theorem h7:∀ ds,Le (ψ7 ds) (defI Γ_5 1000 4 4 b7 ds):=fun _=>Le.refl _
noncomputable def Γ_7:GG:=Γ_5.addI 7 ψ7
noncomputable def ψ6:Fn:=defI Γ_7 1000 3 3 b6
theorem h6:∀ ds,Le (ψ6 ds) (defI Γ_7 1000 3 3 b6 ds):=fun _=>Le.refl _
noncomputable def Γ_6:GG:=Γ_7.addI 6 ψ6
noncomputable def ψ8:Fn:=defI Γ_6 1000 2 2 b8
theorem h8:∀ ds,Le (ψ8 ds) (defI Γ_6 1000 2 2 b8 ds):=fun _=>Le.refl _
noncomputable def Γ_8:GG:=Γ_6.addI 8 ψ8
noncomputable def ψ11:Fn:=defI Γ_8 1000 1 1 b11
theorem h11:∀ ds,Le (ψ11 ds) (defI Γ_8 1000 1 1 b11 ds):=fun _=>Le.refl _
noncomputable def Γ_11:GG:=Γ_8.addI 11 ψ11
noncomputable def ψ12:Fn:=defI Γ_11 1000 3 3 b12
theorem h12:∀ ds,Le (ψ12 ds) (defI Γ_11 1000 3 3 b12 ds):=fun _=>Le.refl _
noncomputable def Γ_12:GG:=Γ_11.addI 12 ψ12
noncomputable def ψ10:Fn:=defI Γ_12 1000 1 5 b10
theorem h10:∀ ds,Le (ψ10 ds) (defI Γ_12 1000 1 5 b10 ds):=fun _=>Le.refl _
noncomputable def Γ_10:GG:=Γ_12.addI 10 ψ10
noncomputable def ψ9:Fn:=defI Γ_10 1000 1 3 b9
theorem h9:∀ ds,Le (ψ9 ds) (defI Γ_10 1000 1 3 b9 ds):=fun _=>Le.refl _
noncomputable def Γ_9:GG:=Γ_10.addI 9 ψ9
noncomputable def ψ13:Fn:=defI Γ_9 1000 1 1 b13
theorem h13:∀ ds,Le (ψ13 ds) (defI Γ_9 1000 1 1 b13 ds):=fun _=>Le.refl _
noncomputable def Γ_13:GG:=Γ_9.addI 13 ψ13
noncomputable def ψ14:Fm:=defM Γ_13 1000 1 5 [0] b14
theorem h14:∀ ds,Le (ψ14 ds) (defM Γ_13 1000 1 5 [0] b14 ds):=fun _=>Le.refl _
noncomputable def Γ_14:GG:=Γ_13.addM 14 ψ14
noncomputable def ψ15:Fm:=defM Γ_14 1000 2 3 [0] b15
theorem h15:∀ ds,Le (ψ15 ds) (defM Γ_14 1000 2 3 [0] b15 ds):=fun _=>Le.refl _
noncomputable def Γ_15:GG:=Γ_14.addM 15 ψ15
noncomputable def ψ16:Fm:=defM Γ_15 1000 3 3 [0] b16
theorem h16:∀ ds,Le (ψ16 ds) (defM Γ_15 1000 3 3 [0] b16 ds):=fun _=>Le.refl _
noncomputable def Γ_16:GG:=Γ_15.addM 16 ψ16
noncomputable def ψ17:Fn:=defI Γ_16 1000 2 7 b17
theorem h17:∀ ds,Le (ψ17 ds) (defI Γ_16 1000 2 7 b17 ds):=fun _=>Le.refl _
noncomputable def Γ_17:GG:=Γ_16.addI 17 ψ17
noncomputable def ψ18:Fn:=defI Γ_17 1000 3 4 b18
theorem h18:∀ ds,Le (ψ18 ds) (defI Γ_17 1000 3 4 b18 ds):=fun _=>Le.refl _
noncomputable def Γ_18:GG:=Γ_17.addI 18 ψ18
noncomputable def ψ19:Fm:=defM Γ_18 1000 2 10 [0] b19
theorem h19:∀ ds,Le (ψ19 ds) (defM Γ_18 1000 2 10 [0] b19 ds):=fun _=>Le.refl _
noncomputable def Γ_19:GG:=Γ_18.addM 19 ψ19
noncomputable def ψ20:Fn:=defI Γ_19 1000 2 2 b20
theorem h20:∀ ds,Le (ψ20 ds) (defI Γ_19 1000 2 2 b20 ds):=fun _=>Le.refl _
noncomputable def Γ_20:GG:=Γ_19.addI 20 ψ20
noncomputable def ψ21:Fn:=defI Γ_20 1000 1 1 b21
theorem h21:∀ ds,Le (ψ21 ds) (defI Γ_20 1000 1 1 b21 ds):=fun _=>Le.refl _
noncomputable def Γ_21:GG:=Γ_20.addI 21 ψ21
noncomputable def ψ22:Fn:=defI Γ_21 1000 1 1 b22
theorem h22:∀ ds,Le (ψ22 ds) (defI Γ_21 1000 1 1 b22 ds):=fun _=>Le.refl _
noncomputable def Γ_22:GG:=Γ_21.addI 22 ψ22
noncomputable def ψ23:Fn:=defI Γ_22 1000 1 2 b23
theorem h23:∀ ds,Le (ψ23 ds) (defI Γ_22 1000 1 2 b23 ds):=fun _=>Le.refl _
noncomputable def Γ_23:GG:=Γ_22.addI 23 ψ23
noncomputable def ψ24:Fm:=defM Γ_23 1000 3 12 [0] b24
theorem h24:∀ ds,Le (ψ24 ds) (defM Γ_23 1000 3 12 [0] b24 ds):=fun _=>Le.refl _
noncomputable def Γ_24:GG:=Γ_23.addM 24 ψ24
noncomputable def ψ25:Fn:=defI Γ_24 1000 1 3 b25
theorem h25:∀ ds,Le (ψ25 ds) (defI Γ_24 1000 1 3 b25 ds):=fun _=>Le.refl _
noncomputable def Γ_25:GG:=Γ_24.addI 25 ψ25
noncomputable def ψ26:Fm:=defM Γ_25 1000 2 7 [0] b26
theorem h26:∀ ds,Le (ψ26 ds) (defM Γ_25 1000 2 7 [0] b26 ds):=fun _=>Le.refl _
noncomputable def Γ_26:GG:=Γ_25.addM 26 ψ26
noncomputable def ψ27:Fn:=defI Γ_26 1000 1 7 b27
theorem h27:∀ ds,Le (ψ27 ds) (defI Γ_26 1000 1 7 b27 ds):=fun _=>Le.refl _
end K89
namespace K89
open PySem L2 J
noncomputable abbrev k0:Ow:=.own [] .fz
noncomputable abbrev ltr:Str:="abcdefghijklmnopqrstuvwxyz"
noncomputable def Ev (Γ:Nat->Option Fn) (e:IE) (ρ:Ro) (b:Bool):Prop:=Wp (evI Γ e ρ) fun r=>r = (.sh,.bl b)
noncomputable def Et (Γ:Nat->Option Fn) (e:IE) (ρ:Ro) (b:Bool):Prop:=Wp (evIT Γ e ρ) fun r=>r = b
section
variable {Γ:Nat->Option Fn} {ρ:Ro} {a b:IE} {r:IEs} {z w:Bool}
theorem Ev.and (ha:Ev Γ a ρ z) (hb:z = true->Ev Γ (.bool .And (.cons b r)) ρ w):Ev Γ (.bool .And (.cons a (.cons b r))) ρ (z && w):=by
 refine we_boolC (ha.mono fun x hx=>?_)
 subst hx
 refine ⟨z,rfl,fun e=>(hb (Eq.symm e)).mono fun y hy=>?_,fun e=>?_⟩
 ·rw [hy,show z = true from Eq.symm e]; rfl
 ·have:z = false:=by cases z with | false=>rfl | true=>exact absurd rfl e
  rw [this]; rfl
theorem Ev.one {op:BoolOp} (ha:Ev Γ a ρ z):Ev Γ (.bool op (.cons a .nil)) ρ z:=we_bool1 ha
theorem Ev.not (ha:Ev Γ a ρ z):Ev Γ (.not a) ρ (!z):=we_not (ha.mono fun x hx=>by subst hx; exact ⟨z,rfl,rfl⟩)
theorem Ev.fn {i:Nat} {φ:Fn} {es:IEs} {ds:List D} (hΓ:Γ i = some φ) (he:Wp (evIs Γ es ρ) fun kds=>kds.map (·.2) = ds) (hφ:φ ds = some (.sh,.bl z)):Ev Γ (.fn i es) ρ z:=by
 refine we_fn hΓ (he.mono fun kds hk=>wf_fn ⟨_,?_,rfl,.inr rfl,rfl⟩)
 rw [hk]; exact hφ
theorem Et.or (ha:Et Γ a ρ z) (hb:z = false->Et Γ (.bool .Or (.cons b r)) ρ w):Et Γ (.bool .Or (.cons a (.cons b r))) ρ (z || w):=by
 refine wt_boolC (ha.mono fun x hx=>?_)
 subst hx
 refine ⟨fun e=>(hb (Eq.symm e)).mono fun y hy=>?_,fun e=>?_⟩
 ·rw [hy,show x = false from Eq.symm e]; rfl
 ·have:x = true:=by cases x with | true=>rfl | false=>exact absurd rfl e
  rw [this]; rfl
theorem Et.one {op:BoolOp} (ha:Et Γ a ρ z):Et Γ (.bool op (.cons a .nil)) ρ z:=wt_bool1 ha
theorem Et.not (ha:Et Γ a ρ z):Et Γ (.not a) ρ (!z):=wt_not (ha.mono fun x hx=>by rw [hx])
theorem Et.ev (ht:truK a = true) (ha:Ev Γ a ρ z):Et Γ a ρ z:=wt_tru ht (ha.mono fun x hx=>by subst hx; exact ⟨z,rfl,rfl⟩)
theorem args1 {d:D} (h:Wp (evI Γ a ρ) fun x=>x.2 = d):Wp (evIs Γ (.cons a .nil) ρ) fun kds=>kds.map (·.2) = [d]:=ws_cons (h.mono fun x hx=>ws_nil (by subst hx; rfl))
theorem args2 {d e:D} (h:Wp (evI Γ a ρ) fun x=>x.2 = d) (k:Wp (evI Γ b ρ) fun x=>x.2 = e):Wp (evIs Γ (.cons a (.cons b .nil)) ρ) fun kds=>kds.map (·.2) = [d,e]:=ws_cons (h.mono fun x hx=>ws_cons (k.mono fun y hy=>ws_nil (by subst hx hy; rfl)))
theorem args3 {c:IE} {d e f:D} (h:Wp (evI Γ a ρ) fun x=>x.2 = d) (k:Wp (evI Γ b ρ) fun x=>x.2 = e) (l:Wp (evI Γ c ρ) fun x=>x.2 = f):Wp (evIs Γ (.cons a (.cons b (.cons c .nil))) ρ) fun kds=>kds.map (·.2) = [d,e,f]:=ws_cons (h.mono fun x hx=>ws_cons (k.mono fun y hy=>ws_cons (l.mono fun z hz=>ws_nil (by subst hx hy hz; rfl))))
theorem we_chain2 {op op':CmpOp} {d:IE} {Q:KD->Prop} (h:Wp (evI Γ a ρ) fun x=>Wp (evI Γ b ρ) fun y=>Wp (cmpD op x.2 y.2) fun r=>(r = true->Wp (evI Γ d ρ) fun z=>Wp (cmpD op' y.2 z.2) fun r=>Q (.sh,.bl r))/\(r = false->Q (.sh,.bl false))):Wp (evI Γ (.chain op op' a b d) ρ) Q:=by
 obtain ⟨x,ex,y,ey,r,er,q1,q2⟩:=h
 cases r with
 | true=>
  obtain ⟨z,ez,w,ew,q⟩:=q1 rfl
  refine ⟨(.sh,.bl w),?_,q⟩
  rw [evI,ex,ey,ez]
  unfold oChain
  dsimp only
  rw [er]
  dsimp only
  rw [ew]
  rfl
 | false=>
  refine ⟨(.sh,.bl false),?_,q2 rfl⟩
  rw [evI,ex,ey]
  unfold oChain
  dsimp only
  rw [er]
  rfl
theorem wt_chain2 {op op':CmpOp} {d:IE} {Q:Bool->Prop} (h:Wp (evI Γ a ρ) fun x=>Wp (evI Γ b ρ) fun y=>Wp (cmpD op x.2 y.2) fun r=>(r = true->Wp (evI Γ d ρ) fun z=>Wp (cmpD op' y.2 z.2) Q)/\(r = false->Q false)):Wp (evIT Γ (.chain op op' a b d) ρ) Q:=by
 obtain ⟨x,ex,y,ey,r,er,q1,q2⟩:=h
 cases r with
 | true=>
  obtain ⟨z,ez,w,ew,q⟩:=q1 rfl
  refine ⟨w,?_,q⟩
  rw [evIT,ex,ey,ez]
  unfold oChain
  dsimp only
  rw [er]
  dsimp only
  rw [ew]
 | false=>
  refine ⟨false,?_,q2 rfl⟩
  rw [evIT,ex,ey]
  unfold oChain
  dsimp only
  rw [er]
theorem ch_ev {d:IE} {i j l:Int} (ha:Wp (evI Γ a ρ) fun x=>x.2 = .int i) (hb:Wp (evI Γ b ρ) fun x=>x.2 = .int j) (hd:Wp (evI Γ d ρ) fun x=>x.2 = .int l):Ev Γ (.chain .LtE .LtE a b d) ρ (decide (i<=j) && decide (j<=l)):=by
 refine we_chain2 (ha.mono fun x hx=>hb.mono fun y hy=>?_)
 rw [hx,hy]
 refine wc_le ⟨fun e=>hd.mono fun z hz=>?_,fun e=>?_⟩
 ·rw [hz,e]; exact wc_le rfl
 ·rw [e]; rfl
theorem ch_et {d:IE} {i j l:Int} (ha:Wp (evI Γ a ρ) fun x=>x.2 = .int i) (hb:Wp (evI Γ b ρ) fun x=>x.2 = .int j) (hd:Wp (evI Γ d ρ) fun x=>x.2 = .int l):Et Γ (.chain .LtE .LtE a b d) ρ (decide (i<=j) && decide (j<=l)):=by
 refine wt_chain2 (ha.mono fun x hx=>hb.mono fun y hy=>?_)
 rw [hx,hy]
 refine wc_le ⟨fun e=>hd.mono fun z hz=>?_,fun e=>?_⟩
 ·rw [hz,e]; exact wc_le rfl
 ·rw [e]; rfl
theorem cl_ev {d:IE} {i j l:Int} (ha:Wp (evI Γ a ρ) fun x=>x.2 = .int i) (hb:Wp (evI Γ b ρ) fun x=>x.2 = .int j) (hd:Wp (evI Γ d ρ) fun x=>x.2 = .int l):Ev Γ (.chain .LtE .Lt a b d) ρ (decide (i<=j) && decide (j < l)):=by
 refine we_chain2 (ha.mono fun x hx=>hb.mono fun y hy=>?_)
 rw [hx,hy]
 refine wc_le ⟨fun e=>hd.mono fun z hz=>?_,fun e=>?_⟩
 ·rw [hz,e]; exact wc_lt rfl
 ·rw [e]; rfl
theorem cl_et {d:IE} {i j l:Int} (ha:Wp (evI Γ a ρ) fun x=>x.2 = .int i) (hb:Wp (evI Γ b ρ) fun x=>x.2 = .int j) (hd:Wp (evI Γ d ρ) fun x=>x.2 = .int l):Et Γ (.chain .LtE .Lt a b d) ρ (decide (i<=j) && decide (j < l)):=by
 refine wt_chain2 (ha.mono fun x hx=>hb.mono fun y hy=>?_)
 rw [hx,hy]
 refine wc_le ⟨fun e=>hd.mono fun z hz=>?_,fun e=>?_⟩
 ·rw [hz,e]; exact wc_lt rfl
 ·rw [e]; rfl
theorem len_of {d:D} {n:Nat} (ha:Wp (evI Γ a ρ) fun x=>x.2 = d) (h:lenD d = some n):Wp (evI Γ (.blt "len" (.cons a .nil)) ρ) fun x=>x.2 = .int n:=by
 refine we_blt (ws_cons (ha.mono fun x hx=>ws_nil ?_))
 obtain ⟨kx,dx⟩:=x
 cases (show dx = _ from hx)
 exact wl_len h rfl
theorem ix_tup {ds:List D} {d:D} {i:Nat} (ha:Wp (evI Γ a ρ) fun x=>x.2 = .nd .tup ds) (hi:ds[i]? = some d):Wp (evI Γ (.ix a (.lit (.int i))) ρ) fun x=>x.2 = d:=by
 refine we_ix (ha.mono fun x hx=>we_lit ?_)
 obtain ⟨kx,dx⟩:=x
 cases (show dx = _ from hx)
 have hl:=(List.getElem?_eq_some_iff.mp hi).1
 exact wx_tup (n:=i) (by rw [ixN_nat (by omega) (by omega)]; rfl) hi rfl
end
section
variable {Γ:GG} {N:Nat} {pn:List Nat} {ρ:Ro} {Q:Res->Prop} {rest:ISs}
theorem ret_ev {e:IE} {b:Bool} {R:KD->Prop} (h:Ev Γ.fn e ρ b) (q:R (.sh,.bl b)):Wp (exB Γ N (.cons (.ret (.p e)) rest) pn ρ) fun r=>Wp (oDef (some r)) R:=
 w_ret (wm_p (h.mono fun x hx=>by subst hx; exact ⟨rfl,od_rt rfl q⟩))
theorem if_et {t:IE} {z:Bool} {a b:ISs} (h:Et Γ.fn t ρ z) (h1:z = true->Wp (exB Γ N a pn ρ) (Kt Γ N rest pn Q)) (h2:z = false->Wp (exB Γ N b pn ρ) (Kt Γ N rest pn Q)):Wp (exB Γ N (.cons (.ifs (.p t) a b) rest) pn ρ) Q:=
 w_ifs (wmt_p (h.mono fun x hx=>by subst hx; exact ⟨h1,h2⟩))
theorem kt_fin {R:KD->Prop} (h:R (.sh,.bl false)):Wp (exB Γ N (.cons (.ret (.p (.lit (.bl false)))) .nil) pn ρ) (Kt Γ N rest pn fun r=>Wp (oDef (some r)) R):=
 w_ret (wm_p (we_lit ⟨rfl,kt_rt (od_rt rfl h)⟩))
theorem kt_go (h:Wp (exB Γ N rest pn ρ) Q):Wp (exB Γ N .nil pn ρ) (Kt Γ N rest pn Q):=w_nil (kt_nx h)
end
theorem wp_eq {φ:Option KD} {r:KD} (h:Wp φ fun x=>x = r):φ = some r:=by obtain ⟨x,e,rfl⟩:=h; exact e
theorem Ev.to {Γ:Nat->Option Fn} {e:IE} {ρ:Ro} {b c:Bool} (h:Ev Γ e ρ b) (k:b = c):Ev Γ e ρ c:=k ▸ h
noncomputable def isW:D->Bool
 | .int _=>true
 | _=>false
noncomputable def blB:D->Bool
 | .bl _=>true
 | _=>false
noncomputable def strB:D->Bool
 | .str _=>true
 | _=>false
noncomputable def tupB:D->Bool
 | .nd .tup _=>true
 | _=>false
noncomputable def lstB:D->Bool
 | .nd .lst _=>true
 | _=>false
noncomputable def fine:D->Bool
 | .str x=>decide (x.length<=100000)
 | d=>(tyD d).isSome
structure Isi (d:D):Prop where
 l:isiD "list" d = some (lstB d)
 t:isiD "tuple" d = some (tupB d)
 s:isiD "str" d = some (strB d)
 i:isiD "int" d = some (isW d || blB d)
 b:isiD "bool" d = some (blB d)
theorem isi_all {d:D} (h:fine d = true):Isi d:=by
 cases d with
 | non=>exact ⟨rfl,rfl,rfl,rfl,rfl⟩
 | bl _=>exact ⟨rfl,rfl,rfl,rfl,rfl⟩
 | int _=>exact ⟨rfl,rfl,rfl,rfl,rfl⟩
 | str _=>exact ⟨rfl,rfl,rfl,rfl,rfl⟩
 | scr _=>cases h
 | nd hd ds=>cases hd with
  | lst=>exact ⟨rfl,rfl,rfl,rfl,rfl⟩
  | tup=>exact ⟨rfl,rfl,rfl,rfl,rfl⟩
  | dic t ks=>cases t with
   | zero=>exact ⟨rfl,rfl,rfl,rfl,rfl⟩
   | succ t=>cases h
  | obj _ _=>cases h
theorem ev_isi {Γ:Nat->Option Fn} {ρ:Ro} {a:IE} {d:D} {T:Str} {b:Bool} (h:isiD T d = some b) (ha:Wp (evI Γ a ρ) fun x=>x.2 = d):Ev Γ (.isi T a) ρ b:=we_isi (ha.mono fun x hx=>⟨b,by rw [hx]; exact h,rfl⟩)
theorem whole_eq {d:D} (h:fine d = true):ψ0 [d] = some (.sh,.bl (isW d)):=by
 unfold ψ0
 refine wp_eq (wd_I rfl ?_)
 unfold b0
 walk_at "nm"
 have hi:=isi_all h
 refine ret_ev ((Ev.and (ev_isi hi.i (we_var rfl rfl)) fun _=>.one (.not (ev_isi hi.b (we_var rfl rfl)))).to ?_) rfl
 cases d <;> rfl
noncomputable def wiD (d:D) (lo hi:Int):Bool:=match d with
 | .int i=>decide (lo<=i) && decide (i<=hi)
 | _=>false
theorem isW_int {d:D} (h:isW d = true):∃ i,d = .int i:=by
 cases d with
 | int i=>exact ⟨i,rfl⟩
 | _=>cases h
theorem from_eq {d:D} {lo hi:Int} (h:fine d = true):ψ12 [d,.int lo,.int hi] = some (.sh,.bl (wiD d lo hi)):=by
 unfold ψ12
 refine wp_eq (wd_I rfl ?_)
 unfold b12
 walk_at "nm"
 have hb:wiD d lo hi = (isW d && wiD d lo hi):=by cases d <;> rfl
 rw [hb]
 refine ret_ev (.and (.fn (φ:=ψ0) rfl (args1 (we_var rfl rfl)) (whole_eq h)) fun e=>?_) rfl
 obtain ⟨j,rfl⟩:=isW_int e
 exact .one (ch_ev (we_var rfl rfl) (we_var rfl rfl) (we_var rfl rfl))
theorem lwhole_eq {d:D} {hi:Int} (h:fine d = true):ψ20 [d,.int hi] = some (.sh,.bl (wiD d 1 hi)):=by
 unfold ψ20
 refine wp_eq (wd_I rfl ?_)
 unfold b20
 walk_at "nm"
 have hs:=isi_all h
 have hb:wiD d 1 hi = ((isW d || blB d) && (!blB d && wiD d 1 hi)):=by cases d <;> rfl
 rw [hb]
 refine ret_ev (.and (ev_isi hs.i (we_var rfl rfl)) fun e=>.and (.not (ev_isi hs.b (we_var rfl rfl))) fun e2=>?_) rfl
 cases d with
 | int j=>exact .one (ch_ev (we_lit rfl) (we_var rfl rfl) (we_var rfl rfl))
 | bl _=>cases e2
 | _=>cases e
noncomputable def tupN (d:D) (k:Int):Bool:=match d with
 | .nd .tup ds=>decide ((ds.length:Int) = k)
 | _=>false
theorem tuple_eq {d:D} {k:Int} (h:fine d = true):ψ8 [d,.int k] = some (.sh,.bl (tupN d k)):=by
 unfold ψ8
 refine wp_eq (wd_I rfl ?_)
 unfold b8
 walk_at "nm"
 have hs:=isi_all h
 have hb:tupN d k = (tupB d && tupN d k):=by
  cases d with
  | nd hd ds=>cases hd <;> rfl
  | _=>rfl
 rw [hb]
 refine ret_ev (.and (ev_isi hs.t (we_var rfl rfl)) fun e=>.one ?_) rfl
 cases d with
 | nd hd ds=>cases hd with
  | tup=>
   refine we_cmp ((len_of (n:=ds.length) (we_var rfl rfl) rfl).mono fun x hx=>we_var rfl ?_)
   rw [hx]
   exact wc_eq rfl
  | _=>cases e
 | _=>cases e
noncomputable def sgnB (c:Nat):Bool:=!(Builtin.Str.occurrences ltr ⟨#[c]⟩ 0 ltr.length 1).isEmpty
noncomputable def nameD (d:D):Bool:=match d with
 | .str x=>(decide ((1:Int)<=x.length) && decide ((x.length:Int)<=8)) && (x.cps.toList.map sgnB).all id
 | _=>false
theorem fine_str {x:Str} (h:fine (.str x) = true):x.length<=100000:=of_decide_eq_true h
theorem signs_ev {Γ:Nat->Option Fn} {ρ:Ro} {a:IE} {cap:List (Option Nat)} {x:Str} (hc:capRo ρ cap = [none,none]\/capRo ρ cap = [none,none,none]) (ha:Wp (evI Γ a ρ) fun y=>y.2 = .str x) (hl:x.length<=8):Ev Γ (.blt "all" (.cons (.comp .fz cap (.nm 1) (.e a) .non (.cmp .In (.var 1) (.lit (.str ltr)))) .nil)) ρ ((x.cps.toList.map sgnB).all id):=by
 refine we_blt (ws_cons (we_comp (wi_e (ha.mono fun y hy=>?_))))
 obtain ⟨ky,dy⟩:=y
 cases (show dy = _ from hy)
 refine ⟨([],sgnD x),rfl,?_,?_⟩
 ·have:(sgnD x).length = x.length:=by unfold sgnD; rw [List.length_map]; exact Array.length_toList
  show (sgnD x).length<=100000
  omega
 ·show Wp (evMap .fz _ (sgnD x)) _
  refine wmap (fun j y=>∃ g,x.cps.toList[j]? = some g/\y = .bl (sgnB g)) (fun j d hd=>?_) fun ys hy hp=>?_
  ·unfold sgnD at hd
   rw [List.getElem?_map] at hd
   obtain ⟨g,hg,rfl⟩:=mapS hd
   rcases hc with hc | hc
   ·rw [hc]
    exact w_elt (ps:=[(1,.str ⟨#[g]⟩)]) rfl rfl rfl (we_cmp (we_var rfl (we_lit ⟨_,rfl,_,rfl,rfl,g,hg,rfl⟩)))
   ·rw [hc]
    exact w_elt (ps:=[(1,.str ⟨#[g]⟩)]) rfl rfl rfl (we_cmp (we_var rfl (we_lit ⟨_,rfl,_,rfl,rfl,g,hg,rfl⟩)))
  ·have hy':ys.length = x.cps.toList.length:=by rw [hy]; unfold sgnD; rw [List.length_map]
   rw [map_bl (l:=x.cps.toList) (f:=sgnB) hy' hp]
   exact ws_nil (wl_all rfl)
theorem name_of {Γ:GG} {cap:List (Option Nat)} {d:D} (hc:cap = [none,none]\/cap = [none,none,none]) (h:fine d = true):defI Γ 1000 1 1 (.cons (.ifs (.p (.bool .Or (.cons (.not (.isi "str" (.var 0))) (.cons (.not (.chain .LtE .LtE (.lit (.int 1)) (.blt "len" (.cons (.var 0) .nil)) (.lit (.int 8)))) .nil)))) (.cons (.ret (.p (.lit (.bl false)))) .nil) .nil) (.cons (.ret (.p (.blt "all" (.cons (.comp .fz cap (.nm 1) (.e (.var 0)) .non (.cmp .In (.var 1) (.lit (.str ltr)))) .nil)))) .nil)) [d] = some (.sh,.bl (nameD d)):=by
 refine wp_eq (wd_I rfl ?_)
 walk_at "nm"
 have hs:=isi_all h
 by_cases hd:∃ x,d = .str x
 ·obtain ⟨x,rfl⟩:=hd
  have hx:=fine_str h
  refine if_et (.or (.not (.ev rfl (ev_isi hs.s (we_var rfl rfl)))) fun e=>.one (.not (ch_et (we_lit rfl) (len_of (n:=x.length) (we_var rfl rfl) (if_pos hx)) (we_lit rfl)))) (fun e=>kt_fin ?_) fun e=>kt_go (ret_ev (signs_ev ?_ (we_var rfl rfl) ?_) ?_)
  ·have e:(!(decide ((1:Int)<=x.length) && decide ((x.length:Int)<=8))) = true:=e
   have:(decide ((1:Int)<=x.length) && decide ((x.length:Int)<=8)) = false:=by rwa [Bool.not_eq_true'] at e
   show (Kd.sh,D.bl false) = (Kd.sh,D.bl ((decide ((1:Int)<=x.length) && decide ((x.length:Int)<=8)) && (x.cps.toList.map sgnB).all id))
   rw [this]; rfl
  ·rcases hc with rfl | rfl
   ·exact .inl rfl
   ·exact .inr rfl
  ·have e:(!(decide ((1:Int)<=x.length) && decide ((x.length:Int)<=8))) = false:=e
   rw [Bool.not_eq_false',Bool.and_eq_true,decide_eq_true_eq,decide_eq_true_eq] at e
   omega
  ·have e:(!(decide ((1:Int)<=x.length) && decide ((x.length:Int)<=8))) = false:=e
   have:(decide ((1:Int)<=x.length) && decide ((x.length:Int)<=8)) = true:=by rwa [Bool.not_eq_false'] at e
   show _ = (Kd.sh,D.bl ((decide ((1:Int)<=x.length) && decide ((x.length:Int)<=8)) && (x.cps.toList.map sgnB).all id))
   rw [this]; rfl
 ·have hf:strB d = false/\nameD d = false:=by
   cases d with
   | str x=>exact absurd ⟨x,rfl⟩ hd
   | _=>exact ⟨rfl,rfl⟩
  refine if_et (z:=true) (.or (z:=true) (w:=true) ?_ fun e=>by cases e) (fun e=>kt_fin ?_) fun e=>by cases e
  ·have:=Et.not (Et.ev rfl (ev_isi (ρ:=[some ⟨false,.fz,d⟩]) (Γ:=Γ.fn) (a:=.var 0) hs.s (we_var rfl rfl)))
   rw [hf.1] at this
   exact this
  ·rw [hf.2]
theorem name_eq {d:D} (h:fine d = true):ψ11 [d] = some (.sh,.bl (nameD d)):=name_of (.inr rfl) h
theorem lname_eq {d:D} (h:fine d = true):ψ21 [d] = some (.sh,.bl (nameD d)):=name_of (.inl rfl) h
end K89
namespace K89
open PySem L2 J
noncomputable def chk (m t k:Nat):Bool:=match ψ6 [.int t,.int m,.int k],ψ18 [.int t,.int m,.int k] with
 | some (.sh,.bl a),some (.sh,.bl b)=>a == b
 | _,_=>false
noncomputable def chkR (m a n:Nat):Bool:=(List.range n).all fun t=>(List.range m).all fun k=>chk m (a + t) k
theorem hq1:chkR 1 0 4 = true:=by kernel_rfl
theorem hq2:chkR 2 0 16 = true:=by kernel_rfl
theorem h3a:chkR 3 0 64 = true:=by kernel_rfl
theorem h3b:chkR 3 64 64 = true:=by kernel_rfl
theorem h3c:chkR 3 128 64 = true:=by kernel_rfl
theorem h3d:chkR 3 192 64 = true:=by kernel_rfl
theorem chkR_at {m a n t k:Nat} (h:chkR m a n = true) (h1:a<=t) (h2:t < a + n) (hk:k < m):chk m t k = true:=by
 unfold chkR at h
 have:=List.all_eq_true.mp h (t - a) (List.mem_range.mpr (by omega))
 have:=List.all_eq_true.mp this k (List.mem_range.mpr hk)
 rw [show a + (t - a) = t by omega] at this
 exact this
noncomputable def hgB (t m k:Nat):Bool:=match ψ18 [.int t,.int m,.int k] with
 | some (_,.bl b)=>b
 | _=>false
theorem hang_eq {t m k:Nat} (hm:1<=m/\m<=3) (ht:t < 2 ^ 2 ^ m) (hk:k < m):ψ6 [.int t,.int m,.int k] = some (.sh,.bl (hgB t m k))/\ψ18 [.int t,.int m,.int k] = some (.sh,.bl (hgB t m k)):=by
 have key:chk m t k = true:=by
  have:m = 1\/m = 2\/m = 3:=by omega
  rcases this with rfl | rfl | rfl
  ·exact chkR_at hq1 (Nat.zero_le _) (by simpa using ht) hk
  ·exact chkR_at hq2 (Nat.zero_le _) (by simpa using ht) hk
  ·have ht:t < 256:=by simpa using ht
   by_cases q1:t < 64
   ·exact chkR_at h3a (Nat.zero_le _) (by omega) hk
   by_cases q2:t < 128
   ·exact chkR_at h3b (by omega) (by omega) hk
   by_cases q3:t < 192
   ·exact chkR_at h3c (by omega) (by omega) hk
   ·exact chkR_at h3d (by omega) (by omega) hk
 unfold chk at key
 split at key
 ·rename_i a b e1 e2
  have:a = b:=by simpa using key
  subst this
  have:hgB t m k = a:=by unfold hgB; rw [e2]
  rw [this]
  exact ⟨e1,e2⟩
 ·cases key
end K89
namespace K89
open PySem L2 J
theorem map_of {α:Type} {f:α->D} {l:List α} {ys:List D} (hl:ys.length = l.length) (h:∀ (i:Nat) y,ys[i]? = some y->∃ a,l[i]? = some a/\y = f a):ys = l.map f:=by
 refine List.ext_getElem? fun i=>?_
 rw [List.getElem?_map]
 cases e:ys[i]? with
 | none=>
  have:l[i]? = none:=List.getElem?_eq_none (by have:=List.getElem?_eq_none_iff.mp e; omega)
  rw [this]; rfl
 | some y=>
  obtain ⟨a,e1,rfl⟩:=h i y e
  rw [e1]; rfl
theorem all_rng {Γ:Nat->Option Fn} {ρ:Ro} {cap:List (Option Nat)} {e elt:IE} {m:Int} {f:Nat->Bool} (he:Wp (evI Γ e ρ) fun x=>x.2 = .int m) (hm:0<=m/\m<=1000) (hn:∀ d,noneAt [(1,d)] (capRo ρ cap) = true) (helt:∀ k:Nat,(k:Int) < m->Ev Γ elt (setAll [(1,.int k)] (capRo ρ cap)) (f k)):Ev Γ (.blt "all" (.cons (.comp .fz cap (.nm 1) (.rng (.lit (.int 0)) e) .non elt) .nil)) ρ (((List.range m.toNat).map f).all id):=by
 refine we_blt (ws_cons (we_comp (wi_rng (we_lit (he.mono fun y hy=>?_)))))
 obtain ⟨ky,dy⟩:=y
 cases (show dy = _ from hy)
 have hr:rangeOk 0 m = true:=by
  unfold rangeOk
  simp only [Bool.and_eq_true,decide_eq_true_eq]
  omega
 have hlen:(rngD 0 m).length = m.toNat:=by unfold rngD; rw [List.length_map,List.length_range,Int.sub_zero]
 refine wo_rng hr ⟨by show (rngD 0 m).length<=100000; omega,?_⟩
 show Wp (evMap .fz _ (rngD 0 m)) _
 refine wmap (fun j y=>∃ g,(List.range m.toNat)[j]? = some g/\y = .bl (f g)) (fun j d hd=>?_) fun ys hy hp=>?_
 ·obtain ⟨rfl,hj⟩:=rngD_get hd
  rw [Int.zero_add] at hj ⊢
  refine w_elt (ps:=[(1,.int j)]) rfl (hn _) rfl ((helt j hj).mono fun x hx=>?_)
  subst hx
  exact ⟨_,rfl,rfl,j,List.getElem?_range (by omega),rfl⟩
 ·have hy':ys.length = (List.range m.toNat).length:=by rw [hy,hlen,List.length_range]
  rw [map_bl (l:=List.range m.toNat) (f:=f) hy' hp]
  exact ws_nil (wl_all rfl)
theorem all_lst {Γ:Nat->Option Fn} {ρ:Ro} {cap:List (Option Nat)} {ds:List D} {i:Nat} {φ:Fn} {f:D->Bool} (h0:ρ[0]? = some (some ⟨false,.fz,.lst ds⟩)) (hl:ds.length<=100000) (hc:capRo ρ cap = [none,none,none]) (hΓ:Γ i = some φ) (hf:∀ d ∈ ds,φ [d] = some (.sh,.bl (f d))):Ev Γ (.blt "all" (.cons (.comp .fz cap (.nm 1) (.e (.var 0)) .non (.fn i (.cons (.var 1) .nil))) .nil)) ρ ((ds.map f).all id):=by
 refine we_blt (ws_cons (we_comp (wi_e (we_var h0 (wo_lst rfl ⟨hl,?_⟩)))))
 rw [hc]
 refine wmap (fun j y=>∃ g,ds[j]? = some g/\y = .bl (f g)) (fun j d hd=>?_) fun ys hy hp=>?_
 ·refine w_elt (ps:=[(1,d)]) rfl rfl rfl ?_
  exact we_fn hΓ (ws_cons (we_var rfl (ws_nil (wf_fn ⟨_,hf d (List.mem_of_getElem? hd),rfl,.inr rfl,_,rfl,rfl,d,hd,rfl⟩))))
 ·rw [map_bl (l:=ds) (f:=f) hy hp]
  exact ws_nil (wl_all rfl)
noncomputable def pw (m:Int):Int:=1 * 2 ^ ((1:Int) * 2 ^ m.toNat).toNat
theorem pw_nat {m:Int} (h:1<=m/\m<=3):pw m = ((2 ^ 2 ^ m.toNat:Nat):Int):=by
 have:m = 1\/m = 2\/m = 3:=by omega
 rcases this with rfl | rfl | rfl <;> decide
theorem pw_ev {Γ:Nat->Option Fn} {ρ:Ro} {a:IE} {m:Int} (h:1<=m/\m<=3) (ha:Wp (evI Γ a ρ) fun x=>x.2 = .int m):Wp (evI Γ (.bin .LShift (.lit (.int 1)) (.bin .LShift (.lit (.int 1)) a)) ρ) fun x=>x.2 = .int (pw m):=by
 refine we_bin (we_lit (we_bin (we_lit (ha.mono fun y hy=>?_))))
 obtain ⟨ky,dy⟩:=y
 cases (show dy = _ from hy)
 have:0<=(1:Int) * 2 ^ m.toNat/\(1:Int) * 2 ^ m.toNat<=8:=by
  have:m = 1\/m = 2\/m = 3:=by omega
  rcases this with rfl | rfl | rfl <;> decide
 exact wb_shl ⟨by omega,by omega,by decide⟩ (wb_shl ⟨by omega,by omega,by decide⟩ rfl)
noncomputable def tbD (d:D) (m:Int):Bool:=match d with
 | .int i=>decide (0<=i) && decide (i < pw m)
 | _=>false
theorem table_eq {d:D} {m:Int} (h:fine d = true) (hm:1<=m/\m<=3):ψ3 [d,.int m] = some (.sh,.bl (tbD d m)):=by
 unfold ψ3
 refine wp_eq (wd_I rfl ?_)
 unfold b3
 walk_at "nm"
 refine if_et (.or (.not (.ev rfl (.fn (φ:=ψ0) (ds:=[d]) rfl (args1 (we_var rfl rfl)) (whole_eq h)))) fun _=>.one (.not (.ev rfl (.fn (φ:=ψ0) (z:=true) rfl (args1 (we_var rfl rfl)) rfl)))) (fun e=>kt_fin ?_) fun e=>kt_go ?_
 ·have:isW d = false:=by simpa using e
  have:tbD d m = false:=by cases d <;> first | rfl | cases this
  rw [this]
 obtain ⟨i,rfl⟩:=isW_int (show isW d = true by simpa using e)
 refine if_et (z:=false) (.or (z:=false) (w:=false) (wt_cmp (we_var rfl (we_lit (wc_lt ?_)))) fun _=>.one (wt_cmp (we_var rfl (we_lit (wc_gt ?_))))) (fun e=>by cases e) fun e=>kt_go (ret_ev (cl_ev (we_lit rfl) (we_var rfl rfl) (pw_ev hm (we_var rfl rfl))) rfl)
 ·exact decide_eq_false (by omega)
 ·exact decide_eq_false (by omega)
noncomputable def hgAll (t m:Int):Bool:=((List.range m.toNat).map fun k=>hgB t.toNat m.toNat k).all id
noncomputable def tblD (t m:D):Bool:=match m with
 | .int i=>tbD t i && (match t with | .int j=>hgAll j i | _=>false)
 | _=>false
noncomputable def rowB (a m t c:D):Bool:=nameD a && ((wiD m 1 3 && wiD c 1 1000) && tblD t m)
noncomputable def rowD:D->Bool
 | .nd .tup [a,m,t,c]=>rowB a m t c
 | _=>false
theorem wiD_int {d:D} {lo hi:Int} (h:wiD d lo hi = true):∃ i,d = .int i/\lo<=i/\i<=hi:=by
 cases d with
 | int i=>
  have h:(decide (lo<=i) && decide (i<=hi)) = true:=h
  simp only [Bool.and_eq_true,decide_eq_true_eq] at h
  exact ⟨i,rfl,h.1,h.2⟩
 | _=>cases h
theorem tbD_int {d:D} {m:Int} (h:tbD d m = true):∃ i,d = .int i/\0<=i/\i < pw m:=by
 cases d with
 | int i=>
  have h:(decide (0<=i) && decide (i < pw m)) = true:=h
  simp only [Bool.and_eq_true,decide_eq_true_eq] at h
  exact ⟨i,rfl,h.1,h.2⟩
 | _=>cases h
noncomputable def Fi1 (d:D):Prop:=fine d = true/\∀ hd xs,d = .nd hd xs->∀ x ∈ xs,fine x = true
theorem not4 {d:D} (h:tupN d 4 = true):∃ a m t c,d = .nd .tup [a,m,t,c]:=by
 unfold tupN at h
 split at h
 ·rename_i ds
  have h:(ds.length:Int) = 4:=of_decide_eq_true h
  match ds,h with
  | [a,m,t,c],_=>exact ⟨a,m,t,c,rfl⟩
 ·cases h
theorem no4 {d:D} (h:tupN d 4 = false):rowD d = false:=by
 unfold rowD
 split
 ·exact absurd h (by show ¬ decide (((4:Nat):Int) = 4) = false; decide)
 ·rfl
theorem hang_of {t m:Int} {k:Nat} (hm:1<=m/\m<=3) (h0:0<=t) (h1:t < pw m) (hk:(k:Int) < m):ψ6 [.int t,.int m,.int k] = some (.sh,.bl (hgB t.toNat m.toNat k))/\ψ18 [.int t,.int m,.int k] = some (.sh,.bl (hgB t.toNat m.toNat k)):=by
 rw [pw_nat hm] at h1
 have:=hang_eq (t:=t.toNat) (m:=m.toNat) (k:=k) ⟨by omega,by omega⟩ (by omega) (by omega)
 rw [show ((t.toNat:Nat):Int) = t by omega,show ((m.toNat:Nat):Int) = m by omega] at this
 exact this
theorem gate_eq {d:D} (h:Fi1 d):ψ10 [d] = some (.sh,.bl (rowD d)):=by
 unfold ψ10
 refine wp_eq (wd_I rfl ?_)
 unfold b10
 walk_at "nm"
 cases ht:tupN d 4 with
 | false=>
  rw [no4 ht]
  refine if_et (z:=true) (.or (z:=true) (w:=true) ?_ fun e=>by cases e) (fun e=>kt_fin rfl) fun e=>by cases e
  have:=Et.not (Et.ev (a:=.fn 8 (.cons (.var 0) (.cons (.lit (.int 4)) .nil))) rfl (.fn (Γ:=Γ_12.fn) (ρ:=[some ⟨false,.fz,d⟩,none,none,none,none]) (φ:=ψ8) (ds:=[d,.int 4]) rfl (args2 (we_var rfl rfl) (we_lit rfl)) (tuple_eq h.1)))
  rw [ht] at this
  exact this
 | true=>
  obtain ⟨a,m,t,c,rfl⟩:=not4 ht
  have fa:=h.2 _ _ rfl a (by simp)
  have fm:=h.2 _ _ rfl m (by simp)
  have ft:=h.2 _ _ rfl t (by simp)
  have fc:=h.2 _ _ rfl c (by simp)
  show Wp _ fun r=>Wp (oDef (some r)) fun x=>x = (Kd.sh,D.bl (nameD a && ((wiD m 1 3 && wiD c 1 1000) && tblD t m)))
  refine if_et (.or (.not (.ev rfl (.fn (φ:=ψ8) (ds:=[.nd .tup [a,m,t,c],.int 4]) rfl (args2 (we_var rfl rfl) (we_lit rfl)) (tuple_eq h.1)))) fun _=>.one (.not (.ev rfl (.fn (φ:=ψ11) rfl (args1 (ix_tup (i:=0) (we_var rfl rfl) rfl)) (name_eq fa))))) (fun e=>kt_fin ?_) fun e=>kt_go ?_
  ·rw [ht] at e
   have:nameD a = false:=by simpa using e
   rw [this]; rfl
  ·rw [ht] at e
   have hna:nameD a = true:=by simpa using e
   rw [hna,Bool.true_and]
   refine w_unpT (wm_p (we_var rfl ⟨_,_,_,rfl,rfl,⟨rfl,rfl⟩,?_⟩))
   show Wp (exB _ _ _ _ [some ⟨false,.fz,.nd .tup [a,m,t,c]⟩,some ⟨false,.fz,a⟩,some ⟨false,.fz,m⟩,some ⟨false,.fz,t⟩,some ⟨false,.fz,c⟩]) _
   refine if_et (.or (.not (.ev rfl (.fn (φ:=ψ12) (ds:=[m,.int 1,.int 3]) rfl (args3 (we_var rfl rfl) (we_lit rfl) (we_lit rfl)) (from_eq fm)))) fun _=>.one (.not (.ev rfl (.fn (φ:=ψ12) (ds:=[c,.int 1,.int 1000]) rfl (args3 (we_var rfl rfl) (we_lit rfl) (we_lit rfl)) (from_eq fc))))) (fun e=>kt_fin ?_) fun e=>kt_go ?_
   ·have:(wiD m 1 3 && wiD c 1 1000) = false:=by
     cases h1:wiD m 1 3 <;> cases h2:wiD c 1 1000 <;> rw [h1,h2] at e <;> first | rfl | cases e
    rw [this]; rfl
   ·have:wiD m 1 3 = true/\wiD c 1 1000 = true:=by
     cases h1:wiD m 1 3 <;> cases h2:wiD c 1 1000 <;> rw [h1,h2] at e <;> first | exact ⟨rfl,rfl⟩ | cases e
    rw [this.1,this.2,Bool.true_and,Bool.true_and]
    obtain ⟨i,rfl,hi1,hi2⟩:=wiD_int this.1
    refine ret_ev (Ev.and (.fn (φ:=ψ3) (ds:=[t,.int i]) rfl (args2 (we_var rfl rfl) (we_var rfl rfl)) (table_eq ft ⟨hi1,hi2⟩)) fun e2=>.one ?_) rfl
    obtain ⟨j,rfl,hj1,hj2⟩:=tbD_int e2
    exact all_rng (f:=fun k=>hgB j.toNat i.toNat k) (we_var rfl rfl) ⟨by omega,by omega⟩ (fun _=>rfl) fun k hk=>.fn (φ:=ψ6) rfl (args3 (we_var rfl rfl) (we_var rfl rfl) (we_var rfl rfl)) (hang_of ⟨hi1,hi2⟩ hj1 hj2 hk).1
theorem lrow_eq {d:D} (h:Fi1 d):ψ22 [d] = some (.sh,.bl (rowD d)):=by
 unfold ψ22
 refine wp_eq (wd_I rfl ?_)
 unfold b22
 walk_at "nm"
 have hs:=isi_all h.1
 by_cases hx0:∃ xs,d = .nd .tup xs
 ·obtain ⟨xs,rfl⟩:=hx0
  by_cases hx:xs.length = 4
  ·match xs,hx with
   | [a,m,t,c],_=>
    have fa:=h.2 _ _ rfl a (by simp)
    have fm:=h.2 _ _ rfl m (by simp)
    have ft:=h.2 _ _ rfl t (by simp)
    have fc:=h.2 _ _ rfl c (by simp)
    show Wp _ fun r=>Wp (oDef (some r)) fun x=>x = (Kd.sh,D.bl (nameD a && ((wiD m 1 3 && wiD c 1 1000) && tblD t m)))
    refine if_et (.or (z:=false) (.not (z:=true) (.ev rfl (ev_isi hs.t (we_var rfl rfl)))) fun _=>.or (z:=false) (wt_cmp ((len_of (n:=4) (we_var rfl rfl) rfl).mono fun x hx=>we_lit (by rw [hx]; exact wc_ne rfl))) fun _=>.one (.not (.ev rfl (.fn (φ:=ψ21) rfl (args1 (ix_tup (i:=0) (we_var rfl rfl) rfl)) (lname_eq fa))))) (fun e=>kt_fin ?_) fun e=>kt_go ?_
    ·have:nameD a = false:=by simpa using e
     rw [this]; rfl
    ·have hna:nameD a = true:=by simpa using e
     rw [hna,Bool.true_and]
     refine if_et (.or (.not (.ev rfl (.fn (φ:=ψ20) rfl (args2 (ix_tup (i:=1) (we_var rfl rfl) rfl) (we_lit rfl)) (lwhole_eq fm)))) fun _=>.one (.not (.ev rfl (.fn (φ:=ψ20) rfl (args2 (ix_tup (i:=3) (we_var rfl rfl) rfl) (we_lit rfl)) (lwhole_eq fc))))) (fun e=>kt_fin ?_) fun e=>kt_go ?_
     ·have:(wiD m 1 3 && wiD c 1 1000) = false:=by
       cases h1:wiD m 1 3 <;> cases h2:wiD c 1 1000 <;> rw [h1,h2] at e <;> first | rfl | cases e
      rw [this]; rfl
     ·have:wiD m 1 3 = true/\wiD c 1 1000 = true:=by
       cases h1:wiD m 1 3 <;> cases h2:wiD c 1 1000 <;> rw [h1,h2] at e <;> first | exact ⟨rfl,rfl⟩ | cases e
      rw [this.1,this.2,Bool.true_and,Bool.true_and]
      obtain ⟨i,rfl,hi1,hi2⟩:=wiD_int this.1
      have hst:=isi_all ft
      by_cases hw:∃ j,t = .int j
      ·obtain ⟨j,rfl⟩:=hw
       refine if_et (.or (z:=false) (.not (z:=true) (.ev rfl (ev_isi hst.i (ix_tup (i:=2) (we_var rfl rfl) rfl)))) fun _=>.or (z:=false) (.ev rfl (ev_isi hst.b (ix_tup (i:=2) (we_var rfl rfl) rfl))) fun _=>.one (.not (cl_et (we_lit rfl) (ix_tup (i:=2) (we_var rfl rfl) rfl) (pw_ev ⟨hi1,hi2⟩ (ix_tup (i:=1) (we_var rfl rfl) rfl))))) (fun e=>kt_fin ?_) fun e=>kt_go ?_
       ·have:tbD (.int j) i = false:=by
         have e:(!(tbD (.int j) i)) = true:=e
         rwa [Bool.not_eq_true'] at e
        show (Kd.sh,D.bl false) = (Kd.sh,D.bl (tbD (.int j) i && hgAll j i))
        rw [this]; rfl
       ·have:tbD (.int j) i = true:=by
         have e:(!(tbD (.int j) i)) = false:=e
         rwa [Bool.not_eq_false'] at e
        obtain ⟨j',e1,hj1,hj2⟩:=tbD_int this
        cases e1
        show Wp _ fun r=>Wp (oDef (some r)) fun x=>x = (Kd.sh,D.bl (tbD (.int j) i && hgAll j i))
        rw [this,Bool.true_and]
        exact ret_ev (all_rng (f:=fun k=>hgB j.toNat i.toNat k) (ix_tup (i:=1) (we_var rfl rfl) rfl) ⟨by omega,by omega⟩ (fun _=>rfl) fun k hk=>.fn (φ:=ψ18) rfl (args3 (ix_tup (i:=2) (we_var rfl rfl) rfl) (ix_tup (i:=1) (we_var rfl rfl) rfl) (we_var rfl rfl)) (hang_of ⟨hi1,hi2⟩ hj1 hj2 hk).2) rfl
      ·have hz:tblD t (.int i) = false:=by
        cases t with
        | int j=>exact absurd ⟨j,rfl⟩ hw
        | _=>rfl
       rw [hz]
       have hW:isW t = false:=by
        cases t with
        | int j=>exact absurd ⟨j,rfl⟩ hw
        | _=>rfl
       refine if_et (z:=true) ?_ (fun e=>kt_fin rfl) fun e=>by cases e
       cases hb:blB t with
       | true=>
        exact .or (z:=false) (w:=true) (.not (z:=true) (.ev rfl (ev_isi (by rw [hst.i,hb,Bool.or_true]) (ix_tup (i:=2) (we_var rfl rfl) rfl)))) fun _=>.or (z:=true) (w:=true) (.ev rfl (ev_isi (by rw [hst.b,hb]) (ix_tup (i:=2) (we_var rfl rfl) rfl))) fun e=>by cases e
       | false=>
        exact .or (z:=true) (w:=true) (.not (z:=false) (.ev rfl (ev_isi (by rw [hst.i,hb,hW]; rfl) (ix_tup (i:=2) (we_var rfl rfl) rfl)))) fun e=>by cases e
  ·have:rowD (.nd .tup xs) = false:=no4 (decide_eq_false (by omega))
   rw [this]
   refine if_et (z:=true) (.or (z:=false) (w:=true) (.not (z:=true) (.ev rfl (ev_isi hs.t (we_var rfl rfl)))) fun _=>.or (z:=true) (w:=true) (wt_cmp ((len_of (n:=xs.length) (we_var rfl rfl) rfl).mono fun x hx=>we_lit ?_)) fun e=>by cases e) (fun e=>kt_fin rfl) fun e=>by cases e
   rw [hx]
   refine wc_ne ?_
   rw [decide_eq_false (by omega)]; rfl
 ·have hf:tupB d = false/\rowD d = false:=by
   cases d with
   | nd hd xs=>cases hd with
    | tup=>exact absurd ⟨xs,rfl⟩ hx0
    | _=>exact ⟨rfl,rfl⟩
   | _=>exact ⟨rfl,rfl⟩
  rw [hf.2]
  refine if_et (z:=true) (.or (z:=true) (w:=true) (.not (z:=false) (.ev rfl (ev_isi (d:=d) (by rw [hs.t,hf.1]) (we_var rfl rfl)))) fun e=>by cases e) (fun e=>kt_fin rfl) fun e=>by cases e
end K89
namespace K89
open PySem L2 J
noncomputable abbrev R:=Str × Int × Int × Int
noncomputable def toR:D->R
 | .nd .tup [.str x,.int m,.int t,.int c]=>(x,m,t,c)
 | _=>("",0,0,0)
noncomputable def rD (r:R):D:=.nd .tup [.str r.1,.int r.2.1,.int r.2.2.1,.int r.2.2.2]
theorem row_shape {d:D} (h:rowD d = true):d = rD (toR d):=by
 unfold rowD at h
 split at h
 ·rename_i a m t c
  unfold rowB at h
  simp only [Bool.and_eq_true] at h
  obtain ⟨h1,⟨h2,h3⟩,h4⟩:=h
  obtain ⟨i,rfl,_⟩:=wiD_int h2
  obtain ⟨j,rfl,_⟩:=wiD_int h3
  unfold tblD at h4
  simp only [Bool.and_eq_true] at h4
  obtain ⟨l,rfl,_⟩:=tbD_int h4.1
  cases a with
  | str x=>rfl
  | _=>cases h1
 ·cases h
noncomputable def kinds (rs:List R):List D:=rs.map fun r=>.nd .tup [.int r.2.1,.int r.2.2.1]
noncomputable def kB (a b:Int) (rs:List R):Bool:=(kinds rs).any fun z=>eqD z (.nd .tup [.int a,.int b])
noncomputable def shB (rs:List R):Bool:=decide ((G.cntK (rs.map fun r=>Sum.inr r.1):Int) = rs.length) && (kB 1 1 rs && kB 2 8 rs)
noncomputable def shelfD:D->Bool
 | .nd .lst ds=>(decide ((2:Int)<=ds.length) && decide ((ds.length:Int)<=20)) && ((ds.map rowD).all id && shB (ds.map toR))
 | _=>false
noncomputable def Fi2 (d:D):Prop:=fine d = true/\∀ hd xs,d = .nd hd xs->∀ x ∈ xs,Fi1 x
theorem rows_of {ds:List D} (h:(ds.map rowD).all id = true):ds = (ds.map toR).map rD:=by
 rw [List.map_map]
 conv=>lhs; rw [<- List.map_id ds]
 refine List.map_congr_left fun d hd=>?_
 have:=List.all_eq_true.mp h (rowD d) (List.mem_map.mpr ⟨d,hd,rfl⟩)
 exact row_shape this
section
variable {Γ:Nat->Option Fn} {ρ:Ro} {cap:List (Option Nat)} {rs:List R} {Q:KD->Prop}
theorem comp_rs {tg:IT} {elt:IE} {f:R->D} {n:Nat} (h0:ρ[0]? = some (some ⟨false,.fz,.lst (rs.map rD)⟩)) (hl:rs.length<=1000) (he:∀ r:R,Wp (eltI tg (evITs Γ .non) (evI Γ elt) (capRo ρ cap) (rD r)) fun o=>∃ kd,o = some kd/\fit1 .fz kd = true/\kd.2 = f r) (q:Q (.fr k0,.lst (rs.map f))):Wp (evI Γ (.comp .fz cap tg (.e (.var 0)) .non elt) ρ) Q:=by
 refine we_comp (wi_e (we_var h0 (wo_lst rfl ⟨by rw [List.length_map]; omega,?_⟩)))
 refine wmap (fun j y=>∃ r,rs[j]? = some r/\y = f r) (fun j d hd=>?_) fun ys hy hp=>?_
 ·rw [List.getElem?_map] at hd
  obtain ⟨r,hr,rfl⟩:=mapS hd
  exact (he r).mono fun o ⟨kd,e1,e2,e3⟩=>⟨kd,e1,e2,r,hr,e3⟩
 ·rw [map_of (l:=rs) (f:=f) (by rw [hy,List.length_map]) hp]
  exact q
theorem keys_rs:∀ rs:List R,toKeys (rs.map fun r=>D.str r.1) = some (rs.map fun r=>Sum.inr r.1)
 | []=>rfl
 | r :: rs=>by
  show (match toKey (.str r.1),toKeys (rs.map fun r=>D.str r.1) with | some k,some ks=>some (k :: ks) | _,_=>none) = _
  rw [keys_rs rs]; rfl
theorem set_at {i:Nat} {k:Ow} (hi:ρ[i]? = some (some ⟨false,k,.lst (rs.map fun r=>D.str r.1)⟩)) (hl:rs.length<=1000) (q:Q (.sh,.int (G.cntK (rs.map fun r=>Sum.inr r.1)))):Wp (evI Γ (.lset (.var i)) ρ) Q:=by
 refine we_lset (we_var hi ⟨_,?_,q⟩)
 show (match toKeys (rs.map fun r=>D.str r.1) with | some ks=>if ks.length<=4000 then some (Kd.sh,D.int (G.cntK ks)) else none | none=>none) = _
 rw [keys_rs]
 exact if_pos (by rw [List.length_map]; omega)
theorem in_at {es:IEs} {e:IE} {a b:Int} (hes:Wp (evI Γ e ρ) fun x=>x.2 = .lst (kinds rs)) (q:Q (.sh,.bl (kB a b rs))):Wp (evI Γ (.cmp .In (.tup .fz (.cons (.lit (.int a)) (.cons (.lit (.int b)) .nil))) e) ρ) Q:=by
 refine we_cmp (we_tup (ws_cons (we_lit (ws_cons (we_lit (ws_nil ⟨(.sh,.nd .tup [.int a,.int b]),rfl,hes.mono fun x hx=>?_⟩))))))
 rw [hx]
 refine ⟨_,if_pos ⟨rfl,pokL_of fun d hd=>?_⟩,q⟩
 obtain ⟨r,_,rfl⟩:=List.mem_map.mp hd
 rfl
end
theorem shelf_eq {d:D} (h:Fi2 d):ψ9 [d] = some (.sh,.bl (shelfD d)):=by
 unfold ψ9
 refine wp_eq (wd_I rfl ?_)
 unfold b9
 walk_at "nm"
 have hs:=isi_all h.1
 by_cases hx0:∃ ds,d = .nd .lst ds
 ·obtain ⟨ds,rfl⟩:=hx0
  show Wp _ fun r=>Wp (oDef (some r)) fun x=>x = (Kd.sh,D.bl ((decide ((2:Int)<=ds.length) && decide ((ds.length:Int)<=20)) && ((ds.map rowD).all id && shB (ds.map toR))))
  refine if_et (.or (z:=false) (.not (z:=true) (.ev rfl (ev_isi hs.l (we_var rfl rfl)))) fun _=>.one (.not (ch_et (we_lit rfl) (len_of (n:=ds.length) (we_var rfl rfl) rfl) (we_lit rfl)))) (fun e=>kt_fin ?_) fun e=>kt_go ?_
  ·have e:(!(decide ((2:Int)<=ds.length) && decide ((ds.length:Int)<=20))) = true:=e
   rw [Bool.not_eq_true'] at e
   rw [e]; rfl
  ·have e:(!(decide ((2:Int)<=ds.length) && decide ((ds.length:Int)<=20))) = false:=e
   rw [Bool.not_eq_false'] at e
   have hl:ds.length<=20:=by
    simp only [Bool.and_eq_true,decide_eq_true_eq] at e
    omega
   rw [e,Bool.true_and]
   refine if_et (.not (.ev rfl (all_lst (f:=rowD) rfl (by omega) rfl (φ:=ψ10) rfl fun x hx=>gate_eq (h.2 _ _ rfl x hx)))) (fun e=>kt_fin ?_) fun e=>kt_go ?_
   ·rw [Bool.not_eq_true'] at e
    rw [e]; rfl
   ·rw [Bool.not_eq_false'] at e
    rw [e,Bool.true_and]
    have hr:=rows_of e
    have hrl:(ds.map toR).length = ds.length:=List.length_map _
    generalize ds.map toR = rs at hr hrl
    subst hr
    rw [List.length_map] at hl
    refine w_asg (wm_p (comp_rs (n:=1) (f:=fun r=>D.str r.1) rfl (by omega) (fun r=>w_elt (ps:=[(1,.str r.1),(2,.int r.2.1),(3,.int r.2.2.1),(4,.int r.2.2.2)]) rfl rfl rfl (we_var rfl ⟨_,rfl,rfl,rfl⟩)) ⟨⟨rfl,by decide⟩,?_⟩))
    show Wp (exB _ _ _ _ [some ⟨false,.fz,.lst (rs.map rD)⟩,some ⟨false,k0,.lst (rs.map fun r=>D.str r.1)⟩,none]) _
    refine w_asg (wm_p (comp_rs (n:=1) (f:=fun r=>.nd .tup [.int r.2.1,.int r.2.2.1]) rfl (by omega) (fun r=>w_elt (ps:=[(1,.str r.1),(2,.int r.2.1),(3,.int r.2.2.1),(4,.int r.2.2.2)]) rfl rfl rfl (we_tup (ws_cons (we_var rfl (ws_cons (we_var rfl (ws_nil ⟨(.sh,.nd .tup [.int r.2.1,.int r.2.2.1]),rfl,_,rfl,rfl,rfl⟩))))))) ⟨⟨rfl,by decide⟩,?_⟩))
    show Wp (exB _ _ _ _ [some ⟨false,.fz,.lst (rs.map rD)⟩,some ⟨false,k0,.lst (rs.map fun r=>D.str r.1)⟩,some ⟨false,k0,.lst (kinds rs)⟩]) _
    refine ret_ev (.and (we_cmp (set_at rfl (by omega) ((len_of (n:=rs.length) (d:=.lst (rs.map fun r=>D.str r.1)) (we_var rfl rfl) (congrArg some (List.length_map _))).mono fun x hx=>?_))) fun _=>.and (in_at (es:=.nil) (we_var rfl rfl) rfl) fun _=>.one (in_at (es:=.nil) (we_var rfl rfl) rfl)) rfl
    rw [hx]
    exact wc_eq rfl
 ·have hf:lstB d = false/\shelfD d = false:=by
   cases d with
   | nd hd xs=>cases hd with
    | lst=>exact absurd ⟨xs,rfl⟩ hx0
    | _=>exact ⟨rfl,rfl⟩
   | _=>exact ⟨rfl,rfl⟩
  rw [hf.2]
  exact if_et (z:=true) (.or (z:=true) (w:=true) (.not (z:=false) (.ev rfl (ev_isi (d:=d) (by rw [hs.l,hf.1]) (we_var rfl rfl)))) fun e=>by cases e) (fun e=>kt_fin rfl) fun e=>by cases e
theorem lshelf_eq {d:D} (h:Fi2 d):ψ23 [d] = some (.sh,.bl (shelfD d)):=by
 unfold ψ23
 refine wp_eq (wd_I rfl ?_)
 unfold b23
 walk_at "nm"
 have hs:=isi_all h.1
 by_cases hx0:∃ ds,d = .nd .lst ds
 ·obtain ⟨ds,rfl⟩:=hx0
  show Wp _ fun r=>Wp (oDef (some r)) fun x=>x = (Kd.sh,D.bl ((decide ((2:Int)<=ds.length) && decide ((ds.length:Int)<=20)) && ((ds.map rowD).all id && shB (ds.map toR))))
  refine if_et (.or (z:=false) (.not (z:=true) (.ev rfl (ev_isi hs.l (we_var rfl rfl)))) fun _=>.or (.not (ch_et (we_lit rfl) (len_of (n:=ds.length) (we_var rfl rfl) rfl) (we_lit rfl))) fun e=>.one (.not (.ev rfl (all_lst (f:=rowD) rfl ?_ rfl (φ:=ψ22) rfl fun x hx=>lrow_eq (h.2 _ _ rfl x hx))))) (fun e=>kt_fin ?_) fun e=>kt_go ?_
  ·rw [Bool.not_eq_false'] at e
   simp only [Bool.and_eq_true,decide_eq_true_eq] at e
   omega
  ·have e:((!(decide ((2:Int)<=ds.length) && decide ((ds.length:Int)<=20))) || !((ds.map rowD).all id)) = true:=e
   rw [<- Bool.not_and,Bool.not_eq_true'] at e
   rw [<- Bool.and_assoc,e]; rfl
  ·have e:((!(decide ((2:Int)<=ds.length) && decide ((ds.length:Int)<=20))) || !((ds.map rowD).all id)) = false:=e
   rw [<- Bool.not_and,Bool.not_eq_false',Bool.and_eq_true] at e
   obtain ⟨e,e2⟩:=e
   have hl:ds.length<=20:=by
    simp only [Bool.and_eq_true,decide_eq_true_eq] at e
    omega
   rw [e,e2,Bool.true_and,Bool.true_and]
   have hr:=rows_of e2
   have hrl:(ds.map toR).length = ds.length:=List.length_map _
   generalize ds.map toR = rs at hr hrl
   subst hr
   rw [List.length_map] at hl
   refine w_asg (wm_p (comp_rs (n:=1) (f:=fun r=>D.str r.1) rfl (by omega) (fun r=>w_elt (ps:=[(1,rD r)]) rfl rfl rfl (we_ix (we_var rfl (we_lit ⟨(.sh,.str r.1),rfl,_,rfl,rfl,rfl⟩)))) ⟨⟨rfl,by decide⟩,?_⟩))
   show Wp (exB _ _ _ _ [some ⟨false,.fz,.lst (rs.map rD)⟩,some ⟨false,k0,.lst (rs.map fun r=>D.str r.1)⟩]) _
   refine if_et (wt_cmp (set_at rfl (by omega) ((len_of (n:=rs.length) (d:=.lst (rs.map fun r=>D.str r.1)) (we_var rfl rfl) (congrArg some (List.length_map _))).mono fun x hx=>?_))) (z:=!decide ((G.cntK (rs.map fun r=>Sum.inr r.1):Int) = rs.length)) (fun e=>kt_fin ?_) fun e=>kt_go ?_
   ·rw [hx]
    exact wc_ne rfl
   ·rw [Bool.not_eq_true'] at e
    unfold shB
    rw [e]; rfl
   ·rw [Bool.not_eq_false'] at e
    unfold shB
    rw [e,Bool.true_and]
    have kk:∀ {Γ:Nat->Option Fn} {x:Option Sl},Wp (evI Γ (.comp .fz [none,none] (.nm 1) (.e (.var 0)) .non (.sl (.var 1) (.som (.lit (.int 1))) (.som (.lit (.int 3))))) [some ⟨false,.fz,.lst (rs.map rD)⟩,x]) fun x=>x.2 = .lst (kinds rs):=fun {Γ x}=>
     comp_rs (n:=1) (f:=fun r=>.nd .tup [.int r.2.1,.int r.2.2.1]) rfl (by omega) (fun r=>w_elt (ps:=[(1,rD r)]) rfl rfl rfl (we_sl (we_var rfl (wo_som (we_lit ⟨_,rfl,wo_som (we_lit ⟨_,rfl,⟨(.sh,.nd .tup [.int r.2.1,.int r.2.2.1]),rfl,_,rfl,rfl,rfl⟩⟩)⟩))))) rfl
    exact ret_ev (.and (in_at (es:=.nil) kk rfl) fun _=>.one (in_at (es:=.nil) kk rfl)) rfl
 ·have hf:lstB d = false/\shelfD d = false:=by
   cases d with
   | nd hd xs=>cases hd with
    | lst=>exact absurd ⟨xs,rfl⟩ hx0
    | _=>exact ⟨rfl,rfl⟩
   | _=>exact ⟨rfl,rfl⟩
  rw [hf.2]
  exact if_et (z:=true) (.or (z:=true) (w:=true) (.not (z:=false) (.ev rfl (ev_isi (d:=d) (by rw [hs.l,hf.1]) (we_var rfl rfl)))) fun e=>by cases e) (fun e=>kt_fin rfl) fun e=>by cases e
end K89
namespace K89
open PySem L2 J
noncomputable def St (cs:List D) (T:Nat) (d:D):Prop:=∃ n t:Int,d = .lst [.int n,.lst cs,.int t]/\0<=n/\n < 10 ^ 130/\0<=t/\t<=T
theorem Et.and {Γ:Nat->Option Fn} {ρ:Ro} {a b:IE} {r:IEs} {z w:Bool} (ha:Et Γ a ρ z) (hb:z = true->Et Γ (.bool .And (.cons b r)) ρ w):Et Γ (.bool .And (.cons a (.cons b r))) ρ (z && w):=by
 refine wt_boolC (ha.mono fun x hx=>?_)
 subst hx
 refine ⟨fun e=>(hb (Eq.symm e)).mono fun y hy=>?_,fun e=>?_⟩
 ·rw [hy,show x = true from Eq.symm e]; rfl
 ·have:x = false:=by cases x with | false=>rfl | true=>exact absurd rfl e
  rw [this]; rfl
noncomputable def S0 (n:Int) (cs:List D) (t:Int):D:=.lst [.int n,.lst cs,.int t]
theorem load_ok {ns:List Int} {T:Nat} {d:D} {Q:Kd × D × List (Option KV2)->Prop} (h:St (ns.map .int) T d) (hT:T<=100000) (q:∀ d',St (ns.map .int) (T + 1) d'->Q (.sh,.non,[some (k0,d')])):Wp (ψ14 [(k0,d)]) Q:=by
 obtain ⟨n,t,rfl,hn0,hn1,ht0,ht1⟩:=h
 have tail:∀ x:Int,Wp (exB Γ_13 1000 (match b14 with | .cons _ (.cons _ (.cons _ (.cons _ (.cons _ r))))=>r | r=>r) [0] [some ⟨false,k0,S0 n (ns.map .int) (t + 1)⟩,some ⟨false,.fz,D.lst (ns.map .int)⟩,some ⟨false,.fz,.int t⟩,some ⟨false,.fz,.int x⟩,none]) fun r=>Wp (oDefM 1 [0] (some r)) Q:=by
  intro x
  unfold b14
  have ht:t * t<=100000 * 100000:=Int.mul_le_mul (by omega) (by omega) ht0 (by omega)
  have ht2:0<=t * t:=Int.mul_nonneg ht0 ht0
  refine if_et (Et.and (z:=decide (t < (ns.length:Int))) (wt_cmp (we_var rfl ((len_of (n:=ns.length) (d:=.lst (ns.map .int)) (we_var rfl rfl) (congrArg some (List.length_map _))).mono fun y hy=>?_))) fun _=>.one (wt_cmp (we_var rfl (we_bin (we_lit (we_lit (wb_pow (by decide) (wc_ge rfl)))))))) (fun h=>?_) (fun h=>?_)
  ·obtain ⟨ky,dy⟩:=y
   cases (show dy = _ from hy)
   exact wc_lt rfl
  ·refine w_put (wm_p (we_bin (we_var rfl (we_bin (we_bin (we_lit (we_lit (wb_pow (by decide) (we_bin (we_lit (we_lit (wb_pow (by decide) (wb_mul ⟨by decide,by decide⟩ (wb_mod (by decide) (wr_P rfl (we_lit (put_of rfl rfl rfl (wr_put rfl ?_))))))))))))))))))
   refine w_nil (kt_nx (w_nil (om_nx (q _ ⟨x % ((10:Int) ^ 60 * 10 ^ 60),t + 1,rfl,?_,?_,by omega,by omega⟩))))
   ·exact Int.emod_nonneg _ (by decide)
   ·exact Int.lt_trans (Int.emod_lt_of_pos _ (by decide)) (by decide)
  ·have e30:(10:Int) ^ 30 = 1000000000000000000000000000000:=by decide
   have hx0:=Int.emod_nonneg x (show (10:Int) ^ 30 ≠ 0 by decide)
   have hx1:=Int.emod_lt_of_pos x (show (0:Int) < 10 ^ 30 by decide)
   refine w_asg (wm_p (we_bin (we_bin (we_bin (we_var rfl (we_bin (we_lit (we_lit (wb_pow (by decide) (wb_mod (by decide) (we_bin (we_bin (we_var rfl (we_var rfl (wb_mul ⟨lim_of (by omega) (by omega),lim_of (by omega) (by omega)⟩ (we_lit (wb_mul ⟨lim_of (by omega) (by omega),by decide⟩ (wb_add (we_lit (wb_add ⟨⟨rfl,by decide⟩,?_⟩))))))))))))))))))))
   generalize hw:x % (10:Int) ^ ((30:Int).toNat) + t * t * 7919 + 11 = w
   have hx0':0<=x % (10:Int) ^ ((30:Int).toNat):=hx0
   have hx1':x % (10:Int) ^ ((30:Int).toNat) < 10 ^ 30:=hx1
   have hw0:0<=w/\w < 10 ^ 40:=by omega
   show Wp (exB _ _ _ _ [some ⟨false,k0,S0 n (ns.map .int) (t + 1)⟩,some ⟨false,.fz,D.lst (ns.map .int)⟩,some ⟨false,.fz,.int t⟩,some ⟨false,.fz,.int x⟩,some ⟨false,.fz,.int w⟩]) _
   refine w_asg (wm_p (we_bin (we_bin (we_var rfl (we_lit (wb_mul ⟨lim_of (by omega) (by omega),by decide⟩ (we_bin (we_bin (we_lit (we_lit (wb_pow (by decide) (we_lit (wb_add (wb_mod (by decide) ⟨⟨rfl,by decide⟩,?_⟩))))))))))))))
   generalize hv:w * 618970019642690137449562111 % ((10:Int) ^ ((30:Int).toNat) + 57) = v
   have hv0:0<=v:=by rw [<- hv]; exact Int.emod_nonneg _ (by decide)
   have hv1:v < 10 ^ 31:=by rw [<- hv]; exact Int.lt_trans (Int.emod_lt_of_pos _ (by decide)) (by decide)
   show Wp (exB _ _ _ _ [some ⟨false,k0,S0 n (ns.map .int) (t + 1)⟩,some ⟨false,.fz,D.lst (ns.map .int)⟩,some ⟨false,.fz,.int t⟩,some ⟨false,.fz,.int x⟩,some ⟨false,.fz,.int v⟩]) _
   refine w_put (wm_p (we_bin (we_bin (we_bin (we_var rfl (we_var rfl (wb_mul ⟨lim_of (by omega) (by omega),lim_of (by omega) (by omega)⟩ (we_bin (we_bin (we_lit (we_lit (wb_pow (by decide) (we_lit (wb_add (wb_mod (by decide) (we_bin (we_lit (we_lit (wb_pow (by decide) (wb_add (wr_P rfl (we_lit (put_of rfl rfl rfl (wr_put rfl ?_))))))))))))))))))))))))
   have h1:=Int.emod_nonneg (v * v) (show (10:Int) ^ ((31:Int).toNat) + 33 ≠ 0 by decide)
   have h2:=Int.emod_lt_of_pos (v * v) (show (0:Int) < 10 ^ ((31:Int).toNat) + 33 by decide)
   refine w_nil (kt_nx (w_nil (om_nx (q _ ⟨_,t + 1,rfl,Int.add_nonneg h1 (by decide),Int.lt_trans (Int.add_lt_add_right h2 _) (by decide),by omega,by omega⟩))))
 unfold ψ14
 refine wd_M rfl ?_
 unfold b14 at tail ⊢
 walk_at "nm"
 refine w_asg (wm_p (we_ix (we_var rfl (we_lit ⟨(.sh,.lst (ns.map .int)),rfl,⟨rfl,by decide⟩,?_⟩))))
 refine w_asg (wm_p (we_ix (we_var rfl (we_lit ⟨(.sh,.int t),rfl,⟨rfl,by decide⟩,?_⟩))))
 refine w_put (wm_p (we_bin (we_var rfl (we_lit (wb_add (wr_P rfl (we_lit (put_of rfl rfl rfl (wr_put rfl ?_)))))))))
 refine w_asg (wm_p (we_lit ⟨⟨rfl,by decide⟩,?_⟩))
 show Wp (exB _ _ _ _ [some ⟨false,k0,S0 n (ns.map .int) (t + 1)⟩,some ⟨false,.fz,D.lst (ns.map .int)⟩,some ⟨false,.fz,.int t⟩,some ⟨false,.fz,.int 0⟩,none]) _
 have hlen:lenD (.lst (ns.map .int)) = some ns.length:=congrArg some (List.length_map _)
 refine if_et (z:=decide ((0:Int) < ns.length)) (wt_cmp ((len_of (n:=ns.length) (d:=.lst (ns.map .int)) (we_var rfl rfl) hlen).mono fun y hy=>we_lit ?_)) (fun h=>?_) fun h=>kt_go (tail 0)
 ·obtain ⟨ky,dy⟩:=y
  cases (show dy = _ from hy)
  exact wc_gt rfl
 ·have h:(0:Int) < ns.length:=of_decide_eq_true h
  have h0:=Int.emod_nonneg t (Int.ne_of_gt h)
  have h1:=Int.emod_lt_of_pos t h
  have hl:(t % (ns.length:Int)).toNat < ns.length:=by omega
  refine w_asg (wm_p (we_ix (we_var rfl (we_bin (we_var rfl ((len_of (n:=ns.length) (d:=.lst (ns.map .int)) (we_var rfl rfl) hlen).mono fun y hy=>?_))))))
  obtain ⟨ky,dy⟩:=y
  cases (show dy = _ from hy)
  refine wb_mod h (wx_lst (n:=(t % (ns.length:Int)).toNat) (ixN_nat h0 (by rw [List.length_map]; exact h1)) (by rw [List.getElem?_map,List.getElem?_eq_getElem hl]; rfl) ⟨⟨rfl,by decide⟩,w_nil (kt_nx (tail _))⟩)
theorem next_ok {ns:List Int} {T:Nat} {d:D} {m:Int} {Q:Kd × D × List (Option KV2)->Prop} (h:St (ns.map .int) T d) (hT:T<=100000) (hm:0 < m) (hm2:m < 10 ^ 130) (q:∀ r d',0<=r->r < m->St (ns.map .int) (T + 1) d'->Q (.sh,.int r,[some (k0,d'),none])):Wp (ψ15 [(k0,d),(.fz,.int m)]) Q:=by
 have tail:∀ d,St (ns.map .int) (T + 1) d->Wp (exB Γ_14 1000 (match b15 with | .cons _ r=>r | r=>r) [0] [some ⟨false,k0,d⟩,some ⟨false,.fz,.int m⟩,none]) fun r=>Wp (oDefM 2 [0] (some r)) Q:=by
  intro d h
  obtain ⟨n,t,rfl,hn0,hn1,ht0,ht1⟩:=h
  unfold b15
  refine w_asg (wm_p (we_ix (we_var rfl (we_lit ⟨(.sh,.int n),rfl,⟨rfl,by decide⟩,?_⟩))))
  refine w_put (wm_p (we_bin (we_var rfl (we_var rfl (wb_fdiv ⟨hm,lim_of (by omega) hm2⟩ (wr_P rfl (we_lit (put_of rfl rfl rfl (wr_put rfl ?_)))))))))
  refine w_ret (wm_p (we_bin (we_var rfl (we_var rfl (wb_mod hm ⟨rfl,om_rt rfl ?_⟩)))))
  exact q _ _ (Int.emod_nonneg _ (Int.ne_of_gt hm)) (Int.emod_lt_of_pos _ hm) ⟨_,_,rfl,Int.ediv_nonneg hn0 (by omega),Int.lt_of_le_of_lt (Int.ediv_le_self _ hn0) hn1,ht0,ht1⟩
 obtain ⟨n,t,rfl,hn0,hn1,ht0,ht1⟩:=h
 unfold ψ15
 refine wd_M rfl ?_
 unfold b15 at tail ⊢
 walk_at "nm"
 refine if_et (z:=decide (n < m)) (wt_cmp (we_ix (we_var rfl (we_lit ⟨(.sh,.int n),rfl,we_var rfl (wc_lt rfl)⟩)))) (fun h=>?_) fun h=>kt_go (tail _ ⟨n,t,rfl,hn0,hn1,ht0,by omega⟩)
 refine w_exp (wm_io (φ:=ψ14) rfl (wa_ref (i:=0) rfl (wa_nil ⟨by simp [refs],_,rfl,load_ok ⟨n,t,rfl,hn0,hn1,ht0,ht1⟩ hT fun d' hd=>⟨rfl,rfl,w_nil (kt_nx (tail _ hd))⟩⟩)))
theorem size_ok {ns:List Int} {T:Nat} {d:D} {f m:Int} {Q:Kd × D × List (Option KV2)->Prop} (h:St (ns.map .int) T d) (hT:T + 1<=100000) (hf:0<=f) (hf2:f<=m) (hm2:m < 10000) (q:∀ r d',0<=r->r<=m->St (ns.map .int) (T + 2) d'->Q (.sh,.int r,[some (k0,d'),none,none])):Wp (ψ16 [(k0,d),(.fz,.int f),(.fz,.int m)]) Q:=by
 unfold ψ16
 refine wd_M rfl ?_
 unfold b16
 walk_at "nm"
 with_reducible refine w_ifs ?_
 refine wmt_cmp (wl_fin (wm_io (φ:=ψ15) rfl (wa_ref (i:=0) rfl (wa_val (wm_p (we_lit ⟨rfl,wa_nil ⟨by simp [refs],_,rfl,next_ok h (by omega) (by decide) (by decide) fun r1 d1 hr0 hr1 h1=>⟨rfl,rfl,ws_cons (we_lit (ws_nil ⟨_,_,rfl,wc_eq ⟨fun e=>?_,fun e=>kt_go ?_⟩⟩))⟩⟩⟩))))))
 ·refine w_ret (wm_io (φ:=ψ15) rfl (wa_ref (i:=0) rfl (wa_val (wm_p (we_bin (we_var rfl (we_lit (wb_add ⟨rfl,wa_nil ⟨by simp [refs],_,rfl,next_ok (T:=T + 1) h1 (by omega) (by omega) (by omega) fun r2 d2 hr20 hr21 h2=>⟨rfl,rfl,⟨rfl,kt_rt (om_rt rfl (q _ _ hr20 (by omega) h2))⟩⟩⟩⟩))))))))
 ·refine w_ret (wm_io (φ:=ψ15) rfl (wa_ref (i:=0) rfl (wa_val (wm_p (we_bin (we_var rfl (we_lit (wb_add ⟨rfl,wa_nil ⟨by simp [refs],_,rfl,next_ok (T:=T + 1) h1 (by omega) (by omega) (by omega) fun r2 d2 hr20 hr21 h2=>⟨rfl,rfl,⟨rfl,om_rt rfl (q _ _ hr20 (by omega) h2)⟩⟩⟩⟩))))))))
theorem draw {Γ:GG} {ρ ρ':Ro} {ns:List Int} {T:Nat} {d:D} {m:Int} {e:IE} {Q:Kd × D × Ro->Prop} (hΓ:Γ.fm 15 = some ψ15) (hρ:ρ = some ⟨false,k0,d⟩ :: ρ') (he:Wp (evI Γ.fn e ρ) fun x=>x = (.sh,.int m)) (h:St (ns.map .int) T d) (hT:T<=100000) (hm:0 < m) (hm2:m < 10 ^ 100) (q:∀ r d',0<=r->r < m->St (ns.map .int) (T + 1) d'->Q (.sh,.int r,some ⟨false,k0,d'⟩ :: ρ')):Wp (evM Γ (.io 15 (.ref 0 (.val (.p e) .nil))) ρ) Q:=by
 subst hρ
 refine wm_io hΓ (wa_ref (i:=0) rfl (wa_val (wm_p (he.mono fun x hx=>?_))))
 subst hx
 refine ⟨rfl,wa_nil ⟨by simp [refs],_,rfl,next_ok h hT hm (by omega) fun r d' h0 h1 hs=>⟨rfl,rfl,?_⟩⟩⟩
 exact q r d' h0 h1 hs
end K89
namespace K89
open PySem L2 J
theorem repS_list (c:Nat):∀ n:Nat,(G.repS ⟨#[c]⟩ n).cps.toList = List.replicate n c:=by
 have key:∀ (n:Nat) (a:Array Nat),((List.replicate n (#[c]:Array Nat)).foldl (· ++ ·) a).toList = a.toList ++ List.replicate n c:=by
  intro n
  induction n with
  | zero=>intro a; simp
  | succ n ih=>
   intro a
   rw [List.replicate_succ,List.foldl_cons,ih]
   simp [List.replicate_succ]
 intro n
 have:=key n #[]
 simpa [G.repS] using this
noncomputable def lt_ (i:Int):Nat:=97 + (i % 26).toNat
noncomputable def nmL (s k:Int):List Nat:=
 if s % 3 = 0 then List.replicate (1 + (s + 3 * k) % 8).toNat (lt_ (s / 64 + k / 8))
 else List.replicate (s / 8 % (1 + s % 8)).toNat (lt_ (s / 64)) ++ [lt_ (s / 1664 + k)] ++ List.replicate (1 + s % 8 - 1 - s / 8 % (1 + s % 8)).toNat (lt_ (s / 64))
noncomputable def nmS (s k:Int):Str:=⟨(nmL s k).toArray⟩
theorem ltr_at:∀ j:Nat,j < 26->chr1 ltr (j:Int) = some ⟨#[97 + j]⟩:=by decide +kernel
theorem ltr_ix {Γ:Nat->Option Fn} {ρ:Ro} {a e:IE} {i:Int} {Q:KD->Prop} (ha:Wp (evI Γ a ρ) fun x=>x.2 = .str ltr) (he:Wp (evI Γ e ρ) fun x=>x.2 = .int (i % 26)) (q:Q (.sh,.str ⟨#[lt_ i]⟩)):Wp (evI Γ (.ix a e) ρ) Q:=by
 refine we_ix (ha.mono fun x hx=>he.mono fun y hy=>?_)
 obtain ⟨kx,dx⟩:=x
 obtain ⟨ky,dy⟩:=y
 cases (show dx = _ from hx)
 cases (show dy = _ from hy)
 refine ⟨_,?_,q⟩
 show (if ltr.length<=100000 then (chr1 ltr (i % 26)).map fun d=>(Kd.sh,D.str d) else none) = _
 rw [if_pos (by decide)]
 have:=ltr_at (i % 26).toNat (by omega)
 rw [show (((i % 26).toNat:Nat):Int) = i % 26 by omega] at this
 rw [this]
 rfl
theorem str_of {a b:Str} (h:a.cps.toList = b.cps.toList):a = b:=by
 obtain ⟨a⟩:=a
 obtain ⟨b⟩:=b
 have:a = b:=Array.toList_inj.mp h
 rw [this]
theorem app_list (a b:Str):(a ++ b).cps.toList = a.cps.toList ++ b.cps.toList:=Array.toList_append
theorem mul_ev {Γ:Nat->Option Fn} {ρ:Ro} {a e:IE} {c:Nat} {n:Int} {Q:KD->Prop} (ha:Wp (evI Γ a ρ) fun x=>x.2 = .str ⟨#[c]⟩) (he:Wp (evI Γ e ρ) fun x=>x.2 = .int n) (h0:0<=n) (h1:n<=1000) (q:Q (.sh,.str (G.repS ⟨#[c]⟩ n.toNat))):Wp (evI Γ (.bin .Mult a e) ρ) Q:=by
 refine we_bin (ha.mono fun x hx=>he.mono fun y hy=>?_)
 obtain ⟨kx,dx⟩:=x
 obtain ⟨ky,dy⟩:=y
 cases (show dx = _ from hx)
 cases (show dy = _ from hy)
 exact ⟨_,if_pos ⟨by omega,h0,by show 1<=100; decide⟩,q⟩
theorem add_ev {Γ:Nat->Option Fn} {ρ:Ro} {a e:IE} {x y:Str} {Q:KD->Prop} (ha:Wp (evI Γ a ρ) fun z=>z.2 = .str x) (he:Wp (evI Γ e ρ) fun z=>z.2 = .str y) (h1:x.length + y.length<=1000) (q:Q (.sh,.str (x ++ y))):Wp (evI Γ (.bin .Add a e) ρ) Q:=by
 refine we_bin (ha.mono fun u hu=>he.mono fun v hv=>?_)
 obtain ⟨kx,dx⟩:=u
 obtain ⟨ky,dy⟩:=v
 cases (show dx = _ from hu)
 cases (show dy = _ from hv)
 exact ⟨_,if_pos (by omega),q⟩
theorem len_list (x:Str):x.length = x.cps.toList.length:=(Array.length_toList).symm
theorem name_ok {s k:Int} {Q:KD->Prop} (hs:0<=s) (hs2:s < 43264) (hk:0<=k) (hk2:k < 1000) (q:Q (.sh,.str (nmS s k))):Wp (ψ17 [.int s,.int k]) Q:=by
 unfold ψ17
 refine wd_I rfl ?_
 unfold b17
 walk_at "nm"
 refine w_asg (wm_p (we_lit ⟨⟨rfl,by decide⟩,?_⟩))
 show Wp (exB _ _ _ _ [some ⟨false,.fz,.int s⟩,some ⟨false,.fz,.int k⟩,some ⟨false,.fz,.str ltr⟩,none,none,none,none]) _
 refine if_et (wt_cmp (we_bin (we_var rfl (we_lit (wb_mod (by decide) (we_lit (wc_eq rfl))))))) (fun e=>?_) fun e=>kt_go ?_
 ·have e:s % 3 = 0:=of_decide_eq_true e
  refine w_ret (wm_p (mul_ev (c:=lt_ (s / 64 + k / 8)) (n:=1 + (s + 3 * k) % 8) (ltr_ix (i:=s / 64 + k / 8) (we_var rfl rfl) (we_bin (we_bin (we_bin (we_var rfl (we_lit (wb_fdiv ⟨by decide,by decide⟩ (we_bin (we_var rfl (we_lit (wb_fdiv ⟨by decide,by decide⟩ (wb_add (we_lit (wb_mod (by decide) rfl))))))))))))) rfl) (we_bin (we_lit (we_bin (we_bin (we_var rfl (we_bin (we_lit (we_var rfl (wb_mul ⟨by decide,lim_of (by omega) (by omega)⟩ (wb_add (we_lit (wb_mod (by decide) (wb_add rfl)))))))))))) ) (by omega) (by omega) ⟨rfl,kt_rt (od_rt rfl ?_)⟩))
  have:G.repS ⟨#[lt_ (s / 64 + k / 8)]⟩ (1 + (s + 3 * k) % 8).toNat = nmS s k:=str_of (by rw [repS_list]; unfold nmS nmL; rw [if_pos e])
  rw [this]
  exact q
 ·have e:¬ s % 3 = 0:=of_decide_eq_false e
  refine w_asg (wm_p (we_bin (we_lit (we_bin (we_var rfl (we_lit (wb_mod (by decide) (wb_add ⟨⟨rfl,by decide⟩,?_⟩))))))))
  show Wp (exB _ _ _ _ [some ⟨false,.fz,.int s⟩,some ⟨false,.fz,.int k⟩,some ⟨false,.fz,.str ltr⟩,some ⟨false,.fz,.int (1 + s % 8)⟩,none,none,none]) _
  refine w_asg (wm_p (we_bin (we_bin (we_var rfl (we_lit (wb_fdiv ⟨by decide,by decide⟩ (we_var rfl (wb_mod (by omega) ⟨⟨rfl,by decide⟩,?_⟩))))))))
  have hp:0<=s / 8 % (1 + s % 8)/\s / 8 % (1 + s % 8) < 1 + s % 8:=⟨Int.emod_nonneg _ (by omega),Int.emod_lt_of_pos _ (by omega)⟩
  show Wp (exB _ _ _ _ [some ⟨false,.fz,.int s⟩,some ⟨false,.fz,.int k⟩,some ⟨false,.fz,.str ltr⟩,some ⟨false,.fz,.int (1 + s % 8)⟩,some ⟨false,.fz,.int (s / 8 % (1 + s % 8))⟩,none,none]) _
  refine w_asg (wm_p (ltr_ix (i:=s / 64) (we_var rfl rfl) (we_bin (we_bin (we_var rfl (we_lit (wb_fdiv ⟨by decide,by decide⟩ (we_lit (wb_mod (by decide) rfl))))))) ⟨⟨rfl,by decide⟩,?_⟩))
  show Wp (exB _ _ _ _ [some ⟨false,.fz,.int s⟩,some ⟨false,.fz,.int k⟩,some ⟨false,.fz,.str ltr⟩,some ⟨false,.fz,.int (1 + s % 8)⟩,some ⟨false,.fz,.int (s / 8 % (1 + s % 8))⟩,some ⟨false,.fz,.str ⟨#[lt_ (s / 64)]⟩⟩,none]) _
  refine w_asg (wm_p (ltr_ix (i:=s / 1664 + k) (we_var rfl rfl) (we_bin (we_bin (we_bin (we_var rfl (we_lit (wb_fdiv ⟨by decide,by decide⟩ (we_var rfl (wb_add (we_lit (wb_mod (by decide) rfl))))))))))  ⟨⟨rfl,by decide⟩,?_⟩))
  show Wp (exB _ _ _ _ [some ⟨false,.fz,.int s⟩,some ⟨false,.fz,.int k⟩,some ⟨false,.fz,.str ltr⟩,some ⟨false,.fz,.int (1 + s % 8)⟩,some ⟨false,.fz,.int (s / 8 % (1 + s % 8))⟩,some ⟨false,.fz,.str ⟨#[lt_ (s / 64)]⟩⟩,some ⟨false,.fz,.str ⟨#[lt_ (s / 1664 + k)]⟩⟩]) _
  generalize hpp:s / 8 % (1 + s % 8) = p at hp ⊢
  have l1:∀ n:Nat,n<=8->(G.repS ⟨#[lt_ (s / 64)]⟩ n).length<=8:=fun n hn=>by rw [len_list,repS_list,List.length_replicate]; exact hn
  have l2:=l1 p.toNat (by omega)
  have l3:=l1 (1 + s % 8 - 1 - p).toNat (by omega)
  have l4:(⟨#[lt_ (s / 1664 + k)]⟩:Str).length = 1:=rfl
  have l5:(G.repS ⟨#[lt_ (s / 64)]⟩ p.toNat ++ ⟨#[lt_ (s / 1664 + k)]⟩:Str).length<=9:=by
   rw [len_list] at l2 l4
   rw [len_list,app_list,List.length_append]
   omega
  refine w_ret (wm_p (add_ev (x:=G.repS ⟨#[lt_ (s / 64)]⟩ p.toNat ++ ⟨#[lt_ (s / 1664 + k)]⟩) (y:=G.repS ⟨#[lt_ (s / 64)]⟩ (1 + s % 8 - 1 - p).toNat) (add_ev (x:=G.repS ⟨#[lt_ (s / 64)]⟩ p.toNat) (mul_ev (we_var rfl rfl) (we_var rfl rfl) hp.1 (by omega) rfl) (we_var rfl rfl) (by omega) rfl) (mul_ev (we_var rfl rfl) (we_bin (we_bin (we_var rfl (we_lit (wb_sub (we_var rfl (wb_sub rfl))))))) (by omega) (by omega) rfl) (by omega) ⟨rfl,od_rt rfl ?_⟩))
  have:(G.repS ⟨#[lt_ (s / 64)]⟩ p.toNat ++ ⟨#[lt_ (s / 1664 + k)]⟩:Str) ++ G.repS ⟨#[lt_ (s / 64)]⟩ (1 + s % 8 - 1 - p).toNat = nmS s k:=str_of (by
   rw [app_list,app_list,repS_list,repS_list]
   unfold nmS nmL
   rw [if_neg e,hpp])
  rw [this]
  exact q
theorem sgn_all:∀ j:Nat,j < 26->sgnB (97 + j) = true:=by decide +kernel
theorem sgn_lt (i:Int):sgnB (lt_ i) = true:=sgn_all _ (by omega)
theorem nmS_list (s k:Int):(nmS s k).cps.toList = nmL s k:=rfl
theorem nmL_len {s k:Int} (hs:0<=s):1<=(nmL s k).length/\(nmL s k).length<=8:=by
 unfold nmL
 split
 ·rw [List.length_replicate]; omega
 ·have hp:0<=s / 8 % (1 + s % 8)/\s / 8 % (1 + s % 8) < 1 + s % 8:=⟨Int.emod_nonneg _ (by omega),Int.emod_lt_of_pos _ (by omega)⟩
  generalize s / 8 % (1 + s % 8) = p at hp ⊢
  rw [List.length_append,List.length_append,List.length_replicate,List.length_replicate]
  simp only [List.length_cons,List.length_nil]
  omega
theorem nameD_nm {s k:Int} (hs:0<=s):nameD (.str (nmS s k)) = true:=by
 have hl:=nmL_len (k:=k) hs
 have h8:(nmS s k).length = (nmL s k).length:=len_list _
 show ((decide ((1:Int)<=(nmS s k).length) && decide (((nmS s k).length:Int)<=8)) && ((nmS s k).cps.toList.map sgnB).all id) = true
 rw [h8,decide_eq_true (by omega),decide_eq_true (by omega),nmS_list]
 show ((nmL s k).map sgnB).all id = true
 rw [List.all_eq_true]
 intro b hb
 obtain ⟨c,hc,rfl⟩:=List.mem_map.mp hb
 have:∃ i,c = lt_ i:=by
  unfold nmL at hc
  split at hc
  ·exact ⟨_,(List.mem_replicate.mp hc).2⟩
  ·rcases List.mem_append.mp hc with hc | hc
   ·rcases List.mem_append.mp hc with hc | hc
    ·exact ⟨_,(List.mem_replicate.mp hc).2⟩
    ·exact ⟨_,List.mem_singleton.mp hc⟩
   ·exact ⟨_,(List.mem_replicate.mp hc).2⟩
 obtain ⟨i,rfl⟩:=this
 exact sgn_lt i
theorem nm_inj {s k l:Int} (hs:0<=s) (hk:0<=k/\k < 20) (hl:0<=l/\l < 20) (h:nmS s k = nmS s l):k = l:=by
 have h:nmL s k = nmL s l:=by rw [<- nmS_list,<- nmS_list,h]
 unfold nmL at h
 split at h
 ·have e1:=congrArg List.length h
  rw [List.length_replicate,List.length_replicate] at e1
  have e2:lt_ (s / 64 + k / 8) = lt_ (s / 64 + l / 8):=by
   have:=congrArg (fun x=>x.head?) h
   have n1:(1 + (s + 3 * k) % 8).toNat = (1 + (s + 3 * k) % 8).toNat - 1 + 1:=by omega
   have n2:(1 + (s + 3 * l) % 8).toNat = (1 + (s + 3 * l) % 8).toNat - 1 + 1:=by omega
   rw [n1,n2,List.replicate_succ,List.replicate_succ] at this
   simpa using this
  unfold lt_ at e2
  have hd:k / 8 = l / 8:=by
   have a1:0<=k / 8/\k / 8<=2:=by omega
   have a2:0<=l / 8/\l / 8<=2:=by omega
   generalize k / 8 = x at e2 a1
   generalize l / 8 = y at e2 a2
   generalize s / 64 = u at e2
   omega
  have hm:(s + 3 * k) % 8 = (s + 3 * l) % 8:=by omega
  clear e1 e2 h
  omega
 ·have e2:lt_ (s / 1664 + k) = lt_ (s / 1664 + l):=by
   rw [List.append_assoc,List.append_assoc] at h
   have:=List.append_cancel_left h
   simpa using this
  unfold lt_ at e2
  omega
end K89
namespace K89
open PySem L2 J
structure RowOk (s:Int) (k:Nat) (r:R):Prop where
 nam:r.1 = nmS s k
 m:1<=r.2.1/\r.2.1<=3
 t:0<=r.2.2.1/\r.2.2.1 < pw r.2.1
 h:hgAll r.2.2.1 r.2.1 = true
 c:1<=r.2.2.2/\r.2.2.2<=1000
 z:k = 0->r.2.1 = 1/\r.2.2.1 = 1
 o:k = 1->r.2.1 = 2/\r.2.2.1 = 8
theorem hg1:hgAll 1 1 = true:=by kernel_rfl
theorem hg8:hgAll 8 2 = true:=by kernel_rfl
theorem hg14:hgAll 14 2 = true:=by kernel_rfl
theorem hg216:hgAll 216 3 = true:=by kernel_rfl
theorem pick2 {Γ:Nat->Option Fn} {ρ:Ro} {e:IE} {a b:Int} {k:Int} {Q:KD->Prop} (he:Wp (evI Γ e ρ) fun x=>x.2 = .int (k % 2)) (q:Q (.sh,.int (if k % 2 = 0 then a else b))):Wp (evI Γ (.ix (.tup .fz (.cons (.lit (.int a)) (.cons (.lit (.int b)) .nil))) e) ρ) Q:=by
 refine we_ix (we_tup (ws_cons (we_lit (ws_cons (we_lit (ws_nil ⟨(.sh,.nd .tup [.int a,.int b]),rfl,he.mono fun x hx=>?_⟩))))))
 obtain ⟨kx,dx⟩:=x
 cases (show dx = _ from hx)
 have:k % 2 = 0\/k % 2 = 1:=by omega
 rcases this with e | e
 ·rw [e] at q ⊢
  exact ⟨_,rfl,q⟩
 ·rw [e] at q ⊢
  exact ⟨_,rfl,q⟩
theorem pw_ev2 {Γ:Nat->Option Fn} {ρ:Ro} {a:IE} {m:Int} (h:1<=m/\m<=3) (ha:Wp (evI Γ a ρ) fun x=>x.2 = .int m):Wp (evI Γ (.bin .LShift (.lit (.int 1)) (.bin .LShift (.lit (.int 1)) a)) ρ) fun x=>x = (.sh,.int (pw m)):=by
 refine we_bin (we_lit (we_bin (we_lit (ha.mono fun y hy=>?_))))
 obtain ⟨ky,dy⟩:=y
 cases (show dy = _ from hy)
 have:0<=(1:Int) * 2 ^ m.toNat/\(1:Int) * 2 ^ m.toNat<=8:=by
  have:m = 1\/m = 2\/m = 3:=by omega
  rcases this with rfl | rfl | rfl <;> decide
 exact wb_shl ⟨by omega,by omega,by decide⟩ (wb_shl ⟨by omega,by omega,by decide⟩ rfl)
noncomputable def B1:ISs:=match b19 with | .cons _ (.cons _ (.cons (.fo _ _ _ b) _))=>b | r=>r
theorem tail_ok {ns:List Int} {T:Nat} {d:D} {s m t:Int} {i:Nat} {rs:List R} {Q:Res->Prop} (h:St (ns.map .int) T d) (hT:T<=1000) (hs:0<=s/\s < 43264) (hi:i < 20) (hrs:rs.length<=20) (hm:1<=m/\m<=3) (ht:0<=t/\t < pw m) (hz:i = 0->m = 1/\t = 1) (ho:i = 1->m = 2/\t = 8)
  (q:∀ d' r,St (ns.map .int) (T + 3) d'->RowOk s i r->∀ x5 x6 x7,Q (.nx [some ⟨false,k0,d'⟩,some ⟨false,.fz,.int 20⟩,some ⟨false,.fz,.int s⟩,some ⟨false,k0,.lst ((rs ++ [r]).map rD)⟩,some ⟨false,.fz,.int i⟩,x5,x6,x7,none,none])) :
  Wp (exB Γ_18 1000 (match B1 with | .cons _ (.cons _ (.cons _ r))=>r | r=>r) [0] [some ⟨false,k0,d⟩,some ⟨false,.fz,.int 20⟩,some ⟨false,.fz,.int s⟩,some ⟨false,k0,.lst (rs.map rD)⟩,some ⟨false,.fz,.int i⟩,some ⟨false,.fz,.int m⟩,some ⟨false,.fz,.int t⟩,none,none,none]) Q:=by
 have rest:∀ {t:Int},(0<=t/\t < pw m)->hgAll t m = true->(i = 0->m = 1/\t = 1)->(i = 1->m = 2/\t = 8)->Wp (exB Γ_18 1000 (match B1 with | .cons _ (.cons _ (.cons _ (.cons _ r)))=>r | r=>r) [0] [some ⟨false,k0,d⟩,some ⟨false,.fz,.int 20⟩,some ⟨false,.fz,.int s⟩,some ⟨false,k0,.lst (rs.map rD)⟩,some ⟨false,.fz,.int i⟩,some ⟨false,.fz,.int m⟩,some ⟨false,.fz,.int t⟩,none,none,none]) Q:=by
  intro t ht hg hz ho
  unfold B1 b19
  dsimp only
  refine w_asg (wm_bin (wl_cons (wm_p (we_lit ⟨rfl,wl_fin ?_⟩))))
  refine wm_ix (wl_cons (wm_tup (wl_cons (draw (m:=6) rfl rfl (we_lit rfl) h (by omega) (by decide) (by decide) fun r1 d1 a0 a1 h1=>⟨rfl,wl_fin (draw (m:=1000) rfl rfl (we_lit rfl) h1 (by omega) (by decide) (by decide) fun r2 d2 b0 b1 h2=>ws_nil ⟨(.sh,.nd .tup [.int r1,.int r2]),rfl,⟨rfl,?_⟩⟩)⟩))))
  refine wl_fin (wm_bin (wl_fin (draw (m:=3) rfl rfl (we_lit rfl) h2 (by omega) (by decide) (by decide) fun r3 d3 c0 c1 h3=>ws_cons (we_lit (ws_nil ⟨_,_,rfl,wb_fdiv ⟨by decide,by decide⟩ (ws_nil ⟨_,_,rfl,?_⟩)⟩)))))
  have hc:∃ c,(c = r1\/c = r2)/\oIx (some (Kd.sh,.nd .tup [.int r1,.int r2])) (some (Kd.sh,.int (r3 / 2))) = some (.sh,.int c):=by
   have:r3 / 2 = 0\/r3 / 2 = 1:=by omega
   rcases this with e | e
   ·rw [e]; exact ⟨r1,.inl rfl,rfl⟩
   ·rw [e]; exact ⟨r2,.inr rfl,rfl⟩
  obtain ⟨c,hc,ec⟩:=hc
  refine ⟨_,ec,ws_nil ⟨_,_,rfl,wb_add ⟨⟨rfl,by decide⟩,?_⟩⟩⟩
  show Wp (exB _ _ _ _ [some ⟨false,k0,d3⟩,some ⟨false,.fz,.int 20⟩,some ⟨false,.fz,.int s⟩,some ⟨false,k0,.lst (rs.map rD)⟩,some ⟨false,.fz,.int i⟩,some ⟨false,.fz,.int m⟩,some ⟨false,.fz,.int t⟩,some ⟨false,.fz,.int (1 + c)⟩,none,none]) _
  refine w_exp (wm_appP (we_tup (ws_cons (we_fn (φ:=ψ17) rfl (ws_cons (we_var rfl (ws_cons (we_var rfl (ws_nil (wf_fn (name_ok hs.1 hs.2 (by omega) (by omega) ⟨rfl,.inl rfl,?_⟩)))))))))))
  refine ws_cons (we_var rfl (ws_cons (we_var rfl (ws_cons (we_var rfl (ws_nil ⟨(.sh,.nd .tup [.str (nmS s i),.int m,.int t,.int (1 + c)]),rfl,_,_,_,rfl,⟨by simp,rfl,by rw [List.length_map]; omega⟩,?_⟩))))))
  show Wp (exB _ _ .nil _ [some ⟨false,k0,d3⟩,some ⟨false,.fz,.int 20⟩,some ⟨false,.fz,.int s⟩,some ⟨false,k0,.lst (rs.map rD ++ [rD (nmS s i,m,t,1 + c)])⟩,some ⟨false,.fz,.int i⟩,some ⟨false,.fz,.int m⟩,some ⟨false,.fz,.int t⟩,some ⟨false,.fz,.int (1 + c)⟩,none,none]) _
  refine w_nil ?_
  have:=q d3 (nmS s i,m,t,1 + c) h3 ⟨rfl,hm,ht,hg,by dsimp only; omega,hz,ho⟩ (some ⟨false,.fz,.int m⟩) (some ⟨false,.fz,.int t⟩) (some ⟨false,.fz,.int (1 + c)⟩)
  rw [List.map_append] at this
  exact this
 unfold B1 b19
 dsimp only
 refine if_et (.not (.ev rfl (all_rng (m:=m) (f:=fun k=>hgB t.toNat m.toNat k) (we_var rfl rfl) ⟨by omega,by omega⟩ (fun _=>rfl) fun k hk=>.fn (φ:=ψ18) (ds:=[.int t,.int m,.int k]) rfl (args3 (we_var rfl rfl) (we_var rfl rfl) (we_var rfl rfl)) (hang_of hm ht.1 ht.2 hk).2))) (fun e=>?_) fun e=>kt_go ?_
 ·have hno:hgAll t m = false:=by rwa [Bool.not_eq_true'] at e
  have hi2:i ≠ 0/\i ≠ 1:=by
   refine ⟨fun e=>?_,fun e=>?_⟩
   ·obtain ⟨rfl,rfl⟩:=hz e; rw [hg1] at hno; cases hno
   ·obtain ⟨rfl,rfl⟩:=ho e; rw [hg8] at hno; cases hno
  have hv:∃ v,oIx (some (Kd.sh,.nd .tup [.int 1,.int 14,.int 216])) (some (Kd.sh,.int (m - 1))) = some (.sh,.int v)/\(0<=v/\v < pw m)/\hgAll v m = true:=by
   have:m = 1\/m = 2\/m = 3:=by omega
   rcases this with rfl | rfl | rfl
   ·exact ⟨1,rfl,by decide,hg1⟩
   ·exact ⟨14,rfl,by decide,hg14⟩
   ·exact ⟨216,rfl,by decide,hg216⟩
  obtain ⟨v,ev,hv1,hv2⟩:=hv
  refine w_asg (wm_p (we_ix (we_tup (ws_cons (we_lit (ws_cons (we_lit (ws_cons (we_lit (ws_nil ⟨(.sh,.nd .tup [.int 1,.int 14,.int 216]),rfl,we_bin (we_var rfl (we_lit (wb_sub ⟨_,ev,⟨rfl,by decide⟩,?_⟩)))⟩))))))))))
  exact w_nil (kt_nx (rest hv1 hv2 (fun e=>absurd e hi2.1) fun e=>absurd e hi2.2))
 ·have hno:hgAll t m = true:=by rwa [Bool.not_eq_false'] at e
  exact rest ht hno hz ho
theorem body_ok {ns:List Int} {T:Nat} {d:D} {s:Int} {i:Nat} {rs:List R} {Q:Res->Prop} (h:St (ns.map .int) T d) (hT:T<=900) (hs:0<=s/\s < 43264) (hi:i < 20) (hrs:rs.length<=20)
  (q:∀ d' r,St (ns.map .int) (T + 5) d'->RowOk s i r->∀ x5 x6 x7,Q (.nx [some ⟨false,k0,d'⟩,some ⟨false,.fz,.int 20⟩,some ⟨false,.fz,.int s⟩,some ⟨false,k0,.lst ((rs ++ [r]).map rD)⟩,some ⟨false,.fz,.int i⟩,x5,x6,x7,none,none])) :
  Wp (exB Γ_18 1000 B1 [0] [some ⟨false,k0,d⟩,some ⟨false,.fz,.int 20⟩,some ⟨false,.fz,.int s⟩,some ⟨false,k0,.lst (rs.map rD)⟩,some ⟨false,.fz,.int i⟩,none,none,none,none,none]) Q:=by
 have up:∀ {T':Nat} {d':D},St (ns.map .int) T' d'->T'<=T + 5->St (ns.map .int) (T + 5) d':=fun ⟨n,t,e,a,b,c,f⟩ g=>⟨n,t,e,a,b,c,by omega⟩
 have tl:=@tail_ok ns
 unfold B1 b19 at tl ⊢
 dsimp only at tl ⊢
 refine w_asg (wm_p (pick2 (k:=i) (we_bin (we_var rfl (we_lit (wb_mod (by decide) rfl)))) ⟨⟨rfl,by decide⟩,?_⟩))
 refine w_asg (wm_p (pick2 (k:=i) (we_bin (we_var rfl (we_lit (wb_mod (by decide) rfl)))) ⟨⟨rfl,by decide⟩,?_⟩))
 refine if_et (wt_cmp (we_var rfl (we_lit (wc_gt rfl)))) (fun e=>?_) fun e=>kt_go ?_
 ·have e:(1:Int) < i:=of_decide_eq_true e
  refine w_asg (wm_ix (wl_cons (wm_p (we_tup (ws_cons (we_lit (ws_cons (we_lit (ws_cons (we_lit (ws_cons (we_lit (ws_cons (we_lit (ws_cons (we_lit (ws_nil ⟨(.sh,.nd .tup [.int 1,.int 2,.int 2,.int 3,.int 3,.int 3]),rfl,rfl,?_⟩)))))))))))))))))
  refine wl_fin (draw (m:=6) rfl rfl (we_lit rfl) h (by omega) (by decide) (by decide) fun r1 d1 a0 a1 h1=>ws_nil ⟨_,_,rfl,?_⟩)
  have hm:∃ m,oIx (some (Kd.sh,.nd .tup [.int 1,.int 2,.int 2,.int 3,.int 3,.int 3])) (some (Kd.sh,.int r1)) = some (.sh,.int m)/\1<=m/\m<=3:=by
   have:r1 = 0\/r1 = 1\/r1 = 2\/r1 = 3\/r1 = 4\/r1 = 5:=by omega
   rcases this with rfl | rfl | rfl | rfl | rfl | rfl
   ·exact ⟨1,rfl,by decide⟩
   ·exact ⟨2,rfl,by decide⟩
   ·exact ⟨2,rfl,by decide⟩
   ·exact ⟨3,rfl,by decide⟩
   ·exact ⟨3,rfl,by decide⟩
   ·exact ⟨3,rfl,by decide⟩
  obtain ⟨m,em,hm⟩:=hm
  refine ⟨_,em,⟨rfl,by decide⟩,?_⟩
  have hp:0 < pw m/\pw m < 10 ^ 100:=by
   have:m = 1\/m = 2\/m = 3:=by omega
   rcases this with rfl | rfl | rfl <;> decide
  refine w_asg (draw (m:=pw m) rfl rfl ?_ h1 (by omega) hp.1 hp.2 fun r2 d2 b0 b1 h2=>⟨⟨rfl,by decide⟩,?_⟩)
  ·exact pw_ev2 hm (we_var rfl rfl)
  ·exact w_nil (kt_nx (tl h2 (by omega) hs hi hrs hm ⟨b0,b1⟩ (fun e=>by omega) (fun e=>by omega) fun d' r hd hr x5 x6 x7=>q d' r (up hd (by omega)) hr x5 x6 x7))
 ·have e:¬ (1:Int) < i:=of_decide_eq_false e
  have:i = 0\/i = 1:=by omega
  rcases this with rfl | rfl
  ·exact tl h (by omega) hs hi hrs (by decide) (by decide) (fun _=>⟨rfl,rfl⟩) (fun e=>by cases e) fun d' r hd hr x5 x6 x7=>q d' r (up hd (by omega)) hr x5 x6 x7
  ·exact tl h (by omega) hs hi hrs (by decide) (by decide) (fun e=>by cases e) (fun _=>⟨rfl,rfl⟩) fun d' r hd hr x5 x6 x7=>q d' r (up hd (by omega)) hr x5 x6 x7
end K89
namespace K89
open PySem L2 J
noncomputable def Rows (s:Int) (rs:List R):Prop:=∀ (j:Nat) r,rs[j]? = some r->RowOk s j r
structure ShOk (ms:List R):Prop where
 ex:∃ s rs,(0<=s/\s < 43264)/\Rows s rs/\2<=rs.length/\rs.length<=20/\ms.Perm rs
theorem rows_snoc {s:Int} {rs:List R} {r:R} (h:Rows s rs) (hr:RowOk s rs.length r):Rows s (rs ++ [r]):=fun j x hx=>by
 by_cases hj:j < rs.length
 ·rw [List.getElem?_append_left hj] at hx
  exact h j x hx
 ·rw [List.getElem?_append_right (by omega)] at hx
  have:j = rs.length:=by
   have:=(List.getElem?_eq_some_iff.mp hx).1
   simp at this
   omega
  subst this
  rw [Nat.sub_self] at hx
  cases hx
  exact hr
theorem St.up {cs:List D} {T T':Nat} {d:D} (h:St cs T d) (k:T<=T'):St cs T' d:=let ⟨n,t,e,a,b,c,f⟩:=h; ⟨n,t,e,a,b,c,by omega⟩
theorem shelf_ok {ns:List Int} {T:Nat} {d:D} {Q:Kd × D × List (Option KV2)->Prop} (h:St (ns.map .int) T d) (hT:T<=100) (q:∀ d' ms,St (ns.map .int) (T + 200) d'->ShOk ms->Q (.fr k0,.lst (ms.map rD),[some (k0,d'),none])):Wp (ψ19 [(k0,d),(.fz,.int 20)]) Q:=by
 unfold ψ19
 refine wd_M rfl ?_
 have bd:=@body_ok ns
 unfold B1 at bd
 unfold b19 at bd ⊢
 dsimp only at bd
 walk_at "nm"
 refine w_asg (draw (m:=43264) rfl rfl (we_lit rfl) h (by omega) (by decide) (by decide) fun s d1 s0 s1 h1=>⟨⟨rfl,by decide⟩,?_⟩)
 refine w_asg (wm_p (we_lst (ws_nil ⟨(.fr k0,.lst []),rfl,⟨rfl,by decide⟩,?_⟩)))
 show Wp (exB _ _ _ _ [some ⟨false,k0,d1⟩,some ⟨false,.fz,.int 20⟩,some ⟨false,.fz,.int s⟩,some ⟨false,k0,.lst []⟩,none,none,none,none,none,none]) _
 with_reducible refine w_for ?_
 refine wmi_rng (wm_bin (wl_cons (wm_p (we_lit ⟨rfl,wl_fin ?_⟩))))
 refine wm_io (φ:=ψ16) rfl (wa_ref (i:=0) rfl (wa_val (wm_p (we_bin (we_var rfl (we_lit (wb_sub ⟨rfl,wa_val (wm_p (we_lit ⟨rfl,wa_nil ⟨by simp [refs],_,rfl,size_ok h1 (by omega) (by decide) (by decide) (by decide) fun n d2 n0 n1 h2=>⟨rfl,rfl,?_⟩⟩⟩))⟩)))))))
 refine ws_nil ⟨_,_,rfl,wb_add ?_⟩
 show Wp (oRng (some (.sh,.int 0)) (some (.sh,.int (2 + n)))) _
 have hr:rangeOk 0 (2 + n) = true:=by
  unfold rangeOk
  simp only [Bool.and_eq_true,decide_eq_true_eq]
  omega
 have hlen:(rngD 0 (2 + n)).length = (2 + n).toNat:=by unfold rngD; rw [List.length_map,List.length_range,Int.sub_zero]
 refine wo_rng hr ⟨fun i ρ=>∃ d' rs x4 x5 x6 x7,ρ = [some ⟨false,k0,d'⟩,some ⟨false,.fz,.int 20⟩,some ⟨false,.fz,.int s⟩,some ⟨false,k0,.lst (rs.map rD)⟩,x4,x5,x6,x7,none,none]/\St (ns.map .int) (T + 3 + 5 * i) d'/\Rows s rs/\rs.length = i,⟨d2,[],none,none,none,none,rfl,h2,fun j r e=>by simp at e,rfl⟩,fun i d ρ hd hI=>?_,fun ρ' hI=>?_⟩
 ·obtain ⟨d',rs,x4,x5,x6,x7,rfl,hs',hrs,hl⟩:=hI
  obtain ⟨rfl,hi⟩:=rngD_get hd
  rw [Int.zero_add] at hi ⊢
  refine ⟨[(4,.int i)],rfl,rfl,?_⟩
  refine bd hs' (by omega) ⟨s0,s1⟩ (by omega) (by omega) fun d3 r h3 hro x5' x6' x7'=>⟨_,.inl rfl,d3,rs ++ [r],_,x5',x6',x7',rfl,h3.up (by omega),rows_snoc hrs (by rw [hl]; exact hro),by rw [List.length_append,hl]; rfl⟩
 ·obtain ⟨d',rs,x4,x5,x6,x7,rfl,hs',hrs,hl⟩:=hI
  have hl':rs.length = (2 + n).toNat:=by rw [hl]; exact hlen
  have hs':St (ns.map .int) (T + 103) d':=hs'.up (by show T + 3 + 5 * (rngD 0 (2 + n)).length<=_; omega)
  show Wp (exB _ _ _ _ [some ⟨false,k0,d'⟩,some ⟨false,.fz,.int 20⟩,some ⟨false,.fz,.int s⟩,some ⟨false,k0,.lst (rs.map rD)⟩,none,none,none,none,none,none]) _
  refine w_asg (wm_p (we_lst (ws_nil ⟨(.fr k0,.lst []),rfl,⟨rfl,by decide⟩,?_⟩)))
  show Wp (exB _ _ _ _ [some ⟨false,k0,d'⟩,some ⟨false,.fz,.int 20⟩,some ⟨false,.fz,.int s⟩,some ⟨false,k0,.lst (rs.map rD)⟩,none,none,none,none,some ⟨false,k0,.lst []⟩,none]) _
  with_reducible refine w_for ?_
  refine wmi_p (wi_e (we_var (s:=⟨false,k0,.lst (rs.map rD)⟩) rfl (wo_lst rfl ?_)))
  refine ⟨fun i ρ=>∃ d' ms x9,ρ = [some ⟨false,k0,d'⟩,some ⟨false,.fz,.int 20⟩,some ⟨false,.fz,.int s⟩,none,none,none,none,none,some ⟨false,k0,.lst (ms.map rD)⟩,x9]/\St (ns.map .int) (T + 103 + i) d'/\ms.Perm (rs.take i),⟨d',[],none,rfl,hs',.refl _⟩,fun i d ρ hd hI=>?_,fun ρ' hI=>?_⟩
  ·obtain ⟨d3,ms,x9,rfl,h3,hp⟩:=hI
   have hd:(rs.map rD)[i]? = some d:=hd
   rw [List.getElem?_map] at hd
   obtain ⟨r,hr',rfl⟩:=mapS hd
   have hi:=(List.getElem?_eq_some_iff.mp hr').1
   have hml:ms.length = i:=by rw [hp.length_eq,List.length_take]; omega
   refine ⟨[(9,rD r)],rfl,rfl,?_⟩
   show Wp (exB _ _ _ [0,3] [some ⟨false,k0,d3⟩,some ⟨false,.fz,.int 20⟩,some ⟨false,.fz,.int s⟩,none,none,none,none,none,some ⟨false,k0,.lst (ms.map rD)⟩,some ⟨false,.fz,rD r⟩]) _
   refine w_exp (wm_insM (i:=8) rfl (wl_fin (draw (m:=(ms.length:Int) + 1) rfl rfl ?_ h3 (by omega) (by omega) (by omega) fun z d4 z0 z1 h4=>ws_cons (we_var rfl (ws_nil ⟨[],.fz,ms.map rD,.sh,z,.sh,rD r,rfl,rfl,⟨rfl,rfl,z0,by omega,by rw [List.length_map]; omega⟩,?_⟩)))))
   ·refine we_bin ((len_of (n:=ms.length) (d:=.lst (ms.map rD)) (we_var rfl rfl) (congrArg some (List.length_map _))).mono fun x hx=>we_lit ?_)
    obtain ⟨kx,dx⟩:=x
    cases (show dx = _ from hx)
    exact wb_add rfl
   ·refine w_nil ⟨_,.inl rfl,d4,ms.take z.toNat ++ r :: ms.drop z.toNat,some ⟨false,.fz,rD r⟩,?_,h4.up (by omega),?_⟩
    ·rw [List.map_append,List.map_cons,List.map_take,List.map_drop]
     rfl
    ·rw [List.take_succ,hr']
     refine (List.perm_middle.trans ?_).trans (List.perm_append_singleton r _).symm
     rw [List.take_append_drop]
     exact hp.cons r
  ·obtain ⟨d3,ms,x9,rfl,h3,hp⟩:=hI
   have hp:ms.Perm (rs.take (rs.map rD).length):=hp
   rw [List.length_map,List.take_length] at hp
   have h3:St (ns.map .int) (T + 103 + (rs.map rD).length) d3:=h3
   rw [List.length_map] at h3
   show Wp (exB _ _ _ _ [some ⟨false,k0,d3⟩,some ⟨false,.fz,.int 20⟩,some ⟨false,.fz,.int s⟩,some ⟨false,k0,.lst (rs.map rD)⟩,none,none,none,none,some ⟨false,k0,.lst (ms.map rD)⟩,none]) _
   refine w_ret (wm_mv rfl ⟨rfl,om_rt rfl (q d3 ms (h3.up (by omega)) ⟨s,rs,⟨s0,s1⟩,hrs,by omega,by omega,hp⟩)⟩)
end K89
namespace K89
open PySem L2 J
theorem met_nodup {val:Nat->G.Kk}:∀ n:Nat,(∀ i j,i < j->j < n->val i ≠ val j)->(G.metK val n).length = n/\∀ x ∈ G.metK val n,∃ i,i < n/\x = val i
 | 0,_=>⟨rfl,fun x hx=>by cases hx⟩
 | n + 1,h=>by
  obtain ⟨h1,h2⟩:=met_nodup n fun i j a b=>h i j a (by omega)
  have hn:(G.metK val n).any (· == val n) = false:=by
   rw [List.any_eq_false]
   intro x hx e
   obtain ⟨i,hi,rfl⟩:=h2 x hx
   exact h i n hi (by omega) (eq_of_beq e)
  have e:G.metK val (n + 1) = G.metK val n ++ [val n]:=by
   show (if (G.metK val n).any (· == val n) then _ else _) = _
   rw [hn]; rfl
  rw [e]
  refine ⟨by rw [List.length_append,h1]; rfl,fun x hx=>?_⟩
  rcases List.mem_append.mp hx with hx | hx
  ·obtain ⟨i,hi,e⟩:=h2 x hx
   exact ⟨i,by omega,e⟩
  ·exact ⟨n,by omega,List.mem_singleton.mp hx⟩
theorem cnt_nodup {ks:List G.Kk} (h:ks.Nodup):G.cntK ks = ks.length:=by
 refine (met_nodup _ fun i j hij hj=>?_).1
 show ks.getD i (.inl 0) ≠ ks.getD j (.inl 0)
 rw [List.getD_eq_getElem?_getD,List.getD_eq_getElem?_getD,List.getElem?_eq_getElem hj,List.getElem?_eq_getElem (by omega)]
 show ks[i] ≠ ks[j]
 have:=List.pairwise_iff_getElem.mp h i j (by omega) hj hij
 exact this
theorem names_nodup {s:Int} {rs:List R} (hs:0<=s) (hr:Rows s rs) (hl:rs.length<=20):(rs.map fun r=>(Sum.inr r.1:G.Kk)).Nodup:=by
 refine List.pairwise_iff_getElem.mpr fun i j hi hj hij=>?_
 rw [List.length_map] at hi hj
 rw [List.getElem_map,List.getElem_map]
 intro e
 have e1:=(hr i _ (List.getElem?_eq_getElem hi)).nam
 have e2:=(hr j _ (List.getElem?_eq_getElem hj)).nam
 have e3:rs[i].1 = rs[j].1:=Sum.inr.inj e
 rw [e1,e2] at e3
 have:=nm_inj hs ⟨by omega,by omega⟩ ⟨by omega,by omega⟩ e3
 omega
theorem rowD_rD {s:Int} {k:Nat} {r:R} (hs:0<=s) (h:RowOk s k r):rowD (rD r) = true:=by
 show (nameD (.str r.1) && ((wiD (.int r.2.1) 1 3 && wiD (.int r.2.2.2) 1 1000) && (tbD (.int r.2.2.1) r.2.1 && hgAll r.2.2.1 r.2.1))) = true
 have h1:nameD (.str r.1) = true:=by rw [h.nam]; exact nameD_nm hs
 have h2:wiD (.int r.2.1) 1 3 = true:=by
  show (decide _ && decide _) = true
  rw [decide_eq_true h.m.1,decide_eq_true h.m.2]; rfl
 have h3:wiD (.int r.2.2.2) 1 1000 = true:=by
  show (decide _ && decide _) = true
  rw [decide_eq_true h.c.1,decide_eq_true h.c.2]; rfl
 have h4:tbD (.int r.2.2.1) r.2.1 = true:=by
  show (decide _ && decide _) = true
  rw [decide_eq_true h.t.1,decide_eq_true h.t.2]; rfl
 rw [h1,h2,h3,h4,h.h]; rfl
theorem toR_map (ms:List R):(ms.map rD).map toR = ms:=by
 rw [List.map_map]
 conv=>rhs; rw [<- List.map_id ms]
 exact List.map_congr_left fun r _=>rfl
theorem kB_of {a b:Int} {ms:List R} {r:R} (hm:r ∈ ms) (h1:r.2.1 = a) (h2:r.2.2.1 = b):kB a b ms = true:=by
 subst h1 h2
 refine List.any_eq_true.mpr ⟨_,List.mem_map.mpr ⟨r,hm,rfl⟩,?_⟩
 exact eqD_refl (n:=90) rfl
theorem sh_len {ms:List R} (h:ShOk ms):2<=ms.length/\ms.length<=20:=by
 obtain ⟨s,rs,hs,hr,h1,h2,hp⟩:=h.ex
 rw [hp.length_eq]; exact ⟨h1,h2⟩
theorem sh_row {ms:List R} (h:ShOk ms) {r:R} (hm:r ∈ ms):∃ s k,0<=s/\RowOk s k r:=by
 obtain ⟨s,rs,hs,hr,h1,h2,hp⟩:=h.ex
 obtain ⟨j,hj⟩:=List.mem_iff_getElem?.mp (hp.mem_iff.mp hm)
 exact ⟨s,j,hs.1,hr j r hj⟩
theorem sh_true {ms:List R} (h:ShOk ms):shelfD (.lst (ms.map rD)) = true:=by
 have hl:=sh_len h
 show ((decide ((2:Int)<=(ms.map rD).length) && decide (((ms.map rD).length:Int)<=20)) && (((ms.map rD).map rowD).all id && shB ((ms.map rD).map toR))) = true
 rw [toR_map,List.length_map,decide_eq_true (by omega),decide_eq_true (by omega)]
 have h1:((ms.map rD).map rowD).all id = true:=by
  rw [List.all_eq_true]
  intro b hb
  obtain ⟨d,hd,rfl⟩:=List.mem_map.mp hb
  obtain ⟨r,hr,rfl⟩:=List.mem_map.mp hd
  obtain ⟨s,k,hs,hk⟩:=sh_row h hr
  exact rowD_rD hs hk
 obtain ⟨s,rs,hs,hr,l1,l2,hp⟩:=h.ex
 have hn:(ms.map fun r=>(Sum.inr r.1:G.Kk)).Nodup:=((hp.map fun r=>(Sum.inr r.1:G.Kk)).nodup_iff).mpr (names_nodup hs.1 hr l2)
 have k1:kB 1 1 ms = true:=by
  have:=hr 0 _ (List.getElem?_eq_getElem (by omega))
  exact kB_of (hp.mem_iff.mpr (List.getElem_mem (by omega))) (this.z rfl).1 (this.z rfl).2
 have k2:kB 2 8 ms = true:=by
  have:=hr 1 _ (List.getElem?_eq_getElem (by omega))
  exact kB_of (hp.mem_iff.mpr (List.getElem_mem (by omega))) (this.o rfl).1 (this.o rfl).2
 rw [h1]
 unfold shB
 rw [k1,k2,cnt_nodup hn,List.length_map,decide_eq_true rfl]; rfl
theorem name_len {s:Int} {k:Nat} {r:R} (hs:0<=s) (h:RowOk s k r):r.1.length<=8:=by
 rw [h.nam,len_list]
 exact (nmL_len hs).2
theorem fine_nm {x:Str} (h:x.length<=8):fine (.str x) = true:=decide_eq_true (by omega)
theorem fi1_of {hd:Hd} {ds:List D} (h0:fine (.nd hd ds) = true) (h:∀ x ∈ ds,fine x = true):Fi1 (.nd hd ds):=⟨h0,fun hd' xs e x hx=>by cases e; exact h x hx⟩
theorem fi2_of {hd:Hd} {ds:List D} (h0:fine (.nd hd ds) = true) (h:∀ x ∈ ds,Fi1 x):Fi2 (.nd hd ds):=⟨h0,fun hd' xs e x hx=>by cases e; exact h x hx⟩
theorem fi1_row {r:R} (h:r.1.length<=8):Fi1 (rD r):=fi1_of rfl fun x hx=>by
 simp only [List.mem_cons,List.not_mem_nil,or_false] at hx
 rcases hx with rfl | rfl | rfl | rfl
 ·exact fine_nm h
 ·rfl
 ·rfl
 ·rfl
theorem fi2_sh {ms:List R} (h:ShOk ms):Fi2 (.lst (ms.map rD)):=fi2_of rfl fun x hx=>by
 obtain ⟨r,hr,rfl⟩:=List.mem_map.mp hx
 obtain ⟨s,k,hs,hk⟩:=sh_row h hr
 exact fi1_row (name_len hs hk)
theorem mem_nm {s k:Int} {c:Nat} (hc:c ∈ nmL s k):∃ i,c = lt_ i:=by
 unfold nmL at hc
 split at hc
 ·exact ⟨_,(List.mem_replicate.mp hc).2⟩
 ·rcases List.mem_append.mp hc with hc | hc
  ·rcases List.mem_append.mp hc with hc | hc
   ·exact ⟨_,(List.mem_replicate.mp hc).2⟩
   ·exact ⟨_,List.mem_singleton.mp hc⟩
  ·exact ⟨_,(List.mem_replicate.mp hc).2⟩
theorem strOk_of {x:Str} (h:∀ c ∈ x.cps.toList,c < 1000):PyData.strOk x = true:=by
 unfold PyData.strOk
 rw [<- Array.all_toList,List.all_eq_true]
 intro c hc
 have:=h c hc
 exact decide_eq_true (by omega)
theorem strOk_nm {s:Int} {k:Nat} {r:R} (h:RowOk s k r):PyData.strOk r.1 = true:=by
 rw [h.nam]
 refine strOk_of fun c hc=>?_
 obtain ⟨i,rfl⟩:=mem_nm hc
 unfold lt_
 omega
theorem pok_row {r:R} {n:Nat} (h:PyData.strOk r.1 = true):pok (n + 1) (rD r) = true:=by
 unfold rD
 simp [pok,pokL,h]
theorem pok_sh {ms:List R} (h:ShOk ms):pok 90 (.lst (ms.map rD)) = true:=by
 have:pokL 89 (ms.map rD) = true:=pokL_of fun d hd=>by
  obtain ⟨r,hr,rfl⟩:=List.mem_map.mp hd
  obtain ⟨s,k,hs,hk⟩:=sh_row h hr
  exact pok_row (strOk_nm hk)
 simp [pok,this]
end K89
namespace K89
open PySem L2 J
theorem nb_S {k:Kd} {d:D} (h:isBo k = false):okS k d = true:=by cases k <;> first | rfl | cases h
theorem nb_im {k:Kd} {d:D} (h:isBo k = false):imK k d = k:=by cases k <;> first | rfl | cases h
noncomputable def Nb (P:D->Prop) (x:KD):Prop:=isBo x.1 = false/\P x.2
noncomputable def All (m:Nat) (P:D->Prop) (kds:List KD):Prop:=kds.length = m/\∀ p ∈ kds,Nb P p
theorem fit_all:∀ {kds:List KD},(∀ p ∈ kds,isBo p.1 = false)->fitL [] .fz kds = true
 | [],_=>rfl
 | p :: ps,h=>by
  show (fit1 .fz p && fitL [] .fz ps) = true
  rw [fit_all fun q hq=>h q (List.mem_cons_of_mem _ hq)]
  show (okS p.1 p.2 && true) = true
  rw [nb_S (h p List.mem_cons_self)]; rfl
theorem oLst_ok {kds:List KD} (h:∀ p ∈ kds,isBo p.1 = false) (hl:kds.length<=1000):oLst (.own [] .fz) (some kds) = some (.fr k0,.lst (kds.map fun p:KD=>p.2)):=by
 show (if fitL [] .fz kds = true/\kds.length<=100000 then some (Kd.fr (.own [] .fz),D.lst (kds.map fun p:KD=>p.2)) else none) = _
 exact if_pos ⟨fit_all h,by omega⟩
theorem oTup_ok {kds:List KD} (h:∀ p ∈ kds,isBo p.1 = false) (hl:kds.length<=1000):oTup .fz (some kds) = some (.sh,.tup (kds.map fun p:KD=>p.2)):=by
 show (if (kds.all fun p=>okS p.1 p.2) = true/\kds.length<=100000 then some (Kd.sh,D.tup (kds.map fun p:KD=>p.2)) else none) = _
 refine if_pos ⟨?_,by omega⟩
 rw [List.all_eq_true]
 exact fun p hp=>nb_S (h p hp)
theorem all_map {m:Nat} {P:D->Prop} {kds:List KD} (h:All m P kds):(kds.map fun p:KD=>p.2).length = m/\∀ x ∈ kds.map fun p:KD=>p.2,P x:=by
 refine ⟨by rw [List.length_map]; exact h.1,fun x hx=>?_⟩
 obtain ⟨p,hp,rfl⟩:=List.mem_map.mp hx
 exact (h.2 p hp).2
section
variable {Γ:Nat->Option Fn} {ρ:Ro} {P:D->Prop} {Q:KD->Prop}
theorem es_nil:Wp (evIs Γ .nil ρ) (All 0 P):=ws_nil ⟨rfl,fun p h=>by cases h⟩
theorem es_cons {a:IE} {r:IEs} {m:Nat} (ha:Wp (evI Γ a ρ) (Nb P)) (hr:Wp (evIs Γ r ρ) (All m P)):Wp (evIs Γ (.cons a r) ρ) (All (m + 1) P):=
 ws_cons (ha.mono fun x hx=>hr.mono fun xs hxs=>⟨by rw [List.length_cons,hxs.1],fun p hp=>(List.mem_cons.mp hp).elim (fun e=>e ▸ hx) (hxs.2 p)⟩)
theorem lst_all {es:IEs} {m:Nat} (hes:Wp (evIs Γ es ρ) (All m P)) (hm:m<=1000) (q:∀ ds,ds.length = m->(∀ x ∈ ds,P x)->Q (.fr k0,.lst ds)):Wp (evI Γ (.lst (.own [] .fz) es) ρ) Q:=
 we_lst (hes.mono fun kds hk=>⟨_,oLst_ok (fun p hp=>(hk.2 p hp).1) (by have:=hk.1; omega),q _ (all_map hk).1 (all_map hk).2⟩)
theorem tup_all {es:IEs} {m:Nat} (hes:Wp (evIs Γ es ρ) (All m P)) (hm:m<=1000) (q:∀ ds,ds.length = m->(∀ x ∈ ds,P x)->Q (.sh,.tup ds)):Wp (evI Γ (.tup .fz es) ρ) Q:=
 we_tup (hes.mono fun kds hk=>⟨_,oTup_ok (fun p hp=>(hk.2 p hp).1) (by have:=hk.1; omega),q _ (all_map hk).1 (all_map hk).2⟩)
theorem nbl {d:D} (h:P d):Wp (evI Γ (.lit d) ρ) (Nb P):=we_lit ⟨rfl,h⟩
theorem nbv {i:Nat} {d:D} (hi:ρ[i]? = some (some ⟨false,.fz,d⟩)) (h:P d):Wp (evI Γ (.var i) ρ) (Nb P):=we_var hi ⟨rfl,h⟩
theorem we_neg {a:IE} {i:Int} (h:Wp (evI Γ a ρ) fun x=>x.2 = .int i) (q:Q (.sh,.int (-i))):Wp (evI Γ (.neg a) ρ) Q:=by
 obtain ⟨⟨k,d⟩,e,hd⟩:=h
 cases (show d = _ from hd)
 exact ⟨_,by rw [evI,e]; rfl,q⟩
theorem we_dnew0 (q:Q (.fr flatO,.dic 0 [] [])):Wp (evI Γ (.dnew 0) ρ) Q:=⟨_,by rw [evI]; rfl,q⟩
end
section
variable {Γ:GG} {ρ:Ro} {P:D->Prop} {S:Ro->Prop}
theorem ms_p {a:IE} {r:MEs} {m:Nat} (ha:Wp (evI Γ.fn a ρ) (Nb P)) (hr:Wp (evMs Γ r ρ) fun p=>All m P p.1/\S p.2):Wp (evMs Γ (.cons (.p a) r) ρ) fun p=>All (m + 1) P p.1/\S p.2:=by
 refine wl_cons (wm_p (ha.mono fun x hx=>?_))
 dsimp only
 rw [nb_im hx.1]
 exact ⟨hx.1,hr.mono fun p hp=>⟨⟨by rw [List.length_cons,hp.1.1],fun y hy=>(List.mem_cons.mp hy).elim (fun e=>e ▸ hx) (hp.1.2 y)⟩,hp.2⟩⟩
theorem ms_fin {a:ME} {r:IEs} {m:Nat} (ha:Wp (evM Γ a ρ) fun x=>Nb P (x.1,x.2.1)/\Wp (evIs Γ.fn r x.2.2) (All m P)/\S x.2.2):Wp (evMs Γ (.fin a r) ρ) fun p=>All (m + 1) P p.1/\S p.2:=
 wl_fin (ha.mono fun x hx=>hx.2.1.mono fun xs hxs=>⟨⟨by rw [List.length_cons,hxs.1],fun y hy=>(List.mem_cons.mp hy).elim (fun e=>e ▸ hx.1) (hxs.2 y)⟩,hx.2.2⟩)
theorem pick_slot {ρ':Ro} {ns:List Int} {T:Nat} {d:D} {j:Nat} {k:Ow} {ds:List D} {Q:Kd × D × Ro->Prop} (hΓ:Γ.fm 15 = some ψ15) (hρ:ρ = some ⟨false,k0,d⟩ :: ρ') (hj:ρ'[j]? = some (some ⟨false,k,.lst ds⟩)) (h:St (ns.map .int) T d) (hT:T<=10000) (hd:0 < ds.length) (hd2:ds.length<=1000) (q:∀ x d',x ∈ ds->St (ns.map .int) (T + 1) d'->Q (.sh,x,some ⟨false,k0,d'⟩ :: ρ'.set j (some ⟨false,.fz,.lst ds⟩))):Wp (evM Γ (.ix (.cons (.fz (j + 1)) (.fin (.io 15 (.ref 0 (.val (.p (.blt "len" (.cons (.var (j + 1)) .nil))) .nil))) .nil))) ρ) Q:=by
 subst hρ
 refine wm_ix (wl_cons (wm_fz (i:=j + 1) (by rw [List.getElem?_cons_succ]; exact hj) ⟨rfl,?_⟩))
 rw [List.set_cons_succ]
 have hjl:j < ρ'.length:=(List.getElem?_eq_some_iff.mp hj).1
 have hj2:(ρ'.set j (some ⟨false,.fz,.lst ds⟩))[j]? = some (some ⟨false,.fz,.lst ds⟩):=List.getElem?_set_self hjl
 refine wl_fin (draw (m:=(ds.length:Int)) hΓ rfl ?_ h (by omega) (by omega) (by omega) fun r d' r0 r1 hs=>ws_nil ⟨_,_,rfl,?_⟩)
 ·refine we_blt (ws_cons (we_var (s:=⟨false,.fz,.lst ds⟩) (by rw [List.getElem?_cons_succ]; exact hj2) (ws_nil (wl_len (n:=ds.length) rfl rfl))))
 ·have hl:r.toNat < ds.length:=by omega
  exact wx_lst (n:=r.toNat) (ixN_nat r0 r1) (List.getElem?_eq_getElem hl) (q _ d' (List.getElem_mem hl) hs)
end
end K89
namespace K89
open PySem L2 J
noncomputable def SS (ns:List Int) (T:Nat) (ρ:Ro):Prop:=∃ d' ρ',ρ = some ⟨false,k0,d'⟩ :: ρ'/\St (ns.map .int) T d'
noncomputable def S2 (ns:List Int) (T:Nat) (ρ':Ro) (ρ:Ro):Prop:=∃ d',ρ = some ⟨false,k0,d'⟩ :: ρ'/\St (ns.map .int) T d'
noncomputable abbrev FineP:D->Prop:=fun x=>fine x = true
theorem four {m:Nat} {kds:List KD} {P:D->Prop} (h:All m P kds) (hm:m<=1000):oTup .fz (some kds) = some (.sh,.tup (kds.map fun p:KD=>p.2)):=oTup_ok (fun p hp=>(h.2 p hp).1) (by have:=h.1; omega)
theorem ix_before {n:Nat} {a:Int} (h0:0<=a) (h1:a < n):∃ j,j < n/\ixN n (a - 1) = some j:=by
 unfold ixN
 by_cases h:0<=a - 1
 ·exact ⟨(a - 1).toNat,by omega,by rw [if_pos h,if_pos (by omega)]⟩
 ·exact ⟨(a - 1 + n).toNat,by omega,by rw [if_neg h,if_pos (by omega)]⟩
theorem mul_nb {Γ:Nat->Option Fn} {ρ:Ro}:Wp (evI Γ (.bin .Mult (.lit (.str "a")) (.lit (.int 9))) ρ) (Nb FineP):=we_bin (we_lit (we_lit ⟨_,rfl,rfl,by decide +kernel⟩))
theorem pow_nb {Γ:Nat->Option Fn} {ρ:Ro} {n:Int} (h:0<=n/\n<=1000):Wp (evI Γ (.bin .Pow (.lit (.int 10)) (.lit (.int n))) ρ) (Nb FineP):=we_bin (we_lit (we_lit (wb_pow ⟨h.1,by omega,by decide⟩ ⟨rfl,rfl⟩)))
theorem neg_nb {Γ:Nat->Option Fn} {ρ:Ro} {n:Int}:Wp (evI Γ (.neg (.lit (.int n))) ρ) (Nb FineP):=we_neg (we_lit rfl) ⟨rfl,rfl⟩
theorem l0_nb {Γ:Nat->Option Fn} {ρ:Ro}:Wp (evI Γ (.lst (.own [] .fz) .nil) ρ) (Nb FineP):=lst_all (P:=FineP) es_nil (by decide) fun ds _ _=>⟨rfl,rfl⟩
theorem l1_nb {Γ:Nat->Option Fn} {ρ:Ro} {d:D} (h:fine d = true):Wp (evI Γ (.lst (.own [] .fz) (.cons (.lit d) .nil)) ρ) (Nb FineP):=lst_all (P:=FineP) (es_cons (nbl h) es_nil) (by decide) fun ds _ _=>⟨rfl,rfl⟩
theorem t1_nb {Γ:Nat->Option Fn} {ρ:Ro} {d:D} (h:fine d = true):Wp (evI Γ (.tup .fz (.cons (.lit d) .nil)) ρ) (Nb FineP):=tup_all (P:=FineP) (es_cons (nbl h) es_nil) (by decide) fun ds _ _=>⟨rfl,rfl⟩
theorem dn_nb {Γ:Nat->Option Fn} {ρ:Ro}:Wp (evI Γ (.dnew 0) ρ) (Nb FineP):=we_dnew0 ⟨rfl,rfl⟩
theorem pw_nb {Γ:Nat->Option Fn} {ρ:Ro} {m:Int} {i:Nat} (h:1<=m/\m<=3) (hi:ρ[i]? = some (some ⟨false,.fz,.int m⟩)):Wp (evI Γ (.bin .LShift (.lit (.int 1)) (.bin .LShift (.lit (.int 1)) (.var i))) ρ) (Nb FineP):=(pw_ev2 h (we_var hi rfl)).mono fun x hx=>by subst hx; exact ⟨rfl,rfl⟩
theorem pm_nb {Γ:Nat->Option Fn} {ρ:Ro} {m:Int} {i:Nat} (h:1<=m/\m<=3) (hi:ρ[i]? = some (some ⟨false,.fz,.int m⟩)):Wp (evI Γ (.bin .Sub (.bin .LShift (.lit (.int 1)) (.bin .LShift (.lit (.int 1)) (.var i))) (.lit (.int 1))) ρ) (Nb FineP):=we_bin ((pw_ev2 h (we_var hi rfl)).mono fun x hx=>by subst hx; exact we_lit (wb_sub ⟨rfl,rfl⟩))
theorem fi1_tup {kds:List KD} {m:Nat} (h:All m FineP kds):Fi1 (.tup (kds.map fun p:KD=>p.2)):=fi1_of rfl (all_map h).2
theorem part_ok {ns:List Int} {T:Nat} {d:D} {ms:List R} {at_:Int} {Q:Kd × D × List (Option KV2)->Prop} (h:St (ns.map .int) T d) (hT:T<=1000) (hs:ShOk ms) (h0:0<=at_) (h1:at_ < ms.length) (q:∀ x d',Fi1 x->St (ns.map .int) (T + 3) d'->Q (.sh,x,[some (k0,d'),none,none])):Wp (ψ24 [(k0,d),(.fz,.lst (ms.map rD)),(.fz,.int at_)]) Q:=by
 have hl:at_.toNat < ms.length:=by omega
 obtain ⟨r,hr⟩:∃ r,ms[at_.toNat]? = some r:=⟨_,List.getElem?_eq_getElem hl⟩
 have hrm:r ∈ ms:=List.mem_of_getElem? hr
 obtain ⟨s,kk,hs0,hro⟩:=sh_row hs hrm
 have hx:=fine_nm (name_len hs0 hro)
 have hm:=hro.m
 obtain ⟨jb,hjb,ejb⟩:=ix_before h0 h1
 obtain ⟨s',kk',hs0',hro'⟩:=sh_row hs (List.getElem_mem hjb)
 have hx':=fine_nm (name_len hs0' hro')
 have hlen20:=sh_len hs
 obtain ⟨x,m,t,c⟩:=r
 dsimp only at hx hm
 unfold ψ24
 refine wd_M rfl ?_
 unfold b24
 walk_at "nm"
 refine w_unpT (wm_p (we_ix (we_var rfl (we_var rfl (wx_lst (d:=rD (x,m,t,c)) (n:=at_.toNat) (ixN_nat h0 (by rw [List.length_map]; exact h1)) (by rw [List.getElem?_map,hr]; rfl) ⟨_,_,_,rfl,rfl,⟨rfl,rfl⟩,?_⟩)))))
 refine w_asg (draw (m:=5) (d:=d) (ρ':=[some ⟨false,.fz,.lst (ms.map rD)⟩,some ⟨false,.fz,.int at_⟩,some ⟨false,.fz,.str x⟩,some ⟨false,.fz,.int m⟩,some ⟨false,.fz,.int t⟩,some ⟨false,.fz,.int c⟩,none,none,none,none,none]) rfl rfl (we_lit rfl) h (by omega) (by decide) (by decide) fun p d1 p0 p1 h1=>⟨⟨rfl,by decide⟩,?_⟩)
 show Wp (exB _ _ _ _ [some ⟨false,k0,d1⟩,some ⟨false,.fz,.lst (ms.map rD)⟩,some ⟨false,.fz,.int at_⟩,some ⟨false,.fz,.str x⟩,some ⟨false,.fz,.int m⟩,some ⟨false,.fz,.int t⟩,some ⟨false,.fz,.int c⟩,some ⟨false,.fz,.int p⟩,none,none,none,none]) _
 refine if_et (wt_cmp (we_var rfl (we_lit (wc_eq rfl)))) (fun e=>?_) fun e=>kt_go ?_
 ·refine w_asg (wm_p (lst_all (P:=FineP) (m:=14) (es_cons (nbl rfl) (es_cons mul_nb (es_cons (nbl rfl) (es_cons (nbl rfl) (es_cons (nbl rfl) (es_cons (nbl rfl) (es_cons (nbl rfl) (es_cons (nbl rfl) (es_cons (t1_nb rfl) (es_cons ?_ (es_cons (nbl rfl) (es_cons l0_nb (es_cons (l1_nb rfl) (es_cons dn_nb es_nil)))))))))))))) (by decide) fun ds hdl hdf=>⟨⟨rfl,by decide⟩,?_⟩))
  ·refine we_ix (we_ix (we_var rfl (we_bin (we_var rfl (we_lit (wb_sub (wx_lst (d:=rD ms[jb]) (n:=jb) (by rw [List.length_map]; exact ejb) (by rw [List.getElem?_map,List.getElem?_eq_getElem hjb]; rfl) (we_lit ⟨(.sh,.str ms[jb].1),rfl,rfl,hx'⟩))))))))
  ·show Wp (exB _ _ _ _ [some ⟨false,k0,d1⟩,some ⟨false,.fz,.lst (ms.map rD)⟩,some ⟨false,.fz,.int at_⟩,some ⟨false,.fz,.str x⟩,some ⟨false,.fz,.int m⟩,some ⟨false,.fz,.int t⟩,some ⟨false,.fz,.int c⟩,some ⟨false,.fz,.int p⟩,some ⟨false,k0,.lst ds⟩,none,none,none]) _
   refine w_ret (wm_tup ((ms_fin (P:=FineP) (m:=3) (S:=SS ns (T + 3)) (pick_slot (j:=7) (ds:=ds) rfl rfl rfl h1 (by omega) (by omega) (by omega) fun y d2 hy h2=>⟨⟨rfl,hdf y hy⟩,es_cons (nbv rfl rfl) (es_cons (nbv rfl rfl) (es_cons (nbv rfl rfl) es_nil)),d2,_,rfl,h2.up (by omega)⟩)).mono fun pp hp=>?_))
   obtain ⟨hp1,d2,ρ',e2,h2⟩:=hp
   refine ⟨_,four hp1 (by decide),rfl,kt_rt (om_rt rfl ?_)⟩
   rw [e2]
   exact q _ d2 (fi1_tup hp1) h2
 refine if_et (wt_cmp (we_var rfl (we_lit (wc_eq rfl)))) (fun e=>?_) fun e=>kt_go ?_
 ·refine w_asg (wm_p (lst_all (P:=FineP) (m:=12) (es_cons (nbl rfl) (es_cons (nbl rfl) (es_cons neg_nb (es_cons (nbl rfl) (es_cons (nbl rfl) (es_cons (nbl rfl) (es_cons (pow_nb (by decide)) (es_cons (nbl rfl) (es_cons (nbl rfl) (es_cons (nbl rfl) (es_cons l0_nb (es_cons dn_nb es_nil)))))))))))) (by decide) fun ds hdl hdf=>⟨⟨rfl,by decide⟩,?_⟩))
  show Wp (exB _ _ _ _ [some ⟨false,k0,d1⟩,some ⟨false,.fz,.lst (ms.map rD)⟩,some ⟨false,.fz,.int at_⟩,some ⟨false,.fz,.str x⟩,some ⟨false,.fz,.int m⟩,some ⟨false,.fz,.int t⟩,some ⟨false,.fz,.int c⟩,some ⟨false,.fz,.int p⟩,none,some ⟨false,k0,.lst ds⟩,none,none]) _
  refine w_ret (wm_tup ((ms_p (P:=FineP) (S:=SS ns (T + 3)) (nbv rfl hx) (ms_fin (P:=FineP) (S:=SS ns (T + 3)) (m:=2) (pick_slot (j:=8) (ds:=ds) rfl rfl rfl h1 (by omega) (by omega) (by omega) fun y d2 hy h2=>⟨⟨rfl,hdf y hy⟩,es_cons (nbv rfl rfl) (es_cons (nbv rfl rfl) es_nil),d2,_,rfl,h2.up (by omega)⟩))).mono fun pp hp=>?_))
  obtain ⟨hp1,d2,ρ',e2,h2⟩:=hp
  refine ⟨_,four hp1 (by decide),rfl,kt_rt (om_rt rfl ?_)⟩
  rw [e2]
  exact q _ d2 (fi1_tup hp1) h2
 refine if_et (wt_cmp (we_var rfl (we_lit (wc_eq rfl)))) (fun e=>?_) fun e=>kt_go ?_
 ·refine w_asg (wm_p (lst_all (P:=FineP) (m:=13) (es_cons neg_nb (es_cons (pw_nb hm rfl) (es_cons (nbl rfl) (es_cons (nbl rfl) (es_cons (nbl rfl) (es_cons (t1_nb rfl) (es_cons (pow_nb (by decide)) (es_cons (nbl rfl) (es_cons (pm_nb hm rfl) (es_cons (nbl rfl) (es_cons (nbl rfl) (es_cons (nbl rfl) (es_cons (nbl rfl) es_nil))))))))))))) (by decide) fun ds hdl hdf=>⟨⟨rfl,by decide⟩,?_⟩))
  show Wp (exB _ _ _ _ [some ⟨false,k0,d1⟩,some ⟨false,.fz,.lst (ms.map rD)⟩,some ⟨false,.fz,.int at_⟩,some ⟨false,.fz,.str x⟩,some ⟨false,.fz,.int m⟩,some ⟨false,.fz,.int t⟩,some ⟨false,.fz,.int c⟩,some ⟨false,.fz,.int p⟩,none,none,some ⟨false,k0,.lst ds⟩,none]) _
  refine w_asg (wm_bin (wl_cons (wm_fz (i:=10) rfl ⟨rfl,wl_fin (wm_lst ?_)⟩)))
  refine (ms_p (P:=FineP) (S:=S2 ns (T + 2) [some ⟨false,.fz,.lst (ms.map rD)⟩,some ⟨false,.fz,.int at_⟩,some ⟨false,.fz,.str x⟩,some ⟨false,.fz,.int m⟩,some ⟨false,.fz,.int t⟩,some ⟨false,.fz,.int c⟩,some ⟨false,.fz,.int p⟩,none,none,some ⟨false,.fz,.lst ds⟩,none]) (nbl rfl) (ms_p (P:=FineP) (S:=S2 ns (T + 2) [some ⟨false,.fz,.lst (ms.map rD)⟩,some ⟨false,.fz,.int at_⟩,some ⟨false,.fz,.str x⟩,some ⟨false,.fz,.int m⟩,some ⟨false,.fz,.int t⟩,some ⟨false,.fz,.int c⟩,some ⟨false,.fz,.int p⟩,none,none,some ⟨false,.fz,.lst ds⟩,none]) (nbl rfl) (ms_p (P:=FineP) (S:=S2 ns (T + 2) [some ⟨false,.fz,.lst (ms.map rD)⟩,some ⟨false,.fz,.int at_⟩,some ⟨false,.fz,.str x⟩,some ⟨false,.fz,.int m⟩,some ⟨false,.fz,.int t⟩,some ⟨false,.fz,.int c⟩,some ⟨false,.fz,.int p⟩,none,none,some ⟨false,.fz,.lst ds⟩,none]) (nbl rfl) (ms_p (P:=FineP) (S:=S2 ns (T + 2) [some ⟨false,.fz,.lst (ms.map rD)⟩,some ⟨false,.fz,.int at_⟩,some ⟨false,.fz,.str x⟩,some ⟨false,.fz,.int m⟩,some ⟨false,.fz,.int t⟩,some ⟨false,.fz,.int c⟩,some ⟨false,.fz,.int p⟩,none,none,some ⟨false,.fz,.lst ds⟩,none]) (nbl rfl) (ms_p (P:=FineP) (S:=S2 ns (T + 2) [some ⟨false,.fz,.lst (ms.map rD)⟩,some ⟨false,.fz,.int at_⟩,some ⟨false,.fz,.str x⟩,some ⟨false,.fz,.int m⟩,some ⟨false,.fz,.int t⟩,some ⟨false,.fz,.int c⟩,some ⟨false,.fz,.int p⟩,none,none,some ⟨false,.fz,.lst ds⟩,none]) (nbl rfl) (ms_p (P:=FineP) (S:=S2 ns (T + 2) [some ⟨false,.fz,.lst (ms.map rD)⟩,some ⟨false,.fz,.int at_⟩,some ⟨false,.fz,.str x⟩,some ⟨false,.fz,.int m⟩,some ⟨false,.fz,.int t⟩,some ⟨false,.fz,.int c⟩,some ⟨false,.fz,.int p⟩,none,none,some ⟨false,.fz,.lst ds⟩,none]) (nbl rfl) (ms_fin (P:=FineP) (S:=S2 ns (T + 2) [some ⟨false,.fz,.lst (ms.map rD)⟩,some ⟨false,.fz,.int at_⟩,some ⟨false,.fz,.str x⟩,some ⟨false,.fz,.int m⟩,some ⟨false,.fz,.int t⟩,some ⟨false,.fz,.int c⟩,some ⟨false,.fz,.int p⟩,none,none,some ⟨false,.fz,.lst ds⟩,none]) (m:=2) (draw (m:=256) rfl rfl (we_lit rfl) h1 (by omega) (by decide) (by decide) fun z d2 z0 z1 h2=>⟨⟨rfl,rfl⟩,es_cons l0_nb (es_cons dn_nb es_nil),d2,rfl,h2⟩)))))))).mono fun pp hp=>?_
  obtain ⟨pk,pr⟩:=pp
  obtain ⟨hp1,d2,e2,h2⟩:=hp
  dsimp only at e2 hp1
  subst e2
  have l9:=all_map hp1
  refine ⟨_,oLst_ok (fun p hp=>(hp1.2 p hp).1) (Nat.le_trans (Nat.le_of_eq hp1.1) (by decide)),ws_nil ⟨_,_,rfl,wb_cat ⟨rfl,rfl,by rw [hdl,l9.1]; decide⟩ ⟨⟨rfl,by decide⟩,?_⟩⟩⟩
  show Wp (exB _ _ _ _ [some ⟨false,k0,d2⟩,some ⟨false,.fz,.lst (ms.map rD)⟩,some ⟨false,.fz,.int at_⟩,some ⟨false,.fz,.str x⟩,some ⟨false,.fz,.int m⟩,some ⟨false,.fz,.int t⟩,some ⟨false,.fz,.int c⟩,some ⟨false,.fz,.int p⟩,none,none,some ⟨false,k0,.lst (ds ++ pk.map fun p:KD=>p.2)⟩,none]) _
  have h22:∀ y ∈ ds ++ pk.map fun p:KD=>p.2,fine y = true:=fun y hy=>(List.mem_append.mp hy).elim (hdf y) (l9.2 y)
  refine w_ret (wm_tup ((ms_p (P:=FineP) (S:=SS ns (T + 3)) (nbv rfl hx) (ms_p (P:=FineP) (S:=SS ns (T + 3)) (nbv rfl rfl) (ms_fin (P:=FineP) (S:=SS ns (T + 3)) (m:=1) (pick_slot (j:=9) (ds:=ds ++ pk.map fun p:KD=>p.2) rfl rfl rfl h2 (by omega) (by rw [List.length_append,hdl,l9.1]; decide) (by rw [List.length_append,hdl,l9.1]; decide) fun y d3 hy h3=>⟨⟨rfl,h22 y hy⟩,es_cons (nbv rfl rfl) es_nil,d3,_,rfl,h3⟩)))).mono fun pp hp=>?_))
  obtain ⟨hp1,d3,ρ',e3,h3⟩:=hp
  refine ⟨_,four hp1 (by decide),rfl,kt_rt (om_rt rfl ?_)⟩
  rw [e3]
  exact q _ d3 (fi1_tup hp1) h3
 refine if_et (wt_cmp (we_var rfl (we_lit (wc_eq rfl)))) (fun e=>?_) fun e=>kt_go ?_
 ·refine w_asg (wm_p (lst_all (P:=FineP) (m:=11) (es_cons (nbl rfl) (es_cons neg_nb (es_cons (nbl rfl) (es_cons (pow_nb (by decide)) (es_cons (nbl rfl) (es_cons (nbl rfl) (es_cons (nbl rfl) (es_cons (nbl rfl) (es_cons (nbl rfl) (es_cons l0_nb (es_cons dn_nb es_nil))))))))))) (by decide) fun ds hdl hdf=>⟨⟨rfl,by decide⟩,?_⟩))
  show Wp (exB _ _ _ _ [some ⟨false,k0,d1⟩,some ⟨false,.fz,.lst (ms.map rD)⟩,some ⟨false,.fz,.int at_⟩,some ⟨false,.fz,.str x⟩,some ⟨false,.fz,.int m⟩,some ⟨false,.fz,.int t⟩,some ⟨false,.fz,.int c⟩,some ⟨false,.fz,.int p⟩,none,none,none,some ⟨false,k0,.lst ds⟩]) _
  refine w_ret (wm_tup ((ms_p (P:=FineP) (S:=SS ns (T + 3)) (nbv rfl hx) (ms_p (P:=FineP) (S:=SS ns (T + 3)) (nbv rfl rfl) (ms_p (P:=FineP) (S:=SS ns (T + 3)) (nbv rfl rfl) (ms_fin (P:=FineP) (S:=SS ns (T + 3)) (m:=0) (pick_slot (j:=10) (ds:=ds) rfl rfl rfl h1 (by omega) (by omega) (by omega) fun y d2 hy h2=>⟨⟨rfl,hdf y hy⟩,es_nil,d2,_,rfl,h2.up (by omega)⟩))))).mono fun pp hp=>?_))
  obtain ⟨hp1,d2,ρ',e2,h2⟩:=hp
  refine ⟨_,four hp1 (by decide),rfl,kt_rt (om_rt rfl ?_)⟩
  rw [e2]
  exact q _ d2 (fi1_tup hp1) h2
 ·have f1:∀ {dd:D},fine dd = true->(∀ hd xs,dd ≠ .nd hd xs)->Fi1 dd:=fun {dd} hf hn=>⟨hf,fun hd xs e=>absurd e (hn hd xs)⟩
  refine w_ret (wm_ix (wl_cons (wm_p (lst_all (P:=Fi1) (m:=6) (es_cons ?_ (es_cons ?_ (es_cons ?_ (es_cons ?_ (es_cons (nbl (f1 rfl fun hd xs e=>by cases e)) (es_cons (nbv rfl (f1 hx fun hd xs e=>by cases e)) es_nil)))))) (by decide) fun ds hdl hdf=>⟨rfl,?_⟩))))
  ·exact lst_all (P:=FineP) (m:=4) (es_cons (nbv rfl hx) (es_cons (nbv rfl rfl) (es_cons (nbv rfl rfl) (es_cons (nbv rfl rfl) es_nil)))) (by decide) fun ds _ hf=>⟨rfl,fi1_of rfl hf⟩
  ·exact tup_all (P:=FineP) (m:=3) (es_cons (nbv rfl hx) (es_cons (nbv rfl rfl) (es_cons (nbv rfl rfl) es_nil))) (by decide) fun ds _ hf=>⟨rfl,fi1_of rfl hf⟩
  ·refine we_bin (we_ix (we_var rfl (we_var rfl (wx_lst (d:=rD (x,m,t,c)) (n:=at_.toNat) (ixN_nat h0 (by rw [List.length_map]; exact ‹at_ < ms.length›)) (by rw [List.getElem?_map,hr]; rfl) (we_tup (ws_cons (we_lit (ws_nil ⟨(.sh,.nd .tup [.int 1]),rfl,(.sh,.nd .tup [.str x,.int m,.int t,.int c,.int 1]),rfl,rfl,fi1_of rfl fun y hy=>?_⟩))))))))
   simp only [List.mem_cons,List.not_mem_nil,or_false] at hy
   rcases hy with rfl | rfl | rfl | rfl | rfl
   ·exact hx
   ·rfl
   ·rfl
   ·rfl
   ·rfl
  ·exact tup_all (P:=FineP) (m:=0) es_nil (by decide) fun ds _ hf=>⟨rfl,fi1_of rfl hf⟩
  ·refine wl_fin (draw (m:=6) rfl rfl (we_lit rfl) h1 (by omega) (by decide) (by decide) fun z d2 z0 z1 h2=>ws_nil ⟨_,_,rfl,?_⟩)
   have hz:z.toNat < ds.length:=by omega
   refine wx_lst (n:=z.toNat) (ixN_nat z0 (by omega)) (List.getElem?_eq_getElem hz) ⟨rfl,om_rt rfl (q _ d2 (hdf _ (List.getElem_mem hz)) (h2.up (by omega)))⟩
end K89
namespace K89
open PySem L2 J
theorem mem_cut {l:List D} {lo hi:Option Int} {x:D} (h:x ∈ cutD l lo hi):x ∈ l:=by
 unfold cutD at h
 exact List.mem_of_mem_drop (List.mem_of_mem_take h)
theorem len_cut {l:List D} {lo hi:Option Int}:(cutD l lo hi).length<=l.length:=by
 unfold cutD
 rw [List.length_take,List.length_drop]
 omega
theorem wm_slh {Γ:GG} {ρ:Ro} {as:MEs} {Q:Kd × D × Ro->Prop} (h:Wp (evMs Γ as ρ) fun p=>∃ x y,p.1 = [x,y]/\Wp (fSlh x y) fun r=>Q (r.1,r.2,p.2)):Wp (evM Γ (.slh as) ρ) Q:=by
 rw [evM]
 refine oS_of (h.mono fun p hp=>?_)
 obtain ⟨x,y,e,hp⟩:=hp
 rw [e]
 exact hp
theorem wmapF {f:D->Option (Option KD)} {P:D->Prop}:∀ {ds:List D},(∀ d ∈ ds,Wp (f d) fun o=>∀ kd,o = some kd->fit1 .fz kd = true/\P kd.2)->Wp (evMap .fz f ds) fun ys=>ys.length<=ds.length/\∀ y ∈ ys,P y
 | [],_=>⟨[],rfl,Nat.le_refl _,fun y hy=>by cases hy⟩
 | d :: ds,h=>by
  obtain ⟨o,eo,ho⟩:=h d List.mem_cons_self
  obtain ⟨ys,ey,hl,hy⟩:=wmapF (ds:=ds) fun x hx=>h x (List.mem_cons_of_mem _ hx)
  cases o with
  | none=>
   refine ⟨ys,?_,by rw [List.length_cons]; omega,hy⟩
   unfold evMap
   rw [eo,ey]
  | some kd=>
   obtain ⟨h1,h2⟩:=ho kd rfl
   refine ⟨kd.2 :: ys,?_,by rw [List.length_cons,List.length_cons]; omega,fun y hm=>(List.mem_cons.mp hm).elim (fun e=>e ▸ h2) (hy y)⟩
   unfold evMap
   rw [eo,ey]
   exact if_pos h1
theorem w_eltF {tg:IT} {ft:Ro->Option Bool} {fe:Ro->Option KD} {ρ0:Ro} {d:D} {ps:List (Nat × D)} {P:D->Prop} (h1:tgI tg d = some ps) (h2:noneAt ps ρ0 = true) (ht:Wp (ft (setAll ps ρ0)) fun _=>True) (h:Wp (fe (setAll ps ρ0)) fun x=>fit1 .fz x = true/\P x.2):Wp (eltI tg ft fe ρ0 d) fun o=>∀ kd,o = some kd->fit1 .fz kd = true/\P kd.2:=by
 obtain ⟨x,ex,q⟩:=h
 obtain ⟨b,eb,_⟩:=ht
 cases b with
 | true=>
  refine ⟨some x,?_,fun kd e=>by cases e; exact q⟩
  unfold eltI
  rw [h1]
  dsimp only
  rw [if_pos h2,eb]
  dsimp only
  rw [ex]
  rfl
 | false=>
  refine ⟨none,?_,fun kd e=>by cases e⟩
  unfold eltI
  rw [h1]
  dsimp only
  rw [if_pos h2,eb]
theorem its_e {Γ:Nat->Option Fn} {t:IE} {ρ:Ro} {Q:Bool->Prop} (h:Wp (evIT Γ t ρ) Q):Wp (evITs Γ (.som t) ρ) Q:=by rw [evITs]; exact h
noncomputable def nest:Nat->D
 | 0=>.lst []
 | n + 1=>.lst [nest n,.int n]
theorem nest_run:ψ25 [.int 99] = some (.fr k0,nest 99):=by kernel_rfl
noncomputable def moreE:IE:=(.bin .Add (.bin .Add (.comp .fz [none,none] (.nm 1) (.rng (.lit (.int 0)) (.lit (.int 8))) .non (.bin .Mult (.lit (.str "z")) (.bin .Add (.var 1) (.lit (.int 1))))) (.comp .fz [none,none] (.nm 1) (.rng (.lit (.int 0)) (.lit (.int 8))) .non (.bin .Mult (.lit (.str "y")) (.bin .Add (.var 1) (.lit (.int 1)))))) (.lst (.own [] .fz) (.cons (.lit (.str "xx")) (.cons (.lit (.str "xy")) (.cons (.lit (.str "xz")) (.cons (.lit (.str "xzz")) (.cons (.lit (.str "xyz")) .nil)))))))
noncomputable def moreL:List Str:=["z","zz","zzz","zzzz","zzzzz","zzzzzz","zzzzzzz","zzzzzzzz","y","yy","yyy","yyyy","yyyyy","yyyyyy","yyyyyyy","yyyyyyyy","xx","xy","xz","xzz","xyz"]
theorem more_run (Γ:Nat->Option Fn) (ρ:Ro):evI Γ moreE ρ = some (.fr flatO,.lst (moreL.map .str)):=by kernel_rfl
theorem more_ok:∀ x ∈ moreL,x.length<=8/\PyData.strOk x = true:=by decide +kernel
theorem fi2_any {d:D} (h:fine d = true) (hn:∀ hd xs,d ≠ .nd hd xs):Fi2 d:=⟨h,fun hd xs e=>absurd e (hn hd xs)⟩
end K89
namespace K89
open PySem L2 J
theorem pokL_of {n:Nat}:∀ {ds:List D},(∀ x ∈ ds,pok n x = true)->pokL n ds = true
 | [],_=>by simp [pokL]
 | d :: ds,h=>by
  unfold pokL
  rw [h d List.mem_cons_self,pokL_of fun x hx=>h x (List.mem_cons_of_mem _ hx)]
  rfl
theorem odd_ok {ns:List Int} {T:Nat} {d:D} {ms:List R} {Q:Kd × D × List (Option KV2)->Prop} (h:St (ns.map .int) T d) (hT:T<=900) (hs:ShOk ms) (q:∀ k x d',isBo k = false->Fi2 x->St (ns.map .int) (T + 5) d'->Q (k,x,[some (k0,d'),none])):Wp (ψ26 [(k0,d),(.fz,.lst (ms.map rD))]) Q:=by
 have hl:=sh_len hs
 have hrow:∀ y ∈ ms.map rD,Fi1 y:=(fi2_sh hs).2 _ _ rfl
 have hml:(ms.map rD).length = ms.length:=List.length_map _
 unfold ψ26
 refine wd_M rfl ?_
 unfold b26
 walk_at "nm"
 refine w_asg (draw (m:=12) (d:=d) (ρ':=[some ⟨false,.fz,.lst (ms.map rD)⟩,none,none,none,none,none]) rfl rfl (we_lit rfl) h (by omega) (by decide) (by decide) fun w d1 w0 w1 h1=>⟨⟨rfl,by decide⟩,?_⟩)
 show Wp (exB _ _ _ _ [some ⟨false,k0,d1⟩,some ⟨false,.fz,.lst (ms.map rD)⟩,some ⟨false,.fz,.int w⟩,none,none,none,none]) _
 refine if_et (wt_cmp (we_var rfl (we_lit (wc_lt rfl)))) (fun e=>?_) fun e=>kt_go ?_
 ·refine w_asg (draw (m:=(ms.length:Int)) (d:=d1) (ρ':=[some ⟨false,.fz,.lst (ms.map rD)⟩,some ⟨false,.fz,.int w⟩,none,none,none,none]) rfl rfl (we_blt (ws_cons (we_var rfl (ws_nil (wl_len (n:=ms.length) (congrArg some hml) rfl))))) h1 (by omega) (by omega) (by omega) fun a d2 a0 a1 h2=>⟨⟨rfl,by decide⟩,?_⟩)
  show Wp (exB _ _ _ _ [some ⟨false,k0,d2⟩,some ⟨false,.fz,.lst (ms.map rD)⟩,some ⟨false,.fz,.int w⟩,some ⟨false,.fz,.int a⟩,none,none,none]) _
  refine w_ret (wm_bin (wl_fin (wm_bin (wl_cons (wm_p (we_sl (we_var rfl (wo_non (wo_som (we_var rfl ⟨_,rfl,⟨(.fr flatO,.lst (cutD (ms.map rD) none (some a))),rfl,rfl,wl_fin (wm_lst (wl_fin ?_))⟩⟩))))))))))
  refine wm_io (φ:=ψ24) rfl (wa_ref (i:=0) rfl (wa_val (wm_p (we_var rfl ⟨rfl,wa_val (wm_p (we_var rfl ⟨rfl,wa_nil ⟨by simp [refs],_,rfl,part_ok h2 (by omega) hs a0 a1 fun x d3 hx h3=>⟨rfl,rfl,?_⟩⟩⟩))⟩))))
  refine ws_nil ⟨(.fr k0,.lst [x]),rfl,ws_nil ⟨_,_,rfl,wb_cat ⟨rfl,rfl,by have:=len_cut (l:=ms.map rD) (lo:=none) (hi:=some a); rw [List.length_singleton]; omega⟩ ?_⟩⟩
  refine ws_cons (we_sl (we_var rfl (wo_som (we_bin (we_var rfl (we_lit (wb_add ⟨_,rfl,wo_non ⟨(.fr flatO,.lst (cutD (ms.map rD) (some (a + 1)) none)),rfl,ws_nil ⟨_,_,rfl,wb_cat ⟨rfl,rfl,?_⟩ ⟨rfl,kt_rt (om_rt rfl (q _ _ d3 rfl (fi2_of rfl fun y hy=>?_) (h3.up (by omega))))⟩⟩⟩⟩)))))))
  ·have c1:=len_cut (l:=ms.map rD) (lo:=none) (hi:=some a)
   have c2:=len_cut (l:=ms.map rD) (lo:=some (a + 1)) (hi:=none)
   rw [List.length_append,List.length_singleton]
   omega
  ·rcases List.mem_append.mp hy with hy | hy
   ·rcases List.mem_append.mp hy with hy | hy
    ·exact hrow y (mem_cut hy)
    ·rw [List.mem_singleton] at hy
     subst hy
     exact hx
   ·exact hrow y (mem_cut hy)
 have flt:∀ {Γ:Nat->Option Fn} {a b:Int} {x0 x2 x3 x4 x5 x6:Option Sl},Wp (evI Γ (.comp .fz [none,none] (.nm 1) (.e (.var 1)) (.som (.cmp .NotEq (.sl (.var 1) (.som (.lit (.int 1))) (.som (.lit (.int 3)))) (.tup .fz (.cons (.lit (.int a)) (.cons (.lit (.int b)) .nil))))) (.var 1)) [x0,some ⟨false,.fz,.lst (ms.map rD)⟩,x2,x3,x4,x5,x6]) fun x=>isBo x.1 = false/\Fi2 x.2:=by
  intro Γ a b x0 x2 x3 x4 x5 x6
  refine we_comp (wi_e (we_var rfl (wo_lst rfl ⟨by show (ms.map rD).length<=_; omega,(wmapF (P:=Fi1) fun y hy=>?_).mono fun ys hys=>⟨rfl,fi2_of rfl hys.2⟩⟩)))
  obtain ⟨r,hr,rfl⟩:=List.mem_map.mp hy
  refine w_eltF rfl rfl (its_e (wt_cmp (we_sl (we_var rfl (wo_som (we_lit ⟨_,rfl,wo_som (we_lit ⟨_,rfl,⟨(.sh,.tup [.int r.2.1,.int r.2.2.1]),rfl,we_tup (ws_cons (we_lit (ws_cons (we_lit (ws_nil ⟨(.sh,.tup [.int a,.int b]),rfl,wc_neD ⟨rfl,rfl⟩ trivial⟩)))))⟩⟩)⟩)))))) (we_var rfl ⟨rfl,hrow _ hy⟩)
 refine if_et (wt_cmp (we_var rfl (we_lit (wc_eq rfl)))) (fun e=>?_) fun e=>kt_go ?_
 ·exact w_ret (wm_p (flt.mono fun x hx=>⟨by rw [nb_im hx.1]; exact hx.1,kt_rt (om_rt (by rw [nb_im hx.1]; exact hx.1) (q _ _ d1 (by rw [nb_im hx.1]; exact hx.1) hx.2 (h1.up (by omega))))⟩))
 refine if_et (wt_cmp (we_var rfl (we_lit (wc_eq rfl)))) (fun e=>?_) fun e=>kt_go ?_
 ·exact w_ret (wm_p (flt.mono fun x hx=>⟨by rw [nb_im hx.1]; exact hx.1,kt_rt (om_rt (by rw [nb_im hx.1]; exact hx.1) (q _ _ d1 (by rw [nb_im hx.1]; exact hx.1) hx.2 (h1.up (by omega))))⟩))
 refine if_et (wt_cmp (we_var rfl (we_lit (wc_eq rfl)))) (fun e=>?_) fun e=>kt_go ?_
 ·refine w_asg (wm_p ⟨_,more_run _ _,⟨rfl,by decide⟩,?_⟩)
  show Wp (exB _ _ _ _ [some ⟨false,k0,d1⟩,some ⟨false,.fz,.lst (ms.map rD)⟩,some ⟨false,.fz,.int w⟩,none,some ⟨false,k0,.lst (moreL.map .str)⟩,none,none]) _
  refine w_asg (wm_p (we_comp (wi_e (we_var rfl (wo_lst rfl ⟨by decide,(wmapF (P:=Fi1) fun y hy=>?_).mono fun ys hys=>⟨⟨rfl,by decide⟩,?_⟩⟩)))))
  ·obtain ⟨x,hx,rfl⟩:=List.mem_map.mp hy
   have hok:=more_ok x hx
   refine w_eltF rfl rfl (its_e (wt_cmp (we_var rfl (we_comp (wi_e (we_var rfl (wo_lst rfl ⟨by show (ms.map rD).length<=_; omega,(wmapF (P:=fun y=>pok 90 y = true) fun z hz=>?_).mono fun zs hzs=>?_⟩))))))) ?_
   ·obtain ⟨r,hr,rfl⟩:=List.mem_map.mp hz
    obtain ⟨s,k,s0,hro⟩:=sh_row hs hr
    refine w_eltF (P:=fun y=>pok 90 y = true) rfl rfl ⟨true,rfl,trivial⟩ (we_ix (we_var rfl (we_lit ⟨(.sh,.str r.1),rfl,rfl,strOk_nm hro⟩)))
   ·exact ⟨_,if_pos ⟨hok.2,pokL_of hzs.2⟩,trivial⟩
   ·refine we_tup (ws_cons (we_var rfl (ws_cons (we_lit (ws_cons (we_lit (ws_cons (we_lit (ws_nil ⟨(.sh,.tup [.str x,.int 2,.int 14,.int 3]),rfl,rfl,fi1_row (r:=(x,2,14,3)) hok.1⟩)))))))))
  ·have hyl:ys.length<=21:=hys.1
   show Wp (exB _ _ _ _ [some ⟨false,k0,d1⟩,some ⟨false,.fz,.lst (ms.map rD)⟩,some ⟨false,.fz,.int w⟩,none,some ⟨false,k0,.lst (moreL.map .str)⟩,some ⟨false,k0,.lst ys⟩,none]) _
   refine w_ret (wm_slh (wl_cons (wm_p (we_bin (we_var rfl (we_var rfl (wb_cat ⟨rfl,rfl,by omega⟩ ⟨rfl,wl_fin (wm_bin (wl_cons (wm_p (we_lit ⟨rfl,wl_fin (draw (m:=2) rfl rfl (we_lit rfl) h1 (by omega) (by decide) (by decide) fun z d2 z0 z1 h2=>ws_nil ⟨_,_,rfl,wb_add (ws_nil ⟨_,_,rfl,⟨_,rfl,rfl,kt_rt (om_rt rfl (q _ _ d2 rfl (fi2_of rfl fun y hy=>?_) (h2.up (by omega))))⟩⟩)⟩)⟩))))⟩)))))))
   exact (List.mem_append.mp (mem_cut hy)).elim (hrow y) (hys.2 y)
 refine if_et (wt_cmp (we_var rfl (we_lit (wc_eq rfl)))) (fun e=>?_) fun e=>kt_go ?_
 ·exact w_ret (wm_p (we_sl (we_var rfl (wo_non (wo_som (we_lit ⟨_,rfl,⟨(.fr flatO,.lst (cutD (ms.map rD) none (some 1))),rfl,rfl,kt_rt (om_rt rfl (q _ _ d1 rfl (fi2_of rfl fun y hy=>hrow y (mem_cut hy)) (h1.up (by omega))))⟩⟩))))))
 refine if_et (wt_cmp (we_var rfl (we_lit (wc_eq rfl)))) (fun e=>?_) fun e=>kt_go ?_
 ·exact w_ret (wm_p (we_blt (ws_cons (we_var rfl (ws_nil (wl_tuple rfl ⟨rfl,kt_rt (om_rt rfl (q _ _ d1 rfl (fi2_of rfl hrow) (h1.up (by omega))))⟩))))))
 ·have fr:Fi2 (.lst (ms.map rD)):=fi2_sh hs
  have fa:∀ {dd:D},fine dd = true->(∀ hd xs,dd ≠ .nd hd xs)->Fi2 dd:=fun hf hn=>fi2_any hf hn
  have f0:Fi1 (.lst []):=fi1_of rfl fun x hx=>by cases hx
  refine w_asg (wm_p (lst_all (P:=Fi2) (m:=11) (es_cons (nbl (fa rfl fun hd xs e=>by cases e)) (es_cons (nbl (fa rfl fun hd xs e=>by cases e)) (es_cons (nbl (fa rfl fun hd xs e=>by cases e)) (es_cons (we_dnew0 ⟨rfl,fi2_of rfl fun x hx=>by cases hx⟩) (es_cons (lst_all (P:=Fi1) es_nil (by decide) fun ds _ hf=>⟨rfl,fi2_of rfl hf⟩) (es_cons (tup_all (P:=Fi1) es_nil (by decide) fun ds _ hf=>⟨rfl,fi2_of rfl hf⟩) (es_cons (lst_all (P:=Fi1) (es_cons (lst_all (P:=FineP) es_nil (by decide) fun ds _ hf=>⟨rfl,fi1_of rfl hf⟩) es_nil) (by decide) fun ds _ hf=>⟨rfl,fi2_of rfl hf⟩) (es_cons (lst_all (P:=Fi1) (es_cons (nbl ⟨rfl,fun hd xs e=>by cases e⟩) (es_cons (nbl ⟨rfl,fun hd xs e=>by cases e⟩) es_nil)) (by decide) fun ds _ hf=>⟨rfl,fi2_of rfl hf⟩) (es_cons ?_ (es_cons (nbl (fa rfl fun hd xs e=>by cases e)) (es_cons ?_ es_nil))))))))))) (by decide) fun ds hdl hdf=>⟨⟨rfl,by decide⟩,?_⟩))
  ·refine we_dsp (we_var rfl ⟨(.fr flatO,.nd (.dic 0 [Sum.inl (Sum.inr "a")]) [.lst (ms.map rD)]),rfl,rfl,fi2_of rfl fun x hx=>?_⟩)
   rw [List.mem_singleton] at hx
   subst hx
   exact fi1_of rfl fun y hy=>(hrow y hy).1
  ·refine we_fn (φ:=ψ25) rfl (ws_cons (we_lit (ws_nil (wf_fn ⟨_,nest_run,rfl,.inl rfl,rfl,fi2_of rfl fun x hx=>?_⟩))))
   simp only [List.mem_cons,List.not_mem_nil,or_false] at hx
   rcases hx with rfl | rfl
   ·refine fi1_of rfl fun y hy=>?_
    simp only [List.mem_cons,List.not_mem_nil,or_false] at hy
    rcases hy with rfl | rfl
    ·rfl
    ·rfl
   ·exact ⟨rfl,fun hd xs e=>by cases e⟩
  ·show Wp (exB _ _ _ _ [some ⟨false,k0,d1⟩,some ⟨false,.fz,.lst (ms.map rD)⟩,some ⟨false,.fz,.int w⟩,none,none,none,some ⟨false,k0,.lst ds⟩]) _
   exact w_ret (pick_slot (j:=5) (ds:=ds) rfl rfl rfl h1 (by omega) (by omega) (by omega) fun y d2 hy h2=>⟨rfl,om_rt rfl (q _ _ d2 rfl (hdf y hy) (h2.up (by omega)))⟩)
end K89
namespace K89
open PySem L2 J
theorem begun_ok {ns:List Int} (hl:ns.length<=63):ψ13 [.scr ns] = some (.fr k0,.lst [.int 0,.lst (ns.map .int),.int 0]):=by
 have hc:cutD (ns.map D.int) none (some 63) = ns.map D.int:=by
  have e1:HT.sIx (ns.map D.int).length (ns.map D.int).length (some 63) = (ns.map D.int).length:=by
   rw [List.length_map]
   unfold HT.sIx
   simp
   omega
  have e0:HT.sIx (ns.map D.int).length 0 none = 0:=rfl
  unfold cutD
  rw [e1,e0,List.drop_zero,Nat.sub_zero,List.take_length]
 refine wp_eq ?_
 unfold ψ13
 refine wd_I rfl ?_
 unfold b13
 walk_at "nm"
 refine w_ret (wm_p (we_lst (ws_cons (we_lit (ws_cons (we_blt (ws_cons (we_sl (we_var rfl (wo_non (wo_som (we_lit ⟨_,rfl,⟨(.fr flatO,.lst (cutD (ns.map D.int) none (some 63))),rfl,ws_nil (wl_list rfl ?_)⟩⟩))))))))))))
 rw [hc]
 exact ws_cons (we_lit (ws_nil ⟨(.fr k0,.lst [.int 0,.lst (ns.map .int),.int 0]),rfl,rfl,⟨_,rfl,rfl⟩⟩))
theorem Et.to {Γ:Nat->Option Fn} {e:IE} {ρ:Ro} {b c:Bool} (h:Et Γ e ρ b) (k:b = c):Et Γ e ρ c:=k ▸ h
theorem wc_isnB {b c:Bool} {T:Bool->Prop} (q:T (!(c == b))):Wp (cmpD .IsNot (.bl c) (.bl b)) T:=wp_some q
theorem law_wp {ns:List Int} (hl:ns.length<=63):Wp (ψ27 [.scr ns]) fun r=>r = (.sh,.bl true):=by
 unfold ψ27
 refine wd_I rfl ?_
 unfold b27
 walk_at "nm"
 refine w_asg (wm_p (we_fn (φ:=ψ13) rfl (ws_cons (we_var rfl (ws_nil (wf_fn ⟨_,begun_ok hl,rfl,.inl rfl,⟨rfl,by decide⟩,?_⟩))))))
 have hS:St (ns.map .int) 0 (.lst [.int 0,.lst (ns.map .int),.int 0]):=⟨0,0,rfl,by decide,by decide,by decide,by decide⟩
 show Wp (exB _ _ _ _ [some ⟨false,.fz,.scr ns⟩,some ⟨false,k0,.lst [.int 0,.lst (ns.map .int),.int 0]⟩,none,none,none,none,none]) _
 refine w_asg (wm_io (φ:=ψ19) rfl (wa_ref (i:=1) rfl (wa_val (wm_p (we_lit ⟨rfl,wa_nil ⟨by simp [refs],_,rfl,shelf_ok hS (by decide) fun d1 ms h1 hs=>⟨rfl,rfl,⟨rfl,by decide⟩,?_⟩⟩⟩)))))
 show Wp (exB _ _ _ _ [some ⟨false,.fz,.scr ns⟩,some ⟨false,k0,d1⟩,some ⟨false,k0,.lst (ms.map rD)⟩,none,none,none,none]) _
 have hsh:ψ9 [.lst (ms.map rD)] = some (.sh,.bl true):=by rw [shelf_eq (fi2_sh hs),sh_true hs]
 have hpk:=pok_sh hs
 with_reducible refine w_for ?_
 refine wmi_p (wi_rng (we_lit (we_lit (wo_rng rfl ?_))))
 refine ⟨fun i ρ=>∃ d' x3 x4 x5 x6,ρ = [some ⟨false,.fz,.scr ns⟩,some ⟨false,k0,d'⟩,some ⟨false,k0,.lst (ms.map rD)⟩,x3,x4,x5,x6]/\St (ns.map .int) (200 + 5 * i) d',⟨d1,none,none,none,none,rfl,h1⟩,fun i d ρ hd hI=>?_,fun ρ' hI=>?_⟩
 ·obtain ⟨d',x3,x4,x5,x6,rfl,h2⟩:=hI
  obtain ⟨rfl,hi⟩:=rngD_get hd
  refine ⟨[(3,.int (0 + i))],rfl,rfl,?_⟩
  show Wp (exB _ _ _ [] [some ⟨false,.fz,.scr ns⟩,some ⟨false,k0,d'⟩,some ⟨false,k0,.lst (ms.map rD)⟩,some ⟨false,.fz,.int (0 + i)⟩,none,none,none]) _
  refine w_asg (wm_p (we_blt (ws_cons (we_var rfl (ws_nil (wl_list rfl ⟨⟨rfl,by decide⟩,?_⟩))))))
  show Wp (exB _ _ _ [] [some ⟨false,.fz,.scr ns⟩,some ⟨false,k0,d'⟩,some ⟨false,k0,.lst (ms.map rD)⟩,some ⟨false,.fz,.int (0 + i)⟩,some ⟨false,k0,.lst (ms.map rD)⟩,none,none]) _
  refine if_et (.or (z:=false) (w:=false) (wt_cmp (we_fn (φ:=ψ9) rfl (ws_cons (we_var rfl (ws_nil (wf_fn ⟨_,hsh,rfl,.inr rfl,we_lit (wc_isnB rfl)⟩)))))) fun _=>.one (wt_cmp (we_var rfl (we_var rfl (wc_neD ⟨hpk,hpk⟩ ?_))))) (fun e=>by cases e) fun _=>kt_go ?_
  ·show (!eqD (.lst (ms.map rD)) (.lst (ms.map rD))) = false
   rw [eqD_refl hpk]
   rfl
  refine w_asg (wm_io (φ:=ψ26) rfl (wa_ref (i:=1) rfl (wa_val (wm_p (we_blt (ws_cons (we_var rfl (ws_nil (wl_list rfl ⟨rfl,wa_nil ⟨by simp [refs],_,rfl,odd_ok h2 (by omega) hs fun k x d3 hk hx h3=>⟨hk,rfl,⟨by rw [nb_im hk]; exact hk,by decide⟩,?_⟩⟩⟩)))))))))
  rw [nb_im (k:=k) hk]
  show Wp (exB _ _ _ [] [some ⟨false,.fz,.scr ns⟩,some ⟨false,k0,d3⟩,some ⟨false,k0,.lst (ms.map rD)⟩,some ⟨false,.fz,.int (0 + i)⟩,some ⟨false,k0,.lst (ms.map rD)⟩,some ⟨false,kOf k,x⟩,none]) _
  have v5:∀ {Γ:Nat->Option Fn} {y6:Option Sl},Wp (evI Γ (.var 5) [some ⟨false,.fz,.scr ns⟩,some ⟨false,k0,d3⟩,some ⟨false,k0,.lst (ms.map rD)⟩,some ⟨false,.fz,.int (0 + i)⟩,some ⟨false,k0,.lst (ms.map rD)⟩,some ⟨false,kOf k,x⟩,y6]) fun y=>y.2 = x:=we_var rfl rfl
  refine w_asg (wm_p (we_fn (φ:=ψ9) rfl ((args1 v5).mono fun kds hkds=>wf_fn ?_)))
  rw [hkds]
  refine ⟨_,shelf_eq hx,rfl,.inr rfl,⟨rfl,by decide⟩,?_⟩
  show Wp (exB _ _ _ [] [some ⟨false,.fz,.scr ns⟩,some ⟨false,k0,d3⟩,some ⟨false,k0,.lst (ms.map rD)⟩,some ⟨false,.fz,.int (0 + i)⟩,some ⟨false,k0,.lst (ms.map rD)⟩,some ⟨false,kOf k,x⟩,some ⟨false,.fz,.bl (shelfD x)⟩]) _
  have e23:∀ {Γ:Nat->Option Fn},Γ 23 = some ψ23->Ev Γ (.fn 23 (.cons (.var 5) .nil)) [some ⟨false,.fz,.scr ns⟩,some ⟨false,k0,d3⟩,some ⟨false,k0,.lst (ms.map rD)⟩,some ⟨false,.fz,.int (0 + i)⟩,some ⟨false,k0,.lst (ms.map rD)⟩,some ⟨false,kOf k,x⟩,some ⟨false,.fz,.bl (shelfD x)⟩] (shelfD x):=fun hΓ=>Ev.fn hΓ (args1 v5) (lshelf_eq hx)
  refine if_et (z:=false) ?_ (fun e=>by cases e) fun _=>kt_go ?_
  ·have v6:∀ {Γ:Nat->Option Fn} {b:Bool},Et Γ (.cmp .IsNot (.var 6) (.lit (.bl b))) [some ⟨false,.fz,.scr ns⟩,some ⟨false,k0,d3⟩,some ⟨false,k0,.lst (ms.map rD)⟩,some ⟨false,.fz,.int (0 + i)⟩,some ⟨false,k0,.lst (ms.map rD)⟩,some ⟨false,kOf k,x⟩,some ⟨false,.fz,.bl (shelfD x)⟩] (!(shelfD x == b)):=wt_cmp (we_var rfl (we_lit (wc_isnB rfl)))
   refine .or (z:=false) (w:=false) ((Et.and (.ev rfl (e23 rfl)) fun _=>.one v6).to (by cases shelfD x <;> rfl)) fun _=>.one ((Et.and (.not (.ev rfl (e23 rfl))) fun _=>.one v6).to (by cases shelfD x <;> rfl))
  exact w_nil ⟨_,.inl rfl,d3,_,_,_,_,rfl,h3.up (by omega)⟩
 ·obtain ⟨d',x3,x4,x5,x6,rfl,h2⟩:=hI
  show Wp (exB _ _ _ _ [some ⟨false,.fz,.scr ns⟩,some ⟨false,k0,d'⟩,some ⟨false,k0,.lst (ms.map rD)⟩,none,none,none,none]) _
  exact ret_ev (we_cmp (we_fn (φ:=ψ9) rfl (ws_cons (we_blt (ws_cons (we_var rfl (ws_nil (wl_list rfl (ws_nil (wf_fn ⟨_,hsh,rfl,.inl rfl,we_lit (wc_isB rfl)⟩)))))))))) rfl
theorem law_true (ns:List Int) (hl:ns.length<=63):ψ27 [.scr ns] = some (.sh,.bl true):=wp_eq (law_wp hl)
end K89
namespace K89
open PySem L2 J
noncomputable abbrev lawPos:Pos:=match s27 with | .FunctionDef _ _ _ _ _ _ _ _ _ p=>p | _=>⟨0,0,0,0⟩
noncomputable abbrev sv (x:String) (t:Tok):Value:=.str (Str.ofString x) t
noncomputable abbrev E (P:Params) (x:String) (t:Tok) (v:Value):DictEntry:=⟨PyData.keyHash P (Str.ofString x),.str (Str.ofString x) t,v⟩
noncomputable abbrev fO (x:String) (st:Stmt) (m:Value) (c:Addr):Obj:=⟨.type "function",none,.func (PySem.W.fnOf (Str.ofString x) (Str.ofString x) (defArgs st) (defBody st) (defScope st) .none .none .none m none (.ref c) .none),#[]⟩
noncomputable def KK (P:Params):PySem.W.Frag:=[(3,⟨(.type "dict"),none,(.dict #[E P "__name__" 165 (sv "law_gatepapers_k89_what_is_a_shelf" 306),E P "__doc__" 166 .none,E P "__package__" 167 .none,E P "__loader__" 168 (.builtin "__main__.__loader__#opaque"),E P "__spec__" 169 .none,E P "__annotations__" 170 (.ref 6),E P "__builtins__" 171 (.ref 4),E P "__file__" 173 (sv "/claim/cut.py" 172),E P "__cached__" 174 .none,E P "is_whole" 195 (.ref 21),E P "bits_of" 201 (.ref 26),E P "number_of" 211 (.ref 33),E P "MOST_PLACES" 215 (.int 3 214),E P "is_table" 223 (.ref 40),E P "told" 231 (.ref 47),E P "all_bits" 237 (.ref 52),E P "hangs" 246 (.ref 59),E P "fixed" 252 (.ref 64),E P "is_tuple" 262 (.ref 71),E P "NOT" 264 (.int 1 263),E P "BOTH" 266 (.int 8 265),E P "LETTERS" 268 (sv "abcdefghijklmnopqrstuvwxyz" 267),E P "MOST_LETTERS" 270 (.int 8 269),E P "FEWEST_ON_SHELF" 274 (.int 2 273),E P "MOST_ON_SHELF" 276 (.int 20 275),E P "MOST_COST" 278 (.int 1000 277),E P "is_shelf" 284 (.ref 76),E P "is_shelf_gate" 290 (.ref 81),E P "is_gate_name" 296 (.ref 86),E P "is_from" 305 (.ref 93),E P "_law_begun" 314 (.ref 100),E P "_law_load" 325 (.ref 107),E P "_law_next" 334 (.ref 114),E P "_law_size" 343 (.ref 121),E P "_law_name" 356 (.ref 128),E P "_law_hangs" 366 (.ref 135),E P "_law_shelf" 372 (.ref 140),E P "_law_whole" 380 (.ref 147),E P "_law_named" 386 (.ref 152),E P "_law_is_row" 392 (.ref 157),E P "_law_is_shelf" 398 (.ref 162),E P "_law_part" 416 (.ref 169),E P "_law_nested" 425 (.ref 176),E P "_law_odd" 431 (.ref 181),E P "law" 444 (.ref 188)] 45),#[]⟩),
 (21,fO "is_whole" s0 (sv "gatepapers.bits" 187) 20),
 (20,⟨(.type "code"),none,(.fields #[(sv "is_whole" 189),(sv "is_whole" 190),(sv "/claim/cut.py" 191),(.int 2 0),(.int 1 0),(.int 0 0),(.int 0 0),(.int 3 0),(.ref 15),(.bool true),(.int 181 0),(.ref 16),.none,(.ref 17),(.ref 18),(.ref 19),(.int 193 0),(.int 2 0),(sv "/claim/cut.py" 194)]),#[]⟩),
 (26,fO "bits_of" s1 (sv "gatepapers.bits" 187) 25),
 (25,⟨(.type "code"),none,(.fields #[(sv "bits_of" 196),(sv "bits_of" 197),(sv "/claim/cut.py" 198),(.int 4 0),(.int 2 0),(.int 0 0),(.int 0 0),(.int 3 0),(.ref 22),(.bool true),(.int 181 0),(.ref 23),.none,.none,.none,(.ref 24),(.int 199 0),(.int 4 0),(sv "/claim/cut.py" 200)]),#[]⟩),
 (33,fO "number_of" s2 (sv "gatepapers.bits" 187) 32),
 (32,⟨(.type "code"),none,(.fields #[(sv "number_of" 202),(sv "number_of" 203),(sv "/claim/cut.py" 204),(.int 6 0),(.int 1 0),(.int 0 0),(.int 0 0),(.int 3 0),(.ref 27),(.bool true),(.int 181 0),(.ref 28),.none,(.ref 29),(.ref 30),(.ref 31),(.int 209 0),(.int 6 0),(sv "/claim/cut.py" 210)]),#[]⟩),
 (40,fO "is_table" s3 (sv "gatepapers.tables" 212) 39),
 (39,⟨(.type "code"),none,(.fields #[(sv "is_table" 216),(sv "is_table" 217),(sv "/claim/cut.py" 218),(.int 13 0),(.int 2 0),(.int 0 0),(.int 0 0),(.int 3 0),(.ref 34),(.bool true),(.int 181 0),(.ref 35),.none,(.ref 36),(.ref 37),(.ref 38),(.int 221 0),(.int 13 0),(sv "/claim/cut.py" 222)]),#[]⟩),
 (47,fO "told" s4 (sv "gatepapers.tables" 212) 46),
 (46,⟨(.type "code"),none,(.fields #[(sv "told" 224),(sv "told" 225),(sv "/claim/cut.py" 226),(.int 19 0),(.int 2 0),(.int 0 0),(.int 0 0),(.int 3 0),(.ref 41),(.bool true),(.int 181 0),(.ref 42),.none,(.ref 43),(.ref 44),(.ref 45),(.int 229 0),(.int 19 0),(sv "/claim/cut.py" 230)]),#[]⟩),
 (52,fO "all_bits" s5 (sv "gatepapers.tables" 212) 51),
 (51,⟨(.type "code"),none,(.fields #[(sv "all_bits" 232),(sv "all_bits" 233),(sv "/claim/cut.py" 234),(.int 21 0),(.int 1 0),(.int 0 0),(.int 0 0),(.int 3 0),(.ref 48),(.bool true),(.int 181 0),(.ref 49),.none,.none,.none,(.ref 50),(.int 235 0),(.int 21 0),(sv "/claim/cut.py" 236)]),#[]⟩),
 (59,fO "hangs" s6 (sv "gatepapers.tables" 212) 58),
 (58,⟨(.type "code"),none,(.fields #[(sv "hangs" 238),(sv "hangs" 239),(sv "/claim/cut.py" 240),(.int 23 0),(.int 3 0),(.int 0 0),(.int 0 0),(.int 3 0),(.ref 53),(.bool true),(.int 181 0),(.ref 54),.none,(.ref 55),(.ref 56),(.ref 57),(.int 244 0),(.int 23 0),(sv "/claim/cut.py" 245)]),#[]⟩),
 (64,fO "fixed" s7 (sv "gatepapers.tables" 212) 63),
 (63,⟨(.type "code"),none,(.fields #[(sv "fixed" 247),(sv "fixed" 248),(sv "/claim/cut.py" 249),(.int 25 0),(.int 4 0),(.int 0 0),(.int 0 0),(.int 3 0),(.ref 60),(.bool true),(.int 181 0),(.ref 61),.none,.none,.none,(.ref 62),(.int 250 0),(.int 25 0),(sv "/claim/cut.py" 251)]),#[]⟩),
 (71,fO "is_tuple" s8 (sv "gatepapers.circuits" 253) 70),
 (70,⟨(.type "code"),none,(.fields #[(sv "is_tuple" 255),(sv "is_tuple" 256),(sv "/claim/cut.py" 257),(.int 28 0),(.int 2 0),(.int 0 0),(.int 0 0),(.int 3 0),(.ref 65),(.bool true),(.int 181 0),(.ref 66),.none,(.ref 67),(.ref 68),(.ref 69),(.int 260 0),(.int 28 0),(sv "/claim/cut.py" 261)]),#[]⟩),
 (76,fO "is_shelf" s9 (sv "gatepapers.lay" 271) 75),
 (75,⟨(.type "code"),none,(.fields #[(sv "is_shelf" 279),(sv "is_shelf" 280),(sv "/claim/cut.py" 281),(.int 38 0),(.int 1 0),(.int 0 0),(.int 0 0),(.int 3 0),(.ref 72),(.bool true),(.int 181 0),(.ref 73),.none,.none,.none,(.ref 74),(.int 282 0),(.int 38 0),(sv "/claim/cut.py" 283)]),#[]⟩),
 (81,fO "is_shelf_gate" s10 (sv "gatepapers.lay" 271) 80),
 (80,⟨(.type "code"),none,(.fields #[(sv "is_shelf_gate" 285),(sv "is_shelf_gate" 286),(sv "/claim/cut.py" 287),(.int 46 0),(.int 1 0),(.int 0 0),(.int 0 0),(.int 3 0),(.ref 77),(.bool true),(.int 181 0),(.ref 78),.none,.none,.none,(.ref 79),(.int 288 0),(.int 46 0),(sv "/claim/cut.py" 289)]),#[]⟩),
 (86,fO "is_gate_name" s11 (sv "gatepapers.lay" 271) 85),
 (85,⟨(.type "code"),none,(.fields #[(sv "is_gate_name" 291),(sv "is_gate_name" 292),(sv "/claim/cut.py" 293),(.int 53 0),(.int 1 0),(.int 0 0),(.int 0 0),(.int 3 0),(.ref 82),(.bool true),(.int 181 0),(.ref 83),.none,.none,.none,(.ref 84),(.int 294 0),(.int 53 0),(sv "/claim/cut.py" 295)]),#[]⟩),
 (93,fO "is_from" s12 (sv "gatepapers.lay" 271) 92),
 (92,⟨(.type "code"),none,(.fields #[(sv "is_from" 297),(sv "is_from" 298),(sv "/claim/cut.py" 299),(.int 57 0),(.int 3 0),(.int 0 0),(.int 0 0),(.int 3 0),(.ref 87),(.bool true),(.int 181 0),(.ref 88),.none,(.ref 89),(.ref 90),(.ref 91),(.int 303 0),(.int 57 0),(sv "/claim/cut.py" 304)]),#[]⟩),
 (100,fO "_law_begun" s13 (sv "law_gatepapers_k89_what_is_a_shelf" 306) 99),
 (99,⟨(.type "code"),none,(.fields #[(sv "_law_begun" 308),(sv "_law_begun" 309),(sv "/claim/cut.py" 310),(.int 60 0),(.int 1 0),(.int 0 0),(.int 0 0),(.int 3 0),(.ref 94),(.bool true),(.int 181 0),(.ref 95),.none,(.ref 96),(.ref 97),(.ref 98),(.int 312 0),(.int 60 0),(sv "/claim/cut.py" 313)]),#[]⟩),
 (107,fO "_law_load" s14 (sv "law_gatepapers_k89_what_is_a_shelf" 306) 106),
 (106,⟨(.type "code"),none,(.fields #[(sv "_law_load" 315),(sv "_law_load" 316),(sv "/claim/cut.py" 317),(.int 62 0),(.int 1 0),(.int 0 0),(.int 0 0),(.int 3 0),(.ref 101),(.bool true),(.int 181 0),(.ref 102),.none,(.ref 103),(.ref 104),(.ref 105),(.int 323 0),(.int 62 0),(sv "/claim/cut.py" 324)]),#[]⟩),
 (114,fO "_law_next" s15 (sv "law_gatepapers_k89_what_is_a_shelf" 306) 113),
 (113,⟨(.type "code"),none,(.fields #[(sv "_law_next" 326),(sv "_law_next" 327),(sv "/claim/cut.py" 328),(.int 75 0),(.int 2 0),(.int 0 0),(.int 0 0),(.int 3 0),(.ref 108),(.bool true),(.int 181 0),(.ref 109),.none,(.ref 110),(.ref 111),(.ref 112),(.int 332 0),(.int 75 0),(sv "/claim/cut.py" 333)]),#[]⟩),
 (121,fO "_law_size" s16 (sv "law_gatepapers_k89_what_is_a_shelf" 306) 120),
 (120,⟨(.type "code"),none,(.fields #[(sv "_law_size" 335),(sv "_law_size" 336),(sv "/claim/cut.py" 337),(.int 81 0),(.int 3 0),(.int 0 0),(.int 0 0),(.int 3 0),(.ref 115),(.bool true),(.int 181 0),(.ref 116),.none,(.ref 117),(.ref 118),(.ref 119),(.int 341 0),(.int 81 0),(sv "/claim/cut.py" 342)]),#[]⟩),
 (128,fO "_law_name" s17 (sv "law_gatepapers_k89_what_is_a_shelf" 306) 127),
 (127,⟨(.type "code"),none,(.fields #[(sv "_law_name" 344),(sv "_law_name" 345),(sv "/claim/cut.py" 346),(.int 85 0),(.int 2 0),(.int 0 0),(.int 0 0),(.int 3 0),(.ref 122),(.bool true),(.int 181 0),(.ref 123),.none,(.ref 124),(.ref 125),(.ref 126),(.int 354 0),(.int 85 0),(sv "/claim/cut.py" 355)]),#[]⟩),
 (135,fO "_law_hangs" s18 (sv "law_gatepapers_k89_what_is_a_shelf" 306) 134),
 (134,⟨(.type "code"),none,(.fields #[(sv "_law_hangs" 357),(sv "_law_hangs" 358),(sv "/claim/cut.py" 359),(.int 94 0),(.int 3 0),(.int 0 0),(.int 0 0),(.int 3 0),(.ref 129),(.bool true),(.int 181 0),(.ref 130),.none,(.ref 131),(.ref 132),(.ref 133),(.int 364 0),(.int 94 0),(sv "/claim/cut.py" 365)]),#[]⟩),
 (140,fO "_law_shelf" s19 (sv "law_gatepapers_k89_what_is_a_shelf" 306) 139),
 (139,⟨(.type "code"),none,(.fields #[(sv "_law_shelf" 367),(sv "_law_shelf" 368),(sv "/claim/cut.py" 369),(.int 99 0),(.int 2 0),(.int 0 0),(.int 0 0),(.int 3 0),(.ref 136),(.bool true),(.int 181 0),(.ref 137),.none,.none,.none,(.ref 138),(.int 370 0),(.int 99 0),(sv "/claim/cut.py" 371)]),#[]⟩),
 (147,fO "_law_whole" s20 (sv "law_gatepapers_k89_what_is_a_shelf" 306) 146),
 (146,⟨(.type "code"),none,(.fields #[(sv "_law_whole" 373),(sv "_law_whole" 374),(sv "/claim/cut.py" 375),(.int 116 0),(.int 2 0),(.int 0 0),(.int 0 0),(.int 3 0),(.ref 141),(.bool true),(.int 181 0),(.ref 142),.none,(.ref 143),(.ref 144),(.ref 145),(.int 378 0),(.int 116 0),(sv "/claim/cut.py" 379)]),#[]⟩),
 (152,fO "_law_named" s21 (sv "law_gatepapers_k89_what_is_a_shelf" 306) 151),
 (151,⟨(.type "code"),none,(.fields #[(sv "_law_named" 381),(sv "_law_named" 382),(sv "/claim/cut.py" 383),(.int 118 0),(.int 1 0),(.int 0 0),(.int 0 0),(.int 3 0),(.ref 148),(.bool true),(.int 181 0),(.ref 149),.none,.none,.none,(.ref 150),(.int 384 0),(.int 118 0),(sv "/claim/cut.py" 385)]),#[]⟩),
 (157,fO "_law_is_row" s22 (sv "law_gatepapers_k89_what_is_a_shelf" 306) 156),
 (156,⟨(.type "code"),none,(.fields #[(sv "_law_is_row" 387),(sv "_law_is_row" 388),(sv "/claim/cut.py" 389),(.int 122 0),(.int 1 0),(.int 0 0),(.int 0 0),(.int 3 0),(.ref 153),(.bool true),(.int 181 0),(.ref 154),.none,.none,.none,(.ref 155),(.int 390 0),(.int 122 0),(sv "/claim/cut.py" 391)]),#[]⟩),
 (162,fO "_law_is_shelf" s23 (sv "law_gatepapers_k89_what_is_a_shelf" 306) 161),
 (161,⟨(.type "code"),none,(.fields #[(sv "_law_is_shelf" 393),(sv "_law_is_shelf" 394),(sv "/claim/cut.py" 395),(.int 130 0),(.int 1 0),(.int 0 0),(.int 0 0),(.int 3 0),(.ref 158),(.bool true),(.int 181 0),(.ref 159),.none,.none,.none,(.ref 160),(.int 396 0),(.int 130 0),(sv "/claim/cut.py" 397)]),#[]⟩),
 (169,fO "_law_part" s24 (sv "law_gatepapers_k89_what_is_a_shelf" 306) 168),
 (168,⟨(.type "code"),none,(.fields #[(sv "_law_part" 399),(sv "_law_part" 400),(sv "/claim/cut.py" 401),(.int 137 0),(.int 3 0),(.int 0 0),(.int 0 0),(.int 3 0),(.ref 163),(.bool true),(.int 181 0),(.ref 164),.none,(.ref 165),(.ref 166),(.ref 167),(.int 414 0),(.int 137 0),(sv "/claim/cut.py" 415)]),#[]⟩),
 (176,fO "_law_nested" s25 (sv "law_gatepapers_k89_what_is_a_shelf" 306) 175),
 (175,⟨(.type "code"),none,(.fields #[(sv "_law_nested" 417),(sv "_law_nested" 418),(sv "/claim/cut.py" 419),(.int 154 0),(.int 1 0),(.int 0 0),(.int 0 0),(.int 3 0),(.ref 170),(.bool true),(.int 181 0),(.ref 171),.none,(.ref 172),(.ref 173),(.ref 174),(.int 423 0),(.int 154 0),(sv "/claim/cut.py" 424)]),#[]⟩),
 (181,fO "_law_odd" s26 (sv "law_gatepapers_k89_what_is_a_shelf" 306) 180),
 (180,⟨(.type "code"),none,(.fields #[(sv "_law_odd" 426),(sv "_law_odd" 427),(sv "/claim/cut.py" 428),(.int 159 0),(.int 2 0),(.int 0 0),(.int 0 0),(.int 3 0),(.ref 177),(.bool true),(.int 181 0),(.ref 178),.none,.none,.none,(.ref 179),(.int 429 0),(.int 159 0),(sv "/claim/cut.py" 430)]),#[]⟩),
 (188,fO "law" s27 (sv "law_gatepapers_k89_what_is_a_shelf" 306) 187),
 (187,⟨(.type "code"),none,(.fields #[(sv "law" 432),(sv "law" 433),(sv "/claim/cut.py" 434),(.int 178 0),(.int 1 0),(.int 0 0),(.int 0 0),(.int 3 0),(.ref 182),(.bool true),(.int 181 0),(.ref 183),.none,(.ref 184),(.ref 185),(.ref 186),(.int 442 0),(.int 178 0),(sv "/claim/cut.py" 443)]),#[]⟩)]
noncomputable def HH:PySem.W.Hook:=PySem.W.kHook KK [3,21,20,26,25,33,32,40,39,47,46,52,51,59,58,64,63,71,70,76,75,81,80,86,85,93,92,100,99,107,106,114,113,121,120,128,127,135,134,140,139,147,146,152,151,157,156,162,161,169,168,176,175,181,180,188,187] (fun _=>rfl)
noncomputable abbrev pg:Program:=PySem.Challenge.pw_gatepapers_k89_what_is_a_shelf
noncomputable def qv:Program:=PySem.W.view pg [40]
noncomputable def lo:List Str:=(["__name__","is_whole","bits_of","number_of","MOST_PLACES","is_table","told","all_bits","hangs","fixed","is_tuple","NOT","BOTH","LETTERS","MOST_LETTERS","FEWEST_ON_SHELF","MOST_ON_SHELF","MOST_COST","is_shelf","is_shelf_gate","is_gate_name","is_from","_law_begun","_law_load","_law_next","_law_size","_law_name","_law_hangs","_law_shelf","_law_whole","_law_named","_law_is_row","_law_is_shelf","_law_part","_law_nested","_law_odd"]:List String).map Str.ofString
theorem left:PySem.W.LeftO (PySem.Challenge.rw_gatepapers_k89_what_is_a_shelf).row.toRowW.prog qv lo (fun s=>PySem.W.xlAt qv [] s && PySem.W.recOk (PySem.W.RowW.records (PySem.Challenge.rw_gatepapers_k89_what_is_a_shelf).row.toRowW) s) (PySem.W.Hook.obs HH) (PySem.W.Hook.val HH) 20000:=fun w=>by kernel_rfl
theorem all_mk {l:PySem.W.OpenLaw} {w:World} {P:Params} {h:Heap} {mg:Str->Option Value} {fa:Addr} (X:(KK P).In h) (G:h.Ns mainGlobals mg) (hfa:mg "law" = some (.ref fa))
  : ∃ fd:FuncData,(∀ (s:Shared) (v:Value),BindsTo s fd ⟨[v],[]⟩ [("_law_script",v)])/\∀ base:Heap,(KK P).In base->base.Ns mainGlobals mg->FnOk l.prog w (KK P) mg base CX0 28 fa fd ["_law_script"] (spF (KK P) ψ27):=by
 have e:=hfa.symm.trans ((PySem.W.mg_of X G (show PySem.W.nsIn (KK P) mainGlobals "law" = some (some (.ref 188)) by kernel_rfl)))
 cases e
 have F0:=fun_mk (K:=KK P) (x:="is_whole") (qual:="is_whole") (st:=s0) (f:=21) (show (KK P).lookup 21 = some (fO "is_whole" s0 (sv "gatepapers.bits" 187) 20) by kernel_rfl) (by kernel_rfl) (by kernel_rfl)
 have B0:=F0.binds (ps:=["thing"]) fun _ _ _ _ _ _=>us1 (fun _=>rfl)
 have F1:=fun_mk (K:=KK P) (x:="bits_of") (qual:="bits_of") (st:=s1) (f:=26) (show (KK P).lookup 26 = some (fO "bits_of" s1 (sv "gatepapers.bits" 187) 25) by kernel_rfl) (by kernel_rfl) (by kernel_rfl)
 have B1:=F1.binds (ps:=["number","width"]) fun _ _ _ _ _ _=>us2 (fun _ _=>rfl)
 have F2:=fun_mk (K:=KK P) (x:="number_of") (qual:="number_of") (st:=s2) (f:=33) (show (KK P).lookup 33 = some (fO "number_of" s2 (sv "gatepapers.bits" 187) 32) by kernel_rfl) (by kernel_rfl) (by kernel_rfl)
 have B2:=F2.binds (ps:=["bits"]) fun _ _ _ _ _ _=>us1 (fun _=>rfl)
 have F3:=fun_mk (K:=KK P) (x:="is_table") (qual:="is_table") (st:=s3) (f:=40) (show (KK P).lookup 40 = some (fO "is_table" s3 (sv "gatepapers.tables" 212) 39) by kernel_rfl) (by kernel_rfl) (by kernel_rfl)
 have B3:=F3.binds (ps:=["thing","many"]) fun _ _ _ _ _ _=>us2 (fun _ _=>rfl)
 have F4:=fun_mk (K:=KK P) (x:="told") (qual:="told") (st:=s4) (f:=47) (show (KK P).lookup 47 = some (fO "told" s4 (sv "gatepapers.tables" 212) 46) by kernel_rfl) (by kernel_rfl) (by kernel_rfl)
 have B4:=F4.binds (ps:=["table","bits"]) fun _ _ _ _ _ _=>us2 (fun _ _=>rfl)
 have F5:=fun_mk (K:=KK P) (x:="all_bits") (qual:="all_bits") (st:=s5) (f:=52) (show (KK P).lookup 52 = some (fO "all_bits" s5 (sv "gatepapers.tables" 212) 51) by kernel_rfl) (by kernel_rfl) (by kernel_rfl)
 have B5:=F5.binds (ps:=["many"]) fun _ _ _ _ _ _=>us1 (fun _=>rfl)
 have F6:=fun_mk (K:=KK P) (x:="hangs") (qual:="hangs") (st:=s6) (f:=59) (show (KK P).lookup 59 = some (fO "hangs" s6 (sv "gatepapers.tables" 212) 58) by kernel_rfl) (by kernel_rfl) (by kernel_rfl)
 have B6:=F6.binds (ps:=["table","many","k"]) fun _ _ _ _ _ _=>us3 (fun _ _ _=>rfl)
 have F7:=fun_mk (K:=KK P) (x:="fixed") (qual:="fixed") (st:=s7) (f:=64) (show (KK P).lookup 64 = some (fO "fixed" s7 (sv "gatepapers.tables" 212) 63) by kernel_rfl) (by kernel_rfl) (by kernel_rfl)
 have B7:=F7.binds (ps:=["table","many","k","bit"]) fun _ _ _ _ _ _=>us4 (fun _ _ _ _=>rfl)
 have F8:=fun_mk (K:=KK P) (x:="is_tuple") (qual:="is_tuple") (st:=s8) (f:=71) (show (KK P).lookup 71 = some (fO "is_tuple" s8 (sv "gatepapers.circuits" 253) 70) by kernel_rfl) (by kernel_rfl) (by kernel_rfl)
 have B8:=F8.binds (ps:=["thing","many"]) fun _ _ _ _ _ _=>us2 (fun _ _=>rfl)
 have F9:=fun_mk (K:=KK P) (x:="is_shelf") (qual:="is_shelf") (st:=s9) (f:=76) (show (KK P).lookup 76 = some (fO "is_shelf" s9 (sv "gatepapers.lay" 271) 75) by kernel_rfl) (by kernel_rfl) (by kernel_rfl)
 have B9:=F9.binds (ps:=["thing"]) fun _ _ _ _ _ _=>us1 (fun _=>rfl)
 have F10:=fun_mk (K:=KK P) (x:="is_shelf_gate") (qual:="is_shelf_gate") (st:=s10) (f:=81) (show (KK P).lookup 81 = some (fO "is_shelf_gate" s10 (sv "gatepapers.lay" 271) 80) by kernel_rfl) (by kernel_rfl) (by kernel_rfl)
 have B10:=F10.binds (ps:=["thing"]) fun _ _ _ _ _ _=>us1 (fun _=>rfl)
 have F11:=fun_mk (K:=KK P) (x:="is_gate_name") (qual:="is_gate_name") (st:=s11) (f:=86) (show (KK P).lookup 86 = some (fO "is_gate_name" s11 (sv "gatepapers.lay" 271) 85) by kernel_rfl) (by kernel_rfl) (by kernel_rfl)
 have B11:=F11.binds (ps:=["thing"]) fun _ _ _ _ _ _=>us1 (fun _=>rfl)
 have F12:=fun_mk (K:=KK P) (x:="is_from") (qual:="is_from") (st:=s12) (f:=93) (show (KK P).lookup 93 = some (fO "is_from" s12 (sv "gatepapers.lay" 271) 92) by kernel_rfl) (by kernel_rfl) (by kernel_rfl)
 have B12:=F12.binds (ps:=["thing","least","most"]) fun _ _ _ _ _ _=>us3 (fun _ _ _=>rfl)
 have F13:=fun_mk (K:=KK P) (x:="_law_begun") (qual:="_law_begun") (st:=s13) (f:=100) (show (KK P).lookup 100 = some (fO "_law_begun" s13 (sv "law_gatepapers_k89_what_is_a_shelf" 306) 99) by kernel_rfl) (by kernel_rfl) (by kernel_rfl)
 have B13:=F13.binds (ps:=["_law_script"]) fun _ _ _ _ _ _=>us1 (fun _=>rfl)
 have F14:=fun_mk (K:=KK P) (x:="_law_load") (qual:="_law_load") (st:=s14) (f:=107) (show (KK P).lookup 107 = some (fO "_law_load" s14 (sv "law_gatepapers_k89_what_is_a_shelf" 306) 106) by kernel_rfl) (by kernel_rfl) (by kernel_rfl)
 have B14:=F14.binds (ps:=["_law_state"]) fun _ _ _ _ _ _=>us1 (fun _=>rfl)
 have F15:=fun_mk (K:=KK P) (x:="_law_next") (qual:="_law_next") (st:=s15) (f:=114) (show (KK P).lookup 114 = some (fO "_law_next" s15 (sv "law_gatepapers_k89_what_is_a_shelf" 306) 113) by kernel_rfl) (by kernel_rfl) (by kernel_rfl)
 have B15:=F15.binds (ps:=["_law_state","_law_many"]) fun _ _ _ _ _ _=>us2 (fun _ _=>rfl)
 have F16:=fun_mk (K:=KK P) (x:="_law_size") (qual:="_law_size") (st:=s16) (f:=121) (show (KK P).lookup 121 = some (fO "_law_size" s16 (sv "law_gatepapers_k89_what_is_a_shelf" 306) 120) by kernel_rfl) (by kernel_rfl) (by kernel_rfl)
 have B16:=F16.binds (ps:=["_law_state","_law_few","_law_most"]) fun _ _ _ _ _ _=>us3 (fun _ _ _=>rfl)
 have F17:=fun_mk (K:=KK P) (x:="_law_name") (qual:="_law_name") (st:=s17) (f:=128) (show (KK P).lookup 128 = some (fO "_law_name" s17 (sv "law_gatepapers_k89_what_is_a_shelf" 306) 127) by kernel_rfl) (by kernel_rfl) (by kernel_rfl)
 have B17:=F17.binds (ps:=["_law_seed","_law_k"]) fun _ _ _ _ _ _=>us2 (fun _ _=>rfl)
 have F18:=fun_mk (K:=KK P) (x:="_law_hangs") (qual:="_law_hangs") (st:=s18) (f:=135) (show (KK P).lookup 135 = some (fO "_law_hangs" s18 (sv "law_gatepapers_k89_what_is_a_shelf" 306) 134) by kernel_rfl) (by kernel_rfl) (by kernel_rfl)
 have B18:=F18.binds (ps:=["_law_table","_law_many","_law_k"]) fun _ _ _ _ _ _=>us3 (fun _ _ _=>rfl)
 have F19:=fun_mk (K:=KK P) (x:="_law_shelf") (qual:="_law_shelf") (st:=s19) (f:=140) (show (KK P).lookup 140 = some (fO "_law_shelf" s19 (sv "law_gatepapers_k89_what_is_a_shelf" 306) 139) by kernel_rfl) (by kernel_rfl) (by kernel_rfl)
 have B19:=F19.binds (ps:=["_law_state","_law_most"]) fun _ _ _ _ _ _=>us2 (fun _ _=>rfl)
 have F20:=fun_mk (K:=KK P) (x:="_law_whole") (qual:="_law_whole") (st:=s20) (f:=147) (show (KK P).lookup 147 = some (fO "_law_whole" s20 (sv "law_gatepapers_k89_what_is_a_shelf" 306) 146) by kernel_rfl) (by kernel_rfl) (by kernel_rfl)
 have B20:=F20.binds (ps:=["_law_thing","_law_most"]) fun _ _ _ _ _ _=>us2 (fun _ _=>rfl)
 have F21:=fun_mk (K:=KK P) (x:="_law_named") (qual:="_law_named") (st:=s21) (f:=152) (show (KK P).lookup 152 = some (fO "_law_named" s21 (sv "law_gatepapers_k89_what_is_a_shelf" 306) 151) by kernel_rfl) (by kernel_rfl) (by kernel_rfl)
 have B21:=F21.binds (ps:=["_law_thing"]) fun _ _ _ _ _ _=>us1 (fun _=>rfl)
 have F22:=fun_mk (K:=KK P) (x:="_law_is_row") (qual:="_law_is_row") (st:=s22) (f:=157) (show (KK P).lookup 157 = some (fO "_law_is_row" s22 (sv "law_gatepapers_k89_what_is_a_shelf" 306) 156) by kernel_rfl) (by kernel_rfl) (by kernel_rfl)
 have B22:=F22.binds (ps:=["_law_row"]) fun _ _ _ _ _ _=>us1 (fun _=>rfl)
 have F23:=fun_mk (K:=KK P) (x:="_law_is_shelf") (qual:="_law_is_shelf") (st:=s23) (f:=162) (show (KK P).lookup 162 = some (fO "_law_is_shelf" s23 (sv "law_gatepapers_k89_what_is_a_shelf" 306) 161) by kernel_rfl) (by kernel_rfl) (by kernel_rfl)
 have B23:=F23.binds (ps:=["_law_thing"]) fun _ _ _ _ _ _=>us1 (fun _=>rfl)
 have F24:=fun_mk (K:=KK P) (x:="_law_part") (qual:="_law_part") (st:=s24) (f:=169) (show (KK P).lookup 169 = some (fO "_law_part" s24 (sv "law_gatepapers_k89_what_is_a_shelf" 306) 168) by kernel_rfl) (by kernel_rfl) (by kernel_rfl)
 have B24:=F24.binds (ps:=["_law_state","_law_rows","_law_at"]) fun _ _ _ _ _ _=>us3 (fun _ _ _=>rfl)
 have F25:=fun_mk (K:=KK P) (x:="_law_nested") (qual:="_law_nested") (st:=s25) (f:=176) (show (KK P).lookup 176 = some (fO "_law_nested" s25 (sv "law_gatepapers_k89_what_is_a_shelf" 306) 175) by kernel_rfl) (by kernel_rfl) (by kernel_rfl)
 have B25:=F25.binds (ps:=["_law_deep"]) fun _ _ _ _ _ _=>us1 (fun _=>rfl)
 have F26:=fun_mk (K:=KK P) (x:="_law_odd") (qual:="_law_odd") (st:=s26) (f:=181) (show (KK P).lookup 181 = some (fO "_law_odd" s26 (sv "law_gatepapers_k89_what_is_a_shelf" 306) 180) by kernel_rfl) (by kernel_rfl) (by kernel_rfl)
 have B26:=F26.binds (ps:=["_law_state","_law_rows"]) fun _ _ _ _ _ _=>us2 (fun _ _=>rfl)
 have F27:=fun_mk (K:=KK P) (x:="law") (qual:="law") (st:=s27) (f:=188) (show (KK P).lookup 188 = some (fO "law" s27 (sv "law_gatepapers_k89_what_is_a_shelf" 306) 187) by kernel_rfl) (by kernel_rfl) (by kernel_rfl)
 have B27:=F27.binds (ps:=["_law_script"]) fun _ _ _ _ _ _=>us1 (fun _=>rfl)
 refine ⟨PySem.W.fnOf "law" "law" (defArgs s27) (defBody s27) (defScope s27) .none .none .none (sv "law_gatepapers_k89_what_is_a_shelf" 306) none (.ref 187) .none,fun s v=>.of_eq rfl,fun base _ _=>?_⟩
 have T0:TabF l.prog w (KK P) mg base (tabG fns Γ0) 0:=⟨fun x φ hx=>by (have hx:(ixOf x fns.fns).bind Γ0.fn = some φ:=hx; cases q:ixOf x fns.fns <;> rw [q] at hx <;> cases hx),fun x φ hx=>by (have hx:(ixOf x fns.fns).bind (fun i=>(Γ0.fm i).map fun φ=>fun K=>spM K φ) = some φ:=hx; cases q:ixOf x fns.fns <;> rw [q] at hx <;> cases hx),(fun x hx=>by
  simp only [bltNames,List.mem_cons,List.not_mem_nil,or_false] at hx
  rcases hx with rfl | rfl | rfl | rfl | rfl | rfl | rfl | rfl | rfl | rfl | rfl | rfl | rfl | rfl | rfl | rfl | rfl | rfl | rfl | rfl | rfl
  ·exact (PySem.W.mg_none_of X G (show PySem.W.nsIn (KK P) mainGlobals "len" = some none by kernel_rfl))
  ·exact (PySem.W.mg_none_of X G (show PySem.W.nsIn (KK P) mainGlobals "isinstance" = some none by kernel_rfl))
  ·exact (PySem.W.mg_none_of X G (show PySem.W.nsIn (KK P) mainGlobals "int" = some none by kernel_rfl))
  ·exact (PySem.W.mg_none_of X G (show PySem.W.nsIn (KK P) mainGlobals "bool" = some none by kernel_rfl))
  ·exact (PySem.W.mg_none_of X G (show PySem.W.nsIn (KK P) mainGlobals "list" = some none by kernel_rfl))
  ·exact (PySem.W.mg_none_of X G (show PySem.W.nsIn (KK P) mainGlobals "all" = some none by kernel_rfl))
  ·exact (PySem.W.mg_none_of X G (show PySem.W.nsIn (KK P) mainGlobals "range" = some none by kernel_rfl))
  ·exact (PySem.W.mg_none_of X G (show PySem.W.nsIn (KK P) mainGlobals "enumerate" = some none by kernel_rfl))
  ·exact (PySem.W.mg_none_of X G (show PySem.W.nsIn (KK P) mainGlobals "str" = some none by kernel_rfl))
  ·exact (PySem.W.mg_none_of X G (show PySem.W.nsIn (KK P) mainGlobals "sum" = some none by kernel_rfl))
  ·exact (PySem.W.mg_none_of X G (show PySem.W.nsIn (KK P) mainGlobals "min" = some none by kernel_rfl))
  ·exact (PySem.W.mg_none_of X G (show PySem.W.nsIn (KK P) mainGlobals "max" = some none by kernel_rfl))
  ·exact (PySem.W.mg_none_of X G (show PySem.W.nsIn (KK P) mainGlobals "abs" = some none by kernel_rfl))
  ·exact (PySem.W.mg_none_of X G (show PySem.W.nsIn (KK P) mainGlobals "tuple" = some none by kernel_rfl))
  ·exact (PySem.W.mg_none_of X G (show PySem.W.nsIn (KK P) mainGlobals "zip" = some none by kernel_rfl))
  ·exact (PySem.W.mg_none_of X G (show PySem.W.nsIn (KK P) mainGlobals "dict" = some none by kernel_rfl))
  ·exact (PySem.W.mg_none_of X G (show PySem.W.nsIn (KK P) mainGlobals "sorted" = some none by kernel_rfl))
  ·exact (PySem.W.mg_none_of X G (show PySem.W.nsIn (KK P) mainGlobals "reversed" = some none by kernel_rfl))
  ·exact (PySem.W.mg_none_of X G (show PySem.W.nsIn (KK P) mainGlobals "any" = some none by kernel_rfl))
  ·exact (PySem.W.mg_none_of X G (show PySem.W.nsIn (KK P) mainGlobals "set" = some none by kernel_rfl))
  ·exact (PySem.W.mg_none_of X G (show PySem.W.nsIn (KK P) mainGlobals "repr" = some none by kernel_rfl))),fun x d hx=>by
  have hx:List.lookup x fns.cs = some d:=hx
  simp only [fns,List.lookup] at hx
  split at hx
  ·rename_i e; have e:=eq_of_beq e; subst e; cases hx; exact ⟨_,.int 3,(PySem.W.mg_of X G (show PySem.W.nsIn (KK P) mainGlobals "MOST_PLACES" = some (some (.int 3 214)) by kernel_rfl)),⟨_,rfl⟩,fun H S=>(by unfold Rp; rfl),by decide⟩
  ·split at hx
   ·rename_i e; have e:=eq_of_beq e; subst e; cases hx; exact ⟨_,.int 1,(PySem.W.mg_of X G (show PySem.W.nsIn (KK P) mainGlobals "NOT" = some (some (.int 1 263)) by kernel_rfl)),⟨_,rfl⟩,fun H S=>(by unfold Rp; rfl),by decide⟩
   ·split at hx
    ·rename_i e; have e:=eq_of_beq e; subst e; cases hx; exact ⟨_,.int 8,(PySem.W.mg_of X G (show PySem.W.nsIn (KK P) mainGlobals "BOTH" = some (some (.int 8 265)) by kernel_rfl)),⟨_,rfl⟩,fun H S=>(by unfold Rp; rfl),by decide⟩
    ·split at hx
     ·rename_i e; have e:=eq_of_beq e; subst e; cases hx; exact ⟨_,.str "abcdefghijklmnopqrstuvwxyz",(PySem.W.mg_of X G (show PySem.W.nsIn (KK P) mainGlobals "LETTERS" = some (some (sv "abcdefghijklmnopqrstuvwxyz" 267)) by kernel_rfl)),⟨_,rfl⟩,fun H S=>(by unfold Rp; rfl),by decide⟩
     ·split at hx
      ·rename_i e; have e:=eq_of_beq e; subst e; cases hx; exact ⟨_,.int 8,(PySem.W.mg_of X G (show PySem.W.nsIn (KK P) mainGlobals "MOST_LETTERS" = some (some (.int 8 269)) by kernel_rfl)),⟨_,rfl⟩,fun H S=>(by unfold Rp; rfl),by decide⟩
      ·split at hx
       ·rename_i e; have e:=eq_of_beq e; subst e; cases hx; exact ⟨_,.int 2,(PySem.W.mg_of X G (show PySem.W.nsIn (KK P) mainGlobals "FEWEST_ON_SHELF" = some (some (.int 2 273)) by kernel_rfl)),⟨_,rfl⟩,fun H S=>(by unfold Rp; rfl),by decide⟩
       ·split at hx
        ·rename_i e; have e:=eq_of_beq e; subst e; cases hx; exact ⟨_,.int 20,(PySem.W.mg_of X G (show PySem.W.nsIn (KK P) mainGlobals "MOST_ON_SHELF" = some (some (.int 20 275)) by kernel_rfl)),⟨_,rfl⟩,fun H S=>(by unfold Rp; rfl),by decide⟩
        ·split at hx
         ·rename_i e; have e:=eq_of_beq e; subst e; cases hx; exact ⟨_,.int 1000,(PySem.W.mg_of X G (show PySem.W.nsIn (KK P) mainGlobals "MOST_COST" = some (some (.int 1000 277)) by kernel_rfl)),⟨_,rfl⟩,fun H S=>(by unfold Rp; rfl),by decide⟩
         ·cases hx⟩
 have T1:=T0.addI (i:=0) (ψ:=ψ0) F0 sc0 ((PySem.W.mg_of X G (show PySem.W.nsIn (KK P) mainGlobals "is_whole" = some (some (.ref 21)) by kernel_rfl))) B0 rfl rfl cr0 h0
 have T2:=T1.addI (i:=1) (ψ:=ψ1) F1 sc1 ((PySem.W.mg_of X G (show PySem.W.nsIn (KK P) mainGlobals "bits_of" = some (some (.ref 26)) by kernel_rfl))) B1 rfl rfl cr1 h1
 have T3:=T2.addI (i:=2) (ψ:=ψ2) F2 sc2 ((PySem.W.mg_of X G (show PySem.W.nsIn (KK P) mainGlobals "number_of" = some (some (.ref 33)) by kernel_rfl))) B2 rfl rfl cr2 h2
 have T4:=T3.addI (i:=3) (ψ:=ψ3) F3 sc3 ((PySem.W.mg_of X G (show PySem.W.nsIn (KK P) mainGlobals "is_table" = some (some (.ref 40)) by kernel_rfl))) B3 rfl rfl cr3 h3
 have T5:=T4.addI (i:=4) (ψ:=ψ4) F4 sc4 ((PySem.W.mg_of X G (show PySem.W.nsIn (KK P) mainGlobals "told" = some (some (.ref 47)) by kernel_rfl))) B4 rfl rfl cr4 h4
 have T6:=T5.addI (i:=5) (ψ:=ψ5) F5 sc5 ((PySem.W.mg_of X G (show PySem.W.nsIn (KK P) mainGlobals "all_bits" = some (some (.ref 52)) by kernel_rfl))) B5 rfl rfl cr5 h5
 have T7:=T6.addI (i:=7) (ψ:=ψ7) F7 sc7 ((PySem.W.mg_of X G (show PySem.W.nsIn (KK P) mainGlobals "fixed" = some (some (.ref 64)) by kernel_rfl))) B7 rfl rfl cr7 h7
 have T8:=T7.addI (i:=6) (ψ:=ψ6) F6 sc6 ((PySem.W.mg_of X G (show PySem.W.nsIn (KK P) mainGlobals "hangs" = some (some (.ref 59)) by kernel_rfl))) B6 rfl rfl cr6 h6
 have T9:=T8.addI (i:=8) (ψ:=ψ8) F8 sc8 ((PySem.W.mg_of X G (show PySem.W.nsIn (KK P) mainGlobals "is_tuple" = some (some (.ref 71)) by kernel_rfl))) B8 rfl rfl cr8 h8
 have T10:=T9.addI (i:=11) (ψ:=ψ11) F11 sc11 ((PySem.W.mg_of X G (show PySem.W.nsIn (KK P) mainGlobals "is_gate_name" = some (some (.ref 86)) by kernel_rfl))) B11 rfl rfl cr11 h11
 have T11:=T10.addI (i:=12) (ψ:=ψ12) F12 sc12 ((PySem.W.mg_of X G (show PySem.W.nsIn (KK P) mainGlobals "is_from" = some (some (.ref 93)) by kernel_rfl))) B12 rfl rfl cr12 h12
 have T12:=T11.addI (i:=10) (ψ:=ψ10) F10 sc10 ((PySem.W.mg_of X G (show PySem.W.nsIn (KK P) mainGlobals "is_shelf_gate" = some (some (.ref 81)) by kernel_rfl))) B10 rfl rfl cr10 h10
 have T13:=T12.addI (i:=9) (ψ:=ψ9) F9 sc9 ((PySem.W.mg_of X G (show PySem.W.nsIn (KK P) mainGlobals "is_shelf" = some (some (.ref 76)) by kernel_rfl))) B9 rfl rfl cr9 h9
 have T14:=T13.addI (i:=13) (ψ:=ψ13) F13 sc13 ((PySem.W.mg_of X G (show PySem.W.nsIn (KK P) mainGlobals "_law_begun" = some (some (.ref 100)) by kernel_rfl))) B13 rfl rfl cr13 h13
 have T15:=T14.addM (i:=14) (ψ:=ψ14) (pn:=[0]) F14 sc14 ((PySem.W.mg_of X G (show PySem.W.nsIn (KK P) mainGlobals "_law_load" = some (some (.ref 107)) by kernel_rfl))) B14 rfl rfl cr14 h14
 have T16:=T15.addM (i:=15) (ψ:=ψ15) (pn:=[0]) F15 sc15 ((PySem.W.mg_of X G (show PySem.W.nsIn (KK P) mainGlobals "_law_next" = some (some (.ref 114)) by kernel_rfl))) B15 rfl rfl cr15 h15
 have T17:=T16.addM (i:=16) (ψ:=ψ16) (pn:=[0]) F16 sc16 ((PySem.W.mg_of X G (show PySem.W.nsIn (KK P) mainGlobals "_law_size" = some (some (.ref 121)) by kernel_rfl))) B16 rfl rfl cr16 h16
 have T18:=T17.addI (i:=17) (ψ:=ψ17) F17 sc17 ((PySem.W.mg_of X G (show PySem.W.nsIn (KK P) mainGlobals "_law_name" = some (some (.ref 128)) by kernel_rfl))) B17 rfl rfl cr17 h17
 have T19:=T18.addI (i:=18) (ψ:=ψ18) F18 sc18 ((PySem.W.mg_of X G (show PySem.W.nsIn (KK P) mainGlobals "_law_hangs" = some (some (.ref 135)) by kernel_rfl))) B18 rfl rfl cr18 h18
 have T20:=T19.addM (i:=19) (ψ:=ψ19) (pn:=[0]) F19 sc19 ((PySem.W.mg_of X G (show PySem.W.nsIn (KK P) mainGlobals "_law_shelf" = some (some (.ref 140)) by kernel_rfl))) B19 rfl rfl cr19 h19
 have T21:=T20.addI (i:=20) (ψ:=ψ20) F20 sc20 ((PySem.W.mg_of X G (show PySem.W.nsIn (KK P) mainGlobals "_law_whole" = some (some (.ref 147)) by kernel_rfl))) B20 rfl rfl cr20 h20
 have T22:=T21.addI (i:=21) (ψ:=ψ21) F21 sc21 ((PySem.W.mg_of X G (show PySem.W.nsIn (KK P) mainGlobals "_law_named" = some (some (.ref 152)) by kernel_rfl))) B21 rfl rfl cr21 h21
 have T23:=T22.addI (i:=22) (ψ:=ψ22) F22 sc22 ((PySem.W.mg_of X G (show PySem.W.nsIn (KK P) mainGlobals "_law_is_row" = some (some (.ref 157)) by kernel_rfl))) B22 rfl rfl cr22 h22
 have T24:=T23.addI (i:=23) (ψ:=ψ23) F23 sc23 ((PySem.W.mg_of X G (show PySem.W.nsIn (KK P) mainGlobals "_law_is_shelf" = some (some (.ref 162)) by kernel_rfl))) B23 rfl rfl cr23 h23
 have T25:=T24.addM (i:=24) (ψ:=ψ24) (pn:=[0]) F24 sc24 ((PySem.W.mg_of X G (show PySem.W.nsIn (KK P) mainGlobals "_law_part" = some (some (.ref 169)) by kernel_rfl))) B24 rfl rfl cr24 h24
 have T26:=T25.addI (i:=25) (ψ:=ψ25) F25 sc25 ((PySem.W.mg_of X G (show PySem.W.nsIn (KK P) mainGlobals "_law_nested" = some (some (.ref 176)) by kernel_rfl))) B25 rfl rfl cr25 h25
 have T27:=T26.addM (i:=26) (ψ:=ψ26) (pn:=[0]) F26 sc26 ((PySem.W.mg_of X G (show PySem.W.nsIn (KK P) mainGlobals "_law_odd" = some (some (.ref 181)) by kernel_rfl))) B26 rfl rfl cr26 h26
 exact (def_okI (n:=60) (an:=an) F27 sc27 T27 cr27).imp fun vs H Q E s=>spF_le h27 s
theorem walk {l:PySem.W.OpenLaw} {q:Program} {loose:List Str} {XP:(Str->Option Value)->Heap->Prop} {YP:World->Heap->Prop} {d:DefRec} {K:Params->PySem.W.Frag} (hn:l.most = some 63) (hdf:d.params.defaults = [])
  (hY:∀ (w:World) (h:Heap),YP w h->(K w.params).In h)
  (F:∀ (w:World) (mg:Str->Option Value) (fa:Addr) (h:Heap),(K w.params).In h->h.Ns mainGlobals mg->mg d.name = some (.ref fa)->
   ∃ fd:FuncData,(∀ (s:Shared) (u:Value),BindsTo s fd ⟨[u],[]⟩ [("_law_script",u)])/\∀ base:Heap,(K w.params).In base->base.Ns mainGlobals mg->FnOk l.prog w (K w.params) mg base CX0 28 fa fd ["_law_script"] (spF (K w.params) ψ27)) :
  PySem.W.WalkO q loose XP YP l.row.toRowW d [] (fun f vs=>PySem.call f vs):=
 L2.walk_of (n:=63) (k:=28) (x:="_law_script") (CX:=fun _=>CX0) (sp:=fun w=>spF (K w.params) ψ27) hn (by decide) hdf ⟨rfl,by decide,by decide,rfl⟩ hY F (fun _ _ a ns hl _ hS=>law_sp hS (law_true ns hl)) fun _ _ _ _ _ z=>z
end K89
open PySem PySem.W PyProof.Rows
set_option maxRecDepth 100000 in
set_option maxHeartbeats 0 in
theorem PySem.Challenge.cw_gatepapers_k89_what_is_a_shelf_holds : PySem.Challenge.rw_gatepapers_k89_what_is_a_shelf.Holds := by
 refine holds_law (by kernel_rfl) fun said=>?_
 refine holds_open (d:=⟨"law",L2.defArgs K89.s27,L2.defBody K89.s27,L2.defScope K89.s27,K89.lawPos⟩) (kwd:=[]) (q:=K89.qv) (loose:=K89.lo) (XP:=XL K89.qv []) (YP:=Hook.says K89.HH) K89.left (Hook.of K89.HH) (Hook.keeps K89.HH) (fun s e=>xl_of s (Bool.and_eq_true_iff.mp e).1) XL.keeps (by kernel_rfl) (by kernel_rfl) (by kernel_rfl) (fun s e=>recFacts_of (Bool.and_eq_true_iff.mp e).2) (by kernel_rfl) said (by kernel_rfl) ⟨rfl,rfl,rfl,rfl,rfl,by kernel_rfl⟩ ?hw ?hc
 case hw=>w_witness2
 case hc=>
  refine K89.walk (l:=PySem.Challenge.rw_gatepapers_k89_what_is_a_shelf) rfl rfl (fun w h Y=>PySem.W.kIn_of Y) ?F
  intro w mg fa h KX G hmg
  exact K89.all_mk KX G hmg
end
